import PyProof.Rows.All
import Wide.All
import OpenK.AllK
import Wide.FinOn
import Lean
import PyProof.EqAt
import PyProof.EqKinds
import PyProof.TupleCall
import PyProof.NeKinds
import PyProof.StrBlockI
import PyProof.WalksEnum
import PyProof.EnumMake
import PyProof.ZipIter
import PyProof.Rows.SortStr
import PyProof.Rows.SetFrom
import PyProof.CollectWalk
import PyProof.SetRoads
import PyProof.DictWalks
import PyProof.SumWalk
import PyProof.Rows.SumGenD
import PyProof.DictItems
import KE.KRevIter
import PyProof.Rows.FStrParts
import PyProof.StationsW
import PyProof.ReprRoads
import PyProof.ReprLen
import PyProof.ReprStr
import PyProof.StrLawsRepr
import PyProof.FString
import KE.KIsAll
import KE.KEqDict
import PyProof.AutoSeq1
import PyProof.StrCalls
import PySem.Challenge.RW_hushwise_k25_choices
set_option Elab.async false
set_option linter.all false
set_option bootstrap.genMatcherCode false
set_option genSizeOf false
set_option compiler.extract_closed false
set_option maxRecDepth 100000
set_option maxHeartbeats 8000000
noncomputable section
abbrev FG:=PySem.W.Frag
section
open PySem PySem.Spec PyProof.Rows
abbrev aab:=@Option.bind_some
abbrev aac:=@List.mem_cons_self
abbrev aad:=@Heap.get?_push_of_some
abbrev aae:=@List.length_cons
abbrev aaf:=@Nat.le_refl
abbrev aag:=@List.length_map
abbrev aah:=@List.length_append
abbrev aai:=@List.append_assoc
abbrev aaj:=@List.mem_cons
abbrev aak:=@List.mem_cons_of_mem
abbrev aap:=@List.getElem?_eq_some_iff
abbrev aaq:=@List.sublist_cons_self
abbrev aar:=@Heap.lt_size
abbrev aas:=@List.getElem?_set_self
abbrev aat:=@List.size_toArray
abbrev aau:=@List.append_nil
abbrev aav:=@List.getElem?_append_right
abbrev aaw:=@List.getElem?_set_ne
abbrev aax:=@List.map_cons
abbrev aay:=@Heap.get?_push_size
abbrev aaz:=@Nat.lt_of_lt_of_le
abbrev aaA:=@Option.some.inj
abbrev aaB:=@List.getElem?_eq_getElem
abbrev aaC:=@List.mem_append
abbrev aaD:=@List.mem_append_right
abbrev aaE:=@PySem.F.plainAttrs_list
abbrev aaF:=@List.length_nil
abbrev aaG:=@List.map_append
abbrev aaH:=@List.mem_map
abbrev aaI:=@List.getElem?_append_left
abbrev aaJ:=@List.getElem?_map
abbrev aaK:=@List.length_set
abbrev aaL:=@Nat.ne_of_lt
abbrev aaM:=@Nat.lt_succ_self
abbrev aaN:=@PySem.F.slot_list_append
abbrev aaO:=@PySem.F.type_list_append
abbrev aaP:=@List.nodup_cons
abbrev aaQ:=@List.mem_append_left
abbrev aaR:=@Nat.le_trans
abbrev aaS:=@Bool.false_ne_true
abbrev aaT:=@Int.emod_lt_of_pos
abbrev aaU:=@List.map_congr_left
abbrev aaV:=@List.filterMap_cons_none
abbrev aaW:=@List.lookup_cons
abbrev aaX:=@List.map_map
abbrev aaY:=@Int.emod_nonneg
abbrev aaZ:=@List.perm_middle
abbrev aa0:=@List.mem_of_getElem?
abbrev aa1:=@List.mem_filterMap
abbrev aa2:=@Nat.zero_le
abbrev aa3:=@List.mem_singleton
abbrev aa4:=@List.not_mem_nil
abbrev aa5:=@List.sublist_append_left
abbrev aa6:=@Nat.ne_of_gt
abbrev aa7:=@PassesOwn.never
abbrev aa8:=@List.zip_cons_cons
abbrev aa9:=@Nat.sub_self
abbrev aba:=@List.set_set
abbrev abb:=@Nat.lt_irrefl
abbrev abd:=@List.prefix_refl
abbrev abe:=@List.cons_append
abbrev abf:=@PySem.boot_len
abbrev abg:=@List.nil_append
abbrev abh:=@List.of_mem_zip
abbrev abi:=@List.foldl_cons
abbrev abj:=@Option.map_some
abbrev abk:=@List.zip_append
abbrev abl:=@List.perm_append_comm
abbrev abm:=@F.slot_tuple_iterator_next
abbrev abn:=@Nat.le_of_succ_le
abbrev abo:=@Nat.lt_succ_of_lt
abbrev abp:=@List.sublist_append_right
abbrev abq:=@Heap.size_push
abbrev abr:=@PySem.mem_of_lookup
abbrev abt:=@Heap.SameBut.update
abbrev abu:=@Nat.lt_of_le_of_lt
abbrev abv:=@List.find?_cons
abbrev abw:=@List.Sublist.refl
abbrev abx:=@List.map_nil
abbrev aby:=@Nat.succ.inj
abbrev abz:=@Bool.and_eq_true
abbrev abA:=@List.getD_eq_getElem?_getD
abbrev abB:=@Nat.le_succ
abbrev abC:=@Array.length_toList
abbrev abD:=@List.length_reverse
abbrev abE:=@List.drop_eq_getElem_cons
abbrev abF:=@Nat.le_of_lt
abbrev abG:=@Option.isSome_iff_exists
abbrev abH:=@List.nodup_nil
abbrev abI:=@List.nodup_append
abbrev abJ:=@Heap.get?_update_other
abbrev abK:=@Array.getElem?_eq_none
abbrev abL:=@List.find?_cons_of_pos
abbrev abM:=@List.find?_cons_of_neg
abbrev abN:=@Nat.le_of_not_lt
abbrev abO:=@Nat.le_add_right
abbrev abP:=@Heap.get?_update_self
abbrev abQ:=@List.getElem?_eq_none
abbrev abR:=@F.slot_zip_next
abbrev abS:=@List.eq_nil_of_length_eq_zero
abbrev abT:=@List.filterMap_cons
abbrev abU:=@F.args_tuple_iterator_next_1
abbrev abV:=@F.entry_tuple_iterator_next
abbrev abW:=@W.kia_one
abbrev abX:=@Bool.false_eq_true
abbrev abY:=@List.prefix_append
abbrev abZ:=@W.kia_tup
abbrev ab0:=@List.any_cons
abbrev ab1:=@Nat.add_assoc
abbrev ab2:=@Int.toNat_natCast
abbrev ab3:=@W.cellsFrom_some
abbrev ab4:=@List.length_take
abbrev ab5:=@Option.getD_some
abbrev ab6:=@List.zipIdx_cons
abbrev ab7:=@W.methodCall_KW
abbrev ab8:=@List.forIn_cons
abbrev ab9:=@wpAny_bind
abbrev aca:=@if_pos
abbrev acb:=@if_neg
abbrev acd:=@wpAny_pure
abbrev ace:=@decide_eq_false
abbrev acf:=@decide_eq_true
abbrev acg:=@beq_eq_false_iff_ne
abbrev ach:=@beq_self_eq_true
end
namespace L2
open PySem PySem.Spec PyProof.Rows
variable {pins:List (Addr×Obj)} {E:Value->Shared->Prop} {s:Shared} {A:Around} {w:World} {P:Program}
abbrev Key:=Sum Int Str
def sH:Key->Value->Bool
 | .inl k,v=>Value.isInt k v
 | .inr x,v=>Value.isStrOf x v
def Vz (w:World):Key->Int
 | .inl k=>hashInt k
 | .inr x=>hashStr w x
theorem dF:∀{k:Key} {v:Value},sH k v=true->(∃i t,k=Sum.inl i/\v=Value.int i t)\/(∃x t,k=Sum.inr x/\v=Value.str x t)
 | .inl i,v,h=>by obtain⟨t,e⟩:=Value.isInt_shape (k:=i) (v:=v) h;exact .inl ⟨i,t,rfl,e⟩
 | .inr x,v,h=>by obtain⟨t,e⟩:=Value.isStrOf_shape (x:=x) (v:=v) h;exact .inr ⟨x,t,rfl,e⟩
theorem Ma (i:Int) (t:Tok):sH (.inl i) (.int i t)=true:=by simp[sH,Value.isInt]
theorem Mf (x:Str) (t:Tok):sH (.inr x) (.str x t)=true:=by simp[sH,Value.isStrOf]
theorem VB (a b:Int):decide ((Sum.inl a:Key)=Sum.inl b)=(a==b):=by
 by_cases e:a=b
 . subst e; simp
 . have h:¬ (Sum.inl a:Key)=Sum.inl b:=λq=>e (Sum.inl.inj q);rw[ace h];exact(acg.mpr e).symm
theorem VD (a b:Str):decide ((Sum.inr a:Key)=Sum.inr b)=decide (a=b):=by
 by_cases e:a=b
 . subst e; simp
 . have h:¬ (Sum.inr a:Key)=Sum.inr b:=λq=>e (Sum.inr.inj q);rw[ace h,ace e]
theorem VF (a:Int) (b:Str):decide ((Sum.inl a:Key)=Sum.inr b)=false:=ace (λq=>nomatch q)
theorem VG (a:Str) (b:Int):decide ((Sum.inr a:Key)=Sum.inl b)=false:=ace (λq=>nomatch q)
def dg (prog:Program) (w:World):PySem.KeyKind prog w Key where
 is:=sH
 hash:=Vz w
 inj:=λv a b ha hb=>by
  rcases dF ha with ⟨i,t,rfl,rfl⟩ | ⟨x,t,rfl,rfl⟩
  . rcases dF hb with ⟨j,u,rfl,e⟩ | ⟨y,u,rfl,e⟩
    . injection e with e1 _; rw[e1]
    . exact nomatch e
  . rcases dF hb with ⟨j,u,rfl,e⟩ | ⟨y,u,rfl,e⟩
    . exact nomatch e
    . injection e with e1 _; rw[e1]
 byValue:=λk v h=>by rcases dF h with ⟨i,t,rfl,rfl⟩ | ⟨x,t,rfl,rfl⟩<;>rfl
 pyHash:=λhv h=>by
  rcases dF hv with ⟨i,t,rfl,rfl⟩ | ⟨x,t,rfl,rfl⟩
  . exact wpAny_pyHash_int h
  . exact wpAny_pyHash_str h
 eqBool:=λhu hv h=>by
  rcases dF hu with ⟨i,t,rfl,rfl⟩ | ⟨x,t,rfl,rfl⟩
  . rcases dF hv with ⟨j,u,rfl,rfl⟩ | ⟨y,u,rfl,rfl⟩
    . rw[VB]at h; exact wpAny_eqBool_int h
    . rw[VF]at h; exact SeqAt.EqAt.int_str i t y u _ _ _ _ h
  . rcases dF hv with ⟨j,u,rfl,rfl⟩ | ⟨y,u,rfl,rfl⟩
    . rw[VG]at h; exact SeqAt.EqAt.str_int x t j u _ _ _ _ h
    . rw[VD]at h; exact wpAny_eqBool_str h
 «strs»:=λk x t v h=>by
  rcases dF h with ⟨i,u,rfl,e⟩ | ⟨y,u,rfl,e⟩
  . exact nomatch e
  . injection e with e1 _;subst e1;cases v<;>rfl
theorem Io (prog:Program) (w:World) (i:Int) (t:Tok):(dg prog w).is (.inl i) (.int i t)=true:=Ma i t
theorem Ip (prog:Program) (w:World) (x:Str) (t:Tok):(dg prog w).is (.inr x) (.str x t)=true:=Mf x t
inductive V where
 | non | bl (b:Bool) | int (i:Int) | str (x:Str) | byt (b:Array UInt8) | flt (b:UInt64) | ref (a:Addr) | ty (n:String)
 deriving DecidableEq
def RelV:V->Value->Prop
 | .non,u=>u=Value.none
 | .bl b,u=>u=Value.bool b
 | .int i,u=>∃t,u=Value.int i t
 | .str x,u=>∃t,u=Value.str x t
 | .byt b,u=>∃t,u=Value.bytes b t
 | .flt b,u=>∃t,u=Value.float b t
 | .ref a,u=>u=Value.ref a
 | .ty n,u=>u=Value.type n
abbrev Vals:List V->List Value->Prop:=Paired RelV
theorem Vals.length {xs:List V} {us:List Value} (r:Vals xs us):xs.length=us.length:=Paired.length r
theorem Vals.get:∀{xs:List V} {us:List Value} {i:Nat} {x:V},Vals xs us->xs[i]?=some x->∃u,us[i]?=some u/\RelV x u
 | _,_,_,_,.nil,e=>by simp at e
 | _,_,0,_,.cons r _,e=>by simp at e; subst e; exact⟨_,rfl,r⟩
 | _,_,i+1,x,.cons _ t,e=>by obtain⟨u,h1,h2⟩:=Vals.get (i:=i) (x:=x) t (by simpa using e);exact⟨u,by simpa using h1,h2⟩
theorem Vals.append:∀{xs ys:List V} {us ws:List Value},Vals xs us->Vals ys ws->Vals (xs++ys) (us++ws)
 | _,_,_,_,.nil,s=>s
 | _,_,_,_,.cons r t,s=>.cons r (Vals.append t s)
theorem Vals.take:∀{xs:List V} {us:List Value} (n:Nat),Vals xs us->Vals (xs.take n) (us.take n)
 | _,_,0,_=>.nil
 | _,_,_+1,.nil=>.nil
 | _,_,n+1,.cons r t=>.cons r (Vals.take n t)
theorem Vals.drop:∀{xs:List V} {us:List Value} (n:Nat),Vals xs us->Vals (xs.drop n) (us.drop n)
 | _,_,0,r=>r
 | _,_,_+1,.nil=>.nil
 | _,_,n+1,.cons _ t=>Vals.drop n t
def lM:Option V->Option Value->Prop
 | some v,some u=>RelV v u
 | none,none=>True
 | _,_=>False
def KV {κ:Type}:List (κ×V)->List (κ×Value)->Prop:=Paired λ(p:κ×V) (q:κ×Value)=>p.1=q.1/\RelV p.2 q.2
def kV:Key->V
 | .inl i=>.int i
 | .inr x=>.str x
inductive HO where
 | lst (xs:List V)
 | tup (xs:List V)
 | dK (kvs:List (Key×V)) | dT (kvs:List (List Key×V))
 | set (S:Int->Bool) (n:Nat)
 | ins (C dx:Addr) (fs:List (Str×V))
 | own (x:Addr)
 | xd (fs:List (Str×V))
 | met (f x:Addr)
 | rng (lo hi:Int)
 | frz (o:Obj) (u:HO)
 | tbl (ps:Array Value)
 | ext (φ:Heap->Prop)
abbrev Hp:=Addr->Option HO
def upd (H:Hp) (a:Addr) (o:HO):Hp:=λb=>if b=a then some o else H b
theorem bN {H:Hp} {a:Addr} {o:HO}:upd H a o a=some o:=by unfold upd; rw[aca rfl]
theorem cu {H:Hp} {a b:Addr} {o:HO} (h:b≠a):upd H a o b=H b:=by unfold upd; rw[acb h]
theorem Yo {H:Hp} {a b:Addr} {o u:HO} (h:H a=some o) (h':H b=some u) (d:o≠u):a≠b:=by intro e; subst e; rw[h]at h'; exact d (aaA h')
theorem dI {H:Hp} {a b:Addr} {o:HO} (h:H a=some o) (h':H b=none):a≠b:=by intro e; subst e; rw[h]at h'; cases h'
section
variable (P:Program) (w:World)
def fY (H:Hp) (h:Heap) (a:Addr):HO->Prop
 | .lst xs=>xs.length<=sizeLine/\∃(its:List Value) (n:Nat),Vals xs its/\h.get? a=some { cls:=.type "list",data:=.seq its.toArray n }
 | .tup xs=>xs.length<=sizeLine/\∃its:List Value,Vals xs its/\IsTup h a its.toArray
 | .dK kvs=>kvs.length<=sizeLine/\(a==sysModules)=false/\∃vs,KV kvs vs/\h.DictOf (dg P w) a vs
 | .dT kvs=>kvs.length<=sizeLine/\(a==sysModules)=false/\∃xs:List (List Key×Addr×Value),
  Paired (λ(p:List Key×V) (q:List Key×Addr×Value)=>p.1=q.1/\H q.2.1=some (.tup (p.1.map kV))/\RelV p.2 q.2.2) kvs xs/\
  ∃o es ep,h.get? a=some o/\o.ExactDict/\o.data=.dict es ep/\es.toList=xs.map (entryOfKey (tupleKind (dg P w)))/\(xs.map (·.1)).Nodup
 | .set S n=>h.SetOf (intKind P w) a S n
 | .ins C dx fs=>H dx=some (.own a)/\fs.length<=1000/\dx≠a/\h.get? a=some (W.instObj C dx)/\
  ∃mA,h.Ns1 dx mA/\(∀f,lM (fs.lookup f) (mA f))/\PySem.Within mA (fs.map (·.1))
 | .own _=>∃o,h.get? a=some o
 | .xd fs=>∃mA,h.Ns1 a mA/\∀f,lM (fs.lookup f) (mA f)
 | .rng lo hi=>∃t u v,h.get? a=some { cls:=.type "range",data:=.fields #[.int lo t,.int hi u,.int 1 v] }
 | .frz o u=>h.get? a=some o/\fY H h a u
 | .tbl ps=>h.get? a=some { cls:=.none,data:=.fields ps }
 | .met f x=>h.get? a=some (W.methodObj (.ref f) (.ref x))
 | .ext φ=>φ h/\(∃o,h.get? a=some o)/\∀h1 h2:Heap,φ h1->(∀o,h1.get? a=some o->h2.get? a=some o)->φ h2
def iz (H:Hp) (h:Heap):Prop:=∀a o,H a=some o->fY P w H h a o
end
section
variable {P:Program} {w:World} {H H':Hp} {h h':Heap} {a:Addr} {o:HO}
theorem fY.lt (x:fY P w H h a o):a<h.objs.size:=by
 cases o with
 | lst xs=>obtain⟨_,_,_,_,e⟩:=x; exact aar e
 | tup xs=>obtain⟨_,_,_,p⟩:=x; exact p.lt
 | dK kvs=>obtain⟨_,_,_,_,o,_,_,e,_⟩:=x; exact aar e
 | dT kvs=>obtain⟨_,_,_,_,o,_,_,e,_⟩:=x; exact aar e
 | set S n=>obtain⟨o,_,_,_,e,_⟩:=x; exact aar e
 | ins C dx fs=>obtain⟨_,_,_,e,_⟩:=x; exact aar e
 | own y=>obtain⟨_,e⟩:=x; exact aar e
 | xd fs=>obtain⟨_,⟨_,_,_,e,_⟩,_⟩:=x; exact aar e
 | rng lo hi=>obtain⟨_,_,_,e⟩:=x; exact aar e
 | frz ob u=>obtain⟨e,_⟩:=x; exact aar e
 | tbl ps=>exact aar (show h.get? a=some _ from x)
 | met f y=>exact aar (show h.get? a=some _ from x)
 | ext φ=>obtain⟨_,⟨_,e⟩,_⟩:=x; exact aar e
theorem Paired.mapP {α β:Type} {F G:α->β->Prop}:∀{l₁:List α} {l₂:List β},Paired F l₁ l₂->(∀a b,F a b->G a b)->Paired G l₁ l₂
 | _,_,.nil,_=>.nil
 | _,_,.cons r t,f=>.cons (f _ _ r) (Paired.mapP t f)
theorem fY.stay (x:fY P w H h a o) (k:∀b u,(b=a\/H b=some (.own a))->h.get? b=some u->h'.get? b=some u)
 (ho:∀b,H b=some (.own a)->H' b=some (.own a)) (ht:∀b xs,H b=some (.tup xs)->H' b=some (.tup xs)):fY P w H' h' a o:=by
 induction o with
 | lst xs=>obtain⟨z,its,n,r,e⟩:=x; exact⟨z,its,n,r,k _ _ (.inl rfl) e⟩
 | tup xs=>obtain⟨z,its,r,ob,e,c⟩:=x; exact⟨z,its,r,ob,k _ _ (.inl rfl) e,c⟩
 | dK kvs=>obtain⟨z,y,vs,r,ob,es,ep,e,c⟩:=x; exact⟨z,y,vs,r,ob,es,ep,k _ _ (.inl rfl) e,c⟩
 | dT kvs=>
  obtain⟨z,y,xs,r,ob,es,ep,e,c⟩:=x;exact⟨z,y,xs,Paired.mapP r λp q z=>⟨z.1,ht _ _ z.2.1,z.2.2⟩,ob,es,ep,k _ _ (.inl rfl) e,c⟩
 | set S n=>obtain⟨ob,es,ep,t,e,c⟩:=x; exact⟨ob,es,ep,t,k _ _ (.inl rfl) e,c⟩
 | ins C dx fs=>
  obtain⟨d,z,ne,e,mA,⟨od,es,ep,e2,c⟩,r⟩:=x;exact⟨ho _ d,z,ne,k _ _ (.inl rfl) e,mA,⟨od,es,ep,k _ _ (.inr d) e2,c⟩,r⟩
 | own y=>obtain⟨ob,e⟩:=x; exact⟨ob,k _ _ (.inl rfl) e⟩
 | xd fs=>obtain⟨mA,⟨od,es,ep,e,c⟩,r⟩:=x; exact⟨mA,⟨od,es,ep,k _ _ (.inl rfl) e,c⟩,r⟩
 | rng lo hi=>obtain⟨t,u,v,e⟩:=x; exact⟨t,u,v,k _ _ (.inl rfl) e⟩
 | frz ob u ih=>obtain⟨e,q⟩:=x; exact⟨k _ _ (.inl rfl) e,ih q⟩
 | tbl ps=>
  have e:h.get? a=some { cls:=.none,data:=.fields ps }:=x;show h'.get? a=some { cls:=.none,data:=.fields ps };exact k a _ (.inl rfl) e
 | met f y=>
  have e:h.get? a=some (W.methodObj (.ref f) (.ref y)):=x;show h'.get? a=some (W.methodObj (.ref f) (.ref y));exact k a _ (.inl rfl) e
 | ext φ=>obtain⟨p,⟨o,e⟩,st⟩:=x; exact⟨st _ _ p λo q=>k _ _ (.inl rfl) q,⟨o,k _ _ (.inl rfl) e⟩,st⟩
theorem iz.lt (x:iz P w H h) (e:H a=some o):a<h.objs.size:=(x a o e).lt
theorem iz.fresh (x:iz P w H h) (e:h.objs.size<=a):H a=none:=by
 cases q:H a with
 | none=>rfl
 | some u=>exact absurd (aaz (x.lt q) e) (abb _)
theorem iz.kept (x:iz P w H h) (k:∀b u,h.get? b=some u->h'.get? b=some u):iz P w H h':=λa o e=>
 (x a o e).stay (λb u _ q=>k b u q) (λ_ q=>q) λ_ _ q=>q
theorem iz.laid (x:iz P w H h) (k:∀b u,h.get? b=some u->h'.get? b=some u) (hp:h.objs.size<=a) (new:fY P w (upd H a o) h' a o):iz P w (upd H a o) h':=λb u e=>by
 have hn:=x.fresh hp;by_cases hb:b=a
 . subst hb; rw[bN]at e; cases e; exact new
 . rw[cu hb]at e;exact(x b u e).stay (λc v _ q=>k c v q) (λc q=>by rw[cu (dI q hn)]; exact q) λc xs q=>by rw[cu (dI q hn)]; exact q
end
def Rd (H:Hp) (a:Addr) (u:HO):Prop:=H a=some u\/∃o,H a=some (.frz o u)
theorem Rd.ok {H:Hp} {h:Heap} {a:Addr} {u:HO} (r:Rd H a u) (x:iz P w H h):fY P w H h a u:=by
 rcases r with r | ⟨o,r⟩
 . exact x a u r
 . obtain⟨_,q⟩:=x a _ r;exact q
def Mg:Option HO->Prop
 | some (.lst _)=>True
 | some (.dK _)=>True
 | some (.dT _)=>True
 | some (.set _ _)=>True
 | some (.ins _ _ _)=>True
 | some (.ext _)=>True
 | _=>False
section
variable {P:Program} {w:World} {H:Hp} {h h':Heap} {x e:Addr} {o':HO}
theorem iz.write (ok:iz P w H h) (mu:Mg (H x)) (he:e=x\/H e=some (.own x)) (k:∀b u,b≠e->h.get? b=some u->h'.get? b=some u) (heo:∃u,h'.get? e=some u)
 (new:fY P w (upd H x o') h' x o'):iz P w (upd H x o') h':=λb u q=>by
 have nown:∀c y,H c=some (.own y)->c≠x:=λc y r z=>by subst z; rw[r]at mu; exact mu
 have ntup:∀c xs,H c=some (.tup xs)->c≠x:=λc xs r z=>by subst z; rw[r]at mu; exact mu
 by_cases hb:b=x
 . subst hb; rw[bN]at q; cases q; exact new
 . rw[cu hb]at q;by_cases hbe:b=e
   . have q':H b=some (.own x):=by
      rcases he with z | z
      . exact absurd (hbe.trans z) hb
      . rw[hbe]; exact z
     rw[q]at q'; cases q';obtain⟨v,hv⟩:=heo;exact⟨v,by rw[hbe]; exact hv⟩
   . refine(ok b u q).stay (λc v hc r=>k c v ?_ r) (λc r=>by rw[cu (nown c b r)]; exact r) λc xs r=>by rw[cu (ntup c xs r)]; exact r
     rcases hc with rfl | hc
     . exact hbe
     . rintro rfl;rcases he with z | z
       . exact nown c b hc z
       . rw[hc]at z; cases z; exact hb rfl
end
structure Un (fs ex:List Addr) (H H':Hp) (h h':Heap):Prop where
 keep:∀b o,h.get? b=some o->H b=none->b∉fs->b∉ex->h'.get? b=some o
 slot:∀b o,h.get? b=some o->H b=none->b∈fs->b∉ex->∃sl,h'.get? b=some { o with slots:=sl }
 free:∀b o,h.get? b=some o->H b=none->b∉ex->H' b=none
 there:∀b o,h.get? b=some o->b∉ex->∃o',h'.get? b=some o'
 tups:∀b xs,H b=some (.tup xs)->H' b=some (.tup xs)
 frzs:∀b o u,H b=some (.frz o u)->H' b=some (.frz o u)
 tbls:∀b ps,H b=some (.tbl ps)->∃more,H' b=some (.tbl (ps++more))
section
variable {fs fs' ex ex':List Addr} {H H1 H2:Hp} {h h1 h2 h':Heap} {a x e:Addr} {o:HO}
theorem Un.any (u:Un fs ex H H1 h h1) {b:Addr} {ob:Obj} (q:h.get? b=some ob) (n:H b=none) (hx:b∉ex):∃sl,h1.get? b=some { ob with slots:=sl }:=by
 by_cases hb:b∈fs
 . exact u.slot b ob q n hb hx
 . exact⟨ob.slots,u.keep b ob q n hb hx⟩
theorem Un.kept (k:∀b u,h.get? b=some u->h'.get? b=some u):Un fs ex H H h h':=
 ⟨λb ob q _ _ _=>k b ob q,λb ob q _ _ _=>⟨ob.slots,k b ob q⟩,λ_ _ _ n _=>n,λb ob q _=>⟨ob,k b ob q⟩,λ_ _ q=>q,λ_ _ _ q=>q,λ_ ps q=>⟨#[],by rw[q]; simp⟩⟩
theorem Un.refl:Un fs ex H H h h:=Un.kept λ_ _ q=>q
theorem Un.laid (k:∀b u,h.get? b=some u->h'.get? b=some u) (hp:h.objs.size<=a) (hn:H a=none):Un fs ex H (upd H a o) h h' where
 keep:=λb u q _ _ _=>k b u q
 slot:=λb u q _ _ _=>⟨u.slots,k b u q⟩
 free:=λb u q n _=>by rw[cu (aaL (aaz (aar q) hp))]; exact n
 there:=λb u q _=>⟨u,k b u q⟩
 tups:=λb xs q=>by rw[cu (dI q hn)]; exact q
 frzs:=λb u xs q=>by rw[cu (dI q hn)]; exact q
 tbls:=λb ps q=>⟨#[],by rw[cu (dI q hn),q]; simp⟩
theorem Un.write (mu:Mg (H x)) (he:e=x\/H e=some (.own x)) (k:∀b u,b≠e->h.get? b=some u->h'.get? b=some u) (heo:∃u,h'.get? e=some u):Un fs ex H (upd H x o) h h':=by
 have hx:∀b,H b=none->b≠x:=λb n z=>by subst z; rw[n]at mu; exact mu
 have hb:∀b,H b=none->b≠e:=λb n z=>by
  subst z;rcases he with r | r
  . exact hx b n r
  . rw[n]at r; cases r
 have hm:∀b u,H b=some u->¬ Mg (some u)->b≠x:=λb u q nm z=>by subst z; rw[q]at mu; exact nm mu
 refine⟨λb u q n _ _=>k b u (hb b n) q,λb u q n _ _=>⟨u.slots,k b u (hb b n) q⟩,λb u q n _=>by rw[cu (hx b n)]; exact n,λb u q _=>?_,
  λb xs q=>by rw[cu (hm b _ q λz=>z)]; exact q,λb u xs q=>by rw[cu (hm b _ q λz=>z)]; exact q,λb ps q=>⟨#[],by rw[cu (hm b _ q λz=>z),q]; simp⟩⟩
 by_cases hbe:b=e
 . subst hbe; exact heo
 . exact⟨u,k b u hbe q⟩
end
def RP (h:Heap) (H:Hp):List Addr:=(List.range h.objs.size).filter λa=>(H a).isSome
def uV (h:Heap) (H:Hp):Heap:=W.hideAll h (RP h H)
theorem Mh (h:Heap) (H:Hp):(uV h H).objs.size=h.objs.size:=W.hideAll_size _ _
theorem PX {h:Heap} {H:Hp} {b:Addr} {o:Obj} (e:h.get? b=some o) (n:H b=none):(uV h H).get? b=some o:=
 W.hideAll_get _ e λhm=>by have q:(H b).isSome=true:=(List.mem_filter.mp hm).2;rw[n]at q; simp at q
theorem Tn {h:Heap} {H:Hp} {b:Addr} {o:Obj} (e:(uV h H).get? b=some o):h.get? b=some o/\H b=none:=by
 have e':h.get? b=some o:=W.of_hideAll (RP h H) e;refine⟨e',?_⟩;cases q:H b with
 | none=>rfl
 | some x=>
  have hm:b∈RP h H:=List.mem_filter.mpr ⟨List.mem_range.mpr (aar e'),by simp[q]⟩;have z:(uV h H).get? b=none:=W.hideAll_none (RP h H) hm;rw[z]at e; cases e
def Tp (g h:Heap) (L:Addr):List (Addr×Obj):=(List.range h.objs.size).filterMap λa=>if a=L\/(g.get? a).isSome=true then none else (h.get? a).map λo=>(a,o)
def rest (g h:Heap) (L d:Addr):List (Addr×Obj):=(Tp g h L).filter λp=>decide (p.1≠d)
structure Mod (K:FG) (mg:Str->Option Value) (base:Heap):Prop where
 kin:K.In base
 glob:base.Ns mainGlobals mg
 blt:∃mb,base.Ns builtinsNs mb/\∀x:Str,x ≠ "__name__" -> mb x=bootBuiltins x
 nolimit:base.NoLimit
structure Cx where
 prog:Program
 w:World
 K:FG
 mg:Str->Option Value
 base:Heap
 A:Around
 N:List Str
 s₀:Shared
 H0:Hp
 env:Env
 outer:List Env
 stack:List Env
 ex:List Addr
 fn:Str->Bool
 calm:Bool
 pn:List (Addr×Obj)
 xe:Value->Shared->Prop
def frs (l:List Env):List Addr:=l.filterMap (·.frame)
abbrev Cx.fs (X:Cx):List Addr:=frs X.outer
def Mi (sc:Scope) (x:Str):Prop:=sc.names.lookup x=some .local\/sc.names.lookup x=some .cell\/sc.names.lookup x=some .free
def Loc (sc:Scope) (x:Str):Prop:=sc.names.lookup x=some .local\/sc.names.lookup x=some .cell
def Look (env:Env) (h:Heap) (m:Str->Option Value) (x:Str) (u:Value):Prop:=
 (env.kindOf x=some .local/\m x=some u)\/((env.kindOf x=some .cell\/env.kindOf x=some .free)/\∃c,env.cells.lookup x=some c/\h.IsCell c (some u))
structure Cx.Ok (X:Cx):Prop where
 mod:Mod X.K X.mg X.base
 kind:X.env.scope.kind=.function
 glob:X.env.globals=mainGlobals
 blt:X.env.builtins=builtinsNs
 above:X.s₀.heap.objs.size<=X.env.locals
 inj:∀x y c,X.env.cells.lookup x=some c->X.env.cells.lookup y=some c->x=y
 has:∀x,(X.env.kindOf x=some .cell\/X.env.kindOf x=some .free)->∃c,X.env.cells.lookup x=some c
 cab:∀x c,X.fn x=true->X.env.cells.lookup x=some c->X.s₀.heap.objs.size<=c
 hd:X.calm=true->X.A.handled=none
 frames:X.A.frames=some X.stack
 stk:X.stack=X.outer\/(X.stack=X.env::X.outer/\X.env.frame=some X.env.locals)
 exf:∀b∈X.ex,b≠X.env.locals/\∀x c,X.env.cells.lookup x=some c->c≠b
 bs:∀b o,X.base.get? b=some o->X.s₀.heap.get? b=some o/\X.H0 b=none
 bsz:X.base.objs.size<=X.s₀.heap.objs.size
 noex:∀b o,X.base.get? b=some o->b∉X.ex
 exfs:∀b∈X.ex,b∉X.fs
 funs:X.s₀.heap.FunFrames X.base X.outer
 frf:∀b∈X.fs,X.H0 b=none
structure Inv (X:Cx) (pins:List (Addr×Obj)) (σ:List (Option V)) (H:Hp) (s:Shared):Prop where
 ok:X.Ok
 os:s.os=X.s₀.os
 bare:AllBare s.gens
 base:Un X.fs X.ex X.H0 H X.s₀.heap s.heap
 loc:∃m,s.heap.Ns X.env.locals m/\∀(i:Nat) (x:Str) (v:V),X.N[i]?=some x->σ[i]?=some (some v)->Mi X.env.scope x->∃u,RelV v u/\Look X.env s.heap m x u
 cell:∀x c,X.env.cells.lookup x=some c->∃v,s.heap.IsCell c v
 free:H X.env.locals=none
 freeC:∀x c,X.env.cells.lookup x=some c->H c=none
 pin:∀p∈X.pn++pins,s.heap.get? p.1=some p.2/\H p.1=none/\p.1≠X.env.locals/\p.1∉X.fs/\∀v,p.2.data≠.cell v
 hok:iz X.prog X.w H s.heap
 len:σ.length=X.N.length
section
variable {X:Cx} {pins:List (Addr×Obj)} {σ:List (Option V)} {H H':Hp} {s:Shared} {h':Heap}
theorem Cx.Ok.nofr (ok:X.Ok) {b:Addr} {o:Obj} (e:X.base.get? b=some o):b∉X.fs:=λhb=>by have:=(ok.funs.mem hb).1;rw[e]at this; cases this
theorem Inv.bs (I:Inv X pins σ H s):∀b o,X.base.get? b=some o->s.heap.get? b=some o/\H b=none:=λb o e=>
 ⟨I.base.keep b o (I.ok.bs b o e).1 (I.ok.bs b o e).2 (I.ok.nofr e) (I.ok.noex b o e),I.base.free b o (I.ok.bs b o e).1 (I.ok.bs b o e).2 (I.ok.noex b o e)⟩
theorem Inv.bk (I:Inv X pins σ H s):∀b o,X.base.get? b=some o->s.heap.get? b=some o:=λb o e=>(I.bs b o e).1
theorem Inv.mod (I:Inv X pins σ H s):Mod X.K X.mg X.base:=I.ok.mod
theorem Inv.kIn (I:Inv X pins σ H s):X.K.In s.heap:=I.ok.mod.kin.keeps I.bk
theorem Inv.lt (I:Inv X pins σ H s):X.env.locals<s.heap.objs.size:=let ⟨_,hn,_⟩:=I.loc; hn.lt
theorem Inv.sz (I:Inv X pins σ H s):X.s₀.heap.objs.size<=s.heap.objs.size:=aaR I.ok.above (abF I.lt)
theorem Inv.nofs (I:Inv X pins σ H s) {a:Addr} (h:s.heap.objs.size<=a):a∉X.fs:=λhb=>by obtain⟨_,o,ho,_⟩:=I.ok.funs.mem hb;exact absurd (aaz (aar ho) (aaR I.sz h)) (abb _)
theorem Inv.cne (I:Inv X pins σ H s):∀x c,X.env.cells.lookup x=some c->c≠X.env.locals:=λx c e z=>by obtain⟨v,o,ho,hd⟩:=I.cell x c e;obtain⟨m,⟨o',es,ep,ho',hd',_⟩,_⟩:=I.loc;rw[z,ho']at ho; cases ho; rw[hd']at hd; cases hd
theorem Inv.funs (I:Inv X pins σ H s):s.heap.FunFrames X.base X.outer:=by
 have all:∀(l:List Env),(∀b∈frs l,b∈X.fs)->X.s₀.heap.FunFrames X.base l->s.heap.FunFrames X.base l:=by
  intro l;induction l with
  | nil=>intro _ _; trivial
  | cons env r ih=>
   intro hs hl;obtain⟨hk,⟨L,o,hf,hn,ho,hd⟩,hr⟩:=hl;have hL:L∈X.fs:=hs L (by unfold frs; rw[abT,hf]; exact aac);obtain⟨sl,e⟩:=I.base.slot L o ho (I.ok.frf L hL) hL λz=>I.ok.exfs L z hL;exact⟨hk,⟨L,_,hf,hn,e,hd⟩,ih (λb hb=>hs b (by unfold frs; rw[abT,hf]; exact aak _ hb)) hr⟩
 exact all X.outer (λ_ hb=>hb) I.ok.funs
theorem Inv.stack (I:Inv X pins σ H s):s.heap.FunFrames X.base X.stack:=by
 rcases I.ok.stk with e | ⟨e,hf⟩
 . rw[e]; exact I.funs
 . rw[e];obtain⟨m,hn,_⟩:=I.loc;refine .cons (by rw[I.ok.kind]; decide) hf hn ?_ I.funs;exact Heap.get?_none_of_le (aaR I.ok.bsz I.ok.above)
theorem Inv.stkSub (I:Inv X pins σ H s):∀b∈frs X.stack,b∈X.env.locals::X.fs:=λb hb=>by
 rcases I.ok.stk with e | ⟨e,hf⟩
 . rw[e]at hb; exact aak _ hb
 . rw[e]at hb;unfold frs at hb;rw[abT,hf]at hb;exact hb
theorem Inv.stkFree (I:Inv X pins σ H s):∀b∈frs X.stack,H b=none:=λb hb=>by
 rcases aaj.mp (I.stkSub b hb) with e | hb
 . rw[e]; exact I.free
 . obtain⟨_,o,ho,_⟩:=I.ok.funs.mem hb;exact I.base.free b o ho (I.ok.frf b hb) λz=>I.ok.exfs b z hb
theorem Inv.step {g':Array GenState} {t':Nat} {d':Drawn} {ch:List Addr} (I:Inv X pins σ H s)
 (hch:∀b∈ch,(b∈X.ex\/X.s₀.heap.objs.size<=b)/\b≠X.env.locals/\(∀x c,X.env.cells.lookup x=some c->c≠b)/\∀p∈X.pn++pins,p.1≠b)
 (keep:∀b o,b≠X.env.locals->b∉X.fs->b∉ch->s.heap.get? b=some o->H b=none->h'.get? b=some o)
 (slot:∀b o,b≠X.env.locals->b∈X.fs->b∉ch->s.heap.get? b=some o->H b=none->∃sl,h'.get? b=some { o with slots:=sl }) (free:∀b o,b∉ch->s.heap.get? b=some o->H b=none->H' b=none)
 (there:∀b o,b∉ch->s.heap.get? b=some o->∃o',h'.get? b=some o')
 (tups:∀b xs,H b=some (.tup xs)->H' b=some (.tup xs)) (frzs:∀b o u,H b=some (.frz o u)->H' b=some (.frz o u)) (tbls:∀b ps,H b=some (.tbl ps)->∃more,H' b=some (.tbl (ps++more)))
 (ns:∀m,s.heap.Ns X.env.locals m->h'.Ns X.env.locals m) (hok:iz X.prog X.w H' h') (hg:AllBare g'):
 Inv X pins σ H' { s with heap:=h',gens:=g',drawn:=d',toks:=t' }:=by
 have neL:∀b o,X.s₀.heap.get? b=some o->b≠X.env.locals:=λb o e=>aaL (aaz (aar e) I.ok.above);have neC:∀b o,X.s₀.heap.get? b=some o->b∉X.ex->b∉ch:=λb o e hx hb=>by
  rcases (hch b hb).1 with z | z
  . exact hx z
  . exact absurd (aaz (aar e) z) (abb _)
 have cellK:∀x c,X.env.cells.lookup x=some c->∀v,s.heap.IsCell c v->h'.IsCell c v:=λx c e v ⟨o,ho,hd⟩=>by
  have nch:c∉ch:=λz=>(hch c z).2.2.1 x c e rfl;by_cases hc:c∈X.fs
  . obtain⟨sl,q⟩:=slot c o (I.cne x c e) hc nch ho (I.freeC x c e);exact⟨_,q,hd⟩
  . exact⟨o,keep c o (I.cne x c e) hc nch ho (I.freeC x c e),hd⟩
 refine⟨I.ok,I.os,hg,⟨λb o e n hb hx=>?_,λb o e n hb hx=>?_,λb o e n hx=>?_,λb o e hx=>?_,λb xs e=>tups b xs (I.base.tups b xs e),λb o xs e=>frzs b o xs (I.base.frzs b o xs e),λb ps e=>?_⟩,?_,λx c e=>?_,?_,λx c e=>?_,λp hp=>?_,hok,I.len⟩
 . exact keep b o (neL b o e) hb (neC b o e hx) (I.base.keep b o e n hb hx) (I.base.free b o e n hx)
 . obtain⟨sl,e1⟩:=I.base.slot b o e n hb hx;obtain⟨sl',e2⟩:=slot b _ (neL b o e) hb (neC b o e hx) e1 (I.base.free b o e n hx);exact⟨sl',e2⟩
 . obtain⟨o',e1⟩:=I.base.there b o e hx;exact free b o' (neC b o e hx) e1 (I.base.free b o e n hx)
 . obtain⟨o',e1⟩:=I.base.there b o e hx;exact there b o' (neC b o e hx) e1
 . obtain⟨m1,e1⟩:=I.base.tbls b ps e;obtain⟨m2,e2⟩:=tbls b _ e1;exact⟨m1++m2,by rw[e2,Array.append_assoc]⟩
 . obtain⟨m,hn,hl⟩:=I.loc;refine⟨m,ns m hn,λi x v e1 e2 e3=>?_⟩;obtain⟨u,r,l⟩:=hl i x v e1 e2 e3;refine⟨u,r,?_⟩;rcases l with l | ⟨k,c,e,z⟩
   . exact .inl l
   . exact .inr ⟨k,c,e,cellK x c e _ z⟩
 . obtain⟨v,z⟩:=I.cell x c e;exact⟨v,cellK x c e v z⟩
 . obtain⟨m,⟨o,_,_,ho,_⟩,_⟩:=I.loc;exact free _ o (λz=>(hch _ z).2.1 rfl) ho I.free
 . obtain⟨v,o,ho,hd⟩:=I.cell x c e;exact free c o (λz=>(hch c z).2.2.1 x c e rfl) ho (I.freeC x c e)
 . obtain⟨e,n,ne,nf,d⟩:=I.pin p hp;have nch:p.1∉ch:=λz=>(hch p.1 z).2.2.2 p hp rfl;exact⟨keep p.1 p.2 ne nf nch e n,free p.1 p.2 nch e n,ne,nf,d⟩
theorem Inv.un {t':Nat} (I:Inv X pins σ H s) (u:Un X.fs [] H H' s.heap h') (hok:iz X.prog X.w H' h'):Inv X pins σ H' { s with heap:=h',toks:=t' }:=by
 obtain⟨m,⟨o,es,ep,ho,r⟩,_⟩:=id I.loc;obtain⟨sl,hL⟩:=u.any ho I.free (by simp);exact I.step (g':=s.gens) (d':=s.drawn) (ch:=[]) (λ_ z=>nomatch z) (λb o _ hb _ e n=>u.keep b o e n hb (by simp)) (λb o _ hb _ e n=>u.slot b o e n hb (by simp)) (λb o _ e n=>u.free b o e n (by simp)) (λb o _ e=>u.there b o e (by simp)) u.tups u.frzs u.tbls (λm' hm=>by obtain⟨o',es',ep',ho',r'⟩:=hm;rw[ho]at ho'; cases ho';exact⟨_,es',ep',hL,r'⟩) hok I.bare
theorem Inv.call {g':Array GenState} {t':Nat} {d':Drawn} {ch:List Addr} (I:Inv X pins σ H s) (u:Un (frs X.stack) ch H H' s.heap h') (hok:iz X.prog X.w H' h') (hg:AllBare g')
 (hch:∀b∈ch,(b∈X.ex\/X.s₀.heap.objs.size<=b)/\b≠X.env.locals/\(∀x c,X.env.cells.lookup x=some c->c≠b)/\∀p∈X.pn++pins,p.1≠b):
 Inv X pins σ H' { s with heap:=h',gens:=g',drawn:=d',toks:=t' }:=by
 obtain⟨m,⟨o,es,ep,ho,r⟩,_⟩:=id I.loc;obtain⟨sl,hL⟩:=u.any ho I.free λz=>(hch _ z).2.1 rfl;exact I.step (ch:=ch) hch (λb o hL hb hc e n=>u.keep b o e n (λz=>(aaj.mp (I.stkSub b z)).elim hL hb) hc) (λb o _ _ hc e n=>u.any e n hc) (λb o hc e n=>u.free b o e n hc) (λb o hc e=>u.there b o e hc) u.tups u.frzs u.tbls (λm' hm=>by obtain⟨o',es',ep',ho',r'⟩:=hm;rw[ho]at ho'; cases ho';exact⟨_,es',ep',hL,r'⟩) hok hg
theorem Inv.turned {t':Nat} {it:Addr} (I:Inv X pins σ H s) (k:∀b o,b≠it->s.heap.get? b=some o->h'.get? b=some o) (hn:H it=none) (hL:it≠X.env.locals)
 (h1:it∈X.ex\/X.s₀.heap.objs.size<=it) (h2:∀x c,X.env.cells.lookup x=some c->c≠it) (h3:∀p∈X.pn++pins,p.1≠it):Inv X pins σ H { s with heap:=h',toks:=t' }:=by
 have nit:∀b u,H b=some u->b≠it:=λb u e z=>by rw[z,hn]at e; cases e
 refine I.step (g':=s.gens) (d':=s.drawn) (ch:=[it]) (λb hb=>?_) (λb o _ _ hc e _=>k b o (λz=>hc (by simp[z])) e) (λb o _ _ hc e _=>⟨o.slots,k b o (λz=>hc (by simp[z])) e⟩) (λ_ _ _ _ n=>n)
  (λb o hc e=>⟨o,k b o (λz=>hc (by simp[z])) e⟩) (λ_ _ e=>e) (λ_ _ _ e=>e) (λb ps e=>⟨#[],by rw[e]; simp⟩) (λm hm=>?_) (λb u e=>?_) I.bare
 . have e:b=it:=by simpa using hb
   subst e;exact⟨h1,hL,h2,h3⟩
 . obtain⟨o,es,ep,ho,r⟩:=hm;exact⟨o,es,ep,k _ o (Ne.symm hL) ho,r⟩
 . refine(I.hok b u e).stay (λc v hc q=>k c v ?_ q) (λ_ q=>q) λ_ _ q=>q;rcases hc with z | z
   . rw[z]; exact nit b u e
   . exact nit c _ z
theorem Inv.tok (I:Inv X pins σ H s) (t:Nat):Inv X pins σ H { s with toks:=t }:=I.un (h':=s.heap) (t':=t) Un.refl I.hok
theorem Inv.kept {t':Nat} (I:Inv X pins σ H s) (k:∀b u,s.heap.get? b=some u->h'.get? b=some u):Inv X pins σ H { s with heap:=h',toks:=t' }:=I.un (Un.kept k) (I.hok.kept k)
theorem Inv.laid {a:Addr} {o:HO} {t':Nat} (I:Inv X pins σ H s) (k:∀b u,s.heap.get? b=some u->h'.get? b=some u) (hp:s.heap.objs.size<=a) (new:fY X.prog X.w (upd H a o) h' a o):
 Inv X pins σ (upd H a o) { s with heap:=h',toks:=t' }:=I.un (Un.laid k hp (I.hok.fresh hp)) (I.hok.laid k hp new)
theorem Inv.write {x e:Addr} {o:HO} {t':Nat} (I:Inv X pins σ H s) (mu:Mg (H x)) (he:e=x\/H e=some (.own x)) (k:∀b u,b≠e->s.heap.get? b=some u->h'.get? b=some u) (heo:∃u,h'.get? e=some u)
 (new:fY X.prog X.w (upd H x o) h' x o):Inv X pins σ (upd H x o) { s with heap:=h',toks:=t' }:=I.un (Un.write mu he k heo) (I.hok.write mu he k heo new)
theorem Inv.pins_of {pins':List (Addr×Obj)} (I:Inv X pins σ H s) (h:∀p∈pins',s.heap.get? p.1=some p.2/\H p.1=none/\p.1≠X.env.locals/\p.1∉X.fs/\∀v,p.2.data≠.cell v):Inv X pins' σ H s:=
 ⟨I.ok,I.os,I.bare,I.base,I.loc,I.cell,I.free,I.freeC,λp hp=>(aaC.mp hp).elim (λz=>I.pin p (aaQ _ z)) (h p),I.hok,I.len⟩
theorem Gb {N:List Str} (hN:N.Nodup) {i j:Nat} {x:Str} (a:N[i]?=some x) (b:N[j]?=some x):i=j:=by obtain⟨h1,e1⟩:=aap.mp a;obtain⟨h2,e2⟩:=aap.mp b;exact(List.getElem_inj hN).mp (e1.trans e2.symm)
theorem Dw {M:Model} {i:Nat} {x:Str} {v:V} {u:Value} {Q:Unit->Shared->Prop} (I:Inv X pins σ H s) (hN:X.N.Nodup) (hi:X.N[i]?=some x) (hx:Loc X.env.scope x) (r:RelV v u)
 (h:∀s',Inv X pins (σ.set i (some v)) H s'->(∃a,Heap.SameBut a s.heap s'.heap/\(a=X.env.locals\/X.env.cells.lookup x=some a))->Q () s') (hf:X.fn x=true\/X.env.scope.names.lookup x=some .local:=by first | exact .inl rfl | exact .inr rfl | assumption):wpAny M A (storeName X.env x u) Q E s:=by
 obtain⟨m,hn,hl⟩:=id I.loc;have hcls:(X.env.scope.kind==.class||(X.env.scope.kind==.module&&X.env.locals != X.env.globals))=false:=by rw[I.ok.kind]; rfl
 have hiσ:i<σ.length:=by rw[I.len]; exact(aap.mp hi).1
 have cne:=I.cne;have tracked:∀{a:Addr} {h':Heap},(∃o,s.heap.get? a=some o/\H a=none)->Heap.SameBut a s.heap h'->iz X.prog X.w H h':=λ{a h'} ha hs b ob e=>by
  obtain⟨_,_,hfree⟩:=ha;refine(I.hok b ob e).stay (λc w' hc q=>(hs.2 c ?_).trans q) (λ_ q=>q) λ_ _ q=>q;rintro rfl;rcases hc with rfl | hc
  . rw[hfree]at e; cases e
  . rw[hfree]at hc; cases hc
 rcases hx with hk | hk
 . refine wpAny_storeName_local hk hn (λh' hn' hs=>?_) hcls;obtain⟨oL,_,_,hoL,_⟩:=id hn;refine h _ ⟨I.ok,I.os,I.bare,⟨λb o e n hb hx=>?_,λb o e n hb hx=>?_,I.base.free,λb o e hx=>?_,I.base.tups,I.base.frzs,I.base.tbls⟩,⟨_,hn',λj y v' e1 e2 e3=>?_⟩,λy c e=>?_,I.free,I.freeC,λp hp=>?_,tracked ⟨oL,hoL,I.free⟩ hs,by simpa using I.len⟩ ⟨_,hs,.inl rfl⟩
   . exact(hs.2 b (aaL (aaz (aar e) I.ok.above))).trans (I.base.keep b o e n hb hx)
   . obtain⟨sl,e1⟩:=I.base.slot b o e n hb hx;exact⟨sl,(hs.2 b (aaL (aaz (aar e) I.ok.above))).trans e1⟩
   . obtain⟨o',e1⟩:=I.base.there b o e hx;exact⟨o',(hs.2 b (aaL (aaz (aar e) I.ok.above))).trans e1⟩
   . by_cases hj:j=i
     . subst hj;rw[hi]at e1; cases e1;rw[aas hiσ]at e2;cases e2;exact⟨u,r,.inl ⟨hk,by simp⟩⟩
     . rw[aaw (Ne.symm hj)]at e2;obtain⟨u',r',q⟩:=hl j y v' e1 e2 e3;refine⟨u',r',?_⟩;rcases q with ⟨k,e⟩ | ⟨k,c,e,z⟩
       . refine .inl ⟨k,?_⟩;have:y≠x:=λe=>hj (Gb hN e1 (e▸hi));simp[this,e]
       . exact .inr ⟨k,c,e,z.sameBut hs (cne y c e)⟩
   . obtain⟨w',z⟩:=I.cell y c e;exact⟨w',z.sameBut hs (cne y c e)⟩
   . obtain⟨e,n,ne,nf,d⟩:=I.pin p hp;exact⟨(hs.2 p.1 ne).trans e,n,ne,nf,d⟩
 . have hfn:X.fn x=true:=by
    rcases hf with z | z
    . exact z
    . rw[z]at hk; cases hk
   obtain⟨c,hc⟩:=I.ok.has x (.inl hk);obtain⟨w',z⟩:=I.cell x c hc;refine wpAny_storeName_cell I.ok.kind hk hc z (λh' hc' hs=>?_);obtain⟨oc,hoc,hocd⟩:=id z;refine h { s with heap:=h' } ⟨I.ok,I.os,I.bare,⟨λb o e n hb hx=>?_,λb o e n hb hx=>?_,I.base.free,λb o e hx=>?_,I.base.tups,I.base.frzs,I.base.tbls⟩,⟨m,hn.sameBut hs (Ne.symm (cne x c hc)),λj y v' e1 e2 e3=>?_⟩,λy c' e=>?_,I.free,I.freeC,λp hp=>?_,tracked ⟨oc,hoc,I.freeC x c hc⟩ hs,by simpa using I.len⟩ ⟨c,hs,.inr hc⟩
   . exact(hs.2 b (aaL (aaz (aar e) (I.ok.cab x c hfn hc)))).trans (I.base.keep b o e n hb hx)
   . obtain⟨sl,e1⟩:=I.base.slot b o e n hb hx;exact⟨sl,(hs.2 b (aaL (aaz (aar e) (I.ok.cab x c hfn hc)))).trans e1⟩
   . obtain⟨o',e1⟩:=I.base.there b o e hx;exact⟨o',(hs.2 b (aaL (aaz (aar e) (I.ok.cab x c hfn hc)))).trans e1⟩
   . by_cases hj:j=i
     . subst hj;rw[hi]at e1; cases e1;rw[aas hiσ]at e2;cases e2;exact⟨u,r,.inr ⟨.inl hk,c,hc,hc'⟩⟩
     . rw[aaw (Ne.symm hj)]at e2;obtain⟨u',r',q⟩:=hl j y v' e1 e2 e3;refine⟨u',r',?_⟩;rcases q with q | ⟨k,c',e,z'⟩
       . exact .inl q
       . refine .inr ⟨k,c',e,z'.sameBut hs ?_⟩;rintro rfl;exact hj (Gb hN e1 (I.ok.inj _ _ _ e hc▸hi))
   . by_cases hcc:c'=c
     . subst hcc; exact⟨_,hc'⟩
     . obtain⟨w2,z2⟩:=I.cell y c' e;exact⟨w2,z2.sameBut hs hcc⟩
   . obtain⟨e,n,ne,nf,d⟩:=I.pin p hp;refine⟨(hs.2 p.1 ?_).trans e,n,ne,nf,d⟩;intro q;rw[q,hoc]at e;have q':oc=p.2:=aaA e;exact d w' (by rw[<-q']; exact hocd)
theorem Ge {M:Model} {i:Nat} {x:Str} {v:V} {u:Value} {Q:Unit->Shared->Prop} (I:Inv X pins σ H s) (hN:X.N.Nodup) (hi:X.N[i]?=some x) (hx:Loc X.env.scope x) (r:RelV v u)
 (h:∀s',Inv X pins (σ.set i (some v)) H s'->Q () s') (hf:X.fn x=true\/X.env.scope.names.lookup x=some .local:=by first | exact .inl rfl | exact .inr rfl | assumption):wpAny M A (storeName X.env x u) Q E s:=
 Dw I hN hi hx r (λs' I' _=>h s' I') hf
theorem Inv.call' {s':Shared} {ch:List Addr} (I:Inv X pins σ H s) (ho:s'.os=s.os) (u:Un (frs X.stack) ch H H' s.heap s'.heap) (hok:iz X.prog X.w H' s'.heap) (hg:AllBare s'.gens)
 (hch:∀b∈ch,(b∈X.ex\/X.s₀.heap.objs.size<=b)/\b≠X.env.locals/\(∀x c,X.env.cells.lookup x=some c->c≠b)/\∀p∈X.pn++pins,p.1≠b):Inv X pins σ H' s':=by
 obtain⟨h',g',d',t',o'⟩:=s';have e:o'=s.os:=ho;subst e;exact I.call (g':=g') (t':=t') (d':=d') u hok hg hch
end
abbrev XK:=Value->Option Addr->Hp->Prop
abbrev St:=List (Option V)
abbrev VK:=V->Hp->Prop
abbrev TE:=St->Hp->VK->Prop
abbrev TT:=St->Hp->(Bool->Hp->Prop)->Prop
abbrev TA:=St->Hp->(List V->Hp->Prop)->Prop
structure Ends where
 nx:St->Hp->Prop
 rt:VK
 bk:St->Hp->Prop:=λ_ _=>False
 ct:St->Hp->Prop:=λ_ _=>False
abbrev TS:=Ends->St->Hp->Prop
def EP (X:Cx) (pins:List (Addr×Obj)) (σ:St) (Q:VK) (u:Value) (s':Shared):Prop:=∃v H',Inv X pins σ H' s'/\RelV v u/\Q v H'
def TP (X:Cx) (pins:List (Addr×Obj)) (σ:St) (Q:Bool->Hp->Prop) (b:Bool) (s':Shared):Prop:=∃H',Inv X pins σ H' s'/\Q b H'
def AP (X:Cx) (pins:List (Addr×Obj)) (σ:St) (Q:List V->Hp->Prop) (us:List Value) (s':Shared):Prop:=∃vs H',Inv X pins σ H' s'/\Vals vs us/\Q vs H'
def SP (X:Cx) (pins:List (Addr×Obj)) (D:Ends) (f:Flow) (s':Shared):Prop:=
 match f with
 | .next=>∃σ' H',Inv X pins σ' H' s'/\D.nx σ' H'
 | .brk=>∃σ' H',Inv X pins σ' H' s'/\D.bk σ' H'
 | .cont=>∃σ' H',Inv X pins σ' H' s'/\D.ct σ' H'
 | .ret u=>∃v σ' H',Inv X pins σ' H' s'/\RelV v u/\D.rt v H'
def PE (X:Cx) (e:Expr) (t:TE):Prop:=
 ∀(pins:List (Addr×Obj)) (s:Shared) (σ:St) (H:Hp) (Q:VK),Inv X pins σ H s->t σ H Q->wpAny (model X.prog X.w) X.A (eval e X.env) (EP X pins σ Q) X.xe s
def PT (X:Cx) (e:Expr) (t:TT):Prop:=
 ∀(pins:List (Addr×Obj)) (s:Shared) (σ:St) (H:Hp) (Q:Bool->Hp->Prop),Inv X pins σ H s->t σ H Q->wpAny (model X.prog X.w) X.A (isTrue e X.env (eval e X.env)) (TP X pins σ Q) X.xe s
def PW (X:Cx) (e:Expr) (t:TT):Prop:=
 ∀(whole:Sem Value) (pins:List (Addr×Obj)) (s:Shared) (σ:St) (H:Hp) (Q:Bool->Hp->Prop),Inv X pins σ H s->t σ H Q->wpAny (model X.prog X.w) X.A (isTrue e X.env whole) (TP X pins σ Q) X.xe s
theorem PW.pt {X:Cx} {e:Expr} {t:TT} (h:PW X e t):PT X e t:=h _
def PA (X:Cx) (es:List Expr) (t:TA):Prop:=
 ∀(pos:Pos) (pins:List (Addr×Obj)) (s:Shared) (σ:St) (H:Hp) (Q:List V->Hp->Prop),Inv X pins σ H s->t σ H Q->wpAny (model X.prog X.w) X.A (spliced (backTo pos (starEach es X.env))) (AP X pins σ Q) X.xe s
def PS (X:Cx) (st:Stmt) (t:TS):Prop:=
 ∀(pins:List (Addr×Obj)) (s:Shared) (σ:St) (H:Hp) (D:Ends),Inv X pins σ H s->t D σ H->wpAny (model X.prog X.w) X.A (exec st X.env) (SP X pins D) X.xe s
def iK (X:Cx) (st:List Stmt) (t:TS):Prop:=
 ∀(pins:List (Addr×Obj)) (s:Shared) (σ:St) (H:Hp) (D:Ends),Inv X pins σ H s->t D σ H->wpAny (model X.prog X.w) X.A (execs st X.env) (SP X pins D) X.xe s
theorem bJ {α:Type} {t:Sem α} {Q Q':α->Shared->Prop} {M:Model} (h:wpAny M A t Q E s) (hQ:∀a s,Q a s->Q' a s):wpAny M A t Q' E s:=wpAny_mono h hQ λ_ _ x=>x
section
variable {X:Cx}
theorem bin {a b:Expr} {ta tb:TE} (ha:PE X a ta) (hb:PE X b tb) {σ:St} {H:Hp} {R:V->V->Hp->Prop} (I:Inv X pins σ H s) (h:ta σ H λx H1=>tb σ H1 λy H2=>R x y H2)
 {α:Type} {Q:α->Shared->Prop} {f:Value->Value->Sem α}
 (hf:∀v u s2 x y H2,Inv X pins σ H2 s2->RelV x v->RelV y u->R x y H2->wpAny (model X.prog X.w) X.A (f v u) Q X.xe s2):
 wpAny (model X.prog X.w) X.A (eval a X.env) (λv s₁=>wpAny (model X.prog X.w) X.A (eval b X.env) (λu s₂=>wpAny (model X.prog X.w) X.A (f v u) Q X.xe s₂) X.xe s₁) X.xe s:=by
 refine bJ (ha pins s σ H _ I h) λv s1 ⟨x,H1,I1,r1,q1⟩=>?_;refine bJ (hb pins s1 σ H1 _ I1 q1) λu s2 ⟨y,H2,I2,r2,q2⟩=>?_;exact hf v u s2 x y H2 I2 r1 r2 q2
def qQ (i:Nat):TE:=λσ H Q=>∃v,σ[i]?=some (some v)/\Q v H
def tC (v:V):TE:=λ_ H Q=>Q v H
theorem VH {i:Nat} {x:Str} {pos:Pos} (hN:X.N[i]?=some x) (hv:Mi X.env.scope x) (hd:(x==("__debug__" : Str))=false:=by decide) (hcd:(x==("__classdict__" : Str))=false:=by decide):PE X (.Name x pos) (qQ i):=by
 intro pins s σ H Q I h;obtain⟨v,e,h⟩:=h;obtain⟨m,hn,hl⟩:=I.loc;obtain⟨u,r,l⟩:=hl i x v hN e hv;have fin:EP X pins σ Q u s:=⟨v,H,I,r,h⟩;rcases l with ⟨hk,hm⟩ | ⟨hk,c,hc,hcell⟩
 . exact wpAny_Name (wpAny_loadName_local I.ok.kind hk hn hm fin) hd
 . rcases hk with hk | hk
   . exact wpAny_Name (wpAny_loadName_cell I.ok.kind hk hc hcell fin) hd
   . exact wpAny_Name (wpAny_loadName_free I.ok.kind hk hc hcell fin hcd) hd
theorem VJ {i j pos}:PE X (.Constant (.int i) j pos) (tC (.int i)):=λ_ _ _ H _ I h=>wpAny_Constant_int ⟨.int i,H,I.tok _,⟨_,rfl⟩,h⟩
theorem zW {b j pos}:PE X (.Constant (.bool b) j pos) (tC (.bl b)):=λ_ _ _ H _ I h=>Constant_bool ⟨.bl b,H,I,rfl,h⟩
theorem VL {j pos}:PE X (.Constant .none j pos) (tC .non):=λ_ _ _ H _ I h=>Constant_none ⟨.non,H,I,rfl,h⟩
theorem VM {x j pos}:PE X (.Constant (.str x) j pos) (tC (.str x)):=λ_ _ _ H _ I h=>Calls.Constant_str ⟨.str x,H,I.tok _,⟨_,rfl⟩,h⟩
def Gl (X:Cx) (x:Str):Prop:=X.env.kindOf x=some .globalImplicit
theorem Cq {σ:St} {H:Hp} {x:Str} {u:Value} {pos:Pos} {Q:Value->Shared->Prop} (I:Inv X pins σ H s) (hg:Gl X x) (hm:X.mg x=some u) (h:Q u s)
 (hd:(x==("__debug__" : Str))=false:=by decide):wpAny (model X.prog X.w) X.A (eval (.Name x pos) X.env) Q E s:=
 Calls.Name_function_global I.ok.kind hg (Calls.loadGlobal_global (by rw[I.ok.glob]; exact I.mod.glob.keeps I.bk) hm h) hd
theorem qR {σ:St} {H:Hp} {x:Str} {u:Value} {pos:Pos} {Q:Value->Shared->Prop} (I:Inv X pins σ H s) (hg:Gl X x) (hm:X.mg x=none) (hv:bootBuiltins x=some u) (h:Q u s)
 (hn:x ≠ "__name__" := by decide) (hd:(x==("__debug__" : Str))=false:=by decide):wpAny (model X.prog X.w) X.A (eval (.Name x pos) X.env) Q E s:=by
 obtain⟨mb,h1,h2⟩:=I.mod.blt;exact Calls.Name_function_global I.ok.kind hg (Calls.loadGlobal_builtin (by rw[I.ok.glob]; exact I.mod.glob.keeps I.bk) hm (by rw[I.ok.blt]; exact h1.keeps I.bk) ((h2 x hn).trans hv) h) hd
theorem Tq {x:Str} {v:V} {u:Value} {pos:Pos} (hg:Gl X x) (hm:X.mg x=some u) (r:RelV v u) (hd:(x==("__debug__" : Str))=false:=by decide):PE X (.Name x pos) (tC v):=
 λ_ _ _ H _ I h=>Cq I hg hm ⟨v,H,I,r,h⟩ hd
theorem gf {x:Str} {v:V} {u:Value} {pos:Pos} (hg:Gl X x) (hm:X.mg x=none) (hv:bootBuiltins x=some u) (r:RelV v u) (hn:x ≠ "__name__" := by decide) (hd:(x==("__debug__" : Str))=false:=by decide):PE X (.Name x pos) (tC v):=
 λ_ _ _ H _ I h=>qR I hg hm hv ⟨v,H,I,r,h⟩ hn hd
variable {a b:Expr} {ta tb:TE} {pos:Pos}
variable {tA tB':TT} {rest:List Expr}
def VN (t u:TT):TT:=λσ H Q=>t σ H λc H1=>if c=true then u σ H1 Q else Q false H1
def Za (t u:TT):TT:=λσ H Q=>t σ H λc H1=>if c=true then Q true H1 else u σ H1 Q
def Zu (t:TT):TT:=λσ H Q=>t σ H λc H1=>Q (!c) H1
theorem Tt (ha:PT X a tA):PW X (.BoolOp .And [a] pos) tA:=by
 intro wh pins s σ H Q I h;refine isTrue_and (bJ (ha pins s σ H Q I h) λc s1 e=>?_);cases c with
 | true=>exact isTrue_and_nil e
 | false=>exact e
theorem VP (ha:PT X a tA):PW X (.BoolOp .Or [a] pos) tA:=by
 intro wh pins s σ H Q I h;refine isTrue_or (bJ (ha pins s σ H Q I h) λc s1 e=>?_);cases c with
 | false=>exact isTrue_or_nil e
 | true=>exact e
theorem V0 (ha:PT X a tA) (hb:PW X (.BoolOp .And (b::rest) pos) tB'):PW X (.BoolOp .And (a::b::rest) pos) (VN tA tB'):=by
 intro wh pins s σ H Q I h;refine isTrue_and (bJ (ha pins s σ H _ I h) λc s1 ⟨H1,I1,q1⟩=>?_);cases c with
 | true=>exact hb wh pins s1 σ H1 Q I1 q1
 | false=>exact⟨H1,I1,q1⟩
theorem Yp (ha:PT X a tA) (hb:PW X (.BoolOp .Or (b::rest) pos) tB'):PW X (.BoolOp .Or (a::b::rest) pos) (Za tA tB'):=by
 intro wh pins s σ H Q I h;refine isTrue_or (bJ (ha pins s σ H _ I h) λc s1 ⟨H1,I1,q1⟩=>?_);cases c with
 | true=>exact⟨H1,I1,q1⟩
 | false=>exact hb wh pins s1 σ H1 Q I1 q1
theorem V1 (ha:PT X a tA):PT X (.UnaryOp .Not a pos) (Zu tA):=by intro pins s σ H Q I h;exact isTrue_not (ha pins s σ H (λc H1=>Q (!c) H1) I h)
def Yq (ta tb:TE):TE:=λσ H Q=>ta σ H λx H1=>∃c,x=.bl c/\if c=true then tb σ H1 Q else Q (.bl false) H1
def Yr (ta:TE):TE:=λσ H Q=>ta σ H λx H1=>∃c,x=.bl c/\Q (.bl (!c)) H1
theorem V2 {op} {t:TE} (h:PE X a t):PE X (.BoolOp op [a] pos) t:=λpins s σ H Q I hw=>BoolOp_one (h pins s σ H Q I hw)
theorem V3 (ha:PE X a ta) (hb:PE X (.BoolOp .And (b::rest) pos) tb):PE X (.BoolOp .And (a::b::rest) pos) (Yq ta tb):=by
 intro pins s σ H Q I h;refine BoolOp_and (bJ (ha pins s σ H _ I h) λv s1 ⟨x,H1,I1,r1,q1⟩=>?_);obtain⟨c,rfl,q1⟩:=q1;cases r1;refine wpAny_truthy_bool ?_;cases c with
 | true=>exact hb pins s1 σ H1 Q I1 q1
 | false=>exact⟨.bl false,H1,I1,rfl,q1⟩
theorem V4 (ha:PE X a ta):PE X (.UnaryOp .Not a pos) (Yr ta):=by intro pins s σ H Q I h;refine UnaryOp_ (bJ (ha pins s σ H _ I h) λv s1 ⟨x,H1,I1,r1,q1⟩=>?_);obtain⟨c,rfl,q1⟩:=q1;cases r1;exact not_of (wpAny_truthy_bool ⟨.bl (!c),H1,I1,rfl,q1⟩)
def tIf (t:TT) (ta tb:TE):TE:=λσ H Q=>t σ H λc H1=>if c=true then ta σ H1 Q else tb σ H1 Q
theorem P0 {c:Expr} (hc:PT X c tA) (ha:PE X a ta) (hb:PE X b tb):PE X (.IfExp c a b pos) (tIf tA ta tb):=by
 intro pins s σ H Q I h;refine wpAny_IfExp (bJ (hc pins s σ H _ I h) λd s1 ⟨H1,I1,q1⟩=>?_);cases d with
 | true=>exact ha pins s1 σ H1 Q I1 q1
 | false=>exact hb pins s1 σ H1 Q I1 q1
end
def bR (K:FG) (H:Hp) (a:Addr) (xs:List V):Prop:=
 Rd H a (.lst xs)\/
  ∃(o:Obj) (its:Array Value) (n:Nat),K.lookup a=some o/\o.cls=.type "list" /\ o.dict=none/\o.data=.seq its n/\its.size<=sizeLine/\Vals xs its.toList
def cM (K:FG) (H:Hp) (a:Addr) (xs:List V):Prop:=
 Rd H a (.tup xs)\/
  ∃(o:Obj) (its:Array Value) (n:Nat),K.lookup a=some o/\o.cls=.type "tuple" /\ o.data=.seq its n/\its.size<=sizeLine/\Vals xs its.toList
def Zv:Value->Option V
 | .none=>some .non
 | .bool b=>some (.bl b)
 | .int i _=>some (.int i)
 | .str x _=>some (.str x)
 | .bytes b _=>some (.byt b)
 | .float b _=>some (.flt b)
 | .ref a=>some (.ref a)
 | .type n=>some (.ty n)
 | _=>none
theorem RelV.abs {x:V} {u:Value} (r:RelV x u):Zv u=some x:=by
 cases x with
 | non=>cases r; rfl
 | bl _=>cases r; rfl
 | int _=>obtain⟨t,rfl⟩:=r; rfl
 | str _=>obtain⟨t,rfl⟩:=r; rfl
 | byt _=>obtain⟨t,rfl⟩:=r; rfl
 | flt _=>obtain⟨t,rfl⟩:=r; rfl
 | ref _=>cases r; rfl
 | ty _=>cases r; rfl
theorem RelV.inj {x y:V} {u:Value} (r:RelV x u) (q:RelV y u):x=y:=aaA (r.abs.symm.trans q.abs)
theorem Vals.inj:∀{xs ys:List V} {us:List Value},Vals xs us->Vals ys us->xs=ys
 | _,_,_,.nil,.nil=>rfl
 | _,_,_,.cons r t,.cons r' t'=>by rw[r.inj r',Vals.inj t t']
section
variable {X:Cx} {pins:List (Addr×Obj)} {σ:St} {H:Hp} {s:Shared} {a:Addr} {xs ys:List V}
theorem bR.of {K:FG} (h:H a=some (.lst xs)):bR K H a xs:=.inl (.inl h)
theorem cM.of {K:FG} (h:H a=some (.tup xs)):cM K H a xs:=.inl (.inl h)
theorem Inv.list (I:Inv X pins σ H s) (h:bR X.K H a xs):∃its:List Value,Vals xs its/\PlainL s.heap a its.toArray/\xs.length<=sizeLine:=by
 rcases h with h | ⟨o,its,n,hk,hc,hd,hs,hz,r⟩
 . obtain⟨z,its,n,r,e⟩:=h.ok I.hok;exact⟨its,r,⟨_,n,e,rfl,rfl,rfl⟩,z⟩
 . refine⟨its.toList,r,⟨o,n,I.kIn a o hk,hc,hd,by simpa using hs⟩,?_⟩;have e:=r.length;simp only[abC]at e;omega
theorem Inv.tuple (I:Inv X pins σ H s) (h:cM X.K H a xs):∃its:List Value,Vals xs its/\IsTup s.heap a its.toArray/\xs.length<=sizeLine:=by
 rcases h with h | ⟨o,its,n,hk,hc,hs,hz,r⟩
 . obtain⟨z,its,r,p⟩:=h.ok I.hok;exact⟨its,r,p,z⟩
 . refine⟨its.toList,r,⟨o,I.kIn a o hk,hc,n,by simpa using hs⟩,?_⟩;have e:=r.length;simp only[abC]at e;omega
theorem Inv.list_inj (I:Inv X pins σ H s) (h:bR X.K H a xs) (h':bR X.K H a ys):xs=ys:=by
 obtain⟨its,r,⟨o,n,e,_,_,d⟩,_⟩:=I.list h;obtain⟨its',r',⟨o',n',e',_,_,d'⟩,_⟩:=I.list h';rw[e]at e'; cases e';rw[d]at d';injection d' with d1 _;have:its=its':=by simpa using congrArg Array.toList d1
 subst this;exact r.inj r'
theorem Inv.tuple_inj (I:Inv X pins σ H s) (h:cM X.K H a xs) (h':cM X.K H a ys):xs=ys:=by
 obtain⟨its,r,⟨o,e,_,n,d⟩,_⟩:=I.tuple h;obtain⟨its',r',⟨o',e',_,n',d'⟩,_⟩:=I.tuple h';rw[e]at e'; cases e';rw[d]at d';injection d' with d1 _;have:its=its':=by simpa using congrArg Array.toList d1
 subst this;exact r.inj r'
end
abbrev Cx.wish (X:Cx) (E:Value->Shared->Prop):Cx:={ X with xe:=E }
abbrev Cx.nox (X:Cx):Cx:=X.wish λ_ _=>False
theorem Cx.Ok.wish {X:Cx} (ok:X.Ok) (E:Value->Shared->Prop):(X.wish E).Ok:=
 ⟨ok.mod,ok.kind,ok.glob,ok.blt,ok.above,ok.inj,ok.has,ok.cab,ok.hd,ok.frames,ok.stk,ok.exf,ok.bs,ok.bsz,ok.noex,ok.exfs,ok.funs,ok.frf⟩
theorem Cx.Ok.unwish {X:Cx} (ok:(X.wish E).Ok):X.Ok:=
 ⟨ok.mod,ok.kind,ok.glob,ok.blt,ok.above,ok.inj,ok.has,ok.cab,ok.hd,ok.frames,ok.stk,ok.exf,ok.bs,ok.bsz,ok.noex,ok.exfs,ok.funs,ok.frf⟩
section
variable {X:Cx} {pins:List (Addr×Obj)} {σ:St} {H:Hp} {s:Shared} {E:Value->Shared->Prop}
theorem Inv.wish (I:Inv X pins σ H s) (E:Value->Shared->Prop):Inv (X.wish E) pins σ H s:=⟨I.ok.wish E,I.os,I.bare,I.base,I.loc,I.cell,I.free,I.freeC,I.pin,I.hok,I.len⟩
theorem Inv.unwish (I:Inv (X.wish E) pins σ H s):Inv X pins σ H s:=⟨I.ok.unwish,I.os,I.bare,I.base,I.loc,I.cell,I.free,I.freeC,I.pin,I.hok,I.len⟩
theorem SP.unwish {D:Ends} {f:Flow} {s':Shared} (h:SP (X.wish E) pins D f s'):SP X pins D f s':=by
 cases f with
 | next=>obtain⟨σ',H',I,q⟩:=h; exact⟨σ',H',I.unwish,q⟩
 | brk=>obtain⟨σ',H',I,q⟩:=h; exact⟨σ',H',I.unwish,q⟩
 | cont=>obtain⟨σ',H',I,q⟩:=h; exact⟨σ',H',I.unwish,q⟩
 | ret u=>obtain⟨v,σ',H',I,r,q⟩:=h; exact⟨v,σ',H',I.unwish,r,q⟩
theorem iK.nox {st:List Stmt} {t:TS} (h:iK X.nox st t):iK X st t:=λpins s σ H D I hw=>
 wpAny_mono (h pins s σ H D (I.wish _) hw) (λ_ _ q=>q.unwish) λ_ _ z=>False.elim z
end
section
variable {X:Cx} {st:Stmt} {rest:List Stmt} {t u:TS} {e:Expr} {te:TE} {pos:Pos}
def Ys:TS:=λD σ H=>D.nx σ H
def Zw (t u:TS):TS:=λD σ H=>t { D with nx:=u D } σ H
theorem Tu:iK X [] Ys:=λ_ _ σ H _ I h=>wpAny_execs_nil ⟨σ,H,I,h⟩
theorem Qa (h1:PS X st t) (h2:iK X rest u):iK X (st::rest) (Zw t u):=by
 intro pins s σ H D I h;refine wpAny_execs_cons (bJ (h1 pins s σ H { D with nx:=u D } I h) λf s1 q=>?_);cases f with
 | next=>
  obtain⟨σ',H',I',q⟩:=q;exact h2 pins s1 σ' H' D I' q
 | ret v=>exact q
 | brk=>exact q
 | cont=>exact q
theorem Tv (h1:PS X st t):iK X [st] t:=by
 intro pins s σ H D I h;refine wpAny_execs_cons (bJ (h1 pins s σ H D I h) λf s1 q=>?_);cases f with
 | next=>exact wpAny_execs_nil q
 | ret v=>exact q
 | brk=>exact q
 | cont=>exact q
theorem Inv.quiet {σ:St} {H:Hp} (I:Inv X pins σ H s):interactive X.env=false:=by simp[interactive,I.ok.kind]
def uW (te:TE):TS:=λD σ H=>te σ H λ_ H1=>D.nx σ H1
theorem eF (he:PE X e te) (hs:swapsWith e none pos.line X.env=pure false:=by rfl):PS X (.Expr e pos) (uW te):=by intro pins s σ H D I h;exact wpAny_Expr_any (bJ (he pins s σ H _ I h) λv s1 ⟨x,H1,I1,r1,q1⟩=>⟨σ,H1,I1,q1⟩) I.quiet hs
def Zx (te:TE):TS:=λD σ H=>te σ H D.rt
theorem Mj (he:PE X e te):PS X (.Return (some e) pos) (Zx te):=by intro pins s σ H D I h;exact wpAny_Return_some (bJ (he pins s σ H _ I h) λv s1 ⟨x,H1,I1,r1,q1⟩=>⟨x,σ,H1,I1,r1,q1⟩)
def Yt:TS:=λD _ H=>D.rt .non H
theorem Tz:PS X (.Return none pos) Yt:=λ_ _ σ H _ I h=>wpAny_Return_none ⟨.non,σ,H,I,rfl,h⟩
def Zy (c:TT) (t u:TS):TS:=λD σ H=>c σ H λb H1=>if b=true then t D σ H1 else u D σ H1
theorem Yu {c:Expr} {a b:List Stmt} {tc:TT} (hc:PT X c tc) (ha:iK X a t) (hb:iK X b u):PS X (.If c a b pos) (Zy tc t u):=by
 intro pins s σ H D I h;refine wpAny_If (bJ (hc pins s σ H _ I h) λd s1 ⟨H1,I1,q1⟩=>?_);cases d with
 | true=>exact ha pins s1 σ H1 D I1 q1
 | false=>exact hb pins s1 σ H1 D I1 q1
end
abbrev TG:=V->St->Hp->(St->Hp->Prop)->Prop
abbrev v6:=List V->St->Hp->(St->Hp->Prop)->Prop
def PG (X:Cx) (target:Expr) (t:TG):Prop:=
 ∀(pins:List (Addr×Obj)) (s:Shared) (σ:St) (H:Hp) (v:V) (u:Value) (Q:St->Hp->Prop),Inv X pins σ H s->RelV v u->t v σ H Q->
  wpAny (model X.prog X.w) X.A (assign target X.env u) (λ_ s'=>∃σ' H',Inv X pins σ' H' s'/\Q σ' H') X.xe s
def Ml (X:Cx) (ts:List Expr) (t:v6):Prop:=
 ∀(pins:List (Addr×Obj)) (s:Shared) (σ:St) (H:Hp) (vs:List V) (us:List Value) (Q:St->Hp->Prop),Inv X pins σ H s->Vals vs us->t vs σ H Q->
  wpAny (model X.prog X.w) X.A (assignInOrder ((assignEach ts X.env).map (·.2)) us) (λ_ s'=>∃σ' H',Inv X pins σ' H' s'/\Q σ' H') X.xe s
abbrev Qc:=V->V->V->Hp->(Hp->Prop)->Prop
def V5 (X:Cx) (t:Qc):Prop:=
 ∀(pins:List (Addr×Obj)) (s:Shared) (σ:St) (H:Hp) (o i v:V) (ov iv u:Value) (Q:Hp->Prop),Inv X pins σ H s->RelV o ov->RelV i iv->RelV v u->t o i v H Q->
  wpAny (model X.prog X.w) X.A (setItem ov iv u) (λ_ s'=>∃H',Inv X pins σ H' s'/\Q H') X.xe s
section
variable {X:Cx} {pos:Pos}
def Fo (i:Nat):TG:=λv σ H Q=>Q (σ.set i (some v)) H
theorem Cr {i:Nat} {x:Str} (hN:X.N.Nodup) (hi:X.N[i]?=some x) (hx:Loc X.env.scope x) (hf:X.fn x=true\/X.env.scope.names.lookup x=some .local:=by first | exact .inl rfl | exact .inr rfl | assumption):PG X (.Name x pos) (Fo i):=by intro pins s σ H v u Q I r h;exact wpAny_assign_Name (Ge I hN hi hx r (λs' I'=>⟨_,H,I',h⟩) hf)
def V6:v6:=λvs σ H Q=>vs=[]/\Q σ H
def RQ (t:TG) (u:v6):v6:=λvs σ H Q=>∃v r,vs=v::r/\t v σ H λσ' H'=>u r σ' H' Q
theorem iT:Ml X [] V6:=by intro pins s σ H vs us Q I r h;obtain⟨e,h⟩:=h;subst e;cases r;exact assignInOrder_nil ⟨σ,H,I,h⟩
theorem bF {e:Expr} {es:List Expr} {t:TG} {u:v6} (h1:PG X e t) (h2:Ml X es u)
 (hs:(assignEach (e::es) X.env).map (·.2)=assign e X.env::(assignEach es X.env).map (·.2):=by rfl):Ml X (e::es) (RQ t u):=by
 intro pins s σ H vs us Q I r h;obtain⟨v,vr,e1,h⟩:=h;subst e1;cases r with
 | cons r rr=>
  rw[hs];refine assignInOrder_cons (bJ (h1 pins s σ H _ _ _ I r h) λ_ s1 ⟨σ1,H1,I1,q1⟩=>?_);exact h2 pins s1 σ1 H1 _ _ Q I1 rr q1
def Zz (K:FG) (n:Nat) (t:v6):TG:=λv σ H Q=>∃a xs,v=.ref a/\cM K H a xs/\xs.length=n/\t xs σ H Q
theorem V7 {es:List Expr} {k:Nat} {t:v6} {n:Nat} (hc:X.calm=true) (h:Ml X es t)
 (hn:(assignEach es X.env).length=n:=by rfl) (hst:(assignEach es X.env).findIdx? (·.1)=none:=by rfl):PG X (.Tuple es k pos) (Zz X.K n t):=by
 intro pins s σ H v u Q I r hw;obtain⟨a,xs,e1,hq,hl,hw⟩:=hw;subst e1;cases r;obtain⟨its,rv,ht,hz⟩:=I.tuple hq;refine assign_Tuple_tuple (I.ok.hd hc) ht (by simp[hn,<-hl,rv.length]) hst λh' hx=>?_;have I1:Inv X pins σ H { s with heap:=h' }:=I.kept (t':=s.toks) λb o e=>hx b o (aaL (aar e)) e;exact h pins _ σ H xs _ Q I1 (by simpa using rv) hw
def Qd (to ti:TE) (t:Qc):TG:=λv σ H Q=>to σ H λo H1=>ti σ H1 λi H2=>t o i v H2 λH3=>Q σ H3
theorem jo {o i:Expr} {to ti:TE} {t:Qc} (ho:PE X o to) (hi:PE X i ti) (hs:V5 X t)
 (ha:∀v,assign (.Subscript o i pos) X.env v=(do
   let ov <-holding [v] (eval o X.env);let iv <-holding [v,ov] (eval i X.env)
   standAt pos
   holding [v,ov,iv] (setItem ov iv v)
   release [v,ov,iv] []):=by intro _; rfl):PG X (.Subscript o i pos) (Qd to ti t):=by
 intro pins s σ H v u Q I r h;rw[ha];refine ab9 (wpAny_holding (bJ (ho pins s σ H _ I h) λov s1 ⟨x,H1,I1,r1,q1⟩=>?_));refine ab9 (wpAny_holding (bJ (hi pins s1 σ H1 _ I1 q1) λiv s2 ⟨y,H2,I2,r2,q2⟩=>?_));refine ab9 (wpAny_standAt (ab9 (wpAny_holding (bJ (hs pins s2 σ H2 x y v ov iv u _ I2 r1 r2 r q2) λ_ s3 ⟨H3,I3,q3⟩=>?_))));exact wpAny_release ⟨σ,H3,I3,q3⟩
def Km (te:TE) (g:TG):TS:=λD σ H=>te σ H λx H1=>g x σ H1 D.nx
theorem jq {tg e:Expr} {te:TE} {g:TG} (he:PE X e te) (hg:PG X tg g) (hs:swapsWithSole [tg] e pos.line X.env=pure false:=by rfl) (hw:swappedStores [tg] e X.env=pure none:=by rfl)
 (h1:(assignEach [tg] X.env).map (·.2)=[assign tg X.env]:=by rfl):PS X (.Assign [tg] e pos) (Km te g):=by
 intro pins s σ H D I h;refine wpAny_Assign_stores (bJ (he pins s σ H _ I h) λv s1 ⟨x,H1,I1,r1,q1⟩=>?_) hs hw;rw[h1];exact bJ (hg pins s1 σ H1 x v _ I1 r1 q1) λ_ s2 q=>q
theorem V8 {i:Nat} {x:Str} {e:Expr} {te:TE} {pos':Pos} (hN:X.N.Nodup) (hi:X.N[i]?=some x) (hx:Loc X.env.scope x) (he:PE X e te) (hs:swapsWith e (some (.Name x pos')) pos.line X.env=pure false:=by rfl) (hf:X.fn x=true\/X.env.scope.names.lookup x=some .local:=by first | exact .inl rfl | exact .inr rfl | assumption):
 PS X (.Assign [.Name x pos'] e pos) (Km te (Fo i)):=by
 intro pins s σ H D I h;refine wpAny_Assign_Name (bJ (he pins s σ H _ I h) λv s1 ⟨y,H1,I1,r1,q1⟩=>?_) hs;exact Ge I1 hN hi hx r1 (λs2 I2=>⟨_,H1,I2,q1⟩) hf
def V9 (c:TT) (tb:TS):TS:=λD σ H=>∃W:Nat->St->Hp->Prop,(∃m,W m σ H)/\∀m σ H,W m σ H->
 c σ H λb H1=>if b=true then ∃N:St->Hp->Prop,(∀σ' H',N σ' H'->∃m',m'<m/\W m' σ' H')/\tb { D with nx:=N,ct:=N,bk:=D.nx } σ H1 else D.nx σ H1
theorem Qe {c:Expr} {body:List Stmt} {tc:TT} {tb:TS} (hp:PassesOwn (model X.prog X.w) X.A X.env X.xe) (hc:PT X c tc) (hb:iK X body tb):PS X (.While c body [] pos) (V9 tc tb):=by
 intro pins s σ H D I h;obtain⟨W,⟨m0,w0⟩,turn⟩:=h;refine wpAny_While (codeAny_whileLoop (λn s'=>∃σ' H',Inv X pins σ' H' s'/\W n σ' H') ?_ m0 ⟨σ,H,I,w0⟩);rintro n s1 ⟨σ1,H1,I1,w1⟩;refine wpAny_passesOwn hp (bJ (hc pins s1 σ1 H1 _ I1 (turn n σ1 H1 w1)) λb s2 ⟨H2,I2,q2⟩=>?_);cases b with
 | true=>
  obtain⟨N,hN,q2⟩:=q2;rw[aca rfl];refine wpAny_passesOwn hp (bJ (hb pins s2 σ1 H2 _ I2 q2) λf s3 q3=>?_);cases f with
  | next=>
   obtain⟨σ3,H3,I3,n3⟩:=q3;obtain⟨m',hm,w3⟩:=hN σ3 H3 n3;exact⟨m',hm,σ3,H3,I3,w3⟩
  | cont=>
   obtain⟨σ3,H3,I3,n3⟩:=q3;obtain⟨m',hm,w3⟩:=hN σ3 H3 n3;exact⟨m',hm,σ3,H3,I3,w3⟩
  | brk=>exact q3
  | ret v=>exact q3
 | false=>
  rw[acb aaS];exact wpAny_execs_nil ⟨σ1,H2,I2,q2⟩
end
structure It where
 go:Nat->Hp->Prop
 yld:Nat->Hp->V->Hp->Prop
 stop:Nat->Hp->Prop
def mH (X:Cx) (pins:List (Addr×Obj)) (H:Hp) (b:Addr):Prop:=
 H b=none/\b≠X.env.locals/\b∉X.fs/\(b∈X.ex\/X.s₀.heap.objs.size<=b)/\(∀x c,X.env.cells.lookup x=some c->c≠b)/\∀p∈X.pn++pins,p.1≠b
theorem Inv.fpOk {X:Cx} {σ:St} {H H':Hp} {b:Addr} (I:Inv X pins σ H s) (hb:s.heap.objs.size<=b) (hn:H' b=none):mH X pins H' b:=by
 refine⟨hn,aa6 (aaz I.lt hb),I.nofs hb,.inr (aaR I.sz hb),λx c e z=>?_,λp hp z=>?_⟩
 . obtain⟨v,q⟩:=I.cell x c e;exact absurd (aaz q.lt (by rw[z]; exact hb)) (abb _)
 . exact absurd (aaz (aar (I.pin p hp).1) (by rw[z]; exact hb)) (abb _)
structure Turn (P:Program) (w:World) (K:FG) (tg:Expr) (J:It) (fp:List Addr) (it:Addr) (tn:Nat->Heap->Prop):Prop where
 mem:it∈fp
 obj:∀i h,tn i h->∀b∈fp,∃o,h.get? b=some o/\∀v,o.data≠.cell v
 keep:∀i h h',tn i h->(∀b∈fp,∀o,h.get? b=some o->h'.get? b=some o)->tn i h'
 item:∀(X:Cx),X.prog=P->X.w=w->X.K=K->X.calm=true->∀(i:Nat) (pins:List (Addr×Obj)) (s:Shared) (σ:St) (H:Hp) (E:Value->Shared->Prop),Inv X pins σ H s->(∀b∈fp,mH X pins H b)->tn i s.heap->J.go i H->
  wpAny (model P w) X.A (pyNext (.ref it)) (λr s1=>∃u,r=some u/\
   wpAny (model P w) X.A (letOwnedTupleGo tg (.ref it) u) (λ_ s2=>∃x H',Inv X pins σ H' s2/\RelV x u/\J.yld i H x H'/\tn (i+1) s2.heap/\∀b∈fp,H' b=none) E s1) E s
 done:∀(X:Cx),X.prog=P->X.w=w->X.K=K->X.calm=true->∀(i:Nat) (pins:List (Addr×Obj)) (s:Shared) (σ:St) (H:Hp) (E:Value->Shared->Prop),Inv X pins σ H s->(∀b∈fp,mH X pins H b)->tn i s.heap->J.stop i H->
  wpAny (model P w) X.A (pyNext (.ref it)) (λr s1=>r=none/\Inv X pins σ H s1) E s
 self:∀(A:Around) (i:Nat) (s:Shared) (Q:Value->Shared->Prop) (E:Value->Shared->Prop),tn i s.heap->Q (.ref it) s->wpAny (model P w) A (pyIter (.ref it)) Q E s
abbrev TI:=St->Hp->(It->Hp->Prop)->Prop
def PIE (X:Cx) (pins:List (Addr×Obj)) (σ:St) (tg:Expr) (R:It->Hp->Prop) (itv:Value) (s2:Shared):Prop:=
 ∃(it:Addr) (fp:List Addr) (tn:Nat->Heap->Prop) (J:It) (H':Hp),itv=.ref it/\Inv X pins σ H' s2/\Turn X.prog X.w X.K tg J fp it tn/\tn 0 s2.heap/\(∀b∈fp,mH X pins H' b)/\R J H'
def PI (X:Cx) (tg iter:Expr) (wi:TI):Prop:=
 ∀(pins:List (Addr×Obj)) (s:Shared) (σ:St) (H:Hp) (R:It->Hp->Prop),Inv X pins σ H s->wi σ H R->
  wpAny (model X.prog X.w) X.A (eval iter X.env) (λv s1=>wpAny (model X.prog X.w) X.A (pyIter v) (PIE X pins σ tg R) X.xe s1) X.xe s
theorem Fp {M:Model} {tg:Expr} {it:Addr} {u:Value} {o:Obj} {n:String} {vs:Array Value} {Q:Unit->Shared->Prop} (ho:s.heap.get? it=some o) (hc:o.cls=.type n) (hd:o.data=.fields vs)
 (hn:["enumerate", "zip", "dict_itemiterator", "dict_reverseitemiterator", "odict_iterator", "itertools.zip_longest", "itertools.pairwise"].contains n=false) (hQ:Q () s):wpAny M A (letOwnedTupleGo tg (.ref it) u) Q E s:=by
 unfold letOwnedTupleGo;cases tg<;>first
  | exact acd hQ
  | (cases u<;>first
      | exact acd hQ
      | (refine ab9 (wpAny_load ho ?_)
         rw[hc,hd];show wpAny M A (if (["enumerate", "zip", "dict_itemiterator", "dict_reverseitemiterator", "odict_iterator", "itertools.zip_longest", "itertools.pairwise"].contains n&&vs[0]?==some (rawInt _))=true then _ else _) Q E s;rw[acb (by intro h; rw[hn,Bool.false_and]at h; cases h)];exact acd hQ))
def RT (K:FG) (a:Addr):It:=
 ⟨λi H=>∃xs x,bR K H a xs/\xs[i]?=some x,λi H x H'=>H'=H/\∀xs,bR K H a xs->xs[i]?=some x,λi H=>∃xs,bR K H a xs/\xs.length<=i⟩
def RV (K:FG) (a:Addr):It:=
 ⟨λi H=>∃xs x,cM K H a xs/\xs[i]?=some x,λi H x H'=>H'=H/\∀xs,cM K H a xs->xs[i]?=some x,λi H=>∃xs,cM K H a xs/\xs.length<=i⟩
def RW (lo:Int) (n:Nat):It:=⟨λi _=>i<n,λi H x H'=>H'=H/\x=.int (lo+i),λi _=>n<=i⟩
theorem Mm {K:FG} {tg:Expr} (a it:Addr):Turn P w K tg (RT K a) [it] it (λi h=>h.IsListIter it a i) where
 mem:=by simp
 obj:=λi h st b hb=>by
  have e:b=it:=by simpa using hb
  subst e;obtain⟨o,e,c,d⟩:=st;exact⟨o,e,λv z=>by rw[d]at z; cases z⟩
 keep:=λi h h' st k=>st.at λo e=>k it (by simp) o e
 item:=by intro X hP hw hK hc i pins s σ H E I hf st hg;subst hP hw hK;obtain⟨xs,x,hq,hx⟩:=hg;obtain⟨its,rv,p,hz⟩:=I.list hq;obtain⟨u,hu,ru⟩:=rv.get hx;obtain⟨f0,f1,f2,f3,f4,f5⟩:=hf it (by simp);refine wpAny_pyNext_list_item st p.isList (x:=u) (by simpa using hu) λh' st' sb=>?_;have I1:Inv X pins σ H { s with heap:=h' }:=I.turned (t':=s.toks) (λb o hb e=>(sb.2 b hb).trans e) f0 f1 f3 f4 f5;obtain⟨o,e,c,d⟩:=id st';exact⟨u,rfl,Fp (s:={ s with heap:=h' }) e c d (by decide) ⟨x,H,I1,ru,⟨rfl,λys hy=>by rw[I.list_inj hy hq]; exact hx⟩,st',λb hb=>(hf b hb).1⟩⟩
 done:=by intro X hP hw hK hc i pins s σ H E I hf st hg;subst hP hw hK;obtain⟨xs,hq,hx⟩:=hg;obtain⟨its,rv,p,hz⟩:=I.list hq;obtain⟨f0,f1,f2,f3,f4,f5⟩:=hf it (by simp);have hl:=rv.length;exact wpAny_pyNext_list_end (I.ok.hd hc) st p.isList (by simp; omega) λh' eb=>⟨rfl,I.turned (t':=s.toks) (λb o hb e=>eb b o hb e) f0 f1 f3 f4 f5⟩
 self:=λ_ _ _ _ _ st h=>wpAny_pyIter_listiter st h
theorem Ko {K:FG} {tg:Expr} (a it:Addr):Turn P w K tg (RV K a) [it] it (λi h=>h.IsTupleIter it a i) where
 mem:=by simp
 obj:=λi h st b hb=>by
  have e:b=it:=by simpa using hb
  subst e;obtain⟨o,e,c,d⟩:=st;exact⟨o,e,λv z=>by rw[d]at z; cases z⟩
 keep:=λi h h' st k=>st.at λo e=>k it (by simp) o e
 item:=by intro X hP hw hK hc i pins s σ H E I hf st hg;subst hP hw hK;obtain⟨xs,x,hq,hx⟩:=hg;obtain⟨its,rv,p,hz⟩:=I.tuple hq;obtain⟨u,hu,ru⟩:=rv.get hx;obtain⟨f0,f1,f2,f3,f4,f5⟩:=hf it (by simp);refine wpAny_pyNext_tuple_item st (show s.heap.IsTuple a its.toArray from p) (x:=u) (by simpa using hu) λh' st' sb=>?_;have I1:Inv X pins σ H { s with heap:=h' }:=I.turned (t':=s.toks) (λb o hb e=>(sb.2 b hb).trans e) f0 f1 f3 f4 f5;obtain⟨o,e,c,d⟩:=id st';exact⟨u,rfl,Fp (s:={ s with heap:=h' }) e c d (by decide) ⟨x,H,I1,ru,⟨rfl,λys hy=>by rw[I.tuple_inj hy hq]; exact hx⟩,st',λb hb=>(hf b hb).1⟩⟩
 done:=by intro X hP hw hK hc i pins s σ H E I hf st hg;subst hP hw hK;obtain⟨xs,hq,hx⟩:=hg;obtain⟨its,rv,p,hz⟩:=I.tuple hq;obtain⟨f0,f1,f2,f3,f4,f5⟩:=hf it (by simp);have hl:=rv.length;exact wpAny_pyNext_tuple_end (I.ok.hd hc) st (show s.heap.IsTuple a its.toArray from p) (by simp; omega) λh' eb=>⟨rfl,I.turned (t':=s.toks) (λb o hb e=>eb b o hb e) f0 f1 f3 f4 f5⟩
 self:=λ_ _ _ _ _ st h=>wpAny_pyIter_tupleiter st h
theorem Kp {K:FG} {tg:Expr} (it:Addr) (lo:Int) (n:Nat):Turn P w K tg (RW lo n) [it] it (λi h=>IsRangeIter h it (lo+(i:Nat)*1) ((n:Int)-(i:Nat)) 1) where
 mem:=by simp
 obj:=λi h st b hb=>by
  have e:b=it:=by simpa using hb
  subst e;exact⟨_,st,λv z=>by have z':Data.fields _=Data.cell v:=z;cases z'⟩
 keep:=λi h h' st k=>k it (by simp) _ st
 item:=by intro X hP hw hK hc i pins s σ H E I hf st hg;subst hP hw hK;obtain⟨f0,f1,f2,f3,f4,f5⟩:=hf it (by simp);have W:=Walks.range (prog:=X.prog) (w:=X.w) (I.ok.hd hc) it lo 1 n;refine W.item i s _ _ hg st λv h' tk hv st' kk=>?_;obtain⟨t,rfl⟩:=hv;have I1:Inv X pins σ H { s with heap:=h',toks:=tk }:=I.turned (λb o hb e=>kk b o (by simpa using hb) e) f0 f1 f3 f4 f5;refine⟨_,rfl,Fp (s:={ s with heap:=h',toks:=tk }) (n := "range_iterator") st' rfl rfl (by decide) ⟨.int (lo+i),H,I1,⟨t,?_⟩,⟨rfl,rfl⟩,st',λb hb=>(hf b hb).1⟩⟩;rw[Int.mul_one]
 done:=by intro X hP hw hK hc i pins s σ H E I hf st hg;subst hP hw hK;obtain⟨f0,f1,f2,f3,f4,f5⟩:=hf it (by simp);exact wpAny_pyNext_range_end (I.ok.hd hc) st (by have:n<=i:=hg; omega) λh' eb=>⟨rfl,I.turned (t':=s.toks) (λb o hb e=>eb b o hb e) f0 f1 f3 f4 f5⟩
 self:=λ_ _ _ _ _ st h=>wpAny_pyIter_rangeiter st h
section
variable {X:Cx} {tg:Expr}
theorem Qf {σ:St} {H:Hp} {R:It->Hp->Prop} {lo hi:Int} {t u v:Tok} {tk:Nat} (I:Inv X pins σ H s) (h1:-(2 ^ 62)<=lo) (h2:lo<2 ^ 62) (h3:-(2 ^ 62)<=hi) (h4:hi<2 ^ 62)
 (q:R (RW lo (hi-lo).toNat) H):wpAny (model X.prog X.w) X.A (pyIter (.ref s.heap.objs.size)) (PIE X pins σ tg R) E { s with heap:=s.heap.push { cls:=.type "range",data:=.fields #[.int lo t,.int hi u,.int 1 v] },toks:=tk }:=by
 refine wpAny_pyIter_range (IsRange.new ..) (small_one h1 h2 h3 h4) ?_;have I1:Inv X pins σ H { s with heap:=s.heap.push { cls:=.type "range",data:=.fields #[.int lo t,.int hi u,.int 1 v] },toks:=tk }:=I.kept λb o e=>aad _ e;refine⟨(s.heap.push { cls:=.type "range",data:=.fields #[.int lo t,.int hi u,.int 1 v] }).objs.size,[(s.heap.push { cls:=.type "range",data:=.fields #[.int lo t,.int hi u,.int 1 v] }).objs.size],_,_,H,rfl,
  I1.kept (t':=tk) λb o e=>aad _ e,Kp _ lo (hi-lo).toNat,?_,λb hb=>?_,q⟩
 . have e1:lo+((0:Nat):Int)*1=lo:=by simp
   have e2:(((hi-lo).toNat:Nat):Int)-((0:Nat):Int)=Builtin.Range.rangeSize lo hi 1:=by rw[rangeSize_one]; split<;>omega
   show IsRangeIter _ _ (lo+((0:Nat):Int)*1) ((((hi-lo).toNat:Nat):Int)-((0:Nat):Int)) 1;rw[e1,e2];exact aay _ rfl
 . have e:b=(s.heap.push { cls:=.type "range",data:=.fields #[.int lo t,.int hi u,.int 1 v] }).objs.size:=by simpa using hb
   subst e;exact I1.fpOk (aaf _) (I1.hok.fresh (aaf _))
def Yv (ta:TA):TI:=λσ H R=>ta σ H λvs H1=>∃j:Int,vs=[.int j]/\-(2 ^ 62)<=j/\j<2 ^ 62/\R (RW 0 j.toNat) H1
theorem Mp {a:Expr} {ta:TA} {p pos:Pos} (hg:Gl X "range") (hm:X.mg "range" = none) (ha:PA X [a] ta) (hs:starEach [a] X.env=[(false,eval a X.env)]:=by rfl):PI X tg (.Call (.Name "range" p) [a] [] pos) (Yv ta):=by
 intro pins s σ H R I h;refine Call_ (qR I hg hm boot_range (PyProof.Rows.callWith_type1 (bJ (ha pos pins s σ H _ I h) λus s1 ⟨vs,H1,I1,r1,q1⟩=>?_) hs rfl));obtain⟨j,e,q1,q2,q⟩:=q1;subst e;cases r1 with
 | cons r rr=>
  cases rr;obtain⟨t,rfl⟩:=r;exact call_range_1 (Qf I1 (by omega) (by omega) q1 q2 (by simpa using q))
def ZC (wi:TI) (g:TG) (tb:TS):TS:=λD σ H=>wi σ H λJ H1=>∃W:Nat->Nat->St->Hp->Prop,(∃m,W 0 m σ H1)/\∀i m σ H,W i m σ H->
 (J.stop i H/\D.nx σ H)\/(J.go i H/\∃N:St->Hp->Prop,(∀σ' H',N σ' H'->∃m',m'<m/\W (i+1) m' σ' H')/\∀x H',J.yld i H x H'->g x σ H' λσ2 H2=>tb { D with nx:=N,ct:=N,bk:=D.nx } σ2 H2)
def ww (fp:List Addr) (h:Heap):List (Addr×Obj):=fp.filterMap λb=>(h.get? b).map λo=>(b,o)
theorem uX {fp:List Addr} {h:Heap} {b:Addr} {o:Obj} (hb:b∈fp) (e:h.get? b=some o):(b,o)∈ww fp h:=aa1.mpr ⟨b,hb,by rw[e]; rfl⟩
theorem Mq {fp:List Addr} {h:Heap} {p:Addr×Obj} (hp:p∈ww fp h):p.1∈fp/\h.get? p.1=some p.2:=by
 obtain⟨b,hb,e⟩:=aa1.mp hp;cases q:h.get? b with
 | none=>rw[q]at e; cases e
 | some o=>
  rw[q]at e;have e':(b,o)=p:=aaA e;subst e';exact⟨hb,q⟩
theorem Inv.pinned {σ:St} {H:Hp} {fp:List Addr} (I:Inv X pins σ H s) (hf:∀b∈fp,mH X pins H b) (ho:∀b∈fp,∃o,s.heap.get? b=some o/\∀v,o.data≠.cell v):Inv X (pins++ww fp s.heap) σ H s:=
 I.pins_of λp hp=>(aaC.mp hp).elim (λz=>I.pin p (aaD _ z)) λz=>by obtain⟨hb,e⟩:=Mq z;obtain⟨f0,f1,f2,_⟩:=hf p.1 hb;obtain⟨o,e',d⟩:=ho p.1 hb;rw[e]at e'; cases e';exact⟨e,f0,f1,f2,d⟩
theorem Inv.unpinned {pins pl:List (Addr×Obj)} {σ:St} {H:Hp} (I:Inv X (pins++pl) σ H s):Inv X pins σ H s:=I.pins_of λp hp=>I.pin p (aaD _ (aaQ _ hp))
theorem Wa {iter:Expr} {body:List Stmt} {wi:TI} {g:TG} {tb:TS} {pos:Pos} (hp:PassesOwn (model X.prog X.w) X.A X.env X.xe) (hc:X.calm=true) (hi:PI X tg iter wi) (hg:PG X tg g) (hb:iK X body tb)
 (hs:∀x,foldedSetIterable iter X.env x=pure x:=by intro _; rfl):PS X (.For tg iter body [] pos) (ZC wi g tb):=by
 intro pins s σ H D I h;refine wpAny_For (bJ (hi pins s σ H _ I h) λv s1 h1=>bJ h1 λitv s2 h2=>?_) hs;obtain⟨it,fp,tn,J,H2,e,I2,T,st2,f2,W,⟨m0,w0⟩,turn⟩:=h2;subst e;have stat:∀{H':Hp},(∀b∈fp,H' b=none)->∀b∈fp,mH X pins H' b:=λhn b hb=>⟨hn b hb,(f2 b hb).2⟩;refine codeAny_forLoop_any (λn s'=>∃i σ' H',Inv X pins σ' H' s'/\tn i s'.heap/\(∀b∈fp,H' b=none)/\W i n σ' H') ?_ m0 ⟨0,σ,H2,I2,st2,λb hb=>(f2 b hb).1,w0⟩;rintro n s3 ⟨i,σ3,H3,I3,st3,fr3,w3⟩;rcases turn i n σ3 H3 w3 with ⟨stop,qn⟩ | ⟨go,N,hN,step⟩
 . refine wpAny_passesOwn hp (bJ (T.done X rfl rfl rfl hc i pins s3 σ3 H3 X.xe I3 (stat fr3) st3 stop) λr s4 ⟨hr,I4⟩=>?_);subst hr;exact wpAny_execs_nil ⟨σ3,H3,I4,qn⟩
 . refine wpAny_passesOwn hp (bJ (T.item X rfl rfl rfl hc i pins s3 σ3 H3 X.xe I3 (stat fr3) st3 go) λr s4 ⟨u,hr,h4⟩=>?_);subst hr;refine wpAny_passesOwn hp (bJ h4 λ_ s5 ⟨x,H5,I5,r5,y5,st5,fr5⟩=>?_);have I5':=I5.pinned (stat fr5) (T.obj _ _ st5);refine wpAny_passesOwn hp (bJ (hg _ s5 σ3 H5 x u _ I5' r5 (step x H5 y5)) λ_ s6 ⟨σ6,H6,I6,q6⟩=>?_);refine wpAny_passesOwn hp (bJ (hb _ s6 σ6 H6 _ I6 q6) λf s7 q7=>?_);have again:∀{σ7:St} {H7:Hp},Inv X (pins++ww fp s5.heap) σ7 H7 s7->N σ7 H7->∃m,m<n/\∃i σ' H',Inv X pins σ' H' s7/\tn i s7.heap/\(∀b∈fp,H' b=none)/\W i m σ' H':=λ{σ7 H7} I7 n7=>by obtain⟨m',hm,w7⟩:=hN σ7 H7 n7;refine⟨m',hm,i+1,σ7,H7,I7.unpinned,T.keep _ _ _ st5 λb hb o e=>(I7.pin (b,o) (aaD _ (aaD _ (uX hb e)))).1,λb hb=>?_,w7⟩;obtain⟨o,e,d⟩:=T.obj _ _ st5 b hb;exact(I7.pin (b,o) (aaD _ (aaD _ (uX hb e)))).2.1
   cases f with
   | next=>obtain⟨σ7,H7,I7,n7⟩:=q7; exact again I7 n7
   | cont=>obtain⟨σ7,H7,I7,n7⟩:=q7; exact again I7 n7
   | brk=>obtain⟨σ7,H7,I7,q7⟩:=q7; exact⟨σ7,H7,I7.unpinned,q7⟩
   | ret v=>obtain⟨x7,σ7,H7,I7,r7,q7⟩:=q7; exact⟨x7,σ7,H7,I7.unpinned,r7,q7⟩
end
abbrev R2:=V->V->Hp->VK->Prop
def d7 (X:Cx) (f:Value->Value->Sem Value) (r:R2):Prop:=
 ∀(pins:List (Addr×Obj)) (s:Shared) (σ:St) (H:Hp) (x y:V) (v u:Value) (Q:VK),Inv X pins σ H s->RelV x v->RelV y u->r x y H Q->
  wpAny (model X.prog X.w) X.A (f v u) (EP X pins σ Q) X.xe s
def Wb (X:Cx) (f:Value->Sem Value) (r:V->Hp->VK->Prop):Prop:=
 ∀(pins:List (Addr×Obj)) (s:Shared) (σ:St) (H:Hp) (x:V) (v:Value) (Q:VK),Inv X pins σ H s->RelV x v->r x H Q->
  wpAny (model X.prog X.w) X.A (f v) (EP X pins σ Q) X.xe s
def m8 (X:Cx) (f:Value) (r:List V->Hp->VK->Prop):Prop:=
 ∀(pins:List (Addr×Obj)) (s:Shared) (σ:St) (H:Hp) (xs:List V) (us:List Value) (Q:VK),Inv X pins σ H s->Vals xs us->r xs H Q->
  wpAny (model X.prog X.w) X.A (call f us) (EP X pins σ Q) X.xe s
def ZD (X:Cx) (r:V->Hp->(Bool->Hp->Prop)->Prop):Prop:=
 ∀(pins:List (Addr×Obj)) (s:Shared) (σ:St) (H:Hp) (x:V) (v:Value) (Q:Bool->Hp->Prop),Inv X pins σ H s->RelV x v->r x H Q->
  wpAny (model X.prog X.w) X.A (truthy v) (TP X pins σ Q) X.xe s
def Jg (r:R2) (ta tb:TE):TE:=λσ H Q=>ta σ H λx H1=>tb σ H1 λy H2=>r x y H2 Q
def tUn (r:V->Hp->VK->Prop) (ta:TE):TE:=λσ H Q=>ta σ H λx H1=>r x H1 Q
def rI (C:Int->Int->Prop) (g:Int->Int->V):R2:=λx y H Q=>∃i j,x=.int i/\y=.int j/\C i j/\Q (g i j) H
def qT (g:Int->Int->V):R2:=λx y H Q=>∃i j,x=.int i/\y=.int j/\Q (g i j) H
def rU (g:Int->V):V->Hp->VK->Prop:=λx H Q=>∃i,x=.int i/\Q (g i) H
section
variable {X:Cx} {a b c:Expr} {ta tb tc:TE} {pos:Pos}
theorem Qg (ha:PE X a ta) (hb:PE X b tb) {σ:St} {H:Hp} {R:V->V->Hp->Prop} (I:Inv X pins σ H s)
 (h:ta σ H λx H1=>tb σ H1 λy H2=>R x y H2) {Q:Value->Shared->Prop} {f:Value->Value->Sem Value}
 (hf:∀v u s2 x y H2,Inv X pins σ H2 s2->RelV x v->RelV y u->R x y H2->wpAny (model X.prog X.w) X.A (f v u) Q X.xe s2):
 wpAny (model X.prog X.w) X.A (eval a X.env) (λv s₁=>wpAny (model X.prog X.w) X.A (eval b X.env) (λu s₂=>wpAny (model X.prog X.w) X.A (f v u) Q X.xe s₂) X.xe s₁) X.xe s:=by
 refine bJ (ha pins s σ H _ I h) λv s1 ⟨x,H1,I1,r1,q1⟩=>?_;refine bJ (hb pins s1 σ H1 _ I1 q1) λu s2 ⟨y,H2,I2,r2,q2⟩=>?_;exact hf v u s2 x y H2 I2 r1 r2 q2
theorem Yw {op:Operator} {r:R2} (ho:d7 X (binaryOp op) r) (ha:PE X a ta) (hb:PE X b tb):PE X (.BinOp a op b pos) (Jg r ta tb):=by intro pins s σ H Q I h;exact wpAny_BinOp (Qg ha hb I h λv u s2 x y H2 I2 rx ry q=>ho pins s2 σ H2 x y v u Q I2 rx ry q)
theorem Yx {op:UnaryOp} {r:V->Hp->VK->Prop} (ho:Wb X (unaryOp op) r) (ha:PE X a ta):PE X (.UnaryOp op a pos) (tUn r ta):=by intro pins s σ H Q I h;exact UnaryOp_ (bJ (ha pins s σ H _ I h) λv s1 ⟨x,H1,I1,r1,q1⟩=>ho pins s1 σ H1 x v Q I1 r1 q1)
theorem Mr {f:Value->Value->Sem Value} {C:Int->Int->Prop} {g:Int->Int->Int}
 (rule:∀(i j:Int) (t u:Tok) (s:Shared) (Q:Value->Shared->Prop) (E:Value->Shared->Prop),C i j->Q (.int (g i j) s.toks) { s with toks:=s.toks+1 }->wpAny (model X.prog X.w) X.A (f (.int i t) (.int j u)) Q E s):
 d7 X f (rI C λi j=>.int (g i j)):=by
 intro pins s σ H x y v u Q I rx ry h;obtain⟨i,j,rfl,rfl,hc,q⟩:=h;obtain⟨t,rfl⟩:=rx;obtain⟨t',rfl⟩:=ry;exact rule i j t t' s _ _ hc ⟨.int (g i j),H,I.tok _,⟨_,rfl⟩,q⟩
theorem Wd {f:Value->Value->Sem Value} {g:Int->Int->Int}
 (rule:∀(i j:Int) (t u:Tok) (s:Shared) (Q:Value->Shared->Prop) (E:Value->Shared->Prop),Q (.int (g i j) s.toks) { s with toks:=s.toks+1 }->wpAny (model X.prog X.w) X.A (f (.int i t) (.int j u)) Q E s):
 d7 X f (qT λi j=>.int (g i j)):=by
 intro pins s σ H x y v u Q I rx ry h;obtain⟨i,j,rfl,rfl,q⟩:=h;obtain⟨t,rfl⟩:=rx;obtain⟨t',rfl⟩:=ry;exact rule i j t t' s _ _ ⟨.int (g i j),H,I.tok _,⟨_,rfl⟩,q⟩
theorem Kq {f:Value->Value->Sem Value} {g:Int->Int->Bool}
 (rule:∀(i j:Int) (t u:Tok) (s:Shared) (Q:Value->Shared->Prop) (E:Value->Shared->Prop),Q (.bool (g i j)) s->wpAny (model X.prog X.w) X.A (f (.int i t) (.int j u)) Q E s):
 d7 X f (qT λi j=>.bl (g i j)):=by
 intro pins s σ H x y v u Q I rx ry h;obtain⟨i,j,rfl,rfl,q⟩:=h;obtain⟨t,rfl⟩:=rx;obtain⟨t',rfl⟩:=ry;exact rule i j t t' s _ _ ⟨.bl (g i j),H,I,rfl,q⟩
def We (i j:Int):Prop:=0<j/\j<1073741824
def Wg (i j:Int):Prop:=0<=j/\j<=1000000/\i.natAbs<2 ^ 64
def Kr (i j:Int):Prop:=(-(2 ^ 64)<i/\i<2 ^ 64)\/(-(2 ^ 64)<j/\j<2 ^ 64)
theorem Kr.ok {i j:Int} (h:Kr i j):IntMulOk i j:=by
 rcases h with ⟨h1,h2⟩ | ⟨h1,h2⟩
 . exact .of_left (intBits_le_64 h1 h2)
 . exact .of_right (intBits_le_64 h1 h2)
theorem Wh:d7 X (binaryOp .Add) (qT λi j=>.int (i+j)):=Wd λ_ _ _ _ _ _ _ q=>add_int q
theorem wy:d7 X (binaryOp .Sub) (qT λi j=>.int (i-j)):=Wd λ_ _ _ _ _ _ _ q=>sub_int q
theorem lV:d7 X (binaryOp .Mult) (rI Kr λi j=>.int (i*j)):=Mr λ_ _ _ _ _ _ _ hc q=>mul_int q hc.ok
theorem qJ:d7 X (binaryOp .FloorDiv) (rI We λi j=>.int (i/j)):=Mr λi j _ _ _ _ _ hc q=>by have h1:(0:Int)<j:=hc.1;have h2:j<1073741824:=hc.2;exact floordiv_int (by omega) (by rw[Int.fdiv_eq_ediv_of_nonneg i (by omega)]; exact q) (.inl (PyProof.noPylong_small (by omega)))
theorem dw:d7 X (binaryOp .Mod) (rI (λ_ j=>0<j) λi j=>.int (i%j)):=Mr λi j _ _ _ _ _ hc q=>by have h1:(0:Int)<j:=hc;exact mod_int' (by omega) (by rw[Int.fmod_eq_emod_of_nonneg i (by omega)]; exact q)
theorem Gf:d7 X (binaryOp .Pow) (rI Wg λi j=>.int (i ^ j.toNat)):=Mr λ_ _ _ _ _ _ _ hc q=>pow_int_small hc.1 hc.2.1 hc.2.2 q
theorem unI {f:Value->Sem Value} {g:Int->Int}
 (rule:∀(i:Int) (t:Tok) (s:Shared) (Q:Value->Shared->Prop) (E:Value->Shared->Prop),Q (.int (g i) s.toks) { s with toks:=s.toks+1 }->wpAny (model X.prog X.w) X.A (f (.int i t)) Q E s):
 Wb X f (rU λi=>.int (g i)):=by
 intro pins s σ H x v Q I rx h;obtain⟨i,rfl,q⟩:=h;obtain⟨t,rfl⟩:=rx;exact rule i t s _ _ ⟨.int (g i),H,I.tok _,⟨_,rfl⟩,q⟩
theorem Wi:Wb X (unaryOp .USub) (rU λi=>.int (-i)):=unI λ_ _ _ _ _ q=>neg_int q
end
def scal:V->V->Bool
 | .non,.non=>true | .non,.int _=>true | .int _,.non=>true | .non,.bl _=>true | .bl _,.non=>true | .non,.str _=>true | .str _,.non=>true
 | .int _,.int _=>true | .bl _,.bl _=>true | .str _,.str _=>true | .byt _,.byt _=>true
 | .int _,.str _=>true | .str _,.int _=>true | .bl _,.str _=>true | .str _,.bl _=>true
 | _,_=>false
section
variable {X:Cx} {a b c:Expr} {ta tb tc:TE} {pos:Pos}
theorem Ms {σ:St} {H:Hp} {Q:VK} {k k':Bool} (I:Inv X pins σ H s) (q:Q (.bl k) H) (e:k=k'):EP X pins σ Q (.bool k') s:=by subst e;exact⟨.bl k,H,I,rfl,q⟩
theorem yd:d7 X (compareOp .Lt) (qT λi j=>.bl (decide (i<j))):=Kq λ_ _ _ _ _ _ _ q=>lt_int q
theorem Ks:d7 X (compareOp .LtE) (qT λi j=>.bl (decide (i<=j))):=Kq λ_ _ _ _ _ _ _ q=>le_int q
theorem zX:d7 X (compareOp .Gt) (qT λi j=>.bl (decide (j<i))):=Kq λ_ _ _ _ _ _ _ q=>gt_int q
theorem Yy:d7 X (compareOp .GtE) (qT λi j=>.bl (decide (j<=i))):=Kq λ_ _ _ _ _ _ _ q=>ge_int q
theorem Mt:d7 X (compareOp .In) (λx y H Q=>∃i j,x=.str i/\y=.str j/\Q (.bl (!(Builtin.Str.occurrences j i 0 j.length 1).isEmpty)) H):=by intro pins s σ H x y v u Q I rx ry h;obtain⟨i,j,rfl,rfl,q⟩:=h;obtain⟨t,rfl⟩:=rx;obtain⟨t',rfl⟩:=ry;exact in_str (Ms I q rfl)
theorem zY:d7 X (compareOp .Is) (λx y H Q=>y=.non/\Q (.bl (decide (x=.non))) H):=by
 intro pins s σ H x y v u Q I rx ry h;obtain⟨rfl,q⟩:=h;cases ry;refine is_none_gen (Ms I q ?_);cases x<;>first
  | (cases rx; rfl)
  | (obtain⟨t,rfl⟩:=rx; rfl)
theorem d7.or {f:Value->Value->Sem Value} {r r':R2} (h:d7 X f r) (h':d7 X f r'):d7 X f (λx y H Q=>r x y H Q\/r' x y H Q):=by
 intro pins s σ H x y v u Q I rx ry q;rcases q with q | q
 . exact h pins s σ H x y v u Q I rx ry q
 . exact h' pins s σ H x y v u Q I rx ry q
theorem aZ (b:Expr) {op:CmpOp} (h:op≠.In:=by decide) (h2:op≠.NotIn:=by decide):behindInMarks op b=false:=by
 have e1:(op==CmpOp.In)=false:=by cases op<;>first | rfl | exact absurd rfl h
 have e2:(op==CmpOp.NotIn)=false:=by cases op<;>first | rfl | exact absurd rfl h2
 cases b<;>simp[behindInMarks,e1,e2]
theorem TQ {op:CmpOp} {r:R2} (ho:d7 X (compareOp op) r) (ha:PE X a ta) (hb:PE X b tb) (hm:behindInMarks op b=false):PE X (.Compare a [op] [b] pos) (Jg r ta tb):=by intro pins s σ H Q I h;exact wpAny_Compare1 (Qg ha hb I h λv u s2 x y H2 I2 rx ry q=>ho pins s2 σ H2 x y v u Q I2 rx ry q) hm
def Ku (t:TE):TT:=λσ H Q=>t σ H λx H'=>∃k,x=.bl k/\Q k H'
theorem Jh {op:CmpOp} {r:R2} (ho:d7 X (compareOp op) r) (ha:PE X a ta) (hb:PE X b tb) (hm:behindInMarks op b=false):PT X (.Compare a [op] [b] pos) (Ku (Jg r ta tb)):=by
 intro pins s σ H Q I h;refine wpAny_isTrue_Compare1 (bJ (ha pins s σ H _ I h) λv s1 ⟨x,H1,I1,r1,q1⟩=>bJ (hb pins s1 σ H1 _ I1 q1) λu s2 ⟨y,H2,I2,r2,q2⟩=>
  bJ (ho pins s2 σ H2 x y v u _ I2 r1 r2 q2) λc s3 ⟨z,H3,I3,r3,k,e,q3⟩=>?_) hm
 subst e;cases r3;exact wpAny_truthy_bool ⟨H3,I3,q3⟩
def Gg (r r':R2) (ta tb tc:TE):TE:=λσ H Q=>ta σ H λx H1=>tb σ H1 λy H2=>r x y H2 λz H3=>∃k,z=.bl k/\
 (if k=true then tc σ H3 λw' H4=>r' y w' H4 Q else Q (.bl false) H3)
theorem Qh {op op':CmpOp} {r r':R2} (ho:d7 X (compareOp op) r) (ho':d7 X (compareOp op') r') (ha:PE X a ta) (hb:PE X b tb) (hc:PE X c tc)
 (hm:lastMarks [op,op'] [b,c]=false:=by with_unfolding_all rfl):PE X (.Compare a [op,op'] [b,c] pos) (Gg r r' ta tb tc):=by
 intro pins s σ H Q I h;refine Compare_chain (bJ (ha pins s σ H _ I h) λv s1 ⟨x,H1,I1,r1,q1⟩=>chain_link (bJ (hb pins s1 σ H1 _ I1 q1) λu s2 ⟨y,H2,I2,r2,q2⟩=>
  bJ (ho pins s2 σ H2 x y v u _ I2 r1 r2 q2) λd s3 ⟨z,H3,I3,r3,k,e,q3⟩=>?_)) hm
 subst e;cases r3;refine wpAny_truthy_bool ?_;cases k with
 | false=>exact ite_ff ⟨.bl false,H3,I3,rfl,q3⟩
 | true=>exact ite_tt (chain_last (bJ (hc pins s3 σ H3 _ I3 q3) λw' s4 ⟨z',H4,I4,r4,q4⟩=>ho' pins s4 σ H4 y z' u w' Q I4 r2 r4 q4))
theorem Qi {op op':CmpOp} {r r':R2} (ho:d7 X (compareOp op) r) (ho':d7 X (compareOp op') r') (ha:PE X a ta) (hb:PE X b tb) (hc:PE X c tc)
 (hm:lastMarks [op,op'] [b,c]=false:=by with_unfolding_all rfl):PT X (.Compare a [op,op'] [b,c] pos) (Ku (Gg r r' ta tb tc)):=by
 intro pins s σ H Q I h;refine isTrue_chain (bJ (ha pins s σ H _ I h) λv s1 ⟨x,H1,I1,r1,q1⟩=>test_link (bJ (hb pins s1 σ H1 _ I1 q1) λu s2 ⟨y,H2,I2,r2,q2⟩=>
  bJ (ho pins s2 σ H2 x y v u _ I2 r1 r2 q2) λd s3 ⟨z,H3,I3,r3,k,e,q3⟩=>?_)) hm
 subst e;cases r3;refine wpAny_truthy_bool ?_;cases k with
 | false=>
  obtain⟨k',e',q'⟩:=q3;cases e';exact ite_ff ⟨H3,I3,q'⟩
 | true=>
  refine ite_tt (test_last (bJ (hc pins s3 σ H3 _ I3 q3) λw' s4 ⟨z',H4,I4,r4,q4⟩=>bJ (ho' pins s4 σ H4 y z' u w' _ I4 r2 r4 q4) λd' s5 ⟨z2,H5,I5,r5,k2,e2,q5⟩=>?_));subst e2;cases r5;exact wpAny_truthy_bool ⟨H5,I5,q5⟩
def Qj (K:FG) (x:V) (H:Hp) (k:Bool):Prop:=
 match x with
 | .non=>k=false
 | .bl b=>k=b
 | .int i=>k=(i != 0)
 | .str y=>y.length<=sizeLine/\k=((y.length:Int) != 0)
 | .byt y=>y.size<=sizeLine/\k=((y.size:Int) != 0)
 | .ref p=>(∃xs,bR K H p xs/\k=!xs.isEmpty)\/(∃xs,cM K H p xs/\k=!xs.isEmpty)\/∃kvs,H p=some (.dK kvs)/\k=!kvs.isEmpty
 | _=>False
theorem Kv {κ:Type} {kvs:List (κ×V)} {vs:List (κ×Value)} (r:KV kvs vs):(!vs.isEmpty)=!kvs.isEmpty:=by cases r<;>rfl
theorem zZ {xs:List V} {its:List Value} (r:Vals xs its):(!its.toArray.isEmpty)=!xs.isEmpty:=by cases r<;>simp
theorem wz:(sizeLine:Nat)<2 ^ 63:=by rw[sizeLine_eq]; decide
theorem Wj:ZD X (λx H Q=>∃k,Qj X.K x H k/\Q k H):=by
 intro pins s σ H x v Q I rx h;obtain⟨k,e,q⟩:=h;have hl:=wz;have hs:sizeLine=16777216:=sizeLine_eq;cases x with
 | non=>
  cases rx;have e':k=false:=e;subst e';exact truthy_none ⟨H,I,q⟩
 | bl b=>
  cases rx;have e':k=b:=e;subst e';exact wpAny_truthy_bool ⟨H,I,q⟩
 | int i=>
  obtain⟨t,rfl⟩:=rx;have e':k=(i != 0):=e;subst e';exact PySem.P.truthy_int ⟨H,I,q⟩
 | str y=>
  obtain⟨t,rfl⟩:=rx;obtain⟨hy,e'⟩:y.length<=sizeLine/\k=((y.length:Int) != 0):=e;subst e';exact PySem.P.truthy_str (by omega) ⟨H,I.tok _,q⟩
 | byt y=>
  obtain⟨t,rfl⟩:=rx;obtain⟨hy,e'⟩:y.size<=sizeLine/\k=((y.size:Int) != 0):=e;subst e';exact W.truthy_bytes (by omega) ⟨H,I.tok _,q⟩
 | ref p=>
  cases rx;have e':(∃xs,bR X.K H p xs/\k=!xs.isEmpty)\/(∃xs,cM X.K H p xs/\k=!xs.isEmpty)\/∃kvs,H p=some (.dK kvs)/\k=!kvs.isEmpty:=e;rcases e' with ⟨xs,hx,e'⟩ | ⟨xs,hx,e'⟩ | ⟨kvs,hx,e'⟩
  . subst e';obtain⟨its,r,pl,hz⟩:=I.list hx;have hlen:=r.length;exact wpAny_truthy_list pl.isList (by simp only[aat]; omega) ⟨H,I.tok _,by rw[zZ r]; exact q⟩
  . subst e';obtain⟨its,r,pl,hz⟩:=I.tuple hx;have hlen:=r.length;exact truthy_tuple pl (by simp only[aat]; omega) ⟨H,I.tok _,by rw[zZ r]; exact q⟩
  . subst e';obtain⟨hz,hS,vs,r,m⟩:kvs.length<=sizeLine/\(p==sysModules)=false/\∃vs,KV kvs vs/\s.heap.DictOf (dg X.prog X.w) p vs:=I.hok p _ hx;have hlen:kvs.length=vs.length:=Paired.length r;exact wpAny_truthy_dict hS m (by omega) ⟨H,I.tok _,by rw[Kv r]; exact q⟩
 | _=>exact(show False from e).elim
theorem Gh (ha:PE X a ta) (he:∀whole,isTrue a X.env whole=(do let v <-whole; standAt a.pos; holding [v] (truthy v))):
 PT X a (λσ H Q=>ta σ H λx H'=>∃k,Qj X.K x H' k/\Q k H'):=by
 intro pins s σ H Q I h;exact isTrue_plain (bJ (ha pins s σ H _ I h) λv s1 ⟨x,H1,I1,r1,q1⟩=>Wj pins s1 σ H1 x v Q I1 r1 q1) (he _)
theorem Kw:d7 X (binaryOp .Add) (λx y H Q=>∃i j,x=.str i/\y=.str j/\i.length+j.length<=sizeLine/\Q (.str (i++j)) H):=by intro pins s σ H x y v u Q I rx ry h;obtain⟨i,j,rfl,rfl,hz,q⟩:=h;obtain⟨t,rfl⟩:=rx;obtain⟨t',rfl⟩:=ry;exact add_str (λt' tk=>⟨.str (i++j),H,I.tok _,⟨_,rfl⟩,q⟩) hz
theorem vals1 {x:V} {us:List Value} (r:Vals [x] us):∃u,us=[u]/\RelV x u:=by
 cases r with
 | cons r1 r2=>cases r2; exact⟨_,rfl,r1⟩
theorem vals2 {x y:V} {us:List Value} (r:Vals [x,y] us):∃u w',us=[u,w']/\RelV x u/\RelV y w':=by
 cases r with
 | cons r1 r2=>
  cases r2 with
  | cons r3 r4=>cases r4; exact⟨_,_,rfl,r1,r3⟩
theorem Dy (hc:X.calm=true):m8 X (.builtin "max") (λxs H Q=>∃i j,xs=[.int i,.int j]/\Q (.int (if j>i then j else i)) H):=by
 intro pins s σ H xs us Q I r h;obtain⟨i,j,rfl,q⟩:=h;obtain⟨u,w',rfl,⟨t,rfl⟩,⟨t',rfl⟩⟩:=vals2 r;refine max_two_ints (I.ok.hd hc) λh' tk k=>⟨_,H,I.kept k,?_,q⟩;by_cases hj:j>i
 . rw[aca hj,aca hj]; exact⟨_,rfl⟩
 . rw[acb hj,acb hj]; exact⟨_,rfl⟩
def Qk (K:FG) (x:V) (H:Hp) (n:Nat):Prop:=
 match x with
 | .str y=>y.length<=sizeLine/\n=y.length
 | .byt y=>y.size<=sizeLine/\n=y.size
 | .ref p=>(∃xs,bR K H p xs/\n=xs.length)\/∃xs,cM K H p xs/\n=xs.length
 | _=>False
theorem jh:m8 X (.builtin "len") (λxs H Q=>∃x n,xs=[x]/\Qk X.K x H n/\Q (.int n) H):=by
 intro pins s σ H xs us Q I r h;obtain⟨x,n,rfl,e,q⟩:=h;obtain⟨u,rfl,rx⟩:=vals1 r;have hl:=wz;have hs:sizeLine=16777216:=sizeLine_eq;cases x with
 | str y=>
  obtain⟨t,rfl⟩:=rx;obtain⟨hy,e'⟩:y.length<=sizeLine/\n=y.length:=e;subst e';exact len_str (by omega) ⟨.int _,H,I.tok _,⟨_,rfl⟩,q⟩
 | byt y=>
  obtain⟨t,rfl⟩:=rx;obtain⟨hy,e'⟩:y.size<=sizeLine/\n=y.size:=e;subst e';exact W.len_bytes (by omega) ⟨.int _,H,I.tok _,⟨_,rfl⟩,q⟩
 | ref p=>
  cases rx;have e':(∃xs,bR X.K H p xs/\n=xs.length)\/∃xs,cM X.K H p xs/\n=xs.length:=e;rcases e' with ⟨xs,hx,e'⟩ | ⟨xs,hx,e'⟩
  . subst e';obtain⟨its,r',pl,hz⟩:=I.list hx;have hlen:=r'.length;exact Calls.call_len_list pl.isList (by simp only[aat]; omega) ⟨.int xs.length,H,I.tok _,⟨_,by simp only[aat]; rw[hlen]⟩,q⟩
  . subst e';obtain⟨its,r',pl,hz⟩:=I.tuple hx;have hlen:=r'.length;exact len_tuple pl (by simp only[aat]; omega) ⟨.int xs.length,H,I.tok _,⟨_,by simp only[aat]; rw[hlen]⟩,q⟩
 | _=>exact(show False from e).elim
end
structure yX (h:Heap) (x dx C:Addr) (mA:Str->Option Value):Prop where
 obj:h.get? x=some (W.instObj C dx)
 ns:h.Ns1 dx mA
 ne:dx≠x
theorem Mv {h:Heap} {dx:Addr} {mA:Str->Option Value} (n:h.Ns1 dx mA):∃od,h.get? dx=some od/\∀name,W.lookIn name od=some (mA name):=by
 obtain⟨o,es,ep,ho,hd,hk,_,hm⟩:=n;refine⟨o,ho,λname=>?_⟩;have e:=hm name;unfold nsFind findBy at e;rw[<-Array.find?_toList]at e;unfold W.lookIn;rw[hd];dsimp only;split
 . rename_i y q;rw[q]at e;exact congrArg some e
 . rename_i q;rw[q]at e;have a:es.toList.any (·.refKey)=false:=by rw[List.any_eq_false];intro y hy;obtain⟨z,t,hkey⟩:=hk y (Array.mem_toList_iff.mp hy);simp[DictEntry.refKey,hkey]
   have a':¬ es.toList.any (·.refKey)=true:=by rw[a]; exact aaS
   rw[acb a'];exact congrArg some e
theorem yX.look {h:Heap} {x dx C:Addr} {mA:Str->Option Value} (I:yX h x dx C mA):∃od,W.InstAt h x (W.instObj C dx) C (some od)/\∀name,W.lookIn name od=some (mA name):=
 let ⟨od,ho,hl⟩:=Mv I.ns
 ⟨od,⟨I.obj,rfl,rfl,ho⟩,hl⟩
section
variable {prog:Program} {w:World} {A:Around} {E:Value->Shared->Prop} {s:Shared} {K:FG} {x dx C f:Addr} {mA:Str->Option Value} {name:Str} {v:Value}
theorem TV {expr:Bool} {Q:Value->Shared->Prop} (X:K.In s.heap) (I:yX s.heap x dx C mA) (hg:W.plainGet K C name=true) (hh:W.hasDictIn K C=true)
 (ha:W.findIn K (.ref C) name=some none) (hv:mA name=some v) (hv':W.handedIn v=true) (h:Q v { s with toks:=s.toks+1 }):
 wpAny (model prog w) A (getAttr (.ref x) name expr) Q E s:=by
 obtain⟨od,J,hl⟩:=I.look;exact W.get_value X J (W.plainGet_of hg).1 (W.findObj_own hh ha rfl (by rw[hl,hv])) hv' h
theorem Ql {pl:Sem Bool} {Q:Value×List Value->Shared->Prop} (X:K.In s.heap) (I:yX s.heap x dx C mA) (hg:W.plainGet K C name=true)
 (hf:W.findIn K (.ref C) name=some (some (.ref f))) (ht:W.isFn K (.ref f)=true) (hv:mA name=none) (h:Q (.ref f,[.ref x]) s):
 wpAny (model prog w) A (getMethod (.ref x) name pl) Q E s:=by
 obtain⟨od,J,hl⟩:=I.look;exact W.method_fn X J (W.plainGet_of hg).1 (W.plainGet_of hg).2 hf (beq_iff_eq.mp ht) (by show (W.lookIn name od).map (·.isSome)=some false; rw[hl,hv]; rfl) h
theorem TX {ns:List Str} {Q:Unit->Shared->Prop} (X:K.In s.heap) (I:yX s.heap x dx C mA)
 (hs:W.findIn K (.ref C) "__setattr__" = some (some (.builtin "object.__setattr__"))) (hp:W.plainOver K C=true) (ht:W.takerIn K C name=some none) (hh:W.hasDictIn K C=true)
 (hw:PySem.Within mA ns) (hsz:ns.length<=sizeLine)
 (h:∀h',yX h' x dx C (λy=>if y=name then some v else mA y)->Heap.SameBut dx s.heap h'->Q () { s with heap:=h',toks:=s.toks+2 }):
 wpAny (model prog w) A (setAttr (.ref x) name v) Q E s:=by
 obtain⟨od,J,hl⟩:=I.look;refine W.set_plain X J hs (W.osa_open (s:={ s with toks:=s.toks+1 }) (r:=none) X J hp ht λb=>?_);obtain⟨cd,hc,hd'⟩:=W.any_some hh;have hx:s.heap.get? x=some ⟨.ref C,some dx,.plain,#[]⟩:=I.obj;refine ab9 (acd (ab9 (ab9 (wpAny_loadPart hx (ab9 (W.Looks.here (s:={ s with toks:=s.toks+1 }) (W.looks_clsIn X hc) ?_))))));rw[hd'];refine acd (a:=some dx) (ab9 (acd (ab9 ?_)));refine wpAny_nsSet1 (s:={ s with toks:=s.toks+1 }) I.ns λh' hn2 hs2=>?_;obtain⟨oD,esD,epD,hoD,hdD,hcD⟩:=hn2.count (PySem.Within.cons name v hw);refine ab9 (wpAny_lookBehind hoD (by rw[hdD]; exact pastItsLine_dict (aaR hcD (by rw[aae]; omega))) ?_);exact acd (h _ ⟨(hs2.2 _ (Ne.symm I.ne)).trans I.obj,hn2,I.ne⟩ hs2)
theorem Qm {R:Result->Shared->Prop} {vs:List Value} {kw:List (Str×Value)} (X:K.In s.heap) (hm:W.makesIn K C=true)
 (hi:W.findIn K (.ref C) "__init__" = some (some (.ref f))) (hf:W.typeIn K (.ref f)=some (.type "function"))
 (h:codeAny (model prog w) (A.under (.builtin "type.__call__" ⟨.ref C::vs,kw⟩)) (.call (.ref f) ⟨.ref (s.heap.objs.size+1)::vs,kw⟩) (W.InitBack (s.heap.objs.size+1) R)
   { s with heap:=(s.heap.push W.emptyDict).push (W.instObj C s.heap.objs.size) }):
 codeAny (model prog w) A (.call (.ref C) ⟨vs,kw⟩) R s:=by
 obtain⟨hh,g,d,t,os⟩:=s;exact W.make_core (W.makes_of X hm) (W.looks_findIn X hi) (λself=>W.bind_fn X self hf) (.inl rfl) h
end
def iR (f:Str) (v:V):List (Str×V)->List (Str×V)
 | []=>[(f,v)]
 | (g,x)::r=>if g=f then (g,v)::r else (g,x)::iR f v r
theorem yK (f g:Str) (v:V):∀fs:List (Str×V),(iR f v fs).lookup g=if g=f then some v else fs.lookup g
 | []=>by
  show List.lookup g [(f,v)]=_;by_cases h:g=f
  . have hb:(g==f)=true:=beq_iff_eq.mpr h;simp only[List.lookup,hb,aca h]
  . have hb:(g==f)=false:=acg.mpr h;simp only[List.lookup,hb,acb h]
 | (k,x)::r=>by
  have ih:=yK f g v r;rw[show iR f v ((k,x)::r)=(if k=f then (k,v)::r else (k,x)::iR f v r) from rfl];by_cases hk:k=f
  . rw[aca hk];by_cases h:g=k
    . have hb:(g==k)=true:=beq_iff_eq.mpr h;simp only[List.lookup,hb,aca (h.trans hk)]
    . have hb:(g==k)=false:=acg.mpr h;simp only[List.lookup,hb,acb (λe:g=f=>h (e.trans hk.symm))]
  . rw[acb hk];by_cases h:g=k
    . have hb:(g==k)=true:=beq_iff_eq.mpr h;simp only[List.lookup,hb,acb (λe:g=f=>hk (h.symm.trans e))]
    . have hb:(g==k)=false:=acg.mpr h;simp only[List.lookup,hb];exact ih
theorem wA (f:Str) (v:V):∀fs:List (Str×V),f∈(iR f v fs).map (·.1)/\∀g,g∈fs.map (·.1)->g∈(iR f v fs).map (·.1)
 | []=>⟨by simp[iR],λg h=>by simp at h⟩
 | (k,x)::r=>by
  obtain⟨i1,i2⟩:=wA f v r;rw[show iR f v ((k,x)::r)=(if k=f then (k,v)::r else (k,x)::iR f v r) from rfl];by_cases hk:k=f
  . rw[aca hk];subst hk;exact⟨by simp,λg h=>by simpa using h⟩
  . rw[acb hk];refine⟨?_,λg h=>?_⟩
    . rw[aax];exact aak _ i1
    . rw[aax]at h ⊢;rcases aaj.mp h with e | e
      . exact aaj.mpr (.inl e)
      . exact aak _ (i2 g e)
theorem yL (f:Str) (v:V):∀fs:List (Str×V),(iR f v fs).length<=fs.length+1
 | []=>by simp[iR]
 | (k,x)::r=>by
  have ih:=yL f v r;rw[show iR f v ((k,x)::r)=(if k=f then (k,v)::r else (k,x)::iR f v r) from rfl];by_cases hk:k=f
  . rw[aca hk,aae,aae]; omega
  . rw[acb hk,aae,aae]; omega
theorem lM.some_of {v:V} {o:Option Value} (r:lM (some v) o):∃u,o=some u/\RelV v u:=by
 cases o with
 | none=>exact(show False from r).elim
 | some u=>exact⟨u,rfl,r⟩
theorem lM.none_of {o:Option Value} (r:lM none o):o=none:=by
 cases o with
 | none=>rfl
 | some u=>exact(show False from r).elim
theorem Mw {v:V} {u:Value} (r:RelV v u):W.handedIn u=true:=by
 cases v with
 | non=>cases (show u=Value.none from r); rfl
 | bl b=>cases (show u=Value.bool b from r); rfl
 | int i=>obtain⟨t,e⟩:=(show ∃t,u=Value.int i t from r); cases e; rfl
 | str x=>obtain⟨t,e⟩:=(show ∃t,u=Value.str x t from r); cases e; rfl
 | byt b=>obtain⟨t,e⟩:=(show ∃t,u=Value.bytes b t from r); cases e; rfl
 | flt b=>obtain⟨t,e⟩:=(show ∃t,u=Value.float b t from r); cases e; rfl
 | ref a=>cases (show u=Value.ref a from r); rfl
 | ty n=>cases (show u=Value.type n from r); rfl
section
variable {P:Program} {w:World} {H H':Hp} {h h':Heap} {a C dx:Addr} {fs fs':List (Str×V)}
theorem Cu (hok:iz P w H h) (e:H a=some (.ins C dx fs)):∃mA,yX h a dx C mA/\(∀f,lM (fs.lookup f) (mA f))/\PySem.Within mA (fs.map (·.1))/\fs.length<=1000/\H dx=some (.own a):=by obtain⟨d,z,ne,ob,mA,n,r,q⟩:=(show fY P w H h a (.ins C dx fs) from hok a _ e);exact⟨mA,⟨ob,n,ne⟩,r,q,z,d⟩
end
structure wB (K:FG) (C:Addr):Prop where
 pg:W.plainGet K C Str.empty=true
 hd:W.hasDictIn K C=true
 po:W.plainOver K C=true
 sa:W.findIn K (.ref C) "__setattr__" = some (some (.builtin "object.__setattr__"))
theorem wB.get {K:FG} {C:Addr} (c:wB K C) (f:Str):W.plainGet K C f=true:=c.pg
def jr (K:FG) (C:Addr) (f:Str):Prop:=W.findIn K (.ref C) f=some none
theorem jr.taker {K:FG} {C:Addr} {f:Str} (n:jr K C f):W.takerIn K C f=some none:=by unfold W.takerIn;rw[show W.findIn K (.ref C) f=some none from n];rfl
structure Meth (K:FG) (C:Addr) (m:Str) (f:Addr):Prop where
 at_:W.findIn K (.ref C) m=some (some (.ref f))
 fn:W.isFn K (.ref f)=true
 kp:W.keepIn K (.ref f)=true
section
variable {X:Cx} {pins:List (Addr×Obj)} {σ:St} {H:Hp} {s:Shared} {a C dx:Addr} {fs:List (Str×V)} {f:Str} {v:V} {A:Around} {E:Value->Shared->Prop}
theorem Ky {b:Bool} {Q:Value->Shared->Prop} (I:Inv X pins σ H s) (e:H a=some (.ins C dx fs)) (c:wB X.K C) (n:jr X.K C f) (l:fs.lookup f=some v)
 (h:∀u s',Inv X pins σ H s'->RelV v u->Q u s'):wpAny (model X.prog X.w) A (getAttr (.ref a) f b) Q E s:=by
 obtain⟨mA,O,r,_,_,_⟩:=Cu I.hok e;obtain⟨u,hu,ru⟩:=lM.some_of (v:=v) (o:=mA f) (by rw[<-l]; exact r f);exact TV I.kIn O (c.get f) c.hd n hu (Mw ru) (h u _ (I.tok _) ru)
theorem uY {m:Str} {g:Addr} {pl:Sem Bool} {Q:Value×List Value->Shared->Prop} (I:Inv X pins σ H s) (e:H a=some (.ins C dx fs)) (c:wB X.K C) (k:Meth X.K C m g) (l:fs.lookup m=none)
 (h:Q (.ref g,[.ref a]) s):wpAny (model X.prog X.w) A (getMethod (.ref a) m pl) Q E s:=by
 obtain⟨mA,O,r,_,_,_⟩:=Cu I.hok e;have hn:mA m=none:=lM.none_of (by rw[<-l]; exact r m);exact Ql I.kIn O (c.get m) k.at_ k.fn hn h
theorem Kz {y:V} {u:Value} {Q:Unit->Shared->Prop} (I:Inv X pins σ H s) (e:H a=some (.ins C dx fs)) (c:wB X.K C) (n:jr X.K C f) (hl:fs.length<1000) (ry:RelV y u)
 (h:∀s',Inv X pins σ (upd H a (.ins C dx (iR f y fs))) s'->Q () s'):wpAny (model X.prog X.w) A (setAttr (.ref a) f u) Q E s:=by
 obtain⟨mA,O,r,wi,_,ho⟩:=Cu I.hok e;have hz:(fs.map (·.1)).length<=sizeLine:=by rw[aag,sizeLine_eq]; omega
 refine TX I.kIn O c.sa c.po n.taker c.hd wi hz λh' O' sb=>h _ ?_;have hd:∃o,h'.get? dx=some o:=let ⟨o,_,_,e',_⟩:=O'.ns; ⟨o,e'⟩;refine I.write (x:=a) (e:=dx) (by rw[e]; exact True.intro) (.inr ho) (λb q hb z=>(sb.2 b hb).trans z) hd ?_;refine⟨by rw[cu O.ne]; exact ho,?_,O.ne,O'.obj,_,O'.ns,λg=>?_,λg hg=>?_⟩
 . have:=yL f y fs; omega
 . show lM ((iR f y fs).lookup g) (if g=f then some u else mA g);rw[yK];by_cases q:g=f
   . rw[aca q,aca q]; exact ry
   . rw[acb q,acb q]; exact r g
 . by_cases q:g=f
   . rw[q]; exact(wA f y fs).1
   . refine(wA f y fs).2 g (wi g λz=>hg ?_);show (if g=f then some u else mA g)=none;rw[acb q]; exact z
theorem Inv.made (I:Inv X pins σ H s):Inv X pins σ (upd (upd H s.heap.objs.size (.own (s.heap.objs.size+1))) (s.heap.objs.size+1) (.ins C s.heap.objs.size []))
 { s with heap:=(s.heap.push W.emptyDict).push (W.instObj C s.heap.objs.size) }:=by
 have e1:(s.heap.push W.emptyDict).get? s.heap.objs.size=some W.emptyDict:=aay s.heap rfl;have e2:((s.heap.push W.emptyDict).push (W.instObj C s.heap.objs.size)).get? (s.heap.objs.size+1)=some (W.instObj C s.heap.objs.size):=by
  have:=aay (s.heap.push W.emptyDict) (o:=W.instObj C s.heap.objs.size) rfl
  rwa [abq]at this
 have e3:(s.heap.push W.emptyDict).Ns s.heap.objs.size (λ_=>none):=⟨W.emptyDict,#[],_,e1,rfl,(λe he=>absurd he (by simp)),λ_=>rfl⟩;have I1:=I.laid (a:=s.heap.objs.size) (o:=.own (s.heap.objs.size+1)) (h':=s.heap.push W.emptyDict) (t':=s.toks) (λb u q=>aad _ q) (aaf _) ⟨_,e1⟩;refine I1.laid (a:=s.heap.objs.size+1) (o:=.ins C s.heap.objs.size []) (t':=s.toks) (λb u q=>aad _ q) (Nat.le_of_eq (abq _ _)) ?_;have ne:s.heap.objs.size≠s.heap.objs.size+1:=aaL (aaM _);refine⟨by rw[cu ne,bN],aa2 _,ne,e2,λ_=>none,(Heap.Ns1.of_empty e3).at λo q=>aad _ q,λ_=>True.intro,λy hy=>absurd rfl hy⟩
theorem TY {prog:Program} {env:Env} {e:Expr} {f:Str} {pos:Pos} {Q:Value->Shared->Prop} (hb:attributeBase e f env (eval e env)=eval e env)
 (h:wpAny (model prog w) A (eval e env) (λo s₁=>wpAny (model prog w) A (getAttr o f true) Q E s₁) E s):wpAny (model prog w) A (eval (.Attribute e f pos) env) Q E s:=
 Attribute_any_ h (by rw[arm_eval_Attribute,hb])
end
def ZF (K:FG) (ta:TE) (f:Str):TE:=λσ H Q=>ta σ H λx H1=>∃a C dx fs v,x=.ref a/\H1 a=some (.ins C dx fs)/\wB K C/\jr K C f/\fs.lookup f=some v/\Q v H1
def ZJ (K:FG) (ta tv:TE) (f:Str):TS:=λD σ H=>tv σ H λy H1=>ta σ H1 λx H2=>∃a C dx fs,x=.ref a/\H2 a=some (.ins C dx fs)/\wB K C/\jr K C f/\fs.length<1000/\
 D.nx σ (upd H2 a (.ins C dx (iR f y fs)))
section
variable {X:Cx} {o e value:Expr} {f:Str} {pos pos' tpos:Pos} {ta tv:TE}
theorem Wk (he:PE X e ta) (hb:attributeBase e f X.env (eval e X.env)=eval e X.env):PE X (.Attribute e f pos) (ZF X.K ta f):=by intro pins s σ H Q I h;refine TY hb (bJ (he pins s σ H _ I h) λu s1 ⟨x,H1,I1,rx,a,C,dx,fs,v,ex,ea,c,n,l,q⟩=>?_);subst ex;obtain rfl:u=Value.ref a:=rx;exact Ky I1 ea c n l λu' s2 I2 ru=>⟨v,H1,I2,ru,q⟩
theorem Wl (ha:PE X o ta) (hv:PE X value tv) (hs:swapsWith value (some (.Attribute o f pos')) pos.line X.env=pure false):PS X (.Assign [.Attribute o f pos'] value pos) (ZJ X.K ta tv f):=by intro pins s σ H D I h;refine plainObj_wpAny_Assign_Attribute (bJ (hv pins s σ H _ I h) λu s1 ⟨y,H1,I1,ry,q⟩=>bJ (ha pins s1 σ H1 _ I1 q) λov s2 ⟨x,H2,I2,rx,a,C,dx,fs,ex,ea,c,n,l,q2⟩=>?_) hs;subst ex;obtain rfl:ov=Value.ref a:=rx;exact Kz I2 ea c n l ry λs3 I3=>⟨σ,_,I3,q2⟩
def Qn:V->V->Hp->VK->Prop:=λx y H Q=>∃i j,x=.int i/\y=.int j/\Q (.int (i+j)) H
theorem Yn {pl:Sem Bool} {m:Str} {apos:Pos} {args:List Expr} {σ:St} {H:Hp} {Q:Value->Shared->Prop} {te:TE} (he:PE X e te) (I:Inv X pins σ H s)
 (h:te σ H λx H1=>∃a C dx fs g,x=.ref a/\H1 a=some (.ins C dx fs)/\wB X.K C/\Meth X.K C m g/\fs.lookup m=none/\
   ∀s1,Inv X pins σ H1 s1->wpAny (model X.prog X.w) X.A (callWith pos (.ref g) [.ref a] (backTo pos (starEach args X.env)) (backToKw pos (keywordEach [] X.env))) Q X.xe s1)
 (ht:eval (.Call (.Attribute e m apos) args [] pos) X.env=(do
   let ov <-eval e X.env
   standAt apos.atName
   let (f,first) <-holding [ov] (getMethod ov m pl)
   callWith pos f first (backTo pos (starEach args X.env)) (backToKw pos (keywordEach [] X.env)))):
 wpAny (model X.prog X.w) X.A (eval (.Call (.Attribute e m apos) args [] pos) X.env) Q X.xe s:=by
 refine ab7 (pl:=pl) (bJ (he pins s σ H _ I h) λu s1 ⟨x,H1,I1,rx,a,C,dx,fs,g,ex,ea,c,k,l,q⟩=>?_) ht;subst ex;obtain rfl:u=Value.ref a:=rx;exact uY I1 ea c k l (q s1 I1)
end
section
variable {X:Cx} {pins:List (Addr×Obj)} {σ:St} {H:Hp} {s:Shared} {A:Around} {E:Value->Shared->Prop} {Q:Value->Shared->Prop} {c:Value} {b:Bool}
end
structure eO (b:Bool) (k:Nat) (A:Around):Prop where
 hd:b=true->A.handled=none
 dp:A.depth+3*k+5<recursionLimit
 un:A.units+16*k+200<cLine
 gd:A.guards=some []
abbrev mJ:=eO true
theorem eO.mono {b:Bool} {j k:Nat} (r:eO b k A) (h:j<=k):eO b j A:=⟨r.hd,by have:=r.dp; omega,by have:=r.un; omega,r.gd⟩
theorem eO.deeper {b:Bool} {k:Nat} (r:eO b (k+1) A) (env:Env):eO b k (A.deeper env):=
 ⟨r.hd,by have:=r.dp; show A.depth+1+3*k+5<_; omega,by have:=r.un; show A.units+3+16*k+200<_; omega,r.gd⟩
theorem KD {C:Addr} {us:List Value} {kw:List (Str×Value)}:(A.under (.builtin "type.__call__" ⟨.ref C::us,kw⟩)).depth=A.depth+1:=by
 first | rfl | simp[Around.under,Code.weight,Code.isCreation,Code.isGuard,Code.isCaller,Code.frames,Code.isFrame,guardIds]
theorem KH {C:Addr} {us:List Value} {kw:List (Str×Value)}:(A.under (.builtin "type.__call__" ⟨.ref C::us,kw⟩)).units=A.units+1:=by
 first | rfl | simp[Around.under,Code.cUnits,Code.frames,Code.isFrame]
theorem eO.make {b:Bool} {k:Nat} (r:eO b (k+1) A) (C:Addr) (us:List Value) (kw:List (Str×Value)):eO b k (A.under (.builtin "type.__call__" ⟨.ref C::us,kw⟩)):=
 ⟨r.hd,by have:=r.dp; rw[KD]; omega,by have:=r.un; rw[KH]; omega,by first | exact r.gd | (simpa [Around.under,Code.isGuard,guardIds] using r.gd)⟩
theorem eO.depth {b:Bool} {k:Nat} (r:eO b k A):A.depth<recursionLimit:=by have:=r.dp; omega
theorem eO.units {b:Bool} {k:Nat} (r:eO b k A):A.units+64<cLine:=by have:=r.un; omega
def Gi:TA:=λ_ H Q=>Q [] H
def ye (ta:TE) (tr:TA):TA:=λσ H Q=>ta σ H λx H1=>tr σ H1 λxs H2=>Q (x::xs) H2
section
variable {X:Cx} {e:Expr} {es:List Expr} {te:TE} {t:TA} {pos:Pos}
theorem gP:PA X [] Gi:=λ_ _ _ _ H Q I h=>Calls.spliced_nil ⟨[],H,I,.nil,h⟩
theorem b8 (ha:PE X e te) (hr:PA X es t) (hs:starEach (e::es) X.env=(false,eval e X.env)::starEach es X.env:=by rfl):PA X (e::es) (ye te t):=by intro pos pins s σ H Q I h;rw[hs];show wpAny _ _ (spliced ((false,eval e X.env)::backTo pos (starEach es X.env))) _ _ s;refine Calls.spliced_cons (bJ (ha pins s σ H _ I h) λu s1 ⟨x,H1,I1,r1,q1⟩=>?_);exact bJ (hr pos pins s1 σ H1 _ I1 q1) λus s2 ⟨xs,H2,I2,r2,q2⟩=>⟨x::xs,H2,I2,.cons r1 r2,q2⟩
def Wm (t:TA):TE:=λσ H Q=>t σ H λxs H1=>xs.length<=sizeLine/\∀p,H1 p=none->Q (.ref p) (upd H1 p (.tup xs))
def ZK (t:TA):TE:=λσ H Q=>t σ H λxs H1=>xs.length<=sizeLine/\∀p,H1 p=none->Q (.ref p) (upd H1 p (.lst xs))
theorem Mx {x1} (h:PA X es t):PE X (.Tuple es x1 pos) (Wm t):=by intro pins s σ H Q I hq;refine wpAny_Tuple_spliced (bJ (h pos pins s σ H _ I hq) λus s1 ⟨xs,H1,I1,r,z,q⟩=>⟨by rw[<-r.length]; exact z,?_⟩);have hf:H1 s1.heap.objs.size=none:=I1.hok.fresh (aaf _);refine⟨.ref s1.heap.objs.size,upd H1 s1.heap.objs.size (.tup xs),I1.laid (t':=s1.toks) (λb u e=>aad _ e) (aaf _) ?_,rfl,q _ hf⟩;exact⟨z,us,r,⟨_,aay _ rfl,rfl,_,rfl⟩⟩
theorem Wn (h:PA X es t):PE X (.List es pos) (ZK t):=by intro pins s σ H Q I hq;refine wpAny_List_spliced (bJ (h pos pins s σ H _ I hq) λus s1 ⟨xs,H1,I1,r,z,q⟩=>⟨by rw[<-r.length]; exact z,?_⟩);have hf:H1 s1.heap.objs.size=none:=I1.hok.fresh (aaf _);refine⟨.ref s1.heap.objs.size,upd H1 s1.heap.objs.size (.lst xs),I1.laid (t':=s1.toks) (λb u e=>aad _ e) (aaf _) ?_,rfl,q _ hf⟩;exact⟨z,us,0,r,aay _ rfl⟩
end
abbrev Sp:=List V->Hp->VK->XK->Prop
abbrev v7:=List Env->Hp->Shared->XK->Value->Shared->Prop
structure yZ (P:Program) (w:World) (K:FG) (mg:Str->Option Value) (base:Heap) (A:Around) (outer:List Env) (s:Shared) (H:Hp):Prop where
 frames:A.frames=some outer
 mod:Mod K mg base
 bs:∀b o,base.get? b=some o->s.heap.get? b=some o/\H b=none
 bsz:base.objs.size<=s.heap.objs.size
 funs:s.heap.FunFrames base outer
 frf:∀b∈frs outer,H b=none
 hok:iz P w H s.heap
 bare:AllBare s.gens
def CE (outer:List Env) (P:Program) (w:World) (H:Hp) (s:Shared) (Q:VK) (u:Value) (s':Shared):Prop:=
 ∃v H',s'.os=s.os/\AllBare s'.gens/\Un (frs outer) [] H H' s.heap s'.heap/\iz P w H' s'.heap/\RelV v u/\Q v H'
def CR (CX:v7) (outer:List Env) (P:Program) (w:World) (H:Hp) (s:Shared) (Q:VK) (E:XK) (r:Result) (s':Shared):Prop:=
 match r with
 | .ok (.ret u)=>CE outer P w H s Q u s'
 | .ok _=>False
 | .error e=>CX outer H s E e s'
structure qp (b:Bool) (P:Program) (w:World) (K:FG) (mg:Str->Option Value) (base:Heap) (CX:v7) (k:Nat) (f:Addr) (fd:FuncData) (ps:List Str) (sp:Sp):Prop where
 len:∀vs H Q E,sp vs H Q E->vs.length=ps.length
 run:∀(A:Around) (outer:List Env) (s:Shared) (H:Hp) (args:Args) (us:List Value) (vs:List V) (Q:VK) (E:XK),eO b k A->yZ P w K mg base A outer s H->BindsTo s fd args (ps.zip us)->Vals vs us->sp vs H Q E->
  codeAny (model P w) A (.call (.ref f) args) (CR CX outer P w H s Q E) s
abbrev mK:=qp true
theorem qp.imp {b:Bool} {K:FG} {mg:Str->Option Value} {base:Heap} {CX:v7} {k:Nat} {f:Addr} {fd:FuncData} {ps:List Str} {sp sp':Sp} (F:qp b P w K mg base CX k f fd ps sp)
 (h:∀vs H Q E,sp' vs H Q E->sp vs H Q E):qp b P w K mg base CX k f fd ps sp':=
 ⟨λvs H Q E q=>F.len vs H Q E (h _ _ _ _ q),λA outer s H args us vs Q E hr he hb hv hs=>F.run A outer s H args us vs Q E hr he hb hv (h _ _ _ _ hs)⟩
theorem yZ.make {K:FG} {mg:Str->Option Value} {base:Heap} {outer:List Env} {H:Hp} (e:yZ P w K mg base A outer s H) (C:Addr) (us:List Value) (kw:List (Str×Value)):
 yZ P w K mg base (A.under (.builtin "type.__call__" ⟨.ref C::us,kw⟩)) outer s H:=⟨by first | exact e.frames | (simpa [Around.under,Code.envs,Code.isFrame,pushEnvs] using e.frames),e.mod,e.bs,e.bsz,e.funs,e.frf,e.hok,e.bare⟩
section
variable {X:Cx} {pins:List (Addr×Obj)} {σ:St} {H:Hp} {s s':Shared}
theorem Inv.env0 (I:Inv X pins σ H s):yZ X.prog X.w X.K X.mg X.base X.A X.stack s H:=
 ⟨I.ok.frames,I.ok.mod,I.bs,aaR I.ok.bsz I.sz,I.stack,I.stkFree,I.hok,I.bare⟩
theorem Inv.after {Q:VK} {u:Value} (I:Inv X pins σ H s) (h:CE X.stack X.prog X.w H s Q u s'):EP X pins σ Q u s':=by obtain⟨v,H',os,bare,un,hok,r,q⟩:=h;obtain⟨hh,g,d,t,os'⟩:=s';obtain rfl:os'=s.os:=os;exact⟨v,H',I.call (h':=hh) (g':=g) (d':=d) (t':=t) (ch:=[]) un hok bare (λb z=>absurd z (by simp)),r,q⟩
end
def KJ (sp:Sp) (dvs:List V) (E:XK) (t:TA):TE:=λσ H Q=>t σ H λvs H1=>sp (vs++dvs) H1 Q E
def KN (C:Addr) (m:Str) (sp:Sp) (dvs:List V) (E:XK) (ta:TE) (t:TA):TE:=λσ H Q=>ta σ H λx H1=>∃a dx fs,x=.ref a/\H1 a=some (.ins C dx fs)/\fs.lookup m=none/\
 t σ H1 λvs H2=>sp (x::(vs++dvs)) H2 Q E
def RX (C:Addr) (sp:Sp) (dvs:List V) (E:XK) (t:TA):TE:=λσ H Q=>t σ H λvs H1=>∀x dx,H1 x=none->H1 dx=none->dx≠x->
 sp (.ref x::(vs++dvs)) (upd (upd H1 dx (.own x)) x (.ins C dx [])) (λv H2=>v=.non/\Q (.ref x) H2) E
def Binds (K:FG) (fd:FuncData) (ps:List Str) (ds:List Value):Prop:=
 ∀(s:Shared) (us:List Value),K.In s.heap->(us++ds).length=ps.length->BindsTo s fd ⟨us,[]⟩ (ps.zip (us++ds))
theorem Binds.all {K:FG} {fd:FuncData} {ps:List Str} (h:∀us:List Value,us.length=ps.length->bindArgs fd ⟨us,[]⟩=pure (ps.zip us)):Binds K fd ps []:=λs us _ hl=>by rw[aau]at hl ⊢;exact .of_eq (h us hl)
def wC (CX:v7) (X:Cx) (E:XK):Prop:=∀(pins:List (Addr×Obj)) (σ:St) (H:Hp) (s:Shared) (e:Value) (s':Shared),Inv X pins σ H s->CX X.stack H s E e s'->X.xe e s'
section
variable {X:Cx} {CX:v7} {k:Nat} {f C:Addr} {fd:FuncData} {ps:List Str} {sp:Sp} {dvs:List V} {ds:List Value} {E:XK} {x m:Str} {p pos apos:Pos} {e o:Expr} {es:List Expr} {ta:TE} {t:TA}
theorem Gj {b:Bool} {σ:St} {H:Hp} {Q:VK} {us:List Value} {vs:List V} (F:qp b X.prog X.w X.K X.mg X.base CX k f fd ps sp) (hr:eO b k X.A) (hb:Binds X.K fd ps ds) (hd:Vals dvs ds) (hx:∀H s e s',Inv X pins σ H s->CX X.stack H s E e s'->X.xe e s')
 (I:Inv X pins σ H s) (r:Vals vs us) (h:sp (vs++dvs) H Q E):wpAny (model X.prog X.w) X.A (call (.ref f) us) (EP X pins σ Q) X.xe s:=by
 have r2:Vals (vs++dvs) (us++ds):=r.append hd;have hl:(us++ds).length=ps.length:=by rw[<-r2.length]; exact F.len _ _ _ _ h
 refine wpAny_call (codeAny_mono (F.run X.A X.stack s H ⟨us,[]⟩ (us++ds) (vs++dvs) Q E hr I.env0 (hb s us I.kIn hl) r2 h) λr s' hq=>?_);cases r with
 | error e=>exact hx H s e s' I hq
 | ok fl=>
  cases fl with
  | ret u=>exact I.after hq
  | next=>exact False.elim hq
  | brk=>exact False.elim hq
  | cont=>exact False.elim hq
theorem Ji {b:Bool} (F:qp b X.prog X.w X.K X.mg X.base CX k f fd ps sp) (hr:eO b k X.A) (hg:Gl X x) (hm:X.mg x=some (.ref f)) (hk:W.keepIn X.K (.ref f)=true) (hb:Binds X.K fd ps ds) (hd:Vals dvs ds) (hx:wC CX X E)
 (ha:PA X (e::es) t) (hdb:(x==("__debug__" : Str))=false:=by decide) (he:starEach (e::es) X.env=(false,eval e X.env)::starEach es X.env:=by rfl) (hpl:(backTo pos (starEach es X.env)).any (·.1)=false:=by rfl):
 PE X (.Call (.Name x p) (e::es) [] pos) (KJ sp dvs E t):=by
 intro pins s σ H Q I h;refine wpAny_Call_Name_kw (Cq I hg hm ?_ hdb);refine W.callWith_K (h₀:=X.base) I.ok.mod.kin hk (bJ (ha pos pins s σ H _ I h) λus s1 ⟨vs,H1,I1,r,q⟩=>⟨I1.kIn,?_⟩) he hpl;exact Gj F hr hb hd (hx _ _) I1 r q
theorem T3 {pl:Sem Bool} (he:PE X o ta) (c:wB X.K C) (hm:Meth X.K C m f) (F:mK X.prog X.w X.K X.mg X.base CX k f fd ps sp) (hr:mJ k X.A) (hb:Binds X.K fd ps ds) (hd:Vals dvs ds) (hx:wC CX X E) (ha:PA X (e::es) t)
 (hst:starEach (e::es) X.env=(false,eval e X.env)::starEach es X.env:=by rfl) (hpl:(backTo pos (starEach es X.env)).any (·.1)=false:=by rfl)
 (ht:eval (.Call (.Attribute o m apos) (e::es) [] pos) X.env=(do
   let ov <-eval o X.env
   standAt apos.atName
   let (f,first) <-holding [ov] (getMethod ov m pl)
   callWith pos f first (backTo pos (starEach (e::es) X.env)) (backToKw pos (keywordEach [] X.env))):=by rfl):
 PE X (.Call (.Attribute o m apos) (e::es) [] pos) (KN C m sp dvs E ta t):=by
 intro pins s σ H Q I h;refine ab7 (pl:=pl) (bJ (he pins s σ H _ I h) λu s1 ⟨x,H1,I1,rx,a,dx,fs,ex,ea,l,q⟩=>?_) ht;subst ex;obtain rfl:u=Value.ref a:=rx;refine uY I1 ea c hm l ?_;refine W.callWith_K (first:=[.ref a]) (h₀:=X.base) I.ok.mod.kin hm.kp (bJ (ha pos pins s1 σ H1 _ I1 q) λus s2 ⟨vs,H2,I2,r,q2⟩=>⟨I2.kIn,?_⟩) hst hpl;exact Gj (us:=.ref a::us) (vs:=.ref a::vs) F hr hb hd (hx _ _) I2 (.cons rfl r) q2
theorem Qo {pl:Sem Bool} (he:PE X o ta) (c:wB X.K C) (hm:Meth X.K C m f) (F:mK X.prog X.w X.K X.mg X.base CX k f fd ps sp) (hr:mJ k X.A) (hb:Binds X.K fd ps ds) (hd:Vals dvs ds) (hx:wC CX X E)
 (ht:eval (.Call (.Attribute o m apos) [] [] pos) X.env=(do
   let ov <-eval o X.env
   standAt apos.atName
   let (f,first) <-holding [ov] (getMethod ov m pl)
   callWith pos f first (backTo pos (starEach [] X.env)) (backToKw pos (keywordEach [] X.env))):=by rfl):
 PE X (.Call (.Attribute o m apos) [] [] pos) (KN C m sp dvs E ta Gi):=by
 intro pins s σ H Q I h;refine ab7 (pl:=pl) (bJ (he pins s σ H _ I h) λu s1 ⟨x,H1,I1,rx,a,dx,fs,ex,ea,l,q⟩=>?_) ht;subst ex;obtain rfl:u=Value.ref a:=rx;refine uY I1 ea c hm l ?_;exact W.callWith_K0 (first:=[.ref a]) I1.kIn hm.kp (Gj (us:=[.ref a]) (vs:=[.ref a]) F hr hb hd (hx _ _) I1 (.cons rfl .nil) q)
structure Mk (K:FG) (C f:Addr):Prop where
 makes:W.makesIn K C=true
 init:W.findIn K (.ref C) "__init__" = some (some (.ref f))
 fn:W.isFn K (.ref f)=true
 kp:W.keepIn K (.ref C)=true
theorem Qp {σ:St} {H:Hp} {Q:VK} {us:List Value} {vs:List V} (M:Mk X.K C f) (F:mK X.prog X.w X.K X.mg X.base CX k f fd ps sp) (hr:mJ (k+1) X.A) (hb:Binds X.K fd ps ds) (hd:Vals dvs ds)
 (hx:∀H s e s',Inv X pins σ H s->CX X.stack H s E e s'->X.xe e s') (I:Inv X pins σ H s) (r:Vals vs us)
 (h:∀x dx,H x=none->H dx=none->dx≠x->sp (.ref x::(vs++dvs)) (upd (upd H dx (.own x)) x (.ins C dx [])) (λv H2=>v=.non/\Q (.ref x) H2) E):
 wpAny (model X.prog X.w) X.A (call (.ref C) us) (EP X pins σ Q) X.xe s:=by
 have hq:=h (s.heap.objs.size+1) s.heap.objs.size (I.hok.fresh (abB _)) (I.hok.fresh (aaf _)) (aaL (aaM _));have I2:=Inv.made (C:=C) I;have r2:Vals (V.ref (s.heap.objs.size+1)::(vs++dvs)) (Value.ref (s.heap.objs.size+1)::(us++ds)):=.cons rfl (r.append hd);have hl:(Value.ref (s.heap.objs.size+1)::us++ds).length=ps.length:=by have e:=r2.length;rw[F.len _ _ _ _ hq]at e;exact e.symm
 refine wpAny_call (Qm (f:=f) I.kIn M.makes M.init (beq_iff_eq.mp M.fn) (codeAny_mono (F.run _ X.stack _ _ ⟨Value.ref (s.heap.objs.size+1)::us,[]⟩ (Value.ref (s.heap.objs.size+1)::(us++ds)) _ _ E (hr.make C us [])
  (I2.env0.make C us []) (hb _ (Value.ref (s.heap.objs.size+1)::us) I2.kIn hl) r2 hq) λr s' hq'=>?_))
 cases r with
 | error e=>exact hx _ _ e s' I2 hq'
 | ok fl=>
  cases fl with
  | ret u=>
   obtain⟨v,H',I3,rv,ev,q3⟩:=I2.after hq';subst ev;exact⟨rv,⟨V.ref (s.heap.objs.size+1),H',I3,rfl,q3⟩⟩
  | next=>exact False.elim hq'
  | brk=>exact False.elim hq'
  | cont=>exact False.elim hq'
theorem T4 (M:Mk X.K C f) (F:mK X.prog X.w X.K X.mg X.base CX k f fd ps sp) (hr:mJ (k+1) X.A) (hg:Gl X x) (hm:X.mg x=some (.ref C)) (hb:Binds X.K fd ps ds) (hd:Vals dvs ds) (hx:wC CX X E)
 (ha:PA X (e::es) t) (hdb:(x==("__debug__" : Str))=false:=by decide) (he:starEach (e::es) X.env=(false,eval e X.env)::starEach es X.env:=by rfl) (hpl:(backTo pos (starEach es X.env)).any (·.1)=false:=by rfl):
 PE X (.Call (.Name x p) (e::es) [] pos) (RX C sp dvs E t):=by
 intro pins s σ H Q I h;refine wpAny_Call_Name_kw (Cq I hg hm ?_ hdb);refine W.callWith_K (h₀:=X.base) I.ok.mod.kin M.kp (bJ (ha pos pins s σ H _ I h) λus s1 ⟨vs,H1,I1,r,q⟩=>⟨I1.kIn,?_⟩) he hpl;exact Qp M F hr hb hd (hx _ _) I1 r q
end
section
variable {X:Cx} {CX:v7} {k:Nat} {f C:Addr} {fd:FuncData} {ps ks:List Str} {sp:Sp} {E:XK} {x m:Str} {p pos apos kpos:Pos} {e o:Expr} {es:List Expr} {kws:List Keyword} {te ta:TE} {t tk:TA} {nm:Option Str}
variable {g:List Value->List Value->List Value} {gV:List V->List V->List V}
end
structure aR (N P:List Str) (sc:Scope):Prop where
 kind:sc.kind=.function
 co:sc.isCoroutine=false
 gen:sc.isGenerator=false
 nd:N.Nodup
 pre:N.take P.length=P
 par:∀x∈P,sc.names.lookup x=some .local\/sc.names.lookup x=some .cell
 nofree:∀y∈sc.names,y.2≠.free
theorem Dz {kindOf:Str->Option NameKind} {x:Str}:∀{binds:List (Str×Value)} {m:Str->Option Value},(∀v,(x,v)∉binds)->bindL kindOf binds m x=m x
 | [],_,_=>rfl
 | (n,v)::r,m,h=>by
  unfold bindL;rw[Dz λw hw=>h w (aak _ hw)];split
  . have:x≠n:=by rintro rfl; exact h v aac
    simp[this]
  . rfl
theorem DG {kindOf:Str->Option NameKind} {x:Str}:∀{binds:List (Str×Value)} {m:Str->Option Value},(∀v,(x,v)∉binds)->bindC kindOf binds m x=m x
 | [],_,_=>rfl
 | (n,v)::r,m,h=>by
  unfold bindC;rw[DG λw hw=>h w (aak _ hw)];split
  . rfl
  . have:x≠n:=by rintro rfl; exact h v aac
    simp[this]
theorem DK {kindOf:Str->Option NameKind} {x:Str} {v:Value}:∀{P:List Str} {vs:List Value} {i:Nat} {m:Str->Option Value},P.Nodup->P[i]?=some x->vs[i]?=some v->kindOf x=some .local->
 bindL kindOf (P.zip vs) m x=some v
 | [],_,_,_,_,h,_,_=>by simp at h
 | _::_,[],_,_,_,_,h,_=>by simp at h
 | p::P,w::vs,0,m,nd,h1,h2,hk=>by simp at h1 h2; subst h1; subst h2;show bindL kindOf ((p,w)::P.zip vs) m p=_;unfold bindL;rw[Dz λv hv=>(aaP.mp nd).1 (abh hv).1,aca hk];simp
 | p::P,w::vs,i+1,m,nd,h1,h2,hk=>by show bindL kindOf ((p,w)::P.zip vs) m x=_;unfold bindL;exact DK (i:=i) (aaP.mp nd).2 (by simpa using h1) (by simpa using h2) hk
theorem DN {kindOf:Str->Option NameKind} {x:Str} {v:Value}:∀{P:List Str} {vs:List Value} {i:Nat} {m:Str->Option Value},P.Nodup->P[i]?=some x->vs[i]?=some v->kindOf x≠some .local->
 bindC kindOf (P.zip vs) m x=some v
 | [],_,_,_,_,h,_,_=>by simp at h
 | _::_,[],_,_,_,_,h,_=>by simp at h
 | p::P,w::vs,0,m,nd,h1,h2,hk=>by simp at h1 h2; subst h1; subst h2;show bindC kindOf ((p,w)::P.zip vs) m p=_;unfold bindC;rw[DG λv hv=>(aaP.mp nd).1 (abh hv).1,acb hk];simp
 | p::P,w::vs,i+1,m,nd,h1,h2,hk=>by show bindC kindOf ((p,w)::P.zip vs) m x=_;unfold bindC;exact DN (i:=i) (aaP.mp nd).2 (by simpa using h1) (by simpa using h2) hk
def start (N:List Str) (vs:List V):St:=vs.map some++List.replicate (N.length-vs.length) none
def sI (b:Bool) (CX:v7) (P:Program) (w:World) (K:FG) (mg:Str->Option Value) (base:Heap) (N:List Str) (qual:Str) (scope:Scope) (f:Addr) (cd:Value) (A:Around) (outer:List Env) (s:Shared) (H:Hp) (E:XK):Cx where
 prog:=P
 w:=w
 K:=K
 mg:=mg
 base:=base
 A:=A.deeper (envOfC qual scope s.heap.objs.size f cd)
 N:=N
 s₀:=s
 H0:=H
 env:=envOfC qual scope s.heap.objs.size f cd
 outer:=outer
 stack:=envOfC qual scope s.heap.objs.size f cd::outer
 ex:=[]
 calm:=b
 fn:=λ_=>true
 pn:=[]
 xe:=λe s'=>wpAny (model P w) (A.deeper (envOfC qual scope s.heap.objs.size f cd)) (leaving (envOfC qual scope s.heap.objs.size f cd) e) (λ_ s''=>CX outer H s E e s'') (λe' s''=>CX outer H s E e' s'') s'
abbrev Qq:=sI true
theorem Gk {sc:Scope} {n:Nat} {x:Str} (h:sc.names.lookup x=some .cell):∃c,(cellsFrom n sc.names []).lookup x=some c:=by have q:=ab3 sc.names n [] (.inl h);exact abG.mp q
theorem My {cm:Bool} {CX:v7} {K:FG} {mg:Str->Option Value} {base:Heap} {N ps:List Str} {qual:Str} {scope:Scope} {f:Addr} {cd:Value} {outer:List Env} {s s1:Shared} {H:Hp} {E:XK} {us:List Value} {vs:List V}
 (S:aR N ps scope) (hd:cm=true->A.handled=none) (e0:yZ P w K mg base A outer s H) (hl:vs.length=ps.length) (r:Vals vs us)
 (x:InCallC s s.heap.objs.size (bindL (envOfC qual scope s.heap.objs.size f cd).kindOf (ps.zip us) λ_=>none) (cellsFrom (s.heap.objs.size+1) scope.names []) (bindC (envOfC qual scope s.heap.objs.size f cd).kindOf (ps.zip us) λ_=>none) s1):
 Inv (sI cm CX P w K mg base N qual scope f cd A outer s H E) [] (start N vs) H s1:=by
 have hpl:ps.length<=N.length:=by have:=congrArg List.length S.pre; rw[ab4]at this; omega
 obtain⟨h1,tk,rfl,hk⟩:=x.done;have noA:∀b:Addr,b∉(sI cm CX P w K mg base N qual scope f cd A outer s H E).ex:=λb z=>absurd (show b∈([]:List Addr) from z) (by simp);refine⟨⟨e0.mod,S.kind,rfl,rfl,aaf _,λy z c h1 h2=>?_,λy hy=>?_,λy c _ h=>?_,hd,Around.frames_deeper e0.frames,.inr ⟨rfl,rfl⟩,λb z=>absurd z (noA b),e0.bs,e0.bsz,λb _ _=>noA b,λb z=>absurd z (noA b),e0.funs,e0.frf⟩,
  rfl,e0.bare,Un.kept hk,⟨_,x.toInCall.ns,λi y v h1 h2 h3=>?_⟩,λy c h=>⟨_,x.cell y c h⟩,e0.hok.fresh (aaf _),λy c h=>?_,λp hp=>absurd (show p∈([]:List (Addr×Obj)) from hp) (by simp),e0.hok.kept hk,?_⟩
 . exact name_of_addr x.apart (abr h1) (abr h2)
 . have hy:scope.names.lookup y=some .cell\/scope.names.lookup y=some .free:=hy;rcases hy with hy | hy
   . exact Gk hy
   . exact absurd rfl (S.nofree _ (abr hy))
 . exact abF (x.above y c (abr h))
 . have hi:i<vs.length:=by
    unfold start at h2;by_cases hi:i<vs.length
    . exact hi
    . rw[aav (by simpa using hi)]at h2;rw[List.getElem?_replicate]at h2;split at h2<;>cases h2
   have ha:vs[i]?=some v:=by
    unfold start at h2;rw[aaI (by simpa using hi),aaJ]at h2;cases e:vs[i]? with
    | none=>rw[e]at h2; cases h2
    | some a=>rw[e]at h2; cases h2; rfl
   obtain⟨u,hu,rv⟩:=r.get ha;have hp:ps[i]?=some y:=by rw[<-S.pre,List.getElem?_take_of_lt (by omega)]; exact h1
   have ndP:ps.Nodup:=by rw[<-S.pre]; exact S.nd.sublist (List.take_sublist _ _)
   refine⟨u,rv,?_⟩;rcases S.par y (aa0 hp) with k | k
   . exact .inl ⟨k,DK ndP hp hu k⟩
   . obtain⟨c,e⟩:=Gk (n:=s.heap.objs.size+1) k;refine .inr ⟨.inl k,c,e,?_⟩;have q:=x.cell y c e;rw[DN ndP hp hu (by show scope.names.lookup y≠_; rw[k]; decide)]at q;exact q
 . exact e0.hok.fresh (abF (x.above y c (abr h)))
 . unfold start;show _=N.length;rw[aah,aag,List.length_replicate];omega
theorem Yz {b:Bool} {CX:v7} {K:FG} {mg:Str->Option Value} {base:Heap} {k:Nat} {f:Addr} {name qual:Str} {params:Arguments} {body:List Stmt} {scope:Scope} {dV kV doc pm cdv ct oc:Value} {an od:Option Addr}
 {osl:Array (Option Value)} {N ps:List Str} {sp:Sp} (lk:K.lookup f=some ⟨oc,od,.func (W.fnOf name qual params body scope dV kV doc pm an cdv ct),osl⟩) (hcd:W.codeIn K cdv qual=true) (S:aR N ps scope)
 (len:∀vs H Q E,sp vs H Q E->vs.length=ps.length)
 (hbody:∀(A:Around) (outer:List Env) (s:Shared) (H:Hp) (vs:List V) (Q:VK) (E:XK),eO b k (A.deeper (envOfC qual scope s.heap.objs.size f cdv))->sp vs H Q E->
   ∃t,iK (sI b CX P w K mg base N qual scope f cdv A outer s H E) body t/\t { nx:=λ_ H'=>Q .non H',rt:=Q } (start N vs) H):
 qp b P w K mg base CX (k+1) f (W.fnOf name qual params body scope dV kV doc pm an cdv ct) ps sp:=by
 refine⟨len,λA outer s H args us vs Q E hr e0 hb r hsp=>?_⟩;have hl:=len _ _ _ _ hsp;have KX:K.In s.heap:=e0.mod.kin.keeps λb o e=>(e0.bs b o e).1;have lim:s.heap.NoLimit:=e0.mod.nolimit.keeps λb o e=>(e0.bs b o e).1;have hkind:∀y∈ps.zip us,scope.names.lookup y.1=some .local\/(scope.names.lookup y.1=some .cell/\((cellsFrom (s.heap.objs.size+1) scope.names []).lookup y.1).isSome=true):=λ⟨n,v⟩ hy=>by
  rcases S.par n (abh hy).1 with q | q
  . exact .inl q
  . exact .inr ⟨q,ab3 _ _ _ (.inl q)⟩
 refine codeAny_call_function hr.depth (KX _ _ lk) rfl S.co S.gen rfl (W.codeRec_of KX hcd) (hb _ _ _ _ ?_);refine wpAny_newFunctionEnv_cells S.kind hkind λenv he s1 x=>?_;subst he;refine⟨lim.keeps x.toInCall.keep,codeAny_func ?_⟩;obtain⟨t,ht,hq⟩:=hbody A outer s H vs Q E (hr.deeper _) hsp;have I:Inv (sI b CX P w K mg base N qual scope f cdv A outer s H E) [] (start N vs) H s1:=My S hr.hd e0 hl r x;refine wpAny_mono (ht [] s1 (start N vs) H _ I hq) (λfl s' hs=>?_) λe s' hs=>hs;have fin:∀{σ':St} {H':Hp} {v:V} {u:Value},Inv (sI b CX P w K mg base N qual scope f cdv A outer s H E) [] σ' H' s'->RelV v u->Q v H'->CE outer P w H s Q u s':=
  λ{σ' H' v u} J rv q=>⟨v,H',J.os,J.bare,J.base,J.hok,rv,q⟩
 cases fl with
 | ret u=>
  obtain⟨v,σ',H',J,rv,q⟩:=hs;exact fin J rv q
 | next=>
  obtain⟨σ',H',J,q⟩:=hs;exact fin (v:=V.non) (u:=Value.none) J rfl q
 | brk=>
  obtain⟨_,_,_,q⟩:=hs;exact False.elim q
 | cont=>
  obtain⟨_,_,_,q⟩:=hs;exact False.elim q
section
variable {X:Cx} {x:Str} {p pos:Pos} {e:Expr} {es:List Expr} {t:TA} {id T:String} {r:List V->Hp->VK->Prop}
def DP (r:List V->Hp->VK->Prop) (t:TA):TE:=λσ H Q=>t σ H λvs H1=>r vs H1 Q
theorem cD (hc:m8 X (.builtin id) r) (hg:Gl X x) (hm:X.mg x=none) (hv:bootBuiltins x=some (.builtin id)) (ha:PA X (e::es) t) (hn:x ≠ "__name__" := by decide) (hdb:(x==("__debug__" : Str))=false:=by decide)
 (he:starEach (e::es) X.env=(false,eval e X.env)::starEach es X.env:=by rfl) (hpl:(backTo pos (starEach es X.env)).any (·.1)=false:=by rfl):PE X (.Call (.Name x p) (e::es) [] pos) (DP r t):=by
 intro pins s σ H Q I h;refine wpAny_Call_Name_kw (qR I hg hm hv ?_ hn hdb);exact PyProof.Rows.callWith_builtin1 (bJ (ha pos pins s σ H _ I h) λus s1 ⟨vs,H1,I1,r1,q1⟩=>hc pins s1 σ H1 vs us Q I1 r1 q1) he hpl
theorem jC (hc:m8 X (.type T) r) (hg:Gl X x) (hm:X.mg x=none) (hv:bootBuiltins x=some (.type T)) (ha:PA X (e::es) t) (hn:x ≠ "__name__" := by decide) (hdb:(x==("__debug__" : Str))=false:=by decide)
 (he:starEach (e::es) X.env=(false,eval e X.env)::starEach es X.env:=by rfl) (hpl:(backTo pos (starEach es X.env)).any (·.1)=false:=by rfl):PE X (.Call (.Name x p) (e::es) [] pos) (DP r t):=by
 intro pins s σ H Q I h;refine wpAny_Call_Name_kw (qR I hg hm hv ?_ hn hdb);exact PyProof.Rows.callWith_type1 (bJ (ha pos pins s σ H _ I h) λus s1 ⟨vs,H1,I1,r1,q1⟩=>hc pins s1 σ H1 vs us Q I1 r1 q1) he hpl
end
end L2
namespace HT
open PySem PyProof.Rows
section
open PySem.SeqAt
open PySem.AutoSeq1 (wpAny_loadPart')
open PySem.MeetsSeq PySem.MeetsSeq2 PySem.MeetsSeq3
end
section
variable {prog:Program} {w:World} {A:Around} {E:Value->Shared->Prop} {s:Shared}
theorem cat_tup {t b:Addr} {vs ws:List Value} {Q:Value->Shared->Prop} (ht:IsTup s.heap t vs.toArray) (hb:IsTup s.heap b ws.toArray) (hv:vs≠[])
 (h1:ws=[]->Q (.ref t) s) (h2:ws≠[]->Q (.ref s.heap.objs.size) { s with heap:=s.heap.push { cls:=.type "tuple",data:=.seq (vs++ws).toArray } })
 (hsz:vs.length+ws.length<=sizeLine):wpAny (model prog w) A (binaryOp .Add (.ref t) (.ref b)) Q E s:=by
 obtain⟨⟨cls,dd,data,sl⟩,ho,hc,n,hd⟩:=id ht;obtain⟨⟨cls2,dd2,data2,sl2⟩,ho2,hc2,n2,hd2⟩:=id hb;simp only at hc hd hc2 hd2;subst hc hd hc2 hd2;have e:vs.toArray++ws.toArray=(vs++ws).toArray:=by simp
 by_cases hw:ws=[]
 . exact concat_meets ⟨_,ho,rfl⟩ ⟨_,ho2,rfl⟩ noFill_tuple_add seq_tuple_add F.slot_tuple_add F.entry_tuple_add (F.args_tuple_add_2 _ _)
    (tuple_addW1 t b vs.toArray ws.toArray n n2 dd dd2 sl sl2 (by simpa using hv) (by simp[hw])) ⟨ho,ho2,h1 hw⟩
 . refine concat_meets ⟨_,ho,rfl⟩ ⟨_,ho2,rfl⟩ noFill_tuple_add seq_tuple_add F.slot_tuple_add F.entry_tuple_add (F.args_tuple_add_2 _ _)
    (tuple_addW2 t b vs.toArray ws.toArray n n2 dd dd2 sl sl2 (by simpa using hv) (by simpa using hw) (by rw[aat,aat]; exact hsz)) ⟨ho,ho2,?_⟩
   rw[e];exact h2 hw
def sIx (n d:Nat):Option Int->Nat
 | none=>d
 | some v=>if v<0 then (v+(n:Int)).toNat else min v.toNat n
theorem sIx_le (n d:Nat) (hd:d<=n) (o:Option Int):sIx n d o<=n:=by
 cases o with
 | none=>exact hd
 | some v=>
  show (if v<0 then (v+(n:Int)).toNat else min v.toNat n)<=n;by_cases hv:v<0
  . rw[aca hv]; omega
  . rw[acb hv]; exact Nat.min_le_right _ _
theorem Jj (v:Int) (n d:Nat):(if v<0 then max (v+(n:Int)) 0 else min v (n:Int))=((sIx n d (some v):Nat):Int):=by
 show (if v<0 then max (v+(n:Int)) 0 else min v (n:Int))=(((if v<0 then (v+(n:Int)).toNat else min v.toNat n):Nat):Int);by_cases hv:v<0
 . simp only[aca hv]; omega
 . simp only[acb hv]; omega
theorem KQ (lo hi:Option Int) (n:Nat):Builtin.Slice.sliceAdjust lo hi 1 (n:Int)=(((sIx n 0 lo:Nat):Int),((sIx n n hi:Nat):Int)):=by
 have h1:¬ ((1:Int)<0):=by omega
 unfold Builtin.Slice.sliceAdjust;simp only[h1,if_false];refine Prod.ext ?_ ?_
 . cases lo with
   | none=>rfl
   | some v=>exact Jj v n 0
 . cases hi with
   | none=>rfl
   | some v=>exact Jj v n n
theorem KR (i j:Nat):Builtin.Slice.slicePlaces (i:Int) (j:Int) 1=j-i:=by
 unfold Builtin.Slice.slicePlaces;have h1:(1:Int)>0:=by omega
 simp only[h1,if_true,Int.ediv_one];split<;>omega
theorem Ab {v:Value} {o:Option Int} {Q:Option Int->Shared->Prop} (p:IsPart v o) (h:Q o s):wpAny (model prog w) A (Builtin.Slice.slicePartIndex v) Q E s:=by
 cases p with
 | none=>exact slicePart_none h
 | int i t=>exact slicePart_int h
theorem zc {sl:Addr} {vl vu:Value} {lo hi:Option Int} {n:Nat} {Q:Int×Int×Nat->Shared->Prop} (hs:s.heap.IsSliceOf sl vl vu .none) (pl:IsPart vl lo) (pu:IsPart vu hi)
 (h:Q (((sIx n 0 lo:Nat):Int),1,sIx n n hi-sIx n 0 lo) s):wpAny (model prog w) A (Builtin.Slice.sliceApplied (.ref sl) (pure (n:Int))) Q E s:=by
 obtain⟨os,hos,hcs,hds⟩:=id hs;unfold Builtin.Slice.sliceApplied Builtin.Slice.sliceFields;refine ab9 (ab9 (wpAny_field hos hds (x:=vl) rfl (ab9 (wpAny_field hos hds (x:=vu) rfl (ab9 (wpAny_field hos hds (x:=.none) rfl (acd ?_)))))));refine ab9 (slicePart_none ?_);show wpAny _ _ (if ((1:Int)==0)=true then _ else _) _ _ s;rw[acb (by decide)];refine ab9 (Ab pl (ab9 (Ab pu (ab9 (acd ?_)))));show wpAny _ _ (match Builtin.Slice.sliceAdjust lo hi 1 (n:Int) with | (lo,hi)=>pure (lo,(1:Int),Builtin.Slice.slicePlaces lo hi 1)) _ _ s;rw[KQ lo hi n];show wpAny _ _ (pure (((sIx n 0 lo:Nat):Int),(1:Int),Builtin.Slice.slicePlaces ((sIx n 0 lo:Nat):Int) ((sIx n n hi:Nat):Int) 1)) _ _ s;rw[KR];exact acd h
theorem Qs (xs:Array Value) (i k:Nat):((List.range k).filterMap λ(m:Nat)=>xs[((i:Int)+(m:Int)*1).toNat]?).toArray=((xs.toList.drop i).take k).toArray:=by
 have e:(λ(m:Nat)=>xs[((i:Int)+(m:Int)*1).toNat]?)=λm=>xs[i+m]?:=by
  funext m;have:((i:Int)+(m:Int)*1).toNat=i+m:=by omega
  rw[this]
 rw[e];have:=pick_run xs i k;rw[List.filterMap_map]at this;have e2:((λx=>xs[x]?) ∘ λx=>i+x)=λm=>xs[i+m]?:=rfl;rw[e2]at this;rw[this]
theorem getItem_tuple_cut {t sl:Addr} {items:Array Value} {vl vu:Value} {lo hi:Option Int} {Q:Value->Shared->Prop} (ht:IsTup s.heap t items) (hs:s.heap.IsSliceOf sl vl vu .none) (pl:IsPart vl lo) (pu:IsPart vu hi)
 (hw:¬ (sIx items.size 0 lo=0/\sIx items.size items.size hi=items.size))
 (h:Q (.ref s.heap.objs.size) { s with heap:=s.heap.push { cls:=.type "tuple",data:=.seq ((items.toList.drop (sIx items.size 0 lo)).take (sIx items.size items.size hi-sIx items.size 0 lo)).toArray } })
 (hsz:items.size<=sizeLine):wpAny (model prog w) A (getItem (.ref t) (.ref sl)) Q E s:=by
 have htake:sizeOk (.seq ((items.toList.drop (sIx items.size 0 lo)).take (sIx items.size items.size hi-sIx items.size 0 lo)).toArray):=by show ((items.toList.drop (sIx items.size 0 lo)).take (sIx items.size items.size hi-sIx items.size 0 lo)).toArray.size<=sizeLine;rw[aat,ab4,List.length_drop,abC];omega
 have hj:sIx items.size items.size hi<=items.size:=sIx_le _ _ (aaf _) hi;obtain⟨os,hos,hcs,hds⟩:=id hs;have hTs:s.TypeIs (.ref sl) "slice" := ⟨os,hos,hcs⟩;unfold getItem
 try with_reducible refine wpAny_holding ?_
 first | refine ab9 (acd ?_) | skip
 refine ab9 (wpAny_sequenceKey ht.typeIs (by decide) ?_);refine ab9 (wpAny_callSpecial?_slot (name:=Str.ofString "__getitem__") ht.typeIs PyProof.Rows.slot_tuple_getitem
  (wpAny_call_entry PyProof.Rows.slot_tuple_getitem ht.typeIs entry_tuple_getitem ?_ (args_tuple_getitem _ _)))
 show wpAny _ _ (Builtin.Tuple.tupleItemsOf (.ref t) >>= _) _ _ s;refine ab9 (tupleItemsOf_ ht ?_);refine ab9 (wpAny_typeOf hTs ?_);rw[aca (by decide)];refine ab9 (zc hs pl pu ?_);have hno:¬ ((((sIx items.size 0 lo:Nat):Int)==0&&(1:Int)==1&&(sIx items.size items.size hi-sIx items.size 0 lo)==items.size)=true):=by intro q;rw[abz,abz]at q;have q1:((sIx items.size 0 lo:Nat):Int)=0:=eq_of_beq q.1.1;have q2:sIx items.size items.size hi-sIx items.size 0 lo=items.size:=eq_of_beq q.2;exact hw ⟨by omega,by omega⟩
 show wpAny _ _ (if (((sIx items.size 0 lo:Nat):Int)==0&&(1:Int)==1&&(sIx items.size items.size hi-sIx items.size 0 lo)==items.size)=true then _ else _) _ _ s;rw[acb hno,Qs]
 first
  | exact ab9 (m:=Builtin.Tuple.tupleExact _) (wpAny_newObj_type (acd ⟨_,rfl,acd h⟩) htake)
  | exact ab9 (m:=Builtin.Tuple.tupleExact _) (wpAny_newObj_type (ab9 (acd (acd ⟨_,rfl,acd h⟩))) htake)
  | exact ab9 (ab9 (m:=Builtin.Tuple.tupleExact _) (wpAny_newObj_type (acd (acd ⟨_,rfl,acd h⟩)) htake))
  | exact ab9 (ab9 (m:=Builtin.Tuple.tupleExact _) (wpAny_newObj_type (acd ⟨_,rfl,acd h⟩) htake))
end
end HT
namespace L2
open PySem PySem.Spec PyProof.Rows
variable {pins:List (Addr×Obj)} {E:Value->Shared->Prop} {s:Shared} {A:Around} {w:World} {P:Program}
abbrev TO:=St->Hp->(Option Int->Hp->Prop)->Prop
def PO (X:Cx) (e:Option Expr) (t:TO):Prop:=
 ∀(pins:List (Addr×Obj)) (s:Shared) (σ:St) (H:Hp) (Q:Option Int->Hp->Prop),Inv X pins σ H s->t σ H Q->
  wpAny (model X.prog X.w) X.A (evalPart e X.env) (λu s'=>∃o H',Inv X pins σ H' s'/\IsPart u o/\Q o H') X.xe s
def T5:TO:=λ_ H Q=>Q none H
def YB (t:TE):TO:=λσ H Q=>t σ H λx H1=>∃i,x=.int i/\Q (some i) H1
section
variable {X:Cx} {e:Expr} {te:TE} {lo hi:Option Expr} {tl th:TO} {pos p2:Pos}
theorem T6:PO X none T5:=by intro pins s σ H Q I h;rw[evalPart_none];exact acd ⟨none,H,I,.none,h⟩
theorem T7 (h:PE X e te):PO X (some e) (YB te):=by intro pins s σ H Q I hw;rw[evalPart_some];refine bJ (h pins s σ H _ I hw) λu s1 ⟨x,H1,I1,r1,q1⟩=>?_;obtain⟨i,rfl,q⟩:=q1;obtain⟨t,rfl⟩:=r1;exact⟨some i,H1,I1,.int i t,q⟩
def DQ (X:Cx) (r:V->Option Int->Option Int->Hp->VK->Prop):Prop:=
 ∀(pins:List (Addr×Obj)) (s:Shared) (σ:St) (H:Hp) (x:V) (v vl vu:Value) (lo hi:Option Int) (sl:Addr) (Q:VK),Inv X pins σ H s->RelV x v->s.heap.IsSliceOf sl vl vu .none->IsPart vl lo->IsPart vu hi->r x lo hi H Q->
  ∃T id,typeLookup (.type T) "__getitem__" = pure (some (.builtin id))/\s.TypeIs v T/\wpAny (model X.prog X.w) X.A (getItem v (.ref sl)) (EP X pins σ Q) X.xe s
theorem DQ.or {r r':V->Option Int->Option Int->Hp->VK->Prop} (h:DQ X r) (h':DQ X r'):DQ X (λx lo hi H Q=>r x lo hi H Q\/r' x lo hi H Q):=by
 intro pins s σ H x v vl vu lo hi sl Q I rx hs pl pu q;rcases q with q | q
 . exact h pins s σ H x v vl vu lo hi sl Q I rx hs pl pu q
 . exact h' pins s σ H x v vl vu lo hi sl Q I rx hs pl pu q
def tSl (r:V->Option Int->Option Int->Hp->VK->Prop) (te:TE) (tl th:TO):TE:=λσ H Q=>te σ H λx H1=>tl σ H1 λl H2=>th σ H2 λu H3=>r x l u H3 Q
theorem Gm {r:V->Option Int->Option Int->Hp->VK->Prop} (hr:DQ X r) (he:PE X e te) (hl:PO X lo tl) (hu:PO X hi th):PE X (.Subscript e (.Slice lo hi none p2) pos) (tSl r te tl th):=by intro pins s σ H Q I h;refine Subscript_ (bJ (he pins s σ H _ I h) λv s1 ⟨x,H1,I1,r1,q1⟩=>?_);refine wpAny_Slice (bJ (hl pins s1 σ H1 _ I1 q1) λvl s2 ⟨l,H2,I2,pl,q2⟩=>bJ (hu pins s2 σ H2 _ I2 q2) λvu s3 ⟨u,H3,I3,pu,q3⟩=>?_);rw[evalPart_none];refine acd ?_;have I4:Inv X pins σ H3 { s3 with heap:=s3.heap.push { cls:=.type "slice",data:=.fields #[vl,vu,.none] } }:=I3.kept (t':=s3.toks) λb ob q=>aad _ q;obtain⟨T,id,hT,ht,hg⟩:=hr pins { s3 with heap:=s3.heap.push { cls:=.type "slice",data:=.fields #[vl,vu,.none] } } σ H3 x v vl vu l u s3.heap.objs.size Q I4 r1 (Heap.IsSliceOf.new ..) pl pu q3;show wpAny (model X.prog X.w) X.A (subscriptTail e (.Slice lo hi none p2) v (.ref s3.heap.objs.size)) (EP X pins σ Q) X.xe { s3 with heap:=s3.heap.push { cls:=.type "slice",data:=.fields #[vl,vu,.none] } };exact tail_any (ops:=[.ref s3.heap.objs.size,v]) ht hT hg (by with_unfolding_all rfl)
def qU (xs:List V) (lo hi:Option Int):List V:=(xs.drop (HT.sIx xs.length 0 lo)).take (HT.sIx xs.length xs.length hi-HT.sIx xs.length 0 lo)
theorem yM (xs:List V) (lo hi:Option Int):(qU xs lo hi).length<=xs.length:=by unfold qU;rw[ab4,List.length_drop];omega
def ZL (K:FG):V->Option Int->Option Int->Hp->VK->Prop:=λx lo hi H Q=>∃a xs,x=.ref a/\cM K H a xs/\
 ¬ (HT.sIx xs.length 0 lo=0/\HT.sIx xs.length xs.length hi=xs.length)/\∀p,H p=none->Q (.ref p) (upd H p (.tup (qU xs lo hi)))
theorem Wo:DQ X (ZL X.K):=by
 intro pins s σ H x v vl vu lo hi sl Q I rx hs pl pu h;obtain⟨a,xs,rfl,hx,hw,q⟩:=h;cases rx;obtain⟨its,r,ht,hz⟩:=I.tuple hx;have hlen:its.toArray.size=xs.length:=by rw[aat]; exact r.length.symm
 refine⟨"tuple",_,PyProof.Rows.slot_tuple_getitem.lookup,ht.typeIs,?_⟩;refine HT.getItem_tuple_cut ht hs pl pu (by rw[hlen]; exact hw) ?_ (by rw[hlen]; exact hz);rw[hlen];refine⟨.ref s.heap.objs.size,_,I.laid (t':=s.toks) (o:=.tup (qU xs lo hi)) (λb ob q=>aad _ q) (aaf _) ?_,rfl,q _ (I.hok.fresh (aaf _))⟩;exact⟨aaR (yM xs lo hi) hz,_,(r.drop (HT.sIx xs.length 0 lo)).take (HT.sIx xs.length xs.length hi-HT.sIx xs.length 0 lo),IsTup.new _ _⟩
def RZ (K:FG):R2:=λx y H Q=>∃a b xs ys,x=.ref a/\y=.ref b/\cM K H a xs/\cM K H b ys/\xs≠[]/\xs.length+ys.length<=sizeLine/\
 (ys=[]->Q (.ref a) H)/\(ys≠[]->∀p,H p=none->Q (.ref p) (upd H p (.tup (xs++ys))))
theorem Vals.nil_iff {xs:List V} {us:List Value} (r:Vals xs us):us=[] ↔ xs=[]:=by
 cases r with
 | nil=>simp
 | cons _ _=>simp
theorem T8:d7 X (binaryOp .Add) (RZ X.K):=by intro pins s σ H x y v u Q I rx ry h;obtain⟨a,b,xs,ys,rfl,rfl,ha,hb,hx,hz,q1,q2⟩:=h;cases rx;cases ry;obtain⟨its,r1,p1,_⟩:=I.tuple ha;obtain⟨its2,r2,p2,_⟩:=I.tuple hb;refine HT.cat_tup p1 p2 (λz=>hx (r1.nil_iff.mp z)) (λz=>⟨.ref a,H,I,rfl,q1 (r2.nil_iff.mp z)⟩) (λz=>?_) (by rw[<-r1.length,<-r2.length]; exact hz);refine⟨.ref s.heap.objs.size,_,I.laid (t':=s.toks) (o:=.tup (xs++ys)) (λb ob q=>aad _ q) (aaf _) ?_,rfl,q2 (λw=>z (r2.nil_iff.mpr w)) _ (I.hok.fresh (aaf _))⟩;exact⟨by rw[aah]; exact hz,_,r1.append r2,IsTup.new _ _⟩
end
def Ac (n:Nat) (i:Int):Option Nat:=if 0<=i then (if i<n then some i.toNat else none) else if -(n:Int)<=i then some (i+n).toNat else none
def gw {α:Type} (xs:List α) (i:Int):Option α:=(Ac xs.length i).bind λj=>xs[j]?
theorem T9 {n:Nat} {i:Int} {j:Nat} (h:Ac n i=some j):seqIndex? i n=some j/\j<n/\-(n:Int)<=i/\i<n:=by
 unfold Ac at h;by_cases h0:0<=i
 . rw[aca h0]at h;by_cases h1:i<n
   . rw[aca h1]at h;have e:i.toNat=j:=aaA h;exact⟨by rw[seqIndex_of h0 h1,e],by omega,by omega,h1⟩
   . rw[acb h1]at h; cases h
 . rw[acb h0]at h;by_cases h1:-(n:Int)<=i
   . rw[aca h1]at h;have e:(i+n).toNat=j:=aaA h;exact⟨by rw[seqIndex_neg (by omega) h1,e],by omega,h1,by omega⟩
   . rw[acb h1]at h; cases h
theorem Cv {α:Type} {xs:List α} {i:Int} {v:α} (h:gw xs i=some v):∃j,seqIndex? i xs.length=some j/\xs[j]?=some v/\j<xs.length/\-(xs.length:Int)<=i/\i<xs.length:=by
 unfold gw at h;cases e:Ac xs.length i with
 | none=>rw[e]at h; cases h
 | some j=>
  rw[e]at h;obtain⟨h1,h2,h3,h4⟩:=T9 e;exact⟨j,h1,h,h2,h3,h4⟩
def yf (b:Expr):Prop:=∀o i,subscripted b false o i=operate [o,i] (getItem o i)
def yN (X:Cx) (r:R2):Prop:=
 ∀(value slice:Expr) (pins:List (Addr×Obj)) (s:Shared) (σ:St) (H:Hp) (x y:V) (v u:Value) (Q:VK),Inv X pins σ H s->RelV x v->RelV y u->r x y H Q->
  subscripted slice false v u=operate [v,u] (getItem v u)->wpAny (model X.prog X.w) X.A (subscriptTail value slice v u) (EP X pins σ Q) X.xe s
def Mz (X:Cx) (id:String) (r:V->List V->Hp->VK->Prop):Prop:=
 ∀(pins:List (Addr×Obj)) (s:Shared) (σ:St) (H:Hp) (x:V) (xs:List V) (v:Value) (us:List Value) (Q:VK),Inv X pins σ H s->RelV x v->Vals xs us->r x xs H Q->
  wpAny (model X.prog X.w) X.A (call (.builtin id) (v::us)) (EP X pins σ Q) X.xe s
section
variable {X:Cx} {a b:Expr} {ta tb:TE} {pos:Pos}
theorem yN.or {r r':R2} (h:yN X r) (h':yN X r'):yN X (λx y H Q=>r x y H Q\/r' x y H Q):=by
 intro value slice pins s σ H x y v u Q I rx ry q hs;rcases q with q | q
 . exact h value slice pins s σ H x y v u Q I rx ry q hs
 . exact h' value slice pins s σ H x y v u Q I rx ry q hs
theorem KY {r:R2} (hr:yN X r) (ha:PE X a ta) (hb:PE X b tb) (hs:yf b):PE X (.Subscript a b pos) (Jg r ta tb):=by intro pins s σ H Q I h;exact Subscript_ (Qg ha hb I h λv u s2 x y H2 I2 rx ry q=>hr a b pins s2 σ H2 x y v u Q I2 rx ry q (hs _ _))
def Wq (K:FG):R2:=λx y H Q=>∃p xs i v,x=.ref p/\y=.int i/\bR K H p xs/\gw xs i=some v/\Q v H
def Wr (K:FG):R2:=λx y H Q=>∃p xs i v,x=.ref p/\y=.int i/\cM K H p xs/\gw xs i=some v/\Q v H
def Ws:R2:=λx y H Q=>∃z i c,x=.str z/\y=.int i/\z.length<=sizeLine/\gw z.cps.toList i=some c/\Q (.str ⟨#[c]⟩) H
theorem Ua:yN X (Wq X.K):=by
 intro value slice pins s σ H x y v u Q I rx ry h hs;obtain⟨p,xs,i,z,rfl,rfl,hq,he,q⟩:=h;cases rx;obtain⟨t,rfl⟩:=ry;obtain⟨its,r,pl,hz⟩:=I.list hq;obtain⟨j,h1,h2,h3,h4,h5⟩:=Cv he;obtain⟨w,ew,rw'⟩:=r.get h2;have hl:=r.length;have hn:=wz;have fin:EP X pins σ Q w s:=⟨z,H,I,rw',q⟩;by_cases h0:0<=i
 . have hj:i.toNat=j:=by rw[seqIndex_of h0 h5]at h1;exact aaA h1
   exact item_listR pl.isList h0 (by omega) (by rw[hj]; simpa using ew) fin hs
 . have hj:(i+(its.toArray.size:Int)).toNat=j:=by rw[seqIndex_neg (by omega) h4]at h1;rw[aat,<-hl];exact aaA h1
   exact subscriptTail_builtinR (x:=w) pl.isList.typeIs slot_list_getitem.lookup
    (wpAny_getItem_list_neg (Q:=λr s'=>r=w/\EP X pins σ Q r s') pl.isList (by omega) (by rw[aat]<;>omega) (by omega) (by rw[hj]; simpa using ew) ⟨rfl,fin⟩) hs
theorem Wt:yN X (Wr X.K):=by
 intro value slice pins s σ H x y v u Q I rx ry h hs;obtain⟨p,xs,i,z,rfl,rfl,hq,he,q⟩:=h;cases rx;obtain⟨t,rfl⟩:=ry;obtain⟨its,r,pl,hz⟩:=I.tuple hq;obtain⟨j,h1,h2,h3,h4,h5⟩:=Cv he;obtain⟨w,ew,rw'⟩:=r.get h2;have hl:=r.length;have hn:=wz;have fin:EP X pins σ Q w s:=⟨z,H,I,rw',q⟩;exact subscriptTail_builtinR (x:=w) pl.typeIs slot_tuple_getitem.lookup
  (getItem_tuple (j:=j) (Q:=λr s'=>r=w/\EP X pins σ Q r s') pl (by omega) (by omega) (by rw[aat,<-hl]; exact h1) (by simpa using ew) ⟨rfl,fin⟩) hs
theorem Wu:yN X Ws:=by
 intro value slice pins s σ H x y v u Q I rx ry h hs;obtain⟨z,i,c,rfl,rfl,hz,he,q⟩:=h;obtain⟨t,rfl⟩:=rx;obtain⟨t',rfl⟩:=ry;obtain⟨j,h1,h2,h3,h4,h5⟩:=Cv he;have hl:z.cps.toList.length=z.length:=by simp[Str.length]
 rw[hl]at h1 h4 h5;have hn:=wz;exact tail_any (typeIs_str s z t) slot_str_getitem.lookup (getItem_str (c:=c) (by have e1:decide (i < -(2 ^ 63:Int))=false:=ace (by omega);have e2:decide (i ≥ 2 ^ 63)=false:=ace (by omega);rw[e1,e2,Bool.or_false]) (by rw[h1]; simpa using h2) ⟨.str ⟨#[c]⟩,H,I.tok _,⟨_,rfl⟩,q⟩) hs
def Wv (K:FG):R2:=λx y H Q=>Wq K x y H Q\/Wr K x y H Q\/Ws x y H Q
theorem MF:yN X (Wv X.K):=Ua.or (Wt.or Wu)
theorem Gn (lo hi:Option Int) (n:Nat):(sliceBounds lo hi none n).1=((HT.sIx n 0 lo:Nat):Int)/\(sliceBounds lo hi none n).2.1=((HT.sIx n n hi:Nat):Int)/\(sliceBounds lo hi none n).2.2=1:=by
 refine⟨?_,?_,rfl⟩
 . cases lo with
   | none=>simp[sliceBounds,HT.sIx]
   | some i=>
    simp only[sliceBounds,HT.sIx,Option.getD_none,show (1:Int)>0 by decide,if_true];by_cases h:i<0
    . simp only[h,if_true]<;>omega
    . simp only[h,if_false]<;>omega
 . cases hi with
   | none=>simp[sliceBounds,HT.sIx]
   | some i=>
    simp only[sliceBounds,HT.sIx,Option.getD_none,show (1:Int)>0 by decide,if_true];by_cases h:i<0
    . simp only[h,if_true]<;>omega
    . simp only[h,if_false]<;>omega
theorem Ez (its:List Value) (lo hi:Option Int):slicePick its.toArray lo hi none=((its.drop (HT.sIx its.length 0 lo)).take (HT.sIx its.length its.length hi-HT.sIx its.length 0 lo)).toArray:=by obtain⟨h1,h2,h3⟩:=Gn lo hi its.toArray.size;unfold slicePick;rw[h1,h2,h3];simp only[sliceRange_one,pick_run,aat]<;>rfl
def ZM (K:FG):V->Option Int->Option Int->Hp->VK->Prop:=λx lo hi H Q=>∃a xs,x=.ref a/\bR K H a xs/\∀p,H p=none->Q (.ref p) (upd H p (.lst (qU xs lo hi)))
theorem Ub:DQ X (ZM X.K):=by intro pins s σ H x v vl vu lo hi sl Q I rx hs pl pu h;obtain⟨a,xs,rfl,hx,q⟩:=h;cases rx;obtain⟨its,r,ht,hz⟩:=I.list hx;have hlen:=r.length;refine⟨"list",_,slot_list_getitem.lookup,ht.isList.typeIs,?_⟩;refine wpAny_getItem_list_slice ht.isList hs pl pu .none (by simp) ?_ (by rw[aat]<;>omega);rw[Ez,<-hlen];refine⟨.ref s.heap.objs.size,_,I.laid (t':=s.toks) (o:=.lst (qU xs lo hi)) (λb ob q=>aad _ q) (aaf _) ?_,rfl,q _ (I.hok.fresh (aaf _))⟩;exact⟨aaR (yM xs lo hi) hz,_,0,(r.drop (HT.sIx xs.length 0 lo)).take (HT.sIx xs.length xs.length hi-HT.sIx xs.length 0 lo),aay _ rfl⟩
def qt:V->Bool
 | .non=>true
 | .bl _=>true
 | .int _=>true
 | .str _=>true
 | _=>false
theorem lg:m8 X (.type "list") (λxs H Q=>∃p ys,xs=[.ref p]/\(bR X.K H p ys\/cM X.K H p ys)/\∀l,H l=none->Q (.ref l) (upd H l (.lst ys))):=by
 intro pins s σ H xs us Q I r h;obtain⟨p,ys,rfl,hq,q⟩:=h;obtain⟨u,rfl,rx⟩:=vals1 r;cases rx;have fin:∀(its:List Value),Vals ys its->ys.length<=sizeLine->∀(h':Heap) (c':Nat),(∀b o',s.heap.get? b=some o'->h'.get? b=some o')->
  h'.get? s.heap.objs.size=some { cls:=.type "list",dict:=none,data:=.seq its.toArray c',slots:=#[] }->EP X pins σ Q (.ref s.heap.objs.size) { s with heap:=h' }:=λits r' hz h' c' kp e=>
  ⟨.ref s.heap.objs.size,_,I.laid (t':=s.toks) kp (aaf _) (show fY X.prog X.w _ h' _ (.lst ys) from ⟨hz,its,c',r',e⟩),rfl,q _ (I.hok.fresh (aaf _))⟩
 rcases hq with hq | hq
 . obtain⟨its,r',pl,hz⟩:=I.list hq;have hlen:=r'.length;obtain⟨o,ho,hc,n,hd⟩:=pl.isList;exact call_list_seq p (.inl rfl) ho hc hd (λh' c' kp e=>fin its r' hz h' c' kp e) (by simp only[aat]<;>omega)
 . obtain⟨its,r',pl,hz⟩:=I.tuple hq;have hlen:=r'.length;obtain⟨o,ho,hc,n,hd⟩:=pl;exact call_list_seq p (.inr rfl) ho hc hd (λh' c' kp e=>fin its r' hz h' c' kp e) (by simp only[aat]<;>omega)
def Ww (K:FG) (T:String) (x:V) (H:Hp):Prop:=match x with
 | .str _=>T = "str"
 | .int _=>T = "int"
 | .ref p=>(T = "list" /\ ∃xs,bR K H p xs)\/(T = "tuple" /\ ∃o,K.lookup p=some o/\o.cls=.type "tuple" /\ o.dict=none)\/
  (T = "dict" /\ ((∃kvs,H p=some (.dK kvs))\/∃kvs,H p=some (.dT kvs)))\/(T = "set" /\ ∃S n,H p=some (.set S n))
 | _=>False
theorem MJ {σ:St} {H:Hp} {T:String} {x:V} {v:Value} (I:Inv X pins σ H s) (r:RelV x v) (ty:Ww X.K T x H):
 s.TypeIs v T/\∀a,v=.ref a->∃ob,s.heap.get? a=some ob/\ob.dict=none:=by
 cases x with
 | str z=>
  obtain⟨t,rfl⟩:=r;cases (show T = "str" from ty);exact⟨typeIs_str s z t,λ_ e=>nomatch e⟩
 | int i=>
  obtain⟨t,rfl⟩:=r;cases (show T = "int" from ty);exact⟨typeIs_int s i t,λ_ e=>nomatch e⟩
 | ref p=>
  cases r;rcases ty with ⟨rfl,xs,hq⟩ | ⟨rfl,o,hk,hc,hd⟩ | ⟨rfl,hk⟩ | ⟨rfl,S,n,hk⟩
  . obtain⟨its,_,pl,_⟩:=I.list hq;refine⟨pl.isList.typeIs,λa e=>?_⟩;cases e;obtain⟨o,n,e,c,hd,_⟩:=pl;exact⟨o,e,hd⟩
  . refine⟨⟨o,I.kIn p o hk,hc⟩,λa e=>?_⟩;cases e;exact⟨o,I.kIn _ o hk,hd⟩
  . have z:∃o,s.heap.get? p=some o/\o.ExactDict:=by
     rcases hk with ⟨kvs,hk⟩ | ⟨kvs,hk⟩
     . obtain⟨_,_,_,_,o,_,_,e,ex,_⟩:=I.hok p _ hk;exact⟨o,e,ex⟩
     . obtain⟨_,_,_,_,o,_,_,e,ex,_⟩:=I.hok p _ hk;exact⟨o,e,ex⟩
    obtain⟨o,e,ex⟩:=z;refine⟨⟨o,e,ex.1⟩,λa e2=>?_⟩;cases e2;exact⟨o,e,ex.2.1⟩
  . obtain⟨o,_,_,_,e,ex,_⟩:=I.hok p _ hk;refine⟨⟨o,e,ex.1⟩,λa e2=>?_⟩;cases e2;exact⟨o,e,ex.2.1⟩
 | _=>exact False.elim ty
def Qt (K:FG) (T:String) (r:V->List V->Hp->VK->Prop) (to:TE):TE:=λσ H Q=>to σ H λx H1=>Ww K T x H1/\r x [] H1 Q
def MK (K:FG) (T:String) (r:V->List V->Hp->VK->Prop) (to:TE) (t:TA):TE:=λσ H Q=>to σ H λx H1=>Ww K T x H1/\t σ H1 λxs H2=>r x xs H2 Q
variable {o e:Expr} {es:List Expr} {to:TE} {t:TA} {name:Str} {apos cpos:Pos} {T id:String} {r:V->List V->Hp->VK->Prop}
theorem Gp (pa:PlainAttrs T) (slot:Slot T name id) (hty:typeOf (.builtin id)=pure (.type "method_descriptor")) (hm:Mz X id r) (ho:PE X o to)
 (hbase:attributeBase o name X.env (eval o X.env)=eval o X.env:=by rfl) (hline:(apos.endLine==cpos.line)=true:=by rfl):PE X (.Call (.Attribute o name apos) [] [] cpos) (Qt X.K T r to):=by
 intro pins s σ H Q I h;refine wpAny_Call_method0_late hbase hline (bJ (ho pins s σ H _ I h) λv s1 ⟨x,H1,I1,r1,ty,q1⟩=>?_);obtain⟨h1,h2⟩:=MJ I1 r1 ty;exact⟨T,id,pa,slot,hty,h1,h2,Calls.callWith_builtin rfl (PySem.evalArgs_none (hm pins s1 σ H1 x [] v [] Q I1 r1 .nil q1))⟩
theorem jD (pa:PlainAttrs T) (slot:Slot T name id) (hty:typeOf (.builtin id)=pure (.type "method_descriptor")) (hm:Mz X id r) (ho:PE X o to) (ha:PA X (e::es) t)
 (hbase:attributeBase o name X.env (eval o X.env)=eval o X.env:=by rfl)
 (hfew:((backTo cpos (starEach (e::es) X.env)).all (λx=>!x.1)&&(backToKw cpos (keywordEach [] X.env)).all (λx=>x.1.isSome)
   && decide ((e::es).length+([]:List Keyword).length+(if ([]:List Keyword).isEmpty then 0 else 1)<30))=true:=by rfl)
 (hline:(apos.endLine==cpos.line)=true:=by rfl) (hs:starEach (e::es) X.env=(false,eval e X.env)::starEach es X.env:=by rfl) (hplain:(backTo cpos (starEach es X.env)).any (·.1)=false:=by rfl):
 PE X (.Call (.Attribute o name apos) (e::es) [] cpos) (MK X.K T r to t):=by
 intro pins s σ H Q I h;refine wpAny_Call_method_late hbase hfew hline rfl (bJ (ho pins s σ H _ I h) λv s1 ⟨x,H1,I1,r1,ty,q1⟩=>?_);obtain⟨h1,h2⟩:=MJ I1 r1 ty;refine⟨T,id,pa,slot,hty,h1,h2,?_⟩;have hA:=ha cpos pins s1 σ H1 _ I1 q1;rw[hs]at hA ⊢;refine Calls.callWith_builtin (by show (false||(backTo cpos (starEach es X.env)).any (·.1))=false; rw[hplain]<;>rfl) (Calls.evalArgs_plain ?_);exact bJ hA λus s2 ⟨vs,H2,I2,r2,q2⟩=>hm pins s2 σ H2 x vs v us Q I2 r1 r2 q2
end
def R5 (X:Cx) (id:String) (r:V->List V->Hp->VK->Prop):Prop:=
 ∀(pins:List (Addr×Obj)) (s:Shared) (σ:St) (H:Hp) (x:V) (xs:List V) (v:Value) (us:List Value) (Q:VK),Inv X pins σ H s->RelV x v->Vals xs us->r x xs H Q->
  wpAny (model X.prog X.w) X.A (call (.builtin id) (v::us)) (EP X pins σ Q) X.xe s
theorem Vals.one:∀{x:V} {us:List Value},Vals [x] us->∃u,us=[u]/\RelV x u
 | _,_,.cons r .nil=>⟨_,rfl,r⟩
theorem Vals.two:∀{x y:V} {us:List Value},Vals [x,y] us->∃u v,us=[u,v]/\RelV x u/\RelV y v
 | _,_,_,.cons r (.cons q .nil)=>⟨_,_,rfl,r,q⟩
theorem Vals.zero:∀{us:List Value},Vals [] us->us=[]
 | _,.nil=>rfl
theorem Vals.dropLast {xs:List V} {us:List Value} (h:Vals xs us):Vals xs.dropLast us.dropLast:=by
 induction h with
 | nil=>exact .nil
 | cons r t ih=>
  cases t with
  | nil=>exact .nil
  | cons q t'=>exact .cons r ih
theorem KZ {α:Type} (l:List α):l.eraseIdx (l.length-1)=l.dropLast:=by
 induction l with
 | nil=>rfl
 | cons a r ih=>
  cases r with
  | nil=>rfl
  | cons b r=>
   have e:(a::b::r).length-1=((b::r).length-1)+1:=by have h1:(a::b::r).length=r.length+2:=rfl;have h2:(b::r).length=r.length+1:=rfl;omega
   rw[e,List.eraseIdx_cons_succ,ih]
   all_goals rfl
section
variable {X:Cx} {pins:List (Addr×Obj)} {σ:St} {H:Hp} {s:Shared} {l b:Addr} {xs ys zs:List V}
theorem Inv.lset {its its':List Value} {n:Nat} {f:Array Value->Array Value} {t':Nat} (I:Inv X pins σ H s) (hH:H l=some (.lst xs))
 (e:s.heap.get? l=some { cls:=.type "list",data:=.seq its.toArray n }) (hf:f its.toArray=its'.toArray) (hv:Vals ys its') (hz:ys.length<=sizeLine):
 Inv X pins σ (upd H l (.lst ys)) { s with heap:=s.heap.update l (Obj.mapSeq f),toks:=t' }:=by
 have q:=PySem.IsL.update e f;rw[hf]at q;refine I.write (x:=l) (e:=l) (by rw[hH]; exact trivial) (.inl rfl) (λb' u hb hu=>(abJ s.heap (Obj.mapSeq f) (Ne.symm hb)).trans hu) ⟨_,q⟩ ?_;exact⟨hz,its',_,hv,q⟩
theorem Inv.lnew {its:List Value} {t':Nat} (I:Inv X pins σ H s) (hv:Vals ys its) (hz:ys.length<=sizeLine):
 Inv X pins σ (upd H s.heap.objs.size (.lst ys)) { s with heap:=s.heap.push { cls:=.type "list",data:=.seq its.toArray },toks:=t' }:=
 I.laid (λ_ _ q=>aad _ q) (aaf _) ⟨hz,its,0,hv,aay _ rfl⟩
theorem Inv.fresh (I:Inv X pins σ H s):H s.heap.objs.size=none:=I.hok.fresh (aaf _)
theorem Inv.lstM (I:Inv X pins σ H s) (hH:H l=some (.lst xs)):xs.length<=sizeLine/\∃(its:List Value) (n:Nat),Vals xs its/\xs.length=its.length/\s.heap.get? l=some { cls:=.type "list",data:=.seq its.toArray n }:=by obtain⟨z,its,n,r,e⟩:=I.hok l _ hH;exact⟨z,its,n,r,r.length,e⟩
theorem Qu {n:Nat} (h:n<=sizeLine):Builtin.List.listTooLong n=false:=by unfold Builtin.List.listTooLong;exact ace (by omega)
end
section
variable {X:Cx}
def Cw:V->List V->Hp->VK->Prop:=λx vs H Q=>∃l xs y,x=.ref l/\vs=[y]/\H l=some (.lst xs)/\xs.length<sizeLine/\Q .non (upd H l (.lst (xs++[y])))
theorem d8:R5 X "list.append" Cw:=by intro pins s σ H x vs v us Q I rx rv h;obtain⟨l,xs,y,rfl,rfl,hH,hz,q⟩:=h;cases rx;obtain⟨u,rfl,ru⟩:=rv.one;obtain⟨z,its,n,r,hl,e⟩:=I.lstM hH;refine call_meets F.slot_list_append ⟨_,e,rfl⟩ F.entry_list_append (F.args_list_append_2 _ _) (PySem.list_append l its.toArray n u (by rw[aat]; omega)) ⟨e,?_⟩;refine⟨.non,_,I.lset (its':=its++[u]) hH e (by simp) (r.append (.cons ru .nil)) ?_,rfl,q⟩;rw[aah,List.length_singleton];omega
def Wx:V->List V->Hp->VK->Prop:=λx vs H Q=>∃l xs y,x=.ref l/\vs=[]/\H l=some (.lst xs)/\xs[xs.length-1]?=some y/\Q y (upd H l (.lst xs.dropLast))
theorem MN:R5 X "list.pop" Wx:=by
 intro pins s σ H x vs v us Q I rx rv h;obtain⟨l,xs,y,rfl,rfl,hH,hy,q⟩:=h;cases rx;have hus:=rv.zero;subst hus;obtain⟨z,its,n,r,hl,e⟩:=I.lstM hH;obtain⟨u,hu,ru⟩:=r.get hy;have hy':its.toArray[its.toArray.size-1]?=some u:=by show its.toArray[its.length-1]?=some u;rw[<-Array.getElem?_toList,<-hl];exact hu
 refine call_meets F.slot_list_pop ⟨_,e,rfl⟩ F.entry_list_pop (F.args_list_pop_1 _) (MeetsSeq.list_pop_last l its.toArray n u hy' (by rw[aat]; omega)) ⟨e,?_⟩;refine⟨y,_,I.lset (its':=its.dropLast) hH e ?_ r.dropLast ?_,ru,q⟩
 . show its.toArray.eraseIdxIfInBounds (its.toArray.size-1)=its.dropLast.toArray;rw[aat,List.eraseIdxIfInBounds_toArray,KZ]
 . rw[List.length_dropLast];omega
def MP:V->List V->Hp->VK->Prop:=λx vs H Q=>∃l xs,x=.ref l/\vs=[]/\H l=some (.lst xs)/\Q .non (upd H l (.lst []))
theorem Qv:R5 X "list.clear" MP:=by intro pins s σ H x vs v us Q I rx rv h;obtain⟨l,xs,rfl,rfl,hH,q⟩:=h;cases rx;have hus:=rv.zero;subst hus;obtain⟨z,its,n,r,hl,e⟩:=I.lstM hH;refine call_meets F.slot_list_clear ⟨_,e,rfl⟩ F.entry_list_clear (F.args_list_clear_1 _) (AutoSeq1.list_clear_list_0 l its.toArray n (by rw[aat]; omega)) ⟨e,?_⟩;exact⟨.non,_,I.lset (its':=[]) (ys:=[]) hH e rfl .nil (aa2 _),rfl,q⟩
end
section
variable {prog:Program}
end
section
variable {X:Cx}
end
end L2
namespace Att
open PySem PySem.W PySem.Calls PyProof.Rows
theorem Ad {P:Params} {h:Heap}:∀(ns:List Int) (vs:List Value),WellAll P h vs (ns.map WData.int)->IntsAre vs ns:=by
 intro ns;induction ns with
 | nil=>
  intro vs w;rw[abx]at w;cases w;exact .nil
 | cons n ns ih=>
  intro vs w;rw[aax]at w;cases w with
  | cons a b=>
   cases a;exact .cons _ _ (ih _ b)
theorem MT {l:OpenLaw} {n:Nat} (hn:l.most=some n) {P:Params} {h:Heap} {args:List WData} {vals:List Value}
 (hpre:l.row.toRowW.claim.pre args=true) (hwl:WellAll P h vals args):
 ∃a vs ns,vals=[Value.ref a]/\args=[WData.list (ns.map WData.int)]/\h.get? a=some { cls:=.type "list",data:=.seq vs.toArray }/\IntsAre vs ns/\ns.length<=n:=by
 have hsh:WShape.hasAll [] args [.list .int]=true:=(pre_splitW hpre).1;have hc:l.pre.holds [] { args:=args }=true:=(pre_splitW hpre).2;obtain⟨d,r,rfl,h1,h2⟩:=hasAllW_cons hsh;obtain rfl:=hasAllW_nil h2;obtain⟨xs,rfl,h3⟩:=hasW_list h1;obtain⟨ns,rfl⟩:=items_int h3;have hlen:ns.length<=n:=by
  unfold OpenLaw.pre at hc;have h4:(WTm.not (.lt (.lit (.int (n:Int))) (.len (.arg 0)))).holds [] { args:=[.list (ns.map .int)] }=true:=by have h4:=(holds_andW hc).1;rw[hn]at h4;exact h4
  have h5:=condW_of h4 (w_not (w_lt w_lit (w_len_list (w_arg rfl))));rw[aag]at h5;refine abN λq=>?_;have q':(n:Int)<((ns.length:Nat):Int):=by omega
  first
   | (rw[acf q']at h5; exact absurd h5 (by decide))
   | (simp at h5; omega)
 cases hwl with
 | cons w1 w2=>
  cases w2;cases w1 with
  | list ho hall=>exact⟨_,_,ns,rfl,rfl,ho,Ad ns _ hall,hlen⟩
theorem M3 (l:OpenLaw) (args:List WData):l.row.toRowW.claim.post args (.bool true) args=true:=
 postW_of (r:=l.row.toRowW) (X:=(true==true))
  (show WShape.has [] (.bool true) .bool=true by first | rfl | decide | simp[WShape.has,WShape.arms,WShape.armsAll])
  (show (WTm.eq .res (.lit (.bool true))).value [] { args:=args,res:=some (.bool true),after:=args }=some (.bool (true==true)) from w_eq_bool (w_res rfl) w_lit) rfl
theorem attach_call {l:OpenLaw} {n:Nat} {q:Program} {loose:List Str} {XP:(Str->Option Value)->Heap->Prop} {YP:World->Heap->Prop} {d:DefRec}
 (hn:l.most=some n) (hdf:d.params.defaults=[])
 (call:∀(w:World) (s₀ s₁:Shared) (mg mb:Str->Option Value) (fa:Addr) (o:Obj) (pm cd doc:Value) (a:Addr) (vs:List Value) (ns:List Int),
   Ground q loose [] XP w s₀ mg mb s₁.heap->YP w s₁.heap->
   s₁.heap.get? fa=some o->o.data=.func (docDef d.name d.params d.body d.scope pm cd doc)->s₁.heap.CodeRec cd d.name->mg d.name=some (.ref fa)->
   s₁.heap.get? a=some { cls:=.type "list",data:=.seq vs.toArray }->IntsAre vs ns->ns.length<=n->s₁.gens=#[]->
   codeAny (model l.prog w) callerA (.call (.ref fa) ⟨[.ref a],[]⟩) (λr s'=>r=.ok (.ret (.bool true))/\OldK s₁.heap s'.heap/\s'.os=s₁.os/\AllBare s'.gens) s₁):
 WalkO q loose XP YP l.row.toRowW d [] (λf vs=>PySem.call f vs):=by
 intro w s₀ s₁ mg mb G Y fa o pm cd doc dV kV ho hd hcd hD hmg hg args vals as hpre hlay hrd hwl hlo;obtain rfl:dV=.none:=Dflts.none hD hdf;obtain rfl:kV=.none:=Dflts.noKw hD;obtain⟨a,vs,ns,rfl,rfl,hobj,hints,hlen⟩:=MT hn hpre hwl;refine enter_call (codeAny_mono (call w s₀ s₁ mg mb fa o pm cd doc a vs ns G Y ho (fd_plain hd) hcd hmg hobj hints hlen hg) λr s' hq=>?_);obtain⟨rfl,h2,h3,h4⟩:=hq;exact⟨.inl ⟨.bool true,.bool true,[],rfl,λ_=>rfl,.bool true,M3 l _,λ_=>⟨List.Pairwise.nil,λ_ hm=>(nomatch hm)⟩⟩,h2,h3,h4⟩
section
variable {prog:Program} {w:World} {A:Around} {E:Value->Shared->Prop} {s:Shared} {K:Frag}
end
end Att
namespace L2
open PySem PySem.Spec PyProof.Rows
variable {pins:List (Addr×Obj)} {E:Value->Shared->Prop} {s:Shared} {A:Around} {w:World} {P:Program}
theorem DR:∀{vs:List Value} {ns:List Int},IntsAre vs ns->Vals (ns.map V.int) vs
 | _,_,.nil=>.nil
 | _,_,.cons n t h=>.cons ⟨t,rfl⟩ (DR h)
def Only (H:Hp):Prop:=∀b,H b=none\/∃o xs,H b=some (.frz o (.lst xs))
theorem Qw {K:FG} {mg mb:Str->Option Value} {CX:v7} {k:Nat} {fa a:Addr} {fd:FuncData} {x:Str} {sp:Sp} {s₁:Shared} {vs:List Value} {ns:List Int}
 (KX:K.In s₁.heap) (hns:s₁.heap.Ns mainGlobals mg) (hb:s₁.heap.Ns builtinsNs mb) (hbb:∀x:Str,x ≠ "__name__" -> mb x=bootBuiltins x) (hlim:s₁.heap.NoLimit) (hg:s₁.gens=#[])
 (ha:s₁.heap.get? a=some { cls:=.type "list",data:=.seq vs.toArray }) (hi:IntsAre vs ns) (hl:ns.length<=sizeLine) (hr:mJ k callerA)
 (F:∀base:Heap,K.In base->base.Ns mainGlobals mg->mK P w K mg base CX k fa fd [x] sp) (hbind:∀(s:Shared) (u:Value),BindsTo s fd ⟨[u],[]⟩ [(x,u)])
 (hsp:∀H:Hp,Only H->bR K H a (ns.map V.int)->sp [.ref a] H (λv _=>v=.bl true) λ_ _ _=>False)
 (hCX:∀H e s',CX [] H s₁ (λ_ _ _=>False) e s'->False):
 codeAny (model P w) callerA (.call (.ref fa) ⟨[.ref a],[]⟩) (λr s'=>r=.ok (.ret (.bool true))/\OldK s₁.heap s'.heap/\s'.os=s₁.os/\AllBare s'.gens) s₁:=by
 have rv:=DR hi;have lenV:=hi.length;have core:∀H:Hp,Only H->bR K H a (ns.map V.int)->iz P w H s₁.heap->(∀b,H b≠none->b=a)->(H a≠none->K.lookup a=none)->
  codeAny (model P w) callerA (.call (.ref fa) ⟨[.ref a],[]⟩) (λr s'=>r=.ok (.ret (.bool true))/\OldK s₁.heap s'.heap/\s'.os=s₁.os/\AllBare s'.gens) s₁:=by
  intro H hO hS hok hA hK;have base_of:∀{b:Addr} {o:Obj},s₁.heap.get? b=some o->H b=none->(uV s₁.heap H).get? b=some o:=λe n=>PX e n;have noA:∀{b:Addr} {o:Obj} {es:Array DictEntry} {ep:Nat},s₁.heap.get? b=some o->o.data=.dict es ep->H b=none:=λ{b o es ep} e d=>by
   cases q:H b with
   | none=>rfl
   | some u=>
    have e':b=a:=hA b (by rw[q]; simp);subst e';rw[ha]at e; cases e;have d':Data.seq vs.toArray _=Data.dict es ep:=d;cases d'
  have nsK:∀{b:Addr} {m:Str->Option Value},s₁.heap.Ns b m->(uV s₁.heap H).Ns b m:=λ{b m} ⟨o,es,ep,e,d,r⟩=>⟨o,es,ep,base_of e (noA e d),d,r⟩;have hKb:K.In (uV s₁.heap H):=λb o e=>base_of (KX b o e) (by
   cases q:H b with
   | none=>rfl
   | some u=>
    have e':b=a:=hA b (by rw[q]; simp);subst e';rw[hK (by rw[q]; simp)]at e; cases e)
  have hM:Mod K mg (uV s₁.heap H):=⟨hKb,nsK hns,⟨mb,nsK hb,hbb⟩,let ⟨mc,h1,h2⟩:=hlim; ⟨mc,nsK h1,h2⟩⟩;have e0:yZ P w K mg (uV s₁.heap H) callerA [] s₁ H:=⟨rfl,hM,λb o e=>Tn e,Nat.le_of_eq (Mh _ _),trivial,λb hb=>absurd (show b∈([]:List Addr) from hb) (by simp),hok,.of_eq hg⟩;refine codeAny_mono ((F _ hKb (nsK hns)).run callerA [] s₁ H ⟨[.ref a],[]⟩ [.ref a] [.ref a] _ _ hr e0 (hbind s₁ (.ref a)) (.cons rfl .nil) (hsp H hO hS)) λr s' h=>?_;cases r with
  | error e=>exact(hCX H e s' h).elim
  | ok fl=>
   cases fl with
   | next=>exact False.elim h
   | brk=>exact False.elim h
   | cont=>exact False.elim h
   | ret u=>
    obtain⟨v,H',os,bare,un,hok',r',q⟩:=h;have q':v=.bl true:=q;subst q';obtain rfl:u=Value.bool true:=r';refine⟨rfl,OldK.of_keep λb o e=>?_,os,bare⟩;cases q:H b with
    | none=>exact un.keep b o e q (by intro z; exact absurd (show b∈([]:List Addr) from z) (by simp)) (by simp)
    | some u=>
     rcases hO b with z | ⟨ob,xs,z⟩
     . rw[q]at z; cases z
     . have z2:=un.frzs b ob _ z;obtain⟨e1,_⟩:=hok b _ z;obtain⟨e2,_⟩:=hok' b _ z2;rw[e]at e1; cases e1;exact e2
 cases hk:K.lookup a with
 | some o=>
  have e:=KX a o hk;rw[ha]at e;cases e;refine core (λ_=>none) (λ_=>.inl rfl) (.inr ⟨_,vs.toArray,_,hk,rfl,rfl,rfl,by rw[aat,lenV]; exact hl,by simpa using rv⟩) (λb u z=>by have z':(none:Option HO)=some u:=z; cases z') (λb z=>absurd rfl z) λz=>absurd rfl z
 | none=>
  refine core (λb=>if b=a then some (.frz { cls:=.type "list",data:=.seq vs.toArray } (.lst (ns.map V.int))) else none) (λb=>?_) (.inl (.inr ⟨{ cls:=.type "list",data:=.seq vs.toArray },aca rfl⟩)) (λb u z=>?_) (λb z=>?_) λ_=>hk
  . by_cases hb:b=a
    . exact .inr ⟨_,_,aca hb⟩
    . exact .inl (acb hb)
  . by_cases hb:b=a
    . have z':=(aca hb).symm.trans z;cases z';subst hb;exact⟨ha,by rw[aag]; exact hl,vs,_,rv,ha⟩
    . have z':=(acb hb).symm.trans z;cases z'
  . by_cases hb:b=a
    . exact hb
    . exact absurd (acb hb) z
theorem walk_of {l:W.OpenLaw} {n k:Nat} {q:Program} {loose:List Str} {XP:(Str->Option Value)->Heap->Prop} {YP:World->Heap->Prop} {d:DefRec} {K:Params->FG} {CX:World->v7} {sp:World->Sp} {x:Str}
 (hn:l.most=some n) (hn2:n<=sizeLine) (hdf:d.params.defaults=[]) (hr:mJ k callerA)
 (hY:∀(w:World) (h:Heap),YP w h->(K w.params).In h)
 (F:∀(w:World) (mg:Str->Option Value) (fa:Addr) (h:Heap),(K w.params).In h->h.Ns mainGlobals mg->mg d.name=some (.ref fa)->
   ∃fd:FuncData,(∀(s:Shared) (u:Value),BindsTo s fd ⟨[u],[]⟩ [(x,u)])/\
    ∀base:Heap,(K w.params).In base->base.Ns mainGlobals mg->mK l.prog w (K w.params) mg base (CX w) k fa fd [x] (sp w))
 (hsp:∀(w:World) (H:Hp) (a:Addr) (ns:List Int),ns.length<=n->Only H->bR (K w.params) H a (ns.map V.int)->sp w [.ref a] H (λv _=>v=.bl true) λ_ _ _=>False)
 (hCX:∀(w:World) (H:Hp) (s:Shared) (e:Value) (s':Shared),CX w [] H s (λ_ _ _=>False) e s'->False):
 W.WalkO q loose XP YP l.row.toRowW d [] (λf vs=>PySem.call f vs):=by
 refine Att.attach_call hn hdf λw s₀ s₁ mg mb fa o pm cd doc a vs ns G Y ho hd hcd hmg hobj hints hlen hg=>?_;have KX:=hY w _ Y;obtain⟨fd,hb,hF⟩:=F w mg fa _ KX G.T.g hmg;exact Qw KX G.T.g G.T.b G.T.builtins G.T.nolimit hg hobj hints (aaR hlen hn2) hr hF hb (λH hO hS=>hsp w H a ns hlen hO hS) λH e s'=>hCX w H s₁ e s'
def inClass (s:Stmt) (j:Nat):Stmt:=match s with
 | .ClassDef _ _ _ body _ _ _ _ _ _ _=>body.getD j (.Pass ⟨0,0,0,0⟩)
 | _=>.Pass ⟨0,0,0,0⟩
def oG (s:Stmt):Arguments:=match s with
 | .FunctionDef _ a _ _ _ _ _ _ _ _=>a
 | _=>{ posonlyargs:=[],args:=[],vararg:=none,kwonlyargs:=[],kw_defaults:=[],kwarg:=none,defaults:=[] }
def iU (s:Stmt):List Stmt:=match s with
 | .FunctionDef _ _ b _ _ _ _ _ _ _=>b
 | _=>[]
def aF (s:Stmt):Scope:=match s with
 | .FunctionDef _ _ _ _ _ _ sc _ _ _=>sc
 | _=>{ kind:=.function,names:=[],isGenerator:=false,isCoroutine:=false }
abbrev ou:v7:=λ_ _ _ _ _ _=>False
abbrev E0:XK:=λ_ _ _=>False
theorem Ae {X:Cx}:wC ou X E0:=λ_ _ _ _ _ _ _ h=>h.elim
structure sJ (K:FG) (x qual:Str) (st:Stmt) (f:Addr) (fd:FuncData):Prop where
 ex:∃(oc:Value) (od:Option Addr) (kV doc pm:Value) (an:Option Addr) (cdv ct:Value) (osl:Array (Option Value)),
  fd=W.fnOf x qual (oG st) (iU st) (aF st) .none kV doc pm an cdv ct/\K.lookup f=some ⟨oc,od,.func fd,osl⟩/\W.codeIn K cdv qual=true
 kp:W.keepIn K (.ref f)=true
section
variable {P:Program} {w:World} {K:FG} {mg:Str->Option Value} {base:Heap}
theorem sJ.ok {b:Bool} {x qual:Str} {st:Stmt} {f:Addr} {fd:FuncData} {N ps:List Str} {k:Nat} {sp:Sp} (F:sJ K x qual st f fd) (S:aR N ps (aF st)) (len:∀vs H Q E,sp vs H Q E->vs.length=ps.length)
 (hbody:∀(cdv:Value) (A:Around) (outer:List Env) (s:Shared) (H:Hp) (vs:List V) (Q:VK) (E:XK),eO b k (A.deeper (envOfC qual (aF st) s.heap.objs.size f cdv))->sp vs H Q E->
   ∃t,iK (sI b ou P w K mg base N qual (aF st) f cdv A outer s H E).nox (iU st) t/\t { nx:=λ_ H'=>Q .non H',rt:=Q } (start N vs) H):qp b P w K mg base ou (k+1) f fd ps sp:=by
 obtain⟨oc,od,kV,doc,pm,an,cdv,ct,osl,rfl,lk,hcd⟩:=F.ex;refine Yz lk hcd S len λA outer s H vs Q E hr hsp=>?_;obtain⟨t,h,q⟩:=hbody cdv A outer s H vs Q E hr hsp;exact⟨t,h.nox,q⟩
theorem sJ.binds {x qual:Str} {st:Stmt} {f:Addr} {fd:FuncData} {ps:List Str} (F:sJ K x qual st f fd)
 (h:∀(kV doc pm:Value) (an:Option Addr) (cdv ct:Value) (us:List Value),us.length=ps.length->bindArgs (W.fnOf x qual (oG st) (iU st) (aF st) .none kV doc pm an cdv ct) ⟨us,[]⟩=pure (ps.zip us)):Binds K fd ps []:=by
 obtain⟨oc,od,kV,doc,pm,an,cdv,ct,osl,rfl,lk,hcd⟩:=F.ex;exact .all (h kV doc pm an cdv ct)
theorem wD {x qual:Str} {st:Stmt} {f:Addr} {oc:Value} {od an:Option Addr} {osl:Array (Option Value)} {kV doc pm cdv ct:Value} (l:K.lookup f=some ⟨oc,od,.func (W.fnOf x qual (oG st) (iU st) (aF st) .none kV doc pm an cdv ct),osl⟩)
 (c:W.codeIn K cdv qual=true) (k:W.keepIn K (.ref f)=true):sJ K x qual st f (W.fnOf x qual (oG st) (iU st) (aF st) .none kV doc pm an cdv ct):=⟨⟨oc,od,kV,doc,pm,an,cdv,ct,osl,rfl,l,c⟩,k⟩
end
theorem aL {b:Bool} {k:Nat} (hr:eO b k A):A.units+1<cLine:=abu (Nat.add_le_add_left (by decide:1<=64) _) hr.units
section
variable {X:Cx}
theorem pv (i:Nat) {x:Str} {pos:Pos} (hN:X.N[i]?=some x:=by rfl) (hv:Mi X.env.scope x:=by first | exact Or.inl rfl | exact Or.inr (Or.inl rfl) | exact Or.inr (Or.inr rfl)) (hd:(x==("__debug__" : Str))=false:=by decide)
 (hcd:(x==("__classdict__" : Str))=false:=by decide):PE X (.Name x pos) (qQ i):=VH hN hv hd hcd
end
def du (H H':Hp):Prop:=∀b o,H b=some o->H' b=some o
theorem du.refl (H:Hp):du H H:=λ_ _ h=>h
theorem du.trans {H H1 H2:Hp} (a:du H H1) (b:du H1 H2):du H H2:=λc o h=>b c o (a c o h)
theorem du.free {H H':Hp} (e:du H H') {l:Addr} (h:H' l=Option.none):H l=Option.none:=by
 cases q:H l with
 | none=>rfl
 | some o=>
  rw[e l o q]at h;cases h
theorem du.seq {K:FG} {H H':Hp} {a:Addr} {xs:List V} (e:du H H') (h:bR K H a xs):bR K H' a xs:=by
 rcases h with (h | ⟨o,h⟩) | h
 . exact .inl (.inl (e _ _ h))
 . exact .inl (.inr ⟨o,e _ _ h⟩)
 . exact .inr h
section
variable {κ:Type} [DecidableEq κ]
def lq (kvs:List (κ×V)) (k:κ):Option V:=(kvs.find? λkv=>decide (kv.1=k)).map (·.2)
def putK (kvs:List (κ×V)) (k:κ) (v:V):List (κ×V):=
 if (kvs.any λkv=>decide (kv.1=k))=true then kvs.map (λkv=>if kv.1=k then (kv.1,v) else kv) else kvs++[(k,v)]
theorem uZ {p:κ×V} {r:List (κ×V)} {k:κ} (e:p.1=k):lq (p::r) k=some p.2:=by simp[lq,abv,e]
theorem u5 {p:κ×V} {r:List (κ×V)} {k:κ} (e:¬ p.1=k):lq (p::r) k=lq r k:=by simp[lq,abv,e]
theorem u6 (k:κ):∀kvs:List (κ×V),(kvs.any λkv=>decide (kv.1=k))=(lq kvs k).isSome
 | []=>rfl
 | p::r=>by
  rw[ab0];by_cases e:p.1=k
  . simp only[uZ e,acf e,Bool.true_or,Option.isSome_some]
  . rw[u5 e,ace e,Bool.false_or]; exact u6 k r
theorem tR (kvs:List (κ×V)) (k:κ) (v:V):(putK kvs k v).length<=kvs.length+1:=by
 unfold putK;split
 . rw[aag]; omega
 . rw[aah,aae,aaF]; omega
theorem Qx {kvs:List (κ×V)} {k:κ} (v:V) (h:lq kvs k=none):putK kvs k v=kvs++[(k,v)]:=by unfold putK;rw[u6,h];exact acb (by decide)
theorem lM.isSome_eq {o:Option V} {u:Option Value} (r:lM o u):o.isSome=u.isSome:=by
 cases o with
 | none=>cases u with
  | none=>rfl
  | some _=>exact(show False from r).elim
 | some _=>cases u with
  | none=>exact(show False from r).elim
  | some _=>rfl
theorem KV.val {kvs:List (κ×V)} {vs:List (κ×Value)} (r:KV kvs vs) (k:κ):lM (lq kvs k) (valueAt vs k):=by
 unfold KV at r;induction r with
 | nil=>exact True.intro
 | @cons p q ps qs h t ih=>
  obtain⟨h1,h2⟩:=h;by_cases e:p.1=k
  . have e':q.1=k:=h1.symm.trans e;have b:valueAt (q::qs) k=some q.2:=by simp[valueAt,abv,e']
    rw[uZ e,b]; exact h2
  . have e':¬ q.1=k:=λz=>e (h1.trans z);have b:valueAt (q::qs) k=valueAt qs k:=by simp[valueAt,abv,e']
    rw[u5 e,b]; exact ih
theorem KV.any {kvs:List (κ×V)} {vs:List (κ×Value)} (r:KV kvs vs) (k:κ):(kvs.any λkv=>decide (kv.1=k))=vs.any λkv=>decide (kv.1=k):=by
 unfold KV at r;induction r with
 | nil=>rfl
 | cons h t ih=>rw[ab0,ab0,ih,h.1]
theorem KV.repl {kvs:List (κ×V)} {vs:List (κ×Value)} (r:KV kvs vs) (k:κ) {y:V} {u:Value} (ry:RelV y u):
 KV (kvs.map λkv=>if kv.1=k then (kv.1,y) else kv) (vs.map λkv=>if kv.1=k then (kv.1,u) else kv):=by
 unfold KV at r ⊢;induction r with
 | nil=>exact .nil
 | @cons p q ps qs h t ih=>
  rw[aax,aax];refine .cons ?_ ih;obtain⟨h1,h2⟩:=h;by_cases e:p.1=k
  . rw[aca e,aca (h1.symm.trans e)]; exact⟨h1,ry⟩
  . rw[acb e,acb (λz=>e (h1.trans z))]; exact⟨h1,h2⟩
theorem KV.put {kvs:List (κ×V)} {vs:List (κ×Value)} (r:KV kvs vs) (k:κ) {y:V} {u:Value} (ry:RelV y u):KV (putK kvs k y) (stored vs k u):=by
 unfold putK stored;rw[r.any k];by_cases e:(vs.any λkv=>decide (kv.1=k))=true
 . rw[aca e,aca e]; exact r.repl k ry
 . rw[acb e,acb e]; exact Paired.snoc r ⟨rfl,ry⟩
theorem KV.length {kvs:List (κ×V)} {vs:List (κ×Value)} (r:KV kvs vs):kvs.length=vs.length:=Paired.length r
end
theorem yg {k:Key} {u:Value} (r:RelV (kV k) u):(dg P w).is k u=true:=by
 cases k with
 | inl i=>obtain⟨t,e⟩:=(show ∃t,u=Value.int i t from r); subst e; exact Io P w i t
 | inr x=>obtain⟨t,e⟩:=(show ∃t,u=Value.str x t from r); subst e; exact Ip P w x t
theorem DW:∀{ks:List Key} {us:List Value},Vals (ks.map kV) us->ItemsAre (dg P w) ks us
 | [],_,r=>by rw[abx]at r; cases r; exact .nil
 | k::ks,_,r=>by
  rw[aax]at r;cases r with
  | cons h t=>exact .cons (yg h) (DW t)
abbrev KT (H:Hp):List (List Key×V)->List (List Key×Addr×Value)->Prop:=Paired λp q=>p.1=q.1/\H q.2.1=some (.tup (p.1.map kV))/\RelV p.2 q.2.2
theorem KT.val {H:Hp} {kvs:List (List Key×V)} {xs:List (List Key×Addr×Value)} (r:KT H kvs xs) (k:List Key):lM (lq kvs k) ((atKey xs k).map (·.2)):=by
 induction r with
 | nil=>exact True.intro
 | @cons p q ps qs h t ih=>
  obtain⟨h1,_,h2⟩:=h;by_cases e:p.1=k
  . have e':q.1=k:=h1.symm.trans e;have b:atKey (q::qs) k=some q.2:=by simp[atKey,abv,e']
    rw[uZ e,b]; exact h2
  . have e':¬ q.1=k:=λz=>e (h1.trans z);have b:atKey (q::qs) k=atKey qs k:=by simp[atKey,abv,e']
    rw[u5 e,b]; exact ih
theorem KT.repl {H:Hp} {kvs:List (List Key×V)} {xs:List (List Key×Addr×Value)} (r:KT H kvs xs) (k:List Key) {y:V} {u:Value} (ry:RelV y u):
 KT H (kvs.map λkv=>if kv.1=k then (kv.1,y) else kv) (xs.map (putAt k u)):=by
 induction r with
 | nil=>exact .nil
 | @cons p q ps qs h t ih=>
  rw[aax,aax];refine .cons ?_ ih;obtain⟨h1,h2,h3⟩:=h;unfold putAt;by_cases e:p.1=k
  . rw[aca e,aca (h1.symm.trans e)]; exact⟨h1,h2,ry⟩
  . rw[acb e,acb (λz=>e (h1.trans z))]; exact⟨h1,h2,h3⟩
theorem KT.put {H:Hp} {kvs:List (List Key×V)} {xs:List (List Key×Addr×Value)} (r:KT H kvs xs) (k:List Key) {b:Addr} {y:V} {u:Value} (hb:H b=some (.tup (k.map kV))) (ry:RelV y u):
 KT H (putK kvs k y) (storedH xs k b u):=by
 have e:(kvs.any λkv=>decide (kv.1=k))=(atKey xs k).isSome:=by rw[u6,(r.val k).isSome_eq,Option.isSome_map]
 unfold putK storedH;rw[e];by_cases q:(atKey xs k).isSome=true
 . rw[aca q,aca q]; exact r.repl k ry
 . rw[acb q,acb q]; exact Paired.snoc r ⟨rfl,hb,ry⟩
theorem KT.keeps {H H':Hp} {kvs:List (List Key×V)} {xs:List (List Key×Addr×Value)} (r:KT H kvs xs) (ht:∀b ys,H b=some (.tup ys)->H' b=some (.tup ys)):KT H' kvs xs:=
 Paired.mapP r λ_ _ z=>⟨z.1,ht _ _ z.2.1,z.2.2⟩
section
variable {P:Program} {w:World} {H:Hp} {h:Heap} {a:Addr}
theorem R6 {u:HO} (ok:iz P w H h) (e:Rd H a u):fY P w H h a u:=e.ok ok
theorem u9 {kvs:List (Key×V)} (ok:iz P w H h) (e:Rd H a (.dK kvs)):kvs.length<=sizeLine/\(a==sysModules)=false/\∃vs,KV kvs vs/\h.DictOf (dg P w) a vs:=
 show fY P w H h a (.dK kvs) from R6 ok e
theorem Ag {kvs:List (Key×V)} (ok:iz P w H h) (e:H a=some (.dK kvs)):kvs.length<=sizeLine/\(a==sysModules)=false/\∃vs,KV kvs vs/\h.DictOf (dg P w) a vs:=u9 ok (.inl e)
theorem Ah {ks:List Key} (ok:iz P w H h) (e:H a=some (.tup (ks.map kV))):(tupleKind (dg P w)).is h ks a:=by obtain⟨_,its,r,o,h1,h2,n,h3⟩:=(show fY P w H h a (.tup (ks.map kV)) from ok a _ e);exact⟨o,its.toArray,n,h1,h2,h3,by simpa using DW r⟩
theorem Ai {kvs:List (List Key×V)} (ok:iz P w H h) (e:Rd H a (.dT kvs)):kvs.length<=sizeLine/\(a==sysModules)=false/\
 ∃xs,KT H kvs xs/\h.DictOfH (tupleKind (dg P w)) a xs:=by
 obtain⟨z,y,xs,r,o,es,ep,h1,h2,h3,h4,h5⟩:=(show fY P w H h a (.dT kvs) from R6 ok e);refine⟨z,y,xs,r,o,es,ep,h1,h2,h3,h4,λx hx=>?_,h5⟩;have all:∀{l:List (List Key×V)} {m:List (List Key×Addr×Value)},KT H l m->∀x∈m,(tupleKind (dg P w)).is h x.1 x.2.1:=by
  intro l m q;induction q with
  | nil=>intro x hx; exact nomatch hx
  | @cons p q ps qs hq t ih=>
   intro x hx;rcases aaj.mp hx with e | hx
   . subst e;exact Ah ok (by rw[<-hq.1]; exact hq.2.1)
   . exact ih x hx
 exact all r x hx
theorem YC {kvs:List (List Key×V)} (ok:iz P w H h) (e:H a=some (.dT kvs)):kvs.length<=sizeLine/\(a==sysModules)=false/\
 ∃xs,KT H kvs xs/\h.DictOfH (tupleKind (dg P w)) a xs:=Ai ok (.inl e)
end
def Cy (H:Hp) (a:Addr) (y:V) (r:Option V):Prop:=
 (∃kvs k,Rd H a (.dK kvs)/\y=kV k/\r=lq kvs k)\/∃kvs k b,Rd H a (.dT kvs)/\y=.ref b/\H b=some (.tup (k.map kV))/\r=lq kvs k
def Wy (H:Hp) (a:Addr) (y v:V) (H':Hp):Prop:=
 (∃kvs k,H a=some (.dK kvs)/\y=kV k/\kvs.length<sizeLine/\H'=upd H a (.dK (putK kvs k v)))\/
 ∃kvs k b,H a=some (.dT kvs)/\y=.ref b/\H b=some (.tup (k.map kV))/\kvs.length<sizeLine/\H'=upd H a (.dT (putK kvs k v))
section
variable {X:Cx} {pins:List (Addr×Obj)} {σ:St} {H:Hp} {s:Shared} {a:Addr} {y v:V} {u r:Value} {o:Option V} {A:Around} {E:Value->Shared->Prop}
theorem Inv.big (I:Inv X pins σ H s):sysModules<s.heap.objs.size:=by have h:mainGlobals<s.heap.objs.size:=(I.mod.glob.keeps I.bk).lt;exact Nat.lt_trans (by decide) h
theorem M4 {Q:Value->Shared->Prop} (hu:A.units+1<cLine) (I:Inv X pins σ H s) (g:Cy H a y (some v)) (ry:RelV y u) (h:∀w' s',Inv X pins σ H s'->RelV v w'->Q w' s'):
 wpAny (model X.prog X.w) A (getItem (.ref a) u) Q E s:=by
 rcases g with ⟨kvs,k,e,ey,l⟩ | ⟨kvs,k,b,e,ey,eb,l⟩
 . subst ey;obtain⟨z,hd,vs,rel,dd⟩:=u9 I.hok e;obtain⟨w',hw,rw'⟩:=lM.some_of (v:=v) (o:=valueAt vs k) (by rw[l]; exact rel.val k);exact wpAny_getItem_of (yg ry) dd.mapOf hw (h w' _ (I.tok _) rw')
 . subst ey;cases (show u=Value.ref b from ry);obtain⟨z,hd,xs,rel,dd⟩:=Ai I.hok e;obtain⟨w',hw,rw'⟩:=lM.some_of (v:=v) (o:=(atKey xs k).map (·.2)) (by rw[l]; exact rel.val k);obtain⟨p,hp,hp2⟩:=Option.map_eq_some_iff.mp hw;refine wpAny_getItem_heap (tupleKind_room_in1 hu) (Ah I.hok eb) dd hp ?_;rw[hp2];exact h w' _ (I.tok _) rw'
theorem ZP {Q:Value->Shared->Prop} (hu:A.units+1<cLine) (I:Inv X pins σ H s) (g:Cy H a y o) (ry:RelV y u) (h:∀s',Inv X pins σ H s'->Q (.bool o.isSome) s'):
 wpAny (model X.prog X.w) A (compareOp .In u (.ref a)) Q E s:=by
 rcases g with ⟨kvs,k,e,ey,l⟩ | ⟨kvs,k,b,e,ey,eb,l⟩
 . subst ey;obtain⟨z,hd,vs,rel,dd⟩:=u9 I.hok e;refine wpAny_in_of (yg ry) hd dd.mapOf ?_;rw[<-(rel.val k).isSome_eq,<-l];exact h _ (I.tok _)
 . subst ey;cases (show u=Value.ref b from ry);obtain⟨z,hd,xs,rel,dd⟩:=Ai I.hok e;refine wpAny_in_heap (tupleKind_room_in1 hu) (Ah I.hok eb) hd dd ?_;have q:=(rel.val k).isSome_eq;rw[Option.isSome_map]at q;rw[<-q,<-l];exact h _ (I.tok _)
theorem uw {h':Heap} {t':Nat} {ob:HO} (I:Inv X pins σ H s) (mu:Mg (H a)) (hs:Heap.SameBut a s.heap h') (he:∃q,h'.get? a=some q) (new:fY X.prog X.w (upd H a ob) h' a ob):
 Inv X pins σ (upd H a ob) { s with heap:=h',toks:=t' }:=
 I.write (x:=a) (e:=a) mu (.inl rfl) (λb q hb z=>(hs.2 b hb).trans z) he new
theorem Aj {H':Hp} {h':Heap} {kvs:List (Key×V)} {vs:List (Key×Value)} (z:kvs.length<=sizeLine) (hd:(a==sysModules)=false) (rel:KV kvs vs) (dd:h'.DictOf (dg P w) a vs):
 fY P w H' h' a (.dK kvs):=⟨z,hd,vs,rel,dd⟩
theorem M5 {H':Hp} {Q:Unit->Shared->Prop} (hu:A.units+1<cLine) (I:Inv X pins σ H s) (g:Wy H a y v H') (ry:RelV y u) (rv:RelV v r) (h:∀s',Inv X pins σ H' s'->Q () s'):
 wpAny (model X.prog X.w) A (setItem (.ref a) u r) Q E s:=by
 rcases g with ⟨kvs,k,e,ey,l,eH⟩ | ⟨kvs,k,b,e,ey,eb,l,eH⟩
 . subst ey eH;obtain⟨z,hd,vs,rel,dd⟩:=Ag I.hok e;have hz:vs.length<=sizeLine:=by rw[<-rel.length]; exact z
   have hl:(putK kvs k v).length<=sizeLine:=by have:=tR kvs k v; omega
   refine wpAny_setItem_pairs (hsz:=hz) (yg ry) dd λh' dd' hs=>h _ ?_;have he:∃q,h'.get? a=some q:=let ⟨q,_,_,hq,_⟩:=dd'; ⟨q,hq⟩;exact uw I (by rw[e]; exact True.intro) hs he (Aj hl hd (rel.put k rv) dd')
 . subst ey eH;cases (show u=Value.ref b from ry);obtain⟨z,hd,xs,rel,dd⟩:=YC I.hok e;have hz:xs.length<=sizeLine:=by rw[<-Paired.length rel]; exact z
   have hl:(putK kvs k v).length<=sizeLine:=by have:=tR kvs k v; omega
   refine wpAny_setItem_heap (hsz:=hz) (tupleKind_room_in1 hu) (Ah I.hok eb) dd λh' dd' hs=>h _ ?_;obtain⟨q,es,ep,hq,h2,h3,h4,_,h5⟩:=dd';refine uw I (by rw[e]; exact True.intro) hs ⟨q,hq⟩ ⟨hl,hd,_,(rel.put k eb rv).keeps λc ys ec=>?_,q,es,ep,hq,h2,h3,h4,h5⟩;rw[cu (Yo ec e (λz=>nomatch z))];exact ec
end
section
variable {X:Cx} {pins:List (Addr×Obj)} {σ:St} {H:Hp} {s:Shared} {a:Addr} {kvs:List (Key×V)} {k:Key} {u:Value} {A:Around} {E:Value->Shared->Prop}
end
theorem Ir {X:Cx} {σ:St} {H:Hp} {a:Addr} {y:V} {o:Option V} (I:Inv X pins σ H s) (g:Cy H a y o):s.TypeIs (.ref a) "dict" := by
 rcases g with ⟨kvs,k,e,_,_⟩ | ⟨kvs,k,b,e,_,_,_⟩
 . obtain⟨_,_,vs,_,dd⟩:=u9 I.hok e;exact dd.typeIs
 . obtain⟨_,_,xs,_,dd⟩:=Ai I.hok e;exact dd.typeIs
section
variable {X:Cx} {o i e value:Expr} {pos pos' tpos:Pos} {td ty tv:TE}
end
theorem Gq {H:Hp} (h:Heap) (hb:sysModules<h.objs.size):fY P w H (h.push { cls:=.type "dict",data:=.dict #[] }) h.objs.size (.dK []):=
 ⟨aa2 _,acg.mpr (Ne.symm (aaL hb)),[],.nil,Heap.DictOf.new h⟩
def Wz:TE:=λ_ H Q=>∀p,H p=none->Q (.ref p) (upd H p (.dK []))
section
variable {X:Cx} {pos:Pos}
theorem Qy:PE X (.Dict [] [] pos) Wz:=λpins s σ H Q I h=>
 wpAny_Dict_empty ⟨.ref s.heap.objs.size,_,I.laid (a:=s.heap.objs.size) (o:=.dK []) (t':=s.toks) (λ_ _ q=>aad _ q) (aaf _) (Gq s.heap I.big),rfl,h _ (I.hok.fresh (aaf _))⟩
end
def Ak:List (TE×TE)->St->Hp->(List (V×V)->Hp->Prop)->Prop
 | [],_,H,Q=>Q [] H
 | (tk,tv)::r,σ,H,Q=>tk σ H λx H1=>tv σ H1 λy H2=>Ak r σ H2 λps H3=>Q ((x,y)::ps) H3
abbrev VV:List (V×V)->List (Value×Value)->Prop:=Paired λp q=>RelV p.1 q.1/\RelV p.2 q.2
def M6 (X:Cx) (pos:Pos) (keys:List (Option Expr)) (values:List Expr) (trs:List (TE×TE)):Prop:=
 ∀(pins:List (Addr×Obj)) (s:Shared) (σ:St) (H:Hp) (Q:List (V×V)->Hp->Prop),Inv X pins σ H s->Ak trs σ H Q->
  wpAny (model X.prog X.w) X.A (evalPairs (pairTrees keys values X.env pos)) (λvs s'=>∃ps H',Inv X pins σ H' s'/\VV ps vs/\Q ps H') X.xe s
theorem Uc {X:Cx} {pos:Pos}:M6 X pos [] [] []:=λpins s σ H Q I h=>pairTrees_nil_walk ⟨[],H,I,.nil,h⟩
theorem Qz {X:Cx} {pos:Pos} {k v:Expr} {ks:List (Option Expr)} {vs:List Expr} {tk tv:TE} {trs:List (TE×TE)} (hk:PE X k tk) (hv:PE X v tv) (hr:M6 X pos ks vs trs):
 M6 X pos (some k::ks) (v::vs) ((tk,tv)::trs):=λpins s σ H Q I h=>
 pairTrees_cons_walk (bJ (hk pins s σ H _ I h) λu s1 ⟨x,H1,I1,rx,q1⟩=>bJ (hv pins s1 σ H1 _ I1 q1) λw2 s2 ⟨y,H2,I2,ry,q2⟩=>
  bJ (hr pins s2 σ H2 _ I2 q2) λws s3 ⟨ps,H3,I3,rel,q3⟩=>⟨(x,y)::ps,H3,I3,.cons ⟨rx,ry⟩ rel,q3⟩)
def jt (kvs more:List (Key×V)):List (Key×V):=more.foldl (λacc kv=>putK acc kv.1 kv.2) kvs
theorem KV.merge:∀{more:List (Key×V)} {rs:List (Key×Value)} {kvs:List (Key×V)} {vs:List (Key×Value)},KV more rs->KV kvs vs->KV (jt kvs more) (merged vs rs):=by
 intro more rs kvs vs r;unfold KV at r;induction r generalizing kvs vs with
 | nil=>intro q; exact q
 | @cons p q ps qs h t ih=>
  intro r0;have e:KV (putK kvs p.1 p.2) (stored vs q.1 q.2):=by have:=r0.put p.1 h.2;rw[<-h.1]; exact this
  exact ih e
theorem pO:∀(more kvs:List (Key×V)),(jt kvs more).length<=kvs.length+more.length
 | [],kvs=>by show kvs.length<=kvs.length+0; omega
 | p::r,kvs=>by have h1:=pO r (putK kvs p.1 p.2);have h2:=tR kvs p.1 p.2;show (jt (putK kvs p.1 p.2) r).length<=_;rw[aae]; omega
theorem Am:∀{kvs:List (Key×V)} {ws:List (Value×Value)},VV (kvs.map λkv=>(kV kv.1,kv.2)) ws->∃rs,Carries (dg P w) ws rs/\KV kvs rs
 | [],_,r=>by rw[abx]at r; cases r; exact⟨[],True.intro,.nil⟩
 | p::kvs,_,r=>by
  rw[aax]at r;cases r with
  | @cons a b as bs h t=>
   obtain⟨rs,c,q⟩:=Am t;obtain⟨b1,b2⟩:=b;exact⟨(p.1,b2)::rs,⟨yg h.1,rfl,c⟩,.cons ⟨rfl,h.2⟩ q⟩
def YD (trs:List (TE×TE)):TE:=λσ H Q=>∀p,H p=none->Ak trs σ (upd H p (.dK [])) λps H2=>H2 p=some (.dK [])/\∃kvs:List (Key×V),ps=kvs.map (λkv=>(kV kv.1,kv.2))/\kvs.length<=15/\Q (.ref p) (upd H2 p (.dK (jt [] kvs)))
theorem Ud {X:Cx} {pos:Pos} {keys:List (Option Expr)} {values:List Expr} {trs:List (TE×TE)} (h:M6 X pos keys values trs) (hall:keys.all (·.isSome)=true) (hl:keys.length=values.length) (h0:keys≠[])
 (h15:keys.length<=15):PE X (.Dict keys values pos) (YD trs):=by
 intro pins s σ H Q I q;have hn:=I.hok.fresh (aaf s.heap.objs.size);have I1:=I.laid (a:=s.heap.objs.size) (o:=.dK []) (h':=s.heap.push { cls:=.type "dict",data:=.dict #[] }) (t':=s.toks) (λ_ _ q=>aad _ q) (aaf _) (Gq s.heap I.big);refine wpAny_Dict_walk (knd:=dg X.prog X.w) hall hl h0 h15 (bJ (h pins _ σ _ _ I1 (q _ hn)) λws s2 ⟨ps,H2,I2,rel,e,kvs,ep,lk,q2⟩=>?_);subst ep;obtain⟨rs,c,rk⟩:=Am (P:=X.prog) (w:=X.w) rel;obtain⟨z,hd,vs0,r0,dd⟩:=Ag I2.hok e;cases r0;refine⟨rs,c,dd,λh' dd' hs=>⟨.ref s.heap.objs.size,_,?_,rfl,q2⟩⟩;have hz:(jt [] kvs).length<=sizeLine:=by have h1:=pO kvs [];rw[aaF]at h1;rw[sizeLine_eq]; omega
 have he:∃q,h'.get? s.heap.objs.size=some q:=let ⟨q,_,_,hq,_⟩:=dd'; ⟨q,hq⟩;exact uw I2 (by rw[e]; exact True.intro) hs he (Aj hz hd (rk.merge .nil) dd')
structure M1 (X:Cx) (o:Expr) (m:Str) (apos:Pos) (e:Expr) (cpos:Pos):Prop where
 base:attributeBase o m X.env (eval o X.env)=eval o X.env
 few:((backTo cpos (starEach [e] X.env)).all (λx=>!x.1)&&(backToKw cpos (keywordEach [] X.env)).all (λx=>x.1.isSome)
  && decide (([e]:List Expr).length+([]:List Keyword).length+(if ([]:List Keyword).isEmpty then 0 else 1)<30))=true
 line:(apos.endLine==cpos.line)=true
 trees:backTo cpos (starEach [e] X.env)=[(false,eval e X.env)]
structure M2 (X:Cx) (o:Expr) (m:Str) (apos:Pos) (e f:Expr) (cpos:Pos):Prop where
 base:attributeBase o m X.env (eval o X.env)=eval o X.env
 few:((backTo cpos (starEach [e,f] X.env)).all (λx=>!x.1)&&(backToKw cpos (keywordEach [] X.env)).all (λx=>x.1.isSome)
  && decide (([e,f]:List Expr).length+([]:List Keyword).length+(if ([]:List Keyword).isEmpty then 0 else 1)<30))=true
 line:(apos.endLine==cpos.line)=true
 trees:backTo cpos (starEach [e,f] X.env)=[(false,eval e X.env),(false,eval f X.env)]
def Zb (H:Hp) (a:Addr):Prop:=(∃kvs,Rd H a (.dK kvs))\/∃kvs,Rd H a (.dT kvs)
theorem WD {X:Cx} {σ:St} {H:Hp} {a:Addr} (I:Inv X pins σ H s) (d:Zb H a):
 s.TypeIs (.ref a) "dict" /\ (∀b,Value.ref a=.ref b->∃ob,s.heap.get? b=some ob/\ob.dict=none)/\(a==sysModules)=false:=by
 rcases d with ⟨kvs,e⟩ | ⟨kvs,e⟩
 . obtain⟨_,hd,vs,_,dd⟩:=u9 I.hok e;refine⟨dd.typeIs,λb q=>?_,hd⟩;cases q;obtain⟨ob,_,_,h1,h2,_⟩:=dd;exact⟨ob,h1,h2.2.1⟩
 . obtain⟨_,hd,xs,_,dd⟩:=Ai I.hok e;refine⟨dd.typeIs,λb q=>?_,hd⟩;cases q;obtain⟨ob,_,_,h1,h2,_⟩:=dd;exact⟨ob,h1,h2.2.1⟩
section
variable {X:Cx} {pins:List (Addr×Obj)} {σ:St} {H:Hp} {s:Shared} {a:Addr} {y d:V} {u r:Value} {o:Option V} {A:Around} {E:Value->Shared->Prop}
end
section
variable {X:Cx} {o e f:Expr} {apos cpos:Pos} {td ty tx:TE}
end
section
variable {X:Cx} {pins:List (Addr×Obj)} {σ:St} {H:Hp} {s:Shared} {a:Addr} {kvs:List (Key×V)} {A:Around} {E:Value->Shared->Prop}
theorem QB {Q:Value->Shared->Prop} (I:Inv X pins σ H s) (e:Rd H a (.dK kvs)) (h:∀p s',H p=none->Inv X pins σ (upd H p (.dK kvs)) s'->Q (.ref p) s'):wpAny (model X.prog X.w) A (call (.type "dict") [.ref a]) Q E s:=by obtain⟨z,hd,vs,rel,dd⟩:=u9 I.hok e;refine kt_call_dict hd dd (by rw[<-rel.length]; exact z) λh' dd' hs=>?_;refine h _ _ (I.hok.fresh (aaf _)) (I.laid (a:=s.heap.objs.size) (o:=.dK kvs) (t':=s.toks) (λb q hq=>?_) (aaf _) (Aj z (acg.mpr (Ne.symm (aaL I.big))) rel dd'));exact(hs.2 b (aaL (aar hq))).trans (aad _ hq)
end
section
variable {X:Cx} {pins:List (Addr×Obj)} {σ:St} {H:Hp} {s:Shared} {a:Addr} {y:V} {u:Value} {A:Around} {E:Value->Shared->Prop}
end
section
variable {X:Cx}
end
section
variable {κ:Type} [DecidableEq κ]
end
def sO (names:List (Str×NameKind)) (env:Env):List (Str×Addr):=names.foldl (λcs p=>if (p.2==NameKind.free)=true then (p.1,(env.cells.lookup p.1).getD 0)::cs else cs) []
theorem wF {env:Env}:∀(names:List (Str×NameKind)) (cs:List (Str×Addr)) (x:Str) (c:Addr),
 (∀y d,cs.lookup y=some d->d=(env.cells.lookup y).getD 0)->
 (names.foldl (λcs p=>if (p.2==NameKind.free)=true then (p.1,(env.cells.lookup p.1).getD 0)::cs else cs) cs).lookup x=some c->c=(env.cells.lookup x).getD 0
 | [],cs,x,c,h,e=>h x c e
 | (n,k)::r,cs,x,c,h,e=>by
  simp only[abi]at e;refine wF r _ x c ?_ e;intro y d q;split at q
  . simp only[aaW]at q;split at q
    . rename_i z;have z':y=n:=by simpa using z
      rw[z']; exact(aaA q).symm
    . exact h y d q
  . exact h y d q
theorem An {env:Env}:∀(names:List (Str×NameKind)) (cs:List (Str×Addr)) (x:Str) (c:Addr),
 (names.foldl (λcs p=>if (p.2==NameKind.free)=true then (p.1,(env.cells.lookup p.1).getD 0)::cs else cs) cs).lookup x=some c->(∃d,cs.lookup x=some d)\/(x,NameKind.free)∈names
 | [],cs,x,c,e=>.inl ⟨c,e⟩
 | (n,k)::r,cs,x,c,e=>by
  simp only[abi]at e;rcases An r _ x c e with ⟨d,q⟩ | q
  . split at q
    . rename_i hk;simp only[aaW]at q;split at q
      . rename_i z;have z':x=n:=by simpa using z
        have k':k=NameKind.free:=by simpa using hk
        right; rw[z',k']; exact aac
      . exact .inl ⟨d,q⟩
    . exact .inl ⟨d,q⟩
  . exact .inr (aak _ q)
theorem wG {env:Env}:∀(names:List (Str×NameKind)) (cs:List (Str×Addr)) (x:Str),
 ((∃d,cs.lookup x=some d)\/(x,NameKind.free)∈names)->∃c,(names.foldl (λcs p=>if (p.2==NameKind.free)=true then (p.1,(env.cells.lookup p.1).getD 0)::cs else cs) cs).lookup x=some c
 | [],cs,x,h=>by
  rcases h with h | h
  . exact h
  . cases h
 | (n,k)::r,cs,x,h=>by
  simp only[abi];refine wG r _ x ?_;rcases h with ⟨d,h⟩ | h
  . left;split
    . simp only[aaW];split
      . exact⟨_,rfl⟩
      . exact⟨d,h⟩
    . exact⟨d,h⟩
  . rcases aaj.mp h with e | h
    . left;cases e;simp
    . exact .inr h
theorem pP {env:Env}:∀(names:List (Str×NameKind)) (cs:List (Str×Addr)),(∀p∈names,p.2=NameKind.free->∃c,env.cells.lookup p.1=some c)->
 (forIn names cs λp r=>if (p.2==NameKind.free)=true then do let a <-cellOf env p.1; pure (ForInStep.yield ((p.1,a)::r)) else pure (ForInStep.yield r):Sem (List (Str×Addr)))=
  pure (names.foldl (λcs p=>if (p.2==NameKind.free)=true then (p.1,(env.cells.lookup p.1).getD 0)::cs else cs) cs)
 | [],cs,_=>by simp
 | (n,k)::r,cs,h=>by
  rw[ab8,abi];by_cases hk:(k==NameKind.free)=true
  . obtain⟨c,hc⟩:=h (n,k) aac (by simpa using hk);have hc':List.lookup n env.cells=some c:=hc;simp only[hk,if_true,cellOf,hc',pure_bind,ab5];exact pP r _ λp hp=>h p (aak _ hp)
  . simp only[hk,pure_bind];exact pP r _ λp hp=>h p (aak _ hp)
theorem v8 {sc:Scope} {env:Env} (h:∀p∈sc.names,p.2=NameKind.free->∃c,env.cells.lookup p.1=some c):closureFor sc env=pure (sO sc.names env):=by have:=pP (env:=env) sc.names [] h;unfold closureFor sO;rw[<-this];simp only[bind_pure]
theorem oH {env:Env}:∀(names:List (Str×NameKind)) (x:Str),
 (names.map λ(n,k)=>if (k==NameKind.free&&env.scope.kind==.function&&env.kindOf n==some .cell) then (n,NameKind.cell) else (n,k)).lookup x=
  (names.lookup x).map λk=>if (k==NameKind.free&&env.scope.kind==.function&&env.kindOf x==some .cell) then NameKind.cell else k
 | [],x=>rfl
 | (n,k)::r,x=>by
  have ih:=oH (env:=env) r x;simp only[aax];by_cases hx:x=n
  . subst hx;split<;>simp_all
  . have hb:(x==n)=false:=acg.mpr hx;split<;>simp only[aaW,hb,ih]
theorem ji {x:Str} {a:Addr}:∀(names:List (Str×NameKind)) (n:Nat) (acc:List (Str×Addr)),(cellsFrom n names acc).lookup x=some a->n<=a\/acc.lookup x=some a
 | [],_,_,h=>.inr h
 | (y,k)::r,n,acc,h=>by
  unfold cellsFrom at h;split at h
  . rcases ji r _ _ h with q | q
    . exact .inl (abn q)
    . rw[aaW]at q;split at q
      . cases q; exact .inl (aaf _)
      . exact .inr q
  . exact ji r _ _ h
theorem wH {x y:Str} {a:Addr}:∀(names:List (Str×NameKind)) (n:Nat) (acc:List (Str×Addr)),(∀z b,acc.lookup z=some b->b<n)->(cellsFrom n names acc).lookup x=some a->(cellsFrom n names acc).lookup y=some a->n<=a->x=y
 | [],_,_,h,h1,h2,h3=>absurd (h _ _ h1) (Nat.not_lt.mpr h3)
 | (z,k)::r,n,acc,h,h1,h2,h3=>by
  unfold cellsFrom at h1 h2;split at h1
  . rename_i hk;rw[aca hk]at h2;have one:∀{w:Str},(cellsFrom (n+1) r ((z,n)::acc)).lookup w=some a->a=n->w=z:=λ{w} e e'=>by
     rcases ji r _ _ e with q | q
     . exact absurd q (by rw[e']; exact Nat.not_succ_le_self n)
     . rw[aaW]at q;split at q
       . rename_i hw; exact beq_iff_eq.mp hw
       . exact absurd (h _ _ q) (by rw[e']; exact abb _)
    by_cases e:a=n
    . exact(one h1 e).trans (one h2 e).symm
    . refine wH r (n+1) _ (λw b q=>?_) h1 h2 (Nat.lt_of_le_of_ne h3 (Ne.symm e));rw[aaW]at q;split at q
      . cases q; exact aaM _
      . exact abo (h _ _ q)
  . rename_i hk;rw[acb hk]at h2;exact wH r n acc h h1 h2 h3
theorem wI {x:Str} {a:Addr}:∀(names:List (Str×NameKind)) (n:Nat) (acc:List (Str×Addr)),names.lookup x=some .cell->(cellsFrom n names acc).lookup x=some a->n<=a
 | [],_,_,h,_=>by cases h
 | (y,k)::r,n,acc,h,h1=>by
  rw[aaW]at h;unfold cellsFrom at h1;split at h
  . rename_i hy;cases h;rw[aca (by decide)]at h1;rcases ji r _ _ h1 with q | q
    . exact abn q
    . rw[aaW,hy]at q; cases q; exact aaf _
  . split at h1
    . exact abn (wI r _ _ h h1)
    . exact wI r _ _ h h1
theorem wJ {x:Str}:∀(names:List (Str×NameKind)) (n:Nat) (acc:List (Str×Addr)),(∀p∈names,p.2=.cell->p.1≠x)->(cellsFrom n names acc).lookup x=acc.lookup x
 | [],_,_,_=>rfl
 | (y,k)::r,n,acc,h=>by
  unfold cellsFrom;split
  . rename_i hk;rw[wJ r _ _ λp hp=>h p (aak _ hp),aaW,show (x==y)=false from acg.mpr λe=>h _ aac (by simpa using hk) e.symm]
  . exact wJ r _ _ λp hp=>h p (aak _ hp)
theorem vd:∀(names:List (Str×NameKind)) (h:Heap) (acc:List (Str×Addr)) (x:Str) (a:Addr),(cellsFrom h.objs.size names acc).lookup x=some a->h.objs.size<=a->(∀z b,acc.lookup z=some b->b<h.objs.size)->(pushCells h names).IsCell a none
 | [],h,acc,x,a,e,hl,hb=>absurd (hb _ _ e) (Nat.not_lt.mpr hl)
 | (y,k)::r,h,acc,x,a,e,hl,hb=>by
  unfold cellsFrom at e;unfold pushCells;split at e
  . rename_i hk;rw[aca hk];have hz:=abq h ({ cls:=.type "cell",data:=.cell none }:Obj);by_cases q:a=h.objs.size
    . subst q;exact⟨_,pushCells_keeps r _ _ _ (aay _ rfl),rfl⟩
    . refine vd r _ ((y,h.objs.size)::acc) x a (by rw[hz]; exact e) (by rw[hz]; exact Nat.lt_of_le_of_ne hl (Ne.symm q)) λz b q'=>?_;rw[hz];rw[aaW]at q';split at q'
      . cases q'; exact aaM _
      . exact abo (hb _ _ q')
  . rename_i hk;rw[acb hk];exact vd r h acc x a e hl hb
abbrev mL (sc:Scope) (C:Addr) (env:Env):List (Str×Addr):=cellsFrom (C+1) sc.names (sO sc.names env)
structure iZ (X:Cx) (M F:List Str) (ixs:List Nat) (sc:Scope):Prop where
 kind:sc.kind=.function
 locs:∀y∈sc.names,y.2=.local->sc.names.lookup y.1=some .local
 cel:∀y∈sc.names,y.2=.cell->sc.names.lookup y.1=some .cell
 own:∀p∈sc.names,p.2=.free->X.env.scope.names.lookup p.1=some .cell\/X.env.scope.names.lookup p.1=some .free
 frs:∀x∈F,sc.names.lookup x=some .free
 ixl:ixs.length=F.length
 ixn:∀(j i:Nat),ixs[j]?=some i->X.N[i]?=F[j]?
abbrev wK (m:Nat) (ixs:List Nat) (σ:St):St:=List.replicate m none++ixs.map λi=>(σ[i]?).join
def eZ (X:Cx) (M F:List Str) (sc:Scope) (C:Addr) (fp:List Addr) (s:Shared) (H:Hp):Cx where
 prog:=X.prog
 w:=X.w
 K:=X.K
 mg:=X.mg
 base:=X.base
 A:=X.A
 N:=M++F
 s₀:=s
 H0:=H
 env:=compEnvC sc (mL sc C X.env) C X.env
 outer:=X.stack
 stack:=X.stack
 ex:=fp
 fn:=λx=>sc.names.lookup x==some .cell
 calm:=X.calm
 pn:=[]
 xe:=λ_ _=>False
section
variable {X:Cx} {pins:List (Addr×Obj)} {σ:St} {H:Hp} {s:Shared}
theorem iZ.free_of {M F:List Str} {ixs:List Nat} {sc:Scope} (c:iZ X M F ixs sc) {x:Str} {k:NameKind} (h:sc.names.lookup x=some k):(x,k)∈sc.names:=by
 generalize sc.names=l at h;induction l with
 | nil=>cases h
 | cons p r ih=>
  rw[aaW]at h;split at h
  . rename_i z;have z':x=p.1:=by simpa using z
    have e:p.2=k:=aaA h;subst e;rw[z'];exact aac
  . exact aak _ (ih h)
theorem zf (I:Inv X pins σ H s) {M F:List Str} {ixs:List Nat} {sc:Scope} (c:iZ X M F ixs sc):∀p∈sc.names,p.2=NameKind.free->∃a,X.env.cells.lookup p.1=some a:=λp hp e=>
 I.ok.has p.1 (by rcases c.own p hp e with h | h; exact .inl h; exact .inr h)
theorem gR (I:Inv X pins σ H s) {M F:List Str} {ixs:List Nat} {sc:Scope} (c:iZ X M F ixs sc) {x:Str} {a:Addr} (h:(sO sc.names X.env).lookup x=some a):X.env.cells.lookup x=some a:=by
 have e:=wF (env:=X.env) sc.names [] x a (λy d q=>by cases q) h;rcases An sc.names [] x a h with ⟨d,q⟩ | q
 . cases q
 . obtain⟨b,hb⟩:=zf I c _ q rfl;have hb':X.env.cells.lookup x=some b:=hb;rw[hb',ab5]at e;rw[hb',e]
theorem M7 (I:Inv X pins σ H s) {M F:List Str} {ixs:List Nat} {sc:Scope} (c:iZ X M F ixs sc) {x:Str} {a:Addr} (h:(sO sc.names X.env).lookup x=some a):a<s.heap.objs.size:=by obtain⟨v,o,ho,_⟩:=I.cell x a (gR I c h);exact aar ho
theorem Ue (I:Inv X pins σ H s) {M F:List Str} {ixs:List Nat} {sc:Scope} (c:iZ X M F ixs sc) {C:Addr} {fp:List Addr} (hC:s.heap.objs.size<=C) (hf:∀b∈fp,mH X pins H b) (ho:∀b∈fp,∃o,s.heap.get? b=some o):(eZ X M F sc C fp s H).Ok where
 mod:=I.ok.mod
 kind:=c.kind
 glob:=I.ok.glob
 blt:=I.ok.blt
 above:=hC
 inj:=λx y a e1 e2=>by
  have e1':(mL sc C X.env).lookup x=some a:=e1;have e2':(mL sc C X.env).lookup y=some a:=e2;have lt:∀z b,(sO sc.names X.env).lookup z=some b->b<C+1:=λz b q=>abo (aaz (M7 I c q) hC);rcases ji _ _ _ e1' with q | q
  . exact wH _ _ _ lt e1' e2' q
  . rcases ji _ _ _ e2' with q' | q'
    . exact absurd (lt _ _ q) (Nat.not_lt.mpr q')
    . exact I.ok.inj x y a (gR I c q) (gR I c q')
 has:=λx h=>by
  have h':((sc.names.lookup x).map λk=>if (k==NameKind.free&&X.env.scope.kind==.function&&X.env.kindOf x==some .cell) then NameKind.cell else k)=some .cell\/((sc.names.lookup x).map λk=>if (k==NameKind.free&&X.env.scope.kind==.function&&X.env.kindOf x==some .cell) then NameKind.cell else k)=some .free:=by rw[<-oH]; exact h
  refine abG.mp (ab3 _ _ _ ?_);cases e:sc.names.lookup x with
  | none=>rw[e]at h'; rcases h' with h' | h'<;>cases h'
  | some k=>
   rw[e]at h';have m:=c.free_of e;cases k with
   | free=>exact .inr (abG.mpr (wG sc.names [] x (.inr m)))
   | cell=>exact .inl rfl
   | _=>rcases h' with h' | h'<;>simp at h'
 cab:=λx a h e=>aaR hC (abn (wI _ _ _ (beq_iff_eq.mp h) e))
 hd:=I.ok.hd
 frames:=I.ok.frames
 stk:=.inl rfl
 exf:=λb hb=>⟨by
  obtain⟨o,e⟩:=ho b hb;exact aaL (aaz (aar e) hC),λx a e=>by
  obtain⟨o,eo⟩:=ho b hb;rcases ji _ _ _ (show (mL sc C X.env).lookup x=some a from e) with q | q
  . exact aa6 (aaz (aar eo) (aaR hC (abn q)))
  . exact(hf b hb).2.2.2.2.1 x a (gR I c q)⟩
 bs:=I.bs
 bsz:=aaR I.ok.bsz I.sz
 noex:=λb o e hb=>by
  obtain⟨_,_,_,h,_⟩:=hf b hb;rcases h with h | h
  . exact I.ok.noex b o e h
  . exact absurd (aaz (aar (I.ok.bs b o e).1) h) (abb _)
 exfs:=λb hb z=>by
  obtain⟨_,h1,h2,_⟩:=hf b hb;rcases aaj.mp (I.stkSub b z) with z | z
  . exact h1 z
  . exact h2 z
 funs:=I.stack
 frf:=I.stkFree
theorem QC (I:Inv X pins σ H s) {M F:List Str} {ixs:List Nat} {sc:Scope} (c:iZ X M F ixs sc) {fp:List Addr} (hf:∀b∈fp,mH X pins H b) (ho:∀b∈fp,∃o,s.heap.get? b=some o)
 {h₁:Heap} {tk:Nat} {C:Addr} {m1:Str->Option Value} (hC:C=s.heap.objs.size+1) (hns:h₁.Ns C m1) (old:∀b o,s.heap.get? b=some o->h₁.get? b=some o)
 (hD:h₁.get? s.heap.objs.size=some { cls:=.type "list",data:=.seq #[] 0 }) (hce:∀x a,(mL sc C X.env).lookup x=some a->C+1<=a->h₁.IsCell a none):
 Inv (eZ X M F sc C fp s H) [] (wK M.length ixs σ) (upd H s.heap.objs.size (.lst [])) { s with heap:=h₁,toks:=tk }:=by
 have hDn:H s.heap.objs.size=none:=I.hok.fresh (aaf _);have hCle:s.heap.objs.size<=C:=by rw[hC]; exact abB _
 have hCn:H C=none:=I.hok.fresh hCle;have hok:=Ue (X:=X) I c (C:=C) (fp:=fp) hCle hf ho;refine⟨hok,rfl,I.bare,Un.laid old (aaf _) hDn,⟨m1,hns,?_⟩,?_,?_,?_,?_,?_,?_⟩
 . intro i x v e1 e2 hv;have e1':(M++F)[i]?=some x:=e1;by_cases hi:i<M.length
   . rw[aaI (by simpa using hi)]at e2;rw[List.getElem?_replicate]at e2;simp[hi]at e2
   . rw[aav (by omega)]at e1';rw[aav (by simpa using abN hi)]at e2;simp only[List.length_replicate,aaJ]at e2;cases q:ixs[i-M.length]? with
     | none=>rw[q]at e2; cases e2
     | some i'=>
      rw[q]at e2;have e2':(σ[i']?).join=some v:=by simpa using e2
      have e3:σ[i']?=some (some v):=by
       cases z:σ[i']? with
       | none=>rw[z]at e2'; cases e2'
       | some y=>rw[z]at e2'; simp at e2'; rw[e2']
      have xF:x∈F:=aa0 e1';have hlk:=c.frs x xF;have hm:=c.free_of hlk;have hX:=c.own _ hm rfl;have hN:X.N[i']?=some x:=by rw[c.ixn _ _ q]; exact e1'
      obtain⟨m,hn,hl⟩:=I.loc;have vis:Mi X.env.scope x:=by
       rcases hX with h | h
       . exact .inr (.inl h)
       . exact .inr (.inr h)
      obtain⟨u,r,l⟩:=hl i' x v hN e3 vis;refine⟨u,r,.inr ⟨?_,?_⟩⟩
      . show (Env.kindOf (compEnvC sc (mL sc C X.env) C X.env) x=_)\/(Env.kindOf (compEnvC sc (mL sc C X.env) C X.env) x=_);have:Env.kindOf (compEnvC sc (mL sc C X.env) C X.env) x=(sc.names.lookup x).map λk=>if (k==NameKind.free&&X.env.scope.kind==.function&&X.env.kindOf x==some .cell) then NameKind.cell else k:=oH sc.names x
        rw[this,hlk];simp only[abj];split
        . exact .inl rfl
        . exact .inr rfl
      . rcases l with ⟨hk,_⟩ | ⟨_,cc,hcc,hcell⟩
        . rcases hX with h | h
          . have hk':X.env.scope.names.lookup x=some .local:=hk;have h':X.env.scope.names.lookup x=some .cell:=h;rw[h']at hk'; cases hk'
          . have hk':X.env.scope.names.lookup x=some .local:=hk;have h':X.env.scope.names.lookup x=some .free:=h;rw[h']at hk'; cases hk'
        . obtain⟨a,ha⟩:=wG (env:=X.env) sc.names [] x (.inr hm);have ha':=gR I c (x:=x) (a:=a) ha;rw[hcc]at ha'; cases ha';obtain⟨oc,hoc,hd⟩:=hcell;exact⟨cc,(wJ _ _ _ λp hp e z=>by have:=c.cel p hp e; rw[z,hlk]at this; cases this).trans ha,oc,old _ _ hoc,hd⟩
 . intro x a e;have e':(mL sc C X.env).lookup x=some a:=e;rcases ji _ _ _ e' with q | q
   . exact⟨none,hce x a e' q⟩
   . obtain⟨v,oc,hoc,hd⟩:=I.cell x a (gR I c q);exact⟨v,oc,old _ _ hoc,hd⟩
 . show upd H s.heap.objs.size (.lst []) C=none;rw[cu (by rw[hC]; exact Nat.succ_ne_self _)]; exact hCn
 . intro x a e;rcases ji _ _ _ (show (mL sc C X.env).lookup x=some a from e) with q | q
   . have q':s.heap.objs.size<a:=abu hCle q;rw[cu (aa6 q')];exact I.hok.fresh (abF q')
   . obtain⟨v,oc,hoc,hd⟩:=I.cell x a (gR I c q);rw[cu (aaL (aar hoc))];exact I.freeC x a (gR I c q)
 . intro p hp; cases hp
 . exact I.hok.laid old (aaf _) ⟨aa2 _,[],0,.nil,hD⟩
 . show (List.replicate M.length none++_).length=(M++F).length;simp[c.ixl]
def wL (X:Cx) (ifs:List Expr) (t:TT):Prop:=
 ∀(pins:List (Addr×Obj)) (s:Shared) (σ:St) (H:Hp) (Q:Bool->Hp->Prop),Inv X pins σ H s->t σ H Q->
  wpAny (model X.prog X.w) X.A (forIn ifs true λc r=>if r=true then do let ok <-isTrue c X.env (eval c X.env); pure (ForInStep.yield ok) else pure (ForInStep.yield r)) (TP X pins σ Q) X.xe s
theorem QD {X:Cx}:wL X [] (λ_ H Q=>Q true H):=λ_ s σ H Q I h=>wpAny_tests_nil ⟨H,I,h⟩
def K8 (wi:TI) (m:Nat) (ixs:List Nat) (g:TG) (tc:TT) (te:TE):TE:=λσ H Q=>wi σ H λJ H1=>∀p,H1 p=none->
 ∃W:Nat->Nat->St->Hp->Prop,(∃n,W 0 n (wK m ixs σ) (upd H1 p (.lst [])))/\∀i n σ' H',W i n σ' H'->
  ((J.stop i H'/\Q (.ref p) H')\/(J.go i H'/\∀x H2,J.yld i H' x H2->g x σ' H2 λσ3 H3=>tc σ3 H3 λb H4=>
    if b=true then te σ3 H4 λv H5=>∃ys,H5 p=some (.lst ys)/\ys.length<sizeLine/\∃n',n'<n/\W (i+1) n' σ3 (upd H5 p (.lst (ys++[v])))
    else ∃n',n'<n/\W (i+1) n' σ3 H4))
def CI (X:Cx) (fp:List Addr) (tn:Nat->Heap->Prop) (W:Nat->Nat->St->Hp->Prop) (n:Nat) (s:Shared):Prop:=∃i σ H,Inv X [] σ H s/\tn i s.heap/\(∀b∈fp,H b=none)/\W i n σ H
theorem Gr {P:Prop} (h:∀G:Prop,(P->G)->G):P:=h P id
theorem M8 {D it:Addr} {fp:List Addr} {tn:Nat->Heap->Prop} {J:It} {tg iter elt:Expr} {ifs:List Expr} {sc:Scope} {pos:Pos} {g:TG} {tc:TT} {te:TE} {W:Nat->Nat->St->Hp->Prop} {F:Hp->Prop} (hcalm:X.calm=true) (T:Turn X.prog X.w X.K tg J fp it tn) (hg:PG X tg g) (hc:wL X ifs tc) (he:PE X elt te) (hx:∀u s,X.xe u s->False)
 (stat:∀{H':Hp},(∀b∈fp,H' b=none)->∀b∈fp,mH X [] H' b)
 (turn:∀i n σ' H',W i n σ' H'->((J.stop i H'/\F H')\/(J.go i H'/\∀x H2,J.yld i H' x H2->g x σ' H2 λσ3 H3=>tc σ3 H3 λb H4=>
   if b=true then te σ3 H4 λv H5=>∃ys,H5 D=some (.lst ys)/\ys.length<sizeLine/\∃n',n'<n/\W (i+1) n' σ3 (upd H5 D (.lst (ys++[v])))
   else ∃n',n'<n/\W (i+1) n' σ3 H4)))
 {R:Result->Shared->Prop} (hR:∀σ' H' s',Inv X [] σ' H' s'->F H'->R (.ok .next) s') (n:Nat) (s':Shared) (hI:CI X fp tn W n s'):
 wpAny (model X.prog X.w) X.A (compTurn (.ListComp elt [⟨tg,iter,ifs,0⟩] sc pos) 0 (.ref it) (.ref D) X.env)
  (λfin s'=>match fin with | .done f=>R (.ok f) s' | .again c'=>c'=.compLoop (.ListComp elt [⟨tg,iter,ifs,0⟩] sc pos) 0 (.ref it) (.ref D) X.env/\∃m,m<n/\CI X fp tn W m s') (λ_ _=>False) s':=by
 refine Gr λG kG=>?_;obtain⟨i,σ',H',I',st',fr',w'⟩:=hI;rw[compTurn_list]at kG;rcases turn i n σ' H' w' with ⟨stop,qn⟩ | ⟨go,step⟩
 . refine kG (ab9 (wpAny_standAt (ab9 (wpAny_mono (T.done X rfl rfl rfl hcalm i [] s' σ' H' (λ_ _=>False) I' (stat fr') st' stop) (λr s4 h4=>?_) λ_ _ f=>f))));obtain⟨hr,I4⟩:=h4;subst hr;exact acd (hR σ' H' _ I4 qn)
 . refine kG (ab9 (wpAny_standAt (ab9 (wpAny_mono (T.item X rfl rfl rfl hcalm i [] s' σ' H' (λ_ _=>False) I' (stat fr') st' go) (λr s4 h4=>?_) λ_ _ f=>f))));obtain⟨u,hr,h4⟩:=h4;subst hr;refine ab9 (wpAny_mono h4 (λ_ s5 h5=>?_) λ_ _ f=>f);refine Gr λG kG=>?_;obtain⟨x,H5,I5,r5,y5,st5,fr5⟩:=h5;have again:∀{s7:Shared} {σ7:St} {H7:Hp} {n':Nat},Inv X ([]++ww fp s5.heap) σ7 H7 s7->W (i+1) n' σ7 H7->CI X fp tn W n' s7:=λ{s7 σ7 H7 n'} I7 w7=>by
    have pn:∀b∈fp,∀o,s5.heap.get? b=some o->s7.heap.get? b=some o/\H7 b=none:=λb hb o e=>by have:=I7.pin (b,o) (aaD _ (aaD _ (uX hb e)));exact⟨this.1,this.2.1⟩
    refine⟨i+1,σ7,H7,I7.unpinned,T.keep _ _ _ st5 λb hb o e=>(pn b hb o e).1,λb hb=>?_,w7⟩;obtain⟨o,e,d⟩:=T.obj _ _ st5 b hb;exact(pn b hb o e).2
   refine kG (ab9 (wpAny_mono (hg _ s5 σ' H5 x u _ (I5.pinned (stat fr5) (T.obj _ _ st5)) r5 (step x H5 y5)) (λ_ s6 h6=>?_) hx));refine Gr λG kG=>?_;obtain⟨σ6,H6,I6,q6⟩:=h6;refine kG (ab9 (wpAny_mono (hc _ s6 σ6 H6 _ I6 q6) (λok s7 h7=>?_) hx));refine Gr λG kG=>?_;obtain⟨H7,I7,q7⟩:=h7;cases ok with
   | false=>
    rw[acb aaS]at q7;obtain⟨n',hn',w7⟩:=q7;exact kG (acd ⟨rfl,n',hn',again I7 w7⟩)
   | true=>
    rw[aca rfl]at q7;refine kG (ab9 (ab9 (wpAny_mono (he _ s7 σ6 H7 _ I7 q7) (λv s8 h8=>?_) hx)));refine Gr λG kG=>?_;obtain⟨y,H8,I8,r8,ys,hp8,hz,n',hn',w8⟩:=h8;refine kG (ab9 (wpAny_mono (d8 (X:=X) _ s8 σ6 H8 (.ref D) [y] (.ref D) [v] (λ_ H9=>W (i+1) n' σ6 H9) I8 rfl (.cons r8 .nil) ⟨_,ys,y,rfl,rfl,hp8,hz,w8⟩) (λ_ s9 h9=>?_) hx));obtain⟨_,H9,I9,_,w9⟩:=h9;exact acd (acd ⟨rfl,n',hn',again I9 w9⟩)
theorem Ug {Md:Model} {sc:Scope} {gl:Addr} {clo:List (Str×Addr)} {qual:Str} {env:Env} {Q:Env->Shared->Prop}
 (h:Q (newEnv sc s.heap.objs.size gl (cellsFrom (s.heap.objs.size+1) sc.names clo) qual none .none (some env) builtinsNs) { s with heap:=pushCells (s.heap.push { cls:=.type "dict",data:=.dict #[] }) sc.names }):
 wpAny Md A (newFunctionEnv sc gl clo [] qual none .none (some env)) Q E s:=by
 simp only[newFunctionEnv,Option.isSome_some,if_true];refine ab9 (wpAny_alloc ?_);refine ab9 (wpAny_layCells _ (λname kind cells=>by cases hkc:kind==NameKind.cell<;>simp[hkc]) _ _ _ _ ?_);rw[show ({ s with heap:=s.heap.push { cls:=.type "dict",data:=.dict #[] } }:Shared).heap.objs.size=s.heap.objs.size+1 from abq ..];exact ab9 (acd (acd h))
theorem Ao {M F:List Str} {ixs:List Nat} {sc:Scope} {tg iter elt:Expr} {ifs:List Expr} {g:TG} {tc:TT} {te:TE} {pos:Pos} (hcalm:X.calm=true) (c:iZ X M F ixs sc)
 (hg:∀C fp s H,PG (eZ X M F sc C fp s H) tg g) (hc:∀C fp s H,wL (eZ X M F sc C fp s H) ifs tc) (he:∀C fp s H,PE (eZ X M F sc C fp s H) elt te)
 {fp:List Addr} {it:Addr} {tn:Nat->Heap->Prop} {J:It} {Q:VK} (I:Inv X pins σ H s) (T:Turn X.prog X.w X.K tg J fp it tn) (st:tn 0 s.heap) (hf:∀b∈fp,mH X pins H b)
 (h:∀p,H p=none->∃W:Nat->Nat->St->Hp->Prop,(∃n,W 0 n (wK M.length ixs σ) (upd H p (.lst [])))/\∀i n σ' H',W i n σ' H'->
   ((J.stop i H'/\Q (.ref p) H')\/(J.go i H'/\∀x H2,J.yld i H' x H2->g x σ' H2 λσ3 H3=>tc σ3 H3 λb H4=>
     if b=true then te σ3 H4 λv H5=>∃ys,H5 p=some (.lst ys)/\ys.length<sizeLine/\∃n',n'<n/\W (i+1) n' σ3 (upd H5 p (.lst (ys++[v])))
     else ∃n',n'<n/\W (i+1) n' σ3 H4)))
 {RR:Value->Addr->Result->Shared->Prop} {E:Value->Shared->Prop}
 (hR:∀D C s' H' m,s.heap.get? D=none->s.heap.get? C=none->s.heap.objs.size<=C->H D=none->D≠C->H' C=none->s'.heap.Ns C m->s'.os=s.os->AllBare s'.gens->Un (frs X.stack) fp H H' s.heap s'.heap->iz X.prog X.w H' s'.heap->Q (.ref D) H'->RR (.ref D) C (.ok .next) s'):
 wpAny (model X.prog X.w) X.A (newList []) (λacc s₃=>wpAny (model X.prog X.w) X.A (newFunctionEnv sc X.env.globals (sO sc.names X.env) [] X.env.qual none .none (some X.env)) (λcenv s₄=>
  codeAny (model X.prog X.w) X.A (.compStart (.ListComp elt [⟨tg,iter,ifs,0⟩] sc pos) 0 (.ref it) acc { cenv with scope:=relabel sc X.env }) (RR acc cenv.locals) s₄) E s₃) E s:=by
 refine wpAny_newObj_type (Ug ?_);dsimp only;generalize hH2:s.heap.push { cls:=.type "list",dict:=none,data:=.seq ([]:List Value).toArray }=H2;generalize hh1:pushCells (H2.push { cls:=.type "dict",data:=.dict #[] }) sc.names=h₁;have kp:∀b o,H2.get? b=some o->h₁.get? b=some o:=λb o e=>by rw[<-hh1]; exact pushCells_keeps _ _ _ _ (aad _ e)
 have hns₁:h₁.Ns H2.objs.size (λ_=>none):=by rw[<-hh1]; exact(Heap.Ns.new H2 (.type "dict")).keeps (pushCells_keeps _ _)
 have hC:H2.objs.size=s.heap.objs.size+1:=by rw[<-hH2,abq]
 have hDC:s.heap.objs.size≠H2.objs.size:=by rw[hC]; exact aaL (aaM _)
 have below:∀b,b<s.heap.objs.size->b≠H2.objs.size:=λb hb=>by rw[hC]; exact aaL (abo hb)
 have old:∀b o,s.heap.get? b=some o->h₁.get? b=some o:=λb o e=>kp b o (hH2▸aad _ e);have hD:h₁.get? s.heap.objs.size=some { cls:=.type "list",data:=.seq #[] 0 }:=kp _ _ (hH2▸aay _ rfl);have fresh:∀a,s.heap.objs.size<=a->s.heap.get? a=none:=λa ha=>by
  cases e:s.heap.get? a with
  | none=>rfl
  | some o'=>exact absurd (aar e) (Nat.not_lt.mpr ha)
 have hDn:H s.heap.objs.size=none:=I.hok.fresh (aaf _);have hfo:∀b∈fp,∃o,s.heap.get? b=some o:=λb hb=>let ⟨o,e,_⟩:=T.obj 0 _ st b hb; ⟨o,e⟩;have hz2:(H2.push { cls:=.type "dict",data:=.dict #[] }).objs.size=H2.objs.size+1:=abq ..;have hce:∀x a,(mL sc H2.objs.size X.env).lookup x=some a->H2.objs.size+1<=a->h₁.IsCell a none:=λx a e q=>by rw[<-hh1];exact vd _ _ (sO sc.names X.env) x a (by rw[hz2]; exact e) (by rw[hz2]; exact q) λz b q'=>by rw[hz2,hC]; exact abo (abo (M7 I c q'))
 have I0:=QC I c hf hfo (tk:=s.toks) hC hns₁ old hD hce;obtain⟨W,⟨n0,w0⟩,turn⟩:=h _ hDn;have nf:∀b∈fp,b≠s.heap.objs.size:=λb hb=>by obtain⟨o,e⟩:=hfo b hb; exact aaL (aar e)
 have stat:∀{H':Hp},(∀b∈fp,H' b=none)->∀b∈fp,mH (eZ X M F sc H2.objs.size fp s H) [] H' b:=λ{H'} hn b hb=>by
  obtain⟨f0,f1,f2,f3,f4,f5⟩:=hf b hb;obtain⟨o,e⟩:=hfo b hb;refine⟨hn b hb,below b (aar e),λz=>?_,.inl hb,λx a e'=>by
   rcases ji _ _ _ (show (mL sc H2.objs.size X.env).lookup x=some a from e') with q | q
   . exact aa6 (aaz (aar e) (aaR (by rw[hC]; exact abB _) (abn q)))
   . exact f4 x a (gR I c q),λp hp=>by cases hp⟩
  rcases aaj.mp (I.stkSub b z) with z | z
  . exact f1 z
  . exact f2 z
 have st1:tn 0 h₁:=T.keep 0 _ _ st λb hb o e=>old b o e;have loop:codeAny (model X.prog X.w) X.A (.compLoop (.ListComp elt [⟨tg,iter,ifs,0⟩] sc pos) 0 (.ref it) (.ref s.heap.objs.size) (compEnvC sc (mL sc H2.objs.size X.env) H2.objs.size X.env))
  (RR (.ref s.heap.objs.size) H2.objs.size) { s with heap:=h₁ }:=by
  refine codeAny_loop rfl (CI (eZ X M F sc H2.objs.size fp s H) fp tn W) (λn s' hI=>?_) n0 ⟨0,_,_,I0,st1,λb hb=>by rw[cu (nf b hb)]; exact(hf b hb).1,w0⟩;show wpAny _ X.A ((compTurn (.ListComp elt [⟨tg,iter,ifs,0⟩] sc pos) 0 (.ref it) (.ref s.heap.objs.size) (compEnvC sc (mL sc H2.objs.size X.env) H2.objs.size X.env)).onRaise (λx=>do noteFrame x (compEnvC sc (mL sc H2.objs.size X.env) H2.objs.size X.env); theTreesLotGoes x)) _ _ s';refine wpAny_noted (wpAny_mono (M8 (X:=eZ X M F sc H2.objs.size fp s H) hcalm T (hg _ fp s H) (hc _ fp s H) (he _ fp s H) (λ_ _ f=>f) stat turn (λσ' H' s4 I4 qn=>?_) n s' hI) (λ_ _ h=>h) λ_ _ f=>f.elim);obtain⟨m4,hn4,_⟩:=I4.loc;exact hR _ _ _ H' m4 (fresh _ (aaf _)) (fresh _ (by rw[hC]; exact abB _)) (by rw[hC]; exact abB _) hDn hDC I4.free hn4 I4.os I4.bare I4.base I4.hok qn
 exact codeAny_compStart_list loop (T.self _ 0 _ _ _ st1 loop)
end
section
variable {X:Cx}
theorem Jk {σ σ':St} {H H':Hp} {s s':Shared} {C:Addr} (I:Inv X pins σ H s) (hC:s.heap.get? C=none) (I':Inv X pins σ' H' s') (hn:H' C=none) {h':Heap} {m:Str->Option Value} (hs:Heap.SameBut C s'.heap h')
 (hsz:s.heap.objs.size<=C):Inv X pins σ' H' { s' with heap:=h' }:=by
 have ne:∀a o,s.heap.get? a=some o->C≠a:=λa o e z=>by rw[z,e]at hC; cases hC
 refine I'.turned (t':=s'.toks) (it:=C) (λb o hb e=>(hs.2 b hb).trans e) hn ?_ (.inr (aaR I.sz hsz)) (λx c e=>?_) (λp hp=>?_)
 . exact aa6 (aaz I.lt hsz)
 . obtain⟨v,o,ho,_⟩:=I.cell x c e;exact Ne.symm (ne _ _ ho)
 . exact Ne.symm (ne _ _ (I.pin p hp).1)
theorem Uh (M F:List Str) (ixs:List Nat) {sc:Scope} {tg iter elt:Expr} {ifs:List Expr} {wi:TI} {g:TG} {tc:TT} {te:TE} {pos:Pos} (hcalm:X.calm=true) (c:iZ X M F ixs sc) (hi:PI X tg iter wi)
 (hg:∀C fp s H,PG (eZ X M F sc C fp s H) tg g) (hc:∀C fp s H,wL (eZ X M F sc C fp s H) ifs tc) (he:∀C fp s H,PE (eZ X M F sc C fp s H) elt te)
 (hs:∀x,foldedSetIterable iter X.env x=pure x:=by intro _; rfl):PE X (.ListComp elt [⟨tg,iter,ifs,0⟩] sc pos) (K8 wi M.length ixs g tc te):=by
 intro pins s σ H Q I h;rw[eval_ListComp];refine wpAny_comprehension_free (use:=none) rfl hs (v8 (zf I c)) c.kind c.locs (bJ (hi pins s σ H _ I h) λv s1 h1=>bJ h1 λitv s2 h2=>?_);obtain⟨it,fp,tn,J,H2,e,I2,T,st2,f2,q⟩:=h2;subst e;refine Ao (Q:=Q) hcalm c hg hc he I2 T st2 f2 q (RR:=λacc C=>compPost (model X.prog X.w) X.A X.xe none (EP X pins σ Q) acc C) ?_;intro D C s' H' m hD hC hsz hDn hDC hCn hns hos hbare hun hok q';have I3:Inv X pins σ H' s':=I2.call' hos hun hok hbare λb hb=>by obtain⟨_,g1,g2,g3,g4,g5⟩:=f2 b hb;exact⟨g3,g1,g4,g5⟩
 exact⟨m,hns,λh' hs'=>⟨.ref D,H',Jk (m:=m) I2 hC I3 hCn hs' hsz,rfl,q'⟩⟩
theorem Ui {i:Nat} (M F:List Str) (ixs:List Nat) {x:Str} {sc:Scope} {tg iter elt:Expr} {ifs:List Expr} {wi:TI} {g:TG} {tc:TT} {te:TE} {pos pos' pos2:Pos} (hN:X.N.Nodup) (hix:X.N[i]?=some x) (hx:X.env.scope.names.lookup x=some .local)
 (hcalm:X.calm=true) (c:iZ X M F ixs sc) (hi:PI X tg iter wi)
 (hg:∀C fp s H,PG (eZ X M F sc C fp s H) tg g) (hc:∀C fp s H,wL (eZ X M F sc C fp s H) ifs tc) (he:∀C fp s H,PE (eZ X M F sc C fp s H) elt te)
 (hsw:swapsWith (.ListComp elt [⟨tg,iter,ifs,0⟩] sc pos) (some (.Name x pos')) pos2.line X.env=pure true:=by rfl)
 (hs:∀x,foldedSetIterable iter X.env x=pure x:=by intro _; rfl):PS X (.Assign [.Name x pos'] (.ListComp elt [⟨tg,iter,ifs,0⟩] sc pos) pos2) (λD σ H=>K8 wi M.length ixs g tc te σ H λv H1=>D.nx (σ.set i (some v)) H1):=by
 intro pins s σ H D I h;rw[exec_Assign_Name_used _ _ _ _ hsw];refine ab9 (wpAny_standAt (ab9 ?_));show wpAny _ X.A (do let _ <-comprehension (.ListComp elt [⟨tg,iter,ifs,0⟩] sc pos) sc X.env _ (newList []) false (eval iter X.env) (some (assign (.Name x pos') X.env))) _ _ s;refine ab9 (wpAny_mono (wpAny_comprehension_free (use:=some (assign (.Name x pos') X.env)) (Q:=λ_ s'=>SP X pins D .next s') rfl hs (v8 (zf I c)) c.kind c.locs
  (bJ (hi pins s σ H _ I h) λv s1 h1=>bJ h1 λitv s2 h2=>?_)) (λ_ s' hq=>acd (acd hq)) λ_ _ e=>e)
 obtain⟨it,fp,tn,J,H2,e,I2,T,st2,f2,q⟩:=h2;subst e;refine Ao (Q:=λv H1=>D.nx (σ.set i (some v)) H1) hcalm c hg hc he I2 T st2 f2 q (RR:=λacc C=>compPost (model X.prog X.w) X.A X.xe (some (assign (.Name x pos') X.env)) (λ_ s'=>SP X pins D .next s') acc C) ?_;intro D' C s' H' m hD hC hsz hDn hDC hCn hns hos hbare hun hok q';have I3:Inv X pins σ H' s':=I2.call' hos hun hok hbare λb hb=>by obtain⟨_,g1,g2,g3,g4,g5⟩:=f2 b hb;exact⟨g3,g1,g4,g5⟩
 have hLC:C≠X.env.locals:=aa6 (aaz I2.lt hsz);show wpAny _ X.A (assign (.Name x pos') X.env (.ref D')) _ _ _;refine wpAny_assign_Name (Dw (v:=.ref D') I3 hN hix (.inl hx) rfl (λs'' I4 ⟨a,hsb,ha⟩=>?_) (.inr hx));have hCa:C≠a:=by
  rcases ha with ha | ha
  . rw[ha]; exact hLC
  . obtain⟨v,o,ho,_⟩:=I2.cell x a ha;intro z; rw[z,ho]at hC; cases hC
 exact⟨m,hns.sameBut hsb hCa,λh' hs'=>⟨_,H',Jk (m:=m) I2 hC I4 hCn hs' hsz,q'⟩⟩
end
theorem Gs (l:Addr) (items:Array Value) (n:Nat) (b:Addr) (items2:Array Value) (n2:Nat) (dd2:Option Addr) (sl2:Array (Option Value)) (hc0:¬(!items.isEmpty&&Builtin.List.listTooLong (items.size+items2.size))=true) (hc1:items.size<=sizeLine) (hs2:items.size+items2.size<=sizeLine+1):
 Meets (Builtin.«list.extend» ⟨[.ref l,.ref b],[]⟩) (λ_ R s=>s.heap.get? l=some { cls:=.type "list",dict:=none,data:=.seq items n,slots:=#[] }/\s.heap.get? b=some { cls:=.type "list",dict:=dd2,data:=.seq items2 n2,slots:=sl2 }/\R (.ok (.ret Value.none)) { s with heap:=s.heap.update l (Obj.mapSeq λx=>x++items2),toks:=s.toks }):=
 .of_wp λprog w A R s h=>by
  obtain⟨hp,g,d,tk,os⟩:=s; obtain⟨hl,hb,h⟩:=h; have f1:=AutoSeq1.idx_int; have f2:=AutoSeq1.sub_tuple_tuple; have f3:=AutoSeq1.sub_list_list; have f4:=AutoSeq1.sub_tuple_list; have f5:=AutoSeq1.sub_list_tuple;have hz':(items++items2).size<=sizeLine+1:=by rw[Array.size_append]; exact hs2
  wp_walk using (wpAny_updateSeq hl rfl (hz:=hc1) (_hz':=hz')),AutoSeq1.wpAny_loadPart' hl,AutoSeq1.wpAny_loadPart' hb; exact⟨_,rfl,h⟩
section
variable {X:Cx}
theorem Uj:d7 X (binaryOp .Add) (λx y H Q=>∃a b xs ys,x=.ref a/\y=.ref b/\bR X.K H a xs/\bR X.K H b ys/\xs.length+ys.length<=sizeLine/\∀p,H p=none->Q (.ref p) (upd H p (.lst (xs++ys)))):=by
 intro pins s σ H x y v u Q I rx ry h;obtain⟨a,b,xs,ys,rfl,rfl,ha,hb,hz,q⟩:=h;cases rx;cases ry;obtain⟨its,r1,⟨⟨c1,d1,dt1,s1⟩,n1,g1,e1,e2,e3⟩,_⟩:=I.list ha;obtain⟨its2,r2,⟨⟨c2,d2,dt2,s2⟩,n2,g2,f1,f2,f3⟩,_⟩:=I.list hb;simp only at e1 e2 e3 f1 f2 f3;subst e1 e2 e3 f1 f2 f3;have hl1:=r1.length;have hl2:=r2.length;refine concat_meets ⟨_,g1,rfl⟩ ⟨_,g2,rfl⟩ noFill_list_add seq_list_add F.slot_list_add F.entry_list_add (F.args_list_add_2 _ _) (list_addW a b its.toArray its2.toArray n1 n2 none none s1 s2 (by rw[aat,aat]; omega)) ⟨g1,g2,?_⟩;have ea:its.toArray++its2.toArray=(its++its2).toArray:=by simp
 rw[ea];exact⟨.ref _,_,I.lnew (t':=s.toks) (r1.append r2) (by rw[aah]; omega),rfl,q _ I.fresh⟩
def zg (K:FG):V->List V->Hp->VK->Prop:=λx vs H Q=>∃l b xs zs,x=.ref l/\vs=[.ref b]/\H l=some (.lst xs)/\bR K H b zs/\xs.length+zs.length<=sizeLine/\Q .non (upd H l (.lst (xs++zs)))
theorem Aq:R5 X "list.extend" (zg X.K):=by
 intro pins s σ H x vs v us Q I rx rv h;obtain⟨l,b,xs,zs,rfl,rfl,hH,hB,hz,q⟩:=h;cases rx;obtain⟨u,rfl,ru⟩:=rv.one;cases ru;obtain⟨z,its,n,r,hl,e⟩:=I.lstM hH;obtain⟨its2,r2,⟨⟨c2,d2,dt2,s2⟩,n2,g2,f1,f2,f3⟩,_⟩:=I.list hB;simp only at f1 f2 f3;subst f1 f2 f3;have hl2:=r2.length;have hsz:its.toArray.size+its2.toArray.size<=sizeLine:=by rw[aat,aat]; omega
 have hlong:¬ (!its.toArray.isEmpty&&Builtin.List.listTooLong (its.toArray.size+its2.toArray.size))=true:=by rw[Qu hsz,Bool.and_false];exact aaS
 refine call_meets F.slot_list_extend ⟨_,e,rfl⟩ F.entry_list_extend (F.args_list_extend_2 _ _)
  (Gs l its.toArray n b its2.toArray n2 none s2 hlong (by rw[aat]; omega) (by omega)) ⟨e,g2,?_⟩
 refine⟨.non,_,I.lset (its':=its++its2) hH e (by simp) (r.append r2) ?_,rfl,q⟩;rw[aah];omega
end
def ux (z:Str) (lo hi:Option Int):Str:=⟨((z.cps.toList.drop (HT.sIx z.length 0 lo)).take (HT.sIx z.length z.length hi-HT.sIx z.length 0 lo)).toArray⟩
theorem YF (lo hi:Option Int) (n:Nat):Builtin.Str.strSliceIndices lo hi 1 n=(List.range (HT.sIx n n hi-HT.sIx n 0 lo)).map (HT.sIx n 0 lo+·):=by
 have e1:∀(o:Option Int) (d:Nat),d<=n->(match o with | none=>(d:Int) | some i=>max 0 (min (if i<0 then i+(n:Int) else i) (n:Int)))=((HT.sIx n d o:Nat):Int):=λo d hd=>by
  cases o with
  | none=>rfl
  | some i=>
   simp only[HT.sIx];by_cases h:i<0
   . simp only[h,if_true]<;>omega
   . simp only[h,if_false]<;>omega
 rw[<-sliceRange_one];have a1:=e1 lo 0 (aa2 _);have a2:=e1 hi n (aaf _);unfold Builtin.Str.strSliceIndices;rw[<-a1,<-a2];cases lo<;>cases hi<;>simp
theorem M9 (z:Str) (lo hi:Option Int):Txt.slice z lo hi=ux z lo hi:=by
 unfold Txt.slice ux;rw[YF];have hp:=pick_run z.cps (HT.sIx z.length 0 lo) (HT.sIx z.length z.length hi-HT.sIx z.length 0 lo);split
 . rename_i h;have h2:(List.map (HT.sIx z.length 0 lo+·) (List.range (HT.sIx z.length z.length hi-HT.sIx z.length 0 lo))).length=z.length:=by simpa using h
   rw[aag,List.length_range]at h2;have hh:HT.sIx z.length z.length hi<=z.length:=HT.sIx_le _ _ (aaf _) hi;have hl0:HT.sIx z.length 0 lo<=z.length:=HT.sIx_le _ _ (aa2 _) lo;have hl:HT.sIx z.length 0 lo=0:=by omega
   rw[h2,hl,List.drop_zero,List.take_of_length_le (by rw[abC]; exact aaf _)]
 . rw[hp]
def ZQ:V->Option Int->Option Int->Hp->VK->Prop:=λx lo hi H Q=>∃z,x=.str z/\z.length<=sizeLine/\Q (.str (ux z lo hi)) H
section
variable {X:Cx}
theorem WF:DQ X ZQ:=by
 intro pins s σ H x v vl vu lo hi sl Q I rx hs pl pu h;obtain⟨z,rfl,hz,q⟩:=h;obtain⟨t,rfl⟩:=rx;refine⟨"str",_,F.slot_str_getitem.lookup,typeIs_str _ _ _,?_⟩;have go:∀(l u:Option (Int×Tok)),vl=partValue l->vu=partValue u->l.map (·.1)=lo->u.map (·.1)=hi->wpAny (model X.prog X.w) X.A (getItem (.str z t) (.ref sl)) (EP X pins σ Q) X.xe s:=λl u e1 e2 e3 e4=>by subst e1 e2 e3 e4;refine wpAny_getItem_str_slice (l:=l) (u:=u) (st:=none) hs rfl (post_val_or_str ⟨aaR (Txt.slice_le z _ _) hz,λt' k=>?_⟩);refine⟨.str (ux z (l.map (·.1)) (u.map (·.1))),H,I.tok _,⟨t',?_⟩,q⟩;rw[<-M9];rfl
 cases pl with
 | none=>cases pu with
  | none=>exact go none none rfl rfl rfl rfl
  | int j tj=>exact go none (some (j,tj)) rfl rfl rfl rfl
 | int i ti=>cases pu with
  | none=>exact go (some (i,ti)) none rfl rfl rfl rfl
  | int j tj=>exact go (some (i,ti)) (some (j,tj)) rfl rfl rfl rfl
end
section
variable {X:Cx} {pins:List (Addr×Obj)} {σ:St} {H:Hp} {s:Shared} {h':Heap}
theorem QF {h:Heap} {a:Addr} {o:Obj} (e:h.get? a=some o):o.isFreed=false:=by
 unfold Heap.get? at e;split at e
 . cases e
 . rename_i hne;obtain⟨c,d,dt,sl⟩:=o;cases dt<;>first | rfl | exact(hne _ _ _ e).elim
theorem Inv.turned2 {t':Nat} {e it:Addr} (I:Inv X pins σ H s) (hei:e≠it) (k:∀b o,b≠e->b≠it->s.heap.get? b=some o->h'.get? b=some o) (fe:mH X pins H e) (fi:mH X pins H it) (he:∃o,h'.get? e=some o) (hes:∃o,s.heap.get? e=some o):Inv X pins σ H { s with heap:=h',toks:=t' }:=by
 obtain⟨o,ho⟩:=he;obtain⟨o0,ho0⟩:=hes;obtain⟨a0,a1,a2,a3,a4,a5⟩:=fe;obtain⟨b0,b1,b2,b3,b4,b5⟩:=fi;have I1:Inv X pins σ H { s with heap:=s.heap.update e (λ_=>o),toks:=s.toks }:=I.turned (it:=e) (λb u hb q=>(abJ s.heap (λ_=>o) (Ne.symm hb)).trans q) a0 a1 a3 a4 a5;refine Inv.turned (s:={ s with heap:=s.heap.update e (λ_=>o),toks:=s.toks }) (it:=it) (h':=h') (t':=t') I1 (λb u hb q=>?_) b0 b1 b3 b4 b5;by_cases hbe:b=e
 . subst hbe;have q':(s.heap.update b (λ_=>o)).get? b=some u:=q;rw[abP (λ_=>o) ho0 (QF ho)]at q';cases q';exact ho
 . have q':(s.heap.update e (λ_=>o)).get? b=some u:=q;rw[abJ s.heap (λ_=>o) (Ne.symm hbe)]at q';exact k b u hbe hb q'
end
def WK (K:FG) (a:Addr):It:=
 ⟨λi H=>∃xs x,bR K H a xs/\xs[i]?=some x,λi H x H'=>∃T y,H T=none/\x=.ref T/\H'=upd H T (.tup [.int i,y])/\∀xs,bR K H a xs->xs[i]?=some y,λi H=>∃xs,bR K H a xs/\xs.length<=i⟩
theorem Nb {K:FG} {elts:List Expr} {x1} {pos:Pos} (a e it:Addr) (hei:e≠it):Turn P w K (.Tuple elts x1 pos) (WK K a) [e,it] e (λi h=>(∃old,IsEnum h e it i old)/\h.IsListIter it a i) where
 mem:=by simp
 obj:=λi h st b hb=>by
  obtain⟨⟨old,he⟩,hit⟩:=st;rcases aaj.mp hb with rfl | hb
  . exact⟨_,he,λv z=>by have z':Data.fields _=Data.cell v:=z;cases z'⟩
  . have eb:b=it:=by simpa using hb
    subst eb;obtain⟨o,ho,c,d⟩:=hit;exact⟨o,ho,λv z=>by rw[d]at z; cases z⟩
 keep:=λi h h' st k=>by obtain⟨⟨old,he⟩,hit⟩:=st;exact⟨⟨old,k e (by simp) _ he⟩,hit.at λo q=>k it (by simp) o q⟩
 item:=by
  intro X hP hw hK hc i pins s σ H E I hf st hg;subst hP hw hK;obtain⟨⟨old,he⟩,hit⟩:=st;obtain⟨xs,x,hq,hx⟩:=hg;obtain⟨its,rv,p,hz⟩:=I.list hq;obtain⟨u,hu,ru⟩:=rv.get hx;have fe:=hf e (by simp);have fi:=hf it (by simp);have helt:e<s.heap.objs.size:=aar he;have hilt:it<s.heap.objs.size:=by obtain⟨_,q,_⟩:=hit; exact aar q
  have hTn:H s.heap.objs.size=none:=I.hok.fresh (aaf _);refine wpAny_pyNext_enum_item he hit p.isList (x:=u) (by simpa using hu) hei λh1 ho hit' hT hsz hk=>?_;refine⟨_,rfl,wpAny_letOwnedTupleGo_enum ho λh2 he' hs'=>?_⟩;have ne1:s.heap.objs.size≠e:=aa6 helt;have ne2:s.heap.objs.size≠it:=aa6 hilt;have I1:Inv X pins σ (upd H s.heap.objs.size (.tup [.int i,x])) { s with heap:=s.heap.push { cls:=.type "tuple",data:=.seq #[.int i s.toks,u] },toks:=s.toks+1 }:=by refine I.laid (λb o q=>aad _ q) (aaf _) ⟨by simp only[aae,aaF]; rw[sizeLine_eq]; decide,[.int i s.toks,u],.cons ⟨_,rfl⟩ (.cons ru .nil),?_⟩;exact⟨_,aay s.heap rfl,rfl,0,rfl⟩
  have up:∀b,b≠s.heap.objs.size->H b=none->upd H s.heap.objs.size (.tup [.int i,x]) b=none:=λb hb q=>by rw[cu hb]; exact q
  have I2:Inv X pins σ (upd H s.heap.objs.size (.tup [.int i,x])) { s with heap:=h2,toks:=s.toks+1 }:=by
   refine I1.turned2 (h':=h2) (t':=s.toks+1) hei (λb o hb1 hb2 q=>?_) ⟨up e ne1.symm fe.1,fe.2⟩ ⟨up it ne2.symm fi.1,fi.2⟩ ⟨_,he'⟩ ⟨_,aad _ he⟩;rw[hs'.2 b hb1];by_cases hbT:b=s.heap.objs.size
   . subst hbT;have q':(s.heap.push { cls:=.type "tuple",data:=.seq #[.int i s.toks,u] }).get? s.heap.objs.size=some o:=q;rw[aay s.heap rfl]at q';cases q';exact hT
   . refine hk b o hb1 hb2 ?_;have q':(s.heap.push { cls:=.type "tuple",data:=.seq #[.int i s.toks,u] }).get? b=some o:=q;rw[Heap.get?_push_ne s.heap b _ hbT]at q';exact q'
  refine⟨.ref s.heap.objs.size,_,I2,rfl,⟨s.heap.objs.size,x,hTn,rfl,rfl,λys hy=>by rw[I.list_inj hy hq]; exact hx⟩,⟨⟨u,by simpa using he'⟩,hit'.at λo y=>(hs'.2 it hei.symm).trans y⟩,λb hb=>?_⟩;rcases aaj.mp hb with rfl | hb
  . exact up _ ne1.symm fe.1
  . have eb:b=it:=by simpa using hb
    subst eb;exact up _ ne2.symm fi.1
 done:=by intro X hP hw hK hc i pins s σ H E I hf st hg;subst hP hw hK;obtain⟨⟨old,he⟩,hit⟩:=st;obtain⟨xs,hq,hx⟩:=hg;obtain⟨its,rv,p,hz⟩:=I.list hq;obtain⟨f0,f1,f2,f3,f4,f5⟩:=hf it (by simp);have hl:=rv.length;exact wpAny_pyNext_enum_end (I.ok.hd hc) he hit p.isList (abK (by simp; omega)) λh' eb=>⟨rfl,I.turned (t':=s.toks) (λb o hb q=>eb b o hb q) f0 f1 f3 f4 f5⟩
 self:=λ_ _ _ _ _ st h=>by obtain⟨⟨old,he⟩,_⟩:=st;exact wpAny_pyIter_enum he h
section
variable {X:Cx}
def YG (K:FG) (ta:TA):TI:=λσ H R=>ta σ H λvs H1=>∃a,vs=[.ref a]/\(∃xs,bR K H1 a xs)/\R (WK K a) H1
theorem Uk {a:Expr} {ta:TA} {p pos:Pos} {elts:List Expr} {x1} {tpos:Pos} (hg:Gl X "enumerate") (hm:X.mg "enumerate" = none) (ha:PA X [a] ta) (hs:starEach [a] X.env=[(false,eval a X.env)]:=by rfl):PI X (.Tuple elts x1 tpos) (.Call (.Name "enumerate" p) [a] [] pos) (YG X.K ta):=by
 intro pins s σ H R I h;refine Call_ (qR (u:=.type "enumerate") I hg hm (by kernel_rfl) (PyProof.Rows.callWith_type1 (bJ (ha pos pins s σ H _ I h) λus s1 ⟨vs,H1,I1,r1,q1⟩=>?_) hs rfl));obtain⟨b,e,⟨xs,hq⟩,q⟩:=q1;subst e;cases r1 with
 | cons r rr=>
  cases rr;cases r;obtain⟨its,rv,pl,hz⟩:=I1.list hq;refine call_enumerate_list pl.isList λh' he hit hsz hk=>?_;have I2:Inv X pins σ H1 { s1 with heap:=h' }:=I1.kept (t':=s1.toks) hk;refine wpAny_pyIter_enum he ?_;refine⟨s1.heap.objs.size+1,[s1.heap.objs.size+1,s1.heap.objs.size],_,_,H1,rfl,I2,Nb b (s1.heap.objs.size+1) s1.heap.objs.size (Nat.succ_ne_self _),⟨⟨_,he⟩,hit⟩,λc hc=>?_,q⟩;have hc':s1.heap.objs.size<=c:=by
   rcases aaj.mp hc with rfl | hc
   . exact abB _
   . have ec:c=s1.heap.objs.size:=by simpa using hc
     exact Nat.le_of_eq ec.symm
  exact I1.fpOk hc' (I1.hok.fresh hc')
def R7 (i j:Int):Prop:=0<j/\j<18446744073709551616
theorem iB:d7 X (binaryOp .FloorDiv) (rI R7 λi j=>.int (i/j)):=Mr λi j _ _ _ _ _ hc q=>by
 have h1:(0:Int)<j:=hc.1;have h2:j<18446744073709551616:=hc.2;have h0:j.natAbs≠0:=by omega
 have h3:j.natAbs.log2<64:=(Nat.log2_lt h0).mpr (by omega);exact floordiv_int (by omega) (by rw[Int.fdiv_eq_ediv_of_nonneg i (by omega)]; exact q) (.inl (PyProof.noPylong_of_log2 (by omega)))
def YH:R2:=λx y H Q=>∃a v,x=.ref a/\Cy H a y (some v)/\Q v H
theorem Jl (hu:X.A.units+1<cLine):yN X YH:=by intro value slice pins s σ H x y v u Q I rx ry h hs;obtain⟨a,z,rfl,g,q⟩:=h;cases rx;exact tail_any (Ir I g) F.slot_dict_getitem.lookup (M4 hu I g ry λw' s3 I3 rw'=>⟨z,H,I3,rw',q⟩) hs
def La:V->V->V->Hp->(Hp->Prop)->Prop:=λo i v H Q=>∃a H',o=.ref a/\Wy H a i v H'/\Q H'
theorem set_dict (hu:X.A.units+1<cLine):V5 X La:=by intro pins s σ H o i v ov iv u Q I ro ri rv h;obtain⟨a,H',rfl,g,q⟩:=h;cases ro;exact M5 hu I g ri rv λs4 I4=>⟨H',I4,q⟩
theorem yO:m8 X (.type "int") (λxs H Q=>∃b,xs=[.bl b]/\Q (.int (if b then 1 else 0)) H):=by intro pins s σ H xs us Q I r h;obtain⟨b,rfl,q⟩:=h;obtain⟨u,rfl,ru⟩:=vals1 r;cases ru;exact call_int_bool ⟨.int _,H,I.tok _,⟨_,rfl⟩,q⟩
end
section
variable {X:Cx} {pins:List (Addr×Obj)} {σ:St} {H:Hp} {s:Shared} {h':Heap}
theorem Inv.turnedL {t':Nat} {fp:List Addr} (I:Inv X pins σ H s) (k:∀b o,b∉fp->s.heap.get? b=some o->h'.get? b=some o) (f:∀b∈fp,mH X pins H b):Inv X pins σ H { s with heap:=h',toks:=t' }:=by
 have nit:∀b u,H b=some u->b∉fp:=λb u e z=>by rw[(f b z).1]at e; cases e
 refine I.step (g':=s.gens) (d':=s.drawn) (ch:=fp) (λb hb=>⟨(f b hb).2.2.2.1,(f b hb).2.1,(f b hb).2.2.2.2.1,(f b hb).2.2.2.2.2⟩) (λb o _ _ hc e _=>k b o hc e) (λb o _ _ hc e _=>⟨o.slots,k b o hc e⟩) (λ_ _ _ _ n=>n)
  (λb o hc e=>⟨o,k b o hc e⟩) (λ_ _ e=>e) (λ_ _ _ e=>e) (λb ps e=>⟨#[],by rw[e]; simp⟩) (λm hm=>?_) (λb u e=>?_) I.bare
 . obtain⟨o,es,ep,ho,r⟩:=hm;exact⟨o,es,ep,k _ o (λz=>(f _ z).2.1 rfl) ho,r⟩
 . refine(I.hok b u e).stay (λc v hc q=>k c v ?_ q) (λ_ q=>q) λ_ _ q=>q;rcases hc with z | z
   . rw[z]; exact nit b u e
   . exact nit c _ z
end
structure WL (z TI TO i1 i2:Addr):Prop where
 TIz:TI≠z
 TOz:TO≠z
 i1z:i1≠z
 i2z:i2≠z
 TITO:TI≠TO
 TIi1:TI≠i1
 TIi2:TI≠i2
 TOi1:TO≠i1
 TOi2:TO≠i2
 i12:i1≠i2
section
variable {X:Cx}
end
section
variable {prog:Program}
end
section
variable {prog:Program} {w:World} {A:Around} {R:Result->Shared->Prop} {I:Addr} {fp wr:List Addr} {G:Array GenState->Array GenState->Prop} {n:Nat} {P:Nat->Value->Prop} {St:Nat->Shared->Prop}
end
section
variable {prog:Program}
end
section
variable {X:Cx} {pins:List (Addr×Obj)} {σ:St} {H:Hp} {s:Shared}
end
section
variable {X:Cx}
end
section
variable {prog:Program}
end
section
variable {X:Cx}
end
def WM (K:FG) (a:Addr) (n:Nat):It:=
 ⟨λi H=>i<n/\∃xs,bR K H a xs/\xs.length=n,λi H x H'=>H'=H/\∀xs,bR K H a xs->xs[n-1-i]?=some x,λi H=>i=n/\∃xs,bR K H a xs/\xs.length=n⟩
theorem QG {K:FG} {tg:Expr} (a it:Addr) (n:Nat):Turn P w K tg (WM K a n) [it] it (λi h=>h.IsRevIter it a ((n:Int)-1-i)) where
 mem:=by simp
 obj:=λi h st b hb=>by
  have e:b=it:=by simpa using hb
  subst e;obtain⟨o,e,c,d⟩:=st;exact⟨o,e,λv z=>by rw[d]at z; cases z⟩
 keep:=λi h h' st k=>st.at λo e=>k it (by simp) o e
 item:=by
  intro X hP hw hK hc i pins s σ H E I hf st hg;subst hP hw hK;obtain⟨hi,xs,hq,hn⟩:=hg;obtain⟨its,rv,p,hz⟩:=I.list hq;obtain⟨f0,f1,f2,f3,f4,f5⟩:=hf it (by simp);have hx:xs[n-1-i]?=some (xs[n-1-i]'(by omega)):=aaB _;obtain⟨u,hu,ru⟩:=rv.get hx;have e1:(n:Int)-1-i=((n-1-i:Nat):Int):=by omega
  rw[e1]at st;refine wpAny_pyNext_rev_item st p.isList (x:=u) (by simpa using hu) λh' st' sb=>?_;have I1:Inv X pins σ H { s with heap:=h' }:=I.turned (t':=s.toks) (λb o hb e=>(sb.2 b hb).trans e) f0 f1 f3 f4 f5;obtain⟨o,e,c,d⟩:=id st';have e2:((n-1-i:Nat):Int)-1=(n:Int)-1-((i+1:Nat):Int):=by omega
  rw[e2]at st';exact⟨u,rfl,Fp (s:={ s with heap:=h' }) e c d (by decide) ⟨_,H,I1,ru,⟨rfl,λys hy=>by rw[I.list_inj hy hq]; exact hx⟩,st',λb hb=>(hf b hb).1⟩⟩
 done:=by
  intro X hP hw hK hc i pins s σ H E I hf st hg;subst hP hw hK;obtain⟨rfl,xs,hq,hn⟩:=hg;obtain⟨f0,f1,f2,f3,f4,f5⟩:=hf it (by simp);have e1:(i:Int)-1-i=-1:=by omega
  rw[e1]at st;exact wpAny_pyNext_rev_end (I.ok.hd hc) st λh' eb=>⟨rfl,I.turned (t':=s.toks) (λb o hb e=>eb b o hb e) f0 f1 f3 f4 f5⟩
 self:=λ_ _ _ _ _ st h=>wpAny_pyIter_revIter st h
section
variable {X:Cx}
def ZR (K:FG) (ta:TA):TI:=λσ H R=>ta σ H λvs H1=>∃a xs,vs=[.ref a]/\bR K H1 a xs/\R (WM K a xs.length) H1
theorem WN {tg a:Expr} {ta:TA} {p pos:Pos} (hg:Gl X "reversed") (hm:X.mg "reversed" = none) (ha:PA X [a] ta) (hs:starEach [a] X.env=[(false,eval a X.env)]:=by rfl):PI X tg (.Call (.Name "reversed" p) [a] [] pos) (ZR X.K ta):=by
 intro pins s σ H R I h;refine Call_ (qR (u:=.type "reversed") I hg hm (by kernel_rfl) (PyProof.Rows.callWith_type1 (bJ (ha pos pins s σ H _ I h) λus s1 ⟨vs,H1,I1,r1,q1⟩=>?_) hs rfl));obtain⟨b,xs,e,hq,q⟩:=q1;subst e;cases r1 with
 | cons r rr=>
  cases rr;cases r;obtain⟨its,rv,pl,hz⟩:=I1.list hq;have hl:=rv.length;refine call_reversed_list pl.isList ?_;have hit:(s1.heap.push (revObj b ((its.toArray.size:Int)-1))).IsRevIter s1.heap.objs.size b ((xs.length:Int)-1-((0:Nat):Int)):=by
   have e0:(xs.length:Int)-1-((0:Nat):Int)=(its.toArray.size:Int)-1:=by rw[hl]; simp
   rw[e0];exact⟨_,aay _ rfl,rfl,rfl⟩
  refine wpAny_pyIter_revIter hit ?_;refine⟨s1.heap.objs.size,[s1.heap.objs.size],_,_,H1,rfl,I1.kept (t':=s1.toks) λb o e=>aad _ e,QG b _ _,hit,λc hc=>?_,q⟩;have e:c=s1.heap.objs.size:=by simpa using hc
  subst e;exact I1.fpOk (aaf _) (I1.hok.fresh (aaf _))
end
def ju:Bool->Heap->Addr->Addr->Nat->Prop
 | true,h,it,a,i=>h.IsListIter it a i
 | false,h,it,a,i=>h.IsTupleIter it a i
def j6:Bool->Heap->Addr->Array Value->Prop
 | true,h,a,its=>h.IsList a its
 | false,h,a,its=>h.IsTuple a its
def m9:Bool->FG->Hp->Addr->List V->Prop
 | true,K,H,a,xs=>bR K H a xs
 | false,K,H,a,xs=>cM K H a xs
theorem ju.at {k:Bool} {h h':Heap} {it a:Addr} {i:Nat} (x:ju k h it a i) (e:∀o,h.get? it=some o->h'.get? it=some o):ju k h' it a i:=by
 cases k
 . exact Heap.IsTupleIter.at x e
 . exact Heap.IsListIter.at x e
theorem ju.obj {k:Bool} {h:Heap} {it a:Addr} {i:Nat} (x:ju k h it a i):∃o,h.get? it=some o/\o.cls≠.type "zip" /\ o.cls≠.type "tuple" /\ o.cls≠.type "list" /\ ∀v,o.data≠.cell v:=by
 cases k
 . obtain⟨o,ho,hc,hd⟩:=x;exact⟨o,ho,by rw[hc]; simp,by rw[hc]; simp,by rw[hc]; simp,λv z=>by rw[hd]at z; cases z⟩
 . obtain⟨o,ho,hc,hd⟩:=x;exact⟨o,ho,by rw[hc]; simp,by rw[hc]; simp,by rw[hc]; simp,λv z=>by rw[hd]at z; cases z⟩
theorem j6.at {k:Bool} {h h':Heap} {a:Addr} {its:Array Value} (x:j6 k h a its) (e:∀o,h.get? a=some o->h'.get? a=some o):j6 k h' a its:=by
 cases k
 . obtain⟨o,ho,r⟩:=x; exact⟨o,e _ ho,r⟩
 . obtain⟨o,ho,r⟩:=x; exact⟨o,e _ ho,r⟩
theorem j6.obj {k:Bool} {h:Heap} {a:Addr} {its:Array Value} (x:j6 k h a its):∃o,h.get? a=some o/\(o.cls=.type "list" \/ o.cls=.type "tuple"):=by
 cases k
 . obtain⟨o,ho,hc,_⟩:=x; exact⟨o,ho,.inr hc⟩
 . obtain⟨o,ho,hc,_⟩:=x; exact⟨o,ho,.inl hc⟩
section
variable {prog:Program}
theorem Cz {k:Bool} {it l:Addr} {i:Nat} {items:Array Value} {x:Value} {Q:Value->Shared->Prop} (hit:ju k s.heap it l i) (hl:j6 k s.heap l items) (hx:items[i]?=some x)
 (hQ:∀h',ju k h' it l (i+1)->Heap.SameBut it s.heap h'->Q x { s with heap:=h' }):wpAny (model prog w) A (Builtin.SmallTypes.nextOf (.ref it)) Q E s:=by
 cases k
 . have hit:s.heap.IsTupleIter it l i:=hit;obtain⟨o,ho,hc,hd⟩:=id hit;obtain⟨ol,hol,_,nl,hdl⟩:=hl;unfold Builtin.SmallTypes.nextOf;refine ab9 (wpAny_callSpecial?_slot (name:=Str.ofString "__next__") hit.typeIs abm (wpAny_call_entry abm hit.typeIs abV ?_ (abU _)));show wpAny _ _ (field (.ref it) 0 >>= _) _ _ s;refine ab9 (wpAny_field ho hd (x:=.ref l) rfl ?_);show wpAny _ _ (if (Value.ref l==Value.none)=true then _ else _) _ _ s;rw[acb (show ¬ ((Value.ref l==Value.none)=true) from aaS)];show wpAny _ _ (field (.ref it) 1 >>= _) _ _ s;refine ab9 (wpAny_field ho hd (x:=.int i 0) rfl ?_);show wpAny _ _ (seqItems? (.ref l) >>= _) _ _ s;refine ab9 (wpAny_seqItems hol hdl ?_);simp only[ab2,hx];refine ab9 (wpAny_setField ho hd (by simp) (acd ⟨x,rfl,acd (hQ _ ?_ (abt ..))⟩));exact⟨_,abP _ ho (Obj.isFreed_of_fields (Obj.data_mapFields hd _)),(Obj.cls_mapFields ..).trans hc,by rw[Obj.data_mapFields hd]; simp[rawInt]⟩
 . exact wpAny_nextOf_list_item hit hl hx hQ
theorem Nf {k:Bool} {it l:Addr} {i:Nat} {items:Array Value} {Q:Value->Shared->Prop} (hh:A.handled=none) (hit:ju k s.heap it l i) (hl:j6 k s.heap l items) (hx:items[i]?=none)
 (hE:∀h' e,Heap.ExtBut it s.heap h'->(∃o,h'.get? e=some o/\o.cls=.type "StopIteration")->E (.ref e) { s with heap:=h' }):wpAny (model prog w) A (Builtin.SmallTypes.nextOf (.ref it)) Q E s:=by
 cases k
 . have hit:s.heap.IsTupleIter it l i:=hit;obtain⟨o,ho,hc,hd⟩:=id hit;obtain⟨ol,hol,_,nl,hdl⟩:=hl;unfold Builtin.SmallTypes.nextOf;refine ab9 (wpAny_callSpecial?_slot (name:=Str.ofString "__next__") hit.typeIs abm (wpAny_call_entry abm hit.typeIs abV ?_ (abU _)));show wpAny _ _ (field (.ref it) 0 >>= _) _ _ s;refine ab9 (wpAny_field ho hd (x:=.ref l) rfl ?_);show wpAny _ _ (if (Value.ref l==Value.none)=true then _ else _) _ _ s;rw[acb (show ¬ ((Value.ref l==Value.none)=true) from aaS)];show wpAny _ _ (field (.ref it) 1 >>= _) _ _ s;refine ab9 (wpAny_field ho hd (x:=.int i 0) rfl ?_);show wpAny _ _ (seqItems? (.ref l) >>= _) _ _ s;refine ab9 (wpAny_seqItems hol hdl ?_);simp only[ab2,hx];refine ab9 (wpAny_rule (ab9 (wpAny_setField ho hd (by simp) ?_)));show wpAny _ _ (newExc (.type "StopIteration") [] >>= _) _ _ _;refine ab9 ?_;simp only[newExc,newTuple];refine ab9 (wpAny_newObj_type ?_ (by size_fits));refine ab9 (m:=firstArgMember _ _) (wpAny_of_eq (a:=Value.none) (by first | rfl | (simp only[firstArgMember]; rfl)) ?_);refine wpAny_newObj_type ?_ (by size_fits);simp only[raiseNew];refine ab9 (wpAny_handled ?_)
   first | rw[show A.in1.handled=none from hh] | rw[hh]
   refine ab9 (acd (wpAny_throw ?_));exact hE _ _ (((abt ..).extBut.push _).push _) ⟨_,aay _ rfl,rfl⟩
 . exact wpAny_nextOf_list_end hh hit hl hx hE
theorem Ng {k:Bool} {z TI TO i1 i2 l1 l2:Addr} {k1 k2:Nat} {xs ys:Array Value} {x y a b:Value} {Q:Value->Shared->Prop} (D:ZipApart z TI TO i1 i2 l1 l2)
 (hz:IsZip s.heap z TI TO .none) (hTI:IsPair s.heap TI (.ref i1) (.ref i2)) (hTO:IsPair s.heap TO a b) (h1:ju k s.heap i1 l1 k1) (h2:ju k s.heap i2 l2 k2) (hl1:j6 k s.heap l1 xs) (hl2:j6 k s.heap l2 ys) (hx:xs[k1]?=some x) (hy:ys[k2]?=some y)
 (hQ:∀h',IsZip h' z TI TO (rawInt s.heap.objs.size)->IsPair h' TO x y->ju k h' i1 l1 (k1+1)->ju k h' i2 l2 (k2+1)->IsPair h' s.heap.objs.size x y->
   (∀c o,c≠z->c≠TO->c≠i1->c≠i2->s.heap.get? c=some o->h'.get? c=some o)->Q (.ref s.heap.objs.size) { s with heap:=h' }):
 wpAny (model prog w) A (Builtin.«zip.__next__» ⟨[.ref z],[]⟩) (λfin s'=>∃v,fin=.done (.ret v)/\Q v s') E s:=by
 show wpAny _ _ (field (.ref z) 2 >>= _) _ _ _;refine ab9 (wpAny_field hz rfl (x:=.bool false) rfl ?_);show wpAny _ _ (field (.ref z) 3 >>= _) _ _ _;refine ab9 (wpAny_field hz rfl (x:=.ref TI) rfl (ab9 (wpAny_seqItems hTI rfl ?_)));show wpAny _ _ (Builtin.SmallTypes.ownedTupleIsFree (.ref z) >>= _) _ _ _;unfold Builtin.SmallTypes.ownedTupleIsFree;refine ab9 (ab9 (wpAny_field hz rfl (x:=.none) rfl (acd ?_)));simp only[if_true];refine ab9 (wpAny_rule (ab9 (wpAny_field hz rfl (x:=.ref TO) rfl (ab9 (wpAny_setField_rec hz (by simp) λg1 z1 s1=>?_)))));have z1:IsZip g1 z TI TO .ellipsis:=z1;have e1:∀c o,c≠z->s.heap.get? c=some o->g1.get? c=some o:=λc o hc e=>s1.extBut _ _ hc e;refine ab9 ?_;simp only[ab6,List.zipIdx_nil,ab8,List.forIn_nil];refine ab9 (ab9 (wpAny_onRaise ?_));show wpAny _ _ (Builtin.SmallTypes.nextOf (.ref i1) >>= _) _ _ _;refine ab9 (Cz (h1.at λo e=>e1 _ o D.i1z e) (hl1.at λo e=>e1 _ o D.l1z e) hx λg2 n1 s2=>acd ?_);have e2:∀c o,c≠i1->g1.get? c=some o->g2.get? c=some o:=λc o hc e=>s2.extBut _ _ hc e;have t2:IsPair g2 TO a b:=e2 _ _ D.TOi1 (e1 _ _ D.TOz hTO);refine ab9 (wpAny_seqItems t2 rfl (ab9 (wpAny_updateSeq_pair t2 λg3 t3 s3=>?_)));have t3:IsPair g3 TO x b:=t3;have e3:∀c o,c≠TO->g2.get? c=some o->g3.get? c=some o:=λc o hc e=>s3.extBut _ _ hc e;refine ab9 (wpAny_letGo (acd ?_));refine ab9 (ab9 (wpAny_onRaise ?_));show wpAny _ _ (Builtin.SmallTypes.nextOf (.ref i2) >>= _) _ _ _;refine ab9 (Cz (h2.at λo e=>e3 _ o D.TOi2.symm (e2 _ o D.i12.symm (e1 _ o D.i2z e))) (hl2.at λo e=>e3 _ o D.l2TO (e2 _ o D.l2i1 (e1 _ o D.l2z e))) hy λg4 n2 s4=>acd ?_);have e4:∀c o,c≠i2->g3.get? c=some o->g4.get? c=some o:=λc o hc e=>s4.extBut _ _ hc e;have t4:IsPair g4 TO x b:=e4 _ _ D.TOi2 t3;refine ab9 (wpAny_seqItems t4 rfl (ab9 (wpAny_updateSeq_pair t4 λg5 t5 s5=>?_)));have t5:IsPair g5 TO x y:=t5;have e5:∀c o,c≠TO->g4.get? c=some o->g5.get? c=some o:=λc o hc e=>s5.extBut _ _ hc e;refine ab9 (wpAny_letGo (acd (acd ?_)));refine ab9 (wpAny_seqItems t5 rfl (ab9 (wpAny_newTuple ?_)));have hsz:g5.objs.size=s.heap.objs.size:=by rw[s5.1,s4.1,s3.1,s2.1,s1.1]
 have z5:IsZip g5 z TI TO .ellipsis:=e5 _ _ D.TOz.symm (e4 _ _ D.i2z.symm (e3 _ _ D.TOz.symm (e2 _ _ D.i1z.symm z1)));have zlt:z<g5.objs.size:=aar z5;show wpAny _ _ (Builtin.SmallTypes.ownedTupleHandOut (.ref z) (.ref g5.objs.size) >>= _) _ _ _;unfold Builtin.SmallTypes.ownedTupleHandOut;have z6:IsZip (g5.push { cls:=.type "tuple",data:=.seq #[x,y] }) z TI TO .ellipsis:=aad _ z5;refine ab9 (ab9 (wpAny_setField_rec z6 (by simp) λg7 z7 s7=>?_));have z7:IsZip g7 z TI TO (rawInt g5.objs.size):=z7;refine wpAny_setField_rec z7 (by simp) λg8 z8 s8=>?_;have z8:IsZip g8 z TI TO (rawInt g5.objs.size):=z8;have up:∀c o,c≠z->g5.get? c=some o->g8.get? c=some o:=λc o c1 e=>s8.extBut _ _ c1 (s7.extBut _ _ c1 (aad _ e));have t8:IsPair g8 g5.objs.size x y:=s8.extBut _ _ (aa6 zlt) (s7.extBut _ _ (aa6 zlt) (aay _ rfl));rw[hsz]at z8 t8;refine acd ⟨_,rfl,?_⟩;show Q (.ref g5.objs.size) _;rw[hsz];exact hQ g8 z8 (up _ _ D.TOz t5) (n1.at λo e=>up _ o D.i1z (e5 _ o D.TOi1.symm (e4 _ o D.i12 (e3 _ o D.TOi1.symm e)))) (n2.at λo e=>up _ o D.i2z (e5 _ o D.TOi2.symm e)) t8 λc o c1 c2 c3 c4 e=>up c o c1 (e5 _ _ c2 (e4 _ _ c4 (e3 _ _ c2 (e2 _ _ c3 (e1 _ _ c1 e)))))
theorem QH {k:Bool} {z TI TO i1 i2 l1 l2:Addr} {k1 k2:Nat} {xs ys:Array Value} {a b:Value} {Q:Fin->Shared->Prop} (hh:A.handled=none) (D:ZipApart z TI TO i1 i2 l1 l2)
 (hz:IsZip s.heap z TI TO .none) (hTI:IsPair s.heap TI (.ref i1) (.ref i2)) (hTO:IsPair s.heap TO a b) (h1:ju k s.heap i1 l1 k1) (h2:ju k s.heap i2 l2 k2) (hl1:j6 k s.heap l1 xs) (hl2:j6 k s.heap l2 ys) (hend:xs[k1]?=none\/ys[k2]?=none)
 (hE:∀h' e,(∀c o,c≠z->c≠TO->c≠i1->c≠i2->s.heap.get? c=some o->h'.get? c=some o)->(∃o,h'.get? e=some o/\o.cls=.type "StopIteration")->E (.ref e) { s with heap:=h' }):
 wpAny (model prog w) A (Builtin.«zip.__next__» ⟨[.ref z],[]⟩) Q E s:=by
 show wpAny _ _ (field (.ref z) 2 >>= _) _ _ _;refine ab9 (wpAny_field hz rfl (x:=.bool false) rfl ?_);show wpAny _ _ (field (.ref z) 3 >>= _) _ _ _;refine ab9 (wpAny_field hz rfl (x:=.ref TI) rfl (ab9 (wpAny_seqItems hTI rfl ?_)));show wpAny _ _ (Builtin.SmallTypes.ownedTupleIsFree (.ref z) >>= _) _ _ _;unfold Builtin.SmallTypes.ownedTupleIsFree;refine ab9 (ab9 (wpAny_field hz rfl (x:=.none) rfl (acd ?_)));simp only[if_true];refine ab9 (wpAny_rule (ab9 (wpAny_field hz rfl (x:=.ref TO) rfl (ab9 (wpAny_setField_rec hz (by simp) λg1 z1 s1=>?_)))));have z1:IsZip g1 z TI TO .ellipsis:=z1;have e1:∀c o,c≠z->s.heap.get? c=some o->g1.get? c=some o:=λc o hc e=>s1.extBut _ _ hc e;refine ab9 ?_;simp only[ab6,List.zipIdx_nil,ab8,List.forIn_nil];refine ab9 (ab9 (wpAny_onRaise ?_));show wpAny _ _ (Builtin.SmallTypes.nextOf (.ref i1) >>= _) _ _ _;have nz:∀{g:Heap} {f0:Value} {e:Addr},IsZip g z TI TO f0->(∃o,g.get? e=some o/\o.cls=.type "StopIteration")->e≠z:=λ{g f0 e} q ⟨o,h,c⟩ x=>by subst x;rw[q]at h;cases h;simp at c
 cases hx:xs[k1]? with
 | none=>
  refine ab9 (Nf hh (h1.at λo e=>e1 _ o D.i1z e) (hl1.at λo e=>e1 _ o D.l1z e) hx λg2 e s2 he=>?_);have z2:IsZip g2 z TI TO .ellipsis:=s2 _ _ D.i1z.symm z1;have ez:=nz z2 he;obtain⟨oe,hoe,hce⟩:=he;exact wpAny_setField_rec z2 (by simp) λg3 _ s3=>hE g3 e (λc o c1 _ c3 _ x=>s3.extBut _ _ c1 (s2 _ _ c3 (e1 _ _ c1 x))) ⟨oe,s3.extBut _ _ ez hoe,hce⟩
 | some x=>
  have hy:ys[k2]?=none:=hend.resolve_left λq=>by rw[hx]at q; cases q
  refine ab9 (Cz (h1.at λo e=>e1 _ o D.i1z e) (hl1.at λo e=>e1 _ o D.l1z e) hx λg2 n1 s2=>acd ?_);have e2:∀c o,c≠i1->g1.get? c=some o->g2.get? c=some o:=λc o hc e=>s2.extBut _ _ hc e;have t2:IsPair g2 TO a b:=e2 _ _ D.TOi1 (e1 _ _ D.TOz hTO);refine ab9 (wpAny_seqItems t2 rfl (ab9 (wpAny_updateSeq_pair t2 λg3 t3 s3=>?_)));have e3:∀c o,c≠TO->g2.get? c=some o->g3.get? c=some o:=λc o hc e=>s3.extBut _ _ hc e;refine ab9 (wpAny_letGo (acd ?_));refine ab9 (ab9 (wpAny_onRaise ?_));show wpAny _ _ (Builtin.SmallTypes.nextOf (.ref i2) >>= _) _ _ _;refine ab9 (Nf hh (h2.at λo e=>e3 _ o D.TOi2.symm (e2 _ o D.i12.symm (e1 _ o D.i2z e))) (hl2.at λo e=>e3 _ o D.l2TO (e2 _ o D.l2i1 (e1 _ o D.l2z e))) hy λg4 e s4 he=>?_);have z4:IsZip g4 z TI TO .ellipsis:=s4 _ _ D.i2z.symm (e3 _ _ D.TOz.symm (e2 _ _ D.i1z.symm z1));have ez:=nz z4 he;obtain⟨oe,hoe,hce⟩:=he;exact wpAny_setField_rec z4 (by simp) λg5 _ s5=>hE g5 e (λc o c1 c2 c3 c4 x=>s5.extBut _ _ c1 (s4 _ _ c4 (e3 _ _ c2 (e2 _ _ c3 (e1 _ _ c1 x))))) ⟨oe,s5.extBut _ _ ez hoe,hce⟩
end
theorem Lb (l1 l2:Addr) (xs ys:Array Value):
 Meets (Builtin.«zip.__new__» ⟨[.type "zip",.ref l1,.ref l2],[]⟩) (λ_ R s=>s.heap.IsTuple l1 xs/\s.heap.IsTuple l2 ys/\∀h',IsZip h' (s.heap.objs.size+4) (s.heap.objs.size+2) (s.heap.objs.size+3) .none->IsPair h' (s.heap.objs.size+2) (.ref s.heap.objs.size) (.ref (s.heap.objs.size+1))->
  IsPair h' (s.heap.objs.size+3) .none .none->h'.IsTupleIter s.heap.objs.size l1 0->h'.IsTupleIter (s.heap.objs.size+1) l2 0->(∀c o,s.heap.get? c=some o->h'.get? c=some o)->R (.ok (.ret (.ref (s.heap.objs.size+4)))) { s with heap:=h' }):=
 .of_wp λprog w A R s h=>by
  obtain⟨hp,g,d,tk,os⟩:=s;obtain⟨hl1,hl2,h⟩:=h;have hsub:=sub_zip;have hL1:Heap.IsTuple (Shared.heap ⟨hp,g,d,tk,os⟩) l1 xs:=hl1;have hL2:Heap.IsTuple (Shared.heap ⟨hp.push { cls:=.type "tuple_iterator",data:=.fields #[.ref l1,.int 0 0] },g,d,tk,os⟩) l2 ys:=by obtain⟨o,ho,r⟩:=hl2;exact⟨o,aad _ ho,r⟩
  wp_walk using wpAny_pyIter_tuple hL1,wpAny_pyIter_tuple hL2
  refine⟨_,rfl,?_⟩;have z1:∀(q:Heap) (o:Obj),(q.push o).objs.size=q.objs.size+1:=λq o=>abq ..;simp only[z1];have key:∀(q:Heap) (o:Obj) (n:Nat),q.objs.size=n->o.isFreed=false->(q.push o).get? n=some o:=λq o n e f=>e▸aay q f;refine h _ (key _ _ _ (by simp only[z1]) rfl) (aad _ (aad _ (key _ _ _ (by simp only[z1]) rfl))) (aad _ (key _ _ _ (by simp only[z1]) rfl)) ⟨_,aad _ (aad _ (aad _ (aad _ (key _ _ _ rfl rfl)))),rfl,rfl⟩
   ⟨_,aad _ (aad _ (aad _ (key _ _ _ (by simp only[z1]) rfl))),rfl,rfl⟩ λc o e=>aad _ (aad _ (aad _ (aad _ (aad _ e))))
section
variable {prog:Program}
theorem Nh {k:Bool} {l1 l2:Addr} {xs ys:Array Value} {Q:Value->Shared->Prop} (hl1:j6 k s.heap l1 xs) (hl2:j6 k s.heap l2 ys)
 (h:∀h',IsZip h' (s.heap.objs.size+4) (s.heap.objs.size+2) (s.heap.objs.size+3) .none->IsPair h' (s.heap.objs.size+2) (.ref s.heap.objs.size) (.ref (s.heap.objs.size+1))->
   IsPair h' (s.heap.objs.size+3) .none .none->ju k h' s.heap.objs.size l1 0->ju k h' (s.heap.objs.size+1) l2 0->
   (∀c o,s.heap.get? c=some o->h'.get? c=some o)->Q (.ref (s.heap.objs.size+4)) { s with heap:=h' }):
 wpAny (model prog w) A (call (.type "zip") [.ref l1,.ref l2]) Q E s:=by
 cases k
 . exact callType_new F.called_zip (by decide) (F.typeCall_zip_2 _ _) (F.newCall_zip_2 _ _) (λobj=>F.args_object_init_3 obj _ _) F.entry_zip_new (Lb l1 l2 xs ys) ⟨hl1,hl2,λh' a1 a2 a3 a4 a5 a6=>⟨⟨_,a1,rfl⟩,h h' a1 a2 a3 a4 a5 a6⟩⟩
 . exact call_zip_2 hl1 hl2 λh' a1 a2 a3 a4 a5 _ a6=>h h' a1 a2 a3 a4 a5 a6
end
section
variable {X:Cx} {pins:List (Addr×Obj)} {σ:St} {H:Hp} {s:Shared}
theorem Inv.sqK {k:Bool} {a:Addr} {xs:List V} (I:Inv X pins σ H s) (h:m9 k X.K H a xs):∃its:List Value,Vals xs its/\j6 k s.heap a its.toArray:=by
 cases k
 . obtain⟨its,r,p,_⟩:=I.tuple h;exact⟨its,r,p⟩
 . obtain⟨its,r,p,_⟩:=I.list h;exact⟨its,r,p.isList⟩
theorem Inv.sqK_inj {k:Bool} {a:Addr} {xs ys:List V} (I:Inv X pins σ H s) (h:m9 k X.K H a xs) (h':m9 k X.K H a ys):xs=ys:=by
 cases k
 . exact I.tuple_inj h h'
 . exact I.list_inj h h'
end
def QJ (k:Bool) (K:FG) (a b:Addr):It:=
 ⟨λi H=>∃xs ys x y,m9 k K H a xs/\m9 k K H b ys/\xs[i]?=some x/\ys[i]?=some y,
  λi H x H'=>∃T y z,H T=none/\x=.ref T/\H'=upd H T (.tup [y,z])/\(∀xs,m9 k K H a xs->xs[i]?=some y)/\∀ys,m9 k K H b ys->ys[i]?=some z,
  λi H=>∃xs ys,m9 k K H a xs/\m9 k K H b ys/\(xs.length<=i\/ys.length<=i)⟩
theorem DX {k:Bool} {h:Heap} {z TI TO i1 i2 a b:Addr} {u v:Value} {n m:Nat} {xs ys:Array Value} (D:WL z TI TO i1 i2) (hz:IsZip h z TI TO .none) (aTO:a≠TO) (bTO:b≠TO) (h1:ju k h i1 a n) (h2:ju k h i2 b m) (ha:j6 k h a xs) (hb:j6 k h b ys):ZipApart z TI TO i1 i2 a b:=by
 obtain⟨o1,q1,_,c1,c1',_⟩:=h1.obj;obtain⟨o2,q2,_,c2,c2',_⟩:=h2.obj;have ne:∀{l c:Addr} {its:Array Value} {o:Obj},j6 k h l its->h.get? c=some o->o.cls≠.type "tuple" -> o.cls≠.type "list" -> l≠c:=λ{l c its o} q e n1 n2 z=>by
  subst z;obtain⟨o',e',hc⟩:=q.obj;rw[e]at e';cases e';rcases hc with hc | hc
  . exact n2 hc
  . exact n1 hc
 exact⟨D.TIz,D.TOz,D.i1z,D.i2z,D.TITO,D.TIi1,D.TIi2,D.TOi1,D.TOi2,D.i12,ne ha hz (by simp) (by simp),aTO,ne ha q1 c1 c1',ne ha q2 c2 c2',ne hb hz (by simp) (by simp),bTO,ne hb q1 c1 c1',ne hb q2 c2 c2'⟩
theorem Ni {K:FG} {elts:List Expr} {x1} {pos:Pos} (k:Bool) (a b z TI TO i1 i2:Addr) (D:WL z TI TO i1 i2) (aTO:a≠TO) (bTO:b≠TO):Turn P w K (.Tuple elts x1 pos) (QJ k K a b) [z,TI,TO,i1,i2] z
 (λi h=>IsZip h z TI TO .none/\IsPair h TI (.ref i1) (.ref i2)/\(∃u v,IsPair h TO u v)/\ju k h i1 a i/\ju k h i2 b i) where
 mem:=by simp
 obj:=λi h st c hc=>by
  obtain⟨hz,hTI,⟨u,v,hTO⟩,h1,h2⟩:=st;simp only[aaj,aa4,or_false]at hc;rcases hc with rfl | rfl | rfl | rfl | rfl
  . exact⟨_,hz,λv z=>by have z':Data.fields _=Data.cell v:=z;cases z'⟩
  . exact⟨_,hTI,λv z=>by have z':Data.seq _ _=Data.cell v:=z;cases z'⟩
  . exact⟨_,hTO,λv z=>by have z':Data.seq _ _=Data.cell v:=z;cases z'⟩
  . obtain⟨o,ho,_,_,_,d⟩:=h1.obj;exact⟨o,ho,d⟩
  . obtain⟨o,ho,_,_,_,d⟩:=h2.obj;exact⟨o,ho,d⟩
 keep:=λi h h' st k=>by obtain⟨hz,hTI,⟨u,v,hTO⟩,h1,h2⟩:=st;exact⟨k z (by simp) _ hz,k TI (by simp) _ hTI,⟨u,v,k TO (by simp) _ hTO⟩,h1.at λo q=>k i1 (by simp) o q,h2.at λo q=>k i2 (by simp) o q⟩
 item:=by
  intro X hP hw hK hc i pins s σ H E I hf st hg;subst hP hw hK;obtain⟨hz,hTI,⟨u0,v0,hTO⟩,h1,h2⟩:=st;obtain⟨xs,ys,x,y,hq,hr,hx,hy⟩:=hg;obtain⟨its,rv,p⟩:=I.sqK hq;obtain⟨jts,rw',p'⟩:=I.sqK hr;obtain⟨u,hu,ru⟩:=rv.get hx;obtain⟨u',hu',ru'⟩:=rw'.get hy;have DD:=DX (u:=u0) (v:=v0) D hz aTO bTO h1 h2 p p';have zlt:∀c∈[z,TI,TO,i1,i2],s.heap.objs.size≠c:=λc hc=>by
   simp only[aaj,aa4,or_false]at hc;rcases hc with rfl | rfl | rfl | rfl | rfl
   . exact aa6 (aar hz)
   . exact aa6 (aar hTI)
   . exact aa6 (aar hTO)
   . obtain⟨_,q,_⟩:=h1.obj; exact aa6 (aar q)
   . obtain⟨_,q,_⟩:=h2.obj; exact aa6 (aar q)
  have hTn:H s.heap.objs.size=none:=I.hok.fresh (aaf _);have hT:s.TypeIs (.ref z) "zip" := ⟨_,hz,rfl⟩;unfold pyNext;refine ab9 (wpAny_attempt (wpAny_callSpecial?_slot (name:=Str.ofString "__next__") hT abR (wpAny_call_entry abR hT F.entry_zip_next (Ng DD hz hTI hTO h1 h2 p p' (x:=u) (y:=u') (by simpa using hu) (by simpa using hu') λg1 a1 a2 a3 a4 a5 a7=>acd ?_) (F.args_zip_next_1 _))));refine⟨_,rfl,wpAny_letOwnedTupleGo_zip a1 λg2 b1 b2=>?_⟩;have I1:Inv X pins σ (upd H s.heap.objs.size (.tup [x,y])) { s with heap:=s.heap.push { cls:=.type "tuple",data:=.seq #[u,u'] },toks:=s.toks }:=by refine I.laid (λb o q=>aad _ q) (aaf _) ⟨by simp only[aae,aaF]; rw[sizeLine_eq]; decide,[u,u'],.cons ru (.cons ru' .nil),?_⟩;exact⟨_,aay s.heap rfl,rfl,0,rfl⟩
  have up:∀b,b≠s.heap.objs.size->H b=none->upd H s.heap.objs.size (.tup [x,y]) b=none:=λb hb q=>by rw[cu hb]; exact q
  have hb2:∀c o,c≠z->g1.get? c=some o->g2.get? c=some o:=λc o hc q=>(b2.2 c hc).trans q;have I2:Inv X pins σ (upd H s.heap.objs.size (.tup [x,y])) { s with heap:=g2,toks:=s.toks }:=by
   refine Inv.turnedL (s:={ s with heap:=s.heap.push { cls:=.type "tuple",data:=.seq #[u,u'] },toks:=s.toks }) (h':=g2) (t':=s.toks) I1 (fp:=[z,TI,TO,i1,i2]) (λc o hc q=>?_) (λc hc=>⟨up c (zlt c hc).symm (hf c hc).1,(hf c hc).2⟩);simp only[aaj,aa4,or_false,not_or]at hc;refine hb2 c o hc.1 ?_;by_cases hbT:c=s.heap.objs.size
   . subst hbT;have q':(s.heap.push { cls:=.type "tuple",data:=.seq #[u,u'] }).get? s.heap.objs.size=some o:=q;rw[aay s.heap rfl]at q';cases q';exact a5
   . refine a7 c o hc.1 hc.2.2.1 hc.2.2.2.1 hc.2.2.2.2 ?_;have q':(s.heap.push { cls:=.type "tuple",data:=.seq #[u,u'] }).get? c=some o:=q;rw[Heap.get?_push_ne s.heap c _ hbT]at q';exact q'
  refine⟨.ref s.heap.objs.size,_,I2,rfl,⟨s.heap.objs.size,x,y,hTn,rfl,rfl,λys hy=>by rw[I.sqK_inj hy hq]; exact hx,λys hy'=>by rw[I.sqK_inj hy' hr]; exact hy⟩,⟨b1,hb2 _ _ D.TIz (a7 _ _ D.TIz D.TITO D.TIi1 D.TIi2 hTI),⟨_,_,hb2 _ _ D.TOz a2⟩,a3.at λo q=>hb2 _ o D.i1z q,a4.at λo q=>hb2 _ o D.i2z q⟩,λc hc=>up _ (zlt c hc).symm (hf c hc).1⟩
 done:=by
  intro X hP hw hK hc i pins s σ H E I hf st hg;subst hP hw hK;obtain⟨hz,hTI,⟨u0,v0,hTO⟩,h1,h2⟩:=st;obtain⟨xs,ys,hq,hr,hx⟩:=hg;obtain⟨its,rv,p⟩:=I.sqK hq;obtain⟨jts,rw',p'⟩:=I.sqK hr;have DD:=DX (u:=u0) (v:=v0) D hz aTO bTO h1 h2 p p';have e1:=rv.length;have e2:=rw'.length;have hT:s.TypeIs (.ref z) "zip" := ⟨_,hz,rfl⟩;have hend:its.toArray[i]?=none\/jts.toArray[i]?=none:=by
   rcases hx with hx | hx
   . exact .inl (abK (by simp; omega))
   . exact .inr (abK (by simp; omega))
  unfold pyNext;refine ab9 (wpAny_attempt (wpAny_callSpecial?_slot (name:=Str.ofString "__next__") hT abR (wpAny_call_entry abR hT F.entry_zip_next (QH (I.ok.hd hc) DD hz hTI hTO h1 h2 p p' hend λg e k he=>?_) (F.args_zip_next_1 _))));obtain⟨o,ho,hce⟩:=he;refine ab9 (wpAny_isInstance (T := "StopIteration") (b:=true) ⟨o,ho,hce⟩ isSubtype_stop (acd ⟨rfl,?_⟩));refine I.turnedL (h':=g) (t':=s.toks) (fp:=[z,TI,TO,i1,i2]) (λc o hc q=>?_) hf;simp only[aaj,aa4,or_false,not_or]at hc;exact k c o hc.1 hc.2.2.1 hc.2.2.2.1 hc.2.2.2.2 q
 self:=λ_ _ _ _ _ st h=>wpAny_pyIter_zip st.1 h
section
variable {X:Cx}
def YJ (K:FG) (ta:TA):TI:=λσ H R=>ta σ H λvs H1=>∃k a b,vs=[.ref a,.ref b]/\(∃xs,m9 k K H1 a xs)/\(∃ys,m9 k K H1 b ys)/\R (QJ k K a b) H1
theorem Ul {a b:Expr} {ta:TA} {p pos:Pos} {elts:List Expr} {x1} {tpos:Pos} (hg:Gl X "zip") (hm:X.mg "zip" = none) (ha:PA X [a,b] ta) (hs:starEach [a,b] X.env=(false,eval a X.env)::starEach [b] X.env:=by rfl) (hs2:(backTo pos (starEach [b] X.env)).any (·.1)=false:=by rfl):PI X (.Tuple elts x1 tpos) (.Call (.Name "zip" p) [a,b] [] pos) (YJ X.K ta):=by
 intro pins s σ H R I h;refine Call_ (qR (u:=.type "zip") I hg hm (by kernel_rfl) (PyProof.Rows.callWith_type1 (bJ (ha pos pins s σ H _ I h) λus s1 ⟨vs,H1,I1,r1,q1⟩=>?_) hs hs2));obtain⟨kk,l1,l2,e,⟨xs,hq⟩,⟨ys,hr⟩,q⟩:=q1;subst e;cases r1 with
 | cons r rr=>
  cases rr with
  | cons r' rr=>
   cases rr;cases r;cases r';obtain⟨its,rv,pl⟩:=I1.sqK hq;obtain⟨jts,rv',pl'⟩:=I1.sqK hr;have lt:∀{l:Addr} {its:Array Value},j6 kk s1.heap l its->l<s1.heap.objs.size:=λq=>let ⟨_,e,_⟩:=q.obj; aar e;have lt1:=lt pl;have lt2:=lt pl';refine Nh pl pl' λh' b1 b2 b3 b4 b5 b7=>?_;have I2:Inv X pins σ H1 { s1 with heap:=h' }:=I1.kept (t':=s1.toks) b7;refine wpAny_pyIter_zip b1 ?_;have this:∀n:Nat,n+2≠n+4/\n+3≠n+4/\n≠n+4/\n+1≠n+4/\n+2≠n+3/\n+2≠n/\n+2≠n+1/\n+3≠n/\n+3≠n+1/\n≠n+1:=λn=>by omega
   obtain⟨t1,t2,t3,t4,t5,t6,t7,t8,t9,t10⟩:=this s1.heap.objs.size;refine⟨s1.heap.objs.size+4,[s1.heap.objs.size+4,s1.heap.objs.size+2,s1.heap.objs.size+3,s1.heap.objs.size,s1.heap.objs.size+1],_,_,H1,rfl,I2,Ni kk l1 l2 (s1.heap.objs.size+4) (s1.heap.objs.size+2) (s1.heap.objs.size+3) s1.heap.objs.size (s1.heap.objs.size+1) ⟨t1,t2,t3,t4,t5,t6,t7,t8,t9,t10⟩ (aaL (aaz lt1 (abO _ _))) (aaL (aaz lt2 (abO _ _))),⟨b1,b2,⟨_,_,b3⟩,b4,b5⟩,λc hc=>?_,q⟩;have hc':s1.heap.objs.size<=c:=by
    simp only[aaj,aa4,or_false]at hc;rcases hc with rfl | rfl | rfl | rfl | rfl
    all_goals (first | exact aaf _ | exact abO _ _)
   exact I1.fpOk hc' (I1.hok.fresh hc')
end
abbrev cG:=Option Key
def sS:cG->V
 | none=>.non
 | some k=>kV k
def QK:cG->Value->Bool
 | none,v=>v==.none
 | some k,v=>sH k v
def okH (w:World):cG->Int
 | none=>0xFCA86420
 | some k=>Vz w k
theorem gU:∀{k:cG} {v:Value},QK k v=true->(k=none/\v=.none)\/∃x,k=some x/\sH x v=true
 | none,v,h=>.inl ⟨rfl,by
  cases v<;>first | rfl | (exfalso; revert h; unfold QK; simp)⟩
 | some x,v,h=>.inr ⟨x,rfl,h⟩
section
variable {prog:Program}
theorem Nj {Q:Int->Shared->Prop} (h:Q 0xFCA86420 { s with toks:=s.toks+1 }):wpAny (model prog w) A (pyHash .none) Q E s:=by have hT:s.TypeIs .none "NoneType" := rfl;unfold pyHash;refine ab9 ?_;rw[cRoomFor,acb (by simp[Value.onHeap])];refine acd (ab9 (wpAny_specialOf hT F.slot_NoneType_hash.lookup ?_));dsimp only;rw[acb (by rw[beq_builtin_none]; exact aaS)];refine ab9 (wpAny_specialOf hT F.slot_NoneType_hash.lookup (ab9 (wpAny_callSpecialIfBoundUnlessNone?_slot hT F.slot_NoneType_hash (wpAny_call_entry F.slot_NoneType_hash hT F.entry_NoneType_hash ?_ (F.args_NoneType_hash_1 _)))));refine ab9 (acd ?_);refine wpAny_ret_mkInt ?_;exact acd h
end
def qK (prog:Program) (w:World):PySem.KeyKind prog w cG where
 is:=QK
 hash:=okH w
 inj:=λv a b ha hb=>by
  rcases gU ha with ⟨rfl,rfl⟩ | ⟨x,rfl,hx⟩
  . rcases gU hb with ⟨rfl,_⟩ | ⟨y,rfl,hy⟩
    . rfl
    . rcases dF hy with ⟨i,t,_,e⟩ | ⟨i,t,_,e⟩<;>cases e
  . rcases gU hb with ⟨rfl,e⟩ | ⟨y,rfl,hy⟩
    . subst e;rcases dF hx with ⟨i,t,_,e⟩ | ⟨i,t,_,e⟩<;>cases e
    . exact congrArg some ((dg prog w).inj v x y hx hy)
 byValue:=λk v h=>by
  rcases gU h with ⟨rfl,rfl⟩ | ⟨x,rfl,hx⟩
  . rfl
  . exact(dg prog w).byValue x v hx
 pyHash:=λhv h=>by
  rcases gU hv with ⟨rfl,rfl⟩ | ⟨x,rfl,hx⟩
  . exact Nj h
  . exact(dg prog w).pyHash hx h
 eqBool:=λhu hv h=>by
  rcases gU hu with ⟨rfl,rfl⟩ | ⟨x,rfl,hx⟩
  . rcases gU hv with ⟨rfl,rfl⟩ | ⟨y,rfl,hy⟩
    . exact SeqAt.EqAt.same _ _ _ _ _ h
    . rcases dF hy with ⟨i,t,rfl,rfl⟩ | ⟨i,t,rfl,rfl⟩
      . exact SeqAt.EqAt.none_int i t _ _ _ _ h
      . exact SeqAt.EqAt.none_str i t _ _ _ _ h
  . rcases gU hv with ⟨rfl,rfl⟩ | ⟨y,rfl,hy⟩
    . rcases dF hx with ⟨i,t,rfl,rfl⟩ | ⟨i,t,rfl,rfl⟩
      . exact SeqAt.EqAt.int_none i t _ _ _ _ h
      . exact SeqAt.EqAt.str_none i t _ _ _ _ h
    . refine(dg prog w).eqBool hx hy ?_;have e:decide ((some x:cG)=some y)=decide (x=y):=by simp
      rw[e]at h;exact h
 «strs»:=λk x t v h=>by
  rcases gU h with ⟨rfl,e⟩ | ⟨y,rfl,hy⟩
  . cases e
  . exact(dg prog w).strs y x t v hy
theorem WP:∀{k:cG} {u:Value},RelV (sS k) u->(qK P w).is k u=true
 | none,u,r=>by have e:u=.none:=r;subst e;rfl
 | some k,u,r=>yg (P:=P) (w:=w) r
theorem Jm:∀{ks:List cG} {us:List Value},Vals (ks.map sS) us->ItemsAre (qK P w) ks us
 | [],us,h=>by have e:=h.zero;subst e;exact .nil
 | k::ks,us,h=>by
  cases h with
  | cons r t=>exact .cons (WP r) (Jm t)
def Av (P:Program) (w:World):List cG->Int:=(tupleKind (qK P w)).hash
abbrev XD:=List (List cG×Addr×V)
abbrev XV:=List (List cG×Addr×Value)
def XR:XD->XV->Prop:=Paired λx y=>x.1=y.1/\x.2.1=y.2.1/\RelV x.2.2 y.2.2
def uy (hk:List cG->Int) (a:Addr) (xs:XD):Heap->Prop:=λh=>xs.length<=sizeLine/\(a==sysModules)=false/\∃ys:XV,XR xs ys/\(ys.map (·.1)).Nodup/\
 ∃o es ep,h.get? a=some o/\o.ExactDict/\o.data=.dict es ep/\es.toList=ys.map λy=>⟨hk y.1,.ref y.2.1,y.2.2⟩
def dX (P:Program) (w:World) (a:Addr) (xs:XD):HO:=.ext (uy (Av P w) a xs)
theorem WQ {H:Hp} {h:Heap} {hk:List cG->Int} {a:Addr} {xs:XD} (p:uy hk a xs h):fY P w H h a (.ext (uy hk a xs)):=by have q:=p;obtain⟨_,_,ys,_,_,o,es,ep,e,_⟩:=q;refine⟨p,⟨o,e⟩,λh1 h2 ⟨z,m,ys,r,n,o,es,ep,e,g⟩ k=>⟨z,m,ys,r,n,o,es,ep,k _ e,g⟩⟩
def jE (xs:XD) (k:List cG):Option V:=(xs.find? λx=>decide (x.1=k)).map (·.2.2)
theorem XR.at {k:List cG}:∀{xs:XD} {ys:XV},XR xs ys->(∀v,jE xs k=some v->∃p,atKey ys k=some p/\RelV v p.2)/\(jE xs k=none->atKey ys k=none)
 | _,_,.nil=>⟨λv h=>(by cases h),λ_=>rfl⟩
 | x::xs,y::ys,.cons ⟨h1,h2,h3⟩ t=>by
  have ih:=XR.at (k:=k) t;unfold jE atKey at ih ⊢;by_cases e:x.1=k
  . have e':y.1=k:=h1▸e;rw[abL (by simpa using e),abL (by simpa using e')];exact⟨λv h=>by cases h; exact⟨_,rfl,h3⟩,λh=>by cases h⟩
  . have e':¬ y.1=k:=h1▸e;rw[abM (by simpa using e),abM (by simpa using e')];exact ih
theorem XR.snoc {x:List cG×Addr×V} {y:List cG×Addr×Value} (h:x.1=y.1/\x.2.1=y.2.1/\RelV x.2.2 y.2.2):∀{xs:XD} {ys:XV},XR xs ys->XR (xs++[x]) (ys++[y])
 | _,_,.nil=>.cons h .nil
 | _,_,.cons a t=>.cons a (XR.snoc h t)
theorem XR.mem:∀{xs:XD} {ys:XV},XR xs ys->∀y∈ys,∃x∈xs,x.1=y.1/\x.2.1=y.2.1
 | _,_,.nil,y,h=>by cases h
 | x::xs,z::ys,.cons ⟨h1,h2,_⟩ t,y,h=>by
  rcases aaj.mp h with rfl | h
  . exact⟨x,aac,h1,h2⟩
  . obtain⟨x',m,e⟩:=XR.mem t y h;exact⟨x',aak _ m,e⟩
section
variable {prog:Program} {w:World} {A:Around} {E:Value->Shared->Prop} {s:Shared} {K:Type} [DecidableEq K] {knd:HeapKind prog w K}
theorem Iu {d a:Addr} {xs:List (K×Addr×Value)} {k:K} {v:Value} {Q:Value->Shared->Prop} (hu:knd.room A) (hkey:knd.is s.heap k a) (hm:s.heap.DictOfH knd d xs)
 (q1:∀p,atKey xs k=some p->Q p.2 { s with toks:=s.toks+knd.draws k })
 (q2:atKey xs k=none->∀h',h'.DictOfH knd d (xs++[(k,a,v)])->Heap.SameBut d s.heap h'->Q v { s with heap:=h',toks:=s.toks+knd.draws k })
 (hsz:xs.length<=sizeLine):wpAny (model prog w) A (dictSetDefault d (.ref a) v) Q E s:=by
 obtain⟨o,es,ep,ho,hc,hd,he,his,hn⟩:=hm;have hsz':=size_of_entries he;unfold dictSetDefault;refine wpAny_holding ?_;refine ab9 (knd.pyHash hu hkey (ab9 (wpAny_dictFind_heap (s:={ s with toks:=s.toks+knd.draws k }) hu hkey ho hd he his hn (λhno=>?_) λj p hj=>?_)))
 . have hq:=atKey_none_of_get hno;refine ab9 (wpAny_rule (ab9 (wpAny_updateDictKeys (hz:=by omega) (s:={ s with toks:=s.toks+knd.draws k }) ho hd (acd (q2 hq _ ?_ (abt ..))))));refine⟨_,_,ep+1,abP _ ho (Obj.isFreed_of_dict (Obj.data_mapDictKeys hd _)),hc.mapDictKeys _,Obj.data_mapDictKeys hd _,by simp[he,entryOfKey],λx hx=>?_,?_⟩
   . rcases aaC.mp hx with hx | hx
     . exact knd.keeps (his x hx) ho hd (abt ..)
     . rw[aa3.mp hx];exact knd.keeps hkey ho hd (abt ..)
   . rw[aaG];refine abI.mpr ⟨hn,aaP.mpr ⟨aa4,abH⟩,λx hx y hy e=>not_mem_keys_of_get hno ?_⟩;rw[aax,abx,aa3]at hy;have q:x=k:=e.trans hy;rw[<-q];exact hx
 . refine ab9 (wpAny_dictEntries (s:={ s with toks:=s.toks+knd.draws k }) ho hd ?_);rw[entry_at he j,hj];exact ab9 (wpAny_rule (acd (q1 p (atKey_of_get hn hj))))
end
section
variable {X:Cx}
theorem CG {σ:St} {H:Hp} {b:Addr} {k:List cG} (I:Inv X pins σ H s) (e:cM X.K H b (k.map sS)):(tupleKind (qK P w)).is s.heap k b:=by obtain⟨its,r,⟨o,h1,h2,n,h3⟩,_⟩:=I.tuple e;exact⟨o,its.toArray,n,h1,h2,h3,by simpa using Jm r⟩
theorem Inv.dx {σ:St} {H:Hp} {a:Addr} {xs:XD} (I:Inv X pins σ H s) (e:H a=some (dX X.prog X.w a xs)) (hk:∀x∈xs,cM X.K H x.2.1 (x.1.map sS)):
 xs.length<=sizeLine/\(a==sysModules)=false/\∃ys:XV,XR xs ys/\s.heap.DictOfH (tupleKind (qK X.prog X.w)) a ys:=by
 obtain⟨⟨z,m,ys,r,n,o,es,ep,h1,h2,h3,h4⟩,_⟩:=I.hok a _ e;refine⟨z,m,ys,r,o,es,ep,h1,h2,h3,h4,λy hy=>?_,n⟩;obtain⟨x,hx,e1,e2⟩:=r.mem y hy;rw[<-e1,<-e2];exact CG I (hk x hx)
theorem XR.len:∀{xs:XD} {ys:XV},XR xs ys->ys.length=xs.length
 | _,_,.nil=>rfl
 | _,_,.cons _ t=>by rw[aae,aae,XR.len t]
def Nk (P:Program) (w:World) (K:FG):V->List V->Hp->VK->Prop:=λx vs H Q=>∃a b xs k v,x=.ref a/\vs=[.ref b,v]/\H a=some (dX P w a xs)/\(∀x∈xs,cM K H x.2.1 (x.1.map sS))/\cM K H b (k.map sS)/\xs.length<sizeLine/\
 match jE xs k with
 | some u=>Q u H
 | none=>Q v (upd H a (dX P w a (xs++[(k,b,v)])))
theorem Np (hu:X.A.units+1<cLine):Mz X "dict.setdefault" (Nk X.prog X.w X.K):=by
 intro pins s σ H x vs v us Q I rx rv h;obtain⟨a,b,xs,k,y,rfl,rfl,hH,hks,hb,hl,q⟩:=h;cases rx;obtain⟨u,r,rfl,rb,ry⟩:=rv.two;cases (show u=Value.ref b from rb);obtain⟨z,m,ys,xr,dd⟩:=I.dx hH hks;have hl':=xr.len;refine call_meetsIn F.slot_dict_setdefault dd.typeIs F.entry_dict_setdefault (F.args_dict_setdefault_3 _ _ _) (S:=λA R s'=>A=X.A/\R=wants (EP X pins σ Q) X.xe/\s'=s) (.of_wp λA R s' ⟨e1,e2,e3⟩=>?_) ⟨rfl,rfl,rfl⟩;subst e1 e2 e3;unfold Builtin.«dict.setdefault»;refine ab9 ?_;unfold Builtin.Dict.keyAndDefault;refine ab9 (wpAny_notOrdered_dict dd.typeIs ?_);refine(show wpAny _ _ (pure (a,Value.ref b,some r)) _ _ _ from acd ?_);dsimp only;rw[acb (by rw[m]; exact aaS)];refine ab9 (Iu (tupleKind_room_in1 hu) (CG I hb) dd (λp hp=>acd ⟨p.2,rfl,?_⟩) (λhn h' dd' hs=>acd ⟨r,rfl,?_⟩) (by omega))
 . cases e:jE xs k with
   | none=>rw[(xr.at).2 e]at hp; cases hp
   | some w'=>
    rw[e]at q;obtain⟨p',hp',rp⟩:=(xr.at).1 w' e;rw[hp]at hp';cases hp';exact⟨_,_,I.tok _,rp,q⟩
 . cases e:jE xs k with
   | some w'=>
    obtain⟨p',hp',_⟩:=(xr.at).1 w' e;rw[hn]at hp';cases hp'
   | none=>
    rw[e]at q;obtain⟨o,es,ep,h1,h2,h3,h4,h5,h6⟩:=dd';refine⟨_,_,uw I (by rw[hH]; exact True.intro) hs ⟨o,h1⟩ (WQ ⟨?_,m,ys++[(k,b,r)],xr.snoc ⟨rfl,rfl,ry⟩,h6,o,es,ep,h1,h2,h3,h4⟩),ry,q⟩;rw[aah];exact hl
def R8 (P:Program) (w:World) (K:FG):V->List V->Hp->VK->Prop:=λx vs H Q=>∃a b xs k v,x=.ref a/\vs=[.ref b,v]/\H a=some (dX P w a xs)/\(∀x∈xs,cM K H x.2.1 (x.1.map sS))/\cM K H b (k.map sS)/\Q ((jE xs k).getD v) H
theorem Jo (hu:X.A.units+1<cLine):Mz X "dict.get" (R8 X.prog X.w X.K):=by
 intro pins s σ H x vs v us Q I rx rv h;obtain⟨a,b,xs,k,y,rfl,rfl,hH,hks,hb,q⟩:=h;cases rx;obtain⟨u,r,rfl,rb,ry⟩:=rv.two;cases (show u=Value.ref b from rb);obtain⟨z,m,ys,xr,dd⟩:=I.dx hH hks;refine call_meetsIn F.slot_dict_get dd.typeIs F.entry_dict_get (F.args_dict_get_3 _ _ _) (meetsH_dict_get_default (tupleKind (qK X.prog X.w)) a b m r) ⟨tupleKind_room_in1 hu,k,ys,CG I hb,dd,?_⟩;refine⟨_,_,I.tok _,?_,q⟩;cases e:jE xs k with
 | none=>
  rw[(xr.at).2 e];exact ry
 | some w'=>
  obtain⟨p',hp',rp⟩:=(xr.at).1 w' e;rw[hp'];exact rp
theorem Gu {o e1 e2:Expr} {to:TE} {t:TA} {apos cpos:Pos} {name:Str} {id:String} {r:V->List V->Hp->VK->Prop} (slot:Slot "dict" name id) (hty:typeOf (.builtin id)=pure (.type "method_descriptor")) (hm:Mz X id r) (ho:PE X o to) (ha:PA X [e1,e2] t)
 (hbase:attributeBase o name X.env (eval o X.env)=eval o X.env:=by rfl)
 (hfew:((backTo cpos (starEach [e1,e2] X.env)).all (λx=>!x.1)&&(backToKw cpos (keywordEach [] X.env)).all (λx=>x.1.isSome)
   && decide ([e1,e2].length+([]:List Keyword).length+(if ([]:List Keyword).isEmpty then 0 else 1)<30))=true:=by rfl)
 (hline:(apos.endLine==cpos.line)=true:=by rfl) (hs:starEach [e1,e2] X.env=(false,eval e1 X.env)::starEach [e2] X.env:=by rfl) (hplain:(backTo cpos (starEach [e2] X.env)).any (·.1)=false:=by rfl):
 PE X (.Call (.Attribute o name apos) [e1,e2] [] cpos) (λσ H Q=>to σ H λx H1=>(∃a hk xs,x=.ref a/\H1 a=some (.ext (uy hk a xs)))/\t σ H1 λvs H2=>r x vs H2 Q):=by
 intro pins s σ H Q I h;refine wpAny_Call_method_late hbase hfew hline rfl (bJ (ho pins s σ H _ I h) λv s1 ⟨x,H1,I1,r1,⟨a,hk,xs,ea,hH⟩,q1⟩=>?_);subst ea;cases r1;obtain⟨⟨_,_,ys,_,_,o,es,ep,h1,h2,_⟩,_⟩:=I1.hok a _ hH;refine⟨"dict",id,F.plainAttrs_dict,slot,hty,⟨o,h1,h2.1⟩,λb e=>(by cases e; exact⟨o,h1,h2.2.1⟩),?_⟩;have hA:=ha cpos pins s1 σ H1 _ I1 q1;rw[hs]at hA ⊢;refine Calls.callWith_builtin (by show (false||(backTo cpos (starEach [e2] X.env)).any (·.1))=false; rw[hplain]<;>rfl) (Calls.evalArgs_plain ?_);exact bJ hA λus s2 ⟨vs,H2,I2,r2,q2⟩=>hm pins s2 σ H2 (.ref a) vs (.ref a) us Q I2 rfl r2 q2
theorem QL {pos:Pos}:PE X (.Dict [] [] pos) (λ_ H Q=>∀p,H p=none->Q (.ref p) (upd H p (dX X.prog X.w p []))):=λpins s σ H Q I h=>
 wpAny_Dict_empty ⟨.ref s.heap.objs.size,_,I.laid (a:=s.heap.objs.size) (t':=s.toks) (λ_ _ q=>aad _ q) (aaf _) (WQ (hk:=Av X.prog X.w) (xs:=[]) ⟨aa2 _,acg.mpr (Ne.symm (aaL I.big)),[],.nil,abH,_,#[],0,aay _ rfl,⟨rfl,rfl,rfl⟩,rfl,rfl⟩),rfl,h _ (I.hok.fresh (aaf _))⟩
end
def WR (a c:Addr):Heap->Prop:=λh=>∃o,W.InstAt h a o c none
section
variable {M:Model} {A:Around} {E:Value->Shared->Prop} {s:Shared} {base:Heap} {env:Env} {outer:List Env} {L e:Addr} {G:Addr->Prop} {Q:Unit->Shared->Prop}
end
section
variable {X:Cx} {pins:List (Addr×Obj)} {σ:St} {H:Hp} {s:Shared}
end
abbrev TJ:=St->Hp->(Hp->Prop)->Prop
section
variable {X:Cx} {es:List Expr} {n:Nat} {t:TJ}
end
section
variable {X:Cx}
end
section
variable {X:Cx} {pins:List (Addr×Obj)} {σ:St} {H H':Hp} {s s':Shared} {e C:Addr}
end
section
variable {X:Cx} {pins:List (Addr×Obj)} {σ:St} {H:Hp} {s:Shared} {e:Addr}
end
section
variable {X:Cx}
section
variable {pins:List (Addr×Obj)} {σ:St} {E:XK} {k:Nat} {f C:Addr} {fd:FuncData} {ps:List Str} {sp:Sp} {x:Str} {p pos:Pos} {e:Expr} {es:List Expr} {t:TA} {te:TE}
end
end
end L2
namespace L2
open PySem PySem.Spec PyProof.Rows PySem.W
section
variable {prog:Program} {w:World} {A:Around} {E:Value->Shared->Prop} {s:Shared} {K:FG} {e C:Addr} {oe:Obj}
end
section
variable {X:Cx} {pins:List (Addr×Obj)} {σ:St} {H H':Hp} {s s':Shared} {e C:Addr}
end
def Ends.un (i:Nat) (D:Ends):Ends:={ nx:=λσ H=>D.nx (σ.set i none) H,rt:=D.rt,bk:=λσ H=>D.bk (σ.set i none) H,ct:=λσ H=>D.ct (σ.set i none) H }
section
variable {X:Cx}
end
section
variable {X:Cx} {pins:List (Addr×Obj)} {σ:St} {H:Hp} {s:Shared} {a b:Addr} {kvs more:List (Key×V)} {A:Around} {E:Value->Shared->Prop}
theorem QM {Q:Value->Shared->Prop} (I:Inv X pins σ H s) (e:H a=some (.dK kvs)) (e2:Rd H b (.dK more)) (hne:a≠b) (hl:kvs.length+more.length<=sizeLine) (h:∀s',Inv X pins σ (upd H a (.dK (jt kvs more))) s'->Q .none s'):wpAny (model X.prog X.w) A (call (.builtin "dict.update") [.ref a,.ref b]) Q E s:=by obtain⟨z,hd,vs,rel,dd⟩:=Ag I.hok e;obtain⟨z2,hd2,vs2,rel2,dd2⟩:=u9 I.hok e2;refine call_meetsIn F.slot_dict_update dd.typeIs F.entry_dict_update (F.args_dict_update_2 _ _) (meets_dict_update (dg X.prog X.w) a b hne hd2) ⟨vs,vs2,dd,dd2,by rw[<-rel.length,<-rel2.length]; exact hl,λh' m1 _ hs=>h _ ?_⟩;have he:∃q,h'.get? a=some q:=let ⟨q,_,_,hq,_⟩:=m1; ⟨q,hq⟩;exact uw I (by rw[e]; exact True.intro) hs he (Aj (aaR (pO _ _) hl) hd (KV.merge rel2 rel) m1)
end
def R9 (td ty:TE):TE:=λσ H Q=>td σ H λx H1=>∃a,x=.ref a/\Zb H1 a/\ty σ H1 λy H2=>∃b kvs more,y=.ref b/\H2 a=some (.dK kvs)/\Rd H2 b (.dK more)/\a≠b/\kvs.length+more.length<=sizeLine/\Q .non (upd H2 a (.dK (jt kvs more)))
section
variable {X:Cx} {o e:Expr} {apos cpos:Pos} {td ty:TE}
theorem Um (ho:PE X o td) (he:PE X e ty) (m:M1 X o "update" apos e cpos):PE X (.Call (.Attribute o "update" apos) [e] [] cpos) (R9 td ty):=by intro pins s σ H Q I h;refine wpAny_Call_method m.base m.few m.line F.plainAttrs_dict F.slot_dict_update F.type_dict_update (bJ (ho pins s σ H _ I h) λu s1 ⟨x,H1,I1,rx,a,ex,d,q1⟩=>?_);subst ex;obtain rfl:u=Value.ref a:=rx;obtain⟨t1,t2,_⟩:=WD I1 d;refine⟨t1,t2,?_⟩;rw[m.trees];refine Calls.callWith_builtin rfl (Calls.evalArgs_plain (Calls.spliced_cons (bJ (he pins s1 σ H1 _ I1 q1) λiv s2 ⟨y,H2,I2,ry,b,kvs,more,ey,ea,eb,hne,hl,q2⟩=>Calls.spliced_nil ?_)));subst ey;obtain rfl:iv=Value.ref b:=ry;exact QM I2 ea eb hne hl λs3 I3=>⟨.non,_,I3,rfl,q2⟩
theorem Gv:m8 X (.type "dict") (λxs H Q=>∃a kvs,xs=[.ref a]/\Rd H a (.dK kvs)/\∀p,H p=none->Q (.ref p) (upd H p (.dK kvs))):=by intro pins s σ H xs us Q I r h;obtain⟨a,kvs,rfl,e,k⟩:=h;obtain⟨u,rfl,ru⟩:=vals1 r;obtain rfl:u=Value.ref a:=ru;exact QB I e λp s' hp I'=>⟨.ref p,_,I',rfl,k p hp⟩
end
end L2
namespace PL
open PySem PySem.Spec PyProof.Rows L2
inductive PV where
 | non
 | bl (b:Bool)
 | int (i:Int)
 | str (x:Str)
 | tup (ps:List PV)
 | lst (ps:List PV)
 | dk (ks:List Key) (ps:List PV)
 | dt (ks:List (List Key)) (ps:List PV)
 | obj (C:Str) (ks:List Str) (ps:List PV)
 | df (ks:List Key) (ps:List PV)
 | dtf (ks:List (List Key)) (ps:List PV)
 | dx (hk:List cG->Int) (ks:List (List cG)) (ps:List PV)
 | exc (C:Str)
 | ptr (n:Nat)
structure ZG where
 z:Hp
 g:List Addr
def f9 (Z Z':ZG):Prop:=du Z.z Z'.z/\Z.g <+: Z'.g
theorem f9.refl (Z:ZG):f9 Z Z:=⟨du.refl _,abd _⟩
theorem f9.trans {Z Z1 Z2:ZG} (a:f9 Z Z1) (b:f9 Z1 Z2):f9 Z Z2:=⟨a.1.trans b.1,a.2.trans b.2⟩
theorem Uo {α:Type} {l r:List α} {n:Nat} {a:α} (h:l <+: r) (e:l[n]?=some a):r[n]?=some a:=by obtain⟨t,rfl⟩:=h;rw[aaI (aap.mp e).1]; exact e
def CN (K:FG) (C:Str) (c:Addr):Prop:=W.nsIn K mainGlobals C=some (some (.ref c))
mutual
def Rep (K:FG) (Z:ZG):PV->V->Prop
 | .non,v=>v=.non
 | .bl b,v=>v=.bl b
 | .int i,v=>v=.int i
 | .str x,v=>v=.str x
 | .tup ps,v=>∃a vs,v=.ref a/\cM K Z.z a vs/\aH K Z ps vs
 | .lst ps,v=>∃a vs,v=.ref a/\bR K Z.z a vs/\aH K Z ps vs
 | .dk ks ps,v=>∃a kvs,v=.ref a/\Z.z a=some (.dK kvs)/\kvs.map (·.1)=ks/\aH K Z ps (kvs.map (·.2))
 | .dt ks ps,v=>∃a kvs,v=.ref a/\Z.z a=some (.dT kvs)/\kvs.map (·.1)=ks/\aH K Z ps (kvs.map (·.2))
 | .obj C ks ps,v=>∃a c dx fs,v=.ref a/\CN K C c/\Z.z a=some (.ins c dx fs)/\fs.map (·.1)=ks/\aH K Z ps (fs.map (·.2))
 | .df ks ps,v=>∃a o kvs,v=.ref a/\Z.z a=some (.frz o (.dK kvs))/\kvs.map (·.1)=ks/\aH K Z ps (kvs.map (·.2))
 | .dtf ks ps,v=>∃a o kvs,v=.ref a/\Z.z a=some (.frz o (.dT kvs))/\kvs.map (·.1)=ks/\aH K Z ps (kvs.map (·.2))
 | .dx hk ks ps,v=>∃a xs,v=.ref a/\Z.z a=some (.ext (uy hk a xs))/\xs.map (·.1)=ks/\(∀x∈xs,cM K Z.z x.2.1 (x.1.map sS))/\aH K Z ps (xs.map (·.2.2))
 | .exc C,v=>∃a c,v=.ref a/\CN K C c/\Z.z a=some (.ext (WR a c))
 | .ptr n,v=>∃a,v=.ref a/\Z.g[n]?=some a
def aH (K:FG) (Z:ZG):List PV->List V->Prop
 | [],vs=>vs=[]
 | p::ps,vs=>∃v r,vs=v::r/\Rep K Z p v/\aH K Z ps r
end
theorem bR.same {K:FG} {Z Z':Hp} {a:Addr} {vs:List V} (s:du Z Z') (h:bR K Z a vs):bR K Z' a vs:=s.seq h
theorem cM.same {K:FG} {Z Z':Hp} {a:Addr} {vs:List V} (s:du Z Z') (h:cM K Z a vs):cM K Z' a vs:=by
 rcases h with (h | ⟨o,h⟩) | h
 . exact .inl (.inl (s _ _ h))
 . exact .inl (.inr ⟨o,s _ _ h⟩)
 . exact .inr h
mutual
theorem Rep.mono {K:FG} {Z Z':ZG} (s:f9 Z Z'):∀{p:PV} {v:V},Rep K Z p v->Rep K Z' p v
 | .non,v,h=>h
 | .bl _,v,h=>h
 | .int _,v,h=>h
 | .str _,v,h=>h
 | .tup ps,v,h=>by unfold Rep at h ⊢;obtain⟨a,vs,e,h1,h2⟩:=h;exact⟨a,vs,e,cM.same s.1 h1,aH.mono s h2⟩
 | .lst ps,v,h=>by unfold Rep at h ⊢;obtain⟨a,vs,e,h1,h2⟩:=h;exact⟨a,vs,e,bR.same s.1 h1,aH.mono s h2⟩
 | .dk ks ps,v,h=>by unfold Rep at h ⊢;obtain⟨a,kvs,e,h1,h2,h3⟩:=h;exact⟨a,kvs,e,s.1 _ _ h1,h2,aH.mono s h3⟩
 | .dt ks ps,v,h=>by unfold Rep at h ⊢;obtain⟨a,kvs,e,h1,h2,h3⟩:=h;exact⟨a,kvs,e,s.1 _ _ h1,h2,aH.mono s h3⟩
 | .obj C ks ps,v,h=>by unfold Rep at h ⊢;obtain⟨a,c,dx,fs,e,cn,h1,h2,h3⟩:=h;exact⟨a,c,dx,fs,e,cn,s.1 _ _ h1,h2,aH.mono s h3⟩
 | .df ks ps,v,h=>by unfold Rep at h ⊢;obtain⟨a,o,kvs,e,h1,h2,h3⟩:=h;exact⟨a,o,kvs,e,s.1 _ _ h1,h2,aH.mono s h3⟩
 | .dtf ks ps,v,h=>by unfold Rep at h ⊢;obtain⟨a,o,kvs,e,h1,h2,h3⟩:=h;exact⟨a,o,kvs,e,s.1 _ _ h1,h2,aH.mono s h3⟩
 | .dx hk ks ps,v,h=>by unfold Rep at h ⊢;obtain⟨a,xs,e,h1,h2,h4,h3⟩:=h;exact⟨a,xs,e,s.1 _ _ h1,h2,λx hx=>cM.same s.1 (h4 x hx),aH.mono s h3⟩
 | .exc C,v,h=>by unfold Rep at h ⊢;obtain⟨a,c,e,cn,h1⟩:=h;exact⟨a,c,e,cn,s.1 _ _ h1⟩
 | .ptr n,v,h=>by unfold Rep at h ⊢;obtain⟨a,e,h1⟩:=h;exact⟨a,e,Uo s.2 h1⟩
theorem aH.mono {K:FG} {Z Z':ZG} (s:f9 Z Z'):∀{ps:List PV} {vs:List V},aH K Z ps vs->aH K Z' ps vs
 | [],vs,h=>by unfold aH at h ⊢; exact h
 | p::ps,vs,h=>by unfold aH at h ⊢;obtain⟨v,r,e,h1,h2⟩:=h;exact⟨v,r,e,Rep.mono s h1,aH.mono s h2⟩
end
section
variable {K:FG} {Z:ZG}
theorem aH.length:∀{ps:List PV} {vs:List V},aH K Z ps vs->vs.length=ps.length
 | [],vs,h=>by unfold aH at h; subst h; rfl
 | p::ps,vs,h=>by unfold aH at h;obtain⟨v,r,rfl,_,h2⟩:=h;simp[aH.length h2]
theorem aH.nil:aH K Z [] []:=by unfold aH; rfl
theorem aH.cons {p:PV} {ps:List PV} {v:V} {vs:List V} (h:Rep K Z p v) (t:aH K Z ps vs):aH K Z (p::ps) (v::vs):=by unfold aH; exact⟨v,vs,rfl,h,t⟩
theorem aH.inv {p:PV} {ps:List PV} {vs:List V} (h:aH K Z (p::ps) vs):∃v r,vs=v::r/\Rep K Z p v/\aH K Z ps r:=by unfold aH at h; exact h
theorem aH.inv0 {vs:List V} (h:aH K Z [] vs):vs=[]:=by unfold aH at h; exact h
theorem aH.append:∀{ps qs:List PV} {vs ws:List V},aH K Z ps vs->aH K Z qs ws->aH K Z (ps++qs) (vs++ws)
 | [],qs,vs,ws,h,g=>by have:=h.inv0; subst this; exact g
 | p::ps,qs,vs,ws,h,g=>by obtain⟨v,r,rfl,h1,h2⟩:=h.inv;exact aH.cons h1 (aH.append h2 g)
theorem aH.get:∀{ps:List PV} {vs:List V} {i:Nat} {p:PV},aH K Z ps vs->ps[i]?=some p->∃v,vs[i]?=some v/\Rep K Z p v
 | [],vs,i,p,h,e=>by simp at e
 | q::ps,vs,0,p,h,e=>by obtain⟨v,r,rfl,h1,h2⟩:=h.inv;simp at e; subst e;exact⟨v,rfl,h1⟩
 | q::ps,vs,i+1,p,h,e=>by obtain⟨v,r,rfl,h1,h2⟩:=h.inv;obtain⟨u,h3,h4⟩:=aH.get (i:=i) (p:=p) h2 (by simpa using e);exact⟨u,by simpa using h3,h4⟩
theorem aH.getV {ps:List PV} {vs:List V} {i:Nat} {v:V} (h:aH K Z ps vs) (e:vs[i]?=some v):∃p,ps[i]?=some p/\Rep K Z p v:=by
 have hi:i<ps.length:=by rw[<-h.length]; exact(aap.mp e).1
 obtain⟨u,h1,h2⟩:=h.get (i:=i) (p:=ps[i]) (aaB hi);rw[e]at h1; cases h1;exact⟨_,aaB hi,h2⟩
theorem aH.set {q:PV} {u:V} (hq:Rep K Z q u):∀{ps:List PV} {vs:List V} (i:Nat),aH K Z ps vs->aH K Z (ps.set i q) (vs.set i u)
 | [],vs,i,h=>by have:=h.inv0; subst this; exact h
 | p::ps,vs,0,h=>by obtain⟨v,r,rfl,h1,h2⟩:=h.inv;exact aH.cons hq h2
 | p::ps,vs,i+1,h=>by obtain⟨v,r,rfl,h1,h2⟩:=h.inv;exact aH.cons h1 (aH.set hq i h2)
theorem aH.take:∀{ps:List PV} {vs:List V} (n:Nat),aH K Z ps vs->aH K Z (ps.take n) (vs.take n)
 | [],vs,n,h=>by have:=h.inv0; subst this; simp; exact .nil
 | p::ps,vs,0,h=>by simp; exact .nil
 | p::ps,vs,n+1,h=>by obtain⟨v,r,rfl,h1,h2⟩:=h.inv;exact aH.cons h1 (aH.take n h2)
theorem aH.drop:∀{ps:List PV} {vs:List V} (n:Nat),aH K Z ps vs->aH K Z (ps.drop n) (vs.drop n)
 | [],vs,n,h=>by have:=h.inv0; subst this; simp; exact .nil
 | p::ps,vs,0,h=>h
 | p::ps,vs,n+1,h=>by obtain⟨v,r,rfl,h1,h2⟩:=h.inv;exact aH.drop n h2
end
inductive Lc where
 | sh (p:PV)
 | own (p:PV)
def Lc.pv:Lc->PV
 | .sh p=>p
 | .own p=>p
abbrev Mu:=List (Option PV)
structure Ev where
 vs:List (Option Lc)
 mu:Mu
abbrev Pd:=List (V×Lc)
def qW (K:FG) (Z:ZG) (H:Hp) (a:Addr):PV->Prop
 | .lst ps=>∃vs,H a=some (.lst vs)/\aH K Z ps vs
 | .dk ks ps=>∃kvs,H a=some (.dK kvs)/\kvs.map (·.1)=ks/\aH K Z ps (kvs.map (·.2))
 | .dt ks ps=>∃kvs,H a=some (.dT kvs)/\kvs.map (·.1)=ks/\aH K Z ps (kvs.map (·.2))
 | .dx hk ks ps=>∃xs,H a=some (.ext (uy hk a xs))/\xs.map (·.1)=ks/\(∀x∈xs,cM K Z.z x.2.1 (x.1.map sS))/\aH K Z ps (xs.map (·.2.2))
 | .exc C=>∃c,CN K C c/\H a=some (.ext (WR a c))
 | .obj C ks ps=>∃c dx fs,CN K C c/\H a=some (.ins c dx fs)/\fs.map (·.1)=ks/\aH K Z ps (fs.map (·.2))
 | _=>False
def VR (K:FG) (H0:Hp) (Z:ZG) (H:Hp) (v:Option V):Option Lc->Prop
 | none=>True
 | some (.sh p)=>∃x,v=some x/\Rep K Z p x
 | some (.own p)=>∃a,v=some (.ref a)/\qW K Z H a p/\Z.z a=none/\H0 a=none
def kE:Option V×Option Lc->Option Addr
 | (some (.ref a),some (.own _))=>some a
 | _=>none
abbrev Sl:=List (Option V×Option Lc)
def Slots (K:FG) (H0:Hp) (Z:ZG) (H:Hp) (L:Sl):Prop:=(∀e∈L,VR K H0 Z H e.1 e.2)/\(L.filterMap kE).Nodup
def cel (g:List Addr) (mu:Mu):Sl:=(g.map λa=>some (V.ref a)).zip (mu.map λo=>o.map Lc.own)
def qX (g:List Addr) (mu:Mu):List Addr:=(cel g mu).filterMap kE
def sl (g:List Addr) (σ:L2.St) (ρ:Ev) (pd:Pd):Sl:=cel g ρ.mu++(σ.zip ρ.vs++pd.map λe=>(some e.1,some e.2))
def Fq:HO->Prop
 | .tup _=>True
 | .frz _ _=>True
 | _=>False
structure jb (H0:Hp) (Z0 Z:ZG) (H:Hp):Prop where
 zh:du Z.z H
 h0:du H0 H
 z0:f9 Z0 Z
 new:∀b o,Z.z b=some o->Z0.z b=some o\/H0 b=none\/Fq o
def SR (K:FG) (H0:Hp) (Z0:ZG) (σ:L2.St) (H:Hp) (ρ:Ev) (pd:Pd):Prop:=σ.length=ρ.vs.length/\∃Z,ρ.mu.length=Z.g.length/\jb H0 Z0 Z H/\Slots K H0 Z H (sl Z.g σ ρ pd)
section
variable {K:FG} {H0 H H':Hp} {Z0 Z Z':ZG} {L L':Sl} {σ:L2.St} {ρ:Ev} {pd:Pd}
theorem Slots.sub (h:Slots K H0 Z H L) (s:List.Sublist L' L):Slots K H0 Z H L':=⟨λe he=>h.1 e (s.subset he),h.2.sublist (s.filterMap kE)⟩
theorem Slots.perm (h:Slots K H0 Z H L) (s:List.Perm L' L):Slots K H0 Z H L':=⟨λe he=>h.1 e (s.subset he),(s.filterMap kE).nodup_iff.mpr h.2⟩
theorem qW.keep {a:Addr} {p:PV} (h:qW K Z H a p) (z:f9 Z Z') (e:H' a=H a):qW K Z' H' a p:=by
 cases p with
 | lst ps=>obtain⟨vs,h1,h2⟩:=h; exact⟨vs,by rw[e]; exact h1,h2.mono z⟩
 | dk ks ps=>obtain⟨vs,h1,h2,h3⟩:=h; exact⟨vs,by rw[e]; exact h1,h2,h3.mono z⟩
 | dt ks ps=>obtain⟨vs,h1,h2,h3⟩:=h; exact⟨vs,by rw[e]; exact h1,h2,h3.mono z⟩
 | dx hk ks ps=>obtain⟨vs,h1,h2,h4,h3⟩:=h; exact⟨vs,by rw[e]; exact h1,h2,λx hx=>cM.same z.1 (h4 x hx),h3.mono z⟩
 | exc C=>obtain⟨c,cn,h1⟩:=h; exact⟨c,cn,by rw[e]; exact h1⟩
 | obj C ks ps=>obtain⟨c,dx,fs,cn,h1,h2,h3⟩:=h; exact⟨c,dx,fs,cn,by rw[e]; exact h1,h2,h3.mono z⟩
 | _=>exact h
theorem qW.some {a:Addr} {p:PV} (h:qW K Z H a p):∃o,H a=some o/\¬ Fq o:=by
 cases p with
 | lst ps=>obtain⟨vs,h1,h2⟩:=h; exact⟨_,h1,λz=>z⟩
 | dk ks ps=>obtain⟨vs,h1,h2,h3⟩:=h; exact⟨_,h1,λz=>z⟩
 | dt ks ps=>obtain⟨vs,h1,h2,h3⟩:=h; exact⟨_,h1,λz=>z⟩
 | dx hk ks ps=>obtain⟨vs,h1,h2,h3⟩:=h; exact⟨_,h1,λz=>z⟩
 | exc C=>obtain⟨c,cn,h1⟩:=h; exact⟨_,h1,λz=>z⟩
 | obj C ks ps=>obtain⟨c,dx,fs,cn,h1,h2,h3⟩:=h; exact⟨_,h1,λz=>z⟩
 | _=>exact h.elim
theorem qW.rep {a:Addr} {p:PV} (h:qW K Z H a p) (z:f9 Z Z') (e:Z'.z a=H a):Rep K Z' p (.ref a):=by
 cases p with
 | lst ps=>obtain⟨vs,h1,h2⟩:=h; unfold Rep; exact⟨a,vs,rfl,bR.of (by rw[e]; exact h1),h2.mono z⟩
 | dk ks ps=>obtain⟨vs,h1,h2,h3⟩:=h; unfold Rep; exact⟨a,vs,rfl,by rw[e]; exact h1,h2,h3.mono z⟩
 | dt ks ps=>obtain⟨vs,h1,h2,h3⟩:=h; unfold Rep; exact⟨a,vs,rfl,by rw[e]; exact h1,h2,h3.mono z⟩
 | dx hk ks ps=>obtain⟨vs,h1,h2,h4,h3⟩:=h; unfold Rep; exact⟨a,vs,rfl,by rw[e]; exact h1,h2,λx hx=>cM.same z.1 (h4 x hx),h3.mono z⟩
 | exc C=>obtain⟨c,cn,h1⟩:=h; unfold Rep; exact⟨a,c,rfl,cn,by rw[e]; exact h1⟩
 | obj C ks ps=>obtain⟨c,dx,fs,cn,h1,h2,h3⟩:=h; unfold Rep; exact⟨a,c,dx,fs,rfl,cn,by rw[e]; exact h1,h2,h3.mono z⟩
 | _=>exact h.elim
theorem Slots.step (h:Slots K H0 Z H L) (z:f9 Z Z') (hk:∀e∈L,∀a,kE e=some a->H' a=H a/\Z'.z a=none):Slots K H0 Z' H' L:=by
 refine⟨λe he=>?_,h.2⟩;have q:=h.1 e he;obtain⟨v,l⟩:=e;cases l with
 | none=>trivial
 | some l=>
  cases l with
  | sh p=>obtain⟨x,e1,e2⟩:=q; exact⟨x,e1,e2.mono z⟩
  | own p=>
   obtain⟨a,e1,e2,e3,e4⟩:=q;have e1':v=some (.ref a):=e1;subst e1';obtain⟨k1,k2⟩:=hk _ he a rfl;exact⟨a,rfl,e2.keep z k1,k2,e4⟩
theorem jc (h:Slots K H0 Z H L) {e:Option V×Option Lc} (he:e∈L) {a:Addr} (ha:kE e=some a):Z.z a=none/\H0 a=none/\∃o,H a=some o/\¬ Fq o:=by
 obtain⟨v,l⟩:=e;have q:=h.1 _ he;cases l with
 | none=>cases v with
  | none=>cases ha
  | some x=>cases x<;>cases ha
 | some l=>
  cases l with
  | sh p=>cases v with
   | none=>cases ha
   | some x=>cases x<;>cases ha
  | own p=>
   obtain⟨b,e1,e2,e3,e4⟩:=q;have e1':v=some (.ref b):=e1;subst e1';cases ha;exact⟨e3,e4,e2.some⟩
theorem Slots.new (h:Slots K H0 Z H L) (zo:jb H0 Z0 Z H) {a:Addr} {o:HO} {p:PV} (ha:H a=none) (hp:qW K Z (upd H a o) a p):jb H0 Z0 Z (upd H a o)/\Slots K H0 Z (upd H a o) ((some (.ref a),some (.own p))::L):=by
 have hz:Z.z a=none:=zo.zh.free ha;have h0:H0 a=none:=zo.h0.free ha;refine⟨⟨λb u e=>by rw[cu (dI e hz)]; exact zo.zh b u e,λb u e=>by rw[cu (dI e h0)]; exact zo.h0 b u e,zo.z0,zo.new⟩,?_⟩;have hne:∀e∈L,∀b,kE e=some b->b≠a:=λe he b hb=>by obtain⟨_,_,o',h3,_⟩:=jc h he hb;exact dI h3 ha
 have st:=h.step (Z':=Z) (H':=upd H a o) (f9.refl Z) λe he b hb=>⟨cu (hne e he b hb),(jc h he hb).1⟩;refine⟨λe he=>?_,?_⟩
 . rcases aaj.mp he with rfl | he
   . exact⟨a,rfl,hp,hz,h0⟩
   . exact st.1 e he
 . show (a::L.filterMap kE).Nodup;refine aaP.mpr ⟨λhm=>?_,st.2⟩;obtain⟨e,he,hb⟩:=aa1.mp hm;exact hne e he a hb rfl
abbrev ZG.put (Z:ZG) (a:Addr) (o:HO):ZG:=⟨upd Z.z a o,Z.g⟩
theorem Slots.newF (h:Slots K H0 Z H L) (zo:jb H0 Z0 Z H) {a:Addr} {o:HO} (ha:H a=none):jb H0 Z0 (Z.put a o) (upd H a o)/\f9 Z (Z.put a o)/\Slots K H0 (Z.put a o) (upd H a o) L:=by
 have hz:Z.z a=none:=zo.zh.free ha;have h0:H0 a=none:=zo.h0.free ha;have sz:du Z.z (upd Z.z a o):=λb u e=>by rw[cu (dI e hz)]; exact e
 have lz:f9 Z (Z.put a o):=⟨sz,abd _⟩;refine⟨⟨λb u e=>?_,λb u e=>by rw[cu (dI e h0)]; exact zo.h0 b u e,zo.z0.trans lz,λb u e=>?_⟩,lz,?_⟩
 . have e:upd Z.z a o b=some u:=e;unfold upd at e ⊢;split
   . rename_i q; rw[aca q]at e; exact e
   . rename_i q; rw[acb q]at e; exact zo.zh b u e
 . have e:upd Z.z a o b=some u:=e;unfold upd at e;split at e
   . rename_i q; rw[q]; exact .inr (.inl h0)
   . exact zo.new b u e
 . refine h.step lz λe he b hb=>?_;obtain⟨h1,h2,o',h3,_⟩:=jc h he hb;have hba:=dI h3 ha;exact⟨cu hba,by show upd Z.z a o b=none; rw[cu hba]; exact h1⟩
theorem Slots.freeze {v:Option V} {p:PV} (h:Slots K H0 Z H ((v,some (.own p))::L)) (zo:jb H0 Z0 Z H):∃Z',f9 Z Z'/\Z'.g=Z.g/\jb H0 Z0 Z' H/\Slots K H0 Z' H ((v,some (.sh p))::L):=by
 obtain⟨a,e1,e2,e3,e4⟩:=h.1 _ aac;have e1':v=some (.ref a):=e1;subst e1';obtain⟨o,ho,_⟩:=e2.some;have sz:du Z.z (upd Z.z a o):=λb u e=>by rw[cu (dI e e3)]; exact e
 have lz:f9 Z (Z.put a o):=⟨sz,abd _⟩;have nd:(a::L.filterMap kE).Nodup:=h.2;have hL:Slots K H0 Z H L:=h.sub (aaq _ _);refine⟨Z.put a o,lz,rfl,⟨λb u e=>?_,zo.h0,zo.z0.trans lz,λb u e=>?_⟩,λe he=>?_,(aaP.mp nd).2⟩
 . have e:upd Z.z a o b=some u:=e;unfold upd at e;split at e
   . rename_i q; cases e; rw[q]; exact ho
   . exact zo.zh b u e
 . have e:upd Z.z a o b=some u:=e;unfold upd at e;split at e
   . rename_i q; rw[q]; exact .inr (.inl e4)
   . exact zo.new b u e
 . rcases aaj.mp he with rfl | he
   . exact⟨.ref a,rfl,e2.rep lz (by show upd Z.z a o a=_; rw[bN,ho])⟩
   . refine(hL.step (Z':=Z.put a o) (H':=H) lz λe' he' b hb=>⟨rfl,?_⟩).1 e he;have:b≠a:=λq=>by rw[q]at hb;exact(aaP.mp nd).1 (aa1.mpr ⟨e',he',hb⟩)
     show upd Z.z a o b=none;rw[cu this];exact(jc hL he' hb).1
theorem Slots.write {a:Addr} {p q:PV} {o:HO} (h:Slots K H0 Z H ((some (.ref a),some (.own p))::L)) (zo:jb H0 Z0 Z H) (hq:qW K Z (upd H a o) a q):jb H0 Z0 Z (upd H a o)/\Slots K H0 Z (upd H a o) ((some (.ref a),some (.own q))::L):=by
 obtain⟨b,e1,e2,e3,e4⟩:=h.1 _ aac;cases e1;have nd:(a::L.filterMap kE).Nodup:=h.2;have hL:Slots K H0 Z H L:=h.sub (aaq _ _);refine⟨⟨λb u e=>by rw[cu (dI e e3)]; exact zo.zh b u e,λb u e=>by rw[cu (dI e e4)]; exact zo.h0 b u e,zo.z0,zo.new⟩,λe he=>?_,nd⟩;rcases aaj.mp he with rfl | he
 . exact⟨a,rfl,hq,e3,e4⟩
 . refine(hL.step (Z':=Z) (H':=upd H a o) (f9.refl Z) λe' he' b hb=>⟨cu λq=>?_,(jc hL he' hb).1⟩).1 e he;rw[q]at hb;exact(aaP.mp nd).1 (aa1.mpr ⟨e',he',hb⟩)
end
variable {K:FG} {H0 H:Hp} {Z0:ZG} {σ:L2.St} {ρ:Ev} {pd:Pd}
theorem wM {α:Type}:∀{l:List α} {i:Nat} {a:α},l[i]?=some a->∃R,List.Perm l (a::R)/\∀b,List.Perm (l.set i b) (b::R)
 | [],i,a,h=>by simp at h
 | x::r,0,a,h=>by simp at h; subst h;exact⟨r,List.Perm.refl _,λb=>List.Perm.refl _⟩
 | x::r,i+1,a,h=>by obtain⟨R,h1,h2⟩:=wM (l:=r) (i:=i) (a:=a) (by simpa using h);refine⟨x::R,(h1.cons x).trans (List.Perm.swap _ _ _),λb=>?_⟩;simp only[List.set_cons_succ];exact((h2 b).cons x).trans (List.Perm.swap _ _ _)
theorem CJ {α β:Type}:∀(l:List α) (r:List β) (i:Nat) (a:α) (b:β),(l.set i a).zip (r.set i b)=(l.zip r).set i (a,b)
 | [],r,i,a,b=>by simp
 | x::l,[],i,a,b=>by simp
 | x::l,y::r,0,a,b=>by simp
 | x::l,y::r,i+1,a,b=>by simp[CJ l r i a b]
theorem zip_get {α β:Type}:∀{l:List α} {r:List β} {i:Nat} {a:α} {b:β},l[i]?=some a->r[i]?=some b->(l.zip r)[i]?=some (a,b)
 | [],r,i,a,b,h,g=>by simp at h
 | x::l,[],i,a,b,h,g=>by simp at g
 | x::l,y::r,0,a,b,h,g=>by simp at h g; simp[h,g]
 | x::l,y::r,i+1,a,b,h,g=>by have:=zip_get (l:=l) (r:=r) (i:=i) (by simpa using h) (by simpa using g);simpa using this
theorem ack {α:Type}:∀{l:List α} {i:Nat} {a:α},l[i]?=some a->l.set i a=l
 | [],i,a,h=>by simp at h
 | x::r,0,a,h=>by simp at h; subst h; simp
 | x::r,i+1,a,h=>by simp[ack (l:=r) (i:=i) (a:=a) (by simpa using h)]
def Ev.set (ρ:Ev) (i:Nat) (x:Option Lc):Ev:=⟨ρ.vs.set i x,ρ.mu⟩
section
variable {K:FG} {H0 H H':Hp} {Z0 Z:ZG} {σ:L2.St} {ρ:Ev} {pd pd':Pd} {v w:V} {l:Lc} {p:PV} {L:Sl} {g:List Addr}
theorem cg:List.Perm (sl g σ ρ ((v,l)::pd)) ((some v,some l)::sl g σ ρ pd):=by unfold sl;exact(List.perm_middle.append_left _).trans aaZ
theorem SR.top (h:SR K H0 Z0 σ H ρ ((v,l)::pd)):σ.length=ρ.vs.length/\∃Z,ρ.mu.length=Z.g.length/\jb H0 Z0 Z H/\Slots K H0 Z H ((some v,some l)::sl Z.g σ ρ pd):=
 let ⟨e,Z,hg,z,s⟩:=h
 ⟨e,Z,hg,z,s.perm cg.symm⟩
theorem SR.mk (e:σ.length=ρ.vs.length) (hg:ρ.mu.length=Z.g.length) (z:jb H0 Z0 Z H) (s:Slots K H0 Z H ((some v,some l)::sl Z.g σ ρ pd)):SR K H0 Z0 σ H ρ ((v,l)::pd):=⟨e,Z,hg,z,s.perm cg⟩
theorem SR.pop (h:SR K H0 Z0 σ H ρ ((v,l)::pd)):SR K H0 Z0 σ H ρ pd:=
 let ⟨e,Z,hg,z,s⟩:=h.top
 ⟨e,Z,hg,z,s.sub (aaq _ _)⟩
theorem SR.perm (h:SR K H0 Z0 σ H ρ pd) (q:List.Perm pd' pd):SR K H0 Z0 σ H ρ pd':=
 let ⟨e,Z,hg,z,s⟩:=h
 ⟨e,Z,hg,z,s.perm (((q.map _).append_left _).append_left _)⟩
theorem SR.swap {l2:Lc} (h:SR K H0 Z0 σ H ρ ((v,l)::(w,l2)::pd)):SR K H0 Z0 σ H ρ ((w,l2)::(v,l)::pd):=h.perm (List.Perm.swap _ _ _)
theorem SR.freeze (h:SR K H0 Z0 σ H ρ ((v,l)::pd)):SR K H0 Z0 σ H ρ ((v,.sh l.pv)::pd):=by
 cases l with
 | sh p=>exact h
 | own p=>
  obtain⟨e,Z,hg,z,s⟩:=h.top;obtain⟨Z',_,eg,z',s'⟩:=s.freeze z;refine .mk (Z:=Z') e (by rw[eg]; exact hg) z' ?_;rw[eg]; exact s'
theorem SR.sh (h:SR K H0 Z0 σ H ρ ((v,.sh p)::pd)):σ.length=ρ.vs.length/\∃Z,ρ.mu.length=Z.g.length/\jb H0 Z0 Z H/\Rep K Z p v/\Slots K H0 Z H (sl Z.g σ ρ pd):=by obtain⟨e,Z,hg,z,s⟩:=h.top;obtain⟨x,e1,e2⟩:=s.1 _ aac;cases e1;exact⟨e,Z,hg,z,e2,s.sub (aaq _ _)⟩
theorem SR.rep (h:SR K H0 Z0 σ H ρ ((v,.sh p)::pd)):∃Z:ZG,du Z.z H/\Rep K Z p v:=let ⟨_,Z,_,z,r,_⟩:=h.sh; ⟨Z,z.zh,r⟩
theorem SR.repH (h:SR K H0 Z0 σ H ρ ((v,.sh p)::pd)):∃g,Rep K ⟨H,g⟩ p v:=let ⟨_,Z,_,z,r,_⟩:=h.sh; ⟨Z.g,r.mono (Z':=⟨H,Z.g⟩) ⟨z.zh,abd _⟩⟩
theorem Slots.consS (s:Slots K H0 Z H L) (r:Rep K Z p v):Slots K H0 Z H ((some v,some (.sh p))::L):=by
 refine⟨λe he=>?_,?_⟩
 . rcases aaj.mp he with rfl | he
   . exact⟨v,rfl,r⟩
   . exact s.1 e he
 . have:kE (some v,some (Lc.sh p))=none:=by cases v<;>rfl
   rw[aaV this];exact s.2
theorem SR.scal (h:SR K H0 Z0 σ H ρ pd) (r:∀Z,Rep K Z p v):SR K H0 Z0 σ H ρ ((v,.sh p)::pd):=
 let ⟨e,Z,hg,z,s⟩:=h
 .mk e hg z (s.consS (r Z))
theorem Gw {i:Nat} {o:Option Lc} (el:σ.length=ρ.vs.length) (e:ρ.vs[i]?=some o):∃R:Sl,∃x,σ[i]?=some x/\(∀g pd,List.Perm (sl g σ ρ pd) ((x,o)::(cel g ρ.mu++(R++pd.map λe=>(some e.1,some e.2)))))/\
 ∀g pd y o',List.Perm (sl g (σ.set i y) (ρ.set i o') pd) ((y,o')::(cel g ρ.mu++(R++pd.map λe=>(some e.1,some e.2)))):=by
 have hi:i<σ.length:=by rw[el]; exact(aap.mp e).1
 have hσ:σ[i]?=some σ[i]:=aaB hi;obtain⟨R,h1,h2⟩:=wM (zip_get hσ e);refine⟨R,σ[i],hσ,λg pd=>?_,λg pd y o'=>?_⟩
 . unfold sl;exact((h1.append_right _).append_left _).trans aaZ
 . unfold sl;show List.Perm (cel g ρ.mu++((σ.set i y).zip (ρ.vs.set i o')++_)) _;rw[CJ];exact(((h2 _).append_right _).append_left _).trans aaZ
theorem Ev.set_mu {i:Nat} {x:Option Lc}:(ρ.set i x).mu=ρ.mu:=rfl
theorem Ev.set_len {i:Nat} {x:Option Lc}:(ρ.set i x).vs.length=ρ.vs.length:=by show (ρ.vs.set i x).length=_; rw[aaK]
theorem SR.var {i:Nat} (h:SR K H0 Z0 σ H ρ pd) (e:ρ.vs[i]?=some (some l)):∃v,σ[i]?=some (some v)/\SR K H0 Z0 σ H (ρ.set i (some (.sh l.pv))) ((v,.sh l.pv)::pd):=by
 obtain⟨el,Z,hg,z,s⟩:=h;obtain⟨R,x,hσ,h1,h2⟩:=Gw el e;have s1:=s.perm (h1 Z.g pd).symm;have el':σ.length=(ρ.set i (some (.sh l.pv))).vs.length:=by rw[Ev.set_len]; exact el
 have fin:∀{Z':ZG} {v:V},Z'.g=Z.g->jb H0 Z0 Z' H->x=some v->Slots K H0 Z' H ((x,some (.sh l.pv))::(cel Z.g ρ.mu++(R++pd.map λe=>(some e.1,some e.2))))->Rep K Z' l.pv v->SR K H0 Z0 σ H (ρ.set i (some (.sh l.pv))) ((v,.sh l.pv)::pd):=
  λ{Z' v} eg z ev s2 r=>by have p2:=h2 Z.g pd x (some (.sh l.pv));rw[ack hσ]at p2;refine .mk (Z:=Z') el' (by rw[eg,Ev.set_mu]; exact hg) z ?_;rw[eg];exact(s2.perm p2).consS r
 cases l with
 | sh p=>
  obtain⟨v,e1,e2⟩:=s1.1 _ aac;exact⟨v,hσ.trans (congrArg some e1),fin rfl z e1 s1 e2⟩
 | own p=>
  obtain⟨Z',sz,eg,z',s'⟩:=s1.freeze z;obtain⟨v,e1,e2⟩:=s'.1 _ aac;exact⟨v,hσ.trans (congrArg some e1),fin eg z' e1 s' e2⟩
theorem SR.store {i:Nat} (h:SR K H0 Z0 σ H ρ ((v,l)::pd)) (hi:i<ρ.vs.length):SR K H0 Z0 (σ.set i (some v)) H (ρ.set i (some l)) pd:=by obtain⟨el,Z,hg,z,s⟩:=h.top;have hρ:ρ.vs[i]?=some ρ.vs[i]:=aaB hi;obtain⟨R,x,hσ,h1,h2⟩:=Gw el hρ;refine⟨by rw[aaK,Ev.set_len]; exact el,Z,hg,z,?_⟩;refine(Slots.sub (L:=(some v,some l)::((x,ρ.vs[i])::(cel Z.g ρ.mu++(R++pd.map λe=>(some e.1,some e.2))))) (s.perm ((h1 Z.g pd).symm.cons _)) ?_).perm (h2 Z.g pd (some v) (some l));exact(aaq _ _).cons_cons _
theorem SR.take {i:Nat} (h:SR K H0 Z0 σ H ρ pd) (e:ρ.vs[i]?=some (some l)):∃v,σ[i]?=some (some v)/\SR K H0 Z0 σ H (ρ.set i none) ((v,l)::pd):=by
 obtain⟨el,Z,hg,z,s⟩:=h;obtain⟨R,x,hσ,h1,h2⟩:=Gw el e;have s1:=s.perm (h1 Z.g pd).symm;obtain⟨v,hv⟩:∃v,x=some v:=by
  have q:=s1.1 _ aac;cases l with
  | sh p=>obtain⟨x,e1,_⟩:=q; exact⟨x,e1⟩
  | own p=>obtain⟨a,e1,_⟩:=q; exact⟨_,e1⟩
 subst hv;refine⟨v,hσ,.mk (Z:=Z) (by rw[Ev.set_len]; exact el) hg z ?_⟩;have p2:=h2 Z.g pd (some v) none;rw[ack hσ]at p2;refine Slots.perm ?_ (p2.cons _);have ht:Slots K H0 Z H ((some v,none)::(some v,some l)::(cel Z.g ρ.mu++(R++pd.map λe=>(some e.1,some e.2)))):=by
  refine⟨λe he=>?_,?_⟩
  . rcases aaj.mp he with rfl | he
    . trivial
    . exact s1.1 e he
  . have:kE (some v,none)=none:=by cases v<;>rfl
    rw[aaV this];exact s1.2
 exact ht.perm (List.Perm.swap _ _ _)
theorem SR.put {i:Nat} (h:SR K H0 Z0 σ H ρ ((v,l)::pd)) (e:σ[i]?=some (some v)):SR K H0 Z0 σ H (ρ.set i (some l)) pd:=by
 have hi:i<ρ.vs.length:=by rw[<-h.1]; exact(aap.mp e).1
 have:=h.store hi;rw[ack e]at this;exact this
end
abbrev EF:=Ev->Option (Lc×Ev)
abbrev TF:=Ev->Option (Bool×Ev)
abbrev AF:=Ev->Option (List Lc×Ev)
inductive Fl where
 | nx (ρ:Ev)
 | rt (r:Lc) (ρ:Ev)
 | bk (ρ:Ev)
 | ct (ρ:Ev)
abbrev SF:=Ev->Option Fl
def tP (K:FG) (f:EF):TE:=λσ H Q=>∃H0 Z0 ρ pd r ρ',SR K H0 Z0 σ H ρ pd/\f ρ=some (r,ρ')/\∀v H',SR K H0 Z0 σ H' ρ' ((v,r)::pd)->Q v H'
def ig (K:FG) (f:TF):TT:=λσ H Q=>∃H0 Z0 ρ pd b ρ',SR K H0 Z0 σ H ρ pd/\f ρ=some (b,ρ')/\∀H',SR K H0 Z0 σ H' ρ' pd->Q b H'
def gQ (K:FG) (f:AF):TA:=λσ H Q=>∃H0 Z0 ρ pd ls ρ',SR K H0 Z0 σ H ρ pd/\f ρ=some (ls,ρ')/\∀vs H',vs.length=ls.length->SR K H0 Z0 σ H' ρ' (vs.zip ls++pd)->Q vs H'
def Gx (K:FG) (H0:Hp) (Z0:ZG) (pd:Pd) (D:Ends):Fl->Prop
 | .nx ρ'=>∀σ' H',SR K H0 Z0 σ' H' ρ' pd->D.nx σ' H'
 | .rt r ρ'=>∀v σ' H',SR K H0 Z0 σ' H' ρ' ((v,r)::pd)->D.rt v H'
 | .bk ρ'=>∀σ' H',SR K H0 Z0 σ' H' ρ' pd->D.bk σ' H'
 | .ct ρ'=>∀σ' H',SR K H0 Z0 σ' H' ρ' pd->D.ct σ' H'
def fV (K:FG) (g:SF):TS:=λD σ H=>∃H0 Z0 ρ pd fl,SR K H0 Z0 σ H ρ pd/\g ρ=some fl/\Gx K H0 Z0 pd D fl
section
variable {X:Cx} {e:Expr} {es:List Expr} {st:Stmt} {sts:List Stmt}
theorem PE.imp {t t':TE} (h:PE X e t) (i:∀σ H Q,t' σ H Q->t σ H Q):PE X e t':=λpins s σ H Q I q=>h pins s σ H Q I (i σ H Q q)
theorem PT.imp {t t':TT} (h:PT X e t) (i:∀σ H Q,t' σ H Q->t σ H Q):PT X e t':=λpins s σ H Q I q=>h pins s σ H Q I (i σ H Q q)
theorem PW.imp {t t':TT} (h:PW X e t) (i:∀σ H Q,t' σ H Q->t σ H Q):PW X e t':=λwh pins s σ H Q I q=>h wh pins s σ H Q I (i σ H Q q)
theorem PA.imp {t t':TA} (h:PA X es t) (i:∀σ H Q,t' σ H Q->t σ H Q):PA X es t':=λpos pins s σ H Q I q=>h pos pins s σ H Q I (i σ H Q q)
theorem PS.imp {t t':TS} (h:PS X st t) (i:∀D σ H,t' D σ H->t D σ H):PS X st t':=λpins s σ H D I q=>h pins s σ H D I (i D σ H q)
theorem iK.imp {t t':TS} (h:iK X sts t) (i:∀D σ H,t' D σ H->t D σ H):iK X sts t':=λpins s σ H D I q=>h pins s σ H D I (i D σ H q)
def aa (i:Nat):EF:=λρ=>match ρ.vs[i]? with
 | some (some l)=>some (.sh l.pv,ρ.set i (some (.sh l.pv)))
 | _=>none
def eC (p:PV):EF:=λρ=>some (.sh p,ρ)
theorem qv {i:Nat} (h:PE X e (qQ i)):PE X e (tP X.K (aa i)):=PE.imp h λσ H Q q=>by
 obtain⟨H0,Z0,ρ,pd,r,ρ',s,f,k⟩:=q;unfold aa at f;split at f
 . rename_i l e1;cases f;obtain⟨v,h1,h2⟩:=s.var e1;exact⟨v,h1,k v H h2⟩
 . cases f
theorem qc {p:PV} {v:V} (h:PE X e (tC v)) (r:∀Z,Rep X.K Z p v):PE X e (tP X.K (eC p)):=PE.imp h λσ H Q q=>by obtain⟨H0,Z0,ρ,pd,l,ρ',s,f,k⟩:=q;cases f;exact k v H (s.scal r)
theorem dO {i:Int}:∀Z,Rep K Z (.int i) (.int i):=λZ=>by unfold Rep; rfl
theorem uz {i:Str}:∀Z,Rep K Z (.str i) (.str i):=λZ=>by unfold Rep; rfl
theorem dW {i:Bool}:∀Z,Rep K Z (.bl i) (.bl i):=λZ=>by unfold Rep; rfl
theorem uA:∀Z,Rep K Z .non .non:=λZ=>by unfold Rep; rfl
def iM (K:FG) (r:R2) (g:PV->PV->Option Lc):Prop:=∀H0 Z0 σ ρ pd H v w x y l Q,SR K H0 Z0 σ H ρ ((w,.sh y)::(v,.sh x)::pd)->g x y=some l->(∀u H',SR K H0 Z0 σ H' ρ ((u,l)::pd)->Q u H')->r v w H Q
def aB (g:PV->PV->Option Lc) (fa fb:EF):EF:=λρ=>(fa ρ).bind λx=>(fb x.2).bind λy=>(g x.1.pv y.1.pv).map λl=>(l,y.2)
theorem QQ {g:PV->PV->Option Lc} {fa fb:EF} {ρ ρ':Ev} {l:Lc} (h:aB g fa fb ρ=some (l,ρ')):∃x ρ1 y,fa ρ=some (x,ρ1)/\fb ρ1=some (y,ρ')/\g x.pv y.pv=some l:=by
 unfold aB at h;cases h1:fa ρ with
 | none=>rw[h1]at h; cases h
 | some x=>
  rw[h1,aab]at h;cases h2:fb x.2 with
  | none=>rw[h2]at h; cases h
  | some y=>
   rw[h2,aab]at h;cases h3:g x.1.pv y.1.pv with
   | none=>rw[h3]at h; cases h
   | some z=>
    rw[h3]at h;cases h;exact⟨x.1,x.2,y.1,rfl,h2,h3⟩
theorem Gy {r:R2} {g:PV->PV->Option Lc} (hs:iM X.K r g) {fa fb:EF}:∀σ H Q,tP X.K (aB g fa fb) σ H Q->Jg r (tP X.K fa) (tP X.K fb) σ H Q:=λσ H Q q=>by obtain⟨H0,Z0,ρ,pd,l,ρ',s,f,k⟩:=q;obtain⟨x,ρ1,y,h1,h2,h3⟩:=QQ f;refine⟨H0,Z0,ρ,pd,x,ρ1,s,h1,λv H1 s1=>⟨H0,Z0,ρ1,_,y,ρ',s1,h2,λw H2 s2=>?_⟩⟩;exact hs H0 Z0 σ ρ' pd H2 v w x.pv y.pv l Q (s2.freeze.swap.freeze.swap) h3 λu H' s3=>k u H' s3
theorem bY {op:Operator} {a b:Expr} {pos:Pos} {r:R2} {g:PV->PV->Option Lc} {fa fb:EF} (ho:d7 X (binaryOp op) r) (hs:iM X.K r g) (ha:PE X a (tP X.K fa)) (hb:PE X b (tP X.K fb)):PE X (.BinOp a op b pos) (tP X.K (aB g fa fb)):=
 PE.imp (Yw ho ha hb) (Gy hs)
theorem vh {op:CmpOp} {a b:Expr} {pos:Pos} {r:R2} {g:PV->PV->Option Lc} {fa fb:EF} (ho:d7 X (compareOp op) r) (hs:iM X.K r g) (ha:PE X a (tP X.K fa)) (hb:PE X b (tP X.K fb)) (hm:behindInMarks op b=false):PE X (.Compare a [op] [b] pos) (tP X.K (aB g fa fb)):=
 PE.imp (TQ ho ha hb hm) (Gy hs)
def sU (C:Int->Int->Bool) (g:Int->Int->PV):PV->PV->Option Lc
 | .int i,.int j=>if C i j=true then some (.sh (g i j)) else none
 | _,_=>none
theorem Gz {C:Int->Int->Bool} {g:Int->Int->PV} {x y:PV} {l:Lc} (h:sU C g x y=some l):∃i j,x=.int i/\y=.int j/\C i j=true/\l=.sh (g i j):=by
 cases x with
 | int i=>
  cases y with
  | int j=>
   have h':(if C i j=true then some (Lc.sh (g i j)) else none)=some l:=h;split at h'
   . rename_i c; cases h'; exact⟨i,j,rfl,rfl,c,rfl⟩
   . cases h'
  | _=>cases h
 | _=>cases h
theorem bK {Z:ZG} {i:Int} {v:V} (h:Rep K Z (.int i) v):v=.int i:=by unfold Rep at h; exact h
theorem cZ {Z:ZG} {i:Str} {v:V} (h:Rep K Z (.str i) v):v=.str i:=by unfold Rep at h; exact h
theorem dB {Z:ZG} {i:Bool} {v:V} (h:Rep K Z (.bl i) v):v=.bl i:=by unfold Rep at h; exact h
theorem gA {Z:ZG} {v:V} (h:Rep K Z .non v):v=.non:=by unfold Rep at h; exact h
theorem Aw {C':Int->Int->Prop} {C:Int->Int->Bool} {gV:Int->Int->V} {g:Int->Int->PV} (hc:∀i j,C i j=true->C' i j) (hg:∀i j Z,Rep K Z (g i j) (gV i j)):iM K (rI C' gV) (sU C g):=by intro H0 Z0 σ ρ pd H v w x y l Q s e k;obtain⟨i,j,rfl,rfl,c,rfl⟩:=Gz e;obtain⟨_,rw'⟩:=s.repH;obtain⟨_,rv'⟩:=s.pop.repH;have hw:=bK rw';have hv:=bK rv';exact⟨i,j,hv,hw,hc i j c,k _ H (s.pop.pop.scal (hg i j))⟩
theorem wN {gV:Int->Int->V} {g:Int->Int->PV} (hg:∀i j Z,Rep K Z (g i j) (gV i j)):iM K (qT gV) (sU (λ_ _=>true) g):=by intro H0 Z0 σ ρ pd H v w x y l Q s e k;obtain⟨i,j,rfl,rfl,c,rfl⟩:=Gz e;obtain⟨_,rw'⟩:=s.repH;obtain⟨_,rv'⟩:=s.pop.repH;exact⟨i,j,bK rv',bK rw',k _ H (s.pop.pop.scal (hg i j))⟩
end
section
variable {X:Cx}
section
variable {K:FG} {H0 H H':Hp} {Z0 Z:ZG} {σ:L2.St} {ρ:Ev} {pd pd':Pd} {v w:V} {l:Lc} {p:PV} {g:List Addr}
theorem SR.newO (h:SR K H0 Z0 σ H ρ pd) {a:Addr} {o:HO} (ha:H a=none) (hp:∀Z,jb H0 Z0 Z H->Slots K H0 Z H (sl Z.g σ ρ pd)->qW K Z (upd H a o) a p):SR K H0 Z0 σ (upd H a o) ρ ((.ref a,.own p)::pd):=by obtain⟨e,Z,hg,z,s⟩:=h;obtain⟨z',s'⟩:=s.new z ha (hp Z z s);exact .mk e hg z' s'
theorem Ft {α:Type} (A B C:List α):List.Perm (A++(B++C)) (B++(A++C)):=by rw[<-aai A B C,<-aai B A C];exact List.perm_append_comm.append_right _
theorem GC {pe:Pd}:List.Perm (sl g σ ρ (pe++pd)) (pe.map (λe=>((some e.1:Option V),(some e.2:Option Lc)))++sl g σ ρ pd):=by unfold sl;rw[aaG];exact((Ft _ _ _).append_left _).trans (Ft _ _ _)
theorem SR.freezeAll:∀{vs:List V} {ls:List Lc} {pd:Pd},SR K H0 Z0 σ H ρ (vs.zip ls++pd)->SR K H0 Z0 σ H ρ (vs.zip (ls.map λl=>.sh l.pv)++pd)
 | [],ls,pd,h=>by simpa using h
 | v::vs,[],pd,h=>by simpa using h
 | v::vs,l::ls,pd,h=>by have h1:SR K H0 Z0 σ H ρ ((v,l)::(vs.zip ls++pd)):=h;have h2:=h1.freeze.perm (pd':=vs.zip ls++((v,.sh l.pv)::pd)) aaZ;have h3:=SR.freezeAll h2;exact h3.perm (pd':=(v,.sh l.pv)::(vs.zip (ls.map λl=>.sh l.pv)++pd)) aaZ.symm
theorem Slots.repl {L:Sl}:∀{vs:List V} {ps:List PV},vs.length=ps.length->Slots K H0 Z H ((vs.zip (ps.map λp=>Lc.sh p)).map (λe=>(some e.1,some e.2))++L)->aH K Z ps vs
 | [],[],_,_=>.nil
 | v::vs,p::ps,e,h=>by have h1:Slots K H0 Z H ((some v,some (.sh p))::((vs.zip (ps.map λp=>Lc.sh p)).map (λe=>(some e.1,some e.2))++L)):=h;obtain⟨x,e1,e2⟩:=h1.1 _ aac;cases e1;exact aH.cons e2 (Slots.repl (by simpa using e) (h1.sub (aaq _ _)))
 | [],p::ps,e,_=>by simp at e
 | v::vs,[],e,_=>by simp at e
theorem SR.repl {vs:List V} {ls:List Lc} (h:SR K H0 Z0 σ H ρ (vs.zip ls++pd)) (e:vs.length=ls.length):σ.length=ρ.vs.length/\∃Z,ρ.mu.length=Z.g.length/\jb H0 Z0 Z H/\aH K Z (ls.map Lc.pv) vs/\Slots K H0 Z H (sl Z.g σ ρ pd):=by
 obtain⟨el,Z,hg,z,s⟩:=h.freezeAll;have hm:(ls.map λl=>Lc.sh l.pv)=(ls.map Lc.pv).map λp=>Lc.sh p:=by rw[aaX]; rfl
 rw[hm]at s;have pm:List.Perm (sl Z.g σ ρ (vs.zip ((ls.map Lc.pv).map λp=>Lc.sh p)++pd)) ((vs.zip ((ls.map Lc.pv).map λp=>Lc.sh p)).map (λe=>(some e.1,some e.2))++sl Z.g σ ρ pd):=GC;have s':=s.perm pm.symm;exact⟨el,Z,hg,z,Slots.repl (by simpa using e) s',s'.sub (abp _ _)⟩
end
theorem yP {α:Type} {l:List α} (h:l.length=1):∃a,l=[a]:=List.length_eq_one_iff.mp h
theorem ln2 {α:Type} {l:List α} (h:l.length=2):∃a b,l=[a,b]:=by
 cases l with
 | nil=>cases h
 | cons a l=>obtain⟨b,rfl⟩:=yP (aby h); exact⟨a,b,rfl⟩
theorem Zc {α:Type} {l:List α} (h:l.length=3):∃a b c,l=[a,b,c]:=by
 cases l with
 | nil=>cases h
 | cons a l=>obtain⟨b,c,rfl⟩:=ln2 (aby h); exact⟨a,b,c,rfl⟩
theorem Zd {α:Type} {l:List α} (h:l.length=4):∃a b c d,l=[a,b,c,d]:=by
 cases l with
 | nil=>cases h
 | cons a l=>obtain⟨b,c,d,rfl⟩:=Zc (aby h); exact⟨a,b,c,d,rfl⟩
theorem ln5 {α:Type} {l:List α} (h:l.length=5):∃a b c d e,l=[a,b,c,d,e]:=by
 cases l with
 | nil=>cases h
 | cons a l=>obtain⟨b,c,d,e,rfl⟩:=Zd (aby h); exact⟨a,b,c,d,e,rfl⟩
def ao:AF:=λρ=>some ([],ρ)
def aj (f:EF) (g:AF):AF:=λρ=>(f ρ).bind λx=>(g x.2).map λy=>(x.1::y.1,y.2)
theorem aq:PA X [] (gQ X.K ao):=PA.imp gP λσ H Q q=>by obtain⟨H0,Z0,ρ,pd,l,ρ',s,f,k⟩:=q;cases f;exact k [] H rfl s
theorem ak {e:Expr} {es:List Expr} {f:EF} {g:AF} (ha:PE X e (tP X.K f)) (hr:PA X es (gQ X.K g)) (hs:starEach (e::es) X.env=(false,eval e X.env)::starEach es X.env:=by rfl):PA X (e::es) (gQ X.K (aj f g)):=PA.imp (b8 ha hr hs) λσ H Q q=>by
 obtain⟨H0,Z0,ρ,pd,l,ρ',s,h,k⟩:=q;unfold aj at h;cases h1:f ρ with
 | none=>rw[h1]at h; cases h
 | some x=>
  rw[h1,aab]at h;cases h2:g x.2 with
  | none=>rw[h2]at h; cases h
  | some y=>
   rw[h2]at h;cases h;refine⟨H0,Z0,ρ,pd,x.1,x.2,s,h1,λv H1 s1=>⟨H0,Z0,x.2,_,y.1,y.2,s1,h2,λvs H2 e2 s2=>?_⟩⟩;refine k (v::vs) H2 (by simp[e2]) (s2.perm (pd':=(v,x.1)::(vs.zip y.1++pd)) aaZ.symm)
def bx (g:AF):EF:=λρ=>(g ρ).bind λy=>if y.1.length<=1000 then some (.own (.lst (y.1.map Lc.pv)),y.2) else none
def bG (g:AF):EF:=λρ=>(g ρ).bind λy=>if y.1.length<=1000 then some (.sh (.tup (y.1.map Lc.pv)),y.2) else none
theorem small {n:Nat} (h:n<=100000):n<=sizeLine:=by rw[sizeLine_eq]; omega
theorem fB {es:List Expr} {g:AF} {pos:Pos} (h:PA X es (gQ X.K g)):PE X (.List es pos) (tP X.K (bx g)):=PE.imp (Wn h) λσ H Q q=>by
 obtain⟨H0,Z0,ρ,pd,l,ρ',s,f,k⟩:=q;unfold bx at f;cases h2:g ρ with
 | none=>rw[h2]at f; cases f
 | some y=>
  rw[h2,aab]at f;split at f
  . rename_i hl;cases f;refine⟨H0,Z0,ρ,pd,y.1,y.2,s,h2,λvs H2 e2 s2=>⟨small (by omega),λp hp=>k _ _ ?_⟩⟩;obtain⟨el,Z,hg,z,r,sl'⟩:=s2.repl e2;obtain⟨z',s'⟩:=sl'.new (o:=.lst vs) (p:=.lst (y.1.map Lc.pv)) z hp ⟨vs,bN,r⟩;exact .mk el hg z' s'
  . cases f
theorem fJ {es:List Expr} {g:AF} {x1} {pos:Pos} (h:PA X es (gQ X.K g)):PE X (.Tuple es x1 pos) (tP X.K (bG g)):=PE.imp (Mx h) λσ H Q q=>by
 obtain⟨H0,Z0,ρ,pd,l,ρ',s,f,k⟩:=q;unfold bG at f;cases h2:g ρ with
 | none=>rw[h2]at f; cases f
 | some y=>
  rw[h2,aab]at f;split at f
  . rename_i hl;cases f;refine⟨H0,Z0,ρ,pd,y.1,y.2,s,h2,λvs H2 e2 s2=>⟨small (by omega),λp hp=>k _ _ ?_⟩⟩;obtain⟨el,Z,hg,z,r,sl'⟩:=s2.repl e2;obtain⟨z',sz,s'⟩:=sl'.newF (o:=.tup vs) z hp;refine .mk (Z:=Z.put p (.tup vs)) el hg z' (s'.consS ?_);unfold Rep;exact⟨p,vs,rfl,cM.of bN,r.mono sz⟩
  . cases f
def tT (f:EF) (tr:PV->Option Bool):TF:=λρ=>(f ρ).bind λx=>(tr x.1.pv).map λb=>(b,x.2)
def gW:PV->Option Bool
 | .non=>some false
 | .bl b=>some b
 | .int i=>some (i != 0)
 | .str x=>if x.length<=100000 then some ((x.length:Int) != 0) else none
 | .tup ps=>some (!ps.isEmpty)
 | .lst ps=>some (!ps.isEmpty)
 | .dk ks ps=>some (!ps.isEmpty)
 | _=>none
theorem ZS {H:Hp} {g:List Addr} {p:PV} {v:V} {b:Bool} (r:Rep K ⟨H,g⟩ p v) (h:gW p=some b):Qj K v H b:=by
 cases p with
 | non=>have:=gA r; subst this; cases h; exact rfl
 | bl c=>have:=dB r; subst this; cases h; exact rfl
 | int i=>have:=bK r; subst this; cases h; exact rfl
 | str x=>
  have:=cZ r; subst this;have h:(if x.length<=100000 then some ((x.length:Int) != 0) else none)=some b:=h;split at h
  . rename_i hl; cases h; exact⟨small hl,rfl⟩
  . cases h
 | tup ps=>
  unfold Rep at r;obtain⟨a,vs,rfl,h1,h2⟩:=r;cases h;refine .inr (.inl ⟨vs,h1,?_⟩);have:=h2.length;cases ps<;>cases vs<;>simp at this<;>rfl
 | lst ps=>
  unfold Rep at r;obtain⟨a,vs,rfl,h1,h2⟩:=r;cases h;refine .inl ⟨vs,h1,?_⟩;have:=h2.length;cases ps<;>cases vs<;>simp at this<;>rfl
 | dk ks ps=>
  unfold Rep at r;obtain⟨a,kvs,rfl,h1,h3,h2⟩:=r;cases h;refine .inr (.inr ⟨kvs,h1,?_⟩);have:=h2.length;cases ps<;>cases kvs<;>simp at this<;>rfl
 | _=>cases h
theorem Jp {f:EF} {tr:PV->Option Bool} {ρ ρ':Ev} {b:Bool} (h:tT f tr ρ=some (b,ρ')):∃x,f ρ=some (x,ρ')/\tr x.pv=some b:=by
 unfold tT at h;cases h1:f ρ with
 | none=>rw[h1]at h; cases h
 | some x=>
  rw[h1,aab]at h;cases h2:tr x.1.pv with
  | none=>rw[h2]at h; cases h
  | some y=>rw[h2]at h; cases h; exact⟨x.1,rfl,h2⟩
theorem lW {a:Expr} {f:EF} (ha:PE X a (tP X.K f)) (he:∀whole,isTrue a X.env whole=(do let v <-whole; standAt a.pos; holding [v] (truthy v))):PT X a (ig X.K (tT f gW)):=PT.imp (Gh ha he) λσ H Q q=>by obtain⟨H0,Z0,ρ,pd,b,ρ',s,f',k⟩:=q;obtain⟨x,h1,h2⟩:=Jp f';refine⟨H0,Z0,ρ,pd,x,ρ',s,h1,λv H1 s1=>⟨b,ZS s1.freeze.repH.choose_spec h2,k H1 s1.pop⟩⟩
def bA:PV->Option Bool
 | .bl b=>some b
 | _=>none
theorem Ld {a:Expr} {f:EF} (ha:PT X a (Ku (tP X.K f))):PT X a (ig X.K (tT f bA)):=PT.imp ha λσ H Q q=>by
 obtain⟨H0,Z0,ρ,pd,b,ρ',s,f',k⟩:=q;obtain⟨x,h1,h2⟩:=Jp f';refine⟨H0,Z0,ρ,pd,x,ρ',s,h1,λv H1 s1=>⟨b,?_,k H1 s1.pop⟩⟩;obtain⟨_,r⟩:=s1.freeze.repH;cases e:x.pv with
 | bl c=>rw[e]at h2 r; cases h2; exact dB r
 | _=>rw[e]at h2; cases h2
theorem bZ {op:CmpOp} {a b:Expr} {pos:Pos} {r:R2} {g:PV->PV->Option Lc} {fa fb:EF} (ho:d7 X (compareOp op) r) (hs:iM X.K r g) (ha:PE X a (tP X.K fa)) (hb:PE X b (tP X.K fb)) (hm:behindInMarks op b=false):PT X (.Compare a [op] [b] pos) (ig X.K (tT (aB g fa fb) bA)):=
 Ld (PT.imp (Jh ho ha hb hm) λσ H Q q=>Gy hs σ H _ q)
def gG (f g:TF):TF:=λρ=>(f ρ).bind λx=>if x.1=true then g x.2 else some (false,x.2)
def wO (f g:TF):TF:=λρ=>(f ρ).bind λx=>if x.1=true then some (true,x.2) else g x.2
def qu (f:TF):TF:=λρ=>(f ρ).map λx=>(!x.1,x.2)
theorem Up {f g:TF}:∀σ H Q,ig X.K (gG f g) σ H Q->VN (ig X.K f) (ig X.K g) σ H Q:=λσ H Q q=>by
 obtain⟨H0,Z0,ρ,pd,b,ρ',s,h,k⟩:=q;unfold gG at h;cases h1:f ρ with
 | none=>rw[h1]at h; cases h
 | some x=>
  rw[h1,aab]at h;refine⟨H0,Z0,ρ,pd,x.1,x.2,s,h1,λH1 s1=>?_⟩;dsimp only;split
  . rename_i c; rw[aca c]at h; exact⟨H0,Z0,x.2,pd,b,ρ',s1,h,k⟩
  . rename_i c; rw[acb c]at h; cases h; exact k H1 s1
theorem WT {f g:TF}:∀σ H Q,ig X.K (wO f g) σ H Q->Za (ig X.K f) (ig X.K g) σ H Q:=λσ H Q q=>by
 obtain⟨H0,Z0,ρ,pd,b,ρ',s,h,k⟩:=q;unfold wO at h;cases h1:f ρ with
 | none=>rw[h1]at h; cases h
 | some x=>
  rw[h1,aab]at h;refine⟨H0,Z0,ρ,pd,x.1,x.2,s,h1,λH1 s1=>?_⟩;dsimp only;split
  . rename_i c; rw[aca c]at h; cases h; exact k H1 s1
  . rename_i c; rw[acb c]at h; exact⟨H0,Z0,x.2,pd,b,ρ',s1,h,k⟩
theorem yh {a:Expr} {f:TF} {pos:Pos} (ha:PT X a (ig X.K f)):PW X (.BoolOp .And [a] pos) (ig X.K f):=Tt ha
theorem Nq {a:Expr} {f:TF} {pos:Pos} (ha:PT X a (ig X.K f)):PW X (.BoolOp .Or [a] pos) (ig X.K f):=VP ha
theorem Ax {a b:Expr} {rest:List Expr} {f g:TF} {pos:Pos} (ha:PT X a (ig X.K f)) (hb:PW X (.BoolOp .And (b::rest) pos) (ig X.K g)):PW X (.BoolOp .And (a::b::rest) pos) (ig X.K (gG f g)):=PW.imp (V0 ha hb) Up
theorem Sd {a b:Expr} {rest:List Expr} {f g:TF} {pos:Pos} (ha:PT X a (ig X.K f)) (hb:PW X (.BoolOp .Or (b::rest) pos) (ig X.K g)):PW X (.BoolOp .Or (a::b::rest) pos) (ig X.K (wO f g)):=PW.imp (Yp ha hb) WT
theorem Nr {a:Expr} {f:TF} {pos:Pos} (ha:PT X a (ig X.K f)):PT X (.UnaryOp .Not a pos) (ig X.K (qu f)):=PT.imp (V1 ha) λσ H Q q=>by
 obtain⟨H0,Z0,ρ,pd,b,ρ',s,h,k⟩:=q;unfold qu at h;cases h1:f ρ with
 | none=>rw[h1]at h; cases h
 | some x=>
  rw[h1]at h;cases h;exact⟨H0,Z0,ρ,pd,x.1,x.2,s,h1,λH1 s1=>k H1 s1⟩
def gB (f g:EF):EF:=λρ=>(f ρ).bind λx=>match x.1.pv with
 | .bl true=>g x.2
 | .bl false=>some (.sh (.bl false),x.2)
 | _=>none
def tU (f:EF):EF:=λρ=>(f ρ).bind λx=>match x.1.pv with
 | .bl b=>some (.sh (.bl (!b)),x.2)
 | _=>none
theorem wQ {op} {a:Expr} {f:EF} {pos:Pos} (h:PE X a (tP X.K f)):PE X (.BoolOp op [a] pos) (tP X.K f):=V2 h
theorem qY {a b:Expr} {rest:List Expr} {f g:EF} {pos:Pos} (ha:PE X a (tP X.K f)) (hb:PE X (.BoolOp .And (b::rest) pos) (tP X.K g)):PE X (.BoolOp .And (a::b::rest) pos) (tP X.K (gB f g)):=PE.imp (V3 ha hb) λσ H Q q=>by
 obtain⟨H0,Z0,ρ,pd,b,ρ',s,h,k⟩:=q;unfold gB at h;cases h1:f ρ with
 | none=>rw[h1]at h; cases h
 | some x=>
  rw[h1,aab]at h;refine⟨H0,Z0,ρ,pd,x.1,x.2,s,h1,λv H1 s1=>?_⟩;obtain⟨_,r⟩:=s1.freeze.repH;split at h
  . rename_i e;rw[e]at r;refine⟨true,dB r,?_⟩;rw[aca rfl];exact⟨H0,Z0,x.2,pd,b,ρ',s1.pop,h,k⟩
  . rename_i e;rw[e]at r;refine⟨false,dB r,?_⟩;rw[acb aaS];cases h;exact k _ H1 (s1.pop.scal dW)
  . cases h
theorem QR {a:Expr} {f:EF} {pos:Pos} (ha:PE X a (tP X.K f)):PE X (.UnaryOp .Not a pos) (tP X.K (tU f)):=PE.imp (V4 ha) λσ H Q q=>by
 obtain⟨H0,Z0,ρ,pd,b,ρ',s,h,k⟩:=q;unfold tU at h;cases h1:f ρ with
 | none=>rw[h1]at h; cases h
 | some x=>
  rw[h1,aab]at h;refine⟨H0,Z0,ρ,pd,x.1,x.2,s,h1,λv H1 s1=>?_⟩;obtain⟨_,r⟩:=s1.freeze.repH;split at h
  . rename_i c e;rw[e]at r;cases h;exact⟨c,dB r,k _ H1 (s1.pop.scal dW)⟩
  . cases h
def pB (c:TF) (f g:EF):EF:=λρ=>(c ρ).bind λx=>if x.1=true then f x.2 else g x.2
theorem Jq {c a b:Expr} {fc:TF} {f g:EF} {pos:Pos} (hc:PT X c (ig X.K fc)) (ha:PE X a (tP X.K f)) (hb:PE X b (tP X.K g)):PE X (.IfExp c a b pos) (tP X.K (pB fc f g)):=PE.imp (P0 hc ha hb) λσ H Q q=>by
 obtain⟨H0,Z0,ρ,pd,b,ρ',s,h,k⟩:=q;unfold pB at h;cases h1:fc ρ with
 | none=>rw[h1]at h; cases h
 | some x=>
  rw[h1,aab]at h;refine⟨H0,Z0,ρ,pd,x.1,x.2,s,h1,λH1 s1=>?_⟩;dsimp only;split
  . rename_i c; rw[aca c]at h; exact⟨H0,Z0,x.2,pd,b,ρ',s1,h,k⟩
  . rename_i c; rw[acb c]at h; exact⟨H0,Z0,x.2,pd,b,ρ',s1,h,k⟩
def cV:SF:=λρ=>some (.nx ρ)
def aK (f g:SF):SF:=λρ=>(f ρ).bind λx=>match x with
 | .nx ρ'=>g ρ'
 | y=>some y
theorem bO:iK X [] (fV X.K cV):=iK.imp Tu λD σ H q=>by obtain⟨H0,Z0,ρ,pd,fl,s,h,k⟩:=q;cases h;exact k σ H s
theorem az {st:Stmt} {rest:List Stmt} {f g:SF} (h1:PS X st (fV X.K f)) (h2:iK X rest (fV X.K g)):iK X (st::rest) (fV X.K (aK f g)):=iK.imp (Qa h1 h2) λD σ H q=>by
 obtain⟨H0,Z0,ρ,pd,fl,s,h,k⟩:=q;unfold aK at h;cases e:f ρ with
 | none=>rw[e]at h; cases h
 | some x=>
  rw[e,aab]at h;refine⟨H0,Z0,ρ,pd,x,s,e,?_⟩;cases x with
  | nx ρ'=>exact λσ' H' s'=>⟨H0,Z0,ρ',pd,fl,s',h,k⟩
  | rt r ρ'=>cases h; exact k
  | bk ρ'=>cases h; exact k
  | ct ρ'=>cases h; exact k
theorem aC {st:Stmt} {f:SF} (h1:PS X st (fV X.K f)):iK X [st] (fV X.K f):=Tv h1
def dC (f:EF):SF:=λρ=>(f ρ).map λx=>.nx x.2
theorem acj {α β:Type} {o:Option α} {f:α->β} {b:β} (h:o.map f=some b):∃a,o=some a/\f a=b:=by
 cases o with
 | none=>cases h
 | some a=>exact⟨a,rfl,aaA h⟩
theorem aci {α β:Type} {o:Option α} {f:α->Option β} {b:β} (h:o.bind f=some b):∃a,o=some a/\f a=some b:=by
 cases o with
 | none=>cases h
 | some a=>exact⟨a,rfl,h⟩
theorem fP {e:Expr} {pos:Pos} {f:EF} (he:PE X e (tP X.K f)) (hs:swapsWith e none pos.line X.env=pure false:=by rfl):PS X (.Expr e pos) (fV X.K (dC f)):=PS.imp (eF he hs) λD σ H q=>by obtain⟨H0,Z0,ρ,pd,fl,s,h,k⟩:=q;obtain⟨x,h1,rfl⟩:=acj h;exact⟨H0,Z0,ρ,pd,x.1,x.2,s,h1,λv H' s'=>k σ H' s'.pop⟩
def bT (f:EF):SF:=λρ=>(f ρ).map λx=>.rt x.1 x.2
theorem bj {e:Expr} {pos:Pos} {f:EF} (he:PE X e (tP X.K f)):PS X (.Return (some e) pos) (fV X.K (bT f)):=PS.imp (Mj he) λD σ H q=>by obtain⟨H0,Z0,ρ,pd,fl,s,h,k⟩:=q;obtain⟨x,h1,rfl⟩:=acj h;exact⟨H0,Z0,ρ,pd,x.1,x.2,s,h1,λv H' s'=>k v σ H' s'⟩
def sV (i:Nat):SF:=λρ=>match ρ.vs[i]? with
 | some (some l)=>some (.rt l (ρ.set i none))
 | _=>none
theorem qM {i:Nat} {e:Expr} {pos:Pos} (he:PE X e (qQ i)):PS X (.Return (some e) pos) (fV X.K (sV i)):=PS.imp (Mj he) λD σ H q=>by
 obtain⟨H0,Z0,ρ,pd,fl,s,h,k⟩:=q;unfold sV at h;split at h
 . rename_i l e1;cases h;obtain⟨v,h1,h2⟩:=s.take e1;exact⟨v,h1,k v σ H h2⟩
 . cases h
def Sq:SF:=λρ=>some (.rt (.sh .non) ρ)
theorem Uq {pos:Pos}:PS X (.Return none pos) (fV X.K Sq):=PS.imp Tz λD σ H q=>by obtain⟨H0,Z0,ρ,pd,fl,s,h,k⟩:=q;cases h;exact k .non σ H (s.scal uA)
def cO (c:TF) (f g:SF):SF:=λρ=>(c ρ).bind λx=>if x.1=true then f x.2 else g x.2
theorem cC {c:Expr} {a b:List Stmt} {fc:TF} {f g:SF} {pos:Pos} (hc:PT X c (ig X.K fc)) (ha:iK X a (fV X.K f)) (hb:iK X b (fV X.K g)):PS X (.If c a b pos) (fV X.K (cO fc f g)):=PS.imp (Yu hc ha hb) λD σ H q=>by
 obtain⟨H0,Z0,ρ,pd,fl,s,h,k⟩:=q;obtain⟨x,h1,h2⟩:=aci h;refine⟨H0,Z0,ρ,pd,x.1,x.2,s,h1,λH1 s1=>?_⟩;dsimp only;split
 . rename_i c; rw[aca c]at h2; exact⟨H0,Z0,x.2,pd,fl,s1,h2,k⟩
 . rename_i c; rw[acb c]at h2; exact⟨H0,Z0,x.2,pd,fl,s1,h2,k⟩
def aV (i:Nat) (f:EF):SF:=λρ=>(f ρ).bind λx=>if i<x.2.vs.length then some (.nx (x.2.set i (some x.1))) else none
theorem Jr {i:Nat} {f:EF} {t:TS} (h:∀D σ H,(tP X.K f σ H λv H1=>D.nx (σ.set i (some v)) H1)->t D σ H):∀D σ H,fV X.K (aV i f) D σ H->t D σ H:=λD σ H q=>by
 obtain⟨H0,Z0,ρ,pd,fl,s,h',k⟩:=q;obtain⟨x,h1,h2⟩:=aci h';split at h2
 . rename_i hl;cases h2;exact h D σ H ⟨H0,Z0,ρ,pd,x.1,x.2,s,h1,λv H1 s1=>k _ _ (s1.store hl)⟩
 . cases h2
theorem Nt {i:Nat} {x:Str} {e:Expr} {pos pos':Pos} {f:EF} (hN:X.N.Nodup) (hi:X.N[i]?=some x) (hx:L2.Loc X.env.scope x) (he:PE X e (tP X.K f)) (hs:swapsWith e (some (.Name x pos')) pos.line X.env=pure false:=by rfl) (hf:X.fn x=true\/X.env.scope.names.lookup x=some .local:=by first | exact .inl rfl | exact .inr rfl | assumption):
 PS X (.Assign [.Name x pos'] e pos) (fV X.K (aV i f)):=PS.imp (V8 hN hi hx he hs hf) (Jr λD σ H q=>q)
abbrev GF:=List PV->Mu->Option (Lc×Mu)
def lr (H:Hp) (g:List Addr):Hp:=λb=>if b∈g then none else H b
theorem Ur {H:Hp} {g:List Addr} {b:Addr} {o:HO} (h:lr H g b=some o):H b=some o/\b∉g:=by
 unfold lr at h;split at h
 . cases h
 . rename_i q; exact⟨h,q⟩
theorem QT {H:Hp} {g:List Addr} {b:Addr} (h:b∈g):lr H g b=none:=by unfold lr; rw[aca h]
theorem GD {H:Hp} {g:List Addr} {b:Addr} (h:b∉g):lr H g b=H b:=by unfold lr; rw[acb h]
def WX (K:FG) (H:Hp) (Z:ZG) (g:List Addr) (H':Hp) (mu':Mu) (v:V) (r:Lc):Prop:=∃Z',mu'.length=Z'.g.length/\jb (lr H g) Z Z' H'/\Slots K (lr H g) Z' H' ((some v,some r)::cel Z'.g mu')
def bU (K:FG) (n:Nat) (g:GF):Sp:=λvs H Q _=>∃(Z:ZG) (ps:List PV) (mu:Mu) (r:Lc) (mu':Mu),vs.length=n/\mu.length=Z.g.length/\du Z.z H/\aH K Z ps vs/\Slots K (lr H (qX Z.g mu)) Z H (cel Z.g mu)/\g ps mu=some (r,mu')/\∀v H',WX K H Z (qX Z.g mu) H' mu' v r->Q v H'
def aJ (g:GF) (a:AF):EF:=λρ=>(a ρ).bind λy=>(g (y.1.map Lc.pv) y.2.mu).map λr=>(r.1,⟨y.2.vs,r.2⟩)
theorem Us {g:List Addr} {mu:Mu} {e:Option V×Option Lc} (he:e∈cel g mu):∃a,e.1=some (.ref a)/\(e.2=none\/∃p,e.2=some (.own p)):=by
 unfold cel at he;obtain⟨v,l⟩:=e;obtain⟨h1,h2⟩:=abh he;obtain⟨a,_,e1⟩:=aaH.mp h1;obtain⟨o,_,e2⟩:=aaH.mp h2;refine⟨a,e1.symm,?_⟩;cases o with
 | none=>exact .inl e2.symm
 | some p=>exact .inr ⟨p,e2.symm⟩
theorem Slots.cells {Z:ZG} (hg:ρ.mu.length=Z.g.length) (s:Slots K H0 Z H (sl Z.g σ ρ pd)):Slots K (lr H (qX Z.g ρ.mu)) Z H (cel Z.g ρ.mu):=by
 have s1:Slots K H0 Z H (cel Z.g ρ.mu):=s.sub (aa5 _ _);refine⟨λe he=>?_,s1.2⟩;obtain⟨a,h1,h2⟩:=Us he;obtain⟨v,l⟩:=e;have h1':v=some (.ref a):=h1;subst h1';rcases h2 with h2 | ⟨p,h2⟩
 . have h2':l=none:=h2;subst h2'; trivial
 . have h2':l=some (.own p):=h2;subst h2';obtain⟨b,e1,e2,e3,e4⟩:=s1.1 _ he;cases e1;exact⟨a,rfl,e2,e3,QT (aa1.mpr ⟨_,he,rfl⟩)⟩
theorem SR.called {H0 H H':Hp} {Z0 Z:ZG} {v:V} {r:Lc} {mu':Mu} (el:σ.length=ρ.vs.length) (hg:ρ.mu.length=Z.g.length) (z:jb H0 Z0 Z H) (s:Slots K H0 Z H (sl Z.g σ ρ pd)) (h:WX K H Z (qX Z.g ρ.mu) H' mu' v r):SR K H0 Z0 σ H' ⟨ρ.vs,mu'⟩ ((v,r)::pd):=by
 obtain⟨Z',hg',z',q⟩:=h;have s1:Slots K H0 Z H (cel Z.g ρ.mu):=s.sub (aa5 _ _);have s0:Slots K H0 Z H (σ.zip ρ.vs++pd.map λe=>(some e.1,some e.2)):=s.sub (abp _ _);have nd:(qX Z.g ρ.mu++(σ.zip ρ.vs++pd.map λe=>(some e.1,some e.2)).filterMap kE).Nodup:=by have:=s.2;unfold sl at this;rw[List.filterMap_append]at this;exact this
 have hc0:∀a∈qX Z.g ρ.mu,H0 a=none:=λa ha=>by obtain⟨e,he,hb⟩:=aa1.mp ha;exact(jc s1 he hb).2.1
 have h0:du H0 (lr H (qX Z.g ρ.mu)):=λb o e=>by rw[GD λhm=>by rw[hc0 b hm]at e; cases e];exact z.h0 b o e
 have z2:jb H0 Z0 Z' H':=⟨z'.zh,h0.trans z'.h0,z.z0.trans z'.z0,λb o e=>by
  rcases z'.new b o e with e | e | e
  . exact z.new b o e
  . exact .inr (.inl (h0.free e))
  . exact .inr (.inr e)⟩
 have nog:∀e∈(σ.zip ρ.vs++pd.map λe=>((some e.1:Option V),(some e.2:Option Lc))),∀a,kE e=some a->a∉qX Z.g ρ.mu/\lr H (qX Z.g ρ.mu) a=H a:=λe he a ha=>by have hn:a∉qX Z.g ρ.mu:=λhm=>(abI.mp nd).2.2 a hm a (aa1.mpr ⟨e,he,ha⟩) rfl;exact⟨hn,GD hn⟩
 have hk:∀e∈(σ.zip ρ.vs++pd.map λe=>((some e.1:Option V),(some e.2:Option Lc))),∀a,kE e=some a->H' a=H a/\Z'.z a=none:=λe he a ha=>by
  obtain⟨h1,h2,o,h3,h4⟩:=jc s0 he ha;obtain⟨hn,ho⟩:=nog e he a ha;have h5:=z'.h0 a o (by rw[ho]; exact h3);refine⟨by rw[h3]; exact h5,?_⟩;cases q:Z'.z a with
  | none=>rfl
  | some u=>
   rcases z'.new a u q with e | e | e
   . rw[h1]at e; cases e
   . rw[ho,h3]at e; cases e
   . have:=z'.zh a u q;rw[h5]at this; cases this;exact(h4 e).elim
 have s2:=s0.step z'.z0 hk;have q':Slots K H0 Z' H' ((some v,some r)::cel Z'.g mu'):=by
  refine⟨λe he=>?_,q.2⟩;have:=q.1 e he;obtain⟨w,l⟩:=e;cases l with
  | none=>trivial
  | some l=>
   cases l with
   | sh p=>exact this
   | own p=>obtain⟨a,e1,e2,e3,e4⟩:=this; exact⟨a,e1,e2,e3,h0.free e4⟩
 have dis:∀e∈((some v,some r)::cel Z'.g mu'),∀a,kE e=some a->∀e'∈(σ.zip ρ.vs++pd.map λe=>((some e.1:Option V),(some e.2:Option Lc))),kE e'≠some a:=λe he a ha e' he' ha'=>by obtain⟨_,h2,_⟩:=jc q he ha;obtain⟨_,_,o,h3,_⟩:=jc s0 he' ha';rw[(nog e' he' a ha').2,h3]at h2; cases h2
 refine .mk (Z:=Z') el hg' z2 ?_;refine⟨λe he=>?_,?_⟩
 . rcases aaj.mp he with rfl | he
   . exact q'.1 _ aac
   . rcases aaC.mp he with he | he
     . exact q'.1 _ (aak _ he)
     . exact s2.1 e he
 . show (((some v,some r)::(cel Z'.g mu'++(σ.zip ρ.vs++pd.map λe=>(some e.1,some e.2)))).filterMap kE).Nodup;rw[<-abe,List.filterMap_append];refine abI.mpr ⟨q'.2,s2.2,λa ha b hb e=>?_⟩;subst e;obtain⟨e1,he1,h1⟩:=aa1.mp ha;obtain⟨e2,he2,h2⟩:=aa1.mp hb;exact dis e1 he1 a h1 e2 he2 h2
theorem QV {n:Nat} {g:GF} {a:AF} {E:XK}:∀σ H Q,(∃H0 Z0 ρ pd r ρ',SR X.K H0 Z0 σ H ρ pd/\aJ g a ρ=some (r,ρ')/\(∀ls ρ1,a ρ=some (ls,ρ1)->ls.length=n)/\∀v H',SR X.K H0 Z0 σ H' ρ' ((v,r)::pd)->Q v H')->KJ (bU X.K n g) [] E (gQ X.K a) σ H Q:=λσ H Q q=>by
 obtain⟨H0,Z0,ρ,pd,r,ρ',s,h,hn,k⟩:=q;obtain⟨y,h1,h2⟩:=aci h;obtain⟨r',h3,h4⟩:=acj h2;cases h4;refine⟨H0,Z0,ρ,pd,y.1,y.2,s,h1,λvs H2 e2 s2=>?_⟩;obtain⟨el,Z,hg,z,rl,sl'⟩:=s2.repl e2;refine⟨Z,y.1.map Lc.pv,y.2.mu,_,_,?_,hg,z.zh,?_,sl'.cells hg,h3,λv H' rr=>k v H' (SR.called el hg z sl' rr)⟩
 . rw[aau,e2]; exact hn _ _ h1
 . rw[aau]; exact rl
end
section
variable {P:Program} {w:World} {K:FG} {mg:Str->Option Value} {base:Heap}
def cN (K:FG) (mg:Str->Option Value) (x:Str) (st:Stmt) (ps:List Str):Prop:=∃f fd,sJ K x x st f fd/\mg x=some (.ref f)/\Binds K fd ps []
def GJ (b:Bool) (P:Program) (w:World) (K:FG) (mg:Str->Option Value) (base:Heap) (x:Str) (k:Nat) (ps:List Str) (sp:Sp):Prop:=∃f fd,qp b P w K mg base ou k f fd ps sp/\mg x=some (.ref f)/\W.keepIn K (.ref f)=true/\Binds K fd ps []
abbrev bV:=GJ true
def env0 (n:Nat) (ps:List PV) (mu:Mu):Ev:=⟨ps.map (λp=>some (Lc.sh p))++List.replicate (n-ps.length) none,mu⟩
def cH (n:Nat) (g:SF):GF:=λps mu=>(g (env0 n ps mu)).bind λx=>match x with
 | .rt r ρ=>some (r,ρ.mu)
 | .nx ρ=>some (.sh .non,ρ.mu)
 | _=>none
theorem Js {Z:ZG} {L:Sl} (s:Slots K H0 Z H L):∀{ps:List PV} {vs:List V},aH K Z ps vs->Slots K H0 Z H ((vs.map some).zip (ps.map λp=>some (Lc.sh p))++L)
 | [],vs,h=>by have:=h.inv0; subst this; simpa using s
 | p::ps,vs,h=>by obtain⟨v,r,rfl,h1,h2⟩:=h.inv;exact(Js s h2).consS h1
theorem nones {Z:ZG} {L:Sl} (s:Slots K H0 Z H L):∀n:Nat,Slots K H0 Z H ((List.replicate n (none:Option V)).zip (List.replicate n (none:Option Lc))++L)
 | 0=>s
 | n+1=>by
  rw[List.replicate_succ,List.replicate_succ,aa8,abe];have ih:=nones s n;refine⟨λe he=>?_,?_⟩
  . rcases aaj.mp he with rfl | he
    . trivial
    . exact ih.1 e he
  . rw[aaV rfl]; exact ih.2
theorem zj {H:Hp} {Z:ZG} {ps:List PV} {mu:Mu} {vs:List V} {N:List Str} (hg:mu.length=Z.g.length) (z:du Z.z H) (r:aH K Z ps vs) (c:Slots K (lr H (qX Z.g mu)) Z H (cel Z.g mu)):SR K (lr H (qX Z.g mu)) Z (L2.start N vs) H (env0 N.length ps mu) []:=by have hl:=r.length;refine⟨by simp[L2.start,env0,hl],Z,hg,⟨z,λb o e=>(Ur e).1,f9.refl _,λb o e=>.inl e⟩,?_⟩;unfold sl L2.start env0;rw[abk (by simp[hl]),abx,aau,hl];exact(Js (nones c _) r).perm ((abl).trans (by rw[aai]))
theorem cN.ok {b:Bool} {x:Str} {st:Stmt} {N ps:List Str} {k:Nat} {g:GF} (F:cN K mg x st ps) (S:aR N ps (aF st))
 (h:∀(f:Addr) (cdv:Value) (A:Around) (outer:List PySem.Env) (s:Shared) (H:Hp) (E:XK),eO b k (A.deeper (envOfC x (aF st) s.heap.objs.size f cdv))->
   ∃g':SF,(∀a mu,g a mu=cH N.length g' a mu)/\iK (sI b ou P w K mg base N x (aF st) f cdv A outer s H E).nox (iU st) (fV K g')):GJ b P w K mg base x (k+1) ps (bU K ps.length g):=by
 obtain⟨f,fd,F,hm,hb⟩:=F;refine⟨f,fd,F.ok S (λvs H Q E q=>?_) (λcdv A outer s H vs Q E hr q=>?_),hm,F.kp,hb⟩
 . obtain⟨Z,qs,mu,r,mu',e,_⟩:=q; exact e
 . obtain⟨g',eg,b⟩:=h f cdv A outer s H E hr;obtain⟨Z,qs,mu,r,mu',e,hg,z,rl,c,hr',kk⟩:=q;rw[eg]at hr';obtain⟨fl,h1,h2⟩:=aci hr';refine⟨_,b,lr H (qX Z.g mu),Z,_,[],fl,zj hg z rl c,h1,?_⟩;cases fl with
   | rt r' ρ'=>
    cases h2;intro v σ' H' s';obtain⟨el,Z',hg',z',s''⟩:=s'.top;refine kk v H' ⟨Z',hg',z',s''.sub ?_⟩;exact(aa5 _ _).cons_cons _
   | nx ρ'=>
    cases h2;intro σ' H' s';obtain⟨el,Z',hg',z',s''⟩:=s';exact kk .non H' ⟨Z',hg',z',(s''.sub (aa5 _ _)).consS (uA _)⟩
   | bk ρ'=>cases h2
   | ct ρ'=>cases h2
end
section
variable {X:Cx}
theorem bM {b:Bool} {x:Str} {k:Nat} {ps:List Str} {g:GF} {e:Expr} {es:List Expr} {a:AF} {p pos:Pos} (D:GJ b X.prog X.w X.K X.mg X.base x k ps (bU X.K ps.length g)) (hr:eO b k X.A) (hg:Gl X x)
 (ha:PA X (e::es) (gQ X.K a)) (hn:∀ρ ls ρ1,a ρ=some (ls,ρ1)->ls.length=ps.length) (hdb:(x==("__debug__" : Str))=false:=by decide) (he:starEach (e::es) X.env=(false,eval e X.env)::starEach es X.env:=by rfl) (hpl:(backTo pos (starEach es X.env)).any (·.1)=false:=by rfl):PE X (.Call (.Name x p) (e::es) [] pos) (tP X.K (aJ g a)):=by
 obtain⟨f,fd,F,hm,hk,hb⟩:=D;refine PE.imp (Ji (E:=E0) F hr hg hm hk hb .nil Ae ha hdb he hpl) λσ H Q q=>?_;obtain⟨H0,Z0,ρ,pd,r,ρ',s,h,kk⟩:=q;exact QV σ H Q ⟨H0,Z0,ρ,pd,r,ρ',s,h,λls ρ1 e=>hn ρ ls ρ1 e,kk⟩
section
variable {K:FG} {H0 H H':Hp} {Z0 Z:ZG} {σ:L2.St} {ρ:Ev} {pd pd':Pd} {v w:V} {l:Lc} {p:PV}
theorem SR.sub (h:SR K H0 Z0 σ H ρ pd') (q:List.Sublist pd pd'):SR K H0 Z0 σ H ρ pd:=
 let ⟨e,Z,hg,z,s⟩:=h
 ⟨e,Z,hg,z,s.sub ((abw _).append ((abw _).append (q.map _)))⟩
theorem SR.dup (h:SR K H0 Z0 σ H ρ ((v,.sh p)::pd)):SR K H0 Z0 σ H ρ ((v,.sh p)::(v,.sh p)::pd):=by obtain⟨e,Z,hg,z,s⟩:=h.top;obtain⟨x,e1,e2⟩:=s.1 _ aac;cases e1;exact .mk e hg z ((s.perm cg).consS e2)
theorem SR.part {u:V} {q:PV} (h:SR K H0 Z0 σ H ρ ((v,.sh p)::pd)) (k:∀Z:ZG,du Z.z H->Rep K Z p v->Rep K Z q u):SR K H0 Z0 σ H ρ ((u,.sh q)::(v,.sh p)::pd):=by obtain⟨e,Z,hg,z,s⟩:=h.top;obtain⟨x,e1,e2⟩:=s.1 _ aac;cases e1;exact .mk e hg z ((s.perm cg).consS (k Z z.zh e2))
end
abbrev BF:=PV->Ev->Option Ev
def GS (K:FG) (g:TG) (b:BF):Prop:=∀H0 Z0 σ H ρ pd v p ρ' Q,SR K H0 Z0 σ H ρ ((v,.sh p)::pd)->b p ρ=some ρ'->(∀σ',SR K H0 Z0 σ' H ρ' pd->Q σ' H)->g v σ H Q
abbrev GK:=List PV->Ev->Option Ev
def Ss (K:FG) (g:v6) (b:GK):Prop:=∀H0 Z0 σ H ρ pd vs ps ρ' Q,vs.length=ps.length->SR K H0 Z0 σ H ρ (vs.zip (ps.map Lc.sh)++pd)->b ps ρ=some ρ'->(∀σ',SR K H0 Z0 σ' H ρ' pd->Q σ' H)->g vs σ H Q
def aG (i:Nat):BF:=λp ρ=>if i<ρ.vs.length then some (ρ.set i (some (.sh p))) else none
theorem bw {i:Nat}:GS K (Fo i) (aG i):=by
 intro H0 Z0 σ H ρ pd v p ρ' Q s h k;unfold aG at h;split at h
 . rename_i hl; cases h; exact k _ (s.store hl)
 . cases h
def fC:GK:=λps ρ=>match ps with
 | []=>some ρ
 | _=>none
def aQ (b:BF) (bs:GK):GK:=λps ρ=>match ps with
 | p::r=>(b p ρ).bind λρ1=>bs r ρ1
 | []=>none
theorem jM:Ss K V6 fC:=by
 intro H0 Z0 σ H ρ pd vs ps ρ' Q e s h k;cases ps with
 | nil=>
  cases h;have:vs=[]:=abS (by simpa using e);subst this;exact⟨rfl,k σ s⟩
 | cons p r=>cases h
theorem bQ {t:TG} {u:v6} {b:BF} {bs:GK} (h1:GS K t b) (h2:Ss K u bs):Ss K (RQ t u) (aQ b bs):=by
 intro H0 Z0 σ H ρ pd vs ps ρ' Q e s h k;cases ps with
 | nil=>cases h
 | cons p r=>
  cases vs with
  | nil=>simp at e
  | cons v ws=>
   obtain⟨ρ1,e1,e2⟩:=aci h;refine⟨v,ws,rfl,h1 H0 Z0 σ H ρ _ v p ρ1 _ s e1 λσ' s'=>?_⟩;exact h2 H0 Z0 σ' H ρ1 pd ws r ρ' Q (by simpa using e) s' e2 k
theorem Nu {Z:ZG} {L:Sl} (s:Slots K H0 Z H L):∀{ps:List PV} {vs:List V},aH K Z ps vs->Slots K H0 Z H ((vs.zip (ps.map Lc.sh)).map (λe=>(some e.1,some e.2))++L)
 | [],vs,h=>by have:=h.inv0; subst this; simpa using s
 | p::ps,vs,h=>by obtain⟨v,r,rfl,h1,h2⟩:=h.inv;exact(Nu s h2).consS h1
theorem SR.items {Z0 Z:ZG} {vs:List V} {ps:List PV} (e:σ.length=ρ.vs.length) (hg:ρ.mu.length=Z.g.length) (z:jb H0 Z0 Z H) (r:aH K Z ps vs) (s:Slots K H0 Z H (sl Z.g σ ρ pd)):SR K H0 Z0 σ H ρ (vs.zip (ps.map Lc.sh)++pd):=
 ⟨e,Z,hg,z,(Nu s r).perm GC⟩
def aan (i j:Nat) (a:AF):SF:=λρ=>(a ρ).bind λy=>match y.1 with
 | [l,m]=>if i<y.2.vs.length/\j<y.2.vs.length then some (.nx ((y.2.set i (some l)).set j (some m))) else none
 | _=>none
def ni (K:FG) (H0:Hp) (Z0:ZG) (pd:Pd) (J:It) (xs:List PV):Prop:=∀σ H ρ (i:Nat),SR K H0 Z0 σ H ρ pd->
 (∀x,xs[i]?=some x->J.go i H/\∀v H',J.yld i H v H'->SR K H0 Z0 σ H' ρ ((v,.sh x)::pd))/\(i=xs.length->J.stop i H)
abbrev IF:=Ev->Option (List PV×Ev)
def Ay (K:FG) (f:IF):TI:=λσ H R=>∃H0 Z0 ρ pd xs ρ',SR K H0 Z0 σ H ρ pd/\f ρ=some (xs,ρ')/\∀J H' pd',SR K H0 Z0 σ H' ρ' pd'->ni K H0 Z0 pd' J xs->List.Sublist pd pd'->R J H'
theorem PI.imp {tg iter:Expr} {t t':TI} (h:PI X tg iter t) (i:∀σ H R,t' σ H R->t σ H R):PI X tg iter t':=λpins s σ H R I q=>h pins s σ H R I (i σ H R q)
def gH (f:EF) (g:PV->Option (List PV)):IF:=λρ=>(f ρ).bind λx=>(g x.1.pv).map λxs=>(xs,x.2)
theorem Nv {H0:Hp} {a:Addr} {ps:List PV}:ni K H0 Z0 ((.ref a,.sh (.lst ps))::pd) (RT K a) ps:=by intro σ H ρ i s;obtain⟨Z,z,r⟩:=s.rep;unfold Rep at r;obtain⟨b,vs,e,h1,h2⟩:=r;cases e;have hq:=bR.same z h1;refine⟨λx hx=>?_,λhl=>⟨vs,hq,by rw[h2.length]; omega⟩⟩;obtain⟨v,hv,rv⟩:=h2.get hx;refine⟨⟨vs,v,hq,hv⟩,λv' H' y=>?_⟩;obtain⟨e',y⟩:=y;subst e';have:=y vs hq;rw[hv]at this; cases this;refine s.part λZ' z' r'=>?_;unfold Rep at r';obtain⟨b',vs',e',h1',h2'⟩:=r';cases e';have:vs'[i]?=some v:=y vs' (bR.same z' h1');obtain⟨p',hp',rp'⟩:=h2'.getV this;rw[hx]at hp'; cases hp';exact rp'
theorem QW {H0:Hp} {a:Addr} {ps:List PV}:ni K H0 Z0 ((.ref a,.sh (.tup ps))::pd) (RV K a) ps:=by intro σ H ρ i s;obtain⟨Z,z,r⟩:=s.rep;unfold Rep at r;obtain⟨b,vs,e,h1,h2⟩:=r;cases e;have hq:=cM.same z h1;refine⟨λx hx=>?_,λhl=>⟨vs,hq,by rw[h2.length]; omega⟩⟩;obtain⟨v,hv,rv⟩:=h2.get hx;refine⟨⟨vs,v,hq,hv⟩,λv' H' y=>?_⟩;obtain⟨e',y⟩:=y;subst e';have:=y vs hq;rw[hv]at this; cases this;refine s.part λZ' z' r'=>?_;unfold Rep at r';obtain⟨b',vs',e',h1',h2'⟩:=r';cases e';have:vs'[i]?=some v:=y vs' (cM.same z' h1');obtain⟨p',hp',rp'⟩:=h2'.getV this;rw[hx]at hp'; cases hp';exact rp'
def zm (lo:Int) (n:Nat):List PV:=(List.range n).map λi=>.int (lo+(i:Nat))
def gJ (a:AF):IF:=λρ=>(a ρ).bind λy=>match y.1.map Lc.pv with
 | [.int j]=>if -(2 ^ 62)<=j/\j<2 ^ 62 then some (zm 0 j.toNat,y.2) else none
 | _=>none
theorem QX {H0:Hp} {lo:Int} {n:Nat}:ni K H0 Z0 pd (RW lo n) (zm lo n):=by
 intro σ H ρ i s;refine⟨λx hx=>?_,λhl=>?_⟩
 . have hi:i<n:=by have:=(aap.mp hx).1;simpa [zm] using this
   refine⟨hi,λv H' y=>?_⟩;obtain⟨rfl,rfl⟩:=y;unfold zm at hx;rw[aaJ,List.getElem?_range hi]at hx;cases hx;exact s.scal dO
 . show n<=i;simp[zm]at hl;omega
theorem SR.ints {vs:List V} {ls:List Lc} {ns:List Int} (s:SR K H0 Z0 σ H ρ (vs.zip ls++pd)) (e:vs.length=ls.length) (h:ls.map Lc.pv=ns.map PV.int):vs=ns.map V.int/\SR K H0 Z0 σ H ρ pd:=by
 obtain⟨el,Z,hg,z,r,sl'⟩:=s.repl e;refine⟨?_,el,Z,hg,z,sl'⟩;rw[h]at r;clear h e s sl';induction ns generalizing vs with
 | nil=>exact r.inv0
 | cons n ns ih=>
  obtain⟨v,w,rfl,h1,h2⟩:=r.inv;rw[bK h1,ih h2];rfl
theorem wR {tg a:Expr} {f:AF} {p pos:Pos} (hg:Gl X "range") (hm:X.mg "range" = none) (ha:PA X [a] (gQ X.K f)) (hs:starEach [a] X.env=[(false,eval a X.env)]:=by rfl):PI X tg (.Call (.Name "range" p) [a] [] pos) (Ay X.K (gJ f)):=PI.imp (Mp hg hm ha hs) λσ H R q=>by
 obtain⟨H0,Z0,ρ,pd,xs,ρ',s,h,k⟩:=q;obtain⟨y,h1,h2⟩:=aci h;refine⟨H0,Z0,ρ,pd,y.1,y.2,s,h1,λvs H1 e1 s1=>?_⟩;split at h2
 . rename_i j e;split at h2
   . rename_i hj;cases h2;obtain⟨rfl,s2⟩:=s1.ints (ns:=[j]) e1 e;exact⟨j,rfl,hj.1,hj.2,k _ _ _ s2 QX (abw _)⟩
   . cases h2
 . cases h2
def gY (b:BF) (body:SF):List PV->SF
 | [],ρ=>some (.nx ρ)
 | x::xs,ρ=>(b x ρ).bind λρ1=>(body ρ1).bind λfl=>match fl with
  | .nx ρ'=>gY b body xs ρ'
  | .ct ρ'=>gY b body xs ρ'
  | .bk ρ'=>some (.nx ρ')
  | .rt r ρ'=>some (.rt r ρ')
def lu (f:IF) (b:BF) (body:SF):SF:=λρ=>(f ρ).bind λy=>gY b body y.1 y.2
theorem CK {P:Prop} (h:∀G:Prop,(P->G)->G):P:=h P id
def FW (K:FG) (H0:Hp) (Z0:ZG) (pd:Pd) (b:BF) (fb:SF) (xs:List PV) (fl:Fl) (i m:Nat) (σ:L2.St) (H:Hp):Prop:=m=xs.length-i/\i<=xs.length/\∃ρ,SR K H0 Z0 σ H ρ pd/\gY b fb (xs.drop i) ρ=some fl
theorem QZ {g:TG} {b:BF} {fb:SF} (hb:GS K g b) {J:It} {xs:List PV} {fl:Fl} {D:Ends} (it:ni K H0 Z0 pd J xs) (k:Gx K H0 Z0 pd D fl) (s:SR K H0 Z0 σ H ρ pd) (h:gY b fb xs ρ=some fl):
 ∃W:Nat->Nat->L2.St->Hp->Prop,(∃m,W 0 m σ H)/\∀i m σ H,W i m σ H->
  (J.stop i H/\D.nx σ H)\/(J.go i H/\∃N:L2.St->Hp->Prop,(∀σ' H',N σ' H'->∃m',m'<m/\W (i+1) m' σ' H')/\∀x H',J.yld i H x H'->g x σ H' λσ2 H2=>fV K fb { D with nx:=N,ct:=N,bk:=D.nx } σ2 H2):=by
 refine⟨FW K H0 Z0 pd b fb xs fl,⟨_,rfl,aa2 _,ρ,s,h⟩,λi m σ' H' w=>?_⟩;refine CK λG kG=>?_;obtain⟨rfl,hi,ρ',s',h'⟩:=w;obtain⟨i1,i2⟩:=it σ' H' ρ' i s';by_cases hlt:i<xs.length
 . obtain⟨go,yl⟩:=i1 _ (aaB hlt);rw[abE hlt]at h';obtain⟨ρ1,e1,e2⟩:=aci h';obtain⟨fl1,e3,e4⟩:=aci e2;refine kG (.inr ⟨go,λσ'' H''=>FW K H0 Z0 pd b fb xs fl (i+1) (xs.length-(i+1)) σ'' H'',λσ'' H'' w=>⟨_,by omega,w⟩,λx H2 hy=>hb H0 Z0 σ' H2 ρ' pd x _ ρ1 _ (yl x H2 hy) e1 λσ2 s2=>⟨H0,Z0,ρ1,pd,fl1,s2,e3,?_⟩⟩);cases fl1 with
   | nx ρ2=>exact λσ3 H3 s3=>⟨rfl,hlt,ρ2,s3,e4⟩
   | ct ρ2=>exact λσ3 H3 s3=>⟨rfl,hlt,ρ2,s3,e4⟩
   | bk ρ2=>cases e4; exact k
   | rt r ρ2=>cases e4; exact k
 . have e:i=xs.length:=Nat.le_antisymm hi (abN hlt);subst e;rw[List.drop_length]at h';cases h';exact kG (.inl ⟨i2 rfl,k σ' H' s'⟩)
theorem Gx.imp {H0:Hp} {Z0 Z₁:ZG} {pd pd':Pd} {D:Ends} {fl:Fl} (k:Gx K H0 Z0 pd D fl) (w:∀{τ:L2.St} {J:Hp} {q:Ev},SR K H0 Z₁ τ J q pd'->SR K H0 Z0 τ J q pd) (w':∀{τ:L2.St} {J:Hp} {q:Ev} {e:V×Lc},SR K H0 Z₁ τ J q (e::pd')->SR K H0 Z0 τ J q (e::pd)):Gx K H0 Z₁ pd' D fl:=by
 cases fl with
 | rt r ρ=>exact λv σ H s=>k v σ H (w' s)
 | _=>exact λσ H s=>k σ H (w s)
theorem lX {tg iter:Expr} {body:List Stmt} {f:IF} {g:TG} {b:BF} {fb:SF} {pos:Pos} (hp:PassesOwn (model X.prog X.w) X.A X.env X.xe) (hc:X.calm=true) (hi:PI X tg iter (Ay X.K f)) (hg:PG X tg g) (hb':GS X.K g b) (hb:iK X body (fV X.K fb))
 (hs:∀x,foldedSetIterable iter X.env x=pure x:=by intro _; rfl):PS X (.For tg iter body [] pos) (fV X.K (lu f b fb)):=PS.imp (Wa hp hc hi hg hb hs) λD σ H q=>by
 refine CK λG kG=>?_;obtain⟨H0,Z0,ρ,pd,fl,s,h,k⟩:=q;obtain⟨y,h1,h2⟩:=aci h;exact kG ⟨H0,Z0,ρ,pd,y.1,y.2,s,h1,λJ H1 pd' s1 it sub=>QZ hb' it (k.imp (λs=>s.sub sub) λs=>s.sub (sub.cons_cons _)) s1 h2⟩
def lY (c:TF) (body:SF):Nat->SF
 | 0,_=>none
 | n+1,ρ=>(c ρ).bind λx=>if x.1=true then (body x.2).bind λfl=>match fl with
  | .nx ρ'=>lY c body n ρ'
  | .ct ρ'=>lY c body n ρ'
  | .bk ρ'=>some (.nx ρ')
  | .rt r ρ'=>some (.rt r ρ') else some (.nx x.2)
def lZ (n:Nat) (c:TF) (body:SF):SF:=lY c body n
theorem GQ (n:Nat) {c:Expr} {body:List Stmt} {fc:TF} {fb:SF} {pos:Pos} (hp:PassesOwn (model X.prog X.w) X.A X.env X.xe) (hc:PT X c (ig X.K fc)) (hb:iK X body (fV X.K fb)):PS X (.While c body [] pos) (fV X.K (lZ n fc fb)):=PS.imp (Qe hp hc hb) λD σ H q=>by
 obtain⟨H0,Z0,ρ,pd,fl,s,h,k⟩:=q;refine⟨λm σ' H'=>∃ρ',SR X.K H0 Z0 σ' H' ρ' pd/\lY fc fb m ρ'=some fl,⟨n,ρ,s,h⟩,?_⟩;rintro m σ' H' ⟨ρ',s',h'⟩;cases m with
 | zero=>cases h'
 | succ m=>
  obtain⟨x,e1,e2⟩:=aci h';refine⟨H0,Z0,ρ',pd,x.1,x.2,s',e1,λH1 s1=>?_⟩;dsimp only;split
  . rename_i hx;rw[aca hx]at e2;obtain⟨fl1,e3,e4⟩:=aci e2;refine⟨λσ'' H''=>∃ρ'',SR X.K H0 Z0 σ'' H'' ρ'' pd/\lY fc fb m ρ''=some fl,λσ'' H'' q=>⟨m,aaM _,q⟩,H0,Z0,x.2,pd,fl1,s1,e3,?_⟩;cases fl1 with
    | nx ρ2=>exact λσ3 H3 s3=>⟨ρ2,s3,e4⟩
    | ct ρ2=>exact λσ3 H3 s3=>⟨ρ2,s3,e4⟩
    | bk ρ2=>cases e4; exact λσ3 H3 s3=>k σ3 H3 s3
    | rt r ρ2=>cases e4; exact λv σ3 H3 s3=>k v σ3 H3 s3
  . rename_i hx;rw[acb hx]at e2;cases e2;exact k σ' H1 s1
end
section
variable {K:FG} {H0 H H':Hp} {Z0 Z:ZG} {σ:L2.St} {ρ:Ev} {pd pe:Pd} {v w:V} {l:Lc} {p:PV} {g:List Addr}
def Ev.app (ρ:Ev) (pe:Pd):Ev:=⟨ρ.vs++pe.map (λx=>some x.2),ρ.mu⟩
theorem GR (e:σ.length=ρ.vs.length):sl g (σ++pe.map λx=>some x.1) (ρ.app pe) pd=sl g σ ρ (pe++pd):=by
 unfold sl Ev.app;rw[abk e,aaG,aai];congr 3;induction pe with
 | nil=>rfl
 | cons a r ih=>simp[ih]
theorem SR.shift (h:SR K H0 Z0 σ H ρ (pe++pd)):SR K H0 Z0 (σ++pe.map λx=>some x.1) H (ρ.app pe) pd:=by obtain⟨e,Z,hg,z,s⟩:=h;refine⟨by simp[Ev.app,e],Z,hg,z,?_⟩;rw[GR e];exact s
theorem SR.unshift (e:σ.length=ρ.vs.length) (h:SR K H0 Z0 (σ++pe.map λx=>some x.1) H (ρ.app pe) pd):SR K H0 Z0 σ H ρ (pe++pd):=by obtain⟨_,Z,hg,z,s⟩:=h;refine⟨e,Z,hg,z,?_⟩;rw[GR e]at s;exact s
theorem ni.more {J:It} {xs:List PV} (h:ni K H0 Z0 pd J xs):ni K H0 Z0 (pe++pd) J xs:=by intro σ H ρ i s;obtain⟨h1,h2⟩:=h _ H _ i s.shift;refine⟨λx hx=>?_,h2⟩;obtain⟨g,y⟩:=h1 x hx;refine⟨g,λv H' q=>?_⟩;have s':=y v H' q;have e:σ.length=ρ.vs.length:=s.1;have s2:SR K H0 Z0 (σ++pe.map λx=>some x.1) H' (ρ.app pe) ((v,.sh x)::pd):=s';exact(SR.unshift e s2).perm (pd':=(v,.sh x)::(pe++pd)) aaZ.symm
def pQ (σ:L2.St) (ρ:Ev):Pd:=(σ.zip ρ.vs).filterMap λe=>match e with
 | (some v,some l)=>some (v,l)
 | _=>none
theorem vm:∀{L:Sl},(∀e∈L,e.2=none\/∃v l,e=(some v,some l))->∀{T:Sl},
 (Slots K H0 Z H (L++T) ↔ Slots K H0 Z H ((L.filterMap λe=>match e with | (some v,some l)=>some (v,l) | _=>none).map (λe=>((some e.1:Option V),(some e.2:Option Lc)))++T))
 | [],_,T=>by simp
 | (v,l)::L,h,T=>by
  have h':∀e∈L,e.2=none\/∃v l,e=(some v,some l):=λe he=>h e (aak _ he);rcases h (v,l) aac with e | ⟨v',l',e⟩
  . have e':l=none:=e;subst e';have e1:((v,(none:Option Lc))::L).filterMap (λe=>match e with | (some v,some l)=>some (v,l) | _=>none)=L.filterMap (λe=>match e with | (some v,some l)=>some (v,l) | _=>none):=by rw[aaV];cases v<;>rfl
    rw[e1,<-vm h' (T:=T)];have o1:kE (v,none)=none:=by
     cases v with
     | none=>rfl
     | some x=>cases x<;>rfl
    constructor
    . exact λs=>s.sub (aaq _ _)
    . intro s;refine⟨λe he=>?_,?_⟩
      . rcases aaj.mp he with rfl | he
        . trivial
        . exact s.1 e he
      . rw[abe,aaV o1];exact s.2
  . cases e;have e1:((some v',some l')::L).filterMap (λe=>match e with | (some v,some l)=>some (v,l) | _=>none)=(v',l')::L.filterMap (λe=>match e with | (some v,some l)=>some (v,l) | _=>none):=by rfl
    rw[e1];have ih1:=vm h' (T:=T++[(some v',some l')]);have perm1:∀A:Sl,List.Perm ((some v',some l')::(A++T)) (A++(T++[(some v',some l')])):=λA=>by rw[<-aai];exact(List.perm_append_singleton _ _).symm
    constructor
    . intro s;exact(ih1.mp (s.perm (perm1 L).symm)).perm (perm1 _)
    . intro s;exact(ih1.mpr (s.perm (perm1 _).symm)).perm (perm1 L)
theorem SR.both (s:SR K H0 Z0 σ H ρ pd):∀e∈σ.zip ρ.vs,e.2=none\/∃v l,e=(some v,some l):=by
 obtain⟨_,Z,_,z,s⟩:=s;intro e he;have q:=s.1 e (aaD _ (aaQ _ he));obtain⟨v,l⟩:=e;cases l with
 | none=>exact .inl rfl
 | some l=>
  cases l with
  | sh p=>obtain⟨x,e1,_⟩:=q; have e1':v=some x:=e1; subst e1'; exact .inr ⟨_,_,rfl⟩
  | own p=>obtain⟨x,e1,_⟩:=q; have e1':v=some (.ref x):=e1; subst e1'; exact .inr ⟨_,_,rfl⟩
theorem DY (hb:∀e∈σ.zip ρ.vs,e.2=none\/∃v l,e=(some v,some l)):Slots K H0 Z H (sl g σ ρ pd) ↔ Slots K H0 Z H (cel g ρ.mu++(pQ σ ρ++pd).map λe=>(some e.1,some e.2)):=by
 have h1:=vm (K:=K) (H0:=H0) (Z:=Z) (H:=H) hb (T:=(pd.map λe=>(some e.1,some e.2))++cel g ρ.mu);have c1:List.Perm (sl g σ ρ pd) (σ.zip ρ.vs++((pd.map λe=>(some e.1,some e.2))++cel g ρ.mu)):=by unfold sl;rw[<-aai (σ.zip ρ.vs)];exact abl
 have c2:List.Perm (cel g ρ.mu++(pQ σ ρ++pd).map λe=>((some e.1:Option V),(some e.2:Option Lc))) ((pQ σ ρ).map (λe=>(some e.1,some e.2))++((pd.map λe=>(some e.1,some e.2))++cel g ρ.mu)):=by rw[aaG,<-aai ((pQ σ ρ).map _)];exact abl
 exact⟨λs=>(h1.mp (s.perm c1.symm)).perm c2,λs=>(h1.mpr (s.perm c2.symm)).perm c1⟩
theorem SR.back {σ':L2.St} {ρ':Ev} (el:σ.length=ρ.vs.length) (hb:∀e∈σ.zip ρ.vs,e.2=none\/∃v l,e=(some v,some l)) (s:SR K H0 Z0 σ' H ρ' (pQ σ ρ++pd)):SR K H0 Z0 σ H ⟨ρ.vs,ρ'.mu⟩ pd:=by obtain⟨_,Z,hg,z,s⟩:=s;refine⟨el,Z,hg,z,(DY (ρ:=⟨ρ.vs,ρ'.mu⟩) hb).mpr ?_⟩;exact s.sub ((abw _).append (abp _ _))
def jl (ixs:List Nat) (ρ:Ev):Ev:=ixs.foldl (λρ i=>match ρ.vs[i]? with
 | some (some l)=>ρ.set i (some (.sh l.pv))
 | _=>ρ) ρ
theorem SR.frz:∀{ixs:List Nat} {ρ:Ev},SR K H0 Z0 σ H ρ pd->SR K H0 Z0 σ H (jl ixs ρ) pd
 | [],ρ,s=>s
 | i::r,ρ,s=>by
  unfold jl;rw[abi];refine SR.frz (ixs:=r) ?_;split
  . rename_i l e;obtain⟨v,_,h2⟩:=s.var e;exact h2.pop
  . exact s
def zp:Option Lc->Bool
 | some (.own _)=>false
 | _=>true
theorem GX {j:Nat}:∀{ixs:List Nat} {ρ:Ev},zp (ρ.vs[j]?).join=true->zp ((jl ixs ρ).vs[j]?).join=true
 | [],ρ,h=>h
 | i::r,ρ,h=>by
  unfold jl;rw[abi];refine GX (ixs:=r) ?_;split
  . rename_i l e;by_cases hij:i=j
    . subst hij;have hi:=(aap.mp e).1;show zp ((ρ.vs.set i _)[i]?).join=true;rw[aas hi];rfl
    . show zp ((ρ.vs.set i _)[j]?).join=true;rw[aaw hij]; exact h
  . exact h
theorem Nx {j:Nat}:∀{ixs:List Nat} {ρ:Ev},j∈ixs->zp ((jl ixs ρ).vs[j]?).join=true
 | [],ρ,h=>by cases h
 | i::r,ρ,h=>by
  unfold jl;rw[abi];rcases aaj.mp h with e | h
  . subst e;refine GX (ixs:=r) ?_;split
    . rename_i l e;have hi:=(aap.mp e).1;show zp ((ρ.vs.set j _)[j]?).join=true;rw[aas hi];rfl
    . rename_i hn;cases q:ρ.vs[j]? with
      | none=>rfl
      | some o=>
       cases o with
       | none=>rfl
       | some l=>exact(hn l q).elim
  . exact Nx h
def qZ (m:Nat) (ixs:List Nat) (ρ:Ev):Ev:=⟨List.replicate m none++ixs.map λi=>(ρ.vs[i]?).join,ρ.mu⟩
theorem SR.block {m:Nat} {ixs:List Nat} (s:SR K H0 Z0 σ H ρ pd) (hs:∀j∈ixs,zp (ρ.vs[j]?).join=true):SR K H0 Z0 (wK m ixs σ) H (qZ m ixs ρ) (pQ σ ρ++pd):=by
 have hb:=s.both;obtain⟨el,Z,hg,z,so⟩:=s;refine⟨by simp[wK,qZ],Z,hg,z,?_⟩;have s3:=(DY hb).mp so;have fin:Slots K H0 Z H ((ixs.map λi=>(σ[i]?).join).zip (ixs.map λi=>(ρ.vs[i]?).join)++(cel Z.g ρ.mu++(pQ σ ρ++pd).map λe=>(some e.1,some e.2)))->Slots K H0 Z H (sl Z.g (wK m ixs σ) (qZ m ixs ρ) (pQ σ ρ++pd)):=λh=>by unfold sl wK qZ;rw[abk (by simp),aai];refine(nones h m).perm ?_;exact(Ft _ _ _).trans ((Ft _ _ _).append_left _)
 refine fin ?_;clear fin;induction ixs with
 | nil=>simpa using s3
 | cons i r ih=>
  have ih':=ih λj hj=>hs j (aak _ hj);rw[aax,aax,aa8,abe];have h1:=hs i aac;cases q:ρ.vs[i]? with
  | none=>
   refine⟨λe he=>?_,?_⟩
   . rcases aaj.mp he with rfl | he
     . trivial
     . exact ih'.1 e he
   . rw[aaV]
     . exact ih'.2
     . cases (σ[i]?).join with
       | none=>rfl
       | some x=>cases x<;>rfl
  | some o=>
   cases o with
   | none=>
    refine⟨λe he=>?_,?_⟩
    . rcases aaj.mp he with rfl | he
      . trivial
      . exact ih'.1 e he
    . rw[aaV]
      . exact ih'.2
      . cases (σ[i]?).join with
        | none=>rfl
        | some x=>cases x<;>rfl
   | some l=>
    rw[q]at h1;cases l with
    | own p=>cases h1
    | sh p=>
     have hi:i<σ.length:=by rw[el]; exact(aap.mp q).1
     have hσ:σ[i]?=some σ[i]:=aaB hi;have hm:=aa0 (zip_get hσ q);obtain⟨x,e1,e2⟩:=so.1 _ (aaD _ (aaQ _ hm));have e1':σ[i]=some x:=e1;have ej:(σ[i]?).join=some x:=by rw[hσ,e1']; rfl
     rw[ej];exact ih'.consS e2
end
theorem SR.pushO {v:V} {l:Lc} {a:Addr} {ws:List PV} (s:SR K H0 Z0 σ H ρ ((v,l)::(.ref a,.own (.lst ws))::pd)):
 ∃us,H a=some (.lst us)/\us.length=ws.length/\SR K H0 Z0 σ (upd H a (.lst (us++[v]))) ρ ((.ref a,.own (.lst (ws++[l.pv])))::pd):=by
 obtain⟨el,Z,hg,z,r,so⟩:=s.freeze.sh;have so2:=so.perm cg.symm;obtain⟨b,eb,⟨us,hu,hr⟩,_⟩:=so2.1 _ aac;cases eb;refine⟨us,hu,hr.length,?_⟩;obtain⟨z',s'⟩:=so2.write (o:=.lst (us++[v])) (q:=.lst (ws++[l.pv])) z ⟨us++[v],bN,hr.append (aH.cons r .nil)⟩;exact .mk el hg z' s'
def jm (b:BF) (tc:TF) (te:EF):List PV->Ev->List PV->Option (List PV×Mu)
 | [],ρ,acc=>some (acc,ρ.mu)
 | x::xs,ρ,acc=>(b x ρ).bind λρ1=>(tc ρ1).bind λc=>if c.1=true then (te c.2).bind λv=>if acc.length<100000 then jm b tc te xs v.2 (acc++[v.1.pv]) else none else jm b tc te xs c.2 acc
def dD (f:IF) (m:Nat) (ixs:List Nat) (b:BF) (tc:TF) (te:EF):EF:=λρ=>(f ρ).bind λy=>(jm b tc te y.1 (qZ m ixs (jl ixs y.2)) []).map λys=>(.own (.lst ys.1),⟨(jl ixs y.2).vs,ys.2⟩)
def CW (K:FG) (H0:Hp) (Z0:ZG) (b:BF) (tc:TF) (te:EF) (p:Addr) (PD:Pd) (xs:List PV) (zs:List PV×Mu) (i n:Nat) (σ':L2.St) (H':Hp):Prop:=
 n=xs.length-i/\i<=xs.length/\∃ρi ws,SR K H0 Z0 σ' H' ρi ((.ref p,.own (.lst ws))::PD)/\jm b tc te (xs.drop i) ρi ws=some zs
theorem Ny {g:TG} {b:BF} {tc:TF} {te:EF} (hb:GS K g b) {H0:Hp} {p:Addr} {PD:Pd} {J:It} {xs:List PV} {zs:List PV×Mu} {Q:VK}
 (it:∀ws,ni K H0 Z0 ((.ref p,.own (.lst ws))::PD) J xs) (fin:∀σ' H' ρi ws,SR K H0 Z0 σ' H' ρi ((.ref p,.own (.lst ws))::PD)->jm b tc te [] ρi ws=some zs->Q (.ref p) H') (i n:Nat) (σ':L2.St) (H':Hp) (w:CW K H0 Z0 b tc te p PD xs zs i n σ' H'):
 (J.stop i H'/\Q (.ref p) H')\/(J.go i H'/\∀x H2,J.yld i H' x H2->g x σ' H2 λσ3 H3=>ig K tc σ3 H3 λb' H4=>
   if b'=true then tP K te σ3 H4 λv H5=>∃ys,H5 p=some (.lst ys)/\ys.length<sizeLine/\∃n',n'<n/\CW K H0 Z0 b tc te p PD xs zs (i+1) n' σ3 (upd H5 p (.lst (ys++[v])))
   else ∃n',n'<n/\CW K H0 Z0 b tc te p PD xs zs (i+1) n' σ3 H4):=by
 refine CK λG kG=>?_;obtain⟨rfl,hi,ρi,ws,s',h'⟩:=w;obtain⟨i1,i2⟩:=it ws σ' H' ρi i s';by_cases hlt:i<xs.length
 . obtain⟨go,yl⟩:=i1 _ (aaB hlt);rw[abE hlt]at h';obtain⟨ρ1,e1,e2⟩:=aci h';obtain⟨c,e3,e4⟩:=aci e2;have hn:xs.length-(i+1)<xs.length-i:=by omega
   refine kG (.inr ⟨go,λx H2 hy=>hb H0 Z0 σ' H2 ρi _ x _ ρ1 _ (yl x H2 hy) e1 λσ2 s5=>⟨H0,Z0,ρ1,_,c.1,c.2,s5,e3,λH4 s6=>?_⟩⟩);dsimp only;split
   . rename_i hc;refine CK λG kG=>?_;rw[aca hc]at e4;obtain⟨v,e5,e6⟩:=aci e4;split at e6
     . rename_i hz;refine kG ⟨H0,Z0,c.2,_,v.1,v.2,s6,e5,λvv H5 s7=>?_⟩;refine CK λG kG=>?_;obtain⟨us,hu,hl,s8⟩:=s7.pushO;exact kG ⟨us,hu,by rw[hl,sizeLine_eq]; omega,_,hn,rfl,hlt,v.2,_,s8,e6⟩
     . cases e6
   . rename_i hc;rw[acb hc]at e4;exact⟨_,hn,rfl,hlt,c.2,ws,s6,e4⟩
 . have e:i=xs.length:=Nat.le_antisymm hi (abN hlt);subst e;rw[List.drop_length]at h';exact kG (.inl ⟨i2 rfl,fin _ _ _ _ s' h'⟩)
theorem GZ {f:IF} {m:Nat} {ixs:List Nat} {g:TG} {b:BF} {tc:TF} {te:EF} (hb:GS K g b):∀σ H Q,tP K (dD f m ixs b tc te) σ H Q->K8 (Ay K f) m ixs g (ig K tc) (tP K te) σ H Q:=λσ H Q q=>by refine CK λG kG=>?_;obtain⟨H0,Z0,ρ,pd,r,ρ',s,h,k⟩:=q;obtain⟨y,h1,h2⟩:=aci h;obtain⟨zs,h3,h4⟩:=acj h2;cases h4;refine kG ⟨H0,Z0,ρ,pd,y.1,y.2,s,h1,λJ H1 pd' s1 it sub p hp=>?_⟩;have s2:SR K H0 Z0 σ H1 (jl ixs y.2) pd':=s1.frz;have s3:=s2.block (m:=m) (ixs:=ixs) λj hj=>Nx hj;have s4:SR K H0 Z0 (wK m ixs σ) (upd H1 p (.lst [])) (qZ m ixs (jl ixs y.2)) ((.ref p,.own (.lst []))::(pQ σ (jl ixs y.2)++pd')):=s3.newO hp λZ _ _=>⟨[],bN,.nil⟩;refine⟨CW K H0 Z0 b tc te p (pQ σ (jl ixs y.2)++pd') y.1 zs,⟨_,rfl,aa2 _,_,[],s4,h3⟩,Ny hb (λws=>ni.more (pe:=(.ref p,.own (.lst ws))::pQ σ (jl ixs y.2)) it) λσ' H' ρi ws s' h'=>?_⟩;cases h';have s5:SR K H0 Z0 σ' H' ρi (pQ σ (jl ixs y.2)++((.ref p,.own (.lst ws))::pd')):=s'.perm aaZ;exact k _ _ ((SR.back s2.1 s2.both s5).sub (sub.cons_cons _))
section
variable {X:Cx}
theorem oX (M F:List Str) (ixs:List Nat) {sc:Scope} {tg iter elt:Expr} {ifs:List Expr} {f:IF} {g:TG} {b:BF} {tc:TF} {te:EF} {pos:Pos} (hcalm:X.calm=true) (c:iZ X M F ixs sc) (hi:PI X tg iter (Ay X.K f))
 (hg:∀C fp s H,PG (eZ X M F sc C fp s H) tg g) (hb:GS X.K g b) (hc:∀C fp s H,wL (eZ X M F sc C fp s H) ifs (ig X.K tc)) (he:∀C fp s H,PE (eZ X M F sc C fp s H) elt (tP X.K te))
 (hs:∀x,foldedSetIterable iter X.env x=pure x:=by intro _; rfl):PE X (.ListComp elt [⟨tg,iter,ifs,0⟩] sc pos) (tP X.K (dD f M.length ixs b tc te)):=PE.imp (Uh M F ixs hcalm c hi hg hc he hs) (GZ hb)
theorem Ut {i:Nat} (M F:List Str) (ixs:List Nat) {x:Str} {sc:Scope} {tg iter elt:Expr} {ifs:List Expr} {f:IF} {g:TG} {b:BF} {tc:TF} {te:EF} {pos pos' pos2:Pos} (hN:X.N.Nodup) (hix:X.N[i]?=some x) (hx:X.env.scope.names.lookup x=some .local)
 (hcalm:X.calm=true) (c:iZ X M F ixs sc) (hi:PI X tg iter (Ay X.K f))
 (hg:∀C fp s H,PG (eZ X M F sc C fp s H) tg g) (hb:GS X.K g b) (hc:∀C fp s H,wL (eZ X M F sc C fp s H) ifs (ig X.K tc)) (he:∀C fp s H,PE (eZ X M F sc C fp s H) elt (tP X.K te))
 (hsw:swapsWith (.ListComp elt [⟨tg,iter,ifs,0⟩] sc pos) (some (.Name x pos')) pos2.line X.env=pure true:=by rfl)
 (hs:∀x,foldedSetIterable iter X.env x=pure x:=by intro _; rfl):PS X (.Assign [.Name x pos'] (.ListComp elt [⟨tg,iter,ifs,0⟩] sc pos) pos2) (fV X.K (aV i (dD f M.length ixs b tc te))):=
 PS.imp (Ui M F ixs hN hix hx hcalm c hi hg hc he hsw hs) (Jr λD σ H q=>GZ hb σ H _ q)
def dh:TF:=λρ=>some (true,ρ)
theorem iC:wL X [] (ig X.K dh):=λpins s σ H Q I q=>QD pins s σ H Q I (by obtain⟨H0,Z0,ρ,pd,b,ρ',s,h,k⟩:=q;cases h;exact k H s)
end
def wU (f:PV->PV->Option Bool):List PV->List PV->Option Bool
 | p::ps,q::qs=>(f p q).bind λb=>(wU f ps qs).map λc=>b&&c
 | _,_=>some true
def gC:Nat->PV->PV->Option Bool
 | 0,_,_=>none
 | n+1,p,q=>match p,q with
  | .tup ps,.tup qs=>(wU (gC n) ps qs).map λb=>b&&(ps.length==qs.length)
  | .lst ps,.lst qs=>if ps.length=qs.length then wU (gC n) ps qs else some false
  | .non,.non=>some true
  | .bl a,.bl b=>some (a==b)
  | .int a,.int b=>some (a==b)
  | .str a,.str b=>some (a==b)
  | .bl a,.int b=>some ((if a then 1 else 0)==b)
  | .int a,.bl b=>some (a==(if b then 1 else 0))
  | .non,.bl _=>some false
  | .non,.int _=>some false
  | .non,.str _=>some false
  | .non,.tup _=>some false
  | .non,.lst _=>some false
  | .bl _,.non=>some false
  | .bl _,.str _=>some false
  | .bl _,.tup _=>some false
  | .bl _,.lst _=>some false
  | .int _,.non=>some false
  | .int _,.str _=>some false
  | .int _,.tup _=>some false
  | .int _,.lst _=>some false
  | .str _,.non=>some false
  | .str _,.bl _=>some false
  | .str _,.int _=>some false
  | .str _,.tup _=>some false
  | .str _,.lst _=>some false
  | .tup _,.non=>some false
  | .tup _,.bl _=>some false
  | .tup _,.int _=>some false
  | .tup _,.str _=>some false
  | .tup _,.lst _=>some false
  | .lst _,.non=>some false
  | .lst _,.bl _=>some false
  | .lst _,.int _=>some false
  | .lst _,.str _=>some false
  | .lst _,.tup _=>some false
  | _,_=>none
theorem yj {f:PV->PV->Option Bool}:∀{ps qs:List PV} {b:Bool},wU f ps qs=some b->(∀(j:Nat) p q,ps[j]?=some p->qs[j]?=some q->f p q=some ((f (ps.getD j .non) (qs.getD j .non)).getD false))/\
 b=(List.range (min ps.length qs.length)).all λj=>(f (ps.getD j .non) (qs.getD j .non)).getD false
 | [],qs,b,h=>by cases h;exact⟨λj p q e=>by simp at e,by simp⟩
 | p::ps,[],b,h=>by cases h;exact⟨λj p q _ e=>by simp at e,by simp⟩
 | p::ps,q::qs,b,h=>by
  obtain⟨c,h1,h2⟩:=aci h;obtain⟨d,h3,rfl⟩:=acj h2;obtain⟨i1,i2⟩:=yj h3;refine⟨λj p' q' e1 e2=>?_,?_⟩
  . cases j with
    | zero=>
     simp at e1 e2;subst e1 e2;simp[h1]
    | succ j=>
     have:=i1 j p' q' (by simpa using e1) (by simpa using e2);simpa using this
  . have e:min (p::ps).length (q::qs).length=min ps.length qs.length+1:=by simp only[aae]; omega
    rw[e,List.range_succ_eq_map,List.all_cons,List.all_map];have e0:(f ((p::ps).getD 0 .non) ((q::qs).getD 0 .non)).getD false=c:=by simp[h1]
    rw[e0,i2];rfl
theorem elts {Z:ZG} {ps:List PV} {vs:List V} {its:List Value} (r:aH K Z ps vs) (rv:Vals vs its) {j:Nat} (h:j<its.length):∃p v,ps[j]?=some p/\Rep K Z p v/\RelV v its[j]:=by have hl:=rv.length;have hv:vs[j]?=some vs[j]:=aaB (by omega);obtain⟨u,e1,e2⟩:=rv.get hv;rw[aaB h]at e1;cases e1;obtain⟨p,e3,e4⟩:=r.getV hv;exact⟨p,vs[j],e3,e4,e2⟩
section
open PySem.SeqAt
variable {X:Cx} {pins:List (Addr×Obj)} {σ:L2.St} {H:Hp} {s:Shared} {g:List Addr}
theorem uB (I:Inv X pins σ H s) {ps:List PV} {v:V} {u:Value} (r:Rep X.K ⟨H,g⟩ (.tup ps) v) (ru:RelV v u):∃a vs its,u=.ref a/\cM X.K H a vs/\aH X.K ⟨H,g⟩ ps vs/\Vals vs its/\s.heap.IsTuple a its.toArray:=by unfold Rep at r;obtain⟨a,vs,rfl,h1,h2⟩:=r;obtain⟨its,r1,t1,_⟩:=I.tuple h1;exact⟨a,vs,its,ru,h1,h2,r1,t1⟩
theorem uC (I:Inv X pins σ H s) {ps:List PV} {v:V} {u:Value} (r:Rep X.K ⟨H,g⟩ (.lst ps) v) (ru:RelV v u):∃a vs its,u=.ref a/\bR X.K H a vs/\aH X.K ⟨H,g⟩ ps vs/\Vals vs its/\s.heap.IsList a its.toArray:=by unfold Rep at r;obtain⟨a,vs,rfl,h1,h2⟩:=r;obtain⟨its,r1,t1,_⟩:=I.list h1;exact⟨a,vs,its,ru,h1,h2,r1,t1.isList⟩
def kn:PV->Nat
 | .non=>0 | .bl _=>1 | .int _=>2 | .str _=>3 | .tup _=>4 | .lst _=>5 | _=>6
theorem Ze {p:PV} (h:kn p=4):∃ps,p=.tup ps:=by cases p<;>first | exact⟨_,rfl⟩ | cases h
theorem Zf {p:PV} (h:kn p=5):∃ps,p=.lst ps:=by cases p<;>first | exact⟨_,rfl⟩ | cases h
theorem Az {n:Nat} {p q:PV} {b:Bool} (h:gC (n+1) p q=some b):kn p<6:=by cases p<;>first | cases h; done | exact Nat.le.step (Nat.le.step (Nat.le.step (Nat.le.step (Nat.le.step .refl)))) | exact Nat.le.step (Nat.le.step (Nat.le.step (Nat.le.step .refl))) | exact Nat.le.step (Nat.le.step (Nat.le.step .refl)) | exact Nat.le.step (Nat.le.step .refl) | exact Nat.le.step .refl | exact Nat.le.refl
theorem Su {n:Nat} {p q:PV} {b:Bool} (h:gC (n+1) p q=some b):kn q<6:=by
 have no:gC (n+1) p q=none->kn q<6:=λe=>absurd (h.symm.trans e) (Option.some_ne_none b);cases q with
 | dk _ _=>exact no (by cases p<;>rfl)
 | dt _ _=>exact no (by cases p<;>rfl)
 | obj _ _ _=>exact no (by cases p<;>rfl)
 | df _ _=>exact no (by cases p<;>rfl)
 | dtf _ _=>exact no (by cases p<;>rfl)
 | dx _ _ _=>exact no (by cases p<;>rfl)
 | exc _=>exact no (by cases p<;>rfl)
 | ptr _=>exact no (by cases p<;>rfl)
 | _=>first | exact Nat.le.step (Nat.le.step (Nat.le.step (Nat.le.step (Nat.le.step .refl)))) | exact Nat.le.step (Nat.le.step (Nat.le.step (Nat.le.step .refl))) | exact Nat.le.step (Nat.le.step (Nat.le.step .refl)) | exact Nat.le.step (Nat.le.step .refl) | exact Nat.le.step .refl | exact Nat.le.refl
def back:V->Option PV
 | .non=>some .non | .bl b=>some (.bl b) | .int i=>some (.int i) | .str x=>some (.str x) | _=>none
inductive Sh (K:FG) (Z:ZG) (v:V):PV->Prop
 | at {p:PV}:back v=some p->Sh K Z v p
 | tup {a:Addr} {ps:List PV} {vs:List V}:v=.ref a->cM K Z.z a vs->aH K Z ps vs->Sh K Z v (.tup ps)
 | lst {a:Addr} {ps:List PV} {vs:List V}:v=.ref a->bR K Z.z a vs->aH K Z ps vs->Sh K Z v (.lst ps)
theorem Fv {Z:ZG} {v:V} {p:PV} (r:Rep K Z p v) (h:kn p<6):Sh K Z v p:=by
 cases p with
 | non=>exact .at (congrArg back (gA r))
 | bl b=>exact .at (congrArg back (dB r))
 | int b=>exact .at (congrArg back (bK r))
 | str b=>exact .at (congrArg back (cZ r))
 | tup ps=>unfold Rep at r; obtain⟨a,vs,e,h1,h2⟩:=r; exact .tup e h1 h2
 | lst ps=>unfold Rep at r; obtain⟨a,vs,e,h1,h2⟩:=r; exact .lst e h1 h2
 | _=>exact absurd h (abb 6)
inductive Tw (K:FG) (Z:ZG):PV->PV->Prop
 | at {v:V} {p:PV}:back v=some p->Tw K Z p p
 | tup {ps qs:List PV} {vs:List V}:aH K Z ps vs->aH K Z qs vs->Tw K Z (.tup ps) (.tup qs)
 | lst {ps qs:List PV} {vs:List V}:aH K Z ps vs->aH K Z qs vs->Tw K Z (.lst ps) (.lst qs)
theorem Sv (I:Inv X pins σ H s) {a:Addr} {vs ws:List V} (h1:cM X.K H a vs) (h3:bR X.K H a ws):False:=by obtain⟨its,r1,⟨o1,n1,g1,c1,_⟩,_⟩:=I.list h3;obtain⟨its2,r2,⟨o2,g2,c2,_⟩,_⟩:=I.tuple h1;rw[g1]at g2;cases g2;rw[c1]at c2;exact absurd c2 (by decide)
theorem vo {v:V} {a:Addr} {p:PV} (e:v=.ref a) (h:back v=some p):False:=by subst e; cases h
theorem Sh.two (I:Inv X pins σ H s) {p q:PV} {v:V} (h1:Sh X.K ⟨H,g⟩ v p) (h2:Sh X.K ⟨H,g⟩ v q):Tw X.K ⟨H,g⟩ p q:=by
 cases h1 with
 | «at» e=>
  cases h2 with
  | «at» e'=>exact(aaA (e.symm.trans e'))▸.at e
  | tup e'=>exact(vo e' e).elim
  | lst e'=>exact(vo e' e).elim
 | tup e k1 k2=>
  cases h2 with
  | «at» e'=>exact(vo e e').elim
  | tup e' m1 m2=>exact .tup k2 (I.tuple_inj k1 (V.ref.inj (e'.symm.trans e)▸m1)▸m2)
  | lst e' m1=>exact(Sv I k1 (V.ref.inj (e'.symm.trans e)▸m1)).elim
 | lst e k1 k2=>
  cases h2 with
  | «at» e'=>exact(vo e e').elim
  | tup e' m1=>exact(Sv I m1 (V.ref.inj (e.symm.trans e')▸k1)).elim
  | lst e' m1 m2=>exact .lst k2 (I.list_inj k1 (V.ref.inj (e'.symm.trans e)▸m1)▸m2)
theorem WY {n:Nat} {v:V} {p:PV} {b:Bool} (e:back v=some p) (h:gC (n+1) p p=some b):b=true:=by
 cases v with
 | non=>cases e; cases h; rfl
 | bl z=>cases e; cases h; exact ach z
 | int z=>cases e; cases h; exact ach z
 | str z=>cases e; cases h; exact ach z
 | _=>cases e
theorem wV {f:PV->PV->Option Bool} {Z:ZG} (ih:∀(p q:PV) (v:V) (b:Bool),Rep K Z p v->Rep K Z q v->f p q=some b->b=true):∀{ps qs:List PV} {vs:List V} {c:Bool},aH K Z ps vs->aH K Z qs vs->wU f ps qs=some c->c=true
 | [],qs,vs,c,a,b,h=>by cases h; rfl
 | p::ps,[],vs,c,a,b,h=>by cases h; rfl
 | p::ps,q::qs,vs,c,a,b,h=>by obtain⟨w1,r1,e1,e2,e3⟩:=a.inv;obtain⟨w2,r2,f1,f2,f3⟩:=b.inv;obtain⟨g1,g2⟩:=List.cons.inj (e1.symm.trans f1);subst g1 g2;obtain⟨c,h1,h2⟩:=aci h;obtain⟨d,h3,rfl⟩:=acj h2;rw[ih _ _ _ _ e2 f2 h1,wV ih e3 f3 h3];rfl
theorem vp {f:PV->PV->Option Bool} {Z:ZG} (ih:∀(p q r:PV) (v:V) (b c:Bool),Rep K Z p v->Rep K Z q v->f p r=some b->f q r=some c->b=c):∀{ps qs rs:List PV} {vs:List V} {b c:Bool},aH K Z ps vs->aH K Z qs vs->wU f ps rs=some b->wU f qs rs=some c->b=c
 | [],[],rs,vs,b,c,_,_,h,k=>aaA (h.symm.trans k)
 | [],q::qs,rs,vs,b,c,a,b',h,k=>by obtain⟨_,_,e,_⟩:=b'.inv;exact absurd (a.inv0.symm.trans e) (by simp)
 | p::ps,[],rs,vs,b,c,a,b',h,k=>by obtain⟨_,_,e,_⟩:=a.inv;exact absurd (b'.inv0.symm.trans e) (by simp)
 | p::ps,q::qs,[],vs,b,c,a,b',h,k=>aaA (h.symm.trans k)
 | p::ps,q::qs,r::rs,vs,b,c,a,b',h,k=>by obtain⟨w1,r1,e1,e2,e3⟩:=a.inv;obtain⟨w2,r2,f1,f2,f3⟩:=b'.inv;obtain⟨g1,g2⟩:=List.cons.inj (e1.symm.trans f1);subst g1 g2;obtain⟨x1,h1,h2⟩:=aci h;obtain⟨d1,h3,rfl⟩:=acj h2;obtain⟨x2,k1,k2⟩:=aci k;obtain⟨d2,k3,rfl⟩:=acj k2;rw[ih _ _ _ _ _ _ e2 f2 h1 k1,vp ih e3 f3 h3 k3]
theorem eq_self (I:Inv X pins σ H s):∀(n:Nat) {p q:PV} {v:V} {b:Bool},Rep X.K ⟨H,g⟩ p v->Rep X.K ⟨H,g⟩ q v->gC n p q=some b->b=true
 | 0,p,q,v,b,_,_,h=>by cases h
 | n+1,p,q,v,b,rp,rq,h=>by
  cases Sh.two I (Fv rp (Az h)) (Fv rq (Su h)) with
  | «at» e=>exact WY e h
  | tup h2 h4=>
   obtain⟨c,h5,rfl⟩:=acj h;rw[wV (λ_ _ _ _=>eq_self I n) h2 h4 h5,h2.length.symm.trans h4.length,ach];rfl
  | lst h2 h4=>exact wV (λ_ _ _ _=>eq_self I n) h2 h4 ((aca (h2.length.symm.trans h4.length)).symm.trans h)
inductive U (s:Shared):PV->Value->Prop
 | non:U s .non .none
 | bl {b:Bool}:U s (.bl b) (.bool b)
 | int {i:Int} {t}:U s (.int i) (.int i t)
 | str {x:Str} {t}:U s (.str x) (.str x t)
 | tup {ps:List PV} {a:Addr} {its}:s.heap.IsTuple a its->U s (.tup ps) (.ref a)
 | lst {ps:List PV} {a:Addr} {its}:s.heap.IsList a its->U s (.lst ps) (.ref a)
theorem W0 (I:Inv X pins σ H s) {p:PV} {v:V} {u:Value} (r:Rep X.K ⟨H,g⟩ p v) (ru:RelV v u) (h:kn p<6):U s p u:=by
 cases p with
 | non=>cases gA r; cases ru; exact .non
 | bl b=>cases dB r; cases ru; exact .bl
 | int b=>cases bK r; obtain⟨t,rfl⟩:=ru; exact .int
 | str b=>cases cZ r; obtain⟨t,rfl⟩:=ru; exact .str
 | tup ps=>obtain⟨a,vs,its,rfl,_,_,_,x⟩:=uB I r ru; exact .tup x
 | lst ps=>obtain⟨a,vs,its,rfl,_,_,_,x⟩:=uC I r ru; exact .lst x
 | _=>exact absurd h (abb 6)
def E3 (A:Around) (s:Shared) (x y:Value) (b:Bool):Prop:=EqAt A s x y b/\RcAt A s x y b/\RcNeAt A s x y (!b)
theorem E3.of {A:Around} {s:Shared} {x y:Value} {b c:Bool} (h:some c=some b) (e:EqAt A s x y c) (r:RcAt A s x y c) (q:RcNeAt A s x y (!c)):E3 A s x y b:=aaA h▸⟨e,r,q⟩
def two (p q:PV):Bool:=kn p==kn q&&Nat.ble 4 (kn p)
theorem Uu {A:Around} {p q:PV} {u1 u2:Value} {n:Nat} {b:Bool} (hu:A.units<cLine) (h1:U s p u1) (h2:U s q u2) (e:two p q=false) (h:gC (n+1) p q=some b):E3 A s u1 u2 b:=by
 cases h1 with
 | non=>
  cases h2 with
  | non=>exact E3.of h (EqAt.same .none) RcAt.none_none RcNeAt.none_none
  | bl=>exact E3.of h (EqAt.none_bool _) (RcAt.none_bool _) (RcNeAt.none_bool _)
  | int=>exact E3.of h (EqAt.none_int _ _) (RcAt.none_int _ _) (RcNeAt.none_int _ _)
  | str=>exact E3.of h (EqAt.none_str _ _) (RcAt.none_str _ _) (RcNeAt.none_str _ _)
  | tup x2=>exact E3.of h (EqAt.none_tuple x2 hu) (RcAt.none_tuple x2 hu) (RcNeAt.none_tuple x2 hu)
  | lst x2=>exact E3.of h (EqAt.none_list x2 hu) (RcAt.none_list x2 hu) (RcNeAt.none_list x2 hu)
 | bl=>
  cases h2 with
  | non=>exact E3.of h (EqAt.bool_none _) (RcAt.bool_none _) (RcNeAt.bool_none _)
  | bl=>exact E3.of h (EqAt.bool_bool _ _) (RcAt.bool_bool _ _) (RcNeAt.bool_bool _ _)
  | int=>exact E3.of h (EqAt.bool_int _ _ _) (RcAt.bool_int _ _ _) (RcNeAt.bool_int _ _ _)
  | str=>exact E3.of h (EqAt.bool_str _ _ _) (RcAt.bool_str _ _ _) (RcNeAt.bool_str _ _ _)
  | tup x2=>exact E3.of h (EqAt.bool_tuple _ x2 hu) (RcAt.bool_tuple _ x2 hu) (RcNeAt.bool_tuple _ x2 hu)
  | lst x2=>exact E3.of h (EqAt.bool_list _ x2 hu) (RcAt.bool_list _ x2 hu) (RcNeAt.bool_list _ x2 hu)
 | int=>
  cases h2 with
  | non=>exact E3.of h (EqAt.int_none _ _) (RcAt.int_none _ _) (RcNeAt.int_none _ _)
  | bl=>exact E3.of h (EqAt.int_bool _ _ _) (RcAt.int_bool _ _ _) (RcNeAt.int_bool _ _ _)
  | int=>exact E3.of h (EqAt.int_int _ _ _ _) (RcAt.int_int _ _ _ _) (RcNeAt.int_int _ _ _ _)
  | str=>exact E3.of h (EqAt.int_str _ _ _ _) (RcAt.int_str _ _ _ _) (RcNeAt.int_str _ _ _ _)
  | tup x2=>exact E3.of h (EqAt.int_tuple _ _ x2 hu) (RcAt.int_tuple _ _ x2 hu) (RcNeAt.int_tuple _ _ x2 hu)
  | lst x2=>exact E3.of h (EqAt.int_list _ _ x2 hu) (RcAt.int_list _ _ x2 hu) (RcNeAt.int_list _ _ x2 hu)
 | str=>
  cases h2 with
  | non=>exact E3.of h (EqAt.str_none _ _) (RcAt.str_none _ _) (RcNeAt.str_none _ _)
  | bl=>exact E3.of h (EqAt.str_bool _ _ _) (RcAt.str_bool _ _ _) (RcNeAt.str_bool _ _ _)
  | int=>exact E3.of h (EqAt.str_int _ _ _ _) (RcAt.str_int _ _ _ _) (RcNeAt.str_int _ _ _ _)
  | str=>exact E3.of h (EqAt.str_str _ _ _ _) (RcAt.str_str _ _ _ _) (RcNeAt.str_str _ _ _ _)
  | tup x2=>exact E3.of h (EqAt.str_tuple _ _ x2 hu) (RcAt.str_tuple _ _ x2 hu) (RcNeAt.str_tuple _ _ x2 hu)
  | lst x2=>exact E3.of h (EqAt.str_list _ _ x2 hu) (RcAt.str_list _ _ x2 hu) (RcNeAt.str_list _ _ x2 hu)
 | tup x1=>
  cases h2 with
  | non=>exact E3.of h (EqAt.tuple_none x1 hu) (RcAt.tuple_none x1 hu) (RcNeAt.tuple_none x1 hu)
  | bl=>exact E3.of h (EqAt.tuple_bool _ x1 hu) (RcAt.tuple_bool _ x1 hu) (RcNeAt.tuple_bool _ x1 hu)
  | int=>exact E3.of h (EqAt.tuple_int _ _ x1 hu) (RcAt.tuple_int _ _ x1 hu) (RcNeAt.tuple_int _ _ x1 hu)
  | str=>exact E3.of h (EqAt.tuple_str _ _ x1 hu) (RcAt.tuple_str _ _ x1 hu) (RcNeAt.tuple_str _ _ x1 hu)
  | tup x2=>cases e
  | lst x2=>exact E3.of h (EqAt.tuple_list x1 x2 hu) (RcAt.tuple_list x1 x2 hu) (RcNeAt.tuple_list x1 x2 hu)
 | lst x1=>
  cases h2 with
  | non=>exact E3.of h (EqAt.list_none x1 hu) (RcAt.list_none x1 hu) (RcNeAt.list_none x1 hu)
  | bl=>exact E3.of h (EqAt.list_bool _ x1 hu) (RcAt.list_bool _ x1 hu) (RcNeAt.list_bool _ x1 hu)
  | int=>exact E3.of h (EqAt.list_int _ _ x1 hu) (RcAt.list_int _ _ x1 hu) (RcNeAt.list_int _ _ x1 hu)
  | str=>exact E3.of h (EqAt.list_str _ _ x1 hu) (RcAt.list_str _ _ x1 hu) (RcNeAt.list_str _ _ x1 hu)
  | tup x2=>exact E3.of h (EqAt.list_tuple x1 x2 hu) (RcAt.list_tuple x1 x2 hu) (RcNeAt.list_tuple x1 x2 hu)
  | lst x2=>cases e
theorem vq {v:V} {a:Addr} (r:RelV v (.ref a)):v=.ref a:=by
 cases v with
 | ref b=>cases r; rfl
 | non=>cases r
 | bl _=>cases r
 | ty _=>cases r
 | _=>obtain⟨t,e⟩:=r; cases e
theorem G3 (I:Inv X pins σ H s) {n:Nat} {p q:PV} {a1 a2:Addr} {b:Bool} {A:Around} (rp:Rep X.K ⟨H,g⟩ p (.ref a1)) (rq:Rep X.K ⟨H,g⟩ q (.ref a2)) (h:gC n p q=some b) (rc:RcAt A s (.ref a1) (.ref a2) b):EqAt A s (.ref a1) (.ref a2) b:=by
 by_cases ea:a1=a2
 . subst ea;exact eq_self I n rp rq h▸EqAt.same _
 . exact EqAt.of_refs ea rc
theorem Ba (I:Inv X pins σ H s):∀(n:Nat) {p q:PV} {v w:V} {u1 u2:Value} {b:Bool},Rep X.K ⟨H,g⟩ p v->Rep X.K ⟨H,g⟩ q w->RelV v u1->RelV w u2->gC n p q=some b->∀A:Around,A.units+n<cLine->
 EqAt A s u1 u2 b/\RcAt A s u1 u2 b/\RcNeAt A s u1 u2 (!b)
 | 0,p,q,v,w,u1,u2,b,_,_,_,_,h,_,_=>by cases h
 | n+1,p,q,v,w,u1,u2,b,rp,rq,r1,r2,h,A,hA=>by
  have hu:A.units<cLine:=abu (abO _ _) hA;have hin:A.in1.units+n<cLine:=by show A.units+1+n<cLine; omega
  have item:∀{ps qs:List PV} {vs ws:List V} {its its2:List Value} {c:Bool},aH X.K ⟨H,g⟩ ps vs->Vals vs its->aH X.K ⟨H,g⟩ qs ws->Vals ws its2->wU (gC n) ps qs=some c->
   ∀j (h1:j<its.toArray.size) (h2:j<its2.toArray.size),EqAt A.in1 s its.toArray[j] its2.toArray[j] ((gC n (ps.getD j .non) (qs.getD j .non)).getD false):=λ{ps qs vs ws its its2 c} a b c' d e j h1 h2=>by
   obtain⟨p,v,e1,e2,e3⟩:=elts a b (j:=j) (by simpa using h1);obtain⟨q,w,f1,f2,f3⟩:=elts c' d (j:=j) (by simpa using h2);have:=(yj e).1 j p q e1 f1;exact(Ba I n e2 f2 e3 f3 this A.in1 hin).1
  cases e:two p q with
  | false=>exact Uu hu (W0 I rp r1 (Az h)) (W0 I rq r2 (Su h)) e h
  | true=>
   have e':kn p=kn q/\4<=kn p:=by unfold two at e; simpa using e
   have hk:=Az h;rcases (by omega:kn p=4\/kn p=5) with hp | hp
   . obtain⟨ps,rfl⟩:=Ze hp;obtain⟨qs,rfl⟩:=Ze (e'.1.symm.trans hp);clear e e' hk hp;obtain⟨a1,vs1,its1,rfl,q1,l1,rv1,x1⟩:=uB I rp r1;obtain⟨a2,vs2,its2,rfl,q2,l2,rv2,x2⟩:=uB I rq r2;have e1:=vq r1;have e2:=vq r2;subst e1 e2;obtain⟨c,h5,rfl⟩:=acj h;have it:=item l1 rv1 l2 rv2 h5;have z1:its1.toArray.size=ps.length:=by rw[aat,<-rv1.length,l1.length]
     have z2:its2.toArray.size=qs.length:=by rw[aat,<-rv2.length,l2.length]
     have rc:=RcAt.tuples x1 x2 hu it;have rn:=RcNeAt.tuples x1 x2 hu it;rw[z1,z2,<-(yj h5).2]at rc rn;exact⟨G3 I rp rq h rc,rc,rn⟩
   . obtain⟨ps,rfl⟩:=Zf hp;obtain⟨qs,rfl⟩:=Zf (e'.1.symm.trans hp);clear e e' hk hp;obtain⟨a1,vs1,its1,rfl,q1,l1,rv1,x1⟩:=uC I rp r1;obtain⟨a2,vs2,its2,rfl,q2,l2,rv2,x2⟩:=uC I rq r2;have e1:=vq r1;have e2:=vq r2;subst e1 e2;have z1:its1.toArray.size=ps.length:=by rw[aat,<-rv1.length,l1.length]
     have z2:its2.toArray.size=qs.length:=by rw[aat,<-rv2.length,l2.length]
     by_cases hl:ps.length=qs.length
     . have h':=(aca hl).symm.trans h;have it:=item l1 rv1 l2 rv2 h';have hz:=(z1.trans hl).trans z2.symm;have rc:=RcAt.lists x1 x2 hz hu it;have rn:=RcNeAt.lists x1 x2 hz hu it;rw[z1,<-(show min ps.length qs.length=ps.length by rw[<-hl,Nat.min_self]),<-(yj h').2]at rc rn;exact⟨G3 I rp rq h rc,rc,rn⟩
     . have h':=aaA ((acb hl).symm.trans h);subst h';have hz:(its1.toArray.size != its2.toArray.size)=true:=by rw[z1,z2]; exact bne_iff_ne.mpr hl
       have rc:=RcAt.lists_lengths x1 x2 hz hu;exact⟨G3 I rp rq h rc,rc,RcNeAt.lists_lengths x1 x2 hz hu⟩
end
section
open PySem.SeqAt
variable {X:Cx} {pins:List (Addr×Obj)} {σ:L2.St} {H:Hp} {s:Shared} {g:List Addr}
theorem Jt {n:Nat} {ps:List PV} {r:PV} {b:Bool} (h:gC (n+1) (.tup ps) r=some b):b=false\/∃rs,r=.tup rs:=by
 cases r with
 | tup rs=>exact .inr ⟨rs,rfl⟩
 | _=>cases h<;>exact .inl rfl
theorem Ju {n:Nat} {ps:List PV} {r:PV} {b:Bool} (h:gC (n+1) (.lst ps) r=some b):b=false\/∃rs,r=.lst rs:=by
 cases r with
 | lst rs=>exact .inr ⟨rs,rfl⟩
 | _=>cases h<;>exact .inl rfl
theorem Bb (I:Inv X pins σ H s):∀(n:Nat) {p q r:PV} {v:V} {b c:Bool},Rep X.K ⟨H,g⟩ p v->Rep X.K ⟨H,g⟩ q v->gC n p r=some b->gC n q r=some c->b=c
 | 0,p,q,r,v,b,c,_,_,h,_=>by cases h
 | n+1,p,q,r,v,b,c,rp,rq,h,k=>by
  cases Sh.two I (Fv rp (Az h)) (Fv rq (Az k)) with
  | «at» e=>exact aaA (h.symm.trans k)
  | @tup ps qs _ h2 h4=>
   have el:ps.length=qs.length:=h2.length.symm.trans h4.length;rcases Jt h with rfl | ⟨rs,rfl⟩
   . rcases Jt k with rfl | ⟨rs,rfl⟩
     . rfl
     . obtain⟨c1,h5,e1⟩:=acj h;obtain⟨c2,k5,rfl⟩:=acj k;rw[<-vp (f:=gC n) (λ_ _ _ _ _ _=>Bb I n) h2 h4 h5 k5,<-el,e1]
   . obtain⟨c1,h5,rfl⟩:=acj h;obtain⟨c2,k5,rfl⟩:=acj k;rw[vp (f:=gC n) (λ_ _ _ _ _ _=>Bb I n) h2 h4 h5 k5,el]
  | @lst ps qs _ h2 h4=>
   have el:ps.length=qs.length:=h2.length.symm.trans h4.length;have main:∀rs,r=.lst rs->b=c:=λrs e=>by
    subst e;by_cases hl:qs.length=rs.length
    . exact vp (f:=gC n) (λ_ _ _ _ _ _=>Bb I n) h2 h4 ((aca (el.trans hl)).symm.trans h) ((aca hl).symm.trans k)
    . exact aaA ((((acb λe=>hl (el.symm.trans e)).symm.trans h).symm.trans ((acb hl).symm.trans k)))
   rcases Ju h with e1 | ⟨rs,e⟩
   . rcases Ju k with e2 | ⟨rs,e⟩
     . exact e1.trans e2.symm
     . exact main rs e
   . exact main rs e
def G4 (f:PV->PV->Option Bool) (x:PV):List PV->Option Bool
 | []=>some false
 | q::qs=>(f q x).bind λb=>(G4 f x qs).map λc=>b||c
theorem Jv {f:PV->PV->Option Bool} {x:PV}:∀{qs:List PV} {b:Bool},G4 f x qs=some b->(∀q∈qs,∃c,f q x=some c)/\b=qs.any λq=>(f q x).getD false
 | [],b,h=>by cases h; exact⟨λq hq=>by simp at hq,rfl⟩
 | q::qs,b,h=>by
  obtain⟨c,h1,h2⟩:=aci h;obtain⟨d,h3,rfl⟩:=acj h2;obtain⟨i1,i2⟩:=Jv h3;refine⟨λq' hq=>?_,?_⟩
  . rcases aaj.mp hq with rfl | hq
    . exact⟨c,h1⟩
    . exact i1 q' hq
  . rw[ab0,h1,ab5,<-i2]
open Classical in
def worth (K:FG) (Z:ZG) (x:PV) (qs:List PV) (vs:List V) (its:List Value) (u:Value):Bool:=
 if h:∃(j:Nat) (q:PV),qs[j]?=some q/\its[j]?=some u then (gC 150 h.choose_spec.choose x).getD false else false
theorem G5 (I:Inv X pins σ H s) {x:PV} {xv:V} {xu:Value} {qs:List PV} {vs:List V} {its:List Value} (r:aH X.K ⟨H,g⟩ qs vs) (rv:Vals vs its) (hx:∀q∈qs,∃c,gC 150 q x=some c) {j:Nat} {q:PV} {u:Value} (e1:qs[j]?=some q) (e2:its[j]?=some u):
 worth X.K ⟨H,g⟩ x qs vs its u=(gC 150 q x).getD false:=by
 have h:∃(j:Nat) (q:PV),qs[j]?=some q/\its[j]?=some u:=⟨j,q,e1,e2⟩;unfold worth;rw[dif_pos h];obtain⟨f1,f2⟩:=h.choose_spec.choose_spec;generalize h.choose_spec.choose=q' at f1 f2;generalize h.choose=j' at f1 f2;obtain⟨v1,g1,g2⟩:=r.get e1;obtain⟨v2,k1,k2⟩:=r.get f1;obtain⟨u1,m1,m2⟩:=rv.get g1;obtain⟨u2,n1,n2⟩:=rv.get k1;rw[e2]at m1; cases m1;rw[f2]at n1; cases n1;have ev:=RelV.inj m2 n2;subst ev;obtain⟨c1,h1⟩:=hx q (aa0 e1);obtain⟨c2,h2⟩:=hx q' (aa0 f1);rw[h1,h2,Bb I 150 k2 g2 h2 h1]
theorem rz (I:Inv X pins σ H s) {x:PV} {xv:V} {xu:Value} {qs:List PV} {vs:List V} {its:List Value} (rx:Rep X.K ⟨H,g⟩ x xv) (ru:RelV xv xu) (r:aH X.K ⟨H,g⟩ qs vs) (rv:Vals vs its) (hx:∀q∈qs,∃c,gC 150 q x=some c) {A:Around} (hA:A.units+150<cLine):
 ∀u,u∈its.toArray->EqAt A s u xu (worth X.K ⟨H,g⟩ x qs vs its u):=λu hu=>by
 have hu':u∈its:=by simpa using hu
 obtain⟨j,hj,e⟩:=List.getElem_of_mem hu';have e2:its[j]?=some u:=by rw[aaB hj,e]
 have hl:=rv.length;have hlr:=r.length;have e1:qs[j]?=some (qs[j]'(by omega)):=aaB _;rw[G5 (xv:=xv) (xu:=xu) I r rv hx e1 e2];obtain⟨v1,g1,g2⟩:=r.get e1;obtain⟨u1,m1,m2⟩:=rv.get g1;rw[e2]at m1; cases m1;obtain⟨c1,h1⟩:=hx _ (aa0 e1);rw[h1];exact(Ba I 150 g2 rx m2 ru h1 A hA).1
theorem Ea (I:Inv X pins σ H s) {x:PV} {xv:V} {xu:Value} {qs:List PV} {vs:List V} {its:List Value} (r:aH X.K ⟨H,g⟩ qs vs) (rv:Vals vs its) (hx:∀q∈qs,∃c,gC 150 q x=some c):
 its.toArray.any (worth X.K ⟨H,g⟩ x qs vs its)=qs.any λq=>(gC 150 q x).getD false:=by
 have hl:its.length=qs.length:=by rw[<-rv.length,r.length]
 have key:its.map (worth X.K ⟨H,g⟩ x qs vs its)=qs.map λq=>(gC 150 q x).getD false:=by
  apply List.ext_getElem?;intro j;rw[aaJ,aaJ];by_cases hj:j<its.length
  . have e2:=aaB hj;have e1:qs[j]?=some (qs[j]'(by omega)):=aaB _;rw[e2,e1,abj,abj,G5 (xv:=xv) (xu:=xu) I r rv hx e1 e2]
  . rw[abQ (by omega),abQ (by omega)];rfl
 rw[show its.toArray.any (worth X.K ⟨H,g⟩ x qs vs its)=its.any (worth X.K ⟨H,g⟩ x qs vs its) by simp];have a1:its.any (worth X.K ⟨H,g⟩ x qs vs its)=(its.map (worth X.K ⟨H,g⟩ x qs vs its)).any id:=by simp[List.any_map]
 have a2:(qs.any λq=>(gC 150 q x).getD false)=(qs.map λq=>(gC 150 q x).getD false).any id:=by simp[List.any_map]
 rw[a1,a2,key]
end
section
variable {X:Cx}
theorem SR.rep2 {v w:V} {p q:PV} (h:SR K H0 Z0 σ H ρ ((w,.sh q)::(v,.sh p)::pd)):∃Z:ZG,du Z.z H/\Rep K Z p v/\Rep K Z q w:=by obtain⟨_,Z,_,z,r,s⟩:=h.sh;obtain⟨x,e1,e2⟩:=(s.perm cg.symm).1 _ aac;cases e1;exact⟨Z,z.zh,e2,r⟩
theorem SR.rep2H {v w:V} {p q:PV} (h:SR K H0 Z0 σ H ρ ((w,.sh q)::(v,.sh p)::pd)):∃g,Rep K ⟨H,g⟩ p v/\Rep K ⟨H,g⟩ q w:=by obtain⟨Z,z,a,b⟩:=h.rep2;exact⟨Z.g,a.mono (Z':=⟨H,Z.g⟩) ⟨z,abd _⟩,b.mono (Z':=⟨H,Z.g⟩) ⟨z,abd _⟩⟩
def G6 (K:FG) (neg:Bool):R2:=λx y H Q=>∃g p q b,Rep K ⟨H,g⟩ p x/\Rep K ⟨H,g⟩ q y/\gC 150 p q=some b/\Q (.bl (if neg then !b else b)) H
theorem fj {b:Bool} {k:Nat} (hr:eO b k X.A):d7 X (compareOp .Eq) (G6 X.K false):=by
 intro pins s σ H x y v u Q I rx ry h;obtain⟨g,p,q,b,rp,rq,e,k'⟩:=h;have hA:X.A.units+150<cLine:=by have:=hr.un; omega
 obtain⟨_,rc,_⟩:=Ba I 150 rp rq rx ry e X.A hA;exact rc _ _ _ _ ⟨.bl b,H,I,rfl,k'⟩
theorem wW {b:Bool} {k:Nat} (hr:eO b k X.A):d7 X (compareOp .NotEq) (G6 X.K true):=by
 intro pins s σ H x y v u Q I rx ry h;obtain⟨g,p,q,b,rp,rq,e,k'⟩:=h;have hA:X.A.units+150<cLine:=by have:=hr.un; omega
 obtain⟨_,_,rn⟩:=Ba I 150 rp rq rx ry e X.A hA;exact rn _ _ _ _ ⟨.bl (!b),H,I,rfl,k'⟩
def eqP (p q:PV):Option Lc:=(gC 150 p q).map λb=>.sh (.bl b)
def wX (p q:PV):Option Lc:=(gC 150 p q).map λb=>.sh (.bl (!b))
theorem fu:iM K (G6 K false) eqP:=by intro H0 Z0 σ ρ pd H v w x y l Q s e k;obtain⟨b,e1,rfl⟩:=acj e;obtain⟨g,r1,r2⟩:=s.rep2H;exact⟨g,x,y,b,r1,r2,e1,k _ H (s.pop.pop.scal dW)⟩
theorem wY:iM K (G6 K true) wX:=by intro H0 Z0 σ ρ pd H v w x y l Q s e k;obtain⟨b,e1,rfl⟩:=acj e;obtain⟨g,r1,r2⟩:=s.rep2H;exact⟨g,x,y,b,r1,r2,e1,k _ H (s.pop.pop.scal dW)⟩
def Q0 (K:FG) (neg:Bool):R2:=λx y H Q=>(∃g p qs b,Rep K ⟨H,g⟩ p x/\(Rep K ⟨H,g⟩ (.lst qs) y\/Rep K ⟨H,g⟩ (.tup qs) y)/\G4 (gC 150) p qs=some b/\Q (.bl (if neg then !b else b)) H)\/
 ∃i j,x=.str i/\y=.str j/\Q (.bl (if neg then (Builtin.Str.occurrences j i 0 j.length 1).isEmpty else !(Builtin.Str.occurrences j i 0 j.length 1).isEmpty)) H
theorem W2 {b:Bool} {k:Nat} (hr:eO b k X.A):d7 X (compareOp .In) (Q0 X.K false):=by
 intro pins s σ H x y v u Q I rx ry h;have hA:X.A.in1.units+150<cLine:=by have:=hr.un; show X.A.units+1+150<cLine; omega
 rcases h with ⟨g,p,qs,b,rp,rq,e,k'⟩ | ⟨i,j,rfl,rfl,k'⟩
 . obtain⟨i1,i2⟩:=Jv e;rcases rq with rq | rq
   . obtain⟨a,vs,its,rfl,q1,l1,rv1,t1⟩:=uC I rq ry;refine SeqAt.in_listAt (worth X.K ⟨H,g⟩ p qs vs its) t1 (rz I rp rx l1 rv1 i1 hA) ⟨.bl b,H,I,?_,k'⟩;rw[Ea (xv:=x) (xu:=v) I l1 rv1 i1,<-i2];rfl
   . obtain⟨a,vs,its,rfl,q1,l1,rv1,t1⟩:=uB I rq ry;refine SeqAt.in_tupleAt (worth X.K ⟨H,g⟩ p qs vs its) t1 (rz I rp rx l1 rv1 i1 hA) ⟨.bl b,H,I,?_,k'⟩;rw[Ea (xv:=x) (xu:=v) I l1 rv1 i1,<-i2];rfl
 . exact Mt pins s σ H (.str i) (.str j) v u Q I rx ry ⟨i,j,rfl,rfl,k'⟩
def isIn (x y:PV):Option Bool:=match y with
 | .lst qs=>G4 (gC 150) x qs
 | .tup qs=>G4 (gC 150) x qs
 | .str j=>match x with
  | .str i=>some (!(Builtin.Str.occurrences j i 0 j.length 1).isEmpty)
  | _=>none
 | _=>none
def Sw (p q:PV):Option Lc:=(isIn p q).map λb=>.sh (.bl b)
theorem W3 {neg:Bool}:iM K (Q0 K neg) (λp q=>(isIn p q).map λb=>.sh (.bl (if neg then !b else b))):=by
 intro H0 Z0 σ ρ pd H v w x y l Q s e k;obtain⟨b,e1,rfl⟩:=acj e;obtain⟨g,r1,r2⟩:=s.rep2H;cases y with
 | lst qs=>exact .inl ⟨g,x,qs,b,r1,.inl r2,e1,k _ H (s.pop.pop.scal dW)⟩
 | tup qs=>exact .inl ⟨g,x,qs,b,r1,.inr r2,e1,k _ H (s.pop.pop.scal dW)⟩
 | str j=>
  cases x with
  | str i=>
   have e1':=aaA e1;subst e1';refine .inr ⟨i,j,cZ r1,cZ r2,?_⟩;have:=k (.bl (if neg then (Builtin.Str.occurrences j i 0 j.length 1).isEmpty else !(Builtin.Str.occurrences j i 0 j.length 1).isEmpty)) H;refine this (s.pop.pop.scal λZ=>?_);cases neg<;>simp[Rep]
  | _=>cases e1
 | _=>cases e1
theorem Uv:iM K (Q0 K false) Sw:=W3
def Bc:PV->Bool
 | .non=>true
 | _=>false
def vy (p q:PV):Option Lc:=match q with
 | .non=>some (.sh (.bl (Bc p)))
 | _=>none
theorem Uw {Z:ZG} {p:PV} {v:V} (r:Rep K Z p v):decide (v=.non)=Bc p:=by
 cases p with
 | non=>have:=gA r; subst this; rfl
 | bl b=>have:=dB r; subst this; rfl
 | int b=>have:=bK r; subst this; rfl
 | str b=>have:=cZ r; subst this; rfl
 | tup ps=>unfold Rep at r; obtain⟨a,vs,rfl,_⟩:=r; rfl
 | lst ps=>unfold Rep at r; obtain⟨a,vs,rfl,_⟩:=r; rfl
 | dk ks ps=>unfold Rep at r; obtain⟨a,vs,rfl,_⟩:=r; rfl
 | dt ks ps=>unfold Rep at r; obtain⟨a,vs,rfl,_⟩:=r; rfl
 | obj c ks ps=>unfold Rep at r; obtain⟨a,c,dx,fs,rfl,_⟩:=r; rfl
 | df ks ps=>unfold Rep at r; obtain⟨a,o,kvs,rfl,_⟩:=r; rfl
 | dtf ks ps=>unfold Rep at r; obtain⟨a,o,kvs,rfl,_⟩:=r; rfl
 | dx hk ks ps=>unfold Rep at r; obtain⟨a,xs,rfl,_⟩:=r; rfl
 | exc n=>unfold Rep at r; obtain⟨a,c,rfl,_⟩:=r; rfl
 | ptr n=>unfold Rep at r; obtain⟨a,rfl,_⟩:=r; rfl
theorem ym:iM K (λx y H Q=>y=.non/\Q (.bl (decide (x=.non))) H) vy:=by
 intro H0 Z0 σ ρ pd H v w x y l Q s e k;obtain⟨g,r1,r2⟩:=s.rep2H;cases y with
 | non=>
  have e':=aaA e;subst e';refine⟨gA r2,?_⟩;rw[Uw r1];exact k _ H (s.pop.pop.scal dW)
 | _=>cases e
def oA:=sU (λ_ _=>true) λi j=>.bl (decide (i<j))
def Bd:=sU (λ_ _=>true) λi j=>.bl (decide (i<=j))
def qe:=sU (λ_ _=>true) λi j=>.bl (decide (j<i))
def Sx:=sU (λ_ _=>true) λi j=>.bl (decide (j<=i))
theorem uD:iM K (qT λi j=>.bl (decide (i<j))) oA:=wN λ_ _ _=>dW _
theorem G7:iM K (qT λi j=>.bl (decide (i<=j))) Bd:=wN λ_ _ _=>dW _
theorem wZ:iM K (qT λi j=>.bl (decide (j<i))) qe:=wN λ_ _ _=>dW _
theorem W4:iM K (qT λi j=>.bl (decide (j<=i))) Sx:=wN λ_ _ _=>dW _
def w6:=sU (λ_ _=>true) λi j=>.int (i-j)
def cI:=sU (λ_ j=>decide (0<j)) λi j=>.int (i%j)
def nj:=sU (λ_ j=>decide (0<j/\j<1073741824)) λi j=>.int (i/j)
def jw:=sU (λi j=>decide ((-(2 ^ 64)<i/\i<2 ^ 64)\/(-(2 ^ 64)<j/\j<2 ^ 64))) λi j=>.int (i*j)
def CP:=sU (λi j=>decide (0<=j/\j<=1000000/\i.natAbs<2 ^ 64)) λi j=>.int (i ^ j.toNat)
theorem uE:iM K (qT λi j=>.int (i-j)) w6:=wN λ_ _ _=>dO _
theorem cP:iM K (rI (λ_ j=>0<j) λi j=>.int (i%j)) cI:=Aw (λ_ _ h=>of_decide_eq_true h) λ_ _ _=>dO _
theorem oJ:iM K (rI We λi j=>.int (i/j)) nj:=Aw (λi j h=>(of_decide_eq_true h:0<j/\j<1073741824)) λ_ _ _=>dO _
theorem jV:iM K (rI Kr λi j=>.int (i*j)) jw:=Aw (λi j h=>(of_decide_eq_true h:(-(2 ^ 64)<i/\i<2 ^ 64)\/(-(2 ^ 64)<j/\j<2 ^ 64))) λ_ _ _=>dO _
theorem CQ:iM K (rI Wg λi j=>.int (i ^ j.toNat)) CP:=Aw (λi j h=>(of_decide_eq_true h:0<=j/\j<=1000000/\i.natAbs<2 ^ 64)) λ_ _ _=>dO _
def Qn (K:FG):R2:=λx y H Q=>qT (λi j=>.int (i+j)) x y H Q\/(∃i j,x=.str i/\y=.str j/\i.length+j.length<=sizeLine/\Q (.str (i++j)) H)\/
 (∃a b xs ys,x=.ref a/\y=.ref b/\bR K H a xs/\bR K H b ys/\xs.length+ys.length<=sizeLine/\∀p,H p=none->Q (.ref p) (upd H p (.lst (xs++ys))))\/RZ K x y H Q
theorem ik:d7 X (binaryOp .Add) (Qn X.K):=Wh.or (Kw.or (Uj.or T8))
def eX:PV->PV->Option Lc
 | .int i,.int j=>some (.sh (.int (i+j)))
 | .str i,.str j=>if i.length+j.length<=100000 then some (.sh (.str (i++j))) else none
 | .lst ps,.lst qs=>if ps.length+qs.length<=100000 then some (.own (.lst (ps++qs))) else none
 | .tup (p::ps),.tup qs=>if ps.length+qs.length<=10000 then some (.sh (.tup (p::ps++qs))) else none
 | _,_=>none
theorem zq {α:Type} {c:Prop} [Decidable c] {a b:α} (e:(if c then some a else none)=some b):c/\a=b:=by
 split at e
 . rename_i h;exact⟨h,aaA e⟩
 . cases e
theorem Ux {x y:PV} {l:Lc} (e:eX x y=some l):(∃i j,x=.int i/\y=.int j/\l=.sh (.int (i+j)))\/(∃i j,x=.str i/\y=.str j/\i.length+j.length<=100000/\l=.sh (.str (i++j)))
 \/ (∃ps qs,x=.lst ps/\y=.lst qs/\ps.length+qs.length<=100000/\l=.own (.lst (ps++qs)))\/∃p ps qs,x=.tup (p::ps)/\y=.tup qs/\ps.length+qs.length<=10000/\l=.sh (.tup (p::ps++qs)):=by
 unfold eX at e;split at e
 . cases e;exact .inl ⟨_,_,rfl,rfl,rfl⟩
 . obtain⟨h,e⟩:=zq e;exact .inr (.inl ⟨_,_,rfl,rfl,h,e.symm⟩)
 . obtain⟨h,e⟩:=zq e;exact .inr (.inr (.inl ⟨_,_,rfl,rfl,h,e.symm⟩))
 . obtain⟨h,e⟩:=zq e;exact .inr (.inr (.inr ⟨_,_,_,rfl,rfl,h,e.symm⟩))
 . cases e
theorem il:iM K (Qn K) eX:=by
 intro H0 Z0 σ ρ pd H v w x y l Q s e k;obtain⟨g,r1,r2⟩:=s.rep2H;rcases Ux e with ⟨i,j,rfl,rfl,rfl⟩ | ⟨i,j,rfl,rfl,hl,rfl⟩ | ⟨ps,qs,rfl,rfl,hl,rfl⟩ | ⟨p,ps,qs,rfl,rfl,hl,rfl⟩
 . exact .inl ⟨i,j,bK r1,bK r2,k _ H (s.pop.pop.scal dO)⟩
 . exact .inr (.inl ⟨i,j,cZ r1,cZ r2,small hl,k _ H (s.pop.pop.scal uz)⟩)
 . obtain⟨el,Z,hg,z,rq,s1⟩:=s.sh;have s2:=s1.perm cg.symm;obtain⟨_,e1,rp⟩:=s2.1 _ aac;cases e1;unfold Rep at rp rq;obtain⟨a,xs,rfl,h1,h2⟩:=rp;obtain⟨b,ys,rfl,h3,h4⟩:=rq;refine .inr (.inr (.inl ⟨a,b,xs,ys,rfl,rfl,bR.same z.zh h1,bR.same z.zh h3,by rw[h2.length,h4.length]; exact small hl,λp hp=>k _ _ ?_⟩));obtain⟨z',s'⟩:=(s2.sub (aaq _ _)).new (o:=.lst (xs++ys)) (p:=.lst (ps++qs)) z hp ⟨xs++ys,bN,h2.append h4⟩;exact .mk el hg z' s'
 . obtain⟨el,Z,hg,z,rq,s1⟩:=s.sh;have s2:=s1.perm cg.symm;obtain⟨_,e1,rp⟩:=s2.1 _ aac;cases e1;unfold Rep at rp rq;obtain⟨a,xs,rfl,h1,h2⟩:=rp;obtain⟨b,ys,rfl,h3,h4⟩:=rq;have hx:xs≠[]:=λh=>by have:=h2.length; rw[h]at this; simp at this
   have hz:=h2.length;have hz':=h4.length;rw[aae]at hz;refine .inr (.inr (.inr ⟨a,b,xs,ys,rfl,rfl,cM.same z.zh h1,cM.same z.zh h3,hx,small (by omega),λh=>?_,λh q hq=>?_⟩))
   . subst h;have:qs=[]:=abS hz'.symm;subst this;rw[aau]at k;exact k _ H s.pop
   . have s3:=s2.sub (aaq _ _);obtain⟨z',sz,s'⟩:=s3.newF (o:=.tup (xs++ys)) z hq;refine k _ _ (.mk (Z:=Z.put q (.tup (xs++ys))) el hg z' (s'.consS ?_));unfold Rep;exact⟨q,xs++ys,rfl,cM.of bN,(h2.append h4).mono sz⟩
def uF:PV->PV->Option Lc
 | .lst ps,.int i=>(gw ps i).map .sh
 | .tup ps,.int i=>(gw ps i).map .sh
 | .str x,.int i=>if x.length<=100000 then (gw x.cps.toList i).map λc=>.sh (.str ⟨#[c]⟩) else none
 | _,_=>none
theorem yo {α β:Type} {l:List α} {r:List β} {i:Int} {x:α} (h:gw l i=some x) (e:r.length=l.length):∃(j:Nat),l[j]?=some x/\∀y,r[j]?=some y->gw r i=some y:=by unfold gw at h;obtain⟨j,h1,h2⟩:=aci h;refine⟨j,h2,λy hy=>?_⟩;unfold gw;rw[e,h1];exact hy
theorem W5 {x y:PV} {l:Lc} (e:uF x y=some l):∃i,y=.int i/\((∃ps,(x=.lst ps\/x=.tup ps)/\(gw ps i).map Lc.sh=some l)\/∃t c,x=.str t/\t.length<=100000/\gw t.cps.toList i=some c/\l=.sh (.str ⟨#[c]⟩)):=by
 unfold uF at e;split at e
 . exact⟨_,rfl,.inl ⟨_,.inl rfl,e⟩⟩
 . exact⟨_,rfl,.inl ⟨_,.inr rfl,e⟩⟩
 . split at e
   . rename_i h;obtain⟨c,h1,rfl⟩:=acj e;exact⟨_,rfl,.inr ⟨_,c,rfl,h,h1,rfl⟩⟩
   . cases e
 . cases e
theorem Nz:iM K (Wv K) uF:=by
 intro H0 Z0 σ ρ pd H v w x y l Q s e k;obtain⟨i,rfl,hx⟩:=W5 e;obtain⟨el,Z,hg,z,r2,s1⟩:=s.sh;have s2:=s1.perm cg.symm;obtain⟨_,e1,r1⟩:=s2.1 _ aac;cases e1;have s3:=s2.sub (aaq _ _);have ew:=bK r2;rcases hx with ⟨ps,hx,h0⟩ | ⟨x,c,rfl,hl,h1,rfl⟩
 . obtain⟨p,h1,rfl⟩:=acj h0;rcases hx with rfl | rfl
   . unfold Rep at r1;obtain⟨a,vs,rfl,h2,h3⟩:=r1;obtain⟨j,e1,e2⟩:=yo h1 h3.length;obtain⟨u,e3,e4⟩:=h3.get e1;exact .inl ⟨a,vs,i,u,rfl,ew,bR.same z.zh h2,e2 u e3,k _ H (.mk el hg z (s3.consS e4))⟩
   . unfold Rep at r1;obtain⟨a,vs,rfl,h2,h3⟩:=r1;obtain⟨j,e1,e2⟩:=yo h1 h3.length;obtain⟨u,e3,e4⟩:=h3.get e1;exact .inr (.inl ⟨a,vs,i,u,rfl,ew,cM.same z.zh h2,e2 u e3,k _ H (.mk el hg z (s3.consS e4))⟩)
 . exact .inr (.inr ⟨x,i,c,cZ r1,ew,small hl,h1,k _ H (s.pop.pop.scal uz)⟩)
def vz (ps:List PV) (lo hi:Option Int):List PV:=(ps.drop (HT.sIx ps.length 0 lo)).take (HT.sIx ps.length ps.length hi-HT.sIx ps.length 0 lo)
abbrev OF:=Ev->Option (Option Int×Ev)
def Jw (K:FG) (f:OF):TO:=λσ H Q=>∃H0 Z0 ρ pd r ρ',SR K H0 Z0 σ H ρ pd/\f ρ=some (r,ρ')/\∀H',SR K H0 Z0 σ H' ρ' pd->Q r H'
theorem PO.imp {e:Option Expr} {t t':TO} (h:PO X e t) (i:∀σ H Q,t' σ H Q->t σ H Q):PO X e t':=λpins s σ H Q I q=>h pins s σ H Q I (i σ H Q q)
def nq:OF:=λρ=>some (none,ρ)
def nA (f:EF):OF:=λρ=>(f ρ).bind λx=>match x.1.pv with
 | .int i=>some (some i,x.2)
 | _=>none
theorem CT:PO X none (Jw X.K nq):=PO.imp T6 λσ H Q q=>by obtain⟨H0,Z0,ρ,pd,r,ρ',s,h,k⟩:=q;cases h;exact k H s
theorem CV {e:Expr} {f:EF} (h:PE X e (tP X.K f)):PO X (some e) (Jw X.K (nA f)):=PO.imp (T7 h) λσ H Q q=>by
 obtain⟨H0,Z0,ρ,pd,r,ρ',s,h,k⟩:=q;obtain⟨x,h1,h2⟩:=aci h;refine⟨H0,Z0,ρ,pd,x.1,x.2,s,h1,λv H1 s1=>?_⟩;obtain⟨_,r1⟩:=s1.freeze.repH;cases e:x.1.pv with
 | int i=>
  rw[e]at h2 r1;cases h2;exact⟨i,bK r1,k H1 s1.pop⟩
 | _=>rw[e]at h2; cases h2
theorem aH.cut {Z:ZG} {ps:List PV} {vs:List V} {lo hi:Option Int} (h:aH K Z ps vs):aH K Z (vz ps lo hi) (qU vs lo hi):=by unfold vz qU;rw[h.length];exact(h.drop _).take _
def jn (K:FG) (r:List V->Hp->VK->Prop) (g:List PV->Option Lc):Prop:=∀H0 Z0 σ ρ pd H vs ps l Q,vs.length=ps.length->SR K H0 Z0 σ H ρ (vs.zip (ps.map Lc.sh)++pd)->g ps=some l->(∀u H',SR K H0 Z0 σ H' ρ ((u,l)::pd)->Q u H')->r vs H Q
def eB (g:List PV->Option Lc) (a:AF):EF:=λρ=>(a ρ).bind λy=>(g (y.1.map Lc.pv)).map λl=>(l,y.2)
theorem pC {r:List V->Hp->VK->Prop} {g:List PV->Option Lc} (hs:jn X.K r g) {a:AF}:∀σ H Q,tP X.K (eB g a) σ H Q->DP r (gQ X.K a) σ H Q:=λσ H Q q=>by
 obtain⟨H0,Z0,ρ,pd,l,ρ',s,f,k⟩:=q;obtain⟨y,h1,h2⟩:=aci f;obtain⟨l',h3,h4⟩:=acj h2;cases h4;refine⟨H0,Z0,ρ,pd,y.1,y.2,s,h1,λvs H2 e2 s2=>?_⟩;have s3:=s2.freezeAll;have hm:(y.1.map λl=>Lc.sh l.pv)=(y.1.map Lc.pv).map Lc.sh:=by rw[aaX]; rfl
 rw[hm]at s3;exact hs H0 Z0 σ y.2 pd H2 vs (y.1.map Lc.pv) _ Q (by simpa using e2) s3 h3 k
theorem Be {x:Str} {id:String} {r:List V->Hp->VK->Prop} {g:List PV->Option Lc} {e:Expr} {es:List Expr} {a:AF} {p pos:Pos} (hc:m8 X (.builtin id) r) (hs:jn X.K r g) (h:PE X (.Call (.Name x p) (e::es) [] pos) (DP r (gQ X.K a))):PE X (.Call (.Name x p) (e::es) [] pos) (tP X.K (eB g a)):=PE.imp h (pC hs)
theorem jn.one {r:List V->Hp->VK->Prop} {g:PV->Option Lc} (h:∀H0 Z0 σ ρ pd H v p l Q,SR K H0 Z0 σ H ρ ((v,.sh p)::pd)->g p=some l->(∀u H',SR K H0 Z0 σ H' ρ ((u,l)::pd)->Q u H')->r [v] H Q):
 jn K r (λps=>match ps with | [p]=>g p | _=>none):=by
 intro H0 Z0 σ ρ pd H vs ps l Q e s hg k
 match ps,vs,e,s,hg with
 | [p],[v],_,s,hg=>exact h H0 Z0 σ ρ pd H v p l Q s hg k
 | [p],[],e,_,_=>simp at e
 | [p],_::_::_,e,_,_=>simp at e
 | [],_,_,_,hg=>cases hg
 | _::_::_,_,_,_,hg=>cases hg
def Q4:PV->Option Lc
 | .str x=>if x.length<=100000 then some (.sh (.int x.length)) else none
 | .lst ps=>some (.sh (.int ps.length))
 | .tup ps=>some (.sh (.int ps.length))
 | _=>none
abbrev gZ:List PV->Option Lc:=λps=>match ps with | [p]=>Q4 p | _=>none
theorem NB:jn K (λxs H Q=>∃x n,xs=[x]/\Qk K x H n/\Q (.int n) H) gZ:=jn.one λH0 Z0 σ ρ pd H v p l Q s e k=>by
 obtain⟨_,r⟩:=s.repH;cases p with
 | str x=>
  have e':(if x.length<=100000 then some (Lc.sh (.int x.length)) else none)=some l:=e;split at e'
  . rename_i hl;cases e';have:=cZ r;subst this;exact⟨_,x.length,rfl,⟨small hl,rfl⟩,k _ H (s.pop.scal dO)⟩
  . cases e'
 | lst ps=>
  cases e;unfold Rep at r;obtain⟨a,vs,rfl,h1,h2⟩:=r;exact⟨_,ps.length,rfl,.inl ⟨vs,h1,h2.length.symm⟩,k _ H (s.pop.scal dO)⟩
 | tup ps=>
  cases e;unfold Rep at r;obtain⟨a,vs,rfl,h1,h2⟩:=r;exact⟨_,ps.length,rfl,.inr ⟨vs,h1,h2.length.symm⟩,k _ H (s.pop.scal dO)⟩
 | _=>cases e
def YK:PV->Option Lc
 | .lst ps=>some (.own (.lst ps))
 | .tup ps=>some (.own (.lst ps))
 | _=>none
abbrev list1:List PV->Option Lc:=λps=>match ps with | [p]=>YK p | _=>none
theorem uG:jn K (λxs H Q=>∃p ys,xs=[.ref p]/\(bR K H p ys\/cM K H p ys)/\∀l,H l=none->Q (.ref l) (upd H l (.lst ys))) list1:=jn.one λH0 Z0 σ ρ pd H v p l Q s e k=>by
 obtain⟨el,Z,hg,z,r,s1⟩:=s.sh;cases p with
 | lst ps=>
  cases e;unfold Rep at r;obtain⟨a,vs,rfl,h1,h2⟩:=r;refine⟨a,vs,rfl,.inl (bR.same z.zh h1),λq hq=>k _ _ ?_⟩;obtain⟨z',s'⟩:=s1.new (o:=.lst vs) (p:=.lst ps) z hq ⟨_,bN,h2⟩;exact .mk el hg z' s'
 | tup ps=>
  cases e;unfold Rep at r;obtain⟨a,vs,rfl,h1,h2⟩:=r;refine⟨a,vs,rfl,.inr (cM.same z.zh h1),λq hq=>k _ _ ?_⟩;obtain⟨z',s'⟩:=s1.new (o:=.lst vs) (p:=.lst ps) z hq ⟨_,bN,h2⟩;exact .mk el hg z' s'
 | _=>cases e
theorem Ev.set_set {i:Nat} {x y:Option Lc}:(ρ.set i x).set i y=ρ.set i y:=by show Ev.mk ((ρ.vs.set i x).set i y) ρ.mu=_;rw[aba];rfl
theorem SR.takeO {i:Nat} {ws:List PV} (s:SR K H0 Z0 σ H ρ pd) (e:ρ.vs[i]?=some (some (.own (.lst ws)))):
 ∃a,σ[i]?=some (some (.ref a))/\(∃us,H a=some (.lst us))/\SR K H0 Z0 σ H (ρ.set i none) ((.ref a,.own (.lst ws))::pd):=by
 obtain⟨v,e1,s1⟩:=s.take e;obtain⟨_,Z,_,z,so⟩:=s1.top;obtain⟨a,ea,⟨us,hu,_⟩,_⟩:=so.1 _ aac;have ea':v=.ref a:=aaA ea;subst ea';exact⟨a,e1,⟨us,hu⟩,s1⟩
def zr (i:Nat) (f:EF):SF:=λρ=>match ρ.vs[i]? with
 | some (some (.own (.lst _)))=>(f ρ).bind λy=>match y.2.vs[i]? with
  | some (some (.own (.lst ws)))=>if ws.length<100000 then some (.nx (y.2.set i (some (.own (.lst (ws++[y.1.pv])))))) else none
  | _=>none
 | _=>none
theorem W6 {i:Nat} {o e:Expr} {f:EF} {apos cpos pos:Pos} (h:PS X (.Expr (.Call (.Attribute o "append" apos) [e] [] cpos) pos) (uW (MK X.K "list" Cw (qQ i) (gQ X.K (aj f ao))))):
 PS X (.Expr (.Call (.Attribute o "append" apos) [e] [] cpos) pos) (fV X.K (zr i f)):=PS.imp h λD σ H q=>by
 obtain⟨H0,Z0,ρ,pd,fl,s,h,k⟩:=q;unfold zr at h;split at h
 . rename_i ws0 e0;obtain⟨y,h1,h2⟩:=aci h;obtain⟨a,ea,⟨us,hu⟩,_⟩:=s.takeO e0;refine⟨.ref a,ea,.inl ⟨rfl,us,bR.of hu⟩,H0,Z0,ρ,pd,[y.1],y.2,s,?_,λvs H2 e2 s2=>?_⟩
   . unfold aj ao;rw[h1];rfl
   . obtain⟨v1,rfl⟩:=yP e2;split at h2
     . rename_i ws e3;split at h2
       . rename_i hz;cases h2;obtain⟨a',ea',_,s3⟩:=SR.takeO s2 e3;rw[ea]at ea'; cases ea';have s4:SR X.K H0 Z0 σ H2 (y.2.set i none) ((v1,y.1)::(.ref a,.own (.lst ws))::pd):=s3.swap;obtain⟨us2,hu2,hl,s5⟩:=s4.pushO;refine⟨a,us2,v1,rfl,rfl,hu2,by rw[hl,sizeLine_eq]; omega,k σ _ ?_⟩;have s6:=s5.put ea;rw[Ev.set_set]at s6;exact s6
       . cases h2
     . cases h2
 . cases h
theorem SR.extO {v:V} {ps:List PV} {a:Addr} {ws:List PV} (s:SR K H0 Z0 σ H ρ ((v,.sh (.lst ps))::(.ref a,.own (.lst ws))::pd)):
 ∃b us zs,v=.ref b/\bR K H b zs/\H a=some (.lst us)/\us.length=ws.length/\zs.length=ps.length/\SR K H0 Z0 σ (upd H a (.lst (us++zs))) ρ ((.ref a,.own (.lst (ws++ps)))::pd):=by
 obtain⟨el,Z,hg,z,r,so⟩:=s.sh;unfold Rep at r;obtain⟨b,zs,rfl,h1,h2⟩:=r;have so2:=so.perm cg.symm;obtain⟨_,eb,⟨us,hu,hr⟩,_⟩:=so2.1 _ aac;cases eb;refine⟨b,us,zs,rfl,bR.same z.zh h1,hu,hr.length,h2.length,?_⟩;obtain⟨z',s'⟩:=so2.write (o:=.lst (us++zs)) (q:=.lst (ws++ps)) z ⟨us++zs,bN,hr.append h2⟩;exact .mk el hg z' s'
def nC (i:Nat) (f:EF):SF:=λρ=>match ρ.vs[i]? with
 | some (some (.own (.lst _)))=>(f ρ).bind λy=>match y.1.pv,y.2.vs[i]? with
  | .lst ps,some (some (.own (.lst ws)))=>if ws.length+ps.length<=100000 then some (.nx (y.2.set i (some (.own (.lst (ws++ps)))))) else none
  | _,_=>none
 | _=>none
theorem W7 {i:Nat} {o e:Expr} {f:EF} {apos cpos pos:Pos} (h:PS X (.Expr (.Call (.Attribute o "extend" apos) [e] [] cpos) pos) (uW (MK X.K "list" (zg X.K) (qQ i) (gQ X.K (aj f ao))))):
 PS X (.Expr (.Call (.Attribute o "extend" apos) [e] [] cpos) pos) (fV X.K (nC i f)):=PS.imp h λD σ H q=>by
 obtain⟨H0,Z0,ρ,pd,fl,s,h,k⟩:=q;unfold nC at h;split at h
 . rename_i ws0 e0;obtain⟨y,h1,h2⟩:=aci h;obtain⟨a,ea,⟨us,hu⟩,_⟩:=s.takeO e0;refine⟨.ref a,ea,.inl ⟨rfl,us,bR.of hu⟩,H0,Z0,ρ,pd,[y.1],y.2,s,?_,λvs H2 e2 s2=>?_⟩
   . unfold aj ao;rw[h1];rfl
   . obtain⟨v1,rfl⟩:=yP e2;split at h2
     . rename_i ps ws ep e3;split at h2
       . rename_i hz;cases h2;obtain⟨a',ea',_,s3⟩:=SR.takeO s2 e3;rw[ea]at ea'; cases ea';have s4:SR X.K H0 Z0 σ H2 (y.2.set i none) ((v1,.sh y.1.pv)::(.ref a,.own (.lst ws))::pd):=s3.swap.freeze;rw[ep]at s4;obtain⟨b,us2,zs,rfl,hb,hu2,hl,hl2,s5⟩:=s4.extO;refine⟨a,b,us2,zs,rfl,rfl,hu2,hb,by rw[hl,hl2]; exact small hz,k σ _ ?_⟩;have s6:=s5.put ea;rw[Ev.set_set]at s6;exact s6
       . cases h2
     . cases h2
 . cases h
def aal (i:Nat) (fi fv:EF):SF:=λρ=>(fv ρ).bind λx=>match x.2.vs[i]? with
 | some (some (.own (.lst _)))=>(fi x.2).bind λy=>match y.1.pv,y.2.vs[i]? with
  | .int k,some (some (.own (.lst ws)))=>(Ac ws.length k).map λj=>.nx (y.2.set i (some (.own (.lst (ws.set j x.1.pv)))))
  | _,_=>none
 | _=>none
theorem xf {g:List Addr} {mu:Mu} {n:Nat} {a:Addr} {o:Option PV} (hg:g[n]?=some a) (hm:mu[n]?=some o):∃R:Sl,List.Perm (cel g mu) ((some (.ref a),o.map Lc.own)::R)/\∀o',List.Perm (cel g (mu.set n o')) ((some (.ref a),o'.map Lc.own)::R):=by
 have h1:(g.map λa=>some (V.ref a))[n]?=some (some (.ref a)):=by rw[aaJ,hg]; rfl
 have h2:(mu.map λo=>o.map Lc.own)[n]?=some (o.map Lc.own):=by rw[aaJ,hm]; rfl
 obtain⟨R,p1,p2⟩:=wM (zip_get h1 h2);refine⟨R,p1,λo'=>?_⟩;have:=p2 (some (.ref a),o'.map Lc.own);rw[<-CJ,ack h1]at this;unfold cel;rw[List.map_set];exact this
theorem SR.cellO {v:V} {n:Nat} {p:PV} (s:SR K H0 Z0 σ H ρ ((v,.sh (.ptr n))::pd)) (hm:ρ.mu[n]?=some (some p)):
 ∃a,v=.ref a/\SR K H0 Z0 σ H ⟨ρ.vs,ρ.mu.set n none⟩ ((.ref a,.own p)::(.ref a,.sh (.ptr n))::pd):=by
 obtain⟨el,Z,hg,z,r,so⟩:=s.sh;have r0:=r;unfold Rep at r;obtain⟨a,rfl,ha⟩:=r;obtain⟨R,p1,p2⟩:=xf ha hm;refine⟨a,rfl,.mk (Z:=Z) el (by simpa using hg) z ?_⟩;have so2:Slots K H0 Z H ((some (.ref a),some (.own p))::(R++(σ.zip ρ.vs++pd.map λe=>(some e.1,some e.2)))):=so.perm (p1.append_right _).symm;have so3:Slots K H0 Z H ((some (.ref a),none)::(some (.ref a),some (.own p))::(R++(σ.zip ρ.vs++pd.map λe=>(some e.1,some e.2)))):=by
  refine⟨λe he=>?_,?_⟩
  . rcases aaj.mp he with rfl | he
    . trivial
    . exact so2.1 e he
  . rw[aaV rfl]; exact so2.2
 have so4:Slots K H0 Z H ((some (.ref a),some (.own p))::sl Z.g σ ⟨ρ.vs,ρ.mu.set n none⟩ pd):=(so3.perm (List.Perm.swap _ _ _)).perm (List.Perm.cons _ ((p2 none).append_right _));exact((so4.consS r0).perm (List.Perm.swap _ _ _)).perm (List.Perm.cons _ cg)
theorem SR.cellP {a:Addr} {n:Nat} {q:PV} (s:SR K H0 Z0 σ H ρ ((.ref a,.own q)::(.ref a,.sh (.ptr n))::pd)) (hm:ρ.mu[n]?=some none):SR K H0 Z0 σ H ⟨ρ.vs,ρ.mu.set n (some q)⟩ pd:=by obtain⟨el,Z,hg,z,r,so⟩:=s.swap.sh;unfold Rep at r;obtain⟨b,eb,ha⟩:=r;cases eb;obtain⟨R,p1,p2⟩:=xf ha hm;have so2:=so.perm cg.symm;refine⟨el,Z,by simpa using hg,z,?_⟩;have p3:List.Perm (sl Z.g σ ρ pd) ((some (.ref a),none)::(R++(σ.zip ρ.vs++pd.map λe=>(some e.1,some e.2)))):=p1.append_right _;have so3:=so2.perm (p3.symm.cons _);have so4:=so3.sub (L':=(some (.ref a),some (.own q))::(R++(σ.zip ρ.vs++pd.map λe=>(some e.1,some e.2)))) ((aaq _ _).cons_cons _);exact so4.perm ((p2 (some q)).append_right _)
def aam (fo fi fv:EF):SF:=λρ=>(fv ρ).bind λx=>(fo x.2).bind λo=>(fi o.2).bind λy=>match o.1.pv,y.1.pv with
 | .ptr n,.int k=>match y.2.mu[n]? with
  | some (some (.lst ws))=>(Ac ws.length k).map λj=>.nx ⟨y.2.vs,y.2.mu.set n (some (.lst (ws.set j x.1.pv)))⟩
  | _=>none
 | _,_=>none
def aY (fa fb:EF):EF:=λρ=>(fa ρ).bind λx=>(fb x.2).bind λy=>match x.1.pv,y.1.pv with
 | .ptr n,.int k=>match y.2.mu[n]? with
  | some (some (.lst ws))=>(gw ws k).map λp=>(.sh p,y.2)
  | _=>none
 | p,q=>(uF p q).map λl=>(l,y.2)
theorem lN {a b:Expr} {pos:Pos} {fa fb:EF} (ha:PE X a (tP X.K fa)) (hb:PE X b (tP X.K fb)) (hm:yf b):PE X (.Subscript a b pos) (tP X.K (aY fa fb)):=PE.imp (KY MF ha hb hm) λσ H Q q=>by
 obtain⟨H0,Z0,ρ,pd,l,ρ',s,f,k⟩:=q;obtain⟨x,h1,h2⟩:=aci f;obtain⟨y,h3,h4⟩:=aci h2;refine⟨H0,Z0,ρ,pd,x.1,x.2,s,h1,λv H1 s1=>⟨H0,Z0,x.2,_,y.1,y.2,s1,h3,λw H2 s2=>?_⟩⟩;have s3:=s2.freeze.swap.freeze.swap;split at h4
 . rename_i n kk en ek;split at h4
   . rename_i ws em;obtain⟨p,h5,h6⟩:=acj h4;cases h6;rw[en,ek]at s3;obtain⟨_,rw'⟩:=s3.repH;have ew:=bK rw';obtain⟨a,rfl,s5⟩:=s3.pop.cellO em;obtain⟨el,Z,hg,z,so⟩:=s5.top;obtain⟨_,ea,⟨us,hu,hr⟩,_⟩:=so.1 _ aac;cases ea;obtain⟨j,e1,e2⟩:=yo h5 hr.length;obtain⟨u,e3,e4⟩:=hr.get e1;refine .inl ⟨a,us,kk,u,rfl,ew,bR.of hu,e2 u e3,k u H2 ?_⟩;have s6:SR X.K H0 Z0 σ H2 ⟨y.2.vs,y.2.mu.set n none⟩ ((u,.sh p)::(.ref a,.own (.lst ws))::(.ref a,.sh (.ptr n))::pd):=.mk (Z:=Z) el hg z ((so.perm cg).consS e4);have hn:n<y.2.mu.length:=(aap.mp em).1;have s7:SR X.K H0 Z0 σ H2 ⟨y.2.vs,y.2.mu.set n none⟩ ((.ref a,.own (.lst ws))::(.ref a,.sh (.ptr n))::(u,.sh p)::pd):=s6.perm (((List.Perm.swap _ _ _).cons _).trans (List.Perm.swap _ _ _));have s8:=s7.cellP (by show (y.2.mu.set n none)[n]?=_; rw[aas hn]);have e8:(y.2.mu.set n none).set n (some (.lst ws))=y.2.mu:=by rw[aba]; exact ack em
     have s9:SR X.K H0 Z0 σ H2 ⟨y.2.vs,(y.2.mu.set n none).set n (some (.lst ws))⟩ ((u,.sh p)::pd):=s8;rw[e8]at s9;exact s9
   . cases h4
 . obtain⟨l',h5,h6⟩:=acj h4;cases h6;exact Nz H0 Z0 σ y.2 pd H2 v w x.1.pv y.1.pv _ Q s3 h5 k
mutual
def jF:PV->Bool
 | .non=>true
 | .bl _=>true
 | .int _=>true
 | .str _=>true
 | .tup ps=>rA ps
 | _=>false
def rA:List PV->Bool
 | []=>true
 | p::ps=>jF p&&rA ps
end
def sW:Lc->Bool
 | .sh p=>jF p
 | .own (.lst ps)=>rA ps
 | _=>false
def Sy:Option Lc->Option Lc
 | some l=>some (.sh l.pv)
 | none=>none
def Ev.peek (ρ:Ev):Ev:=⟨ρ.vs.map Sy,ρ.mu.map λ_=>none⟩
def qx (f:EF):EF:=λρ=>(f ρ.peek).bind λx=>if sW x.1=true then some (x.1,ρ) else none
def zb:Option HO->Option HO->Option HO->Option HO
 | some (.tup vs),_,_=>some (.tup vs)
 | some (.frz o u),_,_=>some (.frz o u)
 | some _,z,_=>z
 | none,_,z=>z
def qy (H:Hp) (Z Z':ZG):ZG:=⟨λb=>zb (H b) (Z.z b) (Z'.z b),Z.g⟩
theorem NK {H H':Hp} {Z Z':ZG} (hh:du H H') (zh:du Z'.z H') {a:Addr} {vs:List V} (h:cM K Z'.z a vs):cM K (qy H Z Z').z a vs:=by
 rcases h with (h | ⟨o,h⟩) | h
 . refine .inl (.inl ?_);show zb (H a) (Z.z a) (Z'.z a)=_;cases q:H a with
   | none=>exact h
   | some o=>
    have e1:=hh a o q;rw[zh a _ h]at e1;cases e1;rfl
 . refine .inl (.inr ⟨o,?_⟩);show zb (H a) (Z.z a) (Z'.z a)=_;cases q:H a with
   | none=>exact h
   | some o'=>
    have e1:=hh a o' q;rw[zh a _ h]at e1;cases e1;rfl
 . exact .inr h
mutual
theorem G8 {H H':Hp} {Z Z':ZG} (hh:du H H') (zh:du Z'.z H'):∀{p:PV} {v:V},jF p=true->Rep K Z' p v->Rep K (qy H Z Z') p v
 | .non,v,_,h=>by unfold Rep at h ⊢; exact h
 | .bl _,v,_,h=>by unfold Rep at h ⊢; exact h
 | .int _,v,_,h=>by unfold Rep at h ⊢; exact h
 | .str _,v,_,h=>by unfold Rep at h ⊢; exact h
 | .tup ps,v,f,h=>by unfold Rep at h ⊢;obtain⟨a,vs,e,h1,h2⟩:=h;unfold jF at f;exact⟨a,vs,e,NK hh zh h1,xg hh zh f h2⟩
 | .lst _,v,f,_=>by unfold jF at f; cases f
 | .dk _ _,v,f,_=>by unfold jF at f; cases f
 | .dt _ _,v,f,_=>by unfold jF at f; cases f
 | .obj _ _ _,v,f,_=>by unfold jF at f; cases f
 | .df _ _,v,f,_=>by unfold jF at f; cases f
 | .dtf _ _,v,f,_=>by unfold jF at f; cases f
 | .dx _ _ _,v,f,_=>by unfold jF at f; cases f
 | .exc _,v,f,_=>by unfold jF at f; cases f
 | .ptr _,v,f,_=>by unfold jF at f; cases f
theorem xg {H H':Hp} {Z Z':ZG} (hh:du H H') (zh:du Z'.z H'):∀{ps:List PV} {vs:List V},rA ps=true->aH K Z' ps vs->aH K (qy H Z Z') ps vs
 | [],vs,_,h=>by unfold aH at h ⊢; exact h
 | p::ps,vs,f,h=>by obtain⟨v,r,rfl,h1,h2⟩:=h.inv;unfold rA at f;rw[abz]at f;exact aH.cons (G8 hh zh f.1 h1) (xg hh zh f.2 h2)
end
theorem SR.lookB (s:SR K H0 Z0 σ H ρ pd):
 ∃Z,(σ.length=ρ.vs.length/\ρ.mu.length=Z.g.length/\f9 Z ⟨H,Z.g⟩/\Slots K H0 Z H (sl Z.g σ ρ pd))/\(∀H' v r ρ1,SR K H ⟨H,Z.g⟩ σ H' ρ1 [(v,r)]->sW r=true->SR K H0 Z0 σ H' ρ ((v,r)::pd))/\∀H' ρ1,SR K H ⟨H,Z.g⟩ σ H' ρ1 []->SR K H0 Z0 σ H' ρ pd:=by
 obtain⟨el,Z,hg,z,so⟩:=s;have lz:f9 Z ⟨H,Z.g⟩:=⟨z.zh,abd _⟩;have back:∀{H':Hp} {Z':ZG},jb H ⟨H,Z.g⟩ Z' H'->jb H0 Z0 (qy H Z Z') H'/\Slots K H0 (qy H Z Z') H' (sl Z.g σ ρ pd):=λ{H' Z'} z'=>by
  have zz:f9 Z (qy H Z Z'):=⟨λb o e=>by show zb (H b) (Z.z b) (Z'.z b)=_;have hb:=z.zh b o e;rw[hb];cases o<;>first | rfl | exact e,abd _⟩
  have cas:∀b o,(qy H Z Z').z b=some o->(∃u,H b=some u/\((Fq u/\o=u)\/Z.z b=some o))\/(H b=none/\Z'.z b=some o):=λb o e=>by
   have e:zb (H b) (Z.z b) (Z'.z b)=some o:=e;cases q:H b with
   | none=>rw[q]at e; exact .inr ⟨rfl,e⟩
   | some u=>
    rw[q]at e;refine .inl ⟨u,rfl,?_⟩;cases u with
    | tup vs=>cases e; exact .inl ⟨trivial,rfl⟩
    | frz o' u=>cases e; exact .inl ⟨trivial,rfl⟩
    | _=>exact .inr e
  refine⟨⟨λb o e=>?_,z.h0.trans z'.h0,z.z0.trans zz,λb o e=>?_⟩,?_⟩
  . rcases cas b o e with ⟨u,hu,⟨_,rfl⟩ | hz⟩ | ⟨_,hz⟩
    . exact z'.h0 b _ hu
    . exact z'.h0 b o (z.zh b o hz)
    . exact z'.zh b o hz
  . rcases cas b o e with ⟨u,hu,⟨hi,rfl⟩ | hz⟩ | ⟨hn,hz⟩
    . exact .inr (.inr hi)
    . exact z.new b o hz
    . exact .inr (.inl (z.h0.free hn))
  . refine so.step zz λe he a ha=>?_;obtain⟨h1,h2,o,h3,h4⟩:=jc so he ha;refine⟨by rw[h3]; exact z'.h0 a o h3,?_⟩;show zb (H a) (Z.z a) (Z'.z a)=_;rw[h3];cases o with
    | tup vs=>exact(h4 trivial).elim
    | frz o u=>exact(h4 trivial).elim
    | _=>exact h1
 refine⟨Z,⟨el,hg,lz,so⟩,λH' v r ρ1 s1 hf=>?_,λH' ρ1 s1=>?_⟩
 . obtain⟨_,Z',hg',z',s2⟩:=s1.top;obtain⟨zo,ss⟩:=back z';have q:=s2.1 _ aac;refine .mk (Z:=qy H Z Z') el hg zo ?_;cases r with
   | sh p=>
    obtain⟨x,e1,e2⟩:=q;cases e1;exact ss.consS (G8 z'.h0 z'.zh hf e2)
   | own p=>
    obtain⟨a,e1,e2,e3,e4⟩:=q;have e1':v=.ref a:=aaA e1;subst e1';cases p with
    | lst ps=>
     obtain⟨vs,g1,g2⟩:=e2;refine⟨λe he=>?_,?_⟩
     . rcases aaj.mp he with rfl | he
       . refine⟨a,rfl,⟨vs,g1,xg z'.h0 z'.zh hf g2⟩,?_,z.h0.free e4⟩;show zb (H a) (Z.z a) (Z'.z a)=_;rw[e4];exact e3
       . exact ss.1 e he
     . show (a::(sl Z.g σ ρ pd).filterMap kE).Nodup;refine aaP.mpr ⟨λhm=>?_,ss.2⟩;obtain⟨e,he,hb⟩:=aa1.mp hm;obtain⟨_,_,o,h3,_⟩:=jc so he hb;rw[h3]at e4; cases e4
    | _=>cases hf
 . obtain⟨_,Z',hg',z',s2⟩:=s1;obtain⟨zo,ss⟩:=back z';exact⟨el,qy H Z Z',hg,zo,ss⟩
theorem SR.peeked {H:Hp} {Z:ZG} {pk:Option Lc->Option Lc} (el:σ.length=ρ.vs.length) (hg:ρ.mu.length=Z.g.length)
 (hs:∀v o,(v,o)∈σ.zip ρ.vs->pk o=none\/∃x p,pk o=some (.sh p)/\v=some x/\Rep K ⟨H,Z.g⟩ p x):SR K H ⟨H,Z.g⟩ σ H ⟨ρ.vs.map pk,ρ.mu.map λ_=>none⟩ []:=by
 have key:∀v l,(v,l)∈sl Z.g σ ⟨ρ.vs.map pk,ρ.mu.map λ_=>none⟩ []->l=none\/∃x p,l=some (.sh p)/\v=some x/\Rep K ⟨H,Z.g⟩ p x:=λv l he=>by
  rcases aaC.mp he with he | he
  . obtain⟨_,h2⟩:=abh he;obtain⟨o,ho,e2⟩:=aaH.mp h2;obtain⟨o',_,e3⟩:=aaH.mp ho;subst e3;exact .inl e2.symm
  . rw[abx,aau]at he;have he:(v,l)∈σ.zip (ρ.vs.map pk):=he;rw[List.zip_map_right]at he;obtain⟨e,he2,e1⟩:=aaH.mp he;cases e1;exact hs _ _ he2
 refine⟨by simp[el],⟨H,Z.g⟩,by simp[hg],⟨du.refl _,du.refl _,f9.refl _,λb o e=>.inl e⟩,λe he=>?_,?_⟩
 . obtain⟨v,l⟩:=e;rcases key v l he with rfl | ⟨x,p,rfl,rfl,r⟩
   . trivial
   . exact⟨x,rfl,r⟩
 . have:(sl Z.g σ ⟨ρ.vs.map pk,ρ.mu.map λ_=>none⟩ []).filterMap kE=[]:=by
    rw[List.filterMap_eq_nil_iff];intro e he;obtain⟨v,l⟩:=e;rcases key v l he with rfl | ⟨x,p,rfl,rfl,_⟩
    . cases v with
      | none=>rfl
      | some x=>cases x<;>rfl
    . cases x<;>rfl
   show ((sl Z.g σ ⟨ρ.vs.map pk,ρ.mu.map λ_=>none⟩ []).filterMap kE).Nodup;rw[this];exact abH
theorem SR.look (s:SR K H0 Z0 σ H ρ pd):
 ∃Zt,SR K H Zt σ H ρ.peek []/\(∀H' v r ρ1,SR K H Zt σ H' ρ1 [(v,r)]->sW r=true->SR K H0 Z0 σ H' ρ ((v,r)::pd))/\∀H' ρ1,SR K H Zt σ H' ρ1 []->SR K H0 Z0 σ H' ρ pd:=by
 obtain⟨Z,⟨el,hg,lz,so⟩,b1,b2⟩:=s.lookB;refine⟨_,SR.peeked (pk:=Sy) el hg λv o he=>?_,b1,b2⟩;have q:=so.1 _ (aaD _ (aaQ _ he))
 match o,q with
 | none,_=>exact .inl rfl
 | some (.sh p),⟨x,e1,e2⟩=>exact .inr ⟨x,p,rfl,e1,e2.mono lz⟩
 | some (.own p),⟨a,e1,e2,_,_⟩=>exact .inr ⟨.ref a,p,rfl,e1,e2.rep lz rfl⟩
def ZV (mu:Mu):PV->PV
 | .ptr n=>match mu[n]? with
  | some (some p)=>p
  | _=>.ptr n
 | p=>p
def peekC (mu:Mu):Option Lc->Option Lc
 | some l=>some (.sh (ZV mu l.pv))
 | none=>none
def Ev.peekC (ρ:Ev):Ev:=⟨ρ.vs.map (PL.peekC ρ.mu),ρ.mu.map λ_=>none⟩
theorem Q5 {f:EF}:∀σ H Q,tP K (qx f) σ H Q->tP K f σ H Q:=λσ H Q q=>by
 obtain⟨H0,Z0,ρ,pd,r,ρ',s,h,k⟩:=q;obtain⟨x,h1,h2⟩:=aci h;obtain⟨Zt,s1,b1,_⟩:=s.look;split at h2
 . rename_i hf;cases h2;exact⟨H,Zt,ρ.peek,[],x.1,x.2,s1,h1,λv H' s2=>k v H' (b1 H' v x.1 x.2 s2 hf)⟩
 . cases h2
theorem Fw {e:Expr} {f:EF} (h:PE X e (tP X.K f)):PE X e (tP X.K (qx f)):=PE.imp h Q5
end
def vA (x:Str):It:=⟨λi _=>i<x.cps.size,λi H v H'=>H'=H/\∃c,x.cps[i]?=some c/\v=.str ⟨#[c]⟩,λi _=>i=x.cps.size⟩
theorem G9 {P:Program} {w:World} {tg:Expr} (it:Addr) (x:Str) {St:Nat->Heap->Prop} (W:∀A':Around,A'.handled=none->Walks P w A' it [it] [it] x.cps.size (SignAt x) St)
 (hob:∀i h,St i h->∃o,h.get? it=some o/\∀v,o.data≠.cell v) (slf:∀(A:Around) (i:Nat) (s:Shared) (Q:Value->Shared->Prop) (E:Value->Shared->Prop),St i s.heap->Q (.ref it) s->wpAny (model P w) A (pyIter (.ref it)) Q E s):Turn P w K tg (vA x) [it] it St where
 mem:=by simp
 obj:=λi h st b hb=>by
  have e:b=it:=by simpa using hb
  subst e;exact hob i h st
 keep:=λi h h' st k=>(W {} rfl).frame i h h' st k
 item:=by intro X hP hw hK hc i pins s σ H E I hf st hg;subst hP hw hK;obtain⟨f0,f1,f2,f3,f4,f5⟩:=hf it (by simp);refine(W X.A (I.ok.hd hc)).item i s _ E hg st λv h' tk hv st' hk=>?_;obtain⟨c,u,e1,rfl⟩:=hv;have I1:Inv X pins σ H { s with heap:=h',toks:=tk }:=I.turned (λb o hb e=>hk b o (by simpa using hb) e) f0 f1 f3 f4 f5;refine⟨_,rfl,?_⟩;have fin:∃x_1 H',Inv X pins σ H' { s with heap:=h',toks:=tk }/\RelV x_1 (.str ⟨#[c]⟩ u)/\(vA x).yld i H x_1 H'/\St (i+1) h'/\∀b∈[it],H' b=none:=⟨.str ⟨#[c]⟩,H,I1,⟨u,rfl⟩,⟨rfl,c,e1,rfl⟩,st',λb hb=>(hf b hb).1⟩;unfold letOwnedTupleGo;cases tg<;>exact acd fin
 done:=by intro X hP hw hK hc i pins s σ H E I hf st hg;subst hP hw hK;obtain⟨f0,f1,f2,f3,f4,f5⟩:=hf it (by simp);have hg:i=x.cps.size:=hg;subst hg;exact(W X.A (I.ok.hd hc)).done s _ E st λh' tk hk=>⟨rfl,I.turned (λb o hb e=>hk b o (by simpa using hb) e) f0 f1 f3 f4 f5⟩
 self:=λA i s Q E st h=>slf A i s Q E st h
section
variable {X:Cx}
def signs (x:Str):List PV:=x.cps.toList.map λc=>.str ⟨#[c]⟩
theorem Q6 {H0:Hp} {x:Str}:ni K H0 Z0 pd (vA x) (signs x):=by
 intro σ H ρ i s;refine⟨λp hp=>?_,λhl=>?_⟩
 . unfold signs at hp;rw[aaJ]at hp;obtain⟨c,hc,rfl⟩:=acj hp;have hi:=(aap.mp hc).1;refine⟨(show i<x.cps.size by simpa using hi),λv H' y=>?_⟩;obtain⟨rfl,c',hc',rfl⟩:=y;have:c'=c:=by rw[Array.getElem?_toList]at hc;rw[hc]at hc';exact(aaA hc').symm
   subst this;exact s.scal uz
 . show i=x.cps.size;simpa [signs] using hl
theorem Iv {P:Program} {w:World} {A:Around} {ys:List V} {its:List Value} {bs:List Bool} (rv:Vals ys its) (e:ys=bs.map V.bl):TruthOf P w A (λi v=>its.toArray[i]?=some v) (λi=>bs.getD i false):=by
 intro i v s Q E hv q;have hv':its[i]?=some v:=by simpa using hv
 have hi:=(aap.mp hv').1;have hl:=rv.length;have hb:i<bs.length:=by rw[e,aag]at hl; omega
 obtain⟨u,h1,h2⟩:=rv.get (i:=i) (x:=.bl bs[i]) (by rw[e,aaJ,aaB hb]; rfl);rw[hv']at h1; cases h1;cases h2;have:bs.getD i false=bs[i]:=by simp[hb]
 have q':Q (bs.getD i false) s:=q;rw[this]at q';exact wpAny_truthy_bool q'
theorem range_all {bs:List Bool}:((List.range bs.length).all λi=>bs.getD i false)=bs.all id:=by
 induction bs with
 | nil=>rfl
 | cons b r ih=>
  rw[aae,List.range_succ_eq_map,List.all_cons,List.all_map,List.all_cons];have:((List.range r.length).all ((λi=>(b::r).getD i false) ∘ Nat.succ))=(List.range r.length).all λi=>r.getD i false:=rfl;rw[this,ih];rfl
theorem vB (hc:X.calm=true):m8 X (.builtin "all") (λxs H Q=>∃(p:Addr) (bs:List Bool),xs=[.ref p]/\bR X.K H p (bs.map V.bl)/\Q (.bl (bs.all id)) H):=by
 intro pins s σ H xs us Q I r h;obtain⟨p,bs,rfl,hq,q⟩:=h;obtain⟨u,rfl,ru⟩:=vals1 r;cases ru;obtain⟨its,rv,pl,_⟩:=I.list hq;have hlt:p<s.heap.objs.size:=by obtain⟨o,n,g1,_⟩:=pl; exact aar g1
 refine call_all_walk (wpAny_pyIter_list pl.isList ?_);have old:∀b o,s.heap.get? b=some o->(s.heap.push { cls:=.type "list_iterator",data:=.fields #[.ref p,.int 0 0] }).get? b=some o:=λb o e=>aad _ e;have hl:its.toArray.size=bs.length:=by rw[aat,<-rv.length,aag]
 refine⟨s.heap.objs.size,_,_,_,_,_,λi=>bs.getD i false,rfl,Walks.list (A:=X.A.in1) (show X.A.in1.handled=none from I.ok.hd hc) _ p (aaL hlt) its.toArray,⟨⟨_,aay _ rfl,rfl,rfl⟩,?_⟩,Iv rv rfl,λh' tk hk=>?_⟩
 . obtain⟨o,g1,g2⟩:=pl.isList;exact⟨o,old _ _ g1,g2⟩
 . rw[hl,range_all];refine⟨.bl _,H,I.kept (t':=tk) λb o e=>hk b o ?_ (old b o e),rfl,q⟩;have:=aar e;simp;exact aaL this
def boolsOf:List PV->Option (List Bool)
 | []=>some []
 | .bl b::r=>(boolsOf r).map (b::·)
 | _=>none
theorem Eb {Z:ZG}:∀{ps:List PV} {bs:List Bool} {vs:List V},boolsOf ps=some bs->aH K Z ps vs->vs=bs.map V.bl
 | [],bs,vs,h,r=>by cases h; exact r.inv0
 | p::ps,bs,vs,h,r=>by
  cases p with
  | bl b=>
   obtain⟨cs,h1,rfl⟩:=acj h;obtain⟨v,w,rfl,r1,r2⟩:=r.inv;rw[dB r1,Eb h1 r2];rfl
  | _=>cases h
def ZW:PV->Option Lc
 | .lst ps=>(boolsOf ps).map λbs=>.sh (.bl (bs.all id))
 | _=>none
abbrev all1:List PV->Option Lc:=λps=>match ps with | [p]=>ZW p | _=>none
theorem NP:jn K (λxs H Q=>∃(p:Addr) (bs:List Bool),xs=[.ref p]/\bR K H p (bs.map V.bl)/\Q (.bl (bs.all id)) H) all1:=jn.one λH0 Z0 σ ρ pd H v p l Q s e k=>by
 obtain⟨_,r⟩:=s.repH;cases p with
 | lst ps=>
  obtain⟨bs,h1,rfl⟩:=acj (show (boolsOf ps).map (λbs=>Lc.sh (.bl (bs.all id)))=some l from e);unfold Rep at r;obtain⟨a,vs,rfl,h2,h3⟩:=r;have:=Eb h1 h3;subst this;exact⟨a,bs,rfl,h2,k _ H (s.pop.scal dW)⟩
 | _=>cases e
def SJ:PV->Option String
 | .non=>some "NoneType"
 | .bl _=>some "bool"
 | .int _=>some "int"
 | .str _=>some "str"
 | .tup _=>some "tuple"
 | .lst _=>some "list"
 | _=>none
def xj (p:PV) (C:String):Option Bool:=(SJ p).bind λT=>if (Value.type T==Value.type C)=true then some true else if W.kitMeta C=true then (fastBuiltinMro T).map λx=>x.contains (.type C) else none
theorem mO {p:PV} {T C:String} {b:Bool} (h1:SJ p=some T) (h:xj p C=some b):W.kitOne K (.type T) (.type C)=some b:=by unfold xj at h;rw[h1,aab]at h;exact h
theorem dG:m8 X (.builtin "isinstance") (λxs H Q=>∃x C g p b,xs=[x,.ty C]/\Rep X.K ⟨H,g⟩ p x/\xj p C=some b/\Q (.bl b) H):=by
 intro pins s σ H xs us Q I r h;obtain⟨x,C,g,p,b,rfl,rp,e,q⟩:=h;obtain⟨u,w',rfl,ru,rw'⟩:=vals2 r;cases rw';have fin:∀tk,EP X pins σ Q (.bool b) { s with toks:=tk }:=λtk=>⟨.bl b,H,I.tok tk,rfl,q⟩;cases p with
 | non=>have:=gA rp; subst this; cases ru; exact abW W.kitx_none I.kIn trivial (mO rfl e) (by intro z; cases z) fin
 | bl c=>have:=dB rp; subst this; cases ru; exact abW W.kitx_bool I.kIn trivial (mO rfl e) (by intro z; cases z) fin
 | int i=>have:=bK rp; subst this; obtain⟨t,rfl⟩:=ru; exact abW W.kitx_int I.kIn trivial (mO rfl e) (by intro z; cases z) fin
 | str i=>have:=cZ rp; subst this; obtain⟨t,rfl⟩:=ru; exact abW W.kitx_str I.kIn trivial (mO rfl e) (by intro z; cases z) fin
 | tup ps=>
  obtain⟨a,vs,its,rfl,_,_,_,o,t1,t2,_⟩:=uB I rp ru;exact abW (t:=.type "tuple") W.kitx_tuple I.kIn ⟨o,t1,t2⟩ (mO rfl e) (by intro z; cases z) fin
 | lst ps=>
  obtain⟨a,vs,its,rfl,_,_,_,o,t1,t2,_⟩:=uC I rp ru;exact abW (t:=.type "list") W.kitx_list I.kIn ⟨o,t1,t2⟩ (mO rfl e) (by intro z; cases z) fin
 | _=>cases e
def jx (C:String) (f:EF):EF:=λρ=>(f ρ).bind λx=>(xj x.1.pv C).map λb=>(.sh (.bl b),x.2)
theorem uH {C:String} {f:EF} {e c:Expr} {pp pos:Pos} (h:PE X (.Call (.Name "isinstance" pp) [e,c] [] pos) (DP (λxs H Q=>∃x C g p b,xs=[x,.ty C]/\Rep X.K ⟨H,g⟩ p x/\xj p C=some b/\Q (.bl b) H) (ye (tP X.K f) (ye (tC (.ty C)) Gi)))):
 PE X (.Call (.Name "isinstance" pp) [e,c] [] pos) (tP X.K (jx C f)):=PE.imp h λσ H Q q=>by
 obtain⟨H0,Z0,ρ,pd,r,ρ',s,h,k⟩:=q;obtain⟨x,h1,h2⟩:=aci h;obtain⟨b,h3,h4⟩:=acj h2;cases h4;refine⟨H0,Z0,ρ,pd,x.1,x.2,s,h1,λv H1 s1=>?_⟩;obtain⟨g,r1⟩:=s1.freeze.repH;exact⟨v,C,g,_,b,rfl,r1,h3,k _ H1 (s1.pop.scal dW)⟩
end
section
variable {prog:Program} {w:World} {A:Around} {E:Value->Shared->Prop} {s:Shared}
theorem Ec {it t:Addr} {items:Array Value} (hne:t≠it):∀(n i:Nat) (s:Shared) (Q:List Value->Shared->Prop),s.heap.IsListIter it t i->s.heap.IsList t items->i+n<=items.size->
 (∀h',h'.IsListIter it t (i+n)->Heap.SameBut it s.heap h'->Q ((items.toList.drop i).take n) { s with heap:=h' })->wpAny (model prog w) A (draw (.ref it) n) Q E s
 | 0,i,s,Q,hit,_,_,hQ=>by show wpAny _ _ (pure []) Q E s;exact acd (by simpa using hQ s.heap hit (Heap.SameBut.refl ..))
 | n+1,i,s,Q,hit,ht,hle,hQ=>by
  have hlt:i<items.size:=by omega
  show wpAny _ _ (pyNext (.ref it) >>= _) Q E s;refine ab9 (wpAny_pyNext_list_item hit ht (x:=items[i]) (by simp[hlt]) λh₁ hit₁ hs₁=>?_);refine ab9 (wpAny_holding (Ec hne n (i+1) _ _ hit₁ (ht.extBut hs₁.extBut hne) (by omega) λh₂ hit₂ hs₂=>acd ?_));have hd:items.toList.drop i=items[i]::items.toList.drop (i+1):=by simp[abE,hlt]
  have:=hQ h₂ (by rw[show i+(n+1)=i+1+n by omega]; exact hit₂) (hs₁.trans hs₂);rw[hd,List.take_succ_cons]at this;exact this
theorem zu {t:Addr} {items:Array Value} {Q:List Value->Shared->Prop} (hh:A.handled=none) (ht:s.heap.IsList t items)
 (hQ:∀h',Heap.ExtBut s.heap.objs.size s.heap h'->Q items.toList { s with heap:=h' }):wpAny (model prog w) A (unpackItems (.ref t) items.size none) Q E s:=by
 have hlt:t≠s.heap.objs.size:=by obtain⟨o,ho,_⟩:=ht; exact aaL (aar ho)
 unfold unpackItems;refine ab9 ?_
 . unfold notIterableAtAll;refine ab9 (wpAny_specialOf ht.typeIs slot_list_iter.lookup ?_);refine acd ?_;simp only[abX,if_false];refine ab9 (wpAny_holding (wpAny_pyIter_list ht ?_));refine ab9 (wpAny_holding (Ec hlt items.size 0 _ _ ⟨_,aay _ rfl,rfl,rfl⟩ (by obtain⟨o,g1,g2⟩:=ht; exact⟨o,aad _ g1,g2⟩) (by omega) λh₁ hit₁ hs₁=>?_));have hall:List.take items.size (List.drop 0 items.toList)=items.toList:=by rw[List.drop_zero]; exact List.take_of_length_le (by simp)
   rw[hall];rw[acb (by simp)];have ht₁:h₁.IsList t items:=Heap.IsList.extBut (by obtain⟨o,g1,g2⟩:=ht; exact⟨o,aad _ g1,g2⟩) hs₁.extBut hlt;refine ab9 (wpAny_holding (wpAny_pyNext_list_end hh hit₁ ht₁ (by simp) λh₂ he₂=>?_));simp only[Option.isSome_none,abX,if_false];refine acd (hQ h₂ λb o hb e=>he₂ b o hb (hs₁.extBut b o hb (aad _ e)))
end
section
variable {X:Cx} {pos:Pos}
def W8 (K:FG) (n:Nat) (t:v6):TG:=λv σ H Q=>∃a xs,v=.ref a/\(cM K H a xs\/bR K H a xs)/\xs.length=n/\t xs σ H Q
theorem jN {es:List Expr} {k:Nat} {t:v6} {n:Nat} (hc:X.calm=true) (h:Ml X es t)
 (hn:(assignEach es X.env).length=n:=by rfl) (hst:(assignEach es X.env).findIdx? (·.1)=none:=by rfl):PG X (.Tuple es k pos) (W8 X.K n t):=by
 intro pins s σ H v u Q I r hw;obtain⟨a,xs,e1,hq,hl,hw⟩:=hw;rcases hq with hq | hq
 . exact V7 hc h hn hst pins s σ H v u Q I r ⟨a,xs,e1,hq,hl,hw⟩
 . subst e1;cases r;obtain⟨its,rv,ht,hz⟩:=I.list hq;rw[assign_Tuple];refine ab9 (wpAny_standAt ?_);unfold unpack;have hsz:(assignEach es X.env).length=its.toArray.size:=by simp[hn,<-hl,rv.length]
   rw[hsz,hst];refine ab9 (wpAny_holding (zu (I.ok.hd hc) ht.isList λh' hx=>?_));have I1:Inv X pins σ H { s with heap:=h' }:=I.kept (t':=s.toks) λb o e=>hx b o (aaL (aar e)) e;exact h pins _ σ H xs _ Q I1 (by simpa using rv) hw
def fD (n:Nat) (bs:GK):BF:=λp ρ=>match p with
 | .tup ps=>if ps.length=n then bs ps ρ else none
 | .lst ps=>if ps.length=n then bs ps ρ else none
 | _=>none
theorem jO {n:Nat} {t:v6} {bs:GK} (h1:Ss K t bs):GS K (W8 K n t) (fD n bs):=by
 intro H0 Z0 σ H ρ pd v p ρ' Q s h k;cases p with
 | tup ps=>
  have h':(if ps.length=n then bs ps ρ else none)=some ρ':=h;split at h'
  . rename_i hn;obtain⟨e,Z,hg,z,r,sl'⟩:=s.sh;unfold Rep at r;obtain⟨a,vs,rfl,h2,h3⟩:=r;exact⟨a,vs,rfl,.inl (cM.same z.zh h2),by rw[h3.length]; exact hn,h1 H0 Z0 σ H ρ pd vs ps ρ' Q h3.length (SR.items e hg z h3 sl') h' k⟩
  . cases h'
 | lst ps=>
  have h':(if ps.length=n then bs ps ρ else none)=some ρ':=h;split at h'
  . rename_i hn;obtain⟨e,Z,hg,z,r,sl'⟩:=s.sh;unfold Rep at r;obtain⟨a,vs,rfl,h2,h3⟩:=r;exact⟨a,vs,rfl,.inr (bR.same z.zh h2),by rw[h3.length]; exact hn,h1 H0 Z0 σ H ρ pd vs ps ρ' Q h3.length (SR.items e hg z h3 sl') h' k⟩
  . cases h'
 | _=>cases h
def ZX (K:FG) (tl:TE):TI:=λσ H R=>tl σ H λx H1=>(∃a,x=.ref a/\(∃xs,bR K H1 a xs)/\R (RT K a) H1)\/(∃a,x=.ref a/\(∃xs,cM K H1 a xs)/\R (RV K a) H1)\/∃z,x=.str z/\R (vA z) H1
theorem W9 {tg l:Expr} {tl:TE} (hl:PE X l tl):PI X tg l (ZX X.K tl):=by
 intro pins s σ H R I h;have at':∀(v:Value) (s1:Shared) (x:V) (H1:Hp),Inv X pins σ H1 s1->RelV x v->((∃a,x=.ref a/\(∃xs,bR X.K H1 a xs)/\R (RT X.K a) H1)\/(∃a,x=.ref a/\(∃xs,cM X.K H1 a xs)/\R (RV X.K a) H1)\/∃z,x=.str z/\R (vA z) H1)->
  wpAny (model X.prog X.w) X.A (pyIter v) (PIE X pins σ tg R) X.xe s1:=λv s1 x H1 I1 r1 q=>by
  have fp:∀b,b∈[s1.heap.objs.size]->mH X pins H1 b:=λb hb=>by
   have e:b=s1.heap.objs.size:=by simpa using hb
   subst e;exact I1.fpOk (aaf _) (I1.hok.fresh (aaf _))
  rcases q with ⟨a,rfl,⟨xs,hq⟩,q⟩ | ⟨a,rfl,⟨xs,hq⟩,q⟩ | ⟨z,rfl,q⟩
  . cases r1;obtain⟨its,rv,p,hz⟩:=I1.list hq;exact wpAny_pyIter_list p.isList ⟨s1.heap.objs.size,[s1.heap.objs.size],_,_,H1,rfl,I1.kept (t':=s1.toks) λb o e=>aad _ e,Mm a _,⟨_,aay _ rfl,rfl,rfl⟩,fp,q⟩
  . cases r1;obtain⟨its,rv,p,hz⟩:=I1.tuple hq;exact wpAny_pyIter_tuple p ⟨s1.heap.objs.size,[s1.heap.objs.size],_,_,H1,rfl,I1.kept (t':=s1.toks) λb o e=>aad _ e,Ko a _,⟨_,aay _ rfl,rfl,rfl⟩,fp,q⟩
  . obtain⟨t,rfl⟩:=r1;have kp:∀(o:Obj),Inv X pins σ H1 { s1 with heap:=s1.heap.push o }:=λo=>I1.kept (t':=s1.toks) λb u e=>aad _ e;have ob:∀{n:String} (i:Nat) (h:Heap),h.IsStrIter s1.heap.objs.size n z t i->∃o,h.get? s1.heap.objs.size=some o/\∀v,o.data≠.cell v:=λi h st=>by obtain⟨o,ho,_,hd⟩:=st;exact⟨o,ho,λv e=>by rw[hd]at e; cases e⟩
    cases ha:z.cps.all (·<128)
    . exact wpAny_pyIter_wide ha ⟨s1.heap.objs.size,[s1.heap.objs.size],_,vA z,H1,rfl,kp _,G9 _ z (λA' hA=>Walks.strWide hA _ z t) ob (λA i s Q E st h=>wpAny_pyIter_striter_wide st h),⟨_,aay _ rfl,rfl,rfl⟩,fp,q⟩
    . exact wpAny_pyIter_ascii ha ⟨s1.heap.objs.size,[s1.heap.objs.size],_,vA z,H1,rfl,kp _,G9 _ z (λA' hA=>Walks.strAscii hA _ z t) ob (λA i s Q E st h=>wpAny_pyIter_striter_ascii st h),⟨_,aay _ rfl,rfl,rfl⟩,fp,q⟩
 exact bJ (hl pins s σ H _ I h) λv s1 ⟨x,H1,I1,r1,q⟩=>at' v s1 x H1 I1 r1 q
def dj:PV->Option (List PV)
 | .lst ps=>some ps
 | .tup ps=>some ps
 | .str x=>some (signs x)
 | _=>none
theorem jy {tg l:Expr} {f:EF} (hl:PE X l (tP X.K f)):PI X tg l (Ay X.K (gH f dj)):=PI.imp (W9 hl) λσ H R q=>by
 obtain⟨H0,Z0,ρ,pd,xs,ρ',s,h,k⟩:=q;obtain⟨x,h1,h2⟩:=aci h;obtain⟨ys,h3,h4⟩:=acj h2;cases h4;refine⟨H0,Z0,ρ,pd,x.1,x.2,s,h1,λv H1 s1=>?_⟩;have s2:=s1.freeze;cases e:x.1.pv with
 | lst ps=>
  rw[e]at h3 s2;cases h3;obtain⟨Z,z,r⟩:=s2.rep;unfold Rep at r;obtain⟨b,vs,rfl,h1',h2'⟩:=r;exact .inl ⟨b,rfl,⟨vs,bR.same z h1'⟩,k _ _ _ s2 Nv (aaq _ _)⟩
 | tup ps=>
  rw[e]at h3 s2;cases h3;obtain⟨Z,z,r⟩:=s2.rep;unfold Rep at r;obtain⟨b,vs,rfl,h1',h2'⟩:=r;exact .inr (.inl ⟨b,rfl,⟨vs,cM.same z h1'⟩,k _ _ _ s2 QW (aaq _ _)⟩)
 | str z=>
  rw[e]at h3 s2;cases h3;obtain⟨_,r⟩:=s2.repH;exact .inr (.inr ⟨z,cZ r,k _ _ _ s2.pop Q6 (abw _)⟩)
 | _=>rw[e]at h3; cases h3
def nD (g g':PV->PV->Option Lc) (fa fb fc:EF):EF:=λρ=>(fa ρ).bind λx=>(fb x.2).bind λy=>(g x.1.pv y.1.pv).bind λz=>match z.pv with
 | .bl true=>(fc y.2).bind λw=>(g' y.1.pv w.1.pv).map λl=>(l,w.2)
 | .bl false=>some (.sh (.bl false),y.2)
 | _=>none
theorem Ed {r r':R2} {g g':PV->PV->Option Lc} (hs:iM X.K r g) (hs':iM X.K r' g') {fa fb fc:EF}:∀σ H Q,tP X.K (nD g g' fa fb fc) σ H Q->Gg r r' (tP X.K fa) (tP X.K fb) (tP X.K fc) σ H Q:=λσ H Q q=>by
 obtain⟨H0,Z0,ρ,pd,l,ρ',s,f,k⟩:=q;obtain⟨x,h1,h2⟩:=aci f;obtain⟨y,h3,h4⟩:=aci h2;obtain⟨z,h5,h6⟩:=aci h4;refine⟨H0,Z0,ρ,pd,x.1,x.2,s,h1,λv H1 s1=>⟨H0,Z0,x.2,_,y.1,y.2,s1,h3,λw H2 s2=>?_⟩⟩;have s3:=s2.freeze.swap.freeze.swap;have s4:SR X.K H0 Z0 σ H2 y.2 ((w,.sh y.1.pv)::(v,.sh x.1.pv)::(w,.sh y.1.pv)::pd):=s3.dup.perm ((List.Perm.swap _ _ _).cons _);refine hs H0 Z0 σ y.2 _ H2 v w x.1.pv y.1.pv z _ s4 h5 λu H3 s5=>?_;obtain⟨_,ru⟩:=s5.freeze.repH;split at h6
 . rename_i e;rw[e]at ru;refine⟨true,dB ru,?_⟩;rw[aca rfl];obtain⟨t,h7,h8⟩:=aci h6;obtain⟨l',h9,h10⟩:=acj h8;cases h10;refine⟨H0,Z0,y.2,_,t.1,t.2,s5.pop,h7,λb H4 s6=>?_⟩;exact hs' H0 Z0 σ t.2 pd H4 w b y.1.pv t.1.pv _ Q s6.freeze h9 k
 . rename_i e;rw[e]at ru;refine⟨false,dB ru,?_⟩;rw[acb aaS];cases h6;exact k _ H3 (s5.pop.pop.scal dW)
 . cases h6
theorem Xa {op op':CmpOp} {a b c:Expr} {r r':R2} {g g':PV->PV->Option Lc} {fa fb fc:EF} (ho:d7 X (compareOp op) r) (ho':d7 X (compareOp op') r') (hs:iM X.K r g) (hs':iM X.K r' g') (ha:PE X a (tP X.K fa)) (hb:PE X b (tP X.K fb)) (hc:PE X c (tP X.K fc))
 (hm:lastMarks [op,op'] [b,c]=false:=by with_unfolding_all rfl):PE X (.Compare a [op,op'] [b,c] pos) (tP X.K (nD g g' fa fb fc)):=PE.imp (Qh ho ho' ha hb hc hm) (Ed hs hs')
theorem Uy {op op':CmpOp} {a b c:Expr} {r r':R2} {g g':PV->PV->Option Lc} {fa fb fc:EF} (ho:d7 X (compareOp op) r) (ho':d7 X (compareOp op') r') (hs:iM X.K r g) (hs':iM X.K r' g') (ha:PE X a (tP X.K fa)) (hb:PE X b (tP X.K fb)) (hc:PE X c (tP X.K fc))
 (hm:lastMarks [op,op'] [b,c]=false:=by with_unfolding_all rfl):PT X (.Compare a [op,op'] [b,c] pos) (ig X.K (tT (nD g g' fa fb fc) bA)):=Ld (PT.imp (Qi ho ho' ha hb hc hm) λσ H Q q=>Ed hs hs' σ H _ q)
end
section
variable {P:Program} {w:World} {K:FG} {mg:Str->Option Value} {base:Heap}
def Jx (mg:Str->Option Value) (L:List Str):Prop:=∀x∈L,mg x=none
theorem uI {x:Str} {st:Stmt} {ps:List Str} {k:Nat} (F:cN K mg x st ps):bV P w K mg base x k ps (bU K ps.length λ_ _=>none):=by
 obtain⟨f,fd,F,hm,hb⟩:=F;have no:∀vs H Q E,¬ bU K ps.length (λ_ _=>none) vs H Q E:=λvs H Q E h=>by obtain⟨_,_,_,_,_,_,_,_,_,_,h,_⟩:=h;cases h
 exact⟨f,fd,⟨λvs H Q E h=>absurd h (no vs H Q E),λA outer s H args us vs Q E _ _ _ _ h=>absurd h (no vs H Q E)⟩,hm,F.kp,hb⟩
def Fx (K:FG):Sp:=λvs H Q _=>∃(a:Addr) (ns:List Int),vs=[.ref a]/\bR K H a (ns.map V.int)/\ns.length<=63/\∀H',Q (.bl true) H'
theorem Xb {f:Addr} {fd:FuncData} {k:Nat} {g:GF} (F:mK P w K mg base ou k f fd ["_law_script"] (bU K 1 g)) (h:∀ns:List Int,ns.length<=63->∃mu',g [.lst (ns.map PV.int)] []=some (.sh (.bl true),mu')):mK P w K mg base ou k f fd ["_law_script"] (Fx K):=
 F.imp λvs H Q E q=>by
  obtain⟨a,ns,rfl,hs,hl,k⟩:=q;obtain⟨mu',e⟩:=h ns hl;refine⟨⟨H,[]⟩,[.lst (ns.map PV.int)],[],_,mu',rfl,rfl,du.refl _,aH.cons ?_ .nil,⟨λe he=>(by cases he),abH⟩,e,λv H' r=>?_⟩
  . unfold Rep;refine⟨a,ns.map V.int,rfl,hs,?_⟩;clear hs e hl;induction ns with
    | nil=>exact .nil
    | cons n r ih=>exact aH.cons (dO _) ih
  . obtain⟨Z',_,_,s⟩:=r;obtain⟨x,e1,e2⟩:=s.1 _ aac;cases e1;rw[dB e2];exact k H'
end
theorem aP:∀ρ ls ρ1,ao ρ=some (ls,ρ1)->ls.length=0:=λρ ls ρ1 h=>by cases h; rfl
theorem au {f:EF} {g:AF} {n:Nat} (h:∀ρ ls ρ1,g ρ=some (ls,ρ1)->ls.length=n):∀ρ ls ρ1,aj f g ρ=some (ls,ρ1)->ls.length=n+1:=λρ ls ρ1 e=>by obtain⟨x,h1,h2⟩:=aci e;obtain⟨y,h3,h4⟩:=acj h2;cases h4;rw[aae,h _ _ _ h3]
theorem YL {X:Cx} {M F:List Str} {ixs:List Nat} {sc:Scope} (S:Scope) (hS:X.env.scope=S) (kind:sc.kind=.function) (locs:∀y∈sc.names,y.2=.local->sc.names.lookup y.1=some .local) (cel:∀y∈sc.names,y.2=.cell->sc.names.lookup y.1=some .cell)
 (own:∀p∈sc.names,p.2=.free->S.names.lookup p.1=some .cell\/S.names.lookup p.1=some .free) (frs:∀x∈F,sc.names.lookup x=some .free) (ix:ixs.map (λi=>X.N[i]?)=F.map some):iZ X M F ixs sc:=by
 refine⟨kind,locs,cel,λp hp e=>by rw[hS]; exact own p hp e,frs,?_,λj i h=>?_⟩
 . have:=congrArg List.length ix;simpa using this
 . have h2:(ixs.map (λi=>X.N[i]?))[j]?=some X.N[i]?:=by rw[aaJ,h]; rfl
   rw[ix,aaJ]at h2;cases q:F[j]? with
   | none=>rw[q]at h2; cases h2
   | some x=>rw[q]at h2; exact(aaA h2).symm
section
variable {P:Program} {w:World} {K:FG} {mg:Str->Option Value} {base:Heap}
theorem sJ.okP {x:Str} {st:Stmt} {N ps:List Str} {k:Nat} {g:GF} {f:Addr} {fd:FuncData} (F:sJ K x x st f fd) (S:aR N ps (aF st))
 (h:∀(cdv:Value) (A:Around) (outer:List PySem.Env) (s:Shared) (H:Hp) (E:XK),mJ k (A.deeper (envOfC x (aF st) s.heap.objs.size f cdv))->
   ∃g':SF,(∀a mu,g a mu=cH N.length g' a mu)/\iK (Qq ou P w K mg base N x (aF st) f cdv A outer s H E).nox (iU st) (fV K g')):mK P w K mg base ou (k+1) f fd ps (bU K ps.length g):=by
 refine F.ok S (λvs H Q E q=>?_) (λcdv A outer s H vs Q E hr q=>?_)
 . obtain⟨Z,qs,mu,r,mu',e,_⟩:=q; exact e
 . obtain⟨g',eg,b⟩:=h cdv A outer s H E hr;obtain⟨Z,qs,mu,r,mu',e,hg,z,rl,c,hr',kk⟩:=q;rw[eg]at hr';obtain⟨fl,h1,h2⟩:=aci hr';refine⟨_,b,lr H (qX Z.g mu),Z,_,[],fl,zj hg z rl c,h1,?_⟩;cases fl with
   | rt r' ρ'=>
    cases h2;intro v σ' H' s';obtain⟨el,Z',hg',z',s''⟩:=s'.top;refine kk v H' ⟨Z',hg',z',s''.sub ?_⟩;exact(aa5 _ _).cons_cons _
   | nx ρ'=>
    cases h2;intro σ' H' s';obtain⟨el,Z',hg',z',s''⟩:=s';exact kk .non H' ⟨Z',hg',z',(s''.sub (aa5 _ _)).consS (uA _)⟩
   | bk ρ'=>cases h2
   | ct ρ'=>cases h2
end
section
variable {X:Cx}
def ZZ:PV->Option PV
 | .int i=>some (.int (-i))
 | _=>none
def gh (f:EF):EF:=λρ=>(f ρ).bind λx=>(ZZ x.1.pv).map λp=>(.sh p,x.2)
theorem vC {a:Expr} {f:EF} {pos:Pos} (ha:PE X a (tP X.K f)):PE X (.UnaryOp .USub a pos) (tP X.K (gh f)):=PE.imp (Yx Wi ha) λσ H Q q=>by
 obtain⟨H0,Z0,ρ,pd,r,ρ',s,h,k⟩:=q;obtain⟨x,h1,h2⟩:=aci h;obtain⟨p,h3,h4⟩:=acj h2;cases h4;refine⟨H0,Z0,ρ,pd,x.1,x.2,s,h1,λv H1 s1=>?_⟩;obtain⟨_,r1⟩:=s1.freeze.repH;cases e:x.1.pv with
 | int i=>
  rw[e]at h3 r1;cases h3;exact⟨i,bK r1,k _ H1 (s1.pop.scal dO)⟩
 | _=>rw[e]at h3; cases h3
end
theorem zx {b:BF} {tc:TF} {te:EF} {mu:Mu} (J:Ev->Prop) (hJ:∀ρ,J ρ->ρ.mu=mu) (c:PV->Bool) (f:PV->PV):∀{xs:List PV} {ρ:Ev} {acc:List PV},J ρ->acc.length+xs.length<=100000->
 (∀x∈xs,∀ρ,J ρ->∃ρ1,b x ρ=some ρ1/\∃ρ2,tc ρ1=some (c x,ρ2)/\J ρ2/\(c x=true->∃l ρ3,te ρ2=some (l,ρ3)/\l.pv=f x/\J ρ3))->jm b tc te xs ρ acc=some (acc++(xs.filter c).map f,mu)
 | [],ρ,acc,h,_,_=>by show some (acc,ρ.mu)=_;rw[hJ ρ h];simp
 | x::xs,ρ,acc,h,hl,hs=>by
  obtain⟨ρ1,e1,ρ2,e2,h2,h3⟩:=hs x aac ρ h;have hs':∀y∈xs,∀ρ,J ρ->∃ρ1,b y ρ=some ρ1/\∃ρ2,tc ρ1=some (c y,ρ2)/\J ρ2/\(c y=true->∃l ρ3,te ρ2=some (l,ρ3)/\l.pv=f y/\J ρ3):=λy hy=>hs y (aak _ hy);rw[aae]at hl;show (b x ρ).bind _=_;rw[e1,aab,e2,aab];cases hc:c x with
  | false=>
   simp only[abX,if_false];rw[zx J hJ c f h2 (by omega) hs',List.filter_cons_of_neg (by simp[hc])]
  | true=>
   obtain⟨l,ρ3,e3,ef,h4⟩:=h3 hc;simp only[if_true];rw[e3,aab,aca (by omega),zx J hJ c f h4 (by rw[aah,List.length_singleton]; omega) hs',List.filter_cons_of_pos (by simp[hc]),ef];simp
theorem pD {b:BF} {te:EF} {mu:Mu} (J:Ev->Prop) (hJ:∀ρ,J ρ->ρ.mu=mu) (f:PV->PV) {xs:List PV} (h:J ρ) (hl:xs.length<=100000)
 (hs:∀x∈xs,∀ρ,J ρ->∃ρ1,b x ρ=some ρ1/\∃l ρ3,te ρ1=some (l,ρ3)/\l.pv=f x/\J ρ3) (hb:∀x∈xs,∀ρ ρ1,J ρ->b x ρ=some ρ1->J ρ1):jm b dh te xs ρ []=some (xs.map f,mu):=by
 rw[zx J hJ (λ_=>true) f h (by simpa using hl) λx hx ρ hρ=>?_]
 . rw[abg,List.filter_eq_self.mpr (λ_ _=>rfl)]
 . obtain⟨ρ1,e1,l,ρ3,e3⟩:=hs x hx ρ hρ;exact⟨ρ1,e1,ρ1,rfl,hb x hx ρ ρ1 hρ e1,λ_=>⟨l,ρ3,e3⟩⟩
theorem oK (a b:Int):eX (.int a) (.int b)=some (.sh (.int (a+b))):=rfl
theorem gj {a b:Int} (h:0<b):cI (.int a) (.int b)=some (.sh (.int (a%b))):=by show (if decide (0<b)=true then _ else _)=_;rw[aca (acf h)]
theorem NQ {a b:Int} (h:0<b) (h2:b<1073741824):nj (.int a) (.int b)=some (.sh (.int (a/b))):=by show (if decide (0<b/\b<1073741824)=true then _ else _)=_;rw[aca (acf ⟨h,h2⟩)]
theorem Bf {a b:Int} (h:-18446744073709551616<a) (h2:a<18446744073709551616):jw (.int a) (.int b)=some (.sh (.int (a*b))):=by show (if decide ((-(2 ^ 64)<a/\a<2 ^ 64)\/(-(2 ^ 64)<b/\b<2 ^ 64))=true then _ else _)=_;rw[aca (acf (.inl ⟨by omega,by omega⟩))]
theorem uJ {a b:Int} (h:-18446744073709551616<b) (h2:b<18446744073709551616):jw (.int a) (.int b)=some (.sh (.int (a*b))):=by show (if decide ((-(2 ^ 64)<a/\a<2 ^ 64)\/(-(2 ^ 64)<b/\b<2 ^ 64))=true then _ else _)=_;rw[aca (acf (.inr ⟨by omega,by omega⟩))]
theorem cz {g:PV->PV->Option Lc} {fa fb:EF} {ρ ρ1 ρ2:Ev} {x y l:Lc} (h1:fa ρ=some (x,ρ1)) (h2:fb ρ1=some (y,ρ2)) (h3:g x.pv y.pv=some l):aB g fa fb ρ=some (l,ρ2):=by unfold aB;rw[h1,aab,h2,aab,h3];rfl
theorem zy {α:Type} {l:List α} {i:Int} (h0:0<=i) (h1:i<l.length):∃x,gw l i=some x/\l[i.toNat]?=some x:=by
 have hi:i.toNat<l.length:=by omega
 refine⟨l[i.toNat],?_,aaB hi⟩;unfold gw Ac;rw[aca h0,aca h1,aab,aaB hi]
theorem yp {f g:SF} {ρ ρ':Ev} (h:f ρ=some (.nx ρ')):aK f g ρ=g ρ':=by unfold aK; rw[h,aab]
theorem gk {f g:SF} {ρ ρ':Ev} {r:Lc} (h:f ρ=some (.rt r ρ')):aK f g ρ=some (.rt r ρ'):=by unfold aK; rw[h,aab]
theorem Uz {i:Nat} {f:EF} {ρ ρ1:Ev} {l:Lc} (h:f ρ=some (l,ρ1)) (hi:i<ρ1.vs.length):aV i f ρ=some (.nx (ρ1.set i (some l))):=by unfold aV; rw[h,aab,aca hi]
theorem d9 {c:TF} {f g:SF} {ρ ρ1:Ev} (h:c ρ=some (true,ρ1)):cO c f g ρ=f ρ1:=by unfold cO; rw[h,aab,aca rfl]
theorem cL {c:TF} {f g:SF} {ρ ρ1:Ev} (h:c ρ=some (false,ρ1)):cO c f g ρ=g ρ1:=by unfold cO; rw[h,aab,acb aaS]
theorem UG {f:EF} {ρ ρ1:Ev} {l:Lc} (h:f ρ=some (l,ρ1)):bT f ρ=some (.rt l ρ1):=by unfold bT; rw[h]; rfl
theorem UJ {f:IF} {b:BF} {body:SF} {ρ ρ1:Ev} {xs:List PV} (h:f ρ=some (xs,ρ1)):lu f b body ρ=gY b body xs ρ1:=by unfold lu; rw[h,aab]
theorem aW {n:Nat} {g:SF} {ps:List PV} {mu:Mu} {r:Lc} (h:g (env0 n ps mu)=some (.rt r ρ)):cH n g ps mu=some (r,ρ.mu):=by unfold cH; rw[h,aab]
theorem eG {n:Nat} {g:SF} {ps:List PV} {mu:Mu} (h:g (env0 n ps mu)=some (.nx ρ)):cH n g ps mu=some (.sh .non,ρ.mu):=by unfold cH; rw[h,aab]
theorem Q7 {g:GF} {a:AF} {ρ ρ1:Ev} {ls:List Lc} {r:Lc} {mu:Mu} (h:a ρ=some (ls,ρ1)) (h2:g (ls.map Lc.pv) ρ1.mu=some (r,mu)):aJ g a ρ=some (r,⟨ρ1.vs,mu⟩):=by unfold aJ; rw[h,aab,h2]; rfl
theorem Q8 {f:EF} {a:AF} {ρ ρ1 ρ2:Ev} {l:Lc} {ls:List Lc} (h:f ρ=some (l,ρ1)) (h2:a ρ1=some (ls,ρ2)):aj f a ρ=some (l::ls,ρ2):=by unfold aj; rw[h,aab,h2]; rfl
theorem YM {g:List PV->Option Lc} {a:AF} {ρ ρ1:Ev} {ls:List Lc} {r:Lc} (h:a ρ=some (ls,ρ1)) (h2:g (ls.map Lc.pv)=some r):eB g a ρ=some (r,ρ1):=by unfold eB; rw[h,aab,h2]; rfl
theorem iD {f:IF} {m:Nat} {ixs:List Nat} {b:BF} {tc:TF} {te:EF} {ρ ρ1:Ev} {xs ys:List PV} {mu:Mu} (h:f ρ=some (xs,ρ1)) (h2:jm b tc te xs (qZ m ixs (jl ixs ρ1)) []=some (ys,mu)):dD f m ixs b tc te ρ=some (.own (.lst ys),⟨(jl ixs ρ1).vs,mu⟩):=by unfold dD; rw[h,aab,h2]; rfl
theorem jP {f:EF} {g:PV->Option (List PV)} {ρ ρ1:Ev} {l:Lc} {xs:List PV} (h:f ρ=some (l,ρ1)) (h2:g l.pv=some xs):gH f g ρ=some (xs,ρ1):=by unfold gH; rw[h,aab,h2]; rfl
theorem Bg {f:EF} {tr:PV->Option Bool} {ρ ρ1:Ev} {l:Lc} {b:Bool} (h:f ρ=some (l,ρ1)) (h2:tr l.pv=some b):tT f tr ρ=some (b,ρ1):=by unfold tT; rw[h,aab,h2]; rfl
section
variable {f g:SF} {ρ ρ1 ρ2 ρ':Ev} {R:Option Fl} {l m r:Lc} {fa fb fc:EF} {c d:TF} {a:AF} {b:Bool}
theorem aD (h:f ρ=some (.nx ρ')) (h2:g ρ'=R):aK f g ρ=R:=(yp h).trans h2
theorem cA {i:Nat} (h:fa ρ=some (l,ρ1)) (hi:Nat.blt i ρ1.vs.length=true) (e:ρ1.set i (some l)=ρ'):aV i fa ρ=some (.nx ρ'):=by rw[Uz h (by simpa using hi),e]
theorem bL (h:fa ρ=some (l,ρ1)):bT fa ρ=some (.rt l ρ1):=UG h
theorem fQ (h:fa ρ=some (l,ρ1)):dC fa ρ=some (.nx ρ1):=by unfold dC; rw[h]; rfl
theorem cW {o:PV->PV->Option Lc} {p q:PV} (h1:fa ρ=some (l,ρ1)) (hx:l.pv=p) (h2:fb ρ1=some (m,ρ2)) (hy:m.pv=q) (h3:o p q=some r):aB o fa fb ρ=some (r,ρ2):=cz h1 h2 (by rw[hx,hy]; exact h3)
theorem aU {G:GF} {ls:List Lc} {ps:List PV} {mu:Mu} {v:List (Option Lc)} {mu1:Mu} (h:a ρ=some (ls,ρ1)) (hp:ls.map Lc.pv=ps) (hv:ρ1.vs=v) (hm:ρ1.mu=mu1) (h2:G ps mu1=some (r,mu)):aJ G a ρ=some (r,⟨v,mu⟩):=by subst hp hv hm;exact Q7 h h2
theorem rB {G:List PV->Option Lc} {ls:List Lc} {ps:List PV} (h:a ρ=some (ls,ρ1)) (hp:ls.map Lc.pv=ps) (h2:G ps=some r):eB G a ρ=some (r,ρ1):=by subst hp;exact YM h h2
theorem aA {ls:List Lc} (h:fa ρ=some (l,ρ1)) (h2:a ρ1=some (ls,ρ2)):aj fa a ρ=some (l::ls,ρ2):=Q8 h h2
theorem di {tr:PV->Option Bool} {p:PV} (h:fa ρ=some (l,ρ1)) (hp:l.pv=p) (h2:tr p=some b):tT fa tr ρ=some (b,ρ1):=by subst hp;exact Bg h h2
theorem Ha (h:c ρ=some (b,ρ1)):qu c ρ=some (!b,ρ1):=by unfold qu; rw[h]; rfl
theorem Hb {b2:Bool} (h:c ρ=some (b,ρ1)) (h2:d ρ1=some (b2,ρ1)):gG c d ρ=some (b&&b2,ρ1):=by
 unfold gG;rw[h,aab];cases b with
 | true=>rw[aca rfl,h2]; rfl
 | false=>rfl
theorem Le {b2:Bool} (h:c ρ=some (b,ρ1)) (h2:d ρ1=some (b2,ρ1)):wO c d ρ=some (b||b2,ρ1):=by
 unfold wO;rw[h,aab];cases b with
 | true=>rfl
 | false=>rw[acb aaS,h2]; rfl
theorem xm {ls:List Lc} {ps:List PV} (h:a ρ=some (ls,ρ1)) (hl:Nat.ble ls.length 1000=true) (hp:ls.map Lc.pv=ps):bx a ρ=some (.own (.lst ps),ρ1):=by subst hp;unfold bx;rw[h,aab,aca (by simpa using hl)]
theorem gb {ls:List Lc} {ps:List PV} (h:a ρ=some (ls,ρ1)) (hl:Nat.ble ls.length 1000=true) (hp:ls.map Lc.pv=ps):bG a ρ=some (.sh (.tup ps),ρ1):=by subst hp;unfold bG;rw[h,aab,aca (by simpa using hl)]
theorem mz {p q:PV} (h1:fa ρ=some (l,ρ1)) (hx:l.pv=p) (h2:fb ρ1=some (m,ρ2)) (hy:m.pv=q) (hn:∀n,p≠.ptr n) (h3:uF p q=some r):aY fa fb ρ=some (r,ρ2):=by
 subst hx hy;unfold aY;rw[h1,aab,h2,aab];split
 . rename_i n k e1 e2;exact(hn n e1).elim
 . rw[h3]; rfl
theorem Bh {n:Nat} {k:Int} {ws:List PV} {p:PV} (h1:fa ρ=some (l,ρ1)) (hx:l.pv=.ptr n) (h2:fb ρ1=some (m,ρ2)) (hy:m.pv=.int k) (hm:ρ2.mu[n]?=some (some (.lst ws))) (h3:gw ws k=some p):aY fa fb ρ=some (.sh p,ρ2):=by unfold aY;rw[h1,aab,h2,aab,hx,hy];show (match ρ2.mu[n]? with | some (some (.lst ws))=>_ | _=>_)=_;rw[hm];show (gw ws k).map _=_;rw[h3];rfl
theorem Xc {i:Nat} {ws0 ws:List PV} {p:PV} (h0:ρ.vs[i]?=some (some (.own (.lst ws0)))) (h:fa ρ=some (l,ρ1)) (hp:l.pv=p) (h1:ρ1.vs[i]?=some (some (.own (.lst ws)))) (hz:ws.length<100000) (e:ρ1.set i (some (.own (.lst (ws++[p]))))=ρ'):zr i fa ρ=some (.nx ρ'):=by subst hp;unfold zr;rw[h0];show (fa ρ).bind _=_;rw[h,aab];show (match ρ1.vs[i]? with | some (some (.own (.lst ws)))=>_ | _=>_)=_;rw[h1];show (if ws.length<100000 then _ else _)=_;rw[aca hz,e]
theorem xn {i:Nat} {ws0 ws ps:List PV} (h0:ρ.vs[i]?=some (some (.own (.lst ws0)))) (h:fa ρ=some (l,ρ1)) (hp:l.pv=.lst ps) (h1:ρ1.vs[i]?=some (some (.own (.lst ws)))) (hz:ws.length+ps.length<=100000) (e:ρ1.set i (some (.own (.lst (ws++ps))))=ρ'):nC i fa ρ=some (.nx ρ'):=by unfold nC;rw[h0];show (fa ρ).bind _=_;rw[h,aab,hp];show (match PV.lst ps,ρ1.vs[i]? with | .lst ps,some (some (.own (.lst ws)))=>_ | _,_=>_)=_;rw[h1];show (if ws.length+ps.length<=100000 then _ else _)=_;rw[aca hz,e]
theorem sX {C:String} {p:PV} (h:fa ρ=some (l,ρ1)) (hp:l.pv=p) (h2:xj p C=some b):jx C fa ρ=some (.sh (.bl b),ρ1):=by subst hp;unfold jx;rw[h,aab,h2];rfl
theorem mq {F:IF} {B:BF} {body:SF} {xs:List PV} (h:F ρ=some (xs,ρ1)) (h2:gY B body xs ρ1=R):lu F B body ρ=R:=(UJ h).trans h2
end
section
variable {X:Cx}
def bB (f:EF):EF:=λρ=>(f ρ).bind λx=>match x.1 with
 | .own p=>some (.sh (.ptr x.2.mu.length),⟨x.2.vs,x.2.mu++[some p]⟩)
 | _=>none
theorem ie {e:Expr} {f:EF} (h:PE X e (tP X.K f)):PE X e (tP X.K (bB f)):=PE.imp h λσ H Q q=>by
 obtain⟨H0,Z0,ρ,pd,l,ρ',s,f,k⟩:=q;obtain⟨x,h1,h2⟩:=aci f;refine⟨H0,Z0,ρ,pd,x.1,x.2,s,h1,λv H1 s1=>?_⟩;split at h2
 . rename_i p ep;cases h2;rw[ep]at s1;obtain⟨el,Z,hg,z,so⟩:=s1.top;obtain⟨a,ea,ra,za,ha0⟩:=so.1 _ aac;have ea':v=.ref a:=aaA ea;subst ea';have lz:f9 Z ⟨Z.z,Z.g++[a]⟩:=⟨du.refl _,abY _ _⟩;have so2:=so.step (Z':=⟨Z.z,Z.g++[a]⟩) (H':=H1) lz λe he b hb=>⟨rfl,(jc so he hb).1⟩;refine k _ H1 (.mk (Z:=⟨Z.z,Z.g++[a]⟩) el (by simp[hg]) ⟨z.zh,z.h0,z.z0.trans lz,z.new⟩ (Slots.consS ?_ ?_))
   . refine so2.perm ?_;have ec:cel (Z.g++[a]) (x.2.mu++[some p])=cel Z.g x.2.mu++[(some (.ref a),some (.own p))]:=by unfold cel;rw[aaG,aaG,abk (by simp[hg])];rfl
     unfold sl;show List.Perm (cel (Z.g++[a]) (x.2.mu++[some p])++_) _;rw[ec,aai];exact aaZ
   . unfold Rep;exact⟨a,rfl,by show (Z.g++[a])[x.2.mu.length]?=some a; rw[hg,aav (aaf _)]; simp⟩
 . cases h2
def zA (f:EF) (lo hi:OF):EF:=λρ=>(f ρ).bind λx=>(lo x.2).bind λy=>(hi y.2).bind λz=>match x.1.pv with
 | .lst ps=>some (.own (.lst (vz ps y.1 z.1)),z.2)
 | .str t=>if t.length<=100000 then some (.sh (.str (ux t y.1 z.1)),z.2) else none
 | _=>none
theorem Jy {e:Expr} {lo hi:Option Expr} {p2 pos:Pos} {f:EF} {fl fh:OF} (he:PE X e (tP X.K f)) (hl:PO X lo (Jw X.K fl)) (hu:PO X hi (Jw X.K fh)):PE X (.Subscript e (.Slice lo hi none p2) pos) (tP X.K (zA f fl fh)):=PE.imp (Gm (Ub.or WF) he hl hu) λσ H Q q=>by
 obtain⟨H0,Z0,ρ,pd,r,ρ',s,h,k⟩:=q;obtain⟨x,h1,h2⟩:=aci h;obtain⟨y,h3,h4⟩:=aci h2;obtain⟨z,h5,h6⟩:=aci h4;refine⟨H0,Z0,ρ,pd,x.1,x.2,s,h1,λv H1 s1=>⟨H0,Z0,x.2,_,y.1,y.2,s1.freeze,h3,λH2 s2=>⟨H0,Z0,y.2,_,z.1,z.2,s2,h5,λH3 s3=>?_⟩⟩⟩;cases e:x.1.pv with
 | lst ps=>
  rw[e]at h6 s3;cases h6;obtain⟨el,Z,hg,zz,r1,s4⟩:=s3.sh;unfold Rep at r1;obtain⟨a,vs,rfl,g1,g2⟩:=r1;refine .inl ⟨a,vs,rfl,bR.same zz.zh g1,λp hp=>k _ _ ?_⟩;obtain⟨z',s'⟩:=s4.new (o:=.lst (qU vs y.1 z.1)) (p:=.lst (vz ps y.1 z.1)) zz hp ⟨_,bN,g2.cut⟩;exact .mk el hg z' s'
 | str t=>
  rw[e]at h6 s3;have h6':(if t.length<=100000 then some (Lc.sh (.str (ux t y.1 z.1)),z.2) else none)=some (r,ρ'):=h6;split at h6'
  . rename_i hz;cases h6';obtain⟨_,r1⟩:=s3.repH;unfold Rep at r1;exact .inr ⟨t,r1,small hz,k _ H3 (s3.pop.scal uz)⟩
  . cases h6'
 | _=>rw[e]at h6; cases h6
theorem jn.two {r:List V->Hp->VK->Prop} {g:PV->PV->Option Lc} (h:∀H0 Z0 σ ρ pd H v w p q l Q,SR K H0 Z0 σ H ρ ((v,.sh p)::(w,.sh q)::pd)->g p q=some l->(∀u H',SR K H0 Z0 σ H' ρ ((u,l)::pd)->Q u H')->r [v,w] H Q):
 jn K r (λps=>match ps with | [p,q]=>g p q | _=>none):=by
 intro H0 Z0 σ ρ pd H vs ps l Q e s hg k
 match ps,vs,e,s,hg with
 | [p,q],[v,w],_,s,hg=>exact h H0 Z0 σ ρ pd H v w p q l Q s hg k
 | [p,q],[],e,_,_=>simp at e
 | [p,q],[_],e,_,_=>simp at e
 | [p,q],_::_::_::_,e,_,_=>simp at e
 | [],_,_,_,hg=>cases hg
 | [_],_,_,_,hg=>cases hg
 | _::_::_::_,_,_,_,hg=>cases hg
def aao:PV->PV->Option Lc
 | .int i,.int j=>some (.sh (.int (if j<i then j else i)))
 | _,_=>none
def Xd:PV->PV->Option Lc
 | .int i,.int j=>some (.sh (.int (if j>i then j else i)))
 | _,_=>none
abbrev max2:List PV->Option Lc:=λps=>match ps with | [p,q]=>Xd p q | _=>none
theorem Xe:jn K (λxs H Q=>∃i j,xs=[.int i,.int j]/\Q (.int (if j>i then j else i)) H) max2:=jn.two λH0 Z0 σ ρ pd H v w p q l Q s e k=>by
 obtain⟨_,r1,r2⟩:=s.rep2H;unfold Xd at e;split at e
 . cases e;have a:=bK r1;have b:=bK r2;subst a b;exact⟨_,_,rfl,k _ H (s.pop.pop.scal dO)⟩
 . cases e
theorem SR.popO {a:Addr} {ws:List PV} {p:PV} (s:SR K H0 Z0 σ H ρ ((.ref a,.own (.lst ws))::pd)) (hp:ws[ws.length-1]?=some p):
 ∃us y,H a=some (.lst us)/\us[us.length-1]?=some y/\SR K H0 Z0 σ (upd H a (.lst us.dropLast)) ρ ((.ref a,.own (.lst ws.dropLast))::(y,.sh p)::pd):=by
 obtain⟨el,Z,hg,z,so⟩:=s.top;obtain⟨b,eb,⟨us,hu,hr⟩,_⟩:=so.1 _ aac;cases eb;obtain⟨y,hy,ry⟩:=hr.get hp;have hl:=hr.length;refine⟨us,y,hu,by rw[hl]; exact hy,?_⟩;have hd:aH K Z ws.dropLast us.dropLast:=by rw[List.dropLast_eq_take,List.dropLast_eq_take,hl];exact hr.take _
 obtain⟨z',s'⟩:=so.write (o:=.lst us.dropLast) (q:=.lst ws.dropLast) z ⟨us.dropLast,bN,hd⟩;have s2:=(s'.consS (v:=y) (p:=p) ry).perm (List.Perm.swap (some y,some (Lc.sh p)) (some (V.ref a),some (Lc.own (.lst ws.dropLast))) _);exact .mk (Z:=Z) el hg z' (s2.perm (cg.cons _))
def qz (ps:List PV):List PV:=ps.zipIdx.map λx=>.tup [.int (x.2:Nat),x.1]
theorem NT {ps:List PV} {i:Nat}:(qz ps)[i]?=ps[i]?.map λp=>.tup [.int (i:Nat),p]:=by unfold qz;rw[aaJ,List.getElem?_zipIdx];cases ps[i]?<;>simp
theorem NZ {ps:List PV}:(qz ps).length=ps.length:=by unfold qz; simp
theorem N5 {H0:Hp} {a:Addr} {ps:List PV}:ni K H0 Z0 ((.ref a,.sh (.lst ps))::pd) (WK K a) (qz ps):=by intro σ H ρ i s;obtain⟨el,Z,hg,z,r,so⟩:=s.sh;have r0:=r;unfold Rep at r;obtain⟨b,vs,e,h1,h2⟩:=r;cases e;have hq:=bR.same z.zh h1;refine⟨λx hx=>?_,λhl=>⟨vs,hq,by rw[h2.length]; rw[NZ]at hl; omega⟩⟩;rw[NT]at hx;obtain⟨p,hp,rfl⟩:=acj hx;obtain⟨v,hv,rv⟩:=h2.get hp;refine⟨⟨vs,v,hq,hv⟩,λv' H' y=>?_⟩;obtain⟨T,y,hT,rfl,rfl,hy⟩:=y;have e1:=hy vs hq;rw[hv]at e1;cases e1;obtain⟨z',lz,so'⟩:=(so.consS r0).newF z (a:=T) (o:=.tup [.int (i:Nat),v]) hT;refine .mk (Z:=Z.put T (.tup [.int (i:Nat),v])) el hg z' (Slots.perm (Slots.consS so' ?_) (cg.cons _));unfold Rep;exact⟨T,[.int (i:Nat),v],rfl,.inl (.inl (by show upd Z.z T _ T=_; rw[bN])),aH.cons (dO _) (aH.cons (rv.mono lz) .nil)⟩
def xq (f:EF):IF:=λρ=>(f ρ).bind λx=>match x.1.pv with
 | .lst ps=>some (qz ps,x.2)
 | _=>none
theorem Jz {a:Expr} {f:EF} {p pos:Pos} {elts:List Expr} {x1} {tpos:Pos} (hg:Gl X "enumerate") (hm:X.mg "enumerate" = none) (ha:PA X [a] (gQ X.K (aj f ao))) (hs:starEach [a] X.env=[(false,eval a X.env)]:=by rfl):PI X (.Tuple elts x1 tpos) (.Call (.Name "enumerate" p) [a] [] pos) (Ay X.K (xq f)):=PI.imp (Uk hg hm ha hs) λσ H R q=>by
 obtain⟨H0,Z0,ρ,pd,xs,ρ',s,h,k⟩:=q;obtain⟨x,h1,h2⟩:=aci h;refine⟨H0,Z0,ρ,pd,[x.1],x.2,s,?_,λvs H1 e1 s1=>?_⟩
 . unfold aj ao;rw[h1];rfl
 . obtain⟨v,rfl⟩:=yP e1;have s2:SR X.K H0 Z0 σ H1 x.2 ((v,.sh x.1.pv)::pd):=SR.freeze s1;cases e:x.1.pv with
   | lst ps=>
    rw[e]at h2 s2;cases h2;obtain⟨Z,z,r⟩:=s2.rep;unfold Rep at r;obtain⟨b,us,rfl,h1',h2'⟩:=r;exact⟨b,rfl,⟨us,bR.same z h1'⟩,k _ _ _ s2 N5 (aaq _ _)⟩
   | _=>rw[e]at h2; cases h2
abbrev PD:=List (Key×PV)
def bI:PD->Key->Option PV
 | [],_=>none
 | kv::r,k=>if kv.1=k then some kv.2 else bI r k
def jG (k:Key) (v:PV):PD->PD
 | []=>[]
 | kv::r=>(if kv.1=k then (kv.1,v) else kv)::jG k v r
def cU (l:PD) (k:Key) (v:PV):PD:=match bI l k with
 | some _=>jG k v l
 | none=>l++[(k,v)]
def oM:PV->Option Key
 | .int i=>some (.inl i)
 | .str x=>some (.inr x)
 | _=>none
def bz (l:PD):PV:=.dk (l.map (·.1)) (l.map (·.2))
def dR (K:FG) (Z:ZG):PD->List (Key×V)->Prop:=Paired λp q=>p.1=q.1/\Rep K Z p.2 q.2
section
variable {K:FG} {Z Z':ZG}
theorem iV:∀{kvs:List (Key×V)} {ks:List Key} {ps:List PV},kvs.map (·.1)=ks->aH K Z ps (kvs.map (·.2))->dR K Z (ks.zip ps) kvs
 | [],ks,ps,h1,h2=>by subst h1;exact .nil
 | kv::r,ks,ps,h1,h2=>by
  subst h1;cases ps with
  | nil=>have:=h2.inv0; simp at this
  | cons p ps=>
   obtain⟨v,r',e,h3,h4⟩:=h2.inv;rw[aax]at e;injection e with e1 e2;subst e1 e2;rw[aax,aa8];exact .cons ⟨rfl,h3⟩ (iV rfl h4)
theorem dR.keys:∀{l:PD} {kvs:List (Key×V)},dR K Z l kvs->kvs.map (·.1)=l.map (·.1)
 | _,_,.nil=>rfl
 | _,_,.cons h t=>by rw[aax,aax,h.1,dR.keys t]
theorem dR.vals:∀{l:PD} {kvs:List (Key×V)},dR K Z l kvs->aH K Z (l.map (·.2)) (kvs.map (·.2))
 | _,_,.nil=>.nil
 | _,_,.cons h t=>aH.cons h.2 (dR.vals t)
theorem dR.len:∀{l:PD} {kvs:List (Key×V)},dR K Z l kvs->kvs.length=l.length
 | _,_,.nil=>rfl
 | _,_,.cons h t=>by rw[aae,aae,dR.len t]
theorem dR.val {k:Key}:∀{l:PD} {kvs:List (Key×V)},dR K Z l kvs->(∀p,bI l k=some p->∃v,lq kvs k=some v/\Rep K Z p v)/\(bI l k=none->lq kvs k=none)
 | _,_,.nil=>⟨λp h=>(by cases h),λ_=>rfl⟩
 | p::l,q::kvs,.cons h t=>by
  have ih:=dR.val (k:=k) t;by_cases e:p.1=k
  . have e':q.1=k:=by rw[<-h.1]; exact e
    refine⟨λx hx=>⟨q.2,uZ e',?_⟩,λhx=>?_⟩
    . unfold bI at hx; rw[aca e]at hx; cases hx; exact h.2
    . unfold bI at hx; rw[aca e]at hx; cases hx
  . have e':¬ q.1=k:=by rw[<-h.1]; exact e
    rw[u5 e'];unfold bI;rw[acb e];exact ih
theorem dR.repl {k:Key} {p:PV} {v:V} (r:Rep K Z p v):∀{l:PD} {kvs:List (Key×V)},dR K Z l kvs->dR K Z (jG k p l) (kvs.map λkv=>if kv.1=k then (kv.1,v) else kv)
 | _,_,.nil=>.nil
 | a::l,b::kvs,.cons h t=>by
  refine .cons ?_ (dR.repl r t);by_cases e:a.1=k
  . have e':b.1=k:=by rw[<-h.1]; exact e
    rw[aca e];dsimp only;rw[aca e'];exact⟨h.1,r⟩
  . have e':¬ b.1=k:=by rw[<-h.1]; exact e
    rw[acb e];dsimp only;rw[acb e'];exact h
theorem dR.app:∀{l l':PD} {kvs kvs':List (Key×V)},dR K Z l kvs->dR K Z l' kvs'->dR K Z (l++l') (kvs++kvs')
 | _,_,_,_,.nil,h=>h
 | _,_,_,_,.cons a t,h=>.cons a (dR.app t h)
theorem dR.put {k:Key} {p:PV} {v:V} {l:PD} {kvs:List (Key×V)} (h:dR K Z l kvs) (r:Rep K Z p v):dR K Z (cU l k p) (putK kvs k v):=by
 have hv:=h.val (k:=k);unfold cU;cases e:bI l k with
 | none=>
  rw[Qx v (hv.2 e)];exact h.app (.cons ⟨rfl,r⟩ .nil)
 | some q=>
  obtain⟨u,hu,_⟩:=hv.1 q e;have e2:putK kvs k v=kvs.map λkv=>if kv.1=k then (kv.1,v) else kv:=by unfold putK;rw[u6,hu];rfl
  rw[e2];exact h.repl r
theorem oN {p:PV} {k:Key} {v:V} (h:oM p=some k) (r:Rep K Z p v):v=kV k:=by
 cases p with
 | int i=>cases h; exact bK r
 | str x=>cases h; exact cZ r
 | _=>cases h
end
def bH (fa fb:EF):EF:=λρ=>(fa ρ).bind λx=>(fb x.2).bind λy=>match x.1.pv with
 | .dk ks ps=>(oM y.1.pv).bind λk=>(bI (ks.zip ps) k).map λp=>(.sh p,y.2)
 | .df ks ps=>(oM y.1.pv).bind λk=>(bI (ks.zip ps) k).map λp=>(.sh p,y.2)
 | _=>aY (λ_=>some x) (λ_=>some y) ρ
theorem UL {ρ ρ0 ρ':Ev} {v w:V} {x y:Lc×Ev} {l:Lc} {Q:VK} (hy:y.2=ρ) (s3:SR X.K H0 Z0 σ H ρ ((w,.sh y.1.pv)::(v,.sh x.1.pv)::pd)) (h:aY (λ_=>some x) (λ_=>some y) ρ0=some (l,ρ')) (k:∀u H',SR X.K H0 Z0 σ H' ρ' ((u,l)::pd)->Q u H'):Wv X.K v w H Q:=by
 unfold aY at h;rw[aab,aab]at h;subst hy;split at h
 . rename_i n kk en ek;split at h
   . rename_i ws em;obtain⟨p,h5,h6⟩:=acj h;cases h6;rw[en,ek]at s3;obtain⟨_,rw'⟩:=s3.repH;have ew:=bK rw';obtain⟨a,rfl,s5⟩:=s3.pop.cellO em;obtain⟨el,Z,hg,z,so⟩:=s5.top;obtain⟨_,ea,⟨us,hu,hr⟩,_⟩:=so.1 _ aac;cases ea;obtain⟨j,e1,e2⟩:=yo h5 hr.length;obtain⟨u,e3,e4⟩:=hr.get e1;refine .inl ⟨a,us,kk,u,rfl,ew,bR.of hu,e2 u e3,k u H ?_⟩;have s6:SR X.K H0 Z0 σ H ⟨y.2.vs,y.2.mu.set n none⟩ ((u,.sh p)::(.ref a,.own (.lst ws))::(.ref a,.sh (.ptr n))::pd):=.mk (Z:=Z) el hg z ((so.perm cg).consS e4);have hn:n<y.2.mu.length:=(aap.mp em).1;have s7:SR X.K H0 Z0 σ H ⟨y.2.vs,y.2.mu.set n none⟩ ((.ref a,.own (.lst ws))::(.ref a,.sh (.ptr n))::(u,.sh p)::pd):=s6.perm (((List.Perm.swap _ _ _).cons _).trans (List.Perm.swap _ _ _));have s8:=s7.cellP (by show (y.2.mu.set n none)[n]?=_; rw[aas hn]);have e8:(y.2.mu.set n none).set n (some (.lst ws))=y.2.mu:=by rw[aba]; exact ack em
     have s9:SR X.K H0 Z0 σ H ⟨y.2.vs,(y.2.mu.set n none).set n (some (.lst ws))⟩ ((u,.sh p)::pd):=s8;rw[e8]at s9;exact s9
   . cases h
 . obtain⟨l',h5,h6⟩:=acj h;cases h6;exact Nz H0 Z0 σ y.2 pd H v w x.1.pv y.1.pv _ Q s3 h5 k
theorem fW {a b:Expr} {pos:Pos} {fa fb:EF} (hu:X.A.units+1<cLine) (ha:PE X a (tP X.K fa)) (hb:PE X b (tP X.K fb)) (hm:yf b):PE X (.Subscript a b pos) (tP X.K (bH fa fb)):=PE.imp (KY (MF.or (Jl hu)) ha hb hm) λσ H Q q=>by
 obtain⟨H0,Z0,ρ,pd,l,ρ',s,f,k⟩:=q;obtain⟨x,h1,h2⟩:=aci f;obtain⟨y,h3,h4⟩:=aci h2;refine⟨H0,Z0,ρ,pd,x.1,x.2,s,h1,λv H1 s1=>⟨H0,Z0,x.2,_,y.1,y.2,s1,h3,λw H2 s2=>?_⟩⟩;have s3:=s2.freeze.swap.freeze.swap;split at h4
 . rename_i ks ps en;obtain⟨kk,h5,h6⟩:=aci h4;obtain⟨p,h7,h8⟩:=acj h6;cases h8;obtain⟨_,rw'⟩:=s3.repH;have ew:=oN h5 rw';have s4:=s3.pop;rw[en]at s4;obtain⟨Z,z,r⟩:=s4.rep;unfold Rep at r;obtain⟨b',kvs,rfl,g1,g2,g3⟩:=r;obtain⟨u,hu',ru⟩:=(iV g2 g3).val.1 p h7;have e1:=z _ _ g1;refine .inr ⟨b',u,rfl,.inl ⟨kvs,kk,.inl e1,ew,hu'.symm⟩,k u H2 ?_⟩;refine(s4.part (u:=u) (q:=p) λZ' z' r'=>?_).sub ((aaq _ _).cons_cons _);unfold Rep at r';obtain⟨b2,kvs2,eb,g1',g2',g3'⟩:=r';cases eb;have e2:=z' _ _ g1';rw[e1]at e2;cases e2;obtain⟨u2,hu2,ru2⟩:=(iV g2' g3').val.1 p h7;rw[hu']at hu2;cases hu2;exact ru2
 . rename_i ks ps en;obtain⟨kk,h5,h6⟩:=aci h4;obtain⟨p,h7,h8⟩:=acj h6;cases h8;obtain⟨_,rw'⟩:=s3.repH;have ew:=oN h5 rw';have s4:=s3.pop;rw[en]at s4;obtain⟨Z,z,r⟩:=s4.rep;unfold Rep at r;obtain⟨b',ob,kvs,rfl,g1,g2,g3⟩:=r;obtain⟨u,hu',ru⟩:=(iV g2 g3).val.1 p h7;have e1:=z _ _ g1;refine .inr ⟨b',u,rfl,.inl ⟨kvs,kk,.inr ⟨ob,e1⟩,ew,hu'.symm⟩,k u H2 ?_⟩;refine(s4.part (u:=u) (q:=p) λZ' z' r'=>?_).sub ((aaq _ _).cons_cons _);unfold Rep at r';obtain⟨b2,ob2,kvs2,eb,g1',g2',g3'⟩:=r';cases eb;have e2:=z' _ _ g1';rw[e1]at e2;cases e2;obtain⟨u2,hu2,ru2⟩:=(iV g2' g3').val.1 p h7;rw[hu']at hu2;cases hu2;exact ru2
 . exact .inl (UL rfl s3 h4 k)
theorem SR.takeD {i:Nat} {ks:List Key} {ps:List PV} (s:SR K H0 Z0 σ H ρ pd) (e:ρ.vs[i]?=some (some (.own (.dk ks ps)))):
 ∃a,σ[i]?=some (some (.ref a))/\SR K H0 Z0 σ H (ρ.set i none) ((.ref a,.own (.dk ks ps))::pd):=by
 obtain⟨v,e1,s1⟩:=s.take e;obtain⟨_,Z,_,z,so⟩:=s1.top;obtain⟨a,ea,_⟩:=so.1 _ aac;have ea':v=.ref a:=aaA ea;subst ea';exact⟨a,e1,s1⟩
theorem SR.setD {v:V} {p:PV} {a:Addr} {ks:List Key} {ps:List PV} {k:Key} (s:SR K H0 Z0 σ H ρ ((v,.sh p)::(.ref a,.own (.dk ks ps))::pd)):
 ∃kvs,H a=some (.dK kvs)/\kvs.length=ks.length/\SR K H0 Z0 σ (upd H a (.dK (putK kvs k v))) ρ ((.ref a,.own (bz (cU (ks.zip ps) k p)))::pd):=by
 obtain⟨el,Z,hg,z,r,so⟩:=s.sh;have so2:=so.perm cg.symm;obtain⟨_,eb,⟨kvs,hu,hk,hr⟩,_⟩:=so2.1 _ aac;cases eb;refine⟨kvs,hu,by rw[<-hk,aag],?_⟩;have d:=(iV hk hr).put (k:=k) r;obtain⟨z',s'⟩:=so2.write (o:=.dK (putK kvs k v)) (q:=bz (cU (ks.zip ps) k p)) z ⟨putK kvs k v,bN,d.keys,d.vals⟩;exact .mk el hg z' s'
def qC (i:Nat) (fi fv:EF):SF:=λρ=>(fv ρ).bind λx=>match x.2.vs[i]? with
 | some (some (.own (.dk _ _)))=>(fi x.2).bind λy=>match oM y.1.pv,y.2.vs[i]? with
  | some k,some (some (.own (.dk ks ps)))=>if ks.length<100000 then some (.nx (y.2.set i (some (.own (bz (cU (ks.zip ps) k x.1.pv)))))) else none
  | _,_=>none
 | _=>none
theorem JB {i:Nat} {o ix e:Expr} {fi fv:EF} {tpos pos:Pos} (h:PS X (.Assign [.Subscript o ix tpos] e pos) (Km (tP X.K fv) (Qd (qQ i) (tP X.K fi) La))):PS X (.Assign [.Subscript o ix tpos] e pos) (fV X.K (qC i fi fv)):=PS.imp h λD σ H q=>by
 obtain⟨H0,Z0,ρ,pd,fl,s,h,k⟩:=q;obtain⟨x,h1,h2⟩:=aci h;refine⟨H0,Z0,ρ,pd,x.1,x.2,s,h1,λv H1 s1=>?_⟩;split at h2
 . rename_i ks0 ps0 e0;obtain⟨y,h3,h4⟩:=aci h2;obtain⟨a,ea,_⟩:=s1.takeD e0;refine⟨.ref a,ea,H0,Z0,x.2,_,y.1,y.2,s1.freeze,h3,λw H2 s2=>?_⟩;split at h4
   . rename_i kk ks ps ek e3;split at h4
     . rename_i hlen;cases h4;obtain⟨_,rw'⟩:=s2.freeze.repH;have ew:=oN ek rw';obtain⟨a',ea',s3⟩:=s2.pop.takeD e3;rw[ea]at ea'; cases ea';obtain⟨kvs,hu,hl,s4⟩:=s3.swap.setD (k:=kk);refine⟨a,_,rfl,.inl ⟨kvs,kk,hu,ew,by rw[hl,sizeLine_eq]; omega,rfl⟩,k σ _ ?_⟩;have s5:=s4.put ea;rw[Ev.set_set]at s5;exact s5
     . cases h4
   . cases h4
 . cases h2
def eQ (fo fv:EF):SF:=λρ=>(fo ρ).bind λo=>match o.1.pv with
 | .ptr n=>match o.2.mu[n]? with
  | some (some (.lst _))=>(fv o.2).bind λy=>match y.2.mu[n]? with
   | some (some (.lst ws))=>if ws.length<100000 then some (.nx ⟨y.2.vs,y.2.mu.set n (some (.lst (ws++[y.1.pv])))⟩) else none
   | _=>none
  | _=>none
 | _=>none
theorem iW {o e:Expr} {fo fv:EF} {apos cpos pos:Pos} (h:PS X (.Expr (.Call (.Attribute o "append" apos) [e] [] cpos) pos) (uW (MK X.K "list" Cw (tP X.K fo) (gQ X.K (aj fv ao))))):
 PS X (.Expr (.Call (.Attribute o "append" apos) [e] [] cpos) pos) (fV X.K (eQ fo fv)):=PS.imp h λD σ H q=>by
 obtain⟨H0,Z0,ρ,pd,fl,s,h,k⟩:=q;obtain⟨o',h1,h2⟩:=aci h;refine⟨H0,Z0,ρ,pd,o'.1,o'.2,s,h1,λv H1 s1=>?_⟩;split at h2
 . rename_i n en;split at h2
   . rename_i ws0 em0;obtain⟨y,h3,h4⟩:=aci h2;have s2:=s1.freeze;rw[en]at s2;obtain⟨a,rfl,s5⟩:=s2.cellO em0;obtain⟨_,Z,_,z,so⟩:=s5.top;obtain⟨_,ea,⟨us,hu,_⟩,_⟩:=so.1 _ aac;cases ea;refine⟨.inl ⟨rfl,us,bR.of hu⟩,H0,Z0,o'.2,_,[y.1],y.2,s2,?_,λvs H2 e2 sv=>?_⟩
     . unfold aj ao;rw[h3];rfl
     . obtain⟨v1,rfl⟩:=yP e2;split at h4
       . rename_i ws em;split at h4
         . rename_i hz;cases h4;have s3:SR X.K H0 Z0 σ H2 y.2 ((v1,.sh y.1.pv)::(.ref a,.sh (.ptr n))::pd):=SR.freeze sv;obtain⟨a',ea',s6⟩:=s3.swap.cellO em;cases ea';have s7:SR X.K H0 Z0 σ H2 ⟨y.2.vs,y.2.mu.set n none⟩ ((v1,.sh y.1.pv)::(.ref a,.own (.lst ws))::(.ref a,.sh (.ptr n))::pd):=s6.perm ((List.Perm.swap _ _ _).trans ((List.Perm.swap _ _ _).cons _));obtain⟨us2,hu2,hl,s8⟩:=s7.pushO;have hn:n<y.2.mu.length:=(aap.mp em).1;have s9:=s8.cellP (by show (y.2.mu.set n none)[n]?=_; rw[aas hn]);refine⟨a,us2,v1,rfl,rfl,hu2,by rw[hl,sizeLine_eq]; omega,k σ _ ?_⟩;have e8:(y.2.mu.set n none).set n (some (.lst (ws++[y.1.pv])))=y.2.mu.set n (some (.lst (ws++[y.1.pv]))):=aba ..;have s10:SR X.K H0 Z0 σ (upd H2 a (.lst (us2++[v1]))) ⟨y.2.vs,(y.2.mu.set n none).set n (some (.lst (ws++[y.1.pv])))⟩ pd:=s9;rw[e8]at s10;exact s10
         . cases h4
       . cases h4
   . cases h2
 . cases h2
abbrev DF:=Ev->Option (List (Lc×Lc)×Ev)
def j7:DF:=λρ=>some ([],ρ)
def bD (f g:EF) (d:DF):DF:=λρ=>(f ρ).bind λx=>(g x.2).bind λy=>(d y.2).map λz=>((x.1,y.1)::z.1,z.2)
def qt:List (V×V)->List V
 | []=>[]
 | p::r=>p.1::p.2::qt r
def sY:List (Lc×Lc)->List Lc
 | []=>[]
 | p::r=>p.1::p.2::sY r
theorem Ef:∀{ps:List (V×V)},(qt ps).length=2*ps.length
 | []=>rfl
 | p::r=>by show (qt r).length+1+1=_; rw[Ef,aae]; omega
theorem Eg:∀{ps:List (Lc×Lc)},(sY ps).length=2*ps.length
 | []=>rfl
 | p::r=>by show (sY r).length+1+1=_; rw[Eg,aae]; omega
def tPD (K:FG) (d:DF) (σ:L2.St) (H:Hp) (Q:List (V×V)->Hp->Prop):Prop:=∃H0 Z0 ρ pd zs ρ',SR K H0 Z0 σ H ρ pd/\d ρ=some (zs,ρ')/\∀ps H',ps.length=zs.length->SR K H0 Z0 σ H' ρ' ((qt ps).zip (sY zs)++pd)->Q ps H'
def SM (X:Cx) (pos:Pos) (keys:List (Option Expr)) (values:List Expr) (d:DF):Prop:=∃trs,M6 X pos keys values trs/\∀σ H Q,tPD X.K d σ H Q->Ak trs σ H Q
theorem xx {pos:Pos}:SM X pos [] [] j7:=⟨[],Uc,λσ H Q q=>by obtain⟨H0,Z0,ρ,pd,zs,ρ',s,h,k⟩:=q;cases h;exact k [] H rfl s⟩
theorem dU {pos:Pos} {ke ve:Expr} {ks:List (Option Expr)} {vs:List Expr} {f g:EF} {d:DF} (hk:PE X ke (tP X.K f)) (hv:PE X ve (tP X.K g)) (hr:SM X pos ks vs d):SM X pos (some ke::ks) (ve::vs) (bD f g d):=by obtain⟨trs,h1,h2⟩:=hr;refine⟨_,Qz hk hv h1,λσ H Q q=>?_⟩;obtain⟨H0,Z0,ρ,pd,zs,ρ',s,h,k⟩:=q;obtain⟨x,e1,e2⟩:=aci h;obtain⟨y,e3,e4⟩:=aci e2;obtain⟨z,e5,e6⟩:=acj e4;cases e6;refine⟨H0,Z0,ρ,pd,x.1,x.2,s,e1,λv H1 s1=>⟨H0,Z0,x.2,_,y.1,y.2,s1,e3,λw H2 s2=>h2 σ H2 _ ⟨H0,Z0,y.2,_,z.1,z.2,s2,e5,λps H3 hl s3=>?_⟩⟩⟩;refine k ((v,w)::ps) H3 (by rw[aae,aae,hl]) (s3.perm ?_);show List.Perm ((v,x.1)::(w,y.1)::((qt ps).zip (sY z.1)++pd)) ((qt ps).zip (sY z.1)++((w,y.1)::(v,x.1)::pd));exact(List.Perm.swap _ _ _).trans ((List.perm_middle.symm.cons _).trans aaZ.symm)
def keysOf:List (Lc×Lc)->Option PD
 | []=>some []
 | p::r=>(oM p.1.pv).bind λk=>(keysOf r).map λl=>(k,p.2.pv)::l
def jd (l:PD) (acc:PD):PD:=match l with
 | []=>acc
 | kv::r=>jd r (cU acc kv.1 kv.2)
def jH (d:DF):EF:=λρ=>(d ρ).bind λz=>(keysOf z.1).bind λl=>if l.length<=15 then some (.own (bz (jd l [])),z.2) else none
theorem Eh {Z:ZG}:∀{zs:List (Lc×Lc)} {ps:List (V×V)} {l:PD},aH K Z ((sY zs).map Lc.pv) (qt ps)->ps.length=zs.length->keysOf zs=some l->∃kvs:List (Key×V),ps=kvs.map (λkv=>(kV kv.1,kv.2))/\dR K Z l kvs
 | [],[],l,_,_,h=>by cases h; exact⟨[],rfl,.nil⟩
 | [],_::_,l,_,e,_=>by simp at e
 | _::_,[],l,_,e,_=>by simp at e
 | z::zs,p::ps,l,r,e,h=>by obtain⟨k,h1,h2⟩:=aci h;obtain⟨l',h3,h4⟩:=acj h2;subst h4;obtain⟨v,r1,e1,g1,g2⟩:=aH.inv (show aH K Z (z.1.pv::z.2.pv::(sY zs).map Lc.pv) (p.1::p.2::qt ps) from r);injection e1 with e1 e2;subst e1 e2;obtain⟨v',r2,e3,g3,g4⟩:=g2.inv;injection e3 with e3 e4;subst e3 e4;obtain⟨kvs,e5,d⟩:=Eh (zs:=zs) (ps:=ps) g4 (by simpa using e) h3;have ek:=oN h1 g1;refine⟨(k,p.2)::kvs,?_,.cons ⟨rfl,g3⟩ d⟩;rw[aax,<-e5,<-ek]
theorem dR.merge {Z:ZG}:∀{l:PD} {kvs:List (Key×V)} {a:PD} {b:List (Key×V)},dR K Z l kvs->dR K Z a b->dR K Z (jd l a) (jt b kvs)
 | _,_,_,_,.nil,h=>h
 | p::l,q::kvs,a,b,.cons h t,g=>by have:=dR.merge t (g.put (k:=p.1) h.2);rw[h.1]at this;unfold jd;rw[h.1];exact this
theorem Bj {pos:Pos} {keys:List (Option Expr)} {values:List Expr} {d:DF} (h:SM X pos keys values d) (hall:keys.all (·.isSome)=true) (hl:keys.length=values.length) (h0:keys≠[]) (h15:keys.length<=15):PE X (.Dict keys values pos) (tP X.K (jH d)):=by
 obtain⟨trs,h1,h2⟩:=h;refine PE.imp (Ud h1 hall hl h0 h15) λσ H Q q=>?_;obtain⟨H0,Z0,ρ,pd,l,ρ',s,f,k⟩:=q;obtain⟨z,e1,e2⟩:=aci f;obtain⟨ll,e3,e4⟩:=aci e2;split at e4
 . rename_i hlen;cases e4;intro p hp;have s1:SR X.K H0 Z0 σ (upd H p (.dK [])) ρ ((.ref p,.own (.dk [] []))::pd):=s.newO hp λZ _ _=>⟨[],bN,rfl,.nil⟩;refine h2 σ _ _ ⟨H0,Z0,ρ,_,z.1,z.2,s1,e1,λps H2 hps s2=>?_⟩;obtain⟨el,Z,hg,zz,r,so⟩:=s2.repl (by rw[Ef,Eg,hps]);obtain⟨kvs,ek,dd⟩:=Eh r hps e3;have so2:=so.perm cg.symm;obtain⟨_,eb,⟨kvs0,hu,hk0,hr⟩,_⟩:=so2.1 _ aac;cases eb;have hn:kvs0=[]:=by cases kvs0 with
    | nil=>rfl
    | cons a b=>simp at hk0
   subst hn;refine⟨hu,kvs,ek,by rw[dd.len]; exact hlen,k _ _ ?_⟩;have dm:=dd.merge (a:=[]) (b:=[]) .nil;obtain⟨z',s'⟩:=so2.write (o:=.dK (jt [] kvs)) (q:=bz (jd ll [])) zz ⟨_,bN,dm.keys,dm.vals⟩;exact .mk el hg z' s'
 . cases e4
def pG:EF:=λρ=>some (.own (.dk [] []),ρ)
theorem Hc {pos:Pos}:PE X (.Dict [] [] pos) (tP X.K pG):=PE.imp Qy λσ H Q q=>by obtain⟨H0,Z0,ρ,pd,l,ρ',s,f,k⟩:=q;cases f;exact λp hp=>k _ _ (s.newO hp λZ _ _=>⟨[],bN,rfl,.nil⟩)
def gm (f:EF):EF:=λρ=>(f ρ).bind λx=>match x.1.pv with
 | .ptr n=>match x.2.mu[n]? with
  | some (some (.lst ws))=>some (.sh (.int (ws.length:Nat)),x.2)
  | _=>none
 | p=>(Q4 p).map λl=>(l,x.2)
theorem xG {x:Str} {e:Expr} {f:EF} {p pos:Pos} (h:PE X (.Call (.Name x p) [e] [] pos) (DP (λxs H Q=>∃x n,xs=[x]/\Qk X.K x H n/\Q (.int n) H) (gQ X.K (aj f ao)))):PE X (.Call (.Name x p) [e] [] pos) (tP X.K (gm f)):=PE.imp h λσ H Q q=>by
 obtain⟨H0,Z0,ρ,pd,l,ρ',s,ff,k⟩:=q;obtain⟨y,h1,h2⟩:=aci ff;refine⟨H0,Z0,ρ,pd,[y.1],y.2,s,?_,λvs H1 e1 s1=>?_⟩
 . unfold aj ao;rw[h1];rfl
 . obtain⟨v,rfl⟩:=yP e1;have s2:SR X.K H0 Z0 σ H1 y.2 ((v,.sh y.1.pv)::pd):=SR.freeze s1;split at h2
   . rename_i n en;split at h2
     . rename_i ws em;cases h2;rw[en]at s2;obtain⟨a,rfl,s5⟩:=s2.cellO em;obtain⟨_,Z,_,z,so⟩:=s5.top;obtain⟨_,ea,⟨us,hu,hr⟩,_⟩:=so.1 _ aac;cases ea;exact⟨.ref a,ws.length,rfl,.inl ⟨us,bR.of hu,hr.length.symm⟩,k _ H1 (s2.pop.scal dO)⟩
     . cases h2
   . obtain⟨l',h3,h4⟩:=acj h2;cases h4;exact NB H0 Z0 σ y.2 pd H1 [v] [y.1.pv] _ Q rfl s2 h3 k
def Z3:PV->Option Lc
 | .bl b=>some (.sh (.int (if b then 1 else 0)))
 | _=>none
abbrev CZ:List PV->Option Lc:=λps=>match ps with | [p]=>Z3 p | _=>none
theorem N6:jn K (λxs H Q=>∃b,xs=[.bl b]/\Q (.int (if b then 1 else 0)) H) CZ:=jn.one λH0 Z0 σ ρ pd H v p l Q s e k=>by
 obtain⟨_,r⟩:=s.repH;cases p with
 | bl b=>
  cases e;have:=dB r;subst this;exact⟨b,rfl,k _ H (s.pop.scal dO)⟩
 | _=>cases e
def dM:=sU (λ_ j=>decide (0<j/\j<18446744073709551616)) λi j=>.int (i/j)
theorem gD:iM K (rI R7 λi j=>.int (i/j)) dM:=Aw (λi j h=>(of_decide_eq_true h:0<j/\j<18446744073709551616)) λ_ _ _=>dO _
end
open PySem.SeqAt
section
variable {X:Cx}
def Lg (n:Nat):PD->PD->Option Bool
 | [],_=>some true
 | kv::r,lb=>match bI lb kv.1 with
  | none=>some false
  | some q=>(gC n kv.2 q).bind λe=>(Lg n r lb).map λc=>e&&c
def Bk (n:Nat) (la lb:PD):Option Bool:=if la.length=lb.length then Lg n la lb else some false
theorem JC {pins:List (Addr×Obj)} {H:Hp} {s:Shared} {g:List Addr} (I:Inv X pins σ H s) {n:Nat} {A:Around} (hA:A.units+n<cLine) {lb:PD} {kb:List (Key×V)} {vb:List (Key×Value)} (rb:dR X.K ⟨H,g⟩ lb kb) (qb:KV kb vb):
 ∀{la:PD} {ka:List (Key×V)} {va:List (Key×Value)} {b:Bool},dR X.K ⟨H,g⟩ la ka->KV ka va->Lg n la lb=some b->W.KeqHits A s vb va b
 | _,_,va,b,.nil,qa,h=>by cases h;cases (show Paired _ [] va from qa);exact .nil
 | p::la,q::ka,va,b,.cons hpq t,qa,h=>by
  cases (show Paired _ (q::ka) va from qa) with
  | @cons _ u _ vr e qr=>
   obtain⟨u1,u2⟩:=u;have ek:p.1=u1:=hpq.1.trans e.1;unfold Lg at h;have rel:=qb.val p.1;cases hv:bI lb p.1 with
   | none=>
    rw[hv]at h;cases h;rw[rb.val.2 hv]at rel;refine .miss ?_;rw[<-ek];cases hx:valueAt vb p.1 with
    | none=>rfl
    | some y=>rw[hx]at rel; exact rel.elim
   | some q'=>
    rw[hv]at h;obtain⟨e1,h1,h2⟩:=aci h;obtain⟨c,h3,h4⟩:=acj h2;subst h4;obtain⟨v',hv',rv'⟩:=rb.val.1 q' hv;rw[hv']at rel;cases hx:valueAt vb p.1 with
    | none=>rw[hx]at rel; exact rel.elim
    | some y=>
     rw[hx]at rel;refine .hit (y:=y) (by rw[<-ek]; exact hx) (Ba I n hpq.2 rv' e.2 rel h1 A hA).1 (JC I hA rb qb t qr h3)
def Xf (K:FG) (neg:Bool):R2:=λx y H Q=>∃g ks ps js qs b,Rep K ⟨H,g⟩ (.dk ks ps) x/\Rep K ⟨H,g⟩ (.dk js qs) y/\Bk 150 (ks.zip ps) (js.zip qs)=some b/\Q (.bl (if neg then !b else b)) H
theorem Xg {pins:List (Addr×Obj)} {H:Hp} {s:Shared} {g:List Addr} (I:Inv X pins σ H s) (hA:X.A.in1.units+150<cLine) {ks js:List Key} {ps qs:List PV} {x y:V} {v u:Value} {b:Bool}
 (r1:Rep X.K ⟨H,g⟩ (.dk ks ps) x) (r2:Rep X.K ⟨H,g⟩ (.dk js qs) y) (rx:RelV x v) (ry:RelV y u) (e:Bk 150 (ks.zip ps) (js.zip qs)=some b):
 ∃a a' va vb r,v=.ref a/\u=.ref a'/\(a==sysModules)=false/\(a'==sysModules)=false/\s.heap.DictOf (dg X.prog X.w) a va/\s.heap.DictOf (dg X.prog X.w) a' vb/\(va.length=vb.length->W.KeqHits X.A.in1 s vb va r)/\(va.length==vb.length&&r)=b:=by
 unfold Rep at r1 r2;obtain⟨a,ka,rfl,h1,h2,h3⟩:=r1;obtain⟨a',kb,rfl,h1',h2',h3'⟩:=r2;cases rx;cases ry;obtain⟨_,d1,va,q1,dd1⟩:=Ag I.hok h1;obtain⟨_,d2,vb,q2,dd2⟩:=Ag I.hok h1';have ra:=iV h2 h3;have rb:=iV h2' h3';have la:va.length=(ks.zip ps).length:=by rw[<-q1.length,ra.len]
 have lb:vb.length=(js.zip qs).length:=by rw[<-q2.length,rb.len]
 unfold Bk at e;split at e
 . rename_i hl;refine⟨a,a',va,vb,b,rfl,rfl,d1,d2,dd1,dd2,λ_=>JC I hA rb q2 ra q1 e,?_⟩;rw[la,lb,hl];simp
 . rename_i hl;cases e;refine⟨a,a',va,vb,false,rfl,rfl,d1,d2,dd1,dd2,λz=>(hl (by rw[<-la,<-lb]; exact z)).elim,by simp⟩
theorem Xh {k:Nat} (hr:mJ k X.A):d7 X (compareOp .Eq) (Xf X.K false):=by
 intro pins s σ H x y v u Q I rx ry h;obtain⟨g,ks,ps,js,qs,b,r1,r2,e,k'⟩:=h;have hA:X.A.in1.units+150<cLine:=by have:=hr.un; show X.A.units+1+150<cLine; omega
 obtain⟨a,a',va,vb,r,rfl,rfl,d1,d2,dd1,dd2,hits,eb⟩:=Xg I hA r1 r2 rx ry e;refine W.keq_eq d1 d2 dd1 dd2 (by have:=hr.un; omega) hits ?_;rw[eb];exact⟨.bl b,H,I,rfl,k'⟩
def kI (p q:PV):Option Lc:=match p,q with
 | .dk ks ps,.dk js qs=>(Bk 150 (ks.zip ps) (js.zip qs)).map λb=>.sh (.bl b)
 | p,q=>eqP p q
def Xi (K:FG) (neg:Bool):R2:=λx y H Q=>G6 K neg x y H Q\/Xf K neg x y H Q
theorem jz {k:Nat} (hr:mJ k X.A):d7 X (compareOp .Eq) (Xi X.K false):=(fj hr).or (Xh hr)
theorem ir:iM K (Xi K false) kI:=by
 intro H0 Z0 σ ρ pd H v w x y l Q s e k;unfold kI at e;split at e
 . obtain⟨b,e1,rfl⟩:=acj e;obtain⟨g,r1,r2⟩:=s.rep2H;exact .inr ⟨g,_,_,_,_,b,r1,r2,e1,k _ H (s.pop.pop.scal dW)⟩
 . exact .inl (fu H0 Z0 σ ρ pd H v w _ _ l Q s e k)
def nF (ps qs:List PV):List PV:=List.zipWith (λp q=>.tup [p,q]) ps qs
theorem Q9 {ps qs:List PV} {i:Nat} {x:PV} (h:(nF ps qs)[i]?=some x):∃p q,ps[i]?=some p/\qs[i]?=some q/\x=.tup [p,q]:=by
 unfold nF at h;rw[List.getElem?_zipWith]at h;cases h1:ps[i]? with
 | none=>rw[h1]at h; cases h
 | some p=>
  cases h2:qs[i]? with
  | none=>rw[h1,h2]at h; cases h
  | some q=>rw[h1,h2]at h; cases h; exact⟨p,q,rfl,rfl,rfl⟩
theorem Ra {ps qs:List PV}:(nF ps qs).length=min ps.length qs.length:=by unfold nF; simp
end
end PL
namespace L2
open PySem PySem.Spec PyProof.Rows
variable {pins:List (Addr×Obj)} {E:Value->Shared->Prop} {s:Shared} {A:Around} {w:World} {P:Program}
section
variable {X:Cx}
end
end L2
namespace PL
open PySem PySem.Spec PyProof.Rows L2
variable {K:FG} {H0 H:Hp} {Z0:ZG} {σ:L2.St} {ρ:Ev} {pd:Pd}
section
variable {X:Cx}
section
variable {K:FG} {Z Z':ZG}
end
theorem SR.ext {l:Addr} {o:HO} (s:SR K H0 Z0 σ H ρ pd) (hl:H l=none):SR K H0 Z0 σ (upd H l o) ρ pd:=by obtain⟨el,Z,hg,z,so⟩:=s;obtain⟨z',lz,so'⟩:=so.newF z (o:=o) hl;exact⟨el,Z.put l o,hg,z',so'⟩
def vD:SF:=λ_=>none
theorem uK {st:Stmt}:PS X st (fV X.K vD):=λpins s σ H D I q=>by obtain⟨H0,Z0,ρ,pd,fl,s,h,k⟩:=q;cases h
abbrev FD:=List (Str×PV)
def oY:FD->Str->Option PV
 | [],_=>none
 | kv::r,k=>if kv.1=k then some kv.2 else oY r k
def nG (f:Str) (p:PV):FD->FD
 | []=>[(f,p)]
 | kv::r=>if kv.1=f then (kv.1,p)::r else kv::nG f p r
def bC (C:Str) (l:FD):PV:=.obj C (l.map (·.1)) (l.map (·.2))
def nH (K:FG) (Z:ZG):FD->List (Str×V)->Prop:=Paired λp q=>p.1=q.1/\Rep K Z p.2 q.2
section
variable {K:FG} {Z Z':ZG}
theorem Dd:∀{kvs:List (Str×V)} {ks:List Str} {ps:List PV},kvs.map (·.1)=ks->aH K Z ps (kvs.map (·.2))->nH K Z (ks.zip ps) kvs
 | [],ks,ps,h1,h2=>by subst h1;exact .nil
 | kv::r,ks,ps,h1,h2=>by
  subst h1;cases ps with
  | nil=>have:=h2.inv0; simp at this
  | cons p ps=>
   obtain⟨v,r',e,h3,h4⟩:=h2.inv;rw[aax]at e;injection e with e1 e2;subst e1 e2;rw[aax,aa8];exact .cons ⟨rfl,h3⟩ (Dd rfl h4)
theorem nH.keys:∀{l:FD} {kvs:List (Str×V)},nH K Z l kvs->kvs.map (·.1)=l.map (·.1)
 | _,_,.nil=>rfl
 | _,_,.cons h t=>by rw[aax,aax,h.1,nH.keys t]
theorem nH.vals:∀{l:FD} {kvs:List (Str×V)},nH K Z l kvs->aH K Z (l.map (·.2)) (kvs.map (·.2))
 | _,_,.nil=>.nil
 | _,_,.cons h t=>aH.cons h.2 (nH.vals t)
theorem nH.look {f:Str}:∀{l:FD} {kvs:List (Str×V)},nH K Z l kvs->(∀p,oY l f=some p->∃v,kvs.lookup f=some v/\Rep K Z p v)/\(oY l f=none->kvs.lookup f=none)
 | _,_,.nil=>⟨λp h=>(by cases h),λ_=>rfl⟩
 | p::l,q::kvs,.cons h t=>by
  have ih:=nH.look (f:=f) t;have e0:(q::kvs).lookup f=if f=q.1 then some q.2 else kvs.lookup f:=by
   obtain⟨q1,q2⟩:=q;rw[aaW];by_cases e:f=q1
   . subst e; simp
   . rw[acb e,show (f==q1)=false from acg.mpr e]
  rw[e0];by_cases e:p.1=f
  . have e':f=q.1:=by rw[<-h.1]; exact e.symm
    rw[aca e'];refine⟨λx hx=>⟨q.2,rfl,?_⟩,λhx=>?_⟩
    . unfold oY at hx; rw[aca e]at hx; cases hx; exact h.2
    . unfold oY at hx; rw[aca e]at hx; cases hx
  . have e':¬ f=q.1:=by rw[<-h.1]; exact λz=>e z.symm
    rw[acb e'];unfold oY;rw[acb e];exact ih
theorem nH.put {f:Str} {p:PV} {v:V} (r:Rep K Z p v):∀{l:FD} {kvs:List (Str×V)},nH K Z l kvs->nH K Z (nG f p l) (iR f v kvs)
 | _,_,.nil=>.cons ⟨rfl,r⟩ .nil
 | a::l,b::kvs,.cons h t=>by
  obtain⟨b1,b2⟩:=b;unfold nG iR;have h1:a.1=b1:=h.1;by_cases e:a.1=f
  . rw[aca e,aca (by rw[<-h1]; exact e)];exact .cons ⟨h1,r⟩ t
  . rw[acb e,acb (by rw[<-h1]; exact e)];exact .cons h (nH.put r t)
end
structure tV (K:FG) (mg:Str->Option Value) (C:Str) (c:Addr):Prop where
 cn:CN K C c
 cl:wB K c
 mgC:mg C=some (.ref c)
theorem Lh {C:Str} {c d:Addr} (h:CN K C c) (g:CN K C d):c=d:=by have:(some (some (Value.ref c)))=some (some (.ref d)):=h.symm.trans g;cases this;rfl
def cj (C f:Str) (fo:EF):EF:=λρ=>(fo ρ).bind λx=>match x.1.pv with
 | .ptr n=>match x.2.mu[n]? with
  | some (some (.obj D ks ps))=>if D=C then (oY (ks.zip ps) f).map λp=>(.sh p,x.2) else none
  | _=>none
 | _=>none
theorem SR.cellB {pd pe:Pd} {a:Addr} {n:Nat} {p:PV} (hm:ρ.mu[n]?=some (some p)) (s:SR K H0 Z0 σ H ⟨ρ.vs,ρ.mu.set n none⟩ ((.ref a,.own p)::(.ref a,.sh (.ptr n))::pd)):SR K H0 Z0 σ H ρ pd:=by
 have hn:n<ρ.mu.length:=(aap.mp hm).1;have s8:=s.cellP (by show (ρ.mu.set n none)[n]?=_; rw[aas hn]);have e8:(ρ.mu.set n none).set n (some p)=ρ.mu:=by rw[aba]; exact ack hm
 have s9:SR K H0 Z0 σ H ⟨ρ.vs,(ρ.mu.set n none).set n (some p)⟩ pd:=s8;rw[e8]at s9;exact s9
theorem SR.objAt {v:V} {n:Nat} {C:Str} {ks:List Str} {ps:List PV} (s:SR K H0 Z0 σ H ρ ((v,.sh (.ptr n))::pd)) (hm:ρ.mu[n]?=some (some (.obj C ks ps))):
 ∃a c dx fs,v=.ref a/\CN K C c/\H a=some (.ins c dx fs)/\fs.map (·.1)=ks/\(∀f p,oY (ks.zip ps) f=some p->∃u,fs.lookup f=some u/\SR K H0 Z0 σ H ρ ((u,.sh p)::(v,.sh (.ptr n))::pd))/\∀f,oY (ks.zip ps) f=none->fs.lookup f=none:=by
 have sdup:SR K H0 Z0 σ H ρ ((v,.sh (.ptr n))::(v,.sh (.ptr n))::pd):=s.part λZ _ r=>r;obtain⟨a,rfl,s5⟩:=sdup.cellO hm;obtain⟨el,Z,hg,z,so⟩:=s5.top;obtain⟨_,ea,⟨c,dx,fs,cn,hu,hk,hr⟩,_⟩:=so.1 _ aac;cases ea;have rf:=Dd hk hr;refine⟨a,c,dx,fs,rfl,cn,hu,hk,λf p hl=>?_,λf hl=>rf.look.2 hl⟩;obtain⟨u,h1,h2⟩:=rf.look.1 p hl;refine⟨u,h1,?_⟩;have s6:SR K H0 Z0 σ H ⟨ρ.vs,ρ.mu.set n none⟩ ((u,.sh p)::(.ref a,.own (.obj C ks ps))::(.ref a,.sh (.ptr n))::(.ref a,.sh (.ptr n))::pd):=.mk (Z:=Z) el hg z ((so.perm cg).consS h2);have s7:SR K H0 Z0 σ H ⟨ρ.vs,ρ.mu.set n none⟩ ((.ref a,.own (.obj C ks ps))::(.ref a,.sh (.ptr n))::(u,.sh p)::(.ref a,.sh (.ptr n))::pd):=s6.perm (((List.Perm.swap _ _ _).cons _).trans (List.Perm.swap _ _ _));exact SR.cellB (pe:=pd) hm s7
theorem gF {C f:Str} {c:Addr} {o:Expr} {fo:EF} {pos:Pos} (T:tV X.K X.mg C c) (na:jr X.K c f) (ho:PE X o (tP X.K fo)) (hb:attributeBase o f X.env (eval o X.env)=eval o X.env:=by rfl):PE X (.Attribute o f pos) (tP X.K (cj C f fo)):=PE.imp (Wk ho hb) λσ H Q q=>by
 obtain⟨H0,Z0,ρ,pd,l,ρ',s,h,k⟩:=q;obtain⟨x,h1,h2⟩:=aci h;refine⟨H0,Z0,ρ,pd,x.1,x.2,s,h1,λv H1 s1=>?_⟩;split at h2
 . rename_i n en;split at h2
   . rename_i D ks ps em;split at h2
     . rename_i eD;subst eD;obtain⟨p,h3,h4⟩:=acj h2;cases h4;have s2:=s1.freeze;rw[en]at s2;obtain⟨a,c',dx,fs,rfl,cn,hH,hk,hl,_⟩:=s2.objAt em;have:=Lh T.cn cn;subst this;obtain⟨u,h5,s6⟩:=hl f p h3;exact⟨a,c,dx,fs,u,rfl,hH,T.cl,na,h5,k u H1 (s6.sub ((aaq _ _).cons_cons _))⟩
     . cases h2
   . cases h2
 . cases h2
def eU (C f:Str) (fo fv:EF):SF:=λρ=>(fv ρ).bind λy=>(fo y.2).bind λx=>match x.1.pv with
 | .ptr n=>match x.2.mu[n]? with
  | some (some (.obj D ks ps))=>if D=C/\ks.length<1000 then some (.nx ⟨x.2.vs,x.2.mu.set n (some (bC C (nG f y.1.pv (ks.zip ps))))⟩) else none
  | _=>none
 | _=>none
theorem iY {C f:Str} {c:Addr} {o value:Expr} {fo fv:EF} {pos' pos:Pos} (T:tV X.K X.mg C c) (na:jr X.K c f) (ho:PE X o (tP X.K fo)) (hv:PE X value (tP X.K fv)) (hs:swapsWith value (some (.Attribute o f pos')) pos.line X.env=pure false:=by rfl):PS X (.Assign [.Attribute o f pos'] value pos) (fV X.K (eU C f fo fv)):=PS.imp (Wl ho hv hs) λD σ H q=>by
 obtain⟨H0,Z0,ρ,pd,fl,s,h,k⟩:=q;obtain⟨y,h1,h2⟩:=aci h;obtain⟨x,h3,h4⟩:=aci h2;refine⟨H0,Z0,ρ,pd,y.1,y.2,s,h1,λv H1 s1=>⟨H0,Z0,y.2,_,x.1,x.2,s1.freeze,h3,λw H2 s2=>?_⟩⟩;split at h4
 . rename_i n en;split at h4
   . rename_i D' ks ps em;split at h4
     . rename_i eD;obtain⟨eD,hz⟩:=eD;subst eD;cases h4;have s3:=s2.freeze;rw[en]at s3;obtain⟨a,rfl,s5⟩:=s3.cellO em;have s6:SR X.K H0 Z0 σ H2 ⟨x.2.vs,x.2.mu.set n none⟩ ((v,.sh y.1.pv)::(.ref a,.own (.obj D' ks ps))::(.ref a,.sh (.ptr n))::pd):=s5.perm ((List.Perm.swap _ _ _).trans ((List.Perm.swap _ _ _).cons _));obtain⟨el,Z,hg,z,r,so⟩:=s6.sh;have so2:=so.perm cg.symm;obtain⟨_,eb,⟨c',dx,fs,cn,hu,hk,hr⟩,_⟩:=so2.1 _ aac;cases eb;have:=Lh T.cn cn;subst this;have rf:=Dd hk hr;have rp:=rf.put (f:=f) r;have hlen:fs.length=ks.length:=by rw[<-hk,aag]
       refine⟨a,c,dx,fs,rfl,hu,T.cl,na,by omega,k σ _ ?_⟩;obtain⟨z',s'⟩:=so2.write (o:=.ins c dx (iR f v fs)) (q:=bC D' (nG f y.1.pv (ks.zip ps))) z ⟨c,dx,iR f v fs,cn,bN,rp.keys,rp.vals⟩;have s7:SR X.K H0 Z0 σ (upd H2 a (.ins c dx (iR f v fs))) ⟨x.2.vs,x.2.mu.set n none⟩ ((.ref a,.own (bC D' (nG f y.1.pv (ks.zip ps))))::(.ref a,.sh (.ptr n))::pd):=.mk el hg z' s';have hn:n<x.2.mu.length:=(aap.mp em).1;have s8:=s7.cellP (by show (x.2.mu.set n none)[n]?=_; rw[aas hn]);have e8:(x.2.mu.set n none).set n (some (bC D' (nG f y.1.pv (ks.zip ps))))=x.2.mu.set n (some (bC D' (nG f y.1.pv (ks.zip ps)))):=aba ..;have s9:SR X.K H0 Z0 σ (upd H2 a (.ins c dx (iR f v fs))) ⟨x.2.vs,(x.2.mu.set n none).set n (some (bC D' (nG f y.1.pv (ks.zip ps))))⟩ pd:=s8;rw[e8]at s9;exact s9
     . cases h4
   . cases h4
 . cases h4
end
section
variable {P:Program} {w:World} {K:FG} {mg:Str->Option Value} {base:Heap}
def pH (K:FG) (c:Addr) (m qual:Str) (st:Stmt) (ps:List Str):Prop:=∃f fd,sJ K m qual st f fd/\W.findIn K (.ref c) m=some (some (.ref f))/\W.isFn K (.ref f)=true/\Binds K fd ps []
def oE (P:Program) (w:World) (K:FG) (mg:Str->Option Value) (base:Heap) (c:Addr) (m:Str) (k:Nat) (ps:List Str) (sp:Sp):Prop:=∃f fd,mK P w K mg base ou k f fd ps sp/\Meth K c m f/\Binds K fd ps []
theorem sJ.okQ {x qual:Str} {st:Stmt} {N ps:List Str} {k:Nat} {g:GF} {f:Addr} {fd:FuncData} (F:sJ K x qual st f fd) (S:aR N ps (aF st))
 (h:∀(cdv:Value) (A:Around) (outer:List PySem.Env) (s:Shared) (H:Hp) (E:XK),mJ k (A.deeper (envOfC qual (aF st) s.heap.objs.size f cdv))->
   ∃g':SF,(∀a mu,g a mu=cH N.length g' a mu)/\iK (Qq ou P w K mg base N qual (aF st) f cdv A outer s H E).nox (iU st) (fV K g')):mK P w K mg base ou (k+1) f fd ps (bU K ps.length g):=by
 refine F.ok S (λvs H Q E q=>?_) (λcdv A outer s H vs Q E hr q=>?_)
 . obtain⟨Z,qs,mu,r,mu',e,_⟩:=q; exact e
 . obtain⟨g',eg,b⟩:=h cdv A outer s H E hr;obtain⟨Z,qs,mu,r,mu',e,hg,z,rl,c,hr',kk⟩:=q;rw[eg]at hr';obtain⟨fl,h1,h2⟩:=aci hr';refine⟨_,b,lr H (qX Z.g mu),Z,_,[],fl,zj hg z rl c,h1,?_⟩;cases fl with
   | rt r' ρ'=>
    cases h2;intro v σ' H' s';obtain⟨el,Z',hg',z',s''⟩:=s'.top;refine kk v H' ⟨Z',hg',z',s''.sub ?_⟩;exact(aa5 _ _).cons_cons _
   | nx ρ'=>
    cases h2;intro σ' H' s';obtain⟨el,Z',hg',z',s''⟩:=s';exact kk .non H' ⟨Z',hg',z',(s''.sub (aa5 _ _)).consS (uA _)⟩
   | bk ρ'=>cases h2
   | ct ρ'=>cases h2
theorem pH.ok {c:Addr} {m qual:Str} {st:Stmt} {N ps:List Str} {k:Nat} {g:GF} (F:pH K c m qual st ps) (S:aR N ps (aF st))
 (h:∀(f:Addr) (cdv:Value) (A:Around) (outer:List PySem.Env) (s:Shared) (H:Hp) (E:XK),mJ k (A.deeper (envOfC qual (aF st) s.heap.objs.size f cdv))->
   ∃g':SF,(∀a mu,g a mu=cH N.length g' a mu)/\iK (Qq ou P w K mg base N qual (aF st) f cdv A outer s H E).nox (iU st) (fV K g')):oE P w K mg base c m (k+1) ps (bU K ps.length g):=by
 obtain⟨f,fd,F,h1,h2,hb⟩:=F;exact⟨f,fd,sJ.okQ F S (h f),⟨h1,h2,F.kp⟩,hb⟩
end
section
variable {X:Cx}
def cJ (C m:Str) (g:GF) (fo:EF) (a:AF):EF:=λρ=>(fo ρ).bind λx=>match x.1.pv with
 | .ptr n=>match x.2.mu[n]? with
  | some (some (.obj D ks _))=>if D=C/\ks.contains m=false then (a x.2).bind λy=>(g (.ptr n::y.1.map Lc.pv) y.2.mu).map λr=>(r.1,⟨y.2.vs,r.2⟩) else none
  | _=>none
 | _=>none
theorem Ei {m:Str}:∀{fs:List (Str×V)},(fs.map (·.1)).contains m=false->fs.lookup m=none
 | [],_=>rfl
 | (g,x)::r,h=>by rw[aax,List.contains_cons,Bool.or_eq_false_iff]at h;rw[aaW,h.1];exact Ei h.2
theorem Hd {C m:Str} {c:Addr} {g:GF} {fo:EF} {a:AF} {n':Nat} {E:XK} (T:tV X.K X.mg C c) (hn:∀ρ ls ρ1,a ρ=some (ls,ρ1)->ls.length+1=n'):∀σ H Q,tP X.K (cJ C m g fo a) σ H Q->KN c m (bU X.K n' g) [] E (tP X.K fo) (gQ X.K a) σ H Q:=λσ H Q q=>by
 obtain⟨H0,Z0,ρ,pd,l,ρ',s,h,k⟩:=q;obtain⟨x,h1,h2⟩:=aci h;refine⟨H0,Z0,ρ,pd,x.1,x.2,s,h1,λv H1 s1=>?_⟩;split at h2
 . rename_i n en;split at h2
   . rename_i D ks ps em;split at h2
     . rename_i eD;obtain⟨eD,hk⟩:=eD;subst eD;obtain⟨y,h3,h4⟩:=aci h2;obtain⟨r,h5,h6⟩:=acj h4;cases h6;have s2:=s1.freeze;rw[en]at s2;obtain⟨a',c',dx,fs,rfl,cn,hH,hks,_,_⟩:=s2.objAt em;have:=Lh T.cn cn;subst this;refine⟨a',dx,fs,rfl,hH,Ei (by rw[hks]; exact hk),H0,Z0,x.2,_,y.1,y.2,s2,h3,λvs H2 e2 s3=>?_⟩;have s4:SR X.K H0 Z0 σ H2 y.2 ((V.ref a'::vs).zip (Lc.sh (.ptr n)::y.1)++pd):=s3.perm (by rw[aa8,abe];exact aaZ.symm)
       obtain⟨el,Z,hg,z,rl,sl'⟩:=s4.repl (by rw[aae,aae,e2]);refine⟨Z,.ptr n::y.1.map Lc.pv,y.2.mu,r.1,r.2,?_,hg,z.zh,?_,sl'.cells hg,h5,λv H' rr=>k v H' (SR.called el hg z sl' rr)⟩
       . rw[aau,aae,e2]; exact hn _ _ _ h3
       . rw[aau]; exact rl
     . cases h2
   . cases h2
 . cases h2
theorem je {C m:Str} {c:Addr} {k:Nat} {ps:List Str} {g:GF} {fo:EF} {e o:Expr} {es:List Expr} {a:AF} {apos pos:Pos} {pl:Sem Bool} (T:tV X.K X.mg C c) (M:oE X.prog X.w X.K X.mg X.base c m k ps (bU X.K ps.length g)) (hr:mJ k X.A) (ho:PE X o (tP X.K fo)) (ha:PA X (e::es) (gQ X.K a)) (hn:∀ρ ls ρ1,a ρ=some (ls,ρ1)->ls.length+1=ps.length)
 (hst:starEach (e::es) X.env=(false,eval e X.env)::starEach es X.env:=by rfl) (hpl:(backTo pos (starEach es X.env)).any (·.1)=false:=by rfl)
 (ht:eval (.Call (.Attribute o m apos) (e::es) [] pos) X.env=(do
   let ov <-eval o X.env
   standAt apos.atName
   let (f,first) <-holding [ov] (getMethod ov m pl)
   callWith pos f first (backTo pos (starEach (e::es) X.env)) (backToKw pos (keywordEach [] X.env))):=by rfl):PE X (.Call (.Attribute o m apos) (e::es) [] pos) (tP X.K (cJ C m g fo a)):=by
 obtain⟨f,fd,F,hm,hb⟩:=M;exact PE.imp (T3 (pl:=pl) (E:=E0) ho T.cl hm F hr hb .nil Ae ha hst hpl ht) (Hd T hn)
theorem N7 {C m:Str} {c:Addr} {k:Nat} {ps:List Str} {g:GF} {fo:EF} {o:Expr} {apos pos:Pos} {pl:Sem Bool} (T:tV X.K X.mg C c) (M:oE X.prog X.w X.K X.mg X.base c m k ps (bU X.K ps.length g)) (hr:mJ k X.A) (ho:PE X o (tP X.K fo)) (hn:1=ps.length)
 (ht:eval (.Call (.Attribute o m apos) [] [] pos) X.env=(do
   let ov <-eval o X.env
   standAt apos.atName
   let (f,first) <-holding [ov] (getMethod ov m pl)
   callWith pos f first (backTo pos (starEach [] X.env)) (backToKw pos (keywordEach [] X.env))):=by rfl):PE X (.Call (.Attribute o m apos) [] [] pos) (tP X.K (cJ C m g fo ao)):=by
 obtain⟨f,fd,F,hm,hb⟩:=M;refine PE.imp (Qo (pl:=pl) (E:=E0) ho T.cl hm F hr hb .nil Ae ht) λσ H Q q=>?_;have:=Hd (X:=X) (E:=E0) (a:=ao) (n':=ps.length) T (λρ ls ρ1 h=>by cases h; rw[<-hn]; rfl) σ H Q q;obtain⟨H0,Z0,ρ,pd,l,ρ',s,h,k⟩:=this;refine⟨H0,Z0,ρ,pd,l,ρ',s,h,λv H1 s1=>?_⟩;obtain⟨a,dx,fs,e1,e2,e3,H0',Z0',ρ2,pd2,ls,ρ3,s2,h2,k2⟩:=k v H1 s1;cases h2;exact⟨a,dx,fs,e1,e2,e3,k2 [] H1 rfl s2⟩
theorem SR.toCell {a:Addr} {p:PV} (s:SR K H0 Z0 σ H ρ ((.ref a,.own p)::pd)):SR K H0 Z0 σ H ⟨ρ.vs,ρ.mu++[some p]⟩ ((.ref a,.sh (.ptr ρ.mu.length))::pd):=by
 obtain⟨el,Z,hg,z,so⟩:=s.top;have lz:f9 Z ⟨Z.z,Z.g++[a]⟩:=⟨du.refl _,abY _ _⟩;have so2:=so.step (Z':=⟨Z.z,Z.g++[a]⟩) (H':=H) lz λe he b hb=>⟨rfl,(jc so he hb).1⟩;refine .mk (Z:=⟨Z.z,Z.g++[a]⟩) el (by simp[hg]) ⟨z.zh,z.h0,z.z0.trans lz,z.new⟩ (Slots.consS ?_ ?_)
 . refine so2.perm ?_;have ec:cel (Z.g++[a]) (ρ.mu++[some p])=cel Z.g ρ.mu++[(some (.ref a),some (.own p))]:=by unfold cel;rw[aaG,aaG,abk (by simp[hg])];rfl
   unfold sl;show List.Perm (cel (Z.g++[a]) (ρ.mu++[some p])++_) _;rw[ec,aai];exact aaZ
 . unfold Rep;exact⟨a,rfl,by show (Z.g++[a])[ρ.mu.length]?=some a; rw[hg,aav (aaf _)]; simp⟩
def sZ (C:Str) (g:GF) (a:AF):EF:=λρ=>(a ρ).bind λy=>(g (.ptr y.2.mu.length::y.1.map Lc.pv) (y.2.mu++[some (.obj C [] [])])).bind λr=>match r.1 with
 | .sh .non=>some (.sh (.ptr y.2.mu.length),⟨y.2.vs,r.2⟩)
 | _=>none
def Li (P:Program) (w:World) (K:FG) (mg:Str->Option Value) (base:Heap) (c:Addr) (k:Nat) (ps:List Str) (sp:Sp):Prop:=∃f fd,mK P w K mg base ou k f fd ps sp/\Mk K c f/\Binds K fd ps []
theorem Rb {C:Str} {c:Addr} {g:GF} {a:AF} {n':Nat} {E:XK} (T:tV X.K X.mg C c) (hn:∀ρ ls ρ1,a ρ=some (ls,ρ1)->ls.length+1=n'):∀σ H Q,tP X.K (sZ C g a) σ H Q->RX c (bU X.K n' g) [] E (gQ X.K a) σ H Q:=λσ H Q q=>by
 obtain⟨H0,Z0,ρ,pd,l,ρ',s,h,k⟩:=q;obtain⟨y,h1,h2⟩:=aci h;obtain⟨r,h3,h4⟩:=aci h2;split at h4
 . rename_i er;cases h4;refine⟨H0,Z0,ρ,pd,y.1,y.2,s,h1,λvs H1 e1 s1 x dx hx hdx hne=>?_⟩;have s2:SR X.K H0 Z0 σ (upd H1 dx (.own x)) y.2 (vs.zip y.1++pd):=s1.ext hdx;have s3:SR X.K H0 Z0 σ (upd (upd H1 dx (.own x)) x (.ins c dx [])) y.2 ((.ref x,.own (.obj C [] []))::(vs.zip y.1++pd)):=s2.newO (by rw[cu hne.symm]; exact hx) λZ _ _=>⟨c,dx,[],T.cn,bN,rfl,.nil⟩;have s4:=s3.toCell;have s5:SR X.K H0 Z0 σ (upd (upd H1 dx (.own x)) x (.ins c dx [])) ⟨y.2.vs,y.2.mu++[some (.obj C [] [])]⟩ ((.ref x,.sh (.ptr y.2.mu.length))::(.ref x,.sh (.ptr y.2.mu.length))::(vs.zip y.1++pd)):=s4.part λZ _ r=>r;have s6:SR X.K H0 Z0 σ (upd (upd H1 dx (.own x)) x (.ins c dx [])) ⟨y.2.vs,y.2.mu++[some (.obj C [] [])]⟩ ((V.ref x::vs).zip (Lc.sh (.ptr y.2.mu.length)::y.1)++(.ref x,.sh (.ptr y.2.mu.length))::pd):=s5.perm (by rw[aa8,abe];exact List.perm_middle.cons _)
   obtain⟨el,Z,hg,z,rl,sl'⟩:=s6.repl (by rw[aae,aae,e1]);refine⟨Z,.ptr y.2.mu.length::y.1.map Lc.pv,y.2.mu++[some (.obj C [] [])],r.1,r.2,?_,hg,z.zh,?_,sl'.cells hg,h3,λv H' rr=>?_⟩
   . rw[aau,aae,e1]; exact hn _ _ _ h1
   . rw[aau]; exact rl
   . have s7:=SR.called el hg z sl' rr;rw[er]at s7;obtain⟨_,r0⟩:=s7.repH;exact⟨gA r0,k _ _ s7.pop⟩
 . cases h4
theorem SN {C:Str} {c:Addr} {k:Nat} {ps:List Str} {g:GF} {e:Expr} {es:List Expr} {a:AF} {p pos:Pos} (T:tV X.K X.mg C c) (M:Li X.prog X.w X.K X.mg X.base c k ps (bU X.K ps.length g)) (hr:mJ (k+1) X.A) (hg:Gl X C) (ha:PA X (e::es) (gQ X.K a)) (hn:∀ρ ls ρ1,a ρ=some (ls,ρ1)->ls.length+1=ps.length)
 (hdb:(C==("__debug__" : Str))=false:=by decide) (he:starEach (e::es) X.env=(false,eval e X.env)::starEach es X.env:=by rfl) (hpl:(backTo pos (starEach es X.env)).any (·.1)=false:=by rfl):PE X (.Call (.Name C p) (e::es) [] pos) (tP X.K (sZ C g a)):=by
 obtain⟨f,fd,F,hm,hb⟩:=M;exact PE.imp (T4 (E:=E0) hm F hr hg T.mgC hb .nil Ae ha hdb he hpl) (Rb T hn)
end
theorem fK {a:AF} {n m:Nat} (h:∀ρ ls ρ1,a ρ=some (ls,ρ1)->ls.length=n) (e:n+1=m:=by rfl):∀ρ ls ρ1,a ρ=some (ls,ρ1)->ls.length+1=m:=λρ ls ρ1 g=>by rw[h _ _ _ g,e]
theorem SQ {P:Program} {w:World} {mg:Str->Option Value} {base:Heap} {c:Addr} {k:Nat} {ps:List Str} {sp:Sp} (h:oE P w K mg base c "__init__" k ps sp) (mk:W.makesIn K c=true) (kc:W.keepIn K (.ref c)=true):Li P w K mg base c k ps sp:=by obtain⟨f,fd,F,m,b⟩:=h;exact⟨f,fd,F,⟨mk,m.at_,m.fn,kc⟩,b⟩
end PL
namespace L2
open PySem PySem.Spec PyProof.Rows
variable {pins:List (Addr×Obj)} {E:Value->Shared->Prop} {s:Shared} {A:Around} {w:World} {P:Program}
section
variable {X:Cx}
end
end L2
namespace PL
open PySem PySem.Spec PyProof.Rows L2
variable {K:FG} {H0 H:Hp} {Z0:ZG} {σ:L2.St} {ρ:Ev} {pd:Pd}
section
variable {X:Cx}
theorem SR.wrO {a:Addr} {ws ws':List PV} {f:List V->List V} (hf:∀{Z us},aH K Z ws us->aH K Z ws' (f us))
 (s:SR K H0 Z0 σ H ρ ((.ref a,.own (.lst ws))::pd)):∃us,H a=some (.lst us)/\SR K H0 Z0 σ (upd H a (.lst (f us))) ρ ((.ref a,.own (.lst ws'))::pd):=by
 obtain⟨el,Z,hg,z,so⟩:=s.top;obtain⟨b,eb,⟨us,hu,hr⟩,_⟩:=so.1 _ aac;cases eb;refine⟨us,hu,?_⟩;obtain⟨z',s'⟩:=so.write (o:=.lst (f us)) (q:=.lst ws') z ⟨f us,bN,hf hr⟩;exact .mk (Z:=Z) el hg z' s'
end
end PL
namespace L2
open PySem PySem.Spec PyProof.Rows
variable {pins:List (Addr×Obj)} {E:Value->Shared->Prop} {s:Shared} {A:Around} {w:World} {P:Program}
section
variable {X:Cx}
def pk {α:Type} (xs:List α) (lo hi st:Option Int):List α:=
 (sliceRange (sliceBounds lo hi st xs.length).1 (sliceBounds lo hi st xs.length).2.1 (sliceBounds lo hi st xs.length).2.2).filterMap λi=>xs[i]?
end
end L2
namespace PL
open PySem PySem.Spec PyProof.Rows L2
variable {K:FG} {H0 H:Hp} {Z0:ZG} {σ:L2.St} {ρ:Ev} {pd:Pd}
section
variable {X:Cx}
theorem SR.lstAt {v:V} {n:Nat} {ps:List PV} (s:SR K H0 Z0 σ H ρ ((v,.sh (.ptr n))::pd)) (hm:ρ.mu[n]?=some (some (.lst ps))):
 ∃a vs,v=.ref a/\H a=some (.lst vs)/\vs.length=ps.length/\∀(i:Nat) p,ps[i]?=some p->∃u,vs[i]?=some u/\SR K H0 Z0 σ H ρ ((u,.sh p)::(v,.sh (.ptr n))::pd):=by
 have sdup:SR K H0 Z0 σ H ρ ((v,.sh (.ptr n))::(v,.sh (.ptr n))::pd):=s.part λZ _ r=>r;obtain⟨a,rfl,s5⟩:=sdup.cellO hm;obtain⟨el,Z,hg,z,so⟩:=s5.top;obtain⟨_,ea,⟨vs,hu,hr⟩,_⟩:=so.1 _ aac;cases ea;refine⟨a,vs,rfl,hu,hr.length,λi p hp=>?_⟩;obtain⟨u,h1,h2⟩:=hr.get hp;refine⟨u,h1,?_⟩;have s6:SR K H0 Z0 σ H ⟨ρ.vs,ρ.mu.set n none⟩ ((u,.sh p)::(.ref a,.own (.lst ps))::(.ref a,.sh (.ptr n))::(.ref a,.sh (.ptr n))::pd):=.mk (Z:=Z) el hg z ((so.perm cg).consS h2);have s7:SR K H0 Z0 σ H ⟨ρ.vs,ρ.mu.set n none⟩ ((.ref a,.own (.lst ps))::(.ref a,.sh (.ptr n))::(u,.sh p)::(.ref a,.sh (.ptr n))::pd):=s6.perm (((List.Perm.swap _ _ _).cons _).trans (List.Perm.swap _ _ _));exact SR.cellB (pe:=pd) hm s7
end
def aN (mu:Mu):Nat->PV->PV
 | 0,p=>p
 | k+1,.ptr n=>match mu[n]? with
  | some (some p)=>aN mu k p
  | _=>.ptr n
 | k+1,.tup ps=>.tup (ps.map (aN mu k))
 | k+1,.lst ps=>.lst (ps.map (aN mu k))
 | k+1,.dk ks ps=>.dk ks (ps.map (aN mu k))
 | _+1,p=>p
theorem lw {Z:ZG} {f:PV->PV} (hf:∀p x,Rep K Z p x->Rep K Z (f p) x):∀{ps:List PV} {vs:List V},aH K Z ps vs->aH K Z (ps.map f) vs
 | [],vs,h=>h
 | p::ps,vs,h=>by obtain⟨v,r,rfl,h1,h2⟩:=h.inv;exact aH.cons (hf p v h1) (lw hf h2)
theorem mQ {Z:ZG} (so:Slots K H0 Z H (sl Z.g σ ρ pd)) (lz:f9 Z ⟨H,Z.g⟩):∀(k:Nat) (p:PV) (x:V),Rep K ⟨H,Z.g⟩ p x->Rep K ⟨H,Z.g⟩ (aN ρ.mu k p) x
 | 0,p,x,r=>r
 | k+1,p,x,r=>by
  cases p with
  | ptr n=>
   show Rep K ⟨H,Z.g⟩ (match ρ.mu[n]? with | some (some p)=>aN ρ.mu k p | _=>.ptr n) x;split
   . rename_i q hq;unfold Rep at r;obtain⟨a,rfl,ha⟩:=r;have hc:(some (V.ref a),some (Lc.own q))∈cel Z.g ρ.mu:=aa0 (zip_get (i:=n) (by rw[aaJ,ha]; rfl) (by rw[aaJ,hq]; rfl));obtain⟨b,e1,e2,_,_⟩:=so.1 _ (aaQ _ hc);cases e1;exact mQ so lz k q _ (e2.rep lz rfl)
   . exact r
  | tup ps=>
   show Rep K ⟨H,Z.g⟩ (.tup (ps.map (aN ρ.mu k))) x;unfold Rep at r ⊢;obtain⟨a,vs,e,h1,h2⟩:=r;exact⟨a,vs,e,h1,lw (mQ so lz k) h2⟩
  | lst ps=>
   show Rep K ⟨H,Z.g⟩ (.lst (ps.map (aN ρ.mu k))) x;unfold Rep at r ⊢;obtain⟨a,vs,e,h1,h2⟩:=r;exact⟨a,vs,e,h1,lw (mQ so lz k) h2⟩
  | dk ks ps=>
   show Rep K ⟨H,Z.g⟩ (.dk ks (ps.map (aN ρ.mu k))) x;unfold Rep at r ⊢;obtain⟨a,vs,e,h1,h3,h2⟩:=r;exact⟨a,vs,e,h1,h3,lw (mQ so lz k) h2⟩
  | _=>exact r
def peekD (mu:Mu):Option Lc->Option Lc
 | some l=>some (.sh (aN mu 40 l.pv))
 | none=>none
def Ev.peekD (ρ:Ev):Ev:=⟨ρ.vs.map (PL.peekD ρ.mu),ρ.mu.map λ_=>none⟩
theorem SR.lookD (s:SR K H0 Z0 σ H ρ pd):
 ∃Zt,SR K H Zt σ H ρ.peekD []/\(∀H' v r ρ1,SR K H Zt σ H' ρ1 [(v,r)]->sW r=true->SR K H0 Z0 σ H' ρ ((v,r)::pd))/\∀H' ρ1,SR K H Zt σ H' ρ1 []->SR K H0 Z0 σ H' ρ pd:=by
 obtain⟨Z,⟨el,hg,lz,so⟩,b1,b2⟩:=s.lookB;refine⟨_,SR.peeked (pk:=peekD ρ.mu) el hg λv o he=>?_,b1,b2⟩;have q:=so.1 _ (aaD _ (aaQ _ he))
 match o,q with
 | none,_=>exact .inl rfl
 | some (.sh p),⟨x,e1,e2⟩=>exact .inr ⟨x,_,rfl,e1,mQ so lz 40 _ _ (e2.mono lz)⟩
 | some (.own p),⟨a,e1,e2,_,_⟩=>exact .inr ⟨.ref a,_,rfl,e1,mQ so lz 40 _ _ (e2.rep lz rfl)⟩
section
variable {X:Cx}
def rC (f:EF):EF:=λρ=>(f ρ.peekD).bind λx=>if sW x.1=true then some (x.1,ρ) else none
theorem N8 {e:Expr} {f:EF} (h:PE X e (tP X.K f)):PE X e (tP X.K (rC f)):=PE.imp h λσ H Q q=>by
 obtain⟨H0,Z0,ρ,pd,r,ρ',s,h,k⟩:=q;obtain⟨x,h1,h2⟩:=aci h;obtain⟨Zt,s1,b1,_⟩:=s.lookD;split at h2
 . rename_i hf;cases h2;exact⟨H,Zt,ρ.peekD,[],x.1,x.2,s1,h1,λv H' s2=>k v H' (b1 H' v x.1 x.2 s2 hf)⟩
 . cases h2
theorem Hf {f:EF} {l:Lc} {ρ ρ1:Ev} (h:f ρ.peekD=some (l,ρ1)) (hf:sW l=true):rC f ρ=some (l,ρ):=by unfold rC;rw[h,aab,aca hf]
def tu (fo:EF):EF:=λρ=>(fo ρ).bind λo=>match o.1.pv with
 | .ptr n=>match o.2.mu[n]? with
  | some (some (.lst ws))=>(ws[ws.length-1]?).map λp=>(.sh p,⟨o.2.vs,o.2.mu.set n (some (.lst ws.dropLast))⟩)
  | _=>none
 | _=>none
theorem S5 {o:Expr} {fo:EF} {apos cpos:Pos} (h:PE X (.Call (.Attribute o "pop" apos) [] [] cpos) (Qt X.K "list" Wx (tP X.K fo))):PE X (.Call (.Attribute o "pop" apos) [] [] cpos) (tP X.K (tu fo)):=PE.imp h λσ H Q q=>by
 obtain⟨H0,Z0,ρ,pd,r,ρ',s,h,k⟩:=q;obtain⟨o',h1,h2⟩:=aci h;refine⟨H0,Z0,ρ,pd,o'.1,o'.2,s,h1,λv H1 s1=>?_⟩;split at h2
 . rename_i n en;split at h2
   . rename_i ws em;obtain⟨p,h3,h4⟩:=acj h2;cases h4;have s2:=s1.freeze;rw[en]at s2;obtain⟨a,rfl,s5⟩:=s2.cellO em;obtain⟨_,Z,_,z,so⟩:=s5.top;obtain⟨_,ea,⟨us,hu,_⟩,_⟩:=so.1 _ aac;cases ea;obtain⟨us2,y,hu2,hy,s6⟩:=s5.popO h3;have hn:n<o'.2.mu.length:=(aap.mp em).1;have s7:=(s6.perm (pd':=(.ref a,.own (.lst ws.dropLast))::(.ref a,.sh (.ptr n))::(y,.sh p)::pd) ((List.Perm.swap _ _ _).cons _)).cellP (by show (o'.2.mu.set n none)[n]?=_; rw[aas hn]);refine⟨.inl ⟨rfl,us,bR.of hu⟩,a,us2,y,rfl,rfl,hu2,hy,k _ _ ?_⟩;have e8:(o'.2.mu.set n none).set n (some (.lst ws.dropLast))=o'.2.mu.set n (some (.lst ws.dropLast)):=aba ..;rw[show (⟨o'.2.vs,o'.2.mu.set n (some (.lst ws.dropLast))⟩:Ev)=⟨o'.2.vs,(o'.2.mu.set n none).set n (some (.lst ws.dropLast))⟩ by rw[e8]];exact s7
   . cases h2
 . cases h2
theorem Rc {H0:Hp} {a:Addr} {ps:List PV}:ni K H0 Z0 ((.ref a,.sh (.lst ps))::pd) (WM K a ps.length) ps.reverse:=by
 intro σ H ρ i s;obtain⟨Z,z,r⟩:=s.rep;unfold Rep at r;obtain⟨b,vs,e,h1,h2⟩:=r;cases e;have hq:=bR.same z h1;refine⟨λx hx=>?_,λhl=>⟨by rw[hl,abD],vs,hq,h2.length⟩⟩;have hi:i<ps.length:=by
  have:=(aap.mp hx).1
  rwa [abD]at this
 have hx':ps[ps.length-1-i]?=some x:=by rw[<-List.getElem?_reverse hi]; exact hx
 refine⟨⟨hi,vs,hq,h2.length⟩,λv' H' y=>?_⟩;obtain⟨e',y⟩:=y;subst e';refine s.part λZ' z' r'=>?_;unfold Rep at r';obtain⟨b',vs',e',h1',h2'⟩:=r';cases e';obtain⟨p',hp',rp'⟩:=h2'.getV (y vs' (bR.same z' h1'));rw[hx']at hp';cases hp';exact rp'
def Fy (f:EF):IF:=λρ=>(f ρ).bind λx=>match x.1.pv with
 | .lst ps=>some (ps.reverse,x.2)
 | _=>none
theorem Xj {tg a:Expr} {f:EF} {p pos:Pos} (hg:Gl X "reversed") (hm:X.mg "reversed" = none) (ha:PA X [a] (gQ X.K (aj f ao))) (hs:starEach [a] X.env=[(false,eval a X.env)]:=by rfl):PI X tg (.Call (.Name "reversed" p) [a] [] pos) (Ay X.K (Fy f)):=PI.imp (WN hg hm ha hs) λσ H R q=>by
 obtain⟨H0,Z0,ρ,pd,xs,ρ',s,h,k⟩:=q;obtain⟨x,h1,h2⟩:=aci h;refine⟨H0,Z0,ρ,pd,[x.1],x.2,s,?_,λvs H1 e1 s1=>?_⟩
 . unfold aj ao;rw[h1];rfl
 . obtain⟨v,rfl⟩:=yP e1;have s2:SR X.K H0 Z0 σ H1 x.2 ((v,.sh x.1.pv)::pd):=SR.freeze s1;cases e:x.1.pv with
   | lst ps=>
    rw[e]at h2 s2;cases h2;obtain⟨Z,z,r⟩:=s2.rep;unfold Rep at r;obtain⟨b,us,rfl,h1',h2'⟩:=r;refine⟨b,us,rfl,bR.same z h1',?_⟩;rw[h2'.length];exact k _ _ _ s2 Rc (aaq _ _)
   | _=>rw[e]at h2; cases h2
def isAny (p:PV):List String->Option Bool
 | []=>(SJ p).map λ_=>false
 | C::r=>match xj p C with
  | some true=>some true
  | some false=>isAny p r
  | none=>none
theorem lA {p:PV} {T:String} (h1:SJ p=some T):∀{Cs:List String} {b:Bool},isAny p Cs=some b->W.kitAny K (.type T) (Cs.map Value.type)=some b
 | [],b,h=>by unfold isAny at h;rw[h1]at h;exact h
 | C::r,b,h=>by
  unfold isAny at h;show (match W.kitOne K (.type T) (.type C) with | some true=>some true | some false=>W.kitAny K (.type T) (r.map Value.type) | none=>none)=some b;cases e:xj p C with
  | none=>rw[e]at h; cases h
  | some c=>
   rw[e]at h;rw[mO h1 e];cases c with
   | true=>exact h
   | false=>exact lA h1 h
def Xk (K:FG):List V->Hp->VK->Prop:=λxs H Q=>∃x t Cs g p b,xs=[x,.ref t]/\H t=some (.tup (Cs.map V.ty))/\Rep K ⟨H,g⟩ p x/\isAny p Cs=some b/\Q (.bl b) H
theorem JD:∀{Cs:List String} {its:List Value},Vals (Cs.map V.ty) its->its=Cs.map Value.type
 | [],its,h=>by cases h; rfl
 | C::r,its,h=>by
  cases h with
  | cons a b=>cases a; rw[JD b]; rfl
theorem Hg:m8 X (.builtin "isinstance") (Xk X.K):=by
 intro pins s σ H xs us Q I r h;obtain⟨x,t,Cs,g,p,b,rfl,ht,rp,e,q⟩:=h;obtain⟨u,w',rfl,ru,rw'⟩:=vals2 r;cases rw';have fin:∀tk,EP X pins σ Q (.bool b) { s with toks:=tk }:=λtk=>⟨.bl b,H,I.tok tk,rfl,q⟩;obtain⟨its,rv,⟨o,hp,hc,n,hd⟩,_⟩:=I.tuple (cM.of ht);have ei:=JD rv;subst ei;obtain⟨oc,od,oD,os⟩:=o;have hc':oc=.type "tuple" := hc;have hd':oD=.seq (Cs.map Value.type).toArray n:=hd;subst hc' hd';cases p with
 | non=>have:=gA rp; subst this; cases ru; exact abZ W.kitx_none I.kIn trivial hp (lA rfl e) (by intro z; cases z) fin
 | bl c=>have:=dB rp; subst this; cases ru; exact abZ W.kitx_bool I.kIn trivial hp (lA rfl e) (by intro z; cases z) fin
 | int i=>have:=bK rp; subst this; obtain⟨t,rfl⟩:=ru; exact abZ W.kitx_int I.kIn trivial hp (lA rfl e) (by intro z; cases z) fin
 | str i=>have:=cZ rp; subst this; obtain⟨t,rfl⟩:=ru; exact abZ W.kitx_str I.kIn trivial hp (lA rfl e) (by intro z; cases z) fin
 | tup ps=>
  obtain⟨a,vs,its,rfl,_,_,_,o,t1,t2,_⟩:=uB I rp ru;exact abZ (t:=.type "tuple") W.kitx_tuple I.kIn ⟨o,t1,t2⟩ hp (lA rfl e) (by intro z; cases z) fin
 | lst ps=>
  obtain⟨a,vs,its,rfl,_,_,_,o,t1,t2,_⟩:=uC I rp ru;exact abZ (t:=.type "list") W.kitx_list I.kIn ⟨o,t1,t2⟩ hp (lA rfl e) (by intro z; cases z) fin
 | _=>cases Cs<;>cases e
def Rf (Cs:List String) (f:EF):EF:=λρ=>(f ρ).bind λx=>(isAny x.1.pv Cs).map λb=>(.sh (.bl b),x.2)
def Rg:List String->TA
 | []=>Gi
 | C::r=>ye (tC (.ty C)) (Rg r)
theorem Hh {Q:List V->Hp->Prop} {H:Hp}:∀{Cs:List String},Q (Cs.map V.ty) H->Rg Cs σ H Q
 | [],h=>h
 | C::r,h=>Hh (Q:=λxs H2=>Q (V.ty C::xs) H2) (Cs:=r) h
theorem Z4 {Cs:List String} {f:EF} {e c:Expr} {pp pos:Pos} (h:PE X (.Call (.Name "isinstance" pp) [e,c] [] pos) (DP (Xk X.K) (ye (tP X.K f) (ye (Wm (Rg Cs)) Gi)))) (hc:Cs.length<=1000:=by decide):
 PE X (.Call (.Name "isinstance" pp) [e,c] [] pos) (tP X.K (Rf Cs f)):=PE.imp h λσ H Q q=>by
 obtain⟨H0,Z0,ρ,pd,r,ρ',s,h,k⟩:=q;obtain⟨x,h1,h2⟩:=aci h;obtain⟨b,h3,h4⟩:=acj h2;cases h4;refine⟨H0,Z0,ρ,pd,x.1,x.2,s,h1,λv H1 s1=>?_⟩;refine Hh (Cs:=Cs) ⟨by rw[aag]; exact small (by omega),λt ht=>?_⟩;have s2:=s1.freeze;obtain⟨el,Z,hg,z,r1,so⟩:=s2.sh;obtain⟨z',lz,so'⟩:=(so.consS r1).newF z (a:=t) (o:=.tup (Cs.map V.ty)) ht;have s3:SR X.K H0 Z0 σ (upd H1 t (.tup (Cs.map V.ty))) x.2 ((v,.sh x.1.pv)::pd):=.mk (Z:=Z.put t (.tup (Cs.map V.ty))) el hg z' so';obtain⟨g,r2⟩:=s3.repH;exact⟨v,t,Cs,g,_,b,rfl,bN,r2,h3,k _ _ (s3.pop.scal dW)⟩
def Hi (f:EF) (fl fh:OF):EF:=λρ=>(f ρ).bind λx=>(fl x.2).bind λy=>(fh y.2).bind λz=>match x.1.pv with
 | .tup ps=>if HT.sIx ps.length 0 y.1=0/\HT.sIx ps.length ps.length z.1=ps.length then none else some (.sh (.tup (vz ps y.1 z.1)),z.2)
 | _=>none
theorem UT {e:Expr} {lo hi:Option Expr} {p2 pos:Pos} {f:EF} {fl fh:OF} (he:PE X e (tP X.K f)) (hl:PO X lo (Jw X.K fl)) (hu:PO X hi (Jw X.K fh)):PE X (.Subscript e (.Slice lo hi none p2) pos) (tP X.K (Hi f fl fh)):=PE.imp (Gm Wo he hl hu) λσ H Q q=>by
 obtain⟨H0,Z0,ρ,pd,r,ρ',s,h,k⟩:=q;obtain⟨x,h1,h2⟩:=aci h;obtain⟨y,h3,h4⟩:=aci h2;obtain⟨z,h5,h6⟩:=aci h4;refine⟨H0,Z0,ρ,pd,x.1,x.2,s,h1,λv H1 s1=>⟨H0,Z0,x.2,_,y.1,y.2,s1.freeze,h3,λH2 s2=>⟨H0,Z0,y.2,_,z.1,z.2,s2,h5,λH3 s3=>?_⟩⟩⟩;cases e:x.1.pv with
 | tup ps=>
  rw[e]at h6 s3;have h6:(if HT.sIx ps.length 0 y.1=0/\HT.sIx ps.length ps.length z.1=ps.length then none else some (Lc.sh (.tup (vz ps y.1 z.1)),z.2))=some (r,ρ'):=h6;split at h6
  . cases h6
  . rename_i hw;cases h6;obtain⟨el,Z,hg,zz,r1,s4⟩:=s3.sh;unfold Rep at r1;obtain⟨a,vs,rfl,g1,g2⟩:=r1;refine⟨a,vs,rfl,cM.same zz.zh g1,by rw[g2.length]; exact hw,λp hp=>k _ _ ?_⟩;obtain⟨z',lz,s'⟩:=s4.newF zz (a:=p) (o:=.tup (qU vs y.1 z.1)) hp;refine .mk (Z:=Z.put p (.tup (qU vs y.1 z.1))) el hg z' (s'.consS ?_);unfold Rep;exact⟨p,_,rfl,cM.of bN,g2.cut.mono lz⟩
 | _=>rw[e]at h6; cases h6
def v9:Bool->List PV->PV
 | true,ps=>.lst ps
 | false,ps=>.tup ps
theorem Bl {Z:ZG} {k:Bool} {ps:List PV} {v:V} (r:Rep K Z (v9 k ps) v):∃a vs,v=.ref a/\m9 k K Z.z a vs/\aH K Z ps vs:=by
 cases k
 . unfold v9 Rep at r; exact r
 . unfold v9 Rep at r; exact r
theorem m9.same {Z Z':Hp} {k:Bool} {a:Addr} {vs:List V} (s:du Z Z') (h:m9 k K Z a vs):m9 k K Z' a vs:=by
 cases k
 . exact cM.same s h
 . exact bR.same s h
theorem Oa {H0:Hp} {k:Bool} {a b:Addr} {ps qs:List PV}:ni K H0 Z0 ((.ref a,.sh (v9 k ps))::(.ref b,.sh (v9 k qs))::pd) (QJ k K a b) (nF ps qs):=by
 intro σ H ρ i s;obtain⟨el,Z,hg,z,rl,so⟩:=SR.repl (vs:=[.ref a,.ref b]) (ls:=[.sh (v9 k ps),.sh (v9 k qs)]) (pd:=pd) s rfl;obtain⟨_,_,ev,r,rl⟩:=rl.inv;cases ev;obtain⟨_,_,ev,r',_⟩:=rl.inv;cases ev;have r0:Rep K Z (v9 k ps) (.ref a):=r;have r0':Rep K Z (v9 k qs) (.ref b):=r';obtain⟨a',vs,e,h1,h2⟩:=Bl r0;obtain⟨b',ws,e',h1',h2'⟩:=Bl r0';cases e;cases e';have hq:=m9.same z.zh h1;have hr:=m9.same z.zh h1';refine⟨λx hx=>?_,λhl=>⟨vs,ws,hq,hr,?_⟩⟩
 . obtain⟨p,q,hp,hq',rfl⟩:=Q9 hx;obtain⟨v,hv,rv⟩:=h2.get hp;obtain⟨u,hu,ru⟩:=h2'.get hq';refine⟨⟨vs,ws,v,u,hq,hr,hv,hu⟩,λv' H' y=>?_⟩;obtain⟨T,y1,y2,hT,rfl,rfl,hy1,hy2⟩:=y;have e1:=hy1 vs hq;rw[hv]at e1;cases e1;have e2:=hy2 ws hr;rw[hu]at e2;cases e2;obtain⟨z',lz,so'⟩:=((so.consS r0').consS r0).newF z (a:=T) (o:=.tup [v,u]) hT;refine .mk (Z:=Z.put T (.tup [v,u])) el hg z' (Slots.perm (Slots.consS so' ?_) ((cg.trans (cg.cons _)).cons _));unfold Rep;exact⟨T,[v,u],rfl,.inl (.inl (by show upd Z.z T _ T=_; rw[bN])),aH.cons (rv.mono lz) (aH.cons (ru.mono lz) .nil)⟩
 . rw[Ra]at hl;rw[h2.length,h2'.length];omega
def Hj (f g:EF):IF:=λρ=>(f ρ).bind λx=>(g x.2).bind λy=>match x.1.pv,y.1.pv with
 | .lst ps,.lst qs=>some (nF ps qs,y.2)
 | .tup ps,.tup qs=>some (nF ps qs,y.2)
 | _,_=>none
theorem UV {α:Type} {p q:PV} {w r:α} {zs:List PV} (h:(match p,q with
 | .lst ps,.lst qs=>some (nF ps qs,w)
 | .tup ps,.tup qs=>some (nF ps qs,w)
 | _,_=>none)=some (zs,r)):∃k ps qs,p=v9 k ps/\q=v9 k qs/\zs=nF ps qs/\w=r:=by
 split at h
 . rename_i ps qs; cases h; exact⟨true,ps,qs,rfl,rfl,rfl,rfl⟩
 . rename_i ps qs; cases h; exact⟨false,ps,qs,rfl,rfl,rfl,rfl⟩
 . cases h
theorem JF {a b:Expr} {f g:EF} {p pos:Pos} {elts:List Expr} {x1} {tpos:Pos} (hg:Gl X "zip") (hm:X.mg "zip" = none) (ha:PA X [a,b] (gQ X.K (aj f (aj g ao)))) (hs:starEach [a,b] X.env=(false,eval a X.env)::starEach [b] X.env:=by rfl) (hs2:(backTo pos (starEach [b] X.env)).any (·.1)=false:=by rfl):PI X (.Tuple elts x1 tpos) (.Call (.Name "zip" p) [a,b] [] pos) (Ay X.K (Hj f g)):=PI.imp (Ul hg hm ha hs hs2) λσ H R q=>by
 obtain⟨H0,Z0,ρ,pd,xs,ρ',s,h,k⟩:=q;obtain⟨x,h1,h2⟩:=aci h;obtain⟨y,h3,h4⟩:=aci h2;refine⟨H0,Z0,ρ,pd,[x.1,y.1],y.2,s,?_,λvs H1 e1 s1=>?_⟩
 . unfold aj ao;rw[h1];simp only[aab,h3,abj]
 . obtain⟨v,u,rfl⟩:=ln2 e1;have s2:SR X.K H0 Z0 σ H1 y.2 ((v,.sh x.1.pv)::(u,.sh y.1.pv)::pd):=SR.freezeAll (vs:=[v,u]) (ls:=[x.1,y.1]) s1;obtain⟨kk,ps,qs,e,e',rfl,rfl⟩:=UV h4;rw[e,e']at s2;obtain⟨Z,z,r,r'⟩:=s2.rep2;obtain⟨b',us,rfl,g1',g2'⟩:=Bl r;obtain⟨a',vs',rfl,g1,g2⟩:=Bl r';exact⟨kk,a',b',rfl,⟨_,m9.same z g1⟩,⟨_,m9.same z g1'⟩,k _ _ _ s2 Oa ((aaq _ _).cons _)⟩
def my (g:GF) (a:AF):EF:=λρ=>(a ρ).bind λy=>(g ((y.1.map Lc.pv).map (aN y.2.mu 40)) (y.2.mu.map λ_=>none)).bind λr=>if sW r.1=true then some (r.1,y.2) else none
theorem Bo {Z:ZG} {L:Sl} (h:∀e∈L,e.2=none):Slots K H0 Z H L:=by
 refine⟨λe he=>?_,?_⟩
 . obtain⟨v,l⟩:=e;have:l=none:=h _ he;subst this;trivial
 . have:L.filterMap kE=[]:=by
    rw[List.filterMap_eq_nil_iff];intro e he;obtain⟨v,l⟩:=e;have:l=none:=h _ he;subst this;cases v with
    | none=>rfl
    | some x=>cases x<;>rfl
   rw[this];exact abH
theorem zB {g:List Addr} {mu:Mu}:∀e∈cel g (mu.map λ_=>none),e.2=none:=λe he=>by obtain⟨v,l⟩:=e;obtain⟨_,h2⟩:=abh he;obtain⟨o,ho,e2⟩:=aaH.mp h2;obtain⟨o',_,e3⟩:=aaH.mp ho;subst e3;exact e2.symm
theorem Ob {n:Nat} {g:GF} {a:AF} {E:XK} (hn:∀ρ ls ρ1,a ρ=some (ls,ρ1)->ls.length=n):∀σ H Q,tP X.K (my g a) σ H Q->KJ (bU X.K n g) [] E (gQ X.K a) σ H Q:=λσ H Q q=>by
 obtain⟨H0,Z0,ρ,pd,r,ρ',s,h,k⟩:=q;obtain⟨y,h1,h2⟩:=aci h;obtain⟨⟨r1,mu'⟩,h3,h4⟩:=aci h2;split at h4
 . rename_i hf;cases h4;refine⟨H0,Z0,ρ,pd,y.1,y.2,s,h1,λvs H2 e2 s2=>?_⟩;have s3:=s2.freezeAll;obtain⟨Z,⟨el,hg,lz,so⟩,b1,_⟩:=s3.lookB;have hm:(y.1.map λl=>Lc.sh l.pv)=(y.1.map Lc.pv).map λp=>Lc.sh p:=by rw[aaX]; rfl
   have so0:=so;rw[hm]at so0;have rl:aH X.K Z (y.1.map Lc.pv) vs:=Slots.repl (by simpa using e2) (so0.perm GC.symm);have rl2:=lw (mQ so lz 40) (rl.mono lz);have z1:jb H2 ⟨H2,Z.g⟩ ⟨H2,Z.g⟩ H2:=⟨du.refl _,du.refl _,f9.refl _,λb o e=>.inl e⟩;have hs:Slots X.K H2 ⟨H2,Z.g⟩ H2 (sl Z.g σ ⟨y.2.vs.map λ_=>none,y.2.mu.map λ_=>none⟩ []):=Bo λe he=>by
    rcases aaC.mp he with he | he
    . exact zB e he
    . rw[abx,aau]at he;obtain⟨v,l⟩:=e;obtain⟨o,_,e3⟩:=aaH.mp (abh he).2;exact e3.symm
   refine⟨⟨H2,Z.g⟩,(y.1.map Lc.pv).map (aN y.2.mu 40),y.2.mu.map λ_=>none,r1,mu',?_,by simpa using hg,du.refl _,?_,Bo zB,h3,λv H' rr=>k v H' ?_⟩
   . rw[aau,e2]; exact hn _ _ _ h1
   . rw[aau]; exact rl2
   . have s4:=SR.called (ρ:=⟨y.2.vs.map λ_=>none,y.2.mu.map λ_=>none⟩) (Z:=⟨H2,Z.g⟩) (by simpa using el) (by simpa using hg) z1 hs rr;exact(b1 H' v r1 _ s4 hf).sub ((abp _ _).cons_cons _)
 . cases h4
theorem Oc {x:Str} {k:Nat} {ps:List Str} {g:GF} {e:Expr} {es:List Expr} {a:AF} {p pos:Pos} (D:bV X.prog X.w X.K X.mg X.base x k ps (bU X.K ps.length g)) (hr:mJ k X.A) (hg:Gl X x)
 (ha:PA X (e::es) (gQ X.K a)) (hn:∀ρ ls ρ1,a ρ=some (ls,ρ1)->ls.length=ps.length) (hdb:(x==("__debug__" : Str))=false:=by decide) (he:starEach (e::es) X.env=(false,eval e X.env)::starEach es X.env:=by rfl) (hpl:(backTo pos (starEach es X.env)).any (·.1)=false:=by rfl):PE X (.Call (.Name x p) (e::es) [] pos) (tP X.K (my g a)):=by
 obtain⟨f,fd,F,hm,hk,hb⟩:=D;exact PE.imp (Ji (E:=E0) F hr hg hm hk hb .nil Ae ha hdb he hpl) (Ob hn)
theorem Hk {G:GF} {a:AF} {ρ ρ1:Ev} {ls:List Lc} {ps:List PV} {r:Lc} {mu:Mu} (h:a ρ=some (ls,ρ1)) (hp:(ls.map Lc.pv).map (aN ρ1.mu 40)=ps) (h2:G ps (ρ1.mu.map λ_=>none)=some (r,mu)) (hf:sW r=true):my G a ρ=some (r,ρ1):=by unfold my;rw[h,aab,hp,h2,aab,aca hf]
end
theorem Slots.freezeC {R:Sl}:∀(C:Sl) {Z:ZG},Slots K H0 Z H (C++R)->jb H0 Z0 Z H->∃Z',f9 Z Z'/\Z'.g=Z.g/\jb H0 Z0 Z' H/\Slots K H0 Z' H R/\∀e∈C,∀q,e.2=some (.own q)->∃x,e.1=some x/\Rep K Z' q x
 | [],Z,so,z=>⟨Z,f9.refl Z,rfl,z,so,λe he=>by cases he⟩
 | (v,l)::C,Z,so,z=>by
  have rest:∀{Z1:ZG},f9 Z Z1->Z1.g=Z.g->jb H0 Z0 Z1 H->Slots K H0 Z1 H (C++R)->(∀q,l=some (.own q)->∃x,v=some x/\Rep K Z1 q x)->∃Z',f9 Z Z'/\Z'.g=Z.g/\jb H0 Z0 Z' H/\Slots K H0 Z' H R/\∀e∈(v,l)::C,∀q,e.2=some (.own q)->∃x,e.1=some x/\Rep K Z' q x:=λ{Z1} lz eg z1 so1 hv=>by
   obtain⟨Z',lz',eg',z',so',hc⟩:=Slots.freezeC C so1 z1;refine⟨Z',lz.trans lz',eg'.trans eg,z',so',λe he q hq=>?_⟩;rcases aaj.mp he with rfl | he
   . obtain⟨x,ex,rx⟩:=hv q hq;exact⟨x,ex,rx.mono lz'⟩
   . exact hc e he q hq
  have so1:Slots K H0 Z H ((v,l)::(C++R)):=so;cases l with
  | none=>exact rest (f9.refl Z) rfl z (so1.sub (aaq _ _)) λq h=>by cases h
  | some l=>
   cases l with
   | sh p=>exact rest (f9.refl Z) rfl z (so1.sub (aaq _ _)) λq h=>by cases h
   | own p=>
    obtain⟨Z1,lz,eg,z1,so2⟩:=so1.freeze z;obtain⟨x,ex,rx⟩:=so2.1 _ aac;exact rest lz eg z1 (so2.sub (aaq _ _)) λq h=>by cases h;exact⟨x,ex,rx⟩
theorem pI {Z:ZG} {mu:Mu} (hc:∀(n:Nat) (a:Addr) (q:PV),Z.g[n]?=some a->mu[n]?=some (some q)->Rep K Z q (.ref a)):∀(k:Nat) (p:PV) (x:V),Rep K Z p x->Rep K Z (aN mu k p) x
 | 0,p,x,r=>r
 | k+1,p,x,r=>by
  cases p with
  | ptr n=>
   show Rep K Z (match mu[n]? with | some (some p)=>aN mu k p | _=>.ptr n) x;split
   . rename_i q hq;unfold Rep at r;obtain⟨a,rfl,ha⟩:=r;exact pI hc k q _ (hc n a q ha hq)
   . exact r
  | tup ps=>
   show Rep K Z (.tup (ps.map (aN mu k))) x;unfold Rep at r ⊢;obtain⟨a,vs,e,h1,h2⟩:=r;exact⟨a,vs,e,h1,lw (pI hc k) h2⟩
  | lst ps=>
   show Rep K Z (.lst (ps.map (aN mu k))) x;unfold Rep at r ⊢;obtain⟨a,vs,e,h1,h2⟩:=r;exact⟨a,vs,e,h1,lw (pI hc k) h2⟩
  | dk ks ps=>
   show Rep K Z (.dk ks (ps.map (aN mu k))) x;unfold Rep at r ⊢;obtain⟨a,vs,e,h1,h3,h2⟩:=r;exact⟨a,vs,e,h1,h3,lw (pI hc k) h2⟩
  | _=>exact r
theorem Slots.nones {Z:ZG} {R:Sl}:∀(C:Sl),(∀e∈C,e.2=none)->Slots K H0 Z H R->Slots K H0 Z H (C++R)
 | [],_,so=>so
 | (v,l)::C,h,so=>by
  have e:l=none:=h _ aac;subst e;have s:=Slots.nones C (λe he=>h e (aak _ he)) so;refine⟨λe he=>?_,?_⟩
  . rcases aaj.mp he with rfl | he
    . trivial
    . exact s.1 e he
  . show ((((v,none):Option V×Option Lc)::(C++R)).filterMap kE).Nodup;rw[aaV (by cases v with | none=>rfl | some x=>cases x<;>rfl)];exact s.2
theorem SR.meltD {v:V} {p:PV} (k:Nat) (s:SR K H0 Z0 σ H ρ ((v,.sh p)::pd)):
 SR K H0 Z0 σ H ⟨ρ.vs,ρ.mu.map λ_=>none⟩ ((v,.sh (aN ρ.mu k p))::pd):=by
 obtain⟨el,Z,hg,z,r,so⟩:=s.sh;obtain⟨Z',lz,eg,z',so2,hc⟩:=Slots.freezeC (cel Z.g ρ.mu) so z;have so3:Slots K H0 Z' H (sl Z'.g σ ⟨ρ.vs,ρ.mu.map λ_=>none⟩ pd):=Slots.nones (cel Z'.g (ρ.mu.map λ_=>none)) zB so2;refine .mk (Z:=Z') el (by rw[eg]; simpa using hg) z' (so3.consS ?_);refine pI (λn a q ha hq=>?_) k p v (r.mono lz);rw[eg]at ha;have hm:(some (V.ref a),some (Lc.own q))∈cel Z.g ρ.mu:=aa0 (zip_get (i:=n) (by rw[aaJ,ha]; rfl) (by rw[aaJ,hq]; rfl));obtain⟨x,ex,rx⟩:=hc _ hm q rfl;cases ex;exact rx
section
variable {X:Cx}
def Bp (f:EF):EF:=λρ=>(f ρ).map λx=>(.sh (aN x.2.mu 40 x.1.pv),⟨x.2.vs,x.2.mu.map λ_=>none⟩)
theorem Xl {e:Expr} {f:EF} (h:PE X e (tP X.K f)):PE X e (tP X.K (Bp f)):=PE.imp h λσ H Q q=>by obtain⟨H0,Z0,ρ,pd,l,ρ',s,f,k⟩:=q;obtain⟨x,h1,h2⟩:=acj f;cases h2;exact⟨H0,Z0,ρ,pd,x.1,x.2,s,h1,λv H1 s1=>k v H1 (s1.freeze.meltD 40)⟩
theorem Rh {f:EF} {ρ ρ1:Ev} {l:Lc} {p:PV} (h:f ρ=some (l,ρ1)) (hp:aN ρ1.mu 40 l.pv=p):Bp f ρ=some (.sh p,⟨ρ1.vs,ρ1.mu.map λ_=>none⟩):=by unfold Bp;rw[h];show some (Lc.sh (aN ρ1.mu 40 l.pv),_)=_;rw[hp]
end
class HK where
 hk:List cG->Int
def okP:PV->Option cG
 | .non=>some none
 | .int i=>some (some (.inl i))
 | .str x=>some (some (.inr x))
 | _=>none
def rD:List PV->Option (List cG)
 | []=>some []
 | p::ps=>(okP p).bind λk=>(rD ps).map (k::·)
theorem Xm {Z:ZG} {p:PV} {v:V} {k:cG} (h:okP p=some k) (r:Rep K Z p v):v=sS k:=by
 cases p with
 | non=>cases h; exact gA r
 | int i=>cases h; exact bK r
 | str x=>cases h; exact cZ r
 | _=>cases h
theorem vG {Z:ZG}:∀{ps:List PV} {vs:List V} {ks:List cG},rD ps=some ks->aH K Z ps vs->vs=ks.map sS
 | [],vs,ks,h,r=>by cases h;exact r.inv0
 | p::ps,vs,ks,h,r=>by obtain⟨v,r',rfl,h1,h2⟩:=r.inv;obtain⟨k,g1,g2⟩:=aci h;obtain⟨t,g3,g4⟩:=acj g2;cases g4;rw[Xm g1 h1,vG g3 h2];rfl
abbrev Xn:=List (List cG×PV)
def jJ:Xn->List cG->Option PV
 | [],_=>none
 | kv::r,k=>if kv.1=k then some kv.2 else jJ r k
theorem Lj {x:List cG×Addr×V} {xs:XD} {k:List cG}:jE (x::xs) k=if x.1=k then some x.2.2 else jE xs k:=by
 unfold jE;by_cases e:x.1=k
 . rw[abL (by simpa using e),aca e]; rfl
 . rw[abM (by simpa using e),acb e]
theorem zE {Z:ZG} {k:List cG}:∀{xs:XD} {ps:List PV},aH K Z ps (xs.map (·.2.2))->(∀p,jJ ((xs.map (·.1)).zip ps) k=some p->∃v,jE xs k=some v/\Rep K Z p v)/\(jJ ((xs.map (·.1)).zip ps) k=none->jE xs k=none)
 | [],ps,h=>⟨λp e=>(by cases e),λ_=>rfl⟩
 | x::xs,[],h=>by have:=h.inv0; cases this
 | x::xs,p::ps,h=>by
  obtain⟨v,r,e,h1,h2⟩:=h.inv;rw[aax]at e;injection e with e1 e2;subst e1 e2;have ih:=zE (k:=k) h2;rw[Lj];show (∀q,(if x.1=k then some p else jJ ((xs.map (·.1)).zip ps) k)=some q->_)/\((if x.1=k then some p else jJ ((xs.map (·.1)).zip ps) k)=none->_);by_cases e:x.1=k
  . rw[aca e,aca e];exact⟨λq hq=>by cases hq; exact⟨_,rfl,h1⟩,λhq=>by cases hq⟩
  . rw[acb e,acb e];exact ih
theorem SR.setX {v kb:V} {p:PV} {kp:List PV} {a:Addr} {hk:List cG->Int} {ks:List (List cG)} {ps:List PV} {k:List cG} (s:SR K H0 Z0 σ H ρ ((v,.sh p)::(kb,.sh (.tup kp))::(.ref a,.own (.dx hk ks ps))::pd)) (ek:rD kp=some k):
 ∃b xs,kb=.ref b/\H a=some (.ext (uy hk a xs))/\(∀x∈xs,cM K H x.2.1 (x.1.map sS))/\cM K H b (k.map sS)/\xs.length=ks.length/\
  (jJ (ks.zip ps) k=none->jE xs k=none/\SR K H0 Z0 σ (upd H a (.ext (uy hk a (xs++[(k,b,v)])))) ρ ((.ref a,.own (.dx hk (ks++[k]) (ps++[p])))::(v,.sh p)::pd))/\
  (∀q,jJ (ks.zip ps) k=some q->∃u,jE xs k=some u/\SR K H0 Z0 σ H ρ ((u,.sh q)::(.ref a,.own (.dx hk ks ps))::pd)):=by
 obtain⟨el,Z,hg,z,r,so⟩:=s.sh;have so1:=so.perm cg.symm;obtain⟨x,e1,rk⟩:=so1.1 _ aac;cases e1;unfold Rep at rk;obtain⟨b,ws,rfl,hb,rw'⟩:=rk;have ew:=vG ek rw';subst ew;have so2:Slots K H0 Z H (sl Z.g σ ρ ((.ref a,.own (.dx hk ks ps))::pd)):=so1.sub (aaq _ _);have so3:=so2.perm cg.symm;obtain⟨_,eb,⟨xs,hu,hk1,hk2,hr⟩,_⟩:=so3.1 _ aac;cases eb;subst hk1;have hv:=zE (k:=k) hr;refine⟨b,xs,rfl,hu,λx hx=>cM.same z.zh (hk2 x hx),cM.same z.zh hb,by rw[aag],λhn=>⟨hv.2 hn,?_⟩,λq hq=>?_⟩
 . have so4:Slots K H0 Z H ((some (.ref a),some (.own (.dx hk (xs.map (·.1)) ps)))::(some v,some (.sh p))::sl Z.g σ ρ pd):=(so3.consS r).perm (List.Perm.swap _ _ _);obtain⟨z',s'⟩:=so4.write (o:=.ext (uy hk a (xs++[(k,b,v)]))) (q:=.dx hk (xs.map (·.1)++[k]) (ps++[p])) z ⟨xs++[(k,b,v)],bN,by rw[aaG]; rfl,(λx hx=>(by
    rcases aaC.mp hx with hx | hx
    . exact hk2 x hx
    . rw[aa3.mp hx];exact hb)),by rw[aaG]; exact hr.append (aH.cons r .nil)⟩
   exact .mk el hg z' (s'.perm (cg.symm.cons _).symm)
 . obtain⟨u,e,ru⟩:=hv.1 q hq;exact⟨u,e,.mk el hg z (so2.consS ru)⟩
theorem SR.takeX {i:Nat} {hk:List cG->Int} {ks:List (List cG)} {ps:List PV} (s:SR K H0 Z0 σ H ρ pd) (e:ρ.vs[i]?=some (some (.own (.dx hk ks ps)))):
 ∃a xs,σ[i]?=some (some (.ref a))/\H a=some (.ext (uy hk a xs))/\SR K H0 Z0 σ H (ρ.set i none) ((.ref a,.own (.dx hk ks ps))::pd):=by
 obtain⟨v,e1,s1⟩:=s.take e;obtain⟨_,Z,_,z,so⟩:=s1.top;obtain⟨a,ea,⟨xs,hu,_⟩,_⟩:=so.1 _ aac;have ea':v=.ref a:=aaA ea;subst ea';exact⟨a,xs,e1,hu,s1⟩
theorem SR.seal {v:V} {p:PV} (s1:SR K H0 Z0 σ H ρ ((v,.own p)::pd)):SR K H0 Z0 σ H ⟨ρ.vs,ρ.mu++[some p]⟩ ((v,.sh (.ptr ρ.mu.length))::pd):=by
 obtain⟨el,Z,hg,z,so⟩:=s1.top;obtain⟨a,ea,ra,za,ha0⟩:=so.1 _ aac;have ea':v=.ref a:=aaA ea;subst ea';have lz:f9 Z ⟨Z.z,Z.g++[a]⟩:=⟨du.refl _,abY _ _⟩;have so2:=so.step (Z':=⟨Z.z,Z.g++[a]⟩) (H':=H) lz λe he b hb=>⟨rfl,(jc so he hb).1⟩;refine .mk (Z:=⟨Z.z,Z.g++[a]⟩) el (by simp[hg]) ⟨z.zh,z.h0,z.z0.trans lz,z.new⟩ (Slots.consS ?_ ?_)
 . refine so2.perm ?_;have ec:cel (Z.g++[a]) (ρ.mu++[some p])=cel Z.g ρ.mu++[(some (.ref a),some (.own p))]:=by unfold cel;rw[aaG,aaG,abk (by simp[hg])];rfl
   unfold sl;show List.Perm (cel (Z.g++[a]) (ρ.mu++[some p])++_) _;rw[ec,aai];exact aaZ
 . unfold Rep;exact⟨a,rfl,by show (Z.g++[a])[ρ.mu.length]?=some a; rw[hg,aav (aaf _)]; simp⟩
theorem Ev.set_self {i:Nat} {l:Option Lc} (e:ρ.vs[i]?=some l):ρ.set i l=ρ:=by show Ev.mk (ρ.vs.set i l) ρ.mu=ρ;obtain⟨hi,he⟩:=aap.mp e;rw[<-he,List.set_getElem_self]
section
variable {X:Cx} [HK]
def Od:EF:=λρ=>some (.own (.dx HK.hk [] []),ρ)
theorem Xo (hx:HK.hk=Av X.prog X.w) {pos:Pos}:PE X (.Dict [] [] pos) (tP X.K Od):=PE.imp QL λσ H Q q=>by obtain⟨H0,Z0,ρ,pd,l,ρ',s,f,k⟩:=q;cases f;exact λp hp=>k _ _ (s.newO hp λZ _ _=>⟨[],by rw[bN,hx]; rfl,rfl,(λx hx=>(by cases hx)),aH.nil⟩)
open Classical in
def yq (i:Nat) (fk:EF):EF:=λρ=>match ρ.vs[i]? with
 | some (some (.own (.dx _ _ _)))=>(fk ρ).bind λy=>match y.1.pv,y.2.vs[i]? with
  | .tup kp,some (some (.own (.dx hk ks ps)))=>(rD kp).bind λk=>if hk=HK.hk/\ks.length<100000 then
   (match jJ (ks.zip ps) k with
   | some p=>some (.sh p,y.2)
   | none=>some (.sh (.ptr y.2.mu.length),⟨y.2.vs.set i (some (.own (.dx hk (ks++[k]) (ps++[.ptr y.2.mu.length])))),y.2.mu++[some (.lst [])]⟩))
   else none
  | _,_=>none
 | _=>none
theorem YQ {i:Nat} {o e1 e2:Expr} {fk:EF} {apos cpos:Pos} (hx:HK.hk=Av X.prog X.w) (h:PE X (.Call (.Attribute o "setdefault" apos) [e1,e2] [] cpos) (λσ H Q=>qQ i σ H λx H1=>(∃a hk xs,x=.ref a/\H1 a=some (.ext (uy hk a xs)))/\gQ X.K (aj fk (aj (bx ao) ao)) σ H1 λvs H2=>Nk X.prog X.w X.K x vs H2 Q)):
 PE X (.Call (.Attribute o "setdefault" apos) [e1,e2] [] cpos) (tP X.K (yq i fk)):=PE.imp h λσ H Q q=>by
 obtain⟨H0,Z0,ρ,pd,r,ρ',s,h,k⟩:=q;unfold yq at h;split at h
 . rename_i hk0 ks0 ps0 e0;obtain⟨y,h1,h2⟩:=aci h;obtain⟨a,xs,ea,hu,_⟩:=s.takeX e0;refine⟨.ref a,ea,⟨a,hk0,xs,rfl,hu⟩,H0,Z0,ρ,pd,[y.1,.own (.lst [])],y.2,s,?_,λvs H2 e2 s2=>?_⟩
   . unfold aj ao bx;simp[h1]
   . obtain⟨v1,v2,rfl⟩:=ln2 e2;have s2':SR X.K H0 Z0 σ H2 y.2 ((v1,y.1)::(v2,.own (.lst []))::pd):=s2;split at h2
     . rename_i kp hk ks ps e3 e4;obtain⟨kk,ek,h3⟩:=aci h2;split at h3
       . rename_i hc;obtain⟨hc1,hc2⟩:=hc;subst hc1;have s3:=s2'.freeze;rw[e3]at s3;cases hv:jJ (ks.zip ps) kk with
         | some p=>
          rw[hv]at h3;cases h3;obtain⟨a',xs',ea',hu',s4⟩:=s3.swap.freeze.takeX e4;rw[ea]at ea'; cases ea';have s5:=s4.perm (pd':=(v2,.sh (.lst []))::(v1,.sh (.tup kp))::(.ref a,.own (.dx HK.hk ks ps))::pd) (abl (l₁:=[(v2,Lc.sh (.lst [])),(v1,.sh (.tup kp))]) (l₂:=[(.ref a,.own (.dx HK.hk ks ps))]) |>.append_right pd);obtain⟨b,xs2,rfl,g1,g2,g3,g4,_,g6⟩:=s5.setX ek;obtain⟨u,eu,s6⟩:=g6 p hv;refine⟨a,b,xs2,kk,v2,rfl,rfl,by rw[g1]; unfold dX; rw[hx],g2,g3,by rw[g4,sizeLine_eq]; omega,?_⟩;rw[eu];have s7:=s6.swap.put ea;rw[Ev.set_set,Ev.set_self e4]at s7;exact k _ _ s7
         | none=>
          rw[hv]at h3;cases h3;have s3a:=s3.swap.seal;obtain⟨a',xs',ea',hu',s4⟩:=s3a.takeX (i:=i) (hk:=HK.hk) (ks:=ks) (ps:=ps) e4;rw[ea]at ea'; cases ea';have s5:=s4.perm (pd':=(v2,.sh (.ptr y.2.mu.length))::(v1,.sh (.tup kp))::(.ref a,.own (.dx HK.hk ks ps))::pd) (abl (l₁:=[(v2,Lc.sh (.ptr y.2.mu.length)),(v1,.sh (.tup kp))]) (l₂:=[(.ref a,.own (.dx HK.hk ks ps))]) |>.append_right pd);obtain⟨b,xs2,rfl,g1,g2,g3,g4,g5,_⟩:=s5.setX ek;obtain⟨eu,s6⟩:=g5 hv;refine⟨a,b,xs2,kk,v2,rfl,rfl,by rw[g1]; unfold dX; rw[hx],g2,g3,by rw[g4,sizeLine_eq]; omega,?_⟩;rw[eu];have s7:=s6.put ea;rw[Ev.set_set]at s7;have e9:(.ext (uy (Av X.prog X.w) a (xs2++[(kk,b,v2)])):HO)=dX X.prog X.w a (xs2++[(kk,b,v2)]):=rfl;rw[<-e9,<-hx];exact k _ _ s7
       . cases h3
     . cases h2
 . cases h
open Classical in
def vH (fo fk:EF):EF:=λρ=>(fo ρ).bind λx=>match x.1.pv with
 | .dx hk ks ps=>(fk x.2).bind λy=>match y.1.pv with
  | .tup kp=>(rD kp).bind λk=>if hk=HK.hk then some (match jJ (ks.zip ps) k with | some p=>.sh p | none=>.own (.lst []),y.2) else none
  | _=>none
 | _=>none
theorem S6 {o e1 e2:Expr} {fo fk:EF} {apos cpos:Pos} (hx:HK.hk=Av X.prog X.w) (h:PE X (.Call (.Attribute o "get" apos) [e1,e2] [] cpos) (λσ H Q=>tP X.K fo σ H λx H1=>(∃a hk xs,x=.ref a/\H1 a=some (.ext (uy hk a xs)))/\gQ X.K (aj fk (aj (bx ao) ao)) σ H1 λvs H2=>R8 X.prog X.w X.K x vs H2 Q)):
 PE X (.Call (.Attribute o "get" apos) [e1,e2] [] cpos) (tP X.K (vH fo fk)):=PE.imp h λσ H Q q=>by
 obtain⟨H0,Z0,ρ,pd,r,ρ',s,h,k⟩:=q;obtain⟨x,h1,h2⟩:=aci h;refine⟨H0,Z0,ρ,pd,x.1,x.2,s,h1,λv H1 s1=>?_⟩;split at h2
 . rename_i hk ks ps e0;obtain⟨y,h3,h4⟩:=aci h2;have s2:=s1.freeze;rw[e0]at s2;have s2c:=s2;obtain⟨el,Z,hg,z,rd,so⟩:=s2.sh;unfold Rep at rd;obtain⟨a,xs,rfl,g1,g2,g3,g4⟩:=rd;refine⟨⟨a,hk,xs,rfl,z.zh _ _ g1⟩,H0,Z,x.2,pd,[y.1,.own (.lst [])],y.2,⟨el,Z,hg,⟨z.zh,z.h0,f9.refl Z,λb o e=>.inl e⟩,so⟩,?_,λvs H2 e2 s3=>?_⟩
   . unfold aj ao bx;simp[h3]
   . obtain⟨v1,v2,rfl⟩:=ln2 e2;have s3':SR X.K H0 Z σ H2 y.2 ((v1,y.1)::(v2,.own (.lst []))::pd):=s3;split at h4
     . rename_i kp e3;obtain⟨kk,ek,h5⟩:=aci h4;split at h5
       . rename_i hc;subst hc;cases h5;have s4:=s3'.freeze;rw[e3]at s4;obtain⟨el2,Z2,hg2,z2,rk,so2⟩:=s4.sh;unfold Rep at rk;obtain⟨b,ws,rfl,hb,rw'⟩:=rk;have ew:=vG ek rw';subst ew;subst g2;have hv:=zE (k:=kk) g4;refine⟨a,b,xs,kk,v2,rfl,rfl,?_,λx hx=>cM.same z2.zh (cM.same z2.z0.1 (g3 x hx)),cM.same z2.zh hb,?_⟩
         . rw[z2.zh _ _ (z2.z0.1 _ _ g1),hx];rfl
         have zz:jb H0 Z0 Z2 H2:=⟨z2.zh,z2.h0,z.z0.trans z2.z0,λb o e=>by
          rcases z2.new b o e with q | q
          . exact z.new b o q
          . exact .inr q⟩
         cases hl:jJ ((xs.map (·.1)).zip ps) kk with
         | some p=>
          obtain⟨u,eu,ru⟩:=hv.1 p hl;rw[eu];rw[hl]at k;refine k _ _ (.mk el2 hg2 zz ((so2.perm cg.symm).sub (aaq _ _) |>.consS (ru.mono z2.z0)))
         | none=>
          rw[hv.2 hl];rw[hl]at k;exact k _ _ (.mk el2 hg2 zz (so2.perm cg.symm))
       . cases h5
     . cases h4
 . cases h2
def meltL:Mu->List PV->Option (List PV×Mu)
 | mu,[]=>some ([],mu)
 | mu,.ptr n::ps=>match mu[n]? with
  | some (some q)=>(meltL (mu.set n none) ps).map λr=>(q::r.1,r.2)
  | _=>none
 | _,_=>none
theorem Slots.meltL {R:Sl}:∀{ps qs:List PV} {mu mu':Mu} {vs:List V} {Z:ZG},PL.meltL mu ps=some (qs,mu')->aH K Z ps vs->mu.length=Z.g.length->jb H0 Z0 Z H->Slots K H0 Z H (cel Z.g mu++R)->
 ∃Z',f9 Z Z'/\Z'.g=Z.g/\jb H0 Z0 Z' H/\Slots K H0 Z' H (cel Z'.g mu'++R)/\aH K Z' qs vs/\mu'.length=mu.length
 | [],qs,mu,mu',vs,Z,h,r,hg,z,so=>by cases h;exact⟨Z,f9.refl Z,rfl,z,so,r,rfl⟩
 | p::ps,qs,mu,mu',vs,Z,h,r,hg,z,so=>by
  cases p with
  | ptr n=>
   unfold PL.meltL at h;split at h
   . rename_i q hm;obtain⟨t,h1,h2⟩:=acj h;cases h2;obtain⟨v,vr,rfl,r1,r2⟩:=r.inv;unfold Rep at r1;obtain⟨a,rfl,ha⟩:=r1;obtain⟨C,p1,p2⟩:=xf ha hm;have so2:Slots K H0 Z H ((some (.ref a),some (.own q))::(C++R)):=so.perm (p1.append_right _).symm;obtain⟨Z1,lz,eg,z1,so3⟩:=so2.freeze z;obtain⟨x,ex,rx⟩:=so3.1 _ aac;cases ex;have so4:Slots K H0 Z1 H (C++R):=so3.sub (aaq _ _);have so5:Slots K H0 Z1 H ((some (.ref a),none)::(C++R)):=by
      refine⟨λe he=>?_,?_⟩
      . rcases aaj.mp he with rfl | he
        . trivial
        . exact so4.1 e he
      . rw[aaV rfl]; exact so4.2
     have so6:Slots K H0 Z1 H (cel Z1.g (mu.set n none)++R):=by rw[eg];exact so5.perm ((p2 none).append_right _)
     obtain⟨Z2,lz2,eg2,z2,so7,r7,l7⟩:=Slots.meltL h1 (r2.mono lz) (by rw[eg]; simpa using hg) z1 so6;exact⟨Z2,lz.trans lz2,eg2.trans eg,z2,so7,aH.cons (rx.mono lz2) r7,by simpa using l7⟩
   . cases h
  | _=>cases h
def Hl (f:EF):EF:=λρ=>(f ρ).bind λx=>match x.1.pv with
 | .dx hk ks ps=>(meltL x.2.mu ps).map λr=>(.sh (.dx hk ks r.1),⟨x.2.vs,r.2⟩)
 | _=>none
theorem Xp {e:Expr} {f:EF} (h:PE X e (tP X.K f)):PE X e (tP X.K (Hl f)):=PE.imp h λσ H Q q=>by
 obtain⟨H0,Z0,ρ,pd,l,ρ',s,f,k⟩:=q;obtain⟨x,h1,h2⟩:=aci f;refine⟨H0,Z0,ρ,pd,x.1,x.2,s,h1,λv H1 s1=>?_⟩;split at h2
 . rename_i hk ks ps e0;obtain⟨r,h3,h4⟩:=acj h2;cases h4;have s2:=s1.freeze;rw[e0]at s2;obtain⟨el,Z,hg,z,rd,so⟩:=s2.sh;unfold Rep at rd;obtain⟨a,xs,rfl,g1,g2,g3,g4⟩:=rd;obtain⟨Z2,lz,eg,z2,so2,r2,l2⟩:=Slots.meltL (R:=σ.zip x.2.vs++pd.map λe=>(some e.1,some e.2)) h3 g4 hg z so;refine k _ H1 (.mk (Z:=Z2) el (by rw[eg]; simpa [l2] using hg) z2 (Slots.consS so2 ?_));unfold Rep;exact⟨a,xs,rfl,lz.1 _ _ g1,g2,λx hx=>cM.same lz.1 (g3 x hx),r2⟩
 . cases h2
end
section
variable {X:Cx}
theorem qw (i:Nat) {x:Str} {pos:Pos} (hN:X.N[i]?=some x:=by rfl) (hv:Mi X.env.scope x:=by first | exact Or.inl rfl | exact Or.inr (Or.inl rfl) | exact Or.inr (Or.inr rfl)) (hd:(x==("__debug__" : Str))=false:=by decide) (hcd:(x==("__classdict__" : Str))=false:=by decide):PE X (.Name x pos) (tP X.K (aa i)):=qv (pv i hN hv hd hcd)
theorem aO {i:Int} {j} {pos:Pos}:PE X (.Constant (.int i) j pos) (tP X.K (eC (.int i))):=qc VJ dO
theorem aX {i:Str} {j} {pos:Pos}:PE X (.Constant (.str i) j pos) (tP X.K (eC (.str i))):=qc VM uz
theorem Bq {j} {pos:Pos}:PE X (.Constant .none j pos) (tP X.K (eC .non)):=qc VL uA
theorem qI {a:Expr} {i:Int} {j} {p pos:Pos} {fa:EF} (ha:PE X a (tP X.K fa)):PE X (.Subscript a (.Constant (.int i) j p) pos) (tP X.K (aY fa (eC (.int i)))):=lN ha aO (λ_ _=>rfl)
theorem qL {e:Expr} {f:EF} {p pos:Pos} (b:X.mg "len" = none) (h:PE X e (tP X.K f)) (hg:Gl X "len" := by rfl) (h0:starEach [e] X.env=(false,eval e X.env)::starEach [] X.env:=by rfl):PE X (.Call (.Name "len" p) [e] [] pos) (tP X.K (eB gZ (aj f ao))):=Be jh NB (cD jh hg b abf (ak h aq h0) (he:=h0))
theorem fL (i:Nat) {x:Str} {e:Expr} {pos pos':Pos} {f:EF} (hN:X.N.Nodup) (he:PE X e (tP X.K f)) (hi:X.N[i]?=some x:=by rfl) (hx:L2.Loc X.env.scope x:=by exact Or.inl rfl) (hs:swapsWith e (some (.Name x pos')) pos.line X.env=pure false:=by rfl) (hf:X.fn x=true\/X.env.scope.names.lookup x=some .local:=by first | exact .inl rfl | exact .inr rfl | assumption):
 PS X (.Assign [.Name x pos'] e pos) (fV X.K (aV i f)):=Nt hN hi hx he hs hf
theorem fG (i:Nat) {x:Str} {pos:Pos} (hN:X.N.Nodup) (hi:X.N[i]?=some x:=by rfl) (hx:L2.Loc X.env.scope x:=by exact Or.inl rfl) (hf:X.fn x=true\/X.env.scope.names.lookup x=some .local:=by first | exact .inl rfl | exact .inr rfl | assumption):PG X (.Name x pos) (Fo i):=Cr hN hi hx hf
theorem xH {M F:List Str} {ixs:List Nat} {sc:Scope} (S:Scope) (hS:X.env.scope=S:=by rfl) (kind:sc.kind=.function:=by rfl) (locs:∀y∈sc.names,y.2=.local->sc.names.lookup y.1=some .local:=by decide +kernel) (cel:∀y∈sc.names,y.2=.cell->sc.names.lookup y.1=some .cell:=by decide +kernel)
 (own:∀p∈sc.names,p.2=.free->S.names.lookup p.1=some .cell\/S.names.lookup p.1=some .free:=by decide +kernel) (frs:∀x∈F,sc.names.lookup x=some .free:=by decide +kernel) (ix:ixs.map (λi=>X.N[i]?)=F.map some:=by rfl):iZ X M F ixs sc:=YL S hS kind locs cel own frs ix
theorem Z5 {i:Nat} {o e:Expr} {f:EF} {apos cpos pos:Pos} (ho:PE X o (qQ i)) (he:PE X e (tP X.K f)) (h0:starEach [e] X.env=(false,eval e X.env)::starEach [] X.env:=by rfl) (h1:attributeBase o "append" X.env (eval o X.env)=eval o X.env:=by rfl)
 (h2:((backTo cpos (starEach [e] X.env)).all (λx=>!x.1)&&(backToKw cpos (keywordEach [] X.env)).all (λx=>x.1.isSome)
   && decide (([e]:List Expr).length+([]:List Keyword).length+(if ([]:List Keyword).isEmpty then 0 else 1)<30))=true:=by rfl) (h3:(apos.endLine==cpos.line)=true:=by rfl) (hs:swapsWith (.Call (.Attribute o "append" apos) [e] [] cpos) none pos.line X.env=pure false:=by rfl):
 PS X (.Expr (.Call (.Attribute o "append" apos) [e] [] cpos) pos) (fV X.K (zr i f)):=W6 (eF (jD F.plainAttrs_list F.slot_list_append F.type_list_append d8 ho (ak he aq h0) h1 h2 h3 h0) hs)
theorem Hm {i:Nat} {o e:Expr} {f:EF} {apos cpos pos:Pos} (ho:PE X o (qQ i)) (he:PE X e (tP X.K f)) (h0:starEach [e] X.env=(false,eval e X.env)::starEach [] X.env:=by rfl) (h1:attributeBase o "extend" X.env (eval o X.env)=eval o X.env:=by rfl)
 (h2:((backTo cpos (starEach [e] X.env)).all (λx=>!x.1)&&(backToKw cpos (keywordEach [] X.env)).all (λx=>x.1.isSome)
   && decide (([e]:List Expr).length+([]:List Keyword).length+(if ([]:List Keyword).isEmpty then 0 else 1)<30))=true:=by rfl) (h3:(apos.endLine==cpos.line)=true:=by rfl) (hs:swapsWith (.Call (.Attribute o "extend" apos) [e] [] cpos) none pos.line X.env=pure false:=by rfl):
 PS X (.Expr (.Call (.Attribute o "extend" apos) [e] [] cpos) pos) (fV X.K (nC i f)):=W7 (eF (jD F.plainAttrs_list F.slot_list_extend F.type_list_extend Aq ho (ak he aq h0) h1 h2 h3 h0) hs)
end
inductive XR (α:Type) where
 | ok (a:α)
 | xc (C:Str) (ρ:Ev)
abbrev SX:=Ev->Option (XR Fl)
section
variable {X:Cx} {E:XK}
end
section
variable {P:Program} {w:World} {K:FG} {mg:Str->Option Value} {base:Heap}
end
section
variable {X:Cx} {E:XK}
end
section
variable {X:Cx}
end
section
variable {P:Program} {w:World} {K:FG} {mg:Str->Option Value} {base:Heap}
end
section
variable {X:Cx} {E:XK}
end
section
variable {K:FG} {H0 H:Hp} {Z0:ZG} {σ:L2.St} {ρ:Ev} {pd:Pd}
end
section
variable {X:Cx} {E:XK}
end
section
variable {X:Cx}
theorem SR.dkAt {v:V} {n:Nat} {ks:List Key} {ps:List PV} (s:SR K H0 Z0 σ H ρ ((v,.sh (.ptr n))::pd)) (hm:ρ.mu[n]?=some (some (.dk ks ps))):
 ∃a kvs,v=.ref a/\H a=some (.dK kvs)/\(∀k p,bI (ks.zip ps) k=some p->∃u,lq kvs k=some u/\SR K H0 Z0 σ H ρ ((u,.sh p)::(v,.sh (.ptr n))::pd))/\(∀k,bI (ks.zip ps) k=none->lq kvs k=none)/\
  ∀b,H b=none->SR K H0 Z0 σ (upd H b (.dK kvs)) ρ ((.ref b,.own (.dk ks ps))::(v,.sh (.ptr n))::pd):=by
 have sdup:SR K H0 Z0 σ H ρ ((v,.sh (.ptr n))::(v,.sh (.ptr n))::pd):=s.part λZ _ r=>r;obtain⟨a,rfl,s5⟩:=sdup.cellO hm;obtain⟨el,Z,hg,z,so⟩:=s5.top;obtain⟨_,ea,⟨kvs,hu,hk,hr⟩,_⟩:=so.1 _ aac;cases ea;refine⟨a,kvs,rfl,hu,λk p hp=>?_,λk hp=>(iV hk hr).val.2 hp,λb hb=>?_⟩
 . obtain⟨u,h1,h2⟩:=(iV hk hr).val.1 p hp;refine⟨u,h1,?_⟩;have s6:SR K H0 Z0 σ H ⟨ρ.vs,ρ.mu.set n none⟩ ((u,.sh p)::(.ref a,.own (.dk ks ps))::(.ref a,.sh (.ptr n))::(.ref a,.sh (.ptr n))::pd):=.mk (Z:=Z) el hg z ((so.perm cg).consS h2);have s7:SR K H0 Z0 σ H ⟨ρ.vs,ρ.mu.set n none⟩ ((.ref a,.own (.dk ks ps))::(.ref a,.sh (.ptr n))::(u,.sh p)::(.ref a,.sh (.ptr n))::pd):=s6.perm (((List.Perm.swap _ _ _).cons _).trans (List.Perm.swap _ _ _));exact SR.cellB (pe:=pd) hm s7
 . obtain⟨z',s'⟩:=(so.perm cg).new (o:=.dK kvs) (p:=.dk ks ps) z hb ⟨kvs,bN,hk,hr⟩;have s6:SR K H0 Z0 σ (upd H b (.dK kvs)) ⟨ρ.vs,ρ.mu.set n none⟩ ((.ref b,.own (.dk ks ps))::(.ref a,.own (.dk ks ps))::(.ref a,.sh (.ptr n))::(.ref a,.sh (.ptr n))::pd):=.mk (Z:=Z) el hg z' s';have s7:SR K H0 Z0 σ (upd H b (.dK kvs)) ⟨ρ.vs,ρ.mu.set n none⟩ ((.ref a,.own (.dk ks ps))::(.ref a,.sh (.ptr n))::(.ref b,.own (.dk ks ps))::(.ref a,.sh (.ptr n))::pd):=s6.perm (((List.Perm.swap _ _ _).cons _).trans (List.Perm.swap _ _ _));exact SR.cellB (pe:=pd) hm s7
def aM (fa fb:EF):EF:=λρ=>(fa ρ).bind λx=>(fb x.2).bind λy=>match x.1.pv,oM y.1.pv with
 | .ptr n,some k=>match y.2.mu[n]? with
  | some (some (.dk ks ps))=>(bI (ks.zip ps) k).map λp=>(.sh p,y.2)
  | _=>none
 | _,_=>none
theorem cQ {a b:Expr} {pos:Pos} {fa fb:EF} (hu:X.A.units+1<cLine) (ha:PE X a (tP X.K fa)) (hb:PE X b (tP X.K fb)) (hm:yf b):PE X (.Subscript a b pos) (tP X.K (aM fa fb)):=PE.imp (KY (Jl hu) ha hb hm) λσ H Q q=>by
 obtain⟨H0,Z0,ρ,pd,l,ρ',s,f,k⟩:=q;obtain⟨x,h1,h2⟩:=aci f;obtain⟨y,h3,h4⟩:=aci h2;refine⟨H0,Z0,ρ,pd,x.1,x.2,s,h1,λv H1 s1=>⟨H0,Z0,x.2,_,y.1,y.2,s1,h3,λw H2 s2=>?_⟩⟩;have s3:=s2.freeze.swap.freeze.swap;split at h4
 . rename_i n kk en ek;split at h4
   . rename_i ks ps em;obtain⟨p,h5,h6⟩:=acj h4;cases h6;obtain⟨_,rw'⟩:=s3.repH;have ew:=oN ek rw';have s4:=s3.pop;rw[en]at s4;obtain⟨a',kvs,rfl,e1,g1,_,_⟩:=s4.dkAt em;obtain⟨u,hu',s5⟩:=g1 kk p h5;exact⟨a',u,rfl,.inl ⟨kvs,kk,.inl e1,ew,hu'.symm⟩,k u H2 (s5.sub ((aaq _ _).cons_cons _))⟩
   . cases h4
 . cases h4
theorem Xq (hu:X.A.units+1<cLine):d7 X (compareOp .In) (λx y H Q=>∃a o,y=.ref a/\Cy H a x o/\Q (.bl o.isSome) H):=by intro pins s σ H x y v u Q I rx ry h;obtain⟨a,o,rfl,g,q⟩:=h;obtain rfl:u=Value.ref a:=ry;exact ZP hu I g rx λs3 I3=>⟨.bl o.isSome,H,I3,rfl,q⟩
def De (fa fb:EF):EF:=λρ=>(fa ρ).bind λx=>(fb x.2).bind λy=>match y.1.pv,oM x.1.pv with
 | .ptr n,some k=>match y.2.mu[n]? with
  | some (some (.dk ks ps))=>some (.sh (.bl (bI (ks.zip ps) k).isSome),y.2)
  | _=>none
 | _,_=>none
theorem UW {fa fb:EF}:∀σ H Q,tP X.K (De fa fb) σ H Q->Jg (λx y H Q=>∃a o,y=.ref a/\Cy H a x o/\Q (.bl o.isSome) H) (tP X.K fa) (tP X.K fb) σ H Q:=λσ H Q q=>by
 obtain⟨H0,Z0,ρ,pd,l,ρ',s,f,k⟩:=q;obtain⟨x,h1,h2⟩:=aci f;obtain⟨y,h3,h4⟩:=aci h2;refine⟨H0,Z0,ρ,pd,x.1,x.2,s,h1,λv H1 s1=>⟨H0,Z0,x.2,_,y.1,y.2,s1,h3,λw H2 s2=>?_⟩⟩;have s3:=s2.freeze.swap.freeze;split at h4
 . rename_i n kk en ek;split at h4
   . rename_i ks ps em;cases h4;obtain⟨_,rw'⟩:=s3.repH;have ew:=oN ek rw';have s4:=s3.pop;rw[en]at s4;obtain⟨a',kvs,rfl,e1,g1,g2,_⟩:=s4.dkAt em;have e2:(lq kvs kk).isSome=(bI (ks.zip ps) kk).isSome:=by
      cases h:bI (ks.zip ps) kk with
      | none=>rw[g2 kk h]; rfl
      | some p=>obtain⟨u,hu',_⟩:=g1 kk p h; rw[hu']; rfl
     refine⟨a',lq kvs kk,rfl,.inl ⟨kvs,kk,.inl e1,ew,rfl⟩,?_⟩;rw[e2];exact k _ H2 (s4.pop.scal λ_=>dW _)
   . cases h4
 . cases h4
theorem Z6 {a b:Expr} {pos:Pos} {fa fb:EF} (hu:X.A.units+1<cLine) (ha:PE X a (tP X.K fa)) (hb:PE X b (tP X.K fb)) (hm:behindInMarks .In b=false):PT X (.Compare a [.In] [b] pos) (ig X.K (tT (De fa fb) bA)):=
 Ld (PT.imp (Jh (Xq hu) ha hb hm) λσ H Q q=>UW σ H _ q)
def jf (fo fi fv:EF):SF:=λρ=>(fv ρ).bind λx=>(fo x.2).bind λo=>(fi o.2).bind λy=>match o.1.pv,oM y.1.pv with
 | .ptr n,some k=>match y.2.mu[n]? with
  | some (some (.dk ks ps))=>if ks.length<100000 then some (.nx ⟨y.2.vs,y.2.mu.set n (some (bz (cU (ks.zip ps) k x.1.pv)))⟩) else none
  | _=>none
 | _,_=>none
theorem jA {o ix e:Expr} {fo fi fv:EF} {tpos pos:Pos} (h:PS X (.Assign [.Subscript o ix tpos] e pos) (Km (tP X.K fv) (Qd (tP X.K fo) (tP X.K fi) La))):PS X (.Assign [.Subscript o ix tpos] e pos) (fV X.K (jf fo fi fv)):=PS.imp h λD σ H q=>by
 obtain⟨H0,Z0,ρ,pd,fl,s,h,k⟩:=q;obtain⟨x,h1,h2⟩:=aci h;obtain⟨o,h3,h4⟩:=aci h2;obtain⟨y,h5,h6⟩:=aci h4;refine⟨H0,Z0,ρ,pd,x.1,x.2,s,h1,λv H1 s1=>⟨H0,Z0,x.2,_,o.1,o.2,s1.freeze,h3,λw H2 s2=>⟨H0,Z0,o.2,_,y.1,y.2,s2.freeze,h5,λt H3 s3=>?_⟩⟩⟩;split at h6
 . rename_i n kk en ek;split at h6
   . rename_i ks ps em;split at h6
     . rename_i hlen;cases h6;obtain⟨_,rt'⟩:=s3.freeze.repH;have et:=oN ek rt';have s4:=s3.pop;rw[en]at s4;obtain⟨a,rfl,s5⟩:=s4.cellO em;have s6:SR X.K H0 Z0 σ H3 ⟨y.2.vs,y.2.mu.set n none⟩ ((v,.sh x.1.pv)::(.ref a,.own (.dk ks ps))::(.ref a,.sh (.ptr n))::pd):=s5.perm ((List.Perm.swap _ _ _).trans ((List.Perm.swap _ _ _).cons _));obtain⟨kvs,hu,hl,s7⟩:=s6.setD (k:=kk);have hn:n<y.2.mu.length:=(aap.mp em).1;have s8:=s7.cellP (by show (y.2.mu.set n none)[n]?=_; rw[aas hn]);refine⟨a,_,rfl,.inl ⟨kvs,kk,hu,et,by rw[hl,sizeLine_eq]; omega,rfl⟩,k σ _ ?_⟩;have e8:(y.2.mu.set n none).set n (some (bz (cU (ks.zip ps) kk x.1.pv)))=y.2.mu.set n (some (bz (cU (ks.zip ps) kk x.1.pv))):=aba ..;have s9:SR X.K H0 Z0 σ (upd H3 a (.dK (putK kvs kk v))) ⟨y.2.vs,(y.2.mu.set n none).set n (some (bz (cU (ks.zip ps) kk x.1.pv)))⟩ pd:=s8;rw[e8]at s9;exact s9
     . cases h6
   . cases h6
 . cases h6
def xJ (f:EF):EF:=λρ=>(f ρ).bind λx=>match x.1.pv with
 | .ptr n=>match x.2.mu[n]? with
  | some (some (.dk ks ps))=>some (.own (.dk ks ps),x.2)
  | _=>none
 | _=>none
theorem Xr {e:Expr} {f:EF} {p pos:Pos} (h:PE X (.Call (.Name "dict" p) [e] [] pos) (DP (λxs H Q=>∃a kvs,xs=[.ref a]/\Rd H a (.dK kvs)/\∀p,H p=none->Q (.ref p) (upd H p (.dK kvs))) (gQ X.K (aj f ao)))):PE X (.Call (.Name "dict" p) [e] [] pos) (tP X.K (xJ f)):=PE.imp h λσ H Q q=>by
 obtain⟨H0,Z0,ρ,pd,l,ρ',s,h,k⟩:=q;obtain⟨x,h1,h2⟩:=aci h;refine⟨H0,Z0,ρ,pd,[x.1],x.2,s,?_,λvs H1 e1 s1=>?_⟩
 . unfold aj ao;rw[h1];rfl
 . obtain⟨v,rfl⟩:=yP e1;have s2:SR X.K H0 Z0 σ H1 x.2 ((v,.sh x.1.pv)::pd):=SR.freeze s1;split at h2
   . rename_i n en;split at h2
     . rename_i ks ps em;cases h2;rw[en]at s2;obtain⟨a,kvs,rfl,e1,_,_,g⟩:=s2.dkAt em;exact⟨a,kvs,rfl,.inl e1,λb hb=>k _ _ ((g b hb).sub ((aaq _ _).cons_cons _))⟩
     . cases h2
   . cases h2
def yr (i:Nat) (f:EF):SF:=λρ=>match ρ.vs[i]? with
 | some (some (.own (.dk _ _)))=>(f ρ).bind λy=>match y.1.pv,y.2.vs[i]? with
  | .ptr n,some (some (.own (.dk ks ps)))=>match y.2.mu[n]? with
   | some (some (.dk ls qs))=>if ks.length+ls.length<=100000 then some (.nx (y.2.set i (some (.own (bz (jd (ls.zip qs) (ks.zip ps))))))) else none
   | _=>none
  | _,_=>none
 | _=>none
theorem U0 {i:Nat} {o e:Expr} {f:EF} {apos cpos pos:Pos} (h:PS X (.Expr (.Call (.Attribute o "update" apos) [e] [] cpos) pos) (uW (R9 (qQ i) (tP X.K f)))):PS X (.Expr (.Call (.Attribute o "update" apos) [e] [] cpos) pos) (fV X.K (yr i f)):=PS.imp h λD σ H q=>by
 obtain⟨H0,Z0,ρ,pd,fl,s,h,k⟩:=q;unfold yr at h;split at h
 . rename_i ks0 ps0 e0;obtain⟨y,h1,h2⟩:=aci h;obtain⟨a,ea,s0⟩:=s.takeD e0;obtain⟨_,Z,_,z,so⟩:=s0.top;obtain⟨_,eb,⟨kvs0,hu0,_⟩,_⟩:=so.1 _ aac;cases eb;refine⟨.ref a,ea,a,rfl,.inl ⟨kvs0,.inl hu0⟩,H0,Z0,ρ,pd,y.1,y.2,s,h1,λw H2 s2=>?_⟩;split at h2
   . rename_i n ks ps en e3;split at h2
     . rename_i ls qs em;split at h2
       . rename_i hz;cases h2;have s3:=s2.freeze;rw[en]at s3;obtain⟨b,rfl,s5⟩:=s3.cellO em;obtain⟨a',ea',s6⟩:=s5.takeD (i:=i) e3;rw[ea]at ea';cases ea';obtain⟨el,Z,hg,z,so⟩:=s6.top;obtain⟨_,ec,⟨kvs,hu,hk,hr⟩,_⟩:=so.1 _ aac;cases ec;have so2:=so.perm (cg.symm.cons _);obtain⟨_,ed,⟨more,hu2,hk2,hr2⟩,_⟩:=so2.1 _ (aak _ aac);cases ed;have hne:a≠b:=by have nd:=so2.2;have nd':(a::b::_).Nodup:=nd;exact λe=>(aaP.mp nd').1 (e▸aac)
         have rm:=dR.merge (iV hk2 hr2) (iV hk hr);obtain⟨z',s'⟩:=so.write (o:=.dK (jt kvs more)) (q:=bz (jd (ls.zip qs) (ks.zip ps))) z ⟨jt kvs more,bN,rm.keys,rm.vals⟩;have s7:SR X.K H0 Z0 σ (upd H2 a (.dK (jt kvs more))) _ ((.ref a,.own (bz (jd (ls.zip qs) (ks.zip ps))))::(.ref b,.own (.dk ls qs))::(.ref b,.sh (.ptr n))::pd):=.mk (Z:=Z) el hg z' s';have s8:=s7.put ea;rw[Ev.set_set]at s8;have s9:SR X.K H0 Z0 σ (upd H2 a (.dK (jt kvs more))) (y.2.set i (some (.own (bz (jd (ls.zip qs) (ks.zip ps)))))) pd:=SR.cellB (pe:=pd) (ρ:=y.2.set i (some (.own (bz (jd (ls.zip qs) (ks.zip ps)))))) em s8;refine⟨b,kvs,more,rfl,hu,.inl hu2,hne,?_,k σ _ s9⟩;have l1:kvs.length=ks.length:=by rw[<-hk,aag]
         have l2:more.length=ls.length:=by rw[<-hk2,aag]
         rw[l1,l2,sizeLine_eq];omega
       . cases h2
     . cases h2
   . cases h2
 . cases h
def Fz (fo fv:EF):SF:=λρ=>(fo ρ).bind λo=>match o.1.pv with
 | .ptr n=>match o.2.mu[n]? with
  | some (some (.lst _))=>(fv o.2).bind λy=>match y.1.pv,y.2.mu[n]? with
   | .lst ps,some (some (.lst ws))=>if ws.length+ps.length<=100000 then some (.nx ⟨y.2.vs,y.2.mu.set n (some (.lst (ws++ps)))⟩) else none
   | _,_=>none
  | _=>none
 | _=>none
theorem U3 {o e:Expr} {fo fv:EF} {apos cpos pos:Pos} (h:PS X (.Expr (.Call (.Attribute o "extend" apos) [e] [] cpos) pos) (uW (MK X.K "list" (zg X.K) (tP X.K fo) (gQ X.K (aj fv ao))))):
 PS X (.Expr (.Call (.Attribute o "extend" apos) [e] [] cpos) pos) (fV X.K (Fz fo fv)):=PS.imp h λD σ H q=>by
 obtain⟨H0,Z0,ρ,pd,fl,s,h,k⟩:=q;obtain⟨o',h1,h2⟩:=aci h;refine⟨H0,Z0,ρ,pd,o'.1,o'.2,s,h1,λv H1 s1=>?_⟩;split at h2
 . rename_i n en;split at h2
   . rename_i ws0 em0;obtain⟨y,h3,h4⟩:=aci h2;have s2:=s1.freeze;rw[en]at s2;obtain⟨a,rfl,s5⟩:=s2.cellO em0;obtain⟨_,Z,_,z,so⟩:=s5.top;obtain⟨_,ea,⟨us,hu,_⟩,_⟩:=so.1 _ aac;cases ea;refine⟨.inl ⟨rfl,us,bR.of hu⟩,H0,Z0,o'.2,_,[y.1],y.2,s2,?_,λvs H2 e2 sv=>?_⟩
     . unfold aj ao;rw[h3];rfl
     . obtain⟨v1,rfl⟩:=yP e2;split at h4
       . rename_i ps ws ep em;split at h4
         . rename_i hz;cases h4;have s3:SR X.K H0 Z0 σ H2 y.2 ((v1,.sh y.1.pv)::(.ref a,.sh (.ptr n))::pd):=SR.freeze sv;rw[ep]at s3;obtain⟨a',ea',s6⟩:=s3.swap.cellO em;cases ea';have s7:SR X.K H0 Z0 σ H2 ⟨y.2.vs,y.2.mu.set n none⟩ ((v1,.sh (.lst ps))::(.ref a,.own (.lst ws))::(.ref a,.sh (.ptr n))::pd):=s6.perm ((List.Perm.swap _ _ _).trans ((List.Perm.swap _ _ _).cons _));obtain⟨b,us2,zs,rfl,hb,hu2,hl,hl2,s8⟩:=s7.extO;have hn:n<y.2.mu.length:=(aap.mp em).1;have s9:=s8.cellP (by show (y.2.mu.set n none)[n]?=_; rw[aas hn]);refine⟨a,b,us2,zs,rfl,rfl,hu2,hb,by rw[hl,hl2]; exact small hz,k σ _ ?_⟩;have e8:(y.2.mu.set n none).set n (some (.lst (ws++ps)))=y.2.mu.set n (some (.lst (ws++ps))):=aba ..;have s10:SR X.K H0 Z0 σ (upd H2 a (.lst (us2++zs))) ⟨y.2.vs,(y.2.mu.set n none).set n (some (.lst (ws++ps)))⟩ pd:=s9;rw[e8]at s10;exact s10
         . cases h4
       . cases h4
   . cases h2
 . cases h2
def Br (f:EF):TF:=λρ=>(f ρ).bind λx=>match x.1.pv with
 | .ptr n=>match x.2.mu[n]? with
  | some (some (.lst ws))=>some (!ws.isEmpty,x.2)
  | _=>none
 | _=>none
theorem YS {a:Expr} {f:EF} (ha:PE X a (tP X.K f)) (he:∀whole,isTrue a X.env whole=(do let v <-whole; standAt a.pos; holding [v] (truthy v))):PT X a (ig X.K (Br f)):=PT.imp (Gh ha he) λσ H Q q=>by
 obtain⟨H0,Z0,ρ,pd,b,ρ',s,h,k⟩:=q;obtain⟨x,h1,h2⟩:=aci h;refine⟨H0,Z0,ρ,pd,x.1,x.2,s,h1,λv H1 s1=>?_⟩;split at h2
 . rename_i n en;split at h2
   . rename_i ws em;cases h2;have s2:=s1.freeze;rw[en]at s2;obtain⟨a,vs,rfl,hH,hl,_⟩:=s2.lstAt em;refine⟨_,.inl ⟨vs,bR.of hH,?_⟩,k H1 s2.pop⟩;cases vs<;>cases ws<;>first | rfl | (simp at hl)
   . cases h2
 . cases h2
def nJ (f:EF):EF:=λρ=>(f ρ).bind λx=>match x.1.pv with
 | .ptr n=>match x.2.mu[n]? with
  | some (some p)=>some (.sh p,⟨x.2.vs,x.2.mu.set n none⟩)
  | _=>none
 | _=>none
theorem Oe {e:Expr} {f:EF} (h:PE X e (tP X.K f)):PE X e (tP X.K (nJ f)):=PE.imp h λσ H Q q=>by
 obtain⟨H0,Z0,ρ,pd,l,ρ',s,h,k⟩:=q;obtain⟨x,h1,h2⟩:=aci h;refine⟨H0,Z0,ρ,pd,x.1,x.2,s,h1,λv H1 s1=>?_⟩;split at h2
 . rename_i n en;split at h2
   . rename_i p em;cases h2;have s2:=s1.freeze;rw[en]at s2;obtain⟨a,rfl,s5⟩:=s2.cellO em;exact k _ H1 (s5.freeze.sub ((aaq _ _).cons_cons _))
   . cases h2
 . cases h2
def FJ (fo:EF):SF:=λρ=>(fo ρ).bind λo=>match o.1.pv with
 | .ptr n=>match o.2.mu[n]? with
  | some (some (.lst ws))=>some (.nx ⟨o.2.vs,o.2.mu.set n (some (.lst []))⟩)
  | _=>none
 | _=>none
theorem U4 {o:Expr} {fo:EF} {apos cpos pos:Pos} (h:PS X (.Expr (.Call (.Attribute o "clear" apos) [] [] cpos) pos) (uW (Qt X.K "list" MP (tP X.K fo)))):
 PS X (.Expr (.Call (.Attribute o "clear" apos) [] [] cpos) pos) (fV X.K (FJ fo)):=PS.imp h λD σ H q=>by
 obtain⟨H0,Z0,ρ,pd,fl,s,h,k⟩:=q;obtain⟨o',h1,h2⟩:=aci h;refine⟨H0,Z0,ρ,pd,o'.1,o'.2,s,h1,λv H1 s1=>?_⟩;split at h2
 . rename_i n en;split at h2
   . rename_i ws em;cases h2;have s2:=s1.freeze;rw[en]at s2;obtain⟨a,rfl,s5⟩:=s2.cellO em;obtain⟨_,Z,_,z,so⟩:=s5.top;obtain⟨_,ea,⟨us,hu,_⟩,_⟩:=so.1 _ aac;cases ea;obtain⟨us2,hu2,s6⟩:=s5.wrO (f:=λ_=>[]) (ws':=[]) λ_=>aH.nil;have hn:n<o'.2.mu.length:=(aap.mp em).1;have s7:=s6.cellP (by show (o'.2.mu.set n none)[n]?=_; rw[aas hn]);refine⟨.inl ⟨rfl,us,bR.of hu⟩,a,us2,rfl,rfl,hu2,k σ _ ?_⟩;have e8:(o'.2.mu.set n none).set n (some (.lst []))=o'.2.mu.set n (some (.lst [])):=aba ..;rw[show (⟨o'.2.vs,o'.2.mu.set n (some (.lst []))⟩:Ev)=⟨o'.2.vs,(o'.2.mu.set n none).set n (some (.lst []))⟩ by rw[e8]];exact s7
   . cases h2
 . cases h2
theorem Xu {es es':List Expr} {x1} {pos:Pos} {f:EF} {g:AF} (ha:PE X (.Tuple es' x1 pos) (tP X.K f)) (hr:PA X es (gQ X.K g)):PA X (.Tuple es' x1 pos::es) (gQ X.K (aj f g)):=ak ha hr rfl
theorem uL {es es':List Expr} {pos:Pos} {f:EF} {g:AF} (ha:PE X (.List es' pos) (tP X.K f)) (hr:PA X es (gQ X.K g)):PA X (.List es' pos::es) (gQ X.K (aj f g)):=ak ha hr rfl
theorem Og {es vs:List Expr} {ks:List (Option Expr)} {pos:Pos} {f:EF} {g:AF} (ha:PE X (.Dict ks vs pos) (tP X.K f)) (hr:PA X es (gQ X.K g)):PA X (.Dict ks vs pos::es) (gQ X.K (aj f g)):=ak ha hr rfl
end
end PL
namespace Law
open PySem PySem.Spec PyProof.Rows L2 PL
local macro_rules | `(tactic| walk_at "sc")=>`(tactic| exact⟨rfl,rfl,rfl,by decide +kernel,rfl,by decide +kernel,by decide +kernel⟩)
theorem mI {l:List Str} {a:Str} (i:Nat) (h:l[i]?=some a):a∈l:=aa0 h
def top (i:Nat):Stmt:=PySem.Challenge.pw_hushwise_k25_choices.main.body.getD i (.Pass ⟨0,0,0,0⟩)
abbrev tW:Stmt:=top 5
abbrev vI:Stmt:=top 6
abbrev lB:Stmt:=top 7
abbrev qD:Stmt:=top 8
abbrev vJ:Stmt:=top 9
abbrev qF:Stmt:=top 14
abbrev tX:Stmt:=top 15
abbrev vK:Stmt:=top 16
abbrev pR:Stmt:=top 18
abbrev yt:Stmt:=top 19
abbrev oO:Stmt:=top 20
abbrev zF:Stmt:=top 21
abbrev tB:Stmt:=top 22
abbrev oR:Stmt:=top 24
abbrev oZ:Stmt:=top 25
abbrev Lk:Stmt:=top 26
abbrev zG:Stmt:=top 27
abbrev tY:Stmt:=top 29
abbrev pU:Stmt:=top 30
abbrev lC:Stmt:=top 31
abbrev tZ:Stmt:=top 32
abbrev lO:Stmt:=top 33
abbrev lQ:Stmt:=top 34
abbrev rE:Stmt:=top 35
abbrev uc:Stmt:=top 36
abbrev ud:Stmt:=top 37
abbrev vL:Stmt:=top 38
abbrev ue:Stmt:=top 39
abbrev nM:Stmt:=top 40
abbrev jK:Stmt:=inClass (top 11) 0
abbrev uf:Stmt:=inClass (top 11) 4
abbrev rG:Stmt:=inClass (top 11) 7
abbrev pW:Stmt:=inClass (top 11) 8
abbrev j8:Stmt:=inClass (top 23) 0
abbrev lJ:Stmt:=inClass (top 23) 1
abbrev j9:Stmt:=inClass (top 23) 2
abbrev nO:Stmt:=inClass (top 23) 3
abbrev nP:Stmt:=inClass (top 23) 4
abbrev mR:Stmt:=inClass (top 23) 5
abbrev nQ:Stmt:=inClass (top 23) 6
abbrev mU:Stmt:=inClass (top 23) 7
abbrev mV:Stmt:=inClass (top 23) 8
abbrev nR:Stmt:=inClass (top 23) 9
theorem Hn:aR ["row"] ["row"] (aF tW):=by walk_at "sc"
theorem Oh:aR ["row"] ["row"] (aF vI):=by walk_at "sc"
theorem EY:aR ["rows"] ["rows"] (aF lB):=by walk_at "sc"
theorem jW:aR ["where", "above", "block", "rows", "start", "told", "row", "number", "place", "inner"] ["where", "above", "block", "rows", "start"] (aF qD):=by walk_at "sc"
theorem jX:aR ["program", "told", "name", "rank", "params", "rows"] ["program"] (aF vJ):=by walk_at "sc"
theorem Iw:aR ["expression", "boxes"] ["expression", "boxes"] (aF qF):=by walk_at "sc"
theorem Ho:aR ["numbers", "place"] ["numbers", "place"] (aF tX):=by walk_at "sc"
theorem Iz:aR ["sign", "one", "other"] ["sign", "one", "other"] (aF vK):=by walk_at "sc"
theorem Df:aR ["thing"] ["thing"] (aF pR):=by walk_at "sc"
theorem Ri:aR ["size", "thing"] ["size", "thing"] (aF yt):=by walk_at "sc"
theorem kJ:aR ["program", "values", "box", "thing", "name"] ["program", "values"] (aF oO):=by walk_at "sc"
theorem tD:aR ["program", "values", "boxes", "box", "thing"] ["program", "values"] (aF zF):=by walk_at "sc"
theorem Ln:aR ["program", "boxes"] ["program", "boxes"] (aF tB):=by walk_at "sc"
theorem tE:aR ["program", "values", "budget", "running"] ["program", "values", "budget"] (aF oR):=by walk_at "sc"
theorem lD:aR ["moments", "record", "row", "time", "events"] ["moments"] (aF oZ):=by walk_at "sc"
theorem Oi:aR ["program", "values", "budget", "running"] ["program", "values", "budget"] (aF Lk):=by walk_at "sc"
theorem Oj:aR ["program", "values", "budget"] ["program", "values", "budget"] (aF zG):=by walk_at "sc"
theorem rH:aR ["_law_script", "_law_k", "_law_cell_here"] ["_law_script", "_law_k"] (aF tY):=by walk_at "sc"
theorem uM:aR ["_law_cell_here", "_law_way"] ["_law_cell_here"] (aF pU):=by walk_at "sc"
theorem Fb:aR ["_law_got", "_law_due"] ["_law_got", "_law_due"] (aF lC):=by walk_at "sc"
theorem Hq:aR ["_law_cell_here", "_law_nums"] ["_law_cell_here", "_law_nums"] (aF tZ):=by walk_at "sc"
theorem pJ:aR ["_law_cell_here", "_law_nums", "_law_one"] ["_law_cell_here", "_law_nums"] (aF lO):=by walk_at "sc"
theorem xK:aR ["_law_e", "_law_boxes"] ["_law_e", "_law_boxes"] (aF lQ):=by walk_at "sc"
theorem mC:aR ["_law_e", "_law_boxes", "_law_one", "_law_other", "_law_made"] ["_law_e", "_law_boxes"] (aF rE):=by walk_at "sc"
theorem nT:aR ["_law_state", "_law_guard", "_law_above", "_law_truth", "_law_level"] ["_law_state", "_law_guard"] (aF uc):=by walk_at "sc"
theorem rJ:aR ["_law_state", "_law_with_else", "_law_level", "_law_above"] ["_law_state", "_law_with_else"] (aF ud):=by walk_at "sc"
theorem ug:aR ["_law_state", "_law_name", "_law_e", "_law_level", "_law_value"] ["_law_state", "_law_name", "_law_e"] (aF vL):=by walk_at "sc"
theorem lE:aR ["_law_script", "_law_nums", "_law_boxes", "_law_state", "_law_k", "_law_cell_here", "_law_way"] ["_law_script", "_law_nums", "_law_boxes"] (aF ue):=by walk_at "sc"
theorem jQ:aR ["_law_script", "_law_pick", "_law_nums", "_law_values", "_law_state", "_law_program", "_law_record", "_law_k", "_law_time", "_law_events", "_law_due", "_law_got"] ["_law_script"] (aF nM):=by walk_at "sc"
theorem cR:aR ["self", "program", "told", "lists", "number", "one", "heads", "name", "rank", "params", "rows"] ["self", "program"] (aF jK):=by walk_at "sc"
theorem Hr:aR ["self", "k"] ["self", "k"] (aF uf):=by walk_at "sc"
theorem Fd:aR ["self", "name"] ["self", "name"] (aF rG):=by walk_at "sc"
theorem Dg:aR ["self", "k", "which"] ["self", "k", "which"] (aF pW):=by walk_at "sc"
theorem vM:aR ["self", "program", "values", "budget"] ["self", "program", "values", "budget"] (aF j8):=by walk_at "sc"
theorem Bt:aR ["self", "numbers"] ["self", "numbers"] (aF lJ):=by walk_at "sc"
theorem nU:aR ["self", "name", "numbers"] ["self", "name"] (aF j9):=by walk_at "sc"
theorem rK:aR ["self", "due"] ["self"] (aF nO):=by walk_at "sc"
theorem zH:aR ["self", "k", "time", "events"] ["self", "k", "time", "events"] (aF nP):=by walk_at "sc"
theorem qg:aR ["self", "expression", "there"] ["self", "expression"] (aF mR):=by walk_at "sc"
theorem rM:aR ["self", "name", "value", "holder"] ["self", "name", "value"] (aF nQ):=by walk_at "sc"
theorem yE:aR ["self"] ["self"] (aF mU):=by walk_at "sc"
theorem qi:aR ["self", "k", "row"] ["self", "k"] (aF mV):=by walk_at "sc"
theorem zJ:aR ["self", "k", "row"] ["self", "k", "row"] (aF nR):=by walk_at "sc"
def qN:PV:=(.int 1000000000000)
section
variable [HK]
def jj:GF:=cH 1 (aK (cO (tT (aB eqP (aY (aa 0) (eC (.int 0))) (eC (.str "if"))) bA)
 (bT (bx (aj (aY (aa 0) (eC (.int 2))) (aj (aY (aa 0) (eC (.int 3))) ao))))
 cV)
 (aK (cO (tT (aB eqP (aY (aa 0) (eC (.int 0))) (eC (.str "while"))) bA)
 (bT (bx (aj (aY (aa 0) (eC (.int 2))) ao)))
 cV)
 (bT (bx ao))))
mutual
def jL:Nat->GF
 | 0=>λ_ _=>none
 | n+1=>cH 1 (aK (cO (tT (aB eqP (aY (aa 0) (eC (.int 0))) (eC (.str "if"))) bA)
  (bT (bG (aj (eC (.str "if")) (aj (aY (aa 0) (eC (.int 1))) (aj (aJ (dN n) (aj (aY (aa 0) (eC (.int 2))) ao)) (aj (aJ (dN n) (aj (aY (aa 0) (eC (.int 3))) ao)) ao))))))
  cV)
  (aK (cO (tT (aB eqP (aY (aa 0) (eC (.int 0))) (eC (.str "while"))) bA)
  (bT (bG (aj (eC (.str "while")) (aj (aY (aa 0) (eC (.int 1))) (aj (aJ (dN n) (aj (aY (aa 0) (eC (.int 2))) ao)) ao)))))
  cV)
  (aK (cO (tT (aB eqP (aY (aa 0) (eC (.int 0))) (eC (.str "call"))) bA)
  (bT (bG (aj (eC (.str "call")) (aj (aY (aa 0) (eC (.int 1))) (aj (aY (aa 0) (eC (.int 2))) (aj (eB list1 (aj (aY (aa 0) (eC (.int 3))) ao)) ao))))))
  cV)
  (sV 0))))
def dN:Nat->GF
 | 0=>λ_ _=>none
 | n+1=>cH 1 (bT (dD (gH (aa 0) dj) 1 [] (aG 0) dh (aJ (jL n) (aj (aa 0) ao))))
end
def eV:Nat->GF
 | 0=>λ_ _=>none
 | n+1=>cH 10 (aK (aV 5 (bx ao))
  (aK (lu (gH (aa 3) dj) (aG 6)
  (aK (aV 7 (qx (aB eX (aa 4) (eB gZ (aj (aa 5) ao)))))
  (aK (zr 5 (bG (aj (aa 0) (aj (aa 1) (aj (aa 2) (aj (aJ (jL 40) (aj (aa 6) ao)) ao))))))
  (lu (xq (aJ jj (aj (aa 6) ao))) (fD 2 (aQ (aG 8) (aQ (aG 9) fC)))
  (nC 5 (aJ (eV n) (aj (aa 0) (aj (aa 7) (aj (aa 8) (aj (aa 9) (aj (qx (aB eX (aa 4) (eB gZ (aj (aa 5) ao)))) ao)))))))))))
  (sV 5)))
def vN:GF:=cH 6 (aK (aV 1 (bx ao))
 (aK (lu (gH (aY (aa 0) (eC (.int 2))) dj) (fD 4 (aQ (aG 2) (aQ (aG 3) (aQ (aG 4) (aQ (aG 5) fC)))))
 (nC 1 (aJ (eV 40) (aj (aa 2) (aj (eC .non) (aj (eC (.int 0)) (aj (aa 5) (aj (qx (eB gZ (aj (aa 1) ao))) ao))))))))
 (aK (nC 1 (aJ (eV 40) (aj (eC (.str "main")) (aj (eC .non) (aj (eC (.int 0)) (aj (aY (aa 0) (eC (.int 3))) (aj (qx (eB gZ (aj (aa 1) ao))) ao)))))))
 (sV 1))))
def um:GF:=cH 2 (bT (pB (tT (nD Bd oA (eC (.int 0)) (aa 1) (gm (aa 0))) bA) (bH (aa 0) (aa 1)) (eC (.int 0))))
def vP:GF:=cH 3 (aK (cO (tT (aB kI (aa 0) (eC (.str "+"))) bA)
 (bT (aB cI (aB eX (aa 1) (aa 2)) (eC qN)))
 cV)
 (aK (cO (tT (aB kI (aa 0) (eC (.str "-"))) bA)
 (bT (aB cI (aB w6 (aa 1) (aa 2)) (eC qN)))
 cV)
 (aK (cO (tT (aB kI (aa 0) (eC (.str "*"))) bA)
 (bT (aB cI (aB jw (aa 1) (aa 2)) (eC qN)))
 cV)
 (aK (cO (tT (aB kI (aa 0) (eC (.str "<"))) bA)
 (bT (pB (tT (aB oA (aa 1) (aa 2)) bA) (eC (.int 1)) (eC (.int 0))))
 cV)
 (bT (pB (tT (aB kI (aa 1) (aa 2)) bA) (eC (.int 1)) (eC (.int 0))))))))
def cX:Nat->GF
 | 0=>λ_ _=>none
 | n+1=>cH 2 (aK (cO (tT (aB kI (bH (aa 0) (eC (.int 0))) (eC (.str "num"))) bA)
  (bT (bH (aa 0) (eC (.int 1))))
  cV)
  (aK (cO (tT (aB kI (bH (aa 0) (eC (.int 0))) (eC (.str "box"))) bA)
  (bT (bH (aa 1) (bH (aa 0) (eC (.int 1)))))
  cV)
  (aK (cO (tT (aB kI (bH (aa 0) (eC (.int 0))) (eC (.str "@"))) bA)
  (bT (aJ um (aj (bH (aa 1) (bH (aa 0) (eC (.int 1)))) (aj (aJ (cX n) (aj (bH (aa 0) (eC (.int 2))) (aj (aa 1) ao))) ao))))
  cV)
  (bT (aJ vP (aj (bH (aa 0) (eC (.int 0))) (aj (aJ (cX n) (aj (bH (aa 0) (eC (.int 1))) (aj (aa 1) ao))) (aj (aJ (cX n) (aj (bH (aa 0) (eC (.int 2))) (aj (aa 1) ao))) ao))))))))
def gK:GF:=cH 1 (bT (gB (jx "int" (aa 0)) (gB (tU (jx "bool" (aa 0))) (nD Bd oA (eC (.int 0)) (aa 0) (eC qN)))))
def uN:GF:=cH 2 (aK (cO (tT (aB eqP (aa 0) (eC (.int 0))) bA)
 (bT (aJ gK (aj (aa 1) ao)))
 cV)
 (bT (gB (jx "list" (aa 1)) (gB (aB eqP (eB gZ (aj (aa 1) ao)) (aa 0)) (eB all1 (aj (dD (gH (aa 1) dj) 1 [] (aG 0) dh (aJ gK (aj (aa 0) ao))) ao))))))
def lK:GF:=cH 5 (aK (cO (wO (qu (tT (jx "list" (aa 1)) gW)) (tT (aB wX (eB gZ (aj (aa 1) ao)) (eB gZ (aj (aY (aa 0) (eC (.int 0))) ao))) bA))
 vD
 cV)
 (lu (Hj (aY (aa 0) (eC (.int 0))) (aa 1)) (fD 2 (aQ (aG 2) (aQ (aG 3) fC)))
 (aK (aV 4 (aY (aa 2) (eC (.int 0))))
 (cO (qu (tT (aJ uN (aj (aY (aa 2) (eC (.int 1))) (aj (aa 3) ao))) gW))
 vD
 cV))))
def rN:GF:=cH 5 (aK (aV 2 pG)
 (aK (lu (Hj (aY (aa 0) (eC (.int 0))) (aa 1)) (fD 2 (aQ (aG 3) (aQ (aG 4) fC)))
 (qC 2 (aY (aa 3) (eC (.int 0))) (pB (tT (jx "list" (aa 4)) gW) (bB (eB list1 (aj (aa 4) ao))) (aa 4))))
 (sV 2)))
def tG:GF:=cH 2 (bT (dD (gH (aY (aa 0) (eC (.int 0))) dj) 3 [1] (fD 3 (aQ (aG 0) (aQ (aG 1) (aQ (aG 2) fC)))) dh (aM (aa 3) (aa 0))))
def eY:GF:=cH 11 (aK (aV 2 (aJ vN (aj (aa 1) ao)))
 (aK (aV 3 Od)
 (aK (lu (xq (aa 2)) (fD 2 (aQ (aG 4) (aQ (aG 5) fC)))
 (eQ (yq 3 (Hi (aa 5) nq (nA (eC (.int 3))))) (aa 4)))
 (aK (aV 6 pG)
 (aK (lu (gH (aY (aa 1) (eC (.int 2))) dj) (fD 4 (aQ (aG 7) (aQ (aG 8) (aQ (aG 9) (aQ (aG 10) fC)))))
 (qC 6 (aa 7) (dD (gH (aa 9) dj) 2 [] (fD 2 (aQ (aG 0) (aQ (aG 1) fC))) dh (aa 0))))
 (aK (eU "Plan" "told" (aa 0) (aa 2))
 (aK (eU "Plan" "lists" (aa 0) (Hl (aa 3)))
 (eU "Plan" "heads" (aa 0) (aa 6)))))))))
def lF:GF:=cH 2 (bT (eB list1 (aj (vH (cj "Plan" "lists" (aa 0)) (bG (aj (aa 1) (aj (eC .non) (aj (eC (.int 0)) ao))))) ao)))
def iu:GF:=cH 2 (Fz (cj "Running" "due" (aa 0)) (dD (Fy (aa 1)) 1 [] (aG 0) dh (bG (aj (aa 0) (aj (eC (.int 0)) ao)))))
def kh:GF:=cH 3 (aK (aV 2 (cJ "Plan" "body" lF (cj "Running" "plan" (aa 0)) (aj (aa 1) ao)))
 (aK (cO (tT (aa 2) gW)
 (eQ (cj "Running" "due" (aa 0)) (bG (aj (aY (aa 2) (gh (eC (.int 1)))) (aj (eC (.int 3)) ao))))
 cV)
 (dC (cJ "Running" "lay" iu (aa 0) (aj (aa 2) ao)))))
def eN:GF:=cH 4 (aK (eU "Running" "plan" (aa 0) (sZ "Plan" eY (aj (aa 1) ao)))
 (aK (eU "Running" "boxes" (aa 0) (bB (aJ rN (aj (aa 1) (aj (aa 2) ao)))))
 (aK (eU "Running" "own" (aa 0) (bB (bx (aj (bB pG) ao))))
 (aK (eU "Running" "budget" (aa 0) (aa 3))
 (aK (eU "Running" "word" (aa 0) (eC (.str "done")))
 (aK (eU "Running" "moments" (aa 0) (bB (bx ao)))
 (aK (eU "Running" "due" (aa 0) (bB (bx ao)))
 (dC (cJ "Running" "lay_body" kh (aa 0) (aj (eC (.str "main")) ao))))))))))
def gM:GF:=cH 3 (bT (eB list1 (aj (vH (cj "Plan" "lists" (aa 0)) (bG (aj (aY (aY (cj "Plan" "told" (aa 0)) (aa 1)) (eC (.int 0))) (aj (aa 1) (aj (aa 2) ao))))) ao)))
def jY:GF:=cH 2 (bT (aY (aY (cj "Plan" "told" (aa 0)) (aa 1)) (eC (.int 3))))
def jg:GF:=cH 4 (aK (aV 3 (pB (tT (De (aa 1) (aY (cj "Running" "own" (aa 0)) (gh (eC (.int 1))))) bA) (aY (cj "Running" "own" (aa 0)) (gh (eC (.int 1)))) (cj "Running" "boxes" (aa 0))))
 (aK (jf (aa 3) (aa 1) (aa 2))
 (bT (bG (aj (aa 1) (aj (eC (.int 0)) (aj (aa 2) ao)))))))
def gn:GF:=cH 1 (aK (cO (tT (aB Bd (cj "Running" "budget" (aa 0)) (eC (.int 0))) bA)
 (aK (eU "Running" "word" (aa 0) (eC (.str "spent")))
 (aK (FJ (cj "Running" "due" (aa 0)))
 (bT (eC (.bl false)))))
 cV)
 (aK (eU "Running" "budget" (aa 0) (aB w6 (cj "Running" "budget" (aa 0)) (eC (.int 1))))
 (bT (eC (.bl true)))))
def c7:GF:=cH 3 (aK (aV 2 (xJ (cj "Running" "boxes" (aa 0))))
 (aK (yr 2 (aY (cj "Running" "own" (aa 0)) (gh (eC (.int 1)))))
 (bT (rC (aJ (cX 40) (aj (aa 1) (aj (aa 2) ao)))))))
def nW:GF:=cH 3 (cO (gG (tT (aB wX (cJ "Running" "value" c7 (aa 0) (aj (aY (aa 2) (eC (.int 1))) ao)) (eC (.int 0))) bA) (tT (cJ "Running" "spend" gn (aa 0) ao) gW))
 (aK (eQ (cj "Running" "due" (aa 0)) (bG (aj (aa 1) (aj (eC (.int 0)) ao))))
 (dC (cJ "Running" "lay" iu (aa 0) (aj (cJ "Plan" "block" gM (cj "Running" "plan" (aa 0)) (aj (aa 1) (aj (eC (.int 0)) ao))) ao))))
 cV)
def eE:GF:=cH 4 (eQ (cj "Running" "moments" (aa 0)) (bG (aj (aa 1) (aj (aa 2) (aj (aa 3) ao)))))
def iG:GF:=cH 3 (aK (aV 2 (cJ "Plan" "row" jY (cj "Running" "plan" (aa 0)) (aj (aa 1) ao)))
 (aK (dC (cJ "Running" "note" eE (aa 0) (aj (aa 1) (aj (eC (.int 0)) (aj (bB (bx ao)) ao)))))
 (cO (tT (aB eqP (aY (aa 2) (eC (.int 0))) (eC (.str "if"))) bA)
 (dC (cJ "Running" "lay" iu (aa 0) (aj (cJ "Plan" "block" gM (cj "Running" "plan" (aa 0)) (aj (aa 1) (aj (pB (tT (aB eqP (cJ "Running" "value" c7 (aa 0) (aj (aY (aa 2) (eC (.int 1))) ao)) (eC (.int 0))) bA) (eC (.int 1)) (eC (.int 0))) ao))) ao)))
 (cO (tT (aB eqP (aY (aa 2) (eC (.int 0))) (eC (.str "while"))) bA)
 (dC (cJ "Running" "look" nW (aa 0) (aj (aa 1) (aj (aa 2) ao))))
 (cO (tT (aB eqP (aY (aa 2) (eC (.int 0))) (eC (.str "call"))) bA)
 vD
 (cO (tT (aB eqP (aY (aa 2) (eC (.int 0))) (eC (.str "put"))) bA)
 vD
 (dC (cJ "Running" "note" eE (aa 0) (aj (aa 1) (aj (eC (.int 1)) (aj (bB (bx (aj (cJ "Running" "give" jg (aa 0) (aj (aY (aa 2) (eC (.int 1))) (aj (cJ "Running" "value" c7 (aa 0) (aj (aY (aa 2) (eC (.int 2))) ao)) ao))) ao))) ao)))))))))))
def fM:GF:=cH 2 (aK (aV 1 (tu (cj "Running" "due" (aa 0))))
 (cO (tT (aB eqP (aY (aa 1) (eC (.int 1))) (eC (.int 0))) bA)
 (dC (cJ "Running" "begin" iG (aa 0) (aj (aY (aa 1) (eC (.int 0))) ao)))
 (cO (tT (aB eqP (aY (aa 1) (eC (.int 1))) (eC (.int 2))) bA)
 vD
 (dC (cJ "Running" "note" eE (aa 0) (aj (aY (aa 1) (eC (.int 0))) (aj (aY (aa 1) (eC (.int 1))) (aj (bB (bx ao)) ao))))))))
def jB:GF:=cH 4 (aK (dC (rC (aJ lK (aj (aa 0) (aj (aa 1) ao)))))
 (aK (aV 3 (sZ "Running" eN (aj (aa 0) (aj (aa 1) (aj (aa 2) ao)))))
 (aK (lZ 1000 (Br (cj "Running" "due" (aa 3)))
 (dC (cJ "Running" "step" fM (aa 3) ao)))
 (sV 3))))
def ph:GF:=cH 5 (aK (aV 1 (bx ao))
 (aK (lu (gH (nJ (aa 0)) dj) (fD 3 (aQ (aG 2) (aQ (aG 3) (aQ (aG 4) fC))))
 (nC 1 (dD (gH (nJ (aa 4)) dj) 3 [2] (fD 3 (aQ (aG 0) (aQ (aG 1) (aQ (aG 2) fC)))) dh (bG (aj (aa 3) (aj (aa 0) (aj (aa 1) (aj (aa 2) ao))))))))
 (sV 1)))
def FN:GF:=cH 4 (aK (aV 3 (aJ jB (aj (aa 0) (aj (aa 1) (aj (aa 2) ao)))))
 (bT (bG (aj (cj "Running" "word" (aa 3)) (aj (aJ ph (aj (cj "Running" "moments" (aa 3)) ao)) (aj (aJ tG (aj (aa 0) (aj (cj "Running" "boxes" (aa 3)) ao))) ao))))))
def rO:GF:=cH 3 (bT (cj "Running" "moments" (aJ jB (aj (aa 0) (aj (aa 1) (aj (aa 2) ao))))))
def cT:GF:=cH 3 (aK (aV 2 (aB eX (aB eX (aB jw (aa 1) (aa 1)) (aB jw (eC (.int 11)) (aa 1))) (eC (.int 3))))
 (aK (cO (tT (aB qe (gm (aa 0)) (eC (.int 0))) bA)
 (aV 2 (aB eX (aB cI (bH (aa 0) (aB cI (aa 1) (gm (aa 0)))) (eC (.int 1000000000039))) (aB jw (aB dM (aa 1) (gm (aa 0))) (eC (.int 7907)))))
 cV)
 (bT (aB cI (aB eX (aB jw (aa 2) (eC (.int 69621))) (aB jw (aB dM (aa 1) (eB max2 (aj (eC (.int 1)) (aj (gm (aa 0)) ao)))) (eC (.int 40014)))) (eC (.int 2147483629))))))
def fX:GF:=cH 2 (aK (aV 1 (aB cI (aa 0) (eC (.int 4))))
 (aK (cO (tT (aB kI (aa 1) (eC (.int 0))) bA)
 (bT (aB cI (aB dM (aa 0) (eC (.int 4))) (eC (.int 6))))
 cV)
 (aK (cO (tT (aB kI (aa 1) (eC (.int 1))) bA)
 (bT (aB w6 (aB w6 (aB CP (eC (.int 10)) (eC (.int 12))) (eC (.int 1))) (aB cI (aB dM (aa 0) (eC (.int 4))) (eC (.int 4)))))
 cV)
 (aK (cO (tT (aB kI (aa 1) (eC (.int 2))) bA)
 (bT (aB eX (eC (.int 999997)) (aB cI (aB dM (aa 0) (eC (.int 4))) (eC (.int 7)))))
 cV)
 (bT (aB cI (aB jw (aa 0) (eC (.int 465661287))) (aB CP (eC (.int 10)) (eC (.int 12)))))))))
def cF:Nat->GF
 | 0=>λ_ _=>none
 | n+1=>cH 2 (aK (cO (tT (Rf ["list", "tuple"] (aa 1)) gW)
  (aK (cO (wO (tT (aB wX (jx "list" (aa 0)) (jx "list" (aa 1))) bA) (tT (aB wX (jx "tuple" (aa 0)) (jx "tuple" (aa 1))) bA))
  (bT (eC (.bl false)))
  cV)
  (bT (gB (aB eqP (eB gZ (aj (aa 0) ao)) (eB gZ (aj (aa 1) ao))) (eB all1 (aj (dD (gJ (aj (eB gZ (aj (aa 1) ao)) ao)) 1 [0,1] (aG 0) dh (aJ (cF n) (aj (aY (aa 1) (aa 0)) (aj (aY (aa 2) (aa 0)) ao)))) ao)))))
  cV)
  (aK (cO (tT (jx "str" (aa 1)) gW)
  (bT (gB (jx "str" (aa 0)) (aB eqP (aa 0) (aa 1))))
  cV)
  (aK (cO (tT (aB vy (aa 1) (eC .non)) bA)
  (bT (aB vy (aa 0) (eC .non)))
  cV)
  (bT (gB (jx "int" (aa 0)) (gB (tU (jx "bool" (aa 0))) (aB eqP (aa 0) (aa 1))))))))
def jZ:GF:=cH 2 (aK (cO (tT (aB eqP (aB cI (aa 0) (eC (.int 3))) (eC (.int 0))) bA)
 (bT (bG (aj (eC (.str "num")) (aj (aY (bx (aj (eC (.int 0)) (aj (eC (.int 1)) (aj (aJ fX (aj (aB nj (aa 0) (eC (.int 12))) ao)) (aj (aB cI (aB nj (aa 0) (eC (.int 12))) (eC (.int 4))) ao))))) (aB cI (aB nj (aa 0) (eC (.int 3))) (eC (.int 4)))) ao))))
 cV)
 (bT (bG (aj (eC (.str "box")) (aj (aY (aa 1) (aB cI (aB nj (aa 0) (eC (.int 3))) (eC (.int 3)))) ao)))))
def dH:GF:=cH 3 (aK (cO (tT (aB eqP (aB cI (aa 0) (eC (.int 3))) (eC (.int 0))) bA)
 (bT (aJ jZ (aj (aB nj (aa 0) (eC (.int 3))) (aj (aa 1) ao))))
 cV)
 (aK (aV 2 (aJ jZ (aj (aB cI (aB jw (aa 0) (eC (.int 48271))) (eC (.int 2147483563))) (aj (aa 1) ao))))
 (bT (bG (aj (aY (eC (.str "+-*<=")) (aB cI (aB nj (aa 0) (eC (.int 3))) (eC (.int 5)))) (aj (aa 2) (aj (aJ jZ (aj (aB cI (aB jw (aa 0) (eC (.int 16807))) (eC (.int 2147483587))) (aj (aa 1) ao))) ao)))))))
def dY:GF:=cH 2 (aK (cO (tT (aB kI (bH (aa 0) (eC (.int 0))) (eC (.str "num"))) bA)
 (bT (bH (aa 0) (eC (.int 1))))
 cV)
 (bT (aM (aa 1) (bH (aa 0) (eC (.int 1))))))
def iH:GF:=cH 5 (aK (cO (tT (aB Sw (bH (aa 0) (eC (.int 0))) (bG (aj (eC (.str "num")) (aj (eC (.str "box")) ao)))) bA)
 (bT (aJ dY (aj (aa 0) (aj (aa 1) ao))))
 cV)
 (aK (aV 2 (aJ dY (aj (bH (aa 0) (eC (.int 1))) (aj (aa 1) ao))))
 (aK (aV 3 (aJ dY (aj (bH (aa 0) (eC (.int 2))) (aj (aa 1) ao))))
 (aK (aV 4 (jH (bD (eC (.str "+")) (aB eX (aa 2) (aa 3)) (bD (eC (.str "-")) (aB w6 (aa 2) (aa 3)) (bD (eC (.str "*")) (aB jw (aa 2) (aa 3)) (bD (eC (.str "<")) (eB CZ (aj (aB oA (aa 2) (aa 3)) ao)) (bD (eC (.str "=")) (eB CZ (aj (aB kI (aa 2) (aa 3)) ao)) j7)))))))
 (bT (aB cI (bH (aa 4) (bH (aa 0) (eC (.int 0)))) (aB CP (eC (.int 10)) (eC (.int 12)))))))))
def j0:GF:=cH 5 (aK (aV 2 (aY (aM (aa 0) (eC (.str "levels"))) (gh (eC (.int 1)))))
 (aK (aV 3 (aB wX (aJ iH (aj (aa 1) (aj (aM (aa 0) (eC (.str "boxes"))) ao))) (eC (.int 0))))
 (aK (cO (tT (aM (aa 2) (eC (.str "live"))) gW)
 (eQ (aM (aa 0) (eC (.str "moments"))) (bG (aj (aM (aa 0) (eC (.str "many"))) (aj (eC (.int 0)) (aj (bx ao) ao)))))
 cV)
 (aK (aV 4 (bB (jH (bD (eC (.str "guard")) (aa 1) (bD (eC (.str "first")) (eC .non) (bD (eC (.str "rows")) (bB (bx ao)) (bD (eC (.str "number")) (aM (aa 0) (eC (.str "many"))) j7)))))))
 (aK (jf (aa 4) (eC (.str "live")) (gB (aM (aa 2) (eC (.str "live"))) (aa 3)))
 (aK (jf (aa 4) (eC (.str "other")) (gB (aM (aa 2) (eC (.str "live"))) (tU (aa 3))))
 (aK (eQ (aM (aa 0) (eC (.str "levels"))) (aa 4))
 (jf (aa 0) (eC (.str "many")) (aB eX (aM (aa 0) (eC (.str "many"))) (eC (.int 1)))))))))))
def fH:GF:=cH 4 (aK (aV 2 (aY (aM (aa 0) (eC (.str "levels"))) (gh (eC (.int 1)))))
 (aK (cO (gG (tT (aa 1) gW) (tT (aB vy (aM (aa 2) (eC (.str "first"))) (eC .non)) bA))
 (aK (jf (aa 2) (eC (.str "first")) (aM (aa 2) (eC (.str "rows"))))
 (aK (jf (aa 2) (eC (.str "rows")) (bB (bx ao)))
 (aK (jf (aa 2) (eC (.str "live")) (aM (aa 2) (eC (.str "other"))))
 Sq)))
 cV)
 (aK (dC (tu (aM (aa 0) (eC (.str "levels")))))
 (aK (aV 3 (aY (aM (aa 0) (eC (.str "levels"))) (gh (eC (.int 1)))))
 (aK (cO (tT (aB vy (aM (aa 2) (eC (.str "first"))) (eC .non)) bA)
 (eQ (aM (aa 3) (eC (.str "rows"))) (bG (aj (eC (.str "if")) (aj (aM (aa 2) (eC (.str "guard"))) (aj (aM (aa 2) (eC (.str "rows"))) (aj (bB (bx ao)) ao))))))
 (eQ (aM (aa 3) (eC (.str "rows"))) (bG (aj (eC (.str "if")) (aj (aM (aa 2) (eC (.str "guard"))) (aj (aM (aa 2) (eC (.str "first"))) (aj (aM (aa 2) (eC (.str "rows"))) ao)))))))
 (jf (aa 3) (eC (.str "last")) (aM (aa 2) (eC (.str "number")))))))))
def lL:GF:=cH 5 (aK (aV 3 (aY (aM (aa 0) (eC (.str "levels"))) (gh (eC (.int 1)))))
 (aK (eQ (aM (aa 3) (eC (.str "rows"))) (bG (aj (eC (.str "set")) (aj (aa 1) (aj (aa 2) ao)))))
 (aK (jf (aa 3) (eC (.str "last")) (aM (aa 0) (eC (.str "many"))))
 (aK (cO (tT (aM (aa 3) (eC (.str "live"))) gW)
 (aK (aV 4 (aJ iH (aj (aa 2) (aj (aM (aa 0) (eC (.str "boxes"))) ao))))
 (aK (eQ (aM (aa 0) (eC (.str "moments"))) (bG (aj (aM (aa 0) (eC (.str "many"))) (aj (eC (.int 0)) (aj (bx ao) ao)))))
 (aK (eQ (aM (aa 0) (eC (.str "moments"))) (bG (aj (aM (aa 0) (eC (.str "many"))) (aj (eC (.int 1)) (aj (bx (aj (bG (aj (aa 1) (aj (eC (.int 0)) (aj (aa 4) ao)))) ao)) ao)))))
 (jf (aM (aa 0) (eC (.str "boxes"))) (aa 1) (aa 4)))))
 cV)
 (jf (aa 0) (eC (.str "many")) (aB eX (aM (aa 0) (eC (.str "many"))) (eC (.int 1))))))))
def pq:GF:=cH 7 (aK (aV 3 (bB (jH (bD (eC (.str "levels")) (bB (bx (aj (bB (jH (bD (eC (.str "rows")) (bB (bx ao)) (bD (eC (.str "live")) (eC (.bl true)) (bD (eC (.str "last")) (gh (eC (.int 1))) j7))))) ao))) (bD (eC (.str "boxes")) (aa 2) (bD (eC (.str "moments")) (bB (bx ao)) (bD (eC (.str "many")) (eC (.int 0)) j7)))))))
 (aK (lu (gJ (aj (aB cI (aJ cT (aj (aa 0) (aj (eC (.int 0)) ao))) (eC (.int 37))) ao)) (aG 4)
 (aK (aV 5 (aJ cT (aj (aa 0) (aj (aB eX (eC (.int 4)) (aa 4)) ao))))
 (aK (aV 6 (aB cI (aa 5) (eC (.int 7))))
 (cO (gG (tT (aB oA (aa 6) (eC (.int 2))) bA) (tT (aB oA (gm (aM (aa 3) (eC (.str "levels")))) (eC (.int 5))) bA))
 (dC (aJ j0 (aj (aa 3) (aj (aJ dH (aj (aB dM (aa 5) (eC (.int 7))) (aj (aa 1) ao))) ao))))
 (cO (gG (tT (aB qe (aa 6) (eC (.int 3))) bA) (tT (aB qe (gm (aM (aa 3) (eC (.str "levels")))) (eC (.int 1))) bA))
 (dC (aJ fH (aj (aa 3) (aj (aB qe (aa 6) (eC (.int 4))) ao))))
 (dC (aJ lL (aj (aa 3) (aj (bH (aa 1) (aB cI (aB dM (aa 5) (eC (.int 7))) (eC (.int 3)))) (aj (aJ dH (aj (aB dM (aa 5) (eC (.int 21))) (aj (aa 1) ao))) ao))))))))))
 (aK (lZ 1000 (tT (aB qe (gm (aM (aa 3) (eC (.str "levels")))) (eC (.int 1))) bA)
 (dC (aJ fH (aj (aa 3) (aj (eC (.bl false)) ao)))))
 (aK (cO (tT (aB Sx (aM (bH (aM (aa 3) (eC (.str "levels"))) (eC (.int 0))) (eC (.str "last"))) (eC (.int 0))) bA)
 (eQ (aM (aa 3) (eC (.str "moments"))) (bG (aj (aM (bH (aM (aa 3) (eC (.str "levels"))) (eC (.int 0))) (eC (.str "last"))) (aj (eC (.int 3)) (aj (bx ao) ao)))))
 cV)
 (bT (Bp (aa 3)))))))
def Lp:GF:=cH 12 (aK (aV 1 (aB dM (aJ cT (aj (aa 0) (aj (eC (.int 0)) ao))) (eC (.int 37))))
 (aK (aV 2 (zA (zA (bx (aj (eC (.str "b")) (aj (eC (.str "ba")) (aj (eC (.str "bab")) (aj (eC (.str "a")) (aj (eC (.str "ab")) (aj (eC (.str "bb")) ao))))))) (nA (aB cI (aa 1) (eC (.int 4)))) nq) nq (nA (eC (.int 3)))))
 (aK (aV 3 (dD (gJ (aj (eC (.int 3)) ao)) 1 [0] (aG 0) dh (aJ fX (aj (aJ cT (aj (aa 1) (aj (aB eX (eC (.int 1)) (aa 0)) ao))) ao))))
 (aK (aV 4 (aJ pq (aj (aa 0) (aj (aa 2) (aj (bB (jH (bD (bH (aa 2) (eC (.int 0))) (bH (aa 3) (eC (.int 0))) (bD (bH (aa 2) (eC (.int 1))) (bH (aa 3) (eC (.int 1))) (bD (bH (aa 2) (eC (.int 2))) (bH (aa 3) (eC (.int 2))) j7))))) ao)))))
 (aK (aV 5 (bG (aj (dD (gH (aa 2) dj) 1 [] (aG 0) dh (bG (aj (aa 0) (aj (eC (.int 0)) (aj (eC .non) ao))))) (aj (bx ao) (aj (bx ao) (aj (bH (bH (bH (aa 4) (eC (.str "levels"))) (eC (.int 0))) (eC (.str "rows"))) ao))))))
 (aK (aV 6 (bx ao))
 (aK (lu (gH (bH (aa 4) (eC (.str "moments"))) dj) (fD 3 (aQ (aG 7) (aQ (aG 8) (aQ (aG 9) fC))))
 (nC 6 (dD (gH (aa 9) dj) 3 [7] (fD 3 (aQ (aG 0) (aQ (aG 1) (aQ (aG 2) fC)))) dh (bG (aj (aa 3) (aj (aa 0) (aj (aa 1) (aj (aa 2) ao))))))))
 (aK (aV 10 (bG (aj (eC (.str "done")) (aj (aa 6) (aj (dD (gH (aa 2) dj) 1 [4] (aG 0) dh (bH (bH (aa 1) (eC (.str "boxes"))) (aa 0))) ao)))))
 (aK (aV 11 (aJ FN (aj (aa 5) (aj (eB list1 (aj (aa 3) ao)) (aj (aB cI (aB dM (aa 1) (eC (.int 4))) (eC (.int 21))) ao)))))
 (bT (gB (my (cF 40) (aj (aa 11) (aj (aa 10) ao))) (my (cF 40) (aj (aJ rO (aj (aa 5) (aj (aa 3) (aj (aB cI (aB dM (aa 1) (eC (.int 4))) (eC (.int 21))) ao)))) (aj (bH (aa 4) (eC (.str "moments"))) ao))))))))))))))
variable {P:Program} {w:World} {K:FG} {mg:Str->Option Value} {base:Heap}
theorem yu {X:Cx} {pos:Pos} (h:∃t,X.mg "LIMIT" = some (.int 1000000000000 t)) (hg:Gl X "LIMIT"):PE X (.Name "LIMIT" pos) (tP X.K (eC qN)):=by obtain⟨t,h⟩:=h;exact qc (Tq (v:=.int 1000000000000) hg h ⟨_,rfl⟩) dO
abbrev BL:List Str:=["ValueError", "all", "bool", "dict", "enumerate", "int", "isinstance", "len", "list", "max", "range", "reversed", "str", "tuple", "zip"]
section
variable {mg:Str->Option Value} (B:Jx mg BL)
include B
theorem Xv:mg "ValueError" = none:=B _ (.head _)
theorem S7:mg "all" = none:=B _ (mI 1 rfl)
theorem Ol:mg "bool" = none:=B _ (mI 2 rfl)
theorem Xw:mg "dict" = none:=B _ (mI 3 rfl)
theorem yQ:mg "enumerate" = none:=B _ (mI 4 rfl)
theorem FP:mg "int" = none:=B _ (mI 5 rfl)
theorem cY:mg "isinstance" = none:=B _ (mI 6 rfl)
theorem iJ:mg "len" = none:=B _ (mI 7 rfl)
theorem lG:mg "list" = none:=B _ (mI 8 rfl)
theorem YT:mg "max" = none:=B _ (mI 9 rfl)
theorem Dh:mg "range" = none:=B _ (mI 10 rfl)
theorem Lq:mg "reversed" = none:=B _ (mI 11 rfl)
theorem S8:mg "str" = none:=B _ (mI 12 rfl)
theorem Di:mg "tuple" = none:=B _ (.tail _ (mI 12 rfl))
theorem S9:mg "zip" = none:=B _ (.tail _ (.tail _ (mI 12 rfl)))
end
section
variable (P:Program) (w:World) (K:FG) (mg:Str->Option Value) (base:Heap) (c:Addr)
abbrev rP:=bV P w K mg base "blocks_of" 1 ["row"] (bU K 1 jj)
abbrev Ej:=bV P w K mg base "copied" 40 ["row"] (bU K 1 (jL 40))
abbrev Vy:=bV P w K mg base "all_copied" 40 ["rows"] (bU K 1 (dN 40))
abbrev IK:=bV P w K mg base "laid_out" 80 ["where", "above", "block", "rows", "start"] (bU K 5 (eV 40))
abbrev yR:=bV P w K mg base "numbered" 81 ["program"] (bU K 1 vN)
abbrev rQ:=bV P w K mg base "number_at" 1 ["numbers", "place"] (bU K 2 um)
abbrev uo:=bV P w K mg base "reckoned" 1 ["sign", "one", "other"] (bU K 3 vP)
abbrev IV:=bV P w K mg base "value_of" 41 ["expression", "boxes"] (bU K 2 (cX 40))
abbrev uO:=bV P w K mg base "can_be_held" 1 ["thing"] (bU K 1 gK)
abbrev Hs:=bV P w K mg base "suits" 2 ["size", "thing"] (bU K 2 uN)
abbrev tH:=bV P w K mg base "refuse_input" 3 ["program", "values"] (bU K 2 lK)
abbrev Ek:=bV P w K mg base "filled" 1 ["program", "values"] (bU K 2 rN)
abbrev Bu:=bV P w K mg base "emptied" 1 ["program", "boxes"] (bU K 2 tG)
abbrev yF:=Li P w K mg base c 82 ["self", "program"] (bU K 2 eY)
abbrev wg:=oE P w K mg base c "body" 1 ["self", "name"] (bU K 2 lF)
abbrev kO:=oE P w K mg base c "lay" 1 ["self", "numbers"] (bU K 2 iu)
abbrev nY:=oE P w K mg base c "lay_body" 2 ["self", "name"] (bU K 2 kh)
abbrev vQ:=Li P w K mg base c 84 ["self", "program", "values", "budget"] (bU K 4 eN)
abbrev oU:=oE P w K mg base c "block" 1 ["self", "k", "which"] (bU K 3 gM)
abbrev xM:=oE P w K mg base c "row" 1 ["self", "k"] (bU K 2 jY)
abbrev rR:=oE P w K mg base c "give" 1 ["self", "name", "value"] (bU K 3 jg)
abbrev qj:=oE P w K mg base c "spend" 1 ["self"] (bU K 1 gn)
abbrev lR:=oE P w K mg base c "value" 42 ["self", "expression"] (bU K 2 c7)
abbrev rT:=oE P w K mg base c "look" 43 ["self", "k", "row"] (bU K 3 nW)
abbrev mW:=oE P w K mg base c "note" 1 ["self", "k", "time", "events"] (bU K 4 eE)
abbrev ql:=oE P w K mg base c "begin" 44 ["self", "k"] (bU K 2 iG)
abbrev rW:=oE P w K mg base c "step" 45 ["self"] (bU K 1 fM)
abbrev nZ:=bV P w K mg base "gone_through" 86 ["program", "values", "budget"] (bU K 3 jB)
abbrev xN:=bV P w K mg base "record_of" 1 ["moments"] (bU K 1 ph)
abbrev Om:=bV P w K mg base "run" 87 ["program", "values", "budget"] (bU K 3 FN)
abbrev El:=bV P w K mg base "traced" 87 ["program", "values", "budget"] (bU K 3 rO)
abbrev rY:=bV P w K mg base "_law_cell" 1 ["_law_script", "_law_k"] (bU K 2 cT)
abbrev oV:=bV P w K mg base "_law_number" 1 ["_law_cell_here"] (bU K 1 fX)
abbrev Fe:=bV P w K mg base "_law_alike" 40 ["_law_got", "_law_due"] (bU K 2 (cF 40))
abbrev xO:=bV P w K mg base "_law_leaf" 2 ["_law_cell_here", "_law_nums"] (bU K 2 jZ)
abbrev pK:=bV P w K mg base "_law_expression" 3 ["_law_cell_here", "_law_nums"] (bU K 2 dH)
abbrev pL:=bV P w K mg base "_law_leaf_worth" 1 ["_law_e", "_law_boxes"] (bU K 2 dY)
abbrev pX:=bV P w K mg base "_law_worth" 2 ["_law_e", "_law_boxes"] (bU K 2 iH)
abbrev xP:=bV P w K mg base "_law_open" 3 ["_law_state", "_law_guard"] (bU K 2 j0)
abbrev xQ:=bV P w K mg base "_law_shut" 1 ["_law_state", "_law_with_else"] (bU K 2 fH)
abbrev yS:=bV P w K mg base "_law_set" 3 ["_law_state", "_law_name", "_law_e"] (bU K 3 lL)
abbrev xR:=bV P w K mg base "_law_laid" 4 ["_law_script", "_law_nums", "_law_boxes"] (bU K 3 pq)
end
variable (B:Jx mg BL) (aco:∃t,mg "LIMIT" = some (.int 1000000000000 t)) {acw:Addr} (acp:tV K mg "Plan" acw) (acq:∀f∈(["told", "lists", "heads"]:List Str),jr K acw f) {acr:Addr} (acl:tV K mg "Running" acr) (acn:∀f∈(["plan", "boxes", "own", "budget", "word", "moments", "due"]:List Str),jr K acr f) (hkx:HK.hk=Av P w)
include B aco acp acq acl acn hkx
theorem Ht (F:cN K mg "blocks_of" tW ["row"]):rP P w K mg base:=
 F.ok (k:=0) Hn λf cdv A outer s H E hr=>⟨_,λ_ _=>rfl,(az (cC (bZ (fj hr) fu (qI (qw 0)) aX (aZ _))
  (aC (bj (fB (ak (qI (qw 0)) (ak (qI (qw 0)) aq)))))
  bO)
  (az (cC (bZ (fj hr) fu (qI (qw 0)) aX (aZ _))
  (aC (bj (fB (ak (qI (qw 0)) aq))))
  bO)
  (aC (bj (fB aq)))))⟩
theorem Oo {n:Nat} (F:cN K mg "copied" vI ["row"]) (acS:bV P w K mg base "all_copied" (0+n) ["rows"] (bU K 1 (dN n))):bV P w K mg base "copied" (0+n+1) ["row"] (bU K 1 (jL (n+1))):=
 F.ok (k:=0+n) Oh λf cdv A outer s H E hr=>⟨_,λ_ _=>rfl,(az (cC (bZ (fj hr) fu (qI (qw 0)) aX (aZ _))
  (aC (bj (fJ (ak aX (ak (qI (qw 0)) (ak (bM acS (hr.mono (by omega)) rfl (ak (qI (qw 0)) aq) (au aP)) (ak (bM acS (hr.mono (by omega)) rfl (ak (qI (qw 0)) aq) (au aP)) aq)))))))
  bO)
  (az (cC (bZ (fj hr) fu (qI (qw 0)) aX (aZ _))
  (aC (bj (fJ (ak aX (ak (qI (qw 0)) (ak (bM acS (hr.mono (by omega)) rfl (ak (qI (qw 0)) aq) (au aP)) aq))))))
  bO)
  (az (cC (bZ (fj hr) fu (qI (qw 0)) aX (aZ _))
  (aC (bj (fJ (ak aX (ak (qI (qw 0)) (ak (qI (qw 0)) (ak (PE.imp (jC lg (by rfl) (lG B) (by kernel_rfl) (ak (qI (qw 0)) aq)) (pC uG)) aq)))))))
  bO)
  (aC (qM (pv 0))))))⟩
theorem Ff {n:Nat} (F:cN K mg "all_copied" lB ["rows"]) (acK:bV P w K mg base "copied" (0+n) ["row"] (bU K 1 (jL n))):bV P w K mg base "all_copied" (0+n+1) ["rows"] (bU K 1 (dN (n+1))):=
 F.ok (k:=0+n) EY λf cdv A outer s H E hr=>⟨_,λ_ _=>rfl,(aC (bj (oX ["row"] [] [] rfl (xH (aF lB)) (jy (qw 0)) (λ_ _ _ _=>(fG 0 (show (["row"]:List Str).Nodup from by decide +kernel))) bw (λ_ _ _ _=>iC) (λ_ _ _ _=>(bM acK (hr.mono (by omega)) rfl (ak (qw 0) aq) (au aP))))))⟩
theorem Bv (adg:cN K mg "copied" vI ["row"]) (acY:cN K mg "all_copied" lB ["rows"]):∀n:Nat,bV P w K mg base "copied" (0+n) ["row"] (bU K 1 (jL n))/\bV P w K mg base "all_copied" (0+n) ["rows"] (bU K 1 (dN n))
 | 0=>⟨uI adg,uI acY⟩
 | n+1=>by have ih:=Bv adg acY n;exact⟨Oo B aco acp acq acl acn hkx adg ih.2,Ff B aco acp acq acl acn hkx acY ih.1⟩
theorem IW {n:Nat} (F:cN K mg "laid_out" qD ["where", "above", "block", "rows", "start"]) (acG:rP P w K mg base) (acK:Ej P w K mg base) (acL:bV P w K mg base "laid_out" (40+n) ["where", "above", "block", "rows", "start"] (bU K 5 (eV n))):bV P w K mg base "laid_out" (40+n+1) ["where", "above", "block", "rows", "start"] (bU K 5 (eV (n+1))):=
 F.ok (k:=40+n) jW λf cdv A outer s H E hr=>⟨_,λ_ _=>rfl,(az (fL 5 jW.nd (fB aq))
  (az (lX aa7 rfl (jy (qw 3)) (fG 6 jW.nd) bw
  (az (fL 7 jW.nd (Fw (bY ik il (qw 4) (qL (iJ B) (qw 5)))))
  (az (Z5 (pv 5) (fJ (ak (qw 0) (ak (qw 1) (ak (qw 2) (ak (bM acK (hr.mono (by omega)) rfl (ak (qw 6) aq) (au aP)) aq))))))
  (aC (lX aa7 rfl (Jz rfl (yQ B) (ak (bM acG (hr.mono (by omega)) rfl (ak (qw 6) aq) (au aP)) aq)) (jN rfl (bF (fG 8 jW.nd) (bF (fG 9 jW.nd) iT))) (jO (bQ bw (bQ bw jM)))
  (aC (Hm (pv 5) (bM acL (hr.mono (by omega)) rfl (ak (qw 0) (ak (qw 7) (ak (qw 8) (ak (qw 9) (ak (Fw (bY ik il (qw 4) (qL (iJ B) (qw 5)))) aq))))) (au (au (au (au (au aP)))))))))))))
  (aC (qM (pv 5)))))⟩
theorem xT (ac5:cN K mg "laid_out" qD ["where", "above", "block", "rows", "start"]) (acG:rP P w K mg base) (acK:Ej P w K mg base):∀n:Nat,bV P w K mg base "laid_out" (40+n) ["where", "above", "block", "rows", "start"] (bU K 5 (eV n))
 | 0=>uI ac5
 | n+1=>by have ih:=xT ac5 acG acK n;exact IW B aco acp acq acl acn hkx ac5 acG acK ih
theorem Ja (F:cN K mg "numbered" vJ ["program"]) (acL:IK P w K mg base):yR P w K mg base:=
 F.ok (k:=80) jX λf cdv A outer s H E hr=>⟨_,λ_ _=>rfl,(az (fL 1 jX.nd (fB aq))
  (az (lX aa7 rfl (jy (qI (qw 0))) (jN rfl (bF (fG 2 jX.nd) (bF (fG 3 jX.nd) (bF (fG 4 jX.nd) (bF (fG 5 jX.nd) iT))))) (jO (bQ bw (bQ bw (bQ bw (bQ bw jM)))))
  (aC (Hm (pv 1) (bM acL (hr.mono (by omega)) rfl (ak (qw 2) (ak Bq (ak aO (ak (qw 5) (ak (Fw (qL (iJ B) (qw 1))) aq))))) (au (au (au (au (au aP)))))))))
  (az (Hm (pv 1) (bM acL (hr.mono (by omega)) rfl (ak aX (ak Bq (ak aO (ak (qI (qw 0)) (ak (Fw (qL (iJ B) (qw 1))) aq))))) (au (au (au (au (au aP)))))))
  (aC (qM (pv 1))))))⟩
theorem Hu (F:cN K mg "number_at" tX ["numbers", "place"]):rQ P w K mg base:=
 F.ok (k:=0) Ho λf cdv A outer s H E hr=>⟨_,λ_ _=>rfl,(aC (bj (Jq (Uy Ks yd G7 uD aO (qw 1) (xG (cD jh (by rfl) (iJ B) abf (ak (qw 0) aq)))) (fW (aL hr) (qw 0) (qw 1) (λ_ _=>rfl)) aO)))⟩
theorem Jb (F:cN K mg "reckoned" vK ["sign", "one", "other"]):uo P w K mg base:=
 F.ok (k:=0) Iz λf cdv A outer s H E hr=>⟨_,λ_ _=>rfl,(az (cC (bZ (jz hr) ir (qw 0) aX (aZ _))
  (aC (bj (bY dw cP (bY ik il (qw 1) (qw 2)) (yu aco rfl))))
  bO)
  (az (cC (bZ (jz hr) ir (qw 0) aX (aZ _))
  (aC (bj (bY dw cP (bY wy uE (qw 1) (qw 2)) (yu aco rfl))))
  bO)
  (az (cC (bZ (jz hr) ir (qw 0) aX (aZ _))
  (aC (bj (bY dw cP (bY lV jV (qw 1) (qw 2)) (yu aco rfl))))
  bO)
  (az (cC (bZ (jz hr) ir (qw 0) aX (aZ _))
  (aC (bj (Jq (bZ yd uD (qw 1) (qw 2) (aZ _)) aO aO)))
  bO)
  (aC (bj (Jq (bZ (jz hr) ir (qw 1) (qw 2) (aZ _)) aO aO)))))))⟩
theorem Jc {n:Nat} (F:cN K mg "value_of" qF ["expression", "boxes"]) (acH:rQ P w K mg base) (acM:uo P w K mg base) (acF:bV P w K mg base "value_of" (1+n) ["expression", "boxes"] (bU K 2 (cX n))):bV P w K mg base "value_of" (1+n+1) ["expression", "boxes"] (bU K 2 (cX (n+1))):=
 F.ok (k:=1+n) Iw λf cdv A outer s H E hr=>⟨_,λ_ _=>rfl,(az (cC (bZ (jz hr) ir (fW (aL hr) (qw 0) aO (λ_ _=>rfl)) aX (aZ _))
  (aC (bj (fW (aL hr) (qw 0) aO (λ_ _=>rfl))))
  bO)
  (az (cC (bZ (jz hr) ir (fW (aL hr) (qw 0) aO (λ_ _=>rfl)) aX (aZ _))
  (aC (bj (fW (aL hr) (qw 1) (fW (aL hr) (qw 0) aO (λ_ _=>rfl)) (λ_ _=>rfl))))
  bO)
  (az (cC (bZ (jz hr) ir (fW (aL hr) (qw 0) aO (λ_ _=>rfl)) aX (aZ _))
  (aC (bj (bM acH (hr.mono (by omega)) rfl (ak (fW (aL hr) (qw 1) (fW (aL hr) (qw 0) aO (λ_ _=>rfl)) (λ_ _=>rfl)) (ak (bM acF (hr.mono (by omega)) rfl (ak (fW (aL hr) (qw 0) aO (λ_ _=>rfl)) (ak (qw 1) aq)) (au (au aP))) aq)) (au (au aP)))))
  bO)
  (aC (bj (bM acM (hr.mono (by omega)) rfl (ak (fW (aL hr) (qw 0) aO (λ_ _=>rfl)) (ak (bM acF (hr.mono (by omega)) rfl (ak (fW (aL hr) (qw 0) aO (λ_ _=>rfl)) (ak (qw 1) aq)) (au (au aP))) (ak (bM acF (hr.mono (by omega)) rfl (ak (fW (aL hr) (qw 0) aO (λ_ _=>rfl)) (ak (qw 1) aq)) (au (au aP))) aq))) (au (au (au aP)))))))))⟩
theorem xU (ac6:cN K mg "value_of" qF ["expression", "boxes"]) (acH:rQ P w K mg base) (acM:uo P w K mg base):∀n:Nat,bV P w K mg base "value_of" (1+n) ["expression", "boxes"] (bU K 2 (cX n))
 | 0=>uI ac6
 | n+1=>by have ih:=xU ac6 acH acM n;exact Jc B aco acp acq acl acn hkx ac6 acH acM ih
theorem Dj (F:cN K mg "can_be_held" pR ["thing"]):uO P w K mg base:=
 F.ok (k:=0) Df λf cdv A outer s H E hr=>⟨_,λ_ _=>rfl,(aC (bj (qY (uH (cD dG (by rfl) (cY B) (by kernel_rfl) (b8 (qw 0) (b8 (gf (v:=.ty "int") (u:=.type "int") rfl (FP B) (by kernel_rfl) rfl) gP)))) (qY (QR (uH (cD dG (by rfl) (cY B) (by kernel_rfl) (b8 (qw 0) (b8 (gf (v:=.ty "bool") (u:=.type "bool") rfl (Ol B) (by kernel_rfl) rfl) gP))))) (wQ (Xa Ks yd G7 uD aO (qw 0) (yu aco rfl)))))))⟩
theorem Rj (F:cN K mg "suits" yt ["size", "thing"]) (acO:uO P w K mg base):Hs P w K mg base:=
 F.ok (k:=1) Ri λf cdv A outer s H E hr=>⟨_,λ_ _=>rfl,(az (cC (bZ (fj hr) fu (qw 0) aO (aZ _))
  (aC (bj (bM acO (hr.mono (by omega)) rfl (ak (qw 1) aq) (au aP))))
  bO)
  (aC (bj (qY (uH (cD dG (by rfl) (cY B) (by kernel_rfl) (b8 (qw 1) (b8 (gf (v:=.ty "list") (u:=.type "list") rfl (lG B) (by kernel_rfl) rfl) gP)))) (qY (vh (fj hr) fu (qL (iJ B) (qw 1)) (qw 0) (aZ _)) (wQ (Be (vB rfl) NP (cD (vB rfl) (by rfl) (S7 B) (by kernel_rfl) (ak (oX ["part"] [] [] rfl (xH (aF yt)) (jy (qw 1)) (λ_ _ _ _=>(fG 0 (show (["part"]:List Str).Nodup from by decide +kernel))) bw (λ_ _ _ _=>iC) (λ_ _ _ _=>(bM acO (hr.mono (by omega)) rfl (ak (qw 0) aq) (au aP)))) aq)))))))))⟩
theorem Bw (F:cN K mg "refuse_input" oO ["program", "values"]) (adu:Hs P w K mg base):tH P w K mg base:=
 F.ok (k:=2) kJ λf cdv A outer s H E hr=>⟨_,λ_ _=>rfl,(az (cC (PW.pt (Sd (Nr (lW (uH (cD dG (by rfl) (cY B) (by kernel_rfl) (b8 (qw 1) (b8 (gf (v:=.ty "list") (u:=.type "list") rfl (lG B) (by kernel_rfl) rfl) gP)))) (λ_=>rfl))) (Nq (bZ (wW hr) wY (qL (iJ B) (qw 1)) (qL (iJ B) (qI (qw 0))) (aZ _)))))
  (aC uK)
  bO)
  (aC (lX aa7 rfl (JF rfl (S9 B) (ak (qI (qw 0)) (ak (qw 1) aq))) (jN rfl (bF (fG 2 kJ.nd) (bF (fG 3 kJ.nd) iT))) (jO (bQ bw (bQ bw jM)))
  (az (fL 4 kJ.nd (qI (qw 2)))
  (aC (cC (Nr (lW (bM adu (hr.mono (by omega)) rfl (ak (qI (qw 2)) (ak (qw 3) aq)) (au (au aP))) (λ_=>rfl)))
  (aC uK)
  bO))))))⟩
theorem Oq (F:cN K mg "filled" zF ["program", "values"]):Ek P w K mg base:=
 F.ok (k:=0) tD λf cdv A outer s H E hr=>⟨_,λ_ _=>rfl,(az (fL 2 tD.nd Hc)
  (az (lX aa7 rfl (JF rfl (S9 B) (ak (qI (qw 0)) (ak (qw 1) aq))) (jN rfl (bF (fG 3 tD.nd) (bF (fG 4 tD.nd) iT))) (jO (bQ bw (bQ bw jM)))
  (aC (JB (jq (Jq (lW (uH (cD dG (by rfl) (cY B) (by kernel_rfl) (b8 (qw 4) (b8 (gf (v:=.ty "list") (u:=.type "list") rfl (lG B) (by kernel_rfl) rfl) gP)))) (λ_=>rfl)) (ie (PE.imp (jC lg (by rfl) (lG B) (by kernel_rfl) (ak (qw 4) aq)) (pC uG))) (qw 4)) (jo (pv 2) (qI (qw 3)) (set_dict (aL hr)))))))
  (aC (qM (pv 2)))))⟩
theorem Lr (F:cN K mg "emptied" tB ["program", "boxes"]):Bu P w K mg base:=
 F.ok (k:=0) Ln λf cdv A outer s H E hr=>⟨_,λ_ _=>rfl,(aC (bj (oX ["name", "size", "rank"] ["boxes"] [1] rfl (xH (aF tB)) (jy (qI (qw 0))) (λ_ _ _ _=>(jN rfl (bF (fG 0 (show (["name", "size", "rank", "boxes"]:List Str).Nodup from by decide +kernel)) (bF (fG 1 (show (["name", "size", "rank", "boxes"]:List Str).Nodup from by decide +kernel)) (bF (fG 2 (show (["name", "size", "rank", "boxes"]:List Str).Nodup from by decide +kernel)) iT))))) (jO (bQ bw (bQ bw (bQ bw jM)))) (λ_ _ _ _=>iC) (λ_ _ _ _=>(cQ (aL hr) (qw 3) (qw 0) (λ_ _=>rfl))))))⟩
theorem yG (F:pH K acw "__init__" "Plan.__init__" jK ["self", "program"]) (ac7:yR P w K mg base):oE P w K mg base acw "__init__" 82 ["self", "program"] (bU K 2 eY):=
 F.ok (k:=81) cR λf cdv A outer s H E hr=>⟨_,λ_ _=>rfl,(az (fL 2 cR.nd (bM ac7 (hr.mono (by omega)) rfl (ak (qw 1) aq) (au aP)))
  (az (fL 3 cR.nd (Xo (by exact hkx)))
  (az (lX aa7 rfl (Jz rfl (yQ B) (ak (qw 2) aq)) (jN rfl (bF (fG 4 cR.nd) (bF (fG 5 cR.nd) iT))) (jO (bQ bw (bQ bw jM)))
  (aC (iW (eF (jD aaE aaN aaO d8 (YQ (by exact hkx) (Gu PySem.F.slot_dict_setdefault PySem.F.type_dict_setdefault (Np (aL hr)) (pv 3) (ak (UT (qw 5) CT (CV aO)) (ak (fB aq) aq)))) (ak (qw 4) aq))))))
  (az (fL 6 cR.nd Hc)
  (az (lX aa7 rfl (jy (qI (qw 1))) (jN rfl (bF (fG 7 cR.nd) (bF (fG 8 cR.nd) (bF (fG 9 cR.nd) (bF (fG 10 cR.nd) iT))))) (jO (bQ bw (bQ bw (bQ bw (bQ bw jM)))))
  (aC (JB (jq (oX ["param", "known"] [] [] rfl (xH (aF jK)) (jy (qw 9)) (λ_ _ _ _=>(jN rfl (bF (fG 0 (show (["param", "known"]:List Str).Nodup from by decide +kernel)) (bF (fG 1 (show (["param", "known"]:List Str).Nodup from by decide +kernel)) iT)))) (jO (bQ bw (bQ bw jM))) (λ_ _ _ _=>iC) (λ_ _ _ _=>(qw 0))) (jo (pv 6) (qw 7) (set_dict (aL hr)))))))
  (az (iY acp (acq _ (.head _)) (qw 0) (qw 2))
  (az (iY acp (acq _ (mI 1 rfl)) (qw 0) (Xp (qw 3)))
  (aC (iY acp (acq _ (mI 2 rfl)) (qw 0) (qw 6))))))))))⟩
theorem Fg (F:pH K acw "body" "Plan.body" rG ["self", "name"]):wg P w K mg base acw:=
 F.ok (k:=0) Fd λf cdv A outer s H E hr=>⟨_,λ_ _=>rfl,(aC (bj (PE.imp (jC lg (by rfl) (lG B) (by kernel_rfl) (ak (S6 (by exact hkx) (Gu PySem.F.slot_dict_get PySem.F.type_dict_get (Jo (aL hr)) (gF acp (acq _ (mI 1 rfl)) (qw 0)) (ak (fJ (ak (qw 1) (ak Bq (ak aO aq)))) (ak (fB aq) aq)))) aq)) (pC uG))))⟩
theorem Bx (F:pH K acr "lay" "Running.lay" lJ ["self", "numbers"]):kO P w K mg base acr:=
 F.ok (k:=0) Bt λf cdv A outer s H E hr=>⟨_,λ_ _=>rfl,(aC (U3 (eF (jD aaE PySem.F.slot_list_extend PySem.F.type_list_extend Aq (gF acl (acn _ (mI 6 rfl)) (qw 0)) (ak (oX ["k"] [] [] rfl (xH (aF lJ)) (Xj rfl (Lq B) (ak (qw 1) aq)) (λ_ _ _ _=>(fG 0 (show (["k"]:List Str).Nodup from by decide +kernel))) bw (λ_ _ _ _=>iC) (λ_ _ _ _=>(fJ (ak (qw 0) (ak aO aq))))) aq)))))⟩
theorem vR (F:pH K acr "lay_body" "Running.lay_body" j9 ["self", "name"]) (acZ:wg P w K mg base acw) (acs:kO P w K mg base acr):nY P w K mg base acr:=
 F.ok (k:=1) nU λf cdv A outer s H E hr=>⟨_,λ_ _=>rfl,(az (fL 2 nU.nd (je acp acZ (hr.mono (by omega)) (gF acl (acn _ (.head _)) (qw 0)) (ak (qw 1) aq) (fK (au aP))))
  (az (cC (lW (qw 2) (λ_=>rfl))
  (aC (iW (eF (jD aaE aaN aaO d8 (gF acl (acn _ (mI 6 rfl)) (qw 0)) (ak (fJ (ak (lN (qw 2) (vC aO) (λ_ _=>rfl)) (ak aO aq))) aq)))))
  bO)
  (aC (fP (je acl acs (hr.mono (by omega)) (qw 0) (ak (qw 2) aq) (fK (au aP)))))))⟩
theorem vU (F:pH K acr "__init__" "Running.__init__" j8 ["self", "program", "values", "budget"]) (acP:yF P w K mg base acw) (acI:nY P w K mg base acr) (adh:Ek P w K mg base):oE P w K mg base acr "__init__" 84 ["self", "program", "values", "budget"] (bU K 4 eN):=
 F.ok (k:=83) vM λf cdv A outer s H E hr=>⟨_,λ_ _=>rfl,(az (iY acl (acn _ (.head _)) (qw 0) (SN acp acP (hr.mono (by omega)) rfl (ak (qw 1) aq) (fK (au aP))))
  (az (iY acl (acn _ (mI 1 rfl)) (qw 0) (ie (bM adh (hr.mono (by omega)) rfl (ak (qw 1) (ak (qw 2) aq)) (au (au aP)))))
  (az (iY acl (acn _ (mI 2 rfl)) (qw 0) (ie (@fB _ _ _ _ (@Og _ _ _ _ _ _ _ (ie Hc) aq))))
  (az (iY acl (acn _ (mI 3 rfl)) (qw 0) (qw 3))
  (az (iY acl (acn _ (mI 4 rfl)) (qw 0) aX)
  (az (iY acl (acn _ (mI 5 rfl)) (qw 0) (ie (fB aq)))
  (az (iY acl (acn _ (mI 6 rfl)) (qw 0) (ie (fB aq)))
  (aC (fP (je acl acI (hr.mono (by omega)) (qw 0) (ak aX aq) (fK (au aP))))))))))))⟩
theorem Dk (F:pH K acw "block" "Plan.block" pW ["self", "k", "which"]):oU P w K mg base acw:=
 F.ok (k:=0) Dg λf cdv A outer s H E hr=>⟨_,λ_ _=>rfl,(aC (bj (PE.imp (jC lg (by rfl) (lG B) (by kernel_rfl) (ak (S6 (by exact hkx) (Gu PySem.F.slot_dict_get PySem.F.type_dict_get (Jo (aL hr)) (gF acp (acq _ (mI 1 rfl)) (qw 0)) (ak (fJ (ak (qI (lN (gF acp (acq _ (.head _)) (qw 0)) (qw 1) (λ_ _=>rfl))) (ak (qw 1) (ak (qw 2) aq)))) (ak (fB aq) aq)))) aq)) (pC uG))))⟩
theorem Hv (F:pH K acw "row" "Plan.row" uf ["self", "k"]):xM P w K mg base acw:=
 F.ok (k:=0) Hr λf cdv A outer s H E hr=>⟨_,λ_ _=>rfl,(aC (bj (qI (lN (gF acp (acq _ (.head _)) (qw 0)) (qw 1) (λ_ _=>rfl)))))⟩
theorem zK (F:pH K acr "give" "Running.give" nQ ["self", "name", "value"]):rR P w K mg base acr:=
 F.ok (k:=0) rM λf cdv A outer s H E hr=>⟨_,λ_ _=>rfl,(az (fL 3 rM.nd (Jq (Z6 (aL hr) (qw 1) (lN (gF acl (acn _ (mI 2 rfl)) (qw 0)) (vC aO) (λ_ _=>rfl)) (by with_unfolding_all rfl)) (lN (gF acl (acn _ (mI 2 rfl)) (qw 0)) (vC aO) (λ_ _=>rfl)) (gF acl (acn _ (mI 1 rfl)) (qw 0))))
  (az (jA (jq (qw 2) (jo (qw 3) (qw 1) (set_dict (aL hr)))))
  (aC (bj (fJ (ak (qw 1) (ak aO (ak (qw 2) aq))))))))⟩
theorem yH (F:pH K acr "spend" "Running.spend" mU ["self"]):qj P w K mg base acr:=
 F.ok (k:=0) yE λf cdv A outer s H E hr=>⟨_,λ_ _=>rfl,(az (cC (bZ Ks G7 (gF acl (acn _ (mI 3 rfl)) (qw 0)) aO (aZ _))
  (az (iY acl (acn _ (mI 4 rfl)) (qw 0) aX)
  (az (U4 (eF (Gp aaE PySem.F.slot_list_clear PySem.F.type_list_clear Qv (gF acl (acn _ (mI 6 rfl)) (qw 0)))))
  (aC (bj (qc zW dW)))))
  bO)
  (az (iY acl (acn _ (mI 3 rfl)) (qw 0) (bY wy uE (gF acl (acn _ (mI 3 rfl)) (qw 0)) aO))
  (aC (bj (qc zW dW)))))⟩
theorem yI (F:pH K acr "value" "Running.value" mR ["self", "expression"]) (acF:IV P w K mg base):lR P w K mg base acr:=
 F.ok (k:=41) qg λf cdv A outer s H E hr=>⟨_,λ_ _=>rfl,(az (fL 2 qg.nd (Xr (jC Gv (by rfl) (Xw B) (by kernel_rfl) (ak (gF acl (acn _ (mI 1 rfl)) (qw 0)) aq))))
  (az (U0 (eF (Um (pv 2) (lN (gF acl (acn _ (mI 2 rfl)) (qw 0)) (vC aO) (λ_ _=>rfl)) ⟨rfl,rfl,rfl,rfl⟩)))
  (aC (bj (N8 (bM acF (hr.mono (by omega)) rfl (ak (qw 1) (ak (qw 2) aq)) (au (au aP))))))))⟩
theorem zM (F:pH K acr "look" "Running.look" nR ["self", "k", "row"]) (acA:oU P w K mg base acw) (acs:kO P w K mg base acr) (acQ:qj P w K mg base acr) (acu:lR P w K mg base acr):rT P w K mg base acr:=
 F.ok (k:=42) zJ λf cdv A outer s H E hr=>⟨_,λ_ _=>rfl,(aC (cC (PW.pt (Ax (bZ (wW hr) wY (je acl acu (hr.mono (by omega)) (qw 0) (ak (qI (qw 2)) aq) (fK (au aP))) aO (aZ _)) (yh (lW (N7 acl acQ (hr.mono (by omega)) (qw 0) rfl) (λ_=>rfl)))))
  (az (iW (eF (jD aaE aaN aaO d8 (gF acl (acn _ (mI 6 rfl)) (qw 0)) (ak (fJ (ak (qw 1) (ak aO aq))) aq))))
  (aC (fP (je acl acs (hr.mono (by omega)) (qw 0) (ak (je acp acA (hr.mono (by omega)) (gF acl (acn _ (.head _)) (qw 0)) (ak (qw 1) (ak aO aq)) (fK (au (au aP)))) aq) (fK (au aP))))))
  bO))⟩
theorem zN (F:pH K acr "note" "Running.note" nP ["self", "k", "time", "events"]):mW P w K mg base acr:=
 F.ok (k:=0) zH λf cdv A outer s H E hr=>⟨_,λ_ _=>rfl,(aC (iW (eF (jD aaE aaN aaO d8 (gF acl (acn _ (mI 5 rfl)) (qw 0)) (ak (fJ (ak (qw 1) (ak (qw 2) (ak (qw 3) aq)))) aq)))))⟩
theorem yJ (F:pH K acr "begin" "Running.begin" mV ["self", "k"]) (acA:oU P w K mg base acw) (ac1:xM P w K mg base acw) (acT:rR P w K mg base acr) (acs:kO P w K mg base acr) (acU:rT P w K mg base acr) (acv:mW P w K mg base acr) (acu:lR P w K mg base acr):ql P w K mg base acr:=
 F.ok (k:=43) qi λf cdv A outer s H E hr=>⟨_,λ_ _=>rfl,(az (fL 2 qi.nd (je acp ac1 (hr.mono (by omega)) (gF acl (acn _ (.head _)) (qw 0)) (ak (qw 1) aq) (fK (au aP))))
  (az (fP (je acl acv (hr.mono (by omega)) (qw 0) (ak (qw 1) (ak aO (ak (ie (fB aq)) aq))) (fK (au (au (au aP))))))
  (aC (cC (bZ (fj hr) fu (qI (qw 2)) aX (aZ _))
  (aC (fP (je acl acs (hr.mono (by omega)) (qw 0) (ak (je acp acA (hr.mono (by omega)) (gF acl (acn _ (.head _)) (qw 0)) (ak (qw 1) (ak (Jq (bZ (fj hr) fu (je acl acu (hr.mono (by omega)) (qw 0) (ak (qI (qw 2)) aq) (fK (au aP))) aO (aZ _)) aO aO) aq)) (fK (au (au aP)))) aq) (fK (au aP)))))
  (aC (cC (bZ (fj hr) fu (qI (qw 2)) aX (aZ _))
  (aC (fP (je acl acU (hr.mono (by omega)) (qw 0) (ak (qw 1) (ak (qw 2) aq)) (fK (au (au aP))))))
  (aC (cC (bZ (fj hr) fu (qI (qw 2)) aX (aZ _))
  (aC uK)
  (aC (cC (bZ (fj hr) fu (qI (qw 2)) aX (aZ _))
  (aC uK)
  (aC (fP (je acl acv (hr.mono (by omega)) (qw 0) (ak (qw 1) (ak aO (ak (ie (fB (ak (je acl acT (hr.mono (by omega)) (qw 0) (ak (qI (qw 2)) (ak (je acl acu (hr.mono (by omega)) (qw 0) (ak (qI (qw 2)) aq) (fK (au aP))) aq)) (fK (au (au aP)))) aq))) aq))) (fK (au (au (au aP)))))))))))))))))⟩
theorem zP (F:pH K acr "step" "Running.step" nO ["self"]) (acR:ql P w K mg base acr) (acv:mW P w K mg base acr):rW P w K mg base acr:=
 F.ok (k:=44) rK λf cdv A outer s H E hr=>⟨_,λ_ _=>rfl,(az (fL 1 rK.nd (S5 (Gp aaE PySem.F.slot_list_pop PySem.F.type_list_pop MN (gF acl (acn _ (mI 6 rfl)) (qw 0)))))
  (aC (cC (bZ (fj hr) fu (qI (qw 1)) aO (aZ _))
  (aC (fP (je acl acR (hr.mono (by omega)) (qw 0) (ak (qI (qw 1)) aq) (fK (au aP)))))
  (aC (cC (bZ (fj hr) fu (qI (qw 1)) aO (aZ _))
  (aC uK)
  (aC (fP (je acl acv (hr.mono (by omega)) (qw 0) (ak (qI (qw 1)) (ak (qI (qw 1)) (ak (ie (fB aq)) aq))) (fK (au (au (au aP))))))))))))⟩
theorem By (F:cN K mg "gone_through" oR ["program", "values", "budget"]) (acJ:vQ P w K mg base acr) (acV:rW P w K mg base acr) (acW:tH P w K mg base):nZ P w K mg base:=
 F.ok (k:=85) tE λf cdv A outer s H E hr=>⟨_,λ_ _=>rfl,(az (fP (N8 (bM acW (hr.mono (by omega)) rfl (ak (qw 0) (ak (qw 1) aq)) (au (au aP)))))
  (az (fL 3 tE.nd (SN acl acJ (hr.mono (by omega)) rfl (ak (qw 0) (ak (qw 1) (ak (qw 2) aq))) (fK (au (au (au aP))))))
  (az (GQ 1000 aa7 (YS (gF acl (acn _ (mI 6 rfl)) (qw 3)) (λ_=>rfl))
  (aC (fP (N7 acl acV (hr.mono (by omega)) (qw 3) rfl))))
  (aC (qM (pv 3))))))⟩
theorem Hw (F:cN K mg "record_of" oZ ["moments"]):xN P w K mg base:=
 F.ok (k:=0) lD λf cdv A outer s H E hr=>⟨_,λ_ _=>rfl,(az (fL 1 lD.nd (fB aq))
  (az (lX aa7 rfl (jy (Oe (qw 0))) (jN rfl (bF (Cr (i:=2) lD.nd rfl (Or.inr rfl)) (bF (fG 3 lD.nd) (bF (fG 4 lD.nd) iT)))) (jO (bQ bw (bQ bw (bQ bw jM))))
  (aC (Hm (pv 1) (oX ["name", "place", "value"] ["row"] [2] rfl (xH (aF oZ)) (jy (Oe (qw 4))) (λ_ _ _ _=>(jN rfl (bF (fG 0 (show (["name", "place", "value", "row"]:List Str).Nodup from by decide +kernel)) (bF (fG 1 (show (["name", "place", "value", "row"]:List Str).Nodup from by decide +kernel)) (bF (fG 2 (show (["name", "place", "value", "row"]:List Str).Nodup from by decide +kernel)) iT))))) (jO (bQ bw (bQ bw (bQ bw jM)))) (λ_ _ _ _=>iC) (λ_ _ _ _=>(fJ (ak (qw 3) (ak (qw 0) (ak (qw 1) (ak (qw 2) aq))))))))))
  (aC (qM (pv 1)))))⟩
theorem Xx (F:cN K mg "run" Lk ["program", "values", "budget"]) (adb:Bu P w K mg base) (acz:nZ P w K mg base) (ac2:xN P w K mg base):Om P w K mg base:=
 F.ok (k:=86) Oi λf cdv A outer s H E hr=>⟨_,λ_ _=>rfl,(az (fL 3 Oi.nd (bM acz (hr.mono (by omega)) rfl (ak (qw 0) (ak (qw 1) (ak (qw 2) aq))) (au (au (au aP)))))
  (aC (bj (fJ (ak (gF acl (acn _ (mI 4 rfl)) (qw 3)) (ak (bM ac2 (hr.mono (by omega)) rfl (ak (gF acl (acn _ (mI 5 rfl)) (qw 3)) aq) (au aP)) (ak (bM adb (hr.mono (by omega)) rfl (ak (qw 0) (ak (gF acl (acn _ (mI 1 rfl)) (qw 3)) aq)) (au (au aP))) aq)))))))⟩
theorem Ot (F:cN K mg "traced" zG ["program", "values", "budget"]) (acz:nZ P w K mg base):El P w K mg base:=
 F.ok (k:=86) Oj λf cdv A outer s H E hr=>⟨_,λ_ _=>rfl,(aC (bj (gF acl (acn _ (mI 5 rfl)) (bM acz (hr.mono (by omega)) rfl (ak (qw 0) (ak (qw 1) (ak (qw 2) aq))) (au (au (au aP)))))))⟩
theorem Hx (F:cN K mg "_law_cell" tY ["_law_script", "_law_k"]):rY P w K mg base:=
 F.ok (k:=0) rH λf cdv A outer s H E hr=>⟨_,λ_ _=>rfl,(az (fL 2 rH.nd (bY ik il (bY ik il (bY lV jV (qw 1) (qw 1)) (bY lV jV aO (qw 1))) aO))
  (az (cC (bZ zX wZ (xG (cD jh (by rfl) (iJ B) abf (ak (qw 0) aq))) aO (aZ _))
  (aC (fL 2 rH.nd (bY ik il (bY dw cP (fW (aL hr) (qw 0) (bY dw cP (qw 1) (xG (cD jh (by rfl) (iJ B) abf (ak (qw 0) aq)))) (λ_ _=>rfl)) aO) (bY lV jV (bY iB gD (qw 1) (xG (cD jh (by rfl) (iJ B) abf (ak (qw 0) aq)))) aO))))
  bO)
  (aC (bj (bY dw cP (bY ik il (bY lV jV (qw 2) aO) (bY lV jV (bY iB gD (qw 1) (Be (Dy rfl) Xe (cD (Dy rfl) (by rfl) (YT B) (by kernel_rfl) (ak aO (ak (xG (cD jh (by rfl) (iJ B) abf (ak (qw 0) aq))) aq))))) aO)) aO)))))⟩
theorem Dl (F:cN K mg "_law_number" pU ["_law_cell_here"]):oV P w K mg base:=
 F.ok (k:=0) uM λf cdv A outer s H E hr=>⟨_,λ_ _=>rfl,(az (fL 1 uM.nd (bY dw cP (qw 0) aO))
  (az (cC (bZ (jz hr) ir (qw 1) aO (aZ _))
  (aC (bj (bY dw cP (bY iB gD (qw 0) aO) aO)))
  bO)
  (az (cC (bZ (jz hr) ir (qw 1) aO (aZ _))
  (aC (bj (bY wy uE (bY wy uE (bY Gf CQ aO aO) aO) (bY dw cP (bY iB gD (qw 0) aO) aO))))
  bO)
  (az (cC (bZ (jz hr) ir (qw 1) aO (aZ _))
  (aC (bj (bY ik il aO (bY dw cP (bY iB gD (qw 0) aO) aO))))
  bO)
  (aC (bj (bY dw cP (bY lV jV (qw 0) aO) (bY Gf CQ aO aO))))))))⟩
theorem Fi {n:Nat} (F:cN K mg "_law_alike" lC ["_law_got", "_law_due"]) (acD:bV P w K mg base "_law_alike" (0+n) ["_law_got", "_law_due"] (bU K 2 (cF n))):bV P w K mg base "_law_alike" (0+n+1) ["_law_got", "_law_due"] (bU K 2 (cF (n+1))):=
 F.ok (k:=0+n) Fb λf cdv A outer s H E hr=>⟨_,λ_ _=>rfl,(az (cC (lW (Z4 (cD Hg (by rfl) (cY B) (by kernel_rfl) (b8 (qw 1) (b8 (Mx (b8 (gf (v:=.ty "list") (u:=.type "list") rfl (lG B) (by kernel_rfl) rfl) (b8 (gf (v:=.ty "tuple") (u:=.type "tuple") rfl (Di B) (by kernel_rfl) rfl) gP))) gP)))) (λ_=>rfl))
  (az (cC (PW.pt (Sd (bZ (wW hr) wY (uH (cD dG (by rfl) (cY B) (by kernel_rfl) (b8 (qw 0) (b8 (gf (v:=.ty "list") (u:=.type "list") rfl (lG B) (by kernel_rfl) rfl) gP)))) (uH (cD dG (by rfl) (cY B) (by kernel_rfl) (b8 (qw 1) (b8 (gf (v:=.ty "list") (u:=.type "list") rfl (lG B) (by kernel_rfl) rfl) gP)))) (aZ _)) (Nq (bZ (wW hr) wY (uH (cD dG (by rfl) (cY B) (by kernel_rfl) (b8 (qw 0) (b8 (gf (v:=.ty "tuple") (u:=.type "tuple") rfl (Di B) (by kernel_rfl) rfl) gP)))) (uH (cD dG (by rfl) (cY B) (by kernel_rfl) (b8 (qw 1) (b8 (gf (v:=.ty "tuple") (u:=.type "tuple") rfl (Di B) (by kernel_rfl) rfl) gP)))) (aZ _)))))
  (aC (bj (qc zW dW)))
  bO)
  (aC (bj (qY (vh (fj hr) fu (qL (iJ B) (qw 0)) (qL (iJ B) (qw 1)) (aZ _)) (wQ (Be (vB rfl) NP (cD (vB rfl) (by rfl) (S7 B) (by kernel_rfl) (ak (oX ["_law_k"] ["_law_got", "_law_due"] [0,1] rfl (xH (aF lC)) (wR rfl (Dh B) (ak (qL (iJ B) (qw 1)) aq)) (λ_ _ _ _=>(fG 0 (show (["_law_k", "_law_got", "_law_due"]:List Str).Nodup from by decide +kernel))) bw (λ_ _ _ _=>iC) (λ_ _ _ _=>(bM acD (hr.mono (by omega)) rfl (ak (lN (qw 1) (qw 0) (λ_ _=>rfl)) (ak (lN (qw 2) (qw 0) (λ_ _=>rfl)) aq)) (au (au aP))))) aq))))))))
  bO)
  (az (cC (lW (uH (cD dG (by rfl) (cY B) (by kernel_rfl) (b8 (qw 1) (b8 (gf (v:=.ty "str") (u:=.type "str") rfl (S8 B) (by kernel_rfl) rfl) gP)))) (λ_=>rfl))
  (aC (bj (qY (uH (cD dG (by rfl) (cY B) (by kernel_rfl) (b8 (qw 0) (b8 (gf (v:=.ty "str") (u:=.type "str") rfl (S8 B) (by kernel_rfl) rfl) gP)))) (wQ (vh (fj hr) fu (qw 0) (qw 1) (aZ _))))))
  bO)
  (az (cC (bZ zY ym (qw 1) Bq (aZ _))
  (aC (bj (vh zY ym (qw 0) Bq (aZ _))))
  bO)
  (aC (bj (qY (uH (cD dG (by rfl) (cY B) (by kernel_rfl) (b8 (qw 0) (b8 (gf (v:=.ty "int") (u:=.type "int") rfl (FP B) (by kernel_rfl) rfl) gP)))) (qY (QR (uH (cD dG (by rfl) (cY B) (by kernel_rfl) (b8 (qw 0) (b8 (gf (v:=.ty "bool") (u:=.type "bool") rfl (Ol B) (by kernel_rfl) rfl) gP))))) (wQ (vh (fj hr) fu (qw 0) (qw 1) (aZ _))))))))))⟩
theorem uP (ac0:cN K mg "_law_alike" lC ["_law_got", "_law_due"]):∀n:Nat,bV P w K mg base "_law_alike" (0+n) ["_law_got", "_law_due"] (bU K 2 (cF n))
 | 0=>uI ac0
 | n+1=>by have ih:=uP ac0 n;exact Fi B aco acp acq acl acn hkx ac0 ih
theorem Hy (F:cN K mg "_law_leaf" tZ ["_law_cell_here", "_law_nums"]) (acB:oV P w K mg base):xO P w K mg base:=
 F.ok (k:=1) Hq λf cdv A outer s H E hr=>⟨_,λ_ _=>rfl,(az (cC (bZ (fj hr) fu (bY dw cP (qw 0) aO) aO (aZ _))
  (aC (bj (fJ (ak aX (ak (lN (fB (ak aO (ak aO (ak (bM acB (hr.mono (by omega)) rfl (ak (bY qJ oJ (qw 0) aO) aq) (au aP)) (ak (bY dw cP (bY qJ oJ (qw 0) aO) aO) aq))))) (bY dw cP (bY qJ oJ (qw 0) aO) aO) (λ_ _=>rfl)) aq)))))
  bO)
  (aC (bj (fJ (ak aX (ak (lN (qw 1) (bY dw cP (bY qJ oJ (qw 0) aO) aO) (λ_ _=>rfl)) aq))))))⟩
theorem xV (F:cN K mg "_law_expression" lO ["_law_cell_here", "_law_nums"]) (acN:xO P w K mg base):pK P w K mg base:=
 F.ok (k:=2) pJ λf cdv A outer s H E hr=>⟨_,λ_ _=>rfl,(az (cC (bZ (fj hr) fu (bY dw cP (qw 0) aO) aO (aZ _))
  (aC (bj (bM acN (hr.mono (by omega)) rfl (ak (bY qJ oJ (qw 0) aO) (ak (qw 1) aq)) (au (au aP)))))
  bO)
  (az (fL 2 pJ.nd (bM acN (hr.mono (by omega)) rfl (ak (bY dw cP (bY lV jV (qw 0) aO) aO) (ak (qw 1) aq)) (au (au aP))))
  (aC (bj (fJ (ak (lN aX (bY dw cP (bY qJ oJ (qw 0) aO) aO) (λ_ _=>rfl)) (ak (qw 2) (ak (bM acN (hr.mono (by omega)) rfl (ak (bY dw cP (bY lV jV (qw 0) aO) aO) (ak (qw 1) aq)) (au (au aP))) aq))))))))⟩
theorem xW (F:cN K mg "_law_leaf_worth" lQ ["_law_e", "_law_boxes"]):pL P w K mg base:=
 F.ok (k:=0) xK λf cdv A outer s H E hr=>⟨_,λ_ _=>rfl,(az (cC (bZ (jz hr) ir (fW (aL hr) (qw 0) aO (λ_ _=>rfl)) aX (aZ _))
  (aC (bj (fW (aL hr) (qw 0) aO (λ_ _=>rfl))))
  bO)
  (aC (bj (cQ (aL hr) (qw 1) (fW (aL hr) (qw 0) aO (λ_ _=>rfl)) (λ_ _=>rfl)))))⟩
theorem Fj (F:cN K mg "_law_worth" rE ["_law_e", "_law_boxes"]) (acx:pL P w K mg base):pX P w K mg base:=
 F.ok (k:=1) mC λf cdv A outer s H E hr=>⟨_,λ_ _=>rfl,(az (cC (bZ (W2 hr) Uv (fW (aL hr) (qw 0) aO (λ_ _=>rfl)) (fJ (ak aX (ak aX aq))) (by with_unfolding_all rfl))
  (aC (bj (bM acx (hr.mono (by omega)) rfl (ak (qw 0) (ak (qw 1) aq)) (au (au aP)))))
  bO)
  (az (fL 2 mC.nd (bM acx (hr.mono (by omega)) rfl (ak (fW (aL hr) (qw 0) aO (λ_ _=>rfl)) (ak (qw 1) aq)) (au (au aP))))
  (az (fL 3 mC.nd (bM acx (hr.mono (by omega)) rfl (ak (fW (aL hr) (qw 0) aO (λ_ _=>rfl)) (ak (qw 1) aq)) (au (au aP))))
  (az (fL 4 mC.nd (Bj (dU aX (bY ik il (qw 2) (qw 3)) (dU aX (bY wy uE (qw 2) (qw 3)) (dU aX (bY lV jV (qw 2) (qw 3)) (dU aX (PE.imp (jC yO (by rfl) (FP B) (by kernel_rfl) (ak (vh yd uD (qw 2) (qw 3) (aZ _)) aq)) (pC N6)) (dU aX (PE.imp (jC yO (by rfl) (FP B) (by kernel_rfl) (ak (vh (jz hr) ir (qw 2) (qw 3) (aZ _)) aq)) (pC N6)) xx))))) rfl rfl (by intro h; cases h) (by decide)))
  (aC (bj (bY dw cP (fW (aL hr) (qw 4) (fW (aL hr) (qw 0) aO (λ_ _=>rfl)) (λ_ _=>rfl)) (bY Gf CQ aO aO))))))))⟩
theorem Hz (F:cN K mg "_law_open" uc ["_law_state", "_law_guard"]) (acE:pX P w K mg base):xP P w K mg base:=
 F.ok (k:=2) nT λf cdv A outer s H E hr=>⟨_,λ_ _=>rfl,(@az _ _ _ _ _ (@fL _ 2 _ _ _ _ _ nT.nd (lN (cQ (aL hr) (qw 0) aX (λ_ _=>rfl)) (vC aO) (λ_ _=>rfl)) (by rfl) (by exact Or.inl rfl) (by rfl) (by first | exact .inl rfl | exact .inr rfl | assumption))
  (@az _ _ _ _ _ (@fL _ 3 _ _ _ _ _ nT.nd (vh (wW hr) wY (bM acE (hr.mono (by omega)) rfl (ak (qw 1) (ak (cQ (aL hr) (qw 0) aX (λ_ _=>rfl)) aq)) (au (au aP))) aO (aZ _)) (by rfl) (by exact Or.inl rfl) (by rfl) (by first | exact .inl rfl | exact .inr rfl | assumption))
  (@az _ _ _ _ _ (@cC _ _ _ _ _ _ _ _ (lW (cQ (aL hr) (qw 2) aX (λ_ _=>rfl)) (λ_=>rfl))
  (@aC _ _ _ (iW (eF (jD aaE aaN aaO d8 (cQ (aL hr) (qw 0) aX (λ_ _=>rfl)) (@ak _ _ _ _ _ (@fJ _ _ _ _ _ (@ak _ _ _ _ _ (cQ (aL hr) (qw 0) aX (λ_ _=>rfl)) (@ak _ _ _ _ _ aO (@uL _ _ _ _ _ _ (@fB _ _ _ _ aq) aq) (by rfl)) (by rfl))) aq (by rfl)))))) bO)
  (@az _ _ _ _ _ (@fL _ 4 _ _ _ _ _ nT.nd (@ie _ _ _ (@Bj _ _ _ _ _ (@dU _ _ _ _ _ _ _ _ _ aX (qw 1) (@dU _ _ _ _ _ _ _ _ _ aX Bq (@dU _ _ _ _ _ _ _ _ _ aX (@ie _ _ _ (fB aq)) (dU aX (cQ (aL hr) (qw 0) aX (λ_ _=>rfl)) xx)))) rfl rfl (by intro h; cases h) (by decide))) (by rfl) (by exact Or.inl rfl) (by rfl) (by first | exact .inl rfl | exact .inr rfl | assumption))
  (@az _ _ _ _ _ (jA (jq (qY (cQ (aL hr) (qw 2) aX (λ_ _=>rfl)) (wQ (qw 3))) (jo (qw 4) aX (set_dict (aL hr)))))
  (@az _ _ _ _ _ (jA (jq (qY (cQ (aL hr) (qw 2) aX (λ_ _=>rfl)) (wQ (QR (qw 3)))) (jo (qw 4) aX (set_dict (aL hr)))))
  (@az _ _ _ _ _ (iW (eF (jD aaE aaN aaO d8 (cQ (aL hr) (qw 0) aX (λ_ _=>rfl)) (ak (qw 4) aq))))
  (@aC _ _ _ (jA (jq (bY ik il (cQ (aL hr) (qw 0) aX (λ_ _=>rfl)) aO) (jo (qw 0) aX (set_dict (aL hr)))))))))))))⟩
theorem HD (F:cN K mg "_law_shut" ud ["_law_state", "_law_with_else"]):xQ P w K mg base:=
 F.ok (k:=0) rJ λf cdv A outer s H E hr=>⟨_,λ_ _=>rfl,(az (fL 2 rJ.nd (lN (cQ (aL hr) (qw 0) aX (λ_ _=>rfl)) (vC aO) (λ_ _=>rfl)))
  (az (cC (PW.pt (Ax (lW (qw 1) (λ_=>rfl)) (yh (bZ zY ym (cQ (aL hr) (qw 2) aX (λ_ _=>rfl)) Bq (aZ _)))))
  (az (jA (jq (cQ (aL hr) (qw 2) aX (λ_ _=>rfl)) (jo (qw 2) aX (set_dict (aL hr)))))
  (az (jA (jq (ie (fB aq)) (jo (qw 2) aX (set_dict (aL hr)))))
  (az (jA (jq (cQ (aL hr) (qw 2) aX (λ_ _=>rfl)) (jo (qw 2) aX (set_dict (aL hr)))))
  (aC Uq))))
  bO)
  (az (fP (S5 (Gp aaE PySem.F.slot_list_pop PySem.F.type_list_pop MN (cQ (aL hr) (qw 0) aX (λ_ _=>rfl)))))
  (az (fL 3 rJ.nd (lN (cQ (aL hr) (qw 0) aX (λ_ _=>rfl)) (vC aO) (λ_ _=>rfl)))
  (az (cC (bZ zY ym (cQ (aL hr) (qw 2) aX (λ_ _=>rfl)) Bq (aZ _))
  (aC (iW (eF (jD aaE aaN aaO d8 (cQ (aL hr) (qw 3) aX (λ_ _=>rfl)) (ak (@fJ _ _ _ _ _ (@ak _ _ _ _ _ aX (@ak _ _ _ _ _ (cQ (aL hr) (qw 2) aX (λ_ _=>rfl)) (@ak _ _ _ _ _ (cQ (aL hr) (qw 2) aX (λ_ _=>rfl)) (@ak _ _ _ _ _ (ie (@fB _ _ _ _ aq)) aq (by rfl)) (by rfl)) (by rfl)) (by rfl))) aq)))))
  (aC (iW (eF (jD aaE aaN aaO d8 (cQ (aL hr) (qw 3) aX (λ_ _=>rfl)) (ak (fJ (ak aX (ak (cQ (aL hr) (qw 2) aX (λ_ _=>rfl)) (ak (cQ (aL hr) (qw 2) aX (λ_ _=>rfl)) (ak (cQ (aL hr) (qw 2) aX (λ_ _=>rfl)) aq))))) aq))))))
  (aC (jA (jq (cQ (aL hr) (qw 2) aX (λ_ _=>rfl)) (jo (qw 3) aX (set_dict (aL hr)))))))))))⟩
theorem Jd (F:cN K mg "_law_set" vL ["_law_state", "_law_name", "_law_e"]) (acE:pX P w K mg base):yS P w K mg base:=
 F.ok (k:=2) ug λf cdv A outer s H E hr=>⟨_,λ_ _=>rfl,(az (fL 3 ug.nd (lN (cQ (aL hr) (qw 0) aX (λ_ _=>rfl)) (vC aO) (λ_ _=>rfl)))
  (az (iW (eF (jD aaE aaN aaO d8 (cQ (aL hr) (qw 3) aX (λ_ _=>rfl)) (ak (fJ (ak aX (ak (qw 1) (ak (qw 2) aq)))) aq))))
  (az (jA (jq (cQ (aL hr) (qw 0) aX (λ_ _=>rfl)) (jo (qw 3) aX (set_dict (aL hr)))))
  (az (cC (lW (cQ (aL hr) (qw 3) aX (λ_ _=>rfl)) (λ_=>rfl))
  (az (fL 4 ug.nd (bM acE (hr.mono (by omega)) rfl (ak (qw 2) (ak (cQ (aL hr) (qw 0) aX (λ_ _=>rfl)) aq)) (au (au aP))))
  (az (iW (eF (jD aaE aaN aaO d8 (cQ (aL hr) (qw 0) aX (λ_ _=>rfl)) (ak (@fJ _ _ _ _ _ (@ak _ _ _ _ _ (cQ (aL hr) (qw 0) aX (λ_ _=>rfl)) (@ak _ _ _ _ _ aO (@uL _ _ _ _ _ _ (@fB _ _ _ _ aq) aq) (by rfl)) (by rfl))) aq))))
  (az (iW (eF (jD aaE aaN aaO d8 (cQ (aL hr) (qw 0) aX (λ_ _=>rfl)) (ak (@fJ _ _ _ _ _ (@ak _ _ _ _ _ (cQ (aL hr) (qw 0) aX (λ_ _=>rfl)) (@ak _ _ _ _ _ aO (@uL _ _ _ _ _ _ (@fB _ _ _ _ (@Xu _ _ _ _ _ _ _ (@fJ _ _ _ _ _ (@ak _ _ _ _ _ (qw 1) (@ak _ _ _ _ _ aO (@ak _ _ _ _ _ (qw 4) aq (by rfl)) (by rfl)) (by rfl))) aq)) aq) (by rfl)) (by rfl))) aq))))
  (aC (jA (jq (qw 4) (jo (cQ (aL hr) (qw 0) aX (λ_ _=>rfl)) (qw 1) (set_dict (aL hr)))))))))
  bO)
  (aC (jA (jq (bY ik il (cQ (aL hr) (qw 0) aX (λ_ _=>rfl)) aO) (jo (qw 0) aX (set_dict (aL hr))))))))))⟩
theorem HF (F:cN K mg "_law_laid" ue ["_law_script", "_law_nums", "_law_boxes"]) (acy:rY P w K mg base) (acC:pK P w K mg base) (ac3:xP P w K mg base) (ac8:yS P w K mg base) (acX:xQ P w K mg base):xR P w K mg base:=
 F.ok (k:=3) lE λf cdv A outer s H E hr=>⟨_,λ_ _=>rfl,(@az _ _ _ _ _ (@fL _ 3 _ _ _ _ _ lE.nd (@ie _ _ _ (@Bj _ _ _ _ _ (@dU _ _ _ _ _ _ _ _ _ aX (@ie _ _ _ (@fB _ _ _ _ (@Og _ _ _ _ _ _ _ (@ie _ _ _ (@Bj _ _ _ _ _ (@dU _ _ _ _ _ _ _ _ _ aX (@ie _ _ _ (@fB _ _ _ _ aq)) (dU aX (qc zW dW) (dU aX (vC aO) xx))) rfl rfl (by intro h; cases h) (by decide))) aq))) (@dU _ _ _ _ _ _ _ _ _ aX (qw 2) (@dU _ _ _ _ _ _ _ _ _ aX (@ie _ _ _ (fB aq)) (dU aX aO xx)))) rfl rfl (by intro h; cases h) (by decide))) (by rfl) (by exact Or.inl rfl) (by rfl) (by first | exact .inl rfl | exact .inr rfl | assumption))
  (@az _ _ _ _ _ (@lX _ _ _ _ _ _ _ _ _ aa7 rfl (wR rfl (Dh B) (ak (bY dw cP (bM acy (hr.mono (by omega)) rfl (ak (qw 0) (ak aO aq)) (au (au aP))) aO) aq)) (fG 4 lE.nd) bw
  (@az _ _ _ _ _ (@fL _ 5 _ _ _ _ _ lE.nd (bM acy (hr.mono (by omega)) rfl (ak (qw 0) (ak (bY ik il aO (qw 4)) aq)) (au (au aP))) (by rfl) (by exact Or.inl rfl) (by rfl) (by first | exact .inl rfl | exact .inr rfl | assumption))
  (@az _ _ _ _ _ (@fL _ 6 _ _ _ _ _ lE.nd (bY dw cP (qw 5) aO) (by rfl) (by exact Or.inl rfl) (by rfl) (by first | exact .inl rfl | exact .inr rfl | assumption))
  (@aC _ _ _ (@cC _ _ _ _ _ _ _ _ (PW.pt (Ax (bZ yd uD (qw 6) aO (aZ _)) (yh (bZ yd uD (xG (cD jh (by rfl) (iJ B) abf (ak (cQ (aL hr) (qw 3) aX (λ_ _=>rfl)) aq))) aO (aZ _)))))
  (@aC _ _ _ (fP (bM ac3 (hr.mono (by omega)) rfl (ak (qw 3) (ak (bM acC (hr.mono (by omega)) rfl (ak (bY iB gD (qw 5) aO) (ak (qw 1) aq)) (au (au aP))) aq)) (au (au aP)))))
  (@aC _ _ _ (@cC _ _ _ _ _ _ _ _ (PW.pt (Ax (bZ zX wZ (qw 6) aO (aZ _)) (yh (bZ zX wZ (xG (cD jh (by rfl) (iJ B) abf (ak (cQ (aL hr) (qw 3) aX (λ_ _=>rfl)) aq))) aO (aZ _)))))
  (@aC _ _ _ (fP (bM acX (hr.mono (by omega)) rfl (ak (qw 3) (ak (vh zX wZ (qw 6) aO (aZ _)) aq)) (au (au aP)))))
  (@aC _ _ _ (fP (bM ac8 (hr.mono (by omega)) rfl (ak (qw 3) (ak (fW (aL hr) (qw 1) (bY dw cP (bY iB gD (qw 5) aO) aO) (λ_ _=>rfl)) (ak (bM acC (hr.mono (by omega)) rfl (ak (bY iB gD (qw 5) aO) (ak (qw 1) aq)) (au (au aP))) aq))) (au (au (au aP)))))))))))) (by intro _; rfl))
  (@az _ _ _ _ _ (@GQ _ 1000 _ _ _ _ _ aa7 (bZ zX wZ (xG (cD jh (by rfl) (iJ B) abf (ak (cQ (aL hr) (qw 3) aX (λ_ _=>rfl)) aq))) aO (aZ _))
  (@aC _ _ _ (fP (bM acX (hr.mono (by omega)) rfl (ak (qw 3) (ak (qc zW dW) aq)) (au (au aP))))))
  (@az _ _ _ _ _ (@cC _ _ _ _ _ _ _ _ (bZ Yy W4 (cQ (aL hr) (fW (aL hr) (cQ (aL hr) (qw 3) aX (λ_ _=>rfl)) aO (λ_ _=>rfl)) aX (λ_ _=>rfl)) aO (aZ _))
  (@aC _ _ _ (iW (eF (jD aaE aaN aaO d8 (cQ (aL hr) (qw 3) aX (λ_ _=>rfl)) (@ak _ _ _ _ _ (@fJ _ _ _ _ _ (@ak _ _ _ _ _ (cQ (aL hr) (fW (aL hr) (cQ (aL hr) (qw 3) aX (λ_ _=>rfl)) aO (λ_ _=>rfl)) aX (λ_ _=>rfl)) (@ak _ _ _ _ _ aO (@uL _ _ _ _ _ _ (@fB _ _ _ _ aq) aq) (by rfl)) (by rfl))) aq (by rfl)))))) bO)
  (@aC _ _ _ (@bj _ _ _ _ (Xl (qw 3))))))))⟩
theorem Xy {f:Addr} {fd:FuncData} (F:sJ K "law" "law" nM f fd) (acD:Fe P w K mg base) (acy:rY P w K mg base) (ac4:xR P w K mg base) (acB:oV P w K mg base) (adQ:Om P w K mg base) (adi:El P w K mg base):mK P w K mg base ou 88 f fd ["_law_script"] (bU K 1 Lp):=
 sJ.okP (k:=87) F jQ λcdv A outer s H E hr=>⟨_,λ_ _=>rfl,(@az _ _ _ _ _ (@fL _ 1 _ _ _ _ _ jQ.nd (bY iB gD (bM acy (hr.mono (by omega)) rfl (ak (qw 0) (ak aO aq)) (au (au aP))) aO) (by rfl) (by exact Or.inl rfl) (by rfl) (by first | exact .inl rfl | exact .inr rfl | assumption))
  (@az _ _ _ _ _ (@fL _ 2 _ _ _ _ _ jQ.nd (Jy (Jy (fB (ak aX (ak aX (ak aX (ak aX (ak aX (ak aX aq))))))) (CV (bY dw cP (qw 1) aO)) CT) CT (CV aO)) (by rfl) (by exact Or.inl rfl) (by rfl) (by first | exact .inl rfl | exact .inr rfl | assumption))
  (@az _ _ _ _ _ (Ut (i:=3) ["_law_k"] ["_law_script"] [0] jQ.nd rfl rfl rfl (xH (aF nM)) (wR rfl (Dh B) (ak aO aq)) (λ_ _ _ _=>(fG 0 (show (["_law_k", "_law_script"]:List Str).Nodup from by decide +kernel))) bw (λ_ _ _ _=>iC) (λ_ _ _ _=>(bM acB (hr.mono (by omega)) rfl (ak (bM acy (hr.mono (by omega)) rfl (ak (qw 1) (ak (bY ik il aO (qw 0)) aq)) (au (au aP))) aq) (au aP))))
  (@az _ _ _ _ _ (Nt (i:=4) jQ.nd rfl (Or.inr rfl) (bM ac4 (hr.mono (by omega)) rfl (@ak _ _ _ _ _ (qw 0) (@ak _ _ _ _ _ (qw 2) (@ak _ _ _ _ _ (@ie _ _ _ (Bj (dU (fW (aL hr) (qw 2) aO (λ_ _=>rfl)) (fW (aL hr) (qw 3) aO (λ_ _=>rfl)) (dU (fW (aL hr) (qw 2) aO (λ_ _=>rfl)) (fW (aL hr) (qw 3) aO (λ_ _=>rfl)) (dU (fW (aL hr) (qw 2) aO (λ_ _=>rfl)) (fW (aL hr) (qw 3) aO (λ_ _=>rfl)) xx))) rfl rfl (by intro h; cases h) (by decide))) aq (by rfl)) (by rfl)) (by rfl)) (au (au (au aP)))))
  (@az _ _ _ _ _ (@fL _ 5 _ _ _ _ _ jQ.nd (@fJ _ _ _ _ _ (@ak _ _ _ _ _ (oX ["_law_name"] [] [] rfl (xH (aF nM)) (jy (qw 2)) (λ_ _ _ _=>(fG 0 (show (["_law_name"]:List Str).Nodup from by decide +kernel))) bw (λ_ _ _ _=>iC) (λ_ _ _ _=>(@fJ _ _ _ _ _ (@ak _ _ _ _ _ (qw 0) (@ak _ _ _ _ _ aO (@ak _ _ _ _ _ Bq aq (by rfl)) (by rfl)) (by rfl))))) (@uL _ _ _ _ _ _ (@fB _ _ _ _ aq) (@uL _ _ _ _ _ _ (@fB _ _ _ _ aq) (@ak _ _ _ _ _ (fW (aL hr) (fW (aL hr) (fW (aL hr) (qw 4) aX (λ_ _=>rfl)) aO (λ_ _=>rfl)) aX (λ_ _=>rfl)) aq (by rfl)))) (by rfl))) (by rfl) (by exact Or.inl rfl) (by rfl) (by first | exact .inl rfl | exact .inr rfl | assumption))
  (@az _ _ _ _ _ (@fL _ 6 _ _ _ _ _ jQ.nd (fB aq) (by rfl) (by exact Or.inl rfl) (by rfl) (by first | exact .inl rfl | exact .inr rfl | assumption))
  (@az _ _ _ _ _ (@lX _ _ _ _ _ _ _ _ _ aa7 rfl (jy (fW (aL hr) (qw 4) aX (λ_ _=>rfl))) (jN rfl (bF (Cr (i:=7) jQ.nd rfl (Or.inr rfl)) (bF (fG 8 jQ.nd) (bF (fG 9 jQ.nd) iT)))) (jO (bQ bw (bQ bw (bQ bw jM))))
  (@aC _ _ _ (Hm (pv 6) (oX ["_law_name", "_law_place", "_law_value"] ["_law_k"] [7] rfl (xH (aF nM)) (jy (qw 9)) (λ_ _ _ _=>(jN rfl (bF (fG 0 (show (["_law_name", "_law_place", "_law_value", "_law_k"]:List Str).Nodup from by decide +kernel)) (bF (fG 1 (show (["_law_name", "_law_place", "_law_value", "_law_k"]:List Str).Nodup from by decide +kernel)) (bF (fG 2 (show (["_law_name", "_law_place", "_law_value", "_law_k"]:List Str).Nodup from by decide +kernel)) iT))))) (jO (bQ bw (bQ bw (bQ bw jM)))) (λ_ _ _ _=>iC) (λ_ _ _ _=>(fJ (ak (qw 3) (ak (qw 0) (ak (qw 1) (ak (qw 2) aq))))))))) (by intro _; rfl))
  (@az _ _ _ _ _ (@fL _ 10 _ _ _ _ _ jQ.nd (fJ (ak aX (ak (qw 6) (ak (oX ["_law_name"] ["_law_state"] [4] rfl (xH (aF nM)) (jy (qw 2)) (λ_ _ _ _=>(fG 0 (show (["_law_name", "_law_state"]:List Str).Nodup from by decide +kernel))) bw (λ_ _ _ _=>iC) (λ_ _ _ _=>(fW (aL hr) (fW (aL hr) (qw 1) aX (λ_ _=>rfl)) (qw 0) (λ_ _=>rfl)))) aq)))) (by rfl) (by exact Or.inl rfl) (by rfl) (by first | exact .inl rfl | exact .inr rfl | assumption))
  (@az _ _ _ _ _ (@fL _ 11 _ _ _ _ _ jQ.nd (bM adQ (hr.mono (by omega)) rfl (ak (qw 5) (ak (PE.imp (jC lg (by rfl) (lG B) (by kernel_rfl) (ak (qw 3) aq)) (pC uG)) (ak (bY dw cP (bY iB gD (qw 1) aO) aO) aq))) (au (au (au aP)))) (by rfl) (by exact Or.inl rfl) (by rfl) (by first | exact .inl rfl | exact .inr rfl | assumption))
  (@aC _ _ _ (@bj _ _ _ _ (qY (Oc acD (hr.mono (by omega)) rfl (ak (qw 11) (ak (qw 10) aq)) (au (au aP))) (wQ (Oc acD (hr.mono (by omega)) rfl (ak (bM adi (hr.mono (by omega)) rfl (ak (qw 5) (ak (qw 3) (ak (bY dw cP (bY iB gD (qw 1) aO) aO) aq))) (au (au (au aP)))) (ak (fW (aL hr) (qw 4) aX (λ_ _=>rfl)) aq)) (au (au aP))))))))))))))))⟩
end
local macro_rules | `(tactic| walk_at "op")=>`(tactic| first | exact rfl | exact modP_go rfl rfl (by omega) | exact fdivP_go rfl rfl (by omega) (by omega) | exact mulP_gor rfl rfl (by omega) (by omega) | exact mulP_gol rfl rfl (by omega) (by omega) | assumption)
local macro_rules | `(tactic| walk_at "ev")=>`(tactic| first
 | ((with_reducible refine' cW ?h1 ?h2 ?h3 ?h4 ?h5); (case h1=>walk_at "ev"); (case h2=>exact rfl); (case h3=>walk_at "ev"); (case h4=>exact rfl); (case h5=>walk_at "op"))
 | ((with_reducible refine' aD ?h1 ?h2); (case h1=>walk_at "ev"); (case h2=>walk_at "ev"))
 | ((with_reducible refine' cA ?h1 ?h2 ?h3); (case h1=>walk_at "ev"); (case h2=>exact rfl); (case h3=>exact rfl))
 | ((with_reducible refine' bL ?h1); (case h1=>walk_at "ev"))
 | ((with_reducible refine' aA ?h1 ?h2); (case h1=>walk_at "ev"); (case h2=>walk_at "ev"))
 | ((with_reducible refine' aU ?h1 ?h2 ?h3 ?h4 ?h5); (case h1=>walk_at "ev"); (case h2=>exact rfl); (case h3=>exact rfl); (case h4=>exact rfl); (case h5=>walk_at "call"))
 | ((with_reducible refine' rB ?h1 ?h2 ?h3); (case h1=>walk_at "ev"); (case h2=>exact rfl); (case h3=>walk_at "op"))
 | ((with_reducible refine' di ?h1 ?h2 ?h3); (case h1=>walk_at "ev"); (case h2=>exact rfl); (case h3=>exact rfl))
 | ((with_reducible refine' Ha ?h1); (case h1=>walk_at "ev"))
 | ((with_reducible refine' Hb ?h1 ?h2); (case h1=>walk_at "ev"); (case h2=>walk_at "ev"))
 | ((with_reducible refine' Le ?h1 ?h2); (case h1=>walk_at "ev"); (case h2=>walk_at "ev"))
 | ((with_reducible refine' tread_go ?h1); (case h1=>walk_at "ev"))
 | ((with_reducible refine' eread_go ?h1 ?h2); (case h1=>walk_at "ev"); (case h2=>exact rfl))
 | ((with_reducible refine' xm ?h1 ?h2 ?h3); (case h1=>walk_at "ev"); (case h2=>exact rfl); (case h3=>exact rfl))
 | ((with_reducible refine' gb ?h1 ?h2 ?h3); (case h1=>walk_at "ev"); (case h2=>exact rfl); (case h3=>exact rfl))
 | ((with_reducible refine' newc_go ?h1 ?h2 ?h3 ?h4); (case h1=>walk_at "ev"); (case h2=>exact rfl); (case h3=>exact rfl); (case h4=>exact rfl))
 | ((with_reducible refine' sX ?h1 ?h2 ?h3); (case h1=>walk_at "ev"); (case h2=>exact rfl); (case h3=>exact rfl))
 | ((with_reducible refine' iof_go ?h1 ?h2 ?h3); (case h1=>walk_at "ev"); (case h2=>exact rfl); (case h3=>exact rfl))
 | exact rfl
 | assumption)
local macro_rules | `(tactic| walk_at "call")=>`(tactic| first | assumption | exact rfl)
section
variable [HK]
def Sg (s:Str):Prop:=s = "+" \/ s = "-" \/ s = "*" \/ s = "<" \/ s = "="
def rk (s:Str) (a b:Int):Int:=if s = "+" then (a+b)%(1000000000000:Int) else if s = "-" then (a-b)%(1000000000000:Int) else if s = "*" then a*b%(1000000000000:Int) else if s = "<" then (if a<b then 1 else 0) else (if a=b then 1 else 0)
theorem Ou {c:TF} {f g:EF} {ρ ρ1:Ev} (h:c ρ=some (true,ρ1)):pB c f g ρ=f ρ1:=by unfold pB; rw[h,aab,aca rfl]
theorem HH {c:TF} {f g:EF} {ρ ρ1:Ev} (h:c ρ=some (false,ρ1)):pB c f g ρ=g ρ1:=by unfold pB; rw[h,aab,acb aaS]
theorem Xz {s:Str} {a b:Int}:0<=rk s a b/\rk s a b<(1000000000000:Int):=by
 unfold rk;have h1:=aaY (a+b) (b:=(1000000000000:Int)) (by decide);have h2:=aaT (a+b) (b:=(1000000000000:Int)) (by decide);have h3:=aaY (a-b) (b:=(1000000000000:Int)) (by decide);have h4:=aaT (a-b) (b:=(1000000000000:Int)) (by decide);have h5:=aaY (a*b) (b:=(1000000000000:Int)) (by decide);have h6:=aaT (a*b) (b:=(1000000000000:Int)) (by decide);split
 . exact⟨h1,h2⟩
 . split
   . exact⟨h3,h4⟩
   . split
     . exact⟨h5,h6⟩
     . split
       . split<;>decide
       . split<;>decide
theorem xX {f:EF} {a b:Str} {ρ ρ1:Ev} (h:f ρ=some (.sh (.str a),ρ1)) (e:(a==b)=true):tT (aB kI f (eC (.str b))) bA ρ=some (true,ρ1):=Bg (l:=.sh (.bl true)) (cz h rfl (by show some (Lc.sh (.bl (a==b)))=_; rw[e])) rfl
theorem pM {f:EF} {a b:Str} {ρ ρ1:Ev} (h:f ρ=some (.sh (.str a),ρ1)) (e:(a==b)=false):tT (aB kI f (eC (.str b))) bA ρ=some (false,ρ1):=Bg (l:=.sh (.bl false)) (cz h rfl (by show some (Lc.sh (.bl (a==b)))=_; rw[e])) rfl
theorem XC {f:EF} {a b:Int} {ρ ρ1:Ev} (h:f ρ=some (.sh (.int a),ρ1)):tT (aB kI f (eC (.int b))) bA ρ=some (decide (a=b),ρ1):=Bg (l:=.sh (.bl (a==b))) (cz h rfl rfl) (by show some (a==b)=_; rfl)
theorem U5 {s:Str} {a b:Int} {mu:Mu} (hs:Sg s) (ha:0<=a) (ha2:a<(1000000000000:Int)):vP [.str s,.int a,.int b] mu=some (.sh (.int (rk s a b)),mu):=by
 have lt:∀(f:Int->Int->PV),tT (aB oA (aa 1) (aa 2)) bA ⟨[some (.sh (.str s)),some (.sh (.int a)),some (.sh (.int b))],mu⟩=some (decide (a<b),⟨[some (.sh (.str s)),some (.sh (.int a)),some (.sh (.int b))],mu⟩):=λ_=>rfl;have eq:tT (aB kI (aa 1) (aa 2)) bA ⟨[some (.sh (.str s)),some (.sh (.int a)),some (.sh (.int b))],mu⟩=some (a==b,⟨[some (.sh (.str s)),some (.sh (.int a)),some (.sh (.int b))],mu⟩):=rfl;have no:∀(t:Str) (f g:SF),(s==t)=false->aK (cO (tT (aB kI (aa 0) (eC (.str t))) bA) f cV) g ⟨[some (.sh (.str s)),some (.sh (.int a)),some (.sh (.int b))],mu⟩=g ⟨[some (.sh (.str s)),some (.sh (.int a)),some (.sh (.int b))],mu⟩:=λt f g h=>
  yp ((cL (pM (a:=s) rfl h)).trans rfl)
 have yes:∀(t:Str) (f g:SF) (r:Lc) (ρ:Ev),(s==t)=true->f ⟨[some (.sh (.str s)),some (.sh (.int a)),some (.sh (.int b))],mu⟩=some (.rt r ρ)->aK (cO (tT (aB kI (aa 0) (eC (.str t))) bA) f cV) g ⟨[some (.sh (.str s)),some (.sh (.int a)),some (.sh (.int b))],mu⟩=some (.rt r ρ):=λt f g r ρ h h2=>
  gk ((d9 (xX (a:=s) rfl h)).trans h2)
 refine aW (ρ:=⟨[some (.sh (.str s)),some (.sh (.int a)),some (.sh (.int b))],mu⟩) ?_;rcases hs with rfl | rfl | rfl | rfl | rfl
 . exact yes _ _ _ _ _ (by decide +kernel) (bL (cz (cz rfl rfl (oK _ _)) rfl (gj (by decide))))
 . refine(no _ _ _ (by decide +kernel)).trans ?_;exact yes _ _ _ _ _ (by decide +kernel) (bL (cz (cz rfl rfl rfl) rfl (gj (by decide))))
 . refine(no _ _ _ (by decide +kernel)).trans ((no _ _ _ (by decide +kernel)).trans ?_);exact yes _ _ _ _ _ (by decide +kernel) (bL (cz (cz rfl rfl (Bf (by omega) (by omega))) rfl (gj (by decide))))
 . refine(no _ _ _ (by decide +kernel)).trans ((no _ _ _ (by decide +kernel)).trans ((no _ _ _ (by decide +kernel)).trans ?_));refine yes _ _ _ _ _ (by decide +kernel) (bL ?_);unfold pB;rw[lt (λ_ _=>.non),aab];have e:rk "<" a b=if a<b then 1 else 0:=rfl
   rw[e];by_cases h:a<b
   . rw[acf h,aca h,aca rfl]; rfl
   . rw[ace h,acb h,acb aaS]; rfl
 . refine(no _ _ _ (by decide +kernel)).trans ((no _ _ _ (by decide +kernel)).trans ((no _ _ _ (by decide +kernel)).trans ((no _ _ _ (by decide +kernel)).trans (bL ?_))));unfold pB;rw[eq,aab];have e:rk "=" a b=if a=b then 1 else 0:=rfl
   rw[e];by_cases h:a=b
   . rw[aca h,aca (show ((a==b,_):Bool×Ev).1=true from beq_iff_eq.mpr h)]; rfl
   . rw[acb h,acb (show ¬ ((a==b,_):Bool×Ev).1=true from λq=>h (beq_iff_eq.mp q))]; rfl
theorem Sg.no {s:Str} (h:Sg s):(s == "num")=false/\(s == "box")=false/\(s == "@")=false:=by rcases h with rfl | rfl | rfl | rfl | rfl<;>decide +kernel
theorem XF {n:Nat} {d v:PV} {mu:Mu}:cX (n+1) [.tup [.str "num",v],d] mu=some (.sh v,mu):=
 aW (ρ:=⟨[some (.sh (.tup [.str "num",v])),some (.sh d)],mu⟩) (gk ((d9 (xX (a := "num") rfl (by decide +kernel))).trans (bL rfl)))
def Dc (d:PV) (l:PD):Prop:=(∃ks ps,d=.dk ks ps/\l=ks.zip ps)\/∃ks ps,d=.df ks ps/\l=ks.zip ps
theorem qO {fa fb:EF} {ρ ρ1 ρ2:Ev} {x y:Lc} {l:PD} {k:Key} {p:PV} (h1:fa ρ=some (x,ρ1)) (h2:fb ρ1=some (y,ρ2)) (hd:Dc x.pv l) (hk:oM y.pv=some k) (hv:bI l k=some p):bH fa fb ρ=some (.sh p,ρ2):=by
 unfold bH;rw[h1,aab];dsimp only;rw[h2,aab];rcases hd with ⟨ks,ps,e,rfl⟩ | ⟨ks,ps,e,rfl⟩
 . rw[e];dsimp only;rw[hk,aab,hv];rfl
 . rw[e];dsimp only;rw[hk,aab,hv];rfl
theorem XH {n:Nat} {d:PV} {l:PD} {x:Str} {p:PV} {mu:Mu} (hd:Dc d l) (h:bI l (.inr x)=some p):cX (n+1) [.tup [.str "box",.str x],d] mu=some (.sh p,mu):=
 aW (ρ:=⟨[some (.sh (.tup [.str "box",.str x])),some (.sh d)],mu⟩) (aD (ρ':=⟨[some (.sh (.tup [.str "box",.str x])),some (.sh d)],mu⟩) ((cL (pM (a := "box") rfl (by decide +kernel))).trans rfl) (gk ((d9 (xX (a := "box") rfl (by decide +kernel))).trans (bL (qO (x:=.sh d) (y:=.sh (.str x)) rfl rfl hd rfl h)))))
theorem U6 {n:Nat} {d e1 e2:PV} {s:Str} {a b:Int} {mu:Mu} (hs:Sg s) (ha:0<=a) (ha2:a<(1000000000000:Int)) (h1:cX n [e1,d] mu=some (.sh (.int a),mu)) (h2:cX n [e2,d] mu=some (.sh (.int b),mu)):cX (n+1) [.tup [.str s,e1,e2],d] mu=some (.sh (.int (rk s a b)),mu):=by obtain⟨n1,n2,n3⟩:=hs.no;refine aW (ρ:=⟨[some (.sh (.tup [.str s,e1,e2])),some (.sh d)],mu⟩) (aD (ρ':=⟨[some (.sh (.tup [.str s,e1,e2])),some (.sh d)],mu⟩) ((cL (pM (a:=s) rfl n1)).trans rfl) (aD (ρ':=⟨[some (.sh (.tup [.str s,e1,e2])),some (.sh d)],mu⟩) ((cL (pM (a:=s) rfl n2)).trans rfl) (aD (ρ':=⟨[some (.sh (.tup [.str s,e1,e2])),some (.sh d)],mu⟩) ((cL (pM (a:=s) rfl n3)).trans rfl) (bL ?_))));exact aU (ps:=[.str s,.int a,.int b]) (aA rfl (aA (aU (ps:=[e1,d]) (aA rfl (aA rfl rfl)) rfl rfl rfl h1) (aA (aU (ps:=[e2,d]) (aA rfl (aA rfl rfl)) rfl rfl rfl h2) rfl))) rfl rfl rfl (U5 hs ha ha2)
theorem iI {b:BF} {body:SF} {x:PV} {xs:List PV} {ρ ρ1 ρ2:Ev} {R:Option Fl} (h1:b x ρ=some ρ1) (h2:body ρ1=some (.nx ρ2)) (h3:gY b body xs ρ2=R):gY b body (x::xs) ρ=R:=by show (b x ρ).bind _=R;rw[h1,aab,h2,aab];exact h3
theorem dZ {f g:EF} {d:DF} {ρ ρ1 ρ2 ρ3:Ev} {x y:Lc} {zs:List (Lc×Lc)} (h1:f ρ=some (x,ρ1)) (h2:g ρ1=some (y,ρ2)) (h3:d ρ2=some (zs,ρ3)):bD f g d ρ=some ((x,y)::zs,ρ3):=by unfold bD;rw[h1,aab];dsimp only;rw[h2,aab];dsimp only;rw[h3];rfl
theorem XJ {ns:List Int} {i:Int} (h0:0<=i) (h1:i<ns.length):∃c,uF (.lst (ns.map .int)) (.int i)=some (.sh (.int c)):=by obtain⟨x,e,e2⟩:=zy (l:=ns.map PV.int) (i:=i) h0 (by rw[aag]; exact h1);rw[aaJ]at e2;obtain⟨c,_,rfl⟩:=acj e2;exact⟨c,by show (gw (ns.map PV.int) i).map _=_; rw[e]; rfl⟩
theorem FQ {p q:PV} {fa fb:EF} {ρ ρ1 ρ2:Ev} {l m r:Lc} (h1:fa ρ=some (l,ρ1)) (hx:l.pv=p) (h2:fb ρ1=some (m,ρ2)) (hy:m.pv=q) (hn:(∀n,p≠.ptr n)/\(∀k s,p≠.dk k s)/\∀k s,p≠.df k s) (h3:uF p q=some r):bH fa fb ρ=some (r,ρ2):=by
 have e:=mz (fa:=λ_=>some (l,ρ1)) (fb:=λ_=>some (m,ρ2)) (ρ:=ρ) rfl hx rfl hy hn.1 h3;unfold bH;rw[h1,aab];dsimp only;rw[h2,aab];split
 . rename_i ks ps q; rw[hx]at q; exact(hn.2.1 _ _ q).elim
 . rename_i ks ps q; rw[hx]at q; exact(hn.2.2 _ _ q).elim
 . exact e
theorem BJ {ps:List PV}:(∀n,PV.lst ps≠.ptr n)/\(∀k s,PV.lst ps≠.dk k s)/\∀k s,PV.lst ps≠.df k s:=⟨λn h=>(by cases h),λ_ _ h=>(by cases h),λ_ _ h=>(by cases h)⟩
theorem mY {a b:Int} (h:0<b) (h2:b<18446744073709551616):dM (.int a) (.int b)=some (.sh (.int (a/b))):=by show (if decide (0<b/\b<18446744073709551616)=true then _ else _)=_;rw[aca (acf ⟨h,h2⟩)]
theorem cell_eq {ns:List Int} {k:Int} (hn:ns.length<=63) (h0:0<=k) (h1:k<100000):∃c,0<=c/\c<2147483629/\∀mu:Mu,cT [.lst (ns.map .int),.int k] mu=some (.sh (.int c),mu):=by
 have hN:(ns.map PV.int).length=ns.length:=aag ..;have ln:∀(o:List (Option Lc)) (mu:Mu),gm (aa 0) ⟨some (.sh (.lst (ns.map .int)))::o,mu⟩=some (.sh (.int ns.length),⟨some (.sh (.lst (ns.map .int)))::o,mu⟩):=λo mu=>by show some (Lc.sh (.int ((ns.map PV.int).length:Nat)),_)=_;rw[hN];rfl
 have fin:∀(c d:Int) (mu:Mu),(k/(max 1 (ns.length:Int)))=d->bT (aB cI (aB eX (aB jw (aa 2) (eC (.int 69621))) (aB jw (aB dM (aa 1) (eB max2 (aj (eC (.int 1)) (aj (gm (aa 0)) ao)))) (eC (.int 40014)))) (eC (.int 2147483629))) ⟨[some (.sh (.lst (ns.map .int))),some (.sh (.int k)),some (.sh (.int c))],mu⟩=
  some (.rt (.sh (.int ((c*69621+d*40014)%2147483629))) ⟨[some (.sh (.lst (ns.map .int))),some (.sh (.int k)),some (.sh (.int c))],mu⟩):=λc d mu hd=>by
  have mx:eB max2 (aj (eC (.int 1)) (aj (gm (aa 0)) ao)) ⟨[some (.sh (.lst (ns.map .int))),some (.sh (.int k)),some (.sh (.int c))],mu⟩=some (.sh (.int (max 1 (ns.length:Int))),⟨[some (.sh (.lst (ns.map .int))),some (.sh (.int k)),some (.sh (.int c))],mu⟩):=by
   refine rB (ls:=[.sh (.int 1),.sh (.int ns.length)]) (ps:=[.int 1,.int ns.length]) (aA rfl (aA (ln _ _) rfl)) rfl ?_;show some (Lc.sh (.int (if (ns.length:Int)>1 then (ns.length:Int) else 1)))=_;have:(if (ns.length:Int)>1 then (ns.length:Int) else 1)=max 1 (ns.length:Int):=by split<;>omega
   rw[this]
  have hmx:0<max 1 (ns.length:Int)/\max 1 (ns.length:Int)<18446744073709551616:=by omega
  refine bL (cz (cz (cz rfl rfl (uJ (by decide) (by decide))) (cz (l:=.sh (.int (d*40014))) (cz (l:=.sh (.int d)) rfl mx ?_) rfl (uJ (by decide) (by decide))) (oK _ _)) rfl (gj (by decide)));rw[<-hd];exact mY hmx.1 hmx.2
 have st1:∀mu:Mu,aV 2 (aB eX (aB eX (aB jw (aa 1) (aa 1)) (aB jw (eC (.int 11)) (aa 1))) (eC (.int 3))) (env0 3 [.lst (ns.map .int),.int k] mu)=some (.nx ⟨[some (.sh (.lst (ns.map .int))),some (.sh (.int k)),some (.sh (.int (k*k+11*k+3)))],mu⟩):=λmu=>
  cA (cz (cz (cz rfl rfl (Bf (by omega) (by omega))) (cz rfl rfl (Bf (by decide) (by decide))) (oK _ _)) rfl (oK _ _)) rfl rfl
 have tst:∀(mu:Mu) (c:Int),tT (aB qe (gm (aa 0)) (eC (.int 0))) bA ⟨[some (.sh (.lst (ns.map .int))),some (.sh (.int k)),some (.sh (.int c))],mu⟩=some (decide ((0:Int)<ns.length),⟨[some (.sh (.lst (ns.map .int))),some (.sh (.int k)),some (.sh (.int c))],mu⟩):=λmu c=>
  di (cz (ln _ _) rfl rfl) rfl rfl
 by_cases hz:(0:Int)<ns.length
 . have hm0:=aaY k (b:=ns.length) (by omega);have hm1:=aaT k (b:=ns.length) hz;obtain⟨x,ex⟩:=XJ hm0 hm1;have st3:∀(mu:Mu) (c:Int),aV 2 (aB eX (aB cI (bH (aa 0) (aB cI (aa 1) (gm (aa 0)))) (eC (.int 1000000000039))) (aB jw (aB dM (aa 1) (gm (aa 0))) (eC (.int 7907)))) ⟨[some (.sh (.lst (ns.map .int))),some (.sh (.int k)),some (.sh (.int c))],mu⟩=some (.nx ⟨[some (.sh (.lst (ns.map .int))),some (.sh (.int k)),some (.sh (.int (x%1000000000039+k/ns.length*7907)))],mu⟩):=λmu c=>
    cA (ρ1:=⟨[some (.sh (.lst (ns.map .int))),some (.sh (.int k)),some (.sh (.int c))],mu⟩) (cz (cz (x:=.sh (.int x)) (y:=.sh (.int 1000000000039)) (FQ (p:=.lst (ns.map .int)) (m:=.sh (.int (k%ns.length))) rfl rfl (cz (x:=.sh (.int k)) (y:=.sh (.int ns.length)) rfl (ln _ _) (gj hz)) rfl BJ ex) rfl (gj (by decide))) (cz (x:=.sh (.int (k/ns.length))) (y:=.sh (.int 7907)) (cz (x:=.sh (.int k)) (y:=.sh (.int ns.length)) rfl (ln _ _) (mY hz (by omega))) rfl (uJ (by decide) (by decide))) (oK _ _)) rfl rfl
   exact⟨_,aaY _ (by decide),aaT _ (by decide),λmu=>aW (aD (st1 mu) (aD ((d9 ((tst mu _).trans (by rw[acf hz]<;>rfl))).trans (st3 mu _)) (fin _ _ mu rfl)))⟩
 . refine⟨_,aaY _ (by decide),aaT _ (by decide),λmu=>aW (ρ:=⟨[some (.sh (.lst (ns.map .int))),some (.sh (.int k)),some (.sh (.int (k*k+11*k+3)))],mu⟩) (aD (st1 mu) (aD ((cL ((tst mu _).trans (by rw[ace hz]<;>rfl))).trans rfl) (fin _ _ mu rfl)))⟩
def pY (c:Int):Int:=if c%4=0 then c/4%6 else if c%4=1 then (1000000000000:Int)-1-c/4%4 else if c%4=2 then 999997+c/4%7 else c*465661287%(1000000000000:Int)
theorem zQ (c:Int):0<=pY c/\pY c<(1000000000000:Int):=by
 have h5:=aaY (c*465661287) (b:=(1000000000000:Int)) (by decide);have h6:=aaT (c*465661287) (b:=(1000000000000:Int)) (by decide);unfold pY;split
 . omega
 . split
   . omega
   . split
     . omega
     . exact⟨h5,h6⟩
theorem Em (c:Int) (mu:Mu):fX [.int c] mu=some (.sh (.int (pY c)),mu):=by
 have st:aV 1 (aB cI (aa 0) (eC (.int 4))) (env0 2 [.int c] mu)=some (.nx ⟨[some (.sh (.int c)),some (.sh (.int (c%4)))],mu⟩):=cA (cz rfl rfl (gj (by decide))) rfl rfl;have no:∀(t:Int) (f g:SF),¬ c%4=t->aK (cO (tT (aB kI (aa 1) (eC (.int t))) bA) f cV) g ⟨[some (.sh (.int c)),some (.sh (.int (c%4)))],mu⟩=g ⟨[some (.sh (.int c)),some (.sh (.int (c%4)))],mu⟩:=λt f g h=>
  yp ((cL ((XC (a:=c%4) rfl).trans (by rw[ace h]<;>rfl))).trans rfl)
 have yes:∀(t:Int) (f g:SF) (r:Lc) (ρ:Ev),c%4=t->f ⟨[some (.sh (.int c)),some (.sh (.int (c%4)))],mu⟩=some (.rt r ρ)->aK (cO (tT (aB kI (aa 1) (eC (.int t))) bA) f cV) g ⟨[some (.sh (.int c)),some (.sh (.int (c%4)))],mu⟩=some (.rt r ρ):=λt f g r ρ h h2=>
  gk ((d9 ((XC (a:=c%4) rfl).trans (by rw[acf h]<;>rfl))).trans h2)
 have d4:aB dM (aa 0) (eC (.int 4)) ⟨[some (.sh (.int c)),some (.sh (.int (c%4)))],mu⟩=some (.sh (.int (c/4)),⟨[some (.sh (.int c)),some (.sh (.int (c%4)))],mu⟩):=cz rfl rfl (mY (by decide) (by decide));have pw:aB CP (eC (.int 10)) (eC (.int 12)) ⟨[some (.sh (.int c)),some (.sh (.int (c%4)))],mu⟩=some (.sh (.int (1000000000000:Int)),⟨[some (.sh (.int c)),some (.sh (.int (c%4)))],mu⟩):=rfl;refine aW (ρ:=⟨[some (.sh (.int c)),some (.sh (.int (c%4)))],mu⟩) (aD st ?_);by_cases e0:c%4=0
 . rw[show pY c=c/4%6 from aca e0];exact yes 0 _ _ _ _ e0 (bL (cz d4 rfl (gj (by decide))))
 . by_cases e1:c%4=1
   . rw[show pY c=(1000000000000:Int)-1-c/4%4 from (acb e0).trans (aca e1)];exact(no 0 _ _ e0).trans (yes 1 _ _ _ _ e1 (bL (cz (cz pw rfl rfl) (cz d4 rfl (gj (by decide))) rfl)))
   . by_cases e2:c%4=2
     . rw[show pY c=999997+c/4%7 from (acb e0).trans ((acb e1).trans (aca e2))];exact(no 0 _ _ e0).trans ((no 1 _ _ e1).trans (yes 2 _ _ _ _ e2 (bL (cz rfl (cz d4 rfl (gj (by decide))) (oK _ _)))))
     . rw[show pY c=c*465661287%(1000000000000:Int) from (acb e0).trans ((acb e1).trans (acb e2))];exact(no 0 _ _ e0).trans ((no 1 _ _ e1).trans ((no 2 _ _ e2).trans (bL (cz (cz rfl rfl (uJ (by decide) (by decide))) pw (gj (by decide))))))
theorem Ov (c:Int):∃v,0<=v/\v<(1000000000000:Int)/\∀mu:Mu,fX [.int c] mu=some (.sh (.int v),mu):=⟨pY c,(zQ c).1,(zQ c).2,Em c⟩
def mD (rs:List Int) (i:Int):Int:=rs.getD i.toNat 0
theorem U7 {rs:List Int} {i:Int} (h0:0<=i) (h1:i<rs.length):uF (.lst (rs.map .int)) (.int i)=some (.sh (.int (mD rs i))):=by
 obtain⟨x,e,e2⟩:=zy (l:=rs.map PV.int) (i:=i) h0 (by rw[aag]; exact h1);rw[aaJ]at e2;obtain⟨c,hc,rfl⟩:=acj e2;show (gw (rs.map PV.int) i).map _=_;rw[e];have:mD rs i=c:=by unfold mD; rw[abA,hc]; rfl
 rw[this];rfl
theorem Ow {rs:List Int} {i:Int} (h0:0<=i) (h1:¬ i<rs.length):mD rs i=0:=by unfold mD;rw[abA,abQ (by omega)];rfl
theorem Rk {rs:List Int} {i:Int} (h:∀x∈rs,0<=x/\x<(1000000000000:Int)):0<=mD rs i/\mD rs i<(1000000000000:Int):=by
 unfold mD;rw[abA];cases e:rs[i.toNat]? with
 | none=>decide
 | some x=>exact h x (aa0 e)
theorem HJ {rs:List Int} {i:Int} {mu:Mu} (h0:0<=i):um [.lst (rs.map .int),.int i] mu=some (.sh (.int (mD rs i)),mu):=by
 refine aW (ρ:=⟨[some (.sh (.lst (rs.map .int))),some (.sh (.int i))],mu⟩) (bL ?_);have hl:((rs.map PV.int).length:Int)=rs.length:=by rw[aag]
 have t:tT (nD Bd oA (eC (.int 0)) (aa 1) (gm (aa 0))) bA ⟨[some (.sh (.lst (rs.map .int))),some (.sh (.int i))],mu⟩=some (decide (i<rs.length),⟨[some (.sh (.lst (rs.map .int))),some (.sh (.int i))],mu⟩):=by rw[<-hl];simp[nD,eC,eB,gm,Q4,aj,ao,aa,Ev.set,Lc.pv,Bd,oA,sU,h0,tT,bA]
 by_cases h:i<rs.length
 . exact(Ou (t.trans (by rw[acf h]<;>rfl))).trans (FQ (p:=.lst (rs.map .int)) (m:=.sh (.int i)) rfl rfl rfl rfl BJ (U7 h0 h))
 . rw[Ow h0 h];exact(HH (t.trans (by rw[ace h]<;>rfl))).trans rfl
theorem YW {n:Nat} {d e:PV} {l:PD} {r:Str} {rs:List Int} {i:Int} {mu:Mu} (hd:Dc d l) (h:bI l (.inr r)=some (.lst (rs.map .int))) (h0:0<=i) (h1:cX n [e,d] mu=some (.sh (.int i),mu)):cX (n+1) [.tup [.str "@",.str r,e],d] mu=some (.sh (.int (mD rs i)),mu):=by refine aW (ρ:=⟨[some (.sh (.tup [.str "@",.str r,e])),some (.sh d)],mu⟩) (aD (ρ':=⟨[some (.sh (.tup [.str "@",.str r,e])),some (.sh d)],mu⟩) ((cL (pM (a := "@") rfl (by decide +kernel))).trans rfl) (aD (ρ':=⟨[some (.sh (.tup [.str "@",.str r,e])),some (.sh d)],mu⟩) ((cL (pM (a := "@") rfl (by decide +kernel))).trans rfl) (gk ((d9 (xX (a := "@") rfl (by decide +kernel))).trans (bL ?_)))));exact aU (ps:=[.lst (rs.map .int),.int i]) (ls:=[.sh (.lst (rs.map .int)),.sh (.int i)]) (aA (qO (x:=.sh d) (y:=.sh (.str r)) rfl rfl hd rfl h) (aA (aU (ps:=[e,d]) (aA rfl (aA rfl rfl)) rfl rfl rfl h1) rfl)) rfl rfl rfl (HJ h0)
abbrev In (x:Int):Prop:=0<=x/\x<1000000000000
inductive Ex where
 | num (i:Int)
 | box (x:Str)
 | at_ (x:Str) (e:Ex)
 | op (s:Str) (a b:Ex)
def Ex.pv:Ex->PV
 | .num i=>.tup [.str "num",.int i]
 | .box x=>.tup [.str "box",.str x]
 | .at_ x e=>.tup [.str "@",.str x,e.pv]
 | .op s a b=>.tup [.str s,a.pv,b.pv]
def Ex.dp:Ex->Nat
 | .num _=>1
 | .box _=>1
 | .at_ _ e=>e.dp+1
 | .op _ a b=>max a.dp b.dp+1
inductive BV where
 | n (i:Int)
 | l (is:List Int)
def BV.pv:BV->PV
 | .n i=>.int i
 | .l is=>.lst (is.map .int)
def BV.ok:BV->Prop
 | .n i=>In i
 | .l is=>∀i∈is,In i
abbrev Bs:=List (Str×BV)
def look (B:Bs) (x:Str):Option BV:=match B with
 | []=>none
 | (y,v)::B=>if y=x then some v else look B x
def numAt (B:Bs) (x:Str):Int:=match look B x with
 | some (.n i)=>i
 | _=>0
def lstAt (B:Bs) (x:Str):List Int:=match look B x with
 | some (.l is)=>is
 | _=>[]
def ev (B:Bs):Ex->Int
 | .num i=>i
 | .box x=>numAt B x
 | .at_ x e=>mD (lstAt B x) (ev B e)
 | .op s a b=>rk s (ev B a) (ev B b)
def rZ (B:Bs) (x:Str):Prop:=∃i,look B x=some (.n i)
def XM (B:Bs) (x:Str):Prop:=∃is,look B x=some (.l is)
def Ex.ok (B:Bs):Ex->Prop
 | .num i=>In i
 | .box x=>rZ B x
 | .at_ x e=>XM B x/\e.ok B
 | .op s a b=>Sg s/\a.ok B/\b.ok B
structure En (B:Bs):Prop where
 ok:∀q∈B,q.2.ok
 sm:∀q∈B,∀is,q.2=.l is->is.length<=8
theorem vV:∀{B:Bs} {x:Str} {v:BV},look B x=some v->(x,v)∈B
 | (y,w)::B,x,v,h=>by
  unfold look at h;split at h
  . rename_i e; cases h; subst e; exact aac
  . exact aak _ (vV h)
theorem yw {B:Bs} (hB:En B):∀{e:Ex},e.ok B->In (ev B e)
 | .num i,h=>h
 | .box x,⟨i,h⟩=>by show In (numAt B x);unfold numAt;rw[h];exact hB.ok _ (vV h)
 | .at_ x e,⟨⟨is,h⟩,_⟩=>by show In (mD (lstAt B x) (ev B e));unfold lstAt;rw[h];exact Rk (hB.ok _ (vV h))
 | .op s a b,_=>Xz
abbrev bh (B:Bs):List Key:=B.map λq=>.inr q.1
abbrev Zg (B:Bs):PV:=.dk (bh B) (B.map λq=>q.2.pv)
theorem Dm:∀{B:Bs} {f:BV->PV},(bh B).zip (B.map λq=>f q.2)=B.map λq=>(.inr q.1,f q.2)
 | [],_=>rfl
 | q::B,f=>by show (Sum.inr q.1,f q.2)::(bh B).zip (B.map λq=>f q.2)=_;rw[Dm];rfl
theorem Dn:∀{B:Bs} {x:Str},bI (B.map λq=>(Sum.inr q.1,q.2.pv)) (.inr x)=(look B x).map BV.pv
 | [],_=>rfl
 | (y,v)::B,x=>by
  show (if (Sum.inr y:Key)=.inr x then some v.pv else bI (B.map λq=>(Sum.inr q.1,q.2.pv)) (.inr x))=(if y=x then some v else look B x).map BV.pv;by_cases e:y=x
  . rw[aca (by rw[e]),aca e]; rfl
  . rw[acb (λh=>e (Sum.inr.inj h)),acb e]; exact Dn
theorem value_eq {B:Bs} (hB:En B):∀{e:Ex} {n:Nat} {mu:Mu},e.ok B->e.dp<=n->cX n [e.pv,Zg B] mu=some (.sh (.int (ev B e)),mu)
 | .num i,n,mu,h,hn=>by obtain⟨m,rfl⟩:∃m,n=m+1:=⟨n-1,by unfold Ex.dp at hn; omega⟩;exact XF
 | .box x,n,mu,⟨i,h⟩,hn=>by obtain⟨m,rfl⟩:∃m,n=m+1:=⟨n-1,by unfold Ex.dp at hn; omega⟩;refine XH (.inl ⟨_,_,rfl,rfl⟩) (p:=.int (numAt B x)) ?_;rw[Dm (f:=BV.pv),Dn];unfold numAt;rw[h];rfl
 | .at_ x e,n,mu,⟨⟨is,h⟩,he⟩,hn=>by obtain⟨m,rfl⟩:∃m,n=m+1:=⟨n-1,by unfold Ex.dp at hn; omega⟩;refine YW (.inl ⟨_,_,rfl,rfl⟩) (rs:=lstAt B x) ?_ (yw hB he).1 (value_eq hB he (by unfold Ex.dp at hn; omega));rw[Dm (f:=BV.pv),Dn];unfold lstAt;rw[h];rfl
 | .op s a b,n,mu,⟨hs,ha,hb⟩,hn=>by obtain⟨m,rfl⟩:∃m,n=m+1:=⟨n-1,by unfold Ex.dp at hn; omega⟩;exact U6 hs (yw hB ha).1 (yw hB ha).2 (value_eq hB ha (by unfold Ex.dp at hn; omega)) (value_eq hB hb (by unfold Ex.dp at hn; omega))
theorem lookB {B:Bs} {x:Str} {v:BV} (h:look B x=some v):bI ((bh B).zip (B.map λq=>q.2.pv)) (.inr x)=some v.pv:=by rw[Dm (f:=BV.pv),Dn,h];rfl
theorem c2 {α:Type} {a b:α} {l m:List α} (h:a=b) (g:l=m):a::l=b::m:=by rw[h,g]
theorem pN {y z:Str} {w:BV} {B:Bs}:look ((z,w)::B) y=if z=y then some w else look B y:=rfl
def setB (B:Bs) (x:Str) (v:BV):Bs:=B.map λq=>if q.1=x then (q.1,v) else q
theorem vW {x:Str} {v:BV}:∀{B:Bs} {y:Str},look (setB B x v) y=if y=x then (look B x).map (λ_=>v) else look B y
 | [],y=>by show none=_;split<;>rfl
 | (z,w)::B,y=>by
  have ih:=vW (x:=x) (v:=v) (B:=B) (y:=y);show look ((if z=x then (z,v) else (z,w))::setB B x v) y=_;by_cases e:z=x
  . rw[aca e];show (if z=y then some v else look (setB B x v) y)=_;by_cases e2:z=y
    . have e3:y=x:=by rw[<-e2,e]
      rw[aca e2,aca e3,pN,aca e];rfl
    . have e3:¬ y=x:=λh=>e2 (by rw[e,h]);rw[acb e2,ih,acb e3,acb e3,pN,acb e2]
  . rw[acb e];show (if z=y then some w else look (setB B x v) y)=_;by_cases e2:z=y
    . have e3:¬ y=x:=λh=>e (by rw[e2,h]);rw[aca e2,acb e3,pN,aca e2]
    . rw[acb e2,ih];split
      . rw[pN,acb e]
      . rw[pN,acb e2]
theorem Ox {B:Bs} {x:Str} {v:BV}:bh (setB B x v)=bh B:=by unfold bh setB;rw[aaX];refine aaU λq _=>?_;show (Sum.inr (if q.1=x then (q.1,v) else q).1:Key)=_;split<;>rfl
theorem Oz {B:Bs} {x:Str} {v:BV}:(setB B x v).map (·.1)=B.map (·.1):=by unfold setB;rw[aaX];refine aaU λq _=>?_;show (if q.1=x then (q.1,v) else q).1=_;split<;>rfl
def wj (B C:Bs):Prop:=(∀x,rZ B x->rZ C x)/\∀x,XM B x->XM C x
theorem wj.refl {B:Bs}:wj B B:=⟨λ_ h=>h,λ_ h=>h⟩
theorem wj.trans {A B C:Bs} (h:wj A B) (g:wj B C):wj A C:=⟨λx q=>g.1 x (h.1 x q),λx q=>g.2 x (h.2 x q)⟩
theorem wj.ex {B C:Bs} (h:wj B C):∀{e:Ex},e.ok B->e.ok C
 | .num _,q=>q
 | .box x,q=>h.1 x q
 | .at_ x e,q=>⟨h.2 x q.1,wj.ex h q.2⟩
 | .op s a b,q=>⟨q.1,wj.ex h q.2.1,wj.ex h q.2.2⟩
theorem YX {B:Bs} {x:Str} {v:Int} (h:rZ B x):wj B (setB B x (.n v)):=by
 obtain⟨i,h⟩:=h;refine⟨λy ⟨j,q⟩=>?_,λy ⟨j,q⟩=>?_⟩
 . by_cases e:y=x
   . exact⟨v,by rw[vW,aca e,h]; rfl⟩
   . exact⟨j,by rw[vW,acb e,q]⟩
 . by_cases e:y=x
   . rw[e,h]at q; cases q
   . exact⟨j,by rw[vW,acb e,q]⟩
theorem En.set {B:Bs} (h:En B) {x:Str} {v:BV} (hv:v.ok) (hl:∀is,v=.l is->is.length<=8):En (setB B x v):=by
 have key:∀q∈setB B x v,q.2=v\/q∈B:=λq hq=>by
  obtain⟨p,hp,e⟩:=aaH.mp hq;by_cases c:p.1=x
  . rw[aca c]at e; exact .inl (by rw[<-e])
  . rw[acb c]at e; exact .inr (e▸hp)
 refine⟨λq hq=>?_,λq hq is e=>?_⟩
 . rcases key q hq with h' | h'
   . rw[h']; exact hv
   . exact h.ok q h'
 . rcases key q hq with h' | h'
   . exact hl is (by rw[<-h',e])
   . exact h.sm q h' is e
def CB (mu:Mu) (hi:Nat):Nat->Bs->List PV->Prop
 | _,[],ps=>ps=[]
 | lo,(_,.n i)::B,ps=>∃r,ps=.int i::r/\CB mu hi lo B r
 | lo,(_,.l is)::B,ps=>∃c r,ps=.ptr c::r/\lo<=c/\c<hi/\mu[c]?=some (some (.lst (is.map .int)))/\CB mu hi (c+1) B r
theorem CB.lo {mu:Mu} {hi:Nat}:∀{lo lo':Nat} {B:Bs} {ps:List PV},lo'<=lo->CB mu hi lo B ps->CB mu hi lo' B ps
 | lo,lo',[],ps,_,h=>h
 | lo,lo',(_,.n i)::B,ps,hl,⟨r,e,h⟩=>⟨r,e,CB.lo hl h⟩
 | lo,lo',(_,.l is)::B,ps,hl,⟨c,r,e,h1,h2,h3,h⟩=>⟨c,r,e,by omega,h2,h3,h⟩
theorem CB.frame {mu mu':Mu} {hi:Nat}:∀{lo:Nat} {B:Bs} {ps:List PV},(∀c,lo<=c->c<hi->mu'[c]?=mu[c]?)->CB mu hi lo B ps->CB mu' hi lo B ps
 | lo,[],ps,_,h=>h
 | lo,(_,.n i)::B,ps,f,⟨r,e,h⟩=>⟨r,e,CB.frame f h⟩
 | lo,(_,.l is)::B,ps,f,⟨c,r,e,h1,h2,h3,h⟩=>⟨c,r,e,h1,h2,by rw[f c h1 h2]; exact h3,CB.frame (λd q1 q2=>f d (by omega) q2) h⟩
theorem CB.len {mu:Mu} {hi:Nat}:∀{lo:Nat} {B:Bs} {ps:List PV},CB mu hi lo B ps->ps.length=B.length
 | lo,[],ps,h=>by have h:ps=[]:=h; subst h; rfl
 | lo,(_,.n i)::B,ps,⟨r,e,h⟩=>by subst e; rw[aae,aae,h.len]
 | lo,(_,.l is)::B,ps,⟨c,r,e,h1,h2,h3,h⟩=>by subst e; rw[aae,aae,h.len]
theorem yx {mu:Mu} {i:Int}:∀k,aN mu k (.int i)=.int i
 | 0=>rfl
 | _+1=>rfl
theorem HN {mu:Mu} {is:List Int}:∀k,aN mu k (.lst (is.map .int))=.lst (is.map .int)
 | 0=>rfl
 | k+1=>by show PV.lst ((is.map PV.int).map (aN mu k))=_;rw[aaX];exact congrArg PV.lst (aaU λi _=>yx k)
theorem CB.res {mu:Mu} {hi k:Nat}:∀{lo:Nat} {B:Bs} {ps:List PV},CB mu hi lo B ps->ps.map (aN mu (k+1))=B.map λq=>q.2.pv
 | lo,[],ps,h=>by have h:ps=[]:=h; subst h; rfl
 | lo,(_,.n i)::B,ps,⟨r,e,h⟩=>by subst e; exact c2 rfl h.res
 | lo,(_,.l is)::B,ps,⟨c,r,e,h1,h2,h3,h⟩=>by subst e;refine c2 ?_ h.res;show (match mu[c]? with | some (some p)=>aN mu k p | _=>.ptr c)=_;rw[h3];exact HN k
theorem CB.val {mu:Mu} {hi:Nat} {x:Str}:∀{lo:Nat} {B:Bs} {ps:List PV},CB mu hi lo B ps->(∀i,look B x=some (.n i)->bI ((bh B).zip ps) (.inr x)=some (.int i))/\∀is,look B x=some (.l is)->∃c,bI ((bh B).zip ps) (.inr x)=some (.ptr c)/\lo<=c/\c<hi/\mu[c]?=some (some (.lst (is.map .int)))
 | lo,[],ps,h=>⟨λi q=>(by cases q),λi q=>(by cases q)⟩
 | lo,(y,.n i)::B,ps,⟨r,e,h⟩=>by
  subst e;have ih:=h.val (x:=x);have ev:bI ((bh ((y,BV.n i)::B)).zip (.int i::r)) (.inr x)=if (Sum.inr y:Key)=.inr x then some (.int i) else bI ((bh B).zip r) (.inr x):=rfl
  have el:look ((y,BV.n i)::B) x=if y=x then some (.n i) else look B x:=rfl
  rw[ev,el];by_cases e:y=x
  . rw[aca e,aca (congrArg Sum.inr e)];exact⟨λj q=>by (cases q; rfl),λjs q=>by (cases q)⟩
  . rw[acb e,acb (λh=>e (Sum.inr.inj h))];exact ih
 | lo,(y,.l is)::B,ps,⟨c,r,e,h1,h2,h3,h⟩=>by
  subst e;have ih:=h.val (x:=x);have ev:bI ((bh ((y,BV.l is)::B)).zip (.ptr c::r)) (.inr x)=if (Sum.inr y:Key)=.inr x then some (.ptr c) else bI ((bh B).zip r) (.inr x):=rfl
  have el:look ((y,BV.l is)::B) x=if y=x then some (.l is) else look B x:=rfl
  rw[ev,el];by_cases e:y=x
  . rw[aca e,aca (congrArg Sum.inr e)];exact⟨λj q=>by (cases q),λjs q=>by (cases q; exact⟨c,rfl,h1,h2,h3⟩)⟩
  . rw[acb e,acb (λh=>e (Sum.inr.inj h))];refine⟨ih.1,λjs q=>?_⟩;obtain⟨d,g1,g2,g3,g4⟩:=ih.2 js q;exact⟨d,g1,by omega,g3,g4⟩
theorem HQ {x:Str}:∀{B:Bs},x∉B.map (·.1)->look B x=none
 | [],_=>rfl
 | (y,v)::B,h=>by have h1:¬ y=x:=λe=>h (by rw[e]; exact aac);unfold look;rw[acb h1];exact HQ λq=>h (aak _ q)
theorem JG {x:Str} {v:BV}:∀{B:Bs},x∉B.map (·.1)->setB B x v=B
 | [],_=>rfl
 | (y,w)::B,h=>by have h1:¬ y=x:=λe=>h (by rw[e]; exact aac);show (if y=x then (y,v) else (y,w))::setB B x v=_;rw[acb h1,JG λq=>h (aak _ q)]
theorem CB.setN {mu:Mu} {hi:Nat} {x:Str} {v:Int}:∀{lo:Nat} {B:Bs} {ps:List PV},(B.map (·.1)).Nodup->(∀is,look B x≠some (.l is))->CB mu hi lo B ps->∃ps',(jG (.inr x) (.int v) ((bh B).zip ps)).map (·.1)=bh B/\(jG (.inr x) (.int v) ((bh B).zip ps)).map (·.2)=ps'/\CB mu hi lo (setB B x (.n v)) ps'
 | lo,[],ps,_,_,h=>by have h:ps=[]:=h; subst h; exact⟨[],rfl,rfl,rfl⟩
 | lo,(y,.n i)::B,ps,nd,hx,⟨r,e,h⟩=>by
  subst e;obtain⟨hy,nd'⟩:=aaP.mp nd;have hx':∀is,look B x≠some (.l is):=λis q=>by
   by_cases e:y=x
   . rw[HQ (e▸hy)]at q; cases q
   . exact hx is (by unfold look; rw[acb e]; exact q)
  obtain⟨r',g1,g2,g3⟩:=CB.setN (v:=v) nd' hx' h;have er:jG (.inr x) (.int v) ((bh ((y,BV.n i)::B)).zip (.int i::r))=(if (Sum.inr y:Key)=.inr x then (Sum.inr y,PV.int v) else (Sum.inr y,.int i))::jG (.inr x) (.int v) ((bh B).zip r):=rfl;rw[er];by_cases e:y=x
  . rw[aca (congrArg Sum.inr e)];refine⟨.int v::r',c2 rfl g1,c2 rfl g2,?_⟩;show CB mu hi lo ((if y=x then (y,BV.n v) else (y,.n i))::setB B x (.n v)) _;rw[aca e];exact⟨r',rfl,g3⟩
  . rw[acb (λh=>e (Sum.inr.inj h))];refine⟨.int i::r',c2 rfl g1,c2 rfl g2,?_⟩;show CB mu hi lo ((if y=x then (y,BV.n v) else (y,.n i))::setB B x (.n v)) _;rw[acb e];exact⟨r',rfl,g3⟩
 | lo,(y,.l is)::B,ps,nd,hx,⟨c,r,e,h1,h2,h3,h⟩=>by subst e;obtain⟨hy,nd'⟩:=aaP.mp nd;have e:¬ y=x:=λe=>hx is (by unfold look; rw[aca e]);have hx':∀js,look B x≠some (.l js):=λjs q=>hx js (by unfold look; rw[acb e]; exact q);obtain⟨r',g1,g2,g3⟩:=CB.setN (v:=v) nd' hx' h;have er:jG (.inr x) (.int v) ((bh ((y,BV.l is)::B)).zip (.ptr c::r))=(if (Sum.inr y:Key)=.inr x then (Sum.inr y,PV.int v) else (Sum.inr y,.ptr c))::jG (.inr x) (.int v) ((bh B).zip r):=rfl;rw[er,acb (λh=>e (Sum.inr.inj h))];refine⟨.ptr c::r',c2 rfl g1,c2 rfl g2,?_⟩;show CB mu hi lo ((if y=x then (y,BV.n v) else (y,.l is))::setB B x (.n v)) _;rw[acb e];exact⟨c,r',rfl,h1,h2,h3,g3⟩
theorem CB.setL {mu:Mu} {hi:Nat} {x:Str} {is js:List Int} {c:Nat}:∀{lo:Nat} {B:Bs} {ps:List PV},(B.map (·.1)).Nodup->look B x=some (.l is)->bI ((bh B).zip ps) (.inr x)=some (.ptr c)->c<mu.length->CB mu hi lo B ps->CB (mu.set c (some (.lst (js.map .int)))) hi lo (setB B x (.l js)) ps
 | lo,[],ps,_,hx,_,_,h=>by cases hx
 | lo,(y,.n i)::B,ps,nd,hx,hc,hl,⟨r,e,h⟩=>by
  subst e;obtain⟨hy,nd'⟩:=aaP.mp nd;have e:¬ y=x:=λe=>by unfold look at hx;rw[aca e]at hx;cases hx
  unfold look at hx;rw[acb e]at hx;have hc:(if (Sum.inr y:Key)=.inr x then some (PV.int i) else bI ((bh B).zip r) (.inr x))=some (.ptr c):=hc;rw[acb (λh=>e (Sum.inr.inj h))]at hc;show CB _ hi lo ((if y=x then (y,BV.l js) else (y,.n i))::setB B x (.l js)) _;rw[acb e];exact⟨r,rfl,CB.setL nd' hx hc hl h⟩
 | lo,(y,.l ks)::B,ps,nd,hx,hc,hl,⟨d,r,e,h1,h2,h3,h⟩=>by
  subst e;obtain⟨hy,nd'⟩:=aaP.mp nd;have hc:(if (Sum.inr y:Key)=.inr x then some (PV.ptr d) else bI ((bh B).zip r) (.inr x))=some (.ptr c):=hc;show CB _ hi lo ((if y=x then (y,BV.l js) else (y,.l ks))::setB B x (.l js)) _;by_cases e:y=x
  . rw[aca (congrArg Sum.inr e)]at hc;cases hc;rw[aca e,JG (e▸hy)];refine⟨c,r,rfl,h1,h2,by rw[aas hl],h.frame λf q1 q2=>?_⟩;rw[aaw (by omega)]
  . unfold look at hx;rw[acb e]at hx;rw[acb (λh=>e (Sum.inr.inj h))]at hc;rw[acb e];obtain⟨c',e1,e2,_⟩:=h.val.2 is hx;rw[hc]at e1;cases e1;exact⟨d,r,rfl,h1,h2,by rw[aaw (by omega)]; exact h3,CB.setL nd' hx hc hl h⟩
theorem JH {α β:Type}:∀l:List (α×β),(l.map (·.1)).zip (l.map (·.2))=l
 | []=>rfl
 | x::l=>by rw[aax,aax,aa8,JH l]
theorem mZ {fo fv:EF} {ρ ρ1 ρ2:Ev} {o y:Lc} {n:Nat} {ws0 ws:List PV} {p:PV} {mu:Mu} (h1:fo ρ=some (o,ρ1)) (ho:o.pv=.ptr n) (hm:ρ1.mu[n]?=some (some (.lst ws0))) (h2:fv ρ1=some (y,ρ2)) (hy:y.pv=p) (hm2:ρ2.mu[n]?=some (some (.lst ws))) (hz:ws.length<100000) (e:ρ2.mu.set n (some (.lst (ws++[p])))=mu):eQ fo fv ρ=some (.nx ⟨ρ2.vs,mu⟩):=by unfold eQ;rw[h1,aab,ho];dsimp only;rw[hm];dsimp only;rw[h2,aab,hm2];dsimp only;rw[aca hz,hy,e]
theorem Do {fo:EF} {ρ ρ1:Ev} {o:Lc} {n:Nat} {ws:List PV} {p:PV} {mu:Mu} (h1:fo ρ=some (o,ρ1)) (ho:o.pv=.ptr n) (hm:ρ1.mu[n]?=some (some (.lst (ws++[p])))) (e:ρ1.mu.set n (some (.lst ws))=mu):tu fo ρ=some (.sh p,⟨ρ1.vs,mu⟩):=by unfold tu;rw[h1,aab,ho];dsimp only;rw[hm];dsimp only;rw[aah,aae,aaF,aav (by omega),List.dropLast_concat,e];simp
theorem U8 {f:EF} {ρ ρ1:Ev} {l:Lc} {n:Nat} {ws:List PV} (h:f ρ=some (l,ρ1)) (hl:l.pv=.ptr n) (hm:ρ1.mu[n]?=some (some (.lst ws))):gm f ρ=some (.sh (.int (ws.length:Nat)),ρ1):=by unfold gm;rw[h,aab,hl];dsimp only;rw[hm]
theorem fU {f:EF} {p:PV} {ρ ρ1:Ev} (h:f ρ=some (.own p,ρ1)):bB f ρ=some (.sh (.ptr ρ1.mu.length),⟨ρ1.vs,ρ1.mu++[some p]⟩):=by unfold bB;rw[h];rfl
theorem oW {C f:Str} {fo fv:EF} {ρ ρ1 ρ2:Ev} {y x:Lc} {p:PV} {n:Nat} {l:FD} (h1:fv ρ=some (y,ρ1)) (hy:y.pv=p) (h2:fo ρ1=some (x,ρ2)) (hx:x.pv=.ptr n) (hm:ρ2.mu[n]?=some (some (bC C l))) (hl:l.length<1000):eU C f fo fv ρ=some (.nx ⟨ρ2.vs,ρ2.mu.set n (some (bC C (nG f p l)))⟩):=by unfold eU;rw[h1,aab,h2,aab,hx];dsimp only;rw[hm];unfold bC;dsimp only;rw[aca ⟨rfl,by rw[aag]; exact hl⟩,JH,hy]
theorem dz {C f:Str} {fo:EF} {ρ ρ1:Ev} {x:Lc} {p:PV} {n:Nat} {l:FD} (h2:fo ρ=some (x,ρ1)) (hx:x.pv=.ptr n) (hm:ρ1.mu[n]?=some (some (bC C l))) (hp:oY l f=some p):cj C f fo ρ=some (.sh p,ρ1):=by unfold cj;rw[h2,aab,hx];dsimp only;rw[hm];unfold bC;dsimp only;rw[aca rfl,JH,hp];rfl
theorem qP {C m:Str} {g:GF} {fo:EF} {a:AF} {ρ ρ1 ρ2:Ev} {x:Lc} {ls:List Lc} {n:Nat} {l:FD} {r:Lc} {mu2:Mu} {ps:List PV} (h1:fo ρ=some (x,ρ1)) (hx:x.pv=.ptr n) (hm:ρ1.mu[n]?=some (some (bC C l))) (hc:(l.map (·.1)).contains m=false) (h2:a ρ1=some (ls,ρ2)) (hps:ls.map Lc.pv=ps) (h3:g (.ptr n::ps) ρ2.mu=some (r,mu2)):cJ C m g fo a ρ=some (r,⟨ρ2.vs,mu2⟩):=by unfold cJ;rw[h1,aab,hx];dsimp only;rw[hm];unfold bC;dsimp only;rw[aca ⟨rfl,hc⟩,h2,aab,hps,h3];rfl
theorem JK {C:Str} {g:GF} {a:AF} {ρ ρ1:Ev} {ls:List Lc} {ps:List PV} {mu2:Mu} (h:a ρ=some (ls,ρ1)) (hps:ls.map Lc.pv=ps) (h2:g (.ptr ρ1.mu.length::ps) (ρ1.mu++[some (bC C [])])=some (.sh .non,mu2)):sZ C g a ρ=some (.sh (.ptr ρ1.mu.length),⟨ρ1.vs,mu2⟩):=by unfold sZ;rw[h,aab,hps];rw[show g (.ptr ρ1.mu.length::ps) (ρ1.mu++[some (.obj C [] [])])=_ from h2];rfl
theorem U9 {fo fv:EF} {ρ ρ1 ρ2:Ev} {o y:Lc} {n:Nat} {ws0 ws ps:List PV} {mu:Mu} (h1:fo ρ=some (o,ρ1)) (ho:o.pv=.ptr n) (hm:ρ1.mu[n]?=some (some (.lst ws0))) (h2:fv ρ1=some (y,ρ2)) (hy:y.pv=.lst ps) (hm2:ρ2.mu[n]?=some (some (.lst ws))) (hz:ws.length+ps.length<=100000) (e:ρ2.mu.set n (some (.lst (ws++ps)))=mu):Fz fo fv ρ=some (.nx ⟨ρ2.vs,mu⟩):=by unfold Fz;rw[h1,aab];dsimp only;rw[ho];dsimp only;rw[hm];dsimp only;rw[h2,aab,hy,hm2];dsimp only;rw[aca hz,e]
theorem Rm {f:EF} {ρ ρ1:Ev} {x:Lc} {n:Nat} {ks:List Key} {ps:List PV} (h:f ρ=some (x,ρ1)) (hx:x.pv=.ptr n) (hm:ρ1.mu[n]?=some (some (.dk ks ps))):xJ f ρ=some (.own (.dk ks ps),ρ1):=by unfold xJ;rw[h,aab,hx];dsimp only;rw[hm]
theorem Va {i:Nat} {f:EF} {ρ ρ1:Ev} {x:Lc} {n:Nat} {ks0 ks ls:List Key} {ps0 ps qs:List PV} (h0:ρ.vs[i]?=some (some (.own (.dk ks0 ps0)))) (h:f ρ=some (x,ρ1)) (hx:x.pv=.ptr n) (h1:ρ1.vs[i]?=some (some (.own (.dk ks ps)))) (hm:ρ1.mu[n]?=some (some (.dk ls qs))) (hz:ks.length+ls.length<=100000):yr i f ρ=some (.nx (ρ1.set i (some (.own (bz (jd (ls.zip qs) (ks.zip ps))))))):=by unfold yr;rw[h0];dsimp only;rw[h,aab,hx,h1];dsimp only;rw[hm];dsimp only;rw[aca hz]
theorem XN {fa fb:EF} {ρ ρ1 ρ2:Ev} {x y:Lc} {n:Nat} {k:Key} {ks:List Key} {ps:List PV} (h1:fa ρ=some (x,ρ1)) (h2:fb ρ1=some (y,ρ2)) (hy:y.pv=.ptr n) (hk:oM x.pv=some k) (hm:ρ2.mu[n]?=some (some (.dk ks ps))):De fa fb ρ=some (.sh (.bl (bI (ks.zip ps) k).isSome),ρ2):=by unfold De;rw[h1,aab];dsimp only;rw[h2,aab,hy,hk];dsimp only;rw[hm]
theorem yz {fo fi fv:EF} {ρ ρ1 ρ2 ρ3:Ev} {x o y:Lc} {n:Nat} {k:Key} {ks:List Key} {ps:List PV} {p:PV} {mu:Mu} (h1:fv ρ=some (x,ρ1)) (hx:x.pv=p) (h2:fo ρ1=some (o,ρ2)) (ho:o.pv=.ptr n) (h3:fi ρ2=some (y,ρ3)) (hy:oM y.pv=some k) (hm:ρ3.mu[n]?=some (some (.dk ks ps))) (hz:ks.length<100000) (e:ρ3.mu.set n (some (bz (cU (ks.zip ps) k p)))=mu):jf fo fi fv ρ=some (.nx ⟨ρ3.vs,mu⟩):=by unfold jf;rw[h1,aab];dsimp only;rw[h2,aab];dsimp only;rw[h3,aab,ho,hy];dsimp only;rw[hm];dsimp only;rw[aca hz,hx,e]
theorem BP {fa fb:EF} {ρ ρ1 ρ2:Ev} {x y:Lc} {n:Nat} {k:Key} {ks:List Key} {ps:List PV} {p:PV} (h1:fa ρ=some (x,ρ1)) (hx:x.pv=.ptr n) (h2:fb ρ1=some (y,ρ2)) (hk:oM y.pv=some k) (hm:ρ2.mu[n]?=some (some (.dk ks ps))) (hp:bI (ks.zip ps) k=some p):aM fa fb ρ=some (.sh p,ρ2):=by unfold aM;rw[h1,aab];dsimp only;rw[h2,aab,hx,hk];dsimp only;rw[hm];dsimp only;rw[hp];rfl
theorem Vb {f:EF} {ρ ρ1:Ev} {x:Lc} {n:Nat} {ws:List PV} (h:f ρ=some (x,ρ1)) (hx:x.pv=.ptr n) (hm:ρ1.mu[n]?=some (some (.lst ws))):Br f ρ=some (!ws.isEmpty,ρ1):=by unfold Br;rw[h,aab,hx];dsimp only;rw[hm]
theorem HR {f:EF} {ρ ρ1:Ev} {x:Lc} {n:Nat} {p:PV} (h:f ρ=some (x,ρ1)) (hx:x.pv=.ptr n) (hm:ρ1.mu[n]?=some (some p)):nJ f ρ=some (.sh p,⟨ρ1.vs,ρ1.mu.set n none⟩):=by unfold nJ;rw[h,aab,hx];dsimp only;rw[hm]
structure Ix where
 r:Nat
 p:Nat
 b:Nat
 e:Nat
 o:Nat
 m:Nat
 d:Nat
abbrev rF (I:Ix) (bu:Int) (wd:Str):FD:=[("plan",.ptr I.p),("boxes",.ptr I.b),("own",.ptr I.o),("budget",.int bu),("word",.str wd),("moments",.ptr I.m),("due",.ptr I.d)]
structure RS (mu:Mu) (I:Ix) (bu:Int) (wd:Str) (PO:PV) (B:Bs) (M D:List PV):Prop where
 l1:I.r<I.p
 l2:I.p<I.b
 l3:I.b<I.e
 l4:I.e<I.o
 l5:I.o<I.m
 l6:I.m<I.d
 hr:mu[I.r]?=some (some (bC "Running" (rF I bu wd)))
 hp:mu[I.p]?=some (some PO)
 hb:∃ps,mu[I.b]?=some (some (.dk (bh B) ps))/\CB mu I.b (I.p+1) B ps
 he:mu[I.e]?=some (some (.dk [] []))
 ho:mu[I.o]?=some (some (.lst [.ptr I.e]))
 hm:mu[I.m]?=some (some (.lst M))
 hd:mu[I.d]?=some (some (.lst D))
theorem iy {α:Type} {l:List α} {n:Nat} {a:α} (h:l[n]?=some a):n<l.length:=(aap.mp h).1
section
variable {mu mu':Mu} {I:Ix} {bu:Int} {wd:Str} {PO:PV} {B:Bs} {M M' D D':List PV}
theorem RS.setM (S:RS mu I bu wd PO B M D):RS (mu.set I.m (some (.lst M'))) I bu wd PO B M' D:=by obtain⟨l1,l2,l3,l4,l5,l6,hr,hp,⟨ps,hb,hc⟩,he,ho,hm,hd⟩:=S;have f:∀c,c≠I.m->(mu.set I.m (some (.lst M')))[c]?=mu[c]?:=λc h=>aaw (Ne.symm h);exact⟨l1,l2,l3,l4,l5,l6,by rw[f _ (by omega)]; exact hr,by rw[f _ (by omega)]; exact hp,⟨ps,by rw[f _ (by omega)]; exact hb,hc.frame λc _ q=>f c (by omega)⟩,by rw[f _ (by omega)]; exact he,by rw[f _ (by omega)]; exact ho,aas (iy hm),by rw[f _ (by omega)]; exact hd⟩
theorem RS.setD (S:RS mu I bu wd PO B M D):RS (mu.set I.d (some (.lst D'))) I bu wd PO B M D':=by obtain⟨l1,l2,l3,l4,l5,l6,hr,hp,⟨ps,hb,hc⟩,he,ho,hm,hd⟩:=S;have f:∀c,c≠I.d->(mu.set I.d (some (.lst D')))[c]?=mu[c]?:=λc h=>aaw (Ne.symm h);exact⟨l1,l2,l3,l4,l5,l6,by rw[f _ (by omega)]; exact hr,by rw[f _ (by omega)]; exact hp,⟨ps,by rw[f _ (by omega)]; exact hb,hc.frame λc _ q=>f c (by omega)⟩,by rw[f _ (by omega)]; exact he,by rw[f _ (by omega)]; exact ho,by rw[f _ (by omega)]; exact hm,aas (iy hd)⟩
theorem RS.keep (S:RS mu I bu wd PO B M D) (f:∀c,c<=I.d->mu'[c]?=mu[c]?):RS mu' I bu wd PO B M D:=by obtain⟨l1,l2,l3,l4,l5,l6,hr,hp,⟨ps,hb,hc⟩,he,ho,hm,hd⟩:=S;exact⟨l1,l2,l3,l4,l5,l6,by rw[f _ (by omega)]; exact hr,by rw[f _ (by omega)]; exact hp,⟨ps,by rw[f _ (by omega)]; exact hb,hc.frame λc _ q=>f c (by omega)⟩,by rw[f _ (by omega)]; exact he,by rw[f _ (by omega)]; exact ho,by rw[f _ (by omega)]; exact hm,by rw[f _ (by omega)]; exact hd⟩
theorem yC {x:Option PV} {c:Nat} (h:c<mu.length):(mu++[x])[c]?=mu[c]?:=aaI h
theorem RS.push (S:RS mu I bu wd PO B M D) {x:Option PV}:RS (mu++[x]) I bu wd PO B M D:=S.keep λc h=>yC (abu h (iy S.hd))
theorem RS.setR (S:RS mu I bu wd PO B M D) {bu':Int} {wd':Str}:RS (mu.set I.r (some (bC "Running" (rF I bu' wd')))) I bu' wd' PO B M D:=by obtain⟨l1,l2,l3,l4,l5,l6,hr,hp,⟨ps,hb,hc⟩,he,ho,hm,hd⟩:=S;have f:∀c,c≠I.r->(mu.set I.r (some (bC "Running" (rF I bu' wd'))))[c]?=mu[c]?:=λc h=>aaw (Ne.symm h);exact⟨l1,l2,l3,l4,l5,l6,aas (iy hr),by rw[f _ (by omega)]; exact hp,⟨ps,by rw[f _ (by omega)]; exact hb,hc.frame λc q _=>f c (by omega)⟩,by rw[f _ (by omega)]; exact he,by rw[f _ (by omega)]; exact ho,by rw[f _ (by omega)]; exact hm,by rw[f _ (by omega)]; exact hd⟩
theorem RS.num (S:RS mu I bu wd PO B M D) (nd:(B.map (·.1)).Nodup) {x:Str} {v:Int} (hx:rZ B x):∃ks ps,mu[I.b]?=some (some (.dk ks ps))/\ks.length=B.length/\RS (mu.set I.b (some (bz (cU (ks.zip ps) (.inr x) (.int v))))) I bu wd PO (setB B x (.n v)) M D:=by
 obtain⟨l1,l2,l3,l4,l5,l6,hr,hp,⟨ps,hb,hc⟩,he,ho,hm,hd⟩:=S;obtain⟨i,hx⟩:=hx;have hv:=hc.val.1 i hx;obtain⟨ps',g1,g2,g3⟩:=hc.setN (v:=v) nd (λis q=>by rw[hx]at q; cases q);have ep:bz (cU ((bh B).zip ps) (.inr x) (.int v))=.dk (bh (setB B x (.n v))) ps':=by unfold cU;rw[hv];unfold bz;dsimp only;rw[g1,g2,Ox]
 refine⟨bh B,ps,hb,aag ..,?_⟩;rw[ep];have f:∀c,c≠I.b->(mu.set I.b (some (.dk (bh (setB B x (.n v))) ps')))[c]?=mu[c]?:=λc h=>aaw (Ne.symm h);exact⟨l1,l2,l3,l4,l5,l6,by rw[f _ (by omega)]; exact hr,by rw[f _ (by omega)]; exact hp,⟨ps',aas (iy hb),g3.frame λc _ q=>f c (by omega)⟩,by rw[f _ (by omega)]; exact he,by rw[f _ (by omega)]; exact ho,by rw[f _ (by omega)]; exact hm,by rw[f _ (by omega)]; exact hd⟩
theorem RS.lst (S:RS mu I bu wd PO B M D) (nd:(B.map (·.1)).Nodup) {x:Str} {is:List Int} (hx:look B x=some (.l is)):∃ks ps c,mu[I.b]?=some (some (.dk ks ps))/\bI (ks.zip ps) (.inr x)=some (.ptr c)/\I.p<c/\c<I.b/\mu[c]?=some (some (.lst (is.map .int)))/\∀js:List Int,RS (mu.set c (some (.lst (js.map .int)))) I bu wd PO (setB B x (.l js)) M D:=by obtain⟨l1,l2,l3,l4,l5,l6,hr,hp,⟨ps,hb,hc⟩,he,ho,hm,hd⟩:=S;obtain⟨c,g1,g2,g3,g4⟩:=hc.val.2 is hx;refine⟨bh B,ps,c,hb,g1,by omega,g3,g4,λjs=>?_⟩;have f:∀d,d≠c->(mu.set c (some (.lst (js.map .int))))[d]?=mu[d]?:=λd h=>aaw (Ne.symm h);refine⟨l1,l2,l3,l4,l5,l6,by rw[f _ (by omega)]; exact hr,by rw[f _ (by omega)]; exact hp,⟨ps,by rw[f _ (by omega),Ox]; exact hb,hc.setL nd hx g1 (iy g4)⟩,by rw[f _ (by omega)]; exact he,by rw[f _ (by omega)]; exact ho,by rw[f _ (by omega)]; exact hm,by rw[f _ (by omega)]; exact hd⟩
end
abbrev oF:=Str×Int×Int
def oF.pv (q:oF):PV:=.tup [.str q.1,.int q.2.1,.int q.2.2]
abbrev evs (es:List oF):PV:=.lst (es.map oF.pv)
abbrev cB:=Int×Int×List oF
def cB.pv (m:cB):PV:=.tup [.int m.1,.int m.2.1,evs m.2.2]
def MO (mu:Mu):Nat->List PV->List cB->Prop
 | _,ms,[]=>ms=[]
 | lo,ms,m::r=>∃c rest,ms=.tup [.int m.1,.int m.2.1,.ptr c]::rest/\lo<c/\mu[c]?=some (some (evs m.2.2))/\MO mu c rest r
theorem MO.frame {mu mu':Mu}:∀{lo:Nat} {M:List PV} {ms:List cB},(∀c,lo<c->c<mu.length->mu'[c]?=mu[c]?)->MO mu lo M ms->MO mu' lo M ms
 | lo,M,[],_,h=>h
 | lo,M,m::r,f,⟨c,rest,e,h1,h2,h⟩=>⟨c,rest,e,h1,by rw[f c h1 (iy h2)]; exact h2,MO.frame (λd q1 q2=>f d (by omega) q2) h⟩
theorem MO.snoc {mu:Mu} {m:cB}:∀{lo:Nat} {M:List PV} {ms:List cB},lo<mu.length->MO mu lo M ms->MO (mu++[some (evs m.2.2)]) lo (M++[PV.tup [.int m.1,.int m.2.1,.ptr mu.length]]) (ms++[m])
 | lo,M,[],hl,h=>by have h:M=[]:=h;subst h;exact⟨mu.length,[],rfl,hl,by rw[aav (aaf _),aa9]; rfl,rfl⟩
 | lo,M,m'::r,hl,⟨c,rest,e,h1,h2,h⟩=>by subst e;exact⟨c,_,rfl,h1,by rw[yC (iy h2)]; exact h2,MO.snoc (iy h2) h⟩
theorem MO.len {mu:Mu}:∀{lo:Nat} {M:List PV} {ms:List cB},MO mu lo M ms->M.length=ms.length
 | lo,M,[],h=>by have h:M=[]:=h; subst h; rfl
 | lo,M,m::r,⟨c,rest,e,h1,h2,h⟩=>by subst e; rw[aae,aae,h.len]
def Fr (I:Ix) (mu mu':Mu):Prop:=mu.length<=mu'.length/\∀c,(c<I.r\/I.d<c)->c<mu.length->mu'[c]?=mu[c]?
theorem Fr.refl {I:Ix} {mu:Mu}:Fr I mu mu:=⟨aaf _,λ_ _ _=>rfl⟩
theorem Fr.trans {I:Ix} {a b c:Mu} (h:Fr I a b) (g:Fr I b c):Fr I a c:=⟨aaR h.1 g.1,λk q l=>(g.2 k q (aaz l h.1)).trans (h.2 k q l)⟩
theorem Fr.set {I:Ix} {mu:Mu} {c:Nat} {x:Option PV} (h:I.r<=c) (h2:c<=I.d):Fr I mu (mu.set c x):=⟨by rw[aaK]; exact aaf _,λk q l=>aaw (by omega)⟩
theorem Fr.push {I:Ix} {mu:Mu} {x:Option PV}:Fr I mu (mu++[x]):=⟨by simp,λk _ l=>yC l⟩
section
variable {mu:Mu} {I:Ix} {bu:Int} {wd:Str} {PO:PV} {B:Bs} {M D:List PV}
theorem Vc (S:RS mu I bu wd PO B M D) {k t e:PV} (hl:M.length<100000):eE [.ptr I.r,k,t,e] mu=some (.sh .non,mu.set I.m (some (.lst (M++[PV.tup [k,t,e]])))):=
 eG (ρ:=⟨[some (.sh (.ptr I.r)),some (.sh k),some (.sh t),some (.sh e)],mu.set I.m (some (.lst (M++[PV.tup [k,t,e]])))⟩) (mZ (o:=.sh (.ptr I.m)) (y:=.sh (.tup [k,t,e])) (ρ1:=⟨[some (.sh (.ptr I.r)),some (.sh k),some (.sh t),some (.sh e)],mu⟩) (ρ2:=⟨[some (.sh (.ptr I.r)),some (.sh k),some (.sh t),some (.sh e)],mu⟩) (dz rfl rfl S.hr rfl) rfl S.hm rfl rfl S.hm hl rfl)
theorem gq {x:Str}:∀k,aN mu k (.str x)=.str x
 | 0=>rfl
 | _+1=>rfl
theorem Ex.res:∀(e:Ex) (k:Nat),aN mu k e.pv=e.pv
 | _,0=>rfl
 | .num i,k+1=>by show PV.tup [aN mu k (.str "num"),aN mu k (.int i)]=_; rw[gq,yx]; rfl
 | .box x,k+1=>by show PV.tup [aN mu k (.str "box"),aN mu k (.str x)]=_; rw[gq,gq]; rfl
 | .at_ x e,k+1=>by show PV.tup [aN mu k (.str "@"),aN mu k (.str x),aN mu k e.pv]=_; rw[gq,gq,Ex.res e k]; rfl
 | .op s a b,k+1=>by show PV.tup [aN mu k (.str s),aN mu k a.pv,aN mu k b.pv]=_; rw[gq,Ex.res a k,Ex.res b k]; rfl
theorem OD {ks:List Key} {ps:List PV} (h:ps.length=ks.length):bz (ks.zip ps)=.dk ks ps:=by unfold bz;rw[show (λx:Key×PV=>x.1)=Prod.fst from rfl,show (λx:Key×PV=>x.2)=Prod.snd from rfl,List.map_fst_zip (by omega),List.map_snd_zip (by omega)]
theorem xY (S:RS mu I bu wd PO B M D) (hB:En B) {e:Ex} (he:e.ok B) (hd:e.dp<=40) (h8:B.length<=100):c7 [.ptr I.r,e.pv] mu=some (.sh (.int (ev B e)),mu):=by
 obtain⟨ps,hb,hc⟩:=S.hb;have hlen:ps.length=(bh B).length:=by rw[hc.len,aag]
 let E:=λl2=>(⟨[some (.sh (.ptr I.r)),some (.sh e.pv),l2],mu⟩:Ev);have s1:aV 2 (xJ (cj "Running" "boxes" (aa 0))) (E none)=some (.nx (E (some (.own (.dk (bh B) ps))))):=cA (Rm (dz rfl rfl S.hr rfl) rfl hb) rfl rfl;have s2:yr 2 (aY (cj "Running" "own" (aa 0)) (gh (eC (.int 1)))) (E (some (.own (.dk (bh B) ps))))=some (.nx (E (some (.own (.dk (bh B) ps))))):=by have u:=Va (i:=2) (f:=aY (cj "Running" "own" (aa 0)) (gh (eC (.int 1)))) (ρ:=E (some (.own (.dk (bh B) ps)))) (ρ1:=E (some (.own (.dk (bh B) ps)))) (n:=I.e) (ls:=[]) (qs:=[]) (x:=.sh (.ptr I.e)) rfl (Bh (l:=.sh (.ptr I.o)) (m:=.sh (.int (-1))) (ws:=[.ptr I.e]) (dz rfl rfl S.hr rfl) rfl rfl rfl S.ho rfl) rfl rfl S.he (by rw[aag]; simp; omega);rw[show bz (jd ([].zip []) ((bh B).zip ps))=.dk (bh B) ps from OD hlen]at u;exact u
 have s3:rC (aJ (cX 40) (aj (aa 1) (aj (aa 2) ao))) (E (some (.own (.dk (bh B) ps))))=some (.sh (.int (ev B e)),E (some (.own (.dk (bh B) ps)))):=by refine Hf (ρ1:=(E (some (.own (.dk (bh B) ps)))).peekD) (aU (ls:=[.sh (aN mu 40 e.pv),.sh (aN mu 40 (.dk (bh B) ps))]) (ps:=[e.pv,Zg B]) (ρ1:=(E (some (.own (.dk (bh B) ps)))).peekD) (aA rfl (aA rfl rfl)) ?_ rfl rfl (value_eq hB he hd)) rfl;show [aN mu 40 e.pv,.dk (bh B) (ps.map (aN mu 39))]=_;rw[Ex.res,hc.res]
 exact aW (ρ:=E (some (.own (.dk (bh B) ps)))) (aD s1 (aD s2 (bL s3)))
theorem Vd (S:RS mu I bu wd PO B M D) (nd:(B.map (·.1)).Nodup) (h8:B.length<=100) {x:Str} {v:Int} (hx:rZ B x):∃mu',jg [.ptr I.r,.str x,.int v] mu=some (.sh (oF.pv (x,0,v)),mu')/\RS mu' I bu wd PO (setB B x (.n v)) M D/\Fr I mu mu'/\mu'.length=mu.length:=by
 obtain⟨ks,ps,hb,hl,S'⟩:=S.num nd (v:=v) hx;let E:=λl3 mu=>(⟨[some (.sh (.ptr I.r)),some (.sh (.str x)),some (.sh (.int v)),l3],mu⟩:Ev);have ow:∀l3,aY (cj "Running" "own" (aa 0)) (gh (eC (.int 1))) (E l3 mu)=some (.sh (.ptr I.e),E l3 mu):=λl3=>Bh (l:=.sh (.ptr I.o)) (m:=.sh (.int (-1))) (ws:=[.ptr I.e]) (dz rfl rfl S.hr rfl) rfl rfl rfl S.ho rfl;have s1:aV 3 (pB (tT (De (aa 1) (aY (cj "Running" "own" (aa 0)) (gh (eC (.int 1))))) bA) (aY (cj "Running" "own" (aa 0)) (gh (eC (.int 1)))) (cj "Running" "boxes" (aa 0))) (E none mu)=some (.nx (E (some (.sh (.ptr I.b))) mu)):=by refine cA (l:=.sh (.ptr I.b)) (ρ1:=E none mu) ((HH (ρ1:=E none mu) (di (l:=.sh (.bl false)) (XN (x:=.sh (.str x)) (y:=.sh (.ptr I.e)) (k:=.inr x) (ks:=[]) (ps:=[]) rfl (ow none) rfl rfl S.he) rfl rfl)).trans (dz rfl rfl S.hr rfl)) rfl rfl
 refine⟨_,aW (ρ:=E (some (.sh (.ptr I.b))) _) (aD s1 (aD (ρ':=E (some (.sh (.ptr I.b))) _) (yz (ρ3:=E (some (.sh (.ptr I.b))) mu) (x:=.sh (.int v)) (o:=.sh (.ptr I.b)) (y:=.sh (.str x)) rfl rfl rfl rfl rfl rfl hb (by omega) rfl) rfl)),S',Fr.set (by have:=S.l1; have:=S.l2; omega) (by have:=S.l3; have:=S.l4; have:=S.l5; have:=S.l6; omega),aaK⟩
end
theorem Dp {α:Type} {xs:List α} {k:Nat} {p:α} (h:xs[k]?=some p):gw xs (k:Int)=some p:=by have hk:=(aap.mp h).1;unfold gw Ac;rw[aca (by omega),aca (by omega)];exact h
structure Gd (mu:Mu) (I:Ix) (bu:Int) (wd:Str) (PO:PV) (B:Bs) (ms:List cB) (D:List PV):Prop where
 ex:∃M,RS mu I bu wd PO B M D/\MO mu I.d M ms
structure BG (B:Bs):Prop where
 ok:En B
 nd:(B.map (·.1)).Nodup
 l8:B.length<=100
theorem BG.n {B:Bs} (h:BG B) {x:Str} {v:Int} (hv:In v):BG (setB B x (.n v)):=⟨h.ok.set hv (λis e=>by cases e),by rw[Oz]; exact h.nd,by unfold setB; rw[aag]; exact h.l8⟩
section
variable {mu:Mu} {I:Ix} {bu:Int} {wd:Str} {PO:PV} {B:Bs} {M D:List PV} {ms:List cB}
theorem noted {m:cB} (S:RS mu I bu wd PO B M D) (Mo:MO mu I.d M ms) (hl:ms.length<90000):∃mu',eE [.ptr I.r,.int m.1,.int m.2.1,.ptr mu.length] (mu++[some (evs m.2.2)])=some (.sh .non,mu')/\Gd mu' I bu wd PO B (ms++[m]) D/\Fr I mu mu':=by have h6:=S.l6;have hd:=iy S.hd;have l5:=S.l1;have l7:=S.l2;have l8:=S.l3;have l9:=S.l4;have l10:=S.l5;refine⟨_,Vc S.push (by rw[Mo.len]; omega),⟨_,S.push.setM,(Mo.snoc hd).frame λc q _=>aaw (by omega)⟩,Fr.push.trans (Fr.set (by omega) (by omega))⟩
theorem kW {m:Str} {g:GF} {a:AF} {vs:List (Option Lc)} {ls:List Lc} {mu1 mu2:Mu} {r:Lc} {ps:List PV} (hr:mu[I.r]?=some (some (bC "Running" (rF I bu wd)))) (hc:(["plan", "boxes", "own", "budget", "word", "moments", "due"]:List Str).contains m=false) (h2:a ⟨some (.sh (.ptr I.r))::vs,mu⟩=some (ls,⟨some (.sh (.ptr I.r))::vs,mu1⟩)) (hps:ls.map Lc.pv=ps) (h3:g (.ptr I.r::ps) mu1=some (r,mu2)):cJ "Running" m g (aa 0) a ⟨some (.sh (.ptr I.r))::vs,mu⟩=some (r,⟨some (.sh (.ptr I.r))::vs,mu2⟩):=
 qP (ρ1:=⟨some (.sh (.ptr I.r))::vs,mu⟩) (ρ2:=⟨some (.sh (.ptr I.r))::vs,mu1⟩) rfl rfl hr hc h2 hps h3
abbrev qm (p:PV):PV:=.tup [p,.int 0]
theorem HS {ws:List PV} {p:PV}:gw (ws++[p]) (-1)=some p:=by
 unfold gw Ac;have hl:(ws++[p]).length=ws.length+1:=by simp
 rw[hl,acb (by omega),aca (by omega)];show (ws++[p])[((-1:Int)+((ws.length+1:Nat):Int)).toNat]?=_;rw[show ((-1:Int)+((ws.length+1:Nat):Int)).toNat=ws.length from by omega,aav (aaf _),aa9];rfl
theorem BR {ps:List PV} (S:RS mu I bu wd PO B M D) (hl:D.length+ps.length<=90000):iu [.ptr I.r,.lst ps] mu=some (.sh .non,mu.set I.d (some (.lst (D++ps.reverse.map qm)))):=by
 let E:Ev:=⟨[some (.sh (.ptr I.r)),some (.sh (.lst ps))],mu⟩;have ec:=pD (b:=aG 0) (te:=bG (aj (aa 0) (aj (eC (.int 0)) ao))) (mu:=mu) (λρ=>∃o,ρ=⟨[o],mu⟩) (λρ ⟨o,e⟩=>by rw[e]) qm (xs:=ps.reverse) (ρ:=⟨[none],mu⟩) ⟨none,rfl⟩ (by simp; omega) (by
  rintro p hp ρ ⟨o,rfl⟩;exact⟨⟨[some (.sh p)],mu⟩,rfl,.sh (qm p),⟨[some (.sh p)],mu⟩,rfl,rfl,_,rfl⟩) (by
  rintro p hp ρ ρ1 ⟨o,rfl⟩ e;cases e;exact⟨_,rfl⟩)
 have e2:dD (Fy (aa 1)) 1 [] (aG 0) dh (bG (aj (aa 0) (aj (eC (.int 0)) ao))) E=some (.own (.lst (ps.reverse.map qm)),E):=iD (f:=Fy (aa 1)) (m:=1) (ixs:=[]) (ρ:=E) (ρ1:=E) (xs:=ps.reverse) rfl ec;exact eG (ρ:=⟨[some (.sh (.ptr I.r)),some (.sh (.lst ps))],mu.set I.d (some (.lst (D++ps.reverse.map qm)))⟩) (U9 (o:=.sh (.ptr I.d)) (ρ1:=E) (ρ2:=E) (y:=.own (.lst (ps.reverse.map qm))) (dz rfl rfl S.hr rfl) rfl S.hd e2 rfl S.hd (by rw[aag,abD]; omega) rfl)
theorem Ve {fo:EF} {ρ ρ1:Ev} {o:Lc} {n:Nat} {ws:List PV} (h:fo ρ=some (o,ρ1)) (ho:o.pv=.ptr n) (hm:ρ1.mu[n]?=some (some (.lst ws))):FJ fo ρ=some (.nx ⟨ρ1.vs,ρ1.mu.set n (some (.lst []))⟩):=by unfold FJ;rw[h,aab,ho];dsimp only;rw[hm]
abbrev SE (I:Ix) (mu:Mu):Ev:=⟨[some (.sh (.ptr I.r))],mu⟩
theorem RS.ls (S:RS mu I bu wd PO B M D):I.r<I.p/\I.p<I.b/\I.b<I.e/\I.e<I.o/\I.o<I.m/\I.m<I.d:=⟨S.l1,S.l2,S.l3,S.l4,S.l5,S.l6⟩
theorem JL (S:RS mu I bu wd PO B M D):tT (aB Bd (cj "Running" "budget" (aa 0)) (eC (.int 0))) bA (SE I mu)=some (decide (bu<=0),SE I mu):=
 di (l:=.sh (.bl (decide (bu<=0)))) (cW (dz (p:=.int bu) rfl rfl S.hr rfl) rfl rfl rfl rfl) rfl rfl
theorem Ro (S:RS mu I bu wd PO B M D) (h:bu<=0):∃mu',gn [.ptr I.r] mu=some (.sh (.bl false),mu')/\RS mu' I bu "spent" PO B M []/\Fr I mu mu'/\mu'.length=mu.length:=by have ⟨l1,l2,l3,l4,l5,l6⟩:=S.ls;have S1:=S.setR (bu':=bu) (wd' := "spent");have w1:eU "Running" "word" (aa 0) (eC (.str "spent")) (SE I mu)=some (.nx (SE I (mu.set I.r (some (bC "Running" (rF I bu "spent")))))):=oW (C := "Running") (f := "word") (p:=.str "spent") (y:=.sh (.str "spent")) (x:=.sh (.ptr I.r)) (ρ1:=SE I mu) (ρ2:=SE I mu) (l:=rF I bu wd) rfl rfl rfl rfl S.hr (show (7:Nat)<1000 from by decide);have w2:=Ve (fo:=cj "Running" "due" (aa 0)) (ρ:=SE I (mu.set I.r (some (bC "Running" (rF I bu "spent"))))) (o:=.sh (.ptr I.d)) (dz rfl rfl S1.hr rfl) rfl S1.hd;exact⟨_,aW (ρ:=SE I _) (gk ((d9 ((JL S).trans (by rw[acf h]))).trans (aD w1 (aD w2 rfl)))),S1.setD,(Fr.set (by omega) (by omega)).trans (Fr.set (by omega) (by omega)),by rw[aaK]; show (mu.set _ _).length=_; rw[aaK]⟩
theorem OJ (S:RS mu I bu wd PO B M D) (h:0<bu):∃mu',gn [.ptr I.r] mu=some (.sh (.bl true),mu')/\RS mu' I (bu-1) wd PO B M D/\Fr I mu mu'/\mu'.length=mu.length:=by have ⟨l1,l2,l3,l4,l5,l6⟩:=S.ls;have S1:=S.setR (bu':=bu-1) (wd':=wd);have w1:eU "Running" "budget" (aa 0) (aB w6 (cj "Running" "budget" (aa 0)) (eC (.int 1))) (SE I mu)=some (.nx (SE I (mu.set I.r (some (bC "Running" (rF I (bu-1) wd)))))):=oW (C := "Running") (f := "budget") (p:=.int (bu-1)) (y:=.sh (.int (bu-1))) (x:=.sh (.ptr I.r)) (ρ1:=SE I mu) (ρ2:=SE I mu) (l:=rF I bu wd) (cW (dz (p:=.int bu) rfl rfl S.hr rfl) rfl rfl rfl rfl) rfl rfl rfl S.hr (show (7:Nat)<1000 from by decide);exact⟨_,aW (ρ:=SE I _) (aD (ρ':=SE I mu) ((cL ((JL S).trans (by rw[ace (by omega)]))).trans rfl) (aD w1 rfl)),S1,Fr.set (by omega) (by omega),aaK⟩
end
abbrev pF (T:List PV) (L H:PV):FD:=[("told",.lst T),("lists",L),("heads",H)]
abbrev iQ (T:List PV) (L H:PV):PV:=bC "Plan" (pF T L H)
theorem BW {f:EF} {a b:Str} {ρ ρ1:Ev} (h:f ρ=some (.sh (.str a),ρ1)) {c:Bool} (e:(a==b)=c):tT (aB eqP f (eC (.str b))) bA ρ=some (c,ρ1):=di (l:=.sh (.bl c)) (cW h rfl rfl rfl (by show some (Lc.sh (.bl (a==b)))=_; rw[e])) rfl rfl
theorem tK {f:EF} {a b:Int} {ρ ρ1:Ev} (h:f ρ=some (.sh (.int a),ρ1)) {c:Bool} (e:(a==b)=c):tT (aB eqP f (eC (.int b))) bA ρ=some (c,ρ1):=di (l:=.sh (.bl c)) (cW h rfl rfl rfl (by show some (Lc.sh (.bl (a==b)))=_; rw[e])) rfl rfl
theorem BX {c d:TF} {ρ ρ1 ρ2:Ev} {b:Bool} (h:c ρ=some (true,ρ1)) (h2:d ρ1=some (b,ρ2)):gG c d ρ=some (b,ρ2):=by unfold gG;rw[h,aab];exact h2
theorem HW {c d:TF} {ρ ρ1:Ev} (h:c ρ=some (false,ρ1)):gG c d ρ=some (false,ρ1):=by unfold gG;rw[h,aab];rfl
def vX (Q:PV) (k:Nat) (rv:PV):Prop:=∀(mu:Mu) (p:Nat),mu[p]?=some (some Q)->jY [.ptr p,.int (k:Nat)] mu=some (.sh rv,mu)
def YZ (Q:PV) (k:Nat) (ns:List PV):Prop:=∀(mu:Mu) (p:Nat),mu[p]?=some (some Q)->gM [.ptr p,.int (k:Nat),.int 0] mu=some (.own (.lst ns),mu)
def Tc (bu:Int) (wd:Str) (D:List PV) (k:Nat) (ns:List PV) (v:Int):Int×Str×List PV:=if v=0 then (bu,wd,D) else if bu<=0 then (bu, "spent",[]) else (bu-1,wd,D++[.tup [.int (k:Nat),.int 0]]++ns.reverse.map qm)
section
variable {mu:Mu} {I:Ix} {bu:Int} {wd:Str} {T:List PV} {L H:PV} {B:Bs} {M D:List PV} {ms:List cB}
theorem aaa {k:Nat} {e:Ex} {bl:PV} {ns:List PV} (S:RS mu I bu wd (iQ T L H) B M D) (hB:BG B) (he:e.ok B) (hd:e.dp<=40) (hb:YZ (iQ T L H) k ns) (hl:D.length+ns.length+1<=90000):∃mu',nW [.ptr I.r,.int (k:Nat),.tup [.str "while",e.pv,bl]] mu=some (.sh .non,mu')/\RS mu' I (Tc bu wd D k ns (ev B e)).1 (Tc bu wd D k ns (ev B e)).2.1 (iQ T L H) B M (Tc bu wd D k ns (ev B e)).2.2/\Fr I mu mu'/\mu'.length=mu.length:=by
 have ⟨l1,l2,l3,l4,l5,l6⟩:=S.ls;let E:=λmu=>(⟨[some (.sh (.ptr I.r)),some (.sh (.int (k:Nat))),some (.sh (.tup [.str "while",e.pv,bl]))],mu⟩:Ev);have t1:∀c:Bool,(!(ev B e==0))=c->tT (aB wX (cJ "Running" "value" c7 (aa 0) (aj (aY (aa 2) (eC (.int 1))) ao)) (eC (.int 0))) bA (E mu)=some (c,E mu):=λc hc=>di (l:=.sh (.bl c)) (cW (p:=.int (ev B e)) (kW S.hr (by decide +kernel) (ls:=[.sh e.pv]) (mu1:=mu) rfl rfl (xY S hB.ok he hd hB.l8)) rfl rfl rfl (by show some (Lc.sh (.bl (!(ev B e==0))))=_; rw[hc])) rfl rfl;have t2:∀(b:Bool) (mu1:Mu),gn [.ptr I.r] mu=some (.sh (.bl b),mu1)->tT (cJ "Running" "spend" gn (aa 0) ao) gW (E mu)=some (b,E mu1):=λb mu1 h=>di (l:=.sh (.bl b)) (kW S.hr (by decide +kernel) (ls:=[]) (mu1:=mu) rfl rfl h) rfl rfl;unfold Tc;by_cases h:ev B e=0
 . rw[aca h];exact⟨mu,eG (ρ:=E mu) ((cL (HW (t1 false (by rw[h]; rfl)))).trans rfl),S,Fr.refl,rfl⟩
 . rw[acb h];have hc:(!(ev B e==0))=true:=by rw[acg.mpr h]; rfl
   by_cases g:bu<=0
   . rw[aca g];obtain⟨mu1,e1,S1,f1,n1⟩:=Ro S g;exact⟨mu1,eG (ρ:=E mu1) ((cL (BX (t1 true hc) (t2 false mu1 e1))).trans rfl),S1,f1,n1⟩
   . rw[acb g];obtain⟨mu1,e1,S1,f1,n1⟩:=OJ S (by omega);have S2:=S1.setD (D':=D++[.tup [.int (k:Nat),.int 0]]);let mu2:=mu1.set I.d (some (.lst (D++[.tup [.int (k:Nat),.int 0]])));have s3:eQ (cj "Running" "due" (aa 0)) (bG (aj (aa 1) (aj (eC (.int 0)) ao))) (E mu1)=some (.nx (E mu2)):=mZ (o:=.sh (.ptr I.d)) (ρ1:=E mu1) (ρ2:=E mu1) (y:=.sh (.tup [.int (k:Nat),.int 0])) (dz rfl rfl S1.hr rfl) rfl S1.hd rfl rfl S1.hd (by omega) rfl;have el:=BR (ps:=ns) S2 (by rw[aah]; show D.length+1+ns.length<=_; omega);have s4:dC (cJ "Running" "lay" iu (aa 0) (aj (cJ "Plan" "block" gM (cj "Running" "plan" (aa 0)) (aj (aa 1) (aj (eC (.int 0)) ao))) ao)) (E mu2)=some (.nx (E (mu2.set I.d (some (.lst (D++[.tup [.int (k:Nat),.int 0]]++ns.reverse.map qm)))))):=fQ (kW S2.hr (by decide +kernel) (ls:=[.own (.lst ns)]) (mu1:=mu2) (aA (qP (x:=.sh (.ptr I.p)) (ls:=[.sh (.int (k:Nat)),.sh (.int 0)]) (ρ1:=E mu2) (ρ2:=E mu2) (dz rfl rfl S2.hr rfl) rfl S2.hp (show (["told", "lists", "heads"]:List Str).contains "block" = false from by decide +kernel) rfl rfl (hb mu2 I.p S2.hp)) rfl) rfl el);exact⟨_,eG (ρ:=E _) ((d9 (BX (t1 true hc) (t2 true mu1 e1))).trans (aD s3 s4)),S2.setD,(f1.trans (Fr.set (by omega) (by omega))).trans (Fr.set (by omega) (by omega)),by rw[aaK]; show (mu1.set _ _).length=_; rw[aaK,n1]⟩
theorem BZ {k:Nat} {rv:PV} {M':List PV} (S:RS mu I bu wd (iQ T L H) B M D) (Mo:MO mu I.d M ms) (hk:vX (iQ T L H) k rv) (hl:ms.length<90000):∃mu1,Gd mu1 I bu wd (iQ T L H) B (ms++[((k:Int),0,[])]) D/\Fr I mu mu1/\∀(f:SF) (R:Option Fl),f ⟨[some (.sh (.ptr I.r)),some (.sh (.int (k:Nat))),some (.sh rv)],mu1⟩=R->aK (aV 2 (cJ "Plan" "row" jY (cj "Running" "plan" (aa 0)) (aj (aa 1) ao))) (aK (dC (cJ "Running" "note" eE (aa 0) (aj (aa 1) (aj (eC (.int 0)) (aj (bB (bx ao)) ao))))) f) ⟨[some (.sh (.ptr I.r)),some (.sh (.int (k:Nat))),none],mu⟩=R:=by let E:=λl2 mu=>(⟨[some (.sh (.ptr I.r)),some (.sh (.int (k:Nat))),l2],mu⟩:Ev);let Rv:Option Lc:=some (.sh rv);have s2:aV 2 (cJ "Plan" "row" jY (cj "Running" "plan" (aa 0)) (aj (aa 1) ao)) (E none mu)=some (.nx (E Rv mu)):=cA (qP (x:=.sh (.ptr I.p)) (ls:=[.sh (.int (k:Nat))]) (ρ1:=E none mu) (ρ2:=E none mu) (dz rfl rfl S.hr rfl) rfl S.hp (show (["told", "lists", "heads"]:List Str).contains "row" = false from by decide +kernel) rfl rfl (hk mu I.p S.hp)) rfl rfl;obtain⟨mu1,e1,g1,f1⟩:=noted (m:=((k:Int),0,[])) S Mo hl;have hs1:aj (aa 1) (aj (eC (.int 0)) (aj (bB (bx ao)) ao)) (E Rv mu)=some ([.sh (.int (k:Nat)),.sh (.int 0),.sh (.ptr mu.length)],E Rv (mu++[some (evs [])])):=rfl;have s3:dC (cJ "Running" "note" eE (aa 0) (aj (aa 1) (aj (eC (.int 0)) (aj (bB (bx ao)) ao)))) (E Rv mu)=some (.nx (E Rv mu1)):=fQ (kW S.hr (by decide +kernel) (ls:=[.sh (.int (k:Nat)),.sh (.int 0),.sh (.ptr mu.length)]) (mu1:=mu++[some (evs [])]) hs1 rfl e1);exact⟨mu1,g1,f1,λf R h=>aD s2 (aD s3 h)⟩
abbrev Ls (x:Str) (e:Ex):PV:=.tup [.str "set",.str x,e.pv]
theorem O1 {k:Nat} {x:Str} {e:Ex} (G:Gd mu I bu wd (iQ T L H) B ms D) (hB:BG B) (hx:rZ B x) (he:e.ok B) (de:e.dp<=40) (hk:vX (iQ T L H) k (Ls x e)) (hl:ms.length+1<90000):∃mu',iG [.ptr I.r,.int (k:Nat)] mu=some (.sh .non,mu')/\Gd mu' I bu wd (iQ T L H) (setB B x (.n (ev B e))) (ms++[((k:Int),0,[]),((k:Int),1,[(x,0,ev B e)])]) D/\Fr I mu mu':=by
 obtain⟨M,S,Mo⟩:=G.ex;obtain⟨mu1,⟨⟨M1,S1,Mo1⟩⟩,f1,go⟩:=BZ (M':=M) S Mo hk (by omega);let E:=λmu=>(⟨[some (.sh (.ptr I.r)),some (.sh (.int (k:Nat))),some (.sh (Ls x e))],mu⟩:Ev);have ll:(ms++[((k:Int),(0:Int),([]:List oF))]).length<90000:=by rw[aah]; show ms.length+1<90000; exact hl
 obtain⟨mu2,e2,S2,f2,RM⟩:=Vd (v:=ev B e) S1 hB.nd hB.l8 hx;have Mo2:MO mu2 I.d M1 (ms++[((k:Int),0,[])]):=Mo1.frame λc q l=>f2.2 c (.inr q) l;obtain⟨mu',e',g',f'⟩:=noted (m:=((k:Int),1,[(x,0,ev B e)])) S2 Mo2 ll;have r0:aY (aa 2) (eC (.int 0)) (E mu1)=some (.sh (.str "set"),E mu1):=rfl;have gv:cJ "Running" "give" jg (aa 0) (aj (aY (aa 2) (eC (.int 1))) (aj (cJ "Running" "value" c7 (aa 0) (aj (aY (aa 2) (eC (.int 2))) ao)) ao)) (E mu1)=some (.sh (oF.pv (x,0,ev B e)),E mu2):=kW S1.hr (by decide +kernel) (ls:=[.sh (.str x),.sh (.int (ev B e))]) (mu1:=mu1) (aA rfl (aA (kW S1.hr (by decide +kernel) (ls:=[.sh e.pv]) (mu1:=mu1) (aA rfl rfl) rfl (xY S1 hB.ok he de hB.l8)) rfl)) rfl e2;have sl:bB (bx (aj (cJ "Running" "give" jg (aa 0) (aj (aY (aa 2) (eC (.int 1))) (aj (cJ "Running" "value" c7 (aa 0) (aj (aY (aa 2) (eC (.int 2))) ao)) ao))) ao)) (E mu1)=some (.sh (.ptr mu2.length),E (mu2++[some (evs [(x,0,ev B e)])])):=fU (p:=evs [(x,0,ev B e)]) (ρ1:=E mu2) (xm (ls:=[.sh (oF.pv (x,0,ev B e))]) (aA gv rfl) rfl rfl);refine⟨mu',eG (ρ:=E mu') (go _ _ ((cL (BW r0 (by decide +kernel))).trans ((cL (BW r0 (by decide +kernel))).trans ((cL (BW r0 (by decide +kernel))).trans ((cL (BW r0 (by decide +kernel))).trans (fQ (kW S1.hr (by decide +kernel) (ls:=[.sh (.int (k:Nat)),.sh (.int 1),.sh (.ptr mu2.length)]) (mu1:=mu2++[some (evs [(x,0,ev B e)])]) (aA rfl (aA rfl (aA sl rfl))) rfl e'))))))),?_,(f1.trans f2).trans f'⟩;rw[show ms++[((k:Int),0,[]),((k:Int),1,[(x,0,ev B e)])]=(ms++[((k:Int),0,[])])++[((k:Int),1,[(x,0,ev B e)])] from by rw[aai]; rfl];exact g'
theorem JM {k:Nat} {mu':Mu} (S:RS mu I bu wd (iQ T L H) B M (D++[.tup [.int (k:Nat),.int 0]])) (e':iG [.ptr I.r,.int (k:Nat)] (mu.set I.d (some (.lst D)))=some (.sh .non,mu')):fM [.ptr I.r] mu=some (.sh .non,mu'):=by let mu1:=mu.set I.d (some (.lst D));have S1:RS mu1 I bu wd (iQ T L H) B M D:=S.setD;let E:=λl1 mu=>(⟨[some (.sh (.ptr I.r)),l1],mu⟩:Ev);let U:Option Lc:=some (.sh (.tup [.int (k:Nat),.int 0]));have s1:aV 1 (tu (cj "Running" "due" (aa 0))) (E none mu)=some (.nx (E U mu1)):=cA (Do (ρ1:=E none mu) (o:=.sh (.ptr I.d)) (ws:=D) (p:=.tup [.int (k:Nat),.int 0]) (dz rfl rfl S.hr rfl) rfl S.hd rfl) rfl rfl;exact eG (ρ:=E U mu') (aD s1 ((d9 (tK (a:=0) (ρ1:=E U mu1) rfl (by decide))).trans (fQ (kW S1.hr (by decide +kernel) (ls:=[.sh (.int (k:Nat))]) (mu1:=mu1) rfl rfl e'))))
theorem Gd.pop {x:PV} (G:Gd mu I bu wd (iQ T L H) B ms (D++[x])):Gd (mu.set I.d (some (.lst D))) I bu wd (iQ T L H) B ms D/\Fr I mu (mu.set I.d (some (.lst D))):=by obtain⟨M,S,Mo⟩:=G.ex;have ⟨l1,l2,l3,l4,l5,l6⟩:=S.ls;exact⟨⟨M,S.setD,Mo.frame λc q _=>aaw (by omega)⟩,Fr.set (by omega) (aaf _)⟩
theorem Rq {k:Int} (G:Gd mu I bu wd (iQ T L H) B ms (D++[.tup [.int k,.int 3]])) (hl:ms.length<90000):∃mu',fM [.ptr I.r] mu=some (.sh .non,mu')/\Gd mu' I bu wd (iQ T L H) B (ms++[(k,3,[])]) D/\Fr I mu mu':=by obtain⟨M,S,Mo⟩:=G.ex;have l1:=S.l1;have l2:=S.l2;have l3:=S.l3;have l4:=S.l4;have l5:=S.l5;have l6:=S.l6;let mu1:=mu.set I.d (some (.lst D));have S1:RS mu1 I bu wd (iQ T L H) B M D:=S.setD;have Mo1:MO mu1 I.d M ms:=Mo.frame λc q _=>aaw (by omega);obtain⟨mu',e',g',f'⟩:=noted (m:=(k,3,[])) S1 Mo1 hl;let E:=λl1 mu=>(⟨[some (.sh (.ptr I.r)),l1],mu⟩:Ev);let U:Option Lc:=some (.sh (.tup [.int k,.int 3]));have s1:aV 1 (tu (cj "Running" "due" (aa 0))) (E none mu)=some (.nx (E U mu1)):=cA (Do (ρ1:=E none mu) (o:=.sh (.ptr I.d)) (ws:=D) (p:=.tup [.int k,.int 3]) (dz rfl rfl S.hr rfl) rfl S.hd rfl) rfl rfl;have ha:aj (aY (aa 1) (eC (.int 0))) (aj (aY (aa 1) (eC (.int 1))) (aj (bB (bx ao)) ao)) (E U mu1)=some ([.sh (.int k),.sh (.int 3),.sh (.ptr mu1.length)],E U (mu1++[some (evs [])])):=rfl;exact⟨mu',eG (ρ:=E U mu') (aD s1 ((cL (tK (a:=3) (ρ1:=E U mu1) rfl (by decide))).trans ((cL (tK (a:=3) (ρ1:=E U mu1) rfl (by decide))).trans (fQ (kW S1.hr (by decide +kernel) (ls:=[.sh (.int k),.sh (.int 3),.sh (.ptr mu1.length)]) (mu1:=mu1++[some (evs [])]) ha rfl e'))))),g',(Fr.set (by omega) (aaf _)).trans f'⟩
end
theorem JN {n:Nat} {c:TF} {f:SF} {ρ ρ1 ρ2:Ev} (h:c ρ=some (true,ρ1)) (g:f ρ1=some (.nx ρ2)):lZ (n+1) c f ρ=lZ n c f ρ2:=by
 show lY c f (n+1) ρ=lY c f n ρ2
 conv=>lhs; unfold lY
 rw[h,aab];dsimp only;rw[aca rfl,g,aab]
theorem JP {n:Nat} {c:TF} {f:SF} {ρ ρ1:Ev} (h:c ρ=some (false,ρ1)):lZ (n+1) c f ρ=some (.nx ρ1):=by show lY c f (n+1) ρ=_;unfold lY;rw[h,aab];rfl
abbrev Td:SF:=dC (cJ "Running" "step" fM (aa 3) ao)
abbrev stC:TF:=Br (cj "Running" "due" (aa 3))
section
variable {I:Ix} {bu:Int} {wd:Str} {T:List PV} {L H:PV}
abbrev GE (p v b:PV) (I:Ix) (mu:Mu):Ev:=⟨[some (.sh p),some (.sh v),some (.sh b),some (.sh (.ptr I.r))],mu⟩
theorem Y0 {p v b:PV} {mu mu':Mu} (hr:mu[I.r]?=some (some (bC "Running" (rF I bu wd)))) (e:fM [.ptr I.r] mu=some (.sh .non,mu')):Td (GE p v b I mu)=some (.nx (GE p v b I mu')):=
 fQ (qP (x:=.sh (.ptr I.r)) (ls:=[]) (ρ1:=GE p v b I mu) (ρ2:=GE p v b I mu) rfl rfl hr (show (["plan", "boxes", "own", "budget", "word", "moments", "due"]:List Str).contains "step" = false from by decide +kernel) rfl rfl e)
theorem Te {p v b:PV} {mu:Mu} {PO:PV} {B:Bs} {M D:List PV} (S:RS mu I bu wd PO B M D):stC (GE p v b I mu)=some (!D.isEmpty,GE p v b I mu):=Vb (x:=.sh (.ptr I.d)) (dz rfl rfl S.hr rfl) rfl S.hd
structure AS where
 bu:Int
 wd:Str
 B:Bs
 ms:List cB
 D:List PV
abbrev GA (mu:Mu) (I:Ix) (Q:PV) (s:AS):Prop:=Gd mu I s.bu s.wd Q s.B s.ms s.D
def Rn (I:Ix) (Q:PV) (n:Nat) (s s':AS):Prop:=∀(p v b:PV) (mu:Mu),GA mu I Q s->∃mu',(∀m,lZ (m+n) stC Td (GE p v b I mu)=lZ m stC Td (GE p v b I mu'))/\GA mu' I Q s'/\Fr I mu mu'
theorem Rn.refl {Q:PV} {s:AS}:Rn I Q 0 s s:=λp v b mu G=>⟨mu,λ_=>rfl,G,Fr.refl⟩
theorem Rn.trans {Q:PV} {n m:Nat} {s s' s'':AS} (h:Rn I Q n s s') (g:Rn I Q m s' s''):Rn I Q (n+m) s s'':=λp v b mu G=>by obtain⟨mu1,e1,G1,f1⟩:=h p v b mu G;obtain⟨mu2,e2,G2,f2⟩:=g p v b mu1 G1;exact⟨mu2,λk=>by rw[show k+(n+m)=(k+m)+n from by omega,e1,e2],G2,f1.trans f2⟩
abbrev due (k:Nat) (t:Int):PV:=.tup [.int (k:Nat),.int t]
theorem Vf {D:List PV} {x:PV}:(!(D++[x]).isEmpty)=true:=by cases D<;>rfl
theorem Lw {s s':AS} {x:PV} {D:List PV} (hD:s.D=D++[x]) (h:∀mu,GA mu I (iQ T L H) s->∃mu',fM [.ptr I.r] mu=some (.sh .non,mu')/\GA mu' I (iQ T L H) s'/\Fr I mu mu'):Rn I (iQ T L H) 1 s s':=λp v b mu G=>by obtain⟨mu',e,G',f⟩:=h mu G;obtain⟨M,S,Mo⟩:=G.ex;exact⟨mu',λm=>JN ((Te S).trans (by rw[hD,Vf])) (Y0 S.hr e),G',f⟩
theorem XQ {B:Bs} {ms:List cB} {D:List PV} {k:Nat} {x:Str} {e:Ex} (hB:BG B) (hx:rZ B x) (he:e.ok B) (de:e.dp<=40) (hk:vX (iQ T L H) k (Ls x e)) (hl:ms.length+1<90000):Rn I (iQ T L H) 1 ⟨bu,wd,B,ms,D++[due k 0]⟩ ⟨bu,wd,setB B x (.n (ev B e)),ms++[((k:Int),0,[]),((k:Int),1,[(x,0,ev B e)])],D⟩:=
 Lw rfl λmu G=>by obtain⟨M,S,Mo⟩:=Gd.ex G;obtain⟨G1,f1⟩:=Gd.pop G;obtain⟨mu',e',G',f'⟩:=O1 G1 hB hx he de hk hl;exact⟨mu',JM S e',G',f1.trans f'⟩
theorem XS {B:Bs} {ms:List cB} {D:List PV} {k:Nat} (hl:ms.length<90000):Rn I (iQ T L H) 1 ⟨bu,wd,B,ms,D++[due k 3]⟩ ⟨bu,wd,B,ms++[((k:Int),3,[])],D⟩:=
 Lw rfl λmu G=>Rq G hl
end
mutual
def Eo:PV->Nat
 | .tup ps=>Lx ps+1
 | _=>1
def Lx:List PV->Nat
 | []=>0
 | p::ps=>max (Eo p) (Lx ps)
end
def fl (p:PV):Prop:=jF p=true/\Eo p<=20
def Tf (ps:List PV):Prop:=rA ps=true/\Lx ps<=20
theorem sy {p:PV} {ps:List PV} (h:fl p) (t:Tf ps):Tf (p::ps):=by
 obtain⟨h1,h2⟩:=h;obtain⟨t1,t2⟩:=t;refine⟨?_,?_⟩
 . show (jF p&&rA ps)=true;rw[h1,t1]; rfl
 . show max (Eo p) (Lx ps)<=20;omega
theorem JQ:Tf []:=⟨rfl,aa2 _⟩
theorem O2 {x:Str}:fl (.str x):=⟨rfl,by show 1<=20; decide⟩
abbrev zI (x:Int):Option Lc:=some (.sh (.int x))
abbrev zT (x:Str):Option Lc:=some (.sh (.str x))
abbrev zL (x:List PV):Option Lc:=some (.sh (.lst x))
abbrev zO (x:List PV):Option Lc:=some (.own (.lst x))
abbrev zS (x:PV):Option Lc:=some (.sh x)
mutual
inductive Row where
 | leaf (w:Str) (ps:List PV)
 | wh (e:PV) (b:Rows)
 | iff (e:PV) (b c:Rows)
inductive Rows where
 | nil
 | cons (r:Row) (rs:Rows)
end
mutual
def Row.pv:Row->PV
 | .leaf w ps=>.tup (.str w::ps)
 | .wh e b=>.tup [.str "while",e,.lst b.pvs]
 | .iff e b c=>.tup [.str "if",e,.lst b.pvs,.lst c.pvs]
def Rows.pvs:Rows->List PV
 | .nil=>[]
 | .cons r rs=>r.pv::rs.pvs
end
mutual
def Row.dep:Row->Nat
 | .leaf _ _=>1
 | .wh _ b=>b.dep+1
 | .iff _ b c=>max b.dep c.dep+1
def Rows.dep:Rows->Nat
 | .nil=>1
 | .cons r rs=>max (r.dep+1) rs.dep
end
theorem Rows.dep_pos:∀b:Rows,1<=b.dep
 | .nil=>aaf _
 | .cons r rs=>aaR (Rows.dep_pos rs) (Nat.le_max_right _ _)
def Plain (w:Str):Prop:=(w == "if")=false/\(w == "while")=false/\(w == "call")=false
mutual
def Row.ok:Row->Prop
 | .leaf w ps=>Plain w/\Tf ps
 | .wh e b=>fl e/\b.ok
 | .iff e b c=>fl e/\b.ok/\c.ok
def Rows.ok:Rows->Prop
 | .nil=>True
 | .cons r rs=>r.ok/\rs.ok
end
mutual
def Row.cnt:Row->Nat
 | .leaf _ _=>1
 | .wh _ b=>b.cnt+1
 | .iff _ b c=>b.cnt+c.cnt+1
def Rows.cnt:Rows->Nat
 | .nil=>0
 | .cons r rs=>r.cnt+rs.cnt
end
theorem Row.cnt_pos:∀r:Row,1<=r.cnt:=λr=>by cases r<;>simp[Row.cnt]
theorem n8 {f:EF} {a b:Str} {ρ ρ1:Ev} (h:f ρ=some (.sh (.str a),ρ1)):tT (aB eqP f (eC (.str b))) bA ρ=some (a==b,ρ1):=Bg (l:=.sh (.bl (a==b))) (cz h rfl rfl) rfl
theorem vY {c:TF} {f g:SF} {ρ ρ1:Ev} {b:Bool} (h:c ρ=some (b,ρ1)) (hb:b=false):aK (cO c f cV) g ρ=g ρ1:=by subst hb; exact yp ((cL h).trans rfl)
theorem Ca {c:TF} {f g:SF} {ρ ρ1 ρ2:Ev} {b:Bool} {r:Lc} (h:c ρ=some (b,ρ1)) (hb:b=true) (h2:f ρ1=some (.rt r ρ2)):aK (cO c f cV) g ρ=some (.rt r ρ2):=by subst hb; exact gk ((d9 h).trans h2)
theorem at0 {p:PV} {t:List PV}:gw (p::t) 0=some p:=by obtain⟨x,h,h2⟩:=zy (l:=p::t) (i:=0) (by decide) (by simp only[aae]; omega);rw[h,<-h2]; rfl
abbrev E1 (p:PV) (mu:Mu):Ev:=⟨[zS p],mu⟩
theorem w0 {w:Str} {ps:List PV} {mu:Mu}:aY (aa 0) (eC (.int 0)) (E1 (.tup (.str w::ps)) mu)=some (.sh (.str w),E1 (.tup (.str w::ps)) mu):=
 mz (p:=.tup (.str w::ps)) (q:=.int 0) (l:=.sh (.tup (.str w::ps))) (m:=.sh (.int 0)) rfl rfl rfl rfl (λn h=>by cases h) (by show (gw (PV.str w::ps) 0).map _=_; rw[at0]; rfl)
theorem fO {b:BF} {te:EF} {x:PV} {xs:List PV} {ρ ρ1 ρ2:Ev} {acc:List PV} {l:Lc} {R:Option (List PV×Mu)} (h1:b x ρ=some ρ1) (h2:te ρ1=some (l,ρ2)) (hz:acc.length<100000) (h3:jm b dh te xs ρ2 (acc++[l.pv])=R):jm b dh te (x::xs) ρ acc=R:=by show (b x ρ).bind _=R;rw[h1,aab];show (te ρ1).bind _=R;rw[h2,aab,aca hz];exact h3
abbrev Zh (n:Nat):EF:=aJ (jL n) (aj (aa 0) ao)
theorem HX {rs:Rows} {n:Nat} {mu:Mu} (h:jm (aG 0) dh (Zh n) rs.pvs ⟨[none],mu⟩ []=some ([]++rs.pvs,mu)):dN (n+1) [.lst rs.pvs] mu=some (.own (.lst rs.pvs),mu):=
 aW (ρ:=⟨[zL rs.pvs],mu⟩) (bL (iD (m:=1) (ixs:=[]) (ρ1:=E1 (.lst rs.pvs) mu) (xs:=rs.pvs) (jP (l:=.sh (.lst rs.pvs)) rfl rfl) h))
mutual
theorem Ep:∀(r:Row) (f:Nat) (mu:Mu),r.ok->r.dep<=f->r.cnt<=1000->jL f [r.pv] mu=some (.sh r.pv,mu)
 | .leaf w ps,f,mu,ok,hd,hc=>by obtain⟨m,rfl⟩:∃m,f=m+1:=⟨f-1,by simp only[Row.dep]at hd; omega⟩;obtain⟨⟨h1,h2,h3⟩,_⟩:=ok;refine aW (ρ:=⟨[none],mu⟩) ?_;exact(vY (n8 w0) h1).trans ((vY (n8 w0) h2).trans ((vY (n8 w0) h3).trans rfl))
 | .wh e b,f,mu,ok,hd,hc=>by
  simp only[Row.dep]at hd;simp only[Row.cnt]at hc;obtain⟨m,rfl⟩:∃m,f=m+1:=⟨f-1,by omega⟩;have hb:1<=b.dep:=Rows.dep_pos b;obtain⟨m,rfl⟩:∃k,m=k+1:=⟨m-1,by omega⟩;have ih:=HX (tL b m mu none [] ok.2 (by omega) (by simp only[aaF]; omega));let P:=(Row.wh e b).pv;have s1:aJ (dN (m+1)) (aj (aY (aa 0) (eC (.int 2))) ao) (E1 P mu)=some (.own (.lst b.pvs),E1 P mu):=
   aU (ls:=[.sh (.lst b.pvs)]) (ps:=[.lst b.pvs]) (ρ1:=E1 P mu) rfl rfl rfl rfl ih
  refine aW (ρ:=E1 P mu) ?_;exact(vY (n8 w0) (by decide +kernel)).trans (Ca (n8 w0) (by decide +kernel) (bL (gb (ls:=[.sh (.str "while"),.sh e,.own (.lst b.pvs)]) (ρ1:=E1 P mu) (aA (ρ1:=E1 P mu) rfl (aA (ρ1:=E1 P mu) rfl (aA s1 rfl))) rfl rfl)))
 | .iff e b c,f,mu,ok,hd,hc=>by
  simp only[Row.dep]at hd;simp only[Row.cnt]at hc;obtain⟨m,rfl⟩:∃m,f=m+1:=⟨f-1,by omega⟩;have hb:1<=b.dep:=Rows.dep_pos b;obtain⟨m,rfl⟩:∃k,m=k+1:=⟨m-1,by omega⟩;have ih:=HX (tL b m mu none [] ok.2.1 (by omega) (by simp only[aaF]; omega));have ih2:=HX (tL c m mu none [] ok.2.2 (by omega) (by simp only[aaF]; omega));let P:=(Row.iff e b c).pv;have s1:aJ (dN (m+1)) (aj (aY (aa 0) (eC (.int 2))) ao) (E1 P mu)=some (.own (.lst b.pvs),E1 P mu):=
   aU (ls:=[.sh (.lst b.pvs)]) (ps:=[.lst b.pvs]) (ρ1:=E1 P mu) rfl rfl rfl rfl ih
  have s2:aJ (dN (m+1)) (aj (aY (aa 0) (eC (.int 3))) ao) (E1 P mu)=some (.own (.lst c.pvs),E1 P mu):=
   aU (ls:=[.sh (.lst c.pvs)]) (ps:=[.lst c.pvs]) (ρ1:=E1 P mu) rfl rfl rfl rfl ih2
  refine aW (ρ:=E1 P mu) ?_;exact Ca (n8 w0) (by decide +kernel) (bL (gb (ls:=[.sh (.str "if"),.sh e,.own (.lst b.pvs),.own (.lst c.pvs)]) (aA (ρ1:=E1 P mu) rfl (aA (ρ1:=E1 P mu) rfl (aA s1 (aA s2 rfl)))) rfl rfl))
theorem tL:∀(rs:Rows) (n:Nat) (mu:Mu) (o:Option Lc) (acc:List PV),rs.ok->rs.dep<=n+1->acc.length+rs.cnt<=1000->jm (aG 0) dh (Zh n) rs.pvs ⟨[o],mu⟩ acc=some (acc++rs.pvs,mu)
 | .nil,n,mu,o,acc,_,_,_=>by simp[Rows.pvs,jm]
 | .cons r rs,n,mu,o,acc,ok,hd,hc=>by simp only[Rows.dep]at hd;simp only[Rows.cnt]at hc;have h1:=r.cnt_pos;have e1:=Ep r n mu ok.1 (by omega) (by omega);have e2:=tL rs n mu (zS r.pv) (acc++[r.pv]) ok.2 (by omega) (by rw[aah]; simp only[aae,aaF]; omega);refine fO (ρ1:=E1 r.pv mu) (ρ2:=E1 r.pv mu) (l:=.sh r.pv) rfl (aU (ls:=[.sh r.pv]) (ps:=[r.pv]) (ρ1:=E1 r.pv mu) rfl rfl rfl rfl e1) (by omega) (e2.trans ?_);simp only[Rows.pvs,aai];rfl
end
structure Ent where
 w:Str
 ab:PV
 bl:Int
 r:Row
def Ent.pv (e:Ent):PV:=.tup [.str e.w,e.ab,.int e.bl,e.r.pv]
mutual
def Row.es:Row->Str->PV->Int->Nat->List Ent
 | .leaf x ps,w,ab,bl,_=>[⟨w,ab,bl,.leaf x ps⟩]
 | .wh e b,w,ab,bl,k=>⟨w,ab,bl,.wh e b⟩::b.es w (.int k) 0 (k+1)
 | .iff e b c,w,ab,bl,k=>⟨w,ab,bl,.iff e b c⟩::(b.es w (.int k) 0 (k+1)++c.es w (.int k) 1 (k+1+b.cnt))
def Rows.es:Rows->Str->PV->Int->Nat->List Ent
 | .nil,_,_,_,_=>[]
 | .cons r rs,w,ab,bl,k=>r.es w ab bl k++rs.es w ab bl (k+r.cnt)
end
mutual
theorem Row.es_len:∀(r:Row) (w:Str) (ab:PV) (bl:Int) (k:Nat),(r.es w ab bl k).length=r.cnt
 | .leaf _ _,w,ab,bl,k=>rfl
 | .wh e b,w,ab,bl,k=>by simp[Row.es,Row.cnt,Rows.es_len b]
 | .iff e b c,w,ab,bl,k=>by simp[Row.es,Row.cnt,Rows.es_len b,Rows.es_len c]
theorem Rows.es_len:∀(rs:Rows) (w:Str) (ab:PV) (bl:Int) (k:Nat),(rs.es w ab bl k).length=rs.cnt
 | .nil,w,ab,bl,k=>rfl
 | .cons r rs,w,ab,bl,k=>by simp[Rows.es,Rows.cnt,Row.es_len r,Rows.es_len rs]
end
abbrev ens (l:List Ent):List PV:=l.map Ent.pv
theorem Dq (a b:List Ent):ens (a++b)=ens a++ens b:=aaG
theorem m6 (a:List Ent):(ens a).length=a.length:=aag _
theorem XX {b:BF} {body:SF} {x:PV} {ρ ρ1 ρ2:Ev} (h1:b x ρ=some ρ1) (h2:body ρ1=some (.nx ρ2)):gY b body [x] ρ=some (.nx ρ2):=iI h1 h2 rfl
theorem Z7 {b:BF} {body:SF} {x y:PV} {ρ ρ1 ρ2 ρ3 ρ4:Ev} (h1:b x ρ=some ρ1) (h2:body ρ1=some (.nx ρ2)) (h3:b y ρ2=some ρ3) (h4:body ρ3=some (.nx ρ4)):gY b body [x,y] ρ=some (.nx ρ4):=iI h1 h2 (XX h3 h4)
theorem Je {w:Str} {ps:List PV} {mu:Mu} (h1:(w == "if")=false) (h2:(w == "while")=false):jj [.tup (.str w::ps)] mu=some (.own (.lst []),mu):=
 aW (ρ:=E1 (.tup (.str w::ps)) mu) ((vY (n8 w0) h1).trans ((vY (n8 w0) h2).trans rfl))
theorem O3 {e p:PV} {mu:Mu}:jj [.tup [.str "while",e,p]] mu=some (.own (.lst [p]),mu):=
 aW (ρ:=E1 (.tup [.str "while",e,p]) mu) ((vY (n8 w0) (by decide +kernel)).trans (Ca (n8 w0) (by decide +kernel) rfl))
theorem O4 {e p q:PV} {mu:Mu}:jj [.tup [.str "if",e,p,q]] mu=some (.own (.lst [p,q]),mu):=
 aW (ρ:=E1 (.tup [.str "if",e,p,q]) mu) (Ca (n8 w0) (by decide +kernel) rfl)
abbrev LE (w:Str) (ab:PV) (bl:Int) (X:PV) (st:Nat) (acc:List PV) (o6 o7 o8 o9:Option Lc) (mu:Mu):Ev:=⟨[zT w,zS ab,zI bl,zS X,zI st,zO acc,o6,o7,o8,o9],mu⟩
abbrev X3 (n:Nat):SF:=nC 5 (aJ (eV n) (aj (aa 0) (aj (aa 7) (aj (aa 8) (aj (aa 9) (aj (qx (aB eX (aa 4) (eB gZ (aj (aa 5) ao)))) ao))))))
abbrev Tg (n:Nat):SF:=aK (aV 7 (qx (aB eX (aa 4) (eB gZ (aj (aa 5) ao)))))
 (aK (zr 5 (bG (aj (aa 0) (aj (aa 1) (aj (aa 2) (aj (aJ (jL 40) (aj (aa 6) ao)) ao))))))
 (lu (xq (aJ jj (aj (aa 6) ao))) (fD 2 (aQ (aG 8) (aQ (aG 9) fC))) (X3 n)))
theorem HY {n:Nat} {w:Str} {ab X:PV} {bl pl:Int} {st k:Nat} {acc qs:List PV} {o6:Option Lc} {p:PV} {mu:Mu} (h:eV n [.str w,.int k,.int pl,p,.int ((st+acc.length:Nat):Int)] mu=some (.own (.lst qs),mu)) (hz:acc.length+qs.length<=100000):
 X3 n (LE w ab bl X st acc o6 (zI k) (zI pl) (zS p) mu)=some (.nx (LE w ab bl X st (acc++qs) o6 (zI k) (zI pl) (zS p) mu)):=
 xn (i:=5) (ws0:=acc) (ws:=acc) (ps:=qs) (l:=.own (.lst qs)) (ρ1:=LE w ab bl X st acc o6 (zI k) (zI pl) (zS p) mu) rfl
  (aU (ls:=[.sh (.str w),.sh (.int k),.sh (.int pl),.sh p,.sh (.int ((st:Int)+acc.length))]) (ps:=[.str w,.int k,.int pl,p,.int ((st+acc.length:Nat):Int)]) (ρ1:=LE w ab bl X st acc o6 (zI k) (zI pl) (zS p) mu) rfl (by simp[Lc.pv]) rfl rfl h) rfl rfl hz rfl
abbrev en (w:Str) (ab:PV) (bl:Int) (r:Row):PV:=.tup [.str w,ab,.int bl,r.pv]
theorem Ia {n:Nat} {w:Str} {ab X:PV} {bl:Int} {st:Nat} {acc:List PV} {o7 o8 o9:Option Lc} {mu:Mu} {r:Row} {R:Option Fl} {bs:List PV} (ok:r.ok) (hd:r.dep<=40) (hc:r.cnt<=1000) (hz:acc.length<1000) (hb:∀mu,jj [r.pv] mu=some (.own (.lst bs),mu))
 (h:gY (fD 2 (aQ (aG 8) (aQ (aG 9) fC))) (X3 n) (qz bs) (LE w ab bl X st (acc++[en w ab bl r]) (zS r.pv) (zI ((st+acc.length:Nat):Int)) o8 o9 mu)=R):
 Tg n (LE w ab bl X st acc (zS r.pv) o7 o8 o9 mu)=R:=by
 have e1:=Ep r 40 mu ok hd hc;let E:=LE w ab bl X st acc (zS r.pv) (zI ((st+acc.length:Nat):Int)) o8 o9 mu;refine aD (ρ':=E) (cA (l:=.sh (.int ((st:Int)+acc.length))) (ρ1:=LE w ab bl X st acc (zS r.pv) o7 o8 o9 mu) rfl rfl (by show _=LE w ab bl X st acc (zS r.pv) (zI ((st+acc.length:Nat):Int)) o8 o9 mu; rw[Int.natCast_add]; rfl)) ?_;refine aD (ρ':=LE w ab bl X st (acc++[en w ab bl r]) (zS r.pv) (zI ((st+acc.length:Nat):Int)) o8 o9 mu) ?_ ?_
 . exact Xc (i:=5) (ws0:=acc) (ws:=acc) (p:=en w ab bl r) (l:=.sh (en w ab bl r)) (ρ1:=E) rfl
    (gb (ls:=[.sh (.str w),.sh ab,.sh (.int bl),.sh r.pv]) (aA (ρ1:=E) rfl (aA (ρ1:=E) rfl (aA (ρ1:=E) rfl (aA (aU (ls:=[.sh r.pv]) (ps:=[r.pv]) (ρ1:=E) rfl rfl rfl rfl e1) rfl)))) rfl rfl) rfl rfl (by omega) rfl
 . refine mq (xs:=qz bs) (ρ1:=LE w ab bl X st (acc++[en w ab bl r]) (zS r.pv) (zI ((st+acc.length:Nat):Int)) o8 o9 mu) ?_ h;unfold xq;rw[aU (ls:=[.sh r.pv]) (ps:=[r.pv]) (ρ1:=LE w ab bl X st (acc++[en w ab bl r]) (zS r.pv) (zI ((st+acc.length:Nat):Int)) o8 o9 mu) rfl rfl rfl rfl (hb _),aab];rfl
theorem FT {rs:Rows} {n:Nat} {w:Str} {ab:PV} {bl:Int} {st:Nat} {mu:Mu}
 (h:∃o6 o7 o8 o9,gY (aG 6) (Tg n) rs.pvs (LE w ab bl (.lst rs.pvs) st [] none none none none mu)=some (.nx (LE w ab bl (.lst rs.pvs) st ([]++ens (rs.es w ab bl (st+0))) o6 o7 o8 o9 mu))):
 eV (n+1) [.str w,ab,.int bl,.lst rs.pvs,.int st] mu=some (.own (.lst (ens (rs.es w ab bl st))),mu):=by
 obtain⟨o6,o7,o8,o9,h⟩:=h;refine aW (ρ:=⟨[zT w,zS ab,zI bl,zL rs.pvs,zI st,none,o6,o7,o8,o9],mu⟩) ?_;exact aD (ρ':=LE w ab bl (.lst rs.pvs) st [] none none none none mu) rfl (aD (mq (xs:=rs.pvs) (ρ1:=LE w ab bl (.lst rs.pvs) st [] none none none none mu) (jP (l:=.sh (.lst rs.pvs)) rfl rfl) h) rfl)
mutual
theorem X4:∀(r:Row) (n:Nat) (w:Str) (ab:PV) (bl:Int) (X:PV) (st:Nat) (acc:List PV) (o7 o8 o9:Option Lc) (mu:Mu),r.ok->r.dep<=n->r.dep<=40->acc.length+r.cnt<=1000->
 ∃p7 p8 p9,Tg n (LE w ab bl X st acc (zS r.pv) o7 o8 o9 mu)=some (.nx (LE w ab bl X st (acc++ens (r.es w ab bl (st+acc.length))) (zS r.pv) p7 p8 p9 mu))
 | .leaf x ps,n,w,ab,bl,X,st,acc,o7,o8,o9,mu,ok,hd,h40,hc=>by simp only[Row.cnt]at hc;exact⟨zI ((st+acc.length:Nat):Int),o8,o9,Ia (r:=.leaf x ps) ok h40 (by simp only[Row.cnt]; omega) (by omega) (λmu=>Je ok.1.1 ok.1.2.1) rfl⟩
 | .wh e b,n,w,ab,bl,X,st,acc,o7,o8,o9,mu,ok,hd,h40,hc=>by
  simp only[Row.cnt]at hc;simp only[Row.dep]at hd h40;have hb:=Rows.dep_pos b;obtain⟨m,rfl⟩:∃m,n=m+1:=⟨n-1,by omega⟩;let r:Row:=.wh e b;let k:=st+acc.length;let acc1:=acc++[en w ab bl r];have hl1:acc1.length=acc.length+1:=by simp[acc1]
  have ih:=FT (n:=m) (w:=w) (ab:=.int (k:Nat)) (bl:=0) (st:=st+acc1.length) (mu:=mu) (rs:=b) (uQ b m w (.int (k:Nat)) 0 (.lst b.pvs) (st+acc1.length) [] none none none none mu ok.2 (by omega) (by omega) (by simp only[aaF]; omega));have he:(ens (b.es w (.int (k:Nat)) 0 (st+acc1.length))).length=b.cnt:=by rw[m6,Rows.es_len]
  have st1:=HY (n:=m+1) (w:=w) (ab:=ab) (X:=X) (bl:=bl) (pl:=0) (st:=st) (k:=k) (acc:=acc1) (o6:=zS r.pv) (p:=.lst b.pvs) ih (by rw[he,hl1]; omega);refine⟨zI (k:Nat),zI 0,zL b.pvs,Ia (r:=.wh e b) ok (by simp only[Row.dep]; omega) (by simp only[Row.cnt]; omega) (by omega) (λmu=>O3) ((XX (ρ1:=LE w ab bl X st acc1 (zS r.pv) (zI (k:Nat)) (zI 0) (zL b.pvs) mu) rfl st1).trans ?_)⟩;have ek:st+acc1.length=k+1:=by rw[hl1]; omega
  rw[ek];simp only[Row.es,acc1,aai,abe,abg,ens,aax];rfl
 | .iff e b c,n,w,ab,bl,X,st,acc,o7,o8,o9,mu,ok,hd,h40,hc=>by
  simp only[Row.cnt]at hc;simp only[Row.dep]at hd h40;have hb:=Rows.dep_pos b;obtain⟨m,rfl⟩:∃m,n=m+1:=⟨n-1,by omega⟩;let r:Row:=.iff e b c;let k:=st+acc.length;let acc1:=acc++[en w ab bl r];have hl1:acc1.length=acc.length+1:=by simp[acc1]
  have ih:=FT (n:=m) (w:=w) (ab:=.int (k:Nat)) (bl:=0) (st:=st+acc1.length) (mu:=mu) (rs:=b) (uQ b m w (.int (k:Nat)) 0 (.lst b.pvs) (st+acc1.length) [] none none none none mu ok.2.1 (by omega) (by omega) (by simp only[aaF]; omega));have he:(ens (b.es w (.int (k:Nat)) 0 (st+acc1.length))).length=b.cnt:=by rw[m6,Rows.es_len]
  have st1:=HY (n:=m+1) (w:=w) (ab:=ab) (X:=X) (bl:=bl) (pl:=0) (st:=st) (k:=k) (acc:=acc1) (o6:=zS r.pv) (p:=.lst b.pvs) ih (by rw[he,hl1]; omega);let acc2:=acc1++ens (b.es w (.int (k:Nat)) 0 (st+acc1.length));have hl2:acc2.length=acc.length+1+b.cnt:=by show (acc1++_).length=_; rw[aah,he,hl1]
  have ih2:=FT (n:=m) (w:=w) (ab:=.int (k:Nat)) (bl:=1) (st:=st+acc2.length) (mu:=mu) (rs:=c) (uQ c m w (.int (k:Nat)) 1 (.lst c.pvs) (st+acc2.length) [] none none none none mu ok.2.2 (by omega) (by omega) (by simp only[aaF]; omega));have he2:(ens (c.es w (.int (k:Nat)) 1 (st+acc2.length))).length=c.cnt:=by rw[m6,Rows.es_len]
  have st2:=HY (n:=m+1) (w:=w) (ab:=ab) (X:=X) (bl:=bl) (pl:=1) (st:=st) (k:=k) (acc:=acc2) (o6:=zS r.pv) (p:=.lst c.pvs) ih2 (by rw[he2,hl2]; omega);refine⟨zI (k:Nat),zI 1,zL c.pvs,Ia (r:=.iff e b c) ok (by simp only[Row.dep]; omega) (by simp only[Row.cnt]; omega) (by omega) (λmu=>O4) ((Z7 (ρ1:=LE w ab bl X st acc1 (zS r.pv) (zI (k:Nat)) (zI 0) (zL b.pvs) mu) (ρ3:=LE w ab bl X st acc2 (zS r.pv) (zI (k:Nat)) (zI 1) (zL c.pvs) mu) rfl st1 rfl st2).trans ?_)⟩;have ek:st+acc1.length=k+1:=by rw[hl1]; omega
  have ek2:st+acc2.length=k+1+b.cnt:=by rw[hl2]; omega
  rw[ek2];simp only[acc2,ek];simp only[Row.es,ens,aax,aaG,acc1,aai,abe,abg];rfl
theorem uQ:∀(rs:Rows) (n:Nat) (w:Str) (ab:PV) (bl:Int) (X:PV) (st:Nat) (acc:List PV) (o6 o7 o8 o9:Option Lc) (mu:Mu),rs.ok->rs.dep<=n+1->rs.dep<=41->acc.length+rs.cnt<=1000->
 ∃p6 p7 p8 p9,gY (aG 6) (Tg n) rs.pvs (LE w ab bl X st acc o6 o7 o8 o9 mu)=some (.nx (LE w ab bl X st (acc++ens (rs.es w ab bl (st+acc.length))) p6 p7 p8 p9 mu))
 | .nil,n,w,ab,bl,X,st,acc,o6,o7,o8,o9,mu,ok,hd,h41,hc=>⟨o6,o7,o8,o9,by simp[Rows.pvs,gY,Rows.es,ens]⟩
 | .cons r rs,n,w,ab,bl,X,st,acc,o6,o7,o8,o9,mu,ok,hd,h41,hc=>by
  simp only[Rows.dep]at hd h41;simp only[Rows.cnt]at hc;obtain⟨q7,q8,q9,e1⟩:=X4 r n w ab bl X st acc o7 o8 o9 mu ok.1 (by omega) (by omega) (by omega);have hl:(acc++ens (r.es w ab bl (st+acc.length))).length=acc.length+r.cnt:=by rw[aah,m6,Row.es_len]
  obtain⟨p6,p7,p8,p9,e2⟩:=uQ rs n w ab bl X st (acc++ens (r.es w ab bl (st+acc.length))) (zS r.pv) q7 q8 q9 mu ok.2 (by omega) (by omega) (by rw[hl]; omega);refine⟨p6,p7,p8,p9,iI (ρ1:=LE w ab bl X st acc (zS r.pv) o7 o8 o9 mu) rfl e1 (e2.trans ?_)⟩;rw[hl,<-ab1];simp only[Rows.es,Dq,aai]
end
theorem yU {rs:Rows} {w:Str} {ab:PV} {bl:Int} {st:Nat} {mu:Mu} (ok:rs.ok) (hd:rs.dep<=40) (hc:rs.cnt<=1000):
 eV 40 [.str w,ab,.int bl,.lst rs.pvs,.int st] mu=some (.own (.lst (ens (rs.es w ab bl st))),mu):=
 FT (n:=39) (uQ rs 39 w ab bl _ st [] none none none none mu ok (by omega) (by omega) (by simp only[aaF]; omega))
structure Fn where
 name:Str
 rank:PV
 params:List PV
 rows:Rows
def Fn.pv (f:Fn):PV:=.tup [.str f.name,f.rank,.lst f.params,.lst f.rows.pvs]
structure Pg where
 boxes:List PV
 grants:List PV
 fns:List Fn
 rows:Rows
def Pg.pv (P:Pg):PV:=.tup [.lst P.boxes,.lst P.grants,.lst (P.fns.map Fn.pv),.lst P.rows.pvs]
def sE:List Fn->Nat
 | []=>0
 | f::fs=>f.rows.cnt+sE fs
def Cd:List Fn->Nat->List Ent
 | [],_=>[]
 | f::fs,k=>f.rows.es f.name .non 0 k++Cd fs (k+f.rows.cnt)
theorem Dr:∀(fs:List Fn) (k:Nat),(Cd fs k).length=sE fs
 | [],k=>rfl
 | f::fs,k=>by simp[Cd,sE,Rows.es_len,Dr fs]
def Pg.es (P:Pg):List Ent:=Cd P.fns 0++P.rows.es "main" .non 0 (sE P.fns)
structure Pg.ok (P:Pg):Prop where
 fn:∀f∈P.fns,f.rows.ok/\f.rows.dep<=30
 rw:P.rows.ok
 dp:P.rows.dep<=30
 ct:sE P.fns+P.rows.cnt<=250
 pm:∀f∈P.fns,∃xs:List Str,f.params=xs.map (λx=>.tup [.str x,.non])/\xs.length<=100
 fl:P.fns.length<=100
abbrev NE (p:PV) (acc:List PV) (o2 o3 o4 o5:Option Lc) (mu:Mu):Ev:=⟨[zS p,zO acc,o2,o3,o4,o5],mu⟩
abbrev Zi:SF:=nC 1 (aJ (eV 40) (aj (aa 2) (aj (eC .non) (aj (eC (.int 0)) (aj (aa 5) (aj (qx (eB gZ (aj (aa 1) ao))) ao))))))
theorem JR {p:PV}:∀(fs:List Fn) (acc:List PV) (o2 o3 o4 o5:Option Lc) (mu:Mu),(∀f∈fs,f.rows.ok/\f.rows.dep<=30)->acc.length+sE fs<=1000->
 ∃p2 p3 p4 p5,gY (fD 4 (aQ (aG 2) (aQ (aG 3) (aQ (aG 4) (aQ (aG 5) fC))))) Zi (fs.map Fn.pv) (NE p acc o2 o3 o4 o5 mu)=some (.nx (NE p (acc++ens (Cd fs acc.length)) p2 p3 p4 p5 mu))
 | [],acc,o2,o3,o4,o5,mu,_,_=>⟨o2,o3,o4,o5,by simp[gY,Cd,ens]⟩
 | f::fs,acc,o2,o3,o4,o5,mu,h,hl=>by
  simp only[sE]at hl;obtain⟨ok,hd⟩:=h f aac;have e:=yU (w:=f.name) (ab:=.non) (bl:=0) (st:=acc.length) (mu:=mu) ok (by omega) (by omega);have hl1:(acc++ens (f.rows.es f.name .non 0 acc.length)).length=acc.length+f.rows.cnt:=by rw[aah,m6,Rows.es_len]
  let E:=NE p acc (zT f.name) (zS f.rank) (zL f.params) (zL f.rows.pvs) mu;obtain⟨p2,p3,p4,p5,ih⟩:=JR (p:=p) fs (acc++ens (f.rows.es f.name .non 0 acc.length)) (zT f.name) (zS f.rank) (zL f.params) (zL f.rows.pvs) mu (λx hx=>h x (aak _ hx)) (by rw[hl1]; omega);have st:Zi E=some (.nx (NE p (acc++ens (f.rows.es f.name .non 0 acc.length)) (zT f.name) (zS f.rank) (zL f.params) (zL f.rows.pvs) mu)):=
   xn (i:=1) (ws0:=acc) (ws:=acc) (ps:=ens (f.rows.es f.name .non 0 acc.length)) (l:=.own (.lst (ens (f.rows.es f.name .non 0 acc.length)))) (ρ1:=E) rfl
    (aU (ls:=[.sh (.str f.name),.sh .non,.sh (.int 0),.sh (.lst f.rows.pvs),.sh (.int acc.length)]) (ps:=[.str f.name,.non,.int 0,.lst f.rows.pvs,.int acc.length]) (ρ1:=E) rfl rfl rfl rfl e) rfl rfl (by rw[m6,Rows.es_len]; omega) rfl
  refine⟨p2,p3,p4,p5,(iI (ρ1:=E) rfl st (ih.trans ?_))⟩;rw[hl1];simp only[Cd,Dq,aai]
theorem Jf {P:Pg} {mu:Mu} (ok:P.ok):vN [P.pv] mu=some (.own (.lst (ens P.es)),mu):=by
 have hc:=ok.ct;obtain⟨p2,p3,p4,p5,e1⟩:=JR (p:=P.pv) P.fns [] none none none none mu ok.fn (by simp only[aaF]; omega);simp only[abg,aaF]at e1;let a1:=ens (Cd P.fns 0);have ha:a1.length=sE P.fns:=by simp only[a1,m6,Dr]
 have e2:=yU (w := "main") (ab:=.non) (bl:=0) (st:=a1.length) (mu:=mu) ok.rw (by have:=ok.dp; omega) (by omega);rw[ha]at e2;let b:=ens (P.rows.es "main" .non 0 (sE P.fns));refine(aW (ρ:=⟨[zS P.pv,none,p2,p3,p4,p5],mu⟩) (r:=.own (.lst (a1++b))) ?_).trans ?_
 . refine aD (ρ':=NE P.pv [] none none none none mu) rfl (aD (ρ':=NE P.pv a1 p2 p3 p4 p5 mu) (mq (xs:=P.fns.map Fn.pv) (ρ1:=NE P.pv [] none none none none mu) (jP (l:=.sh (.lst (P.fns.map Fn.pv))) rfl rfl) e1) (aD (ρ':=NE P.pv (a1++b) p2 p3 p4 p5 mu) ?_ rfl));exact xn (i:=1) (ws0:=a1) (ws:=a1) (ps:=b) (l:=.own (.lst b)) (ρ1:=NE P.pv a1 p2 p3 p4 p5 mu) rfl
    (aU (ls:=[.sh (.str "main"),.sh .non,.sh (.int 0),.sh (.lst P.rows.pvs),.sh (.int a1.length)]) (ps:=[.str "main",.non,.int 0,.lst P.rows.pvs,.int a1.length]) (ρ1:=NE P.pv a1 p2 p3 p4 p5 mu) rfl rfl rfl rfl (by rw[ha]; exact e2)) rfl rfl (by simp only[b]; rw[ha,m6,Rows.es_len]; omega) rfl
 . simp only[a1,b,Pg.es,Dq]
def Ent.key (e:Ent):List cG:=[some (.inr e.w),(okP e.ab).getD none,some (.inl e.bl)]
def pos (K:List cG):Nat->List Ent->List Nat
 | _,[]=>[]
 | i,e::es=>if e.key=K then i::pos K (i+1) es else pos K (i+1) es
theorem j4 (K:List cG):∀(i:Nat) (a b:List Ent),pos K i (a++b)=pos K i a++pos K (i+a.length) b
 | i,[],b=>rfl
 | i,e::a,b=>by show (if e.key=K then i::pos K (i+1) (a++b) else pos K (i+1) (a++b))=(if e.key=K then i::pos K (i+1) a else pos K (i+1) a)++_;rw[j4 K (i+1) a b,show i+(e::a).length=i+1+a.length by simp only[aae]; omega];split<;>rfl
theorem uR {K:List cG}:∀{i:Nat} {a:List Ent},(∀e∈a,e.key≠K)->pos K i a=[]
 | i,[],_=>rfl
 | i,e::a,h=>by show (if e.key=K then i::pos K (i+1) a else pos K (i+1) a)=[];rw[acb (h e aac)];exact uR λx hx=>h x (aak _ hx)
def Rows.nums:Rows->Nat->List Nat
 | .nil,_=>[]
 | .cons r rs,k=>k::rs.nums (k+r.cnt)
abbrev KEY (w:Str) (m:Nat) (b:Int):List cG:=[some (.inr w),some (.inl (m:Int)),some (.inl b)]
theorem key_ne {e:Ent} {w:Str} {m:Nat} {b:Int} (h:e.ab≠.int m) (ha:e.ab=.non\/∃j:Nat,e.ab=.int j):e.key≠KEY w m b:=by
 intro q;unfold Ent.key at q;injection q with _ q;injection q with q _;rcases ha with e1 | ⟨j,e1⟩
 . rw[e1]at q;cases q
 . rw[e1]at q h;have q:some (Sum.inl (j:Int))=some (Sum.inl (m:Int)):=q;injection q with q;injection q with q;exact h (by rw[q])
theorem zR {e:Ent} {w:Str} {m:Nat} {b:Int} (h:e.bl≠b):e.key≠KEY w m b:=by intro q;unfold Ent.key at q;injection q with _ q;injection q with _ q;injection q with q _;injection q with q;injection q with q;exact h q
def pZ (ab:PV) (s t:Nat) (e:Ent):Prop:=e.ab=ab\/∃m:Nat,e.ab=.int m/\s<=m/\m<t
theorem pZ.mono {ab:PV} {s t s' t':Nat} {e:Ent} (h:pZ ab s t e) (h1:s'<=s) (h2:t<=t'):pZ ab s' t' e:=by
 rcases h with h | ⟨m,h,g1,g2⟩
 . exact .inl h
 . exact .inr ⟨m,h,by omega,by omega⟩
theorem pZ.up {k s t:Nat} {ab:PV} {e:Ent} (h:pZ (.int (k:Nat)) s t e) (h1:k<s) (h2:k<t):pZ ab k t e:=by
 rcases h with h | ⟨m,h,g1,g2⟩
 . exact .inr ⟨k,h,aaf _,h2⟩
 . exact .inr ⟨m,h,by omega,g2⟩
mutual
theorem Row.abs:∀(r:Row) (w:Str) (ab:PV) (bl:Int) (k:Nat),∀e∈r.es w ab bl k,pZ ab k (k+r.cnt) e
 | .leaf _ _,w,ab,bl,k,e,he=>by rw[aa3.mp he];exact .inl rfl
 | .wh x b,w,ab,bl,k,e,he=>by
  rcases aaj.mp he with rfl | he
  . exact .inl rfl
  . have h:=Rows.abs b w (.int (k:Nat)) 0 (k+1) e he;simp only[Row.cnt];exact(h.up (by omega) (by omega)).mono (aaf _) (by omega)
 | .iff x b c,w,ab,bl,k,e,he=>by
  simp only[Row.cnt];rcases aaj.mp he with rfl | he
  . exact .inl rfl
  . rcases aaC.mp he with he | he
    . have h:=Rows.abs b w (.int (k:Nat)) 0 (k+1) e he;exact(h.up (by omega) (by omega)).mono (aaf _) (by omega)
    . have h:=Rows.abs c w (.int (k:Nat)) 1 (k+1+b.cnt) e he;exact(h.up (by omega) (by omega)).mono (aaf _) (by omega)
theorem Rows.abs:∀(rs:Rows) (w:Str) (ab:PV) (bl:Int) (k:Nat),∀e∈rs.es w ab bl k,pZ ab k (k+rs.cnt) e
 | .nil,w,ab,bl,k,e,he=>by cases he
 | .cons r rs,w,ab,bl,k,e,he=>by
  simp only[Rows.cnt];rcases aaC.mp he with he | he
  . exact(Row.abs r w ab bl k e he).mono (aaf _) (by omega)
  . exact(Rows.abs rs w ab bl (k+r.cnt) e he).mono (by omega) (by omega)
end
def uq (ab:PV) (k:Nat):Prop:=ab=.non\/∃j:Nat,ab=.int j/\j<k
theorem pZ.num {ab:PV} {s t k:Nat} {e:Ent} (h:pZ ab s t e) (a:uq ab k):e.ab=.non\/∃j:Nat,e.ab=.int j:=by
 rcases h with h | ⟨m,h,_⟩
 . rcases a with a | ⟨j,a,_⟩
   . exact .inl (h.trans a)
   . exact .inr ⟨j,h.trans a⟩
 . exact .inr ⟨m,h⟩
theorem uT {a b:Nat} (h:a≠b):(PV.int (a:Nat))≠.int (b:Nat):=λq=>by injection q with q;exact h (by omega)
theorem pZ.ne {ab:PV} {s t m:Nat} {e:Ent} (h:pZ ab s t e) (h1:ab≠.int m) (h2:m<s\/t<=m):e.ab≠.int m:=by
 rcases h with h | ⟨j,h,g1,g2⟩
 . rw[h]; exact h1
 . rw[h]; exact uT (by omega)
theorem uq.ne {ab:PV} {k m:Nat} (a:uq ab k) (h:k<=m):ab≠.int m:=by
 rcases a with a | ⟨j,a,hj⟩
 . rw[a]; intro q; cases q
 . rw[a]; exact uT (by omega)
theorem Row.pos_top (r:Row) (w:Str) (m:Nat) (b:Int) (k:Nat) (h:m<k):pos (KEY w m b) k (r.es w (.int m) b k)=[k]:=by
 have own:∀(e:Ent),e.w=w->e.ab=.int m->e.bl=b->e.key=KEY w m b:=λe h1 h2 h3=>by unfold Ent.key;rw[h1,h2,h3];rfl
 have sub:∀(rs:Rows) (c:Int) (s:Nat),k<s->pos (KEY w m b) s (rs.es w (.int (k:Nat)) c s)=[]:=λrs c s hs=>uR λe he=>by have g:=Rows.abs rs w (.int (k:Nat)) c s e he;exact key_ne (g.ne (uT (by omega)) (.inl (by omega))) (g.num (k:=s) (.inr ⟨k,rfl,hs⟩))
 cases r with
 | leaf x ps=>show (if _ then _ else _)=_; rw[aca (own _ rfl rfl rfl)]; rfl
 | wh x c=>
  show (if _ then _ else _)=_;rw[aca (own _ rfl rfl rfl),sub c 0 (k+1) (by omega)]
 | iff x c d=>
  show (if _ then _ else _)=_;rw[aca (own _ rfl rfl rfl),j4,Rows.es_len,sub c 0 (k+1) (by omega),sub d 1 (k+1+c.cnt) (by omega)];rfl
theorem Rows.pos_top:∀(rs:Rows) (w:Str) (m:Nat) (b:Int) (k:Nat),m<k->pos (KEY w m b) k (rs.es w (.int m) b k)=rs.nums k
 | .nil,w,m,b,k,h=>rfl
 | .cons r rs,w,m,b,k,h=>by show pos _ k (r.es w (.int m) b k++rs.es w (.int m) b (k+r.cnt))=_;rw[j4,Row.pos_top r w m b k h,Row.es_len,Rows.pos_top rs w m b (k+r.cnt) (by omega)];rfl
def Row.bnums:Row->Nat->Int->List Nat
 | .wh _ b,k,i=>if i=0 then b.nums (k+1) else []
 | .iff _ b c,k,i=>if i=0 then b.nums (k+1) else if i=1 then c.nums (k+1+b.cnt) else []
 | _,_,_=>[]
theorem Row.pos_in (r:Row) (w:Str) (ab:PV) (bl:Int) (k:Nat) (i:Int) (a:uq ab k):pos (KEY w k i) k (r.es w ab bl k)=r.bnums k i:=by
 have own:∀(e:Ent),e.ab=ab->e.key≠KEY w k i:=λe h=>key_ne (by rw[h]; exact a.ne (aaf _)) (by
  rcases a with a | ⟨j,a,_⟩
  . exact .inl (h.trans a)
  . exact .inr ⟨j,h.trans a⟩)
 have sub:∀(rs:Rows) (c:Int) (s:Nat),k<s->c≠i->pos (KEY w k i) s (rs.es w (.int (k:Nat)) c s)=[]:=λrs c s hs hc=>by
  have go:∀(rs:Rows) (s:Nat),k<s->pos (KEY w k i) s (rs.es w (.int (k:Nat)) c s)=[]:=by
   intro rs;induction rs using Rows.rec (motive_1:=λ_=>True) with
   | nil=>intro s _; rfl
   | cons r rs _ ih=>
    intro s hs;show pos _ s (r.es w (.int (k:Nat)) c s++rs.es w (.int (k:Nat)) c (s+r.cnt))=_;rw[j4,Row.es_len,ih (s+r.cnt) (by omega),aau];have deep:∀(bs:Rows) (d:Int) (t:Nat),s<t->pos (KEY w k i) t (bs.es w (.int (s:Nat)) d t)=[]:=λbs d t ht=>uR λe he=>by have g:=Rows.abs bs w (.int (s:Nat)) d t e he;exact key_ne (g.ne (uT (by omega)) (.inl (by omega))) (g.num (k:=t) (.inr ⟨s,rfl,ht⟩))
    cases r with
    | leaf x ps=>show (if _ then _ else _)=_; rw[acb (zR hc)]; rfl
    | wh x bs=>show (if _ then _ else _)=_; rw[acb (zR hc)]; exact deep bs 0 (s+1) (by omega)
    | iff x bs cs=>show (if _ then _ else _)=_; rw[acb (zR hc),j4,Rows.es_len,deep bs 0 (s+1) (by omega),deep cs 1 (s+1+bs.cnt) (by omega)]; rfl
   | _=>trivial
  exact go rs s hs
 cases r with
 | leaf x ps=>show (if _ then _ else _)=_; rw[acb (own _ rfl)]; rfl
 | wh x c=>
  show (if _ then _ else _)=_;rw[acb (own _ rfl)];show _=if i=0 then c.nums (k+1) else []
  by_cases hi:i=0
  . subst hi;rw[aca rfl];exact Rows.pos_top c w k 0 (k+1) (by omega)
  . rw[acb hi];exact sub c 0 (k+1) (by omega) (λq=>hi q.symm)
 | iff x c d=>
  show (if _ then _ else _)=_;rw[acb (own _ rfl),j4,Rows.es_len];show _=if i=0 then c.nums (k+1) else if i=1 then d.nums (k+1+c.cnt) else []
  by_cases hi:i=0
  . subst hi;rw[aca rfl,Rows.pos_top c w k 0 (k+1) (by omega),sub d 1 (k+1+c.cnt) (by omega) (by decide),aau]
  . rw[acb hi,sub c 0 (k+1) (by omega) (λq=>hi q.symm),abg];by_cases h1:i=1
    . subst h1;rw[aca rfl];exact Rows.pos_top d w k 1 (k+1+c.cnt) (by omega)
    . rw[acb h1];exact sub d 1 (k+1+c.cnt) (by omega) (λq=>h1 q.symm)
structure tM (es:List Ent) (w:Str) (ab:PV) (bl:Int) (k:Nat) (rs:Rows):Prop where
 ex:∃pre post,es=pre++(rs.es w ab bl k++post)/\pre.length=k/\∀e∈pre++post,(e.ab=.non\/∃j:Nat,e.ab=.int j)/\∀m:Nat,k<=m->m<k+rs.cnt->e.ab≠.int m
 ab:uq ab k
structure lU (es:List Ent) (w:Str) (ab:PV) (bl:Int) (k:Nat) (r:Row):Prop where
 ex:∃pre post,es=pre++(r.es w ab bl k++post)/\pre.length=k/\∀e∈pre++post,(e.ab=.non\/∃j:Nat,e.ab=.int j)/\∀m:Nat,k<=m->m<k+r.cnt->e.ab≠.int m
 ab:uq ab k
theorem uq.mono {ab:PV} {k k':Nat} (a:uq ab k) (h:k<=k'):uq ab k':=by
 rcases a with a | ⟨j,a,hj⟩
 . exact .inl a
 . exact .inr ⟨j,a,by omega⟩
theorem tM.cons {es:List Ent} {w:Str} {ab:PV} {bl:Int} {k:Nat} {r:Row} {rs:Rows} (h:tM es w ab bl k (.cons r rs)):lU es w ab bl k r/\tM es w ab bl (k+r.cnt) rs:=by
 obtain⟨⟨pre,post,e,hl,hx⟩,ha⟩:=h;simp only[Rows.cnt]at hx;refine⟨⟨⟨pre,rs.es w ab bl (k+r.cnt)++post,by rw[e]; simp only[Rows.es,aai],hl,λx hx'=>?_⟩,ha⟩,⟨⟨pre++r.es w ab bl k,post,by rw[e]; simp only[Rows.es,aai],by rw[aah,Row.es_len,hl],λx hx'=>?_⟩,ha.mono (by omega)⟩⟩
 . rcases aaC.mp hx' with q | q
   . obtain⟨g1,g2⟩:=hx x (aaQ _ q);exact⟨g1,λm h1 h2=>g2 m h1 (by omega)⟩
   . rcases aaC.mp q with q | q
     . have g:=Rows.abs rs w ab bl (k+r.cnt) x q;exact⟨g.num ha,λm h1 h2=>g.ne (ha.ne h1) (.inl (by omega))⟩
     . obtain⟨g1,g2⟩:=hx x (aaD _ q);exact⟨g1,λm h1 h2=>g2 m h1 (by omega)⟩
 . rcases aaC.mp hx' with q | q
   . rcases aaC.mp q with q | q
     . obtain⟨g1,g2⟩:=hx x (aaQ _ q);exact⟨g1,λm h1 h2=>g2 m (by omega) (by omega)⟩
     . have g:=Row.abs r w ab bl k x q;exact⟨g.num ha,λm h1 h2=>g.ne (ha.ne (by omega)) (.inr h1)⟩
   . obtain⟨g1,g2⟩:=hx x (aaD _ q);exact⟨g1,λm h1 h2=>g2 m (by omega) (by omega)⟩
theorem lU.wh {es:List Ent} {w:Str} {ab:PV} {bl:Int} {k:Nat} {x:PV} {b:Rows} (h:lU es w ab bl k (.wh x b)):tM es w (.int (k:Nat)) 0 (k+1) b:=by
 obtain⟨⟨pre,post,e,hl,hx⟩,ha⟩:=h;simp only[Row.cnt]at hx;refine⟨⟨pre++[⟨w,ab,bl,.wh x b⟩],post,by rw[e]; simp[Row.es],by simp[hl],λy hy=>?_⟩,.inr ⟨k,rfl,by omega⟩⟩;rcases aaC.mp hy with q | q
 . rcases aaC.mp q with q | q
   . obtain⟨g1,g2⟩:=hx y (aaQ _ q);exact⟨g1,λm h1 h2=>g2 m (by omega) (by omega)⟩
   . rw[aa3.mp q];exact⟨by rcases ha with a | ⟨j,a,_⟩; exact .inl a; exact .inr ⟨j,a⟩,λm h1 _=>ha.ne (by omega)⟩
 . obtain⟨g1,g2⟩:=hx y (aaD _ q);exact⟨g1,λm h1 h2=>g2 m (by omega) (by omega)⟩
theorem lU.iff {es:List Ent} {w:Str} {ab:PV} {bl:Int} {k:Nat} {x:PV} {b c:Rows} (h:lU es w ab bl k (.iff x b c)):tM es w (.int (k:Nat)) 0 (k+1) b/\tM es w (.int (k:Nat)) 1 (k+1+b.cnt) c:=by
 obtain⟨⟨pre,post,e,hl,hx⟩,ha⟩:=h;simp only[Row.cnt]at hx;have own:(ab=.non\/∃j:Nat,ab=.int j):=by rcases ha with a | ⟨j,a,_⟩; exact .inl a; exact .inr ⟨j,a⟩
 have hk:∀s,k<s->uq (.int (k:Nat)) s:=λs hs=>.inr ⟨k,rfl,hs⟩;refine⟨⟨⟨pre++[⟨w,ab,bl,.iff x b c⟩],c.es w (.int (k:Nat)) 1 (k+1+b.cnt)++post,by rw[e]; simp[Row.es],by simp[hl],λy hy=>?_⟩,hk _ (by omega)⟩,⟨⟨pre++(⟨w,ab,bl,.iff x b c⟩::b.es w (.int (k:Nat)) 0 (k+1)),post,by rw[e]; simp[Row.es],by simp[hl,Rows.es_len]; omega,λy hy=>?_⟩,hk _ (by omega)⟩⟩
 . rcases aaC.mp hy with q | q
   . rcases aaC.mp q with q | q
     . obtain⟨g1,g2⟩:=hx y (aaQ _ q);exact⟨g1,λm h1 h2=>g2 m (by omega) (by omega)⟩
     . rw[aa3.mp q];exact⟨own,λm h1 _=>ha.ne (by omega)⟩
   . rcases aaC.mp q with q | q
     . have g:=Rows.abs c w (.int (k:Nat)) 1 (k+1+b.cnt) y q;exact⟨g.num (hk (k+1) (by omega)),λm h1 h2=>g.ne (uT (by omega)) (.inl (by omega))⟩
     . obtain⟨g1,g2⟩:=hx y (aaD _ q);exact⟨g1,λm h1 h2=>g2 m (by omega) (by omega)⟩
 . rcases aaC.mp hy with q | q
   . rcases aaC.mp q with q | q
     . obtain⟨g1,g2⟩:=hx y (aaQ _ q);exact⟨g1,λm h1 h2=>g2 m (by omega) (by omega)⟩
     . rcases aaj.mp q with rfl | q
       . exact⟨own,λm h1 _=>ha.ne (by omega)⟩
       . have g:=Rows.abs b w (.int (k:Nat)) 0 (k+1) y q;exact⟨g.num (hk (k+1) (by omega)),λm h1 h2=>g.ne (uT (by omega)) (.inr (by omega))⟩
   . obtain⟨g1,g2⟩:=hx y (aaD _ q);exact⟨g1,λm h1 h2=>g2 m (by omega) (by omega)⟩
theorem Row.es_head (r:Row) (w:Str) (ab:PV) (bl:Int) (k:Nat):∃t,r.es w ab bl k=⟨w,ab,bl,r⟩::t:=by cases r<;>exact⟨_,rfl⟩
theorem lU.get {es:List Ent} {w:Str} {ab:PV} {bl:Int} {k:Nat} {r:Row} (h:lU es w ab bl k r):es[k]?=some ⟨w,ab,bl,r⟩:=by obtain⟨⟨pre,post,e,hl,hx⟩,ha⟩:=h;obtain⟨t,et⟩:=r.es_head w ab bl k;rw[e,et,aav (by omega),hl,aa9];rfl
theorem lU.pos {es:List Ent} {w:Str} {ab:PV} {bl:Int} {k:Nat} {r:Row} (h:lU es w ab bl k r) (i:Int):Law.pos (KEY w k i) 0 es=r.bnums k i:=by
 obtain⟨⟨pre,post,e,hl,hx⟩,ha⟩:=h;have hc:=r.cnt_pos;have out:∀(l:List Ent) (j:Nat),(∀x∈l,x∈pre++post)->Law.pos (KEY w k i) j l=[]:=λl j hl=>uR λx hx'=>by obtain⟨g1,g2⟩:=hx x (hl x hx');exact key_ne (g2 k (aaf _) (by omega)) g1
 rw[e,j4,j4,out pre 0 λx h=>aaQ _ h,out post _ λx h=>aaD _ h,abg,aau,Nat.zero_add,hl];exact r.pos_in w ab bl k i ha
abbrev bW (l:List Nat):List PV:=l.map λ(i:Nat)=>PV.int (i:Nat)
abbrev SD:=List (List cG×List Nat)
def gO (K:List cG) (i:Nat):SD->SD
 | []=>[(K,[i])]
 | x::r=>if x.1=K then (x.1,x.2++[i])::r else x::gO K i r
def jR:SD->List cG->Option (List Nat)
 | [],_=>none
 | x::r,K=>if x.1=K then some x.2 else jR r K
def pz:Nat->SD->Xn
 | _,[]=>[]
 | N,x::r=>(x.1,.ptr N)::pz (N+1) r
abbrev dJ (S:SD):Mu:=S.map λx=>some (.lst (bW x.2))
theorem O5:∀(N:Nat) (S:SD),(pz N S).length=S.length
 | _,[]=>rfl
 | N,x::r=>by simp[pz,O5]
theorem X5:∀l:Xn,(l.map (·.1)).zip (l.map (·.2))=l
 | []=>rfl
 | x::r=>by rw[aax,aax,aa8,X5 r]
theorem O6:∀{S:SD} {N i:Nat} {K:List cG},jR S K=none->jJ (pz N S) K=none/\gO K i S=S++[(K,[i])]/\pz N (gO K i S)=pz N S++[(K,.ptr (N+S.length))]
 | [],N,i,K,_=>⟨rfl,rfl,rfl⟩
 | x::r,N,i,K,h=>by
  unfold jR at h;split at h
  . cases h
  . rename_i hx;obtain⟨h1,h2,h3⟩:=O6 (N:=N+1) (i:=i) h;refine⟨?_,?_,?_⟩
    . show (if x.1=K then _ else _)=_;rw[acb hx]; exact h1
    . show (if x.1=K then _ else _)=_;rw[acb hx,h2]; rfl
    . unfold gO;rw[acb hx];show (x.1,PV.ptr N)::pz (N+1) (gO K i r)=_;rw[h3,show N+1+r.length=N+(x::r).length by simp only[aae]; omega];rfl
theorem O7:∀{S:SD} {N i:Nat} {K:List cG} {l:List Nat},jR S K=some l->∃j,jJ (pz N S) K=some (.ptr (N+j))/\(dJ S)[j]?=some (some (.lst (bW l)))/\(dJ S).set j (some (.lst (bW (l++[i]))))=dJ (gO K i S)/\pz N (gO K i S)=pz N S
 | [],N,i,K,l,h=>by cases h
 | x::r,N,i,K,l,h=>by
  unfold jR at h;split at h
  . rename_i hx;cases h;refine⟨0,?_,rfl,?_,?_⟩
    . show (if x.1=K then _ else _)=_;rw[aca hx]; rfl
    . unfold gO;rw[aca hx]; rfl
    . unfold gO;rw[aca hx]; rfl
  . rename_i hx;obtain⟨j,h1,h2,h3,h4⟩:=O7 (N:=N+1) (i:=i) h;refine⟨j+1,?_,?_,?_,?_⟩
    . show (if x.1=K then _ else _)=_;rw[acb hx,h1,show N+1+j=N+(j+1) by omega]
    . simpa using h2
    . unfold gO;rw[acb hx];show _::(dJ r).set j _=_::dJ (gO K i r);rw[h3]
    . unfold gO;rw[acb hx];show (x.1,PV.ptr N)::pz (N+1) (gO K i r)=_;rw[h4];rfl
theorem X6 {S:SD} {i:Nat} {K K':List cG}:(jR (gO K' i S) K).getD []=(jR S K).getD []++if K'=K then [i] else []:=by
 induction S with
 | nil=>
  show (if K'=K then some [i] else none).getD []=[]++_;split<;>rfl
 | cons x r ih=>
  unfold gO;by_cases hx:x.1=K'
  . rw[aca hx];show (if x.1=K then some (x.2++[i]) else jR r K).getD []=(if x.1=K then some x.2 else jR r K).getD []++_;by_cases h:x.1=K
    . rw[aca h,aca h,aca (hx▸h)]; rfl
    . rw[acb h,acb h,acb (λq=>h (hx.trans q)),aau]
  . rw[acb hx];show (if x.1=K then some x.2 else jR (gO K' i r) K).getD []=(if x.1=K then some x.2 else jR r K).getD []++_;by_cases h:x.1=K
    . rw[aca h,aca h,acb (λq=>hx (h.trans q.symm)),aau]
    . rw[acb h,acb h];exact ih
def pA:Nat->List Ent->SD->SD
 | _,[],S=>S
 | i,e::es,S=>pA (i+1) es (gO e.key i S)
theorem Ds {K:List cG}:∀(es:List Ent) (i:Nat) (S:SD),(jR (pA i es S) K).getD []=(jR S K).getD []++pos K i es
 | [],i,S=>(aau _).symm
 | e::es,i,S=>by
  show (jR (pA (i+1) es (gO e.key i S)) K).getD []=_++if e.key=K then i::pos K (i+1) es else pos K (i+1) es
  rw[Ds es,X6,aai];split<;>rfl
theorem Ib {K:List cG} {i:Nat}:∀S:SD,(gO K i S).length<=S.length+1
 | []=>aaf _
 | x::r=>by
  unfold gO;split
  . simp
  . have:=Ib (K:=K) (i:=i) r;simp only[aae];omega
def Short (m:Nat) (S:SD):Prop:=∀x∈S,x.2.length<=m
theorem Short.put {m i:Nat} {K:List cG}:∀{S:SD},Short m S->Short (m+1) (gO K i S)
 | [],_,x,hx=>by rw[aa3.mp hx];simp
 | y::r,h,x,hx=>by
  unfold gO at hx;split at hx
  . rcases aaj.mp hx with rfl | hx
    . have:=h y aac;simp only[aah,aae,aaF];omega
    . have:=h x (aak _ hx);omega
  . rcases aaj.mp hx with rfl | hx
    . have:=h x aac;omega
    . exact Short.put (λz hz=>h z (aak _ hz)) x hx
theorem O8:∀{S:SD} {K:List cG} {l:List Nat},jR S K=some l->∃x∈S,x.2=l
 | [],K,l,h=>by cases h
 | y::r,K,l,h=>by
  unfold jR at h;split at h
  . cases h; exact⟨y,aac,rfl⟩
  . obtain⟨x,hx,e⟩:=O8 h;exact⟨x,aak _ hx,e⟩
theorem JS:∀(S:SD) (A:Mu),meltL (A++dJ S) ((pz A.length S).map (·.2))=some (S.map λx=>.lst (bW x.2),A++S.map λ_=>none)
 | [],A=>by simp[pz,meltL]
 | x::r,A=>by
  have ih:=JS r (A++[none]);rw[aah]at ih;have e1:(A++dJ (x::r))[A.length]?=some (some (.lst (bW x.2))):=by rw[aav (aaf _),aa9]; rfl
  have e2:(A++dJ (x::r)).set A.length none=(A++[none])++dJ r:=by rw[List.set_append_right _ _ (aaf _),aa9,aai]; rfl
  show meltL (A++dJ (x::r)) (.ptr A.length::(pz (A.length+1) r).map (·.2))=_;unfold meltL;rw[e1];dsimp only;rw[e2,show A.length+1=A.length+[(none:Option PV)].length from rfl,ih,abj];simp
theorem Ly:∀(S:SD) (N:Nat) (K:List cG),jJ (((pz N S).map (·.1)).zip (S.map λx=>PV.lst (bW x.2))) K=(jR S K).map λl=>.lst (bW l)
 | [],N,K=>rfl
 | x::r,N,K=>by
  show (if x.1=K then some (PV.lst (bW x.2)) else jJ (((pz (N+1) r).map (·.1)).zip (r.map λx=>PV.lst (bW x.2))) K)=(if x.1=K then some x.2 else jR r K).map _;by_cases h:x.1=K
  . rw[aca h,aca h]; rfl
  . rw[acb h,acb h]; exact Ly r (N+1) K
def O9:Nat->List PV->List PV
 | _,[]=>[]
 | i,p::ps=>.tup [.int (i:Nat),p]::O9 (i+1) ps
theorem Pa:∀(ps:List PV) (i:Nat),(ps.zipIdx i).map (λx=>PV.tup [.int (x.2:Nat),x.1])=O9 i ps
 | [],i=>rfl
 | p::ps,i=>by rw[ab6,aax,Pa ps (i+1)];rfl
theorem Rr (ps:List PV):qz ps=O9 0 ps:=Pa ps 0
abbrev oh (N:Nat) (S:SD):PV:=.dx HK.hk ((pz N S).map (·.1)) ((pz N S).map (·.2))
abbrev AE (o0 o1 o2 o3 o4 o5 o6 o7 o8 o9 o10:Option Lc) (mu:Mu):Ev:=⟨[o0,o1,o2,o3,o4,o5,o6,o7,o8,o9,o10],mu⟩
abbrev Zj:SF:=eQ (yq 3 (Hi (aa 5) nq (nA (eC (.int 3))))) (aa 4)
theorem Pb {e:Ent} (ha:e.ab=.non\/∃j:Nat,e.ab=.int j):rD [.str e.w,e.ab,.int e.bl]=some e.key:=by unfold Ent.key;rcases ha with h | ⟨j,h⟩<;>rw[h]<;>rfl
open Classical in
theorem Vg {e:Ent} {i:Nat} {S:SD} {A:Mu} {o0 o1 o2 o6 o7 o8 o9 o10:Option Lc} (ha:e.ab=.non\/∃j:Nat,e.ab=.int j) (hS:S.length<=1000) (hs:Short 1000 S):
 Zj (AE o0 o1 o2 (some (.own (oh A.length S))) (zI (i:Nat)) (zS e.pv) o6 o7 o8 o9 o10 (A++dJ S))=some (.nx (AE o0 o1 o2 (some (.own (oh A.length (gO e.key i S)))) (zI (i:Nat)) (zS e.pv) o6 o7 o8 o9 o10 (A++dJ (gO e.key i S)))):=by
 let E:=AE o0 o1 o2 (some (.own (oh A.length S))) (zI (i:Nat)) (zS e.pv) o6 o7 o8 o9 o10 (A++dJ S);have hk:Hi (aa 5) nq (nA (eC (.int 3))) E=some (.sh (.tup [.str e.w,e.ab,.int e.bl]),E):=rfl;have set:yq 3 (Hi (aa 5) nq (nA (eC (.int 3)))) E=(match jJ (pz A.length S) e.key with
  | some p=>some (.sh p,E)
  | none=>some (.sh (.ptr (A++dJ S).length),⟨E.vs.set 3 (some (.own (.dx HK.hk ((pz A.length S).map (·.1)++[e.key]) ((pz A.length S).map (·.2)++[.ptr (A++dJ S).length])))),(A++dJ S)++[some (.lst [])]⟩)):=by
  unfold yq;rw[show E.vs[3]?=some (some (.own (oh A.length S))) from rfl];dsimp only;rw[hk,aab];show ((rD [.str e.w,e.ab,.int e.bl]).bind _)=_;rw[Pb ha,aab,aca ⟨rfl,by rw[aag,O5]; omega⟩,X5]
  all_goals (cases jJ (pz A.length S) e.key<;>rfl)
 cases h:jR S e.key with
 | none=>
  obtain⟨h1,h2,h3⟩:=O6 (N:=A.length) (i:=i) h;rw[h1]at set;have hl:(A++dJ S).length=A.length+S.length:=by rw[aah,aag]
  refine(mZ set rfl (n:=(A++dJ S).length) (ws0:=[]) (ws:=[]) (p:=.int (i:Nat)) ?_ (y:=.sh (.int (i:Nat))) (ρ2:=⟨E.vs.set 3 (some (.own (.dx HK.hk ((pz A.length S).map (·.1)++[e.key]) ((pz A.length S).map (·.2)++[.ptr (A++dJ S).length])))),(A++dJ S)++[some (.lst [])]⟩) rfl rfl ?_ (by simp) rfl).trans ?_
  . show ((A++dJ S)++[some (PV.lst [])])[(A++dJ S).length]?=_;rw[aav (aaf _),aa9]; rfl
  . show ((A++dJ S)++[some (PV.lst [])])[(A++dJ S).length]?=_;rw[aav (aaf _),aa9]; rfl
  . show some (Fl.nx ⟨_,((A++dJ S)++[some (PV.lst [])]).set (A++dJ S).length _⟩)=_;rw[List.set_append_right _ _ (aaf _),aa9,oh,h3,h2,aaG,aaG,hl,show dJ (S++[(e.key,[i])])=dJ S++[some (.lst (bW [i]))] from aaG,<-aai];rfl
 | some l=>
  obtain⟨j,h1,h2,h3,h4⟩:=O7 (N:=A.length) (i:=i) h;rw[h1]at set;obtain⟨x,hx,ex⟩:=O8 h;have hl:=hs x hx;have g:(A++dJ S)[A.length+j]?=some (some (.lst (bW l))):=by rw[aav (by omega),show A.length+j-A.length=j by omega]; exact h2
  refine(mZ set rfl (n:=A.length+j) (ws0:=bW l) (ws:=bW l) (p:=.int (i:Nat)) g (y:=.sh (.int (i:Nat))) (ρ2:=E) rfl rfl g (by rw[aag,<-ex]; omega) rfl).trans ?_;show some (Fl.nx ⟨_,(A++dJ S).set (A.length+j) _⟩)=_;rw[List.set_append_right _ _ (by omega),show A.length+j-A.length=j by omega,show bW l++[PV.int (i:Nat)]=bW (l++[i]) by simp[bW],h3,oh,h4]
theorem JT {A:Mu} {o0 o1 o2 o6 o7 o8 o9 o10:Option Lc}:∀(es:List Ent) (i:Nat) (S:SD) (o4 o5:Option Lc),(∀e∈es,e.ab=.non\/∃j:Nat,e.ab=.int j)->S.length+es.length<=1000->∀m,Short m S->m+es.length<=1000->
 ∃p4 p5,gY (fD 2 (aQ (aG 4) (aQ (aG 5) fC))) Zj (O9 i (ens es)) (AE o0 o1 o2 (some (.own (oh A.length S))) o4 o5 o6 o7 o8 o9 o10 (A++dJ S))=some (.nx (AE o0 o1 o2 (some (.own (oh A.length (pA i es S)))) p4 p5 o6 o7 o8 o9 o10 (A++dJ (pA i es S))))
 | [],i,S,o4,o5,_,_,m,_,_=>⟨o4,o5,rfl⟩
 | e::es,i,S,o4,o5,ha,hl,m,hs,hm=>by simp only[aae]at hl hm;have hp:=Ib (K:=e.key) (i:=i) S;obtain⟨p4,p5,ih⟩:=JT (A:=A) (o0:=o0) (o1:=o1) (o2:=o2) (o6:=o6) (o7:=o7) (o8:=o8) (o9:=o9) (o10:=o10) es (i+1) (gO e.key i S) (zI (i:Nat)) (zS e.pv) (λx hx=>ha x (aak _ hx)) (by omega) (m+1) hs.put (by omega);exact⟨p4,p5,iI (ρ1:=AE o0 o1 o2 (some (.own (oh A.length S))) (zI (i:Nat)) (zS e.pv) o6 o7 o8 o9 o10 (A++dJ S)) rfl (Vg (ha e aac) (by omega) λx hx=>by have:=hs x hx; omega) ih⟩
theorem Er {k:Key} {v:PV}:∀l:PD,(jG k v l).length=l.length
 | []=>rfl
 | x::r=>by simp[jG,Er r]
theorem Rt {k:Key} {v:PV} {l:PD}:(cU l k v).length<=l.length+1:=by
 unfold cU;split
 . rw[Er]; omega
 . simp
abbrev X7:EF:=dD (gH (aa 9) dj) 2 [] (fD 2 (aQ (aG 0) (aQ (aG 1) fC))) dh (aa 0)
theorem JV {mu:Mu}:∀(xs:List Str) (o0 o1:Option Lc) (acc:List PV),acc.length+xs.length<=1000->jm (fD 2 (aQ (aG 0) (aQ (aG 1) fC))) dh (aa 0) (xs.map λx=>.tup [.str x,.non]) ⟨[o0,o1],mu⟩ acc=some (acc++xs.map PV.str,mu)
 | [],o0,o1,acc,_=>by simp[jm]
 | x::xs,o0,o1,acc,h=>by simp only[aae]at h;refine fO (ρ1:=⟨[zT x,some (.sh .non)],mu⟩) (l:=.sh (.str x)) (ρ2:=⟨[zT x,some (.sh .non)],mu⟩) rfl rfl (by omega) ((JV xs _ _ (acc++[.str x]) (by rw[aah]; simp only[aae,aaF]; omega)).trans ?_);simp
theorem Vh {f:Fn} {d:PD} {o0 o1 o2 o3 o4 o5 o8 o10:Option Lc} {mu:Mu} (hp:∃xs:List Str,f.params=xs.map (λx=>.tup [.str x,.non])/\xs.length<=100) (hd:d.length<=1000):∃p,
 qC 6 (aa 7) X7 (AE o0 o1 o2 o3 o4 o5 (some (.own (bz d))) (zT f.name) o8 (zL f.params) o10 mu)=some (.nx (AE o0 o1 o2 o3 o4 o5 (some (.own (bz (cU d (.inr f.name) p)))) (zT f.name) o8 (zL f.params) o10 mu)):=by
 obtain⟨xs,e,hl⟩:=hp;let E:=AE o0 o1 o2 o3 o4 o5 (some (.own (bz d))) (zT f.name) o8 (zL f.params) o10 mu;refine⟨.lst (xs.map PV.str),?_⟩;have c:X7 E=some (.own (.lst (xs.map PV.str)),E):=iD (ρ1:=E) (xs:=f.params) (jP (l:=.sh (.lst f.params)) rfl rfl) (by rw[e]; exact JV xs none none [] (by simp only[aaF]; omega));unfold qC;rw[c,aab];show (if (d.map (·.1)).length<100000 then _ else _)=_;rw[aca (by rw[aag]; omega),JH];rfl
theorem JW {o0 o1 o2 o3 o4 o5:Option Lc} {mu:Mu}:∀(fs:List Fn) (d:PD) (o7 o8 o9 o10:Option Lc),(∀f∈fs,∃xs:List Str,f.params=xs.map (λx=>.tup [.str x,.non])/\xs.length<=100)->d.length+fs.length<=1000->
 ∃d' p7 p8 p9 p10,gY (fD 4 (aQ (aG 7) (aQ (aG 8) (aQ (aG 9) (aQ (aG 10) fC))))) (qC 6 (aa 7) X7) (fs.map Fn.pv) (AE o0 o1 o2 o3 o4 o5 (some (.own (bz d))) o7 o8 o9 o10 mu)=some (.nx (AE o0 o1 o2 o3 o4 o5 (some (.own (bz d'))) p7 p8 p9 p10 mu))
 | [],d,o7,o8,o9,o10,_,_=>⟨d,o7,o8,o9,o10,rfl⟩
 | f::fs,d,o7,o8,o9,o10,h,hl=>by simp only[aae]at hl;obtain⟨p,st⟩:=Vh (f:=f) (d:=d) (o0:=o0) (o1:=o1) (o2:=o2) (o3:=o3) (o4:=o4) (o5:=o5) (o8:=zS f.rank) (o10:=zL f.rows.pvs) (mu:=mu) (h f aac) (by omega);have hp:=Rt (k:=.inr f.name) (v:=p) (l:=d);obtain⟨d',p7,p8,p9,p10,ih⟩:=JW (o0:=o0) (o1:=o1) (o2:=o2) (o3:=o3) (o4:=o4) (o5:=o5) (mu:=mu) fs (cU d (.inr f.name) p) (zT f.name) (zS f.rank) (zL f.params) (zL f.rows.pvs) (λx hx=>h x (aak _ hx)) (by omega);exact⟨d',p7,p8,p9,p10,iI (ρ1:=AE o0 o1 o2 o3 o4 o5 (some (.own (bz d))) (zT f.name) (zS f.rank) (zL f.params) (zL f.rows.pvs) mu) rfl st ih⟩
abbrev LX (N:Nat) (S:SD):PV:=.dx HK.hk ((pz N S).map (·.1)) (S.map λx=>.lst (bW x.2))
abbrev JX (es:List Ent) (N:Nat) (hd:PV):FD:=[("told",.lst (ens es)),("lists",LX N (pA 0 es [])),("heads",hd)]
theorem Y4 (P:Pg):∀e∈P.es,e.ab=.non\/∃j:Nat,e.ab=.int j:=by
 have f:∀(fs:List Fn) (k:Nat),∀e∈Cd fs k,e.ab=.non\/∃j:Nat,e.ab=.int j:=by
  intro fs;induction fs with
  | nil=>intro k e he; cases he
  | cons f fs ih=>
   intro k e he;rcases aaC.mp he with he | he
   . exact(Rows.abs f.rows f.name .non 0 k e he).num (k:=0) (.inl rfl)
   . exact ih _ e he
 intro e he;rcases aaC.mp he with he | he
 . exact f _ _ e he
 . exact(Rows.abs P.rows "main" .non 0 _ e he).num (k:=0) (.inl rfl)
theorem es_len (P:Pg):P.es.length=sE P.fns+P.rows.cnt:=by unfold Pg.es;rw[aah,Dr,Rows.es_len]
theorem Ru {α:Type} {A B:List α} {x:α}:(A++x::B)[A.length]?=some x:=by rw[aav (aaf _),aa9]; rfl
theorem Rw {α:Type} {A B:List α} {x y:α}:(A++x::B).set A.length y=A++y::B:=by rw[List.set_append_right _ _ (aaf _),aa9]; rfl
theorem Rx {P:Pg} (ok:P.ok) (A:Mu):∃hd B,eY [.ptr A.length,P.pv] (A++[some (bC "Plan" [])])=some (.sh .non,A++some (bC "Plan" (JX P.es (A.length+1) hd))::B):=by
 have hc:=ok.ct;have hlen:=es_len P;let A1:Mu:=A++[some (bC "Plan" [])];have hA1:A1.length=A.length+1:=by simp[A1]
 let S:=pA 0 P.es [];let o0:Option Lc:=zS (.ptr A.length);let o1:Option Lc:=zS P.pv;let o2:Option Lc:=zL (ens P.es);obtain⟨p4,p5,e1⟩:=JT (A:=A1) (o0:=o0) (o1:=o1) (o2:=o2) (o6:=none) (o7:=none) (o8:=none) (o9:=none) (o10:=none) P.es 0 [] none none (Y4 P) (by simp only[aaF]; omega) 0 (λx hx=>by cases hx) (by omega);obtain⟨d,p7,p8,p9,p10,e2⟩:=JW (o0:=o0) (o1:=o1) (o2:=o2) (o3:=some (.own (oh A1.length S))) (o4:=p4) (o5:=p5) (mu:=A1++dJ S) P.fns [] none none none none ok.pm (by have:=ok.fl; simp only[aaF]; omega);have n1:=Jf (mu:=A1) ok;let T:PV:=.lst (ens P.es);let A2:Mu:=A++[some (bC "Plan" [("told",T)])];let B:Mu:=S.map λ_=>none;have hA2:A2.length=A1.length:=by simp[A1,A2]
 have hm:=JS S A2;rw[hA2]at hm;let Q:=AE o0 o1 o2 (some (.own (oh A1.length S))) p4 p5 (some (.own (bz d))) p7 p8 p9 p10;let Q2:=AE o0 o1 o2 (zS (oh A1.length S)) p4 p5 (some (.own (bz d))) p7 p8 p9 p10;let Q3:=AE o0 o1 o2 (zS (oh A1.length S)) p4 p5 (zS (bz d)) p7 p8 p9 p10;refine⟨bz d,B,?_⟩;have run:∀{g:SF} {ρ1:Ev},g (env0 11 [.ptr A.length,P.pv] A1)=some (.nx ρ1)->cH 11 g [.ptr A.length,P.pv] A1=some (.sh .non,ρ1.mu):=λh=>eG h;refine run (ρ1:=Q3 (A++some (bC "Plan" (JX P.es (A.length+1) (bz d)))::B)) ?_;refine aD (ρ':=AE o0 o1 (some (.own T)) none none none none none none none none A1) (cA (l:=.own T) (ρ1:=AE o0 o1 none none none none none none none none none A1) (aU (ls:=[.sh P.pv]) (ps:=[P.pv]) (ρ1:=AE o0 o1 none none none none none none none none none A1) rfl rfl rfl rfl n1) rfl rfl) ?_;refine aD (ρ':=AE o0 o1 (some (.own T)) (some (.own (oh A1.length []))) none none none none none none none A1) rfl ?_;refine aD (ρ':=AE o0 o1 o2 (some (.own (oh A1.length S))) p4 p5 none none none none none (A1++dJ S)) (mq (xs:=O9 0 (ens P.es)) (ρ1:=AE o0 o1 o2 (some (.own (oh A1.length []))) none none none none none none none (A1++dJ [])) ?_ e1) ?_
 . rw[<-Rr,show A1++dJ []=A1 from aau _];rfl
 refine aD (ρ':=AE o0 o1 o2 (some (.own (oh A1.length S))) p4 p5 (some (.own (bz []))) none none none none (A1++dJ S)) rfl ?_;refine aD (ρ':=Q (A1++dJ S)) (mq (xs:=P.fns.map Fn.pv) (ρ1:=AE o0 o1 o2 (some (.own (oh A1.length S))) p4 p5 (some (.own (bz []))) none none none none (A1++dJ S)) (jP (l:=.sh (.lst (P.fns.map Fn.pv))) rfl rfl) e2) ?_;refine aD (ρ':=Q (A2++dJ S)) ((oW (C := "Plan") (f := "told") (p:=T) (n:=A.length) (l:=[]) (y:=.sh T) (x:=.sh (.ptr A.length)) (ρ1:=Q (A1++dJ S)) (ρ2:=Q (A1++dJ S)) rfl rfl rfl rfl ?_ (by decide)).trans ?_) ?_
 . show (A++[some (bC "Plan" [])]++dJ S)[A.length]?=_;rw[aai];exact Ru
 . show some (Fl.nx ⟨_,(A++[some (bC "Plan" [])]++dJ S).set A.length _⟩)=some (Fl.nx ⟨_,A++[some (bC "Plan" [("told",T)])]++dJ S⟩);rw[aai,aai,List.singleton_append,Rw];rfl
 refine aD (ρ':=Q2 (A++some (bC "Plan" [("told",T),("lists",LX A1.length S)])::B)) ((oW (C := "Plan") (f := "lists") (p:=LX A1.length S) (n:=A.length) (l:=[("told",T)]) (y:=.sh (LX A1.length S)) (x:=.sh (.ptr A.length)) (ρ1:=Q2 (A2++B)) (ρ2:=Q2 (A2++B)) ?_ rfl rfl rfl ?_ (by simp only[aae,aaF]; omega)).trans ?_) ?_
 . unfold Hl;rw[show aa 3 (Q (A2++dJ S))=some (.sh (oh A1.length S),Q2 (A2++dJ S)) from rfl,aab];show ((meltL (A2++dJ S) ((pz A1.length S).map (·.2))).map _)=_;rw[hm];rfl
 . show (A++[some (bC "Plan" [("told",T)])]++B)[A.length]?=_;rw[aai];exact Ru
 . show some (Fl.nx ⟨_,(A++[some (bC "Plan" [("told",T)])]++B).set A.length _⟩)=some (Fl.nx ⟨_,A++some (bC "Plan" [("told",T),("lists",LX A1.length S)])::B⟩);rw[aai,List.singleton_append,Rw];rfl
 refine(oW (C := "Plan") (f := "heads") (p:=bz d) (n:=A.length) (l:=[("told",T),("lists",LX A1.length S)]) (y:=.sh (bz d)) (x:=.sh (.ptr A.length)) (ρ1:=Q3 (A++some (bC "Plan" [("told",T),("lists",LX A1.length S)])::B)) (ρ2:=Q3 (A++some (bC "Plan" [("told",T),("lists",LX A1.length S)])::B)) rfl rfl rfl rfl Ru (by simp only[aae,aaF]; omega)).trans ?_;show some (Fl.nx ⟨_,(A++some (bC "Plan" [("told",T),("lists",LX A1.length S)])::B).set A.length _⟩)=some (Fl.nx ⟨_,A++some (bC "Plan" (JX P.es (A.length+1) (bz d)))::B⟩);rw[Rw,<-hA1];rfl
structure Ie (mu:Mu) (n:Nat) (es:List Ent):Prop where
 ex:∃N hd,mu[n]?=some (some (bC "Plan" (JX es N hd)))
theorem JZ {es:List Ent} {k:Nat} {e:Ent} (h:es[k]?=some e):gw (ens es) ((k:Nat):Int)=some e.pv:=Dp (by rw[aaJ,h]; rfl)
theorem X8 {mu:Mu} {n k:Nat} {es:List Ent} {e:Ent} (h:Ie mu n es) (he:es[k]?=some e):jY [.ptr n,.int (k:Nat)] mu=some (.sh e.r.pv,mu):=by obtain⟨N,hd,hm⟩:=h;let E:Ev:=⟨[zS (.ptr n),zI (k:Nat)],mu⟩;refine aW (ρ:=E) (bL (mz (p:=e.pv) (q:=.int 3) (ρ1:=E) (ρ2:=E) (l:=.sh e.pv) (m:=.sh (.int 3)) (mz (p:=.lst (ens es)) (q:=.int (k:Nat)) (ρ1:=E) (ρ2:=E) (l:=.sh (.lst (ens es))) (m:=.sh (.int (k:Nat))) (dz (ρ1:=E) (x:=.sh (.ptr n)) (n:=n) rfl rfl hm rfl) rfl rfl rfl (λn h=>by cases h) ?_) rfl rfl rfl (λn h=>by cases h) rfl));show (gw (ens es) ((k:Nat):Int)).map _=_;rw[JZ he];rfl
open Classical in
theorem Ry {mu:Mu} {n k:Nat} {es:List Ent} {e:Ent} {i:Int} (h:Ie mu n es) (he:es[k]?=some e):gM [.ptr n,.int (k:Nat),.int i] mu=some (.own (.lst (bW (pos (KEY e.w k i) 0 es))),mu):=by
 obtain⟨N,hd,hm⟩:=h;let E:Ev:=⟨[zS (.ptr n),zI (k:Nat),zI i],mu⟩;have hk:bG (aj (aY (aY (cj "Plan" "told" (aa 0)) (aa 1)) (eC (.int 0))) (aj (aa 1) (aj (aa 2) ao))) E=some (.sh (.tup [.str e.w,.int (k:Nat),.int i]),E):=by refine gb (ls:=[.sh (.str e.w),.sh (.int (k:Nat)),.sh (.int i)]) (aA (ρ1:=E) (mz (p:=e.pv) (q:=.int 0) (ρ1:=E) (ρ2:=E) (l:=.sh e.pv) (m:=.sh (.int 0)) (mz (p:=.lst (ens es)) (q:=.int (k:Nat)) (ρ1:=E) (ρ2:=E) (l:=.sh (.lst (ens es))) (m:=.sh (.int (k:Nat))) (dz (ρ1:=E) (x:=.sh (.ptr n)) (n:=n) rfl rfl hm rfl) rfl rfl rfl (λn h=>by cases h) ?_) rfl rfl rfl (λn h=>by cases h) rfl) rfl) rfl rfl;show (gw (ens es) ((k:Nat):Int)).map _=_;rw[JZ he];rfl
 let S:=pA 0 es [];have hS:(jR S (KEY e.w k i)).getD []=pos (KEY e.w k i) 0 es:=Ds es 0 [];have g:∃l,vH (cj "Plan" "lists" (aa 0)) (bG (aj (aY (aY (cj "Plan" "told" (aa 0)) (aa 1)) (eC (.int 0))) (aj (aa 1) (aj (aa 2) ao)))) E=some (l,E)/\l.pv=.lst (bW ((jR S (KEY e.w k i)).getD [])):=by
  unfold vH;rw[dz (C := "Plan") (f := "lists") (fo:=aa 0) (ρ:=E) (ρ1:=E) (x:=.sh (.ptr n)) (n:=n) (p:=LX N S) rfl rfl hm rfl,aab];show ∃l,((bG (aj (aY (aY (cj "Plan" "told" (aa 0)) (aa 1)) (eC (.int 0))) (aj (aa 1) (aj (aa 2) ao))) E).bind _)=some (l,E)/\_;rw[hk,aab];show ∃l,(if HK.hk=HK.hk then some ((match jJ (((pz N S).map (·.1)).zip (S.map λx=>PV.lst (bW x.2))) (KEY e.w k i) with | some p=>Lc.sh p | none=>.own (.lst [])),E) else none)=some (l,E)/\_;rw[aca rfl,Ly];cases jR S (KEY e.w k i) with
  | none=>exact⟨_,rfl,rfl⟩
  | some l=>exact⟨_,rfl,rfl⟩
 obtain⟨l,g1,g2⟩:=g;refine aW (ρ:=E) (bL (rB (ls:=[l]) (ps:=[.lst (bW (pos (KEY e.w k i) 0 es))]) (ρ1:=E) (aA g1 rfl) (by rw[<-hS,<-g2]; rfl) rfl))
abbrev KM:List cG:=[some (.inr "main"),none,some (.inl 0)]
theorem Ig {e:Ent} {j:Nat} (h:e.ab=.int j):e.key≠KM:=by unfold Ent.key;rw[h];intro q;injection q with _ q;injection q with q _;cases q
theorem Row.pos_main (r:Row) (k:Nat):pos KM k (r.es "main" .non 0 k)=[k]:=by
 have sub:∀(rs:Rows) (c:Int) (s:Nat),k<s->pos KM s (rs.es "main" (.int (k:Nat)) c s)=[]:=λrs c s hs=>uR λe he=>by
  rcases (Rows.abs rs "main" (.int (k:Nat)) c s e he) with h | ⟨m,h,_⟩
  . exact Ig h
  . exact Ig h
 have own:∀r:Row,(⟨"main",.non,0,r⟩:Ent).key=KM:=λ_=>rfl;cases r with
 | leaf x ps=>show (if _ then _ else _)=_; rw[aca (own _)]; rfl
 | wh x c=>
  show (if _ then _ else _)=_;rw[aca (own _),sub c 0 (k+1) (by omega)]
 | iff x c d=>
  show (if _ then _ else _)=_;rw[aca (own _),j4,Rows.es_len,sub c 0 (k+1) (by omega),sub d 1 (k+1+c.cnt) (by omega)];rfl
theorem Rows.pos_main:∀(rs:Rows) (k:Nat),pos KM k (rs.es "main" .non 0 k)=rs.nums k
 | .nil,k=>rfl
 | .cons r rs,k=>by show pos _ k (r.es "main" .non 0 k++rs.es "main" .non 0 (k+r.cnt))=_;rw[j4,Row.pos_main r k,Row.es_len,Rows.pos_main rs (k+r.cnt)];rfl
open Classical in
theorem Vi {mu:Mu} {n:Nat} {es:List Ent} (h:Ie mu n es):lF [.ptr n,.str "main"] mu=some (.own (.lst (bW (pos KM 0 es))),mu):=by
 obtain⟨N,hd,hm⟩:=h;let E:Ev:=⟨[zS (.ptr n),some (.sh (.str "main"))],mu⟩;let S:=pA 0 es [];have hS:(jR S KM).getD []=pos KM 0 es:=Ds es 0 [];have g:∃l,vH (cj "Plan" "lists" (aa 0)) (bG (aj (aa 1) (aj (eC .non) (aj (eC (.int 0)) ao)))) E=some (l,E)/\l.pv=.lst (bW ((jR S KM).getD [])):=by
  unfold vH;rw[dz (C := "Plan") (f := "lists") (fo:=aa 0) (ρ:=E) (ρ1:=E) (x:=.sh (.ptr n)) (n:=n) (p:=LX N S) rfl rfl hm rfl,aab];show ∃l,(if HK.hk=HK.hk then some ((match jJ (((pz N S).map (·.1)).zip (S.map λx=>PV.lst (bW x.2))) KM with | some p=>Lc.sh p | none=>.own (.lst [])),E) else none)=some (l,E)/\_;rw[aca rfl,Ly];cases jR S KM with
  | none=>exact⟨_,rfl,rfl⟩
  | some l=>exact⟨_,rfl,rfl⟩
 obtain⟨l,g1,g2⟩:=g;refine aW (ρ:=E) (bL (rB (ls:=[l]) (ps:=[.lst (bW (pos KM 0 es))]) (ρ1:=E) (aA g1 rfl) (by rw[<-hS,<-g2]; rfl) rfl))
abbrev PQ (es:List Ent) (N:Nat) (hd:PV):PV:=iQ (ens es) (LX N (pA 0 es [])) hd
theorem lU.row {es:List Ent} {N:Nat} {hd ab:PV} {w:Str} {bl:Int} {k:Nat} {r:Row} (h:lU es w ab bl k r):vX (PQ es N hd) k r.pv:=λmu p hm=>X8 ⟨N,hd,hm⟩ h.get
theorem CB.snocN {mu:Mu} {hi:Nat} {x:Str} {i:Int}:∀{lo:Nat} {A:Bs} {ps:List PV},CB mu hi lo A ps->CB mu hi lo (A++[(x,.n i)]) (ps++[.int i])
 | lo,[],ps,h=>by have h:ps=[]:=h; subst h; exact⟨[],rfl,rfl⟩
 | lo,(_,.n j)::A,ps,⟨r,e,h⟩=>by subst e; exact⟨_,rfl,h.snocN⟩
 | lo,(_,.l js)::A,ps,⟨c,r,e,h1,h2,h3,h⟩=>by subst e; exact⟨c,_,rfl,h1,h2,h3,h.snocN⟩
theorem CB.snocL {mu:Mu} {x:Str} {is:List Int}:∀{lo:Nat} {A:Bs} {ps:List PV},lo<=mu.length->CB mu mu.length lo A ps->CB (mu++[some (.lst (is.map .int))]) (mu.length+1) lo (A++[(x,.l is)]) (ps++[.ptr mu.length])
 | lo,[],ps,hl,h=>by have h:ps=[]:=h; subst h; exact⟨mu.length,[],rfl,hl,aaM _,by rw[aav (aaf _),aa9]; rfl,rfl⟩
 | lo,(_,.n j)::A,ps,hl,⟨r,e,h⟩=>by subst e; exact⟨_,rfl,h.snocL hl⟩
 | lo,(_,.l js)::A,ps,hl,⟨c,r,e,h1,h2,h3,h⟩=>by subst e; exact⟨c,_,rfl,h1,by omega,by rw[yC h2]; exact h3,h.snocL (by omega)⟩
theorem CB.hi {mu:Mu} {hi hi':Nat}:∀{lo:Nat} {A:Bs} {ps:List PV},hi<=hi'->CB mu hi lo A ps->CB mu hi' lo A ps
 | lo,[],ps,_,h=>h
 | lo,(_,.n j)::A,ps,hl,⟨r,e,h⟩=>⟨r,e,h.hi hl⟩
 | lo,(_,.l js)::A,ps,hl,⟨c,r,e,h1,h2,h3,h⟩=>⟨c,r,e,h1,by omega,h3,h.hi hl⟩
theorem Es {k:Key}:∀{ks:List Key} {ps:List PV},k∉ks->bI (ks.zip ps) k=none
 | [],_,_=>rfl
 | _::_,[],_=>rfl
 | y::ks,p::ps,h=>by show (if y=k then some p else bI (ks.zip ps) k)=none;rw[acb (λe=>h (by rw[e]; exact aac)),Es λq=>h (aak _ q)]
theorem Ih {i:Nat} {fi fv:EF} {ρ ρ1 ρ2 ρ':Ev} {x y:Lc} {ks0 ks:List Key} {ps0 ps:List PV} {k:Key} {p:PV} (h1:fv ρ=some (x,ρ1)) (hx:x.pv=p) (h0:ρ1.vs[i]?=some (some (.own (.dk ks0 ps0)))) (h2:fi ρ1=some (y,ρ2)) (hy:oM y.pv=some k) (h3:ρ2.vs[i]?=some (some (.own (.dk ks ps)))) (hl:ks.length<100000) (e:ρ2.set i (some (.own (bz (cU (ks.zip ps) k p))))=ρ'):qC i fi fv ρ=some (.nx ρ'):=by unfold qC;rw[h1,aab,h0];dsimp only;rw[h2,aab,hy,h3];dsimp only;rw[aca hl,hx,e]
theorem J0 {ks:List Key} {ps:List PV} {k:Key} {p:PV} (hl:ps.length=ks.length) (hk:k∉ks):bz (cU (ks.zip ps) k p)=.dk (ks++[k]) (ps++[p]):=by unfold cU;rw[Es hk];show bz (ks.zip ps++[(k,p)])=_;rw[show ks.zip ps++[(k,p)]=(ks++[k]).zip (ps++[p]) from by rw[abk hl.symm]; rfl];exact OD (by rw[aah,aah,hl]; rfl)
abbrev dcl (D:List (Str×Int)):List PV:=D.map λq=>.tup [.str q.1,.int q.2,.non]
abbrev bf (B:Bs):List PV:=B.map λq=>q.2.pv
abbrev Zk:SF:=qC 2 (aY (aa 3) (eC (.int 0))) (pB (tT (jx "list" (aa 4)) gW) (bB (eB list1 (aj (aa 4) ao))) (aa 4))
abbrev FE (P V:PV) (l2 l3 l4:Option Lc) (mu:Mu):Ev:=⟨[zS P,zS V,l2,l3,l4],mu⟩
theorem Rz {A:Bs} {x:Str} (h:x∉A.map (·.1)):(.inr x:Key)∉bh A:=λq=>by obtain⟨z,hz,e⟩:=aaH.mp q;exact h (aaH.mpr ⟨z,hz,Sum.inr.inj e⟩)
theorem Vj {P V:PV} {A:Bs} {ps:List PV} {mu:Mu} {lo:Nat} {x:Str} {s:Int} {v:BV} (hx:x∉A.map (·.1)) (hA:A.length<=100) (hlo:lo<=mu.length) (hc:CB mu mu.length lo A ps):∃ps' t,Zk (FE P V (some (.own (.dk (bh A) ps))) (zS (.tup [.str x,.int s,.non])) (zS v.pv) mu)=some (.nx (FE P V (some (.own (.dk (bh (A++[(x,v)])) ps'))) (zS (.tup [.str x,.int s,.non])) (zS v.pv) (mu++t)))/\CB (mu++t) (mu++t).length lo (A++[(x,v)]) ps':=by
 have hl:ps.length=(bh A).length:=by rw[hc.len,aag]
 have hk:=Rz hx;have ek:bh (A++[(x,v)])=bh A++[.inr x]:=aaG;cases v with
 | n i=>
  refine⟨ps++[.int i],[],?_,?_⟩
  . rw[aau,ek,<-J0 hl hk];exact Ih (ρ2:=FE P V (some (.own (.dk (bh A) ps))) (zS (.tup [.str x,.int s,.non])) (some (.sh (BV.n i).pv)) mu) (x:=.sh (.int i)) (y:=.sh (.str x)) rfl rfl rfl rfl rfl rfl (by rw[aag]; omega) rfl
  . rw[aau];exact hc.snocN
 | l is=>
  refine⟨ps++[.ptr mu.length],[some (.lst (is.map .int))],?_,?_⟩
  . rw[ek,<-J0 hl hk];exact Ih (ρ1:=FE P V (some (.own (.dk (bh A) ps))) (zS (.tup [.str x,.int s,.non])) (some (.sh (BV.l is).pv)) (mu++[some (.lst (is.map .int))])) (ρ2:=FE P V (some (.own (.dk (bh A) ps))) (zS (.tup [.str x,.int s,.non])) (some (.sh (BV.l is).pv)) (mu++[some (.lst (is.map .int))])) (x:=.sh (.ptr mu.length)) (y:=.sh (.str x)) rfl rfl rfl rfl rfl rfl (by rw[aag]; omega) rfl
  . rw[aah];exact hc.snocL hlo
theorem J1 {P V:PV} {lo:Nat}:∀(B:Bs) (D:List (Str×Int)) (A:Bs) (ps:List PV) (l3 l4:Option Lc) (mu:Mu),D.map (·.1)=B.map (·.1)->((A++B).map (·.1)).Nodup->(A++B).length<=100->lo<=mu.length->CB mu mu.length lo A ps->
 ∃ps' t p3 p4,gY (fD 2 (aQ (aG 3) (aQ (aG 4) fC))) Zk (nF (dcl D) (bf B)) (FE P V (some (.own (.dk (bh A) ps))) l3 l4 mu)=some (.nx (FE P V (some (.own (.dk (bh (A++B)) ps'))) p3 p4 (mu++t)))/\CB (mu++t) (mu++t).length lo (A++B) ps'
 | [],D,A,ps,l3,l4,mu,hD,_,_,_,hc=>by
  obtain rfl:D=[]:=by cases D with | nil=>rfl | cons q D=>(simp at hD)
  refine⟨ps,[],l3,l4,?_,by rw[aau,aau]; exact hc⟩;rw[aau,aau];rfl
 | (x,w)::B,D,A,ps,l3,l4,mu,hD,nd,h1,hlo,hc=>by
  obtain⟨s,D',rfl,hD'⟩:∃s D',D=(x,s)::D'/\D'.map (·.1)=B.map (·.1):=by
   cases D with
   | nil=>simp at hD
   | cons q D=>
    simp only[aax,List.cons.injEq]at hD;exact⟨q.2,D,by rw[<-hD.1],hD.2⟩
  have e1:A++(x,w)::B=(A++[(x,w)])++B:=by rw[aai]; rfl
  have hx:x∉A.map (·.1):=λq=>by rw[aaG]at nd;exact(abI.mp nd).2.2 x q x (by rw[aax]; exact aac) rfl
  rw[e1]at nd h1 ⊢;obtain⟨ps1,t1,es,hc1⟩:=Vj (P:=P) (V:=V) (s:=s) (v:=w) hx (by rw[aah,aah]at h1; omega) hlo hc;obtain⟨ps',t,p3,p4,el,hc'⟩:=J1 (P:=P) (V:=V) (lo:=lo) B D' (A++[(x,w)]) ps1 (zS (.tup [.str x,.int s,.non])) (zS w.pv) (mu++t1) hD' nd h1 (by rw[aah]; omega) hc1;rw[aai mu t1 t]at el hc';exact⟨ps',t1++t,p3,p4,iI (ρ1:=FE P V (some (.own (.dk (bh A) ps))) (zS (.tup [.str x,.int s,.non])) (zS w.pv) mu) rfl es el,hc'⟩
theorem Ph {gr R4 R3:PV} {B:Bs} {D:List (Str×Int)} {mu:Mu} (hD:D.map (·.1)=B.map (·.1)) (nd:(B.map (·.1)).Nodup) (h1:B.length<=100):∃ps t,rN [.tup [.lst (dcl D),gr,R3,R4],.lst (bf B)] mu=some (.own (.dk (bh B) ps),mu++t)/\CB (mu++t) (mu++t).length mu.length B ps:=by let P:PV:=.tup [.lst (dcl D),gr,R3,R4];obtain⟨ps,t,p3,p4,el,hc⟩:=J1 (P:=P) (V:=.lst (bf B)) (lo:=mu.length) B D [] [] none none mu hD nd h1 (aaf _) rfl;exact⟨ps,t,aW (ρ:=FE P (.lst (bf B)) none p3 p4 (mu++t)) (aD (ρ':=FE P (.lst (bf B)) (some (.own (.dk [] []))) none none mu) rfl (aD (ρ':=FE P (.lst (bf B)) (some (.own (.dk (bh B) ps))) p3 p4 (mu++t)) (mq (xs:=nF (dcl D) (bf B)) (ρ1:=FE P (.lst (bf B)) (some (.own (.dk [] []))) none none mu) rfl el) rfl)),hc⟩
abbrev jT (D:List (Str×Int)) (rs:Rows):Pg:=⟨dcl D,[],[],rs⟩
theorem Pj {D:List (Str×Int)} {rs:Rows}:(jT D rs).es=rs.es "main" .non 0 0:=rfl
theorem Rows.nums_len:∀(rs:Rows) (k:Nat),(rs.nums k).length<=rs.cnt
 | .nil,k=>aaf _
 | .cons r rs,k=>by have:=r.cnt_pos;have:=Rows.nums_len rs (k+r.cnt);simp only[Rows.nums,Rows.cnt,aae];omega
def J2 (rs:Rows):List PV:=match (rs.nums 0).getLast? with
 | none=>[]
 | some m=>[due m 3]++(bW (rs.nums 0)).reverse.map qm
theorem Lz {mu:Mu} {I:Ix} {bu:Int} {wd:Str} {B:Bs} {M:List PV} {D:List (Str×Int)} {rs:Rows} {N:Nat} {hd:PV} (S:RS mu I bu wd (PQ ((jT D rs).es) N hd) B M []) (hl:(rs.nums 0).length<=900):∃mu',kh [.ptr I.r,.str "main"] mu=some (.sh .non,mu')/\RS mu' I bu wd (PQ ((jT D rs).es) N hd) B M (J2 rs)/\mu'.length=mu.length/\∀c,c≠I.d->mu'[c]?=mu[c]?:=by
 let E:=λl2 mu=>(⟨[zS (.ptr I.r),some (.sh (.str "main")),l2],mu⟩:Ev);obtain⟨ns,hns⟩:∃ns,rs.nums 0=ns:=⟨_,rfl⟩;let N':Option Lc:=zL (bW ns);have be:lF [.ptr I.p,.str "main"] mu=some (.own (.lst (bW ns)),mu):=by have q:=Vi (mu:=mu) (n:=I.p) (es:=(jT D rs).es) ⟨N,hd,S.hp⟩;rw[Pj,Rows.pos_main,hns]at q;exact q
 have s2:aV 2 (cJ "Plan" "body" lF (cj "Running" "plan" (aa 0)) (aj (aa 1) ao)) (E none mu)=some (.nx (E (zO (bW ns)) mu)):=cA (qP (x:=.sh (.ptr I.p)) (ls:=[.sh (.str "main")]) (ρ1:=E none mu) (ρ2:=E none mu) (dz rfl rfl S.hr rfl) rfl S.hp (show (["told", "lists", "heads"]:List Str).contains "body" = false from by decide +kernel) rfl rfl be) rfl rfl;have t3:tT (aa 2) gW (E (zO (bW ns)) mu)=some (!(bW ns).isEmpty,E N' mu):=rfl;unfold J2;rw[hns]at hl ⊢;rcases List.eq_nil_or_concat ns with e0 | ⟨ms,m,e0⟩
 . subst e0;have el:=BR (ps:=[]) S (by simp);exact⟨_,eG (ρ:=E N' _) (aD s2 (aD (ρ':=E N' mu) ((cL t3).trans rfl) (fQ (kW S.hr (by decide +kernel) (ls:=[.sh (.lst [])]) (mu1:=mu) rfl rfl el)))),S.setD (D':=[]),aaK,λc hc=>aaw (Ne.symm hc)⟩
 . have e0:ns=ms++[m]:=by rw[e0,List.concat_eq_append]
   have en:bW ns=bW ms++[.int (m:Nat)]:=by rw[e0]; exact aaG
   have S1:=S.setD (D':=[]++[PV.tup [.int (m:Nat),.int 3]]);have el:=BR (ps:=bW ns) S1 (by rw[aag]; simp; omega);have gl:ns.getLast?=some m:=by rw[e0,List.getLast?_concat]
   rw[gl];refine⟨_,?_,S1.setD,by rw[aaK,aaK],λc hc=>(aaw (Ne.symm hc)).trans (aaw (Ne.symm hc))⟩;have s3:eQ (cj "Running" "due" (aa 0)) (bG (aj (aY (aa 2) (gh (eC (.int 1)))) (aj (eC (.int 3)) ao))) (E N' mu)=some (.nx (E N' (mu.set I.d (some (.lst ([]++[PV.tup [.int (m:Nat),.int 3]])))))):=mZ (o:=.sh (.ptr I.d)) (ρ1:=E N' mu) (ρ2:=E N' mu) (y:=.sh (.tup [.int (m:Nat),.int 3])) (dz rfl rfl S.hr rfl) rfl S.hd (gb (ls:=[.sh (.int (m:Nat)),.sh (.int 3)]) (aA (mz (l:=.sh (.lst (bW ns))) (m:=.sh (.int (-1))) rfl rfl rfl rfl (λn h=>by cases h) (by show (gw (bW ns) (-1)).map _=_; rw[en,HS]; rfl)) rfl) rfl rfl) rfl S.hd (by decide) rfl;exact eG (ρ:=E N' _) (aD s2 (aD (ρ':=E N' _) ((d9 (t3.trans (by rw[en]; cases bW ms<;>rfl))).trans s3) (fQ (kW S1.hr (by decide +kernel) (ls:=[.sh (.lst (bW ns))]) (mu1:=mu.set I.d (some (.lst ([]++[PV.tup [.int (m:Nat),.int 3]])))) rfl rfl el))))
section
variable {b0:Mu} {r:Nat}
abbrev WW (b0:Mu) (r:Nat) (l:FD) (t:Mu):Mu:=b0.set r (some (bC "Running" l))++t
theorem Yb {l l':FD} {t:Mu} (h:r<b0.length):(WW b0 r l t).set r (some (bC "Running" l'))=WW b0 r l' t:=by unfold WW;rw[List.set_append_left _ _ (by rw[aaK]; exact h),aba]
theorem LC {l:FD} {t:Mu} {i:Nat}:(WW b0 r l t)[b0.length+i]?=t[i]?:=by unfold WW;rw[aav (by rw[aaK]; omega),aaK];congr 1;omega
theorem Yc {l:FD} {t:Mu} (h:r<b0.length):(WW b0 r l t)[r]?=some (some (bC "Running" l)):=by unfold WW;rw[aaI (by rw[aaK]; exact h),aas h]
theorem LK {l:FD} {t:Mu} {c:Nat} (h:c<b0.length) (hc:c≠r):(WW b0 r l t)[c]?=b0[c]?:=by unfold WW;rw[aaI (by rw[aaK]; exact h),aaw (Ne.symm hc)]
theorem sG {l:FD} {t:Mu}:(WW b0 r l t).length=b0.length+t.length:=by unfold WW;rw[aah,aaK]
theorem m7 {l:FD} {t u:Mu}:WW b0 r l t++u=WW b0 r l (t++u):=aai ..
abbrev RE (r:Nat) (P V:PV) (bu:Int) (mu:Mu):Ev:=⟨[zS (.ptr r),zS P,zS V,zI bu],mu⟩
theorem Dt {f:Str} {fv:EF} {P V:PV} {bu:Int} {l l':FD} {t t':Mu} {y:Lc} {p:PV} (h:r<b0.length) (h1:fv (RE r P V bu (WW b0 r l t))=some (y,RE r P V bu (WW b0 r l t'))) (hy:y.pv=p) (hl:l.length<1000) (e:nG f p l=l'):eU "Running" f (aa 0) fv (RE r P V bu (WW b0 r l t))=some (.nx (RE r P V bu (WW b0 r l' t'))):=by have q:=oW (C := "Running") (f:=f) (fo:=aa 0) (x:=.sh (.ptr r)) (ρ2:=RE r P V bu (WW b0 r l t')) (n:=r) (l:=l) h1 hy rfl rfl (Yc h) hl;rw[q,e,show (RE r P V bu (WW b0 r l t')).mu=WW b0 r l t' from rfl,Yb h]
end
theorem Vk {rs:Rows} {B:Bs} {D:List (Str×Int)} {bu:Int} {mu:Mu} (hD:D.map (·.1)=B.map (·.1)) (nd:(B.map (·.1)).Nodup) (h1:B.length<=100) (ok:(jT D rs).ok):
 ∃mu' I N hd,eN [.ptr mu.length,(jT D rs).pv,.lst (bf B),.int bu] (mu++[some (bC "Running" [])])=some (.sh .non,mu')/\I.r=mu.length/\RS mu' I bu "done" (PQ ((jT D rs).es) N hd) B [] (J2 rs)/\mu'.length=I.d+1/\∀c,c<mu.length->mu'[c]?=mu[c]?:=by
 let P:PV:=(jT D rs).pv;let r:=mu.length;have hrm:r=mu.length:=rfl;obtain⟨hd,Bm,e0'⟩:=Rx ok (mu++[some (bC "Running" [])]);let b0:Mu:=(mu++[some (bC "Running" [])])++some (bC "Plan" (JX (jT D rs).es ((mu++[some (bC "Running" [])]).length+1) hd))::Bm;have hN:(mu++[some (bC "Running" [])]).length=r+1:=by simp[r]
 have e0:eY [.ptr (r+1),P] ((mu++[some (bC "Running" [])])++[some (bC "Plan" [])])=some (.sh .non,b0):=by rw[<-hN]; exact e0'
 have h0:b0[r+1]?=some (some (PQ ((jT D rs).es) (r+2) hd)):=by show ((mu++[some (bC "Running" [])])++some (bC "Plan" (JX (jT D rs).es ((mu++[some (bC "Running" [])]).length+1) hd))::Bm)[r+1]?=_;rw[hN,aav (by rw[hN]; omega),hN,aa9];rfl
 have l0:((mu++[some (bC "Running" [])])++[some (bC "Plan" [])]).length<=b0.length:=by simp[b0]
 have f0:∀c,c<((mu++[some (bC "Running" [])])++[some (bC "Plan" [])]).length->c≠r+1->b0[c]?=((mu++[some (bC "Running" [])])++[some (bC "Plan" [])])[c]?:=λc h1 h2=>by
  have h3:c<(mu++[some (bC "Running" [])]).length:=by rw[aah]at h1; simp only[aae,aaF]at h1; omega
  show ((mu++[some (bC "Running" [])])++_)[c]?=_;rw[aaI h3,aaI h3]
 have lb:r+2<=b0.length:=by have:=l0; simp[r]at this ⊢; omega
 have fr:∀c,c<mu.length->b0[c]?=mu[c]?:=λc hc=>by rw[f0 c (by simp; omega) (by simp only[r]; omega),aaI (by simp; omega),aaI hc]
 have br:b0[r]?=some (some (bC "Running" [])):=by rw[f0 r (by simp[r]) (by simp[r]),aaI (by simp[r]),aav (by simp[r]),show r-mu.length=0 from by simp[r]];rfl
 have hr:r<b0.length:=by omega
 have w0:b0=WW b0 r [] []:=by unfold WW;rw[aau,ack br]
 have s1:eU "Running" "plan" (aa 0) (sZ "Plan" eY (aj (aa 1) ao)) (RE r P (.lst (bf B)) bu (mu++[some (bC "Running" [])]))=some (.nx (RE r P (.lst (bf B)) bu (WW b0 r [("plan",.ptr (r+1))] []))):=by
  have mk:=JK (C := "Plan") (g:=eY) (a:=aj (aa 1) ao) (ρ:=RE r P (.lst (bf B)) bu (mu++[some (bC "Running" [])])) (ρ1:=RE r P (.lst (bf B)) bu (mu++[some (bC "Running" [])])) (ls:=[.sh P]) (ps:=[P]) (mu2:=b0) rfl rfl (by rw[show (RE r P (.lst (bf B)) bu (mu++[some (bC "Running" [])])).mu.length=r+1 from by simp[r]];exact e0)
  rw[show (RE r P (.lst (bf B)) bu (mu++[some (bC "Running" [])])).mu.length=r+1 from by simp[r]]at mk;have q:=oW (C := "Running") (f := "plan") (fo:=aa 0) (x:=.sh (.ptr r)) (ρ2:=RE r P (.lst (bf B)) bu b0) (n:=r) (l:=[]) mk rfl rfl rfl br (by decide);rw[q];show some (Fl.nx (RE r P (.lst (bf B)) bu (b0.set r (some (bC "Running" [("plan",.ptr (r+1))])))))=_;unfold WW;rw[aau]
 obtain⟨ps,t,ef,hc⟩:=Ph (gr:=.lst []) (R3:=.lst []) (R4:=.lst rs.pvs) (D:=D) (mu:=WW b0 r [("plan",.ptr (r+1))] []) hD nd h1;rw[m7]at ef hc;rw[abg]at ef hc;have s2:eU "Running" "boxes" (aa 0) (bB (aJ rN (aj (aa 1) (aj (aa 2) ao)))) (RE r P (.lst (bf B)) bu (WW b0 r [("plan",.ptr (r+1))] []))=some (.nx (RE r P (.lst (bf B)) bu (WW b0 r [("plan",.ptr (r+1)),("boxes",.ptr (b0.length+t.length))] (t++[some (.dk (bh B) ps)])))):=by refine Dt (y:=.sh (.ptr (b0.length+t.length))) hr ?_ rfl (show (1:Nat)<1000 from by decide) rfl;have q:=fU (f:=aJ rN (aj (aa 1) (aj (aa 2) ao))) (p:=.dk (bh B) ps) (ρ:=RE r P (.lst (bf B)) bu (WW b0 r [("plan",.ptr (r+1))] [])) (ρ1:=RE r P (.lst (bf B)) bu (WW b0 r [("plan",.ptr (r+1))] t)) (aU (ls:=[.sh P,.sh (.lst (bf B))]) (ρ1:=RE r P (.lst (bf B)) bu (WW b0 r [("plan",.ptr (r+1))] [])) (aA rfl (aA rfl rfl)) rfl rfl rfl ef);rw[show (RE r P (.lst (bf B)) bu (WW b0 r [("plan",.ptr (r+1))] t)).mu.length=b0.length+t.length from sG,show (RE r P (.lst (bf B)) bu (WW b0 r [("plan",.ptr (r+1))] t)).mu++[some (.dk (bh B) ps)]=WW b0 r [("plan",.ptr (r+1))] (t++[some (.dk (bh B) ps)]) from m7]at q;exact q
 let n:=b0.length+t.length;let l2:FD:=[("plan",.ptr (r+1)),("boxes",.ptr n)];let t2:Mu:=t++[some (.dk (bh B) ps)];let t3:Mu:=t2++[some (.dk [] []),some (.lst [.ptr (n+1)])];let l3:FD:=[("plan",.ptr (r+1)),("boxes",.ptr n),("own",.ptr (n+2))];have lt2:∀l,(WW b0 r l t2).length=n+1:=λl=>by rw[sG]; simp[t2,n]; omega
 have s3:eU "Running" "own" (aa 0) (bB (bx (aj (bB pG) ao))) (RE r P (.lst (bf B)) bu (WW b0 r l2 t2))=some (.nx (RE r P (.lst (bf B)) bu (WW b0 r l3 t3))):=by
  refine Dt (y:=.sh (.ptr (n+2))) (t':=t3) hr ?_ rfl (show (2:Nat)<1000 from by decide) rfl;have a1:bB pG (RE r P (.lst (bf B)) bu (WW b0 r l2 t2))=some (.sh (.ptr (n+1)),RE r P (.lst (bf B)) bu (WW b0 r l2 (t2++[some (.dk [] [])]))):=by have q:=fU (f:=pG) (p:=.dk [] []) (ρ:=RE r P (.lst (bf B)) bu (WW b0 r l2 t2)) rfl;rw[show (RE r P (.lst (bf B)) bu (WW b0 r l2 t2)).mu.length=n+1 from lt2 l2]at q;rw[q,<-m7 (t:=t2) (u:=[some (.dk [] [])])]
  have q:=fU (f:=bx (aj (bB pG) ao)) (p:=.lst [.ptr (n+1)]) (ρ:=RE r P (.lst (bf B)) bu (WW b0 r l2 t2)) (ρ1:=RE r P (.lst (bf B)) bu (WW b0 r l2 (t2++[some (.dk [] [])]))) (xm (ls:=[.sh (.ptr (n+1))]) (aA a1 rfl) rfl rfl);rw[show (RE r P (.lst (bf B)) bu (WW b0 r l2 (t2++[some (.dk [] [])]))).mu.length=n+2 from by show (WW b0 r l2 (t2++[some (.dk [] [])])).length=_; rw[<-m7,aah,lt2]; rfl]at q;rw[q,<-m7 (t:=t2) (u:=[some (.dk [] [])])];show some (_,RE r P (.lst (bf B)) bu ((WW b0 r l2 t2++[some (.dk [] [])])++[some (.lst [.ptr (n+1)])]))=_;rw[aai,m7];rfl
 let l4:FD:=[("plan",.ptr (r+1)),("boxes",.ptr n),("own",.ptr (n+2)),("budget",.int bu)];let l5:FD:=[("plan",.ptr (r+1)),("boxes",.ptr n),("own",.ptr (n+2)),("budget",.int bu),("word",.str "done")];have s4:eU "Running" "budget" (aa 0) (aa 3) (RE r P (.lst (bf B)) bu (WW b0 r l3 t3))=some (.nx (RE r P (.lst (bf B)) bu (WW b0 r l4 t3))):=Dt (y:=.sh (.int bu)) hr rfl rfl (show (3:Nat)<1000 from by decide) rfl;have s5:eU "Running" "word" (aa 0) (eC (.str "done")) (RE r P (.lst (bf B)) bu (WW b0 r l4 t3))=some (.nx (RE r P (.lst (bf B)) bu (WW b0 r l5 t3))):=Dt (y:=.sh (.str "done")) hr rfl rfl (show (4:Nat)<1000 from by decide) rfl;have lt3:∀l,(WW b0 r l t3).length=n+3:=λl=>by rw[sG]; simp[t3,t2,n]; omega
 let t4:Mu:=t3++[some (.lst [])];let l6:FD:=[("plan",.ptr (r+1)),("boxes",.ptr n),("own",.ptr (n+2)),("budget",.int bu),("word",.str "done"),("moments",.ptr (n+3))];have s6:eU "Running" "moments" (aa 0) (bB (bx ao)) (RE r P (.lst (bf B)) bu (WW b0 r l5 t3))=some (.nx (RE r P (.lst (bf B)) bu (WW b0 r l6 t4))):=by refine Dt (y:=.sh (.ptr (n+3))) (t':=t4) hr ?_ rfl (show (5:Nat)<1000 from by decide) rfl;have q:=fU (f:=bx ao) (p:=.lst []) (ρ:=RE r P (.lst (bf B)) bu (WW b0 r l5 t3)) rfl;rw[show (RE r P (.lst (bf B)) bu (WW b0 r l5 t3)).mu.length=n+3 from lt3 l5]at q;rw[q,<-m7 (t:=t3) (u:=[some (.lst [])])]
 have lt4:∀l,(WW b0 r l t4).length=n+4:=λl=>by rw[sG]; simp[t4,t3,t2,n]; omega
 let t5:Mu:=t4++[some (.lst [])];let l7:FD:=[("plan",.ptr (r+1)),("boxes",.ptr n),("own",.ptr (n+2)),("budget",.int bu),("word",.str "done"),("moments",.ptr (n+3)),("due",.ptr (n+4))];have s7:eU "Running" "due" (aa 0) (bB (bx ao)) (RE r P (.lst (bf B)) bu (WW b0 r l6 t4))=some (.nx (RE r P (.lst (bf B)) bu (WW b0 r l7 t5))):=by refine Dt (y:=.sh (.ptr (n+4))) (t':=t5) hr ?_ rfl (show (6:Nat)<1000 from by decide) rfl;have q:=fU (f:=bx ao) (p:=.lst []) (ρ:=RE r P (.lst (bf B)) bu (WW b0 r l6 t4)) rfl;rw[show (RE r P (.lst (bf B)) bu (WW b0 r l6 t4)).mu.length=n+4 from lt4 l6]at q;rw[q,<-m7 (t:=t4) (u:=[some (.lst [])])]
 let I:Ix:=⟨r,r+1,n,n+1,n+2,n+3,n+4⟩;have et:t5=t++[some (.dk (bh B) ps),some (.dk [] []),some (.lst [.ptr (n+1)]),some (.lst []),some (.lst [])]:=by simp[t5,t4,t3,t2]
 have at5:∀i:Nat,(WW b0 r l7 t5)[n+i]?=[some (PV.dk (bh B) ps),some (.dk [] []),some (.lst [.ptr (n+1)]),some (.lst []),some (.lst [])][i]?:=λi=>by rw[show n+i=b0.length+(t.length+i) from by simp only[n]; omega,LC,et,aav (by omega)];congr 1;omega
 have S:RS (WW b0 r l7 t5) I bu "done" (PQ ((jT D rs).es) (r+2) hd) B [] []:=by
  refine⟨by show r<r+1; omega,by show r+1<n; simp only[n]; omega,by show n<n+1; omega,by show n+1<n+2; omega,by show n+2<n+3; omega,by show n+3<n+4; omega,Yc hr,?_,⟨ps,at5 0,?_⟩,at5 1,at5 2,at5 3,at5 4⟩
  . show (WW b0 r l7 t5)[r+1]?=_;rw[LK (by omega) (by omega)];exact h0
  . rw[sG]at hc;refine(hc.lo (lo':=r+1+1) (by rw[sG]; omega)).frame λc c1 c2=>?_;have c1':r+1+1<=c:=c1;by_cases hcb:c<b0.length
    . rw[LK hcb (by omega),LK hcb (by omega)]
    . obtain⟨i,rfl⟩:∃i,c=b0.length+i:=⟨c-b0.length,by omega⟩;rw[LC,LC,et,aaI (by have:b0.length+i<b0.length+t.length:=c2; omega)]
 obtain⟨mu',el,S',len',fr'⟩:=Lz S (by have:=ok.ct; exact aaR (aaR (Nat.le_of_eq rfl) (Rows.nums_len rs 0)) (by have:sE ([]:List Fn)=0:=rfl; show rs.cnt<=900; have h:=ok.ct; simp only[jT]at h; omega));refine⟨mu',I,r+2,hd,?_,rfl,S',?_,λc hc=>?_⟩
 . refine eG (ρ:=RE r P (.lst (bf B)) bu mu') (aD s1 (aD s2 (aD s3 (aD s4 (aD s5 (aD s6 (aD s7 (fQ (l:=.sh .non) ?_))))))));exact kW (I:=I) S.hr (by decide +kernel) (ls:=[.sh (.str "main")]) (mu1:=WW b0 r l7 t5) rfl rfl el
 . rw[len',sG,et];simp[I,n];omega
 . have hnd:n=b0.length+t.length:=rfl;rw[fr' c (by show c≠n+4; omega),LK (by omega) (by omega),fr c hc]
def RB (Q:PV) (k:Nat) (i:Int) (ns:List PV):Prop:=∀(mu:Mu) (p:Nat),mu[p]?=some (some Q)->gM [.ptr p,.int (k:Nat),.int i] mu=some (.own (.lst ns),mu)
def Ce (v:Int):Int:=if v=0 then 1 else 0
section
variable {mu:Mu} {I:Ix} {bu:Int} {wd:Str} {T:List PV} {L H:PV} {B:Bs} {M D:List PV} {ms:List cB}
theorem RC {k:Nat} {e:Ex} {b1 b2:PV} {ns:List PV} (G:Gd mu I bu wd (iQ T L H) B ms D) (hB:BG B) (he:e.ok B) (de:e.dp<=40) (hk:vX (iQ T L H) k (.tup [.str "if",e.pv,b1,b2])) (hb:RB (iQ T L H) k (Ce (ev B e)) ns) (hl:ms.length<90000) (hD:D.length+ns.length<=90000):∃mu',iG [.ptr I.r,.int (k:Nat)] mu=some (.sh .non,mu')/\Gd mu' I bu wd (iQ T L H) B (ms++[((k:Int),0,[])]) (D++ns.reverse.map qm)/\Fr I mu mu':=by
 obtain⟨M,S,Mo⟩:=G.ex;obtain⟨mu1,⟨⟨M1,S1,Mo1⟩⟩,f1,go⟩:=BZ (M':=M) S Mo hk hl;have ⟨l1,l2,l3,l4,l5,l6⟩:=S1.ls;let E:=λmu=>(⟨[zS (.ptr I.r),zI (k:Nat),some (.sh (.tup [.str "if",e.pv,b1,b2]))],mu⟩:Ev);have r0:aY (aa 2) (eC (.int 0)) (E mu1)=some (.sh (.str "if"),E mu1):=rfl;have t1:∀c:Bool,(ev B e==0)=c->tT (aB eqP (cJ "Running" "value" c7 (aa 0) (aj (aY (aa 2) (eC (.int 1))) ao)) (eC (.int 0))) bA (E mu1)=some (c,E mu1):=λc hc=>tK (kW S1.hr (by decide +kernel) (ls:=[.sh e.pv]) (mu1:=mu1) rfl rfl (xY S1 hB.ok he de hB.l8)) hc;have ch:pB (tT (aB eqP (cJ "Running" "value" c7 (aa 0) (aj (aY (aa 2) (eC (.int 1))) ao)) (eC (.int 0))) bA) (eC (.int 1)) (eC (.int 0)) (E mu1)=some (.sh (.int (Ce (ev B e))),E mu1):=by
  unfold Ce;by_cases h:ev B e=0
  . rw[aca h];exact(Ou (t1 true (by rw[h]; rfl))).trans rfl
  . rw[acb h];exact(HH (t1 false (acg.mpr h))).trans rfl
 have el:=BR (ps:=ns) S1 hD;refine⟨_,eG (ρ:=E _) (go _ _ ((d9 (BW r0 (by decide +kernel))).trans (fQ (kW S1.hr (by decide +kernel) (ls:=[.own (.lst ns)]) (mu1:=mu1) (aA (qP (x:=.sh (.ptr I.p)) (ls:=[.sh (.int (k:Nat)),.sh (.int (Ce (ev B e)))]) (ρ1:=E mu1) (ρ2:=E mu1) (dz rfl rfl S1.hr rfl) rfl S1.hp (show (["told", "lists", "heads"]:List Str).contains "block" = false from by decide +kernel) (aA rfl (aA ch rfl)) rfl (hb mu1 I.p S1.hp)) rfl) rfl el)))),⟨M1,S1.setD,Mo1.frame λc q _=>aaw (by omega)⟩,f1.trans (Fr.set (by omega) (by omega))⟩
theorem Y5 {k:Nat} {e:Ex} {b1 b2:PV} {ns:List PV} (hB:BG B) (he:e.ok B) (de:e.dp<=40) (hk:vX (iQ T L H) k (.tup [.str "if",e.pv,b1,b2])) (hb:RB (iQ T L H) k (Ce (ev B e)) ns) (hl:ms.length<90000) (hD:D.length+ns.length<=90000):Rn I (iQ T L H) 1 ⟨bu,wd,B,ms,D++[due k 0]⟩ ⟨bu,wd,B,ms++[((k:Int),0,[])],D++ns.reverse.map qm⟩:=
 Lw rfl λmu G=>by obtain⟨M,S,Mo⟩:=Gd.ex G;obtain⟨G1,f1⟩:=Gd.pop G;obtain⟨mu',e',G',f'⟩:=RC G1 hB he de hk hb hl hD;exact⟨mu',JM S e',G',f1.trans f'⟩
theorem lU.blkI {es:List Ent} {N:Nat} {hd ab e:PV} {w:Str} {bl:Int} {k:Nat} {b c:Rows} (h:lU es w ab bl k (.iff e b c)) (v:Int):RB (PQ es N hd) k (Ce v) (bW (if v=0 then c.nums (k+1+b.cnt) else b.nums (k+1))):=λmu p hm=>by
 have q:=Ry (i:=Ce v) ⟨N,hd,hm⟩ h.get;rw[h.pos (Ce v)]at q;rw[q];unfold Ce;by_cases hv:v=0
 . rw[aca hv,aca hv];rfl
 . rw[acb hv,acb hv];rfl
end
mutual
inductive Tr where
 | set (x:Str) (e:Ex)
 | iff (e:Ex) (b c:jU)
inductive jU where
 | nil
 | cons (r:Tr) (rs:jU)
end
mutual
def Tr.row:Tr->Row
 | .set x e=>.leaf "set" [.str x,e.pv]
 | .iff e b c=>.iff e.pv b.rows c.rows
def jU.rows:jU->Rows
 | .nil=>.nil
 | .cons r rs=>.cons r.row rs.rows
end
mutual
def Tr.sem:Tr->Nat->Bs->List cB×Bs
 | .set x e,k,B=>([((k:Int),0,[]),((k:Int),1,[(x,0,ev B e)])],setB B x (.n (ev B e)))
 | .iff e b c,k,B=>if ev B e=0 then (((k:Int),0,[])::(c.sem (k+1+b.rows.cnt) B).1,(c.sem (k+1+b.rows.cnt) B).2) else (((k:Int),0,[])::(b.sem (k+1) B).1,(b.sem (k+1) B).2)
def jU.sem:jU->Nat->Bs->List cB×Bs
 | .nil,_,B=>([],B)
 | .cons r rs,k,B=>((r.sem k B).1++(rs.sem (k+r.row.cnt) (r.sem k B).2).1,(rs.sem (k+r.row.cnt) (r.sem k B).2).2)
end
structure BK (nm:List Str) (B:Bs):Prop where
 bg:BG B
 nm:∀x∈nm,rZ B x
def Ex.okN (nm:List Str) (e:Ex):Prop:=e.dp<=40/\∀B,(∀x∈nm,rZ B x)->e.ok B
mutual
def Tr.ok (nm:List Str):Tr->Prop
 | .set x e=>x∈nm/\e.okN nm
 | .iff e b c=>e.okN nm/\b.ok nm/\c.ok nm
def jU.ok (nm:List Str):jU->Prop
 | .nil=>True
 | .cons r rs=>r.ok nm/\rs.ok nm
end
theorem BK.set {nm:List Str} {B:Bs} (h:BK nm B) {x:Str} {e:Ex} (hx:x∈nm) (he:e.okN nm):BK nm (setB B x (.n (ev B e))):=⟨h.bg.n (yw h.bg.ok (he.2 B h.nm)),λy hy=>(YX (h.nm x hx)).1 y (h.nm y hy)⟩
section
variable {I:Ix} {es:List Ent} {N:Nat} {hd:PV} {nm:List Str} {bu:Int} {wd w:Str}
mutual
theorem Tr.sim:∀(r:Tr) (k:Nat) (ab:PV) (bl:Int) (B:Bs) (ms:List cB) (D:List PV),r.ok nm->lU es w ab bl k r.row->BK nm B->ms.length+2*r.row.cnt<90000->D.length+r.row.cnt<=80000->
 (∃m:Nat,m<=r.row.cnt/\Rn I (PQ es N hd) m ⟨bu,wd,B,ms,D++[due k 0]⟩ ⟨bu,wd,(r.sem k B).2,ms++(r.sem k B).1,D⟩)/\BK nm (r.sem k B).2/\(r.sem k B).1.length<=2*r.row.cnt
 | .set x e,k,ab,bl,B,ms,D,ok,S,hB,hm,hD=>by have hc:(Tr.set x e).row.cnt=1:=rfl;exact⟨⟨1,Nat.le_of_eq hc.symm,XQ hB.bg (hB.nm x ok.1) (ok.2.2 B hB.nm) ok.2.1 S.row (by omega)⟩,hB.set ok.1 ok.2,Nat.le_of_eq rfl⟩
 | .iff e b c,k,ab,bl,B,ms,D,ok,S,hB,hm,hD=>by
  have hc:(Tr.iff e b c).row.cnt=b.rows.cnt+c.rows.cnt+1:=rfl;have q1:=Y5 (I:=I) (bu:=bu) (wd:=wd) (ms:=ms) (D:=D) hB.bg (ok.1.2 B hB.nm) ok.1.1 (show vX (PQ es N hd) k (.tup [.str "if",e.pv,.lst b.rows.pvs,.lst c.rows.pvs]) from S.row) (lU.blkI S (ev B e)) (by omega) (by
   rw[aag];split
   . have:=Rows.nums_len c.rows (k+1+b.rows.cnt); omega
   . have:=Rows.nums_len b.rows (k+1); omega)
  obtain⟨S1,S2⟩:=lU.iff S;have ml:(ms++[((k:Int),(0:Int),([]:List oF))]).length=ms.length+1:=by simp
  unfold Tr.sem;by_cases h:ev B e=0
  . rw[aca h]at q1 ⊢;obtain⟨⟨m,m1,q2⟩,k2,l2⟩:=jU.sim c (k+1+b.rows.cnt) _ _ B (ms++[((k:Int),0,[])]) D ok.2.2 S2 hB (by omega) (by omega);refine⟨⟨1+m,by omega,?_⟩,k2,by show _+1<=_; omega⟩;have q:=q1.trans q2;rw[aai]at q;exact q
  . rw[acb h]at q1 ⊢;obtain⟨⟨m,m1,q2⟩,k2,l2⟩:=jU.sim b (k+1) _ _ B (ms++[((k:Int),0,[])]) D ok.2.1 S1 hB (by omega) (by omega);refine⟨⟨1+m,by omega,?_⟩,k2,by show _+1<=_; omega⟩;have q:=q1.trans q2;rw[aai]at q;exact q
theorem jU.sim:∀(rs:jU) (k:Nat) (ab:PV) (bl:Int) (B:Bs) (ms:List cB) (D:List PV),rs.ok nm->tM es w ab bl k rs.rows->BK nm B->ms.length+2*rs.rows.cnt<90000->D.length+rs.rows.cnt<=80000->
 (∃m:Nat,m<=rs.rows.cnt/\Rn I (PQ es N hd) m ⟨bu,wd,B,ms,D++(bW (rs.rows.nums k)).reverse.map qm⟩ ⟨bu,wd,(rs.sem k B).2,ms++(rs.sem k B).1,D⟩)/\BK nm (rs.sem k B).2/\(rs.sem k B).1.length<=2*rs.rows.cnt
 | .nil,k,ab,bl,B,ms,D,ok,S,hB,hm,hD=>by refine⟨⟨0,aaf _,?_⟩,hB,aa2 _⟩;show Rn I (PQ es N hd) 0 ⟨bu,wd,B,ms,D++[]⟩ ⟨bu,wd,B,ms++[],D⟩;rw[aau,aau];exact Rn.refl
 | .cons r rs,k,ab,bl,B,ms,D,ok,S,hB,hm,hD=>by
  have hc:(jU.cons r rs).rows.cnt=r.row.cnt+rs.rows.cnt:=rfl;obtain⟨S1,S2⟩:=tM.cons S;have rc:=r.row.cnt_pos;have nl:=Rows.nums_len rs.rows (k+r.row.cnt);have eD:D++(bW ((jU.cons r rs).rows.nums k)).reverse.map qm=(D++(bW (rs.rows.nums (k+r.row.cnt))).reverse.map qm)++[due k 0]:=by show D++(bW (k::rs.rows.nums (k+r.row.cnt))).reverse.map qm=_;rw[bW,aax,List.reverse_cons,aaG,<-aai];rfl
  obtain⟨⟨m,m1,q1⟩,k1,l1⟩:=Tr.sim r k _ _ B ms (D++(bW (rs.rows.nums (k+r.row.cnt))).reverse.map qm) ok.1 S1 hB (by omega) (by rw[aah,aag,abD,aag]; omega);obtain⟨⟨m',m2,q2⟩,k2,l2⟩:=jU.sim rs (k+r.row.cnt) _ _ (r.sem k B).2 (ms++(r.sem k B).1) D ok.2 S2 k1 (by rw[aah]; omega) (by omega);rw[eD];refine⟨⟨m+m',by omega,?_⟩,k2,by show ((r.sem k B).1++(rs.sem (k+r.row.cnt) (r.sem k B).2).1).length<=_; rw[aah]; omega⟩;have q:=q1.trans q2;rw[aai ms]at q;exact q
end
end
structure LS where
 bu:Int
 wd:Str
 B:Bs
 ms:List cB
abbrev LS.as (L:LS) (D:List PV):AS:=⟨L.bu,L.wd,L.B,L.ms,D⟩
def Th (s:Int):BV->Prop
 | .n i=>s=0/\In i
 | .l is=>s=is.length/\s≠0/\is.length<=8/\∀i∈is,In i
def vZ:List (Str×Int)->Bs->Prop
 | [],[]=>True
 | (x,s)::D,(y,v)::B=>x=y/\Th s v/\vZ D B
 | _,_=>False
theorem vZ.names:∀{D:List (Str×Int)} {B:Bs},vZ D B->D.map (·.1)=B.map (·.1)
 | [],[],_=>rfl
 | (x,s)::D,(y,v)::B,h=>by rw[aax,aax,vZ.names h.2.2,show (x,s).1=(y,v).1 from h.1]
 | [],_::_,h=>h.elim
 | _::_,[],h=>h.elim
theorem J3 {i:Int} {mu:Mu} (h:In i):gK [.int i] mu=some (.sh (.bl true),mu):=by
 let E:Ev:=⟨[zI i],mu⟩;have h1:jx "int" (aa 0) E=some (.sh (.bl true),E):=sX (p:=.int i) rfl rfl rfl;have h2:tU (jx "bool" (aa 0)) E=some (.sh (.bl true),E):=by unfold tU;rw[show jx "bool" (aa 0) E=some (.sh (.bl false),E) from sX (p:=.int i) rfl rfl rfl,aab];rfl
 have h3:nD Bd oA (eC (.int 0)) (aa 0) (eC qN) E=some (.sh (.bl true),E):=by unfold nD;rw[show eC (.int 0) E=some (.sh (.int 0),E) from rfl,aab,show aa 0 E=some (.sh (.int i),E) from rfl,aab];dsimp only;rw[show Bd (Lc.sh (PV.int 0)).pv (Lc.sh (PV.int i)).pv=zS (.bl (decide ((0:Int)<=i))) from rfl,acf h.1];show some (Lc.sh (.bl (decide (i<1000000000000))),E)=_;rw[acf h.2]
 have an:∀(f g:EF),f E=some (.sh (.bl true),E)->g E=some (.sh (.bl true),E)->gB f g E=some (.sh (.bl true),E):=λf g hf hg=>by unfold gB;rw[hf,aab];exact hg
 exact aW (ρ:=E) (bL (an _ _ h1 (an _ _ h2 h3)))
theorem RD {s:Int} {v:BV} {mu:Mu} (h:Th s v):uN [.int s,v.pv] mu=some (.sh (.bl true),mu):=by
 let E:Ev:=⟨[zI s,zS v.pv],mu⟩;cases v with
 | n i=>
  obtain⟨rfl,hi⟩:=h;exact aW (ρ:=E) (gk ((d9 (tK (a:=0) (ρ1:=E) rfl (by decide))).trans (bL (aU (ls:=[.sh (.int i)]) (ρ1:=E) rfl rfl rfl rfl (J3 hi)))))
 | l is=>
  obtain⟨hs,h0,h8,hi⟩:=h;have ec:=pD (b:=aG 0) (te:=aJ gK (aj (aa 0) ao)) (mu:=mu) (λρ=>∃o,ρ=⟨[o],mu⟩) (λρ ⟨o,e⟩=>by rw[e]) (λ_=>.bl true) (xs:=is.map .int) (ρ:=⟨[none],mu⟩) ⟨none,rfl⟩ (by simp; omega) (by
   rintro p hp ρ ⟨o,rfl⟩;obtain⟨i,hi',rfl⟩:=aaH.mp hp;exact⟨⟨[zI i],mu⟩,rfl,.sh (.bl true),⟨[zI i],mu⟩,aU (ls:=[.sh (.int i)]) (ρ1:=⟨[zI i],mu⟩) rfl rfl rfl rfl (J3 (hi i hi')),rfl,_,rfl⟩) (by
   rintro p hp ρ ρ1 ⟨o,rfl⟩ e;cases e;exact⟨_,rfl⟩)
  have e2:dD (gH (aa 1) dj) 1 [] (aG 0) dh (aJ gK (aj (aa 0) ao)) E=some (.own (.lst ((is.map PV.int).map λ_=>.bl true)),E):=iD (f:=gH (aa 1) dj) (m:=1) (ixs:=[]) (ρ:=E) (ρ1:=E) (xs:=is.map .int) rfl ec;have bo:∀ws:List PV,boolsOf (ws.map λ_=>PV.bl true)=some (ws.map λ_=>true):=λws=>by
   induction ws with
   | nil=>rfl
   | cons w ws ih=>
    show (boolsOf (ws.map λ_=>PV.bl true)).map _=_;rw[ih];rfl
  have ba:∀ws:List PV,(ws.map λ_=>true).all id=true:=λws=>by
   induction ws with
   | nil=>rfl
   | cons w ws ih=>exact ih
  have h3:eB all1 (aj (dD (gH (aa 1) dj) 1 [] (aG 0) dh (aJ gK (aj (aa 0) ao))) ao) E=some (.sh (.bl true),E):=rB (ls:=[.own (.lst ((is.map PV.int).map λ_=>.bl true))]) (aA e2 rfl) rfl (by show (boolsOf ((is.map PV.int).map λ_=>PV.bl true)).map _=_; rw[bo,abj,ba]);have h2:aB eqP (eB gZ (aj (aa 1) ao)) (aa 0) E=some (.sh (.bl true),E):=by refine cW (rB (ls:=[.sh (.lst (is.map .int))]) rfl rfl rfl) rfl rfl rfl ?_;show some (Lc.sh (.bl ((((is.map PV.int).length:Nat):Int)==s)))=_;rw[aag,<-hs,ach]
  have an:∀(f g:EF),f E=some (.sh (.bl true),E)->g E=some (.sh (.bl true),E)->gB f g E=some (.sh (.bl true),E):=λf g hf hg=>by unfold gB;rw[hf,aab];exact hg
  exact aW (ρ:=E) (aD (ρ':=E) ((cL (tK (a:=s) (ρ1:=E) rfl (acg.mpr h0))).trans rfl) (bL (an _ _ (sX (p:=.lst (is.map .int)) rfl rfl rfl) (an _ _ h2 h3))))
theorem yV {P V:PV} {mu:Mu}:∀(B:Bs) (D:List (Str×Int)) (l2 l3 l4:Option Lc),vZ D B->∃p2 p3 p4,gY (fD 2 (aQ (aG 2) (aQ (aG 3) fC))) (aK (aV 4 (aY (aa 2) (eC (.int 0)))) (cO (qu (tT (aJ uN (aj (aY (aa 2) (eC (.int 1))) (aj (aa 3) ao))) gW)) vD cV)) (nF (dcl D) (bf B)) (FE P V l2 l3 l4 mu)=some (.nx (FE P V p2 p3 p4 mu))
 | [],[],l2,l3,l4,_=>⟨l2,l3,l4,rfl⟩
 | (y,v)::B,(x,s)::D,l2,l3,l4,h=>by let a:Option Lc:=zS (.tup [.str x,.int s,.non]);let b:Option Lc:=zS v.pv;obtain⟨p2,p3,p4,e⟩:=yV (P:=P) (V:=V) (mu:=mu) B D a b (zT x) h.2.2;have t:qu (tT (aJ uN (aj (aY (aa 2) (eC (.int 1))) (aj (aa 3) ao))) gW) (FE P V a b (zT x) mu)=some (false,FE P V a b (zT x) mu):=Ha (b:=true) (di (aU (ls:=[.sh (.int s),.sh v.pv]) (ρ1:=FE P V a b (zT x) mu) rfl rfl rfl rfl (RD h.2.1)) rfl rfl);exact⟨p2,p3,p4,iI (ρ1:=FE P V a b l4 mu) (ρ2:=FE P V a b (zT x) mu) rfl (aD (ρ':=FE P V a b (zT x) mu) rfl ((cL t).trans rfl)) e⟩
 | [],_::_,_,_,_,h=>h.elim
 | _::_,[],_,_,_,h=>h.elim
theorem vZ.len:∀{D:List (Str×Int)} {B:Bs},vZ D B->D.length=B.length:=λh=>by
 have:=congrArg List.length h.names
 rwa [aag,aag]at this
theorem refuse_eq {gr R3 R4:PV} {D:List (Str×Int)} {B:Bs} {mu:Mu} (h:vZ D B):lK [.tup [.lst (dcl D),gr,R3,R4],.lst (bf B)] mu=some (.sh .non,mu):=by
 let P:PV:=.tup [.lst (dcl D),gr,R3,R4];let E:Ev:=FE P (.lst (bf B)) none none none mu;obtain⟨p2,p3,p4,e⟩:=yV (P:=P) (V:=.lst (bf B)) (mu:=mu) B D none none none h;have t1:qu (tT (jx "list" (aa 1)) gW) E=some (false,E):=Ha (b:=true) (di (sX (p:=.lst (bf B)) rfl rfl rfl) rfl rfl);have t2:tT (aB wX (eB gZ (aj (aa 1) ao)) (eB gZ (aj (aY (aa 0) (eC (.int 0))) ao))) bA E=some (false,E):=by refine di (l:=.sh (.bl false)) (cW (rB (ls:=[.sh (.lst (bf B))]) rfl rfl rfl) rfl (rB (ls:=[.sh (.lst (dcl D))]) rfl rfl rfl) rfl ?_) rfl rfl;show some (Lc.sh (.bl (!((((bf B).length:Nat):Int)==(((dcl D).length:Nat):Int)))))=_;rw[aag,aag,h.len,ach];rfl
 refine eG (ρ:=FE P (.lst (bf B)) p2 p3 p4 mu) (aD (ρ':=E) ((cL (Le t1 t2)).trans rfl) (mq (xs:=nF (dcl D) (bf B)) (ρ1:=E) rfl e))
theorem Pk {mu:Mu} {v:BV}:∀k,aN mu k v.pv=v.pv:=λk=>by
 cases v with
 | n i=>exact yx k
 | l is=>exact HN k
theorem Vl {mu:Mu} {B:Bs} {k:Nat}:aN mu (k+1) (.lst (bf B))=.lst (bf B):=by show PV.lst ((bf B).map (aN mu k))=_;rw[aaX];exact congrArg PV.lst (aaU λq _=>Pk k)
theorem Vm {mu:Mu} {D:List (Str×Int)} {k:Nat}:aN mu (k+3) (.lst (dcl D))=.lst (dcl D):=by show PV.lst ((dcl D).map (aN mu (k+2)))=_;rw[aaX];exact congrArg PV.lst (aaU λq _=>rfl)
theorem j5 {mu:Mu} {n k:Nat} {p:PV} (h:mu[n]?=some (some p)):aN mu (k+1) (.ptr n)=aN mu k p:=by show (match mu[n]? with | some (some p)=>aN mu k p | _=>.ptr n)=_;rw[h]
structure Pr (D:List (Str×Int)) (B:Bs) (rs:Rows) (bu:Int) (F:LS):Prop where
 su:vZ D B
 g:BG B
 ok:(jT D rs).ok
 go:∀(I:Ix) (N:Nat) (hd:PV),∃m:Nat,Rn I (PQ ((jT D rs).es) N hd) m ⟨bu, "done",B,[],J2 rs⟩ (F.as [])/\m<900
 fn:F.B.map (·.1)=B.map (·.1)
 fg:BG F.B
 fl:F.ms.length<=80000
 fe:∀m∈F.ms,m.2.2.length<=1
 fi:∀q∈F.B,∃i,q.2=.n i
section
variable {gr:PV} {rs:Rows} {B:Bs} {D:List (Str×Int)} {bu:Int} {mu:Mu} {F:LS}
theorem J4 (H:Pr D B rs bu F):∃mu' I N hd,jB [(jT D rs).pv,.lst (bf B),.int bu] mu=some (.sh (.ptr I.r),mu')/\Gd mu' I F.bu F.wd (PQ ((jT D rs).es) N hd) F.B F.ms []/\I.r=mu.length/\∀c,c<mu.length->mu'[c]?=mu[c]?:=by
 let P:PV:=(jT D rs).pv;let V:PV:=.lst (bf B);let E0:Ev:=⟨[zS P,zS V,zI bu,none],mu⟩;have s1:dC (rC (aJ lK (aj (aa 0) (aj (aa 1) ao)))) E0=some (.nx E0):=by refine fQ (l:=.sh .non) (Hf (ρ1:=E0.peekD) (aU (ls:=[.sh (aN mu 40 P),.sh (aN mu 40 V)]) (ps:=[.tup [.lst (dcl D),aN mu 39 (.lst []),aN mu 39 (.lst []),aN mu 39 (.lst rs.pvs)],.lst (bf B)]) (ρ1:=E0.peekD) (aA rfl (aA rfl rfl)) ?_ rfl rfl (refuse_eq H.su)) rfl);show [PV.tup [aN mu 39 (.lst (dcl D)),aN mu 39 (.lst []),aN mu 39 (.lst []),aN mu 39 (.lst rs.pvs)],aN mu 40 (.lst (bf B))]=_;rw[Vm,Vl]
 obtain⟨mu1,I,N,hd,ei,hI,S,hlen,fr⟩:=Vk (rs:=rs) (bu:=bu) (mu:=mu) H.su.names H.g.nd H.g.l8 H.ok;have s2:aV 3 (sZ "Running" eN (aj (aa 0) (aj (aa 1) (aj (aa 2) ao)))) E0=some (.nx (GE P V (.int bu) I mu1)):=by
  have mk:=JK (C := "Running") (g:=eN) (a:=aj (aa 0) (aj (aa 1) (aj (aa 2) ao))) (ρ:=E0) (ρ1:=E0) (ls:=[.sh P,.sh V,.sh (.int bu)]) (mu2:=mu1) rfl rfl ei;refine cA mk ?_ ?_
  . exact rfl
  . rw[<-hI];rfl
 obtain⟨m,R,hm⟩:=H.go I N hd;obtain⟨mu',ew,g,f⟩:=R P V (.int bu) mu1 ⟨[],S,rfl⟩;obtain⟨M2,S2,Mo2⟩:=Gd.ex g;have ew:lZ 1000 stC Td (GE P V (.int bu) I mu1)=some (.nx (GE P V (.int bu) I mu')):=by rw[show 1000=((999-m)+1)+m from by omega,ew];exact JP (Te S2)
 refine⟨mu',I,N,hd,aW (ρ:=⟨[zS P,zS V,zI bu,none],mu'⟩) (aD s1 (aD s2 (aD ew rfl))),g,hI,λc hc=>?_⟩;rw[f.2 c (.inl (by omega)) (by rw[hlen]; have:=S.l1; have:=S.l2; have:=S.l3; have:=S.l4; have:=S.l5; have:=S.l6; omega),fr c hc]
def qd (k:Int) (e:oF):PV:=.tup [.int k,.str e.1,.int e.2.1,.int e.2.2]
def km:List cB->List PV
 | []=>[]
 | m::ms=>m.2.2.map (qd m.1)++km ms
def xZ:List cB->Nat
 | []=>0
 | m::ms=>m.2.2.length+xZ ms
theorem Ii:∀{ms:List cB},(km ms).length=xZ ms
 | []=>rfl
 | m::ms=>by show (m.2.2.map (qd m.1)++km ms).length=m.2.2.length+xZ ms;rw[aah,aag,Ii]
def rcF (k:Int):PV->PV
 | .tup [a,b,c]=>.tup [.int k,a,b,c]
 | p=>p
abbrev wk (l0 l1 l2 l3 l4:Option Lc) (mu:Mu):Ev:=⟨[l0,l1,l2,l3,l4],mu⟩
theorem J5 {k:Int} {es:List oF} {mu:Mu} {o:List (Option Lc)} (hl:es.length<=90000):jm (fD 3 (aQ (aG 0) (aQ (aG 1) (aQ (aG 2) fC)))) dh (bG (aj (aa 3) (aj (aa 0) (aj (aa 1) (aj (aa 2) ao))))) (es.map oF.pv) ⟨[none,none,none,zI k],mu⟩ []=some (es.map (qd k),mu):=by
 have ec:=pD (b:=fD 3 (aQ (aG 0) (aQ (aG 1) (aQ (aG 2) fC)))) (te:=bG (aj (aa 3) (aj (aa 0) (aj (aa 1) (aj (aa 2) ao))))) (mu:=mu) (λρ=>∃a b c,ρ=⟨[a,b,c,zI k],mu⟩) (λρ ⟨a,b,c,e⟩=>by rw[e]) (rcF k) (xs:=es.map oF.pv) (ρ:=⟨[none,none,none,zI k],mu⟩) ⟨_,_,_,rfl⟩ (by rw[aag]; omega) (by
  rintro p hp ρ ⟨a,b,c,rfl⟩;obtain⟨e,_,rfl⟩:=aaH.mp hp;exact⟨⟨[zT e.1,zI e.2.1,zI e.2.2,zI k],mu⟩,rfl,.sh (qd k e),⟨[zT e.1,zI e.2.1,zI e.2.2,zI k],mu⟩,rfl,rfl,_,_,_,rfl⟩) (by
  rintro p hp ρ ρ1 ⟨a,b,c,rfl⟩ e;obtain⟨q,_,rfl⟩:=aaH.mp hp;cases e;exact⟨_,_,_,rfl⟩)
 rw[ec,aaX];rfl
theorem J6 {l0:Option Lc}:∀(ms:List cB) (M:List PV) (lo:Nat) (mu:Mu) (ws:List PV) (l2 l3 l4:Option Lc),MO mu lo M ms->ws.length+xZ ms<=90000->∃mu' p2 p3 p4,gY (fD 3 (aQ (aG 2) (aQ (aG 3) (aQ (aG 4) fC))))
 (nC 1 (dD (gH (nJ (aa 4)) dj) 3 [2] (fD 3 (aQ (aG 0) (aQ (aG 1) (aQ (aG 2) fC)))) dh (bG (aj (aa 3) (aj (aa 0) (aj (aa 1) (aj (aa 2) ao))))))) M (wk l0 (zO ws) l2 l3 l4 mu)=some (.nx (wk l0 (zO (ws++km ms)) p2 p3 p4 mu'))/\mu'.length=mu.length/\∀c,c<=lo->mu'[c]?=mu[c]?
 | [],M,lo,mu,ws,l2,l3,l4,h,_=>by have h:M=[]:=h;subst h;exact⟨mu,l2,l3,l4,by rw[show km []=[] from rfl,aau]; rfl,rfl,λ_ _=>rfl⟩
 | m::ms,M,lo,mu,ws,l2,l3,l4,⟨c,rest,e,h1,h2,h⟩,hl=>by
  subst e;have hl':ws.length+(m.2.2.length+xZ ms)<=90000:=hl;let K:Option Lc:=zI m.1;let T:Option Lc:=zI m.2.1;let C:Option Lc:=zS (.ptr c);let W:Option Lc:=zO ws;have h':MO (mu.set c none) c rest ms:=h.frame λd q _=>aaw (by omega);obtain⟨mu',p2,p3,p4,el,ln,fr⟩:=J6 (l0:=l0) ms rest c (mu.set c none) (ws++m.2.2.map (qd m.1)) K T C h' (by rw[aah,aag]; omega);have em:gH (nJ (aa 4)) dj (wk l0 W K T C mu)=some (m.2.2.map oF.pv,wk l0 W K T C (mu.set c none)):=jP (HR (ρ1:=wk l0 W K T C mu) (x:=.sh (.ptr c)) rfl rfl h2) rfl;have ec:=iD (f:=gH (nJ (aa 4)) dj) (m:=3) (ixs:=[2]) em (J5 (k:=m.1) (es:=m.2.2) (mu:=mu.set c none) (o:=[]) (by omega));refine⟨mu',p2,p3,p4,iI (ρ1:=wk l0 W K T C mu) (ρ2:=wk l0 (zO (ws++m.2.2.map (qd m.1))) K T C (mu.set c none)) rfl (xn (ws0:=ws) (ws:=ws) (ps:=m.2.2.map (qd m.1)) rfl ec rfl rfl (by rw[aag]; omega) rfl) ?_,by rw[ln,aaK],λd hd=>?_⟩
  . rw[show km (m::ms)=m.2.2.map (qd m.1)++km ms from rfl,<-aai];exact el
  . rw[fr d (by omega),aaw (by omega)]
theorem Pn {M:List PV} {ms:List cB} {m lo:Nat} (hm:mu[m]?=some (some (.lst M))) (hlo:m<=lo) (h:MO mu lo M ms) (hl:xZ ms<=90000):∃mu',ph [.ptr m] mu=some (.own (.lst (km ms)),mu')/\mu'.length=mu.length/\∀c,c<=lo->c≠m->mu'[c]?=mu[c]?:=by have h':MO (mu.set m none) lo M ms:=h.frame λd q _=>aaw (by omega);obtain⟨mu',p2,p3,p4,el,ln,fr⟩:=J6 (l0:=zS (.ptr m)) ms M lo (mu.set m none) [] none none none h' (by simpa using hl);have em:gH (nJ (aa 0)) dj (wk (zS (.ptr m)) (zO []) none none none mu)=some (M,wk (zS (.ptr m)) (zO []) none none none (mu.set m none)):=jP (HR (ρ1:=wk (zS (.ptr m)) (zO []) none none none mu) (x:=.sh (.ptr m)) rfl rfl hm) rfl;exact⟨mu',aW (ρ:=wk (zS (.ptr m)) none p2 p3 p4 mu') (aD (ρ':=wk (zS (.ptr m)) (zO []) none none none mu) rfl (aD (mq em el) rfl)),by rw[ln,aaK],λc hc hn=>by rw[fr c hc,aaw (Ne.symm hn)]⟩
theorem J7:∀{B:Bs} {ps:List PV},(B.map (·.1)).Nodup->ps.length=B.length->(B.map λq=>(bI ((bh B).zip ps) (.inr q.1)).getD .non)=ps
 | [],[],_,_=>rfl
 | [],_::_,_,h=>by simp at h
 | _::_,[],_,h=>by simp at h
 | (y,v)::B,p::ps,nd,h=>by
  obtain⟨hy,nd'⟩:=aaP.mp nd;have ev:∀x,bI ((bh ((y,v)::B)).zip (p::ps)) (.inr x)=if (Sum.inr y:Key)=.inr x then some p else bI ((bh B).zip ps) (.inr x):=λx=>rfl
  show (bI ((bh ((y,v)::B)).zip (p::ps)) (.inr y)).getD .non::(B.map λq=>(bI ((bh ((y,v)::B)).zip (p::ps)) (.inr q.1)).getD .non)=_;rw[ev,aca rfl];refine c2 rfl (Eq.trans (aaU λq hq=>?_) (J7 nd' (by simpa using h)));rw[ev,acb λe=>hy (by rw[show y=q.1 from Sum.inr.inj e]; exact aaH.mpr ⟨q,hq,rfl⟩)]
theorem LQ {R3 R4:PV} {C:Bs} {ps:List PV} {b:Nat} (hD:D.map (·.1)=C.map (·.1)) (nd:(C.map (·.1)).Nodup) (h1:C.length<=100) (hb:mu[b]?=some (some (.dk (bh C) ps))) (hl:ps.length=C.length):tG [.tup [.lst (dcl D),gr,R3,R4],.ptr b] mu=some (.own (.lst ps),mu):=by
 let P:PV:=.tup [.lst (dcl D),gr,R3,R4];let E:Ev:=⟨[zS P,zS (.ptr b)],mu⟩;let f:PV->PV:=λp=>match p with
  | .tup (.str x::_)=>(bI ((bh C).zip ps) (.inr x)).getD .non
  | _=>.non
 have hin:∀x∈D.map (·.1),∃p,bI ((bh C).zip ps) (.inr x)=some p:=λx hx=>by
  rw[hD]at hx;cases h:bI ((bh C).zip ps) (.inr x) with
  | some p=>exact⟨p,rfl⟩
  | none=>
   exfalso;have key:∀(ks:List Key) (qs:List PV),qs.length=ks.length->(.inr x:Key)∈ks->bI (ks.zip qs) (.inr x)≠none:=λks=>by
    induction ks with
    | nil=>intro qs _ h; cases h
    | cons k ks ih=>
     intro qs hq hk;cases qs with
     | nil=>simp at hq
     | cons q qs=>
      show (if k=.inr x then some q else bI (ks.zip qs) (.inr x))≠none;split
      . exact λe=>by cases e
      . rename_i hne;rcases aaj.mp hk with e | e
        . exact absurd e.symm hne
        . exact ih qs (by simpa using hq) e
   obtain⟨q,hq,e⟩:=aaH.mp hx;exact key _ _ (by rw[aag]; exact hl) (aaH.mpr ⟨q,hq,by rw[<-e]⟩) h
 have ec:=pD (b:=fD 3 (aQ (aG 0) (aQ (aG 1) (aQ (aG 2) fC)))) (te:=aM (aa 3) (aa 0)) (mu:=mu) (λρ=>∃a b' c,ρ=⟨[a,b',c,zS (.ptr b)],mu⟩) (λρ ⟨a,b',c,e⟩=>by rw[e]) f (xs:=dcl D) (ρ:=⟨[none,none,none,zS (.ptr b)],mu⟩) ⟨_,_,_,rfl⟩ (by rw[aag,<-aag (f:=(·.1)),hD,aag]; omega) (by
  rintro p hp ρ ⟨a,b',c,rfl⟩;obtain⟨q,hq,rfl⟩:=aaH.mp hp;obtain⟨w,hw⟩:=hin q.1 (aaH.mpr ⟨q,hq,rfl⟩);refine⟨⟨[zT q.1,zI q.2,some (.sh .non),zS (.ptr b)],mu⟩,rfl,.sh w,⟨[zT q.1,zI q.2,some (.sh .non),zS (.ptr b)],mu⟩,BP (x:=.sh (.ptr b)) (y:=.sh (.str q.1)) (k:=.inr q.1) rfl rfl rfl rfl hb hw,?_,_,_,_,rfl⟩;show w=(bI ((bh C).zip ps) (.inr q.1)).getD .non;rw[hw];rfl) (by
  rintro p hp ρ ρ1 ⟨a,b',c,rfl⟩ e;obtain⟨q,_,rfl⟩:=aaH.mp hp;cases e;exact⟨_,_,_,rfl⟩)
 have ef:(dcl D).map f=ps:=by
  rw[aaX];have e1:D.map (f ∘ λq=>PV.tup [.str q.1,.int q.2,.non])=(D.map (·.1)).map λx=>(bI ((bh C).zip ps) (.inr x)).getD .non:=by rw[aaX]; rfl
  rw[e1,hD,aaX];exact J7 nd hl
 rw[ef]at ec;have e2:=iD (f:=gH (aY (aa 0) (eC (.int 0))) dj) (m:=3) (ixs:=[1]) (ρ:=E) (ρ1:=E) (jP (l:=.sh (.lst (dcl D))) rfl rfl) ec;exact aW (ρ:=E) (bL e2)
end
theorem Pq:∀{ms:List cB},(∀m∈ms,m.2.2.length<=1)->xZ ms<=ms.length
 | [],_=>aaf _
 | m::ms,h=>by have h1:=h m aac;have h2:=Pq λx hx=>h x (aak m hx);show m.2.2.length+xZ ms<=ms.length+1;omega
section
variable {rs:Rows} {B:Bs} {D:List (Str×Int)} {bu:Int} {mu:Mu} {F:LS}
theorem Pr.nev (H:Pr D B rs bu F):xZ F.ms<=80000:=aaR (Pq H.fe) H.fl
abbrev ut (F:LS):PV:=.tup [.str F.wd,.lst (km F.ms),.lst (bf F.B)]
theorem CB.nums {mu:Mu} {hi:Nat}:∀{lo:Nat} {B:Bs} {ps:List PV},(∀q∈B,∃i,q.2=.n i)->CB mu hi lo B ps->ps=bf B
 | lo,[],ps,_,h=>h
 | lo,(_,.n i)::B,ps,hB,⟨r,e,h⟩=>by rw[e,h.nums λq hq=>hB q (aak _ hq)]; rfl
 | lo,(_,.l is)::B,ps,hB,_=>by obtain⟨i,h⟩:=hB _ aac; cases h
theorem Yd (H:Pr D B rs bu F):∃mu',FN [(jT D rs).pv,.lst (bf B),.int bu] mu=some (.sh (ut F),mu'):=by
 let P:PV:=(jT D rs).pv;let V:PV:=.lst (bf B);obtain⟨mu1,I,N,hd,eg,⟨M,S,Mo⟩,hI,fr⟩:=J4 (mu:=mu) H;have nm:=H.fn;have ln:F.B.length=B.length:=by have:=congrArg List.length nm; rwa [aag,aag]at this
 have ne:=H.nev;obtain⟨ps,hb,hc⟩:=S.hb;obtain⟨mu2,er,RM,fr2⟩:=Pn S.hm (abF S.l6) Mo (by omega);have ⟨l1,l2,l3,l4,l5,l6⟩:=S.ls;let E:=λmu=>(⟨[zS P,zS V,zI bu,zS (.ptr I.r)],mu⟩:Ev);have s1:aV 3 (aJ jB (aj (aa 0) (aj (aa 1) (aj (aa 2) ao)))) ⟨[zS P,zS V,zI bu,none],mu⟩=some (.nx (E mu1)):=cA (aU (ls:=[.sh P,.sh V,.sh (.int bu)]) (ρ1:=⟨[zS P,zS V,zI bu,none],mu⟩) rfl rfl rfl rfl eg) rfl rfl;have c2':aJ ph (aj (cj "Running" "moments" (aa 3)) ao) (E mu1)=some (.own (.lst (km F.ms)),E mu2):=aU (ls:=[.sh (.ptr I.m)]) (ρ1:=E mu1) (aA (dz rfl rfl S.hr rfl) rfl) rfl rfl rfl er;have hr3:mu2[I.r]?=some (some (bC "Running" (rF I F.bu F.wd))):=(fr2 I.r (by omega) (by omega)).trans S.hr;have c3':aJ tG (aj (aa 0) (aj (cj "Running" "boxes" (aa 3)) ao)) (E mu2)=some (.own (.lst ps),E mu2):=aU (ls:=[.sh P,.sh (.ptr I.b)]) (ρ1:=E mu2) (aA rfl (aA (dz rfl rfl hr3 rfl) rfl)) rfl rfl rfl (LQ (by rw[H.su.names,nm]) (by rw[nm]; exact H.g.nd) (by rw[ln]; exact H.g.l8) ((fr2 I.b (by omega) (by omega)).trans hb) hc.len);rw[hc.nums H.fi]at c3';exact⟨mu2,aW (ρ:=E mu2) (aD s1 (bL (gb (ls:=[.sh (.str F.wd),.own (.lst (km F.ms)),.own (.lst (bf F.B))]) (aA (dz rfl rfl S.hr rfl) (aA c2' (aA c3' rfl))) rfl rfl)))⟩
theorem J8 {es:List oF} {k:Nat}:aN mu (k+3) (evs es)=evs es:=by show PV.lst ((es.map oF.pv).map (aN mu (k+2)))=_;rw[aaX];exact congrArg PV.lst (aaU λe _=>rfl)
theorem MO.res {k:Nat}:∀{lo:Nat} {M:List PV} {ms:List cB},MO mu lo M ms->M.map (aN mu (k+5))=ms.map cB.pv
 | lo,M,[],h=>by have h:M=[]:=h; subst h; rfl
 | lo,M,m::ms,⟨c,rest,e,h1,h2,h⟩=>by subst e;refine c2 ?_ h.res;show PV.tup [.int m.1,.int m.2.1,aN mu (k+4) (.ptr c)]=_;rw[j5 h2,J8];rfl
theorem Pu (H:Pr D B rs bu F):∃mu' n M,rO [(jT D rs).pv,.lst (bf B),.int bu] mu=some (.sh (.ptr n),mu')/\mu'[n]?=some (some (.lst M))/\MO mu' n M F.ms/\mu.length<=n/\∀c,c<mu.length->mu'[c]?=mu[c]?:=by
 let P:PV:=(jT D rs).pv;obtain⟨mu1,I,N,hd,eg,⟨M,S,Mo⟩,hI,fr⟩:=J4 (mu:=mu) H;have l1:=S.l1;have l2:=S.l2;have l3:=S.l3;have l4:=S.l4;have l5:=S.l5;have l6:=S.l6;let E:=λmu=>(⟨[zS P,zL (bf B),zI bu],mu⟩:Ev);have lowMO:∀{lo lo':Nat} {M:List PV} {ms:List cB},lo'<=lo->MO mu1 lo M ms->MO mu1 lo' M ms:=λ{lo lo' M ms} h q=>by
  cases ms with
  | nil=>exact q
  | cons m ms=>
   obtain⟨c,rest,e,h1,h2,h3⟩:=q;exact⟨c,rest,e,by omega,h2,h3⟩
 exact⟨mu1,I.m,M,aW (ρ:=E mu1) (bL (dz (x:=.sh (.ptr I.r)) (aU (ls:=[.sh P,.sh (.lst (bf B)),.sh (.int bu)]) (ρ1:=E mu) rfl rfl rfl rfl eg) rfl S.hr rfl)),S.hm,lowMO (abF l6) Mo,by omega,fr⟩
end
mutual
def nice:PV->Bool
 | .int _=>true
 | .str _=>true
 | .tup ps=>LR ps
 | .lst ps=>LR ps
 | _=>false
def LR:List PV->Bool
 | []=>true
 | p::ps=>nice p&&LR ps
end
mutual
def dpN:PV->Nat
 | .tup ps=>RG ps+1
 | .lst ps=>RG ps+1
 | _=>1
def RG:List PV->Nat
 | []=>0
 | p::ps=>max (dpN p) (RG ps)
end
abbrev Et (n:Nat):List PV:=(List.range n).map λi=>.int (i:Nat)
def mX:Nat->PV->Prop
 | 0,_=>False
 | _+1,.int _=>True
 | _+1,.str _=>True
 | n+1,.tup ps=>ps.length<=90000/\∀p∈ps,mX n p
 | n+1,.lst ps=>ps.length<=90000/\∀p∈ps,mX n p
 | _+1,_=>False
theorem Cg:∀ws:List PV,boolsOf (ws.map λ_=>PV.bl true)=some (ws.map λ_=>true)
 | []=>rfl
 | w::ws=>by show (boolsOf (ws.map λ_=>PV.bl true)).map _=_;rw[Cg ws];rfl
theorem Ij:∀ws:List PV,(ws.map λ_=>true).all id=true
 | []=>rfl
 | w::ws=>Ij ws
theorem yD {f g:EF} {E:Ev} {b:Bool} (hf:f E=some (.sh (.bl true),E)) (hg:g E=some (.sh (.bl b),E)):gB f g E=some (.sh (.bl b),E):=by unfold gB;rw[hf,aab];exact hg
theorem Px {f:EF} {ρ ρ1:Ev} {n:Nat} (h:f ρ=some (.sh (.int (n:Nat)),ρ1)) (hn:n<=9000000):gJ (aj f ao) ρ=some (Et n,ρ1):=by unfold gJ;rw[aA (ls:=[]) h rfl,aab];show (if _ then _ else _)=_;rw[aca (by omega),show zm 0 ((n:Nat):Int).toNat=Et n from by unfold zm; rw[ab2]; exact aaU λi _=>by rw[Int.zero_add]]
theorem Eu {n:Nat} {X:PV} {ps:List PV} {mu:Mu} (k:Bool) (hX:X=v9 k ps) (hl:ps.length<=90000) (ih:∀p∈ps,∀mu:Mu,cF n [p,p] mu=some (.sh (.bl true),mu)):cF (n+1) [X,X] mu=some (.sh (.bl true),mu):=by
 let E:Ev:=⟨[zS X,zS X],mu⟩;have t1:tT (Rf ["list", "tuple"] (aa 1)) gW E=some (true,E):=by subst hX;cases k<;>exact di (l:=.sh (.bl true)) rfl rfl rfl
 have t2:wO (tT (aB wX (jx "list" (aa 0)) (jx "list" (aa 1))) bA) (tT (aB wX (jx "tuple" (aa 0)) (jx "tuple" (aa 1))) bA) E=some (false,E):=by subst hX;cases k<;>exact Le (b:=false) (b2:=false) (di (l:=.sh (.bl false)) rfl rfl rfl) (di (l:=.sh (.bl false)) rfl rfl rfl)
 have ln:∀i:Nat,i<2->eB gZ (aj (aa i) ao) E=some (.sh (.int (ps.length:Nat)),E):=λi hi=>by
  subst hX
  match i,hi with
  | 0,_=>cases k<;>rfl
  | 1,_=>cases k<;>rfl
 have e1:aB eqP (eB gZ (aj (aa 0) ao)) (eB gZ (aj (aa 1) ao)) E=some (.sh (.bl true),E):=cW (ln 0 (by decide)) rfl (ln 1 (by decide)) rfl (by show some (Lc.sh (.bl (((ps.length:Nat):Int)==((ps.length:Nat):Int))))=_; rw[ach]);have ix:∀(i:Nat) (p:PV),ps[i]?=some p->uF X (.int (i:Nat))=zS p:=λi p hp=>by
  subst hX;cases k
  . show (gw ps (i:Nat)).map _=_;rw[Dp hp];rfl
  . show (gw ps (i:Nat)).map _=_;rw[Dp hp];rfl
 have np:∀m,X≠.ptr m:=λm h=>by subst hX;cases k<;>cases h
 have ec:=pD (b:=aG 0) (te:=aJ (cF n) (aj (aY (aa 1) (aa 0)) (aj (aY (aa 2) (aa 0)) ao))) (mu:=mu) (λρ=>∃o,ρ=⟨[o,zS X,zS X],mu⟩) (λρ ⟨o,e⟩=>by rw[e]) (λ_=>.bl true) (xs:=Et ps.length) (ρ:=⟨[none,zS X,zS X],mu⟩) ⟨none,rfl⟩ (by rw[aag,List.length_range]; omega) (by
  rintro p hp ρ ⟨o,rfl⟩;obtain⟨i,hi,rfl⟩:=aaH.mp hp;have hi:=List.mem_range.mp hi;have hp:=aaB hi;refine⟨⟨[zI (i:Nat),zS X,zS X],mu⟩,rfl,.sh (.bl true),⟨[zI (i:Nat),zS X,zS X],mu⟩,aU (ls:=[.sh ps[i],.sh ps[i]]) (ρ1:=⟨[zI (i:Nat),zS X,zS X],mu⟩) (aA (mz (l:=.sh X) (m:=.sh (.int (i:Nat))) rfl rfl rfl rfl np (ix i _ hp)) (aA (mz (l:=.sh X) (m:=.sh (.int (i:Nat))) rfl rfl rfl rfl np (ix i _ hp)) rfl)) rfl rfl rfl (ih _ (List.getElem_mem hi) mu),rfl,_,rfl⟩) (by
  rintro p hp ρ ρ1 ⟨o,rfl⟩ e;cases e;exact⟨_,rfl⟩)
 have e2:dD (gJ (aj (eB gZ (aj (aa 1) ao)) ao)) 1 [0,1] (aG 0) dh (aJ (cF n) (aj (aY (aa 1) (aa 0)) (aj (aY (aa 2) (aa 0)) ao))) E=some (.own (.lst ((Et ps.length).map λ_=>.bl true)),E):=iD (f:=gJ (aj (eB gZ (aj (aa 1) ao)) ao)) (m:=1) (ixs:=[0,1]) (ρ:=E) (ρ1:=E) (xs:=Et ps.length) (Px (ln 1 (by decide)) (by omega)) ec;have e3:eB all1 (aj (dD (gJ (aj (eB gZ (aj (aa 1) ao)) ao)) 1 [0,1] (aG 0) dh (aJ (cF n) (aj (aY (aa 1) (aa 0)) (aj (aY (aa 2) (aa 0)) ao)))) ao) E=some (.sh (.bl true),E):=rB (ls:=[.own (.lst ((Et ps.length).map λ_=>.bl true))]) (aA e2 rfl) rfl (by show (boolsOf ((Et ps.length).map λ_=>PV.bl true)).map _=_; rw[Cg,abj,Ij]);exact aW (ρ:=E) (gk ((d9 t1).trans (aD (ρ':=E) ((cL t2).trans rfl) (bL (yD e1 e3)))))
theorem qG:∀{n:Nat} {X:PV},mX n X->∀mu:Mu,cF n [X,X] mu=some (.sh (.bl true),mu)
 | n+1,.int i,_,mu=>by
  let E:Ev:=⟨[zI i,zI i],mu⟩;have e:aB eqP (aa 0) (aa 1) E=some (.sh (.bl true),E):=cW rfl rfl rfl rfl (by show some (Lc.sh (.bl (i==i)))=_; rw[ach]);have nb:tU (jx "bool" (aa 0)) E=some (.sh (.bl true),E):=by unfold tU;rw[show jx "bool" (aa 0) E=some (.sh (.bl false),E) from sX (p:=.int i) rfl rfl rfl,aab];rfl
  exact aW (ρ:=E) (aD (ρ':=E) ((cL (di (l:=.sh (.bl false)) rfl rfl rfl)).trans rfl) (aD (ρ':=E) ((cL (di (l:=.sh (.bl false)) rfl rfl rfl)).trans rfl) (aD (ρ':=E) ((cL (di (l:=.sh (.bl false)) rfl rfl rfl)).trans rfl) (bL (yD (sX (p:=.int i) rfl rfl rfl) (yD nb e))))))
 | n+1,.str x,_,mu=>by let E:Ev:=⟨[zT x,zT x],mu⟩;have e:aB eqP (aa 0) (aa 1) E=some (.sh (.bl true),E):=cW rfl rfl rfl rfl (by show some (Lc.sh (.bl (x==x)))=_; rw[ach]);exact aW (ρ:=E) (aD (ρ':=E) ((cL (di (l:=.sh (.bl false)) rfl rfl rfl)).trans rfl) (gk ((d9 (di (l:=.sh (.bl true)) rfl rfl rfl)).trans (bL (yD (sX (p:=.str x) rfl rfl rfl) e)))))
 | n+1,.tup ps,h,mu=>Eu false rfl h.1 λp hp mu=>qG (h.2 p hp) mu
 | n+1,.lst ps,h,mu=>Eu true rfl h.1 λp hp mu=>qG (h.2 p hp) mu
theorem mX.up:∀{n m:Nat} {X:PV},n<=m->mX n X->mX m X
 | 0,_,_,_,h=>h.elim
 | n+1,m+1,.int _,_,_=>trivial
 | n+1,m+1,.str _,_,_=>trivial
 | n+1,m+1,.tup ps,hm,h=>⟨h.1,λp hp=>(h.2 p hp).up (by omega)⟩
 | n+1,m+1,.lst ps,hm,h=>⟨h.1,λp hp=>(h.2 p hp).up (by omega)⟩
 | n+1,0,_,hm,_=>by omega
theorem RJ {B:Bs} (hB:BG B):mX 3 (.lst (bf B)):=by
 have h8:=hB.l8;refine⟨by rw[aag]; omega,λp hp=>?_⟩;obtain⟨q,hq,rfl⟩:=aaH.mp hp;cases hv:q.2 with
 | n i=>exact trivial
 | l is=>
  have:=hB.ok.sm q hq is hv;refine⟨by rw[aag]; omega,λp hp=>?_⟩;obtain⟨i,_,rfl⟩:=aaH.mp hp;exact trivial
theorem Ew:∀{ms:List cB} {p:PV},p∈km ms->mX 2 p
 | m::ms,p,h=>by
  rcases aaC.mp (show p∈m.2.2.map (qd m.1)++km ms from h) with h | h
  . obtain⟨e,_,rfl⟩:=aaH.mp h;refine⟨by show (4:Nat)<=90000; decide,λp hp=>?_⟩;simp only[aaj,aa4,or_false]at hp;rcases hp with rfl | rfl | rfl | rfl<;>exact trivial
  . exact Ew h
theorem RK {m:cB} (h:m.2.2.length<=1):mX 4 m.pv:=by
 refine⟨by show (3:Nat)<=90000; decide,λp hp=>?_⟩;simp only[aaj,aa4,or_false]at hp;rcases hp with rfl | rfl | rfl
 . exact trivial
 . exact trivial
 . refine⟨by rw[aag]; omega,λp hp=>?_⟩;obtain⟨e,_,rfl⟩:=aaH.mp hp;refine⟨by show (3:Nat)<=90000; decide,λp hp=>?_⟩;simp only[aaj,aa4,or_false]at hp;rcases hp with rfl | rfl | rfl<;>exact trivial
section
variable {rs:Rows} {B:Bs} {D:List (Str×Int)} {bu:Int} {F:LS}
theorem RL (H:Pr D B rs bu F):mX 40 (ut F):=by
 have ne:=H.nev;refine⟨by show (3:Nat)<=90000; decide,λp hp=>?_⟩;simp only[aaj,aa4,or_false]at hp;rcases hp with rfl | rfl | rfl
 . exact trivial
 . exact⟨by rw[Ii]; omega,λp hp=>(Ew hp).up (by decide)⟩
 . exact(RJ H.fg).up (by decide)
theorem Py (H:Pr D B rs bu F):mX 40 (.lst (F.ms.map cB.pv)):=by have:=H.fl;refine⟨by rw[aag]; omega,λp hp=>?_⟩;obtain⟨m,hm,rfl⟩:=aaH.mp hp;exact(RK (H.fe m hm)).up (by decide)
end
theorem uU {d:DF} {ρ ρ1:Ev} {zs:List (Lc×Lc)} {l:PD} {p:PV} (h:d ρ=some (zs,ρ1)) (hk:keysOf zs=some l) (hl:l.length<=15) (e:bz (jd l [])=p):jH d ρ=some (.own p,ρ1):=by unfold jH;rw[h,aab,hk,aab,aca hl,e]
def Lf:Ex->Prop
 | .num _=>True
 | .box _=>True
 | _=>False
def E2:Ex->Prop
 | .op s a b=>Sg s/\Lf a/\Lf b
 | e=>Lf e
section
variable {B:Bs} {d:Nat} {mu:Mu}
theorem Ti {x:Str} (h:rZ B x):bI ((bh B).zip (bf B)) (.inr x)=some (.int (numAt B x)):=by obtain⟨i,h⟩:=h;rw[Dm (f:=BV.pv),Dn,h];unfold numAt;rw[h];rfl
theorem zU {e:Ex} (hd:mu[d]?=some (some (.dk (bh B) (bf B)))) (hl:Lf e) (he:e.ok B):dY [e.pv,.ptr d] mu=some (.sh (.int (ev B e)),mu):=by
 let E:Ev:=⟨[zS e.pv,zS (.ptr d)],mu⟩;cases e with
 | num i=>exact aW (ρ:=E) (gk ((d9 (xX (a := "num") rfl (by decide +kernel))).trans rfl))
 | box x=>exact aW (ρ:=E) (aD (ρ':=E) ((cL (pM (a := "box") rfl (by decide +kernel))).trans rfl) (bL (BP (x:=.sh (.ptr d)) (y:=.sh (.str x)) (k:=.inr x) rfl rfl rfl rfl hd (Ti he))))
 | at_ x e=>exact hl.elim
 | op s a b=>exact hl.elim
def Ci (a b:Int):PD:=[(.inr "+",.int (a+b)),(.inr "-",.int (a-b)),(.inr "*",.int (a*b)),(.inr "<",.int (if a<b then 1 else 0)),(.inr "=",.int (if a=b then 1 else 0))]
theorem rz {e:Ex} (hB:En B) (hd:mu[d]?=some (some (.dk (bh B) (bf B)))) (hl:E2 e) (he:e.ok B):iH [e.pv,.ptr d] mu=some (.sh (.int (ev B e)),mu):=by
 let E:=λl2 l3 l4=>(⟨[zS e.pv,zS (.ptr d),l2,l3,l4],mu⟩:Ev);have leaf:Lf e->∀s:Str,(bH (aa 0) (eC (.int 0)) (E none none none)=some (.sh (.str s),E none none none))->s = "num" \/ s = "box" -> iH [e.pv,.ptr d] mu=some (.sh (.int (ev B e)),mu):=λhl s h0 hs=>by
  have t:tT (aB Sw (bH (aa 0) (eC (.int 0))) (bG (aj (eC (.str "num")) (aj (eC (.str "box")) ao)))) bA (E none none none)=some (true,E none none none):=by
   rcases hs with rfl | rfl
   . exact di (l:=.sh (.bl true)) (cW h0 rfl rfl rfl rfl) rfl rfl
   . exact di (l:=.sh (.bl true)) (cW h0 rfl rfl rfl rfl) rfl rfl
  exact aW (ρ:=E none none none) (gk ((d9 t).trans (bL (aU (ls:=[.sh e.pv,.sh (.ptr d)]) (ρ1:=E none none none) rfl rfl rfl rfl (zU hd hl he)))))
 cases e with
 | num i=>exact leaf trivial "num" rfl (.inl rfl)
 | box x=>exact leaf trivial "box" rfl (.inr rfl)
 | at_ x e=>exact hl.elim
 | op s a b=>
  obtain⟨hs,la,lb⟩:=hl;obtain⟨_,ha,hb⟩:=he;have ia:=yw hB ha;have ib:=yw hB hb;have wa:=zU hd la ha;have wb:=zU hd lb hb;obtain⟨x,hx⟩:∃x,ev B a=x:=⟨_,rfl⟩;obtain⟨y,hy⟩:∃y,ev B b=y:=⟨_,rfl⟩;have er:ev B (.op s a b)=rk s x y:=by rw[<-hx,<-hy]; rfl
  rw[hx]at ia wa;rw[hy]at ib wb;rw[er];let X:Option Lc:=zI x;let Y:Option Lc:=zI y;have t0:tT (aB Sw (bH (aa 0) (eC (.int 0))) (bG (aj (eC (.str "num")) (aj (eC (.str "box")) ao)))) bA (E none none none)=some (false,E none none none):=by rcases hs with rfl | rfl | rfl | rfl | rfl<;>exact di (l:=.sh (.bl false)) (cW rfl rfl rfl rfl rfl) rfl rfl
  have s2:aV 2 (aJ dY (aj (bH (aa 0) (eC (.int 1))) (aj (aa 1) ao))) (E none none none)=some (.nx (E X none none)):=cA (aU (ls:=[.sh a.pv,.sh (.ptr d)]) (ρ1:=E none none none) rfl rfl rfl rfl wa) rfl rfl;have s3:aV 3 (aJ dY (aj (bH (aa 0) (eC (.int 2))) (aj (aa 1) ao))) (E X none none)=some (.nx (E X Y none)):=cA (aU (ls:=[.sh b.pv,.sh (.ptr d)]) (ρ1:=E X none none) rfl rfl rfl rfl wb) rfl rfl;have lt:eB CZ (aj (aB oA (aa 2) (aa 3)) ao) (E X Y none)=some (.sh (.int (if x<y then 1 else 0)),E X Y none):=rB (ls:=[.sh (.bl (decide (x<y)))]) (aA rfl rfl) rfl (by by_cases h:x<y<;>simp[h]<;>rfl);have eq:eB CZ (aj (aB kI (aa 2) (aa 3)) ao) (E X Y none)=some (.sh (.int (if x=y then 1 else 0)),E X Y none):=rB (ls:=[.sh (.bl (x==y))]) (aA rfl rfl) rfl (by
   show CZ [.bl (x==y)]=_;by_cases h:x=y
   . rw[aca h,beq_iff_eq.mpr h]; rfl
   . rw[acb h,acg.mpr h]; rfl)
  have dd:=dZ (f:=eC (.str "+")) (ρ:=E X Y none) rfl (show aB eX (aa 2) (aa 3) (E X Y none)=some (.sh (.int (x+y)),E X Y none) from rfl) (dZ (f:=eC (.str "-")) rfl (show aB w6 (aa 2) (aa 3) (E X Y none)=some (.sh (.int (x-y)),E X Y none) from rfl) (dZ (f:=eC (.str "*")) rfl (show aB jw (aa 2) (aa 3) (E X Y none)=some (.sh (.int (x*y)),E X Y none) from cW rfl rfl rfl rfl (Bf (by omega) (by omega))) (dZ (f:=eC (.str "<")) rfl lt (dZ (f:=eC (.str "=")) rfl eq (show j7 (E X Y none)=some ([],E X Y none) from rfl)))));have s4:=cA (i:=4) (uU (p:=bz (Ci x y)) dd rfl (show (5:Nat)<=15 from by decide) rfl) rfl (show (E X Y none).set 4 (some (.own (bz (Ci x y))))=E X Y (some (.own (bz (Ci x y)))) from rfl);have fin:∀v:Int,bI (Ci x y) (.inr s)=some (.int v)->v%1000000000000=rk s x y->bT (aB cI (bH (aa 4) (bH (aa 0) (eC (.int 0)))) (aB CP (eC (.int 10)) (eC (.int 12)))) (E X Y (some (.own (bz (Ci x y)))))=some (.rt (.sh (.int (rk s x y))) (E X Y (zS (bz (Ci x y))))):=λv hv hr=>by rw[<-hr];exact bL (cW (qO (x:=.sh (bz (Ci x y))) (y:=.sh (.str s)) (ρ1:=E X Y (zS (bz (Ci x y)))) rfl rfl (.inl ⟨_,_,rfl,rfl⟩) rfl hv) rfl rfl rfl (gj (by decide)))
  refine aW (ρ:=E X Y (zS (bz (Ci x y)))) (aD (ρ':=E none none none) ((cL t0).trans rfl) (aD s2 (aD s3 (aD s4 ?_))));rcases hs with rfl | rfl | rfl | rfl | rfl
  . exact fin (x+y) rfl rfl
  . exact fin (x-y) rfl rfl
  . exact fin (x*y) rfl rfl
  . exact fin (if x<y then 1 else 0) rfl (by show _=if x<y then 1 else 0; split<;>rfl)
  . exact fin (if x=y then 1 else 0) rfl (by show _=if x=y then 1 else 0; split<;>rfl)
end
theorem FZ {c d:Int} {fi:EF} {ρ:Ev} (h:fi ρ=some (.sh (.int c),ρ)) (h0:0<d) (h1:d<1073741824):aB nj fi (eC (.int d)) ρ=some (.sh (.int (c/d)),ρ):=cW h rfl rfl rfl (NQ h0 h1)
theorem mF {c d:Int} {fi:EF} {ρ:Ev} (h:fi ρ=some (.sh (.int c),ρ)) (h0:0<d):aB cI fi (eC (.int d)) ρ=some (.sh (.int (c%d)),ρ):=cW h rfl rfl rfl (gj h0)
theorem Vn {i:Int} (h0:0<=i) (h1:i<5):∃s,Sg s/\uF (.str "+-*<=") (.int i)=zT s:=by
 have go:∀(c:Nat) (s:Str),Sg s->("+-*<=" : Str).length<=100000->gw ("+-*<=" : Str).cps.toList i=some c->(⟨#[c]⟩:Str)=s->∃s,Sg s/\uF (.str "+-*<=") (.int i)=zT s:=λc s hs hl hc e=>⟨s,hs,by
  show (if ("+-*<=" : Str).length<=100000 then (gw ("+-*<=" : Str).cps.toList i).map λc=>Lc.sh (.str ⟨#[c]⟩) else none)=_;rw[aca hl,hc,<-e];rfl⟩
 have h:i=0\/i=1\/i=2\/i=3\/i=4:=by omega
 rcases h with rfl | rfl | rfl | rfl | rfl
 . exact go 43 "+" (.inl rfl) (by decide +kernel) (by decide +kernel) (by decide +kernel)
 . exact go 45 "-" (.inr (.inl rfl)) (by decide +kernel) (by decide +kernel) (by decide +kernel)
 . exact go 42 "*" (.inr (.inr (.inl rfl))) (by decide +kernel) (by decide +kernel) (by decide +kernel)
 . exact go 60 "<" (.inr (.inr (.inr (.inl rfl)))) (by decide +kernel) (by decide +kernel) (by decide +kernel)
 . exact go 61 "=" (.inr (.inr (.inr (.inr rfl)))) (by decide +kernel) (by decide +kernel) (by decide +kernel)
section
variable {a b c:Str}
abbrev N3 (a b c:Str):PV:=.lst [.str a,.str b,.str c]
theorem Zm {i:Int} (h0:0<=i) (h1:i<3):∃x∈[a,b,c],uF (N3 a b c) (.int i)=zT x:=by
 rcases (show i=0\/i=1\/i=2 by omega) with rfl | rfl | rfl
 . exact⟨a,by simp,rfl⟩
 . exact⟨b,by simp,rfl⟩
 . exact⟨c,by simp,rfl⟩
theorem Du (z:Int):∃e:Ex,(Lf e/\e.dp<=1/\∀B,(∀x∈[a,b,c],rZ B x)->e.ok B)/\∀mu:Mu,jZ [.int z,N3 a b c] mu=some (.sh e.pv,mu):=by
 let E:=λmu=>(⟨[zI z,zS (N3 a b c)],mu⟩:Ev);have t:∀mu b',(z%3==0)=b'->tT (aB eqP (aB cI (aa 0) (eC (.int 3))) (eC (.int 0))) bA (E mu)=some (b',E mu):=λmu b' h=>tK (mF (c:=z) rfl (by decide)) h;have d3:∀mu (m:Int),0<m->aB cI (aB nj (aa 0) (eC (.int 3))) (eC (.int m)) (E mu)=some (.sh (.int (z/3%m)),E mu):=λmu m h=>mF (FZ (c:=z) rfl (by decide) (by decide)) h;by_cases h:z%3=0
 . obtain⟨w,hw,iw⟩:∃w:Int,uF (.lst [.int 0,.int 1,.int (pY (z/12)),.int (z/12%4)]) (.int (z/3%4))=zI w/\In w:=by
    have h0:=aaY (z/3) (b:=4) (by decide);have h1:=aaT (z/3) (b:=4) (by decide);have g0:=aaY (z/12) (b:=4) (by decide);have g1:=aaT (z/12) (b:=4) (by decide);have nb:=zQ (z/12);generalize z/12%4=x at g0 g1;generalize pY (z/12)=y at nb;generalize z/3%4=j at h0 h1;rcases (show j=0\/j=1\/j=2\/j=3 by omega) with rfl | rfl | rfl | rfl
    . exact⟨0,rfl,by decide⟩
    . exact⟨1,rfl,by decide⟩
    . exact⟨y,rfl,nb⟩
    . exact⟨x,rfl,by constructor<;>omega⟩
   refine⟨.num w,⟨trivial,aaf _,λ_ _=>iw⟩,λmu=>?_⟩;have d12:aB nj (aa 0) (eC (.int 12)) (E mu)=some (.sh (.int (z/12)),E mu):=FZ (c:=z) rfl (by decide) (by decide);exact aW (ρ:=E mu) (gk ((d9 (t mu true (beq_iff_eq.mpr h))).trans (bL (gb (ls:=[.sh (.str "num"),.sh (.int w)]) (aA rfl (aA (mz (xm (ls:=[.sh (.int 0),.sh (.int 1),.sh (.int (pY (z/12))),.sh (.int (z/12%4))]) (aA rfl (aA rfl (aA (aU (ls:=[.sh (.int (z/12))]) (ρ1:=E mu) (aA d12 rfl) rfl rfl rfl (Em _ _)) (aA (mF d12 (by decide)) rfl)))) rfl rfl) rfl (d3 mu 4 (by decide)) rfl (λn h=>by cases h) hw) rfl)) rfl rfl))))
 . obtain⟨x,hx,e⟩:=Zm (a:=a) (b:=b) (c:=c) (aaY (z/3) (b:=3) (by decide)) (aaT (z/3) (b:=3) (by decide));exact⟨.box x,⟨trivial,aaf _,λB hB=>hB x hx⟩,λmu=>aW (ρ:=E mu) (aD (ρ':=E mu) ((cL (t mu false (acg.mpr h))).trans rfl) (bL (gb (ls:=[.sh (.str "box"),.sh (.str x)]) (aA rfl (aA (mz (l:=.sh (N3 a b c)) rfl rfl (d3 mu 3 (by decide)) rfl (λn h=>by cases h) e) rfl)) rfl rfl)))⟩
theorem Lf.E2 {e:Ex} (h:Lf e):E2 e:=by
 cases e with
 | op s x y=>exact h.elim
 | _=>exact h
theorem J9 (z:Int):∃e:Ex,E2 e/\e.okN [a,b,c]/\∀mu:Mu,dH [.int z,N3 a b c] mu=some (.sh e.pv,mu):=by
 let E:=λl2 mu=>(⟨[zI z,zS (N3 a b c),l2],mu⟩:Ev);have t:∀mu b',(z%3==0)=b'->tT (aB eqP (aB cI (aa 0) (eC (.int 3))) (eC (.int 0))) bA (E none mu)=some (b',E none mu):=λmu b' h=>tK (mF (c:=z) rfl (by decide)) h;by_cases h:z%3=0
 . obtain⟨e,⟨le,de,oe⟩,he⟩:=Du (a:=a) (b:=b) (c:=c) (z/3);exact⟨e,le.E2,⟨by omega,oe⟩,λmu=>aW (ρ:=E none mu) (gk ((d9 (t mu true (beq_iff_eq.mpr h))).trans (bL (aU (ls:=[.sh (.int (z/3)),.sh (N3 a b c)]) (ρ1:=E none mu) (aA (FZ (c:=z) rfl (by decide) (by decide)) rfl) rfl rfl rfl (he mu)))))⟩
 . obtain⟨e,⟨le,de,oe⟩,he⟩:=Du (a:=a) (b:=b) (c:=c) (z*48271%2147483563);obtain⟨f,⟨lf,df,of⟩,hf⟩:=Du (a:=a) (b:=b) (c:=c) (z*16807%2147483587);obtain⟨s,hs,es⟩:=Vn (i:=z/3%5) (aaY _ (by decide)) (aaT _ (by decide));refine⟨.op s e f,⟨hs,le,lf⟩,⟨by show max e.dp f.dp+1<=40; omega,λB hB=>⟨hs,oe B hB,of B hB⟩⟩,λmu=>?_⟩;let O:Option Lc:=zS e.pv;have s2:aV 2 (aJ jZ (aj (aB cI (aB jw (aa 0) (eC (.int 48271))) (eC (.int 2147483563))) (aj (aa 1) ao))) (E none mu)=some (.nx (E O mu)):=cA (aU (ls:=[.sh (.int (z*48271%2147483563)),.sh (N3 a b c)]) (ρ1:=E none mu) (aA (mF (cW rfl rfl rfl rfl (uJ (by decide) (by decide))) (by decide)) rfl) rfl rfl rfl (he mu)) rfl rfl;exact aW (ρ:=E O mu) (aD (ρ':=E none mu) ((cL (t mu false (acg.mpr h))).trans rfl) (aD s2 (bL (gb (ls:=[.sh (.str s),.sh e.pv,.sh f.pv]) (aA (mz (l:=.sh (.str "+-*<=")) (m:=.sh (.int (z/3%5))) rfl rfl (mF (FZ (c:=z) rfl (by decide) (by decide)) (by decide)) rfl (λn h=>by cases h) es) (aA rfl (aA (aU (ls:=[.sh (.int (z*16807%2147483587)),.sh (N3 a b c)]) (ρ1:=E O mu) (aA (mF (cW rfl rfl rfl rfl (uJ (by decide) (by decide))) (by decide)) rfl) rfl rfl rfl (hf mu)) rfl))) rfl rfl))))
end
inductive Kd where
 | no
 | pl (i:Nat) (p:PV)
 | row (i:Nat) (ts:List Tr)
 | fz (ts:List Tr)
abbrev Kn:=Nat->Kd
def ub (K:Kn) (d:Nat) (x:Kd):Kn:=λc=>if c=d then x else K c
def tl:List Tr->jU
 | []=>.nil
 | r::rs=>.cons r (tl rs)
def Cj (K:Kn):Tr->PV->Prop
 | .set x e,p=>p=.tup [.str "set",.str x,e.pv]
 | .iff e b c,p=>∃i j bs cs,p=.tup [.str "if",e.pv,.ptr i,.ptr j]/\K i=.fz bs/\K j=.fz cs/\tl bs=b/\tl cs=c
def Rp (K:Kn):List Tr->List PV->Prop
 | [],ps=>ps=[]
 | t::ts,ps=>∃p qs,ps=p::qs/\Cj K t p/\Rp K ts qs
def Ct (K:Kn) (mu:Mu) (c:Nat):Kd->Prop
 | .no=>True
 | .pl _ p=>mu[c]?=some (some p)
 | .row _ ts=>∃ps,mu[c]?=some (some (.lst ps))/\Rp K ts ps
 | .fz ts=>∃ps,mu[c]?=some (some (.lst ps))/\Rp K ts ps
structure Al (K:Kn) (mu:Mu):Prop where
 ct:∀c,Ct K mu c (K c)
 no:∀c,mu.length<=c->K c=.no
section
variable {K K':Kn} {mu mu':Mu} {d:Nat} {x:Kd}
theorem fZ:ub K d x d=x:=aca rfl
theorem kY {c:Nat} (h:K c≠K d):ub K d x c=K c:=acb λe=>h (by rw[e])
theorem Cj.imp (h:∀c ts,K c=.fz ts->K' c=.fz ts):∀{t:Tr} {p:PV},Cj K t p->Cj K' t p
 | .set _ _,_,q=>q
 | .iff _ _ _,_,⟨i,j,bs,cs,e,h1,h2,q⟩=>⟨i,j,bs,cs,e,h _ _ h1,h _ _ h2,q⟩
theorem Rp.imp (h:∀c ts,K c=.fz ts->K' c=.fz ts):∀{ts:List Tr} {ps:List PV},Rp K ts ps->Rp K' ts ps
 | [],_,q=>q
 | _::_,_,⟨p,qs,e,h1,h2⟩=>⟨p,qs,e,h1.imp h,h2.imp h⟩
theorem Rp.snoc {t:Tr} {p:PV} (hp:Cj K t p):∀{ts:List Tr} {ps:List PV},Rp K ts ps->Rp K (ts++[t]) (ps++[p])
 | [],_,rfl=>⟨p,[],rfl,hp,rfl⟩
 | _::_,_,⟨q,qs,e,h1,h2⟩=>⟨q,qs++[p],by rw[e]; rfl,h1,h2.snoc hp⟩
theorem Rp.len:∀{ts:List Tr} {ps:List PV},Rp K ts ps->ps.length=ts.length
 | [],_,rfl=>rfl
 | _::_,_,⟨q,qs,e,_,h2⟩=>by rw[e,aae,h2.len,aae]
theorem Ct.imp {c:Nat} (h:∀c ts,K c=.fz ts->K' c=.fz ts) (e:mu'[c]?=mu[c]?):∀{x:Kd},Ct K mu c x->Ct K' mu' c x
 | .no,_=>trivial
 | .pl _ _,q=>e.trans q
 | .row _ _,⟨ps,q,r⟩=>⟨ps,e.trans q,r.imp h⟩
 | .fz _,⟨ps,q,r⟩=>⟨ps,e.trans q,r.imp h⟩
def Kd.nf:Kd->Prop
 | .fz _=>False
 | _=>True
theorem qH (h:(K d).nf) {c:Nat} {ts:List Tr} (e:K c=.fz ts):ub K d x c=.fz ts:=by rw[kY,e];intro q;rw[<-q,e]at h;exact h
theorem Al.wr (A:Al K mu) (hd:(K d).nf) (hl:d<mu.length) {p:PV} (hx:Ct K (mu.set d (some p)) d x):Al (ub K d x) (mu.set d (some p)):=by
 have m:∀c ts,K c=.fz ts->ub K d x c=.fz ts:=λc ts e=>qH hd e;refine⟨λc=>?_,λc hc=>?_⟩
 . by_cases e:c=d
   . subst e;rw[fZ];exact hx.imp m rfl
   . rw[show ub K d x c=K c from acb e];exact(A.ct c).imp m (aaw λh=>e h.symm)
 . rw[aaK]at hc;rw[show ub K d x c=K c from acb (by omega)];exact A.no c hc
theorem Al.new (A:Al K mu) {p:PV} (hx:Ct K (mu++[some p]) mu.length x):Al (ub K mu.length x) (mu++[some p]):=by
 have m:∀c ts,K c=.fz ts->ub K mu.length x c=.fz ts:=λc ts e=>qH (by rw[A.no _ (aaf _)]; trivial) e;refine⟨λc=>?_,λc hc=>?_⟩
 . by_cases e:c=mu.length
   . subst e;rw[fZ];exact hx.imp m rfl
   . rw[show ub K mu.length x c=K c from acb e];by_cases h:c<mu.length
     . exact(A.ct c).imp m (aaI h)
     . rw[A.no c (by omega)];trivial
 . rw[aah]at hc;have hc:mu.length+1<=c:=hc;rw[show ub K mu.length x c=K c from acb (by omega)];exact A.no c (by omega)
theorem Al.fr (A:Al K mu) {i:Nat} {ts:List Tr} (h:K d=.row i ts):Al (ub K d (.fz ts)) mu:=by
 have m:∀c us,K c=.fz us->ub K d (.fz ts) c=.fz us:=λc us e=>qH (by rw[h]; trivial) e;refine⟨λc=>?_,λc hc=>?_⟩
 . by_cases e:c=d
   . subst e;rw[fZ];have q:=A.ct c;rw[h]at q;obtain⟨ps,q,r⟩:=q;exact⟨ps,q,r.imp m⟩
   . rw[show ub K d _ c=K c from acb e];exact(A.ct c).imp m rfl
 . have n:=A.no c hc;rw[kY (by rw[n,h]; intro q; cases q)];exact n
end
structure Lv where
 a:Nat
 hd:Option (Ex×Option (Nat×List Tr)×Nat×Bool)
 r:Nat
 ts:List Tr
 live:Bool
 la:Option Int
def Pz:Option (Nat×List Tr)->PV
 | none=>.non
 | some q=>.ptr q.1
def laP:Option Int->PD
 | none=>[]
 | some i=>[(.inr "last",.int i)]
def Lv.pd (v:Lv):PD:=match v.hd with
 | none=>[(.inr "rows",.ptr v.r),(.inr "live",.bl v.live),(.inr "last",.int (v.la.getD (-1)))]
 | some q=>(.inr "guard",q.1.pv)::(.inr "first",Pz q.2.1)::(.inr "rows",.ptr v.r)::(.inr "number",.int (q.2.2.1:Nat))::(.inr "live",.bl v.live)::(.inr "other",.bl q.2.2.2)::laP v.la
theorem Lv.rows {v:Lv}:bI v.pd (.inr "rows")=some (.ptr v.r):=by unfold Lv.pd;split<;>rfl
theorem Lv.lv {v:Lv}:bI v.pd (.inr "live")=some (.bl v.live):=by unfold Lv.pd;split<;>rfl
theorem Lv.last {v:Lv} {i:Int}:cU v.pd (.inr "last") (.int i)=Lv.pd {v with la:=some i}:=by obtain⟨a,hd,r,ts,live,la⟩:=v;cases hd<;>cases la<;>rfl
theorem Lv.pl {v:Lv}:v.pd.length<100000:=by obtain⟨a,hd,r,ts,live,la⟩:=v;cases hd<;>cases la<;>exact aaz (m:=10) (Nat.le_of_ble_eq_true rfl) (by decide)
structure At (K:Kn) (n:Nat) (v:Lv):Prop where
 a:K v.a=.pl (n+1) (bz v.pd)
 r:K v.r=.row (n+1) v.ts
 f:∀e c f k o,v.hd=some (e,some (c,f),k,o)->K c=.fz f
def Ka (K:Kn):List Lv->Prop
 | []=>True
 | v::vs=>At K vs.length v/\Ka K vs
def Kd.fr (n:Nat):Kd->Prop
 | .no=>True
 | .pl i _=>i=0\/n<i
 | .row i _=>n<i
 | .fz _=>False
def Kd.st (n:Nat):Kd->Prop
 | .no=>True
 | .pl i _=>n<i
 | .row i _=>n<i
 | .fz _=>False
theorem Kd.st.fr {n:Nat}:∀{x:Kd},x.st n->x.fr n
 | .no,_=>trivial
 | .pl _ _,h=>.inr h
 | .row _ _,h=>h
theorem Kd.fr.nf {n:Nat}:∀{x:Kd},x.fr n->x.nf
 | .no,_=>trivial
 | .pl _ _,_=>trivial
 | .row _ _,_=>trivial
theorem Kd.fr.lt {n m:Nat} (hm:m<=n):∀{x:Kd},x.fr n->x.fr m
 | .no,_=>trivial
 | .pl _ _,h=>h.imp id λh=>by omega
 | .row _ _,h=>abu hm h
section
variable {K:Kn} {mu:Mu} {d:Nat} {x:Kd} {B:Bs} {ms:List cB} {n:Nat} {lp:List Nat} {vs:List Lv} {sl:List (Option Lc)}
theorem At.up {m:Nat} {v:Lv} (h:(K d).fr (m+1)) (A:At K m v):At (ub K d x) m v:=by
 refine⟨?_,?_,λe c f k o q=>qH h.nf (A.f e c f k o q)⟩
 . rw[kY,A.a];intro e;rw[<-e,A.a]at h;rcases h with h | h<;>omega
 . rw[kY,A.r];intro e;rw[<-e,A.r]at h;exact abb _ h
theorem Ka.up:∀{vs:List Lv},(K d).fr vs.length->Ka K vs->Ka (ub K d x) vs
 | [],_,_=>trivial
 | _::_,h,⟨A,S⟩=>⟨A.up h,Ka.up (h.lt (abB _)) S⟩
abbrev kQ:List Key:=[.inr "levels",.inr "boxes",.inr "moments",.inr "many"]
abbrev wu (lp:List Nat):List PV:=lp.map .ptr
structure QS (K:Kn) (mu:Mu) (B:Bs) (ms:List cB) (n:Nat) (lp:List Nat) (vs:List Lv):Prop where
 al:Al K mu
 k0:K 0=.pl 0 (.dk (bh B) (bf B))
 k3:K 3=.pl 0 (.lst (wu lp))
 k4:K 4=.pl 0 (.lst (ms.map cB.pv))
 k5:K 5=.pl 0 (.dk kQ [.ptr 3,.ptr 0,.ptr 4,.int (n:Nat)])
 sk:Ka K vs
theorem Al.at (A:Al K mu) {i:Nat} {p:PV} (h:K d=.pl i p):mu[d]?=some (some p):=by have q:=A.ct d;rw[h]at q;exact q
theorem mG {c:Nat} {m:Nat} {p:PV} (h:K c=.pl 0 p) (hd:(K d).st m):ub K d x c=.pl 0 p:=by rw[kY,h];intro e;rw[<-e,h]at hd;exact Nat.not_lt_zero _ hd
theorem QS.wr (q:QS K mu B ms n lp vs) (hd:(K d).st vs.length) (hl:d<mu.length) {p:PV} (hx:Ct K (mu.set d (some p)) d x):QS (ub K d x) (mu.set d (some p)) B ms n lp vs:=
 ⟨q.al.wr hd.fr.nf hl hx,mG q.k0 hd,mG q.k3 hd,mG q.k4 hd,mG q.k5 hd,q.sk.up hd.fr⟩
theorem QS.new (q:QS K mu B ms n lp vs) {p:PV} (hx:Ct K (mu++[some p]) mu.length x):QS (ub K mu.length x) (mu++[some p]) B ms n lp vs:=by
 have hd:∀m,(K mu.length).st m:=λm=>by rw[q.al.no _ (aaf _)]; trivial
 exact⟨q.al.new hx,mG q.k0 (hd 0),mG q.k3 (hd 0),mG q.k4 (hd 0),mG q.k5 (hd 0),q.sk.up (hd _).fr⟩
theorem QS.fz (q:QS K mu B ms n lp vs) {i:Nat} {ts:List Tr} (h:K d=.row i ts) (hi:vs.length<i):QS (ub K d (.fz ts)) mu B ms n lp vs:=by
 have hd:(K d).st vs.length:=by rw[h]; exact hi
 exact⟨q.al.fr h,mG q.k0 hd,mG q.k3 hd,mG q.k4 hd,mG q.k5 hd,q.sk.up hd.fr⟩
theorem QS.lt {i:Nat} {p:PV} (q:QS K mu B ms n lp vs) (h:K d=.pl i p):d<mu.length:=iy (q.al.at h)
theorem QS.gl {i:Nat} {p:PV} (q:QS K mu B ms n lp vs) (h:K d=.pl 0 p):(K d).fr i:=by rw[h]; exact .inl rfl
theorem nu {c:Nat} {y:Kd} (h:K c=y) (e:¬ c=d):ub K d x c=y:=(acb e).trans h
theorem QS.w0 (q:QS K mu B ms n lp vs) {B':Bs}:QS (ub K 0 (.pl 0 (.dk (bh B') (bf B')))) (mu.set 0 (some (.dk (bh B') (bf B')))) B' ms n lp vs:=
 ⟨q.al.wr (q.gl (i:=0) q.k0).nf (q.lt q.k0) (aas (q.lt q.k0)),fZ,nu q.k3 (by decide),nu q.k4 (by decide),nu q.k5 (by decide),q.sk.up (q.gl q.k0)⟩
theorem QS.w3 (q:QS K mu B ms n lp vs) {lp':List Nat}:QS (ub K 3 (.pl 0 (.lst (wu lp')))) (mu.set 3 (some (.lst (wu lp')))) B ms n lp' vs:=
 ⟨q.al.wr (q.gl (i:=0) q.k3).nf (q.lt q.k3) (aas (q.lt q.k3)),nu q.k0 (by decide),fZ,nu q.k4 (by decide),nu q.k5 (by decide),q.sk.up (q.gl q.k3)⟩
theorem QS.w4 (q:QS K mu B ms n lp vs) {ms':List cB}:QS (ub K 4 (.pl 0 (.lst (ms'.map cB.pv)))) (mu.set 4 (some (.lst (ms'.map cB.pv)))) B ms' n lp vs:=
 ⟨q.al.wr (q.gl (i:=0) q.k4).nf (q.lt q.k4) (aas (q.lt q.k4)),nu q.k0 (by decide),nu q.k3 (by decide),fZ,nu q.k5 (by decide),q.sk.up (q.gl q.k4)⟩
theorem QS.w5 (q:QS K mu B ms n lp vs) {n':Nat}:QS (ub K 5 (.pl 0 (.dk kQ [.ptr 3,.ptr 0,.ptr 4,.int (n':Nat)]))) (mu.set 5 (some (.dk kQ [.ptr 3,.ptr 0,.ptr 4,.int (n':Nat)]))) B ms n' lp vs:=
 ⟨q.al.wr (q.gl (i:=0) q.k5).nf (q.lt q.k5) (aas (q.lt q.k5)),nu q.k0 (by decide),nu q.k3 (by decide),nu q.k4 (by decide),fZ,q.sk.up (q.gl q.k5)⟩
end
theorem PB {x:Str} {v:Int}:∀{B:Bs},jG (.inr x) (.int v) (B.map λq=>(.inr q.1,q.2.pv))=(setB B x (.n v)).map λq=>(.inr q.1,q.2.pv)
 | []=>rfl
 | (y,w)::B=>by
  have ih:=PB (x:=x) (v:=v) (B:=B);have er:jG (.inr x) (.int v) (((y,w)::B).map λq=>(.inr q.1,q.2.pv))=(if (Sum.inr y:Key)=.inr x then (Sum.inr y,PV.int v) else (Sum.inr y,w.pv))::jG (.inr x) (.int v) (B.map λq=>(.inr q.1,q.2.pv)):=rfl;rw[er,ih];show _=((λq:Str×BV=>((Sum.inr q.1:Key),q.2.pv)) (if y=x then (y,BV.n v) else (y,w)))::_;by_cases e:y=x
  . rw[aca e,aca (congrArg Sum.inr e)];rfl
  . rw[acb e,acb (λh=>e (Sum.inr.inj h))];rfl
theorem Y6 {B:Bs} {x:Str} {v:Int} (h:rZ B x):bz (cU ((bh B).zip (bf B)) (.inr x) (.int v))=.dk (bh (setB B x (.n v))) (bf (setB B x (.n v))):=by obtain⟨i,h⟩:=h;rw[Dm (f:=BV.pv)];unfold cU;rw[Dn,h];show bz (jG _ _ _)=_;rw[PB];unfold bz;rw[aaX,aaX];rfl
theorem Kc {f g:EF} {E:Ev} {a b:Bool} (hf:f E=some (.sh (.bl a),E)) (hg:g E=some (.sh (.bl b),E)):gB f g E=some (.sh (.bl (a&&b)),E):=by
 unfold gB;rw[hf,aab];cases a
 . rfl
 . exact hg
theorem lH {l:PD} {f:EF} {E:Ev} {c:Nat} {k:Str} {p:PV} (hf:f E=some (.sh (.ptr c),E)) (hm:E.mu[c]?=some (some (bz l))) (hv:bI l (.inr k)=some p):aM f (eC (.str k)) E=some (.sh p,E):=
 BP (x:=.sh (.ptr c)) (y:=.sh (.str k)) (k:=.inr k) (ks:=l.map Prod.fst) (ps:=l.map Prod.snd) hf rfl rfl rfl hm (by rw[JH]; exact hv)
section
variable {K:Kn} {mu mu0:Mu} {B:Bs} {ms:List cB} {n i:Nat} {lp:List Nat} {vs:List Lv} {sl:List (Option Lc)} {fo fi fv:EF} {y:Lc} {p:PV}
theorem QS.get (q:QS K mu B ms n lp vs) {k:Str} (hi:aa i ⟨sl,mu⟩=some (.sh (.ptr 5),⟨sl,mu⟩)) (hv:bI (kQ.zip [.ptr 3,.ptr 0,.ptr 4,.int (n:Nat)]) (.inr k)=some p):aM (aa i) (eC (.str k)) ⟨sl,mu⟩=some (.sh p,⟨sl,mu⟩):=
 BP (x:=.sh (.ptr 5)) (y:=.sh (.str k)) (k:=.inr k) (ks:=kQ) (ps:=[.ptr 3,.ptr 0,.ptr 4,.int (n:Nat)]) hi rfl rfl rfl (q.al.at q.k5) hv
theorem zV {a:Nat}:wu (lp++[a])=wu lp++[.ptr a]:=aaG
theorem QS.lev {a:Nat} (q:QS K mu B ms n (lp++[a]) vs) (hi:aa i ⟨sl,mu⟩=some (.sh (.ptr 5),⟨sl,mu⟩)):aY (aM (aa i) (eC (.str "levels"))) (gh (eC (.int 1))) ⟨sl,mu⟩=some (.sh (.ptr a),⟨sl,mu⟩):=
 Bh (k:=-1) (ws:=wu (lp++[a])) (p:=.ptr a) (l:=.sh (.ptr 3)) (m:=.sh (.int (-1))) (n:=3) (q.get hi rfl) rfl rfl rfl (q.al.at q.k3) (by rw[zV]; exact HS)
theorem QS.mom {m:cB} (q:QS K mu B ms n lp vs) (hi:aa i ⟨sl,mu⟩=some (.sh (.ptr 5),⟨sl,mu⟩)) (hf:fv ⟨sl,mu⟩=some (y,⟨sl,mu⟩)) (hy:y.pv=m.pv) (hl:ms.length<90000):∃K' mu',eQ (aM (aa i) (eC (.str "moments"))) fv ⟨sl,mu⟩=some (.nx ⟨sl,mu'⟩)/\QS K' mu' B (ms++[m]) n lp vs:=
 ⟨_,_,mZ (o:=.sh (.ptr 4)) (ρ1:=⟨sl,mu⟩) (ρ2:=⟨sl,mu⟩) (q.get hi rfl) rfl (q.al.at q.k4) hf hy (q.al.at q.k4) (by rw[aag]; omega) (by rw[show ms.map cB.pv++[m.pv]=(ms++[m]).map cB.pv from (aaG (l₂:=[m])).symm]),q.w4⟩
theorem QS.inc (q:QS K mu B ms n lp vs) (hi:aa i ⟨sl,mu⟩=some (.sh (.ptr 5),⟨sl,mu⟩)):∃K' mu',jf (aa i) (eC (.str "many")) (aB eX (aM (aa i) (eC (.str "many"))) (eC (.int 1))) ⟨sl,mu⟩=some (.nx ⟨sl,mu'⟩)/\QS K' mu' B ms (n+1) lp vs:=
 ⟨_,_,yz (x:=.sh (.int ((n+1:Nat):Int))) (ρ1:=⟨sl,mu⟩) (ρ2:=⟨sl,mu⟩) (ρ3:=⟨sl,mu⟩) (o:=.sh (.ptr 5)) (y:=.sh (.str "many")) (k:=.inr "many") (ks:=kQ) (ps:=[.ptr 3,.ptr 0,.ptr 4,.int (n:Nat)]) (cW (q.get hi rfl) rfl rfl rfl rfl) rfl hi rfl rfl rfl (q.al.at q.k5) (by decide) rfl,q.w5⟩
theorem QS.box {x:Str} {v:Int} (q:QS K mu B ms n lp vs) (hx:rZ B x) (hB:B.length<=100) (hi:aa i ⟨sl,mu⟩=some (.sh (.ptr 5),⟨sl,mu⟩)) (h1:fv ⟨sl,mu⟩=some (.sh (.int v),⟨sl,mu⟩)) (h2:fi ⟨sl,mu⟩=some (.sh (.str x),⟨sl,mu⟩)):∃K' mu',jf (aM (aa i) (eC (.str "boxes"))) fi fv ⟨sl,mu⟩=some (.nx ⟨sl,mu'⟩)/\QS K' mu' (setB B x (.n v)) ms n lp vs:=
 ⟨_,_,yz (x:=.sh (.int v)) (ρ1:=⟨sl,mu⟩) (ρ2:=⟨sl,mu⟩) (ρ3:=⟨sl,mu⟩) (o:=.sh (.ptr 0)) (y:=.sh (.str x)) (k:=.inr x) (ks:=bh B) (ps:=bf B) h1 rfl (q.get hi rfl) rfl h2 rfl (q.al.at q.k0) (by rw[aag]; omega) (by show mu.set 0 (some (bz (cU ((bh B).zip (bf B)) (.inr x) (.int v))))=_; rw[Y6 hx]),q.w0⟩
theorem QS.dset {a j:Nat} {l:PD} {k:Str} (q:QS K mu B ms n lp vs) (ha:K a=.pl j (bz l)) (hj:vs.length<j) (hz:l.length<100000) (hv:fv ⟨sl,mu0⟩=some (y,⟨sl,mu⟩)) (hy:y.pv=p) (ho:fo ⟨sl,mu⟩=some (.sh (.ptr a),⟨sl,mu⟩)):jf fo (eC (.str k)) fv ⟨sl,mu0⟩=some (.nx ⟨sl,mu.set a (some (bz (cU l (.inr k) p)))⟩)/\QS (ub K a (.pl j (bz (cU l (.inr k) p)))) (mu.set a (some (bz (cU l (.inr k) p)))) B ms n lp vs:=
 ⟨yz (x:=y) (ρ1:=⟨sl,mu⟩) (ρ2:=⟨sl,mu⟩) (ρ3:=⟨sl,mu⟩) (o:=.sh (.ptr a)) (y:=.sh (.str k)) (k:=.inr k) (ks:=l.map Prod.fst) (ps:=l.map Prod.snd) hv hy ho rfl rfl rfl (q.al.at ha) (by rw[aag]; exact hz) (by rw[JH]),q.wr (by rw[ha]; exact hj) (q.lt ha) (aas (q.lt ha))⟩
theorem QS.rapp {c j:Nat} {ts:List Tr} {t:Tr} {ps0:List PV} (q:QS K mu B ms n lp vs) (hr:K c=.row j ts) (hj:vs.length<j) (hl:ts.length<90000) (ho:fo ⟨sl,mu0⟩=some (.sh (.ptr c),⟨sl,mu0⟩)) (h0:mu0[c]?=some (some (.lst ps0))) (hv:fv ⟨sl,mu0⟩=some (y,⟨sl,mu⟩)) (hy:y.pv=p) (hp:Cj K t p):∃mu',eQ fo fv ⟨sl,mu0⟩=some (.nx ⟨sl,mu'⟩)/\QS (ub K c (.row j (ts++[t]))) mu' B ms n lp vs:=by have cc:=q.al.ct c;rw[hr]at cc;obtain⟨ps,e,rp⟩:=cc;exact⟨_,mZ (o:=.sh (.ptr c)) (ρ1:=⟨sl,mu0⟩) (ρ2:=⟨sl,mu⟩) ho rfl h0 hv hy e (by rw[rp.len]; omega) rfl,q.wr (by rw[hr]; exact hj) (iy e) ⟨_,aas (iy e),rp.snoc hp⟩⟩
theorem QS.row {c j:Nat} {ts:List Tr} (q:QS K mu B ms n lp vs) (hr:K c=.row j ts):∃ps,mu[c]?=some (some (.lst ps)):=by have cc:=q.al.ct c;rw[hr]at cc;obtain⟨ps,e,_⟩:=cc;exact⟨ps,e⟩
end
section
variable {K:Kn} {mu:Mu} {B:Bs} {ms:List cB} {n:Nat} {lp:List Nat} {vs:List Lv} {nm:List Str}
theorem At.tr {m:Nat} {v:Lv} (A:At K m v) {t:Tr} {la:Option Int}:At (ub (ub K v.r (.row (m+1) (v.ts++[t]))) v.a (.pl (m+1) (bz (Lv.pd {v with la:=la})))) m {v with ts:=v.ts++[t],la:=la}:=by
 have h1:K v.r≠K v.a:=by rw[A.a,A.r]; intro h; cases h
 have h2:ub K v.r (.row (m+1) (v.ts++[t])) v.a=.pl (m+1) (bz v.pd):=(kY λe=>h1 e.symm).trans A.a;refine⟨fZ,?_,λe c f k o q=>?_⟩
 . show ub (ub K v.r _) v.a _ v.r=_;rw[kY (by rw[h2,fZ]; intro h; cases h),fZ]
 . exact qH (by rw[h2]; trivial) (qH (by rw[A.r]; trivial) (A.f e c f k o q))
theorem Ye {v:Lv} {x:Str} {e:Ex} (q:QS K mu B ms n (lp++[v.a]) (v::vs)) (bk:BK nm B) (hx:x∈nm) (he:e.okN nm) (h2:E2 e) (hl:v.ts.length<80000) (hm:ms.length<80000):∃K' mu',lL [.ptr 5,.str x,e.pv] mu=some (.sh .non,mu')/\QS K' mu' (if v.live=true then ((Tr.set x e).sem n B).2 else B) (if v.live=true then ms++((Tr.set x e).sem n B).1 else ms) (n+1) (lp++[v.a]) ({v with ts:=v.ts++[.set x e],la:=some (n:Nat)}::vs):=by
 let E:=λl3 l4 mu=>(⟨[zS (.ptr 5),zT x,zS e.pv,l3,l4],mu⟩:Ev);let L:Option Lc:=zS (.ptr v.a);have s3:aV 3 (aY (aM (aa 0) (eC (.str "levels"))) (gh (eC (.int 1)))) (E none none mu)=some (.nx (E L none mu)):=cA (q.lev rfl) rfl rfl;obtain⟨A,S⟩:=q.sk;have q0:QS K mu B ms n (lp++[v.a]) vs:={q with sk:=S};obtain⟨ps,h0⟩:=q0.row A.r;obtain⟨mu1,e1,q1⟩:=q0.rapp (sl:=(E L none mu).vs) (fo:=aM (aa 3) (eC (.str "rows"))) (fv:=bG (aj (eC (.str "set")) (aj (aa 1) (aj (aa 2) ao)))) (t:=.set x e) (y:=.sh (.tup [.str "set",.str x,e.pv])) A.r (aaM _) (by omega) (lH rfl (q.al.at A.a) Lv.rows) h0 rfl rfl rfl;have a1:ub K v.r (.row (vs.length+1) (v.ts++[.set x e])) v.a=.pl (vs.length+1) (bz v.pd):=(kY (by rw[A.a,A.r]; intro h; cases h)).trans A.a;obtain⟨e2,q2⟩:=q1.dset (sl:=(E L none mu).vs) (fo:=aa 3) (k := "last") (fv:=aM (aa 0) (eC (.str "many"))) (y:=.sh (.int (n:Nat))) a1 (aaM _) Lv.pl (q1.get rfl rfl) rfl rfl;have A':=A.tr (t:=.set x e) (la:=some (n:Nat));rw[show cU v.pd (.inr "last") (Lc.sh (.int (n:Nat))).pv=_ from Lv.last]at e2 q2;have q3:QS _ _ B ms n (lp++[v.a]) ({v with ts:=v.ts++[.set x e],la:=some (n:Nat)}::vs):={q2 with sk:=⟨A',q2.sk⟩};obtain⟨K3,hK3⟩:∃K3,ub (ub K v.r (.row (vs.length+1) (v.ts++[.set x e]))) v.a (.pl (vs.length+1) (bz (Lv.pd {v with la:=some (n:Nat)})))=K3:=⟨_,rfl⟩;obtain⟨mu3,hm3⟩:∃mu3,mu1.set v.a (some (bz (Lv.pd {v with la:=some (n:Nat)})))=mu3:=⟨_,rfl⟩;rw[hK3]at A' q3;rw[hm3]at q3 e2;have t:tT (aM (aa 3) (eC (.str "live"))) gW (E L none mu3)=some (v.live,E L none mu3):=di (l:=.sh (.bl v.live)) (lH (c:=v.a) rfl (q3.al.at A'.a) Lv.lv) rfl rfl;cases hv:v.live with
 | false=>
  rw[acb (by simp),acb (by simp)];obtain⟨K4,mu4,e4,q4⟩:=q3.inc (sl:=(E L none mu).vs) (i:=0) rfl;rw[hv]at t;rw[hv]at q4;exact⟨K4,mu4,eG (ρ:=E L none mu4) (aD s3 (aD e1 (aD e2 (aD (ρ':=E L none mu3) ((cL t).trans rfl) e4)))),q4⟩
 | true=>
  rw[aca rfl,aca rfl];rw[hv]at t q3;let V:Option Lc:=zI (ev B e);have s4:aV 4 (aJ iH (aj (aa 2) (aj (aM (aa 0) (eC (.str "boxes"))) ao))) (E L none mu3)=some (.nx (E L V mu3)):=cA (aU (ls:=[.sh e.pv,.sh (.ptr 0)]) (ρ1:=E L none mu3) (aA rfl (aA (q3.get rfl rfl) rfl)) rfl rfl rfl (rz bk.bg.ok (q3.al.at q3.k0) h2 (he.2 B bk.nm))) rfl rfl;obtain⟨K4,mu4,e4,q4⟩:=q3.mom (sl:=(E L V mu).vs) (i:=0) (m:=((n:Nat),0,[])) (fv:=bG (aj (aM (aa 0) (eC (.str "many"))) (aj (eC (.int 0)) (aj (bx ao) ao)))) (y:=.sh (cB.pv ((n:Nat),0,[]))) rfl (gb (ls:=[.sh (.int (n:Nat)),.sh (.int 0),.own (.lst [])]) (aA (q3.get rfl rfl) rfl) rfl rfl) rfl (by omega);obtain⟨K5,mu5,e5,q5⟩:=q4.mom (sl:=(E L V mu).vs) (i:=0) (m:=((n:Nat),1,[(x,0,ev B e)])) (fv:=bG (aj (aM (aa 0) (eC (.str "many"))) (aj (eC (.int 1)) (aj (bx (aj (bG (aj (aa 1) (aj (eC (.int 0)) (aj (aa 4) ao)))) ao)) ao)))) (y:=.sh (cB.pv ((n:Nat),1,[(x,0,ev B e)]))) rfl (gb (ls:=[.sh (.int (n:Nat)),.sh (.int 1),.own (.lst [.tup [.str x,.int 0,.int (ev B e)]])]) (aA (q4.get rfl rfl) rfl) rfl rfl) rfl (by rw[aah]; show ms.length+1<_; omega);obtain⟨K6,mu6,e6,q6⟩:=q5.box (sl:=(E L V mu).vs) (i:=0) (fi:=aa 1) (fv:=aa 4) (x:=x) (v:=ev B e) (bk.nm x hx) bk.bg.l8 rfl rfl rfl;obtain⟨K7,mu7,e7,q7⟩:=q6.inc (sl:=(E L V mu).vs) (i:=0) rfl;rw[aai]at q7;exact⟨K7,mu7,eG (ρ:=E L V mu7) (aD s3 (aD e1 (aD e2 (aD (ρ':=E L V mu6) ((d9 t).trans (aD s4 (aD e4 (aD e5 e6)))) e7)))),q7⟩
end
theorem nk {K:Kn} {c d:Nat} {x y z:Kd} (h:K c=y) (h2:K d=z) (ne:y≠z):ub K d x c=y:=(kY (by rw[h,h2]; exact ne)).trans h
section
variable {K:Kn} {mu:Mu} {B:Bs} {ms:List cB} {n:Nat} {lp:List Nat} {vs:List Lv} {nm:List Str}
theorem Vo {u:Lv} {e:Ex} (q:QS K mu B ms n (lp++[u.a]) (u::vs)) (bk:BK nm B) (he:e.okN nm) (h2:E2 e) (hp:lp.length<80000) (hm:ms.length<80000):∃K' mu' a r,j0 [.ptr 5,e.pv] mu=some (.sh .non,mu')/\QS K' mu' B (if u.live=true then ms++[((n:Int),0,[])] else ms) (n+1) (lp++[u.a]++[a]) (⟨a,some (e,none,n,u.live&&!(!(ev B e==0))),r,[],u.live&&!(ev B e==0),none⟩::u::vs):=by
 let E:=λl2 l3 l4 mu=>(⟨[zS (.ptr 5),zS e.pv,l2,l3,l4],mu⟩:Ev);let U:Option Lc:=zS (.ptr u.a);obtain⟨T,hT⟩:∃T:Bool,(!(ev B e==0))=T:=⟨_,rfl⟩;rw[hT];let W:Option Lc:=zS (.bl T);have s2:aV 2 (aY (aM (aa 0) (eC (.str "levels"))) (gh (eC (.int 1)))) (E none none none mu)=some (.nx (E U none none mu)):=cA (q.lev rfl) rfl rfl;have s3:aV 3 (aB wX (aJ iH (aj (aa 1) (aj (aM (aa 0) (eC (.str "boxes"))) ao))) (eC (.int 0))) (E U none none mu)=some (.nx (E U W none mu)):=by refine cA (l:=.sh (.bl T)) (cW (aU (ls:=[.sh e.pv,.sh (.ptr 0)]) (ρ1:=E U none none mu) (aA rfl (aA (q.get rfl rfl) rfl)) rfl rfl rfl (rz bk.bg.ok (q.al.at q.k0) h2 (he.2 B bk.nm))) rfl rfl rfl ?_) rfl rfl;rw[<-hT];rfl
 have lv:∀{K mu ms n lp} (q:QS K mu B ms n lp (u::vs)) l4,aM (aa 2) (eC (.str "live")) (E U W l4 mu)=some (.sh (.bl u.live),E U W l4 mu):=λq l4=>lH (c:=u.a) rfl (q.al.at q.sk.1.a) Lv.lv;obtain⟨K1,mu1,s4,q1⟩:∃K1 mu1,cO (tT (aM (aa 2) (eC (.str "live"))) gW)
  (eQ (aM (aa 0) (eC (.str "moments"))) (bG (aj (aM (aa 0) (eC (.str "many"))) (aj (eC (.int 0)) (aj (bx ao) ao)))))
  cV (E U W none mu)=some (.nx (E U W none mu1))/\QS K1 mu1 B (if u.live=true then ms++[((n:Int),0,[])] else ms) n (lp++[u.a]) (u::vs):=by
  have t:tT (aM (aa 2) (eC (.str "live"))) gW (E U W none mu)=some (u.live,E U W none mu):=di (l:=.sh (.bl u.live)) (lv q none) rfl rfl;cases hu:u.live with
  | false=>
   rw[hu]at t;exact⟨K,mu,(cL t).trans rfl,q⟩
  | true=>
   rw[hu]at t;obtain⟨K4,mu4,e4,q4⟩:=q.mom (sl:=(E U W none mu).vs) (i:=0) (m:=((n:Nat),0,[])) (fv:=bG (aj (aM (aa 0) (eC (.str "many"))) (aj (eC (.int 0)) (aj (bx ao) ao)))) (y:=.sh (cB.pv ((n:Nat),0,[]))) rfl (gb (ls:=[.sh (.int (n:Nat)),.sh (.int 0),.own (.lst [])]) (aA (q.get rfl rfl) rfl) rfl rfl) rfl (by omega);exact⟨K4,mu4,(d9 t).trans e4,q4⟩
 generalize (if u.live=true then ms++[((n:Int),0,[])] else ms:List cB)=ms1 at q1 ⊢;obtain⟨r,hr⟩:∃r,mu1.length=r:=⟨_,rfl⟩;let N:=vs.length+1;let mu2:=mu1++[some (.lst [])];have q2:QS (ub K1 r (.row (N+1) [])) mu2 B ms1 n (lp++[u.a]) (u::vs):=by rw[<-hr];exact q1.new ⟨[],List.getElem?_concat_length,rfl⟩
 obtain⟨a,ha⟩:∃a,mu2.length=a:=⟨_,rfl⟩;have ar:¬ r=a:=by rw[<-ha,aah,hr]; show ¬ r=r+1; omega
 let l0:PD:=[(.inr "guard",e.pv),(.inr "first",.non),(.inr "rows",.ptr r),(.inr "number",.int (n:Nat))];let mu3:=mu2++[some (bz l0)];let K3:=ub (ub K1 r (.row (N+1) [])) a (.pl (N+1) (bz l0));have q3:QS K3 mu3 B ms1 n (lp++[u.a]) (u::vs):=by have:=q2.new (p:=bz l0) (x:=.pl (N+1) (bz l0)) List.getElem?_concat_length;rw[ha]at this;exact this
 let V:Option Lc:=zS (.ptr a);have s5:aV 4 (bB (jH (bD (eC (.str "guard")) (aa 1) (bD (eC (.str "first")) (eC .non) (bD (eC (.str "rows")) (bB (bx ao)) (bD (eC (.str "number")) (aM (aa 0) (eC (.str "many"))) j7)))))) (E U W none mu1)=some (.nx (E U W V mu3)):=by have sr:=fU (f:=bx ao) (ρ:=E U W none mu1) (ρ1:=E U W none mu1) (p:=.lst []) rfl;rw[show (E U W none mu1).mu.length=r from hr]at sr;have dd:=dZ (f:=eC (.str "guard")) (ρ:=E U W none mu1) rfl (show aa 1 (E U W none mu1)=some (.sh e.pv,E U W none mu1) from rfl) (dZ (f:=eC (.str "first")) rfl (show eC .non (E U W none mu1)=some (.sh .non,E U W none mu1) from rfl) (dZ (f:=eC (.str "rows")) rfl sr (dZ (f:=eC (.str "number")) rfl (q2.get (sl:=(E U W none mu).vs) (i:=0) (k := "many") rfl rfl) (show j7 (E U W none mu2)=some ([],E U W none mu2) from rfl))));have sd:=fU (uU (p:=bz l0) dd rfl (show (4:Nat)<=15 from by decide) rfl);rw[show (E U W none mu2).mu.length=a from ha]at sd;exact cA sd rfl rfl
 have k3:K3 a=.pl (N+1) (bz l0):=fZ;obtain⟨e6,q6⟩:=q3.dset (sl:=(E U W V mu).vs) (fo:=aa 4) (k := "live") (fv:=gB (aM (aa 2) (eC (.str "live"))) (aa 3)) (y:=.sh (.bl (u.live&&T))) k3 (aaM _) (show (4:Nat)<100000 from by decide) (Kc (lv q3 V) rfl) rfl rfl;obtain⟨e7,q7⟩:=q6.dset (sl:=(E U W V mu).vs) (fo:=aa 4) (k := "other") (fv:=gB (aM (aa 2) (eC (.str "live"))) (tU (aa 3))) (y:=.sh (.bl (u.live&&!T))) fZ (aaM _) (show (5:Nat)<100000 from by decide) (Kc (lv q6 V) rfl) rfl rfl;let v:Lv:=⟨a,some (e,none,n,u.live&&!T),r,[],u.live&&T,none⟩;have q8:=q7.w3 (lp':=lp++[u.a]++[a]);have e8:eQ (aM (aa 0) (eC (.str "levels"))) (aa 4) (E U W V _)=some (.nx (E U W V _)):=mZ (o:=.sh (.ptr 3)) (ws0:=wu (lp++[u.a])) (ws:=wu (lp++[u.a])) (ρ1:=E U W V _) (ρ2:=E U W V _) (p:=.ptr a) (q7.get (sl:=(E U W V mu).vs) (i:=0) rfl rfl) rfl (q7.al.at q7.k3) rfl rfl (q7.al.at q7.k3) (by rw[aag,aah]; show lp.length+1<_; omega) rfl;rw[<-zV]at e8;have a7:ub (ub K3 a (.pl (N+1) (bz (cU l0 (.inr "live") (.bl (u.live&&T)))))) a (.pl (N+1) (bz (cU (cU l0 (.inr "live") (.bl (u.live&&T))) (.inr "other") (.bl (u.live&&!T))))) a=.pl (N+1) (bz v.pd):=fZ;have r7:ub (ub K3 a (.pl (N+1) (bz (cU l0 (.inr "live") (.bl (u.live&&T)))))) a (.pl (N+1) (bz (cU (cU l0 (.inr "live") (.bl (u.live&&T))) (.inr "other") (.bl (u.live&&!T))))) r=.row (N+1) []:=nu (nu (nu fZ ar) ar) ar;obtain⟨K9,mu9,e9,q9⟩:=QS.inc (sl:=(E U W V mu).vs) (i:=0) (n:=n) (vs:=v::u::vs) {q8 with sk:=⟨⟨nk a7 q7.k3 (λh=>by injection h with h; exact absurd h (Nat.succ_ne_zero _)),nk r7 q7.k3 (λh=>by cases h),λe c f k o h=>by cases h⟩,q8.sk⟩} rfl;exact⟨K9,mu9,a,r,eG (ρ:=E U W V mu9) (aD s2 (aD s3 (aD s4 (aD s5 (aD e6 (aD e7 (aD e8 e9))))))),q9⟩
end
def Lv.tr (v:Lv):Tr:=match v.hd with
 | some (e,none,_,_)=>.iff e (tl v.ts) .nil
 | some (e,some (_,f),_,_)=>.iff e (tl f) (tl v.ts)
 | none=>.set "" (.num 0)
section
variable {K:Kn} {mu:Mu} {B:Bs} {ms:List cB} {n:Nat} {lp:List Nat} {vs:List Lv} {a r:Nat} {e:Ex} {nn:Nat} {o:Bool} {ts:List Tr} {live:Bool} {la:Option Int}
theorem Vp (q:QS K mu B ms n (lp++[a]) (⟨a,some (e,none,nn,o),r,ts,live,la⟩::vs)):∃K' mu' r',fH [.ptr 5,.bl true] mu=some (.sh .non,mu')/\QS K' mu' B ms n (lp++[a]) (⟨a,some (e,some (r,ts),nn,o),r',[],o,la⟩::vs):=by
 let E:=λl2 l3 mu=>(⟨[zS (.ptr 5),zS (.bl true),l2,l3],mu⟩:Ev);let L:Option Lc:=zS (.ptr a);have s2:aV 2 (aY (aM (aa 0) (eC (.str "levels"))) (gh (eC (.int 1)))) (E none none mu)=some (.nx (E L none mu)):=cA (q.lev rfl) rfl rfl;obtain⟨A,S⟩:=q.sk;let N:=vs.length;have Aa:K a=.pl (N+1) (bz (Lv.pd ⟨a,some (e,none,nn,o),r,ts,live,la⟩)):=A.a;have Ar:K r=.row (N+1) ts:=A.r;have m0:=q.al.at Aa;have t1:tT (aB vy (aM (aa 2) (eC (.str "first"))) (eC .non)) bA (E L none mu)=some (true,E L none mu):=di (l:=.sh (.bl true)) (cW (lH (c:=a) (p:=.non) rfl m0 rfl) rfl rfl rfl rfl) rfl rfl;have q0:QS K mu B ms n (lp++[a]) vs:={q with sk:=S};have q1:=q0.fz Ar (aaM _);have ra:¬ a=r:=λh=>by rw[h,Ar]at Aa; cases Aa
 have a1:ub K r (.fz ts) a=.pl (N+1) (bz (Lv.pd ⟨a,some (e,none,nn,o),r,ts,live,la⟩)):=nu Aa ra;obtain⟨e3,q3⟩:=q1.dset (sl:=(E L none mu).vs) (fo:=aa 2) (k := "first") (fv:=aM (aa 2) (eC (.str "rows"))) (y:=.sh (.ptr r)) a1 (aaM _) Lv.pl (lH (c:=a) rfl m0 Lv.rows) rfl rfl;rw[show cU (Lv.pd ⟨a,some (e,none,nn,o),r,ts,live,la⟩) (.inr "first") (Lc.sh (.ptr r)).pv=Lv.pd ⟨a,some (e,some (r,ts),nn,o),r,ts,live,la⟩ from by cases la<;>rfl]at e3 q3;obtain⟨K3,h3⟩:∃K3,ub (ub K r (.fz ts)) a (.pl (N+1) (bz (Lv.pd ⟨a,some (e,some (r,ts),nn,o),r,ts,live,la⟩)))=K3:=⟨_,rfl⟩;obtain⟨mu3,hm3⟩:∃mu3,mu.set a (some (bz (Lv.pd ⟨a,some (e,some (r,ts),nn,o),r,ts,live,la⟩)))=mu3:=⟨_,rfl⟩;have a3:K3 a=.pl (N+1) (bz (Lv.pd ⟨a,some (e,some (r,ts),nn,o),r,ts,live,la⟩)):=by rw[<-h3]; exact fZ
 have r3:K3 r=.fz ts:=by rw[<-h3]; exact nu fZ λh=>ra h.symm
 rw[show ub (ub K r (.fz ts)) a (.pl (vs.length+1) _)=K3 from h3,hm3]at q3;rw[hm3]at e3;obtain⟨r',hr'⟩:∃r',mu3.length=r':=⟨_,rfl⟩;have q4:QS (ub K3 r' (.row (N+1) [])) (mu3++[some (.lst [])]) B ms n (lp++[a]) vs:=by rw[<-hr'];exact q3.new ⟨[],List.getElem?_concat_length,rfl⟩
 have rn:K3 r'=.no:=q3.al.no _ (Nat.le_of_eq hr');have a4:ub K3 r' (.row (N+1) []) a=.pl (N+1) (bz (Lv.pd ⟨a,some (e,some (r,ts),nn,o),r,ts,live,la⟩)):=(kY (by rw[a3,rn]; intro h; cases h)).trans a3;have sr:=fU (f:=bx ao) (ρ:=E L none mu3) (ρ1:=E L none mu3) (p:=.lst []) rfl;rw[show (E L none mu3).mu.length=r' from hr']at sr;obtain⟨e5,q5⟩:=q4.dset (sl:=(E L none mu).vs) (mu0:=mu3) (fo:=aa 2) (k := "rows") (fv:=bB (bx ao)) (y:=.sh (.ptr r')) a4 (aaM _) Lv.pl sr rfl rfl;rw[show cU (Lv.pd ⟨a,some (e,some (r,ts),nn,o),r,ts,live,la⟩) (.inr "rows") (Lc.sh (.ptr r')).pv=Lv.pd ⟨a,some (e,some (r,ts),nn,o),r',[],live,la⟩ from by cases la<;>rfl]at e5 q5;have m5:=q5.al.at (d:=a) fZ;obtain⟨e6,q6⟩:=q5.dset (sl:=(E L none mu).vs) (fo:=aa 2) (k := "live") (fv:=aM (aa 2) (eC (.str "other"))) (y:=.sh (.bl o)) fZ (aaM _) Lv.pl (lH (c:=a) rfl m5 rfl) rfl rfl;rw[show cU (Lv.pd ⟨a,some (e,some (r,ts),nn,o),r',[],live,la⟩) (.inr "live") (Lc.sh (.bl o)).pv=Lv.pd ⟨a,some (e,some (r,ts),nn,o),r',[],o,la⟩ from by cases la<;>rfl]at e6 q6;have nra:¬ r'=a:=λh=>by rw[h,a3]at rn; cases rn
 have nrr:¬ r=r':=λh=>by rw[<-h,r3]at rn; cases rn
 exact⟨_,_,r',aW (ρ:=E L none _) (aD s2 (gk ((d9 (BX (show tT (aa 1) gW (E L none mu)=some (true,E L none mu) from rfl) t1)).trans (aD e3 (aD e5 (aD e6 rfl)))))),{q6 with sk:=⟨⟨fZ,nu (nu fZ nra) nra,λe1 c f k o h=>by cases h;exact nu (nu (nu r3 nrr) λh=>ra h.symm) λh=>ra h.symm⟩,q6.sk⟩}⟩
theorem Vq {f:Option (Nat×List Tr)} {wi:Bool} {u:Lv} (q:QS K mu B ms n (lp++[u.a]++[a]) (⟨a,some (e,f,nn,o),r,ts,live,la⟩::u::vs)) (hw:wi=false\/f≠none) (hl:u.ts.length<80000):∃K' mu',fH [.ptr 5,.bl wi] mu=some (.sh .non,mu')/\QS K' mu' B ms n (lp++[u.a]) ({u with ts:=u.ts++[Lv.tr ⟨a,some (e,f,nn,o),r,ts,live,la⟩],la:=some (nn:Nat)}::vs):=by
 obtain⟨v,hv⟩:∃v:Lv,v=⟨a,some (e,f,nn,o),r,ts,live,la⟩:=⟨_,rfl⟩;let E:=λl2 l3 mu=>(⟨[zS (.ptr 5),zS (.bl wi),l2,l3],mu⟩:Ev);let L:Option Lc:=zS (.ptr a);let U:Option Lc:=zS (.ptr u.a);have s2:aV 2 (aY (aM (aa 0) (eC (.str "levels"))) (gh (eC (.int 1)))) (E none none mu)=some (.nx (E L none mu)):=cA (q.lev rfl) rfl rfl;rw[<-hv]at q;obtain⟨A,S⟩:=q.sk;let N:=vs.length;have Aa:K a=.pl (N+1+1) (bz v.pd):=by have:=A.a; rw[hv]at this ⊢; exact this
 have Ar:K r=.row (N+1+1) ts:=by have:=A.r; rw[hv]at this; exact this
 have Af:∀c g,f=some (c,g)->K c=.fz g:=λc g h=>A.f e c g nn o (by rw[hv,h]);have vf:bI v.pd (.inr "first")=some (Pz f):=by rw[hv]; rfl
 have vg:bI v.pd (.inr "guard")=some e.pv:=by rw[hv]; rfl
 have vn:bI v.pd (.inr "number")=some (.int (nn:Nat)):=by rw[hv]; rfl
 have vr:bI v.pd (.inr "rows")=some (.ptr r):=by rw[hv]; rfl
 have m0:=q.al.at Aa;have t1:∀l3 mu,mu[a]?=some (some (bz v.pd))->tT (aB vy (aM (aa 2) (eC (.str "first"))) (eC .non)) bA (E L l3 mu)=some (Bc (Pz f),E L l3 mu):=λl3 mu m0=>di (l:=.sh (.bl (Bc (Pz f)))) (cW (lH (c:=a) rfl m0 vf) rfl rfl rfl rfl) rfl rfl;have t2:gG (tT (aa 1) gW) (tT (aB vy (aM (aa 2) (eC (.str "first"))) (eC .non)) bA) (E L none mu)=some (false,E L none mu):=by
  rcases hw with rfl | hw
  . exact HW rfl
  . have:Bc (Pz f)=false:=by
     cases f with
     | none=>exact absurd rfl hw
     | some g=>rfl
    have t1:=t1 none mu m0;rw[this]at t1;cases wi with
    | false=>exact HW rfl
    | true=>exact BX rfl t1
 have q0:QS K mu B ms n (lp++[u.a]++[a]) (u::vs):={q with sk:=S};have q1:=q0.w3 (lp':=lp++[u.a]);have e1:tu (aM (aa 0) (eC (.str "levels"))) (E L none mu)=some (.sh (.ptr a),E L none (mu.set 3 (some (.lst (wu (lp++[u.a])))))):=Do (ρ1:=E L none mu) (o:=.sh (.ptr 3)) (ws:=wu (lp++[u.a])) (p:=.ptr a) (q.get rfl rfl) rfl (by rw[<-zV]; exact q.al.at q.k3) rfl;have a3:¬ a=3:=λh=>by rw[h,q.k3]at Aa; injection Aa with h; exact absurd h.symm (Nat.succ_ne_zero _)
 have r3:¬ r=3:=λh=>by rw[h,q.k3]at Ar; cases Ar
 obtain⟨K1,hK1⟩:∃K1,ub K 3 (.pl 0 (.lst (wu (lp++[u.a]))))=K1:=⟨_,rfl⟩;obtain⟨mu1,hm1⟩:∃mu1,mu.set 3 (some (.lst (wu (lp++[u.a]))))=mu1:=⟨_,rfl⟩;have Aa1:K1 a=.pl (N+1+1) (bz v.pd):=by rw[<-hK1]; exact nu Aa a3
 have Ar1:K1 r=.row (N+1+1) ts:=by rw[<-hK1]; exact nu Ar r3
 have Af1:∀c g,f=some (c,g)->K1 c=.fz g:=λc g h=>by rw[<-hK1]; exact qH (by rw[q.k3]; trivial) (Af c g h)
 rw[hK1,hm1]at q1;rw[hm1]at e1;have s3:aV 3 (aY (aM (aa 0) (eC (.str "levels"))) (gh (eC (.int 1)))) (E L none mu1)=some (.nx (E L U mu1)):=cA (q1.lev rfl) rfl rfl;have q2:=q1.fz Ar1 (aaM _);obtain⟨K2,hK2⟩:∃K2,ub K1 r (.fz ts)=K2:=⟨_,rfl⟩;have Aa2:K2 a=.pl (N+1+1) (bz v.pd):=by rw[<-hK2]; exact(kY (by rw[Aa1,Ar1]; intro h; cases h)).trans Aa1
 have Ar2:K2 r=.fz ts:=by rw[<-hK2]; exact fZ
 have Af2:∀c g,f=some (c,g)->K2 c=.fz g:=λc g h=>by rw[<-hK2]; exact qH (by rw[Ar1]; trivial) (Af1 c g h)
 rw[hK2]at q2;obtain⟨D,S2⟩:=q2.sk;have q2':QS K2 mu1 B ms n (lp++[u.a]) vs:={q2 with sk:=S2};obtain⟨ps0,h0⟩:=q2'.row D.r;have g2:∀{k p},bI v.pd (.inr k)=some p->aM (aa 2) (eC (.str k)) (E L U mu1)=some (.sh p,E L U mu1):=λh=>lH (c:=a) rfl (q2.al.at Aa2) h;have ur:aM (aa 3) (eC (.str "rows")) (E L U mu1)=some (.sh (.ptr u.r),E L U mu1):=lH (c:=u.a) rfl (q2.al.at D.a) Lv.rows;obtain⟨K3,mu3,e3,q3,A3,D3⟩:∃K3 mu3,cO (tT (aB vy (aM (aa 2) (eC (.str "first"))) (eC .non)) bA)
  (eQ (aM (aa 3) (eC (.str "rows"))) (bG (aj (eC (.str "if")) (aj (aM (aa 2) (eC (.str "guard"))) (aj (aM (aa 2) (eC (.str "rows"))) (aj (bB (bx ao)) ao))))))
  (eQ (aM (aa 3) (eC (.str "rows"))) (bG (aj (eC (.str "if")) (aj (aM (aa 2) (eC (.str "guard"))) (aj (aM (aa 2) (eC (.str "first"))) (aj (aM (aa 2) (eC (.str "rows"))) ao)))))) (E L U mu1)=some (.nx (E L U mu3))/\QS (ub K3 u.r (.row (N+1) (u.ts++[v.tr]))) mu3 B ms n (lp++[u.a]) vs/\K3 a=.pl (N+1+1) (bz v.pd)/\At K3 N u:=by
  have t1:=t1 U mu1 (q2.al.at Aa2);cases f with
  | none=>
   obtain⟨c,hc⟩:∃c,mu1.length=c:=⟨_,rfl⟩;have q4:QS (ub K2 c (.fz [])) (mu1++[some (.lst [])]) B ms n (lp++[u.a]) vs:=by rw[<-hc];exact q2'.new ⟨[],List.getElem?_concat_length,rfl⟩
   have cn:K2 c=.no:=q2.al.no _ (Nat.le_of_eq hc);have sr:=fU (f:=bx ao) (ρ:=E L U mu1) (ρ1:=E L U mu1) (p:=.lst []) rfl;rw[show (E L U mu1).mu.length=c from hc]at sr;have D4:At (ub K2 c (.fz [])) N u:=D.up (by rw[cn]; trivial);have tp:Cj (ub K2 c (.fz [])) v.tr (.tup [.str "if",e.pv,.ptr r,.ptr c]):=by rw[hv];exact⟨r,c,ts,[],rfl,qH (by rw[cn]; trivial) Ar2,fZ,rfl,rfl⟩
   obtain⟨mu3,e3,q3⟩:=q4.rapp (sl:=(E L U mu).vs) (mu0:=mu1) (y:=.sh (.tup [.str "if",e.pv,.ptr r,.ptr c])) (fo:=aM (aa 3) (eC (.str "rows"))) (fv:=bG (aj (eC (.str "if")) (aj (aM (aa 2) (eC (.str "guard"))) (aj (aM (aa 2) (eC (.str "rows"))) (aj (bB (bx ao)) ao))))) (t:=v.tr) D4.r (aaM _) (by omega) ur h0 (gb (ls:=[.sh (.str "if"),.sh e.pv,.sh (.ptr r),.sh (.ptr c)]) (aA rfl (aA (g2 vg) (aA (g2 vr) (aA sr rfl)))) rfl rfl) rfl tp;exact⟨_,mu3,(d9 t1).trans e3,q3,(kY (by rw[Aa2,cn]; intro h; cases h)).trans Aa2,D4⟩
  | some g=>
   obtain⟨c,g⟩:=g;have tp:Cj K2 v.tr (.tup [.str "if",e.pv,.ptr c,.ptr r]):=by rw[hv];exact⟨c,r,g,ts,rfl,Af2 c g rfl,Ar2,rfl,rfl⟩
   obtain⟨mu3,e3,q3⟩:=q2'.rapp (sl:=(E L U mu).vs) (mu0:=mu1) (y:=.sh (.tup [.str "if",e.pv,.ptr c,.ptr r])) (fo:=aM (aa 3) (eC (.str "rows"))) (fv:=bG (aj (eC (.str "if")) (aj (aM (aa 2) (eC (.str "guard"))) (aj (aM (aa 2) (eC (.str "first"))) (aj (aM (aa 2) (eC (.str "rows"))) ao))))) (t:=v.tr) D.r (aaM _) (by omega) ur h0 (gb (ls:=[.sh (.str "if"),.sh e.pv,.sh (.ptr c),.sh (.ptr r)]) (aA rfl (aA (g2 vg) (aA (g2 vf) (aA (g2 vr) rfl)))) rfl rfl) rfl tp;exact⟨_,mu3,(cL t1).trans e3,q3,Aa2,D⟩
 have ua:ub K3 u.r (.row (N+1) (u.ts++[v.tr])) u.a=.pl (N+1) (bz u.pd):=(kY (by rw[D3.a,D3.r]; intro h; cases h)).trans D3.a;have va:ub K3 u.r (.row (N+1) (u.ts++[v.tr])) a=.pl (N+1+1) (bz v.pd):=(kY (by rw[A3,D3.r]; intro h; cases h)).trans A3;obtain⟨e4,q4⟩:=q3.dset (sl:=(E L U mu).vs) (fo:=aa 3) (k := "last") (fv:=aM (aa 2) (eC (.str "number"))) (y:=.sh (.int (nn:Nat))) ua (aaM _) Lv.pl (lH (c:=a) rfl (q3.al.at va) vn) rfl rfl;rw[show cU u.pd (.inr "last") (Lc.sh (.int (nn:Nat))).pv=_ from Lv.last]at e4 q4;rw[<-hv];exact⟨_,_,eG (ρ:=E L U _) (aD s2 (aD (ρ':=E L none mu) ((cL t2).trans rfl) (aD (fQ e1) (aD s3 (aD e3 e4))))),{q4 with sk:=⟨D3.tr,q4.sk⟩}⟩
end
theorem v4:∀(ts:List Tr) (t:Tr) (k:Nat) (B:Bs),(tl (ts++[t])).sem k B=(((tl ts).sem k B).1++(t.sem (k+(tl ts).rows.cnt) ((tl ts).sem k B).2).1,(t.sem (k+(tl ts).rows.cnt) ((tl ts).sem k B).2).2)
 | [],t,k,B=>by show ((t.sem k B).1++[],(t.sem k B).2)=([]++(t.sem k B).1,(t.sem k B).2);rw[aau,abg]
 | r::ts,t,k,B=>by have ih:=v4 ts t (k+r.row.cnt) (r.sem k B).2;show ((r.sem k B).1++((tl (ts++[t])).sem (k+r.row.cnt) (r.sem k B).2).1,((tl (ts++[t])).sem (k+r.row.cnt) (r.sem k B).2).2)=(((r.sem k B).1++((tl ts).sem (k+r.row.cnt) (r.sem k B).2).1)++(t.sem (k+(r.row.cnt+(tl ts).rows.cnt)) ((tl ts).sem (k+r.row.cnt) (r.sem k B).2).2).1,(t.sem (k+(r.row.cnt+(tl ts).rows.cnt)) ((tl ts).sem (k+r.row.cnt) (r.sem k B).2).2).2);rw[ih,aai,ab1]
theorem v5:∀(ts:List Tr) (t:Tr),(tl (ts++[t])).rows.cnt=(tl ts).rows.cnt+t.row.cnt
 | [],t=>by show t.row.cnt+0=0+t.row.cnt; omega
 | r::ts,t=>by show r.row.cnt+(tl (ts++[t])).rows.cnt=r.row.cnt+(tl ts).rows.cnt+t.row.cnt;rw[v5 ts t,ab1]
theorem Ey:∀(ts:List Tr) (t:Tr) (i:Nat),((tl (ts++[t])).rows.nums i).getLast?=some (i+(tl ts).rows.cnt)
 | [],t,i=>rfl
 | [r],t,i=>by show (i::(i+r.row.cnt)::[]).getLast?=some (i+(r.row.cnt+0));rfl
 | r::s::ts,t,i=>by have ih:=Ey (s::ts) t (i+r.row.cnt);show (i::(tl (s::ts++[t])).rows.nums (i+r.row.cnt)).getLast?=some (i+(r.row.cnt+(tl (s::ts)).rows.cnt));rw[<-ab1,<-ih];show (i::(i+r.row.cnt)::_).getLast?=((i+r.row.cnt)::_).getLast?;rw[List.getLast?_cons_cons]
def Zn:Option (Nat×List Tr)->Int->Bool
 | none,z=>!(z==0)
 | some _,z=>z==0
def tO (B0:Bs):List Lv->Nat->Bs->List cB->Prop
 | [],_,_,_=>False
 | [v],k,B,ms=>v.hd=none/\v.live=true/\k=(tl v.ts).rows.cnt/\(tl v.ts).sem 0 B0=(ms,B)/\v.la=((tl v.ts).rows.nums 0).getLast?.map λ(i:Nat)=>(i:Int)
 | v::u::vs,k,B,ms=>∃e f o k1 B1 ms1,v.hd=some (e,f,k1,o)/\tO B0 (u::vs) k1 B1 ms1/\k=k1+v.tr.row.cnt/\B=(if u.live=true then (v.tr.sem k1 B1).2 else B1)/\ms=(if u.live=true then ms1++(v.tr.sem k1 B1).1 else ms1)/\v.live=(u.live&&Zn f (ev B1 e))/\(f=none->o=(u.live&&(ev B1 e==0)))
section
variable {B0 B:Bs} {u v:Lv} {vs:List Lv} {k:Nat} {ms:List cB} {t:Tr}
theorem Ck {e:Ex} {b c:jU} (h:ev B e=0):(Tr.iff e b c).sem k B=(((k:Int),0,[])::(c.sem (k+1+b.rows.cnt) B).1,(c.sem (k+1+b.rows.cnt) B).2):=by unfold Tr.sem; rw[aca h]
theorem Cm {e:Ex} {b c:jU} (h:¬ ev B e=0):(Tr.iff e b c).sem k B=(((k:Int),0,[])::(b.sem (k+1) B).1,(b.sem (k+1) B).2):=by unfold Tr.sem; rw[acb h]
theorem tO.app (h:tO B0 (u::vs) k B ms):tO B0 ({u with ts:=u.ts++[t],la:=some (k:Int)}::vs) (k+t.row.cnt) (if u.live=true then (t.sem k B).2 else B) (if u.live=true then ms++(t.sem k B).1 else ms):=by
 cases vs with
 | nil=>
  obtain⟨h1,h2,h3,h4,h5⟩:=h;refine⟨h1,h2,?_,?_,?_⟩
  . rw[v5,h3]
  . rw[aca h2,aca h2,v4,h4,Nat.zero_add,<-h3]
  . rw[Ey,Nat.zero_add,<-h3];rfl
 | cons w vs=>
  obtain⟨ua,uh,ur,uts,ul,ula⟩:=u;obtain⟨e,f,o,k1,B1,ms1,h1,h2,h3,h4,h5,h6,h7⟩:=h;have h1:uh=some (e,f,k1,o):=h1;subst h1;have h6:ul=(w.live&&Zn f (ev B1 e)):=h6;have ec:(Lv.tr ⟨ua,some (e,f,k1,o),ur,uts++[t],ul,some (k:Int)⟩).row.cnt=(Lv.tr ⟨ua,some (e,f,k1,o),ur,uts,ul,ula⟩).row.cnt+t.row.cnt:=by
   cases f with
   | none=>
    show (tl (uts++[t])).rows.cnt+0+1=(tl uts).rows.cnt+0+1+t.row.cnt;rw[v5];omega
   | some g=>
    show (tl g.2).rows.cnt+(tl (uts++[t])).rows.cnt+1=(tl g.2).rows.cnt+(tl uts).rows.cnt+1+t.row.cnt;rw[v5];omega
  suffices hh:(if ul=true then (t.sem k B).2 else B)=(if w.live=true then ((Lv.tr ⟨ua,some (e,f,k1,o),ur,uts++[t],ul,some (k:Int)⟩).sem k1 B1).2 else B1)/\(if ul=true then ms++(t.sem k B).1 else ms)=(if w.live=true then ms1++((Lv.tr ⟨ua,some (e,f,k1,o),ur,uts++[t],ul,some (k:Int)⟩).sem k1 B1).1 else ms1) from ⟨e,f,o,k1,B1,ms1,rfl,h2,by rw[ec,h3]; omega,hh.1,hh.2,h6,h7⟩;cases hw:w.live with
  | false=>
   rw[hw]at h4 h5 h6;have h6:ul=false:=h6;subst h6;exact⟨h4,h5⟩
  | true=>
   rw[hw]at h4 h5 h6;rw[aca rfl]at h4 h5;rw[aca rfl,aca rfl];by_cases hz:ev B1 e=0
   . cases f with
     | none=>
      have h6:ul=false:=by rw[h6]; show (true&&!(ev B1 e==0))=false; rw[hz]; rfl
      subst h6;rw[show (Lv.tr ⟨ua,some (e,none,k1,o),ur,uts,false,ula⟩).sem k1 B1=_ from Ck hz]at h4 h5;rw[show (Lv.tr ⟨ua,some (e,none,k1,o),ur,uts++[t],false,some (k:Int)⟩).sem k1 B1=_ from Ck hz];exact⟨h4,h5⟩
     | some g=>
      have h6:ul=true:=by rw[h6]; show (true&&(ev B1 e==0))=true; rw[hz]; rfl
      subst h6;have h3:k=k1+((tl g.2).rows.cnt+(tl uts).rows.cnt+1):=h3;have e3:k1+1+(tl g.2).rows.cnt+(tl uts).rows.cnt=k:=by omega
      rw[show (Lv.tr ⟨ua,some (e,some g,k1,o),ur,uts,true,ula⟩).sem k1 B1=_ from Ck hz]at h4 h5;rw[show (Lv.tr ⟨ua,some (e,some g,k1,o),ur,uts++[t],true,some (k:Int)⟩).sem k1 B1=_ from Ck hz,v4,e3];refine⟨by rw[aca rfl,h4],?_⟩;rw[aca rfl,h5,h4,aai];rfl
   . cases f with
     | none=>
      have h6:ul=true:=by rw[h6]; show (true&&!(ev B1 e==0))=true; rw[acg.mpr hz]; rfl
      subst h6;have h3:k=k1+((tl uts).rows.cnt+0+1):=h3;have e3:k1+1+(tl uts).rows.cnt=k:=by omega
      rw[show (Lv.tr ⟨ua,some (e,none,k1,o),ur,uts,true,ula⟩).sem k1 B1=_ from Cm hz]at h4 h5;rw[show (Lv.tr ⟨ua,some (e,none,k1,o),ur,uts++[t],true,some (k:Int)⟩).sem k1 B1=_ from Cm hz,v4,e3];refine⟨by rw[aca rfl,h4],?_⟩;rw[aca rfl,h5,h4,aai];rfl
     | some g=>
      have h6:ul=false:=by rw[h6]; show (true&&(ev B1 e==0))=false; rw[acg.mpr hz]; rfl
      subst h6;rw[show (Lv.tr ⟨ua,some (e,some g,k1,o),ur,uts,false,ula⟩).sem k1 B1=_ from Cm hz]at h4 h5;rw[show (Lv.tr ⟨ua,some (e,some g,k1,o),ur,uts++[t],false,some (k:Int)⟩).sem k1 B1=_ from Cm hz];exact⟨h4,h5⟩
theorem tO.op {a r:Nat} {e:Ex} (h:tO B0 (u::vs) k B ms):tO B0 (⟨a,some (e,none,k,u.live&&!(!(ev B e==0))),r,[],u.live&&!(ev B e==0),none⟩::u::vs) (k+1) B (if u.live=true then ms++[((k:Int),0,[])] else ms):=by
 have es:(Tr.iff e .nil .nil).sem k B=([((k:Int),0,[])],B):=by
  by_cases hz:ev B e=0
  . rw[Ck hz]; rfl
  . rw[Cm hz]; rfl
 refine⟨e,none,_,k,B,ms,rfl,h,rfl,?_,?_,rfl,λ_=>by rw[Bool.not_not]⟩
 . show B=if u.live=true then ((Tr.iff e .nil .nil).sem k B).2 else B
   rw[es];split<;>rfl
 . show _=if u.live=true then ms++((Tr.iff e .nil .nil).sem k B).1 else ms
   rw[es]
theorem tO.el {a r r' nn:Nat} {e:Ex} {o live:Bool} {ts:List Tr} {la:Option Int} (h:tO B0 (⟨a,some (e,none,nn,o),r,ts,live,la⟩::u::vs) k B ms):tO B0 (⟨a,some (e,some (r,ts),nn,o),r',[],o,la⟩::u::vs) k B ms:=by obtain⟨e',f,o',k1,B1,ms1,h1,h2,h3,h4,h5,h6,h7⟩:=h;cases h1;exact⟨_,_,_,_,B1,ms1,rfl,h2,h3,h4,h5,h7 rfl,λh=>by cases h⟩
theorem tO.sh {e:Ex} {f:Option (Nat×List Tr)} {nn:Nat} {o:Bool} (hd:v.hd=some (e,f,nn,o)) (h:tO B0 (v::u::vs) k B ms):tO B0 ({u with ts:=u.ts++[v.tr],la:=some (nn:Int)}::vs) k B ms:=by obtain⟨e',f',o',k1,B1,ms1,h1,h2,h3,h4,h5,h6,h7⟩:=h;rw[hd]at h1;cases h1;rw[h3,h4,h5];exact h2.app
end
def TO (nm:List Str) (d:Nat) (t:Tr):Prop:=t.ok nm/\t.row.ok/\t.row.dep<=d
def Wf (nm:List Str) (j:Nat):List Lv->Prop
 | []=>True
 | v::vs=>(∀t∈v.ts,TO nm (9-2*vs.length) t)/\v.ts.length<=j/\(∀e f k o,v.hd=some (e,f,k,o)->e.okN nm/\fl e.pv/\∀c g,f=some (c,g)->∀t∈g,TO nm (9-2*vs.length) t)/\Wf nm j vs
theorem Wf.up {nm:List Str} {j:Nat}:∀{vs:List Lv},Wf nm j vs->Wf nm (j+1) vs
 | [],_=>trivial
 | _::_,⟨h1,h2,h3,h4⟩=>⟨h1,by omega,h3,h4.up⟩
theorem Cp {nm:List Str} {d:Nat}:∀{ts:List Tr},(∀t∈ts,TO nm d t)->(tl ts).ok nm/\(tl ts).rows.ok/\(tl ts).rows.dep<=d+1
 | [],_=>⟨trivial,trivial,by show 1<=d+1; omega⟩
 | t::ts,h=>by obtain⟨a,b,c⟩:=Cp λt ht=>h t (aak _ ht);obtain⟨x,y,z⟩:=h t aac;exact⟨⟨x,a⟩,⟨y,b⟩,by show max (t.row.dep+1) (tl ts).rows.dep<=d+1; omega⟩
theorem Wf.tr {nm:List Str} {j:Nat} {v:Lv} {vs:List Lv} {e:Ex} {f:Option (Nat×List Tr)} {nn:Nat} {o:Bool} (hd:v.hd=some (e,f,nn,o)) (h:Wf nm j (v::vs)):TO nm (9-2*vs.length+2) v.tr:=by
 obtain⟨a,hd',r,ts,live,la⟩:=v;have hd:hd'=some (e,f,nn,o):=hd;subst hd;obtain⟨h1,h2,h3,h4⟩:=h;obtain⟨g1,g2,g3⟩:=h3 _ _ _ _ rfl;obtain⟨t1,t2,t3⟩:=Cp h1;have t3:(tl ts).rows.dep<=9-2*vs.length+1:=t3;cases f with
 | none=>exact⟨⟨g1,t1,trivial⟩,⟨g2,t2,trivial⟩,by show max (tl ts).rows.dep 1+1<=_; omega⟩
 | some g=>
  obtain⟨s1,s2,s3⟩:=Cp (g3 g.1 g.2 rfl);exact⟨⟨g1,s1,t1⟩,⟨g2,s2,t2⟩,by show max (tl g.2).rows.dep (tl ts).rows.dep+1<=_; omega⟩
theorem Wf.add {nm:List Str} {j:Nat} {v:Lv} {vs:List Lv} {t:Tr} {la:Option Int} (h:Wf nm j (v::vs)) (ht:TO nm (9-2*vs.length) t):Wf nm (j+1) ({v with ts:=v.ts++[t],la:=la}::vs):=by
 obtain⟨h1,h2,h3,h4⟩:=h;refine⟨λs hs=>?_,?_,h3,h4.up⟩
 . rcases aaC.mp hs with q | q
   . exact h1 s q
   . rw[aa3.mp q]; exact ht
 . show (v.ts++[t]).length<=j+1;rw[aah];exact Nat.add_le_add_right h2 1
abbrev uv (B:Bs):Prop:=∀q∈B,∃i,q.2=.n i
theorem Yg {B:Bs} {x:Str} {v:Int} (h:uv B):uv (setB B x (.n v)):=λq hq=>by
 obtain⟨p,hp,e⟩:=aaH.mp hq;by_cases c:p.1=x
 . rw[aca c]at e; exact⟨v,by rw[<-e]⟩
 . rw[acb c]at e; rw[<-e]; exact h p hp
theorem Yh {s:Str} {p q:PV} (hp:fl p) (hq:fl q) (h1:Eo p<=10) (h2:Eo q<=10):fl (.tup [.str s,p,q]):=by obtain⟨a1,a2⟩:=sy O2 (sy hp (sy hq JQ));refine⟨a1,?_⟩;show max 1 (max (Eo p) (max (Eo q) 0))+1<=20;omega
theorem PJ {x:Str}:fl (Ex.box x).pv:=⟨rfl,Nat.le_of_ble_eq_true rfl⟩
theorem PK {i:Int}:fl (Ex.num i).pv:=⟨rfl,Nat.le_of_ble_eq_true rfl⟩
theorem Ga {e:Ex} (h:Lf e):fl e.pv/\Eo e.pv<=10:=by
 cases e with
 | num i=>exact⟨PK,Nat.le_of_ble_eq_true rfl⟩
 | box x=>exact⟨PJ,Nat.le_of_ble_eq_true rfl⟩
 | at_ x e=>exact h.elim
 | op s x y=>exact h.elim
theorem Tj {e:Ex} (h:E2 e):fl e.pv:=by
 cases e with
 | num i=>exact PK
 | box x=>exact PJ
 | at_ x e=>exact h.elim
 | op s x y=>exact Yh (Ga h.2.1).1 (Ga h.2.2).1 (Ga h.2.1).2 (Ga h.2.2).2
def Ik:List Lv->List Nat
 | []=>[]
 | v::vs=>Ik vs++[v.a]
theorem Dv:∀vs:List Lv,(Ik vs).length=vs.length
 | []=>rfl
 | v::vs=>by show (Ik vs++[v.a]).length=_; rw[aah,Dv vs]; rfl
structure St (nm:List Str) (B0:Bs) (j:Nat) (K:Kn) (mu:Mu) (vs:List Lv) (k:Nat) (B:Bs) (ms:List cB):Prop where
 q:QS K mu B ms k (Ik vs) vs
 iv:tO B0 vs k B ms
 wf:Wf nm j vs
 bk:BK nm B
 an:uv B
 na:B.map (·.1)=B0.map (·.1)
 ln:vs.length<=5
 kj:k<=j
 mj:ms.length<=2*j
 ev:∀m∈ms,m.2.2.length<=1
def SX (nm:List Str) (B0:Bs) (j:Nat) (mu:Mu) (L:Nat):Prop:=∃K vs k B ms,St nm B0 j K mu vs k B ms/\vs.length=L
section
variable {nm:List Str} {B0 B:Bs} {j k L:Nat} {K:Kn} {mu:Mu} {vs:List Lv} {ms:List cB}
theorem Yi {x:Str} {e:Ex} (h:SX nm B0 j mu (L+1)) (hx:x∈nm) (he:e.okN nm) (h2:E2 e) (hj:j<=100):∃mu',lL [.ptr 5,.str x,e.pv] mu=some (.sh .non,mu')/\SX nm B0 (j+1) mu' (L+1):=by
 obtain⟨K,vs,k,B,ms,S,hl⟩:=h;cases vs with
 | nil=>cases hl
 | cons v vs=>
  have mj:=S.mj;have w2:=S.wf.2.1;obtain⟨K',mu',e1,q1⟩:=Ye S.q S.bk hx he h2 (by omega) (by omega);refine⟨mu',e1,K',{v with ts:=v.ts++[.set x e],la:=some (k:Int)}::vs,_,_,_,⟨q1,S.iv.app (t:=.set x e),S.wf.add ⟨⟨hx,he⟩,⟨⟨by decide +kernel,by decide +kernel,by decide +kernel⟩,sy O2 (sy (Tj h2) JQ)⟩,?_⟩,?_,?_,?_,S.ln,Nat.succ_le_succ S.kj,?_,?_⟩,hl⟩
  . show 1<=9-2*vs.length;have:=S.ln;rw[aae]at this;omega
  . split
    . exact S.bk.set hx he
    . exact S.bk
  . split
    . exact Yg S.an
    . exact S.an
  . split
    . exact Oz.trans S.na
    . exact S.na
  . split
    . rw[aah];show ms.length+2<=_;omega
    . omega
  . split
    . intro m hm;rcases aaC.mp hm with q | q
      . exact S.ev m q
      . rcases aaj.mp (show m∈[((k:Int),(0:Int),([]:List oF)),((k:Int),1,[(x,0,ev B e)])] from q) with rfl | q
        . exact aa2 _
        . rw[aa3.mp q]; exact aaf _
    . exact S.ev
theorem Vr {e:Ex} (h:SX nm B0 j mu (L+1)) (he:e.okN nm) (h2:E2 e) (hj:j<=100) (hL:L+1<5):∃mu',j0 [.ptr 5,e.pv] mu=some (.sh .non,mu')/\SX nm B0 (j+1) mu' (L+1+1):=by
 obtain⟨K,vs,k,B,ms,S,hl⟩:=h;cases vs with
 | nil=>cases hl
 | cons v vs=>
  have mj:=S.mj;have ln:=S.ln;have hv:vs.length=L:=aby hl;obtain⟨K',mu',a,r,e1,q1⟩:=Vo (nm:=nm) S.q S.bk he h2 (by rw[Dv]; omega) (by omega);refine⟨mu',e1,K',⟨a,some (e,none,k,v.live&&!(!(ev B e==0))),r,[],v.live&&!(ev B e==0),none⟩::v::vs,_,_,_,⟨q1,S.iv.op,⟨(λt ht=>by cases ht),aa2 _,λe' f k o h=>?_,S.wf.up⟩,S.bk,S.an,S.na,?_,Nat.succ_le_succ S.kj,?_,?_⟩,?_⟩
  . cases h;exact⟨he,Tj h2,λc g h=>by cases h⟩
  . rw[aae,aae]; omega
  . split
    . rw[aah];show ms.length+1<=_;omega
    . omega
  . split
    . intro m hm;rcases aaC.mp hm with q | q
      . exact S.ev m q
      . rw[aa3.mp q]; exact aa2 _
    . exact S.ev
  . rw[aae,aae,hv]
theorem RM {α:Type} {vs:List α} {L:Nat} (h:vs.length=L+1+1):∃v u w,vs=v::u::w:=by
 cases vs with
 | nil=>cases h
 | cons v vs=>
  cases vs with
  | nil=>cases h
  | cons u w=>exact⟨v,u,w,rfl⟩
theorem Ke {w:Bool} (h:SX nm B0 j mu (L+1+1)) (hj:j<=100):∃mu',fH [.ptr 5,.bl w] mu=some (.sh .non,mu')/\((w=true/\SX nm B0 (j+1) mu' (L+1+1))\/SX nm B0 (j+1) mu' (L+1)):=by
 obtain⟨K,vs,k,B,ms,S,hl⟩:=h;obtain⟨v,u,vs,rfl⟩:=RM hl;have hv:vs.length=L:=aby (aby hl);have ln:=S.ln;rw[aae,aae]at ln;have mj:=S.mj;have kj:=S.kj;obtain⟨e,f,o,k1,B1,ms1,h1,_⟩:=S.iv;obtain⟨a,hd,r,ts,live,la⟩:=v;have h1:hd=some (e,f,k1,o):=h1;subst h1;by_cases hw:w=false\/f≠none
 . have w2:=S.wf.2.2.2.2.1;obtain⟨K',mu',e1,q1⟩:=Vq S.q hw (by omega);have tr:=S.wf.tr (e:=e) (f:=f) (nn:=k1) (o:=o) rfl;rw[aae,show 9-2*(vs.length+1)+2=9-2*vs.length from by omega]at tr;exact⟨mu',e1,.inr ⟨K',{u with ts:=u.ts++[Lv.tr ⟨a,some (e,f,k1,o),r,ts,live,la⟩],la:=some (k1:Int)}::vs,k,B,ms,⟨q1,S.iv.sh rfl,S.wf.2.2.2.add tr,S.bk,S.an,S.na,by rw[aae]; omega,by omega,by omega,S.ev⟩,by rw[aae,hv]⟩⟩
 . have hf:f=none:=by
    cases f with
    | none=>rfl
    | some g=>exact absurd (.inr λh=>by cases h) hw
   subst hf;have hw:w=true:=by
    cases w with
    | true=>rfl
    | false=>exact absurd (.inl rfl) hw
   subst hw;obtain⟨K',mu',r',e1,q1⟩:=Vp S.q;obtain⟨w1,w2,w3,w4⟩:=S.wf;obtain⟨g1,g2,_⟩:=w3 _ _ _ _ rfl;refine⟨mu',e1,.inl ⟨rfl,K',⟨a,some (e,some (r,ts),k1,o),r',[],o,la⟩::u::vs,k,B,ms,⟨q1,S.iv.el,⟨(λt ht=>by cases ht),aa2 _,λe' f' k' o' h=>?_,w4.up⟩,S.bk,S.an,S.na,S.ln,by omega,by omega,S.ev⟩,hl⟩⟩;cases h;exact⟨g1,g2,λc g h=>(by cases h; exact w1)⟩
end
abbrev Yj:SF:=(aK (aV 5 (aJ cT (aj (aa 0) (aj (aB eX (eC (.int 4)) (aa 4)) ao)))) (aK (aV 6 (aB cI (aa 5) (eC (.int 7)))) (cO (gG (tT (aB oA (aa 6) (eC (.int 2))) bA) (tT (aB oA (gm (aM (aa 3) (eC (.str "levels")))) (eC (.int 5))) bA)) (dC (aJ j0 (aj (aa 3) (aj (aJ dH (aj (aB dM (aa 5) (eC (.int 7))) (aj (aa 1) ao))) ao)))) (cO (gG (tT (aB qe (aa 6) (eC (.int 3))) bA) (tT (aB qe (gm (aM (aa 3) (eC (.str "levels")))) (eC (.int 1))) bA)) (dC (aJ fH (aj (aa 3) (aj (aB qe (aa 6) (eC (.int 4))) ao)))) (dC (aJ lL (aj (aa 3) (aj (bH (aa 1) (aB cI (aB dM (aa 5) (eC (.int 7))) (eC (.int 3)))) (aj (aJ dH (aj (aB dM (aa 5) (eC (.int 21))) (aj (aa 1) ao))) ao)))))))))
abbrev LA (S N:PV) (l3 l4 l5 l6:Option Lc) (mu:Mu):Ev:=⟨[zS S,zS N,zS (.ptr 0),l3,l4,l5,l6],mu⟩
abbrev P5:Option Lc:=zS (.ptr 5)
section
variable {nm:List Str} {B0:Bs} {j L:Nat} {mu:Mu} {S:PV} {a b c:Str} {l4 l5 l6:Option Lc}
theorem SX.len (h:SX nm B0 j mu L) {N:PV}:gm (aM (aa 3) (eC (.str "levels"))) (LA S N P5 l4 l5 l6 mu)=some (.sh (.int (L:Nat)),LA S N P5 l4 l5 l6 mu):=by obtain⟨K,vs,k,B,ms,s,rfl⟩:=h;have e:=U8 (f:=aM (aa 3) (eC (.str "levels"))) (l:=.sh (.ptr 3)) (ρ:=LA S N P5 l4 l5 l6 mu) (s.q.get rfl rfl) rfl (s.q.al.at s.q.k3);rw[aag,Dv]at e;exact e
theorem Vt {ns:List Int} (hn:ns.length<=63) (hS:S=.lst (ns.map .int)) {i:Nat} (hi:i<=40) (h:SX [a,b,c] B0 j mu (L+1)) (hj:j<=100):∃p5 p6 mu' L',Yj (LA S (N3 a b c) P5 (zI (i:Nat)) l5 l6 mu)=some (.nx (LA S (N3 a b c) P5 (zI (i:Nat)) p5 p6 mu'))/\SX [a,b,c] B0 (j+1) mu' (L'+1):=by
 obtain⟨C,c0,c1,ec⟩:=cell_eq (ns:=ns) (k:=4+(i:Nat)) hn (by omega) (by omega);rw[<-hS]at ec;let I:Option Lc:=zI (i:Nat);let E:=λl5 l6 mu=>LA S (N3 a b c) P5 I l5 l6 mu;let Cc:Option Lc:=zI C;obtain⟨w,hw⟩:∃w,C%7=w:=⟨_,rfl⟩;let Wc:Option Lc:=zI w;have s5:(aV 5 (aJ cT (aj (aa 0) (aj (aB eX (eC (.int 4)) (aa 4)) ao)))) (E l5 l6 mu)=some (.nx (E Cc l6 mu)):=cA (aU (ls:=[.sh S,.sh (.int (4+(i:Nat)))]) (ρ1:=E l5 l6 mu) rfl rfl rfl rfl (ec mu)) rfl rfl;have s6:(aV 6 (aB cI (aa 5) (eC (.int 7)))) (E Cc l6 mu)=some (.nx (E Cc Wc mu)):=cA (l:=.sh (.int w)) (by rw[<-hw]; exact mF (c:=C) rfl (by decide)) rfl rfl;have t1:(gG (tT (aB oA (aa 6) (eC (.int 2))) bA) (tT (aB oA (gm (aM (aa 3) (eC (.str "levels")))) (eC (.int 5))) bA)) (E Cc Wc mu)=some (decide (w<2)&&decide (((L+1:Nat):Int)<5),E Cc Wc mu):=Hb (di (l:=.sh (.bl (decide (w<2)))) (cW rfl rfl rfl rfl rfl) rfl rfl) (di (l:=.sh (.bl (decide (((L+1:Nat):Int)<5)))) (cW h.len rfl rfl rfl rfl) rfl rfl);have t2:(gG (tT (aB qe (aa 6) (eC (.int 3))) bA) (tT (aB qe (gm (aM (aa 3) (eC (.str "levels")))) (eC (.int 1))) bA)) (E Cc Wc mu)=some (decide (w>3)&&decide (((L+1:Nat):Int)>1),E Cc Wc mu):=Hb (di (l:=.sh (.bl (decide (w>3)))) (cW rfl rfl rfl rfl rfl) rfl rfl) (di (l:=.sh (.bl (decide (((L+1:Nat):Int)>1)))) (cW h.len rfl rfl rfl rfl) rfl rfl);have dq:∀d:Int,0<d->d<1000->aB dM (aa 5) (eC (.int d)) (E Cc Wc mu)=some (.sh (.int (C/d)),E Cc Wc mu):=λd h1 h2=>cW rfl rfl rfl rfl (mY h1 (by omega));by_cases g1:(decide (w<2)&&decide (((L+1:Nat):Int)<5))=true
 . rw[g1]at t1;rw[abz]at g1;have g:=of_decide_eq_true g1.2;obtain⟨e,he2,heo,he⟩:=J9 (a:=a) (b:=b) (c:=c) (C/7);obtain⟨mu',e1,h1⟩:=Vr h heo he2 hj (by omega);exact⟨Cc,Wc,mu',L+1,aD s5 (aD s6 ((d9 t1).trans (fQ (aU (ls:=[.sh (.ptr 5),.sh e.pv]) (ρ1:=E Cc Wc mu) (aA rfl (aA (aU (ls:=[.sh (.int (C/7)),.sh (N3 a b c)]) (ρ1:=E Cc Wc mu) (aA (dq 7 (by decide) (by decide)) rfl) rfl rfl rfl (he mu)) rfl)) rfl rfl rfl e1)))),h1⟩
 . rw[Bool.eq_false_iff.mpr g1]at t1;by_cases g2:(decide (w>3)&&decide (((L+1:Nat):Int)>1))=true
   . rw[g2]at t2;rw[abz]at g2;have g:=of_decide_eq_true g2.2;obtain⟨M,rfl⟩:∃M,L=M+1:=⟨L-1,by omega⟩;obtain⟨mu',e1,h1⟩:=Ke (w:=decide (w>4)) h hj;have r:Yj (E l5 l6 mu)=some (.nx (E Cc Wc mu')):=aD s5 (aD s6 ((cL t1).trans ((d9 t2).trans (fQ (aU (G:=fH) (ls:=[.sh (.ptr 5),.sh (.bl (decide (w>4)))]) (ρ1:=E Cc Wc mu) (aA rfl (aA (cW rfl rfl rfl rfl rfl) rfl)) rfl rfl rfl e1)))));rcases h1 with ⟨_,h1⟩ | h1
     . exact⟨Cc,Wc,mu',M+1,r,h1⟩
     . exact⟨Cc,Wc,mu',M,r,h1⟩
   . rw[Bool.eq_false_iff.mpr g2]at t2;obtain⟨e,he2,heo,he⟩:=J9 (a:=a) (b:=b) (c:=c) (C/21);obtain⟨x,hx,ex⟩:=Zm (a:=a) (b:=b) (c:=c) (aaY (C/7) (b:=3) (by decide)) (aaT (C/7) (b:=3) (by decide));obtain⟨mu',e1,h1⟩:=Yi h hx heo he2 hj;exact⟨Cc,Wc,mu',L,aD s5 (aD s6 ((cL t1).trans ((cL t2).trans (fQ (aU (ls:=[.sh (.ptr 5),.sh (.str x),.sh e.pv]) (ρ1:=E Cc Wc mu) (aA rfl (aA (FQ (l:=.sh (N3 a b c)) rfl rfl (mF (dq 7 (by decide) (by decide)) (by decide)) rfl BJ ex) (aA (aU (ls:=[.sh (.int (C/21)),.sh (N3 a b c)]) (ρ1:=E Cc Wc mu) (aA (dq 21 (by decide) (by decide)) rfl) rfl rfl rfl (he mu)) rfl))) rfl rfl rfl e1))))),h1⟩
theorem Kf {ns:List Int} (hn:ns.length<=63) (hS:S=.lst (ns.map .int)):∀(m i j L:Nat) (l4 l5 l6:Option Lc) (mu:Mu),i+m<=40->SX [a,b,c] B0 j mu (L+1)->j+m<=60->∃p4 p5 p6 mu' L',gY (aG 4) Yj ((List.range' i m).map λ(k:Nat)=>PV.int (k:Nat)) (LA S (N3 a b c) P5 l4 l5 l6 mu)=some (.nx (LA S (N3 a b c) P5 p4 p5 p6 mu'))/\SX [a,b,c] B0 (j+m) mu' (L'+1)
 | 0,i,j,L,l4,l5,l6,mu,_,h,_=>⟨l4,l5,l6,mu,L,rfl,h⟩
 | m+1,i,j,L,l4,l5,l6,mu,hi,h,hj=>by obtain⟨p5,p6,mu1,L1,e1,h1⟩:=Vt (l5:=l5) (l6:=l6) hn hS (i:=i) (by omega) h (by omega);obtain⟨q4,q5,q6,mu2,L2,e2,h2⟩:=Kf hn hS m (i+1) (j+1) L1 (zI (i:Nat)) p5 p6 mu1 (by omega) h1 (by omega);refine⟨q4,q5,q6,mu2,L2,iI (ρ1:=LA S (N3 a b c) P5 (zI (i:Nat)) l5 l6 mu) rfl e1 e2,?_⟩;rw[show j+(m+1)=j+1+m from by omega];exact h2
theorem Il:∀(L j m:Nat) (mu:Mu),SX [a,b,c] B0 j mu (L+1)->j+L<=100->L<m->∃mu',lZ m (tT (aB qe (gm (aM (aa 3) (eC (.str "levels")))) (eC (.int 1))) bA) (dC (aJ fH (aj (aa 3) (aj (eC (.bl false)) ao)))) (LA S (N3 a b c) P5 l4 l5 l6 mu)=some (.nx (LA S (N3 a b c) P5 l4 l5 l6 mu'))/\SX [a,b,c] B0 (j+L) mu' 1
 | L,j,0,mu,_,_,hm=>absurd hm (Nat.not_lt_zero _)
 | 0,j,m+1,mu,h,hj,_=>⟨mu,JP (di (l:=.sh (.bl false)) (cW h.len rfl rfl rfl rfl) rfl rfl),h⟩
 | L+1,j,m+1,mu,h,hj,hm=>by
  obtain⟨mu1,e1,h1⟩:=Ke (w:=false) h (by omega);have h1:SX [a,b,c] B0 (j+1) mu1 (L+1):=by
   rcases h1 with ⟨q,_⟩ | h1
   . cases q
   . exact h1
  obtain⟨mu2,e2,h2⟩:=Il L (j+1) m mu1 h1 (by omega) (by omega);have g:decide (((L+1+1:Nat):Int)>1)=true:=acf (by omega);refine⟨mu2,(JN (ρ1:=LA S (N3 a b c) P5 l4 l5 l6 mu) (di (l:=.sh (.bl (decide (((L+1+1:Nat):Int)>1)))) (cW h.len rfl rfl rfl rfl) rfl (by rw[g]; rfl)) (fQ (aU (ls:=[.sh (.ptr 5),.sh (.bl false)]) (ρ1:=LA S (N3 a b c) P5 l4 l5 l6 mu) rfl rfl rfl rfl e1))).trans e2,?_⟩;rw[show j+(L+1)=j+1+L from by omega];exact h2
end
theorem yc {mu:Mu}:∀(e:Ex) (n:Nat),aN mu n e.pv=e.pv
 | _,0=>rfl
 | .num i,n+1=>by show PV.tup [aN mu n (.str "num"),aN mu n (.int i)]=_;rw[gq,yx];rfl
 | .box x,n+1=>by show PV.tup [aN mu n (.str "box"),aN mu n (.str x)]=_;rw[gq,gq];rfl
 | .at_ x e,n+1=>by show PV.tup [aN mu n (.str "@"),aN mu n (.str x),aN mu n e.pv]=_;rw[gq,gq,yc e n];rfl
 | .op s e f,n+1=>by show PV.tup [aN mu n (.str s),aN mu n e.pv,aN mu n f.pv]=_;rw[gq,yc e n,yc f n];rfl
section
variable {K:Kn} {mu:Mu} (A:Al K mu)
include A
theorem Al.fz {c:Nat} {ts:List Tr} (h:K c=.fz ts):∃ps,mu[c]?=some (some (.lst ps))/\Rp K ts ps:=by have q:=A.ct c;rw[h]at q;exact q
mutual
theorem Tr.res:∀(t:Tr) (p:PV) (n:Nat),Cj K t p->2*t.row.dep<=n->aN mu n p=t.row.pv
 | .set x e,p,n,h,hn=>by obtain⟨m,rfl⟩:∃m,n=m+1:=⟨n-1,by have:2*1<=n:=hn; omega⟩;have h:p=.tup [.str "set",.str x,e.pv]:=h;subst h;show PV.tup [aN mu m (.str "set"),aN mu m (.str x),aN mu m e.pv]=_;rw[gq,gq,yc];rfl
 | .iff e b c,p,n,h,hn=>by obtain⟨i,j,bs,cs,rfl,hi,hj,hb,hc⟩:=h;have hn:2*(max b.rows.dep c.rows.dep+1)<=n:=hn;have pb:=Rows.dep_pos b.rows;obtain⟨m,rfl⟩:∃m,n=m+1+1+1:=⟨n-3,by omega⟩;obtain⟨ps,e1,r1⟩:=Al.fz A hi;obtain⟨qs,e2,r2⟩:=Al.fz A hj;show PV.tup [aN mu (m+1+1) (.str "if"),aN mu (m+1+1) e.pv,aN mu (m+1+1) (.ptr i),aN mu (m+1+1) (.ptr j)]=_;rw[gq,yc,j5 e1,j5 e2];show PV.tup [_,_,.lst (ps.map (aN mu m)),.lst (qs.map (aN mu m))]=_;rw[jU.res b bs ps m hb r1 (by omega),jU.res c cs qs m hc r2 (by omega)];rfl
theorem jU.res:∀(b:jU) (bs:List Tr) (ps:List PV) (n:Nat),tl bs=b->Rp K bs ps->2*b.rows.dep<=n+2->ps.map (aN mu n)=b.rows.pvs
 | .nil,[],ps,n,_,r,_=>by have r:ps=[]:=r;rw[r];rfl
 | .nil,_::_,ps,n,e,r,_=>by cases e
 | .cons t ts,[],ps,n,e,r,hn=>by cases e
 | .cons t ts,s::bs,ps,n,e,r,hn=>by injection e with e1 e2;subst e1;obtain⟨p,qs,rfl,h1,h2⟩:=r;have hn:2*max (s.row.dep+1) ts.rows.dep<=n+2:=hn;show aN mu n p::qs.map (aN mu n)=s.row.pv::ts.rows.pvs;rw[Tr.res s p n h1 (by omega),jU.res ts bs qs n e2 h2 (by omega)]
end
end
abbrev kV:List Key:=[.inr "rows",.inr "live",.inr "last"]
def RES (ts:List Tr) (la:Int) (k:Nat) (B:Bs) (ms:List cB):PV:=.dk kQ [.lst [.dk kV [.lst (tl ts).rows.pvs,.bl true,.int la]],.dk (bh B) (bf B),.lst (ms.map cB.pv),.int (k:Nat)]
theorem Vu {mu:Mu} (m:cB):aN mu 36 m.pv=m.pv:=by show PV.tup [.int m.1,.int m.2.1,aN mu 35 (evs m.2.2)]=_;rw[J8];rfl
theorem QS.melt {K:Kn} {mu:Mu} {B:Bs} {ms:List cB} {k:Nat} {v:Lv} (q:QS K mu B ms k (Ik [v]) [v]) (hd:v.hd=none) (hl:v.live=true) (dp:(tl v.ts).rows.dep<=12):aN mu 40 (.ptr 5)=RES v.ts (v.la.getD (-1)) k B ms:=by
 obtain⟨a,hd',r,ts,live,la⟩:=v;have hd:hd'=none:=hd;have hl:live=true:=hl;subst hd hl;obtain⟨A,_⟩:=q.sk;have ct:=q.al.ct r;rw[show K r=.row 1 ts from A.r]at ct;obtain⟨ps,e1,r1⟩:=ct;have ma:=q.al.at (d:=a) A.a;rw[j5 (q.al.at q.k5)];show PV.dk kQ [aN mu 38 (.ptr 3),aN mu 38 (.ptr 0),aN mu 38 (.ptr 4),.int (k:Nat)]=_;rw[j5 (q.al.at q.k3),j5 (q.al.at q.k0),j5 (q.al.at q.k4)];show PV.dk kQ [.lst [aN mu 36 (.ptr a)],.dk (bh B) ((bf B).map (aN mu 36)),.lst ((ms.map cB.pv).map (aN mu 36)),_]=_;rw[j5 ma];show PV.dk kQ [.lst [.dk kV [aN mu 34 (.ptr r),.bl true,.int (la.getD (-1))]],_,_,_]=_;rw[j5 e1];show PV.dk kQ [.lst [.dk kV [.lst (ps.map (aN mu 32)),.bl true,.int (la.getD (-1))]],_,_,_]=_;have dp:(tl ts).rows.dep<=12:=dp;rw[jU.res q.al (tl ts) ts ps 32 rfl r1 (by omega),show (bf B).map (aN mu 36)=bf B from by
  rw[aaX];exact aaU λq _=>Pk 36,show (ms.map cB.pv).map (aN mu 36)=ms.map cB.pv from by
  rw[aaX];exact aaU λm _=>Vu m]
 rfl
abbrev vO:Lv:=⟨2,none,1,[],true,none⟩
def KO (B:Bs):Kn
 | 0=>.pl 0 (.dk (bh B) (bf B))
 | 1=>.row 1 []
 | 2=>.pl 1 (bz vO.pd)
 | 3=>.pl 0 (.lst [.ptr 2])
 | 4=>.pl 0 (.lst [])
 | 5=>.pl 0 (.dk kQ [.ptr 3,.ptr 0,.ptr 4,.int (0:Nat)])
 | _=>.no
abbrev MZ (B:Bs):Mu:=[some (.dk (bh B) (bf B)),some (.lst []),some (bz vO.pd),some (.lst [.ptr 2]),some (.lst []),some (.dk kQ [.ptr 3,.ptr 0,.ptr 4,.int (0:Nat)])]
theorem Z8 {nm:List Str} {B:Bs} (bk:BK nm B) (an:uv B):SX nm B 0 (MZ B) 1:=by
 refine⟨KO B,[vO],0,B,[],⟨⟨⟨λc=>?_,λc hc=>?_⟩,rfl,rfl,rfl,rfl,⟨rfl,rfl,λe c f k o h=>by cases h⟩,trivial⟩,⟨rfl,rfl,rfl,rfl,rfl⟩,⟨(λt ht=>by cases ht),aaf _,(λe f k o h=>by cases h),trivial⟩,bk,an,rfl,by decide,aaf _,aaf _,λm hm=>by cases hm⟩,rfl⟩
 . match c with
   | 0=>exact rfl
   | 1=>exact⟨[],rfl,rfl⟩
   | 2=>exact rfl
   | 3=>exact rfl
   | 4=>exact rfl
   | 5=>exact rfl
   | c+6=>trivial
 . obtain⟨d,rfl⟩:∃d,c=d+6:=⟨c-6,by have:6<=c:=hc; omega⟩;rfl
theorem Yk {fa fb:EF} {E:Ev} {n:Nat} {k:Int} {ws:List PV} {p:PV} (h1:fa E=some (.sh (.ptr n),E)) (h2:fb E=some (.sh (.int k),E)) (hm:E.mu[n]?=some (some (.lst ws))) (h3:gw ws k=some p):bH fa fb E=some (.sh p,E):=by unfold bH;rw[h1,aab];dsimp only;rw[h2,aab];exact Bh (l:=.sh (.ptr n)) (m:=.sh (.int k)) (ρ1:=E) rfl rfl rfl rfl hm h3
def kZ (ts:List Tr):List cB:=match ((tl ts).rows.nums 0).getLast? with
 | none=>[]
 | some (i:Nat)=>[((i:Int),3,[])]
section
variable {B0:Bs} {S:PV} {a b c:Str}
theorem Vv {ns:List Int} (hn:ns.length<=63) (hS:S=.lst (ns.map .int)) (bk:BK [a,b,c] B0) (an:uv B0):∃mu' ts k B ms la,pq [S,N3 a b c,.ptr 0] [some (.dk (bh B0) (bf B0))]=some (.sh (RES ts la k B (ms++kZ ts)),mu')/\(tl ts).sem 0 B0=(ms,B)/\(∀t∈ts,TO [a,b,c] 9 t)/\(tl ts).rows.cnt<=60/\BK [a,b,c] B/\uv B/\B.map (·.1)=B0.map (·.1)/\ms.length<=200/\∀m∈ms,m.2.2.length<=1:=by
 let E:=λl3 l4 l5 l6 mu=>LA S (N3 a b c) l3 l4 l5 l6 mu;have s0:(aV 3 (bB (jH (bD (eC (.str "levels")) (bB (bx (aj (bB (jH (bD (eC (.str "rows")) (bB (bx ao)) (bD (eC (.str "live")) (eC (.bl true)) (bD (eC (.str "last")) (gh (eC (.int 1))) j7))))) ao))) (bD (eC (.str "boxes")) (aa 2) (bD (eC (.str "moments")) (bB (bx ao)) (bD (eC (.str "many")) (eC (.int 0)) j7))))))) (E none none none none [some (.dk (bh B0) (bf B0))])=some (.nx (E P5 none none none (MZ B0))):=by let m0:Mu:=[some (.dk (bh B0) (bf B0))];let m1:Mu:=[some (.dk (bh B0) (bf B0)),some (.lst [])];let m2:Mu:=[some (.dk (bh B0) (bf B0)),some (.lst []),some (bz vO.pd)];let m3:Mu:=[some (.dk (bh B0) (bf B0)),some (.lst []),some (bz vO.pd),some (.lst [.ptr 2])];let m4:Mu:=[some (.dk (bh B0) (bf B0)),some (.lst []),some (bz vO.pd),some (.lst [.ptr 2]),some (.lst [])];let F:=λmu=>E none none none none mu;have d1:(bD (eC (.str "rows")) (bB (bx ao)) (bD (eC (.str "live")) (eC (.bl true)) (bD (eC (.str "last")) (gh (eC (.int 1))) j7))) (F m0)=some ([(.sh (.str "rows"),.sh (.ptr 1)),(.sh (.str "live"),.sh (.bl true)),(.sh (.str "last"),.sh (.int (-1)))],F m1):=dZ rfl (fU (p:=.lst []) (ρ1:=F m0) rfl) rfl;have l1:bB (jH (bD (eC (.str "rows")) (bB (bx ao)) (bD (eC (.str "live")) (eC (.bl true)) (bD (eC (.str "last")) (gh (eC (.int 1))) j7)))) (F m0)=some (.sh (.ptr 2),F m2):=fU (ρ1:=F m1) (uU (p:=bz vO.pd) d1 rfl (show (3:Nat)<=15 from by decide) rfl);have l2:(bB (bx (aj (bB (jH (bD (eC (.str "rows")) (bB (bx ao)) (bD (eC (.str "live")) (eC (.bl true)) (bD (eC (.str "last")) (gh (eC (.int 1))) j7))))) ao))) (F m0)=some (.sh (.ptr 3),F m3):=fU (p:=.lst [.ptr 2]) (ρ1:=F m2) (xm (ls:=[.sh (.ptr 2)]) (aA l1 rfl) rfl rfl);have d2:(bD (eC (.str "levels")) (bB (bx (aj (bB (jH (bD (eC (.str "rows")) (bB (bx ao)) (bD (eC (.str "live")) (eC (.bl true)) (bD (eC (.str "last")) (gh (eC (.int 1))) j7))))) ao))) (bD (eC (.str "boxes")) (aa 2) (bD (eC (.str "moments")) (bB (bx ao)) (bD (eC (.str "many")) (eC (.int 0)) j7)))) (F m0)=some ([(.sh (.str "levels"),.sh (.ptr 3)),(.sh (.str "boxes"),.sh (.ptr 0)),(.sh (.str "moments"),.sh (.ptr 4)),(.sh (.str "many"),.sh (.int 0))],F m4):=dZ rfl l2 (dZ rfl rfl (dZ rfl (fU (p:=.lst []) (ρ1:=F m3) rfl) rfl));exact cA (fU (ρ1:=F m4) (uU (p:=.dk kQ [.ptr 3,.ptr 0,.ptr 4,.int (0:Nat)]) d2 rfl (show (4:Nat)<=15 from by decide) rfl)) rfl rfl
 obtain⟨C,_,_,ec⟩:=cell_eq (ns:=ns) (k:=0) hn (by decide) (by decide);rw[<-hS]at ec;obtain⟨m,hm⟩:∃m:Nat,(C%37).toNat=m:=⟨_,rfl⟩;have c0:=aaY C (b:=37) (by decide);have c1:=aaT C (b:=37) (by decide);obtain⟨p4,p5,p6,mu1,L,e1,h1⟩:=Kf (a:=a) (b:=b) (c:=c) (S:=S) hn hS m 0 0 0 none none none (MZ B0) (by omega) (Z8 bk an) (by omega);have it:(gJ (aj (aB cI (aJ cT (aj (aa 0) (aj (eC (.int 0)) ao))) (eC (.int 37))) ao)) (E P5 none none none (MZ B0))=some ((List.range' 0 m).map λ(k:Nat)=>PV.int (k:Nat),E P5 none none none (MZ B0)):=?_
 . have s1:(lu (gJ (aj (aB cI (aJ cT (aj (aa 0) (aj (eC (.int 0)) ao))) (eC (.int 37))) ao)) (aG 4) (aK (aV 5 (aJ cT (aj (aa 0) (aj (aB eX (eC (.int 4)) (aa 4)) ao)))) (aK (aV 6 (aB cI (aa 5) (eC (.int 7)))) (cO (gG (tT (aB oA (aa 6) (eC (.int 2))) bA) (tT (aB oA (gm (aM (aa 3) (eC (.str "levels")))) (eC (.int 5))) bA)) (dC (aJ j0 (aj (aa 3) (aj (aJ dH (aj (aB dM (aa 5) (eC (.int 7))) (aj (aa 1) ao))) ao)))) (cO (gG (tT (aB qe (aa 6) (eC (.int 3))) bA) (tT (aB qe (gm (aM (aa 3) (eC (.str "levels")))) (eC (.int 1))) bA)) (dC (aJ fH (aj (aa 3) (aj (aB qe (aa 6) (eC (.int 4))) ao)))) (dC (aJ lL (aj (aa 3) (aj (bH (aa 1) (aB cI (aB dM (aa 5) (eC (.int 7))) (eC (.int 3)))) (aj (aJ dH (aj (aB dM (aa 5) (eC (.int 21))) (aj (aa 1) ao))) ao)))))))))) (E P5 none none none (MZ B0))=some (.nx (E P5 p4 p5 p6 mu1)):=mq it e1;have hL:L+1<=5:=by obtain⟨K,vs,k,B,ms,s,hl⟩:=h1;rw[<-hl];exact s.ln
   obtain⟨mu2,e2,h2⟩:=Il (S:=S) (l4:=p4) (l5:=p5) (l6:=p6) L (0+m) 1000 mu1 h1 (by omega) (by omega);obtain⟨K,vs,k,B,ms,s,hl⟩:=h2;obtain⟨v,rfl⟩:=List.length_eq_one_iff.mp hl;obtain⟨i1,i2,i3,i4,i5⟩:=s.iv;obtain⟨w1,_,_,_⟩:=s.wf;have kj:=s.kj;have mj:=s.mj;have w1:∀t∈v.ts,TO [a,b,c] 9 t:=w1;obtain⟨_,_,dp⟩:=Cp w1;have gl:aM (bH (aM (aa 3) (eC (.str "levels"))) (eC (.int 0))) (eC (.str "last")) (E P5 p4 p5 p6 mu2)=some (.sh (.int (v.la.getD (-1))),E P5 p4 p5 p6 mu2):=by refine lH (c:=v.a) (Yk (ws:=[.ptr v.a]) (s.q.get rfl rfl) rfl (s.q.al.at s.q.k3) at0) (s.q.al.at s.q.sk.1.a) ?_;unfold Lv.pd;rw[i1];rfl
   obtain⟨K3,mu3,s3,q3⟩:∃K3 mu3,(cO (tT (aB Sx (aM (bH (aM (aa 3) (eC (.str "levels"))) (eC (.int 0))) (eC (.str "last"))) (eC (.int 0))) bA) (eQ (aM (aa 3) (eC (.str "moments"))) (bG (aj (aM (bH (aM (aa 3) (eC (.str "levels"))) (eC (.int 0))) (eC (.str "last"))) (aj (eC (.int 3)) (aj (bx ao) ao))))) cV) (E P5 p4 p5 p6 mu2)=some (.nx (E P5 p4 p5 p6 mu3))/\QS K3 mu3 B (ms++kZ v.ts) k (Ik [v]) [v]:=by
    have t:∀z:Bool,decide (v.la.getD (-1) ≥ 0)=z->tT (aB Sx (aM (bH (aM (aa 3) (eC (.str "levels"))) (eC (.int 0))) (eC (.str "last"))) (eC (.int 0))) bA (E P5 p4 p5 p6 mu2)=some (z,E P5 p4 p5 p6 mu2):=λz hz=>by rw[<-hz];exact di (l:=.sh (.bl (decide (v.la.getD (-1) ≥ 0)))) (cW gl rfl rfl rfl rfl) rfl rfl
    unfold kZ;cases hg:((tl v.ts).rows.nums 0).getLast? with
    | none=>
     rw[hg]at i5;have i5:v.la=none:=i5;refine⟨K,mu2,(cL (t false (by rw[i5]; rfl))).trans rfl,?_⟩;show QS K mu2 B (ms++[]) k (Ik [v]) [v];rw[aau];exact s.q
    | some i=>
     rw[hg]at i5;have i5:v.la=some (i:Int):=i5;rw[i5]at gl;obtain⟨K3,mu3,e3,q3⟩:=s.q.mom (sl:=(E P5 p4 p5 p6 mu2).vs) (i:=3) (m:=((i:Int),3,[])) (fv:=bG (aj (aM (bH (aM (aa 3) (eC (.str "levels"))) (eC (.int 0))) (eC (.str "last"))) (aj (eC (.int 3)) (aj (bx ao) ao)))) (y:=.sh (cB.pv ((i:Int),3,[]))) rfl (gb (ls:=[.sh (.int (i:Int)),.sh (.int 3),.own (.lst [])]) (aA gl rfl) rfl rfl) rfl (by omega);exact⟨K3,mu3,(d9 (t true (by rw[i5]; exact acf (by show (i:Int) ≥ 0; omega)))).trans e3,q3⟩
   refine⟨_,v.ts,k,B,ms,v.la.getD (-1),aW (aD s0 (aD s1 (aD e2 (aD s3 (bL (Rh (l:=.sh (.ptr 5)) (ρ1:=E P5 p4 p5 p6 mu3) rfl (q3.melt i1 i2 (by omega)))))))),i4,w1,by omega,s.bk,s.an,s.na,by omega,s.ev⟩
 . have e:=Px (f:=aB cI (aJ cT (aj (aa 0) (aj (eC (.int 0)) ao))) (eC (.int 37))) (ρ:=E P5 none none none (MZ B0)) (n:=m) (by rw[show ((m:Nat):Int)=C%37 from by omega]; exact mF (aU (ls:=[.sh S,.sh (.int 0)]) (ρ1:=E P5 none none none (MZ B0)) rfl rfl rfl rfl (ec _)) (by decide)) (by omega);rw[e];unfold Et;rw[List.range_eq_range']
end
theorem Kg {x:Str}:∀{C:Bs},x∈C.map (·.1)->∃v,look C x=some v
 | (y,v)::C,h=>by
  by_cases e:y=x
  . exact⟨v,by rw[pN,aca e]⟩
  . rcases aaj.mp h with h | h
    . exact absurd h.symm e
    . obtain⟨w,hw⟩:=Kg h;exact⟨w,by rw[pN,acb e]; exact hw⟩
theorem Z9 {B:Bs} {x:Str} (h:uv B) (hx:x∈B.map (·.1)):rZ B x:=by obtain⟨v,hv⟩:=Kg hx;obtain⟨i,hi⟩:=h _ (vV hv);exact⟨i,by rw[hv,show v=.n i from hi]⟩
theorem Kh:∀{B:Bs} {q:Str×BV},(B.map (·.1)).Nodup->q∈B->look B q.1=some q.2
 | (y,v)::B,q,nd,h=>by
  obtain⟨hy,nd'⟩:=aaP.mp nd;rw[pN];rcases aaj.mp h with rfl | h
  . rw[aca rfl]
  . rw[acb λe=>hy (by rw[show y=q.1 from e]; exact aaH.mpr ⟨q,h,rfl⟩)];exact Kh nd' h
theorem Vw {B:Bs} (nd:(B.map (·.1)).Nodup) (h:uv B):(B.map (·.1)).map (λx=>PV.int (numAt B x))=bf B:=by rw[aaX];refine aaU λq hq=>?_;obtain⟨i,hi⟩:=h q hq;show PV.int (numAt B q.1)=q.2.pv;unfold numAt;rw[Kh nd hq,hi];rfl
theorem mX.res {mu:Mu}:∀{n:Nat} {p:PV} {k:Nat},mX n p->aN mu k p=p
 | _,_,0,_=>rfl
 | n+1,.int i,k+1,_=>rfl
 | n+1,.str x,k+1,_=>rfl
 | n+1,.tup ps,k+1,h=>by show PV.tup (ps.map (aN mu k))=_;rw[aaU λp hp=>(h.2 p hp).res (k:=k),List.map_id']
 | n+1,.lst ps,k+1,h=>by show PV.lst (ps.map (aN mu k))=_;rw[aaU λp hp=>(h.2 p hp).res (k:=k),List.map_id']
theorem Vx {f g:EF} {ρ ρ1 ρ2:Ev} {l:Lc} (hf:f ρ=some (.sh (.bl true),ρ1)) (hg:g ρ1=some (l,ρ2)):gB f g ρ=some (l,ρ2):=by unfold gB;rw[hf,aab];exact hg
section
variable {a b c:Str} {v0 v1 v2:Int} {bu:Int} {B:Bs} {ms:List cB} {ts:List Tr}
abbrev B3 (a b c:Str) (v0 v1 v2:Int):Bs:=[(a,.n v0),(b,.n v1),(c,.n v2)]
abbrev D3 (a b c:Str):List (Str×Int):=[(a,0),(b,0),(c,0)]
theorem RN:uv (B3 a b c v0 v1 v2):=λq hq=>by simp only[aaj,aa4,or_false]at hq;rcases hq with rfl | rfl | rfl<;>exact⟨_,rfl⟩
theorem Yl (nd:[a,b,c].Nodup) (i0:In v0) (i1:In v1) (i2:In v2):BK [a,b,c] (B3 a b c v0 v1 v2):=by
 refine⟨⟨⟨λq hq=>?_,λq hq is e=>?_⟩,nd,Nat.le_of_ble_eq_true rfl⟩,λx hx=>Z9 RN hx⟩
 . simp only[aaj,aa4,or_false]at hq;rcases hq with rfl | rfl | rfl
   . exact i0
   . exact i1
   . exact i2
 . obtain⟨i,h⟩:=RN q hq;rw[h]at e;cases e
theorem Y7 (nd:[a,b,c].Nodup) (i0:In v0) (i1:In v1) (i2:In v2) (sm:(tl ts).sem 0 (B3 a b c v0 v1 v2)=(ms,B)) (to:∀t∈ts,TO [a,b,c] 9 t) (cn:(tl ts).rows.cnt<=60) (bk:BK [a,b,c] B) (an:uv B) (na:B.map (·.1)=[a,b,c]) (ml:ms.length<=200) (me:∀m∈ms,m.2.2.length<=1):Pr (D3 a b c) (B3 a b c v0 v1 v2) (tl ts).rows bu ⟨bu, "done",B,ms++kZ ts⟩:=by
 have k0:=Yl nd i0 i1 i2;obtain⟨t1,t2,t3⟩:=Cp to;have lm:(kZ ts).length<=1/\∀m∈kZ ts,m.2.2.length<=1:=by
  unfold kZ;split
  . exact⟨aa2 _,λm hm=>by cases hm⟩
  . exact⟨aaf _,λm hm=>by rw[aa3.mp hm]; exact aa2 _⟩
 have go:∀(I:Ix) (N:Nat) (hd:PV),∃m:Nat,Rn I (PQ ((jT (D3 a b c) (tl ts).rows).es) N hd) m ⟨bu, "done",B3 a b c v0 v1 v2,[],J2 (tl ts).rows⟩ ((⟨bu, "done",B,ms++kZ ts⟩:LS).as [])/\m<900:=λI N hd=>by
  have sim:=λD h=>jU.sim (I:=I) (N:=N) (hd:=hd) (bu:=bu) (wd := "done") (w := "main") (tl ts) 0 .non 0 (B3 a b c v0 v1 v2) [] D t1 (es:=(jT (D3 a b c) (tl ts).rows).es) ⟨⟨[],[],by rw[Pj]; simp,rfl,λe he=>by cases he⟩,.inl rfl⟩ k0 (by show 0+_<_; omega) h;rw[sm]at sim;unfold kZ J2;cases hg:((tl ts).rows.nums 0).getLast? with
  | none=>
   have hn:(tl ts).rows.nums 0=[]:=List.getLast?_eq_none_iff.mp hg;obtain⟨⟨m,m1,q⟩,_,_⟩:=sim [] (by show 0+_<=_; omega);rw[hn]at q;refine⟨m,?_,by omega⟩;show Rn _ _ m _ ⟨bu, "done",B,ms++[],[]⟩;rw[aau];exact q
  | some i=>
   obtain⟨⟨m,m1,q⟩,_,_⟩:=sim [due i 3] (by show 1+_<=_; omega);exact⟨m+1,q.trans (XS (D:=[]) (show ms.length<90000 from by omega)),by omega⟩
 refine⟨⟨rfl,⟨rfl,i0⟩,rfl,⟨rfl,i1⟩,rfl,⟨rfl,i2⟩,trivial⟩,k0.bg,⟨λf hf=>(by cases hf),t2,by show (tl ts).rows.dep<=30; omega,by show 0+(tl ts).rows.cnt<=250; omega,λf hf=>(by cases hf),aa2 _⟩,go,na,bk.bg,?_,λm hm=>?_,an⟩
 . show (ms++kZ ts).length<=_;rw[aah];omega
 . rcases aaC.mp (show m∈ms++kZ ts from hm) with q | q
   . exact me m q
   . exact lm.2 m q
end
abbrev WV (S:PV) (l1 l2 l3 l4 l5 l6 l7 l8 l9 l10 l11:Option Lc) (mu:Mu):Ev:=⟨[zS S,l1,l2,l3,l4,l5,l6,l7,l8,l9,l10,l11],mu⟩
section
variable {S:PV} {l1 l2 l3 l4 l5 l6 l7 l8 l9 l10 l11:Option Lc} {mu:Mu} {a b c:Str}
abbrev Zo:SF:=(nC 6 (dD (gH (aa 9) dj) 3 [7] (fD 3 (aQ (aG 0) (aQ (aG 1) (aQ (aG 2) fC)))) dh (bG (aj (aa 3) (aj (aa 0) (aj (aa 1) (aj (aa 2) ao)))))))
abbrev q0:SF:=(aV 1 (aB dM (aJ cT (aj (aa 0) (aj (eC (.int 0)) ao))) (eC (.int 37))))
abbrev q1:SF:=(aV 2 (zA (zA (bx (aj (eC (.str "b")) (aj (eC (.str "ba")) (aj (eC (.str "bab")) (aj (eC (.str "a")) (aj (eC (.str "ab")) (aj (eC (.str "bb")) ao))))))) (nA (aB cI (aa 1) (eC (.int 4)))) nq) nq (nA (eC (.int 3)))))
abbrev q2:SF:=(aV 3 (dD (gJ (aj (eC (.int 3)) ao)) 1 [0] (aG 0) dh (aJ fX (aj (aJ cT (aj (aa 1) (aj (aB eX (eC (.int 1)) (aa 0)) ao))) ao))))
abbrev q3:SF:=(aV 4 (aJ pq (aj (aa 0) (aj (aa 2) (aj (bB (jH (bD (bH (aa 2) (eC (.int 0))) (bH (aa 3) (eC (.int 0))) (bD (bH (aa 2) (eC (.int 1))) (bH (aa 3) (eC (.int 1))) (bD (bH (aa 2) (eC (.int 2))) (bH (aa 3) (eC (.int 2))) j7))))) ao)))))
abbrev q4:SF:=(aV 5 (bG (aj (dD (gH (aa 2) dj) 1 [] (aG 0) dh (bG (aj (aa 0) (aj (eC (.int 0)) (aj (eC .non) ao))))) (aj (bx ao) (aj (bx ao) (aj (bH (bH (bH (aa 4) (eC (.str "levels"))) (eC (.int 0))) (eC (.str "rows"))) ao))))))
abbrev q5:SF:=(aV 6 (bx ao))
abbrev q6:SF:=(lu (gH (bH (aa 4) (eC (.str "moments"))) dj) (fD 3 (aQ (aG 7) (aQ (aG 8) (aQ (aG 9) fC)))) Zo)
abbrev q7:SF:=(aV 10 (bG (aj (eC (.str "done")) (aj (aa 6) (aj (dD (gH (aa 2) dj) 1 [4] (aG 0) dh (bH (bH (aa 1) (eC (.str "boxes"))) (aa 0))) ao)))))
abbrev q8:SF:=(aV 11 (aJ FN (aj (aa 5) (aj (eB list1 (aj (aa 3) ao)) (aj (aB cI (aB dM (aa 1) (eC (.int 4))) (eC (.int 21))) ao)))))
abbrev q9:SF:=(bT (gB (my (cF 40) (aj (aa 11) (aj (aa 10) ao))) (my (cF 40) (aj (aJ rO (aj (aa 5) (aj (aa 3) (aj (aB cI (aB dM (aa 1) (eC (.int 4))) (eC (.int 21))) ao)))) (aj (bH (aa 4) (eC (.str "moments"))) ao)))))
theorem Kl:∀(ms:List cB) (ws:List PV) (l7 l8 l9:Option Lc),ws.length+xZ ms<=90000->∃p7 p8 p9,gY (fD 3 (aQ (aG 7) (aQ (aG 8) (aQ (aG 9) fC)))) Zo (ms.map cB.pv) (WV S l1 l2 l3 l4 l5 (zO ws) l7 l8 l9 l10 l11 mu)=some (.nx (WV S l1 l2 l3 l4 l5 (zO (ws++km ms)) p7 p8 p9 l10 l11 mu))
 | [],ws,l7,l8,l9,_=>⟨l7,l8,l9,by rw[show km []=[] from rfl,aau]; rfl⟩
 | m::ms,ws,l7,l8,l9,hl=>by have hl':ws.length+(m.2.2.length+xZ ms)<=90000:=hl;let K:Option Lc:=zI m.1;let T:Option Lc:=zI m.2.1;let C:Option Lc:=zS (evs m.2.2);obtain⟨p7,p8,p9,e⟩:=Kl ms (ws++m.2.2.map (qd m.1)) K T C (by rw[aah,aag]; omega);rw[aai]at e;let E:=λl6=>WV S l1 l2 l3 l4 l5 l6 K T C l10 l11 mu;have ec:=iD (f:=gH (aa 9) dj) (m:=3) (ixs:=[7]) (ρ:=E (zO ws)) (ρ1:=E (zO ws)) (jP (l:=.sh (evs m.2.2)) rfl rfl) (J5 (k:=m.1) (es:=m.2.2) (mu:=mu) (o:=[]) (by omega));exact⟨p7,p8,p9,iI (ρ1:=E (zO ws)) (ρ2:=E (zO (ws++m.2.2.map (qd m.1)))) rfl (xn (ws0:=ws) (ws:=ws) (ps:=m.2.2.map (qd m.1)) rfl ec rfl rfl (by rw[aag]; omega) rfl) e⟩
theorem Y8:dD (gH (aa 2) dj) 1 [] (aG 0) dh (bG (aj (aa 0) (aj (eC (.int 0)) (aj (eC .non) ao)))) (WV S l1 (zS (N3 a b c)) l3 l4 l5 l6 l7 l8 l9 l10 l11 mu)=some (.own (.lst (dcl (D3 a b c))),WV S l1 (zS (N3 a b c)) l3 l4 l5 l6 l7 l8 l9 l10 l11 mu):=by have f:∀x o,(aG 0) (.str x) ⟨[o],mu⟩=some ⟨[zT x],mu⟩/\bG (aj (aa 0) (aj (eC (.int 0)) (aj (eC .non) ao))) ⟨[zT x],mu⟩=some (.sh (.tup [.str x,.int 0,.non]),⟨[zT x],mu⟩):=λx o=>⟨rfl,rfl⟩;exact iD (f:=gH (aa 2) dj) (m:=1) (ixs:=[]) (ρ:=WV S l1 (zS (N3 a b c)) l3 l4 l5 l6 l7 l8 l9 l10 l11 mu) (ρ1:=WV S l1 (zS (N3 a b c)) l3 l4 l5 l6 l7 l8 l9 l10 l11 mu) (jP (l:=.sh (N3 a b c)) rfl rfl) (fO (f a _).1 (f a none).2 (Nat.le_of_ble_eq_true rfl) (fO (f b _).1 (f b none).2 (Nat.le_of_ble_eq_true rfl) (fO (f c _).1 (f c none).2 (Nat.le_of_ble_eq_true rfl) rfl)))
theorem Y9 {ns:List Int} (hn:ns.length<=63) (hS:S=.lst (ns.map .int)):∃v0 v1 v2:Int,In v0/\In v1/\In v2/\(dD (gJ (aj (eC (.int 3)) ao)) 1 [0] (aG 0) dh (aJ fX (aj (aJ cT (aj (aa 1) (aj (aB eX (eC (.int 1)) (aa 0)) ao))) ao))) (WV S l1 l2 l3 l4 l5 l6 l7 l8 l9 l10 l11 mu)=some (.own (.lst [.int v0,.int v1,.int v2]),WV S l1 l2 l3 l4 l5 l6 l7 l8 l9 l10 l11 mu):=by
 have g:∀i:Int,0<=i->i<10->∃v:Int,In v/\∀o,(aG 0) (.int i) ⟨[o,zS S],mu⟩=some ⟨[zI i,zS S],mu⟩/\aJ fX (aj (aJ cT (aj (aa 1) (aj (aB eX (eC (.int 1)) (aa 0)) ao))) ao) ⟨[zI i,zS S],mu⟩=some (.sh (.int v),⟨[zI i,zS S],mu⟩):=λi h0 h1=>by obtain⟨C,_,_,ec⟩:=cell_eq (ns:=ns) (k:=1+i) hn (by omega) (by omega);rw[<-hS]at ec;obtain⟨v,w0,w1,hv⟩:=Ov C;exact⟨v,⟨w0,w1⟩,λo=>⟨rfl,aU (ls:=[.sh (.int C)]) (ρ1:=⟨[zI i,zS S],mu⟩) (aA (aU (ls:=[.sh S,.sh (.int (1+i))]) (ρ1:=⟨[zI i,zS S],mu⟩) rfl rfl rfl rfl (ec mu)) rfl) rfl rfl rfl (hv mu)⟩⟩
 obtain⟨v0,i0,f0⟩:=g 0 (by decide) (by decide);obtain⟨v1,i1,f1⟩:=g 1 (by decide) (by decide);obtain⟨v2,i2,f2⟩:=g 2 (by decide) (by decide);exact⟨v0,v1,v2,i0,i1,i2,iD (f:=gJ (aj (eC (.int 3)) ao)) (m:=1) (ixs:=[0]) (ρ:=WV S l1 l2 l3 l4 l5 l6 l7 l8 l9 l10 l11 mu) (ρ1:=WV S l1 l2 l3 l4 l5 l6 l7 l8 l9 l10 l11 mu) (xs:=[.int 0,.int 1,.int 2]) rfl (fO (f0 _).1 (f0 none).2 (Nat.le_of_ble_eq_true rfl) (fO (f1 _).1 (f1 none).2 (Nat.le_of_ble_eq_true rfl) (fO (f2 _).1 (f2 none).2 (Nat.le_of_ble_eq_true rfl) rfl)))⟩
end
theorem PN {f:EF} {lo hi:OF} {ρ ρ1 ρ2 ρ3:Ev} {l:Lc} {ps:List PV} {y z:Option Int} (h1:f ρ=some (l,ρ1)) (hl:l.pv=.lst ps) (h2:lo ρ1=some (y,ρ2)) (h3:hi ρ2=some (z,ρ3)):zA f lo hi ρ=some (.own (.lst (vz ps y z)),ρ3):=by unfold zA;rw[h1,aab];dsimp only;rw[h2,aab];dsimp only;rw[h3,aab,hl]
section
variable {a b c:Str}
theorem Im {f:EF} {ρ:Ev} {z:Int} (h:f ρ=some (.sh (.int z),ρ)):nA f ρ=some (some z,ρ):=by unfold nA;rw[h];rfl
theorem Ym {v0 v1 v2:Int} (nd:[a,b,c].Nodup):bz (jd [(.inr a,.int v0),(.inr b,.int v1),(.inr c,.int v2)] [])=.dk (bh (B3 a b c v0 v1 v2)) (bf (B3 a b c v0 v1 v2)):=by
 obtain⟨h1,nd⟩:=aaP.mp nd;obtain⟨h2,_⟩:=aaP.mp nd;have ab:¬ (Sum.inr a:Key)=.inr b:=λh=>h1 (by rw[Sum.inr.inj h]; simp);have ac:¬ (Sum.inr a:Key)=.inr c:=λh=>h1 (by rw[Sum.inr.inj h]; simp);have bc:¬ (Sum.inr b:Key)=.inr c:=λh=>h2 (by rw[Sum.inr.inj h]; simp);have e1:cU [(.inr a,.int v0)] (.inr b) (.int v1)=[(.inr a,.int v0),(.inr b,.int v1)]:=by unfold cU;rw[show bI [((.inr a:Key),PV.int v0)] (.inr b)=none from acb ab];rfl
 have e2:cU [(.inr a,.int v0),(.inr b,.int v1)] (.inr c) (.int v2)=[(.inr a,.int v0),(.inr b,.int v1),(.inr c,.int v2)]:=by unfold cU;rw[show bI [((.inr a:Key),PV.int v0),(.inr b,.int v1)] (.inr c)=none from (acb ac).trans (acb bc)];rfl
 show bz (cU (cU [(.inr a,.int v0)] (.inr b) (.int v1)) (.inr c) (.int v2))=_;rw[e1,e2];rfl
theorem law_true (ns:List Int) (hn:ns.length<=63):∃mu,Lp [.lst (ns.map PV.int)] []=some (.sh (.bl true),mu):=by
 obtain⟨c0,_,_,ec⟩:=cell_eq (ns:=ns) (k:=0) hn (by decide) (by decide);obtain⟨S,hS⟩:∃S:PV,S=.lst (ns.map .int):=⟨_,rfl⟩;rw[<-hS]at ec ⊢;obtain⟨p,hp⟩:∃p:Int,c0/37=p:=⟨_,rfl⟩;let C:Option Lc:=zI p;have s0:q0 (WV S none none none none none none none none none none none [])=some (.nx (WV S C none none none none none none none none none none [])):=cA (l:=.sh (.int p)) (by rw[<-hp]; exact cW (aU (ls:=[.sh S,.sh (.int 0)]) (ρ1:=WV S none none none none none none none none none none none []) rfl rfl rfl rfl (ec [])) rfl rfl rfl (mY (by decide) (by decide))) rfl rfl;obtain⟨a,b,c,nd,s1⟩:∃a b c:Str,[a,b,c].Nodup/\q1 (WV S C none none none none none none none none none none [])=some (.nx (WV S C (some (.own (N3 a b c))) none none none none none none none none none [])):=by
  have md:aB cI (aa 1) (eC (.int 4)) (WV S C none none none none none none none none none none [])=some (.sh (.int (p%4)),WV S C none none none none none none none none none none []):=mF (c:=p) rfl (by decide);have h0:=aaY p (b:=4) (by decide);have h1:=aaT p (b:=4) (by decide);generalize p%4=j at md h0 h1;have go:∀a b c:Str,vz (vz [.str "b",.str "ba",.str "bab",.str "a",.str "ab",.str "bb"] (some j) none) none (some 3)=[.str a,.str b,.str c]->q1 (WV S C none none none none none none none none none none [])=some (.nx (WV S C (some (.own (N3 a b c))) none none none none none none none none none [])):=λa b c h=>by have e:=PN (PN (f:=bx (aj (eC (.str "b")) (aj (eC (.str "ba")) (aj (eC (.str "bab")) (aj (eC (.str "a")) (aj (eC (.str "ab")) (aj (eC (.str "bb")) ao))))))) (ρ:=WV S C none none none none none none none none none none []) (ρ1:=WV S C none none none none none none none none none none []) (l:=.own (.lst [.str "b",.str "ba",.str "bab",.str "a",.str "ab",.str "bb"])) rfl rfl (Im md) (show nq (WV S C none none none none none none none none none none [])=some (none,WV S C none none none none none none none none none none []) from rfl)) rfl (show nq (WV S C none none none none none none none none none none [])=some (none,WV S C none none none none none none none none none none []) from rfl) (Im (z:=3) (f:=eC (.int 3)) rfl);rw[h]at e;exact cA e rfl rfl
  rcases (show j=0\/j=1\/j=2\/j=3 by omega) with rfl | rfl | rfl | rfl
  . exact⟨"b", "ba", "bab",by decide +kernel,go _ _ _ rfl⟩
  . exact⟨"ba", "bab", "a",by decide +kernel,go _ _ _ rfl⟩
  . exact⟨"bab", "a", "ab",by decide +kernel,go _ _ _ rfl⟩
  . exact⟨"a", "ab", "bb",by decide +kernel,go _ _ _ rfl⟩
 obtain⟨v0,v1,v2,i0,i1,i2,ev⟩:=Y9 (S:=S) (l1:=C) (l2:=some (.own (N3 a b c))) (l3:=none) (l4:=none) (l5:=none) (l6:=none) (l7:=none) (l8:=none) (l9:=none) (l10:=none) (l11:=none) (mu:=[]) hn hS;let B0:=B3 a b c v0 v1 v2;let V:PV:=.lst (bf B0);have s2:q2 (WV S C (some (.own (N3 a b c))) none none none none none none none none none [])=some (.nx (WV S C (some (.own (N3 a b c))) (some (.own V)) none none none none none none none none [])):=cA ev rfl rfl;obtain⟨mu1,ts,k,B,ms,la,el,sm,to,cn,bk,an,na,ml,me⟩:=Vv (a:=a) (b:=b) (c:=c) (B0:=B0) hn hS (Yl nd i0 i1 i2) RN;let F:LS:=⟨p/4%21, "done",B,ms++kZ ts⟩;have H:Pr (D3 a b c) B0 (tl ts).rows (p/4%21) F:=Y7 nd i0 i1 i2 sm to cn bk an na ml me;have hF:F.B.map (·.1)=[a,b,c]:=H.fn;have NM':mX 40 (.lst (F.ms.map cB.pv)):=Py H;have NG:mX 40 (ut F):=RL H;have ne:=H.nev;obtain⟨R,hR⟩:∃R:PV,RES ts la k B (ms++kZ ts)=R:=⟨_,rfl⟩;rw[hR]at el;let Nm:Option Lc:=zS (N3 a b c);let Vs:Option Lc:=zS V;let R4:Option Lc:=zS R;let G:=λl3 mu=>WV S C Nm l3 none none none none none none none none mu;have s3:q3 (WV S C (some (.own (N3 a b c))) (some (.own V)) none none none none none none none none [])=some (.nx (WV S C Nm Vs R4 none none none none none none none mu1)):=by have dd:(bD (bH (aa 2) (eC (.int 0))) (bH (aa 3) (eC (.int 0))) (bD (bH (aa 2) (eC (.int 1))) (bH (aa 3) (eC (.int 1))) (bD (bH (aa 2) (eC (.int 2))) (bH (aa 3) (eC (.int 2))) j7))) (G (some (.own V)) [])=some ([(.sh (.str a),.sh (.int v0)),(.sh (.str b),.sh (.int v1)),(.sh (.str c),.sh (.int v2))],G Vs []):=dZ (ρ1:=G (some (.own V)) []) (ρ2:=G Vs []) rfl rfl (dZ (ρ1:=G Vs []) (ρ2:=G Vs []) rfl rfl (dZ (ρ1:=G Vs []) (ρ2:=G Vs []) rfl rfl rfl));have sd:=fU (uU (p:=.dk (bh B0) (bf B0)) dd rfl (show (3:Nat)<=15 from by decide) (Ym nd));exact cA (aU (ls:=[.sh S,.sh (N3 a b c),.sh (.ptr 0)]) (ρ1:=G Vs [some (.dk (bh B0) (bf B0))]) (aA rfl (aA (ρ1:=G (some (.own V)) []) rfl (aA sd rfl))) rfl rfl rfl el) rfl rfl
 let P:PV:=(jT (D3 a b c) (tl ts).rows).pv;let PP:Option Lc:=zS P;have g4:∀{vs:List (Option Lc)} {mu:Mu} {i:Nat} {x:Str} {q:PV},aa i ⟨vs,mu⟩=some (.sh R,⟨vs,mu⟩)->bI (kQ.zip [.lst [.dk kV [.lst (tl ts).rows.pvs,.bl true,.int la]],.dk (bh B) (bf B),.lst ((ms++kZ ts).map cB.pv),.int (k:Nat)]) (.inr x)=some q->bH (aa i) (eC (.str x)) ⟨vs,mu⟩=some (.sh q,⟨vs,mu⟩):=λ{vs mu i x q} h1 h2=>qO (x:=.sh R) (y:=.sh (.str x)) (ρ1:=⟨vs,mu⟩) h1 rfl (.inl ⟨_,_,hR.symm,rfl⟩) rfl h2;have s4:q4 (WV S C Nm Vs R4 none none none none none none none mu1)=some (.nx (WV S C Nm Vs R4 PP none none none none none none mu1)):=by have e1:=g4 (vs:=(WV S C Nm Vs R4 none none none none none none none mu1).vs) (mu:=mu1) (i:=4) (x := "levels") rfl rfl;have e2:bH (bH (aa 4) (eC (.str "levels"))) (eC (.int 0)) (WV S C Nm Vs R4 none none none none none none none mu1)=some (.sh (.dk kV [.lst (tl ts).rows.pvs,.bl true,.int la]),WV S C Nm Vs R4 none none none none none none none mu1):=FQ e1 rfl rfl rfl BJ rfl;have e3:=qO (fb:=eC (.str "rows")) (x:=.sh (.dk kV [.lst (tl ts).rows.pvs,.bl true,.int la])) (y:=.sh (.str "rows")) (p:=.lst (tl ts).rows.pvs) e2 rfl (.inl ⟨_,_,rfl,rfl⟩) rfl rfl;exact cA (gb (ls:=[.own (.lst (dcl (D3 a b c))),.own (.lst []),.own (.lst []),.sh (.lst (tl ts).rows.pvs)]) (aA Y8 (aA rfl (aA rfl (aA e3 rfl)))) rfl rfl) rfl rfl
 obtain⟨p7,p8,p9,er⟩:=Kl (S:=S) (l1:=C) (l2:=Nm) (l3:=Vs) (l4:=R4) (l5:=PP) (l10:=none) (l11:=none) (mu:=mu1) F.ms [] none none none (by show 0+_<=_; omega);let W:=λl6 l10 l11 mu=>WV S C Nm Vs R4 PP l6 p7 p8 p9 l10 l11 mu;let R0:Option Lc:=zO (km F.ms);let R1:Option Lc:=zL (km F.ms);let GP:Option Lc:=zS (ut F);have s6:q6 (WV S C Nm Vs R4 PP (zO []) none none none none none mu1)=some (.nx (W R0 none none mu1)):=mq (jP (l:=.sh (.lst (F.ms.map cB.pv))) (g4 (i:=4) (x := "moments") rfl rfl) rfl) er;have s7:q7 (W R0 none none mu1)=some (.nx (W R1 GP none mu1)):=by
  have f:∀x o,x∈[a,b,c]->(aG 0) (.str x) ⟨[o,R4],mu1⟩=some ⟨[zT x,R4],mu1⟩/\bH (bH (aa 1) (eC (.str "boxes"))) (aa 0) ⟨[zT x,R4],mu1⟩=some (.sh (.int (numAt B x)),⟨[zT x,R4],mu1⟩):=λx o hx=>⟨rfl,qO (x:=.sh (.dk (bh B) (bf B))) (y:=.sh (.str x)) (ρ1:=⟨[zT x,R4],mu1⟩) (g4 (i:=1) (x := "boxes") rfl rfl) rfl (.inl ⟨_,_,rfl,rfl⟩) rfl (Ti (bk.nm x hx))⟩;have e1:(dD (gH (aa 2) dj) 1 [4] (aG 0) dh (bH (bH (aa 1) (eC (.str "boxes"))) (aa 0))) (W R1 none none mu1)=some (.own (.lst [.int (numAt B a),.int (numAt B b),.int (numAt B c)]),W R1 none none mu1):=iD (f:=gH (aa 2) dj) (m:=1) (ixs:=[4]) (ρ:=W R1 none none mu1) (ρ1:=W R1 none none mu1) (jP (l:=.sh (N3 a b c)) rfl rfl) (fO (f a _ (by simp)).1 (f a none (by simp)).2 (Nat.le_of_ble_eq_true rfl) (fO (f b _ (by simp)).1 (f b none (by simp)).2 (Nat.le_of_ble_eq_true rfl) (fO (f c _ (by simp)).1 (f c none (by simp)).2 (Nat.le_of_ble_eq_true rfl) rfl)));have e2:[PV.int (numAt B a),.int (numAt B b),.int (numAt B c)]=bf B:=by rw[<-Vw (B:=B) (by rw[show B.map (·.1)=[a,b,c] from hF]; exact nd) an,show B.map (·.1)=[a,b,c] from hF];rfl
  rw[e2]at e1;exact cA (gb (ls:=[.sh (.str "done"),.sh (.lst (km F.ms)),.own (.lst (bf B))]) (aA rfl (aA (ρ1:=W R1 none none mu1) rfl (aA e1 rfl))) rfl rfl) rfl rfl
 have bg:∀{l10 l11 mu},aB cI (aB dM (aa 1) (eC (.int 4))) (eC (.int 21)) (W R1 l10 l11 mu)=some (.sh (.int (p/4%21)),W R1 l10 l11 mu):=mF (cW rfl rfl rfl rfl (mY (by decide) (by decide))) (by decide);obtain⟨mu2,e8⟩:=Yd (mu:=mu1) H;have s8:q8 (W R1 GP none mu1)=some (.nx (W R1 GP GP mu2)):=cA (aU (ls:=[.sh P,.own V,.sh (.int (p/4%21))]) (ρ1:=W R1 GP none mu1) (aA rfl (aA rfl (aA bg rfl))) rfl rfl rfl e8) rfl rfl;obtain⟨mu3,nn,M,et,hn1,Mo,n1,fr⟩:=Pu (mu:=mu2) H;have f1:my (cF 40) (aj (aa 11) (aj (aa 10) ao)) (W R1 GP GP mu2)=some (.sh (.bl true),W R1 GP GP mu2):=by refine Hk (ls:=[.sh (ut F),.sh (ut F)]) (ps:=[ut F,ut F]) (ρ1:=W R1 GP GP mu2) rfl ?_ (qG NG _) rfl;show [aN mu2 40 (ut F),aN mu2 40 (ut F)]=_;rw[NG.res]
 have r1:aN mu3 40 (.ptr nn)=.lst (F.ms.map cB.pv):=by rw[j5 hn1];show PV.lst (M.map (aN mu3 38))=_;rw[Mo.res]
 have f2:(my (cF 40) (aj (aJ rO (aj (aa 5) (aj (aa 3) (aj (aB cI (aB dM (aa 1) (eC (.int 4))) (eC (.int 21))) ao)))) (aj (bH (aa 4) (eC (.str "moments"))) ao))) (W R1 GP GP mu2)=some (.sh (.bl true),W R1 GP GP mu3):=by refine Hk (ls:=[.sh (.ptr nn),.sh (.lst (F.ms.map cB.pv))]) (ps:=[.lst (F.ms.map cB.pv),.lst (F.ms.map cB.pv)]) (ρ1:=W R1 GP GP mu3) (aA (aU (ls:=[.sh P,.sh V,.sh (.int (p/4%21))]) (ρ1:=W R1 GP GP mu2) (aA rfl (aA rfl (aA bg rfl))) rfl rfl rfl et) (aA (g4 (i:=4) (x := "moments") rfl rfl) rfl)) ?_ (qG NM' _) rfl;show [aN mu3 40 (.ptr nn),aN mu3 40 (.lst (F.ms.map cB.pv))]=_;rw[r1,NM'.res]
 exact⟨mu3,aW (ρ:=W R1 GP GP mu3) (aD s0 (aD s1 (aD s2 (aD s3 (aD s4 (aD (ρ':=WV S C Nm Vs R4 PP (zO []) none none none none none mu1) rfl (aD s6 (aD s7 (aD s8 (bL (Vx f1 f2)))))))))))⟩
end
end
section
variable (K:FG) (x qq:Str) (st:Stmt) (f c:Addr)
abbrev Zq:Prop:=∃(oc kV dc pm cd ct:Value) (od an:Option Addr) (sl:Array (Option Value)),K.lookup f=some ⟨oc,od,.func (W.fnOf x qq (oG st) (iU st) (aF st) .none kV dc pm an cd ct),sl⟩/\W.codeIn K cd qq=true/\W.keepIn K (.ref f)=true
abbrev FD:Prop:=∃f,W.nsIn K mainGlobals x=some (some (.ref f))/\Zq K x x st f
abbrev FM:Prop:=∃f,W.findIn K (.ref c) x=some (some (.ref f))/\W.isFn K (.ref f)=true/\Zq K x qq st f
abbrev KC:Prop:=W.nsIn K mainGlobals x=some (some (.ref c))/\W.plainGet K c Str.empty=true/\W.hasDictIn K c=true/\W.plainOver K c=true/\W.findIn K (.ref c) "__setattr__" = some (some (.builtin "object.__setattr__"))/\W.makesIn K c=true/\W.keepIn K (.ref c)=true
abbrev HB (ps:List Str):Prop:=∀(kV doc pm:Value) (an:Option Addr) (cdv ct:Value) (us:List Value),us.length=ps.length->bindArgs (W.fnOf x qq (oG st) (iU st) (aF st) .none kV doc pm an cdv ct) ⟨us,[]⟩=pure (ps.zip us)
end
section
variable {K:FG} {h:Heap} {mg:Str->Option Value} {x qq:Str} {st:Stmt} {c:Addr} {ps:List Str}
theorem jk (X:K.In h) (G:h.Ns mainGlobals mg) (d:FD K x st) (hb:HB x x st ps):cN K mg x st ps:=by obtain⟨f,a,_,_,_,_,_,_,_,_,_,l,e,k⟩:=d;exact⟨_,_,wD l e k,W.mg_of X G a,(wD l e k).binds hb⟩
theorem tQ (d:FM K x qq st c) (hb:HB x qq st ps):pH K c x qq st ps:=by obtain⟨f,a,i,_,_,_,_,_,_,_,_,_,l,e,k⟩:=d;exact⟨_,_,wD l e k,a,i,(wD l e k).binds hb⟩
theorem Zr (X:K.In h) (G:h.Ns mainGlobals mg) (d:KC K x c):tV K mg x c:=⟨d.1,⟨d.2.1,d.2.2.1,d.2.2.2.1,d.2.2.2.2.1⟩,W.mg_of X G d.1⟩
theorem yW {l:List Str} (n:W.findIn K (.ref c) x=some none) (t:∀f∈l,jr K c f):∀f∈x::l,jr K c f:=by
 intro g hg;rcases aaj.mp hg with e | hg
 . rw[e]; exact n
 . exact t g hg
theorem nan:∀f∈([]:List Str),jr K c f:=λ_ h=>nomatch h
theorem bc {l:List Str} (X:K.In h) (G:h.Ns mainGlobals mg) (n:W.nsIn K mainGlobals x=some none) (t:Jx mg l):Jx mg (x::l):=by
 intro g hg;rcases aaj.mp hg with e | hg
 . rw[e]; exact W.mg_none_of X G n
 . exact t g hg
theorem bn:Jx mg []:=λ_ h=>nomatch h
end
local macro_rules | `(tactic| walk_at "b")=>`(tactic| (intro _ _ _ _ _ _ us hl; first | (obtain⟨_,e⟩:=yP hl; subst e; rfl) | (obtain⟨_,_,e⟩:=ln2 hl; subst e; rfl) | (obtain⟨_,_,_,e⟩:=Zc hl; subst e; rfl) | (obtain⟨_,_,_,_,e⟩:=Zd hl; subst e; rfl) | (obtain⟨_,_,_,_,_,e⟩:=ln5 hl; subst e; rfl)))
theorem all_mk {l:W.OpenLaw} {w:World} {K:FG} {h:Heap} {mg:Str->Option Value} {fa:Addr} (X:K.In h) (G:h.Ns mainGlobals mg) (hfa:mg "law" = some (.ref fa))
 (ad3:∃c,KC K "Plan" c/\(W.findIn K (.ref c) "told" = some none/\W.findIn K (.ref c) "lists" = some none/\W.findIn K (.ref c) "heads" = some none)/\FM K "__init__" "Plan.__init__" jK c/\FM K "row" "Plan.row" uf c/\FM K "body" "Plan.body" rG c/\FM K "block" "Plan.block" pW c)
 (adW:∃c,KC K "Running" c/\(W.findIn K (.ref c) "plan" = some none/\W.findIn K (.ref c) "boxes" = some none/\W.findIn K (.ref c) "own" = some none/\W.findIn K (.ref c) "budget" = some none/\W.findIn K (.ref c) "word" = some none/\W.findIn K (.ref c) "moments" = some none/\W.findIn K (.ref c) "due" = some none)/\FM K "__init__" "Running.__init__" j8 c/\FM K "lay" "Running.lay" lJ c/\FM K "lay_body" "Running.lay_body" j9 c/\FM K "step" "Running.step" nO c/\FM K "note" "Running.note" nP c/\FM K "value" "Running.value" mR c/\FM K "give" "Running.give" nQ c/\FM K "spend" "Running.spend" mU c/\FM K "begin" "Running.begin" mV c/\FM K "look" "Running.look" nR c)
 (adH:FD K "blocks_of" tW)
 (adY:FD K "copied" vI)
 (adB:FD K "all_copied" lB)
 (adR:FD K "laid_out" qD)
 (adS:FD K "numbered" vJ)
 (adT:FD K "value_of" qF)
 (adI:FD K "number_at" tX)
 (adU:FD K "reckoned" vK)
 (ady:FD K "can_be_held" pR)
 (ad1:FD K "suits" yt)
 (adv:FD K "refuse_input" oO)
 (adZ:FD K "filled" zF)
 (adX:FD K "emptied" tB)
 (adw:FD K "gone_through" oR)
 (adJ:FD K "record_of" oZ)
 (ad4:FD K "run" Lk)
 (ad0:FD K "traced" zG)
 (adK:FD K "_law_cell" tY)
 (adz:FD K "_law_number" pU)
 (adC:FD K "_law_alike" lC)
 (adL:FD K "_law_leaf" tZ)
 (ade:FD K "_law_expression" lO)
 (adf:FD K "_law_leaf_worth" lQ)
 (adD:FD K "_law_worth" rE)
 (adM:FD K "_law_open" uc)
 (adN:FD K "_law_shut" ud)
 (adV:FD K "_law_set" vL)
 (adO:FD K "_law_laid" ue)
 (ad5:FD K "law" nM)
 (z0:W.nsIn K mainGlobals "ValueError" = some none)
 (z1:W.nsIn K mainGlobals "all" = some none)
 (z2:W.nsIn K mainGlobals "bool" = some none)
 (z3:W.nsIn K mainGlobals "dict" = some none)
 (z4:W.nsIn K mainGlobals "enumerate" = some none)
 (z5:W.nsIn K mainGlobals "int" = some none)
 (z6:W.nsIn K mainGlobals "isinstance" = some none)
 (z7:W.nsIn K mainGlobals "len" = some none)
 (z8:W.nsIn K mainGlobals "list" = some none)
 (z9:W.nsIn K mainGlobals "max" = some none)
 (z10:W.nsIn K mainGlobals "range" = some none)
 (z11:W.nsIn K mainGlobals "reversed" = some none)
 (z12:W.nsIn K mainGlobals "str" = some none)
 (z13:W.nsIn K mainGlobals "tuple" = some none)
 (z14:W.nsIn K mainGlobals "zip" = some none)
 (ad2:∃t,W.nsIn K mainGlobals "LIMIT" = some (some (.int 1000000000000 t)))
 (HL:∀[HK] (ns:List Int),ns.length<=63->∃mu,Lp [.lst (ns.map PV.int)] []=some (.sh (.bl true),mu))
 : ∃fd:FuncData,(∀(s:Shared) (v:Value),BindsTo s fd ⟨[v],[]⟩ [("_law_script",v)])/\∀base:Heap,K.In base->base.Ns mainGlobals mg->mK l.prog w K mg base ou 88 fa fd ["_law_script"] (Fx K):=by
 letI:HK:=⟨Av l.prog w⟩
 have hkx:HK.hk=Av l.prog w:=rfl;obtain⟨acw,adE,⟨n0,n1,n2⟩,adk,adP,adF,adA⟩:=ad3;have acp:=Zr X G adE;have acq:=yW n0 (yW n1 (yW n2 (nan)));obtain⟨acr,adc,⟨n0,n1,n2,n3,n4,n5,n6⟩,ac9,adx,ada,ado,adp,adl,adq,adm,adn,adt⟩:=adW;have acl:=Zr X G adc;have acn:=yW n0 (yW n1 (yW n2 (yW n3 (yW n4 (yW n5 (yW n6 (nan)))))));have B:Jx mg BL:=bc X G z0 (bc X G z1 (bc X G z2 (bc X G z3 (bc X G z4 (bc X G z5 (bc X G z6 (bc X G z7 (bc X G z8 (bc X G z9 (bc X G z10 (bc X G z11 (bc X G z12 (bc X G z13 (bc X G z14 (bn)))))))))))))));have aco:∃t,mg "LIMIT" = some (.int 1000000000000 t):=ad2.imp λ_ y=>W.mg_of X G y;obtain⟨_,a,_,kV,dc,pm,cd,ct,_,an,_,lk,ce,kp⟩:=ad5;have e:=hfa.symm.trans (W.mg_of X G a);cases e;refine⟨W.fnOf "law" "law" (oG nM) (iU nM) (aF nM) .none kV dc pm an cd ct,λs v=>.of_eq rfl,λbase _ _=>?_⟩;have acG:=Ht (base:=base) B aco acp acq acl acn hkx (jk X G adH (by walk_at "b"));have adG:=Bv (base:=base) B aco acp acq acl acn hkx (jk X G adY (by walk_at "b")) (jk X G adB (by walk_at "b")) 40;have acK:=adG.1;have acS:=adG.2;have acL:=xT (base:=base) B aco acp acq acl acn hkx (jk X G adR (by walk_at "b")) acG acK 40;have ac7:=Ja (base:=base) B aco acp acq acl acn hkx (jk X G adS (by walk_at "b")) acL;have acH:=Hu (base:=base) B aco acp acq acl acn hkx (jk X G adI (by walk_at "b"));have acM:=Jb (base:=base) B aco acp acq acl acn hkx (jk X G adU (by walk_at "b"));have acF:=xU (base:=base) B aco acp acq acl acn hkx (jk X G adT (by walk_at "b")) acH acM 40;have acO:=Dj (base:=base) B aco acp acq acl acn hkx (jk X G ady (by walk_at "b"));have adu:=Rj (base:=base) B aco acp acq acl acn hkx (jk X G ad1 (by walk_at "b")) acO;have acW:=Bw (base:=base) B aco acp acq acl acn hkx (jk X G adv (by walk_at "b")) adu;have adh:=Oq (base:=base) B aco acp acq acl acn hkx (jk X G adZ (by walk_at "b"));have adb:=Lr (base:=base) B aco acp acq acl acn hkx (jk X G adX (by walk_at "b"));have acP:=SQ (yG (base:=base) B aco acp acq acl acn hkx (tQ adk (by walk_at "b")) ac7) adE.2.2.2.2.2.1 adE.2.2.2.2.2.2;have acZ:=Fg (base:=base) B aco acp acq acl acn hkx (tQ adF (by walk_at "b"));have acs:=Bx (base:=base) B aco acp acq acl acn hkx (tQ adx (by walk_at "b"));have acI:=vR (base:=base) B aco acp acq acl acn hkx (tQ ada (by walk_at "b")) acZ acs;have acJ:=SQ (vU (base:=base) B aco acp acq acl acn hkx (tQ ac9 (by walk_at "b")) acP acI adh) adc.2.2.2.2.2.1 adc.2.2.2.2.2.2;have acA:=Dk (base:=base) B aco acp acq acl acn hkx (tQ adA (by walk_at "b"));have ac1:=Hv (base:=base) B aco acp acq acl acn hkx (tQ adP (by walk_at "b"));have acT:=zK (base:=base) B aco acp acq acl acn hkx (tQ adq (by walk_at "b"));have acQ:=yH (base:=base) B aco acp acq acl acn hkx (tQ adm (by walk_at "b"));have acu:=yI (base:=base) B aco acp acq acl acn hkx (tQ adl (by walk_at "b")) acF;have acU:=zM (base:=base) B aco acp acq acl acn hkx (tQ adt (by walk_at "b")) acA acs acQ acu;have acv:=zN (base:=base) B aco acp acq acl acn hkx (tQ adp (by walk_at "b"));have acR:=yJ (base:=base) B aco acp acq acl acn hkx (tQ adn (by walk_at "b")) acA ac1 acT acs acU acv acu;have acV:=zP (base:=base) B aco acp acq acl acn hkx (tQ ado (by walk_at "b")) acR acv;have acz:=By (base:=base) B aco acp acq acl acn hkx (jk X G adw (by walk_at "b")) acJ acV acW;have ac2:=Hw (base:=base) B aco acp acq acl acn hkx (jk X G adJ (by walk_at "b"));have adQ:=Xx (base:=base) B aco acp acq acl acn hkx (jk X G ad4 (by walk_at "b")) adb acz ac2;have adi:=Ot (base:=base) B aco acp acq acl acn hkx (jk X G ad0 (by walk_at "b")) acz;have acy:=Hx (base:=base) B aco acp acq acl acn hkx (jk X G adK (by walk_at "b"));have acB:=Dl (base:=base) B aco acp acq acl acn hkx (jk X G adz (by walk_at "b"));have acD:=uP (base:=base) B aco acp acq acl acn hkx (jk X G adC (by walk_at "b")) 40;have acN:=Hy (base:=base) B aco acp acq acl acn hkx (jk X G adL (by walk_at "b")) acB;have acC:=xV (base:=base) B aco acp acq acl acn hkx (jk X G ade (by walk_at "b")) acN;have acx:=xW (base:=base) B aco acp acq acl acn hkx (jk X G adf (by walk_at "b"));have acE:=Fj (base:=base) B aco acp acq acl acn hkx (jk X G adD (by walk_at "b")) acx;have ac3:=Hz (base:=base) B aco acp acq acl acn hkx (jk X G adM (by walk_at "b")) acE;have acX:=HD (base:=base) B aco acp acq acl acn hkx (jk X G adN (by walk_at "b"));have ac8:=Jd (base:=base) B aco acp acq acl acn hkx (jk X G adV (by walk_at "b")) acE;have ac4:=HF (base:=base) B aco acp acq acl acn hkx (jk X G adO (by walk_at "b")) acy acC ac3 ac8 acX;exact Xb (Xy (base:=base) B aco acp acq acl acn hkx (wD (st:=nM) lk ce kp) acD acy ac4 acB adQ adi) HL
theorem walk {l:W.OpenLaw} {q:Program} {loose:List Str} {XP:(Str->Option Value)->Heap->Prop} {YP:World->Heap->Prop} {d:DefRec} {K:Params->FG} (hn:l.most=some 63) (hdf:d.params.defaults=[])
 (hY:∀(w:World) (h:Heap),YP w h->(K w.params).In h)
 (F:∀(w:World) (mg:Str->Option Value) (fa:Addr) (h:Heap),(K w.params).In h->h.Ns mainGlobals mg->mg d.name=some (.ref fa)->
   ∃fd:FuncData,(∀(s:Shared) (u:Value),BindsTo s fd ⟨[u],[]⟩ [("_law_script",u)])/\∀base:Heap,(K w.params).In base->base.Ns mainGlobals mg->mK l.prog w (K w.params) mg base ou 88 fa fd ["_law_script"] (Fx (K w.params))):
 W.WalkO q loose XP YP l.row.toRowW d [] (λf vs=>PySem.call f vs):=
 L2.walk_of (n:=63) (k:=88) (x := "_law_script") (CX:=λ_=>ou) (sp:=λw=>Fx (K w.params)) hn (by decide) hdf ⟨λ_=>rfl,by decide,by decide,rfl⟩ hY F (λ_ _ a ns hl _ hS=>⟨a,ns,rfl,hS,hl,λ_=>rfl⟩) λ_ _ _ _ _ z=>z
end Law
end
namespace PySem.W.Fast
def tw4860244941246817508:=0
def tw17545925044289853301:=0
def tw143892663861832417:=0
def tw8831647672592092595:=0
def tw4288824367980759952:=0
def tw11090299159704324697:=0
def tw1808113881140044845:=0
def tw5295620484898651358:=0
def tw12297858309646976191:=0
def tw9686869131024963270:=0
def tw10845111334564407702:=0
def tw12441903065788329719:=0
def tw1871878386907272481:=0
def tw4074039057432098074:=0
def tw16380569127091633608:=0
def tw16759348089676442308:=0
def tw15445750703355171695:=0
def tw4261101848241730509:=0
def tw2831417733166971436:=0
def tw17256390866106479665:=0
def tw5549518063019953123:=0
def tw4895494104433451647:=0
def tw4082938706032244597:=0
def tw3752135644639053673:=0
def tw10206899910979712500:=0
end PySem.W.Fast
open PySem PySem.W PyProof.Rows
local macro_rules | `(tactic| walk_at "m")=>`(tactic| exact ⟨_,by k_is,by k_is,_,_,_,_,_,_,_,_,_,by k_is,by k_is,by k_is⟩)
local macro_rules | `(tactic| walk_at "d")=>`(tactic| exact ⟨_,by k_is,_,_,_,_,_,_,_,_,_,by k_is,by k_is,by k_is⟩)
set_option maxRecDepth 100000 in
set_option maxHeartbeats 0 in
theorem PySem.Challenge.cw_hushwise_k25_choices_holds : PySem.Challenge.rw_hushwise_k25_choices.Holds := by
 w_on; o_law; k_head; (case hw=>w_witness2)
 k_fill
 refine Law.walk (l:=PySem.Challenge.rw_hushwise_k25_choices) rfl rfl (fun w h Y=>W.kIn_of Y) ?F
 case F=>
  intro w mg fa h KX G hmg
  refine' Law.all_mk KX G hmg ?_ ?_ ?_ ?_ ?_ ?_ ?_ ?_ ?_ ?_ ?_ ?_ ?_ ?_ ?_ ?_ ?_ ?_ ?_ ?_ ?_ ?_ ?_ ?_ ?_ ?_ ?_ ?_ ?_ ?_ ?_ ?_ ?_ ?_ ?_ ?_ ?_ ?_ ?_ ?_ ?_ ?_ ?_ ?_ ?_ ?_ ?_ Law.law_true
  exact ⟨_,⟨by k_is,by k_is,by k_is,by k_is,by k_is,by k_is,by k_is⟩,⟨by k_is,by k_is,by k_is⟩,by walk_at "m",by walk_at "m",by walk_at "m",by walk_at "m"⟩
  exact ⟨_,⟨by k_is,by k_is,by k_is,by k_is,by k_is,by k_is,by k_is⟩,⟨by k_is,by k_is,by k_is,by k_is,by k_is,by k_is,by k_is⟩,by walk_at "m",by walk_at "m",by walk_at "m",by walk_at "m",by walk_at "m",by walk_at "m",by walk_at "m",by walk_at "m",by walk_at "m",by walk_at "m"⟩
  iterate 29 walk_at "d"
  iterate 15 k_is
  iterate 1 exact ⟨_,by k_is⟩
