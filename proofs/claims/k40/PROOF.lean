import PyProof.Rows.All
import Wide.All
import OpenK.AllK
import Wide.FinOn
import Lean
import PyProof.EqAt
import PyProof.EqKinds
import PyProof.TupleCall
import PyProof.NeKinds
import PyProof.StrBlockI
import PyProof.WalksEnum
import PyProof.EnumMake
import PyProof.ZipIter
import PyProof.Rows.SortStr
import PyProof.Rows.SetFrom
import PyProof.CollectWalk
import PyProof.SetRoads
import PyProof.DictWalks
import PyProof.SumWalk
import PyProof.Rows.SumGenD
import PyProof.DictItems
import KE.KRevIter
import PyProof.Rows.FStrParts
import PyProof.StationsW
import PyProof.ReprRoads
import PyProof.ReprLen
import PyProof.ReprStr
import PyProof.StrLawsRepr
import PyProof.FString
import KE.KIsAll
import PyProof.ListRange
import PyProof.Rows.StrSplitAre
import KE.KIntText
import OpenK.KTop
import KE.KEqDict
import PyProof.AutoSeq1
import PyProof.StrCalls
import PySem.Challenge.RW_hushwise_k40_told_nodes
set_option Elab.async false
set_option linter.all false
set_option bootstrap.genMatcherCode false
set_option genSizeOf false
set_option compiler.extract_closed false
set_option maxRecDepth 100000
set_option maxHeartbeats 8000000
noncomputable section
abbrev FG:=PySem.W.Frag
section
open PySem PySem.Spec PyProof.Rows
abbrev aaa:=@Option.bind_some
abbrev aab:=@List.mem_cons_self
abbrev aac:=@List.length_cons
abbrev aad:=@List.length_map
abbrev aah:=@List.mem_cons
abbrev aai:=@List.mem_cons_of_mem
abbrev aaj:=@List.getElem?_eq_getElem
abbrev aak:=@Heap.get?_push_of_some
abbrev aal:=@List.getElem?_eq_some_iff
abbrev aam:=@List.size_toArray
abbrev aan:=@Nat.le_refl
abbrev aao:=@List.map_cons
abbrev aap:=@Option.some.inj
abbrev aaq:=@List.length_append
abbrev aar:=@List.mem_map
abbrev aas:=@List.sublist_cons_self
abbrev aat:=@Heap.get?_push_size
abbrev aau:=@Heap.lt_size
abbrev aav:=@List.length_nil
abbrev aaw:=@List.mem_of_getElem?
abbrev aax:=@PassesOwn.never
abbrev aay:=@List.getElem?_map
abbrev aaz:=@List.map_append
abbrev aaA:=@Bool.and_eq_true
abbrev aaB:=@Nat.lt_of_lt_of_le
abbrev aaC:=@List.append_assoc
abbrev aaD:=@List.map_map
abbrev aaE:=@List.nil_append
abbrev aaF:=@List.mem_singleton
abbrev aaG:=@List.mem_append_right
abbrev aaH:=@List.mem_append
abbrev aaI:=@Nat.ne_of_lt
abbrev aaJ:=@List.length_range
abbrev aaK:=@List.getElem?_set_self
abbrev aaL:=@Nat.le_trans
abbrev aaM:=@List.mem_append_left
abbrev aaN:=@List.mem_filterMap
abbrev aaO:=@List.length_reverse
abbrev aaP:=@List.filterMap_cons_none
abbrev aaQ:=@Int.emod_lt_of_pos
abbrev aaR:=@List.lookup_cons
abbrev aaS:=@List.nodup_cons
abbrev aaT:=@List.sublist_append_left
abbrev aaU:=@List.getElem?_append_right
abbrev aaV:=@Bool.false_ne_true
abbrev aaW:=@List.append_nil
abbrev aaX:=@List.foldl_cons
abbrev aaY:=@List.prefix_refl
abbrev aaZ:=@List.perm_middle
abbrev aa0:=@Int.emod_nonneg
abbrev aa1:=@Bool.false_eq_true
abbrev aa2:=@PySem.F.plainAttrs_list
abbrev aa3:=@List.cons_append
abbrev aa4:=@List.length_take
abbrev aa5:=@Array.length_toList
abbrev aa6:=@Nat.zero_le
abbrev aa7:=@List.length_drop
abbrev aa8:=@List.zip_cons_cons
abbrev aa9:=@Nat.ne_of_gt
abbrev aba:=@Nat.lt_irrefl
abbrev abb:=@List.set_set
abbrev abd:=@List.of_mem_zip
abbrev abe:=@List.find?_cons
abbrev abf:=@Option.map_some
abbrev abg:=@Nat.le_of_succ_le
abbrev abh:=@Nat.lt_succ_of_lt
abbrev abi:=@List.Sublist.refl
abbrev abj:=@List.sublist_append_right
abbrev abk:=@Heap.size_push
abbrev abl:=@PySem.boot_len
abbrev abm:=@Nat.lt_succ_self
abbrev abn:=@Option.isSome_iff_exists
abbrev abo:=@PySem.mem_of_lookup
abbrev abp:=@List.map_congr_left
abbrev abq:=@List.zip_append
abbrev abr:=@Heap.get?_update_other
abbrev abt:=@List.take_of_length_le
abbrev abu:=@List.nodup_append
abbrev abv:=@List.perm_append_comm
abbrev abw:=@List.getElem?_append_left
abbrev abx:=@List.drop_eq_getElem_cons
abbrev aby:=@List.map_nil
abbrev abz:=@Nat.lt_of_le_of_lt
abbrev abA:=@Int.toNat_natCast
abbrev abB:=@Nat.le_succ
abbrev abC:=@Nat.le_of_not_lt
abbrev abD:=@List.getElem?_eq_none
abbrev abE:=@W.kia_one
abbrev abF:=@List.getElem?_set_ne
abbrev abG:=@List.length_set
abbrev abH:=@List.eq_nil_of_length_eq_zero
abbrev abI:=@List.filterMap_cons
abbrev abJ:=@List.nodup_nil
abbrev abK:=@List.prefix_append
abbrev abL:=@List.any_cons
abbrev abM:=@Nat.le_of_lt
abbrev abN:=@W.cellsFrom_some
abbrev abO:=@Option.getD_some
abbrev abP:=@Nat.succ.inj
abbrev abQ:=@wpAny_bind
abbrev abR:=@if_pos
abbrev abS:=@if_neg
abbrev abT:=@wpAny_pure
abbrev abU:=@decide_eq_false
abbrev abV:=@decide_eq_true
abbrev abW:=@beq_eq_false_iff_ne
abbrev abX:=@beq_self_eq_true
end
namespace L2
open PySem PySem.Spec PyProof.Rows
variable {adG:List (Addr×Obj)} {E:Value->Shared->Prop} {s:Shared} {A:Around} {w:World} {P:Program}
abbrev Key:=Sum Int Str
def xR:Key->Value->Bool
 | .inl k,v=>Value.isInt k v
 | .inr x,v=>Value.isStrOf x v
def Zh (w:World):Key->Int
 | .inl k=>hashInt k
 | .inr x=>hashStr w x
theorem gf:∀{k:Key} {v:Value},xR k v=true->(∃i t,k=Sum.inl i/\v=Value.int i t)\/(∃x t,k=Sum.inr x/\v=Value.str x t)
 | .inl i,v,h=>by obtain⟨t,e⟩:=Value.isInt_shape h;exact .inl ⟨i,t,rfl,e⟩
 | .inr x,v,h=>by obtain⟨t,e⟩:=Value.isStrOf_shape h;exact .inr ⟨x,t,rfl,e⟩
theorem MJ (i:Int) (t:Tok):xR (.inl i) (.int i t)=true:=by simp[xR,Value.isInt]
theorem MK (x:Str) (t:Tok):xR (.inr x) (.str x t)=true:=by simp[xR,Value.isStrOf]
theorem Vr (a b:Int):decide ((Sum.inl a:Key)=Sum.inl b)=(a==b):=by
 by_cases e:a=b
 . subst e; simp
 . have h:¬ (Sum.inl a:Key)=Sum.inl b:=λq=>e (Sum.inl.inj q);rw[abU h];exact(abW.mpr e).symm
theorem Vs (a b:Str):decide ((Sum.inr a:Key)=Sum.inr b)=decide (a=b):=by
 by_cases e:a=b
 .  simp
 . have h:¬ (Sum.inr a:Key)=Sum.inr b:=λq=>e (Sum.inr.inj q);rw[abU h,abU e]
theorem Vt (a:Int) (b:Str):decide ((Sum.inl a:Key)=Sum.inr b)=false:=abU (λq=>nomatch q)
theorem Vu (a:Str) (b:Int):decide ((Sum.inr a:Key)=Sum.inl b)=false:=abU (λq=>nomatch q)
def dD (prog:Program) (w:World):PySem.KeyKind prog w Key where
 is:=xR
 hash:=Zh w
 inj:=λv a b ha hb=>by
  rcases gf ha with ⟨i,t,rfl,rfl⟩ | ⟨x,t,rfl,rfl⟩
  . rcases gf hb with ⟨j,u,rfl,e⟩ | ⟨y,u,rfl,e⟩
    . injection e with e1 _; rw[e1]
    . exact nomatch e
  . rcases gf hb with ⟨j,u,rfl,e⟩ | ⟨y,u,rfl,e⟩
    . exact nomatch e
    . injection e with e1 _; rw[e1]
 byValue:=λk v h=>by rcases gf h with ⟨i,t,rfl,rfl⟩ | ⟨x,t,rfl,rfl⟩<;>rfl
 pyHash:=λhv h=>by
  rcases gf hv with ⟨i,t,rfl,rfl⟩ | ⟨x,t,rfl,rfl⟩
  . exact wpAny_pyHash_int h
  . exact wpAny_pyHash_str h
 eqBool:=λhu hv h=>by
  rcases gf hu with ⟨i,t,rfl,rfl⟩ | ⟨x,t,rfl,rfl⟩
  . rcases gf hv with ⟨j,u,rfl,rfl⟩ | ⟨y,u,rfl,rfl⟩
    . rw[Vr]at h; exact wpAny_eqBool_int h
    . rw[Vt]at h; exact SeqAt.EqAt.int_str i t y u _ _ _ _ h
  . rcases gf hv with ⟨j,u,rfl,rfl⟩ | ⟨y,u,rfl,rfl⟩
    . rw[Vu]at h; exact SeqAt.EqAt.str_int x t j u _ _ _ _ h
    . rw[Vs]at h; exact wpAny_eqBool_str h
 «strs»:=λk x t v h=>by
  rcases gf h with ⟨i,u,rfl,e⟩ | ⟨y,u,rfl,e⟩
  . exact nomatch e
  . injection e with e1 _;subst e1;cases v<;>rfl
theorem Jj (prog:Program) (w:World) (i:Int) (t:Tok):(dD prog w).is (.inl i) (.int i t)=true:=MJ i t
theorem Jk (prog:Program) (w:World) (x:Str) (t:Tok):(dD prog w).is (.inr x) (.str x t)=true:=MK x t
inductive V where
 | non | bl (b:Bool) | int (i:Int) | str (x:Str) | byt (b:Array UInt8) | flt (b:UInt64) | ref (a:Addr) | ty (n:String)
 deriving DecidableEq
def RelV:V->Value->Prop
 | .non,u=>u=Value.none
 | .bl b,u=>u=Value.bool b
 | .int i,u=>∃t,u=Value.int i t
 | .str x,u=>∃t,u=Value.str x t
 | .byt b,u=>∃t,u=Value.bytes b t
 | .flt b,u=>∃t,u=Value.float b t
 | .ref a,u=>u=Value.ref a
 | .ty n,u=>u=Value.type n
abbrev Vals:List V->List Value->Prop:=Paired RelV
theorem Vals.length (r:Vals xs us):xs.length=us.length:=Paired.length r
theorem Vals.get:∀{xs:List V} {us:List Value} {i:Nat} {x:V},Vals xs us->xs[i]?=some x->∃u,us[i]?=some u/\RelV x u
 | _,_,_,_,.nil,e=>by simp at e
 | _,_,0,_,.cons r _,e=>by simp at e; subst e; exact⟨_,rfl,r⟩
 | _,_,i+1,x,.cons _ t,e=>by obtain⟨u,h1,h2⟩:=Vals.get t (by simpa using e);exact⟨u,by simpa using h1,h2⟩
theorem Vals.set (r:RelV x u):∀{xs:List V} {us:List Value} (i:Nat),Vals xs us->Vals (xs.set i x) (us.set i u)
 | _,_,_,.nil=>.nil
 | _,_,0,.cons _ t=>.cons r t
 | _,_,i+1,.cons q t=>.cons q (Vals.set r i t)
theorem Vals.append:∀{xs ys:List V} {us ws:List Value},Vals xs us->Vals ys ws->Vals (xs++ys) (us++ws)
 | _,_,_,_,.nil,s=>s
 | _,_,_,_,.cons r t,s=>.cons r (Vals.append t s)
theorem Vals.take:∀{xs:List V} {us:List Value} (n:Nat),Vals xs us->Vals (xs.take n) (us.take n)
 | _,_,0,_=>.nil
 | _,_,_+1,.nil=>.nil
 | _,_,n+1,.cons r t=>.cons r (Vals.take n t)
theorem Vals.drop:∀{xs:List V} {us:List Value} (n:Nat),Vals xs us->Vals (xs.drop n) (us.drop n)
 | _,_,0,r=>r
 | _,_,_+1,.nil=>.nil
 | _,_,n+1,.cons _ t=>Vals.drop n t
def mR:Option V->Option Value->Prop
 | some v,some u=>RelV v u
 | none,none=>True
 | _,_=>False
def KV {κ:Type}:List (κ×V)->List (κ×Value)->Prop:=Paired λ(p:κ×V) (q:κ×Value)=>p.1=q.1/\RelV p.2 q.2
def kV:Key->V
 | .inl i=>.int i
 | .inr x=>.str x
inductive HO where
 | lst (xs:List V)
 | tup (xs:List V)
 | dK (kvs:List (Key×V)) | dT (kvs:List (List Key×V))
 | set (S:Int->Bool) (n:Nat)
 | ins (C dx:Addr) (fs:List (Str×V))
 | own (x:Addr)
 | xd (fs:List (Str×V))
 | met (f x:Addr)
 | rng (lo hi:Int)
 | frz (o:Obj) (u:HO)
 | tbl (ps:Array Value)
 | ext (φ:Heap->Prop)
abbrev Hp:=Addr->Option HO
def upd (H:Hp) (a:Addr) (o:HO):Hp:=λb=>if b=a then some o else H b
theorem cg:upd H a o a=some o:=by unfold upd; rw[abR rfl]
theorem bO (h:b≠a):upd H a o b=H b:=by unfold upd; rw[abS h]
theorem X5 {H:Hp} (h:H a=some o) (h':H b=some u) (d:o≠u):a≠b:=by intro e; subst e; rw[h]at h'; exact d (aap h')
theorem cO {H:Hp} (h:H a=some o) (h':H b=none):a≠b:=by intro e; subst e; rw[h]at h'; cases h'
section
variable (P:Program) (w:World)
def gj (H:Hp) (h:Heap) (a:Addr):HO->Prop
 | .lst xs=>xs.length<=sizeLine/\∃(its:List Value) (n:Nat),Vals xs its/\h.get? a=some { cls:=.type "list",data:=.seq its.toArray n }
 | .tup xs=>xs.length<=sizeLine/\∃its:List Value,Vals xs its/\IsTup h a its.toArray
 | .dK kvs=>kvs.length<=sizeLine/\(a==sysModules)=false/\∃vs,KV kvs vs/\h.DictOf (dD P w) a vs
 | .dT kvs=>kvs.length<=sizeLine/\(a==sysModules)=false/\∃xs:List (List Key×Addr×Value),
  Paired (λ(p:List Key×V) (q:List Key×Addr×Value)=>p.1=q.1/\H q.2.1=some (.tup (p.1.map kV))/\RelV p.2 q.2.2) kvs xs/\
  ∃o es ep,h.get? a=some o/\o.ExactDict/\o.data=.dict es ep/\es.toList=xs.map (entryOfKey (tupleKind (dD P w)))/\(xs.map (·.1)).Nodup
 | .set S n=>h.SetOf (intKind P w) a S n
 | .ins C dx fs=>H dx=some (.own a)/\fs.length<=1000/\dx≠a/\h.get? a=some (W.instObj C dx)/\
  ∃mA,h.Ns1 dx mA/\(∀f,mR (fs.lookup f) (mA f))/\PySem.Within mA (fs.map (·.1))
 | .own _=>∃o,h.get? a=some o
 | .xd fs=>∃mA,h.Ns1 a mA/\∀f,mR (fs.lookup f) (mA f)
 | .rng lo hi=>∃t u v,h.get? a=some { cls:=.type "range",data:=.fields #[.int lo t,.int hi u,.int 1 v] }
 | .frz o u=>h.get? a=some o/\gj H h a u
 | .tbl ps=>h.get? a=some { cls:=.none,data:=.fields ps }
 | .met f x=>h.get? a=some (W.methodObj (.ref f) (.ref x))
 | .ext φ=>φ h/\(∃o,h.get? a=some o)/\∀h1 h2:Heap,φ h1->(∀o,h1.get? a=some o->h2.get? a=some o)->φ h2
def iz (H:Hp) (h:Heap):Prop:=∀a o,H a=some o->gj P w H h a o
end
section
variable {P:Program} {w:World} {H H':Hp} {h h':Heap} {a:Addr} {o:HO}
theorem gj.lt (x:gj P w H h a o):a<h.objs.size:=by
 cases o with
 | lst xs=>obtain⟨_,_,_,_,e⟩:=x; exact aau e
 | tup xs=>obtain⟨_,_,_,p⟩:=x; exact p.lt
 | dK kvs=>obtain⟨_,_,_,_,o,_,_,e,_⟩:=x; exact aau e
 | dT kvs=>obtain⟨_,_,_,_,o,_,_,e,_⟩:=x; exact aau e
 | set S n=>obtain⟨o,_,_,_,e,_⟩:=x; exact aau e
 | ins C dx fs=>obtain⟨_,_,_,e,_⟩:=x; exact aau e
 | own y=>obtain⟨_,e⟩:=x; exact aau e
 | xd fs=>obtain⟨_,⟨_,_,_,e,_⟩,_⟩:=x; exact aau e
 | rng lo hi=>obtain⟨_,_,_,e⟩:=x; exact aau e
 | frz ob u=>obtain⟨e,_⟩:=x; exact aau e
 | tbl ps=>exact aau (x)
 | met f y=>exact aau (x)
 | ext φ=>obtain⟨_,⟨_,e⟩,_⟩:=x; exact aau e
theorem Paired.mapP:∀{l₁:List α} {l₂:List β},Paired F l₁ l₂->(∀a b,F a b->G a b)->Paired G l₁ l₂
 | _,_,.nil,_=>.nil
 | _,_,.cons r t,f=>.cons (f _ _ r) (Paired.mapP t f)
theorem gj.stay (x:gj P w H h a o) (k:∀b u,(b=a\/H b=some (.own a))->h.get? b=some u->h'.get? b=some u)
 (ho:∀b,H b=some (.own a)->H' b=some (.own a)) (ht:∀b xs,H b=some (.tup xs)->H' b=some (.tup xs)):gj P w H' h' a o:=by
 induction o with
 | lst xs=>obtain⟨z,its,n,r,e⟩:=x; exact⟨z,its,n,r,k _ _ (.inl rfl) e⟩
 | tup xs=>obtain⟨z,its,r,ob,e,c⟩:=x; exact⟨z,its,r,ob,k _ _ (.inl rfl) e,c⟩
 | dK kvs=>obtain⟨z,y,vs,r,ob,es,ep,e,c⟩:=x; exact⟨z,y,vs,r,ob,es,ep,k _ _ (.inl rfl) e,c⟩
 | dT kvs=>
  obtain⟨z,y,xs,r,ob,es,ep,e,c⟩:=x;exact⟨z,y,xs,Paired.mapP r λp q z=>⟨z.1,ht _ _ z.2.1,z.2.2⟩,ob,es,ep,k _ _ (.inl rfl) e,c⟩
 | set S n=>obtain⟨ob,es,ep,t,e,c⟩:=x; exact⟨ob,es,ep,t,k _ _ (.inl rfl) e,c⟩
 | ins C dx fs=>
  obtain⟨d,z,ne,e,mA,⟨od,es,ep,e2,c⟩,r⟩:=x;exact⟨ho _ d,z,ne,k _ _ (.inl rfl) e,mA,⟨od,es,ep,k _ _ (.inr d) e2,c⟩,r⟩
 | own y=>obtain⟨ob,e⟩:=x; exact⟨ob,k _ _ (.inl rfl) e⟩
 | xd fs=>obtain⟨mA,⟨od,es,ep,e,c⟩,r⟩:=x; exact⟨mA,⟨od,es,ep,k _ _ (.inl rfl) e,c⟩,r⟩
 | rng lo hi=>obtain⟨t,u,v,e⟩:=x; exact⟨t,u,v,k _ _ (.inl rfl) e⟩
 | frz ob u ih=>obtain⟨e,q⟩:=x; exact⟨k _ _ (.inl rfl) e,ih q⟩
 | tbl ps=>
  have e:=x;exact k a _ (.inl rfl) e
 | met f y=>
  have e:=x;exact k a _ (.inl rfl) e
 | ext φ=>obtain⟨p,⟨o,e⟩,st⟩:=x; exact⟨st _ _ p λo q=>k _ _ (.inl rfl) q,⟨o,k _ _ (.inl rfl) e⟩,st⟩
theorem iz.lt (x:iz P w H h) (e:H a=some o):a<h.objs.size:=(x a o e).lt
theorem iz.fresh (x:iz P w H h) (e:h.objs.size<=a):H a=none:=by
 cases q:H a with
 | none=>rfl
 | some u=>exact absurd (aaB (x.lt q) e) (aba _)
theorem iz.kept (x:iz P w H h) (k:∀b u,h.get? b=some u->h'.get? b=some u):iz P w H h':=λa o e=>
 (x a o e).stay (λb u _ q=>k b u q) (λ_ q=>q) λ_ _ q=>q
theorem iz.laid (x:iz P w H h) (k:∀b u,h.get? b=some u->h'.get? b=some u) (hp:h.objs.size<=a) (new:gj P w (upd H a o) h' a o):iz P w (upd H a o) h':=λb u e=>by
 have hn:=x.fresh hp;by_cases hb:b=a
 . subst hb; rw[cg]at e; cases e; exact new
 . rw[bO hb]at e;exact(x b u e).stay (λc v _ q=>k c v q) (λc q=>by rw[bO (cO q hn)]; exact q) λc xs q=>by rw[bO (cO q hn)]; exact q
end
def Rd (H:Hp) (a:Addr) (u:HO):Prop:=H a=some u\/∃o,H a=some (.frz o u)
theorem Rd.ok (r:Rd H a u) (x:iz P w H h):gj P w H h a u:=by
 rcases r with r | ⟨o,r⟩
 . exact x a u r
 . obtain⟨_,q⟩:=x a _ r;exact q
def MN:Option HO->Prop
 | some (.lst _)=>True
 | some (.dK _)=>True
 | some (.dT _)=>True
 | some (.set _ _)=>True
 | some (.ins _ _ _)=>True
 | some (.ext _)=>True
 | _=>False
section
variable {P:Program} {w:World} {H:Hp} {h h':Heap} {x e:Addr} {o':HO}
theorem iz.write (ok:iz P w H h) (mu:MN (H x)) (he:e=x\/H e=some (.own x)) (k:∀b u,b≠e->h.get? b=some u->h'.get? b=some u) (heo:∃u,h'.get? e=some u)
 (new:gj P w (upd H x o') h' x o'):iz P w (upd H x o') h':=λb u q=>by
 have nown:∀c y,H c=some (.own y)->c≠x:=λc y r z=>by subst z; rw[r]at mu; exact mu
 have ntup:∀c xs,H c=some (.tup xs)->c≠x:=λc xs r z=>by subst z; rw[r]at mu; exact mu
 by_cases hb:b=x
 . subst hb; rw[cg]at q; cases q; exact new
 . rw[bO hb]at q;by_cases hbe:b=e
   . have q':H b=some (.own x):=by
      rcases he with z | z
      . exact absurd (hbe.trans z) hb
      . rw[hbe]; exact z
     rw[q]at q'; cases q';obtain⟨v,hv⟩:=heo;exact⟨v,by rw[hbe]; exact hv⟩
   . refine(ok b u q).stay (λc v hc r=>k c v ?_ r) (λc r=>by rw[bO (nown c b r)]; exact r) λc xs r=>by rw[bO (ntup c xs r)]; exact r
     rcases hc with rfl | hc
     . exact hbe
     . rintro rfl;rcases he with z | z
       . exact nown c b hc z
       . rw[hc]at z; cases z; exact hb rfl
end
structure Un (fs ex:List Addr) (H H':Hp) (h h':Heap):Prop where
 keep:∀b o,h.get? b=some o->H b=none->b∉fs->b∉ex->h'.get? b=some o
 slot:∀b o,h.get? b=some o->H b=none->b∈fs->b∉ex->∃sl,h'.get? b=some { o with slots:=sl }
 free:∀b o,h.get? b=some o->H b=none->b∉ex->H' b=none
 there:∀b o,h.get? b=some o->b∉ex->∃o',h'.get? b=some o'
 tups:∀b xs,H b=some (.tup xs)->H' b=some (.tup xs)
 frzs:∀b o u,H b=some (.frz o u)->H' b=some (.frz o u)
 tbls:∀b ps,H b=some (.tbl ps)->∃more,H' b=some (.tbl (ps++more))
section
variable {fs fs' ex ex':List Addr} {H H1 H2:Hp} {h h1 h2 h':Heap} {a x e:Addr} {o:HO}
theorem Un.any (u:Un fs ex H H1 h h1) (q:h.get? b=some ob) (n:H b=none) (hx:b∉ex):∃sl,h1.get? b=some { ob with slots:=sl }:=by
 by_cases hb:b∈fs
 . exact u.slot b ob q n hb hx
 . exact⟨ob.slots,u.keep b ob q n hb hx⟩
theorem Un.kept (k:∀b u,h.get? b=some u->h'.get? b=some u):Un fs ex H H h h':=
 ⟨λb ob q _ _ _=>k b ob q,λb ob q _ _ _=>⟨ob.slots,k b ob q⟩,λ_ _ _ n _=>n,λb ob q _=>⟨ob,k b ob q⟩,λ_ _ q=>q,λ_ _ _ q=>q,λ_ ps q=>⟨#[],by rw[q]; simp⟩⟩
theorem Un.refl:Un fs ex H H h h:=Un.kept λ_ _ q=>q
theorem Un.laid (k:∀b u,h.get? b=some u->h'.get? b=some u) (hp:h.objs.size<=a) (hn:H a=none):Un fs ex H (upd H a o) h h' where
 keep:=λb u q _ _ _=>k b u q
 slot:=λb u q _ _ _=>⟨u.slots,k b u q⟩
 free:=λb u q n _=>by rw[bO (aaI (aaB (aau q) hp))]; exact n
 there:=λb u q _=>⟨u,k b u q⟩
 tups:=λb xs q=>by rw[bO (cO q hn)]; exact q
 frzs:=λb u xs q=>by rw[bO (cO q hn)]; exact q
 tbls:=λb ps q=>⟨#[],by rw[bO (cO q hn),q]; simp⟩
theorem Un.write (mu:MN (H x)) (he:e=x\/H e=some (.own x)) (k:∀b u,b≠e->h.get? b=some u->h'.get? b=some u) (heo:∃u,h'.get? e=some u):Un fs ex H (upd H x o) h h':=by
 have hx:∀b,H b=none->b≠x:=λb n z=>by subst z; rw[n]at mu; exact mu
 have hb:∀b,H b=none->b≠e:=λb n z=>by
  subst z;rcases he with r | r
  . exact hx b n r
  . rw[n]at r; cases r
 have hm:∀b u,H b=some u->¬ MN (some u)->b≠x:=λb u q nm z=>by subst z; rw[q]at mu; exact nm mu
 refine⟨λb u q n _ _=>k b u (hb b n) q,λb u q n _ _=>⟨u.slots,k b u (hb b n) q⟩,λb u q n _=>by rw[bO (hx b n)]; exact n,λb u q _=>?_,
  λb xs q=>by rw[bO (hm b _ q λz=>z)]; exact q,λb u xs q=>by rw[bO (hm b _ q λz=>z)]; exact q,λb ps q=>⟨#[],by rw[bO (hm b _ q λz=>z),q]; simp⟩⟩
 by_cases hbe:b=e
 . subst hbe; exact heo
 . exact⟨u,k b u hbe q⟩
end
def R4 (h:Heap) (H:Hp):List Addr:=(List.range h.objs.size).filter λa=>(H a).isSome
def uL (h:Heap) (H:Hp):Heap:=W.hideAll h (R4 h H)
theorem MP (h:Heap) (H:Hp):(uL h H).objs.size=h.objs.size:=W.hideAll_size _ _
theorem Qj (e:h.get? b=some o) (n:H b=none):(uL h H).get? b=some o:=
 W.hideAll_get _ e λhm=>by have q:=(List.mem_filter.mp hm).2;rw[n]at q; simp at q
theorem Tv (e:(uL h H).get? b=some o):h.get? b=some o/\H b=none:=by
 have e':=W.of_hideAll (R4 h H) e;refine⟨e',?_⟩;cases q:H b with
 | none=>rfl
 | some x=>
  have hm:b∈R4 h H:=List.mem_filter.mpr ⟨List.mem_range.mpr (aau e'),by simp[q]⟩;have z:(uL h H).get? b=none:=W.hideAll_none (R4 h H) hm;rw[z]at e; cases e
def Tz (g h:Heap) (L:Addr):List (Addr×Obj):=(List.range h.objs.size).filterMap λa=>if a=L\/(g.get? a).isSome=true then none else (h.get? a).map λo=>(a,o)
def rest (g h:Heap) (L d:Addr):List (Addr×Obj):=(Tz g h L).filter λp=>decide (p.1≠d)
structure Mod (K:FG) (mg:Str->Option Value) (base:Heap):Prop where
 kin:K.In base
 glob:base.Ns mainGlobals mg
 blt:∃mb,base.Ns builtinsNs mb/\∀x:Str,x ≠ "__name__" -> mb x=bootBuiltins x
 nolimit:base.NoLimit
structure Cx where
 prog:Program
 w:World
 K:FG
 mg:Str->Option Value
 base:Heap
 A:Around
 N:List Str
 s₀:Shared
 H0:Hp
 env:Env
 outer:List Env
 stack:List Env
 ex:List Addr
 fn:Str->Bool
 calm:Bool
 pn:List (Addr×Obj)
 xe:Value->Shared->Prop
def frs (l:List Env):List Addr:=l.filterMap (·.frame)
abbrev Cx.fs (X:Cx):List Addr:=frs X.outer
def MT (sc:Scope) (x:Str):Prop:=sc.names.lookup x=some .local\/sc.names.lookup x=some .cell\/sc.names.lookup x=some .free
def Loc (sc:Scope) (x:Str):Prop:=sc.names.lookup x=some .local\/sc.names.lookup x=some .cell
def Look (env:Env) (h:Heap) (m:Str->Option Value) (x:Str) (u:Value):Prop:=
 (env.kindOf x=some .local/\m x=some u)\/((env.kindOf x=some .cell\/env.kindOf x=some .free)/\∃c,env.cells.lookup x=some c/\h.IsCell c (some u))
structure Cx.Ok (X:Cx):Prop where
 mod:Mod X.K X.mg X.base
 kind:X.env.scope.kind=.function
 glob:X.env.globals=mainGlobals
 blt:X.env.builtins=builtinsNs
 above:X.s₀.heap.objs.size<=X.env.locals
 inj:∀x y c,X.env.cells.lookup x=some c->X.env.cells.lookup y=some c->x=y
 has:∀x,(X.env.kindOf x=some .cell\/X.env.kindOf x=some .free)->∃c,X.env.cells.lookup x=some c
 cab:∀x c,X.fn x=true->X.env.cells.lookup x=some c->X.s₀.heap.objs.size<=c
 hd:X.calm=true->X.A.handled=none
 frames:X.A.frames=some X.stack
 stk:X.stack=X.outer\/(X.stack=X.env::X.outer/\X.env.frame=some X.env.locals)
 exf:∀b∈X.ex,b≠X.env.locals/\∀x c,X.env.cells.lookup x=some c->c≠b
 bs:∀b o,X.base.get? b=some o->X.s₀.heap.get? b=some o/\X.H0 b=none
 bsz:X.base.objs.size<=X.s₀.heap.objs.size
 noex:∀b o,X.base.get? b=some o->b∉X.ex
 exfs:∀b∈X.ex,b∉X.fs
 funs:X.s₀.heap.FunFrames X.base X.outer
 frf:∀b∈X.fs,X.H0 b=none
structure Inv (X:Cx) (adG:List (Addr×Obj)) (U:List (Option V)) (H:Hp) (s:Shared):Prop where
 ok:X.Ok
 os:s.os=X.s₀.os
 bare:AllBare s.gens
 base:Un X.fs X.ex X.H0 H X.s₀.heap s.heap
 loc:∃m,s.heap.Ns X.env.locals m/\∀(i:Nat) (x:Str) (v:V),X.N[i]?=some x->U[i]?=some (some v)->MT X.env.scope x->∃u,RelV v u/\Look X.env s.heap m x u
 cell:∀x c,X.env.cells.lookup x=some c->∃v,s.heap.IsCell c v
 free:H X.env.locals=none
 freeC:∀x c,X.env.cells.lookup x=some c->H c=none
 pin:∀p∈X.pn++adG,s.heap.get? p.1=some p.2/\H p.1=none/\p.1≠X.env.locals/\p.1∉X.fs/\∀v,p.2.data≠.cell v
 hok:iz X.prog X.w H s.heap
 len:U.length=X.N.length
section
variable {X:Cx} {adG:List (Addr×Obj)} {U:List (Option V)} {H H':Hp} {s:Shared} {h':Heap}
theorem Cx.Ok.nofr (ok:X.Ok) (e:X.base.get? b=some o):b∉X.fs:=λhb=>by have:=(ok.funs.mem hb).1;rw[e]at this; cases this
theorem Inv.bs (I:Inv X adG U H s):∀b o,X.base.get? b=some o->s.heap.get? b=some o/\H b=none:=λb o e=>
 ⟨I.base.keep b o (I.ok.bs b o e).1 (I.ok.bs b o e).2 (I.ok.nofr e) (I.ok.noex b o e),I.base.free b o (I.ok.bs b o e).1 (I.ok.bs b o e).2 (I.ok.noex b o e)⟩
theorem Inv.bk (I:Inv X adG U H s):∀b o,X.base.get? b=some o->s.heap.get? b=some o:=λb o e=>(I.bs b o e).1
theorem Inv.mod (I:Inv X adG U H s):Mod X.K X.mg X.base:=I.ok.mod
theorem Inv.kIn (I:Inv X adG U H s):X.K.In s.heap:=I.ok.mod.kin.keeps I.bk
theorem Inv.lt (I:Inv X adG U H s):X.env.locals<s.heap.objs.size:=let ⟨_,hn,_⟩:=I.loc; hn.lt
theorem Inv.sz (I:Inv X adG U H s):X.s₀.heap.objs.size<=s.heap.objs.size:=aaL I.ok.above (abM I.lt)
theorem Inv.nofs (I:Inv X adG U H s) {a:Addr} (h:s.heap.objs.size<=a):a∉X.fs:=λhb=>by obtain⟨_,o,ho,_⟩:=I.ok.funs.mem hb;exact absurd (aaB (aau ho) (aaL I.sz h)) (aba _)
theorem Inv.cne (I:Inv X adG U H s):∀x c,X.env.cells.lookup x=some c->c≠X.env.locals:=λx c e z=>by obtain⟨v,o,ho,hd⟩:=I.cell x c e;obtain⟨m,⟨o',es,ep,ho',hd',_⟩,_⟩:=I.loc;rw[z,ho']at ho; cases ho; rw[hd']at hd; cases hd
theorem Inv.funs (I:Inv X adG U H s):s.heap.FunFrames X.base X.outer:=by
 have all:∀(l:List Env),(∀b∈frs l,b∈X.fs)->X.s₀.heap.FunFrames X.base l->s.heap.FunFrames X.base l:=by
  intro l;induction l with
  | nil=>intro _ _; trivial
  | cons env r ih=>
   intro hs hl;obtain⟨hk,⟨L,o,hf,hn,ho,hd⟩,hr⟩:=hl;have hL:=hs L (by unfold frs; rw[abI,hf]; exact aab);obtain⟨sl,e⟩:=I.base.slot L o ho (I.ok.frf L hL) hL λz=>I.ok.exfs L z hL;exact⟨hk,⟨L,_,hf,hn,e,hd⟩,ih (λb hb=>hs b (by unfold frs; rw[abI,hf]; exact aai _ hb)) hr⟩
 exact all X.outer (λ_ hb=>hb) I.ok.funs
theorem Inv.stack (I:Inv X adG U H s):s.heap.FunFrames X.base X.stack:=by
 rcases I.ok.stk with e | ⟨e,hf⟩
 . rw[e]; exact I.funs
 . rw[e];obtain⟨m,hn,_⟩:=I.loc;refine .cons (by rw[I.ok.kind]; decide) hf hn ?_ I.funs;exact Heap.get?_none_of_le (aaL I.ok.bsz I.ok.above)
theorem Inv.stkSub (I:Inv X adG U H s):∀b∈frs X.stack,b∈X.env.locals::X.fs:=λb hb=>by
 rcases I.ok.stk with e | ⟨e,hf⟩
 . rw[e]at hb; exact aai _ hb
 . rw[e]at hb;unfold frs at hb;rw[abI,hf]at hb;exact hb
theorem Inv.stkFree (I:Inv X adG U H s):∀b∈frs X.stack,H b=none:=λb hb=>by
 rcases aah.mp (I.stkSub b hb) with e | hb
 . rw[e]; exact I.free
 . obtain⟨_,o,ho,_⟩:=I.ok.funs.mem hb;exact I.base.free b o ho (I.ok.frf b hb) λz=>I.ok.exfs b z hb
theorem Inv.step {g':Array GenState} {t':Nat} {d':Drawn} {ch:List Addr} (I:Inv X adG U H s)
 (hch:∀b∈ch,(b∈X.ex\/X.s₀.heap.objs.size<=b)/\b≠X.env.locals/\(∀x c,X.env.cells.lookup x=some c->c≠b)/\∀p∈X.pn++adG,p.1≠b)
 (keep:∀b o,b≠X.env.locals->b∉X.fs->b∉ch->s.heap.get? b=some o->H b=none->h'.get? b=some o)
 (slot:∀b o,b≠X.env.locals->b∈X.fs->b∉ch->s.heap.get? b=some o->H b=none->∃sl,h'.get? b=some { o with slots:=sl }) (free:∀b o,b∉ch->s.heap.get? b=some o->H b=none->H' b=none)
 (there:∀b o,b∉ch->s.heap.get? b=some o->∃o',h'.get? b=some o')
 (tups:∀b xs,H b=some (.tup xs)->H' b=some (.tup xs)) (frzs:∀b o u,H b=some (.frz o u)->H' b=some (.frz o u)) (tbls:∀b ps,H b=some (.tbl ps)->∃more,H' b=some (.tbl (ps++more)))
 (ns:∀m,s.heap.Ns X.env.locals m->h'.Ns X.env.locals m) (hok:iz X.prog X.w H' h') (hg:AllBare g'):
 Inv X adG U H' { s with heap:=h',gens:=g',drawn:=d',toks:=t' }:=by
 have neL:∀b o,X.s₀.heap.get? b=some o->b≠X.env.locals:=λb o e=>aaI (aaB (aau e) I.ok.above);have neC:∀b o,X.s₀.heap.get? b=some o->b∉X.ex->b∉ch:=λb o e hx hb=>by
  rcases (hch b hb).1 with z | z
  . exact hx z
  . exact absurd (aaB (aau e) z) (aba _)
 have cellK:∀x c,X.env.cells.lookup x=some c->∀v,s.heap.IsCell c v->h'.IsCell c v:=λx c e v ⟨o,ho,hd⟩=>by
  have nch:=λz=>(hch c z).2.2.1 x c e rfl;by_cases hc:c∈X.fs
  . obtain⟨sl,q⟩:=slot c o (I.cne x c e) hc nch ho (I.freeC x c e);exact⟨_,q,hd⟩
  . exact⟨o,keep c o (I.cne x c e) hc nch ho (I.freeC x c e),hd⟩
 refine⟨I.ok,I.os,hg,⟨λb o e n hb hx=>?_,λb o e n hb hx=>?_,λb o e n hx=>?_,λb o e hx=>?_,λb xs e=>tups b xs (I.base.tups b xs e),λb o xs e=>frzs b o xs (I.base.frzs b o xs e),λb ps e=>?_⟩,?_,λx c e=>?_,?_,λx c e=>?_,λp hp=>?_,hok,I.len⟩
 . exact keep b o (neL b o e) hb (neC b o e hx) (I.base.keep b o e n hb hx) (I.base.free b o e n hx)
 . obtain⟨sl,e1⟩:=I.base.slot b o e n hb hx;obtain⟨sl',e2⟩:=slot b _ (neL b o e) hb (neC b o e hx) e1 (I.base.free b o e n hx);exact⟨sl',e2⟩
 . obtain⟨o',e1⟩:=I.base.there b o e hx;exact free b o' (neC b o e hx) e1 (I.base.free b o e n hx)
 . obtain⟨o',e1⟩:=I.base.there b o e hx;exact there b o' (neC b o e hx) e1
 . obtain⟨m1,e1⟩:=I.base.tbls b ps e;obtain⟨m2,e2⟩:=tbls b _ e1;exact⟨m1++m2,by rw[e2,Array.append_assoc]⟩
 . obtain⟨m,hn,hl⟩:=I.loc;refine⟨m,ns m hn,λi x v e1 e2 e3=>?_⟩;obtain⟨u,r,l⟩:=hl i x v e1 e2 e3;refine⟨u,r,?_⟩;rcases l with l | ⟨k,c,e,z⟩
   . exact .inl l
   . exact .inr ⟨k,c,e,cellK x c e _ z⟩
 . obtain⟨v,z⟩:=I.cell x c e;exact⟨v,cellK x c e v z⟩
 . obtain⟨m,⟨o,_,_,ho,_⟩,_⟩:=I.loc;exact free _ o (λz=>(hch _ z).2.1 rfl) ho I.free
 . obtain⟨v,o,ho,hd⟩:=I.cell x c e;exact free c o (λz=>(hch c z).2.2.1 x c e rfl) ho (I.freeC x c e)
 . obtain⟨e,n,ne,nf,d⟩:=I.pin p hp;have nch:=λz=>(hch p.1 z).2.2.2 p hp rfl;exact⟨keep p.1 p.2 ne nf nch e n,free p.1 p.2 nch e n,ne,nf,d⟩
theorem Inv.un (I:Inv X adG U H s) (u:Un X.fs [] H H' s.heap h') (hok:iz X.prog X.w H' h'):Inv X adG U H' { s with heap:=h',toks:=t' }:=by
 obtain⟨m,⟨o,es,ep,ho,r⟩,_⟩:=id I.loc;obtain⟨sl,hL⟩:=u.any ho I.free (by simp);exact I.step (ch:=[]) (λ_ z=>nomatch z) (λb o _ hb _ e n=>u.keep b o e n hb (by simp)) (λb o _ hb _ e n=>u.slot b o e n hb (by simp)) (λb o _ e n=>u.free b o e n (by simp)) (λb o _ e=>u.there b o e (by simp)) u.tups u.frzs u.tbls (λm' hm=>by obtain⟨o',es',ep',ho',r'⟩:=hm;rw[ho]at ho'; cases ho';exact⟨_,es',ep',hL,r'⟩) hok I.bare
theorem Inv.call (I:Inv X adG U H s) (u:Un (frs X.stack) ch H H' s.heap h') (hok:iz X.prog X.w H' h') (hg:AllBare g')
 (hch:∀b∈ch,(b∈X.ex\/X.s₀.heap.objs.size<=b)/\b≠X.env.locals/\(∀x c,X.env.cells.lookup x=some c->c≠b)/\∀p∈X.pn++adG,p.1≠b):
 Inv X adG U H' { s with heap:=h',gens:=g',drawn:=d',toks:=t' }:=by
 obtain⟨m,⟨o,es,ep,ho,r⟩,_⟩:=id I.loc;obtain⟨sl,hL⟩:=u.any ho I.free λz=>(hch _ z).2.1 rfl;exact I.step hch (λb o hL hb hc e n=>u.keep b o e n (λz=>(aah.mp (I.stkSub b z)).elim hL hb) hc) (λb o _ _ hc e n=>u.any e n hc) (λb o hc e n=>u.free b o e n hc) (λb o hc e=>u.there b o e hc) u.tups u.frzs u.tbls (λm' hm=>by obtain⟨o',es',ep',ho',r'⟩:=hm;rw[ho]at ho'; cases ho';exact⟨_,es',ep',hL,r'⟩) hok hg
theorem Inv.turned (I:Inv X adG U H s) (k:∀b o,b≠it->s.heap.get? b=some o->h'.get? b=some o) (hn:H it=none) (hL:it≠X.env.locals)
 (h1:it∈X.ex\/X.s₀.heap.objs.size<=it) (h2:∀x c,X.env.cells.lookup x=some c->c≠it) (h3:∀p∈X.pn++adG,p.1≠it):Inv X adG U H { s with heap:=h',toks:=t' }:=by
 have nit:∀b u,H b=some u->b≠it:=λb u e z=>by rw[z,hn]at e; cases e
 refine I.step (ch:=[it]) (λb hb=>?_) (λb o _ _ hc e _=>k b o (λz=>hc (by simp[z])) e) (λb o _ _ hc e _=>⟨o.slots,k b o (λz=>hc (by simp[z])) e⟩) (λ_ _ _ _ n=>n)
  (λb o hc e=>⟨o,k b o (λz=>hc (by simp[z])) e⟩) (λ_ _ e=>e) (λ_ _ _ e=>e) (λb ps e=>⟨#[],by rw[e]; simp⟩) (λm hm=>?_) (λb u e=>?_) I.bare
 . have e:b=it:=by simpa using hb
   subst e;exact⟨h1,hL,h2,h3⟩
 . obtain⟨o,es,ep,ho,r⟩:=hm;exact⟨o,es,ep,k _ o (Ne.symm hL) ho,r⟩
 . refine(I.hok b u e).stay (λc v hc q=>k c v ?_ q) (λ_ q=>q) λ_ _ q=>q;rcases hc with z | z
   . rw[z]; exact nit b u e
   . exact nit c _ z
theorem Inv.tok (I:Inv X adG U H s) (t:Nat):Inv X adG U H { s with toks:=t }:=I.un Un.refl I.hok
theorem Inv.kept (I:Inv X adG U H s) (k:∀b u,s.heap.get? b=some u->h'.get? b=some u):Inv X adG U H { s with heap:=h',toks:=t' }:=I.un (Un.kept k) (I.hok.kept k)
theorem Inv.laid {a:Addr} (I:Inv X adG U H s) (k:∀b u,s.heap.get? b=some u->h'.get? b=some u) (hp:s.heap.objs.size<=a) (new:gj X.prog X.w (upd H a o) h' a o):
 Inv X adG U (upd H a o) { s with heap:=h',toks:=t' }:=I.un (Un.laid k hp (I.hok.fresh hp)) (I.hok.laid k hp new)
theorem Inv.write (I:Inv X adG U H s) (mu:MN (H x)) (he:e=x\/H e=some (.own x)) (k:∀b u,b≠e->s.heap.get? b=some u->h'.get? b=some u) (heo:∃u,h'.get? e=some u)
 (new:gj X.prog X.w (upd H x o) h' x o):Inv X adG U (upd H x o) { s with heap:=h',toks:=t' }:=I.un (Un.write mu he k heo) (I.hok.write mu he k heo new)
theorem Inv.pins_of (I:Inv X adG U H s) (h:∀p∈pins',s.heap.get? p.1=some p.2/\H p.1=none/\p.1≠X.env.locals/\p.1∉X.fs/\∀v,p.2.data≠.cell v):Inv X pins' U H s:=
 ⟨I.ok,I.os,I.bare,I.base,I.loc,I.cell,I.free,I.freeC,λp hp=>(aaH.mp hp).elim (λz=>I.pin p (aaM _ z)) (h p),I.hok,I.len⟩
theorem Gf {N:List Str} (hN:N.Nodup) {i j:Nat} (a:N[i]?=some x) (b:N[j]?=some x):i=j:=by obtain⟨h1,e1⟩:=aal.mp a;obtain⟨h2,e2⟩:=aal.mp b;exact(List.getElem_inj hN).mp (e1.trans e2.symm)
theorem Dp (I:Inv X adG U H s) (hN:X.N.Nodup) (hi:X.N[i]?=some x) (hx:Loc X.env.scope x) (r:RelV v u)
 (h:∀s',Inv X adG (U.set i (some v)) H s'->(∃a,Heap.SameBut a s.heap s'.heap/\(a=X.env.locals\/X.env.cells.lookup x=some a))->Q () s') (hf:X.fn x=true\/X.env.scope.names.lookup x=some .local:=by first | exact .inl rfl | exact .inr rfl | assumption):wpAny M A (storeName X.env x u) Q E s:=by
 obtain⟨m,hn,hl⟩:=id I.loc;have hcls:(X.env.scope.kind==.class||(X.env.scope.kind==.module&&X.env.locals != X.env.globals))=false:=by rw[I.ok.kind]; rfl
 have hiU:i<U.length:=by rw[I.len]; exact(aal.mp hi).1
 have cne:=I.cne;have tracked:∀{a:Addr} {h':Heap},(∃o,s.heap.get? a=some o/\H a=none)->Heap.SameBut a s.heap h'->iz X.prog X.w H h':=λ{a h'} ha hs b ob e=>by
  obtain⟨_,_,hfree⟩:=ha;refine(I.hok b ob e).stay (λc w' hc q=>(hs.2 c ?_).trans q) (λ_ q=>q) λ_ _ q=>q;rintro rfl;rcases hc with rfl | hc
  . rw[hfree]at e; cases e
  . rw[hfree]at hc; cases hc
 rcases hx with hk | hk
 . refine wpAny_storeName_local hk hn (λh' hn' hs=>?_) hcls;obtain⟨oL,_,_,hoL,_⟩:=id hn;refine h _ ⟨I.ok,I.os,I.bare,⟨λb o e n hb hx=>?_,λb o e n hb hx=>?_,I.base.free,λb o e hx=>?_,I.base.tups,I.base.frzs,I.base.tbls⟩,⟨_,hn',λj y v' e1 e2 e3=>?_⟩,λy c e=>?_,I.free,I.freeC,λp hp=>?_,tracked ⟨oL,hoL,I.free⟩ hs,by simpa using I.len⟩ ⟨_,hs,.inl rfl⟩
   . exact(hs.2 b (aaI (aaB (aau e) I.ok.above))).trans (I.base.keep b o e n hb hx)
   . obtain⟨sl,e1⟩:=I.base.slot b o e n hb hx;exact⟨sl,(hs.2 b (aaI (aaB (aau e) I.ok.above))).trans e1⟩
   . obtain⟨o',e1⟩:=I.base.there b o e hx;exact⟨o',(hs.2 b (aaI (aaB (aau e) I.ok.above))).trans e1⟩
   . by_cases hj:j=i
     . subst hj;rw[hi]at e1; cases e1;rw[aaK hiU]at e2;cases e2;exact⟨u,r,.inl ⟨hk,by simp⟩⟩
     . rw[abF (Ne.symm hj)]at e2;obtain⟨u',r',q⟩:=hl j y v' e1 e2 e3;refine⟨u',r',?_⟩;rcases q with ⟨k,e⟩ | ⟨k,c,e,z⟩
       . refine .inl ⟨k,?_⟩;have:y≠x:=λe=>hj (Gf hN e1 (e▸hi));simp[this,e]
       . exact .inr ⟨k,c,e,z.sameBut hs (cne y c e)⟩
   . obtain⟨w',z⟩:=I.cell y c e;exact⟨w',z.sameBut hs (cne y c e)⟩
   . obtain⟨e,n,ne,nf,d⟩:=I.pin p hp;exact⟨(hs.2 p.1 ne).trans e,n,ne,nf,d⟩
 . have hfn:X.fn x=true:=by
    rcases hf with z | z
    . exact z
    . rw[z]at hk; cases hk
   obtain⟨c,hc⟩:=I.ok.has x (.inl hk);obtain⟨w',z⟩:=I.cell x c hc;refine wpAny_storeName_cell I.ok.kind hk hc z (λh' hc' hs=>?_);obtain⟨oc,hoc,hocd⟩:=id z;refine h { s with heap:=h' } ⟨I.ok,I.os,I.bare,⟨λb o e n hb hx=>?_,λb o e n hb hx=>?_,I.base.free,λb o e hx=>?_,I.base.tups,I.base.frzs,I.base.tbls⟩,⟨m,hn.sameBut hs (Ne.symm (cne x c hc)),λj y v' e1 e2 e3=>?_⟩,λy c' e=>?_,I.free,I.freeC,λp hp=>?_,tracked ⟨oc,hoc,I.freeC x c hc⟩ hs,by simpa using I.len⟩ ⟨c,hs,.inr hc⟩
   . exact(hs.2 b (aaI (aaB (aau e) (I.ok.cab x c hfn hc)))).trans (I.base.keep b o e n hb hx)
   . obtain⟨sl,e1⟩:=I.base.slot b o e n hb hx;exact⟨sl,(hs.2 b (aaI (aaB (aau e) (I.ok.cab x c hfn hc)))).trans e1⟩
   . obtain⟨o',e1⟩:=I.base.there b o e hx;exact⟨o',(hs.2 b (aaI (aaB (aau e) (I.ok.cab x c hfn hc)))).trans e1⟩
   . by_cases hj:j=i
     . subst hj;rw[hi]at e1; cases e1;rw[aaK hiU]at e2;cases e2;exact⟨u,r,.inr ⟨.inl hk,c,hc,hc'⟩⟩
     . rw[abF (Ne.symm hj)]at e2;obtain⟨u',r',q⟩:=hl j y v' e1 e2 e3;refine⟨u',r',?_⟩;rcases q with q | ⟨k,c',e,z'⟩
       . exact .inl q
       . refine .inr ⟨k,c',e,z'.sameBut hs ?_⟩;rintro rfl;exact hj (Gf hN e1 (I.ok.inj _ _ _ e hc▸hi))
   . by_cases hcc:c'=c
     . subst hcc; exact⟨_,hc'⟩
     . obtain⟨w2,z2⟩:=I.cell y c' e;exact⟨w2,z2.sameBut hs hcc⟩
   . obtain⟨e,n,ne,nf,d⟩:=I.pin p hp;refine⟨(hs.2 p.1 ?_).trans e,n,ne,nf,d⟩;intro q;rw[q,hoc]at e;have q':=aap e;exact d w' (by rw[<-q']; exact hocd)
theorem Gg (I:Inv X adG U H s) (hN:X.N.Nodup) (hi:X.N[i]?=some x) (hx:Loc X.env.scope x) (r:RelV v u)
 (h:∀s',Inv X adG (U.set i (some v)) H s'->Q () s') (hf:X.fn x=true\/X.env.scope.names.lookup x=some .local:=by first | exact .inl rfl | exact .inr rfl | assumption):wpAny M A (storeName X.env x u) Q E s:=
 Dp I hN hi hx r (λs' I' _=>h s' I') hf
theorem Inv.call' (I:Inv X adG U H s) (ho:s'.os=s.os) (u:Un (frs X.stack) ch H H' s.heap s'.heap) (hok:iz X.prog X.w H' s'.heap) (hg:AllBare s'.gens)
 (hch:∀b∈ch,(b∈X.ex\/X.s₀.heap.objs.size<=b)/\b≠X.env.locals/\(∀x c,X.env.cells.lookup x=some c->c≠b)/\∀p∈X.pn++adG,p.1≠b):Inv X adG U H' s':=by
 obtain⟨h',g',d',t',o'⟩:=s';have e:=ho;subst e;exact I.call u hok hg hch
end
abbrev XK:=Value->Option Addr->Hp->Prop
abbrev St:=List (Option V)
abbrev VK:=V->Hp->Prop
abbrev TE:=St->Hp->VK->Prop
abbrev TT:=St->Hp->(Bool->Hp->Prop)->Prop
abbrev TA:=St->Hp->(List V->Hp->Prop)->Prop
structure Ends where
 nx:St->Hp->Prop
 rt:VK
 bk:St->Hp->Prop:=λ_ _=>False
 ct:St->Hp->Prop:=λ_ _=>False
abbrev TS:=Ends->St->Hp->Prop
def EP (X:Cx) (adG:List (Addr×Obj)) (U:St) (Q:VK) (u:Value) (s':Shared):Prop:=∃v H',Inv X adG U H' s'/\RelV v u/\Q v H'
def TP (X:Cx) (adG:List (Addr×Obj)) (U:St) (Q:Bool->Hp->Prop) (b:Bool) (s':Shared):Prop:=∃H',Inv X adG U H' s'/\Q b H'
def AP (X:Cx) (adG:List (Addr×Obj)) (U:St) (Q:List V->Hp->Prop) (us:List Value) (s':Shared):Prop:=∃vs H',Inv X adG U H' s'/\Vals vs us/\Q vs H'
def SP (X:Cx) (adG:List (Addr×Obj)) (D:Ends) (f:Flow) (s':Shared):Prop:=
 match f with
 | .next=>∃U' H',Inv X adG U' H' s'/\D.nx U' H'
 | .brk=>∃U' H',Inv X adG U' H' s'/\D.bk U' H'
 | .cont=>∃U' H',Inv X adG U' H' s'/\D.ct U' H'
 | .ret u=>∃v U' H',Inv X adG U' H' s'/\RelV v u/\D.rt v H'
def PE (X:Cx) (e:Expr) (t:TE):Prop:=
 ∀(adG:List (Addr×Obj)) (s:Shared) (U:St) (H:Hp) (Q:VK),Inv X adG U H s->t U H Q->wpAny (model X.prog X.w) X.A (eval e X.env) (EP X adG U Q) X.xe s
def PT (X:Cx) (e:Expr) (t:TT):Prop:=
 ∀(adG:List (Addr×Obj)) (s:Shared) (U:St) (H:Hp) (Q:Bool->Hp->Prop),Inv X adG U H s->t U H Q->wpAny (model X.prog X.w) X.A (isTrue e X.env (eval e X.env)) (TP X adG U Q) X.xe s
def PW (X:Cx) (e:Expr) (t:TT):Prop:=
 ∀(whole:Sem Value) (adG:List (Addr×Obj)) (s:Shared) (U:St) (H:Hp) (Q:Bool->Hp->Prop),Inv X adG U H s->t U H Q->wpAny (model X.prog X.w) X.A (isTrue e X.env whole) (TP X adG U Q) X.xe s
theorem PW.pt (h:PW X e t):PT X e t:=h _
def PA (X:Cx) (es:List Expr) (t:TA):Prop:=
 ∀(pos:Pos) (adG:List (Addr×Obj)) (s:Shared) (U:St) (H:Hp) (Q:List V->Hp->Prop),Inv X adG U H s->t U H Q->wpAny (model X.prog X.w) X.A (spliced (backTo pos (starEach es X.env))) (AP X adG U Q) X.xe s
def PS (X:Cx) (st:Stmt) (t:TS):Prop:=
 ∀(adG:List (Addr×Obj)) (s:Shared) (U:St) (H:Hp) (D:Ends),Inv X adG U H s->t D U H->wpAny (model X.prog X.w) X.A (exec st X.env) (SP X adG D) X.xe s
def iu (X:Cx) (st:List Stmt) (t:TS):Prop:=
 ∀(adG:List (Addr×Obj)) (s:Shared) (U:St) (H:Hp) (D:Ends),Inv X adG U H s->t D U H->wpAny (model X.prog X.w) X.A (execs st X.env) (SP X adG D) X.xe s
theorem cF (h:wpAny M A t Q E s) (hQ:∀a s,Q a s->Q' a s):wpAny M A t Q' E s:=wpAny_mono h hQ λ_ _ x=>x
section
variable {X:Cx}
theorem bin (ha:PE X a ta) (hb:PE X b tb) {U:St} {R:V->V->Hp->Prop} (I:Inv X adG U H s) (h:ta U H λx H1=>tb U H1 λy H2=>R x y H2)
 {f:Value->Value->Sem α}
 (hf:∀v u s2 x y H2,Inv X adG U H2 s2->RelV x v->RelV y u->R x y H2->wpAny (model X.prog X.w) X.A (f v u) Q X.xe s2):
 wpAny (model X.prog X.w) X.A (eval a X.env) (λv s₁=>wpAny (model X.prog X.w) X.A (eval b X.env) (λu s₂=>wpAny (model X.prog X.w) X.A (f v u) Q X.xe s₂) X.xe s₁) X.xe s:=by
 refine cF (ha adG s U H _ I h) λv s1 ⟨x,H1,I1,r1,q1⟩=>?_;refine cF (hb adG s1 U H1 _ I1 q1) λu s2 ⟨y,H2,I2,r2,q2⟩=>?_;exact hf v u s2 x y H2 I2 r1 r2 q2
def oJ (i:Nat):TE:=λU H Q=>∃v,U[i]?=some (some v)/\Q v H
def tC (v:V):TE:=λ_ H Q=>Q v H
theorem Vv {pos:Pos} (hN:X.N[i]?=some x) (hv:MT X.env.scope x) (hd:(x==("__debug__" : Str))=false:=by decide) (hcd:(x==("__classdict__" : Str))=false:=by decide):PE X (.Name x pos) (oJ i):=by
 intro adG s U H Q I h;obtain⟨v,e,h⟩:=h;obtain⟨m,hn,hl⟩:=I.loc;obtain⟨u,r,l⟩:=hl i x v hN e hv;have fin:EP X adG U Q u s:=⟨v,H,I,r,h⟩;rcases l with ⟨hk,hm⟩ | ⟨hk,c,hc,hcell⟩
 . exact wpAny_Name (wpAny_loadName_local I.ok.kind hk hn hm fin) hd
 . rcases hk with hk | hk
   . exact wpAny_Name (wpAny_loadName_cell I.ok.kind hk hc hcell fin) hd
   . exact wpAny_Name (wpAny_loadName_free I.ok.kind hk hc hcell fin hcd) hd
theorem Vw {i j pos}:PE X (.Constant (.int i) j pos) (tC (.int i)):=λ_ _ _ H _ I h=>wpAny_Constant_int ⟨.int i,H,I.tok _,⟨_,rfl⟩,h⟩
theorem qC {b j pos}:PE X (.Constant (.bool b) j pos) (tC (.bl b)):=λ_ _ _ H _ I h=>Constant_bool ⟨.bl b,H,I,rfl,h⟩
theorem Vx {j pos}:PE X (.Constant .none j pos) (tC .non):=λ_ _ _ H _ I h=>Constant_none ⟨.non,H,I,rfl,h⟩
theorem Vy {x j pos}:PE X (.Constant (.str x) j pos) (tC (.str x)):=λ_ _ _ H _ I h=>Calls.Constant_str ⟨.str x,H,I.tok _,⟨_,rfl⟩,h⟩
def Gl (X:Cx) (x:Str):Prop:=X.env.kindOf x=some .globalImplicit
theorem BZ {U:St} (I:Inv X adG U H s) (hg:Gl X x) (hm:X.mg x=some u) (h:Q u s)
 (hd:(x==("__debug__" : Str))=false:=by decide):wpAny (model X.prog X.w) X.A (eval (.Name x pos) X.env) Q E s:=
 Calls.Name_function_global I.ok.kind hg (Calls.loadGlobal_global (by rw[I.ok.glob]; exact I.mod.glob.keeps I.bk) hm h) hd
theorem qT {U:St} {pos:Pos} (I:Inv X adG U H s) (hg:Gl X x) (hm:X.mg x=none) (hv:bootBuiltins x=some u) (h:Q u s)
 (hn:x ≠ "__name__" := by decide) (hd:(x==("__debug__" : Str))=false:=by decide):wpAny (model X.prog X.w) X.A (eval (.Name x pos) X.env) Q E s:=by
 obtain⟨mb,h1,h2⟩:=I.mod.blt;exact Calls.Name_function_global I.ok.kind hg (Calls.loadGlobal_builtin (by rw[I.ok.glob]; exact I.mod.glob.keeps I.bk) hm (by rw[I.ok.blt]; exact h1.keeps I.bk) ((h2 x hn).trans hv) h) hd
theorem TQ (hg:Gl X x) (hm:X.mg x=some u) (r:RelV v u) (hd:(x==("__debug__" : Str))=false:=by decide):PE X (.Name x pos) (tC v):=
 λ_ _ _ H _ I h=>BZ I hg hm ⟨v,H,I,r,h⟩ hd
theorem Jy {pos:Pos} (hg:Gl X x) (hm:X.mg x=none) (hv:bootBuiltins x=some u) (r:RelV v u) (hn:x ≠ "__name__" := by decide) (hd:(x==("__debug__" : Str))=false:=by decide):PE X (.Name x pos) (tC v):=
 λ_ _ _ H _ I h=>qT I hg hm hv ⟨v,H,I,r,h⟩ hn hd
variable {a b:Expr} {ta tb:TE} {pos:Pos}
variable {tA tB':TT} {rest:List Expr}
def Vz (t u:TT):TT:=λU H Q=>t U H λc H1=>if c=true then u U H1 Q else Q false H1
def YK (t u:TT):TT:=λU H Q=>t U H λc H1=>if c=true then Q true H1 else u U H1 Q
def Zi (t:TT):TT:=λU H Q=>t U H λc H1=>Q (!c) H1
theorem TV (ha:PT X a tA):PW X (.BoolOp .And [a] pos) tA:=by
 intro wh adG s U H Q I h;refine isTrue_and (cF (ha adG s U H Q I h) λc s1 e=>?_);cases c with
 | true=>exact isTrue_and_nil e
 | false=>exact e
theorem VB (ha:PT X a tA):PW X (.BoolOp .Or [a] pos) tA:=by
 intro wh adG s U H Q I h;refine isTrue_or (cF (ha adG s U H Q I h) λc s1 e=>?_);cases c with
 | false=>exact isTrue_or_nil e
 | true=>exact e
theorem VD (ha:PT X a tA) (hb:PW X (.BoolOp .And (b::rest) pos) tB'):PW X (.BoolOp .And (a::b::rest) pos) (Vz tA tB'):=by
 intro wh adG s U H Q I h;refine isTrue_and (cF (ha adG s U H _ I h) λc s1 ⟨H1,I1,q1⟩=>?_);cases c with
 | true=>exact hb wh adG s1 U H1 Q I1 q1
 | false=>exact⟨H1,I1,q1⟩
theorem X6 (ha:PT X a tA) (hb:PW X (.BoolOp .Or (b::rest) pos) tB'):PW X (.BoolOp .Or (a::b::rest) pos) (YK tA tB'):=by
 intro wh adG s U H Q I h;refine isTrue_or (cF (ha adG s U H _ I h) λc s1 ⟨H1,I1,q1⟩=>?_);cases c with
 | true=>exact⟨H1,I1,q1⟩
 | false=>exact hb wh adG s1 U H1 Q I1 q1
theorem VF (ha:PT X a tA):PT X (.UnaryOp .Not a pos) (Zi tA):=by intro adG s U H Q I h;exact isTrue_not (ha adG s U H (λc H1=>Q (!c) H1) I h)
def X7 (ta tb:TE):TE:=λU H Q=>ta U H λx H1=>∃c,x=.bl c/\if c=true then tb U H1 Q else Q (.bl false) H1
theorem VG {op} (h:PE X a t):PE X (.BoolOp op [a] pos) t:=λadG s U H Q I hw=>BoolOp_one (h adG s U H Q I hw)
theorem VH (ha:PE X a ta) (hb:PE X (.BoolOp .And (b::rest) pos) tb):PE X (.BoolOp .And (a::b::rest) pos) (X7 ta tb):=by
 intro adG s U H Q I h;refine BoolOp_and (cF (ha adG s U H _ I h) λv s1 ⟨x,H1,I1,r1,q1⟩=>?_);obtain⟨c,rfl,q1⟩:=q1;cases r1;refine wpAny_truthy_bool ?_;cases c with
 | true=>exact hb adG s1 U H1 Q I1 q1
 | false=>exact⟨.bl false,H1,I1,rfl,q1⟩
end
def cz (K:FG) (H:Hp) (a:Addr) (xs:List V):Prop:=
 Rd H a (.lst xs)\/
  ∃(o:Obj) (its:Array Value) (n:Nat),K.lookup a=some o/\o.cls=.type "list" /\ o.dict=none/\o.data=.seq its n/\its.size<=sizeLine/\Vals xs its.toList
def fj (K:FG) (H:Hp) (a:Addr) (xs:List V):Prop:=
 Rd H a (.tup xs)\/
  ∃(o:Obj) (its:Array Value) (n:Nat),K.lookup a=some o/\o.cls=.type "tuple" /\ o.data=.seq its n/\its.size<=sizeLine/\Vals xs its.toList
def Zj:Value->Option V
 | .none=>some .non
 | .bool b=>some (.bl b)
 | .int i _=>some (.int i)
 | .str x _=>some (.str x)
 | .bytes b _=>some (.byt b)
 | .float b _=>some (.flt b)
 | .ref a=>some (.ref a)
 | .type n=>some (.ty n)
 | _=>none
theorem RelV.abs (r:RelV x u):Zj u=some x:=by
 cases x with
 | non=>cases r; rfl
 | bl _=>cases r; rfl
 | int _=>obtain⟨t,rfl⟩:=r; rfl
 | str _=>obtain⟨t,rfl⟩:=r; rfl
 | byt _=>obtain⟨t,rfl⟩:=r; rfl
 | flt _=>obtain⟨t,rfl⟩:=r; rfl
 | ref _=>cases r; rfl
 | ty _=>cases r; rfl
theorem RelV.inj (r:RelV x u) (q:RelV y u):x=y:=aap (r.abs.symm.trans q.abs)
theorem Vals.inj:∀{xs ys:List V} {us:List Value},Vals xs us->Vals ys us->xs=ys
 | _,_,_,.nil,.nil=>rfl
 | _,_,_,.cons r t,.cons r' t'=>by rw[r.inj r',Vals.inj t t']
section
variable {X:Cx} {adG:List (Addr×Obj)} {U:St} {H:Hp} {s:Shared} {a:Addr} {xs ys:List V}
theorem cz.of {K:FG} (h:H a=some (.lst xs)):cz K H a xs:=.inl (.inl h)
theorem fj.of {K:FG} (h:H a=some (.tup xs)):fj K H a xs:=.inl (.inl h)
theorem Inv.list (I:Inv X adG U H s) (h:cz X.K H a xs):∃its:List Value,Vals xs its/\PlainL s.heap a its.toArray/\xs.length<=sizeLine:=by
 rcases h with h | ⟨o,its,n,hk,hc,hd,hs,hz,r⟩
 . obtain⟨z,its,n,r,e⟩:=h.ok I.hok;exact⟨its,r,⟨_,n,e,rfl,rfl,rfl⟩,z⟩
 . refine⟨its.toList,r,⟨o,n,I.kIn a o hk,hc,hd,by simpa using hs⟩,?_⟩;have e:=r.length;simp only[aa5]at e;omega
theorem Inv.tuple (I:Inv X adG U H s) (h:fj X.K H a xs):∃its:List Value,Vals xs its/\IsTup s.heap a its.toArray/\xs.length<=sizeLine:=by
 rcases h with h | ⟨o,its,n,hk,hc,hs,hz,r⟩
 . obtain⟨z,its,r,p⟩:=h.ok I.hok;exact⟨its,r,p,z⟩
 . refine⟨its.toList,r,⟨o,I.kIn a o hk,hc,n,by simpa using hs⟩,?_⟩;have e:=r.length;simp only[aa5]at e;omega
theorem Inv.list_inj (I:Inv X adG U H s) (h:cz X.K H a xs) (h':cz X.K H a ys):xs=ys:=by
 obtain⟨its,r,⟨o,n,e,_,_,d⟩,_⟩:=I.list h;obtain⟨its',r',⟨o',n',e',_,_,d'⟩,_⟩:=I.list h';rw[e]at e'; cases e';rw[d]at d';injection d' with d1 _;have:its=its':=by simpa using congrArg Array.toList d1
 subst this;exact r.inj r'
theorem Inv.tuple_inj (I:Inv X adG U H s) (h:fj X.K H a xs) (h':fj X.K H a ys):xs=ys:=by
 obtain⟨its,r,⟨o,e,_,n,d⟩,_⟩:=I.tuple h;obtain⟨its',r',⟨o',e',_,n',d'⟩,_⟩:=I.tuple h';rw[e]at e'; cases e';rw[d]at d';injection d' with d1 _;have:its=its':=by simpa using congrArg Array.toList d1
 subst this;exact r.inj r'
end
abbrev Cx.wish (X:Cx) (E:Value->Shared->Prop):Cx:={ X with xe:=E }
abbrev Cx.nox (X:Cx):Cx:=X.wish λ_ _=>False
theorem Cx.Ok.wish {X:Cx} (ok:X.Ok) (E:Value->Shared->Prop):(X.wish E).Ok:=
 ⟨ok.mod,ok.kind,ok.glob,ok.blt,ok.above,ok.inj,ok.has,ok.cab,ok.hd,ok.frames,ok.stk,ok.exf,ok.bs,ok.bsz,ok.noex,ok.exfs,ok.funs,ok.frf⟩
theorem Cx.Ok.unwish {X:Cx} (ok:(X.wish E).Ok):X.Ok:=
 ⟨ok.mod,ok.kind,ok.glob,ok.blt,ok.above,ok.inj,ok.has,ok.cab,ok.hd,ok.frames,ok.stk,ok.exf,ok.bs,ok.bsz,ok.noex,ok.exfs,ok.funs,ok.frf⟩
section
variable {X:Cx} {adG:List (Addr×Obj)} {U:St} {H:Hp} {s:Shared} {E:Value->Shared->Prop}
theorem Inv.wish (I:Inv X adG U H s) (E:Value->Shared->Prop):Inv (X.wish E) adG U H s:=⟨I.ok.wish E,I.os,I.bare,I.base,I.loc,I.cell,I.free,I.freeC,I.pin,I.hok,I.len⟩
theorem Inv.unwish (I:Inv (X.wish E) adG U H s):Inv X adG U H s:=⟨I.ok.unwish,I.os,I.bare,I.base,I.loc,I.cell,I.free,I.freeC,I.pin,I.hok,I.len⟩
theorem SP.unwish (h:SP (X.wish E) adG D f s'):SP X adG D f s':=by
 cases f with
 | next=>obtain⟨U',H',I,q⟩:=h; exact⟨U',H',I.unwish,q⟩
 | brk=>obtain⟨U',H',I,q⟩:=h; exact⟨U',H',I.unwish,q⟩
 | cont=>obtain⟨U',H',I,q⟩:=h; exact⟨U',H',I.unwish,q⟩
 | ret u=>obtain⟨v,U',H',I,r,q⟩:=h; exact⟨v,U',H',I.unwish,r,q⟩
theorem iu.nox {st:List Stmt} (h:iu X.nox st t):iu X st t:=λadG s U H D I hw=>
 wpAny_mono (h adG s U H D (I.wish _) hw) (λ_ _ q=>q.unwish) λ_ _ z=>False.elim z
end
section
variable {X:Cx} {st:Stmt} {rest:List Stmt} {t u:TS} {e:Expr} {te:TE} {pos:Pos}
def Yb:TS:=λD U H=>D.nx U H
def Zk (t u:TS):TS:=λD U H=>t { D with nx:=u D } U H
theorem TX:iu X [] Yb:=λ_ _ U H _ I h=>wpAny_execs_nil ⟨U,H,I,h⟩
theorem Qk (h1:PS X st t) (h2:iu X rest u):iu X (st::rest) (Zk t u):=by
 intro adG s U H D I h;refine wpAny_execs_cons (cF (h1 adG s U H { D with nx:=u D } I h) λf s1 q=>?_);cases f with
 | next=>
  obtain⟨U',H',I',q⟩:=q;exact h2 adG s1 U' H' D I' q
 | ret v=>exact q
 | brk=>exact q
 | cont=>exact q
theorem TY (h1:PS X st t):iu X [st] t:=by
 intro adG s U H D I h;refine wpAny_execs_cons (cF (h1 adG s U H D I h) λf s1 q=>?_);cases f with
 | next=>exact wpAny_execs_nil q
 | ret v=>exact q
 | brk=>exact q
 | cont=>exact q
theorem Inv.quiet {U:St} (I:Inv X adG U H s):interactive X.env=false:=by simp[interactive,I.ok.kind]
def uM (te:TE):TS:=λD U H=>te U H λ_ H1=>D.nx U H1
theorem m6 (he:PE X e te) (hs:swapsWith e none pos.line X.env=pure false:=by rfl):PS X (.Expr e pos) (uM te):=by intro adG s U H D I h;exact wpAny_Expr_any (cF (he adG s U H _ I h) λv s1 ⟨x,H1,I1,r1,q1⟩=>⟨U,H1,I1,q1⟩) I.quiet hs
def Zm (te:TE):TS:=λD U H=>te U H D.rt
theorem M3 (he:PE X e te):PS X (.Return (some e) pos) (Zm te):=by intro adG s U H D I h;exact wpAny_Return_some (cF (he adG s U H _ I h) λv s1 ⟨x,H1,I1,r1,q1⟩=>⟨x,U,H1,I1,r1,q1⟩)
def Zn (c:TT) (t u:TS):TS:=λD U H=>c U H λb H1=>if b=true then t D U H1 else u D U H1
theorem Yc (hc:PT X c tc) (ha:iu X a t) (hb:iu X b u):PS X (.If c a b pos) (Zn tc t u):=by
 intro adG s U H D I h;refine wpAny_If (cF (hc adG s U H _ I h) λd s1 ⟨H1,I1,q1⟩=>?_);cases d with
 | true=>exact ha adG s1 U H1 D I1 q1
 | false=>exact hb adG s1 U H1 D I1 q1
end
abbrev TG:=V->St->Hp->(St->Hp->Prop)->Prop
abbrev vG:=List V->St->Hp->(St->Hp->Prop)->Prop
def PG (X:Cx) (target:Expr) (t:TG):Prop:=
 ∀(adG:List (Addr×Obj)) (s:Shared) (U:St) (H:Hp) (v:V) (u:Value) (Q:St->Hp->Prop),Inv X adG U H s->RelV v u->t v U H Q->
  wpAny (model X.prog X.w) X.A (assign target X.env u) (λ_ s'=>∃U' H',Inv X adG U' H' s'/\Q U' H') X.xe s
def M4 (X:Cx) (ts:List Expr) (t:vG):Prop:=
 ∀(adG:List (Addr×Obj)) (s:Shared) (U:St) (H:Hp) (vs:List V) (us:List Value) (Q:St->Hp->Prop),Inv X adG U H s->Vals vs us->t vs U H Q->
  wpAny (model X.prog X.w) X.A (assignInOrder ((assignEach ts X.env).map (·.2)) us) (λ_ s'=>∃U' H',Inv X adG U' H' s'/\Q U' H') X.xe s
abbrev Ql:=V->V->V->Hp->(Hp->Prop)->Prop
def Qm (X:Cx) (t:Ql):Prop:=
 ∀(adG:List (Addr×Obj)) (s:Shared) (U:St) (H:Hp) (o i v:V) (ov iv u:Value) (Q:Hp->Prop),Inv X adG U H s->RelV o ov->RelV i iv->RelV v u->t o i v H Q->
  wpAny (model X.prog X.w) X.A (setItem ov iv u) (λ_ s'=>∃H',Inv X adG U H' s'/\Q H') X.xe s
section
variable {X:Cx} {pos:Pos}
def Fo (i:Nat):TG:=λv U H Q=>Q (U.set i (some v)) H
theorem Jz (hN:X.N.Nodup) (hi:X.N[i]?=some x) (hx:Loc X.env.scope x) (hf:X.fn x=true\/X.env.scope.names.lookup x=some .local:=by first | exact .inl rfl | exact .inr rfl | assumption):PG X (.Name x pos) (Fo i):=by intro adG s U H v u Q I r h;exact wpAny_assign_Name (Gg I hN hi hx r (λs' I'=>⟨_,H,I',h⟩) hf)
def VJ:vG:=λvs U H Q=>vs=[]/\Q U H
def R5 (t:TG) (u:vG):vG:=λvs U H Q=>∃v r,vs=v::r/\t v U H λU' H'=>u r U' H' Q
theorem dm:M4 X [] VJ:=by intro adG s U H vs us Q I r h;obtain⟨e,h⟩:=h;subst e;exact assignInOrder_nil ⟨U,H,I,h⟩
theorem aW (h1:PG X e t) (h2:M4 X es u)
 (hs:(assignEach (e::es) X.env).map (·.2)=assign e X.env::(assignEach es X.env).map (·.2):=by rfl):M4 X (e::es) (R5 t u):=by
 intro adG s U H vs us Q I r h;obtain⟨v,vr,e1,h⟩:=h;subst e1;cases r with
 | cons r rr=>
  rw[hs];refine assignInOrder_cons (cF (h1 adG s U H _ _ _ I r h) λ_ s1 ⟨U1,H1,I1,q1⟩=>?_);exact h2 adG s1 U1 H1 _ _ Q I1 rr q1
def Zo (K:FG) (n:Nat) (t:vG):TG:=λv U H Q=>∃a xs,v=.ref a/\fj K H a xs/\xs.length=n/\t xs U H Q
theorem VL {k:Nat} (hc:X.calm=true) (h:M4 X es t)
 (hn:(assignEach es X.env).length=n:=by rfl) (hst:(assignEach es X.env).findIdx? (·.1)=none:=by rfl):PG X (.Tuple es k pos) (Zo X.K n t):=by
 intro adG s U H v u Q I r hw;obtain⟨a,xs,e1,hq,hl,hw⟩:=hw;subst e1;cases r;obtain⟨its,rv,ht,hz⟩:=I.tuple hq;refine assign_Tuple_tuple (I.ok.hd hc) ht (by simp[hn,<-hl,rv.length]) hst λh' hx=>?_;have I1:=I.kept (t':=s.toks) λb o e=>hx b o (aaI (aau e)) e;exact h adG _ U H xs _ Q I1 (by simpa using rv) hw
def KY (to ti:TE) (t:Ql):TG:=λv U H Q=>to U H λo H1=>ti U H1 λi H2=>t o i v H2 λH3=>Q U H3
theorem je (ho:PE X o to) (hi:PE X i ti) (hs:Qm X t)
 (ha:∀v,assign (.Subscript o i pos) X.env v=(do
   let ov <-holding [v] (eval o X.env)
   let iv <-holding [v,ov] (eval i X.env)
   standAt pos
   holding [v,ov,iv] (setItem ov iv v)
   release [v,ov,iv] []):=by intro _; rfl):PG X (.Subscript o i pos) (KY to ti t):=by
 intro adG s U H v u Q I r h
 rw[ha]
 refine abQ (wpAny_holding (cF (ho adG s U H _ I h) λov s1 ⟨x,H1,I1,r1,q1⟩=>?_))
 refine abQ (wpAny_holding (cF (hi adG s1 U H1 _ I1 q1) λiv s2 ⟨y,H2,I2,r2,q2⟩=>?_))
 refine abQ (wpAny_standAt (abQ (wpAny_holding (cF (hs adG s2 U H2 x y v ov iv u _ I2 r1 r2 r q2) λ_ s3 ⟨H3,I3,q3⟩=>?_))))
 exact wpAny_release ⟨U,H3,I3,q3⟩
def Gh (te:TE) (g:TG):TS:=λD U H=>te U H λx H1=>g x U H1 D.nx
theorem iB (he:PE X e te) (hg:PG X tg g) (hs:swapsWithSole [tg] e pos.line X.env=pure false:=by rfl) (hw:swappedStores [tg] e X.env=pure none:=by rfl)
 (h1:(assignEach [tg] X.env).map (·.2)=[assign tg X.env]:=by rfl):PS X (.Assign [tg] e pos) (Gh te g):=by
 intro adG s U H D I h;refine wpAny_Assign_stores (cF (he adG s U H _ I h) λv s1 ⟨x,H1,I1,r1,q1⟩=>?_) hs hw;rw[h1];exact cF (hg adG s1 U H1 x v _ I1 r1 q1) λ_ s2 q=>q
theorem VM (hN:X.N.Nodup) (hi:X.N[i]?=some x) (hx:Loc X.env.scope x) (he:PE X e te) (hs:swapsWith e (some (.Name x pos')) pos.line X.env=pure false:=by rfl) (hf:X.fn x=true\/X.env.scope.names.lookup x=some .local:=by first | exact .inl rfl | exact .inr rfl | assumption):
 PS X (.Assign [.Name x pos'] e pos) (Gh te (Fo i)):=by
 intro adG s U H D I h;refine wpAny_Assign_Name (cF (he adG s U H _ I h) λv s1 ⟨y,H1,I1,r1,q1⟩=>?_) hs;exact Gg I1 hN hi hx r1 (λs2 I2=>⟨_,H1,I2,q1⟩) hf
def VN (c:TT) (tb:TS):TS:=λD U H=>∃W:Nat->St->Hp->Prop,(∃m,W m U H)/\∀m U H,W m U H->
 c U H λb H1=>if b=true then ∃N:St->Hp->Prop,(∀U' H',N U' H'->∃m',m'<m/\W m' U' H')/\tb { D with nx:=N,ct:=N,bk:=D.nx } U H1 else D.nx U H1
theorem Qn (hp:PassesOwn (model X.prog X.w) X.A X.env X.xe) (hc:PT X c tc) (hb:iu X body tb):PS X (.While c body [] pos) (VN tc tb):=by
 intro adG s U H D I h;obtain⟨W,⟨m0,w0⟩,turn⟩:=h;refine wpAny_While (codeAny_whileLoop (λn s'=>∃U' H',Inv X adG U' H' s'/\W n U' H') ?_ m0 ⟨U,H,I,w0⟩);rintro n s1 ⟨U1,H1,I1,w1⟩;refine wpAny_passesOwn hp (cF (hc adG s1 U1 H1 _ I1 (turn n U1 H1 w1)) λb s2 ⟨H2,I2,q2⟩=>?_);cases b with
 | true=>
  obtain⟨N,hN,q2⟩:=q2;refine wpAny_passesOwn hp (cF (hb adG s2 U1 H2 _ I2 q2) λf s3 q3=>?_);cases f with
  | next=>
   obtain⟨U3,H3,I3,n3⟩:=q3;obtain⟨m',hm,w3⟩:=hN U3 H3 n3;exact⟨m',hm,U3,H3,I3,w3⟩
  | cont=>
   obtain⟨U3,H3,I3,n3⟩:=q3;obtain⟨m',hm,w3⟩:=hN U3 H3 n3;exact⟨m',hm,U3,H3,I3,w3⟩
  | brk=>exact q3
  | ret v=>exact q3
 | false=>
  exact wpAny_execs_nil ⟨U1,H2,I2,q2⟩
end
structure It where
 go:Nat->Hp->Prop
 yld:Nat->Hp->V->Hp->Prop
 stop:Nat->Hp->Prop
def lY (X:Cx) (adG:List (Addr×Obj)) (H:Hp) (b:Addr):Prop:=
 H b=none/\b≠X.env.locals/\b∉X.fs/\(b∈X.ex\/X.s₀.heap.objs.size<=b)/\(∀x c,X.env.cells.lookup x=some c->c≠b)/\∀p∈X.pn++adG,p.1≠b
theorem Inv.fpOk {U:St} {b:Addr} (I:Inv X adG U H s) (hb:s.heap.objs.size<=b) (hn:H' b=none):lY X adG H' b:=by
 refine⟨hn,aa9 (aaB I.lt hb),I.nofs hb,.inr (aaL I.sz hb),λx c e z=>?_,λp hp z=>?_⟩
 . obtain⟨v,q⟩:=I.cell x c e;exact absurd (aaB q.lt (by rw[z]; exact hb)) (aba _)
 . exact absurd (aaB (aau (I.pin p hp).1) (by rw[z]; exact hb)) (aba _)
structure Turn (P:Program) (w:World) (K:FG) (tg:Expr) (J:It) (fp:List Addr) (it:Addr) (tn:Nat->Heap->Prop):Prop where
 mem:it∈fp
 obj:∀i h,tn i h->∀b∈fp,∃o,h.get? b=some o/\∀v,o.data≠.cell v
 keep:∀i h h',tn i h->(∀b∈fp,∀o,h.get? b=some o->h'.get? b=some o)->tn i h'
 item:∀(X:Cx),X.prog=P->X.w=w->X.K=K->X.calm=true->∀(i:Nat) (adG:List (Addr×Obj)) (s:Shared) (U:St) (H:Hp) (E:Value->Shared->Prop),Inv X adG U H s->(∀b∈fp,lY X adG H b)->tn i s.heap->J.go i H->
  wpAny (model P w) X.A (pyNext (.ref it)) (λr s1=>∃u,r=some u/\
   wpAny (model P w) X.A (letOwnedTupleGo tg (.ref it) u) (λ_ s2=>∃x H',Inv X adG U H' s2/\RelV x u/\J.yld i H x H'/\tn (i+1) s2.heap/\∀b∈fp,H' b=none) E s1) E s
 done:∀(X:Cx),X.prog=P->X.w=w->X.K=K->X.calm=true->∀(i:Nat) (adG:List (Addr×Obj)) (s:Shared) (U:St) (H:Hp) (E:Value->Shared->Prop),Inv X adG U H s->(∀b∈fp,lY X adG H b)->tn i s.heap->J.stop i H->
  wpAny (model P w) X.A (pyNext (.ref it)) (λr s1=>r=none/\Inv X adG U H s1) E s
 self:∀(A:Around) (i:Nat) (s:Shared) (Q:Value->Shared->Prop) (E:Value->Shared->Prop),tn i s.heap->Q (.ref it) s->wpAny (model P w) A (pyIter (.ref it)) Q E s
abbrev TI:=St->Hp->(It->Hp->Prop)->Prop
def PIE (X:Cx) (adG:List (Addr×Obj)) (U:St) (tg:Expr) (R:It->Hp->Prop) (itv:Value) (s2:Shared):Prop:=
 ∃(it:Addr) (fp:List Addr) (tn:Nat->Heap->Prop) (J:It) (H':Hp),itv=.ref it/\Inv X adG U H' s2/\Turn X.prog X.w X.K tg J fp it tn/\tn 0 s2.heap/\(∀b∈fp,lY X adG H' b)/\R J H'
def PI (X:Cx) (tg iter:Expr) (wi:TI):Prop:=
 ∀(adG:List (Addr×Obj)) (s:Shared) (U:St) (H:Hp) (R:It->Hp->Prop),Inv X adG U H s->wi U H R->
  wpAny (model X.prog X.w) X.A (eval iter X.env) (λv s1=>wpAny (model X.prog X.w) X.A (pyIter v) (PIE X adG U tg R) X.xe s1) X.xe s
theorem zG (ho:s.heap.get? it=some o) (hc:o.cls=.type n) (hd:o.data=.fields vs)
 (hn:["enumerate", "zip", "dict_itemiterator", "dict_reverseitemiterator", "odict_iterator", "itertools.zip_longest", "itertools.pairwise"].contains n=false) (hQ:Q () s):wpAny M A (letOwnedTupleGo tg (.ref it) u) Q E s:=by
 cases tg<;>first
  | exact abT hQ
  | (cases u<;>first
      | exact abT hQ
      | (refine abQ (wpAny_load ho ?_)
         rw[hc,hd];show wpAny M A (if (["enumerate", "zip", "dict_itemiterator", "dict_reverseitemiterator", "odict_iterator", "itertools.zip_longest", "itertools.pairwise"].contains n&&vs[0]?==some (rawInt _))=true then _ else _) Q E s;rw[abS (by intro h; rw[hn,Bool.false_and]at h; cases h)];exact abT hQ))
def R6 (K:FG) (a:Addr):It:=
 ⟨λi H=>∃xs x,cz K H a xs/\xs[i]?=some x,λi H x H'=>H'=H/\∀xs,cz K H a xs->xs[i]?=some x,λi H=>∃xs,cz K H a xs/\xs.length<=i⟩
def R7 (K:FG) (a:Addr):It:=
 ⟨λi H=>∃xs x,fj K H a xs/\xs[i]?=some x,λi H x H'=>H'=H/\∀xs,fj K H a xs->xs[i]?=some x,λi H=>∃xs,fj K H a xs/\xs.length<=i⟩
def M5 (lo:Int) (n:Nat):It:=⟨λi _=>i<n,λi H x H'=>H'=H/\x=.int (lo+i),λi _=>n<=i⟩
theorem M6 {K:FG} (a it:Addr):Turn P w K tg (R6 K a) [it] it (λi h=>h.IsListIter it a i) where
 mem:=by simp
 obj:=λi h st b hb=>by
  have e:b=it:=by simpa using hb
  subst e;obtain⟨o,e,c,d⟩:=st;exact⟨o,e,λv z=>by rw[d]at z; cases z⟩
 keep:=λi h h' st k=>st.at λo e=>k it (by simp) o e
 item:=by intro X hP hw hK hc i adG s U H E I hf st hg;subst hP hw hK;obtain⟨xs,x,hq,hx⟩:=hg;obtain⟨its,rv,p,hz⟩:=I.list hq;obtain⟨u,hu,ru⟩:=rv.get hx;obtain⟨f0,f1,f2,f3,f4,f5⟩:=hf it (by simp);refine wpAny_pyNext_list_item st p.isList (by simpa using hu) λh' st' sb=>?_;have I1:=I.turned (t':=s.toks) (λb o hb e=>(sb.2 b hb).trans e) f0 f1 f3 f4 f5;obtain⟨o,e,c,d⟩:=id st';exact⟨u,rfl,zG e c d (by decide) ⟨x,H,I1,ru,⟨rfl,λys hy=>by rw[I.list_inj hy hq]; exact hx⟩,st',λb hb=>(hf b hb).1⟩⟩
 done:=by intro X hP hw hK hc i adG s U H E I hf st hg;subst hP hw hK;obtain⟨xs,hq,hx⟩:=hg;obtain⟨its,rv,p,hz⟩:=I.list hq;obtain⟨f0,f1,f2,f3,f4,f5⟩:=hf it (by simp);have hl:=rv.length;exact wpAny_pyNext_list_end (I.ok.hd hc) st p.isList (by simp; omega) λh' eb=>⟨rfl,I.turned (λb o hb e=>eb b o hb e) f0 f1 f3 f4 f5⟩
 self:=λ_ _ _ _ _ st h=>wpAny_pyIter_listiter st h
theorem KZ {K:FG} (a it:Addr):Turn P w K tg (R7 K a) [it] it (λi h=>h.IsTupleIter it a i) where
 mem:=by simp
 obj:=λi h st b hb=>by
  have e:b=it:=by simpa using hb
  subst e;obtain⟨o,e,c,d⟩:=st;exact⟨o,e,λv z=>by rw[d]at z; cases z⟩
 keep:=λi h h' st k=>st.at λo e=>k it (by simp) o e
 item:=by intro X hP hw hK hc i adG s U H E I hf st hg;subst hP hw hK;obtain⟨xs,x,hq,hx⟩:=hg;obtain⟨its,rv,p,hz⟩:=I.tuple hq;obtain⟨u,hu,ru⟩:=rv.get hx;obtain⟨f0,f1,f2,f3,f4,f5⟩:=hf it (by simp);refine wpAny_pyNext_tuple_item st (p) (by simpa using hu) λh' st' sb=>?_;have I1:=I.turned (t':=s.toks) (λb o hb e=>(sb.2 b hb).trans e) f0 f1 f3 f4 f5;obtain⟨o,e,c,d⟩:=id st';exact⟨u,rfl,zG e c d (by decide) ⟨x,H,I1,ru,⟨rfl,λys hy=>by rw[I.tuple_inj hy hq]; exact hx⟩,st',λb hb=>(hf b hb).1⟩⟩
 done:=by intro X hP hw hK hc i adG s U H E I hf st hg;subst hP hw hK;obtain⟨xs,hq,hx⟩:=hg;obtain⟨its,rv,p,hz⟩:=I.tuple hq;obtain⟨f0,f1,f2,f3,f4,f5⟩:=hf it (by simp);have hl:=rv.length;exact wpAny_pyNext_tuple_end (I.ok.hd hc) st (p) (by simp; omega) λh' eb=>⟨rfl,I.turned (λb o hb e=>eb b o hb e) f0 f1 f3 f4 f5⟩
 self:=λ_ _ _ _ _ st h=>wpAny_pyIter_tupleiter st h
theorem K1 {K:FG} (it:Addr) (lo:Int) (n:Nat):Turn P w K tg (M5 lo n) [it] it (λi h=>IsRangeIter h it (lo+(i:Nat)*1) ((n:Int)-(i:Nat)) 1) where
 mem:=by simp
 obj:=λi h st b hb=>by
  have e:b=it:=by simpa using hb
  subst e;exact⟨_,st,λv z=>by have z':=z;cases z'⟩
 keep:=λi h h' st k=>k it (by simp) _ st
 item:=by intro X hP hw hK hc i adG s U H E I hf st hg;subst hP hw hK;obtain⟨f0,f1,f2,f3,f4,f5⟩:=hf it (by simp);have W:=Walks.range (prog:=X.prog) (w:=X.w) (I.ok.hd hc) it lo 1 n;refine W.item i s _ _ hg st λv h' tk hv st' kk=>?_;obtain⟨t,rfl⟩:=hv;have I1:Inv X adG U H { s with heap:=h',toks:=tk }:=I.turned (λb o hb e=>kk b o (by simpa using hb) e) f0 f1 f3 f4 f5;refine⟨_,rfl,zG (n := "range_iterator") st' rfl rfl (by decide) ⟨.int (lo+i),H,I1,⟨t,?_⟩,⟨rfl,rfl⟩,st',λb hb=>(hf b hb).1⟩⟩;rw[Int.mul_one]
 done:=by intro X hP hw hK hc i adG s U H E I hf st hg;obtain⟨f0,f1,f2,f3,f4,f5⟩:=hf it (by simp);exact wpAny_pyNext_range_end (I.ok.hd hc) st (by have:n<=i:=hg; omega) λh' eb=>⟨rfl,I.turned (λb o hb e=>eb b o hb e) f0 f1 f3 f4 f5⟩
 self:=λ_ _ _ _ _ st h=>wpAny_pyIter_rangeiter st h
section
variable {X:Cx} {tg:Expr}
theorem Gi {U:St} {lo hi:Int} (I:Inv X adG U H s) (h1:-(2 ^ 62)<=lo) (h2:lo<2 ^ 62) (h3:-(2 ^ 62)<=hi) (h4:hi<2 ^ 62)
 (q:R (M5 lo (hi-lo).toNat) H):wpAny (model X.prog X.w) X.A (pyIter (.ref s.heap.objs.size)) (PIE X adG U tg R) E { s with heap:=s.heap.push { cls:=.type "range",data:=.fields #[.int lo t,.int hi u,.int 1 v] },toks:=tk }:=by
 refine wpAny_pyIter_range (IsRange.new ..) (small_one h1 h2 h3 h4) ?_;have I1:Inv X adG U H { s with heap:=s.heap.push { cls:=.type "range",data:=.fields #[.int lo t,.int hi u,.int 1 v] },toks:=tk }:=I.kept λb o e=>aak _ e;refine⟨(s.heap.push { cls:=.type "range",data:=.fields #[.int lo t,.int hi u,.int 1 v] }).objs.size,[(s.heap.push { cls:=.type "range",data:=.fields #[.int lo t,.int hi u,.int 1 v] }).objs.size],_,_,H,rfl,
  I1.kept λb o e=>aak _ e,K1 _ lo (hi-lo).toNat,?_,λb hb=>?_,q⟩
 . have e1:lo+((0:Nat):Int)*1=lo:=by simp
   have e2:(((hi-lo).toNat:Nat):Int)-((0:Nat):Int)=Builtin.Range.rangeSize lo hi 1:=by rw[rangeSize_one]; split<;>omega
   rw[e1,e2];exact aat _ rfl
 . have e:b=(s.heap.push { cls:=.type "range",data:=.fields #[.int lo t,.int hi u,.int 1 v] }).objs.size:=by simpa using hb
   subst e;exact I1.fpOk (aan _) (I1.hok.fresh (aan _))
def Yd (ta:TA):TI:=λU H R=>ta U H λvs H1=>∃j:Int,vs=[.int j]/\-(2 ^ 62)<=j/\j<2 ^ 62/\R (M5 0 j.toNat) H1
def R8 (ta:TA):TI:=λU H R=>ta U H λvs H1=>∃i j:Int,vs=[.int i,.int j]/\(-(2 ^ 62)<=i/\i<2 ^ 62/\-(2 ^ 62)<=j/\j<2 ^ 62)/\R (M5 i (j-i).toNat) H1
theorem M7 (hg:Gl X "range") (hm:X.mg "range" = none) (ha:PA X [a] ta) (hs:starEach [a] X.env=[(false,eval a X.env)]:=by rfl):PI X tg (.Call (.Name "range" p) [a] [] pos) (Yd ta):=by
 intro adG s U H R I h;refine Call_ (qT I hg hm boot_range (PyProof.Rows.callWith_type1 (cF (ha pos adG s U H _ I h) λus s1 ⟨vs,H1,I1,r1,q1⟩=>?_) hs rfl));obtain⟨j,e,q1,q2,q⟩:=q1;subst e;cases r1 with
 | cons r rr=>
  cases rr;obtain⟨t,rfl⟩:=r;exact call_range_1 (Gi I1 (by omega) (by omega) q1 q2 (by simpa using q))
theorem Dq {p pos:Pos} (hg:Gl X "range") (hm:X.mg "range" = none) (ha:PA X [a,b] ta) (hs:starEach [a,b] X.env=[(false,eval a X.env),(false,eval b X.env)]:=by rfl) (hs2:starEach [b] X.env=[(false,eval b X.env)]:=by rfl):
 PI X tg (.Call (.Name "range" p) [a,b] [] pos) (R8 ta):=by
 intro adG s U H R I h;refine Call_ (qT I hg hm boot_range (PyProof.Rows.callWith_type1 (cF (ha pos adG s U H _ I h) λus s1 ⟨vs,H1,I1,r1,q1⟩=>?_) (by rw[hs,hs2]) (by rw[hs2]; rfl)));obtain⟨i,j,e,⟨q1,q2,q3,q4⟩,q⟩:=q1;subst e;cases r1 with
 | cons r rr=>
  cases rr with
  | cons r' rr=>
   cases rr;obtain⟨t,rfl⟩:=r;obtain⟨t',rfl⟩:=r';exact call_range_2 (Gi I1 q1 q2 q3 q4 q)
def Zq (wi:TI) (g:TG) (tb:TS):TS:=λD U H=>wi U H λJ H1=>∃W:Nat->Nat->St->Hp->Prop,(∃m,W 0 m U H1)/\∀i m U H,W i m U H->
 (J.stop i H/\D.nx U H)\/(J.go i H/\∃N:St->Hp->Prop,(∀U' H',N U' H'->∃m',m'<m/\W (i+1) m' U' H')/\∀x H',J.yld i H x H'->g x U H' λU2 H2=>tb { D with nx:=N,ct:=N,bk:=D.nx } U2 H2)
def vV (fp:List Addr) (h:Heap):List (Addr×Obj):=fp.filterMap λb=>(h.get? b).map λo=>(b,o)
theorem uN (hb:b∈fp) (e:h.get? b=some o):(b,o)∈vV fp h:=aaN.mpr ⟨b,hb,by rw[e]; rfl⟩
theorem M8 (hp:p∈vV fp h):p.1∈fp/\h.get? p.1=some p.2:=by
 obtain⟨b,hb,e⟩:=aaN.mp hp;cases q:h.get? b with
 | none=>rw[q]at e; cases e
 | some o=>
  rw[q]at e;have e':=aap e;subst e';exact⟨hb,q⟩
theorem Inv.pinned {U:St} (I:Inv X adG U H s) (hf:∀b∈fp,lY X adG H b) (ho:∀b∈fp,∃o,s.heap.get? b=some o/\∀v,o.data≠.cell v):Inv X (adG++vV fp s.heap) U H s:=
 I.pins_of λp hp=>(aaH.mp hp).elim (λz=>I.pin p (aaG _ z)) λz=>by obtain⟨hb,e⟩:=M8 z;obtain⟨f0,f1,f2,_⟩:=hf p.1 hb;obtain⟨o,e',d⟩:=ho p.1 hb;rw[e]at e'; cases e';exact⟨e,f0,f1,f2,d⟩
theorem Inv.unpinned {U:St} (I:Inv X (adG++pl) U H s):Inv X adG U H s:=I.pins_of λp hp=>I.pin p (aaG _ (aaM _ hp))
theorem Gj (hp:PassesOwn (model X.prog X.w) X.A X.env X.xe) (hc:X.calm=true) (hi:PI X tg iter wi) (hg:PG X tg g) (hb:iu X body tb)
 (hs:∀x,foldedSetIterable iter X.env x=pure x:=by intro _; rfl):PS X (.For tg iter body [] pos) (Zq wi g tb):=by
 intro adG s U H D I h;refine wpAny_For (cF (hi adG s U H _ I h) λv s1 h1=>cF h1 λitv s2 h2=>?_) hs;obtain⟨it,fp,tn,J,H2,e,I2,T,st2,f2,W,⟨m0,w0⟩,turn⟩:=h2;subst e;have stat:∀{H':Hp},(∀b∈fp,H' b=none)->∀b∈fp,lY X adG H' b:=λhn b hb=>⟨hn b hb,(f2 b hb).2⟩;refine codeAny_forLoop_any (λn s'=>∃i U' H',Inv X adG U' H' s'/\tn i s'.heap/\(∀b∈fp,H' b=none)/\W i n U' H') ?_ m0 ⟨0,U,H2,I2,st2,λb hb=>(f2 b hb).1,w0⟩;rintro n s3 ⟨i,U3,H3,I3,st3,fr3,w3⟩;rcases turn i n U3 H3 w3 with ⟨stop,qn⟩ | ⟨go,N,hN,step⟩
 . refine wpAny_passesOwn hp (cF (T.done X rfl rfl rfl hc i adG s3 U3 H3 X.xe I3 (stat fr3) st3 stop) λr s4 ⟨hr,I4⟩=>?_);subst hr;exact wpAny_execs_nil ⟨U3,H3,I4,qn⟩
 . refine wpAny_passesOwn hp (cF (T.item X rfl rfl rfl hc i adG s3 U3 H3 X.xe I3 (stat fr3) st3 go) λr s4 ⟨u,hr,h4⟩=>?_);subst hr;refine wpAny_passesOwn hp (cF h4 λ_ s5 ⟨x,H5,I5,r5,y5,st5,fr5⟩=>?_);have I5':=I5.pinned (stat fr5) (T.obj _ _ st5);refine wpAny_passesOwn hp (cF (hg _ s5 U3 H5 x u _ I5' r5 (step x H5 y5)) λ_ s6 ⟨U6,H6,I6,q6⟩=>?_);refine wpAny_passesOwn hp (cF (hb _ s6 U6 H6 _ I6 q6) λf s7 q7=>?_);have again:∀{U7:St} {H7:Hp},Inv X (adG++vV fp s5.heap) U7 H7 s7->N U7 H7->∃m,m<n/\∃i U' H',Inv X adG U' H' s7/\tn i s7.heap/\(∀b∈fp,H' b=none)/\W i m U' H':=λ{U7 H7} I7 n7=>by obtain⟨m',hm,w7⟩:=hN U7 H7 n7;refine⟨m',hm,i+1,U7,H7,I7.unpinned,T.keep _ _ _ st5 λb hb o e=>(I7.pin (b,o) (aaG _ (aaG _ (uN hb e)))).1,λb hb=>?_,w7⟩;obtain⟨o,e,d⟩:=T.obj _ _ st5 b hb;exact(I7.pin (b,o) (aaG _ (aaG _ (uN hb e)))).2.1
   cases f with
   | next=>obtain⟨U7,H7,I7,n7⟩:=q7; exact again I7 n7
   | cont=>obtain⟨U7,H7,I7,n7⟩:=q7; exact again I7 n7
   | brk=>obtain⟨U7,H7,I7,q7⟩:=q7; exact⟨U7,H7,I7.unpinned,q7⟩
   | ret v=>obtain⟨x7,U7,H7,I7,r7,q7⟩:=q7; exact⟨x7,U7,H7,I7.unpinned,r7,q7⟩
end
abbrev R2:=V->V->Hp->VK->Prop
def fP (X:Cx) (f:Value->Value->Sem Value) (r:R2):Prop:=
 ∀(adG:List (Addr×Obj)) (s:Shared) (U:St) (H:Hp) (x y:V) (v u:Value) (Q:VK),Inv X adG U H s->RelV x v->RelV y u->r x y H Q->
  wpAny (model X.prog X.w) X.A (f v u) (EP X adG U Q) X.xe s
def VP (X:Cx) (f:Value->Sem Value) (r:V->Hp->VK->Prop):Prop:=
 ∀(adG:List (Addr×Obj)) (s:Shared) (U:St) (H:Hp) (x:V) (v:Value) (Q:VK),Inv X adG U H s->RelV x v->r x H Q->
  wpAny (model X.prog X.w) X.A (f v) (EP X adG U Q) X.xe s
def mJ (X:Cx) (f:Value) (r:List V->Hp->VK->Prop):Prop:=
 ∀(adG:List (Addr×Obj)) (s:Shared) (U:St) (H:Hp) (xs:List V) (us:List Value) (Q:VK),Inv X adG U H s->Vals xs us->r xs H Q->
  wpAny (model X.prog X.w) X.A (call f us) (EP X adG U Q) X.xe s
def Zr (X:Cx) (r:V->Hp->(Bool->Hp->Prop)->Prop):Prop:=
 ∀(adG:List (Addr×Obj)) (s:Shared) (U:St) (H:Hp) (x:V) (v:Value) (Q:Bool->Hp->Prop),Inv X adG U H s->RelV x v->r x H Q->
  wpAny (model X.prog X.w) X.A (truthy v) (TP X adG U Q) X.xe s
def M9 (r:R2) (ta tb:TE):TE:=λU H Q=>ta U H λx H1=>tb U H1 λy H2=>r x y H2 Q
def ZZ (r:V->Hp->VK->Prop) (ta:TE):TE:=λU H Q=>ta U H λx H1=>r x H1 Q
def rI (C:Int->Int->Prop) (g:Int->Int->V):R2:=λx y H Q=>∃i j,x=.int i/\y=.int j/\C i j/\Q (g i j) H
def ug (g:Int->Int->V):R2:=λx y H Q=>∃i j,x=.int i/\y=.int j/\Q (g i j) H
def rU (g:Int->V):V->Hp->VK->Prop:=λx H Q=>∃i,x=.int i/\Q (g i) H
section
variable {X:Cx} {a b c:Expr} {ta tb tc:TE} {pos:Pos}
theorem Qo (ha:PE X a ta) (hb:PE X b tb) {U:St} {R:V->V->Hp->Prop} (I:Inv X adG U H s)
 (h:ta U H λx H1=>tb U H1 λy H2=>R x y H2) {f:Value->Value->Sem Value}
 (hf:∀v u s2 x y H2,Inv X adG U H2 s2->RelV x v->RelV y u->R x y H2->wpAny (model X.prog X.w) X.A (f v u) Q X.xe s2):
 wpAny (model X.prog X.w) X.A (eval a X.env) (λv s₁=>wpAny (model X.prog X.w) X.A (eval b X.env) (λu s₂=>wpAny (model X.prog X.w) X.A (f v u) Q X.xe s₂) X.xe s₁) X.xe s:=by
 refine cF (ha adG s U H _ I h) λv s1 ⟨x,H1,I1,r1,q1⟩=>?_;refine cF (hb adG s1 U H1 _ I1 q1) λu s2 ⟨y,H2,I2,r2,q2⟩=>?_;exact hf v u s2 x y H2 I2 r1 r2 q2
theorem Ye (ho:fP X (binaryOp op) r) (ha:PE X a ta) (hb:PE X b tb):PE X (.BinOp a op b pos) (M9 r ta tb):=by intro adG s U H Q I h;exact wpAny_BinOp (Qo ha hb I h λv u s2 x y H2 I2 rx ry q=>ho adG s2 U H2 x y v u Q I2 rx ry q)
theorem Yg (ho:VP X (unaryOp op) r) (ha:PE X a ta):PE X (.UnaryOp op a pos) (ZZ r ta):=by intro adG s U H Q I h;exact UnaryOp_ (cF (ha adG s U H _ I h) λv s1 ⟨x,H1,I1,r1,q1⟩=>ho adG s1 U H1 x v Q I1 r1 q1)
theorem R9 {g:Int->Int->Int}
 (rule:∀(i j:Int) (t u:Tok) (s:Shared) (Q:Value->Shared->Prop) (E:Value->Shared->Prop),C i j->Q (.int (g i j) s.toks) { s with toks:=s.toks+1 }->wpAny (model X.prog X.w) X.A (f (.int i t) (.int j u)) Q E s):
 fP X f (rI C λi j=>.int (g i j)):=by
 intro adG s U H x y v u Q I rx ry h;obtain⟨i,j,rfl,rfl,hc,q⟩:=h;obtain⟨t,rfl⟩:=rx;obtain⟨t',rfl⟩:=ry;exact rule i j t t' s _ _ hc ⟨.int (g i j),H,I.tok _,⟨_,rfl⟩,q⟩
theorem VV {g:Int->Int->Int}
 (rule:∀(i j:Int) (t u:Tok) (s:Shared) (Q:Value->Shared->Prop) (E:Value->Shared->Prop),Q (.int (g i j) s.toks) { s with toks:=s.toks+1 }->wpAny (model X.prog X.w) X.A (f (.int i t) (.int j u)) Q E s):
 fP X f (ug λi j=>.int (g i j)):=by
 intro adG s U H x y v u Q I rx ry h;obtain⟨i,j,rfl,rfl,q⟩:=h;obtain⟨t,rfl⟩:=rx;obtain⟨t',rfl⟩:=ry;exact rule i j t t' s _ _ ⟨.int (g i j),H,I.tok _,⟨_,rfl⟩,q⟩
theorem Qp {g:Int->Int->Bool}
 (rule:∀(i j:Int) (t u:Tok) (s:Shared) (Q:Value->Shared->Prop) (E:Value->Shared->Prop),Q (.bool (g i j)) s->wpAny (model X.prog X.w) X.A (f (.int i t) (.int j u)) Q E s):
 fP X f (ug λi j=>.bl (g i j)):=by
 intro adG s U H x y v u Q I rx ry h;obtain⟨i,j,rfl,rfl,q⟩:=h;obtain⟨t,rfl⟩:=rx;obtain⟨t',rfl⟩:=ry;exact rule i j t t' s _ _ ⟨.bl (g i j),H,I,rfl,q⟩
def V1 (i j:Int):Prop:=0<j/\j<1073741824
def V2 (i j:Int):Prop:=0<=j/\j<=1000000/\i.natAbs<2 ^ 64
def K3 (i j:Int):Prop:=(-(2 ^ 64)<i/\i<2 ^ 64)\/(-(2 ^ 64)<j/\j<2 ^ 64)
theorem K3.ok (h:K3 i j):IntMulOk i j:=by
 rcases h with ⟨h1,h2⟩ | ⟨h1,h2⟩
 . exact .of_left (intBits_le_64 h1 h2)
 . exact .of_right (intBits_le_64 h1 h2)
theorem V3:fP X (binaryOp .Add) (ug λi j=>.int (i+j)):=VV λ_ _ _ _ _ _ _ q=>add_int q
theorem lr:fP X (binaryOp .Sub) (ug λi j=>.int (i-j)):=VV λ_ _ _ _ _ _ _ q=>sub_int q
theorem mz:fP X (binaryOp .Mult) (rI K3 λi j=>.int (i*j)):=R9 λ_ _ _ _ _ _ _ hc q=>mul_int q hc.ok
theorem Ca:fP X (binaryOp .FloorDiv) (rI V1 λi j=>.int (i/j)):=R9 λi j _ _ _ _ _ hc q=>by have h1:=hc.1;have h2:=hc.2;exact floordiv_int (by omega) (by rw[Int.fdiv_eq_ediv_of_nonneg i (by omega)]; exact q) (.inl (PyProof.noPylong_small (by omega)))
theorem gY:fP X (binaryOp .Mod) (rI (λ_ j=>0<j) λi j=>.int (i%j)):=R9 λi j _ _ _ _ _ hc q=>by have h1:=hc;exact mod_int' (by omega) (by rw[Int.fmod_eq_emod_of_nonneg i (by omega)]; exact q)
theorem zH:fP X (binaryOp .Pow) (rI V2 λi j=>.int (i ^ j.toNat)):=R9 λ_ _ _ _ _ _ _ hc q=>pow_int_small hc.1 hc.2.1 hc.2.2 q
theorem Z3 {g:Int->Int}
 (rule:∀(i:Int) (t:Tok) (s:Shared) (Q:Value->Shared->Prop) (E:Value->Shared->Prop),Q (.int (g i) s.toks) { s with toks:=s.toks+1 }->wpAny (model X.prog X.w) X.A (f (.int i t)) Q E s):
 VP X f (rU λi=>.int (g i)):=by
 intro adG s U H x v Q I rx h;obtain⟨i,rfl,q⟩:=h;obtain⟨t,rfl⟩:=rx;exact rule i t s _ _ ⟨.int (g i),H,I.tok _,⟨_,rfl⟩,q⟩
theorem V4:VP X (unaryOp .USub) (rU λi=>.int (-i)):=Z3 λ_ _ _ _ _ q=>neg_int q
end
def scal:V->V->Bool
 | .non,.non=>true | .non,.int _=>true | .int _,.non=>true | .non,.bl _=>true | .bl _,.non=>true | .non,.str _=>true | .str _,.non=>true
 | .int _,.int _=>true | .bl _,.bl _=>true | .str _,.str _=>true | .byt _,.byt _=>true
 | .int _,.str _=>true | .str _,.int _=>true | .bl _,.str _=>true | .str _,.bl _=>true
 | _,_=>false
section
variable {X:Cx} {a b c:Expr} {ta tb tc:TE} {pos:Pos}
theorem zJ {U:St} (I:Inv X adG U H s) (q:Q (.bl k) H) (e:k=k'):EP X adG U Q (.bool k') s:=by subst e;exact⟨.bl k,H,I,rfl,q⟩
theorem mK:fP X (compareOp .Lt) (ug λi j=>.bl (decide (i<j))):=Qp λ_ _ _ _ _ _ _ q=>lt_int q
theorem Sd:fP X (compareOp .LtE) (ug λi j=>.bl (decide (i<=j))):=Qp λ_ _ _ _ _ _ _ q=>le_int q
theorem Fp:fP X (compareOp .Gt) (ug λi j=>.bl (decide (j<i))):=Qp λ_ _ _ _ _ _ _ q=>gt_int q
theorem Nb:fP X (compareOp .In) (λx y H Q=>∃i j,x=.str i/\y=.str j/\Q (.bl (!(Builtin.Str.occurrences j i 0 j.length 1).isEmpty)) H):=by intro adG s U H x y v u Q I rx ry h;obtain⟨i,j,rfl,rfl,q⟩:=h;obtain⟨t,rfl⟩:=rx;obtain⟨t',rfl⟩:=ry;exact in_str (zJ I q rfl)
theorem V5:fP X (compareOp .Is) (λx y H Q=>y=.non/\Q (.bl (decide (x=.non))) H):=by
 intro adG s U H x y v u Q I rx ry h;obtain⟨rfl,q⟩:=h;cases ry;refine is_none_gen (zJ I q ?_);cases x<;>first
  | (cases rx; rfl)
  | (obtain⟨t,rfl⟩:=rx; rfl)
theorem m7:fP X (compareOp .IsNot) (λx y H Q=>y=.non/\Q (.bl (!decide (x=.non))) H):=by
 intro adG s U H x y v u Q I rx ry h;obtain⟨rfl,q⟩:=h;cases ry;refine isnot_none_gen (zJ I q ?_);cases x<;>first
  | (cases rx; rfl)
  | (obtain⟨t,rfl⟩:=rx; rfl)
theorem Gk:fP X (compareOp .NotIn) (λx y H Q=>∃i j,x=.str i/\y=.str j/\Q (.bl (!(!(Builtin.Str.occurrences j i 0 j.length 1).isEmpty))) H):=by intro adG s U H x y v u Q I rx ry h;obtain⟨i,j,rfl,rfl,q⟩:=h;obtain⟨t,rfl⟩:=rx;obtain⟨t',rfl⟩:=ry;exact notIn_str (zJ I q rfl)
theorem fP.or (h:fP X f r) (h':fP X f r'):fP X f (λx y H Q=>r x y H Q\/r' x y H Q):=by
 intro adG s U H x y v u Q I rx ry q;rcases q with q | q
 . exact h adG s U H x y v u Q I rx ry q
 . exact h' adG s U H x y v u Q I rx ry q
theorem bx (b:Expr) (h:op≠.In:=by decide) (h2:op≠.NotIn:=by decide):behindInMarks op b=false:=by
 have e1:(op==CmpOp.In)=false:=by cases op<;>first | rfl | exact absurd rfl h
 have e2:(op==CmpOp.NotIn)=false:=by cases op<;>first | rfl | exact absurd rfl h2
 cases b<;>simp[behindInMarks,e1,e2]
theorem T3 (ho:fP X (compareOp op) r) (ha:PE X a ta) (hb:PE X b tb) (hm:behindInMarks op b=false):PE X (.Compare a [op] [b] pos) (M9 r ta tb):=by intro adG s U H Q I h;exact wpAny_Compare1 (Qo ha hb I h λv u s2 x y H2 I2 rx ry q=>ho adG s2 U H2 x y v u Q I2 rx ry q) hm
def Sg (t:TE):TT:=λU H Q=>t U H λx H'=>∃k,x=.bl k/\Q k H'
theorem T4 (ho:fP X (compareOp op) r) (ha:PE X a ta) (hb:PE X b tb) (hm:behindInMarks op b=false):PT X (.Compare a [op] [b] pos) (Sg (M9 r ta tb)):=by
 intro adG s U H Q I h;refine wpAny_isTrue_Compare1 (cF (ha adG s U H _ I h) λv s1 ⟨x,H1,I1,r1,q1⟩=>cF (hb adG s1 U H1 _ I1 q1) λu s2 ⟨y,H2,I2,r2,q2⟩=>
  cF (ho adG s2 U H2 x y v u _ I2 r1 r2 q2) λc s3 ⟨z,H3,I3,r3,k,e,q3⟩=>?_) hm
 subst e;cases r3;exact wpAny_truthy_bool ⟨H3,I3,q3⟩
def Nf (r r':R2) (ta tb tc:TE):TE:=λU H Q=>ta U H λx H1=>tb U H1 λy H2=>r x y H2 λz H3=>∃k,z=.bl k/\
 (if k=true then tc U H3 λw' H4=>r' y w' H4 Q else Q (.bl false) H3)
theorem Qq (ho:fP X (compareOp op) r) (ho':fP X (compareOp op') r') (ha:PE X a ta) (hb:PE X b tb) (hc:PE X c tc)
 (hm:lastMarks [op,op'] [b,c]=false:=by with_unfolding_all rfl):PE X (.Compare a [op,op'] [b,c] pos) (Nf r r' ta tb tc):=by
 intro adG s U H Q I h;refine Compare_chain (cF (ha adG s U H _ I h) λv s1 ⟨x,H1,I1,r1,q1⟩=>chain_link (cF (hb adG s1 U H1 _ I1 q1) λu s2 ⟨y,H2,I2,r2,q2⟩=>
  cF (ho adG s2 U H2 x y v u _ I2 r1 r2 q2) λd s3 ⟨z,H3,I3,r3,k,e,q3⟩=>?_)) hm
 subst e;cases r3;refine wpAny_truthy_bool ?_;cases k with
 | false=>exact ite_ff ⟨.bl false,H3,I3,rfl,q3⟩
 | true=>exact ite_tt (chain_last (cF (hc adG s3 U H3 _ I3 q3) λw' s4 ⟨z',H4,I4,r4,q4⟩=>ho' adG s4 U H4 y z' u w' Q I4 r2 r4 q4))
def Qs (K:FG) (x:V) (H:Hp) (k:Bool):Prop:=
 match x with
 | .non=>k=false
 | .bl b=>k=b
 | .int i=>k=(i != 0)
 | .str y=>y.length<=sizeLine/\k=((y.length:Int) != 0)
 | .byt y=>y.size<=sizeLine/\k=((y.size:Int) != 0)
 | .ref p=>(∃xs,cz K H p xs/\k=!xs.isEmpty)\/(∃xs,fj K H p xs/\k=!xs.isEmpty)\/∃kvs,H p=some (.dK kvs)/\k=!kvs.isEmpty
 | _=>False
theorem K4 (r:KV kvs vs):(!vs.isEmpty)=!kvs.isEmpty:=by cases r<;>rfl
theorem zK (r:Vals xs its):(!its.toArray.isEmpty)=!xs.isEmpty:=by cases r<;>simp
theorem uh:(sizeLine:Nat)<2 ^ 63:=by  decide
theorem V6:Zr X (λx H Q=>∃k,Qs X.K x H k/\Q k H):=by
 intro adG s U H x v Q I rx h;obtain⟨k,e,q⟩:=h;have hs:=sizeLine_eq;cases x with
 | non=>
  cases rx;have e':=e;subst e';exact truthy_none ⟨H,I,q⟩
 | bl b=>
  cases rx;have e':=e;subst e';exact wpAny_truthy_bool ⟨H,I,q⟩
 | int i=>
  obtain⟨t,rfl⟩:=rx;have e':=e;subst e';exact PySem.P.truthy_int ⟨H,I,q⟩
 | str y=>
  obtain⟨t,rfl⟩:=rx;obtain⟨hy,e'⟩:y.length<=sizeLine/\k=((y.length:Int) != 0):=e;subst e';exact PySem.P.truthy_str (by omega) ⟨H,I.tok _,q⟩
 | byt y=>
  obtain⟨t,rfl⟩:=rx;obtain⟨hy,e'⟩:y.size<=sizeLine/\k=((y.size:Int) != 0):=e;subst e';exact W.truthy_bytes (by omega) ⟨H,I.tok _,q⟩
 | ref p=>
  cases rx;have e':=e;rcases e' with ⟨xs,hx,e'⟩ | ⟨xs,hx,e'⟩ | ⟨kvs,hx,e'⟩
  . subst e';obtain⟨its,r,pl,hz⟩:=I.list hx;have hlen:=r.length;exact wpAny_truthy_list pl.isList (by simp only[aam]; omega) ⟨H,I.tok _,by rw[zK r]; exact q⟩
  . subst e';obtain⟨its,r,pl,hz⟩:=I.tuple hx;have hlen:=r.length;exact truthy_tuple pl (by simp only[aam]; omega) ⟨H,I.tok _,by rw[zK r]; exact q⟩
  . subst e';obtain⟨hz,hS,vs,r,m⟩:kvs.length<=sizeLine/\(p==sysModules)=false/\∃vs,KV kvs vs/\s.heap.DictOf (dD X.prog X.w) p vs:=I.hok p _ hx;have hlen:=Paired.length r;exact wpAny_truthy_dict hS m (by omega) ⟨H,I.tok _,by rw[K4 r]; exact q⟩
 | _=>exact(e).elim
theorem Qt (ha:PE X a ta) (he:∀whole,isTrue a X.env whole=(do let v <-whole; standAt a.pos; holding [v] (truthy v))):
 PT X a (λU H Q=>ta U H λx H'=>∃k,Qs X.K x H' k/\Q k H'):=by
 intro adG s U H Q I h;exact isTrue_plain (cF (ha adG s U H _ I h) λv s1 ⟨x,H1,I1,r1,q1⟩=>V6 adG s1 U H1 x v Q I1 r1 q1) (he _)
theorem K5:fP X (binaryOp .Add) (λx y H Q=>∃i j,x=.str i/\y=.str j/\i.length+j.length<=sizeLine/\Q (.str (i++j)) H):=by intro adG s U H x y v u Q I rx ry h;obtain⟨i,j,rfl,rfl,hz,q⟩:=h;obtain⟨t,rfl⟩:=rx;obtain⟨t',rfl⟩:=ry;exact add_str (λt' tk=>⟨.str (i++j),H,I.tok _,⟨_,rfl⟩,q⟩) hz
theorem vals1 (r:Vals [x] us):∃u,us=[u]/\RelV x u:=by
 cases r with
 | cons r1 r2=>cases r2; exact⟨_,rfl,r1⟩
theorem vals2 (r:Vals [x,y] us):∃u w',us=[u,w']/\RelV x u/\RelV y w':=by
 cases r with
 | cons r1 r2=>
  cases r2 with
  | cons r3 r4=>cases r4; exact⟨_,_,rfl,r1,r3⟩
theorem Ds (hc:X.calm=true):mJ X (.builtin "max") (λxs H Q=>∃i j,xs=[.int i,.int j]/\Q (.int (if j>i then j else i)) H):=by
 intro adG s U H xs us Q I r h;obtain⟨i,j,rfl,q⟩:=h;obtain⟨u,w',rfl,⟨t,rfl⟩,⟨t',rfl⟩⟩:=vals2 r;refine max_two_ints (I.ok.hd hc) λh' tk k=>⟨_,H,I.kept k,?_,q⟩;by_cases hj:j>i
 . rw[abR hj,abR hj]; exact⟨_,rfl⟩
 . rw[abS hj,abS hj]; exact⟨_,rfl⟩
theorem Dt (hc:X.calm=true):mJ X (.builtin "min") (λxs H Q=>∃i j,xs=[.int i,.int j]/\Q (.int (if j<i then j else i)) H):=by
 intro adG s U H xs us Q I r h;obtain⟨i,j,rfl,q⟩:=h;obtain⟨u,w',rfl,⟨t,rfl⟩,⟨t',rfl⟩⟩:=vals2 r;refine min_two_ints (I.ok.hd hc) λh' tk k=>⟨_,H,I.kept k,?_,q⟩;by_cases hj:j<i
 . rw[abR hj,abR hj]; exact⟨_,rfl⟩
 . rw[abS hj,abS hj]; exact⟨_,rfl⟩
theorem vW:mJ X (.type "str") (λxs H Q=>∃i,xs=[.int i]/\i.natAbs.log2<1920/\Q (.str (toString i)) H):=by intro adG s U H xs us Q I r h;obtain⟨i,rfl,hz,q⟩:=h;obtain⟨u,rfl,t,rfl⟩:=vals1 r;exact PySem.P.str_of_int hz ⟨.str _,H,I.tok _,⟨_,rfl⟩,q⟩
def Qu (K:FG) (x:V) (H:Hp) (n:Nat):Prop:=
 match x with
 | .str y=>y.length<=sizeLine/\n=y.length
 | .byt y=>y.size<=sizeLine/\n=y.size
 | .ref p=>(∃xs,cz K H p xs/\n=xs.length)\/∃xs,fj K H p xs/\n=xs.length
 | _=>False
theorem oK:mJ X (.builtin "len") (λxs H Q=>∃x n,xs=[x]/\Qu X.K x H n/\Q (.int n) H):=by
 intro adG s U H xs us Q I r h;obtain⟨x,n,rfl,e,q⟩:=h;obtain⟨u,rfl,rx⟩:=vals1 r;have hs:=sizeLine_eq;cases x with
 | str y=>
  obtain⟨t,rfl⟩:=rx;obtain⟨hy,e'⟩:y.length<=sizeLine/\n=y.length:=e;subst e';exact len_str (by omega) ⟨.int _,H,I.tok _,⟨_,rfl⟩,q⟩
 | byt y=>
  obtain⟨t,rfl⟩:=rx;obtain⟨hy,e'⟩:y.size<=sizeLine/\n=y.size:=e;subst e';exact W.len_bytes (by omega) ⟨.int _,H,I.tok _,⟨_,rfl⟩,q⟩
 | ref p=>
  cases rx;have e':=e;rcases e' with ⟨xs,hx,e'⟩ | ⟨xs,hx,e'⟩
  . subst e';obtain⟨its,r',pl,hz⟩:=I.list hx;have hlen:=r'.length;exact Calls.call_len_list pl.isList (by simp only[aam]; omega) ⟨.int xs.length,H,I.tok _,⟨_,by simp only[aam]; rw[hlen]⟩,q⟩
  . subst e';obtain⟨its,r',pl,hz⟩:=I.tuple hx;have hlen:=r'.length;exact len_tuple pl (by simp only[aam]; omega) ⟨.int xs.length,H,I.tok _,⟨_,by simp only[aam]; rw[hlen]⟩,q⟩
 | _=>exact(e).elim
end
structure Cd (h:Heap) (x dx C:Addr) (mA:Str->Option Value):Prop where
 obj:h.get? x=some (W.instObj C dx)
 ns:h.Ns1 dx mA
 ne:dx≠x
theorem Ng {h:Heap} (n:h.Ns1 dx mA):∃od,h.get? dx=some od/\∀name,W.lookIn name od=some (mA name):=by
 obtain⟨o,es,ep,ho,hd,hk,_,hm⟩:=n;refine⟨o,ho,λname=>?_⟩;have e:=hm name;unfold nsFind findBy at e;rw[<-Array.find?_toList]at e;unfold W.lookIn;rw[hd];dsimp only;split
 . rename_i y q;rw[q]at e;exact congrArg some e
 . rename_i q;rw[q]at e;have a:es.toList.any (·.refKey)=false:=by rw[List.any_eq_false];intro y hy;obtain⟨z,t,hkey⟩:=hk y (Array.mem_toList_iff.mp hy);simp[DictEntry.refKey,hkey]
   have a':¬ es.toList.any (·.refKey)=true:=by rw[a]; exact aaV
   rw[abS a'];exact congrArg some e
theorem Cd.look (I:Cd h x dx C mA):∃od,W.InstAt h x (W.instObj C dx) C (some od)/\∀name,W.lookIn name od=some (mA name):=
 let ⟨od,ho,hl⟩:=Ng I.ns
 ⟨od,⟨I.obj,rfl,rfl,ho⟩,hl⟩
section
variable {prog:Program} {w:World} {A:Around} {E:Value->Shared->Prop} {s:Shared} {K:FG} {x dx C f:Addr} {mA:Str->Option Value} {name:Str} {v:Value}
theorem T5 (X:K.In s.heap) (I:Cd s.heap x dx C mA) (hg:W.plainGet K C name=true) (hh:W.hasDictIn K C=true)
 (ha:W.findIn K (.ref C) name=some none) (hv:mA name=some v) (hv':W.handedIn v=true) (h:Q v { s with toks:=s.toks+1 }):
 wpAny (model prog w) A (getAttr (.ref x) name expr) Q E s:=by
 obtain⟨od,J,hl⟩:=I.look;exact W.get_value X J (W.plainGet_of hg).1 (W.findObj_own hh ha rfl (by rw[hl,hv])) hv' h
theorem T6 (X:K.In s.heap) (I:Cd s.heap x dx C mA)
 (hs:W.findIn K (.ref C) "__setattr__" = some (some (.builtin "object.__setattr__"))) (hp:W.plainOver K C=true) (ht:W.takerIn K C name=some none) (hh:W.hasDictIn K C=true)
 (hw:PySem.Within mA ns) (hsz:ns.length<=sizeLine)
 (h:∀h',Cd h' x dx C (λy=>if y=name then some v else mA y)->Heap.SameBut dx s.heap h'->Q () { s with heap:=h',toks:=s.toks+2 }):
 wpAny (model prog w) A (setAttr (.ref x) name v) Q E s:=by
 obtain⟨od,J,hl⟩:=I.look;refine W.set_plain X J hs (W.osa_open X J hp ht λb=>?_);obtain⟨cd,hc,hd'⟩:=W.any_some hh;have hx:=I.obj;refine abQ (abT (abQ (abQ (wpAny_loadPart hx (abQ (W.Looks.here (W.looks_clsIn X hc) ?_))))));rw[hd'];refine abT (abQ (abT (abQ ?_)));refine wpAny_nsSet1 I.ns λh' hn2 hs2=>?_;obtain⟨oD,esD,epD,hoD,hdD,hcD⟩:=hn2.count (PySem.Within.cons name v hw);refine abQ (wpAny_lookBehind hoD (by rw[hdD]; exact pastItsLine_dict (aaL hcD (by rw[aac]; omega))) ?_);exact abT (h _ ⟨(hs2.2 _ (Ne.symm I.ne)).trans I.obj,hn2,I.ne⟩ hs2)
theorem Qv (X:K.In s.heap) (hm:W.makesIn K C=true)
 (hi:W.findIn K (.ref C) "__init__" = some (some (.ref f))) (hf:W.typeIn K (.ref f)=some (.type "function"))
 (h:codeAny (model prog w) (A.under (.builtin "type.__call__" ⟨.ref C::vs,kw⟩)) (.call (.ref f) ⟨.ref (s.heap.objs.size+1)::vs,kw⟩) (W.InitBack (s.heap.objs.size+1) R)
   { s with heap:=(s.heap.push W.emptyDict).push (W.instObj C s.heap.objs.size) }):
 codeAny (model prog w) A (.call (.ref C) ⟨vs,kw⟩) R s:=by
 exact W.make_core (W.makes_of X hm) (W.looks_findIn X hi) (λself=>W.bind_fn X self hf) (.inl rfl) h
end
def iW (f:Str) (v:V):List (Str×V)->List (Str×V)
 | []=>[(f,v)]
 | (g,x)::r=>if g=f then (g,v)::r else (g,x)::iW f v r
theorem yC (f g:Str) (v:V):∀fs:List (Str×V),(iW f v fs).lookup g=if g=f then some v else fs.lookup g
 | []=>by
  show List.lookup g [(f,v)]=_;by_cases h:g=f
  . have hb:=beq_iff_eq.mpr h;simp only[List.lookup,hb,abR h]
  . have hb:=abW.mpr h;simp only[List.lookup,hb,abS h]
 | (k,x)::r=>by
  have ih:=yC f g v r;rw[show iW f v ((k,x)::r)=(if k=f then (k,v)::r else (k,x)::iW f v r) from rfl];by_cases hk:k=f
  . rw[abR hk];by_cases h:g=k
    . have hb:=beq_iff_eq.mpr h;simp only[List.lookup,hb,abR (h.trans hk)]
    . have hb:=abW.mpr h;simp only[List.lookup,hb,abS (λe:g=f=>h (e.trans hk.symm))]
  . rw[abS hk];by_cases h:g=k
    . have hb:=beq_iff_eq.mpr h;simp only[List.lookup,hb,abS (λe:g=f=>hk (h.symm.trans e))]
    . have hb:=abW.mpr h;simp only[List.lookup,hb];exact ih
theorem vX (f:Str) (v:V):∀fs:List (Str×V),f∈(iW f v fs).map (·.1)/\∀g,g∈fs.map (·.1)->g∈(iW f v fs).map (·.1)
 | []=>⟨by simp[iW],λg h=>by simp at h⟩
 | (k,x)::r=>by
  obtain⟨i1,i2⟩:=vX f v r;rw[show iW f v ((k,x)::r)=(if k=f then (k,v)::r else (k,x)::iW f v r) from rfl];by_cases hk:k=f
  . subst hk;exact⟨by simp,λg h=>by simpa using h⟩
  . rw[abS hk];refine⟨?_,λg h=>?_⟩
    . exact aai _ i1
    . rcases aah.mp h with e | e
      . exact aah.mpr (.inl e)
      . exact aai _ (i2 g e)
theorem yD (f:Str) (v:V):∀fs:List (Str×V),(iW f v fs).length<=fs.length+1
 | []=>by simp[iW]
 | (k,x)::r=>by
  have ih:=yD f v r;rw[show iW f v ((k,x)::r)=(if k=f then (k,v)::r else (k,x)::iW f v r) from rfl];by_cases hk:k=f
  . rw[abR hk,aac,aac]; omega
  . rw[abS hk,aac,aac]; omega
theorem mR.some_of (r:mR (some v) o):∃u,o=some u/\RelV v u:=by
 cases o with
 | none=>exact(r).elim
 | some u=>exact⟨u,rfl,r⟩
theorem Nh (r:RelV v u):W.handedIn u=true:=by
 cases v with
 | non=>cases (r); rfl
 | bl b=>cases (r); rfl
 | int i=>obtain⟨t,e⟩:=(r); cases e; rfl
 | str x=>obtain⟨t,e⟩:=(r); cases e; rfl
 | byt b=>obtain⟨t,e⟩:=(r); cases e; rfl
 | flt b=>obtain⟨t,e⟩:=(r); cases e; rfl
 | ref a=>cases (r); rfl
 | ty n=>cases (r); rfl
section
variable {P:Program} {w:World} {H H':Hp} {h h':Heap} {a C dx:Addr} {fs fs':List (Str×V)}
theorem JB (hok:iz P w H h) (e:H a=some (.ins C dx fs)):∃mA,Cd h a dx C mA/\(∀f,mR (fs.lookup f) (mA f))/\PySem.Within mA (fs.map (·.1))/\fs.length<=1000/\H dx=some (.own a):=by obtain⟨d,z,ne,ob,mA,n,r,q⟩:=(hok a _ e);exact⟨mA,⟨ob,n,ne⟩,r,q,z,d⟩
end
structure Gm (K:FG) (C:Addr):Prop where
 pg:W.plainGet K C Str.empty=true
 hd:W.hasDictIn K C=true
 po:W.plainOver K C=true
 sa:W.findIn K (.ref C) "__setattr__" = some (some (.builtin "object.__setattr__"))
theorem Gm.get {K:FG} (c:Gm K C) (f:Str):W.plainGet K C f=true:=c.pg
def jZ (K:FG) (C:Addr) (f:Str):Prop:=W.findIn K (.ref C) f=some none
theorem jZ.taker {K:FG} (n:jZ K C f):W.takerIn K C f=some none:=by unfold W.takerIn;rw[show W.findIn K (.ref C) f=some none from n];rfl
structure Meth (K:FG) (C:Addr) (m:Str) (f:Addr):Prop where
 at_:W.findIn K (.ref C) m=some (some (.ref f))
 fn:W.isFn K (.ref f)=true
 kp:W.keepIn K (.ref f)=true
section
variable {X:Cx} {adG:List (Addr×Obj)} {U:St} {H:Hp} {s:Shared} {a C dx:Addr} {fs:List (Str×V)} {f:Str} {v:V} {A:Around} {E:Value->Shared->Prop}
theorem K6 (I:Inv X adG U H s) (e:H a=some (.ins C dx fs)) (c:Gm X.K C) (n:jZ X.K C f) (l:fs.lookup f=some v)
 (h:∀u s',Inv X adG U H s'->RelV v u->Q u s'):wpAny (model X.prog X.w) A (getAttr (.ref a) f b) Q E s:=by
 obtain⟨mA,O,r,_⟩:=JB I.hok e;obtain⟨u,hu,ru⟩:=mR.some_of (by rw[<-l]; exact r f);exact T5 I.kIn O (c.get f) c.hd n hu (Nh ru) (h u _ (I.tok _) ru)
theorem K7 (I:Inv X adG U H s) (e:H a=some (.ins C dx fs)) (c:Gm X.K C) (n:jZ X.K C f) (hl:fs.length<1000) (ry:RelV y u)
 (h:∀s',Inv X adG U (upd H a (.ins C dx (iW f y fs))) s'->Q () s'):wpAny (model X.prog X.w) A (setAttr (.ref a) f u) Q E s:=by
 obtain⟨mA,O,r,wi,_,ho⟩:=JB I.hok e;have hz:(fs.map (·.1)).length<=sizeLine:=by rw[aad,sizeLine_eq]; omega
 refine T6 I.kIn O c.sa c.po n.taker c.hd wi hz λh' O' sb=>h _ ?_;have hd:∃o,h'.get? dx=some o:=let ⟨o,_,_,e',_⟩:=O'.ns; ⟨o,e'⟩;refine I.write (by rw[e]; exact True.intro) (.inr ho) (λb q hb z=>(sb.2 b hb).trans z) hd ?_;refine⟨by rw[bO O.ne]; exact ho,?_,O.ne,O'.obj,_,O'.ns,λg=>?_,λg hg=>?_⟩
 . have:=yD f y fs; omega
 . rw[yC];by_cases q:g=f
   . rw[abR q,abR q]; exact ry
   . rw[abS q,abS q]; exact r g
 . by_cases q:g=f
   . rw[q]; exact(vX f y fs).1
   . refine(vX f y fs).2 g (wi g λz=>hg ?_);show (if g=f then some u else mA g)=none;rw[abS q]; exact z
theorem Inv.made (I:Inv X adG U H s):Inv X adG U (upd (upd H s.heap.objs.size (.own (s.heap.objs.size+1))) (s.heap.objs.size+1) (.ins C s.heap.objs.size []))
 { s with heap:=(s.heap.push W.emptyDict).push (W.instObj C s.heap.objs.size) }:=by
 have e1:(s.heap.push W.emptyDict).get? s.heap.objs.size=some W.emptyDict:=aat s.heap rfl;have e2:((s.heap.push W.emptyDict).push (W.instObj C s.heap.objs.size)).get? (s.heap.objs.size+1)=some (W.instObj C s.heap.objs.size):=by
  have:=aat (s.heap.push W.emptyDict) (o:=W.instObj C s.heap.objs.size) rfl
  rwa [abk]at this
 have e3:(s.heap.push W.emptyDict).Ns s.heap.objs.size (λ_=>none):=⟨W.emptyDict,#[],_,e1,rfl,(λe he=>absurd he (by simp)),λ_=>rfl⟩;have I1:=I.laid (o:=.own (s.heap.objs.size+1)) (t':=s.toks) (λb u q=>aak _ q) (aan _) ⟨_,e1⟩;refine I1.laid (λb u q=>aak _ q) (Nat.le_of_eq (abk _ _)) ?_;have ne:s.heap.objs.size≠s.heap.objs.size+1:=aaI (abm _);refine⟨by rw[bO ne,cg],aa6 _,ne,e2,λ_=>none,(Heap.Ns1.of_empty e3).at λo q=>aak _ q,λ_=>True.intro,λy hy=>absurd rfl hy⟩
theorem T7 (hb:attributeBase e f env (eval e env)=eval e env)
 (h:wpAny (model prog w) A (eval e env) (λo s₁=>wpAny (model prog w) A (getAttr o f true) Q E s₁) E s):wpAny (model prog w) A (eval (.Attribute e f pos) env) Q E s:=
 Attribute_any_ h (by rw[arm_eval_Attribute,hb])
end
def Zu (K:FG) (ta:TE) (f:Str):TE:=λU H Q=>ta U H λx H1=>∃a C dx fs v,x=.ref a/\H1 a=some (.ins C dx fs)/\Gm K C/\jZ K C f/\fs.lookup f=some v/\Q v H1
def Zv (K:FG) (ta tv:TE) (f:Str):TS:=λD U H=>tv U H λy H1=>ta U H1 λx H2=>∃a C dx fs,x=.ref a/\H2 a=some (.ins C dx fs)/\Gm K C/\jZ K C f/\fs.length<1000/\
 D.nx U (upd H2 a (.ins C dx (iW f y fs)))
section
variable {X:Cx} {o e value:Expr} {f:Str} {pos pos' tpos:Pos} {ta tv:TE}
theorem V7 (he:PE X e ta) (hb:attributeBase e f X.env (eval e X.env)=eval e X.env):PE X (.Attribute e f pos) (Zu X.K ta f):=by intro adG s U H Q I h;refine T7 hb (cF (he adG s U H _ I h) λu s1 ⟨x,H1,I1,rx,a,C,dx,fs,v,ex,ea,c,n,l,q⟩=>?_);subst ex;obtain rfl:u=Value.ref a:=rx;exact K6 I1 ea c n l λu' s2 I2 ru=>⟨v,H1,I2,ru,q⟩
theorem V8 (ha:PE X o ta) (hv:PE X value tv) (hs:swapsWith value (some (.Attribute o f pos')) pos.line X.env=pure false):PS X (.Assign [.Attribute o f pos'] value pos) (Zv X.K ta tv f):=by intro adG s U H D I h;refine plainObj_wpAny_Assign_Attribute (cF (hv adG s U H _ I h) λu s1 ⟨y,H1,I1,ry,q⟩=>cF (ha adG s1 U H1 _ I1 q) λov s2 ⟨x,H2,I2,rx,a,C,dx,fs,ex,ea,c,n,l,q2⟩=>?_) hs;subst ex;obtain rfl:ov=Value.ref a:=rx;exact K7 I2 ea c n l ry λs3 I3=>⟨U,_,I3,q2⟩
def Qw:V->V->Hp->VK->Prop:=λx y H Q=>∃i j,x=.int i/\y=.int j/\Q (.int (i+j)) H
end
section
variable {X:Cx} {adG:List (Addr×Obj)} {U:St} {H:Hp} {s:Shared} {A:Around} {E:Value->Shared->Prop} {Q:Value->Shared->Prop} {c:Value} {b:Bool}
end
structure fL (b:Bool) (k:Nat) (A:Around):Prop where
 hd:b=true->A.handled=none
 dp:A.depth+3*k+5<recursionLimit
 un:A.units+16*k+200<cLine
 gd:A.guards=some []
abbrev lZ:=fL true
theorem fL.mono (r:fL b k A) (h:j<=k):fL b j A:=⟨r.hd,by have:=r.dp; omega,by have:=r.un; omega,r.gd⟩
theorem fL.deeper (r:fL b (k+1) A) (env:Env):fL b k (A.deeper env):=
 ⟨r.hd,by have:=r.dp; show A.depth+1+3*k+5<_; omega,by have:=r.un; show A.units+3+16*k+200<_; omega,r.gd⟩
theorem K8:(A.under (.builtin "type.__call__" ⟨.ref C::us,kw⟩)).depth=A.depth+1:=by
 first | rfl | simp[Code.weight]
theorem K9:(A.under (.builtin "type.__call__" ⟨.ref C::us,kw⟩)).units=A.units+1:=by
 first | rfl | simp[Code.cUnits]
theorem fL.make (r:fL b (k+1) A) (C:Addr) (us:List Value) (kw:List (Str×Value)):fL b k (A.under (.builtin "type.__call__" ⟨.ref C::us,kw⟩)):=
 ⟨r.hd,by have:=r.dp; rw[K8]; omega,by have:=r.un; rw[K9]; omega,by first | exact r.gd | (simpa [Around.under,Code.isGuard,guardIds] using r.gd)⟩
theorem fL.depth (r:fL b k A):A.depth<recursionLimit:=by have:=r.dp; omega
theorem fL.units (r:fL b k A):A.units+64<cLine:=by have:=r.un; omega
def Qx:TA:=λ_ H Q=>Q [] H
def zL (ta:TE) (tr:TA):TA:=λU H Q=>ta U H λx H1=>tr U H1 λxs H2=>Q (x::xs) H2
section
variable {X:Cx} {e:Expr} {es:List Expr} {te:TE} {t:TA} {pos:Pos}
theorem Gn:PA X [] Qx:=λ_ _ _ _ H Q I h=>Calls.spliced_nil ⟨[],H,I,.nil,h⟩
theorem ul (ha:PE X e te) (hr:PA X es t) (hs:starEach (e::es) X.env=(false,eval e X.env)::starEach es X.env:=by rfl):PA X (e::es) (zL te t):=by intro pos adG s U H Q I h;rw[hs];refine Calls.spliced_cons (cF (ha adG s U H _ I h) λu s1 ⟨x,H1,I1,r1,q1⟩=>?_);exact cF (hr pos adG s1 U H1 _ I1 q1) λus s2 ⟨xs,H2,I2,r2,q2⟩=>⟨x::xs,H2,I2,.cons r1 r2,q2⟩
def V9 (t:TA):TE:=λU H Q=>t U H λxs H1=>xs.length<=sizeLine/\∀p,H1 p=none->Q (.ref p) (upd H1 p (.tup xs))
def Zw (t:TA):TE:=λU H Q=>t U H λxs H1=>xs.length<=sizeLine/\∀p,H1 p=none->Q (.ref p) (upd H1 p (.lst xs))
theorem Ni {x1} (h:PA X es t):PE X (.Tuple es x1 pos) (V9 t):=by intro adG s U H Q I hq;refine wpAny_Tuple_spliced (cF (h pos adG s U H _ I hq) λus s1 ⟨xs,H1,I1,r,z,q⟩=>⟨by rw[<-r.length]; exact z,?_⟩);have hf:=I1.hok.fresh (aan _);refine⟨.ref s1.heap.objs.size,upd H1 s1.heap.objs.size (.tup xs),I1.laid (λb u e=>aak _ e) (aan _) ?_,rfl,q _ hf⟩;exact⟨z,us,r,⟨_,aat _ rfl,rfl,_,rfl⟩⟩
theorem Wa (h:PA X es t):PE X (.List es pos) (Zw t):=by intro adG s U H Q I hq;refine wpAny_List_spliced (cF (h pos adG s U H _ I hq) λus s1 ⟨xs,H1,I1,r,z,q⟩=>⟨by rw[<-r.length]; exact z,?_⟩);have hf:=I1.hok.fresh (aan _);refine⟨.ref s1.heap.objs.size,upd H1 s1.heap.objs.size (.lst xs),I1.laid (λb u e=>aak _ e) (aan _) ?_,rfl,q _ hf⟩;exact⟨z,us,0,r,aat _ rfl⟩
end
abbrev Sp:=List V->Hp->VK->XK->Prop
abbrev vH:=List Env->Hp->Shared->XK->Value->Shared->Prop
structure yR (P:Program) (w:World) (K:FG) (mg:Str->Option Value) (base:Heap) (A:Around) (outer:List Env) (s:Shared) (H:Hp):Prop where
 frames:A.frames=some outer
 mod:Mod K mg base
 bs:∀b o,base.get? b=some o->s.heap.get? b=some o/\H b=none
 bsz:base.objs.size<=s.heap.objs.size
 funs:s.heap.FunFrames base outer
 frf:∀b∈frs outer,H b=none
 hok:iz P w H s.heap
 bare:AllBare s.gens
def CE (outer:List Env) (P:Program) (w:World) (H:Hp) (s:Shared) (Q:VK) (u:Value) (s':Shared):Prop:=
 ∃v H',s'.os=s.os/\AllBare s'.gens/\Un (frs outer) [] H H' s.heap s'.heap/\iz P w H' s'.heap/\RelV v u/\Q v H'
def CR (CX:vH) (outer:List Env) (P:Program) (w:World) (H:Hp) (s:Shared) (Q:VK) (E:XK) (r:Result) (s':Shared):Prop:=
 match r with
 | .ok (.ret u)=>CE outer P w H s Q u s'
 | .ok _=>False
 | .error e=>CX outer H s E e s'
structure qD (b:Bool) (P:Program) (w:World) (K:FG) (mg:Str->Option Value) (base:Heap) (CX:vH) (k:Nat) (f:Addr) (fd:FuncData) (ps:List Str) (sp:Sp):Prop where
 len:∀vs H Q E,sp vs H Q E->vs.length=ps.length
 run:∀(A:Around) (outer:List Env) (s:Shared) (H:Hp) (args:Args) (us:List Value) (vs:List V) (Q:VK) (E:XK),fL b k A->yR P w K mg base A outer s H->BindsTo s fd args (ps.zip us)->Vals vs us->sp vs H Q E->
  codeAny (model P w) A (.call (.ref f) args) (CR CX outer P w H s Q E) s
abbrev oM:=qD true
theorem qD.imp {K:FG} (F:qD b P w K mg base CX k f fd ps sp)
 (h:∀vs H Q E,sp' vs H Q E->sp vs H Q E):qD b P w K mg base CX k f fd ps sp':=
 ⟨λvs H Q E q=>F.len vs H Q E (h _ _ _ _ q),λA outer s H args us vs Q E hr he hb hv hs=>F.run A outer s H args us vs Q E hr he hb hv (h _ _ _ _ hs)⟩
theorem yR.make {K:FG} (e:yR P w K mg base A outer s H) (C:Addr) (us:List Value) (kw:List (Str×Value)):
 yR P w K mg base (A.under (.builtin "type.__call__" ⟨.ref C::us,kw⟩)) outer s H:=⟨by first | exact e.frames | (simpa [Around.under,Code.envs,Code.isFrame,pushEnvs] using e.frames),e.mod,e.bs,e.bsz,e.funs,e.frf,e.hok,e.bare⟩
section
variable {X:Cx} {adG:List (Addr×Obj)} {U:St} {H:Hp} {s s':Shared}
theorem Inv.env0 (I:Inv X adG U H s):yR X.prog X.w X.K X.mg X.base X.A X.stack s H:=
 ⟨I.ok.frames,I.ok.mod,I.bs,aaL I.ok.bsz I.sz,I.stack,I.stkFree,I.hok,I.bare⟩
theorem Inv.after (I:Inv X adG U H s) (h:CE X.stack X.prog X.w H s Q u s'):EP X adG U Q u s':=by obtain⟨v,H',os,bare,un,hok,r,q⟩:=h;obtain⟨hh,g,d,t,os'⟩:=s';obtain rfl:os'=s.os:=os;exact⟨v,H',I.call un hok bare (λb z=>absurd z (by simp)),r,q⟩
end
def La (sp:Sp) (dvs:List V) (E:XK) (t:TA):TE:=λU H Q=>t U H λvs H1=>sp (vs++dvs) H1 Q E
def Sq (C:Addr) (sp:Sp) (dvs:List V) (E:XK) (t:TA):TE:=λU H Q=>t U H λvs H1=>∀x dx,H1 x=none->H1 dx=none->dx≠x->
 sp (.ref x::(vs++dvs)) (upd (upd H1 dx (.own x)) x (.ins C dx [])) (λv H2=>v=.non/\Q (.ref x) H2) E
def Binds (K:FG) (fd:FuncData) (ps:List Str) (ds:List Value):Prop:=
 ∀(s:Shared) (us:List Value),K.In s.heap->(us++ds).length=ps.length->BindsTo s fd ⟨us,[]⟩ (ps.zip (us++ds))
theorem Binds.all {K:FG} (h:∀us:List Value,us.length=ps.length->bindArgs fd ⟨us,[]⟩=pure (ps.zip us)):Binds K fd ps []:=λs us _ hl=>by rw[aaW]at hl ⊢;exact .of_eq (h us hl)
def Gp (CX:vH) (X:Cx) (E:XK):Prop:=∀(adG:List (Addr×Obj)) (U:St) (H:Hp) (s:Shared) (e:Value) (s':Shared),Inv X adG U H s->CX X.stack H s E e s'->X.xe e s'
section
variable {X:Cx} {CX:vH} {k:Nat} {f C:Addr} {fd:FuncData} {ps:List Str} {sp:Sp} {dvs:List V} {ds:List Value} {E:XK} {x m:Str} {p pos apos:Pos} {e o:Expr} {es:List Expr} {ta:TE} {t:TA}
theorem Wb {U:St} (F:qD b X.prog X.w X.K X.mg X.base CX k f fd ps sp) (hr:fL b k X.A) (hb:Binds X.K fd ps ds) (hd:Vals dvs ds) (hx:∀H s e s',Inv X adG U H s->CX X.stack H s E e s'->X.xe e s')
 (I:Inv X adG U H s) (r:Vals vs us) (h:sp (vs++dvs) H Q E):wpAny (model X.prog X.w) X.A (call (.ref f) us) (EP X adG U Q) X.xe s:=by
 have r2:=r.append hd;have hl:(us++ds).length=ps.length:=by rw[<-r2.length]; exact F.len _ _ _ _ h
 refine wpAny_call (codeAny_mono (F.run X.A X.stack s H ⟨us,[]⟩ (us++ds) (vs++dvs) Q E hr I.env0 (hb s us I.kIn hl) r2 h) λr s' hq=>?_);cases r with
 | error e=>exact hx H s e s' I hq
 | ok fl=>
  cases fl with
  | ret u=>exact I.after hq
  | next=>exact False.elim hq
  | brk=>exact False.elim hq
  | cont=>exact False.elim hq
theorem JC (F:qD b X.prog X.w X.K X.mg X.base CX k f fd ps sp) (hr:fL b k X.A) (hg:Gl X x) (hm:X.mg x=some (.ref f)) (hk:W.keepIn X.K (.ref f)=true) (hb:Binds X.K fd ps ds) (hd:Vals dvs ds) (hx:Gp CX X E)
 (ha:PA X (e::es) t) (hdb:(x==("__debug__" : Str))=false:=by decide) (he:starEach (e::es) X.env=(false,eval e X.env)::starEach es X.env:=by rfl) (hpl:(backTo pos (starEach es X.env)).any (·.1)=false:=by rfl):
 PE X (.Call (.Name x p) (e::es) [] pos) (La sp dvs E t):=by
 intro adG s U H Q I h;refine wpAny_Call_Name_kw (BZ I hg hm ?_ hdb);refine W.callWith_K I.ok.mod.kin hk (cF (ha pos adG s U H _ I h) λus s1 ⟨vs,H1,I1,r,q⟩=>⟨I1.kIn,?_⟩) he hpl;exact Wb F hr hb hd (hx _ _) I1 r q
structure Mk (K:FG) (C f:Addr):Prop where
 makes:W.makesIn K C=true
 init:W.findIn K (.ref C) "__init__" = some (some (.ref f))
 fn:W.isFn K (.ref f)=true
 kp:W.keepIn K (.ref C)=true
theorem Qy {U:St} (M:Mk X.K C f) (F:oM X.prog X.w X.K X.mg X.base CX k f fd ps sp) (hr:lZ (k+1) X.A) (hb:Binds X.K fd ps ds) (hd:Vals dvs ds)
 (hx:∀H s e s',Inv X adG U H s->CX X.stack H s E e s'->X.xe e s') (I:Inv X adG U H s) (r:Vals vs us)
 (h:∀x dx,H x=none->H dx=none->dx≠x->sp (.ref x::(vs++dvs)) (upd (upd H dx (.own x)) x (.ins C dx [])) (λv H2=>v=.non/\Q (.ref x) H2) E):
 wpAny (model X.prog X.w) X.A (call (.ref C) us) (EP X adG U Q) X.xe s:=by
 have hq:=h (s.heap.objs.size+1) s.heap.objs.size (I.hok.fresh (abB _)) (I.hok.fresh (aan _)) (aaI (abm _));have I2:=Inv.made (C:=C) I;have r2:Vals (V.ref (s.heap.objs.size+1)::(vs++dvs)) (Value.ref (s.heap.objs.size+1)::(us++ds)):=.cons rfl (r.append hd);have hl:(Value.ref (s.heap.objs.size+1)::us++ds).length=ps.length:=by have e:=r2.length;rw[F.len _ _ _ _ hq]at e;exact e.symm
 refine wpAny_call (Qv I.kIn M.makes M.init (beq_iff_eq.mp M.fn) (codeAny_mono (F.run _ X.stack _ _ ⟨Value.ref (s.heap.objs.size+1)::us,[]⟩ (Value.ref (s.heap.objs.size+1)::(us++ds)) _ _ E (hr.make C us [])
  (I2.env0.make C us []) (hb _ (Value.ref (s.heap.objs.size+1)::us) I2.kIn hl) r2 hq) λr s' hq'=>?_))
 cases r with
 | error e=>exact hx _ _ e s' I2 hq'
 | ok fl=>
  cases fl with
  | ret u=>
   obtain⟨v,H',I3,rv,ev,q3⟩:=I2.after hq';subst ev;exact⟨rv,⟨V.ref (s.heap.objs.size+1),H',I3,rfl,q3⟩⟩
  | next=>exact False.elim hq'
  | brk=>exact False.elim hq'
  | cont=>exact False.elim hq'
theorem T8 (M:Mk X.K C f) (F:oM X.prog X.w X.K X.mg X.base CX k f fd ps sp) (hr:lZ (k+1) X.A) (hg:Gl X x) (hm:X.mg x=some (.ref C)) (hb:Binds X.K fd ps ds) (hd:Vals dvs ds) (hx:Gp CX X E)
 (ha:PA X (e::es) t) (hdb:(x==("__debug__" : Str))=false:=by decide) (he:starEach (e::es) X.env=(false,eval e X.env)::starEach es X.env:=by rfl) (hpl:(backTo pos (starEach es X.env)).any (·.1)=false:=by rfl):
 PE X (.Call (.Name x p) (e::es) [] pos) (Sq C sp dvs E t):=by
 intro adG s U H Q I h;refine wpAny_Call_Name_kw (BZ I hg hm ?_ hdb);refine W.callWith_K I.ok.mod.kin M.kp (cF (ha pos adG s U H _ I h) λus s1 ⟨vs,H1,I1,r,q⟩=>⟨I1.kIn,?_⟩) he hpl;exact Qy M F hr hb hd (hx _ _) I1 r q
end
section
variable {X:Cx} {CX:vH} {k:Nat} {f C:Addr} {fd:FuncData} {ps ks:List Str} {sp:Sp} {E:XK} {x m:Str} {p pos apos kpos:Pos} {e o:Expr} {es:List Expr} {kws:List Keyword} {te ta:TE} {t tk:TA} {nm:Option Str}
variable {g:List Value->List Value->List Value} {gV:List V->List V->List V}
end
structure bD (N P:List Str) (sc:Scope):Prop where
 kind:sc.kind=.function
 co:sc.isCoroutine=false
 gen:sc.isGenerator=false
 nd:N.Nodup
 pre:N.take P.length=P
 par:∀x∈P,sc.names.lookup x=some .local\/sc.names.lookup x=some .cell
 nofree:∀y∈sc.names,y.2≠.free
theorem Du {kindOf:Str->Option NameKind}:∀{binds:List (Str×Value)} {m:Str->Option Value},(∀v,(x,v)∉binds)->bindL kindOf binds m x=m x
 | [],_,_=>rfl
 | (n,v)::r,m,h=>by
  unfold bindL;rw[Du λw hw=>h w (aai _ hw)];split
  . have:x≠n:=by rintro rfl; exact h v aab
    simp[this]
  . rfl
theorem Dv {kindOf:Str->Option NameKind}:∀{binds:List (Str×Value)} {m:Str->Option Value},(∀v,(x,v)∉binds)->bindC kindOf binds m x=m x
 | [],_,_=>rfl
 | (n,v)::r,m,h=>by
  unfold bindC;rw[Dv λw hw=>h w (aai _ hw)];split
  . rfl
  . have:x≠n:=by rintro rfl; exact h v aab
    simp[this]
theorem Dw {kindOf:Str->Option NameKind}:∀{P:List Str} {vs:List Value} {i:Nat} {m:Str->Option Value},P.Nodup->P[i]?=some x->vs[i]?=some v->kindOf x=some .local->
 bindL kindOf (P.zip vs) m x=some v
 | [],_,_,_,_,h,_,_=>by simp at h
 | _::_,[],_,_,_,_,h,_=>by simp at h
 | p::P,w::vs,0,m,nd,h1,h2,hk=>by simp at h1 h2; subst h1; subst h2;show bindL kindOf ((p,w)::P.zip vs) m p=_;unfold bindL;rw[Du λv hv=>(aaS.mp nd).1 (abd hv).1,abR hk];simp
 | p::P,w::vs,i+1,m,nd,h1,h2,hk=>by unfold bindL;exact Dw (aaS.mp nd).2 (by simpa using h1) (by simpa using h2) hk
theorem Dy {kindOf:Str->Option NameKind}:∀{P:List Str} {vs:List Value} {i:Nat} {m:Str->Option Value},P.Nodup->P[i]?=some x->vs[i]?=some v->kindOf x≠some .local->
 bindC kindOf (P.zip vs) m x=some v
 | [],_,_,_,_,h,_,_=>by simp at h
 | _::_,[],_,_,_,_,h,_=>by simp at h
 | p::P,w::vs,0,m,nd,h1,h2,hk=>by simp at h1 h2; subst h1; subst h2;show bindC kindOf ((p,w)::P.zip vs) m p=_;unfold bindC;rw[Dv λv hv=>(aaS.mp nd).1 (abd hv).1,abS hk];simp
 | p::P,w::vs,i+1,m,nd,h1,h2,hk=>by unfold bindC;exact Dy (aaS.mp nd).2 (by simpa using h1) (by simpa using h2) hk
def start (N:List Str) (vs:List V):St:=vs.map some++List.replicate (N.length-vs.length) none
def sG (b:Bool) (CX:vH) (P:Program) (w:World) (K:FG) (mg:Str->Option Value) (base:Heap) (N:List Str) (qual:Str) (scope:Scope) (f:Addr) (cd:Value) (A:Around) (outer:List Env) (s:Shared) (H:Hp) (E:XK):Cx where
 prog:=P
 w:=w
 K:=K
 mg:=mg
 base:=base
 A:=A.deeper (envOfC qual scope s.heap.objs.size f cd)
 N:=N
 s₀:=s
 H0:=H
 env:=envOfC qual scope s.heap.objs.size f cd
 outer:=outer
 stack:=envOfC qual scope s.heap.objs.size f cd::outer
 ex:=[]
 calm:=b
 fn:=λ_=>true
 pn:=[]
 xe:=λe s'=>wpAny (model P w) (A.deeper (envOfC qual scope s.heap.objs.size f cd)) (leaving (envOfC qual scope s.heap.objs.size f cd) e) (λ_ s''=>CX outer H s E e s'') (λe' s''=>CX outer H s E e' s'') s'
abbrev Qz:=sG true
theorem Gq {sc:Scope} (h:sc.names.lookup x=some .cell):∃c,(cellsFrom n sc.names []).lookup x=some c:=by have q:=abN sc.names n [] (.inl h);exact abn.mp q
theorem Nj {K:FG} {E:XK}
 (S:bD N ps scope) (hd:cm=true->A.handled=none) (e0:yR P w K mg base A outer s H) (hl:vs.length=ps.length) (r:Vals vs us)
 (x:InCallC s s.heap.objs.size (bindL (envOfC qual scope s.heap.objs.size f cd).kindOf (ps.zip us) λ_=>none) (cellsFrom (s.heap.objs.size+1) scope.names []) (bindC (envOfC qual scope s.heap.objs.size f cd).kindOf (ps.zip us) λ_=>none) s1):
 Inv (sG cm CX P w K mg base N qual scope f cd A outer s H E) [] (start N vs) H s1:=by
 have hpl:ps.length<=N.length:=by have:=congrArg List.length S.pre; rw[aa4]at this; omega
 obtain⟨h1,tk,rfl,hk⟩:=x.done;have noA:∀b:Addr,b∉(sG cm CX P w K mg base N qual scope f cd A outer s H E).ex:=λb z=>absurd (show b∈([]:List Addr) from z) (by simp);refine⟨⟨e0.mod,S.kind,rfl,rfl,aan _,λy z c h1 h2=>?_,λy hy=>?_,λy c _ h=>?_,hd,Around.frames_deeper e0.frames,.inr ⟨rfl,rfl⟩,λb z=>absurd z (noA b),e0.bs,e0.bsz,λb _ _=>noA b,λb z=>absurd z (noA b),e0.funs,e0.frf⟩,
  rfl,e0.bare,Un.kept hk,⟨_,x.toInCall.ns,λi y v h1 h2 h3=>?_⟩,λy c h=>⟨_,x.cell y c h⟩,e0.hok.fresh (aan _),λy c h=>?_,λp hp=>absurd (show p∈([]:List (Addr×Obj)) from hp) (by simp),e0.hok.kept hk,?_⟩
 . exact name_of_addr x.apart (abo h1) (abo h2)
 . rcases hy with hy | hy
   . exact Gq hy
   . exact absurd rfl (S.nofree _ (abo hy))
 . exact abM (x.above y c (abo h))
 . have hi:i<vs.length:=by
    unfold start at h2;by_cases hi:i<vs.length
    . exact hi
    . rw[aaU (by simpa using hi)]at h2;rw[List.getElem?_replicate]at h2;split at h2<;>cases h2
   have ha:vs[i]?=some v:=by
    unfold start at h2;rw[abw (by simpa using hi),aay]at h2;cases e:vs[i]? with
    | none=>rw[e]at h2; cases h2
    | some a=>rw[e]at h2; cases h2; rfl
   obtain⟨u,hu,rv⟩:=r.get ha;have hp:ps[i]?=some y:=by rw[<-S.pre,List.getElem?_take_of_lt (by omega)]; exact h1
   have ndP:ps.Nodup:=by rw[<-S.pre]; exact S.nd.sublist (List.take_sublist _ _)
   refine⟨u,rv,?_⟩;rcases S.par y (aaw hp) with k | k
   . exact .inl ⟨k,Dw ndP hp hu k⟩
   . obtain⟨c,e⟩:=Gq k;refine .inr ⟨.inl k,c,e,?_⟩;have q:=x.cell y c e;rw[Dy ndP hp hu (by show scope.names.lookup y≠_; rw[k]; decide)]at q;exact q
 . exact e0.hok.fresh (abM (x.above y c (abo h)))
 . unfold start;show _=N.length;rw[aaq,aad,List.length_replicate];omega
theorem Yh {K:FG} {dV kV doc pm cdv ct oc:Value}
 (lk:K.lookup f=some ⟨oc,od,.func (W.fnOf name qual params body scope dV kV doc pm an cdv ct),osl⟩) (hcd:W.codeIn K cdv qual=true) (S:bD N ps scope)
 (len:∀vs H Q E,sp vs H Q E->vs.length=ps.length)
 (hbody:∀(A:Around) (outer:List Env) (s:Shared) (H:Hp) (vs:List V) (Q:VK) (E:XK),fL b k (A.deeper (envOfC qual scope s.heap.objs.size f cdv))->sp vs H Q E->
   ∃t,iu (sG b CX P w K mg base N qual scope f cdv A outer s H E) body t/\t { nx:=λ_ H'=>Q .non H',rt:=Q } (start N vs) H):
 qD b P w K mg base CX (k+1) f (W.fnOf name qual params body scope dV kV doc pm an cdv ct) ps sp:=by
 refine⟨len,λA outer s H args us vs Q E hr e0 hb r hsp=>?_⟩;have hl:=len _ _ _ _ hsp;have KX:=e0.mod.kin.keeps λb o e=>(e0.bs b o e).1;have lim:=e0.mod.nolimit.keeps λb o e=>(e0.bs b o e).1;have hkind:∀y∈ps.zip us,scope.names.lookup y.1=some .local\/(scope.names.lookup y.1=some .cell/\((cellsFrom (s.heap.objs.size+1) scope.names []).lookup y.1).isSome=true):=λ⟨n,v⟩ hy=>by
  rcases S.par n (abd hy).1 with q | q
  . exact .inl q
  . exact .inr ⟨q,abN _ _ _ (.inl q)⟩
 refine codeAny_call_function hr.depth (KX _ _ lk) rfl S.co S.gen rfl (W.codeRec_of KX hcd) (hb _ _ _ _ ?_);refine wpAny_newFunctionEnv_cells S.kind hkind λenv he s1 x=>?_;subst he;refine⟨lim.keeps x.toInCall.keep,codeAny_func ?_⟩;obtain⟨t,ht,hq⟩:=hbody A outer s H vs Q E (hr.deeper _) hsp;have I:Inv (sG b CX P w K mg base N qual scope f cdv A outer s H E) [] (start N vs) H s1:=Nj S hr.hd e0 hl r x;refine wpAny_mono (ht [] s1 (start N vs) H _ I hq) (λfl s' hs=>?_) λe s' hs=>hs;have fin:∀{U':St} {H':Hp} {v:V} {u:Value},Inv (sG b CX P w K mg base N qual scope f cdv A outer s H E) [] U' H' s'->RelV v u->Q v H'->CE outer P w H s Q u s':=
  λ{U' H' v u} J rv q=>⟨v,H',J.os,J.bare,J.base,J.hok,rv,q⟩
 cases fl with
 | ret u=>
  obtain⟨v,U',H',J,rv,q⟩:=hs;exact fin J rv q
 | next=>
  obtain⟨U',H',J,q⟩:=hs;exact fin (v:=V.non) J rfl q
 | brk=>
  obtain⟨_,_,_,q⟩:=hs;exact False.elim q
 | cont=>
  obtain⟨_,_,_,q⟩:=hs;exact False.elim q
section
variable {X:Cx} {x:Str} {p pos:Pos} {e:Expr} {es:List Expr} {t:TA} {id T:String} {r:List V->Hp->VK->Prop}
def Dz (r:List V->Hp->VK->Prop) (t:TA):TE:=λU H Q=>t U H λvs H1=>r vs H1 Q
theorem gD (hc:mJ X (.builtin id) r) (hg:Gl X x) (hm:X.mg x=none) (hv:bootBuiltins x=some (.builtin id)) (ha:PA X (e::es) t) (hn:x ≠ "__name__" := by decide) (hdb:(x==("__debug__" : Str))=false:=by decide)
 (he:starEach (e::es) X.env=(false,eval e X.env)::starEach es X.env:=by rfl) (hpl:(backTo pos (starEach es X.env)).any (·.1)=false:=by rfl):PE X (.Call (.Name x p) (e::es) [] pos) (Dz r t):=by
 intro adG s U H Q I h;refine wpAny_Call_Name_kw (qT I hg hm hv ?_ hn hdb);exact PyProof.Rows.callWith_builtin1 (cF (ha pos adG s U H _ I h) λus s1 ⟨vs,H1,I1,r1,q1⟩=>hc adG s1 U H1 vs us Q I1 r1 q1) he hpl
theorem ni (hc:mJ X (.type T) r) (hg:Gl X x) (hm:X.mg x=none) (hv:bootBuiltins x=some (.type T)) (ha:PA X (e::es) t) (hn:x ≠ "__name__" := by decide) (hdb:(x==("__debug__" : Str))=false:=by decide)
 (he:starEach (e::es) X.env=(false,eval e X.env)::starEach es X.env:=by rfl) (hpl:(backTo pos (starEach es X.env)).any (·.1)=false:=by rfl):PE X (.Call (.Name x p) (e::es) [] pos) (Dz r t):=by
 intro adG s U H Q I h;refine wpAny_Call_Name_kw (qT I hg hm hv ?_ hn hdb);exact PyProof.Rows.callWith_type1 (cF (ha pos adG s U H _ I h) λus s1 ⟨vs,H1,I1,r1,q1⟩=>hc adG s1 U H1 vs us Q I1 r1 q1) he hpl
end
end L2
namespace HT
open PySem PySem.Spec PyProof.Rows
section
open PySem.SeqAt
open PySem.AutoSeq1 (wpAny_loadPart')
open PySem.MeetsSeq PySem.MeetsSeq2 PySem.MeetsSeq3
end
section
variable {prog:Program} {w:World} {A:Around} {E:Value->Shared->Prop} {s:Shared}
theorem cat_tup (ht:IsTup s.heap t vs.toArray) (hb:IsTup s.heap b ws.toArray) (hv:vs≠[])
 (h1:ws=[]->Q (.ref t) s) (h2:ws≠[]->Q (.ref s.heap.objs.size) { s with heap:=s.heap.push { cls:=.type "tuple",data:=.seq (vs++ws).toArray } })
 (hsz:vs.length+ws.length<=sizeLine):wpAny (model prog w) A (binaryOp .Add (.ref t) (.ref b)) Q E s:=by
 obtain⟨⟨cls,dd,data,sl⟩,ho,hc,n,hd⟩:=id ht;obtain⟨⟨cls2,dd2,data2,sl2⟩,ho2,hc2,n2,hd2⟩:=id hb;subst hc hd hc2 hd2;have e:vs.toArray++ws.toArray=(vs++ws).toArray:=by simp
 by_cases hw:ws=[]
 . exact concat_meets ⟨_,ho,rfl⟩ ⟨_,ho2,rfl⟩ noFill_tuple_add seq_tuple_add F.slot_tuple_add F.entry_tuple_add (F.args_tuple_add_2 _ _)
    (tuple_addW1 t b vs.toArray ws.toArray n n2 dd dd2 sl sl2 (by simpa using hv) (by simp[hw])) ⟨ho,ho2,h1 hw⟩
 . refine concat_meets ⟨_,ho,rfl⟩ ⟨_,ho2,rfl⟩ noFill_tuple_add seq_tuple_add F.slot_tuple_add F.entry_tuple_add (F.args_tuple_add_2 _ _)
    (tuple_addW2 t b vs.toArray ws.toArray n n2 dd dd2 sl sl2 (by simpa using hv) (by simpa using hw) (by rw[aam,aam]; exact hsz)) ⟨ho,ho2,?_⟩
   rw[e];exact h2 hw
def sIx (n d:Nat):Option Int->Nat
 | none=>d
 | some v=>if v<0 then (v+(n:Int)).toNat else min v.toNat n
theorem sIx_none (n d:Nat):sIx n d none=d:=rfl
theorem sIx_nat (n d k:Nat):sIx n d (some (k:Int))=min k n:=by show (if (k:Int)<0 then ((k:Int)+(n:Int)).toNat else min (k:Int).toNat n)=min k n;rw[abS (by omega),abA]
theorem sIx_le (n d:Nat) (hd:d<=n) (o:Option Int):sIx n d o<=n:=by
 cases o with
 | none=>exact hd
 | some v=>
  show (if v<0 then (v+(n:Int)).toNat else min v.toNat n)<=n;by_cases hv:v<0
  . rw[abR hv]; omega
  . rw[abS hv]; exact Nat.min_le_right _ _
end
end HT
namespace L2
open PySem PySem.Spec PyProof.Rows
variable {adG:List (Addr×Obj)} {E:Value->Shared->Prop} {s:Shared} {A:Around} {w:World} {P:Program}
abbrev TO:=St->Hp->(Option Int->Hp->Prop)->Prop
def PO (X:Cx) (e:Option Expr) (t:TO):Prop:=
 ∀(adG:List (Addr×Obj)) (s:Shared) (U:St) (H:Hp) (Q:Option Int->Hp->Prop),Inv X adG U H s->t U H Q->
  wpAny (model X.prog X.w) X.A (evalPart e X.env) (λu s'=>∃o H',Inv X adG U H' s'/\IsPart u o/\Q o H') X.xe s
def T9:TO:=λ_ H Q=>Q none H
def Yi_ (t:TE):TO:=λU H Q=>t U H λx H1=>∃i,x=.int i/\Q (some i) H1
section
variable {X:Cx} {e:Expr} {te:TE} {lo hi:Option Expr} {tl th:TO} {pos p2:Pos}
theorem Ua:PO X none T9:=by intro adG s U H Q I h;exact abT ⟨none,H,I,.none,h⟩
theorem Ub (h:PE X e te):PO X (some e) (Yi_ te):=by intro adG s U H Q I hw;refine cF (h adG s U H _ I hw) λu s1 ⟨x,H1,I1,r1,q1⟩=>?_;obtain⟨i,rfl,q⟩:=q1;obtain⟨t,rfl⟩:=r1;exact⟨some i,H1,I1,.int i t,q⟩
def Gs (X:Cx) (r:V->Option Int->Option Int->Hp->VK->Prop):Prop:=
 ∀(adG:List (Addr×Obj)) (s:Shared) (U:St) (H:Hp) (x:V) (v vl vu:Value) (lo hi:Option Int) (sl:Addr) (Q:VK),Inv X adG U H s->RelV x v->s.heap.IsSliceOf sl vl vu .none->IsPart vl lo->IsPart vu hi->r x lo hi H Q->
  ∃T id,typeLookup (.type T) "__getitem__" = pure (some (.builtin id))/\s.TypeIs v T/\wpAny (model X.prog X.w) X.A (getItem v (.ref sl)) (EP X adG U Q) X.xe s
theorem Gs.or (h:Gs X r) (h':Gs X r'):Gs X (λx lo hi H Q=>r x lo hi H Q\/r' x lo hi H Q):=by
 intro adG s U H x v vl vu lo hi sl Q I rx hs pl pu q;rcases q with q | q
 . exact h adG s U H x v vl vu lo hi sl Q I rx hs pl pu q
 . exact h' adG s U H x v vl vu lo hi sl Q I rx hs pl pu q
def Z4 (r:V->Option Int->Option Int->Hp->VK->Prop) (te:TE) (tl th:TO):TE:=λU H Q=>te U H λx H1=>tl U H1 λl H2=>th U H2 λu H3=>r x l u H3 Q
theorem QB (hr:Gs X r) (he:PE X e te) (hl:PO X lo tl) (hu:PO X hi th):PE X (.Subscript e (.Slice lo hi none p2) pos) (Z4 r te tl th):=by intro adG s U H Q I h;refine Subscript_ (cF (he adG s U H _ I h) λv s1 ⟨x,H1,I1,r1,q1⟩=>?_);refine wpAny_Slice (cF (hl adG s1 U H1 _ I1 q1) λvl s2 ⟨l,H2,I2,pl,q2⟩=>cF (hu adG s2 U H2 _ I2 q2) λvu s3 ⟨u,H3,I3,pu,q3⟩=>?_);refine abT ?_;have I4:Inv X adG U H3 { s3 with heap:=s3.heap.push { cls:=.type "slice",data:=.fields #[vl,vu,.none] } }:=I3.kept λb ob q=>aak _ q;obtain⟨T,id,hT,ht,hg⟩:=hr adG { s3 with heap:=s3.heap.push { cls:=.type "slice",data:=.fields #[vl,vu,.none] } } U H3 x v vl vu l u s3.heap.objs.size Q I4 r1 (Heap.IsSliceOf.new ..) pl pu q3;exact tail_any (ops:=[.ref s3.heap.objs.size,v]) ht hT hg (by with_unfolding_all rfl)
def yU (xs:List V) (lo hi:Option Int):List V:=(xs.drop (HT.sIx xs.length 0 lo)).take (HT.sIx xs.length xs.length hi-HT.sIx xs.length 0 lo)
theorem Jl (xs:List V) (lo hi:Option Int):(yU xs lo hi).length<=xs.length:=by unfold yU;rw[aa4,aa7];omega
def Ss (K:FG):R2:=λx y H Q=>∃a b xs ys,x=.ref a/\y=.ref b/\fj K H a xs/\fj K H b ys/\xs≠[]/\xs.length+ys.length<=sizeLine/\
 (ys=[]->Q (.ref a) H)/\(ys≠[]->∀p,H p=none->Q (.ref p) (upd H p (.tup (xs++ys))))
theorem Vals.nil_iff (r:Vals xs us):us=[] ↔ xs=[]:=by
 cases r with
 | nil=>simp
 | cons _ _=>simp
theorem Uc:fP X (binaryOp .Add) (Ss X.K):=by intro adG s U H x y v u Q I rx ry h;obtain⟨a,b,xs,ys,rfl,rfl,ha,hb,hx,hz,q1,q2⟩:=h;cases rx;cases ry;obtain⟨its,r1,p1,_⟩:=I.tuple ha;obtain⟨its2,r2,p2,_⟩:=I.tuple hb;refine HT.cat_tup p1 p2 (λz=>hx (r1.nil_iff.mp z)) (λz=>⟨.ref a,H,I,rfl,q1 (r2.nil_iff.mp z)⟩) (λz=>?_) (by rw[<-r1.length,<-r2.length]; exact hz);refine⟨.ref s.heap.objs.size,_,I.laid (λb ob q=>aak _ q) (aan _) ?_,rfl,q2 (λw=>z (r2.nil_iff.mpr w)) _ (I.hok.fresh (aan _))⟩;exact⟨by rw[aaq]; exact hz,_,r1.append r2,IsTup.new _ _⟩
end
def um (n:Nat) (i:Int):Option Nat:=if 0<=i then (if i<n then some i.toNat else none) else if -(n:Int)<=i then some (i+n).toNat else none
def dW {α:Type} (xs:List α) (i:Int):Option α:=(um xs.length i).bind λj=>xs[j]?
theorem JD (h:um n i=some j):seqIndex? i n=some j/\j<n/\-(n:Int)<=i/\i<n:=by
 unfold um at h;by_cases h0:0<=i
 . rw[abR h0]at h;by_cases h1:i<n
   . rw[abR h1]at h;have e:=aap h;exact⟨by rw[seqIndex_of h0 h1,e],by omega,by omega,h1⟩
   . rw[abS h1]at h; cases h
 . rw[abS h0]at h;by_cases h1:-(n:Int)<=i
   . rw[abR h1]at h;have e:=aap h;exact⟨by rw[seqIndex_neg (by omega) h1,e],by omega,h1,by omega⟩
   . rw[abS h1]at h; cases h
theorem Ce (h:dW xs i=some v):∃j,seqIndex? i xs.length=some j/\xs[j]?=some v/\j<xs.length/\-(xs.length:Int)<=i/\i<xs.length:=by
 unfold dW at h;cases e:um xs.length i with
 | none=>rw[e]at h; cases h
 | some j=>
  rw[e]at h;obtain⟨h1,h2,h3,h4⟩:=JD e;exact⟨j,h1,h,h2,h3,h4⟩
def Cg (b:Expr):Prop:=∀o i,subscripted b false o i=operate [o,i] (getItem o i)
def yE (X:Cx) (r:R2):Prop:=
 ∀(value slice:Expr) (adG:List (Addr×Obj)) (s:Shared) (U:St) (H:Hp) (x y:V) (v u:Value) (Q:VK),Inv X adG U H s->RelV x v->RelV y u->r x y H Q->
  subscripted slice false v u=operate [v,u] (getItem v u)->wpAny (model X.prog X.w) X.A (subscriptTail value slice v u) (EP X adG U Q) X.xe s
def JF (X:Cx) (id:String) (r:V->List V->Hp->VK->Prop):Prop:=
 ∀(adG:List (Addr×Obj)) (s:Shared) (U:St) (H:Hp) (x:V) (xs:List V) (v:Value) (us:List Value) (Q:VK),Inv X adG U H s->RelV x v->Vals xs us->r x xs H Q->
  wpAny (model X.prog X.w) X.A (call (.builtin id) (v::us)) (EP X adG U Q) X.xe s
section
variable {X:Cx} {a b:Expr} {ta tb:TE} {pos:Pos}
theorem yE.or (h:yE X r) (h':yE X r'):yE X (λx y H Q=>r x y H Q\/r' x y H Q):=by
 intro value slice adG s U H x y v u Q I rx ry q hs;rcases q with q | q
 . exact h value slice adG s U H x y v u Q I rx ry q hs
 . exact h' value slice adG s U H x y v u Q I rx ry q hs
theorem Su (hr:yE X r) (ha:PE X a ta) (hb:PE X b tb) (hs:Cg b):PE X (.Subscript a b pos) (M9 r ta tb):=by intro adG s U H Q I h;exact Subscript_ (Qo ha hb I h λv u s2 x y H2 I2 rx ry q=>hr a b adG s2 U H2 x y v u Q I2 rx ry q (hs _ _))
def Wc (K:FG):R2:=λx y H Q=>∃p xs i v,x=.ref p/\y=.int i/\cz K H p xs/\dW xs i=some v/\Q v H
def Wd (K:FG):R2:=λx y H Q=>∃p xs i v,x=.ref p/\y=.int i/\fj K H p xs/\dW xs i=some v/\Q v H
def We:R2:=λx y H Q=>∃z i c,x=.str z/\y=.int i/\z.length<=sizeLine/\dW z.cps.toList i=some c/\Q (.str ⟨#[c]⟩) H
theorem Ud:yE X (Wc X.K):=by
 intro value slice adG s U H x y v u Q I rx ry h hs;obtain⟨p,xs,i,z,rfl,rfl,hq,he,q⟩:=h;cases rx;obtain⟨t,rfl⟩:=ry;obtain⟨its,r,pl,hz⟩:=I.list hq;obtain⟨j,h1,h2,h3,h4,h5⟩:=Ce he;obtain⟨w,ew,rw'⟩:=r.get h2;have hl:=r.length;have hn:=uh;have fin:EP X adG U Q w s:=⟨z,H,I,rw',q⟩;by_cases h0:0<=i
 . have hj:i.toNat=j:=by rw[seqIndex_of h0 h5]at h1;exact aap h1
   exact item_listR pl.isList h0 (by omega) (by rw[hj]; simpa using ew) fin hs
 . have hj:(i+(its.toArray.size:Int)).toNat=j:=by rw[seqIndex_neg (by omega) h4]at h1;rw[aam,<-hl];exact aap h1
   exact subscriptTail_builtinR pl.isList.typeIs slot_list_getitem.lookup
    (wpAny_getItem_list_neg pl.isList (by omega) (by rw[aam]<;>omega) (by omega) (by rw[hj]; simpa using ew) ⟨rfl,fin⟩) hs
theorem Wf:yE X (Wd X.K):=by
 intro value slice adG s U H x y v u Q I rx ry h hs;obtain⟨p,xs,i,z,rfl,rfl,hq,he,q⟩:=h;cases rx;obtain⟨t,rfl⟩:=ry;obtain⟨its,r,pl,hz⟩:=I.tuple hq;obtain⟨j,h1,h2,h3,h4,h5⟩:=Ce he;obtain⟨w,ew,rw'⟩:=r.get h2;have hl:=r.length;have hn:=uh;have fin:EP X adG U Q w s:=⟨z,H,I,rw',q⟩;exact subscriptTail_builtinR pl.typeIs slot_tuple_getitem.lookup
  (getItem_tuple pl (by omega) (by omega) (by rw[aam,<-hl]; exact h1) (by simpa using ew) ⟨rfl,fin⟩) hs
theorem Wg:yE X We:=by
 intro value slice adG s U H x y v u Q I rx ry h hs;obtain⟨z,i,c,rfl,rfl,hz,he,q⟩:=h;obtain⟨t,rfl⟩:=rx;obtain⟨t',rfl⟩:=ry;obtain⟨j,h1,h2,h3,h4,h5⟩:=Ce he;have hl:z.cps.toList.length=z.length:=by simp[Str.length]
 rw[hl]at h1 h4 h5;have hn:=uh;exact tail_any (typeIs_str s z t) slot_str_getitem.lookup (getItem_str (by have e1:decide (i < -(2 ^ 63:Int))=false:=abU (by omega);have e2:decide (i ≥ 2 ^ 63)=false:=abU (by omega);rw[e1,e2,Bool.or_false]) (by rw[h1]; simpa using h2) ⟨.str ⟨#[c]⟩,H,I.tok _,⟨_,rfl⟩,q⟩) hs
def Wh (K:FG):R2:=λx y H Q=>Wc K x y H Q\/Wd K x y H Q\/We x y H Q
theorem Nk:yE X (Wh X.K):=Ud.or (Wf.or Wg)
theorem Lb (its:List Value) (n j:Nat) (u:Value):Obj.mapSeq (·.setIfInBounds j u) { cls:=.type "list",data:=.seq its.toArray n }={ cls:=.type "list",data:=.seq (its.set j u).toArray n }:=by simp[Obj.mapSeq]
theorem Inv.lst {U:St} {H:Hp} {p:Addr} {xs:List V} (I:Inv X adG U H s) (h:H p=some (.lst xs)):
 ∃(its:List Value) (n:Nat),Vals xs its/\s.heap.get? p=some { cls:=.type "list",data:=.seq its.toArray n }/\xs.length<=sizeLine:=by
 obtain⟨z,its,n,r,e⟩:=I.hok p _ h;exact⟨its,n,r,e,z⟩
theorem Inv.lstUpd {U:St} {its its':List Value} (I:Inv X adG U H s) (h:H p=some (.lst xs))
 (ho:s.heap.get? p=some { cls:=.type "list",data:=.seq its.toArray n }) (hf:f { cls:=.type "list",data:=.seq its.toArray n }={ cls:=.type "list",data:=.seq its'.toArray n' }) (r:Vals ys its') (hz:ys.length<=sizeLine) (t:Nat):
 Inv X adG U (upd H p (.lst ys)) { s with heap:=s.heap.update p f,toks:=t }:=by
 have e:(s.heap.update p f).get? p=some { cls:=.type "list",data:=.seq its'.toArray n' }:=by rw[Heap.get?_update_self f ho (by rw[hf]<;>rfl),hf]
 refine I.write (by rw[h]; trivial) (.inl rfl) (λb u hb q=>(abr _ _ (Ne.symm hb)).trans q) ⟨_,e⟩ ?_;exact⟨hz,its',n',r,e⟩
def Sv:V->V->V->Hp->(Hp->Prop)->Prop:=λo i v H Q=>∃p xs k j,o=.ref p/\i=.int k/\H p=some (.lst xs)/\um xs.length k=some j/\Q (upd H p (.lst (xs.set j v)))
theorem set_list:Qm X Sv:=by
 intro adG s U H o i v ov iv u Q I ro ri rv h;obtain⟨p,xs,k,j,rfl,rfl,hp,hj,q⟩:=h;cases ro;obtain⟨t,rfl⟩:=ri;obtain⟨its,n,r,ho,hz⟩:=I.lst hp;obtain⟨h1,h2,h3,h4⟩:=JD hj;have hl:=r.length;have hn:=uh;have I':=
  I.lstUpd hp ho (Lb its n j u) (r.set rv j) (by rw[abG]; exact hz) s.toks
 by_cases h0:0<=k
 . have hk:k.toNat=j:=by rw[seqIndex_of h0 h4]at h1;exact aap h1
   exact W.ki_setAt ho h0 (by omega) (by rw[aam,<-hl]; exact h4) (by rw[hk]; exact⟨_,I',q⟩)
 . have hk:(k+(its.toArray.size:Int)).toNat=j:=by rw[seqIndex_neg (by omega) h3]at h1;rw[aam,<-hl];exact aap h1
   exact W.ki_setBack ho (by omega) (by rw[aam,<-hl]; exact h3) (by omega) (by rw[hk]; exact⟨_,I',q⟩)
theorem Gu (lo hi:Option Int) (n:Nat):(sliceBounds lo hi none n).1=((HT.sIx n 0 lo:Nat):Int)/\(sliceBounds lo hi none n).2.1=((HT.sIx n n hi:Nat):Int)/\(sliceBounds lo hi none n).2.2=1:=by
 refine⟨?_,?_,rfl⟩
 . cases lo with
   | none=>simp[sliceBounds,HT.sIx]
   | some i=>
    simp only[sliceBounds,HT.sIx,Option.getD_none];by_cases h:i<0
    . simp only[h,if_true]<;>omega
    . simp only[h,if_false]<;>omega
 . cases hi with
   | none=>simp[sliceBounds,HT.sIx]
   | some i=>
    simp only[sliceBounds,HT.sIx,Option.getD_none];by_cases h:i<0
    . simp only[h,if_true]<;>omega
    . simp only[h,if_false]<;>omega
theorem Eu (its:List Value) (lo hi:Option Int):slicePick its.toArray lo hi none=((its.drop (HT.sIx its.length 0 lo)).take (HT.sIx its.length its.length hi-HT.sIx its.length 0 lo)).toArray:=by obtain⟨h1,h2,h3⟩:=Gu lo hi its.toArray.size;unfold slicePick;rw[h1,h2,h3];simp only[sliceRange_one,pick_run]<;>rfl
def Zx (K:FG):V->Option Int->Option Int->Hp->VK->Prop:=λx lo hi H Q=>∃a xs,x=.ref a/\cz K H a xs/\∀p,H p=none->Q (.ref p) (upd H p (.lst (yU xs lo hi)))
theorem Ue:Gs X (Zx X.K):=by intro adG s U H x v vl vu lo hi sl Q I rx hs pl pu h;obtain⟨a,xs,rfl,hx,q⟩:=h;cases rx;obtain⟨its,r,ht,hz⟩:=I.list hx;have hlen:=r.length;refine⟨"list",_,slot_list_getitem.lookup,ht.isList.typeIs,?_⟩;refine wpAny_getItem_list_slice ht.isList hs pl pu .none (by simp) ?_ (by rw[aam]<;>omega);rw[Eu,<-hlen];refine⟨.ref s.heap.objs.size,_,I.laid (λb ob q=>aak _ q) (aan _) ?_,rfl,q _ (I.hok.fresh (aan _))⟩;exact⟨aaL (Jl xs lo hi) hz,_,0,(r.drop (HT.sIx xs.length 0 lo)).take (HT.sIx xs.length xs.length hi-HT.sIx xs.length 0 lo),aat _ rfl⟩
def Sw:V->Bool
 | .non=>true
 | .bl _=>true
 | .int _=>true
 | .str _=>true
 | _=>false
theorem nH:mJ X (.type "list") (λxs H Q=>∃p ys,xs=[.ref p]/\(cz X.K H p ys\/fj X.K H p ys)/\∀l,H l=none->Q (.ref l) (upd H l (.lst ys))):=by
 intro adG s U H xs us Q I r h;obtain⟨p,ys,rfl,hq,q⟩:=h;obtain⟨u,rfl,rx⟩:=vals1 r;cases rx;have fin:∀(its:List Value),Vals ys its->ys.length<=sizeLine->∀(h':Heap) (c':Nat),(∀b o',s.heap.get? b=some o'->h'.get? b=some o')->
  h'.get? s.heap.objs.size=some { cls:=.type "list",dict:=none,data:=.seq its.toArray c',slots:=#[] }->EP X adG U Q (.ref s.heap.objs.size) { s with heap:=h' }:=λits r' hz h' c' kp e=>
  ⟨.ref s.heap.objs.size,_,I.laid kp (aan _) (show gj X.prog X.w _ h' _ (.lst ys) from ⟨hz,its,c',r',e⟩),rfl,q _ (I.hok.fresh (aan _))⟩
 rcases hq with hq | hq
 . obtain⟨its,r',pl,hz⟩:=I.list hq;have hlen:=r'.length;obtain⟨o,ho,hc,n,hd⟩:=pl.isList;exact call_list_seq p (.inl rfl) ho hc hd (λh' c' kp e=>fin its r' hz h' c' kp e) (by simp only[aam]<;>omega)
 . obtain⟨its,r',pl,hz⟩:=I.tuple hq;have hlen:=r'.length;obtain⟨o,ho,hc,n,hd⟩:=pl;exact call_list_seq p (.inr rfl) ho hc hd (λh' c' kp e=>fin its r' hz h' c' kp e) (by simp only[aam]<;>omega)
def Wi (K:FG) (T:String) (x:V) (H:Hp):Prop:=match x with
 | .str _=>T = "str"
 | .int _=>T = "int"
 | .ref p=>(T = "list" /\ ∃xs,cz K H p xs)\/(T = "tuple" /\ ∃o,K.lookup p=some o/\o.cls=.type "tuple" /\ o.dict=none)\/
  (T = "dict" /\ ((∃kvs,H p=some (.dK kvs))\/∃kvs,H p=some (.dT kvs)))\/(T = "set" /\ ∃S n,H p=some (.set S n))
 | _=>False
theorem Nm {U:St} (I:Inv X adG U H s) (r:RelV x v) (ty:Wi X.K T x H):
 s.TypeIs v T/\∀a,v=.ref a->∃ob,s.heap.get? a=some ob/\ob.dict=none:=by
 cases x with
 | str z=>
  obtain⟨t,rfl⟩:=r;cases (ty);exact⟨typeIs_str s z t,λ_ e=>nomatch e⟩
 | int i=>
  obtain⟨t,rfl⟩:=r;cases (ty);exact⟨typeIs_int s i t,λ_ e=>nomatch e⟩
 | ref p=>
  cases r;rcases ty with ⟨rfl,xs,hq⟩ | ⟨rfl,o,hk,hc,hd⟩ | ⟨rfl,hk⟩ | ⟨rfl,S,n,hk⟩
  . obtain⟨its,_,pl,_⟩:=I.list hq;refine⟨pl.isList.typeIs,λa e=>?_⟩;cases e;obtain⟨o,n,e,c,hd,_⟩:=pl;exact⟨o,e,hd⟩
  . refine⟨⟨o,I.kIn p o hk,hc⟩,λa e=>?_⟩;cases e;exact⟨o,I.kIn _ o hk,hd⟩
  . have z:∃o,s.heap.get? p=some o/\o.ExactDict:=by
     rcases hk with ⟨kvs,hk⟩ | ⟨kvs,hk⟩
     . obtain⟨_,_,_,_,o,_,_,e,ex,_⟩:=I.hok p _ hk;exact⟨o,e,ex⟩
     . obtain⟨_,_,_,_,o,_,_,e,ex,_⟩:=I.hok p _ hk;exact⟨o,e,ex⟩
    obtain⟨o,e,ex⟩:=z;refine⟨⟨o,e,ex.1⟩,λa e2=>?_⟩;cases e2;exact⟨o,e,ex.2.1⟩
  . obtain⟨o,_,_,_,e,ex,_⟩:=I.hok p _ hk;refine⟨⟨o,e,ex.1⟩,λa e2=>?_⟩;cases e2;exact⟨o,e,ex.2.1⟩
 | _=>exact False.elim ty
def Gv (K:FG) (T:String) (r:V->List V->Hp->VK->Prop) (to:TE):TE:=λU H Q=>to U H λx H1=>Wi K T x H1/\r x [] H1 Q
def Gw (K:FG) (T:String) (r:V->List V->Hp->VK->Prop) (to:TE) (t:TA):TE:=λU H Q=>to U H λx H1=>Wi K T x H1/\t U H1 λxs H2=>r x xs H2 Q
variable {o e:Expr} {es:List Expr} {to:TE} {t:TA} {name:Str} {apos cpos:Pos} {T id:String} {r:V->List V->Hp->VK->Prop}
theorem vY (pa:PlainAttrs T) (slot:Slot T name id) (hty:typeOf (.builtin id)=pure (.type "method_descriptor")) (hm:JF X id r) (ho:PE X o to)
 (hbase:attributeBase o name X.env (eval o X.env)=eval o X.env:=by rfl) (hline:(apos.endLine==cpos.line)=true:=by rfl):PE X (.Call (.Attribute o name apos) [] [] cpos) (Gv X.K T r to):=by
 intro adG s U H Q I h;refine wpAny_Call_method0_late hbase hline (cF (ho adG s U H _ I h) λv s1 ⟨x,H1,I1,r1,ty,q1⟩=>?_);obtain⟨h1,h2⟩:=Nm I1 r1 ty;exact⟨T,id,pa,slot,hty,h1,h2,Calls.callWith_builtin rfl (PySem.evalArgs_none (hm adG s1 U H1 x [] v [] Q I1 r1 .nil q1))⟩
theorem xT (pa:PlainAttrs T) (slot:Slot T name id) (hty:typeOf (.builtin id)=pure (.type "method_descriptor")) (hm:JF X id r) (ho:PE X o to) (ha:PA X (e::es) t)
 (hbase:attributeBase o name X.env (eval o X.env)=eval o X.env:=by rfl)
 (hfew:((backTo cpos (starEach (e::es) X.env)).all (λx=>!x.1)&&(backToKw cpos (keywordEach [] X.env)).all (λx=>x.1.isSome)
   && decide ((e::es).length+([]:List Keyword).length+(if ([]:List Keyword).isEmpty then 0 else 1)<30))=true:=by rfl)
 (hline:(apos.endLine==cpos.line)=true:=by rfl) (hs:starEach (e::es) X.env=(false,eval e X.env)::starEach es X.env:=by rfl) (hplain:(backTo cpos (starEach es X.env)).any (·.1)=false:=by rfl):
 PE X (.Call (.Attribute o name apos) (e::es) [] cpos) (Gw X.K T r to t):=by
 intro adG s U H Q I h;refine wpAny_Call_method_late hbase hfew hline rfl (cF (ho adG s U H _ I h) λv s1 ⟨x,H1,I1,r1,ty,q1⟩=>?_);obtain⟨h1,h2⟩:=Nm I1 r1 ty;refine⟨T,id,pa,slot,hty,h1,h2,?_⟩;have hA:=ha cpos adG s1 U H1 _ I1 q1;rw[hs]at hA ⊢;refine Calls.callWith_builtin (by show (false||(backTo cpos (starEach es X.env)).any (·.1))=false; rw[hplain]<;>rfl) (Calls.evalArgs_plain ?_);exact cF hA λus s2 ⟨vs,H2,I2,r2,q2⟩=>hm adG s2 U H2 x vs v us Q I2 r1 r2 q2
end
def JG (X:Cx) (id:String) (r:V->List V->Hp->VK->Prop):Prop:=
 ∀(adG:List (Addr×Obj)) (s:Shared) (U:St) (H:Hp) (x:V) (xs:List V) (v:Value) (us:List Value) (Q:VK),Inv X adG U H s->RelV x v->Vals xs us->r x xs H Q->
  wpAny (model X.prog X.w) X.A (call (.builtin id) (v::us)) (EP X adG U Q) X.xe s
theorem Vals.one:∀{x:V} {us:List Value},Vals [x] us->∃u,us=[u]/\RelV x u
 | _,_,.cons r .nil=>⟨_,rfl,r⟩
theorem Vals.zero:∀{us:List Value},Vals [] us->us=[]
 | _,.nil=>rfl
theorem Vals.dropLast (h:Vals xs us):Vals xs.dropLast us.dropLast:=by
 induction h with
 | nil=>exact .nil
 | cons r t ih=>
  cases t with
  | nil=>exact .nil
  | cons q t'=>exact .cons r ih
theorem Vals.reverse (h:Vals xs us):Vals xs.reverse us.reverse:=by
 induction h with
 | nil=>exact .nil
 | cons r t ih=>rw[List.reverse_cons,List.reverse_cons]; exact Vals.append ih (.cons r .nil)
theorem Ld {α:Type} (l:List α):l.eraseIdx (l.length-1)=l.dropLast:=by
 induction l with
 | nil=>rfl
 | cons a r ih=>
  cases r with
  | nil=>rfl
  | cons b r=>
   have e:(a::b::r).length-1=((b::r).length-1)+1:=by have h1:(a::b::r).length=r.length+2:=rfl;have h2:(b::r).length=r.length+1:=rfl;omega
   rw[e,List.eraseIdx_cons_succ,ih]
   all_goals rfl
section
variable {X:Cx} {adG:List (Addr×Obj)} {U:St} {H:Hp} {s:Shared} {l b:Addr} {xs ys zs:List V}
theorem Inv.lset {its its':List Value} (I:Inv X adG U H s) (hH:H l=some (.lst xs))
 (e:s.heap.get? l=some { cls:=.type "list",data:=.seq its.toArray n }) (hf:f its.toArray=its'.toArray) (hv:Vals ys its') (hz:ys.length<=sizeLine):
 Inv X adG U (upd H l (.lst ys)) { s with heap:=s.heap.update l (Obj.mapSeq f),toks:=t' }:=by
 have q:=PySem.IsL.update e f;rw[hf]at q;refine I.write (by rw[hH]; exact trivial) (.inl rfl) (λb' u hb hu=>(abr s.heap (Obj.mapSeq f) (Ne.symm hb)).trans hu) ⟨_,q⟩ ?_;exact⟨hz,its',_,hv,q⟩
theorem Inv.lnew (I:Inv X adG U H s) (hv:Vals ys its) (hz:ys.length<=sizeLine):
 Inv X adG U (upd H s.heap.objs.size (.lst ys)) { s with heap:=s.heap.push { cls:=.type "list",data:=.seq its.toArray },toks:=t' }:=
 I.laid (λ_ _ q=>aak _ q) (aan _) ⟨hz,its,0,hv,aat _ rfl⟩
theorem Inv.fresh (I:Inv X adG U H s):H s.heap.objs.size=none:=I.hok.fresh (aan _)
theorem Inv.lstM (I:Inv X adG U H s) (hH:H l=some (.lst xs)):xs.length<=sizeLine/\∃(its:List Value) (n:Nat),Vals xs its/\xs.length=its.length/\s.heap.get? l=some { cls:=.type "list",data:=.seq its.toArray n }:=by obtain⟨z,its,n,r,e⟩:=I.hok l _ hH;exact⟨z,its,n,r,r.length,e⟩
theorem QC (h:n<=sizeLine):Builtin.List.listTooLong n=false:=by exact abU (by omega)
end
section
variable {X:Cx}
def Ci:V->List V->Hp->VK->Prop:=λx vs H Q=>∃l xs y,x=.ref l/\vs=[y]/\H l=some (.lst xs)/\xs.length<sizeLine/\Q .non (upd H l (.lst (xs++[y])))
theorem vZ:JG X "list.append" Ci:=by intro adG s U H x vs v us Q I rx rv h;obtain⟨l,xs,y,rfl,rfl,hH,hz,q⟩:=h;cases rx;obtain⟨u,rfl,ru⟩:=rv.one;obtain⟨z,its,n,r,hl,e⟩:=I.lstM hH;refine call_meets F.slot_list_append ⟨_,e,rfl⟩ F.entry_list_append (F.args_list_append_2 _ _) (PySem.list_append l its.toArray n u (by rw[aam]; omega)) ⟨e,?_⟩;refine⟨.non,_,I.lset hH e (by simp) (r.append (.cons ru .nil)) ?_,rfl,q⟩;rw[aaq,List.length_singleton];omega
def Wj:V->List V->Hp->VK->Prop:=λx vs H Q=>∃l xs y,x=.ref l/\vs=[]/\H l=some (.lst xs)/\xs[xs.length-1]?=some y/\Q y (upd H l (.lst xs.dropLast))
theorem Wk:JG X "list.pop" Wj:=by
 intro adG s U H x vs v us Q I rx rv h;obtain⟨l,xs,y,rfl,rfl,hH,hy,q⟩:=h;cases rx;have hus:=rv.zero;subst hus;obtain⟨z,its,n,r,hl,e⟩:=I.lstM hH;obtain⟨u,hu,ru⟩:=r.get hy;have hy':its.toArray[its.toArray.size-1]?=some u:=by show its.toArray[its.length-1]?=some u;rw[<-Array.getElem?_toList,<-hl];exact hu
 refine call_meets F.slot_list_pop ⟨_,e,rfl⟩ F.entry_list_pop (F.args_list_pop_1 _) (MeetsSeq.list_pop_last l its.toArray n u hy' (by rw[aam]; omega)) ⟨e,?_⟩;refine⟨y,_,I.lset hH e ?_ r.dropLast ?_,ru,q⟩
 . rw[aam,List.eraseIdxIfInBounds_toArray,Ld]
 . rw[List.length_dropLast];omega
def Gx:V->List V->Hp->VK->Prop:=λx vs H Q=>∃l xs,x=.ref l/\vs=[]/\H l=some (.lst xs)/\Q .non (upd H l (.lst xs.reverse))
theorem zM:JG X "list.reverse" Gx:=by intro adG s U H x vs v us Q I rx rv h;obtain⟨l,xs,rfl,rfl,hH,q⟩:=h;cases rx;have hus:=rv.zero;subst hus;obtain⟨z,its,n,r,hl,e⟩:=I.lstM hH;refine call_meets F.slot_list_reverse ⟨_,e,rfl⟩ F.entry_list_reverse (F.args_list_reverse_1 _) (AutoSeq1.list_reverse_list_0 l its.toArray n (by rw[aam]; omega)) ⟨e,?_⟩;refine⟨.non,_,I.lset hH e (by simp) r.reverse ?_,rfl,q⟩;rw[aaO];omega
def Np:V->List V->Hp->VK->Prop:=λx vs H Q=>∃l xs,x=.ref l/\vs=[]/\H l=some (.lst xs)/\Q .non (upd H l (.lst []))
theorem QD:JG X "list.clear" Np:=by intro adG s U H x vs v us Q I rx rv h;obtain⟨l,xs,rfl,rfl,hH,q⟩:=h;cases rx;have hus:=rv.zero;subst hus;obtain⟨z,its,n,r,hl,e⟩:=I.lstM hH;refine call_meets F.slot_list_clear ⟨_,e,rfl⟩ F.entry_list_clear (F.args_list_clear_1 _) (AutoSeq1.list_clear_list_0 l its.toArray n (by rw[aam]; omega)) ⟨e,?_⟩;exact⟨.non,_,I.lset hH e rfl .nil (aa6 _),rfl,q⟩
end
section
variable {prog:Program}
end
section
variable {X:Cx}
end
end L2
namespace Att
open PySem PySem.W PySem.Calls PyProof.Rows
theorem zN:∀(ns:List Int) (vs:List Value),WellAll P h vs (ns.map WData.int)->IntsAre vs ns:=by
 intro ns;induction ns with
 | nil=>
  intro vs w;cases w;exact .nil
 | cons n ns ih=>
  intro vs w;cases w with
  | cons a b=>
   cases a;exact .cons _ _ (ih _ b)
theorem Nq {l:OpenLaw} (hn:l.most=some n)
 (hpre:l.row.toRowW.claim.pre args=true) (hwl:WellAll P h vals args):
 ∃a vs ns,vals=[Value.ref a]/\args=[WData.list (ns.map WData.int)]/\h.get? a=some { cls:=.type "list",data:=.seq vs.toArray }/\IntsAre vs ns/\ns.length<=n:=by
 have hsh:=(pre_splitW hpre).1;have hc:l.pre.holds [] { args:=args }=true:=(pre_splitW hpre).2;obtain⟨d,r,rfl,h1,h2⟩:=hasAllW_cons hsh;obtain rfl:=hasAllW_nil h2;obtain⟨xs,rfl,h3⟩:=hasW_list h1;obtain⟨ns,rfl⟩:=items_int h3;have hlen:ns.length<=n:=by
  have h4:(WTm.not (.lt (.lit (.int (n:Int))) (.len (.arg 0)))).holds [] { args:=[.list (ns.map .int)] }=true:=by have h4:=(holds_andW hc).1;rw[hn]at h4;exact h4
  have h5:=condW_of h4 (w_not (w_lt w_lit (w_len_list (w_arg rfl))));refine abC λq=>?_
  first
   | (rw[abV q']at h5; exact absurd h5 (by decide))
   | (simp at h5; omega)
 cases hwl with
 | cons w1 w2=>
  cases w2;cases w1 with
  | list ho hall=>exact⟨_,_,ns,rfl,rfl,ho,zN ns _ hall,hlen⟩
theorem Nr (l:OpenLaw) (args:List WData):l.row.toRowW.claim.post args (.bool true) args=true:=
 postW_of
  (show WShape.has [] (.bool true) .bool=true by first | rfl | decide | simp[WShape.arms])
  (w_eq_bool (w_res rfl) w_lit) rfl
theorem attach_call {l:OpenLaw}
 (hn:l.most=some n) (hdf:d.params.defaults=[])
 (call:∀(w:World) (s₀ s₁:Shared) (mg mb:Str->Option Value) (fa:Addr) (o:Obj) (pm cd doc:Value) (a:Addr) (vs:List Value) (ns:List Int),
   Ground q loose [] XP w s₀ mg mb s₁.heap->YP w s₁.heap->
   s₁.heap.get? fa=some o->o.data=.func (docDef d.name d.params d.body d.scope pm cd doc)->s₁.heap.CodeRec cd d.name->mg d.name=some (.ref fa)->
   s₁.heap.get? a=some { cls:=.type "list",data:=.seq vs.toArray }->IntsAre vs ns->ns.length<=n->s₁.gens=#[]->
   codeAny (model l.prog w) callerA (.call (.ref fa) ⟨[.ref a],[]⟩) (λr s'=>r=.ok (.ret (.bool true))/\OldK s₁.heap s'.heap/\s'.os=s₁.os/\AllBare s'.gens) s₁):
 WalkO q loose XP YP l.row.toRowW d [] (λf vs=>PySem.call f vs):=by
 intro w s₀ s₁ mg mb G Y_ fa o pm cd doc dV kV ho hd hcd hD hmg hg args vals as hpre hlay hrd hwl hlo;obtain rfl:dV=.none:=Dflts.none hD hdf;obtain rfl:kV=.none:=Dflts.noKw hD;obtain⟨a,vs,ns,rfl,rfl,hobj,hints,hlen⟩:=Nq hn hpre hwl;refine enter_call (codeAny_mono (call w s₀ s₁ mg mb fa o pm cd doc a vs ns G Y_ ho (fd_plain hd) hcd hmg hobj hints hlen hg) λr s' hq=>?_);obtain⟨rfl,h2,h3,h4⟩:=hq;exact⟨.inl ⟨.bool true,.bool true,[],rfl,λ_=>rfl,.bool true,Nr l _,λ_=>⟨List.Pairwise.nil,λ_ hm=>(nomatch hm)⟩⟩,h2,h3,h4⟩
section
variable {prog:Program} {w:World} {A:Around} {E:Value->Shared->Prop} {s:Shared} {K:Frag}
end
end Att
namespace L2
open PySem PySem.Spec PyProof.Rows
variable {adG:List (Addr×Obj)} {E:Value->Shared->Prop} {s:Shared} {A:Around} {w:World} {P:Program}
theorem DG:∀{vs:List Value} {ns:List Int},IntsAre vs ns->Vals (ns.map V.int) vs
 | _,_,.nil=>.nil
 | _,_,.cons n t h=>.cons ⟨t,rfl⟩ (DG h)
def Only (H:Hp):Prop:=∀b,H b=none\/∃o xs,H b=some (.frz o (.lst xs))
theorem QF {K:FG}
 (KX:K.In s₁.heap) (hns:s₁.heap.Ns mainGlobals mg) (hb:s₁.heap.Ns builtinsNs mb) (hbb:∀x:Str,x ≠ "__name__" -> mb x=bootBuiltins x) (hlim:s₁.heap.NoLimit) (hg:s₁.gens=#[])
 (ha:s₁.heap.get? a=some { cls:=.type "list",data:=.seq vs.toArray }) (hi:IntsAre vs ns) (hl:ns.length<=sizeLine) (hr:lZ k callerA)
 (F:∀base:Heap,K.In base->base.Ns mainGlobals mg->oM P w K mg base CX k fa fd [x] sp) (hbind:∀(s:Shared) (u:Value),BindsTo s fd ⟨[u],[]⟩ [(x,u)])
 (hsp:∀H:Hp,Only H->cz K H a (ns.map V.int)->sp [.ref a] H (λv _=>v=.bl true) λ_ _ _=>False)
 (hCX:∀H e s',CX [] H s₁ (λ_ _ _=>False) e s'->False):
 codeAny (model P w) callerA (.call (.ref fa) ⟨[.ref a],[]⟩) (λr s'=>r=.ok (.ret (.bool true))/\OldK s₁.heap s'.heap/\s'.os=s₁.os/\AllBare s'.gens) s₁:=by
 have rv:=DG hi;have lenV:=hi.length;have core:∀H:Hp,Only H->cz K H a (ns.map V.int)->iz P w H s₁.heap->(∀b,H b≠none->b=a)->(H a≠none->K.lookup a=none)->
  codeAny (model P w) callerA (.call (.ref fa) ⟨[.ref a],[]⟩) (λr s'=>r=.ok (.ret (.bool true))/\OldK s₁.heap s'.heap/\s'.os=s₁.os/\AllBare s'.gens) s₁:=by
  intro H hO hS hok hA hK;have base_of:∀{b:Addr} {o:Obj},s₁.heap.get? b=some o->H b=none->(uL s₁.heap H).get? b=some o:=λe n=>Qj e n;have noA:∀{b:Addr} {o:Obj} {es:Array DictEntry} {ep:Nat},s₁.heap.get? b=some o->o.data=.dict es ep->H b=none:=λ{b o es ep} e d=>by
   cases q:H b with
   | none=>rfl
   | some u=>
    have e':=hA b (by rw[q]; simp);subst e';rw[ha]at e; cases e;have d':=d;cases d'
  have nsK:∀{b:Addr} {m:Str->Option Value},s₁.heap.Ns b m->(uL s₁.heap H).Ns b m:=λ{b m} ⟨o,es,ep,e,d,r⟩=>⟨o,es,ep,base_of e (noA e d),d,r⟩;have hKb:=λb o e=>base_of (KX b o e) (by
   cases q:H b with
   | none=>rfl
   | some u=>
    have e':=hA b (by rw[q]; simp);subst e';rw[hK (by rw[q]; simp)]at e; cases e)
  have hM:Mod K mg (uL s₁.heap H):=⟨hKb,nsK hns,⟨mb,nsK hb,hbb⟩,let ⟨mc,h1,h2⟩:=hlim; ⟨mc,nsK h1,h2⟩⟩;have e0:yR P w K mg (uL s₁.heap H) callerA [] s₁ H:=⟨rfl,hM,λb o e=>Tv e,Nat.le_of_eq (MP _ _),trivial,λb hb=>absurd (show b∈([]:List Addr) from hb) (by simp),hok,.of_eq hg⟩;refine codeAny_mono ((F _ hKb (nsK hns)).run callerA [] s₁ H ⟨[.ref a],[]⟩ [.ref a] [.ref a] _ _ hr e0 (hbind s₁ (.ref a)) (.cons rfl .nil) (hsp H hO hS)) λr s' h=>?_;cases r with
  | error e=>exact(hCX H e s' h).elim
  | ok fl=>
   cases fl with
   | next=>exact False.elim h
   | brk=>exact False.elim h
   | cont=>exact False.elim h
   | ret u=>
    obtain⟨v,H',os,bare,un,hok',r',q⟩:=h;have q':=q;subst q';obtain rfl:u=Value.bool true:=r';refine⟨rfl,OldK.of_keep λb o e=>?_,os,bare⟩;cases q:H b with
    | none=>exact un.keep b o e q (by intro z; exact absurd (show b∈([]:List Addr) from z) (by simp)) (by simp)
    | some u=>
     rcases hO b with z | ⟨ob,xs,z⟩
     . rw[q]at z; cases z
     . have z2:=un.frzs b ob _ z;obtain⟨e1,_⟩:=hok b _ z;obtain⟨e2,_⟩:=hok' b _ z2;rw[e]at e1; cases e1;exact e2
 cases hk:K.lookup a with
 | some o=>
  have e:=KX a o hk;rw[ha]at e;cases e;refine core (λ_=>none) (λ_=>.inl rfl) (.inr ⟨_,vs.toArray,_,hk,rfl,rfl,rfl,by rw[aam,lenV]; exact hl,by simpa using rv⟩) (λb u z=>by have z':=z; cases z') (λb z=>absurd rfl z) λz=>absurd rfl z
 | none=>
  refine core (λb=>if b=a then some (.frz { cls:=.type "list",data:=.seq vs.toArray } (.lst (ns.map V.int))) else none) (λb=>?_) (.inl (.inr ⟨{ cls:=.type "list",data:=.seq vs.toArray },abR rfl⟩)) (λb u z=>?_) (λb z=>?_) λ_=>hk
  . by_cases hb:b=a
    . exact .inr ⟨_,_,abR hb⟩
    . exact .inl (abS hb)
  . by_cases hb:b=a
    . have z':=(abR hb).symm.trans z;cases z';subst hb;exact⟨ha,by rw[aad]; exact hl,vs,_,rv,ha⟩
    . have z':=(abS hb).symm.trans z;cases z'
  . by_cases hb:b=a
    . exact hb
    . exact absurd (abS hb) z
theorem walk_of {l:W.OpenLaw} {K:Params->FG} {CX:World->vH} {sp:World->Sp}
 (hn:l.most=some n) (hn2:n<=sizeLine) (hdf:d.params.defaults=[]) (hr:lZ k callerA)
 (hY_:∀(w:World) (h:Heap),YP w h->(K w.params).In h)
 (F:∀(w:World) (mg:Str->Option Value) (fa:Addr) (h:Heap),(K w.params).In h->h.Ns mainGlobals mg->mg d.name=some (.ref fa)->
   ∃fd:FuncData,(∀(s:Shared) (u:Value),BindsTo s fd ⟨[u],[]⟩ [(x,u)])/\
    ∀base:Heap,(K w.params).In base->base.Ns mainGlobals mg->oM l.prog w (K w.params) mg base (CX w) k fa fd [x] (sp w))
 (hsp:∀(w:World) (H:Hp) (a:Addr) (ns:List Int),ns.length<=n->Only H->cz (K w.params) H a (ns.map V.int)->sp w [.ref a] H (λv _=>v=.bl true) λ_ _ _=>False)
 (hCX:∀(w:World) (H:Hp) (s:Shared) (e:Value) (s':Shared),CX w [] H s (λ_ _ _=>False) e s'->False):
 W.WalkO q loose XP YP l.row.toRowW d [] (λf vs=>PySem.call f vs):=by
 refine Att.attach_call hn hdf λw s₀ s₁ mg mb fa o pm cd doc a vs ns G Y_ ho hd hcd hmg hobj hints hlen hg=>?_;have KX:=hY_ w _ Y_;obtain⟨fd,hb,hF⟩:=F w mg fa _ KX G.T.g hmg;exact QF KX G.T.g G.T.b G.T.builtins G.T.nolimit hg hobj hints (aaL hlen hn2) hr hF hb (λH hO hS=>hsp w H a ns hlen hO hS) λH e s'=>hCX w H s₁ e s'
def inClass (s:Stmt) (j:Nat):Stmt:=match s with
 | .ClassDef _ _ _ body _ _ _ _ _ _ _=>body.getD j (.Pass ⟨0,0,0,0⟩)
 | _=>.Pass ⟨0,0,0,0⟩
def oN (s:Stmt):Arguments:=match s with
 | .FunctionDef _ a _ _ _ _ _ _ _ _=>a
 | _=>{ posonlyargs:=[],args:=[],vararg:=none,kwonlyargs:=[],kw_defaults:=[],kwarg:=none,defaults:=[] }
def iZ (s:Stmt):List Stmt:=match s with
 | .FunctionDef _ _ b _ _ _ _ _ _ _=>b
 | _=>[]
def aL (s:Stmt):Scope:=match s with
 | .FunctionDef _ _ _ _ _ _ sc _ _ _=>sc
 | _=>{ kind:=.function,names:=[],isGenerator:=false,isCoroutine:=false }
abbrev oG:vH:=λ_ _ _ _ _ _=>False
abbrev E0:XK:=λ_ _ _=>False
theorem Le:Gp oG X E0:=λ_ _ _ _ _ _ _ h=>h.elim
structure sH (K:FG) (x qual:Str) (st:Stmt) (f:Addr) (fd:FuncData):Prop where
 ex:∃(oc:Value) (od:Option Addr) (kV doc pm:Value) (an:Option Addr) (cdv ct:Value) (osl:Array (Option Value)),
  fd=W.fnOf x qual (oN st) (iZ st) (aL st) .none kV doc pm an cdv ct/\K.lookup f=some ⟨oc,od,.func fd,osl⟩/\W.codeIn K cdv qual=true
 kp:W.keepIn K (.ref f)=true
section
variable {P:Program} {w:World} {K:FG} {mg:Str->Option Value} {base:Heap}
theorem sH.ok {st:Stmt} (F:sH K x qual st f fd) (S:bD N ps (aL st)) (len:∀vs H Q E,sp vs H Q E->vs.length=ps.length)
 (hbody:∀(cdv:Value) (A:Around) (outer:List Env) (s:Shared) (H:Hp) (vs:List V) (Q:VK) (E:XK),fL b k (A.deeper (envOfC qual (aL st) s.heap.objs.size f cdv))->sp vs H Q E->
   ∃t,iu (sG b oG P w K mg base N qual (aL st) f cdv A outer s H E).nox (iZ st) t/\t { nx:=λ_ H'=>Q .non H',rt:=Q } (start N vs) H):qD b P w K mg base oG (k+1) f fd ps sp:=by
 obtain⟨oc,od,kV,doc,pm,an,cdv,ct,osl,rfl,lk,hcd⟩:=F.ex;refine Yh lk hcd S len λA outer s H vs Q E hr hsp=>?_;obtain⟨t,h,q⟩:=hbody cdv A outer s H vs Q E hr hsp;exact⟨t,h.nox,q⟩
theorem sH.binds {st:Stmt} (F:sH K x qual st f fd)
 (h:∀(kV doc pm:Value) (an:Option Addr) (cdv ct:Value) (us:List Value),us.length=ps.length->bindArgs (W.fnOf x qual (oN st) (iZ st) (aL st) .none kV doc pm an cdv ct) ⟨us,[]⟩=pure (ps.zip us)):Binds K fd ps []:=by
 obtain⟨oc,od,kV,doc,pm,an,cdv,ct,osl,rfl,lk,hcd⟩:=F.ex;exact .all (h kV doc pm an cdv ct)
theorem v8 {st:Stmt} {kV doc pm cdv ct:Value} (l:K.lookup f=some ⟨oc,od,.func (W.fnOf x qual (oN st) (iZ st) (aL st) .none kV doc pm an cdv ct),osl⟩)
 (c:W.codeIn K cdv qual=true) (k:W.keepIn K (.ref f)=true):sH K x qual st f (W.fnOf x qual (oN st) (iZ st) (aL st) .none kV doc pm an cdv ct):=⟨⟨oc,od,kV,doc,pm,an,cdv,ct,osl,rfl,l,c⟩,k⟩
end
theorem gG (hr:fL b k A):A.units+1<cLine:=abz (Nat.add_le_add_left (by decide:1<=64) _) hr.units
section
variable {X:Cx}
theorem pv (i:Nat) {pos:Pos} (hN:X.N[i]?=some x:=by rfl) (hv:MT X.env.scope x:=by first | exact Or.inl rfl | exact Or.inr (Or.inl rfl) | exact Or.inr (Or.inr rfl)) (hd:(x==("__debug__" : Str))=false:=by decide)
 (hcd:(x==("__classdict__" : Str))=false:=by decide):PE X (.Name x pos) (oJ i):=Vv hN hv hd hcd
end
def dC (H H':Hp):Prop:=∀b o,H b=some o->H' b=some o
theorem dC.refl (H:Hp):dC H H:=λ_ _ h=>h
theorem dC.trans (a:dC H H1) (b:dC H1 H2):dC H H2:=λc o h=>b c o (a c o h)
theorem dC.free (e:dC H H') (h:H' l=Option.none):H l=Option.none:=by
 cases q:H l with
 | none=>rfl
 | some o=>
  rw[e l o q]at h;cases h
theorem dC.seq {K:FG} (e:dC H H') (h:cz K H a xs):cz K H' a xs:=by
 rcases h with (h | ⟨o,h⟩) | h
 . exact .inl (.inl (e _ _ h))
 . exact .inl (.inr ⟨o,e _ _ h⟩)
 . exact .inr h
section
variable {κ:Type} [DecidableEq κ]
def mU (kvs:List (κ×V)) (k:κ):Option V:=(kvs.find? λkv=>decide (kv.1=k)).map (·.2)
def putK (kvs:List (κ×V)) (k:κ) (v:V):List (κ×V):=
 if (kvs.any λkv=>decide (kv.1=k))=true then kvs.map (λkv=>if kv.1=k then (kv.1,v) else kv) else kvs++[(k,v)]
theorem qU {k:κ} (e:p.1=k):mU (p::r) k=some p.2:=by simp[mU,e]
theorem qW {k:κ} (e:¬ p.1=k):mU (p::r) k=mU r k:=by simp[mU,e]
theorem qX (k:κ):∀kvs:List (κ×V),(kvs.any λkv=>decide (kv.1=k))=(mU kvs k).isSome
 | []=>rfl
 | p::r=>by
  rw[abL];by_cases e:p.1=k
  . simp only[qU e,abV e,Bool.true_or,Option.isSome_some]
  . rw[qW e,abU e,Bool.false_or]; exact qX k r
theorem yF (kvs:List (κ×V)) (k:κ) (v:V):(putK kvs k v).length<=kvs.length+1:=by
 unfold putK;split
 . rw[aad]; omega
 . rw[aaq,aac,aav]; omega
theorem Gy {k:κ} (v:V) (h:mU kvs k=none):putK kvs k v=kvs++[(k,v)]:=by unfold putK;rw[qX,h];exact abS (by decide)
theorem mR.isSome_eq (r:mR o u):o.isSome=u.isSome:=by
 cases o with
 | none=>cases u with
  | none=>rfl
  | some _=>exact(r).elim
 | some _=>cases u with
  | none=>exact(r).elim
  | some _=>rfl
theorem mR.getD (r:mR o u) (rd:RelV d d'):RelV (o.getD d) (u.getD d'):=by
 cases o with
 | none=>cases u with
  | none=>exact rd
  | some _=>exact(r).elim
 | some _=>cases u with
  | none=>exact(r).elim
  | some _=>exact r
theorem KV.val (r:KV kvs vs) (k:κ):mR (mU kvs k) (valueAt vs k):=by
 induction r with
 | nil=>exact True.intro
 | @cons p q ps qs h t ih=>
  obtain⟨h1,h2⟩:=h;by_cases e:p.1=k
  . have e':=h1.symm.trans e;have b:valueAt (q::qs) k=some q.2:=by simp[valueAt,e']
    rw[qU e,b]; exact h2
  . have e':¬ q.1=k:=λz=>e (h1.trans z);have b:valueAt (q::qs) k=valueAt qs k:=by simp[valueAt,e']
    rw[qW e,b]; exact ih
theorem KV.any (r:KV kvs vs) (k:κ):(kvs.any λkv=>decide (kv.1=k))=vs.any λkv=>decide (kv.1=k):=by
 induction r with
 | nil=>rfl
 | cons h t ih=>rw[abL,abL,ih,h.1]
theorem KV.repl (r:KV kvs vs) (k:κ) (ry:RelV y u):
 KV (kvs.map λkv=>if kv.1=k then (kv.1,y) else kv) (vs.map λkv=>if kv.1=k then (kv.1,u) else kv):=by
 induction r with
 | nil=>exact .nil
 | @cons p q ps qs h t ih=>
  rw[aao,aao];refine .cons ?_ ih;obtain⟨h1,h2⟩:=h;by_cases e:p.1=k
  . rw[abR e,abR (h1.symm.trans e)]; exact⟨h1,ry⟩
  . rw[abS e,abS (λz=>e (h1.trans z))]; exact⟨h1,h2⟩
theorem KV.put (r:KV kvs vs) (k:κ) (ry:RelV y u):KV (putK kvs k y) (stored vs k u):=by
 unfold putK stored;rw[r.any k];by_cases e:(vs.any λkv=>decide (kv.1=k))=true
 . rw[abR e,abR e]; exact r.repl k ry
 . rw[abS e,abS e]; exact Paired.snoc r ⟨rfl,ry⟩
theorem KV.keys {vs:List (κ×Value)} (r:KV kvs vs):kvs.map (·.1)=vs.map (·.1):=by
 induction r with
 | nil=>rfl
 | cons h t ih=>rw[aao,aao,ih,h.1]
theorem KV.length {vs:List (κ×Value)} (r:KV kvs vs):kvs.length=vs.length:=Paired.length r
end
theorem Fq (r:RelV (kV k) u):(dD P w).is k u=true:=by
 cases k with
 | inl i=>obtain⟨t,e⟩:=(r); subst e; exact Jj P w i t
 | inr x=>obtain⟨t,e⟩:=(r); subst e; exact Jk P w x t
theorem DK:∀{ks:List Key} {us:List Value},Vals (ks.map kV) us->ItemsAre (dD P w) ks us
 | [],_,r=>by  cases r; exact .nil
 | k::ks,_,r=>by
  cases r with
  | cons h t=>exact .cons (Fq h) (DK t)
abbrev KT (H:Hp):List (List Key×V)->List (List Key×Addr×Value)->Prop:=Paired λp q=>p.1=q.1/\H q.2.1=some (.tup (p.1.map kV))/\RelV p.2 q.2.2
theorem KT.val (r:KT H kvs xs) (k:List Key):mR (mU kvs k) ((atKey xs k).map (·.2)):=by
 induction r with
 | nil=>exact True.intro
 | @cons p q ps qs h t ih=>
  obtain⟨h1,_,h2⟩:=h;by_cases e:p.1=k
  . have e':=h1.symm.trans e;have b:atKey (q::qs) k=some q.2:=by simp[atKey,e']
    rw[qU e,b]; exact h2
  . have e':¬ q.1=k:=λz=>e (h1.trans z);have b:atKey (q::qs) k=atKey qs k:=by simp[atKey,e']
    rw[qW e,b]; exact ih
theorem KT.repl (r:KT H kvs xs) (k:List Key) (ry:RelV y u):
 KT H (kvs.map λkv=>if kv.1=k then (kv.1,y) else kv) (xs.map (putAt k u)):=by
 induction r with
 | nil=>exact .nil
 | @cons p q ps qs h t ih=>
  rw[aao,aao];refine .cons ?_ ih;obtain⟨h1,h2,h3⟩:=h;unfold putAt;by_cases e:p.1=k
  . rw[abR e,abR (h1.symm.trans e)]; exact⟨h1,h2,ry⟩
  . rw[abS e,abS (λz=>e (h1.trans z))]; exact⟨h1,h2,h3⟩
theorem KT.put (r:KT H kvs xs) (k:List Key) (hb:H b=some (.tup (k.map kV))) (ry:RelV y u):
 KT H (putK kvs k y) (storedH xs k b u):=by
 have e:(kvs.any λkv=>decide (kv.1=k))=(atKey xs k).isSome:=by rw[qX,(r.val k).isSome_eq,Option.isSome_map]
 unfold putK storedH;rw[e];by_cases q:(atKey xs k).isSome=true
 . rw[abR q,abR q]; exact r.repl k ry
 . rw[abS q,abS q]; exact Paired.snoc r ⟨rfl,hb,ry⟩
theorem KT.keeps (r:KT H kvs xs) (ht:∀b ys,H b=some (.tup ys)->H' b=some (.tup ys)):KT H' kvs xs:=
 Paired.mapP r λ_ _ z=>⟨z.1,ht _ _ z.2.1,z.2.2⟩
section
variable {P:Program} {w:World} {H:Hp} {h:Heap} {a:Addr}
theorem Sx (ok:iz P w H h) (e:Rd H a u):gj P w H h a u:=e.ok ok
theorem uO (ok:iz P w H h) (e:Rd H a (.dK kvs)):kvs.length<=sizeLine/\(a==sysModules)=false/\∃vs,KV kvs vs/\h.DictOf (dD P w) a vs:=
 show gj P w H h a (.dK kvs) from Sx ok e
theorem Ft (ok:iz P w H h) (e:H a=some (.dK kvs)):kvs.length<=sizeLine/\(a==sysModules)=false/\∃vs,KV kvs vs/\h.DictOf (dD P w) a vs:=uO ok (.inl e)
theorem zO (ok:iz P w H h) (e:H a=some (.tup (ks.map kV))):(tupleKind (dD P w)).is h ks a:=by obtain⟨_,its,r,o,h1,h2,n,h3⟩:=(ok a _ e);exact⟨o,its.toArray,n,h1,h2,h3,by simpa using DK r⟩
theorem zQ (ok:iz P w H h) (e:Rd H a (.dT kvs)):kvs.length<=sizeLine/\(a==sysModules)=false/\
 ∃xs,KT H kvs xs/\h.DictOfH (tupleKind (dD P w)) a xs:=by
 obtain⟨z,y,xs,r,o,es,ep,h1,h2,h3,h4,h5⟩:=(Sx ok e);refine⟨z,y,xs,r,o,es,ep,h1,h2,h3,h4,λx hx=>?_,h5⟩;have all:∀{l:List (List Key×V)} {m:List (List Key×Addr×Value)},KT H l m->∀x∈m,(tupleKind (dD P w)).is h x.1 x.2.1:=by
  intro l m q;induction q with
  | nil=>intro x hx; exact nomatch hx
  | @cons p q ps qs hq t ih=>
   intro x hx;rcases aah.mp hx with e | hx
   . subst e;exact zO ok (by rw[<-hq.1]; exact hq.2.1)
   . exact ih x hx
 exact all r x hx
theorem Yj (ok:iz P w H h) (e:H a=some (.dT kvs)):kvs.length<=sizeLine/\(a==sysModules)=false/\
 ∃xs,KT H kvs xs/\h.DictOfH (tupleKind (dD P w)) a xs:=zQ ok (.inl e)
end
def Gz (H:Hp) (a:Addr) (y:V) (r:Option V):Prop:=
 (∃kvs k,Rd H a (.dK kvs)/\y=kV k/\r=mU kvs k)\/∃kvs k b,Rd H a (.dT kvs)/\y=.ref b/\H b=some (.tup (k.map kV))/\r=mU kvs k
def Wl (H:Hp) (a:Addr) (y v:V) (H':Hp):Prop:=
 (∃kvs k,H a=some (.dK kvs)/\y=kV k/\kvs.length<sizeLine/\H'=upd H a (.dK (putK kvs k v)))\/
 ∃kvs k b,H a=some (.dT kvs)/\y=.ref b/\H b=some (.tup (k.map kV))/\kvs.length<sizeLine/\H'=upd H a (.dT (putK kvs k v))
section
variable {X:Cx} {adG:List (Addr×Obj)} {U:St} {H:Hp} {s:Shared} {a:Addr} {y v:V} {u r:Value} {o:Option V} {A:Around} {E:Value->Shared->Prop}
theorem Inv.big (I:Inv X adG U H s):sysModules<s.heap.objs.size:=by have h:=(I.mod.glob.keeps I.bk).lt;exact Nat.lt_trans (by decide) h
theorem Nt (hu:A.units+1<cLine) (I:Inv X adG U H s) (g:Gz H a y (some v)) (ry:RelV y u) (h:∀w' s',Inv X adG U H s'->RelV v w'->Q w' s'):
 wpAny (model X.prog X.w) A (getItem (.ref a) u) Q E s:=by
 rcases g with ⟨kvs,k,e,ey,l⟩ | ⟨kvs,k,b,e,ey,eb,l⟩
 . subst ey;obtain⟨z,hd,vs,rel,dd⟩:=uO I.hok e;obtain⟨w',hw,rw'⟩:=mR.some_of (by rw[l]; exact rel.val k);exact wpAny_getItem_of (Fq ry) dd.mapOf hw (h w' _ (I.tok _) rw')
 . subst ey;cases (ry);obtain⟨z,hd,xs,rel,dd⟩:=zQ I.hok e;obtain⟨w',hw,rw'⟩:=mR.some_of (by rw[l]; exact rel.val k);obtain⟨p,hp,hp2⟩:=Option.map_eq_some_iff.mp hw;refine wpAny_getItem_heap (tupleKind_room_in1 hu) (zO I.hok eb) dd hp ?_;rw[hp2];exact h w' _ (I.tok _) rw'
theorem uo (I:Inv X adG U H s) (mu:MN (H a)) (hs:Heap.SameBut a s.heap h') (he:∃q,h'.get? a=some q) (new:gj X.prog X.w (upd H a ob) h' a ob):
 Inv X adG U (upd H a ob) { s with heap:=h',toks:=t' }:=
 I.write mu (.inl rfl) (λb q hb z=>(hs.2 b hb).trans z) he new
theorem Nu (z:kvs.length<=sizeLine) (hd:(a==sysModules)=false) (rel:KV kvs vs) (dd:h'.DictOf (dD P w) a vs):
 gj P w H' h' a (.dK kvs):=⟨z,hd,vs,rel,dd⟩
theorem Nv (hu:A.units+1<cLine) (I:Inv X adG U H s) (g:Wl H a y v H') (ry:RelV y u) (rv:RelV v r) (h:∀s',Inv X adG U H' s'->Q () s'):
 wpAny (model X.prog X.w) A (setItem (.ref a) u r) Q E s:=by
 rcases g with ⟨kvs,k,e,ey,l,eH⟩ | ⟨kvs,k,b,e,ey,eb,l,eH⟩
 . subst ey eH;obtain⟨z,hd,vs,rel,dd⟩:=Ft I.hok e;have hz:vs.length<=sizeLine:=by rw[<-rel.length]; exact z
   have hl:(putK kvs k v).length<=sizeLine:=by have:=yF kvs k v; omega
   refine wpAny_setItem_pairs (Fq ry) dd λh' dd' hs=>h _ ?_;have he:∃q,h'.get? a=some q:=let ⟨q,_,_,hq,_⟩:=dd'; ⟨q,hq⟩;exact uo I (by rw[e]; exact True.intro) hs he (Nu hl hd (rel.put k rv) dd')
 . subst ey eH;cases (ry);obtain⟨z,hd,xs,rel,dd⟩:=Yj I.hok e;have hz:xs.length<=sizeLine:=by rw[<-Paired.length rel]; exact z
   have hl:(putK kvs k v).length<=sizeLine:=by have:=yF kvs k v; omega
   refine wpAny_setItem_heap (tupleKind_room_in1 hu) (zO I.hok eb) dd λh' dd' hs=>h _ ?_;obtain⟨q,es,ep,hq,h2,h3,h4,_,h5⟩:=dd';refine uo I (by rw[e]; exact True.intro) hs ⟨q,hq⟩ ⟨hl,hd,_,(rel.put k eb rv).keeps λc ys ec=>?_,q,es,ep,hq,h2,h3,h4,h5⟩;rw[bO (X5 ec e (λz=>nomatch z))];exact ec
end
section
variable {X:Cx} {adG:List (Addr×Obj)} {U:St} {H:Hp} {s:Shared} {a:Addr} {kvs:List (Key×V)} {k:Key} {u:Value} {A:Around} {E:Value->Shared->Prop}
theorem Ug (I:Inv X adG U H s) (e:H a=some (.dK kvs)) (h:∀s',Inv X adG U (upd H a (.dK [])) s'->Q .none s'):wpAny (model X.prog X.w) A (call (.builtin "dict.clear") [.ref a]) Q E s:=by obtain⟨z,hd,vs,rel,dd⟩:=Ft I.hok e;refine call_meetsIn F.slot_dict_clear dd.typeIs F.entry_dict_clear (F.args_dict_clear_1 _) (meets_dict_clear (dD X.prog X.w) a) ⟨vs,dd,by rw[<-rel.length]; exact z,λh' dd' hs=>h _ ?_⟩;have he:∃q,h'.get? a=some q:=let ⟨q,_,_,hq,_⟩:=dd'; ⟨q,hq⟩;exact uo I (by rw[e]; exact True.intro) hs he (Nu (aa6 _) hd .nil dd')
theorem Yk (I:Inv X adG U H s) (e:Rd H a (.dK kvs)) (h:∀t s',Inv X adG U H s'->Q (.int kvs.length t) s'):wpAny (model X.prog X.w) A (call (.builtin "len") [.ref a]) Q E s:=by obtain⟨z,hd,vs,rel,dd⟩:=uO I.hok e;refine call_len_dict hd dd (by rw[<-rel.length]; rw[sizeLine_eq]at z; omega) ?_;rw[<-rel.length];exact h _ _ (I.tok _)
end
theorem Jm {U:St} (I:Inv X adG U H s) (g:Gz H a y o):s.TypeIs (.ref a) "dict" := by
 rcases g with ⟨kvs,k,e,_⟩ | ⟨kvs,k,b,e,_⟩
 . obtain⟨_,_,vs,_,dd⟩:=uO I.hok e;exact dd.typeIs
 . obtain⟨_,_,xs,_,dd⟩:=zQ I.hok e;exact dd.typeIs
section
variable {X:Cx} {o i e value:Expr} {pos pos' tpos:Pos} {td ty tv:TE}
end
theorem QG (h:Heap) (hb:sysModules<h.objs.size):gj P w H (h.push { cls:=.type "dict",data:=.dict #[] }) h.objs.size (.dK []):=
 ⟨aa6 _,abW.mpr (Ne.symm (aaI hb)),[],.nil,Heap.DictOf.new h⟩
theorem QH (h:Heap) (hb:sysModules<h.objs.size):gj P w H (h.push { cls:=.type "dict",data:=.dict #[] }) h.objs.size (.dT []):=
 ⟨aa6 _,abW.mpr (Ne.symm (aaI hb)),[],.nil,_,#[],0,aat _ rfl,⟨rfl,rfl,rfl⟩,rfl,rfl,abJ⟩
def Wm:TE:=λ_ H Q=>∀p,H p=none->Q (.ref p) (upd H p (.dK []))
def Wn:TE:=λ_ H Q=>∀p,H p=none->Q (.ref p) (upd H p (.dT []))
section
variable {X:Cx} {pos:Pos}
theorem QJ:PE X (.Dict [] [] pos) Wm:=λadG s U H Q I h=>
 wpAny_Dict_empty ⟨.ref s.heap.objs.size,_,I.laid (λ_ _ q=>aak _ q) (aan _) (QG s.heap I.big),rfl,h _ (I.hok.fresh (aan _))⟩
theorem QK:PE X (.Dict [] [] pos) Wn:=λadG s U H Q I h=>
 wpAny_Dict_empty ⟨.ref s.heap.objs.size,_,I.laid (λ_ _ q=>aak _ q) (aan _) (QH s.heap I.big),rfl,h _ (I.hok.fresh (aan _))⟩
end
structure M1 (X:Cx) (o:Expr) (m:Str) (apos:Pos) (e:Expr) (cpos:Pos):Prop where
 base:attributeBase o m X.env (eval o X.env)=eval o X.env
 few:((backTo cpos (starEach [e] X.env)).all (λx=>!x.1)&&(backToKw cpos (keywordEach [] X.env)).all (λx=>x.1.isSome)
  && decide (([e]:List Expr).length+([]:List Keyword).length+(if ([]:List Keyword).isEmpty then 0 else 1)<30))=true
 line:(apos.endLine==cpos.line)=true
 trees:backTo cpos (starEach [e] X.env)=[(false,eval e X.env)]
def YL (H:Hp) (a:Addr):Prop:=(∃kvs,Rd H a (.dK kvs))\/∃kvs,Rd H a (.dT kvs)
theorem Wo {U:St} (I:Inv X adG U H s) (d:YL H a):
 s.TypeIs (.ref a) "dict" /\ (∀b,Value.ref a=.ref b->∃ob,s.heap.get? b=some ob/\ob.dict=none)/\(a==sysModules)=false:=by
 rcases d with ⟨kvs,e⟩ | ⟨kvs,e⟩
 . obtain⟨_,hd,vs,_,dd⟩:=uO I.hok e;refine⟨dd.typeIs,λb q=>?_,hd⟩;cases q;obtain⟨ob,_,_,h1,h2,_⟩:=dd;exact⟨ob,h1,h2.2.1⟩
 . obtain⟨_,hd,xs,_,dd⟩:=zQ I.hok e;refine⟨dd.typeIs,λb q=>?_,hd⟩;cases q;obtain⟨ob,_,_,h1,h2,_⟩:=dd;exact⟨ob,h1,h2.2.1⟩
section
variable {X:Cx} {adG:List (Addr×Obj)} {U:St} {H:Hp} {s:Shared} {a:Addr} {y d:V} {u r:Value} {o:Option V} {A:Around} {E:Value->Shared->Prop}
theorem Wq (hu:A.units+1<cLine) (I:Inv X adG U H s) (g:Gz H a y o) (ry:RelV y u) (h:∀w' s',Inv X adG U H s'->RelV (o.getD .non) w'->Q w' s'):
 wpAny (model X.prog X.w) A (call (.builtin "dict.get") [.ref a,u]) Q E s:=by
 rcases g with ⟨kvs,k,e,ey,l⟩ | ⟨kvs,k,b,e,ey,eb,l⟩
 . subst ey;obtain⟨z,hd,vs,rel,dd⟩:=uO I.hok e;refine call_meetsIn F.slot_dict_get dd.typeIs F.entry_dict_get (F.args_dict_get_2 _ _) (meets_dict_get (dD X.prog X.w) a (Fq ry) hd) ⟨_,dd.mapOf,h _ _ (I.tok _) ?_⟩;rw[l];exact(rel.val k).getD rfl
 . subst ey;cases (ry);obtain⟨z,hd,xs,rel,dd⟩:=zQ I.hok e;refine call_meetsIn F.slot_dict_get dd.typeIs F.entry_dict_get (F.args_dict_get_2 _ _) (meetsH_dict_get (tupleKind (dD X.prog X.w)) a b hd) ⟨tupleKind_room_in1 hu,k,xs,zO I.hok eb,dd,h _ _ (I.tok _) ?_⟩;rw[l];exact(rel.val k).getD rfl
end
def Wr (td ty:TE):TE:=λU H Q=>td U H λx H1=>∃a,x=.ref a/\YL H1 a/\ty U H1 λy H2=>∃o,Gz H2 a y o/\Q (o.getD .non) H2
section
variable {X:Cx} {o e f:Expr} {apos cpos:Pos} {td ty tx:TE}
theorem QL (hu:X.A.units+1<cLine) (ho:PE X o td) (he:PE X e ty) (m:M1 X o "get" apos e cpos):PE X (.Call (.Attribute o "get" apos) [e] [] cpos) (Wr td ty):=by intro adG s U H Q I h;refine wpAny_Call_method m.base m.few m.line F.plainAttrs_dict F.slot_dict_get F.type_dict_get (cF (ho adG s U H _ I h) λu s1 ⟨x,H1,I1,rx,a,ex,d,q1⟩=>?_);subst ex;obtain rfl:u=Value.ref a:=rx;obtain⟨t1,t2,_⟩:=Wo I1 d;refine⟨t1,t2,?_⟩;rw[m.trees];refine Calls.callWith_builtin rfl (Calls.evalArgs_plain (Calls.spliced_cons (cF (he adG s1 U H1 _ I1 q1) λiv s2 ⟨y,H2,I2,ry,ov,g,q2⟩=>Calls.spliced_nil ?_)));exact Wq hu I2 g ry λw' s3 I3 rw'=>⟨_,H2,I3,rw',q2⟩
end
section
variable {X:Cx} {adG:List (Addr×Obj)} {U:St} {H:Hp} {s:Shared} {a:Addr} {kvs:List (Key×V)} {A:Around} {E:Value->Shared->Prop}
end
section
variable {X:Cx} {adG:List (Addr×Obj)} {U:St} {H:Hp} {s:Shared} {a:Addr} {y:V} {u:Value} {A:Around} {E:Value->Shared->Prop}
end
section
variable {X:Cx}
end
section
variable {κ:Type} [DecidableEq κ]
end
def sI (names:List (Str×NameKind)) (env:Env):List (Str×Addr):=names.foldl (λcs p=>if (p.2==NameKind.free)=true then (p.1,(env.cells.lookup p.1).getD 0)::cs else cs) []
theorem v9 {env:Env}:∀(names:List (Str×NameKind)) (cs:List (Str×Addr)) (x:Str) (c:Addr),
 (∀y d,cs.lookup y=some d->d=(env.cells.lookup y).getD 0)->
 (names.foldl (λcs p=>if (p.2==NameKind.free)=true then (p.1,(env.cells.lookup p.1).getD 0)::cs else cs) cs).lookup x=some c->c=(env.cells.lookup x).getD 0
 | [],cs,x,c,h,e=>h x c e
 | (n,k)::r,cs,x,c,h,e=>by
  simp only[aaX]at e;refine v9 r _ x c ?_ e;intro y d q;split at q
  . simp only[aaR]at q;split at q
    . rename_i z;have z':y=n:=by simpa using z
      rw[z']; exact(aap q).symm
    . exact h y d q
  . exact h y d q
theorem zR {env:Env}:∀(names:List (Str×NameKind)) (cs:List (Str×Addr)) (x:Str) (c:Addr),
 (names.foldl (λcs p=>if (p.2==NameKind.free)=true then (p.1,(env.cells.lookup p.1).getD 0)::cs else cs) cs).lookup x=some c->(∃d,cs.lookup x=some d)\/(x,NameKind.free)∈names
 | [],cs,x,c,e=>.inl ⟨c,e⟩
 | (n,k)::r,cs,x,c,e=>by
  simp only[aaX]at e;rcases zR r _ x c e with ⟨d,q⟩ | q
  . split at q
    . rename_i hk;simp only[aaR]at q;split at q
      . rename_i z;have z':x=n:=by simpa using z
        have k':k=NameKind.free:=by simpa using hk
        right; rw[z',k']; exact aab
      . exact .inl ⟨d,q⟩
    . exact .inl ⟨d,q⟩
  . exact .inr (aai _ q)
theorem wg {env:Env}:∀(names:List (Str×NameKind)) (cs:List (Str×Addr)) (x:Str),
 ((∃d,cs.lookup x=some d)\/(x,NameKind.free)∈names)->∃c,(names.foldl (λcs p=>if (p.2==NameKind.free)=true then (p.1,(env.cells.lookup p.1).getD 0)::cs else cs) cs).lookup x=some c
 | [],cs,x,h=>by
  rcases h with h | h
  . exact h
  . cases h
 | (n,k)::r,cs,x,h=>by
  simp only[aaX];refine wg r _ x ?_;rcases h with ⟨d,h⟩ | h
  . left;split
    . simp only[aaR];split
      . exact⟨_,rfl⟩
      . exact⟨d,h⟩
    . exact⟨d,h⟩
  . rcases aah.mp h with e | h
    . left;cases e;simp
    . exact .inr h
theorem qg:∀(names:List (Str×NameKind)) (cs:List (Str×Addr)),(∀p∈names,p.2=NameKind.free->∃c,env.cells.lookup p.1=some c)->
 (forIn names cs λp r=>if (p.2==NameKind.free)=true then do let a <-cellOf env p.1; pure (ForInStep.yield ((p.1,a)::r)) else pure (ForInStep.yield r):Sem (List (Str×Addr)))=
  pure (names.foldl (λcs p=>if (p.2==NameKind.free)=true then (p.1,(env.cells.lookup p.1).getD 0)::cs else cs) cs)
 | [],cs,_=>by simp
 | (n,k)::r,cs,h=>by
  rw[List.forIn_cons,aaX];by_cases hk:(k==NameKind.free)=true
  . obtain⟨c,hc⟩:=h (n,k) aab (by simpa using hk);have hc':=hc;simp only[hk,cellOf,hc'];exact qg r _ λp hp=>h p (aai _ hp)
  . simp only[hk];exact qg r _ λp hp=>h p (aai _ hp)
theorem vI (h:∀p∈sc.names,p.2=NameKind.free->∃c,env.cells.lookup p.1=some c):closureFor sc env=pure (sI sc.names env):=by have:=qg sc.names [] h;unfold closureFor sI;rw[<-this];simp only[bind_pure]
theorem oO {env:Env}:∀(names:List (Str×NameKind)) (x:Str),
 (names.map λ(n,k)=>if (k==NameKind.free&&env.scope.kind==.function&&env.kindOf n==some .cell) then (n,NameKind.cell) else (n,k)).lookup x=
  (names.lookup x).map λk=>if (k==NameKind.free&&env.scope.kind==.function&&env.kindOf x==some .cell) then NameKind.cell else k
 | [],x=>rfl
 | (n,k)::r,x=>by
  have ih:=oO (env:=env) r x;simp only[aao];by_cases hx:x=n
  . split<;>simp_all
  . have hb:=abW.mpr hx;split<;>simp only[aaR,hb,ih]
theorem jl:∀(names:List (Str×NameKind)) (n:Nat) (acc:List (Str×Addr)),(cellsFrom n names acc).lookup x=some a->n<=a\/acc.lookup x=some a
 | [],_,_,h=>.inr h
 | (y,k)::r,n,acc,h=>by
  unfold cellsFrom at h;split at h
  . rcases jl r _ _ h with q | q
    . exact .inl (abg q)
    . rw[aaR]at q;split at q
      . cases q; exact .inl (aan _)
      . exact .inr q
  . exact jl r _ _ h
theorem wj:∀(names:List (Str×NameKind)) (n:Nat) (acc:List (Str×Addr)),(∀z b,acc.lookup z=some b->b<n)->(cellsFrom n names acc).lookup x=some a->(cellsFrom n names acc).lookup y=some a->n<=a->x=y
 | [],_,_,h,h1,h2,h3=>absurd (h _ _ h1) (Nat.not_lt.mpr h3)
 | (z,k)::r,n,acc,h,h1,h2,h3=>by
  unfold cellsFrom at h1 h2;split at h1
  . rename_i hk;rw[abR hk]at h2;have one:∀{w:Str},(cellsFrom (n+1) r ((z,n)::acc)).lookup w=some a->a=n->w=z:=λ{w} e e'=>by
     rcases jl r _ _ e with q | q
     . exact absurd q (by rw[e']; exact Nat.not_succ_le_self n)
     . rw[aaR]at q;split at q
       . rename_i hw; exact beq_iff_eq.mp hw
       . exact absurd (h _ _ q) (by rw[e']; exact aba _)
    by_cases e:a=n
    . exact(one h1 e).trans (one h2 e).symm
    . refine wj r (n+1) _ (λw b q=>?_) h1 h2 (Nat.lt_of_le_of_ne h3 (Ne.symm e));rw[aaR]at q;split at q
      . cases q; exact abm _
      . exact abh (h _ _ q)
  . rename_i hk;rw[abS hk]at h2;exact wj r n acc h h1 h2 h3
theorem wu:∀(names:List (Str×NameKind)) (n:Nat) (acc:List (Str×Addr)),names.lookup x=some .cell->(cellsFrom n names acc).lookup x=some a->n<=a
 | [],_,_,h,_=>by cases h
 | (y,k)::r,n,acc,h,h1=>by
  rw[aaR]at h;unfold cellsFrom at h1;split at h
  . rename_i hy;cases h;rcases jl r _ _ h1 with q | q
    . exact abg q
    . rw[aaR,hy]at q; cases q; exact aan _
  . split at h1
    . exact abg (wu r _ _ h h1)
    . exact wu r _ _ h h1
theorem ww:∀(names:List (Str×NameKind)) (n:Nat) (acc:List (Str×Addr)),(∀p∈names,p.2=.cell->p.1≠x)->(cellsFrom n names acc).lookup x=acc.lookup x
 | [],_,_,_=>rfl
 | (y,k)::r,n,acc,h=>by
  unfold cellsFrom;split
  . rename_i hk;rw[ww r _ _ λp hp=>h p (aai _ hp),aaR,show (x==y)=false from abW.mpr λe=>h _ aab (by simpa using hk) e.symm]
  . exact ww r _ _ λp hp=>h p (aai _ hp)
theorem uP:∀(names:List (Str×NameKind)) (h:Heap) (acc:List (Str×Addr)) (x:Str) (a:Addr),(cellsFrom h.objs.size names acc).lookup x=some a->h.objs.size<=a->(∀z b,acc.lookup z=some b->b<h.objs.size)->(pushCells h names).IsCell a none
 | [],h,acc,x,a,e,hl,hb=>absurd (hb _ _ e) (Nat.not_lt.mpr hl)
 | (y,k)::r,h,acc,x,a,e,hl,hb=>by
  unfold cellsFrom at e;unfold pushCells;split at e
  . rename_i hk;rw[abR hk];have hz:=abk h ({ cls:=.type "cell",data:=.cell none }:Obj);by_cases q:a=h.objs.size
    . subst q;exact⟨_,pushCells_keeps r _ _ _ (aat _ rfl),rfl⟩
    . refine uP r _ ((y,h.objs.size)::acc) x a (by rw[hz]; exact e) (by rw[hz]; exact Nat.lt_of_le_of_ne hl (Ne.symm q)) λz b q'=>?_;rw[hz];rw[aaR]at q';split at q'
      . cases q'; exact abm _
      . exact abh (hb _ _ q')
  . rename_i hk;rw[abS hk];exact uP r h acc x a e hl hb
abbrev mV (sc:Scope) (C:Addr) (env:Env):List (Str×Addr):=cellsFrom (C+1) sc.names (sI sc.names env)
structure iC (X:Cx) (M F:List Str) (ixs:List Nat) (sc:Scope):Prop where
 kind:sc.kind=.function
 locs:∀y∈sc.names,y.2=.local->sc.names.lookup y.1=some .local
 cel:∀y∈sc.names,y.2=.cell->sc.names.lookup y.1=some .cell
 own:∀p∈sc.names,p.2=.free->X.env.scope.names.lookup p.1=some .cell\/X.env.scope.names.lookup p.1=some .free
 frs:∀x∈F,sc.names.lookup x=some .free
 ixl:ixs.length=F.length
 ixn:∀(j i:Nat),ixs[j]?=some i->X.N[i]?=F[j]?
abbrev wy (m:Nat) (ixs:List Nat) (U:St):St:=List.replicate m none++ixs.map λi=>(U[i]?).join
def eV (X:Cx) (M F:List Str) (sc:Scope) (C:Addr) (fp:List Addr) (s:Shared) (H:Hp):Cx where
 prog:=X.prog
 w:=X.w
 K:=X.K
 mg:=X.mg
 base:=X.base
 A:=X.A
 N:=M++F
 s₀:=s
 H0:=H
 env:=compEnvC sc (mV sc C X.env) C X.env
 outer:=X.stack
 stack:=X.stack
 ex:=fp
 fn:=λx=>sc.names.lookup x==some .cell
 calm:=X.calm
 pn:=[]
 xe:=λ_ _=>False
section
variable {X:Cx} {adG:List (Addr×Obj)} {U:St} {H:Hp} {s:Shared}
theorem iC.free_of (c:iC X M F ixs sc) (h:sc.names.lookup x=some k):(x,k)∈sc.names:=by
 generalize sc.names=l at h;induction l with
 | nil=>cases h
 | cons p r ih=>
  rw[aaR]at h;split at h
  . rename_i z;have z':x=p.1:=by simpa using z
    have e:=aap h;subst e;rw[z'];exact aab
  . exact aai _ (ih h)
theorem yV (I:Inv X adG U H s) (c:iC X M F ixs sc):∀p∈sc.names,p.2=NameKind.free->∃a,X.env.cells.lookup p.1=some a:=λp hp e=>
 I.ok.has p.1 (by rcases c.own p hp e with h | h; exact .inl h; exact .inr h)
theorem ig (I:Inv X adG U H s) (c:iC X M F ixs sc) (h:(sI sc.names X.env).lookup x=some a):X.env.cells.lookup x=some a:=by
 have e:=v9 sc.names [] x a (λy d q=>by cases q) h;rcases zR sc.names [] x a h with ⟨d,q⟩ | q
 . cases q
 . obtain⟨b,hb⟩:=yV I c _ q rfl;have hb':=hb;rw[hb',abO]at e;rw[hb',e]
theorem Nx (I:Inv X adG U H s) (c:iC X M F ixs sc) (h:(sI sc.names X.env).lookup x=some a):a<s.heap.objs.size:=by obtain⟨v,o,ho,_⟩:=I.cell x a (ig I c h);exact aau ho
theorem Uh (I:Inv X adG U H s) (c:iC X M F ixs sc) {C:Addr} (hC:s.heap.objs.size<=C) (hf:∀b∈fp,lY X adG H b) (ho:∀b∈fp,∃o,s.heap.get? b=some o):(eV X M F sc C fp s H).Ok where
 mod:=I.ok.mod
 kind:=c.kind
 glob:=I.ok.glob
 blt:=I.ok.blt
 above:=hC
 inj:=λx y a e1 e2=>by
  have e1':=e1;have e2':=e2;have lt:∀z b,(sI sc.names X.env).lookup z=some b->b<C+1:=λz b q=>abh (aaB (Nx I c q) hC);rcases jl _ _ _ e1' with q | q
  . exact wj _ _ _ lt e1' e2' q
  . rcases jl _ _ _ e2' with q' | q'
    . exact absurd (lt _ _ q) (Nat.not_lt.mpr q')
    . exact I.ok.inj x y a (ig I c q) (ig I c q')
 has:=λx h=>by
  have h':((sc.names.lookup x).map λk=>if (k==NameKind.free&&X.env.scope.kind==.function&&X.env.kindOf x==some .cell) then NameKind.cell else k)=some .cell\/((sc.names.lookup x).map λk=>if (k==NameKind.free&&X.env.scope.kind==.function&&X.env.kindOf x==some .cell) then NameKind.cell else k)=some .free:=by rw[<-oO]; exact h
  refine abn.mp (abN _ _ _ ?_);cases e:sc.names.lookup x with
  | none=>rw[e]at h'; rcases h' with h' | h'<;>cases h'
  | some k=>
   rw[e]at h';have m:=c.free_of e;cases k with
   | free=>exact .inr (abn.mpr (wg sc.names [] x (.inr m)))
   | cell=>exact .inl rfl
   | _=>rcases h' with h' | h'<;>simp at h'
 cab:=λx a h e=>aaL hC (abg (wu _ _ _ (beq_iff_eq.mp h) e))
 hd:=I.ok.hd
 frames:=I.ok.frames
 stk:=.inl rfl
 exf:=λb hb=>⟨by
  obtain⟨o,e⟩:=ho b hb;exact aaI (aaB (aau e) hC),λx a e=>by
  obtain⟨o,eo⟩:=ho b hb;rcases jl _ _ _ (e) with q | q
  . exact aa9 (aaB (aau eo) (aaL hC (abg q)))
  . exact(hf b hb).2.2.2.2.1 x a (ig I c q)⟩
 bs:=I.bs
 bsz:=aaL I.ok.bsz I.sz
 noex:=λb o e hb=>by
  obtain⟨_,_,_,h,_⟩:=hf b hb;rcases h with h | h
  . exact I.ok.noex b o e h
  . exact absurd (aaB (aau (I.ok.bs b o e).1) h) (aba _)
 exfs:=λb hb z=>by
  obtain⟨_,h1,h2,_⟩:=hf b hb;rcases aah.mp (I.stkSub b z) with z | z
  . exact h1 z
  . exact h2 z
 funs:=I.stack
 frf:=I.stkFree
theorem QM (I:Inv X adG U H s) (c:iC X M F ixs sc) (hf:∀b∈fp,lY X adG H b) (ho:∀b∈fp,∃o,s.heap.get? b=some o)
 {C:Addr} (hC:C=s.heap.objs.size+1) (hns:h₁.Ns C m1) (old:∀b o,s.heap.get? b=some o->h₁.get? b=some o)
 (hD:h₁.get? s.heap.objs.size=some { cls:=.type "list",data:=.seq #[] 0 }) (hce:∀x a,(mV sc C X.env).lookup x=some a->C+1<=a->h₁.IsCell a none):
 Inv (eV X M F sc C fp s H) [] (wy M.length ixs U) (upd H s.heap.objs.size (.lst [])) { s with heap:=h₁,toks:=tk }:=by
 have hDn:=I.hok.fresh (aan _);have hCle:s.heap.objs.size<=C:=by rw[hC]; exact abB _
 have hCn:=I.hok.fresh hCle;have hok:=Uh I c hCle hf ho;refine⟨hok,rfl,I.bare,Un.laid old (aan _) hDn,⟨m1,hns,?_⟩,?_,?_,?_,?_,?_,?_⟩
 . intro i x v e1 e2 hv;have e1':(M++F)[i]?=some x:=e1;by_cases hi:i<M.length
   . rw[abw (by simpa using hi)]at e2;simp[hi]at e2
   . rw[aaU (by omega)]at e1';rw[aaU (by simpa using abC hi)]at e2;simp only[List.length_replicate,aay]at e2;cases q:ixs[i-M.length]? with
     | none=>rw[q]at e2; cases e2
     | some i'=>
      rw[q]at e2;have e2':(U[i']?).join=some v:=by simpa using e2
      have e3:U[i']?=some (some v):=by
       cases z:U[i']? with
       | none=>rw[z]at e2'; cases e2'
       | some y=>rw[z]at e2'; simp at e2'; rw[e2']
      have xF:=aaw e1';have hlk:=c.frs x xF;have hm:=c.free_of hlk;have hX:=c.own _ hm rfl;have hN:X.N[i']?=some x:=by rw[c.ixn _ _ q]; exact e1'
      obtain⟨m,hn,hl⟩:=I.loc;have vis:MT X.env.scope x:=by
       rcases hX with h | h
       . exact .inr (.inl h)
       . exact .inr (.inr h)
      obtain⟨u,r,l⟩:=hl i' x v hN e3 vis;refine⟨u,r,.inr ⟨?_,?_⟩⟩
      . show (Env.kindOf (compEnvC sc (mV sc C X.env) C X.env) x=_)\/(Env.kindOf (compEnvC sc (mV sc C X.env) C X.env) x=_);have:Env.kindOf (compEnvC sc (mV sc C X.env) C X.env) x=(sc.names.lookup x).map λk=>if (k==NameKind.free&&X.env.scope.kind==.function&&X.env.kindOf x==some .cell) then NameKind.cell else k:=oO sc.names x
        rw[this,hlk];simp only[abf];split
        . exact .inl rfl
        . exact .inr rfl
      . rcases l with ⟨hk,_⟩ | ⟨_,cc,hcc,hcell⟩
        . rcases hX with h | h
          . have hk':X.env.scope.names.lookup x=some .local:=hk;have h':=h;rw[h']at hk'; cases hk'
          . have hk':X.env.scope.names.lookup x=some .local:=hk;have h':=h;rw[h']at hk'; cases hk'
        . obtain⟨a,ha⟩:=wg sc.names [] x (.inr hm);have ha':=ig I c ha;rw[hcc]at ha'; cases ha';obtain⟨oc,hoc,hd⟩:=hcell;exact⟨cc,(ww _ _ _ λp hp e z=>by have:=c.cel p hp e; rw[z,hlk]at this; cases this).trans ha,oc,old _ _ hoc,hd⟩
 . intro x a e;have e':=e;rcases jl _ _ _ e' with q | q
   . exact⟨none,hce x a e' q⟩
   . obtain⟨v,oc,hoc,hd⟩:=I.cell x a (ig I c q);exact⟨v,oc,old _ _ hoc,hd⟩
 . rw[bO (by rw[hC]; exact Nat.succ_ne_self _)]; exact hCn
 . intro x a e;rcases jl _ _ _ (e) with q | q
   . have q':=abz hCle q;rw[bO (aa9 q')];exact I.hok.fresh (abM q')
   . obtain⟨v,oc,hoc,hd⟩:=I.cell x a (ig I c q);rw[bO (aaI (aau hoc))];exact I.freeC x a (ig I c q)
 . intro p hp; cases hp
 . exact I.hok.laid old (aan _) ⟨aa6 _,[],0,.nil,hD⟩
 . show (List.replicate M.length none++_).length=(M++F).length;simp[c.ixl]
def qY (X:Cx) (ifs:List Expr) (t:TT):Prop:=
 ∀(adG:List (Addr×Obj)) (s:Shared) (U:St) (H:Hp) (Q:Bool->Hp->Prop),Inv X adG U H s->t U H Q->
  wpAny (model X.prog X.w) X.A (forIn ifs true λc r=>if r=true then do let ok <-isTrue c X.env (eval c X.env); pure (ForInStep.yield ok) else pure (ForInStep.yield r)) (TP X adG U Q) X.xe s
theorem QR:qY X [] (λ_ H Q=>Q true H):=λ_ s U H Q I h=>wpAny_tests_nil ⟨H,I,h⟩
theorem QS (h:PT X c t):qY X [c] t:=λadG s U H Q I q=>wpAny_tests_one (h adG s U H Q I q)
def Lf (wi:TI) (m:Nat) (ixs:List Nat) (g:TG) (tc:TT) (te:TE):TE:=λU H Q=>wi U H λJ H1=>∀p,H1 p=none->
 ∃W:Nat->Nat->St->Hp->Prop,(∃n,W 0 n (wy m ixs U) (upd H1 p (.lst [])))/\∀i n U' H',W i n U' H'->
  ((J.stop i H'/\Q (.ref p) H')\/(J.go i H'/\∀x H2,J.yld i H' x H2->g x U' H2 λU3 H3=>tc U3 H3 λb H4=>
    if b=true then te U3 H4 λv H5=>∃ys,H5 p=some (.lst ys)/\ys.length<sizeLine/\∃n',n'<n/\W (i+1) n' U3 (upd H5 p (.lst (ys++[v])))
    else ∃n',n'<n/\W (i+1) n' U3 H4))
def CI (X:Cx) (fp:List Addr) (tn:Nat->Heap->Prop) (W:Nat->Nat->St->Hp->Prop) (n:Nat) (s:Shared):Prop:=∃i U H,Inv X [] U H s/\tn i s.heap/\(∀b∈fp,H b=none)/\W i n U H
theorem yW {P:Prop} (h:∀G:Prop,(P->G)->G):P:=h P id
theorem Ny {F:Hp->Prop} (hcalm:X.calm=true) (T:Turn X.prog X.w X.K tg J fp it tn) (hg:PG X tg g) (hc:qY X ifs tc) (he:PE X elt te) (hx:∀u s,X.xe u s->False)
 (stat:∀{H':Hp},(∀b∈fp,H' b=none)->∀b∈fp,lY X [] H' b)
 (turn:∀i n U' H',W i n U' H'->((J.stop i H'/\F H')\/(J.go i H'/\∀x H2,J.yld i H' x H2->g x U' H2 λU3 H3=>tc U3 H3 λb H4=>
   if b=true then te U3 H4 λv H5=>∃ys,H5 D=some (.lst ys)/\ys.length<sizeLine/\∃n',n'<n/\W (i+1) n' U3 (upd H5 D (.lst (ys++[v])))
   else ∃n',n'<n/\W (i+1) n' U3 H4)))
 {R:Result->Shared->Prop} (hR:∀U' H' s',Inv X [] U' H' s'->F H'->R (.ok .next) s') (n:Nat) (s':Shared) (hI:CI X fp tn W n s'):
 wpAny (model X.prog X.w) X.A (compTurn (.ListComp elt [⟨tg,iter,ifs,0⟩] sc pos) 0 (.ref it) (.ref D) X.env)
  (λfin s'=>match fin with | .done f=>R (.ok f) s' | .again c'=>c'=.compLoop (.ListComp elt [⟨tg,iter,ifs,0⟩] sc pos) 0 (.ref it) (.ref D) X.env/\∃m,m<n/\CI X fp tn W m s') (λ_ _=>False) s':=by
 refine yW λG kG=>?_;obtain⟨i,U',H',I',st',fr',w'⟩:=hI;rcases turn i n U' H' w' with ⟨stop,qn⟩ | ⟨go,step⟩
 . refine kG (abQ (wpAny_standAt (abQ (wpAny_mono (T.done X rfl rfl rfl hcalm i [] s' U' H' (λ_ _=>False) I' (stat fr') st' stop) (λr s4 h4=>?_) λ_ _ f=>f))));obtain⟨hr,I4⟩:=h4;subst hr;exact abT (hR U' H' _ I4 qn)
 . refine kG (abQ (wpAny_standAt (abQ (wpAny_mono (T.item X rfl rfl rfl hcalm i [] s' U' H' (λ_ _=>False) I' (stat fr') st' go) (λr s4 h4=>?_) λ_ _ f=>f))));obtain⟨u,hr,h4⟩:=h4;subst hr;refine abQ (wpAny_mono h4 (λ_ s5 h5=>?_) λ_ _ f=>f);refine yW λG kG=>?_;obtain⟨x,H5,I5,r5,y5,st5,fr5⟩:=h5;have again:∀{s7:Shared} {U7:St} {H7:Hp} {n':Nat},Inv X ([]++vV fp s5.heap) U7 H7 s7->W (i+1) n' U7 H7->CI X fp tn W n' s7:=λ{s7 U7 H7 n'} I7 w7=>by
    have pn:∀b∈fp,∀o,s5.heap.get? b=some o->s7.heap.get? b=some o/\H7 b=none:=λb hb o e=>by have:=I7.pin (b,o) (aaG _ (aaG _ (uN hb e)));exact⟨this.1,this.2.1⟩
    refine⟨i+1,U7,H7,I7.unpinned,T.keep _ _ _ st5 λb hb o e=>(pn b hb o e).1,λb hb=>?_,w7⟩;obtain⟨o,e,d⟩:=T.obj _ _ st5 b hb;exact(pn b hb o e).2
   refine kG (abQ (wpAny_mono (hg _ s5 U' H5 x u _ (I5.pinned (stat fr5) (T.obj _ _ st5)) r5 (step x H5 y5)) (λ_ s6 h6=>?_) hx));refine yW λG kG=>?_;obtain⟨U6,H6,I6,q6⟩:=h6;refine kG (abQ (wpAny_mono (hc _ s6 U6 H6 _ I6 q6) (λok s7 h7=>?_) hx));refine yW λG kG=>?_;obtain⟨H7,I7,q7⟩:=h7;cases ok with
   | false=>
    obtain⟨n',hn',w7⟩:=q7;exact kG (abT ⟨rfl,n',hn',again I7 w7⟩)
   | true=>
    refine kG (abQ (abQ (wpAny_mono (he _ s7 U6 H7 _ I7 q7) (λv s8 h8=>?_) hx)));refine yW λG kG=>?_;obtain⟨y,H8,I8,r8,ys,hp8,hz,n',hn',w8⟩:=h8;refine kG (abQ (wpAny_mono (vZ _ s8 U6 H8 (.ref D) [y] (.ref D) [v] (λ_ H9=>W (i+1) n' U6 H9) I8 rfl (.cons r8 .nil) ⟨_,ys,y,rfl,rfl,hp8,hz,w8⟩) (λ_ s9 h9=>?_) hx));obtain⟨_,H9,I9,_,w9⟩:=h9;exact abT (abT ⟨rfl,n',hn',again I9 w9⟩)
theorem Ui
 (h:Q (newEnv sc s.heap.objs.size gl (cellsFrom (s.heap.objs.size+1) sc.names clo) qual none .none (some env) builtinsNs) { s with heap:=pushCells (s.heap.push { cls:=.type "dict",data:=.dict #[] }) sc.names }):
 wpAny Md A (newFunctionEnv sc gl clo [] qual none .none (some env)) Q E s:=by
 simp only[newFunctionEnv,Option.isSome_some,if_true];refine abQ (wpAny_alloc ?_);refine abQ (wpAny_layCells _ (λname kind cells=>by cases hkc:kind==NameKind.cell<;>simp[hkc]) _ _ _ _ ?_);rw[show ({ s with heap:=s.heap.push { cls:=.type "dict",data:=.dict #[] } }:Shared).heap.objs.size=s.heap.objs.size+1 from abk ..];exact abQ (abT (abT h))
theorem zU (hcalm:X.calm=true) (c:iC X M F ixs sc)
 (hg:∀C fp s H,PG (eV X M F sc C fp s H) tg g) (hc:∀C fp s H,qY (eV X M F sc C fp s H) ifs tc) (he:∀C fp s H,PE (eV X M F sc C fp s H) elt te)
 {Q:VK} (I:Inv X adG U H s) (T:Turn X.prog X.w X.K tg J fp it tn) (st:tn 0 s.heap) (hf:∀b∈fp,lY X adG H b)
 (h:∀p,H p=none->∃W:Nat->Nat->St->Hp->Prop,(∃n,W 0 n (wy M.length ixs U) (upd H p (.lst [])))/\∀i n U' H',W i n U' H'->
   ((J.stop i H'/\Q (.ref p) H')\/(J.go i H'/\∀x H2,J.yld i H' x H2->g x U' H2 λU3 H3=>tc U3 H3 λb H4=>
     if b=true then te U3 H4 λv H5=>∃ys,H5 p=some (.lst ys)/\ys.length<sizeLine/\∃n',n'<n/\W (i+1) n' U3 (upd H5 p (.lst (ys++[v])))
     else ∃n',n'<n/\W (i+1) n' U3 H4)))
 {RR:Value->Addr->Result->Shared->Prop}
 (hR:∀D C s' H' m,s.heap.get? D=none->s.heap.get? C=none->s.heap.objs.size<=C->H D=none->D≠C->H' C=none->s'.heap.Ns C m->s'.os=s.os->AllBare s'.gens->Un (frs X.stack) fp H H' s.heap s'.heap->iz X.prog X.w H' s'.heap->Q (.ref D) H'->RR (.ref D) C (.ok .next) s'):
 wpAny (model X.prog X.w) X.A (newList []) (λacc s₃=>wpAny (model X.prog X.w) X.A (newFunctionEnv sc X.env.globals (sI sc.names X.env) [] X.env.qual none .none (some X.env)) (λcenv s₄=>
  codeAny (model X.prog X.w) X.A (.compStart (.ListComp elt [⟨tg,iter,ifs,0⟩] sc pos) 0 (.ref it) acc { cenv with scope:=relabel sc X.env }) (RR acc cenv.locals) s₄) E s₃) E s:=by
 refine wpAny_newObj_type (Ui ?_);generalize hH2:s.heap.push { cls:=.type "list",dict:=none,data:=.seq ([]:List Value).toArray }=H2;generalize hh1:pushCells (H2.push { cls:=.type "dict",data:=.dict #[] }) sc.names=h₁;have kp:∀b o,H2.get? b=some o->h₁.get? b=some o:=λb o e=>by rw[<-hh1]; exact pushCells_keeps _ _ _ _ (aak _ e)
 have hns₁:h₁.Ns H2.objs.size (λ_=>none):=by rw[<-hh1]; exact(Heap.Ns.new H2 (.type "dict")).keeps (pushCells_keeps _ _)
 have hC:H2.objs.size=s.heap.objs.size+1:=by rw[<-hH2,abk]
 have hDC:s.heap.objs.size≠H2.objs.size:=by rw[hC]; exact aaI (abm _)
 have below:∀b,b<s.heap.objs.size->b≠H2.objs.size:=λb hb=>by rw[hC]; exact aaI (abh hb)
 have old:=λb o e=>kp b o (hH2▸aak _ e);have hD:=kp _ _ (hH2▸aat _ rfl);have fresh:∀a,s.heap.objs.size<=a->s.heap.get? a=none:=λa ha=>by
  cases e:s.heap.get? a with
  | none=>rfl
  | some o'=>exact absurd (aau e) (Nat.not_lt.mpr ha)
 have hDn:=I.hok.fresh (aan _);have hfo:∀b∈fp,∃o,s.heap.get? b=some o:=λb hb=>let ⟨o,e,_⟩:=T.obj 0 _ st b hb; ⟨o,e⟩;have hz2:(H2.push { cls:=.type "dict",data:=.dict #[] }).objs.size=H2.objs.size+1:=abk ..;have hce:∀x a,(mV sc H2.objs.size X.env).lookup x=some a->H2.objs.size+1<=a->h₁.IsCell a none:=λx a e q=>by rw[<-hh1];exact uP _ _ (sI sc.names X.env) x a (by rw[hz2]; exact e) (by rw[hz2]; exact q) λz b q'=>by rw[hz2,hC]; exact abh (abh (Nx I c q'))
 have I0:=QM I c hf hfo (tk:=s.toks) hC hns₁ old hD hce;obtain⟨W,⟨n0,w0⟩,turn⟩:=h _ hDn;have nf:∀b∈fp,b≠s.heap.objs.size:=λb hb=>by obtain⟨o,e⟩:=hfo b hb; exact aaI (aau e)
 have stat:∀{H':Hp},(∀b∈fp,H' b=none)->∀b∈fp,lY (eV X M F sc H2.objs.size fp s H) [] H' b:=λ{H'} hn b hb=>by
  obtain⟨f0,f1,f2,f3,f4,f5⟩:=hf b hb;obtain⟨o,e⟩:=hfo b hb;refine⟨hn b hb,below b (aau e),λz=>?_,.inl hb,λx a e'=>by
   rcases jl _ _ _ (e') with q | q
   . exact aa9 (aaB (aau e) (aaL (by rw[hC]; exact abB _) (abg q)))
   . exact f4 x a (ig I c q),λp hp=>by cases hp⟩
  rcases aah.mp (I.stkSub b z) with z | z
  . exact f1 z
  . exact f2 z
 have st1:=T.keep 0 _ _ st λb hb o e=>old b o e;have loop:codeAny (model X.prog X.w) X.A (.compLoop (.ListComp elt [⟨tg,iter,ifs,0⟩] sc pos) 0 (.ref it) (.ref s.heap.objs.size) (compEnvC sc (mV sc H2.objs.size X.env) H2.objs.size X.env))
  (RR (.ref s.heap.objs.size) H2.objs.size) { s with heap:=h₁ }:=by
  refine codeAny_loop rfl (CI (eV X M F sc H2.objs.size fp s H) fp tn W) (λn s' hI=>?_) n0 ⟨0,_,_,I0,st1,λb hb=>by rw[bO (nf b hb)]; exact(hf b hb).1,w0⟩;show wpAny _ X.A ((compTurn (.ListComp elt [⟨tg,iter,ifs,0⟩] sc pos) 0 (.ref it) (.ref s.heap.objs.size) (compEnvC sc (mV sc H2.objs.size X.env) H2.objs.size X.env)).onRaise (λx=>do noteFrame x (compEnvC sc (mV sc H2.objs.size X.env) H2.objs.size X.env); theTreesLotGoes x)) _ _ s';refine wpAny_noted (wpAny_mono (Ny (X:=eV X M F sc H2.objs.size fp s H) hcalm T (hg _ fp s H) (hc _ fp s H) (he _ fp s H) (λ_ _ f=>f) stat turn (λU' H' s4 I4 qn=>?_) n s' hI) (λ_ _ h=>h) λ_ _ f=>f.elim);obtain⟨m4,hn4,_⟩:=I4.loc;exact hR _ _ _ H' m4 (fresh _ (aan _)) (fresh _ (by rw[hC]; exact abB _)) (by rw[hC]; exact abB _) hDn hDC I4.free hn4 I4.os I4.bare I4.base I4.hok qn
 exact codeAny_compStart_list loop (T.self _ 0 _ _ _ st1 loop)
end
section
variable {X:Cx}
theorem JH {U U':St} (I:Inv X adG U H s) (hC:s.heap.get? C=none) (I':Inv X adG U' H' s') (hn:H' C=none) {m:Str->Option Value} (hs:Heap.SameBut C s'.heap h')
 (hsz:s.heap.objs.size<=C):Inv X adG U' H' { s' with heap:=h' }:=by
 have ne:∀a o,s.heap.get? a=some o->C≠a:=λa o e z=>by rw[z,e]at hC; cases hC
 refine I'.turned (λb o hb e=>(hs.2 b hb).trans e) hn ?_ (.inr (aaL I.sz hsz)) (λx c e=>?_) (λp hp=>?_)
 . exact aa9 (aaB I.lt hsz)
 . obtain⟨v,o,ho,_⟩:=I.cell x c e;exact Ne.symm (ne _ _ ho)
 . exact Ne.symm (ne _ _ (I.pin p hp).1)
theorem Uj (M F:List Str) (ixs:List Nat) (hcalm:X.calm=true) (c:iC X M F ixs sc) (hi:PI X tg iter wi)
 (hg:∀C fp s H,PG (eV X M F sc C fp s H) tg g) (hc:∀C fp s H,qY (eV X M F sc C fp s H) ifs tc) (he:∀C fp s H,PE (eV X M F sc C fp s H) elt te)
 (hs:∀x,foldedSetIterable iter X.env x=pure x:=by intro _; rfl):PE X (.ListComp elt [⟨tg,iter,ifs,0⟩] sc pos) (Lf wi M.length ixs g tc te):=by
 intro adG s U H Q I h;refine wpAny_comprehension_free rfl hs (vI (yV I c)) c.kind c.locs (cF (hi adG s U H _ I h) λv s1 h1=>cF h1 λitv s2 h2=>?_);obtain⟨it,fp,tn,J,H2,e,I2,T,st2,f2,q⟩:=h2;subst e;refine zU hcalm c hg hc he I2 T st2 f2 q ?_;intro D C s' H' m hD hC hsz hDn hDC hCn hns hos hbare hun hok q';have I3:=I2.call' hos hun hok hbare λb hb=>by obtain⟨_,g1,g2,g3,g4,g5⟩:=f2 b hb;exact⟨g3,g1,g4,g5⟩
 exact⟨m,hns,λh' hs'=>⟨.ref D,H',JH (m:=m) I2 hC I3 hCn hs' hsz,rfl,q'⟩⟩
theorem JK (M F:List Str) (ixs:List Nat) {pos pos' pos2:Pos} (hN:X.N.Nodup) (hix:X.N[i]?=some x) (hx:X.env.scope.names.lookup x=some .local)
 (hcalm:X.calm=true) (c:iC X M F ixs sc) (hi:PI X tg iter wi)
 (hg:∀C fp s H,PG (eV X M F sc C fp s H) tg g) (hc:∀C fp s H,qY (eV X M F sc C fp s H) ifs tc) (he:∀C fp s H,PE (eV X M F sc C fp s H) elt te)
 (hsw:swapsWith (.ListComp elt [⟨tg,iter,ifs,0⟩] sc pos) (some (.Name x pos')) pos2.line X.env=pure true:=by rfl)
 (hs:∀x,foldedSetIterable iter X.env x=pure x:=by intro _; rfl):PS X (.Assign [.Name x pos'] (.ListComp elt [⟨tg,iter,ifs,0⟩] sc pos) pos2) (λD U H=>Lf wi M.length ixs g tc te U H λv H1=>D.nx (U.set i (some v)) H1):=by
 intro adG s U H D I h;rw[exec_Assign_Name_used _ _ _ _ hsw];refine abQ (wpAny_standAt (abQ ?_));refine abQ (wpAny_mono (wpAny_comprehension_free (use:=some (assign (.Name x pos') X.env)) (Q:=λ_ s'=>SP X adG D .next s') rfl hs (vI (yV I c)) c.kind c.locs
  (cF (hi adG s U H _ I h) λv s1 h1=>cF h1 λitv s2 h2=>?_)) (λ_ s' hq=>abT (abT hq)) λ_ _ e=>e)
 obtain⟨it,fp,tn,J,H2,e,I2,T,st2,f2,q⟩:=h2;subst e;refine zU (Q:=λv H1=>D.nx (U.set i (some v)) H1) hcalm c hg hc he I2 T st2 f2 q ?_;intro D' C s' H' m hD hC hsz hDn hDC hCn hns hos hbare hun hok q';have I3:=I2.call' hos hun hok hbare λb hb=>by obtain⟨_,g1,g2,g3,g4,g5⟩:=f2 b hb;exact⟨g3,g1,g4,g5⟩
 have hLC:=aa9 (aaB I2.lt hsz);refine wpAny_assign_Name (Dp (v:=.ref D') I3 hN hix (.inl hx) rfl (λs'' I4 ⟨a,hsb,ha⟩=>?_) (.inr hx));have hCa:C≠a:=by
  rcases ha with ha | ha
  . rw[ha]; exact hLC
  . obtain⟨v,o,ho,_⟩:=I2.cell x a ha;intro z; rw[z,ho]at hC; cases hC
 exact⟨m,hns.sameBut hsb hCa,λh' hs'=>⟨_,H',JH (m:=m) I2 hC I4 hCn hs' hsz,q'⟩⟩
end
theorem GC (l:Addr) (items:Array Value) (n:Nat) (b:Addr) (items2:Array Value) (n2:Nat) (dd2:Option Addr) (sl2:Array (Option Value)) (hc0:¬(!items.isEmpty&&Builtin.List.listTooLong (items.size+items2.size))=true) (hc1:items.size<=sizeLine) (hs2:items.size+items2.size<=sizeLine+1):
 Meets (Builtin.«list.extend» ⟨[.ref l,.ref b],[]⟩) (λ_ R s=>s.heap.get? l=some { cls:=.type "list",dict:=none,data:=.seq items n,slots:=#[] }/\s.heap.get? b=some { cls:=.type "list",dict:=dd2,data:=.seq items2 n2,slots:=sl2 }/\R (.ok (.ret Value.none)) { s with heap:=s.heap.update l (Obj.mapSeq λx=>x++items2),toks:=s.toks }):=
 .of_wp λprog w A R s h=>by
  obtain⟨hp,g,d,tk,os⟩:=s; obtain⟨hl,hb,h⟩:=h; have f1:=AutoSeq1.idx_int; have f2:=AutoSeq1.sub_tuple_tuple; have f3:=AutoSeq1.sub_list_list; have f4:=AutoSeq1.sub_tuple_list; have f5:=AutoSeq1.sub_list_tuple;have hz':(items++items2).size<=sizeLine+1:=by rw[Array.size_append]; exact hs2
  wp_walk using (wpAny_updateSeq hl rfl),AutoSeq1.wpAny_loadPart' hl,AutoSeq1.wpAny_loadPart' hb; exact⟨_,rfl,h⟩
section
variable {X:Cx}
theorem Uk:fP X (binaryOp .Add) (λx y H Q=>∃a b xs ys,x=.ref a/\y=.ref b/\cz X.K H a xs/\cz X.K H b ys/\xs.length+ys.length<=sizeLine/\∀p,H p=none->Q (.ref p) (upd H p (.lst (xs++ys)))):=by
 intro adG s U H x y v u Q I rx ry h;obtain⟨a,b,xs,ys,rfl,rfl,ha,hb,hz,q⟩:=h;cases rx;cases ry;obtain⟨its,r1,⟨⟨c1,d1,dt1,s1⟩,n1,g1,e1,e2,e3⟩,_⟩:=I.list ha;obtain⟨its2,r2,⟨⟨c2,d2,dt2,s2⟩,n2,g2,f1,f2,f3⟩,_⟩:=I.list hb;subst e1 e2 e3 f1 f2 f3;have hl1:=r1.length;have hl2:=r2.length;refine concat_meets ⟨_,g1,rfl⟩ ⟨_,g2,rfl⟩ noFill_list_add seq_list_add F.slot_list_add F.entry_list_add (F.args_list_add_2 _ _) (list_addW a b its.toArray its2.toArray n1 n2 none none s1 s2 (by rw[aam,aam]; omega)) ⟨g1,g2,?_⟩;have ea:its.toArray++its2.toArray=(its++its2).toArray:=by simp
 rw[ea];exact⟨.ref _,_,I.lnew (r1.append r2) (by rw[aaq]; omega),rfl,q _ I.fresh⟩
def GD (K:FG):V->List V->Hp->VK->Prop:=λx vs H Q=>∃l b xs zs,x=.ref l/\vs=[.ref b]/\H l=some (.lst xs)/\cz K H b zs/\xs.length+zs.length<=sizeLine/\Q .non (upd H l (.lst (xs++zs)))
theorem Lg:JG X "list.extend" (GD X.K):=by
 intro adG s U H x vs v us Q I rx rv h;obtain⟨l,b,xs,zs,rfl,rfl,hH,hB,hz,q⟩:=h;cases rx;obtain⟨u,rfl,ru⟩:=rv.one;cases ru;obtain⟨z,its,n,r,hl,e⟩:=I.lstM hH;obtain⟨its2,r2,⟨⟨c2,d2,dt2,s2⟩,n2,g2,f1,f2,f3⟩,_⟩:=I.list hB;subst f1 f2 f3;have hl2:=r2.length;have hsz:its.toArray.size+its2.toArray.size<=sizeLine:=by rw[aam,aam]; omega
 have hlong:¬ (!its.toArray.isEmpty&&Builtin.List.listTooLong (its.toArray.size+its2.toArray.size))=true:=by rw[QC hsz,Bool.and_false];exact aaV
 refine call_meets F.slot_list_extend ⟨_,e,rfl⟩ F.entry_list_extend (F.args_list_extend_2 _ _)
  (GC l its.toArray n b its2.toArray n2 none s2 hlong (by rw[aam]; omega) (by omega)) ⟨e,g2,?_⟩
 refine⟨.non,_,I.lset hH e (by simp) (r.append r2) ?_,rfl,q⟩;rw[aaq];omega
end
def dg (z:Str) (lo hi:Option Int):Str:=⟨((z.cps.toList.drop (HT.sIx z.length 0 lo)).take (HT.sIx z.length z.length hi-HT.sIx z.length 0 lo)).toArray⟩
theorem Yl (lo hi:Option Int) (n:Nat):Builtin.Str.strSliceIndices lo hi 1 n=(List.range (HT.sIx n n hi-HT.sIx n 0 lo)).map (HT.sIx n 0 lo+·):=by
 have e1:∀(o:Option Int) (d:Nat),d<=n->(match o with | none=>(d:Int) | some i=>max 0 (min (if i<0 then i+(n:Int) else i) (n:Int)))=((HT.sIx n d o:Nat):Int):=λo d hd=>by
  cases o with
  | none=>rfl
  | some i=>
   simp only[HT.sIx];by_cases h:i<0
   . simp only[h,if_true]<;>omega
   . simp only[h,if_false]<;>omega
 rw[<-sliceRange_one];have a1:=e1 lo 0 (aa6 _);have a2:=e1 hi n (aan _);unfold Builtin.Str.strSliceIndices;rw[<-a1,<-a2];cases lo<;>cases hi<;>simp
theorem Nz (z:Str) (lo hi:Option Int):Txt.slice z lo hi=dg z lo hi:=by
 unfold Txt.slice dg;rw[Yl];have hp:=pick_run z.cps (HT.sIx z.length 0 lo) (HT.sIx z.length z.length hi-HT.sIx z.length 0 lo);split
 . rename_i h;have h2:(List.map (HT.sIx z.length 0 lo+·) (List.range (HT.sIx z.length z.length hi-HT.sIx z.length 0 lo))).length=z.length:=by simpa using h
   rw[aad,aaJ]at h2;have hh:HT.sIx z.length z.length hi<=z.length:=HT.sIx_le _ _ (aan _) hi;have hl0:HT.sIx z.length 0 lo<=z.length:=HT.sIx_le _ _ (aa6 _) lo;have hl:HT.sIx z.length 0 lo=0:=by omega
   rw[h2,hl,List.drop_zero,abt (by rw[aa5]; exact aan _)]
 . rw[hp]
def Zy:V->Option Int->Option Int->Hp->VK->Prop:=λx lo hi H Q=>∃z,x=.str z/\z.length<=sizeLine/\Q (.str (dg z lo hi)) H
section
variable {X:Cx}
theorem Ws:Gs X Zy:=by
 intro adG s U H x v vl vu lo hi sl Q I rx hs pl pu h;obtain⟨z,rfl,hz,q⟩:=h;obtain⟨t,rfl⟩:=rx;refine⟨"str",_,F.slot_str_getitem.lookup,typeIs_str _ _ _,?_⟩;have go:∀(l u:Option (Int×Tok)),vl=partValue l->vu=partValue u->l.map (·.1)=lo->u.map (·.1)=hi->wpAny (model X.prog X.w) X.A (getItem (.str z t) (.ref sl)) (EP X adG U Q) X.xe s:=λl u e1 e2 e3 e4=>by subst e1 e2 e3 e4;refine wpAny_getItem_str_slice (st:=none) hs rfl (post_val_or_str ⟨aaL (Txt.slice_le z _ _) hz,λt' k=>?_⟩);refine⟨.str (dg z (l.map (·.1)) (u.map (·.1))),H,I.tok _,⟨t',?_⟩,q⟩;rw[<-Nz];rfl
 cases pl with
 | none=>cases pu with
  | none=>exact go none none rfl rfl rfl rfl
  | int j tj=>exact go none (some (j,tj)) rfl rfl rfl rfl
 | int i ti=>cases pu with
  | none=>exact go (some (i,ti)) none rfl rfl rfl rfl
  | int j tj=>exact go (some (i,ti)) (some (j,tj)) rfl rfl rfl rfl
end
section
variable {X:Cx} {adG:List (Addr×Obj)} {U:St} {H:Hp} {s:Shared} {h':Heap}
theorem QT {h:Heap} (e:h.get? a=some o):o.isFreed=false:=by
 unfold Heap.get? at e;split at e
 . cases e
 . rename_i hne;obtain⟨c,d,dt,sl⟩:=o;cases dt<;>first | rfl | exact(hne _ _ _ e).elim
theorem Inv.turned2 (I:Inv X adG U H s) (hei:e≠it) (k:∀b o,b≠e->b≠it->s.heap.get? b=some o->h'.get? b=some o) (fe:lY X adG H e) (fi:lY X adG H it) (he:∃o,h'.get? e=some o) (hes:∃o,s.heap.get? e=some o):Inv X adG U H { s with heap:=h',toks:=t' }:=by
 obtain⟨o,ho⟩:=he;obtain⟨o0,ho0⟩:=hes;obtain⟨a0,a1,a2,a3,a4,a5⟩:=fe;obtain⟨b0,b1,b2,b3,b4,b5⟩:=fi;have I1:Inv X adG U H { s with heap:=s.heap.update e (λ_=>o),toks:=s.toks }:=I.turned (λb u hb q=>(abr s.heap (λ_=>o) (Ne.symm hb)).trans q) a0 a1 a3 a4 a5;refine Inv.turned (s:={ s with heap:=s.heap.update e (λ_=>o),toks:=s.toks }) I1 (λb u hb q=>?_) b0 b1 b3 b4 b5;by_cases hbe:b=e
 . subst hbe;have q':=q;rw[Heap.get?_update_self (λ_=>o) ho0 (QT ho)]at q';cases q';exact ho
 . have q':=q;rw[abr s.heap (λ_=>o) (Ne.symm hbe)]at q';exact k b u hbe hb q'
end
def Wt (K:FG) (a:Addr):It:=
 ⟨λi H=>∃xs x,cz K H a xs/\xs[i]?=some x,λi H x H'=>∃T y,H T=none/\x=.ref T/\H'=upd H T (.tup [.int i,y])/\∀xs,cz K H a xs->xs[i]?=some y,λi H=>∃xs,cz K H a xs/\xs.length<=i⟩
theorem NB {K:FG} {x1} (a e it:Addr) (hei:e≠it):Turn P w K (.Tuple elts x1 pos) (Wt K a) [e,it] e (λi h=>(∃old,IsEnum h e it i old)/\h.IsListIter it a i) where
 mem:=by simp
 obj:=λi h st b hb=>by
  obtain⟨⟨old,he⟩,hit⟩:=st;rcases aah.mp hb with rfl | hb
  . exact⟨_,he,λv z=>by have z':=z;cases z'⟩
  . have eb:b=it:=by simpa using hb
    subst eb;obtain⟨o,ho,c,d⟩:=hit;exact⟨o,ho,λv z=>by rw[d]at z; cases z⟩
 keep:=λi h h' st k=>by obtain⟨⟨old,he⟩,hit⟩:=st;exact⟨⟨old,k e (by simp) _ he⟩,hit.at λo q=>k it (by simp) o q⟩
 item:=by
  intro X hP hw hK hc i adG s U H E I hf st hg;subst hP hw hK;obtain⟨⟨old,he⟩,hit⟩:=st;obtain⟨xs,x,hq,hx⟩:=hg;obtain⟨its,rv,p,hz⟩:=I.list hq;obtain⟨u,hu,ru⟩:=rv.get hx;have fe:=hf e (by simp);have fi:=hf it (by simp);have helt:=aau he;have hilt:it<s.heap.objs.size:=by obtain⟨_,q,_⟩:=hit; exact aau q
  have hTn:=I.hok.fresh (aan _);refine wpAny_pyNext_enum_item he hit p.isList (by simpa using hu) hei λh1 ho hit' hT hsz hk=>?_;refine⟨_,rfl,wpAny_letOwnedTupleGo_enum ho λh2 he' hs'=>?_⟩;have ne1:=aa9 helt;have ne2:=aa9 hilt;have I1:Inv X adG U (upd H s.heap.objs.size (.tup [.int i,x])) { s with heap:=s.heap.push { cls:=.type "tuple",data:=.seq #[.int i s.toks,u] },toks:=s.toks+1 }:=by refine I.laid (λb o q=>aak _ q) (aan _) ⟨by simp only[aac]; rw[sizeLine_eq]; decide,[.int i s.toks,u],.cons ⟨_,rfl⟩ (.cons ru .nil),?_⟩;exact⟨_,aat s.heap rfl,rfl,0,rfl⟩
  have up:∀b,b≠s.heap.objs.size->H b=none->upd H s.heap.objs.size (.tup [.int i,x]) b=none:=λb hb q=>by rw[bO hb]; exact q
  have I2:Inv X adG U (upd H s.heap.objs.size (.tup [.int i,x])) { s with heap:=h2,toks:=s.toks+1 }:=by
   refine I1.turned2 hei (λb o hb1 hb2 q=>?_) ⟨up e ne1.symm fe.1,fe.2⟩ ⟨up it ne2.symm fi.1,fi.2⟩ ⟨_,he'⟩ ⟨_,aak _ he⟩;rw[hs'.2 b hb1];by_cases hbT:b=s.heap.objs.size
   . subst hbT;have q':=q;rw[aat s.heap rfl]at q';cases q';exact hT
   . refine hk b o hb1 hb2 ?_;have q':=q;rw[Heap.get?_push_ne s.heap b _ hbT]at q';exact q'
  refine⟨.ref s.heap.objs.size,_,I2,rfl,⟨s.heap.objs.size,x,hTn,rfl,rfl,λys hy=>by rw[I.list_inj hy hq]; exact hx⟩,⟨⟨u,by simpa using he'⟩,hit'.at λo y=>(hs'.2 it hei.symm).trans y⟩,λb hb=>?_⟩;rcases aah.mp hb with rfl | hb
  . exact up _ ne1.symm fe.1
  . have eb:b=it:=by simpa using hb
    subst eb;exact up _ ne2.symm fi.1
 done:=by intro X hP hw hK hc i adG s U H E I hf st hg;subst hP hw hK;obtain⟨⟨old,he⟩,hit⟩:=st;obtain⟨xs,hq,hx⟩:=hg;obtain⟨its,rv,p,hz⟩:=I.list hq;obtain⟨f0,f1,f2,f3,f4,f5⟩:=hf it (by simp);have hl:=rv.length;exact wpAny_pyNext_enum_end (I.ok.hd hc) he hit p.isList (Array.getElem?_eq_none (by simp; omega)) λh' eb=>⟨rfl,I.turned (λb o hb q=>eb b o hb q) f0 f1 f3 f4 f5⟩
 self:=λ_ _ _ _ _ st h=>by obtain⟨⟨old,he⟩,_⟩:=st;exact wpAny_pyIter_enum he h
section
variable {X:Cx}
def Ym (K:FG) (ta:TA):TI:=λU H R=>ta U H λvs H1=>∃a,vs=[.ref a]/\(∃xs,cz K H1 a xs)/\R (Wt K a) H1
theorem Ul {x1} (hg:Gl X "enumerate") (hm:X.mg "enumerate" = none) (ha:PA X [a] ta) (hs:starEach [a] X.env=[(false,eval a X.env)]:=by rfl):PI X (.Tuple elts x1 tpos) (.Call (.Name "enumerate" p) [a] [] pos) (Ym X.K ta):=by
 intro adG s U H R I h;refine Call_ (qT (u:=.type "enumerate") I hg hm (by kernel_rfl) (PyProof.Rows.callWith_type1 (cF (ha pos adG s U H _ I h) λus s1 ⟨vs,H1,I1,r1,q1⟩=>?_) hs rfl));obtain⟨b,e,⟨xs,hq⟩,q⟩:=q1;subst e;cases r1 with
 | cons r rr=>
  cases rr;cases r;obtain⟨its,rv,pl,hz⟩:=I1.list hq;refine call_enumerate_list pl.isList λh' he hit hsz hk=>?_;have I2:=I1.kept (t':=s1.toks) hk;refine wpAny_pyIter_enum he ?_;refine⟨s1.heap.objs.size+1,[s1.heap.objs.size+1,s1.heap.objs.size],_,_,H1,rfl,I2,NB b (s1.heap.objs.size+1) s1.heap.objs.size (Nat.succ_ne_self _),⟨⟨_,he⟩,hit⟩,λc hc=>?_,q⟩;have hc':s1.heap.objs.size<=c:=by
   rcases aah.mp hc with rfl | hc
   . exact abB _
   . have ec:c=s1.heap.objs.size:=by simpa using hc
     exact Nat.le_of_eq ec.symm
  exact I1.fpOk hc' (I1.hok.fresh hc')
def Yn:R2:=λx y H Q=>∃a v,x=.ref a/\Gz H a y (some v)/\Q v H
theorem Um (hu:X.A.units+1<cLine):yE X Yn:=by intro value slice adG s U H x y v u Q I rx ry h hs;obtain⟨a,z,rfl,g,q⟩:=h;cases rx;exact tail_any (Jm I g) F.slot_dict_getitem.lookup (Nt hu I g ry λw' s3 I3 rw'=>⟨z,H,I3,rw',q⟩) hs
def Lh:V->V->V->Hp->(Hp->Prop)->Prop:=λo i v H Q=>∃a H',o=.ref a/\Wl H a i v H'/\Q H'
theorem set_dict (hu:X.A.units+1<cLine):Qm X Lh:=by intro adG s U H o i v ov iv u Q I ro ri rv h;obtain⟨a,H',rfl,g,q⟩:=h;cases ro;exact Nv hu I g ri rv λs4 I4=>⟨H',I4,q⟩
def Z5 (t:TE):TE:=λU H Q=>t U H λv H1=>∃a kvs,v=.ref a/\H1 a=some (.dK kvs)/\∀o,Q v (upd H1 a (.frz o (.dK kvs)))
theorem Inv.fz {U:St} (I:Inv X adG U H s) (e:H a=some (.dK kvs)):∃o,Inv X adG U (upd H a (.frz o (.dK kvs))) s:=by obtain⟨z,hd,vs,r,ob,es,ep,h1,h2⟩:=I.hok a _ e;refine⟨ob,?_⟩;exact uo I (by rw[e]; exact True.intro) (Heap.SameBut.refl ..) ⟨ob,h1⟩ ⟨h1,z,hd,vs,r,ob,es,ep,h1,h2⟩
theorem Yo (h:PE X e t):PE X e (Z5 t):=λadG s U H Q I q=>cF (h adG s U H _ I q) λu s1 ⟨v,H1,I1,rv,a,kvs,ev,ea,k⟩=>by obtain⟨o,I2⟩:=I1.fz ea;exact⟨v,_,I2,rv,k o⟩
def Wu (a:Addr) (o:Obj) (kvs:List (Key×V)):It:=
 ⟨λi H=>H a=some (.frz o (.dK kvs))/\i<kvs.length,λi H x H'=>H'=H/\∃k,(kvs.map (·.1))[i]?=some k/\x=kV k,λi H=>H a=some (.frz o (.dK kvs))/\kvs.length<=i⟩
theorem Wv (h:(dD P w).is k u=true):RelV (kV k) u:=by
 rcases gf h with ⟨i,t,rfl,rfl⟩ | ⟨x,t,rfl,rfl⟩
 . exact⟨t,rfl⟩
 . exact⟨t,rfl⟩
theorem yX {U:St} (I:Inv X adG U H s) (e:H a=some (.frz o (.dK kvs))):
 (a==sysModules)=false/\∃vs ep es,KV kvs vs/\o.data=.dict es ep/\s.heap.DictAt (dD X.prog X.w) a vs ep:=by
 obtain⟨h1,z,hd,vs,r,ob,es,ep,h2,h3,h4,h5⟩:=I.hok a _ e;rw[h1]at h2;cases h2;exact⟨hd,vs,ep,es,r,h4,o,es,h1,h3,h4,h5⟩
theorem NK {K:FG} (a it:Addr) (o:Obj) (kvs:List (Key×V)) (ep:Nat) (he:∃es,o.data=.dict es ep):Turn P w K tg (Wu a o kvs) [it] it (λi h=>h.IsKeyIter it a i kvs.length ep) where
 mem:=by simp
 obj:=λi h st b hb=>by
  have e:b=it:=by simpa using hb
  subst e;obtain⟨o,e,c,d⟩:=st;exact⟨o,e,λv z=>by rw[d]at z; cases z⟩
 keep:=λi h h' st k=>by obtain⟨o,e,c,d⟩:=st;exact⟨o,k it (by simp) o e,c,d⟩
 item:=by
  intro X hP hw hK hc i adG s U H E I hf st hg;subst hP hw hK;obtain⟨hg,hi⟩:=hg;obtain⟨hd,vs,ep',es,r,hdat,dd⟩:=yX I hg;obtain⟨es0,he⟩:=he;rw[hdat]at he;cases he;have hl:=r.length;obtain⟨f0,f1,f2,f3,f4,f5⟩:=hf it (by simp);rw[hl]at st;have hx:vs[i]?=some (vs[i]'(by omega)):=aaj (by omega);refine wpAny_pyNext_dict_item st dd hx λkey h' hk st' sb=>?_;have I1:=I.turned (t':=s.toks) (λb o hb e=>(sb.2 b hb).trans e) f0 f1 f3 f4 f5;have ek:=r.keys;have e1:(kvs.map (·.1))[i]?=some (vs[i]'(by omega)).1:=by rw[ek,aay,hx]; rfl
  obtain⟨ob,e,c,d⟩:=id st';refine⟨key,rfl,zG e c d (by decide) ⟨kV (vs[i]'(by omega)).1,H,I1,Wv hk,⟨rfl,_,e1,rfl⟩,by rw[hl]; exact st',λb hb=>(hf b hb).1⟩⟩
 done:=by intro X hP hw hK hc i adG s U H E I hf st hg;subst hP hw hK;obtain⟨hg,hi⟩:=hg;obtain⟨hd,vs,ep',es,r,hdat,dd⟩:=yX I hg;obtain⟨es0,he⟩:=he;rw[hdat]at he;cases he;have hl:=r.length;obtain⟨f0,f1,f2,f3,f4,f5⟩:=hf it (by simp);rw[hl]at st;exact wpAny_pyNext_dict_end (I.ok.hd hc) st dd (abD (by omega)) λh' eb=>⟨rfl,I.turned (λb o hb e=>eb b o hb e) f0 f1 f3 f4 f5⟩
 self:=λ_ _ _ _ _ st h=>wpAny_pyIter_keyiter st h
def Yp (tl:TE):TI:=λU H R=>tl U H λx H1=>∃a o kvs,x=.ref a/\H1 a=some (.frz o (.dK kvs))/\R (Wu a o kvs) H1
theorem Uo (hl:PE X l tl):PI X tg l (Yp tl):=by
 intro adG s U H R I h;refine cF (hl adG s U H _ I h) λv s1 ⟨x,H1,I1,r1,q1⟩=>?_;obtain⟨a,o,kvs,e,hq,q⟩:=q1;subst e;cases r1;obtain⟨hd,vs,ep,es,r,hdat,dd⟩:=yX I1 hq;refine wpAny_pyIter_dict hd dd ?_;have hln:=r.length;refine⟨s1.heap.objs.size,[s1.heap.objs.size],_,_,H1,rfl,I1.kept λb o e=>aak _ e,NK a _ o kvs ep ⟨es,hdat⟩,⟨_,aat _ rfl,rfl,?_⟩,λb hb=>?_,q⟩
 . rw[hln]; rfl
 . have e:b=s1.heap.objs.size:=by simpa using hb
   subst e;exact I1.fpOk (aan _) (I1.hok.fresh (aan _))
end
section
variable {X:Cx} {adG:List (Addr×Obj)} {U:St} {H:Hp} {s:Shared} {h':Heap}
theorem Inv.turnedL {fp:List Addr} (I:Inv X adG U H s) (k:∀b o,b∉fp->s.heap.get? b=some o->h'.get? b=some o) (f:∀b∈fp,lY X adG H b):Inv X adG U H { s with heap:=h',toks:=t' }:=by
 have nit:∀b u,H b=some u->b∉fp:=λb u e z=>by rw[(f b z).1]at e; cases e
 refine I.step (λb hb=>⟨(f b hb).2.2.2.1,(f b hb).2.1,(f b hb).2.2.2.2.1,(f b hb).2.2.2.2.2⟩) (λb o _ _ hc e _=>k b o hc e) (λb o _ _ hc e _=>⟨o.slots,k b o hc e⟩) (λ_ _ _ _ n=>n)
  (λb o hc e=>⟨o,k b o hc e⟩) (λ_ _ e=>e) (λ_ _ _ e=>e) (λb ps e=>⟨#[],by rw[e]; simp⟩) (λm hm=>?_) (λb u e=>?_) I.bare
 . obtain⟨o,es,ep,ho,r⟩:=hm;exact⟨o,es,ep,k _ o (λz=>(f _ z).2.1 rfl) ho,r⟩
 . refine(I.hok b u e).stay (λc v hc q=>k c v ?_ q) (λ_ q=>q) λ_ _ q=>q;rcases hc with z | z
   . rw[z]; exact nit b u e
   . exact nit c _ z
end
theorem Inv.madeT {U:St} {fp:List Addr} (I:Inv X adG U H s) (hl:xs.length<=sizeLine) (rv:Vals xs us) (hf:∀c∈fp,lY X adG H c) (lt:∀c∈fp,∃o,s.heap.get? c=some o)
 (hT:g2.get? s.heap.objs.size=some { cls:=.type "tuple",data:=.seq us.toArray }) (k:∀c o,c∉fp->s.heap.get? c=some o->g2.get? c=some o):
 Inv X adG U (upd H s.heap.objs.size (.tup xs)) { s with heap:=g2,toks:=t' }/\∀c∈fp,upd H s.heap.objs.size (.tup xs) c=none:=by
 have up:∀c∈fp,upd H s.heap.objs.size (.tup xs) c=none:=λc hc=>by obtain⟨o,e⟩:=lt c hc;rw[bO (aaI (aau e))];exact(hf c hc).1
 have I1:Inv X adG U (upd H s.heap.objs.size (.tup xs)) { s with heap:=s.heap.push { cls:=.type "tuple",data:=.seq us.toArray },toks:=t' }:=
  I.laid (λb o q=>aak _ q) (aan _) ⟨hl,us,rv,⟨_,aat s.heap rfl,rfl,0,rfl⟩⟩
 refine⟨Inv.turnedL (s:={ s with heap:=s.heap.push { cls:=.type "tuple",data:=.seq us.toArray },toks:=t' }) I1 (λc o hc q=>?_) (λc hc=>⟨up c hc,(hf c hc).2⟩),up⟩;have q':=q;by_cases hbT:c=s.heap.objs.size
 . subst hbT;rw[aat s.heap rfl]at q';exact q'▸hT
 . rw[Heap.get?_push_ne s.heap c _ hbT]at q';exact k c o hc q'
theorem Ww {a b:V}:[a,b].length<=sizeLine:=by  exact Nat.le_of_ble_eq_true rfl
section
variable {X:Cx}
end
section
variable {prog:Program}
end
section
variable {prog:Program} {w:World} {A:Around} {R:Result->Shared->Prop} {I:Addr} {fp wr:List Addr} {G:Array GenState->Array GenState->Prop} {n:Nat} {P:Nat->Value->Prop} {St:Nat->Shared->Prop}
end
def byText (w:World):Bool:=w.params.followText "set-order"
abbrev set0 (w:World):Obj:={ cls:=.type "set",dict:=none,data:=.set #[] 0 (.fresh 0 0 (!byText w)),slots:=#[] }
section
variable {prog:Program}
theorem QV (hh:A.handled=none) (h:∀h' e,(∀b o,s.heap.get? b=some o->h'.get? b=some o)->(∃o,h'.get? e=some o/\o.cls=.type "StopIteration")->E (.ref e) { s with heap:=h' }):
 wpAny (model prog w) A (newExc (.type "StopIteration") [] >>= λe=>(raiseNew e:Sem α)) Q' E s:=by
 refine abQ ?_;refine abQ (wpAny_newObj_type (abQ (wpAny_of_eq (by first | rfl | (simp only[firstArgMember]; rfl)) (wpAny_newObj_type ?_ (by size_fits)))) (by size_fits));refine abQ (wpAny_handled ?_);rw[hh];exact abQ (abT (wpAny_throw (h _ _ (λb o q=>aak _ (aak _ q)) ⟨_,aat _ rfl,rfl⟩)))
end
section
variable {X:Cx} {adG:List (Addr×Obj)} {U:St} {H:Hp} {s:Shared}
end
section
variable {X:Cx}
end
section
variable {prog:Program}
theorem Li {Q:Value->Shared->Prop} (hd:(d==sysModules)=false) (hT:s.TypeIs (.ref d) "dict")
 (h:Q (.ref s.heap.objs.size) { s with heap:=s.heap.push { cls:=.type "dict_items",data:=.fields #[.ref d] } }):wpAny (model prog w) A (Builtin.«dict.items» ⟨[.ref d],[]⟩) (λfin s'=>∃v,fin=.done (.ret v)/\Q v s') E s:=by
 refine abQ ?_;refine abQ (wpAny_notOrdered_dict hT (abT (?_)));unfold Builtin.Dict.showsAll;rw[abS (by rw[hd]; simp)];exact abQ (abT (abQ (wpAny_newObj_type (abT ⟨_,rfl,h⟩))))
theorem Lj (hv:s.heap.IsItemsView v d) (ho:s.heap.get? d=some od) (hd:od.data=.dict es ep)
 (h:Q (.ref s.heap.objs.size) { s with heap:=s.heap.push { cls:=.type "dict_itemiterator",data:=.fields #[.none,.bool false,.ref d,.int 0 0,.int es.size 0,.int ep 0,.none,.none] } }):wpAny (model prog w) A (pyIter (.ref v)) Q E s:=by
 obtain⟨ov,q1,q2,q3⟩:=id hv;refine wpAny_pyIter_slot hv.typeIs F.slot_dict_items_iter (wpAny_call_entry F.slot_dict_items_iter hv.typeIs F.entry_dict_items_iter ?_ (F.args_dict_items_iter_1 _));refine abQ (abT (abQ ?_));refine abQ (wpAny_field q1 q3 rfl (abT (abQ ?_)));refine abQ (wpAny_dictEntries ho hd (abQ (wpAny_dictEpoch ho hd ?_)));simp only[show Builtin.Dict_items.ownsTuple "dict_itemiterator" = true from by decide,if_true];refine wpAny_newObj_type (abT ⟨_,rfl, "dict_itemiterator",_,⟨_,aat _ rfl,rfl⟩,F.slot_dict_itemiterator_next.lookup,?_⟩) (by simp only[sizeOk,Builtin.Dict_items.ownedTupleFields,aam,aaq,aac,aav,sizeLine_eq]; omega);simpa [rawInt,Builtin.Dict_items.ownedTupleFields] using h
theorem Lk (hit:IsItemIter s.heap it d i es.size ep ok ov) (ho:s.heap.get? d=some od) (hd:od.data=.dict es ep) (hlt:i<es.size)
 (hQ:∀h',IsItemIterOut h' it d (i+1) es.size ep es[i].key es[i].val s.heap.objs.size->h'.get? s.heap.objs.size=some { cls:=.type "tuple",data:=.seq #[es[i].key,es[i].val] }->h'.objs.size=s.heap.objs.size+1->(∀b o,b≠it->s.heap.get? b=some o->h'.get? b=some o)->Q (some (.ref s.heap.objs.size)) { s with heap:=h' }):
 wpAny (model prog w) A (pyNext (.ref it)) Q E s:=by
 have hT:s.TypeIs (.ref it) "dict_itemiterator" := ⟨_,hit,rfl⟩;have il:=aau hit;refine abQ (wpAny_attempt (wpAny_callSpecial?_slot hT F.slot_dict_itemiterator_next (wpAny_call_entry F.slot_dict_itemiterator_next hT F.entry_dict_itemiterator_next ?_ (F.args_dict_itemiterator_next_1 _))));refine abQ (abT (abQ (abQ ?_)))
 first | refine abQ (wpAny_typeNameOfWhole_itemiter hT (abT (abQ (wpAny_fieldsOf hit rfl ?_)))) | refine abQ (wpAny_typeNameOf_itemiter hT (abT (abQ (wpAny_fieldsOf hit rfl ?_))))
 refine(show wpAny _ _ (if (Value.ref d==Value.none)=true then _ else _) _ _ _ from ?_);refine abQ (abT (abQ (wpAny_dictEntries ho hd ?_)));rw[abS (by simp)];refine abQ (abT (abQ (wpAny_dictEpoch ho hd ?_)));rw[abS (by simp)];refine abT ?_;simp only[show ¬ ((i:Int)<0) from by omega,if_false,abA,Array.getElem?_eq_getElem hlt];refine abQ ?_
 first | refine abQ (wpAny_typeNameOfWhole_itemiter hT (abT (abQ (wpAny_isOneOf_itemiter hT ?_)))) | refine abQ (wpAny_typeNameOf_itemiter hT (abT (abQ (wpAny_isOneOf_itemiter hT ?_))))
 refine(show wpAny _ _ (setField (.ref it) 3 (rawInt ((i:Int)+1)) >>= _) _ _ s from abQ (wpAny_setField_rec hit (by simp) λg1 e1 b1=>?_));have e1':=e1;have T1:Shared.TypeIs { s with heap:=g1 } (.ref it) "dict_itemiterator" := ⟨_,e1',rfl⟩;refine abQ (wpAny_holding (abQ (wpAny_isOneOf_itemiter T1 (abQ (wpAny_isOneOf_itemiter T1 ?_)))));refine abQ (wpAny_newTuple ?_);have z1:=b1.1;have e2:IsItemIter (g1.push { cls:=.type "tuple",data:=.seq #[es[i].key,es[i].val] }) it d (i+1) es.size ep ok ov:=aak _ e1';have t2:(g1.push { cls:=.type "tuple",data:=.seq #[es[i].key,es[i].val] }).get? s.heap.objs.size=some { cls:=.type "tuple",data:=.seq #[es[i].key,es[i].val] }:=by rw[<-z1]; exact aat _ rfl
 have z2:(g1.push { cls:=.type "tuple",data:=.seq #[es[i].key,es[i].val] }).objs.size=s.heap.objs.size+1:=by rw[abk,z1]
 have k2:∀b o,b≠it->s.heap.get? b=some o->(g1.push { cls:=.type "tuple",data:=.seq #[es[i].key,es[i].val] }).get? b=some o:=λb o hb q=>aak _ (b1.extBut b o hb q);refine(?_);generalize g1.push { cls:=.type "tuple",data:=.seq #[es[i].key,es[i].val] }=g2 at e2 t2 z2 k2 ⊢;have n0:=aa9 il;refine abQ ?_;unfold Builtin.Dict_items.ownedTupleIsFree;refine abQ (wpAny_field e2 rfl rfl (abT ?_));simp only[if_true];refine abQ (wpAny_field e2 rfl rfl (abQ (wpAny_field e2 rfl rfl ?_)));refine abQ (wpAny_setField_rec e2 (by simp) λg3 e3 b3=>abQ (wpAny_setField_rec e3 (by simp) λg4 e4 b4=>abQ (wpAny_setField_rec e4 (by simp) λg5 e5 b5=>abQ (wpAny_setField_rec e5 (by simp) λg6 e6 b6=>?_))));rw[z1]at e6 ⊢;refine abQ (wpAny_letGo (abT (abT ⟨_,rfl,abT (hQ g6 e6 ?_ ?_ ?_)⟩)))
 . exact b6.extBut _ _ n0 (b5.extBut _ _ n0 (b4.extBut _ _ n0 (b3.extBut _ _ n0 t2)))
 . show g6.objs.size=_;rw[b6.1,b5.1,b4.1,b3.1];exact z2
 . exact λb o hb q=>b6.extBut b o hb (b5.extBut b o hb (b4.extBut b o hb (b3.extBut b o hb (k2 b o hb q))))
theorem NP {it d:Addr} {od:Obj} {es:Array DictEntry} {i ep:Nat} {ok ov:Value} {Q:Option Value->Shared->Prop} (hh:A.handled=none) (hit:IsItemIter s.heap it d i es.size ep ok ov) (ho:s.heap.get? d=some od) (hd:od.data=.dict es ep) (hge:es.size<=i)
 (hQ:∀h',Heap.ExtBut it s.heap h'->Q none { s with heap:=h' }):wpAny (model prog w) A (pyNext (.ref it)) Q E s:=by
 have hT:s.TypeIs (.ref it) "dict_itemiterator" := ⟨_,hit,rfl⟩;unfold pyNext;refine abQ (wpAny_attempt (wpAny_callSpecial?_slot (name:=Str.ofString "__next__") hT F.slot_dict_itemiterator_next (wpAny_call_entry F.slot_dict_itemiterator_next hT F.entry_dict_itemiterator_next ?_ (F.args_dict_itemiterator_next_1 _))));refine abQ (abT (abQ (abQ ?_)))
 first | refine abQ (wpAny_typeNameOfWhole_itemiter hT (abT (abQ (wpAny_fieldsOf hit rfl ?_)))) | refine abQ (wpAny_typeNameOf_itemiter hT (abT (abQ (wpAny_fieldsOf hit rfl ?_))))
 simp only[show Builtin.Dict_items.ownsTuple "dict_itemiterator" = true from by decide,if_true];refine(show wpAny _ _ (if (Value.ref d==Value.none)=true then _ else _) _ _ _ from ?_);rw[abS (show ¬ ((Value.ref d==Value.none)=true) from λq=>nomatch q)];refine abQ (abT (abQ (wpAny_dictEntries ho hd ?_)));rw[abS (by simp)];refine abQ (abT (abQ (wpAny_dictEpoch ho hd ?_)));rw[abS (by simp)];refine abT ?_;simp only[show ¬ ((i:Int)<0) from by omega,if_false,abA,Array.getElem?_eq_none hge];refine abQ ?_
 first | refine abQ (wpAny_typeNameOfWhole_itemiter hT (abT ?_)) | refine abQ (wpAny_typeNameOf_itemiter hT (abT ?_))
 refine(show wpAny _ _ (setField (.ref it) 2 .none >>= λ_=>newExc (.type "StopIteration") [] >>= λe=>raiseNew e) _ _ s from abQ (wpAny_setField_rec hit (by simp) λg1 q1 b1=>QV (s:={ s with heap:=g1 }) hh λg2 e k ⟨o,q,hc⟩=>?_));refine abQ (wpAny_isInstance (T := "StopIteration") (b:=true) (show Shared.TypeIs { s with heap:=g2 } (.ref e) "StopIteration" from ⟨o,q,hc⟩) isSubtype_stop (?_:wpAny _ _ _ _ _ _));exact abT (hQ _ λb o hb z=>k b o (b1.extBut b o hb z))
end
theorem DN {α β:Type} {F:α->β->Prop}:∀{l:List α} {m:List β},Paired F l m->∀(i:Nat) (h1:i<l.length) (h2:i<m.length),F l[i] m[i]
 | _,_,.nil,i,h1,h2=>absurd h1 (Nat.not_lt_zero _)
 | _,_,.cons a t,0,h1,h2=>a
 | _,_,.cons a t,i+1,h1,h2=>DN t i (by simpa using h1) (by simpa using h2)
theorem Up:entryFor table "dict_itemiterator.__iter__" = some Builtin.«dict_keyiterator.__iter__»:=entryFor_alias (id' := "dict_keyiterator.__iter__") (by kernel_rfl) (by first | rfl | decide +kernel | (unfold String.splitOn; simp +decide [String.splitOnAux])) (by decide +kernel) (by kernel_rfl)
theorem zV {prog:Program} {it d:Addr} {i n ep:Nat} {u v:Value} {Q:Value->Shared->Prop} (q:IsItemIter s.heap it d i n ep u v) (h:Q (.ref it) s):wpAny (model prog w) A (pyIter (.ref it)) Q E s:=by have hT:s.TypeIs (.ref it) "dict_itemiterator" := ⟨_,q,rfl⟩;refine wpAny_pyIter_slot hT F.slot_dict_itemiterator_iter (wpAny_call_entry F.slot_dict_itemiterator_iter hT Up ?_ (F.args_dict_itemiterator_iter_1 _));exact show wpAny _ _ (ret (.ref it)) _ _ s from abT ⟨_,rfl, "dict_itemiterator",_,hT,F.slot_dict_itemiterator_next.lookup,h⟩
def Wx (a:Addr) (o:Obj) (kvs:List (List Key×V)):It:=
 ⟨λi H=>H a=some (.frz o (.dT kvs))/\i<kvs.length,λi H x H'=>∃T kb kv,H T=none/\x=.ref T/\kvs[i]?=some kv/\H kb=some (.tup (kv.1.map kV))/\H'=upd H T (.tup [.ref kb,kv.2]),λi H=>H a=some (.frz o (.dT kvs))/\kvs.length<=i⟩
theorem zW {X:Cx} {U:St} {H:Hp} {a:Addr} {o:Obj} {kvs:List (List Key×V)} (I:Inv X adG U H s) (e:H a=some (.frz o (.dT kvs))):
 (a==sysModules)=false/\s.heap.get? a=some o/\o.cls=.type "dict" /\ ∃(es:Array DictEntry) (ep:Nat),o.data=.dict es ep/\es.size=kvs.length/\∀i (h:i<es.size),∃kb kv,kvs[i]?=some kv/\es[i].key=.ref kb/\H kb=some (.tup (kv.1.map kV))/\RelV kv.2 es[i].val:=by
 obtain⟨h1,z,hd,xs,pr,ob,es,ep,h2,h3,h4,h5,h6⟩:=I.hok a _ e;rw[h1]at h2;cases h2;have hl:es.size=xs.length:=by have:=congrArg List.length h5;simpa using this
 refine⟨hd,h1,h3.1,es,ep,h4,by rw[hl]; exact pr.length.symm,λi hi=>?_⟩;have hx:i<xs.length:=by omega
 have e1:es[i]=entryOfKey (tupleKind (dD X.prog X.w)) xs[i]:=by
  have q:es.toList[i]?=(xs.map (entryOfKey (tupleKind (dD X.prog X.w))))[i]?:=by rw[h5]
  rw[Array.getElem?_toList,Array.getElem?_eq_getElem hi,aay,aaj hx]at q;exact aap q
 have hk:i<kvs.length:=by have:=pr.length; omega
 obtain⟨q1,q2,q3⟩:=DN pr i hk hx;exact⟨xs[i].2.1,kvs[i],aaj hk,by rw[e1]; rfl,q2,by rw[e1]; exact q3⟩
theorem Ln {K:FG} {elts:List Expr} {x1} {pos:Pos} (a it:Addr) (o:Obj) (kvs:List (List Key×V)) (ep:Nat) (he:∃es,o.data=.dict es ep):Turn P w K (.Tuple elts x1 pos) (Wx a o kvs) [it] it (λi h=>∃u v,IsItemIter h it a i kvs.length ep u v) where
 mem:=by simp
 obj:=λi h st b hb=>by
  have e:b=it:=by simpa using hb
  subst e;obtain⟨u,v,q⟩:=st;exact⟨_,q,λv z=>by have z':Data.fields _=Data.cell v:=z;cases z'⟩
 keep:=λi h h' st k=>by obtain⟨u,v,q⟩:=st;exact⟨u,v,k it (by simp) _ q⟩
 item:=by
  intro X hP hw hK hc i adG s U H E I hf st hg;subst hP hw hK;refine yW λG kG=>?_;obtain⟨hg,hi⟩:=hg;obtain⟨u,v,q⟩:=st;obtain⟨hd,ho,hcl,es,ep',hdat,hsz,ent⟩:=zW I hg;obtain⟨es0,he⟩:=he;rw[hdat]at he;cases he;have hie:i<es.size:=by omega
  obtain⟨kb,kv,k1,k2,k3,k4⟩:=ent i hie;have il:it<s.heap.objs.size:=aau q;have hTn:H s.heap.objs.size=none:=I.hok.fresh (aan _);have n0:s.heap.objs.size≠it:=aa9 il;rw[<-hsz]at q;refine kG (Lk q ho hdat hie λg1 a1 a2 a3 a4=>⟨_,rfl,wpAny_letOwnedTupleGo_items a1 λg2 b1 b2=>?_⟩);obtain⟨I2,up⟩:=I.madeT (xs:=[.ref kb,kv.2]) (us:=[es[i].key,es[i].val]) (g2:=g2) (t':=s.toks) (fp:=[it]) Ww (.cons (by rw[k2]; exact rfl) (.cons k4 .nil)) hf (λc hc=>by rw[aaF.mp hc]; exact⟨_,q⟩) ((b2.2 _ n0).trans a2) λc o hc z=>by have hc':c≠it:=λe=>hc (aaF.mpr e);exact(b2.2 c hc').trans (a4 c o hc' z)
  exact⟨.ref s.heap.objs.size,_,I2,rfl,⟨s.heap.objs.size,kb,kv,hTn,rfl,k1,k3,rfl⟩,⟨_,_,by rw[<-hsz]; exact b1⟩,up⟩
 done:=by intro X hP hw hK hc i adG s U H E I hf st hg;subst hP hw hK;refine yW λG kG=>?_;obtain⟨hg,hi⟩:=hg;obtain⟨u,v,q⟩:=st;obtain⟨hd,ho,hcl,es,ep',hdat,hsz,ent⟩:=zW I hg;obtain⟨es0,he⟩:=he;rw[hdat]at he;cases he;rw[<-hsz]at q;refine kG (NP (I.ok.hd hc) q ho hdat (by omega) λg k=>⟨rfl,?_⟩);exact I.turnedL (h':=g) (t':=s.toks) (fp:=[it]) (λc o hc z=>k c o (λe=>hc (by simp[e])) z) hf
 self:=λ_ _ _ _ _ st h=>by obtain⟨u,v,q⟩:=st;exact zV q h
def Lp (v a:Addr):Heap->Prop:=λh=>h.IsItemsView v a
section
variable {X:Cx}
def Wy (tl:TE):TI:=λU H R=>tl U H λx H1=>∃v a o kvs,x=.ref v/\H1 v=some (.ext (Lp v a))/\H1 a=some (.frz o (.dT kvs))/\R (Wx a o kvs) H1
theorem QW {l:Expr} {tl:TE} {elts:List Expr} {x1} {tpos:Pos} (hl:PE X l tl):PI X (.Tuple elts x1 tpos) l (Wy tl):=by
 intro adG s U H R I h;refine cF (hl adG s U H _ I h) λv s1 ⟨x,H1,I1,r1,q1⟩=>?_;obtain⟨v,a,o,kvs,rfl,hv,hq,q⟩:=q1;cases r1;obtain⟨vw,_⟩:=I1.hok v _ hv;obtain⟨hd,ho,hcl,es,ep,hdat,hsz,ent⟩:=zW I1 hq;refine Lj vw ho hdat ?_;refine⟨s1.heap.objs.size,[s1.heap.objs.size],_,_,H1,rfl,I1.kept (t':=s1.toks) λb o e=>aak _ e,Ln a _ o kvs ep ⟨es,hdat⟩,⟨.none,.none,?_⟩,λb hb=>?_,q⟩
 . rw[<-hsz];exact aat _ rfl
 . have e:b=s1.heap.objs.size:=by simpa using hb
   subst e;exact I1.fpOk (aan _) (I1.hok.fresh (aan _))
def NQ:V->List V->Hp->VK->Prop:=λx vs H Q=>∃a o kvs,x=.ref a/\vs=[]/\H a=some (.frz o (.dT kvs))/\∀l,H l=none->Q (.ref l) (upd H l (.ext (Lp l a)))
theorem QX:JF X "dict.items" NQ:=by intro adG s U H x vs v us Q I rx rv h;obtain⟨a,o,kvs,rfl,rfl,hH,q⟩:=h;cases rx;have hus:=rv.zero;subst hus;obtain⟨hd,ho,hcl,es,ep,hdat,hsz,ent⟩:=zW I hH;have hT:s.TypeIs (.ref a) "dict" := ⟨o,ho,hcl⟩;refine wpAny_call_entry F.slot_dict_items hT F.entry_dict_items (Li hd hT ?_) (F.args_dict_items_1 _);exact⟨.ref s.heap.objs.size,_,I.laid (t':=s.toks) (λb o q=>aak _ q) (aan _) (show gj X.prog X.w _ _ _ (.ext (Lp s.heap.objs.size a)) from ⟨⟨_,aat _ rfl,rfl,rfl⟩,⟨_,aat _ rfl⟩,λh1 h2 ⟨o,q1,q2⟩ k=>⟨o,k _ q1,q2⟩⟩),rfl,q _ (I.hok.fresh (aan _))⟩
theorem zX {α β:Type} {F G:α->β->Prop} (h:∀a b,F a b->G a b):∀{l:List α} {m:List β},Paired F l m->Paired G l m
 | _,_,.nil=>.nil
 | _,_,.cons a t=>.cons (h _ _ a) (zX h t)
def Zz (t:TE):TE:=λU H Q=>t U H λv H1=>∃a kvs,v=.ref a/\H1 a=some (.dT kvs)/\∀o,Q v (upd H1 a (.frz o (.dT kvs)))
theorem Inv.fzT {U:St} {H:Hp} {a:Addr} {kvs:List (List Key×V)} (I:Inv X adG U H s) (e:H a=some (.dT kvs)):∃o,Inv X adG U (upd H a (.frz o (.dT kvs))) s:=by obtain⟨z,hd,xs,pr,ob,es,ep,h1,h2,h3,h4,h5⟩:=I.hok a _ e;refine⟨ob,?_⟩;refine uo (h':=s.heap) (t':=s.toks) (ob:=.frz ob (.dT kvs)) I (by rw[e]; exact True.intro) (Heap.SameBut.refl ..) ⟨ob,h1⟩ ⟨h1,z,hd,xs,?_,ob,es,ep,h1,h2,h3,h4,h5⟩;refine zX (λp q ⟨q1,q2,q3⟩=>⟨q1,?_,q3⟩) pr;rw[bO (λn=>by rw[n,e]at q2; cases q2)];exact q2
theorem Wz {e:Expr} {t:TE} (h:PE X e t):PE X e (Zz t):=λadG s U H Q I q=>cF (h adG s U H _ I q) λu s1 ⟨v,H1,I1,rv,a,kvs,ev,ea,k⟩=>by obtain⟨o,I2⟩:=I1.fzT ea;exact⟨v,_,I2,rv,k o⟩
theorem QZ {o:Expr} {to:TE} {apos cpos:Pos} (ho:PE X o to)
 (hbase:attributeBase o "items" X.env (eval o X.env)=eval o X.env:=by rfl) (hline:(apos.endLine==cpos.line)=true:=by rfl):PE X (.Call (.Attribute o "items" apos) [] [] cpos) (λU H Q=>to U H λx H1=>NQ x [] H1 Q):=by
 intro adG s U H Q I h;refine wpAny_Call_method0_late hbase hline (cF (ho adG s U H _ I h) λv s1 ⟨x,H1,I1,r1,q1⟩=>?_);have q1':=q1;obtain⟨a,ob,kvs,rfl,_,hH,_⟩:=q1;cases r1;have hz:∃o,s1.heap.get? a=some o/\o.ExactDict:=by obtain⟨h1,z,hd,xs,pr,ob',es,ep,h2,h3,h4,h5,h6⟩:=I1.hok a _ hH;exact⟨_,h2,h3⟩
 obtain⟨o2,e2,ex⟩:=hz;exact⟨"dict", "dict.items",F.plainAttrs_dict,F.slot_dict_items,F.type_dict_items,⟨o2,e2,ex.1⟩,λb e=>(by cases e; exact⟨o2,e2,ex.2.1⟩),Calls.callWith_builtin rfl (PySem.evalArgs_none (QX adG s1 U H1 (.ref a) [] (.ref a) [] Q I1 rfl .nil q1'))⟩
end
def WD (K:FG) (a:Addr) (n:Nat):It:=
 ⟨λi H=>i<n/\∃xs,cz K H a xs/\xs.length=n,λi H x H'=>H'=H/\∀xs,cz K H a xs->xs[n-1-i]?=some x,λi H=>i=n/\∃xs,cz K H a xs/\xs.length=n⟩
theorem Q0 {K:FG} {tg:Expr} (a it:Addr) (n:Nat):Turn P w K tg (WD K a n) [it] it (λi h=>h.IsRevIter it a ((n:Int)-1-i)) where
 mem:=by simp
 obj:=λi h st b hb=>by
  have e:b=it:=by simpa using hb
  subst e;obtain⟨o,e,c,d⟩:=st;exact⟨o,e,λv z=>by rw[d]at z; cases z⟩
 keep:=λi h h' st k=>st.at λo e=>k it (by simp) o e
 item:=by
  intro X hP hw hK hc i adG s U H E I hf st hg;subst hP hw hK;obtain⟨hi,xs,hq,hn⟩:=hg;obtain⟨its,rv,p,hz⟩:=I.list hq;obtain⟨f0,f1,f2,f3,f4,f5⟩:=hf it (by simp);have hx:xs[n-1-i]?=some (xs[n-1-i]'(by omega)):=aaj _;obtain⟨u,hu,ru⟩:=rv.get hx;have e1:(n:Int)-1-i=((n-1-i:Nat):Int):=by omega
  rw[e1]at st;refine wpAny_pyNext_rev_item st p.isList (x:=u) (by simpa using hu) λh' st' sb=>?_;have I1:Inv X adG U H { s with heap:=h' }:=I.turned (t':=s.toks) (λb o hb e=>(sb.2 b hb).trans e) f0 f1 f3 f4 f5;obtain⟨o,e,c,d⟩:=id st';have e2:((n-1-i:Nat):Int)-1=(n:Int)-1-((i+1:Nat):Int):=by omega
  rw[e2]at st';exact⟨u,rfl,zG (s:={ s with heap:=h' }) e c d (by decide) ⟨_,H,I1,ru,⟨rfl,λys hy=>by rw[I.list_inj hy hq]; exact hx⟩,st',λb hb=>(hf b hb).1⟩⟩
 done:=by
  intro X hP hw hK hc i adG s U H E I hf st hg;subst hP hw hK;obtain⟨rfl,xs,hq,hn⟩:=hg;obtain⟨f0,f1,f2,f3,f4,f5⟩:=hf it (by simp);have e1:(i:Int)-1-i=-1:=by omega
  rw[e1]at st;exact wpAny_pyNext_rev_end (I.ok.hd hc) st λh' eb=>⟨rfl,I.turned (t':=s.toks) (λb o hb e=>eb b o hb e) f0 f1 f3 f4 f5⟩
 self:=λ_ _ _ _ _ st h=>wpAny_pyIter_revIter st h
section
variable {X:Cx}
def ZC (K:FG) (ta:TA):TI:=λU H R=>ta U H λvs H1=>∃a xs,vs=[.ref a]/\cz K H1 a xs/\R (WD K a xs.length) H1
theorem WF {tg a:Expr} {ta:TA} {p pos:Pos} (hg:Gl X "reversed") (hm:X.mg "reversed" = none) (ha:PA X [a] ta) (hs:starEach [a] X.env=[(false,eval a X.env)]:=by rfl):PI X tg (.Call (.Name "reversed" p) [a] [] pos) (ZC X.K ta):=by
 intro adG s U H R I h;refine Call_ (qT (u:=.type "reversed") I hg hm (by kernel_rfl) (PyProof.Rows.callWith_type1 (cF (ha pos adG s U H _ I h) λus s1 ⟨vs,H1,I1,r1,q1⟩=>?_) hs rfl));obtain⟨b,xs,e,hq,q⟩:=q1;subst e;cases r1 with
 | cons r rr=>
  cases rr;cases r;obtain⟨its,rv,pl,hz⟩:=I1.list hq;have hl:=rv.length;refine call_reversed_list pl.isList ?_;have hit:(s1.heap.push (revObj b ((its.toArray.size:Int)-1))).IsRevIter s1.heap.objs.size b ((xs.length:Int)-1-((0:Nat):Int)):=by
   have e0:(xs.length:Int)-1-((0:Nat):Int)=(its.toArray.size:Int)-1:=by rw[hl]; simp
   rw[e0];exact⟨_,aat _ rfl,rfl,rfl⟩
  refine wpAny_pyIter_revIter hit ?_;refine⟨s1.heap.objs.size,[s1.heap.objs.size],_,_,H1,rfl,I1.kept (t':=s1.toks) λb o e=>aak _ e,Q0 b _ _,hit,λc hc=>?_,q⟩;have e:c=s1.heap.objs.size:=by simpa using hc
  subst e;exact I1.fpOk (aan _) (I1.hok.fresh (aan _))
end
section
variable {prog:Program}
end
section
variable {X:Cx} {adG:List (Addr×Obj)} {U:St} {H:Hp} {s:Shared}
end
section
variable {X:Cx}
end
def ZD:V->Option Str
 | .str z=>some z
 | .int i=>if i.natAbs.log2<1920 then some (toString i) else none
 | _=>none
theorem JL (c:Str):Str.empty++c=c:=by show (⟨#[]++c.cps⟩:Str)=c;rw[Array.empty_append]
def Z6 (c:Str) (t:TE):TE:=λU H Q=>t U H λv H'=>∃z,ZD v=some z/\(c++z).length<=sizeLine/\z.length<=sizeLine/\Q (.str (c++z)) H'
section
variable {X:Cx}
theorem Uq {c:Str} {j:Nat} {e:Expr} {p1 p2 p3:Pos} {t:TE} (hc:c.length<=sizeLine) (he:PE X e t):PE X (.JoinedStr [.Constant (.str c) j p1,.FormattedValue e (-1) none p2] p3) (Z6 c t):=λadG s U H Q I h=>by
 refine JoinedStr_many (joinParts_cons (Calls.Constant_str ⟨by rw[JL]; exact hc,?_⟩));rw[JL];refine joinParts_cons (FormattedValue_plain (wpAny_mono (he adG _ U H _ (I.tok _) h) (λu s1 q=>?_) λ_ _ x=>x));obtain⟨v,H',I1,rv,z,hz,hl,hl2,q⟩:=q;cases v with
 | str x=>
  cases hz;obtain⟨tk,rfl⟩:=rv;exact formatField_str (λt' tk=>⟨hl,joinParts_nilE (joinParts_nil ⟨.str (c++z),H',(I1.tok _).tok _,⟨_,rfl⟩,q⟩ hl)⟩) hl2
 | int i=>
  have hz':(if i.natAbs.log2<1920 then some (toString i) else none:Option Str)=some z:=hz;split at hz'
  . rename_i hi;cases hz';obtain⟨tk,rfl⟩:=rv;exact formatField_int_small hi ⟨hl,joinParts_nilE (joinParts_nil ⟨.str (c++toString i),H',((I1.tok _).tok _),⟨_,rfl⟩,q⟩ hl)⟩
  . cases hz'
 | _=>cases hz
end
abbrev wz:=Option Key
def YM:wz->V
 | none=>.non
 | some k=>kV k
section
variable {prog:Program}
end
abbrev XD:=List (List wz×Addr×V)
abbrev XV:=List (List wz×Addr×Value)
def XR:XD->XV->Prop:=Paired λx y=>x.1=y.1/\x.2.1=y.2.1/\RelV x.2.2 y.2.2
def YQ (hk:List wz->Int) (a:Addr) (xs:XD):Heap->Prop:=λh=>xs.length<=sizeLine/\(a==sysModules)=false/\∃ys:XV,XR xs ys/\(ys.map (·.1)).Nodup/\
 ∃o es ep,h.get? a=some o/\o.ExactDict/\o.data=.dict es ep/\es.toList=ys.map λy=>⟨hk y.1,.ref y.2.1,y.2.2⟩
section
variable {prog:Program} {w:World} {A:Around} {E:Value->Shared->Prop} {s:Shared} {K:Type} [DecidableEq K] {knd:HeapKind prog w K}
end
section
variable {X:Cx}
end
def WL (a c:Addr):Heap->Prop:=λh=>∃o,W.InstAt h a o c none
section
variable {M:Model} {A:Around} {E:Value->Shared->Prop} {s:Shared} {base:Heap} {env:Env} {outer:List Env} {L e:Addr} {G:Addr->Prop} {Q:Unit->Shared->Prop}
end
section
variable {X:Cx} {adG:List (Addr×Obj)} {U:St} {H:Hp} {s:Shared}
end
abbrev TJ:=St->Hp->(Hp->Prop)->Prop
section
variable {X:Cx} {es:List Expr} {n:Nat} {t:TJ}
end
section
variable {X:Cx}
end
section
variable {X:Cx} {adG:List (Addr×Obj)} {U:St} {H H':Hp} {s s':Shared} {e C:Addr}
end
section
variable {X:Cx} {adG:List (Addr×Obj)} {U:St} {H:Hp} {s:Shared} {e:Addr}
end
section
variable {X:Cx}
section
variable {adG:List (Addr×Obj)} {U:St} {E:XK} {k:Nat} {f C:Addr} {fd:FuncData} {ps:List Str} {sp:Sp} {x:Str} {p pos:Pos} {e:Expr} {es:List Expr} {t:TA} {te:TE}
end
end
end L2
namespace L2
open PySem PySem.Spec PyProof.Rows PySem.W
section
variable {prog:Program} {w:World} {A:Around} {E:Value->Shared->Prop} {s:Shared} {K:FG} {e C:Addr} {oe:Obj}
end
section
variable {X:Cx} {adG:List (Addr×Obj)} {U:St} {H H':Hp} {s s':Shared} {e C:Addr}
end
def Ends.un (i:Nat) (D:Ends):Ends:={ nx:=λU H=>D.nx (U.set i none) H,rt:=D.rt,bk:=λU H=>D.bk (U.set i none) H,ct:=λU H=>D.ct (U.set i none) H }
section
variable {X:Cx}
end
section
variable {X:Cx} {adG:List (Addr×Obj)} {U:St} {H:Hp} {s:Shared} {a b:Addr} {kvs more:List (Key×V)} {A:Around} {E:Value->Shared->Prop}
end
section
variable {X:Cx} {o e:Expr} {apos cpos:Pos} {td ty:TE}
end
section
variable {X:Cx}
end
section
variable {prog:Program}
end
section
variable {X:Cx}
end
end L2
namespace PL
open PySem PySem.Spec PyProof.Rows L2
inductive PV where
 | non
 | bl (b:Bool)
 | int (i:Int)
 | str (x:Str)
 | tup (ps:List PV)
 | lst (ps:List PV)
 | dk (ks:List Key) (ps:List PV)
 | dt (ks:List (List Key)) (ps:List PV)
 | obj (C:Str) (ks:List Str) (ps:List PV)
 | df (ks:List Key) (ps:List PV)
 | dtf (ks:List (List Key)) (ps:List PV)
 | dx (hk:List wz->Int) (ks:List (List wz)) (ps:List PV)
 | exc (C:Str)
 | fn (x:Str)
 | ptr (n:Nat)
structure ZG where
 z:Hp
 g:List Addr
def fY (Z Z':ZG):Prop:=dC Z.z Z'.z/\Z.g <+: Z'.g
theorem fY.refl (Z:ZG):fY Z Z:=⟨dC.refl _,aaY _⟩
theorem fY.trans {Z Z1 Z2:ZG} (a:fY Z Z1) (b:fY Z1 Z2):fY Z Z2:=⟨a.1.trans b.1,a.2.trans b.2⟩
theorem Ur {α:Type} {l r:List α} {n:Nat} {a:α} (h:l <+: r) (e:l[n]?=some a):r[n]?=some a:=by obtain⟨t,rfl⟩:=h;rw[abw (aal.mp e).1]; exact e
def CN (K:FG) (C:Str) (c:Addr):Prop:=W.nsIn K mainGlobals C=some (some (.ref c))
mutual
def Rep (K:FG) (Z:ZG):PV->V->Prop
 | .non,v=>v=.non
 | .bl b,v=>v=.bl b
 | .int i,v=>v=.int i
 | .str x,v=>v=.str x
 | .tup ps,v=>∃a vs,v=.ref a/\fj K Z.z a vs/\aQ K Z ps vs
 | .lst ps,v=>∃a vs,v=.ref a/\cz K Z.z a vs/\aQ K Z ps vs
 | .dk ks ps,v=>∃a kvs,v=.ref a/\Z.z a=some (.dK kvs)/\kvs.map (·.1)=ks/\aQ K Z ps (kvs.map (·.2))
 | .dt ks ps,v=>∃a kvs,v=.ref a/\Z.z a=some (.dT kvs)/\kvs.map (·.1)=ks/\aQ K Z ps (kvs.map (·.2))
 | .obj C ks ps,v=>∃a c dx fs,v=.ref a/\CN K C c/\Z.z a=some (.ins c dx fs)/\fs.map (·.1)=ks/\aQ K Z ps (fs.map (·.2))
 | .df ks ps,v=>∃a o kvs,v=.ref a/\Z.z a=some (.frz o (.dK kvs))/\kvs.map (·.1)=ks/\aQ K Z ps (kvs.map (·.2))
 | .dtf ks ps,v=>∃a o kvs,v=.ref a/\Z.z a=some (.frz o (.dT kvs))/\kvs.map (·.1)=ks/\aQ K Z ps (kvs.map (·.2))
 | .dx hk ks ps,v=>∃a xs,v=.ref a/\Z.z a=some (.ext (YQ hk a xs))/\xs.map (·.1)=ks/\(∀x∈xs,fj K Z.z x.2.1 (x.1.map YM))/\aQ K Z ps (xs.map (·.2.2))
 | .exc C,v=>∃a c,v=.ref a/\CN K C c/\Z.z a=some (.ext (WL a c))
 | .fn x,v=>∃a,v=.ref a/\CN K x a
 | .ptr n,v=>∃a,v=.ref a/\Z.g[n]?=some a
def aQ (K:FG) (Z:ZG):List PV->List V->Prop
 | [],vs=>vs=[]
 | p::ps,vs=>∃v r,vs=v::r/\Rep K Z p v/\aQ K Z ps r
end
theorem cz.same {K:FG} {Z Z':Hp} {a:Addr} {vs:List V} (s:dC Z Z') (h:cz K Z a vs):cz K Z' a vs:=s.seq h
theorem fj.same {K:FG} {Z Z':Hp} {a:Addr} {vs:List V} (s:dC Z Z') (h:fj K Z a vs):fj K Z' a vs:=by
 rcases h with (h | ⟨o,h⟩) | h
 . exact .inl (.inl (s _ _ h))
 . exact .inl (.inr ⟨o,s _ _ h⟩)
 . exact .inr h
mutual
theorem Rep.mono {K:FG} {Z Z':ZG} (s:fY Z Z'):∀{p:PV} {v:V},Rep K Z p v->Rep K Z' p v
 | .non,v,h=>h
 | .bl _,v,h=>h
 | .int _,v,h=>h
 | .str _,v,h=>h
 | .tup ps,v,h=>by unfold Rep at h ⊢;obtain⟨a,vs,e,h1,h2⟩:=h;exact⟨a,vs,e,fj.same s.1 h1,aQ.mono s h2⟩
 | .lst ps,v,h=>by unfold Rep at h ⊢;obtain⟨a,vs,e,h1,h2⟩:=h;exact⟨a,vs,e,cz.same s.1 h1,aQ.mono s h2⟩
 | .dk ks ps,v,h=>by unfold Rep at h ⊢;obtain⟨a,kvs,e,h1,h2,h3⟩:=h;exact⟨a,kvs,e,s.1 _ _ h1,h2,aQ.mono s h3⟩
 | .dt ks ps,v,h=>by unfold Rep at h ⊢;obtain⟨a,kvs,e,h1,h2,h3⟩:=h;exact⟨a,kvs,e,s.1 _ _ h1,h2,aQ.mono s h3⟩
 | .obj C ks ps,v,h=>by unfold Rep at h ⊢;obtain⟨a,c,dx,fs,e,cn,h1,h2,h3⟩:=h;exact⟨a,c,dx,fs,e,cn,s.1 _ _ h1,h2,aQ.mono s h3⟩
 | .df ks ps,v,h=>by unfold Rep at h ⊢;obtain⟨a,o,kvs,e,h1,h2,h3⟩:=h;exact⟨a,o,kvs,e,s.1 _ _ h1,h2,aQ.mono s h3⟩
 | .dtf ks ps,v,h=>by unfold Rep at h ⊢;obtain⟨a,o,kvs,e,h1,h2,h3⟩:=h;exact⟨a,o,kvs,e,s.1 _ _ h1,h2,aQ.mono s h3⟩
 | .dx hk ks ps,v,h=>by unfold Rep at h ⊢;obtain⟨a,xs,e,h1,h2,h4,h3⟩:=h;exact⟨a,xs,e,s.1 _ _ h1,h2,λx hx=>fj.same s.1 (h4 x hx),aQ.mono s h3⟩
 | .exc C,v,h=>by unfold Rep at h ⊢;obtain⟨a,c,e,cn,h1⟩:=h;exact⟨a,c,e,cn,s.1 _ _ h1⟩
 | .fn x,v,h=>by unfold Rep at h ⊢; exact h
 | .ptr n,v,h=>by unfold Rep at h ⊢;obtain⟨a,e,h1⟩:=h;exact⟨a,e,Ur s.2 h1⟩
theorem aQ.mono {K:FG} {Z Z':ZG} (s:fY Z Z'):∀{ps:List PV} {vs:List V},aQ K Z ps vs->aQ K Z' ps vs
 | [],vs,h=>by unfold aQ at h ⊢; exact h
 | p::ps,vs,h=>by unfold aQ at h ⊢;obtain⟨v,r,e,h1,h2⟩:=h;exact⟨v,r,e,Rep.mono s h1,aQ.mono s h2⟩
end
section
variable {K:FG} {Z:ZG}
theorem aQ.length:∀{ps:List PV} {vs:List V},aQ K Z ps vs->vs.length=ps.length
 | [],vs,h=>by unfold aQ at h; subst h; rfl
 | p::ps,vs,h=>by unfold aQ at h;obtain⟨v,r,rfl,_,h2⟩:=h;simp[aQ.length h2]
theorem aQ.nil:aQ K Z [] []:=by unfold aQ; rfl
theorem aQ.cons {p:PV} {ps:List PV} {v:V} {vs:List V} (h:Rep K Z p v) (t:aQ K Z ps vs):aQ K Z (p::ps) (v::vs):=by unfold aQ; exact⟨v,vs,rfl,h,t⟩
theorem aQ.inv {p:PV} {ps:List PV} {vs:List V} (h:aQ K Z (p::ps) vs):∃v r,vs=v::r/\Rep K Z p v/\aQ K Z ps r:=by unfold aQ at h; exact h
theorem aQ.inv0 {vs:List V} (h:aQ K Z [] vs):vs=[]:=by unfold aQ at h; exact h
theorem aQ.append:∀{ps qs:List PV} {vs ws:List V},aQ K Z ps vs->aQ K Z qs ws->aQ K Z (ps++qs) (vs++ws)
 | [],qs,vs,ws,h,g=>by have:=h.inv0; subst this; exact g
 | p::ps,qs,vs,ws,h,g=>by obtain⟨v,r,rfl,h1,h2⟩:=h.inv;exact aQ.cons h1 (aQ.append h2 g)
theorem aQ.get:∀{ps:List PV} {vs:List V} {i:Nat} {p:PV},aQ K Z ps vs->ps[i]?=some p->∃v,vs[i]?=some v/\Rep K Z p v
 | [],vs,i,p,h,e=>by simp at e
 | q::ps,vs,0,p,h,e=>by obtain⟨v,r,rfl,h1,h2⟩:=h.inv;simp at e; subst e;exact⟨v,rfl,h1⟩
 | q::ps,vs,i+1,p,h,e=>by obtain⟨v,r,rfl,h1,h2⟩:=h.inv;obtain⟨u,h3,h4⟩:=aQ.get (i:=i) (p:=p) h2 (by simpa using e);exact⟨u,by simpa using h3,h4⟩
theorem aQ.getV {ps:List PV} {vs:List V} {i:Nat} {v:V} (h:aQ K Z ps vs) (e:vs[i]?=some v):∃p,ps[i]?=some p/\Rep K Z p v:=by
 have hi:i<ps.length:=by rw[<-h.length]; exact(aal.mp e).1
 obtain⟨u,h1,h2⟩:=h.get (i:=i) (p:=ps[i]) (aaj hi);rw[e]at h1; cases h1;exact⟨_,aaj hi,h2⟩
theorem aQ.set {q:PV} {u:V} (hq:Rep K Z q u):∀{ps:List PV} {vs:List V} (i:Nat),aQ K Z ps vs->aQ K Z (ps.set i q) (vs.set i u)
 | [],vs,i,h=>by have:=h.inv0; subst this; exact h
 | p::ps,vs,0,h=>by obtain⟨v,r,rfl,h1,h2⟩:=h.inv;exact aQ.cons hq h2
 | p::ps,vs,i+1,h=>by obtain⟨v,r,rfl,h1,h2⟩:=h.inv;exact aQ.cons h1 (aQ.set hq i h2)
theorem aQ.take:∀{ps:List PV} {vs:List V} (n:Nat),aQ K Z ps vs->aQ K Z (ps.take n) (vs.take n)
 | [],vs,n,h=>by have:=h.inv0; subst this; simp; exact .nil
 | p::ps,vs,0,h=>by simp; exact .nil
 | p::ps,vs,n+1,h=>by obtain⟨v,r,rfl,h1,h2⟩:=h.inv;exact aQ.cons h1 (aQ.take n h2)
theorem aQ.drop:∀{ps:List PV} {vs:List V} (n:Nat),aQ K Z ps vs->aQ K Z (ps.drop n) (vs.drop n)
 | [],vs,n,h=>by have:=h.inv0; subst this; simp; exact .nil
 | p::ps,vs,0,h=>h
 | p::ps,vs,n+1,h=>by obtain⟨v,r,rfl,h1,h2⟩:=h.inv;exact aQ.drop n h2
end
inductive Lc where
 | sh (p:PV)
 | own (p:PV)
def Lc.pv:Lc->PV
 | .sh p=>p
 | .own p=>p
abbrev Mu:=List (Option PV)
structure Ev where
 vs:List (Option Lc)
 mu:Mu
abbrev Pd:=List (V×Lc)
def oR (K:FG) (Z:ZG) (H:Hp) (a:Addr):PV->Prop
 | .lst ps=>∃vs,H a=some (.lst vs)/\aQ K Z ps vs
 | .dk ks ps=>∃kvs,H a=some (.dK kvs)/\kvs.map (·.1)=ks/\aQ K Z ps (kvs.map (·.2))
 | .dt ks ps=>∃kvs,H a=some (.dT kvs)/\kvs.map (·.1)=ks/\aQ K Z ps (kvs.map (·.2))
 | .dx hk ks ps=>∃xs,H a=some (.ext (YQ hk a xs))/\xs.map (·.1)=ks/\(∀x∈xs,fj K Z.z x.2.1 (x.1.map YM))/\aQ K Z ps (xs.map (·.2.2))
 | .exc C=>∃c,CN K C c/\H a=some (.ext (WL a c))
 | .obj C ks ps=>∃c dx fs,CN K C c/\H a=some (.ins c dx fs)/\fs.map (·.1)=ks/\aQ K Z ps (fs.map (·.2))
 | _=>False
def VR (K:FG) (H0:Hp) (Z:ZG) (H:Hp) (v:Option V):Option Lc->Prop
 | none=>True
 | some (.sh p)=>∃x,v=some x/\Rep K Z p x
 | some (.own p)=>∃a,v=some (.ref a)/\oR K Z H a p/\Z.z a=none/\H0 a=none
def jK:Option V×Option Lc->Option Addr
 | (some (.ref a),some (.own _))=>some a
 | _=>none
abbrev Sl:=List (Option V×Option Lc)
def Slots (K:FG) (H0:Hp) (Z:ZG) (H:Hp) (L:Sl):Prop:=(∀e∈L,VR K H0 Z H e.1 e.2)/\(L.filterMap jK).Nodup
def cel (g:List Addr) (mu:Mu):Sl:=(g.map λa=>some (V.ref a)).zip (mu.map λo=>o.map Lc.own)
def qZ (g:List Addr) (mu:Mu):List Addr:=(cel g mu).filterMap jK
def sl (g:List Addr) (U:L2.St) (Y:Ev) (pd:Pd):Sl:=cel g Y.mu++(U.zip Y.vs++pd.map λe=>(some e.1,some e.2))
def Fv:HO->Prop
 | .tup _=>True
 | .frz _ _=>True
 | _=>False
structure jf (H0:Hp) (Z0 Z:ZG) (H:Hp):Prop where
 zh:dC Z.z H
 h0:dC H0 H
 z0:fY Z0 Z
 new:∀b o,Z.z b=some o->Z0.z b=some o\/H0 b=none\/Fv o
def SR (K:FG) (H0:Hp) (Z0:ZG) (U:L2.St) (H:Hp) (Y:Ev) (pd:Pd):Prop:=U.length=Y.vs.length/\∃Z,Y.mu.length=Z.g.length/\jf H0 Z0 Z H/\Slots K H0 Z H (sl Z.g U Y pd)
section
variable {K:FG} {H0 H H':Hp} {Z0 Z Z':ZG} {L L':Sl} {U:L2.St} {Y:Ev} {pd:Pd}
theorem Slots.sub (h:Slots K H0 Z H L) (s:List.Sublist L' L):Slots K H0 Z H L':=⟨λe he=>h.1 e (s.subset he),h.2.sublist (s.filterMap jK)⟩
theorem Slots.perm (h:Slots K H0 Z H L) (s:List.Perm L' L):Slots K H0 Z H L':=⟨λe he=>h.1 e (s.subset he),(s.filterMap jK).nodup_iff.mpr h.2⟩
theorem oR.keep {a:Addr} {p:PV} (h:oR K Z H a p) (z:fY Z Z') (e:H' a=H a):oR K Z' H' a p:=by
 cases p with
 | lst ps=>obtain⟨vs,h1,h2⟩:=h; exact⟨vs,by rw[e]; exact h1,h2.mono z⟩
 | dk ks ps=>obtain⟨vs,h1,h2,h3⟩:=h; exact⟨vs,by rw[e]; exact h1,h2,h3.mono z⟩
 | dt ks ps=>obtain⟨vs,h1,h2,h3⟩:=h; exact⟨vs,by rw[e]; exact h1,h2,h3.mono z⟩
 | dx hk ks ps=>obtain⟨vs,h1,h2,h4,h3⟩:=h; exact⟨vs,by rw[e]; exact h1,h2,λx hx=>fj.same z.1 (h4 x hx),h3.mono z⟩
 | exc C=>obtain⟨c,cn,h1⟩:=h; exact⟨c,cn,by rw[e]; exact h1⟩
 | obj C ks ps=>obtain⟨c,dx,fs,cn,h1,h2,h3⟩:=h; exact⟨c,dx,fs,cn,by rw[e]; exact h1,h2,h3.mono z⟩
 | _=>exact h
theorem oR.some {a:Addr} {p:PV} (h:oR K Z H a p):∃o,H a=some o/\¬ Fv o:=by
 cases p with
 | lst ps=>obtain⟨vs,h1,h2⟩:=h; exact⟨_,h1,λz=>z⟩
 | dk ks ps=>obtain⟨vs,h1,h2,h3⟩:=h; exact⟨_,h1,λz=>z⟩
 | dt ks ps=>obtain⟨vs,h1,h2,h3⟩:=h; exact⟨_,h1,λz=>z⟩
 | dx hk ks ps=>obtain⟨vs,h1,h2,h3⟩:=h; exact⟨_,h1,λz=>z⟩
 | exc C=>obtain⟨c,cn,h1⟩:=h; exact⟨_,h1,λz=>z⟩
 | obj C ks ps=>obtain⟨c,dx,fs,cn,h1,h2,h3⟩:=h; exact⟨_,h1,λz=>z⟩
 | _=>exact h.elim
theorem oR.rep {a:Addr} {p:PV} (h:oR K Z H a p) (z:fY Z Z') (e:Z'.z a=H a):Rep K Z' p (.ref a):=by
 cases p with
 | lst ps=>obtain⟨vs,h1,h2⟩:=h; unfold Rep; exact⟨a,vs,rfl,cz.of (by rw[e]; exact h1),h2.mono z⟩
 | dk ks ps=>obtain⟨vs,h1,h2,h3⟩:=h; unfold Rep; exact⟨a,vs,rfl,by rw[e]; exact h1,h2,h3.mono z⟩
 | dt ks ps=>obtain⟨vs,h1,h2,h3⟩:=h; unfold Rep; exact⟨a,vs,rfl,by rw[e]; exact h1,h2,h3.mono z⟩
 | dx hk ks ps=>obtain⟨vs,h1,h2,h4,h3⟩:=h; unfold Rep; exact⟨a,vs,rfl,by rw[e]; exact h1,h2,λx hx=>fj.same z.1 (h4 x hx),h3.mono z⟩
 | exc C=>obtain⟨c,cn,h1⟩:=h; unfold Rep; exact⟨a,c,rfl,cn,by rw[e]; exact h1⟩
 | obj C ks ps=>obtain⟨c,dx,fs,cn,h1,h2,h3⟩:=h; unfold Rep; exact⟨a,c,dx,fs,rfl,cn,by rw[e]; exact h1,h2,h3.mono z⟩
 | _=>exact h.elim
theorem Slots.step (h:Slots K H0 Z H L) (z:fY Z Z') (hk:∀e∈L,∀a,jK e=some a->H' a=H a/\Z'.z a=none):Slots K H0 Z' H' L:=by
 refine⟨λe he=>?_,h.2⟩;have q:=h.1 e he;obtain⟨v,l⟩:=e;cases l with
 | none=>trivial
 | some l=>
  cases l with
  | sh p=>obtain⟨x,e1,e2⟩:=q; exact⟨x,e1,e2.mono z⟩
  | own p=>
   obtain⟨a,e1,e2,e3,e4⟩:=q;have e1':v=some (.ref a):=e1;subst e1';obtain⟨k1,k2⟩:=hk _ he a rfl;exact⟨a,rfl,e2.keep z k1,k2,e4⟩
theorem gK (h:Slots K H0 Z H L) {e:Option V×Option Lc} (he:e∈L) {a:Addr} (ha:jK e=some a):Z.z a=none/\H0 a=none/\∃o,H a=some o/\¬ Fv o:=by
 obtain⟨v,l⟩:=e;have q:=h.1 _ he;cases l with
 | none=>cases v with
  | none=>cases ha
  | some x=>cases x<;>cases ha
 | some l=>
  cases l with
  | sh p=>cases v with
   | none=>cases ha
   | some x=>cases x<;>cases ha
  | own p=>
   obtain⟨b,e1,e2,e3,e4⟩:=q;have e1':v=some (.ref b):=e1;subst e1';cases ha;exact⟨e3,e4,e2.some⟩
theorem Slots.new (h:Slots K H0 Z H L) (zo:jf H0 Z0 Z H) {a:Addr} {o:HO} {p:PV} (ha:H a=none) (hp:oR K Z (upd H a o) a p):jf H0 Z0 Z (upd H a o)/\Slots K H0 Z (upd H a o) ((some (.ref a),some (.own p))::L):=by
 have hz:Z.z a=none:=zo.zh.free ha;have h0:H0 a=none:=zo.h0.free ha;refine⟨⟨λb u e=>by rw[bO (cO e hz)]; exact zo.zh b u e,λb u e=>by rw[bO (cO e h0)]; exact zo.h0 b u e,zo.z0,zo.new⟩,?_⟩;have hne:∀e∈L,∀b,jK e=some b->b≠a:=λe he b hb=>by obtain⟨_,_,o',h3,_⟩:=gK h he hb;exact cO h3 ha
 have st:=h.step (Z':=Z) (H':=upd H a o) (fY.refl Z) λe he b hb=>⟨bO (hne e he b hb),(gK h he hb).1⟩;refine⟨λe he=>?_,?_⟩
 . rcases aah.mp he with rfl | he
   . exact⟨a,rfl,hp,hz,h0⟩
   . exact st.1 e he
 . show (a::L.filterMap jK).Nodup;refine aaS.mpr ⟨λhm=>?_,st.2⟩;obtain⟨e,he,hb⟩:=aaN.mp hm;exact hne e he a hb rfl
abbrev ZG.put (Z:ZG) (a:Addr) (o:HO):ZG:=⟨upd Z.z a o,Z.g⟩
theorem Slots.newF (h:Slots K H0 Z H L) (zo:jf H0 Z0 Z H) {a:Addr} {o:HO} (ha:H a=none):jf H0 Z0 (Z.put a o) (upd H a o)/\fY Z (Z.put a o)/\Slots K H0 (Z.put a o) (upd H a o) L:=by
 have hz:Z.z a=none:=zo.zh.free ha;have h0:H0 a=none:=zo.h0.free ha;have sz:dC Z.z (upd Z.z a o):=λb u e=>by rw[bO (cO e hz)]; exact e
 have lz:fY Z (Z.put a o):=⟨sz,aaY _⟩;refine⟨⟨λb u e=>?_,λb u e=>by rw[bO (cO e h0)]; exact zo.h0 b u e,zo.z0.trans lz,λb u e=>?_⟩,lz,?_⟩
 . have e:upd Z.z a o b=some u:=e;unfold upd at e ⊢;split
   . rename_i q; rw[abR q]at e; exact e
   . rename_i q; rw[abS q]at e; exact zo.zh b u e
 . have e:upd Z.z a o b=some u:=e;unfold upd at e;split at e
   . rename_i q; rw[q]; exact .inr (.inl h0)
   . exact zo.new b u e
 . refine h.step lz λe he b hb=>?_;obtain⟨h1,h2,o',h3,_⟩:=gK h he hb;have hba:=cO h3 ha;exact⟨bO hba,by show upd Z.z a o b=none; rw[bO hba]; exact h1⟩
theorem Slots.freeze {v:Option V} {p:PV} (h:Slots K H0 Z H ((v,some (.own p))::L)) (zo:jf H0 Z0 Z H):∃Z',fY Z Z'/\Z'.g=Z.g/\jf H0 Z0 Z' H/\Slots K H0 Z' H ((v,some (.sh p))::L):=by
 obtain⟨a,e1,e2,e3,e4⟩:=h.1 _ aab;have e1':v=some (.ref a):=e1;subst e1';obtain⟨o,ho,_⟩:=e2.some;have sz:dC Z.z (upd Z.z a o):=λb u e=>by rw[bO (cO e e3)]; exact e
 have lz:fY Z (Z.put a o):=⟨sz,aaY _⟩;have nd:(a::L.filterMap jK).Nodup:=h.2;have hL:Slots K H0 Z H L:=h.sub (aas _ _);refine⟨Z.put a o,lz,rfl,⟨λb u e=>?_,zo.h0,zo.z0.trans lz,λb u e=>?_⟩,λe he=>?_,(aaS.mp nd).2⟩
 . have e:upd Z.z a o b=some u:=e;unfold upd at e;split at e
   . rename_i q; cases e; rw[q]; exact ho
   . exact zo.zh b u e
 . have e:upd Z.z a o b=some u:=e;unfold upd at e;split at e
   . rename_i q; rw[q]; exact .inr (.inl e4)
   . exact zo.new b u e
 . rcases aah.mp he with rfl | he
   . exact⟨.ref a,rfl,e2.rep lz (by show upd Z.z a o a=_; rw[cg,ho])⟩
   . refine(hL.step (Z':=Z.put a o) (H':=H) lz λe' he' b hb=>⟨rfl,?_⟩).1 e he;have:b≠a:=λq=>by rw[q]at hb;exact(aaS.mp nd).1 (aaN.mpr ⟨e',he',hb⟩)
     show upd Z.z a o b=none;rw[bO this];exact(gK hL he' hb).1
theorem Slots.write {a:Addr} {p q:PV} {o:HO} (h:Slots K H0 Z H ((some (.ref a),some (.own p))::L)) (zo:jf H0 Z0 Z H) (hq:oR K Z (upd H a o) a q):jf H0 Z0 Z (upd H a o)/\Slots K H0 Z (upd H a o) ((some (.ref a),some (.own q))::L):=by
 obtain⟨b,e1,e2,e3,e4⟩:=h.1 _ aab;cases e1;have nd:(a::L.filterMap jK).Nodup:=h.2;have hL:Slots K H0 Z H L:=h.sub (aas _ _);refine⟨⟨λb u e=>by rw[bO (cO e e3)]; exact zo.zh b u e,λb u e=>by rw[bO (cO e e4)]; exact zo.h0 b u e,zo.z0,zo.new⟩,λe he=>?_,nd⟩;rcases aah.mp he with rfl | he
 . exact⟨a,rfl,hq,e3,e4⟩
 . refine(hL.step (Z':=Z) (H':=upd H a o) (fY.refl Z) λe' he' b hb=>⟨bO λq=>?_,(gK hL he' hb).1⟩).1 e he;rw[q]at hb;exact(aaS.mp nd).1 (aaN.mpr ⟨e',he',hb⟩)
end
variable {K:FG} {H0 H:Hp} {Z0:ZG} {U:L2.St} {Y:Ev} {pd:Pd}
theorem wA {α:Type}:∀{l:List α} {i:Nat} {a:α},l[i]?=some a->∃R,List.Perm l (a::R)/\∀b,List.Perm (l.set i b) (b::R)
 | [],i,a,h=>by simp at h
 | x::r,0,a,h=>by simp at h; subst h;exact⟨r,List.Perm.refl _,λb=>List.Perm.refl _⟩
 | x::r,i+1,a,h=>by obtain⟨R,h1,h2⟩:=wA (l:=r) (i:=i) (a:=a) (by simpa using h);refine⟨x::R,(h1.cons x).trans (List.Perm.swap _ _ _),λb=>?_⟩;simp only[List.set_cons_succ];exact((h2 b).cons x).trans (List.Perm.swap _ _ _)
theorem Cj {α β:Type}:∀(l:List α) (r:List β) (i:Nat) (a:α) (b:β),(l.set i a).zip (r.set i b)=(l.zip r).set i (a,b)
 | [],r,i,a,b=>by simp
 | x::l,[],i,a,b=>by simp
 | x::l,y::r,0,a,b=>by simp
 | x::l,y::r,i+1,a,b=>by simp[Cj l r i a b]
theorem zip_get {α β:Type}:∀{l:List α} {r:List β} {i:Nat} {a:α} {b:β},l[i]?=some a->r[i]?=some b->(l.zip r)[i]?=some (a,b)
 | [],r,i,a,b,h,g=>by simp at h
 | x::l,[],i,a,b,h,g=>by simp at g
 | x::l,y::r,0,a,b,h,g=>by simp at h g; simp[h,g]
 | x::l,y::r,i+1,a,b,h,g=>by have:=zip_get (l:=l) (r:=r) (i:=i) (by simpa using h) (by simpa using g);simpa using this
theorem ab0 {α:Type}:∀{l:List α} {i:Nat} {a:α},l[i]?=some a->l.set i a=l
 | [],i,a,h=>by simp at h
 | x::r,0,a,h=>by simp at h; subst h; simp
 | x::r,i+1,a,h=>by simp[ab0 (l:=r) (i:=i) (a:=a) (by simpa using h)]
def Ev.set (Y:Ev) (i:Nat) (x:Option Lc):Ev:=⟨Y.vs.set i x,Y.mu⟩
section
variable {K:FG} {H0 H H':Hp} {Z0 Z:ZG} {U:L2.St} {Y:Ev} {pd pd':Pd} {v w:V} {l:Lc} {p:PV} {L:Sl} {g:List Addr}
theorem dR:List.Perm (sl g U Y ((v,l)::pd)) ((some v,some l)::sl g U Y pd):=by unfold sl;exact(List.perm_middle.append_left _).trans aaZ
theorem SR.top (h:SR K H0 Z0 U H Y ((v,l)::pd)):U.length=Y.vs.length/\∃Z,Y.mu.length=Z.g.length/\jf H0 Z0 Z H/\Slots K H0 Z H ((some v,some l)::sl Z.g U Y pd):=
 let ⟨e,Z,hg,z,s⟩:=h
 ⟨e,Z,hg,z,s.perm dR.symm⟩
theorem SR.mk (e:U.length=Y.vs.length) (hg:Y.mu.length=Z.g.length) (z:jf H0 Z0 Z H) (s:Slots K H0 Z H ((some v,some l)::sl Z.g U Y pd)):SR K H0 Z0 U H Y ((v,l)::pd):=⟨e,Z,hg,z,s.perm dR⟩
theorem SR.pop (h:SR K H0 Z0 U H Y ((v,l)::pd)):SR K H0 Z0 U H Y pd:=
 let ⟨e,Z,hg,z,s⟩:=h.top
 ⟨e,Z,hg,z,s.sub (aas _ _)⟩
theorem SR.perm (h:SR K H0 Z0 U H Y pd) (q:List.Perm pd' pd):SR K H0 Z0 U H Y pd':=
 let ⟨e,Z,hg,z,s⟩:=h
 ⟨e,Z,hg,z,s.perm (((q.map _).append_left _).append_left _)⟩
theorem SR.swap {l2:Lc} (h:SR K H0 Z0 U H Y ((v,l)::(w,l2)::pd)):SR K H0 Z0 U H Y ((w,l2)::(v,l)::pd):=h.perm (List.Perm.swap _ _ _)
theorem SR.freeze (h:SR K H0 Z0 U H Y ((v,l)::pd)):SR K H0 Z0 U H Y ((v,.sh l.pv)::pd):=by
 cases l with
 | sh p=>exact h
 | own p=>
  obtain⟨e,Z,hg,z,s⟩:=h.top;obtain⟨Z',_,eg,z',s'⟩:=s.freeze z;refine .mk (Z:=Z') e (by rw[eg]; exact hg) z' ?_;rw[eg]; exact s'
theorem SR.sh (h:SR K H0 Z0 U H Y ((v,.sh p)::pd)):U.length=Y.vs.length/\∃Z,Y.mu.length=Z.g.length/\jf H0 Z0 Z H/\Rep K Z p v/\Slots K H0 Z H (sl Z.g U Y pd):=by obtain⟨e,Z,hg,z,s⟩:=h.top;obtain⟨x,e1,e2⟩:=s.1 _ aab;cases e1;exact⟨e,Z,hg,z,e2,s.sub (aas _ _)⟩
theorem SR.rep (h:SR K H0 Z0 U H Y ((v,.sh p)::pd)):∃Z:ZG,dC Z.z H/\Rep K Z p v:=let ⟨_,Z,_,z,r,_⟩:=h.sh; ⟨Z,z.zh,r⟩
theorem SR.repH (h:SR K H0 Z0 U H Y ((v,.sh p)::pd)):∃g,Rep K ⟨H,g⟩ p v:=let ⟨_,Z,_,z,r,_⟩:=h.sh; ⟨Z.g,r.mono (Z':=⟨H,Z.g⟩) ⟨z.zh,aaY _⟩⟩
theorem Slots.consS (s:Slots K H0 Z H L) (r:Rep K Z p v):Slots K H0 Z H ((some v,some (.sh p))::L):=by
 refine⟨λe he=>?_,?_⟩
 . rcases aah.mp he with rfl | he
   . exact⟨v,rfl,r⟩
   . exact s.1 e he
 . have:jK (some v,some (Lc.sh p))=none:=by cases v<;>rfl
   rw[aaP this];exact s.2
theorem SR.scal (h:SR K H0 Z0 U H Y pd) (r:∀Z,Rep K Z p v):SR K H0 Z0 U H Y ((v,.sh p)::pd):=
 let ⟨e,Z,hg,z,s⟩:=h
 .mk e hg z (s.consS (r Z))
theorem GJ {i:Nat} {o:Option Lc} (el:U.length=Y.vs.length) (e:Y.vs[i]?=some o):∃R:Sl,∃x,U[i]?=some x/\(∀g pd,List.Perm (sl g U Y pd) ((x,o)::(cel g Y.mu++(R++pd.map λe=>(some e.1,some e.2)))))/\
 ∀g pd y o',List.Perm (sl g (U.set i y) (Y.set i o') pd) ((y,o')::(cel g Y.mu++(R++pd.map λe=>(some e.1,some e.2)))):=by
 have hi:i<U.length:=by rw[el]; exact(aal.mp e).1
 have hU:U[i]?=some U[i]:=aaj hi;obtain⟨R,h1,h2⟩:=wA (zip_get hU e);refine⟨R,U[i],hU,λg pd=>?_,λg pd y o'=>?_⟩
 . unfold sl;exact((h1.append_right _).append_left _).trans aaZ
 . unfold sl;show List.Perm (cel g Y.mu++((U.set i y).zip (Y.vs.set i o')++_)) _;rw[Cj];exact(((h2 _).append_right _).append_left _).trans aaZ
theorem Ev.set_mu {i:Nat} {x:Option Lc}:(Y.set i x).mu=Y.mu:=rfl
theorem Ev.set_len {i:Nat} {x:Option Lc}:(Y.set i x).vs.length=Y.vs.length:=by show (Y.vs.set i x).length=_; rw[abG]
theorem SR.var {i:Nat} (h:SR K H0 Z0 U H Y pd) (e:Y.vs[i]?=some (some l)):∃v,U[i]?=some (some v)/\SR K H0 Z0 U H (Y.set i (some (.sh l.pv))) ((v,.sh l.pv)::pd):=by
 obtain⟨el,Z,hg,z,s⟩:=h;obtain⟨R,x,hU,h1,h2⟩:=GJ el e;have s1:=s.perm (h1 Z.g pd).symm;have el':U.length=(Y.set i (some (.sh l.pv))).vs.length:=by rw[Ev.set_len]; exact el
 have fin:∀{Z':ZG} {v:V},Z'.g=Z.g->jf H0 Z0 Z' H->x=some v->Slots K H0 Z' H ((x,some (.sh l.pv))::(cel Z.g Y.mu++(R++pd.map λe=>(some e.1,some e.2))))->Rep K Z' l.pv v->SR K H0 Z0 U H (Y.set i (some (.sh l.pv))) ((v,.sh l.pv)::pd):=
  λ{Z' v} eg z ev s2 r=>by have p2:=h2 Z.g pd x (some (.sh l.pv));rw[ab0 hU]at p2;refine .mk (Z:=Z') el' (by rw[eg,Ev.set_mu]; exact hg) z ?_;rw[eg];exact(s2.perm p2).consS r
 cases l with
 | sh p=>
  obtain⟨v,e1,e2⟩:=s1.1 _ aab;exact⟨v,hU.trans (congrArg some e1),fin rfl z e1 s1 e2⟩
 | own p=>
  obtain⟨Z',sz,eg,z',s'⟩:=s1.freeze z;obtain⟨v,e1,e2⟩:=s'.1 _ aab;exact⟨v,hU.trans (congrArg some e1),fin eg z' e1 s' e2⟩
theorem SR.store {i:Nat} (h:SR K H0 Z0 U H Y ((v,l)::pd)) (hi:i<Y.vs.length):SR K H0 Z0 (U.set i (some v)) H (Y.set i (some l)) pd:=by obtain⟨el,Z,hg,z,s⟩:=h.top;have hY:Y.vs[i]?=some Y.vs[i]:=aaj hi;obtain⟨R,x,hU,h1,h2⟩:=GJ el hY;refine⟨by rw[abG,Ev.set_len]; exact el,Z,hg,z,?_⟩;refine(Slots.sub (L:=(some v,some l)::((x,Y.vs[i])::(cel Z.g Y.mu++(R++pd.map λe=>(some e.1,some e.2))))) (s.perm ((h1 Z.g pd).symm.cons _)) ?_).perm (h2 Z.g pd (some v) (some l));exact(aas _ _).cons_cons _
theorem SR.take {i:Nat} (h:SR K H0 Z0 U H Y pd) (e:Y.vs[i]?=some (some l)):∃v,U[i]?=some (some v)/\SR K H0 Z0 U H (Y.set i none) ((v,l)::pd):=by
 obtain⟨el,Z,hg,z,s⟩:=h;obtain⟨R,x,hU,h1,h2⟩:=GJ el e;have s1:=s.perm (h1 Z.g pd).symm;obtain⟨v,hv⟩:∃v,x=some v:=by
  have q:=s1.1 _ aab;cases l with
  | sh p=>obtain⟨x,e1,_⟩:=q; exact⟨x,e1⟩
  | own p=>obtain⟨a,e1,_⟩:=q; exact⟨_,e1⟩
 subst hv;refine⟨v,hU,.mk (Z:=Z) (by rw[Ev.set_len]; exact el) hg z ?_⟩;have p2:=h2 Z.g pd (some v) none;rw[ab0 hU]at p2;refine Slots.perm ?_ (p2.cons _);have ht:Slots K H0 Z H ((some v,none)::(some v,some l)::(cel Z.g Y.mu++(R++pd.map λe=>(some e.1,some e.2)))):=by
  refine⟨λe he=>?_,?_⟩
  . rcases aah.mp he with rfl | he
    . trivial
    . exact s1.1 e he
  . have:jK (some v,none)=none:=by cases v<;>rfl
    rw[aaP this];exact s1.2
 exact ht.perm (List.Perm.swap _ _ _)
theorem SR.put {i:Nat} (h:SR K H0 Z0 U H Y ((v,l)::pd)) (e:U[i]?=some (some v)):SR K H0 Z0 U H (Y.set i (some l)) pd:=by
 have hi:i<Y.vs.length:=by rw[<-h.1]; exact(aal.mp e).1
 have:=h.store hi;rw[ab0 e]at this;exact this
end
abbrev EF:=Ev->Option (Lc×Ev)
abbrev TF:=Ev->Option (Bool×Ev)
abbrev AF:=Ev->Option (List Lc×Ev)
inductive Fl where
 | nx (Y:Ev)
 | rt (r:Lc) (Y:Ev)
 | bk (Y:Ev)
 | ct (Y:Ev)
abbrev SF:=Ev->Option Fl
def tP (K:FG) (f:EF):TE:=λU H Q=>∃H0 Z0 Y pd r Y',SR K H0 Z0 U H Y pd/\f Y=some (r,Y')/\∀v H',SR K H0 Z0 U H' Y' ((v,r)::pd)->Q v H'
def gM (K:FG) (f:TF):TT:=λU H Q=>∃H0 Z0 Y pd b Y',SR K H0 Z0 U H Y pd/\f Y=some (b,Y')/\∀H',SR K H0 Z0 U H' Y' pd->Q b H'
def iU (K:FG) (f:AF):TA:=λU H Q=>∃H0 Z0 Y pd ls Y',SR K H0 Z0 U H Y pd/\f Y=some (ls,Y')/\∀vs H',vs.length=ls.length->SR K H0 Z0 U H' Y' (vs.zip ls++pd)->Q vs H'
def GK (K:FG) (H0:Hp) (Z0:ZG) (pd:Pd) (D:Ends):Fl->Prop
 | .nx Y'=>∀U' H',SR K H0 Z0 U' H' Y' pd->D.nx U' H'
 | .rt r Y'=>∀v U' H',SR K H0 Z0 U' H' Y' ((v,r)::pd)->D.rt v H'
 | .bk Y'=>∀U' H',SR K H0 Z0 U' H' Y' pd->D.bk U' H'
 | .ct Y'=>∀U' H',SR K H0 Z0 U' H' Y' pd->D.ct U' H'
def fC (K:FG) (g:SF):TS:=λD U H=>∃H0 Z0 Y pd fl,SR K H0 Z0 U H Y pd/\g Y=some fl/\GK K H0 Z0 pd D fl
section
variable {X:Cx} {e:Expr} {es:List Expr} {st:Stmt} {sts:List Stmt}
theorem PE.imp {t t':TE} (h:PE X e t) (i:∀U H Q,t' U H Q->t U H Q):PE X e t':=λadG s U H Q I q=>h adG s U H Q I (i U H Q q)
theorem PT.imp {t t':TT} (h:PT X e t) (i:∀U H Q,t' U H Q->t U H Q):PT X e t':=λadG s U H Q I q=>h adG s U H Q I (i U H Q q)
theorem PW.imp {t t':TT} (h:PW X e t) (i:∀U H Q,t' U H Q->t U H Q):PW X e t':=λwh adG s U H Q I q=>h wh adG s U H Q I (i U H Q q)
theorem PA.imp (h:PA X es t) (i:∀U H Q,t' U H Q->t U H Q):PA X es t':=λpos adG s U H Q I q=>h pos adG s U H Q I (i U H Q q)
theorem PS.imp (h:PS X st t) (i:∀D U H,t' D U H->t D U H):PS X st t':=λadG s U H D I q=>h adG s U H D I (i D U H q)
theorem iu.imp (h:iu X sts t) (i:∀D U H,t' D U H->t D U H):iu X sts t':=λadG s U H D I q=>h adG s U H D I (i D U H q)
def aa (i:Nat):EF:=λY=>match Y.vs[i]? with
 | some (some l)=>some (.sh l.pv,Y.set i (some (.sh l.pv)))
 | _=>none
def eC (p:PV):EF:=λY=>some (.sh p,Y)
abbrev adE (i:Int):=eC (.int i)
abbrev adF (s:Str):=eC (.str s)
theorem qv (h:PE X e (oJ i)):PE X e (tP X.K (aa i)):=PE.imp h λU H Q q=>by
 obtain⟨H0,Z0,Y,pd,r,Y',s,f,k⟩:=q;unfold aa at f;split at f
 . rename_i l e1;cases f;obtain⟨v,h1,h2⟩:=s.var e1;exact⟨v,h1,k v H h2⟩
 . cases f
theorem qc (h:PE X e (tC v)) (r:∀Z,Rep X.K Z p v):PE X e (tP X.K (eC p)):=PE.imp h λU H Q q=>by obtain⟨H0,Z0,Y,pd,l,Y',s,f,k⟩:=q;cases f;exact k v H (s.scal r)
theorem eN:∀Z,Rep K Z (.int i) (.int i):=λZ=>by unfold Rep; rfl
theorem j9:∀Z,Rep K Z (.str i) (.str i):=λZ=>by unfold Rep; rfl
theorem dX:∀Z,Rep K Z (.bl i) (.bl i):=λZ=>by unfold Rep; rfl
theorem qK:∀Z,Rep K Z .non .non:=λZ=>by unfold Rep; rfl
def jg (K:FG) (r:R2) (g:PV->PV->Option Lc):Prop:=∀H0 Z0 U Y pd H v w x y l Q,SR K H0 Z0 U H Y ((w,.sh y)::(v,.sh x)::pd)->g x y=some l->(∀u H',SR K H0 Z0 U H' Y ((u,l)::pd)->Q u H')->r v w H Q
def aC (g:PV->PV->Option Lc) (fa fb:EF):EF:=λY=>(fa Y).bind λx=>(fb x.2).bind λy=>(g x.1.pv y.1.pv).map λl=>(l,y.2)
theorem Q3 (h:aC g fa fb Y=some (l,Y')):∃x Y1 y,fa Y=some (x,Y1)/\fb Y1=some (y,Y')/\g x.pv y.pv=some l:=by
 unfold aC at h;cases h1:fa Y with
 | none=>rw[h1]at h; cases h
 | some x=>
  rw[h1,aaa]at h;cases h2:fb x.2 with
  | none=>rw[h2]at h; cases h
  | some y=>
   rw[h2,aaa]at h;cases h3:g x.1.pv y.1.pv with
   | none=>rw[h3]at h; cases h
   | some z=>
    rw[h3]at h;cases h;exact⟨x.1,x.2,y.1,rfl,h2,h3⟩
theorem GP (hs:jg X.K r g):∀U H Q,tP X.K (aC g fa fb) U H Q->M9 r (tP X.K fa) (tP X.K fb) U H Q:=λU H Q q=>by obtain⟨H0,Z0,Y,pd,l,Y',s,f,k⟩:=q;obtain⟨x,Y1,y,h1,h2,h3⟩:=Q3 f;refine⟨H0,Z0,Y,pd,x,Y1,s,h1,λv H1 s1=>⟨H0,Z0,Y1,_,y,Y',s1,h2,λw H2 s2=>?_⟩⟩;exact hs H0 Z0 U Y' pd H2 v w x.pv y.pv l Q (s2.freeze.swap.freeze.swap) h3 λu H' s3=>k u H' s3
theorem bY {op:Operator} {a b:Expr} {pos:Pos} {r:R2} {g:PV->PV->Option Lc} {fa fb:EF} (ho:fP X (binaryOp op) r) (hs:jg X.K r g) (ha:PE X a (tP X.K fa)) (hb:PE X b (tP X.K fb)):PE X (.BinOp a op b pos) (tP X.K (aC g fa fb)):=
 PE.imp (Ye ho ha hb) (GP hs)
theorem WM (ho:fP X (compareOp op) r) (hs:jg X.K r g) (ha:PE X a (tP X.K fa)) (hb:PE X b (tP X.K fb)) (hm:behindInMarks op b=false):PE X (.Compare a [op] [b] pos) (tP X.K (aC g fa fb)):=
 PE.imp (T3 ho ha hb hm) (GP hs)
def vJ (C:Int->Int->Bool) (g:Int->Int->PV):PV->PV->Option Lc
 | .int i,.int j=>if C i j=true then some (.sh (g i j)) else none
 | _,_=>none
theorem GQ (h:vJ C g x y=some l):∃i j,x=.int i/\y=.int j/\C i j=true/\l=.sh (g i j):=by
 cases x with
 | int i=>
  cases y with
  | int j=>
   have h':(if C i j=true then some (Lc.sh (g i j)) else none)=some l:=h;split at h'
   . rename_i c; cases h'; exact⟨i,j,rfl,rfl,c,rfl⟩
   . cases h'
  | _=>cases h
 | _=>cases h
theorem bR (h:Rep K Z (.int i) v):v=.int i:=by  exact h
theorem cY (h:Rep K Z (.str i) v):v=.str i:=by  exact h
theorem fM (h:Rep K Z (.bl i) v):v=.bl i:=by  exact h
theorem iw (h:Rep K Z .non v):v=.non:=by  exact h
theorem Fw (hc:∀i j,C i j=true->C' i j) (hg:∀i j Z,Rep K Z (g i j) (gV i j)):jg K (rI C' gV) (vJ C g):=by intro H0 Z0 U Y pd H v w x y l Q s e k;obtain⟨i,j,rfl,rfl,c,rfl⟩:=GQ e;obtain⟨_,rw'⟩:=s.repH;obtain⟨_,rv'⟩:=s.pop.repH;have hw:=bR rw';have hv:=bR rv';exact⟨i,j,hv,hw,hc i j c,k _ H (s.pop.pop.scal (hg i j))⟩
theorem zY (hg:∀i j Z,Rep K Z (g i j) (gV i j)):jg K (ug gV) (vJ (λ_ _=>true) g):=by intro H0 Z0 U Y pd H v w x y l Q s e k;obtain⟨i,j,rfl,rfl,c,rfl⟩:=GQ e;obtain⟨_,rw'⟩:=s.repH;obtain⟨_,rv'⟩:=s.pop.repH;exact⟨i,j,bR rv',bR rw',k _ H (s.pop.pop.scal (hg i j))⟩
end
section
variable {X:Cx}
section
variable {K:FG} {H0 H H':Hp} {Z0 Z:ZG} {U:L2.St} {Y:Ev} {pd pd':Pd} {v w:V} {l:Lc} {p:PV} {g:List Addr}
theorem SR.newO (h:SR K H0 Z0 U H Y pd) (ha:H a=none) (hp:∀Z,jf H0 Z0 Z H->Slots K H0 Z H (sl Z.g U Y pd)->oR K Z (upd H a o) a p):SR K H0 Z0 U (upd H a o) Y ((.ref a,.own p)::pd):=by obtain⟨e,Z,hg,z,s⟩:=h;obtain⟨z',s'⟩:=s.new z ha (hp Z z s);exact .mk e hg z' s'
theorem Fx {α:Type} (A B C:List α):List.Perm (A++(B++C)) (B++(A++C)):=by rw[<-aaC A B C,<-aaC B A C];exact List.perm_append_comm.append_right _
theorem GR:List.Perm (sl g U Y (pe++pd)) (pe.map (λe=>((some e.1:Option V),(some e.2:Option Lc)))++sl g U Y pd):=by unfold sl;rw[aaz];exact((Fx _ _ _).append_left _).trans (Fx _ _ _)
theorem SR.freezeAll:∀{vs:List V} {ls:List Lc} {pd:Pd},SR K H0 Z0 U H Y (vs.zip ls++pd)->SR K H0 Z0 U H Y (vs.zip (ls.map λl=>.sh l.pv)++pd)
 | [],ls,pd,h=>by simpa using h
 | v::vs,[],pd,h=>by simpa using h
 | v::vs,l::ls,pd,h=>by have h1:=h;have h2:=h1.freeze.perm aaZ;have h3:=SR.freezeAll h2;exact h3.perm aaZ.symm
theorem Slots.repl:∀{vs:List V} {ps:List PV},vs.length=ps.length->Slots K H0 Z H ((vs.zip (ps.map λp=>Lc.sh p)).map (λe=>(some e.1,some e.2))++L)->aQ K Z ps vs
 | [],[],_,_=>.nil
 | v::vs,p::ps,e,h=>by have h1:=h;obtain⟨x,e1,e2⟩:=h1.1 _ aab;cases e1;exact aQ.cons e2 (Slots.repl (by simpa using e) (h1.sub (aas _ _)))
 | [],p::ps,e,_=>by simp at e
 | v::vs,[],e,_=>by simp at e
theorem SR.repl {vs:List V} {ls:List Lc} (h:SR K H0 Z0 U H Y (vs.zip ls++pd)) (e:vs.length=ls.length):U.length=Y.vs.length/\∃Z,Y.mu.length=Z.g.length/\jf H0 Z0 Z H/\aQ K Z (ls.map Lc.pv) vs/\Slots K H0 Z H (sl Z.g U Y pd):=by
 obtain⟨el,Z,hg,z,s⟩:=h.freezeAll;have hm:(ls.map λl=>Lc.sh l.pv)=(ls.map Lc.pv).map λp=>Lc.sh p:=by rw[aaD]; rfl
 rw[hm]at s;have pm:List.Perm (sl Z.g U Y (vs.zip ((ls.map Lc.pv).map λp=>Lc.sh p)++pd)) ((vs.zip ((ls.map Lc.pv).map λp=>Lc.sh p)).map (λe=>(some e.1,some e.2))++sl Z.g U Y pd):=GR;have s':=s.perm pm.symm;exact⟨el,Z,hg,z,Slots.repl (by simpa using e) s',s'.sub (abj _ _)⟩
end
theorem wB {α:Type} {l:List α} (h:l.length=1):∃a,l=[a]:=List.length_eq_one_iff.mp h
theorem ln2 {α:Type} {l:List α} (h:l.length=2):∃a b,l=[a,b]:=by
 cases l with
 | nil=>cases h
 | cons a l=>obtain⟨b,rfl⟩:=wB (abP h); exact⟨a,b,rfl⟩
theorem YS {α:Type} {l:List α} (h:l.length=3):∃a b c,l=[a,b,c]:=by
 cases l with
 | nil=>cases h
 | cons a l=>obtain⟨b,c,rfl⟩:=ln2 (abP h); exact⟨a,b,c,rfl⟩
theorem YT {α:Type} {l:List α} (h:l.length=4):∃a b c d,l=[a,b,c,d]:=by
 cases l with
 | nil=>cases h
 | cons a l=>obtain⟨b,c,d,rfl⟩:=YS (abP h); exact⟨a,b,c,d,rfl⟩
theorem Z7 {α:Type} {l:List α} (h:l.length=5):∃a b c d e,l=[a,b,c,d,e]:=by
 cases l with
 | nil=>cases h
 | cons a l=>obtain⟨b,c,d,e,rfl⟩:=YT (abP h); exact⟨a,b,c,d,e,rfl⟩
def ao:AF:=λY=>some ([],Y)
def aj (f:EF) (g:AF):AF:=λY=>(f Y).bind λx=>(g x.2).map λy=>(x.1::y.1,y.2)
theorem au:PA X [] (iU X.K ao):=PA.imp Gn λU H Q q=>by obtain⟨H0,Z0,Y,pd,l,Y',s,f,k⟩:=q;cases f;exact k [] H rfl s
theorem ak {e:Expr} {es:List Expr} {f:EF} {g:AF} (ha:PE X e (tP X.K f)) (hr:PA X es (iU X.K g)) (hs:starEach (e::es) X.env=(false,eval e X.env)::starEach es X.env:=by rfl):PA X (e::es) (iU X.K (aj f g)):=PA.imp (ul ha hr hs) λU H Q q=>by
 obtain⟨H0,Z0,Y,pd,l,Y',s,h,k⟩:=q;unfold aj at h;cases h1:f Y with
 | none=>rw[h1]at h; cases h
 | some x=>
  rw[h1,aaa]at h;cases h2:g x.2 with
  | none=>rw[h2]at h; cases h
  | some y=>
   rw[h2]at h;cases h;refine⟨H0,Z0,Y,pd,x.1,x.2,s,h1,λv H1 s1=>⟨H0,Z0,x.2,_,y.1,y.2,s1,h2,λvs H2 e2 s2=>?_⟩⟩;refine k (v::vs) H2 (by simp[e2]) (s2.perm aaZ.symm)
def bH (g:AF):EF:=λY=>(g Y).bind λy=>if y.1.length<=1000 then some (.own (.lst (y.1.map Lc.pv)),y.2) else none
def bu (g:AF):EF:=λY=>(g Y).bind λy=>if y.1.length<=1000 then some (.sh (.tup (y.1.map Lc.pv)),y.2) else none
theorem small (h:n<=100000):n<=sizeLine:=by rw[sizeLine_eq]; omega
theorem cX {es:List Expr} {g:AF} {pos:Pos} (h:PA X es (iU X.K g)):PE X (.List es pos) (tP X.K (bH g)):=PE.imp (Wa h) λU H Q q=>by
 obtain⟨H0,Z0,Y,pd,l,Y',s,f,k⟩:=q;unfold bH at f;cases h2:g Y with
 | none=>rw[h2]at f; cases f
 | some y=>
  rw[h2,aaa]at f;split at f
  . cases f;refine⟨H0,Z0,Y,pd,y.1,y.2,s,h2,λvs H2 e2 s2=>⟨small (by omega),λp hp=>k _ _ ?_⟩⟩;obtain⟨el,Z,hg,z,r,sl'⟩:=s2.repl e2;obtain⟨z',s'⟩:=sl'.new (p:=.lst (y.1.map Lc.pv)) z hp ⟨vs,cg,r⟩;exact .mk el hg z' s'
  . cases f
theorem b8 {es:List Expr} {g:AF} {x1} {pos:Pos} (h:PA X es (iU X.K g)):PE X (.Tuple es x1 pos) (tP X.K (bu g)):=PE.imp (Ni h) λU H Q q=>by
 obtain⟨H0,Z0,Y,pd,l,Y',s,f,k⟩:=q;unfold bu at f;cases h2:g Y with
 | none=>rw[h2]at f; cases f
 | some y=>
  rw[h2,aaa]at f;split at f
  . cases f;refine⟨H0,Z0,Y,pd,y.1,y.2,s,h2,λvs H2 e2 s2=>⟨small (by omega),λp hp=>k _ _ ?_⟩⟩;obtain⟨el,Z,hg,z,r,sl'⟩:=s2.repl e2;obtain⟨z',sz,s'⟩:=sl'.newF z hp;refine .mk (Z:=Z.put p (.tup vs)) el hg z' (s'.consS ?_);exact⟨p,vs,rfl,fj.of cg,r.mono sz⟩
  . cases f
def tT (f:EF) (tr:PV->Option Bool):TF:=λY=>(f Y).bind λx=>(tr x.1.pv).map λb=>(b,x.2)
def fB:PV->Option Bool
 | .non=>some false
 | .bl b=>some b
 | .int i=>some (i != 0)
 | .str x=>if x.length<=100000 then some ((x.length:Int) != 0) else none
 | .tup ps=>some (!ps.isEmpty)
 | .lst ps=>some (!ps.isEmpty)
 | .dk ks ps=>some (!ps.isEmpty)
 | _=>none
theorem ZF (r:Rep K ⟨H,g⟩ p v) (h:fB p=some b):Qs K v H b:=by
 cases p with
 | non=>have:=iw r; subst this; cases h; exact rfl
 | bl c=>have:=fM r; subst this; cases h; exact rfl
 | int i=>have:=bR r; subst this; cases h; exact rfl
 | str x=>
  have:=cY r; subst this;have h:(if x.length<=100000 then some ((x.length:Int) != 0) else none)=some b:=h;split at h
  . rename_i hl; cases h; exact⟨small hl,rfl⟩
  . cases h
 | tup ps=>
  obtain⟨a,vs,rfl,h1,h2⟩:=r;cases h;refine .inr (.inl ⟨vs,h1,?_⟩);have:=h2.length;cases ps<;>cases vs<;>simp at this<;>rfl
 | lst ps=>
  obtain⟨a,vs,rfl,h1,h2⟩:=r;cases h;refine .inl ⟨vs,h1,?_⟩;have:=h2.length;cases ps<;>cases vs<;>simp at this<;>rfl
 | dk ks ps=>
  obtain⟨a,kvs,rfl,h1,h3,h2⟩:=r;cases h;refine .inr (.inr ⟨kvs,h1,?_⟩);have:=h2.length;cases ps<;>cases kvs<;>simp at this<;>rfl
 | _=>cases h
theorem JM (h:tT f tr Y=some (b,Y')):∃x,f Y=some (x,Y')/\tr x.pv=some b:=by
 unfold tT at h;cases h1:f Y with
 | none=>rw[h1]at h; cases h
 | some x=>
  rw[h1,aaa]at h;cases h2:tr x.1.pv with
  | none=>rw[h2]at h; cases h
  | some y=>rw[h2]at h; cases h; exact⟨x.1,rfl,h2⟩
theorem j0 (ha:PE X a (tP X.K f)) (he:∀whole,isTrue a X.env whole=(do let v <-whole; standAt a.pos; holding [v] (truthy v))):PT X a (gM X.K (tT f fB)):=PT.imp (Qt ha he) λU H Q q=>by obtain⟨H0,Z0,Y,pd,b,Y',s,f',k⟩:=q;obtain⟨x,h1,h2⟩:=JM f';refine⟨H0,Z0,Y,pd,x,Y',s,h1,λv H1 s1=>⟨b,ZF s1.freeze.repH.choose_spec h2,k H1 s1.pop⟩⟩
def aV:PV->Option Bool
 | .bl b=>some b
 | _=>none
theorem Yq (ha:PT X a (Sg (tP X.K f))):PT X a (gM X.K (tT f aV)):=PT.imp ha λU H Q q=>by
 obtain⟨H0,Z0,Y,pd,b,Y',s,f',k⟩:=q;obtain⟨x,h1,h2⟩:=JM f';refine⟨H0,Z0,Y,pd,x,Y',s,h1,λv H1 s1=>⟨b,?_,k H1 s1.pop⟩⟩;obtain⟨_,r⟩:=s1.freeze.repH;cases e:x.pv with
 | bl c=>rw[e]at h2 r; cases h2; exact fM r
 | _=>rw[e]at h2; cases h2
theorem bB (ho:fP X (compareOp op) r) (hs:jg X.K r g) (ha:PE X a (tP X.K fa)) (hb:PE X b (tP X.K fb)) (hm:behindInMarks op b=false):PT X (.Compare a [op] [b] pos) (gM X.K (tT (aC g fa fb) aV)):=
 Yq (PT.imp (T4 ho ha hb hm) λU H Q q=>GP hs U H _ q)
def cQ (f g:TF):TF:=λY=>(f Y).bind λx=>if x.1=true then g x.2 else some (false,x.2)
def mj (f g:TF):TF:=λY=>(f Y).bind λx=>if x.1=true then some (true,x.2) else g x.2
def gH (f:TF):TF:=λY=>(f Y).map λx=>(!x.1,x.2)
theorem Us:∀U H Q,gM X.K (cQ f g) U H Q->Vz (gM X.K f) (gM X.K g) U H Q:=λU H Q q=>by
 obtain⟨H0,Z0,Y,pd,b,Y',s,h,k⟩:=q;unfold cQ at h;cases h1:f Y with
 | none=>rw[h1]at h; cases h
 | some x=>
  rw[h1,aaa]at h;refine⟨H0,Z0,Y,pd,x.1,x.2,s,h1,λH1 s1=>?_⟩;dsimp only;split
  . rename_i c; rw[abR c]at h; exact⟨H0,Z0,x.2,pd,b,Y',s1,h,k⟩
  . rename_i c; rw[abS c]at h; cases h; exact k H1 s1
theorem WN:∀U H Q,gM X.K (mj f g) U H Q->YK (gM X.K f) (gM X.K g) U H Q:=λU H Q q=>by
 obtain⟨H0,Z0,Y,pd,b,Y',s,h,k⟩:=q;unfold mj at h;cases h1:f Y with
 | none=>rw[h1]at h; cases h
 | some x=>
  rw[h1,aaa]at h;refine⟨H0,Z0,Y,pd,x.1,x.2,s,h1,λH1 s1=>?_⟩;dsimp only;split
  . rename_i c; rw[abR c]at h; cases h; exact k H1 s1
  . rename_i c; rw[abS c]at h; exact⟨H0,Z0,x.2,pd,b,Y',s1,h,k⟩
theorem kh (ha:PT X a (gM X.K f)):PW X (.BoolOp .And [a] pos) (gM X.K f):=TV ha
theorem uq (ha:PT X a (gM X.K f)):PW X (.BoolOp .Or [a] pos) (gM X.K f):=VB ha
theorem lu {rest:List Expr} (ha:PT X a (gM X.K f)) (hb:PW X (.BoolOp .And (b::rest) pos) (gM X.K g)):PW X (.BoolOp .And (a::b::rest) pos) (gM X.K (cQ f g)):=PW.imp (VD ha hb) Us
theorem xU {rest:List Expr} (ha:PT X a (gM X.K f)) (hb:PW X (.BoolOp .Or (b::rest) pos) (gM X.K g)):PW X (.BoolOp .Or (a::b::rest) pos) (gM X.K (mj f g)):=PW.imp (X6 ha hb) WN
theorem pL (ha:PT X a (gM X.K f)):PT X (.UnaryOp .Not a pos) (gM X.K (gH f)):=PT.imp (VF ha) λU H Q q=>by
 obtain⟨H0,Z0,Y,pd,b,Y',s,h,k⟩:=q;unfold gH at h;cases h1:f Y with
 | none=>rw[h1]at h; cases h
 | some x=>
  rw[h1]at h;cases h;exact⟨H0,Z0,Y,pd,x.1,x.2,s,h1,λH1 s1=>k H1 s1⟩
def wC (f g:EF):EF:=λY=>(f Y).bind λx=>match x.1.pv with
 | .bl true=>g x.2
 | .bl false=>some (.sh (.bl false),x.2)
 | _=>none
theorem WP {op} (h:PE X a (tP X.K f)):PE X (.BoolOp op [a] pos) (tP X.K f):=VG h
theorem WQ {rest:List Expr} (ha:PE X a (tP X.K f)) (hb:PE X (.BoolOp .And (b::rest) pos) (tP X.K g)):PE X (.BoolOp .And (a::b::rest) pos) (tP X.K (wC f g)):=PE.imp (VH ha hb) λU H Q q=>by
 obtain⟨H0,Z0,Y,pd,b,Y',s,h,k⟩:=q;unfold wC at h;cases h1:f Y with
 | none=>rw[h1]at h; cases h
 | some x=>
  rw[h1,aaa]at h;refine⟨H0,Z0,Y,pd,x.1,x.2,s,h1,λv H1 s1=>?_⟩;obtain⟨_,r⟩:=s1.freeze.repH;split at h
  . rename_i e;rw[e]at r;refine⟨true,fM r,?_⟩;exact⟨H0,Z0,x.2,pd,b,Y',s1.pop,h,k⟩
  . rename_i e;rw[e]at r;refine⟨false,fM r,?_⟩;cases h;exact k _ H1 (s1.pop.scal dX)
  . cases h
def bA:SF:=λY=>some (.nx Y)
def aG (f g:SF):SF:=λY=>(f Y).bind λx=>match x with
 | .nx Y'=>g Y'
 | y=>some y
theorem bw:iu X [] (fC X.K bA):=iu.imp TX λD U H q=>by obtain⟨H0,Z0,Y,pd,fl,s,h,k⟩:=q;cases h;exact k U H s
theorem az {st:Stmt} {rest:List Stmt} {f g:SF} (h1:PS X st (fC X.K f)) (h2:iu X rest (fC X.K g)):iu X (st::rest) (fC X.K (aG f g)):=iu.imp (Qk h1 h2) λD U H q=>by
 obtain⟨H0,Z0,Y,pd,fl,s,h,k⟩:=q;unfold aG at h;cases e:f Y with
 | none=>rw[e]at h; cases h
 | some x=>
  rw[e,aaa]at h;refine⟨H0,Z0,Y,pd,x,s,e,?_⟩;cases x with
  | nx Y'=>exact λU' H' s'=>⟨H0,Z0,Y',pd,fl,s',h,k⟩
  | rt r Y'=>cases h; exact k
  | bk Y'=>cases h; exact k
  | ct Y'=>cases h; exact k
theorem aH {st:Stmt} {f:SF} (h1:PS X st (fC X.K f)):iu X [st] (fC X.K f):=TY h1
def zZ (f:EF):SF:=λY=>(f Y).map λx=>.nx x.2
theorem abZ {α β:Type} {o:Option α} {f:α->β} {b:β} (h:o.map f=some b):∃a,o=some a/\f a=b:=by
 cases o with
 | none=>cases h
 | some a=>exact⟨a,rfl,aap h⟩
theorem abY {α β:Type} {o:Option α} {f:α->Option β} {b:β} (h:o.bind f=some b):∃a,o=some a/\f a=some b:=by
 cases o with
 | none=>cases h
 | some a=>exact⟨a,rfl,h⟩
theorem JN (he:PE X e (tP X.K f)) (hs:swapsWith e none pos.line X.env=pure false:=by rfl):PS X (.Expr e pos) (fC X.K (zZ f)):=PS.imp (m6 he hs) λD U H q=>by obtain⟨H0,Z0,Y,pd,fl,s,h,k⟩:=q;obtain⟨x,h1,rfl⟩:=abZ h;exact⟨H0,Z0,Y,pd,x.1,x.2,s,h1,λv H' s'=>k U H' s'.pop⟩
def bV (f:EF):SF:=λY=>(f Y).map λx=>.rt x.1 x.2
theorem bC {e:Expr} {pos:Pos} {f:EF} (he:PE X e (tP X.K f)):PS X (.Return (some e) pos) (fC X.K (bV f)):=PS.imp (M3 he) λD U H q=>by obtain⟨H0,Z0,Y,pd,fl,s,h,k⟩:=q;obtain⟨x,h1,rfl⟩:=abZ h;exact⟨H0,Z0,Y,pd,x.1,x.2,s,h1,λv H' s'=>k v U H' s'⟩
def gB (i:Nat):SF:=λY=>match Y.vs[i]? with
 | some (some l)=>some (.rt l (Y.set i none))
 | _=>none
theorem gq (he:PE X e (oJ i)):PS X (.Return (some e) pos) (fC X.K (gB i)):=PS.imp (M3 he) λD U H q=>by
 obtain⟨H0,Z0,Y,pd,fl,s,h,k⟩:=q;unfold gB at h;split at h
 . rename_i l e1;cases h;obtain⟨v,h1,h2⟩:=s.take e1;exact⟨v,h1,k v U H h2⟩
 . cases h
def bN (c:TF) (f g:SF):SF:=λY=>(c Y).bind λx=>if x.1=true then f x.2 else g x.2
theorem bT {c:Expr} {a b:List Stmt} {fc:TF} {f g:SF} {pos:Pos} (hc:PT X c (gM X.K fc)) (ha:iu X a (fC X.K f)) (hb:iu X b (fC X.K g)):PS X (.If c a b pos) (fC X.K (bN fc f g)):=PS.imp (Yc hc ha hb) λD U H q=>by
 obtain⟨H0,Z0,Y,pd,fl,s,h,k⟩:=q;obtain⟨x,h1,h2⟩:=abY h;refine⟨H0,Z0,Y,pd,x.1,x.2,s,h1,λH1 s1=>?_⟩;dsimp only;split
 . rename_i c; rw[abR c]at h2; exact⟨H0,Z0,x.2,pd,fl,s1,h2,k⟩
 . rename_i c; rw[abS c]at h2; exact⟨H0,Z0,x.2,pd,fl,s1,h2,k⟩
def aK (i:Nat) (f:EF):SF:=λY=>(f Y).bind λx=>if i<x.2.vs.length then some (.nx (x.2.set i (some x.1))) else none
theorem Ck {t:TS} (h:∀D U H,(tP X.K f U H λv H1=>D.nx (U.set i (some v)) H1)->t D U H):∀D U H,fC X.K (aK i f) D U H->t D U H:=λD U H q=>by
 obtain⟨H0,Z0,Y,pd,fl,s,h',k⟩:=q;obtain⟨x,h1,h2⟩:=abY h';split at h2
 . rename_i hl;cases h2;exact h D U H ⟨H0,Z0,Y,pd,x.1,x.2,s,h1,λv H1 s1=>k _ _ (s1.store hl)⟩
 . cases h2
theorem rm {pos pos':Pos} (hN:X.N.Nodup) (hi:X.N[i]?=some x) (hx:L2.Loc X.env.scope x) (he:PE X e (tP X.K f)) (hs:swapsWith e (some (.Name x pos')) pos.line X.env=pure false:=by rfl) (hf:X.fn x=true\/X.env.scope.names.lookup x=some .local:=by first | exact .inl rfl | exact .inr rfl | assumption):
 PS X (.Assign [.Name x pos'] e pos) (fC X.K (aK i f)):=PS.imp (VM hN hi hx he hs hf) (Ck λD U H q=>q)
abbrev GF:=List PV->Mu->Option (Lc×Mu)
def lw (H:Hp) (g:List Addr):Hp:=λb=>if b∈g then none else H b
theorem Ut (h:lw H g b=some o):H b=some o/\b∉g:=by
 unfold lw at h;split at h
 . cases h
 . rename_i q; exact⟨h,q⟩
theorem Q4 (h:b∈g):lw H g b=none:=by unfold lw; rw[abR h]
theorem GX (h:b∉g):lw H g b=H b:=by unfold lw; rw[abS h]
def WR (K:FG) (H:Hp) (Z:ZG) (g:List Addr) (H':Hp) (mu':Mu) (v:V) (r:Lc):Prop:=∃Z',mu'.length=Z'.g.length/\jf (lw H g) Z Z' H'/\Slots K (lw H g) Z' H' ((some v,some r)::cel Z'.g mu')
def cH (K:FG) (n:Nat) (g:GF):Sp:=λvs H Q _=>∃(Z:ZG) (ps:List PV) (mu:Mu) (r:Lc) (mu':Mu),vs.length=n/\mu.length=Z.g.length/\dC Z.z H/\aQ K Z ps vs/\Slots K (lw H (qZ Z.g mu)) Z H (cel Z.g mu)/\g ps mu=some (r,mu')/\∀v H',WR K H Z (qZ Z.g mu) H' mu' v r->Q v H'
def aF (g:GF) (a:AF):EF:=λY=>(a Y).bind λy=>(g (y.1.map Lc.pv) y.2.mu).map λr=>(r.1,⟨y.2.vs,r.2⟩)
theorem Uu (he:e∈cel g mu):∃a,e.1=some (.ref a)/\(e.2=none\/∃p,e.2=some (.own p)):=by
 obtain⟨h1,h2⟩:=abd he;obtain⟨a,_,e1⟩:=aar.mp h1;obtain⟨o,_,e2⟩:=aar.mp h2;refine⟨a,e1.symm,?_⟩;cases o with
 | none=>exact .inl e2.symm
 | some p=>exact .inr ⟨p,e2.symm⟩
theorem Slots.cells (hg:Y.mu.length=Z.g.length) (s:Slots K H0 Z H (sl Z.g U Y pd)):Slots K (lw H (qZ Z.g Y.mu)) Z H (cel Z.g Y.mu):=by
 have s1:=s.sub (aaT _ _);refine⟨λe he=>?_,s1.2⟩;obtain⟨a,h1,h2⟩:=Uu he;obtain⟨v,l⟩:=e;have h1':=h1;subst h1';rcases h2 with h2 | ⟨p,h2⟩
 . have h2':=h2;subst h2'; trivial
 . have h2':=h2;subst h2';obtain⟨b,e1,e2,e3,e4⟩:=s1.1 _ he;cases e1;exact⟨a,rfl,e2,e3,Q4 (aaN.mpr ⟨_,he,rfl⟩)⟩
theorem SR.called (el:U.length=Y.vs.length) (hg:Y.mu.length=Z.g.length) (z:jf H0 Z0 Z H) (s:Slots K H0 Z H (sl Z.g U Y pd)) (h:WR K H Z (qZ Z.g Y.mu) H' mu' v r):SR K H0 Z0 U H' ⟨Y.vs,mu'⟩ ((v,r)::pd):=by
 obtain⟨Z',hg',z',q⟩:=h;have s1:=s.sub (aaT _ _);have s0:=s.sub (abj _ _);have nd:(qZ Z.g Y.mu++(U.zip Y.vs++pd.map λe=>(some e.1,some e.2)).filterMap jK).Nodup:=by have:=s.2;unfold sl at this;rw[List.filterMap_append]at this;exact this
 have hc0:∀a∈qZ Z.g Y.mu,H0 a=none:=λa ha=>by obtain⟨e,he,hb⟩:=aaN.mp ha;exact(gK s1 he hb).2.1
 have h0:dC H0 (lw H (qZ Z.g Y.mu)):=λb o e=>by rw[GX λhm=>by rw[hc0 b hm]at e; cases e];exact z.h0 b o e
 have z2:jf H0 Z0 Z' H':=⟨z'.zh,h0.trans z'.h0,z.z0.trans z'.z0,λb o e=>by
  rcases z'.new b o e with e | e | e
  . exact z.new b o e
  . exact .inr (.inl (h0.free e))
  . exact .inr (.inr e)⟩
 have nog:∀e∈(U.zip Y.vs++pd.map λe=>((some e.1:Option V),(some e.2:Option Lc))),∀a,jK e=some a->a∉qZ Z.g Y.mu/\lw H (qZ Z.g Y.mu) a=H a:=λe he a ha=>by have hn:=λhm=>(abu.mp nd).2.2 a hm a (aaN.mpr ⟨e,he,ha⟩) rfl;exact⟨hn,GX hn⟩
 have hk:∀e∈(U.zip Y.vs++pd.map λe=>((some e.1:Option V),(some e.2:Option Lc))),∀a,jK e=some a->H' a=H a/\Z'.z a=none:=λe he a ha=>by
  obtain⟨h1,h2,o,h3,h4⟩:=gK s0 he ha;obtain⟨hn,ho⟩:=nog e he a ha;have h5:=z'.h0 a o (by rw[ho]; exact h3);refine⟨by rw[h3]; exact h5,?_⟩;cases q:Z'.z a with
  | none=>rfl
  | some u=>
   rcases z'.new a u q with e | e | e
   . rw[h1]at e; cases e
   . rw[ho,h3]at e; cases e
   . have:=z'.zh a u q;rw[h5]at this; cases this;exact(h4 e).elim
 have s2:=s0.step z'.z0 hk;have q':Slots K H0 Z' H' ((some v,some r)::cel Z'.g mu'):=by
  refine⟨λe he=>?_,q.2⟩;have:=q.1 e he;obtain⟨w,l⟩:=e;cases l with
  | none=>trivial
  | some l=>
   cases l with
   | sh p=>exact this
   | own p=>obtain⟨a,e1,e2,e3,e4⟩:=this; exact⟨a,e1,e2,e3,h0.free e4⟩
 have dis:∀e∈((some v,some r)::cel Z'.g mu'),∀a,jK e=some a->∀e'∈(U.zip Y.vs++pd.map λe=>((some e.1:Option V),(some e.2:Option Lc))),jK e'≠some a:=λe he a ha e' he' ha'=>by obtain⟨_,h2,_⟩:=gK q he ha;obtain⟨_,_,o,h3,_⟩:=gK s0 he' ha';rw[(nog e' he' a ha').2,h3]at h2; cases h2
 refine .mk el hg' z2 ?_;refine⟨λe he=>?_,?_⟩
 . rcases aah.mp he with rfl | he
   . exact q'.1 _ aab
   . rcases aaH.mp he with he | he
     . exact q'.1 _ (aai _ he)
     . exact s2.1 e he
 . show (((some v,some r)::(cel Z'.g mu'++(U.zip Y.vs++pd.map λe=>(some e.1,some e.2)))).filterMap jK).Nodup;rw[<-aa3,List.filterMap_append];refine abu.mpr ⟨q'.2,s2.2,λa ha b hb e=>?_⟩;subst e;obtain⟨e1,he1,h1⟩:=aaN.mp ha;obtain⟨e2,he2,h2⟩:=aaN.mp hb;exact dis e1 he1 a h1 e2 he2 h2
theorem Q5:∀U H Q,(∃H0 Z0 Y pd r Y',SR X.K H0 Z0 U H Y pd/\aF g a Y=some (r,Y')/\(∀ls Y1,a Y=some (ls,Y1)->ls.length=n)/\∀v H',SR X.K H0 Z0 U H' Y' ((v,r)::pd)->Q v H')->La (cH X.K n g) [] E (iU X.K a) U H Q:=λU H Q q=>by
 obtain⟨H0,Z0,Y,pd,r,Y',s,h,hn,k⟩:=q;obtain⟨y,h1,h2⟩:=abY h;obtain⟨r',h3,h4⟩:=abZ h2;cases h4;refine⟨H0,Z0,Y,pd,y.1,y.2,s,h1,λvs H2 e2 s2=>?_⟩;obtain⟨el,Z,hg,z,rl,sl'⟩:=s2.repl e2;refine⟨Z,y.1.map Lc.pv,y.2.mu,_,_,?_,hg,z.zh,?_,sl'.cells hg,h3,λv H' rr=>k v H' (SR.called el hg z sl' rr)⟩
 . rw[aaW,e2]; exact hn _ _ h1
 . rw[aaW]; exact rl
end
section
variable {P:Program} {w:World} {K:FG} {mg:Str->Option Value} {base:Heap}
def cj (K:FG) (mg:Str->Option Value) (x:Str) (st:Stmt) (ps:List Str):Prop:=∃f fd,sH K x x st f fd/\mg x=some (.ref f)/\Binds K fd ps []
def GZ (b:Bool) (P:Program) (w:World) (K:FG) (mg:Str->Option Value) (base:Heap) (x:Str) (k:Nat) (ps:List Str) (sp:Sp):Prop:=∃f fd,qD b P w K mg base oG k f fd ps sp/\mg x=some (.ref f)/\W.keepIn K (.ref f)=true/\Binds K fd ps []
abbrev bL:=GZ true
def env0 (n:Nat) (ps:List PV) (mu:Mu):Ev:=⟨ps.map (λp=>some (Lc.sh p))++List.replicate (n-ps.length) none,mu⟩
def cP (n:Nat) (g:SF):GF:=λps mu=>(g (env0 n ps mu)).bind λx=>match x with
 | .rt r Y=>some (r,Y.mu)
 | .nx Y=>some (.sh .non,Y.mu)
 | _=>none
theorem JP (s:Slots K H0 Z H L):∀{ps:List PV} {vs:List V},aQ K Z ps vs->Slots K H0 Z H ((vs.map some).zip (ps.map λp=>some (Lc.sh p))++L)
 | [],vs,h=>by have:=h.inv0; subst this; simpa using s
 | p::ps,vs,h=>by obtain⟨v,r,rfl,h1,h2⟩:=h.inv;exact(JP s h2).consS h1
theorem nones (s:Slots K H0 Z H L):∀n:Nat,Slots K H0 Z H ((List.replicate n (none:Option V)).zip (List.replicate n (none:Option Lc))++L)
 | 0=>s
 | n+1=>by
  rw[List.replicate_succ,List.replicate_succ,aa8,aa3];have ih:=nones s n;refine⟨λe he=>?_,?_⟩
  . rcases aah.mp he with rfl | he
    . trivial
    . exact ih.1 e he
  .  exact ih.2
theorem yZ (hg:mu.length=Z.g.length) (z:dC Z.z H) (r:aQ K Z ps vs) (c:Slots K (lw H (qZ Z.g mu)) Z H (cel Z.g mu)):SR K (lw H (qZ Z.g mu)) Z (L2.start N vs) H (env0 N.length ps mu) []:=by have hl:=r.length;refine⟨by simp[L2.start,env0,hl],Z,hg,⟨z,λb o e=>(Ut e).1,fY.refl _,λb o e=>.inl e⟩,?_⟩;unfold sl L2.start env0;rw[abq (by simp[hl]),aby,aaW,hl];exact(JP (nones c _) r).perm ((abv).trans (by rw[aaC]))
theorem cj.ok {st:Stmt} (F:cj K mg x st ps) (S:bD N ps (aL st))
 (h:∀(f:Addr) (cdv:Value) (A:Around) (outer:List PySem.Env) (s:Shared) (H:Hp) (E:XK),fL b k (A.deeper (envOfC x (aL st) s.heap.objs.size f cdv))->
   ∃g':SF,(∀a mu,g a mu=cP N.length g' a mu)/\iu (sG b oG P w K mg base N x (aL st) f cdv A outer s H E).nox (iZ st) (fC K g')):GZ b P w K mg base x (k+1) ps (cH K ps.length g):=by
 obtain⟨f,fd,F,hm,hb⟩:=F;refine⟨f,fd,F.ok S (λvs H Q E q=>?_) (λcdv A outer s H vs Q E hr q=>?_),hm,F.kp,hb⟩
 . obtain⟨Z,qs,mu,r,mu',e,_⟩:=q; exact e
 . obtain⟨g',eg,b⟩:=h f cdv A outer s H E hr;obtain⟨Z,qs,mu,r,mu',e,hg,z,rl,c,hr',kk⟩:=q;rw[eg]at hr';obtain⟨fl,h1,h2⟩:=abY hr';refine⟨_,b,lw H (qZ Z.g mu),Z,_,[],fl,yZ hg z rl c,h1,?_⟩;cases fl with
   | rt r' Y'=>
    cases h2;intro v U' H' s';obtain⟨el,Z',hg',z',s''⟩:=s'.top;refine kk v H' ⟨Z',hg',z',s''.sub ?_⟩;exact(aaT _ _).cons_cons _
   | nx Y'=>
    cases h2;intro U' H' s';obtain⟨el,Z',hg',z',s''⟩:=s';exact kk .non H' ⟨Z',hg',z',(s''.sub (aaT _ _)).consS (qK _)⟩
   | bk Y'=>cases h2
   | ct Y'=>cases h2
end
section
variable {X:Cx}
theorem aR {p pos:Pos} (D:GZ b X.prog X.w X.K X.mg X.base x k ps (cH X.K ps.length g)) (hr:fL b k X.A) (hg:Gl X x)
 (ha:PA X (e::es) (iU X.K a)) (hn:∀Y ls Y1,a Y=some (ls,Y1)->ls.length=ps.length) (hdb:(x==("__debug__" : Str))=false:=by decide) (he:starEach (e::es) X.env=(false,eval e X.env)::starEach es X.env:=by rfl) (hpl:(backTo pos (starEach es X.env)).any (·.1)=false:=by rfl):PE X (.Call (.Name x p) (e::es) [] pos) (tP X.K (aF g a)):=by
 obtain⟨f,fd,F,hm,hk,hb⟩:=D;refine PE.imp (JC F hr hg hm hk hb .nil Le ha hdb he hpl) λU H Q q=>?_;obtain⟨H0,Z0,Y,pd,r,Y',s,h,kk⟩:=q;exact Q5 U H Q ⟨H0,Z0,Y,pd,r,Y',s,h,λls Y1 e=>hn Y ls Y1 e,kk⟩
section
variable {K:FG} {H0 H H':Hp} {Z0 Z:ZG} {U:L2.St} {Y:Ev} {pd pd':Pd} {v w:V} {l:Lc} {p:PV}
theorem SR.sub (h:SR K H0 Z0 U H Y pd') (q:List.Sublist pd pd'):SR K H0 Z0 U H Y pd:=
 let ⟨e,Z,hg,z,s⟩:=h
 ⟨e,Z,hg,z,s.sub ((abi _).append ((abi _).append (q.map _)))⟩
theorem SR.dup (h:SR K H0 Z0 U H Y ((v,.sh p)::pd)):SR K H0 Z0 U H Y ((v,.sh p)::(v,.sh p)::pd):=by obtain⟨e,Z,hg,z,s⟩:=h.top;obtain⟨x,e1,e2⟩:=s.1 _ aab;cases e1;exact .mk e hg z ((s.perm dR).consS e2)
theorem SR.part (h:SR K H0 Z0 U H Y ((v,.sh p)::pd)) (k:∀Z:ZG,dC Z.z H->Rep K Z p v->Rep K Z q u):SR K H0 Z0 U H Y ((u,.sh q)::(v,.sh p)::pd):=by obtain⟨e,Z,hg,z,s⟩:=h.top;obtain⟨x,e1,e2⟩:=s.1 _ aab;cases e1;exact .mk e hg z ((s.perm dR).consS (k Z z.zh e2))
end
abbrev BF:=PV->Ev->Option Ev
def GS (K:FG) (g:TG) (b:BF):Prop:=∀H0 Z0 U H Y pd v p Y' Q,SR K H0 Z0 U H Y ((v,.sh p)::pd)->b p Y=some Y'->(∀U',SR K H0 Z0 U' H Y' pd->Q U' H)->g v U H Q
abbrev G3:=List PV->Ev->Option Ev
def Sy (K:FG) (g:vG) (b:G3):Prop:=∀H0 Z0 U H Y pd vs ps Y' Q,vs.length=ps.length->SR K H0 Z0 U H Y (vs.zip (ps.map Lc.sh)++pd)->b ps Y=some Y'->(∀U',SR K H0 Z0 U' H Y' pd->Q U' H)->g vs U H Q
def aA (i:Nat):BF:=λp Y=>if i<Y.vs.length then some (Y.set i (some (.sh p))) else none
theorem aO:GS K (Fo i) (aA i):=by
 intro H0 Z0 U H Y pd v p Y' Q s h k;unfold aA at h;split at h
 . rename_i hl; cases h; exact k _ (s.store hl)
 . cases h
def bZ:G3:=λps Y=>match ps with
 | []=>some Y
 | _=>none
def aJ (b:BF) (bs:G3):G3:=λps Y=>match ps with
 | p::r=>(b p Y).bind λY1=>bs r Y1
 | []=>none
theorem dY:Sy K VJ bZ:=by
 intro H0 Z0 U H Y pd vs ps Y' Q e s h k;cases ps with
 | nil=>
  cases h;have:vs=[]:=abH (by simpa using e);subst this;exact⟨rfl,k U s⟩
 | cons p r=>cases h
theorem bf (h1:GS K t b) (h2:Sy K u bs):Sy K (R5 t u) (aJ b bs):=by
 intro H0 Z0 U H Y pd vs ps Y' Q e s h k;cases ps with
 | nil=>cases h
 | cons p r=>
  cases vs with
  | nil=>simp at e
  | cons v ws=>
   obtain⟨Y1,e1,e2⟩:=abY h;refine⟨v,ws,rfl,h1 H0 Z0 U H Y _ v p Y1 _ s e1 λU' s'=>?_⟩;exact h2 H0 Z0 U' H Y1 pd ws r Y' Q (by simpa using e) s' e2 k
theorem NT (s:Slots K H0 Z H L):∀{ps:List PV} {vs:List V},aQ K Z ps vs->Slots K H0 Z H ((vs.zip (ps.map Lc.sh)).map (λe=>(some e.1,some e.2))++L)
 | [],vs,h=>by have:=h.inv0; subst this; simpa using s
 | p::ps,vs,h=>by obtain⟨v,r,rfl,h1,h2⟩:=h.inv;exact(NT s h2).consS h1
theorem SR.items (e:U.length=Y.vs.length) (hg:Y.mu.length=Z.g.length) (z:jf H0 Z0 Z H) (r:aQ K Z ps vs) (s:Slots K H0 Z H (sl Z.g U Y pd)):SR K H0 Z0 U H Y (vs.zip (ps.map Lc.sh)++pd):=
 ⟨e,Z,hg,z,(NT s r).perm GR⟩
def nJ (f:EF) (b:BF):SF:=λY=>(f Y).bind λx=>(b x.1.pv x.2).map Fl.nx
theorem Aa {pos:Pos} (he:PE X e (tP X.K f)) (hg:PG X tg g) (hb:GS X.K g b) (hs:swapsWithSole [tg] e pos.line X.env=pure false:=by rfl) (hw:swappedStores [tg] e X.env=pure none:=by rfl)
 (h1:(assignEach [tg] X.env).map (·.2)=[assign tg X.env]:=by rfl):PS X (.Assign [tg] e pos) (fC X.K (nJ f b)):=PS.imp (iB he hg hs hw h1) λD U H q=>by
 obtain⟨H0,Z0,Y,pd,fl,s,h,k⟩:=q;obtain⟨x,h1,h2⟩:=abY h;obtain⟨Y',h3,rfl⟩:=abZ h2;exact⟨H0,Z0,Y,pd,x.1,x.2,s,h1,λv H1 s1=>hb H0 Z0 U H1 x.2 pd v _ Y' D.nx s1.freeze h3 λU' s'=>k U' H1 s'⟩
def aaf (i j:Nat) (a:AF):SF:=λY=>(a Y).bind λy=>match y.1 with
 | [l,m]=>if i<y.2.vs.length/\j<y.2.vs.length then some (.nx ((y.2.set i (some l)).set j (some m))) else none
 | _=>none
def mW (K:FG) (H0:Hp) (Z0:ZG) (pd:Pd) (J:It) (xs:List PV):Prop:=∀U H Y (i:Nat),SR K H0 Z0 U H Y pd->
 (∀x,xs[i]?=some x->J.go i H/\∀v H',J.yld i H v H'->SR K H0 Z0 U H' Y ((v,.sh x)::pd))/\(i=xs.length->J.stop i H)
abbrev IF:=Ev->Option (List PV×Ev)
def yG (K:FG) (f:IF):TI:=λU H R=>∃H0 Z0 Y pd xs Y',SR K H0 Z0 U H Y pd/\f Y=some (xs,Y')/\∀J H' pd',SR K H0 Z0 U H' Y' pd'->mW K H0 Z0 pd' J xs->List.Sublist pd pd'->R J H'
theorem PI.imp (h:PI X tg iter t) (i:∀U H R,t' U H R->t U H R):PI X tg iter t':=λadG s U H R I q=>h adG s U H R I (i U H R q)
def cR (f:EF) (g:PV->Option (List PV)):IF:=λY=>(f Y).bind λx=>(g x.1.pv).map λxs=>(xs,x.2)
theorem NZ:mW K H0 Z0 ((.ref a,.sh (.lst ps))::pd) (R6 K a) ps:=by intro U H Y i s;obtain⟨Z,z,r⟩:=s.rep;obtain⟨b,vs,e,h1,h2⟩:=r;cases e;have hq:=cz.same z h1;refine⟨λx hx=>?_,λhl=>⟨vs,hq,by rw[h2.length]; omega⟩⟩;obtain⟨v,hv,rv⟩:=h2.get hx;refine⟨⟨vs,v,hq,hv⟩,λv' H' y=>?_⟩;obtain⟨e',y⟩:=y;subst e';have:=y vs hq;rw[hv]at this; cases this;refine s.part λZ' z' r'=>?_;obtain⟨b',vs',e',h1',h2'⟩:=r';cases e';have:vs'[i]?=some v:=y vs' (cz.same z' h1');obtain⟨p',hp',rp'⟩:=h2'.getV this;rw[hx]at hp'; cases hp';exact rp'
theorem Q6:mW K H0 Z0 ((.ref a,.sh (.tup ps))::pd) (R7 K a) ps:=by intro U H Y i s;obtain⟨Z,z,r⟩:=s.rep;obtain⟨b,vs,e,h1,h2⟩:=r;cases e;have hq:=fj.same z h1;refine⟨λx hx=>?_,λhl=>⟨vs,hq,by rw[h2.length]; omega⟩⟩;obtain⟨v,hv,rv⟩:=h2.get hx;refine⟨⟨vs,v,hq,hv⟩,λv' H' y=>?_⟩;obtain⟨e',y⟩:=y;subst e';have:=y vs hq;rw[hv]at this; cases this;refine s.part λZ' z' r'=>?_;obtain⟨b',vs',e',h1',h2'⟩:=r';cases e';have:vs'[i]?=some v:=y vs' (fj.same z' h1');obtain⟨p',hp',rp'⟩:=h2'.getV this;rw[hx]at hp'; cases hp';exact rp'
def mq (lo:Int) (n:Nat):List PV:=(List.range n).map λi=>.int (lo+(i:Nat))
def fQ (a:AF):IF:=λY=>(a Y).bind λy=>match y.1.map Lc.pv with
 | [.int j]=>if -(2 ^ 62)<=j/\j<2 ^ 62 then some (mq 0 j.toNat,y.2) else none
 | _=>none
def nj (a:AF):IF:=λY=>(a Y).bind λy=>match y.1.map Lc.pv with
 | [.int i,.int j]=>if -(2 ^ 62)<=i/\i<2 ^ 62/\-(2 ^ 62)<=j/\j<2 ^ 62 then some (mq i (j-i).toNat,y.2) else none
 | _=>none
theorem G4 {lo:Int}:mW K H0 Z0 pd (M5 lo n) (mq lo n):=by
 intro U H Y i s;refine⟨λx hx=>?_,λhl=>?_⟩
 . have hi:i<n:=by have:=(aal.mp hx).1;simpa [mq] using this
   refine⟨hi,λv H' y=>?_⟩;obtain⟨rfl,rfl⟩:=y;unfold mq at hx;rw[aay,List.getElem?_range hi]at hx;cases hx;exact s.scal eN
 . show n<=i;simp[mq]at hl;omega
theorem SR.ints {vs:List V} {ls:List Lc} {ns:List Int} (s:SR K H0 Z0 U H Y (vs.zip ls++pd)) (e:vs.length=ls.length) (h:ls.map Lc.pv=ns.map PV.int):vs=ns.map V.int/\SR K H0 Z0 U H Y pd:=by
 obtain⟨el,Z,hg,z,r,sl'⟩:=s.repl e;refine⟨?_,el,Z,hg,z,sl'⟩;rw[h]at r;clear h e s sl';induction ns generalizing vs with
 | nil=>exact r.inv0
 | cons n ns ih=>
  obtain⟨v,w,rfl,h1,h2⟩:=r.inv;rw[bR h1,ih h2];rfl
theorem jh (hg:Gl X "range") (hm:X.mg "range" = none) (ha:PA X [a] (iU X.K f)) (hs:starEach [a] X.env=[(false,eval a X.env)]:=by rfl):PI X tg (.Call (.Name "range" p) [a] [] pos) (yG X.K (fQ f)):=PI.imp (M7 hg hm ha hs) λU H R q=>by
 obtain⟨H0,Z0,Y,pd,xs,Y',s,h,k⟩:=q;obtain⟨y,h1,h2⟩:=abY h;refine⟨H0,Z0,Y,pd,y.1,y.2,s,h1,λvs H1 e1 s1=>?_⟩;split at h2
 . rename_i j e;split at h2
   . rename_i hj;cases h2;obtain⟨rfl,s2⟩:=s1.ints (ns:=[j]) e1 e;exact⟨j,rfl,hj.1,hj.2,k _ _ _ s2 G4 (abi _)⟩
   . cases h2
 . cases h2
theorem DP (hi:PI X tg (.Call (.Name "range" p) [a,b] [] pos) (R8 (iU X.K f))):PI X tg (.Call (.Name "range" p) [a,b] [] pos) (yG X.K (nj f)):=PI.imp hi λU H R q=>by
 obtain⟨H0,Z0,Y,pd,xs,Y',s,h,k⟩:=q;obtain⟨y,h1,h2⟩:=abY h;refine⟨H0,Z0,Y,pd,y.1,y.2,s,h1,λvs H1 e1 s1=>?_⟩;split at h2
 . rename_i i j e;split at h2
   . rename_i hj;cases h2;obtain⟨rfl,s2⟩:=s1.ints (ns:=[i,j]) e1 e;exact⟨i,j,rfl,hj,k _ _ _ s2 G4 (abi _)⟩
   . cases h2
 . cases h2
def cU (b:BF) (body:SF):List PV->SF
 | [],Y=>some (.nx Y)
 | x::xs,Y=>(b x Y).bind λY1=>(body Y1).bind λfl=>match fl with
  | .nx Y'=>cU b body xs Y'
  | .ct Y'=>cU b body xs Y'
  | .bk Y'=>some (.nx Y')
  | .rt r Y'=>some (.rt r Y')
def dM (f:IF) (b:BF) (body:SF):SF:=λY=>(f Y).bind λy=>cU b body y.1 y.2
theorem wD {P:Prop} (h:∀G:Prop,(P->G)->G):P:=h P id
def FW (K:FG) (H0:Hp) (Z0:ZG) (pd:Pd) (b:BF) (fb:SF) (xs:List PV) (fl:Fl) (i m:Nat) (U:L2.St) (H:Hp):Prop:=m=xs.length-i/\i<=xs.length/\∃Y,SR K H0 Z0 U H Y pd/\cU b fb (xs.drop i) Y=some fl
theorem zc (hb:GS K g b) (it:mW K H0 Z0 pd J xs) (k:GK K H0 Z0 pd D fl) (s:SR K H0 Z0 U H Y pd) (h:cU b fb xs Y=some fl):
 ∃W:Nat->Nat->L2.St->Hp->Prop,(∃m,W 0 m U H)/\∀i m U H,W i m U H->
  (J.stop i H/\D.nx U H)\/(J.go i H/\∃N:L2.St->Hp->Prop,(∀U' H',N U' H'->∃m',m'<m/\W (i+1) m' U' H')/\∀x H',J.yld i H x H'->g x U H' λU2 H2=>fC K fb { D with nx:=N,ct:=N,bk:=D.nx } U2 H2):=by
 refine⟨FW K H0 Z0 pd b fb xs fl,⟨_,rfl,aa6 _,Y,s,h⟩,λi m U' H' w=>?_⟩;refine wD λG kG=>?_;obtain⟨rfl,hi,Y',s',h'⟩:=w;obtain⟨i1,i2⟩:=it U' H' Y' i s';by_cases hlt:i<xs.length
 . obtain⟨go,yl⟩:=i1 _ (aaj hlt);rw[abx hlt]at h';obtain⟨Y1,e1,e2⟩:=abY h';obtain⟨fl1,e3,e4⟩:=abY e2;refine kG (.inr ⟨go,λU'' H''=>FW K H0 Z0 pd b fb xs fl (i+1) (xs.length-(i+1)) U'' H'',λU'' H'' w=>⟨_,by omega,w⟩,λx H2 hy=>hb H0 Z0 U' H2 Y' pd x _ Y1 _ (yl x H2 hy) e1 λU2 s2=>⟨H0,Z0,Y1,pd,fl1,s2,e3,?_⟩⟩);cases fl1 with
   | nx Y2=>exact λU3 H3 s3=>⟨rfl,hlt,Y2,s3,e4⟩
   | ct Y2=>exact λU3 H3 s3=>⟨rfl,hlt,Y2,s3,e4⟩
   | bk Y2=>cases e4; exact k
   | rt r Y2=>cases e4; exact k
 . have e:=Nat.le_antisymm hi (abC hlt);subst e;rw[List.drop_length]at h';cases h';exact kG (.inl ⟨i2 rfl,k U' H' s'⟩)
theorem GK.imp (k:GK K H0 Z0 pd D fl) (w:∀{τ:L2.St} {J:Hp} {q:Ev},SR K H0 Z₁ τ J q pd'->SR K H0 Z0 τ J q pd) (w':∀{τ:L2.St} {J:Hp} {q:Ev} {e:V×Lc},SR K H0 Z₁ τ J q (e::pd')->SR K H0 Z0 τ J q (e::pd)):GK K H0 Z₁ pd' D fl:=by
 cases fl with
 | rt r Y=>exact λv U H s=>k v U H (w' s)
 | _=>exact λU H s=>k U H (w s)
theorem eO (hp:PassesOwn (model X.prog X.w) X.A X.env X.xe) (hc:X.calm=true) (hi:PI X tg iter (yG X.K f)) (hg:PG X tg g) (hb':GS X.K g b) (hb:iu X body (fC X.K fb))
 (hs:∀x,foldedSetIterable iter X.env x=pure x:=by intro _; rfl):PS X (.For tg iter body [] pos) (fC X.K (dM f b fb)):=PS.imp (Gj hp hc hi hg hb hs) λD U H q=>by
 refine wD λG kG=>?_;obtain⟨H0,Z0,Y,pd,fl,s,h,k⟩:=q;obtain⟨y,h1,h2⟩:=abY h;exact kG ⟨H0,Z0,Y,pd,y.1,y.2,s,h1,λJ H1 pd' s1 it sub=>zc hb' it (k.imp (λs=>s.sub sub) λs=>s.sub (sub.cons_cons _)) s1 h2⟩
def lA (c:TF) (body:SF):Nat->SF
 | 0,_=>none
 | n+1,Y=>(c Y).bind λx=>if x.1=true then (body x.2).bind λfl=>match fl with
  | .nx Y'=>lA c body n Y'
  | .ct Y'=>lA c body n Y'
  | .bk Y'=>some (.nx Y')
  | .rt r Y'=>some (.rt r Y') else some (.nx x.2)
def wF (n:Nat) (c:TF) (body:SF):SF:=lA c body n
theorem uQ (n:Nat) (hp:PassesOwn (model X.prog X.w) X.A X.env X.xe) (hc:PT X c (gM X.K fc)) (hb:iu X body (fC X.K fb)):PS X (.While c body [] pos) (fC X.K (wF n fc fb)):=PS.imp (Qn hp hc hb) λD U H q=>by
 obtain⟨H0,Z0,Y,pd,fl,s,h,k⟩:=q;refine⟨λm U' H'=>∃Y',SR X.K H0 Z0 U' H' Y' pd/\lA fc fb m Y'=some fl,⟨n,Y,s,h⟩,?_⟩;rintro m U' H' ⟨Y',s',h'⟩;cases m with
 | zero=>cases h'
 | succ m=>
  obtain⟨x,e1,e2⟩:=abY h';refine⟨H0,Z0,Y',pd,x.1,x.2,s',e1,λH1 s1=>?_⟩;dsimp only;split
  . rename_i hx;rw[abR hx]at e2;obtain⟨fl1,e3,e4⟩:=abY e2;refine⟨λU'' H''=>∃Y'',SR X.K H0 Z0 U'' H'' Y'' pd/\lA fc fb m Y''=some fl,λU'' H'' q=>⟨m,abm _,q⟩,H0,Z0,x.2,pd,fl1,s1,e3,?_⟩;cases fl1 with
    | nx Y2=>exact λU3 H3 s3=>⟨Y2,s3,e4⟩
    | ct Y2=>exact λU3 H3 s3=>⟨Y2,s3,e4⟩
    | bk Y2=>cases e4; exact λU3 H3 s3=>k U3 H3 s3
    | rt r Y2=>cases e4; exact λv U3 H3 s3=>k v U3 H3 s3
  . rename_i hx;rw[abS hx]at e2;cases e2;exact k U' H1 s1
end
section
variable {K:FG} {H0 H H':Hp} {Z0 Z:ZG} {U:L2.St} {Y:Ev} {pd pe:Pd} {v w:V} {l:Lc} {p:PV} {g:List Addr}
def Ev.app (Y:Ev) (pe:Pd):Ev:=⟨Y.vs++pe.map (λx=>some x.2),Y.mu⟩
theorem G5 (e:U.length=Y.vs.length):sl g (U++pe.map λx=>some x.1) (Y.app pe) pd=sl g U Y (pe++pd):=by
 unfold sl Ev.app;rw[abq e,aaz,aaC];congr 3;induction pe with
 | nil=>rfl
 | cons a r ih=>simp[ih]
theorem SR.shift (h:SR K H0 Z0 U H Y (pe++pd)):SR K H0 Z0 (U++pe.map λx=>some x.1) H (Y.app pe) pd:=by obtain⟨e,Z,hg,z,s⟩:=h;refine⟨by simp[Ev.app,e],Z,hg,z,?_⟩;rw[G5 e];exact s
theorem SR.unshift (e:U.length=Y.vs.length) (h:SR K H0 Z0 (U++pe.map λx=>some x.1) H (Y.app pe) pd):SR K H0 Z0 U H Y (pe++pd):=by obtain⟨_,Z,hg,z,s⟩:=h;refine⟨e,Z,hg,z,?_⟩;rw[G5 e]at s;exact s
theorem mW.more (h:mW K H0 Z0 pd J xs):mW K H0 Z0 (pe++pd) J xs:=by intro U H Y i s;obtain⟨h1,h2⟩:=h _ H _ i s.shift;refine⟨λx hx=>?_,h2⟩;obtain⟨g,y⟩:=h1 x hx;refine⟨g,λv H' q=>?_⟩;have s':=y v H' q;have e:=s.1;have s2:=s';exact(SR.unshift e s2).perm aaZ.symm
def qi (U:L2.St) (Y:Ev):Pd:=(U.zip Y.vs).filterMap λe=>match e with
 | (some v,some l)=>some (v,l)
 | _=>none
theorem uR:∀{L:Sl},(∀e∈L,e.2=none\/∃v l,e=(some v,some l))->∀{T:Sl},
 (Slots K H0 Z H (L++T) ↔ Slots K H0 Z H ((L.filterMap λe=>match e with | (some v,some l)=>some (v,l) | _=>none).map (λe=>((some e.1:Option V),(some e.2:Option Lc)))++T))
 | [],_,T=>by simp
 | (v,l)::L,h,T=>by
  have h':=λe he=>h e (aai _ he);rcases h (v,l) aab with e | ⟨v',l',e⟩
  . have e':=e;subst e';have e1:((v,(none:Option Lc))::L).filterMap (λe=>match e with | (some v,some l)=>some (v,l) | _=>none)=L.filterMap (λe=>match e with | (some v,some l)=>some (v,l) | _=>none):=by rw[aaP];cases v<;>rfl
    rw[e1,<-uR h'];have o1:jK (v,none)=none:=by
     cases v with
     | none=>rfl
     | some x=>cases x<;>rfl
    constructor
    . exact λs=>s.sub (aas _ _)
    . intro s;refine⟨λe he=>?_,?_⟩
      . rcases aah.mp he with rfl | he
        . trivial
        . exact s.1 e he
      . rw[aa3,aaP o1];exact s.2
  . cases e;have e1:((some v',some l')::L).filterMap (λe=>match e with | (some v,some l)=>some (v,l) | _=>none)=(v',l')::L.filterMap (λe=>match e with | (some v,some l)=>some (v,l) | _=>none):=by rfl
    have ih1:=uR h' (T:=T++[(some v',some l')]);have perm1:∀A:Sl,List.Perm ((some v',some l')::(A++T)) (A++(T++[(some v',some l')])):=λA=>by rw[<-aaC];exact(List.perm_append_singleton _ _).symm
    constructor
    . intro s;exact(ih1.mp (s.perm (perm1 L).symm)).perm (perm1 _)
    . intro s;exact(ih1.mpr (s.perm (perm1 _).symm)).perm (perm1 L)
theorem SR.both (s:SR K H0 Z0 U H Y pd):∀e∈U.zip Y.vs,e.2=none\/∃v l,e=(some v,some l):=by
 obtain⟨_,Z,_,z,s⟩:=s;intro e he;have q:=s.1 e (aaG _ (aaM _ he));obtain⟨v,l⟩:=e;cases l with
 | none=>exact .inl rfl
 | some l=>
  cases l with
  | sh p=>obtain⟨x,e1,_⟩:=q; have e1':=e1; subst e1'; exact .inr ⟨_,_,rfl⟩
  | own p=>obtain⟨x,e1,_⟩:=q; have e1':=e1; subst e1'; exact .inr ⟨_,_,rfl⟩
theorem DQ (hb:∀e∈U.zip Y.vs,e.2=none\/∃v l,e=(some v,some l)):Slots K H0 Z H (sl g U Y pd) ↔ Slots K H0 Z H (cel g Y.mu++(qi U Y++pd).map λe=>(some e.1,some e.2)):=by
 have h1:=uR (K:=K) (H0:=H0) (Z:=Z) (H:=H) hb (T:=(pd.map λe=>(some e.1,some e.2))++cel g Y.mu);have c1:List.Perm (sl g U Y pd) (U.zip Y.vs++((pd.map λe=>(some e.1,some e.2))++cel g Y.mu)):=by unfold sl;rw[<-aaC (U.zip Y.vs)];exact abv
 have c2:List.Perm (cel g Y.mu++(qi U Y++pd).map λe=>((some e.1:Option V),(some e.2:Option Lc))) ((qi U Y).map (λe=>(some e.1,some e.2))++((pd.map λe=>(some e.1,some e.2))++cel g Y.mu)):=by rw[aaz,<-aaC ((qi U Y).map _)];exact abv
 exact⟨λs=>(h1.mp (s.perm c1.symm)).perm c2,λs=>(h1.mpr (s.perm c2.symm)).perm c1⟩
theorem SR.back (el:U.length=Y.vs.length) (hb:∀e∈U.zip Y.vs,e.2=none\/∃v l,e=(some v,some l)) (s:SR K H0 Z0 U' H Y' (qi U Y++pd)):SR K H0 Z0 U H ⟨Y.vs,Y'.mu⟩ pd:=by obtain⟨_,Z,hg,z,s⟩:=s;refine⟨el,Z,hg,z,(DQ (Y:=⟨Y.vs,Y'.mu⟩) hb).mpr ?_⟩;exact s.sub ((abi _).append (abj _ _))
def jy (ixs:List Nat) (Y:Ev):Ev:=ixs.foldl (λY i=>match Y.vs[i]? with
 | some (some l)=>Y.set i (some (.sh l.pv))
 | _=>Y) Y
theorem SR.frz:∀{ixs:List Nat} {Y:Ev},SR K H0 Z0 U H Y pd->SR K H0 Z0 U H (jy ixs Y) pd
 | [],Y,s=>s
 | i::r,Y,s=>by
  unfold jy;rw[aaX];refine SR.frz ?_;split
  . rename_i l e;obtain⟨v,_,h2⟩:=s.var e;exact h2.pop
  . exact s
def zf:Option Lc->Bool
 | some (.own _)=>false
 | _=>true
theorem G6 {j:Nat}:∀{ixs:List Nat} {Y:Ev},zf (Y.vs[j]?).join=true->zf ((jy ixs Y).vs[j]?).join=true
 | [],Y,h=>h
 | i::r,Y,h=>by
  unfold jy;rw[aaX];refine G6 ?_;split
  . rename_i l e;by_cases hij:i=j
    . subst hij;have hi:=(aal.mp e).1;show zf ((Y.vs.set i _)[i]?).join=true;rw[aaK hi];rfl
    . show zf ((Y.vs.set i _)[j]?).join=true;rw[abF hij]; exact h
  . exact h
theorem N5:∀{ixs:List Nat} {Y:Ev},j∈ixs->zf ((jy ixs Y).vs[j]?).join=true
 | [],Y,h=>by cases h
 | i::r,Y,h=>by
  unfold jy;rw[aaX];rcases aah.mp h with e | h
  . subst e;refine G6 ?_;split
    . rename_i l e;have hi:=(aal.mp e).1;show zf ((Y.vs.set j _)[j]?).join=true;rw[aaK hi];rfl
    . rename_i hn;cases q:Y.vs[j]? with
      | none=>rfl
      | some o=>
       cases o with
       | none=>rfl
       | some l=>exact(hn l q).elim
  . exact N5 h
def rA (m:Nat) (ixs:List Nat) (Y:Ev):Ev:=⟨List.replicate m none++ixs.map λi=>(Y.vs[i]?).join,Y.mu⟩
theorem SR.block (s:SR K H0 Z0 U H Y pd) (hs:∀j∈ixs,zf (Y.vs[j]?).join=true):SR K H0 Z0 (wy m ixs U) H (rA m ixs Y) (qi U Y++pd):=by
 have hb:=s.both;obtain⟨el,Z,hg,z,so⟩:=s;refine⟨by simp[rA],Z,hg,z,?_⟩;have s3:=(DQ hb).mp so;have fin:Slots K H0 Z H ((ixs.map λi=>(U[i]?).join).zip (ixs.map λi=>(Y.vs[i]?).join)++(cel Z.g Y.mu++(qi U Y++pd).map λe=>(some e.1,some e.2)))->Slots K H0 Z H (sl Z.g (wy m ixs U) (rA m ixs Y) (qi U Y++pd)):=λh=>by unfold sl wy rA;rw[abq (by simp),aaC];refine(nones h m).perm ?_;exact(Fx _ _ _).trans ((Fx _ _ _).append_left _)
 refine fin ?_;clear fin;induction ixs with
 | nil=>simpa using s3
 | cons i r ih=>
  have ih':=ih λj hj=>hs j (aai _ hj);rw[aao,aao,aa8,aa3];have h1:=hs i aab;cases q:Y.vs[i]? with
  | none=>
   refine⟨λe he=>?_,?_⟩
   . rcases aah.mp he with rfl | he
     . trivial
     . exact ih'.1 e he
   . rw[aaP]
     . exact ih'.2
     . cases (U[i]?).join with
       | none=>rfl
       | some x=>cases x<;>rfl
  | some o=>
   cases o with
   | none=>
    refine⟨λe he=>?_,?_⟩
    . rcases aah.mp he with rfl | he
      . trivial
      . exact ih'.1 e he
    . rw[aaP]
      . exact ih'.2
      . cases (U[i]?).join with
        | none=>rfl
        | some x=>cases x<;>rfl
   | some l=>
    rw[q]at h1;cases l with
    | own p=>cases h1
    | sh p=>
     have hi:i<U.length:=by rw[el]; exact(aal.mp q).1
     have hU:=aaj hi;have hm:=aaw (zip_get hU q);obtain⟨x,e1,e2⟩:=so.1 _ (aaG _ (aaM _ hm));have e1':U[i]=some x:=e1;have ej:(U[i]?).join=some x:=by rw[hU,e1']; rfl
     rw[ej];exact ih'.consS e2
end
theorem SR.pushO (s:SR K H0 Z0 U H Y ((v,l)::(.ref a,.own (.lst ws))::pd)):
 ∃us,H a=some (.lst us)/\us.length=ws.length/\SR K H0 Z0 U (upd H a (.lst (us++[v]))) Y ((.ref a,.own (.lst (ws++[l.pv])))::pd):=by
 obtain⟨el,Z,hg,z,r,so⟩:=s.freeze.sh;have so2:=so.perm dR.symm;obtain⟨b,eb,⟨us,hu,hr⟩,_⟩:=so2.1 _ aab;cases eb;refine⟨us,hu,hr.length,?_⟩;obtain⟨z',s'⟩:=so2.write (q:=.lst (ws++[l.pv])) z ⟨us++[v],cg,hr.append (aQ.cons r .nil)⟩;exact .mk el hg z' s'
def dj (b:BF) (tc:TF) (te:EF):List PV->Ev->List PV->Option (List PV×Mu)
 | [],Y,acc=>some (acc,Y.mu)
 | x::xs,Y,acc=>(b x Y).bind λY1=>(tc Y1).bind λc=>if c.1=true then (te c.2).bind λv=>if acc.length<100000 then dj b tc te xs v.2 (acc++[v.1.pv]) else none else dj b tc te xs c.2 acc
def bJ (f:IF) (m:Nat) (ixs:List Nat) (b:BF) (tc:TF) (te:EF):EF:=λY=>(f Y).bind λy=>(dj b tc te y.1 (rA m ixs (jy ixs y.2)) []).map λys=>(.own (.lst ys.1),⟨(jy ixs y.2).vs,ys.2⟩)
def CW (K:FG) (H0:Hp) (Z0:ZG) (b:BF) (tc:TF) (te:EF) (p:Addr) (PD:Pd) (xs:List PV) (zs:List PV×Mu) (i n:Nat) (U':L2.St) (H':Hp):Prop:=
 n=xs.length-i/\i<=xs.length/\∃Yi ws,SR K H0 Z0 U' H' Yi ((.ref p,.own (.lst ws))::PD)/\dj b tc te (xs.drop i) Yi ws=some zs
theorem N6 (hb:GS K g b) {PD:Pd} {Q:VK}
 (it:∀ws,mW K H0 Z0 ((.ref p,.own (.lst ws))::PD) J xs) (fin:∀U' H' Yi ws,SR K H0 Z0 U' H' Yi ((.ref p,.own (.lst ws))::PD)->dj b tc te [] Yi ws=some zs->Q (.ref p) H') (i n:Nat) (U':L2.St) (H':Hp) (w:CW K H0 Z0 b tc te p PD xs zs i n U' H'):
 (J.stop i H'/\Q (.ref p) H')\/(J.go i H'/\∀x H2,J.yld i H' x H2->g x U' H2 λU3 H3=>gM K tc U3 H3 λb' H4=>
   if b'=true then tP K te U3 H4 λv H5=>∃ys,H5 p=some (.lst ys)/\ys.length<sizeLine/\∃n',n'<n/\CW K H0 Z0 b tc te p PD xs zs (i+1) n' U3 (upd H5 p (.lst (ys++[v])))
   else ∃n',n'<n/\CW K H0 Z0 b tc te p PD xs zs (i+1) n' U3 H4):=by
 refine wD λG kG=>?_;obtain⟨rfl,hi,Yi,ws,s',h'⟩:=w;obtain⟨i1,i2⟩:=it ws U' H' Yi i s';by_cases hlt:i<xs.length
 . obtain⟨go,yl⟩:=i1 _ (aaj hlt);rw[abx hlt]at h';obtain⟨Y1,e1,e2⟩:=abY h';obtain⟨c,e3,e4⟩:=abY e2;have hn:xs.length-(i+1)<xs.length-i:=by omega
   refine kG (.inr ⟨go,λx H2 hy=>hb H0 Z0 U' H2 Yi _ x _ Y1 _ (yl x H2 hy) e1 λU2 s5=>⟨H0,Z0,Y1,_,c.1,c.2,s5,e3,λH4 s6=>?_⟩⟩);dsimp only;split
   . rename_i hc;refine wD λG kG=>?_;rw[abR hc]at e4;obtain⟨v,e5,e6⟩:=abY e4;split at e6
     . refine kG ⟨H0,Z0,c.2,_,v.1,v.2,s6,e5,λvv H5 s7=>?_⟩;refine wD λG kG=>?_;obtain⟨us,hu,hl,s8⟩:=s7.pushO;exact kG ⟨us,hu,by rw[hl,sizeLine_eq]; omega,_,hn,rfl,hlt,v.2,_,s8,e6⟩
     . cases e6
   . rename_i hc;rw[abS hc]at e4;exact⟨_,hn,rfl,hlt,c.2,ws,s6,e4⟩
 . have e:=Nat.le_antisymm hi (abC hlt);subst e;rw[List.drop_length]at h';exact kG (.inl ⟨i2 rfl,fin _ _ _ _ s' h'⟩)
theorem zg (hb:GS K g b):∀U H Q,tP K (bJ f m ixs b tc te) U H Q->Lf (yG K f) m ixs g (gM K tc) (tP K te) U H Q:=λU H Q q=>by refine wD λG kG=>?_;obtain⟨H0,Z0,Y,pd,r,Y',s,h,k⟩:=q;obtain⟨y,h1,h2⟩:=abY h;obtain⟨zs,h3,h4⟩:=abZ h2;cases h4;refine kG ⟨H0,Z0,Y,pd,y.1,y.2,s,h1,λJ H1 pd' s1 it sub p hp=>?_⟩;have s2:SR K H0 Z0 U H1 (jy ixs y.2) pd':=s1.frz;have s3:=s2.block (m:=m) λj hj=>N5 hj;have s4:SR K H0 Z0 (wy m ixs U) (upd H1 p (.lst [])) (rA m ixs (jy ixs y.2)) ((.ref p,.own (.lst []))::(qi U (jy ixs y.2)++pd')):=s3.newO hp λZ _ _=>⟨[],cg,.nil⟩;refine⟨CW K H0 Z0 b tc te p (qi U (jy ixs y.2)++pd') y.1 zs,⟨_,rfl,aa6 _,_,[],s4,h3⟩,N6 hb (λws=>mW.more (pe:=(.ref p,.own (.lst ws))::qi U (jy ixs y.2)) it) λU' H' Yi ws s' h'=>?_⟩;cases h';have s5:=s'.perm aaZ;exact k _ _ ((SR.back s2.1 s2.both s5).sub (sub.cons_cons _))
section
variable {X:Cx}
theorem jz (M F:List Str) (ixs:List Nat) (hcalm:X.calm=true) (c:iC X M F ixs sc) (hi:PI X tg iter (yG X.K f))
 (hg:∀C fp s H,PG (eV X M F sc C fp s H) tg g) (hb:GS X.K g b) (hc:∀C fp s H,qY (eV X M F sc C fp s H) ifs (gM X.K tc)) (he:∀C fp s H,PE (eV X M F sc C fp s H) elt (tP X.K te))
 (hs:∀x,foldedSetIterable iter X.env x=pure x:=by intro _; rfl):PE X (.ListComp elt [⟨tg,iter,ifs,0⟩] sc pos) (tP X.K (bJ f M.length ixs b tc te)):=PE.imp (Uj M F ixs hcalm c hi hg hc he hs) (zg hb)
theorem kj (M F:List Str) (ixs:List Nat) {pos pos' pos2:Pos} (hN:X.N.Nodup) (hix:X.N[i]?=some x) (hx:X.env.scope.names.lookup x=some .local)
 (hcalm:X.calm=true) (c:iC X M F ixs sc) (hi:PI X tg iter (yG X.K f))
 (hg:∀C fp s H,PG (eV X M F sc C fp s H) tg g) (hb:GS X.K g b) (hc:∀C fp s H,qY (eV X M F sc C fp s H) ifs (gM X.K tc)) (he:∀C fp s H,PE (eV X M F sc C fp s H) elt (tP X.K te))
 (hsw:swapsWith (.ListComp elt [⟨tg,iter,ifs,0⟩] sc pos) (some (.Name x pos')) pos2.line X.env=pure true:=by rfl)
 (hs:∀x,foldedSetIterable iter X.env x=pure x:=by intro _; rfl):PS X (.Assign [.Name x pos'] (.ListComp elt [⟨tg,iter,ifs,0⟩] sc pos) pos2) (fC X.K (aK i (bJ f M.length ixs b tc te))):=
 PS.imp (JK M F ixs hN hix hx hcalm c hi hg hc he hsw hs) (Ck λD U H q=>zg hb U H _ q)
def bK:TF:=λY=>some (true,Y)
theorem dF:qY X [] (gM X.K bK):=λadG s U H Q I q=>QR adG s U H Q I (by obtain⟨H0,Z0,Y,pd,b,Y',s,h,k⟩:=q;cases h;exact k H s)
theorem lB (h:PT X c (gM X.K f)):qY X [c] (gM X.K f):=QS h
end
def rB (f:PV->PV->Option Bool):List PV->List PV->Option Bool
 | p::ps,q::qs=>(f p q).bind λb=>(rB f ps qs).map λc=>b&&c
 | _,_=>some true
def cu:Nat->PV->PV->Option Bool
 | 0,_,_=>none
 | n+1,p,q=>match p,q with
  | .tup ps,.tup qs=>(rB (cu n) ps qs).map λb=>b&&(ps.length==qs.length)
  | .lst ps,.lst qs=>if ps.length=qs.length then rB (cu n) ps qs else some false
  | .non,.non=>some true
  | .bl a,.bl b=>some (a==b)
  | .int a,.int b=>some (a==b)
  | .str a,.str b=>some (a==b)
  | .bl a,.int b=>some ((if a then 1 else 0)==b)
  | .int a,.bl b=>some (a==(if b then 1 else 0))
  | .non,.bl _=>some false
  | .non,.int _=>some false
  | .non,.str _=>some false
  | .non,.tup _=>some false
  | .non,.lst _=>some false
  | .bl _,.non=>some false
  | .bl _,.str _=>some false
  | .bl _,.tup _=>some false
  | .bl _,.lst _=>some false
  | .int _,.non=>some false
  | .int _,.str _=>some false
  | .int _,.tup _=>some false
  | .int _,.lst _=>some false
  | .str _,.non=>some false
  | .str _,.bl _=>some false
  | .str _,.int _=>some false
  | .str _,.tup _=>some false
  | .str _,.lst _=>some false
  | .tup _,.non=>some false
  | .tup _,.bl _=>some false
  | .tup _,.int _=>some false
  | .tup _,.str _=>some false
  | .tup _,.lst _=>some false
  | .lst _,.non=>some false
  | .lst _,.bl _=>some false
  | .lst _,.int _=>some false
  | .lst _,.str _=>some false
  | .lst _,.tup _=>some false
  | _,_=>none
theorem xV:∀{ps qs:List PV} {b:Bool},rB f ps qs=some b->(∀(j:Nat) p q,ps[j]?=some p->qs[j]?=some q->f p q=some ((f (ps.getD j .non) (qs.getD j .non)).getD false))/\
 b=(List.range (min ps.length qs.length)).all λj=>(f (ps.getD j .non) (qs.getD j .non)).getD false
 | [],qs,b,h=>by cases h;exact⟨λj p q e=>by simp at e,by simp⟩
 | p::ps,[],b,h=>by cases h;exact⟨λj p q _ e=>by simp at e,by simp⟩
 | p::ps,q::qs,b,h=>by
  obtain⟨c,h1,h2⟩:=abY h;obtain⟨d,h3,rfl⟩:=abZ h2;obtain⟨i1,i2⟩:=xV h3;refine⟨λj p' q' e1 e2=>?_,?_⟩
  . cases j with
    | zero=>
     simp at e1 e2;subst e1 e2;simp[h1]
    | succ j=>
     have:=i1 j p' q' (by simpa using e1) (by simpa using e2);simpa using this
  . have e:min (p::ps).length (q::qs).length=min ps.length qs.length+1:=by simp only[aac]; omega
    rw[e,List.range_succ_eq_map,List.all_cons,List.all_map];have e0:(f ((p::ps).getD 0 .non) ((q::qs).getD 0 .non)).getD false=c:=by simp[h1]
    rw[e0,i2];rfl
theorem elts (r:aQ K Z ps vs) (rv:Vals vs its) (h:j<its.length):∃p v,ps[j]?=some p/\Rep K Z p v/\RelV v its[j]:=by have hl:=rv.length;have hv:vs[j]?=some vs[j]:=aaj (by omega);obtain⟨u,e1,e2⟩:=rv.get hv;rw[aaj h]at e1;cases e1;obtain⟨p,e3,e4⟩:=r.getV hv;exact⟨p,vs[j],e3,e4,e2⟩
section
open PySem.SeqAt
variable {X:Cx} {adG:List (Addr×Obj)} {U:L2.St} {H:Hp} {s:Shared} {g:List Addr}
theorem ut (I:Inv X adG U H s) (r:Rep X.K ⟨H,g⟩ (.tup ps) v) (ru:RelV v u):∃a vs its,u=.ref a/\fj X.K H a vs/\aQ X.K ⟨H,g⟩ ps vs/\Vals vs its/\s.heap.IsTuple a its.toArray:=by obtain⟨a,vs,rfl,h1,h2⟩:=r;obtain⟨its,r1,t1,_⟩:=I.tuple h1;exact⟨a,vs,its,ru,h1,h2,r1,t1⟩
theorem pM (I:Inv X adG U H s) (r:Rep X.K ⟨H,g⟩ (.lst ps) v) (ru:RelV v u):∃a vs its,u=.ref a/\cz X.K H a vs/\aQ X.K ⟨H,g⟩ ps vs/\Vals vs its/\s.heap.IsList a its.toArray:=by obtain⟨a,vs,rfl,h1,h2⟩:=r;obtain⟨its,r1,t1,_⟩:=I.list h1;exact⟨a,vs,its,ru,h1,h2,r1,t1.isList⟩
def kn:PV->Nat
 | .non=>0 | .bl _=>1 | .int _=>2 | .str _=>3 | .tup _=>4 | .lst _=>5 | _=>6
theorem YW (h:kn p=4):∃ps,p=.tup ps:=by cases p<;>first | exact⟨_,rfl⟩ | cases h
theorem YX (h:kn p=5):∃ps,p=.lst ps:=by cases p<;>first | exact⟨_,rfl⟩ | cases h
theorem Ab (h:cu (n+1) p q=some b):kn p<6:=by cases p<;>first | cases h; done | exact Nat.le.step (Nat.le.step (Nat.le.step (Nat.le.step (Nat.le.step .refl)))) | exact Nat.le.step (Nat.le.step (Nat.le.step (Nat.le.step .refl))) | exact Nat.le.step (Nat.le.step (Nat.le.step .refl)) | exact Nat.le.step (Nat.le.step .refl) | exact Nat.le.step .refl | exact Nat.le.refl
theorem SJ (h:cu (n+1) p q=some b):kn q<6:=by
 have no:cu (n+1) p q=none->kn q<6:=λe=>absurd (h.symm.trans e) (Option.some_ne_none b);cases q with
 | dk _ _=>exact no (by cases p<;>rfl)
 | dt _ _=>exact no (by cases p<;>rfl)
 | obj _ _ _=>exact no (by cases p<;>rfl)
 | df _ _=>exact no (by cases p<;>rfl)
 | dtf _ _=>exact no (by cases p<;>rfl)
 | dx _ _ _=>exact no (by cases p<;>rfl)
 | exc _=>exact no (by cases p<;>rfl)
 | fn _=>exact no (by cases p<;>rfl)
 | ptr _=>exact no (by cases p<;>rfl)
 | _=>first | exact Nat.le.step (Nat.le.step (Nat.le.step (Nat.le.step (Nat.le.step .refl)))) | exact Nat.le.step (Nat.le.step (Nat.le.step (Nat.le.step .refl))) | exact Nat.le.step (Nat.le.step (Nat.le.step .refl)) | exact Nat.le.step (Nat.le.step .refl) | exact Nat.le.step .refl | exact Nat.le.refl
def back:V->Option PV
 | .non=>some .non | .bl b=>some (.bl b) | .int i=>some (.int i) | .str x=>some (.str x) | _=>none
inductive Sh (K:FG) (Z:ZG) (v:V):PV->Prop
 | at {p:PV}:back v=some p->Sh K Z v p
 | tup {a:Addr} {ps:List PV} {vs:List V}:v=.ref a->fj K Z.z a vs->aQ K Z ps vs->Sh K Z v (.tup ps)
 | lst {a:Addr} {ps:List PV} {vs:List V}:v=.ref a->cz K Z.z a vs->aQ K Z ps vs->Sh K Z v (.lst ps)
theorem Fy (r:Rep K Z p v) (h:kn p<6):Sh K Z v p:=by
 cases p with
 | non=>exact .at (congrArg back (iw r))
 | bl b=>exact .at (congrArg back (fM r))
 | int b=>exact .at (congrArg back (bR r))
 | str b=>exact .at (congrArg back (cY r))
 | tup ps=> obtain⟨a,vs,e,h1,h2⟩:=r; exact .tup e h1 h2
 | lst ps=> obtain⟨a,vs,e,h1,h2⟩:=r; exact .lst e h1 h2
 | _=>exact absurd h (aba 6)
inductive Tw (K:FG) (Z:ZG):PV->PV->Prop
 | at {v:V} {p:PV}:back v=some p->Tw K Z p p
 | tup {ps qs:List PV} {vs:List V}:aQ K Z ps vs->aQ K Z qs vs->Tw K Z (.tup ps) (.tup qs)
 | lst {ps qs:List PV} {vs:List V}:aQ K Z ps vs->aQ K Z qs vs->Tw K Z (.lst ps) (.lst qs)
theorem SM (I:Inv X adG U H s) (h1:fj X.K H a vs) (h3:cz X.K H a ws):False:=by obtain⟨its,r1,⟨o1,n1,g1,c1,_⟩,_⟩:=I.list h3;obtain⟨its2,r2,⟨o2,g2,c2,_⟩,_⟩:=I.tuple h1;rw[g1]at g2;cases g2;rw[c1]at c2;exact absurd c2 (by decide)
theorem uT (e:v=.ref a) (h:back v=some p):False:=by subst e; cases h
theorem Sh.two (I:Inv X adG U H s) (h1:Sh X.K ⟨H,g⟩ v p) (h2:Sh X.K ⟨H,g⟩ v q):Tw X.K ⟨H,g⟩ p q:=by
 cases h1 with
 | «at» e=>
  cases h2 with
  | «at» e'=>exact(aap (e.symm.trans e'))▸.at e
  | tup e'=>exact(uT e' e).elim
  | lst e'=>exact(uT e' e).elim
 | tup e k1 k2=>
  cases h2 with
  | «at» e'=>exact(uT e e').elim
  | tup e' m1 m2=>exact .tup k2 (I.tuple_inj k1 (V.ref.inj (e'.symm.trans e)▸m1)▸m2)
  | lst e' m1=>exact(SM I k1 (V.ref.inj (e'.symm.trans e)▸m1)).elim
 | lst e k1 k2=>
  cases h2 with
  | «at» e'=>exact(uT e e').elim
  | tup e' m1=>exact(SM I m1 (V.ref.inj (e.symm.trans e')▸k1)).elim
  | lst e' m1 m2=>exact .lst k2 (I.list_inj k1 (V.ref.inj (e'.symm.trans e)▸m1)▸m2)
theorem WT (e:back v=some p) (h:cu (n+1) p p=some b):b=true:=by
 cases v with
 | non=>cases e; cases h; rfl
 | bl z=>cases e; cases h; exact abX z
 | int z=>cases e; cases h; exact abX z
 | str z=>cases e; cases h; exact abX z
 | _=>cases e
theorem wG (ih:∀(p q:PV) (v:V) (b:Bool),Rep K Z p v->Rep K Z q v->f p q=some b->b=true):∀{ps qs:List PV} {vs:List V} {c:Bool},aQ K Z ps vs->aQ K Z qs vs->rB f ps qs=some c->c=true
 | [],qs,vs,c,a,b,h=>by cases h; rfl
 | p::ps,[],vs,c,a,b,h=>by cases h; rfl
 | p::ps,q::qs,vs,c,a,b,h=>by obtain⟨w1,r1,e1,e2,e3⟩:=a.inv;obtain⟨w2,r2,f1,f2,f3⟩:=b.inv;obtain⟨g1,g2⟩:=List.cons.inj (e1.symm.trans f1);subst g1 g2;obtain⟨c,h1,h2⟩:=abY h;obtain⟨d,h3,rfl⟩:=abZ h2;rw[ih _ _ _ _ e2 f2 h1,wG ih e3 f3 h3];rfl
theorem uU (ih:∀(p q r:PV) (v:V) (b c:Bool),Rep K Z p v->Rep K Z q v->f p r=some b->f q r=some c->b=c):∀{ps qs rs:List PV} {vs:List V} {b c:Bool},aQ K Z ps vs->aQ K Z qs vs->rB f ps rs=some b->rB f qs rs=some c->b=c
 | [],[],rs,vs,b,c,_,_,h,k=>aap (h.symm.trans k)
 | [],q::qs,rs,vs,b,c,a,b',h,k=>by obtain⟨_,_,e,_⟩:=b'.inv;exact absurd (a.inv0.symm.trans e) (by simp)
 | p::ps,[],rs,vs,b,c,a,b',h,k=>by obtain⟨_,_,e,_⟩:=a.inv;exact absurd (b'.inv0.symm.trans e) (by simp)
 | p::ps,q::qs,[],vs,b,c,a,b',h,k=>aap (h.symm.trans k)
 | p::ps,q::qs,r::rs,vs,b,c,a,b',h,k=>by obtain⟨w1,r1,e1,e2,e3⟩:=a.inv;obtain⟨w2,r2,f1,f2,f3⟩:=b'.inv;obtain⟨g1,g2⟩:=List.cons.inj (e1.symm.trans f1);subst g1 g2;obtain⟨x1,h1,h2⟩:=abY h;obtain⟨d1,h3,rfl⟩:=abZ h2;obtain⟨x2,k1,k2⟩:=abY k;obtain⟨d2,k3,rfl⟩:=abZ k2;rw[ih _ _ _ _ _ _ e2 f2 h1 k1,uU ih e3 f3 h3 k3]
theorem eq_self (I:Inv X adG U H s):∀(n:Nat) {p q:PV} {v:V} {b:Bool},Rep X.K ⟨H,g⟩ p v->Rep X.K ⟨H,g⟩ q v->cu n p q=some b->b=true
 | 0,p,q,v,b,_,_,h=>by cases h
 | n+1,p,q,v,b,rp,rq,h=>by
  cases Sh.two I (Fy rp (Ab h)) (Fy rq (SJ h)) with
  | «at» e=>exact WT e h
  | tup h2 h4=>
   obtain⟨c,h5,rfl⟩:=abZ h;rw[wG (λ_ _ _ _=>eq_self I n) h2 h4 h5,h2.length.symm.trans h4.length,abX];rfl
  | lst h2 h4=>exact wG (λ_ _ _ _=>eq_self I n) h2 h4 ((abR (h2.length.symm.trans h4.length)).symm.trans h)
inductive U_ (s:Shared):PV->Value->Prop
 | non:U_ s .non .none
 | bl {b:Bool}:U_ s (.bl b) (.bool b)
 | int {i:Int} {t}:U_ s (.int i) (.int i t)
 | str {x:Str} {t}:U_ s (.str x) (.str x t)
 | tup {ps:List PV} {a:Addr} {its}:s.heap.IsTuple a its->U_ s (.tup ps) (.ref a)
 | lst {ps:List PV} {a:Addr} {its}:s.heap.IsList a its->U_ s (.lst ps) (.ref a)
theorem WW (I:Inv X adG U H s) (r:Rep X.K ⟨H,g⟩ p v) (ru:RelV v u) (h:kn p<6):U_ s p u:=by
 cases p with
 | non=>cases iw r; cases ru; exact .non
 | bl b=>cases fM r; cases ru; exact .bl
 | int b=>cases bR r; obtain⟨t,rfl⟩:=ru; exact .int
 | str b=>cases cY r; obtain⟨t,rfl⟩:=ru; exact .str
 | tup ps=>obtain⟨a,vs,its,rfl,_,_,_,x⟩:=ut I r ru; exact .tup x
 | lst ps=>obtain⟨a,vs,its,rfl,_,_,_,x⟩:=pM I r ru; exact .lst x
 | _=>exact absurd h (aba 6)
def E3 (A:Around) (s:Shared) (x y:Value) (b:Bool):Prop:=EqAt A s x y b/\RcAt A s x y b/\RcNeAt A s x y (!b)
theorem E3.of (h:some c=some b) (e:EqAt A s x y c) (r:RcAt A s x y c) (q:RcNeAt A s x y (!c)):E3 A s x y b:=aap h▸⟨e,r,q⟩
def two (p q:PV):Bool:=kn p==kn q&&Nat.ble 4 (kn p)
theorem Uv (hu:A.units<cLine) (h1:U_ s p u1) (h2:U_ s q u2) (e:two p q=false) (h:cu (n+1) p q=some b):E3 A s u1 u2 b:=by
 cases h1 with
 | non=>
  cases h2 with
  | non=>exact E3.of h (EqAt.same .none) RcAt.none_none RcNeAt.none_none
  | bl=>exact E3.of h (EqAt.none_bool _) (RcAt.none_bool _) (RcNeAt.none_bool _)
  | int=>exact E3.of h (EqAt.none_int _ _) (RcAt.none_int _ _) (RcNeAt.none_int _ _)
  | str=>exact E3.of h (EqAt.none_str _ _) (RcAt.none_str _ _) (RcNeAt.none_str _ _)
  | tup x2=>exact E3.of h (EqAt.none_tuple x2 hu) (RcAt.none_tuple x2 hu) (RcNeAt.none_tuple x2 hu)
  | lst x2=>exact E3.of h (EqAt.none_list x2 hu) (RcAt.none_list x2 hu) (RcNeAt.none_list x2 hu)
 | bl=>
  cases h2 with
  | non=>exact E3.of h (EqAt.bool_none _) (RcAt.bool_none _) (RcNeAt.bool_none _)
  | bl=>exact E3.of h (EqAt.bool_bool _ _) (RcAt.bool_bool _ _) (RcNeAt.bool_bool _ _)
  | int=>exact E3.of h (EqAt.bool_int _ _ _) (RcAt.bool_int _ _ _) (RcNeAt.bool_int _ _ _)
  | str=>exact E3.of h (EqAt.bool_str _ _ _) (RcAt.bool_str _ _ _) (RcNeAt.bool_str _ _ _)
  | tup x2=>exact E3.of h (EqAt.bool_tuple _ x2 hu) (RcAt.bool_tuple _ x2 hu) (RcNeAt.bool_tuple _ x2 hu)
  | lst x2=>exact E3.of h (EqAt.bool_list _ x2 hu) (RcAt.bool_list _ x2 hu) (RcNeAt.bool_list _ x2 hu)
 | int=>
  cases h2 with
  | non=>exact E3.of h (EqAt.int_none _ _) (RcAt.int_none _ _) (RcNeAt.int_none _ _)
  | bl=>exact E3.of h (EqAt.int_bool _ _ _) (RcAt.int_bool _ _ _) (RcNeAt.int_bool _ _ _)
  | int=>exact E3.of h (EqAt.int_int _ _ _ _) (RcAt.int_int _ _ _ _) (RcNeAt.int_int _ _ _ _)
  | str=>exact E3.of h (EqAt.int_str _ _ _ _) (RcAt.int_str _ _ _ _) (RcNeAt.int_str _ _ _ _)
  | tup x2=>exact E3.of h (EqAt.int_tuple _ _ x2 hu) (RcAt.int_tuple _ _ x2 hu) (RcNeAt.int_tuple _ _ x2 hu)
  | lst x2=>exact E3.of h (EqAt.int_list _ _ x2 hu) (RcAt.int_list _ _ x2 hu) (RcNeAt.int_list _ _ x2 hu)
 | str=>
  cases h2 with
  | non=>exact E3.of h (EqAt.str_none _ _) (RcAt.str_none _ _) (RcNeAt.str_none _ _)
  | bl=>exact E3.of h (EqAt.str_bool _ _ _) (RcAt.str_bool _ _ _) (RcNeAt.str_bool _ _ _)
  | int=>exact E3.of h (EqAt.str_int _ _ _ _) (RcAt.str_int _ _ _ _) (RcNeAt.str_int _ _ _ _)
  | str=>exact E3.of h (EqAt.str_str _ _ _ _) (RcAt.str_str _ _ _ _) (RcNeAt.str_str _ _ _ _)
  | tup x2=>exact E3.of h (EqAt.str_tuple _ _ x2 hu) (RcAt.str_tuple _ _ x2 hu) (RcNeAt.str_tuple _ _ x2 hu)
  | lst x2=>exact E3.of h (EqAt.str_list _ _ x2 hu) (RcAt.str_list _ _ x2 hu) (RcNeAt.str_list _ _ x2 hu)
 | tup x1=>
  cases h2 with
  | non=>exact E3.of h (EqAt.tuple_none x1 hu) (RcAt.tuple_none x1 hu) (RcNeAt.tuple_none x1 hu)
  | bl=>exact E3.of h (EqAt.tuple_bool _ x1 hu) (RcAt.tuple_bool _ x1 hu) (RcNeAt.tuple_bool _ x1 hu)
  | int=>exact E3.of h (EqAt.tuple_int _ _ x1 hu) (RcAt.tuple_int _ _ x1 hu) (RcNeAt.tuple_int _ _ x1 hu)
  | str=>exact E3.of h (EqAt.tuple_str _ _ x1 hu) (RcAt.tuple_str _ _ x1 hu) (RcNeAt.tuple_str _ _ x1 hu)
  | tup x2=>cases e
  | lst x2=>exact E3.of h (EqAt.tuple_list x1 x2 hu) (RcAt.tuple_list x1 x2 hu) (RcNeAt.tuple_list x1 x2 hu)
 | lst x1=>
  cases h2 with
  | non=>exact E3.of h (EqAt.list_none x1 hu) (RcAt.list_none x1 hu) (RcNeAt.list_none x1 hu)
  | bl=>exact E3.of h (EqAt.list_bool _ x1 hu) (RcAt.list_bool _ x1 hu) (RcNeAt.list_bool _ x1 hu)
  | int=>exact E3.of h (EqAt.list_int _ _ x1 hu) (RcAt.list_int _ _ x1 hu) (RcNeAt.list_int _ _ x1 hu)
  | str=>exact E3.of h (EqAt.list_str _ _ x1 hu) (RcAt.list_str _ _ x1 hu) (RcNeAt.list_str _ _ x1 hu)
  | tup x2=>exact E3.of h (EqAt.list_tuple x1 x2 hu) (RcAt.list_tuple x1 x2 hu) (RcNeAt.list_tuple x1 x2 hu)
  | lst x2=>cases e
theorem uV (r:RelV v (.ref a)):v=.ref a:=by
 cases v with
 | ref b=>cases r; rfl
 | non=>cases r
 | bl _=>cases r
 | ty _=>cases r
 | _=>obtain⟨t,e⟩:=r; cases e
theorem G7 (I:Inv X adG U H s) (rp:Rep X.K ⟨H,g⟩ p (.ref a1)) (rq:Rep X.K ⟨H,g⟩ q (.ref a2)) (h:cu n p q=some b) (rc:RcAt A s (.ref a1) (.ref a2) b):EqAt A s (.ref a1) (.ref a2) b:=by
 by_cases ea:a1=a2
 . subst ea;exact eq_self I n rp rq h▸EqAt.same _
 . exact EqAt.of_refs ea rc
theorem Ac (I:Inv X adG U H s):∀(n:Nat) {p q:PV} {v w:V} {u1 u2:Value} {b:Bool},Rep X.K ⟨H,g⟩ p v->Rep X.K ⟨H,g⟩ q w->RelV v u1->RelV w u2->cu n p q=some b->∀A:Around,A.units+n<cLine->
 EqAt A s u1 u2 b/\RcAt A s u1 u2 b/\RcNeAt A s u1 u2 (!b)
 | 0,p,q,v,w,u1,u2,b,_,_,_,_,h,_,_=>by cases h
 | n+1,p,q,v,w,u1,u2,b,rp,rq,r1,r2,h,A,hA=>by
  have hu:=abz (Nat.le_add_right _ _) hA;have hin:A.in1.units+n<cLine:=by show A.units+1+n<cLine; omega
  have item:∀{ps qs:List PV} {vs ws:List V} {its its2:List Value} {c:Bool},aQ X.K ⟨H,g⟩ ps vs->Vals vs its->aQ X.K ⟨H,g⟩ qs ws->Vals ws its2->rB (cu n) ps qs=some c->
   ∀j (h1:j<its.toArray.size) (h2:j<its2.toArray.size),EqAt A.in1 s its.toArray[j] its2.toArray[j] ((cu n (ps.getD j .non) (qs.getD j .non)).getD false):=λ{ps qs vs ws its its2 c} a b c' d e j h1 h2=>by
   obtain⟨p,v,e1,e2,e3⟩:=elts a b (by simpa using h1);obtain⟨q,w,f1,f2,f3⟩:=elts c' d (by simpa using h2);have:=(xV e).1 j p q e1 f1;exact(Ac I n e2 f2 e3 f3 this A.in1 hin).1
  cases e:two p q with
  | false=>exact Uv hu (WW I rp r1 (Ab h)) (WW I rq r2 (SJ h)) e h
  | true=>
   have e':kn p=kn q/\4<=kn p:=by unfold two at e; simpa using e
   have hk:=Ab h;rcases (by omega:kn p=4\/kn p=5) with hp | hp
   . obtain⟨ps,rfl⟩:=YW hp;obtain⟨qs,rfl⟩:=YW (e'.1.symm.trans hp);obtain⟨a1,vs1,its1,rfl,q1,l1,rv1,x1⟩:=ut I rp r1;obtain⟨a2,vs2,its2,rfl,q2,l2,rv2,x2⟩:=ut I rq r2;have e1:=uV r1;have e2:=uV r2;subst e1 e2;obtain⟨c,h5,rfl⟩:=abZ h;have it:=item l1 rv1 l2 rv2 h5;have z1:its1.toArray.size=ps.length:=by rw[aam,<-rv1.length,l1.length]
     have z2:its2.toArray.size=qs.length:=by rw[aam,<-rv2.length,l2.length]
     have rc:=RcAt.tuples x1 x2 hu it;have rn:=RcNeAt.tuples x1 x2 hu it;rw[z1,z2,<-(xV h5).2]at rc rn;exact⟨G7 I rp rq h rc,rc,rn⟩
   . obtain⟨ps,rfl⟩:=YX hp;obtain⟨qs,rfl⟩:=YX (e'.1.symm.trans hp);obtain⟨a1,vs1,its1,rfl,q1,l1,rv1,x1⟩:=pM I rp r1;obtain⟨a2,vs2,its2,rfl,q2,l2,rv2,x2⟩:=pM I rq r2;have e1:=uV r1;have e2:=uV r2;subst e1 e2;have z1:its1.toArray.size=ps.length:=by rw[aam,<-rv1.length,l1.length]
     have z2:its2.toArray.size=qs.length:=by rw[aam,<-rv2.length,l2.length]
     by_cases hl:ps.length=qs.length
     . have h':=(abR hl).symm.trans h;have it:=item l1 rv1 l2 rv2 h';have hz:=(z1.trans hl).trans z2.symm;have rc:=RcAt.lists x1 x2 hz hu it;have rn:=RcNeAt.lists x1 x2 hz hu it;rw[z1,<-(show min ps.length qs.length=ps.length by rw[<-hl,Nat.min_self]),<-(xV h').2]at rc rn;exact⟨G7 I rp rq h rc,rc,rn⟩
     . have h':=aap ((abS hl).symm.trans h);subst h';have hz:(its1.toArray.size != its2.toArray.size)=true:=by rw[z1,z2]; exact bne_iff_ne.mpr hl
       have rc:=RcAt.lists_lengths x1 x2 hz hu;exact⟨G7 I rp rq h rc,rc,RcNeAt.lists_lengths x1 x2 hz hu⟩
end
section
open PySem.SeqAt
variable {X:Cx} {adG:List (Addr×Obj)} {U:L2.St} {H:Hp} {s:Shared} {g:List Addr}
theorem JQ (h:cu (n+1) (.tup ps) r=some b):b=false\/∃rs,r=.tup rs:=by
 cases r with
 | tup rs=>exact .inr ⟨rs,rfl⟩
 | _=>cases h<;>exact .inl rfl
theorem JR (h:cu (n+1) (.lst ps) r=some b):b=false\/∃rs,r=.lst rs:=by
 cases r with
 | lst rs=>exact .inr ⟨rs,rfl⟩
 | _=>cases h<;>exact .inl rfl
theorem Ad (I:Inv X adG U H s):∀(n:Nat) {p q r:PV} {v:V} {b c:Bool},Rep X.K ⟨H,g⟩ p v->Rep X.K ⟨H,g⟩ q v->cu n p r=some b->cu n q r=some c->b=c
 | 0,p,q,r,v,b,c,_,_,h,_=>by cases h
 | n+1,p,q,r,v,b,c,rp,rq,h,k=>by
  cases Sh.two I (Fy rp (Ab h)) (Fy rq (Ab k)) with
  | «at» e=>exact aap (h.symm.trans k)
  | @tup ps qs _ h2 h4=>
   have el:=h2.length.symm.trans h4.length;rcases JQ h with rfl | ⟨rs,rfl⟩
   . rcases JQ k with rfl | ⟨rs,rfl⟩
     . rfl
     . obtain⟨c1,h5,e1⟩:=abZ h;obtain⟨c2,k5,rfl⟩:=abZ k;rw[<-uU (f:=cu n) (λ_ _ _ _ _ _=>Ad I n) h2 h4 h5 k5,<-el,e1]
   . obtain⟨c1,h5,rfl⟩:=abZ h;obtain⟨c2,k5,rfl⟩:=abZ k;rw[uU (f:=cu n) (λ_ _ _ _ _ _=>Ad I n) h2 h4 h5 k5,el]
  | @lst ps qs _ h2 h4=>
   have el:=h2.length.symm.trans h4.length;have main:∀rs,r=.lst rs->b=c:=λrs e=>by
    subst e;by_cases hl:qs.length=rs.length
    . exact uU (f:=cu n) (λ_ _ _ _ _ _=>Ad I n) h2 h4 ((abR (el.trans hl)).symm.trans h) ((abR hl).symm.trans k)
    . exact aap ((((abS λe=>hl (el.symm.trans e)).symm.trans h).symm.trans ((abS hl).symm.trans k)))
   rcases JR h with e1 | ⟨rs,e⟩
   . rcases JR k with e2 | ⟨rs,e⟩
     . exact e1.trans e2.symm
     . exact main rs e
   . exact main rs e
def jO (f:PV->PV->Option Bool) (x:PV):List PV->Option Bool
 | []=>some false
 | q::qs=>(f q x).bind λb=>(jO f x qs).map λc=>b||c
theorem uv:∀{qs:List PV} {b:Bool},jO f x qs=some b->(∀q∈qs,∃c,f q x=some c)/\b=qs.any λq=>(f q x).getD false
 | [],b,h=>by cases h; exact⟨λq hq=>by simp at hq,rfl⟩
 | q::qs,b,h=>by
  obtain⟨c,h1,h2⟩:=abY h;obtain⟨d,h3,rfl⟩:=abZ h2;obtain⟨i1,i2⟩:=uv h3;refine⟨λq' hq=>?_,?_⟩
  . rcases aah.mp hq with rfl | hq
    . exact⟨c,h1⟩
    . exact i1 q' hq
  . rw[abL,h1,abO,<-i2]
open Classical in
def worth (K:FG) (Z:ZG) (x:PV) (qs:List PV) (vs:List V) (its:List Value) (u:Value):Bool:=
 if h:∃(j:Nat) (q:PV),qs[j]?=some q/\its[j]?=some u then (cu 150 h.choose_spec.choose x).getD false else false
theorem uW (I:Inv X adG U H s) {xv:V} {xu:Value} (r:aQ X.K ⟨H,g⟩ qs vs) (rv:Vals vs its) (hx:∀q∈qs,∃c,cu 150 q x=some c) {j:Nat} (e1:qs[j]?=some q) (e2:its[j]?=some u):
 worth X.K ⟨H,g⟩ x qs vs its u=(cu 150 q x).getD false:=by
 have h:∃(j:Nat) (q:PV),qs[j]?=some q/\its[j]?=some u:=⟨j,q,e1,e2⟩;unfold worth;rw[dif_pos h];obtain⟨f1,f2⟩:=h.choose_spec.choose_spec;generalize h.choose_spec.choose=q' at f1 f2;obtain⟨v1,g1,g2⟩:=r.get e1;obtain⟨v2,k1,k2⟩:=r.get f1;obtain⟨u1,m1,m2⟩:=rv.get g1;obtain⟨u2,n1,n2⟩:=rv.get k1;rw[e2]at m1; cases m1;rw[f2]at n1; cases n1;have ev:=RelV.inj m2 n2;subst ev;obtain⟨c1,h1⟩:=hx q (aaw e1);obtain⟨c2,h2⟩:=hx q' (aaw f1);rw[h1,h2,Ad I 150 k2 g2 h2 h1]
theorem oU (I:Inv X adG U H s) (rx:Rep X.K ⟨H,g⟩ x xv) (ru:RelV xv xu) (r:aQ X.K ⟨H,g⟩ qs vs) (rv:Vals vs its) (hx:∀q∈qs,∃c,cu 150 q x=some c) (hA:A.units+150<cLine):
 ∀u,u∈its.toArray->EqAt A s u xu (worth X.K ⟨H,g⟩ x qs vs its u):=λu hu=>by
 have hu':u∈its:=by simpa using hu
 obtain⟨j,hj,e⟩:=List.getElem_of_mem hu';have e2:its[j]?=some u:=by rw[aaj hj,e]
 have hl:=rv.length;have hlr:=r.length;have e1:qs[j]?=some (qs[j]'(by omega)):=aaj _;rw[uW (xv:=xv) (xu:=xu) I r rv hx e1 e2];obtain⟨v1,g1,g2⟩:=r.get e1;obtain⟨u1,m1,m2⟩:=rv.get g1;rw[e2]at m1; cases m1;obtain⟨c1,h1⟩:=hx _ (aaw e1);rw[h1];exact(Ac I 150 g2 rx m2 ru h1 A hA).1
theorem sJ (I:Inv X adG U H s) {xv:V} {xu:Value} (r:aQ X.K ⟨H,g⟩ qs vs) (rv:Vals vs its) (hx:∀q∈qs,∃c,cu 150 q x=some c):
 its.toArray.any (worth X.K ⟨H,g⟩ x qs vs its)=qs.any λq=>(cu 150 q x).getD false:=by
 have hl:its.length=qs.length:=by rw[<-rv.length,r.length]
 have key:its.map (worth X.K ⟨H,g⟩ x qs vs its)=qs.map λq=>(cu 150 q x).getD false:=by
  apply List.ext_getElem?;intro j;rw[aay,aay];by_cases hj:j<its.length
  . have e2:=aaj hj;have e1:qs[j]?=some (qs[j]'(by omega)):=aaj _;rw[e2,e1,abf,abf,uW (xv:=xv) (xu:=xu) I r rv hx e1 e2]
  . rw[abD (by omega),abD (by omega)];rfl
 rw[show its.toArray.any (worth X.K ⟨H,g⟩ x qs vs its)=its.any (worth X.K ⟨H,g⟩ x qs vs its) by simp];have a1:its.any (worth X.K ⟨H,g⟩ x qs vs its)=(its.map (worth X.K ⟨H,g⟩ x qs vs its)).any id:=by simp[List.any_map]
 have a2:(qs.any λq=>(cu 150 q x).getD false)=(qs.map λq=>(cu 150 q x).getD false).any id:=by simp[List.any_map]
 rw[a1,a2,key]
end
section
variable {X:Cx}
theorem SR.rep2 (h:SR K H0 Z0 U H Y ((w,.sh q)::(v,.sh p)::pd)):∃Z:ZG,dC Z.z H/\Rep K Z p v/\Rep K Z q w:=by obtain⟨_,Z,_,z,r,s⟩:=h.sh;obtain⟨x,e1,e2⟩:=(s.perm dR.symm).1 _ aab;cases e1;exact⟨Z,z.zh,e2,r⟩
theorem SR.rep2H (h:SR K H0 Z0 U H Y ((w,.sh q)::(v,.sh p)::pd)):∃g,Rep K ⟨H,g⟩ p v/\Rep K ⟨H,g⟩ q w:=by obtain⟨Z,z,a,b⟩:=h.rep2;exact⟨Z.g,a.mono (Z':=⟨H,Z.g⟩) ⟨z,aaY _⟩,b.mono (Z':=⟨H,Z.g⟩) ⟨z,aaY _⟩⟩
def G8 (K:FG) (neg:Bool):R2:=λx y H Q=>∃g p q b,Rep K ⟨H,g⟩ p x/\Rep K ⟨H,g⟩ q y/\cu 150 p q=some b/\Q (.bl (if neg then !b else b)) H
theorem dh (hr:fL b k X.A):fP X (compareOp .Eq) (G8 X.K false):=by
 intro adG s U H x y v u Q I rx ry h;obtain⟨g,p,q,b,rp,rq,e,k'⟩:=h;have hA:X.A.units+150<cLine:=by have:=hr.un; omega
 obtain⟨_,rc,_⟩:=Ac I 150 rp rq rx ry e X.A hA;exact rc _ _ _ _ ⟨.bl b,H,I,rfl,k'⟩
theorem pN (hr:fL b k X.A):fP X (compareOp .NotEq) (G8 X.K true):=by
 intro adG s U H x y v u Q I rx ry h;obtain⟨g,p,q,b,rp,rq,e,k'⟩:=h;have hA:X.A.units+150<cLine:=by have:=hr.un; omega
 obtain⟨_,_,rn⟩:=Ac I 150 rp rq rx ry e X.A hA;exact rn _ _ _ _ ⟨.bl (!b),H,I,rfl,k'⟩
def eqP (p q:PV):Option Lc:=(cu 150 p q).map λb=>.sh (.bl b)
def mC (p q:PV):Option Lc:=(cu 150 p q).map λb=>.sh (.bl (!b))
theorem di:jg K (G8 K false) eqP:=by intro H0 Z0 U Y pd H v w x y l Q s e k;obtain⟨b,e1,rfl⟩:=abZ e;obtain⟨g,r1,r2⟩:=s.rep2H;exact⟨g,x,y,b,r1,r2,e1,k _ H (s.pop.pop.scal dX)⟩
theorem pO:jg K (G8 K true) mC:=by intro H0 Z0 U Y pd H v w x y l Q s e k;obtain⟨b,e1,rfl⟩:=abZ e;obtain⟨g,r1,r2⟩:=s.rep2H;exact⟨g,x,y,b,r1,r2,e1,k _ H (s.pop.pop.scal dX)⟩
def G9 (K:FG) (neg:Bool):R2:=λx y H Q=>(∃g p qs b,Rep K ⟨H,g⟩ p x/\(Rep K ⟨H,g⟩ (.lst qs) y\/Rep K ⟨H,g⟩ (.tup qs) y)/\jO (cu 150) p qs=some b/\Q (.bl (if neg then !b else b)) H)\/
 ∃i j,x=.str i/\y=.str j/\Q (.bl (if neg then (Builtin.Str.occurrences j i 0 j.length 1).isEmpty else !(Builtin.Str.occurrences j i 0 j.length 1).isEmpty)) H
theorem uw (hr:fL b k X.A):fP X (compareOp .In) (G9 X.K false):=by
 intro adG s U H x y v u Q I rx ry h;have hA:X.A.in1.units+150<cLine:=by have:=hr.un; show X.A.units+1+150<cLine; omega
 rcases h with ⟨g,p,qs,b,rp,rq,e,k'⟩ | ⟨i,j,rfl,rfl,k'⟩
 . obtain⟨i1,i2⟩:=uv e;rcases rq with rq | rq
   . obtain⟨a,vs,its,rfl,q1,l1,rv1,t1⟩:=pM I rq ry;refine SeqAt.in_listAt (worth X.K ⟨H,g⟩ p qs vs its) t1 (oU I rp rx l1 rv1 i1 hA) ⟨.bl b,H,I,?_,k'⟩;rw[sJ (xv:=x) (xu:=v) I l1 rv1 i1,<-i2];rfl
   . obtain⟨a,vs,its,rfl,q1,l1,rv1,t1⟩:=ut I rq ry;refine SeqAt.in_tupleAt (worth X.K ⟨H,g⟩ p qs vs its) t1 (oU I rp rx l1 rv1 i1 hA) ⟨.bl b,H,I,?_,k'⟩;rw[sJ (xv:=x) (xu:=v) I l1 rv1 i1,<-i2];rfl
 . exact Nb adG s U H (.str i) (.str j) v u Q I rx ry ⟨i,j,rfl,rfl,k'⟩
theorem sO (hr:lZ k X.A):fP X (compareOp .NotIn) (G9 X.K true):=by
 intro adG s U H x y v u Q I rx ry h;have hA:X.A.in1.units+150<cLine:=by have:=hr.un; show X.A.units+1+150<cLine; omega
 rcases h with ⟨g,p,qs,b,rp,rq,e,k'⟩ | ⟨i,j,rfl,rfl,k'⟩
 . obtain⟨i1,i2⟩:=uv e;rcases rq with rq | rq
   . obtain⟨a,vs,its,rfl,q1,l1,rv1,t1⟩:=pM I rq ry;refine SeqAt.notIn_listAt (worth X.K ⟨H,g⟩ p qs vs its) t1 (oU I rp rx l1 rv1 i1 hA) ⟨.bl (!b),H,I,?_,k'⟩;rw[sJ (xv:=x) (xu:=v) I l1 rv1 i1,<-i2];rfl
   . obtain⟨a,vs,its,rfl,q1,l1,rv1,t1⟩:=ut I rq ry;refine SeqAt.notIn_tupleAt (worth X.K ⟨H,g⟩ p qs vs its) t1 (oU I rp rx l1 rv1 i1 hA) ⟨.bl (!b),H,I,?_,k'⟩;rw[sJ (xv:=x) (xu:=v) I l1 rv1 i1,<-i2];rfl
 . exact Gk adG s U H (.str i) (.str j) v u Q I rx ry ⟨i,j,rfl,rfl,by simpa using k'⟩
def isIn (x y:PV):Option Bool:=match y with
 | .lst qs=>jO (cu 150) x qs
 | .tup qs=>jO (cu 150) x qs
 | .str j=>match x with
  | .str i=>some (!(Builtin.Str.occurrences j i 0 j.length 1).isEmpty)
  | _=>none
 | _=>none
def ju (p q:PV):Option Lc:=(isIn p q).map λb=>.sh (.bl b)
def rC (p q:PV):Option Lc:=(isIn p q).map λb=>.sh (.bl (!b))
theorem N7:jg K (G9 K neg) (λp q=>(isIn p q).map λb=>.sh (.bl (if neg then !b else b))):=by
 intro H0 Z0 U Y pd H v w x y l Q s e k;obtain⟨b,e1,rfl⟩:=abZ e;obtain⟨g,r1,r2⟩:=s.rep2H;cases y with
 | lst qs=>exact .inl ⟨g,x,qs,b,r1,.inl r2,e1,k _ H (s.pop.pop.scal dX)⟩
 | tup qs=>exact .inl ⟨g,x,qs,b,r1,.inr r2,e1,k _ H (s.pop.pop.scal dX)⟩
 | str j=>
  cases x with
  | str i=>
   have e1':=aap e1;subst e1';refine .inr ⟨i,j,cY r1,cY r2,?_⟩;have:=k (.bl (if neg then (Builtin.Str.occurrences j i 0 j.length 1).isEmpty else !(Builtin.Str.occurrences j i 0 j.length 1).isEmpty)) H;refine this (s.pop.pop.scal λZ=>?_);cases neg<;>simp[Rep]
  | _=>cases e1
 | _=>cases e1
theorem qM:jg K (G9 K false) ju:=N7
theorem xW:jg K (G9 K true) rC:=N7
def uX:PV->Bool
 | .non=>true
 | _=>false
def Lq (p q:PV):Option Lc:=match q with
 | .non=>some (.sh (.bl (uX p)))
 | _=>none
def jP (p q:PV):Option Lc:=match q with
 | .non=>some (.sh (.bl (!uX p)))
 | _=>none
theorem JS (r:Rep K Z p v):decide (v=.non)=uX p:=by
 cases p with
 | non=>have:=iw r; subst this; rfl
 | bl b=>have:=fM r; subst this; rfl
 | int b=>have:=bR r; subst this; rfl
 | str b=>have:=cY r; subst this; rfl
 | tup ps=> obtain⟨a,vs,rfl,_⟩:=r; rfl
 | lst ps=> obtain⟨a,vs,rfl,_⟩:=r; rfl
 | dk ks ps=> obtain⟨a,vs,rfl,_⟩:=r; rfl
 | dt ks ps=> obtain⟨a,vs,rfl,_⟩:=r; rfl
 | obj c ks ps=> obtain⟨a,c,dx,fs,rfl,_⟩:=r; rfl
 | df ks ps=> obtain⟨a,o,kvs,rfl,_⟩:=r; rfl
 | dtf ks ps=> obtain⟨a,o,kvs,rfl,_⟩:=r; rfl
 | dx hk ks ps=> obtain⟨a,xs,rfl,_⟩:=r; rfl
 | exc n=> obtain⟨a,c,rfl,_⟩:=r; rfl
 | fn n=> obtain⟨a,rfl,_⟩:=r; rfl
 | ptr n=> obtain⟨a,rfl,_⟩:=r; rfl
theorem Uw:jg K (λx y H Q=>y=.non/\Q (.bl (decide (x=.non))) H) Lq:=by
 intro H0 Z0 U Y pd H v w x y l Q s e k;obtain⟨g,r1,r2⟩:=s.rep2H;cases y with
 | non=>
  have e':=aap e;subst e';refine⟨iw r2,?_⟩;rw[JS r1];exact k _ H (s.pop.pop.scal dX)
 | _=>cases e
theorem lC:jg K (λx y H Q=>y=.non/\Q (.bl (!decide (x=.non))) H) jP:=by
 intro H0 Z0 U Y pd H v w x y l Q s e k;obtain⟨g,r1,r2⟩:=s.rep2H;cases y with
 | non=>
  have e':=aap e;subst e';refine⟨iw r2,?_⟩;rw[JS r1];exact k _ H (s.pop.pop.scal dX)
 | _=>cases e
def iV:=vJ (λ_ _=>true) λi j=>.bl (decide (i<j))
def DR:=vJ (λ_ _=>true) λi j=>.bl (decide (i<=j))
def wH:=vJ (λ_ _=>true) λi j=>.bl (decide (j<i))
theorem j4:jg K (ug λi j=>.bl (decide (i<j))) iV:=zY λ_ _ _=>dX _
theorem N8:jg K (ug λi j=>.bl (decide (i<=j))) DR:=zY λ_ _ _=>dX _
theorem Ae:jg K (ug λi j=>.bl (decide (j<i))) wH:=zY λ_ _ _=>dX _
def ik:=vJ (λ_ _=>true) λi j=>.int (i-j)
def eQ:=vJ (λ_ j=>decide (0<j)) λi j=>.int (i%j)
def sS:=vJ (λ_ j=>decide (0<j/\j<1073741824)) λi j=>.int (i/j)
def gU:=vJ (λi j=>decide ((-(2 ^ 64)<i/\i<2 ^ 64)\/(-(2 ^ 64)<j/\j<2 ^ 64))) λi j=>.int (i*j)
def Cm:=vJ (λi j=>decide (0<=j/\j<=1000000/\i.natAbs<2 ^ 64)) λi j=>.int (i ^ j.toNat)
theorem jC:jg K (ug λi j=>.int (i-j)) ik:=zY λ_ _ _=>eN _
theorem gr:jg K (rI (λ_ j=>0<j) λi j=>.int (i%j)) eQ:=Fw (λ_ _ h=>of_decide_eq_true h) λ_ _ _=>eN _
theorem zj:jg K (rI V1 λi j=>.int (i/j)) sS:=Fw (λi j h=>(of_decide_eq_true h:0<j/\j<1073741824)) λ_ _ _=>eN _
theorem km:jg K (rI K3 λi j=>.int (i*j)) gU:=Fw (λi j h=>(of_decide_eq_true h:(-(2 ^ 64)<i/\i<2 ^ 64)\/(-(2 ^ 64)<j/\j<2 ^ 64))) λ_ _ _=>eN _
theorem xX:jg K (rI V2 λi j=>.int (i ^ j.toNat)) Cm:=Fw (λi j h=>(of_decide_eq_true h:0<=j/\j<=1000000/\i.natAbs<2 ^ 64)) λ_ _ _=>eN _
def Qw (K:FG):R2:=λx y H Q=>ug (λi j=>.int (i+j)) x y H Q\/(∃i j,x=.str i/\y=.str j/\i.length+j.length<=sizeLine/\Q (.str (i++j)) H)\/
 (∃a b xs ys,x=.ref a/\y=.ref b/\cz K H a xs/\cz K H b ys/\xs.length+ys.length<=sizeLine/\∀p,H p=none->Q (.ref p) (upd H p (.lst (xs++ys))))\/Ss K x y H Q
theorem bF:fP X (binaryOp .Add) (Qw X.K):=V3.or (K5.or (Uk.or Uc))
def bh:PV->PV->Option Lc
 | .int i,.int j=>some (.sh (.int (i+j)))
 | .str i,.str j=>if i.length+j.length<=100000 then some (.sh (.str (i++j))) else none
 | .lst ps,.lst qs=>if ps.length+qs.length<=100000 then some (.own (.lst (ps++qs))) else none
 | .tup (p::ps),.tup qs=>if ps.length+qs.length<=10000 then some (.sh (.tup (p::ps++qs))) else none
 | _,_=>none
theorem oV {α:Type} [Decidable c] {a b:α} (e:(if c then some a else none)=some b):c/\a=b:=by
 split at e
 . rename_i h;exact⟨h,aap e⟩
 . cases e
theorem Ux (e:bh x y=some l):(∃i j,x=.int i/\y=.int j/\l=.sh (.int (i+j)))\/(∃i j,x=.str i/\y=.str j/\i.length+j.length<=100000/\l=.sh (.str (i++j)))
 \/ (∃ps qs,x=.lst ps/\y=.lst qs/\ps.length+qs.length<=100000/\l=.own (.lst (ps++qs)))\/∃p ps qs,x=.tup (p::ps)/\y=.tup qs/\ps.length+qs.length<=10000/\l=.sh (.tup (p::ps++qs)):=by
 unfold bh at e;split at e
 . cases e;exact .inl ⟨_,_,rfl,rfl,rfl⟩
 . obtain⟨h,e⟩:=oV e;exact .inr (.inl ⟨_,_,rfl,rfl,h,e.symm⟩)
 . obtain⟨h,e⟩:=oV e;exact .inr (.inr (.inl ⟨_,_,rfl,rfl,h,e.symm⟩))
 . obtain⟨h,e⟩:=oV e;exact .inr (.inr (.inr ⟨_,_,_,rfl,rfl,h,e.symm⟩))
 . cases e
theorem bG:jg K (Qw K) bh:=by
 intro H0 Z0 U Y pd H v w x y l Q s e k;obtain⟨g,r1,r2⟩:=s.rep2H;rcases Ux e with ⟨i,j,rfl,rfl,rfl⟩ | ⟨i,j,rfl,rfl,hl,rfl⟩ | ⟨ps,qs,rfl,rfl,hl,rfl⟩ | ⟨p,ps,qs,rfl,rfl,hl,rfl⟩
 . exact .inl ⟨i,j,bR r1,bR r2,k _ H (s.pop.pop.scal eN)⟩
 . exact .inr (.inl ⟨i,j,cY r1,cY r2,small hl,k _ H (s.pop.pop.scal j9)⟩)
 . obtain⟨el,Z,hg,z,rq,s1⟩:=s.sh;have s2:=s1.perm dR.symm;obtain⟨_,e1,rp⟩:=s2.1 _ aab;cases e1;obtain⟨a,xs,rfl,h1,h2⟩:=rp;obtain⟨b,ys,rfl,h3,h4⟩:=rq;refine .inr (.inr (.inl ⟨a,b,xs,ys,rfl,rfl,cz.same z.zh h1,cz.same z.zh h3,by rw[h2.length,h4.length]; exact small hl,λp hp=>k _ _ ?_⟩));obtain⟨z',s'⟩:=(s2.sub (aas _ _)).new (p:=.lst (ps++qs)) z hp ⟨xs++ys,cg,h2.append h4⟩;exact .mk el hg z' s'
 . obtain⟨el,Z,hg,z,rq,s1⟩:=s.sh;have s2:=s1.perm dR.symm;obtain⟨_,e1,rp⟩:=s2.1 _ aab;cases e1;obtain⟨a,xs,rfl,h1,h2⟩:=rp;obtain⟨b,ys,rfl,h3,h4⟩:=rq;have hx:xs≠[]:=λh=>by have:=h2.length; rw[h]at this; simp at this
   have hz:=h2.length;have hz':=h4.length;rw[aac]at hz;refine .inr (.inr (.inr ⟨a,b,xs,ys,rfl,rfl,fj.same z.zh h1,fj.same z.zh h3,hx,small (by omega),λh=>?_,λh q hq=>?_⟩))
   . subst h;have:qs=[]:=abH hz'.symm;subst this;rw[aaW]at k;exact k _ H s.pop
   . have s3:=s2.sub (aas _ _);obtain⟨z',sz,s'⟩:=s3.newF z hq;refine k _ _ (.mk (Z:=Z.put q (.tup (xs++ys))) el hg z' (s'.consS ?_));exact⟨q,xs++ys,rfl,fj.of cg,(h2.append h4).mono sz⟩
def sU:PV->PV->Option Lc
 | .lst ps,.int i=>(dW ps i).map .sh
 | .tup ps,.int i=>(dW ps i).map .sh
 | .str x,.int i=>if x.length<=100000 then (dW x.cps.toList i).map λc=>.sh (.str ⟨#[c]⟩) else none
 | _,_=>none
theorem xY {r:List β} (h:dW l i=some x) (e:r.length=l.length):∃(j:Nat),l[j]?=some x/\∀y,r[j]?=some y->dW r i=some y:=by obtain⟨j,h1,h2⟩:=abY h;refine⟨j,h2,λy hy=>?_⟩;unfold dW;rw[e,h1];exact hy
theorem WX (e:sU x y=some l):∃i,y=.int i/\((∃ps,(x=.lst ps\/x=.tup ps)/\(dW ps i).map Lc.sh=some l)\/∃t c,x=.str t/\t.length<=100000/\dW t.cps.toList i=some c/\l=.sh (.str ⟨#[c]⟩)):=by
 unfold sU at e;split at e
 . exact⟨_,rfl,.inl ⟨_,.inl rfl,e⟩⟩
 . exact⟨_,rfl,.inl ⟨_,.inr rfl,e⟩⟩
 . split at e
   . rename_i h;obtain⟨c,h1,rfl⟩:=abZ e;exact⟨_,rfl,.inr ⟨_,c,rfl,h,h1,rfl⟩⟩
   . cases e
 . cases e
theorem Oa:jg K (Wh K) sU:=by
 intro H0 Z0 U Y pd H v w x y l Q s e k;obtain⟨i,rfl,hx⟩:=WX e;obtain⟨el,Z,hg,z,r2,s1⟩:=s.sh;have s2:=s1.perm dR.symm;obtain⟨_,e1,r1⟩:=s2.1 _ aab;cases e1;have s3:=s2.sub (aas _ _);have ew:=bR r2;rcases hx with ⟨ps,hx,h0⟩ | ⟨x,c,rfl,hl,h1,rfl⟩
 . obtain⟨p,h1,rfl⟩:=abZ h0;rcases hx with rfl | rfl
   . obtain⟨a,vs,rfl,h2,h3⟩:=r1;obtain⟨j,e1,e2⟩:=xY h1 h3.length;obtain⟨u,e3,e4⟩:=h3.get e1;exact .inl ⟨a,vs,i,u,rfl,ew,cz.same z.zh h2,e2 u e3,k _ H (.mk el hg z (s3.consS e4))⟩
   . obtain⟨a,vs,rfl,h2,h3⟩:=r1;obtain⟨j,e1,e2⟩:=xY h1 h3.length;obtain⟨u,e3,e4⟩:=h3.get e1;exact .inr (.inl ⟨a,vs,i,u,rfl,ew,fj.same z.zh h2,e2 u e3,k _ H (.mk el hg z (s3.consS e4))⟩)
 . exact .inr (.inr ⟨x,i,c,cY r1,ew,small hl,h1,k _ H (s.pop.pop.scal j9)⟩)
def lD (ps:List PV) (lo hi:Option Int):List PV:=(ps.drop (HT.sIx ps.length 0 lo)).take (HT.sIx ps.length ps.length hi-HT.sIx ps.length 0 lo)
abbrev OF:=Ev->Option (Option Int×Ev)
def SN (K:FG) (f:OF):TO:=λU H Q=>∃H0 Z0 Y pd r Y',SR K H0 Z0 U H Y pd/\f Y=some (r,Y')/\∀H',SR K H0 Z0 U H' Y' pd->Q r H'
theorem PO.imp (h:PO X e t) (i:∀U H Q,t' U H Q->t U H Q):PO X e t':=λadG s U H Q I q=>h adG s U H Q I (i U H Q q)
def lO:OF:=λY=>some (none,Y)
def fD (f:EF):OF:=λY=>(f Y).bind λx=>match x.1.pv with
 | .int i=>some (some i,x.2)
 | _=>none
theorem ux:PO X none (SN X.K lO):=PO.imp Ua λU H Q q=>by obtain⟨H0,Z0,Y,pd,r,Y',s,h,k⟩:=q;cases h;exact k H s
theorem lQ (h:PE X e (tP X.K f)):PO X (some e) (SN X.K (fD f)):=PO.imp (Ub h) λU H Q q=>by
 obtain⟨H0,Z0,Y,pd,r,Y',s,h,k⟩:=q;obtain⟨x,h1,h2⟩:=abY h;refine⟨H0,Z0,Y,pd,x.1,x.2,s,h1,λv H1 s1=>?_⟩;obtain⟨_,r1⟩:=s1.freeze.repH;cases e:x.1.pv with
 | int i=>
  rw[e]at h2 r1;cases h2;exact⟨i,bR r1,k H1 s1.pop⟩
 | _=>rw[e]at h2; cases h2
theorem aQ.cut {lo hi:Option Int} (h:aQ K Z ps vs):aQ K Z (lD ps lo hi) (yU vs lo hi):=by unfold lD yU;rw[h.length];exact(h.drop _).take _
def iQ (K:FG) (r:List V->Hp->VK->Prop) (g:List PV->Option Lc):Prop:=∀H0 Z0 U Y pd H vs ps l Q,vs.length=ps.length->SR K H0 Z0 U H Y (vs.zip (ps.map Lc.sh)++pd)->g ps=some l->(∀u H',SR K H0 Z0 U H' Y ((u,l)::pd)->Q u H')->r vs H Q
def eB (g:List PV->Option Lc) (a:AF):EF:=λY=>(a Y).bind λy=>(g (y.1.map Lc.pv)).map λl=>(l,y.2)
theorem rD (hs:iQ X.K r g):∀U H Q,tP X.K (eB g a) U H Q->Dz r (iU X.K a) U H Q:=λU H Q q=>by
 obtain⟨H0,Z0,Y,pd,l,Y',s,f,k⟩:=q;obtain⟨y,h1,h2⟩:=abY f;obtain⟨l',h3,h4⟩:=abZ h2;cases h4;refine⟨H0,Z0,Y,pd,y.1,y.2,s,h1,λvs H2 e2 s2=>?_⟩;have s3:=s2.freezeAll;have hm:(y.1.map λl=>Lc.sh l.pv)=(y.1.map Lc.pv).map Lc.sh:=by rw[aaD]; rfl
 rw[hm]at s3;exact hs H0 Z0 U y.2 pd H2 vs (y.1.map Lc.pv) _ Q (by simpa using e2) s3 h3 k
theorem wI {id:String} (hc:mJ X (.builtin id) r) (hs:iQ X.K r g) (h:PE X (.Call (.Name x p) (e::es) [] pos) (Dz r (iU X.K a))):PE X (.Call (.Name x p) (e::es) [] pos) (tP X.K (eB g a)):=PE.imp h (rD hs)
theorem iQ.one {g:PV->Option Lc} (h:∀H0 Z0 U Y pd H v p l Q,SR K H0 Z0 U H Y ((v,.sh p)::pd)->g p=some l->(∀u H',SR K H0 Z0 U H' Y ((u,l)::pd)->Q u H')->r [v] H Q):
 iQ K r (λps=>match ps with | [p]=>g p | _=>none):=by
 intro H0 Z0 U Y pd H vs ps l Q e s hg k
 match ps,vs,e,s,hg with
 | [p],[v],_,s,hg=>exact h H0 Z0 U Y pd H v p l Q s hg k
 | [p],[],e,_,_=>simp at e
 | [p],_::_::_,e,_,_=>simp at e
 | [],_,_,_,hg=>cases hg
 | _::_::_,_,_,_,hg=>cases hg
def Q7:PV->Option Lc
 | .str x=>if x.length<=100000 then some (.sh (.int x.length)) else none
 | .lst ps=>some (.sh (.int ps.length))
 | .tup ps=>some (.sh (.int ps.length))
 | _=>none
abbrev dZ:List PV->Option Lc:=λps=>match ps with | [p]=>Q7 p | _=>none
theorem Ob:iQ K (λxs H Q=>∃x n,xs=[x]/\Qu K x H n/\Q (.int n) H) dZ:=iQ.one λH0 Z0 U Y pd H v p l Q s e k=>by
 obtain⟨_,r⟩:=s.repH;cases p with
 | str x=>
  have e':(if x.length<=100000 then some (Lc.sh (.int x.length)) else none)=some l:=e;split at e'
  . rename_i hl;cases e';have:=cY r;subst this;exact⟨_,x.length,rfl,⟨small hl,rfl⟩,k _ H (s.pop.scal eN)⟩
  . cases e'
 | lst ps=>
  cases e;obtain⟨a,vs,rfl,h1,h2⟩:=r;exact⟨_,ps.length,rfl,.inl ⟨vs,h1,h2.length.symm⟩,k _ H (s.pop.scal eN)⟩
 | tup ps=>
  cases e;obtain⟨a,vs,rfl,h1,h2⟩:=r;exact⟨_,ps.length,rfl,.inr ⟨vs,h1,h2.length.symm⟩,k _ H (s.pop.scal eN)⟩
 | _=>cases e
def Yr:PV->Option Lc
 | .lst ps=>some (.own (.lst ps))
 | .tup ps=>some (.own (.lst ps))
 | _=>none
abbrev list1:List PV->Option Lc:=λps=>match ps with | [p]=>Yr p | _=>none
theorem xZ:iQ K (λxs H Q=>∃p ys,xs=[.ref p]/\(cz K H p ys\/fj K H p ys)/\∀l,H l=none->Q (.ref l) (upd H l (.lst ys))) list1:=iQ.one λH0 Z0 U Y pd H v p l Q s e k=>by
 obtain⟨el,Z,hg,z,r,s1⟩:=s.sh;cases p with
 | lst ps=>
  cases e;obtain⟨a,vs,rfl,h1,h2⟩:=r;refine⟨a,vs,rfl,.inl (cz.same z.zh h1),λq hq=>k _ _ ?_⟩;obtain⟨z',s'⟩:=s1.new (p:=.lst ps) z hq ⟨_,cg,h2⟩;exact .mk el hg z' s'
 | tup ps=>
  cases e;obtain⟨a,vs,rfl,h1,h2⟩:=r;refine⟨a,vs,rfl,.inr (fj.same z.zh h1),λq hq=>k _ _ ?_⟩;obtain⟨z',s'⟩:=s1.new (p:=.lst ps) z hq ⟨_,cg,h2⟩;exact .mk el hg z' s'
 | _=>cases e
theorem Ev.set_set:(Y.set i x).set i y=Y.set i y:=by show Ev.mk ((Y.vs.set i x).set i y) Y.mu=_;rw[abb];rfl
theorem SR.takeO (s:SR K H0 Z0 U H Y pd) (e:Y.vs[i]?=some (some (.own (.lst ws)))):
 ∃a,U[i]?=some (some (.ref a))/\(∃us,H a=some (.lst us))/\SR K H0 Z0 U H (Y.set i none) ((.ref a,.own (.lst ws))::pd):=by
 obtain⟨v,e1,s1⟩:=s.take e;obtain⟨_,Z,_,z,so⟩:=s1.top;obtain⟨a,ea,⟨us,hu,_⟩,_⟩:=so.1 _ aab;have ea':=aap ea;subst ea';exact⟨a,e1,⟨us,hu⟩,s1⟩
def fX (i:Nat) (f:EF):SF:=λY=>match Y.vs[i]? with
 | some (some (.own (.lst _)))=>(f Y).bind λy=>match y.2.vs[i]? with
  | some (some (.own (.lst ws)))=>if ws.length<100000 then some (.nx (y.2.set i (some (.own (.lst (ws++[y.1.pv])))))) else none
  | _=>none
 | _=>none
theorem WY (h:PS X (.Expr (.Call (.Attribute o "append" apos) [e] [] cpos) pos) (uM (Gw X.K "list" Ci (oJ i) (iU X.K (aj f ao))))):
 PS X (.Expr (.Call (.Attribute o "append" apos) [e] [] cpos) pos) (fC X.K (fX i f)):=PS.imp h λD U H q=>by
 obtain⟨H0,Z0,Y,pd,fl,s,h,k⟩:=q;unfold fX at h;split at h
 . rename_i ws0 e0;obtain⟨y,h1,h2⟩:=abY h;obtain⟨a,ea,⟨us,hu⟩,_⟩:=s.takeO e0;refine⟨.ref a,ea,.inl ⟨rfl,us,cz.of hu⟩,H0,Z0,Y,pd,[y.1],y.2,s,?_,λvs H2 e2 s2=>?_⟩
   . unfold aj ao;rw[h1];rfl
   . obtain⟨v1,rfl⟩:=wB e2;split at h2
     . rename_i ws e3;split at h2
       . cases h2;obtain⟨a',ea',_,s3⟩:=SR.takeO s2 e3;rw[ea]at ea'; cases ea';have s4:=s3.swap;obtain⟨us2,hu2,hl,s5⟩:=s4.pushO;refine⟨a,us2,v1,rfl,rfl,hu2,by rw[hl,sizeLine_eq]; omega,k U _ ?_⟩;have s6:=s5.put ea;rw[Ev.set_set]at s6;exact s6
       . cases h2
     . cases h2
 . cases h
theorem SR.extO (s:SR K H0 Z0 U H Y ((v,.sh (.lst ps))::(.ref a,.own (.lst ws))::pd)):
 ∃b us zs,v=.ref b/\cz K H b zs/\H a=some (.lst us)/\us.length=ws.length/\zs.length=ps.length/\SR K H0 Z0 U (upd H a (.lst (us++zs))) Y ((.ref a,.own (.lst (ws++ps)))::pd):=by
 obtain⟨el,Z,hg,z,r,so⟩:=s.sh;obtain⟨b,zs,rfl,h1,h2⟩:=r;have so2:=so.perm dR.symm;obtain⟨_,eb,⟨us,hu,hr⟩,_⟩:=so2.1 _ aab;cases eb;refine⟨b,us,zs,rfl,cz.same z.zh h1,hu,hr.length,h2.length,?_⟩;obtain⟨z',s'⟩:=so2.write (q:=.lst (ws++ps)) z ⟨us++zs,cg,hr.append h2⟩;exact .mk el hg z' s'
def qj (i:Nat) (f:EF):SF:=λY=>match Y.vs[i]? with
 | some (some (.own (.lst _)))=>(f Y).bind λy=>match y.1.pv,y.2.vs[i]? with
  | .lst ps,some (some (.own (.lst ws)))=>if ws.length+ps.length<=100000 then some (.nx (y.2.set i (some (.own (.lst (ws++ps)))))) else none
  | _,_=>none
 | _=>none
theorem W0 (h:PS X (.Expr (.Call (.Attribute o "extend" apos) [e] [] cpos) pos) (uM (Gw X.K "list" (GD X.K) (oJ i) (iU X.K (aj f ao))))):
 PS X (.Expr (.Call (.Attribute o "extend" apos) [e] [] cpos) pos) (fC X.K (qj i f)):=PS.imp h λD U H q=>by
 obtain⟨H0,Z0,Y,pd,fl,s,h,k⟩:=q;unfold qj at h;split at h
 . rename_i ws0 e0;obtain⟨y,h1,h2⟩:=abY h;obtain⟨a,ea,⟨us,hu⟩,_⟩:=s.takeO e0;refine⟨.ref a,ea,.inl ⟨rfl,us,cz.of hu⟩,H0,Z0,Y,pd,[y.1],y.2,s,?_,λvs H2 e2 s2=>?_⟩
   . unfold aj ao;rw[h1];rfl
   . obtain⟨v1,rfl⟩:=wB e2;split at h2
     . rename_i ps ws ep e3;split at h2
       . rename_i hz;cases h2;obtain⟨a',ea',_,s3⟩:=SR.takeO s2 e3;rw[ea]at ea'; cases ea';have s4:=s3.swap.freeze;rw[ep]at s4;obtain⟨b,us2,zs,rfl,hb,hu2,hl,hl2,s5⟩:=s4.extO;refine⟨a,b,us2,zs,rfl,rfl,hu2,hb,by rw[hl,hl2]; exact small hz,k U _ ?_⟩;have s6:=s5.put ea;rw[Ev.set_set]at s6;exact s6
       . cases h2
     . cases h2
 . cases h
theorem SR.setO (s:SR K H0 Z0 U H Y ((v,.sh p)::(.ref a,.own (.lst ws))::pd)):
 ∃us,H a=some (.lst us)/\us.length=ws.length/\SR K H0 Z0 U (upd H a (.lst (us.set j v))) Y ((.ref a,.own (.lst (ws.set j p)))::pd):=by
 obtain⟨el,Z,hg,z,r,so⟩:=s.sh;have so2:=so.perm dR.symm;obtain⟨_,eb,⟨us,hu,hr⟩,_⟩:=so2.1 _ aab;cases eb;refine⟨us,hu,hr.length,?_⟩;obtain⟨z',s'⟩:=so2.write (q:=.lst (ws.set j p)) z ⟨us.set j v,cg,hr.set r j⟩;exact .mk el hg z' s'
def aae (i:Nat) (fi fv:EF):SF:=λY=>(fv Y).bind λx=>match x.2.vs[i]? with
 | some (some (.own (.lst _)))=>(fi x.2).bind λy=>match y.1.pv,y.2.vs[i]? with
  | .int k,some (some (.own (.lst ws)))=>(um ws.length k).map λj=>.nx (y.2.set i (some (.own (.lst (ws.set j x.1.pv)))))
  | _,_=>none
 | _=>none
theorem DW (hg:g[n]?=some a) (hm:mu[n]?=some o):∃R:Sl,List.Perm (cel g mu) ((some (.ref a),o.map Lc.own)::R)/\∀o',List.Perm (cel g (mu.set n o')) ((some (.ref a),o'.map Lc.own)::R):=by
 have h1:(g.map λa=>some (V.ref a))[n]?=some (some (.ref a)):=by rw[aay,hg]; rfl
 have h2:(mu.map λo=>o.map Lc.own)[n]?=some (o.map Lc.own):=by rw[aay,hm]; rfl
 obtain⟨R,p1,p2⟩:=wA (zip_get h1 h2);refine⟨R,p1,λo'=>?_⟩;have:=p2 (some (.ref a),o'.map Lc.own);rw[<-Cj,ab0 h1]at this;unfold cel;rw[List.map_set];exact this
theorem SR.cellO (s:SR K H0 Z0 U H Y ((v,.sh (.ptr n))::pd)) (hm:Y.mu[n]?=some (some p)):
 ∃a,v=.ref a/\SR K H0 Z0 U H ⟨Y.vs,Y.mu.set n none⟩ ((.ref a,.own p)::(.ref a,.sh (.ptr n))::pd):=by
 obtain⟨el,Z,hg,z,r,so⟩:=s.sh;have r0:=r;obtain⟨a,rfl,ha⟩:=r;obtain⟨R,p1,p2⟩:=DW ha hm;refine⟨a,rfl,.mk el (by simpa using hg) z ?_⟩;have so2:=so.perm (p1.append_right _).symm;have so3:Slots K H0 Z H ((some (.ref a),none)::(some (.ref a),some (.own p))::(R++(U.zip Y.vs++pd.map λe=>(some e.1,some e.2)))):=by
  refine⟨λe he=>?_,?_⟩
  . rcases aah.mp he with rfl | he
    . trivial
    . exact so2.1 e he
  .  exact so2.2
 have so4:=(so3.perm (List.Perm.swap _ _ _)).perm (List.Perm.cons _ ((p2 none).append_right _));exact((so4.consS r0).perm (List.Perm.swap _ _ _)).perm (List.Perm.cons _ dR)
theorem SR.cellP (s:SR K H0 Z0 U H Y ((.ref a,.own q)::(.ref a,.sh (.ptr n))::pd)) (hm:Y.mu[n]?=some none):SR K H0 Z0 U H ⟨Y.vs,Y.mu.set n (some q)⟩ pd:=by obtain⟨el,Z,hg,z,r,so⟩:=s.swap.sh;obtain⟨b,eb,ha⟩:=r;cases eb;obtain⟨R,p1,p2⟩:=DW ha hm;have so2:=so.perm dR.symm;refine⟨el,Z,by simpa using hg,z,?_⟩;have p3:List.Perm (sl Z.g U Y pd) ((some (.ref a),none)::(R++(U.zip Y.vs++pd.map λe=>(some e.1,some e.2)))):=p1.append_right _;have so3:=so2.perm (p3.symm.cons _);have so4:=so3.sub ((aas _ _).cons_cons _);exact so4.perm ((p2 (some q)).append_right _)
def pH (fo fi fv:EF):SF:=λY=>(fv Y).bind λx=>(fo x.2).bind λo=>(fi o.2).bind λy=>match o.1.pv,y.1.pv with
 | .ptr n,.int k=>match y.2.mu[n]? with
  | some (some (.lst ws))=>(um ws.length k).map λj=>.nx ⟨y.2.vs,y.2.mu.set n (some (.lst (ws.set j x.1.pv)))⟩
  | _=>none
 | _,_=>none
theorem zm (h:PS X (.Assign [.Subscript o ix tpos] e pos) (Gh (tP X.K fv) (KY (tP X.K fo) (tP X.K fi) Sv))):PS X (.Assign [.Subscript o ix tpos] e pos) (fC X.K (pH fo fi fv)):=PS.imp h λD U H q=>by
 obtain⟨H0,Z0,Y,pd,fl,s,h,k⟩:=q;obtain⟨x,h1,h2⟩:=abY h;obtain⟨o,h3,h4⟩:=abY h2;obtain⟨y,h5,h6⟩:=abY h4;refine⟨H0,Z0,Y,pd,x.1,x.2,s,h1,λv H1 s1=>⟨H0,Z0,x.2,_,o.1,o.2,s1.freeze,h3,λw H2 s2=>⟨H0,Z0,o.2,_,y.1,y.2,s2.freeze,h5,λt H3 s3=>?_⟩⟩⟩;split at h6
 . rename_i n kk en ek;split at h6
   . rename_i ws em;obtain⟨j,h7,rfl⟩:=abZ h6;obtain⟨_,rt'⟩:=s3.freeze.repH;rw[ek]at rt';have et:=bR rt';have s4:=s3.pop;rw[en]at s4;obtain⟨a,rfl,s5⟩:=s4.cellO em;have s6:=s5.perm ((List.Perm.swap _ _ _).trans ((List.Perm.swap _ _ _).cons _));obtain⟨us,hu,hl,s7⟩:=s6.setO;have hn:=(aal.mp em).1;have s8:=s7.cellP (by show (y.2.mu.set n none)[n]?=_; rw[aaK hn]);refine⟨a,us,kk,j,rfl,et,hu,by rw[hl]; exact h7,k U _ ?_⟩;have e8:(y.2.mu.set n none).set n (some (.lst (ws.set j x.1.pv)))=y.2.mu.set n (some (.lst (ws.set j x.1.pv))):=abb ..;have s9:=s8;rw[e8]at s9;exact s9
   . cases h6
 . cases h6
def aN (fa fb:EF):EF:=λY=>(fa Y).bind λx=>(fb x.2).bind λy=>match x.1.pv,y.1.pv with
 | .ptr n,.int k=>match y.2.mu[n]? with
  | some (some (.lst ws))=>(dW ws k).map λp=>(.sh p,y.2)
  | _=>none
 | p,q=>(sU p q).map λl=>(l,y.2)
theorem gA (ha:PE X a (tP X.K fa)) (hb:PE X b (tP X.K fb)) (hm:Cg b):PE X (.Subscript a b pos) (tP X.K (aN fa fb)):=PE.imp (Su Nk ha hb hm) λU H Q q=>by
 obtain⟨H0,Z0,Y,pd,l,Y',s,f,k⟩:=q;obtain⟨x,h1,h2⟩:=abY f;obtain⟨y,h3,h4⟩:=abY h2;refine⟨H0,Z0,Y,pd,x.1,x.2,s,h1,λv H1 s1=>⟨H0,Z0,x.2,_,y.1,y.2,s1,h3,λw H2 s2=>?_⟩⟩;have s3:=s2.freeze.swap.freeze.swap;split at h4
 . rename_i n kk en ek;split at h4
   . rename_i ws em;obtain⟨p,h5,h6⟩:=abZ h4;cases h6;rw[en,ek]at s3;obtain⟨_,rw'⟩:=s3.repH;have ew:=bR rw';obtain⟨a,rfl,s5⟩:=s3.pop.cellO em;obtain⟨el,Z,hg,z,so⟩:=s5.top;obtain⟨_,ea,⟨us,hu,hr⟩,_⟩:=so.1 _ aab;cases ea;obtain⟨j,e1,e2⟩:=xY h5 hr.length;obtain⟨u,e3,e4⟩:=hr.get e1;refine .inl ⟨a,us,kk,u,rfl,ew,cz.of hu,e2 u e3,k u H2 ?_⟩;have s6:SR X.K H0 Z0 U H2 ⟨y.2.vs,y.2.mu.set n none⟩ ((u,.sh p)::(.ref a,.own (.lst ws))::(.ref a,.sh (.ptr n))::pd):=.mk el hg z ((so.perm dR).consS e4);have hn:=(aal.mp em).1;have s7:=s6.perm (((List.Perm.swap _ _ _).cons _).trans (List.Perm.swap _ _ _));have s8:=s7.cellP (by show (y.2.mu.set n none)[n]?=_; rw[aaK hn]);have e8:(y.2.mu.set n none).set n (some (.lst ws))=y.2.mu:=by rw[abb]; exact ab0 em
     have s9:=s8;rw[e8]at s9;exact s9
   . cases h4
 . obtain⟨l',h5,h6⟩:=abZ h4;cases h6;exact Oa H0 Z0 U y.2 pd H2 v w x.1.pv y.1.pv _ Q s3 h5 k
def uY (g:AF):EF:=λY=>(bH g Y).bind λx=>match x.1 with
 | .own p=>some (.sh (.ptr x.2.mu.length),⟨x.2.vs,x.2.mu++[some p]⟩)
 | _=>none
theorem Oc (h:PE X (.List es pos) (tP X.K (bH g))):PE X (.List es pos) (tP X.K (uY g)):=PE.imp h λU H Q q=>by
 obtain⟨H0,Z0,Y,pd,l,Y',s,f,k⟩:=q;obtain⟨x,h1,h2⟩:=abY f;refine⟨H0,Z0,Y,pd,x.1,x.2,s,h1,λv H1 s1=>?_⟩;split at h2
 . rename_i p ep;cases h2;rw[ep]at s1;obtain⟨el,Z,hg,z,so⟩:=s1.top;obtain⟨a,ea,ra,za,ha0⟩:=so.1 _ aab;have ea':=aap ea;subst ea';have lz:fY Z ⟨Z.z,Z.g++[a]⟩:=⟨dC.refl _,abK _ _⟩;have so2:=so.step lz λe he b hb=>⟨rfl,(gK so he hb).1⟩;refine k _ H1 (.mk (Z:=⟨Z.z,Z.g++[a]⟩) el (by simp[hg]) ⟨z.zh,z.h0,z.z0.trans lz,z.new⟩ (Slots.consS ?_ ?_))
   . refine so2.perm ?_;have ec:cel (Z.g++[a]) (x.2.mu++[some p])=cel Z.g x.2.mu++[(some (.ref a),some (.own p))]:=by unfold cel;rw[aaz,aaz,abq (by simp[hg])];rfl
     show List.Perm (cel (Z.g++[a]) (x.2.mu++[some p])++_) _;rw[ec,aaC];exact aaZ
   . exact⟨a,rfl,by show (Z.g++[a])[x.2.mu.length]?=some a; rw[hg,aaU (aan _)]; simp⟩
 . cases h2
mutual
def dz:PV->Bool
 | .non=>true
 | .bl _=>true
 | .int _=>true
 | .str _=>true
 | .tup ps=>iD ps
 | _=>false
def iD:List PV->Bool
 | []=>true
 | p::ps=>dz p&&iD ps
end
def nM:Lc->Bool
 | .sh p=>dz p
 | .own (.lst ps)=>iD ps
 | .own (.dk _ ps)=>iD ps
 | _=>false
def SQ:Option Lc->Option Lc
 | some l=>some (.sh l.pv)
 | none=>none
def Ev.peek (Y:Ev):Ev:=⟨Y.vs.map SQ,Y.mu.map λ_=>none⟩
def lR (f:EF):EF:=λY=>(f Y.peek).bind λx=>if nM x.1=true then some (x.1,Y) else none
def lU (f:TF):TF:=λY=>(f Y.peek).map λx=>(x.1,Y)
def zb:Option HO->Option HO->Option HO->Option HO
 | some (.tup vs),_,_=>some (.tup vs)
 | some (.frz o u),_,_=>some (.frz o u)
 | some _,z,_=>z
 | none,_,z=>z
def mL (H:Hp) (Z Z':ZG):ZG:=⟨λb=>zb (H b) (Z.z b) (Z'.z b),Z.g⟩
theorem Od (hh:dC H H') (zh:dC Z'.z H') (h:fj K Z'.z a vs):fj K (mL H Z Z').z a vs:=by
 rcases h with (h | ⟨o,h⟩) | h
 . refine .inl (.inl ?_);show zb (H a) (Z.z a) (Z'.z a)=_;cases q:H a with
   | none=>exact h
   | some o=>
    have e1:=hh a o q;rw[zh a _ h]at e1;cases e1;rfl
 . refine .inl (.inr ⟨o,?_⟩);show zb (H a) (Z.z a) (Z'.z a)=_;cases q:H a with
   | none=>exact h
   | some o'=>
    have e1:=hh a o' q;rw[zh a _ h]at e1;cases e1;rfl
 . exact .inr h
mutual
theorem Ha (hh:dC H H') (zh:dC Z'.z H'):∀{p:PV} {v:V},dz p=true->Rep K Z' p v->Rep K (mL H Z Z') p v
 | .non,v,_,h=>by  exact h
 | .bl _,v,_,h=>by  exact h
 | .int _,v,_,h=>by  exact h
 | .str _,v,_,h=>by  exact h
 | .tup ps,v,f,h=>by obtain⟨a,vs,e,h1,h2⟩:=h;exact⟨a,vs,e,Od hh zh h1,sV hh zh f h2⟩
 | .lst _,v,f,_=>by  cases f
 | .dk _ _,v,f,_=>by  cases f
 | .dt _ _,v,f,_=>by  cases f
 | .obj _ _ _,v,f,_=>by  cases f
 | .df _ _,v,f,_=>by  cases f
 | .dtf _ _,v,f,_=>by  cases f
 | .dx _ _ _,v,f,_=>by  cases f
 | .exc _,v,f,_=>by  cases f
 | .fn _,v,f,_=>by  cases f
 | .ptr _,v,f,_=>by  cases f
theorem sV (hh:dC H H') (zh:dC Z'.z H'):∀{ps:List PV} {vs:List V},iD ps=true->aQ K Z' ps vs->aQ K (mL H Z Z') ps vs
 | [],vs,_,h=>by  exact h
 | p::ps,vs,f,h=>by obtain⟨v,r,rfl,h1,h2⟩:=h.inv;unfold iD at f;rw[aaA]at f;exact aQ.cons (Ha hh zh f.1 h1) (sV hh zh f.2 h2)
end
theorem SR.lookB (s:SR K H0 Z0 U H Y pd):
 ∃Z,(U.length=Y.vs.length/\Y.mu.length=Z.g.length/\fY Z ⟨H,Z.g⟩/\Slots K H0 Z H (sl Z.g U Y pd))/\(∀H' v r Y1,SR K H ⟨H,Z.g⟩ U H' Y1 [(v,r)]->nM r=true->SR K H0 Z0 U H' Y ((v,r)::pd))/\∀H' Y1,SR K H ⟨H,Z.g⟩ U H' Y1 []->SR K H0 Z0 U H' Y pd:=by
 obtain⟨el,Z,hg,z,so⟩:=s;have lz:fY Z ⟨H,Z.g⟩:=⟨z.zh,aaY _⟩;have back:∀{H':Hp} {Z':ZG},jf H ⟨H,Z.g⟩ Z' H'->jf H0 Z0 (mL H Z Z') H'/\Slots K H0 (mL H Z Z') H' (sl Z.g U Y pd):=λ{H' Z'} z'=>by
  have zz:fY Z (mL H Z Z'):=⟨λb o e=>by show zb (H b) (Z.z b) (Z'.z b)=_;have hb:=z.zh b o e;rw[hb];cases o<;>first | rfl | exact e,aaY _⟩
  have cas:∀b o,(mL H Z Z').z b=some o->(∃u,H b=some u/\((Fv u/\o=u)\/Z.z b=some o))\/(H b=none/\Z'.z b=some o):=λb o e=>by
   have e:zb (H b) (Z.z b) (Z'.z b)=some o:=e;cases q:H b with
   | none=>rw[q]at e; exact .inr ⟨rfl,e⟩
   | some u=>
    rw[q]at e;refine .inl ⟨u,rfl,?_⟩;cases u with
    | tup vs=>cases e; exact .inl ⟨trivial,rfl⟩
    | frz o' u=>cases e; exact .inl ⟨trivial,rfl⟩
    | _=>exact .inr e
  refine⟨⟨λb o e=>?_,z.h0.trans z'.h0,z.z0.trans zz,λb o e=>?_⟩,?_⟩
  . rcases cas b o e with ⟨u,hu,⟨_,rfl⟩ | hz⟩ | ⟨_,hz⟩
    . exact z'.h0 b _ hu
    . exact z'.h0 b o (z.zh b o hz)
    . exact z'.zh b o hz
  . rcases cas b o e with ⟨u,hu,⟨hi,rfl⟩ | hz⟩ | ⟨hn,hz⟩
    . exact .inr (.inr hi)
    . exact z.new b o hz
    . exact .inr (.inl (z.h0.free hn))
  . refine so.step zz λe he a ha=>?_;obtain⟨h1,h2,o,h3,h4⟩:=gK so he ha;refine⟨by rw[h3]; exact z'.h0 a o h3,?_⟩;show zb (H a) (Z.z a) (Z'.z a)=_;rw[h3];cases o with
    | tup vs=>exact(h4 trivial).elim
    | frz o u=>exact(h4 trivial).elim
    | _=>exact h1
 refine⟨Z,⟨el,hg,lz,so⟩,λH' v r Y1 s1 hf=>?_,λH' Y1 s1=>?_⟩
 . obtain⟨_,Z',hg',z',s2⟩:=s1.top;obtain⟨zo,ss⟩:=back z';have q:=s2.1 _ aab;refine .mk (Z:=mL H Z Z') el hg zo ?_;cases r with
   | sh p=>
    obtain⟨x,e1,e2⟩:=q;cases e1;exact ss.consS (Ha z'.h0 z'.zh hf e2)
   | own p=>
    obtain⟨a,e1,e2,e3,e4⟩:=q;have e1':=aap e1;subst e1';have fin:∀{q:PV},oR K (mL H Z Z') H' a q->Slots K H0 (mL H Z Z') H' ((some (.ref a),some (.own q))::sl Z.g U Y pd):=λe2=>by
     refine⟨λe he=>?_,?_⟩
     . rcases aah.mp he with rfl | he
       . refine⟨a,rfl,e2,?_,z.h0.free e4⟩;show zb (H a) (Z.z a) (Z'.z a)=_;rw[e4];exact e3
       . exact ss.1 e he
     . refine aaS.mpr ⟨λhm=>?_,ss.2⟩;obtain⟨e,he,hb⟩:=aaN.mp hm;obtain⟨_,_,o,h3,_⟩:=gK so he hb;rw[h3]at e4; cases e4
    suffices h:oR K (mL H Z Z') H' a p by exact fin h
    cases p with
    | lst ps=>
     obtain⟨vs,g1,g2⟩:=e2;exact⟨vs,g1,sV z'.h0 z'.zh hf g2⟩
    | dk ks ps=>
     obtain⟨kvs,g1,g2,g3⟩:=e2;exact⟨kvs,g1,g2,sV z'.h0 z'.zh hf g3⟩
    | _=>cases hf
 . obtain⟨_,Z',hg',z',s2⟩:=s1;obtain⟨zo,ss⟩:=back z';exact⟨el,mL H Z Z',hg,zo,ss⟩
theorem SR.peeked {Z:ZG} (el:U.length=Y.vs.length) (hg:Y.mu.length=Z.g.length)
 (hs:∀v o,(v,o)∈U.zip Y.vs->pk o=none\/∃x p,pk o=some (.sh p)/\v=some x/\Rep K ⟨H,Z.g⟩ p x):SR K H ⟨H,Z.g⟩ U H ⟨Y.vs.map pk,Y.mu.map λ_=>none⟩ []:=by
 have key:∀v l,(v,l)∈sl Z.g U ⟨Y.vs.map pk,Y.mu.map λ_=>none⟩ []->l=none\/∃x p,l=some (.sh p)/\v=some x/\Rep K ⟨H,Z.g⟩ p x:=λv l he=>by
  rcases aaH.mp he with he | he
  . obtain⟨_,h2⟩:=abd he;obtain⟨o,ho,e2⟩:=aar.mp h2;obtain⟨o',_,e3⟩:=aar.mp ho;subst e3;exact .inl e2.symm
  . rw[aby,aaW]at he;rw[List.zip_map_right]at he;obtain⟨e,he2,e1⟩:=aar.mp he;cases e1;exact hs _ _ he2
 refine⟨by simp[el],⟨H,Z.g⟩,by simp[hg],⟨dC.refl _,dC.refl _,fY.refl _,λb o e=>.inl e⟩,λe he=>?_,?_⟩
 . obtain⟨v,l⟩:=e;rcases key v l he with rfl | ⟨x,p,rfl,rfl,r⟩
   . trivial
   . exact⟨x,rfl,r⟩
 . have:(sl Z.g U ⟨Y.vs.map pk,Y.mu.map λ_=>none⟩ []).filterMap jK=[]:=by
    rw[List.filterMap_eq_nil_iff];intro e he;obtain⟨v,l⟩:=e;rcases key v l he with rfl | ⟨x,p,rfl,rfl,_⟩
    . cases v with
      | none=>rfl
      | some x=>cases x<;>rfl
    . cases x<;>rfl
   rw[this];exact abJ
theorem SR.look (s:SR K H0 Z0 U H Y pd):
 ∃Zt,SR K H Zt U H Y.peek []/\(∀H' v r Y1,SR K H Zt U H' Y1 [(v,r)]->nM r=true->SR K H0 Z0 U H' Y ((v,r)::pd))/\∀H' Y1,SR K H Zt U H' Y1 []->SR K H0 Z0 U H' Y pd:=by
 obtain⟨Z,⟨el,hg,lz,so⟩,b1,b2⟩:=s.lookB;refine⟨_,SR.peeked el hg λv o he=>?_,b1,b2⟩;have q:=so.1 _ (aaG _ (aaM _ he))
 match o,q with
 | none,_=>exact .inl rfl
 | some (.sh p),⟨x,e1,e2⟩=>exact .inr ⟨x,p,rfl,e1,e2.mono lz⟩
 | some (.own p),⟨a,e1,e2,_⟩=>exact .inr ⟨.ref a,p,rfl,e1,e2.rep lz rfl⟩
def ZJ (mu:Mu):PV->PV
 | .ptr n=>match mu[n]? with
  | some (some p)=>p
  | _=>.ptr n
 | p=>p
def peekC (mu:Mu):Option Lc->Option Lc
 | some l=>some (.sh (ZJ mu l.pv))
 | none=>none
def Ev.peekC (Y:Ev):Ev:=⟨Y.vs.map (PL.peekC Y.mu),Y.mu.map λ_=>none⟩
theorem Q8:∀U H Q,tP K (lR f) U H Q->tP K f U H Q:=λU H Q q=>by
 obtain⟨H0,Z0,Y,pd,r,Y',s,h,k⟩:=q;obtain⟨x,h1,h2⟩:=abY h;obtain⟨Zt,s1,b1,_⟩:=s.look;split at h2
 . rename_i hf;cases h2;exact⟨H,Zt,Y.peek,[],x.1,x.2,s1,h1,λv H' s2=>k v H' (b1 H' v x.1 x.2 s2 hf)⟩
 . cases h2
theorem Af (h:PE X e (tP X.K f)):PE X e (tP X.K (lR f)):=PE.imp h Q8
theorem Ag (h:PT X e (gM X.K f)):PT X e (gM X.K (lU f)):=PT.imp h λU H Q q=>by obtain⟨H0,Z0,Y,pd,r,Y',s,h,k⟩:=q;obtain⟨x,h1,h2⟩:=abZ h;cases h2;obtain⟨Zt,s1,_,b2⟩:=s.look;exact⟨H,Zt,Y.peek,[],x.1,x.2,s1,h1,λH' s2=>k H' (b2 H' x.2 s2)⟩
end
def uZ (x:Str):It:=⟨λi _=>i<x.cps.size,λi H v H'=>H'=H/\∃c,x.cps[i]?=some c/\v=.str ⟨#[c]⟩,λi _=>i=x.cps.size⟩
theorem Hb (it:Addr) (x:Str) {St:Nat->Heap->Prop} (W:∀A':Around,A'.handled=none->Walks P w A' it [it] [it] x.cps.size (SignAt x) St)
 (hob:∀i h,St i h->∃o,h.get? it=some o/\∀v,o.data≠.cell v) (slf:∀(A:Around) (i:Nat) (s:Shared) (Q:Value->Shared->Prop) (E:Value->Shared->Prop),St i s.heap->Q (.ref it) s->wpAny (model P w) A (pyIter (.ref it)) Q E s):Turn P w K tg (uZ x) [it] it St where
 mem:=by simp
 obj:=λi h st b hb=>by
  have e:b=it:=by simpa using hb
  subst e;exact hob i h st
 keep:=λi h h' st k=>(W {} rfl).frame i h h' st k
 item:=by intro X hP hw hK hc i adG s U H E I hf st hg;obtain⟨f0,f1,f2,f3,f4,f5⟩:=hf it (by simp);refine(W X.A (I.ok.hd hc)).item i s _ E hg st λv h' tk hv st' hk=>?_;obtain⟨c,u,e1,rfl⟩:=hv;have I1:Inv X adG U H { s with heap:=h',toks:=tk }:=I.turned (λb o hb e=>hk b o (by simpa using hb) e) f0 f1 f3 f4 f5;refine⟨_,rfl,?_⟩;have fin:∃x_1 H',Inv X adG U H' { s with heap:=h',toks:=tk }/\RelV x_1 (.str ⟨#[c]⟩ u)/\(uZ x).yld i H x_1 H'/\St (i+1) h'/\∀b∈[it],H' b=none:=⟨.str ⟨#[c]⟩,H,I1,⟨u,rfl⟩,⟨rfl,c,e1,rfl⟩,st',λb hb=>(hf b hb).1⟩;cases tg<;>exact abT fin
 done:=by intro X hP hw hK hc i adG s U H E I hf st hg;obtain⟨f0,f1,f2,f3,f4,f5⟩:=hf it (by simp);subst hg;exact(W X.A (I.ok.hd hc)).done s _ E st λh' tk hk=>⟨rfl,I.turned (λb o hb e=>hk b o (by simpa using hb) e) f0 f1 f3 f4 f5⟩
 self:=λA i s Q E st h=>slf A i s Q E st h
section
variable {X:Cx}
def signs (x:Str):List PV:=x.cps.toList.map λc=>.str ⟨#[c]⟩
def aag:PV->Option (List PV)
 | .str x=>some (signs x)
 | _=>none
theorem Q9:mW K H0 Z0 pd (uZ x) (signs x):=by
 intro U H Y i s;refine⟨λp hp=>?_,λhl=>?_⟩
 . unfold signs at hp;rw[aay]at hp;obtain⟨c,hc,rfl⟩:=abZ hp;have hi:=(aal.mp hc).1;refine⟨(show i<x.cps.size by simpa using hi),λv H' y=>?_⟩;obtain⟨rfl,c',hc',rfl⟩:=y;have:c'=c:=by rw[Array.getElem?_toList]at hc;rw[hc]at hc';exact(aap hc').symm
   subst this;exact s.scal j9
 . show i=x.cps.size;simpa [signs] using hl
theorem Jo {bs:List Bool} (rv:Vals ys its) (e:ys=bs.map V.bl):TruthOf P w A (λi v=>its.toArray[i]?=some v) (λi=>bs.getD i false):=by
 intro i v s Q E hv q;have hv':its[i]?=some v:=by simpa using hv
 have hi:=(aal.mp hv').1;have hl:=rv.length;have hb:i<bs.length:=by rw[e,aad]at hl; omega
 obtain⟨u,h1,h2⟩:=rv.get (by rw[e,aay,aaj hb]; rfl);rw[hv']at h1; cases h1;cases h2;have:bs.getD i false=bs[i]:=by simp[hb]
 have q':Q (bs.getD i false) s:=q;rw[this]at q';exact wpAny_truthy_bool q'
theorem range_all {bs:List Bool}:((List.range bs.length).all λi=>bs.getD i false)=bs.all id:=by
 induction bs with
 | nil=>rfl
 | cons b r ih=>
  rw[aac,List.range_succ_eq_map,List.all_cons,List.all_map,List.all_cons];have:((List.range r.length).all ((λi=>(b::r).getD i false) ∘ Nat.succ))=(List.range r.length).all λi=>r.getD i false:=rfl;rw[this,ih];rfl
theorem u0 (hc:X.calm=true):mJ X (.builtin "all") (λxs H Q=>∃(p:Addr) (bs:List Bool),xs=[.ref p]/\cz X.K H p (bs.map V.bl)/\Q (.bl (bs.all id)) H):=by
 intro adG s U H xs us Q I r h;obtain⟨p,bs,rfl,hq,q⟩:=h;obtain⟨u,rfl,ru⟩:=vals1 r;cases ru;obtain⟨its,rv,pl,_⟩:=I.list hq;have hlt:p<s.heap.objs.size:=by obtain⟨o,n,g1,_⟩:=pl; exact aau g1
 refine call_all_walk (wpAny_pyIter_list pl.isList ?_);have old:∀b o,s.heap.get? b=some o->(s.heap.push { cls:=.type "list_iterator",data:=.fields #[.ref p,.int 0 0] }).get? b=some o:=λb o e=>aak _ e;have hl:its.toArray.size=bs.length:=by rw[aam,<-rv.length,aad]
 refine⟨s.heap.objs.size,_,_,_,_,_,λi=>bs.getD i false,rfl,Walks.list (show X.A.in1.handled=none from I.ok.hd hc) _ p (aaI hlt) its.toArray,⟨⟨_,aat _ rfl,rfl,rfl⟩,?_⟩,Jo rv rfl,λh' tk hk=>?_⟩
 . obtain⟨o,g1,g2⟩:=pl.isList;exact⟨o,old _ _ g1,g2⟩
 . rw[hl,range_all];refine⟨.bl _,H,I.kept λb o e=>hk b o ?_ (old b o e),rfl,q⟩;have:=aau e;simp;exact aaI this
def boolsOf:List PV->Option (List Bool)
 | []=>some []
 | .bl b::r=>(boolsOf r).map (b::·)
 | _=>none
theorem DX:∀{ps:List PV} {bs:List Bool} {vs:List V},boolsOf ps=some bs->aQ K Z ps vs->vs=bs.map V.bl
 | [],bs,vs,h,r=>by cases h; exact r.inv0
 | p::ps,bs,vs,h,r=>by
  cases p with
  | bl b=>
   obtain⟨cs,h1,rfl⟩:=abZ h;obtain⟨v,w,rfl,r1,r2⟩:=r.inv;rw[fM r1,DX h1 r2];rfl
  | _=>cases h
def W2:PV->Option Lc
 | .lst ps=>(boolsOf ps).map λbs=>.sh (.bl (bs.all id))
 | _=>none
abbrev all1:List PV->Option Lc:=λps=>match ps with | [p]=>W2 p | _=>none
theorem Oe:iQ K (λxs H Q=>∃(p:Addr) (bs:List Bool),xs=[.ref p]/\cz K H p (bs.map V.bl)/\Q (.bl (bs.all id)) H) all1:=iQ.one λH0 Z0 U Y pd H v p l Q s e k=>by
 obtain⟨_,r⟩:=s.repH;cases p with
 | lst ps=>
  obtain⟨bs,h1,rfl⟩:=abZ (e);obtain⟨a,vs,rfl,h2,h3⟩:=r;have:=DX h1 h3;subst this;exact⟨a,bs,rfl,h2,k _ H (s.pop.scal dX)⟩
 | _=>cases e
def YZ:PV->Option String
 | .non=>some "NoneType"
 | .bl _=>some "bool"
 | .int _=>some "int"
 | .str _=>some "str"
 | .tup _=>some "tuple"
 | .lst _=>some "list"
 | _=>none
def zp (p:PV) (C:String):Option Bool:=(YZ p).bind λT=>if (Value.type T==Value.type C)=true then some true else if W.kitMeta C=true then (fastBuiltinMro T).map λx=>x.contains (.type C) else none
theorem oW (h1:YZ p=some T) (h:zp p C=some b):W.kitOne K (.type T) (.type C)=some b:=by unfold zp at h;rw[h1,aaa]at h;exact h
theorem Jp:mJ X (.builtin "isinstance") (λxs H Q=>∃x C g p b,xs=[x,.ty C]/\Rep X.K ⟨H,g⟩ p x/\zp p C=some b/\Q (.bl b) H):=by
 intro adG s U H xs us Q I r h;obtain⟨x,C,g,p,b,rfl,rp,e,q⟩:=h;obtain⟨u,w',rfl,ru,rw'⟩:=vals2 r;cases rw';have fin:∀tk,EP X adG U Q (.bool b) { s with toks:=tk }:=λtk=>⟨.bl b,H,I.tok tk,rfl,q⟩;cases p with
 | non=>have:=iw rp; subst this; cases ru; exact abE W.kitx_none I.kIn trivial (oW rfl e) (by intro z; cases z) fin
 | bl c=>have:=fM rp; subst this; cases ru; exact abE W.kitx_bool I.kIn trivial (oW rfl e) (by intro z; cases z) fin
 | int i=>have:=bR rp; subst this; obtain⟨t,rfl⟩:=ru; exact abE W.kitx_int I.kIn trivial (oW rfl e) (by intro z; cases z) fin
 | str i=>have:=cY rp; subst this; obtain⟨t,rfl⟩:=ru; exact abE W.kitx_str I.kIn trivial (oW rfl e) (by intro z; cases z) fin
 | tup ps=>
  obtain⟨a,vs,its,rfl,_,_,_,o,t1,t2,_⟩:=ut I rp ru;exact abE W.kitx_tuple I.kIn ⟨o,t1,t2⟩ (oW rfl e) (by intro z; cases z) fin
 | lst ps=>
  obtain⟨a,vs,its,rfl,_,_,_,o,t1,t2,_⟩:=pM I rp ru;exact abE W.kitx_list I.kIn ⟨o,t1,t2⟩ (oW rfl e) (by intro z; cases z) fin
 | _=>cases e
def SX (C:String) (f:EF):EF:=λY=>(f Y).bind λx=>(zp x.1.pv C).map λb=>(.sh (.bl b),x.2)
theorem Z8 (h:PE X (.Call (.Name "isinstance" pp) [e,c] [] pos) (Dz (λxs H Q=>∃x C g p b,xs=[x,.ty C]/\Rep X.K ⟨H,g⟩ p x/\zp p C=some b/\Q (.bl b) H) (zL (tP X.K f) (zL (tC (.ty C)) Qx)))):
 PE X (.Call (.Name "isinstance" pp) [e,c] [] pos) (tP X.K (SX C f)):=PE.imp h λU H Q q=>by
 obtain⟨H0,Z0,Y,pd,r,Y',s,h,k⟩:=q;obtain⟨x,h1,h2⟩:=abY h;obtain⟨b,h3,h4⟩:=abZ h2;cases h4;refine⟨H0,Z0,Y,pd,x.1,x.2,s,h1,λv H1 s1=>?_⟩;obtain⟨g,r1⟩:=s1.freeze.repH;exact⟨v,C,g,_,b,rfl,r1,h3,k _ H1 (s1.pop.scal dX)⟩
def strsOf:List PV->Option (List Str)
 | []=>some []
 | .str x::r=>(strsOf r).map (x::·)
 | _=>none
theorem Hc:∀{ps:List PV} {xs:List Str} {vs:List V},strsOf ps=some xs->aQ K Z ps vs->vs=xs.map V.str
 | [],xs,vs,h,r=>by cases h; exact r.inv0
 | p::ps,xs,vs,h,r=>by
  cases p with
  | str b=>
   obtain⟨cs,h1,rfl⟩:=abZ h;obtain⟨v,w,rfl,r1,r2⟩:=r.inv;rw[cY r1,Hc h1 r2];rfl
  | _=>cases h
theorem Ah:∀{xs:List Str} {its:List Value},Vals (xs.map V.str) its->StrsAre its xs
 | [],_,.nil=>.nil
 | x::xs,_,.cons r t=>by obtain⟨tk,rfl⟩:=r;exact .cons _ _ (Ah t)
theorem Uy:JG X "str.join" (λx xs H Q=>∃(z:Str) (p:Addr) (ys:List Str),x=.str z/\xs=[.ref p]/\cz X.K H p (ys.map V.str)/\(ys.map (·.length)).sum+ys.length*z.length<=16777216/\Q (.str (Txt.join z ys)) H):=by intro adG s U H x vs v us Q I rx rv h;obtain⟨z,p,ys,rfl,rfl,hq,hz,q⟩:=h;obtain⟨t,rfl⟩:=rx;obtain⟨u,rfl,ru⟩:=rv.one;cases ru;obtain⟨its,rvs,pl,_⟩:=I.list hq;exact join_list pl.isList (by simpa using Ah rvs) hz λt' k=>⟨.str _,H,I.tok k,⟨t',rfl⟩,q⟩
def yc (f:EF) (a:AF):EF:=λY=>(f Y).bind λx=>(a x.2).bind λy=>match x.1.pv,y.1.map Lc.pv with
 | .str z,[.lst ps]=>(strsOf ps).bind λxs=>if (xs.map (·.length)).sum+xs.length*z.length<=100000 then some (.sh (.str (Txt.join z xs)),y.2) else none
 | _,_=>none
theorem Ys (h:PE X (.Call (.Attribute o "join" apos) [e] [] cpos) (Gw X.K "str" (λx xs H Q=>∃(z:Str) (p:Addr) (ys:List Str),x=.str z/\xs=[.ref p]/\cz X.K H p (ys.map V.str)/\(ys.map (·.length)).sum+ys.length*z.length<=16777216/\Q (.str (Txt.join z ys)) H) (tP X.K f) (iU X.K a))):
 PE X (.Call (.Attribute o "join" apos) [e] [] cpos) (tP X.K (yc f a)):=PE.imp h λU H Q q=>by
 obtain⟨H0,Z0,Y,pd,r,Y',s,h,k⟩:=q;obtain⟨x,h1,h2⟩:=abY h;obtain⟨y,h3,h4⟩:=abY h2;refine⟨H0,Z0,Y,pd,x.1,x.2,s,h1,λv H1 s1=>?_⟩;split at h4
 . rename_i z ps ez ep;obtain⟨xs,h5,h6⟩:=abY h4;split at h6
   . cases h6;obtain⟨_,rz⟩:=s1.freeze.repH;rw[ez]at rz;have:=cY rz;subst this;refine⟨rfl,H0,Z0,x.2,pd,y.1,y.2,s1.pop,h3,λvs H2 e2 s2=>?_⟩;obtain⟨el,Z,hg,zz,rl,ss⟩:=s2.repl e2;rw[ep]at rl;obtain⟨w,rr,rfl,r1,r2⟩:=rl.inv;have:=r2.inv0;subst this;obtain⟨b,ws,rfl,g1,g2⟩:=r1;have:=Hc h5 g2;subst this;exact⟨z,b,xs,rfl,rfl,cz.same zz.zh g1,by omega,k _ H2 (.mk el hg zz (ss.consS (j9 _)))⟩
   . cases h6
 . cases h4
def ZK:PV->Option Lc
 | .int i=>if i.natAbs.log2<1920 then some (.sh (.str (toString i))) else none
 | _=>none
abbrev str1:List PV->Option Lc:=λps=>match ps with | [p]=>ZK p | _=>none
theorem Og:iQ K (λxs H Q=>∃i,xs=[.int i]/\i.natAbs.log2<1920/\Q (.str (toString i)) H) str1:=iQ.one λH0 Z0 U Y pd H v p l Q s e k=>by
 obtain⟨_,r⟩:=s.repH;cases p with
 | int i=>
  have e':(if i.natAbs.log2<1920 then some (Lc.sh (.str (toString i))) else none)=some l:=e;split at e'
  . rename_i hl;cases e';have:=bR r;subst this;exact⟨i,rfl,hl,k _ H (s.pop.scal j9)⟩
  . cases e'
 | _=>cases e
end
section
variable {prog:Program} {w:World} {A:Around} {E:Value->Shared->Prop} {s:Shared}
theorem DY (hne:t≠it):∀(n i:Nat) (s:Shared) (Q:List Value->Shared->Prop),s.heap.IsListIter it t i->s.heap.IsList t items->i+n<=items.size->
 (∀h',h'.IsListIter it t (i+n)->Heap.SameBut it s.heap h'->Q ((items.toList.drop i).take n) { s with heap:=h' })->wpAny (model prog w) A (draw (.ref it) n) Q E s
 | 0,i,s,Q,hit,_,_,hQ=>by exact abT (by simpa using hQ s.heap hit (Heap.SameBut.refl ..))
 | n+1,i,s,Q,hit,ht,hle,hQ=>by
  have hlt:i<items.size:=by omega
  refine abQ (wpAny_pyNext_list_item hit ht (x:=items[i]) (by simp[hlt]) λh₁ hit₁ hs₁=>?_);refine abQ (wpAny_holding (DY hne n (i+1) _ _ hit₁ (ht.extBut hs₁.extBut hne) (by omega) λh₂ hit₂ hs₂=>abT ?_));have hd:items.toList.drop i=items[i]::items.toList.drop (i+1):=by simp[abx,hlt]
  have:=hQ h₂ (by rw[show i+(n+1)=i+1+n by omega]; exact hit₂) (hs₁.trans hs₂);rw[hd,List.take_succ_cons]at this;exact this
theorem zq (hh:A.handled=none) (ht:s.heap.IsList t items)
 (hQ:∀h',Heap.ExtBut s.heap.objs.size s.heap h'->Q items.toList { s with heap:=h' }):wpAny (model prog w) A (unpackItems (.ref t) items.size none) Q E s:=by
 have hlt:t≠s.heap.objs.size:=by obtain⟨o,ho,_⟩:=ht; exact aaI (aau ho)
 refine abQ ?_
 . refine abQ (wpAny_specialOf ht.typeIs slot_list_iter.lookup ?_);refine abT ?_;refine abQ (wpAny_holding (wpAny_pyIter_list ht ?_));refine abQ (wpAny_holding (DY hlt items.size 0 _ _ ⟨_,aat _ rfl,rfl,rfl⟩ (by obtain⟨o,g1,g2⟩:=ht; exact⟨o,aak _ g1,g2⟩) (by omega) λh₁ hit₁ hs₁=>?_));have hall:List.take items.size (List.drop 0 items.toList)=items.toList:=by rw[List.drop_zero]; exact abt (by simp)
   rw[hall];rw[abS (by simp)];have ht₁:=Heap.IsList.extBut (by obtain⟨o,g1,g2⟩:=ht; exact⟨o,aak _ g1,g2⟩) hs₁.extBut hlt;refine abQ (wpAny_holding (wpAny_pyNext_list_end hh hit₁ ht₁ (by simp) λh₂ he₂=>?_));refine abT (hQ h₂ λb o hb e=>he₂ b o hb (hs₁.extBut b o hb (aak _ e)))
end
section
variable {X:Cx} {pos:Pos}
def W3 (K:FG) (n:Nat) (t:vG):TG:=λv U H Q=>∃a xs,v=.ref a/\(fj K H a xs\/cz K H a xs)/\xs.length=n/\t xs U H Q
theorem d9 {k:Nat} (hc:X.calm=true) (h:M4 X es t)
 (hn:(assignEach es X.env).length=n:=by rfl) (hst:(assignEach es X.env).findIdx? (·.1)=none:=by rfl):PG X (.Tuple es k pos) (W3 X.K n t):=by
 intro adG s U H v u Q I r hw;obtain⟨a,xs,e1,hq,hl,hw⟩:=hw;rcases hq with hq | hq
 . exact VL hc h hn hst adG s U H v u Q I r ⟨a,xs,e1,hq,hl,hw⟩
 . subst e1;cases r;obtain⟨its,rv,ht,hz⟩:=I.list hq;refine abQ (wpAny_standAt ?_);unfold unpack;have hsz:(assignEach es X.env).length=its.toArray.size:=by simp[hn,<-hl,rv.length]
   rw[hsz,hst];refine abQ (wpAny_holding (zq (I.ok.hd hc) ht.isList λh' hx=>?_));have I1:=I.kept (t':=s.toks) λb o e=>hx b o (aaI (aau e)) e;exact h adG _ U H xs _ Q I1 (by simpa using rv) hw
def b7 (n:Nat) (bs:G3):BF:=λp Y=>match p with
 | .tup ps=>if ps.length=n then bs ps Y else none
 | .lst ps=>if ps.length=n then bs ps Y else none
 | _=>none
theorem eE (h1:Sy K t bs):GS K (W3 K n t) (b7 n bs):=by
 intro H0 Z0 U H Y pd v p Y' Q s h k;cases p with
 | tup ps=>
  have h':(if ps.length=n then bs ps Y else none)=some Y':=h;split at h'
  . rename_i hn;obtain⟨e,Z,hg,z,r,sl'⟩:=s.sh;obtain⟨a,vs,rfl,h2,h3⟩:=r;exact⟨a,vs,rfl,.inl (fj.same z.zh h2),by rw[h3.length]; exact hn,h1 H0 Z0 U H Y pd vs ps Y' Q h3.length (SR.items e hg z h3 sl') h' k⟩
  . cases h'
 | lst ps=>
  have h':(if ps.length=n then bs ps Y else none)=some Y':=h;split at h'
  . rename_i hn;obtain⟨e,Z,hg,z,r,sl'⟩:=s.sh;obtain⟨a,vs,rfl,h2,h3⟩:=r;exact⟨a,vs,rfl,.inr (cz.same z.zh h2),by rw[h3.length]; exact hn,h1 H0 Z0 U H Y pd vs ps Y' Q h3.length (SR.items e hg z h3 sl') h' k⟩
  . cases h'
 | _=>cases h
def ZL (K:FG) (tl:TE):TI:=λU H R=>tl U H λx H1=>(∃a,x=.ref a/\(∃xs,cz K H1 a xs)/\R (R6 K a) H1)\/(∃a,x=.ref a/\(∃xs,fj K H1 a xs)/\R (R7 K a) H1)\/∃z,x=.str z/\R (uZ z) H1
theorem W4 (hl:PE X l tl):PI X tg l (ZL X.K tl):=by
 intro adG s U H R I h;have at':∀(v:Value) (s1:Shared) (x:V) (H1:Hp),Inv X adG U H1 s1->RelV x v->((∃a,x=.ref a/\(∃xs,cz X.K H1 a xs)/\R (R6 X.K a) H1)\/(∃a,x=.ref a/\(∃xs,fj X.K H1 a xs)/\R (R7 X.K a) H1)\/∃z,x=.str z/\R (uZ z) H1)->
  wpAny (model X.prog X.w) X.A (pyIter v) (PIE X adG U tg R) X.xe s1:=λv s1 x H1 I1 r1 q=>by
  have fp:∀b,b∈[s1.heap.objs.size]->lY X adG H1 b:=λb hb=>by
   have e:b=s1.heap.objs.size:=by simpa using hb
   subst e;exact I1.fpOk (aan _) (I1.hok.fresh (aan _))
  rcases q with ⟨a,rfl,⟨xs,hq⟩,q⟩ | ⟨a,rfl,⟨xs,hq⟩,q⟩ | ⟨z,rfl,q⟩
  . cases r1;obtain⟨its,rv,p,hz⟩:=I1.list hq;exact wpAny_pyIter_list p.isList ⟨s1.heap.objs.size,[s1.heap.objs.size],_,_,H1,rfl,I1.kept λb o e=>aak _ e,M6 a _,⟨_,aat _ rfl,rfl,rfl⟩,fp,q⟩
  . cases r1;obtain⟨its,rv,p,hz⟩:=I1.tuple hq;exact wpAny_pyIter_tuple p ⟨s1.heap.objs.size,[s1.heap.objs.size],_,_,H1,rfl,I1.kept λb o e=>aak _ e,KZ a _,⟨_,aat _ rfl,rfl,rfl⟩,fp,q⟩
  . obtain⟨t,rfl⟩:=r1;have kp:∀(o:Obj),Inv X adG U H1 { s1 with heap:=s1.heap.push o }:=λo=>I1.kept λb u e=>aak _ e;have ob:∀{n:String} (i:Nat) (h:Heap),h.IsStrIter s1.heap.objs.size n z t i->∃o,h.get? s1.heap.objs.size=some o/\∀v,o.data≠.cell v:=λi h st=>by obtain⟨o,ho,_,hd⟩:=st;exact⟨o,ho,λv e=>by rw[hd]at e; cases e⟩
    cases ha:z.cps.all (·<128)
    . exact wpAny_pyIter_wide ha ⟨s1.heap.objs.size,[s1.heap.objs.size],_,uZ z,H1,rfl,kp _,Hb _ z (λA' hA=>Walks.strWide hA _ z t) ob (λA i s Q E st h=>wpAny_pyIter_striter_wide st h),⟨_,aat _ rfl,rfl,rfl⟩,fp,q⟩
    . exact wpAny_pyIter_ascii ha ⟨s1.heap.objs.size,[s1.heap.objs.size],_,uZ z,H1,rfl,kp _,Hb _ z (λA' hA=>Walks.strAscii hA _ z t) ob (λA i s Q E st h=>wpAny_pyIter_striter_ascii st h),⟨_,aat _ rfl,rfl,rfl⟩,fp,q⟩
 exact cF (hl adG s U H _ I h) λv s1 ⟨x,H1,I1,r1,q⟩=>at' v s1 x H1 I1 r1 q
def bI:PV->Option (List PV)
 | .lst ps=>some ps
 | .tup ps=>some ps
 | .str x=>some (signs x)
 | _=>none
theorem cI (hl:PE X l (tP X.K f)):PI X tg l (yG X.K (cR f bI)):=PI.imp (W4 hl) λU H R q=>by
 obtain⟨H0,Z0,Y,pd,xs,Y',s,h,k⟩:=q;obtain⟨x,h1,h2⟩:=abY h;obtain⟨ys,h3,h4⟩:=abZ h2;cases h4;refine⟨H0,Z0,Y,pd,x.1,x.2,s,h1,λv H1 s1=>?_⟩;have s2:=s1.freeze;cases e:x.1.pv with
 | lst ps=>
  rw[e]at h3 s2;cases h3;obtain⟨Z,z,r⟩:=s2.rep;obtain⟨b,vs,rfl,h1',h2'⟩:=r;exact .inl ⟨b,rfl,⟨vs,cz.same z h1'⟩,k _ _ _ s2 NZ (aas _ _)⟩
 | tup ps=>
  rw[e]at h3 s2;cases h3;obtain⟨Z,z,r⟩:=s2.rep;obtain⟨b,vs,rfl,h1',h2'⟩:=r;exact .inr (.inl ⟨b,rfl,⟨vs,fj.same z h1'⟩,k _ _ _ s2 Q6 (aas _ _)⟩)
 | str z=>
  rw[e]at h3 s2;cases h3;obtain⟨_,r⟩:=s2.repH;exact .inr (.inr ⟨z,cY r,k _ _ _ s2.pop Q9 (abi _)⟩)
 | _=>rw[e]at h3; cases h3
def uy (g g':PV->PV->Option Lc) (fa fb fc:EF):EF:=λY=>(fa Y).bind λx=>(fb x.2).bind λy=>(g x.1.pv y.1.pv).bind λz=>match z.pv with
 | .bl true=>(fc y.2).bind λw=>(g' y.1.pv w.1.pv).map λl=>(l,w.2)
 | .bl false=>some (.sh (.bl false),y.2)
 | _=>none
theorem Oh (hs:jg X.K r g) (hs':jg X.K r' g'):∀U H Q,tP X.K (uy g g' fa fb fc) U H Q->Nf r r' (tP X.K fa) (tP X.K fb) (tP X.K fc) U H Q:=λU H Q q=>by
 obtain⟨H0,Z0,Y,pd,l,Y',s,f,k⟩:=q;obtain⟨x,h1,h2⟩:=abY f;obtain⟨y,h3,h4⟩:=abY h2;obtain⟨z,h5,h6⟩:=abY h4;refine⟨H0,Z0,Y,pd,x.1,x.2,s,h1,λv H1 s1=>⟨H0,Z0,x.2,_,y.1,y.2,s1,h3,λw H2 s2=>?_⟩⟩;have s3:=s2.freeze.swap.freeze.swap;have s4:=s3.dup.perm ((List.Perm.swap _ _ _).cons _);refine hs H0 Z0 U y.2 _ H2 v w x.1.pv y.1.pv z _ s4 h5 λu H3 s5=>?_;obtain⟨_,ru⟩:=s5.freeze.repH;split at h6
 . rename_i e;rw[e]at ru;refine⟨true,fM ru,?_⟩;obtain⟨t,h7,h8⟩:=abY h6;obtain⟨l',h9,h10⟩:=abZ h8;cases h10;refine⟨H0,Z0,y.2,_,t.1,t.2,s5.pop,h7,λb H4 s6=>?_⟩;exact hs' H0 Z0 U t.2 pd H4 w b y.1.pv t.1.pv _ Q s6.freeze h9 k
 . rename_i e;rw[e]at ru;refine⟨false,fM ru,?_⟩;cases h6;exact k _ H3 (s5.pop.pop.scal dX)
 . cases h6
theorem W5 (ho:fP X (compareOp op) r) (ho':fP X (compareOp op') r') (hs:jg X.K r g) (hs':jg X.K r' g') (ha:PE X a (tP X.K fa)) (hb:PE X b (tP X.K fb)) (hc:PE X c (tP X.K fc))
 (hm:lastMarks [op,op'] [b,c]=false:=by with_unfolding_all rfl):PE X (.Compare a [op,op'] [b,c] pos) (tP X.K (uy g g' fa fb fc)):=PE.imp (Qq ho ho' ha hb hc hm) (Oh hs hs')
end
section
variable {P:Program} {w:World} {K:FG} {mg:Str->Option Value} {base:Heap}
def JT (mg:Str->Option Value) (L:List Str):Prop:=∀x∈L,mg x=none
theorem qN {st:Stmt} (F:cj K mg x st ps):bL P w K mg base x k ps (cH K ps.length λ_ _=>none):=by
 obtain⟨f,fd,F,hm,hb⟩:=F;have no:∀vs H Q E,¬ cH K ps.length (λ_ _=>none) vs H Q E:=λvs H Q E h=>by obtain⟨_,_,_,_,_,_,_,_,_,_,h,_⟩:=h;cases h
 exact⟨f,fd,⟨λvs H Q E h=>absurd h (no vs H Q E),λA outer s H args us vs Q E _ _ _ _ h=>absurd h (no vs H Q E)⟩,hm,F.kp,hb⟩
def Fz (K:FG):Sp:=λvs H Q _=>∃(a:Addr) (ns:List Int),vs=[.ref a]/\cz K H a (ns.map V.int)/\ns.length<=63/\∀H',Q (.bl true) H'
theorem W7 (F:oM P w K mg base oG k f fd ["_law_script"] (cH K 1 g)) (h:∀ns:List Int,ns.length<=63->∃mu',g [.lst (ns.map PV.int)] []=some (.sh (.bl true),mu')):oM P w K mg base oG k f fd ["_law_script"] (Fz K):=
 F.imp λvs H Q E q=>by
  obtain⟨a,ns,rfl,hs,hl,k⟩:=q;obtain⟨mu',e⟩:=h ns hl;refine⟨⟨H,[]⟩,[.lst (ns.map PV.int)],[],_,mu',rfl,rfl,dC.refl _,aQ.cons ?_ .nil,⟨λe he=>(by cases he),abJ⟩,e,λv H' r=>?_⟩
  . refine⟨a,ns.map V.int,rfl,hs,?_⟩;clear hs e hl;induction ns with
    | nil=>exact .nil
    | cons n r ih=>exact aQ.cons (eN _) ih
  . obtain⟨Z',_,_,s⟩:=r;obtain⟨x,e1,e2⟩:=s.1 _ aab;cases e1;rw[fM e2];exact k H'
end
theorem aM:∀Y ls Y1,ao Y=some (ls,Y1)->ls.length=0:=λY ls Y1 h=>by cases h; rfl
theorem aq (h:∀Y ls Y1,g Y=some (ls,Y1)->ls.length=n):∀Y ls Y1,aj f g Y=some (ls,Y1)->ls.length=n+1:=λY ls Y1 e=>by obtain⟨x,h1,h2⟩:=abY e;obtain⟨y,h3,h4⟩:=abZ h2;cases h4;rw[aac,h _ _ _ h3]
theorem Yt (S:Scope) (hS:X.env.scope=S) (kind:sc.kind=.function) (locs:∀y∈sc.names,y.2=.local->sc.names.lookup y.1=some .local) (cel:∀y∈sc.names,y.2=.cell->sc.names.lookup y.1=some .cell)
 (own:∀p∈sc.names,p.2=.free->S.names.lookup p.1=some .cell\/S.names.lookup p.1=some .free) (frs:∀x∈F,sc.names.lookup x=some .free) (ix:ixs.map (λi=>X.N[i]?)=F.map some):iC X M F ixs sc:=by
 refine⟨kind,locs,cel,λp hp e=>by rw[hS]; exact own p hp e,frs,?_,λj i h=>?_⟩
 . have:=congrArg List.length ix;simpa using this
 . have h2:(ixs.map (λi=>X.N[i]?))[j]?=some X.N[i]?:=by rw[aay,h]; rfl
   rw[ix,aay]at h2;cases q:F[j]? with
   | none=>rw[q]at h2; cases h2
   | some x=>rw[q]at h2; exact(aap h2).symm
section
variable {P:Program} {w:World} {K:FG} {mg:Str->Option Value} {base:Heap}
theorem sH.okP {st:Stmt} (F:sH K x x st f fd) (S:bD N ps (aL st))
 (h:∀(cdv:Value) (A:Around) (outer:List PySem.Env) (s:Shared) (H:Hp) (E:XK),lZ k (A.deeper (envOfC x (aL st) s.heap.objs.size f cdv))->
   ∃g':SF,(∀a mu,g a mu=cP N.length g' a mu)/\iu (Qz oG P w K mg base N x (aL st) f cdv A outer s H E).nox (iZ st) (fC K g')):oM P w K mg base oG (k+1) f fd ps (cH K ps.length g):=by
 refine F.ok S (λvs H Q E q=>?_) (λcdv A outer s H vs Q E hr q=>?_)
 . obtain⟨Z,qs,mu,r,mu',e,_⟩:=q; exact e
 . obtain⟨g',eg,b⟩:=h cdv A outer s H E hr;obtain⟨Z,qs,mu,r,mu',e,hg,z,rl,c,hr',kk⟩:=q;rw[eg]at hr';obtain⟨fl,h1,h2⟩:=abY hr';refine⟨_,b,lw H (qZ Z.g mu),Z,_,[],fl,yZ hg z rl c,h1,?_⟩;cases fl with
   | rt r' Y'=>
    cases h2;intro v U' H' s';obtain⟨el,Z',hg',z',s''⟩:=s'.top;refine kk v H' ⟨Z',hg',z',s''.sub ?_⟩;exact(aaT _ _).cons_cons _
   | nx Y'=>
    cases h2;intro U' H' s';obtain⟨el,Z',hg',z',s''⟩:=s';exact kk .non H' ⟨Z',hg',z',(s''.sub (aaT _ _)).consS (qK _)⟩
   | bk Y'=>cases h2
   | ct Y'=>cases h2
end
section
variable {X:Cx}
def ZM:PV->Option PV
 | .int i=>some (.int (-i))
 | _=>none
def Ra (f:EF):EF:=λY=>(f Y).bind λx=>(ZM x.1.pv).map λp=>(.sh p,x.2)
theorem ZP (ha:PE X a (tP X.K f)):PE X (.UnaryOp .USub a pos) (tP X.K (Ra f)):=PE.imp (Yg V4 ha) λU H Q q=>by
 obtain⟨H0,Z0,Y,pd,r,Y',s,h,k⟩:=q;obtain⟨x,h1,h2⟩:=abY h;obtain⟨p,h3,h4⟩:=abZ h2;cases h4;refine⟨H0,Z0,Y,pd,x.1,x.2,s,h1,λv H1 s1=>?_⟩;obtain⟨_,r1⟩:=s1.freeze.repH;cases e:x.1.pv with
 | int i=>
  rw[e]at h3 r1;cases h3;exact⟨i,bR r1,k _ H1 (s1.pop.scal eN)⟩
 | _=>rw[e]at h3; cases h3
end
theorem mX (J:Ev->Prop) (hJ:∀Y,J Y->Y.mu=mu) (c:PV->Bool) (f:PV->PV):∀{xs:List PV} {Y:Ev} {acc:List PV},J Y->acc.length+xs.length<=100000->
 (∀x∈xs,∀Y,J Y->∃Y1,b x Y=some Y1/\∃Y2,tc Y1=some (c x,Y2)/\J Y2/\(c x=true->∃l Y3,te Y2=some (l,Y3)/\l.pv=f x/\J Y3))->dj b tc te xs Y acc=some (acc++(xs.filter c).map f,mu)
 | [],Y,acc,h,_,_=>by show some (acc,Y.mu)=_;rw[hJ Y h];simp
 | x::xs,Y,acc,h,hl,hs=>by
  obtain⟨Y1,e1,Y2,e2,h2,h3⟩:=hs x aab Y h;have hs':=λy hy=>hs y (aai _ hy);rw[aac]at hl;show (b x Y).bind _=_;rw[e1,aaa,e2,aaa];cases hc:c x with
  | false=>
   simp only[aa1,if_false];rw[mX J hJ c f h2 (by omega) hs',List.filter_cons_of_neg (by simp[hc])]
  | true=>
   obtain⟨l,Y3,e3,ef,h4⟩:=h3 hc;simp only[if_true];rw[e3,aaa,abR (by omega),mX J hJ c f h4 (by rw[aaq,List.length_singleton]; omega) hs',List.filter_cons_of_pos (by simp[hc]),ef];simp
theorem wJ (J:Ev->Prop) (hJ:∀Y,J Y->Y.mu=mu) (f:PV->PV) (h:J Y) (hl:xs.length<=100000)
 (hs:∀x∈xs,∀Y,J Y->∃Y1,b x Y=some Y1/\∃l Y3,te Y1=some (l,Y3)/\l.pv=f x/\J Y3) (hb:∀x∈xs,∀Y Y1,J Y->b x Y=some Y1->J Y1):dj b bK te xs Y []=some (xs.map f,mu):=by
 rw[mX J hJ (λ_=>true) f h (by simpa using hl) λx hx Y hY=>?_]
 . rw[aaE,List.filter_eq_self.mpr (λ_ _=>rfl)]
 . obtain⟨Y1,e1,l,Y3,e3⟩:=hs x hx Y hY;exact⟨Y1,e1,Y1,rfl,hb x hx Y Y1 hY e1,λ_=>⟨l,Y3,e3⟩⟩
theorem jm (a b:Int):bh (.int a) (.int b)=some (.sh (.int (a+b))):=rfl
theorem gk (h:0<b):eQ (.int a) (.int b)=some (.sh (.int (a%b))):=by show (if decide (0<b)=true then _ else _)=_;rw[abR (abV h)]
theorem wK (h:0<b) (h2:b<1073741824):sS (.int a) (.int b)=some (.sh (.int (a/b))):=by show (if decide (0<b/\b<1073741824)=true then _ else _)=_;rw[abR (abV ⟨h,h2⟩)]
theorem rE (h:-18446744073709551616<a) (h2:a<18446744073709551616):gU (.int a) (.int b)=some (.sh (.int (a*b))):=by show (if decide ((-(2 ^ 64)<a/\a<2 ^ 64)\/(-(2 ^ 64)<b/\b<2 ^ 64))=true then _ else _)=_;rw[abR (abV (.inl ⟨by omega,by omega⟩))]
theorem Hd (h:-18446744073709551616<b) (h2:b<18446744073709551616):gU (.int a) (.int b)=some (.sh (.int (a*b))):=by show (if decide ((-(2 ^ 64)<a/\a<2 ^ 64)\/(-(2 ^ 64)<b/\b<2 ^ 64))=true then _ else _)=_;rw[abR (abV (.inr ⟨by omega,by omega⟩))]
theorem bj (h1:fa Y=some (x,Y1)) (h2:fb Y1=some (y,Y2)) (h3:g x.pv y.pv=some l):aC g fa fb Y=some (l,Y2):=by unfold aC;rw[h1,aaa,h2,aaa,h3];rfl
theorem jQ (h0:0<=i) (h1:i<l.length):∃x,dW l i=some x/\l[i.toNat]?=some x:=by
 have hi:i.toNat<l.length:=by omega
 refine⟨l[i.toNat],?_,aaj hi⟩;unfold dW um;rw[abR h0,abR h1,aaa,aaj hi]
theorem yd {lo:Int}:(mq lo n).length=n:=by simp[mq]
theorem Cp (h:f Y=some (.nx Y')):aG f g Y=g Y':=by unfold aG; rw[h,aaa]
theorem oX (h:f Y=some (.rt r Y')):aG f g Y=some (.rt r Y'):=by unfold aG; rw[h,aaa]
theorem Uz (h:f Y=some (l,Y1)) (hi:i<Y1.vs.length):aK i f Y=some (.nx (Y1.set i (some l))):=by unfold aK; rw[h,aaa,abR hi]
theorem lV (h:c Y=some (true,Y1)):bN c f g Y=f Y1:=by unfold bN; rw[h,aaa,abR rfl]
theorem gm (h:c Y=some (false,Y1)):bN c f g Y=g Y1:=by unfold bN; rw[h,aaa,abS aaV]
theorem UG (h:f Y=some (l,Y1)):bV f Y=some (.rt l Y1):=by unfold bV; rw[h]; rfl
theorem JV (h:f Y=some (xs,Y1)):dM f b body Y=cU b body xs Y1:=by unfold dM; rw[h,aaa]
theorem aX (h:g (env0 n ps mu)=some (.rt r Y)):cP n g ps mu=some (r,Y.mu):=by unfold cP; rw[h,aaa]
theorem Cq (h:g (env0 n ps mu)=some (.nx Y)):cP n g ps mu=some (.sh .non,Y.mu):=by unfold cP; rw[h,aaa]
theorem Rb (h:a Y=some (ls,Y1)) (h2:g (ls.map Lc.pv) Y1.mu=some (r,mu)):aF g a Y=some (r,⟨Y1.vs,mu⟩):=by unfold aF; rw[h,aaa,h2]; rfl
theorem Rc (h:f Y=some (l,Y1)) (h2:a Y1=some (ls,Y2)):aj f a Y=some (l::ls,Y2):=by unfold aj; rw[h,aaa,h2]; rfl
theorem Yu (h:a Y=some (ls,Y1)) (h2:g (ls.map Lc.pv)=some r):eB g a Y=some (r,Y1):=by unfold eB; rw[h,aaa,h2]; rfl
theorem cM (h:f Y=some (xs,Y1)) (h2:dj b tc te xs (rA m ixs (jy ixs Y1)) []=some (ys,mu)):bJ f m ixs b tc te Y=some (.own (.lst ys),⟨(jy ixs Y1).vs,mu⟩):=by unfold bJ; rw[h,aaa,h2]; rfl
theorem fU (h:f Y=some (l,Y1)) (h2:g l.pv=some xs):cR f g Y=some (xs,Y1):=by unfold cR; rw[h,aaa,h2]; rfl
theorem ji (h:a Y=some ([l],Y1)) (hl:l.pv=.int n) (h1:-4611686018427387904<=n) (h2:n<4611686018427387904):fQ a Y=some (mq 0 n.toNat,Y1):=by unfold fQ;rw[h,aaa];show (match [l.pv] with | [.int j]=>_ | _=>_)=_;rw[hl];show (if -(2 ^ 62)<=n/\n<2 ^ 62 then _ else _)=_;rw[abR ⟨by omega,by omega⟩]
theorem Rf (h:f Y.peek=some (b,Y1)):lU f Y=some (b,Y):=by unfold lU; rw[h]; rfl
theorem Rh (h:f Y.peek=some (l,Y1)) (hf:nM l=true):lR f Y=some (l,Y):=by unfold lR; rw[h,aaa,abR hf]
theorem u5 (h:f Y=some (l,Y1)) (h2:tr l.pv=some b):tT f tr Y=some (b,Y1):=by unfold tT; rw[h,aaa,h2]; rfl
theorem Ri (h:f Y=some (l,Y1)) (h2:a Y1=some ([m],Y2)) (hl:l.pv=.str z) (hm:m.pv=.lst ps) (hx:strsOf ps=some xs) (hs:(xs.map (·.length)).sum+xs.length*z.length<=100000):yc f a Y=some (.sh (.str (Txt.join z xs)),Y2):=by unfold yc;rw[h,aaa,h2,aaa,hl];show (match PV.str z,[m.pv] with | .str z,[.lst ps]=>_ | _,_=>_)=_;rw[hm];show (strsOf ps).bind _=_;rw[hx,aaa,abR hs]
section
variable {f g:SF} {Y Y1 Y2 Y':Ev} {R:Option Fl} {l m r:Lc} {fa fb fc:EF} {c d:TF} {a:AF} {b:Bool}
theorem aD (h:f Y=some (.nx Y')) (h2:g Y'=R):aG f g Y=R:=(Cp h).trans h2
theorem aZ (h:fa Y=some (l,Y1)) (hi:Nat.blt i Y1.vs.length=true) (e:Y1.set i (some l)=Y'):aK i fa Y=some (.nx Y'):=by rw[Uz h (by simpa using hi),e]
theorem cJ (h:fa Y=some (l,Y1)):bV fa Y=some (.rt l Y1):=UG h
theorem JW (h:fa Y=some (l,Y1)):zZ fa Y=some (.nx Y1):=by unfold zZ; rw[h]; rfl
theorem gR (h1:fa Y=some (l,Y1)) (hx:l.pv=p) (h2:fb Y1=some (m,Y2)) (hy:m.pv=q) (h3:o p q=some r):aC o fa fb Y=some (r,Y2):=bj h1 h2 (by rw[hx,hy]; exact h3)
theorem aY (h:a Y=some (ls,Y1)) (hp:ls.map Lc.pv=ps) (hv:Y1.vs=v) (hm:Y1.mu=mu1) (h2:G ps mu1=some (r,mu)):aF G a Y=some (r,⟨v,mu⟩):=by subst hp hv hm;exact Rb h h2
theorem tR (h:a Y=some (ls,Y1)) (hp:ls.map Lc.pv=ps) (h2:G ps=some r):eB G a Y=some (r,Y1):=by subst hp;exact Yu h h2
theorem aB (h:fa Y=some (l,Y1)) (h2:a Y1=some (ls,Y2)):aj fa a Y=some (l::ls,Y2):=Rc h h2
theorem eF (h:fa Y=some (l,Y1)) (hp:l.pv=p) (h2:tr p=some b):tT fa tr Y=some (b,Y1):=by subst hp;exact u5 h h2
theorem rF (h:c Y=some (b,Y1)):gH c Y=some (!b,Y1):=by unfold gH; rw[h]; rfl
theorem nO (h:c Y=some (b,Y1)) (h2:d Y1=some (b2,Y1)):cQ c d Y=some (b&&b2,Y1):=by
 unfold cQ;rw[h,aaa];cases b with
 | true=>rw[abR rfl,h2]; rfl
 | false=>rfl
theorem JX (h:c Y=some (b,Y1)) (h2:b=true->d Y1=some (b2,Y1)):cQ c d Y=some (b&&b2,Y1):=by
 unfold cQ;rw[h,aaa];cases b with
 | true=>rw[abR rfl,h2 rfl]; rfl
 | false=>rfl
theorem sW (h:c Y=some (b,Y1)) (h2:d Y1=some (b2,Y1)):mj c d Y=some (b||b2,Y1):=by
 unfold mj;rw[h,aaa];cases b with
 | true=>rfl
 | false=>rw[abS aaV,h2]; rfl
theorem rG (h:c Y.peek=some (b,Y1)):lU c Y=some (b,Y):=Rf h
theorem Hf (h:fa Y.peek=some (l,Y1)) (hf:nM l=true):lR fa Y=some (l,Y):=Rh h hf
theorem mD (h:a Y=some (ls,Y1)) (hl:Nat.ble ls.length 1000=true) (hp:ls.map Lc.pv=ps):bH a Y=some (.own (.lst ps),Y1):=by subst hp;unfold bH;rw[h,aaa,abR (by simpa using hl)]
theorem dG (h:a Y=some (ls,Y1)) (hl:Nat.ble ls.length 1000=true) (hp:ls.map Lc.pv=ps):bu a Y=some (.sh (.tup ps),Y1):=by subst hp;unfold bu;rw[h,aaa,abR (by simpa using hl)]
theorem Cr (h:a Y=some (ls,Y1)) (hl:Nat.ble ls.length 1000=true) (hp:ls.map Lc.pv=ps) (hn:Y1.mu.length=n):uY a Y=some (.sh (.ptr n),⟨Y1.vs,Y1.mu++[some (.lst ps)]⟩):=by subst hn;unfold uY;rw[mD h hl hp];rfl
theorem dI (h1:fa Y=some (l,Y1)) (hx:l.pv=p) (h2:fb Y1=some (m,Y2)) (hy:m.pv=q) (hn:∀n,p≠.ptr n) (h3:sU p q=some r):aN fa fb Y=some (r,Y2):=by
 subst hx hy;unfold aN;rw[h1,aaa,h2,aaa];split
 . rename_i n k e1 e2;exact(hn n e1).elim
 . rw[h3]; rfl
theorem rH (h1:fa Y=some (l,Y1)) (hx:l.pv=.ptr n) (h2:fb Y1=some (m,Y2)) (hy:m.pv=.int k) (hm:Y2.mu[n]?=some (some (.lst ws))) (h3:dW ws k=some p):aN fa fb Y=some (.sh p,Y2):=by unfold aN;rw[h1,aaa,h2,aaa,hx,hy];show (match Y2.mu[n]? with | some (some (.lst ws))=>_ | _=>_)=_;rw[hm];show (dW ws k).map _=_;rw[h3];rfl
theorem Cu (h1:fv Y=some (x,Y1)) (hxp:x.pv=p) (h2:fo Y1=some (o,Y2)) (hx:o.pv=.ptr n) (h3:fi Y2=some (y,Y3)) (hy:y.pv=.int k) (hm:Y3.mu[n]?=some (some (.lst ws))) (h4:um ws.length k=some j):pH fo fi fv Y=some (.nx ⟨Y3.vs,Y3.mu.set n (some (.lst (ws.set j p)))⟩):=by subst hxp;unfold pH;rw[h1,aaa,h2,aaa,h3,aaa,hx,hy];show (match Y3.mu[n]? with | some (some (.lst ws))=>_ | _=>_)=_;rw[hm];show (um ws.length k).map _=_;rw[h4];rfl
theorem lE (h0:Y.vs[i]?=some (some (.own (.lst ws0)))) (h:fa Y=some (l,Y1)) (hp:l.pv=p) (h1:Y1.vs[i]?=some (some (.own (.lst ws)))) (hz:ws.length<100000) (e:Y1.set i (some (.own (.lst (ws++[p]))))=Y'):fX i fa Y=some (.nx Y'):=by subst hp;unfold fX;rw[h0];rw[h,aaa];rw[h1];show (if ws.length<100000 then _ else _)=_;rw[abR hz,e]
theorem Ai (h0:Y.vs[i]?=some (some (.own (.lst ws0)))) (h:fa Y=some (l,Y1)) (hp:l.pv=.lst ps) (h1:Y1.vs[i]?=some (some (.own (.lst ws)))) (hz:ws.length+ps.length<=100000) (e:Y1.set i (some (.own (.lst (ws++ps))))=Y'):qj i fa Y=some (.nx Y'):=by unfold qj;rw[h0];rw[h,aaa,hp];rw[h1];show (if ws.length+ps.length<=100000 then _ else _)=_;rw[abR hz,e]
theorem dq (h:F Y=some (xs,Y1)) (h2:cU B body xs Y1=R):dM F B body Y=R:=(JV h).trans h2
theorem jj (h:fa Y=some (l,Y1)) (hp:l.pv=p) (h2:G p=some xs):cR fa G Y=some (xs,Y1):=by subst hp;exact fU h h2
end
section
variable {X:Cx}
def Aj (f:EF):EF:=λY=>(f Y).bind λx=>match x.1 with
 | .own p=>some (.sh (.ptr x.2.mu.length),⟨x.2.vs,x.2.mu++[some p]⟩)
 | _=>none
theorem Yv (h:PE X e (tP X.K f)):PE X e (tP X.K (Aj f)):=PE.imp h λU H Q q=>by
 obtain⟨H0,Z0,Y,pd,l,Y',s,f,k⟩:=q;obtain⟨x,h1,h2⟩:=abY f;refine⟨H0,Z0,Y,pd,x.1,x.2,s,h1,λv H1 s1=>?_⟩;split at h2
 . rename_i p ep;cases h2;rw[ep]at s1;obtain⟨el,Z,hg,z,so⟩:=s1.top;obtain⟨a,ea,ra,za,ha0⟩:=so.1 _ aab;have ea':=aap ea;subst ea';have lz:fY Z ⟨Z.z,Z.g++[a]⟩:=⟨dC.refl _,abK _ _⟩;have so2:=so.step lz λe he b hb=>⟨rfl,(gK so he hb).1⟩;refine k _ H1 (.mk (Z:=⟨Z.z,Z.g++[a]⟩) el (by simp[hg]) ⟨z.zh,z.h0,z.z0.trans lz,z.new⟩ (Slots.consS ?_ ?_))
   . refine so2.perm ?_;have ec:cel (Z.g++[a]) (x.2.mu++[some p])=cel Z.g x.2.mu++[(some (.ref a),some (.own p))]:=by unfold cel;rw[aaz,aaz,abq (by simp[hg])];rfl
     show List.Perm (cel (Z.g++[a]) (x.2.mu++[some p])++_) _;rw[ec,aaC];exact aaZ
   . exact⟨a,rfl,by show (Z.g++[a])[x.2.mu.length]?=some a; rw[hg,aaU (aan _)]; simp⟩
 . cases h2
def jo (f:EF) (lo hi:OF):EF:=λY=>(f Y).bind λx=>(lo x.2).bind λy=>(hi y.2).bind λz=>match x.1.pv with
 | .lst ps=>some (.own (.lst (lD ps y.1 z.1)),z.2)
 | .str t=>if t.length<=100000 then some (.sh (.str (dg t y.1 z.1)),z.2) else none
 | _=>none
theorem oY {lo hi:Option Expr} (he:PE X e (tP X.K f)) (hl:PO X lo (SN X.K fl)) (hu:PO X hi (SN X.K fh)):PE X (.Subscript e (.Slice lo hi none p2) pos) (tP X.K (jo f fl fh)):=PE.imp (QB (Ue.or Ws) he hl hu) λU H Q q=>by
 obtain⟨H0,Z0,Y,pd,r,Y',s,h,k⟩:=q;obtain⟨x,h1,h2⟩:=abY h;obtain⟨y,h3,h4⟩:=abY h2;obtain⟨z,h5,h6⟩:=abY h4;refine⟨H0,Z0,Y,pd,x.1,x.2,s,h1,λv H1 s1=>⟨H0,Z0,x.2,_,y.1,y.2,s1.freeze,h3,λH2 s2=>⟨H0,Z0,y.2,_,z.1,z.2,s2,h5,λH3 s3=>?_⟩⟩⟩;cases e:x.1.pv with
 | lst ps=>
  rw[e]at h6 s3;cases h6;obtain⟨el,Z,hg,zz,r1,s4⟩:=s3.sh;obtain⟨a,vs,rfl,g1,g2⟩:=r1;refine .inl ⟨a,vs,rfl,cz.same zz.zh g1,λp hp=>k _ _ ?_⟩;obtain⟨z',s'⟩:=s4.new (p:=.lst (lD ps y.1 z.1)) zz hp ⟨_,cg,g2.cut⟩;exact .mk el hg z' s'
 | str t=>
  rw[e]at h6 s3;have h6':(if t.length<=100000 then some (Lc.sh (.str (dg t y.1 z.1)),z.2) else none)=some (r,Y'):=h6;split at h6'
  . rename_i hz;cases h6';obtain⟨_,r1⟩:=s3.repH;exact .inr ⟨t,r1,small hz,k _ H3 (s3.pop.scal j9)⟩
  . cases h6'
 | _=>rw[e]at h6; cases h6
theorem iQ.two {g:PV->PV->Option Lc} (h:∀H0 Z0 U Y pd H v w p q l Q,SR K H0 Z0 U H Y ((v,.sh p)::(w,.sh q)::pd)->g p q=some l->(∀u H',SR K H0 Z0 U H' Y ((u,l)::pd)->Q u H')->r [v,w] H Q):
 iQ K r (λps=>match ps with | [p,q]=>g p q | _=>none):=by
 intro H0 Z0 U Y pd H vs ps l Q e s hg k
 match ps,vs,e,s,hg with
 | [p,q],[v,w],_,s,hg=>exact h H0 Z0 U Y pd H v w p q l Q s hg k
 | [p,q],[],e,_,_=>simp at e
 | [p,q],[_],e,_,_=>simp at e
 | [p,q],_::_::_::_,e,_,_=>simp at e
 | [],_,_,_,hg=>cases hg
 | [_],_,_,_,hg=>cases hg
 | _::_::_::_,_,_,_,hg=>cases hg
def W8:PV->PV->Option Lc
 | .int i,.int j=>some (.sh (.int (if j<i then j else i)))
 | _,_=>none
def W9:PV->PV->Option Lc
 | .int i,.int j=>some (.sh (.int (if j>i then j else i)))
 | _,_=>none
abbrev min2:List PV->Option Lc:=λps=>match ps with | [p,q]=>W8 p q | _=>none
abbrev max2:List PV->Option Lc:=λps=>match ps with | [p,q]=>W9 p q | _=>none
theorem Xa:iQ K (λxs H Q=>∃i j,xs=[.int i,.int j]/\Q (.int (if j<i then j else i)) H) min2:=iQ.two λH0 Z0 U Y pd H v w p q l Q s e k=>by
 obtain⟨_,r1,r2⟩:=s.rep2H;unfold W8 at e;split at e
 . cases e;have a:=bR r1;have b:=bR r2;subst a b;exact⟨_,_,rfl,k _ H (s.pop.pop.scal eN)⟩
 . cases e
theorem Xb:iQ K (λxs H Q=>∃i j,xs=[.int i,.int j]/\Q (.int (if j>i then j else i)) H) max2:=iQ.two λH0 Z0 U Y pd H v w p q l Q s e k=>by
 obtain⟨_,r1,r2⟩:=s.rep2H;unfold W9 at e;split at e
 . cases e;have a:=bR r1;have b:=bR r2;subst a b;exact⟨_,_,rfl,k _ H (s.pop.pop.scal eN)⟩
 . cases e
theorem SR.popO (s:SR K H0 Z0 U H Y ((.ref a,.own (.lst ws))::pd)) (hp:ws[ws.length-1]?=some p):
 ∃us y,H a=some (.lst us)/\us[us.length-1]?=some y/\SR K H0 Z0 U (upd H a (.lst us.dropLast)) Y ((.ref a,.own (.lst ws.dropLast))::(y,.sh p)::pd):=by
 obtain⟨el,Z,hg,z,so⟩:=s.top;obtain⟨b,eb,⟨us,hu,hr⟩,_⟩:=so.1 _ aab;cases eb;obtain⟨y,hy,ry⟩:=hr.get hp;have hl:=hr.length;refine⟨us,y,hu,by rw[hl]; exact hy,?_⟩;have hd:aQ K Z ws.dropLast us.dropLast:=by rw[List.dropLast_eq_take,List.dropLast_eq_take,hl];exact hr.take _
 obtain⟨z',s'⟩:=so.write (q:=.lst ws.dropLast) z ⟨us.dropLast,cg,hd⟩;have s2:=(s'.consS ry).perm (List.Perm.swap (some y,some (Lc.sh p)) (some (V.ref a),some (Lc.own (.lst ws.dropLast))) _);exact .mk el hg z' (s2.perm (dR.cons _))
def Cv (i:Nat):EF:=λY=>match Y.vs[i]? with
 | some (some (.own (.lst ws)))=>(ws[ws.length-1]?).map λp=>(.sh p,Y.set i (some (.own (.lst ws.dropLast))))
 | _=>none
theorem ZQ (h:PE X (.Call (.Attribute o "pop" apos) [] [] cpos) (Gv X.K "list" Wj (oJ i))):PE X (.Call (.Attribute o "pop" apos) [] [] cpos) (tP X.K (Cv i)):=PE.imp h λU H Q q=>by
 obtain⟨H0,Z0,Y,pd,r,Y',s,h,k⟩:=q;unfold Cv at h;split at h
 . rename_i ws e0;obtain⟨p,h1,h2⟩:=abZ h;cases h2;obtain⟨a,ea,⟨us,hu⟩,s1⟩:=s.takeO e0;obtain⟨us2,y,hu2,hy,s2⟩:=s1.popO h1;refine⟨.ref a,ea,.inl ⟨rfl,us,cz.of hu⟩,a,us2,y,rfl,rfl,hu2,hy,k _ _ ?_⟩;have s3:=s2.put ea;rw[Ev.set_set]at s3;exact s3
 . cases h
def JZ (K:FG):V->List V->Hp->VK->Prop:=λx vs H Q=>∃g p qs w,vs=[w]/\Rep K ⟨H,g⟩ p w/\Rep K ⟨H,g⟩ (.lst qs) x/\jO (cu 150) p qs=some true/\qs.length<=100000/\Q (.int (qs.findIdx λq=>(cu 150 q p).getD false)) H
theorem Rj (hr:lZ k X.A):JF X "list.index" (JZ X.K):=by
 intro adG s U H x vs v us Q I rx rv h;obtain⟨g,p,qs,w,rfl,rp,rq,e,hz,q⟩:=h;have hA:X.A.in1.units+150<cLine:=by have:=hr.un; show X.A.units+1+150<cLine; omega
 obtain⟨u,rfl,ru⟩:=rv.one;obtain⟨i1,i2⟩:=uv e;obtain⟨a,vs,its,rfl,q1,l1,rv1,t1⟩:=pM I rq rx;have hl:its.length=qs.length:=by rw[<-rv1.length,l1.length]
 have hex:=List.any_eq_true.mp i2.symm;have hj:=List.findIdx_lt_length.mpr hex;have hat:∀m (hm:m<its.toArray.size),worth X.K ⟨H,g⟩ p qs vs its its.toArray[m]=(cu 150 (qs[m]'(by rw[aam]at hm; omega)) p).getD false:=λm hm=>by
  have hm':m<its.length:=by simpa using hm
  exact uW (xv:=w) (xu:=u) I l1 rv1 i1 (aaj (by omega)) (by simp)
 obtain⟨⟨oc,od,oD,os⟩,ht,hc,n,hd⟩:=t1;have hc':= hc;have hd':=hd;subst hc' hd';refine call_meets F.slot_list_index ⟨_,ht,rfl⟩ F.entry_list_index (F.args_list_index_2 _ _) (SeqAt.list_indexAt a its.toArray n od os u (worth X.K ⟨H,g⟩ p qs vs its) (qs.findIdx λq=>(cu 150 q p).getD false) (by rw[aam]; omega) (by omega) ?_ ?_) ⟨ht,oU I rp ru l1 rv1 i1 hA,?_⟩
 . rw[hat];exact List.findIdx_getElem (w:=hj)
 . intro m hm hlt;rw[hat];have:=List.not_of_lt_findIdx hlt;simpa using this
 . exact⟨.int _,H,I.tok _,⟨_,rfl⟩,q⟩
def wL (f g:EF):EF:=λY=>(f Y).bind λx=>(g x.2).bind λy=>match x.1.pv with
 | .lst qs=>if jO (cu 150) y.1.pv qs=some true/\qs.length<=100000 then some (.sh (.int (qs.findIdx λq=>(cu 150 q y.1.pv).getD false)),y.2) else none
 | _=>none
theorem Xc (h:PE X (.Call (.Attribute o "index" apos) [e] [] cpos) (Gw X.K "list" (JZ X.K) (tP X.K f) (iU X.K (aj g ao)))):PE X (.Call (.Attribute o "index" apos) [e] [] cpos) (tP X.K (wL f g)):=PE.imp h λU H Q q=>by
 obtain⟨H0,Z0,Y,pd,r,Y',s,h,k⟩:=q;obtain⟨x,h1,h2⟩:=abY h;obtain⟨y,h3,h4⟩:=abY h2;refine⟨H0,Z0,Y,pd,x.1,x.2,s,h1,λv H1 s1=>?_⟩;have s1':=s1.freeze;cases e:x.1.pv with
 | lst qs=>
  rw[e]at h4 s1';have h4':(if jO (cu 150) y.1.pv qs=some true/\qs.length<=100000 then some (Lc.sh (.int (qs.findIdx λq=>(cu 150 q y.1.pv).getD false)),y.2) else none)=some (r,Y'):=h4;split at h4'
  . rename_i hc;cases h4';obtain⟨_,r1⟩:=s1'.repH;have r1':=r1;obtain⟨a,us,rfl,hq,_⟩:=r1';refine⟨.inl ⟨rfl,us,hq⟩,H0,Z0,x.2,_,[y.1],y.2,s1',?_,λvs H2 e2 s2=>?_⟩
    . unfold aj ao;rw[h3];rfl
    . obtain⟨w,rfl⟩:=wB e2;have s3:=SR.freeze s2;obtain⟨g,ra,rb⟩:=s3.rep2H;exact⟨g,y.1.pv,qs,w,rfl,rb,ra,hc.1,hc.2,k _ H2 (s3.pop.pop.scal eN)⟩
  . cases h4'
 | _=>rw[e]at h4; cases h4
def kW (ps:List PV):List PV:=ps.zipIdx.map λx=>.tup [.int (x.2:Nat),x.1]
theorem Oi {i:Nat}:(kW ps)[i]?=ps[i]?.map λp=>.tup [.int (i:Nat),p]:=by unfold kW;rw[aay,List.getElem?_zipIdx];cases ps[i]?<;>simp
theorem Oj:(kW ps).length=ps.length:=by unfold kW; simp
theorem Ol:mW K H0 Z0 ((.ref a,.sh (.lst ps))::pd) (Wt K a) (kW ps):=by intro U H Y i s;obtain⟨el,Z,hg,z,r,so⟩:=s.sh;have r0:=r;obtain⟨b,vs,e,h1,h2⟩:=r;cases e;have hq:=cz.same z.zh h1;refine⟨λx hx=>?_,λhl=>⟨vs,hq,by rw[h2.length]; rw[Oj]at hl; omega⟩⟩;rw[Oi]at hx;obtain⟨p,hp,rfl⟩:=abZ hx;obtain⟨v,hv,rv⟩:=h2.get hp;refine⟨⟨vs,v,hq,hv⟩,λv' H' y=>?_⟩;obtain⟨T,y,hT,rfl,rfl,hy⟩:=y;have e1:=hy vs hq;rw[hv]at e1;cases e1;obtain⟨z',lz,so'⟩:=(so.consS r0).newF z hT;refine .mk (Z:=Z.put T (.tup [.int (i:Nat),v])) el hg z' (Slots.perm (Slots.consS so' ?_) (dR.cons _));exact⟨T,[.int (i:Nat),v],rfl,.inl (.inl (by show upd Z.z T _ T=_; rw[cg])),aQ.cons (eN _) (aQ.cons (rv.mono lz) .nil)⟩
def pP (f:EF):IF:=λY=>(f Y).bind λx=>match x.1.pv with
 | .lst ps=>some (kW ps,x.2)
 | _=>none
theorem Cw {elts:List Expr} {x1} (hg:Gl X "enumerate") (hm:X.mg "enumerate" = none) (ha:PA X [a] (iU X.K (aj f ao))) (hs:starEach [a] X.env=[(false,eval a X.env)]:=by rfl):PI X (.Tuple elts x1 tpos) (.Call (.Name "enumerate" p) [a] [] pos) (yG X.K (pP f)):=PI.imp (Ul hg hm ha hs) λU H R q=>by
 obtain⟨H0,Z0,Y,pd,xs,Y',s,h,k⟩:=q;obtain⟨x,h1,h2⟩:=abY h;refine⟨H0,Z0,Y,pd,[x.1],x.2,s,?_,λvs H1 e1 s1=>?_⟩
 . unfold aj ao;rw[h1];rfl
 . obtain⟨v,rfl⟩:=wB e1;have s2:=SR.freeze s1;cases e:x.1.pv with
   | lst ps=>
    rw[e]at h2 s2;cases h2;obtain⟨Z,z,r⟩:=s2.rep;obtain⟨b,us,rfl,h1',h2'⟩:=r;exact⟨b,rfl,⟨us,cz.same z h1'⟩,k _ _ _ s2 Ol (aas _ _)⟩
   | _=>rw[e]at h2; cases h2
abbrev PD:=List (Key×PV)
def iG:PD->Key->Option PV
 | [],_=>none
 | kv::r,k=>if kv.1=k then some kv.2 else iG r k
def ye (k:Key) (v:PV):PD->PD
 | []=>[]
 | kv::r=>(if kv.1=k then (kv.1,v) else kv)::ye k v r
def jR (l:PD) (k:Key) (v:PV):PD:=match iG l k with
 | some _=>ye k v l
 | none=>l++[(k,v)]
def tU:PV->Option Key
 | .int i=>some (.inl i)
 | .str x=>some (.inr x)
 | _=>none
def vK:Key->PV
 | .inl i=>.int i
 | .inr x=>.str x
def cD (l:PD):PV:=.dk (l.map (·.1)) (l.map (·.2))
def gF (K:FG) (Z:ZG):PD->List (Key×V)->Prop:=Paired λp q=>p.1=q.1/\Rep K Z p.2 q.2
section
variable {K:FG} {Z Z':ZG}
theorem jb:∀{kvs:List (Key×V)} {ks:List Key} {ps:List PV},kvs.map (·.1)=ks->aQ K Z ps (kvs.map (·.2))->gF K Z (ks.zip ps) kvs
 | [],ks,ps,h1,h2=>by subst h1;exact .nil
 | kv::r,ks,ps,h1,h2=>by
  subst h1;cases ps with
  | nil=>have:=h2.inv0; simp at this
  | cons p ps=>
   obtain⟨v,r',e,h3,h4⟩:=h2.inv;injection e with e1 e2;subst e1 e2;exact .cons ⟨rfl,h3⟩ (jb rfl h4)
theorem gF.keys:∀{l:PD} {kvs:List (Key×V)},gF K Z l kvs->kvs.map (·.1)=l.map (·.1)
 | _,_,.nil=>rfl
 | _,_,.cons h t=>by rw[aao,aao,h.1,gF.keys t]
theorem gF.vals:∀{l:PD} {kvs:List (Key×V)},gF K Z l kvs->aQ K Z (l.map (·.2)) (kvs.map (·.2))
 | _,_,.nil=>.nil
 | _,_,.cons h t=>aQ.cons h.2 (gF.vals t)
theorem gF.len:∀{l:PD} {kvs:List (Key×V)},gF K Z l kvs->kvs.length=l.length
 | _,_,.nil=>rfl
 | _,_,.cons h t=>by rw[aac,aac,gF.len t]
theorem gF.val:∀{l:PD} {kvs:List (Key×V)},gF K Z l kvs->(∀p,iG l k=some p->∃v,mU kvs k=some v/\Rep K Z p v)/\(iG l k=none->mU kvs k=none)
 | _,_,.nil=>⟨λp h=>(by cases h),λ_=>rfl⟩
 | p::l,q::kvs,.cons h t=>by
  have ih:=gF.val (k:=k) t;by_cases e:p.1=k
  . have e':q.1=k:=by rw[<-h.1]; exact e
    refine⟨λx hx=>⟨q.2,qU e',?_⟩,λhx=>?_⟩
    . unfold iG at hx; rw[abR e]at hx; cases hx; exact h.2
    . unfold iG at hx; rw[abR e]at hx; cases hx
  . have e':¬ q.1=k:=by rw[<-h.1]; exact e
    rw[qW e'];unfold iG;rw[abS e];exact ih
theorem gF.repl (r:Rep K Z p v):∀{l:PD} {kvs:List (Key×V)},gF K Z l kvs->gF K Z (ye k p l) (kvs.map λkv=>if kv.1=k then (kv.1,v) else kv)
 | _,_,.nil=>.nil
 | a::l,b::kvs,.cons h t=>by
  refine .cons ?_ (gF.repl r t);by_cases e:a.1=k
  . have e':b.1=k:=by rw[<-h.1]; exact e
    rw[abR e];dsimp only;rw[abR e'];exact⟨h.1,r⟩
  . have e':¬ b.1=k:=by rw[<-h.1]; exact e
    rw[abS e];dsimp only;rw[abS e'];exact h
theorem gF.app:∀{l l':PD} {kvs kvs':List (Key×V)},gF K Z l kvs->gF K Z l' kvs'->gF K Z (l++l') (kvs++kvs')
 | _,_,_,_,.nil,h=>h
 | _,_,_,_,.cons a t,h=>.cons a (gF.app t h)
theorem gF.put (h:gF K Z l kvs) (r:Rep K Z p v):gF K Z (jR l k p) (putK kvs k v):=by
 have hv:=h.val (k:=k);unfold jR;cases e:iG l k with
 | none=>
  rw[Gy v (hv.2 e)];exact h.app (.cons ⟨rfl,r⟩ .nil)
 | some q=>
  obtain⟨u,hu,_⟩:=hv.1 q e;have e2:putK kvs k v=kvs.map λkv=>if kv.1=k then (kv.1,v) else kv:=by unfold putK;rw[qX,hu];rfl
  rw[e2];exact h.repl r
theorem qO (h:tU p=some k) (r:Rep K Z p v):v=kV k:=by
 cases p with
 | int i=>cases h; exact bR r
 | str x=>cases h; exact cY r
 | _=>cases h
theorem J0:Rep K Z (vK k) (kV k):=by
 cases k with
 | inl i=>exact eN _
 | inr x=>exact j9 _
end
def iH (fa fb:EF):EF:=λY=>(fa Y).bind λx=>(fb x.2).bind λy=>match x.1.pv with
 | .dk ks ps=>(tU y.1.pv).bind λk=>(iG (ks.zip ps) k).map λp=>(.sh p,y.2)
 | .df ks ps=>(tU y.1.pv).bind λk=>(iG (ks.zip ps) k).map λp=>(.sh p,y.2)
 | _=>aN (λ_=>some x) (λ_=>some y) Y
theorem UJ (hy:y.2=Y) (s3:SR X.K H0 Z0 U H Y ((w,.sh y.1.pv)::(v,.sh x.1.pv)::pd)) (h:aN (λ_=>some x) (λ_=>some y) Y0=some (l,Y')) (k:∀u H',SR X.K H0 Z0 U H' Y' ((u,l)::pd)->Q u H'):Wh X.K v w H Q:=by
 unfold aN at h;rw[aaa,aaa]at h;subst hy;split at h
 . rename_i n kk en ek;split at h
   . rename_i ws em;obtain⟨p,h5,h6⟩:=abZ h;cases h6;rw[en,ek]at s3;obtain⟨_,rw'⟩:=s3.repH;have ew:=bR rw';obtain⟨a,rfl,s5⟩:=s3.pop.cellO em;obtain⟨el,Z,hg,z,so⟩:=s5.top;obtain⟨_,ea,⟨us,hu,hr⟩,_⟩:=so.1 _ aab;cases ea;obtain⟨j,e1,e2⟩:=xY h5 hr.length;obtain⟨u,e3,e4⟩:=hr.get e1;refine .inl ⟨a,us,kk,u,rfl,ew,cz.of hu,e2 u e3,k u H ?_⟩;have s6:SR X.K H0 Z0 U H ⟨y.2.vs,y.2.mu.set n none⟩ ((u,.sh p)::(.ref a,.own (.lst ws))::(.ref a,.sh (.ptr n))::pd):=.mk el hg z ((so.perm dR).consS e4);have hn:=(aal.mp em).1;have s7:=s6.perm (((List.Perm.swap _ _ _).cons _).trans (List.Perm.swap _ _ _));have s8:=s7.cellP (by show (y.2.mu.set n none)[n]?=_; rw[aaK hn]);have e8:(y.2.mu.set n none).set n (some (.lst ws))=y.2.mu:=by rw[abb]; exact ab0 em
     have s9:=s8;rw[e8]at s9;exact s9
   . cases h
 . obtain⟨l',h5,h6⟩:=abZ h;cases h6;exact Oa H0 Z0 U y.2 pd H v w x.1.pv y.1.pv _ Q s3 h5 k
theorem Ak (hu:X.A.units+1<cLine) (ha:PE X a (tP X.K fa)) (hb:PE X b (tP X.K fb)) (hm:Cg b):PE X (.Subscript a b pos) (tP X.K (iH fa fb)):=PE.imp (Su (Nk.or (Um hu)) ha hb hm) λU H Q q=>by
 obtain⟨H0,Z0,Y,pd,l,Y',s,f,k⟩:=q;obtain⟨x,h1,h2⟩:=abY f;obtain⟨y,h3,h4⟩:=abY h2;refine⟨H0,Z0,Y,pd,x.1,x.2,s,h1,λv H1 s1=>⟨H0,Z0,x.2,_,y.1,y.2,s1,h3,λw H2 s2=>?_⟩⟩;have s3:=s2.freeze.swap.freeze.swap;split at h4
 . rename_i ks ps en;obtain⟨kk,h5,h6⟩:=abY h4;obtain⟨p,h7,h8⟩:=abZ h6;cases h8;obtain⟨_,rw'⟩:=s3.repH;have ew:=qO h5 rw';have s4:=s3.pop;rw[en]at s4;obtain⟨Z,z,r⟩:=s4.rep;obtain⟨b',kvs,rfl,g1,g2,g3⟩:=r;obtain⟨u,hu',ru⟩:=(jb g2 g3).val.1 p h7;have e1:=z _ _ g1;refine .inr ⟨b',u,rfl,.inl ⟨kvs,kk,.inl e1,ew,hu'.symm⟩,k u H2 ?_⟩;refine(s4.part λZ' z' r'=>?_).sub ((aas _ _).cons_cons _);obtain⟨b2,kvs2,eb,g1',g2',g3'⟩:=r';cases eb;have e2:=z' _ _ g1';rw[e1]at e2;cases e2;obtain⟨u2,hu2,ru2⟩:=(jb g2' g3').val.1 p h7;rw[hu']at hu2;cases hu2;exact ru2
 . rename_i ks ps en;obtain⟨kk,h5,h6⟩:=abY h4;obtain⟨p,h7,h8⟩:=abZ h6;cases h8;obtain⟨_,rw'⟩:=s3.repH;have ew:=qO h5 rw';have s4:=s3.pop;rw[en]at s4;obtain⟨Z,z,r⟩:=s4.rep;obtain⟨b',ob,kvs,rfl,g1,g2,g3⟩:=r;obtain⟨u,hu',ru⟩:=(jb g2 g3).val.1 p h7;have e1:=z _ _ g1;refine .inr ⟨b',u,rfl,.inl ⟨kvs,kk,.inr ⟨ob,e1⟩,ew,hu'.symm⟩,k u H2 ?_⟩;refine(s4.part λZ' z' r'=>?_).sub ((aas _ _).cons_cons _);obtain⟨b2,ob2,kvs2,eb,g1',g2',g3'⟩:=r';cases eb;have e2:=z' _ _ g1';rw[e1]at e2;cases e2;obtain⟨u2,hu2,ru2⟩:=(jb g2' g3').val.1 p h7;rw[hu']at hu2;cases hu2;exact ru2
 . exact .inl (UJ rfl s3 h4 k)
theorem SR.takeD (s:SR K H0 Z0 U H Y pd) (e:Y.vs[i]?=some (some (.own (.dk ks ps)))):
 ∃a,U[i]?=some (some (.ref a))/\SR K H0 Z0 U H (Y.set i none) ((.ref a,.own (.dk ks ps))::pd):=by
 obtain⟨v,e1,s1⟩:=s.take e;obtain⟨_,Z,_,z,so⟩:=s1.top;obtain⟨a,ea,_⟩:=so.1 _ aab;have ea':=aap ea;subst ea';exact⟨a,e1,s1⟩
theorem SR.setD (s:SR K H0 Z0 U H Y ((v,.sh p)::(.ref a,.own (.dk ks ps))::pd)):
 ∃kvs,H a=some (.dK kvs)/\kvs.length=ks.length/\SR K H0 Z0 U (upd H a (.dK (putK kvs k v))) Y ((.ref a,.own (cD (jR (ks.zip ps) k p)))::pd):=by
 obtain⟨el,Z,hg,z,r,so⟩:=s.sh;have so2:=so.perm dR.symm;obtain⟨_,eb,⟨kvs,hu,hk,hr⟩,_⟩:=so2.1 _ aab;cases eb;refine⟨kvs,hu,by rw[<-hk,aad],?_⟩;have d:=(jb hk hr).put (k:=k) r;obtain⟨z',s'⟩:=so2.write (q:=cD (jR (ks.zip ps) k p)) z ⟨putK kvs k v,cg,d.keys,d.vals⟩;exact .mk el hg z' s'
def eG (i:Nat) (fi fv:EF):SF:=λY=>(fv Y).bind λx=>match x.2.vs[i]? with
 | some (some (.own (.dk _ _)))=>(fi x.2).bind λy=>match tU y.1.pv,y.2.vs[i]? with
  | some k,some (some (.own (.dk ks ps)))=>if ks.length<100000 then some (.nx (y.2.set i (some (.own (cD (jR (ks.zip ps) k x.1.pv)))))) else none
  | _,_=>none
 | _=>none
theorem kE (h:PS X (.Assign [.Subscript o ix tpos] e pos) (Gh (tP X.K fv) (KY (oJ i) (tP X.K fi) Lh))):PS X (.Assign [.Subscript o ix tpos] e pos) (fC X.K (eG i fi fv)):=PS.imp h λD U H q=>by
 obtain⟨H0,Z0,Y,pd,fl,s,h,k⟩:=q;obtain⟨x,h1,h2⟩:=abY h;refine⟨H0,Z0,Y,pd,x.1,x.2,s,h1,λv H1 s1=>?_⟩;split at h2
 . rename_i ks0 ps0 e0;obtain⟨y,h3,h4⟩:=abY h2;obtain⟨a,ea,_⟩:=s1.takeD e0;refine⟨.ref a,ea,H0,Z0,x.2,_,y.1,y.2,s1.freeze,h3,λw H2 s2=>?_⟩;split at h4
   . rename_i kk ks ps ek e3;split at h4
     . cases h4;obtain⟨_,rw'⟩:=s2.freeze.repH;have ew:=qO ek rw';obtain⟨a',ea',s3⟩:=s2.pop.takeD e3;rw[ea]at ea'; cases ea';obtain⟨kvs,hu,hl,s4⟩:=s3.swap.setD;refine⟨a,_,rfl,.inl ⟨kvs,kk,hu,ew,by rw[hl,sizeLine_eq]; omega,rfl⟩,k U _ ?_⟩;have s5:=s4.put ea;rw[Ev.set_set]at s5;exact s5
     . cases h4
   . cases h4
 . cases h2
def yf (fo fv:EF):SF:=λY=>(fo Y).bind λo=>match o.1.pv with
 | .ptr n=>match o.2.mu[n]? with
  | some (some (.lst _))=>(fv o.2).bind λy=>match y.2.mu[n]? with
   | some (some (.lst ws))=>if ws.length<100000 then some (.nx ⟨y.2.vs,y.2.mu.set n (some (.lst (ws++[y.1.pv])))⟩) else none
   | _=>none
  | _=>none
 | _=>none
theorem UL (h:PS X (.Expr (.Call (.Attribute o "append" apos) [e] [] cpos) pos) (uM (Gw X.K "list" Ci (tP X.K fo) (iU X.K (aj fv ao))))):
 PS X (.Expr (.Call (.Attribute o "append" apos) [e] [] cpos) pos) (fC X.K (yf fo fv)):=PS.imp h λD U H q=>by
 obtain⟨H0,Z0,Y,pd,fl,s,h,k⟩:=q;obtain⟨o',h1,h2⟩:=abY h;refine⟨H0,Z0,Y,pd,o'.1,o'.2,s,h1,λv H1 s1=>?_⟩;split at h2
 . rename_i n en;split at h2
   . rename_i ws0 em0;obtain⟨y,h3,h4⟩:=abY h2;have s2:=s1.freeze;rw[en]at s2;obtain⟨a,rfl,s5⟩:=s2.cellO em0;obtain⟨_,Z,_,z,so⟩:=s5.top;obtain⟨_,ea,⟨us,hu,_⟩,_⟩:=so.1 _ aab;cases ea;refine⟨.inl ⟨rfl,us,cz.of hu⟩,H0,Z0,o'.2,_,[y.1],y.2,s2,?_,λvs H2 e2 sv=>?_⟩
     . unfold aj ao;rw[h3];rfl
     . obtain⟨v1,rfl⟩:=wB e2;split at h4
       . rename_i ws em;split at h4
         . cases h4;have s3:=SR.freeze sv;obtain⟨a',ea',s6⟩:=s3.swap.cellO em;cases ea';have s7:=s6.perm ((List.Perm.swap _ _ _).trans ((List.Perm.swap _ _ _).cons _));obtain⟨us2,hu2,hl,s8⟩:=s7.pushO;have hn:=(aal.mp em).1;have s9:=s8.cellP (by show (y.2.mu.set n none)[n]?=_; rw[aaK hn]);refine⟨a,us2,v1,rfl,rfl,hu2,by rw[hl,sizeLine_eq]; omega,k U _ ?_⟩;have e8:(y.2.mu.set n none).set n (some (.lst (ws++[y.1.pv])))=y.2.mu.set n (some (.lst (ws++[y.1.pv]))):=abb ..;have s10:SR X.K H0 Z0 U (upd H2 a (.lst (us2++[v1]))) ⟨y.2.vs,(y.2.mu.set n none).set n (some (.lst (ws++[y.1.pv])))⟩ pd:=s9;rw[e8]at s10;exact s10
         . cases h4
       . cases h4
   . cases h2
 . cases h2
abbrev DF:=Ev->Option (List (Lc×Lc)×Ev)
def Sw:List (V×V)->List V
 | []=>[]
 | p::r=>p.1::p.2::Sw r
def Al:EF:=λY=>some (.own (.dk [] []),Y)
theorem Hg:PE X (.Dict [] [] pos) (tP X.K Al):=PE.imp QJ λU H Q q=>by obtain⟨H0,Z0,Y,pd,l,Y',s,f,k⟩:=q;cases f;exact λp hp=>k _ _ (s.newO hp λZ _ _=>⟨[],cg,rfl,.nil⟩)
theorem SR.fzD (s:SR K H0 Z0 U H Y ((.ref a,.own (.dk ks ps))::pd)):
 ∃kvs,H a=some (.dK kvs)/\∀o,SR K H0 Z0 U (upd H a (.frz o (.dK kvs))) Y ((.ref a,.sh (.df ks ps))::pd):=by
 obtain⟨el,Z,hg,z,so⟩:=s.top;obtain⟨_,eb,⟨kvs,hu,hk,hr⟩,e3,e4⟩:=so.1 _ aab;cases eb;refine⟨kvs,hu,λo=>?_⟩;have sz:dC Z.z (upd Z.z a (.frz o (.dK kvs))):=λb u e=>by rw[bO (cO e e3)]; exact e
 have lz:fY Z (Z.put a (.frz o (.dK kvs))):=⟨sz,aaY _⟩;have nd:=so.2;have hL:=so.sub (aas _ _);refine .mk (Z:=Z.put a (.frz o (.dK kvs))) el hg ⟨λb u e=>?_,λb u e=>by rw[bO (cO e e4)]; exact z.h0 b u e,z.z0.trans lz,λb u e=>?_⟩ (Slots.consS ?_ ?_)
 . have e:upd Z.z a (.frz o (.dK kvs)) b=some u:=e;unfold upd at e ⊢;split
   . rename_i q; rw[abR q]at e; exact e
   . rename_i q; rw[abS q]at e; exact z.zh b u e
 . have e:upd Z.z a (.frz o (.dK kvs)) b=some u:=e;unfold upd at e;split at e
   . rename_i q; rw[q]; exact .inr (.inl e4)
   . exact z.new b u e
 . refine hL.step lz λe he b hb=>?_;have hba:b≠a:=λq=>by rw[q]at hb;exact(aaS.mp nd).1 (aaN.mpr ⟨e,he,hb⟩)
   exact⟨bO hba,by show upd Z.z a _ b=none; rw[bO hba]; exact(gK hL he hb).1⟩
 . exact⟨a,o,kvs,rfl,by show upd Z.z a _ a=_; rw[cg],hk,hr.mono lz⟩
def jD (f:EF):EF:=λY=>(f Y).bind λx=>match x.1 with
 | .own (.dk ks ps)=>some (.sh (.df ks ps),x.2)
 | _=>none
theorem Hh (h:PE X e (tP X.K f)):PE X e (tP X.K (jD f)):=PE.imp (Yo h) λU H Q q=>by
 obtain⟨H0,Z0,Y,pd,r,Y',s,h,k⟩:=q;obtain⟨x,h1,h2⟩:=abY h;refine⟨H0,Z0,Y,pd,x.1,x.2,s,h1,λv H1 s1=>?_⟩;split at h2
 . rename_i ks ps e1;cases h2;rw[e1]at s1;obtain⟨_,Z,_,z,so⟩:=s1.top;obtain⟨a,ea,_⟩:=so.1 _ aab;have ea':=aap ea;subst ea';obtain⟨kvs,hu,st⟩:=s1.fzD;exact⟨a,kvs,rfl,hu,λo=>k _ _ (st o)⟩
 . cases h2
theorem SR.weak (zo:jf H0 Z0 Z₁ H1) (s:SR K H0 Z₁ U H Y pd):SR K H0 Z0 U H Y pd:=by obtain⟨e,Z,hg,z,so⟩:=s;exact⟨e,Z,hg,⟨z.zh,z.h0,zo.z0.trans z.z0,λb o e=>(z.new b o e).elim (λh=>zo.new b o h) .inr⟩,so⟩
def J1 (f:EF):IF:=λY=>(f Y).bind λx=>match x.1.pv with
 | .df ks _=>some (ks.map vK,x.2)
 | _=>none
theorem Lr (g1:Z.z a=some (.frz o (.dK kvs))) (g2:kvs.map (·.1)=ks):mW K H0 Z pd (Wu a o kvs) (ks.map vK):=by
 intro U H Y i s;have at':H a=some (.frz o (.dK kvs)):=by obtain⟨_,Z',_,z',_⟩:=s;exact z'.zh _ _ (z'.z0.1 _ _ g1)
 have hlen:kvs.length=ks.length:=by rw[<-g2,aad]
 refine⟨λx hx=>?_,λe=>⟨at',by rw[e,aad,hlen]; exact aan _⟩⟩;rw[aay]at hx;obtain⟨kk,hk,rfl⟩:=abZ hx;refine⟨⟨at',by rw[hlen]; exact(aal.mp hk).1⟩,λv H' hy=>?_⟩;obtain⟨rfl,k2,hk2,rfl⟩:=hy;rw[g2,hk]at hk2;cases hk2;exact s.scal λZ=>J0
theorem Cy (hp:PassesOwn (model X.prog X.w) X.A X.env X.xe) (hc:X.calm=true) (hl:PE X iter (tP X.K f)) (hg:PG X tg g) (hb':GS X.K g b) (hb:iu X body (fC X.K fb))
 (hs:∀x,foldedSetIterable iter X.env x=pure x:=by intro _; rfl):PS X (.For tg iter body [] pos) (fC X.K (dM (J1 f) b fb)):=PS.imp (Gj hp hc (Uo hl) hg hb hs) λD U H q=>by
 obtain⟨H0,Z0,Y,pd,fl,s,h,k⟩:=q;obtain⟨y,h1,h2⟩:=abY h;obtain⟨x,h3,h4⟩:=abY h1;refine⟨H0,Z0,Y,pd,x.1,x.2,s,h3,λv H1 s1=>?_⟩;refine wD λG kG=>?_;split at h4
 . rename_i ks ps en;cases h4;have s2:=s1.freeze;rw[en]at s2;obtain⟨el,Z,hgg,z,r,so⟩:=s2.sh;obtain⟨a,o,kvs,rfl,g1,g2,g3⟩:=r;have hst:SR X.K H0 Z U H1 x.2 pd:=⟨el,Z,hgg,⟨z.zh,z.h0,fY.refl Z,λb u e=>.inl e⟩,so⟩;exact kG ⟨a,o,kvs,rfl,z.zh _ _ g1,zc hb' (Lr g1 g2) (k.imp (λs=>s.weak z) λs=>s.weak z) hst h2⟩
 . cases h4
def nP (f:EF):EF:=λY=>(f Y).bind λx=>match x.1.pv with
 | .ptr n=>match x.2.mu[n]? with
  | some (some (.lst ws))=>some (.sh (.int (ws.length:Nat)),x.2)
  | _=>none
 | p=>(Q7 p).map λl=>(l,x.2)
theorem Lw (h:PE X (.Call (.Name x p) [e] [] pos) (Dz (λxs H Q=>∃x n,xs=[x]/\Qu X.K x H n/\Q (.int n) H) (iU X.K (aj f ao)))):PE X (.Call (.Name x p) [e] [] pos) (tP X.K (nP f)):=PE.imp h λU H Q q=>by
 obtain⟨H0,Z0,Y,pd,l,Y',s,ff,k⟩:=q;obtain⟨y,h1,h2⟩:=abY ff;refine⟨H0,Z0,Y,pd,[y.1],y.2,s,?_,λvs H1 e1 s1=>?_⟩
 . unfold aj ao;rw[h1];rfl
 . obtain⟨v,rfl⟩:=wB e1;have s2:=SR.freeze s1;split at h2
   . rename_i n en;split at h2
     . rename_i ws em;cases h2;rw[en]at s2;obtain⟨a,rfl,s5⟩:=s2.cellO em;obtain⟨_,Z,_,z,so⟩:=s5.top;obtain⟨_,ea,⟨us,hu,hr⟩,_⟩:=so.1 _ aab;cases ea;exact⟨.ref a,ws.length,rfl,.inl ⟨us,cz.of hu,hr.length.symm⟩,k _ H1 (s2.pop.scal eN)⟩
     . cases h2
   . obtain⟨l',h3,h4⟩:=abZ h2;cases h4;exact Ob H0 Z0 U y.2 pd H1 [v] [y.1.pv] _ Q rfl s2 h3 k
end
open PySem.SeqAt
section
variable {X:Cx}
def Lx (n:Nat):PD->PD->Option Bool
 | [],_=>some true
 | kv::r,lb=>match iG lb kv.1 with
  | none=>some false
  | some q=>(cu n kv.2 q).bind λe=>(Lx n r lb).map λc=>e&&c
def wM (n:Nat) (la lb:PD):Option Bool:=if la.length=lb.length then Lx n la lb else some false
theorem J2 (I:Inv X adG U H s) (hA:A.units+n<cLine) (rb:gF X.K ⟨H,g⟩ lb kb) (qb:KV kb vb):
 ∀{la:PD} {ka:List (Key×V)} {va:List (Key×Value)} {b:Bool},gF X.K ⟨H,g⟩ la ka->KV ka va->Lx n la lb=some b->W.KeqHits A s vb va b
 | _,_,va,b,.nil,qa,h=>by cases h;cases (qa);exact .nil
 | p::la,q::ka,va,b,.cons hpq t,qa,h=>by
  cases (qa) with
  | @cons _ u _ vr e qr=>
   obtain⟨u1,u2⟩:=u;have ek:p.1=u1:=hpq.1.trans e.1;unfold Lx at h;have rel:=qb.val p.1;cases hv:iG lb p.1 with
   | none=>
    rw[hv]at h;cases h;rw[rb.val.2 hv]at rel;refine .miss ?_;rw[<-ek];cases hx:valueAt vb p.1 with
    | none=>rfl
    | some y=>rw[hx]at rel; exact rel.elim
   | some q'=>
    rw[hv]at h;obtain⟨e1,h1,h2⟩:=abY h;obtain⟨c,h3,h4⟩:=abZ h2;subst h4;obtain⟨v',hv',rv'⟩:=rb.val.1 q' hv;rw[hv']at rel;cases hx:valueAt vb p.1 with
    | none=>rw[hx]at rel; exact rel.elim
    | some y=>
     rw[hx]at rel;refine .hit (by rw[<-ek]; exact hx) (Ac I n hpq.2 rv' e.2 rel h1 A hA).1 (J2 I hA rb qb t qr h3)
def Rk (K:FG) (neg:Bool):R2:=λx y H Q=>∃g ks ps js qs b,Rep K ⟨H,g⟩ (.dk ks ps) x/\Rep K ⟨H,g⟩ (.dk js qs) y/\wM 150 (ks.zip ps) (js.zip qs)=some b/\Q (.bl (if neg then !b else b)) H
theorem Om (I:Inv X adG U H s) (hA:X.A.in1.units+150<cLine)
 (r1:Rep X.K ⟨H,g⟩ (.dk ks ps) x) (r2:Rep X.K ⟨H,g⟩ (.dk js qs) y) (rx:RelV x v) (ry:RelV y u) (e:wM 150 (ks.zip ps) (js.zip qs)=some b):
 ∃a a' va vb r,v=.ref a/\u=.ref a'/\(a==sysModules)=false/\(a'==sysModules)=false/\s.heap.DictOf (dD X.prog X.w) a va/\s.heap.DictOf (dD X.prog X.w) a' vb/\(va.length=vb.length->W.KeqHits X.A.in1 s vb va r)/\(va.length==vb.length&&r)=b:=by
 obtain⟨a,ka,rfl,h1,h2,h3⟩:=r1;obtain⟨a',kb,rfl,h1',h2',h3'⟩:=r2;cases rx;cases ry;obtain⟨_,d1,va,q1,dd1⟩:=Ft I.hok h1;obtain⟨_,d2,vb,q2,dd2⟩:=Ft I.hok h1';have ra:=jb h2 h3;have rb:=jb h2' h3';have la:va.length=(ks.zip ps).length:=by rw[<-q1.length,ra.len]
 have lb:vb.length=(js.zip qs).length:=by rw[<-q2.length,rb.len]
 unfold wM at e;split at e
 . rename_i hl;refine⟨a,a',va,vb,b,rfl,rfl,d1,d2,dd1,dd2,λ_=>J2 I hA rb q2 ra q1 e,?_⟩;rw[la,lb,hl];simp
 . rename_i hl;cases e;refine⟨a,a',va,vb,false,rfl,rfl,d1,d2,dd1,dd2,λz=>(hl (by rw[<-la,<-lb]; exact z)).elim,by simp⟩
theorem Xd (hr:lZ k X.A):fP X (compareOp .Eq) (Rk X.K false):=by
 intro adG s U H x y v u Q I rx ry h;obtain⟨g,ks,ps,js,qs,b,r1,r2,e,k'⟩:=h;have hA:X.A.in1.units+150<cLine:=by have:=hr.un; show X.A.units+1+150<cLine; omega
 obtain⟨a,a',va,vb,r,rfl,rfl,d1,d2,dd1,dd2,hits,eb⟩:=Om I hA r1 r2 rx ry e;refine W.keq_eq d1 d2 dd1 dd2 (by have:=hr.un; omega) hits ?_;rw[eb];exact⟨.bl b,H,I,rfl,k'⟩
theorem Xe (hr:lZ k X.A):fP X (compareOp .NotEq) (Rk X.K true):=by
 intro adG s U H x y v u Q I rx ry h;obtain⟨g,ks,ps,js,qs,b,r1,r2,e,k'⟩:=h;have hA:X.A.in1.units+150<cLine:=by have:=hr.un; show X.A.units+1+150<cLine; omega
 obtain⟨a,a',va,vb,r,rfl,rfl,d1,d2,dd1,dd2,hits,eb⟩:=Om I hA r1 r2 rx ry e;refine W.keq_ne d1 d2 dd1 dd2 (by have:=hr.un; omega) hits ?_;rw[eb];exact⟨.bl (!b),H,I,rfl,k'⟩
def Hi (p q:PV):Option Lc:=match p,q with
 | .dk ks ps,.dk js qs=>(wM 150 (ks.zip ps) (js.zip qs)).map λb=>.sh (.bl b)
 | p,q=>eqP p q
def J3 (p q:PV):Option Lc:=match p,q with
 | .dk ks ps,.dk js qs=>(wM 150 (ks.zip ps) (js.zip qs)).map λb=>.sh (.bl (!b))
 | p,q=>mC p q
def Ly (K:FG) (neg:Bool):R2:=λx y H Q=>G8 K neg x y H Q\/Rk K neg x y H Q
theorem Oo (hr:lZ k X.A):fP X (compareOp .Eq) (Ly X.K false):=(dh hr).or (Xd hr)
theorem Oq (hr:lZ k X.A):fP X (compareOp .NotEq) (Ly X.K true):=(pN hr).or (Xe hr)
theorem J4:jg K (Ly K false) Hi:=by
 intro H0 Z0 U Y pd H v w x y l Q s e k;unfold Hi at e;split at e
 . obtain⟨b,e1,rfl⟩:=abZ e;obtain⟨g,r1,r2⟩:=s.rep2H;exact .inr ⟨g,_,_,_,_,b,r1,r2,e1,k _ H (s.pop.pop.scal dX)⟩
 . exact .inl (di H0 Z0 U Y pd H v w _ _ l Q s e k)
theorem J5:jg K (Ly K true) J3:=by
 intro H0 Z0 U Y pd H v w x y l Q s e k;unfold J3 at e;split at e
 . obtain⟨b,e1,rfl⟩:=abZ e;obtain⟨g,r1,r2⟩:=s.rep2H;exact .inr ⟨g,_,_,_,_,b,r1,r2,e1,k _ H (s.pop.pop.scal dX)⟩
 . exact .inl (pO H0 Z0 U Y pd H v w _ _ l Q s e k)
end
end PL
namespace L2
open PySem PySem.Spec PyProof.Rows
variable {adG:List (Addr×Obj)} {E:Value->Shared->Prop} {s:Shared} {A:Around} {w:World} {P:Program}
section
variable {X:Cx}
end
end L2
namespace PL
open PySem PySem.Spec PyProof.Rows L2
variable {K:FG} {H0 H:Hp} {Z0:ZG} {U:L2.St} {Y:Ev} {pd:Pd}
section
variable {X:Cx}
abbrev jL:=List (List Key×PV)
def rJ:jL->List Key->Option PV
 | [],_=>none
 | kv::r,k=>if kv.1=k then some kv.2 else rJ r k
def Am (k:List Key) (v:PV):jL->jL
 | []=>[]
 | kv::r=>(if kv.1=k then (kv.1,v) else kv)::Am k v r
def rK (l:jL) (k:List Key) (v:PV):jL:=match rJ l k with
 | some _=>Am k v l
 | none=>l++[(k,v)]
def jE (l:jL):PV:=.dt (l.map (·.1)) (l.map (·.2))
def iY (K:FG) (Z:ZG):jL->List (List Key×V)->Prop:=Paired λp q=>p.1=q.1/\Rep K Z p.2 q.2
section
variable {K:FG} {Z Z':ZG}
theorem J6:∀{kvs:List (List Key×V)} {ks:List (List Key)} {ps:List PV},kvs.map (·.1)=ks->aQ K Z ps (kvs.map (·.2))->iY K Z (ks.zip ps) kvs
 | [],ks,ps,h1,h2=>by subst h1;exact .nil
 | kv::r,ks,ps,h1,h2=>by
  subst h1;cases ps with
  | nil=>have:=h2.inv0; simp at this
  | cons p ps=>
   obtain⟨v,r',e,h3,h4⟩:=h2.inv;injection e with e1 e2;subst e1 e2;exact .cons ⟨rfl,h3⟩ (J6 rfl h4)
theorem iY.keys:∀{l:jL} {kvs:List (List Key×V)},iY K Z l kvs->kvs.map (·.1)=l.map (·.1)
 | _,_,.nil=>rfl
 | _,_,.cons h t=>by rw[aao,aao,h.1,iY.keys t]
theorem iY.vals:∀{l:jL} {kvs:List (List Key×V)},iY K Z l kvs->aQ K Z (l.map (·.2)) (kvs.map (·.2))
 | _,_,.nil=>.nil
 | _,_,.cons h t=>aQ.cons h.2 (iY.vals t)
theorem iY.val:∀{l:jL} {kvs:List (List Key×V)},iY K Z l kvs->(∀p,rJ l k=some p->∃v,mU kvs k=some v/\Rep K Z p v)/\(rJ l k=none->mU kvs k=none)
 | _,_,.nil=>⟨λp h=>(by cases h),λ_=>rfl⟩
 | p::l,q::kvs,.cons h t=>by
  have ih:=iY.val (k:=k) t;by_cases e:p.1=k
  . have e':q.1=k:=by rw[<-h.1]; exact e
    refine⟨λx hx=>⟨q.2,qU e',?_⟩,λhx=>?_⟩
    . unfold rJ at hx; rw[abR e]at hx; cases hx; exact h.2
    . unfold rJ at hx; rw[abR e]at hx; cases hx
  . have e':¬ q.1=k:=by rw[<-h.1]; exact e
    rw[qW e'];unfold rJ;rw[abS e];exact ih
theorem iY.repl (r:Rep K Z p v):∀{l:jL} {kvs:List (List Key×V)},iY K Z l kvs->iY K Z (Am k p l) (kvs.map λkv=>if kv.1=k then (kv.1,v) else kv)
 | _,_,.nil=>.nil
 | a::l,b::kvs,.cons h t=>by
  refine .cons ?_ (iY.repl r t);by_cases e:a.1=k
  . have e':b.1=k:=by rw[<-h.1]; exact e
    rw[abR e];dsimp only;rw[abR e'];exact⟨h.1,r⟩
  . have e':¬ b.1=k:=by rw[<-h.1]; exact e
    rw[abS e];dsimp only;rw[abS e'];exact h
theorem iY.app:∀{l l':jL} {kvs kvs':List (List Key×V)},iY K Z l kvs->iY K Z l' kvs'->iY K Z (l++l') (kvs++kvs')
 | _,_,_,_,.nil,h=>h
 | _,_,_,_,.cons a t,h=>.cons a (iY.app t h)
theorem iY.put (h:iY K Z l kvs) (r:Rep K Z p v):iY K Z (rK l k p) (putK kvs k v):=by
 have hv:=h.val (k:=k);unfold rK;cases e:rJ l k with
 | none=>
  rw[Gy v (hv.2 e)];exact h.app (.cons ⟨rfl,r⟩ .nil)
 | some q=>
  obtain⟨u,hu,_⟩:=hv.1 q e;have e2:putK kvs k v=kvs.map λkv=>if kv.1=k then (kv.1,v) else kv:=by unfold putK;rw[qX,hu];rfl
  rw[e2];exact h.repl r
end
def FJ:List PV->Option (List Key)
 | []=>some []
 | p::ps=>(tU p).bind λk=>(FJ ps).map (k::·)
theorem Ea:∀{ps:List PV} {vs:List V} {ks:List Key},FJ ps=some ks->aQ K Z ps vs->vs=ks.map kV
 | [],vs,ks,h,r=>by cases h;exact r
 | p::ps,vs,ks,h,r=>by obtain⟨v,r',rfl,h1,h2⟩:=r;obtain⟨k,g1,g2⟩:=abY h;obtain⟨t,g3,g4⟩:=abZ g2;cases g4;rw[qO g1 h1,Ea g3 h2];rfl
theorem SR.takeT (s:SR K H0 Z0 U H Y pd) (e:Y.vs[i]?=some (some (.own (.dt ks ps)))):
 ∃a,U[i]?=some (some (.ref a))/\SR K H0 Z0 U H (Y.set i none) ((.ref a,.own (.dt ks ps))::pd):=by
 obtain⟨v,e1,s1⟩:=s.take e;obtain⟨_,Z,_,z,so⟩:=s1.top;obtain⟨a,ea,_⟩:=so.1 _ aab;have ea':=aap ea;subst ea';exact⟨a,e1,s1⟩
theorem SR.setT (s:SR K H0 Z0 U H Y ((v,.sh p)::(.ref a,.own (.dt ks ps))::pd)):
 ∃kvs,H a=some (.dT kvs)/\kvs.length=ks.length/\SR K H0 Z0 U (upd H a (.dT (putK kvs k v))) Y ((.ref a,.own (jE (rK (ks.zip ps) k p)))::pd):=by
 obtain⟨el,Z,hg,z,r,so⟩:=s.sh;have so2:=so.perm dR.symm;obtain⟨_,eb,⟨kvs,hu,hk,hr⟩,_⟩:=so2.1 _ aab;cases eb;refine⟨kvs,hu,by rw[<-hk,aad],?_⟩;have d:=(J6 hk hr).put (k:=k) r;obtain⟨z',s'⟩:=so2.write (q:=jE (rK (ks.zip ps) k p)) z ⟨putK kvs k v,cg,d.keys,d.vals⟩;exact .mk el hg z' s'
def An (i:Nat) (fi:AF) (fv:EF):SF:=λY=>(fv Y).bind λx=>match x.2.vs[i]? with
 | some (some (.own (.dt _ _)))=>(fi x.2).bind λy=>match FJ (y.1.map Lc.pv),y.2.vs[i]? with
  | some k,some (some (.own (.dt ks ps)))=>if ks.length<100000/\k.length<=1000 then some (.nx (y.2.set i (some (.own (jE (rK (ks.zip ps) k x.1.pv)))))) else none
  | _,_=>none
 | _=>none
theorem UT (h:PS X (.Assign [.Subscript o ix tpos] e pos) (Gh (tP X.K fv) (KY (oJ i) (V9 (iU X.K fi)) Lh))):PS X (.Assign [.Subscript o ix tpos] e pos) (fC X.K (An i fi fv)):=PS.imp h λD U H q=>by
 obtain⟨H0,Z0,Y,pd,fl,s,h,k⟩:=q;obtain⟨x,h1,h2⟩:=abY h;refine⟨H0,Z0,Y,pd,x.1,x.2,s,h1,λv H1 s1=>?_⟩;split at h2
 . rename_i ks0 ps0 e0;obtain⟨y,h3,h4⟩:=abY h2;obtain⟨a,ea,_⟩:=s1.takeT e0;refine⟨.ref a,ea,H0,Z0,x.2,_,y.1,y.2,s1.freeze,h3,λws H2 e2 s2=>?_⟩;split at h4
   . rename_i kk ks ps ek e3;split at h4
     . cases h4;obtain⟨el,Z,hg,z,rl,so⟩:=s2.repl e2;have ew:=Ea ek rl;refine⟨by rw[ew,aad,sizeLine_eq]; omega,λb hb=>?_⟩;obtain⟨z',lz,so'⟩:=so.newF z hb;have s3:SR X.K H0 Z0 U (upd H2 b (.tup ws)) y.2 ((v,.sh x.1.pv)::pd):=⟨el,Z.put b (.tup ws),hg,z',so'⟩;obtain⟨a',ea',s4⟩:=s3.takeT e3;rw[ea]at ea'; cases ea';obtain⟨kvs,hu,hl,s5⟩:=s4.swap.setT;refine⟨a,_,rfl,.inr ⟨kvs,kk,b,hu,rfl,by rw[cg,ew],by rw[hl,sizeLine_eq]; omega,rfl⟩,k U _ ?_⟩;have s6:=s5.put ea;rw[Ev.set_set]at s6;exact s6
     . cases h4
   . cases h4
 . cases h2
def Ot:EF:=λY=>some (.own (.dt [] []),Y)
theorem Xf:PE X (.Dict [] [] pos) (tP X.K Ot):=PE.imp QK λU H Q q=>by obtain⟨H0,Z0,Y,pd,l,Y',s,f,k⟩:=q;cases f;exact λp hp=>k _ _ (s.newO hp λZ _ _=>⟨[],cg,rfl,.nil⟩)
theorem SR.fzT (s:SR K H0 Z0 U H Y ((.ref a,.own (.dt ks ps))::pd)):
 ∃kvs,H a=some (.dT kvs)/\∀o,SR K H0 Z0 U (upd H a (.frz o (.dT kvs))) Y ((.ref a,.sh (.dtf ks ps))::pd):=by
 obtain⟨el,Z,hg,z,so⟩:=s.top;obtain⟨_,eb,⟨kvs,hu,hk,hr⟩,e3,e4⟩:=so.1 _ aab;cases eb;refine⟨kvs,hu,λo=>?_⟩;have sz:dC Z.z (upd Z.z a (.frz o (.dT kvs))):=λb u e=>by rw[bO (cO e e3)]; exact e
 have lz:fY Z (Z.put a (.frz o (.dT kvs))):=⟨sz,aaY _⟩;have nd:=so.2;have hL:=so.sub (aas _ _);refine .mk (Z:=Z.put a (.frz o (.dT kvs))) el hg ⟨λb u e=>?_,λb u e=>by rw[bO (cO e e4)]; exact z.h0 b u e,z.z0.trans lz,λb u e=>?_⟩ (Slots.consS ?_ ?_)
 . have e:upd Z.z a (.frz o (.dT kvs)) b=some u:=e;unfold upd at e ⊢;split
   . rename_i q; rw[abR q]at e; exact e
   . rename_i q; rw[abS q]at e; exact z.zh b u e
 . have e:upd Z.z a (.frz o (.dT kvs)) b=some u:=e;unfold upd at e;split at e
   . rename_i q; rw[q]; exact .inr (.inl e4)
   . exact z.new b u e
 . refine hL.step lz λe he b hb=>?_;have hba:b≠a:=λq=>by rw[q]at hb;exact(aaS.mp nd).1 (aaN.mpr ⟨e,he,hb⟩)
   exact⟨bO hba,by show upd Z.z a _ b=none; rw[bO hba]; exact(gK hL he hb).1⟩
 . exact⟨a,o,kvs,rfl,by show upd Z.z a _ a=_; rw[cg],hk,hr.mono lz⟩
def Lz (f:EF):EF:=λY=>(f Y).bind λx=>match x.1 with
 | .own (.dt ks ps)=>some (.sh (.dtf ks ps),x.2)
 | _=>none
theorem ZR (h:PE X e (tP X.K f)):PE X e (tP X.K (Lz f)):=PE.imp (Wz h) λU H Q q=>by
 obtain⟨H0,Z0,Y,pd,r,Y',s,h,k⟩:=q;obtain⟨x,h1,h2⟩:=abY h;refine⟨H0,Z0,Y,pd,x.1,x.2,s,h1,λv H1 s1=>?_⟩;split at h2
 . rename_i ks ps e1;cases h2;rw[e1]at s1;obtain⟨_,Z,_,z,so⟩:=s1.top;obtain⟨a,ea,_⟩:=so.1 _ aab;have ea':=aap ea;subst ea';obtain⟨kvs,hu,st⟩:=s1.fzT;exact⟨a,kvs,rfl,hu,λo=>k _ _ (st o)⟩
 . cases h2
theorem Slots.know (h:Slots K H0 Z H L) (zo:jf H0 Z0 Z H) (ha:H a=some (.tup vs)):jf H0 Z0 (Z.put a (.tup vs)) H/\fY Z (Z.put a (.tup vs))/\Slots K H0 (Z.put a (.tup vs)) H L:=by
 have sz:dC Z.z (upd Z.z a (.tup vs)):=λb u e=>by
  unfold upd;split
  . rename_i q;rw[q]at e;rw[<-ha,<-zo.zh _ _ e]
  . exact e
 have lz:fY Z (Z.put a (.tup vs)):=⟨sz,aaY _⟩;refine⟨⟨λb u e=>?_,zo.h0,zo.z0.trans lz,λb u e=>?_⟩,lz,?_⟩
 . have e:upd Z.z a (.tup vs) b=some u:=e;unfold upd at e;split at e
   . rename_i q; rw[q,ha]; exact e
   . exact zo.zh b u e
 . have e:upd Z.z a (.tup vs) b=some u:=e;unfold upd at e;split at e
   . cases e; exact .inr (.inr True.intro)
   . exact zo.new b u e
 . refine h.step lz λe he b hb=>?_;obtain⟨h1,h2,o',h3,h4⟩:=gK h he hb;have hba:b≠a:=λq=>by rw[q,ha]at h3;cases h3;exact h4 True.intro
   exact⟨rfl,by show upd Z.z a _ b=none; rw[bO hba]; exact h1⟩
def pQ (ks:List (List Key)) (ps:List PV):List PV:=List.zipWith (λk p=>.tup [.tup (k.map vK),p]) ks ps
theorem LC {i:Nat} (h:(pQ ks ps)[i]?=some x):∃k p,ks[i]?=some k/\ps[i]?=some p/\x=.tup [.tup (k.map vK),p]:=by
 unfold pQ at h;rw[List.getElem?_zipWith]at h;cases h1:ks[i]? with
 | none=>rw[h1]at h; cases h
 | some p=>
  cases h2:ps[i]? with
  | none=>rw[h1,h2]at h; cases h
  | some q=>rw[h1,h2]at h; cases h; exact⟨p,q,rfl,rfl,rfl⟩
theorem Eb:∀{k:List Key},aQ K Z (k.map vK) (k.map kV)
 | []=>.nil
 | _::_=>aQ.cons J0 Eb
theorem LK {H1:Hp} (h1:H1 a=some (.frz o (.dT kvs))) (hz:Z0.z a=some (.frz o (.dT kvs))) (hk:kvs.map (·.1)=ks) (hl:ps.length=ks.length):mW K H0 Z0 ((.ref a,.sh (.dtf ks ps))::pd) (Wx a o kvs) (pQ ks ps):=by
 intro U H Y i s;obtain⟨el,Z,hg,z,r,so⟩:=s.sh;have r0:=r;obtain⟨b',o',kvs',e,g1,g2,g3⟩:=r;cases e;have e1:=z.z0.1 _ _ hz;rw[g1]at e1;cases e1;have hH:=z.zh _ _ g1;have hlen:kvs.length=ks.length:=by rw[<-hk,aad]
 refine⟨λx hx=>?_,λhi=>⟨hH,?_⟩⟩
 . obtain⟨k,p,hk',hp,rfl⟩:=LC hx;have hi:=(aal.mp hk').1;refine⟨⟨hH,by omega⟩,λv' H' y=>?_⟩;obtain⟨T,kb,kv,hT,rfl,hkv,hkb,rfl⟩:=y;have hk2:k=kv.1:=by have:=congrArg (λl=>l[i]?) hk;simp only[aay,hkv,hk']at this;exact(aap this).symm
   obtain⟨v,hv,rv⟩:=g3.get hp;rw[aay,hkv]at hv;cases hv;obtain⟨z1,lz1,so1⟩:=so.know z hkb;obtain⟨z',lz,so'⟩:=(so1.consS (r0.mono lz1)).newF z1 hT;refine .mk (Z:=(Z.put kb (.tup (kv.1.map kV))).put T (.tup [.ref kb,kv.2])) el hg z' (Slots.perm (Slots.consS so' ?_) (dR.cons _));refine⟨T,[.ref kb,kv.2],rfl,.inl (.inl (by show upd _ T _ T=_; rw[cg])),aQ.cons (Rep.mono lz ?_) (aQ.cons ((rv.mono lz1).mono lz) .nil)⟩;exact⟨kb,kv.1.map kV,rfl,.inl (.inl (by show upd _ kb _ kb=_; rw[cg])),by rw[hk2]; exact Eb⟩
 . unfold pQ at hi;rw[List.length_zipWith]at hi;omega
def LQ (f:EF):IF:=λY=>(f Y).bind λx=>match x.1.pv with
 | .dtf ks ps=>if ps.length=ks.length then some (pQ ks ps,x.2) else none
 | _=>none
theorem SR.ext (s:SR K H0 Z0 U H Y pd) (hl:H l=none):SR K H0 Z0 U (upd H l o) Y pd:=by obtain⟨el,Z,hg,z,so⟩:=s;obtain⟨z',lz,so'⟩:=so.newF z hl;exact⟨el,Z.put l o,hg,z',so'⟩
theorem Jr {elts:List Expr} {x1} {tpos apos cpos:Pos} {pos:Pos} (hp:PassesOwn (model X.prog X.w) X.A X.env X.xe) (hc:X.calm=true) (hl:PE X o (tP X.K f)) (hg:PG X (.Tuple elts x1 tpos) g) (hb':GS X.K g b) (hb:iu X body (fC X.K fb))
 (hbase:attributeBase o "items" X.env (eval o X.env)=eval o X.env:=by rfl) (hline:(apos.endLine==cpos.line)=true:=by rfl)
 (hs:∀x,foldedSetIterable (.Call (.Attribute o "items" apos) [] [] cpos) X.env x=pure x:=by intro _; rfl):PS X (.For (.Tuple elts x1 tpos) (.Call (.Attribute o "items" apos) [] [] cpos) body [] pos) (fC X.K (dM (LQ f) b fb)):=PS.imp (Gj hp hc (QW (QZ hl hbase hline)) hg hb hs) λD U H q=>by
 obtain⟨H0,Z0,Y,pd,fl,s,h,k⟩:=q;obtain⟨y,h1,h2⟩:=abY h;obtain⟨x,h3,h4⟩:=abY h1;refine⟨H0,Z0,Y,pd,x.1,x.2,s,h3,λv H1 s1=>?_⟩;refine wD λG kG=>?_;split at h4
 . rename_i ks ps en;split at h4
   . rename_i hlp;cases h4;have s2:=s1.freeze;rw[en]at s2;obtain⟨el,Z,hgg,z,r,so⟩:=s2.sh;have r0:=r;obtain⟨a,o,kvs,rfl,g1,g2,g3⟩:=r;have e1:=z.zh _ _ g1;have hst0:SR X.K H0 Z U H1 x.2 ((.ref a,.sh (.dtf ks ps))::pd):=.mk el hgg ⟨z.zh,z.h0,fY.refl Z,λb u e=>.inl e⟩ (so.consS r0);exact kG ⟨a,o,kvs,rfl,rfl,e1,λl hl=>⟨l,a,o,kvs,rfl,cg,by rw[bO (cO e1 hl)]; exact e1,zc hb' (LK e1 g1 g2 hlp) (k.imp (λs=>s.pop.weak z) λs=>(s.sub ((aas _ _).cons_cons _)).weak z) (hst0.ext hl) h2⟩⟩
   . cases h4
 . cases h4
def pI:SF:=λ_=>none
theorem qP {st:Stmt}:PS X st (fC X.K pI):=λadG s U H D I q=>by obtain⟨H0,Z0,Y,pd,fl,s,h,k⟩:=q;cases h
abbrev FD:=List (Str×PV)
def pJ:FD->Str->Option PV
 | [],_=>none
 | kv::r,k=>if kv.1=k then some kv.2 else pJ r k
def iR (f:Str) (p:PV):FD->FD
 | []=>[(f,p)]
 | kv::r=>if kv.1=f then (kv.1,p)::r else kv::iR f p r
def iI (C:Str) (l:FD):PV:=.obj C (l.map (·.1)) (l.map (·.2))
def nQ (K:FG) (Z:ZG):FD->List (Str×V)->Prop:=Paired λp q=>p.1=q.1/\Rep K Z p.2 q.2
section
variable {K:FG} {Z Z':ZG}
theorem Cz:∀{kvs:List (Str×V)} {ks:List Str} {ps:List PV},kvs.map (·.1)=ks->aQ K Z ps (kvs.map (·.2))->nQ K Z (ks.zip ps) kvs
 | [],ks,ps,h1,h2=>by subst h1;exact .nil
 | kv::r,ks,ps,h1,h2=>by
  subst h1;cases ps with
  | nil=>have:=h2.inv0; simp at this
  | cons p ps=>
   obtain⟨v,r',e,h3,h4⟩:=h2.inv;injection e with e1 e2;subst e1 e2;exact .cons ⟨rfl,h3⟩ (Cz rfl h4)
theorem nQ.keys:∀{l:FD} {kvs:List (Str×V)},nQ K Z l kvs->kvs.map (·.1)=l.map (·.1)
 | _,_,.nil=>rfl
 | _,_,.cons h t=>by rw[aao,aao,h.1,nQ.keys t]
theorem nQ.vals:∀{l:FD} {kvs:List (Str×V)},nQ K Z l kvs->aQ K Z (l.map (·.2)) (kvs.map (·.2))
 | _,_,.nil=>.nil
 | _,_,.cons h t=>aQ.cons h.2 (nQ.vals t)
theorem nQ.look:∀{l:FD} {kvs:List (Str×V)},nQ K Z l kvs->(∀p,pJ l f=some p->∃v,kvs.lookup f=some v/\Rep K Z p v)/\(pJ l f=none->kvs.lookup f=none)
 | _,_,.nil=>⟨λp h=>(by cases h),λ_=>rfl⟩
 | p::l,q::kvs,.cons h t=>by
  have ih:=nQ.look (f:=f) t;have e0:(q::kvs).lookup f=if f=q.1 then some q.2 else kvs.lookup f:=by
   obtain⟨q1,q2⟩:=q;rw[aaR];by_cases e:f=q1
   . subst e; simp
   . rw[abS e,show (f==q1)=false from abW.mpr e]
  rw[e0];by_cases e:p.1=f
  . have e':f=q.1:=by rw[<-h.1]; exact e.symm
    rw[abR e'];refine⟨λx hx=>⟨q.2,rfl,?_⟩,λhx=>?_⟩
    . unfold pJ at hx; rw[abR e]at hx; cases hx; exact h.2
    . unfold pJ at hx; rw[abR e]at hx; cases hx
  . have e':¬ f=q.1:=by rw[<-h.1]; exact λz=>e z.symm
    rw[abS e'];unfold pJ;rw[abS e];exact ih
theorem nQ.put (r:Rep K Z p v):∀{l:FD} {kvs:List (Str×V)},nQ K Z l kvs->nQ K Z (iR f p l) (iW f v kvs)
 | _,_,.nil=>.cons ⟨rfl,r⟩ .nil
 | a::l,b::kvs,.cons h t=>by
  obtain⟨b1,b2⟩:=b;unfold iR iW;have h1:a.1=b1:=h.1;by_cases e:a.1=f
  . rw[abR e,abR (by rw[<-h1]; exact e)];exact .cons ⟨h1,r⟩ t
  . rw[abS e,abS (by rw[<-h1]; exact e)];exact .cons h (nQ.put r t)
end
structure CG (K:FG) (mg:Str->Option Value) (C:Str) (c:Addr):Prop where
 cn:CN K C c
 cl:Gm K c
 mgC:mg C=some (.ref c)
theorem S5 (h:CN K C c) (g:CN K C d):c=d:=by have:(some (some (Value.ref c)))=some (some (.ref d)):=h.symm.trans g;cases this;rfl
def rM (C f:Str) (fo:EF):EF:=λY=>(fo Y).bind λx=>match x.1.pv with
 | .ptr n=>match x.2.mu[n]? with
  | some (some (.obj D ks ps))=>if D=C then (pJ (ks.zip ps) f).map λp=>(.sh p,x.2) else none
  | _=>none
 | _=>none
theorem SR.cellB {pd pe:Pd} (hm:Y.mu[n]?=some (some p)) (s:SR K H0 Z0 U H ⟨Y.vs,Y.mu.set n none⟩ ((.ref a,.own p)::(.ref a,.sh (.ptr n))::pd)):SR K H0 Z0 U H Y pd:=by
 have hn:=(aal.mp hm).1;have s8:=s.cellP (by show (Y.mu.set n none)[n]?=_; rw[aaK hn]);have e8:(Y.mu.set n none).set n (some p)=Y.mu:=by rw[abb]; exact ab0 hm
 have s9:=s8;rw[e8]at s9;exact s9
theorem SR.objAt (s:SR K H0 Z0 U H Y ((v,.sh (.ptr n))::pd)) (hm:Y.mu[n]?=some (some (.obj C ks ps))):
 ∃a c dx fs,v=.ref a/\CN K C c/\H a=some (.ins c dx fs)/\fs.map (·.1)=ks/\(∀f p,pJ (ks.zip ps) f=some p->∃u,fs.lookup f=some u/\SR K H0 Z0 U H Y ((u,.sh p)::(v,.sh (.ptr n))::pd))/\∀f,pJ (ks.zip ps) f=none->fs.lookup f=none:=by
 have sdup:=s.part λZ _ r=>r;obtain⟨a,rfl,s5⟩:=sdup.cellO hm;obtain⟨el,Z,hg,z,so⟩:=s5.top;obtain⟨_,ea,⟨c,dx,fs,cn,hu,hk,hr⟩,_⟩:=so.1 _ aab;cases ea;have rf:=Cz hk hr;refine⟨a,c,dx,fs,rfl,cn,hu,hk,λf p hl=>?_,λf hl=>rf.look.2 hl⟩;obtain⟨u,h1,h2⟩:=rf.look.1 p hl;refine⟨u,h1,?_⟩;have s6:SR K H0 Z0 U H ⟨Y.vs,Y.mu.set n none⟩ ((u,.sh p)::(.ref a,.own (.obj C ks ps))::(.ref a,.sh (.ptr n))::(.ref a,.sh (.ptr n))::pd):=.mk el hg z ((so.perm dR).consS h2);have s7:=s6.perm (((List.Perm.swap _ _ _).cons _).trans (List.Perm.swap _ _ _));exact SR.cellB (pe:=pd) hm s7
theorem Rm (T:CG X.K X.mg C c) (na:jZ X.K c f) (ho:PE X o (tP X.K fo)) (hb:attributeBase o f X.env (eval o X.env)=eval o X.env:=by rfl):PE X (.Attribute o f pos) (tP X.K (rM C f fo)):=PE.imp (V7 ho hb) λU H Q q=>by
 obtain⟨H0,Z0,Y,pd,l,Y',s,h,k⟩:=q;obtain⟨x,h1,h2⟩:=abY h;refine⟨H0,Z0,Y,pd,x.1,x.2,s,h1,λv H1 s1=>?_⟩;split at h2
 . rename_i n en;split at h2
   . rename_i D ks ps em;split at h2
     . rename_i eD;subst eD;obtain⟨p,h3,h4⟩:=abZ h2;cases h4;have s2:=s1.freeze;rw[en]at s2;obtain⟨a,c',dx,fs,rfl,cn,hH,hk,hl,_⟩:=s2.objAt em;have:=S5 T.cn cn;subst this;obtain⟨u,h5,s6⟩:=hl f p h3;exact⟨a,c,dx,fs,u,rfl,hH,T.cl,na,h5,k u H1 (s6.sub ((aas _ _).cons_cons _))⟩
     . cases h2
   . cases h2
 . cases h2
def jA (C f:Str) (fo fv:EF):SF:=λY=>(fv Y).bind λy=>(fo y.2).bind λx=>match x.1.pv with
 | .ptr n=>match x.2.mu[n]? with
  | some (some (.obj D ks ps))=>if D=C/\ks.length<1000 then some (.nx ⟨x.2.vs,x.2.mu.set n (some (iI C (iR f y.1.pv (ks.zip ps))))⟩) else none
  | _=>none
 | _=>none
theorem qQ (T:CG X.K X.mg C c) (na:jZ X.K c f) (ho:PE X o (tP X.K fo)) (hv:PE X value (tP X.K fv)) (hs:swapsWith value (some (.Attribute o f pos')) pos.line X.env=pure false:=by rfl):PS X (.Assign [.Attribute o f pos'] value pos) (fC X.K (jA C f fo fv)):=PS.imp (V8 ho hv hs) λD U H q=>by
 obtain⟨H0,Z0,Y,pd,fl,s,h,k⟩:=q;obtain⟨y,h1,h2⟩:=abY h;obtain⟨x,h3,h4⟩:=abY h2;refine⟨H0,Z0,Y,pd,y.1,y.2,s,h1,λv H1 s1=>⟨H0,Z0,y.2,_,x.1,x.2,s1.freeze,h3,λw H2 s2=>?_⟩⟩;split at h4
 . rename_i n en;split at h4
   . rename_i D' ks ps em;split at h4
     . rename_i eD;obtain⟨eD,hz⟩:=eD;subst eD;cases h4;have s3:=s2.freeze;rw[en]at s3;obtain⟨a,rfl,s5⟩:=s3.cellO em;have s6:=s5.perm ((List.Perm.swap _ _ _).trans ((List.Perm.swap _ _ _).cons _));obtain⟨el,Z,hg,z,r,so⟩:=s6.sh;have so2:=so.perm dR.symm;obtain⟨_,eb,⟨c',dx,fs,cn,hu,hk,hr⟩,_⟩:=so2.1 _ aab;cases eb;have:=S5 T.cn cn;subst this;have rf:=Cz hk hr;have rp:=rf.put (f:=f) r;have hlen:fs.length=ks.length:=by rw[<-hk,aad]
       refine⟨a,c,dx,fs,rfl,hu,T.cl,na,by omega,k U _ ?_⟩;obtain⟨z',s'⟩:=so2.write (q:=iI D' (iR f y.1.pv (ks.zip ps))) z ⟨c,dx,iW f v fs,cn,cg,rp.keys,rp.vals⟩;have s7:SR X.K H0 Z0 U (upd H2 a (.ins c dx (iW f v fs))) ⟨x.2.vs,x.2.mu.set n none⟩ ((.ref a,.own (iI D' (iR f y.1.pv (ks.zip ps))))::(.ref a,.sh (.ptr n))::pd):=.mk el hg z' s';have hn:=(aal.mp em).1;have s8:=s7.cellP (by show (x.2.mu.set n none)[n]?=_; rw[aaK hn]);have e8:(x.2.mu.set n none).set n (some (iI D' (iR f y.1.pv (ks.zip ps))))=x.2.mu.set n (some (iI D' (iR f y.1.pv (ks.zip ps)))):=abb ..;have s9:=s8;rw[e8]at s9;exact s9
     . cases h4
   . cases h4
 . cases h4
end
section
variable {P:Program} {w:World} {K:FG} {mg:Str->Option Value} {base:Heap}
def S6 (K:FG) (c:Addr) (m qual:Str) (st:Stmt) (ps:List Str):Prop:=∃f fd,sH K m qual st f fd/\W.findIn K (.ref c) m=some (some (.ref f))/\W.isFn K (.ref f)=true/\Binds K fd ps []
def Xg (P:Program) (w:World) (K:FG) (mg:Str->Option Value) (base:Heap) (c:Addr) (m:Str) (k:Nat) (ps:List Str) (sp:Sp):Prop:=∃f fd,oM P w K mg base oG k f fd ps sp/\Meth K c m f/\Binds K fd ps []
theorem sH.okQ {st:Stmt} (F:sH K x qual st f fd) (S:bD N ps (aL st))
 (h:∀(cdv:Value) (A:Around) (outer:List PySem.Env) (s:Shared) (H:Hp) (E:XK),lZ k (A.deeper (envOfC qual (aL st) s.heap.objs.size f cdv))->
   ∃g':SF,(∀a mu,g a mu=cP N.length g' a mu)/\iu (Qz oG P w K mg base N qual (aL st) f cdv A outer s H E).nox (iZ st) (fC K g')):oM P w K mg base oG (k+1) f fd ps (cH K ps.length g):=by
 refine F.ok S (λvs H Q E q=>?_) (λcdv A outer s H vs Q E hr q=>?_)
 . obtain⟨Z,qs,mu,r,mu',e,_⟩:=q; exact e
 . obtain⟨g',eg,b⟩:=h cdv A outer s H E hr;obtain⟨Z,qs,mu,r,mu',e,hg,z,rl,c,hr',kk⟩:=q;rw[eg]at hr';obtain⟨fl,h1,h2⟩:=abY hr';refine⟨_,b,lw H (qZ Z.g mu),Z,_,[],fl,yZ hg z rl c,h1,?_⟩;cases fl with
   | rt r' Y'=>
    cases h2;intro v U' H' s';obtain⟨el,Z',hg',z',s''⟩:=s'.top;refine kk v H' ⟨Z',hg',z',s''.sub ?_⟩;exact(aaT _ _).cons_cons _
   | nx Y'=>
    cases h2;intro U' H' s';obtain⟨el,Z',hg',z',s''⟩:=s';exact kk .non H' ⟨Z',hg',z',(s''.sub (aaT _ _)).consS (qK _)⟩
   | bk Y'=>cases h2
   | ct Y'=>cases h2
theorem S6.ok {st:Stmt} (F:S6 K c m qual st ps) (S:bD N ps (aL st))
 (h:∀(f:Addr) (cdv:Value) (A:Around) (outer:List PySem.Env) (s:Shared) (H:Hp) (E:XK),lZ k (A.deeper (envOfC qual (aL st) s.heap.objs.size f cdv))->
   ∃g':SF,(∀a mu,g a mu=cP N.length g' a mu)/\iu (Qz oG P w K mg base N qual (aL st) f cdv A outer s H E).nox (iZ st) (fC K g')):Xg P w K mg base c m (k+1) ps (cH K ps.length g):=by
 obtain⟨f,fd,F,h1,h2,hb⟩:=F;exact⟨f,fd,sH.okQ F S (h f),⟨h1,h2,F.kp⟩,hb⟩
end
section
variable {X:Cx}
theorem SR.toCell (s:SR K H0 Z0 U H Y ((.ref a,.own p)::pd)):SR K H0 Z0 U H ⟨Y.vs,Y.mu++[some p]⟩ ((.ref a,.sh (.ptr Y.mu.length))::pd):=by
 obtain⟨el,Z,hg,z,so⟩:=s.top;have lz:fY Z ⟨Z.z,Z.g++[a]⟩:=⟨dC.refl _,abK _ _⟩;have so2:=so.step lz λe he b hb=>⟨rfl,(gK so he hb).1⟩;refine .mk (Z:=⟨Z.z,Z.g++[a]⟩) el (by simp[hg]) ⟨z.zh,z.h0,z.z0.trans lz,z.new⟩ (Slots.consS ?_ ?_)
 . refine so2.perm ?_;have ec:cel (Z.g++[a]) (Y.mu++[some p])=cel Z.g Y.mu++[(some (.ref a),some (.own p))]:=by unfold cel;rw[aaz,aaz,abq (by simp[hg])];rfl
   show List.Perm (cel (Z.g++[a]) (Y.mu++[some p])++_) _;rw[ec,aaC];exact aaZ
 . exact⟨a,rfl,by show (Z.g++[a])[Y.mu.length]?=some a; rw[hg,aaU (aan _)]; simp⟩
def yg (C:Str) (g:GF) (a:AF):EF:=λY=>(a Y).bind λy=>(g (.ptr y.2.mu.length::y.1.map Lc.pv) (y.2.mu++[some (.obj C [] [])])).bind λr=>match r.1 with
 | .sh .non=>some (.sh (.ptr y.2.mu.length),⟨y.2.vs,r.2⟩)
 | _=>none
def Rn (P:Program) (w:World) (K:FG) (mg:Str->Option Value) (base:Heap) (c:Addr) (k:Nat) (ps:List Str) (sp:Sp):Prop:=∃f fd,oM P w K mg base oG k f fd ps sp/\Mk K c f/\Binds K fd ps []
theorem Ro (T:CG X.K X.mg C c) (hn:∀Y ls Y1,a Y=some (ls,Y1)->ls.length+1=n'):∀U H Q,tP X.K (yg C g a) U H Q->Sq c (cH X.K n' g) [] E (iU X.K a) U H Q:=λU H Q q=>by
 obtain⟨H0,Z0,Y,pd,l,Y',s,h,k⟩:=q;obtain⟨y,h1,h2⟩:=abY h;obtain⟨r,h3,h4⟩:=abY h2;split at h4
 . rename_i er;cases h4;refine⟨H0,Z0,Y,pd,y.1,y.2,s,h1,λvs H1 e1 s1 x dx hx hdx hne=>?_⟩;have s2:SR X.K H0 Z0 U (upd H1 dx (.own x)) y.2 (vs.zip y.1++pd):=s1.ext hdx;have s3:SR X.K H0 Z0 U (upd (upd H1 dx (.own x)) x (.ins c dx [])) y.2 ((.ref x,.own (.obj C [] []))::(vs.zip y.1++pd)):=s2.newO (by rw[bO hne.symm]; exact hx) λZ _ _=>⟨c,dx,[],T.cn,cg,rfl,.nil⟩;have s4:=s3.toCell;have s5:=s4.part λZ _ r=>r;have s6:SR X.K H0 Z0 U (upd (upd H1 dx (.own x)) x (.ins c dx [])) ⟨y.2.vs,y.2.mu++[some (.obj C [] [])]⟩ ((V.ref x::vs).zip (Lc.sh (.ptr y.2.mu.length)::y.1)++(.ref x,.sh (.ptr y.2.mu.length))::pd):=s5.perm (by rw[aa8,aa3];exact List.perm_middle.cons _)
   obtain⟨el,Z,hg,z,rl,sl'⟩:=s6.repl (by rw[aac,aac,e1]);refine⟨Z,.ptr y.2.mu.length::y.1.map Lc.pv,y.2.mu++[some (.obj C [] [])],r.1,r.2,?_,hg,z.zh,?_,sl'.cells hg,h3,λv H' rr=>?_⟩
   . rw[aaW,aac,e1]; exact hn _ _ _ h1
   . rw[aaW]; exact rl
   . have s7:=SR.called el hg z sl' rr;rw[er]at s7;obtain⟨_,r0⟩:=s7.repH;exact⟨iw r0,k _ _ s7.pop⟩
 . cases h4
theorem Yw {p pos:Pos} (T:CG X.K X.mg C c) (M:Rn X.prog X.w X.K X.mg X.base c k ps (cH X.K ps.length g)) (hr:lZ (k+1) X.A) (hg:Gl X C) (ha:PA X (e::es) (iU X.K a)) (hn:∀Y ls Y1,a Y=some (ls,Y1)->ls.length+1=ps.length)
 (hdb:(C==("__debug__" : Str))=false:=by decide) (he:starEach (e::es) X.env=(false,eval e X.env)::starEach es X.env:=by rfl) (hpl:(backTo pos (starEach es X.env)).any (·.1)=false:=by rfl):PE X (.Call (.Name C p) (e::es) [] pos) (tP X.K (yg C g a)):=by
 obtain⟨f,fd,F,hm,hb⟩:=M;exact PE.imp (T8 hm F hr hg T.mgC hb .nil Le ha hdb he hpl) (Ro T hn)
def J7 (K:FG):V->List V->Hp->VK->Prop:=λx vs H Q=>∃g p qs w b,vs=[w]/\Rep K ⟨H,g⟩ p w/\Rep K ⟨H,g⟩ (.lst qs) x/\jO (cu 150) p qs=some b/\qs.length<=100000/\Q (.int (qs.countP λq=>(cu 150 q p).getD false:Nat)) H
theorem Rp (hr:lZ k X.A):JF X "list.count" (J7 X.K):=by
 intro adG s U H x vs v us Q I rx rv h;obtain⟨g,p,qs,w,b,rfl,rp,rq,e,hz,q⟩:=h;have hA:X.A.in1.units+150<cLine:=by have:=hr.un; show X.A.units+1+150<cLine; omega
 obtain⟨u,rfl,ru⟩:=rv.one;obtain⟨i1,i2⟩:=uv e;obtain⟨a,vs,its,rfl,q1,l1,rv1,t1⟩:=pM I rq rx;have hl:its.length=qs.length:=by rw[<-rv1.length,l1.length]
 have hat:=λm hm=>
  uW (xv:=w) (xu:=u) I l1 rv1 i1 (j:=m) (aaj (by omega)) (aaj hm)
 have hcnt:its.countP (worth X.K ⟨H,g⟩ p qs vs its)=qs.countP λq=>(cu 150 q p).getD false:=by
  have e1:its.map (worth X.K ⟨H,g⟩ p qs vs its)=qs.map λq=>(cu 150 q p).getD false:=by refine List.ext_getElem (by rw[aad,aad,hl]) λm h1 h2=>?_;rw[List.getElem_map,List.getElem_map];exact hat m (by simpa using h1)
  have e2:∀{α:Type} (f:α->Bool) (l:List α),l.countP f=(l.map f).countP id:=λf l=>by rw[List.countP_map]; rfl
  rw[e2,e1,<-e2]
 obtain⟨⟨oc,od,oD,os⟩,ht,hc,n,hd⟩:=t1;have hc':= hc;have hd':=hd;subst hc' hd';refine call_meets F.slot_list_count ⟨_,ht,rfl⟩ F.entry_list_count (F.args_list_count_2 _ _) (SeqAt.list_countAt a its.toArray n od os u (worth X.K ⟨H,g⟩ p qs vs its)) ⟨ht,oU I rp ru l1 rv1 i1 hA,?_⟩;have q':Q (.int (its.countP (worth X.K ⟨H,g⟩ p qs vs its):Nat)) H:=by rw[hcnt]; exact q
 exact⟨.int _,H,I.tok _,⟨_,rfl⟩,q'⟩
def Ao (f g:EF):EF:=λY=>(f Y).bind λx=>(g x.2).bind λy=>match x.1.pv with
 | .lst qs=>if (jO (cu 150) y.1.pv qs).isSome=true/\qs.length<=100000 then some (.sh (.int (qs.countP λq=>(cu 150 q y.1.pv).getD false:Nat)),y.2) else none
 | _=>none
theorem Xh (h:PE X (.Call (.Attribute o "count" apos) [e] [] cpos) (Gw X.K "list" (J7 X.K) (tP X.K f) (iU X.K (aj g ao)))):PE X (.Call (.Attribute o "count" apos) [e] [] cpos) (tP X.K (Ao f g)):=PE.imp h λU H Q q=>by
 obtain⟨H0,Z0,Y,pd,r,Y',s,h,k⟩:=q;obtain⟨x,h1,h2⟩:=abY h;obtain⟨y,h3,h4⟩:=abY h2;refine⟨H0,Z0,Y,pd,x.1,x.2,s,h1,λv H1 s1=>?_⟩;have s1':=s1.freeze;cases e:x.1.pv with
 | lst qs=>
  rw[e]at h4 s1';have h4':(if (jO (cu 150) y.1.pv qs).isSome=true/\qs.length<=100000 then some (Lc.sh (.int (qs.countP λq=>(cu 150 q y.1.pv).getD false:Nat)),y.2) else none)=some (r,Y'):=h4;split at h4'
  . rename_i hc;cases h4';obtain⟨_,r1⟩:=s1'.repH;have r1':=r1;obtain⟨a,us,rfl,hq,_⟩:=r1';obtain⟨bb,hbb⟩:=abn.mp hc.1;refine⟨.inl ⟨rfl,us,hq⟩,H0,Z0,x.2,_,[y.1],y.2,s1',?_,λvs H2 e2 s2=>?_⟩
    . unfold aj ao;rw[h3];rfl
    . obtain⟨w,rfl⟩:=wB e2;have s3:=SR.freeze s2;obtain⟨g,ra,rb⟩:=s3.rep2H;exact⟨g,y.1.pv,qs,w,bb,rfl,rb,ra,hbb,hc.2,k _ _ (s3.pop.pop.scal eN)⟩
  . cases h4'
 | _=>rw[e]at h4; cases h4
end
theorem Xi {a:AF} (h:∀Y ls Y1,a Y=some (ls,Y1)->ls.length=n) (e:n+1=m:=by rfl):∀Y ls Y1,a Y=some (ls,Y1)->ls.length+1=m:=λY ls Y1 g=>by rw[h _ _ _ g,e]
theorem Yx (h:Xg P w K mg base c "__init__" k ps sp) (mk:W.makesIn K c=true) (kc:W.keepIn K (.ref c)=true):Rn P w K mg base c k ps sp:=by obtain⟨f,fd,F,m,b⟩:=h;exact⟨f,fd,F,⟨mk,m.at_,m.fn,kc⟩,b⟩
end PL
namespace L2
open PySem PySem.Spec PyProof.Rows
variable {adG:List (Addr×Obj)} {E:Value->Shared->Prop} {s:Shared} {A:Around} {w:World} {P:Program}
section
variable {X:Cx}
end
end L2
namespace PL
open PySem PySem.Spec PyProof.Rows L2
variable {K:FG} {H0 H:Hp} {Z0:ZG} {U:L2.St} {Y:Ev} {pd:Pd}
section
variable {X:Cx}
theorem aQ.rev:∀{ps:List PV} {vs:List V},aQ K Z ps vs->aQ K Z ps.reverse vs.reverse
 | [],vs,h=>by have e:=h.inv0;subst e;exact h
 | p::ps,vs,h=>by obtain⟨w,r,rfl,e2,e3⟩:=h.inv;rw[List.reverse_cons,List.reverse_cons];exact(aQ.rev e3).append (aQ.cons e2 aQ.nil)
theorem SR.wrO {f:List V->List V} (hf:∀{Z us},aQ K Z ws us->aQ K Z ws' (f us))
 (s:SR K H0 Z0 U H Y ((.ref a,.own (.lst ws))::pd)):∃us,H a=some (.lst us)/\SR K H0 Z0 U (upd H a (.lst (f us))) Y ((.ref a,.own (.lst ws'))::pd):=by
 obtain⟨el,Z,hg,z,so⟩:=s.top;obtain⟨b,eb,⟨us,hu,hr⟩,_⟩:=so.1 _ aab;cases eb;refine⟨us,hu,?_⟩;obtain⟨z',s'⟩:=so.write (q:=.lst ws') z ⟨f us,cg,hf hr⟩;exact .mk el hg z' s'
def CJ (i:Nat):SF:=λY=>match Y.vs[i]? with
 | some (some (.own (.lst ws)))=>some (.nx (Y.set i (some (.own (.lst ws.reverse)))))
 | _=>none
theorem Ou (h:PS X (.Expr (.Call (.Attribute o "reverse" apos) [] [] cpos) pos) (uM (Gv X.K "list" Gx (oJ i)))):
 PS X (.Expr (.Call (.Attribute o "reverse" apos) [] [] cpos) pos) (fC X.K (CJ i)):=PS.imp h λD U H q=>by
 obtain⟨H0,Z0,Y,pd,fl,s,h,k⟩:=q;unfold CJ at h;split at h
 . rename_i ws e0;cases h;obtain⟨a,ea,⟨us,hu⟩,s1⟩:=s.takeO e0;obtain⟨us2,hu2,s2⟩:=s1.wrO λh=>h.rev;refine⟨.ref a,ea,.inl ⟨rfl,us,cz.of hu⟩,a,us2,rfl,rfl,hu2,k U _ ?_⟩;have s3:=s2.put ea;rw[Ev.set_set]at s3;exact s3
 . cases h
end
end PL
namespace L2
open PySem PySem.Spec PyProof.Rows
variable {adG:List (Addr×Obj)} {E:Value->Shared->Prop} {s:Shared} {A:Around} {w:World} {P:Program}
section
variable {X:Cx}
def pk {α:Type} (xs:List α) (lo hi st:Option Int):List α:=
 (sliceRange (sliceBounds lo hi st xs.length).1 (sliceBounds lo hi st xs.length).2.1 (sliceBounds lo hi st xs.length).2.2).filterMap λi=>xs[i]?
end
end L2
namespace PL
open PySem PySem.Spec PyProof.Rows L2
variable {K:FG} {H0 H:Hp} {Z0:ZG} {U:L2.St} {Y:Ev} {pd:Pd}
section
variable {X:Cx}
end
def cC (mu:Mu):Nat->PV->PV
 | 0,p=>p
 | k+1,.ptr n=>match mu[n]? with
  | some (some p)=>cC mu k p
  | _=>.ptr n
 | k+1,.tup ps=>.tup (ps.map (cC mu k))
 | k+1,.lst ps=>.lst (ps.map (cC mu k))
 | k+1,.dk ks ps=>.dk ks (ps.map (cC mu k))
 | _+1,p=>p
theorem lF (hf:∀p x,Rep K Z p x->Rep K Z (f p) x):∀{ps:List PV} {vs:List V},aQ K Z ps vs->aQ K Z (ps.map f) vs
 | [],vs,h=>h
 | p::ps,vs,h=>by obtain⟨v,r,rfl,h1,h2⟩:=h.inv;exact aQ.cons (hf p v h1) (lF hf h2)
theorem mY (so:Slots K H0 Z H (sl Z.g U Y pd)) (lz:fY Z ⟨H,Z.g⟩):∀(k:Nat) (p:PV) (x:V),Rep K ⟨H,Z.g⟩ p x->Rep K ⟨H,Z.g⟩ (cC Y.mu k p) x
 | 0,p,x,r=>r
 | k+1,p,x,r=>by
  cases p with
  | ptr n=>
   show Rep K ⟨H,Z.g⟩ (match Y.mu[n]? with | some (some p)=>cC Y.mu k p | _=>.ptr n) x;split
   . rename_i q hq;obtain⟨a,rfl,ha⟩:=r;have hc:(some (V.ref a),some (Lc.own q))∈cel Z.g Y.mu:=aaw (zip_get (by rw[aay,ha]; rfl) (by rw[aay,hq]; rfl));obtain⟨b,e1,e2,_⟩:=so.1 _ (aaM _ hc);cases e1;exact mY so lz k q _ (e2.rep lz rfl)
   . exact r
  | tup ps=>
   obtain⟨a,vs,e,h1,h2⟩:=r;exact⟨a,vs,e,h1,lF (mY so lz k) h2⟩
  | lst ps=>
   obtain⟨a,vs,e,h1,h2⟩:=r;exact⟨a,vs,e,h1,lF (mY so lz k) h2⟩
  | dk ks ps=>
   obtain⟨a,vs,e,h1,h3,h2⟩:=r;exact⟨a,vs,e,h1,h3,lF (mY so lz k) h2⟩
  | _=>exact r
def peekD (mu:Mu):Option Lc->Option Lc
 | some l=>some (.sh (cC mu 40 l.pv))
 | none=>none
def Ev.peekD (Y:Ev):Ev:=⟨Y.vs.map (PL.peekD Y.mu),Y.mu.map λ_=>none⟩
theorem SR.lookD (s:SR K H0 Z0 U H Y pd):
 ∃Zt,SR K H Zt U H Y.peekD []/\(∀H' v r Y1,SR K H Zt U H' Y1 [(v,r)]->nM r=true->SR K H0 Z0 U H' Y ((v,r)::pd))/\∀H' Y1,SR K H Zt U H' Y1 []->SR K H0 Z0 U H' Y pd:=by
 obtain⟨Z,⟨el,hg,lz,so⟩,b1,b2⟩:=s.lookB;refine⟨_,SR.peeked el hg λv o he=>?_,b1,b2⟩;have q:=so.1 _ (aaG _ (aaM _ he))
 match o,q with
 | none,_=>exact .inl rfl
 | some (.sh p),⟨x,e1,e2⟩=>exact .inr ⟨x,_,rfl,e1,mY so lz 40 _ _ (e2.mono lz)⟩
 | some (.own p),⟨a,e1,e2,_⟩=>exact .inr ⟨.ref a,_,rfl,e1,mY so lz 40 _ _ (e2.rep lz rfl)⟩
section
variable {X:Cx}
def j5 (f:EF):EF:=λY=>(f Y.peekD).bind λx=>if nM x.1=true then some (x.1,Y) else none
def wN (f:TF):TF:=λY=>(f Y.peekD).map λx=>(x.1,Y)
theorem Ov (h:PE X e (tP X.K f)):PE X e (tP X.K (j5 f)):=PE.imp h λU H Q q=>by
 obtain⟨H0,Z0,Y,pd,r,Y',s,h,k⟩:=q;obtain⟨x,h1,h2⟩:=abY h;obtain⟨Zt,s1,b1,_⟩:=s.lookD;split at h2
 . rename_i hf;cases h2;exact⟨H,Zt,Y.peekD,[],x.1,x.2,s1,h1,λv H' s2=>k v H' (b1 H' v x.1 x.2 s2 hf)⟩
 . cases h2
theorem UV (h:PT X e (gM X.K f)):PT X e (gM X.K (wN f)):=PT.imp h λU H Q q=>by obtain⟨H0,Z0,Y,pd,r,Y',s,h,k⟩:=q;obtain⟨x,h1,h2⟩:=abZ h;cases h2;obtain⟨Zt,s1,_,b2⟩:=s.lookD;exact⟨H,Zt,Y.peekD,[],x.1,x.2,s1,h1,λH' s2=>k H' (b2 H' x.2 s2)⟩
theorem zr (h:f Y.peekD=some (l,Y1)) (hf:nM l=true):j5 f Y=some (l,Y):=by unfold j5;rw[h,aaa,abR hf]
theorem Rr:mW K H0 Z0 ((.ref a,.sh (.lst ps))::pd) (WD K a ps.length) ps.reverse:=by
 intro U H Y i s;obtain⟨Z,z,r⟩:=s.rep;obtain⟨b,vs,e,h1,h2⟩:=r;cases e;have hq:=cz.same z h1;refine⟨λx hx=>?_,λhl=>⟨by rw[hl,aaO],vs,hq,h2.length⟩⟩;have hi:i<ps.length:=by
  have:=(aal.mp hx).1
  rwa [aaO]at this
 have hx':ps[ps.length-1-i]?=some x:=by rw[<-List.getElem?_reverse hi]; exact hx
 refine⟨⟨hi,vs,hq,h2.length⟩,λv' H' y=>?_⟩;obtain⟨e',y⟩:=y;subst e';refine s.part λZ' z' r'=>?_;obtain⟨b',vs',e',h1',h2'⟩:=r';cases e';obtain⟨p',hp',rp'⟩:=h2'.getV (y vs' (cz.same z' h1'));rw[hx']at hp';cases hp';exact rp'
def qF (f:EF):IF:=λY=>(f Y).bind λx=>match x.1.pv with
 | .lst ps=>some (ps.reverse,x.2)
 | _=>none
theorem Hj (hg:Gl X "reversed") (hm:X.mg "reversed" = none) (ha:PA X [a] (iU X.K (aj f ao))) (hs:starEach [a] X.env=[(false,eval a X.env)]:=by rfl):PI X tg (.Call (.Name "reversed" p) [a] [] pos) (yG X.K (qF f)):=PI.imp (WF hg hm ha hs) λU H R q=>by
 obtain⟨H0,Z0,Y,pd,xs,Y',s,h,k⟩:=q;obtain⟨x,h1,h2⟩:=abY h;refine⟨H0,Z0,Y,pd,[x.1],x.2,s,?_,λvs H1 e1 s1=>?_⟩
 . unfold aj ao;rw[h1];rfl
 . obtain⟨v,rfl⟩:=wB e1;have s2:=SR.freeze s1;cases e:x.1.pv with
   | lst ps=>
    rw[e]at h2 s2;cases h2;obtain⟨Z,z,r⟩:=s2.rep;obtain⟨b,us,rfl,h1',h2'⟩:=r;refine⟨b,us,rfl,cz.same z h1',?_⟩;rw[h2'.length];exact k _ _ _ s2 Rr (aas _ _)
   | _=>rw[e]at h2; cases h2
def dN (g:GF) (a:AF):EF:=λY=>(a Y).bind λy=>(g ((y.1.map Lc.pv).map (cC y.2.mu 40)) (y.2.mu.map λ_=>none)).bind λr=>if nM r.1=true then some (r.1,y.2) else none
theorem Aq (h:∀e∈L,e.2=none):Slots K H0 Z H L:=by
 refine⟨λe he=>?_,?_⟩
 . obtain⟨v,l⟩:=e;have:l=none:=h _ he;subst this;trivial
 . have:L.filterMap jK=[]:=by
    rw[List.filterMap_eq_nil_iff];intro e he;obtain⟨v,l⟩:=e;have:l=none:=h _ he;subst this;cases v with
    | none=>rfl
    | some x=>cases x<;>rfl
   rw[this];exact abJ
theorem zu {mu:Mu}:∀e∈cel g (mu.map λ_=>none),e.2=none:=λe he=>by obtain⟨v,l⟩:=e;obtain⟨_,h2⟩:=abd he;obtain⟨o,ho,e2⟩:=aar.mp h2;obtain⟨o',_,e3⟩:=aar.mp ho;subst e3;exact e2.symm
theorem Ow (hn:∀Y ls Y1,a Y=some (ls,Y1)->ls.length=n):∀U H Q,tP X.K (dN g a) U H Q->La (cH X.K n g) [] E (iU X.K a) U H Q:=λU H Q q=>by
 obtain⟨H0,Z0,Y,pd,r,Y',s,h,k⟩:=q;obtain⟨y,h1,h2⟩:=abY h;obtain⟨⟨r1,mu'⟩,h3,h4⟩:=abY h2;split at h4
 . rename_i hf;cases h4;refine⟨H0,Z0,Y,pd,y.1,y.2,s,h1,λvs H2 e2 s2=>?_⟩;have s3:=s2.freezeAll;obtain⟨Z,⟨el,hg,lz,so⟩,b1,_⟩:=s3.lookB;have hm:(y.1.map λl=>Lc.sh l.pv)=(y.1.map Lc.pv).map λp=>Lc.sh p:=by rw[aaD]; rfl
   have so0:=so;rw[hm]at so0;have rl:=Slots.repl (by simpa using e2) (so0.perm GR.symm);have rl2:=lF (mY so lz 40) (rl.mono lz);have z1:jf H2 ⟨H2,Z.g⟩ ⟨H2,Z.g⟩ H2:=⟨dC.refl _,dC.refl _,fY.refl _,λb o e=>.inl e⟩;have hs:Slots X.K H2 ⟨H2,Z.g⟩ H2 (sl Z.g U ⟨y.2.vs.map λ_=>none,y.2.mu.map λ_=>none⟩ []):=Aq λe he=>by
    rcases aaH.mp he with he | he
    . exact zu e he
    . rw[aby,aaW]at he;obtain⟨o,_,e3⟩:=aar.mp (abd he).2;exact e3.symm
   refine⟨⟨H2,Z.g⟩,(y.1.map Lc.pv).map (cC y.2.mu 40),y.2.mu.map λ_=>none,r1,mu',?_,by simpa using hg,dC.refl _,?_,Aq zu,h3,λv H' rr=>k v H' ?_⟩
   . rw[aaW,e2]; exact hn _ _ _ h1
   . rw[aaW]; exact rl2
   . have s4:=SR.called (by simpa using el) (by simpa using hg) z1 hs rr;exact(b1 H' v r1 _ s4 hf).sub ((abj _ _).cons_cons _)
 . cases h4
theorem pR {p pos:Pos} (D:bL X.prog X.w X.K X.mg X.base x k ps (cH X.K ps.length g)) (hr:lZ k X.A) (hg:Gl X x)
 (ha:PA X (e::es) (iU X.K a)) (hn:∀Y ls Y1,a Y=some (ls,Y1)->ls.length=ps.length) (hdb:(x==("__debug__" : Str))=false:=by decide) (he:starEach (e::es) X.env=(false,eval e X.env)::starEach es X.env:=by rfl) (hpl:(backTo pos (starEach es X.env)).any (·.1)=false:=by rfl):PE X (.Call (.Name x p) (e::es) [] pos) (tP X.K (dN g a)):=by
 obtain⟨f,fd,F,hm,hk,hb⟩:=D;exact PE.imp (JC F hr hg hm hk hb .nil Le ha hdb he hpl) (Ow hn)
theorem Hk (h:a Y=some (ls,Y1)) (hp:(ls.map Lc.pv).map (cC Y1.mu 40)=ps) (h2:G ps (Y1.mu.map λ_=>none)=some (r,mu)) (hf:nM r=true):dN G a Y=some (r,Y1):=by unfold dN;rw[h,aaa,hp,h2,aaa,abR hf]
def Ru:PV->Option Str
 | .str z=>if z.length<=100000 then some z else none
 | .int i=>if i.natAbs.log2<1920 then (if (toString i:Str).length<=100000 then some (toString i) else none) else none
 | _=>none
def uz (c:Str) (f:EF):EF:=λY=>(f Y).bind λx=>(Ru x.1.pv).bind λz=>if c.length+z.length<=100000 then some (.sh (.str (c++z)),x.2) else none
theorem Xj (hc:c.length<=100000) (he:PE X e (tP X.K f)):PE X (.JoinedStr [.Constant (.str c) j p1,.FormattedValue e (-1) none p2] p3) (tP X.K (uz c f)):=PE.imp (Uq (aaL hc (by decide)) he) λU H Q q=>by
 obtain⟨H0,Z0,Y,pd,r,Y',s,h,k⟩:=q;obtain⟨x,h1,h2⟩:=abY h;obtain⟨z,h3,h4⟩:=abY h2;obtain⟨hl,h5⟩:=oV h4;cases h5;refine⟨H0,Z0,Y,pd,x.1,x.2,s,h1,λv H1 s1=>?_⟩;have s2:=SR.freeze s1;have hcz:(c++z).length<=sizeLine:=by rw[PySem.Str.length_append]; exact aaL hl (by decide)
 have hz:z.length<=sizeLine:=aaL (aaL (Nat.le_add_left _ _) hl) (by decide);refine⟨z,?_,hcz,hz,k _ H1 (s2.pop.scal j9)⟩;obtain⟨_,r⟩:=s2.repH;cases e:x.1.pv with
 | str y=>
  rw[e]at h3 r;obtain⟨_,rfl⟩:=oV h3;have:=cY r;subst this;rfl
 | int i=>
  rw[e]at h3 r;obtain⟨hi,h4⟩:i.natAbs.log2<1920/\(if (toString i:Str).length<=100000 then some (toString i) else none:Option Str)=some z:=by
   have h3':(if i.natAbs.log2<1920 then (if (toString i:Str).length<=100000 then some (toString i) else none) else none:Option Str)=some z:=h3;split at h3'
   . rename_i h;exact⟨h,h3'⟩
   . cases h3'
  obtain⟨_,rfl⟩:=oV h4;have:=bR r;subst this;exact abR hi
 | _=>rw[e]at h3; cases h3
theorem S7 (h:f Y=some (l,Y1)) (hp:Ru l.pv=some z) (hl:c.length+z.length<=100000):uz c f Y=some (.sh (.str (c++z)),Y1):=by unfold uz;rw[h,aaa,hp,aaa,abR hl]
end
theorem Slots.freezeC:∀(C:Sl) {Z:ZG},Slots K H0 Z H (C++R)->jf H0 Z0 Z H->∃Z',fY Z Z'/\Z'.g=Z.g/\jf H0 Z0 Z' H/\Slots K H0 Z' H R/\∀e∈C,∀q,e.2=some (.own q)->∃x,e.1=some x/\Rep K Z' q x
 | [],Z,so,z=>⟨Z,fY.refl Z,rfl,z,so,λe he=>by cases he⟩
 | (v,l)::C,Z,so,z=>by
  have rest:∀{Z1:ZG},fY Z Z1->Z1.g=Z.g->jf H0 Z0 Z1 H->Slots K H0 Z1 H (C++R)->(∀q,l=some (.own q)->∃x,v=some x/\Rep K Z1 q x)->∃Z',fY Z Z'/\Z'.g=Z.g/\jf H0 Z0 Z' H/\Slots K H0 Z' H R/\∀e∈(v,l)::C,∀q,e.2=some (.own q)->∃x,e.1=some x/\Rep K Z' q x:=λ{Z1} lz eg z1 so1 hv=>by
   obtain⟨Z',lz',eg',z',so',hc⟩:=Slots.freezeC C so1 z1;refine⟨Z',lz.trans lz',eg'.trans eg,z',so',λe he q hq=>?_⟩;rcases aah.mp he with rfl | he
   . obtain⟨x,ex,rx⟩:=hv q hq;exact⟨x,ex,rx.mono lz'⟩
   . exact hc e he q hq
  have so1:=so;cases l with
  | none=>exact rest (fY.refl Z) rfl z (so1.sub (aas _ _)) λq h=>by cases h
  | some l=>
   cases l with
   | sh p=>exact rest (fY.refl Z) rfl z (so1.sub (aas _ _)) λq h=>by cases h
   | own p=>
    obtain⟨Z1,lz,eg,z1,so2⟩:=so1.freeze z;obtain⟨x,ex,rx⟩:=so2.1 _ aab;exact rest lz eg z1 (so2.sub (aas _ _)) λq h=>by cases h;exact⟨x,ex,rx⟩
theorem pU (hc:∀(n:Nat) (a:Addr) (q:PV),Z.g[n]?=some a->mu[n]?=some (some q)->Rep K Z q (.ref a)):∀(k:Nat) (p:PV) (x:V),Rep K Z p x->Rep K Z (cC mu k p) x
 | 0,p,x,r=>r
 | k+1,p,x,r=>by
  cases p with
  | ptr n=>
   show Rep K Z (match mu[n]? with | some (some p)=>cC mu k p | _=>.ptr n) x;split
   . rename_i q hq;obtain⟨a,rfl,ha⟩:=r;exact pU hc k q _ (hc n a q ha hq)
   . exact r
  | tup ps=>
   obtain⟨a,vs,e,h1,h2⟩:=r;exact⟨a,vs,e,h1,lF (pU hc k) h2⟩
  | lst ps=>
   obtain⟨a,vs,e,h1,h2⟩:=r;exact⟨a,vs,e,h1,lF (pU hc k) h2⟩
  | dk ks ps=>
   obtain⟨a,vs,e,h1,h3,h2⟩:=r;exact⟨a,vs,e,h1,h3,lF (pU hc k) h2⟩
  | _=>exact r
theorem Slots.nones:∀(C:Sl),(∀e∈C,e.2=none)->Slots K H0 Z H R->Slots K H0 Z H (C++R)
 | [],_,so=>so
 | (v,l)::C,h,so=>by
  have e:=h _ aab;subst e;have s:=Slots.nones C (λe he=>h e (aai _ he)) so;refine⟨λe he=>?_,?_⟩
  . rcases aah.mp he with rfl | he
    . trivial
    . exact s.1 e he
  . show ((((v,none):Option V×Option Lc)::(C++R)).filterMap jK).Nodup;rw[aaP (by cases v with | none=>rfl | some x=>cases x<;>rfl)];exact s.2
theorem SR.meltD (k:Nat) (s:SR K H0 Z0 U H Y ((v,.sh p)::pd)):
 SR K H0 Z0 U H ⟨Y.vs,Y.mu.map λ_=>none⟩ ((v,.sh (cC Y.mu k p))::pd):=by
 obtain⟨el,Z,hg,z,r,so⟩:=s.sh;obtain⟨Z',lz,eg,z',so2,hc⟩:=Slots.freezeC (cel Z.g Y.mu) so z;have so3:=Slots.nones (cel Z'.g (Y.mu.map λ_=>none)) zu so2;refine .mk el (by rw[eg]; simpa using hg) z' (so3.consS ?_);refine pU (λn a q ha hq=>?_) k p v (r.mono lz);rw[eg]at ha;have hm:(some (V.ref a),some (Lc.own q))∈cel Z.g Y.mu:=aaw (zip_get (by rw[aay,ha]; rfl) (by rw[aay,hq]; rfl));obtain⟨x,ex,rx⟩:=hc _ hm q rfl;cases ex;exact rx
section
variable {X:Cx}
def uA (f:EF):EF:=λY=>(f Y).map λx=>(.sh (cC x.2.mu 40 x.1.pv),⟨x.2.vs,x.2.mu.map λ_=>none⟩)
theorem Xk (h:PE X e (tP X.K f)):PE X e (tP X.K (uA f)):=PE.imp h λU H Q q=>by obtain⟨H0,Z0,Y,pd,l,Y',s,f,k⟩:=q;obtain⟨x,h1,h2⟩:=abZ f;cases h2;exact⟨H0,Z0,Y,pd,x.1,x.2,s,h1,λv H1 s1=>k v H1 (s1.freeze.meltD 40)⟩
theorem Rv (h:f Y=some (l,Y1)) (hp:cC Y1.mu 40 l.pv=p):uA f Y=some (.sh p,⟨Y1.vs,Y1.mu.map λ_=>none⟩):=by unfold uA;rw[h];show some (Lc.sh (cC Y1.mu 40 l.pv),_)=_;rw[hp]
end
class HK where
 hk:List wz->Int
def okP:PV->Option wz
 | .non=>some none
 | .int i=>some (some (.inl i))
 | .str x=>some (some (.inr x))
 | _=>none
section
variable {X:Cx} [HK]
end
section
variable {X:Cx}
theorem qw (i:Nat) {pos:Pos} (hN:X.N[i]?=some x:=by rfl) (hv:MT X.env.scope x:=by first | exact Or.inl rfl | exact Or.inr (Or.inl rfl) | exact Or.inr (Or.inr rfl)) (hd:(x==("__debug__" : Str))=false:=by decide) (hcd:(x==("__classdict__" : Str))=false:=by decide):PE X (.Name x pos) (tP X.K (aa i)):=qv (pv i hN hv hd hcd)
theorem aP {j}:PE X (.Constant (.int i) j pos) (tP X.K (adE i)):=qc Vw eN
theorem gC {j}:PE X (.Constant (.str i) j pos) (tP X.K (adF i)):=qc Vy j9
theorem qy {j}:PE X (.Constant .none j pos) (tP X.K (eC .non)):=qc Vx qK
theorem qI {j} (ha:PE X a (tP X.K fa)):PE X (.Subscript a (.Constant (.int i) j p) pos) (tP X.K (aN fa (adE i))):=gA ha aP (λ_ _=>rfl)
theorem qL {p pos:Pos} (b:X.mg "len" = none) (h:PE X e (tP X.K f)) (hg:Gl X "len" := by rfl) (h0:starEach [e] X.env=(false,eval e X.env)::starEach [] X.env:=by rfl):PE X (.Call (.Name "len" p) [e] [] pos) (tP X.K (eB dZ (aj f ao))):=wI oK Ob (gD oK hg b abl (ak h au h0) (he:=h0))
theorem cG (i:Nat) {x:Str} {e:Expr} {pos pos':Pos} {f:EF} (hN:X.N.Nodup) (he:PE X e (tP X.K f)) (hi:X.N[i]?=some x:=by rfl) (hx:L2.Loc X.env.scope x:=by exact Or.inl rfl) (hs:swapsWith e (some (.Name x pos')) pos.line X.env=pure false:=by rfl) (hf:X.fn x=true\/X.env.scope.names.lookup x=some .local:=by first | exact .inl rfl | exact .inr rfl | assumption):
 PS X (.Assign [.Name x pos'] e pos) (fC X.K (aK i f)):=rm hN hi hx he hs hf
theorem bQ (i:Nat) {pos:Pos} (hN:X.N.Nodup) (hi:X.N[i]?=some x:=by rfl) (hx:L2.Loc X.env.scope x:=by exact Or.inl rfl) (hf:X.fn x=true\/X.env.scope.names.lookup x=some .local:=by first | exact .inl rfl | exact .inr rfl | assumption):PG X (.Name x pos) (Fo i):=Jz hN hi hx hf
theorem jw {M F:List Str} {ixs:List Nat} {sc:Scope} (S:Scope) (hS:X.env.scope=S:=by rfl) (kind:sc.kind=.function:=by rfl) (locs:∀y∈sc.names,y.2=.local->sc.names.lookup y.1=some .local:=by decide +kernel) (cel:∀y∈sc.names,y.2=.cell->sc.names.lookup y.1=some .cell:=by decide +kernel)
 (own:∀p∈sc.names,p.2=.free->S.names.lookup p.1=some .cell\/S.names.lookup p.1=some .free:=by decide +kernel) (frs:∀x∈F,sc.names.lookup x=some .free:=by decide +kernel) (ix:ixs.map (λi=>X.N[i]?)=F.map some:=by rfl):iC X M F ixs sc:=Yt S hS kind locs cel own frs ix
theorem rN {apos cpos pos:Pos} (ho:PE X o (oJ i)) (he:PE X e (tP X.K f)) (h0:starEach [e] X.env=(false,eval e X.env)::starEach [] X.env:=by rfl) (h1:attributeBase o "append" X.env (eval o X.env)=eval o X.env:=by rfl)
 (h2:((backTo cpos (starEach [e] X.env)).all (λx=>!x.1)&&(backToKw cpos (keywordEach [] X.env)).all (λx=>x.1.isSome)
   && decide (([e]:List Expr).length+([]:List Keyword).length+(if ([]:List Keyword).isEmpty then 0 else 1)<30))=true:=by rfl) (h3:(apos.endLine==cpos.line)=true:=by rfl) (hs:swapsWith (.Call (.Attribute o "append" apos) [e] [] cpos) none pos.line X.env=pure false:=by rfl):
 PS X (.Expr (.Call (.Attribute o "append" apos) [e] [] cpos) pos) (fC X.K (fX i f)):=WY (m6 (xT F.plainAttrs_list F.slot_list_append F.type_list_append vZ ho (ak he au h0) h1 h2 h3 h0) hs)
theorem LR {i:Nat} {o e:Expr} {f:EF} {apos cpos pos:Pos} (ho:PE X o (oJ i)) (he:PE X e (tP X.K f)) (h0:starEach [e] X.env=(false,eval e X.env)::starEach [] X.env:=by rfl) (h1:attributeBase o "extend" X.env (eval o X.env)=eval o X.env:=by rfl)
 (h2:((backTo cpos (starEach [e] X.env)).all (λx=>!x.1)&&(backToKw cpos (keywordEach [] X.env)).all (λx=>x.1.isSome)
   && decide (([e]:List Expr).length+([]:List Keyword).length+(if ([]:List Keyword).isEmpty then 0 else 1)<30))=true:=by rfl) (h3:(apos.endLine==cpos.line)=true:=by rfl) (hs:swapsWith (.Call (.Attribute o "extend" apos) [e] [] cpos) none pos.line X.env=pure false:=by rfl):
 PS X (.Expr (.Call (.Attribute o "extend" apos) [e] [] cpos) pos) (fC X.K (qj i f)):=W0 (m6 (xT F.plainAttrs_list F.slot_list_extend F.type_list_extend Lg ho (ak he au h0) h1 h2 h3 h0) hs)
end
inductive XR (α:Type) where
 | ok (a:α)
 | xc (C:Str) (Y:Ev)
section
variable {X:Cx} {E:XK}
end
section
variable {P:Program} {w:World} {K:FG} {mg:Str->Option Value} {base:Heap}
end
section
variable {X:Cx} {E:XK}
end
section
variable {X:Cx}
theorem u6 {α:Type} [BEq α] [LawfulBEq α]:∀{l r:List α},l.Nodup->(∀x∈l,x∈r)->l.length<=r.length
 | [],_,_,_=>aa6 _
 | x::l,r,h,s=>by have hx:=s x aab;have h1:=aaS.mp h;have:=u6 (r:=r.erase x) h1.2 λy hy=>(List.mem_erase_of_ne (λe:y=x=>h1.1 (by rw[<-e]; exact hy))).mpr (s y (aai _ hy));have e:=List.length_erase_of_mem hx;have:0<r.length:=List.length_pos_of_mem hx;rw[aac];omega
end
section
variable {P:Program} {w:World} {K:FG} {mg:Str->Option Value} {base:Heap}
end
section
variable {X:Cx} {E:XK}
end
section
variable {K:FG} {H0 H:Hp} {Z0:ZG} {U:L2.St} {Y:Ev} {pd:Pd}
end
section
variable {X:Cx} {E:XK}
end
section
variable {X:Cx}
def Ar (fo:EF):SF:=λY=>(fo Y).bind λo=>match o.1.pv with
 | .ptr n=>match o.2.mu[n]? with
  | some (some (.lst ws))=>some (.nx ⟨o.2.vs,o.2.mu.set n (some (.lst []))⟩)
  | _=>none
 | _=>none
theorem UW {o:Expr} {fo:EF} {apos cpos pos:Pos} (h:PS X (.Expr (.Call (.Attribute o "clear" apos) [] [] cpos) pos) (uM (Gv X.K "list" Np (tP X.K fo)))):
 PS X (.Expr (.Call (.Attribute o "clear" apos) [] [] cpos) pos) (fC X.K (Ar fo)):=PS.imp h λD U H q=>by
 obtain⟨H0,Z0,Y,pd,fl,s,h,k⟩:=q;obtain⟨o',h1,h2⟩:=abY h;refine⟨H0,Z0,Y,pd,o'.1,o'.2,s,h1,λv H1 s1=>?_⟩;split at h2
 . rename_i n en;split at h2
   . rename_i ws em;cases h2;have s2:=s1.freeze;rw[en]at s2;obtain⟨a,rfl,s5⟩:=s2.cellO em;obtain⟨_,Z,_,z,so⟩:=s5.top;obtain⟨_,ea,⟨us,hu,_⟩,_⟩:=so.1 _ aab;cases ea;obtain⟨us2,hu2,s6⟩:=s5.wrO (f:=λ_=>[]) (ws':=[]) λ_=>aQ.nil;have hn:n<o'.2.mu.length:=(aal.mp em).1;have s7:=s6.cellP (by show (o'.2.mu.set n none)[n]?=_; rw[aaK hn]);refine⟨.inl ⟨rfl,us,cz.of hu⟩,a,us2,rfl,rfl,hu2,k U _ ?_⟩;have e8:(o'.2.mu.set n none).set n (some (.lst []))=o'.2.mu.set n (some (.lst [])):=abb ..;rw[show (⟨o'.2.vs,o'.2.mu.set n (some (.lst []))⟩:Ev)=⟨o'.2.vs,(o'.2.mu.set n none).set n (some (.lst []))⟩ by rw[e8]];exact s7
   . cases h2
 . cases h2
theorem dB {es es':List Expr} {x1} {pos:Pos} {f:EF} {g:AF} (ha:PE X (.Tuple es' x1 pos) (tP X.K f)) (hr:PA X es (iU X.K g)):PA X (.Tuple es' x1 pos::es) (iU X.K (aj f g)):=ak ha hr rfl
theorem Hl {es es':List Expr} {pos:Pos} {f:EF} {g:AF} (ha:PE X (.List es' pos) (tP X.K f)) (hr:PA X es (iU X.K g)):PA X (.List es' pos::es) (iU X.K (aj f g)):=ak ha hr rfl
end
section
variable {X:Cx} {E:XK}
end
section
variable {X:Cx}
def yh (fa fb:EF):EF:=λY=>(fa Y).bind λx=>match x.1.pv with
 | .dk ks ps=>(fb x.2).bind λy=>(tU y.1.pv).map λk=>(.sh ((iG (ks.zip ps) k).getD .non),y.2)
 | .df ks ps=>(fb x.2).bind λy=>(tU y.1.pv).map λk=>(.sh ((iG (ks.zip ps) k).getD .non),y.2)
 | _=>none
theorem Yy {a b:Expr} {apos cpos:Pos} {fa fb:EF} (hu:X.A.units+1<cLine) (ha:PE X a (tP X.K fa)) (hb:PE X b (tP X.K fb)) (m:M1 X a "get" apos b cpos):PE X (.Call (.Attribute a "get" apos) [b] [] cpos) (tP X.K (yh fa fb)):=PE.imp (QL hu ha hb m) λU H Q q=>by
 obtain⟨H0,Z0,Y,pd,l,Y',s,f,k⟩:=q;obtain⟨x,h1,h2⟩:=abY f;refine⟨H0,Z0,Y,pd,x.1,x.2,s,h1,λv H1 s1=>?_⟩;have s2:=s1.freeze;split at h2
 . rename_i ks ps en;obtain⟨y,h3,h4⟩:=abY h2;obtain⟨kk,h5,h6⟩:=abZ h4;cases h6;rw[en]at s2;obtain⟨Z,z,r⟩:=s2.rep;unfold Rep at r;obtain⟨b',kvs,rfl,g1,_,_⟩:=r;refine⟨b',rfl,.inl ⟨kvs,.inl (z _ _ g1)⟩,H0,Z0,x.2,_,y.1,y.2,s2,h3,λw H2 s3=>?_⟩;have s4:=s3.freeze;obtain⟨_,rw'⟩:=s4.repH;have ew:=qO h5 rw';have s5:=s4.pop;obtain⟨Z',z',r'⟩:=s5.rep;unfold Rep at r';obtain⟨b2,kvs2,eb,g1',g2',g3'⟩:=r';cases eb;have e1:=z' _ _ g1';have d:=(jb g2' g3').val (k:=kk);cases hv:iG (ks.zip ps) kk with
   | none=>
    rw[hv]at k;exact⟨none,.inl ⟨kvs2,kk,.inl e1,ew,(d.2 hv).symm⟩,k _ _ (s5.pop.scal qK)⟩
   | some p=>
    rw[hv]at k;obtain⟨u,hu',ru⟩:=d.1 p hv;refine⟨some u,.inl ⟨kvs2,kk,.inl e1,ew,hu'.symm⟩,k u H2 ?_⟩;refine(s5.part (u:=u) (q:=p) λZ' z' r'=>?_).sub ((aas _ _).cons_cons _);unfold Rep at r';obtain⟨b3,kvs3,eb,g1,g2,g3⟩:=r';cases eb;have e2:=z' _ _ g1;rw[e1]at e2;cases e2;obtain⟨u2,hu2,ru2⟩:=(jb g2 g3).val.1 p hv;rw[hu']at hu2;cases hu2;exact ru2
 . rename_i ks ps en;obtain⟨y,h3,h4⟩:=abY h2;obtain⟨kk,h5,h6⟩:=abZ h4;cases h6;rw[en]at s2;obtain⟨Z,z,r⟩:=s2.rep;unfold Rep at r;obtain⟨b',ob,kvs,rfl,g1,_,_⟩:=r;refine⟨b',rfl,.inl ⟨kvs,.inr ⟨ob,z _ _ g1⟩⟩,H0,Z0,x.2,_,y.1,y.2,s2,h3,λw H2 s3=>?_⟩;have s4:=s3.freeze;obtain⟨_,rw'⟩:=s4.repH;have ew:=qO h5 rw';have s5:=s4.pop;obtain⟨Z',z',r'⟩:=s5.rep;unfold Rep at r';obtain⟨b2,ob2,kvs2,eb,g1',g2',g3'⟩:=r';cases eb;have e1:=z' _ _ g1';have d:=(jb g2' g3').val (k:=kk);cases hv:iG (ks.zip ps) kk with
   | none=>
    rw[hv]at k;exact⟨none,.inl ⟨kvs2,kk,.inr ⟨ob2,e1⟩,ew,(d.2 hv).symm⟩,k _ _ (s5.pop.scal qK)⟩
   | some p=>
    rw[hv]at k;obtain⟨u,hu',ru⟩:=d.1 p hv;refine⟨some u,.inl ⟨kvs2,kk,.inr ⟨ob2,e1⟩,ew,hu'.symm⟩,k u H2 ?_⟩;refine(s5.part (u:=u) (q:=p) λZ' z' r'=>?_).sub ((aas _ _).cons_cons _);unfold Rep at r';obtain⟨b3,ob3,kvs3,eb,g1,g2,g3⟩:=r';cases eb;have e2:=z' _ _ g1;rw[e1]at e2;cases e2;obtain⟨u2,hu2,ru2⟩:=(jb g2 g3).val.1 p hv;rw[hu']at hu2;cases hu2;exact ru2
 . cases h2
def J8:V->List V->Hp->VK->Prop:=λx vs H Q=>∃a kvs,x=.ref a/\vs=[]/\H a=some (.dK kvs)/\Q .non (upd H a (.dK []))
theorem Ox:JF X "dict.clear" J8:=by intro adG s U H x vs v us Q I rx rv h;obtain⟨a,kvs,rfl,rfl,hH,q⟩:=h;cases rx;have hus:=rv.zero;subst hus;exact Ug I hH λs' I'=>⟨.non,_,I',rfl,q⟩
def FN (i:Nat):SF:=λY=>match Y.vs[i]? with
 | some (some (.own (.dk _ _)))=>some (.nx (Y.set i (some (.own (.dk [] [])))))
 | _=>none
theorem U0 {i:Nat} {o:Expr} {apos cpos pos:Pos} (h:PS X (.Expr (.Call (.Attribute o "clear" apos) [] [] cpos) pos) (uM (Gv X.K "dict" J8 (oJ i)))):
 PS X (.Expr (.Call (.Attribute o "clear" apos) [] [] cpos) pos) (fC X.K (FN i)):=PS.imp h λD U H q=>by
 obtain⟨H0,Z0,Y,pd,fl,s,h,k⟩:=q;unfold FN at h;split at h
 . rename_i ks ps e0;cases h;obtain⟨a,ea,s1⟩:=s.takeD e0;obtain⟨el,Z,hg,z,so⟩:=s1.top;obtain⟨b,eb,⟨kvs,hu,hk,hr⟩,_⟩:=so.1 _ aab;cases eb;obtain⟨z',s'⟩:=so.write (o:=.dK []) (q:=.dk [] []) z ⟨[],cg,rfl,aQ.nil⟩;have s2:SR X.K H0 Z0 U (upd H a (.dK [])) (Y.set i none) ((.ref a,.own (.dk [] []))::pd):=.mk el hg z' s';refine⟨.ref a,ea,.inr (.inr (.inl ⟨rfl,.inl ⟨kvs,hu⟩⟩)),a,kvs,rfl,rfl,hu,k U _ ?_⟩;have s3:=s2.put ea;rw[Ev.set_set]at s3;exact s3
 . cases h
def Ma:PV->Option Nat
 | .dk ks _=>some ks.length
 | .df ks _=>some ks.length
 | _=>none
theorem SR.dict {v:V} {p:PV} {n:Nat} (s:SR K H0 Z0 U H Y ((v,.sh p)::pd)) (h:Ma p=some n):∃a kvs,v=.ref a/\Rd H a (.dK kvs)/\kvs.length=n:=by
 obtain⟨Z,z,r⟩:=s.rep;unfold Ma at h;split at h
 . cases h;unfold Rep at r;obtain⟨b,kvs,rfl,g1,g2,_⟩:=r;exact⟨b,kvs,rfl,.inl (z _ _ g1),by rw[<-g2,aad]⟩
 . cases h;unfold Rep at r;obtain⟨b,ob,kvs,rfl,g1,g2,_⟩:=r;exact⟨b,kvs,rfl,.inr ⟨ob,z _ _ g1⟩,by rw[<-g2,aad]⟩
 . cases h
theorem Ec:mJ X (.builtin "len") (λxs H Q=>∃a kvs,xs=[.ref a]/\Rd H a (.dK kvs)/\Q (.int (kvs.length:Nat)) H):=by intro adG s U H xs us Q I r h;obtain⟨a,kvs,rfl,e,q⟩:=h;obtain⟨u,rfl,rx⟩:=vals1 r;cases rx;exact Yk I e λt s' I'=>⟨.int _,H,I',⟨_,rfl⟩,q⟩
def Av (f:EF):EF:=λY=>(f Y).bind λx=>(Ma x.1.pv).map λn=>(.sh (.int (n:Nat)),x.2)
theorem S8 {x:Str} {e:Expr} {f:EF} {p pos:Pos} (h:PE X (.Call (.Name x p) [e] [] pos) (Dz (λxs H Q=>∃a kvs,xs=[.ref a]/\Rd H a (.dK kvs)/\Q (.int (kvs.length:Nat)) H) (iU X.K (aj f ao)))):PE X (.Call (.Name x p) [e] [] pos) (tP X.K (Av f)):=PE.imp h λU H Q q=>by
 obtain⟨H0,Z0,Y,pd,l,Y',s,ff,k⟩:=q;obtain⟨y,h1,h2⟩:=abY ff;obtain⟨n,h3,h4⟩:=abZ h2;cases h4;refine⟨H0,Z0,Y,pd,[y.1],y.2,s,?_,λvs H1 e1 s1=>?_⟩
 . unfold aj ao;rw[h1];rfl
 . obtain⟨v,rfl⟩:=wB e1;have s2:SR X.K H0 Z0 U H1 y.2 ((v,.sh y.1.pv)::pd):=SR.freeze s1;obtain⟨a,kvs,rfl,g,rfl⟩:=s2.dict h3;exact⟨a,kvs,rfl,g,k _ H1 (s2.pop.scal eN)⟩
theorem Rw:mJ X (.builtin "isinstance") (λxs H Q=>∃a kvs,xs=[.ref a,.ty "dict"]/\Rd H a (.dK kvs)/\Q (.bl true) H):=by intro adG s U H xs us Q I r h;obtain⟨a,kvs,rfl,e,q⟩:=h;obtain⟨u,w',rfl,ru,rw'⟩:=vals2 r;cases rw';cases ru;obtain⟨_,hd,vs,_,ob,es,ep,h1,h2,_⟩:=uO I.hok e;exact abE (t:=.type "dict") W.kitx_dict I.kIn ⟨ob,h1,h2.1⟩ rfl (by intro z; cases z) λtk=>⟨.bl true,H,I.tok tk,rfl,q⟩
def Rx (f:EF):EF:=λY=>(f Y).bind λx=>(Ma x.1.pv).map λ_=>(.sh (.bl true),x.2)
theorem ZS {f:EF} {e c:Expr} {pp pos:Pos} (h:PE X (.Call (.Name "isinstance" pp) [e,c] [] pos) (Dz (λxs H Q=>∃a kvs,xs=[.ref a,.ty "dict"]/\Rd H a (.dK kvs)/\Q (.bl true) H) (zL (tP X.K f) (zL (tC (.ty "dict")) Qx)))):
 PE X (.Call (.Name "isinstance" pp) [e,c] [] pos) (tP X.K (Rx f)):=PE.imp h λU H Q q=>by
 obtain⟨H0,Z0,Y,pd,r,Y',s,h,k⟩:=q;obtain⟨x,h1,h2⟩:=abY h;obtain⟨n,h3,h4⟩:=abZ h2;cases h4;refine⟨H0,Z0,Y,pd,x.1,x.2,s,h1,λv H1 s1=>?_⟩;obtain⟨a,kvs,rfl,g,_⟩:=s1.freeze.dict h3;exact⟨a,kvs,rfl,g,k _ H1 (s1.pop.scal dX)⟩
theorem Oz {f:EF}:∀U H Q,tP X.K (j5 f) U H Q->tP X.K f U H Q:=λU H Q q=>by
 obtain⟨H0,Z0,Y,pd,r,Y',s,h,k⟩:=q;obtain⟨x,h1,h2⟩:=abY h;obtain⟨Zt,s1,b1,_⟩:=s.lookD;split at h2
 . rename_i hf;cases h2;exact⟨H,Zt,Y.peekD,[],x.1,x.2,s1,h1,λv H' s2=>k v H' (b1 H' v x.1 x.2 s2 hf)⟩
 . cases h2
theorem Hm {i:Nat} (M F:List Str) (ixs:List Nat) {x:Str} {sc:Scope} {tg iter elt:Expr} {ifs:List Expr} {f:IF} {g:TG} {b:BF} {tc:TF} {te:EF} {pos pos' pos2:Pos} (hN:X.N.Nodup) (hix:X.N[i]?=some x) (hx:X.env.scope.names.lookup x=some .local)
 (hcalm:X.calm=true) (c:iC X M F ixs sc) (hi:PI X tg iter (yG X.K f))
 (hg:∀C fp s H,PG (eV X M F sc C fp s H) tg g) (hb:GS X.K g b) (hc:∀C fp s H,qY (eV X M F sc C fp s H) ifs (gM X.K tc)) (he:∀C fp s H,PE (eV X M F sc C fp s H) elt (tP X.K te))
 (hsw:swapsWith (.ListComp elt [⟨tg,iter,ifs,0⟩] sc pos) (some (.Name x pos')) pos2.line X.env=pure true:=by rfl)
 (hs:∀x,foldedSetIterable iter X.env x=pure x:=by intro _; rfl):PS X (.Assign [.Name x pos'] (.ListComp elt [⟨tg,iter,ifs,0⟩] sc pos) pos2) (fC X.K (aK i (j5 (bJ f M.length ixs b tc te)))):=
 PS.imp (JK M F ixs hN hix hx hcalm c hi hg hc he hsw hs) (Ck λD U H q=>zg hb U H _ (Oz U H _ q))
end
end PL
namespace Law
open PySem PySem.Spec PyProof.Rows L2 PL
local macro_rules | `(tactic| walk_at "sc")=>`(tactic| exact⟨rfl,rfl,rfl,by decide +kernel,rfl,by decide +kernel,by decide +kernel⟩)
theorem mI {l:List Str} {a:Str} (i:Nat) (h:l[i]?=some a):a∈l:=aaw h
def top (i:Nat):Stmt:=PySem.Challenge.pw_hushwise_k40_told_nodes.main.body.getD i (.Pass ⟨0,0,0,0⟩)
abbrev sX:Stmt:=top 7
abbrev jT:Stmt:=top 8
abbrev pW:Stmt:=top 9
abbrev ql:Stmt:=top 10
abbrev wO:Stmt:=top 11
abbrev tV:Stmt:=top 12
abbrev mO:Stmt:=top 13
abbrev uB:Stmt:=top 14
abbrev zx:Stmt:=top 15
abbrev wQ:Stmt:=top 16
abbrev wR:Stmt:=top 17
abbrev oZ:Stmt:=top 18
abbrev ph:Stmt:=top 19
abbrev tW:Stmt:=top 22
abbrev u9:Stmt:=top 23
abbrev lG:Stmt:=top 24
abbrev qG:Stmt:=top 25
abbrev vd:Stmt:=top 26
abbrev lH:Stmt:=top 27
abbrev rO:Stmt:=top 29
abbrev tX:Stmt:=top 31
abbrev tY:Stmt:=top 32
abbrev nR:Stmt:=top 33
abbrev jF:Stmt:=top 34
abbrev nT:Stmt:=top 35
abbrev qm:Stmt:=top 39
abbrev jB:Stmt:=top 40
abbrev tZ:Stmt:=top 41
abbrev pK:Stmt:=top 42
abbrev nU:Stmt:=top 43
abbrev t6:Stmt:=top 44
abbrev j6:Stmt:=top 45
abbrev rQ:Stmt:=top 46
abbrev fV:Stmt:=top 47
abbrev rR:Stmt:=top 48
abbrev kI:Stmt:=top 49
abbrev vf:Stmt:=top 50
abbrev uc:Stmt:=top 51
abbrev vg:Stmt:=top 52
abbrev gZ:Stmt:=inClass (top 20) 0
theorem Mf:bD ["text"] ["text"] (aL sX):=by walk_at "sc"
theorem yx:bD ["some", "pairs", "name"] ["some", "pairs", "name"] (aL jT):=by walk_at "sc"
theorem nW:bD ["names", "pairs", "rest", "climbing"] ["names", "pairs"] (aL pW):=by walk_at "sc"
theorem lW:bD ["some", "pairs", "walk", "above"] ["some", "pairs"] (aL ql):=by walk_at "sc"
theorem jU:bD ["name", "pairs", "met", "grown", "low", "high"] ["name", "pairs"] (aL wO):=by walk_at "sc"
theorem rT:bD ["names", "pairs", "above", "name"] ["names", "pairs"] (aL tV):=by walk_at "sc"
theorem CK:bD ["names", "pairs"] ["names", "pairs"] (aL mO):=by walk_at "sc"
theorem zy:bD ["reach", "one", "other", "shared", "rank"] ["reach", "one", "other"] (aL uB):=by walk_at "sc"
theorem sY:bD ["reach", "told", "one", "other"] ["reach"] (aL zx):=by walk_at "sc"
theorem vh:bD ["reach", "both", "rank"] ["reach"] (aL wQ):=by walk_at "sc"
theorem vm:bD ["names", "pairs", "apart"] ["names", "pairs"] (aL wR):=by walk_at "sc"
theorem kY:bD ["names", "pairs", "name", "low", "high"] ["names", "pairs"] (aL oZ):=by walk_at "sc"
theorem nY:bD ["names", "pairs", "ring", "lack"] ["names", "pairs"] (aL ph):=by walk_at "sc"
theorem Hn:bD ["row"] ["row"] (aL tW):=by walk_at "sc"
theorem OD:bD ["row"] ["row"] (aL u9):=by walk_at "sc"
theorem Ew:bD ["rows"] ["rows"] (aL lG):=by walk_at "sc"
theorem kJ:bD ["where", "above", "block", "rows", "start", "told", "row", "number", "place", "inner"] ["where", "above", "block", "rows", "start"] (aL qG):=by walk_at "sc"
theorem kO:bD ["program", "told", "name", "rank", "params", "rows"] ["program"] (aL vd):=by walk_at "sc"
theorem jc:bD ["program", "told", "name", "rank", "params", "rows"] ["program"] (aL lH):=by walk_at "sc"
theorem eY:bD ["order", "program", "told", "name", "rank", "k", "one", "row", "who", "high", "low"] ["order", "program"] (aL rO):=by walk_at "sc"
theorem nZ:bD ["_law_script", "_law_k", "_law_number_here", "_law_spot"] ["_law_script", "_law_k"] (aL tX):=by walk_at "sc"
theorem wU:bD ["_law_pen", "_law_most", "_law_cell_here"] ["_law_pen", "_law_most"] (aL tY):=by walk_at "sc"
theorem cT:bD ["_law_pen", "_law_total", "_law_letters", "_law_way", "_law_size", "_law_at", "_law_turn", "_law_some", "_law_base", "_law_names_here", "_law_k", "_law_name", "_law_letter"] ["_law_pen", "_law_total"] (aL nR):=by walk_at "sc"
theorem jd:bD ["_law_pen", "_law_way", "_law_size", "_law_some"] ["_law_pen"] (aL jF):=by walk_at "sc"
theorem gW:bD ["_law_pen", "_law_size", "_law_some", "_law_names_here", "_law_pairs", "_law_turn", "_law_listed"] ["_law_pen"] (aL nT):=by walk_at "sc"
theorem pA:bD ["_law_pen", "_law_way", "_law_cell_here"] ["_law_pen"] (aL qm):=by walk_at "sc"
theorem gO:bD ["_law_pen", "_law_deep", "_law_known", "_law_way", "_law_one", "_law_other", "_law_sign"] ["_law_pen", "_law_deep", "_law_known"] (aL jB):=by walk_at "sc"
theorem Ho:bD ["_law_pen", "_law_known"] ["_law_pen", "_law_known"] (aL tZ):=by walk_at "sc"
theorem rW:bD ["_law_pen", "_law_deep", "_law_known", "_law_most", "_law_rows_here", "_law_k"] ["_law_pen", "_law_deep", "_law_known", "_law_most"] (aL pK):=by walk_at "sc"
theorem jr:bD ["_law_pen", "_law_deep", "_law_known", "_law_way", "_law_one", "_law_first", "_law_box", "_law_name", "_law_count"] ["_law_pen", "_law_deep", "_law_known"] (aL nU):=by walk_at "sc"
theorem Hq:bD ["_law_pen", "_law_ranks_here"] ["_law_pen", "_law_ranks_here"] (aL t6):=by walk_at "sc"
theorem uC:bD ["_law_pen", "_law_way"] ["_law_pen"] (aL j6):=by walk_at "sc"
theorem mQ:bD ["_law_pen", "_law_names_here", "_law_at", "_law_heads_here", "_law_count"] ["_law_pen", "_law_names_here", "_law_at"] (aL rQ):=by walk_at "sc"
theorem bU:bD ["_law_pen", "_law_ranks_here", "_law_names_here", "_law_boxes", "_law_k", "_law_grants", "_law_high", "_law_heads_here", "_law_numbers", "_law_lists", "_law_whos", "_law_called", "_law_functions", "_law_name", "_law_params", "_law_rows_here", "_law_told"] ["_law_pen", "_law_ranks_here"] (aL fV):=by walk_at "sc"
theorem j7:bD ["_law_script", "_law_most", "_law_pen", "_law_ranks_here", "_law_pairs"] ["_law_script"] (aL rR):=by walk_at "sc"
theorem fH:bD ["_law_program_here", "_law_rows_here", "_law_todo", "_law_body", "_law_row_here", "_law_inner"] ["_law_program_here"] (aL kI):=by walk_at "sc"
theorem cZ:bD ["_law_program_here", "_law_due_here", "_law_name", "_law_size", "_law_rank_here", "_law_params", "_law_rows_here", "_law_param", "_law_its", "_law_k", "_law_row_here", "_law_who", "_law_high", "_law_low"] ["_law_program_here"] (aL vf):=by walk_at "sc"
theorem wV:bD ["_law_got", "_law_due_here", "_law_node"] ["_law_got", "_law_due_here"] (aL uc):=by walk_at "sc"
theorem pX:bD ["_law_script", "_law_ranks_here", "_law_pairs", "_law_program_here", "_law_order", "_law_due_here", "_law_got", "_law_kept"] ["_law_script"] (aL vg):=by walk_at "sc"
theorem wW:bD ["self", "names", "pairs"] ["self", "names", "pairs"] (aL gZ):=by walk_at "sc"
def jM:PV:=(.str "abcdefghijklmnopqrstuvwxyz")
def pY:GF:=cP 1 (bV (wC (uy DR DR (adE 1) (eB dZ (aj (aa 0) ao)) (adE 8)) (eB all1 (aj (bJ (cR (aa 0) bI) 1 [] (aA 0) bK (aC ju (aa 0) (eC jM))) ao))))
def cN:GF:=cP 3 (bV (bJ (cR (aa 1) bI) 2 [2,0] (b7 2 (aJ (aA 0) (aJ (aA 1) bZ))) (cQ (tT (aC eqP (aa 0) (aa 2)) aV) (cQ (tT (aC mC (aa 1) (aa 2)) aV) (tT (aC ju (aa 1) (aa 3)) aV))) (aa 1)))
def qp:GF:=cP 4 (aG (aK 2 (bH (aj (aN (aa 0) (adE 0)) ao)))
 (aG (aK 3 (aN (aF cN (aj (aa 0) (aj (aa 1) (aj (aN (aa 0) (adE 0)) ao)))) (adE 0)))
 (aG (wF 20 (lU (tT (aC rC (aa 3) (aa 2)) aV))
 (aG (fX 2 (aa 3))
 (aK 3 (aN (aF cN (aj (aa 0) (aj (aa 1) (aj (aa 3) ao)))) (adE 0)))))
 (bV (lR (jo (aa 2) (fD (wL (aa 2) (aa 3))) lO))))))
def pZ:GF:=cP 4 (aG (aK 2 (eB list1 (aj (aa 0) ao)))
 (aG (aK 3 (bJ (cR (aa 2) bI) 1 [2,1] (aA 0) (tT (aF cN (aj (aa 1) (aj (aa 2) (aj (aa 0) ao)))) fB) (aa 0)))
 (aG (wF 20 (tT (aC iV (eB dZ (aj (aa 3) ao)) (eB dZ (aj (aa 2) ao))) aV)
 (aG (aK 2 (aa 3))
 (aK 3 (bJ (cR (aa 2) bI) 1 [2,1] (aA 0) (tT (aF cN (aj (aa 1) (aj (aa 2) (aj (aa 0) ao)))) fB) (aa 0)))))
 (aG (bN (gH (tT (aa 2) fB))
 (bV (eC .non))
 bA)
 (bV (aF qp (aj (aa 2) (aj (aa 1) ao))))))))
def sZ:GF:=cP 6 (aG (aK 2 (bH (aj (aa 0) ao)))
 (aG (aK 3 (eC (.bl true)))
 (aG (wF 70 (tT (aa 3) fB)
 (aG (aK 3 (eC (.bl false)))
 (dM (cR (aa 1) bI) (b7 2 (aJ (aA 4) (aJ (aA 5) bZ)))
 (bN (lU (cQ (tT (aC ju (aa 4) (aa 2)) aV) (tT (aC rC (aa 5) (aa 2)) aV)))
 (aG (fX 2 (aa 5))
 (aK 3 (eC (.bl true))))
 bA))))
 (gB 2))))
def fJ:GF:=cP 4 (aG (aK 2 Al)
 (aG (dM (cR (aa 0) bI) (aA 3)
 (eG 2 (aa 3) (aF sZ (aj (aa 3) (aj (aa 1) ao)))))
 (gB 2)))
def eZ:GF:=cP 2 (bV (aF fJ (aj (aa 0) (aj (bJ (cR (aa 1) bI) 2 [] (b7 2 (aJ (aA 0) (aJ (aA 1) bZ))) bK (bu (aj (aa 1) (aj (aa 0) ao)))) ao))))
def uD:GF:=cP 5 (aG (aK 3 (bJ (cR (iH (aa 0) (aa 1)) bI) 1 [0,2] (aA 0) (tT (aC ju (aa 0) (iH (aa 1) (aa 2))) aV) (aa 0)))
 (aG (dM (cR (aa 3) bI) (aA 4)
 (bN (tT (eB all1 (aj (bJ (cR (aa 3) bI) 1 [0,4] (aA 0) bK (aC ju (aa 0) (iH (aa 1) (aa 2)))) ao)) fB)
 (gB 4)
 bA))
 (bV (eC .non))))
def jV:GF:=cP 4 (aG (aK 1 Ot)
 (aG (dM (J1 (aa 0)) (aA 2)
 (dM (J1 (aa 0)) (aA 3)
 (An 1 (aj (aa 2) (aj (aa 3) ao)) (aF uD (aj (aa 0) (aj (aa 2) (aj (aa 3) ao)))))))
 (gB 1)))
def iy:GF:=cP 3 (aG (dM (LQ (Lz (aF jV (aj (aa 0) ao)))) (b7 2 (aJ (aA 1) (aJ (aA 2) bZ)))
 (bN (tT (aC Lq (aa 2) (eC .non)) aV)
 (gB 1)
 bA))
 (bV (eC .non)))
def tu:GF:=cP 3 (aG (aK 2 (aF iy (aj (jD (aF fJ (aj (aa 0) (aj (aa 1) ao)))) ao)))
 (aG (bN (tT (aC jP (aa 2) (eC .non)) aV)
 (bV (bu (aj (adF "join") (aj (aN (aa 2) (adE 0)) (aj (aN (aa 2) (adE 1)) ao)))))
 bA)
 (aG (aK 2 (aF iy (aj (jD (aF eZ (aj (aa 0) (aj (aa 1) ao)))) ao)))
 (aG (bN (tT (aC jP (aa 2) (eC .non)) aV)
 (bV (bu (aj (adF "meet") (aj (aN (aa 2) (adE 0)) (aj (aN (aa 2) (adE 1)) ao)))))
 bA)
 (bV (eC .non))))))
def pB:GF:=cP 5 (aG (dM (cR (aa 0) bI) (aA 2)
 (aG (bN (gH (tT (aF pY (aj (aa 2) ao)) fB))
 pI
 bA)
 (bN (tT (aC wH (Ao (aa 0) (aa 2)) (adE 1)) aV)
 pI
 bA)))
 (dM (cR (aa 1) bI) (b7 2 (aJ (aA 3) (aJ (aA 4) bZ)))
 (bN (mj (tT (aC rC (aa 3) (aa 0)) aV) (tT (aC rC (aa 4) (aa 0)) aV))
 pI
 bA)))
def pC:GF:=cP 4 (aG (bN (gH (tT (aa 0) fB))
 pI
 bA)
 (aG (aK 2 (aF pZ (aj (aa 0) (aj (aa 1) ao))))
 (aG (bN (tT (aC jP (aa 2) (eC .non)) aV)
 pI
 bA)
 (aG (aK 3 (aF tu (aj (aa 0) (aj (aa 1) ao))))
 (bN (tT (aC jP (aa 3) (eC .non)) aV)
 pI
 bA)))))
def jt:GF:=cP 1 (aG (bN (tT (aC eqP (aN (aa 0) (adE 0)) (adF "if")) aV)
 (bV (bH (aj (aN (aa 0) (adE 2)) (aj (aN (aa 0) (adE 3)) ao))))
 bA)
 (aG (bN (tT (aC eqP (aN (aa 0) (adE 0)) (adF "while")) aV)
 (bV (bH (aj (aN (aa 0) (adE 2)) ao)))
 bA)
 (bV (bH ao))))
mutual
def jW:Nat->GF
 | 0=>λ_ _=>none
 | n+1=>cP 1 (aG (bN (tT (aC eqP (aN (aa 0) (adE 0)) (adF "if")) aV)
  (bV (bu (aj (adF "if") (aj (aN (aa 0) (adE 1)) (aj (aF (eX n) (aj (aN (aa 0) (adE 2)) ao)) (aj (aF (eX n) (aj (aN (aa 0) (adE 3)) ao)) ao))))))
  bA)
  (aG (bN (tT (aC eqP (aN (aa 0) (adE 0)) (adF "while")) aV)
  (bV (bu (aj (adF "while") (aj (aN (aa 0) (adE 1)) (aj (aF (eX n) (aj (aN (aa 0) (adE 2)) ao)) ao)))))
  bA)
  (aG (bN (tT (aC eqP (aN (aa 0) (adE 0)) (adF "call")) aV)
  (bV (bu (aj (adF "call") (aj (aN (aa 0) (adE 1)) (aj (aN (aa 0) (adE 2)) (aj (eB list1 (aj (aN (aa 0) (adE 3)) ao)) ao))))))
  bA)
  (gB 0))))
def eX:Nat->GF
 | 0=>λ_ _=>none
 | n+1=>cP 1 (bV (bJ (cR (aa 0) bI) 1 [] (aA 0) bK (aF (jW n) (aj (aa 0) ao))))
end
def fO:Nat->GF
 | 0=>λ_ _=>none
 | n+1=>cP 10 (aG (aK 5 (bH ao))
  (aG (dM (cR (aa 3) bI) (aA 6)
  (aG (aK 7 (lR (aC bh (aa 4) (eB dZ (aj (aa 5) ao)))))
  (aG (fX 5 (bu (aj (aa 0) (aj (aa 1) (aj (aa 2) (aj (aF (jW 40) (aj (aa 6) ao)) ao))))))
  (dM (pP (aF jt (aj (aa 6) ao))) (b7 2 (aJ (aA 8) (aJ (aA 9) bZ)))
  (qj 5 (aF (fO n) (aj (aa 0) (aj (aa 7) (aj (aa 8) (aj (aa 9) (aj (lR (aC bh (aa 4) (eB dZ (aj (aa 5) ao)))) ao)))))))))))
  (gB 5)))
def vo:GF:=cP 6 (aG (aK 1 (bH ao))
 (aG (dM (cR (aN (aa 0) (adE 2)) bI) (b7 4 (aJ (aA 2) (aJ (aA 3) (aJ (aA 4) (aJ (aA 5) bZ)))))
 (qj 1 (aF (fO 40) (aj (aa 2) (aj (eC .non) (aj (adE 0) (aj (aa 5) (aj (lR (eB dZ (aj (aa 1) ao))) ao))))))))
 (aG (qj 1 (aF (fO 40) (aj (adF "main") (aj (eC .non) (aj (adE 0) (aj (aN (aa 0) (adE 3)) (aj (lR (eB dZ (aj (aa 1) ao))) ao)))))))
 (gB 1))))
def rY:GF:=cP 6 (aG (aK 1 (bJ (cR (aN (aa 0) (adE 0)) bI) 3 [] (b7 3 (aJ (aA 0) (aJ (aA 1) (aJ (aA 2) bZ)))) bK (bu (aj (aa 0) (aj (aa 2) ao)))))
 (aG (dM (cR (aN (aa 0) (adE 2)) bI) (b7 4 (aJ (aA 2) (aJ (aA 3) (aJ (aA 4) (aJ (aA 5) bZ)))))
 (aG (fX 1 (bu (aj (aa 2) (aj (aa 3) ao))))
 (qj 1 (bJ (cR (aa 4) bI) 2 [] (b7 2 (aJ (aA 0) (aJ (aA 1) bZ))) bK (bu (aj (aa 0) (aj (aa 1) ao)))))))
 (gB 1)))
def cV:GF:=cP 11 (aG (aK 2 Al)
 (aG (dM (cR (aF rY (aj (aa 1) ao)) bI) (b7 2 (aJ (aA 3) (aJ (aA 4) bZ)))
 (bN (tT (aC jP (aa 4) (eC .non)) aV)
 (eG 2 (uz "box " (aa 3)) (aa 4))
 bA))
 (aG (dM (pP (aF vo (aj (aa 1) ao))) (b7 2 (aJ (aA 5) (aJ (aA 6) bZ)))
 (aG (aK 7 (aN (aa 6) (adE 3)))
 (dM (cR (aN (aa 1) (adE 1)) bI) (b7 3 (aJ (aA 8) (aJ (aA 9) (aJ (aA 10) bZ))))
 (bN (cQ (tT (aC eqP (aN (aa 7) (adE 0)) (adF "out")) aV) (tT (aC eqP (aN (aa 7) (adE 3)) (aa 8)) aV))
 (aG (eG 2 (uz "let " (aa 5)) (aa 9))
 (eG 2 (uz "out " (aa 5)) (aa 10)))
 bA))))
 (gB 2))))
def fK:GF:=cP 4 (aG (bN (tT (aC iV (aa 1) (eB dZ (aj (aa 0) ao))) aV)
 (bV (aN (aa 0) (aa 1)))
 bA)
 (aG (aK 2 (aC bh (aC gU (aa 1) (adE 7919)) (adE 5)))
 (aG (bN (tT (aC wH (eB dZ (aj (aa 0) ao)) (adE 0)) aV)
 (aG (aK 3 (aN (aa 0) (aC eQ (aC gU (aa 1) (adE 7)) (eB dZ (aj (aa 0) ao)))))
 (aK 2 (aC eQ (aC bh (aC bh (aC gU (aa 3) (adE 48271)) (aC gU (aC gU (aa 1) (aa 1)) (adE 7919))) (aa 1)) (adE 2147483647))))
 bA)
 (bV (aC eQ (aC gU (aa 2) (aa 2)) (adE 2147483629))))))
def aU:GF:=cP 3 (aG (aK 2 (aC eQ (aF fK (aj (aN (aa 0) (adE 0)) (aj (aN (aa 0) (adE 1)) ao))) (aa 1)))
 (aG (pH (aa 0) (adE 1) (aC bh (aN (aa 0) (adE 1)) (adE 1)))
 (gB 2)))
def iJ:GF:=cP 13 (aG (aK 2 (adF "abcdefghijklmnopqrstuvwxyz"))
 (aG (aK 3 (aF aU (aj (aa 0) (aj (adE 2) ao))))
 (aG (aK 4 (aC bh (adE 1) (aF aU (aj (aa 0) (aj (adE 8) ao)))))
 (aG (aK 5 (aF aU (aj (aa 0) (aj (aa 4) ao))))
 (aG (aK 6 (aF aU (aj (aa 0) (aj (adE 26) ao))))
 (aG (aK 7 (bJ (fQ (aj (adE 8) ao)) 1 [2,0] (aA 0) bK (aN (aa 1) (aF aU (aj (aa 2) (aj (adE 26) ao))))))
 (aG (aK 8 (yc (adF "") (aj (aa 7) ao)))
 (aG (aK 9 (bH ao))
 (aG (dM (fQ (aj (aa 1) ao)) (aA 10)
 (aG (aK 11 (aC bh (aN (aa 2) (aC eQ (aC bh (aa 6) (aC sS (aa 10) (adE 8))) (adE 26))) (jo (aa 8) lO (fD (aC eQ (aC bh (aa 6) (aa 10)) (adE 8))))))
 (aG (bN (tT (aC eqP (aa 3) (adE 0)) aV)
 (aG (aK 12 (aN (aa 2) (aC eQ (aC bh (aa 6) (aC gU (adE 5) (aa 10))) (adE 26))))
 (aK 11 (aC bh (aC bh (jo (aa 8) lO (fD (aa 5))) (aa 12)) (jo (aa 8) (fD (aC bh (aa 5) (adE 1))) (fD (aa 4))))))
 bA)
 (aG (bN (tT (aC eqP (aa 11) (adF "main")) aV)
 (aK 11 (adF "niam"))
 bA)
 (fX 9 (aa 11))))))
 (gB 9))))))))))
def lJ:GF:=cP 4 (aG (aK 1 (aF aU (aj (aa 0) (aj (adE 6) ao))))
 (aG (bN (tT (aC eqP (aa 1) (adE 0)) aV)
 (aG (aK 2 (aC bh (adE 1) (aF aU (aj (aa 0) (aj (adE 8) ao)))))
 (bV (bH (aj (aa 2) (aj (bJ (fQ (aj (aC ik (aa 2) (adE 1)) ao)) 1 [] (aA 0) bK (bu (aj (aa 0) (aj (aC bh (aa 0) (adE 1)) ao)))) ao)))))
 bA)
 (aG (bN (tT (aC eqP (aa 1) (adE 1)) aV)
 (bV (bH (aj (adE 4) (aj (bH (aj (bu (aj (adE 0) (aj (adE 1) ao))) (aj (bu (aj (adE 0) (aj (adE 2) ao))) (aj (bu (aj (adE 1) (aj (adE 3) ao))) (aj (bu (aj (adE 2) (aj (adE 3) ao))) ao))))) ao))))
 bA)
 (aG (bN (tT (aC eqP (aa 1) (adE 2)) aV)
 (aG (aK 3 (bH (aj (bu (aj (adE 0) (aj (adE 1) ao))) (aj (bu (aj (adE 0) (aj (adE 2) ao))) (aj (bu (aj (adE 0) (aj (adE 4) ao))) (aj (bu (aj (adE 1) (aj (adE 3) ao))) (aj (bu (aj (adE 1) (aj (adE 5) ao))) (aj (bu (aj (adE 2) (aj (adE 3) ao))) ao))))))))
 (bV (bH (aj (adE 8) (aj (aC bh (aa 3) (bH (aj (bu (aj (adE 2) (aj (adE 6) ao))) (aj (bu (aj (adE 4) (aj (adE 5) ao))) (aj (bu (aj (adE 4) (aj (adE 6) ao))) (aj (bu (aj (adE 3) (aj (adE 7) ao))) (aj (bu (aj (adE 5) (aj (adE 7) ao))) (aj (bu (aj (adE 6) (aj (adE 7) ao))) ao)))))))) ao)))))
 bA)
 (aG (bN (tT (aC eqP (aa 1) (adE 3)) aV)
 (aG (aK 2 (aC bh (adE 4) (aF aU (aj (aa 0) (aj (adE 5) ao)))))
 (aG (aK 3 (bJ (nj (aj (adE 1) (aj (aC ik (aa 2) (adE 1)) ao))) 1 [] (aA 0) bK (bu (aj (adE 0) (aj (aa 0) ao)))))
 (bV (bH (aj (aa 2) (aj (aC bh (aa 3) (bJ (nj (aj (adE 1) (aj (aC ik (aa 2) (adE 1)) ao))) 1 [2] (aA 0) bK (bu (aj (aa 0) (aj (aC ik (aa 1) (adE 1)) ao))))) ao))))))
 bA)
 (aG (bN (tT (aC eqP (aa 1) (adE 4)) aV)
 (bV (bH (aj (adE 5) (aj (bH (aj (bu (aj (adE 0) (aj (adE 1) ao))) (aj (bu (aj (adE 1) (aj (adE 2) ao))) (aj (bu (aj (adE 2) (aj (adE 4) ao))) (aj (bu (aj (adE 0) (aj (adE 3) ao))) (aj (bu (aj (adE 3) (aj (adE 4) ao))) ao)))))) ao))))
 bA)
 (bV (bH (aj (adE 6) (aj (bH (aj (bu (aj (adE 0) (aj (adE 1) ao))) (aj (bu (aj (adE 1) (aj (adE 2) ao))) (aj (bu (aj (adE 3) (aj (adE 4) ao))) (aj (bu (aj (adE 4) (aj (adE 5) ao))) (aj (bu (aj (adE 0) (aj (adE 3) ao))) (aj (bu (aj (adE 1) (aj (adE 4) ao))) (aj (bu (aj (adE 2) (aj (adE 5) ao))) ao)))))))) ao))))))))))
def n6:GF:=cP 7 (aG (nJ (aF lJ (aj (aa 0) ao)) (b7 2 (aJ (aA 1) (aJ (aA 2) bZ))))
 (aG (aK 3 (aF iJ (aj (aa 0) (aj (aa 1) ao))))
 (aG (aK 4 (bJ (cR (aa 2) bI) 2 [3] (b7 2 (aJ (aA 0) (aJ (aA 1) bZ))) bK (bu (aj (aN (aa 2) (aa 0)) (aj (aN (aa 2) (aa 1)) ao)))))
 (aG (aK 5 (aF aU (aj (aa 0) (aj (aa 1) ao))))
 (aG (aK 6 (aC bh (jo (aa 3) (fD (aa 5)) lO) (jo (aa 3) lO (fD (aa 5)))))
 (aG (bN (tT (aC eqP (aF aU (aj (aa 0) (aj (adE 2) ao))) (adE 1)) aV)
 (aG (CJ 4)
 (aG (fX 4 (bu (aj (aN (aa 3) (adE 0)) (aj (aN (aa 3) (aC ik (aa 1) (adE 1))) ao))))
 (CJ 6)))
 bA)
 (bV (bH (aj (aa 6) (aj (aa 4) ao))))))))))
def qt:GF:=cP 3 (aG (aK 1 (aF aU (aj (aa 0) (aj (adE 4) ao))))
 (aG (aK 2 (aF aU (aj (aa 0) (aj (aC Cm (adE 10) (adE 12)) ao))))
 (aG (bN (tT (aC eqP (aa 1) (adE 0)) aV)
 (bV (aC eQ (aa 2) (adE 21)))
 bA)
 (aG (bN (tT (aC eqP (aa 1) (adE 1)) aV)
 (bV (aC ik (aC ik (aC Cm (adE 10) (adE 12)) (adE 1)) (aC eQ (aa 2) (adE 5))))
 bA)
 (aG (bN (tT (aC eqP (aa 1) (adE 2)) aV)
 (bV (aC ik (aC sS (aC Cm (adE 10) (adE 12)) (aC bh (adE 1) (aC eQ (aa 2) (adE 9999)))) (adE 1)))
 bA)
 (bV (aC eQ (aC gU (aa 2) (adE 999983)) (aC Cm (adE 10) (adE 12)))))))))
def bW:Nat->GF
 | 0=>λ_ _=>none
 | n+1=>cP 7 (aG (aK 3 (aF aU (aj (aa 0) (aj (adE 9) ao))))
  (aG (bN (mj (tT (aC iV (aa 1) (adE 2)) aV) (tT (aC iV (aa 3) (adE 2)) aV))
  (aG (bN (mj (tT (aC eqP (aC eQ (aa 3) (adE 2)) (adE 0)) aV) (tT (aC eqP (aN (aa 2) (adE 0)) (bH ao)) aV))
  (bV (bu (aj (adF "num") (aj (aF qt (aj (aa 0) ao)) ao))))
  bA)
  (bV (bu (aj (adF "box") (aj (aN (aN (aa 2) (adE 0)) (aF aU (aj (aa 0) (aj (eB dZ (aj (aN (aa 2) (adE 0)) ao)) ao)))) ao)))))
  bA)
  (aG (aK 4 (aF (bW n) (aj (aa 0) (aj (aC ik (aa 1) (adE 1)) (aj (aa 2) ao)))))
  (aG (bN (cQ (tT (aC iV (aa 3) (adE 4)) aV) (tT (aC mC (aN (aa 2) (adE 1)) (bH ao)) aV))
  (bV (bu (aj (adF "@") (aj (aN (aN (aa 2) (adE 1)) (aF aU (aj (aa 0) (aj (eB dZ (aj (aN (aa 2) (adE 1)) ao)) ao)))) (aj (aa 4) ao)))))
  bA)
  (aG (aK 5 (aF (bW n) (aj (aa 0) (aj (eB min2 (aj (aC ik (aa 1) (adE 1)) (aj (adE 2) ao))) (aj (aa 2) ao)))))
  (aG (aK 6 (aN (adF "+-*<=") (aF aU (aj (aa 0) (aj (adE 5) ao)))))
  (aG (bN (tT (aC eqP (aC eQ (aa 3) (adE 2)) (adE 0)) aV)
  (bV (bu (aj (aa 6) (aj (aa 5) (aj (aa 4) ao)))))
  bA)
  (bV (bu (aj (aa 6) (aj (aa 4) (aj (aa 5) ao))))))))))))
def mF:GF:=cP 2 (bV (aF (bW 40) (aj (aa 0) (aj (aC bh (aC bh (adE 1) (aF aU (aj (aa 0) (aj (adE 3) ao)))) (aC gU (adE 3) (aC sS (aF aU (aj (aa 0) (aj (adE 9) ao))) (adE 8)))) (aj (aa 1) ao)))))
mutual
def cL:Nat->GF
 | 0=>λ_ _=>none
 | n+1=>cP 6 (aG (aK 4 (bH ao))
  (aG (dM (fQ (aj (aF aU (aj (aa 0) (aj (aa 3) ao))) ao)) (aA 5)
  (bN (tT (aC iV (aN (aa 0) (adE 2)) (aN (aa 0) (adE 3))) aV)
  (fX 4 (aF (gJ n) (aj (aa 0) (aj (aa 1) (aj (aa 2) ao)))))
  bA))
  (gB 4)))
def gJ:Nat->GF
 | 0=>λ_ _=>none
 | n+1=>cP 9 (aG (pH (aa 0) (adE 2) (aC bh (aN (aa 0) (adE 2)) (adE 1)))
  (aG (aK 3 (aF aU (aj (aa 0) (aj (adE 12) ao))))
  (aG (aK 4 (aF mF (aj (aa 0) (aj (aa 2) ao))))
  (aG (bN (cQ (tT (aC iV (aa 1) (adE 4)) aV) (tT (aC iV (aa 3) (adE 3)) aV))
  (aG (aK 5 (aF (cL n) (aj (aa 0) (aj (aC bh (aa 1) (adE 1)) (aj (aa 2) (aj (adE 4) ao))))))
  (bV (bu (aj (adF "if") (aj (aa 4) (aj (aa 5) (aj (aF (cL n) (aj (aa 0) (aj (aC bh (aa 1) (adE 1)) (aj (aa 2) (aj (adE 4) ao))))) ao)))))))
  bA)
  (aG (bN (cQ (tT (aC iV (aa 1) (adE 4)) aV) (tT (aC iV (aa 3) (adE 5)) aV))
  (bV (bu (aj (adF "while") (aj (aa 4) (aj (aF (cL n) (aj (aa 0) (aj (aC bh (aa 1) (adE 1)) (aj (aa 2) (aj (adE 4) ao))))) ao)))))
  bA)
  (aG (bN (cQ (tT (aC iV (aa 3) (adE 7)) aV) (tT (aC mC (aN (aa 2) (adE 1)) (bH ao)) aV))
  (bV (bu (aj (adF "put") (aj (aN (aN (aa 2) (adE 1)) (aF aU (aj (aa 0) (aj (eB dZ (aj (aN (aa 2) (adE 1)) ao)) ao)))) (aj (aF (bW 40) (aj (aa 0) (aj (adE 2) (aj (aa 2) ao)))) (aj (aa 4) ao))))))
  bA)
  (aG (aK 6 (aN (aN (aa 2) (adE 0)) (aF aU (aj (aa 0) (aj (eB dZ (aj (aN (aa 2) (adE 0)) ao)) ao)))))
  (aG (bN (cQ (tT (aC eqP (aa 3) (adE 7)) aV) (tT (aC mC (aN (aa 2) (adE 2)) (bH ao)) aV))
  (bV (bu (aj (adF "out") (aj (aa 6) (aj (aa 4) (aj (aN (aN (aa 2) (adE 2)) (aF aU (aj (aa 0) (aj (eB dZ (aj (aN (aa 2) (adE 2)) ao)) ao)))) ao))))))
  bA)
  (aG (bN (cQ (tT (aC wH (aa 3) (adE 8)) aV) (tT (aC mC (aN (aa 2) (adE 3)) (bH ao)) aV))
  (aG (nJ (aN (aN (aa 2) (adE 3)) (aF aU (aj (aa 0) (aj (eB dZ (aj (aN (aa 2) (adE 3)) ao)) ao)))) (b7 2 (aJ (aA 7) (aJ (aA 8) bZ))))
  (bV (bu (aj (adF "call") (aj (aa 6) (aj (aa 7) (aj (bJ (fQ (aj (aa 8) ao)) 1 [0,2] (aA 0) bK (aF (bW 40) (aj (aa 1) (aj (adE 2) (aj (aa 2) ao))))) ao)))))))
  bA)
  (bV (bu (aj (adF "set") (aj (aa 6) (aj (aa 4) ao))))))))))))))
end
def gh:GF:=cP 2 (aG (bN (tT (aC iV (aF aU (aj (aa 0) (aj (adE 10) ao))) (aN (aa 0) (adE 4))) aV)
 (bV (eC .non))
 bA)
 (bV (aN (aa 1) (aF aU (aj (aa 0) (aj (eB dZ (aj (aa 1) ao)) ao))))))
def qu:GF:=cP 2 (aG (aK 1 (aF aU (aj (aa 0) (aj (adE 6) ao))))
 (aG (bN (tT (aC eqP (aa 1) (adE 0)) aV)
 (bV (bJ (fQ (aj (adE 6) ao)) 1 [0] (aA 0) bK (aF aU (aj (aa 1) (aj (adE 2) ao)))))
 bA)
 (aG (bN (tT (aC eqP (aa 1) (adE 1)) aV)
 (bV (bH (aj (adE 4) (aj (aF aU (aj (aa 0) (aj (adE 4) ao))) ao))))
 bA)
 (bV (bJ (fQ (aj (aF aU (aj (aa 0) (aj (adE 4) ao))) ao)) 1 [0] (aA 0) bK (aF aU (aj (aa 1) (aj (adE 3) ao))))))))
def n8:GF:=cP 5 (aG (aK 3 (bH ao))
 (aG (dM (cR (aF qu (aj (aa 0) ao)) bI) (aA 4)
 (aG (fX 3 (bu (aj (aN (aa 1) (aa 2)) (aj (jo (aa 1) (fD (aC bh (aa 2) (adE 1))) (fD (aC bh (aC bh (aa 2) (adE 1)) (aa 4)))) ao))))
 (aK 2 (aC bh (aC bh (aa 2) (adE 1)) (aa 4)))))
 (gB 3)))
def lX:GF:=cP 17 (aG (aK 2 (aF iJ (aj (aa 0) (aj (adE 24) ao))))
 (aG (aK 3 (uY (aj (bu (aj (aN (aa 2) (adE 0)) (aj (adE 0) (aj (aF gh (aj (aa 0) (aj (aa 1) ao))) ao)))) ao)))
 (aG (dM (fQ (aj (aF aU (aj (aa 0) (aj (aN (bH (aj (adE 3) (aj (adE 3) (aj (adE 3) (aj (adE 12) ao))))) (aF aU (aj (aa 0) (aj (adE 4) ao)))) ao))) ao)) (aA 4)
 (yf (aa 3) (bu (aj (aN (aa 2) (aC bh (adE 1) (aa 4))) (aj (eB max2 (aj (adE 0) (aj (aC ik (aF aU (aj (aa 0) (aj (adE 13) ao))) (adE 4)) ao))) (aj (aF gh (aj (aa 0) (aj (aa 1) ao))) ao))))))
 (aG (aK 5 (bH ao))
 (aG (dM (fQ (aj (aF aU (aj (aa 0) (aj (aN (bH (aj (adE 2) (aj (adE 3) (aj (adE 7) ao)))) (aF aU (aj (aa 0) (aj (adE 3) ao)))) ao))) ao)) (aA 4)
 (aG (aK 6 (aN (aa 1) (aF aU (aj (aa 0) (aj (eB dZ (aj (aa 1) ao)) ao)))))
 (fX 5 (bu (aj (aN (aa 2) (aC eQ (aC gU (adE 5) (aa 4)) (adE 24))) (aj (aa 6) (aj (aN (aa 1) (aF aU (aj (aa 0) (aj (eB dZ (aj (aa 1) ao)) ao)))) ao)))))))
 (aG (aK 7 (aF n8 (aj (aa 0) (aj (aa 2) (aj (nP (aa 3)) ao)))))
 (aG (aK 8 (j5 (bJ (cR (aa 3) bI) 1 [] (aA 0) (tT (aC eqP (aN (aa 0) (adE 1)) (adE 0)) aV) (aN (aa 0) (adE 0)))))
 (aG (aK 9 (j5 (bJ (cR (aa 3) bI) 1 [] (aA 0) (tT (aC wH (aN (aa 0) (adE 1)) (adE 0)) aV) (aN (aa 0) (adE 0)))))
 (aG (aK 10 (bJ (cR (aa 5) bI) 1 [] (aA 0) bK (aN (aa 0) (adE 0))))
 (aG (aK 11 (bJ (cR (aa 7) bI) 2 [] (b7 2 (aJ (aA 0) (aJ (aA 1) bZ))) bK (bu (aj (aa 0) (aj (eB dZ (aj (aa 1) ao)) ao)))))
 (aG (aK 12 (bH ao))
 (aG (dM (cR (aa 7) bI) (b7 2 (aJ (aA 13) (aJ (aA 14) bZ)))
 (aG (aK 15 (aF (cL 40) (aj (aa 0) (aj (adE 0) (aj (bH (aj (aC bh (aC bh (aa 8) (bH (aj (aa 13) ao))) (aa 14)) (aj (aa 9) (aj (aa 10) (aj (aa 11) ao))))) (aj (adE 5) ao))))))
 (aG (aK 16 (bJ (cR (aa 14) bI) 1 [0,1] (aA 0) bK (bu (aj (aa 0) (aj (aF gh (aj (aa 1) (aj (aa 2) ao))) ao)))))
 (fX 12 (bu (aj (aa 13) (aj (aF gh (aj (aa 0) (aj (aa 1) ao))) (aj (aa 16) (aj (aa 15) ao)))))))))
 (aG (aK 15 (Aj (aF (cL 40) (aj (aa 0) (aj (adE 0) (aj (bH (aj (aa 8) (aj (aa 9) (aj (aa 10) (aj (aa 11) ao))))) (aj (aN (bH (aj (adE 5) (aj (adE 9) (aj (adE 41) ao)))) (aF aU (aj (aa 0) (aj (adE 3) ao)))) ao)))))))
 (bV (bu (aj (aa 3) (aj (aa 5) (aj (aa 12) (aj (aa 15) ao)))))))))))))))))))
def gP:GF:=cP 5 (aG (aK 1 (aN (bH (aj (adE 4) (aj (adE 5) (aj (adE 6) (aj (adE 8) (aj (adE 12) (aj (adE 6) ao))))))) (aC eQ (aF fK (aj (aa 0) (aj (adE 0) ao))) (adE 6))))
 (aG (aK 2 (uY (aj (aa 0) (aj (adE 2) (aj (adE 0) (aj (aa 1) (aj (aN (bH (aj (adE 3) (aj (adE 6) (aj (adE 9) ao)))) (aC eQ (aF fK (aj (aa 0) (aj (adE 1) ao))) (adE 3))) ao)))))))
 (aG (nJ (aF n6 (aj (aa 2) ao)) (b7 2 (aJ (aA 3) (aJ (aA 4) bZ))))
 (bV (bH (aj (aa 3) (aj (aa 4) (aj (aF lX (aj (aa 2) (aj (aa 3) ao))) ao))))))))
def ud:GF:=cP 6 (aG (aK 1 (bH ao))
 (aG (aK 2 (bH ao))
 (aG (dM (cR (aC bh (bH (aj (aN (aa 0) (adE 3)) ao)) (bJ (qF (aN (aa 0) (adE 2))) 1 [] (aA 0) bK (aN (aa 0) (adE 3)))) bI) (aA 3)
 (aK 2 (aC bh (aa 2) (bJ (qF (aa 3)) 1 [] (aA 0) bK (aa 0)))))
 (aG (wF 400 (lU (tT (aC mC (aa 2) (bH ao)) aV))
 (aG (aK 4 (Cv 2))
 (aG (fX 1 (aa 4))
 (aG (aK 5 (bH ao))
 (aG (bN (tT (aC ju (aN (aa 4) (adE 0)) (bu (aj (adF "if") (aj (adF "while") ao)))) aV)
 (aK 5 (eB list1 (aj (aN (aa 4) (adE 2)) ao)))
 bA)
 (aG (bN (tT (aC eqP (aN (aa 4) (adE 0)) (adF "if")) aV)
 (aK 5 (aC bh (aa 5) (aN (aa 4) (adE 3))))
 bA)
 (aK 2 (aC bh (aa 2) (bJ (qF (aa 5)) 1 [] (aA 0) bK (aa 0))))))))))
 (gB 1)))))
def gn:GF:=cP 14 (aG (aK 1 Al)
 (aG (dM (cR (aN (aa 0) (adE 0)) bI) (b7 3 (aJ (aA 2) (aJ (aA 3) (aJ (aA 4) bZ))))
 (bN (tT (aC jP (aa 4) (eC .non)) aV)
 (eG 1 (aC bh (adF "box ") (aa 2)) (aa 4))
 bA))
 (aG (dM (cR (aN (aa 0) (adE 2)) bI) (b7 4 (aJ (aA 2) (aJ (aA 4) (aJ (aA 5) (aJ (aA 6) bZ)))))
 (aG (bN (tT (aC jP (aa 4) (eC .non)) aV)
 (eG 1 (aC bh (adF "box ") (aa 2)) (aa 4))
 bA)
 (dM (cR (aa 5) bI) (b7 2 (aJ (aA 7) (aJ (aA 8) bZ)))
 (bN (tT (aC jP (aa 8) (eC .non)) aV)
 (eG 1 (aC bh (adF "box ") (aa 7)) (aa 8))
 bA))))
 (aG (dM (pP (aF ud (aj (aa 0) ao))) (b7 2 (aJ (aA 9) (aJ (aA 10) bZ)))
 (dM (cR (aN (aa 0) (adE 1)) bI) (b7 3 (aJ (aA 11) (aJ (aA 12) (aJ (aA 13) bZ))))
 (bN (cQ (tT (aC eqP (aN (aa 10) (adE 0)) (adF "out")) aV) (tT (aC eqP (aN (aa 10) (adE 3)) (aa 11)) aV))
 (aG (eG 1 (aC bh (adF "let ") (eB str1 (aj (aa 9) ao))) (aa 12))
 (eG 1 (aC bh (adF "out ") (eB str1 (aj (aa 9) ao))) (aa 13)))
 bA)))
 (gB 1)))))
def dJ:GF:=cP 3 (aG (bN (mj (gH (tT (Rx (aa 0)) fB)) (tT (aC J3 (Av (aa 0)) (Av (aa 1))) aV))
 (bV (eC (.bl false)))
 bA)
 (aG (dM (J1 (aa 1)) (aA 2)
 (bN (mj (gH (tT (SX "str" (yh (aa 0) (aa 2))) fB)) (tT (aC J3 (iH (aa 0) (aa 2)) (iH (aa 1) (aa 2))) aV))
 (bV (eC (.bl false)))
 bA))
 (bV (eC (.bl true)))))
def ie:GF:=cP 3 (aG (zZ (aF pB (aj (aa 1) (aj (aa 2) ao))))
 (aG (zZ (aF pC (aj (aa 1) (aj (aa 2) ao))))
 (aG (jA "Order" "names" (aa 0) (eB list1 (aj (aa 1) ao)))
 (aG (jA "Order" "above" (aa 0) (jD (aF fJ (aj (aa 1) (aj (aa 2) ao)))))
 (aG (jA "Order" "joins" (aa 0) (aF jV (aj (rM "Order" "above" (aa 0)) ao)))
 (aG (jA "Order" "meets" (aa 0) (aF jV (aj (jD (aF eZ (aj (aa 1) (aj (aa 2) ao)))) ao)))
 (aG (jA "Order" "lowest" (aa 0) (iH (bJ (cR (aa 1) bI) 1 [0,1] (aA 0) (tT (aC Hi (nP (iH (rM "Order" "above" (aa 1)) (aa 0))) (nP (aa 2))) aV) (aa 0)) (adE 0)))
 (jA "Order" "highest" (aa 0) (iH (bJ (cR (aa 1) bI) 1 [0] (aA 0) (tT (aC Hi (nP (iH (rM "Order" "above" (aa 1)) (aa 0))) (adE 1)) aV) (aa 0)) (adE 0))))))))))
def FP:GF:=cP 8 (aG (nJ (aF gP (aj (aa 0) ao)) (b7 3 (aJ (aA 1) (aJ (aA 2) (aJ (aA 3) bZ)))))
 (aG (aK 4 (yg "Order" ie (aj (aa 1) (aj (aa 2) ao))))
 (aG (aK 5 (jD (dN gn (aj (aa 3) ao))))
 (aG (aK 6 (dN cV (aj (aa 4) (aj (aa 3) ao))))
 (aG (bN (mj (lU (gH (tT (aF dJ (aj (aa 6) (aj (aa 5) ao))) fB))) (wN (tT (aC mC (aa 3) (uA (aN (aF gP (aj (aa 0) ao)) (adE 2)))) aV)))
 (bV (eC (.bl false)))
 bA)
 (aG (aK 7 (dN cV (aj (aa 4) (aj (aa 3) ao))))
 (aG (FN 6)
 (aG (eG 6 (j5 (aC bh (adF "box ") (aN (aN (aN (aa 3) (adE 0)) (adE 0)) (adE 0)))) (adF "zz"))
 (aG (bN (gH (tT (aF dJ (aj (dN cV (aj (aa 4) (aj (aa 3) ao))) (aj (aa 5) ao))) fB))
 (bV (eC (.bl false)))
 bA)
 (aG (pH (aN (aa 3) (adE 0)) (adE 0) (j5 (bu (aj (aN (aN (aN (aa 3) (adE 0)) (adE 0)) (adE 0)) (aj (adE 0) (aj (aN (aa 1) (Ra (adE 1))) ao))))))
 (aG (bN (gH (tT (aF dJ (aj (dN cV (aj (aa 4) (aj (aa 3) ao))) (aj (jD (dN gn (aj (aa 3) ao))) ao))) fB))
 (bV (eC (.bl false)))
 bA)
 (aG (Ar (aN (aa 3) (adE 3)))
 (bV (wC (aF dJ (aj (dN cV (aj (aa 4) (aj (aa 3) ao))) (aj (jD (dN gn (aj (aa 3) ao))) ao))) (aF dJ (aj (aa 7) (aj (aa 5) ao)))))))))))))))))
section
variable {P:Program} {w:World} {K:FG} {mg:Str->Option Value} {base:Heap}
theorem OJ {X:Cx} {pos:Pos} (h:∃t,X.mg "LETTERS" = some (.str "abcdefghijklmnopqrstuvwxyz" t)) (hg:Gl X "LETTERS"):PE X (.Name "LETTERS" pos) (tP X.K (eC jM)):=by obtain⟨t,h⟩:=h;exact qc (TQ (v:=.str "abcdefghijklmnopqrstuvwxyz") hg h ⟨_,rfl⟩) j9
abbrev BL:List Str:=["ValueError", "all", "dict", "enumerate", "isinstance", "len", "list", "max", "min", "range", "reversed", "str"]
section
variable {mg:Str->Option Value} (B:JT mg BL)
include B
theorem Xl:mg "ValueError" = none:=B _ (.head _)
theorem S9:mg "all" = none:=B _ (mI 1 rfl)
theorem Xm:mg "dict" = none:=B _ (mI 2 rfl)
theorem ue:mg "enumerate" = none:=B _ (mI 3 rfl)
theorem wX:mg "isinstance" = none:=B _ (mI 4 rfl)
theorem fG:mg "len" = none:=B _ (mI 5 rfl)
theorem Aw:mg "list" = none:=B _ (mI 6 rfl)
theorem Yz:mg "max" = none:=B _ (mI 7 rfl)
theorem YB:mg "min" = none:=B _ (mI 8 rfl)
theorem jG:mg "range" = none:=B _ (mI 9 rfl)
theorem vp:mg "reversed" = none:=B _ (mI 10 rfl)
theorem Mg:mg "str" = none:=B _ (mI 11 rfl)
end
section
variable (P:Program) (w:World) (K:FG) (mg:Str->Option Value) (base:Heap) (c:Addr)
abbrev Ax:=bL P w K mg base "is_name" 1 ["text"] (cH K 1 pY)
abbrev my:=bL P w K mg base "straight_above" 1 ["some", "pairs", "name"] (cH K 3 cN)
abbrev uE:=bL P w K mg base "ring_within" 2 ["some", "pairs"] (cH K 2 qp)
abbrev Ay:=bL P w K mg base "ring_of" 3 ["names", "pairs"] (cH K 2 pZ)
abbrev Az:=bL P w K mg base "climbed" 1 ["name", "pairs"] (cH K 2 sZ)
abbrev oh:=bL P w K mg base "all_above" 2 ["names", "pairs"] (cH K 2 fJ)
abbrev pD:=bL P w K mg base "all_beneath" 3 ["names", "pairs"] (cH K 2 eZ)
abbrev Hr:=bL P w K mg base "bound" 1 ["reach", "one", "other"] (cH K 3 uD)
abbrev wY:=bL P w K mg base "bounds" 2 ["reach"] (cH K 1 jV)
abbrev Ba:=bL P w K mg base "unbound" 3 ["reach"] (cH K 1 iy)
abbrev Bb:=bL P w K mg base "lack_of" 4 ["names", "pairs"] (cH K 2 tu)
abbrev tB:=bL P w K mg base "refuse_names" 2 ["names", "pairs"] (cH K 2 pB)
abbrev tD:=bL P w K mg base "refuse_order" 5 ["names", "pairs"] (cH K 2 pC)
abbrev rZ:=bL P w K mg base "blocks_of" 1 ["row"] (cH K 1 jt)
abbrev Ed:=bL P w K mg base "copied" 40 ["row"] (cH K 1 (jW 40))
abbrev Vq:=bL P w K mg base "all_copied" 40 ["rows"] (cH K 1 (eX 40))
abbrev Js:=bL P w K mg base "laid_out" 80 ["where", "above", "block", "rows", "start"] (cH K 5 (fO 40))
abbrev yH:=bL P w K mg base "numbered" 81 ["program"] (cH K 1 vo)
abbrev vL:=bL P w K mg base "head_pairs" 1 ["program"] (cH K 1 rY)
abbrev vM:=bL P w K mg base "told_ranks" 82 ["order", "program"] (cH K 2 cV)
abbrev sr:=bL P w K mg base "_law_cell" 1 ["_law_script", "_law_k"] (cH K 2 fK)
abbrev du:=bL P w K mg base "_law_next" 2 ["_law_pen", "_law_most"] (cH K 2 aU)
abbrev qx:=bL P w K mg base "_law_names" 3 ["_law_pen", "_law_total"] (cH K 2 iJ)
abbrev vN:=bL P w K mg base "_law_shape" 3 ["_law_pen"] (cH K 1 lJ)
abbrev vO:=bL P w K mg base "_law_ranks" 4 ["_law_pen"] (cH K 1 n6)
abbrev pF:=bL P w K mg base "_law_number" 3 ["_law_pen"] (cH K 1 qt)
abbrev lK:=bL P w K mg base "_law_expression" 43 ["_law_pen", "_law_deep", "_law_known"] (cH K 3 (bW 40))
abbrev su:=bL P w K mg base "_law_part" 44 ["_law_pen", "_law_known"] (cH K 2 mF)
abbrev Hs:=bL P w K mg base "_law_rows" 84 ["_law_pen", "_law_deep", "_law_known", "_law_most"] (cH K 4 (cL 40))
abbrev X4:=bL P w K mg base "_law_row" 84 ["_law_pen", "_law_deep", "_law_known"] (cH K 3 (gJ 40))
abbrev wZ:=bL P w K mg base "_law_rank" 3 ["_law_pen", "_law_ranks_here"] (cH K 2 gh)
abbrev uF:=bL P w K mg base "_law_counts" 3 ["_law_pen"] (cH K 1 qu)
abbrev vP:=bL P w K mg base "_law_heads" 4 ["_law_pen", "_law_names_here", "_law_at"] (cH K 3 n8)
abbrev tE:=bL P w K mg base "_law_program" 85 ["_law_pen", "_law_ranks_here"] (cH K 2 lX)
abbrev vQ:=bL P w K mg base "_law_drawn" 86 ["_law_script"] (cH K 1 gP)
abbrev w5:=bL P w K mg base "_law_flat" 1 ["_law_program_here"] (cH K 1 ud)
abbrev yI:=bL P w K mg base "_law_due" 2 ["_law_program_here"] (cH K 1 gn)
abbrev w6:=bL P w K mg base "_law_same" 1 ["_law_got", "_law_due_here"] (cH K 2 dJ)
abbrev xf:=Rn P w K mg base c 6 ["self", "names", "pairs"] (cH K 3 ie)
end
variable (B:JT mg BL) (ab2:∃t,mg "LETTERS" = some (.str "abcdefghijklmnopqrstuvwxyz" t)) {acy:Addr} (ab3:CG K mg "Order" acy) (ab4:∀f∈(["names", "above", "joins", "meets", "lowest", "highest"]:List Str),jZ K acy f)
include B ab2 ab3 ab4
theorem Mh (F:cj K mg "is_name" sX ["text"]):Ax P w K mg base:=
 F.ok (k:=0) Mf λf cdv A outer s H E hr=>⟨_,λ_ _=>rfl,(aH (bC (WQ (W5 Sd Sd N8 N8 aP (qL (fG B) (qw 0)) aP) (WP (wI (u0 rfl) Oe (gD (u0 rfl) (by rfl) (S9 B) (by kernel_rfl) (ak (jz ["sign"] [] [] rfl (jw (aL sX)) (cI (qw 0)) (λ_ _ _ _=>(bQ 0 (show (["sign"]:List Str).Nodup from by decide +kernel))) aO (λ_ _ _ _=>dF) (λ_ _ _ _=>(WM (uw hr) qM (qw 0) (OJ ab2 rfl) (by with_unfolding_all rfl)))) au)))))))⟩
theorem yz (F:cj K mg "straight_above" jT ["some", "pairs", "name"]):my P w K mg base:=
 F.ok (k:=0) yx λf cdv A outer s H E hr=>⟨_,λ_ _=>rfl,(aH (bC (jz ["low", "high"] ["name", "some"] [2,0] rfl (jw (aL jT)) (cI (qw 1)) (λ_ _ _ _=>(d9 rfl (aW (bQ 0 (show (["low", "high", "name", "some"]:List Str).Nodup from by decide +kernel)) (aW (bQ 1 (show (["low", "high", "name", "some"]:List Str).Nodup from by decide +kernel)) dm)))) (eE (bf aO (bf aO dY))) (λ_ _ _ _=>(lB (PW.pt (lu (bB (dh hr) di (qw 0) (qw 2) (bx _)) (lu (bB (pN hr) pO (qw 1) (qw 2) (bx _)) (kh (bB (uw hr) qM (qw 1) (qw 3) (by with_unfolding_all rfl)))))))) (λ_ _ _ _=>(qw 1)))))⟩
theorem CP (F:cj K mg "ring_within" ql ["some", "pairs"]) (ab6:my P w K mg base):uE P w K mg base:=
 F.ok (k:=1) lW λf cdv A outer s H E hr=>⟨_,λ_ _=>rfl,(az (cG 2 lW.nd (cX (ak (qI (qw 0)) au)))
  (az (cG 3 lW.nd (qI (aR ab6 (hr.mono (by omega)) rfl (ak (qw 0) (ak (qw 1) (ak (qI (qw 0)) au))) (aq (aq (aq aM))))))
  (az (uQ 20 aax (Ag (bB (sO hr) xW (qw 3) (qw 2) (by with_unfolding_all rfl)))
  (az (rN (pv 2) (qw 3))
  (aH (cG 3 lW.nd (qI (aR ab6 (hr.mono (by omega)) rfl (ak (qw 0) (ak (qw 1) (ak (qw 3) au))) (aq (aq (aq aM)))))))))
  (aH (bC (Af (oY (qw 2) (lQ (Xc (xT aa2 PySem.F.slot_list_index PySem.F.type_list_index (Rj hr) (qw 2) (ak (qw 3) au)))) ux)))))))⟩
theorem Mi (F:cj K mg "ring_of" pW ["names", "pairs"]) (acw:uE P w K mg base) (ab6:my P w K mg base):Ay P w K mg base:=
 F.ok (k:=2) nW λf cdv A outer s H E hr=>⟨_,λ_ _=>rfl,(az (rm (i:=2) nW.nd rfl (Or.inr rfl) (PE.imp (ni nH (by rfl) (Aw B) (by kernel_rfl) (ak (qw 0) au)) (rD xZ)))
  (az (kj (i:=3) ["name"] ["rest", "pairs"] [2,1] nW.nd rfl rfl rfl (jw (aL pW)) (cI (qw 2)) (λ_ _ _ _=>(bQ 0 (show (["name", "rest", "pairs"]:List Str).Nodup from by decide +kernel))) aO (λ_ _ _ _=>(lB (j0 (aR ab6 (hr.mono (by omega)) rfl (ak (qw 1) (ak (qw 2) (ak (qw 0) au))) (aq (aq (aq aM)))) (λ_=>rfl)))) (λ_ _ _ _=>(qw 0)))
  (az (uQ 20 aax (bB mK j4 (qL (fG B) (qw 3)) (qL (fG B) (qw 2)) (bx _))
  (az (rm (i:=2) nW.nd rfl (Or.inr rfl) (qw 3))
  (aH (kj (i:=3) ["name"] ["rest", "pairs"] [2,1] nW.nd rfl rfl rfl (jw (aL pW)) (cI (qw 2)) (λ_ _ _ _=>(bQ 0 (show (["name", "rest", "pairs"]:List Str).Nodup from by decide +kernel))) aO (λ_ _ _ _=>(lB (j0 (aR ab6 (hr.mono (by omega)) rfl (ak (qw 1) (ak (qw 2) (ak (qw 0) au))) (aq (aq (aq aM)))) (λ_=>rfl)))) (λ_ _ _ _=>(qw 0))))))
  (az (bT (pL (j0 (qw 2) (λ_=>rfl)))
  (aH (bC qy))
  bw)
  (aH (bC (aR acw (hr.mono (by omega)) rfl (ak (qw 2) (ak (qw 1) au)) (aq (aq aM)))))))))⟩
theorem Mj (F:cj K mg "climbed" wO ["name", "pairs"]):Az P w K mg base:=
 F.ok (k:=0) jU λf cdv A outer s H E hr=>⟨_,λ_ _=>rfl,(az (cG 2 jU.nd (cX (ak (qw 0) au)))
  (az (cG 3 jU.nd (qc qC dX))
  (az (uQ 70 aax (j0 (qw 3) (λ_=>rfl))
  (az (cG 3 jU.nd (qc qC dX))
  (aH (eO aax rfl (cI (qw 1)) (d9 rfl (aW (bQ 4 jU.nd) (aW (bQ 5 jU.nd) dm))) (eE (bf aO (bf aO dY)))
  (aH (bT (Ag (PW.pt (lu (bB (uw hr) qM (qw 4) (qw 2) (by with_unfolding_all rfl)) (kh (bB (sO hr) xW (qw 5) (qw 2) (by with_unfolding_all rfl))))))
  (az (rN (pv 2) (qw 5))
  (aH (cG 3 jU.nd (qc qC dX))))
  bw))))))
  (aH (gq (pv 2))))))⟩
theorem Ht (F:cj K mg "all_above" tV ["names", "pairs"]) (acK:Az P w K mg base):oh P w K mg base:=
 F.ok (k:=1) rT λf cdv A outer s H E hr=>⟨_,λ_ _=>rfl,(az (cG 2 rT.nd Hg)
  (az (eO aax rfl (cI (qw 0)) (bQ 3 rT.nd) aO
  (aH (kE (iB (aR acK (hr.mono (by omega)) rfl (ak (qw 3) (ak (qw 1) au)) (aq (aq aM))) (je (pv 2) (qw 3) (set_dict (gG hr)))))))
  (aH (gq (pv 2)))))⟩
theorem CQ (F:cj K mg "all_beneath" mO ["names", "pairs"]) (ab7:oh P w K mg base):pD P w K mg base:=
 F.ok (k:=2) CK λf cdv A outer s H E hr=>⟨_,λ_ _=>rfl,(aH (bC (aR ab7 (hr.mono (by omega)) rfl (ak (qw 0) (ak (jz ["low", "high"] [] [] rfl (jw (aL mO)) (cI (qw 1)) (λ_ _ _ _=>(d9 rfl (aW (bQ 0 (show (["low", "high"]:List Str).Nodup from by decide +kernel)) (aW (bQ 1 (show (["low", "high"]:List Str).Nodup from by decide +kernel)) dm)))) (eE (bf aO (bf aO dY))) (λ_ _ _ _=>dF) (λ_ _ _ _=>(b8 (ak (qw 1) (ak (qw 0) au))))) au)) (aq (aq aM)))))⟩
theorem Ry (F:cj K mg "bound" uB ["reach", "one", "other"]):Hr P w K mg base:=
 F.ok (k:=0) zy λf cdv A outer s H E hr=>⟨_,λ_ _=>rfl,(az (kj (i:=3) ["rank"] ["reach", "other"] [0,2] zy.nd rfl rfl rfl (jw (aL uB)) (cI (Ak (gG hr) (qw 0) (qw 1) (λ_ _=>rfl))) (λ_ _ _ _=>(bQ 0 (show (["rank", "reach", "other"]:List Str).Nodup from by decide +kernel))) aO (λ_ _ _ _=>(lB (bB (uw hr) qM (qw 0) (Ak (gG hr) (qw 1) (qw 2) (λ_ _=>rfl)) (by with_unfolding_all rfl)))) (λ_ _ _ _=>(qw 0)))
  (az (eO aax rfl (cI (qw 3)) (Jz (i:=4) zy.nd rfl (Or.inr rfl)) aO
  (aH (bT (j0 (wI (u0 rfl) Oe (gD (u0 rfl) (by rfl) (S9 B) (by kernel_rfl) (ak (jz ["beyond"] ["reach", "rank"] [0,4] rfl (jw (aL uB)) (cI (qw 3)) (λ_ _ _ _=>(bQ 0 (show (["beyond", "reach", "rank"]:List Str).Nodup from by decide +kernel))) aO (λ_ _ _ _=>dF) (λ_ _ _ _=>(WM (uw hr) qM (qw 0) (Ak (gG hr) (qw 1) (qw 2) (λ_ _=>rfl)) (by with_unfolding_all rfl)))) au))) (λ_=>rfl))
  (aH (gq (pv 4)))
  bw)))
  (aH (bC qy))))⟩
theorem O1 (F:cj K mg "bounds" zx ["reach"]) (acU:Hr P w K mg base):wY P w K mg base:=
 F.ok (k:=1) sY λf cdv A outer s H E hr=>⟨_,λ_ _=>rfl,(az (cG 1 sY.nd Xf)
  (az (Cy aax rfl (qw 0) (bQ 2 sY.nd) aO
  (aH (Cy aax rfl (qw 0) (bQ 3 sY.nd) aO
  (aH (UT (iB (aR acU (hr.mono (by omega)) rfl (ak (qw 0) (ak (qw 2) (ak (qw 3) au))) (aq (aq (aq aM)))) (je (pv 1) (Ni (ak (qw 2) (ak (qw 3) au))) (set_dict (gG hr)))))))))
  (aH (gq (pv 1)))))⟩
theorem Ml (F:cj K mg "unbound" wQ ["reach"]) (aco:wY P w K mg base):Ba P w K mg base:=
 F.ok (k:=2) vh λf cdv A outer s H E hr=>⟨_,λ_ _=>rfl,(az (Jr aax rfl (ZR (aR aco (hr.mono (by omega)) rfl (ak (qw 0) au) (aq aM))) (d9 rfl (aW (bQ 1 vh.nd) (aW (bQ 2 vh.nd) dm))) (eE (bf aO (bf aO dY)))
  (aH (bT (bB V5 Uw (qw 2) qy (bx _))
  (aH (gq (pv 1)))
  bw)))
  (aH (bC qy)))⟩
theorem Mm (F:cj K mg "lack_of" wR ["names", "pairs"]) (ab7:oh P w K mg base) (aca:pD P w K mg base) (acE:Ba P w K mg base):Bb P w K mg base:=
 F.ok (k:=3) vm λf cdv A outer s H E hr=>⟨_,λ_ _=>rfl,(az (cG 2 vm.nd (aR acE (hr.mono (by omega)) rfl (ak (Hh (aR ab7 (hr.mono (by omega)) rfl (ak (qw 0) (ak (qw 1) au)) (aq (aq aM)))) au) (aq aM)))
  (az (bT (bB m7 lC (qw 2) qy (bx _))
  (aH (bC (b8 (ak gC (ak (qI (qw 2)) (ak (qI (qw 2)) au))))))
  bw)
  (az (cG 2 vm.nd (aR acE (hr.mono (by omega)) rfl (ak (Hh (aR aca (hr.mono (by omega)) rfl (ak (qw 0) (ak (qw 1) au)) (aq (aq aM)))) au) (aq aM)))
  (az (bT (bB m7 lC (qw 2) qy (bx _))
  (aH (bC (b8 (ak gC (ak (qI (qw 2)) (ak (qI (qw 2)) au))))))
  bw)
  (aH (bC qy))))))⟩
theorem Bc (F:cj K mg "refuse_names" oZ ["names", "pairs"]) (acL:Ax P w K mg base):tB P w K mg base:=
 F.ok (k:=1) kY λf cdv A outer s H E hr=>⟨_,λ_ _=>rfl,(az (eO aax rfl (cI (qw 0)) (bQ 2 kY.nd) aO
  (az (bT (pL (j0 (aR acL (hr.mono (by omega)) rfl (ak (qw 2) au) (aq aM)) (λ_=>rfl)))
  (aH qP)
  bw)
  (aH (bT (bB Fp Ae (Xh (xT aa2 PySem.F.slot_list_count PySem.F.type_list_count (Rp hr) (qw 0) (ak (qw 2) au))) aP (bx _))
  (aH qP)
  bw))))
  (aH (eO aax rfl (cI (qw 1)) (d9 rfl (aW (bQ 3 kY.nd) (aW (bQ 4 kY.nd) dm))) (eE (bf aO (bf aO dY)))
  (aH (bT (PW.pt (xU (bB (sO hr) xW (qw 3) (qw 0) (by with_unfolding_all rfl)) (uq (bB (sO hr) xW (qw 4) (qw 0) (by with_unfolding_all rfl)))))
  (aH qP)
  bw)))))⟩
theorem Be (F:cj K mg "refuse_order" ph ["names", "pairs"]) (acM:Bb P w K mg base) (acN:Ay P w K mg base):tD P w K mg base:=
 F.ok (k:=4) nY λf cdv A outer s H E hr=>⟨_,λ_ _=>rfl,(az (bT (pL (j0 (qw 0) (λ_=>rfl)))
  (aH qP)
  bw)
  (az (cG 2 nY.nd (aR acN (hr.mono (by omega)) rfl (ak (qw 0) (ak (qw 1) au)) (aq (aq aM))))
  (az (bT (bB m7 lC (qw 2) qy (bx _))
  (aH qP)
  bw)
  (az (cG 3 nY.nd (aR acM (hr.mono (by omega)) rfl (ak (qw 0) (ak (qw 1) au)) (aq (aq aM))))
  (aH (bT (bB m7 lC (qw 3) qy (bx _))
  (aH qP)
  bw))))))⟩
theorem Hu (F:cj K mg "blocks_of" tW ["row"]):rZ P w K mg base:=
 F.ok (k:=0) Hn λf cdv A outer s H E hr=>⟨_,λ_ _=>rfl,(az (bT (bB (dh hr) di (qI (qw 0)) gC (bx _))
  (aH (bC (cX (ak (qI (qw 0)) (ak (qI (qw 0)) au)))))
  bw)
  (az (bT (bB (dh hr) di (qI (qw 0)) gC (bx _))
  (aH (bC (cX (ak (qI (qw 0)) au))))
  bw)
  (aH (bC (cX au)))))⟩
theorem O2 {n:Nat} (F:cj K mg "copied" u9 ["row"]) (acp:bL P w K mg base "all_copied" (0+n) ["rows"] (cH K 1 (eX n))):bL P w K mg base "copied" (0+n+1) ["row"] (cH K 1 (jW (n+1))):=
 F.ok (k:=0+n) OD λf cdv A outer s H E hr=>⟨_,λ_ _=>rfl,(az (bT (bB (dh hr) di (qI (qw 0)) gC (bx _))
  (aH (bC (b8 (ak gC (ak (qI (qw 0)) (ak (aR acp (hr.mono (by omega)) rfl (ak (qI (qw 0)) au) (aq aM)) (ak (aR acp (hr.mono (by omega)) rfl (ak (qI (qw 0)) au) (aq aM)) au)))))))
  bw)
  (az (bT (bB (dh hr) di (qI (qw 0)) gC (bx _))
  (aH (bC (b8 (ak gC (ak (qI (qw 0)) (ak (aR acp (hr.mono (by omega)) rfl (ak (qI (qw 0)) au) (aq aM)) au))))))
  bw)
  (az (bT (bB (dh hr) di (qI (qw 0)) gC (bx _))
  (aH (bC (b8 (ak gC (ak (qI (qw 0)) (ak (qI (qw 0)) (ak (PE.imp (ni nH (by rfl) (Aw B) (by kernel_rfl) (ak (qI (qw 0)) au)) (rD xZ)) au)))))))
  bw)
  (aH (gq (pv 0))))))⟩
theorem Ex {n:Nat} (F:cj K mg "all_copied" lG ["rows"]) (acj:bL P w K mg base "copied" (0+n) ["row"] (cH K 1 (jW n))):bL P w K mg base "all_copied" (0+n+1) ["rows"] (cH K 1 (eX (n+1))):=
 F.ok (k:=0+n) Ew λf cdv A outer s H E hr=>⟨_,λ_ _=>rfl,(aH (bC (jz ["row"] [] [] rfl (jw (aL lG)) (cI (qw 0)) (λ_ _ _ _=>(bQ 0 (show (["row"]:List Str).Nodup from by decide +kernel))) aO (λ_ _ _ _=>dF) (λ_ _ _ _=>(aR acj (hr.mono (by omega)) rfl (ak (qw 0) au) (aq aM))))))⟩
theorem Bf (acR:cj K mg "copied" u9 ["row"]) (acz:cj K mg "all_copied" lG ["rows"]):∀n:Nat,bL P w K mg base "copied" (0+n) ["row"] (cH K 1 (jW n))/\bL P w K mg base "all_copied" (0+n) ["rows"] (cH K 1 (eX n))
 | 0=>⟨qN acR,qN acz⟩
 | n+1=>by have ih:=Bf acR acz n;exact⟨O2 B ab2 ab3 ab4 acR ih.2,Ex B ab2 ab3 ab4 acz ih.1⟩
theorem Jt {n:Nat} (F:cj K mg "laid_out" qG ["where", "above", "block", "rows", "start"]) (acg:rZ P w K mg base) (acj:Ed P w K mg base) (ack:bL P w K mg base "laid_out" (40+n) ["where", "above", "block", "rows", "start"] (cH K 5 (fO n))):bL P w K mg base "laid_out" (40+n+1) ["where", "above", "block", "rows", "start"] (cH K 5 (fO (n+1))):=
 F.ok (k:=40+n) kJ λf cdv A outer s H E hr=>⟨_,λ_ _=>rfl,(az (cG 5 kJ.nd (cX au))
  (az (eO aax rfl (cI (qw 3)) (bQ 6 kJ.nd) aO
  (az (cG 7 kJ.nd (Af (bY bF bG (qw 4) (qL (fG B) (qw 5)))))
  (az (rN (pv 5) (b8 (ak (qw 0) (ak (qw 1) (ak (qw 2) (ak (aR acj (hr.mono (by omega)) rfl (ak (qw 6) au) (aq aM)) au))))))
  (aH (eO aax rfl (Cw rfl (ue B) (ak (aR acg (hr.mono (by omega)) rfl (ak (qw 6) au) (aq aM)) au)) (d9 rfl (aW (bQ 8 kJ.nd) (aW (bQ 9 kJ.nd) dm))) (eE (bf aO (bf aO dY)))
  (aH (LR (pv 5) (aR ack (hr.mono (by omega)) rfl (ak (qw 0) (ak (qw 7) (ak (qw 8) (ak (qw 9) (ak (Af (bY bF bG (qw 4) (qL (fG B) (qw 5)))) au))))) (aq (aq (aq (aq (aq aM)))))))))))))
  (aH (gq (pv 5)))))⟩
theorem xg (acH:cj K mg "laid_out" qG ["where", "above", "block", "rows", "start"]) (acg:rZ P w K mg base) (acj:Ed P w K mg base):∀n:Nat,bL P w K mg base "laid_out" (40+n) ["where", "above", "block", "rows", "start"] (cH K 5 (fO n))
 | 0=>qN acH
 | n+1=>by have ih:=xg acH acg acj n;exact Jt B ab2 ab3 ab4 acH acg acj ih
theorem Ju (F:cj K mg "numbered" vd ["program"]) (ack:Js P w K mg base):yH P w K mg base:=
 F.ok (k:=80) kO λf cdv A outer s H E hr=>⟨_,λ_ _=>rfl,(az (cG 1 kO.nd (cX au))
  (az (eO aax rfl (cI (qI (qw 0))) (d9 rfl (aW (bQ 2 kO.nd) (aW (bQ 3 kO.nd) (aW (bQ 4 kO.nd) (aW (bQ 5 kO.nd) dm))))) (eE (bf aO (bf aO (bf aO (bf aO dY)))))
  (aH (LR (pv 1) (aR ack (hr.mono (by omega)) rfl (ak (qw 2) (ak qy (ak aP (ak (qw 5) (ak (Af (qL (fG B) (qw 1))) au))))) (aq (aq (aq (aq (aq aM)))))))))
  (az (LR (pv 1) (aR ack (hr.mono (by omega)) rfl (ak gC (ak qy (ak aP (ak (qI (qw 0)) (ak (Af (qL (fG B) (qw 1))) au))))) (aq (aq (aq (aq (aq aM)))))))
  (aH (gq (pv 1))))))⟩
theorem Ey (F:cj K mg "head_pairs" lH ["program"]):vL P w K mg base:=
 F.ok (k:=0) jc λf cdv A outer s H E hr=>⟨_,λ_ _=>rfl,(az (kj (i:=1) ["name", "size", "rank"] [] [] jc.nd rfl rfl rfl (jw (aL lH)) (cI (qI (qw 0))) (λ_ _ _ _=>(d9 rfl (aW (bQ 0 (show (["name", "size", "rank"]:List Str).Nodup from by decide +kernel)) (aW (bQ 1 (show (["name", "size", "rank"]:List Str).Nodup from by decide +kernel)) (aW (bQ 2 (show (["name", "size", "rank"]:List Str).Nodup from by decide +kernel)) dm))))) (eE (bf aO (bf aO (bf aO dY)))) (λ_ _ _ _=>dF) (λ_ _ _ _=>(b8 (ak (qw 0) (ak (qw 2) au)))))
  (az (eO aax rfl (cI (qI (qw 0))) (d9 rfl (aW (bQ 2 jc.nd) (aW (bQ 3 jc.nd) (aW (bQ 4 jc.nd) (aW (bQ 5 jc.nd) dm))))) (eE (bf aO (bf aO (bf aO (bf aO dY)))))
  (az (rN (pv 1) (b8 (ak (qw 2) (ak (qw 3) au))))
  (aH (LR (pv 1) (jz ["param", "known"] [] [] rfl (jw (aL lH)) (cI (qw 4)) (λ_ _ _ _=>(d9 rfl (aW (bQ 0 (show (["param", "known"]:List Str).Nodup from by decide +kernel)) (aW (bQ 1 (show (["param", "known"]:List Str).Nodup from by decide +kernel)) dm)))) (eE (bf aO (bf aO dY))) (λ_ _ _ _=>dF) (λ_ _ _ _=>(b8 (ak (qw 0) (ak (qw 1) au)))))))))
  (aH (gq (pv 1)))))⟩
theorem Ez (F:cj K mg "told_ranks" rO ["order", "program"]) (acA:vL P w K mg base) (acI:yH P w K mg base):vM P w K mg base:=
 F.ok (k:=81) eY λf cdv A outer s H E hr=>⟨_,λ_ _=>rfl,(az (cG 2 eY.nd Hg)
  (az (eO aax rfl (cI (aR acA (hr.mono (by omega)) rfl (ak (qw 1) au) (aq aM))) (d9 rfl (aW (bQ 3 eY.nd) (aW (bQ 4 eY.nd) dm))) (eE (bf aO (bf aO dY)))
  (aH (bT (bB m7 lC (qw 4) qy (bx _))
  (aH (kE (iB (qw 4) (je (pv 2) (Xj (by decide +kernel) (qw 3)) (set_dict (gG hr))))))
  bw)))
  (az (eO aax rfl (Cw rfl (ue B) (ak (aR acI (hr.mono (by omega)) rfl (ak (qw 1) au) (aq aM)) au)) (d9 rfl (aW (bQ 5 eY.nd) (aW (bQ 6 eY.nd) dm))) (eE (bf aO (bf aO dY)))
  (az (cG 7 eY.nd (qI (qw 6)))
  (aH (eO aax rfl (cI (qI (qw 1))) (d9 rfl (aW (bQ 8 eY.nd) (aW (bQ 9 eY.nd) (aW (bQ 10 eY.nd) dm)))) (eE (bf aO (bf aO (bf aO dY))))
  (aH (bT (PW.pt (lu (bB (dh hr) di (qI (qw 7)) gC (bx _)) (kh (bB (dh hr) di (qI (qw 7)) (qw 8) (bx _)))))
  (az (kE (iB (qw 9) (je (pv 2) (Xj (by decide +kernel) (qw 5)) (set_dict (gG hr)))))
  (aH (kE (iB (qw 10) (je (pv 2) (Xj (by decide +kernel) (qw 5)) (set_dict (gG hr)))))))
  bw))))))
  (aH (gq (pv 2))))))⟩
theorem Hv (F:cj K mg "_law_cell" tX ["_law_script", "_law_k"]):sr P w K mg base:=
 F.ok (k:=0) nZ λf cdv A outer s H E hr=>⟨_,λ_ _=>rfl,(az (bT (bB mK j4 (qw 1) (qL (fG B) (qw 0)) (bx _))
  (aH (bC (gA (qw 0) (qw 1) (λ_ _=>rfl))))
  bw)
  (az (cG 2 nZ.nd (bY bF bG (bY mz km (qw 1) aP) aP))
  (az (bT (bB Fp Ae (qL (fG B) (qw 0)) aP (bx _))
  (az (cG 3 nZ.nd (gA (qw 0) (bY gY gr (bY mz km (qw 1) aP) (qL (fG B) (qw 0))) (λ_ _=>rfl)))
  (aH (cG 2 nZ.nd (bY gY gr (bY bF bG (bY bF bG (bY mz km (qw 3) aP) (bY mz km (bY mz km (qw 1) (qw 1)) aP)) (qw 1)) aP))))
  bw)
  (aH (bC (bY gY gr (bY mz km (qw 2) (qw 2)) aP))))))⟩
theorem Hw (F:cj K mg "_law_next" tY ["_law_pen", "_law_most"]) (acd:sr P w K mg base):du P w K mg base:=
 F.ok (k:=1) wU λf cdv A outer s H E hr=>⟨_,λ_ _=>rfl,(az (cG 2 wU.nd (bY gY gr (aR acd (hr.mono (by omega)) rfl (ak (qI (qw 0)) (ak (qI (qw 0)) au)) (aq (aq aM))) (qw 1)))
  (az (zm (iB (bY bF bG (qI (qw 0)) aP) (je (qw 0) aP set_list)))
  (aH (gq (pv 2)))))⟩
theorem EY (F:cj K mg "_law_names" nR ["_law_pen", "_law_total"]) (ab1:du P w K mg base):qx P w K mg base:=
 F.ok (k:=2) cT λf cdv A outer s H E hr=>⟨_,λ_ _=>rfl,(az (rm (i:=2) cT.nd rfl (Or.inr rfl) gC)
  (az (cG 3 cT.nd (aR ab1 (hr.mono (by omega)) rfl (ak (qw 0) (ak aP au)) (aq (aq aM))))
  (az (cG 4 cT.nd (bY bF bG aP (aR ab1 (hr.mono (by omega)) rfl (ak (qw 0) (ak aP au)) (aq (aq aM)))))
  (az (cG 5 cT.nd (aR ab1 (hr.mono (by omega)) rfl (ak (qw 0) (ak (qw 4) au)) (aq (aq aM))))
  (az (cG 6 cT.nd (aR ab1 (hr.mono (by omega)) rfl (ak (qw 0) (ak aP au)) (aq (aq aM))))
  (az (kj (i:=7) ["_law_k"] ["_law_letters", "_law_pen"] [2,0] cT.nd rfl rfl rfl (jw (aL nR)) (jh rfl (jG B) (ak aP au)) (λ_ _ _ _=>(bQ 0 (show (["_law_k", "_law_letters", "_law_pen"]:List Str).Nodup from by decide +kernel))) aO (λ_ _ _ _=>dF) (λ_ _ _ _=>(gA (qw 1) (aR ab1 (hr.mono (by omega)) rfl (ak (qw 2) (ak aP au)) (aq (aq aM))) (λ_ _=>rfl))))
  (az (cG 8 cT.nd (Ys (xT PySem.F.plainAttrs_str PySem.F.slot_str_join PySem.F.type_str_join Uy gC (ak (qw 7) au))))
  (az (cG 9 cT.nd (cX au))
  (az (eO aax rfl (jh rfl (jG B) (ak (qw 1) au)) (bQ 10 cT.nd) aO
  (az (cG 11 cT.nd (bY bF bG (gA (qw 2) (bY gY gr (bY bF bG (qw 6) (bY Ca zj (qw 10) aP)) aP) (λ_ _=>rfl)) (oY (qw 8) ux (lQ (bY gY gr (bY bF bG (qw 6) (qw 10)) aP)))))
  (az (bT (bB (dh hr) di (qw 3) aP (bx _))
  (az (cG 12 cT.nd (gA (qw 2) (bY gY gr (bY bF bG (qw 6) (bY mz km aP (qw 10))) aP) (λ_ _=>rfl)))
  (aH (cG 11 cT.nd (bY bF bG (bY bF bG (oY (qw 8) ux (lQ (qw 5))) (qw 12)) (oY (qw 8) (lQ (bY bF bG (qw 5) aP)) (lQ (qw 4)))))))
  bw)
  (az (bT (bB (dh hr) di (qw 11) gC (bx _))
  (aH (cG 11 cT.nd gC))
  bw)
  (aH (rN (pv 9) (qw 11)))))))
  (aH (gq (pv 9))))))))))))⟩
theorem Fb (F:cj K mg "_law_shape" jF ["_law_pen"]) (ab1:du P w K mg base):vN P w K mg base:=
 F.ok (k:=2) jd λf cdv A outer s H E hr=>⟨_,λ_ _=>rfl,(@az _ _ _ _ _ (@cG _ 1 _ _ _ _ _ jd.nd (aR ab1 (hr.mono (by omega)) rfl (ak (qw 0) (ak aP au)) (aq (aq aM))) (by rfl) (by exact Or.inl rfl) (by rfl) (by first | exact .inl rfl | exact .inr rfl | assumption))
  (@az _ _ _ _ _ (@bT _ _ _ _ _ _ _ _ (bB (dh hr) di (qw 1) aP (bx _))
  (@az _ _ _ _ _ (rm (i:=2) jd.nd rfl (Or.inr rfl) (bY bF bG aP (aR ab1 (hr.mono (by omega)) rfl (ak (qw 0) (ak aP au)) (aq (aq aM)))))
  (@aH _ _ _ (@bC _ _ _ _ (cX (ak (qw 2) (ak (jz ["_law_k"] [] [] rfl (jw (aL jF)) (jh rfl (jG B) (ak (bY lr jC (qw 2) aP) au)) (λ_ _ _ _=>(bQ 0 (show (["_law_k"]:List Str).Nodup from by decide +kernel))) aO (λ_ _ _ _=>dF) (λ_ _ _ _=>(b8 (ak (qw 0) (ak (bY bF bG (qw 0) aP) au))))) au)))))) bw)
  (@az _ _ _ _ _ (@bT _ _ _ _ _ _ _ _ (bB (dh hr) di (qw 1) aP (bx _))
  (@aH _ _ _ (@bC _ _ _ _ (@cX _ _ _ _ (@ak _ _ _ _ _ aP (@Hl _ _ _ _ _ _ (@cX _ _ _ _ (@dB _ _ _ _ _ _ _ (@b8 _ _ _ _ _ (@ak _ _ _ _ _ aP (@ak _ _ _ _ _ aP au (by rfl)) (by rfl))) (@dB _ _ _ _ _ _ _ (@b8 _ _ _ _ _ (@ak _ _ _ _ _ aP (@ak _ _ _ _ _ aP au (by rfl)) (by rfl))) (@dB _ _ _ _ _ _ _ (@b8 _ _ _ _ _ (@ak _ _ _ _ _ aP (@ak _ _ _ _ _ aP au (by rfl)) (by rfl))) (@dB _ _ _ _ _ _ _ (@b8 _ _ _ _ _ (@ak _ _ _ _ _ aP (@ak _ _ _ _ _ aP au (by rfl)) (by rfl))) au))))) au) (by rfl))))) bw)
  (@az _ _ _ _ _ (@bT _ _ _ _ _ _ _ _ (bB (dh hr) di (qw 1) aP (bx _))
  (@az _ _ _ _ _ (@cG _ 3 _ _ _ _ _ jd.nd (@cX _ _ _ _ (@dB _ _ _ _ _ _ _ (@b8 _ _ _ _ _ (@ak _ _ _ _ _ aP (@ak _ _ _ _ _ aP au (by rfl)) (by rfl))) (@dB _ _ _ _ _ _ _ (@b8 _ _ _ _ _ (@ak _ _ _ _ _ aP (@ak _ _ _ _ _ aP au (by rfl)) (by rfl))) (@dB _ _ _ _ _ _ _ (@b8 _ _ _ _ _ (@ak _ _ _ _ _ aP (@ak _ _ _ _ _ aP au (by rfl)) (by rfl))) (@dB _ _ _ _ _ _ _ (@b8 _ _ _ _ _ (@ak _ _ _ _ _ aP (@ak _ _ _ _ _ aP au (by rfl)) (by rfl))) (@dB _ _ _ _ _ _ _ (@b8 _ _ _ _ _ (@ak _ _ _ _ _ aP (@ak _ _ _ _ _ aP au (by rfl)) (by rfl))) (@dB _ _ _ _ _ _ _ (@b8 _ _ _ _ _ (@ak _ _ _ _ _ aP (@ak _ _ _ _ _ aP au (by rfl)) (by rfl))) au))))))) (by rfl) (by exact Or.inl rfl) (by rfl) (by first | exact .inl rfl | exact .inr rfl | assumption))
  (@aH _ _ _ (@bC _ _ _ _ (@cX _ _ _ _ (@ak _ _ _ _ _ aP (@ak _ _ _ _ _ (@bY _ _ _ _ _ _ _ _ _ bF bG (qw 3) (@cX _ _ _ _ (@dB _ _ _ _ _ _ _ (@b8 _ _ _ _ _ (@ak _ _ _ _ _ aP (@ak _ _ _ _ _ aP au (by rfl)) (by rfl))) (@dB _ _ _ _ _ _ _ (@b8 _ _ _ _ _ (@ak _ _ _ _ _ aP (@ak _ _ _ _ _ aP au (by rfl)) (by rfl))) (@dB _ _ _ _ _ _ _ (@b8 _ _ _ _ _ (@ak _ _ _ _ _ aP (@ak _ _ _ _ _ aP au (by rfl)) (by rfl))) (@dB _ _ _ _ _ _ _ (@b8 _ _ _ _ _ (@ak _ _ _ _ _ aP (@ak _ _ _ _ _ aP au (by rfl)) (by rfl))) (@dB _ _ _ _ _ _ _ (@b8 _ _ _ _ _ (@ak _ _ _ _ _ aP (@ak _ _ _ _ _ aP au (by rfl)) (by rfl))) (@dB _ _ _ _ _ _ _ (@b8 _ _ _ _ _ (@ak _ _ _ _ _ aP (@ak _ _ _ _ _ aP au (by rfl)) (by rfl))) au)))))))) au (by rfl)) (by rfl)))))) bw)
  (@az _ _ _ _ _ (@bT _ _ _ _ _ _ _ _ (bB (dh hr) di (qw 1) aP (bx _))
  (@az _ _ _ _ _ (rm (i:=2) jd.nd rfl (Or.inr rfl) (bY bF bG aP (aR ab1 (hr.mono (by omega)) rfl (ak (qw 0) (ak aP au)) (aq (aq aM)))))
  (@az _ _ _ _ _ (kj (i:=3) ["_law_k"] [] [] jd.nd rfl rfl rfl (jw (aL jF)) (DP (Dq rfl (jG B) (ak aP (ak (bY lr jC (qw 2) aP) au)))) (λ_ _ _ _=>(bQ 0 (show (["_law_k"]:List Str).Nodup from by decide +kernel))) aO (λ_ _ _ _=>dF) (λ_ _ _ _=>(b8 (ak aP (ak (qw 0) au)))))
  (@aH _ _ _ (@bC _ _ _ _ (cX (ak (qw 2) (ak (bY bF bG (qw 3) (jz ["_law_k"] ["_law_size"] [2] rfl (jw (aL jF)) (DP (Dq rfl (jG B) (ak aP (ak (bY lr jC (qw 2) aP) au)))) (λ_ _ _ _=>(bQ 0 (show (["_law_k", "_law_size"]:List Str).Nodup from by decide +kernel))) aO (λ_ _ _ _=>dF) (λ_ _ _ _=>(b8 (ak (qw 0) (ak (bY lr jC (qw 1) aP) au)))))) au))))))) bw)
  (@az _ _ _ _ _ (@bT _ _ _ _ _ _ _ _ (bB (dh hr) di (qw 1) aP (bx _))
  (@aH _ _ _ (@bC _ _ _ _ (@cX _ _ _ _ (@ak _ _ _ _ _ aP (@Hl _ _ _ _ _ _ (@cX _ _ _ _ (@dB _ _ _ _ _ _ _ (@b8 _ _ _ _ _ (@ak _ _ _ _ _ aP (@ak _ _ _ _ _ aP au (by rfl)) (by rfl))) (@dB _ _ _ _ _ _ _ (@b8 _ _ _ _ _ (@ak _ _ _ _ _ aP (@ak _ _ _ _ _ aP au (by rfl)) (by rfl))) (@dB _ _ _ _ _ _ _ (@b8 _ _ _ _ _ (@ak _ _ _ _ _ aP (@ak _ _ _ _ _ aP au (by rfl)) (by rfl))) (@dB _ _ _ _ _ _ _ (@b8 _ _ _ _ _ (@ak _ _ _ _ _ aP (@ak _ _ _ _ _ aP au (by rfl)) (by rfl))) (@dB _ _ _ _ _ _ _ (@b8 _ _ _ _ _ (@ak _ _ _ _ _ aP (@ak _ _ _ _ _ aP au (by rfl)) (by rfl))) au)))))) au) (by rfl))))) bw)
  (@aH _ _ _ (@bC _ _ _ _ (@cX _ _ _ _ (@ak _ _ _ _ _ aP (@Hl _ _ _ _ _ _ (@cX _ _ _ _ (@dB _ _ _ _ _ _ _ (@b8 _ _ _ _ _ (@ak _ _ _ _ _ aP (@ak _ _ _ _ _ aP au (by rfl)) (by rfl))) (@dB _ _ _ _ _ _ _ (@b8 _ _ _ _ _ (@ak _ _ _ _ _ aP (@ak _ _ _ _ _ aP au (by rfl)) (by rfl))) (@dB _ _ _ _ _ _ _ (@b8 _ _ _ _ _ (@ak _ _ _ _ _ aP (@ak _ _ _ _ _ aP au (by rfl)) (by rfl))) (@dB _ _ _ _ _ _ _ (@b8 _ _ _ _ _ (@ak _ _ _ _ _ aP (@ak _ _ _ _ _ aP au (by rfl)) (by rfl))) (@dB _ _ _ _ _ _ _ (@b8 _ _ _ _ _ (@ak _ _ _ _ _ aP (@ak _ _ _ _ _ aP au (by rfl)) (by rfl))) (@dB _ _ _ _ _ _ _ (@b8 _ _ _ _ _ (@ak _ _ _ _ _ aP (@ak _ _ _ _ _ aP au (by rfl)) (by rfl))) (@dB _ _ _ _ _ _ _ (@b8 _ _ _ _ _ (@ak _ _ _ _ _ aP (@ak _ _ _ _ _ aP au (by rfl)) (by rfl))) au)))))))) au) (by rfl)))))))))))⟩
theorem Fe (F:cj K mg "_law_ranks" nT ["_law_pen"]) (acf:qx P w K mg base) (ab1:du P w K mg base) (acB:vN P w K mg base):vO P w K mg base:=
 F.ok (k:=3) gW λf cdv A outer s H E hr=>⟨_,λ_ _=>rfl,(az (Aa (aR acB (hr.mono (by omega)) rfl (ak (qw 0) au) (aq aM)) (d9 rfl (aW (bQ 1 gW.nd) (aW (bQ 2 gW.nd) dm))) (eE (bf aO (bf aO dY))))
  (az (rm (i:=3) gW.nd rfl (Or.inr rfl) (aR acf (hr.mono (by omega)) rfl (ak (qw 0) (ak (qw 1) au)) (aq (aq aM))))
  (az (kj (i:=4) ["_law_low", "_law_high"] ["_law_names_here"] [3] gW.nd rfl rfl rfl (jw (aL nT)) (cI (qw 2)) (λ_ _ _ _=>(d9 rfl (aW (bQ 0 (show (["_law_low", "_law_high", "_law_names_here"]:List Str).Nodup from by decide +kernel)) (aW (bQ 1 (show (["_law_low", "_law_high", "_law_names_here"]:List Str).Nodup from by decide +kernel)) dm)))) (eE (bf aO (bf aO dY))) (λ_ _ _ _=>dF) (λ_ _ _ _=>(b8 (ak (gA (qw 2) (qw 0) (λ_ _=>rfl)) (ak (gA (qw 2) (qw 1) (λ_ _=>rfl)) au)))))
  (az (cG 5 gW.nd (aR ab1 (hr.mono (by omega)) rfl (ak (qw 0) (ak (qw 1) au)) (aq (aq aM))))
  (az (cG 6 gW.nd (bY bF bG (oY (qw 3) (lQ (qw 5)) ux) (oY (qw 3) ux (lQ (qw 5)))))
  (az (bT (bB (dh hr) di (aR ab1 (hr.mono (by omega)) rfl (ak (qw 0) (ak aP au)) (aq (aq aM))) aP (bx _))
  (az (Ou (m6 (vY aa2 PySem.F.slot_list_reverse PySem.F.type_list_reverse zM (pv 4))))
  (az (rN (pv 4) (b8 (ak (qI (qw 3)) (ak (gA (qw 3) (bY lr jC (qw 1) aP) (λ_ _=>rfl)) au))))
  (aH (Ou (m6 (vY aa2 PySem.F.slot_list_reverse PySem.F.type_list_reverse zM (pv 6)))))))
  bw)
  (aH (bC (cX (ak (qw 6) (ak (qw 4) au)))))))))))⟩
theorem CT (F:cj K mg "_law_number" qm ["_law_pen"]) (ab1:du P w K mg base):pF P w K mg base:=
 F.ok (k:=2) pA λf cdv A outer s H E hr=>⟨_,λ_ _=>rfl,(az (cG 1 pA.nd (aR ab1 (hr.mono (by omega)) rfl (ak (qw 0) (ak aP au)) (aq (aq aM))))
  (az (cG 2 pA.nd (aR ab1 (hr.mono (by omega)) rfl (ak (qw 0) (ak (bY zH xX aP aP) au)) (aq (aq aM))))
  (az (bT (bB (dh hr) di (qw 1) aP (bx _))
  (aH (bC (bY gY gr (qw 2) aP)))
  bw)
  (az (bT (bB (dh hr) di (qw 1) aP (bx _))
  (aH (bC (bY lr jC (bY lr jC (bY zH xX aP aP) aP) (bY gY gr (qw 2) aP))))
  bw)
  (az (bT (bB (dh hr) di (qw 1) aP (bx _))
  (aH (bC (bY lr jC (bY Ca zj (bY zH xX aP aP) (bY bF bG aP (bY gY gr (qw 2) aP))) aP)))
  bw)
  (aH (bC (bY gY gr (bY mz km (qw 2) aP) (bY zH xX aP aP)))))))))⟩
theorem xj {n:Nat} (F:cj K mg "_law_expression" jB ["_law_pen", "_law_deep", "_law_known"]) (ab5:bL P w K mg base "_law_expression" (3+n) ["_law_pen", "_law_deep", "_law_known"] (cH K 3 (bW n))) (ab1:du P w K mg base) (acb:pF P w K mg base):bL P w K mg base "_law_expression" (3+n+1) ["_law_pen", "_law_deep", "_law_known"] (cH K 3 (bW (n+1))):=
 F.ok (k:=3+n) gO λf cdv A outer s H E hr=>⟨_,λ_ _=>rfl,(az (cG 3 gO.nd (aR ab1 (hr.mono (by omega)) rfl (ak (qw 0) (ak aP au)) (aq (aq aM))))
  (az (bT (PW.pt (xU (bB mK j4 (qw 1) aP (bx _)) (uq (bB mK j4 (qw 3) aP (bx _)))))
  (az (bT (PW.pt (xU (bB (dh hr) di (bY gY gr (qw 3) aP) aP (bx _)) (uq (bB (dh hr) di (qI (qw 2)) (cX au) (bx _)))))
  (aH (bC (b8 (ak gC (ak (aR acb (hr.mono (by omega)) rfl (ak (qw 0) au) (aq aM)) au)))))
  bw)
  (aH (bC (b8 (ak gC (ak (gA (qI (qw 2)) (aR ab1 (hr.mono (by omega)) rfl (ak (qw 0) (ak (qL (fG B) (qI (qw 2))) au)) (aq (aq aM))) (λ_ _=>rfl)) au))))))
  bw)
  (az (cG 4 gO.nd (aR ab5 (hr.mono (by omega)) rfl (ak (qw 0) (ak (bY lr jC (qw 1) aP) (ak (qw 2) au))) (aq (aq (aq aM)))))
  (az (bT (PW.pt (lu (bB mK j4 (qw 3) aP (bx _)) (kh (bB (pN hr) pO (qI (qw 2)) (cX au) (bx _)))))
  (aH (bC (b8 (ak gC (ak (gA (qI (qw 2)) (aR ab1 (hr.mono (by omega)) rfl (ak (qw 0) (ak (qL (fG B) (qI (qw 2))) au)) (aq (aq aM))) (λ_ _=>rfl)) (ak (qw 4) au))))))
  bw)
  (az (cG 5 gO.nd (aR ab5 (hr.mono (by omega)) rfl (ak (qw 0) (ak (wI (Dt rfl) Xa (gD (Dt rfl) (by rfl) (YB B) (by kernel_rfl) (ak (bY lr jC (qw 1) aP) (ak aP au)))) (ak (qw 2) au))) (aq (aq (aq aM)))))
  (az (cG 6 gO.nd (gA gC (aR ab1 (hr.mono (by omega)) rfl (ak (qw 0) (ak aP au)) (aq (aq aM))) (λ_ _=>rfl)))
  (az (bT (bB (dh hr) di (bY gY gr (qw 3) aP) aP (bx _))
  (aH (bC (b8 (ak (qw 6) (ak (qw 5) (ak (qw 4) au))))))
  bw)
  (aH (bC (b8 (ak (qw 6) (ak (qw 4) (ak (qw 5) au)))))))))))))⟩
theorem oH (acl:cj K mg "_law_expression" jB ["_law_pen", "_law_deep", "_law_known"]) (ab1:du P w K mg base) (acb:pF P w K mg base):∀n:Nat,bL P w K mg base "_law_expression" (3+n) ["_law_pen", "_law_deep", "_law_known"] (cH K 3 (bW n))
 | 0=>qN acl
 | n+1=>by have ih:=oH acl ab1 acb n;exact xj B ab2 ab3 ab4 acl ih ab1 acb
theorem Hx (F:cj K mg "_law_part" tZ ["_law_pen", "_law_known"]) (ab5:lK P w K mg base) (ab1:du P w K mg base):su P w K mg base:=
 F.ok (k:=43) Ho λf cdv A outer s H E hr=>⟨_,λ_ _=>rfl,(aH (bC (aR ab5 (hr.mono (by omega)) rfl (ak (qw 0) (ak (bY bF bG (bY bF bG aP (aR ab1 (hr.mono (by omega)) rfl (ak (qw 0) (ak aP au)) (aq (aq aM)))) (bY mz km aP (bY Ca zj (aR ab1 (hr.mono (by omega)) rfl (ak (qw 0) (ak aP au)) (aq (aq aM))) aP))) (ak (qw 1) au))) (aq (aq (aq aM))))))⟩
theorem Hy {n:Nat} (F:cj K mg "_law_rows" pK ["_law_pen", "_law_deep", "_law_known", "_law_most"]) (ab1:du P w K mg base) (acT:bL P w K mg base "_law_row" (44+n) ["_law_pen", "_law_deep", "_law_known"] (cH K 3 (gJ n))):bL P w K mg base "_law_rows" (44+n+1) ["_law_pen", "_law_deep", "_law_known", "_law_most"] (cH K 4 (cL (n+1))):=
 F.ok (k:=44+n) rW λf cdv A outer s H E hr=>⟨_,λ_ _=>rfl,(az (cG 4 rW.nd (cX au))
  (az (eO aax rfl (jh rfl (jG B) (ak (aR ab1 (hr.mono (by omega)) rfl (ak (qw 0) (ak (qw 3) au)) (aq (aq aM))) au)) (bQ 5 rW.nd) aO
  (aH (bT (bB mK j4 (qI (qw 0)) (qI (qw 0)) (bx _))
  (aH (rN (pv 4) (aR acT (hr.mono (by omega)) rfl (ak (qw 0) (ak (qw 1) (ak (qw 2) au))) (aq (aq (aq aM))))))
  bw)))
  (aH (gq (pv 4)))))⟩
theorem Jv {n:Nat} (F:cj K mg "_law_row" nU ["_law_pen", "_law_deep", "_law_known"]) (ab5:lK P w K mg base) (ab1:du P w K mg base) (ach:su P w K mg base) (ab8:bL P w K mg base "_law_rows" (44+n) ["_law_pen", "_law_deep", "_law_known", "_law_most"] (cH K 4 (cL n))):bL P w K mg base "_law_row" (44+n+1) ["_law_pen", "_law_deep", "_law_known"] (cH K 3 (gJ (n+1))):=
 F.ok (k:=44+n) jr λf cdv A outer s H E hr=>⟨_,λ_ _=>rfl,(az (zm (iB (bY bF bG (qI (qw 0)) aP) (je (qw 0) aP set_list)))
  (az (cG 3 jr.nd (aR ab1 (hr.mono (by omega)) rfl (ak (qw 0) (ak aP au)) (aq (aq aM))))
  (az (cG 4 jr.nd (aR ach (hr.mono (by omega)) rfl (ak (qw 0) (ak (qw 2) au)) (aq (aq aM))))
  (az (bT (PW.pt (lu (bB mK j4 (qw 1) aP (bx _)) (kh (bB mK j4 (qw 3) aP (bx _)))))
  (az (cG 5 jr.nd (aR ab8 (hr.mono (by omega)) rfl (ak (qw 0) (ak (bY bF bG (qw 1) aP) (ak (qw 2) (ak aP au)))) (aq (aq (aq (aq aM))))))
  (aH (bC (b8 (ak gC (ak (qw 4) (ak (qw 5) (ak (aR ab8 (hr.mono (by omega)) rfl (ak (qw 0) (ak (bY bF bG (qw 1) aP) (ak (qw 2) (ak aP au)))) (aq (aq (aq (aq aM))))) au))))))))
  bw)
  (az (bT (PW.pt (lu (bB mK j4 (qw 1) aP (bx _)) (kh (bB mK j4 (qw 3) aP (bx _)))))
  (aH (bC (b8 (ak gC (ak (qw 4) (ak (aR ab8 (hr.mono (by omega)) rfl (ak (qw 0) (ak (bY bF bG (qw 1) aP) (ak (qw 2) (ak aP au)))) (aq (aq (aq (aq aM))))) au))))))
  bw)
  (az (bT (PW.pt (lu (bB mK j4 (qw 3) aP (bx _)) (kh (bB (pN hr) pO (qI (qw 2)) (cX au) (bx _)))))
  (aH (bC (b8 (ak gC (ak (gA (qI (qw 2)) (aR ab1 (hr.mono (by omega)) rfl (ak (qw 0) (ak (qL (fG B) (qI (qw 2))) au)) (aq (aq aM))) (λ_ _=>rfl)) (ak (aR ab5 (hr.mono (by omega)) rfl (ak (qw 0) (ak aP (ak (qw 2) au))) (aq (aq (aq aM)))) (ak (qw 4) au)))))))
  bw)
  (az (cG 6 jr.nd (gA (qI (qw 2)) (aR ab1 (hr.mono (by omega)) rfl (ak (qw 0) (ak (qL (fG B) (qI (qw 2))) au)) (aq (aq aM))) (λ_ _=>rfl)))
  (az (bT (PW.pt (lu (bB (dh hr) di (qw 3) aP (bx _)) (kh (bB (pN hr) pO (qI (qw 2)) (cX au) (bx _)))))
  (aH (bC (b8 (ak gC (ak (qw 6) (ak (qw 4) (ak (gA (qI (qw 2)) (aR ab1 (hr.mono (by omega)) rfl (ak (qw 0) (ak (qL (fG B) (qI (qw 2))) au)) (aq (aq aM))) (λ_ _=>rfl)) au)))))))
  bw)
  (az (bT (PW.pt (lu (bB Fp Ae (qw 3) aP (bx _)) (kh (bB (pN hr) pO (qI (qw 2)) (cX au) (bx _)))))
  (az (Aa (gA (qI (qw 2)) (aR ab1 (hr.mono (by omega)) rfl (ak (qw 0) (ak (qL (fG B) (qI (qw 2))) au)) (aq (aq aM))) (λ_ _=>rfl)) (d9 rfl (aW (bQ 7 jr.nd) (aW (bQ 8 jr.nd) dm))) (eE (bf aO (bf aO dY))))
  (aH (bC (b8 (ak gC (ak (qw 6) (ak (qw 7) (ak (jz ["_law_k"] ["_law_pen", "_law_known"] [0,2] rfl (jw (aL nU)) (jh rfl (jG B) (ak (qw 8) au)) (λ_ _ _ _=>(bQ 0 (show (["_law_k", "_law_pen", "_law_known"]:List Str).Nodup from by decide +kernel))) aO (λ_ _ _ _=>dF) (λ_ _ _ _=>(aR ab5 (hr.mono (by omega)) rfl (ak (qw 1) (ak aP (ak (qw 2) au))) (aq (aq (aq aM)))))) au))))))))
  bw)
  (aH (bC (b8 (ak gC (ak (qw 6) (ak (qw 4) au)))))))))))))))⟩
theorem vR (acF:cj K mg "_law_rows" pK ["_law_pen", "_law_deep", "_law_known", "_law_most"]) (acJ:cj K mg "_law_row" nU ["_law_pen", "_law_deep", "_law_known"]) (ab5:lK P w K mg base) (ab1:du P w K mg base) (ach:su P w K mg base):∀n:Nat,bL P w K mg base "_law_rows" (44+n) ["_law_pen", "_law_deep", "_law_known", "_law_most"] (cH K 4 (cL n))/\bL P w K mg base "_law_row" (44+n) ["_law_pen", "_law_deep", "_law_known"] (cH K 3 (gJ n))
 | 0=>⟨qN acF,qN acJ⟩
 | n+1=>by have ih:=vR acF acJ ab5 ab1 ach n;exact⟨Hy B ab2 ab3 ab4 acF ab1 ih.2,Jv B ab2 ab3 ab4 acJ ab5 ab1 ach ih.1⟩
theorem Hz (F:cj K mg "_law_rank" t6 ["_law_pen", "_law_ranks_here"]) (ab1:du P w K mg base):wZ P w K mg base:=
 F.ok (k:=2) Hq λf cdv A outer s H E hr=>⟨_,λ_ _=>rfl,(az (bT (bB mK j4 (aR ab1 (hr.mono (by omega)) rfl (ak (qw 0) (ak aP au)) (aq (aq aM))) (qI (qw 0)) (bx _))
  (aH (bC qy))
  bw)
  (aH (bC (gA (qw 1) (aR ab1 (hr.mono (by omega)) rfl (ak (qw 0) (ak (qL (fG B) (qw 1)) au)) (aq (aq aM))) (λ_ _=>rfl)))))⟩
theorem CV (F:cj K mg "_law_counts" j6 ["_law_pen"]) (ab1:du P w K mg base):uF P w K mg base:=
 F.ok (k:=2) uC λf cdv A outer s H E hr=>⟨_,λ_ _=>rfl,(az (cG 1 uC.nd (aR ab1 (hr.mono (by omega)) rfl (ak (qw 0) (ak aP au)) (aq (aq aM))))
  (az (bT (bB (dh hr) di (qw 1) aP (bx _))
  (aH (bC (jz ["_law_k"] ["_law_pen"] [0] rfl (jw (aL j6)) (jh rfl (jG B) (ak aP au)) (λ_ _ _ _=>(bQ 0 (show (["_law_k", "_law_pen"]:List Str).Nodup from by decide +kernel))) aO (λ_ _ _ _=>dF) (λ_ _ _ _=>(aR ab1 (hr.mono (by omega)) rfl (ak (qw 1) (ak aP au)) (aq (aq aM)))))))
  bw)
  (az (bT (bB (dh hr) di (qw 1) aP (bx _))
  (aH (bC (cX (ak aP (ak (aR ab1 (hr.mono (by omega)) rfl (ak (qw 0) (ak aP au)) (aq (aq aM))) au)))))
  bw)
  (aH (bC (jz ["_law_k"] ["_law_pen"] [0] rfl (jw (aL j6)) (jh rfl (jG B) (ak (aR ab1 (hr.mono (by omega)) rfl (ak (qw 0) (ak aP au)) (aq (aq aM))) au)) (λ_ _ _ _=>(bQ 0 (show (["_law_k", "_law_pen"]:List Str).Nodup from by decide +kernel))) aO (λ_ _ _ _=>dF) (λ_ _ _ _=>(aR ab1 (hr.mono (by omega)) rfl (ak (qw 1) (ak aP au)) (aq (aq aM))))))))))⟩
theorem Ff (F:cj K mg "_law_heads" rQ ["_law_pen", "_law_names_here", "_law_at"]) (acx:uF P w K mg base):vP P w K mg base:=
 F.ok (k:=3) mQ λf cdv A outer s H E hr=>⟨_,λ_ _=>rfl,(az (cG 3 mQ.nd (cX au))
  (az (eO aax rfl (cI (aR acx (hr.mono (by omega)) rfl (ak (qw 0) au) (aq aM))) (bQ 4 mQ.nd) aO
  (az (rN (pv 3) (b8 (ak (gA (qw 1) (qw 2) (λ_ _=>rfl)) (ak (oY (qw 1) (lQ (bY bF bG (qw 2) aP)) (lQ (bY bF bG (bY bF bG (qw 2) aP) (qw 4)))) au))))
  (aH (cG 2 mQ.nd (bY bF bG (bY bF bG (qw 2) aP) (qw 4))))))
  (aH (gq (pv 3)))))⟩
theorem Bg (F:cj K mg "_law_program" fV ["_law_pen", "_law_ranks_here"]) (acC:vP P w K mg base) (acf:qx P w K mg base) (ab1:du P w K mg base) (aci:wZ P w K mg base) (ab8:Hs P w K mg base):tE P w K mg base:=
 F.ok (k:=84) bU λf cdv A outer s H E hr=>⟨_,λ_ _=>rfl,(az (cG 2 bU.nd (aR acf (hr.mono (by omega)) rfl (ak (qw 0) (ak aP au)) (aq (aq aM))))
  (az (cG 3 bU.nd (Oc (cX (ak (b8 (ak (qI (qw 2)) (ak aP (ak (aR aci (hr.mono (by omega)) rfl (ak (qw 0) (ak (qw 1) au)) (aq (aq aM))) au)))) au))))
  (az (eO aax rfl (jh rfl (jG B) (ak (aR ab1 (hr.mono (by omega)) rfl (ak (qw 0) (ak (gA (cX (ak aP (ak aP (ak aP (ak aP au))))) (aR ab1 (hr.mono (by omega)) rfl (ak (qw 0) (ak aP au)) (aq (aq aM))) (λ_ _=>rfl)) au)) (aq (aq aM))) au)) (bQ 4 bU.nd) aO
  (aH (UL (m6 (xT aa2 PySem.F.slot_list_append PySem.F.type_list_append vZ (qw 3) (ak (b8 (ak (gA (qw 2) (bY bF bG aP (qw 4)) (λ_ _=>rfl)) (ak (wI (Ds rfl) Xb (gD (Ds rfl) (by rfl) (Yz B) (by kernel_rfl) (ak aP (ak (bY lr jC (aR ab1 (hr.mono (by omega)) rfl (ak (qw 0) (ak aP au)) (aq (aq aM))) aP) au)))) (ak (aR aci (hr.mono (by omega)) rfl (ak (qw 0) (ak (qw 1) au)) (aq (aq aM))) au)))) au))))))
  (az (cG 5 bU.nd (cX au))
  (az (eO aax rfl (jh rfl (jG B) (ak (aR ab1 (hr.mono (by omega)) rfl (ak (qw 0) (ak (gA (cX (ak aP (ak aP (ak aP au)))) (aR ab1 (hr.mono (by omega)) rfl (ak (qw 0) (ak aP au)) (aq (aq aM))) (λ_ _=>rfl)) au)) (aq (aq aM))) au)) (bQ 4 bU.nd) aO
  (az (cG 6 bU.nd (gA (qw 1) (aR ab1 (hr.mono (by omega)) rfl (ak (qw 0) (ak (qL (fG B) (qw 1)) au)) (aq (aq aM))) (λ_ _=>rfl)))
  (aH (rN (pv 5) (b8 (ak (gA (qw 2) (bY gY gr (bY mz km aP (qw 4)) aP) (λ_ _=>rfl)) (ak (qw 6) (ak (gA (qw 1) (aR ab1 (hr.mono (by omega)) rfl (ak (qw 0) (ak (qL (fG B) (qw 1)) au)) (aq (aq aM))) (λ_ _=>rfl)) au))))))))
  (az (cG 7 bU.nd (aR acC (hr.mono (by omega)) rfl (ak (qw 0) (ak (qw 2) (ak (Lw (gD oK (by rfl) (fG B) abl (ak (qw 3) au))) au))) (aq (aq (aq aM)))))
  (az (Hm (i:=8) ["_law_box"] [] [] bU.nd rfl rfl rfl (jw (aL fV)) (cI (qw 3)) (λ_ _ _ _=>(bQ 0 (show (["_law_box"]:List Str).Nodup from by decide +kernel))) aO (λ_ _ _ _=>(lB (bB (dh hr) di (qI (qw 0)) aP (bx _)))) (λ_ _ _ _=>(qI (qw 0))))
  (az (Hm (i:=9) ["_law_box"] [] [] bU.nd rfl rfl rfl (jw (aL fV)) (cI (qw 3)) (λ_ _ _ _=>(bQ 0 (show (["_law_box"]:List Str).Nodup from by decide +kernel))) aO (λ_ _ _ _=>(lB (bB Fp Ae (qI (qw 0)) aP (bx _)))) (λ_ _ _ _=>(qI (qw 0))))
  (az (kj (i:=10) ["_law_grant"] [] [] bU.nd rfl rfl rfl (jw (aL fV)) (cI (qw 5)) (λ_ _ _ _=>(bQ 0 (show (["_law_grant"]:List Str).Nodup from by decide +kernel))) aO (λ_ _ _ _=>dF) (λ_ _ _ _=>(qI (qw 0))))
  (az (kj (i:=11) ["_law_name", "_law_params"] [] [] bU.nd rfl rfl rfl (jw (aL fV)) (cI (qw 7)) (λ_ _ _ _=>(d9 rfl (aW (bQ 0 (show (["_law_name", "_law_params"]:List Str).Nodup from by decide +kernel)) (aW (bQ 1 (show (["_law_name", "_law_params"]:List Str).Nodup from by decide +kernel)) dm)))) (eE (bf aO (bf aO dY))) (λ_ _ _ _=>dF) (λ_ _ _ _=>(b8 (ak (qw 0) (ak (qL (fG B) (qw 1)) au)))))
  (az (cG 12 bU.nd (cX au))
  (az (eO aax rfl (cI (qw 7)) (d9 rfl (aW (bQ 13 bU.nd) (aW (bQ 14 bU.nd) dm))) (eE (bf aO (bf aO dY)))
  (az (cG 15 bU.nd (aR ab8 (hr.mono (by omega)) rfl (ak (qw 0) (ak aP (ak (cX (ak (bY bF bG (bY bF bG (qw 8) (cX (ak (qw 13) au))) (qw 14)) (ak (qw 9) (ak (qw 10) (ak (qw 11) au))))) (ak aP au)))) (aq (aq (aq (aq aM))))))
  (az (kj (i:=16) ["_law_param"] ["_law_pen", "_law_ranks_here"] [0,1] bU.nd rfl rfl rfl (jw (aL fV)) (cI (qw 14)) (λ_ _ _ _=>(bQ 0 (show (["_law_param", "_law_pen", "_law_ranks_here"]:List Str).Nodup from by decide +kernel))) aO (λ_ _ _ _=>dF) (λ_ _ _ _=>(b8 (ak (qw 0) (ak (aR aci (hr.mono (by omega)) rfl (ak (qw 1) (ak (qw 2) au)) (aq (aq aM))) au)))))
  (aH (rN (pv 12) (b8 (ak (qw 13) (ak (aR aci (hr.mono (by omega)) rfl (ak (qw 0) (ak (qw 1) au)) (aq (aq aM))) (ak (qw 16) (ak (qw 15) au))))))))))
  (az (cG 15 bU.nd (Yv (aR ab8 (hr.mono (by omega)) rfl (ak (qw 0) (ak aP (ak (cX (ak (qw 8) (ak (qw 9) (ak (qw 10) (ak (qw 11) au))))) (ak (gA (cX (ak aP (ak aP (ak aP au)))) (aR ab1 (hr.mono (by omega)) rfl (ak (qw 0) (ak aP au)) (aq (aq aM))) (λ_ _=>rfl)) au)))) (aq (aq (aq (aq aM)))))))
  (aH (bC (b8 (ak (qw 3) (ak (qw 5) (ak (qw 12) (ak (qw 15) au))))))))))))))))))))⟩
theorem Fg (F:cj K mg "_law_drawn" rR ["_law_script"]) (acd:sr P w K mg base) (acs:tE P w K mg base) (acD:vO P w K mg base):vQ P w K mg base:=
 F.ok (k:=85) j7 λf cdv A outer s H E hr=>⟨_,λ_ _=>rfl,(@az _ _ _ _ _ (@cG _ 1 _ _ _ _ _ j7.nd (gA (cX (ak aP (ak aP (ak aP (ak aP (ak aP (ak aP au))))))) (bY gY gr (aR acd (hr.mono (by omega)) rfl (ak (qw 0) (ak aP au)) (aq (aq aM))) aP) (λ_ _=>rfl)) (by rfl) (by exact Or.inl rfl) (by rfl) (by first | exact .inl rfl | exact .inr rfl | assumption))
  (@az _ _ _ _ _ (@cG _ 2 _ _ _ _ _ j7.nd (Oc (cX (ak (qw 0) (ak aP (ak aP (ak (qw 1) (ak (gA (cX (ak aP (ak aP (ak aP au)))) (bY gY gr (aR acd (hr.mono (by omega)) rfl (ak (qw 0) (ak aP au)) (aq (aq aM))) aP) (λ_ _=>rfl)) au))))))) (by rfl) (by exact Or.inl rfl) (by rfl) (by first | exact .inl rfl | exact .inr rfl | assumption))
  (@az _ _ _ _ _ (Aa (aR acD (hr.mono (by omega)) rfl (ak (qw 2) au) (aq aM)) (d9 rfl (aW (bQ 3 j7.nd) (aW (bQ 4 j7.nd) dm))) (eE (bf aO (bf aO dY))))
  (@aH _ _ _ (@bC _ _ _ _ (cX (ak (qw 3) (ak (qw 4) (ak (aR acs (hr.mono (by omega)) rfl (ak (qw 2) (ak (qw 3) au)) (aq (aq aM))) au)))))))))⟩
theorem HD (F:cj K mg "_law_flat" kI ["_law_program_here"]):w5 P w K mg base:=
 F.ok (k:=0) fH λf cdv A outer s H E hr=>⟨_,λ_ _=>rfl,(az (cG 1 fH.nd (cX au))
  (az (cG 2 fH.nd (cX au))
  (az (eO aax rfl (cI (bY bF bG (cX (ak (qI (qw 0)) au)) (jz ["_law_one"] [] [] rfl (jw (aL kI)) (Hj rfl (vp B) (ak (qI (qw 0)) au)) (λ_ _ _ _=>(bQ 0 (show (["_law_one"]:List Str).Nodup from by decide +kernel))) aO (λ_ _ _ _=>dF) (λ_ _ _ _=>(qI (qw 0)))))) (bQ 3 fH.nd) aO
  (aH (cG 2 fH.nd (bY bF bG (qw 2) (jz ["_law_row_here"] [] [] rfl (jw (aL kI)) (Hj rfl (vp B) (ak (qw 3) au)) (λ_ _ _ _=>(bQ 0 (show (["_law_row_here"]:List Str).Nodup from by decide +kernel))) aO (λ_ _ _ _=>dF) (λ_ _ _ _=>(qw 0)))))))
  (az (uQ 400 aax (Ag (bB (pN hr) pO (qw 2) (cX au) (bx _)))
  (az (cG 4 fH.nd (ZQ (vY aa2 PySem.F.slot_list_pop PySem.F.type_list_pop Wk (pv 2))))
  (az (rN (pv 1) (qw 4))
  (az (cG 5 fH.nd (cX au))
  (az (bT (bB (uw hr) qM (qI (qw 4)) (b8 (ak gC (ak gC au))) (by with_unfolding_all rfl))
  (aH (cG 5 fH.nd (PE.imp (ni nH (by rfl) (Aw B) (by kernel_rfl) (ak (qI (qw 4)) au)) (rD xZ))))
  bw)
  (az (bT (bB (dh hr) di (qI (qw 4)) gC (bx _))
  (aH (cG 5 fH.nd (bY bF bG (qw 5) (qI (qw 4)))))
  bw)
  (aH (cG 2 fH.nd (bY bF bG (qw 2) (jz ["_law_one"] [] [] rfl (jw (aL kI)) (Hj rfl (vp B) (ak (qw 5) au)) (λ_ _ _ _=>(bQ 0 (show (["_law_one"]:List Str).Nodup from by decide +kernel))) aO (λ_ _ _ _=>dF) (λ_ _ _ _=>(qw 0))))))))))))
  (aH (gq (pv 1)))))))⟩
theorem Jw (F:cj K mg "_law_due" vf ["_law_program_here"]) (acG:w5 P w K mg base):yI P w K mg base:=
 F.ok (k:=1) cZ λf cdv A outer s H E hr=>⟨_,λ_ _=>rfl,(az (cG 1 cZ.nd Hg)
  (az (eO aax rfl (cI (qI (qw 0))) (d9 rfl (aW (bQ 2 cZ.nd) (aW (bQ 3 cZ.nd) (aW (bQ 4 cZ.nd) dm)))) (eE (bf aO (bf aO (bf aO dY))))
  (aH (bT (bB m7 lC (qw 4) qy (bx _))
  (aH (kE (iB (qw 4) (je (pv 1) (bY bF bG gC (qw 2)) (set_dict (gG hr))))))
  bw)))
  (az (eO aax rfl (cI (qI (qw 0))) (d9 rfl (aW (bQ 2 cZ.nd) (aW (bQ 4 cZ.nd) (aW (bQ 5 cZ.nd) (aW (bQ 6 cZ.nd) dm))))) (eE (bf aO (bf aO (bf aO (bf aO dY)))))
  (az (bT (bB m7 lC (qw 4) qy (bx _))
  (aH (kE (iB (qw 4) (je (pv 1) (bY bF bG gC (qw 2)) (set_dict (gG hr))))))
  bw)
  (aH (eO aax rfl (cI (qw 5)) (d9 rfl (aW (bQ 7 cZ.nd) (aW (bQ 8 cZ.nd) dm))) (eE (bf aO (bf aO dY)))
  (aH (bT (bB m7 lC (qw 8) qy (bx _))
  (aH (kE (iB (qw 8) (je (pv 1) (bY bF bG gC (qw 7)) (set_dict (gG hr))))))
  bw))))))
  (az (eO aax rfl (Cw rfl (ue B) (ak (aR acG (hr.mono (by omega)) rfl (ak (qw 0) au) (aq aM)) au)) (d9 rfl (aW (bQ 9 cZ.nd) (aW (bQ 10 cZ.nd) dm))) (eE (bf aO (bf aO dY)))
  (aH (eO aax rfl (cI (qI (qw 0))) (d9 rfl (aW (bQ 11 cZ.nd) (aW (bQ 12 cZ.nd) (aW (bQ 13 cZ.nd) dm)))) (eE (bf aO (bf aO (bf aO dY))))
  (aH (bT (PW.pt (lu (bB (dh hr) di (qI (qw 10)) gC (bx _)) (kh (bB (dh hr) di (qI (qw 10)) (qw 11) (bx _)))))
  (az (kE (iB (qw 12) (je (pv 1) (bY bF bG gC (PE.imp (ni vW (by rfl) (Mg B) (by kernel_rfl) (ak (qw 9) au)) (rD Og))) (set_dict (gG hr)))))
  (aH (kE (iB (qw 13) (je (pv 1) (bY bF bG gC (PE.imp (ni vW (by rfl) (Mg B) (by kernel_rfl) (ak (qw 9) au)) (rD Og))) (set_dict (gG hr)))))))
  bw)))))
  (aH (gq (pv 1)))))))⟩
theorem HF (F:cj K mg "_law_same" uc ["_law_got", "_law_due_here"]):w6 P w K mg base:=
 F.ok (k:=0) wV λf cdv A outer s H E hr=>⟨_,λ_ _=>rfl,(az (bT (PW.pt (xU (pL (j0 (ZS (gD Rw (by rfl) (wX B) (by kernel_rfl) (ul (qw 0) (ul (Jy (v:=.ty "dict") (u:=.type "dict") rfl (Xm B) (by kernel_rfl) rfl) Gn)))) (λ_=>rfl))) (uq (bB (Oq hr) J5 (S8 (gD Ec (by rfl) (fG B) abl (ak (qw 0) au))) (S8 (gD Ec (by rfl) (fG B) abl (ak (qw 1) au))) (bx _)))))
  (aH (bC (qc qC dX)))
  bw)
  (az (Cy aax rfl (qw 1) (bQ 2 wV.nd) aO
  (aH (bT (PW.pt (xU (pL (j0 (Z8 (gD Jp (by rfl) (wX B) (by kernel_rfl) (ul (Yy (gG hr) (qw 0) (qw 2) ⟨rfl,rfl,rfl,rfl⟩) (ul (Jy (v:=.ty "str") (u:=.type "str") rfl (Mg B) (by kernel_rfl) rfl) Gn)))) (λ_=>rfl))) (uq (bB (Oq hr) J5 (Ak (gG hr) (qw 0) (qw 2) (λ_ _=>rfl)) (Ak (gG hr) (qw 1) (qw 2) (λ_ _=>rfl)) (bx _)))))
  (aH (bC (qc qC dX)))
  bw)))
  (aH (bC (qc qC dX)))))⟩
theorem xm (F:S6 K acy "__init__" "Order.__init__" gZ ["self", "names", "pairs"]) (ab7:oh P w K mg base) (aca:pD P w K mg base) (aco:wY P w K mg base) (acu:tB P w K mg base) (acv:tD P w K mg base):Xg P w K mg base acy "__init__" 6 ["self", "names", "pairs"] (cH K 3 ie):=
 F.ok (k:=5) wW λf cdv A outer s H E hr=>⟨_,λ_ _=>rfl,(az (JN (aR acu (hr.mono (by omega)) rfl (ak (qw 1) (ak (qw 2) au)) (aq (aq aM))))
  (az (JN (aR acv (hr.mono (by omega)) rfl (ak (qw 1) (ak (qw 2) au)) (aq (aq aM))))
  (az (qQ ab3 (ab4 _ (.head _)) (qw 0) (PE.imp (ni nH (by rfl) (Aw B) (by kernel_rfl) (ak (qw 1) au)) (rD xZ)))
  (az (qQ ab3 (ab4 _ (mI 1 rfl)) (qw 0) (Hh (aR ab7 (hr.mono (by omega)) rfl (ak (qw 1) (ak (qw 2) au)) (aq (aq aM)))))
  (az (qQ ab3 (ab4 _ (mI 2 rfl)) (qw 0) (aR aco (hr.mono (by omega)) rfl (ak (Rm ab3 (ab4 _ (mI 1 rfl)) (qw 0)) au) (aq aM)))
  (az (qQ ab3 (ab4 _ (mI 3 rfl)) (qw 0) (aR aco (hr.mono (by omega)) rfl (ak (Hh (aR aca (hr.mono (by omega)) rfl (ak (qw 1) (ak (qw 2) au)) (aq (aq aM)))) au) (aq aM)))
  (az (qQ ab3 (ab4 _ (mI 4 rfl)) (qw 0) (Ak (gG hr) (jz ["name"] ["self", "names"] [0,1] rfl (jw (aL gZ)) (cI (qw 1)) (λ_ _ _ _=>(bQ 0 (show (["name", "self", "names"]:List Str).Nodup from by decide +kernel))) aO (λ_ _ _ _=>(lB (bB (Oo hr) J4 (Lw (gD oK (by rfl) (fG B) abl (ak (Ak (gG hr) (Rm ab3 (ab4 _ (mI 1 rfl)) (qw 1)) (qw 0) (λ_ _=>rfl)) au))) (Lw (gD oK (by rfl) (fG B) abl (ak (qw 2) au))) (bx _)))) (λ_ _ _ _=>(qw 0))) aP (λ_ _=>rfl)))
  (aH (qQ ab3 (ab4 _ (mI 5 rfl)) (qw 0) (Ak (gG hr) (jz ["name"] ["self"] [0] rfl (jw (aL gZ)) (cI (qw 1)) (λ_ _ _ _=>(bQ 0 (show (["name", "self"]:List Str).Nodup from by decide +kernel))) aO (λ_ _ _ _=>(lB (bB (Oo hr) J4 (Lw (gD oK (by rfl) (fG B) abl (ak (Ak (gG hr) (Rm ab3 (ab4 _ (mI 1 rfl)) (qw 1)) (qw 0) (λ_ _=>rfl)) au))) aP (bx _)))) (λ_ _ _ _=>(qw 0))) aP (λ_ _=>rfl)))))))))))⟩
theorem Xn {f:Addr} {fd:FuncData} (F:sH K "law" "law" vg f fd) (acn:xf P w K mg base acy) (acq:vQ P w K mg base) (acr:yI P w K mg base) (ace:w6 P w K mg base) (ab9:vM P w K mg base):oM P w K mg base oG 87 f fd ["_law_script"] (cH K 1 FP):=
 sH.okP (k:=86) F pX λcdv A outer s H E hr=>⟨_,λ_ _=>rfl,(@az _ _ _ _ _ (Aa (aR acq (hr.mono (by omega)) rfl (ak (qw 0) au) (aq aM)) (d9 rfl (aW (bQ 1 pX.nd) (aW (bQ 2 pX.nd) (aW (bQ 3 pX.nd) dm)))) (eE (bf aO (bf aO (bf aO dY)))))
  (@az _ _ _ _ _ (@cG _ 4 _ _ _ _ _ pX.nd (Yw ab3 acn (hr.mono (by omega)) rfl (ak (qw 1) (ak (qw 2) au)) (Xi (aq (aq aM)))) (by rfl) (by exact Or.inl rfl) (by rfl) (by first | exact .inl rfl | exact .inr rfl | assumption))
  (@az _ _ _ _ _ (@cG _ 5 _ _ _ _ _ pX.nd (Hh (pR acr (hr.mono (by omega)) rfl (ak (qw 3) au) (aq aM))) (by rfl) (by exact Or.inl rfl) (by rfl) (by first | exact .inl rfl | exact .inr rfl | assumption))
  (@az _ _ _ _ _ (@cG _ 6 _ _ _ _ _ pX.nd (pR ab9 (hr.mono (by omega)) rfl (ak (qw 4) (ak (qw 3) au)) (aq (aq aM))) (by rfl) (by exact Or.inl rfl) (by rfl) (by first | exact .inl rfl | exact .inr rfl | assumption))
  (@az _ _ _ _ _ (@bT _ _ _ _ _ _ _ _ (PW.pt (xU (Ag (pL (j0 (aR ace (hr.mono (by omega)) rfl (ak (qw 6) (ak (qw 5) au)) (aq (aq aM))) (λ_=>rfl)))) (uq (UV (bB (pN hr) pO (qw 3) (Xk (qI (aR acq (hr.mono (by omega)) rfl (ak (qw 0) au) (aq aM)))) (bx _))))))
  (@aH _ _ _ (@bC _ _ _ _ (qc qC dX))) bw)
  (@az _ _ _ _ _ (@cG _ 7 _ _ _ _ _ pX.nd (pR ab9 (hr.mono (by omega)) rfl (ak (qw 4) (ak (qw 3) au)) (aq (aq aM))) (by rfl) (by exact Or.inl rfl) (by rfl) (by first | exact .inl rfl | exact .inr rfl | assumption))
  (@az _ _ _ _ _ (U0 (m6 (vY PySem.F.plainAttrs_dict PySem.F.slot_dict_clear PySem.F.type_dict_clear Ox (pv 6))))
  (@az _ _ _ _ _ (kE (iB gC (je (pv 6) (Ov (bY bF bG gC (qI (qI (qI (qw 3)))))) (set_dict (gG hr)))))
  (@az _ _ _ _ _ (@bT _ _ _ _ _ _ _ _ (pL (j0 (aR ace (hr.mono (by omega)) rfl (ak (pR ab9 (hr.mono (by omega)) rfl (ak (qw 4) (ak (qw 3) au)) (aq (aq aM))) (ak (qw 5) au)) (aq (aq aM))) (λ_=>rfl)))
  (@aH _ _ _ (@bC _ _ _ _ (qc qC dX))) bw)
  (@az _ _ _ _ _ (zm (iB (Ov (b8 (ak (qI (qI (qI (qw 3)))) (ak aP (ak (gA (qw 1) (ZP aP) (λ_ _=>rfl)) au))))) (je (qI (qw 3)) aP set_list)))
  (@az _ _ _ _ _ (@bT _ _ _ _ _ _ _ _ (pL (j0 (aR ace (hr.mono (by omega)) rfl (ak (pR ab9 (hr.mono (by omega)) rfl (ak (qw 4) (ak (qw 3) au)) (aq (aq aM))) (ak (Hh (pR acr (hr.mono (by omega)) rfl (ak (qw 3) au) (aq aM))) au)) (aq (aq aM))) (λ_=>rfl)))
  (@aH _ _ _ (@bC _ _ _ _ (qc qC dX))) bw)
  (@az _ _ _ _ _ (UW (m6 (vY aa2 PySem.F.slot_list_clear PySem.F.type_list_clear QD (qI (qw 3)))))
  (@aH _ _ _ (@bC _ _ _ _ (WQ (aR ace (hr.mono (by omega)) rfl (ak (pR ab9 (hr.mono (by omega)) rfl (ak (qw 4) (ak (qw 3) au)) (aq (aq aM))) (ak (Hh (pR acr (hr.mono (by omega)) rfl (ak (qw 3) au) (aq aM))) au)) (aq (aq aM))) (WP (aR ace (hr.mono (by omega)) rfl (ak (qw 7) (ak (qw 5) au)) (aq (aq aM)))))))))))))))))))⟩
end
local macro_rules | `(tactic| walk_at "op")=>`(tactic| first | exact rfl | exact modP_go rfl rfl (by omega) | exact fdivP_go rfl rfl (by omega) (by omega) | exact mulP_gor rfl rfl (by omega) (by omega) | exact mulP_gol rfl rfl (by omega) (by omega) | assumption)
local macro_rules | `(tactic| walk_at "ev")=>`(tactic| first
 | ((with_reducible refine' gR ?h1 ?h2 ?h3 ?h4 ?h5); (case h1=>walk_at "ev"); (case h2=>exact rfl); (case h3=>walk_at "ev"); (case h4=>exact rfl); (case h5=>walk_at "op"))
 | ((with_reducible refine' aD ?h1 ?h2); (case h1=>walk_at "ev"); (case h2=>walk_at "ev"))
 | ((with_reducible refine' aZ ?h1 ?h2 ?h3); (case h1=>walk_at "ev"); (case h2=>exact rfl); (case h3=>exact rfl))
 | ((with_reducible refine' cJ ?h1); (case h1=>walk_at "ev"))
 | ((with_reducible refine' aB ?h1 ?h2); (case h1=>walk_at "ev"); (case h2=>walk_at "ev"))
 | ((with_reducible refine' aY ?h1 ?h2 ?h3 ?h4 ?h5); (case h1=>walk_at "ev"); (case h2=>exact rfl); (case h3=>exact rfl); (case h4=>exact rfl); (case h5=>walk_at "call"))
 | ((with_reducible refine' tR ?h1 ?h2 ?h3); (case h1=>walk_at "ev"); (case h2=>exact rfl); (case h3=>walk_at "op"))
 | ((with_reducible refine' eF ?h1 ?h2 ?h3); (case h1=>walk_at "ev"); (case h2=>exact rfl); (case h3=>exact rfl))
 | ((with_reducible refine' rF ?h1); (case h1=>walk_at "ev"))
 | ((with_reducible refine' nO ?h1 ?h2); (case h1=>walk_at "ev"); (case h2=>walk_at "ev"))
 | ((with_reducible refine' sW ?h1 ?h2); (case h1=>walk_at "ev"); (case h2=>walk_at "ev"))
 | ((with_reducible refine' rG ?h1); (case h1=>walk_at "ev"))
 | ((with_reducible refine' Hf ?h1 ?h2); (case h1=>walk_at "ev"); (case h2=>exact rfl))
 | ((with_reducible refine' mD ?h1 ?h2 ?h3); (case h1=>walk_at "ev"); (case h2=>exact rfl); (case h3=>exact rfl))
 | ((with_reducible refine' dG ?h1 ?h2 ?h3); (case h1=>walk_at "ev"); (case h2=>exact rfl); (case h3=>exact rfl))
 | ((with_reducible refine' Cr ?h1 ?h2 ?h3 ?h4); (case h1=>walk_at "ev"); (case h2=>exact rfl); (case h3=>exact rfl); (case h4=>exact rfl))
 | ((with_reducible refine' is_go ?h1 ?h2 ?h3); (case h1=>walk_at "ev"); (case h2=>exact rfl); (case h3=>exact rfl))
 | ((with_reducible refine' jj ?h1 ?h2 ?h3); (case h1=>walk_at "ev"); (case h2=>exact rfl); (case h3=>exact rfl))
 | exact rfl
 | assumption)
local macro_rules | `(tactic| walk_at "call")=>`(tactic| first | assumption | exact rfl)
abbrev SS (xs:List Str):List PV:=xs.map .str
abbrev PP (ps:List (Str×Str)):List PV:=ps.map λx=>.tup [.str x.1,.str x.2]
abbrev zS (x:List Str):Option Lc:=some (.sh (.lst (SS x)))
abbrev zP (x:List (Str×Str)):Option Lc:=some (.sh (.lst (PP x)))
abbrev zI (x:Int):Option Lc:=some (.sh (.int x))
abbrev zT (x:Str):Option Lc:=some (.sh (.str x))
abbrev wS (x:List Str):Lc:=.sh (.lst (SS x))
abbrev yL (x:List PV):Option Lc:=some (.sh (.lst x))
abbrev yO (x:List PV):Option Lc:=some (.own (.lst x))
abbrev yS (x:PV):Option Lc:=some (.sh x)
def has (xs:List Str) (x:Str):Bool:=xs.any λy=>y==x
theorem cW {xs:List Str} {x:Str}:has xs x=true ↔ x∈xs:=by
 unfold has;rw[List.any_eq_true];constructor
 . rintro⟨y,hy,e⟩;rw[<-eq_of_beq e]; exact hy
 . intro h; exact⟨x,h,by simp⟩
theorem mG {xs:List Str} {x:Str}:has xs x=false ↔ x∉xs:=by rw[<-cW]; simp
theorem in_str {x:Str}:∀xs:List Str,jO (cu 150) (.str x) (SS xs)=some (has xs x)
 | []=>rfl
 | y::ys=>by show (some (y==x)).bind (λb=>(jO (cu 150) (.str x) (SS ys)).map λc=>b||c)=_;rw[in_str ys];rfl
theorem FQ {xs:List Str} {x:Str}:ju (.str x) (.lst (SS xs))=yS (.bl (has xs x)):=by show (jO (cu 150) (.str x) (SS xs)).map _=_;rw[in_str]; rfl
theorem Bh {xs:List Str} {x:Str}:rC (.str x) (.lst (SS xs))=yS (.bl (!has xs x)):=by show (jO (cu 150) (.str x) (SS xs)).map _=_;rw[in_str]; rfl
abbrev LET:Str := "abcdefghijklmnopqrstuvwxyz"
def LE (i:Int):Nat:=97+(i%26).toNat
abbrev one (c:Nat):Str:=⟨#[c]⟩
theorem O3 (i:Int):sU (.str LET) (.int (i%26))=zT (one (LE i)):=by
 unfold LE;have h0:=aa0 i (b:=26) (by decide);have h1:=aaQ i (b:=26) (by decide);generalize i%26=r at h0 h1;obtain⟨n,rfl⟩:=Int.eq_ofNat_of_zero_le h0;have h2:n<26:=by omega
 have:∀n:Nat,n<26->(match sU (.str LET) (.int (n:Int)) with | some (.sh (.str x))=>x.cps.toList==[97+n] | _=>false)=true:=by decide +kernel
 have h3:=this n h2;split at h3
 . rename_i x e;rw[e];have h4:x.cps.toList=[97+n]:=by simpa using h3
   have h5:x=one (97+n):=by
    cases x with | mk cps=>
    show Str.mk cps=Str.mk #[97+n];congr 1;exact Array.toList_inj.mp h4
   rw[h5];rfl
 . cases h3
theorem Mp:∀cs:List Nat,Txt.join "" (cs.map one)=⟨cs.toArray⟩:=by
 intro cs;unfold Txt.join;rw[StrLaws.glued_eq_join];induction cs with
 | nil=>rfl
 | cons c cs ih=>
  cases cs with
  | nil=>rfl
  | cons d cs=>
   show (one c ++ "" ++ Str.join "" ((d::cs).map one):Str)=_;rw[ih];show Str.mk ((#[c]++#[])++(d::cs).toArray)=_;simp
theorem strs_map:∀xs:List Str,strsOf (SS xs)=some xs
 | []=>rfl
 | x::xs=>by show (strsOf (SS xs)).map _=_;rw[strs_map xs];rfl
theorem J9:∀cs:List Nat,((cs.map one).map (·.length)).sum=cs.length
 | []=>rfl
 | c::cs=>by rw[aao,aao,List.sum_cons,J9 cs,aac]; show 1+_=_; omega
theorem U3_ {fa:EF} {Y Y1:Ev} {m:Lc} {cs:List Nat} (h:fa Y=some (m,Y1)) (hm:m.pv=.lst (SS (cs.map one))) (hl:cs.length<=100):yc (adF "") (aj fa ao) Y=some (.sh (.str ⟨cs.toArray⟩),Y1):=by rw[<-Mp];refine Ri rfl (aB h rfl) rfl hm (strs_map _) ?_;rw[J9,aad,show ("" : Str).length=0 from rfl];omega
theorem HJ {xs:List Str} {x:Str}:SS xs++[.str x]=SS (xs++[x]):=by show _=List.map PV.str (xs++[x]); rw[aaz]; rfl
theorem yJ {nm:Nat->Str}:∀{n:Nat},(∀i j,i<n->j<n->nm i=nm j->i=j)->((List.range n).map nm).Nodup
 | 0,_=>by simp
 | n+1,h=>by
  rw[List.range_succ,aaz,List.map_singleton];refine abu.mpr ⟨yJ λi j hi hj=>h i j (by omega) (by omega),by simp,?_⟩;rintro a ha b hb e;obtain⟨i,hi,rfl⟩:=aar.mp ha;have hb':b=nm n:=by simpa using hb
  rw[hb']at e;have h1:=List.mem_range.mp hi;have:=h i n (by omega) (by omega) e;omega
def xn (c:Nat):Bool:=!(Builtin.Str.occurrences ("abcdefghijklmnopqrstuvwxyz" : Str) ⟨#[c]⟩ 0 ("abcdefghijklmnopqrstuvwxyz" : Str).length 1).isEmpty
def zA (x:Str):Bool:=decide ((1:Int)<=x.length)&&decide ((x.length:Int)<=8)
def nameB (x:Str):Bool:=zA x&&x.cps.toList.all xn
theorem Rz {x:Str} {o:List (Option Lc)} {mu:Mu} (hx:x.length<=100000):uy DR DR (eC (PV.int 1)) (eB dZ (aj (aa 0) ao)) (eC (PV.int 8)) ⟨zT x::o,mu⟩=some (.sh (.bl (zA x)),⟨zT x::o,mu⟩):=by
 simp[uy,eC,eB,dZ,Q7,aj,ao,aa,Ev.set,Lc.pv,DR,vJ,hx,zA];by_cases h:(1:Int)<=x.length
 . simp[h]
 . simp[h]
theorem Bj (f:Nat->Bool):∀cs:List Nat,boolsOf (cs.map λc=>.bl (f c))=some (cs.map f)
 | []=>rfl
 | c::cs=>by show (boolsOf (cs.map λc=>.bl (f c))).map _=_;rw[Bj f cs];rfl
theorem RB (f:Nat->Bool) (cs:List Nat):(cs.map f).all id=cs.all f:=by simp[List.all_map]
theorem U4 {x:Str} {mu:Mu} (hx:x.length<=100000):pY [.str x] mu=some (.sh (.bl (nameB x)),mu):=by
 have comp:dj (aA 0) bK (aC ju (aa 0) (eC jM)) (x.cps.toList.map λc=>.str ⟨#[c]⟩) ⟨[none],mu⟩ []=some (x.cps.toList.map λc=>.bl (xn c),mu):=by
  have:=wJ (b:=aA 0) (te:=aC ju (aa 0) (eC jM)) (mu:=mu) (λY=>∃o,Y=⟨[o],mu⟩) (λY ⟨o,e⟩=>by rw[e]) (λp=>match p with | .str y=>.bl (xn (y.cps.toList.getD 0 0)) | _=>.non)
   (xs:=x.cps.toList.map λc=>.str ⟨#[c]⟩) (Y:=⟨[none],mu⟩) ⟨none,rfl⟩ (by rw[aad,aa5]; exact hx) ?_ ?_
  . rw[this,aaD];rfl
  . rintro y hy Y ⟨o,rfl⟩;obtain⟨c,_,rfl⟩:=aar.mp hy;exact⟨_,rfl,_,_,rfl,rfl,_,rfl⟩
  . rintro y hy Y Y1 ⟨o,rfl⟩ h;cases h;exact⟨_,rfl⟩
 have e:pY [.str x] mu=((wC (uy DR DR (adE 1) (eB dZ (aj (aa 0) ao)) (adE 8)) (eB all1 (aj (bJ (cR (aa 0) bI) 1 [] (aA 0) bK (aC ju (aa 0) (eC jM))) ao)) ⟨[zT x],mu⟩).map λx=>Fl.rt x.1 x.2).bind λx=>match x with
  | .rt r Y=>some (r,Y.mu)
  | .nx Y=>some (.sh .non,Y.mu)
  | _=>none:=rfl
 have e2:eB all1 (aj (bJ (cR (aa 0) bI) 1 [] (aA 0) bK (aC ju (aa 0) (eC jM))) ao) ⟨[zT x],mu⟩=some (.sh (.bl (x.cps.toList.all xn)),⟨[zT x],mu⟩):=by
  have e3:bJ (cR (aa 0) bI) 1 [] (aA 0) bK (aC ju (aa 0) (eC jM)) ⟨[zT x],mu⟩=some (.own (.lst (x.cps.toList.map λc=>.bl (xn c))),⟨[zT x],mu⟩):=by show (dj (aA 0) bK (aC ju (aa 0) (eC jM)) (x.cps.toList.map λc=>.str ⟨#[c]⟩) ⟨[none],mu⟩ []).map _=_;rw[comp];rfl
  unfold eB aj;rw[e3];show (all1 [.lst _]).map _=_;show ((boolsOf (x.cps.toList.map λc=>.bl (xn c))).map _).map _=_;rw[Bj,abf,abf,RB]
 rw[e];unfold wC;rw[Rz hx,aaa];cases hl:zA x with
 | true=>
  show ((eB all1 _ _).map _).bind _=_;rw[e2];simp[nameB,hl]
 | false=>simp[nameB,hl,Lc.pv]
theorem O4 (i:Int):xn (LE i)=true:=by
 unfold LE;have h0:=aa0 i (b:=26) (by decide);have h1:=aaQ i (b:=26) (by decide);have:∀n:Nat,n<26->xn (97+n)=true:=by decide +kernel
 exact this _ (by omega)
theorem HN {x:Str} (h1:1<=x.cps.toList.length) (h2:x.cps.toList.length<=8) (h:∀c∈x.cps.toList,xn c=true):nameB x=true:=by
 unfold nameB zA;have e:x.length=x.cps.toList.length:=by rw[aa5]; rfl
 rw[aaA,aaA];exact⟨⟨abV (by omega),abV (by omega)⟩,List.all_eq_true.mpr h⟩
theorem dH {b:BF} {body:SF} {x:PV} {xs:List PV} {Y Y1 Y2:Ev} {R:Option Fl} (h1:b x Y=some Y1) (h2:body Y1=some (.nx Y2)) (h3:cU b body xs Y2=R):cU b body (x::xs) Y=R:=by show (b x Y).bind _=R;rw[h1,aaa,h2,aaa];exact h3
theorem at0 {p:PV} {t:List PV}:dW (p::t) 0=some p:=by obtain⟨x,h,h2⟩:=jQ (l:=p::t) (i:=0) (by decide) (by simp only[aac]; omega);rw[h,<-h2]; rfl
theorem xq {α:Type} {l:List α} {p q:α->Bool} (h:∀x,q x=true->p x=true) {x:α} (hx:x∈l) (h1:p x=true) (h2:q x=false):(l.filter q).length<(l.filter p).length:=by
 induction l with
 | nil=>cases hx
 | cons y ys ih=>
  have hle:∀ys:List α,(ys.filter q).length<=(ys.filter p).length:=λys=>by
   induction ys with
   | nil=>exact aan _
   | cons z zs ihz=>
    rw[List.filter_cons,List.filter_cons];cases hq:q z with
    | true=>rw[h z hq]; simp only[if_true,aac]; omega
    | false=>cases hpz:p z<;>simp only[if_true,aa1,if_false,aac]<;>omega
  rw[List.filter_cons,List.filter_cons];rcases aah.mp hx with rfl | hx
  . rw[h1,h2];simp only[if_true,aa1,if_false,aac];have:=hle ys;omega
  . have:=ih hx;cases hq:q y with
    | true=>rw[h y hq]; simp only[if_true,aac]; omega
    | false=>cases hpy:p y<;>simp only[if_true,aa1,if_false,aac]<;>omega
def hit (met:List Str) (q:Str×Str):Bool:=has met q.1&&!has met q.2
def pass:List (Str×Str)->List Str->Bool->List Str×Bool
 | [],met,g=>(met,g)
 | q::r,met,g=>if hit met q then pass r (met++[q.2]) true else pass r met g
def qz (ps:List (Str×Str)):Nat->List Str->List Str
 | 0,met=>met
 | n+1,met=>if (pass ps met false).2 then qz ps n (pass ps met false).1 else (pass ps met false).1
def fu (ps:List (Str×Str)) (x:Str):List Str:=qz ps 69 [x]
abbrev CE (N P:PV) (l2 l3 o4 o5:Option Lc) (mu:Mu):Ev:=⟨[yS N,yS P,l2,l3,o4,o5],mu⟩
abbrev Y0_:SF:=bN (lU (cQ (tT (aC ju (aa 4) (aa 2)) aV) (tT (aC rC (aa 5) (aa 2)) aV))) (aG (fX 2 (aa 5)) (aK 3 (eC (.bl true)))) bA
theorem vq:∀(ps:List (Str×Str)) (met:List Str) (g:Bool),(pass ps met g).1.length<=met.length+ps.length
 | [],met,g=>by simp[pass]
 | q::r,met,g=>by
  unfold pass;split
  . have:=vq r (met++[q.2]) true;simp at this ⊢; omega
  . have:=vq r met g;simp at this ⊢; omega
theorem CZ {N P:PV} {mu:Mu}:∀(ps:List (Str×Str)) (met:List Str) (g:Bool) (o4 o5:Option Lc),met.length+ps.length<=10000->
 ∃o4' o5',cU (b7 2 (aJ (aA 4) (aJ (aA 5) bZ))) Y0_ (PP ps) (CE N P (yO (SS met)) (yS (.bl g)) o4 o5 mu)=some (.nx (CE N P (yO (SS (pass ps met g).1)) (yS (.bl (pass ps met g).2)) o4' o5' mu))
 | [],met,g,o4,o5,_=>⟨o4,o5,rfl⟩
 | q::r,met,g,o4,o5,hz=>by
  rw[aac]at hz;have t1:lU (cQ (tT (aC ju (aa 4) (aa 2)) aV) (tT (aC rC (aa 5) (aa 2)) aV)) (CE N P (yO (SS met)) (yS (.bl g)) (yS (.str q.1)) (yS (.str q.2)) mu)=some (hit met q,CE N P (yO (SS met)) (yS (.bl g)) (yS (.str q.1)) (yS (.str q.2)) mu):=
   rG (nO (eF (gR rfl rfl rfl rfl FQ) rfl rfl) (eF (gR rfl rfl rfl rfl Bh) rfl rfl))
  unfold pass;cases hh:hit met q with
  | true=>
   obtain⟨a,b,e⟩:=CZ r (met++[q.2]) true (yS (.str q.1)) (yS (.str q.2)) (by simp; omega);refine⟨a,b,?_⟩;rw[abR rfl];refine dH rfl ((lV (t1.trans (by rw[hh]))).trans (aD (lE (l:=.sh (.str q.2)) rfl rfl rfl rfl (by rw[aad]; omega) rfl) (aZ rfl rfl rfl))) ?_;show cU _ _ _ (CE N P (yO (SS met++[.str q.2])) (yS (.bl true)) (yS (.str q.1)) (yS (.str q.2)) mu)=_;rw[HJ];exact e
  | false=>
   obtain⟨a,b,e⟩:=CZ r met g (yS (.str q.1)) (yS (.str q.2)) (by omega);refine⟨a,b,?_⟩;rw[abS aaV];exact dH rfl ((gm (t1.trans (by rw[hh]))).trans rfl) e
theorem nq:∀(ps:List (Str×Str)) (met:List Str) (g:Bool) (x:Str),x∈met->x∈(pass ps met g).1
 | [],met,g,x,h=>h
 | q::r,met,g,x,h=>by
  unfold pass;split
  . exact nq r _ _ x (aaM _ h)
  . exact nq r _ _ x h
theorem vy {P:Str->Prop}:∀(ps:List (Str×Str)) (met:List Str) (g:Bool),(∀q∈ps,P q.1->P q.2)->(∀x∈met,P x)->∀x∈(pass ps met g).1,P x
 | [],met,g,_,h=>h
 | q::r,met,g,hq,h=>by
  unfold pass;split
  . rename_i hh;refine vy r _ _ (λq' h'=>hq q' (aai _ h')) λx hx=>?_;rcases aaH.mp hx with hx | hx
    . exact h x hx
    . have e:x=q.2:=by simpa using hx
      subst e;unfold hit at hh;rw[aaA]at hh;exact hq q aab (h _ (cW.mp hh.1))
  . exact vy r _ _ (λq' h'=>hq q' (aai _ h')) h
theorem qH:∀(ps:List (Str×Str)) (met:List Str) (g:Bool),met.Nodup->(pass ps met g).1.Nodup
 | [],met,g,h=>h
 | q::r,met,g,h=>by
  unfold pass;split
  . rename_i hh;unfold hit at hh;rw[aaA]at hh;have hn:q.2∉met:=mG.mp (by simpa using hh.2);refine qH r _ _ (abu.mpr ⟨h,by simp,?_⟩);rintro a ha b hb e;have:b=q.2:=by simpa using hb
    subst this e;exact hn ha
  . exact qH r _ _ h
theorem Dc:∀(ps:List (Str×Str)) (met:List Str),(pass ps met true).2=true
 | [],met=>rfl
 | q::r,met=>by
  unfold pass;split
  . exact Dc r _
  . exact Dc r _
theorem Ka:∀(ps:List (Str×Str)) (met:List Str),(pass ps met false).2=false->(pass ps met false).1=met/\∀q∈ps,q.1∈met->q.2∈met
 | [],met,_=>⟨rfl,λq h=>by cases h⟩
 | q::r,met,h=>by
  unfold pass at h ⊢;split at h
  . rw[Dc]at h; cases h
  . rename_i hh;obtain⟨h1,h2⟩:=Ka r met h;rw[abS hh];refine⟨h1,λq' hq' h3=>?_⟩;rcases aah.mp hq' with rfl | hq'
    . refine Decidable.byContradiction λh4=>hh ?_;unfold hit;rw[cW.mpr h3,mG.mpr h4];rfl
    . exact h2 q' hq' h3
theorem HQ:∀(ps:List (Str×Str)) (met:List Str),(pass ps met false).2=true->∃q∈ps,q.2∉met/\q.2∈(pass ps met false).1
 | [],met,h=>by cases h
 | q::r,met,h=>by
  unfold pass at h ⊢;split at h
  . rename_i hh;rw[abR hh];have hh':=hh;unfold hit at hh';rw[aaA]at hh';exact⟨q,aab,mG.mp (by simpa using hh'.2),nq _ _ _ _ (aaG _ (by simp))⟩
  . rename_i hh;rw[abS hh];obtain⟨q',h1,h2⟩:=HQ r met h;exact⟨q',aai _ h1,h2⟩
theorem HR {ps:List (Str×Str)}:∀(n:Nat) (met:List Str) (x:Str),x∈met->x∈qz ps n met
 | 0,met,x,h=>h
 | n+1,met,x,h=>by
  unfold qz;split
  . exact HR n _ x (nq _ _ _ x h)
  . exact nq _ _ _ x h
theorem Dd {P:Str->Prop} {ps:List (Str×Str)} (hq:∀q∈ps,P q.1->P q.2):∀(n:Nat) (met:List Str),(∀x∈met,P x)->∀x∈qz ps n met,P x
 | 0,met,h=>h
 | n+1,met,h=>by
  unfold qz;split
  . exact Dd hq n _ (vy _ _ _ hq h)
  . exact vy _ _ _ hq h
theorem Ef {ps:List (Str×Str)}:∀(n:Nat) (met:List Str),met.Nodup->(qz ps n met).Nodup
 | 0,met,h=>h
 | n+1,met,h=>by
  unfold qz;split
  . exact Ef n _ (qH _ _ _ h)
  . exact qH _ _ _ h
abbrev left (ps:List (Str×Str)) (met:List Str):Nat:=(ps.filter λq=>!has met q.2).length
theorem Kc {ps:List (Str×Str)} {met:List Str} (h:(pass ps met false).2=true):left ps (pass ps met false).1<left ps met:=by
 obtain⟨q,h1,h2,h3⟩:=HQ ps met h;refine xq (λx hx=>?_) h1 (by rw[mG.mpr h2]; rfl) (by rw[cW.mpr h3]; rfl);have h4:has (pass ps met false).1 x.2=false:=by simpa using hx
 rw[mG.mpr λz=>mG.mp h4 (nq _ _ _ _ z)];rfl
theorem Bk {ps:List (Str×Str)}:∀(n:Nat) (met:List Str),left ps met<n->∀q∈ps,q.1∈qz ps n met->q.2∈qz ps n met
 | n+1,met,h=>by
  unfold qz;split
  . rename_i hh;exact Bk n _ (by have:=Kc hh; omega)
  . rename_i hh;have hh':(pass ps met false).2=false:=by simpa using hh
    obtain⟨h1,h2⟩:=Ka ps met hh';rw[h1];exact h2
abbrev HS:SF:=aG (aK 3 (eC (.bl false))) (dM (cR (aa 1) bI) (b7 2 (aJ (aA 4) (aJ (aA 5) bZ))) Y0_)
theorem sy {N:PV} {ps:List (Str×Str)} {mu:Mu}:∀(n:Nat) (met:List Str) (o4 o5:Option Lc),left ps met<n->met.length+n*ps.length<=10000->
 ∃o4' o5',lA (tT (aa 3) fB) HS (n+1) (CE N (.lst (PP ps)) (yO (SS met)) (yS (.bl true)) o4 o5 mu)=some (.nx (CE N (.lst (PP ps)) (yO (SS (qz ps n met))) (yS (.bl false)) o4' o5' mu))
 | n+1,met,o4,o5,hn,hl=>by
  have hp:=vq ps met false;have e0:(n+1)*ps.length=n*ps.length+ps.length:=Nat.succ_mul _ _;obtain⟨a,b,e⟩:=CZ (N:=N) (P:=.lst (PP ps)) (mu:=mu) ps met false o4 o5 (by omega);have hb:HS (CE N (.lst (PP ps)) (yO (SS met)) (yS (.bl true)) o4 o5 mu)=some (.nx (CE N (.lst (PP ps)) (yO (SS (pass ps met false).1)) (yS (.bl (pass ps met false).2)) a b mu)):=
   aD (Y':=CE N (.lst (PP ps)) (yO (SS met)) (yS (.bl false)) o4 o5 mu) (aZ rfl rfl rfl) (dq (Y1:=CE N (.lst (PP ps)) (yO (SS met)) (yS (.bl false)) o4 o5 mu) (jj (l:=.sh (.lst (PP ps))) rfl rfl rfl) e)
  have hw:∀(k:Nat),lA (tT (aa 3) fB) HS (k+1) (CE N (.lst (PP ps)) (yO (SS met)) (yS (.bl true)) o4 o5 mu)=lA (tT (aa 3) fB) HS k (CE N (.lst (PP ps)) (yO (SS (pass ps met false).1)) (yS (.bl (pass ps met false).2)) a b mu):=λk=>by show ((tT (aa 3) fB _).bind _)=_;rw[show tT (aa 3) fB (CE N (.lst (PP ps)) (yO (SS met)) (yS (.bl true)) o4 o5 mu)=some (true,CE N (.lst (PP ps)) (yO (SS met)) (yS (.bl true)) o4 o5 mu) from rfl,aaa,abR rfl,hb,aaa]
  unfold qz;rw[hw];split
  . rename_i hh;rw[hh];exact sy n _ a b (by have:=Kc hh; omega) (by omega)
  . rename_i hh;have hh':(pass ps met false).2=false:=by simpa using hh
    rw[hh'];exact⟨a,b,rfl⟩
theorem Mq {x:Str} {ps:List (Str×Str)} {mu:Mu} (hl:ps.length<=68):sZ [.str x,.lst (PP ps)] mu=some (.own (.lst (SS (fu ps x))),mu):=by obtain⟨a,b,e⟩:=sy (N:=.str x) (ps:=ps) (mu:=mu) 69 [x] none none (by have:=List.length_filter_le (λq:Str×Str=>!has [x] q.2) ps; show (ps.filter _).length<69; omega) (by simp; omega);exact aX (Y:=CE (.str x) (.lst (PP ps)) none (yS (.bl false)) a b mu) (aD (Y':=CE (.str x) (.lst (PP ps)) (yO (SS [x])) none none none mu) (aZ (mD (ls:=[.sh (.str x)]) rfl rfl rfl) rfl rfl) (aD (Y':=CE (.str x) (.lst (PP ps)) (yO (SS [x])) (yS (.bl true)) none none mu) (aZ rfl rfl rfl) (aD e rfl)))
inductive Rt {α:Type} (E:α->α->Prop):α->α->Prop
 | refl (a:α):Rt E a a
 | step {a b c:α}:Rt E a b->E b c->Rt E a c
theorem Rt.trans {α:Type} {E:α->α->Prop} {a b c:α} (h:Rt E a b) (g:Rt E b c):Rt E a c:=by
 induction g with
 | refl=>exact h
 | step _ e ih=>exact ih.step e
theorem Rt.head {α:Type} {E:α->α->Prop} {a b c:α} (e:E a b) (g:Rt E b c):Rt E a c:=Rt.trans (.step (.refl a) e) g
theorem Rt.back {α:Type} {E:α->α->Prop} {a b:α} (h:Rt E a b):Rt (λx y=>E y x) b a:=by
 induction h with
 | refl=>exact .refl _
 | step _ e ih=>exact .head e ih
theorem yj {ps:List (Str×Str)} {x y:Str} (hl:ps.length<=68):y∈fu ps x ↔ Rt (λa b=>(a,b)∈ps) x y:=by
 constructor
 . refine Dd (P:=λy=>Rt (λa b=>(a,b)∈ps) x y) (λq hq h=>h.step hq) 69 [x] (λz hz=>?_) y;have:z=x:=by simpa using hz
   subst this;exact .refl _
 . intro h;induction h with
   | refl=>exact HR 69 [x] x (by simp)
   | step _ e ih=>exact Bk 69 [x] (by have:=List.length_filter_le (λq:Str×Str=>!has [x] q.2) ps; show (ps.filter _).length<69; omega) _ e ih
theorem Eg {ps:List (Str×Str)} {x:Str}:(fu ps x).Nodup:=Ef 69 [x] (by simp)
theorem Kd {ps:List (Str×Str)} {x:Str} (hl:ps.length<=68):(fu ps x).length<=10000:=by
 have:∀(n:Nat) (met:List Str),(qz ps n met).length<=met.length+n*ps.length:=by
  intro n;induction n with
  | zero=>intro met; simp[qz]
  | succ n ih=>
   intro met;have e0:(n+1)*ps.length=n*ps.length+ps.length:=Nat.succ_mul _ _;have hp:=vq ps met false;unfold qz;split
   . have:=ih (pass ps met false).1;omega
   . omega
 have:=this 69 [x];simp only[List.length_singleton]at this;unfold fu;omega
theorem Bl {α β:Type}:∀l:List (α×β),(l.map (·.1)).zip (l.map (·.2))=l
 | []=>rfl
 | x::l=>by rw[aao,aao,aa8,Bl l]
theorem De {i:Nat} {fi fv:EF} {Y Y1 Y2 Y':Ev} {x y:Lc} {p:PV} {k:Key} {l0 l:PD} (h:fv Y=some (x,Y1)) (hxp:x.pv=p) (h0:Y1.vs[i]?=some (some (.own (cD l0)))) (h2:fi Y1=some (y,Y2)) (hy:tU y.pv=some k) (h1:Y2.vs[i]?=some (some (.own (cD l)))) (hl:l.length<100000) (e:Y2.set i (some (.own (cD (jR l k p))))=Y'):eG i fi fv Y=some (.nx Y'):=by unfold eG;rw[h,aaa];dsimp only;rw[h0];unfold cD at *;dsimp only;rw[h2,aaa];dsimp only;rw[hy,h1];dsimp only;rw[aad,abR hl,Bl,hxp];rw[<-e]
theorem U5 {i:Nat} {fi:AF} {fv:EF} {Y Y1 Y2 Y':Ev} {x:Lc} {ys:List Lc} {p:PV} {k:List Key} {l0 l:jL} (h:fv Y=some (x,Y1)) (hxp:x.pv=p) (h0:Y1.vs[i]?=some (some (.own (jE l0)))) (h2:fi Y1=some (ys,Y2)) (hy:FJ (ys.map Lc.pv)=some k) (h1:Y2.vs[i]?=some (some (.own (jE l)))) (hl:l.length<100000) (hk:k.length<=1000) (e:Y2.set i (some (.own (jE (rK l k p))))=Y'):An i fi fv Y=some (.nx Y'):=by unfold An;rw[h,aaa];dsimp only;rw[h0];unfold jE at *;dsimp only;rw[h2,aaa];dsimp only;rw[hy,h1];dsimp only;rw[aad,abR ⟨hl,hk⟩,Bl,hxp];rw[<-e]
theorem Bm {fa fb:EF} {Y Y1 Y2:Ev} {l m:Lc} {d:PD} {x:Str} {p:PV} (h1:fa Y=some (l,Y1)) (hx:l.pv=.df (d.map (·.1)) (d.map (·.2))) (h2:fb Y1=some (m,Y2)) (hy:m.pv=.str x) (h3:iG d (.inr x)=some p):iH fa fb Y=some (.sh p,Y2):=by unfold iH;rw[h1,aaa,h2,aaa];dsimp only;rw[hx,hy];show (some (Sum.inr x:Key)).bind _=_;rw[aaa,Bl,h3];rfl
abbrev ab (ps:List (Str×Str)) (x:Str):Key×PV:=(.inr x,.lst (SS (fu ps x)))
abbrev jx (ps:List (Str×Str)) (l:List Str):PD:=l.map (ab ps)
theorem O5 {ps:List (Str×Str)} {x:Str}:∀{l:List Str},x∉l->iG (jx ps l) (.inr x)=none
 | [],_=>rfl
 | y::l,h=>by show (if (Sum.inr y:Key)=.inr x then _ else _)=_;rw[abS (λe=>h (by cases e; exact aab))];exact O5 λz=>h (aai _ z)
theorem uG {ps:List (Str×Str)} {x:Str}:∀{l:List Str},x∈l->iG (jx ps l) (.inr x)=some (.lst (SS (fu ps x)))
 | y::l,h=>by
  show (if (Sum.inr y:Key)=.inr x then _ else _)=_;by_cases e:y=x
  . subst e;rw[abR rfl]
  . rw[abS (λe'=>e (by cases e'; rfl))];rcases aah.mp h with h | h
    . exact absurd h.symm e
    . exact uG h
abbrev AE (N P:PV) (l2 o3:Option Lc) (mu:Mu):Ev:=⟨[yS N,yS P,l2,o3],mu⟩
theorem Bo {N:PV} {ps:List (Str×Str)} {mu:Mu} (hp:ps.length<=68):∀(xs dn:List Str) (o3:Option Lc),(dn++xs).Nodup->dn.length+xs.length<=1000->
 ∃o3',cU (aA 3) (eG 2 (aa 3) (aF sZ (aj (aa 3) (aj (aa 1) ao)))) (SS xs) (AE N (.lst (PP ps)) (some (.own (cD (jx ps dn)))) o3 mu)=some (.nx (AE N (.lst (PP ps)) (some (.own (cD (jx ps (dn++xs))))) o3' mu))
 | [],dn,o3,_,_=>⟨o3,by rw[aaW]; rfl⟩
 | x::xs,dn,o3,hd,hl=>by
  rw[aac]at hl;have hx:x∉dn:=λh=>(abu.mp hd).2.2 x h x aab rfl;obtain⟨a,e⟩:=Bo hp (N:=N) (mu:=mu) xs (dn++[x]) (zT x) (by rw[aaC]; exact hd) (by simp; omega);refine⟨a,?_⟩;rw[aaC]at e;refine dH (Y1:=AE N (.lst (PP ps)) (some (.own (cD (jx ps dn)))) (zT x) mu) rfl (De (k:=.inr x) (l0:=jx ps dn) (l:=jx ps dn) (aY (r:=.own (.lst (SS (fu ps x)))) (mu:=mu) (aB rfl (aB rfl rfl)) rfl rfl rfl (Mq hp)) rfl rfl rfl rfl rfl (by rw[aad]; omega) rfl) ?_;have e2:jR (jx ps dn) (.inr x) (.lst (SS (fu ps x)))=jx ps (dn++[x]):=by unfold jR;rw[O5 hx];show jx ps dn++[ab ps x]=List.map (ab ps) (dn++[x]);rw[aaz];rfl
  show cU _ _ _ (AE N (.lst (PP ps)) (some (.own (cD (jR (jx ps dn) (.inr x) (.lst (SS (fu ps x))))))) (zT x) mu)=_;rw[e2];exact e
theorem sE {names:List Str} {ps:List (Str×Str)} {mu:Mu} (hp:ps.length<=68) (hd:names.Nodup) (hl:names.length<=1000):fJ [.lst (SS names),.lst (PP ps)] mu=some (.own (cD (jx ps names)),mu):=by obtain⟨a,e⟩:=Bo hp (N:=.lst (SS names)) (mu:=mu) names [] none hd (by simpa using hl);exact aX (Y:=AE (.lst (SS names)) (.lst (PP ps)) none a mu) (aD (Y':=AE (.lst (SS names)) (.lst (PP ps)) (some (.own (cD (jx ps [])))) none mu) (aZ rfl rfl rfl) (aD (dq (Y1:=AE (.lst (SS names)) (.lst (PP ps)) (some (.own (cD (jx ps [])))) none mu) (jj (l:=wS names) rfl rfl rfl) e) rfl))
abbrev j8 (ps:List (Str×Str)):List (Str×Str):=ps.map λq=>(q.2,q.1)
theorem uH {names:List Str} {ps:List (Str×Str)} {mu:Mu} (hp:ps.length<=68) (hd:names.Nodup) (hl:names.length<=1000):eZ [.lst (SS names),.lst (PP ps)] mu=some (.own (cD (jx (j8 ps) names)),mu):=by
 have c:dj (b7 2 (aJ (aA 0) (aJ (aA 1) bZ))) bK (bu (aj (aa 1) (aj (aa 0) ao))) (PP ps) ⟨[none,none],mu⟩ []=some (PP (j8 ps),mu):=by
  have:=wJ (b:=b7 2 (aJ (aA 0) (aJ (aA 1) bZ))) (te:=bu (aj (aa 1) (aj (aa 0) ao))) (mu:=mu) (λY=>∃o p,Y=⟨[o,p],mu⟩) (λY ⟨o,p,e⟩=>by rw[e]) (λp=>match p with | .tup [a,b]=>.tup [b,a] | _=>.non) (xs:=PP ps) (Y:=⟨[none,none],mu⟩) ⟨none,none,rfl⟩ (by rw[aad]; omega) (by
   rintro x hx Y ⟨o,p,rfl⟩;obtain⟨⟨a,b⟩,_,rfl⟩:=aar.mp hx;exact⟨⟨[zT a,zT b],mu⟩,rfl,.sh (.tup [.str b,.str a]),⟨[zT a,zT b],mu⟩,dG (ls:=[.sh (.str b),.sh (.str a)]) rfl rfl rfl,rfl,_,_,rfl⟩) (by
   rintro x hx Y Y1 ⟨o,p,rfl⟩ e;obtain⟨⟨a,b⟩,_,rfl⟩:=aar.mp hx;cases e;exact⟨_,_,rfl⟩)
  rw[this];unfold PP j8;rw[aaD,aaD];rfl
 refine aX (Y:=⟨[zS names,zP ps],mu⟩) (cJ (aY (ls:=[wS names,.own (.lst (PP (j8 ps)))]) (ps:=[.lst (SS names),.lst (PP (j8 ps))]) (mu:=mu) (aB (Y1:=⟨[zS names,zP ps],mu⟩) rfl (aB (l:=.own (.lst (PP (j8 ps)))) (ls:=[]) ((cM (Y1:=⟨[zS names,zP ps],mu⟩) (jj (l:=.sh (.lst (PP ps))) rfl rfl rfl) c).trans rfl) rfl)) rfl rfl rfl (sE (by rw[aad]; exact hp) hd hl)))
theorem O6 {α:Type} {f:α->Bool}:∀l:List α,W2 (.lst (l.map λx=>.bl (f x)))=yS (.bl (l.all f)):=by
 intro l;have h:∀l:List α,boolsOf (l.map λx=>PV.bl (f x))=some (l.map f):=by
  intro l;induction l with
  | nil=>rfl
  | cons x l ih=>
   show (boolsOf (l.map λx=>PV.bl (f x))).map _=_;rw[ih];rfl
 show (boolsOf (l.map λx=>PV.bl (f x))).map _=_;rw[h,abf,List.all_map];rfl
abbrev DF (ps:List (Str×Str)) (names:List Str):PV:=.df ((jx ps names).map (·.1)) ((jx ps names).map (·.2))
def shd (ps:List (Str×Str)) (a b:Str):List Str:=(fu ps a).filter (has (fu ps b))
def good (ps:List (Str×Str)) (a b r:Str):Bool:=(shd ps a b).all (has (fu ps r))
def bnd (ps:List (Str×Str)) (a b:Str):PV:=match (shd ps a b).find? (good ps a b) with
 | some r=>.str r
 | none=>.non
abbrev BE (D A B:PV) (l3 o4:Option Lc) (mu:Mu):Ev:=⟨[yS D,yS A,yS B,l3,o4],mu⟩
theorem qd {ps:List (Str×Str)} {names:List Str} (hc:∀q∈ps,q.2∈names) {a x:Str} (ha:a∈names):x∈fu ps a->x∈names:=by
 refine Dd (P:=λy=>y∈names) (λq hq _=>hc q hq) 69 [a] (λz hz=>?_) x;have:z=a:=by simpa using hz
 subst this;exact ha
abbrev Tc:SF:=bN (tT (eB all1 (aj (bJ (cR (aa 3) bI) 1 [0,4] (aA 0) bK (aC ju (aa 0) (iH (aa 1) (aa 2)))) ao)) fB) (gB 4) bA
theorem O7 {b:BF} {body:SF} {x:PV} {xs:List PV} {Y Y1 Y2:Ev} {r:Lc} (h1:b x Y=some Y1) (h2:body Y1=some (.rt r Y2)):cU b body (x::xs) Y=some (.rt r Y2):=by show (b x Y).bind _=_;rw[h1,aaa,h2,aaa]
theorem Bp {ps:List (Str×Str)} {names:List Str} {a b:Str} {mu:Mu} (hl:(shd ps a b).length<=10000):∀(xs:List Str) (o4:Option Lc),(∀x∈xs,x∈names)->
 (match xs.find? (good ps a b) with
   | some r=>∃Y',cU (aA 4) Tc (SS xs) (BE (DF ps names) (.str a) (.str b) (zS (shd ps a b)) o4 mu)=some (.rt (.sh (.str r)) Y')/\Y'.mu=mu
   | none=>∃o4',cU (aA 4) Tc (SS xs) (BE (DF ps names) (.str a) (.str b) (zS (shd ps a b)) o4 mu)=some (.nx (BE (DF ps names) (.str a) (.str b) (zS (shd ps a b)) o4' mu)))
 | [],o4,_=>⟨o4,rfl⟩
 | x::xs,o4,hx=>by
  have c:dj (aA 0) bK (aC ju (aa 0) (iH (aa 1) (aa 2))) (SS (shd ps a b)) ⟨[none,yS (DF ps names),zT x],mu⟩ []=some ((shd ps a b).map λy=>.bl (has (fu ps x) y),mu):=by
   have:=wJ (b:=aA 0) (te:=aC ju (aa 0) (iH (aa 1) (aa 2))) (mu:=mu) (λY=>∃o,Y=⟨[o,yS (DF ps names),zT x],mu⟩) (λY ⟨o,e⟩=>by rw[e]) (λp=>match p with | .str y=>.bl (has (fu ps x) y) | _=>.non) (xs:=SS (shd ps a b)) (Y:=⟨[none,yS (DF ps names),zT x],mu⟩) ⟨none,rfl⟩ (by rw[aad]; omega) (by
    rintro z hz Y ⟨o,rfl⟩;obtain⟨y,_,rfl⟩:=aar.mp hz;exact⟨⟨[zT y,yS (DF ps names),zT x],mu⟩,rfl,_,_,gR rfl rfl (Bm (d:=jx ps names) rfl rfl rfl rfl (uG (hx x aab))) rfl FQ,rfl,_,rfl⟩) (by
    rintro z hz Y Y1 ⟨o,rfl⟩ e;cases e;exact⟨_,rfl⟩)
   rw[this,aaD];rfl
  have t1:tT (eB all1 (aj (bJ (cR (aa 3) bI) 1 [0,4] (aA 0) bK (aC ju (aa 0) (iH (aa 1) (aa 2)))) ao)) fB (BE (DF ps names) (.str a) (.str b) (zS (shd ps a b)) (zT x) mu)=some (good ps a b x,BE (DF ps names) (.str a) (.str b) (zS (shd ps a b)) (zT x) mu):=
   eF (tR (ls:=[.own (.lst ((shd ps a b).map λy=>.bl (has (fu ps x) y)))]) (aB ((cM (Y1:=BE (DF ps names) (.str a) (.str b) (zS (shd ps a b)) (zT x) mu) (jj (l:=wS (shd ps a b)) rfl rfl rfl) c).trans rfl) rfl) rfl (O6 (f:=has (fu ps x)) (shd ps a b))) rfl rfl
  rw[abe];cases hg:good ps a b x with
  | true=>
   obtain⟨Y',e1,e2⟩:∃Y',gB 4 (BE (DF ps names) (.str a) (.str b) (zS (shd ps a b)) (zT x) mu)=some (.rt (.sh (.str x)) Y')/\Y'.mu=mu:=⟨_,rfl,rfl⟩;exact⟨Y',O7 rfl ((lV (t1.trans (by rw[hg]))).trans e1),e2⟩
  | false=>
   have ih:=Bp (ps:=ps) (names:=names) (a:=a) (b:=b) (mu:=mu) hl xs (zT x) λy hy=>hx y (aai _ hy);dsimp only;have e:cU (aA 4) Tc (SS (x::xs)) (BE (DF ps names) (.str a) (.str b) (zS (shd ps a b)) o4 mu)=cU (aA 4) Tc (SS xs) (BE (DF ps names) (.str a) (.str b) (zS (shd ps a b)) (zT x) mu):=dH rfl ((gm (t1.trans (by rw[hg]))).trans rfl) rfl;rw[e];exact ih
theorem RC {ps:List (Str×Str)} {names:List Str} {a b:Str} {mu:Mu} (hp:ps.length<=68) (hc:∀q∈ps,q.2∈names) (ha:a∈names) (hb:b∈names):uD [DF ps names,.str a,.str b] mu=some (.sh (bnd ps a b),mu):=by
 have hl:(shd ps a b).length<=10000:=aaL (List.length_filter_le _ _) (Kd hp);have c:dj (aA 0) (tT (aC ju (aa 0) (iH (aa 1) (aa 2))) aV) (aa 0) (SS (fu ps a)) ⟨[none,yS (DF ps names),zT b],mu⟩ []=some (SS (shd ps a b),mu):=by
  have:=mX (b:=aA 0) (tc:=tT (aC ju (aa 0) (iH (aa 1) (aa 2))) aV) (te:=aa 0) (mu:=mu) (λY=>∃o,Y=⟨[o,yS (DF ps names),zT b],mu⟩) (λY ⟨o,e⟩=>by rw[e]) (λp=>match p with | .str y=>has (fu ps b) y | _=>false) (λp=>p) (xs:=SS (fu ps a)) (Y:=⟨[none,yS (DF ps names),zT b],mu⟩) (acc:=[]) ⟨none,rfl⟩ (by have:=Kd (x:=a) hp; simp; omega) (by rintro z hz Y ⟨o,rfl⟩;obtain⟨y,_,rfl⟩:=aar.mp hz;exact⟨⟨[zT y,yS (DF ps names),zT b],mu⟩,rfl,_,eF (gR rfl rfl (Bm (d:=jx ps names) rfl rfl rfl rfl (uG hb)) rfl FQ) rfl rfl,⟨_,rfl⟩,λ_=>⟨_,_,rfl,rfl,_,rfl⟩⟩)
  rw[this,aaE,List.filter_map,aaD];rfl
 have s3:aK 3 (bJ (cR (iH (aa 0) (aa 1)) bI) 1 [0,2] (aA 0) (tT (aC ju (aa 0) (iH (aa 1) (aa 2))) aV) (aa 0)) (BE (DF ps names) (.str a) (.str b) none none mu)=some (.nx (BE (DF ps names) (.str a) (.str b) (yO (SS (shd ps a b))) none mu)):=
  aZ ((cM (Y1:=BE (DF ps names) (.str a) (.str b) none none mu) (jj (l:=wS (fu ps a)) (Bm (d:=jx ps names) rfl rfl rfl rfl (uG ha)) rfl rfl) c).trans rfl) rfl rfl
 have lp:=Bp (ps:=ps) (names:=names) (a:=a) (b:=b) (mu:=mu) hl (shd ps a b) none λx hx=>qd hc ha (List.mem_filter.mp hx).1;have it:cR (aa 3) bI (BE (DF ps names) (.str a) (.str b) (yO (SS (shd ps a b))) none mu)=some (SS (shd ps a b),BE (DF ps names) (.str a) (.str b) (zS (shd ps a b)) none mu):=jj (l:=wS (shd ps a b)) rfl rfl rfl;unfold bnd;cases hf:(shd ps a b).find? (good ps a b) with
 | some r=>
  rw[hf]at lp;obtain⟨Y',e,hm⟩:=lp;have:uD [DF ps names,.str a,.str b] mu=some (.sh (.str r),Y'.mu):=aX (Y:=Y') (aD s3 (oX (dq it e)));rw[hm]at this;exact this
 | none=>
  rw[hf]at lp;obtain⟨o4,e⟩:=lp;exact aX (Y:=BE (DF ps names) (.str a) (.str b) (zS (shd ps a b)) o4 mu) (aD s3 (aD (dq it e) rfl))
abbrev en (ps:List (Str×Str)) (a b:Str):List Key×PV:=([.inr a,.inr b],bnd ps a b)
def Tb (ps:List (Str×Str)) (names:List Str) (l:jL):Prop:=∀e∈l,∃a∈names,∃b∈names,e=en ps a b
theorem HW {k:List Key} {p:PV}:∀{l:jL},rJ l k=some p->(k,p)∈l
 | kv::r,h=>by
  unfold rJ at h;split at h
  . rename_i e;cases h;subst e;exact aab
  . exact aai _ (HW h)
theorem HX {k:List Key} {p:PV}:∀{l:jL},(∀e∈l,e.1=k->e.2=p)->Am k p l=l
 | [],_=>rfl
 | kv::r,h=>by
  unfold Am;rw[HX λe he=>h e (aai _ he)];by_cases e:kv.1=k
  . rw[abR e];have:=h kv aab e;rw[<-this]
  . rw[abS e]
theorem U6_ {ps:List (Str×Str)} {names:List Str} {l:jL} {a b:Str} (h:Tb ps names l) (ha:a∈names) (hb:b∈names):Tb ps names (rK l [.inr a,.inr b] (bnd ps a b))/\en ps a b∈rK l [.inr a,.inr b] (bnd ps a b)/\(∀e∈l,e∈rK l [.inr a,.inr b] (bnd ps a b))/\(rK l [.inr a,.inr b] (bnd ps a b)).length<=l.length+1:=by
 have hv:∀e∈l,e.1=[.inr a,.inr b]->e.2=bnd ps a b:=by intro e he e1;obtain⟨a',_,b',_,rfl⟩:=h e he;cases e1;rfl
 unfold rK;cases hh:rJ l [.inr a,.inr b] with
 | some p=>
  have hm:=HW hh;have hp:=hv _ hm rfl;dsimp only at hp ⊢;subst hp;rw[HX hv];exact⟨h,hm,λe he=>he,by omega⟩
 | none=>
  dsimp only;refine⟨λe he=>?_,aaG _ (by simp),λe he=>aaM _ he,by simp⟩;rcases aaH.mp he with he | he
  . exact h e he
  . have:e=en ps a b:=by simpa using he
    exact⟨a,ha,b,hb,this⟩
abbrev BB (D:PV) (l1 o2 o3:Option Lc) (mu:Mu):Ev:=⟨[yS D,l1,o2,o3],mu⟩
abbrev Y4_:SF:=An 1 (aj (aa 2) (aj (aa 3) ao)) (aF uD (aj (aa 0) (aj (aa 2) (aj (aa 3) ao))))
theorem Eh {ps:List (Str×Str)} {names:List Str} {a:Str} {mu:Mu} (hp:ps.length<=68) (hc:∀q∈ps,q.2∈names) (ha:a∈names):∀(xs:List Str) (l:jL) (o3:Option Lc),(∀x∈xs,x∈names)->Tb ps names l->l.length+xs.length<=10000->
 ∃l' o3',cU (aA 3) Y4_ (SS xs) (BB (DF ps names) (some (.own (jE l))) (zT a) o3 mu)=some (.nx (BB (DF ps names) (some (.own (jE l'))) (zT a) o3' mu))/\Tb ps names l'/\(∀e∈l,e∈l')/\(∀x∈xs,en ps a x∈l')/\l'.length<=l.length+xs.length
 | [],l,o3,_,h,_=>⟨l,o3,rfl,h,λe he=>he,λx hx=>(by cases hx),by simp⟩
 | x::xs,l,o3,hx,h,hl=>by
  rw[aac]at hl;obtain⟨h1,h2,h3,h4⟩:=U6_ h ha (hx x aab);obtain⟨l',o',e,h5,h6,h7,h8⟩:=Eh hp hc ha (mu:=mu) xs _ (zT x) (λy hy=>hx y (aai _ hy)) h1 (by omega);refine⟨l',o',?_,h5,λe he=>h6 e (h3 e he),λy hy=>?_,by rw[aac]; omega⟩
  . refine dH (Y1:=BB (DF ps names) (some (.own (jE l))) (zT a) (zT x) mu) rfl (U5 (k:=[.inr a,.inr x]) (l0:=l) (l:=l) (aY (r:=.sh (bnd ps a x)) (mu:=mu) (aB rfl (aB rfl (aB rfl rfl))) rfl rfl rfl (RC hp hc ha (hx x aab))) rfl rfl (aB rfl (aB rfl rfl)) rfl rfl (by omega) (by show 2<=1000; decide) rfl) ?_;exact e
  . rcases aah.mp hy with rfl | hy
    . exact h6 _ h2
    . exact h7 y hy
theorem Ke {ps:List (Str×Str)} {names:List Str} {l1 o2 o3:Option Lc} {mu:Mu}:J1 (aa 0) (BB (DF ps names) l1 o2 o3 mu)=some (SS names,BB (DF ps names) l1 o2 o3 mu):=by
 have e:(((jx ps names).map (·.1)).map vK)=SS names:=by unfold jx;rw[aaD,aaD];rfl
 show some (((jx ps names).map (·.1)).map vK,BB (DF ps names) l1 o2 o3 mu)=_;rw[e]
theorem Bq {ps:List (Str×Str)} {names:List Str} {mu:Mu} (hp:ps.length<=68) (hc:∀q∈ps,q.2∈names) (hn:names.length<=50):∀(xs:List Str) (l:jL) (o2 o3:Option Lc),(∀x∈xs,x∈names)->Tb ps names l->l.length+xs.length*names.length<=10000->
 ∃l' o2' o3',cU (aA 2) (dM (J1 (aa 0)) (aA 3) Y4_) (SS xs) (BB (DF ps names) (some (.own (jE l))) o2 o3 mu)=some (.nx (BB (DF ps names) (some (.own (jE l'))) o2' o3' mu))/\Tb ps names l'/\(∀e∈l,e∈l')/\(∀x∈xs,∀y∈names,en ps x y∈l')/\l'.length<=l.length+xs.length*names.length
 | [],l,o2,o3,_,h,_=>⟨l,o2,o3,rfl,h,λe he=>he,λx hx=>(by cases hx),by simp⟩
 | x::xs,l,o2,o3,hx,h,hl=>by
  have e0:(xs.length+1)*names.length=xs.length*names.length+names.length:=Nat.succ_mul _ _;rw[aac,e0]at hl;obtain⟨l1,o1,e1,h1,h2,h3,h4⟩:=Eh hp hc (hx x aab) (mu:=mu) names l o3 (λy hy=>hy) h (by omega);obtain⟨l',o',o'',e,h5,h6,h7,h8⟩:=Bq hp hc hn (mu:=mu) xs l1 (zT x) o1 (λy hy=>hx y (aai _ hy)) h1 (by omega);refine⟨l',o',o'',?_,h5,λe he=>h6 e (h2 e he),λy hy z hz=>?_,by rw[aac,e0]; omega⟩
  . exact dH (Y1:=BB (DF ps names) (some (.own (jE l))) (zT x) o3 mu) rfl (dq Ke e1) e
  . rcases aah.mp hy with rfl | hy
    . exact h6 _ (h3 z hz)
    . exact h7 y hy z hz
theorem xr {ps:List (Str×Str)} {names:List Str} {mu:Mu} (hp:ps.length<=68) (hc:∀q∈ps,q.2∈names) (hn:names.length<=50):∃l,jV [DF ps names] mu=some (.own (jE l),mu)/\Tb ps names l/\∀x∈names,∀y∈names,en ps x y∈l:=by have hh:names.length*names.length<=50*50:=Nat.mul_le_mul hn hn;obtain⟨l,o2,o3,e,h1,h2,h3,h4⟩:=Bq hp hc hn (mu:=mu) names [] none none (λy hy=>hy) (λe he=>(by cases he)) (by simp; omega);refine⟨l,?_,h1,h3⟩;exact aX (Y:=BB (DF ps names) none o2 o3 mu) (aD (Y':=BB (DF ps names) (some (.own (jE []))) none none mu) (aZ rfl rfl rfl) (aD (dq Ke e) rfl))
abbrev Kf (e:List Key×PV):PV:=.tup [.tup (e.1.map vK),e.2]
theorem Ei:∀l:jL,pQ (l.map (·.1)) (l.map (·.2))=l.map Kf
 | []=>rfl
 | x::l=>by show PV.tup [.tup (x.1.map vK),x.2]::pQ (l.map (·.1)) (l.map (·.2))=_;rw[Ei l];rfl
theorem O8 {ps:List (Str×Str)} {a b:Str}:(uX (bnd ps a b)=true/\bnd ps a b=.non)\/(uX (bnd ps a b)=false/\bnd ps a b≠.non):=by
 unfold bnd;split
 . exact .inr ⟨rfl,λh=>by cases h⟩
 . exact .inl ⟨rfl,rfl⟩
abbrev UE (D:PV) (o1 o2:Option Lc) (mu:Mu):Ev:=⟨[yS D,o1,o2],mu⟩
abbrev Td:SF:=bN (tT (aC Lq (aa 2) (eC .non)) aV) (gB 1) bA
theorem xx {ps:List (Str×Str)} {names:List Str} {D:PV} {mu:Mu}:∀(l:jL) (o1 o2:Option Lc),Tb ps names l->
 (∃o1' o2',cU (b7 2 (aJ (aA 1) (aJ (aA 2) bZ))) Td (l.map Kf) (UE D o1 o2 mu)=some (.nx (UE D o1' o2' mu))/\∀e∈l,e.2≠.non)\/
 (∃Y' a b,cU (b7 2 (aJ (aA 1) (aJ (aA 2) bZ))) Td (l.map Kf) (UE D o1 o2 mu)=some (.rt (.sh (.tup [.str a,.str b])) Y')/\Y'.mu=mu/\a∈names/\b∈names/\bnd ps a b=.non)
 | [],o1,o2,_=>.inl ⟨o1,o2,rfl,λe he=>(by cases he)⟩
 | e::l,o1,o2,h=>by
  obtain⟨a,ha,b,hb,rfl⟩:=h e aab;have t1:tT (aC Lq (aa 2) (eC .non)) aV (UE D (yS (.tup [.str a,.str b])) (yS (bnd ps a b)) mu)=some (uX (bnd ps a b),UE D (yS (.tup [.str a,.str b])) (yS (bnd ps a b)) mu):=eF (l:=.sh (.bl (uX (bnd ps a b)))) (gR rfl rfl rfl rfl rfl) rfl rfl;rcases O8 (ps:=ps) (a:=a) (b:=b) with ⟨hb1,hz⟩ | ⟨hb1,hz⟩
  . rw[hb1]at t1;obtain⟨Y',e1,e2⟩:∃Y',gB 1 (UE D (yS (.tup [.str a,.str b])) (yS (bnd ps a b)) mu)=some (.rt (.sh (.tup [.str a,.str b])) Y')/\Y'.mu=mu:=⟨_,rfl,rfl⟩;exact .inr ⟨Y',a,b,O7 rfl ((lV t1).trans e1),e2,ha,hb,hz⟩
  . rw[hb1]at t1;have e1:cU (b7 2 (aJ (aA 1) (aJ (aA 2) bZ))) Td ((en ps a b::l).map Kf) (UE D o1 o2 mu)=cU (b7 2 (aJ (aA 1) (aJ (aA 2) bZ))) Td (l.map Kf) (UE D (yS (.tup [.str a,.str b])) (yS (bnd ps a b)) mu):=dH rfl ((gm t1).trans rfl) rfl;rw[e1];rcases xx (D:=D) (mu:=mu) l (yS (.tup [.str a,.str b])) (yS (bnd ps a b)) (λe he=>h e (aai _ he)) with ⟨p,q,h1,h2⟩ | r
    . refine .inl ⟨p,q,h1,λe he=>?_⟩;rcases aah.mp he with rfl | he
      . exact hz
      . exact h2 e he
    . exact .inr r
theorem Br {ps:List (Str×Str)} {names:List Str} {mu:Mu} (hp:ps.length<=68) (hc:∀q∈ps,q.2∈names) (hn:names.length<=50):
 (iy [DF ps names] mu=some (.sh .non,mu)/\∀a∈names,∀b∈names,bnd ps a b≠.non)\/∃a∈names,∃b∈names,iy [DF ps names] mu=some (.sh (.tup [.str a,.str b]),mu)/\bnd ps a b=.non:=by
 obtain⟨l,e,h1,h2⟩:=xr (mu:=mu) hp hc hn;have it:LQ (Lz (aF jV (aj (aa 0) ao))) (UE (DF ps names) none none mu)=some (l.map Kf,UE (DF ps names) none none mu):=by have e1:aF jV (aj (aa 0) ao) (UE (DF ps names) none none mu)=some (.own (jE l),UE (DF ps names) none none mu):=aY (aB rfl rfl) rfl rfl rfl e;unfold LQ Lz;rw[e1];show (if (l.map (·.2)).length=(l.map (·.1)).length then some (pQ (l.map (·.1)) (l.map (·.2)),UE (DF ps names) none none mu) else none)=_;rw[abR (by simp),Ei]
 rcases xx (D:=DF ps names) (mu:=mu) l none none h1 with ⟨o1,o2,h3,h4⟩ | ⟨Y',a,b,h3,h4,ha,hb,h5⟩
 . exact .inl ⟨aX (Y:=UE (DF ps names) o1 o2 mu) (aD (dq it h3) rfl),λa ha b hb=>h4 _ (h2 a ha b hb)⟩
 . refine .inr ⟨a,ha,b,hb,?_,h5⟩;have:iy [DF ps names] mu=some (.sh (.tup [.str a,.str b]),Y'.mu):=aX (oX (dq it h3));rw[h4]at this;exact this
def Xo (names:List Str) (ps:List (Str×Str)) (l:PV):Prop:=
 (l=.non/\(∀a∈names,∀b∈names,bnd ps a b≠.non)/\∀a∈names,∀b∈names,bnd (j8 ps) a b≠.non)\/
 (∃a∈names,∃b∈names,l=.tup [.str "join",.str a,.str b]/\bnd ps a b=.non)\/
 (∃a∈names,∃b∈names,l=.tup [.str "meet",.str a,.str b]/\bnd (j8 ps) a b=.non)
abbrev kZ (N P:PV) (o2:Option Lc) (mu:Mu):Ev:=⟨[yS N,yS P,o2],mu⟩
theorem Mr {ps:List (Str×Str)} {names:List Str} {mu:Mu} (hp:ps.length<=68) (hc:∀q∈ps,q.1∈names/\q.2∈names) (hd:names.Nodup) (hn:names.length<=50):∃l,tu [.lst (SS names),.lst (PP ps)] mu=some (.sh l,mu)/\Xo names ps l:=by
 have hp':(j8 ps).length<=68:=by rw[aad]; exact hp
 have hc':∀q∈j8 ps,q.2∈names:=λq hq=>by obtain⟨q',hq',rfl⟩:=aar.mp hq;exact(hc q' hq').1
 have fz1:∀o2,jD (aF fJ (aj (aa 0) (aj (aa 1) ao))) (kZ (.lst (SS names)) (.lst (PP ps)) o2 mu)=some (.sh (DF ps names),kZ (.lst (SS names)) (.lst (PP ps)) o2 mu):=λo2=>by have e1:aF fJ (aj (aa 0) (aj (aa 1) ao)) (kZ (.lst (SS names)) (.lst (PP ps)) o2 mu)=some (.own (cD (jx ps names)),kZ (.lst (SS names)) (.lst (PP ps)) o2 mu):=aY (aB rfl (aB rfl rfl)) rfl rfl rfl (sE hp hd (by omega));unfold jD;rw[e1];rfl
 have fz2:∀o2,jD (aF eZ (aj (aa 0) (aj (aa 1) ao))) (kZ (.lst (SS names)) (.lst (PP ps)) o2 mu)=some (.sh (DF (j8 ps) names),kZ (.lst (SS names)) (.lst (PP ps)) o2 mu):=λo2=>by have e1:aF eZ (aj (aa 0) (aj (aa 1) ao)) (kZ (.lst (SS names)) (.lst (PP ps)) o2 mu)=some (.own (cD (jx (j8 ps) names)),kZ (.lst (SS names)) (.lst (PP ps)) o2 mu):=aY (aB rfl (aB rfl rfl)) rfl rfl rfl (uH hp hd (by omega));unfold jD;rw[e1];rfl
 rcases Br (mu:=mu) hp (λq hq=>(hc q hq).2) hn with ⟨u1,h1⟩ | ⟨a,ha,b,hb,u1,h1⟩
 . have s1:aK 2 (aF iy (aj (jD (aF fJ (aj (aa 0) (aj (aa 1) ao)))) ao)) (kZ (.lst (SS names)) (.lst (PP ps)) none mu)=some (.nx (kZ (.lst (SS names)) (.lst (PP ps)) (some (.sh .non)) mu)):=aZ (aY (aB (fz1 _) rfl) rfl rfl rfl u1) rfl rfl;rcases Br (mu:=mu) hp' hc' hn with ⟨u2,h2⟩ | ⟨a,ha,b,hb,u2,h2⟩
   . have s2:aK 2 (aF iy (aj (jD (aF eZ (aj (aa 0) (aj (aa 1) ao)))) ao)) (kZ (.lst (SS names)) (.lst (PP ps)) (some (.sh .non)) mu)=some (.nx (kZ (.lst (SS names)) (.lst (PP ps)) (some (.sh .non)) mu)):=aZ (aY (aB (fz2 _) rfl) rfl rfl rfl u2) rfl rfl;exact⟨.non,aX (Y:=kZ (.lst (SS names)) (.lst (PP ps)) (some (.sh .non)) mu) (aD s1 (aD ((gm (Y1:=kZ (.lst (SS names)) (.lst (PP ps)) (some (.sh .non)) mu) rfl).trans rfl) (aD s2 (aD ((gm (Y1:=kZ (.lst (SS names)) (.lst (PP ps)) (some (.sh .non)) mu) rfl).trans rfl) rfl)))),.inl ⟨rfl,h1,h2⟩⟩
   . have s2:aK 2 (aF iy (aj (jD (aF eZ (aj (aa 0) (aj (aa 1) ao)))) ao)) (kZ (.lst (SS names)) (.lst (PP ps)) (some (.sh .non)) mu)=some (.nx (kZ (.lst (SS names)) (.lst (PP ps)) (yS (.tup [.str a,.str b])) mu)):=aZ (aY (aB (fz2 _) rfl) rfl rfl rfl u2) rfl rfl;exact⟨.tup [.str "meet",.str a,.str b],aX (Y:=kZ (.lst (SS names)) (.lst (PP ps)) (yS (.tup [.str a,.str b])) mu) (aD s1 (aD ((gm (Y1:=kZ (.lst (SS names)) (.lst (PP ps)) (some (.sh .non)) mu) rfl).trans rfl) (aD s2 (oX ((lV (Y1:=kZ (.lst (SS names)) (.lst (PP ps)) (yS (.tup [.str a,.str b])) mu) rfl).trans (cJ (dG (ls:=[.sh (.str "meet"),.sh (.str a),.sh (.str b)]) rfl rfl rfl))))))),.inr (.inr ⟨a,ha,b,hb,rfl,h2⟩)⟩
 . have s1:aK 2 (aF iy (aj (jD (aF fJ (aj (aa 0) (aj (aa 1) ao)))) ao)) (kZ (.lst (SS names)) (.lst (PP ps)) none mu)=some (.nx (kZ (.lst (SS names)) (.lst (PP ps)) (yS (.tup [.str a,.str b])) mu)):=aZ (aY (aB (fz1 _) rfl) rfl rfl rfl u1) rfl rfl;exact⟨.tup [.str "join",.str a,.str b],aX (Y:=kZ (.lst (SS names)) (.lst (PP ps)) (yS (.tup [.str a,.str b])) mu) (aD s1 (oX ((lV (Y1:=kZ (.lst (SS names)) (.lst (PP ps)) (yS (.tup [.str a,.str b])) mu) rfl).trans (cJ (dG (ls:=[.sh (.str "join"),.sh (.str a),.sh (.str b)]) rfl rfl rfl))))),.inr (.inl ⟨a,ha,b,hb,rfl,h1⟩)⟩
namespace Rg
def edge (sm:List Str) (nm:Str) (q:Str×Str):Bool:=q.1==nm&&(!(q.2==nm)&&has sm q.2)
def qe (sm:List Str) (ps:List (Str×Str)) (nm:Str):List Str:=(ps.filter (edge sm nm)).map (·.2)
theorem Kg {sm:List Str} {ps:List (Str×Str)} {nm b:Str}:b∈qe sm ps nm ↔ (nm,b)∈ps/\b≠nm/\b∈sm:=by
 unfold qe;constructor
 . intro h;obtain⟨q,hq,rfl⟩:=aar.mp h;obtain⟨h1,h2⟩:=List.mem_filter.mp hq;unfold edge at h2;rw[aaA,aaA]at h2;have e:q.1=nm:=eq_of_beq h2.1;refine⟨by rw[<-e]; exact h1,λz=>?_,cW.mp h2.2.2⟩;have:=h2.2.1;rw[z]at this;simp at this
 . rintro⟨h1,h2,h3⟩;refine aar.mpr ⟨(nm,b),List.mem_filter.mpr ⟨h1,?_⟩,rfl⟩;unfold edge;rw[aaA,aaA];exact⟨by simp,by simpa using h2,cW.mpr h3⟩
theorem HY {sm:List Str} {ps:List (Str×Str)} {nm:Str} {mu:Mu} (hl:ps.length<=1000):cN [.lst (SS sm),.lst (PP ps),.str nm] mu=some (.own (.lst (SS (qe sm ps nm))),mu):=by
 have c:dj (b7 2 (aJ (aA 0) (aJ (aA 1) bZ))) (cQ (tT (aC eqP (aa 0) (aa 2)) aV) (cQ (tT (aC mC (aa 1) (aa 2)) aV) (tT (aC ju (aa 1) (aa 3)) aV))) (aa 1) (PP ps) ⟨[none,none,zT nm,zS sm],mu⟩ []=some (SS (qe sm ps nm),mu):=by
  have:=mX (b:=b7 2 (aJ (aA 0) (aJ (aA 1) bZ))) (tc:=cQ (tT (aC eqP (aa 0) (aa 2)) aV) (cQ (tT (aC mC (aa 1) (aa 2)) aV) (tT (aC ju (aa 1) (aa 3)) aV))) (te:=aa 1) (mu:=mu)
   (λY=>∃o0 o1,Y=⟨[o0,o1,zT nm,zS sm],mu⟩) (λY ⟨_,_,e⟩=>by rw[e]) (λp=>match p with | .tup [.str a,.str b]=>edge sm nm (a,b) | _=>false) (λp=>match p with | .tup [_,b]=>b | _=>.non)
   (xs:=PP ps) (Y:=⟨[none,none,zT nm,zS sm],mu⟩) (acc:=[]) ⟨none,none,rfl⟩ (by simp; omega) (by rintro x hx Y ⟨o0,o1,rfl⟩;obtain⟨⟨a,b⟩,_,rfl⟩:=aar.mp hx;refine⟨_,rfl,⟨[zT a,zT b,zT nm,zS sm],mu⟩,?_,⟨_,_,rfl⟩,λ_=>⟨_,_,rfl,rfl,_,_,rfl⟩⟩;exact nO (eF (l:=.sh (.bl (a==nm))) rfl rfl rfl) (nO (eF (l:=.sh (.bl (!(b==nm)))) rfl rfl rfl) (eF (gR rfl rfl rfl rfl FQ) rfl rfl)))
  rw[this,aaE,List.filter_map,aaD];unfold SS qe;rw[aaD];rfl
 refine aX (Y:=⟨[zS sm,zP ps,zT nm],mu⟩) (cJ ?_);exact(cM (Y1:=⟨[zS sm,zP ps,zT nm],mu⟩) (jj (l:=.sh (.lst (PP ps))) rfl rfl rfl) c).trans rfl
def dU (ps:List (Str×Str)) (rest:List Str):List Str:=rest.filter λn=>!(qe rest ps n).isEmpty
theorem truL {l:List Str}:fB (.lst (SS l))=some (!l.isEmpty):=by cases l<;>rfl
abbrev Ia:EF:=bJ (cR (aa 2) bI) 1 [2,1] (aA 0) (tT (aF cN (aj (aa 1) (aj (aa 2) (aj (aa 0) ao)))) fB) (aa 0)
theorem Ib {N:Option Lc} {ps:List (Str×Str)} {rest:List Str} {o3:Option Lc} {l:Lc} {mu:Mu} (hp:ps.length<=1000) (hr:rest.length<=1000) (hl:l.pv=.lst (SS rest)):Ia ⟨[N,zP ps,some l,o3],mu⟩=some (.own (.lst (SS (dU ps rest))),⟨[N,zP ps,zS rest,o3],mu⟩):=by
 have c:dj (aA 0) (tT (aF cN (aj (aa 1) (aj (aa 2) (aj (aa 0) ao)))) fB) (aa 0) (SS rest) ⟨[none,zS rest,zP ps],mu⟩ []=some (SS (dU ps rest),mu):=by
  have:=mX (b:=aA 0) (tc:=tT (aF cN (aj (aa 1) (aj (aa 2) (aj (aa 0) ao)))) fB) (te:=aa 0) (mu:=mu)
   (λY=>∃o0,Y=⟨[o0,zS rest,zP ps],mu⟩) (λY ⟨_,e⟩=>by rw[e]) (λp=>match p with | .str a=>!(qe rest ps a).isEmpty | _=>false) (λp=>p)
   (xs:=SS rest) (Y:=⟨[none,zS rest,zP ps],mu⟩) (acc:=[]) ⟨none,rfl⟩ (by simp; omega) (by rintro x hx Y ⟨o0,rfl⟩;obtain⟨a,_,rfl⟩:=aar.mp hx;refine⟨_,rfl,⟨[zT a,zS rest,zP ps],mu⟩,?_,⟨_,rfl⟩,λ_=>⟨_,_,rfl,rfl,_,rfl⟩⟩;exact eF (l:=.own (.lst (SS (qe rest ps a)))) (aY (aB rfl (aB rfl (aB rfl rfl))) rfl rfl rfl (HY hp)) rfl truL)
  rw[this,aaE,List.filter_map,aaD];rfl
 refine(cM (Y1:=⟨[N,zP ps,zS rest,o3],mu⟩) (jj (l:=wS rest) ?_ rfl rfl) c).trans rfl;show some (Lc.sh l.pv,_)=_;rw[hl];rfl
structure Df (names:List Str) (ps:List (Str×Str)) (rest:List Str):Prop where
 sub:∀x∈rest,x∈names
 hgt:∃(h:Str->Nat) (k:Nat),(∀a∈names,a∉rest->h a<k)/\∀a∈names,a∉rest->∀b∈names,(a,b)∈ps->b≠a->b∉rest/\h b<h a
theorem Df.step {names:List Str} {ps:List (Str×Str)} {rest:List Str} (I:Df names ps rest):Df names ps (dU ps rest):=by
 obtain⟨sub,h,k,h1,h2⟩:=I;have sb:∀x∈dU ps rest,x∈rest:=λx hx=>(List.mem_filter.mp hx).1;refine⟨λx hx=>sub x (sb x hx),λa=>if a∈rest then k else h a,k+1,λa ha hn=>?_,λa ha hn b hb he hne=>?_⟩
 . by_cases hr:a∈rest
   . simp only[hr,if_true]; omega
   . simp only[hr,if_false]; have:=h1 a ha hr; omega
 . by_cases hr:a∈rest
   . have hbr:b∉rest:=λhbr=>by
      apply hn;refine List.mem_filter.mpr ⟨hr,?_⟩;have:b∈qe rest ps a:=Kg.mpr ⟨he,hne,hbr⟩;cases hc:qe rest ps a with
      | nil=>rw[hc]at this; cases this
      | cons _ _=>rfl
     refine⟨λz=>hbr (sb b z),?_⟩;simp only[hr,if_true,hbr,if_false];exact h1 b hb hbr
   . obtain⟨q1,q2⟩:=h2 a ha hr b hb he hne;refine⟨λz=>q1 (sb b z),?_⟩;simp only[hr,if_false,q1];exact q2
abbrev Xq:TF:=tT (aC iV (eB dZ (aj (aa 3) ao)) (eB dZ (aj (aa 2) ao))) aV
abbrev HS:SF:=aG (aK 2 (aa 3)) (aK 3 Ia)
theorem sy {names:List Str} {N:Option Lc} {ps:List (Str×Str)} {mu:Mu} (hp:ps.length<=1000):∀(n:Nat) (rest:List Str),rest.length<n->rest.length<=1000->Df names ps rest->
 ∃rest',lA Xq HS n ⟨[N,zP ps,zS rest,yO (SS (dU ps rest))],mu⟩=some (.nx ⟨[N,zP ps,yL (SS rest'),zS (dU ps rest')],mu⟩)/\Df names ps rest'/\dU ps rest'=rest'/\rest'.length<=rest.length
 | n+1,rest,hn,hr,I=>by
  have hc:Xq ⟨[N,zP ps,zS rest,yO (SS (dU ps rest))],mu⟩=some (decide (((SS (dU ps rest)).length:Int)<(SS rest).length),⟨[N,zP ps,zS rest,zS (dU ps rest)],mu⟩):=rfl;have hle:(dU ps rest).length<=rest.length:=List.length_filter_le _ _;show ∃rest',((Xq _).bind _)=_/\_;rw[hc,aaa];by_cases hlt:(dU ps rest).length<rest.length
  . rw[abV (by rw[aad,aad]; omega)];obtain⟨r',e,I',c',l'⟩:=sy hp n (dU ps rest) (by omega) (by omega) I.step;refine⟨r',?_,I',c',by omega⟩;have hb:HS ⟨[N,zP ps,zS rest,zS (dU ps rest)],mu⟩=some (.nx ⟨[N,zP ps,zS (dU ps rest),yO (SS (dU ps (dU ps rest)))],mu⟩):=
     aD (aZ rfl rfl rfl) (aZ (Ib (l:=wS (dU ps rest)) hp (by omega) rfl) rfl rfl)
    rw[abR rfl,hb,aaa];exact e
  . rw[abU (by rw[aad,aad]; omega)];refine⟨rest,?_,I,?_,aan _⟩
    . rw[abS aaV]
    . exact(List.filter_sublist).eq_of_length (by show (dU ps rest).length=rest.length; omega)
theorem dH {b:BF} {body:SF} {x:PV} {xs:List PV} {Y Y1 Y2:Ev} {R:Option Fl} (h1:b x Y=some Y1) (h2:body Y1=some (.nx Y2)) (h3:cU b body xs Y2=R):cU b body (x::xs) Y=R:=by show (b x Y).bind _=R;rw[h1,aaa,h2,aaa];exact h3
theorem at0 {p:PV} {t:List PV}:dW (p::t) 0=some p:=by obtain⟨x,h,h2⟩:=jQ (l:=p::t) (i:=0) (by decide) (by simp only[aac]; omega);rw[h,<-h2]; rfl
def nx (sm:List Str) (ps:List (Str×Str)) (x:Str):Str:=(qe sm ps x).headD ""
def wk (sm:List Str) (ps:List (Str×Str)) (s0:Str):Nat->Str
 | 0=>s0
 | n+1=>nx sm ps (wk sm ps s0 n)
theorem FT {sm:List Str} {ps:List (Str×Str)} (hc:dU ps sm=sm) {x:Str} (hx:x∈sm):qe sm ps x=nx sm ps x::(qe sm ps x).tail/\(x,nx sm ps x)∈ps/\nx sm ps x≠x/\nx sm ps x∈sm:=by
 have h:x∈dU ps sm:=by rw[hc]; exact hx
 have h2:=(List.mem_filter.mp h).2;unfold nx;cases e:qe sm ps x with
 | nil=>rw[e]at h2; cases h2
 | cons y ys=>
  have:y∈qe sm ps x:=by rw[e]; exact aab
  exact⟨rfl,Kg.mp this⟩
theorem xG {sm:List Str} {ps:List (Str×Str)} {s0:Str} (hc:dU ps sm=sm) (h0:s0∈sm):∀n,wk sm ps s0 n∈sm
 | 0=>h0
 | n+1=>(FT hc (xG hc h0 n)).2.2.2
theorem Te {sm:List Str} {ps:List (Str×Str)} {x:Str} {mu:Mu} {fa:EF} {w o3:Option Lc} {w' o3':Option Lc} (hp:ps.length<=1000) (hc:dU ps sm=sm) (hx:x∈sm)
 (hf:fa ⟨[zS sm,zP ps,w,o3],mu⟩=some (.sh (.str x),⟨[zS sm,zP ps,w',o3'],mu⟩)):
 aN (aF cN (aj (aa 0) (aj (aa 1) (aj fa ao)))) (adE 0) ⟨[zS sm,zP ps,w,o3],mu⟩=some (.sh (.str (nx sm ps x)),⟨[zS sm,zP ps,w',o3'],mu⟩):=by
 refine dI (l:=.own (.lst (SS (qe sm ps x)))) (aY (ps:=[.lst (SS sm),.lst (PP ps),.str x]) (aB rfl (aB rfl (aB hf rfl))) rfl rfl rfl (HY hp)) rfl rfl rfl (λn h=>by cases h) ?_;show (dW (SS (qe sm ps x)) 0).map _=_;rw[(FT hc hx).1];show (dW (PV.str (nx sm ps x)::SS _) 0).map _=_;rw[at0]; rfl
theorem xq {l:List Str} {p q:Str->Bool} (h:∀x,q x=true->p x=true) {x:Str} (hx:x∈l) (h1:p x=true) (h2:q x=false):(l.filter q).length<(l.filter p).length:=by
 induction l with
 | nil=>cases hx
 | cons y ys ih=>
  have hle:∀ys:List Str,(ys.filter q).length<=(ys.filter p).length:=λys=>by
   induction ys with
   | nil=>exact aan _
   | cons z zs ihz=>
    rw[List.filter_cons,List.filter_cons];cases hq:q z with
    | true=>rw[h z hq]; simp only[if_true,aac]; omega
    | false=>cases hpz:p z<;>simp only[if_true,aa1,if_false,aac]<;>omega
  rw[List.filter_cons,List.filter_cons];rcases aah.mp hx with rfl | hx
  . rw[h1,h2];simp only[if_true,aa1,if_false,aac];have:=hle ys;omega
  . have:=ih hx;cases hq:q y with
    | true=>rw[h y hq]; simp only[if_true,aac]; omega
    | false=>cases hpy:p y<;>simp only[if_true,aa1,if_false,aac]<;>omega
abbrev WK (sm:List Str) (ps:List (Str×Str)) (s0:Str) (k:Nat):List Str:=(List.range (k+1)).map (wk sm ps s0)
theorem Dg {sm:List Str} {ps:List (Str×Str)} {s0:Str} {k:Nat}:WK sm ps s0 (k+1)=WK sm ps s0 k++[wk sm ps s0 (k+1)]:=by unfold WK;rw[List.range_succ (n:=k+1),aaz];rfl
abbrev Xr:TF:=lU (tT (aC rC (aa 3) (aa 2)) aV)
abbrev Tf:SF:=aG (fX 2 (aa 3)) (aK 3 (aN (aF cN (aj (aa 0) (aj (aa 1) (aj (aa 3) ao)))) (adE 0)))
theorem Ej {sm:List Str} {ps:List (Str×Str)} {s0:Str} {mu:Mu} (hp:ps.length<=1000) (hc:dU ps sm=sm) (h0:s0∈sm):∀(n k:Nat),(sm.filter λx=>!has (WK sm ps s0 k) x).length<n->n+k<=1000->(∀i j,i<j->j<=k->wk sm ps s0 i≠wk sm ps s0 j)->
 ∃m,lA Xr Tf n ⟨[zS sm,zP ps,yO (SS (WK sm ps s0 k)),zT (wk sm ps s0 (k+1))],mu⟩=some (.nx ⟨[zS sm,zP ps,yO (SS (WK sm ps s0 m)),zT (wk sm ps s0 (m+1))],mu⟩)/\
  (∀i j,i<j->j<=m->wk sm ps s0 i≠wk sm ps s0 j)/\wk sm ps s0 (m+1)∈WK sm ps s0 m/\m<=1000
 | n+1,k,hn,hk,hd=>by
  have hc1:Xr ⟨[zS sm,zP ps,yO (SS (WK sm ps s0 k)),zT (wk sm ps s0 (k+1))],mu⟩=some (!has (WK sm ps s0 k) (wk sm ps s0 (k+1)),⟨[zS sm,zP ps,yO (SS (WK sm ps s0 k)),zT (wk sm ps s0 (k+1))],mu⟩):=
   rG (eF (gR rfl rfl rfl rfl Bh) rfl rfl)
  show ∃m,((Xr _).bind _)=_/\_;rw[hc1,aaa];cases hh:has (WK sm ps s0 k) (wk sm ps s0 (k+1)) with
  | true=>
   refine⟨k,?_,hd,cW.mp hh,by omega⟩;show (if (!true)=true then _ else _)=_;rw[abS (by decide)]
  | false=>
   have hmem:=xG hc h0 (k+1);have hnot:=mG.mp hh;have hd':∀i j,i<j->j<=k+1->wk sm ps s0 i≠wk sm ps s0 j:=λi j hij hj=>by
    by_cases hjk:j<=k
    . exact hd i j hij hjk
    . have:j=k+1:=by omega
      subst this;intro e;exact hnot (aar.mpr ⟨i,List.mem_range.mpr (by omega),e⟩)
   have hlt:(sm.filter λx=>!has (WK sm ps s0 (k+1)) x).length<(sm.filter λx=>!has (WK sm ps s0 k) x).length:=by
    refine xq (λx hx=>?_) hmem (by simp[hh]) ?_
    . have h1:has (WK sm ps s0 (k+1)) x=false:=by simpa using hx
      have h2:=mG.mp h1;have:has (WK sm ps s0 k) x=false:=mG.mpr λz=>h2 (by rw[Dg]; exact aaM _ z);simp[this]
    . have:has (WK sm ps s0 (k+1)) (wk sm ps s0 (k+1))=true:=cW.mpr (by rw[Dg]; exact aaG _ (by simp));simp[this]
   obtain⟨m,e,r⟩:=Ej hp hc h0 n (k+1) (by omega) (by omega) hd';refine⟨m,?_,r⟩;show (if (!false)=true then _ else _)=_;rw[abR (by decide)];have hb:Tf ⟨[zS sm,zP ps,yO (SS (WK sm ps s0 k)),zT (wk sm ps s0 (k+1))],mu⟩=some (.nx ⟨[zS sm,zP ps,yO (SS (WK sm ps s0 (k+1))),zT (wk sm ps s0 (k+2))],mu⟩):=by
    refine aD (Y':=⟨[zS sm,zP ps,yO (SS (WK sm ps s0 (k+1))),zT (wk sm ps s0 (k+1))],mu⟩) ?_ ?_
    . refine(lE (l:=.sh (.str (wk sm ps s0 (k+1)))) rfl rfl rfl rfl (by rw[aad,aad,aaJ]; omega) rfl).trans ?_;have e1:SS (WK sm ps s0 (k+1))=SS (WK sm ps s0 k)++[.str (wk sm ps s0 (k+1))]:=by rw[Dg]; exact aaz
      rw[e1];rfl
    . exact aZ (Te (x:=wk sm ps s0 (k+1)) hp hc hmem rfl) rfl rfl
   rw[hb,aaa];exact e
structure Ie (names:List Str) (ps:List (Str×Str)) (r:List Str):Prop where
 two:2<=r.length
 sub:∀x∈r,x∈names
 dis:∀(k:Nat) x,r[k]?=some x->x∉r.take k
 nxt:∀(k:Nat) x,r[k]?=some x->∃y,r[(k+1)%r.length]?=some y/\(x,y)∈ps
 few:r.length<=2000
theorem flat_SS:∀l:List Str,iD (SS l)=true
 | []=>rfl
 | x::l=>by show (true&&iD (SS l))=true;rw[flat_SS l]; rfl
theorem O9 {sm:List Str} {ps:List (Str×Str)} {mu:Mu} (hp:ps.length<=1000) (hc:dU ps sm=sm) (hne:sm≠[]) (hl:sm.length<20):∃r,qp [.lst (SS sm),.lst (PP ps)] mu=some (.own (.lst (SS r)),mu)/\Ie sm ps r:=by
 obtain⟨s0,t,rfl⟩:∃s0 t,sm=s0::t:=by cases sm with | nil=>exact absurd rfl hne | cons a b=>exact⟨a,b,rfl⟩
 generalize hsm:s0::t=sm at hc hl;have h0:s0∈sm:=by rw[<-hsm]; exact aab
 have hix:∀w o3,aN (aa 0) (adE 0) ⟨[zS sm,zP ps,w,o3],mu⟩=some (.sh (.str s0),⟨[zS sm,zP ps,w,o3],mu⟩):=λw o3=>by refine dI (l:=wS sm) rfl rfl rfl rfl (λn h=>by cases h) ?_;show (dW (SS sm) 0).map _=_;rw[<-hsm];show (dW (PV.str s0::SS t) 0).map _=_;rw[at0]; rfl
 have s1:aK 2 (bH (aj (aN (aa 0) (adE 0)) ao)) (env0 4 [.lst (SS sm),.lst (PP ps)] mu)=some (.nx ⟨[zS sm,zP ps,yO (SS (WK sm ps s0 0)),none],mu⟩):=
  aZ (mD (ls:=[.sh (.str s0)]) (aB (hix none none) rfl) rfl rfl) rfl rfl
 have s2:aK 3 (aN (aF cN (aj (aa 0) (aj (aa 1) (aj (aN (aa 0) (adE 0)) ao)))) (adE 0)) ⟨[zS sm,zP ps,yO (SS (WK sm ps s0 0)),none],mu⟩=some (.nx ⟨[zS sm,zP ps,yO (SS (WK sm ps s0 0)),zT (wk sm ps s0 1)],mu⟩):=
  aZ (Te (x:=s0) hp hc h0 (hix _ _)) rfl rfl
 obtain⟨m,e,hd,hin,hm⟩:=Ej (mu:=mu) hp hc h0 20 0 (abz (List.length_filter_le _ _) hl) (by omega) (λi j hij hj=>by omega);have hfi:jO (cu 150) (.str (wk sm ps s0 (m+1))) (SS (WK sm ps s0 m))=some true:=by rw[in_str,cW.mpr hin]
 have hlen:(WK sm ps s0 m).length=m+1:=by rw[aad,aaJ]
 generalize hj:(SS (WK sm ps s0 m)).findIdx (λq=>(cu 150 q (.str (wk sm ps s0 (m+1)))).getD false)=j;have hex:∃q∈SS (WK sm ps s0 m),(λq=>(cu 150 q (.str (wk sm ps s0 (m+1)))).getD false) q=true:=by refine⟨.str (wk sm ps s0 (m+1)),aar.mpr ⟨_,hin,rfl⟩,?_⟩;show (wk sm ps s0 (m+1)==wk sm ps s0 (m+1))=true;simp
 have hjl:j<m+1:=by have w:(SS (WK sm ps s0 m)).findIdx (λq=>(cu 150 q (.str (wk sm ps s0 (m+1)))).getD false)<(SS (WK sm ps s0 m)).length:=List.findIdx_lt_length.mpr hex;rw[hj,aad,hlen]at w;exact w
 have hjw:wk sm ps s0 j=wk sm ps s0 (m+1):=by
  have w:(SS (WK sm ps s0 m)).findIdx (λq=>(cu 150 q (.str (wk sm ps s0 (m+1)))).getD false)<(SS (WK sm ps s0 m)).length:=List.findIdx_lt_length.mpr hex;have:=List.findIdx_getElem (w:=w);simp only[hj]at this;have e2:(SS (WK sm ps s0 m))[j]'(by rw[hj]at w; exact w)=.str (wk sm ps s0 j):=by simp
  rw[e2]at this;exact eq_of_beq (show (wk sm ps s0 j==wk sm ps s0 (m+1))=true from this)
 have cut:lD (SS (WK sm ps s0 m)) (some (j:Int)) none=SS ((WK sm ps s0 m).drop j):=by unfold lD;rw[HT.sIx_none,HT.sIx_nat,aad,hlen,show min j (m+1)=j from by omega,<-List.map_drop];exact abt (by rw[aad,aa7,hlen]; omega)
 refine⟨(WK sm ps s0 m).drop j,?_,?_⟩
 . refine aX (Y:=⟨[zS sm,zP ps,yO (SS (WK sm ps s0 m)),zT (wk sm ps s0 (m+1))],mu⟩) (aD s1 (aD s2 (aD e (cJ (Hf (Y1:=Ev.peek ⟨[zS sm,zP ps,yO (SS (WK sm ps s0 m)),zT (wk sm ps s0 (m+1))],mu⟩) ?_ (flat_SS _))))));have hI:wL (aa 2) (aa 3) (Ev.peek ⟨[zS sm,zP ps,yO (SS (WK sm ps s0 m)),zT (wk sm ps s0 (m+1))],mu⟩)=some (.sh (.int (j:Int)),Ev.peek ⟨[zS sm,zP ps,yO (SS (WK sm ps s0 m)),zT (wk sm ps s0 (m+1))],mu⟩):=by show (if jO (cu 150) (.str (wk sm ps s0 (m+1))) (SS (WK sm ps s0 m))=some true/\(SS (WK sm ps s0 m)).length<=100000 then _ else _)=_;rw[abR ⟨hfi,by rw[aad,hlen]; omega⟩];show some (Lc.sh (.int (((SS (WK sm ps s0 m)).findIdx (λq=>(cu 150 q (.str (wk sm ps s0 (m+1)))).getD false):Nat):Int)),_)=_;rw[hj];rfl
   have hO:fD (wL (aa 2) (aa 3)) (Ev.peek ⟨[zS sm,zP ps,yO (SS (WK sm ps s0 m)),zT (wk sm ps s0 (m+1))],mu⟩)=some (some (j:Int),Ev.peek ⟨[zS sm,zP ps,yO (SS (WK sm ps s0 m)),zT (wk sm ps s0 (m+1))],mu⟩):=by unfold fD;rw[hI];rfl
   rw[<-cut];show (((fD (wL (aa 2) (aa 3)) (Ev.peek ⟨[zS sm,zP ps,yO (SS (WK sm ps s0 m)),zT (wk sm ps s0 (m+1))],mu⟩))).bind _)=_;rw[hO];rfl
 . have hnx:∀i,(wk sm ps s0 i,wk sm ps s0 (i+1))∈ps/\wk sm ps s0 (i+1)≠wk sm ps s0 i:=λi=>⟨(FT hc (xG hc h0 i)).2.1,(FT hc (xG hc h0 i)).2.2.1⟩;have hjm:j<m:=by
    by_cases h:j=m
    . exfalso; rw[h]at hjw; exact(hnx m).2 hjw.symm
    . omega
   have hL:((WK sm ps s0 m).drop j).length=m+1-j:=by rw[aa7,hlen]
   have hget:∀k,k<m+1-j->((WK sm ps s0 m).drop j)[k]?=some (wk sm ps s0 (j+k)):=λk hk=>by rw[List.getElem?_drop,aay,List.getElem?_range (by omega)]; rfl
   have hgi:∀k x,((WK sm ps s0 m).drop j)[k]?=some x->k<m+1-j/\x=wk sm ps s0 (j+k):=λk x hx=>by have hk:=(aal.mp hx).1;rw[hL]at hk;rw[hget k hk]at hx;exact⟨hk,(aap hx).symm⟩
   refine⟨by omega,λx hx=>?_,λk x hx hm'=>?_,λk x hx=>?_,by omega⟩
   . obtain⟨i,hi,rfl⟩:=aar.mp (List.mem_of_mem_drop hx);exact xG hc h0 i
   . obtain⟨hk,rfl⟩:=hgi k x hx;obtain⟨i,hi,e3⟩:=List.getElem_of_mem hm';rw[aa4,hL]at hi;have e4:((WK sm ps s0 m).drop j)[i]?=some (wk sm ps s0 (j+k)):=by rw[List.getElem_take]at e3;rw[<-e3];exact aaj _
     obtain⟨_,e5⟩:=hgi i _ e4;exact hd (j+i) (j+k) (by omega) (by omega) e5.symm
   . obtain⟨hk,rfl⟩:=hgi k x hx;refine⟨wk sm ps s0 (j+k+1),?_,(hnx (j+k)).1⟩;rw[hL];by_cases hlast:k+1=m+1-j
     . rw[hlast,Nat.mod_self,hget 0 (by omega),Nat.add_zero,hjw,show j+k+1=m+1 from by omega]
     . rw[Nat.mod_eq_of_lt (by omega),hget (k+1) (by omega)];rfl
theorem ringof_eq {names:List Str} {ps:List (Str×Str)} {mu:Mu} (hp:ps.length<=1000) (hl:names.length<19):(pZ [.lst (SS names),.lst (PP ps)] mu=some (.sh .non,mu)/\∃h:Str->Nat,∀a∈names,∀b∈names,(a,b)∈ps->b≠a->h b<h a)\/
 ∃r,pZ [.lst (SS names),.lst (PP ps)] mu=some (.own (.lst (SS r)),mu)/\Ie names ps r:=by
 have I0:Df names ps names:=⟨λx h=>h,λ_=>0,0,λa ha hn=>absurd ha hn,λa ha hn=>absurd ha hn⟩;have s1:aK 2 (eB list1 (aj (aa 0) ao)) (env0 4 [.lst (SS names),.lst (PP ps)] mu)=some (.nx ⟨[zS names,zP ps,yO (SS names),none],mu⟩):=rfl;have s2:aK 3 Ia ⟨[zS names,zP ps,yO (SS names),none],mu⟩=some (.nx ⟨[zS names,zP ps,zS names,yO (SS (dU ps names))],mu⟩):=
  aZ (Ib (l:=.own (.lst (SS names))) hp (by omega) rfl) rfl rfl
 obtain⟨rest,e,I,hc,hlr⟩:=sy (N:=zS names) (mu:=mu) hp 20 names (by omega) (by omega) I0;have t:gH (tT (aa 2) fB) ⟨[zS names,zP ps,zS rest,zS (dU ps rest)],mu⟩=some (!!rest.isEmpty,⟨[zS names,zP ps,zS rest,zS (dU ps rest)],mu⟩):=
  rF (eF (l:=wS rest) rfl rfl truL)
 cases hr:rest with
 | nil=>
  subst hr;obtain⟨_,h,k,h1,h2⟩:=I;refine .inl ⟨aX (Y:=⟨[zS names,zP ps,zS [],zS (dU ps [])],mu⟩) (aD s1 (aD s2 (aD e (oX ((lV t).trans rfl))))),h,λa ha b hb he hne=>(h2 a ha (by simp) b hb he hne).2⟩
 | cons x xs=>
  have hne:rest≠[]:=by rw[hr]; simp
  obtain⟨r,er,ok⟩:=O9 (mu:=mu) hp hc hne (by omega);refine .inr ⟨r,?_,ok.two,λx hx=>I.sub x (ok.sub x hx),ok.dis,ok.nxt,ok.few⟩;refine aX (Y:=⟨[zS names,zP ps,zS rest,zS (dU ps rest)],mu⟩) (aD s1 (aD s2 (aD e (aD ((gm (Y1:=⟨[zS names,zP ps,zS rest,zS (dU ps rest)],mu⟩) (t.trans (by rw[hr]; rfl))).trans rfl) ?_))));exact cJ (aY (ps:=[.lst (SS rest),.lst (PP ps)]) (aB rfl (aB rfl rfl)) rfl rfl rfl er)
theorem ring_no {names r:List Str} {ps:List (Str×Str)} (ok:Ie names ps r) {h:Str->Nat} (hh:∀q∈ps,q.1≠q.2->h q.1<h q.2):False:=by
 have two:=ok.two;have up:∀k (hk:k<r.length),k+1<r.length->∃hk1:k+1<r.length,h r[k]<h r[k+1]:=λk hk hk1=>by obtain⟨y,h1,h2⟩:=ok.nxt k r[k] (aaj hk);rw[Nat.mod_eq_of_lt hk1,aaj hk1]at h1;cases h1;refine⟨hk1,hh _ h2 λe=>?_⟩;have e':r[k]=r[k+1]:=e;refine ok.dis (k+1) r[k+1] (aaj hk1) ?_;rw[<-e'];exact List.mem_take_iff_getElem.mpr ⟨k,by omega,rfl⟩
 have all:∀k (hk:k<r.length),h (r[0]'(by omega))<=h r[k]:=λk=>by
  induction k with
  | zero=>exact λhk=>aan _
  | succ k ih=>
   intro hk;obtain⟨_,h1⟩:=up k (by omega) hk;have:=ih (by omega);omega
 obtain⟨y,h1,h2⟩:=ok.nxt (r.length-1) (r[r.length-1]'(by omega)) (aaj (by omega));rw[show r.length-1+1=r.length by omega,Nat.mod_self,aaj (by omega)]at h1;cases h1;have h3:=hh _ h2 λe=>by have e':r[r.length-1]'(by omega)=r[0]'(by omega):=e;refine ok.dis (r.length-1) (r[r.length-1]'(by omega)) (aaj (by omega)) ?_;rw[e'];exact List.mem_take_iff_getElem.mpr ⟨0,by omega,rfl⟩
 have h4:=all (r.length-1) (by omega);have h5:h (r[r.length-1]'(by omega))<h (r[0]'(by omega)):=h3;omega
end Rg
structure vz (xs:List Str) (ps:List (Str×Str)):Prop where
 nd:xs.Nodup
 ne:xs≠[]
 l8:xs.length<=8
 lp:ps.length<=68
 nm:∀x∈xs,nameB x=true
 mem:∀q∈ps,q.1∈xs/\q.2∈xs
 acyc:∃h:Str->Nat,∀q∈ps,q.1≠q.2->h q.1<h q.2
 up:∀a∈xs,∀b∈xs,bnd ps a b≠.non
 dn:∀a∈xs,∀b∈xs,bnd (j8 ps) a b≠.non
 lo:∃x∈xs,(fu ps x).length=xs.length
 hi:∃x∈xs,(fu ps x).length=1
theorem Ek {b:BF} {body:SF} {xs:List PV} {Y:Ev} (J:Ev->Prop) (h0:J Y) (hs:∀x∈xs,∀Y,J Y->∃Y1,b x Y=some Y1/\∃Y2,body Y1=some (.nx Y2)/\J Y2):∃Y',cU b body xs Y=some (.nx Y')/\J Y':=by
 induction xs generalizing Y with
 | nil=>exact⟨Y,rfl,h0⟩
 | cons x xs ih=>
  obtain⟨Y1,e1,Y2,e2,h2⟩:=hs x aab Y h0;obtain⟨Y',e3,h3⟩:=ih h2 λy hy=>hs y (aai _ hy);exact⟨Y',dH e1 e2 e3,h3⟩
theorem RD {xs:List Str} (hd:xs.Nodup) (x:Str):((SS xs).countP λq=>(cu 150 q (.str x)).getD false)<=1:=by unfold SS;rw[List.countP_map];have e:(λq:PV=>(cu 150 q (.str x)).getD false) ∘ PV.str=λy=>y==x:=rfl;rw[e];have:=List.Nodup.count (a:=x) hd;show List.count x xs<=1;rw[this];split<;>omega
theorem Bs {xs:List Str} {ps:List (Str×Str)} {mu:Mu} (ok:vz xs ps):pB [.lst (SS xs),.lst (PP ps)] mu=some (.sh .non,mu):=by
 obtain⟨Y1,e1,o2,rfl⟩:=Ek (b:=aA 2) (body:=aG (bN (gH (tT (aF pY (aj (aa 2) ao)) fB)) pI bA) (bN (tT (aC wH (Ao (aa 0) (aa 2)) (adE 1)) aV) pI bA)) (xs:=SS xs) (Y:=⟨[zS xs,zP ps,none,none,none],mu⟩) (λY=>∃o2,Y=⟨[zS xs,zP ps,o2,none,none],mu⟩) ⟨none,rfl⟩ (by
  rintro p hp Y ⟨o2,rfl⟩;obtain⟨x,hx,rfl⟩:=aar.mp hp;refine⟨⟨[zS xs,zP ps,zT x,none,none],mu⟩,rfl,⟨[zS xs,zP ps,zT x,none,none],mu⟩,aD (Y':=⟨[zS xs,zP ps,zT x,none,none],mu⟩) ?_ ?_,_,rfl⟩
  . have hl:x.length<=100000:=by have h:=ok.nm x hx;unfold nameB zA at h;rw[aaA,aaA]at h;have:=of_decide_eq_true h.1.2;omega
    refine(gm (Y1:=⟨[zS xs,zP ps,zT x,none,none],mu⟩) (rF (b:=true) (eF (l:=.sh (.bl true)) ((aY (aB rfl rfl) rfl rfl rfl (U4 hl)).trans (by rw[ok.nm x hx]; rfl)) rfl rfl))).trans rfl
  . have hc:=RD ok.nd x;have ec:Ao (aa 0) (aa 2) ⟨[zS xs,zP ps,zT x,none,none],mu⟩=some (.sh (.int (((SS xs).countP λq=>(cu 150 q (.str x)).getD false:Nat))),⟨[zS xs,zP ps,zT x,none,none],mu⟩):=by show (if (jO (cu 150) (.str x) (SS xs)).isSome=true/\(SS xs).length<=100000 then _ else none)=_;rw[abR ⟨by rw[in_str]; rfl,by rw[aad]; have:=ok.l8; omega⟩];rfl
    generalize ((SS xs).countP λq=>(cu 150 q (.str x)).getD false)=c at hc ec;refine(gm (Y1:=⟨[zS xs,zP ps,zT x,none,none],mu⟩) ((eF (l:=.sh (.bl (decide ((1:Int)<(c:Nat))))) (gR ec rfl rfl rfl rfl) rfl rfl).trans (by rw[abU (by omega)]))).trans rfl)
 obtain⟨Y2,e2,o3,o4,rfl⟩:=Ek (b:=b7 2 (aJ (aA 3) (aJ (aA 4) bZ))) (body:=bN (mj (tT (aC rC (aa 3) (aa 0)) aV) (tT (aC rC (aa 4) (aa 0)) aV)) pI bA) (xs:=PP ps) (Y:=⟨[zS xs,zP ps,o2,none,none],mu⟩) (λY=>∃o3 o4,Y=⟨[zS xs,zP ps,o2,o3,o4],mu⟩) ⟨none,none,rfl⟩ (by rintro p hp Y ⟨o3,o4,rfl⟩;obtain⟨q,hq,rfl⟩:=aar.mp hp;obtain⟨h1,h2⟩:=ok.mem q hq;refine⟨⟨[zS xs,zP ps,o2,yS (.str q.1),yS (.str q.2)],mu⟩,rfl,⟨[zS xs,zP ps,o2,yS (.str q.1),yS (.str q.2)],mu⟩,?_,_,_,rfl⟩;exact(gm (Y1:=⟨[zS xs,zP ps,o2,yS (.str q.1),yS (.str q.2)],mu⟩) (sW (b:=false) (b2:=false) ((eF (gR rfl rfl rfl rfl Bh) rfl rfl).trans (by rw[cW.mpr h1]; rfl)) ((eF (gR rfl rfl rfl rfl Bh) rfl rfl).trans (by rw[cW.mpr h2]; rfl)))).trans rfl)
 exact Cq (Y:=⟨[zS xs,zP ps,o2,o3,o4],mu⟩) (aD (dq (Y1:=⟨[zS xs,zP ps,none,none,none],mu⟩) (jj (l:=wS xs) rfl rfl rfl) e1) (dq (Y1:=⟨[zS xs,zP ps,o2,none,none],mu⟩) (jj (l:=.sh (.lst (PP ps))) rfl rfl rfl) e2))
theorem Bt {xs:List Str} {ps:List (Str×Str)} {mu:Mu} (ok:vz xs ps):pC [.lst (SS xs),.lst (PP ps)] mu=some (.sh .non,mu):=by
 have lp:=ok.lp;have l8:=ok.l8;have er:pZ [.lst (SS xs),.lst (PP ps)] mu=some (.sh .non,mu):=by
  rcases Rg.ringof_eq (names:=xs) (ps:=ps) (mu:=mu) (by omega) (by omega) with ⟨e,_⟩ | ⟨r,e,rk⟩
  . exact e
  . obtain⟨h,hh⟩:=ok.acyc;exact(Rg.ring_no rk hh).elim
 have el:tu [.lst (SS xs),.lst (PP ps)] mu=some (.sh .non,mu):=by
  obtain⟨l,e,h⟩:=Mr (mu:=mu) ok.lp ok.mem ok.nd (by omega);rcases h with ⟨rfl,_⟩ | ⟨a,ha,b,hb,_,h⟩ | ⟨a,ha,b,hb,_,h⟩
  . exact e
  . exact(ok.up a ha b hb h).elim
  . exact(ok.dn a ha b hb h).elim
 have hne:xs.isEmpty=false:=by
  have:=ok.ne;cases xs with
  | nil=>exact absurd rfl this
  | cons _ _=>rfl
 have t0:gH (tT (aa 0) fB) (env0 4 [.lst (SS xs),.lst (PP ps)] mu)=some (false,⟨[zS xs,zP ps,none,none],mu⟩):=(rF (b:=!xs.isEmpty) (eF (l:=wS xs) rfl rfl Rg.truL)).trans (by rw[hne]; rfl);exact Cq (Y:=⟨[zS xs,zP ps,some (.sh .non),some (.sh .non)],mu⟩) (aD ((gm t0).trans rfl) (aD (aZ (aY (aB rfl (aB rfl rfl)) rfl rfl rfl er) rfl rfl) (aD ((gm (Y1:=⟨[zS xs,zP ps,some (.sh .non),none],mu⟩) rfl).trans rfl) (aD (aZ (aY (aB rfl (aB rfl rfl)) rfl rfl rfl el) rfl rfl) ((gm (Y1:=⟨[zS xs,zP ps,some (.sh .non),some (.sh .non)],mu⟩) rfl).trans rfl)))))
theorem U7_ {C f:Str} {fo fv:EF} {Y Y1 Y2:Ev} {y x:Lc} {p:PV} {n:Nat} {l:FD} (h1:fv Y=some (y,Y1)) (hy:y.pv=p) (h2:fo Y1=some (x,Y2)) (hx:x.pv=.ptr n) (hm:Y2.mu[n]?=some (some (iI C l))) (hl:l.length<1000):jA C f fo fv Y=some (.nx ⟨Y2.vs,Y2.mu.set n (some (iI C (iR f p l)))⟩):=by unfold jA;rw[h1,aaa,h2,aaa,hx];dsimp only;rw[hm];unfold iI;dsimp only;rw[abR ⟨rfl,by rw[aad]; exact hl⟩,Bl,hy]
theorem Xu {C f:Str} {fo:EF} {Y Y1:Ev} {x:Lc} {p:PV} {n:Nat} {l:FD} (h2:fo Y=some (x,Y1)) (hx:x.pv=.ptr n) (hm:Y1.mu[n]?=some (some (iI C l))) (hp:pJ l f=some p):rM C f fo Y=some (.sh p,Y1):=by unfold rM;rw[h2,aaa,hx];dsimp only;rw[hm];unfold iI;dsimp only;rw[abR rfl,Bl,hp];rfl
theorem U8 {C:Str} {g:GF} {a:AF} {Y Y1:Ev} {ls:List Lc} {ps:List PV} {mu2:Mu} (h:a Y=some (ls,Y1)) (hps:ls.map Lc.pv=ps) (h2:g (.ptr Y1.mu.length::ps) (Y1.mu++[some (iI C [])])=some (.sh .non,mu2)):yg C g a Y=some (.sh (.ptr Y1.mu.length),⟨Y1.vs,mu2⟩):=by unfold yg;rw[h,aaa,hps];rw[show g (.ptr Y1.mu.length::ps) (Y1.mu++[some (.obj C [] [])])=_ from h2];rfl
abbrev oF (xs:List Str) (ps:List (Str×Str)) (lj lm:jL) (lo hi:Str):FD:=[("names",.lst (SS xs)),("above",DF ps xs),("joins",jE lj),("meets",jE lm),("lowest",.str lo),("highest",.str hi)]
structure YC (xs:List Str) (ps:List (Str×Str)) (l:FD):Prop where
 ex:∃lj lm lo hi,l=oF xs ps lj lm lo hi/\Tb ps xs lj/\(∀x∈xs,∀y∈xs,en ps x y∈lj)/\Tb (j8 ps) xs lm/\(∀x∈xs,∀y∈xs,en (j8 ps) x y∈lm)/\(lo∈xs/\(fu ps lo).length=xs.length)/\hi∈xs/\(fu ps hi).length=1
theorem El {xs:List Str} {ps:List (Str×Str)} {mu:Mu} {n:Nat} {l:FD} {c:Nat} {tc:TF} {vs:List (Option Lc)} (hl:xs.length<=1000) (ht:∀x∈xs,tc ⟨zT x::vs,mu⟩=some (decide ((fu ps x).length=c),⟨zT x::vs,mu⟩)):dj (aA 0) tc (aa 0) (SS xs) ⟨none::vs,mu⟩ []=some (SS (xs.filter λx=>decide ((fu ps x).length=c)),mu):=by
 have:=mX (b:=aA 0) (tc:=tc) (te:=aa 0) (mu:=mu) (λY=>∃o,Y=⟨o::vs,mu⟩) (λY ⟨o,e⟩=>by rw[e]) (λp=>match p with | .str y=>decide ((fu ps y).length=c) | _=>false) (λp=>p) (xs:=SS xs) (Y:=⟨none::vs,mu⟩) (acc:=[]) ⟨none,rfl⟩ (by simp; omega) (by rintro z hz Y ⟨o,rfl⟩;obtain⟨y,hy,rfl⟩:=aar.mp hz;exact⟨⟨zT y::vs,mu⟩,rfl,_,ht y hy,⟨_,rfl⟩,λ_=>⟨_,_,rfl,rfl,_,rfl⟩⟩)
 rw[this,aaE,List.filter_map,aaD];rfl
theorem Xv {ys:List Str} (h:ys≠[]):∃y∈ys,sU (.lst (SS ys)) (.int 0)=zT y:=by
 cases ys with
 | nil=>exact absurd rfl h
 | cons y t=>exact⟨y,aab,by show (dW (SS (y::t)) 0).map _=_; rw[show SS (y::t)=.str y::SS t from rfl,at0]; rfl⟩
theorem Pb {fa fb:EF} {Y Y1 Y2:Ev} {l m r:Lc} {qs:List PV} {q:PV} (h1:fa Y=some (l,Y1)) (hx:l.pv=.lst qs) (h2:fb Y1=some (m,Y2)) (hy:m.pv=q) (h3:sU (.lst qs) q=some r):iH fa fb Y=some (r,Y2):=by unfold iH;rw[h1,aaa,h2,aaa];dsimp only;rw[hx];dsimp only;exact dI (fa:=λ_=>some (l,Y1)) (fb:=λ_=>some (m,Y2)) rfl hx rfl hy (λn h=>by cases h) h3
theorem Kh {f:EF} {Y Y1:Ev} {l:Lc} {qs:List PV} (h:f Y=some (l,Y1)) (hl:l.pv=.lst qs):nP f Y=some (.sh (.int (qs.length:Nat)),Y1):=by unfold nP;rw[h,aaa,hl];rfl
theorem Kl {a b:Int}:Hi (.int a) (.int b)=yS (.bl (a==b)):=rfl
abbrev Ph (xs:List Str):FD:=[("names",.lst (SS xs))]
abbrev Pj (xs:List Str) (ps:List (Str×Str)):FD:=[("names",.lst (SS xs)),("above",DF ps xs)]
abbrev Em (xs:List Str) (ps:List (Str×Str)) (lj:jL):FD:=[("names",.lst (SS xs)),("above",DF ps xs),("joins",jE lj)]
abbrev Km (xs:List Str) (ps:List (Str×Str)) (lj lm:jL):FD:=[("names",.lst (SS xs)),("above",DF ps xs),("joins",jE lj),("meets",jE lm)]
abbrev Ko (xs:List Str) (ps:List (Str×Str)) (lj lm:jL) (lo:Str):FD:=[("names",.lst (SS xs)),("above",DF ps xs),("joins",jE lj),("meets",jE lm),("lowest",.str lo)]
theorem iK {f g:Str} {p q:PV} {r:FD} (h:¬ g=f):iR f p ((g,q)::r)=(g,q)::iR f p r:=by show (if g=f then _ else _)=_;rw[abS h]
theorem U9 {xs:List Str} {ps:List (Str×Str)} {mu:Mu} (ok:vz xs ps):∃l,YC xs ps l/\ie [.ptr mu.length,.lst (SS xs),.lst (PP ps)] (mu++[some (iI "Order" [])])=some (.sh .non,mu++[some (iI "Order" l)]):=by
 have l8:=ok.l8;have hset:∀(p q:Option PV),(mu++[p]).set mu.length q=mu++[q]:=λp q=>by rw[List.set_append_right _ _ (aan _)]; simp
 have hget:∀(p:Option PV),(mu++[p])[mu.length]?=some p:=λp=>by rw[aaU (aan _)]; simp
 obtain⟨lj,ej,t1,t2⟩:=xr (ps:=ps) (names:=xs) (mu:=mu++[some (iI "Order" (Pj xs ps))]) ok.lp (λq hq=>(ok.mem q hq).2) (by omega);have hsw:∀q∈j8 ps,q.2∈xs:=λq hq=>by obtain⟨q',hq',rfl⟩:=aar.mp hq;exact(ok.mem q' hq').1
 obtain⟨lm,em,t3,t4⟩:=xr (ps:=j8 ps) (names:=xs) (mu:=mu++[some (iI "Order" (Em xs ps lj))]) (by rw[aad]; exact ok.lp) hsw (by omega);let E:FD->Ev:=λl=>⟨[yS (.ptr mu.length),zS xs,zP ps],mu++[some (iI "Order" l)]⟩;have sf:∀(f:Str) (fv:EF) (l:FD) (y:Lc),fv (E l)=some (y,E l)->l.length<1000->jA "Order" f (aa 0) fv (E l)=some (.nx (E (iR f y.pv l))):=λf fv l y h hl=>by rw[U7_ h rfl (x:=.sh (.ptr mu.length)) (Y2:=E l) rfl rfl (hget _) hl,show (E l).mu=mu++[some (iI "Order" l)] from rfl,hset]
 have s1:jA "Order" "names" (aa 0) (eB list1 (aj (aa 1) ao)) (E [])=some (.nx (E (Ph xs))):=sf _ _ [] (.own (.lst (SS xs))) rfl (by decide);have p2:iR "above" (DF ps xs) (Ph xs)=(Pj xs ps):=by rw[iK (show ¬ (("names" : Str) = "above") from by decide +kernel)];rfl
 have s2:jA "Order" "above" (aa 0) (jD (aF fJ (aj (aa 1) (aj (aa 2) ao)))) (E (Ph xs))=some (.nx (E (Pj xs ps))):=by rw[<-p2];refine sf _ _ _ (.sh (DF ps xs)) ?_ (by show 1<1000; decide);have e1:aF fJ (aj (aa 1) (aj (aa 2) ao)) (E (Ph xs))=some (.own (cD (jx ps xs)),E (Ph xs)):=aY (aB rfl (aB rfl rfl)) rfl rfl rfl (sE ok.lp ok.nd (by omega));unfold jD;rw[e1];rfl
 have fab:∀(fo:EF) (Y:Ev) (l:FD),fo Y=some (.sh (.ptr mu.length),Y)->Y.mu=mu++[some (iI "Order" (("names",.lst (SS xs))::("above",DF ps xs)::l))]->rM "Order" "above" fo Y=some (.sh (DF ps xs),Y):=λfo Y l h hm=>by refine Xu h rfl (by rw[hm]; exact hget _) ?_;show (if ("names" : Str) = "above" then _ else _)=_;rw[abS (show ¬ (("names" : Str) = "above") from by decide +kernel)];show (if ("above" : Str) = "above" then _ else _)=_;rw[abR rfl]
 have p3:iR "joins" (jE lj) (Pj xs ps)=(Em xs ps lj):=by rw[iK (show ¬ (("names" : Str) = "joins") from by decide +kernel),iK (show ¬ (("above" : Str) = "joins") from by decide +kernel)];rfl
 have s3:jA "Order" "joins" (aa 0) (aF jV (aj (rM "Order" "above" (aa 0)) ao)) (E (Pj xs ps))=some (.nx (E (Em xs ps lj))):=by rw[<-p3];refine sf _ _ _ (.own (jE lj)) ?_ (by show 2<1000; decide);exact aY (aB (fab _ _ [] rfl rfl) rfl) rfl rfl rfl ej
 have p4:iR "meets" (jE lm) (Em xs ps lj)=(Km xs ps lj lm):=by rw[iK (show ¬ (("names" : Str) = "meets") from by decide +kernel),iK (show ¬ (("above" : Str) = "meets") from by decide +kernel),iK (show ¬ (("joins" : Str) = "meets") from by decide +kernel)];rfl
 have s4:jA "Order" "meets" (aa 0) (aF jV (aj (jD (aF eZ (aj (aa 1) (aj (aa 2) ao)))) ao)) (E (Em xs ps lj))=some (.nx (E (Km xs ps lj lm))):=by rw[<-p4];refine sf _ _ _ (.own (jE lm)) ?_ (by show 3<1000; decide);have e1:aF eZ (aj (aa 1) (aj (aa 2) ao)) (E (Em xs ps lj))=some (.own (cD (jx (j8 ps) xs)),E (Em xs ps lj)):=aY (aB rfl (aB rfl rfl)) rfl rfl rfl (uH ok.lp ok.nd (by omega));refine aY (aB (l:=.sh (DF (j8 ps) xs)) (ls:=[]) (Y1:=E (Em xs ps lj)) ?_ rfl) rfl rfl rfl em;unfold jD;rw[e1];rfl
 have lenA:∀(Y:Ev) (l:FD) (x:Str),x∈xs->Y.vs[0]?=some (zT x)->Y.vs[1]?=some (yS (.ptr mu.length))->Y.set 0 (zT x)=Y->Y.set 1 (yS (.ptr mu.length))=Y->Y.mu=mu++[some (iI "Order" (("names",.lst (SS xs))::("above",DF ps xs)::l))]->nP (iH (rM "Order" "above" (aa 1)) (aa 0)) Y=some (.sh (.int ((fu ps x).length:Nat)),Y):=λY l x hx h0 h1 hs0 hs1 hm=>by
  have v0:aa 0 Y=some (.sh (.str x),Y):=by unfold aa; rw[h0]; show some (Lc.sh (PV.str x),Y.set 0 (zT x))=_; rw[hs0]
  have v1:aa 1 Y=some (.sh (.ptr mu.length),Y):=by unfold aa; rw[h1]; show some (Lc.sh (PV.ptr mu.length),Y.set 1 (yS (.ptr mu.length)))=_; rw[hs1]
  have:=Kh (Bm (d:=jx ps xs) (fab _ _ l v1 hm) rfl v0 rfl (uG hx)) rfl;rw[this,aad]
 have lo_ne:(xs.filter λx=>decide ((fu ps x).length=xs.length))≠[]:=by obtain⟨x,hx,h⟩:=ok.lo;exact List.ne_nil_of_mem (List.mem_filter.mpr ⟨hx,abV h⟩)
 have hi_ne:(xs.filter λx=>decide ((fu ps x).length=1))≠[]:=by obtain⟨x,hx,h⟩:=ok.hi;exact List.ne_nil_of_mem (List.mem_filter.mpr ⟨hx,abV h⟩)
 obtain⟨lo,hlo,alo⟩:=Xv lo_ne;obtain⟨hi,hhi,ahi⟩:=Xv hi_ne;have p5:iR "lowest" (.str lo) (Km xs ps lj lm)=(Ko xs ps lj lm lo):=by rw[iK (show ¬ (("names" : Str) = "lowest") from by decide +kernel),iK (show ¬ (("above" : Str) = "lowest") from by decide +kernel),iK (show ¬ (("joins" : Str) = "lowest") from by decide +kernel),iK (show ¬ (("meets" : Str) = "lowest") from by decide +kernel)];rfl
 have s5:jA "Order" "lowest" (aa 0) (iH (bJ (cR (aa 1) bI) 1 [0,1] (aA 0) (tT (aC Hi (nP (iH (rM "Order" "above" (aa 1)) (aa 0))) (nP (aa 2))) aV) (aa 0)) (adE 0)) (E (Km xs ps lj lm))=some (.nx (E (Ko xs ps lj lm lo))):=by rw[<-p5];refine sf _ _ _ (.sh (.str lo)) ?_ (by show 4<1000; decide);refine Pb (l:=.own (.lst (SS (xs.filter λx=>decide ((fu ps x).length=xs.length))))) ((cM (Y1:=E (Km xs ps lj lm)) (jj (l:=wS xs) rfl rfl rfl) (El (ps:=ps) (n:=0) (l:=[]) (c:=xs.length) (vs:=[yS (.ptr mu.length),zS xs]) (mu:=mu++[some (iI "Order" (Km xs ps lj lm))]) (by omega) λx hx=>?_)).trans rfl) rfl rfl rfl alo;refine(eF (l:=.sh (.bl ((((fu ps x).length:Nat):Int)==((SS xs).length:Nat)))) (gR (lenA _ _ x hx rfl rfl rfl rfl rfl) rfl (Kh (l:=wS xs) rfl rfl) rfl Kl) rfl rfl).trans ?_;rw[aad];congr 2;rw[Bool.eq_iff_iff,beq_iff_eq,decide_eq_true_eq];omega
 have p6:iR "highest" (.str hi) (Ko xs ps lj lm lo)=oF xs ps lj lm lo hi:=by rw[iK (show ¬ (("names" : Str) = "highest") from by decide +kernel),iK (show ¬ (("above" : Str) = "highest") from by decide +kernel),iK (show ¬ (("joins" : Str) = "highest") from by decide +kernel),iK (show ¬ (("meets" : Str) = "highest") from by decide +kernel),iK (show ¬ (("lowest" : Str) = "highest") from by decide +kernel)];rfl
 have s6:jA "Order" "highest" (aa 0) (iH (bJ (cR (aa 1) bI) 1 [0] (aA 0) (tT (aC Hi (nP (iH (rM "Order" "above" (aa 1)) (aa 0))) (adE 1)) aV) (aa 0)) (adE 0)) (E (Ko xs ps lj lm lo))=some (.nx (E (oF xs ps lj lm lo hi))):=by rw[<-p6];refine sf _ _ _ (.sh (.str hi)) ?_ (by show 5<1000; decide);refine Pb (l:=.own (.lst (SS (xs.filter λx=>decide ((fu ps x).length=1))))) ((cM (Y1:=E (Ko xs ps lj lm lo)) (jj (l:=wS xs) rfl rfl rfl) (El (ps:=ps) (n:=0) (l:=[]) (c:=1) (vs:=[yS (.ptr mu.length)]) (mu:=mu++[some (iI "Order" (Ko xs ps lj lm lo))]) (by omega) λx hx=>?_)).trans rfl) rfl rfl rfl ahi;refine(eF (l:=.sh (.bl ((((fu ps x).length:Nat):Int)==1))) (gR (lenA _ _ x hx rfl rfl rfl rfl rfl) rfl rfl rfl Kl) rfl rfl).trans ?_;congr 2;rw[Bool.eq_iff_iff,beq_iff_eq,decide_eq_true_eq];omega
 refine⟨oF xs ps lj lm lo hi,⟨⟨lj,lm,lo,hi,rfl,t1,t2,t3,t4,⟨(List.mem_filter.mp hlo).1,of_decide_eq_true (List.mem_filter.mp hlo).2⟩,(List.mem_filter.mp hhi).1,of_decide_eq_true (List.mem_filter.mp hhi).2⟩⟩,?_⟩;exact Cq (Y:=E (oF xs ps lj lm lo hi)) (aD (Y':=E []) (JW (aY (aB rfl (aB rfl rfl)) rfl rfl rfl (Bs ok))) (aD (Y':=E []) (JW (aY (aB rfl (aB rfl rfl)) rfl rfl rfl (Bt ok))) (aD s1 (aD s2 (aD s3 (aD s4 (aD s5 s6)))))))
section
variable {ps:List (Str×Str)} {a b:Str}
def jn (ps:List (Str×Str)) (a b:Str):Str:=match bnd ps a b with
 | .str r=>r
 | _ => ""
theorem Xw (h:bnd ps a b≠.non):bnd ps a b=.str (jn ps a b):=by
 unfold jn;unfold bnd at h ⊢;split
 . rename_i r e;rfl
 . rename_i e;rw[e]at h;exact absurd rfl h
theorem Va {qs:List (Str×Str)} (h:bnd qs a b≠.non):jn qs a b∈fu qs a/\jn qs a b∈fu qs b/\∀y∈fu qs a,y∈fu qs b->y∈fu qs (jn qs a b):=by
 have e:=Xw h;unfold bnd at e;split at e
 . rename_i r hf;injection e with e;rw[<-e];have h1:=List.mem_of_find?_eq_some hf;have h2:=List.find?_some hf;unfold shd at h1;obtain⟨g1,g2⟩:=List.mem_filter.mp h1;refine⟨g1,cW.mp g2,λy hy hy'=>?_⟩;unfold good at h2;exact cW.mp (List.all_eq_true.mp h2 y (List.mem_filter.mpr ⟨hy,cW.mpr hy'⟩))
 . cases e
end
theorem Vb {α:Type} {xs:List α} {k:Nat} {p:α} (h:xs[k]?=some p):dW xs (k:Int)=some p:=by have hk:=(aal.mp h).1;unfold dW um;rw[abR (by omega),abR (by omega)];exact h
theorem RG {xs:List Str} (hd:xs.Nodup) {i j:Nat} (hi:i<xs.length) (hj:j<xs.length) (e:xs[i]=xs[j]):i=j:=by
 rcases Nat.lt_trichotomy i j with h | h | h
 . exact absurd e (List.pairwise_iff_getElem.mp hd i j hi hj h)
 . exact h
 . exact absurd e.symm (List.pairwise_iff_getElem.mp hd j i hj hi h)
theorem Pk {xs:List Str} (hd:xs.Nodup) {i j:Nat} {a:Str} (hi:xs[i]?=some a) (hj:xs[j]?=some a):i=j:=by obtain⟨h1,e1⟩:=aal.mp hi;obtain⟨h2,e2⟩:=aal.mp hj;exact RG hd h1 h2 (e1.trans e2.symm)
theorem tG {xs:List Str} {a:Str} (h:a∈xs):∃i:Nat,i<xs.length/\xs[i]?=some a:=by obtain⟨i,hi,e⟩:=List.getElem_of_mem h;exact⟨i,hi,by rw[<-e]; exact aaj hi⟩
theorem ym {xs:List Str} {i:Nat} {a:Str} (h:xs[i]?=some a):i<xs.length:=(aal.mp h).1
theorem FZ {xs:List Str} {i:Nat} (h:i<xs.length):∃a∈xs,xs[i]?=some a:=⟨xs[i],List.getElem_mem h,aaj h⟩
theorem Dh {xs:List Str} {k:Nat} {x:Str} (h:xs[k]?=some x):sU (.lst (SS xs)) (.int (k:Nat))=zT x:=by show (dW (SS xs) (k:Int)).map _=_;rw[Vb (p:=.str x) (by rw[aay,h]; rfl)];rfl
def okN (n:Nat) (qs:List (Nat×Nat)):Prop:=∀q∈qs,q.1<n/\q.2<n
theorem Vc {ps:List (Str×Str)} {a b:Str} (ok:ps.length<=68):b∈fu (j8 ps) a ↔ has (fu ps b) a=true:=by
 rw[cW,yj ok,yj (by rw[aad]; exact ok)];have e1:∀x y:Str,(x,y)∈j8 ps ↔ (y,x)∈ps:=λx y=>by
  constructor
  . intro h;obtain⟨q,hq,e⟩:=aar.mp h;cases e;exact hq
  . intro h;exact aar.mpr ⟨(y,x),h,rfl⟩
 constructor
 . intro h;have h':=h.back;clear h;induction h' with
   | refl=>exact .refl _
   | step _ e ih=>exact ih.step ((e1 _ _).mp e)
 . intro h;have h':=h.back;clear h;induction h' with
   | refl=>exact .refl _
   | step _ e ih=>exact ih.step ((e1 _ _).mpr e)
def Kp (qs:List (Nat×Nat)):Nat->Nat->Prop:=λa b=>(a,b)∈qs
def pos (a:Str):List Str->Nat
 | []=>0
 | y::l=>if y=a then 0 else pos a l+1
theorem Ig {a:Str}:∀{l:List Str} {i:Nat},l.Nodup->l[i]?=some a->pos a l=i
 | [],i,_,h=>by simp at h
 | y::l,i,nd,h=>by
  unfold pos;have nd':=aaS.mp nd;cases i with
  | zero=>
   have e:y=a:=by simpa using h
   rw[abR e]
  | succ i=>
   have h':l[i]?=some a:=by simpa using h
   have ne:y≠a:=λe=>nd'.1 (e▸aaw h');rw[abS ne,Ig nd'.2 h']
structure ou (xs ts:List Str) (ps:List (Str×Str)) (qs:List (Nat×Nat)) (R:Nat->Nat->Bool):Prop where
 nd:xs.Nodup
 ne:0<xs.length
 l8:xs.length<=8
 lp:ps.length<=68
 nm:∀x∈xs,nameB x=true
 ndt:ts.Nodup
 lt:ts.length=xs.length
 tm:∀x,x∈ts ↔ x∈xs
 ok:okN xs.length qs
 pm:∀a b,(a,b)∈ps ↔ ∃i j:Nat,xs[i]?=some a/\xs[j]?=some b/\(i,j)∈qs
 re:∀a b,a<xs.length->b<xs.length->(R a b=true ↔ Rt (Kp qs) a b)
structure Tg (n:Nat) (qs:List (Nat×Nat)) (R:Nat->Nat->Bool) (J M:Nat->Nat->Nat):Prop where
 anti:∀a b,a<n->b<n->R a b=true->R b a=true->a=b
 bot:∀a,a<n->R 0 a=true
 top:∀a,a<n->R a (n-1)=true
 ht:∃h:Nat->Nat,∀q∈qs,q.1≠q.2->h q.1<h q.2
 jn:∀a b,a<n->b<n->J a b<n/\R a (J a b)=true/\R b (J a b)=true/\∀c,c<n->R a c=true->R b c=true->R (J a b) c=true
 mt:∀a b,a<n->b<n->M a b<n/\R (M a b) a=true/\R (M a b) b=true/\∀c,c<n->R c a=true->R c b=true->R c (M a b)=true
section
variable {xs ts:List Str} {ps:List (Str×Str)} {qs:List (Nat×Nat)} {R:Nat->Nat->Bool} {J M:Nat->Nat->Nat} {a b:Str} {i j:Nat}
theorem ou.to (S:ou xs ts ps qs R) {y:Str} (hi:xs[i]?=some a) (h:Rt (λa b=>(a,b)∈ps) a y):∃j:Nat,xs[j]?=some y/\Rt (Kp qs) i j:=by
 induction h with
 | refl=>exact⟨i,hi,.refl i⟩
 | @step y z _ e ih=>
  obtain⟨j,hj,r⟩:=ih;obtain⟨j',k,h1,h2,h3⟩:=(S.pm y z).mp e;have:=Pk S.nd hj h1;subst this;exact⟨k,h2,r.step h3⟩
theorem ou.up (S:ou xs ts ps qs R) (hi:xs[i]?=some a) (h:Rt (Kp qs) i j):∃y,xs[j]?=some y/\Rt (λa b=>(a,b)∈ps) a y:=by
 induction h with
 | refl=>exact⟨a,hi,.refl a⟩
 | @step y z _ e ih=>
  obtain⟨b,hb,r⟩:=ih;obtain⟨c,_,hc⟩:=FZ (S.ok _ e).2;exact⟨c,hc,r.step ((S.pm b c).mpr ⟨y,z,hb,hc,e⟩)⟩
theorem ou.ur (S:ou xs ts ps qs R) (hi:xs[i]?=some a) (hj:xs[j]?=some b):has (fu ps a) b=R i j:=by
 rw[Bool.eq_iff_iff,cW,yj S.lp,S.re i j (ym hi) (ym hj)];constructor
 . intro h;obtain⟨k,hk,r⟩:=S.to hi h;have:=Pk S.nd hj hk;subst this;exact r
 . intro h;obtain⟨y,hy,r⟩:=S.up hi h;rw[hj]at hy;cases hy;exact r
theorem ou.dr (S:ou xs ts ps qs R) (hi:xs[i]?=some a) (hj:xs[j]?=some b):has (fu (j8 ps) a) b=R j i:=by rw[<-S.ur hj hi,Bool.eq_iff_iff,cW,Vc S.lp]
theorem ou.mem (S:ou xs ts ps qs R):∀q∈ps,q.1∈xs/\q.2∈xs:=λq hq=>by obtain⟨i,j,h1,h2,_⟩:=(S.pm q.1 q.2).mp hq;exact⟨aaw h1,aaw h2⟩
theorem ou.mem' (S:ou xs ts ps qs R):∀q∈j8 ps,q.2∈xs:=λq hq=>by obtain⟨q',hq',rfl⟩:=aar.mp hq;exact(S.mem q' hq').1
theorem Ih {zs:List (Str×Str)} {S:Nat->Nat->Bool} (hc:∀q∈zs,q.2∈xs) (hs:∀{i j:Nat} {a b:Str},xs[i]?=some a->xs[j]?=some b->has (fu zs a) b=S i j) {k:Nat} (hi:xs[i]?=some a) (hj:xs[j]?=some b) (hk:k<xs.length) (h1:S i k=true) (h2:S j k=true) (h3:∀c,c<xs.length->S i c=true->S j c=true->S k c=true) (anti:∀c,c<xs.length->S k c=true->S c k=true->c=k):bnd zs a b≠.non/\xs[k]?=some (jn zs a b):=by
 obtain⟨z,_,hz⟩:=FZ hk;have hzs:z∈shd zs a b:=List.mem_filter.mpr ⟨cW.mp ((hs hi hz).trans h1),(hs hj hz).trans h2⟩;have hb:bnd zs a b≠.non:=by
  unfold bnd;cases e:(shd zs a b).find? (good zs a b) with
  | some r=>exact λz=>by cases z
  | none=>
   have ng:=List.find?_eq_none.mp e z hzs;refine absurd (List.all_eq_true.mpr λy hy=>?_) ng;obtain⟨g1,g2⟩:=List.mem_filter.mp hy;obtain⟨m,hm,em⟩:=tG (qd hc (aaw hi) g1);exact(hs hz em).trans (h3 m hm ((hs hi em).symm.trans (cW.mpr g1)) ((hs hj em).symm.trans g2))
 refine⟨hb,?_⟩;obtain⟨f1,f2,f3⟩:=Va hb;obtain⟨m,hm,em⟩:=tG (qd hc (aaw hi) f1);have r1:=(hs hi em).symm.trans (cW.mpr f1);have r2:=(hs hj em).symm.trans (cW.mpr f2);have r3:=(hs em hz).symm.trans (cW.mpr (f3 z (cW.mp ((hs hi hz).trans h1)) (cW.mp ((hs hj hz).trans h2))));have:=anti m hm (h3 m hm r1 r2) r3;rw[<-this];exact em
theorem ou.jn (S:ou xs ts ps qs R) (L:Tg xs.length qs R J M) (hi:xs[i]?=some a) (hj:xs[j]?=some b):bnd ps a b≠.non/\xs[J i j]?=some (jn ps a b):=by obtain⟨h0,h1,h2,h3⟩:=L.jn i j (ym hi) (ym hj);exact Ih (λq hq=>(S.mem q hq).2) (λh g=>S.ur h g) hi hj h0 h1 h2 h3 λc hc g1 g2=>L.anti c _ hc h0 g2 g1
theorem ou.mt (S:ou xs ts ps qs R) (L:Tg xs.length qs R J M) (hi:xs[i]?=some a) (hj:xs[j]?=some b):bnd (j8 ps) a b≠.non/\xs[M i j]?=some (Law.jn (j8 ps) a b):=by obtain⟨h0,h1,h2,h3⟩:=L.mt i j (ym hi) (ym hj);exact Ih (S:=λa b=>R b a) S.mem' (λh g=>S.dr h g) hi hj h0 h1 h2 h3 λc hc g1 g2=>L.anti c _ hc h0 g1 g2
theorem ou.ord (S:ou xs ts ps qs R) (L:Tg xs.length qs R J M):vz ts ps:=by
 have ne:=S.ne;obtain⟨lo,_,hlo⟩:=FZ ne;obtain⟨hi,_,hhi⟩:=FZ (xs:=xs) (i:=xs.length-1) (by omega);refine⟨S.ndt,λe=>?_,by rw[S.lt]; exact S.l8,S.lp,λx hx=>S.nm x ((S.tm x).mp hx),λq hq=>⟨(S.tm _).mpr (S.mem q hq).1,(S.tm _).mpr (S.mem q hq).2⟩,?_,λa ha b hb=>?_,λa ha b hb=>?_,⟨lo,(S.tm lo).mpr (aaw hlo),?_⟩,hi,(S.tm hi).mpr (aaw hhi),?_⟩
 . have:=S.lt;rw[e,aav]at this;omega
 . obtain⟨h,hh⟩:=L.ht;refine⟨λx=>h (pos x xs),λq hq hne=>?_⟩;obtain⟨i,j,h1,h2,h3⟩:=(S.pm q.1 q.2).mp hq;show h (pos q.1 xs)<h (pos q.2 xs);rw[Ig S.nd h1,Ig S.nd h2];exact hh _ h3 λe=>hne (by have e':i=j:=e;rw[e',h2]at h1;exact(aap h1).symm)
 . obtain⟨i,_,hi⟩:=tG ((S.tm a).mp ha);obtain⟨j,_,hj⟩:=tG ((S.tm b).mp hb);exact(S.jn L hi hj).1
 . obtain⟨i,_,hi⟩:=tG ((S.tm a).mp ha);obtain⟨j,_,hj⟩:=tG ((S.tm b).mp hb);exact(S.mt L hi hj).1
 . refine Nat.le_antisymm (u6 Eg λx hx=>(S.tm x).mpr (qd (λq hq=>(S.mem q hq).2) (aaw hlo) hx)) (u6 S.ndt λx hx=>?_);obtain⟨i,i1,hi⟩:=tG ((S.tm x).mp hx);exact cW.mp ((S.ur hlo hi).trans (L.bot i i1))
 . refine Nat.le_antisymm (u6 (r:=[hi]) Eg λx hx=>?_) (List.length_pos_of_mem ((yj S.lp).mpr (.refl hi)));obtain⟨i,i1,hx'⟩:=tG (qd (λq hq=>(S.mem q hq).2) (aaw hhi) hx);have:=L.anti i (xs.length-1) i1 (by omega) (L.top i i1) ((S.ur hhi hx').symm.trans (cW.mpr hx));rw[this,hhi]at hx';exact aaF.mpr (aap hx').symm
end
def Th (qs:List (Nat×Nat)):Nat->List Nat->List Nat
 | 0,l=>l
 | n+1,l=>Th qs n (l++(qs.filter λq=>l.contains q.1).map (·.2))
def Rq (qs:List (Nat×Nat)) (a b:Nat):Bool:=(Th qs 7 [a]).contains b
def hq (n:Nat) (qs:List (Nat×Nat)) (a:Nat):Nat:=n-((List.range n).filter (Rq qs a)).length
def jq (n:Nat) (S:Nat->Nat->Bool) (a b c:Nat):Bool:=S a c&&S b c&&(List.range n).all λd=>!(S a d&&S b d)||S c d
def Jq (n:Nat) (S:Nat->Nat->Bool) (a b:Nat):Nat:=((List.range n).find? (jq n S a b)).getD 0
def Ii (n:Nat) (qs:List (Nat×Nat)):Bool:=
 qs.all (λq=>decide (q.1<n)&&decide (q.2<n)&&(q.1==q.2||decide (hq n qs q.1<hq n qs q.2))) &&
 (List.range n).all λa=>Rq qs 0 a&&Rq qs a (n-1)&&qs.all (λq=>!Rq qs a q.1||Rq qs a q.2) &&
  (List.range n).all λb=>(!(Rq qs a b&&Rq qs b a)||a==b)&&(List.range n).any (jq n (Rq qs) a b)&&(List.range n).any (jq n (λa b=>Rq qs b a) a b)
theorem Pn {qs:List (Nat×Nat)} {a:Nat}:∀(n:Nat) (l:List Nat),(∀x∈l,Rt (Kp qs) a x)->∀x∈Th qs n l,Rt (Kp qs) a x
 | 0,l,h=>h
 | n+1,l,h=>Pn n _ λx hx=>by
  rcases aaH.mp hx with hx | hx
  . exact h x hx
  . obtain⟨q,hq,rfl⟩:=aar.mp hx;obtain⟨h1,h2⟩:=List.mem_filter.mp hq;exact(h q.1 (by simpa using h2)).step h1
theorem Ij {qs:List (Nat×Nat)} {a:Nat}:∀(n:Nat) (l:List Nat),a∈l->a∈Th qs n l
 | 0,l,h=>h
 | n+1,l,h=>Ij n _ (aaM _ h)
theorem Kq {n:Nat} {S:Nat->Nat->Bool} {a b:Nat} (h:(List.range n).any (jq n S a b)=true):Jq n S a b<n/\S a (Jq n S a b)=true/\S b (Jq n S a b)=true/\∀c,c<n->S a c=true->S b c=true->S (Jq n S a b) c=true:=by
 unfold Jq;cases e:(List.range n).find? (jq n S a b) with
 | none=>
  obtain⟨c,hc,h2⟩:=List.any_eq_true.mp h;exact absurd h2 (List.find?_eq_none.mp e c hc)
 | some c=>
  have h1:=List.find?_some e;have h2:=List.mem_range.mp (List.mem_of_find?_eq_some e);unfold jq at h1;simp only[aaA]at h1;refine⟨h2,h1.1.1,h1.1.2,λd hd g1 g2=>?_⟩;have:=List.all_eq_true.mp h1.2 d (List.mem_range.mpr hd);rw[g1,g2]at this;simpa using this
theorem Ik {n:Nat} {qs:List (Nat×Nat)} (h:Ii n qs=true):okN n qs/\(∀a b,a<n->b<n->(Rq qs a b=true ↔ Rt (Kp qs) a b))/\Tg n qs (Rq qs) (Jq n (Rq qs)) (Jq n λa b=>Rq qs b a):=by
 unfold Ii at h;rw[aaA]at h;obtain⟨h1,h2⟩:=h;have q1:∀q∈qs,(q.1<n/\q.2<n)/\(q.1≠q.2->hq n qs q.1<hq n qs q.2):=λq hq'=>by have:=List.all_eq_true.mp h1 q hq';simp only[aaA,Bool.or_eq_true,decide_eq_true_eq,beq_iff_eq]at this;exact⟨this.1,λe=>this.2.resolve_left e⟩
 have q2:∀a,a<n->(Rq qs 0 a=true/\Rq qs a (n-1)=true/\(∀q∈qs,Rq qs a q.1=true->Rq qs a q.2=true))/\∀b,b<n->(Rq qs a b=true->Rq qs b a=true->a=b)/\(List.range n).any (jq n (Rq qs) a b)=true/\(List.range n).any (jq n (λa b=>Rq qs b a) a b)=true:=λa ha=>by
  have:=List.all_eq_true.mp h2 a (List.mem_range.mpr ha);rw[aaA,aaA,aaA]at this;obtain⟨⟨⟨t1,t2⟩,t3⟩,t4⟩:=this;refine⟨⟨t1,t2,λq hq' e=>?_⟩,λb hb=>?_⟩
  . have:=List.all_eq_true.mp t3 q hq';rw[e]at this;simpa using this
  . have:=List.all_eq_true.mp t4 b (List.mem_range.mpr hb);rw[aaA,aaA]at this;refine⟨λe1 e2=>?_,this.1.2,this.2⟩;have:=this.1.1;rw[e1,e2]at this;simpa using this
 refine⟨λq hq'=>(q1 q hq').1,λa b ha hb=>⟨λh=>?_,λh=>?_⟩,λa b ha hb=>((q2 a ha).2 b hb).1,λa ha=>(q2 a ha).1.1,λa ha=>(q2 a ha).1.2.1,⟨hq n qs,λq hq'=>(q1 q hq').2⟩,λa b ha hb=>Kq ((q2 a ha).2 b hb).2.1,λa b ha hb=>Kq (S:=λa b=>Rq qs b a) ((q2 a ha).2 b hb).2.2⟩
 . exact Pn 7 [a] (λx hx=>by rw[aaF.mp hx]; exact .refl a) b (by simpa [Rq] using h)
 . clear hb;induction h with
   | refl=>simpa [Rq] using Ij (qs:=qs) 7 [a] (by simp)
   | @step y z _ e ih=>exact(q2 a ha).1.2.2 (y,z) e ih
def chain (n:Nat):List (Nat×Nat):=(List.range (n-1)).map λk=>(k,k+1)
def fan (n:Nat):List (Nat×Nat):=((List.range (n-2)).map λk=>(0,k+1))++(List.range (n-2)).map λk=>(k+1,n-1)
mutual
def xH:PV->Nat
 | .tup ps=>Di ps+1
 | _=>1
def Di:List PV->Nat
 | []=>0
 | p::ps=>max (xH p) (Di ps)
end
def fl (p:PV):Prop:=dz p=true/\xH p<=20
def Il (ps:List PV):Prop:=iD ps=true/\Di ps<=20
theorem jX {p:PV} {ps:List PV} (h:fl p) (t:Il ps):Il (p::ps):=by
 obtain⟨h1,h2⟩:=h;obtain⟨t1,t2⟩:=t;refine⟨?_,?_⟩
 . show (dz p&&iD ps)=true;rw[h1,t1]; rfl
 . show max (xH p) (Di ps)<=20;omega
theorem yo:Il []:=⟨rfl,aa6 _⟩
theorem xJ {x:Str}:fl (.str x):=⟨rfl,by show 1<=20; decide⟩
mutual
inductive Row where
 | leaf (w:Str) (ps:List PV)
 | call (b:PV) (n:Str) (as:List PV)
 | wh (e:PV) (b:Rows)
 | iff (e:PV) (b c:Rows)
inductive Rows where
 | nil
 | cons (r:Row) (rs:Rows)
end
mutual
def Row.pv:Row->PV
 | .leaf w ps=>.tup (.str w::ps)
 | .call b n as=>.tup [.str "call",b,.str n,.lst as]
 | .wh e b=>.tup [.str "while",e,.lst b.pvs]
 | .iff e b c=>.tup [.str "if",e,.lst b.pvs,.lst c.pvs]
def Rows.pvs:Rows->List PV
 | .nil=>[]
 | .cons r rs=>r.pv::rs.pvs
end
mutual
def Row.dep:Row->Nat
 | .leaf _ _=>1
 | .call _ _ _=>1
 | .wh _ b=>b.dep+1
 | .iff _ b c=>max b.dep c.dep+1
def Rows.dep:Rows->Nat
 | .nil=>1
 | .cons r rs=>max (r.dep+1) rs.dep
end
theorem Rows.dep_pos:∀b:Rows,1<=b.dep
 | .nil=>aan _
 | .cons r rs=>aaL (Rows.dep_pos rs) (Nat.le_max_right _ _)
def Plain (w:Str):Prop:=(w == "if")=false/\(w == "while")=false/\(w == "call")=false
mutual
def Row.ok:Row->Prop
 | .leaf w ps=>Plain w/\Il ps
 | .call b n as=>fl b/\n.length<=1000/\Il as/\as.length<=50
 | .wh e b=>fl e/\b.ok
 | .iff e b c=>fl e/\b.ok/\c.ok
def Rows.ok:Rows->Prop
 | .nil=>True
 | .cons r rs=>r.ok/\rs.ok
end
mutual
def Row.cnt:Row->Nat
 | .leaf _ _=>1
 | .call _ _ _=>1
 | .wh _ b=>b.cnt+1
 | .iff _ b c=>b.cnt+c.cnt+1
def Rows.cnt:Rows->Nat
 | .nil=>0
 | .cons r rs=>r.cnt+rs.cnt
end
theorem Row.cnt_pos:∀r:Row,1<=r.cnt:=λr=>by cases r<;>simp[Row.cnt]
theorem iT {f:EF} {a b:Str} {Y Y1:Ev} (h:f Y=some (.sh (.str a),Y1)):tT (aC eqP f (adF b)) aV Y=some (a==b,Y1):=u5 (l:=.sh (.bl (a==b))) (bj h rfl rfl) rfl
theorem bM {c:TF} {f g:SF} {Y Y1:Ev} {b:Bool} (h:c Y=some (b,Y1)) (hb:b=false):aG (bN c f bA) g Y=g Y1:=by subst hb; exact Cp ((gm h).trans rfl)
theorem dO {c:TF} {f g:SF} {Y Y1 Y2:Ev} {b:Bool} {r:Lc} (h:c Y=some (b,Y1)) (hb:b=true) (h2:f Y1=some (.rt r Y2)):aG (bN c f bA) g Y=some (.rt r Y2):=by subst hb; exact oX ((lV h).trans h2)
theorem yp {c:TF} {f g:SF} {Y Y1 Y2:Ev} {b:Bool} (h:c Y=some (b,Y1)) (hb:b=true) (h2:f Y1=some (.nx Y2)):aG (bN c f bA) g Y=g Y2:=by subst hb; exact Cp ((lV h).trans h2)
abbrev E1 (p:PV) (mu:Mu):Ev:=⟨[yS p],mu⟩
theorem w0 {w:Str} {ps:List PV} {mu:Mu}:aN (aa 0) (adE 0) (E1 (.tup (.str w::ps)) mu)=some (.sh (.str w),E1 (.tup (.str w::ps)) mu):=
 dI (p:=.tup (.str w::ps)) (q:=.int 0) (l:=.sh (.tup (.str w::ps))) (m:=.sh (.int 0)) rfl rfl rfl rfl (λn h=>by cases h) (by show (dW (PV.str w::ps) 0).map _=_; rw[at0]; rfl)
theorem vA {b:BF} {te:EF} {x:PV} {xs:List PV} {Y Y1 Y2:Ev} {acc:List PV} {l:Lc} {R:Option (List PV×Mu)} (h1:b x Y=some Y1) (h2:te Y1=some (l,Y2)) (hz:acc.length<100000) (h3:dj b bK te xs Y2 (acc++[l.pv])=R):dj b bK te (x::xs) Y acc=R:=by show (b x Y).bind _=R;rw[h1,aaa];show (te Y1).bind _=R;rw[h2,aaa,abR hz];exact h3
abbrev Y5 (n:Nat):EF:=aF (jW n) (aj (aa 0) ao)
theorem Im {rs:Rows} {n:Nat} {mu:Mu} (h:dj (aA 0) bK (Y5 n) rs.pvs ⟨[none],mu⟩ []=some ([]++rs.pvs,mu)):eX (n+1) [.lst rs.pvs] mu=some (.own (.lst rs.pvs),mu):=
 aX (Y:=⟨[yL rs.pvs],mu⟩) (cJ (cM (m:=1) (ixs:=[]) (Y1:=E1 (.lst rs.pvs) mu) (xs:=rs.pvs) (fU (l:=.sh (.lst rs.pvs)) rfl rfl) h))
mutual
theorem En:∀(r:Row) (f:Nat) (mu:Mu),r.ok->r.dep<=f->r.cnt<=1000->jW f [r.pv] mu=some (.sh r.pv,mu)
 | .leaf w ps,f,mu,ok,hd,hc=>by obtain⟨m,rfl⟩:∃m,f=m+1:=⟨f-1,by simp only[Row.dep]at hd; omega⟩;obtain⟨⟨h1,h2,h3⟩,_⟩:=ok;refine aX (Y:=⟨[none],mu⟩) ?_;exact(bM (iT w0) h1).trans ((bM (iT w0) h2).trans ((bM (iT w0) h3).trans rfl))
 | .call b n as,f,mu,ok,hd,hc=>by obtain⟨m,rfl⟩:∃m,f=m+1:=⟨f-1,by simp only[Row.dep]at hd; omega⟩;refine aX (Y:=E1 (Row.call b n as).pv mu) ?_;refine(bM (iT w0) (by decide +kernel)).trans ((bM (iT w0) (by decide +kernel)).trans (dO (iT w0) (by decide +kernel) (cJ (dG (ls:=[.sh (.str "call"),.sh b,.sh (.str n),.own (.lst as)]) ?_ rfl rfl))));exact aB (Y1:=E1 (Row.call b n as).pv mu) rfl (aB (Y1:=E1 (Row.call b n as).pv mu) rfl (aB (Y1:=E1 (Row.call b n as).pv mu) rfl (aB (Y1:=E1 (Row.call b n as).pv mu) (tR (ls:=[.sh (.lst as)]) (Y1:=E1 (Row.call b n as).pv mu) (aB (Y1:=E1 (Row.call b n as).pv mu) rfl rfl) rfl rfl) rfl)))
 | .wh e b,f,mu,ok,hd,hc=>by
  simp only[Row.dep]at hd;simp only[Row.cnt]at hc;obtain⟨m,rfl⟩:∃m,f=m+1:=⟨f-1,by omega⟩;have hb:1<=b.dep:=Rows.dep_pos b;obtain⟨m,rfl⟩:∃k,m=k+1:=⟨m-1,by omega⟩;have ih:=Im (tH b m mu none [] ok.2 (by omega) (by simp only[aav]; omega));let P:=(Row.wh e b).pv;have s1:aF (eX (m+1)) (aj (aN (aa 0) (adE 2)) ao) (E1 P mu)=some (.own (.lst b.pvs),E1 P mu):=
   aY (ls:=[.sh (.lst b.pvs)]) (ps:=[.lst b.pvs]) (Y1:=E1 P mu) rfl rfl rfl rfl ih
  refine aX (Y:=E1 P mu) ?_;exact(bM (iT w0) (by decide +kernel)).trans (dO (iT w0) (by decide +kernel) (cJ (dG (ls:=[.sh (.str "while"),.sh e,.own (.lst b.pvs)]) (Y1:=E1 P mu) (aB (Y1:=E1 P mu) rfl (aB (Y1:=E1 P mu) rfl (aB s1 rfl))) rfl rfl)))
 | .iff e b c,f,mu,ok,hd,hc=>by
  simp only[Row.dep]at hd;simp only[Row.cnt]at hc;obtain⟨m,rfl⟩:∃m,f=m+1:=⟨f-1,by omega⟩;have hb:1<=b.dep:=Rows.dep_pos b;obtain⟨m,rfl⟩:∃k,m=k+1:=⟨m-1,by omega⟩;have ih:=Im (tH b m mu none [] ok.2.1 (by omega) (by simp only[aav]; omega));have ih2:=Im (tH c m mu none [] ok.2.2 (by omega) (by simp only[aav]; omega));let P:=(Row.iff e b c).pv;have s1:aF (eX (m+1)) (aj (aN (aa 0) (adE 2)) ao) (E1 P mu)=some (.own (.lst b.pvs),E1 P mu):=
   aY (ls:=[.sh (.lst b.pvs)]) (ps:=[.lst b.pvs]) (Y1:=E1 P mu) rfl rfl rfl rfl ih
  have s2:aF (eX (m+1)) (aj (aN (aa 0) (adE 3)) ao) (E1 P mu)=some (.own (.lst c.pvs),E1 P mu):=
   aY (ls:=[.sh (.lst c.pvs)]) (ps:=[.lst c.pvs]) (Y1:=E1 P mu) rfl rfl rfl rfl ih2
  refine aX (Y:=E1 P mu) ?_;exact dO (iT w0) (by decide +kernel) (cJ (dG (ls:=[.sh (.str "if"),.sh e,.own (.lst b.pvs),.own (.lst c.pvs)]) (aB (Y1:=E1 P mu) rfl (aB (Y1:=E1 P mu) rfl (aB s1 (aB s2 rfl)))) rfl rfl))
theorem tH:∀(rs:Rows) (n:Nat) (mu:Mu) (o:Option Lc) (acc:List PV),rs.ok->rs.dep<=n+1->acc.length+rs.cnt<=1000->dj (aA 0) bK (Y5 n) rs.pvs ⟨[o],mu⟩ acc=some (acc++rs.pvs,mu)
 | .nil,n,mu,o,acc,_,_,_=>by simp[Rows.pvs,dj]
 | .cons r rs,n,mu,o,acc,ok,hd,hc=>by simp only[Rows.dep]at hd;simp only[Rows.cnt]at hc;have h1:=r.cnt_pos;have e1:=En r n mu ok.1 (by omega) (by omega);have e2:=tH rs n mu (yS r.pv) (acc++[r.pv]) ok.2 (by omega) (by rw[aaq]; simp only[aac,aav]; omega);refine vA (Y1:=E1 r.pv mu) (Y2:=E1 r.pv mu) (l:=.sh r.pv) rfl (aY (ls:=[.sh r.pv]) (ps:=[r.pv]) (Y1:=E1 r.pv mu) rfl rfl rfl rfl e1) (by omega) (e2.trans ?_);simp only[Rows.pvs,aaC];rfl
end
structure Ent where
 w:Str
 ab:PV
 bl:Int
 r:Row
def Ent.pv (e:Ent):PV:=.tup [.str e.w,e.ab,.int e.bl,e.r.pv]
mutual
def Row.es:Row->Str->PV->Int->Nat->List Ent
 | .leaf x ps,w,ab,bl,_=>[⟨w,ab,bl,.leaf x ps⟩]
 | .call b n as,w,ab,bl,_=>[⟨w,ab,bl,.call b n as⟩]
 | .wh e b,w,ab,bl,k=>⟨w,ab,bl,.wh e b⟩::b.es w (.int k) 0 (k+1)
 | .iff e b c,w,ab,bl,k=>⟨w,ab,bl,.iff e b c⟩::(b.es w (.int k) 0 (k+1)++c.es w (.int k) 1 (k+1+b.cnt))
def Rows.es:Rows->Str->PV->Int->Nat->List Ent
 | .nil,_,_,_,_=>[]
 | .cons r rs,w,ab,bl,k=>r.es w ab bl k++rs.es w ab bl (k+r.cnt)
end
mutual
theorem Row.es_len:∀(r:Row) (w:Str) (ab:PV) (bl:Int) (k:Nat),(r.es w ab bl k).length=r.cnt
 | .leaf _ _,w,ab,bl,k=>rfl
 | .call _ _ _,w,ab,bl,k=>rfl
 | .wh e b,w,ab,bl,k=>by simp[Row.es,Row.cnt,Rows.es_len b]
 | .iff e b c,w,ab,bl,k=>by simp[Row.es,Row.cnt,Rows.es_len b,Rows.es_len c]
theorem Rows.es_len:∀(rs:Rows) (w:Str) (ab:PV) (bl:Int) (k:Nat),(rs.es w ab bl k).length=rs.cnt
 | .nil,w,ab,bl,k=>rfl
 | .cons r rs,w,ab,bl,k=>by simp[Rows.es,Rows.cnt,Row.es_len r,Rows.es_len rs]
end
abbrev evs (l:List Ent):List PV:=l.map Ent.pv
theorem Dj (a b:List Ent):evs (a++b)=evs a++evs b:=aaz
theorem nC (a:List Ent):(evs a).length=a.length:=aad _
theorem Vd {fo fv:EF} {Y Y1 Y2:Ev} {o y:Lc} {n:Nat} {ws0 ws:List PV} {p:PV} {mu:Mu} (h1:fo Y=some (o,Y1)) (ho:o.pv=.ptr n) (hm:Y1.mu[n]?=some (some (.lst ws0))) (h2:fv Y1=some (y,Y2)) (hy:y.pv=p) (hm2:Y2.mu[n]?=some (some (.lst ws))) (hz:ws.length<100000) (e:Y2.mu.set n (some (.lst (ws++[p])))=mu):yf fo fv Y=some (.nx ⟨Y2.vs,mu⟩):=by unfold yf;rw[h1,aaa,ho];dsimp only;rw[hm];dsimp only;rw[h2,aaa,hm2];dsimp only;rw[abR hz,hy,e]
theorem Xx {b:BF} {body:SF} {x:PV} {Y Y1 Y2:Ev} (h1:b x Y=some Y1) (h2:body Y1=some (.nx Y2)):cU b body [x] Y=some (.nx Y2):=dH h1 h2 rfl
theorem ZV {b:BF} {body:SF} {x y:PV} {Y Y1 Y2 Y3 Y4:Ev} (h1:b x Y=some Y1) (h2:body Y1=some (.nx Y2)) (h3:b y Y2=some Y3) (h4:body Y3=some (.nx Y4)):cU b body [x,y] Y=some (.nx Y4):=dH h1 h2 (Xx h3 h4)
theorem yK {w:Str} {ps:List PV} {mu:Mu} (h1:(w == "if")=false) (h2:(w == "while")=false):jt [.tup (.str w::ps)] mu=some (.own (.lst []),mu):=
 aX (Y:=E1 (.tup (.str w::ps)) mu) ((bM (iT w0) h1).trans ((bM (iT w0) h2).trans rfl))
theorem Pu {e p:PV} {mu:Mu}:jt [.tup [.str "while",e,p]] mu=some (.own (.lst [p]),mu):=
 aX (Y:=E1 (.tup [.str "while",e,p]) mu) ((bM (iT w0) (by decide +kernel)).trans (dO (iT w0) (by decide +kernel) rfl))
theorem Px {e p q:PV} {mu:Mu}:jt [.tup [.str "if",e,p,q]] mu=some (.own (.lst [p,q]),mu):=
 aX (Y:=E1 (.tup [.str "if",e,p,q]) mu) (dO (iT w0) (by decide +kernel) rfl)
abbrev lg (w:Str) (ab:PV) (bl:Int) (X:PV) (st:Nat) (acc:List PV) (o6 o7 o8 o9:Option Lc) (mu:Mu):Ev:=⟨[zT w,yS ab,zI bl,yS X,zI st,yO acc,o6,o7,o8,o9],mu⟩
abbrev Xy (n:Nat):SF:=qj 5 (aF (fO n) (aj (aa 0) (aj (aa 7) (aj (aa 8) (aj (aa 9) (aj (lR (aC bh (aa 4) (eB dZ (aj (aa 5) ao)))) ao))))))
abbrev Ti (n:Nat):SF:=aG (aK 7 (lR (aC bh (aa 4) (eB dZ (aj (aa 5) ao)))))
 (aG (fX 5 (bu (aj (aa 0) (aj (aa 1) (aj (aa 2) (aj (aF (jW 40) (aj (aa 6) ao)) ao))))))
 (dM (pP (aF jt (aj (aa 6) ao))) (b7 2 (aJ (aA 8) (aJ (aA 9) bZ))) (Xy n)))
theorem Io {n:Nat} {w:Str} {ab X:PV} {bl pl:Int} {st k:Nat} {acc qs:List PV} {o6:Option Lc} {p:PV} {mu:Mu} (h:fO n [.str w,.int k,.int pl,p,.int ((st+acc.length:Nat):Int)] mu=some (.own (.lst qs),mu)) (hz:acc.length+qs.length<=100000):
 Xy n (lg w ab bl X st acc o6 (zI k) (zI pl) (yS p) mu)=some (.nx (lg w ab bl X st (acc++qs) o6 (zI k) (zI pl) (yS p) mu)):=
 Ai (i:=5) (ws0:=acc) (ws:=acc) (ps:=qs) (l:=.own (.lst qs)) (Y1:=lg w ab bl X st acc o6 (zI k) (zI pl) (yS p) mu) rfl
  (aY (ls:=[.sh (.str w),.sh (.int k),.sh (.int pl),.sh p,.sh (.int ((st:Int)+acc.length))]) (ps:=[.str w,.int k,.int pl,p,.int ((st+acc.length:Nat):Int)]) (Y1:=lg w ab bl X st acc o6 (zI k) (zI pl) (yS p) mu) rfl (by simp[Lc.pv]) rfl rfl h) rfl rfl hz rfl
abbrev Eo (w:Str) (ab:PV) (bl:Int) (r:Row):PV:=.tup [.str w,ab,.int bl,r.pv]
theorem Bu {n:Nat} {w:Str} {ab X:PV} {bl:Int} {st:Nat} {acc:List PV} {o7 o8 o9:Option Lc} {mu:Mu} {r:Row} {R:Option Fl} {bs:List PV} (ok:r.ok) (hd:r.dep<=40) (hc:r.cnt<=1000) (hz:acc.length<1000) (hb:∀mu,jt [r.pv] mu=some (.own (.lst bs),mu))
 (h:cU (b7 2 (aJ (aA 8) (aJ (aA 9) bZ))) (Xy n) (kW bs) (lg w ab bl X st (acc++[Eo w ab bl r]) (yS r.pv) (zI ((st+acc.length:Nat):Int)) o8 o9 mu)=R):
 Ti n (lg w ab bl X st acc (yS r.pv) o7 o8 o9 mu)=R:=by
 have e1:=En r 40 mu ok hd hc;let E:=lg w ab bl X st acc (yS r.pv) (zI ((st+acc.length:Nat):Int)) o8 o9 mu;refine aD (Y':=E) (aZ (l:=.sh (.int ((st:Int)+acc.length))) (Y1:=lg w ab bl X st acc (yS r.pv) o7 o8 o9 mu) rfl rfl (by show _=lg w ab bl X st acc (yS r.pv) (zI ((st+acc.length:Nat):Int)) o8 o9 mu; rw[Int.natCast_add]; rfl)) ?_;refine aD (Y':=lg w ab bl X st (acc++[Eo w ab bl r]) (yS r.pv) (zI ((st+acc.length:Nat):Int)) o8 o9 mu) ?_ ?_
 . exact lE (i:=5) (ws0:=acc) (ws:=acc) (p:=Eo w ab bl r) (l:=.sh (Eo w ab bl r)) (Y1:=E) rfl
    (dG (ls:=[.sh (.str w),.sh ab,.sh (.int bl),.sh r.pv]) (aB (Y1:=E) rfl (aB (Y1:=E) rfl (aB (Y1:=E) rfl (aB (aY (ls:=[.sh r.pv]) (ps:=[r.pv]) (Y1:=E) rfl rfl rfl rfl e1) rfl)))) rfl rfl) rfl rfl (by omega) rfl
 . refine dq (xs:=kW bs) (Y1:=lg w ab bl X st (acc++[Eo w ab bl r]) (yS r.pv) (zI ((st+acc.length:Nat):Int)) o8 o9 mu) ?_ h;unfold pP;rw[aY (ls:=[.sh r.pv]) (ps:=[r.pv]) (Y1:=lg w ab bl X st (acc++[Eo w ab bl r]) (yS r.pv) (zI ((st+acc.length:Nat):Int)) o8 o9 mu) rfl rfl rfl rfl (hb _),aaa];rfl
theorem Ga {rs:Rows} {n:Nat} {w:Str} {ab:PV} {bl:Int} {st:Nat} {mu:Mu}
 (h:∃o6 o7 o8 o9,cU (aA 6) (Ti n) rs.pvs (lg w ab bl (.lst rs.pvs) st [] none none none none mu)=some (.nx (lg w ab bl (.lst rs.pvs) st ([]++evs (rs.es w ab bl (st+0))) o6 o7 o8 o9 mu))):
 fO (n+1) [.str w,ab,.int bl,.lst rs.pvs,.int st] mu=some (.own (.lst (evs (rs.es w ab bl st))),mu):=by
 obtain⟨o6,o7,o8,o9,h⟩:=h;refine aX (Y:=⟨[zT w,yS ab,zI bl,yL rs.pvs,zI st,none,o6,o7,o8,o9],mu⟩) ?_;exact aD (Y':=lg w ab bl (.lst rs.pvs) st [] none none none none mu) rfl (aD (dq (xs:=rs.pvs) (Y1:=lg w ab bl (.lst rs.pvs) st [] none none none none mu) (fU (l:=.sh (.lst rs.pvs)) rfl rfl) h) rfl)
mutual
theorem Xz:∀(r:Row) (n:Nat) (w:Str) (ab:PV) (bl:Int) (X:PV) (st:Nat) (acc:List PV) (o7 o8 o9:Option Lc) (mu:Mu),r.ok->r.dep<=n->r.dep<=40->acc.length+r.cnt<=1000->
 ∃p7 p8 p9,Ti n (lg w ab bl X st acc (yS r.pv) o7 o8 o9 mu)=some (.nx (lg w ab bl X st (acc++evs (r.es w ab bl (st+acc.length))) (yS r.pv) p7 p8 p9 mu))
 | .leaf x ps,n,w,ab,bl,X,st,acc,o7,o8,o9,mu,ok,hd,h40,hc=>by simp only[Row.cnt]at hc;exact⟨zI ((st+acc.length:Nat):Int),o8,o9,Bu (r:=.leaf x ps) ok h40 (by simp only[Row.cnt]; omega) (by omega) (λmu=>yK ok.1.1 ok.1.2.1) rfl⟩
 | .call b m as,n,w,ab,bl,X,st,acc,o7,o8,o9,mu,ok,hd,h40,hc=>by simp only[Row.cnt]at hc;exact⟨zI ((st+acc.length:Nat):Int),o8,o9,Bu (r:=.call b m as) ok h40 (by simp only[Row.cnt]; omega) (by omega) (λmu=>yK (by decide +kernel) (by decide +kernel)) rfl⟩
 | .wh e b,n,w,ab,bl,X,st,acc,o7,o8,o9,mu,ok,hd,h40,hc=>by
  simp only[Row.cnt]at hc;simp only[Row.dep]at hd h40;have hb:=Rows.dep_pos b;obtain⟨m,rfl⟩:∃m,n=m+1:=⟨n-1,by omega⟩;let r:Row:=.wh e b;let k:=st+acc.length;let acc1:=acc++[Eo w ab bl r];have hl1:acc1.length=acc.length+1:=by simp[acc1]
  have ih:=Ga (n:=m) (w:=w) (ab:=.int (k:Nat)) (bl:=0) (st:=st+acc1.length) (mu:=mu) (rs:=b) (uI b m w (.int (k:Nat)) 0 (.lst b.pvs) (st+acc1.length) [] none none none none mu ok.2 (by omega) (by omega) (by simp only[aav]; omega));have he:(evs (b.es w (.int (k:Nat)) 0 (st+acc1.length))).length=b.cnt:=by rw[nC,Rows.es_len]
  have st1:=Io (n:=m+1) (w:=w) (ab:=ab) (X:=X) (bl:=bl) (pl:=0) (st:=st) (k:=k) (acc:=acc1) (o6:=yS r.pv) (p:=.lst b.pvs) ih (by rw[he,hl1]; omega);refine⟨zI (k:Nat),zI 0,yL b.pvs,Bu (r:=.wh e b) ok (by simp only[Row.dep]; omega) (by simp only[Row.cnt]; omega) (by omega) (λmu=>Pu) ((Xx (Y1:=lg w ab bl X st acc1 (yS r.pv) (zI (k:Nat)) (zI 0) (yL b.pvs) mu) rfl st1).trans ?_)⟩;have ek:st+acc1.length=k+1:=by rw[hl1]; omega
  rw[ek];simp only[Row.es,acc1,aaC,aa3,aaE,evs,aao];rfl
 | .iff e b c,n,w,ab,bl,X,st,acc,o7,o8,o9,mu,ok,hd,h40,hc=>by
  simp only[Row.cnt]at hc;simp only[Row.dep]at hd h40;have hb:=Rows.dep_pos b;obtain⟨m,rfl⟩:∃m,n=m+1:=⟨n-1,by omega⟩;let r:Row:=.iff e b c;let k:=st+acc.length;let acc1:=acc++[Eo w ab bl r];have hl1:acc1.length=acc.length+1:=by simp[acc1]
  have ih:=Ga (n:=m) (w:=w) (ab:=.int (k:Nat)) (bl:=0) (st:=st+acc1.length) (mu:=mu) (rs:=b) (uI b m w (.int (k:Nat)) 0 (.lst b.pvs) (st+acc1.length) [] none none none none mu ok.2.1 (by omega) (by omega) (by simp only[aav]; omega));have he:(evs (b.es w (.int (k:Nat)) 0 (st+acc1.length))).length=b.cnt:=by rw[nC,Rows.es_len]
  have st1:=Io (n:=m+1) (w:=w) (ab:=ab) (X:=X) (bl:=bl) (pl:=0) (st:=st) (k:=k) (acc:=acc1) (o6:=yS r.pv) (p:=.lst b.pvs) ih (by rw[he,hl1]; omega);let acc2:=acc1++evs (b.es w (.int (k:Nat)) 0 (st+acc1.length));have hl2:acc2.length=acc.length+1+b.cnt:=by show (acc1++_).length=_; rw[aaq,he,hl1]
  have ih2:=Ga (n:=m) (w:=w) (ab:=.int (k:Nat)) (bl:=1) (st:=st+acc2.length) (mu:=mu) (rs:=c) (uI c m w (.int (k:Nat)) 1 (.lst c.pvs) (st+acc2.length) [] none none none none mu ok.2.2 (by omega) (by omega) (by simp only[aav]; omega));have he2:(evs (c.es w (.int (k:Nat)) 1 (st+acc2.length))).length=c.cnt:=by rw[nC,Rows.es_len]
  have st2:=Io (n:=m+1) (w:=w) (ab:=ab) (X:=X) (bl:=bl) (pl:=1) (st:=st) (k:=k) (acc:=acc2) (o6:=yS r.pv) (p:=.lst c.pvs) ih2 (by rw[he2,hl2]; omega);refine⟨zI (k:Nat),zI 1,yL c.pvs,Bu (r:=.iff e b c) ok (by simp only[Row.dep]; omega) (by simp only[Row.cnt]; omega) (by omega) (λmu=>Px) ((ZV (Y1:=lg w ab bl X st acc1 (yS r.pv) (zI (k:Nat)) (zI 0) (yL b.pvs) mu) (Y3:=lg w ab bl X st acc2 (yS r.pv) (zI (k:Nat)) (zI 1) (yL c.pvs) mu) rfl st1 rfl st2).trans ?_)⟩;have ek:st+acc1.length=k+1:=by rw[hl1]; omega
  have ek2:st+acc2.length=k+1+b.cnt:=by rw[hl2]; omega
  rw[ek2];simp only[acc2,ek];simp only[Row.es,evs,aao,aaz,acc1,aaC,aa3,aaE];rfl
theorem uI:∀(rs:Rows) (n:Nat) (w:Str) (ab:PV) (bl:Int) (X:PV) (st:Nat) (acc:List PV) (o6 o7 o8 o9:Option Lc) (mu:Mu),rs.ok->rs.dep<=n+1->rs.dep<=41->acc.length+rs.cnt<=1000->
 ∃p6 p7 p8 p9,cU (aA 6) (Ti n) rs.pvs (lg w ab bl X st acc o6 o7 o8 o9 mu)=some (.nx (lg w ab bl X st (acc++evs (rs.es w ab bl (st+acc.length))) p6 p7 p8 p9 mu))
 | .nil,n,w,ab,bl,X,st,acc,o6,o7,o8,o9,mu,ok,hd,h41,hc=>⟨o6,o7,o8,o9,by simp[Rows.pvs,cU,Rows.es,evs]⟩
 | .cons r rs,n,w,ab,bl,X,st,acc,o6,o7,o8,o9,mu,ok,hd,h41,hc=>by
  simp only[Rows.dep]at hd h41;simp only[Rows.cnt]at hc;obtain⟨q7,q8,q9,e1⟩:=Xz r n w ab bl X st acc o7 o8 o9 mu ok.1 (by omega) (by omega) (by omega);have hl:(acc++evs (r.es w ab bl (st+acc.length))).length=acc.length+r.cnt:=by rw[aaq,nC,Row.es_len]
  obtain⟨p6,p7,p8,p9,e2⟩:=uI rs n w ab bl X st (acc++evs (r.es w ab bl (st+acc.length))) (yS r.pv) q7 q8 q9 mu ok.2 (by omega) (by omega) (by rw[hl]; omega);refine⟨p6,p7,p8,p9,dH (Y1:=lg w ab bl X st acc (yS r.pv) o7 o8 o9 mu) rfl e1 (e2.trans ?_)⟩;rw[hl,<-Nat.add_assoc];simp only[Rows.es,Dj,aaC]
end
theorem yM {rs:Rows} {w:Str} {ab:PV} {bl:Int} {st:Nat} {mu:Mu} (ok:rs.ok) (hd:rs.dep<=40) (hc:rs.cnt<=1000):
 fO 40 [.str w,ab,.int bl,.lst rs.pvs,.int st] mu=some (.own (.lst (evs (rs.es w ab bl st))),mu):=
 Ga (n:=39) (uI rs 39 w ab bl _ st [] none none none none mu ok (by omega) (by omega) (by simp only[aav]; omega))
structure Fn where
 name:Str
 rank:PV
 params:List PV
 rows:Rows
def Fn.pv (f:Fn):PV:=.tup [.str f.name,f.rank,.lst f.params,.lst f.rows.pvs]
structure Pg where
 boxes:List PV
 grants:List PV
 fns:List Fn
 rows:Rows
def Pg.pv (P:Pg):PV:=.tup [.lst P.boxes,.lst P.grants,.lst (P.fns.map Fn.pv),.lst P.rows.pvs]
def mZ:List Fn->Nat
 | []=>0
 | f::fs=>f.rows.cnt+mZ fs
def uJ:List Fn->Nat->List Ent
 | [],_=>[]
 | f::fs,k=>f.rows.es f.name .non 0 k++uJ fs (k+f.rows.cnt)
theorem Dk:∀(fs:List Fn) (k:Nat),(uJ fs k).length=mZ fs
 | [],k=>rfl
 | f::fs,k=>by simp[uJ,mZ,Rows.es_len,Dk fs]
def Pg.es (P:Pg):List Ent:=uJ P.fns 0++P.rows.es "main" .non 0 (mZ P.fns)
structure Pg.ok (P:Pg):Prop where
 fn:∀f∈P.fns,f.rows.ok/\f.rows.dep<=30
 rw:P.rows.ok
 dp:P.rows.dep<=30
 ct:mZ P.fns+P.rows.cnt<=250
 fl:P.fns.length<=100
abbrev Y6:SF:=(qj 1 (aF (fO 40) (aj (aa 2) (aj (eC .non) (aj (adE 0) (aj (aa 5) (aj (lR (eB dZ (aj (aa 1) ao))) ao)))))))
abbrev yN (p:PV) (acc:List PV) (o2 o3 o4 o5:Option Lc) (mu:Mu):Ev:=⟨[yS p,yO acc,o2,o3,o4,o5],mu⟩
theorem Kr {p:PV}:∀(fs:List Fn) (acc:List PV) (o2 o3 o4 o5:Option Lc) (mu:Mu),(∀f∈fs,f.rows.ok/\f.rows.dep<=30)->acc.length+mZ fs<=1000->
 ∃p2 p3 p4 p5,cU (b7 4 (aJ (aA 2) (aJ (aA 3) (aJ (aA 4) (aJ (aA 5) bZ))))) Y6 (fs.map Fn.pv) (yN p acc o2 o3 o4 o5 mu)=some (.nx (yN p (acc++evs (uJ fs acc.length)) p2 p3 p4 p5 mu))
 | [],acc,o2,o3,o4,o5,mu,_,_=>⟨o2,o3,o4,o5,by simp[cU,uJ,evs]⟩
 | f::fs,acc,o2,o3,o4,o5,mu,h,hl=>by
  simp only[mZ]at hl;obtain⟨ok,hd⟩:=h f aab;have e:=yM (w:=f.name) (ab:=.non) (bl:=0) (st:=acc.length) (mu:=mu) ok (by omega) (by omega);have hl1:(acc++evs (f.rows.es f.name .non 0 acc.length)).length=acc.length+f.rows.cnt:=by rw[aaq,nC,Rows.es_len]
  let E:=yN p acc (yS (.str f.name)) (yS f.rank) (yL f.params) (yL f.rows.pvs) mu;obtain⟨p2,p3,p4,p5,ih⟩:=Kr (p:=p) fs (acc++evs (f.rows.es f.name .non 0 acc.length)) (yS (.str f.name)) (yS f.rank) (yL f.params) (yL f.rows.pvs) mu (λx hx=>h x (aai _ hx)) (by rw[hl1]; omega);have st:Y6 E=some (.nx (yN p (acc++evs (f.rows.es f.name .non 0 acc.length)) (yS (.str f.name)) (yS f.rank) (yL f.params) (yL f.rows.pvs) mu)):=
   Ai (i:=1) (ws0:=acc) (ws:=acc) (ps:=evs (f.rows.es f.name .non 0 acc.length)) (l:=.own (.lst (evs (f.rows.es f.name .non 0 acc.length)))) (Y1:=E) rfl
    (aY (ls:=[.sh (.str f.name),.sh .non,.sh (.int 0),.sh (.lst f.rows.pvs),.sh (.int acc.length)]) (ps:=[.str f.name,.non,.int 0,.lst f.rows.pvs,.int acc.length]) (Y1:=E) rfl rfl rfl rfl e) rfl rfl (by rw[nC,Rows.es_len]; omega) rfl
  refine⟨p2,p3,p4,p5,(dH (Y1:=E) rfl st (ih.trans ?_))⟩;rw[hl1];simp only[uJ,Dj,aaC]
theorem Jx {P:Pg} {mu:Mu} (ok:P.ok):vo [P.pv] mu=some (.own (.lst (evs P.es)),mu):=by
 have hc:=ok.ct;obtain⟨p2,p3,p4,p5,e1⟩:=Kr (p:=P.pv) P.fns [] none none none none mu ok.fn (by simp only[aav]; omega);simp only[aaE,aav]at e1;let a1:=evs (uJ P.fns 0);have ha:a1.length=mZ P.fns:=by simp only[a1,nC,Dk]
 have e2:=yM (w := "main") (ab:=.non) (bl:=0) (st:=a1.length) (mu:=mu) ok.rw (by have:=ok.dp; omega) (by omega);rw[ha]at e2;let b:=evs (P.rows.es "main" .non 0 (mZ P.fns));refine(aX (Y:=⟨[yS P.pv,none,p2,p3,p4,p5],mu⟩) (r:=.own (.lst (a1++b))) ?_).trans ?_
 . refine aD (Y':=yN P.pv [] none none none none mu) rfl (aD (Y':=yN P.pv a1 p2 p3 p4 p5 mu) (dq (xs:=P.fns.map Fn.pv) (Y1:=yN P.pv [] none none none none mu) (fU (l:=.sh (.lst (P.fns.map Fn.pv))) rfl rfl) e1) (aD (Y':=yN P.pv (a1++b) p2 p3 p4 p5 mu) ?_ rfl));exact Ai (i:=1) (ws0:=a1) (ws:=a1) (ps:=b) (l:=.own (.lst b)) (Y1:=yN P.pv a1 p2 p3 p4 p5 mu) rfl
    (aY (ls:=[.sh (.str "main"),.sh .non,.sh (.int 0),.sh (.lst P.rows.pvs),.sh (.int a1.length)]) (ps:=[.str "main",.non,.int 0,.lst P.rows.pvs,.int a1.length]) (Y1:=yN P.pv a1 p2 p3 p4 p5 mu) rfl rfl rfl rfl (by rw[ha]; exact e2)) rfl rfl (by simp only[b]; rw[ha,nC,Rows.es_len]; omega) rfl
 . simp only[a1,b,Pg.es,Dj]
abbrev jN:Option Str->PV
 | none=>.non
 | some x=>.str x
abbrev Bx:=Str×Int×Option Str
abbrev dw (b:Bx):PV:=.tup [.str b.1,.int b.2.1,jN b.2.2]
abbrev Gr:=Str×Str×Str
abbrev lL (g:Gr):PV:=.tup [.str g.1,.str g.2.1,.str g.2.2]
abbrev Pa:=Str×Option Str
abbrev eU (q:Pa):PV:=.tup [.str q.1,jN q.2]
structure Fd where
 name:Str
 rank:Option Str
 params:List Pa
 rows:Rows
def Fd.fn (f:Fd):Fn:=⟨f.name,jN f.rank,f.params.map eU,f.rows⟩
structure Pr where
 bs:List Bx
 gs:List Gr
 fs:List Fd
 rows:Rows
def Pr.pg (P:Pr):Pg:=⟨P.bs.map dw,P.gs.map lL,P.fs.map Fd.fn,P.rows⟩
def Pr.pv (P:Pr):PV:=P.pg.pv
abbrev Sh (x:Str):Prop:=x.length<=20
structure Pr.ok (P:Pr):Prop where
 pg:P.pg.ok
 bl:P.bs.length<=50
 gl:P.gs.length<=50
 pl:∀f∈P.fs,f.params.length<=50
 fl:P.fs.length<=50
 sb:∀b∈P.bs,Sh b.1
 sf:∀f∈P.fs,Sh f.name/\∀q∈f.params,Sh q.1
def yP (f:Fd):List Pa:=(f.name,f.rank)::f.params
def Pr.hp (P:Pr):List Pa:=P.bs.map (λb=>(b.1,b.2.2))++P.fs.flatMap yP
theorem jH {α β:Type} {b:BF} {body:SF} (img:α->PV) (step:β->α->β) (N:Nat) (J:Nat->β->Ev->Prop):∀(xs:List α) (n:Nat) (s:β) (Y:Ev),(∀a∈xs,∀n s Y,n<N->J n s Y->∃Y1 Y2,b (img a) Y=some Y1/\body Y1=some (.nx Y2)/\J (n+1) (step s a) Y2)->n+xs.length<=N->J n s Y->
 ∃Y',cU b body (xs.map img) Y=some (.nx Y')/\J (n+xs.length) (xs.foldl step s) Y'
 | [],n,s,Y,_,_,j=>⟨Y,rfl,j⟩
 | a::xs,n,s,Y,h,hn,j=>by simp only[aac]at hn;obtain⟨Y1,Y2,e1,e2,j2⟩:=h a aab n s Y (by omega) j;obtain⟨Y',e3,j3⟩:=jH img step N J xs (n+1) (step s a) Y2 (λx hx=>h x (aai _ hx)) (by omega) j2;refine⟨Y',dH e1 e2 e3,?_⟩;rw[aac,show n+(xs.length+1)=n+1+xs.length by omega];exact j3
theorem m5 {b:BF} {te:EF} {α:Type} (img:α->PV) (g:α->PV) {J:Ev->Prop} {mu:Mu} (h:∀a Y,J Y->∃Y1 Y2 l,b (img a) Y=some Y1/\te Y1=some (l,Y2)/\l.pv=g a/\J Y2) (hm:∀Y,J Y->Y.mu=mu):∀(xs:List α) (Y:Ev) (acc:List PV),J Y->acc.length+xs.length<=1000->dj b bK te (xs.map img) Y acc=some (acc++xs.map g,mu)
 | [],Y,acc,j,_=>by show some (acc,Y.mu)=_;rw[hm Y j]; simp
 | a::xs,Y,acc,j,hl=>by simp only[aac]at hl;obtain⟨Y1,Y2,l,e1,e2,e3,j2⟩:=h a Y j;refine vA e1 e2 (by omega) ((m5 img g h hm xs Y2 (acc++[l.pv]) j2 (by rw[aaq]; simp only[aac,aav]; omega)).trans ?_);rw[e3];simp
abbrev HE (P:PV) (acc:List PV) (o2 o3 o4 o5:Option Lc) (mu:Mu):Ev:=⟨[yS P,yO acc,o2,o3,o4,o5],mu⟩
theorem Fi {P:Pr} {mu:Mu} (ok:P.ok):rY [P.pv] mu=some (.own (.lst (P.hp.map eU)),mu):=by
 have e1:aK 1 (bJ (cR (aN (aa 0) (adE 0)) bI) 3 [] (b7 3 (aJ (aA 0) (aJ (aA 1) (aJ (aA 2) bZ)))) bK (bu (aj (aa 0) (aj (aa 2) ao)))) ⟨[yS P.pv,none,none,none,none,none],mu⟩=some (.nx (HE P.pv ((P.bs.map λb=>(b.1,b.2.2)).map eU) none none none none mu)):=by
  refine aZ (l:=.own (.lst ((P.bs.map λb=>(b.1,b.2.2)).map eU))) (Y1:=⟨[yS P.pv,none,none,none,none,none],mu⟩) ?_ rfl rfl;refine(cM (m:=3) (ixs:=[]) (xs:=P.bs.map dw) (Y1:=⟨[yS P.pv,none,none,none,none,none],mu⟩) (fU (l:=.sh (.lst (P.bs.map dw))) rfl rfl) (m5 (α:=Bx) dw (λb=>eU (b.1,b.2.2)) (J:=λY=>∃o0 o1 o2,Y=⟨[o0,o1,o2],mu⟩) (mu:=mu) ?_ ?_ P.bs _ [] ⟨none,none,none,rfl⟩ (by have:=ok.bl; simp only[aav]; omega))).trans ?_
  . rintro b _ ⟨o0,o1,o2,rfl⟩;exact⟨⟨[yS (.str b.1),yS (.int b.2.1),yS (jN b.2.2)],mu⟩,_,.sh (eU (b.1,b.2.2)),rfl,rfl,rfl,_,_,_,rfl⟩
  . rintro _ ⟨o0,o1,o2,rfl⟩; rfl
  . rw[aaE,aaD]; rfl
 obtain⟨Y',e2,acc,o2,o3,o4,o5,rfl,ea⟩:=jH (b:=b7 4 (aJ (aA 2) (aJ (aA 3) (aJ (aA 4) (aJ (aA 5) bZ)))))
  (body:=aG (fX 1 (bu (aj (aa 2) (aj (aa 3) ao)))) (qj 1 (bJ (cR (aa 4) bI) 2 [] (b7 2 (aJ (aA 0) (aJ (aA 1) bZ))) bK (bu (aj (aa 0) (aj (aa 1) ao))))))
  (λf:Fd=>f.fn.pv) (λ(s:List Pa) f=>s++yP f) 50 (λn s Y=>∃acc o2 o3 o4 o5,Y=HE P.pv acc o2 o3 o4 o5 mu/\acc=s.map eU/\s.length<=50+51*n) P.fs 0 (P.bs.map λb=>(b.1,b.2.2)) (HE P.pv ((P.bs.map λb=>(b.1,b.2.2)).map eU) none none none none mu) (by
    rintro f hf n s _ hn ⟨acc,o2,o3,o4,o5,rfl,rfl,hs⟩;have hp:=ok.pl f hf;have hs':s.length<=50+51*50:=by omega
    let E1:=HE P.pv (s.map eU) (yS (.str f.name)) (yS (jN f.rank)) (yL (f.params.map eU)) (yL f.rows.pvs) mu;let a1:=s.map eU++[eU (f.name,f.rank)];let E2:=HE P.pv a1 (yS (.str f.name)) (yS (jN f.rank)) (yL (f.params.map eU)) (yL f.rows.pvs) mu;have hl:a1.length=s.length+1:=by simp only[a1,aaq,aad,aac,aav]
    have c1:bJ (cR (aa 4) bI) 2 [] (b7 2 (aJ (aA 0) (aJ (aA 1) bZ))) bK (bu (aj (aa 0) (aj (aa 1) ao))) E2=some (.own (.lst (f.params.map eU)),E2):=by
     refine cM (m:=2) (ixs:=[]) (xs:=f.params.map eU) (Y1:=E2) (fU (l:=.sh (.lst (f.params.map eU))) rfl rfl) ((m5 (α:=Pa) eU eU (J:=λY=>∃o0 o1,Y=⟨[o0,o1],mu⟩) (mu:=mu) ?_ ?_ f.params _ [] ⟨none,none,rfl⟩ (by simp only[aav]; omega)).trans rfl)
     . rintro q _ ⟨o0,o1,rfl⟩;exact⟨⟨[yS (.str q.1),yS (jN q.2)],mu⟩,_,.sh (eU q),rfl,rfl,rfl,_,_,rfl⟩
     . rintro _ ⟨o0,o1,rfl⟩; rfl
    refine⟨E1,HE P.pv (a1++f.params.map eU) (yS (.str f.name)) (yS (jN f.rank)) (yL (f.params.map eU)) (yL f.rows.pvs) mu,rfl,?_,_,_,_,_,_,rfl,?_,?_⟩
    . refine aD (Y':=E2) (lE (i:=1) (ws0:=s.map eU) (ws:=s.map eU) (p:=eU (f.name,f.rank)) (l:=.sh (eU (f.name,f.rank))) (Y1:=E1) rfl rfl rfl rfl (by rw[aad]; omega) rfl) ?_;exact Ai (i:=1) (ws0:=a1) (ws:=a1) (ps:=f.params.map eU) (l:=.own (.lst (f.params.map eU))) (Y1:=E2) rfl c1 rfl rfl (by rw[hl,aad]; omega) rfl
    . simp only[a1,yP,aaz,aao,aaC,aa3,aaE]
    . simp only[yP,aaq,aac]; omega) (by have:=ok.fl; omega) ⟨_,_,_,_,_,rfl,rfl,by have:=ok.bl; simp only[aad]; omega⟩
 have ef:∀(fs:List Fd) (s:List Pa),fs.foldl (λ(s:List Pa) f=>s++yP f) s=s++fs.flatMap yP:=λfs=>by
  induction fs with
  | nil=>intro s; simp
  | cons f fs ih=>intro s; rw[aaX,ih]; simp
 rw[ef]at ea;refine aX (Y:=⟨[yS P.pv,none,o2,o3,o4,o5],mu⟩) (aD e1 (aD (dq (xs:=P.fs.map λf=>f.fn.pv) (Y1:=HE P.pv _ none none none none mu) (fU (l:=.sh (.lst ((P.fs.map Fd.fn).map Fn.pv))) rfl (by rw[aaD]; rfl)) e2) ?_));rw[ea.1];rfl
theorem Ep {k:Key} {v:PV}:∀l:PD,(ye k v l).length=l.length
 | []=>rfl
 | x::r=>by simp[ye,Ep r]
theorem vB {k:Key} {v:PV} {l:PD}:(jR l k v).length<=l.length+1:=by
 unfold jR;split
 . rw[Ep]; omega
 . simp
def nD (k:Nat):Str:=toString (k:Int)
theorem Bv:∀k<256,Ru (.int ((k:Nat):Int))=some (nD k)/\(nD k).length<=1000/\str1 [.int ((k:Nat):Int)]=zT (nD k):=by
 have g:∀k<256,(nD k).length<=1000/\((k:Nat):Int).natAbs.log2<1920:=by decide +kernel
 intro k hk;obtain⟨g2,g3⟩:=g k hk;refine⟨?_,g2,?_⟩
 . show (if ((k:Nat):Int).natAbs.log2<1920 then (if (nD k).length<=100000 then some (nD k) else none) else none)=_;rw[abR g3,abR (by omega)]
 . show (if ((k:Nat):Int).natAbs.log2<1920 then some (Lc.sh (.str (nD k))) else none)=_;rw[abR g3]
def pt (d:PD) (q:Pa):PD:=match q.2 with
 | none=>d
 | some r=>jR d (.inr ("box " ++ q.1)) (.str r)
def who:Row->Option Str
 | .leaf w [_,_,.str x]=>if w = "out" then some x else none
 | _=>none
def qJ:Row->Prop
 | .leaf w ps=>w = "out" -> ∃a e x,ps=[a,e,.str x]
 | _=>True
def Bw (k:Nat) (r:Row) (d:PD) (g:Gr):PD:=if who r=some g.1 then jR (jR d (.inr ("let " ++ nD k)) (.str g.2.1)) (.inr ("out " ++ nD k)) (.str g.2.2) else d
def yQ (gs:List Gr) (d:PD) (x:Row×Nat):PD:=gs.foldl (Bw x.2 x.1) d
def Pr.rws (P:Pr):List Row:=P.pg.es.map Ent.r
def Pr.dic (P:Pr):PD:=P.rws.zipIdx.foldl (yQ P.gs) (P.hp.foldl pt [])
theorem By {d:PD} {q:Pa}:(pt d q).length<=d.length+1:=by
 unfold pt;split
 . omega
 . exact vB
theorem Dl {k:Nat} {r:Row} {d:PD} {g:Gr}:(Bw k r d g).length<=d.length+2:=by
 unfold Bw;split
 . have h1:=vB (k:=.inr ("out " ++ nD k)) (v:=.str g.2.2) (l:=jR d (.inr ("let " ++ nD k)) (.str g.2.1));have h2:=vB (k:=.inr ("let " ++ nD k)) (v:=.str g.2.1) (l:=d);omega
 . omega
theorem XC {fa fb:EF} {Y Y1 Y2:Ev} {a b:Str} (h1:fa Y=some (.sh (.str a),Y1)) (h2:fb Y1=some (.sh (.str b),Y2)):tT (aC eqP fa fb) aV Y=some (a==b,Y2):=u5 (l:=.sh (.bl (a==b))) (bj h1 h2 rfl) rfl
theorem Py {p q r s:PV} {t:List PV}:dW (p::q::r::s::t) 3=some s:=by obtain⟨x,h,h2⟩:=jQ (l:=p::q::r::s::t) (i:=3) (by decide) (by simp only[aac]; omega);rw[h,<-h2]; rfl
theorem RJ {fa fb:EF} {Y:Ev} {r:Row} {g:Str} (ok:qJ r) (ha:fa Y=some (.sh r.pv,Y)) (hb:fb Y=some (.sh (.str g),Y)):
 cQ (tT (aC eqP (aN fa (adE 0)) (adF "out")) aV) (tT (aC eqP (aN fa (adE 3)) fb) aV) Y=some (decide (who r=some g),Y):=by
 have first:∀{w:Str} {ps:List PV},r.pv=.tup (.str w::ps)->tT (aC eqP (aN fa (adE 0)) (adF "out")) aV Y=some (w == "out",Y):=λ{w ps} e=>
  XC (dI (p:=.tup (.str w::ps)) (q:=.int 0) (l:=.sh r.pv) (m:=.sh (.int 0)) ha e rfl rfl (λn h=>by cases h) (by show (dW (PV.str w::ps) 0).map _=_; rw[at0]; rfl)) rfl
 have no:∀{w:Str} {ps:List PV},r.pv=.tup (.str w::ps)->(w == "out")=false->who r=none->cQ (tT (aC eqP (aN fa (adE 0)) (adF "out")) aV) (tT (aC eqP (aN fa (adE 3)) fb) aV) Y=some (decide (who r=some g),Y):=λ{w ps} e h hw=>by rw[JX (b2:=false) (first e) (λz=>by rw[h]at z; cases z),h,hw];rfl
 cases r with
 | call b n as=>exact no rfl (by decide +kernel) rfl
 | wh e b=>exact no rfl (by decide +kernel) rfl
 | iff e b c=>exact no rfl (by decide +kernel) rfl
 | leaf w ps=>
  by_cases hw:w = "out"
  . obtain⟨a,e,x,rfl⟩:=ok hw;subst hw;rw[JX (b2:=x==g) (first rfl) λ_=>XC (dI (p:=.tup [.str "out",a,e,.str x]) (q:=.int 3) (l:=.sh (Row.leaf "out" [a,e,.str x]).pv) (m:=.sh (.int 3)) ha rfl rfl rfl (λn h=>by cases h) (by show (dW [PV.str "out",a,e,.str x] 3).map _=_; rw[Py]; rfl)) hb];have e1:who (.leaf "out" [a,e,.str x])=some x:=by unfold who; exact abR rfl
    rw[e1];have e2:(("out" : Str) == "out")=true:=by decide +kernel
    rw[e2,Bool.true_and];congr 2;by_cases hx:x=g
    . subst hx; simp
    . rw[abU (λh=>hx (aap h)),abW.mpr hx]
  . refine no rfl (abW.mpr hw) ?_;unfold who;split
    . rename_i h;cases h;exact abS hw
    . rfl
theorem zB {i:Nat} {fk fv:EF} {vs:List (Option Lc)} {mu:Mu} {d:PD} {k v:Str} (h0:vs[i]?=some (some (.own (cD d)))) (hv:fv ⟨vs,mu⟩=some (.sh (.str v),⟨vs,mu⟩)) (hk:fk ⟨vs,mu⟩=some (.sh (.str k),⟨vs,mu⟩)) (hl:d.length<100000):eG i fk fv ⟨vs,mu⟩=some (.nx ⟨vs.set i (some (.own (cD (jR d (.inr k) (.str v))))),mu⟩):=
 De (x:=.sh (.str v)) (y:=.sh (.str k)) (p:=.str v) (k:=.inr k) (l0:=d) (l:=d) hv rfl h0 hk rfl h0 hl rfl
theorem tK {i:Nat} {fk fr:EF} {vs:List (Option Lc)} {mu:Mu} {d:PD} {q:Pa} (h0:vs[i]?=some (some (.own (cD d)))) (hr:fr ⟨vs,mu⟩=some (.sh (jN q.2),⟨vs,mu⟩)) (hk:fk ⟨vs,mu⟩=some (.sh (.str ("box " ++ q.1)),⟨vs,mu⟩)) (hl:d.length<100000):
 bN (tT (aC jP fr (eC .non)) aV) (eG i fk fr) bA ⟨vs,mu⟩=some (.nx ⟨vs.set i (some (.own (cD (pt d q)))),mu⟩):=by
 obtain⟨x,r⟩:=q;cases r with
 | none=>
  refine(gm (Y1:=⟨vs,mu⟩) (u5 (l:=.sh (.bl false)) (bj hr rfl rfl) rfl)).trans ?_;show some (Fl.nx ⟨vs,mu⟩)=some (Fl.nx ⟨vs.set i (some (.own (cD d))),mu⟩);rw[ab0 h0]
 | some r=>exact(lV (Y1:=⟨vs,mu⟩) (u5 (l:=.sh (.bl true)) (bj hr rfl rfl) rfl)).trans (zB h0 hr hk hl)
theorem Pr.hp_len {P:Pr} (ok:P.ok):P.hp.length<=2600:=by
 have h:∀fs:List Fd,(∀f∈fs,f.params.length<=50)->(fs.flatMap yP).length<=51*fs.length:=λfs=>by
  induction fs with
  | nil=>intro _; simp
  | cons f fs ih=>
   intro h;have h1:=ih λx hx=>h x (aai _ hx);have h2:=h f aab;rw[List.flatMap_cons,aaq];simp only[yP,aac];omega
 have h1:=h P.fs ok.pl;have h2:=ok.bl;have h3:=ok.fl;unfold Pr.hp;rw[aaq,aad];omega
theorem Pr.hp_sh {P:Pr} (ok:P.ok):∀q∈P.hp,Sh q.1:=λq hq=>by
 rcases aaH.mp hq with h | h
 . obtain⟨b,hb,rfl⟩:=aar.mp h;exact ok.sb b hb
 . obtain⟨f,hf,h⟩:=List.mem_flatMap.mp h;rcases aah.mp h with rfl | h
   . exact(ok.sf f hf).1
   . exact(ok.sf f hf).2 q h
theorem Pr.es_len {P:Pr} (ok:P.ok):P.pg.es.length<=250:=by have:=ok.pg.ct;unfold Pg.es;rw[aaq,Dk,Rows.es_len];omega
structure Pr.good (P:Pr):Prop where
 ok:P.ok
 out:∀r∈P.rws,qJ r
theorem XF:("box " : Str).length=4:=by decide +kernel
theorem Ve {x:Str} {f:EF} {Y:Ev} (h:Sh x) (hf:f Y=some (.sh (.str x),Y)):uz "box " f Y=some (.sh (.str ("box " ++ x)),Y):=
 S7 (l:=.sh (.str x)) (z:=x) hf (by show (if x.length<=100000 then some x else none)=_; rw[abR (by omega)]) (by have:=XF; omega)
theorem Ks {c:Str} {k:Nat} {f:EF} {Y:Ev} (hc:c.length<=100) (h:k<256) (hf:f Y=some (.sh (.int (k:Nat)),Y)):uz c f Y=some (.sh (.str (c++nD k)),Y):=
 S7 (l:=.sh (.int (k:Nat))) (z:=nD k) hf (Bv k h).1 (by have:=(Bv k h).2.1; omega)
theorem yq {x:Str} {f:EF} {Y:Ev} (h:Sh x) (hf:f Y=some (.sh (.str x),Y)):aC bh (adF "box ") f Y=some (.sh (.str ("box " ++ x)),Y):=
 bj rfl hf (by show (if _ then _ else _)=_; exact abR (by have:=XF; show ("box " : Str).length+x.length<=100000; omega))
theorem Ku {c:Str} {k:Nat} {f:EF} {Y:Ev} (hc:c.length<=100) (h:k<256) (hf:f Y=some (.sh (.int (k:Nat)),Y)):aC bh (adF c) (eB str1 (aj f ao)) Y=some (.sh (.str (c++nD k)),Y):=
 bj rfl (tR (ls:=[.sh (.int (k:Nat))]) (ps:=[.int (k:Nat)]) (aB hf rfl) rfl (Bv k h).2.2) (by show (if _ then _ else _)=_; exact abR (by have:=(Bv k h).2.1; show c.length+(nD k).length<=100000; omega))
theorem BJ {i k:Nat} {fr fw fh fl k1 k2:EF} {vs:List (Option Lc)} {mu:Mu} {d:PD} {r:Row} {g:Gr} (ok:qJ r) (h0:vs[i]?=some (some (.own (cD d)))) (hr:fr ⟨vs,mu⟩=some (.sh r.pv,⟨vs,mu⟩)) (hw:fw ⟨vs,mu⟩=some (.sh (.str g.1),⟨vs,mu⟩))
 (hh:fh ⟨vs,mu⟩=some (.sh (.str g.2.1),⟨vs,mu⟩)) (h1:k1 ⟨vs,mu⟩=some (.sh (.str ("let " ++ nD k)),⟨vs,mu⟩))
 (hl:∀x,fl ⟨vs.set i x,mu⟩=some (.sh (.str g.2.2),⟨vs.set i x,mu⟩)) (h2:∀x,k2 ⟨vs.set i x,mu⟩=some (.sh (.str ("out " ++ nD k)),⟨vs.set i x,mu⟩)) (hz:d.length<90000):
 bN (cQ (tT (aC eqP (aN fr (adE 0)) (adF "out")) aV) (tT (aC eqP (aN fr (adE 3)) fw) aV)) (aG (eG i k1 fh) (eG i k2 fl)) bA ⟨vs,mu⟩=some (.nx ⟨vs.set i (some (.own (cD (Bw k r d g)))),mu⟩):=by
 have t:=RJ ok hr hw;unfold Bw;have hi:i<vs.length:=(aal.mp h0).1;by_cases hw:who r=some g.1
 . rw[abV hw]at t;rw[abR hw];have hp:=vB (k:=.inr ("let " ++ nD k)) (v:=.str g.2.1) (l:=d);refine(lV t).trans (aD (zB h0 hh h1 (by omega)) ((zB (d:=jR d (.inr ("let " ++ nD k)) (.str g.2.1)) (by rw[aaK hi]) (hl _) (h2 _) (by omega)).trans ?_));rw[abb]
 . rw[abU hw]at t;rw[abS hw];refine(gm t).trans ?_;show some (Fl.nx ⟨vs,mu⟩)=_;rw[ab0 h0]
abbrev TE (o p:PV) (d:PD) (o3 o4 o5 o6 o7 o8 o9 o10:Option Lc) (mu:Mu):Ev:=⟨[yS o,yS p,some (.own (cD d)),o3,o4,o5,o6,o7,o8,o9,o10],mu⟩
theorem Vf {es:List Ent}:kW (evs es)=es.zipIdx.map λx=>.tup [.int ((x.2:Nat):Int),x.1.pv]:=by unfold kW evs;rw[List.zipIdx_map,aaD];rfl
theorem Kv {gs:List Gr}:∀(es:List Ent) (k:Nat) (d:PD),(es.zipIdx k).foldl (λd (x:Ent×Nat)=>yQ gs d (x.1.r,x.2)) d=((es.map Ent.r).zipIdx k).foldl (yQ gs) d
 | [],k,d=>rfl
 | e::es,k,d=>by rw[List.zipIdx_cons,aaX,aao,List.zipIdx_cons,aaX];exact Kv es (k+1) _
theorem Kw {gs:List Gr} {x:Row×Nat}:∀{d:PD},(yQ gs d x).length<=d.length+2*gs.length:=by
 unfold yQ;induction gs with
 | nil=>intro d; simp
 | cons g gs ih=>
  intro d;have h1:=ih (d:=Bw x.2 x.1 d g);have h2:=Dl (k:=x.2) (r:=x.1) (d:=d) (g:=g);rw[aaX,aac];omega
theorem Fj {P:Pr} {o:PV} {mu:Mu} (G:P.good):cV [o,P.pv] mu=some (.own (cD P.dic),mu):=by
 have ok:=G.ok;have hpl:=Pr.hp_len ok;have hel:=Pr.es_len ok;have hgl:=ok.gl;obtain⟨Y1,e1,d1,o3,o4,rfl,hd1,hl1⟩:=jH (b:=b7 2 (aJ (aA 3) (aJ (aA 4) bZ))) (body:=bN (tT (aC jP (aa 4) (eC .non)) aV) (eG 2 (uz "box " (aa 3)) (aa 4)) bA) eU pt 2600
  (λn s Y=>∃d o3 o4,Y=TE o P.pv d o3 o4 none none none none none none mu/\d=s/\s.length<=n) P.hp 0 [] (TE o P.pv [] none none none none none none none none mu) (by rintro q hq n s _ hn ⟨d,o3,o4,rfl,rfl,hs⟩;refine⟨TE o P.pv d (yS (.str q.1)) (yS (jN q.2)) none none none none none none mu,_,rfl,tK (i:=2) (q:=q) rfl rfl (Ve (Pr.hp_sh ok q hq) rfl) (by omega),_,_,_,rfl,rfl,?_⟩;have:=By (d:=d) (q:=q);omega) (by omega) ⟨_,_,_,rfl,rfl,aan _⟩
 subst hd1;obtain⟨Y2,e2,d2,o3',o4',o5,o6,o7,o8,o9,o10,rfl,hd2,_⟩:=jH (b:=b7 2 (aJ (aA 5) (aJ (aA 6) bZ)))
  (body:=aG (aK 7 (aN (aa 6) (adE 3))) (dM (cR (aN (aa 1) (adE 1)) bI) (b7 3 (aJ (aA 8) (aJ (aA 9) (aJ (aA 10) bZ))))
    (bN (cQ (tT (aC eqP (aN (aa 7) (adE 0)) (adF "out")) aV) (tT (aC eqP (aN (aa 7) (adE 3)) (aa 8)) aV)) (aG (eG 2 (uz "let " (aa 5)) (aa 9)) (eG 2 (uz "out " (aa 5)) (aa 10))) bA)))
  (λx:Ent×Nat=>.tup [.int ((x.2:Nat):Int),x.1.pv]) (λ(d:PD) (x:Ent×Nat)=>yQ P.gs d (x.1.r,x.2)) 250
  (λn s Y=>∃d o3 o4 o5 o6 o7 o8 o9 o10,Y=TE o P.pv d o3 o4 o5 o6 o7 o8 o9 o10 mu/\d=s/\s.length<=2600+100*n) P.pg.es.zipIdx 0 (P.hp.foldl pt []) (TE o P.pv (P.hp.foldl pt []) o3 o4 none none none none none none mu) (by
    rintro⟨e,k⟩ hx n s _ hn ⟨d,o3,o4,o5,o6,o7,o8,o9,o10,rfl,rfl,hs⟩;have hk:k<250:=by obtain⟨h1,h2⟩:=List.mem_zipIdx' hx;omega
    have hr:qJ e.r:=G.out e.r (aar.mpr ⟨e,(List.mem_zipIdx' hx).2▸List.getElem_mem _,rfl⟩);let A:=TE o P.pv d o3 o4 (zI (k:Nat)) (yS e.pv) o7 o8 o9 o10 mu;let B:=TE o P.pv d o3 o4 (zI (k:Nat)) (yS e.pv) (yS e.r.pv) o8 o9 o10 mu;obtain⟨Y3,e3,d3,q8,q9,q10,rfl,hd3,_⟩:=jH (b:=b7 3 (aJ (aA 8) (aJ (aA 9) (aJ (aA 10) bZ))))
     (body:=bN (cQ (tT (aC eqP (aN (aa 7) (adE 0)) (adF "out")) aV) (tT (aC eqP (aN (aa 7) (adE 3)) (aa 8)) aV)) (aG (eG 2 (uz "let " (aa 5)) (aa 9)) (eG 2 (uz "out " (aa 5)) (aa 10))) bA)
     lL (Bw k e.r) 50 (λn s Y=>∃d o8 o9 o10,Y=TE o P.pv d o3 o4 (zI (k:Nat)) (yS e.pv) (yS e.r.pv) o8 o9 o10 mu/\d=s/\s.length<=30000+2*n) P.gs 0 d B (by rintro g hg n s _ hn ⟨d,o8,o9,o10,rfl,rfl,hs⟩;refine⟨TE o P.pv d o3 o4 (zI (k:Nat)) (yS e.pv) (yS e.r.pv) (yS (.str g.1)) (yS (.str g.2.1)) (yS (.str g.2.2)) mu,_,rfl,BJ (i:=2) (k:=k) (g:=g) hr rfl rfl rfl rfl (Ks (by decide +kernel) (by omega) rfl) (λx=>rfl) (λx=>Ks (by decide +kernel) (by omega) rfl) (by omega),_,_,_,_,rfl,rfl,?_⟩;have:=Dl (k:=k) (r:=e.r) (d:=d) (g:=g);omega) (by omega) ⟨_,_,_,_,rfl,rfl,by omega⟩
    refine⟨A,_,rfl,aD (Y':=B) ?_ (dq (xs:=P.gs.map lL) (Y1:=B) (fU (l:=.sh (.lst (P.gs.map lL))) rfl rfl) e3),_,_,_,_,_,_,_,_,_,rfl,hd3,?_⟩
    . exact aZ (l:=.sh e.r.pv) (Y1:=A) (dI (p:=e.pv) (q:=.int 3) (l:=.sh e.pv) (m:=.sh (.int 3)) rfl rfl rfl rfl (λn h=>by cases h) (by show (dW [PV.str e.w,e.ab,.int e.bl,e.r.pv] 3).map _=_; rw[Py]; rfl)) rfl rfl
    . have:=Kw (gs:=P.gs) (x:=(e.r,k)) (d:=d);show (yQ P.gs d (e.r,k)).length<=_;omega) (by rw[List.length_zipIdx]; omega) ⟨_,_,_,_,_,_,_,_,_,rfl,rfl,by omega⟩
 subst hd2;rw[show P.dic=P.pg.es.zipIdx.foldl (λ(d:PD) (x:Ent×Nat)=>yQ P.gs d (x.1.r,x.2)) (P.hp.foldl pt []) from (Kv P.pg.es 0 _).symm];refine aX (Y:=⟨[yS o,yS P.pv,none,o3',o4',o5,o6,o7,o8,o9,o10],mu⟩) (aD (Y':=TE o P.pv [] none none none none none none none none mu) rfl (aD (dq (xs:=P.hp.map eU) (Y1:=TE o P.pv [] none none none none none none none none mu) (fU (l:=.own (.lst (P.hp.map eU))) ?_ rfl) e1) (aD (dq (xs:=P.pg.es.zipIdx.map λx=>.tup [.int ((x.2:Nat):Int),x.1.pv]) (Y1:=TE o P.pv (P.hp.foldl pt []) o3 o4 none none none none none none mu) ?_ e2) rfl)))
 . exact aY (ls:=[.sh P.pv]) (ps:=[P.pv]) (Y1:=TE o P.pv [] none none none none none none none none mu) rfl rfl rfl rfl (Fi ok)
 . unfold pP;rw[aY (ls:=[.sh P.pv]) (ps:=[P.pv]) (Y1:=TE o P.pv (P.hp.foldl pt []) o3 o4 none none none none none none mu) rfl rfl rfl rfl (Jx (P:=P.pg) ok.pg),aaa];show some (kW (evs P.pg.es),_)=_;rw[Vf]
def Rows.l:Rows->List Row
 | .nil=>[]
 | .cons r rs=>r::rs.l
mutual
def Row.fl:Row->List Row
 | .leaf w ps=>[.leaf w ps]
 | .call b n as=>[.call b n as]
 | .wh e b=>.wh e b::b.fl
 | .iff e b c=>.iff e b c::(b.fl++c.fl)
def Rows.fl:Rows->List Row
 | .nil=>[]
 | .cons r rs=>r.fl++rs.fl
end
def Row.sub:Row->List Row
 | .leaf _ _=>[]
 | .call _ _ _=>[]
 | .wh _ b=>b.l
 | .iff _ b c=>b.l++c.l
theorem Rows.pvs_l:∀rs:Rows,rs.pvs=rs.l.map Row.pv
 | .nil=>rfl
 | .cons r rs=>by simp only[Rows.pvs,Rows.l,aao,Rows.pvs_l rs]
theorem Rows.fl_l:∀rs:Rows,rs.fl=rs.l.flatMap Row.fl
 | .nil=>rfl
 | .cons r rs=>by simp only[Rows.fl,Rows.l,List.flatMap_cons,Rows.fl_l rs]
theorem Row.fl_sub:∀r:Row,r.fl=r::r.sub.flatMap Row.fl
 | .leaf w ps=>rfl
 | .call b n as=>rfl
 | .wh e b=>by simp only[Row.fl,Row.sub,Rows.fl_l]
 | .iff e b c=>by simp only[Row.fl,Row.sub,Rows.fl_l,List.flatMap_append]
theorem Rows.ok_l:∀{rs:Rows},rs.ok->∀r∈rs.l,r.ok
 | .nil,_,r,h=>by cases h
 | .cons a rs,ok,r,h=>by
  rcases aah.mp h with rfl | h
  . exact ok.1
  . exact Rows.ok_l ok.2 r h
theorem Row.ok_sub:∀{r:Row},r.ok->∀x∈r.sub,x.ok
 | .leaf w ps,_,x,h=>by cases h
 | .call b n as,_,x,h=>by cases h
 | .wh e b,ok,x,h=>Rows.ok_l ok.2 x h
 | .iff e b c,ok,x,h=>by
  rcases aaH.mp h with h | h
  . exact Rows.ok_l ok.2.1 x h
  . exact Rows.ok_l ok.2.2 x h
mutual
theorem Row.es_fl:∀(r:Row) (w:Str) (ab:PV) (bl:Int) (k:Nat),(r.es w ab bl k).map Ent.r=r.fl
 | .leaf _ _,w,ab,bl,k=>rfl
 | .call _ _ _,w,ab,bl,k=>rfl
 | .wh e b,w,ab,bl,k=>by simp only[Row.es,Row.fl,aao,Rows.es_fl b]
 | .iff e b c,w,ab,bl,k=>by simp only[Row.es,Row.fl,aao,aaz,Rows.es_fl b,Rows.es_fl c]
theorem Rows.es_fl:∀(rs:Rows) (w:Str) (ab:PV) (bl:Int) (k:Nat),(rs.es w ab bl k).map Ent.r=rs.fl
 | .nil,w,ab,bl,k=>rfl
 | .cons r rs,w,ab,bl,k=>by simp only[Rows.es,Rows.fl,aaz,Row.es_fl r,Rows.es_fl rs]
end
def Pr.top (P:Pr):List Row:=P.fs.flatMap (λf=>f.rows.l)++P.rows.l
theorem Pr.rws_top (P:Pr):P.rws=P.top.flatMap Row.fl:=by
 have h:∀(fs:List Fd) (k:Nat),(uJ (fs.map Fd.fn) k).map Ent.r=(fs.flatMap λf=>f.rows.l).flatMap Row.fl:=λfs=>by
  induction fs with
  | nil=>intro k; rfl
  | cons f fs ih=>
   intro k;rw[List.flatMap_cons,List.flatMap_append,aao];show ((f.rows.es f.name .non 0 k)++uJ (fs.map Fd.fn) _).map Ent.r=_;rw[aaz,Rows.es_fl,ih,Rows.fl_l]
 unfold Pr.rws Pg.es Pr.top;rw[aaz,List.flatMap_append,Rows.es_fl,<-Rows.fl_l];show (uJ (P.fs.map Fd.fn) 0).map Ent.r++_=_;rw[h];rfl
theorem xK {a b:List PV} (h:a.length+b.length<=100000):bh (.lst a) (.lst b)=yO (a++b):=by show (if a.length+b.length<=100000 then _ else _)=_;rw[abR h]
theorem XH {i:Nat} {vs:List (Option Lc)} {mu:Mu} {ws:List PV} {p:PV} (h:vs[i]?=some (yO (ws++[p]))):Cv i ⟨vs,mu⟩=some (.sh p,⟨vs.set i (yO ws),mu⟩):=by unfold Cv;dsimp only;rw[h];dsimp only;rw[show (ws++[p])[(ws++[p]).length-1]?=some p by simp,List.dropLast_concat];rfl
theorem Ky {mu:Mu} (xs:List PV) (h:xs.length<=1000):dj (aA 0) bK (aa 0) xs ⟨[none],mu⟩ []=some (xs,mu):=by
 have:=m5 (b:=aA 0) (te:=aa 0) (α:=PV) id id (J:=λY=>∃o,Y=⟨[o],mu⟩) (mu:=mu) (by rintro a _ ⟨o,rfl⟩;exact⟨⟨[yS a],mu⟩,_,.sh a,rfl,rfl,rfl,_,rfl⟩) (by rintro _ ⟨o,rfl⟩; rfl) xs ⟨[none],mu⟩ [] ⟨none,rfl⟩ (by simpa using h)
 simpa using this
abbrev FE (p:PV) (acc todo:List PV) (o3 o4 o5:Option Lc) (mu:Mu):Ev:=⟨[yS p,yO acc,yO todo,o3,o4,o5],mu⟩
abbrev Pz:TF:=lU (tT (aC mC (aa 2) (bH ao)) aV)
abbrev flX:SF:=aK 2 (aC bh (aa 2) (bJ (qF (aa 5)) 1 [] (aA 0) bK (aa 0)))
abbrev Y7:SF:=aG (bN (tT (aC ju (aN (aa 4) (adE 0)) (bu (aj (adF "if") (aj (adF "while") ao)))) aV) (aK 5 (eB list1 (aj (aN (aa 4) (adE 2)) ao))) bA)
 (aG (bN (tT (aC eqP (aN (aa 4) (adE 0)) (adF "if")) aV) (aK 5 (aC bh (aa 5) (aN (aa 4) (adE 3)))) bA) flX)
abbrev Za:SF:=aG (aK 4 (Cv 2)) (aG (fX 1 (aa 4)) (aG (aK 5 (bH ao)) Y7))
theorem Z9 {w:Str}:ju (.str w) (.tup [.str "if",.str "while"])=some (.sh (.bl (has ["if", "while"] w))):=by show (jO (cu 150) (.str w) (SS ["if", "while"])).map _=_;rw[in_str]; rfl
theorem at2 {p q r:PV} {t:List PV}:dW (p::q::r::t) 2=some r:=by obtain⟨x,h,h2⟩:=jQ (l:=p::q::r::t) (i:=2) (by decide) (by simp only[aac]; omega);rw[h,<-h2]; rfl
section
variable {p:PV} {o3 o5:Option Lc} {mu:Mu} {acc todo:List PV}
theorem BK {xs:List PV} {o4:Option Lc} {l5:Lc} (h5:l5.pv=.lst xs) (h:todo.length+xs.length<=1000):flX (FE p acc todo o3 o4 (some l5) mu)=some (.nx (FE p acc (todo++xs.reverse) o3 o4 (yL xs) mu)):=by refine aZ (l:=.own (.lst (todo++xs.reverse))) (Y1:=⟨[yS p,yO acc,yL todo,o3,o4,yL xs],mu⟩) ?_ rfl rfl;refine gR (l:=.sh (.lst todo)) (m:=.own (.lst xs.reverse)) (Y1:=⟨[yS p,yO acc,yL todo,o3,o4,some l5],mu⟩) rfl rfl (cM (m:=1) (ixs:=[]) (xs:=xs.reverse) (Y1:=⟨[yS p,yO acc,yL todo,o3,o4,yL xs],mu⟩) ?_ (Ky _ (by rw[aaO]; omega))) rfl (xK (by rw[aaO]; omega));unfold qF;show ((some (Lc.sh l5.pv,(⟨[yS p,yO acc,yL todo,o3,o4,yS l5.pv],mu⟩:Ev)):Option (Lc×Ev))).bind _=_;rw[h5];rfl
theorem Ip {w:Str} {ps:List PV} {l5:Option Lc}:aN (aa 4) (adE 0) (FE p acc todo o3 (yS (.tup (.str w::ps))) l5 mu)=some (.sh (.str w),FE p acc todo o3 (yS (.tup (.str w::ps))) l5 mu):=
 dI (p:=.tup (.str w::ps)) (q:=.int 0) (l:=.sh (.tup (.str w::ps))) (m:=.sh (.int 0)) rfl rfl rfl rfl (λn h=>by cases h) (by show (dW (PV.str w::ps) 0).map _=_; rw[at0]; rfl)
theorem Gb {w:Str} {ps:List PV} {l5:Option Lc}:tT (aC ju (aN (aa 4) (adE 0)) (bu (aj (adF "if") (aj (adF "while") ao)))) aV (FE p acc todo o3 (yS (.tup (.str w::ps))) l5 mu)=some (has ["if", "while"] w,FE p acc todo o3 (yS (.tup (.str w::ps))) l5 mu):=
 u5 (l:=.sh (.bl (has ["if", "while"] w))) (bj (y:=.sh (.tup [.str "if",.str "while"])) Ip rfl Z9) rfl
theorem XJ {r:Row} (ok:r.ok) (h:todo.length+r.sub.length<=1000):Y7 (FE p acc todo o3 (yS r.pv) (yO []) mu)=some (.nx (FE p acc (todo++(r.sub.map Row.pv).reverse) o3 (yS r.pv) (yL (r.sub.map Row.pv)) mu)):=by
 have hl:todo.length+(r.sub.map Row.pv).length<=1000:=by rw[aad]; exact h
 cases r with
 | leaf w ps=>
  have hw:has ["if", "while"] w=false:=mG.mpr λhm=>by
   obtain⟨⟨h1,h2,_⟩,_⟩:=ok;rcases aah.mp hm with rfl | hm
   . revert h1; decide +kernel
   . rw[aaF.mp hm]at h2; revert h2; decide +kernel
  exact(bM Gb hw).trans ((bM (iT Ip) ok.1.1).trans (BK (l5:=.own (.lst [])) rfl hl))
 | call b n as=>exact(bM Gb (by decide +kernel)).trans ((bM (iT Ip) (by decide +kernel)).trans (BK (l5:=.own (.lst [])) rfl hl))
 | wh e b=>
  have s1:aK 5 (eB list1 (aj (aN (aa 4) (adE 2)) ao)) (FE p acc todo o3 (some (.sh (Row.wh e b).pv)) (yO []) mu)=some (.nx (FE p acc todo o3 (some (.sh (Row.wh e b).pv)) (yO b.pvs) mu)):=
   aZ (l:=.own (.lst b.pvs)) (tR (ls:=[.sh (.lst b.pvs)]) (ps:=[.lst b.pvs]) (aB (dI (p:=(Row.wh e b).pv) (q:=.int 2) (l:=.sh (Row.wh e b).pv) (m:=.sh (.int 2)) rfl rfl rfl rfl (λn h=>by cases h) (by show (dW [PV.str "while",e,.lst b.pvs] 2).map _=_; rw[at2]; rfl)) rfl) rfl rfl) rfl rfl
  refine(yp Gb (by decide +kernel) s1).trans ((bM (iT Ip) (by decide +kernel)).trans ?_);have:=BK (p:=p) (o3:=o3) (mu:=mu) (acc:=acc) (todo:=todo) (o4:=some (.sh (Row.wh e b).pv)) (l5:=.own (.lst b.pvs)) (xs:=b.pvs) rfl (by rw[Rows.pvs_l]; exact hl);rw[<-show b.pvs=(Row.wh e b).sub.map Row.pv from Rows.pvs_l b];exact this
 | iff e b c=>
  have s1:aK 5 (eB list1 (aj (aN (aa 4) (adE 2)) ao)) (FE p acc todo o3 (some (.sh (Row.iff e b c).pv)) (yO []) mu)=some (.nx (FE p acc todo o3 (some (.sh (Row.iff e b c).pv)) (yO b.pvs) mu)):=
   aZ (l:=.own (.lst b.pvs)) (tR (ls:=[.sh (.lst b.pvs)]) (ps:=[.lst b.pvs]) (aB (dI (p:=(Row.iff e b c).pv) (q:=.int 2) (l:=.sh (Row.iff e b c).pv) (m:=.sh (.int 2)) rfl rfl rfl rfl (λn h=>by cases h) (by show (dW [PV.str "if",e,.lst b.pvs,.lst c.pvs] 2).map _=_; rw[at2]; rfl)) rfl) rfl rfl) rfl rfl
  have hb:b.pvs.length+c.pvs.length<=1000:=by rw[Rows.pvs_l,Rows.pvs_l,aad,aad];simp only[Row.sub,aaq]at h;omega
  have s2:aK 5 (aC bh (aa 5) (aN (aa 4) (adE 3))) (FE p acc todo o3 (some (.sh (Row.iff e b c).pv)) (yO b.pvs) mu)=some (.nx (FE p acc todo o3 (some (.sh (Row.iff e b c).pv)) (yO (b.pvs++c.pvs)) mu)):=
   aZ (l:=.own (.lst (b.pvs++c.pvs))) (Y1:=FE p acc todo o3 (some (.sh (Row.iff e b c).pv)) (yL b.pvs) mu) (gR (l:=.sh (.lst b.pvs)) (m:=.sh (.lst c.pvs)) rfl rfl (dI (p:=(Row.iff e b c).pv) (q:=.int 3) (l:=.sh (Row.iff e b c).pv) (m:=.sh (.int 3)) rfl rfl rfl rfl (λn h=>by cases h) (by show (dW [PV.str "if",e,.lst b.pvs,.lst c.pvs] 3).map _=_; rw[Py]; rfl)) rfl (xK (by omega))) rfl rfl
  refine(yp Gb (by decide +kernel) s1).trans ((yp (iT Ip) (by decide +kernel) s2).trans ?_);have:=BK (p:=p) (o3:=o3) (mu:=mu) (acc:=acc) (todo:=todo) (o4:=some (.sh (Row.iff e b c).pv)) (l5:=.own (.lst (b.pvs++c.pvs))) (xs:=b.pvs++c.pvs) rfl (by rw[Rows.pvs_l,Rows.pvs_l,<-aaz]; exact hl);rw[<-show b.pvs++c.pvs=(Row.iff e b c).sub.map Row.pv from by rw[Rows.pvs_l,Rows.pvs_l,<-aaz]; rfl];exact this
end
theorem Er {p:PV} {o3:Option Lc} {mu:Mu}:∀(n:Nat) (S:List Row) (acc:List PV) (o4 o5:Option Lc),(∀r∈S,r.ok)->(S.flatMap Row.fl).length<n->acc.length+(S.flatMap Row.fl).length<=900->
 ∃q4 q5,lA Pz Za n (FE p acc (S.map Row.pv).reverse o3 o4 o5 mu)=some (.nx (FE p (acc++(S.flatMap Row.fl).map Row.pv) [] o3 q4 q5 mu))
 | 0,S,acc,o4,o5,_,h,_=>by omega
 | n+1,[],acc,o4,o5,_,_,_=>⟨o4,o5,by
  show (Pz (FE p acc [] o3 o4 o5 mu)).bind _=_;rw[show Pz (FE p acc [] o3 o4 o5 mu)=some (false,FE p acc [] o3 o4 o5 mu) from rfl];simp⟩
 | n+1,r::S,acc,o4,o5,ok,h,hz=>by
  rw[List.flatMap_cons,Row.fl_sub]at h hz;simp only[aaq,aac]at h hz;have hsub:r.sub.length<=(r.sub.flatMap Row.fl).length:=by
   have:∀l:List Row,l.length<=(l.flatMap Row.fl).length:=λl=>by
    induction l with
    | nil=>simp
    | cons x l ih=>rw[List.flatMap_cons,Row.fl_sub]; simp only[aaq,aac]; omega
   exact this _
  have hS:S.length<=(S.flatMap Row.fl).length:=by
   have:∀l:List Row,l.length<=(l.flatMap Row.fl).length:=λl=>by
    induction l with
    | nil=>simp
    | cons x l ih=>rw[List.flatMap_cons,Row.fl_sub]; simp only[aaq,aac]; omega
   exact this _
  have hb:Za (FE p acc ((S.map Row.pv).reverse++[r.pv]) o3 o4 o5 mu)=some (.nx (FE p (acc++[r.pv]) ((S.map Row.pv).reverse++(r.sub.map Row.pv).reverse) o3 (yS r.pv) (yL (r.sub.map Row.pv)) mu)):=
   aD (Y':=FE p acc (S.map Row.pv).reverse o3 (yS r.pv) o5 mu) (aZ (l:=.sh r.pv) (Y1:=FE p acc (S.map Row.pv).reverse o3 o4 o5 mu) (XH rfl) rfl rfl)
    (aD (Y':=FE p (acc++[r.pv]) (S.map Row.pv).reverse o3 (yS r.pv) o5 mu) (lE (i:=1) (ws0:=acc) (ws:=acc) (p:=r.pv) (l:=.sh r.pv) rfl rfl rfl rfl (by omega) rfl)
    (aD (Y':=FE p (acc++[r.pv]) (S.map Row.pv).reverse o3 (yS r.pv) (yO []) mu) rfl (XJ (ok r aab) (by rw[aaO,aad]; omega))))
  obtain⟨q4,q5,ih⟩:=Er (p:=p) (o3:=o3) (mu:=mu) n (r.sub++S) (acc++[r.pv]) (yS r.pv) (yL (r.sub.map Row.pv)) (λx hx=>by
   rcases aaH.mp hx with hx | hx
   . exact Row.ok_sub (ok r aab) x hx
   . exact ok x (aai _ hx)) (by rw[List.flatMap_append,aaq]; omega) (by rw[List.flatMap_append,aaq,aaq]; simp only[aac,aav]; omega)
  refine⟨q4,q5,?_⟩;rw[aao,List.reverse_cons];show (Pz (FE p acc ((S.map Row.pv).reverse++[r.pv]) o3 o4 o5 mu)).bind _=_;have ec:Pz (FE p acc ((S.map Row.pv).reverse++[r.pv]) o3 o4 o5 mu)=some (true,FE p acc ((S.map Row.pv).reverse++[r.pv]) o3 o4 o5 mu):=by have e0:cu 150 (.lst ((S.map Row.pv).reverse++[r.pv])) (.lst [])=some false:=abS (by rw[aaq]; simp);refine rG (eF (p:=.bl true) (l:=.sh (.bl true)) (gR (l:=.sh (.lst ((S.map Row.pv).reverse++[r.pv]))) (m:=.own (.lst [])) rfl rfl rfl rfl ?_) rfl rfl);show (cu 150 (.lst ((S.map Row.pv).reverse++[r.pv])) (.lst [])).map _=_;rw[e0]; rfl
  rw[ec,aaa,abR rfl,hb,aaa];dsimp only;rw[aaz,List.reverse_append]at ih;rw[ih,List.flatMap_append,List.flatMap_cons,Row.fl_sub];simp
theorem Pr.rws_len {P:Pr} (ok:P.ok):P.rws.length<=250:=by unfold Pr.rws;rw[aad];exact Pr.es_len ok
theorem Pr.top_ok {P:Pr} (ok:P.ok):∀r∈P.top,r.ok:=λr hr=>by
 rcases aaH.mp hr with h | h
 . obtain⟨f,hf,h⟩:=List.mem_flatMap.mp h;exact Rows.ok_l (ok.pg.fn f.fn (aar.mpr ⟨f,hf,rfl⟩)).1 r h
 . exact Rows.ok_l ok.pg.rw r h
theorem tL {α:Type} {n:Nat} {mu:Mu} {b:BF} {te:EF} (img g:α->PV) (h:∀a o,∃Y1 Y2 l o',b (img a) ⟨[o],mu⟩=some Y1/\te Y1=some (l,Y2)/\l.pv=g a/\Y2=⟨[o'],mu⟩) (xs:List α) (hl:xs.length<=1000):dj b bK te (xs.map img) ⟨[none],mu⟩ []=some (xs.map g,mu):=by
 have:=m5 (α:=α) img g (J:=λY=>∃o,Y=⟨[o],mu⟩) (mu:=mu) (b:=b) (te:=te) (by rintro a _ ⟨o,rfl⟩;obtain⟨Y1,Y2,l,o',e1,e2,e3,e4⟩:=h a o;exact⟨Y1,Y2,l,e1,e2,e3,o',e4⟩) (by rintro _ ⟨o,rfl⟩; rfl) xs ⟨[none],mu⟩ [] ⟨none,rfl⟩ (by simpa using hl)
 simpa using this
theorem Vg {P:Pr} {mu:Mu} (ok:P.ok):ud [P.pv] mu=some (.own (.lst (P.rws.map Row.pv)),mu):=by
 have hfl:=ok.fl;have hrl:=Pr.rws_len ok;rw[Pr.rws_top]at hrl ⊢;let bodies:List Rows:=P.rows::(P.fs.map Fd.rows).reverse;have hlen:∀l:List Row,l.length<=(l.flatMap Row.fl).length:=λl=>by
  induction l with
  | nil=>simp
  | cons x l ih=>rw[List.flatMap_cons,Row.fl_sub]; simp only[aaq,aac]; omega
 let E0:Ev:=FE P.pv [] [] none none none mu;have hbl:(bodies.map λrs:Rows=>rs.l.length).sum<=250:=by
  have h1:=hlen P.top;have h2:P.top.length=(bodies.map λrs:Rows=>rs.l.length).sum:=by
   have:∀fs:List Fd,(fs.flatMap λf=>f.rows.l).length=((fs.map Fd.rows).map λrs:Rows=>rs.l.length).sum:=λfs=>by
    induction fs with
    | nil=>rfl
    | cons f fs ih=>rw[List.flatMap_cons,aaq,ih]; simp
   simp only[Pr.top,bodies,aaq,aao,List.sum_cons,List.map_reverse,List.sum_reverse,this];omega
  omega
 have e1:∃o3,cU (aA 3) (aK 2 (aC bh (aa 2) (bJ (qF (aa 3)) 1 [] (aA 0) bK (aa 0)))) (bodies.map λrs:Rows=>.lst rs.pvs) E0=some (.nx (FE P.pv [] (P.top.map Row.pv).reverse o3 none none mu)):=by
  have go:∀(bs:List Rows) (todo:List PV) (o3:Option Lc),todo.length+(bs.map λrs:Rows=>rs.l.length).sum<=250->∃q3,cU (aA 3) (aK 2 (aC bh (aa 2) (bJ (qF (aa 3)) 1 [] (aA 0) bK (aa 0)))) (bs.map λrs:Rows=>.lst rs.pvs) (FE P.pv [] todo o3 none none mu)=some (.nx (FE P.pv [] (todo++bs.flatMap λrs:Rows=>(rs.l.map Row.pv).reverse) q3 none none mu)):=λbs=>by
   induction bs with
   | nil=>intro todo o3 _; exact⟨o3,by simp[cU]⟩
   | cons rs bs ih=>
    intro todo o3 h;simp only[aao,List.sum_cons]at h;have hp:rs.pvs=rs.l.map Row.pv:=Rows.pvs_l rs;have hl:rs.pvs.reverse.length=rs.l.length:=by rw[aaO,hp,aad]
    obtain⟨q3,e⟩:=ih (todo++rs.pvs.reverse) (yL rs.pvs) (by rw[aaq,hl]; omega);refine⟨q3,dH (Y1:=FE P.pv [] todo (yL rs.pvs) none none mu) (Y2:=FE P.pv [] (todo++rs.pvs.reverse) (yL rs.pvs) none none mu) rfl ?_ (e.trans ?_)⟩
    . refine aZ (l:=.own (.lst (todo++rs.pvs.reverse))) (Y1:=⟨[yS P.pv,yO [],yL todo,yL rs.pvs,none,none],mu⟩) ?_ rfl rfl;exact gR (l:=.sh (.lst todo)) (m:=.own (.lst rs.pvs.reverse)) (Y1:=⟨[yS P.pv,yO [],yL todo,yL rs.pvs,none,none],mu⟩) rfl rfl (cM (m:=1) (ixs:=[]) (xs:=rs.pvs.reverse) (Y1:=⟨[yS P.pv,yO [],yL todo,yL rs.pvs,none,none],mu⟩) rfl (Ky _ (by omega))) rfl (xK (by omega))
    . rw[List.flatMap_cons,<-hp,aaC]
  obtain⟨q3,e⟩:=go bodies [] none (by simpa using hbl);refine⟨q3,e.trans ?_⟩;have:∀fs:List Fd,((fs.map Fd.rows).reverse.flatMap λrs:Rows=>(rs.l.map Row.pv).reverse)=((fs.flatMap λf=>f.rows.l).map Row.pv).reverse:=λfs=>by
   induction fs with
   | nil=>rfl
   | cons f fs ih=>rw[aao,List.reverse_cons,List.flatMap_append,ih]; simp
  simp only[bodies,Pr.top,List.flatMap_cons,this,aaz,List.reverse_append,aaE]
 obtain⟨o3,e1⟩:=e1;obtain⟨q4,q5,e2⟩:=Er (p:=P.pv) (o3:=o3) (mu:=mu) 400 P.top [] none none (Pr.top_ok ok) (by omega) (by simp only[aav]; omega);refine aX (Y:=⟨[yS P.pv,none,yO [],o3,q4,q5],mu⟩) (aD (Y':=⟨[yS P.pv,yO [],none,none,none,none],mu⟩) rfl (aD (Y':=E0) rfl (aD (dq (xs:=bodies.map λrs:Rows=>.lst rs.pvs) (Y1:=E0) ?_ e1) (aD e2 ?_))))
 . refine jj (l:=.own (.lst (bodies.map λrs:Rows=>.lst rs.pvs))) (p:=.lst (bodies.map λrs:Rows=>.lst rs.pvs)) (gR (l:=.own (.lst [.lst P.rows.pvs])) (m:=.own (.lst ((P.fs.map Fd.rows).reverse.map λrs:Rows=>.lst rs.pvs))) (Y1:=E0) rfl rfl (cM (m:=1) (ixs:=[]) (xs:=(P.fs.reverse).map λf=>f.fn.pv) (Y1:=E0) ?_ ?_) rfl ?_) rfl rfl
   . unfold qF;show some (((P.fs.map Fd.fn).map Fn.pv).reverse,E0)=_;rw[aaD,<-List.map_reverse]; rfl
   . refine(tL (n:=1) (α:=Fd) (λf=>f.fn.pv) (λf=>.lst f.rows.pvs) (λf o=>⟨⟨[yS f.fn.pv],mu⟩,_,.sh (.lst f.rows.pvs),yS f.fn.pv,rfl,rfl,rfl,rfl⟩) P.fs.reverse (by rw[aaO]; omega)).trans ?_;rw[<-List.map_reverse,aaD]; rfl
   . refine(xK (by simp only[aac,aav,aad,aaO]; omega)).trans ?_;simp only[bodies,aao,aa3,aaE]
 . simp only[aaE]; rfl
abbrev oA (p:PV) (d:PD) (o2 o3 o4 o5 o6 o7 o8 o9 o10 o11 o12 o13:Option Lc) (mu:Mu):Ev:=⟨[yS p,some (.own (cD d)),o2,o3,o4,o5,o6,o7,o8,o9,o10,o11,o12,o13],mu⟩
abbrev Zb:SF:=bN (cQ (tT (aC eqP (aN (aa 10) (adE 0)) (adF "out")) aV) (tT (aC eqP (aN (aa 10) (adE 3)) (aa 11)) aV))
 (aG (eG 1 (aC bh (adF "let ") (eB str1 (aj (aa 9) ao))) (aa 12)) (eG 1 (aC bh (adF "out ") (eB str1 (aj (aa 9) ao))) (aa 13))) bA
theorem RK {rs:List Row}:kW (rs.map Row.pv)=rs.zipIdx.map λx=>.tup [.int ((x.2:Nat):Int),x.1.pv]:=by unfold kW;rw[List.zipIdx_map,aaD];rfl
theorem XM {P:Pr} {mu:Mu} (G:P.good):gn [P.pv] mu=some (.own (cD P.dic),mu):=by
 have ok:=G.ok;have hrl:=Pr.rws_len ok;have hgl:=ok.gl;have hbl:=ok.bl;have hfl:=ok.fl;obtain⟨Y1,e1,d1,o2,o3,o4,rfl,hd1,hl1⟩:=jH (b:=b7 3 (aJ (aA 2) (aJ (aA 3) (aJ (aA 4) bZ)))) (body:=bN (tT (aC jP (aa 4) (eC .non)) aV) (eG 1 (aC bh (adF "box ") (aa 2)) (aa 4)) bA) dw (λd (b:Bx)=>pt d (b.1,b.2.2)) 50
  (λn s Y=>∃d o2 o3 o4,Y=oA P.pv d o2 o3 o4 none none none none none none none none none mu/\d=s/\s.length<=n) P.bs 0 [] (oA P.pv [] none none none none none none none none none none none none mu) (by rintro b hb n s _ hn ⟨d,o2,o3,o4,rfl,rfl,hs⟩;refine⟨oA P.pv d (yS (.str b.1)) (yS (.int b.2.1)) (yS (jN b.2.2)) none none none none none none none none none mu,_,rfl,tK (i:=1) (q:=(b.1,b.2.2)) rfl rfl (yq (ok.sb b hb) rfl) (by omega),_,_,_,_,rfl,rfl,?_⟩;have:=By (d:=d) (q:=(b.1,b.2.2));omega) (by omega) ⟨_,_,_,_,rfl,rfl,aan _⟩
 subst hd1;obtain⟨Y2,e2,d2,p2,p3,p4,p5,p6,p7,p8,rfl,hd2,hl2⟩:=jH (b:=b7 4 (aJ (aA 2) (aJ (aA 4) (aJ (aA 5) (aJ (aA 6) bZ)))))
  (body:=aG (bN (tT (aC jP (aa 4) (eC .non)) aV) (eG 1 (aC bh (adF "box ") (aa 2)) (aa 4)) bA) (dM (cR (aa 5) bI) (b7 2 (aJ (aA 7) (aJ (aA 8) bZ))) (bN (tT (aC jP (aa 8) (eC .non)) aV) (eG 1 (aC bh (adF "box ") (aa 7)) (aa 8)) bA)))
  (λf:Fd=>f.fn.pv) (λd (f:Fd)=>(yP f).foldl pt d) 50
  (λn s Y=>∃d o2 o3 o4 o5 o6 o7 o8,Y=oA P.pv d o2 o3 o4 o5 o6 o7 o8 none none none none none mu/\d=s/\s.length<=50+51*n) P.fs 0 (P.bs.foldl (λd (b:Bx)=>pt d (b.1,b.2.2)) []) (oA P.pv (P.bs.foldl (λd (b:Bx)=>pt d (b.1,b.2.2)) []) o2 o3 o4 none none none none none none none none none mu) (by
    rintro f hf n s _ hn ⟨d,o2,o3,o4,o5,o6,o7,o8,rfl,rfl,hs⟩;have hp:=ok.pl f hf;have hpt:=By (d:=d) (q:=(f.name,f.rank));let A:=oA P.pv d (yS (.str f.name)) o3 (yS (jN f.rank)) (yL (f.params.map eU)) (yL f.rows.pvs) o7 o8 none none none none none mu;let B:=oA P.pv (pt d (f.name,f.rank)) (yS (.str f.name)) o3 (yS (jN f.rank)) (yL (f.params.map eU)) (yL f.rows.pvs) o7 o8 none none none none none mu;obtain⟨Y3,e3,d3,q7,q8,rfl,hd3,hl3⟩:=jH (b:=b7 2 (aJ (aA 7) (aJ (aA 8) bZ))) (body:=bN (tT (aC jP (aa 8) (eC .non)) aV) (eG 1 (aC bh (adF "box ") (aa 7)) (aa 8)) bA) eU pt 50
     (λn s Y=>∃d7 o7 o8,Y=oA P.pv d7 (yS (.str f.name)) o3 (yS (jN f.rank)) (yL (f.params.map eU)) (yL f.rows.pvs) o7 o8 none none none none none mu/\d7=s/\s.length<=d.length+1+n) f.params 0 (pt d (f.name,f.rank)) B (by rintro q hq n s _ hn ⟨d7,o7,o8,rfl,rfl,hs⟩;refine⟨oA P.pv d7 (yS (.str f.name)) o3 (yS (jN f.rank)) (yL (f.params.map eU)) (yL f.rows.pvs) (yS (.str q.1)) (yS (jN q.2)) none none none none none mu,_,rfl,tK (i:=1) (q:=q) rfl rfl (yq ((ok.sf f hf).2 q hq) rfl) (by omega),_,_,_,rfl,rfl,?_⟩;have:=By (d:=d7) (q:=q);omega) (by omega) ⟨_,_,_,rfl,rfl,by omega⟩
    refine⟨A,_,rfl,aD (Y':=B) (tK (i:=1) (q:=(f.name,f.rank)) rfl rfl (yq (ok.sf f hf).1 rfl) (by omega)) (dq (xs:=f.params.map eU) (Y1:=B) (fU (l:=.sh (.lst (f.params.map eU))) rfl rfl) e3),_,_,_,_,_,_,_,_,rfl,hd3,?_⟩;show (f.params.foldl pt (pt d (f.name,f.rank))).length<=_;omega) (by omega) ⟨_,_,_,_,_,_,_,_,rfl,rfl,by omega⟩
 subst hd2;have ehp:P.fs.foldl (λd (f:Fd)=>(yP f).foldl pt d) (P.bs.foldl (λd (b:Bx)=>pt d (b.1,b.2.2)) [])=P.hp.foldl pt []:=by unfold Pr.hp;rw[List.foldl_append,List.foldl_map,List.foldl_flatMap]
 rw[ehp]at e2 hl2;obtain⟨Y3,e3,d3,r2,r3,r4,r5,r6,r7,r8,r9,r10,r11,r12,r13,rfl,hd3,_⟩:=jH (b:=b7 2 (aJ (aA 9) (aJ (aA 10) bZ)))
  (body:=dM (cR (aN (aa 0) (adE 1)) bI) (b7 3 (aJ (aA 11) (aJ (aA 12) (aJ (aA 13) bZ)))) Zb)
  (λx:Row×Nat=>.tup [.int ((x.2:Nat):Int),x.1.pv]) (yQ P.gs) 250
  (λn s Y=>∃d o2 o3 o4 o5 o6 o7 o8 o9 o10 o11 o12 o13,Y=oA P.pv d o2 o3 o4 o5 o6 o7 o8 o9 o10 o11 o12 o13 mu/\d=s/\s.length<=2700+100*n) P.rws.zipIdx 0 (P.hp.foldl pt []) (oA P.pv (P.hp.foldl pt []) p2 p3 p4 p5 p6 p7 p8 none none none none none mu) (by
    rintro⟨r,k⟩ hx n s _ hn ⟨d,o2,o3,o4,o5,o6,o7,o8,o9,o10,o11,o12,o13,rfl,rfl,hs⟩;have hk:k<250:=by obtain⟨h1,h2⟩:=List.mem_zipIdx' hx;omega
    have hr:qJ r:=G.out r ((List.mem_zipIdx' hx).2▸List.getElem_mem _);let A:=oA P.pv d o2 o3 o4 o5 o6 o7 o8 (zI (k:Nat)) (yS r.pv) o11 o12 o13 mu;obtain⟨Y4,e4,d4,q11,q12,q13,rfl,hd4,_⟩:=jH (b:=b7 3 (aJ (aA 11) (aJ (aA 12) (aJ (aA 13) bZ)))) (body:=Zb) lL (Bw k r) 50
     (λn s Y=>∃d o11 o12 o13,Y=oA P.pv d o2 o3 o4 o5 o6 o7 o8 (zI (k:Nat)) (yS r.pv) o11 o12 o13 mu/\d=s/\s.length<=30000+2*n) P.gs 0 d A (by rintro g hg n s _ hn ⟨d,o11,o12,o13,rfl,rfl,hs⟩;refine⟨oA P.pv d o2 o3 o4 o5 o6 o7 o8 (zI (k:Nat)) (yS r.pv) (yS (.str g.1)) (yS (.str g.2.1)) (yS (.str g.2.2)) mu,_,rfl,BJ (i:=1) (k:=k) (g:=g) hr rfl rfl rfl rfl (Ku (by decide +kernel) (by omega) rfl) (λx=>rfl) (λx=>Ku (by decide +kernel) (by omega) rfl) (by omega),_,_,_,_,rfl,rfl,?_⟩;have:=Dl (k:=k) (r:=r) (d:=d) (g:=g);omega) (by omega) ⟨_,_,_,_,rfl,rfl,by omega⟩
    refine⟨A,_,rfl,dq (xs:=P.gs.map lL) (Y1:=A) (fU (l:=.sh (.lst (P.gs.map lL))) rfl rfl) e4,_,_,_,_,_,_,_,_,_,_,_,_,_,rfl,hd4,?_⟩;have:=Kw (gs:=P.gs) (x:=(r,k)) (d:=d);show (yQ P.gs d (r,k)).length<=_;omega) (by rw[List.length_zipIdx]; omega) ⟨_,_,_,_,_,_,_,_,_,_,_,_,_,rfl,rfl,by omega⟩
 subst hd3;refine aX (Y:=⟨[yS P.pv,none,r2,r3,r4,r5,r6,r7,r8,r9,r10,r11,r12,r13],mu⟩) (aD (Y':=oA P.pv [] none none none none none none none none none none none none mu) rfl (aD (dq (xs:=P.bs.map dw) (Y1:=oA P.pv [] none none none none none none none none none none none none mu) (fU (l:=.sh (.lst (P.bs.map dw))) rfl rfl) e1)
  (aD (dq (xs:=P.fs.map λf:Fd=>f.fn.pv) (Y1:=oA P.pv (P.bs.foldl (λd (b:Bx)=>pt d (b.1,b.2.2)) []) o2 o3 o4 none none none none none none none none none mu) (fU (l:=.sh (.lst ((P.fs.map Fd.fn).map Fn.pv))) rfl (by rw[aaD]; rfl)) e2)
  (aD (dq (xs:=P.rws.zipIdx.map λx=>.tup [.int ((x.2:Nat):Int),x.1.pv]) (Y1:=oA P.pv (P.hp.foldl pt []) p2 p3 p4 p5 p6 p7 p8 none none none none none mu) ?_ e3) rfl))))
 unfold pP;rw[aY (ls:=[.sh P.pv]) (ps:=[P.pv]) (Y1:=oA P.pv (P.hp.foldl pt []) p2 p3 p4 p5 p6 p7 p8 none none none none none mu) rfl rfl rfl rfl (Vg ok),aaa];show some (kW (P.rws.map Row.pv),_)=_;rw[RK]
def SD (l:PD):Prop:=∀e∈l,∃x v:Str,e=(.inr x,.str v)
theorem SD.put {l:PD} (h:SD l) (k v:Str):SD (jR l (.inr k) (.str v)):=by
 unfold jR;split
 . have:∀l:PD,SD l->SD (ye (.inr k) (.str v) l):=λl=>by
    induction l with
    | nil=>intro _ e he; cases he
    | cons a l ih=>
     intro h e he;rcases aah.mp he with rfl | he
     . split
       . rename_i hk; rw[hk]; exact⟨k,v,rfl⟩
       . exact h a aab
     . exact ih (λx hx=>h x (aai _ hx)) e he
   exact this l h
 . intro e he;rcases aaH.mp he with he | he
   . exact h e he
   . rw[aaF.mp he]; exact⟨k,v,rfl⟩
theorem vC {α β:Type} {f:β->α->β} {I:β->Prop}:∀(xs:List α) (b:β),(∀b,∀a∈xs,I b->I (f b a))->I b->I (xs.foldl f b)
 | [],b,_,h=>h
 | a::xs,b,s,h=>vC xs (f b a) (λb x hx=>s b x (aai _ hx)) (s b a aab h)
theorem Pr.dic_sd (P:Pr):SD P.dic:=by
 refine vC _ _ (λd x _ h=>vC _ _ (λd g _ h=>?_) h) (vC _ _ (λd q _ h=>?_) (λe he=>by cases he))
 . unfold Bw;split
   . exact(h.put _ _).put _ _
   . exact h
 . unfold pt;split
   . exact h
   . exact h.put _ _
theorem Ir {k:Key}:∀{l:PD},k∈l.map (·.1)->∃p,iG l k=some p/\(k,p)∈l
 | [],h=>by cases h
 | a::l,h=>by
  unfold iG;by_cases e:a.1=k
  . rw[abR e];exact⟨a.2,rfl,by rw[<-e]; exact aab⟩
  . rw[abS e];obtain⟨p,h1,h2⟩:=Ir (l:=l) (by
     rcases aah.mp h with h | h
     . exact absurd h.symm e
     . exact h)
    exact⟨p,h1,aai _ h2⟩
theorem SD.flat:∀{l:PD},SD l->iD (l.map (·.2))=true
 | [],_=>rfl
 | a::l,h=>by obtain⟨x,v,e⟩:=h a aab;rw[aao,e];show (true&&iD (l.map (·.2)))=true;rw[SD.flat λx hx=>h x (aai _ hx)]; rfl
abbrev gQ (l:PD):PV:=.df (l.map (·.1)) (l.map (·.2))
abbrev SE (l:PD) (o2:Option Lc) (mu:Mu):Ev:=⟨[yS (cD l),yS (gQ l),o2],mu⟩
theorem Vh {fa fb:EF} {Y Y1 Y2:Ev} {x y:Lc} {l:PD} {k:Key} (h1:fa Y=some (x,Y1)) (hx:x.pv=cD l) (h2:fb Y1=some (y,Y2)) (hy:tU y.pv=some k):yh fa fb Y=some (.sh ((iG l k).getD .non),Y2):=by unfold yh;rw[h1,aaa,hx];unfold cD;dsimp only;rw[h2,aaa,hy,Bl];rfl
theorem PB {fa fb:EF} {Y Y1 Y2:Ev} {x y:Lc} {l:PD} {k:Key} {p:PV} (h1:fa Y=some (x,Y1)) (hx:x.pv=cD l\/x.pv=gQ l) (h2:fb Y1=some (y,Y2)) (hy:tU y.pv=some k) (hv:iG l k=some p):iH fa fb Y=some (.sh p,Y2):=by
 unfold iH;rw[h1,aaa,h2,aaa];rcases hx with hx | hx
 . rw[hx];unfold cD;dsimp only;rw[hy,aaa,Bl,hv]; rfl
 . rw[hx];dsimp only;rw[hy,aaa,Bl,hv]; rfl
theorem isStr {v:Str}:zp (.str v) "str" = some true:=rfl
theorem yr {l:PD} {mu:Mu} (h:SD l):dJ [cD l,gQ l] mu=some (.sh (.bl true),mu):=by
 have t0:mj (gH (tT (Rx (aa 0)) fB)) (tT (aC J3 (Av (aa 0)) (Av (aa 1))) aV) (SE l none mu)=some (false,SE l none mu):=by refine sW (b:=false) (b2:=false) rfl (eF (l:=.sh (.bl false)) (p:=.bl false) (bj (x:=.sh (.int ((l.map (·.1)).length:Nat))) (y:=.sh (.int ((l.map (·.1)).length:Nat))) (Y1:=SE l none mu) (Y2:=SE l none mu) rfl rfl ?_) rfl rfl);show some (Lc.sh (.bl (!(((l.map (·.1)).length:Int)==((l.map (·.1)).length:Int)))))=_;simp
 have e1:∀(ks:List Key) (o2:Option Lc),(∀k∈ks,k∈l.map (·.1))->∃q2,cU (aA 2) (bN (mj (gH (tT (SX "str" (yh (aa 0) (aa 2))) fB)) (tT (aC J3 (iH (aa 0) (aa 2)) (iH (aa 1) (aa 2))) aV)) (bV (eC (.bl false))) bA) (ks.map vK) (SE l o2 mu)=some (.nx (SE l q2 mu)):=λks=>by
  induction ks with
  | nil=>intro o2 _; exact⟨o2,rfl⟩
  | cons k ks ih=>
   intro o2 hk;obtain⟨p,hp,hm⟩:=Ir (hk k aab);obtain⟨x,v,e⟩:=h _ hm;cases e;obtain⟨q2,e2⟩:=ih (zT x) λk hk'=>hk k (aai _ hk');refine⟨q2,dH (Y1:=SE l (zT x) mu) (Y2:=SE l (zT x) mu) rfl ((gm (Y1:=SE l (zT x) mu) ?_).trans rfl) e2⟩;have g:yh (aa 0) (aa 2) (SE l (zT x) mu)=some (.sh (.str v),SE l (zT x) mu):=by rw[Vh (l:=l) (k:=.inr x) (x:=.sh (cD l)) (y:=.sh (.str x)) (Y1:=SE l (zT x) mu) (Y2:=SE l (zT x) mu) rfl rfl rfl rfl,hp];rfl
   refine sW (b:=false) (b2:=false) (rF (b:=true) (eF (l:=.sh (.bl true)) (p:=.bl true) ?_ rfl rfl)) (eF (l:=.sh (.bl false)) (p:=.bl false) (bj (x:=.sh (.str v)) (y:=.sh (.str v)) (PB (x:=.sh (cD l)) (y:=.sh (.str x)) (l:=l) (k:=.inr x) (Y1:=SE l (zT x) mu) rfl (.inl rfl) rfl rfl hp) (PB (x:=.sh (gQ l)) (y:=.sh (.str x)) (l:=l) (k:=.inr x) (Y1:=SE l (zT x) mu) rfl (.inr rfl) rfl rfl hp) ?_) rfl rfl)
   . unfold SX;rw[g,aaa];show (zp (.str v) "str").map _=_;rw[isStr]; rfl
   . show some (Lc.sh (.bl (!(v==v))))=_;simp
 obtain⟨q2,e1⟩:=e1 (l.map (·.1)) none λk hk=>hk;exact aX (Y:=SE l q2 mu) (aD ((gm t0).trans rfl) (aD (dq (xs:=(l.map (·.1)).map vK) (Y1:=SE l none mu) rfl e1) rfl))
def Pq (d:Nat) (p:PV):Prop:=(∀mu n,d<=n->cC mu n p=p)/\∀n,d<=n->cu n p p=some true
theorem Pq.mono {d e:Nat} {p:PV} (h:Pq d p) (hd:d<=e):Pq e p:=⟨λmu n hn=>h.1 mu n (by omega),λn hn=>h.2 n (by omega)⟩
theorem Gd {p:PV} (h:∀mu m,cC mu (m+1) p=p) (g:∀m,cu (m+1) p p=some true):Pq 1 p:=by
 refine⟨λmu n hn=>?_,λn hn=>?_⟩
 . obtain⟨m,rfl⟩:∃m,n=m+1:=⟨n-1,by omega⟩;exact h mu m
 . obtain⟨m,rfl⟩:∃m,n=m+1:=⟨n-1,by omega⟩;exact g m
theorem jk {x:Str}:Pq 1 (.str x):=Gd (λ_ _=>rfl) λ_=>by show some (x==x)=_; simp
theorem Iu {x:Int}:Pq 1 (.int x):=Gd (λ_ _=>rfl) λ_=>by show some (x==x)=_; simp
theorem PJ:Pq 1 .non:=Gd (λ_ _=>rfl) λ_=>rfl
theorem YD {b:Bool}:Pq 1 (.bl b):=Gd (λ_ _=>rfl) λ_=>by show some (b==b)=_; simp
theorem xM {f:PV->PV->Option Bool}:∀{ps:List PV},(∀p∈ps,f p p=some true)->rB f ps ps=some true
 | [],_=>rfl
 | p::ps,h=>by show (f p p).bind _=_;rw[h p aab,aaa,xM λq hq=>h q (aai _ hq)];rfl
theorem mH {d:Nat} {ps:List PV} (h:∀p∈ps,Pq d p):Pq (d+1) (.tup ps):=⟨λmu n hn=>by
 obtain⟨m,rfl⟩:∃m,n=m+1:=⟨n-1,by omega⟩;show PV.tup (ps.map (cC mu m))=_;rw[abp (g:=id) λp hp=>(h p hp).1 mu m (by omega),List.map_id],λn hn=>by
 obtain⟨m,rfl⟩:∃m,n=m+1:=⟨n-1,by omega⟩;show (rB (cu m) ps ps).map _=_;rw[xM λp hp=>(h p hp).2 m (by omega)];simp⟩
theorem oE {d:Nat} {ps:List PV} (h:∀p∈ps,Pq d p):Pq (d+1) (.lst ps):=⟨λmu n hn=>by
 obtain⟨m,rfl⟩:∃m,n=m+1:=⟨n-1,by omega⟩;show PV.lst (ps.map (cC mu m))=_;rw[abp (g:=id) λp hp=>(h p hp).1 mu m (by omega),List.map_id],λn hn=>by
 obtain⟨m,rfl⟩:∃m,n=m+1:=⟨n-1,by omega⟩;show (if ps.length=ps.length then rB (cu m) ps ps else _)=_;rw[abR rfl,xM λp hp=>(h p hp).2 m (by omega)]⟩
theorem Ms {r:Option Str}:Pq 1 (jN r):=by
 cases r with
 | none=>exact PJ
 | some x=>exact jk
mutual
theorem Kz:∀p:PV,dz p=true->Pq (xH p) p
 | .non,_=>PJ
 | .bl _,_=>YD
 | .int _,_=>Iu
 | .str _,_=>jk
 | .tup ps,h=>by unfold dz at h;unfold xH;exact mH (zE ps h)
 | .lst _,h=>by unfold dz at h; cases h
 | .dk _ _,h=>by unfold dz at h; cases h
 | .dt _ _,h=>by unfold dz at h; cases h
 | .obj _ _ _,h=>by unfold dz at h; cases h
 | .df _ _,h=>by unfold dz at h; cases h
 | .dtf _ _,h=>by unfold dz at h; cases h
 | .dx _ _ _,h=>by unfold dz at h; cases h
 | .exc _,h=>by unfold dz at h; cases h
 | .fn _,h=>by unfold dz at h; cases h
 | .ptr _,h=>by unfold dz at h; cases h
theorem zE:∀ps:List PV,iD ps=true->∀p∈ps,Pq (Di ps) p
 | [],_,p,hp=>by cases hp
 | q::ps,h,p,hp=>by
  unfold iD at h;rw[aaA]at h;unfold Di;rcases aah.mp hp with e | hp
  . rw[e]; exact(Kz q h.1).mono (Nat.le_max_left _ _)
  . exact(zE ps h.2 p hp).mono (Nat.le_max_right _ _)
end
theorem Mt {p:PV} (h:fl p):Pq 20 p:=(Kz p h.1).mono h.2
theorem PK {ps:List PV} (h:Il ps):∀p∈ps,Pq 20 p:=λp hp=>(zE ps h.1 p hp).mono h.2
mutual
theorem PN:∀(r:Row),r.ok->Pq (21+r.dep) r.pv
 | .leaf w ps,ok=>(mH (d:=20) λp hp=>by
  rcases aah.mp hp with rfl | hp
  . exact jk.mono (by omega)
  . exact PK ok.2 p hp).mono (by omega)
 | .call b n as,ok=>(mH (d:=21) λp hp=>by
  rcases aah.mp hp with rfl | hp
  . exact jk.mono (by omega)
  rcases aah.mp hp with rfl | hp
  . exact(Mt ok.1).mono (by omega)
  rcases aah.mp hp with rfl | hp
  . exact jk.mono (by omega)
  rw[aaF.mp hp];exact oE (PK ok.2.2.1)).mono (by simp only[Row.dep]; omega)
 | .wh e b,ok=>(mH (d:=21+b.dep) λp hp=>by
  rcases aah.mp hp with rfl | hp
  . exact jk.mono (by omega)
  rcases aah.mp hp with rfl | hp
  . exact(Mt ok.1).mono (by omega)
  rw[aaF.mp hp];exact qR b ok.2).mono (by simp only[Row.dep]; omega)
 | .iff e b c,ok=>(mH (d:=21+max b.dep c.dep) λp hp=>by
  rcases aah.mp hp with rfl | hp
  . exact jk.mono (by omega)
  rcases aah.mp hp with rfl | hp
  . exact(Mt ok.1).mono (by omega)
  rcases aah.mp hp with rfl | hp
  . exact(qR b ok.2.1).mono (by omega)
  rw[aaF.mp hp];exact(qR c ok.2.2).mono (by omega)).mono (by simp only[Row.dep]; omega)
theorem qR:∀(rs:Rows),rs.ok->Pq (21+rs.dep) (.lst rs.pvs)
 | .nil,_=>(oE (d:=0) λp hp=>by cases hp).mono (by omega)
 | .cons r rs,ok=>by
  have h1:=PN r ok.1;have h2:=qR rs ok.2;have h3:∀p∈rs.pvs,Pq (20+rs.dep) p:=PQ rs ok.2;refine(oE (d:=20+max (r.dep+1) rs.dep) λp hp=>?_).mono (by simp only[Rows.dep]; omega);rcases aah.mp hp with rfl | hp
  . exact h1.mono (by omega)
  . exact(h3 p hp).mono (by omega)
theorem PQ:∀(rs:Rows),rs.ok->∀p∈rs.pvs,Pq (20+rs.dep) p
 | .nil,_,p,hp=>by cases hp
 | .cons r rs,ok,p,hp=>by
  simp only[Rows.dep];rcases aah.mp hp with e | hp
  . rw[e]; exact(PN r ok.1).mono (by omega)
  . exact(PQ rs ok.2 p hp).mono (by omega)
end
def Pp (P:Pr) (n:Nat):PV:=.tup [.ptr n,.lst (P.gs.map lL),.lst ((P.fs.map Fd.fn).map Fn.pv),.ptr (n+1)]
structure Pr.shal (P:Pr):Prop where
 rw:P.rows.dep<=12
 fn:∀f∈P.fs,f.rows.dep<=12
section
variable {P:Pr}
theorem Pr.pqB:Pq 3 (.lst (P.bs.map dw)):=oE λp hp=>by
 obtain⟨b,_,rfl⟩:=aar.mp hp;refine mH λp hp=>?_;rcases aah.mp hp with rfl | hp
 . exact jk
 rcases aah.mp hp with rfl | hp
 . exact Iu
 rw[aaF.mp hp]; exact Ms
theorem Pr.pqG:Pq 3 (.lst (P.gs.map lL)):=oE λp hp=>by
 obtain⟨b,_,rfl⟩:=aar.mp hp;refine mH λp hp=>?_;rcases aah.mp hp with rfl | hp
 . exact jk
 rcases aah.mp hp with rfl | hp
 . exact jk
 rw[aaF.mp hp]; exact jk
theorem Pr.pqR (G:P.good) (S:P.shal):Pq 33 (.lst P.rows.pvs):=(qR P.rows G.ok.pg.rw).mono (by have:=S.rw; omega)
theorem Pr.pqF (G:P.good) (S:P.shal):Pq 35 (.lst ((P.fs.map Fd.fn).map Fn.pv)):=oE (d:=34) λp hp=>by
 obtain⟨g,hg,rfl⟩:=aar.mp hp;obtain⟨f,hf,rfl⟩:=aar.mp hg;refine mH (d:=33) λp hp=>?_;rcases aah.mp hp with rfl | hp
 . exact jk.mono (by omega)
 rcases aah.mp hp with rfl | hp
 . exact Ms.mono (by omega)
 rcases aah.mp hp with rfl | hp
 . refine(oE (d:=2) λp hp=>?_).mono (by omega);obtain⟨q,_,rfl⟩:=aar.mp hp;refine mH λp hp=>?_;rcases aah.mp hp with rfl | hp
   . exact jk
   rw[aaF.mp hp]; exact Ms
 rw[aaF.mp hp];exact(qR f.rows (G.ok.pg.fn f.fn (aar.mpr ⟨f,hf,rfl⟩)).1).mono (by have:=S.fn f hf; omega)
theorem Pr.pqP (G:P.good) (S:P.shal):Pq 36 P.pv:=mH (d:=35) λp hp=>by
 rcases aah.mp hp with rfl | hp
 . exact Pr.pqB.mono (by omega)
 rcases aah.mp hp with rfl | hp
 . exact Pr.pqG.mono (by omega)
 rcases aah.mp hp with rfl | hp
 . exact Pr.pqF G S
 rw[aaF.mp hp];exact(Pr.pqR G S).mono (by omega)
theorem Ge (G:P.good) (S:P.shal) {mu:Mu} {n:Nat} (h1:mu[n]?=some (some (.lst (P.bs.map dw)))) (h2:mu[n+1]?=some (some (.lst P.rows.pvs))):cC mu 40 (Pp P n)=P.pv:=by
 have e1:cC mu 39 (.ptr n)=.lst (P.bs.map dw):=by show (match mu[n]? with | some (some p)=>cC mu 38 p | _=>.ptr n)=_;rw[h1];exact Pr.pqB.1 mu 38 (by decide)
 have e2:cC mu 39 (.ptr (n+1))=.lst P.rows.pvs:=by show (match mu[n+1]? with | some (some p)=>cC mu 38 p | _=>.ptr (n+1))=_;rw[h2];exact(Pr.pqR G S).1 mu 38 (by decide)
 show PV.tup [cC mu 39 (.ptr n),cC mu 39 _,cC mu 39 _,cC mu 39 (.ptr (n+1))]=_;rw[e1,e2,Pr.pqG.1 mu 39 (by decide),(Pr.pqF G S).1 mu 39 (by decide)];rfl
end
abbrev iM (S R Q G O:PV) (o5 o6 o7:Option Lc) (mu:Mu):Ev:=⟨[yS S,yS R,yS Q,yS G,yS O,o5,o6,o7],mu⟩
section
variable {P:Pr} {S R Q O:PV} {n:Nat} {o5 o6 o7:Option Lc} {mu:Mu}
theorem Iv:nM (.own (cD P.dic))=true:=(Pr.dic_sd P).flat
theorem tM (G:P.good) (h:cC mu 40 (Pp P n)=P.pv):dN cV (aj (aa 4) (aj (aa 3) ao)) (iM S R Q (Pp P n) O o5 o6 o7 mu)=some (.own (cD P.dic),iM S R Q (Pp P n) O o5 o6 o7 mu):=
 Hk (ls:=[.sh O,.sh (Pp P n)]) (ps:=[cC mu 40 O,P.pv]) (Y1:=iM S R Q (Pp P n) O o5 o6 o7 mu) rfl (by show [cC mu 40 O,cC mu 40 (Pp P n)]=_; rw[h]) (Fj G) Iv
theorem Iw (G:P.good) (h:cC mu 40 (Pp P n)=P.pv):jD (dN gn (aj (aa 3) ao)) (iM S R Q (Pp P n) O o5 o6 o7 mu)=some (.sh (gQ P.dic),iM S R Q (Pp P n) O o5 o6 o7 mu):=by unfold jD;rw[Hk (ls:=[.sh (Pp P n)]) (ps:=[P.pv]) (Y1:=iM S R Q (Pp P n) O o5 o6 o7 mu) rfl (by show [cC mu 40 (Pp P n)]=_; rw[h]) (XM G) Iv];rfl
theorem Es (G:P.good) (h:cC mu 40 (Pp P n)=P.pv):aF dJ (aj (dN cV (aj (aa 4) (aj (aa 3) ao))) (aj (jD (dN gn (aj (aa 3) ao))) ao)) (iM S R Q (Pp P n) O o5 o6 o7 mu)=some (.sh (.bl true),iM S R Q (Pp P n) O o5 o6 o7 mu):=
 aY (ls:=[.own (cD P.dic),.sh (gQ P.dic)]) (ps:=[cD P.dic,gQ P.dic]) (aB (tM G h) (aB (Iw G h) rfl)) rfl rfl rfl (yr (Pr.dic_sd P))
theorem Tj {c:EF} {Y:Ev} (h:c Y=some (.sh (.bl true),Y)):bN (gH (tT c fB)) (bV (eC (.bl false))) bA Y=some (.nx Y):=
 (gm (rF (b:=true) (eF (l:=.sh (.bl true)) (p:=.bl true) h rfl rfl))).trans rfl
end
structure Dn (ns:List Int) (ts:List Str) (ps:List (Str×Str)) (P:Pr) (pen:PV):Prop where
 ord:vz ts ps
 good:P.good
 shal:P.shal
 nb:P.bs≠[]
 eq:∀mu:Mu,gP [.lst (ns.map .int)] mu=some (.own (.lst [.lst (SS ts),.lst (PP ps),Pp P (mu.length+1)]),mu++[some pen,some (.lst (P.bs.map dw)),some (.lst P.rows.pvs)])
def Pr.set0 (P:Pr) (b:Bx):Pr:=⟨P.bs.set 0 b,P.gs,P.fs,P.rows⟩
def Pr.cut (P:Pr):Pr:=⟨P.bs,P.gs,P.fs,.nil⟩
theorem Pr.good.set0 {P:Pr} (G:P.good) {b:Bx} (hb:Sh b.1):(P.set0 b).good:=by
 refine⟨⟨⟨G.ok.pg.fn,G.ok.pg.rw,G.ok.pg.dp,G.ok.pg.ct,G.ok.pg.fl⟩,?_,G.ok.gl,G.ok.pl,G.ok.fl,λx hx=>?_,G.ok.sf⟩,G.out⟩
 . show (P.bs.set 0 b).length<=50;rw[abG]; exact G.ok.bl
 . rcases List.mem_or_eq_of_mem_set hx with h | h
   . exact G.ok.sb x h
   . rw[h]; exact hb
theorem Pr.good.cut {P:Pr} (G:P.good):P.cut.good:=by
 refine⟨⟨⟨G.ok.pg.fn,trivial,(by show (1:Nat)<=30; decide),?_,G.ok.pg.fl⟩,G.ok.bl,G.ok.gl,G.ok.pl,G.ok.fl,G.ok.sb,G.ok.sf⟩,λr hr=>?_⟩
 . have:=G.ok.pg.ct;show mZ (P.fs.map Fd.fn)+0<=250;have h:mZ (P.fs.map Fd.fn)+P.rows.cnt<=250:=this;omega
 . refine G.out r ?_;have h:r∈(uJ (P.fs.map Fd.fn) 0++Rows.nil.es "main" .non 0 (mZ (P.fs.map Fd.fn))).map Ent.r:=hr;show r∈(uJ (P.fs.map Fd.fn) 0++P.rows.es "main" .non 0 (mZ (P.fs.map Fd.fn))).map Ent.r;rw[aaz]at h ⊢;rcases aaH.mp h with h | h
   . exact aaM _ h
   . cases h
theorem Vi {xs:List Str} (h:xs≠[]):∃x,sU (.lst (SS xs)) (.int (-1))=zT x:=by have hl:0<xs.length:=List.length_pos_iff.mpr h;refine⟨xs[xs.length-1]'(by omega),?_⟩;show (dW (SS xs) (-1)).map _=_;unfold dW um;rw[abS (by omega),aad,abR (by omega),aaa,show ((-1:Int)+(xs.length:Int)).toNat=xs.length-1 from by omega,aay,aaj (by omega)];rfl
theorem PX {f:TF} {Y Y1:Ev} {b:Bool} (h:f Y.peekD=some (b,Y1)):wN f Y=some (b,Y):=by unfold wN;rw[h];rfl
theorem Vj {fo:EF} {Y Y1:Ev} {o:Lc} {n:Nat} {ws:List PV} (h:fo Y=some (o,Y1)) (ho:o.pv=.ptr n) (hm:Y1.mu[n]?=some (some (.lst ws))):Ar fo Y=some (.nx ⟨Y1.vs,Y1.mu.set n (some (.lst []))⟩):=by unfold Ar;rw[h,aaa,ho];dsimp only;rw[hm]
theorem Tn {fa:EF} {Y Y1:Ev} {l:Lc} {p:PV} {t:List PV} (h:fa Y=some (l,Y1)) (hl:l.pv=.lst (p::t)\/l.pv=.tup (p::t)):aN fa (adE 0) Y=some (.sh p,Y1):=by
 rcases hl with hl | hl
 . exact dI (p:=.lst (p::t)) (q:=.int 0) (m:=.sh (.int 0)) h hl rfl rfl (λn h=>by cases h) (by show (dW (p::t) 0).map _=_; rw[at0]; rfl)
 . exact dI (p:=.tup (p::t)) (q:=.int 0) (m:=.sh (.int 0)) h hl rfl rfl (λn h=>by cases h) (by show (dW (p::t) 0).map _=_; rw[at0]; rfl)
theorem XN {ns:List Int} {ts:List Str} {ps:List (Str×Str)} {P:Pr} {pen:PV} (D:Dn ns ts ps P pen):∃mu,FP [.lst (ns.map PV.int)] []=some (.sh (.bl true),mu):=by
 have G:=D.good;have Sl:=D.shal;obtain⟨l,_,ei⟩:=U9 (mu:=[some pen,some (.lst (P.bs.map dw)),some (.lst P.rows.pvs)]) D.ord;let S:PV:=.lst (ns.map .int);let R:PV:=.lst (SS ts);let Q:PV:=.lst (PP ps);let O:PV:=.ptr 3;let M:List PV->List PV->Mu:=λbs rs=>[some pen,some (.lst bs),some (.lst rs),some (iI "Order" l)];let m1:Mu:=M (P.bs.map dw) P.rows.pvs;let G1:=Pp P 1;have rP:cC m1 40 G1=P.pv:=Ge G Sl rfl rfl;have hS:Pq 2 S:=oE λp hp=>by obtain⟨i,_,rfl⟩:=aar.mp hp; exact Iu
 have hR:Pq 2 R:=oE λp hp=>by obtain⟨i,_,rfl⟩:=aar.mp hp; exact jk
 obtain⟨b0,bt,hb⟩:∃b0 bt,P.bs=b0::bt:=by
  cases h:P.bs with
  | nil=>exact absurd h D.nb
  | cons b t=>exact⟨b,t,rfl⟩
 have hb0:Sh b0.1:=G.ok.sb b0 (by rw[hb]; exact aab);obtain⟨rk,erk⟩:=Vi D.ord.ne;have pk:∀(bs:List Bx) (P':Pr) (o5 o6 o7:Option Lc) (mu:Mu),cC mu 40 G1=P'.pv->∃v2 v4 v5 v6 v7,Ev.peekD (iM S R Q G1 O o5 o6 o7 mu)=⟨[yS S,yS R,v2,yS P'.pv,v4,v5,v6,v7],mu.map λ_=>none⟩:=λbs P' o5 o6 o7 mu h=>by refine⟨yS (cC mu 40 Q),yS (cC mu 40 O),PL.peekD mu o5,PL.peekD mu o6,PL.peekD mu o7,?_⟩;show (⟨[yS (cC mu 40 S),yS (cC mu 40 R),yS (cC mu 40 Q),yS (cC mu 40 G1),yS (cC mu 40 O),PL.peekD mu o5,PL.peekD mu o6,PL.peekD mu o7],mu.map λ_=>none⟩:Ev)=_;rw[hS.1 mu 40 (by decide),hR.1 mu 40 (by decide),h]
 have s1:nJ (aF gP (aj (aa 0) ao)) (b7 3 (aJ (aA 1) (aJ (aA 2) (aJ (aA 3) bZ)))) ⟨[yS S,none,none,none,none,none,none,none],[]⟩=some (.nx ⟨[yS S,yS R,yS Q,yS G1,none,none,none,none],[some pen,some (.lst (P.bs.map dw)),some (.lst P.rows.pvs)]⟩):=by unfold nJ;rw[aY (ls:=[.sh S]) (ps:=[S]) (Y1:=⟨[yS S,none,none,none,none,none,none,none],[]⟩) rfl rfl rfl rfl (D.eq [])];rfl
 have s2:aK 4 (yg "Order" ie (aj (aa 1) (aj (aa 2) ao))) ⟨[yS S,yS R,yS Q,yS G1,none,none,none,none],[some pen,some (.lst (P.bs.map dw)),some (.lst P.rows.pvs)]⟩=some (.nx (iM S R Q G1 O none none none m1)):=
  aZ (U8 (ls:=[.sh R,.sh Q]) (ps:=[R,Q]) (Y1:=⟨[yS S,yS R,yS Q,yS G1,none,none,none,none],[some pen,some (.lst (P.bs.map dw)),some (.lst P.rows.pvs)]⟩) rfl rfl ei) rfl rfl
 let d:=P.dic;have sd:SD d:=Pr.dic_sd P;have s3:aK 5 (jD (dN gn (aj (aa 3) ao))) (iM S R Q G1 O none none none m1)=some (.nx (iM S R Q G1 O (yS (gQ d)) none none m1)):=aZ (Iw G rP) rfl rfl;have s4:aK 6 (dN cV (aj (aa 4) (aj (aa 3) ao))) (iM S R Q G1 O (yS (gQ d)) none none m1)=some (.nx (iM S R Q G1 O (yS (gQ d)) (some (.own (cD d))) none m1)):=aZ (tM G rP) rfl rfl;let E4:=iM S R Q G1 O (yS (gQ d)) (some (.own (cD d))) none m1;have s5:bN (mj (lU (gH (tT (aF dJ (aj (aa 6) (aj (aa 5) ao))) fB))) (wN (tT (aC mC (aa 3) (uA (aN (aF gP (aj (aa 0) ao)) (adE 2)))) aV))) (bV (eC (.bl false))) bA E4=some (.nx E4):=by
  obtain⟨v2,v4,v5,v6,v7,e⟩:=pk P.bs P (yS (gQ d)) (some (.own (cD d))) none m1 rP;let mu0:Mu:=m1.map λ_=>none;let vs:=[some (Lc.sh S),yS R,v2,yS P.pv,v4,v5,v6,v7];have e1:aN (aF gP (aj (aa 0) ao)) (adE 2) ⟨vs,mu0⟩=some (.sh (Pp P 5),⟨vs,mu0++[some pen,some (.lst (P.bs.map dw)),some (.lst P.rows.pvs)]⟩):=
   dI (p:=.lst [.lst (SS ts),.lst (PP ps),Pp P 5]) (q:=.int 2) (l:=.own (.lst [.lst (SS ts),.lst (PP ps),Pp P 5])) (m:=.sh (.int 2)) (aY (ls:=[.sh S]) (ps:=[S]) (Y1:=⟨vs,mu0⟩) rfl rfl rfl rfl (D.eq mu0)) rfl rfl rfl (λn h=>by cases h) (by show (dW [PV.lst (SS ts),.lst (PP ps),Pp P 5] 2).map _=_; rw[at2]; rfl)
  have e2:=Rv (p:=P.pv) e1 (Ge G Sl rfl rfl);have e3:mC P.pv P.pv=yS (.bl false):=by show (cu 150 P.pv P.pv).map _=_;rw[(Pr.pqP G Sl).2 150 (by decide)];rfl
  have e4:tT (aC mC (aa 3) (uA (aN (aF gP (aj (aa 0) ao)) (adE 2)))) aV ⟨vs,mu0⟩=some (false,_):=eF (l:=.sh (.bl false)) (p:=.bl false) (bj (x:=.sh P.pv) (y:=.sh P.pv) (Y1:=⟨vs,mu0⟩) rfl e2 e3) rfl rfl;rw[<-e]at e4;exact(gm (Y1:=E4) (sW (b:=false) (b2:=false) (rG (rF (b:=true) (eF (l:=.sh (.bl true)) (p:=.bl true) (aY (ls:=[.sh (cD d),.sh (gQ d)]) (ps:=[cD d,gQ d]) (Y1:=E4.peek) rfl rfl rfl rfl (yr sd)) rfl rfl))) (PX e4))).trans rfl
 have s6:aK 7 (dN cV (aj (aa 4) (aj (aa 3) ao))) E4=some (.nx (iM S R Q G1 O (yS (gQ d)) (some (.own (cD d))) (some (.own (cD d))) m1)):=aZ (tM G rP) rfl rfl;have s7:FN 6 (iM S R Q G1 O (yS (gQ d)) (some (.own (cD d))) (some (.own (cD d))) m1)=some (.nx (iM S R Q G1 O (yS (gQ d)) (some (.own (cD []))) (some (.own (cD d))) m1)):=rfl;have k0:∀(P':Pr) (o5 o6 o7:Option Lc) (mu:Mu),cC mu 40 G1=P'.pv->∀b t,P'.bs=b::t->∃Y1,aN (aN (aN (aa 3) (adE 0)) (adE 0)) (adE 0) (iM S R Q G1 O o5 o6 o7 mu).peekD=some (.sh (.str b.1),Y1)/\(iM S R Q G1 O o5 o6 o7 mu).peekD=Y1:=λP' o5 o6 o7 mu h b t hb=>by obtain⟨v2,v4,v5,v6,v7,e⟩:=pk P'.bs P' o5 o6 o7 mu h;refine⟨_,?_,rfl⟩;rw[e];refine Tn (t:=[.int b.2.1,jN b.2.2]) (l:=.sh (dw b)) (Tn (p:=dw b) (t:=t.map dw) (l:=.sh (.lst (P'.bs.map dw))) (Tn (p:=.lst (P'.bs.map dw)) (l:=.sh P'.pv) rfl (.inr rfl)) (.inl ?_)) (.inr rfl);show PV.lst (P'.bs.map dw)=_;rw[hb]; rfl
 obtain⟨d8,s8⟩:∃d8:Option Lc,eG 6 (j5 (aC bh (adF "box ") (aN (aN (aN (aa 3) (adE 0)) (adE 0)) (adE 0)))) (adF "zz") (iM S R Q G1 O (yS (gQ d)) (some (.own (cD []))) (some (.own (cD d))) m1)=some (.nx (iM S R Q G1 O (yS (gQ d)) d8 (some (.own (cD d))) m1)):=by obtain⟨Y1,e1,e2⟩:=k0 P (yS (gQ d)) (some (.own (cD []))) (some (.own (cD d))) m1 rP b0 bt hb;refine⟨_,De (x:=.sh (.str "zz")) (p:=.str "zz") (y:=.sh (.str ("box " ++ b0.1))) (k:=.inr ("box " ++ b0.1)) (l0:=[]) (l:=[]) (Y1:=iM S R Q G1 O (yS (gQ d)) (some (.own (cD []))) (some (.own (cD d))) m1) rfl rfl rfl (zr (Y1:=Y1) ?_ rfl) rfl rfl (by decide) rfl⟩;rw[<-e2]at e1 ⊢;exact yq hb0 e1
 let E8:=iM S R Q G1 O (yS (gQ d)) d8 (some (.own (cD d))) m1;have s9:bN (gH (tT (aF dJ (aj (dN cV (aj (aa 4) (aj (aa 3) ao))) (aj (aa 5) ao))) fB)) (bV (eC (.bl false))) bA E8=some (.nx E8):=
  Tj (aY (ls:=[.own (cD d),.sh (gQ d)]) (ps:=[cD d,gQ d]) (aB (tM G rP) (aB rfl rfl)) rfl rfl rfl (yr sd))
 let b1:Bx:=(b0.1,0,some rk);let P1:=P.set0 b1;have G1':P1.good:=G.set0 hb0;have Sl1:P1.shal:=⟨Sl.rw,Sl.fn⟩;let m2:Mu:=M (P1.bs.map dw) P.rows.pvs;have rP1:cC m2 40 G1=P1.pv:=Ge (P:=P1) G1' Sl1 rfl rfl;let E10:=iM S R Q G1 O (yS (gQ d)) d8 (some (.own (cD d))) m2;have s10:pH (aN (aa 3) (adE 0)) (adE 0) (j5 (bu (aj (aN (aN (aN (aa 3) (adE 0)) (adE 0)) (adE 0)) (aj (adE 0) (aj (aN (aa 1) (Ra (adE 1))) ao))))) E8=some (.nx E10):=by
  obtain⟨Y1,e1,e2⟩:=k0 P (yS (gQ d)) d8 (some (.own (cD d))) m1 rP b0 bt hb;obtain⟨v2,v4,v5,v6,v7,e⟩:=pk P.bs P (yS (gQ d)) d8 (some (.own (cD d))) m1 rP;refine(Cu (x:=.sh (dw b1)) (p:=dw b1) (o:=.sh (.ptr 1)) (n:=1) (y:=.sh (.int 0)) (k:=0) (ws:=P.bs.map dw) (j:=0) (Y1:=E8) (Y2:=E8) (Y3:=E8) (zr (l:=.sh (dw b1)) (Y1:=Y1) ?_ ?_) rfl (Tn (l:=.sh G1) (p:=.ptr 1) rfl (.inr rfl)) rfl rfl rfl rfl ?_).trans ?_
  . refine dG (ls:=[.sh (.str b0.1),.sh (.int 0),.sh (.str rk)]) (aB e1 (aB rfl (aB (dI (p:=.lst (SS ts)) (q:=.int (-1)) (l:=.sh R) (m:=.sh (.int (-1))) ?_ rfl rfl rfl (λn h=>by cases h) erk) rfl))) rfl rfl;rw[<-e2,e];rfl
  . rfl
  . unfold um;rw[abR (by decide),abR (by rw[hb]; simp only[aao,aac]; omega)];rfl
  . show some (Fl.nx ⟨_,m1.set 1 (some (.lst ((P.bs.map dw).set 0 (dw b1))))⟩)=_;rw[<-List.map_set];rfl
 have s11:bN (gH (tT (aF dJ (aj (dN cV (aj (aa 4) (aj (aa 3) ao))) (aj (jD (dN gn (aj (aa 3) ao))) ao))) fB)) (bV (eC (.bl false))) bA E10=some (.nx E10):=Tj (Es (P:=P1) (n:=1) G1' rP1);let P2:=P1.cut;let m3:Mu:=M (P1.bs.map dw) [];have G2:P2.good:=G1'.cut;have Sl2:P2.shal:=⟨by show (1:Nat)<=12; decide,Sl.fn⟩;have rP2:cC m3 40 G1=P2.pv:=Ge (P:=P2) G2 Sl2 rfl rfl;have s12:Ar (aN (aa 3) (adE 3)) E10=some (.nx (iM S R Q G1 O (yS (gQ d)) d8 (some (.own (cD d))) m3)):=
  Vj (o:=.sh (.ptr 2)) (n:=2) (ws:=P.rows.pvs) (Y1:=E10) (dI (p:=.tup [.ptr 1,.lst (P.gs.map lL),.lst ((P.fs.map Fd.fn).map Fn.pv),.ptr 2]) (q:=.int 3) (l:=.sh G1) (m:=.sh (.int 3)) rfl rfl rfl rfl (λn h=>by cases h) (by show (dW [PV.ptr 1,.lst (P.gs.map lL),.lst ((P.fs.map Fd.fn).map Fn.pv),.ptr 2] 3).map _=_; rw[Py]; rfl)) rfl rfl
 have s13:∃Y',bV (wC (aF dJ (aj (dN cV (aj (aa 4) (aj (aa 3) ao))) (aj (jD (dN gn (aj (aa 3) ao))) ao))) (aF dJ (aj (aa 7) (aj (aa 5) ao)))) (iM S R Q G1 O (yS (gQ d)) d8 (some (.own (cD d))) m3)=some (.rt (.sh (.bl true)) Y'):=by refine⟨iM S R Q G1 O (yS (gQ d)) d8 (yS (cD d)) m3,cJ (l:=.sh (.bl true)) ?_⟩;unfold wC;have eb:aF dJ (aj (dN cV (aj (aa 4) (aj (aa 3) ao))) (aj (jD (dN gn (aj (aa 3) ao))) ao)) (iM S R Q G1 O (yS (gQ d)) d8 (some (.own (cD d))) m3)=some (.sh (.bl true),iM S R Q G1 O (yS (gQ d)) d8 (some (.own (cD d))) m3):=Es (P:=P2) (n:=1) G2 rP2;rw[eb,aaa];exact aY (ls:=[.sh (cD d),.sh (gQ d)]) (ps:=[cD d,gQ d]) (Y1:=iM S R Q G1 O (yS (gQ d)) d8 (yS (cD d)) m3) rfl rfl rfl rfl (yr sd)
 obtain⟨Y',s13⟩:=s13;exact⟨Y'.mu,aX (Y:=Y') (aD s1 (aD s2 (aD s3 (aD s4 (aD s5 (aD s6 (aD s7 (aD s8 (aD s9 (aD s10 (aD s11 (aD s12 s13))))))))))))⟩
theorem cell_eq {ns:List Int} {k:Int} (hn:ns.length<=63) (h0:0<=k) (h1:k<100000000):∃c,∀mu:Mu,fK [.lst (ns.map .int),.int k] mu=some (.sh (.int c),mu):=by
 have hN:(ns.map PV.int).length<=63:=by rw[aad]; exact hn
 have hlt:∀o2 o3 (mu:Mu),tT (aC iV (aa 1) (eB dZ (aj (aa 0) ao))) aV ⟨[yL (ns.map .int),zI k,o2,o3],mu⟩=some (decide (k<(ns.map PV.int).length),⟨[yL (ns.map .int),zI k,o2,o3],mu⟩):=λo2 o3 mu=>by rfl
 have hgt:∀o2 o3 (mu:Mu),tT (aC wH (eB dZ (aj (aa 0) ao)) (adE 0)) aV ⟨[yL (ns.map .int),zI k,o2,o3],mu⟩=some (decide ((0:Int)<(ns.map PV.int).length),⟨[yL (ns.map .int),zI k,o2,o3],mu⟩):=λo2 o3 mu=>by rfl
 have at_:∀i:Int,0<=i->i<(ns.map PV.int).length->∃c,sU (.lst (ns.map .int)) (.int i)=zI c:=λi h0 h1=>by obtain⟨x,e,e2⟩:=jQ (l:=ns.map PV.int) (i:=i) h0 h1;rw[aay]at e2;obtain⟨c,_,rfl⟩:=abZ e2;exact⟨c,by show (dW (ns.map PV.int) i).map _=_; rw[e]; rfl⟩
 by_cases hk:k<(ns.map PV.int).length
 . obtain⟨c,e⟩:=at_ k h0 hk;refine⟨c,λmu=>aX (Y:=⟨[yL (ns.map .int),zI k,none,none],mu⟩) ?_⟩;refine(oX ?_);refine(lV (Y1:=⟨[yL (ns.map .int),zI k,none,none],mu⟩) ((hlt none none mu).trans (by rw[abV hk]))).trans ?_;exact cJ (dI rfl rfl rfl rfl (λn h=>by cases h) e)
 . have fin:∀(c:Int) o3 (mu:Mu),0<=c->c<18446744073709551616->bV (aC eQ (aC gU (aa 2) (aa 2)) (adE 2147483629)) ⟨[yL (ns.map .int),zI k,zI c,o3],mu⟩=some (.rt (.sh (.int (c*c%2147483629))) ⟨[yL (ns.map .int),zI k,zI c,o3],mu⟩):=λc o3 mu a b=>
    cJ (bj (bj rfl rfl (rE (by omega) (by omega))) rfl (gk (by decide)))
   have go1:∀mu:Mu,bN (tT (aC iV (aa 1) (eB dZ (aj (aa 0) ao))) aV) (bV (aN (aa 0) (aa 1))) bA ⟨[yL (ns.map .int),zI k,none,none],mu⟩=some (.nx ⟨[yL (ns.map .int),zI k,none,none],mu⟩):=λmu=>
    (gm ((hlt none none mu).trans (by rw[abU hk]))).trans rfl
   have go2:∀mu:Mu,aK 2 (aC bh (aC gU (aa 1) (adE 7919)) (adE 5)) ⟨[yL (ns.map .int),zI k,none,none],mu⟩=some (.nx ⟨[yL (ns.map .int),zI k,zI (k*7919+5),none],mu⟩):=λmu=>by exact aZ (bj (bj rfl rfl (rE (by omega) (by omega))) rfl rfl) rfl rfl
   by_cases hz:(0:Int)<(ns.map PV.int).length
   . have hm0:=aa0 (k*7) (b:=(ns.map PV.int).length) (by omega);have hm1:=aaQ (k*7) (b:=(ns.map PV.int).length) hz;obtain⟨d,e⟩:=at_ _ hm0 hm1;have go3:∀mu:Mu,bN (tT (aC wH (eB dZ (aj (aa 0) ao)) (adE 0)) aV) (aG (aK 3 (aN (aa 0) (aC eQ (aC gU (aa 1) (adE 7)) (eB dZ (aj (aa 0) ao)))))
      (aK 2 (aC eQ (aC bh (aC bh (aC gU (aa 3) (adE 48271)) (aC gU (aC gU (aa 1) (aa 1)) (adE 7919))) (aa 1)) (adE 2147483647)))) bA ⟨[yL (ns.map .int),zI k,zI (k*7919+5),none],mu⟩=
      some (.nx ⟨[yL (ns.map .int),zI k,zI ((d*48271+k*k*7919+k)%2147483647),zI d],mu⟩):=λmu=>by
      refine(lV ((hgt _ none mu).trans (by rw[abV hz]))).trans ?_;refine aD (aZ (l:=.sh (.int d)) (dI (q:=.int (k*7%(ns.map PV.int).length)) rfl rfl (by exact bj (bj rfl rfl (rE (by omega) (by omega))) rfl (gk (by omega))) rfl (λn h=>by cases h) e) rfl rfl) ?_;exact aZ (bj (bj (bj (bj rfl rfl (Hd (by decide) (by decide))) (bj (bj rfl rfl (rE (by omega) (by omega))) rfl (Hd (by decide) (by decide))) rfl) rfl rfl) rfl (gk (by decide))) rfl rfl
     have b1:=aa0 (d*48271+k*k*7919+k) (b:=2147483647) (by decide);have b2:=aaQ (d*48271+k*k*7919+k) (b:=2147483647) (by decide);exact⟨_,λmu=>aX (Y:=⟨[yL (ns.map .int),zI k,zI ((d*48271+k*k*7919+k)%2147483647),zI d],mu⟩) (aD (go1 mu) (aD (go2 mu) (aD (go3 mu) (fin _ _ mu b1 (by omega)))))⟩
   . have go3:∀(f:SF) (mu:Mu),bN (tT (aC wH (eB dZ (aj (aa 0) ao)) (adE 0)) aV) f bA ⟨[yL (ns.map .int),zI k,zI (k*7919+5),none],mu⟩=
      some (.nx ⟨[yL (ns.map .int),zI k,zI (k*7919+5),none],mu⟩):=λf mu=>
      (gm ((hgt _ none mu).trans (by rw[abU hz]))).trans rfl
     exact⟨_,λmu=>aX (Y:=⟨[yL (ns.map .int),zI k,zI (k*7919+5),none],mu⟩) (aD (go1 mu) (aD (go2 mu) (aD (go3 _ mu) (fin _ _ mu (by omega) (by omega)))))⟩
structure Spot (P:PV->Mu) (n:Nat):Prop where
 g:∀x,(P x)[n]?=some (some x)
 s:∀x y,(P x).set n (some y)=P y
structure Sc where
 l:List Int
 m:Int
 g:Int
abbrev pen (ns:Sc) (k c:Int):PV:=.lst [.lst (ns.l.map .int),.int k,.int c,.int ns.m,.int ns.g]
theorem yt {ns:Sc} {k m:Int} (hn:ns.l.length<=63) (h0:0<=k) (h1:k<100000000) (hm:0<m):∃r,0<=r/\r<m/\∀P n c,Spot P n->aU [.ptr n,.int m] (P (pen ns k c))=some (.sh (.int r),P (pen ns (k+1) c)):=by
 obtain⟨d,e⟩:=cell_eq (ns:=ns.l) hn h0 h1;refine⟨d%m,aa0 _ (by omega),aaQ _ hm,λP n c S=>aX (Y:=⟨[yS (.ptr n),zI m,none],P (pen ns (k+1) c)⟩) ?_⟩;have g1:aK 2 (aC eQ (aF fK (aj (aN (aa 0) (adE 0)) (aj (aN (aa 0) (adE 1)) ao))) (aa 1)) ⟨[yS (.ptr n),zI m,none],P (pen ns k c)⟩=some (.nx ⟨[yS (.ptr n),zI m,zI (d%m)],P (pen ns k c)⟩):=
  aZ (gR (aY (ps:=[.lst (ns.l.map .int),.int k]) (aB (rH rfl rfl rfl rfl (S.g _) rfl) (aB (rH rfl rfl rfl rfl (S.g _) rfl) rfl)) rfl rfl rfl (e _)) rfl rfl rfl (gk hm)) rfl rfl
 have g2:pH (aa 0) (adE 1) (aC bh (aN (aa 0) (adE 1)) (adE 1)) ⟨[yS (.ptr n),zI m,zI (d%m)],P (pen ns k c)⟩=some (.nx ⟨[yS (.ptr n),zI m,zI (d%m)],P (pen ns (k+1) c)⟩):=by refine(Cu (x:=.sh (.int (k+1))) (j:=1) (gR (rH rfl rfl rfl rfl (S.g _) rfl) rfl rfl rfl rfl) rfl rfl rfl rfl rfl (S.g _) rfl).trans ?_;show some (Fl.nx ⟨_,(P (pen ns k c)).set n (some (pen ns (k+1) c))⟩)=_;rw[S.s];rfl
 exact aD g1 (aD g2 rfl)
def Dr (ns:Sc) (F:Nat->Mu->Option (Lc×Mu)) (k c k' c':Int) (l:Lc):Prop:=∀P n,Spot P n->F n (P (pen ns k c))=some (l,P (pen ns k' c'))
theorem vD {f:EF} {a b:Int} {Y Y1:Ev} (h:f Y=some (.sh (.int a),Y1)):tT (aC eqP f (adE b)) aV Y=some (decide (a=b),Y1):=u5 (l:=.sh (.bl (a==b))) (bj h rfl rfl) (by show some (a==b)=_; rfl)
theorem P0 {ns:Sc} {k:Int} (hn:ns.l.length<=63) (h0:0<=k) (h1:k<99999999):∃v,0<=v/\v<1000000000000/\∀c,Dr ns (λn mu=>qt [.ptr n] mu) k c (k+2) c (.sh (.int v)):=by
 obtain⟨w,w0,w1,ew⟩:=yt (m:=4) hn h0 (by omega) (by decide);obtain⟨z,z0,z1,ez⟩:=yt (m:=1000000000000) (k:=k+1) hn (by omega) (by omega) (by decide);have e2:k+1+1=k+2:=by omega
 rw[e2]at ez;let E:Nat->Mu->Ev:=λn mu=>⟨[yS (.ptr n),zI w,zI z],mu⟩;have st:∀P n c,Spot P n->∀(g:SF) R,g (E n (P (pen ns (k+2) c)))=R->aG (aK 1 (aF aU (aj (aa 0) (aj (adE 4) ao)))) (aG (aK 2 (aF aU (aj (aa 0) (aj (aC Cm (adE 10) (adE 12)) ao)))) g) (env0 3 [.ptr n] (P (pen ns k c)))=R:=λP n c S g R hg=>
  aD (Y':=⟨[yS (.ptr n),zI w,none],P (pen ns (k+1) c)⟩) (aZ (aY (ps:=[.ptr n,.int 4]) rfl rfl rfl rfl (ew P n c S)) rfl rfl) (aD (Y':=E n (P (pen ns (k+2) c))) (aZ (aY (ps:=[.ptr n,.int 1000000000000]) rfl rfl rfl rfl (ez P n c S)) rfl rfl) hg)
 have t:∀(i:Int) n mu,tT (aC eqP (aa 1) (adE i)) aV (E n mu)=some (decide (w=i),E n mu):=λi n mu=>vD rfl;by_cases h0':w=0
 . exact⟨z%21,aa0 _ (by decide),Int.lt_trans (aaQ _ (by decide)) (by decide),λc P n S=>aX (Y:=E n (P (pen ns (k+2) c))) (st P n c S _ _ (dO (t 0 _ _) (abV h0') (cJ (bj rfl rfl (gk (by decide))))))⟩
 . by_cases h1':w=1
   . have b0:=aa0 z (b:=5) (by decide);have b1:=aaQ z (b:=5) (by decide);exact⟨999999999999-z%5,by omega,by omega,λc P n S=>aX (Y:=E n (P (pen ns (k+2) c))) (st P n c S _ _ ((bM (t 0 _ _) (abU h0')).trans (dO (t 1 _ _) (abV h1') (cJ (bj (x:=.sh (.int 999999999999)) rfl (bj rfl rfl (gk (by decide))) rfl)))))⟩
   . by_cases h2':w=2
     . have b0:=aa0 z (b:=9999) (by decide);have b1:=aaQ z (b:=9999) (by decide);have d1:1<=(1000000000000:Int)/(1+z%9999):=(Int.le_ediv_iff_mul_le (by omega)).mpr (by omega);have d2:(1000000000000:Int)/(1+z%9999)<=1000000000000:=Int.ediv_le_self _ (by decide);exact⟨1000000000000/(1+z%9999)-1,by omega,by omega,λc P n S=>aX (Y:=E n (P (pen ns (k+2) c))) (st P n c S _ _ ((bM (t 0 _ _) (abU h0')).trans ((bM (t 1 _ _) (abU h1')).trans (dO (t 2 _ _) (abV h2') (cJ (bj (bj (x:=.sh (.int 1000000000000)) (y:=.sh (.int (1+z%9999))) rfl (bj rfl (bj rfl rfl (gk (by decide))) (jm _ _)) (wK (by omega) (by omega))) rfl rfl))))))⟩
     . exact⟨z*999983%1000000000000,aa0 _ (by decide),aaQ _ (by decide),λc P n S=>aX (Y:=E n (P (pen ns (k+2) c))) (st P n c S _ _ ((bM (t 0 _ _) (abU h0')).trans ((bM (t 1 _ _) (abU h1')).trans ((bM (t 2 _ _) (abU h2')).trans (cJ (bj (bj rfl rfl (Hd (by decide) (by decide))) (y:=.sh (.int 1000000000000)) rfl (gk (by decide))))))))⟩
theorem Vk {i:Int} (h0:0<=i) (h1:i<5):∃s:Str,sU (.str "+-*<=") (.int i)=zT s:=by
 have hl:("+-*<=" : Str).length<=100000:=by decide +kernel
 obtain⟨c,h2,_⟩:=jQ (l:=("+-*<=" : Str).cps.toList) (i:=i) h0 (by
  have:("+-*<=" : Str).cps.toList.length=5:=by decide +kernel
  omega)
 refine⟨⟨#[c]⟩,?_⟩;show (if ("+-*<=" : Str).length<=100000 then (dW ("+-*<=" : Str).cps.toList i).map λc=>Lc.sh (.str ⟨#[c]⟩) else none)=_;rw[abR hl,h2];rfl
def Bd:Nat->Int
 | 0=>3
 | d+1=>3+2*Bd d
theorem BP:∀d,3<=Bd d
 | 0=>by decide
 | d+1=>by have:=BP d; show 3<=3+2*Bd d; omega
theorem KD:∀{a b:Nat},a<=b->Bd a<=Bd b:=λ{a b} h=>by
 induction h with
 | refl=>exact Int.le_refl _
 | step _ ih=>rename_i m _; have:=BP m; show _<=3+2*Bd m; omega
abbrev fZ (fp fm:EF):EF:=aF aU (aj fp (aj fm ao))
theorem fW {ns:Sc} {k m:Int} (hn:ns.l.length<=63) (h0:0<=k) (h1:k<100000000) (hm:0<m):∃r,0<=r/\r<m/\∀P n c,Spot P n->∀(fp fm:EF) (vs:List (Option Lc)),(∀mu,fp ⟨vs,mu⟩=some (.sh (.ptr n),⟨vs,mu⟩))->(∀mu,fm ⟨vs,mu⟩=some (.sh (.int m),⟨vs,mu⟩))->
 fZ fp fm ⟨vs,P (pen ns k c)⟩=some (.sh (.int r),⟨vs,P (pen ns (k+1) c)⟩):=by
 obtain⟨r,r0,r1,e⟩:=yt hn h0 h1 hm;exact⟨r,r0,r1,λP n c S fp fm vs e1 e2=>aY (ps:=[.ptr n,.int m]) (aB (e1 _) (aB (e2 _) rfl)) rfl rfl rfl (e P n c S)⟩
abbrev uK (fp fl:EF):EF:=aN fl (fZ fp (eB dZ (aj fl ao)))
theorem Qa {ns:Sc} {k:Int} {L:List PV} (hn:ns.l.length<=63) (h0:0<=k) (h1:k<100000000) (hL:L≠[]):∃x∈L,∀P n c,Spot P n->∀(fp fl:EF) (vs:List (Option Lc)),(∀mu,fp ⟨vs,mu⟩=some (.sh (.ptr n),⟨vs,mu⟩))->(∀mu,fl ⟨vs,mu⟩=some (.sh (.lst L),⟨vs,mu⟩))->
 uK fp fl ⟨vs,P (pen ns k c)⟩=some (.sh x,⟨vs,P (pen ns (k+1) c)⟩):=by
 have hl:0<L.length:=List.length_pos_iff.mpr hL;obtain⟨r,r0,r1,e⟩:=fW (m:=(L.length:Int)) hn h0 h1 (by omega);obtain⟨x,h2,h3⟩:=jQ (l:=L) (i:=r) r0 r1;refine⟨x,aaw h3,λP n c S fp fl vs e1 e2=>?_⟩;exact dI (p:=.lst L) (q:=.int r) (l:=.sh (.lst L)) (m:=.sh (.int r)) (e2 _) rfl (e P n c S fp _ vs e1 λmu=>tR (ls:=[.sh (.lst L)]) (ps:=[.lst L]) (aB (e2 _) rfl) rfl rfl) rfl (λn h=>by cases h) (by show (dW L r).map _=_; rw[h2]; rfl)
structure Kn where
 nu:List Str
 li:List Str
 wh:List Str
 ca:List (Str×Nat)
abbrev lM (q:Str×Nat):PV:=.tup [.str q.1,.int (q.2:Nat)]
def Kn.pv (K:Kn):PV:=.lst [.lst (SS K.nu),.lst (SS K.li),.lst (SS K.wh),.lst (K.ca.map lM)]
theorem nF {ns:Sc} {k:Int} {L:List Str} (hn:ns.l.length<=63) (h0:0<=k) (h1:k<100000000) (hL:L≠[]):∃x∈L,∀P n c,Spot P n->∀(fp fl:EF) (vs:List (Option Lc)),(∀mu,fp ⟨vs,mu⟩=some (.sh (.ptr n),⟨vs,mu⟩))->(∀mu,fl ⟨vs,mu⟩=some (wS L,⟨vs,mu⟩))->
 uK fp fl ⟨vs,P (pen ns k c)⟩=some (.sh (.str x),⟨vs,P (pen ns (k+1) c)⟩):=by
 obtain⟨x,hx,e⟩:=Qa (L:=SS L) hn h0 h1 (by simpa using hL);obtain⟨y,hy,rfl⟩:=aar.mp hx;exact⟨y,hy,e⟩
theorem Qc {fl:EF} {Y:Ev} {L:List PV} (h:fl Y=some (.sh (.lst L),Y)):tT (aC eqP fl (bH ao)) aV Y=some (L.isEmpty,Y):=by
 refine eF (l:=.sh (.bl L.isEmpty)) (p:=.bl L.isEmpty) (bj (x:=.sh (.lst L)) (y:=.own (.lst [])) h rfl ?_) rfl rfl;show (cu 150 (.lst L) (.lst [])).map _=_;cases L with
 | nil=>rfl
 | cons a t=>rfl
theorem BR {fl:EF} {Y:Ev} {L:List PV} (h:fl Y=some (.sh (.lst L),Y)):tT (aC mC fl (bH ao)) aV Y=some (!L.isEmpty,Y):=by
 refine eF (l:=.sh (.bl (!L.isEmpty))) (p:=.bl (!L.isEmpty)) (bj (x:=.sh (.lst L)) (y:=.own (.lst [])) h rfl ?_) rfl rfl;show (cu 150 (.lst L) (.lst [])).map _=_;cases L with
 | nil=>rfl
 | cons a t=>rfl
abbrev XE (n:Nat) (d:Int) (K:PV) (w:Int) (o4 o5 o6:Option Lc):List (Option Lc):=[yS (.ptr n),zI d,yS K,zI w,o4,o5,o6]
def Xp (d:Nat) (p:PV):Prop:=dz p=true/\xH p<=d+1
theorem YF {d:Nat} {x:Str} {p:PV} (h:Xp d p):Xp (d+1) (.tup [.str "@",.str x,p]):=by
 obtain⟨h1,h2⟩:=h;refine⟨?_,?_⟩
 . show (true&&(true&&(dz p&&true)))=true;rw[h1]; rfl
 . show max 1 (max 1 (max (xH p) 0))+1<=d+1+1;omega
theorem YG {d e:Nat} {x:Str} {p q:PV} (h:Xp d p) (g:Xp e q) (he:e<=d):Xp (d+1) (.tup [.str x,p,q])/\Xp (d+1) (.tup [.str x,q,p]):=by
 obtain⟨h1,h2⟩:=h;obtain⟨g1,g2⟩:=g;refine⟨⟨?_,?_⟩,?_,?_⟩
 . show (true&&(dz p&&(dz q&&true)))=true;rw[h1,g1]; rfl
 . show max 1 (max (xH p) (max (xH q) 0))+1<=d+1+1;omega
 . show (true&&(dz q&&(dz p&&true)))=true;rw[h1,g1]; rfl
 . show max 1 (max (xH q) (max (xH p) 0))+1<=d+1+1;omega
abbrev xN (i:Int):EF:=aN (aa 2) (adE i)
theorem Iz {ns:Sc} {K:Kn} (hn:ns.l.length<=63) (d:Nat):∀(f:Nat) (k:Int),1<=d->d<=f->0<=k->k+Bd d<99999999->∃(p:PV) (k':Int),Xp d p/\k<=k'/\k'<=k+Bd d/\∀c,Dr ns (λn mu=>bW f [.ptr n,.int (d:Int),K.pv] mu) k c k' c (.sh p):=by
 induction d using Nat.strongRecOn with
 | _ d IH=>
  intro f k h1 hf h0 hb;obtain⟨g,rfl⟩:∃g,f=g+1:=⟨f-1,by omega⟩;have bp:=BP d;obtain⟨w,w0,w1,ew⟩:=fW (m:=9) hn h0 (by omega) (by decide);let E:Nat->Option Lc->Option Lc->Option Lc->Mu->Ev:=λn o4 o5 o6 mu=>⟨XE n d K.pv w o4 o5 o6,mu⟩;have st:∀P n c,Spot P n->aK 3 (fZ (aa 0) (adE 9)) (env0 7 [.ptr n,.int (d:Int),K.pv] (P (pen ns k c)))=some (.nx (E n none none none (P (pen ns (k+1) c)))):=λP n c S=>aZ (ew P n c S _ _ _ (λ_=>rfl) λ_=>rfl) rfl rfl;have t1:∀n mu,mj (tT (aC iV (aa 1) (adE 2)) aV) (tT (aC iV (aa 3) (adE 2)) aV) (E n none none none mu)=some (decide ((d:Int)<2)||decide (w<2),E n none none none mu):=λn mu=>sW rfl rfl;have t2:∀n mu o4 o5 o6,tT (aC eqP (aC eQ (aa 3) (adE 2)) (adE 0)) aV (E n o4 o5 o6 mu)=some (decide (w%2=0),E n o4 o5 o6 mu):=λn mu o4 o5 o6=>vD (bj rfl rfl (gk (by decide)));have kn0:∀n o4 o5 o6 mu,xN 0 (E n o4 o5 o6 mu)=some (.sh (.lst (SS K.nu)),E n o4 o5 o6 mu):=λn o4 o5 o6 mu=>rfl;have kn1:∀n o4 o5 o6 mu,xN 1 (E n o4 o5 o6 mu)=some (.sh (.lst (SS K.li)),E n o4 o5 o6 mu):=λn o4 o5 o6 mu=>rfl;cases hA:(decide ((d:Int)<2)||decide (w<2)) with
  | true=>
   by_cases hw:(decide (w%2=0)||(SS K.nu).isEmpty)=true
   . obtain⟨v,v0,v1,ev⟩:=P0 (k:=k+1) hn (by omega) (by omega);refine⟨.tup [.str "num",.int v],k+1+2,⟨rfl,by show 2<=d+1; omega⟩,by omega,by omega,λc P n S=>aX (Y:=E n none none none (P (pen ns (k+1+2) c))) (aD (st P n c S) (dO (t1 _ _) hA ?_))⟩;exact dO (sW (t2 _ _ _ _ _) (Qc (kn0 _ _ _ _ _))) hw (cJ (dG (ls:=[.sh (.str "num"),.sh (.int v)]) (aB rfl (aB (aY (ps:=[.ptr n]) (ls:=[.sh (.ptr n)]) (Y1:=E n none none none (P (pen ns (k+1) c))) rfl rfl rfl rfl (ev c P n S)) rfl)) rfl rfl))
   . have hw':(decide (w%2=0)||(SS K.nu).isEmpty)=false:=by simpa using hw
     have hne:K.nu≠[]:=λh=>by rw[h]at hw'; simp at hw'
     obtain⟨x,hx,ex⟩:=nF (k:=k+1) hn (by omega) (by omega) hne;refine⟨.tup [.str "box",.str x],k+1+1,⟨rfl,by show 2<=d+1; omega⟩,by omega,by omega,λc P n S=>aX (Y:=E n none none none (P (pen ns (k+1+1) c))) (aD (st P n c S) (dO (t1 _ _) hA ?_))⟩;exact(bM (sW (t2 _ _ _ _ _) (Qc (kn0 _ _ _ _ _))) hw').trans (cJ (dG (ls:=[.sh (.str "box"),.sh (.str x)]) (aB rfl (aB (ex P n c S _ _ _ (λ_=>rfl) λmu=>kn0 _ _ _ _ mu) rfl)) rfl rfl))
  | false=>
   have hd:¬ (d:Int)<2:=λh=>by rw[abV h]at hA; simp at hA
   obtain⟨d',rfl⟩:∃d',d=d'+1:=⟨d-1,by omega⟩;have bs:Bd (d'+1)=3+2*Bd d':=rfl;obtain⟨e,k1,ok1,ka,kb,ee⟩:=IH d' (by omega) g (k+1) (by omega) (by omega) (by omega) (by omega);have ed:((d'+1:Nat):Int)-1=(d':Int):=by omega
   have st4:∀P n c,Spot P n->aK 4 (aF (bW g) (aj (aa 0) (aj (aC ik (aa 1) (adE 1)) (aj (aa 2) ao)))) (E n none none none (P (pen ns (k+1) c)))=some (.nx (E n (yS e) none none (P (pen ns k1 c)))):=λP n c S=>by have e3:=ee c P n S;rw[<-ed]at e3;exact aZ (aY (ps:=[.ptr n,.int (((d'+1:Nat):Int)-1),K.pv]) (ls:=[.sh (.ptr n),.sh (.int (((d'+1:Nat):Int)-1)),.sh K.pv]) (Y1:=E n none none none (P (pen ns (k+1) c))) rfl rfl rfl rfl e3) rfl rfl
   have t3:∀n mu,cQ (tT (aC iV (aa 3) (adE 4)) aV) (tT (aC mC (aN (aa 2) (adE 1)) (bH ao)) aV) (E n (yS e) none none mu)=some (decide (w<4)&&!(SS K.li).isEmpty,E n (yS e) none none mu):=λn mu=>nO rfl (BR (kn1 _ _ _ _ _));by_cases hw4:(decide (w<4)&&!(SS K.li).isEmpty)=true
   . have hne:K.li≠[]:=λh=>by rw[h]at hw4; simp at hw4
     obtain⟨x,hx,ex⟩:=nF (k:=k1) hn (by omega) (by omega) hne;refine⟨.tup [.str "@",.str x,e],k1+1,YF ok1,by omega,by omega,λc P n S=>aX (Y:=E n (yS e) none none (P (pen ns (k1+1) c))) (aD (st P n c S) ((bM (t1 _ _) hA).trans (aD (st4 P n c S) (dO (t3 _ _) hw4 (cJ ?_)))))⟩;exact dG (ls:=[.sh (.str "@"),.sh (.str x),.sh e]) (aB rfl (aB (ex P n c S _ _ _ (λ_=>rfl) λmu=>kn1 _ _ _ _ mu) (aB rfl rfl))) rfl rfl
   . have hw4':(decide (w<4)&&!(SS K.li).isEmpty)=false:=by simpa using hw4
     have bm:=KD (a:=min d' 2) (b:=d') (by omega);have bp':=BP d';obtain⟨e',k2,ok2,ka2,kb2,ee2⟩:=IH (min d' 2) (by omega) g k1 (by omega) (by omega) (by omega) (by omega);obtain⟨r,r0,r1,er⟩:=fW (m:=5) (k:=k2) hn (by omega) (by omega) (by decide);obtain⟨s,es⟩:=Vk r0 r1;have mn:∀n mu,eB min2 (aj (aC ik (aa 1) (adE 1)) (aj (adE 2) ao)) (E n (yS e) none none mu)=some (.sh (.int ((min d' 2:Nat):Int)),E n (yS e) none none mu):=λn mu=>by
      refine tR (ls:=[.sh (.int (((d'+1:Nat):Int)-1)),.sh (.int 2)]) (ps:=[.int (((d'+1:Nat):Int)-1),.int 2]) rfl rfl ?_;show some (Lc.sh (.int (if (2:Int)<((d'+1:Nat):Int)-1 then 2 else ((d'+1:Nat):Int)-1)))=_;have:(if (2:Int)<((d'+1:Nat):Int)-1 then 2 else ((d'+1:Nat):Int)-1)=((min d' 2:Nat):Int):=by split<;>omega
      rw[this]
     have st5:∀P n c,Spot P n->aK 5 (aF (bW g) (aj (aa 0) (aj (eB min2 (aj (aC ik (aa 1) (adE 1)) (aj (adE 2) ao))) (aj (aa 2) ao)))) (E n (yS e) none none (P (pen ns k1 c)))=some (.nx (E n (yS e) (yS e') none (P (pen ns k2 c)))):=λP n c S=>
      aZ (aY (ps:=[.ptr n,.int ((min d' 2:Nat):Int),K.pv]) (ls:=[.sh (.ptr n),.sh (.int ((min d' 2:Nat):Int)),.sh K.pv]) (Y1:=E n (yS e) none none (P (pen ns k1 c))) (aB rfl (aB (mn _ _) (aB rfl rfl))) rfl rfl rfl (ee2 c P n S)) rfl rfl
     have st6:∀P n c,Spot P n->aK 6 (aN (adF "+-*<=") (aF aU (aj (aa 0) (aj (adE 5) ao)))) (E n (yS e) (yS e') none (P (pen ns k2 c)))=some (.nx (E n (yS e) (yS e') (zT s) (P (pen ns (k2+1) c)))):=λP n c S=>
      aZ (dI (p:=.str "+-*<=") (q:=.int r) (l:=.sh (.str "+-*<=")) (m:=.sh (.int r)) (Y1:=E n (yS e) (yS e') none (P (pen ns k2 c))) rfl rfl (er P n c S _ _ _ (λ_=>rfl) λ_=>rfl) rfl (λn h=>by cases h) es) rfl rfl
     obtain⟨x1,x2⟩:=YG (x:=s) ok1 ok2 (by omega);by_cases hw:w%2=0
     . exact⟨.tup [.str s,e',e],k2+1,x2,by omega,by omega,λc P n S=>aX (Y:=E n (yS e) (yS e') (zT s) (P (pen ns (k2+1) c))) (aD (st P n c S) ((bM (t1 _ _) hA).trans (aD (st4 P n c S) ((bM (t3 _ _) hw4').trans (aD (st5 P n c S) (aD (st6 P n c S) (dO (t2 _ _ _ _ _) (abV hw) rfl)))))))⟩
     . exact⟨.tup [.str s,e,e'],k2+1,x1,by omega,by omega,λc P n S=>aX (Y:=E n (yS e) (yS e') (zT s) (P (pen ns (k2+1) c))) (aD (st P n c S) ((bM (t1 _ _) hA).trans (aD (st4 P n c S) ((bM (t3 _ _) hw4').trans (aD (st5 P n c S) (aD (st6 P n c S) ((bM (t2 _ _ _ _ _) (abU hw)).trans rfl)))))))⟩
theorem Tp {d:Nat} {p:PV} (h:Xp d p) (hd:d<=6):fl p:=⟨h.1,by have:=h.2; omega⟩
theorem Tq {ns:Sc} {K:Kn} (hn:ns.l.length<=63) {k:Int} (h0:0<=k) (h1:k<99000000):∃(p:PV) (k':Int),fl p/\k<=k'/\k'<=k+21/\∀c,Dr ns (λn mu=>bW 40 [.ptr n,.int 2,K.pv] mu) k c k' c (.sh p):=by have b2:Bd 2=21:=rfl;obtain⟨p,k',hp,ka,kb,e⟩:=Iz (ns:=ns) (K:=K) hn 2 40 k (by decide) (by decide) h0 (by omega);exact⟨p,k',Tp hp (by decide),ka,by omega,e⟩
theorem Vl {ns:Sc} {K:Kn} (hn:ns.l.length<=63) {k:Int} (h0:0<=k) (h1:k<99000000):∃(p:PV) (k':Int),fl p/\k<=k'/\k'<=k+383/\∀c,Dr ns (λn mu=>mF [.ptr n,K.pv] mu) k c k' c (.sh p):=by
 obtain⟨a,a0,a1,ea⟩:=fW (ns:=ns) (m:=3) hn h0 (by omega) (by decide);obtain⟨b,b0,b1,eb⟩:=fW (ns:=ns) (m:=9) (k:=k+1) hn (by omega) (by omega) (by decide);have e2:k+1+1=k+2:=by omega
 rw[e2]at eb;have q0:0<=b/8/\b/8<=1:=by omega
 obtain⟨d,hd⟩:∃d:Nat,(d:Int)=1+a+3*(b/8):=⟨(1+a+3*(b/8)).toNat,by omega⟩;have bd:=KD (a:=d) (b:=6) (by omega);have b6:Bd 6=381:=rfl;obtain⟨p,k',ok,ka,kb,ee⟩:=Iz (ns:=ns) (K:=K) hn d 40 (k+2) (by omega) (by omega) (by omega) (by omega);refine⟨p,k',Tp ok (by omega),by omega,by omega,λc P n S=>aX (Y:=⟨[yS (.ptr n),yS K.pv],P (pen ns k' c)⟩) (cJ ?_)⟩;let E:Int->Ev:=λk=>⟨[yS (.ptr n),yS K.pv],P (pen ns k c)⟩;have n1:fZ (aa 0) (adE 3) (E k)=some (.sh (.int a),E (k+1)):=ea P n c S _ _ _ (λ_=>rfl) λ_=>rfl;have n2:fZ (aa 0) (adE 9) (E (k+1))=some (.sh (.int b),E (k+2)):=eb P n c S _ _ _ (λ_=>rfl) λ_=>rfl;have dd:aC bh (aC bh (adE 1) (fZ (aa 0) (adE 3))) (aC gU (adE 3) (aC sS (fZ (aa 0) (adE 9)) (adE 8))) (E k)=some (.sh (.int (d:Int)),E (k+2)):=by rw[hd];exact bj (x:=.sh (.int (1+a))) (y:=.sh (.int (3*(b/8)))) (bj (x:=.sh (.int 1)) (y:=.sh (.int a)) rfl n1 (jm _ _)) (bj (x:=.sh (.int 3)) (y:=.sh (.int (b/8))) rfl (bj (x:=.sh (.int b)) (y:=.sh (.int 8)) n2 rfl (wK (by decide) (by decide))) (rE (by decide) (by decide))) (jm _ _)
 exact aY (ps:=[.ptr n,.int (d:Int),K.pv]) (ls:=[.sh (.ptr n),.sh (.int (d:Int)),.sh K.pv]) (Y1:=E (k+2)) (aB (Y1:=E k) rfl (aB dd (aB rfl rfl))) rfl rfl rfl (ee c P n S)
theorem nG {b:Int} {m:Nat}:b*((m+1:Nat):Int)=b*(m:Int)+b:=by rw[Int.natCast_succ,Int.mul_add,Int.mul_one]
theorem tO {α:Type} {ns:Sc} (img:α->PV) (good:α->Prop) (b:Int) (hb:0<=b) (te:EF) (A:Nat->List (Option Lc)) (K:Int)
 (H:∀k,0<=k->k<=K->∃(a:α) (k':Int),good a/\k<=k'/\k'<=k+b/\∀P n c,Spot P n->∀o,∃l,te ⟨o::A n,P (pen ns k c)⟩=some (l,⟨o::A n,P (pen ns k' c)⟩)/\l.pv=img a):
 ∀(m:Nat) (k:Int),0<=k->k+b*m<=K->∃(as:List α) (k':Int),as.length=m/\(∀a∈as,good a)/\k<=k'/\k'<=k+b*m/\∀P n c,Spot P n->∀o acc xs,xs.length=m->acc.length+m<=1000->dj (aA 0) bK te xs ⟨o::A n,P (pen ns k c)⟩ acc=some (acc++as.map img,P (pen ns k' c))
 | 0,k,h0,hK=>by refine⟨[],k,rfl,λa h=>(by cases h),by omega,by simp,λP n c S o acc xs hx _=>?_⟩;have:xs=[]:=List.length_eq_zero_iff.mp hx;subst this;simp[dj]
 | m+1,k,h0,hK=>by
  rw[nG]at hK;have bm:0<=b*(m:Int):=Int.mul_nonneg hb (by omega);obtain⟨a,k1,ga,ka,kb,ea⟩:=H k h0 (by omega);obtain⟨as,k2,hl,hg,kc,kd,ih⟩:=tO img good b hb te A K H m k1 (by omega) (by omega);refine⟨a::as,k2,by simp[hl],λy hy=>?_,by omega,by rw[nG]; omega,λP n c S o acc xs hx hacc=>?_⟩
  . rcases aah.mp hy with rfl | hy
    . exact ga
    . exact hg y hy
  . match xs,hx with
    | x::xs,hx=>
     obtain⟨l,e1,e2⟩:=ea P n c S (yS x);have e3:=ih P n c S (yS x) (acc++[img a]) xs (by simpa using hx) (by simp; omega);show (te ⟨yS x::A n,P (pen ns k c)⟩).bind (λv=>if acc.length<100000 then dj (aA 0) bK te xs v.2 (acc++[v.1.pv]) else none)=_;rw[e1,aaa,abR (by omega)];dsimp only;rw[e2,e3];simp
structure Kn.ok (K:Kn):Prop where
 nu:K.nu≠[]
 ca:∀q∈K.ca,q.1.length<=1000/\q.2<=10
structure ZW (ns:Sc) (j:Nat) (r:Row) (k c k' c':Int):Prop where
 ok:r.ok
 out:∀x∈r.fl,qJ x
 dep:r.dep<=2*j+1
 cnt:c'=c+(r.cnt:Int)
 le:c'<=ns.m
 ka:k<=k'
 kb:k'+1000<=k+2000*(c'-c)
structure Tr (ns:Sc) (j:Nat) (r:Rows) (k c k' c':Int):Prop where
 ok:r.ok
 out:∀x∈r.fl,qJ x
 dep:r.dep<=2*j+2
 cnt:c'=c+(r.cnt:Int)
 le:c'<=ns.m
 ka:k<=k'
 kb:k'<=k+2000*(c'-c)+1
def Mv (ns:Sc) (j:Nat) (F:Nat->Mu->Option (Lc×Mu)) (k c:Int):Prop:=∃(r:Row) (k' c':Int),Dr ns F k c k' c' (.sh r.pv)/\ZW ns j r k c k' c'
def Mw (ns:Sc) (j:Nat) (F:Nat->Mu->Option (Lc×Mu)) (k c:Int):Prop:=∃(rs:Rows) (k' c':Int),Dr ns F k c k' c' (.own (.lst rs.pvs))/\Tr ns j rs k c k' c'
abbrev RE (n:Nat) (d:Int) (K:PV) (w:Int) (one:PV) (o5 o6 o7 o8:Option Lc) (mu:Mu):Ev:=⟨[yS (.ptr n),zI d,yS K,zI w,yS one,o5,o6,o7,o8],mu⟩
theorem zF {w:Str} {ps:List PV} (h:w = "out" -> ∃a e x,ps=[a,e,.str x]):∀x∈(Row.leaf w ps).fl,qJ x:=λx hx=>by rw[aaF.mp hx]; exact h
theorem KH {ns:Sc} {K:Kn} {f j:Nat} {d:Int} (hn:ns.l.length<=63) (hK:K.ok) (H:d<4->∀k c,0<=k->0<=c->c<=ns.m->k+1+2000*(ns.m-c)<=50000000->1<=j/\Mw ns (j-1) (λn mu=>cL f [.ptr n,.int (d+1),K.pv,.int 4] mu) k c) {k c:Int} (hk:0<=k) (h0:0<=c) (hc:c<ns.m) (hb:k+2000*(ns.m-c)<=50000000):
 Mv ns j (λn mu=>gJ (f+1) [.ptr n,.int d,K.pv] mu) k c:=by
 obtain⟨w,hw0,hw1,ew⟩:=fW (ns:=ns) (k:=k) (m:=12) hn hk (by omega) (by decide);obtain⟨one,k1,ox,ka,kb,eo⟩:=Vl (ns:=ns) (K:=K) (k:=k+1) hn (by omega) (by omega);let E:Nat->Option Lc->Option Lc->Option Lc->Option Lc->Mu->Ev:=λn o5 o6 o7 o8 mu=>RE n d K.pv w one o5 o6 o7 o8 mu;have head:∀(P:PV->Mu) (n:Nat),Spot P n->∀(g:SF) R,g (E n none none none none (P (pen ns k1 (c+1))))=R->(aG (pH (aa 0) (adE 2) (aC bh (aN (aa 0) (adE 2)) (adE 1))) (aG (aK 3 (fZ (aa 0) (adE 12))) (aG (aK 4 (aF mF (aj (aa 0) (aj (aa 2) ao)))) g))) (env0 9 [.ptr n,.int d,K.pv] (P (pen ns k c)))=R:=λP n S g R hg=>by let V:=[some (Lc.sh (.ptr n)),zI d,yS K.pv,none,none,none,none,none,none];refine aD (Y':=⟨V,P (pen ns k (c+1))⟩) ?_ (aD (Y':=⟨[yS (.ptr n),zI d,yS K.pv,zI w,none,none,none,none,none],P (pen ns (k+1) (c+1))⟩) (aZ (ew P n (c+1) S _ _ V (λ_=>rfl) λ_=>rfl) rfl rfl) (aD (Y':=E n none none none none (P (pen ns k1 (c+1)))) (aZ (aY (ps:=[.ptr n,K.pv]) rfl rfl rfl rfl (eo (c+1) P n S)) rfl rfl) hg));refine(Cu (x:=.sh (.int (c+1))) (j:=2) (n:=n) (k:=2) (o:=.sh (.ptr n)) (y:=.sh (.int 2)) (Y1:=⟨V,P (pen ns k c)⟩) (Y2:=⟨V,P (pen ns k c)⟩) (Y3:=⟨V,P (pen ns k c)⟩) (bj (x:=.sh (.int c)) (y:=.sh (.int 1)) (Y1:=⟨V,P (pen ns k c)⟩) (rH (n:=n) (k:=2) (l:=.sh (.ptr n)) (m:=.sh (.int 2)) (Y1:=⟨V,P (pen ns k c)⟩) rfl rfl rfl rfl (S.g _) rfl) rfl rfl) rfl rfl rfl rfl rfl (S.g _) rfl).trans ?_;show some (Fl.nx ⟨_,(P (pen ns k c)).set n (some (pen ns k (c+1)))⟩)=_;rw[S.s]
 have kn:∀(i:Int) (L:List PV),dW [PV.lst (SS K.nu),.lst (SS K.li),.lst (SS K.wh),.lst (K.ca.map lM)] i=some (PV.lst L)->∀n o5 o6 o7 o8 mu,xN i (E n o5 o6 o7 o8 mu)=some (.sh (.lst L),E n o5 o6 o7 o8 mu):=λi L h n o5 o6 o7 o8 mu=>
  dI (p:=.lst [.lst (SS K.nu),.lst (SS K.li),.lst (SS K.wh),.lst (K.ca.map lM)]) (q:=.int i) (l:=.sh K.pv) (m:=.sh (.int i)) rfl rfl rfl rfl (λn h=>by cases h) (by show (dW [PV.lst (SS K.nu),.lst (SS K.li),.lst (SS K.wh),.lst (K.ca.map lM)] i).map _=_; rw[h]; rfl)
 have kn0:=kn 0 (SS K.nu) at0;have kn1:=kn 1 (SS K.li) rfl;have kn2:=kn 2 (SS K.wh) at2;have kn3:=kn 3 (K.ca.map lM) Py;have tq:∀(i:Int) n mu,cQ (tT (aC iV (aa 1) (adE 4)) aV) (tT (aC iV (aa 3) (adE i)) aV) (E n none none none none mu)=some (decide (d<4)&&decide (w<i),E n none none none none mu):=λi n mu=>nO rfl rfl;have rc:∀(P:PV->Mu) n,Spot P n->∀o5 k c k' c' (rs:Rows),Dr ns (λn mu=>cL f [.ptr n,.int (d+1),K.pv,.int 4] mu) k c k' c' (.own (.lst rs.pvs))->aF (cL f) (aj (aa 0) (aj (aC bh (aa 1) (adE 1)) (aj (aa 2) (aj (adE 4) ao)))) (E n o5 none none none (P (pen ns k c)))=some (.own (.lst rs.pvs),E n o5 none none none (P (pen ns k' c'))):=λP n S o5 k c k' c' rs h=>
  aY (ps:=[.ptr n,.int (d+1),K.pv,.int 4]) (ls:=[.sh (.ptr n),.sh (.int (d+1)),.sh K.pv,.sh (.int 4)]) (Y1:=E n o5 none none none (P (pen ns k c))) rfl rfl rfl rfl (h P n S)
 cases hA:(decide (d<4)&&decide (w<3)) with
 | true=>
  have hd:d<4:=by rw[aaA]at hA; exact of_decide_eq_true hA.1
  obtain⟨hj,ra,k2,c2,e1,ga⟩:=H hd k1 (c+1) (by omega) (by omega) (by omega) (by omega);obtain⟨g1,g2,g3,g4,g5,g6,g7⟩:=ga;obtain⟨_,rb,k3,c3,e2,gb⟩:=H hd k2 c2 (by omega) (by omega) g5 (by omega);obtain⟨q1,q2,q3,q4,q5,q6,q7⟩:=gb;refine⟨.iff one ra rb,k3,c3,λP n S=>?_,⟨ox,g1,q1⟩,λx hx=>?_,by simp only[Row.dep]; omega,by simp only[Row.cnt]; omega,q5,by omega,by omega⟩
  . refine aX (Y:=E n (yL ra.pvs) none none none (P (pen ns k3 c3))) (head P n S _ _ (dO (tq 3 n _) hA ?_));refine aD (Y':=E n (yO ra.pvs) none none none (P (pen ns k2 c2))) (aZ (rc P n S none k1 (c+1) k2 c2 ra e1) rfl rfl) (cJ ?_);exact dG (ls:=[.sh (.str "if"),.sh one,.sh (.lst ra.pvs),.own (.lst rb.pvs)]) (aB (Y1:=E n (yO ra.pvs) none none none (P (pen ns k2 c2))) rfl (aB (Y1:=E n (yO ra.pvs) none none none (P (pen ns k2 c2))) rfl (aB (Y1:=E n (yL ra.pvs) none none none (P (pen ns k2 c2))) rfl (aB (rc P n S _ k2 c2 k3 c3 rb e2) rfl)))) rfl rfl
  . simp only[Row.fl]at hx;rcases aah.mp hx with rfl | hx
    . trivial
    rcases aaH.mp hx with hx | hx
    . exact g2 x hx
    . exact q2 x hx
 | false=>
  cases hB:(decide (d<4)&&decide (w<5)) with
  | true=>
   have hd:d<4:=by rw[aaA]at hB; exact of_decide_eq_true hB.1
   obtain⟨hj,ra,k2,c2,e1,ga⟩:=H hd k1 (c+1) (by omega) (by omega) (by omega) (by omega);obtain⟨g1,g2,g3,g4,g5,g6,g7⟩:=ga;refine⟨.wh one ra,k2,c2,λP n S=>?_,⟨ox,g1⟩,λx hx=>?_,by simp only[Row.dep]; omega,by simp only[Row.cnt]; omega,g5,by omega,by omega⟩
   . refine aX (Y:=E n none none none none (P (pen ns k2 c2))) (head P n S _ _ ((bM (tq 3 n _) hA).trans (dO (tq 5 n _) hB (cJ ?_))));exact dG (ls:=[.sh (.str "while"),.sh one,.own (.lst ra.pvs)]) (aB (Y1:=E n none none none none (P (pen ns k1 (c+1)))) rfl (aB (Y1:=E n none none none none (P (pen ns k1 (c+1)))) rfl (aB (rc P n S _ k1 (c+1) k2 c2 ra e1) rfl))) rfl rfl
   . simp only[Row.fl]at hx;rcases aah.mp hx with rfl | hx
     . trivial
     . exact g2 x hx
  | false=>
   have t7:∀n mu,cQ (tT (aC iV (aa 3) (adE 7)) aV) (tT (aC mC (xN 1) (bH ao)) aV) (E n none none none none mu)=some (decide (w<7)&&!(SS K.li).isEmpty,E n none none none none mu):=λn mu=>nO rfl (BR (kn1 _ _ _ _ _ _));cases hC:(decide (w<7)&&!(SS K.li).isEmpty) with
   | true=>
    have hne:K.li≠[]:=λh=>by rw[h]at hC; simp at hC
    obtain⟨x,hx,exx⟩:=nF (ns:=ns) (k:=k1) hn (by omega) (by omega) hne;obtain⟨e2,k2,ox2,ka2,kb2,ee2⟩:=Tq (ns:=ns) (K:=K) (k:=k1+1) hn (by omega) (by omega);refine⟨.leaf "put" [.str x,e2,one],k2,c+1,λP n S=>?_,⟨⟨by decide +kernel,by decide +kernel,by decide +kernel⟩,jX xJ (jX ox2 (jX ox yo))⟩,zF (λh=>absurd h (by decide +kernel)),by show 1<=2*j+1; omega,by show c+1=c+((1:Nat):Int); omega,by omega,by omega,by omega⟩;refine aX (Y:=E n none none none none (P (pen ns k2 (c+1)))) (head P n S _ _ ((bM (tq 3 n _) hA).trans ((bM (tq 5 n _) hB).trans (dO (t7 n _) hC (cJ ?_)))));exact dG (ls:=[.sh (.str "put"),.sh (.str x),.sh e2,.sh one]) (aB (Y1:=E n none none none none (P (pen ns k1 (c+1)))) rfl (aB (exx P n (c+1) S _ _ _ (λ_=>rfl) λmu=>kn1 _ _ _ _ _ mu) (aB (aY (ps:=[.ptr n,.int 2,K.pv]) (ls:=[.sh (.ptr n),.sh (.int 2),.sh K.pv]) (Y1:=E n none none none none (P (pen ns (k1+1) (c+1)))) rfl rfl rfl rfl (ee2 (c+1) P n S)) rfl))) rfl rfl
   | false=>
    obtain⟨x,hx,exx⟩:=nF (ns:=ns) (k:=k1) hn (by omega) (by omega) hK.nu;have st6:∀(P:PV->Mu) n,Spot P n->aK 6 (uK (aa 0) (xN 0)) (E n none none none none (P (pen ns k1 (c+1))))=some (.nx (E n none (zT x) none none (P (pen ns (k1+1) (c+1))))):=λP n S=>aZ (exx P n (c+1) S _ _ _ (λ_=>rfl) λmu=>kn0 _ _ _ _ _ mu) rfl rfl;have lead:∀(P:PV->Mu) n,Spot P n->∀(f1 f2 f3 g:SF) R,g (E n none (zT x) none none (P (pen ns (k1+1) (c+1))))=R->(aG (pH (aa 0) (adE 2) (aC bh (aN (aa 0) (adE 2)) (adE 1))) (aG (aK 3 (fZ (aa 0) (adE 12))) (aG (aK 4 (aF mF (aj (aa 0) (aj (aa 2) ao)))) (aG (bN (cQ (tT (aC iV (aa 1) (adE 4)) aV) (tT (aC iV (aa 3) (adE 3)) aV)) f1 bA) (aG (bN (cQ (tT (aC iV (aa 1) (adE 4)) aV) (tT (aC iV (aa 3) (adE 5)) aV)) f2 bA) (aG (bN (cQ (tT (aC iV (aa 3) (adE 7)) aV) (tT (aC mC (xN 1) (bH ao)) aV)) f3 bA) (aG (aK 6 (uK (aa 0) (xN 0))) g))))))) (env0 9 [.ptr n,.int d,K.pv] (P (pen ns k c)))=R:=λP n S f1 f2 f3 g R hg=>head P n S _ R ((bM (tq 3 n _) hA).trans ((bM (tq 5 n _) hB).trans ((bM (t7 n _) hC).trans (aD (st6 P n S) hg))));have t8:∀n mu,cQ (tT (aC eqP (aa 3) (adE 7)) aV) (tT (aC mC (xN 2) (bH ao)) aV) (E n none (zT x) none none mu)=some (decide (w=7)&&!(SS K.wh).isEmpty,E n none (zT x) none none mu):=λn mu=>nO (vD rfl) (BR (kn2 _ _ _ _ _ _));have t9:∀n mu,cQ (tT (aC wH (aa 3) (adE 8)) aV) (tT (aC mC (xN 3) (bH ao)) aV) (E n none (zT x) none none mu)=some (decide (8<w)&&!(K.ca.map lM).isEmpty,E n none (zT x) none none mu):=λn mu=>nO rfl (BR (kn3 _ _ _ _ _ _));cases hD:(decide (w=7)&&!(SS K.wh).isEmpty) with
    | true=>
     have hne:K.wh≠[]:=λh=>by rw[h]at hD; simp at hD
     obtain⟨y,hy,ey⟩:=nF (ns:=ns) (k:=k1+1) hn (by omega) (by omega) hne;refine⟨.leaf "out" [.str x,one,.str y],k1+1+1,c+1,λP n S=>?_,⟨⟨by decide +kernel,by decide +kernel,by decide +kernel⟩,jX xJ (jX ox (jX xJ yo))⟩,zF (λ_=>⟨_,_,_,rfl⟩),by show 1<=2*j+1; omega,by show c+1=c+((1:Nat):Int); omega,by omega,by omega,by omega⟩;refine aX (Y:=E n none (zT x) none none (P (pen ns (k1+1+1) (c+1)))) (lead P n S _ _ _ _ _ (dO (t8 n _) hD (cJ ?_)));let E1:=E n none (zT x) none none (P (pen ns (k1+1) (c+1)));exact dG (ls:=[.sh (.str "out"),.sh (.str x),.sh one,.sh (.str y)]) (aB (Y1:=E1) rfl (aB (Y1:=E1) rfl (aB (Y1:=E1) rfl (aB (ey P n (c+1) S _ _ _ (λ_=>rfl) λmu=>kn2 _ _ _ _ _ mu) rfl)))) rfl rfl
    | false=>
     cases hE:(decide (8<w)&&!(K.ca.map lM).isEmpty) with
     | true=>
      have hne:K.ca.map lM≠[]:=λh=>by rw[h]at hE; simp at hE
      obtain⟨q,hq,eq⟩:=Qa (ns:=ns) (k:=k1+1) (L:=K.ca.map lM) hn (by omega) (by omega) hne;obtain⟨⟨y,m⟩,hm,rfl⟩:=aar.mp hq;obtain⟨hy,hm10⟩:=hK.ca _ hm;have hm10:m<=10:=hm10;obtain⟨es,k2,hl,hg,ka2,kb2,ec⟩:=tO (ns:=ns) id fl 21 (by decide) (aF (bW 40) (aj (aa 1) (aj (adE 2) (aj (aa 2) ao)))) (λn=>[yS (.ptr n),yS K.pv]) 98000000 (λk h0 h1=>by obtain⟨e,k',ox',ka',kb',ee⟩:=Tq (ns:=ns) (K:=K) (k:=k) hn h0 (by omega);exact⟨e,k',ox',ka',kb',λP n c S o=>⟨.sh e,aY (ps:=[.ptr n,.int 2,K.pv]) (ls:=[.sh (.ptr n),.sh (.int 2),.sh K.pv]) (Y1:=⟨[o,yS (.ptr n),yS K.pv],P (pen ns k c)⟩) rfl rfl rfl rfl (ee c P n S),rfl⟩⟩) m (k1+1+1) (by omega) (by omega)
      have hfs:∀l:List PV,(∀e∈l,fl e)->Il l:=λl=>by
       induction l with
       | nil=>intro _; exact yo
       | cons a l ih=>intro h; exact jX (h a aab) (ih λx hx=>h x (aai _ hx))
      refine⟨.call (.str x) y es,k2,c+1,λP n S=>?_,⟨xJ,hy,hfs es hg,by omega⟩,λz hz=>by rw[aaF.mp hz]; trivial,by show 1<=2*j+1; omega,by show c+1=c+((1:Nat):Int); omega,by omega,by omega,by omega⟩;let E2:=E n none (zT x) (zT y) (zI (m:Nat)) (P (pen ns (k1+1+1) (c+1)));have s7:nJ (uK (aa 0) (xN 3)) (b7 2 (aJ (aA 7) (aJ (aA 8) bZ))) (E n none (zT x) none none (P (pen ns (k1+1) (c+1))))=some (.nx E2):=by unfold nJ;rw[show uK (aa 0) (xN 3) (E n none (zT x) none none (P (pen ns (k1+1) (c+1))))=some (.sh (lM (y,m)),E n none (zT x) none none (P (pen ns (k1+1+1) (c+1)))) from eq P n (c+1) S _ _ _ (λ_=>rfl) λmu=>kn3 _ _ _ _ _ mu];rfl
      have ir:=ji (a:=aj (aa 8) ao) (Y:=E2) (Y1:=E2) (l:=.sh (.int (m:Nat))) (n:=(m:Nat)) rfl rfl (by omega) (by omega);have cc:bJ (fQ (aj (aa 8) ao)) 1 [0,2] (aA 0) bK (aF (bW 40) (aj (aa 1) (aj (adE 2) (aj (aa 2) ao)))) E2=some (.own (.lst es),E n none (zT x) (zT y) (zI (m:Nat)) (P (pen ns k2 (c+1)))):=by have:=(cM (m:=1) (ixs:=[0,2]) ir (ec P n (c+1) S none [] (mq 0 (m:Int).toNat) (by rw[yd]; omega) (by simp; omega)));simp only[aaE,List.map_id]at this;exact this
      refine aX (Y:=E n none (zT x) (zT y) (zI (m:Nat)) (P (pen ns k2 (c+1)))) (lead P n S _ _ _ _ _ ((bM (t8 n _) hD).trans (dO (t9 n _) hE (aD s7 (cJ ?_)))));exact dG (ls:=[.sh (.str "call"),.sh (.str x),.sh (.str y),.own (.lst es)]) (aB (Y1:=E2) rfl (aB (Y1:=E2) rfl (aB (Y1:=E2) rfl (aB cc rfl)))) rfl rfl
     | false=>
      refine⟨.leaf "set" [.str x,one],k1+1,c+1,λP n S=>?_,⟨⟨by decide +kernel,by decide +kernel,by decide +kernel⟩,jX xJ (jX ox yo)⟩,zF (λh=>absurd h (by decide +kernel)),by show 1<=2*j+1; omega,by show c+1=c+((1:Nat):Int); omega,by omega,by omega,by omega⟩;exact aX (Y:=E n none (zT x) none none (P (pen ns (k1+1) (c+1)))) (lead P n S _ _ _ _ _ ((bM (t8 n _) hD).trans ((bM (t9 n _) hE).trans rfl)))
abbrev Tf (f:Nat):SF:=bN (tT (aC iV (aN (aa 0) (adE 2)) (aN (aa 0) (adE 3))) aV) (fX 4 (aF (gJ f) (aj (aa 0) (aj (aa 1) (aj (aa 2) ao))))) bA
abbrev W6 (n:Nat) (d:Int) (K:PV) (most:PV) (l o:Option Lc) (mu:Mu):Ev:=⟨[yS (.ptr n),zI d,yS K,yS most,l,o],mu⟩
theorem xO {ns:Sc} {K:Kn} {f j:Nat} {d:Int} {most:PV} (H:∀k c,0<=k->0<=c->c<ns.m->k+2000*(ns.m-c)<=50000000->Mv ns j (λn mu=>gJ f [.ptr n,.int d,K.pv] mu) k c):
 ∀(m:Nat) (k c:Int),0<=k->0<=c->c<=ns.m->k+2000*(ns.m-c)<=50000000->∃(rs:Rows) (k' c':Int),Tr ns j rs k c k' c'/\k'<=k+2000*(c'-c)/\∀P n,Spot P n->∀acc o xs,xs.length=m->acc.length+m<=1000->
  ∃o',cU (aA 5) (Tf f) xs (W6 n d K.pv most (yO acc) o (P (pen ns k c)))=some (.nx (W6 n d K.pv most (yO (acc++rs.pvs)) o' (P (pen ns k' c'))))
 | 0,k,c,hk,h0,hc,hb=>by refine⟨.nil,k,c,⟨trivial,λx hx=>(by cases hx),by show 1<=2*j+2; omega,by show c=c+((0:Nat):Int); omega,hc,by omega,by omega⟩,by omega,λP n S acc o xs hx _=>?_⟩;have:xs=[]:=List.length_eq_zero_iff.mp hx;subst this;exact⟨o,by simp[cU,Rows.pvs]⟩
 | m+1,k,c,hk,h0,hc,hb=>by
  have t:∀P n,Spot P n->∀acc o,tT (aC iV (aN (aa 0) (adE 2)) (aN (aa 0) (adE 3))) aV (W6 n d K.pv most (yO acc) o (P (pen ns k c)))=some (decide (c<ns.m),W6 n d K.pv most (yO acc) o (P (pen ns k c))):=λP n S acc o=>by let E:=W6 n d K.pv most (yO acc) o (P (pen ns k c));exact eF (l:=.sh (.bl (decide (c<ns.m)))) (p:=.bl (decide (c<ns.m))) (bj (x:=.sh (.int c)) (y:=.sh (.int ns.m)) (Y1:=E) (rH (n:=n) (k:=2) (l:=.sh (.ptr n)) (m:=.sh (.int 2)) (Y1:=E) rfl rfl rfl rfl (S.g _) rfl) (rH (n:=n) (k:=3) (l:=.sh (.ptr n)) (m:=.sh (.int 3)) (Y1:=E) rfl rfl rfl rfl (S.g _) rfl) rfl) rfl rfl
  by_cases hp:c<ns.m
  . obtain⟨r,k1,c1,er,g1,g2,g3,g4,g5,g6,g7⟩:=H k c hk h0 hp hb;have hcp:=r.cnt_pos;obtain⟨rs,k2,c2,⟨q1,q2,q3,q4,q5,q6,_⟩,q8,ih⟩:=xO (most:=most) H m k1 c1 (by omega) (by omega) g5 (by omega);refine⟨.cons r rs,k2,c2,⟨⟨g1,q1⟩,λx hx=>?_,by simp only[Rows.dep]; omega,by simp only[Rows.cnt]; omega,q5,by omega,by omega⟩,by omega,λP n S acc o xs hx ha=>?_⟩
    . simp only[Rows.fl]at hx;rcases aaH.mp hx with hx | hx
      . exact g2 x hx
      . exact q2 x hx
    . match xs,hx with
      | x::xs,hx=>
       obtain⟨o',e'⟩:=ih P n S (acc++[r.pv]) (yS x) xs (by simpa using hx) (by simp; omega);let E:=W6 n d K.pv most (yO acc) (yS x) (P (pen ns k c));refine⟨o',dH (Y1:=E) rfl ((lV ((t P n S acc (yS x)).trans (by rw[abV hp]))).trans ?_) (e'.trans (by simp[Rows.pvs]))⟩;exact lE (ws0:=acc) (ws:=acc) (l:=.sh r.pv) (p:=r.pv) (Y1:=W6 n d K.pv most (yO acc) (yS x) (P (pen ns k1 c1))) rfl (aY (ps:=[.ptr n,.int d,K.pv]) (ls:=[.sh (.ptr n),.sh (.int d),.sh K.pv]) (Y1:=E) rfl rfl rfl rfl (er P n S)) rfl rfl (by omega) rfl
  . obtain⟨rs,k2,c2,g,q8,ih⟩:=xO (most:=most) H m k c hk h0 hc hb;refine⟨rs,k2,c2,g,q8,λP n S acc o xs hx ha=>?_⟩
    match xs,hx with
    | x::xs,hx=>
     obtain⟨o',e'⟩:=ih P n S acc (yS x) xs (by simpa using hx) (by omega);exact⟨o',dH (Y1:=W6 n d K.pv most (yO acc) (yS x) (P (pen ns k c))) rfl ((gm ((t P n S acc (yS x)).trans (by rw[abU hp]))).trans rfl) e'⟩
theorem IK {ns:Sc} {K:Kn} {f j:Nat} {d most:Int} (hn:ns.l.length<=63) (hm:0<most) (hm2:most<900) (H:∀k c,0<=k->0<=c->c<ns.m->k+2000*(ns.m-c)<=50000000->Mv ns j (λn mu=>gJ f [.ptr n,.int d,K.pv] mu) k c) {k c:Int} (hk:0<=k) (h0:0<=c) (hc:c<=ns.m) (hb:k+1+2000*(ns.m-c)<=50000000):
 Mw ns j (λn mu=>cL (f+1) [.ptr n,.int d,K.pv,.int most] mu) k c:=by
 obtain⟨w,hw0,hw1,ew⟩:=fW (ns:=ns) (k:=k) (m:=most) hn hk (by omega) hm;obtain⟨rs,k',c',⟨g1,g2,g3,g4,g5,g6,_⟩,g8,e⟩:=xO (most:=.int most) H w.toNat (k+1) c (by omega) h0 hc (by omega);refine⟨rs,k',c',λP n S=>?_,g1,g2,g3,g4,g5,by omega,by omega⟩;obtain⟨o',e'⟩:=e P n S [] none (mq 0 w.toNat) yd (by simp; omega);let E0:=W6 n d K.pv (.int most) (yO []) none (P (pen ns k c));have ir:=ji (a:=aj (fZ (aa 0) (aa 3)) ao) (Y:=E0) (Y1:=W6 n d K.pv (.int most) (yO []) none (P (pen ns (k+1) c))) (l:=.sh (.int w)) (n:=w) (aB (ew P n c S _ _ _ (λ_=>rfl) λ_=>rfl) rfl) rfl (by omega) (by omega);exact aX (Y:=⟨[yS (.ptr n),zI d,yS K.pv,zI most,none,o'],P (pen ns k' c')⟩) (aD (Y':=E0) rfl (aD ((JV ir).trans e') rfl))
theorem KJ {ns:Sc} {K:Kn} (hn:ns.l.length<=63) (hK:K.ok):∀(j f:Nat) (k c:Int),2*j+1<=f->0<=k->0<=c->c<ns.m->k+2000*(ns.m-c)<=50000000->Mv ns j (λn mu=>gJ f [.ptr n,.int (4-j),K.pv] mu) k c
 | 0,f+1,k,c,_,hk,h0,hc,hb=>KH hn hK (λh=>absurd h (by decide)) hk h0 hc hb
 | j+1,f+2,k,c,hf,hk,h0,hc,hb=>KH hn hK (λ_ k c a1 a2 a3 a4=>by refine⟨by omega,?_⟩;rw[show (4:Int)-((j+1:Nat):Int)+1=4-(j:Int) from by omega];exact IK hn (by decide) (by decide) (λk c=>KJ hn hK j f k c (by omega)) a1 a2 a3 a4) hk h0 hc hb
theorem IV {ns:Sc} {K:Kn} (hn:ns.l.length<=63) (hK:K.ok) {most k c:Int} (hm:0<most) (hm2:most<900) (hk:0<=k) (h0:0<=c) (hc:c<=ns.m) (hb:k+1+2000*(ns.m-c)<=50000000):Mw ns 4 (λn mu=>cL 40 [.ptr n,.int 0,K.pv,.int most] mu) k c:=
 IK (f:=39) hn hm hm2 (λk c a1 a2 a3 a4=>KJ hn hK 4 39 k c (by decide) a1 a2 a3 a4) hk h0 hc hb
theorem Dm (z:Str) (lo hi:Option Int):(dg z lo hi).length<=z.length:=by unfold dg;show ((z.cps.toList.drop _).take _).toArray.size<=z.cps.size;rw[aam,aa4,aa7];have:z.cps.toList.length=z.cps.size:=aa5;omega
theorem yu {a b:Str}:(a++b).cps.toList=a.cps.toList++b.cps.toList:=by show (a.cps++b.cps).toList=_;exact Array.toList_append
theorem XQ (z:Str) (lo:Option Int) {h:Int} (h0:0<=h):(dg z lo (some h)).length<=h.toNat:=by
 unfold dg;show ((z.cps.toList.drop _).take _).toArray.size<=_;rw[aam,aa4];have:HT.sIx z.length z.length (some h)<=h.toNat:=by simp only[HT.sIx]; split<;>omega
 omega
theorem RL (z:Str) {l h:Int} (h0:0<=l) (h1:l<=h):(dg z (some l) (some h)).length<=(h-l).toNat:=by unfold dg;show ((z.cps.toList.drop _).take _).toArray.size<=_;rw[aam,aa4];simp only[HT.sIx];split<;>split<;>omega
theorem RM {a b:Str} (h:a.length+b.length<=100000):bh (.str a) (.str b)=zT (a++b):=by show (if a.length+b.length<=100000 then _ else _)=_;rw[abR h]
theorem IW {f:EF} {lo hi:OF} {Y Y1 Y2 Y3:Ev} {l:Lc} {z:Str} {a b:Option Int} (h1:f Y=some (l,Y1)) (hl:l.pv=.str z) (h2:lo Y1=some (a,Y2)) (h3:hi Y2=some (b,Y3)) (hz:z.length<=100000):jo f lo hi Y=some (.sh (.str (dg z a b)),Y3):=by unfold jo;rw[h1,aaa];dsimp only;rw[h2,aaa];dsimp only;rw[h3,aaa,hl];dsimp only;rw[abR hz]
theorem lN {f:EF} {Y Y1:Ev} {l:Lc} {i:Int} (h:f Y=some (l,Y1)) (hl:l.pv=.int i):fD f Y=some (some i,Y1):=by unfold fD;rw[h,aaa,hl]
theorem pG (x:Str):x.length=x.cps.toList.length:=by rw[aa5]; rfl
theorem Qd (z:Str) {h:Int} (h0:0<=h) (h1:h<=z.length):(dg z none (some h)).length=h.toNat:=by unfold dg;show ((z.cps.toList.drop _).take _).toArray.size=_;have hz:=pG z;rw[aam,aa4,aa7];simp only[HT.sIx];split<;>omega
def Ls (x:Str):Prop:=∀c∈x.cps.toList,xn c=true
theorem Ja {a b:Str} (h:Ls a) (g:Ls b):Ls (a++b):=λc hc=>by rw[yu]at hc;exact(aaH.mp hc).elim (h c) (g c)
theorem Jb {z:Str} {lo hi:Option Int} (h:Ls z):Ls (dg z lo hi):=λc hc=>by
 have hc:c∈(z.cps.toList.drop (HT.sIx z.length 0 lo)).take (HT.sIx z.length z.length hi-HT.sIx z.length 0 lo):=by simpa [dg] using hc
 exact h c (List.mem_of_mem_drop (List.mem_of_mem_take hc))
theorem Qe (i:Int):Ls (one (LE i)):=λc hc=>by rw[aaF.mp (show c∈[LE i] from hc)]; exact O4 i
theorem len_app {a b:Str}:(a++b).length=a.length+b.length:=by rw[pG,pG,pG,yu,aaq]
theorem len_one {c:Nat}:(one c).length=1:=rfl
def mn (x:Str):Str:=if x = "main" then "niam" else x
theorem Vm {x:Str} (h:nameB x=true):nameB (mn x)=true:=by
 unfold mn;split
 . decide +kernel
 . exact h
theorem Qf {x y:Str} (h:¬ (x = "main" /\ y = "niam")) (g:¬ (y = "main" /\ x = "niam")) (e:mn x=mn y):x=y:=by
 unfold mn at e;split at e
 . rename_i hx;split at e
   . rename_i hy; rw[hx,hy]
   . exact absurd ⟨hx,e.symm⟩ h
 . split at e
   . rename_i hy; exact absurd ⟨hy,e⟩ g
   . exact e
def nA (p s:Str) (t:Int) (i:Nat):Str:=p++one (LE (t+5*(0+(i:Int))))++s
theorem Jc {p s:Str} {t:Int} {i:Nat}:(nA p s t i).cps.toList=p.cps.toList++(LE (t+5*(0+(i:Int)))::s.cps.toList):=by unfold nA;rw[yu,yu];simp[one]
theorem KN {p s:Str} {t:Int} {i j:Nat}:¬ (nA p s t i = "main" /\ nA p s t j = "niam"):=by
 rintro⟨h1,h2⟩;have e1:(nA p s t i).cps.toList=[109,97,105,110]:=by rw[h1]; decide +kernel
 have e2:(nA p s t j).cps.toList=[110,105,97,109]:=by rw[h2]; decide +kernel
 rw[Jc]at e1 e2;cases hp:p.cps.toList with
 | nil=>
  rw[hp,aaE]at e1 e2;injection e1 with _ a1;injection e2 with _ a2;rw[a1]at a2;revert a2; decide
 | cons q r=>
  rw[hp,aa3]at e1 e2;injection e1 with a1 _;injection e2 with a2 _;rw[a1]at a2;revert a2; decide
theorem XS {p s:Str} {t:Int} {i j:Nat} (hi:i<8) (hj:j<8) (e:nA p s t i=nA p s t j):i=j:=by
 have h:(nA p s t i).cps.toList=(nA p s t j).cps.toList:=by rw[e]
 rw[Jc,Jc]at h;have:=List.append_cancel_left h;injection this with a _;unfold LE at a;omega
def nB (b:Str) (t:Int) (i:Nat):Str:=one (LE (t+(0+(i:Int))/8))++dg b none (some ((t+(0+(i:Int)))%8))
theorem Jd {b:Str} {t:Int} {i:Nat} (hb:b.length=8):(nB b t i).length=1+((t+(0+(i:Int)))%8).toNat:=by have h0:=aa0 (t+(0+(i:Int))) (b:=8) (by decide);have h1:=aaQ (t+(0+(i:Int))) (b:=8) (by decide);unfold nB;rw[len_app,len_one,Qd b h0 (by omega)]
theorem Je {b:Str} {t:Int} {i j:Nat} (hb:b.length=8) (hi:i<8) (hj:j<8) (e:(nB b t i).length=(nB b t j).length):i=j:=by rw[Jd hb,Jd hb]at e;omega
abbrev Jf (n:Nat) (T w z a t:Int) (b:Str) (o7:Option Lc) (l:Option Lc) (o10 o11 o12:Option Lc) (mu:Mu):Ev:=⟨[yS (.ptr n),zI T,zT LET,zI w,zI z,zI a,zI t,o7,zT b,l,o10,o11,o12],mu⟩
abbrev Zc:SF:=aG (aK 11 (aC bh (aN (aa 2) (aC eQ (aC bh (aa 6) (aC sS (aa 10) (adE 8))) (adE 26))) (jo (aa 8) lO (fD (aC eQ (aC bh (aa 6) (aa 10)) (adE 8))))))
 (aG (bN (tT (aC eqP (aa 3) (adE 0)) aV)
 (aG (aK 12 (aN (aa 2) (aC eQ (aC bh (aa 6) (aC gU (adE 5) (aa 10))) (adE 26))))
 (aK 11 (aC bh (aC bh (jo (aa 8) lO (fD (aa 5))) (aa 12)) (jo (aa 8) (fD (aC bh (aa 5) (adE 1))) (fD (aa 4))))))
 bA)
 (aG (bN (tT (aC eqP (aa 11) (adF "main")) aV)
 (aK 11 (adF "niam"))
 bA)
 (fX 9 (aa 11))))
theorem let_go {fa fb:EF} {Y Y1 Y2:Ev} {x:Int} (h1:fa Y=some (.sh (.str LET),Y1)) (h2:fb Y1=some (.sh (.int x),Y2)):aN fa (aC eQ fb (adE 26)) Y=some (.sh (.str (one (LE x))),Y2):=
 dI (p:=.str LET) (q:=.int (x%26)) (l:=.sh (.str LET)) (m:=.sh (.int (x%26))) h1 rfl (bj (x:=.sh (.int x)) (y:=.sh (.int 26)) h2 rfl (gk (by decide))) rfl (λn h=>by cases h) (O3 x)
theorem Vn {n:Nat} {T w z a t:Int} {b:Str} {o7 o11 o12:Option Lc} {acc:List Str} {mu:Mu} {i:Nat} (hb:b.length<=8) (hw:w=0\/w=1) (hi:i<1000) (hacc:acc.length<1000):
 ∃q12,Zc (Jf n T w z a t b o7 (yO (SS acc)) (zI (0+(i:Int))) o11 o12 mu)=some (.nx (Jf n T w z a t b o7 (some (.own (.lst (SS (acc++[mn (if w=0 then nA (dg b none (some a)) (dg b (some (a+1)) (some z)) t i else nB b t i)]))))) (zI (0+(i:Int))) (some (.sh (.str (mn (if w=0 then nA (dg b none (some a)) (dg b (some (a+1)) (some z)) t i else nB b t i))))) q12 mu)):=by
 let L:Option Lc:=yO (SS acc);let I:Option Lc:=zI (0+(i:Int));let E:Option Lc->Option Lc->Ev:=λo11 o12=>Jf n T w z a t b o7 L I o11 o12 mu;have c1:=Dm b none (some ((t+(0+(i:Int)))%8));have c2:=Dm b none (some a);have c3:=Dm b (some (a+1)) (some z);have s1:aK 11 (aC bh (aN (aa 2) (aC eQ (aC bh (aa 6) (aC sS (aa 10) (adE 8))) (adE 26))) (jo (aa 8) lO (fD (aC eQ (aC bh (aa 6) (aa 10)) (adE 8))))) (E o11 o12)=some (.nx (E (zT (nB b t i)) o12)):=by refine aZ (bj (x:=.sh (.str (one (LE (t+(0+(i:Int))/8))))) (y:=.sh (.str (dg b none (some ((t+(0+(i:Int)))%8))))) (Y1:=E o11 o12) (let_go rfl (bj (x:=.sh (.int t)) (y:=.sh (.int ((0+(i:Int))/8))) rfl (bj (x:=.sh (.int (0+(i:Int)))) (y:=.sh (.int 8)) rfl rfl (wK (by decide) (by decide))) (jm _ _))) (IW (z:=b) (l:=.sh (.str b)) rfl rfl rfl (lN (l:=.sh (.int ((t+(0+(i:Int)))%8))) (bj (x:=.sh (.int (t+(0+(i:Int))))) (y:=.sh (.int 8)) (bj (x:=.sh (.int t)) (y:=.sh (.int (0+(i:Int)))) rfl rfl (jm _ _)) rfl (gk (by decide))) rfl) (by omega)) (RM (by rw[len_one]; omega))) rfl rfl
 have fin:∀(x:Str) (o12:Option Lc),aG (bN (tT (aC eqP (aa 11) (adF "main")) aV) (aK 11 (adF "niam")) bA) (fX 9 (aa 11)) (E (zT x) o12)=some (.nx (Jf n T w z a t b o7 (yO (SS (acc++[mn x]))) I (zT (mn x)) o12 mu)):=λx o12=>by
  have tm:tT (aC eqP (aa 11) (adF "main")) aV (E (zT x) o12)=some (x == "main",E (zT x) o12):=XC rfl rfl;have app:∀y:Str,fX 9 (aa 11) (E (zT y) o12)=some (.nx (Jf n T w z a t b o7 (yO (SS (acc++[y]))) I (zT y) o12 mu)):=λy=>
   lE (ws0:=SS acc) (ws:=SS acc) (l:=.sh (.str y)) (p:=.str y) rfl rfl rfl rfl (by rw[aad]; omega) (by rw[HJ]; rfl)
  unfold mn;by_cases h:x = "main"
  . rw[abR h];exact(yp tm (by rw[h]; decide +kernel) rfl).trans (app "niam")
  . rw[abS h];exact(bM tm (abW.mpr h)).trans (app x)
 have t0:tT (aC eqP (aa 3) (adE 0)) aV (E (zT (nB b t i)) o12)=some (decide (w=0),E (zT (nB b t i)) o12):=vD rfl;rcases hw with rfl | rfl
 . let C:=one (LE (t+5*(0+(i:Int))));refine⟨zT C,aD s1 ((yp (Y2:=E (some (.sh (.str (nA (dg b none (some a)) (dg b (some (a+1)) (some z)) t i)))) (zT C)) t0 rfl ?_).trans (fin _ _))⟩;refine aD (Y':=E (zT (nB b t i)) (zT C)) (aZ (let_go rfl (bj (x:=.sh (.int t)) (y:=.sh (.int (5*(0+(i:Int))))) rfl (bj (x:=.sh (.int 5)) (y:=.sh (.int (0+(i:Int)))) rfl rfl (rE (by decide) (by decide))) (jm _ _))) rfl rfl) ?_;exact aZ (bj (x:=.sh (.str (dg b none (some a)++C))) (y:=.sh (.str (dg b (some (a+1)) (some z)))) (bj (x:=.sh (.str (dg b none (some a)))) (y:=.sh (.str C)) (IW (z:=b) (l:=.sh (.str b)) rfl rfl rfl (lN (l:=.sh (.int a)) rfl rfl) (by omega)) rfl (RM (by rw[len_one]; omega))) (IW (z:=b) (l:=.sh (.str b)) rfl rfl (lN (l:=.sh (.int (a+1))) (bj (x:=.sh (.int a)) (y:=.sh (.int 1)) rfl rfl (jm _ _)) rfl) (lN (l:=.sh (.int z)) rfl rfl) (by omega)) (RM (by rw[len_app,len_one]; omega))) rfl rfl
 . exact⟨o12,aD s1 ((bM t0 rfl).trans (fin _ _))⟩
theorem Jg {ns:Sc} {k:Int} (hn:ns.l.length<=63) (h0:0<=k) (h1:k<99000000):∃(nm:Nat->Str) (k':Int),(∀i,i<1000->nameB (nm i)=true)/\(∀i j,i<8->j<8->nm i=nm j->i=j)/\k<=k'/\k'<=k+12/\∀(T:Nat) c,T<900->Dr ns (λn mu=>iJ [.ptr n,.int (T:Nat)] mu) k c k' c (.own (.lst (SS ((List.range T).map nm)))):=by
 obtain⟨w,w0,w1,ew⟩:=fW (ns:=ns) (m:=2) hn h0 (by omega) (by decide);obtain⟨z',z0,z1,ez⟩:=fW (ns:=ns) (m:=8) (k:=k+1) hn (by omega) (by omega) (by decide);obtain⟨a,a0,a1,ea⟩:=fW (ns:=ns) (m:=1+z') (k:=k+1+1) hn (by omega) (by omega) (by omega);obtain⟨t,t0,t1,et⟩:=fW (ns:=ns) (m:=26) (k:=k+1+1+1) hn (by omega) (by omega) (by decide);obtain⟨cs,k',hl,hg,ka,kb,ec⟩:=tO (ns:=ns) (α:=Nat) (λc=>.str (one c)) (λc=>xn c=true) 1 (by decide) (aN (aa 1) (fZ (aa 2) (adE 26))) (λn=>[zT LET,yS (.ptr n)]) 99500000 (λk h0 h1=>by obtain⟨r,r0,r1,er⟩:=fW (ns:=ns) (m:=26) (k:=k) hn h0 (by omega) (by decide);refine⟨LE r,k+1,O4 r,by omega,by omega,λP n c S o=>⟨.sh (.str (one (LE r))),?_,rfl⟩⟩;exact dI (p:=.str LET) (q:=.int r) (l:=.sh (.str LET)) (m:=.sh (.int r)) rfl rfl (er P n c S _ _ _ (λ_=>rfl) λ_=>rfl) rfl (λn h=>by cases h) (by have h:=O3 r; rw[Int.emod_eq_of_lt r0 r1]at h; exact h)) 8 (k+1+1+1+1) (by omega) (by omega)
 let b:Str:=⟨cs.toArray⟩;have hbc:b.cps.toList=cs:=by simp[b]
 have hb8:b.length=8:=by rw[pG,hbc,hl]
 have hbl:Ls b:=λc hc=>hg c (by rw[hbc]at hc; exact hc);let p:=dg b none (some a);let s:=dg b (some (a+1)) (some (1+z'));have hp:p.length<=a.toNat:=XQ b none a0;have hs:s.length<=(1+z'-(a+1)).toNat:=RL b (by omega) (by omega);let nm:Nat->Str:=λi=>mn (if w=0 then nA p s t i else nB b t i);have hw:w=0\/w=1:=by omega
 refine⟨nm,k',λi hi=>Vm ?_,λi j hi hj e=>?_,by omega,by omega,λT c hT P n S=>?_⟩
 . rcases hw with h | h
   . rw[abR h];have hlen:(nA p s t i).length=p.length+1+s.length:=by unfold nA; rw[len_app,len_app,len_one]
     rw[pG]at hlen;exact HN (by omega) (by omega) (Ja (Ja (Jb hbl) (Qe _)) (Jb hbl))
   . rw[abS (by omega)];have hlen:=Jd (t:=t) (i:=i) hb8;have m1:=aaQ (t+(0+(i:Int))) (b:=8) (by decide);rw[pG]at hlen;exact HN (by omega) (by omega) (Ja (Qe _) (Jb hbl))
 . rcases hw with h | h
   . have e:mn (nA p s t i)=mn (nA p s t j):=by have e:mn (if w=0 then nA p s t i else nB b t i)=mn (if w=0 then nA p s t j else nB b t j):=e;rw[abR h,abR h]at e; exact e
     exact XS hi hj (Qf KN KN e)
   . have e:mn (nB b t i)=mn (nB b t j):=by have e:mn (if w=0 then nA p s t i else nB b t i)=mn (if w=0 then nA p s t j else nB b t j):=e;rw[abS (by omega),abS (by omega)]at e; exact e
     have l4:("main" : Str).length=4/\("niam" : Str).length=4:=by decide +kernel
     refine Classical.byContradiction λhij=>hij (Je (t:=t) hb8 hi hj ?_);rw[Qf (λh=>hij (Je (t:=t) hb8 hi hj (by rw[h.1,h.2,l4.1,l4.2]))) (λh=>hij (Je (t:=t) hb8 hi hj (by rw[h.1,h.2,l4.1,l4.2]))) e]
 . let V:Option Lc->Option Lc->Option Lc->Option Lc->Option Lc->Option Lc->Option Lc->Option Lc->List (Option Lc):=λo2 o3 o4 o5 o6 o7 o8 o9=>[yS (.ptr n),zI (T:Nat),o2,o3,o4,o5,o6,o7,o8,o9,none,none,none];let LT:Option Lc:=zT LET;let O:Int->Option Lc:=λi=>zI i;let Ps:Int->Mu:=λk=>P (pen ns k c);have s3:aK 3 (fZ (aa 0) (adE 2)) ⟨V LT none none none none none none none,Ps k⟩=some (.nx ⟨V LT (O w) none none none none none none,Ps (k+1)⟩):=aZ (ew P n c S _ _ _ (λ_=>rfl) λ_=>rfl) rfl rfl;have s4:aK 4 (aC bh (adE 1) (fZ (aa 0) (adE 8))) ⟨V LT (O w) none none none none none none,Ps (k+1)⟩=some (.nx ⟨V LT (O w) (O (1+z')) none none none none none,Ps (k+1+1)⟩):=aZ (bj (x:=.sh (.int 1)) (y:=.sh (.int z')) rfl (ez P n c S _ _ _ (λ_=>rfl) λ_=>rfl) (jm _ _)) rfl rfl;have s5:aK 5 (fZ (aa 0) (aa 4)) ⟨V LT (O w) (O (1+z')) none none none none none,Ps (k+1+1)⟩=some (.nx ⟨V LT (O w) (O (1+z')) (O a) none none none none,Ps (k+1+1+1)⟩):=aZ (ea P n c S _ _ _ (λ_=>rfl) λ_=>rfl) rfl rfl;have s6:aK 6 (fZ (aa 0) (adE 26)) ⟨V LT (O w) (O (1+z')) (O a) none none none none,Ps (k+1+1+1)⟩=some (.nx ⟨V LT (O w) (O (1+z')) (O a) (O t) none none none,Ps (k+1+1+1+1)⟩):=aZ (et P n c S _ _ _ (λ_=>rfl) λ_=>rfl) rfl rfl;let C:PV:=.lst (SS (cs.map one));have eC':cs.map (λc=>PV.str (one c))=SS (cs.map one):=by show _=(cs.map one).map PV.str; rw[aaD]; rfl
   have s7:aK 7 (bJ (fQ (aj (adE 8) ao)) 1 [2,0] (aA 0) bK (aN (aa 1) (fZ (aa 2) (adE 26)))) ⟨V LT (O w) (O (1+z')) (O a) (O t) none none none,Ps (k+1+1+1+1)⟩=some (.nx ⟨V LT (O w) (O (1+z')) (O a) (O t) (some (.own C)) none none,Ps k'⟩):=by refine aZ (l:=.own C) (Y1:=⟨V LT (O w) (O (1+z')) (O a) (O t) none none none,Ps k'⟩) ?_ rfl rfl;have ir:=ji (a:=aj (adE 8) ao) (Y:=⟨V LT (O w) (O (1+z')) (O a) (O t) none none none,Ps (k+1+1+1+1)⟩) (Y1:=⟨V LT (O w) (O (1+z')) (O a) (O t) none none none,Ps (k+1+1+1+1)⟩) (l:=.sh (.int 8)) (n:=8) rfl rfl (by decide) (by decide);have:=cM (m:=1) (ixs:=[2,0]) ir (ec P n c S none [] (mq 0 8) yd (by decide));rw[aaE,eC']at this;exact this
   have s8:aK 8 (yc (adF "") (aj (aa 7) ao)) ⟨V LT (O w) (O (1+z')) (O a) (O t) (some (.own C)) none none,Ps k'⟩=some (.nx ⟨V LT (O w) (O (1+z')) (O a) (O t) (yS C) (zT b) none,Ps k'⟩):=aZ (U3_ (m:=.sh C) (cs:=cs) rfl rfl (by omega)) rfl rfl;let E0:=Jf n (T:Nat) w (1+z') a t b (yS C) (yO (SS [])) none none none (Ps k');obtain⟨Y',e10,acc,o10,o11,o12,rfl,ha,_⟩:=jH (b:=aA 10) (body:=Zc) (λi:Nat=>.int (0+(i:Int))) (λ(s:List Str) i=>s++[nm i]) 900 (λq s' Y=>∃acc o10 o11 o12,Y=Jf n (T:Nat) w (1+z') a t b (yS C) (yO (SS acc)) o10 o11 o12 (Ps k')/\acc=s'/\s'.length=q) (List.range T) 0 [] E0 (by rintro i hi q s' _ hq ⟨acc,o10,o11,o12,rfl,rfl,hs'⟩;have:=List.mem_range.mp hi;obtain⟨q12,e⟩:=Vn (n:=n) (T:=(T:Nat)) (w:=w) (z:=1+z') (a:=a) (t:=t) (b:=b) (o7:=yS C) (o11:=o11) (o12:=o12) (acc:=acc) (mu:=Ps k') (i:=i) (by omega) hw (by omega) (by omega);exact⟨_,_,rfl,e,_,_,_,_,rfl,rfl,by rw[aaq]; simp only[aac,aav]; omega⟩) (by rw[aaJ]; omega) ⟨_,_,_,_,rfl,rfl,rfl⟩
   have ef:∀(xs:List Nat) (s:List Str),xs.foldl (λ(s:List Str) i=>s++[nm i]) s=s++xs.map nm:=λxs=>by
    induction xs with
    | nil=>intro s; simp
    | cons x xs ih=>intro s; rw[aaX,ih]; simp
   rw[ef,aaE]at ha;subst ha;refine aX (Y:=⟨[yS (.ptr n),zI (T:Nat),LT,O w,O (1+z'),O a,O t,yS C,zT b,none,o10,o11,o12],Ps k'⟩) (aD (Y':=⟨V LT none none none none none none none,Ps k⟩) rfl (aD s3 (aD s4 (aD s5 (aD s6 (aD s7 (aD s8 (aD (Y':=E0) rfl (aD (dq (xs:=(List.range T).map λi:Nat=>.int (0+(i:Int))) (Y1:=E0) ?_ e10) rfl)))))))));exact ji (l:=.sh (.int (T:Nat))) (n:=(T:Nat)) rfl rfl (by omega) (by omega)
theorem YH {ps:List PV} {a:Int} (h0:0<=a) (h1:a<=ps.length):lD ps none (some a)=ps.take a.toNat:=by
 have e:HT.sIx ps.length ps.length (some a)=a.toNat:=by show (if a<0 then _ else min a.toNat ps.length)=_;rw[abS (by omega)];omega
 unfold lD;rw[e];rfl
theorem YJ {ps:List PV} {a:Int} (h0:0<=a) (h1:a<=ps.length):lD ps (some a) none=ps.drop a.toNat:=by
 have e:HT.sIx ps.length 0 (some a)=a.toNat:=by show (if a<0 then _ else min a.toNat ps.length)=_;rw[abS (by omega)];omega
 unfold lD;rw[e];show (ps.drop a.toNat).take (ps.length-a.toNat)=_;rw[abt (by rw[aa7]; omega)]
theorem Do {f:EF} {lo hi:OF} {Y Y1 Y2 Y3:Ev} {l:Lc} {ps:List PV} {a b:Option Int} (h1:f Y=some (l,Y1)) (hl:l.pv=.lst ps) (h2:lo Y1=some (a,Y2)) (h3:hi Y2=some (b,Y3)):jo f lo hi Y=some (.own (.lst (lD ps a b)),Y3):=by unfold jo;rw[h1,aaa];dsimp only;rw[h2,aaa];dsimp only;rw[h3,aaa,hl]
theorem Mx {a:AF} {Y Y1:Ev} {l m:Lc} {lo hi:Int} (h:a Y=some ([l,m],Y1)) (hl:l.pv=.int lo) (hm:m.pv=.int hi) (h1:-1000<=lo) (h2:lo<1000) (h3:-1000<=hi) (h4:hi<1000):nj a Y=some (mq lo (hi-lo).toNat,Y1):=by unfold nj;rw[h,aaa];show (match [l.pv,m.pv] with | [.int lo,.int hi]=>_ | _=>_)=_;rw[hl,hm];exact abR (by omega)
abbrev QQ (qs:List (Nat×Nat)):List PV:=qs.map λq=>.tup [.int (q.1:Nat),.int (q.2:Nat)]
def both (n:Nat) (qs:List (Nat×Nat)):Bool:=Ii n qs&&Ii n (qs++[(0,n-1)])
theorem My:∀n<8,both (n+1) (chain (n+1))=true:=by decide +kernel
theorem RN:∀n<5,both (n+4) (fan (n+4))=true:=by decide +kernel
structure Shp (n:Nat) (qs:List (Nat×Nat)):Prop where
 lo:1<=n
 hi:n<=8
 ok:both n qs=true
 ln:qs.length<=20
abbrev xP (n:Nat) (w:Int) (o2 o3:Option Lc):List (Option Lc):=[yS (.ptr n),zI w,o2,o3]
theorem RP {ns:Sc} {k:Int} (hn:ns.l.length<=63) (h0:0<=k) (h1:k<99000000):∃(z:Nat) (qs:List (Nat×Nat)) (k':Int),Shp z qs/\k<=k'/\k'<=k+2/\∀c,Dr ns (λn mu=>lJ [.ptr n] mu) k c k' c (.own (.lst [.int (z:Nat),.lst (QQ qs)])):=by
 obtain⟨w,w0,w1,ew⟩:=fW (ns:=ns) (m:=6) hn h0 (by omega) (by decide);have st:∀P n c,Spot P n->aK 1 (fZ (aa 0) (adE 6)) (env0 4 [.ptr n] (P (pen ns k c)))=some (.nx ⟨xP n w none none,P (pen ns (k+1) c)⟩):=λP n c S=>aZ (ew P n c S _ _ _ (λ_=>rfl) λ_=>rfl) rfl rfl;have te:∀(i:Int) n mu,tT (aC eqP (aa 1) (adE i)) aV ⟨xP n w none none,mu⟩=some (decide (w=i),⟨xP n w none none,mu⟩):=λi n mu=>vD rfl;by_cases e0:w=0
 . obtain⟨r,r0,r1,er⟩:=fW (ns:=ns) (m:=8) (k:=k+1) hn (by omega) (by omega) (by decide);obtain⟨m,rfl⟩:=Int.eq_ofNat_of_zero_le r0;have hm:m<8:=by omega
   refine⟨m+1,chain (m+1),k+1+1,⟨by omega,by omega,My m hm,by simp[chain]; omega⟩,by omega,by omega,λc P n S=>aX (Y:=⟨xP n w (zI (1+(m:Int))) none,P (pen ns (k+1+1) c)⟩) (aD (st P n c S) (dO (te 0 _ _) (abV e0) ?_))⟩;let E:Ev:=⟨xP n w (zI (1+(m:Int))) none,P (pen ns (k+1+1) c)⟩;refine aD (Y':=E) (aZ (bj (x:=.sh (.int 1)) (y:=.sh (.int (m:Int))) rfl (er P n c S _ _ _ (λ_=>rfl) λ_=>rfl) (jm _ _)) rfl rfl) (cJ (mD (ls:=[.sh (.int (1+(m:Int))),.own (.lst (QQ (chain (m+1))))]) (aB (Y1:=E) rfl (aB (cM (m:=1) (ixs:=[]) (xs:=(List.range m).map λi:Nat=>.int (0+(i:Int))) (Y1:=E) ?_ ?_) rfl)) rfl ?_))
   . exact(ji (l:=.sh (.int (1+(m:Int)-1))) (n:=1+(m:Int)-1) rfl rfl (by omega) (by omega)).trans (by rw[show (1+(m:Int)-1).toNat=m by omega]; rfl)
   . refine(tL (n:=1) (α:=Nat) (λi:Nat=>.int (0+(i:Int))) (λi:Nat=>.tup [.int (0+(i:Int)),.int (0+(i:Int)+1)]) (λi o=>⟨⟨[zI (0+(i:Int))],P (pen ns (k+1+1) c)⟩,_,.sh (.tup [.int (0+(i:Int)),.int (0+(i:Int)+1)]),zI (0+(i:Int)),rfl,rfl,rfl,rfl⟩) (List.range m) (by rw[aaJ]; omega)).trans ?_;simp only[QQ,chain,aaD,Nat.add_sub_cancel];congr 1;congr 1;refine abp λi _=>?_;simp
   . show [PV.int (1+(m:Int)),.lst (QQ (chain (m+1)))]=_;rw[show (1+(m:Int))=((m+1:Nat):Int) by omega]
 . by_cases e1:w=1
   . exact⟨4,[(0,1),(0,2),(1,3),(2,3)],k+1,⟨by decide,by decide,by decide +kernel,by decide⟩,by omega,by omega,λc P n S=>aX (Y:=⟨xP n w none none,P (pen ns (k+1) c)⟩) (aD (st P n c S) ((bM (te 0 _ _) (abU e0)).trans (dO (te 1 _ _) (abV e1) rfl)))⟩
   . by_cases e2:w=2
     . refine⟨8,[(0,1),(0,2),(0,4),(1,3),(1,5),(2,3),(2,6),(4,5),(4,6),(3,7),(5,7),(6,7)],k+1,⟨by decide,by decide,by decide +kernel,by decide⟩,by omega,by omega,λc P n S=>aX (Y:=⟨xP n w none (yL (QQ [(0,1),(0,2),(0,4),(1,3),(1,5),(2,3)])),P (pen ns (k+1) c)⟩) (aD (st P n c S) ((bM (te 0 _ _) (abU e0)).trans ((bM (te 1 _ _) (abU e1)).trans (dO (te 2 _ _) (abV e2) rfl))))⟩
     . by_cases e3:w=3
       . obtain⟨r,r0,r1,er⟩:=fW (ns:=ns) (m:=5) (k:=k+1) hn (by omega) (by omega) (by decide);obtain⟨m,rfl⟩:=Int.eq_ofNat_of_zero_le r0;have hm:m<5:=by omega
         let A:List PV:=(List.range (m+2)).map λi:Nat=>.tup [.int 0,.int (1+(i:Int))];let B:List PV:=(List.range (m+2)).map λi:Nat=>.tup [.int (1+(i:Int)),.int (4+(m:Int)-1)];have eAB:A++B=QQ (fan (m+4)):=by
          simp only[A,B,QQ,fan,aaz,aaD,show m+4-2=m+2 by omega];congr 1
          . refine abp λi _=>?_;simp only[Function.comp];rw[show (1+(i:Int))=((i+1:Nat):Int) by omega]; rfl
          . refine abp λi _=>?_;simp only[Function.comp];rw[show (1+(i:Int))=((i+1:Nat):Int) by omega,show (4+(m:Int)-1)=((m+4-1:Nat):Int) by omega]
         refine⟨m+4,fan (m+4),k+1+1,⟨by omega,by omega,RN m hm,by simp[fan]; omega⟩,by omega,by omega,λc P n S=>aX (Y:=⟨xP n w (zI (4+(m:Int))) (yL A),P (pen ns (k+1+1) c)⟩) (aD (st P n c S) ((bM (te 0 _ _) (abU e0)).trans ((bM (te 1 _ _) (abU e1)).trans ((bM (te 2 _ _) (abU e2)).trans (dO (te 3 _ _) (abV e3) ?_)))))⟩;let M:=P (pen ns (k+1+1) c);let E:Option Lc->Ev:=λo=>⟨xP n w (zI (4+(m:Int))) o,M⟩;have ir:∀o,nj (aj (adE 1) (aj (aC ik (aa 2) (adE 1)) ao)) (E o)=some ((List.range (m+2)).map (λi:Nat=>.int (1+(i:Int))),E o):=λo=>(Mx (l:=.sh (.int 1)) (m:=.sh (.int (4+(m:Int)-1))) (lo:=1) (hi:=4+(m:Int)-1) rfl rfl rfl (by omega) (by omega) (by omega) (by omega)).trans (by rw[show (4+(m:Int)-1-1).toNat=m+2 by omega]; rfl);have cA:bJ (nj (aj (adE 1) (aj (aC ik (aa 2) (adE 1)) ao))) 1 [] (aA 0) bK (bu (aj (adE 0) (aj (aa 0) ao))) (E none)=some (.own (.lst A),E none):=
          cM (m:=1) (ixs:=[]) (ir none) (tL (n:=1) (α:=Nat) (λi:Nat=>.int (1+(i:Int))) (λi:Nat=>.tup [.int 0,.int (1+(i:Int))]) (λi o=>⟨⟨[zI (1+(i:Int))],M⟩,_,.sh (.tup [.int 0,.int (1+(i:Int))]),zI (1+(i:Int)),rfl,rfl,rfl,rfl⟩) (List.range (m+2)) (by rw[aaJ]; omega))
         have cB:bJ (nj (aj (adE 1) (aj (aC ik (aa 2) (adE 1)) ao))) 1 [2] (aA 0) bK (bu (aj (aa 0) (aj (aC ik (aa 1) (adE 1)) ao))) (E (yL A))=some (.own (.lst B),E (yL A)):=by
          refine cM (m:=1) (ixs:=[2]) (ir _) ?_;have:=m5 (b:=aA 0) (te:=bu (aj (aa 0) (aj (aC ik (aa 1) (adE 1)) ao))) (α:=Nat) (λi:Nat=>.int (1+(i:Int))) (λi:Nat=>.tup [.int (1+(i:Int)),.int (4+(m:Int)-1)]) (J:=λY=>∃o,Y=⟨[o,zI (4+(m:Int))],M⟩) (mu:=M) (by rintro i _ ⟨o,rfl⟩;exact⟨⟨[zI (1+(i:Int)),zI (4+(m:Int))],M⟩,_,.sh (.tup [.int (1+(i:Int)),.int (4+(m:Int)-1)]),rfl,rfl,rfl,_,rfl⟩) (by rintro _ ⟨o,rfl⟩; rfl) (List.range (m+2)) ⟨[none,zI (4+(m:Int))],M⟩ [] ⟨none,rfl⟩ (by simp only[aav,aaJ]; omega)
          rw[aaE]at this;exact this
         refine aD (Y':=E none) (aZ (bj (x:=.sh (.int 4)) (y:=.sh (.int (m:Int))) rfl (er P n c S _ _ _ (λ_=>rfl) λ_=>rfl) (jm _ _)) rfl rfl) (aD (Y':=E (yO A)) (aZ cA rfl rfl) (cJ (mD (ls:=[.sh (.int (4+(m:Int))),.own (.lst (A++B))]) (Y1:=E (yL A)) (aB (Y1:=E (yO A)) rfl (aB (bj (x:=.sh (.lst A)) (y:=.own (.lst B)) (Y1:=E (yL A)) rfl cB (xK (by simp only[A,B,aad,aaJ]; omega))) rfl)) rfl ?_)));show [PV.int (4+(m:Int)),.lst (A++B)]=_;rw[eAB,show (4+(m:Int))=((m+4:Nat):Int) by omega]
       . by_cases e4:w=4
         . exact⟨5,[(0,1),(1,2),(2,4),(0,3),(3,4)],k+1,⟨by decide,by decide,by decide +kernel,by decide⟩,by omega,by omega,λc P n S=>aX (Y:=⟨xP n w none none,P (pen ns (k+1) c)⟩) (aD (st P n c S) ((bM (te 0 _ _) (abU e0)).trans ((bM (te 1 _ _) (abU e1)).trans ((bM (te 2 _ _) (abU e2)).trans ((bM (te 3 _ _) (abU e3)).trans (dO (te 4 _ _) (abV e4) rfl))))))⟩
         . exact⟨6,[(0,1),(1,2),(3,4),(4,5),(0,3),(1,4),(2,5)],k+1,⟨by decide,by decide,by decide +kernel,by decide⟩,by omega,by omega,λc P n S=>aX (Y:=⟨xP n w none none,P (pen ns (k+1) c)⟩) (aD (st P n c S) ((bM (te 0 _ _) (abU e0)).trans ((bM (te 1 _ _) (abU e1)).trans ((bM (te 2 _ _) (abU e2)).trans ((bM (te 3 _ _) (abU e3)).trans ((bM (te 4 _ _) (abU e4)).trans rfl))))))⟩
def Tt (xs:List Str) (q:Nat×Nat):Str×Str:=(xs.getD q.1 "",xs.getD q.2 "")
theorem jJ {xs:List Str} {i:Nat} (h:i<xs.length):xs[i]?=some (xs.getD i ""):=by rw[List.getD_eq_getElem?_getD,aaj h]; rfl
theorem Vo {xs:List Str} {qs:List (Nat×Nat)} (h:∀q∈qs,q.1<xs.length/\q.2<xs.length) {a b:Str}:(a,b)∈qs.map (Tt xs) ↔ ∃i j:Nat,xs[i]?=some a/\xs[j]?=some b/\(i,j)∈qs:=by
 constructor
 . intro hm;obtain⟨q,hq,e⟩:=aar.mp hm;cases e;exact⟨q.1,q.2,jJ (h q hq).1,jJ (h q hq).2,hq⟩
 . rintro⟨i,j,h1,h2,hq⟩;refine aar.mpr ⟨(i,j),hq,?_⟩;have e1:=jJ (h _ hq).1;have e2:=jJ (h _ hq).2;rw[h1]at e1;rw[h2]at e2;show (xs.getD i "",xs.getD j "")=_;rw[<-aap e1,<-aap e2]
theorem Qg {xs ts:List Str} {ps:List (Str×Str)} {qs:List (Nat×Nat)} (nd:xs.Nodup) (ne:0<xs.length) (l8:xs.length<=8) (nm:∀x∈xs,nameB x=true) (ndt:ts.Nodup) (lt:ts.length=xs.length) (tm:∀x,x∈ts ↔ x∈xs) (h:Ii xs.length qs=true) (lp:ps.length<=68) (pm:∀a b,(a,b)∈ps ↔ (a,b)∈qs.map (Tt xs)):vz ts ps:=by obtain⟨ok,re,L⟩:=Ik h;exact ou.ord (S:=⟨nd,ne,l8,lp,nm,ndt,lt,tm,ok,λa b=>(pm a b).trans (Vo ok),re⟩) L
abbrev lq (n:Nat) (z:Int) (Q:PV) (o3 o4 o5 o6:Option Lc):List (Option Lc):=[yS (.ptr n),zI z,yS Q,o3,o4,o5,o6]
theorem RQ {ns:Sc} {k:Int} (hn:ns.l.length<=63) (h0:0<=k) (h1:k<98000000):∃(ts:List Str) (ps:List (Str×Str)) (k':Int),vz ts ps/\k<=k'/\k'<=k+16/\∀c,Dr ns (λn mu=>n6 [.ptr n] mu) k c k' c (.own (.lst [.lst (SS ts),.lst (PP ps)])):=by
 obtain⟨z,qs,k1,⟨lo,hi,bo,ln⟩,ka,kb,es⟩:=RP (ns:=ns) hn h0 (by omega);obtain⟨nm,k2,nmB',inj,kc,kd,en⟩:=Jg (ns:=ns) (k:=k1) hn (by omega) (by omega);obtain⟨t,t0,t1,et⟩:=fW (ns:=ns) (m:=(z:Int)) (k:=k2) hn (by omega) (by omega) (by omega);obtain⟨v,v0,v1,ev⟩:=fW (ns:=ns) (m:=2) (k:=k2+1) hn (by omega) (by omega) (by decide);unfold both at bo;rw[aaA]at bo;obtain⟨sh1,sh2⟩:=bo;let xs:=(List.range z).map nm;have hz:xs.length=z:=by simp[xs]
 have nd:xs.Nodup:=yJ λi j hi hj e=>inj i j (by omega) (by omega) e;have hnm:∀x∈xs,nameB x=true:=λx hx=>by obtain⟨i,hi,rfl⟩:=aar.mp hx;exact nmB' i (by have:=List.mem_range.mp hi; omega)
 have okq:=(Ik sh1).1;let ps:=qs.map (Tt xs);let u:=t.toNat;let rot:=xs.drop u++xs.take u;have hperm:rot.Perm xs:=abv.trans (by rw[List.take_append_drop]);let O:Int->Option Lc:=λi=>zI i;let Q:PV:=.lst (QQ qs);let X:PV:=.lst (SS xs);have run:∀c P n,Spot P n->∀(g:SF) R,g ⟨lq n z Q (yS X) (yO (PP ps)) (O t) (yO (SS rot)),P (pen ns (k2+1) c)⟩=R->
  aG (nJ (aF lJ (aj (aa 0) ao)) (b7 2 (aJ (aA 1) (aJ (aA 2) bZ)))) (aG (aK 3 (aF iJ (aj (aa 0) (aj (aa 1) ao))))
   (aG (aK 4 (bJ (cR (aa 2) bI) 2 [3] (b7 2 (aJ (aA 0) (aJ (aA 1) bZ))) bK (bu (aj (aN (aa 2) (aa 0)) (aj (aN (aa 2) (aa 1)) ao)))))
   (aG (aK 5 (fZ (aa 0) (aa 1))) (aG (aK 6 (aC bh (jo (aa 3) (fD (aa 5)) lO) (jo (aa 3) lO (fD (aa 5))))) g)))) (env0 7 [.ptr n] (P (pen ns k c)))=R:=λc P n S g R hg=>by
  let M:Int->Mu:=λk=>P (pen ns k c);have s1:nJ (aF lJ (aj (aa 0) ao)) (b7 2 (aJ (aA 1) (aJ (aA 2) bZ))) (env0 7 [.ptr n] (M k))=some (.nx ⟨lq n z Q none none none none,M k1⟩):=by unfold nJ;rw[aY (ls:=[.sh (.ptr n)]) (ps:=[.ptr n]) (Y1:=env0 7 [.ptr n] (M k)) rfl rfl rfl rfl (es c P n S)];rfl
  have s3:aK 3 (aF iJ (aj (aa 0) (aj (aa 1) ao))) ⟨lq n z Q none none none none,M k1⟩=some (.nx ⟨lq n z Q (some (.own X)) none none none,M k2⟩):=
   aZ (aY (ls:=[.sh (.ptr n),.sh (.int (z:Nat))]) (ps:=[.ptr n,.int (z:Nat)]) (Y1:=⟨lq n z Q none none none none,M k1⟩) rfl rfl rfl rfl (en z c (by omega) P n S)) rfl rfl
  have s4:aK 4 (bJ (cR (aa 2) bI) 2 [3] (b7 2 (aJ (aA 0) (aJ (aA 1) bZ))) bK (bu (aj (aN (aa 2) (aa 0)) (aj (aN (aa 2) (aa 1)) ao)))) ⟨lq n z Q (some (.own X)) none none none,M k2⟩=some (.nx ⟨lq n z Q (yS X) (yO (PP ps)) none none,M k2⟩):=by
   refine aZ (l:=.own (.lst (PP ps))) (Y1:=⟨lq n z Q (yS X) none none none,M k2⟩) (cM (m:=2) (ixs:=[3]) (xs:=QQ qs) (Y1:=⟨lq n z Q (some (.own X)) none none none,M k2⟩) (fU (l:=.sh Q) rfl rfl) ?_) rfl rfl;have key:∀(rs:List (Nat×Nat)) (o0 o1:Option Lc) (acc:List PV),(∀q∈rs,q.1<xs.length/\q.2<xs.length)->acc.length+rs.length<=1000->dj (b7 2 (aJ (aA 0) (aJ (aA 1) bZ))) bK (bu (aj (aN (aa 2) (aa 0)) (aj (aN (aa 2) (aa 1)) ao))) (QQ rs) ⟨[o0,o1,yS X],M k2⟩ acc=some (acc++PP (rs.map (Tt xs)),M k2):=λrs=>by
    induction rs with
    | nil=>intro o0 o1 acc _ _; simp[dj,PP,QQ]
    | cons q rs ih=>
     intro o0 o1 acc hq hl;simp only[aac]at hl;obtain⟨q1,q2⟩:=hq q aab;let E:Ev:=⟨[zI (q.1:Nat),zI (q.2:Nat),yS X],M k2⟩;have ix:∀(i:Nat) (f:EF),i<xs.length->f E=some (.sh (.int (i:Nat)),E)->aN (aa 2) f E=some (.sh (.str (xs.getD i "")),E):=λi f h hf=>
      dI (p:=.lst (SS xs)) (q:=.int (i:Nat)) (l:=.sh X) (m:=.sh (.int (i:Nat))) rfl rfl hf rfl (λn h=>by cases h) (Dh (jJ h))
     refine vA (Y1:=E) (l:=.sh (.tup [.str (xs.getD q.1 ""),.str (xs.getD q.2 "")])) (Y2:=E) rfl (dG (ls:=[.sh (.str (xs.getD q.1 "")),.sh (.str (xs.getD q.2 ""))]) (aB (ix q.1 _ q1 rfl) (aB (ix q.2 _ q2 rfl) rfl)) rfl rfl) (by omega) ((ih _ _ _ (λx hx=>hq x (aai _ hx)) (by rw[aaq]; simp only[aac,aav]; omega)).trans ?_);rw[aaC]; rfl
   exact(key qs none none [] (λq hq=>by rw[hz]; exact okq q hq) (by simp only[aav]; omega)).trans rfl
  have s5:aK 5 (fZ (aa 0) (aa 1)) ⟨lq n z Q (yS X) (yO (PP ps)) none none,M k2⟩=some (.nx ⟨lq n z Q (yS X) (yO (PP ps)) (O t) none,M (k2+1)⟩):=aZ (et P n c S _ _ _ (λ_=>rfl) λ_=>rfl) rfl rfl;have hxl:((SS xs).length:Int)=z:=by rw[aad,hz]
  have s6:aK 6 (aC bh (jo (aa 3) (fD (aa 5)) lO) (jo (aa 3) lO (fD (aa 5)))) ⟨lq n z Q (yS X) (yO (PP ps)) (O t) none,M (k2+1)⟩=some (.nx ⟨lq n z Q (yS X) (yO (PP ps)) (O t) (yO (SS rot)),M (k2+1)⟩):=by refine aZ (l:=.own (.lst (SS rot))) (bj (x:=.own (.lst (lD (SS xs) (some t) none))) (y:=.own (.lst (lD (SS xs) none (some t)))) (Do (l:=.sh X) rfl rfl (lN (l:=.sh (.int t)) rfl rfl) rfl) (Do (l:=.sh X) rfl rfl rfl (lN (l:=.sh (.int t)) rfl rfl)) ?_) rfl rfl;show bh (.lst (lD (SS xs) (some t) none)) (.lst (lD (SS xs) none (some t)))=_;rw[YJ t0 (by omega),YH t0 (by omega),xK (by rw[aa7,aa4]; omega)];simp only[rot,SS,aaz,List.map_drop,List.map_take,u]
  exact aD s1 (aD s3 (aD s4 (aD s5 (aD s6 hg))))
 have tv:∀c P n,Spot P n->∀vs,(∀mu,aa 0 ⟨vs,mu⟩=some (.sh (.ptr n),⟨vs,mu⟩))->tT (aC eqP (fZ (aa 0) (adE 2)) (adE 1)) aV ⟨vs,P (pen ns (k2+1) c)⟩=some (decide (v=1),⟨vs,P (pen ns (k2+1+1) c)⟩):=λc P n S vs h=>vD (ev P n c S _ _ vs h λ_=>rfl);have hrl:rot.length=xs.length:=hperm.length_eq;by_cases hv:v=1
 . let ps':=ps.reverse++[(xs.getD 0 "",xs.getD (z-1) "")];refine⟨rot.reverse,ps',k2+1+1,?_,by omega,by omega,λc P n S=>aX (Y:=⟨lq n z Q (yS X) (yL (PP ps')) (O t) (yL (SS rot.reverse)),P (pen ns (k2+1+1) c)⟩) (run c P n S _ _ ((yp (tv c P n S _ λ_=>rfl) (abV hv) (Y2:=⟨lq n z Q (yS X) (yO (PP ps')) (O t) (yO (SS rot.reverse)),P (pen ns (k2+1+1) c)⟩) ?_).trans rfl))⟩
   . refine Qg (xs:=xs) (qs:=qs++[(0,z-1)]) nd (by omega) (by omega) hnm ((List.reverse_perm rot).nodup_iff.mpr (hperm.nodup_iff.mpr nd)) (by rw[aaO,hrl]) (λx=>by rw[List.mem_reverse]; exact hperm.mem_iff) (by rw[hz]; exact sh2) (by simp only[ps',ps,aaq,aaO,aad,aac,aav]; omega) λa b=>?_;rw[aaz,aaH,aaH,List.mem_reverse];exact Iff.rfl
   . let M:=P (pen ns (k2+1+1) c);have r1:CJ 4 ⟨lq n z Q (yS X) (yO (PP ps)) (O t) (yO (SS rot)),M⟩=some (.nx ⟨lq n z Q (yS X) (yO (PP ps.reverse)) (O t) (yO (SS rot)),M⟩):=by show some (Fl.nx ⟨lq n z Q (yS X) (some (.own (.lst (PP ps).reverse))) (O t) (yO (SS rot)),M⟩)=_;simp only[PP,List.map_reverse]
     let E:Ev:=⟨lq n z Q (yS X) (yO (PP ps.reverse)) (O t) (yO (SS rot)),M⟩;have ix:∀(i:Nat) (f:EF),i<xs.length->f E=some (.sh (.int (i:Nat)),E)->aN (aa 3) f E=some (.sh (.str (xs.getD i "")),E):=λi f h hf=>
      dI (p:=.lst (SS xs)) (q:=.int (i:Nat)) (l:=.sh X) (m:=.sh (.int (i:Nat))) rfl rfl hf rfl (λn h=>by cases h) (Dh (jJ h))
     have r2:fX 4 (bu (aj (aN (aa 3) (adE 0)) (aj (aN (aa 3) (aC ik (aa 1) (adE 1))) ao))) E=some (.nx ⟨lq n z Q (yS X) (yO (PP ps')) (O t) (yO (SS rot)),M⟩):=by
      refine lE (i:=4) (ws0:=PP ps.reverse) (ws:=PP ps.reverse) (l:=.sh (.tup [.str (xs.getD 0 ""),.str (xs.getD (z-1) "")])) (p:=.tup [.str (xs.getD 0 ""),.str (xs.getD (z-1) "")]) (Y1:=E) rfl (dG (ls:=[.sh (.str (xs.getD 0 "")),.sh (.str (xs.getD (z-1) ""))]) (aB (ix 0 _ (by omega) rfl) (aB (ix (z-1) _ (by omega) ?_) rfl)) rfl rfl) rfl rfl ?_ ?_
      . show some (Lc.sh (.int ((z:Int)-1)),E)=_;rw[show ((z:Int)-1)=((z-1:Nat):Int) by omega]
      . simp only[PP,ps,aad,aaO]; omega
      . simp only[ps',PP,aaz,aao,aby]; rfl
     have r3:CJ 6 ⟨lq n z Q (yS X) (yO (PP ps')) (O t) (yO (SS rot)),M⟩=some (.nx ⟨lq n z Q (yS X) (yO (PP ps')) (O t) (yO (SS rot.reverse)),M⟩):=by show some (Fl.nx ⟨lq n z Q (yS X) (yO (PP ps')) (O t) (some (.own (.lst (SS rot).reverse))),M⟩)=_;simp only[SS,List.map_reverse]
     exact aD r1 (aD r2 r3)
 . refine⟨rot,ps,k2+1+1,?_,by omega,by omega,λc P n S=>aX (Y:=⟨lq n z Q (yS X) (zP ps) (O t) (zS rot),P (pen ns (k2+1+1) c)⟩) (run c P n S _ _ ((bM (tv c P n S _ λ_=>rfl) (abU hv)).trans rfl))⟩;exact Qg (xs:=xs) (qs:=qs) nd (by omega) (by omega) hnm (hperm.nodup_iff.mpr nd) hrl (λx=>hperm.mem_iff) (by rw[hz]; exact sh1) (by simp only[ps,aad]; omega) λa b=>Iff.rfl
abbrev Pm (mu:Mu) (L:List (Option PV)) (x:PV):Mu:=mu++some x::L
theorem jY {mu:Mu} {L:List (Option PV)}:Spot (Pm mu L) mu.length:=⟨λx=>by simp[Pm],λx y=>by simp[Pm]⟩
theorem tQ {α β γ:Type} {ns:Sc} (bimg:β->PV) (img:α->PV) (good:α->Prop) (cost:α->Nat) (b:Int) (hb:0<=b) (bn:BF) (body:SF) (J:γ->List PV->PV->Ev->Prop) (K:Int):
 ∀(ys:List β) (k c:Int),(∀y∈ys,∀k c,0<=k->0<=c->c<=ns.m->k+2000*(ns.m-c)<=K->∃(a:α) (k':Int),good a/\k<=k'/\c+(cost a:Int)<=ns.m/\k'<=k+2000*(cost a:Int)+b/\∀mu acc Y,J mu acc (pen ns k c) Y->acc.length<1000->∃Y1 Y2,bn (bimg y) Y=some Y1/\body Y1=some (.nx Y2)/\J mu (acc++[img a]) (pen ns k' (c+(cost a:Int))) Y2)->
  0<=k->0<=c->c<=ns.m->k+2000*(ns.m-c)+b*ys.length<=K->∃(as:List α) (k':Int),as.length=ys.length/\(∀a∈as,good a)/\k<=k'/\c+((as.map cost).sum:Nat)<=ns.m/\k'<=k+2000*((as.map cost).sum:Nat)+b*ys.length/\∀mu acc Y,acc.length+ys.length<=1000->J mu acc (pen ns k c) Y->∃Y',cU bn body (ys.map bimg) Y=some (.nx Y')/\J mu (acc++as.map img) (pen ns k' (c+((as.map cost).sum:Nat))) Y'
 | [],k,c,H,h0,hc,hm,hK=>by refine⟨[],k,rfl,λa h=>(by cases h),by omega,by simpa using hm,by simp,λmu acc Y _ hJ=>⟨Y,rfl,by simpa using hJ⟩⟩
 | y::ys,k,c,H,h0,hc,hm,hK=>by
  rw[aac,nG]at hK;have bm:0<=b*(ys.length:Int):=Int.mul_nonneg hb (by omega);obtain⟨a,k1,ga,ka,c1,kb,ea⟩:=H y aab k c h0 hc hm (by omega);obtain⟨as,k2,hl,hg,kc,c2,kd,ih⟩:=tQ bimg img good cost b hb bn body J K ys k1 (c+(cost a:Int)) (λy hy=>H y (aai _ hy)) (by omega) (by omega) c1 (by omega);have es:(((a::as).map cost).sum:Nat)=cost a+(as.map cost).sum:=by simp
  refine⟨a::as,k2,by simp[hl],λz hz=>?_,by omega,by rw[es]; omega,by rw[aac,nG,es]; omega,λmu acc Y hacc hJ=>?_⟩
  . rcases aah.mp hz with rfl | hz
    . exact ga
    . exact hg z hz
  . simp only[aac]at hacc;obtain⟨Y1,Y2,e1,e2,hJ2⟩:=ea mu acc Y hJ (by omega);obtain⟨Y3,e3,hJ3⟩:=ih mu (acc++[img a]) Y2 (by simp; omega) hJ2;refine⟨Y3,dH e1 e2 e3,?_⟩;rw[es,show c+((cost a+(as.map cost).sum:Nat):Int)=c+(cost a:Int)+((as.map cost).sum:Nat) by omega];simpa using hJ3
theorem yw {ns:Sc} {ts:List Str} (hn:ns.l.length<=63) (ht:ts≠[]) {k:Int} (h0:0<=k) (h1:k<99000000):∃(r:Option Str) (k':Int),k<=k'/\k'<=k+2/\∀c,Dr ns (λn mu=>gh [.ptr n,.lst (SS ts)] mu) k c k' c (.sh (jN r)):=by
 obtain⟨a,a0,a1,ea⟩:=fW (ns:=ns) (m:=10) hn h0 (by omega) (by decide);let V:Nat->List (Option Lc):=λn=>[yS (.ptr n),zS ts];have t:∀P n c,Spot P n->tT (aC iV (fZ (aa 0) (adE 10)) (aN (aa 0) (adE 4))) aV ⟨V n,P (pen ns k c)⟩=some (decide (a<ns.g),⟨V n,P (pen ns (k+1) c)⟩):=λP n c S=>
  eF (l:=.sh (.bl (decide (a<ns.g)))) (p:=.bl (decide (a<ns.g))) (bj (x:=.sh (.int a)) (y:=.sh (.int ns.g)) (ea P n c S _ _ _ (λ_=>rfl) λ_=>rfl) (rH (n:=n) (k:=4) (l:=.sh (.ptr n)) (m:=.sh (.int 4)) (Y1:=⟨V n,P (pen ns (k+1) c)⟩) rfl rfl rfl rfl (S.g _) rfl) rfl) rfl rfl
 by_cases h:a<ns.g
 . exact⟨none,k+1,by omega,by omega,λc P n S=>aX (r:=.sh .non) (Y:=⟨V n,P (pen ns (k+1) c)⟩) (dO (t P n c S) (abV h) rfl)⟩
 . obtain⟨x,hx,ex⟩:=nF (ns:=ns) (k:=k+1) hn (by omega) (by omega) ht;exact⟨some x,k+1+1,by omega,by omega,λc P n S=>aX (Y:=⟨V n,P (pen ns (k+1+1) c)⟩) ((bM (t P n c S) (abU h)).trans (cJ (ex P n c S _ _ _ (λ_=>rfl) λ_=>rfl)))⟩
theorem Et {ns:Sc} {m:Int} (hn:ns.l.length<=63) (hm:0<m) (hm5:m<=5) (q:Nat) (hq:q<=10) {k:Int} (h0:0<=k) (h1:k<99000000):∃(as:List Nat) (k':Int),as.length=q/\(∀a∈as,(a:Int)<m)/\k<=k'/\k'<=k+q/\∀P n c,Spot P n->dj (aA 0) bK (fZ (aa 1) (adE m)) (mq 0 q) ⟨[none,yS (.ptr n)],P (pen ns k c)⟩ []=some (as.map λa:Nat=>PV.int (a:Nat),P (pen ns k' c)):=by
 obtain⟨as,k',hl,hg,ka,kb,ec⟩:=tO (ns:=ns) (α:=Nat) (λa=>.int (a:Nat)) (λa=>(a:Int)<m) 1 (by decide) (fZ (aa 1) (adE m)) (λn=>[yS (.ptr n)]) 99500000 (λk h0 h1=>by obtain⟨r,r0,r1,er⟩:=fW (ns:=ns) (m:=m) (k:=k) hn h0 (by omega) hm;obtain⟨a,rfl⟩:=Int.eq_ofNat_of_zero_le r0;exact⟨a,k+1,r1,by omega,by omega,λP n c S o=>⟨.sh (.int (a:Nat)),er P n c S _ _ _ (λ_=>rfl) λ_=>rfl,rfl⟩⟩) q k h0 (by omega)
 refine⟨as,k',hl,hg,ka,by omega,λP n c S=>?_⟩;have:=ec P n c S none [] (mq 0 q) yd (by simp; omega);simpa using this
theorem Qh {ns:Sc} (hn:ns.l.length<=63) {k:Int} (h0:0<=k) (h1:k<98000000):∃(cs:List Nat) (k':Int),(∀a∈cs,a<=4)/\cs.length+cs.sum<=12/\k<=k'/\k'<=k+8/\∀c,Dr ns (λn mu=>qu [.ptr n] mu) k c k' c (.own (.lst (cs.map λa:Nat=>PV.int (a:Nat)))):=by
 obtain⟨w,w0,w1,ew⟩:=fW (ns:=ns) (m:=6) hn h0 (by omega) (by decide);let V:Nat->List (Option Lc):=λn=>[yS (.ptr n),zI w];have st:∀P n c,Spot P n->aK 1 (fZ (aa 0) (adE 6)) (env0 2 [.ptr n] (P (pen ns k c)))=some (.nx ⟨V n,P (pen ns (k+1) c)⟩):=λP n c S=>aZ (ew P n c S _ _ _ (λ_=>rfl) λ_=>rfl) rfl rfl;have te:∀(i:Int) n mu,tT (aC eqP (aa 1) (adE i)) aV ⟨V n,mu⟩=some (decide (w=i),⟨V n,mu⟩):=λi n mu=>vD rfl;have sm:∀(b:Nat) (as:List Nat),(∀a∈as,a<=b)->as.sum<=b*as.length:=λb as=>by
  induction as with
  | nil=>intro _; simp
  | cons a as ih=>
   intro h;have h1:=ih λx hx=>h x (aai _ hx);have h2:=h a aab;rw[List.sum_cons,aac,Nat.mul_succ]; omega
 by_cases e0:w=0
 . obtain⟨as,k',hl,hg,ka,kb,ec⟩:=Et (ns:=ns) (m:=2) hn (by decide) (by decide) 6 (by decide) (k:=k+1) (by omega) (by omega);refine⟨as,k',λa ha=>by have:=hg a ha; omega,by have:=sm 1 as (λa ha=>by have:=hg a ha; omega); omega,by omega,by omega,λc P n S=>aX (Y:=⟨V n,P (pen ns k' c)⟩) (aD (st P n c S) (dO (te 0 _ _) (abV e0) (cJ (cM (m:=1) (ixs:=[0]) (Y1:=⟨V n,P (pen ns (k+1) c)⟩) (ji (l:=.sh (.int 6)) (n:=6) rfl rfl (by decide) (by decide)) (ec P n c S)))))⟩
 . by_cases e1:w=1
   . obtain⟨r,r0,r1,er⟩:=fW (ns:=ns) (m:=4) (k:=k+1) hn (by omega) (by omega) (by decide);obtain⟨a,rfl⟩:=Int.eq_ofNat_of_zero_le r0;refine⟨[4,a],k+1+1,λx hx=>?_,by simp; omega,by omega,by omega,λc P n S=>aX (Y:=⟨V n,P (pen ns (k+1+1) c)⟩) (aD (st P n c S) ((bM (te 0 _ _) (abU e0)).trans (dO (te 1 _ _) (abV e1) (cJ (mD (ls:=[.sh (.int 4),.sh (.int (a:Nat))]) (aB (Y1:=⟨V n,P (pen ns (k+1) c)⟩) rfl (aB (er P n c S _ _ _ (λ_=>rfl) λ_=>rfl) rfl)) rfl rfl)))))⟩;rcases aah.mp hx with rfl | hx
     . omega
     . rw[aaF.mp hx]; omega
   . obtain⟨r,r0,r1,er⟩:=fW (ns:=ns) (m:=4) (k:=k+1) hn (by omega) (by omega) (by decide);obtain⟨q,rfl⟩:=Int.eq_ofNat_of_zero_le r0;obtain⟨as,k',hl,hg,ka,kb,ec⟩:=Et (ns:=ns) (m:=3) hn (by decide) (by decide) q (by omega) (k:=k+1+1) (by omega) (by omega);refine⟨as,k',λa ha=>by have:=hg a ha; omega,by have:=sm 2 as (λa ha=>by have:=hg a ha; omega); omega,by omega,by omega,λc P n S=>aX (Y:=⟨V n,P (pen ns k' c)⟩) (aD (st P n c S) ((bM (te 0 _ _) (abU e0)).trans ((bM (te 1 _ _) (abU e1)).trans (cJ (cM (m:=1) (ixs:=[0]) (xs:=mq 0 q) (Y1:=⟨V n,P (pen ns (k+1+1) c)⟩) (ji (l:=.sh (.int (q:Nat))) (n:=(q:Nat)) (aB (er P n c S _ _ _ (λ_=>rfl) λ_=>rfl) rfl) rfl (by omega) (by omega)) (ec P n c S))))))⟩
abbrev vU (h:Str×List Str):PV:=.tup [.str h.1,.lst (SS h.2)]
def RT (h:Str×List Str):Prop:=Sh h.1/\h.2.length<=4/\∀x∈h.2,Sh x
theorem XX {xs:List Str} {l h:Nat}:lD (SS xs) (some (l:Int)) (some (h:Int))=SS ((xs.drop (min l xs.length)).take (min h xs.length-min l xs.length)):=by unfold lD;simp only[SS,aad,List.map_take,List.map_drop];have e:∀q d:Nat,HT.sIx xs.length d (some (q:Int))=min q xs.length:=λq d=>HT.sIx_nat _ _ _;rw[e,e]
abbrev BV (n:Nat) (N:PV) (at':Int) (l o:Option Lc) (mu:Mu):Ev:=⟨[yS (.ptr n),yS N,yS (.int at'),l,o],mu⟩
theorem RV {ns:Sc} {xs:List Str} (hn:ns.l.length<=63) (hx:xs.length=24) (hs:∀x∈xs,Sh x) {k:Int} (h0:0<=k) (h1:k<98000000):∃(hd:Nat->List (Str×List Str)) (k':Int),k<=k'/\k'<=k+8/\∀at':Nat,at'<=12->(∀h∈hd at',RT h)/\(hd at').length<=12/\∀c,Dr ns (λn mu=>n8 [.ptr n,.lst (SS xs),.int (at':Nat)] mu) k c k' c (.own (.lst ((hd at').map vU))):=by
 obtain⟨cs,k',h4,h12,ka,kb,ec⟩:=Qh (ns:=ns) hn h0 h1;let par:Nat->Nat->List Str:=λp a=>(xs.drop (min (p+1) xs.length)).take (min (p+1+a) xs.length-min (p+1) xs.length);let rec_:List Nat->Nat->List (Str×List Str):=λcs=>cs.rec (λ_=>[]) (λa _ ih p=>(xs.getD p "",par p a)::ih (p+1+a));have parOk:∀p a,a<=4->(par p a).length<=4/\∀x∈par p a,Sh x:=λp a ha=>by refine⟨?_,λx hx'=>hs x (List.mem_of_mem_drop (List.mem_of_mem_take hx'))⟩;simp only[par,aa4,aa7];omega
 have recOk:∀(cs:List Nat) (p:Nat),(∀a∈cs,a<=4)->p+cs.length+cs.sum<=24->(∀h∈rec_ cs p,RT h)/\(rec_ cs p).length=cs.length:=λcs=>by
  induction cs with
  | nil=>intro p _ _; exact⟨λh hh=>(by cases hh),rfl⟩
  | cons a cs ih=>
   intro p ha hp;simp only[aac,List.sum_cons]at hp;obtain⟨i1,i2⟩:=ih (p+1+a) (λx hx=>ha x (aai _ hx)) (by omega);obtain⟨p1,p2⟩:=parOk p a (ha a aab);refine⟨λh hh=>?_,by show ((xs.getD p "",par p a)::rec_ cs (p+1+a)).length=_; rw[aac,i2,aac]⟩;rcases aah.mp (show h∈(xs.getD p "",par p a)::rec_ cs (p+1+a) from hh) with rfl | hh
   . exact⟨hs _ (aaw (jJ (xs:=xs) (i:=p) (by omega))),p1,p2⟩
   . exact i1 h hh
 refine⟨rec_ cs,k',ka,kb,λat' hat=>⟨(recOk cs at' h4 (by omega)).1,by rw[(recOk cs at' h4 (by omega)).2]; omega,λc P n S=>?_⟩⟩;let M:=P (pen ns k' c);have loop:∀(cs:List Nat) (p:Nat) (acc:List PV) (o:Option Lc),p+cs.length+cs.sum<=24->acc.length+cs.length<=100->∃p' o',cU (aA 4) (aG (fX 3 (bu (aj (aN (aa 1) (aa 2)) (aj (jo (aa 1) (fD (aC bh (aa 2) (adE 1))) (fD (aC bh (aC bh (aa 2) (adE 1)) (aa 4)))) ao)))) (aK 2 (aC bh (aC bh (aa 2) (adE 1)) (aa 4)))) (cs.map λa:Nat=>PV.int (a:Nat)) (BV n (.lst (SS xs)) (p:Nat) (yO acc) o M)=some (.nx (BV n (.lst (SS xs)) p' (yO (acc++(rec_ cs p).map vU)) o' M)):=λcs=>by
  induction cs with
  | nil=>intro p acc o _ _; exact⟨_,o,by show some (Fl.nx (BV n (.lst (SS xs)) (p:Nat) (yO acc) o M))=_; simp[rec_]; rfl⟩
  | cons a cs ih=>
   intro p acc o hp hacc;simp only[aac,List.sum_cons]at hp hacc;obtain⟨p',o',e⟩:=ih (p+1+a) (acc++[vU (xs.getD p "",par p a)]) (zI (a:Nat)) (by omega) (by simp; omega);let E:=BV n (.lst (SS xs)) (p:Nat) (yO acc) (zI (a:Nat)) M;refine⟨p',o',dH (Y1:=E) (Y2:=BV n (.lst (SS xs)) ((p+1+a:Nat):Int) (some (.own (.lst (acc++[vU (xs.getD p "",par p a)])))) (zI (a:Nat)) M) rfl (aD (Y':=BV n (.lst (SS xs)) (p:Nat) (some (.own (.lst (acc++[vU (xs.getD p "",par p a)])))) (zI (a:Nat)) M) ?_ ?_) (e.trans ?_)⟩
   . refine lE (i:=3) (ws0:=acc) (ws:=acc) (l:=.sh (vU (xs.getD p "",par p a))) (p:=vU (xs.getD p "",par p a)) (Y1:=E) rfl (dG (ls:=[.sh (.str (xs.getD p "")),.own (.lst (SS (par p a)))]) (aB (Y1:=E) (dI (p:=.lst (SS xs)) (q:=.int (p:Nat)) (l:=wS xs) (m:=.sh (.int (p:Nat))) rfl rfl rfl rfl (λn h=>by cases h) (Dh (jJ (by omega)))) (aB (Y1:=E) ?_ rfl)) rfl rfl) rfl rfl (by omega) rfl;refine(Do (l:=wS xs) (a:=some ((p+1:Nat):Int)) (b:=some ((p+1+a:Nat):Int)) rfl rfl (lN (l:=.sh (.int ((p+1:Nat):Int))) rfl rfl) (lN (l:=.sh (.int ((p+1+a:Nat):Int))) ?_ rfl)).trans (by rw[XX]);show some (Lc.sh (.int ((p:Int)+1+(a:Int))),E)=_;rw[show ((p:Int)+1+(a:Int))=((p+1+a:Nat):Int) by omega]
   . show some (Fl.nx (BV n (.lst (SS xs)) ((p:Int)+1+(a:Int)) _ _ M))=_;rw[show ((p:Int)+1+(a:Int))=((p+1+a:Nat):Int) by omega];rfl
   . rw[aaC]; rfl
 obtain⟨p',o',e⟩:=loop cs at' [] none (by omega) (by simp only[aav]; omega);let E0:Ev:=BV n (.lst (SS xs)) (at':Nat) (yO []) none (P (pen ns k c));refine aX (Y:=⟨[yS (.ptr n),zS xs,yS (.int p'),none,o'],M⟩) (aD (Y':=E0) rfl (aD (dq (xs:=cs.map λa:Nat=>PV.int (a:Nat)) (Y1:=BV n (.lst (SS xs)) (at':Nat) (yO []) none M) (fU (l:=.own (.lst (cs.map λa:Nat=>PV.int (a:Nat)))) (aY (ls:=[.sh (.ptr n)]) (ps:=[.ptr n]) (Y1:=E0) rfl rfl rfl rfl (ec c P n S)) rfl) e) ?_));rw[aaE]; rfl
theorem Vp {f:EF} {p:PV} {Y Y1:Ev} {n:Nat} (h:f Y=some (.own p,Y1)) (hn:Y1.mu.length=n):Aj f Y=some (.sh (.ptr n),⟨Y1.vs,Y1.mu++[some p]⟩):=by unfold Aj;rw[h,aaa,hn]
theorem xQ {ns:Sc} {k q:Int} {fb:EF} {L:List Int} (hn:ns.l.length<=63) (h0:0<=k) (h1:k<99000000) (hl:(L.length:Int)=q) (hq:0<q) (hp:∀x∈L,0<x/\x<=1000) (hb:∀Y,fb Y=some (.own (.lst (L.map PV.int)),Y)):∃(m:Nat) (x:Int),x∈L/\(m:Int)<x/\(∀P n c,Spot P n->∀vs,(∀mu,aa 0 ⟨vs,mu⟩=some (.sh (.ptr n),⟨vs,mu⟩))->aN fb (fZ (aa 0) (adE q)) ⟨vs,P (pen ns k c)⟩=some (.sh (.int x),⟨vs,P (pen ns (k+1) c)⟩))/\∀P n c,Spot P n->∀vs,(∀mu,aa 0 ⟨vs,mu⟩=some (.sh (.ptr n),⟨vs,mu⟩))->fQ (aj (fZ (aa 0) (aN fb (fZ (aa 0) (adE q)))) ao) ⟨vs,P (pen ns k c)⟩=some ((List.range m).map λi:Nat=>.int (0+(i:Int)),⟨vs,P (pen ns (k+1+1) c)⟩):=by
 obtain⟨r,r0,r1,er⟩:=fW (ns:=ns) (m:=q) hn h0 (by omega) hq;obtain⟨p,h2,h3⟩:=jQ (l:=L.map PV.int) (i:=r) r0 (by rw[aad]; omega);rw[aay]at h3;obtain⟨x,hx,rfl⟩:=abZ h3;have hxm:=aaw hx;obtain⟨v,v0,v1,ev⟩:=yt (ns:=ns) (m:=x) (k:=k+1) hn (by omega) (by omega) (hp x hxm).1;obtain⟨m,rfl⟩:=Int.eq_ofNat_of_zero_le v0;have pk:∀P n c,Spot P n->∀vs,(∀mu,aa 0 ⟨vs,mu⟩=some (.sh (.ptr n),⟨vs,mu⟩))->aN fb (fZ (aa 0) (adE q)) ⟨vs,P (pen ns k c)⟩=some (.sh (.int x),⟨vs,P (pen ns (k+1) c)⟩):=λP n c S vs hv=>
  dI (p:=.lst (L.map PV.int)) (q:=.int r) (l:=.own (.lst (L.map PV.int))) (m:=.sh (.int r)) (hb _) rfl (er P n c S _ _ vs hv λ_=>rfl) rfl (λn h=>by cases h) (by show (dW (L.map PV.int) r).map _=_; rw[h2]; rfl)
 refine⟨m,x,hxm,v1,pk,λP n c S vs hv=>?_⟩;have e:fZ (aa 0) (aN fb (fZ (aa 0) (adE q))) ⟨vs,P (pen ns k c)⟩=some (.sh (.int (m:Nat)),⟨vs,P (pen ns (k+1+1) c)⟩):=aY (ls:=[.sh (.ptr n),.sh (.int x)]) (ps:=[.ptr n,.int x]) (Y1:=⟨vs,P (pen ns (k+1) c)⟩) (aB (hv _) (aB (pk P n c S vs hv) rfl)) rfl rfl rfl (ev P n c S);have hx8:=(hp x hxm).2;exact(ji (l:=.sh (.int (m:Nat))) (n:=(m:Nat)) (aB e rfl) rfl (by omega) (by omega)).trans (by rw[abA]; rfl)
theorem RW {α:Type}:∀as:List α,(as.map λ_=>0).sum=0
 | []=>rfl
 | _::as=>by rw[aao,List.sum_cons,RW as]
abbrev GE (n:Nat) (R N:PV) (b:Nat) (o4 o5 o6 o7 o8 o9 o10 o11 o12 o13 o14 o15 o16:Option Lc):List (Option Lc):=[yS (.ptr n),yS R,yS N,yS (.ptr b),o4,o5,o6,o7,o8,o9,o10,o11,o12,o13,o14,o15,o16]
theorem RX {ns:Sc} {ts xs:List Str} (hn:ns.l.length<=63) (ht:ts≠[]) (hx:xs.length=24) (hs:∀x∈xs,Sh x) (m:Nat) (hm:m<=11) {k c:Int} (h0:0<=k) (hc:0<=c) (hcm:c<=ns.m) (hb:k+2000*(ns.m-c)<=40000000):∃(as:List Bx) (k':Int),as.length=m/\(∀a∈as,Sh a.1)/\k<=k'/\k'<=k+3*m/\∀mu acc o4,acc.length+m<=1000->
 ∃q4,cU (aA 4) (yf (aa 3) (bu (aj (aN (aa 2) (aC bh (adE 1) (aa 4))) (aj (eB max2 (aj (adE 0) (aj (aC ik (fZ (aa 0) (adE 13)) (adE 4)) ao))) (aj (aF gh (aj (aa 0) (aj (aa 1) ao))) ao))))) ((List.range m).map λi:Nat=>.int (0+(i:Int))) ⟨GE mu.length (.lst (SS ts)) (.lst (SS xs)) (mu.length+1) o4 none none none none none none none none none none none none,Pm mu [some (.lst acc)] (pen ns k c)⟩=some (.nx ⟨GE mu.length (.lst (SS ts)) (.lst (SS xs)) (mu.length+1) q4 none none none none none none none none none none none none,Pm mu [some (.lst (acc++as.map dw))] (pen ns k' c)⟩):=by
 obtain⟨as,k',hl,hg,ka,_,kb,e⟩:=tQ (ns:=ns) (λi:Nat=>PV.int (0+(i:Int))) dw (λa=>Sh a.1) (λ_=>0) 3 (by decide) (aA 4) (yf (aa 3) (bu (aj (aN (aa 2) (aC bh (adE 1) (aa 4))) (aj (eB max2 (aj (adE 0) (aj (aC ik (fZ (aa 0) (adE 13)) (adE 4)) ao))) (aj (aF gh (aj (aa 0) (aj (aa 1) ao))) ao)))))
  (λmu acc p Y=>∃o4,Y=⟨GE mu.length (.lst (SS ts)) (.lst (SS xs)) (mu.length+1) o4 none none none none none none none none none none none none,Pm mu [some (.lst acc)] p⟩) 50000000 (List.range m) k c (λi hi k c h0 hc hcm hK=>by
    have him:=List.mem_range.mp hi;obtain⟨r,r0,r1,er⟩:=fW (ns:=ns) (m:=13) (k:=k) hn h0 (by omega) (by decide);obtain⟨rk,k1,ka,kb,ek⟩:=yw (ns:=ns) (ts:=ts) (k:=k+1) hn ht (by omega) (by omega);let sz:Int:=if (0:Int)<r-4 then r-4 else 0
    refine⟨(xs.getD (1+i) "",sz,rk),k1,hs _ (aaw (jJ (xs:=xs) (i:=1+i) (by omega))),by omega,by simpa using hcm,by simp; omega,?_⟩;rintro mu acc _ ⟨o4,rfl⟩ hacc;let V:=GE mu.length (.lst (SS ts)) (.lst (SS xs)) (mu.length+1) (zI (0+(i:Int))) none none none none none none none none none none none none;let A:=Pm mu [some (.lst acc)];have x1:fZ (aa 0) (adE 13) ⟨V,A (pen ns k c)⟩=some (.sh (.int r),⟨V,A (pen ns (k+1) c)⟩):=er A mu.length c jY _ _ V (λ_=>rfl) λ_=>rfl;have x2:aF gh (aj (aa 0) (aj (aa 1) ao)) ⟨V,A (pen ns (k+1) c)⟩=some (.sh (jN rk),⟨V,A (pen ns k1 c)⟩):=aY (ls:=[.sh (.ptr mu.length),wS ts]) (ps:=[.ptr mu.length,.lst (SS ts)]) (Y1:=⟨V,A (pen ns (k+1) c)⟩) rfl rfl rfl rfl (ek c A mu.length jY);have x3:aN (aa 2) (aC bh (adE 1) (aa 4)) ⟨V,A (pen ns k c)⟩=some (.sh (.str (xs.getD (1+i) "")),⟨V,A (pen ns k c)⟩):=by refine dI (p:=.lst (SS xs)) (q:=.int ((1+i:Nat):Int)) (l:=wS xs) (m:=.sh (.int ((1+i:Nat):Int))) rfl rfl ?_ rfl (λn h=>by cases h) (Dh (jJ (by omega)));show some (Lc.sh (.int (1+(0+(i:Int)))),_)=_;rw[show (1+(0+(i:Int)))=((1+i:Nat):Int) by omega];rfl
    have x4:eB max2 (aj (adE 0) (aj (aC ik (fZ (aa 0) (adE 13)) (adE 4)) ao)) ⟨V,A (pen ns k c)⟩=some (.sh (.int sz),⟨V,A (pen ns (k+1) c)⟩):=
     tR (ls:=[.sh (.int 0),.sh (.int (r-4))]) (ps:=[.int 0,.int (r-4)]) (aB rfl (aB (bj (x:=.sh (.int r)) (y:=.sh (.int 4)) x1 rfl rfl) rfl)) rfl rfl
    have x5:=dG (ls:=[.sh (.str (xs.getD (1+i) "")),.sh (.int sz),.sh (jN rk)]) (ps:=[.str (xs.getD (1+i) ""),.int sz,jN rk]) (aB x3 (aB x4 (aB x2 (show ao _=some ([],_) from rfl)))) rfl rfl;refine⟨⟨V,A (pen ns k c)⟩,_,rfl,Vd (o:=.sh (.ptr (mu.length+1))) (n:=mu.length+1) (ws0:=acc) (ws:=acc) (Y1:=⟨V,A (pen ns k c)⟩) (y:=.sh (dw (xs.getD (1+i) "",sz,rk))) (p:=dw (xs.getD (1+i) "",sz,rk)) (mu:=Pm mu [some (.lst (acc++[dw (xs.getD (1+i) "",sz,rk)]))] (pen ns k1 c)) rfl rfl (by simp[A,Pm]) x5 rfl (by simp[A,Pm]) (by omega) (by simp[A,Pm]),?_⟩
    . exact⟨zI (0+(i:Int)),by simp[V]⟩) h0 hc hcm (by rw[aaJ]; omega)
 have z0:(as.map λ_=>0).sum=0:=RW as;refine⟨as,k',by rw[hl,aaJ],hg,ka,by rw[aaJ]at kb; omega,λmu acc o4 hacc=>?_⟩;obtain⟨Y',e1,q4,rfl⟩:=e mu acc _ (by rw[aaJ]; exact hacc) ⟨o4,rfl⟩;refine⟨q4,e1.trans ?_⟩;simp[z0]
theorem Mz {ns:Sc} {ts xs:List Str} (hn:ns.l.length<=63) (ht:ts≠[]) (hx:xs.length=24) (m:Nat) (hm:m<=6) {k c:Int} (h0:0<=k) (hc:0<=c) (hcm:c<=ns.m) (hb:k+2000*(ns.m-c)<=40000000):∃(as:List Gr) (k':Int),as.length=m/\k<=k'/\k'<=k+2*m/\∀mu (BX:PV) o4 o6,
 ∃q4 q6,cU (aA 4) (aG (aK 6 (uK (aa 0) (aa 1))) (fX 5 (bu (aj (aN (aa 2) (aC eQ (aC gU (adE 5) (aa 4)) (adE 24))) (aj (aa 6) (aj (uK (aa 0) (aa 1)) ao)))))) ((List.range m).map λi:Nat=>.int (0+(i:Int))) ⟨GE mu.length (.lst (SS ts)) (.lst (SS xs)) (mu.length+1) o4 (yO []) o6 none none none none none none none none none none,Pm mu [some BX] (pen ns k c)⟩=some (.nx ⟨GE mu.length (.lst (SS ts)) (.lst (SS xs)) (mu.length+1) q4 (yO (as.map lL)) q6 none none none none none none none none none none,Pm mu [some BX] (pen ns k' c)⟩):=by
 obtain⟨as,k',hl,_,ka,_,kb,e⟩:=tQ (ns:=ns) (λi:Nat=>PV.int (0+(i:Int))) lL (λ_=>True) (λ_=>0) 2 (by decide) (aA 4) (aG (aK 6 (uK (aa 0) (aa 1))) (fX 5 (bu (aj (aN (aa 2) (aC eQ (aC gU (adE 5) (aa 4)) (adE 24))) (aj (aa 6) (aj (uK (aa 0) (aa 1)) ao))))))
  (λmu acc p Y=>∃mu0 BX o4 o6,mu=mu0++[some BX]/\Y=⟨GE mu0.length (.lst (SS ts)) (.lst (SS xs)) (mu0.length+1) o4 (yO acc) o6 none none none none none none none none none none,Pm mu0 [some BX] p⟩) 50000000 (List.range m) k c (λi hi k c h0 hc hcm hK=>by
    have him:=List.mem_range.mp hi;obtain⟨y,hy,ey⟩:=nF (ns:=ns) (k:=k) hn h0 (by omega) ht;obtain⟨z,hz,ez⟩:=nF (ns:=ns) (k:=k+1) hn (by omega) (by omega) ht;let w:Nat:=5*i%24;refine⟨(xs.getD w "",y,z),k+1+1,trivial,by omega,by simpa using hcm,by simp; omega,?_⟩;rintro _ acc _ ⟨mu,BX,o4,o6,rfl,rfl⟩ hacc;let V:Option Lc->List (Option Lc):=λo6=>GE mu.length (.lst (SS ts)) (.lst (SS xs)) (mu.length+1) (zI (0+(i:Int))) (yO acc) o6 none none none none none none none none none none;let A:=Pm mu [some BX];have x1:aK 6 (uK (aa 0) (aa 1)) ⟨V o6,A (pen ns k c)⟩=some (.nx ⟨V (zT y),A (pen ns (k+1) c)⟩):=aZ (ey A mu.length c jY _ _ (V o6) (λ_=>rfl) λ_=>rfl) rfl rfl;have x2:uK (aa 0) (aa 1) ⟨V (zT y),A (pen ns (k+1) c)⟩=some (.sh (.str z),⟨V (zT y),A (pen ns (k+1+1) c)⟩):=ez A mu.length c jY _ _ (V (zT y)) (λ_=>rfl) λ_=>rfl;have x3:aN (aa 2) (aC eQ (aC gU (adE 5) (aa 4)) (adE 24)) ⟨V (zT y),A (pen ns (k+1) c)⟩=some (.sh (.str (xs.getD w "")),⟨V (zT y),A (pen ns (k+1) c)⟩):=by refine dI (p:=.lst (SS xs)) (q:=.int ((w:Nat):Int)) (l:=wS xs) (m:=.sh (.int (5*(0+(i:Int))%24))) rfl rfl (bj (x:=.sh (.int (5*(0+(i:Int))))) (y:=.sh (.int 24)) (bj (x:=.sh (.int 5)) (y:=.sh (.int (0+(i:Int)))) rfl rfl (rE (by decide) (by decide))) rfl (gk (by decide))) ?_ (λn h=>by cases h) (Dh (jJ (by omega)));show PV.int (5*(0+(i:Int))%24)=_;rw[show (5*(0+(i:Int))%24)=((w:Nat):Int) by omega]
    have x4:bu (aj (aN (aa 2) (aC eQ (aC gU (adE 5) (aa 4)) (adE 24))) (aj (aa 6) (aj (uK (aa 0) (aa 1)) ao))) ⟨V (zT y),A (pen ns (k+1) c)⟩=some (.sh (lL (xs.getD w "",y,z)),⟨V (zT y),A (pen ns (k+1+1) c)⟩):=
     dG (ls:=[.sh (.str (xs.getD w "")),.sh (.str y),.sh (.str z)]) (aB x3 (aB rfl (aB x2 rfl))) rfl rfl
    refine⟨⟨V o6,A (pen ns k c)⟩,⟨GE mu.length (.lst (SS ts)) (.lst (SS xs)) (mu.length+1) (zI (0+(i:Int))) (some (.own (.lst (acc++[lL (xs.getD w "",y,z)])))) (zT y) none none none none none none none none none none,A (pen ns (k+1+1) c)⟩,rfl,aD x1 (lE (i:=5) (ws0:=acc) (ws:=acc) (l:=.sh (lL (xs.getD w "",y,z))) (p:=lL (xs.getD w "",y,z)) rfl x4 rfl rfl (by omega) rfl),mu,BX,zI (0+(i:Int)),zT y,rfl,?_⟩;simp[A]) h0 hc hcm (by rw[aaJ]; omega)
 have z0:(as.map λ_=>0).sum=0:=RW as;refine⟨as,k',by rw[hl,aaJ],ka,by rw[aaJ]at kb; omega,λmu BX o4 o6=>?_⟩;obtain⟨Y',e1,mu1,BX1,q4,q6,hm1,rfl⟩:=e (mu++[some BX]) [] _ (by rw[aaJ,aav]; omega) ⟨mu,BX,o4,o6,rfl,rfl⟩;obtain⟨rfl,h2⟩:=List.append_inj' hm1 rfl;injection h2 with h2 _;injection h2 with h2;subst h2;refine⟨q4,q6,e1.trans ?_⟩;simp[z0]
theorem uf {b:BF} {tc:TF} {te:EF} {α:Type} (img:α->PV) (pr:α->Bool) (g:α->PV) {mu:Mu} (h:∀a o,b (img a) ⟨[o],mu⟩=some ⟨[yS (img a)],mu⟩/\tc ⟨[yS (img a)],mu⟩=some (pr a,⟨[yS (img a)],mu⟩)/\te ⟨[yS (img a)],mu⟩=some (.sh (g a),⟨[yS (img a)],mu⟩)):∀(xs:List α) (o:Option Lc) (acc:List PV),acc.length+xs.length<=1000->dj b tc te (xs.map img) ⟨[o],mu⟩ acc=some (acc++(xs.filter pr).map g,mu)
 | [],o,acc,_=>by simp[dj]
 | a::xs,o,acc,hl=>by
  simp only[aac]at hl;obtain⟨h1,h2,h3⟩:=h a o;show (b (img a) ⟨[o],mu⟩).bind _=_;rw[h1,aaa];show (tc ⟨[yS (img a)],mu⟩).bind _=_;rw[h2,aaa];cases hp:pr a with
  | true=>
   show (te ⟨[yS (img a)],mu⟩).bind (λv=>if acc.length<100000 then dj b tc te (xs.map img) v.2 (acc++[v.1.pv]) else none)=_;rw[h3,aaa,abR (by omega)];refine(uf img pr g h xs _ _ (by rw[aaq]; simp only[aac,aav]; omega)).trans ?_;rw[List.filter_cons_of_pos hp];simp[Lc.pv]
  | false=>
   refine(uf img pr g h xs _ _ (by omega)).trans ?_;rw[List.filter_cons_of_neg (by rw[hp]; simp)]
def bz (b:Bx):Bool:=b.2.1==0
def bp (b:Bx):Bool:=decide (0<b.2.1)
def RZ (bs:List Bx):List Str:=(bs.filter bz).map (·.1)
def ZX (bs:List Bx):List Str:=(bs.filter bp).map (·.1)
abbrev X3 (tc:TF):EF:=j5 (bJ (cR (aa 3) bI) 1 [] (aA 0) tc (aN (aa 0) (adE 0)))
theorem R0 (l:List Str):iD (SS l)=true:=Rg.flat_SS l
theorem KQ {bs:List Bx} {tc:TF} {pr:Bx->Bool} {vs:List (Option Lc)} {mu:Mu} {n:Nat} (hl:bs.length<=100) (h3:vs[3]?=some (yS (.ptr n))) (hm:mu[n]?=some (some (.lst (bs.map dw)))) (ht:∀(b:Bx) (mu:Mu),tc ⟨[yS (dw b)],mu⟩=some (pr b,⟨[yS (dw b)],mu⟩)):X3 tc ⟨vs,mu⟩=some (.own (.lst (SS ((bs.filter pr).map (·.1)))),⟨vs,mu⟩):=by
 have pq:Pq 3 (.lst (bs.map dw)):=Pr.pqB (P:=⟨bs,[],[],.nil⟩);have r:cC mu 40 (.ptr n)=.lst (bs.map dw):=by show (match mu[n]? with | some (some p)=>cC mu 39 p | _=>.ptr n)=_;rw[hm];exact pq.1 mu 39 (by decide)
 have hv:(Ev.peekD ⟨vs,mu⟩).vs[3]?=some (yL (bs.map dw)):=by show (vs.map (PL.peekD mu))[3]?=_;rw[aay,h3];show some (some (Lc.sh (cC mu 40 (.ptr n))))=_;rw[r]
 let M0:Mu:=mu.map λ_=>none;refine zr (Y1:=⟨(Ev.peekD ⟨vs,mu⟩).vs,M0⟩) (l:=.own (.lst (SS ((bs.filter pr).map (·.1))))) ?_ (R0 _);have ev:aa 3 (Ev.peekD ⟨vs,mu⟩)=some (.sh (.lst (bs.map dw)),Ev.peekD ⟨vs,mu⟩):=by unfold aa;rw[hv];show some (Lc.sh (.lst (bs.map dw)),(⟨(Ev.peekD ⟨vs,mu⟩).vs.set 3 (yL (bs.map dw)),M0⟩:Ev))=_;rw[ab0 hv];rfl
 have cf:=uf (b:=aA 0) (tc:=tc) (te:=aN (aa 0) (adE 0)) dw pr (λb=>.str b.1) (mu:=M0) (λb o=>⟨rfl,ht b M0,rfl⟩) bs none [] (by simp only[aav]; omega);rw[aaE]at cf;have:=cM (m:=1) (ixs:=[]) (xs:=bs.map dw) (show cR (aa 3) bI (Ev.peekD ⟨vs,mu⟩)=some (bs.map dw,Ev.peekD ⟨vs,mu⟩) from fU (l:=.sh (.lst (bs.map dw))) ev rfl) cf;rw[this,show ((bs.filter pr).map λb=>PV.str b.1)=SS ((bs.filter pr).map (·.1)) by show _=((bs.filter pr).map (·.1)).map PV.str; rw[aaD]; rfl];rfl
theorem BW {α β:Type} {ns:Sc} (bimg:β->PV) (img:α->PV) (good:α->Prop) (b:Int) (hb:0<=b) (te:EF) (A:Nat->List (Option Lc)) (K:Int):
 ∀(ys:List β) (k:Int),(∀y∈ys,∀k,0<=k->k<=K->∃(a:α) (k':Int),good a/\k<=k'/\k'<=k+b/\∀P n c,Spot P n->∃l,te ⟨yS (bimg y)::A n,P (pen ns k c)⟩=some (l,⟨yS (bimg y)::A n,P (pen ns k' c)⟩)/\l.pv=img a)->
  0<=k->k+b*ys.length<=K->∃(as:List α) (k':Int),as.length=ys.length/\(∀a∈as,good a)/\k<=k'/\k'<=k+b*ys.length/\∀P n c,Spot P n->∀o acc,acc.length+ys.length<=1000->dj (aA 0) bK te (ys.map bimg) ⟨o::A n,P (pen ns k c)⟩ acc=some (acc++as.map img,P (pen ns k' c))
 | [],k,H,h0,hK=>⟨[],k,rfl,λa h=>(by cases h),by omega,by simp,λP n c S o acc _=>by simp[dj]⟩
 | y::ys,k,H,h0,hK=>by
  rw[aac,nG]at hK;have bm:0<=b*(ys.length:Int):=Int.mul_nonneg hb (by omega);obtain⟨a,k1,ga,ka,kb,ea⟩:=H y aab k h0 (by omega);obtain⟨as,k2,hl,hg,kc,kd,ih⟩:=BW bimg img good b hb te A K ys k1 (λz hz=>H z (aai _ hz)) (by omega) (by omega);refine⟨a::as,k2,by simp[hl],λz hz=>?_,by omega,by rw[aac,nG]; omega,λP n c S o acc hacc=>?_⟩
  . rcases aah.mp hz with rfl | hz
    . exact ga
    . exact hg z hz
  . simp only[aac]at hacc;obtain⟨l,e1,e2⟩:=ea P n c S;have e3:=ih P n c S (yS (bimg y)) (acc++[img a]) (by simp; omega);show (te ⟨yS (bimg y)::A n,P (pen ns k c)⟩).bind (λv=>if acc.length<100000 then dj (aA 0) bK te (ys.map bimg) v.2 (acc++[v.1.pv]) else none)=_;rw[e1,aaa,abR (by omega)];dsimp only;rw[e2,e3];simp
abbrev Jh (a b:Nat):EF:=aF gh (aj (aa a) (aj (aa b) ao))
abbrev Zd:EF:=bJ (cR (aa 14) bI) 1 [0,1] (aA 0) bK (bu (aj (aa 0) (aj (Jh 1 2) ao)))
abbrev Tu:EF:=bH (aj (aC bh (aC bh (aa 8) (bH (aj (aa 13) ao))) (aa 14)) (aj (aa 9) (aj (aa 10) (aj (aa 11) ao))))
abbrev Ze:SF:=aG (aK 15 (aF (cL 40) (aj (aa 0) (aj (adE 0) (aj Tu (aj (adE 5) ao)))))) (aG (aK 16 Zd) (fX 12 (bu (aj (aa 13) (aj (Jh 0 1) (aj (aa 16) (aj (aa 15) ao)))))))
structure Zf (f:Fd):Prop where
 ok:f.rows.ok
 out:∀x∈f.rows.fl,qJ x
 dep:f.rows.dep<=10
 nm:Sh f.name
 pl:f.params.length<=4
 ps:∀q∈f.params,Sh q.1
theorem R1 {ns:Sc} {ts xs nu li wh:List Str} {ca:List (Str×Nat)} (hn:ns.l.length<=63) (ht:ts≠[]) (hnu:nu.length<=100) (hca:∀q∈ca,q.1.length<=1000/\q.2<=10) (hs:List (Str×List Str)) (hh:∀h∈hs,RT h) (hl:hs.length<=12) {k c:Int} (h0:0<=k) (hc:0<=c) (hcm:c<=ns.m) (hb:k+2000*(ns.m-c)<=40000000):
 ∃(as:List Fd) (k':Int),as.length=hs.length/\(∀a∈as,Zf a)/\k<=k'/\c+((as.map λf=>f.rows.cnt).sum:Nat)<=ns.m/\k'<=k+2000*((as.map λf=>f.rows.cnt).sum:Nat)+11*hs.length/\∀mu (BX G H:PV) (l8 l9 l10 l11:Lc) o4 o6,l8.pv=.lst (SS nu)->l9.pv=.lst (SS li)->l10.pv=.lst (SS wh)->l11.pv=.lst (ca.map lM)->
  ∃(m8 m9 m10 m11:Lc) (q13 q14 q15 q16:Option Lc),m8.pv=.lst (SS nu)/\m9.pv=.lst (SS li)/\m10.pv=.lst (SS wh)/\m11.pv=.lst (ca.map lM)/\cU (b7 2 (aJ (aA 13) (aJ (aA 14) bZ))) Ze (hs.map vU) ⟨GE mu.length (.lst (SS ts)) (.lst (SS xs)) (mu.length+1) o4 (yS G) o6 (yS H) (some l8) (some l9) (some l10) (some l11) (yO []) none none none none,Pm mu [some BX] (pen ns k c)⟩=some (.nx ⟨GE mu.length (.lst (SS ts)) (.lst (SS xs)) (mu.length+1) o4 (yS G) o6 (yS H) (some m8) (some m9) (some m10) (some m11) (yO (as.map λf=>f.fn.pv)) q13 q14 q15 q16,Pm mu [some BX] (pen ns k' (c+((as.map λf=>f.rows.cnt).sum:Nat)))⟩):=by
 obtain⟨as,k',hl',hg,ka,cm,kb,e⟩:=tQ (ns:=ns) vU (λf:Fd=>f.fn.pv) Zf (λf=>f.rows.cnt) 11 (by decide) (b7 2 (aJ (aA 13) (aJ (aA 14) bZ))) Ze
  (λ(g:Mu×PV×PV×PV×Option Lc×Option Lc) acc p Y=>∃(o13 o14 o15 o16:Option Lc) (l8 l9 l10 l11:Lc),l8.pv=.lst (SS nu)/\l9.pv=.lst (SS li)/\l10.pv=.lst (SS wh)/\l11.pv=.lst (ca.map lM)/\Y=⟨GE g.1.length (.lst (SS ts)) (.lst (SS xs)) (g.1.length+1) g.2.2.2.2.1 (yS g.2.2.1) g.2.2.2.2.2 (yS g.2.2.2.1) (some l8) (some l9) (some l10) (some l11) (yO acc) o13 o14 o15 o16,Pm g.1 [some g.2.1] p⟩) 49000000 hs k c (λh hmem k c h0 hc hcm hK=>by
    obtain⟨name,pas⟩:=h;obtain⟨g1,g2,g3⟩:=hh _ hmem;have g2:pas.length<=4:=g2;let K:Kn:=⟨nu++[name]++pas,li,wh,ca⟩;have hK':K.ok:=⟨λh=>by simp[K]at h,hca⟩;obtain⟨rs,k1,c1,er,r1,r2,r3,r4,r5,r6,r7⟩:=IV (ns:=ns) (K:=K) (most:=5) hn hK' (by decide) (by decide) h0 hc hcm (by omega);obtain⟨qs,k2,hql,hqg,ka2,kb2,eq⟩:=BW (ns:=ns) (α:=Pa) (β:=Str) (λx=>.str x) eU (λq=>Sh q.1) 2 (by decide) (bu (aj (aa 0) (aj (Jh 1 2) ao))) (λn=>[yS (.ptr n),zS ts]) 98000000 pas k1 (λy hy k h0 h1=>by obtain⟨r,k',ka,kb,ek⟩:=yw (ns:=ns) (ts:=ts) (k:=k) hn ht h0 (by omega);refine⟨(y,r),k',g3 y hy,ka,kb,λP n c S=>⟨.sh (eU (y,r)),?_,rfl⟩⟩;exact dG (ls:=[.sh (.str y),.sh (jN r)]) (aB (Y1:=⟨[zT y,yS (.ptr n),zS ts],P (pen ns k c)⟩) rfl (aB (aY (ls:=[.sh (.ptr n),wS ts]) (ps:=[.ptr n,.lst (SS ts)]) (Y1:=⟨[zT y,yS (.ptr n),zS ts],P (pen ns k c)⟩) rfl rfl rfl rfl (ek c P n S)) rfl)) rfl rfl) (by omega) (by omega)
    obtain⟨rk,k3,ka3,kb3,ek⟩:=yw (ns:=ns) (ts:=ts) (k:=k2) hn ht (by omega) (by omega);refine⟨⟨name,rk,qs,rs⟩,k3,⟨r1,r2,by show rs.dep<=10; omega,g1,by show qs.length<=4; omega,hqg⟩,by omega,by show c+(rs.cnt:Int)<=ns.m; omega,by show k3<=k+2000*(rs.cnt:Int)+11; omega,?_⟩;rintro⟨mu,BX,G,H,o4,o6⟩ acc _ ⟨o13,o14,o15,o16,l8,l9,l10,l11,e8,e9,e10,e11,rfl⟩ hacc;let A:=Pm mu [some BX];let V:Lc->Lc->Lc->Lc->Option Lc->Option Lc->Option Lc->List (Option Lc):=λa b d e o12 o15 o16=>GE mu.length (.lst (SS ts)) (.lst (SS xs)) (mu.length+1) o4 (yS G) o6 (yS H) (some a) (some b) (some d) (some e) o12 (zT name) (zS pas) o15 o16;let B:Option Lc:=yO acc;let X8:Lc:=wS nu; let X9:Lc:=wS li; let X10:Lc:=wS wh; let X11:Lc:=.sh (.lst (ca.map lM));have y1:Tu ⟨V l8 l9 l10 l11 B o15 o16,A (pen ns k c)⟩=some (.own K.pv,⟨V X8 X9 X10 X11 B o15 o16,A (pen ns k c)⟩):=by
     have z1:Tu ⟨V l8 l9 l10 l11 B o15 o16,A (pen ns k c)⟩=some (.own (.lst [.lst (SS (nu++[name]++pas)),l9.pv,l10.pv,l11.pv]),⟨V (.sh l8.pv) (.sh l9.pv) (.sh l10.pv) (.sh l11.pv) B o15 o16,A (pen ns k c)⟩):=by
      refine mD (ls:=[.own (.lst (SS (nu++[name]++pas))),.sh l9.pv,.sh l10.pv,.sh l11.pv]) (aB (Y1:=⟨V (.sh l8.pv) l9 l10 l11 B o15 o16,A (pen ns k c)⟩) (bj (x:=.own (.lst (SS (nu++[name])))) (y:=wS pas) (Y1:=⟨V (.sh l8.pv) l9 l10 l11 B o15 o16,A (pen ns k c)⟩) (bj (x:=.sh l8.pv) (y:=.own (.lst [.str name])) (Y1:=⟨V (.sh l8.pv) l9 l10 l11 B o15 o16,A (pen ns k c)⟩) rfl rfl ?_) rfl ?_) (aB (Y1:=⟨V (.sh l8.pv) (.sh l9.pv) l10 l11 B o15 o16,A (pen ns k c)⟩) rfl (aB (Y1:=⟨V (.sh l8.pv) (.sh l9.pv) (.sh l10.pv) l11 B o15 o16,A (pen ns k c)⟩) rfl (aB rfl rfl)))) rfl rfl
      . show bh l8.pv (.lst [.str name])=_;rw[e8,xK (by simp; omega),HJ]
      . show bh (.lst (SS (nu++[name]))) (.lst (SS pas))=_;rw[xK (by simp; omega)];simp[SS]
     rw[z1,e8,e9,e10,e11];rfl
    have y2:aK 15 (aF (cL 40) (aj (aa 0) (aj (adE 0) (aj Tu (aj (adE 5) ao))))) ⟨V l8 l9 l10 l11 B o15 o16,A (pen ns k c)⟩=some (.nx ⟨V X8 X9 X10 X11 B (yO rs.pvs) o16,A (pen ns k1 c1)⟩):=
     aZ (aY (ls:=[.sh (.ptr mu.length),.sh (.int 0),.own K.pv,.sh (.int 5)]) (ps:=[.ptr mu.length,.int 0,K.pv,.int 5]) (Y1:=⟨V X8 X9 X10 X11 B o15 o16,A (pen ns k c)⟩) (aB (Y1:=⟨V l8 l9 l10 l11 B o15 o16,A (pen ns k c)⟩) rfl (aB (Y1:=⟨V l8 l9 l10 l11 B o15 o16,A (pen ns k c)⟩) rfl (aB y1 (aB rfl rfl)))) rfl rfl rfl (er A mu.length jY)) rfl rfl
    have y3:aK 16 Zd ⟨V X8 X9 X10 X11 B (yO rs.pvs) o16,A (pen ns k1 c1)⟩=some (.nx ⟨V X8 X9 X10 X11 B (yO rs.pvs) (yO (qs.map eU)),A (pen ns k2 c1)⟩):=by refine aZ (l:=.own (.lst (qs.map eU))) (Y1:=⟨V X8 X9 X10 X11 B (yO rs.pvs) o16,A (pen ns k2 c1)⟩) ?_ rfl rfl;have:=eq A mu.length c1 jY none [] (by simp only[aav]; omega);rw[aaE]at this;exact cM (m:=1) (ixs:=[0,1]) (xs:=pas.map λx=>PV.str x) (Y1:=⟨V X8 X9 X10 X11 B (yO rs.pvs) o16,A (pen ns k1 c1)⟩) (fU (l:=wS pas) rfl rfl) this
    let F:Fd:=⟨name,rk,qs,rs⟩;have y4:bu (aj (aa 13) (aj (Jh 0 1) (aj (aa 16) (aj (aa 15) ao)))) ⟨V X8 X9 X10 X11 B (yO rs.pvs) (yO (qs.map eU)),A (pen ns k2 c1)⟩=some (.sh F.fn.pv,⟨V X8 X9 X10 X11 B (yL rs.pvs) (yL (qs.map eU)),A (pen ns k3 c1)⟩):=
     dG (ls:=[.sh (.str name),.sh (jN rk),.sh (.lst (qs.map eU)),.sh (.lst rs.pvs)]) (aB (Y1:=⟨V X8 X9 X10 X11 B (yO rs.pvs) (yO (qs.map eU)),A (pen ns k2 c1)⟩) rfl (aB (aY (ls:=[.sh (.ptr mu.length),wS ts]) (ps:=[.ptr mu.length,.lst (SS ts)]) (Y1:=⟨V X8 X9 X10 X11 B (yO rs.pvs) (yO (qs.map eU)),A (pen ns k2 c1)⟩) rfl rfl rfl rfl (ek c1 A mu.length jY)) (aB rfl (aB rfl rfl)))) rfl rfl
    have ec1:c1=c+(F.rows.cnt:Int):=r4;refine⟨⟨V l8 l9 l10 l11 B o15 o16,A (pen ns k c)⟩,⟨V X8 X9 X10 X11 (yO (acc++[F.fn.pv])) (yL rs.pvs) (yL (qs.map eU)),A (pen ns k3 c1)⟩,rfl,aD y2 (aD y3 (lE (i:=12) (ws0:=acc) (ws:=acc) (l:=.sh F.fn.pv) (p:=F.fn.pv) rfl y4 rfl rfl (by omega) rfl)),zT name,zS pas,yL rs.pvs,yL (qs.map eU),X8,X9,X10,X11,rfl,rfl,rfl,rfl,?_⟩;rw[ec1]) h0 hc hcm (by omega)
 refine⟨as,k',hl',hg,ka,cm,kb,λmu BX G H l8 l9 l10 l11 o4 o6 e8 e9 e10 e11=>?_⟩;obtain⟨Y',e1,q13,q14,q15,q16,m8,m9,m10,m11,f8,f9,f10,f11,rfl⟩:=e (mu,BX,G,H,o4,o6) [] _ (by simp only[aav]; omega) ⟨none,none,none,none,l8,l9,l10,l11,e8,e9,e10,e11,rfl⟩;exact⟨m8,m9,m10,m11,q13,q14,q15,q16,f8,f9,f10,f11,e1⟩
theorem R3 {x:Str} (h:nameB x=true):Sh x:=by unfold nameB zA at h;simp only[aaA,decide_eq_true_eq]at h;show x.length<=20;omega
theorem Ji:∀fs:List Fd,mZ (fs.map Fd.fn)=(fs.map λf=>f.rows.cnt).sum
 | []=>rfl
 | f::fs=>by rw[aao,aao,List.sum_cons,<-Ji fs]; rfl
structure DrP (ns:Sc) (k:Int) (ts:List Str) (P:Pr) (k' c':Int):Prop where
 good:P.good
 shal:P.shal
 nb:P.bs≠[]
 eq:∀mu:Mu,lX [.ptr mu.length,.lst (SS ts)] (mu++[some (pen ns k 0)])=some (.sh (Pp P (mu.length+1)),mu++[some (pen ns k' c'),some (.lst (P.bs.map dw)),some (.lst P.rows.pvs)])
theorem MF {ns:Sc} {ts:List Str} (hn:ns.l.length<=63) (ht:ts≠[]) (hm0:0<=ns.m) (hm:ns.m<=100) {k:Int} (h0:0<=k) (h1:k<1000000):∃(P:Pr) (k' c':Int),DrP ns k ts P k' c':=by
 obtain⟨nm,k1,nmB',_,ka1,kb1,en⟩:=Jg (ns:=ns) hn h0 (by omega);let xs:=(List.range 24).map nm;have hx:xs.length=24:=by simp[xs]
 have hs:∀x∈xs,Sh x:=λx hx=>by obtain⟨i,hi,rfl⟩:=aar.mp hx;exact R3 (nmB' i (by have:=List.mem_range.mp hi; omega))
 obtain⟨rk0,k2,ka2,kb2,ek0⟩:=yw (ns:=ns) (ts:=ts) (k:=k1) hn ht (by omega) (by omega);obtain⟨m1,x1,hx1,hm1,_,ei1⟩:=xQ (ns:=ns) (k:=k2) (q:=4) (L:=[3,3,3,12]) (fb:=bH (aj (adE 3) (aj (adE 3) (aj (adE 3) (aj (adE 12) ao))))) hn (by omega) (by omega) rfl (by decide) (by decide) (λY=>rfl);have hm1':m1<=11:=by
  have:x1<=12:=by simp at hx1; omega
  omega
 obtain⟨bs,k3,hbl,hbg,ka3,kb3,eb⟩:=RX (ns:=ns) (ts:=ts) (xs:=xs) hn ht hx hs m1 hm1' (k:=k2+1+1) (c:=0) (by omega) (by decide) hm0 (by omega);obtain⟨m2,x2,hx2,hm2,_,ei2⟩:=xQ (ns:=ns) (k:=k3) (q:=3) (L:=[2,3,7]) (fb:=bH (aj (adE 2) (aj (adE 3) (aj (adE 7) ao)))) hn (by omega) (by omega) rfl (by decide) (by decide) (λY=>rfl);have hm2':m2<=6:=by
  have:x2<=7:=by simp at hx2; omega
  omega
 obtain⟨gs,k4,hgl,ka4,kb4,eg⟩:=Mz (ns:=ns) (ts:=ts) (xs:=xs) hn ht hx m2 hm2' (k:=k3+1+1) (c:=0) (by omega) (by decide) hm0 (by omega);obtain⟨hd,k5,ka5,kb5,eh⟩:=RV (ns:=ns) (xs:=xs) hn hx hs (k:=k4) (by omega) (by omega);let b0:Bx:=(xs.getD 0 "",0,rk0);let bs':=b0::bs;have hb12:bs'.length<=12:=by simp only[bs',aac]; omega
 obtain⟨hhd,hhl,ehd⟩:=eh bs'.length hb12;let hs':=hd bs'.length;have hhl:hs'.length<=12:=hhl;let nu:=RZ bs';let li:=ZX bs';let wh:=gs.map (·.1);let ca:List (Str×Nat):=hs'.map λh=>(h.1,h.2.length);have hca:∀q∈ca,q.1.length<=1000/\q.2<=10:=λq hq=>by obtain⟨h,hh,rfl⟩:=aar.mp hq;obtain⟨a1,a2,_⟩:=hhd h hh;exact⟨by show h.1.length<=1000; have:h.1.length<=20:=a1; omega,by show h.2.length<=10; omega⟩
 have hnu:nu.length<=100:=by have:=List.length_filter_le bz bs';simp only[nu,RZ,aad]; omega
 obtain⟨fs,k6,hfl,hfg,ka6,cm6,kb6,ef⟩:=R1 (ns:=ns) (ts:=ts) (xs:=xs) (nu:=nu) (li:=li) (wh:=wh) (ca:=ca) hn ht hnu hca hs' hhd hhl (k:=k5) (c:=0) (by omega) (by decide) hm0 (by omega);let c6:Int:=0+((fs.map λf=>f.rows.cnt).sum:Nat);obtain⟨m3,x3,hx3,hm3,pk3,_⟩:=xQ (ns:=ns) (k:=k6) (q:=3) (L:=[5,9,41]) (fb:=bH (aj (adE 5) (aj (adE 9) (aj (adE 41) ao)))) hn (by omega) (by omega) rfl (by decide) (by decide) (λY=>rfl);have hx3':0<x3/\x3<900:=by simp at hx3; omega
 let K:Kn:=⟨nu,li,wh,ca⟩;have hnu0:nu≠[]:=by have:bz b0=true:=rfl;simp only[nu,RZ,bs',List.filter_cons_of_pos this,aao];exact List.cons_ne_nil _ _
 obtain⟨rs,k7,c7,er,r1,r2,r3,r4,r5,r6,r7⟩:=IV (ns:=ns) (K:=K) (most:=x3) (k:=k6+1) (c:=c6) hn ⟨hnu0,hca⟩ hx3'.1 hx3'.2 (by omega) (by omega) cm6 (by omega);let P:Pr:=⟨bs',gs,fs,rs⟩;refine⟨P,k7,c7,⟨⟨⟨⟨λg hg=>?_,r1,by show rs.dep<=30; omega,?_,by show (fs.map Fd.fn).length<=100; rw[aad]; omega⟩,by show bs'.length<=50; omega,by show gs.length<=50; omega,λf hf=>by have:=(hfg f hf).pl; omega,by show fs.length<=50; omega,λb hb=>?_,λf hf=>⟨(hfg f hf).nm,(hfg f hf).ps⟩⟩,λr hr=>?_⟩,⟨by show rs.dep<=12; omega,λf hf=>by have:=(hfg f hf).dep; omega⟩,by show bs'≠[]; exact List.cons_ne_nil _ _,λmu=>?_⟩⟩
 . obtain⟨f,hf,rfl⟩:=aar.mp hg;exact⟨(hfg f hf).ok,by have:=(hfg f hf).dep; show f.rows.dep<=30; omega⟩
 . show mZ (fs.map Fd.fn)+rs.cnt<=250;rw[Ji]; omega
 . rcases aah.mp (show b∈b0::bs from hb) with rfl | hb
   . exact hs _ (aaw (jJ (xs:=xs) (i:=0) (by omega)))
   . exact hbg b hb
 . rw[Pr.rws_top]at hr;obtain⟨y,hy,hr⟩:=List.mem_flatMap.mp hr;rcases aaH.mp (show y∈fs.flatMap (λf=>f.rows.l)++rs.l from hy) with hy | hy
   . obtain⟨f,hf,hy⟩:=List.mem_flatMap.mp hy;exact(hfg f hf).out r (by rw[Rows.fl_l]; exact List.mem_flatMap.mpr ⟨y,hy,hr⟩)
   . exact r2 r (by rw[Rows.fl_l]; exact List.mem_flatMap.mpr ⟨y,hy,hr⟩)
 . let R:PV:=.lst (SS ts);let N:PV:=.lst (SS xs);let BX:PV:=.lst (bs'.map dw);let A:=Pm mu [];let A1:=Pm mu [some (.lst [dw b0])];let A2:=Pm mu [some BX];let n:=mu.length;let V0:Option Lc->Option Lc->List (Option Lc):=λo2 o3=>[yS (.ptr n),yS R,o2,o3,none,none,none,none,none,none,none,none,none,none,none,none,none];have s2:aK 2 (aF iJ (aj (aa 0) (aj (adE 24) ao))) ⟨V0 none none,A (pen ns k 0)⟩=some (.nx ⟨V0 (some (.own N)) none,A (pen ns k1 0)⟩):=
    aZ (aY (ls:=[.sh (.ptr n),.sh (.int 24)]) (ps:=[.ptr n,.int 24]) (Y1:=⟨V0 none none,A (pen ns k 0)⟩) rfl rfl rfl rfl (en 24 0 (by decide) A n jY)) rfl rfl
   have q0:aN (aa 2) (adE 0) ⟨V0 (some (.own N)) none,A (pen ns k1 0)⟩=some (.sh (.str (xs.getD 0 "")),⟨V0 (yS N) none,A (pen ns k1 0)⟩):=
    dI (p:=.lst (SS xs)) (q:=.int ((0:Nat):Int)) (l:=.sh N) (m:=.sh (.int 0)) rfl rfl rfl rfl (λn h=>by cases h) (Dh (jJ (by omega)))
   have q1:Jh 0 1 ⟨V0 (yS N) none,A (pen ns k1 0)⟩=some (.sh (jN rk0),⟨V0 (yS N) none,A (pen ns k2 0)⟩):=aY (ls:=[.sh (.ptr n),.sh R]) (ps:=[.ptr n,R]) (Y1:=⟨V0 (yS N) none,A (pen ns k1 0)⟩) rfl rfl rfl rfl (ek0 0 A n jY);have q2:bu (aj (aN (aa 2) (adE 0)) (aj (adE 0) (aj (Jh 0 1) ao))) ⟨V0 (some (.own N)) none,A (pen ns k1 0)⟩=some (.sh (dw b0),⟨V0 (yS N) none,A (pen ns k2 0)⟩):=dG (ls:=[.sh (.str (xs.getD 0 "")),.sh (.int 0),.sh (jN rk0)]) (aB q0 (aB rfl (aB q1 rfl))) rfl rfl;have la:∀p,(A p).length=n+1:=λp=>by simp[A,Pm,n]
   have s3:aK 3 (uY (aj (bu (aj (aN (aa 2) (adE 0)) (aj (adE 0) (aj (Jh 0 1) ao)))) ao)) ⟨V0 (some (.own N)) none,A (pen ns k1 0)⟩=some (.nx ⟨GE n R N (n+1) none none none none none none none none none none none none none,A1 (pen ns k2 0)⟩):=by refine aZ (Cr (ls:=[.sh (dw b0)]) (ps:=[dw b0]) (aB q2 rfl) rfl rfl (la _)) rfl ?_;simp[A,A1,Pm,Ev.set,V0]
   obtain⟨q4,e4⟩:=eb mu [dw b0] none (by simp; omega);have s4:=dq (F:=fQ (aj (fZ (aa 0) (aN (bH (aj (adE 3) (aj (adE 3) (aj (adE 3) (aj (adE 12) ao))))) (fZ (aa 0) (adE 4)))) ao)) (ei1 A1 n 0 jY (GE n R N (n+1) none none none none none none none none none none none none none) (λ_=>rfl)) e4;let W:Option Lc->Option Lc->Option Lc->Option Lc->Option Lc->Option Lc->Option Lc->Option Lc->Option Lc->List (Option Lc):=λo4 o5 o6 o7 o8 o9 o10 o11 o12=>GE n R N (n+1) o4 o5 o6 o7 o8 o9 o10 o11 o12 none none none none;have s5:aK 5 (bH ao) ⟨W q4 none none none none none none none none,A2 (pen ns k3 0)⟩=some (.nx ⟨W q4 (yO []) none none none none none none none,A2 (pen ns k3 0)⟩):=rfl;obtain⟨q4',q6,e6⟩:=eg mu BX q4 none;have s6:=dq (F:=fQ (aj (fZ (aa 0) (aN (bH (aj (adE 2) (aj (adE 3) (aj (adE 7) ao)))) (fZ (aa 0) (adE 3)))) ao)) (ei2 A2 n 0 jY (W q4 (yO []) none none none none none none none) (λ_=>rfl)) e6;let GG:PV:=.lst (gs.map lL);let HH:PV:=.lst (hs'.map vU);have l3:nP (aa 3) ⟨W q4' (some (.own GG)) q6 none none none none none none,A2 (pen ns k4 0)⟩=some (.sh (.int (bs'.length:Nat)),⟨W q4' (some (.own GG)) q6 none none none none none none,A2 (pen ns k4 0)⟩):=by unfold nP;show (match (A2 (pen ns k4 0))[n+1]? with | some (some (.lst ws))=>some (Lc.sh (.int (ws.length:Nat)),_) | _=>none)=_;rw[show (A2 (pen ns k4 0))[n+1]?=some (some BX) by simp[A2,Pm,n]];show some (Lc.sh (.int ((bs'.map dw).length:Nat)),_)=_;rw[aad];rfl
   have s7:aK 7 (aF n8 (aj (aa 0) (aj (aa 2) (aj (nP (aa 3)) ao)))) ⟨W q4' (some (.own GG)) q6 none none none none none none,A2 (pen ns k4 0)⟩=some (.nx ⟨W q4' (some (.own GG)) q6 (some (.own HH)) none none none none none,A2 (pen ns k5 0)⟩):=
    aZ (aY (ls:=[.sh (.ptr n),.sh N,.sh (.int (bs'.length:Nat))]) (ps:=[.ptr n,N,.int (bs'.length:Nat)]) (Y1:=⟨W q4' (some (.own GG)) q6 none none none none none none,A2 (pen ns k4 0)⟩) (aB rfl (aB rfl (aB l3 rfl))) rfl rfl rfl (ehd 0 A2 n jY)) rfl rfl
   have mB:(A2 (pen ns k5 0))[n+1]?=some (some (.lst (bs'.map dw))):=by simp[A2,Pm,n,BX]
   have s8:aK 8 (X3 (tT (aC eqP (aN (aa 0) (adE 1)) (adE 0)) aV)) ⟨W q4' (some (.own GG)) q6 (some (.own HH)) none none none none none,A2 (pen ns k5 0)⟩=some (.nx ⟨W q4' (some (.own GG)) q6 (some (.own HH)) (yO (SS nu)) none none none none,A2 (pen ns k5 0)⟩):=
    aZ (KQ (n:=n+1) (bs:=bs') (pr:=bz) (by omega) rfl mB (λb mu=>rfl)) rfl rfl
   have s9:aK 9 (X3 (tT (aC wH (aN (aa 0) (adE 1)) (adE 0)) aV)) ⟨W q4' (some (.own GG)) q6 (some (.own HH)) (yO (SS nu)) none none none none,A2 (pen ns k5 0)⟩=some (.nx ⟨W q4' (some (.own GG)) q6 (some (.own HH)) (yO (SS nu)) (yO (SS li)) none none none,A2 (pen ns k5 0)⟩):=
    aZ (KQ (n:=n+1) (bs:=bs') (pr:=bp) (by omega) rfl mB (λb mu=>rfl)) rfl rfl
   have s10:aK 10 (bJ (cR (aa 5) bI) 1 [] (aA 0) bK (aN (aa 0) (adE 0))) ⟨W q4' (some (.own GG)) q6 (some (.own HH)) (yO (SS nu)) (yO (SS li)) none none none,A2 (pen ns k5 0)⟩=some (.nx ⟨W q4' (yS GG) q6 (some (.own HH)) (yO (SS nu)) (yO (SS li)) (yO (SS wh)) none none,A2 (pen ns k5 0)⟩):=by refine aZ (l:=.own (.lst (SS wh))) (Y1:=⟨W q4' (yS GG) q6 (some (.own HH)) (yO (SS nu)) (yO (SS li)) none none none,A2 (pen ns k5 0)⟩) (cM (m:=1) (ixs:=[]) (xs:=gs.map lL) (Y1:=⟨W q4' (yS GG) q6 (some (.own HH)) (yO (SS nu)) (yO (SS li)) none none none,A2 (pen ns k5 0)⟩) (fU (l:=.sh GG) rfl rfl) ((tL (n:=1) (α:=Gr) lL (λg=>.str g.1) (λg o=>⟨⟨[yS (lL g)],A2 (pen ns k5 0)⟩,_,.sh (.str g.1),yS (lL g),rfl,rfl,rfl,rfl⟩) gs (by omega)).trans ?_)) rfl rfl;show some (gs.map (λg=>PV.str g.1),_)=some ((gs.map (·.1)).map PV.str,_);rw[aaD]; rfl
   let X8:Option Lc:=yO (SS nu);let X9:Option Lc:=yO (SS li);let X10:Option Lc:=yO (SS wh);have s11:aK 11 (bJ (cR (aa 7) bI) 2 [] (b7 2 (aJ (aA 0) (aJ (aA 1) bZ))) bK (bu (aj (aa 0) (aj (eB dZ (aj (aa 1) ao)) ao)))) ⟨W q4' (yS GG) q6 (some (.own HH)) X8 X9 X10 none none,A2 (pen ns k5 0)⟩=some (.nx ⟨W q4' (yS GG) q6 (yS HH) X8 X9 X10 (yO (ca.map lM)) none,A2 (pen ns k5 0)⟩):=by
    refine aZ (l:=.own (.lst (ca.map lM))) (Y1:=⟨W q4' (yS GG) q6 (yS HH) X8 X9 X10 none none,A2 (pen ns k5 0)⟩) (cM (m:=2) (ixs:=[]) (xs:=hs'.map vU) (Y1:=⟨W q4' (yS GG) q6 (yS HH) X8 X9 X10 none none,A2 (pen ns k5 0)⟩) (fU (l:=.sh HH) rfl rfl) ((m5 (α:=Str×List Str) vU (λh=>lM (h.1,h.2.length)) (J:=λY=>∃o0 o1,Y=⟨[o0,o1],A2 (pen ns k5 0)⟩) (mu:=A2 (pen ns k5 0)) ?_ ?_ hs' ⟨[none,none],A2 (pen ns k5 0)⟩ [] ⟨none,none,rfl⟩ (by simp only[aav]; omega)).trans ?_)) rfl rfl
    . rintro h _ ⟨o0,o1,rfl⟩;refine⟨⟨[yS (.str h.1),yL (SS h.2)],A2 (pen ns k5 0)⟩,⟨[yS (.str h.1),yL (SS h.2)],A2 (pen ns k5 0)⟩,.sh (lM (h.1,h.2.length)),rfl,dG (ls:=[.sh (.str h.1),.sh (.int (h.2.length:Nat))]) (aB rfl (aB (tR (ls:=[.sh (.lst (SS h.2))]) (ps:=[.lst (SS h.2)]) rfl rfl ?_) rfl)) rfl rfl,rfl,_,_,rfl⟩;show some (Lc.sh (.int ((SS h.2).length:Nat)))=_;rw[aad]
    . rintro _ ⟨o0,o1,rfl⟩; rfl
    . rw[aaE];show some (hs'.map (λh=>lM (h.1,h.2.length)),_)=some ((hs'.map λh=>(h.1,h.2.length)).map lM,_);rw[aaD]; rfl
   obtain⟨p8,p9,p10,p11,p13,p14,p15,p16,f8,f9,f10,f11,e12⟩:=ef mu BX GG HH (.own (.lst (SS nu))) (.own (.lst (SS li))) (.own (.lst (SS wh))) (.own (.lst (ca.map lM))) q4' q6 rfl rfl rfl rfl;have s13:=dq (F:=cR (aa 7) bI) (Y:=⟨W q4' (yS GG) q6 (yS HH) X8 X9 X10 (yO (ca.map lM)) (yO []),A2 (pen ns k5 0)⟩) (fU (l:=.sh HH) rfl rfl) e12;let FF:PV:=.lst (fs.map λf=>f.fn.pv);let U_:Lc->Lc->Lc->Lc->Option Lc->Option Lc->List (Option Lc):=λa b d e o12 o15=>GE n R N (n+1) q4' (yS GG) q6 (yS HH) (some a) (some b) (some d) (some e) o12 p13 p14 o15 p16;let Y8:Lc:=wS nu; let Y9:Lc:=wS li; let Y10:Lc:=wS wh; let Y11:Lc:=.sh (.lst (ca.map lM));have y1:bH (aj (aa 8) (aj (aa 9) (aj (aa 10) (aj (aa 11) ao)))) ⟨U_ p8 p9 p10 p11 (some (.own FF)) p15,A2 (pen ns k6 c6)⟩=some (.own K.pv,⟨U_ Y8 Y9 Y10 Y11 (some (.own FF)) p15,A2 (pen ns k6 c6)⟩):=by
    have z1:bH (aj (aa 8) (aj (aa 9) (aj (aa 10) (aj (aa 11) ao)))) ⟨U_ p8 p9 p10 p11 (some (.own FF)) p15,A2 (pen ns k6 c6)⟩=some (.own (.lst [p8.pv,p9.pv,p10.pv,p11.pv]),⟨U_ (.sh p8.pv) (.sh p9.pv) (.sh p10.pv) (.sh p11.pv) (some (.own FF)) p15,A2 (pen ns k6 c6)⟩):=
     mD (ls:=[.sh p8.pv,.sh p9.pv,.sh p10.pv,.sh p11.pv]) (aB rfl (aB rfl (aB rfl (aB rfl rfl)))) rfl rfl
    rw[z1,f8,f9,f10,f11];rfl
   have y2:aF (cL 40) (aj (aa 0) (aj (adE 0) (aj (bH (aj (aa 8) (aj (aa 9) (aj (aa 10) (aj (aa 11) ao))))) (aj (aN (bH (aj (adE 5) (aj (adE 9) (aj (adE 41) ao)))) (fZ (aa 0) (adE 3))) ao)))) ⟨U_ p8 p9 p10 p11 (some (.own FF)) p15,A2 (pen ns k6 c6)⟩=some (.own (.lst rs.pvs),⟨U_ Y8 Y9 Y10 Y11 (some (.own FF)) p15,A2 (pen ns k7 c7)⟩):=
    aY (ls:=[.sh (.ptr n),.sh (.int 0),.own K.pv,.sh (.int x3)]) (ps:=[.ptr n,.int 0,K.pv,.int x3]) (Y1:=⟨U_ Y8 Y9 Y10 Y11 (some (.own FF)) p15,A2 (pen ns (k6+1) c6)⟩) (aB (Y1:=⟨U_ p8 p9 p10 p11 (some (.own FF)) p15,A2 (pen ns k6 c6)⟩) rfl (aB (Y1:=⟨U_ p8 p9 p10 p11 (some (.own FF)) p15,A2 (pen ns k6 c6)⟩) rfl (aB y1 (aB (pk3 A2 n c6 jY (U_ Y8 Y9 Y10 Y11 (some (.own FF)) p15) (λ_=>rfl)) rfl)))) rfl rfl rfl (er A2 n jY)
   let mE:Mu:=mu++[some (pen ns k7 c7),some BX,some (.lst rs.pvs)];have s15:aK 15 (Aj (aF (cL 40) (aj (aa 0) (aj (adE 0) (aj (bH (aj (aa 8) (aj (aa 9) (aj (aa 10) (aj (aa 11) ao))))) (aj (aN (bH (aj (adE 5) (aj (adE 9) (aj (adE 41) ao)))) (fZ (aa 0) (adE 3))) ao)))))) ⟨U_ p8 p9 p10 p11 (some (.own FF)) p15,A2 (pen ns k6 c6)⟩=some (.nx ⟨U_ Y8 Y9 Y10 Y11 (some (.own FF)) (yS (.ptr (n+2))),mE⟩):=by refine aZ (Vp (n:=n+2) y2 (by simp[A2,Pm,n])) rfl ?_;simp[A2,Pm,Ev.set,U_,mE]
   have s16:bV (bu (aj (aa 3) (aj (aa 5) (aj (aa 12) (aj (aa 15) ao))))) ⟨U_ Y8 Y9 Y10 Y11 (some (.own FF)) (yS (.ptr (n+2))),mE⟩=some (.rt (.sh (Pp P (n+1))) ⟨U_ Y8 Y9 Y10 Y11 (yS FF) (yS (.ptr (n+2))),mE⟩):=by refine cJ (dG (ls:=[.sh (.ptr (n+1)),.sh GG,.sh FF,.sh (.ptr (n+2))]) (aB rfl (aB rfl (aB rfl (aB rfl rfl)))) rfl ?_);show [PV.ptr (n+1),GG,FF,.ptr (n+2)]=[PV.ptr (n+1),.lst (gs.map lL),.lst ((fs.map Fd.fn).map Fn.pv),.ptr (n+1+1)];rw[aaD];rfl
   exact aX (Y:=⟨U_ Y8 Y9 Y10 Y11 (yS FF) (yS (.ptr (n+2))),mE⟩) (aD s2 (aD s3 (aD s4 (aD s5 (aD s6 (aD s7 (aD s8 (aD s9 (aD s10 (aD s11 (aD rfl (aD s13 (aD s15 s16)))))))))))))
theorem Qi {L:List Int} {d q:Int} (hq:0<q) (hl:(L.length:Int)=q):∃x∈L,sU (.lst (L.map PV.int)) (.int (d%q))=zI x:=by have h0:=aa0 d (b:=q) (by omega);have h1:=aaQ d hq;obtain⟨p,h2,h3⟩:=jQ (l:=L.map PV.int) (i:=d%q) h0 (by rw[aad]; omega);rw[aay]at h3;obtain⟨x,hx,rfl⟩:=abZ h3;exact⟨x,aaw hx,by show (dW (L.map PV.int) (d%q)).map _=_; rw[h2]; rfl⟩
theorem law_true (l:List Int) (hl:l.length<=63):∃mu,FP [.lst (l.map PV.int)] []=some (.sh (.bl true),mu):=by
 obtain⟨d0,e0⟩:=cell_eq (ns:=l) (k:=0) hl (by decide) (by decide);obtain⟨d1,e1⟩:=cell_eq (ns:=l) (k:=1) hl (by decide) (by decide);obtain⟨m,hm,em⟩:=Qi (L:=[4,5,6,8,12,6]) (d:=d0) (q:=6) (by decide) rfl;obtain⟨g,hg,eg⟩:=Qi (L:=[3,6,9]) (d:=d1) (q:=3) (by decide) rfl;let ns:Sc:=⟨l,m,g⟩;have hm':0<=m/\m<=100:=by simp at hm; omega
 obtain⟨ts,ps,k1,ord,ka,kb,er⟩:=RQ (ns:=ns) (k:=2) hl (by decide) (by decide);have ht:ts≠[]:=ord.ne;obtain⟨P,k2,c2,D⟩:=MF (ns:=ns) (ts:=ts) (k:=k1) hl ht hm'.1 hm'.2 (by omega) (by omega);refine XN (ts:=ts) (ps:=ps) (P:=P) (pen:=pen ns k2 c2) ⟨ord,D.good,D.shal,D.nb,λmu=>?_⟩;let S:PV:=.lst (l.map PV.int);let n:=mu.length;let V:Option Lc->Option Lc->Option Lc->Option Lc->List (Option Lc):=λo1 o2 o3 o4=>[yS S,o1,o2,o3,o4];let O:Int->Option Lc:=λi=>zI i;have cl:∀(i d:Int) vs,(∀mu:Mu,fK [S,.int i] mu=some (.sh (.int d),mu))->(∀mu,aa 0 ⟨vs,mu⟩=some (.sh S,⟨vs,mu⟩))->∀mu,aF fK (aj (aa 0) (aj (adE i) ao)) ⟨vs,mu⟩=some (.sh (.int d),⟨vs,mu⟩):=λi d vs e hv mu=>
  aY (ls:=[.sh S,.sh (.int i)]) (ps:=[S,.int i]) (Y1:=⟨vs,mu⟩) (aB (hv mu) rfl) rfl rfl rfl (e mu)
 have s1:aK 1 (aN (bH (aj (adE 4) (aj (adE 5) (aj (adE 6) (aj (adE 8) (aj (adE 12) (aj (adE 6) ao))))))) (aC eQ (aF fK (aj (aa 0) (aj (adE 0) ao))) (adE 6))) ⟨V none none none none,mu⟩=some (.nx ⟨V (O m) none none none,mu⟩):=
  aZ (dI (p:=.lst ([4,5,6,8,12,6].map PV.int)) (q:=.int (d0%6)) (l:=.own (.lst ([4,5,6,8,12,6].map PV.int))) (m:=.sh (.int (d0%6))) (Y1:=⟨V none none none none,mu⟩) rfl rfl (bj (x:=.sh (.int d0)) (y:=.sh (.int 6)) (cl 0 d0 _ e0 (λ_=>rfl) mu) rfl (gk (by decide))) rfl (λn h=>by cases h) em) rfl rfl
 have x2:aN (bH (aj (adE 3) (aj (adE 6) (aj (adE 9) ao)))) (aC eQ (aF fK (aj (aa 0) (aj (adE 1) ao))) (adE 3)) ⟨V (O m) none none none,mu⟩=some (.sh (.int g),⟨V (O m) none none none,mu⟩):=
  dI (p:=.lst ([3,6,9].map PV.int)) (q:=.int (d1%3)) (l:=.own (.lst ([3,6,9].map PV.int))) (m:=.sh (.int (d1%3))) (Y1:=⟨V (O m) none none none,mu⟩) rfl rfl (bj (x:=.sh (.int d1)) (y:=.sh (.int 3)) (cl 1 d1 _ e1 (λ_=>rfl) mu) rfl (gk (by decide))) rfl (λn h=>by cases h) eg
 have s2:aK 2 (uY (aj (aa 0) (aj (adE 2) (aj (adE 0) (aj (aa 1) (aj (aN (bH (aj (adE 3) (aj (adE 6) (aj (adE 9) ao)))) (aC eQ (aF fK (aj (aa 0) (aj (adE 1) ao))) (adE 3))) ao)))))) ⟨V (O m) none none none,mu⟩=some (.nx ⟨V (O m) (yS (.ptr n)) none none,Pm mu [] (pen ns 2 0)⟩):=by refine aZ (Cr (ls:=[.sh S,.sh (.int 2),.sh (.int 0),.sh (.int m),.sh (.int g)]) (ps:=[S,.int 2,.int 0,.int m,.int g]) (n:=n) (aB (Y1:=⟨V (O m) none none none,mu⟩) rfl (aB (Y1:=⟨V (O m) none none none,mu⟩) rfl (aB (Y1:=⟨V (O m) none none none,mu⟩) rfl (aB (Y1:=⟨V (O m) none none none,mu⟩) rfl (aB x2 rfl))))) rfl rfl rfl) rfl ?_;rfl
 have s3:nJ (aF n6 (aj (aa 2) ao)) (b7 2 (aJ (aA 3) (aJ (aA 4) bZ))) ⟨V (O m) (yS (.ptr n)) none none,Pm mu [] (pen ns 2 0)⟩=some (.nx ⟨V (O m) (yS (.ptr n)) (zS ts) (zP ps),Pm mu [] (pen ns k1 0)⟩):=by unfold nJ;rw[aY (ls:=[.sh (.ptr n)]) (ps:=[.ptr n]) (Y1:=⟨V (O m) (yS (.ptr n)) none none,Pm mu [] (pen ns 2 0)⟩) rfl rfl rfl rfl (er 0 (Pm mu []) n jY)];rfl
 let E:Mu->Ev:=λmu=>⟨V (O m) (yS (.ptr n)) (zS ts) (zP ps),mu⟩;let mE:Mu:=mu++[some (pen ns k2 c2),some (.lst (P.bs.map dw)),some (.lst P.rows.pvs)];have x4:aF lX (aj (aa 2) (aj (aa 3) ao)) (E (Pm mu [] (pen ns k1 0)))=some (.sh (Pp P (n+1)),E mE):=
  aY (ls:=[.sh (.ptr n),wS ts]) (ps:=[.ptr n,.lst (SS ts)]) (Y1:=E (Pm mu [] (pen ns k1 0))) rfl rfl rfl rfl (D.eq mu)
 exact aX (Y:=E mE) (aD s1 (aD s2 (aD s3 (cJ (mD (ls:=[wS ts,.sh (.lst (PP ps)),.sh (Pp P (n+1))]) (aB (Y1:=E (Pm mu [] (pen ns k1 0))) rfl (aB (Y1:=E (Pm mu [] (pen ns k1 0))) rfl (aB x4 rfl))) rfl rfl)))))
section
variable (K:FG) (x qq:Str) (st:Stmt) (f c:Addr)
abbrev Zg:Prop:=∃(oc kV dc pm cd ct:Value) (od an:Option Addr) (sl:Array (Option Value)),K.lookup f=some ⟨oc,od,.func (W.fnOf x qq (oN st) (iZ st) (aL st) .none kV dc pm an cd ct),sl⟩/\W.codeIn K cd qq=true/\W.keepIn K (.ref f)=true
abbrev FD:Prop:=∃f,W.nsIn K mainGlobals x=some (some (.ref f))/\Zg K x x st f
abbrev FM:Prop:=∃f,W.findIn K (.ref c) x=some (some (.ref f))/\W.isFn K (.ref f)=true/\Zg K x qq st f
abbrev KC:Prop:=W.nsIn K mainGlobals x=some (some (.ref c))/\W.plainGet K c Str.empty=true/\W.hasDictIn K c=true/\W.plainOver K c=true/\W.findIn K (.ref c) "__setattr__" = some (some (.builtin "object.__setattr__"))/\W.makesIn K c=true/\W.keepIn K (.ref c)=true
abbrev HB (ps:List Str):Prop:=∀(kV doc pm:Value) (an:Option Addr) (cdv ct:Value) (us:List Value),us.length=ps.length->bindArgs (W.fnOf x qq (oN st) (iZ st) (aL st) .none kV doc pm an cdv ct) ⟨us,[]⟩=pure (ps.zip us)
end
section
variable {K:FG} {h:Heap} {mg:Str->Option Value} {x qq:Str} {st:Stmt} {c:Addr} {ps:List Str}
theorem gw (X:K.In h) (G:h.Ns mainGlobals mg) (d:FD K x st) (hb:HB x x st ps):cj K mg x st ps:=by obtain⟨f,a,_,_,_,_,_,_,_,_,_,l,e,k⟩:=d;exact⟨_,_,v8 l e k,W.mg_of X G a,(v8 l e k).binds hb⟩
theorem mkM (d:FM K x qq st c) (hb:HB x qq st ps):S6 K c x qq st ps:=by obtain⟨f,a,i,_,_,_,_,_,_,_,_,_,l,e,k⟩:=d;exact⟨_,_,v8 l e k,a,i,(v8 l e k).binds hb⟩
theorem mkT (X:K.In h) (G:h.Ns mainGlobals mg) (d:KC K x c):CG K mg x c:=⟨d.1,⟨d.2.1,d.2.2.1,d.2.2.2.1,d.2.2.2.2.1⟩,W.mg_of X G d.1⟩
theorem KR {l:List Str} (n:W.findIn K (.ref c) x=some none) (t:∀f∈l,jZ K c f):∀f∈x::l,jZ K c f:=by
 intro g hg;rcases aah.mp hg with e | hg
 . rw[e]; exact n
 . exact t g hg
theorem nan:∀f∈([]:List Str),jZ K c f:=λ_ h=>nomatch h
theorem bc {l:List Str} (X:K.In h) (G:h.Ns mainGlobals mg) (n:W.nsIn K mainGlobals x=some none) (t:JT mg l):JT mg (x::l):=by
 intro g hg;rcases aah.mp hg with e | hg
 . rw[e]; exact W.mg_none_of X G n
 . exact t g hg
theorem bn:JT mg []:=λ_ h=>nomatch h
end
local macro_rules | `(tactic| walk_at "b")=>`(tactic| (intro _ _ _ _ _ _ us hl; first | (obtain⟨_,e⟩:=wB hl; subst e; rfl) | (obtain⟨_,_,e⟩:=ln2 hl; subst e; rfl) | (obtain⟨_,_,_,e⟩:=YS hl; subst e; rfl) | (obtain⟨_,_,_,_,e⟩:=YT hl; subst e; rfl) | (obtain⟨_,_,_,_,_,e⟩:=Z7 hl; subst e; rfl)))
theorem all_mk {l:W.OpenLaw} {w:World} {K:FG} {h:Heap} {mg:Str->Option Value} {fa:Addr} (X:K.In h) (G:h.Ns mainGlobals mg) (hfa:mg "law" = some (.ref fa))
 (adB:∃c,KC K "Order" c/\(W.findIn K (.ref c) "names" = some none/\W.findIn K (.ref c) "above" = some none/\W.findIn K (.ref c) "joins" = some none/\W.findIn K (.ref c) "meets" = some none/\W.findIn K (.ref c) "lowest" = some none/\W.findIn K (.ref c) "highest" = some none)/\FM K "__init__" "Order.__init__" gZ c)
 (adt:FD K "is_name" sX)
 (acS:FD K "straight_above" jT)
 (adu:FD K "ring_of" pW)
 (acZ:FD K "ring_within" ql)
 (adv:FD K "climbed" wO)
 (adc:FD K "all_above" tV)
 (ac0:FD K "all_beneath" mO)
 (adC:FD K "bound" uB)
 (adz:FD K "bounds" zx)
 (adw:FD K "unbound" wQ)
 (adx:FD K "lack_of" wR)
 (acV:FD K "refuse_names" oZ)
 (acW:FD K "refuse_order" ph)
 (ade:FD K "blocks_of" tW)
 (adA:FD K "copied" u9)
 (ac3:FD K "all_copied" lG)
 (adn:FD K "laid_out" qG)
 (ado:FD K "numbered" vd)
 (ac4:FD K "head_pairs" lH)
 (ac5:FD K "told_ranks" rO)
 (adf:FD K "_law_cell" tX)
 (adg:FD K "_law_next" tY)
 (ac6:FD K "_law_names" nR)
 (ac7:FD K "_law_shape" jF)
 (ac8:FD K "_law_ranks" nT)
 (ac1:FD K "_law_number" qm)
 (acO:FD K "_law_expression" jB)
 (adh:FD K "_law_part" tZ)
 (adi:FD K "_law_rows" pK)
 (adp:FD K "_law_row" nU)
 (adk:FD K "_law_rank" t6)
 (ac2:FD K "_law_counts" j6)
 (ac9:FD K "_law_heads" rQ)
 (acX:FD K "_law_program" fV)
 (ada:FD K "_law_drawn" rR)
 (adl:FD K "_law_flat" kI)
 (adq:FD K "_law_due" vf)
 (adm:FD K "_law_same" uc)
 (adD:FD K "law" vg)
 (z0:W.nsIn K mainGlobals "ValueError" = some none)
 (z1:W.nsIn K mainGlobals "all" = some none)
 (z2:W.nsIn K mainGlobals "dict" = some none)
 (z3:W.nsIn K mainGlobals "enumerate" = some none)
 (z4:W.nsIn K mainGlobals "isinstance" = some none)
 (z5:W.nsIn K mainGlobals "len" = some none)
 (z6:W.nsIn K mainGlobals "list" = some none)
 (z7:W.nsIn K mainGlobals "max" = some none)
 (z8:W.nsIn K mainGlobals "min" = some none)
 (z9:W.nsIn K mainGlobals "range" = some none)
 (z10:W.nsIn K mainGlobals "reversed" = some none)
 (z11:W.nsIn K mainGlobals "str" = some none)
 (ady:∃t,W.nsIn K mainGlobals "LETTERS" = some (some (.str "abcdefghijklmnopqrstuvwxyz" t)))
 (HL:∀(ns:List Int),ns.length<=63->∃mu,FP [.lst (ns.map PV.int)] []=some (.sh (.bl true),mu))
 : ∃fd:FuncData,(∀(s:Shared) (v:Value),BindsTo s fd ⟨[v],[]⟩ [("_law_script",v)])/\∀base:Heap,K.In base->base.Ns mainGlobals mg->oM l.prog w K mg base oG 87 fa fd ["_law_script"] (Fz K):=by
 obtain⟨acy,acY,⟨n0,n1,n2,n3,n4,n5⟩,acP⟩:=adB;have ab3:=mkT X G acY;have ab4:=KR n0 (KR n1 (KR n2 (KR n3 (KR n4 (KR n5 (nan))))));have B:JT mg BL:=bc X G z0 (bc X G z1 (bc X G z2 (bc X G z3 (bc X G z4 (bc X G z5 (bc X G z6 (bc X G z7 (bc X G z8 (bc X G z9 (bc X G z10 (bc X G z11 (bn))))))))))));have ab2:∃t,mg "LETTERS" = some (.str "abcdefghijklmnopqrstuvwxyz" t):=ady.imp λ_ y=>W.mg_of X G y;obtain⟨_,a,_,kV,dc,pm,cd,ct,_,an,_,lk,ce,kp⟩:=adD;have e:=hfa.symm.trans (W.mg_of X G a);cases e;refine⟨W.fnOf "law" "law" (oN vg) (iZ vg) (aL vg) .none kV dc pm an cd ct,λs v=>.of_eq rfl,λbase _ _=>?_⟩;have acL:=Mh (P:=l.prog) (w:=w) (base:=base) B ab2 ab3 ab4 (gw X G adt (by walk_at "b"));have ab6:=yz (P:=l.prog) (w:=w) (base:=base) B ab2 ab3 ab4 (gw X G acS (by walk_at "b"));have acw:=CP (P:=l.prog) (w:=w) (base:=base) B ab2 ab3 ab4 (gw X G acZ (by walk_at "b")) ab6;have acN:=Mi (P:=l.prog) (w:=w) (base:=base) B ab2 ab3 ab4 (gw X G adu (by walk_at "b")) acw ab6;have acK:=Mj (P:=l.prog) (w:=w) (base:=base) B ab2 ab3 ab4 (gw X G adv (by walk_at "b"));have ab7:=Ht (P:=l.prog) (w:=w) (base:=base) B ab2 ab3 ab4 (gw X G adc (by walk_at "b")) acK;have aca:=CQ (P:=l.prog) (w:=w) (base:=base) B ab2 ab3 ab4 (gw X G ac0 (by walk_at "b")) ab7;have acU:=Ry (P:=l.prog) (w:=w) (base:=base) B ab2 ab3 ab4 (gw X G adC (by walk_at "b"));have aco:=O1 (P:=l.prog) (w:=w) (base:=base) B ab2 ab3 ab4 (gw X G adz (by walk_at "b")) acU;have acE:=Ml (P:=l.prog) (w:=w) (base:=base) B ab2 ab3 ab4 (gw X G adw (by walk_at "b")) aco;have acM:=Mm (P:=l.prog) (w:=w) (base:=base) B ab2 ab3 ab4 (gw X G adx (by walk_at "b")) ab7 aca acE;have acu:=Bc (P:=l.prog) (w:=w) (base:=base) B ab2 ab3 ab4 (gw X G acV (by walk_at "b")) acL;have acv:=Be (P:=l.prog) (w:=w) (base:=base) B ab2 ab3 ab4 (gw X G acW (by walk_at "b")) acM acN;have acg:=Hu (P:=l.prog) (w:=w) (base:=base) B ab2 ab3 ab4 (gw X G ade (by walk_at "b"));have adb:=Bf (P:=l.prog) (w:=w) (base:=base) B ab2 ab3 ab4 (gw X G adA (by walk_at "b")) (gw X G ac3 (by walk_at "b")) 40;have acj:=adb.1;have acp:=adb.2;have ack:=xg (P:=l.prog) (w:=w) (base:=base) B ab2 ab3 ab4 (gw X G adn (by walk_at "b")) acg acj 40;have acI:=Ju (P:=l.prog) (w:=w) (base:=base) B ab2 ab3 ab4 (gw X G ado (by walk_at "b")) ack;have acA:=Ey (P:=l.prog) (w:=w) (base:=base) B ab2 ab3 ab4 (gw X G ac4 (by walk_at "b"));have ab9:=Ez (P:=l.prog) (w:=w) (base:=base) B ab2 ab3 ab4 (gw X G ac5 (by walk_at "b")) acA acI;have acd:=Hv (P:=l.prog) (w:=w) (base:=base) B ab2 ab3 ab4 (gw X G adf (by walk_at "b"));have ab1:=Hw (P:=l.prog) (w:=w) (base:=base) B ab2 ab3 ab4 (gw X G adg (by walk_at "b")) acd;have acf:=EY (P:=l.prog) (w:=w) (base:=base) B ab2 ab3 ab4 (gw X G ac6 (by walk_at "b")) ab1;have acB:=Fb (P:=l.prog) (w:=w) (base:=base) B ab2 ab3 ab4 (gw X G ac7 (by walk_at "b")) ab1;have acD:=Fe (P:=l.prog) (w:=w) (base:=base) B ab2 ab3 ab4 (gw X G ac8 (by walk_at "b")) acf ab1 acB;have acb:=CT (P:=l.prog) (w:=w) (base:=base) B ab2 ab3 ab4 (gw X G ac1 (by walk_at "b")) ab1;have ab5:=oH (P:=l.prog) (w:=w) (base:=base) B ab2 ab3 ab4 (gw X G acO (by walk_at "b")) ab1 acb 40;have ach:=Hx (P:=l.prog) (w:=w) (base:=base) B ab2 ab3 ab4 (gw X G adh (by walk_at "b")) ab5 ab1;have acQ:=vR (P:=l.prog) (w:=w) (base:=base) B ab2 ab3 ab4 (gw X G adi (by walk_at "b")) (gw X G adp (by walk_at "b")) ab5 ab1 ach 40;have ab8:=acQ.1;have acT:=acQ.2;have aci:=Hz (P:=l.prog) (w:=w) (base:=base) B ab2 ab3 ab4 (gw X G adk (by walk_at "b")) ab1;have acx:=CV (P:=l.prog) (w:=w) (base:=base) B ab2 ab3 ab4 (gw X G ac2 (by walk_at "b")) ab1;have acC:=Ff (P:=l.prog) (w:=w) (base:=base) B ab2 ab3 ab4 (gw X G ac9 (by walk_at "b")) acx;have acs:=Bg (P:=l.prog) (w:=w) (base:=base) B ab2 ab3 ab4 (gw X G acX (by walk_at "b")) acC acf ab1 aci ab8;have acq:=Fg (P:=l.prog) (w:=w) (base:=base) B ab2 ab3 ab4 (gw X G ada (by walk_at "b")) acd acs acD;have acG:=HD (P:=l.prog) (w:=w) (base:=base) B ab2 ab3 ab4 (gw X G adl (by walk_at "b"));have acr:=Jw (P:=l.prog) (w:=w) (base:=base) B ab2 ab3 ab4 (gw X G adq (by walk_at "b")) acG;have ace:=HF (P:=l.prog) (w:=w) (base:=base) B ab2 ab3 ab4 (gw X G adm (by walk_at "b"));have acn:=Yx (xm (P:=l.prog) (w:=w) (base:=base) B ab2 ab3 ab4 (mkM acP (by walk_at "b")) ab7 aca aco acu acv) acY.2.2.2.2.2.1 acY.2.2.2.2.2.2;exact W7 (Xn (P:=l.prog) (w:=w) (base:=base) B ab2 ab3 ab4 (v8 (st:=vg) lk ce kp) acn acq acr ace ab9) HL
theorem walk {l:W.OpenLaw} {q:Program} {loose:List Str} {XP:(Str->Option Value)->Heap->Prop} {YP:World->Heap->Prop} {d:DefRec} {K:Params->FG} (hn:l.most=some 63) (hdf:d.params.defaults=[])
 (hY_:∀(w:World) (h:Heap),YP w h->(K w.params).In h)
 (F:∀(w:World) (mg:Str->Option Value) (fa:Addr) (h:Heap),(K w.params).In h->h.Ns mainGlobals mg->mg d.name=some (.ref fa)->
   ∃fd:FuncData,(∀(s:Shared) (u:Value),BindsTo s fd ⟨[u],[]⟩ [("_law_script",u)])/\∀base:Heap,(K w.params).In base->base.Ns mainGlobals mg->oM l.prog w (K w.params) mg base oG 87 fa fd ["_law_script"] (Fz (K w.params))):
 W.WalkO q loose XP YP l.row.toRowW d [] (λf vs=>PySem.call f vs):=
 L2.walk_of (n:=63) (k:=87) (x := "_law_script") (CX:=λ_=>oG) (sp:=λw=>Fz (K w.params)) hn (by decide) hdf ⟨λ_=>rfl,by decide,by decide,rfl⟩ hY_ F (λ_ _ a ns hl _ hS=>⟨a,ns,rfl,hS,hl,λ_=>rfl⟩) λ_ _ _ _ _ z=>z
end Law
end
namespace PySem.W.Fast
def tw3117298882767517253:=0
def tw7368018309570396549:=0
def tw2417059437992433408:=0
def tw8574701812335957457:=0
def tw5984880221015906748:=0
def tw14896129718377849488:=0
def tw11108190910134050881:=0
def tw2582943569011863430:=0
def tw13202355871378941529:=0
def tw4852502430034190179:=0
def tw3014467433817692918:=0
def tw7037548502227656289:=0
def tw1450884701522505032:=0
def tw6507572855128819272:=0
def tw10286122616527736261:=0
def tw486745460113376252:=0
def tw14412762776570327338:=0
def tw14900989469154165006:=0
def tw7647384019066491177:=0
def tw7051291635294738601:=0
def tw16137533388583842782:=0
def tw8072026248153345646:=0
def tw17662281061323958224:=0
def tw3283124152447356062:=0
def tw9713114419192919081:=0
def tw453464640062112798:=0
def tw10704586858628855703:=0
def tw7964933359025655945:=0
end PySem.W.Fast
open PySem PySem.W PyProof.Rows
local macro_rules | `(tactic| walk_at "m")=>`(tactic| exact ⟨_,by k_is,by k_is,_,_,_,_,_,_,_,_,_,by k_is,by k_is,by k_is⟩)
local macro_rules | `(tactic| walk_at "d")=>`(tactic| exact ⟨_,by k_is,_,_,_,_,_,_,_,_,_,by k_is,by k_is,by k_is⟩)
set_option maxRecDepth 100000 in
set_option maxHeartbeats 0 in
theorem PySem.Challenge.cw_hushwise_k40_told_nodes_holds : PySem.Challenge.rw_hushwise_k40_told_nodes.Holds := by
 w_on; o_law; k_head; (case hw=>w_witness2)
 k_fill
 refine Law.walk (l:=PySem.Challenge.rw_hushwise_k40_told_nodes) rfl rfl (fun w h Y=>W.kIn_of Y) ?F
 case F=>
  intro w mg fa h KX G hmg
  refine' Law.all_mk KX G hmg ?_ ?_ ?_ ?_ ?_ ?_ ?_ ?_ ?_ ?_ ?_ ?_ ?_ ?_ ?_ ?_ ?_ ?_ ?_ ?_ ?_ ?_ ?_ ?_ ?_ ?_ ?_ ?_ ?_ ?_ ?_ ?_ ?_ ?_ ?_ ?_ ?_ ?_ ?_ ?_ ?_ ?_ ?_ ?_ ?_ ?_ ?_ ?_ ?_ ?_ ?_ ?_ ?_ Law.law_true
  exact ⟨_,⟨by k_is,by k_is,by k_is,by k_is,by k_is,by k_is,by k_is⟩,⟨by k_is,by k_is,by k_is,by k_is,by k_is,by k_is⟩,by walk_at "m"⟩
  iterate 39 walk_at "d"
  iterate 12 k_is
  iterate 1 exact ⟨_,by k_is⟩
