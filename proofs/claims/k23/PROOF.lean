import PyProof.Rows.All
import Wide.All
import OpenK.AllK
import Wide.FinOn
import Lean
import PyProof.EqAt
import PyProof.EqKinds
import PyProof.TupleCall
import PyProof.NeKinds
import PyProof.StrBlockI
import PyProof.WalksEnum
import PyProof.EnumMake
import PyProof.ZipIter
import PyProof.Rows.SortStr
import PyProof.Rows.SetFrom
import PyProof.CollectWalk
import PyProof.SetRoads
import PyProof.DictWalks
import PyProof.SumWalk
import PyProof.Rows.SumGenD
import PyProof.DictItems
import KE.KRevIter
import PyProof.Rows.FStrParts
import PyProof.StationsW
import PyProof.ReprRoads
import PyProof.ReprLen
import PyProof.ReprStr
import PyProof.StrLawsRepr
import PyProof.FString
import KE.KIsAll
import KE.KEqDict
import PyProof.AutoSeq1
import PyProof.StrCalls
import PySem.Challenge.RW_hushwise_k23_no_input
set_option Elab.async false
set_option linter.all false
set_option bootstrap.genMatcherCode false
set_option genSizeOf false
set_option compiler.extract_closed false
set_option maxRecDepth 100000
set_option maxHeartbeats 8000000
noncomputable section
abbrev FG:=PySem.W.Frag
section
open PySem PySem.Spec PyProof.Rows
abbrev YJ:=@Option.bind_some
abbrev YK:=@List.mem_cons_self
abbrev YL:=@Heap.get?_push_of_some
abbrev YM:=@List.mem_cons
abbrev YQ:=@List.length_map
abbrev YS:=@List.getElem?_eq_some_iff
abbrev YT:=@List.getElem?_eq_getElem
abbrev YW:=@Nat.le_refl
abbrev YX:=@List.length_cons
abbrev YZ:=@Heap.lt_size
abbrev Y0:=@List.size_toArray
abbrev Y4:=@List.sublist_cons_self
abbrev Y5:=@List.length_append
abbrev Y6:=@List.mem_cons_of_mem
abbrev Y7:=@Nat.lt_of_lt_of_le
abbrev Y8:=@List.getElem?_set_self
abbrev Y9:=@Heap.get?_push_size
abbrev Za:=@List.map_cons
abbrev Zb:=@List.getElem?_append_right
abbrev Zc:=@List.getElem?_set_ne
abbrev Zd:=@List.getElem?_map
abbrev Ze:=@List.append_assoc
abbrev Zf:=@Option.some.inj
abbrev Zg:=@List.append_nil
abbrev Zh:=@List.length_set
abbrev Zi:=@Nat.ne_of_lt
abbrev Zj:=@List.getElem?_append_left
abbrev Zk:=@List.mem_map
abbrev Zm:=@Bool.false_ne_true
abbrev Zn:=@List.mem_append_right
abbrev Zo:=@List.map_append
abbrev Zq:=@List.length_take
abbrev Zr:=@List.filterMap_cons_none
abbrev Zu:=@List.sublist_append_left
abbrev Zv:=@List.mem_filterMap
abbrev Zw:=@List.mem_singleton
abbrev Zx:=@List.lookup_cons
abbrev Zy:=@Heap.get?_update_other
abbrev Zz:=@List.length_drop
abbrev ZC:=@List.not_mem_nil
abbrev ZD:=@Nat.le_trans
abbrev ZF:=@List.mem_append
abbrev ZJ:=@PassesOwn.never
abbrev ZK:=@Nat.ne_of_gt
abbrev ZL:=@List.perm_middle
abbrev ZM:=@PySem.boot_len
abbrev ZP:=@List.nodup_cons
abbrev ZQ:=@W.mg_none_of
abbrev ZR:=@List.length_range
abbrev ZV:=@List.mem_append_left
abbrev ZW:=@Heap.get?_update_self
abbrev ZX:=@Option.isSome_iff_exists
abbrev ZZ:=@List.map_map
abbrev Z3:=@PySem.F.plainAttrs_list
abbrev Z4:=@List.of_mem_zip
abbrev Z5:=@Nat.lt_irrefl
abbrev Z6:=@List.prefix_refl
abbrev Z7:=@List.zip_cons_cons
abbrev Z8:=@Nat.zero_le
abbrev Z9:=@List.mem_of_getElem?
abbrev aaa:=@List.foldl_cons
abbrev aab:=@List.map_congr_left
abbrev aac:=@Bool.and_eq_true
abbrev aad:=@List.cons_append
abbrev aae:=@List.set_set
abbrev aaf:=@Int.emod_lt_of_pos
abbrev aag:=@Option.map_some
abbrev aah:=@List.zip_append
abbrev aai:=@List.perm_append_comm
abbrev aaj:=@Int.emod_nonneg
abbrev aak:=@F.slot_tuple_iterator_next
abbrev aal:=@Nat.le_of_succ_le
abbrev aam:=@Nat.lt_succ_of_lt
abbrev aan:=@List.Sublist.refl
abbrev aao:=@List.sublist_append_right
abbrev aap:=@List.drop_eq_getElem_cons
abbrev aaq:=@Heap.size_push
abbrev aar:=@Nat.lt_succ_self
abbrev aas:=@PySem.F.slot_list_append
abbrev aat:=@PySem.F.type_list_append
abbrev aau:=@Nat.sub_self
abbrev aav:=@PySem.mem_of_lookup
abbrev aaw:=@Heap.SameBut.update
abbrev aax:=@List.find?_cons
abbrev aay:=@Nat.le_of_not_lt
abbrev aaz:=@Nat.le_succ
abbrev aaA:=@Array.length_toList
abbrev aaB:=@List.length_nil
abbrev aaC:=@List.map_nil
abbrev aaD:=@List.nodup_nil
abbrev aaE:=@Int.toNat_natCast
abbrev aaF:=@List.nodup_append
abbrev aaG:=@List.take_of_length_le
abbrev aaH:=@Array.getElem?_eq_none
abbrev aaI:=@List.find?_cons_of_pos
abbrev aaJ:=@List.find?_cons_of_neg
abbrev aaK:=@Nat.le_add_right
abbrev aaL:=@W.kia_one
abbrev aaM:=@W.kia_tup
abbrev aaN:=@F.slot_zip_next
abbrev aaO:=@List.eq_nil_of_length_eq_zero
abbrev aaP:=@List.filterMap_cons
abbrev aaQ:=@List.length_reverse
abbrev aaR:=@F.args_tuple_iterator_next_1
abbrev aaS:=@Nat.lt_of_le_of_lt
abbrev aaT:=@F.entry_tuple_iterator_next
abbrev aaU:=@Bool.false_eq_true
abbrev aaV:=@List.prefix_append
abbrev aaW:=@Nat.le_of_lt
abbrev aaX:=@W.cellsFrom_some
abbrev aaY:=@List.zipIdx_cons
abbrev aaZ:=@Nat.succ.inj
abbrev aa0:=@List.drop_length
abbrev aa1:=@List.range'_succ
abbrev aa2:=@W.methodCall_KW
abbrev aa3:=@List.forIn_cons
abbrev aa4:=@wpAny_bind
abbrev aa5:=@if_pos
abbrev aa6:=@if_neg
abbrev aa7:=@wpAny_pure
abbrev aa8:=@decide_eq_false
abbrev aa9:=@decide_eq_true
abbrev aba:=@beq_eq_false_iff_ne
abbrev abb:=@beq_self_eq_true
end
namespace L2
open PySem PySem.Spec PyProof.Rows
variable {acR:List (Addr×Obj)} {E:Value->Shared->Prop} {s:Shared} {A:Around} {w:World} {P:Program}
abbrev Key:=Sum Int Str
def rD:Key->Value->Bool
 | .inl k,v=>Value.isInt k v
 | .inr x,v=>Value.isStrOf x v
def Tn (w:World):Key->Int
 | .inl k=>hashInt k
 | .inr x=>hashStr w x
theorem dB:∀{k:Key} {v:Value},rD k v=true->(∃i t,k=Sum.inl i/\v=Value.int i t)\/(∃x t,k=Sum.inr x/\v=Value.str x t)
 | .inl i,v,h=>by obtain⟨t,e⟩:=Value.isInt_shape (k:=i) (v:=v) h;exact .inl ⟨i,t,rfl,e⟩
 | .inr x,v,h=>by obtain⟨t,e⟩:=Value.isStrOf_shape (x:=x) (v:=v) h;exact .inr ⟨x,t,rfl,e⟩
theorem Jx (i:Int) (t:Tok):rD (.inl i) (.int i t)=true:=by simp[rD,Value.isInt]
theorem Jy (x:Str) (t:Tok):rD (.inr x) (.str x t)=true:=by simp[rD,Value.isStrOf]
theorem Tp (a b:Int):decide ((Sum.inl a:Key)=Sum.inl b)=(a==b):=by
 by_cases e:a=b
 . subst e; simp
 . have h:¬ (Sum.inl a:Key)=Sum.inl b:=λq=>e (Sum.inl.inj q);rw[aa8 h];exact(aba.mpr e).symm
theorem Tq (a b:Str):decide ((Sum.inr a:Key)=Sum.inr b)=decide (a=b):=by
 by_cases e:a=b
 . subst e; simp
 . have h:¬ (Sum.inr a:Key)=Sum.inr b:=λq=>e (Sum.inr.inj q);rw[aa8 h,aa8 e]
theorem Tr (a:Int) (b:Str):decide ((Sum.inl a:Key)=Sum.inr b)=false:=aa8 (λq=>nomatch q)
theorem Tt (a:Str) (b:Int):decide ((Sum.inr a:Key)=Sum.inl b)=false:=aa8 (λq=>nomatch q)
def dj (prog:Program) (w:World):PySem.KeyKind prog w Key where
 is:=rD
 hash:=Tn w
 inj:=λv a b ha hb=>by
  rcases dB ha with ⟨i,t,rfl,rfl⟩ | ⟨x,t,rfl,rfl⟩
  . rcases dB hb with ⟨j,u,rfl,e⟩ | ⟨y,u,rfl,e⟩
    . injection e with e1 _; rw[e1]
    . exact nomatch e
  . rcases dB hb with ⟨j,u,rfl,e⟩ | ⟨y,u,rfl,e⟩
    . exact nomatch e
    . injection e with e1 _; rw[e1]
 byValue:=λk v h=>by rcases dB h with ⟨i,t,rfl,rfl⟩ | ⟨x,t,rfl,rfl⟩<;>rfl
 pyHash:=λhv h=>by
  rcases dB hv with ⟨i,t,rfl,rfl⟩ | ⟨x,t,rfl,rfl⟩
  . exact wpAny_pyHash_int h
  . exact wpAny_pyHash_str h
 eqBool:=λhu hv h=>by
  rcases dB hu with ⟨i,t,rfl,rfl⟩ | ⟨x,t,rfl,rfl⟩
  . rcases dB hv with ⟨j,u,rfl,rfl⟩ | ⟨y,u,rfl,rfl⟩
    . rw[Tp]at h; exact wpAny_eqBool_int h
    . rw[Tr]at h; exact SeqAt.EqAt.int_str i t y u _ _ _ _ h
  . rcases dB hv with ⟨j,u,rfl,rfl⟩ | ⟨y,u,rfl,rfl⟩
    . rw[Tt]at h; exact SeqAt.EqAt.str_int x t j u _ _ _ _ h
    . rw[Tq]at h; exact wpAny_eqBool_str h
 «strs»:=λk x t v h=>by
  rcases dB h with ⟨i,u,rfl,e⟩ | ⟨y,u,rfl,e⟩
  . exact nomatch e
  . injection e with e1 _;subst e1;cases v<;>rfl
theorem Gd (prog:Program) (w:World) (i:Int) (t:Tok):(dj prog w).is (.inl i) (.int i t)=true:=Jx i t
theorem Ge (prog:Program) (w:World) (x:Str) (t:Tok):(dj prog w).is (.inr x) (.str x t)=true:=Jy x t
inductive V where
 | non | bl (b:Bool) | int (i:Int) | str (x:Str) | byt (b:Array UInt8) | flt (b:UInt64) | ref (a:Addr) | ty (n:String)
 deriving DecidableEq
def RelV:V->Value->Prop
 | .non,u=>u=Value.none
 | .bl b,u=>u=Value.bool b
 | .int i,u=>∃t,u=Value.int i t
 | .str x,u=>∃t,u=Value.str x t
 | .byt b,u=>∃t,u=Value.bytes b t
 | .flt b,u=>∃t,u=Value.float b t
 | .ref a,u=>u=Value.ref a
 | .ty n,u=>u=Value.type n
abbrev Vals:List V->List Value->Prop:=Paired RelV
theorem Vals.length {xs:List V} {us:List Value} (r:Vals xs us):xs.length=us.length:=Paired.length r
theorem Vals.get:∀{xs:List V} {us:List Value} {i:Nat} {x:V},Vals xs us->xs[i]?=some x->∃u,us[i]?=some u/\RelV x u
 | _,_,_,_,.nil,e=>by simp at e
 | _,_,0,_,.cons r _,e=>by simp at e; subst e; exact⟨_,rfl,r⟩
 | _,_,i+1,x,.cons _ t,e=>by obtain⟨u,h1,h2⟩:=Vals.get (i:=i) (x:=x) t (by simpa using e);exact⟨u,by simpa using h1,h2⟩
theorem Vals.set {x:V} {u:Value} (r:RelV x u):∀{xs:List V} {us:List Value} (i:Nat),Vals xs us->Vals (xs.set i x) (us.set i u)
 | _,_,_,.nil=>.nil
 | _,_,0,.cons _ t=>.cons r t
 | _,_,i+1,.cons q t=>.cons q (Vals.set r i t)
theorem Vals.append:∀{xs ys:List V} {us ws:List Value},Vals xs us->Vals ys ws->Vals (xs++ys) (us++ws)
 | _,_,_,_,.nil,s=>s
 | _,_,_,_,.cons r t,s=>.cons r (Vals.append t s)
theorem Vals.take:∀{xs:List V} {us:List Value} (n:Nat),Vals xs us->Vals (xs.take n) (us.take n)
 | _,_,0,_=>.nil
 | _,_,_+1,.nil=>.nil
 | _,_,n+1,.cons r t=>.cons r (Vals.take n t)
theorem Vals.drop:∀{xs:List V} {us:List Value} (n:Nat),Vals xs us->Vals (xs.drop n) (us.drop n)
 | _,_,0,r=>r
 | _,_,_+1,.nil=>.nil
 | _,_,n+1,.cons _ t=>Vals.drop n t
def mW:Option V->Option Value->Prop
 | some v,some u=>RelV v u
 | none,none=>True
 | _,_=>False
def KV {κ:Type}:List (κ×V)->List (κ×Value)->Prop:=Paired λ(p:κ×V) (q:κ×Value)=>p.1=q.1/\RelV p.2 q.2
def kV:Key->V
 | .inl i=>.int i
 | .inr x=>.str x
inductive HO where
 | lst (xs:List V)
 | tup (xs:List V)
 | dK (kvs:List (Key×V)) | dT (kvs:List (List Key×V))
 | set (S:Int->Bool) (n:Nat)
 | ins (C dx:Addr) (fs:List (Str×V))
 | own (x:Addr)
 | xd (fs:List (Str×V))
 | met (f x:Addr)
 | rng (lo hi:Int)
 | frz (o:Obj) (u:HO)
 | tbl (ps:Array Value)
 | ext (φ:Heap->Prop)
abbrev Hp:=Addr->Option HO
def upd (H:Hp) (a:Addr) (o:HO):Hp:=λb=>if b=a then some o else H b
theorem bA {H:Hp} {a:Addr} {o:HO}:upd H a o a=some o:=by unfold upd; rw[aa5 rfl]
theorem bF {H:Hp} {a b:Addr} {o:HO} (h:b≠a):upd H a o b=H b:=by unfold upd; rw[aa6 h]
theorem Wz {H:Hp} {a b:Addr} {o u:HO} (h:H a=some o) (h':H b=some u) (d:o≠u):a≠b:=by intro e; subst e; rw[h]at h'; exact d (Zf h')
theorem dC {H:Hp} {a b:Addr} {o:HO} (h:H a=some o) (h':H b=none):a≠b:=by intro e; subst e; rw[h]at h'; cases h'
section
variable (P:Program) (w:World)
def dY (H:Hp) (h:Heap) (a:Addr):HO->Prop
 | .lst xs=>xs.length<=sizeLine/\∃(its:List Value) (n:Nat),Vals xs its/\h.get? a=some { cls:=.type "list",data:=.seq its.toArray n }
 | .tup xs=>xs.length<=sizeLine/\∃its:List Value,Vals xs its/\IsTup h a its.toArray
 | .dK kvs=>kvs.length<=sizeLine/\(a==sysModules)=false/\∃vs,KV kvs vs/\h.DictOf (dj P w) a vs
 | .dT kvs=>kvs.length<=sizeLine/\(a==sysModules)=false/\∃xs:List (List Key×Addr×Value),
  Paired (λ(p:List Key×V) (q:List Key×Addr×Value)=>p.1=q.1/\H q.2.1=some (.tup (p.1.map kV))/\RelV p.2 q.2.2) kvs xs/\
  ∃o es ep,h.get? a=some o/\o.ExactDict/\o.data=.dict es ep/\es.toList=xs.map (entryOfKey (tupleKind (dj P w)))/\(xs.map (·.1)).Nodup
 | .set S n=>h.SetOf (intKind P w) a S n
 | .ins C dx fs=>H dx=some (.own a)/\fs.length<=1000/\dx≠a/\h.get? a=some (W.instObj C dx)/\
  ∃mA,h.Ns1 dx mA/\(∀f,mW (fs.lookup f) (mA f))/\PySem.Within mA (fs.map (·.1))
 | .own _=>∃o,h.get? a=some o
 | .xd fs=>∃mA,h.Ns1 a mA/\∀f,mW (fs.lookup f) (mA f)
 | .rng lo hi=>∃t u v,h.get? a=some { cls:=.type "range",data:=.fields #[.int lo t,.int hi u,.int 1 v] }
 | .frz o u=>h.get? a=some o/\dY H h a u
 | .tbl ps=>h.get? a=some { cls:=.none,data:=.fields ps }
 | .met f x=>h.get? a=some (W.methodObj (.ref f) (.ref x))
 | .ext φ=>φ h/\(∃o,h.get? a=some o)/\∀h1 h2:Heap,φ h1->(∀o,h1.get? a=some o->h2.get? a=some o)->φ h2
def gj (H:Hp) (h:Heap):Prop:=∀a o,H a=some o->dY P w H h a o
end
section
variable {P:Program} {w:World} {H H':Hp} {h h':Heap} {a:Addr} {o:HO}
theorem dY.lt (x:dY P w H h a o):a<h.objs.size:=by
 cases o with
 | lst xs=>obtain⟨_,_,_,_,e⟩:=x; exact YZ e
 | tup xs=>obtain⟨_,_,_,p⟩:=x; exact p.lt
 | dK kvs=>obtain⟨_,_,_,_,o,_,_,e,_⟩:=x; exact YZ e
 | dT kvs=>obtain⟨_,_,_,_,o,_,_,e,_⟩:=x; exact YZ e
 | set S n=>obtain⟨o,_,_,_,e,_⟩:=x; exact YZ e
 | ins C dx fs=>obtain⟨_,_,_,e,_⟩:=x; exact YZ e
 | own y=>obtain⟨_,e⟩:=x; exact YZ e
 | xd fs=>obtain⟨_,⟨_,_,_,e,_⟩,_⟩:=x; exact YZ e
 | rng lo hi=>obtain⟨_,_,_,e⟩:=x; exact YZ e
 | frz ob u=>obtain⟨e,_⟩:=x; exact YZ e
 | tbl ps=>exact YZ (show h.get? a=some _ from x)
 | met f y=>exact YZ (show h.get? a=some _ from x)
 | ext φ=>obtain⟨_,⟨_,e⟩,_⟩:=x; exact YZ e
theorem Paired.mapP {α β:Type} {F G:α->β->Prop}:∀{l₁:List α} {l₂:List β},Paired F l₁ l₂->(∀a b,F a b->G a b)->Paired G l₁ l₂
 | _,_,.nil,_=>.nil
 | _,_,.cons r t,f=>.cons (f _ _ r) (Paired.mapP t f)
theorem dY.stay (x:dY P w H h a o) (k:∀b u,(b=a\/H b=some (.own a))->h.get? b=some u->h'.get? b=some u)
 (ho:∀b,H b=some (.own a)->H' b=some (.own a)) (ht:∀b xs,H b=some (.tup xs)->H' b=some (.tup xs)):dY P w H' h' a o:=by
 induction o with
 | lst xs=>obtain⟨z,its,n,r,e⟩:=x; exact⟨z,its,n,r,k _ _ (.inl rfl) e⟩
 | tup xs=>obtain⟨z,its,r,ob,e,c⟩:=x; exact⟨z,its,r,ob,k _ _ (.inl rfl) e,c⟩
 | dK kvs=>obtain⟨z,y,vs,r,ob,es,ep,e,c⟩:=x; exact⟨z,y,vs,r,ob,es,ep,k _ _ (.inl rfl) e,c⟩
 | dT kvs=>
  obtain⟨z,y,xs,r,ob,es,ep,e,c⟩:=x;exact⟨z,y,xs,Paired.mapP r λp q z=>⟨z.1,ht _ _ z.2.1,z.2.2⟩,ob,es,ep,k _ _ (.inl rfl) e,c⟩
 | set S n=>obtain⟨ob,es,ep,t,e,c⟩:=x; exact⟨ob,es,ep,t,k _ _ (.inl rfl) e,c⟩
 | ins C dx fs=>
  obtain⟨d,z,ne,e,mA,⟨od,es,ep,e2,c⟩,r⟩:=x;exact⟨ho _ d,z,ne,k _ _ (.inl rfl) e,mA,⟨od,es,ep,k _ _ (.inr d) e2,c⟩,r⟩
 | own y=>obtain⟨ob,e⟩:=x; exact⟨ob,k _ _ (.inl rfl) e⟩
 | xd fs=>obtain⟨mA,⟨od,es,ep,e,c⟩,r⟩:=x; exact⟨mA,⟨od,es,ep,k _ _ (.inl rfl) e,c⟩,r⟩
 | rng lo hi=>obtain⟨t,u,v,e⟩:=x; exact⟨t,u,v,k _ _ (.inl rfl) e⟩
 | frz ob u ih=>obtain⟨e,q⟩:=x; exact⟨k _ _ (.inl rfl) e,ih q⟩
 | tbl ps=>
  have e:h.get? a=some { cls:=.none,data:=.fields ps }:=x;show h'.get? a=some { cls:=.none,data:=.fields ps };exact k a _ (.inl rfl) e
 | met f y=>
  have e:h.get? a=some (W.methodObj (.ref f) (.ref y)):=x;show h'.get? a=some (W.methodObj (.ref f) (.ref y));exact k a _ (.inl rfl) e
 | ext φ=>obtain⟨p,⟨o,e⟩,st⟩:=x; exact⟨st _ _ p λo q=>k _ _ (.inl rfl) q,⟨o,k _ _ (.inl rfl) e⟩,st⟩
theorem gj.lt (x:gj P w H h) (e:H a=some o):a<h.objs.size:=(x a o e).lt
theorem gj.fresh (x:gj P w H h) (e:h.objs.size<=a):H a=none:=by
 cases q:H a with
 | none=>rfl
 | some u=>exact absurd (Y7 (x.lt q) e) (Z5 _)
theorem gj.kept (x:gj P w H h) (k:∀b u,h.get? b=some u->h'.get? b=some u):gj P w H h':=λa o e=>
 (x a o e).stay (λb u _ q=>k b u q) (λ_ q=>q) λ_ _ q=>q
theorem gj.laid (x:gj P w H h) (k:∀b u,h.get? b=some u->h'.get? b=some u) (hp:h.objs.size<=a) (new:dY P w (upd H a o) h' a o):gj P w (upd H a o) h':=λb u e=>by
 have hn:=x.fresh hp;by_cases hb:b=a
 . subst hb; rw[bA]at e; cases e; exact new
 . rw[bF hb]at e;exact(x b u e).stay (λc v _ q=>k c v q) (λc q=>by rw[bF (dC q hn)]; exact q) λc xs q=>by rw[bF (dC q hn)]; exact q
end
def Rd (H:Hp) (a:Addr) (u:HO):Prop:=H a=some u\/∃o,H a=some (.frz o u)
theorem Rd.ok {H:Hp} {h:Heap} {a:Addr} {u:HO} (r:Rd H a u) (x:gj P w H h):dY P w H h a u:=by
 rcases r with r | ⟨o,r⟩
 . exact x a u r
 . obtain⟨_,q⟩:=x a _ r;exact q
def Jz:Option HO->Prop
 | some (.lst _)=>True
 | some (.dK _)=>True
 | some (.dT _)=>True
 | some (.set _ _)=>True
 | some (.ins _ _ _)=>True
 | some (.ext _)=>True
 | _=>False
section
variable {P:Program} {w:World} {H:Hp} {h h':Heap} {x e:Addr} {o':HO}
theorem gj.write (ok:gj P w H h) (mu:Jz (H x)) (he:e=x\/H e=some (.own x)) (k:∀b u,b≠e->h.get? b=some u->h'.get? b=some u) (heo:∃u,h'.get? e=some u)
 (new:dY P w (upd H x o') h' x o'):gj P w (upd H x o') h':=λb u q=>by
 have nown:∀c y,H c=some (.own y)->c≠x:=λc y r z=>by subst z; rw[r]at mu; exact mu
 have ntup:∀c xs,H c=some (.tup xs)->c≠x:=λc xs r z=>by subst z; rw[r]at mu; exact mu
 by_cases hb:b=x
 . subst hb; rw[bA]at q; cases q; exact new
 . rw[bF hb]at q;by_cases hbe:b=e
   . have q':H b=some (.own x):=by
      rcases he with z | z
      . exact absurd (hbe.trans z) hb
      . rw[hbe]; exact z
     rw[q]at q'; cases q';obtain⟨v,hv⟩:=heo;exact⟨v,by rw[hbe]; exact hv⟩
   . refine(ok b u q).stay (λc v hc r=>k c v ?_ r) (λc r=>by rw[bF (nown c b r)]; exact r) λc xs r=>by rw[bF (ntup c xs r)]; exact r
     rcases hc with rfl | hc
     . exact hbe
     . rintro rfl;rcases he with z | z
       . exact nown c b hc z
       . rw[hc]at z; cases z; exact hb rfl
end
structure Un (fs ex:List Addr) (H H':Hp) (h h':Heap):Prop where
 keep:∀b o,h.get? b=some o->H b=none->b∉fs->b∉ex->h'.get? b=some o
 slot:∀b o,h.get? b=some o->H b=none->b∈fs->b∉ex->∃sl,h'.get? b=some { o with slots:=sl }
 free:∀b o,h.get? b=some o->H b=none->b∉ex->H' b=none
 there:∀b o,h.get? b=some o->b∉ex->∃o',h'.get? b=some o'
 tups:∀b xs,H b=some (.tup xs)->H' b=some (.tup xs)
 frzs:∀b o u,H b=some (.frz o u)->H' b=some (.frz o u)
 tbls:∀b ps,H b=some (.tbl ps)->∃more,H' b=some (.tbl (ps++more))
section
variable {fs fs' ex ex':List Addr} {H H1 H2:Hp} {h h1 h2 h':Heap} {a x e:Addr} {o:HO}
theorem Un.any (u:Un fs ex H H1 h h1) {b:Addr} {ob:Obj} (q:h.get? b=some ob) (n:H b=none) (hx:b∉ex):∃sl,h1.get? b=some { ob with slots:=sl }:=by
 by_cases hb:b∈fs
 . exact u.slot b ob q n hb hx
 . exact⟨ob.slots,u.keep b ob q n hb hx⟩
theorem Un.kept (k:∀b u,h.get? b=some u->h'.get? b=some u):Un fs ex H H h h':=
 ⟨λb ob q _ _ _=>k b ob q,λb ob q _ _ _=>⟨ob.slots,k b ob q⟩,λ_ _ _ n _=>n,λb ob q _=>⟨ob,k b ob q⟩,λ_ _ q=>q,λ_ _ _ q=>q,λ_ ps q=>⟨#[],by rw[q]; simp⟩⟩
theorem Un.refl:Un fs ex H H h h:=Un.kept λ_ _ q=>q
theorem Un.laid (k:∀b u,h.get? b=some u->h'.get? b=some u) (hp:h.objs.size<=a) (hn:H a=none):Un fs ex H (upd H a o) h h' where
 keep:=λb u q _ _ _=>k b u q
 slot:=λb u q _ _ _=>⟨u.slots,k b u q⟩
 free:=λb u q n _=>by rw[bF (Zi (Y7 (YZ q) hp))]; exact n
 there:=λb u q _=>⟨u,k b u q⟩
 tups:=λb xs q=>by rw[bF (dC q hn)]; exact q
 frzs:=λb u xs q=>by rw[bF (dC q hn)]; exact q
 tbls:=λb ps q=>⟨#[],by rw[bF (dC q hn),q]; simp⟩
theorem Un.write (mu:Jz (H x)) (he:e=x\/H e=some (.own x)) (k:∀b u,b≠e->h.get? b=some u->h'.get? b=some u) (heo:∃u,h'.get? e=some u):Un fs ex H (upd H x o) h h':=by
 have hx:∀b,H b=none->b≠x:=λb n z=>by subst z; rw[n]at mu; exact mu
 have hb:∀b,H b=none->b≠e:=λb n z=>by
  subst z;rcases he with r | r
  . exact hx b n r
  . rw[n]at r; cases r
 have hm:∀b u,H b=some u->¬ Jz (some u)->b≠x:=λb u q nm z=>by subst z; rw[q]at mu; exact nm mu
 refine⟨λb u q n _ _=>k b u (hb b n) q,λb u q n _ _=>⟨u.slots,k b u (hb b n) q⟩,λb u q n _=>by rw[bF (hx b n)]; exact n,λb u q _=>?_,
  λb xs q=>by rw[bF (hm b _ q λz=>z)]; exact q,λb u xs q=>by rw[bF (hm b _ q λz=>z)]; exact q,λb ps q=>⟨#[],by rw[bF (hm b _ q λz=>z),q]; simp⟩⟩
 by_cases hbe:b=e
 . subst hbe; exact heo
 . exact⟨u,k b u hbe q⟩
end
def PQ (h:Heap) (H:Hp):List Addr:=(List.range h.objs.size).filter λa=>(H a).isSome
def tV (h:Heap) (H:Hp):Heap:=W.hideAll h (PQ h H)
theorem JB (h:Heap) (H:Hp):(tV h H).objs.size=h.objs.size:=W.hideAll_size _ _
theorem Mx {h:Heap} {H:Hp} {b:Addr} {o:Obj} (e:h.get? b=some o) (n:H b=none):(tV h H).get? b=some o:=
 W.hideAll_get _ e λhm=>by have q:(H b).isSome=true:=(List.mem_filter.mp hm).2;rw[n]at q; simp at q
theorem Rb {h:Heap} {H:Hp} {b:Addr} {o:Obj} (e:(tV h H).get? b=some o):h.get? b=some o/\H b=none:=by
 have e':h.get? b=some o:=W.of_hideAll (PQ h H) e;refine⟨e',?_⟩;cases q:H b with
 | none=>rfl
 | some x=>
  have hm:b∈PQ h H:=List.mem_filter.mpr ⟨List.mem_range.mpr (YZ e'),by simp[q]⟩;have z:(tV h H).get? b=none:=W.hideAll_none (PQ h H) hm;rw[z]at e; cases e
def Rc (g h:Heap) (L:Addr):List (Addr×Obj):=(List.range h.objs.size).filterMap λa=>if a=L\/(g.get? a).isSome=true then none else (h.get? a).map λo=>(a,o)
def rest (g h:Heap) (L d:Addr):List (Addr×Obj):=(Rc g h L).filter λp=>decide (p.1≠d)
structure Mod (K:FG) (mg:Str->Option Value) (base:Heap):Prop where
 kin:K.In base
 glob:base.Ns mainGlobals mg
 blt:∃mb,base.Ns builtinsNs mb/\∀x:Str,x ≠ "__name__" -> mb x=bootBuiltins x
 nolimit:base.NoLimit
structure Cx where
 prog:Program
 w:World
 K:FG
 mg:Str->Option Value
 base:Heap
 A:Around
 N:List Str
 s₀:Shared
 H0:Hp
 env:Env
 outer:List Env
 stack:List Env
 ex:List Addr
 fn:Str->Bool
 calm:Bool
 pn:List (Addr×Obj)
 xe:Value->Shared->Prop
def frs (l:List Env):List Addr:=l.filterMap (·.frame)
abbrev Cx.fs (X:Cx):List Addr:=frs X.outer
def JC (sc:Scope) (x:Str):Prop:=sc.names.lookup x=some .local\/sc.names.lookup x=some .cell\/sc.names.lookup x=some .free
def Loc (sc:Scope) (x:Str):Prop:=sc.names.lookup x=some .local\/sc.names.lookup x=some .cell
def Look (env:Env) (h:Heap) (m:Str->Option Value) (x:Str) (u:Value):Prop:=
 (env.kindOf x=some .local/\m x=some u)\/((env.kindOf x=some .cell\/env.kindOf x=some .free)/\∃c,env.cells.lookup x=some c/\h.IsCell c (some u))
structure Cx.Ok (X:Cx):Prop where
 mod:Mod X.K X.mg X.base
 kind:X.env.scope.kind=.function
 glob:X.env.globals=mainGlobals
 blt:X.env.builtins=builtinsNs
 above:X.s₀.heap.objs.size<=X.env.locals
 inj:∀x y c,X.env.cells.lookup x=some c->X.env.cells.lookup y=some c->x=y
 has:∀x,(X.env.kindOf x=some .cell\/X.env.kindOf x=some .free)->∃c,X.env.cells.lookup x=some c
 cab:∀x c,X.fn x=true->X.env.cells.lookup x=some c->X.s₀.heap.objs.size<=c
 hd:X.calm=true->X.A.handled=none
 frames:X.A.frames=some X.stack
 stk:X.stack=X.outer\/(X.stack=X.env::X.outer/\X.env.frame=some X.env.locals)
 exf:∀b∈X.ex,b≠X.env.locals/\∀x c,X.env.cells.lookup x=some c->c≠b
 bs:∀b o,X.base.get? b=some o->X.s₀.heap.get? b=some o/\X.H0 b=none
 bsz:X.base.objs.size<=X.s₀.heap.objs.size
 noex:∀b o,X.base.get? b=some o->b∉X.ex
 exfs:∀b∈X.ex,b∉X.fs
 funs:X.s₀.heap.FunFrames X.base X.outer
 frf:∀b∈X.fs,X.H0 b=none
structure Inv (X:Cx) (acR:List (Addr×Obj)) (O:List (Option V)) (H:Hp) (s:Shared):Prop where
 ok:X.Ok
 os:s.os=X.s₀.os
 bare:AllBare s.gens
 base:Un X.fs X.ex X.H0 H X.s₀.heap s.heap
 loc:∃m,s.heap.Ns X.env.locals m/\∀(i:Nat) (x:Str) (v:V),X.N[i]?=some x->O[i]?=some (some v)->JC X.env.scope x->∃u,RelV v u/\Look X.env s.heap m x u
 cell:∀x c,X.env.cells.lookup x=some c->∃v,s.heap.IsCell c v
 free:H X.env.locals=none
 freeC:∀x c,X.env.cells.lookup x=some c->H c=none
 pin:∀p∈X.pn++acR,s.heap.get? p.1=some p.2/\H p.1=none/\p.1≠X.env.locals/\p.1∉X.fs/\∀v,p.2.data≠.cell v
 hok:gj X.prog X.w H s.heap
 len:O.length=X.N.length
section
variable {X:Cx} {acR:List (Addr×Obj)} {O:List (Option V)} {H H':Hp} {s:Shared} {h':Heap}
theorem Cx.Ok.nofr (ok:X.Ok) {b:Addr} {o:Obj} (e:X.base.get? b=some o):b∉X.fs:=λhb=>by have:=(ok.funs.mem hb).1;rw[e]at this; cases this
theorem Inv.bs (I:Inv X acR O H s):∀b o,X.base.get? b=some o->s.heap.get? b=some o/\H b=none:=λb o e=>
 ⟨I.base.keep b o (I.ok.bs b o e).1 (I.ok.bs b o e).2 (I.ok.nofr e) (I.ok.noex b o e),I.base.free b o (I.ok.bs b o e).1 (I.ok.bs b o e).2 (I.ok.noex b o e)⟩
theorem Inv.bk (I:Inv X acR O H s):∀b o,X.base.get? b=some o->s.heap.get? b=some o:=λb o e=>(I.bs b o e).1
theorem Inv.mod (I:Inv X acR O H s):Mod X.K X.mg X.base:=I.ok.mod
theorem Inv.kIn (I:Inv X acR O H s):X.K.In s.heap:=I.ok.mod.kin.keeps I.bk
theorem Inv.lt (I:Inv X acR O H s):X.env.locals<s.heap.objs.size:=let ⟨_,hn,_⟩:=I.loc; hn.lt
theorem Inv.sz (I:Inv X acR O H s):X.s₀.heap.objs.size<=s.heap.objs.size:=ZD I.ok.above (aaW I.lt)
theorem Inv.nofs (I:Inv X acR O H s) {a:Addr} (h:s.heap.objs.size<=a):a∉X.fs:=λhb=>by obtain⟨_,o,ho,_⟩:=I.ok.funs.mem hb;exact absurd (Y7 (YZ ho) (ZD I.sz h)) (Z5 _)
theorem Inv.cne (I:Inv X acR O H s):∀x c,X.env.cells.lookup x=some c->c≠X.env.locals:=λx c e z=>by obtain⟨v,o,ho,hd⟩:=I.cell x c e;obtain⟨m,⟨o',es,ep,ho',hd',_⟩,_⟩:=I.loc;rw[z,ho']at ho; cases ho; rw[hd']at hd; cases hd
theorem Inv.funs (I:Inv X acR O H s):s.heap.FunFrames X.base X.outer:=by
 have all:∀(l:List Env),(∀b∈frs l,b∈X.fs)->X.s₀.heap.FunFrames X.base l->s.heap.FunFrames X.base l:=by
  intro l;induction l with
  | nil=>intro _ _; trivial
  | cons env r ih=>
   intro hs hl;obtain⟨hk,⟨L,o,hf,hn,ho,hd⟩,hr⟩:=hl;have hL:L∈X.fs:=hs L (by unfold frs; rw[aaP,hf]; exact YK);obtain⟨sl,e⟩:=I.base.slot L o ho (I.ok.frf L hL) hL λz=>I.ok.exfs L z hL;exact⟨hk,⟨L,_,hf,hn,e,hd⟩,ih (λb hb=>hs b (by unfold frs; rw[aaP,hf]; exact Y6 _ hb)) hr⟩
 exact all X.outer (λ_ hb=>hb) I.ok.funs
theorem Inv.stack (I:Inv X acR O H s):s.heap.FunFrames X.base X.stack:=by
 rcases I.ok.stk with e | ⟨e,hf⟩
 . rw[e]; exact I.funs
 . rw[e];obtain⟨m,hn,_⟩:=I.loc;refine .cons (by rw[I.ok.kind]; decide) hf hn ?_ I.funs;exact Heap.get?_none_of_le (ZD I.ok.bsz I.ok.above)
theorem Inv.stkSub (I:Inv X acR O H s):∀b∈frs X.stack,b∈X.env.locals::X.fs:=λb hb=>by
 rcases I.ok.stk with e | ⟨e,hf⟩
 . rw[e]at hb; exact Y6 _ hb
 . rw[e]at hb;unfold frs at hb;rw[aaP,hf]at hb;exact hb
theorem Inv.stkFree (I:Inv X acR O H s):∀b∈frs X.stack,H b=none:=λb hb=>by
 rcases YM.mp (I.stkSub b hb) with e | hb
 . rw[e]; exact I.free
 . obtain⟨_,o,ho,_⟩:=I.ok.funs.mem hb;exact I.base.free b o ho (I.ok.frf b hb) λz=>I.ok.exfs b z hb
theorem Inv.step {g':Array GenState} {t':Nat} {d':Drawn} {ch:List Addr} (I:Inv X acR O H s)
 (hch:∀b∈ch,(b∈X.ex\/X.s₀.heap.objs.size<=b)/\b≠X.env.locals/\(∀x c,X.env.cells.lookup x=some c->c≠b)/\∀p∈X.pn++acR,p.1≠b)
 (keep:∀b o,b≠X.env.locals->b∉X.fs->b∉ch->s.heap.get? b=some o->H b=none->h'.get? b=some o)
 (slot:∀b o,b≠X.env.locals->b∈X.fs->b∉ch->s.heap.get? b=some o->H b=none->∃sl,h'.get? b=some { o with slots:=sl }) (free:∀b o,b∉ch->s.heap.get? b=some o->H b=none->H' b=none)
 (there:∀b o,b∉ch->s.heap.get? b=some o->∃o',h'.get? b=some o')
 (tups:∀b xs,H b=some (.tup xs)->H' b=some (.tup xs)) (frzs:∀b o u,H b=some (.frz o u)->H' b=some (.frz o u)) (tbls:∀b ps,H b=some (.tbl ps)->∃more,H' b=some (.tbl (ps++more)))
 (ns:∀m,s.heap.Ns X.env.locals m->h'.Ns X.env.locals m) (hok:gj X.prog X.w H' h') (hg:AllBare g'):
 Inv X acR O H' { s with heap:=h',gens:=g',drawn:=d',toks:=t' }:=by
 have neL:∀b o,X.s₀.heap.get? b=some o->b≠X.env.locals:=λb o e=>Zi (Y7 (YZ e) I.ok.above);have neC:∀b o,X.s₀.heap.get? b=some o->b∉X.ex->b∉ch:=λb o e hx hb=>by
  rcases (hch b hb).1 with z | z
  . exact hx z
  . exact absurd (Y7 (YZ e) z) (Z5 _)
 have cellK:∀x c,X.env.cells.lookup x=some c->∀v,s.heap.IsCell c v->h'.IsCell c v:=λx c e v ⟨o,ho,hd⟩=>by
  have nch:c∉ch:=λz=>(hch c z).2.2.1 x c e rfl;by_cases hc:c∈X.fs
  . obtain⟨sl,q⟩:=slot c o (I.cne x c e) hc nch ho (I.freeC x c e);exact⟨_,q,hd⟩
  . exact⟨o,keep c o (I.cne x c e) hc nch ho (I.freeC x c e),hd⟩
 refine⟨I.ok,I.os,hg,⟨λb o e n hb hx=>?_,λb o e n hb hx=>?_,λb o e n hx=>?_,λb o e hx=>?_,λb xs e=>tups b xs (I.base.tups b xs e),λb o xs e=>frzs b o xs (I.base.frzs b o xs e),λb ps e=>?_⟩,?_,λx c e=>?_,?_,λx c e=>?_,λp hp=>?_,hok,I.len⟩
 . exact keep b o (neL b o e) hb (neC b o e hx) (I.base.keep b o e n hb hx) (I.base.free b o e n hx)
 . obtain⟨sl,e1⟩:=I.base.slot b o e n hb hx;obtain⟨sl',e2⟩:=slot b _ (neL b o e) hb (neC b o e hx) e1 (I.base.free b o e n hx);exact⟨sl',e2⟩
 . obtain⟨o',e1⟩:=I.base.there b o e hx;exact free b o' (neC b o e hx) e1 (I.base.free b o e n hx)
 . obtain⟨o',e1⟩:=I.base.there b o e hx;exact there b o' (neC b o e hx) e1
 . obtain⟨m1,e1⟩:=I.base.tbls b ps e;obtain⟨m2,e2⟩:=tbls b _ e1;exact⟨m1++m2,by rw[e2,Array.append_assoc]⟩
 . obtain⟨m,hn,hl⟩:=I.loc;refine⟨m,ns m hn,λi x v e1 e2 e3=>?_⟩;obtain⟨u,r,l⟩:=hl i x v e1 e2 e3;refine⟨u,r,?_⟩;rcases l with l | ⟨k,c,e,z⟩
   . exact .inl l
   . exact .inr ⟨k,c,e,cellK x c e _ z⟩
 . obtain⟨v,z⟩:=I.cell x c e;exact⟨v,cellK x c e v z⟩
 . obtain⟨m,⟨o,_,_,ho,_⟩,_⟩:=I.loc;exact free _ o (λz=>(hch _ z).2.1 rfl) ho I.free
 . obtain⟨v,o,ho,hd⟩:=I.cell x c e;exact free c o (λz=>(hch c z).2.2.1 x c e rfl) ho (I.freeC x c e)
 . obtain⟨e,n,ne,nf,d⟩:=I.pin p hp;have nch:p.1∉ch:=λz=>(hch p.1 z).2.2.2 p hp rfl;exact⟨keep p.1 p.2 ne nf nch e n,free p.1 p.2 nch e n,ne,nf,d⟩
theorem Inv.un {t':Nat} (I:Inv X acR O H s) (u:Un X.fs [] H H' s.heap h') (hok:gj X.prog X.w H' h'):Inv X acR O H' { s with heap:=h',toks:=t' }:=by
 obtain⟨m,⟨o,es,ep,ho,r⟩,_⟩:=id I.loc;obtain⟨sl,hL⟩:=u.any ho I.free (by simp);exact I.step (g':=s.gens) (d':=s.drawn) (ch:=[]) (λ_ z=>nomatch z) (λb o _ hb _ e n=>u.keep b o e n hb (by simp)) (λb o _ hb _ e n=>u.slot b o e n hb (by simp)) (λb o _ e n=>u.free b o e n (by simp)) (λb o _ e=>u.there b o e (by simp)) u.tups u.frzs u.tbls (λm' hm=>by obtain⟨o',es',ep',ho',r'⟩:=hm;rw[ho]at ho'; cases ho';exact⟨_,es',ep',hL,r'⟩) hok I.bare
theorem Inv.call {g':Array GenState} {t':Nat} {d':Drawn} {ch:List Addr} (I:Inv X acR O H s) (u:Un (frs X.stack) ch H H' s.heap h') (hok:gj X.prog X.w H' h') (hg:AllBare g')
 (hch:∀b∈ch,(b∈X.ex\/X.s₀.heap.objs.size<=b)/\b≠X.env.locals/\(∀x c,X.env.cells.lookup x=some c->c≠b)/\∀p∈X.pn++acR,p.1≠b):
 Inv X acR O H' { s with heap:=h',gens:=g',drawn:=d',toks:=t' }:=by
 obtain⟨m,⟨o,es,ep,ho,r⟩,_⟩:=id I.loc;obtain⟨sl,hL⟩:=u.any ho I.free λz=>(hch _ z).2.1 rfl;exact I.step (ch:=ch) hch (λb o hL hb hc e n=>u.keep b o e n (λz=>(YM.mp (I.stkSub b z)).elim hL hb) hc) (λb o _ _ hc e n=>u.any e n hc) (λb o hc e n=>u.free b o e n hc) (λb o hc e=>u.there b o e hc) u.tups u.frzs u.tbls (λm' hm=>by obtain⟨o',es',ep',ho',r'⟩:=hm;rw[ho]at ho'; cases ho';exact⟨_,es',ep',hL,r'⟩) hok hg
theorem Inv.turned {t':Nat} {it:Addr} (I:Inv X acR O H s) (k:∀b o,b≠it->s.heap.get? b=some o->h'.get? b=some o) (hn:H it=none) (hL:it≠X.env.locals)
 (h1:it∈X.ex\/X.s₀.heap.objs.size<=it) (h2:∀x c,X.env.cells.lookup x=some c->c≠it) (h3:∀p∈X.pn++acR,p.1≠it):Inv X acR O H { s with heap:=h',toks:=t' }:=by
 have nit:∀b u,H b=some u->b≠it:=λb u e z=>by rw[z,hn]at e; cases e
 refine I.step (g':=s.gens) (d':=s.drawn) (ch:=[it]) (λb hb=>?_) (λb o _ _ hc e _=>k b o (λz=>hc (by simp[z])) e) (λb o _ _ hc e _=>⟨o.slots,k b o (λz=>hc (by simp[z])) e⟩) (λ_ _ _ _ n=>n)
  (λb o hc e=>⟨o,k b o (λz=>hc (by simp[z])) e⟩) (λ_ _ e=>e) (λ_ _ _ e=>e) (λb ps e=>⟨#[],by rw[e]; simp⟩) (λm hm=>?_) (λb u e=>?_) I.bare
 . have e:b=it:=by simpa using hb
   subst e;exact⟨h1,hL,h2,h3⟩
 . obtain⟨o,es,ep,ho,r⟩:=hm;exact⟨o,es,ep,k _ o (Ne.symm hL) ho,r⟩
 . refine(I.hok b u e).stay (λc v hc q=>k c v ?_ q) (λ_ q=>q) λ_ _ q=>q;rcases hc with z | z
   . rw[z]; exact nit b u e
   . exact nit c _ z
theorem Inv.tok (I:Inv X acR O H s) (t:Nat):Inv X acR O H { s with toks:=t }:=I.un (h':=s.heap) (t':=t) Un.refl I.hok
theorem Inv.kept {t':Nat} (I:Inv X acR O H s) (k:∀b u,s.heap.get? b=some u->h'.get? b=some u):Inv X acR O H { s with heap:=h',toks:=t' }:=I.un (Un.kept k) (I.hok.kept k)
theorem Inv.laid {a:Addr} {o:HO} {t':Nat} (I:Inv X acR O H s) (k:∀b u,s.heap.get? b=some u->h'.get? b=some u) (hp:s.heap.objs.size<=a) (new:dY X.prog X.w (upd H a o) h' a o):
 Inv X acR O (upd H a o) { s with heap:=h',toks:=t' }:=I.un (Un.laid k hp (I.hok.fresh hp)) (I.hok.laid k hp new)
theorem Inv.write {x e:Addr} {o:HO} {t':Nat} (I:Inv X acR O H s) (mu:Jz (H x)) (he:e=x\/H e=some (.own x)) (k:∀b u,b≠e->s.heap.get? b=some u->h'.get? b=some u) (heo:∃u,h'.get? e=some u)
 (new:dY X.prog X.w (upd H x o) h' x o):Inv X acR O (upd H x o) { s with heap:=h',toks:=t' }:=I.un (Un.write mu he k heo) (I.hok.write mu he k heo new)
theorem Inv.pins_of {pins':List (Addr×Obj)} (I:Inv X acR O H s) (h:∀p∈pins',s.heap.get? p.1=some p.2/\H p.1=none/\p.1≠X.env.locals/\p.1∉X.fs/\∀v,p.2.data≠.cell v):Inv X pins' O H s:=
 ⟨I.ok,I.os,I.bare,I.base,I.loc,I.cell,I.free,I.freeC,λp hp=>(ZF.mp hp).elim (λz=>I.pin p (ZV _ z)) (h p),I.hok,I.len⟩
theorem xu {N:List Str} (hN:N.Nodup) {i j:Nat} {x:Str} (a:N[i]?=some x) (b:N[j]?=some x):i=j:=by obtain⟨h1,e1⟩:=YS.mp a;obtain⟨h2,e2⟩:=YS.mp b;exact(List.getElem_inj hN).mp (e1.trans e2.symm)
theorem JD {M:Model} {i:Nat} {x:Str} {v:V} {u:Value} {Q:Unit->Shared->Prop} (I:Inv X acR O H s) (hN:X.N.Nodup) (hi:X.N[i]?=some x) (hx:Loc X.env.scope x) (r:RelV v u)
 (h:∀s',Inv X acR (O.set i (some v)) H s'->(∃a,Heap.SameBut a s.heap s'.heap/\(a=X.env.locals\/X.env.cells.lookup x=some a))->Q () s') (hf:X.fn x=true\/X.env.scope.names.lookup x=some .local:=by first | exact .inl rfl | exact .inr rfl | assumption):wpAny M A (storeName X.env x u) Q E s:=by
 obtain⟨m,hn,hl⟩:=id I.loc;have hcls:(X.env.scope.kind==.class||(X.env.scope.kind==.module&&X.env.locals != X.env.globals))=false:=by rw[I.ok.kind]; rfl
 have hiO:i<O.length:=by rw[I.len]; exact(YS.mp hi).1
 have cne:=I.cne;have tracked:∀{a:Addr} {h':Heap},(∃o,s.heap.get? a=some o/\H a=none)->Heap.SameBut a s.heap h'->gj X.prog X.w H h':=λ{a h'} ha hs b ob e=>by
  obtain⟨_,_,hfree⟩:=ha;refine(I.hok b ob e).stay (λc w' hc q=>(hs.2 c ?_).trans q) (λ_ q=>q) λ_ _ q=>q;rintro rfl;rcases hc with rfl | hc
  . rw[hfree]at e; cases e
  . rw[hfree]at hc; cases hc
 rcases hx with hk | hk
 . refine wpAny_storeName_local hk hn (λh' hn' hs=>?_) hcls;obtain⟨oL,_,_,hoL,_⟩:=id hn;refine h _ ⟨I.ok,I.os,I.bare,⟨λb o e n hb hx=>?_,λb o e n hb hx=>?_,I.base.free,λb o e hx=>?_,I.base.tups,I.base.frzs,I.base.tbls⟩,⟨_,hn',λj y v' e1 e2 e3=>?_⟩,λy c e=>?_,I.free,I.freeC,λp hp=>?_,tracked ⟨oL,hoL,I.free⟩ hs,by simpa using I.len⟩ ⟨_,hs,.inl rfl⟩
   . exact(hs.2 b (Zi (Y7 (YZ e) I.ok.above))).trans (I.base.keep b o e n hb hx)
   . obtain⟨sl,e1⟩:=I.base.slot b o e n hb hx;exact⟨sl,(hs.2 b (Zi (Y7 (YZ e) I.ok.above))).trans e1⟩
   . obtain⟨o',e1⟩:=I.base.there b o e hx;exact⟨o',(hs.2 b (Zi (Y7 (YZ e) I.ok.above))).trans e1⟩
   . by_cases hj:j=i
     . subst hj;rw[hi]at e1; cases e1;rw[Y8 hiO]at e2;cases e2;exact⟨u,r,.inl ⟨hk,by simp⟩⟩
     . rw[Zc (Ne.symm hj)]at e2;obtain⟨u',r',q⟩:=hl j y v' e1 e2 e3;refine⟨u',r',?_⟩;rcases q with ⟨k,e⟩ | ⟨k,c,e,z⟩
       . refine .inl ⟨k,?_⟩;have:y≠x:=λe=>hj (xu hN e1 (e▸hi));simp[this,e]
       . exact .inr ⟨k,c,e,z.sameBut hs (cne y c e)⟩
   . obtain⟨w',z⟩:=I.cell y c e;exact⟨w',z.sameBut hs (cne y c e)⟩
   . obtain⟨e,n,ne,nf,d⟩:=I.pin p hp;exact⟨(hs.2 p.1 ne).trans e,n,ne,nf,d⟩
 . have hfn:X.fn x=true:=by
    rcases hf with z | z
    . exact z
    . rw[z]at hk; cases hk
   obtain⟨c,hc⟩:=I.ok.has x (.inl hk);obtain⟨w',z⟩:=I.cell x c hc;refine wpAny_storeName_cell I.ok.kind hk hc z (λh' hc' hs=>?_);obtain⟨oc,hoc,hocd⟩:=id z;refine h { s with heap:=h' } ⟨I.ok,I.os,I.bare,⟨λb o e n hb hx=>?_,λb o e n hb hx=>?_,I.base.free,λb o e hx=>?_,I.base.tups,I.base.frzs,I.base.tbls⟩,⟨m,hn.sameBut hs (Ne.symm (cne x c hc)),λj y v' e1 e2 e3=>?_⟩,λy c' e=>?_,I.free,I.freeC,λp hp=>?_,tracked ⟨oc,hoc,I.freeC x c hc⟩ hs,by simpa using I.len⟩ ⟨c,hs,.inr hc⟩
   . exact(hs.2 b (Zi (Y7 (YZ e) (I.ok.cab x c hfn hc)))).trans (I.base.keep b o e n hb hx)
   . obtain⟨sl,e1⟩:=I.base.slot b o e n hb hx;exact⟨sl,(hs.2 b (Zi (Y7 (YZ e) (I.ok.cab x c hfn hc)))).trans e1⟩
   . obtain⟨o',e1⟩:=I.base.there b o e hx;exact⟨o',(hs.2 b (Zi (Y7 (YZ e) (I.ok.cab x c hfn hc)))).trans e1⟩
   . by_cases hj:j=i
     . subst hj;rw[hi]at e1; cases e1;rw[Y8 hiO]at e2;cases e2;exact⟨u,r,.inr ⟨.inl hk,c,hc,hc'⟩⟩
     . rw[Zc (Ne.symm hj)]at e2;obtain⟨u',r',q⟩:=hl j y v' e1 e2 e3;refine⟨u',r',?_⟩;rcases q with q | ⟨k,c',e,z'⟩
       . exact .inl q
       . refine .inr ⟨k,c',e,z'.sameBut hs ?_⟩;rintro rfl;exact hj (xu hN e1 (I.ok.inj _ _ _ e hc▸hi))
   . by_cases hcc:c'=c
     . subst hcc; exact⟨_,hc'⟩
     . obtain⟨w2,z2⟩:=I.cell y c' e;exact⟨w2,z2.sameBut hs hcc⟩
   . obtain⟨e,n,ne,nf,d⟩:=I.pin p hp;refine⟨(hs.2 p.1 ?_).trans e,n,ne,nf,d⟩;intro q;rw[q,hoc]at e;have q':oc=p.2:=Zf e;exact d w' (by rw[<-q']; exact hocd)
theorem tW {M:Model} {i:Nat} {x:Str} {v:V} {u:Value} {Q:Unit->Shared->Prop} (I:Inv X acR O H s) (hN:X.N.Nodup) (hi:X.N[i]?=some x) (hx:Loc X.env.scope x) (r:RelV v u)
 (h:∀s',Inv X acR (O.set i (some v)) H s'->Q () s') (hf:X.fn x=true\/X.env.scope.names.lookup x=some .local:=by first | exact .inl rfl | exact .inr rfl | assumption):wpAny M A (storeName X.env x u) Q E s:=
 JD I hN hi hx r (λs' I' _=>h s' I') hf
theorem Inv.call' {s':Shared} {ch:List Addr} (I:Inv X acR O H s) (ho:s'.os=s.os) (u:Un (frs X.stack) ch H H' s.heap s'.heap) (hok:gj X.prog X.w H' s'.heap) (hg:AllBare s'.gens)
 (hch:∀b∈ch,(b∈X.ex\/X.s₀.heap.objs.size<=b)/\b≠X.env.locals/\(∀x c,X.env.cells.lookup x=some c->c≠b)/\∀p∈X.pn++acR,p.1≠b):Inv X acR O H' s':=by
 obtain⟨h',g',d',t',o'⟩:=s';have e:o'=s.os:=ho;subst e;exact I.call (g':=g') (t':=t') (d':=d') u hok hg hch
end
abbrev XK:=Value->Option Addr->Hp->Prop
abbrev St:=List (Option V)
abbrev VK:=V->Hp->Prop
abbrev TE:=St->Hp->VK->Prop
abbrev TT:=St->Hp->(Bool->Hp->Prop)->Prop
abbrev TA:=St->Hp->(List V->Hp->Prop)->Prop
structure Ends where
 nx:St->Hp->Prop
 rt:VK
 bk:St->Hp->Prop:=λ_ _=>False
 ct:St->Hp->Prop:=λ_ _=>False
abbrev TS:=Ends->St->Hp->Prop
def EP (X:Cx) (acR:List (Addr×Obj)) (O:St) (Q:VK) (u:Value) (s':Shared):Prop:=∃v H',Inv X acR O H' s'/\RelV v u/\Q v H'
def TP (X:Cx) (acR:List (Addr×Obj)) (O:St) (Q:Bool->Hp->Prop) (b:Bool) (s':Shared):Prop:=∃H',Inv X acR O H' s'/\Q b H'
def AP (X:Cx) (acR:List (Addr×Obj)) (O:St) (Q:List V->Hp->Prop) (us:List Value) (s':Shared):Prop:=∃vs H',Inv X acR O H' s'/\Vals vs us/\Q vs H'
def SP (X:Cx) (acR:List (Addr×Obj)) (D:Ends) (f:Flow) (s':Shared):Prop:=
 match f with
 | .next=>∃O' H',Inv X acR O' H' s'/\D.nx O' H'
 | .brk=>∃O' H',Inv X acR O' H' s'/\D.bk O' H'
 | .cont=>∃O' H',Inv X acR O' H' s'/\D.ct O' H'
 | .ret u=>∃v O' H',Inv X acR O' H' s'/\RelV v u/\D.rt v H'
def PE (X:Cx) (e:Expr) (t:TE):Prop:=
 ∀(acR:List (Addr×Obj)) (s:Shared) (O:St) (H:Hp) (Q:VK),Inv X acR O H s->t O H Q->wpAny (model X.prog X.w) X.A (eval e X.env) (EP X acR O Q) X.xe s
def PT (X:Cx) (e:Expr) (t:TT):Prop:=
 ∀(acR:List (Addr×Obj)) (s:Shared) (O:St) (H:Hp) (Q:Bool->Hp->Prop),Inv X acR O H s->t O H Q->wpAny (model X.prog X.w) X.A (isTrue e X.env (eval e X.env)) (TP X acR O Q) X.xe s
def PW (X:Cx) (e:Expr) (t:TT):Prop:=
 ∀(whole:Sem Value) (acR:List (Addr×Obj)) (s:Shared) (O:St) (H:Hp) (Q:Bool->Hp->Prop),Inv X acR O H s->t O H Q->wpAny (model X.prog X.w) X.A (isTrue e X.env whole) (TP X acR O Q) X.xe s
theorem PW.pt {X:Cx} {e:Expr} {t:TT} (h:PW X e t):PT X e t:=h _
def PA (X:Cx) (es:List Expr) (t:TA):Prop:=
 ∀(pos:Pos) (acR:List (Addr×Obj)) (s:Shared) (O:St) (H:Hp) (Q:List V->Hp->Prop),Inv X acR O H s->t O H Q->wpAny (model X.prog X.w) X.A (spliced (backTo pos (starEach es X.env))) (AP X acR O Q) X.xe s
def PS (X:Cx) (st:Stmt) (t:TS):Prop:=
 ∀(acR:List (Addr×Obj)) (s:Shared) (O:St) (H:Hp) (D:Ends),Inv X acR O H s->t D O H->wpAny (model X.prog X.w) X.A (exec st X.env) (SP X acR D) X.xe s
def eF (X:Cx) (st:List Stmt) (t:TS):Prop:=
 ∀(acR:List (Addr×Obj)) (s:Shared) (O:St) (H:Hp) (D:Ends),Inv X acR O H s->t D O H->wpAny (model X.prog X.w) X.A (execs st X.env) (SP X acR D) X.xe s
theorem bT {α:Type} {t:Sem α} {Q Q':α->Shared->Prop} {M:Model} (h:wpAny M A t Q E s) (hQ:∀a s,Q a s->Q' a s):wpAny M A t Q' E s:=wpAny_mono h hQ λ_ _ x=>x
section
variable {X:Cx}
theorem bin {a b:Expr} {ta tb:TE} (ha:PE X a ta) (hb:PE X b tb) {O:St} {H:Hp} {R:V->V->Hp->Prop} (I:Inv X acR O H s) (h:ta O H λx H1=>tb O H1 λy H2=>R x y H2)
 {α:Type} {Q:α->Shared->Prop} {f:Value->Value->Sem α}
 (hf:∀v u s2 x y H2,Inv X acR O H2 s2->RelV x v->RelV y u->R x y H2->wpAny (model X.prog X.w) X.A (f v u) Q X.xe s2):
 wpAny (model X.prog X.w) X.A (eval a X.env) (λv s₁=>wpAny (model X.prog X.w) X.A (eval b X.env) (λu s₂=>wpAny (model X.prog X.w) X.A (f v u) Q X.xe s₂) X.xe s₁) X.xe s:=by
 refine bT (ha acR s O H _ I h) λv s1 ⟨x,H1,I1,r1,q1⟩=>?_;refine bT (hb acR s1 O H1 _ I1 q1) λu s2 ⟨y,H2,I2,r2,q2⟩=>?_;exact hf v u s2 x y H2 I2 r1 r2 q2
def qd (i:Nat):TE:=λO H Q=>∃v,O[i]?=some (some v)/\Q v H
def tC (v:V):TE:=λ_ H Q=>Q v H
theorem Tu {i:Nat} {x:Str} {pos:Pos} (hN:X.N[i]?=some x) (hv:JC X.env.scope x) (hd:(x==("__debug__" : Str))=false:=by decide) (hcd:(x==("__classdict__" : Str))=false:=by decide):PE X (.Name x pos) (qd i):=by
 intro acR s O H Q I h;obtain⟨v,e,h⟩:=h;obtain⟨m,hn,hl⟩:=I.loc;obtain⟨u,r,l⟩:=hl i x v hN e hv;have fin:EP X acR O Q u s:=⟨v,H,I,r,h⟩;rcases l with ⟨hk,hm⟩ | ⟨hk,c,hc,hcell⟩
 . exact wpAny_Name (wpAny_loadName_local I.ok.kind hk hn hm fin) hd
 . rcases hk with hk | hk
   . exact wpAny_Name (wpAny_loadName_cell I.ok.kind hk hc hcell fin) hd
   . exact wpAny_Name (wpAny_loadName_free I.ok.kind hk hc hcell fin hcd) hd
theorem Tv {i j pos}:PE X (.Constant (.int i) j pos) (tC (.int i)):=λ_ _ _ H _ I h=>wpAny_Constant_int ⟨.int i,H,I.tok _,⟨_,rfl⟩,h⟩
theorem qx {b j pos}:PE X (.Constant (.bool b) j pos) (tC (.bl b)):=λ_ _ _ H _ I h=>Constant_bool ⟨.bl b,H,I,rfl,h⟩
theorem Tz {j pos}:PE X (.Constant .none j pos) (tC .non):=λ_ _ _ H _ I h=>Constant_none ⟨.non,H,I,rfl,h⟩
theorem JG {x j pos}:PE X (.Constant (.str x) j pos) (tC (.str x)):=λ_ _ _ H _ I h=>Calls.Constant_str ⟨.str x,H,I.tok _,⟨_,rfl⟩,h⟩
def Gl (X:Cx) (x:Str):Prop:=X.env.kindOf x=some .globalImplicit
theorem sJ {O:St} {H:Hp} {x:Str} {u:Value} {pos:Pos} {Q:Value->Shared->Prop} (I:Inv X acR O H s) (hg:Gl X x) (hm:X.mg x=some u) (h:Q u s)
 (hd:(x==("__debug__" : Str))=false:=by decide):wpAny (model X.prog X.w) X.A (eval (.Name x pos) X.env) Q E s:=
 Calls.Name_function_global I.ok.kind hg (Calls.loadGlobal_global (by rw[I.ok.glob]; exact I.mod.glob.keeps I.bk) hm h) hd
theorem qJ {O:St} {H:Hp} {x:Str} {u:Value} {pos:Pos} {Q:Value->Shared->Prop} (I:Inv X acR O H s) (hg:Gl X x) (hm:X.mg x=none) (hv:bootBuiltins x=some u) (h:Q u s)
 (hn:x ≠ "__name__" := by decide) (hd:(x==("__debug__" : Str))=false:=by decide):wpAny (model X.prog X.w) X.A (eval (.Name x pos) X.env) Q E s:=by
 obtain⟨mb,h1,h2⟩:=I.mod.blt;exact Calls.Name_function_global I.ok.kind hg (Calls.loadGlobal_builtin (by rw[I.ok.glob]; exact I.mod.glob.keeps I.bk) hm (by rw[I.ok.blt]; exact h1.keeps I.bk) ((h2 x hn).trans hv) h) hd
theorem mD {x:Str} {v:V} {u:Value} {pos:Pos} (hg:Gl X x) (hm:X.mg x=some u) (r:RelV v u) (hd:(x==("__debug__" : Str))=false:=by decide):PE X (.Name x pos) (tC v):=
 λ_ _ _ H _ I h=>sJ I hg hm ⟨v,H,I,r,h⟩ hd
theorem dO {x:Str} {v:V} {u:Value} {pos:Pos} (hg:Gl X x) (hm:X.mg x=none) (hv:bootBuiltins x=some u) (r:RelV v u) (hn:x ≠ "__name__" := by decide) (hd:(x==("__debug__" : Str))=false:=by decide):PE X (.Name x pos) (tC v):=
 λ_ _ _ H _ I h=>qJ I hg hm hv ⟨v,H,I,r,h⟩ hn hd
variable {a b:Expr} {ta tb:TE} {pos:Pos}
variable {tA tB':TT} {rest:List Expr}
def Xn (t u:TT):TT:=λO H Q=>t O H λc H1=>if c=true then Q true H1 else u O H1 Q
def XH (t:TT):TT:=λO H Q=>t O H λc H1=>Q (!c) H1
theorem TQ (ha:PT X a tA):PW X (.BoolOp .Or [a] pos) tA:=by
 intro wh acR s O H Q I h;refine isTrue_or (bT (ha acR s O H Q I h) λc s1 e=>?_);cases c with
 | false=>exact isTrue_or_nil e
 | true=>exact e
theorem WD (ha:PT X a tA) (hb:PW X (.BoolOp .Or (b::rest) pos) tB'):PW X (.BoolOp .Or (a::b::rest) pos) (Xn tA tB'):=by
 intro wh acR s O H Q I h;refine isTrue_or (bT (ha acR s O H _ I h) λc s1 ⟨H1,I1,q1⟩=>?_);cases c with
 | true=>exact⟨H1,I1,q1⟩
 | false=>exact hb wh acR s1 O H1 Q I1 q1
theorem TV (ha:PT X a tA):PT X (.UnaryOp .Not a pos) (XH tA):=by intro acR s O H Q I h;exact isTrue_not (ha acR s O H (λc H1=>Q (!c) H1) I h)
def WF (ta tb:TE):TE:=λO H Q=>ta O H λx H1=>∃c,x=.bl c/\if c=true then tb O H1 Q else Q (.bl false) H1
def WK (ta:TE):TE:=λO H Q=>ta O H λx H1=>∃c,x=.bl c/\Q (.bl (!c)) H1
theorem TX {op} {t:TE} (h:PE X a t):PE X (.BoolOp op [a] pos) t:=λacR s O H Q I hw=>BoolOp_one (h acR s O H Q I hw)
theorem TY (ha:PE X a ta) (hb:PE X (.BoolOp .And (b::rest) pos) tb):PE X (.BoolOp .And (a::b::rest) pos) (WF ta tb):=by
 intro acR s O H Q I h;refine BoolOp_and (bT (ha acR s O H _ I h) λv s1 ⟨x,H1,I1,r1,q1⟩=>?_);obtain⟨c,rfl,q1⟩:=q1;cases r1;refine wpAny_truthy_bool ?_;cases c with
 | true=>exact hb acR s1 O H1 Q I1 q1
 | false=>exact⟨.bl false,H1,I1,rfl,q1⟩
theorem T3 (ha:PE X a ta):PE X (.UnaryOp .Not a pos) (WK ta):=by intro acR s O H Q I h;refine UnaryOp_ (bT (ha acR s O H _ I h) λv s1 ⟨x,H1,I1,r1,q1⟩=>?_);obtain⟨c,rfl,q1⟩:=q1;cases r1;exact not_of (wpAny_truthy_bool ⟨.bl (!c),H1,I1,rfl,q1⟩)
def Yu (t:TT) (ta tb:TE):TE:=λO H Q=>t O H λc H1=>if c=true then ta O H1 Q else tb O H1 Q
theorem My {c:Expr} (hc:PT X c tA) (ha:PE X a ta) (hb:PE X b tb):PE X (.IfExp c a b pos) (Yu tA ta tb):=by
 intro acR s O H Q I h;refine wpAny_IfExp (bT (hc acR s O H _ I h) λd s1 ⟨H1,I1,q1⟩=>?_);cases d with
 | true=>exact ha acR s1 O H1 Q I1 q1
 | false=>exact hb acR s1 O H1 Q I1 q1
end
def bI (K:FG) (H:Hp) (a:Addr) (xs:List V):Prop:=
 Rd H a (.lst xs)\/
  ∃(o:Obj) (its:Array Value) (n:Nat),K.lookup a=some o/\o.cls=.type "list" /\ o.dict=none/\o.data=.seq its n/\its.size<=sizeLine/\Vals xs its.toList
def bV (K:FG) (H:Hp) (a:Addr) (xs:List V):Prop:=
 Rd H a (.tup xs)\/
  ∃(o:Obj) (its:Array Value) (n:Nat),K.lookup a=some o/\o.cls=.type "tuple" /\ o.data=.seq its n/\its.size<=sizeLine/\Vals xs its.toList
def XJ:Value->Option V
 | .none=>some .non
 | .bool b=>some (.bl b)
 | .int i _=>some (.int i)
 | .str x _=>some (.str x)
 | .bytes b _=>some (.byt b)
 | .float b _=>some (.flt b)
 | .ref a=>some (.ref a)
 | .type n=>some (.ty n)
 | _=>none
theorem RelV.abs {x:V} {u:Value} (r:RelV x u):XJ u=some x:=by
 cases x with
 | non=>cases r; rfl
 | bl _=>cases r; rfl
 | int _=>obtain⟨t,rfl⟩:=r; rfl
 | str _=>obtain⟨t,rfl⟩:=r; rfl
 | byt _=>obtain⟨t,rfl⟩:=r; rfl
 | flt _=>obtain⟨t,rfl⟩:=r; rfl
 | ref _=>cases r; rfl
 | ty _=>cases r; rfl
theorem RelV.inj {x y:V} {u:Value} (r:RelV x u) (q:RelV y u):x=y:=Zf (r.abs.symm.trans q.abs)
theorem Vals.inj:∀{xs ys:List V} {us:List Value},Vals xs us->Vals ys us->xs=ys
 | _,_,_,.nil,.nil=>rfl
 | _,_,_,.cons r t,.cons r' t'=>by rw[r.inj r',Vals.inj t t']
section
variable {X:Cx} {acR:List (Addr×Obj)} {O:St} {H:Hp} {s:Shared} {a:Addr} {xs ys:List V}
theorem bI.of {K:FG} (h:H a=some (.lst xs)):bI K H a xs:=.inl (.inl h)
theorem bV.of {K:FG} (h:H a=some (.tup xs)):bV K H a xs:=.inl (.inl h)
theorem Inv.list (I:Inv X acR O H s) (h:bI X.K H a xs):∃its:List Value,Vals xs its/\PlainL s.heap a its.toArray/\xs.length<=sizeLine:=by
 rcases h with h | ⟨o,its,n,hk,hc,hd,hs,hz,r⟩
 . obtain⟨z,its,n,r,e⟩:=h.ok I.hok;exact⟨its,r,⟨_,n,e,rfl,rfl,rfl⟩,z⟩
 . refine⟨its.toList,r,⟨o,n,I.kIn a o hk,hc,hd,by simpa using hs⟩,?_⟩;have e:=r.length;simp only[aaA]at e;omega
theorem Inv.tuple (I:Inv X acR O H s) (h:bV X.K H a xs):∃its:List Value,Vals xs its/\IsTup s.heap a its.toArray/\xs.length<=sizeLine:=by
 rcases h with h | ⟨o,its,n,hk,hc,hs,hz,r⟩
 . obtain⟨z,its,r,p⟩:=h.ok I.hok;exact⟨its,r,p,z⟩
 . refine⟨its.toList,r,⟨o,I.kIn a o hk,hc,n,by simpa using hs⟩,?_⟩;have e:=r.length;simp only[aaA]at e;omega
theorem Inv.list_inj (I:Inv X acR O H s) (h:bI X.K H a xs) (h':bI X.K H a ys):xs=ys:=by
 obtain⟨its,r,⟨o,n,e,_,_,d⟩,_⟩:=I.list h;obtain⟨its',r',⟨o',n',e',_,_,d'⟩,_⟩:=I.list h';rw[e]at e'; cases e';rw[d]at d';injection d' with d1 _;have:its=its':=by simpa using congrArg Array.toList d1
 subst this;exact r.inj r'
theorem Inv.tuple_inj (I:Inv X acR O H s) (h:bV X.K H a xs) (h':bV X.K H a ys):xs=ys:=by
 obtain⟨its,r,⟨o,e,_,n,d⟩,_⟩:=I.tuple h;obtain⟨its',r',⟨o',e',_,n',d'⟩,_⟩:=I.tuple h';rw[e]at e'; cases e';rw[d]at d';injection d' with d1 _;have:its=its':=by simpa using congrArg Array.toList d1
 subst this;exact r.inj r'
end
abbrev Cx.wish (X:Cx) (E:Value->Shared->Prop):Cx:={ X with xe:=E }
abbrev Cx.nox (X:Cx):Cx:=X.wish λ_ _=>False
theorem Cx.Ok.wish {X:Cx} (ok:X.Ok) (E:Value->Shared->Prop):(X.wish E).Ok:=
 ⟨ok.mod,ok.kind,ok.glob,ok.blt,ok.above,ok.inj,ok.has,ok.cab,ok.hd,ok.frames,ok.stk,ok.exf,ok.bs,ok.bsz,ok.noex,ok.exfs,ok.funs,ok.frf⟩
theorem Cx.Ok.unwish {X:Cx} (ok:(X.wish E).Ok):X.Ok:=
 ⟨ok.mod,ok.kind,ok.glob,ok.blt,ok.above,ok.inj,ok.has,ok.cab,ok.hd,ok.frames,ok.stk,ok.exf,ok.bs,ok.bsz,ok.noex,ok.exfs,ok.funs,ok.frf⟩
section
variable {X:Cx} {acR:List (Addr×Obj)} {O:St} {H:Hp} {s:Shared} {E:Value->Shared->Prop}
theorem Inv.wish (I:Inv X acR O H s) (E:Value->Shared->Prop):Inv (X.wish E) acR O H s:=⟨I.ok.wish E,I.os,I.bare,I.base,I.loc,I.cell,I.free,I.freeC,I.pin,I.hok,I.len⟩
theorem Inv.unwish (I:Inv (X.wish E) acR O H s):Inv X acR O H s:=⟨I.ok.unwish,I.os,I.bare,I.base,I.loc,I.cell,I.free,I.freeC,I.pin,I.hok,I.len⟩
theorem SP.unwish {D:Ends} {f:Flow} {s':Shared} (h:SP (X.wish E) acR D f s'):SP X acR D f s':=by
 cases f with
 | next=>obtain⟨O',H',I,q⟩:=h; exact⟨O',H',I.unwish,q⟩
 | brk=>obtain⟨O',H',I,q⟩:=h; exact⟨O',H',I.unwish,q⟩
 | cont=>obtain⟨O',H',I,q⟩:=h; exact⟨O',H',I.unwish,q⟩
 | ret u=>obtain⟨v,O',H',I,r,q⟩:=h; exact⟨v,O',H',I.unwish,r,q⟩
theorem eF.nox {st:List Stmt} {t:TS} (h:eF X.nox st t):eF X st t:=λacR s O H D I hw=>
 wpAny_mono (h acR s O H D (I.wish _) hw) (λ_ _ q=>q.unwish) λ_ _ z=>False.elim z
end
section
variable {X:Cx} {st:Stmt} {rest:List Stmt} {t u:TS} {e:Expr} {te:TE} {pos:Pos}
def WL:TS:=λD O H=>D.nx O H
def XM (t u:TS):TS:=λD O H=>t { D with nx:=u D } O H
theorem Gu:eF X [] WL:=λ_ _ O H _ I h=>wpAny_execs_nil ⟨O,H,I,h⟩
theorem Dj (h1:PS X st t) (h2:eF X rest u):eF X (st::rest) (XM t u):=by
 intro acR s O H D I h;refine wpAny_execs_cons (bT (h1 acR s O H { D with nx:=u D } I h) λf s1 q=>?_);cases f with
 | next=>
  obtain⟨O',H',I',q⟩:=q;exact h2 acR s1 O' H' D I' q
 | ret v=>exact q
 | brk=>exact q
 | cont=>exact q
theorem Gv (h1:PS X st t):eF X [st] t:=by
 intro acR s O H D I h;refine wpAny_execs_cons (bT (h1 acR s O H D I h) λf s1 q=>?_);cases f with
 | next=>exact wpAny_execs_nil q
 | ret v=>exact q
 | brk=>exact q
 | cont=>exact q
theorem Inv.quiet {O:St} {H:Hp} (I:Inv X acR O H s):interactive X.env=false:=by simp[interactive,I.ok.kind]
def tX (te:TE):TS:=λD O H=>te O H λ_ H1=>D.nx O H1
theorem j9 (he:PE X e te) (hs:swapsWith e none pos.line X.env=pure false:=by rfl):PS X (.Expr e pos) (tX te):=by intro acR s O H D I h;exact wpAny_Expr_any (bT (he acR s O H _ I h) λv s1 ⟨x,H1,I1,r1,q1⟩=>⟨O,H1,I1,q1⟩) I.quiet hs
def XN (te:TE):TS:=λD O H=>te O H D.rt
theorem Dk (he:PE X e te):PS X (.Return (some e) pos) (XN te):=by intro acR s O H D I h;exact wpAny_Return_some (bT (he acR s O H _ I h) λv s1 ⟨x,H1,I1,r1,q1⟩=>⟨x,O,H1,I1,r1,q1⟩)
def XQ (c:TT) (t u:TS):TS:=λD O H=>c O H λb H1=>if b=true then t D O H1 else u D O H1
theorem P0 {c:Expr} {a b:List Stmt} {tc:TT} (hc:PT X c tc) (ha:eF X a t) (hb:eF X b u):PS X (.If c a b pos) (XQ tc t u):=by
 intro acR s O H D I h;refine wpAny_If (bT (hc acR s O H _ I h) λd s1 ⟨H1,I1,q1⟩=>?_);cases d with
 | true=>exact ha acR s1 O H1 D I1 q1
 | false=>exact hb acR s1 O H1 D I1 q1
end
abbrev TG:=V->St->Hp->(St->Hp->Prop)->Prop
abbrev uK:=List V->St->Hp->(St->Hp->Prop)->Prop
def PG (X:Cx) (target:Expr) (t:TG):Prop:=
 ∀(acR:List (Addr×Obj)) (s:Shared) (O:St) (H:Hp) (v:V) (u:Value) (Q:St->Hp->Prop),Inv X acR O H s->RelV v u->t v O H Q->
  wpAny (model X.prog X.w) X.A (assign target X.env u) (λ_ s'=>∃O' H',Inv X acR O' H' s'/\Q O' H') X.xe s
def JH (X:Cx) (ts:List Expr) (t:uK):Prop:=
 ∀(acR:List (Addr×Obj)) (s:Shared) (O:St) (H:Hp) (vs:List V) (us:List Value) (Q:St->Hp->Prop),Inv X acR O H s->Vals vs us->t vs O H Q->
  wpAny (model X.prog X.w) X.A (assignInOrder ((assignEach ts X.env).map (·.2)) us) (λ_ s'=>∃O' H',Inv X acR O' H' s'/\Q O' H') X.xe s
abbrev Mz:=V->V->V->Hp->(Hp->Prop)->Prop
def MF (X:Cx) (t:Mz):Prop:=
 ∀(acR:List (Addr×Obj)) (s:Shared) (O:St) (H:Hp) (o i v:V) (ov iv u:Value) (Q:Hp->Prop),Inv X acR O H s->RelV o ov->RelV i iv->RelV v u->t o i v H Q->
  wpAny (model X.prog X.w) X.A (setItem ov iv u) (λ_ s'=>∃H',Inv X acR O H' s'/\Q H') X.xe s
section
variable {X:Cx} {pos:Pos}
def Cw (i:Nat):TG:=λv O H Q=>Q (O.set i (some v)) H
theorem Gw {i:Nat} {x:Str} (hN:X.N.Nodup) (hi:X.N[i]?=some x) (hx:Loc X.env.scope x) (hf:X.fn x=true\/X.env.scope.names.lookup x=some .local:=by first | exact .inl rfl | exact .inr rfl | assumption):PG X (.Name x pos) (Cw i):=by intro acR s O H v u Q I r h;exact wpAny_assign_Name (tW I hN hi hx r (λs' I'=>⟨_,H,I',h⟩) hf)
def T4:uK:=λvs O H Q=>vs=[]/\Q O H
def Qa (t:TG) (u:uK):uK:=λvs O H Q=>∃v r,vs=v::r/\t v O H λO' H'=>u r O' H' Q
theorem jw:JH X [] T4:=by intro acR s O H vs us Q I r h;obtain⟨e,h⟩:=h;subst e;cases r;exact assignInOrder_nil ⟨O,H,I,h⟩
theorem bN {e:Expr} {es:List Expr} {t:TG} {u:uK} (h1:PG X e t) (h2:JH X es u)
 (hs:(assignEach (e::es) X.env).map (·.2)=assign e X.env::(assignEach es X.env).map (·.2):=by rfl):JH X (e::es) (Qa t u):=by
 intro acR s O H vs us Q I r h;obtain⟨v,vr,e1,h⟩:=h;subst e1;cases r with
 | cons r rr=>
  rw[hs];refine assignInOrder_cons (bT (h1 acR s O H _ _ _ I r h) λ_ s1 ⟨O1,H1,I1,q1⟩=>?_);exact h2 acR s1 O1 H1 _ _ Q I1 rr q1
def XS (K:FG) (n:Nat) (t:uK):TG:=λv O H Q=>∃a xs,v=.ref a/\bV K H a xs/\xs.length=n/\t xs O H Q
theorem T5 {es:List Expr} {k:Nat} {t:uK} {n:Nat} (hc:X.calm=true) (h:JH X es t)
 (hn:(assignEach es X.env).length=n:=by rfl) (hst:(assignEach es X.env).findIdx? (·.1)=none:=by rfl):PG X (.Tuple es k pos) (XS X.K n t):=by
 intro acR s O H v u Q I r hw;obtain⟨a,xs,e1,hq,hl,hw⟩:=hw;subst e1;cases r;obtain⟨its,rv,ht,hz⟩:=I.tuple hq;refine assign_Tuple_tuple (I.ok.hd hc) ht (by simp[hn,<-hl,rv.length]) hst λh' hx=>?_;have I1:Inv X acR O H { s with heap:=h' }:=I.kept (t':=s.toks) λb o e=>hx b o (Zi (YZ e)) e;exact h acR _ O H xs _ Q I1 (by simpa using rv) hw
def MJ (to ti:TE) (t:Mz):TG:=λv O H Q=>to O H λo H1=>ti O H1 λi H2=>t o i v H2 λH3=>Q O H3
theorem uT {o i:Expr} {to ti:TE} {t:Mz} (ho:PE X o to) (hi:PE X i ti) (hs:MF X t)
 (ha:∀v,assign (.Subscript o i pos) X.env v=(do
   let ov <-holding [v] (eval o X.env)
   let iv <-holding [v,ov] (eval i X.env)
   standAt pos
   holding [v,ov,iv] (setItem ov iv v)
   release [v,ov,iv] []):=by intro _; rfl):PG X (.Subscript o i pos) (MJ to ti t):=by
 intro acR s O H v u Q I r h
 rw[ha]
 refine aa4 (wpAny_holding (bT (ho acR s O H _ I h) λov s1 ⟨x,H1,I1,r1,q1⟩=>?_))
 refine aa4 (wpAny_holding (bT (hi acR s1 O H1 _ I1 q1) λiv s2 ⟨y,H2,I2,r2,q2⟩=>?_))
 refine aa4 (wpAny_standAt (aa4 (wpAny_holding (bT (hs acR s2 O H2 x y v ov iv u _ I2 r1 r2 r q2) λ_ s3 ⟨H3,I3,q3⟩=>?_))))
 exact wpAny_release ⟨O,H3,I3,q3⟩
def HN (te:TE) (g:TG):TS:=λD O H=>te O H λx H1=>g x O H1 D.nx
theorem uU {tg e:Expr} {te:TE} {g:TG} (he:PE X e te) (hg:PG X tg g) (hs:swapsWithSole [tg] e pos.line X.env=pure false:=by rfl) (hw:swappedStores [tg] e X.env=pure none:=by rfl)
 (h1:(assignEach [tg] X.env).map (·.2)=[assign tg X.env]:=by rfl):PS X (.Assign [tg] e pos) (HN te g):=by
 intro acR s O H D I h;refine wpAny_Assign_stores (bT (he acR s O H _ I h) λv s1 ⟨x,H1,I1,r1,q1⟩=>?_) hs hw;rw[h1];exact bT (hg acR s1 O H1 x v _ I1 r1 q1) λ_ s2 q=>q
theorem JK {i:Nat} {x:Str} {e:Expr} {te:TE} {pos':Pos} (hN:X.N.Nodup) (hi:X.N[i]?=some x) (hx:Loc X.env.scope x) (he:PE X e te) (hs:swapsWith e (some (.Name x pos')) pos.line X.env=pure false:=by rfl) (hf:X.fn x=true\/X.env.scope.names.lookup x=some .local:=by first | exact .inl rfl | exact .inr rfl | assumption):
 PS X (.Assign [.Name x pos'] e pos) (HN te (Cw i)):=by
 intro acR s O H D I h;refine wpAny_Assign_Name (bT (he acR s O H _ I h) λv s1 ⟨y,H1,I1,r1,q1⟩=>?_) hs;exact tW I1 hN hi hx r1 (λs2 I2=>⟨_,H1,I2,q1⟩) hf
def T6 (c:TT) (tb:TS):TS:=λD O H=>∃W:Nat->St->Hp->Prop,(∃m,W m O H)/\∀m O H,W m O H->
 c O H λb H1=>if b=true then ∃N:St->Hp->Prop,(∀O' H',N O' H'->∃m',m'<m/\W m' O' H')/\tb { D with nx:=N,ct:=N,bk:=D.nx } O H1 else D.nx O H1
theorem MK {c:Expr} {body:List Stmt} {tc:TT} {tb:TS} (hp:PassesOwn (model X.prog X.w) X.A X.env X.xe) (hc:PT X c tc) (hb:eF X body tb):PS X (.While c body [] pos) (T6 tc tb):=by
 intro acR s O H D I h;obtain⟨W,⟨m0,w0⟩,turn⟩:=h;refine wpAny_While (codeAny_whileLoop (λn s'=>∃O' H',Inv X acR O' H' s'/\W n O' H') ?_ m0 ⟨O,H,I,w0⟩);rintro n s1 ⟨O1,H1,I1,w1⟩;refine wpAny_passesOwn hp (bT (hc acR s1 O1 H1 _ I1 (turn n O1 H1 w1)) λb s2 ⟨H2,I2,q2⟩=>?_);cases b with
 | true=>
  obtain⟨N,hN,q2⟩:=q2;rw[aa5 rfl];refine wpAny_passesOwn hp (bT (hb acR s2 O1 H2 _ I2 q2) λf s3 q3=>?_);cases f with
  | next=>
   obtain⟨O3,H3,I3,n3⟩:=q3;obtain⟨m',hm,w3⟩:=hN O3 H3 n3;exact⟨m',hm,O3,H3,I3,w3⟩
  | cont=>
   obtain⟨O3,H3,I3,n3⟩:=q3;obtain⟨m',hm,w3⟩:=hN O3 H3 n3;exact⟨m',hm,O3,H3,I3,w3⟩
  | brk=>exact q3
  | ret v=>exact q3
 | false=>
  rw[aa6 Zm];exact wpAny_execs_nil ⟨O1,H2,I2,q2⟩
end
structure It where
 go:Nat->Hp->Prop
 yld:Nat->Hp->V->Hp->Prop
 stop:Nat->Hp->Prop
def nP (X:Cx) (acR:List (Addr×Obj)) (H:Hp) (b:Addr):Prop:=
 H b=none/\b≠X.env.locals/\b∉X.fs/\(b∈X.ex\/X.s₀.heap.objs.size<=b)/\(∀x c,X.env.cells.lookup x=some c->c≠b)/\∀p∈X.pn++acR,p.1≠b
theorem Inv.fpOk {X:Cx} {O:St} {H H':Hp} {b:Addr} (I:Inv X acR O H s) (hb:s.heap.objs.size<=b) (hn:H' b=none):nP X acR H' b:=by
 refine⟨hn,ZK (Y7 I.lt hb),I.nofs hb,.inr (ZD I.sz hb),λx c e z=>?_,λp hp z=>?_⟩
 . obtain⟨v,q⟩:=I.cell x c e;exact absurd (Y7 q.lt (by rw[z]; exact hb)) (Z5 _)
 . exact absurd (Y7 (YZ (I.pin p hp).1) (by rw[z]; exact hb)) (Z5 _)
structure Turn (P:Program) (w:World) (K:FG) (tg:Expr) (J:It) (fp:List Addr) (it:Addr) (tn:Nat->Heap->Prop):Prop where
 mem:it∈fp
 obj:∀i h,tn i h->∀b∈fp,∃o,h.get? b=some o/\∀v,o.data≠.cell v
 keep:∀i h h',tn i h->(∀b∈fp,∀o,h.get? b=some o->h'.get? b=some o)->tn i h'
 item:∀(X:Cx),X.prog=P->X.w=w->X.K=K->X.calm=true->∀(i:Nat) (acR:List (Addr×Obj)) (s:Shared) (O:St) (H:Hp) (E:Value->Shared->Prop),Inv X acR O H s->(∀b∈fp,nP X acR H b)->tn i s.heap->J.go i H->
  wpAny (model P w) X.A (pyNext (.ref it)) (λr s1=>∃u,r=some u/\
   wpAny (model P w) X.A (letOwnedTupleGo tg (.ref it) u) (λ_ s2=>∃x H',Inv X acR O H' s2/\RelV x u/\J.yld i H x H'/\tn (i+1) s2.heap/\∀b∈fp,H' b=none) E s1) E s
 done:∀(X:Cx),X.prog=P->X.w=w->X.K=K->X.calm=true->∀(i:Nat) (acR:List (Addr×Obj)) (s:Shared) (O:St) (H:Hp) (E:Value->Shared->Prop),Inv X acR O H s->(∀b∈fp,nP X acR H b)->tn i s.heap->J.stop i H->
  wpAny (model P w) X.A (pyNext (.ref it)) (λr s1=>r=none/\Inv X acR O H s1) E s
 self:∀(A:Around) (i:Nat) (s:Shared) (Q:Value->Shared->Prop) (E:Value->Shared->Prop),tn i s.heap->Q (.ref it) s->wpAny (model P w) A (pyIter (.ref it)) Q E s
abbrev TI:=St->Hp->(It->Hp->Prop)->Prop
def PIE (X:Cx) (acR:List (Addr×Obj)) (O:St) (tg:Expr) (R:It->Hp->Prop) (itv:Value) (s2:Shared):Prop:=
 ∃(it:Addr) (fp:List Addr) (tn:Nat->Heap->Prop) (J:It) (H':Hp),itv=.ref it/\Inv X acR O H' s2/\Turn X.prog X.w X.K tg J fp it tn/\tn 0 s2.heap/\(∀b∈fp,nP X acR H' b)/\R J H'
def PI (X:Cx) (tg iter:Expr) (wi:TI):Prop:=
 ∀(acR:List (Addr×Obj)) (s:Shared) (O:St) (H:Hp) (R:It->Hp->Prop),Inv X acR O H s->wi O H R->
  wpAny (model X.prog X.w) X.A (eval iter X.env) (λv s1=>wpAny (model X.prog X.w) X.A (pyIter v) (PIE X acR O tg R) X.xe s1) X.xe s
theorem Cy {M:Model} {tg:Expr} {it:Addr} {u:Value} {o:Obj} {n:String} {vs:Array Value} {Q:Unit->Shared->Prop} (ho:s.heap.get? it=some o) (hc:o.cls=.type n) (hd:o.data=.fields vs)
 (hn:["enumerate", "zip", "dict_itemiterator", "dict_reverseitemiterator", "odict_iterator", "itertools.zip_longest", "itertools.pairwise"].contains n=false) (hQ:Q () s):wpAny M A (letOwnedTupleGo tg (.ref it) u) Q E s:=by
 unfold letOwnedTupleGo;cases tg<;>first
  | exact aa7 hQ
  | (cases u<;>first
      | exact aa7 hQ
      | (refine aa4 (wpAny_load ho ?_)
         rw[hc,hd];show wpAny M A (if (["enumerate", "zip", "dict_itemiterator", "dict_reverseitemiterator", "odict_iterator", "itertools.zip_longest", "itertools.pairwise"].contains n&&vs[0]?==some (rawInt _))=true then _ else _) Q E s;rw[aa6 (by intro h; rw[hn,Bool.false_and]at h; cases h)];exact aa7 hQ))
def Qc (K:FG) (a:Addr):It:=
 ⟨λi H=>∃xs x,bI K H a xs/\xs[i]?=some x,λi H x H'=>H'=H/\∀xs,bI K H a xs->xs[i]?=some x,λi H=>∃xs,bI K H a xs/\xs.length<=i⟩
def Qd (K:FG) (a:Addr):It:=
 ⟨λi H=>∃xs x,bV K H a xs/\xs[i]?=some x,λi H x H'=>H'=H/\∀xs,bV K H a xs->xs[i]?=some x,λi H=>∃xs,bV K H a xs/\xs.length<=i⟩
def Qe (lo:Int) (n:Nat):It:=⟨λi _=>i<n,λi H x H'=>H'=H/\x=.int (lo+i),λi _=>n<=i⟩
theorem JL {K:FG} {tg:Expr} (a it:Addr):Turn P w K tg (Qc K a) [it] it (λi h=>h.IsListIter it a i) where
 mem:=by simp
 obj:=λi h st b hb=>by
  have e:b=it:=by simpa using hb
  subst e;obtain⟨o,e,c,d⟩:=st;exact⟨o,e,λv z=>by rw[d]at z; cases z⟩
 keep:=λi h h' st k=>st.at λo e=>k it (by simp) o e
 item:=by intro X hP hw hK hc i acR s O H E I hf st hg;subst hP hw hK;obtain⟨xs,x,hq,hx⟩:=hg;obtain⟨its,rv,p,hz⟩:=I.list hq;obtain⟨u,hu,ru⟩:=rv.get hx;obtain⟨f0,f1,f2,f3,f4,f5⟩:=hf it (by simp);refine wpAny_pyNext_list_item st p.isList (x:=u) (by simpa using hu) λh' st' sb=>?_;have I1:Inv X acR O H { s with heap:=h' }:=I.turned (t':=s.toks) (λb o hb e=>(sb.2 b hb).trans e) f0 f1 f3 f4 f5;obtain⟨o,e,c,d⟩:=id st';exact⟨u,rfl,Cy (s:={ s with heap:=h' }) e c d (by decide) ⟨x,H,I1,ru,⟨rfl,λys hy=>by rw[I.list_inj hy hq]; exact hx⟩,st',λb hb=>(hf b hb).1⟩⟩
 done:=by intro X hP hw hK hc i acR s O H E I hf st hg;subst hP hw hK;obtain⟨xs,hq,hx⟩:=hg;obtain⟨its,rv,p,hz⟩:=I.list hq;obtain⟨f0,f1,f2,f3,f4,f5⟩:=hf it (by simp);have hl:=rv.length;exact wpAny_pyNext_list_end (I.ok.hd hc) st p.isList (by simp; omega) λh' eb=>⟨rfl,I.turned (t':=s.toks) (λb o hb e=>eb b o hb e) f0 f1 f3 f4 f5⟩
 self:=λ_ _ _ _ _ st h=>wpAny_pyIter_listiter st h
theorem HQ {K:FG} {tg:Expr} (a it:Addr):Turn P w K tg (Qd K a) [it] it (λi h=>h.IsTupleIter it a i) where
 mem:=by simp
 obj:=λi h st b hb=>by
  have e:b=it:=by simpa using hb
  subst e;obtain⟨o,e,c,d⟩:=st;exact⟨o,e,λv z=>by rw[d]at z; cases z⟩
 keep:=λi h h' st k=>st.at λo e=>k it (by simp) o e
 item:=by intro X hP hw hK hc i acR s O H E I hf st hg;subst hP hw hK;obtain⟨xs,x,hq,hx⟩:=hg;obtain⟨its,rv,p,hz⟩:=I.tuple hq;obtain⟨u,hu,ru⟩:=rv.get hx;obtain⟨f0,f1,f2,f3,f4,f5⟩:=hf it (by simp);refine wpAny_pyNext_tuple_item st (show s.heap.IsTuple a its.toArray from p) (x:=u) (by simpa using hu) λh' st' sb=>?_;have I1:Inv X acR O H { s with heap:=h' }:=I.turned (t':=s.toks) (λb o hb e=>(sb.2 b hb).trans e) f0 f1 f3 f4 f5;obtain⟨o,e,c,d⟩:=id st';exact⟨u,rfl,Cy (s:={ s with heap:=h' }) e c d (by decide) ⟨x,H,I1,ru,⟨rfl,λys hy=>by rw[I.tuple_inj hy hq]; exact hx⟩,st',λb hb=>(hf b hb).1⟩⟩
 done:=by intro X hP hw hK hc i acR s O H E I hf st hg;subst hP hw hK;obtain⟨xs,hq,hx⟩:=hg;obtain⟨its,rv,p,hz⟩:=I.tuple hq;obtain⟨f0,f1,f2,f3,f4,f5⟩:=hf it (by simp);have hl:=rv.length;exact wpAny_pyNext_tuple_end (I.ok.hd hc) st (show s.heap.IsTuple a its.toArray from p) (by simp; omega) λh' eb=>⟨rfl,I.turned (t':=s.toks) (λb o hb e=>eb b o hb e) f0 f1 f3 f4 f5⟩
 self:=λ_ _ _ _ _ st h=>wpAny_pyIter_tupleiter st h
theorem HR {K:FG} {tg:Expr} (it:Addr) (lo:Int) (n:Nat):Turn P w K tg (Qe lo n) [it] it (λi h=>IsRangeIter h it (lo+(i:Nat)*1) ((n:Int)-(i:Nat)) 1) where
 mem:=by simp
 obj:=λi h st b hb=>by
  have e:b=it:=by simpa using hb
  subst e;exact⟨_,st,λv z=>by have z':Data.fields _=Data.cell v:=z;cases z'⟩
 keep:=λi h h' st k=>k it (by simp) _ st
 item:=by intro X hP hw hK hc i acR s O H E I hf st hg;subst hP hw hK;obtain⟨f0,f1,f2,f3,f4,f5⟩:=hf it (by simp);have W:=Walks.range (prog:=X.prog) (w:=X.w) (I.ok.hd hc) it lo 1 n;refine W.item i s _ _ hg st λv h' tk hv st' kk=>?_;obtain⟨t,rfl⟩:=hv;have I1:Inv X acR O H { s with heap:=h',toks:=tk }:=I.turned (λb o hb e=>kk b o (by simpa using hb) e) f0 f1 f3 f4 f5;refine⟨_,rfl,Cy (s:={ s with heap:=h',toks:=tk }) (n := "range_iterator") st' rfl rfl (by decide) ⟨.int (lo+i),H,I1,⟨t,?_⟩,⟨rfl,rfl⟩,st',λb hb=>(hf b hb).1⟩⟩;rw[Int.mul_one]
 done:=by intro X hP hw hK hc i acR s O H E I hf st hg;subst hP hw hK;obtain⟨f0,f1,f2,f3,f4,f5⟩:=hf it (by simp);exact wpAny_pyNext_range_end (I.ok.hd hc) st (by have:n<=i:=hg; omega) λh' eb=>⟨rfl,I.turned (t':=s.toks) (λb o hb e=>eb b o hb e) f0 f1 f3 f4 f5⟩
 self:=λ_ _ _ _ _ st h=>wpAny_pyIter_rangeiter st h
section
variable {X:Cx} {tg:Expr}
theorem MN {O:St} {H:Hp} {R:It->Hp->Prop} {lo hi:Int} {t u v:Tok} {tk:Nat} (I:Inv X acR O H s) (h1:-(2 ^ 62)<=lo) (h2:lo<2 ^ 62) (h3:-(2 ^ 62)<=hi) (h4:hi<2 ^ 62)
 (q:R (Qe lo (hi-lo).toNat) H):wpAny (model X.prog X.w) X.A (pyIter (.ref s.heap.objs.size)) (PIE X acR O tg R) E { s with heap:=s.heap.push { cls:=.type "range",data:=.fields #[.int lo t,.int hi u,.int 1 v] },toks:=tk }:=by
 refine wpAny_pyIter_range (IsRange.new ..) (small_one h1 h2 h3 h4) ?_;have I1:Inv X acR O H { s with heap:=s.heap.push { cls:=.type "range",data:=.fields #[.int lo t,.int hi u,.int 1 v] },toks:=tk }:=I.kept λb o e=>YL _ e;refine⟨(s.heap.push { cls:=.type "range",data:=.fields #[.int lo t,.int hi u,.int 1 v] }).objs.size,[(s.heap.push { cls:=.type "range",data:=.fields #[.int lo t,.int hi u,.int 1 v] }).objs.size],_,_,H,rfl,
  I1.kept (t':=tk) λb o e=>YL _ e,HR _ lo (hi-lo).toNat,?_,λb hb=>?_,q⟩
 . have e1:lo+((0:Nat):Int)*1=lo:=by simp
   have e2:(((hi-lo).toNat:Nat):Int)-((0:Nat):Int)=Builtin.Range.rangeSize lo hi 1:=by rw[rangeSize_one]; split<;>omega
   show IsRangeIter _ _ (lo+((0:Nat):Int)*1) ((((hi-lo).toNat:Nat):Int)-((0:Nat):Int)) 1;rw[e1,e2];exact Y9 _ rfl
 . have e:b=(s.heap.push { cls:=.type "range",data:=.fields #[.int lo t,.int hi u,.int 1 v] }).objs.size:=by simpa using hb
   subst e;exact I1.fpOk (YW _) (I1.hok.fresh (YW _))
def WM (ta:TA):TI:=λO H R=>ta O H λvs H1=>∃j:Int,vs=[.int j]/\-(2 ^ 62)<=j/\j<2 ^ 62/\R (Qe 0 j.toNat) H1
theorem JM {a:Expr} {ta:TA} {p pos:Pos} (hg:Gl X "range") (hm:X.mg "range" = none) (ha:PA X [a] ta) (hs:starEach [a] X.env=[(false,eval a X.env)]:=by rfl):PI X tg (.Call (.Name "range" p) [a] [] pos) (WM ta):=by
 intro acR s O H R I h;refine Call_ (qJ I hg hm boot_range (PyProof.Rows.callWith_type1 (bT (ha pos acR s O H _ I h) λus s1 ⟨vs,H1,I1,r1,q1⟩=>?_) hs rfl));obtain⟨j,e,q1,q2,q⟩:=q1;subst e;cases r1 with
 | cons r rr=>
  cases rr;obtain⟨t,rfl⟩:=r;exact call_range_1 (MN I1 (by omega) (by omega) q1 q2 (by simpa using q))
def XX (wi:TI) (g:TG) (tb:TS):TS:=λD O H=>wi O H λJ H1=>∃W:Nat->Nat->St->Hp->Prop,(∃m,W 0 m O H1)/\∀i m O H,W i m O H->
 (J.stop i H/\D.nx O H)\/(J.go i H/\∃N:St->Hp->Prop,(∀O' H',N O' H'->∃m',m'<m/\W (i+1) m' O' H')/\∀x H',J.yld i H x H'->g x O H' λO2 H2=>tb { D with nx:=N,ct:=N,bk:=D.nx } O2 H2)
def uV (fp:List Addr) (h:Heap):List (Addr×Obj):=fp.filterMap λb=>(h.get? b).map λo=>(b,o)
theorem tY {fp:List Addr} {h:Heap} {b:Addr} {o:Obj} (hb:b∈fp) (e:h.get? b=some o):(b,o)∈uV fp h:=Zv.mpr ⟨b,hb,by rw[e]; rfl⟩
theorem JN {fp:List Addr} {h:Heap} {p:Addr×Obj} (hp:p∈uV fp h):p.1∈fp/\h.get? p.1=some p.2:=by
 obtain⟨b,hb,e⟩:=Zv.mp hp;cases q:h.get? b with
 | none=>rw[q]at e; cases e
 | some o=>
  rw[q]at e;have e':(b,o)=p:=Zf e;subst e';exact⟨hb,q⟩
theorem Inv.pinned {O:St} {H:Hp} {fp:List Addr} (I:Inv X acR O H s) (hf:∀b∈fp,nP X acR H b) (ho:∀b∈fp,∃o,s.heap.get? b=some o/\∀v,o.data≠.cell v):Inv X (acR++uV fp s.heap) O H s:=
 I.pins_of λp hp=>(ZF.mp hp).elim (λz=>I.pin p (Zn _ z)) λz=>by obtain⟨hb,e⟩:=JN z;obtain⟨f0,f1,f2,_⟩:=hf p.1 hb;obtain⟨o,e',d⟩:=ho p.1 hb;rw[e]at e'; cases e';exact⟨e,f0,f1,f2,d⟩
theorem Inv.unpinned {acR pl:List (Addr×Obj)} {O:St} {H:Hp} (I:Inv X (acR++pl) O H s):Inv X acR O H s:=I.pins_of λp hp=>I.pin p (Zn _ (ZV _ hp))
theorem JP {iter:Expr} {body:List Stmt} {wi:TI} {g:TG} {tb:TS} {pos:Pos} (hp:PassesOwn (model X.prog X.w) X.A X.env X.xe) (hc:X.calm=true) (hi:PI X tg iter wi) (hg:PG X tg g) (hb:eF X body tb)
 (hs:∀x,foldedSetIterable iter X.env x=pure x:=by intro _; rfl):PS X (.For tg iter body [] pos) (XX wi g tb):=by
 intro acR s O H D I h;refine wpAny_For (bT (hi acR s O H _ I h) λv s1 h1=>bT h1 λitv s2 h2=>?_) hs;obtain⟨it,fp,tn,J,H2,e,I2,T,st2,f2,W,⟨m0,w0⟩,turn⟩:=h2;subst e;have stat:∀{H':Hp},(∀b∈fp,H' b=none)->∀b∈fp,nP X acR H' b:=λhn b hb=>⟨hn b hb,(f2 b hb).2⟩;refine codeAny_forLoop_any (λn s'=>∃i O' H',Inv X acR O' H' s'/\tn i s'.heap/\(∀b∈fp,H' b=none)/\W i n O' H') ?_ m0 ⟨0,O,H2,I2,st2,λb hb=>(f2 b hb).1,w0⟩;rintro n s3 ⟨i,O3,H3,I3,st3,fr3,w3⟩;rcases turn i n O3 H3 w3 with ⟨stop,qn⟩ | ⟨go,N,hN,step⟩
 . refine wpAny_passesOwn hp (bT (T.done X rfl rfl rfl hc i acR s3 O3 H3 X.xe I3 (stat fr3) st3 stop) λr s4 ⟨hr,I4⟩=>?_);subst hr;exact wpAny_execs_nil ⟨O3,H3,I4,qn⟩
 . refine wpAny_passesOwn hp (bT (T.item X rfl rfl rfl hc i acR s3 O3 H3 X.xe I3 (stat fr3) st3 go) λr s4 ⟨u,hr,h4⟩=>?_);subst hr;refine wpAny_passesOwn hp (bT h4 λ_ s5 ⟨x,H5,I5,r5,y5,st5,fr5⟩=>?_);have I5':=I5.pinned (stat fr5) (T.obj _ _ st5);refine wpAny_passesOwn hp (bT (hg _ s5 O3 H5 x u _ I5' r5 (step x H5 y5)) λ_ s6 ⟨O6,H6,I6,q6⟩=>?_);refine wpAny_passesOwn hp (bT (hb _ s6 O6 H6 _ I6 q6) λf s7 q7=>?_);have again:∀{O7:St} {H7:Hp},Inv X (acR++uV fp s5.heap) O7 H7 s7->N O7 H7->∃m,m<n/\∃i O' H',Inv X acR O' H' s7/\tn i s7.heap/\(∀b∈fp,H' b=none)/\W i m O' H':=λ{O7 H7} I7 n7=>by obtain⟨m',hm,w7⟩:=hN O7 H7 n7;refine⟨m',hm,i+1,O7,H7,I7.unpinned,T.keep _ _ _ st5 λb hb o e=>(I7.pin (b,o) (Zn _ (Zn _ (tY hb e)))).1,λb hb=>?_,w7⟩;obtain⟨o,e,d⟩:=T.obj _ _ st5 b hb;exact(I7.pin (b,o) (Zn _ (Zn _ (tY hb e)))).2.1
   cases f with
   | next=>obtain⟨O7,H7,I7,n7⟩:=q7; exact again I7 n7
   | cont=>obtain⟨O7,H7,I7,n7⟩:=q7; exact again I7 n7
   | brk=>obtain⟨O7,H7,I7,q7⟩:=q7; exact⟨O7,H7,I7.unpinned,q7⟩
   | ret v=>obtain⟨x7,O7,H7,I7,r7,q7⟩:=q7; exact⟨x7,O7,H7,I7.unpinned,r7,q7⟩
end
abbrev R2:=V->V->Hp->VK->Prop
def fZ (X:Cx) (f:Value->Value->Sem Value) (r:R2):Prop:=
 ∀(acR:List (Addr×Obj)) (s:Shared) (O:St) (H:Hp) (x y:V) (v u:Value) (Q:VK),Inv X acR O H s->RelV x v->RelV y u->r x y H Q->
  wpAny (model X.prog X.w) X.A (f v u) (EP X acR O Q) X.xe s
def T7 (X:Cx) (f:Value->Sem Value) (r:V->Hp->VK->Prop):Prop:=
 ∀(acR:List (Addr×Obj)) (s:Shared) (O:St) (H:Hp) (x:V) (v:Value) (Q:VK),Inv X acR O H s->RelV x v->r x H Q->
  wpAny (model X.prog X.w) X.A (f v) (EP X acR O Q) X.xe s
def mF (X:Cx) (f:Value) (r:List V->Hp->VK->Prop):Prop:=
 ∀(acR:List (Addr×Obj)) (s:Shared) (O:St) (H:Hp) (xs:List V) (us:List Value) (Q:VK),Inv X acR O H s->Vals xs us->r xs H Q->
  wpAny (model X.prog X.w) X.A (call f us) (EP X acR O Q) X.xe s
def X3 (X:Cx) (r:V->Hp->(Bool->Hp->Prop)->Prop):Prop:=
 ∀(acR:List (Addr×Obj)) (s:Shared) (O:St) (H:Hp) (x:V) (v:Value) (Q:Bool->Hp->Prop),Inv X acR O H s->RelV x v->r x H Q->
  wpAny (model X.prog X.w) X.A (truthy v) (TP X acR O Q) X.xe s
def JQ (r:R2) (ta tb:TE):TE:=λO H Q=>ta O H λx H1=>tb O H1 λy H2=>r x y H2 Q
def Yv (r:V->Hp->VK->Prop) (ta:TE):TE:=λO H Q=>ta O H λx H1=>r x H1 Q
def rI (C:Int->Int->Prop) (g:Int->Int->V):R2:=λx y H Q=>∃i j,x=.int i/\y=.int j/\C i j/\Q (g i j) H
def sO (g:Int->Int->V):R2:=λx y H Q=>∃i j,x=.int i/\y=.int j/\Q (g i j) H
def rU (g:Int->V):V->Hp->VK->Prop:=λx H Q=>∃i,x=.int i/\Q (g i) H
section
variable {X:Cx} {a b c:Expr} {ta tb tc:TE} {pos:Pos}
theorem MP (ha:PE X a ta) (hb:PE X b tb) {O:St} {H:Hp} {R:V->V->Hp->Prop} (I:Inv X acR O H s)
 (h:ta O H λx H1=>tb O H1 λy H2=>R x y H2) {Q:Value->Shared->Prop} {f:Value->Value->Sem Value}
 (hf:∀v u s2 x y H2,Inv X acR O H2 s2->RelV x v->RelV y u->R x y H2->wpAny (model X.prog X.w) X.A (f v u) Q X.xe s2):
 wpAny (model X.prog X.w) X.A (eval a X.env) (λv s₁=>wpAny (model X.prog X.w) X.A (eval b X.env) (λu s₂=>wpAny (model X.prog X.w) X.A (f v u) Q X.xe s₂) X.xe s₁) X.xe s:=by
 refine bT (ha acR s O H _ I h) λv s1 ⟨x,H1,I1,r1,q1⟩=>?_;refine bT (hb acR s1 O H1 _ I1 q1) λu s2 ⟨y,H2,I2,r2,q2⟩=>?_;exact hf v u s2 x y H2 I2 r1 r2 q2
theorem Qf {op:Operator} {r:R2} (ho:fZ X (binaryOp op) r) (ha:PE X a ta) (hb:PE X b tb):PE X (.BinOp a op b pos) (JQ r ta tb):=by intro acR s O H Q I h;exact wpAny_BinOp (MP ha hb I h λv u s2 x y H2 I2 rx ry q=>ho acR s2 O H2 x y v u Q I2 rx ry q)
theorem WN {op:UnaryOp} {r:V->Hp->VK->Prop} (ho:T7 X (unaryOp op) r) (ha:PE X a ta):PE X (.UnaryOp op a pos) (Yv r ta):=by intro acR s O H Q I h;exact UnaryOp_ (bT (ha acR s O H _ I h) λv s1 ⟨x,H1,I1,r1,q1⟩=>ho acR s1 O H1 x v Q I1 r1 q1)
theorem Qg {f:Value->Value->Sem Value} {C:Int->Int->Prop} {g:Int->Int->Int}
 (rule:∀(i j:Int) (t u:Tok) (s:Shared) (Q:Value->Shared->Prop) (E:Value->Shared->Prop),C i j->Q (.int (g i j) s.toks) { s with toks:=s.toks+1 }->wpAny (model X.prog X.w) X.A (f (.int i t) (.int j u)) Q E s):
 fZ X f (rI C λi j=>.int (g i j)):=by
 intro acR s O H x y v u Q I rx ry h;obtain⟨i,j,rfl,rfl,hc,q⟩:=h;obtain⟨t,rfl⟩:=rx;obtain⟨t',rfl⟩:=ry;exact rule i j t t' s _ _ hc ⟨.int (g i j),H,I.tok _,⟨_,rfl⟩,q⟩
theorem T8 {f:Value->Value->Sem Value} {g:Int->Int->Int}
 (rule:∀(i j:Int) (t u:Tok) (s:Shared) (Q:Value->Shared->Prop) (E:Value->Shared->Prop),Q (.int (g i j) s.toks) { s with toks:=s.toks+1 }->wpAny (model X.prog X.w) X.A (f (.int i t) (.int j u)) Q E s):
 fZ X f (sO λi j=>.int (g i j)):=by
 intro acR s O H x y v u Q I rx ry h;obtain⟨i,j,rfl,rfl,q⟩:=h;obtain⟨t,rfl⟩:=rx;obtain⟨t',rfl⟩:=ry;exact rule i j t t' s _ _ ⟨.int (g i j),H,I.tok _,⟨_,rfl⟩,q⟩
theorem MT {f:Value->Value->Sem Value} {g:Int->Int->Bool}
 (rule:∀(i j:Int) (t u:Tok) (s:Shared) (Q:Value->Shared->Prop) (E:Value->Shared->Prop),Q (.bool (g i j)) s->wpAny (model X.prog X.w) X.A (f (.int i t) (.int j u)) Q E s):
 fZ X f (sO λi j=>.bl (g i j)):=by
 intro acR s O H x y v u Q I rx ry h;obtain⟨i,j,rfl,rfl,q⟩:=h;obtain⟨t,rfl⟩:=rx;obtain⟨t',rfl⟩:=ry;exact rule i j t t' s _ _ ⟨.bl (g i j),H,I,rfl,q⟩
def T9 (i j:Int):Prop:=0<=j/\j<=1000000/\i.natAbs<2 ^ 64
def HS (i j:Int):Prop:=(-(2 ^ 64)<i/\i<2 ^ 64)\/(-(2 ^ 64)<j/\j<2 ^ 64)
theorem HS.ok {i j:Int} (h:HS i j):IntMulOk i j:=by
 rcases h with ⟨h1,h2⟩ | ⟨h1,h2⟩
 . exact .of_left (intBits_le_64 h1 h2)
 . exact .of_right (intBits_le_64 h1 h2)
theorem Ua:fZ X (binaryOp .Add) (sO λi j=>.int (i+j)):=T8 λ_ _ _ _ _ _ _ q=>add_int q
theorem Dl:fZ X (binaryOp .Sub) (sO λi j=>.int (i-j)):=T8 λ_ _ _ _ _ _ _ q=>sub_int q
theorem jx:fZ X (binaryOp .Mult) (rI HS λi j=>.int (i*j)):=Qg λ_ _ _ _ _ _ _ hc q=>mul_int q hc.ok
theorem dD:fZ X (binaryOp .Mod) (rI (λ_ j=>0<j) λi j=>.int (i%j)):=Qg λi j _ _ _ _ _ hc q=>by have h1:(0:Int)<j:=hc;exact mod_int' (by omega) (by rw[Int.fmod_eq_emod_of_nonneg i (by omega)]; exact q)
theorem yp:fZ X (binaryOp .Pow) (rI T9 λi j=>.int (i ^ j.toNat)):=Qg λ_ _ _ _ _ _ _ hc q=>pow_int_small hc.1 hc.2.1 hc.2.2 q
theorem Yw {f:Value->Sem Value} {g:Int->Int}
 (rule:∀(i:Int) (t:Tok) (s:Shared) (Q:Value->Shared->Prop) (E:Value->Shared->Prop),Q (.int (g i) s.toks) { s with toks:=s.toks+1 }->wpAny (model X.prog X.w) X.A (f (.int i t)) Q E s):
 T7 X f (rU λi=>.int (g i)):=by
 intro acR s O H x v Q I rx h;obtain⟨i,rfl,q⟩:=h;obtain⟨t,rfl⟩:=rx;exact rule i t s _ _ ⟨.int (g i),H,I.tok _,⟨_,rfl⟩,q⟩
theorem Ub:T7 X (unaryOp .USub) (rU λi=>.int (-i)):=Yw λ_ _ _ _ _ q=>neg_int q
end
def scal:V->V->Bool
 | .non,.non=>true | .non,.int _=>true | .int _,.non=>true | .non,.bl _=>true | .bl _,.non=>true | .non,.str _=>true | .str _,.non=>true
 | .int _,.int _=>true | .bl _,.bl _=>true | .str _,.str _=>true | .byt _,.byt _=>true
 | .int _,.str _=>true | .str _,.int _=>true | .bl _,.str _=>true | .str _,.bl _=>true
 | _,_=>false
section
variable {X:Cx} {a b c:Expr} {ta tb tc:TE} {pos:Pos}
theorem Uc {O:St} {H:Hp} {Q:VK} {k k':Bool} (I:Inv X acR O H s) (q:Q (.bl k) H) (e:k=k'):EP X acR O Q (.bool k') s:=by subst e;exact⟨.bl k,H,I,rfl,q⟩
theorem WP:fZ X (compareOp .Lt) (sO λi j=>.bl (decide (i<j))):=MT λ_ _ _ _ _ _ _ q=>lt_int q
theorem WQ:fZ X (compareOp .LtE) (sO λi j=>.bl (decide (i<=j))):=MT λ_ _ _ _ _ _ _ q=>le_int q
theorem Qh:fZ X (compareOp .Gt) (sO λi j=>.bl (decide (j<i))):=MT λ_ _ _ _ _ _ _ q=>gt_int q
theorem JR:fZ X (compareOp .Is) (λx y H Q=>y=.non/\Q (.bl (decide (x=.non))) H):=by
 intro acR s O H x y v u Q I rx ry h;obtain⟨rfl,q⟩:=h;cases ry;refine is_none_gen (Uc I q ?_);cases x<;>first
  | (cases rx; rfl)
  | (obtain⟨t,rfl⟩:=rx; rfl)
theorem fZ.or {f:Value->Value->Sem Value} {r r':R2} (h:fZ X f r) (h':fZ X f r'):fZ X f (λx y H Q=>r x y H Q\/r' x y H Q):=by
 intro acR s O H x y v u Q I rx ry q;rcases q with q | q
 . exact h acR s O H x y v u Q I rx ry q
 . exact h' acR s O H x y v u Q I rx ry q
theorem bO (b:Expr) {op:CmpOp} (h:op≠.In:=by decide) (h2:op≠.NotIn:=by decide):behindInMarks op b=false:=by
 have e1:(op==CmpOp.In)=false:=by cases op<;>first | rfl | exact absurd rfl h
 have e2:(op==CmpOp.NotIn)=false:=by cases op<;>first | rfl | exact absurd rfl h2
 cases b<;>simp[behindInMarks,e1,e2]
theorem Rf {op:CmpOp} {r:R2} (ho:fZ X (compareOp op) r) (ha:PE X a ta) (hb:PE X b tb) (hm:behindInMarks op b=false):PE X (.Compare a [op] [b] pos) (JQ r ta tb):=by intro acR s O H Q I h;exact wpAny_Compare1 (MP ha hb I h λv u s2 x y H2 I2 rx ry q=>ho acR s2 O H2 x y v u Q I2 rx ry q) hm
def Qi (t:TE):TT:=λO H Q=>t O H λx H'=>∃k,x=.bl k/\Q k H'
theorem Rg {op:CmpOp} {r:R2} (ho:fZ X (compareOp op) r) (ha:PE X a ta) (hb:PE X b tb) (hm:behindInMarks op b=false):PT X (.Compare a [op] [b] pos) (Qi (JQ r ta tb)):=by
 intro acR s O H Q I h;refine wpAny_isTrue_Compare1 (bT (ha acR s O H _ I h) λv s1 ⟨x,H1,I1,r1,q1⟩=>bT (hb acR s1 O H1 _ I1 q1) λu s2 ⟨y,H2,I2,r2,q2⟩=>
  bT (ho acR s2 O H2 x y v u _ I2 r1 r2 q2) λc s3 ⟨z,H3,I3,r3,k,e,q3⟩=>?_) hm
 subst e;cases r3;exact wpAny_truthy_bool ⟨H3,I3,q3⟩
def JS (r r':R2) (ta tb tc:TE):TE:=λO H Q=>ta O H λx H1=>tb O H1 λy H2=>r x y H2 λz H3=>∃k,z=.bl k/\
 (if k=true then tc O H3 λw' H4=>r' y w' H4 Q else Q (.bl false) H3)
theorem M3 {op op':CmpOp} {r r':R2} (ho:fZ X (compareOp op) r) (ho':fZ X (compareOp op') r') (ha:PE X a ta) (hb:PE X b tb) (hc:PE X c tc)
 (hm:lastMarks [op,op'] [b,c]=false:=by with_unfolding_all rfl):PE X (.Compare a [op,op'] [b,c] pos) (JS r r' ta tb tc):=by
 intro acR s O H Q I h;refine Compare_chain (bT (ha acR s O H _ I h) λv s1 ⟨x,H1,I1,r1,q1⟩=>chain_link (bT (hb acR s1 O H1 _ I1 q1) λu s2 ⟨y,H2,I2,r2,q2⟩=>
  bT (ho acR s2 O H2 x y v u _ I2 r1 r2 q2) λd s3 ⟨z,H3,I3,r3,k,e,q3⟩=>?_)) hm
 subst e;cases r3;refine wpAny_truthy_bool ?_;cases k with
 | false=>exact ite_ff ⟨.bl false,H3,I3,rfl,q3⟩
 | true=>exact ite_tt (chain_last (bT (hc acR s3 O H3 _ I3 q3) λw' s4 ⟨z',H4,I4,r4,q4⟩=>ho' acR s4 O H4 y z' u w' Q I4 r2 r4 q4))
def M4 (K:FG) (x:V) (H:Hp) (k:Bool):Prop:=
 match x with
 | .non=>k=false
 | .bl b=>k=b
 | .int i=>k=(i != 0)
 | .str y=>y.length<=sizeLine/\k=((y.length:Int) != 0)
 | .byt y=>y.size<=sizeLine/\k=((y.size:Int) != 0)
 | .ref p=>(∃xs,bI K H p xs/\k=!xs.isEmpty)\/(∃xs,bV K H p xs/\k=!xs.isEmpty)\/∃kvs,H p=some (.dK kvs)/\k=!kvs.isEmpty
 | _=>False
theorem HW {κ:Type} {kvs:List (κ×V)} {vs:List (κ×Value)} (r:KV kvs vs):(!vs.isEmpty)=!kvs.isEmpty:=by cases r<;>rfl
theorem yq {xs:List V} {its:List Value} (r:Vals xs its):(!its.toArray.isEmpty)=!xs.isEmpty:=by cases r<;>simp
theorem sS:(sizeLine:Nat)<2 ^ 63:=by rw[sizeLine_eq]; decide
theorem Ud:X3 X (λx H Q=>∃k,M4 X.K x H k/\Q k H):=by
 intro acR s O H x v Q I rx h;obtain⟨k,e,q⟩:=h;have hl:=sS;have hs:sizeLine=16777216:=sizeLine_eq;cases x with
 | non=>
  cases rx;have e':k=false:=e;subst e';exact truthy_none ⟨H,I,q⟩
 | bl b=>
  cases rx;have e':k=b:=e;subst e';exact wpAny_truthy_bool ⟨H,I,q⟩
 | int i=>
  obtain⟨t,rfl⟩:=rx;have e':k=(i != 0):=e;subst e';exact PySem.P.truthy_int ⟨H,I,q⟩
 | str y=>
  obtain⟨t,rfl⟩:=rx;obtain⟨hy,e'⟩:y.length<=sizeLine/\k=((y.length:Int) != 0):=e;subst e';exact PySem.P.truthy_str (by omega) ⟨H,I.tok _,q⟩
 | byt y=>
  obtain⟨t,rfl⟩:=rx;obtain⟨hy,e'⟩:y.size<=sizeLine/\k=((y.size:Int) != 0):=e;subst e';exact W.truthy_bytes (by omega) ⟨H,I.tok _,q⟩
 | ref p=>
  cases rx;have e':(∃xs,bI X.K H p xs/\k=!xs.isEmpty)\/(∃xs,bV X.K H p xs/\k=!xs.isEmpty)\/∃kvs,H p=some (.dK kvs)/\k=!kvs.isEmpty:=e;rcases e' with ⟨xs,hx,e'⟩ | ⟨xs,hx,e'⟩ | ⟨kvs,hx,e'⟩
  . subst e';obtain⟨its,r,pl,hz⟩:=I.list hx;have hlen:=r.length;exact wpAny_truthy_list pl.isList (by simp only[Y0]; omega) ⟨H,I.tok _,by rw[yq r]; exact q⟩
  . subst e';obtain⟨its,r,pl,hz⟩:=I.tuple hx;have hlen:=r.length;exact truthy_tuple pl (by simp only[Y0]; omega) ⟨H,I.tok _,by rw[yq r]; exact q⟩
  . subst e';obtain⟨hz,hS,vs,r,m⟩:kvs.length<=sizeLine/\(p==sysModules)=false/\∃vs,KV kvs vs/\s.heap.DictOf (dj X.prog X.w) p vs:=I.hok p _ hx;have hlen:kvs.length=vs.length:=Paired.length r;exact wpAny_truthy_dict hS m (by omega) ⟨H,I.tok _,by rw[HW r]; exact q⟩
 | _=>exact(show False from e).elim
theorem Dm (ha:PE X a ta) (he:∀whole,isTrue a X.env whole=(do let v <-whole; standAt a.pos; holding [v] (truthy v))):
 PT X a (λO H Q=>ta O H λx H'=>∃k,M4 X.K x H' k/\Q k H'):=by
 intro acR s O H Q I h;exact isTrue_plain (bT (ha acR s O H _ I h) λv s1 ⟨x,H1,I1,r1,q1⟩=>Ud acR s1 O H1 x v Q I1 r1 q1) (he _)
theorem HX:fZ X (binaryOp .Add) (λx y H Q=>∃i j,x=.str i/\y=.str j/\i.length+j.length<=sizeLine/\Q (.str (i++j)) H):=by intro acR s O H x y v u Q I rx ry h;obtain⟨i,j,rfl,rfl,hz,q⟩:=h;obtain⟨t,rfl⟩:=rx;obtain⟨t',rfl⟩:=ry;exact add_str (λt' tk=>⟨.str (i++j),H,I.tok _,⟨_,rfl⟩,q⟩) hz
theorem vals1 {x:V} {us:List Value} (r:Vals [x] us):∃u,us=[u]/\RelV x u:=by
 cases r with
 | cons r1 r2=>cases r2; exact⟨_,rfl,r1⟩
theorem vals2 {x y:V} {us:List Value} (r:Vals [x,y] us):∃u w',us=[u,w']/\RelV x u/\RelV y w':=by
 cases r with
 | cons r1 r2=>
  cases r2 with
  | cons r3 r4=>cases r4; exact⟨_,_,rfl,r1,r3⟩
theorem Az (hc:X.calm=true):mF X (.builtin "max") (λxs H Q=>∃i j,xs=[.int i,.int j]/\Q (.int (if j>i then j else i)) H):=by
 intro acR s O H xs us Q I r h;obtain⟨i,j,rfl,q⟩:=h;obtain⟨u,w',rfl,⟨t,rfl⟩,⟨t',rfl⟩⟩:=vals2 r;refine max_two_ints (I.ok.hd hc) λh' tk k=>⟨_,H,I.kept k,?_,q⟩;by_cases hj:j>i
 . rw[aa5 hj,aa5 hj]; exact⟨_,rfl⟩
 . rw[aa6 hj,aa6 hj]; exact⟨_,rfl⟩
def M5 (K:FG) (x:V) (H:Hp) (n:Nat):Prop:=
 match x with
 | .str y=>y.length<=sizeLine/\n=y.length
 | .byt y=>y.size<=sizeLine/\n=y.size
 | .ref p=>(∃xs,bI K H p xs/\n=xs.length)\/∃xs,bV K H p xs/\n=xs.length
 | _=>False
theorem fM:mF X (.builtin "len") (λxs H Q=>∃x n,xs=[x]/\M5 X.K x H n/\Q (.int n) H):=by
 intro acR s O H xs us Q I r h;obtain⟨x,n,rfl,e,q⟩:=h;obtain⟨u,rfl,rx⟩:=vals1 r;have hl:=sS;have hs:sizeLine=16777216:=sizeLine_eq;cases x with
 | str y=>
  obtain⟨t,rfl⟩:=rx;obtain⟨hy,e'⟩:y.length<=sizeLine/\n=y.length:=e;subst e';exact len_str (by omega) ⟨.int _,H,I.tok _,⟨_,rfl⟩,q⟩
 | byt y=>
  obtain⟨t,rfl⟩:=rx;obtain⟨hy,e'⟩:y.size<=sizeLine/\n=y.size:=e;subst e';exact W.len_bytes (by omega) ⟨.int _,H,I.tok _,⟨_,rfl⟩,q⟩
 | ref p=>
  cases rx;have e':(∃xs,bI X.K H p xs/\n=xs.length)\/∃xs,bV X.K H p xs/\n=xs.length:=e;rcases e' with ⟨xs,hx,e'⟩ | ⟨xs,hx,e'⟩
  . subst e';obtain⟨its,r',pl,hz⟩:=I.list hx;have hlen:=r'.length;exact Calls.call_len_list pl.isList (by simp only[Y0]; omega) ⟨.int xs.length,H,I.tok _,⟨_,by simp only[Y0]; rw[hlen]⟩,q⟩
  . subst e';obtain⟨its,r',pl,hz⟩:=I.tuple hx;have hlen:=r'.length;exact len_tuple pl (by simp only[Y0]; omega) ⟨.int xs.length,H,I.tok _,⟨_,by simp only[Y0]; rw[hlen]⟩,q⟩
 | _=>exact(show False from e).elim
end
structure xx (h:Heap) (x dx C:Addr) (mA:Str->Option Value):Prop where
 obj:h.get? x=some (W.instObj C dx)
 ns:h.Ns1 dx mA
 ne:dx≠x
theorem JT {h:Heap} {dx:Addr} {mA:Str->Option Value} (n:h.Ns1 dx mA):∃od,h.get? dx=some od/\∀name,W.lookIn name od=some (mA name):=by
 obtain⟨o,es,ep,ho,hd,hk,_,hm⟩:=n;refine⟨o,ho,λname=>?_⟩;have e:=hm name;unfold nsFind findBy at e;rw[<-Array.find?_toList]at e;unfold W.lookIn;rw[hd];dsimp only;split
 . rename_i y q;rw[q]at e;exact congrArg some e
 . rename_i q;rw[q]at e;have a:es.toList.any (·.refKey)=false:=by rw[List.any_eq_false];intro y hy;obtain⟨z,t,hkey⟩:=hk y (Array.mem_toList_iff.mp hy);simp[DictEntry.refKey,hkey]
   have a':¬ es.toList.any (·.refKey)=true:=by rw[a]; exact Zm
   rw[aa6 a'];exact congrArg some e
theorem xx.look {h:Heap} {x dx C:Addr} {mA:Str->Option Value} (I:xx h x dx C mA):∃od,W.InstAt h x (W.instObj C dx) C (some od)/\∀name,W.lookIn name od=some (mA name):=
 let ⟨od,ho,hl⟩:=JT I.ns
 ⟨od,⟨I.obj,rfl,rfl,ho⟩,hl⟩
section
variable {prog:Program} {w:World} {A:Around} {E:Value->Shared->Prop} {s:Shared} {K:FG} {x dx C f:Addr} {mA:Str->Option Value} {name:Str} {v:Value}
theorem Rh {expr:Bool} {Q:Value->Shared->Prop} (X:K.In s.heap) (I:xx s.heap x dx C mA) (hg:W.plainGet K C name=true) (hh:W.hasDictIn K C=true)
 (ha:W.findIn K (.ref C) name=some none) (hv:mA name=some v) (hv':W.handedIn v=true) (h:Q v { s with toks:=s.toks+1 }):
 wpAny (model prog w) A (getAttr (.ref x) name expr) Q E s:=by
 obtain⟨od,J,hl⟩:=I.look;exact W.get_value X J (W.plainGet_of hg).1 (W.findObj_own hh ha rfl (by rw[hl,hv])) hv' h
theorem M6 {pl:Sem Bool} {Q:Value×List Value->Shared->Prop} (X:K.In s.heap) (I:xx s.heap x dx C mA) (hg:W.plainGet K C name=true)
 (hf:W.findIn K (.ref C) name=some (some (.ref f))) (ht:W.isFn K (.ref f)=true) (hv:mA name=none) (h:Q (.ref f,[.ref x]) s):
 wpAny (model prog w) A (getMethod (.ref x) name pl) Q E s:=by
 obtain⟨od,J,hl⟩:=I.look;exact W.method_fn X J (W.plainGet_of hg).1 (W.plainGet_of hg).2 hf (beq_iff_eq.mp ht) (by show (W.lookIn name od).map (·.isSome)=some false; rw[hl,hv]; rfl) h
theorem Ri {ns:List Str} {Q:Unit->Shared->Prop} (X:K.In s.heap) (I:xx s.heap x dx C mA)
 (hs:W.findIn K (.ref C) "__setattr__" = some (some (.builtin "object.__setattr__"))) (hp:W.plainOver K C=true) (ht:W.takerIn K C name=some none) (hh:W.hasDictIn K C=true)
 (hw:PySem.Within mA ns) (hsz:ns.length<=sizeLine)
 (h:∀h',xx h' x dx C (λy=>if y=name then some v else mA y)->Heap.SameBut dx s.heap h'->Q () { s with heap:=h',toks:=s.toks+2 }):
 wpAny (model prog w) A (setAttr (.ref x) name v) Q E s:=by
 obtain⟨od,J,hl⟩:=I.look;refine W.set_plain X J hs (W.osa_open (s:={ s with toks:=s.toks+1 }) (r:=none) X J hp ht λb=>?_);obtain⟨cd,hc,hd'⟩:=W.any_some hh;have hx:s.heap.get? x=some ⟨.ref C,some dx,.plain,#[]⟩:=I.obj;refine aa4 (aa7 (aa4 (aa4 (wpAny_loadPart hx (aa4 (W.Looks.here (s:={ s with toks:=s.toks+1 }) (W.looks_clsIn X hc) ?_))))));rw[hd'];refine aa7 (a:=some dx) (aa4 (aa7 (aa4 ?_)));refine wpAny_nsSet1 (s:={ s with toks:=s.toks+1 }) I.ns λh' hn2 hs2=>?_;obtain⟨oD,esD,epD,hoD,hdD,hcD⟩:=hn2.count (PySem.Within.cons name v hw);refine aa4 (wpAny_lookBehind hoD (by rw[hdD]; exact pastItsLine_dict (ZD hcD (by rw[YX]; omega))) ?_);exact aa7 (h _ ⟨(hs2.2 _ (Ne.symm I.ne)).trans I.obj,hn2,I.ne⟩ hs2)
theorem M7 {R:Result->Shared->Prop} {vs:List Value} {kw:List (Str×Value)} (X:K.In s.heap) (hm:W.makesIn K C=true)
 (hi:W.findIn K (.ref C) "__init__" = some (some (.ref f))) (hf:W.typeIn K (.ref f)=some (.type "function"))
 (h:codeAny (model prog w) (A.under (.builtin "type.__call__" ⟨.ref C::vs,kw⟩)) (.call (.ref f) ⟨.ref (s.heap.objs.size+1)::vs,kw⟩) (W.InitBack (s.heap.objs.size+1) R)
   { s with heap:=(s.heap.push W.emptyDict).push (W.instObj C s.heap.objs.size) }):
 codeAny (model prog w) A (.call (.ref C) ⟨vs,kw⟩) R s:=by
 obtain⟨hh,g,d,t,os⟩:=s;exact W.make_core (W.makes_of X hm) (W.looks_findIn X hi) (λself=>W.bind_fn X self hf) (.inl rfl) h
end
def iW (f:Str) (v:V):List (Str×V)->List (Str×V)
 | []=>[(f,v)]
 | (g,x)::r=>if g=f then (g,v)::r else (g,x)::iW f v r
theorem wU (f g:Str) (v:V):∀fs:List (Str×V),(iW f v fs).lookup g=if g=f then some v else fs.lookup g
 | []=>by
  show List.lookup g [(f,v)]=_;by_cases h:g=f
  . have hb:(g==f)=true:=beq_iff_eq.mpr h;simp only[List.lookup,hb,aa5 h]
  . have hb:(g==f)=false:=aba.mpr h;simp only[List.lookup,hb,aa6 h]
 | (k,x)::r=>by
  have ih:=wU f g v r;rw[show iW f v ((k,x)::r)=(if k=f then (k,v)::r else (k,x)::iW f v r) from rfl];by_cases hk:k=f
  . rw[aa5 hk];by_cases h:g=k
    . have hb:(g==k)=true:=beq_iff_eq.mpr h;simp only[List.lookup,hb,aa5 (h.trans hk)]
    . have hb:(g==k)=false:=aba.mpr h;simp only[List.lookup,hb,aa6 (λe:g=f=>h (e.trans hk.symm))]
  . rw[aa6 hk];by_cases h:g=k
    . have hb:(g==k)=true:=beq_iff_eq.mpr h;simp only[List.lookup,hb,aa6 (λe:g=f=>hk (h.symm.trans e))]
    . have hb:(g==k)=false:=aba.mpr h;simp only[List.lookup,hb];exact ih
theorem uW (f:Str) (v:V):∀fs:List (Str×V),f∈(iW f v fs).map (·.1)/\∀g,g∈fs.map (·.1)->g∈(iW f v fs).map (·.1)
 | []=>⟨by simp[iW],λg h=>by simp at h⟩
 | (k,x)::r=>by
  obtain⟨i1,i2⟩:=uW f v r;rw[show iW f v ((k,x)::r)=(if k=f then (k,v)::r else (k,x)::iW f v r) from rfl];by_cases hk:k=f
  . rw[aa5 hk];subst hk;exact⟨by simp,λg h=>by simpa using h⟩
  . rw[aa6 hk];refine⟨?_,λg h=>?_⟩
    . rw[Za];exact Y6 _ i1
    . rw[Za]at h ⊢;rcases YM.mp h with e | e
      . exact YM.mpr (.inl e)
      . exact Y6 _ (i2 g e)
theorem wV (f:Str) (v:V):∀fs:List (Str×V),(iW f v fs).length<=fs.length+1
 | []=>by simp[iW]
 | (k,x)::r=>by
  have ih:=wV f v r;rw[show iW f v ((k,x)::r)=(if k=f then (k,v)::r else (k,x)::iW f v r) from rfl];by_cases hk:k=f
  . rw[aa5 hk,YX,YX]; omega
  . rw[aa6 hk,YX,YX]; omega
theorem mW.some_of {v:V} {o:Option Value} (r:mW (some v) o):∃u,o=some u/\RelV v u:=by
 cases o with
 | none=>exact(show False from r).elim
 | some u=>exact⟨u,rfl,r⟩
theorem mW.none_of {o:Option Value} (r:mW none o):o=none:=by
 cases o with
 | none=>rfl
 | some u=>exact(show False from r).elim
theorem JV {v:V} {u:Value} (r:RelV v u):W.handedIn u=true:=by
 cases v with
 | non=>cases (show u=Value.none from r); rfl
 | bl b=>cases (show u=Value.bool b from r); rfl
 | int i=>obtain⟨t,e⟩:=(show ∃t,u=Value.int i t from r); cases e; rfl
 | str x=>obtain⟨t,e⟩:=(show ∃t,u=Value.str x t from r); cases e; rfl
 | byt b=>obtain⟨t,e⟩:=(show ∃t,u=Value.bytes b t from r); cases e; rfl
 | flt b=>obtain⟨t,e⟩:=(show ∃t,u=Value.float b t from r); cases e; rfl
 | ref a=>cases (show u=Value.ref a from r); rfl
 | ty n=>cases (show u=Value.type n from r); rfl
section
variable {P:Program} {w:World} {H H':Hp} {h h':Heap} {a C dx:Addr} {fs fs':List (Str×V)}
theorem zH (hok:gj P w H h) (e:H a=some (.ins C dx fs)):∃mA,xx h a dx C mA/\(∀f,mW (fs.lookup f) (mA f))/\PySem.Within mA (fs.map (·.1))/\fs.length<=1000/\H dx=some (.own a):=by obtain⟨d,z,ne,ob,mA,n,r,q⟩:=(show dY P w H h a (.ins C dx fs) from hok a _ e);exact⟨mA,⟨ob,n,ne⟩,r,q,z,d⟩
end
structure uX (K:FG) (C:Addr):Prop where
 pg:W.plainGet K C Str.empty=true
 hd:W.hasDictIn K C=true
 po:W.plainOver K C=true
 sa:W.findIn K (.ref C) "__setattr__" = some (some (.builtin "object.__setattr__"))
theorem uX.get {K:FG} {C:Addr} (c:uX K C) (f:Str):W.plainGet K C f=true:=c.pg
def jU (K:FG) (C:Addr) (f:Str):Prop:=W.findIn K (.ref C) f=some none
theorem jU.taker {K:FG} {C:Addr} {f:Str} (n:jU K C f):W.takerIn K C f=some none:=by unfold W.takerIn;rw[show W.findIn K (.ref C) f=some none from n];rfl
structure Meth (K:FG) (C:Addr) (m:Str) (f:Addr):Prop where
 at_:W.findIn K (.ref C) m=some (some (.ref f))
 fn:W.isFn K (.ref f)=true
 kp:W.keepIn K (.ref f)=true
section
variable {X:Cx} {acR:List (Addr×Obj)} {O:St} {H:Hp} {s:Shared} {a C dx:Addr} {fs:List (Str×V)} {f:Str} {v:V} {A:Around} {E:Value->Shared->Prop}
theorem HY {b:Bool} {Q:Value->Shared->Prop} (I:Inv X acR O H s) (e:H a=some (.ins C dx fs)) (c:uX X.K C) (n:jU X.K C f) (l:fs.lookup f=some v)
 (h:∀u s',Inv X acR O H s'->RelV v u->Q u s'):wpAny (model X.prog X.w) A (getAttr (.ref a) f b) Q E s:=by
 obtain⟨mA,O_,r,_,_,_⟩:=zH I.hok e;obtain⟨u,hu,ru⟩:=mW.some_of (v:=v) (o:=mA f) (by rw[<-l]; exact r f);exact Rh I.kIn O_ (c.get f) c.hd n hu (JV ru) (h u _ (I.tok _) ru)
theorem tZ {m:Str} {g:Addr} {pl:Sem Bool} {Q:Value×List Value->Shared->Prop} (I:Inv X acR O H s) (e:H a=some (.ins C dx fs)) (c:uX X.K C) (k:Meth X.K C m g) (l:fs.lookup m=none)
 (h:Q (.ref g,[.ref a]) s):wpAny (model X.prog X.w) A (getMethod (.ref a) m pl) Q E s:=by
 obtain⟨mA,O_,r,_,_,_⟩:=zH I.hok e;have hn:mA m=none:=mW.none_of (by rw[<-l]; exact r m);exact M6 I.kIn O_ (c.get m) k.at_ k.fn hn h
theorem Ia {y:V} {u:Value} {Q:Unit->Shared->Prop} (I:Inv X acR O H s) (e:H a=some (.ins C dx fs)) (c:uX X.K C) (n:jU X.K C f) (hl:fs.length<1000) (ry:RelV y u)
 (h:∀s',Inv X acR O (upd H a (.ins C dx (iW f y fs))) s'->Q () s'):wpAny (model X.prog X.w) A (setAttr (.ref a) f u) Q E s:=by
 obtain⟨mA,O_,r,wi,_,ho⟩:=zH I.hok e;have hz:(fs.map (·.1)).length<=sizeLine:=by rw[YQ,sizeLine_eq]; omega
 refine Ri I.kIn O_ c.sa c.po n.taker c.hd wi hz λh' O'_ sb=>h _ ?_;have hd:∃o,h'.get? dx=some o:=let ⟨o,_,_,e',_⟩:=O'_.ns; ⟨o,e'⟩;refine I.write (x:=a) (e:=dx) (by rw[e]; exact True.intro) (.inr ho) (λb q hb z=>(sb.2 b hb).trans z) hd ?_;refine⟨by rw[bF O_.ne]; exact ho,?_,O_.ne,O'_.obj,_,O'_.ns,λg=>?_,λg hg=>?_⟩
 . have:=wV f y fs; omega
 . show mW ((iW f y fs).lookup g) (if g=f then some u else mA g);rw[wU];by_cases q:g=f
   . rw[aa5 q,aa5 q]; exact ry
   . rw[aa6 q,aa6 q]; exact r g
 . by_cases q:g=f
   . rw[q]; exact(uW f y fs).1
   . refine(uW f y fs).2 g (wi g λz=>hg ?_);show (if g=f then some u else mA g)=none;rw[aa6 q]; exact z
theorem Inv.made (I:Inv X acR O H s):Inv X acR O (upd (upd H s.heap.objs.size (.own (s.heap.objs.size+1))) (s.heap.objs.size+1) (.ins C s.heap.objs.size []))
 { s with heap:=(s.heap.push W.emptyDict).push (W.instObj C s.heap.objs.size) }:=by
 have e1:(s.heap.push W.emptyDict).get? s.heap.objs.size=some W.emptyDict:=Y9 s.heap rfl;have e2:((s.heap.push W.emptyDict).push (W.instObj C s.heap.objs.size)).get? (s.heap.objs.size+1)=some (W.instObj C s.heap.objs.size):=by
  have:=Y9 (s.heap.push W.emptyDict) (o:=W.instObj C s.heap.objs.size) rfl
  rwa [aaq]at this
 have e3:(s.heap.push W.emptyDict).Ns s.heap.objs.size (λ_=>none):=⟨W.emptyDict,#[],_,e1,rfl,(λe he=>absurd he (by simp)),λ_=>rfl⟩;have I1:=I.laid (a:=s.heap.objs.size) (o:=.own (s.heap.objs.size+1)) (h':=s.heap.push W.emptyDict) (t':=s.toks) (λb u q=>YL _ q) (YW _) ⟨_,e1⟩;refine I1.laid (a:=s.heap.objs.size+1) (o:=.ins C s.heap.objs.size []) (t':=s.toks) (λb u q=>YL _ q) (Nat.le_of_eq (aaq _ _)) ?_;have ne:s.heap.objs.size≠s.heap.objs.size+1:=Zi (aar _);refine⟨by rw[bF ne,bA],Z8 _,ne,e2,λ_=>none,(Heap.Ns1.of_empty e3).at λo q=>YL _ q,λ_=>True.intro,λy hy=>absurd rfl hy⟩
theorem Rj {prog:Program} {env:Env} {e:Expr} {f:Str} {pos:Pos} {Q:Value->Shared->Prop} (hb:attributeBase e f env (eval e env)=eval e env)
 (h:wpAny (model prog w) A (eval e env) (λo s₁=>wpAny (model prog w) A (getAttr o f true) Q E s₁) E s):wpAny (model prog w) A (eval (.Attribute e f pos) env) Q E s:=
 Attribute_any_ h (by rw[arm_eval_Attribute,hb])
end
def X4 (K:FG) (ta:TE) (f:Str):TE:=λO H Q=>ta O H λx H1=>∃a C dx fs v,x=.ref a/\H1 a=some (.ins C dx fs)/\uX K C/\jU K C f/\fs.lookup f=some v/\Q v H1
def X5 (K:FG) (ta tv:TE) (f:Str):TS:=λD O H=>tv O H λy H1=>ta O H1 λx H2=>∃a C dx fs,x=.ref a/\H2 a=some (.ins C dx fs)/\uX K C/\jU K C f/\fs.length<1000/\
 D.nx O (upd H2 a (.ins C dx (iW f y fs)))
section
variable {X:Cx} {o e value:Expr} {f:Str} {pos pos' tpos:Pos} {ta tv:TE}
theorem JW (he:PE X e ta) (hb:attributeBase e f X.env (eval e X.env)=eval e X.env):PE X (.Attribute e f pos) (X4 X.K ta f):=by intro acR s O H Q I h;refine Rj hb (bT (he acR s O H _ I h) λu s1 ⟨x,H1,I1,rx,a,C,dx,fs,v,ex,ea,c,n,l,q⟩=>?_);subst ex;obtain rfl:u=Value.ref a:=rx;exact HY I1 ea c n l λu' s2 I2 ru=>⟨v,H1,I2,ru,q⟩
theorem Ue (ha:PE X o ta) (hv:PE X value tv) (hs:swapsWith value (some (.Attribute o f pos')) pos.line X.env=pure false):PS X (.Assign [.Attribute o f pos'] value pos) (X5 X.K ta tv f):=by intro acR s O H D I h;refine plainObj_wpAny_Assign_Attribute (bT (hv acR s O H _ I h) λu s1 ⟨y,H1,I1,ry,q⟩=>bT (ha acR s1 O H1 _ I1 q) λov s2 ⟨x,H2,I2,rx,a,C,dx,fs,ex,ea,c,n,l,q2⟩=>?_) hs;subst ex;obtain rfl:ov=Value.ref a:=rx;exact Ia I2 ea c n l ry λs3 I3=>⟨O,_,I3,q2⟩
def M8:V->V->Hp->VK->Prop:=λx y H Q=>∃i j,x=.int i/\y=.int j/\Q (.int (i+j)) H
theorem Wy {pl:Sem Bool} {m:Str} {apos:Pos} {args:List Expr} {O:St} {H:Hp} {Q:Value->Shared->Prop} {te:TE} (he:PE X e te) (I:Inv X acR O H s)
 (h:te O H λx H1=>∃a C dx fs g,x=.ref a/\H1 a=some (.ins C dx fs)/\uX X.K C/\Meth X.K C m g/\fs.lookup m=none/\
   ∀s1,Inv X acR O H1 s1->wpAny (model X.prog X.w) X.A (callWith pos (.ref g) [.ref a] (backTo pos (starEach args X.env)) (backToKw pos (keywordEach [] X.env))) Q X.xe s1)
 (ht:eval (.Call (.Attribute e m apos) args [] pos) X.env=(do
   let ov <-eval e X.env
   standAt apos.atName
   let (f,first) <-holding [ov] (getMethod ov m pl)
   callWith pos f first (backTo pos (starEach args X.env)) (backToKw pos (keywordEach [] X.env)))):
 wpAny (model X.prog X.w) X.A (eval (.Call (.Attribute e m apos) args [] pos) X.env) Q X.xe s:=by
 refine aa2 (pl:=pl) (bT (he acR s O H _ I h) λu s1 ⟨x,H1,I1,rx,a,C,dx,fs,g,ex,ea,c,k,l,q⟩=>?_) ht
 subst ex
 obtain rfl:u=Value.ref a:=rx
 exact tZ I1 ea c k l (q s1 I1)
end
section
variable {X:Cx} {acR:List (Addr×Obj)} {O:St} {H:Hp} {s:Shared} {A:Around} {E:Value->Shared->Prop} {Q:Value->Shared->Prop} {c:Value} {b:Bool}
end
structure fC (b:Bool) (k:Nat) (A:Around):Prop where
 hd:b=true->A.handled=none
 dp:A.depth+3*k+5<recursionLimit
 un:A.units+16*k+200<cLine
 gd:A.guards=some []
abbrev fH:=fC true
theorem fC.mono {b:Bool} {j k:Nat} (r:fC b k A) (h:j<=k):fC b j A:=⟨r.hd,by have:=r.dp; omega,by have:=r.un; omega,r.gd⟩
theorem fC.deeper {b:Bool} {k:Nat} (r:fC b (k+1) A) (env:Env):fC b k (A.deeper env):=
 ⟨r.hd,by have:=r.dp; show A.depth+1+3*k+5<_; omega,by have:=r.un; show A.units+3+16*k+200<_; omega,r.gd⟩
theorem Ib {C:Addr} {us:List Value} {kw:List (Str×Value)}:(A.under (.builtin "type.__call__" ⟨.ref C::us,kw⟩)).depth=A.depth+1:=by
 first | rfl | simp[Around.under,Code.weight,Code.isCreation,Code.isGuard,Code.isCaller,Code.frames,Code.isFrame,guardIds]
theorem Ie {C:Addr} {us:List Value} {kw:List (Str×Value)}:(A.under (.builtin "type.__call__" ⟨.ref C::us,kw⟩)).units=A.units+1:=by
 first | rfl | simp[Around.under,Code.cUnits,Code.frames,Code.isFrame]
theorem fC.make {b:Bool} {k:Nat} (r:fC b (k+1) A) (C:Addr) (us:List Value) (kw:List (Str×Value)):fC b k (A.under (.builtin "type.__call__" ⟨.ref C::us,kw⟩)):=
 ⟨r.hd,by have:=r.dp; rw[Ib]; omega,by have:=r.un; rw[Ie]; omega,by first | exact r.gd | (simpa [Around.under,Code.isGuard,guardIds] using r.gd)⟩
theorem fC.depth {b:Bool} {k:Nat} (r:fC b k A):A.depth<recursionLimit:=by have:=r.dp; omega
theorem fC.units {b:Bool} {k:Nat} (r:fC b k A):A.units+64<cLine:=by have:=r.un; omega
def rZ:TA:=λ_ H Q=>Q [] H
def mG (ta:TE) (tr:TA):TA:=λO H Q=>ta O H λx H1=>tr O H1 λxs H2=>Q (x::xs) H2
section
variable {X:Cx} {e:Expr} {es:List Expr} {te:TE} {t:TA} {pos:Pos}
theorem dh:PA X [] rZ:=λ_ _ _ _ H Q I h=>Calls.spliced_nil ⟨[],H,I,.nil,h⟩
theorem aO (ha:PE X e te) (hr:PA X es t) (hs:starEach (e::es) X.env=(false,eval e X.env)::starEach es X.env:=by rfl):PA X (e::es) (mG te t):=by intro pos acR s O H Q I h;rw[hs];show wpAny _ _ (spliced ((false,eval e X.env)::backTo pos (starEach es X.env))) _ _ s;refine Calls.spliced_cons (bT (ha acR s O H _ I h) λu s1 ⟨x,H1,I1,r1,q1⟩=>?_);exact bT (hr pos acR s1 O H1 _ I1 q1) λus s2 ⟨xs,H2,I2,r2,q2⟩=>⟨x::xs,H2,I2,.cons r1 r2,q2⟩
def M9 (t:TA):TE:=λO H Q=>t O H λxs H1=>xs.length<=sizeLine/\∀p,H1 p=none->Q (.ref p) (upd H1 p (.tup xs))
def X6 (t:TA):TE:=λO H Q=>t O H λxs H1=>xs.length<=sizeLine/\∀p,H1 p=none->Q (.ref p) (upd H1 p (.lst xs))
theorem Dn {x1} (h:PA X es t):PE X (.Tuple es x1 pos) (M9 t):=by intro acR s O H Q I hq;refine wpAny_Tuple_spliced (bT (h pos acR s O H _ I hq) λus s1 ⟨xs,H1,I1,r,z,q⟩=>⟨by rw[<-r.length]; exact z,?_⟩);have hf:H1 s1.heap.objs.size=none:=I1.hok.fresh (YW _);refine⟨.ref s1.heap.objs.size,upd H1 s1.heap.objs.size (.tup xs),I1.laid (t':=s1.toks) (λb u e=>YL _ e) (YW _) ?_,rfl,q _ hf⟩;exact⟨z,us,r,⟨_,Y9 _ rfl,rfl,_,rfl⟩⟩
theorem Ug (h:PA X es t):PE X (.List es pos) (X6 t):=by intro acR s O H Q I hq;refine wpAny_List_spliced (bT (h pos acR s O H _ I hq) λus s1 ⟨xs,H1,I1,r,z,q⟩=>⟨by rw[<-r.length]; exact z,?_⟩);have hf:H1 s1.heap.objs.size=none:=I1.hok.fresh (YW _);refine⟨.ref s1.heap.objs.size,upd H1 s1.heap.objs.size (.lst xs),I1.laid (t':=s1.toks) (λb u e=>YL _ e) (YW _) ?_,rfl,q _ hf⟩;exact⟨z,us,0,r,Y9 _ rfl⟩
end
abbrev Sp:=List V->Hp->VK->XK->Prop
abbrev sU:=List Env->Hp->Shared->XK->Value->Shared->Prop
structure xG (P:Program) (w:World) (K:FG) (mg:Str->Option Value) (base:Heap) (A:Around) (outer:List Env) (s:Shared) (H:Hp):Prop where
 frames:A.frames=some outer
 mod:Mod K mg base
 bs:∀b o,base.get? b=some o->s.heap.get? b=some o/\H b=none
 bsz:base.objs.size<=s.heap.objs.size
 funs:s.heap.FunFrames base outer
 frf:∀b∈frs outer,H b=none
 hok:gj P w H s.heap
 bare:AllBare s.gens
def CE (outer:List Env) (P:Program) (w:World) (H:Hp) (s:Shared) (Q:VK) (u:Value) (s':Shared):Prop:=
 ∃v H',s'.os=s.os/\AllBare s'.gens/\Un (frs outer) [] H H' s.heap s'.heap/\gj P w H' s'.heap/\RelV v u/\Q v H'
def CR (CX:sU) (outer:List Env) (P:Program) (w:World) (H:Hp) (s:Shared) (Q:VK) (E:XK) (r:Result) (s':Shared):Prop:=
 match r with
 | .ok (.ret u)=>CE outer P w H s Q u s'
 | .ok _=>False
 | .error e=>CX outer H s E e s'
structure qy (b:Bool) (P:Program) (w:World) (K:FG) (mg:Str->Option Value) (base:Heap) (CX:sU) (k:Nat) (f:Addr) (fd:FuncData) (ps:List Str) (sp:Sp):Prop where
 len:∀vs H Q E,sp vs H Q E->vs.length=ps.length
 run:∀(A:Around) (outer:List Env) (s:Shared) (H:Hp) (args:Args) (us:List Value) (vs:List V) (Q:VK) (E:XK),fC b k A->xG P w K mg base A outer s H->BindsTo s fd args (ps.zip us)->Vals vs us->sp vs H Q E->
  codeAny (model P w) A (.call (.ref f) args) (CR CX outer P w H s Q E) s
abbrev kW:=qy true
theorem qy.imp {b:Bool} {K:FG} {mg:Str->Option Value} {base:Heap} {CX:sU} {k:Nat} {f:Addr} {fd:FuncData} {ps:List Str} {sp sp':Sp} (F:qy b P w K mg base CX k f fd ps sp)
 (h:∀vs H Q E,sp' vs H Q E->sp vs H Q E):qy b P w K mg base CX k f fd ps sp':=
 ⟨λvs H Q E q=>F.len vs H Q E (h _ _ _ _ q),λA outer s H args us vs Q E hr he hb hv hs=>F.run A outer s H args us vs Q E hr he hb hv (h _ _ _ _ hs)⟩
theorem xG.make {K:FG} {mg:Str->Option Value} {base:Heap} {outer:List Env} {H:Hp} (e:xG P w K mg base A outer s H) (C:Addr) (us:List Value) (kw:List (Str×Value)):
 xG P w K mg base (A.under (.builtin "type.__call__" ⟨.ref C::us,kw⟩)) outer s H:=⟨by first | exact e.frames | (simpa [Around.under,Code.envs,Code.isFrame,pushEnvs] using e.frames),e.mod,e.bs,e.bsz,e.funs,e.frf,e.hok,e.bare⟩
section
variable {X:Cx} {acR:List (Addr×Obj)} {O:St} {H:Hp} {s s':Shared}
theorem Inv.env0 (I:Inv X acR O H s):xG X.prog X.w X.K X.mg X.base X.A X.stack s H:=
 ⟨I.ok.frames,I.ok.mod,I.bs,ZD I.ok.bsz I.sz,I.stack,I.stkFree,I.hok,I.bare⟩
theorem Inv.after {Q:VK} {u:Value} (I:Inv X acR O H s) (h:CE X.stack X.prog X.w H s Q u s'):EP X acR O Q u s':=by obtain⟨v,H',os,bare,un,hok,r,q⟩:=h;obtain⟨hh,g,d,t,os'⟩:=s';obtain rfl:os'=s.os:=os;exact⟨v,H',I.call (h':=hh) (g':=g) (d':=d) (t':=t) (ch:=[]) un hok bare (λb z=>absurd z (by simp)),r,q⟩
end
def yr (sp:Sp) (dvs:List V) (E:XK) (t:TA):TE:=λO H Q=>t O H λvs H1=>sp (vs++dvs) H1 Q E
def Ig (C:Addr) (m:Str) (sp:Sp) (dvs:List V) (E:XK) (ta:TE) (t:TA):TE:=λO H Q=>ta O H λx H1=>∃a dx fs,x=.ref a/\H1 a=some (.ins C dx fs)/\fs.lookup m=none/\
 t O H1 λvs H2=>sp (x::(vs++dvs)) H2 Q E
def Qj (C:Addr) (sp:Sp) (dvs:List V) (E:XK) (t:TA):TE:=λO H Q=>t O H λvs H1=>∀x dx,H1 x=none->H1 dx=none->dx≠x->
 sp (.ref x::(vs++dvs)) (upd (upd H1 dx (.own x)) x (.ins C dx [])) (λv H2=>v=.non/\Q (.ref x) H2) E
def Binds (K:FG) (fd:FuncData) (ps:List Str) (ds:List Value):Prop:=
 ∀(s:Shared) (us:List Value),K.In s.heap->(us++ds).length=ps.length->BindsTo s fd ⟨us,[]⟩ (ps.zip (us++ds))
theorem Binds.all {K:FG} {fd:FuncData} {ps:List Str} (h:∀us:List Value,us.length=ps.length->bindArgs fd ⟨us,[]⟩=pure (ps.zip us)):Binds K fd ps []:=λs us _ hl=>by rw[Zg]at hl ⊢;exact .of_eq (h us hl)
def oE (CX:sU) (X:Cx) (E:XK):Prop:=∀(acR:List (Addr×Obj)) (O:St) (H:Hp) (s:Shared) (e:Value) (s':Shared),Inv X acR O H s->CX X.stack H s E e s'->X.xe e s'
section
variable {X:Cx} {CX:sU} {k:Nat} {f C:Addr} {fd:FuncData} {ps:List Str} {sp:Sp} {dvs:List V} {ds:List Value} {E:XK} {x m:Str} {p pos apos:Pos} {e o:Expr} {es:List Expr} {ta:TE} {t:TA}
theorem yt {b:Bool} {O:St} {H:Hp} {Q:VK} {us:List Value} {vs:List V} (F:qy b X.prog X.w X.K X.mg X.base CX k f fd ps sp) (hr:fC b k X.A) (hb:Binds X.K fd ps ds) (hd:Vals dvs ds) (hx:∀H s e s',Inv X acR O H s->CX X.stack H s E e s'->X.xe e s')
 (I:Inv X acR O H s) (r:Vals vs us) (h:sp (vs++dvs) H Q E):wpAny (model X.prog X.w) X.A (call (.ref f) us) (EP X acR O Q) X.xe s:=by
 have r2:Vals (vs++dvs) (us++ds):=r.append hd;have hl:(us++ds).length=ps.length:=by rw[<-r2.length]; exact F.len _ _ _ _ h
 refine wpAny_call (codeAny_mono (F.run X.A X.stack s H ⟨us,[]⟩ (us++ds) (vs++dvs) Q E hr I.env0 (hb s us I.kIn hl) r2 h) λr s' hq=>?_);cases r with
 | error e=>exact hx H s e s' I hq
 | ok fl=>
  cases fl with
  | ret u=>exact I.after hq
  | next=>exact False.elim hq
  | brk=>exact False.elim hq
  | cont=>exact False.elim hq
theorem zJ {b:Bool} (F:qy b X.prog X.w X.K X.mg X.base CX k f fd ps sp) (hr:fC b k X.A) (hg:Gl X x) (hm:X.mg x=some (.ref f)) (hk:W.keepIn X.K (.ref f)=true) (hb:Binds X.K fd ps ds) (hd:Vals dvs ds) (hx:oE CX X E)
 (ha:PA X (e::es) t) (hdb:(x==("__debug__" : Str))=false:=by decide) (he:starEach (e::es) X.env=(false,eval e X.env)::starEach es X.env:=by rfl) (hpl:(backTo pos (starEach es X.env)).any (·.1)=false:=by rfl):
 PE X (.Call (.Name x p) (e::es) [] pos) (yr sp dvs E t):=by
 intro acR s O H Q I h;refine wpAny_Call_Name_kw (sJ I hg hm ?_ hdb);refine W.callWith_K (h₀:=X.base) I.ok.mod.kin hk (bT (ha pos acR s O H _ I h) λus s1 ⟨vs,H1,I1,r,q⟩=>⟨I1.kIn,?_⟩) he hpl;exact yt F hr hb hd (hx _ _) I1 r q
theorem Rk {pl:Sem Bool} (he:PE X o ta) (c:uX X.K C) (hm:Meth X.K C m f) (F:kW X.prog X.w X.K X.mg X.base CX k f fd ps sp) (hr:fH k X.A) (hb:Binds X.K fd ps ds) (hd:Vals dvs ds) (hx:oE CX X E) (ha:PA X (e::es) t)
 (hst:starEach (e::es) X.env=(false,eval e X.env)::starEach es X.env:=by rfl) (hpl:(backTo pos (starEach es X.env)).any (·.1)=false:=by rfl)
 (ht:eval (.Call (.Attribute o m apos) (e::es) [] pos) X.env=(do
   let ov <-eval o X.env
   standAt apos.atName
   let (f,first) <-holding [ov] (getMethod ov m pl)
   callWith pos f first (backTo pos (starEach (e::es) X.env)) (backToKw pos (keywordEach [] X.env))):=by rfl):
 PE X (.Call (.Attribute o m apos) (e::es) [] pos) (Ig C m sp dvs E ta t):=by
 intro acR s O H Q I h
 refine aa2 (pl:=pl) (bT (he acR s O H _ I h) λu s1 ⟨x,H1,I1,rx,a,dx,fs,ex,ea,l,q⟩=>?_) ht
 subst ex
 obtain rfl:u=Value.ref a:=rx
 refine tZ I1 ea c hm l ?_
 refine W.callWith_K (first:=[.ref a]) (h₀:=X.base) I.ok.mod.kin hm.kp (bT (ha pos acR s1 O H1 _ I1 q) λus s2 ⟨vs,H2,I2,r,q2⟩=>⟨I2.kIn,?_⟩) hst hpl
 exact yt (us:=.ref a::us) (vs:=.ref a::vs) F hr hb hd (hx _ _) I2 (.cons rfl r) q2
theorem Nb {pl:Sem Bool} (he:PE X o ta) (c:uX X.K C) (hm:Meth X.K C m f) (F:kW X.prog X.w X.K X.mg X.base CX k f fd ps sp) (hr:fH k X.A) (hb:Binds X.K fd ps ds) (hd:Vals dvs ds) (hx:oE CX X E)
 (ht:eval (.Call (.Attribute o m apos) [] [] pos) X.env=(do
   let ov <-eval o X.env
   standAt apos.atName
   let (f,first) <-holding [ov] (getMethod ov m pl)
   callWith pos f first (backTo pos (starEach [] X.env)) (backToKw pos (keywordEach [] X.env))):=by rfl):
 PE X (.Call (.Attribute o m apos) [] [] pos) (Ig C m sp dvs E ta rZ):=by
 intro acR s O H Q I h
 refine aa2 (pl:=pl) (bT (he acR s O H _ I h) λu s1 ⟨x,H1,I1,rx,a,dx,fs,ex,ea,l,q⟩=>?_) ht
 subst ex
 obtain rfl:u=Value.ref a:=rx
 refine tZ I1 ea c hm l ?_
 exact W.callWith_K0 (first:=[.ref a]) I1.kIn hm.kp (yt (us:=[.ref a]) (vs:=[.ref a]) F hr hb hd (hx _ _) I1 (.cons rfl .nil) q)
structure Mk (K:FG) (C f:Addr):Prop where
 makes:W.makesIn K C=true
 init:W.findIn K (.ref C) "__init__" = some (some (.ref f))
 fn:W.isFn K (.ref f)=true
 kp:W.keepIn K (.ref C)=true
theorem Nf {O:St} {H:Hp} {Q:VK} {us:List Value} {vs:List V} (M:Mk X.K C f) (F:kW X.prog X.w X.K X.mg X.base CX k f fd ps sp) (hr:fH (k+1) X.A) (hb:Binds X.K fd ps ds) (hd:Vals dvs ds)
 (hx:∀H s e s',Inv X acR O H s->CX X.stack H s E e s'->X.xe e s') (I:Inv X acR O H s) (r:Vals vs us)
 (h:∀x dx,H x=none->H dx=none->dx≠x->sp (.ref x::(vs++dvs)) (upd (upd H dx (.own x)) x (.ins C dx [])) (λv H2=>v=.non/\Q (.ref x) H2) E):
 wpAny (model X.prog X.w) X.A (call (.ref C) us) (EP X acR O Q) X.xe s:=by
 have hq:=h (s.heap.objs.size+1) s.heap.objs.size (I.hok.fresh (aaz _)) (I.hok.fresh (YW _)) (Zi (aar _));have I2:=Inv.made (C:=C) I;have r2:Vals (V.ref (s.heap.objs.size+1)::(vs++dvs)) (Value.ref (s.heap.objs.size+1)::(us++ds)):=.cons rfl (r.append hd);have hl:(Value.ref (s.heap.objs.size+1)::us++ds).length=ps.length:=by have e:=r2.length;rw[F.len _ _ _ _ hq]at e;exact e.symm
 refine wpAny_call (M7 (f:=f) I.kIn M.makes M.init (beq_iff_eq.mp M.fn) (codeAny_mono (F.run _ X.stack _ _ ⟨Value.ref (s.heap.objs.size+1)::us,[]⟩ (Value.ref (s.heap.objs.size+1)::(us++ds)) _ _ E (hr.make C us [])
  (I2.env0.make C us []) (hb _ (Value.ref (s.heap.objs.size+1)::us) I2.kIn hl) r2 hq) λr s' hq'=>?_))
 cases r with
 | error e=>exact hx _ _ e s' I2 hq'
 | ok fl=>
  cases fl with
  | ret u=>
   obtain⟨v,H',I3,rv,ev,q3⟩:=I2.after hq';subst ev;exact⟨rv,⟨V.ref (s.heap.objs.size+1),H',I3,rfl,q3⟩⟩
  | next=>exact False.elim hq'
  | brk=>exact False.elim hq'
  | cont=>exact False.elim hq'
theorem Rm (M:Mk X.K C f) (F:kW X.prog X.w X.K X.mg X.base CX k f fd ps sp) (hr:fH (k+1) X.A) (hg:Gl X x) (hm:X.mg x=some (.ref C)) (hb:Binds X.K fd ps ds) (hd:Vals dvs ds) (hx:oE CX X E)
 (ha:PA X (e::es) t) (hdb:(x==("__debug__" : Str))=false:=by decide) (he:starEach (e::es) X.env=(false,eval e X.env)::starEach es X.env:=by rfl) (hpl:(backTo pos (starEach es X.env)).any (·.1)=false:=by rfl):
 PE X (.Call (.Name x p) (e::es) [] pos) (Qj C sp dvs E t):=by
 intro acR s O H Q I h;refine wpAny_Call_Name_kw (sJ I hg hm ?_ hdb);refine W.callWith_K (h₀:=X.base) I.ok.mod.kin M.kp (bT (ha pos acR s O H _ I h) λus s1 ⟨vs,H1,I1,r,q⟩=>⟨I1.kIn,?_⟩) he hpl;exact Nf M F hr hb hd (hx _ _) I1 r q
end
section
variable {X:Cx} {CX:sU} {k:Nat} {f C:Addr} {fd:FuncData} {ps ks:List Str} {sp:Sp} {E:XK} {x m:Str} {p pos apos kpos:Pos} {e o:Expr} {es:List Expr} {kws:List Keyword} {te ta:TE} {t tk:TA} {nm:Option Str}
variable {g:List Value->List Value->List Value} {gV:List V->List V->List V}
end
structure aQ (N P:List Str) (sc:Scope):Prop where
 kind:sc.kind=.function
 co:sc.isCoroutine=false
 gen:sc.isGenerator=false
 nd:N.Nodup
 pre:N.take P.length=P
 par:∀x∈P,sc.names.lookup x=some .local\/sc.names.lookup x=some .cell
 nofree:∀y∈sc.names,y.2≠.free
theorem Ba {kindOf:Str->Option NameKind} {x:Str}:∀{binds:List (Str×Value)} {m:Str->Option Value},(∀v,(x,v)∉binds)->bindL kindOf binds m x=m x
 | [],_,_=>rfl
 | (n,v)::r,m,h=>by
  unfold bindL;rw[Ba λw hw=>h w (Y6 _ hw)];split
  . have:x≠n:=by rintro rfl; exact h v YK
    simp[this]
  . rfl
theorem Bb {kindOf:Str->Option NameKind} {x:Str}:∀{binds:List (Str×Value)} {m:Str->Option Value},(∀v,(x,v)∉binds)->bindC kindOf binds m x=m x
 | [],_,_=>rfl
 | (n,v)::r,m,h=>by
  unfold bindC;rw[Bb λw hw=>h w (Y6 _ hw)];split
  . rfl
  . have:x≠n:=by rintro rfl; exact h v YK
    simp[this]
theorem Bc {kindOf:Str->Option NameKind} {x:Str} {v:Value}:∀{P:List Str} {vs:List Value} {i:Nat} {m:Str->Option Value},P.Nodup->P[i]?=some x->vs[i]?=some v->kindOf x=some .local->
 bindL kindOf (P.zip vs) m x=some v
 | [],_,_,_,_,h,_,_=>by simp at h
 | _::_,[],_,_,_,_,h,_=>by simp at h
 | p::P,w::vs,0,m,nd,h1,h2,hk=>by simp at h1 h2; subst h1; subst h2;show bindL kindOf ((p,w)::P.zip vs) m p=_;unfold bindL;rw[Ba λv hv=>(ZP.mp nd).1 (Z4 hv).1,aa5 hk];simp
 | p::P,w::vs,i+1,m,nd,h1,h2,hk=>by show bindL kindOf ((p,w)::P.zip vs) m x=_;unfold bindL;exact Bc (i:=i) (ZP.mp nd).2 (by simpa using h1) (by simpa using h2) hk
theorem Bd {kindOf:Str->Option NameKind} {x:Str} {v:Value}:∀{P:List Str} {vs:List Value} {i:Nat} {m:Str->Option Value},P.Nodup->P[i]?=some x->vs[i]?=some v->kindOf x≠some .local->
 bindC kindOf (P.zip vs) m x=some v
 | [],_,_,_,_,h,_,_=>by simp at h
 | _::_,[],_,_,_,_,h,_=>by simp at h
 | p::P,w::vs,0,m,nd,h1,h2,hk=>by simp at h1 h2; subst h1; subst h2;show bindC kindOf ((p,w)::P.zip vs) m p=_;unfold bindC;rw[Bb λv hv=>(ZP.mp nd).1 (Z4 hv).1,aa6 hk];simp
 | p::P,w::vs,i+1,m,nd,h1,h2,hk=>by show bindC kindOf ((p,w)::P.zip vs) m x=_;unfold bindC;exact Bd (i:=i) (ZP.mp nd).2 (by simpa using h1) (by simpa using h2) hk
def start (N:List Str) (vs:List V):St:=vs.map some++List.replicate (N.length-vs.length) none
def rE (b:Bool) (CX:sU) (P:Program) (w:World) (K:FG) (mg:Str->Option Value) (base:Heap) (N:List Str) (qual:Str) (scope:Scope) (f:Addr) (cd:Value) (A:Around) (outer:List Env) (s:Shared) (H:Hp) (E:XK):Cx where
 prog:=P
 w:=w
 K:=K
 mg:=mg
 base:=base
 A:=A.deeper (envOfC qual scope s.heap.objs.size f cd)
 N:=N
 s₀:=s
 H0:=H
 env:=envOfC qual scope s.heap.objs.size f cd
 outer:=outer
 stack:=envOfC qual scope s.heap.objs.size f cd::outer
 ex:=[]
 calm:=b
 fn:=λ_=>true
 pn:=[]
 xe:=λe s'=>wpAny (model P w) (A.deeper (envOfC qual scope s.heap.objs.size f cd)) (leaving (envOfC qual scope s.heap.objs.size f cd) e) (λ_ s''=>CX outer H s E e s'') (λe' s''=>CX outer H s E e' s'') s'
abbrev oF:=rE true
theorem Do {sc:Scope} {n:Nat} {x:Str} (h:sc.names.lookup x=some .cell):∃c,(cellsFrom n sc.names []).lookup x=some c:=by have q:=aaX sc.names n [] (.inl h);exact ZX.mp q
theorem JX {cm:Bool} {CX:sU} {K:FG} {mg:Str->Option Value} {base:Heap} {N ps:List Str} {qual:Str} {scope:Scope} {f:Addr} {cd:Value} {outer:List Env} {s s1:Shared} {H:Hp} {E:XK} {us:List Value} {vs:List V}
 (S:aQ N ps scope) (hd:cm=true->A.handled=none) (e0:xG P w K mg base A outer s H) (hl:vs.length=ps.length) (r:Vals vs us)
 (x:InCallC s s.heap.objs.size (bindL (envOfC qual scope s.heap.objs.size f cd).kindOf (ps.zip us) λ_=>none) (cellsFrom (s.heap.objs.size+1) scope.names []) (bindC (envOfC qual scope s.heap.objs.size f cd).kindOf (ps.zip us) λ_=>none) s1):
 Inv (rE cm CX P w K mg base N qual scope f cd A outer s H E) [] (start N vs) H s1:=by
 have hpl:ps.length<=N.length:=by have:=congrArg List.length S.pre; rw[Zq]at this; omega
 obtain⟨h1,tk,rfl,hk⟩:=x.done;have noA:∀b:Addr,b∉(rE cm CX P w K mg base N qual scope f cd A outer s H E).ex:=λb z=>absurd (show b∈([]:List Addr) from z) (by simp);refine⟨⟨e0.mod,S.kind,rfl,rfl,YW _,λy z c h1 h2=>?_,λy hy=>?_,λy c _ h=>?_,hd,Around.frames_deeper e0.frames,.inr ⟨rfl,rfl⟩,λb z=>absurd z (noA b),e0.bs,e0.bsz,λb _ _=>noA b,λb z=>absurd z (noA b),e0.funs,e0.frf⟩,
  rfl,e0.bare,Un.kept hk,⟨_,x.toInCall.ns,λi y v h1 h2 h3=>?_⟩,λy c h=>⟨_,x.cell y c h⟩,e0.hok.fresh (YW _),λy c h=>?_,λp hp=>absurd (show p∈([]:List (Addr×Obj)) from hp) (by simp),e0.hok.kept hk,?_⟩
 . exact name_of_addr x.apart (aav h1) (aav h2)
 . have hy:scope.names.lookup y=some .cell\/scope.names.lookup y=some .free:=hy;rcases hy with hy | hy
   . exact Do hy
   . exact absurd rfl (S.nofree _ (aav hy))
 . exact aaW (x.above y c (aav h))
 . have hi:i<vs.length:=by
    unfold start at h2;by_cases hi:i<vs.length
    . exact hi
    . rw[Zb (by simpa using hi)]at h2;rw[List.getElem?_replicate]at h2;split at h2<;>cases h2
   have ha:vs[i]?=some v:=by
    unfold start at h2;rw[Zj (by simpa using hi),Zd]at h2;cases e:vs[i]? with
    | none=>rw[e]at h2; cases h2
    | some a=>rw[e]at h2; cases h2; rfl
   obtain⟨u,hu,rv⟩:=r.get ha;have hp:ps[i]?=some y:=by rw[<-S.pre,List.getElem?_take_of_lt (by omega)]; exact h1
   have ndP:ps.Nodup:=by rw[<-S.pre]; exact S.nd.sublist (List.take_sublist _ _)
   refine⟨u,rv,?_⟩;rcases S.par y (Z9 hp) with k | k
   . exact .inl ⟨k,Bc ndP hp hu k⟩
   . obtain⟨c,e⟩:=Do (n:=s.heap.objs.size+1) k;refine .inr ⟨.inl k,c,e,?_⟩;have q:=x.cell y c e;rw[Bd ndP hp hu (by show scope.names.lookup y≠_; rw[k]; decide)]at q;exact q
 . exact e0.hok.fresh (aaW (x.above y c (aav h)))
 . unfold start;show _=N.length;rw[Y5,YQ,List.length_replicate];omega
theorem Qk {b:Bool} {CX:sU} {K:FG} {mg:Str->Option Value} {base:Heap} {k:Nat} {f:Addr} {name qual:Str} {params:Arguments} {body:List Stmt} {scope:Scope} {dV kV doc pm cdv ct oc:Value} {an od:Option Addr}
 {osl:Array (Option Value)} {N ps:List Str} {sp:Sp} (lk:K.lookup f=some ⟨oc,od,.func (W.fnOf name qual params body scope dV kV doc pm an cdv ct),osl⟩) (hcd:W.codeIn K cdv qual=true) (S:aQ N ps scope)
 (len:∀vs H Q E,sp vs H Q E->vs.length=ps.length)
 (hbody:∀(A:Around) (outer:List Env) (s:Shared) (H:Hp) (vs:List V) (Q:VK) (E:XK),fC b k (A.deeper (envOfC qual scope s.heap.objs.size f cdv))->sp vs H Q E->
   ∃t,eF (rE b CX P w K mg base N qual scope f cdv A outer s H E) body t/\t { nx:=λ_ H'=>Q .non H',rt:=Q } (start N vs) H):
 qy b P w K mg base CX (k+1) f (W.fnOf name qual params body scope dV kV doc pm an cdv ct) ps sp:=by
 refine⟨len,λA outer s H args us vs Q E hr e0 hb r hsp=>?_⟩;have hl:=len _ _ _ _ hsp;have KX:K.In s.heap:=e0.mod.kin.keeps λb o e=>(e0.bs b o e).1;have lim:s.heap.NoLimit:=e0.mod.nolimit.keeps λb o e=>(e0.bs b o e).1;have hkind:∀y∈ps.zip us,scope.names.lookup y.1=some .local\/(scope.names.lookup y.1=some .cell/\((cellsFrom (s.heap.objs.size+1) scope.names []).lookup y.1).isSome=true):=λ⟨n,v⟩ hy=>by
  rcases S.par n (Z4 hy).1 with q | q
  . exact .inl q
  . exact .inr ⟨q,aaX _ _ _ (.inl q)⟩
 refine codeAny_call_function hr.depth (KX _ _ lk) rfl S.co S.gen rfl (W.codeRec_of KX hcd) (hb _ _ _ _ ?_);refine wpAny_newFunctionEnv_cells S.kind hkind λenv he s1 x=>?_;subst he;refine⟨lim.keeps x.toInCall.keep,codeAny_func ?_⟩;obtain⟨t,ht,hq⟩:=hbody A outer s H vs Q E (hr.deeper _) hsp;have I:Inv (rE b CX P w K mg base N qual scope f cdv A outer s H E) [] (start N vs) H s1:=JX S hr.hd e0 hl r x;refine wpAny_mono (ht [] s1 (start N vs) H _ I hq) (λfl s' hs=>?_) λe s' hs=>hs;have fin:∀{O':St} {H':Hp} {v:V} {u:Value},Inv (rE b CX P w K mg base N qual scope f cdv A outer s H E) [] O' H' s'->RelV v u->Q v H'->CE outer P w H s Q u s':=
  λ{O' H' v u} J rv q=>⟨v,H',J.os,J.bare,J.base,J.hok,rv,q⟩
 cases fl with
 | ret u=>
  obtain⟨v,O',H',J,rv,q⟩:=hs;exact fin J rv q
 | next=>
  obtain⟨O',H',J,q⟩:=hs;exact fin (v:=V.non) (u:=Value.none) J rfl q
 | brk=>
  obtain⟨_,_,_,q⟩:=hs;exact False.elim q
 | cont=>
  obtain⟨_,_,_,q⟩:=hs;exact False.elim q
section
variable {X:Cx} {x:Str} {p pos:Pos} {e:Expr} {es:List Expr} {t:TA} {id T:String} {r:List V->Hp->VK->Prop}
def uL (r:List V->Hp->VK->Prop) (t:TA):TE:=λO H Q=>t O H λvs H1=>r vs H1 Q
theorem bc (hc:mF X (.builtin id) r) (hg:Gl X x) (hm:X.mg x=none) (hv:bootBuiltins x=some (.builtin id)) (ha:PA X (e::es) t) (hn:x ≠ "__name__" := by decide) (hdb:(x==("__debug__" : Str))=false:=by decide)
 (he:starEach (e::es) X.env=(false,eval e X.env)::starEach es X.env:=by rfl) (hpl:(backTo pos (starEach es X.env)).any (·.1)=false:=by rfl):PE X (.Call (.Name x p) (e::es) [] pos) (uL r t):=by
 intro acR s O H Q I h;refine wpAny_Call_Name_kw (qJ I hg hm hv ?_ hn hdb);exact PyProof.Rows.callWith_builtin1 (bT (ha pos acR s O H _ I h) λus s1 ⟨vs,H1,I1,r1,q1⟩=>hc acR s1 O H1 vs us Q I1 r1 q1) he hpl
theorem lK (hc:mF X (.type T) r) (hg:Gl X x) (hm:X.mg x=none) (hv:bootBuiltins x=some (.type T)) (ha:PA X (e::es) t) (hn:x ≠ "__name__" := by decide) (hdb:(x==("__debug__" : Str))=false:=by decide)
 (he:starEach (e::es) X.env=(false,eval e X.env)::starEach es X.env:=by rfl) (hpl:(backTo pos (starEach es X.env)).any (·.1)=false:=by rfl):PE X (.Call (.Name x p) (e::es) [] pos) (uL r t):=by
 intro acR s O H Q I h;refine wpAny_Call_Name_kw (qJ I hg hm hv ?_ hn hdb);exact PyProof.Rows.callWith_type1 (bT (ha pos acR s O H _ I h) λus s1 ⟨vs,H1,I1,r1,q1⟩=>hc acR s1 O H1 vs us Q I1 r1 q1) he hpl
end
end L2
namespace HT
open PySem PySem.Spec PyProof.Rows
section
open PySem.SeqAt
open PySem.AutoSeq1 (wpAny_loadPart')
open PySem.MeetsSeq PySem.MeetsSeq2 PySem.MeetsSeq3
end
section
variable {prog:Program} {w:World} {A:Around} {E:Value->Shared->Prop} {s:Shared}
theorem cat_tup {t b:Addr} {vs ws:List Value} {Q:Value->Shared->Prop} (ht:IsTup s.heap t vs.toArray) (hb:IsTup s.heap b ws.toArray) (hv:vs≠[])
 (h1:ws=[]->Q (.ref t) s) (h2:ws≠[]->Q (.ref s.heap.objs.size) { s with heap:=s.heap.push { cls:=.type "tuple",data:=.seq (vs++ws).toArray } })
 (hsz:vs.length+ws.length<=sizeLine):wpAny (model prog w) A (binaryOp .Add (.ref t) (.ref b)) Q E s:=by
 obtain⟨⟨cls,dd,data,sl⟩,ho,hc,n,hd⟩:=id ht;obtain⟨⟨cls2,dd2,data2,sl2⟩,ho2,hc2,n2,hd2⟩:=id hb;simp only at hc hd hc2 hd2;subst hc hd hc2 hd2;have e:vs.toArray++ws.toArray=(vs++ws).toArray:=by simp
 by_cases hw:ws=[]
 . exact concat_meets ⟨_,ho,rfl⟩ ⟨_,ho2,rfl⟩ noFill_tuple_add seq_tuple_add F.slot_tuple_add F.entry_tuple_add (F.args_tuple_add_2 _ _)
    (tuple_addW1 t b vs.toArray ws.toArray n n2 dd dd2 sl sl2 (by simpa using hv) (by simp[hw])) ⟨ho,ho2,h1 hw⟩
 . refine concat_meets ⟨_,ho,rfl⟩ ⟨_,ho2,rfl⟩ noFill_tuple_add seq_tuple_add F.slot_tuple_add F.entry_tuple_add (F.args_tuple_add_2 _ _)
    (tuple_addW2 t b vs.toArray ws.toArray n n2 dd dd2 sl sl2 (by simpa using hv) (by simpa using hw) (by rw[Y0,Y0]; exact hsz)) ⟨ho,ho2,?_⟩
   rw[e];exact h2 hw
def sIx (n d:Nat):Option Int->Nat
 | none=>d
 | some v=>if v<0 then (v+(n:Int)).toNat else min v.toNat n
theorem sIx_le (n d:Nat) (hd:d<=n) (o:Option Int):sIx n d o<=n:=by
 cases o with
 | none=>exact hd
 | some v=>
  show (if v<0 then (v+(n:Int)).toNat else min v.toNat n)<=n;by_cases hv:v<0
  . rw[aa5 hv]; omega
  . rw[aa6 hv]; exact Nat.min_le_right _ _
theorem Gx (v:Int) (n d:Nat):(if v<0 then max (v+(n:Int)) 0 else min v (n:Int))=((sIx n d (some v):Nat):Int):=by
 show (if v<0 then max (v+(n:Int)) 0 else min v (n:Int))=(((if v<0 then (v+(n:Int)).toNat else min v.toNat n):Nat):Int);by_cases hv:v<0
 . simp only[aa5 hv]; omega
 . simp only[aa6 hv]; omega
theorem Ih (lo hi:Option Int) (n:Nat):Builtin.Slice.sliceAdjust lo hi 1 (n:Int)=(((sIx n 0 lo:Nat):Int),((sIx n n hi:Nat):Int)):=by
 have h1:¬ ((1:Int)<0):=by omega
 unfold Builtin.Slice.sliceAdjust;simp only[h1,if_false];refine Prod.ext ?_ ?_
 . cases lo with
   | none=>rfl
   | some v=>exact Gx v n 0
 . cases hi with
   | none=>rfl
   | some v=>exact Gx v n n
theorem Ii (i j:Nat):Builtin.Slice.slicePlaces (i:Int) (j:Int) 1=j-i:=by
 unfold Builtin.Slice.slicePlaces;have h1:(1:Int)>0:=by omega
 simp only[h1,if_true,Int.ediv_one];split<;>omega
theorem yu {v:Value} {o:Option Int} {Q:Option Int->Shared->Prop} (p:IsPart v o) (h:Q o s):wpAny (model prog w) A (Builtin.Slice.slicePartIndex v) Q E s:=by
 cases p with
 | none=>exact slicePart_none h
 | int i t=>exact slicePart_int h
theorem xH {sl:Addr} {vl vu:Value} {lo hi:Option Int} {n:Nat} {Q:Int×Int×Nat->Shared->Prop} (hs:s.heap.IsSliceOf sl vl vu .none) (pl:IsPart vl lo) (pu:IsPart vu hi)
 (h:Q (((sIx n 0 lo:Nat):Int),1,sIx n n hi-sIx n 0 lo) s):wpAny (model prog w) A (Builtin.Slice.sliceApplied (.ref sl) (pure (n:Int))) Q E s:=by
 obtain⟨os,hos,hcs,hds⟩:=id hs;unfold Builtin.Slice.sliceApplied Builtin.Slice.sliceFields;refine aa4 (aa4 (wpAny_field hos hds (x:=vl) rfl (aa4 (wpAny_field hos hds (x:=vu) rfl (aa4 (wpAny_field hos hds (x:=.none) rfl (aa7 ?_)))))));refine aa4 (slicePart_none ?_);show wpAny _ _ (if ((1:Int)==0)=true then _ else _) _ _ s;rw[aa6 (by decide)];refine aa4 (yu pl (aa4 (yu pu (aa4 (aa7 ?_)))));show wpAny _ _ (match Builtin.Slice.sliceAdjust lo hi 1 (n:Int) with | (lo,hi)=>pure (lo,(1:Int),Builtin.Slice.slicePlaces lo hi 1)) _ _ s;rw[Ih lo hi n];show wpAny _ _ (pure (((sIx n 0 lo:Nat):Int),(1:Int),Builtin.Slice.slicePlaces ((sIx n 0 lo:Nat):Int) ((sIx n n hi:Nat):Int) 1)) _ _ s;rw[Ii];exact aa7 h
theorem Ng (xs:Array Value) (i k:Nat):((List.range k).filterMap λ(m:Nat)=>xs[((i:Int)+(m:Int)*1).toNat]?).toArray=((xs.toList.drop i).take k).toArray:=by
 have e:(λ(m:Nat)=>xs[((i:Int)+(m:Int)*1).toNat]?)=λm=>xs[i+m]?:=by
  funext m;have:((i:Int)+(m:Int)*1).toNat=i+m:=by omega
  rw[this]
 rw[e];have:=pick_run xs i k;rw[List.filterMap_map]at this;have e2:((λx=>xs[x]?) ∘ λx=>i+x)=λm=>xs[i+m]?:=rfl;rw[e2]at this;rw[this]
theorem getItem_tuple_cut {t sl:Addr} {items:Array Value} {vl vu:Value} {lo hi:Option Int} {Q:Value->Shared->Prop} (ht:IsTup s.heap t items) (hs:s.heap.IsSliceOf sl vl vu .none) (pl:IsPart vl lo) (pu:IsPart vu hi)
 (hw:¬ (sIx items.size 0 lo=0/\sIx items.size items.size hi=items.size))
 (h:Q (.ref s.heap.objs.size) { s with heap:=s.heap.push { cls:=.type "tuple",data:=.seq ((items.toList.drop (sIx items.size 0 lo)).take (sIx items.size items.size hi-sIx items.size 0 lo)).toArray } })
 (hsz:items.size<=sizeLine):wpAny (model prog w) A (getItem (.ref t) (.ref sl)) Q E s:=by
 have htake:sizeOk (.seq ((items.toList.drop (sIx items.size 0 lo)).take (sIx items.size items.size hi-sIx items.size 0 lo)).toArray):=by show ((items.toList.drop (sIx items.size 0 lo)).take (sIx items.size items.size hi-sIx items.size 0 lo)).toArray.size<=sizeLine;rw[Y0,Zq,Zz,aaA];omega
 have hj:sIx items.size items.size hi<=items.size:=sIx_le _ _ (YW _) hi;obtain⟨os,hos,hcs,hds⟩:=id hs;have hTs:s.TypeIs (.ref sl) "slice" := ⟨os,hos,hcs⟩;unfold getItem
 try with_reducible refine wpAny_holding ?_
 first | refine aa4 (aa7 ?_) | skip
 refine aa4 (wpAny_sequenceKey ht.typeIs (by decide) ?_);refine aa4 (wpAny_callSpecial?_slot (name:=Str.ofString "__getitem__") ht.typeIs PyProof.Rows.slot_tuple_getitem
  (wpAny_call_entry PyProof.Rows.slot_tuple_getitem ht.typeIs entry_tuple_getitem ?_ (args_tuple_getitem _ _)))
 show wpAny _ _ (Builtin.Tuple.tupleItemsOf (.ref t) >>= _) _ _ s;refine aa4 (tupleItemsOf_ ht ?_);refine aa4 (wpAny_typeOf hTs ?_);rw[aa5 (by decide)];refine aa4 (xH hs pl pu ?_);have hno:¬ ((((sIx items.size 0 lo:Nat):Int)==0&&(1:Int)==1&&(sIx items.size items.size hi-sIx items.size 0 lo)==items.size)=true):=by intro q;rw[aac,aac]at q;have q1:((sIx items.size 0 lo:Nat):Int)=0:=eq_of_beq q.1.1;have q2:sIx items.size items.size hi-sIx items.size 0 lo=items.size:=eq_of_beq q.2;exact hw ⟨by omega,by omega⟩
 show wpAny _ _ (if (((sIx items.size 0 lo:Nat):Int)==0&&(1:Int)==1&&(sIx items.size items.size hi-sIx items.size 0 lo)==items.size)=true then _ else _) _ _ s;rw[aa6 hno,Ng]
 first
  | exact aa4 (m:=Builtin.Tuple.tupleExact _) (wpAny_newObj_type (aa7 ⟨_,rfl,aa7 h⟩) htake)
  | exact aa4 (m:=Builtin.Tuple.tupleExact _) (wpAny_newObj_type (aa4 (aa7 (aa7 ⟨_,rfl,aa7 h⟩))) htake)
  | exact aa4 (aa4 (m:=Builtin.Tuple.tupleExact _) (wpAny_newObj_type (aa7 (aa7 ⟨_,rfl,aa7 h⟩)) htake))
  | exact aa4 (aa4 (m:=Builtin.Tuple.tupleExact _) (wpAny_newObj_type (aa7 ⟨_,rfl,aa7 h⟩) htake))
end
end HT
namespace L2
open PySem PySem.Spec PyProof.Rows
variable {acR:List (Addr×Obj)} {E:Value->Shared->Prop} {s:Shared} {A:Around} {w:World} {P:Program}
abbrev TO:=St->Hp->(Option Int->Hp->Prop)->Prop
def PO (X:Cx) (e:Option Expr) (t:TO):Prop:=
 ∀(acR:List (Addr×Obj)) (s:Shared) (O:St) (H:Hp) (Q:Option Int->Hp->Prop),Inv X acR O H s->t O H Q->
  wpAny (model X.prog X.w) X.A (evalPart e X.env) (λu s'=>∃o H',Inv X acR O H' s'/\IsPart u o/\Q o H') X.xe s
def Rn:TO:=λ_ H Q=>Q none H
def WR (t:TE):TO:=λO H Q=>t O H λx H1=>∃i,x=.int i/\Q (some i) H1
section
variable {X:Cx} {e:Expr} {te:TE} {lo hi:Option Expr} {tl th:TO} {pos p2:Pos}
theorem Ro:PO X none Rn:=by intro acR s O H Q I h;rw[evalPart_none];exact aa7 ⟨none,H,I,.none,h⟩
theorem Rp (h:PE X e te):PO X (some e) (WR te):=by intro acR s O H Q I hw;rw[evalPart_some];refine bT (h acR s O H _ I hw) λu s1 ⟨x,H1,I1,r1,q1⟩=>?_;obtain⟨i,rfl,q⟩:=q1;obtain⟨t,rfl⟩:=r1;exact⟨some i,H1,I1,.int i t,q⟩
def Be (X:Cx) (r:V->Option Int->Option Int->Hp->VK->Prop):Prop:=
 ∀(acR:List (Addr×Obj)) (s:Shared) (O:St) (H:Hp) (x:V) (v vl vu:Value) (lo hi:Option Int) (sl:Addr) (Q:VK),Inv X acR O H s->RelV x v->s.heap.IsSliceOf sl vl vu .none->IsPart vl lo->IsPart vu hi->r x lo hi H Q->
  ∃T id,typeLookup (.type T) "__getitem__" = pure (some (.builtin id))/\s.TypeIs v T/\wpAny (model X.prog X.w) X.A (getItem v (.ref sl)) (EP X acR O Q) X.xe s
theorem Be.or {r r':V->Option Int->Option Int->Hp->VK->Prop} (h:Be X r) (h':Be X r'):Be X (λx lo hi H Q=>r x lo hi H Q\/r' x lo hi H Q):=by
 intro acR s O H x v vl vu lo hi sl Q I rx hs pl pu q;rcases q with q | q
 . exact h acR s O H x v vl vu lo hi sl Q I rx hs pl pu q
 . exact h' acR s O H x v vl vu lo hi sl Q I rx hs pl pu q
def Yx (r:V->Option Int->Option Int->Hp->VK->Prop) (te:TE) (tl th:TO):TE:=λO H Q=>te O H λx H1=>tl O H1 λl H2=>th O H2 λu H3=>r x l u H3 Q
theorem Dp {r:V->Option Int->Option Int->Hp->VK->Prop} (hr:Be X r) (he:PE X e te) (hl:PO X lo tl) (hu:PO X hi th):PE X (.Subscript e (.Slice lo hi none p2) pos) (Yx r te tl th):=by intro acR s O H Q I h;refine Subscript_ (bT (he acR s O H _ I h) λv s1 ⟨x,H1,I1,r1,q1⟩=>?_);refine wpAny_Slice (bT (hl acR s1 O H1 _ I1 q1) λvl s2 ⟨l,H2,I2,pl,q2⟩=>bT (hu acR s2 O H2 _ I2 q2) λvu s3 ⟨u,H3,I3,pu,q3⟩=>?_);rw[evalPart_none];refine aa7 ?_;have I4:Inv X acR O H3 { s3 with heap:=s3.heap.push { cls:=.type "slice",data:=.fields #[vl,vu,.none] } }:=I3.kept (t':=s3.toks) λb ob q=>YL _ q;obtain⟨T,id,hT,ht,hg⟩:=hr acR { s3 with heap:=s3.heap.push { cls:=.type "slice",data:=.fields #[vl,vu,.none] } } O H3 x v vl vu l u s3.heap.objs.size Q I4 r1 (Heap.IsSliceOf.new ..) pl pu q3;show wpAny (model X.prog X.w) X.A (subscriptTail e (.Slice lo hi none p2) v (.ref s3.heap.objs.size)) (EP X acR O Q) X.xe { s3 with heap:=s3.heap.push { cls:=.type "slice",data:=.fields #[vl,vu,.none] } };exact tail_any (ops:=[.ref s3.heap.objs.size,v]) ht hT hg (by with_unfolding_all rfl)
def mX (xs:List V) (lo hi:Option Int):List V:=(xs.drop (HT.sIx xs.length 0 lo)).take (HT.sIx xs.length xs.length hi-HT.sIx xs.length 0 lo)
theorem wW (xs:List V) (lo hi:Option Int):(mX xs lo hi).length<=xs.length:=by unfold mX;rw[Zq,Zz];omega
def X7 (K:FG):V->Option Int->Option Int->Hp->VK->Prop:=λx lo hi H Q=>∃a xs,x=.ref a/\bV K H a xs/\
 ¬ (HT.sIx xs.length 0 lo=0/\HT.sIx xs.length xs.length hi=xs.length)/\∀p,H p=none->Q (.ref p) (upd H p (.tup (mX xs lo hi)))
theorem Uh:Be X (X7 X.K):=by
 intro acR s O H x v vl vu lo hi sl Q I rx hs pl pu h;obtain⟨a,xs,rfl,hx,hw,q⟩:=h;cases rx;obtain⟨its,r,ht,hz⟩:=I.tuple hx;have hlen:its.toArray.size=xs.length:=by rw[Y0]; exact r.length.symm
 refine⟨"tuple",_,PyProof.Rows.slot_tuple_getitem.lookup,ht.typeIs,?_⟩;refine HT.getItem_tuple_cut ht hs pl pu (by rw[hlen]; exact hw) ?_ (by rw[hlen]; exact hz);rw[hlen];refine⟨.ref s.heap.objs.size,_,I.laid (t':=s.toks) (o:=.tup (mX xs lo hi)) (λb ob q=>YL _ q) (YW _) ?_,rfl,q _ (I.hok.fresh (YW _))⟩;exact⟨ZD (wW xs lo hi) hz,_,(r.drop (HT.sIx xs.length 0 lo)).take (HT.sIx xs.length xs.length hi-HT.sIx xs.length 0 lo),IsTup.new _ _⟩
def Ql (K:FG):R2:=λx y H Q=>∃a b xs ys,x=.ref a/\y=.ref b/\bV K H a xs/\bV K H b ys/\xs≠[]/\xs.length+ys.length<=sizeLine/\
 (ys=[]->Q (.ref a) H)/\(ys≠[]->∀p,H p=none->Q (.ref p) (upd H p (.tup (xs++ys))))
theorem Vals.nil_iff {xs:List V} {us:List Value} (r:Vals xs us):us=[] ↔ xs=[]:=by
 cases r with
 | nil=>simp
 | cons _ _=>simp
theorem Rq:fZ X (binaryOp .Add) (Ql X.K):=by intro acR s O H x y v u Q I rx ry h;obtain⟨a,b,xs,ys,rfl,rfl,ha,hb,hx,hz,q1,q2⟩:=h;cases rx;cases ry;obtain⟨its,r1,p1,_⟩:=I.tuple ha;obtain⟨its2,r2,p2,_⟩:=I.tuple hb;refine HT.cat_tup p1 p2 (λz=>hx (r1.nil_iff.mp z)) (λz=>⟨.ref a,H,I,rfl,q1 (r2.nil_iff.mp z)⟩) (λz=>?_) (by rw[<-r1.length,<-r2.length]; exact hz);refine⟨.ref s.heap.objs.size,_,I.laid (t':=s.toks) (o:=.tup (xs++ys)) (λb ob q=>YL _ q) (YW _) ?_,rfl,q2 (λw=>z (r2.nil_iff.mpr w)) _ (I.hok.fresh (YW _))⟩;exact⟨by rw[Y5]; exact hz,_,r1.append r2,IsTup.new _ _⟩
end
def qK (n:Nat) (i:Int):Option Nat:=if 0<=i then (if i<n then some i.toNat else none) else if -(n:Int)<=i then some (i+n).toNat else none
def gR {α:Type} (xs:List α) (i:Int):Option α:=(qK xs.length i).bind λj=>xs[j]?
theorem Gy {n:Nat} {i:Int} {j:Nat} (h:qK n i=some j):seqIndex? i n=some j/\j<n/\-(n:Int)<=i/\i<n:=by
 unfold qK at h;by_cases h0:0<=i
 . rw[aa5 h0]at h;by_cases h1:i<n
   . rw[aa5 h1]at h;have e:i.toNat=j:=Zf h;exact⟨by rw[seqIndex_of h0 h1,e],by omega,by omega,h1⟩
   . rw[aa6 h1]at h; cases h
 . rw[aa6 h0]at h;by_cases h1:-(n:Int)<=i
   . rw[aa5 h1]at h;have e:(i+n).toNat=j:=Zf h;exact⟨by rw[seqIndex_neg (by omega) h1,e],by omega,h1,by omega⟩
   . rw[aa6 h1]at h; cases h
theorem zK {α:Type} {xs:List α} {i:Int} {v:α} (h:gR xs i=some v):∃j,seqIndex? i xs.length=some j/\xs[j]?=some v/\j<xs.length/\-(xs.length:Int)<=i/\i<xs.length:=by
 unfold gR at h;cases e:qK xs.length i with
 | none=>rw[e]at h; cases h
 | some j=>
  rw[e]at h;obtain⟨h1,h2,h3,h4⟩:=Gy e;exact⟨j,h1,h,h2,h3,h4⟩
def v7 (b:Expr):Prop:=∀o i,subscripted b false o i=operate [o,i] (getItem o i)
def wX (X:Cx) (r:R2):Prop:=
 ∀(value slice:Expr) (acR:List (Addr×Obj)) (s:Shared) (O:St) (H:Hp) (x y:V) (v u:Value) (Q:VK),Inv X acR O H s->RelV x v->RelV y u->r x y H Q->
  subscripted slice false v u=operate [v,u] (getItem v u)->wpAny (model X.prog X.w) X.A (subscriptTail value slice v u) (EP X acR O Q) X.xe s
def JZ (X:Cx) (id:String) (r:V->List V->Hp->VK->Prop):Prop:=
 ∀(acR:List (Addr×Obj)) (s:Shared) (O:St) (H:Hp) (x:V) (xs:List V) (v:Value) (us:List Value) (Q:VK),Inv X acR O H s->RelV x v->Vals xs us->r x xs H Q->
  wpAny (model X.prog X.w) X.A (call (.builtin id) (v::us)) (EP X acR O Q) X.xe s
section
variable {X:Cx} {a b:Expr} {ta tb:TE} {pos:Pos}
theorem wX.or {r r':R2} (h:wX X r) (h':wX X r'):wX X (λx y H Q=>r x y H Q\/r' x y H Q):=by
 intro value slice acR s O H x y v u Q I rx ry q hs;rcases q with q | q
 . exact h value slice acR s O H x y v u Q I rx ry q hs
 . exact h' value slice acR s O H x y v u Q I rx ry q hs
theorem Ij {r:R2} (hr:wX X r) (ha:PE X a ta) (hb:PE X b tb) (hs:v7 b):PE X (.Subscript a b pos) (JQ r ta tb):=by intro acR s O H Q I h;exact Subscript_ (MP ha hb I h λv u s2 x y H2 I2 rx ry q=>hr a b acR s2 O H2 x y v u Q I2 rx ry q (hs _ _))
def Ui_ (K:FG):R2:=λx y H Q=>∃p xs i v,x=.ref p/\y=.int i/\bI K H p xs/\gR xs i=some v/\Q v H
def Uj (K:FG):R2:=λx y H Q=>∃p xs i v,x=.ref p/\y=.int i/\bV K H p xs/\gR xs i=some v/\Q v H
def Uk:R2:=λx y H Q=>∃z i c,x=.str z/\y=.int i/\z.length<=sizeLine/\gR z.cps.toList i=some c/\Q (.str ⟨#[c]⟩) H
theorem Rr:wX X (Ui_ X.K):=by
 intro value slice acR s O H x y v u Q I rx ry h hs;obtain⟨p,xs,i,z,rfl,rfl,hq,he,q⟩:=h;cases rx;obtain⟨t,rfl⟩:=ry;obtain⟨its,r,pl,hz⟩:=I.list hq;obtain⟨j,h1,h2,h3,h4,h5⟩:=zK he;obtain⟨w,ew,rw'⟩:=r.get h2;have hl:=r.length;have hn:=sS;have fin:EP X acR O Q w s:=⟨z,H,I,rw',q⟩;by_cases h0:0<=i
 . have hj:i.toNat=j:=by rw[seqIndex_of h0 h5]at h1;exact Zf h1
   exact item_listR pl.isList h0 (by omega) (by rw[hj]; simpa using ew) fin hs
 . have hj:(i+(its.toArray.size:Int)).toNat=j:=by rw[seqIndex_neg (by omega) h4]at h1;rw[Y0,<-hl];exact Zf h1
   exact subscriptTail_builtinR (x:=w) pl.isList.typeIs slot_list_getitem.lookup
    (wpAny_getItem_list_neg (Q:=λr s'=>r=w/\EP X acR O Q r s') pl.isList (by omega) (by rw[Y0]<;>omega) (by omega) (by rw[hj]; simpa using ew) ⟨rfl,fin⟩) hs
theorem Ul:wX X (Uj X.K):=by
 intro value slice acR s O H x y v u Q I rx ry h hs;obtain⟨p,xs,i,z,rfl,rfl,hq,he,q⟩:=h;cases rx;obtain⟨t,rfl⟩:=ry;obtain⟨its,r,pl,hz⟩:=I.tuple hq;obtain⟨j,h1,h2,h3,h4,h5⟩:=zK he;obtain⟨w,ew,rw'⟩:=r.get h2;have hl:=r.length;have hn:=sS;have fin:EP X acR O Q w s:=⟨z,H,I,rw',q⟩;exact subscriptTail_builtinR (x:=w) pl.typeIs slot_tuple_getitem.lookup
  (getItem_tuple (j:=j) (Q:=λr s'=>r=w/\EP X acR O Q r s') pl (by omega) (by omega) (by rw[Y0,<-hl]; exact h1) (by simpa using ew) ⟨rfl,fin⟩) hs
theorem Um:wX X Uk:=by
 intro value slice acR s O H x y v u Q I rx ry h hs;obtain⟨z,i,c,rfl,rfl,hz,he,q⟩:=h;obtain⟨t,rfl⟩:=rx;obtain⟨t',rfl⟩:=ry;obtain⟨j,h1,h2,h3,h4,h5⟩:=zK he;have hl:z.cps.toList.length=z.length:=by simp[Str.length]
 rw[hl]at h1 h4 h5;have hn:=sS;exact tail_any (typeIs_str s z t) slot_str_getitem.lookup (getItem_str (c:=c) (by have e1:decide (i < -(2 ^ 63:Int))=false:=aa8 (by omega);have e2:decide (i ≥ 2 ^ 63)=false:=aa8 (by omega);rw[e1,e2,Bool.or_false]) (by rw[h1]; simpa using h2) ⟨.str ⟨#[c]⟩,H,I.tok _,⟨_,rfl⟩,q⟩) hs
def Uo (K:FG):R2:=λx y H Q=>Ui_ K x y H Q\/Uj K x y H Q\/Uk x y H Q
theorem J0:wX X (Uo X.K):=Rr.or (Ul.or Um)
theorem Ik (its:List Value) (n j:Nat) (u:Value):Obj.mapSeq (·.setIfInBounds j u) { cls:=.type "list",data:=.seq its.toArray n }={ cls:=.type "list",data:=.seq (its.set j u).toArray n }:=by simp[Obj.mapSeq]
theorem Inv.lst {O:St} {H:Hp} {p:Addr} {xs:List V} (I:Inv X acR O H s) (h:H p=some (.lst xs)):
 ∃(its:List Value) (n:Nat),Vals xs its/\s.heap.get? p=some { cls:=.type "list",data:=.seq its.toArray n }/\xs.length<=sizeLine:=by
 obtain⟨z,its,n,r,e⟩:=I.hok p _ h;exact⟨its,n,r,e,z⟩
theorem Inv.lstUpd {O:St} {H:Hp} {p:Addr} {xs ys:List V} {its its':List Value} {n n':Nat} {f:Obj->Obj} (I:Inv X acR O H s) (h:H p=some (.lst xs))
 (ho:s.heap.get? p=some { cls:=.type "list",data:=.seq its.toArray n }) (hf:f { cls:=.type "list",data:=.seq its.toArray n }={ cls:=.type "list",data:=.seq its'.toArray n' }) (r:Vals ys its') (hz:ys.length<=sizeLine) (t:Nat):
 Inv X acR O (upd H p (.lst ys)) { s with heap:=s.heap.update p f,toks:=t }:=by
 have e:(s.heap.update p f).get? p=some { cls:=.type "list",data:=.seq its'.toArray n' }:=by rw[ZW f ho (by rw[hf]<;>rfl),hf]
 refine I.write (x:=p) (e:=p) (by rw[h]; trivial) (.inl rfl) (λb u hb q=>(Zy _ _ (Ne.symm hb)).trans q) ⟨_,e⟩ ?_;exact⟨hz,its',n',r,e⟩
def Qm:V->V->V->Hp->(Hp->Prop)->Prop:=λo i v H Q=>∃p xs k j,o=.ref p/\i=.int k/\H p=some (.lst xs)/\qK xs.length k=some j/\Q (upd H p (.lst (xs.set j v)))
theorem set_list:MF X Qm:=by
 intro acR s O H o i v ov iv u Q I ro ri rv h;obtain⟨p,xs,k,j,rfl,rfl,hp,hj,q⟩:=h;cases ro;obtain⟨t,rfl⟩:=ri;obtain⟨its,n,r,ho,hz⟩:=I.lst hp;obtain⟨h1,h2,h3,h4⟩:=Gy hj;have hl:=r.length;have hn:=sS;have I':Inv X acR O (upd H p (.lst (xs.set j v))) { s with heap:=s.heap.update p (Obj.mapSeq (·.setIfInBounds j u)) }:=
  I.lstUpd hp ho (Ik its n j u) (r.set rv j) (by rw[Zh]; exact hz) s.toks
 by_cases h0:0<=k
 . have hk:k.toNat=j:=by rw[seqIndex_of h0 h4]at h1;exact Zf h1
   exact W.ki_setAt ho h0 (by omega) (by rw[Y0,<-hl]; exact h4) (by rw[hk]; exact⟨_,I',q⟩)
 . have hk:(k+(its.toArray.size:Int)).toNat=j:=by rw[seqIndex_neg (by omega) h3]at h1;rw[Y0,<-hl];exact Zf h1
   exact W.ki_setBack ho (by omega) (by rw[Y0,<-hl]; exact h3) (by omega) (by rw[hk]; exact⟨_,I',q⟩)
theorem Dq (lo hi:Option Int) (n:Nat):(sliceBounds lo hi none n).1=((HT.sIx n 0 lo:Nat):Int)/\(sliceBounds lo hi none n).2.1=((HT.sIx n n hi:Nat):Int)/\(sliceBounds lo hi none n).2.2=1:=by
 refine⟨?_,?_,rfl⟩
 . cases lo with
   | none=>simp[sliceBounds,HT.sIx]
   | some i=>
    simp only[sliceBounds,HT.sIx,Option.getD_none,show (1:Int)>0 by decide,if_true];by_cases h:i<0
    . simp only[h,if_true]<;>omega
    . simp only[h,if_false]<;>omega
 . cases hi with
   | none=>simp[sliceBounds,HT.sIx]
   | some i=>
    simp only[sliceBounds,HT.sIx,Option.getD_none,show (1:Int)>0 by decide,if_true];by_cases h:i<0
    . simp only[h,if_true]<;>omega
    . simp only[h,if_false]<;>omega
theorem BW (its:List Value) (lo hi:Option Int):slicePick its.toArray lo hi none=((its.drop (HT.sIx its.length 0 lo)).take (HT.sIx its.length its.length hi-HT.sIx its.length 0 lo)).toArray:=by obtain⟨h1,h2,h3⟩:=Dq lo hi its.toArray.size;unfold slicePick;rw[h1,h2,h3];simp only[sliceRange_one,pick_run,Y0]<;>rfl
def X8 (K:FG):V->Option Int->Option Int->Hp->VK->Prop:=λx lo hi H Q=>∃a xs,x=.ref a/\bI K H a xs/\∀p,H p=none->Q (.ref p) (upd H p (.lst (mX xs lo hi)))
theorem Rt:Be X (X8 X.K):=by intro acR s O H x v vl vu lo hi sl Q I rx hs pl pu h;obtain⟨a,xs,rfl,hx,q⟩:=h;cases rx;obtain⟨its,r,ht,hz⟩:=I.list hx;have hlen:=r.length;refine⟨"list",_,slot_list_getitem.lookup,ht.isList.typeIs,?_⟩;refine wpAny_getItem_list_slice ht.isList hs pl pu .none (by simp) ?_ (by rw[Y0]<;>omega);rw[BW,<-hlen];refine⟨.ref s.heap.objs.size,_,I.laid (t':=s.toks) (o:=.lst (mX xs lo hi)) (λb ob q=>YL _ q) (YW _) ?_,rfl,q _ (I.hok.fresh (YW _))⟩;exact⟨ZD (wW xs lo hi) hz,_,0,(r.drop (HT.sIx xs.length 0 lo)).take (HT.sIx xs.length xs.length hi-HT.sIx xs.length 0 lo),Y9 _ rfl⟩
def Qn:V->Bool
 | .non=>true
 | .bl _=>true
 | .int _=>true
 | .str _=>true
 | _=>false
theorem lL:mF X (.type "list") (λxs H Q=>∃p ys,xs=[.ref p]/\(bI X.K H p ys\/bV X.K H p ys)/\∀l,H l=none->Q (.ref l) (upd H l (.lst ys))):=by
 intro acR s O H xs us Q I r h;obtain⟨p,ys,rfl,hq,q⟩:=h;obtain⟨u,rfl,rx⟩:=vals1 r;cases rx;have fin:∀(its:List Value),Vals ys its->ys.length<=sizeLine->∀(h':Heap) (c':Nat),(∀b o',s.heap.get? b=some o'->h'.get? b=some o')->
  h'.get? s.heap.objs.size=some { cls:=.type "list",dict:=none,data:=.seq its.toArray c',slots:=#[] }->EP X acR O Q (.ref s.heap.objs.size) { s with heap:=h' }:=λits r' hz h' c' kp e=>
  ⟨.ref s.heap.objs.size,_,I.laid (t':=s.toks) kp (YW _) (show dY X.prog X.w _ h' _ (.lst ys) from ⟨hz,its,c',r',e⟩),rfl,q _ (I.hok.fresh (YW _))⟩
 rcases hq with hq | hq
 . obtain⟨its,r',pl,hz⟩:=I.list hq;have hlen:=r'.length;obtain⟨o,ho,hc,n,hd⟩:=pl.isList;exact call_list_seq p (.inl rfl) ho hc hd (λh' c' kp e=>fin its r' hz h' c' kp e) (by simp only[Y0]<;>omega)
 . obtain⟨its,r',pl,hz⟩:=I.tuple hq;have hlen:=r'.length;obtain⟨o,ho,hc,n,hd⟩:=pl;exact call_list_seq p (.inr rfl) ho hc hd (λh' c' kp e=>fin its r' hz h' c' kp e) (by simp only[Y0]<;>omega)
theorem BX:mF X (.type "tuple") (λxs H Q=>∃p ys,xs=[.ref p]/\((bI X.K H p ys/\∀l,H l=none->Q (.ref l) (upd H l (.tup ys)))\/(bV X.K H p ys/\Q (.ref p) H))):=by
 intro acR s O H xs us Q I r h;obtain⟨p,ys,rfl,h⟩:=h;obtain⟨u,rfl,rx⟩:=vals1 r;cases rx;rcases h with ⟨hq,q⟩ | ⟨hq,q⟩
 . obtain⟨its,r',pl,hz⟩:=I.list hq;have hlen:=r'.length;refine call_tuple_list pl.isList (λh' kp=>?_) (by simp only[Y0]<;>omega);have I1:Inv X acR O H { s with heap:=h' }:=I.kept (t':=s.toks) kp;have I2:Inv X acR O (upd H h'.objs.size (.tup ys)) { s with heap:=h'.push { cls:=.type "tuple",data:=.seq its.toArray } }:=
    I1.laid (t':=s.toks) (λb o e=>YL _ e) (YW _) (show dY X.prog X.w _ _ _ (.tup ys) from ⟨hz,its,r',IsTup.new _ _⟩)
   exact⟨.ref h'.objs.size,_,I2,rfl,q _ (I1.hok.fresh (YW _))⟩
 . obtain⟨its,r',pl,hz⟩:=I.tuple hq;exact call_tuple_same pl ⟨.ref p,H,I,rfl,q⟩
def Up (K:FG) (T:String) (x:V) (H:Hp):Prop:=match x with
 | .str _=>T = "str"
 | .int _=>T = "int"
 | .ref p=>(T = "list" /\ ∃xs,bI K H p xs)\/(T = "tuple" /\ ∃o,K.lookup p=some o/\o.cls=.type "tuple" /\ o.dict=none)\/
  (T = "dict" /\ ((∃kvs,H p=some (.dK kvs))\/∃kvs,H p=some (.dT kvs)))\/(T = "set" /\ ∃S n,H p=some (.set S n))
 | _=>False
theorem J1 {O:St} {H:Hp} {T:String} {x:V} {v:Value} (I:Inv X acR O H s) (r:RelV x v) (ty:Up X.K T x H):
 s.TypeIs v T/\∀a,v=.ref a->∃ob,s.heap.get? a=some ob/\ob.dict=none:=by
 cases x with
 | str z=>
  obtain⟨t,rfl⟩:=r;cases (show T = "str" from ty);exact⟨typeIs_str s z t,λ_ e=>nomatch e⟩
 | int i=>
  obtain⟨t,rfl⟩:=r;cases (show T = "int" from ty);exact⟨typeIs_int s i t,λ_ e=>nomatch e⟩
 | ref p=>
  cases r;rcases ty with ⟨rfl,xs,hq⟩ | ⟨rfl,o,hk,hc,hd⟩ | ⟨rfl,hk⟩ | ⟨rfl,S,n,hk⟩
  . obtain⟨its,_,pl,_⟩:=I.list hq;refine⟨pl.isList.typeIs,λa e=>?_⟩;cases e;obtain⟨o,n,e,c,hd,_⟩:=pl;exact⟨o,e,hd⟩
  . refine⟨⟨o,I.kIn p o hk,hc⟩,λa e=>?_⟩;cases e;exact⟨o,I.kIn _ o hk,hd⟩
  . have z:∃o,s.heap.get? p=some o/\o.ExactDict:=by
     rcases hk with ⟨kvs,hk⟩ | ⟨kvs,hk⟩
     . obtain⟨_,_,_,_,o,_,_,e,ex,_⟩:=I.hok p _ hk;exact⟨o,e,ex⟩
     . obtain⟨_,_,_,_,o,_,_,e,ex,_⟩:=I.hok p _ hk;exact⟨o,e,ex⟩
    obtain⟨o,e,ex⟩:=z;refine⟨⟨o,e,ex.1⟩,λa e2=>?_⟩;cases e2;exact⟨o,e,ex.2.1⟩
  . obtain⟨o,_,_,_,e,ex,_⟩:=I.hok p _ hk;refine⟨⟨o,e,ex.1⟩,λa e2=>?_⟩;cases e2;exact⟨o,e,ex.2.1⟩
 | _=>exact False.elim ty
def Uq (K:FG) (T:String) (r:V->List V->Hp->VK->Prop) (to:TE):TE:=λO H Q=>to O H λx H1=>Up K T x H1/\r x [] H1 Q
def J2 (K:FG) (T:String) (r:V->List V->Hp->VK->Prop) (to:TE) (t:TA):TE:=λO H Q=>to O H λx H1=>Up K T x H1/\t O H1 λxs H2=>r x xs H2 Q
variable {o e:Expr} {es:List Expr} {to:TE} {t:TA} {name:Str} {apos cpos:Pos} {T id:String} {r:V->List V->Hp->VK->Prop}
theorem Ur (pa:PlainAttrs T) (slot:Slot T name id) (hty:typeOf (.builtin id)=pure (.type "method_descriptor")) (hm:JZ X id r) (ho:PE X o to)
 (hbase:attributeBase o name X.env (eval o X.env)=eval o X.env:=by rfl) (hline:(apos.endLine==cpos.line)=true:=by rfl):PE X (.Call (.Attribute o name apos) [] [] cpos) (Uq X.K T r to):=by
 intro acR s O H Q I h;refine wpAny_Call_method0_late hbase hline (bT (ho acR s O H _ I h) λv s1 ⟨x,H1,I1,r1,ty,q1⟩=>?_);obtain⟨h1,h2⟩:=J1 I1 r1 ty;exact⟨T,id,pa,slot,hty,h1,h2,Calls.callWith_builtin rfl (PySem.evalArgs_none (hm acR s1 O H1 x [] v [] Q I1 r1 .nil q1))⟩
theorem uc (pa:PlainAttrs T) (slot:Slot T name id) (hty:typeOf (.builtin id)=pure (.type "method_descriptor")) (hm:JZ X id r) (ho:PE X o to) (ha:PA X (e::es) t)
 (hbase:attributeBase o name X.env (eval o X.env)=eval o X.env:=by rfl)
 (hfew:((backTo cpos (starEach (e::es) X.env)).all (λx=>!x.1)&&(backToKw cpos (keywordEach [] X.env)).all (λx=>x.1.isSome)
   && decide ((e::es).length+([]:List Keyword).length+(if ([]:List Keyword).isEmpty then 0 else 1)<30))=true:=by rfl)
 (hline:(apos.endLine==cpos.line)=true:=by rfl) (hs:starEach (e::es) X.env=(false,eval e X.env)::starEach es X.env:=by rfl) (hplain:(backTo cpos (starEach es X.env)).any (·.1)=false:=by rfl):
 PE X (.Call (.Attribute o name apos) (e::es) [] cpos) (J2 X.K T r to t):=by
 intro acR s O H Q I h;refine wpAny_Call_method_late hbase hfew hline rfl (bT (ho acR s O H _ I h) λv s1 ⟨x,H1,I1,r1,ty,q1⟩=>?_);obtain⟨h1,h2⟩:=J1 I1 r1 ty;refine⟨T,id,pa,slot,hty,h1,h2,?_⟩;have hA:=ha cpos acR s1 O H1 _ I1 q1;rw[hs]at hA ⊢;refine Calls.callWith_builtin (by show (false||(backTo cpos (starEach es X.env)).any (·.1))=false; rw[hplain]<;>rfl) (Calls.evalArgs_plain ?_);exact bT hA λus s2 ⟨vs,H2,I2,r2,q2⟩=>hm acR s2 O H2 x vs v us Q I2 r1 r2 q2
end
def Us (X:Cx) (id:String) (r:V->List V->Hp->VK->Prop):Prop:=
 ∀(acR:List (Addr×Obj)) (s:Shared) (O:St) (H:Hp) (x:V) (xs:List V) (v:Value) (us:List Value) (Q:VK),Inv X acR O H s->RelV x v->Vals xs us->r x xs H Q->
  wpAny (model X.prog X.w) X.A (call (.builtin id) (v::us)) (EP X acR O Q) X.xe s
theorem Vals.one:∀{x:V} {us:List Value},Vals [x] us->∃u,us=[u]/\RelV x u
 | _,_,.cons r .nil=>⟨_,rfl,r⟩
theorem Vals.two:∀{x y:V} {us:List Value},Vals [x,y] us->∃u v,us=[u,v]/\RelV x u/\RelV y v
 | _,_,_,.cons r (.cons q .nil)=>⟨_,_,rfl,r,q⟩
theorem Vals.zero:∀{us:List Value},Vals [] us->us=[]
 | _,.nil=>rfl
theorem Vals.dropLast {xs:List V} {us:List Value} (h:Vals xs us):Vals xs.dropLast us.dropLast:=by
 induction h with
 | nil=>exact .nil
 | cons r t ih=>
  cases t with
  | nil=>exact .nil
  | cons q t'=>exact .cons r ih
theorem Vals.rep {xs:List V} {us:List Value} (h:Vals xs us):∀k:Nat,Vals (List.replicate k xs).flatten (List.replicate k us).flatten
 | 0=>.nil
 | k+1=>by rw[List.replicate_succ,List.replicate_succ,List.flatten_cons,List.flatten_cons];exact Vals.append h (Vals.rep h k)
theorem Il {α:Type} (l:List α):l.eraseIdx (l.length-1)=l.dropLast:=by
 induction l with
 | nil=>rfl
 | cons a r ih=>
  cases r with
  | nil=>rfl
  | cons b r=>
   have e:(a::b::r).length-1=((b::r).length-1)+1:=by have h1:(a::b::r).length=r.length+2:=rfl;have h2:(b::r).length=r.length+1:=rfl;omega
   rw[e,List.eraseIdx_cons_succ,ih]
   all_goals rfl
theorem foldl_rep (its:List Value):∀(k:Nat) (acc:List Value),
 List.foldl (λx1 x2=>x1++x2) acc.toArray (List.replicate k its.toArray)=(acc++(List.replicate k its).flatten).toArray
 | 0,acc=>by simp
 | k+1,acc=>by
  have e:acc.toArray++its.toArray=(acc++its).toArray:=by simp
  have e2:(acc++its)++(List.replicate k its).flatten=acc++(List.replicate (k+1) its).flatten:=by rw[List.replicate_succ,List.flatten_cons,Ze]
  rw[<-e2,<-foldl_rep its k (acc++its),<-e,List.replicate_succ,aaa]
section
variable {X:Cx} {acR:List (Addr×Obj)} {O:St} {H:Hp} {s:Shared} {l b:Addr} {xs ys zs:List V}
theorem Inv.lset {its its':List Value} {n:Nat} {f:Array Value->Array Value} {t':Nat} (I:Inv X acR O H s) (hH:H l=some (.lst xs))
 (e:s.heap.get? l=some { cls:=.type "list",data:=.seq its.toArray n }) (hf:f its.toArray=its'.toArray) (hv:Vals ys its') (hz:ys.length<=sizeLine):
 Inv X acR O (upd H l (.lst ys)) { s with heap:=s.heap.update l (Obj.mapSeq f),toks:=t' }:=by
 have q:=PySem.IsL.update e f;rw[hf]at q;refine I.write (x:=l) (e:=l) (by rw[hH]; exact trivial) (.inl rfl) (λb' u hb hu=>(Zy s.heap (Obj.mapSeq f) (Ne.symm hb)).trans hu) ⟨_,q⟩ ?_;exact⟨hz,its',_,hv,q⟩
theorem Inv.lnew {its:List Value} {t':Nat} (I:Inv X acR O H s) (hv:Vals ys its) (hz:ys.length<=sizeLine):
 Inv X acR O (upd H s.heap.objs.size (.lst ys)) { s with heap:=s.heap.push { cls:=.type "list",data:=.seq its.toArray },toks:=t' }:=
 I.laid (λ_ _ q=>YL _ q) (YW _) ⟨hz,its,0,hv,Y9 _ rfl⟩
theorem Inv.fresh (I:Inv X acR O H s):H s.heap.objs.size=none:=I.hok.fresh (YW _)
theorem Inv.lstM (I:Inv X acR O H s) (hH:H l=some (.lst xs)):xs.length<=sizeLine/\∃(its:List Value) (n:Nat),Vals xs its/\xs.length=its.length/\s.heap.get? l=some { cls:=.type "list",data:=.seq its.toArray n }:=by obtain⟨z,its,n,r,e⟩:=I.hok l _ hH;exact⟨z,its,n,r,r.length,e⟩
theorem Dr {n:Nat} (h:n<=sizeLine):Builtin.List.listTooLong n=false:=by unfold Builtin.List.listTooLong;exact aa8 (by omega)
end
section
variable {X:Cx}
def zM:V->List V->Hp->VK->Prop:=λx vs H Q=>∃l xs y,x=.ref l/\vs=[y]/\H l=some (.lst xs)/\xs.length<sizeLine/\Q .non (upd H l (.lst (xs++[y])))
theorem oh:Us X "list.append" zM:=by intro acR s O H x vs v us Q I rx rv h;obtain⟨l,xs,y,rfl,rfl,hH,hz,q⟩:=h;cases rx;obtain⟨u,rfl,ru⟩:=rv.one;obtain⟨z,its,n,r,hl,e⟩:=I.lstM hH;refine call_meets F.slot_list_append ⟨_,e,rfl⟩ F.entry_list_append (F.args_list_append_2 _ _) (PySem.list_append l its.toArray n u (by rw[Y0]; omega)) ⟨e,?_⟩;refine⟨.non,_,I.lset (its':=its++[u]) hH e (by simp) (r.append (.cons ru .nil)) ?_,rfl,q⟩;rw[Y5,List.length_singleton];omega
def Ut:V->List V->Hp->VK->Prop:=λx vs H Q=>∃l xs y,x=.ref l/\vs=[]/\H l=some (.lst xs)/\xs[xs.length-1]?=some y/\Q y (upd H l (.lst xs.dropLast))
theorem Uu:Us X "list.pop" Ut:=by
 intro acR s O H x vs v us Q I rx rv h;obtain⟨l,xs,y,rfl,rfl,hH,hy,q⟩:=h;cases rx;have hus:=rv.zero;subst hus;obtain⟨z,its,n,r,hl,e⟩:=I.lstM hH;obtain⟨u,hu,ru⟩:=r.get hy;have hy':its.toArray[its.toArray.size-1]?=some u:=by show its.toArray[its.length-1]?=some u;rw[<-Array.getElem?_toList,<-hl];exact hu
 refine call_meets F.slot_list_pop ⟨_,e,rfl⟩ F.entry_list_pop (F.args_list_pop_1 _) (MeetsSeq.list_pop_last l its.toArray n u hy' (by rw[Y0]; omega)) ⟨e,?_⟩;refine⟨y,_,I.lset (its':=its.dropLast) hH e ?_ r.dropLast ?_,ru,q⟩
 . show its.toArray.eraseIdxIfInBounds (its.toArray.size-1)=its.dropLast.toArray;rw[Y0,List.eraseIdxIfInBounds_toArray,Il]
 . rw[List.length_dropLast];omega
def Yb:R2:=λx y H Q=>∃l k xs,x=.ref l/\y=.int k/\H l=some (.lst xs)/\-(2 ^ 63)<=k/\k<2 ^ 63/\xs.length*k.toNat<=sizeLine/\
 ∀p,H p=none->Q (.ref p) (upd H p (.lst (List.replicate k.toNat xs).flatten))
theorem len_rep {α:Type} (xs:List α) (k:Nat):(List.replicate k xs).flatten.length=k*xs.length:=by
 induction k with
 | zero=>simp
 | succ k ih=>rw[List.replicate_succ,List.flatten_cons,Y5,ih,Nat.succ_mul,Nat.add_comm]
theorem Uv:fZ X (binaryOp .Mult) Yb:=by
 intro acR s O H x y v u Q I rx ry h;obtain⟨l,k,xs,rfl,rfl,hH,h1,h2,hz,q⟩:=h;cases rx;obtain⟨t,rfl⟩:=ry;obtain⟨z,its,n,r,hl,e⟩:=I.lstM hH;have hlen:its.toArray.size*k.toNat<=sizeLine:=by rw[Y0,<-hl]; exact hz
 have hcap:¬ its.toArray.size*k.toNat>(2 ^ 63-1)/8:=by
  have:(sizeLine:Nat)<=(2 ^ 63-1)/8:=by decide
  omega
 have hfit:¬ (!Builtin.List.listFitsIndex k)=true:=by rw[fitsIndex_both h1 h2];exact Zm
 have hlong:¬ Builtin.List.listTooLong (its.toArray.size*k.toNat)=true:=by rw[Dr hlen];exact Zm
 have hnew:List.foldl (λx1 x2=>x1++x2) #[] (List.replicate (if its.toArray.isEmpty=true then 0 else k.toNat) its.toArray)=(List.replicate k.toNat its).flatten.toArray:=by
  have f0:∀m:Nat,List.foldl (λx1 x2=>x1++x2) #[] (List.replicate m its.toArray)=(List.replicate m its).flatten.toArray:=λm=>by have:=foldl_rep its m [];rw[List.nil_append]at this;exact this
  rw[f0];cases its with
  | nil=>simp
  | cons a r'=>rw[aa6 (by simp)]
 refine wpAny_binaryOp_repeat_ref (T := "list") (U := "int") (by decide) ⟨_,e,rfl⟩ (λs'=>typeIs_int s' k t) noFill_list_mul F.fills_int_mul F.slot_int_rmul repeat_list F.slot_int_index.lookup
  (call_meets F.slot_int_rmul (typeIs_int s k t) F.entry_int_rmul (F.args_int_rmul_2 _ _) (int___rmul___int_list k t l its.toArray n)
    ⟨e,rfl,⟨_,e,rfl⟩,call_meets F.slot_list_mul ⟨_,e,rfl⟩ F.entry_list_mul (F.args_list_mul_2 _ _) (AutoListH.list___mul___list_int_3 l its.toArray n k t hfit hcap hlong) ⟨e,?_⟩⟩)
 rw[hnew];exact⟨.ref _,_,I.lnew (t':=s.toks) (r.rep k.toNat) (by rw[len_rep,Nat.mul_comm]; exact hz),rfl,q _ I.fresh⟩
end
section
variable {prog:Program}
end
section
variable {X:Cx}
end
end L2
namespace Att
open PySem PySem.W PySem.Calls PyProof.Rows
theorem yw {P:Params} {h:Heap}:∀(ns:List Int) (vs:List Value),WellAll P h vs (ns.map WData.int)->IntsAre vs ns:=by
 intro ns;induction ns with
 | nil=>
  intro vs w;rw[aaC]at w;cases w;exact .nil
 | cons n ns ih=>
  intro vs w;rw[Za]at w;cases w with
  | cons a b=>
   cases a;exact .cons _ _ (ih _ b)
theorem J3 {l:OpenLaw} {n:Nat} (hn:l.most=some n) {P:Params} {h:Heap} {args:List WData} {vals:List Value}
 (hpre:l.row.toRowW.claim.pre args=true) (hwl:WellAll P h vals args):
 ∃a vs ns,vals=[Value.ref a]/\args=[WData.list (ns.map WData.int)]/\h.get? a=some { cls:=.type "list",data:=.seq vs.toArray }/\IntsAre vs ns/\ns.length<=n:=by
 have hsh:WShape.hasAll [] args [.list .int]=true:=(pre_splitW hpre).1;have hc:l.pre.holds [] { args:=args }=true:=(pre_splitW hpre).2;obtain⟨d,r,rfl,h1,h2⟩:=hasAllW_cons hsh;obtain rfl:=hasAllW_nil h2;obtain⟨xs,rfl,h3⟩:=hasW_list h1;obtain⟨ns,rfl⟩:=items_int h3;have hlen:ns.length<=n:=by
  unfold OpenLaw.pre at hc;have h4:(WTm.not (.lt (.lit (.int (n:Int))) (.len (.arg 0)))).holds [] { args:=[.list (ns.map .int)] }=true:=by have h4:=(holds_andW hc).1;rw[hn]at h4;exact h4
  have h5:=condW_of h4 (w_not (w_lt w_lit (w_len_list (w_arg rfl))));rw[YQ]at h5;refine aay λq=>?_;have q':(n:Int)<((ns.length:Nat):Int):=by omega
  first
   | (rw[aa9 q']at h5; exact absurd h5 (by decide))
   | (simp at h5; omega)
 cases hwl with
 | cons w1 w2=>
  cases w2;cases w1 with
  | list ho hall=>exact⟨_,_,ns,rfl,rfl,ho,yw ns _ hall,hlen⟩
theorem J4 (l:OpenLaw) (args:List WData):l.row.toRowW.claim.post args (.bool true) args=true:=
 postW_of (r:=l.row.toRowW) (X:=(true==true))
  (show WShape.has [] (.bool true) .bool=true by first | rfl | decide | simp[WShape.has,WShape.arms,WShape.armsAll])
  (show (WTm.eq .res (.lit (.bool true))).value [] { args:=args,res:=some (.bool true),after:=args }=some (.bool (true==true)) from w_eq_bool (w_res rfl) w_lit) rfl
theorem attach_call {l:OpenLaw} {n:Nat} {q:Program} {loose:List Str} {XP:(Str->Option Value)->Heap->Prop} {YP:World->Heap->Prop} {d:DefRec}
 (hn:l.most=some n) (hdf:d.params.defaults=[])
 (call:∀(w:World) (s₀ s₁:Shared) (mg mb:Str->Option Value) (fa:Addr) (o:Obj) (pm cd doc:Value) (a:Addr) (vs:List Value) (ns:List Int),
   Ground q loose [] XP w s₀ mg mb s₁.heap->YP w s₁.heap->
   s₁.heap.get? fa=some o->o.data=.func (docDef d.name d.params d.body d.scope pm cd doc)->s₁.heap.CodeRec cd d.name->mg d.name=some (.ref fa)->
   s₁.heap.get? a=some { cls:=.type "list",data:=.seq vs.toArray }->IntsAre vs ns->ns.length<=n->s₁.gens=#[]->
   codeAny (model l.prog w) callerA (.call (.ref fa) ⟨[.ref a],[]⟩) (λr s'=>r=.ok (.ret (.bool true))/\OldK s₁.heap s'.heap/\s'.os=s₁.os/\AllBare s'.gens) s₁):
 WalkO q loose XP YP l.row.toRowW d [] (λf vs=>PySem.call f vs):=by
 intro w s₀ s₁ mg mb G Y fa o pm cd doc dV kV ho hd hcd hD hmg hg args vals as hpre hlay hrd hwl hlo;obtain rfl:dV=.none:=Dflts.none hD hdf;obtain rfl:kV=.none:=Dflts.noKw hD;obtain⟨a,vs,ns,rfl,rfl,hobj,hints,hlen⟩:=J3 hn hpre hwl;refine enter_call (codeAny_mono (call w s₀ s₁ mg mb fa o pm cd doc a vs ns G Y ho (fd_plain hd) hcd hmg hobj hints hlen hg) λr s' hq=>?_);obtain⟨rfl,h2,h3,h4⟩:=hq;exact⟨.inl ⟨.bool true,.bool true,[],rfl,λ_=>rfl,.bool true,J4 l _,λ_=>⟨List.Pairwise.nil,λ_ hm=>(nomatch hm)⟩⟩,h2,h3,h4⟩
section
variable {prog:Program} {w:World} {A:Around} {E:Value->Shared->Prop} {s:Shared} {K:Frag}
end
end Att
namespace L2
open PySem PySem.Spec PyProof.Rows
variable {acR:List (Addr×Obj)} {E:Value->Shared->Prop} {s:Shared} {A:Around} {w:World} {P:Program}
theorem Bf:∀{vs:List Value} {ns:List Int},IntsAre vs ns->Vals (ns.map V.int) vs
 | _,_,.nil=>.nil
 | _,_,.cons n t h=>.cons ⟨t,rfl⟩ (Bf h)
def Only (H:Hp):Prop:=∀b,H b=none\/∃o xs,H b=some (.frz o (.lst xs))
theorem Nh {K:FG} {mg mb:Str->Option Value} {CX:sU} {k:Nat} {fa a:Addr} {fd:FuncData} {x:Str} {sp:Sp} {s₁:Shared} {vs:List Value} {ns:List Int}
 (KX:K.In s₁.heap) (hns:s₁.heap.Ns mainGlobals mg) (hb:s₁.heap.Ns builtinsNs mb) (hbb:∀x:Str,x ≠ "__name__" -> mb x=bootBuiltins x) (hlim:s₁.heap.NoLimit) (hg:s₁.gens=#[])
 (ha:s₁.heap.get? a=some { cls:=.type "list",data:=.seq vs.toArray }) (hi:IntsAre vs ns) (hl:ns.length<=sizeLine) (hr:fH k callerA)
 (F:∀base:Heap,K.In base->base.Ns mainGlobals mg->kW P w K mg base CX k fa fd [x] sp) (hbind:∀(s:Shared) (u:Value),BindsTo s fd ⟨[u],[]⟩ [(x,u)])
 (hsp:∀H:Hp,Only H->bI K H a (ns.map V.int)->sp [.ref a] H (λv _=>v=.bl true) λ_ _ _=>False)
 (hCX:∀H e s',CX [] H s₁ (λ_ _ _=>False) e s'->False):
 codeAny (model P w) callerA (.call (.ref fa) ⟨[.ref a],[]⟩) (λr s'=>r=.ok (.ret (.bool true))/\OldK s₁.heap s'.heap/\s'.os=s₁.os/\AllBare s'.gens) s₁:=by
 have rv:=Bf hi;have lenV:=hi.length;have core:∀H:Hp,Only H->bI K H a (ns.map V.int)->gj P w H s₁.heap->(∀b,H b≠none->b=a)->(H a≠none->K.lookup a=none)->
  codeAny (model P w) callerA (.call (.ref fa) ⟨[.ref a],[]⟩) (λr s'=>r=.ok (.ret (.bool true))/\OldK s₁.heap s'.heap/\s'.os=s₁.os/\AllBare s'.gens) s₁:=by
  intro H hO_ hS hok hA hK;have base_of:∀{b:Addr} {o:Obj},s₁.heap.get? b=some o->H b=none->(tV s₁.heap H).get? b=some o:=λe n=>Mx e n;have noA:∀{b:Addr} {o:Obj} {es:Array DictEntry} {ep:Nat},s₁.heap.get? b=some o->o.data=.dict es ep->H b=none:=λ{b o es ep} e d=>by
   cases q:H b with
   | none=>rfl
   | some u=>
    have e':b=a:=hA b (by rw[q]; simp);subst e';rw[ha]at e; cases e;have d':Data.seq vs.toArray _=Data.dict es ep:=d;cases d'
  have nsK:∀{b:Addr} {m:Str->Option Value},s₁.heap.Ns b m->(tV s₁.heap H).Ns b m:=λ{b m} ⟨o,es,ep,e,d,r⟩=>⟨o,es,ep,base_of e (noA e d),d,r⟩;have hKb:K.In (tV s₁.heap H):=λb o e=>base_of (KX b o e) (by
   cases q:H b with
   | none=>rfl
   | some u=>
    have e':b=a:=hA b (by rw[q]; simp);subst e';rw[hK (by rw[q]; simp)]at e; cases e)
  have hM:Mod K mg (tV s₁.heap H):=⟨hKb,nsK hns,⟨mb,nsK hb,hbb⟩,let ⟨mc,h1,h2⟩:=hlim; ⟨mc,nsK h1,h2⟩⟩;have e0:xG P w K mg (tV s₁.heap H) callerA [] s₁ H:=⟨rfl,hM,λb o e=>Rb e,Nat.le_of_eq (JB _ _),trivial,λb hb=>absurd (show b∈([]:List Addr) from hb) (by simp),hok,.of_eq hg⟩;refine codeAny_mono ((F _ hKb (nsK hns)).run callerA [] s₁ H ⟨[.ref a],[]⟩ [.ref a] [.ref a] _ _ hr e0 (hbind s₁ (.ref a)) (.cons rfl .nil) (hsp H hO_ hS)) λr s' h=>?_;cases r with
  | error e=>exact(hCX H e s' h).elim
  | ok fl=>
   cases fl with
   | next=>exact False.elim h
   | brk=>exact False.elim h
   | cont=>exact False.elim h
   | ret u=>
    obtain⟨v,H',os,bare,un,hok',r',q⟩:=h;have q':v=.bl true:=q;subst q';obtain rfl:u=Value.bool true:=r';refine⟨rfl,OldK.of_keep λb o e=>?_,os,bare⟩;cases q:H b with
    | none=>exact un.keep b o e q (by intro z; exact absurd (show b∈([]:List Addr) from z) (by simp)) (by simp)
    | some u=>
     rcases hO_ b with z | ⟨ob,xs,z⟩
     . rw[q]at z; cases z
     . have z2:=un.frzs b ob _ z;obtain⟨e1,_⟩:=hok b _ z;obtain⟨e2,_⟩:=hok' b _ z2;rw[e]at e1; cases e1;exact e2
 cases hk:K.lookup a with
 | some o=>
  have e:=KX a o hk;rw[ha]at e;cases e;refine core (λ_=>none) (λ_=>.inl rfl) (.inr ⟨_,vs.toArray,_,hk,rfl,rfl,rfl,by rw[Y0,lenV]; exact hl,by simpa using rv⟩) (λb u z=>by have z':(none:Option HO)=some u:=z; cases z') (λb z=>absurd rfl z) λz=>absurd rfl z
 | none=>
  refine core (λb=>if b=a then some (.frz { cls:=.type "list",data:=.seq vs.toArray } (.lst (ns.map V.int))) else none) (λb=>?_) (.inl (.inr ⟨{ cls:=.type "list",data:=.seq vs.toArray },aa5 rfl⟩)) (λb u z=>?_) (λb z=>?_) λ_=>hk
  . by_cases hb:b=a
    . exact .inr ⟨_,_,aa5 hb⟩
    . exact .inl (aa6 hb)
  . by_cases hb:b=a
    . have z':=(aa5 hb).symm.trans z;cases z';subst hb;exact⟨ha,by rw[YQ]; exact hl,vs,_,rv,ha⟩
    . have z':=(aa6 hb).symm.trans z;cases z'
  . by_cases hb:b=a
    . exact hb
    . exact absurd (aa6 hb) z
theorem walk_of {l:W.OpenLaw} {n k:Nat} {q:Program} {loose:List Str} {XP:(Str->Option Value)->Heap->Prop} {YP:World->Heap->Prop} {d:DefRec} {K:Params->FG} {CX:World->sU} {sp:World->Sp} {x:Str}
 (hn:l.most=some n) (hn2:n<=sizeLine) (hdf:d.params.defaults=[]) (hr:fH k callerA)
 (hY:∀(w:World) (h:Heap),YP w h->(K w.params).In h)
 (F:∀(w:World) (mg:Str->Option Value) (fa:Addr) (h:Heap),(K w.params).In h->h.Ns mainGlobals mg->mg d.name=some (.ref fa)->
   ∃fd:FuncData,(∀(s:Shared) (u:Value),BindsTo s fd ⟨[u],[]⟩ [(x,u)])/\
    ∀base:Heap,(K w.params).In base->base.Ns mainGlobals mg->kW l.prog w (K w.params) mg base (CX w) k fa fd [x] (sp w))
 (hsp:∀(w:World) (H:Hp) (a:Addr) (ns:List Int),ns.length<=n->Only H->bI (K w.params) H a (ns.map V.int)->sp w [.ref a] H (λv _=>v=.bl true) λ_ _ _=>False)
 (hCX:∀(w:World) (H:Hp) (s:Shared) (e:Value) (s':Shared),CX w [] H s (λ_ _ _=>False) e s'->False):
 W.WalkO q loose XP YP l.row.toRowW d [] (λf vs=>PySem.call f vs):=by
 refine Att.attach_call hn hdf λw s₀ s₁ mg mb fa o pm cd doc a vs ns G Y ho hd hcd hmg hobj hints hlen hg=>?_;have KX:=hY w _ Y;obtain⟨fd,hb,hF⟩:=F w mg fa _ KX G.T.g hmg;exact Nh KX G.T.g G.T.b G.T.builtins G.T.nolimit hg hobj hints (ZD hlen hn2) hr hF hb (λH hO_ hS=>hsp w H a ns hlen hO_ hS) λH e s'=>hCX w H s₁ e s'
def inClass (s:Stmt) (j:Nat):Stmt:=match s with
 | .ClassDef _ _ _ body _ _ _ _ _ _ _=>body.getD j (.Pass ⟨0,0,0,0⟩)
 | _=>.Pass ⟨0,0,0,0⟩
def aX (s:Stmt):Arguments:=match s with
 | .FunctionDef _ a _ _ _ _ _ _ _ _=>a
 | _=>{ posonlyargs:=[],args:=[],vararg:=none,kwonlyargs:=[],kw_defaults:=[],kwarg:=none,defaults:=[] }
def aR (s:Stmt):List Stmt:=match s with
 | .FunctionDef _ _ b _ _ _ _ _ _ _=>b
 | _=>[]
def au (s:Stmt):Scope:=match s with
 | .FunctionDef _ _ _ _ _ _ sc _ _ _=>sc
 | _=>{ kind:=.function,names:=[],isGenerator:=false,isCoroutine:=false }
abbrev o7:sU:=λ_ _ _ _ _ _=>False
abbrev E0:XK:=λ_ _ _=>False
theorem yx {X:Cx}:oE o7 X E0:=λ_ _ _ _ _ _ _ h=>h.elim
structure pU (K:FG) (x qual:Str) (st:Stmt) (f:Addr) (fd:FuncData):Prop where
 ex:∃(oc:Value) (od:Option Addr) (kV doc pm:Value) (an:Option Addr) (cdv ct:Value) (osl:Array (Option Value)),
  fd=W.fnOf x qual (aX st) (aR st) (au st) .none kV doc pm an cdv ct/\K.lookup f=some ⟨oc,od,.func fd,osl⟩/\W.codeIn K cdv qual=true
 kp:W.keepIn K (.ref f)=true
section
variable {P:Program} {w:World} {K:FG} {mg:Str->Option Value} {base:Heap}
theorem pU.ok {b:Bool} {x qual:Str} {st:Stmt} {f:Addr} {fd:FuncData} {N ps:List Str} {k:Nat} {sp:Sp} (F:pU K x qual st f fd) (S:aQ N ps (au st)) (len:∀vs H Q E,sp vs H Q E->vs.length=ps.length)
 (hbody:∀(cdv:Value) (A:Around) (outer:List Env) (s:Shared) (H:Hp) (vs:List V) (Q:VK) (E:XK),fC b k (A.deeper (envOfC qual (au st) s.heap.objs.size f cdv))->sp vs H Q E->
   ∃t,eF (rE b o7 P w K mg base N qual (au st) f cdv A outer s H E).nox (aR st) t/\t { nx:=λ_ H'=>Q .non H',rt:=Q } (start N vs) H):qy b P w K mg base o7 (k+1) f fd ps sp:=by
 obtain⟨oc,od,kV,doc,pm,an,cdv,ct,osl,rfl,lk,hcd⟩:=F.ex;refine Qk lk hcd S len λA outer s H vs Q E hr hsp=>?_;obtain⟨t,h,q⟩:=hbody cdv A outer s H vs Q E hr hsp;exact⟨t,h.nox,q⟩
theorem pU.binds {x qual:Str} {st:Stmt} {f:Addr} {fd:FuncData} {ps:List Str} (F:pU K x qual st f fd)
 (h:∀(kV doc pm:Value) (an:Option Addr) (cdv ct:Value) (us:List Value),us.length=ps.length->bindArgs (W.fnOf x qual (aX st) (aR st) (au st) .none kV doc pm an cdv ct) ⟨us,[]⟩=pure (ps.zip us)):Binds K fd ps []:=by
 obtain⟨oc,od,kV,doc,pm,an,cdv,ct,osl,rfl,lk,hcd⟩:=F.ex;exact .all (h kV doc pm an cdv ct)
theorem du {x qual:Str} {st:Stmt} {f:Addr} {oc:Value} {od an:Option Addr} {osl:Array (Option Value)} {kV doc pm cdv ct:Value} (l:K.lookup f=some ⟨oc,od,.func (W.fnOf x qual (aX st) (aR st) (au st) .none kV doc pm an cdv ct),osl⟩)
 (c:W.codeIn K cdv qual=true) (k:W.keepIn K (.ref f)=true):pU K x qual st f (W.fnOf x qual (aX st) (aR st) (au st) .none kV doc pm an cdv ct):=⟨⟨oc,od,kV,doc,pm,an,cdv,ct,osl,rfl,l,c⟩,k⟩
end
theorem jf {b:Bool} {k:Nat} (hr:fC b k A):A.units+1<cLine:=aaS (Nat.add_le_add_left (by decide:1<=64) _) hr.units
section
variable {X:Cx}
theorem pv (i:Nat) {x:Str} {pos:Pos} (hN:X.N[i]?=some x:=by rfl) (hv:JC X.env.scope x:=by first | exact Or.inl rfl | exact Or.inr (Or.inl rfl) | exact Or.inr (Or.inr rfl)) (hd:(x==("__debug__" : Str))=false:=by decide)
 (hcd:(x==("__classdict__" : Str))=false:=by decide):PE X (.Name x pos) (qd i):=Tu hN hv hd hcd
end
def cY (H H':Hp):Prop:=∀b o,H b=some o->H' b=some o
theorem cY.refl (H:Hp):cY H H:=λ_ _ h=>h
theorem cY.trans {H H1 H2:Hp} (a:cY H H1) (b:cY H1 H2):cY H H2:=λc o h=>b c o (a c o h)
theorem cY.free {H H':Hp} (e:cY H H') {l:Addr} (h:H' l=Option.none):H l=Option.none:=by
 cases q:H l with
 | none=>rfl
 | some o=>
  rw[e l o q]at h;cases h
theorem cY.seq {K:FG} {H H':Hp} {a:Addr} {xs:List V} (e:cY H H') (h:bI K H a xs):bI K H' a xs:=by
 rcases h with (h | ⟨o,h⟩) | h
 . exact .inl (.inl (e _ _ h))
 . exact .inl (.inr ⟨o,e _ _ h⟩)
 . exact .inr h
section
variable {κ:Type} [DecidableEq κ]
def nQ (kvs:List (κ×V)) (k:κ):Option V:=(kvs.find? λkv=>decide (kv.1=k)).map (·.2)
def putK (kvs:List (κ×V)) (k:κ) (v:V):List (κ×V):=
 if (kvs.any λkv=>decide (kv.1=k))=true then kvs.map (λkv=>if kv.1=k then (kv.1,v) else kv) else kvs++[(k,v)]
theorem ud {p:κ×V} {r:List (κ×V)} {k:κ} (e:p.1=k):nQ (p::r) k=some p.2:=by simp[nQ,aax,e]
theorem ue {p:κ×V} {r:List (κ×V)} {k:κ} (e:¬ p.1=k):nQ (p::r) k=nQ r k:=by simp[nQ,aax,e]
theorem uf (k:κ):∀kvs:List (κ×V),(kvs.any λkv=>decide (kv.1=k))=(nQ kvs k).isSome
 | []=>rfl
 | p::r=>by
  rw[List.any_cons];by_cases e:p.1=k
  . simp only[ud e,aa9 e,Bool.true_or,Option.isSome_some]
  . rw[ue e,aa8 e,Bool.false_or]; exact uf k r
theorem sy (kvs:List (κ×V)) (k:κ) (v:V):(putK kvs k v).length<=kvs.length+1:=by
 unfold putK;split
 . rw[YQ]; omega
 . rw[Y5,YX,aaB]; omega
theorem Ni {kvs:List (κ×V)} {k:κ} (v:V) (h:nQ kvs k=none):putK kvs k v=kvs++[(k,v)]:=by unfold putK;rw[uf,h];exact aa6 (by decide)
theorem mW.isSome_eq {o:Option V} {u:Option Value} (r:mW o u):o.isSome=u.isSome:=by
 cases o with
 | none=>cases u with
  | none=>rfl
  | some _=>exact(show False from r).elim
 | some _=>cases u with
  | none=>exact(show False from r).elim
  | some _=>rfl
theorem KV.val {kvs:List (κ×V)} {vs:List (κ×Value)} (r:KV kvs vs) (k:κ):mW (nQ kvs k) (valueAt vs k):=by
 unfold KV at r;induction r with
 | nil=>exact True.intro
 | @cons p q ps qs h t ih=>
  obtain⟨h1,h2⟩:=h;by_cases e:p.1=k
  . have e':q.1=k:=h1.symm.trans e;have b:valueAt (q::qs) k=some q.2:=by simp[valueAt,aax,e']
    rw[ud e,b]; exact h2
  . have e':¬ q.1=k:=λz=>e (h1.trans z);have b:valueAt (q::qs) k=valueAt qs k:=by simp[valueAt,aax,e']
    rw[ue e,b]; exact ih
theorem KV.any {kvs:List (κ×V)} {vs:List (κ×Value)} (r:KV kvs vs) (k:κ):(kvs.any λkv=>decide (kv.1=k))=vs.any λkv=>decide (kv.1=k):=by
 unfold KV at r;induction r with
 | nil=>rfl
 | cons h t ih=>rw[List.any_cons,List.any_cons,ih,h.1]
theorem KV.repl {kvs:List (κ×V)} {vs:List (κ×Value)} (r:KV kvs vs) (k:κ) {y:V} {u:Value} (ry:RelV y u):
 KV (kvs.map λkv=>if kv.1=k then (kv.1,y) else kv) (vs.map λkv=>if kv.1=k then (kv.1,u) else kv):=by
 unfold KV at r ⊢;induction r with
 | nil=>exact .nil
 | @cons p q ps qs h t ih=>
  rw[Za,Za];refine .cons ?_ ih;obtain⟨h1,h2⟩:=h;by_cases e:p.1=k
  . rw[aa5 e,aa5 (h1.symm.trans e)]; exact⟨h1,ry⟩
  . rw[aa6 e,aa6 (λz=>e (h1.trans z))]; exact⟨h1,h2⟩
theorem KV.put {kvs:List (κ×V)} {vs:List (κ×Value)} (r:KV kvs vs) (k:κ) {y:V} {u:Value} (ry:RelV y u):KV (putK kvs k y) (stored vs k u):=by
 unfold putK stored;rw[r.any k];by_cases e:(vs.any λkv=>decide (kv.1=k))=true
 . rw[aa5 e,aa5 e]; exact r.repl k ry
 . rw[aa6 e,aa6 e]; exact Paired.snoc r ⟨rfl,ry⟩
theorem KV.length {kvs:List (κ×V)} {vs:List (κ×Value)} (r:KV kvs vs):kvs.length=vs.length:=Paired.length r
end
theorem Cz {k:Key} {u:Value} (r:RelV (kV k) u):(dj P w).is k u=true:=by
 cases k with
 | inl i=>obtain⟨t,e⟩:=(show ∃t,u=Value.int i t from r); subst e; exact Gd P w i t
 | inr x=>obtain⟨t,e⟩:=(show ∃t,u=Value.str x t from r); subst e; exact Ge P w x t
theorem Bg:∀{ks:List Key} {us:List Value},Vals (ks.map kV) us->ItemsAre (dj P w) ks us
 | [],_,r=>by rw[aaC]at r; cases r; exact .nil
 | k::ks,_,r=>by
  rw[Za]at r;cases r with
  | cons h t=>exact .cons (Cz h) (Bg t)
abbrev KT (H:Hp):List (List Key×V)->List (List Key×Addr×Value)->Prop:=Paired λp q=>p.1=q.1/\H q.2.1=some (.tup (p.1.map kV))/\RelV p.2 q.2.2
theorem KT.val {H:Hp} {kvs:List (List Key×V)} {xs:List (List Key×Addr×Value)} (r:KT H kvs xs) (k:List Key):mW (nQ kvs k) ((atKey xs k).map (·.2)):=by
 induction r with
 | nil=>exact True.intro
 | @cons p q ps qs h t ih=>
  obtain⟨h1,_,h2⟩:=h;by_cases e:p.1=k
  . have e':q.1=k:=h1.symm.trans e;have b:atKey (q::qs) k=some q.2:=by simp[atKey,aax,e']
    rw[ud e,b]; exact h2
  . have e':¬ q.1=k:=λz=>e (h1.trans z);have b:atKey (q::qs) k=atKey qs k:=by simp[atKey,aax,e']
    rw[ue e,b]; exact ih
theorem KT.repl {H:Hp} {kvs:List (List Key×V)} {xs:List (List Key×Addr×Value)} (r:KT H kvs xs) (k:List Key) {y:V} {u:Value} (ry:RelV y u):
 KT H (kvs.map λkv=>if kv.1=k then (kv.1,y) else kv) (xs.map (putAt k u)):=by
 induction r with
 | nil=>exact .nil
 | @cons p q ps qs h t ih=>
  rw[Za,Za];refine .cons ?_ ih;obtain⟨h1,h2,h3⟩:=h;unfold putAt;by_cases e:p.1=k
  . rw[aa5 e,aa5 (h1.symm.trans e)]; exact⟨h1,h2,ry⟩
  . rw[aa6 e,aa6 (λz=>e (h1.trans z))]; exact⟨h1,h2,h3⟩
theorem KT.put {H:Hp} {kvs:List (List Key×V)} {xs:List (List Key×Addr×Value)} (r:KT H kvs xs) (k:List Key) {b:Addr} {y:V} {u:Value} (hb:H b=some (.tup (k.map kV))) (ry:RelV y u):
 KT H (putK kvs k y) (storedH xs k b u):=by
 have e:(kvs.any λkv=>decide (kv.1=k))=(atKey xs k).isSome:=by rw[uf,(r.val k).isSome_eq,Option.isSome_map]
 unfold putK storedH;rw[e];by_cases q:(atKey xs k).isSome=true
 . rw[aa5 q,aa5 q]; exact r.repl k ry
 . rw[aa6 q,aa6 q]; exact Paired.snoc r ⟨rfl,hb,ry⟩
theorem KT.keeps {H H':Hp} {kvs:List (List Key×V)} {xs:List (List Key×Addr×Value)} (r:KT H kvs xs) (ht:∀b ys,H b=some (.tup ys)->H' b=some (.tup ys)):KT H' kvs xs:=
 Paired.mapP r λ_ _ z=>⟨z.1,ht _ _ z.2.1,z.2.2⟩
section
variable {P:Program} {w:World} {H:Hp} {h:Heap} {a:Addr}
theorem Qo {u:HO} (ok:gj P w H h) (e:Rd H a u):dY P w H h a u:=e.ok ok
theorem v8 {kvs:List (Key×V)} (ok:gj P w H h) (e:Rd H a (.dK kvs)):kvs.length<=sizeLine/\(a==sysModules)=false/\∃vs,KV kvs vs/\h.DictOf (dj P w) a vs:=
 show dY P w H h a (.dK kvs) from Qo ok e
theorem CG {kvs:List (Key×V)} (ok:gj P w H h) (e:H a=some (.dK kvs)):kvs.length<=sizeLine/\(a==sysModules)=false/\∃vs,KV kvs vs/\h.DictOf (dj P w) a vs:=v8 ok (.inl e)
theorem Ds {ks:List Key} (ok:gj P w H h) (e:H a=some (.tup (ks.map kV))):(tupleKind (dj P w)).is h ks a:=by obtain⟨_,its,r,o,h1,h2,n,h3⟩:=(show dY P w H h a (.tup (ks.map kV)) from ok a _ e);exact⟨o,its.toArray,n,h1,h2,h3,by simpa using Bg r⟩
theorem CJ {kvs:List (List Key×V)} (ok:gj P w H h) (e:Rd H a (.dT kvs)):kvs.length<=sizeLine/\(a==sysModules)=false/\
 ∃xs,KT H kvs xs/\h.DictOfH (tupleKind (dj P w)) a xs:=by
 obtain⟨z,y,xs,r,o,es,ep,h1,h2,h3,h4,h5⟩:=(show dY P w H h a (.dT kvs) from Qo ok e);refine⟨z,y,xs,r,o,es,ep,h1,h2,h3,h4,λx hx=>?_,h5⟩;have all:∀{l:List (List Key×V)} {m:List (List Key×Addr×Value)},KT H l m->∀x∈m,(tupleKind (dj P w)).is h x.1 x.2.1:=by
  intro l m q;induction q with
  | nil=>intro x hx; exact nomatch hx
  | @cons p q ps qs hq t ih=>
   intro x hx;rcases YM.mp hx with e | hx
   . subst e;exact Ds ok (by rw[<-hq.1]; exact hq.2.1)
   . exact ih x hx
 exact all r x hx
theorem WT {kvs:List (List Key×V)} (ok:gj P w H h) (e:H a=some (.dT kvs)):kvs.length<=sizeLine/\(a==sysModules)=false/\
 ∃xs,KT H kvs xs/\h.DictOfH (tupleKind (dj P w)) a xs:=CJ ok (.inl e)
end
def Nj (H:Hp) (a:Addr) (y:V) (r:Option V):Prop:=
 (∃kvs k,Rd H a (.dK kvs)/\y=kV k/\r=nQ kvs k)\/∃kvs k b,Rd H a (.dT kvs)/\y=.ref b/\H b=some (.tup (k.map kV))/\r=nQ kvs k
def Uw (H:Hp) (a:Addr) (y v:V) (H':Hp):Prop:=
 (∃kvs k,H a=some (.dK kvs)/\y=kV k/\kvs.length<sizeLine/\H'=upd H a (.dK (putK kvs k v)))\/
 ∃kvs k b,H a=some (.dT kvs)/\y=.ref b/\H b=some (.tup (k.map kV))/\kvs.length<sizeLine/\H'=upd H a (.dT (putK kvs k v))
section
variable {X:Cx} {acR:List (Addr×Obj)} {O:St} {H:Hp} {s:Shared} {a:Addr} {y v:V} {u r:Value} {o:Option V} {A:Around} {E:Value->Shared->Prop}
theorem Inv.big (I:Inv X acR O H s):sysModules<s.heap.objs.size:=by have h:mainGlobals<s.heap.objs.size:=(I.mod.glob.keeps I.bk).lt;exact Nat.lt_trans (by decide) h
theorem J5 {Q:Value->Shared->Prop} (hu:A.units+1<cLine) (I:Inv X acR O H s) (g:Nj H a y (some v)) (ry:RelV y u) (h:∀w' s',Inv X acR O H s'->RelV v w'->Q w' s'):
 wpAny (model X.prog X.w) A (getItem (.ref a) u) Q E s:=by
 rcases g with ⟨kvs,k,e,ey,l⟩ | ⟨kvs,k,b,e,ey,eb,l⟩
 . subst ey;obtain⟨z,hd,vs,rel,dd⟩:=v8 I.hok e;obtain⟨w',hw,rw'⟩:=mW.some_of (v:=v) (o:=valueAt vs k) (by rw[l]; exact rel.val k);exact wpAny_getItem_of (Cz ry) dd.mapOf hw (h w' _ (I.tok _) rw')
 . subst ey;cases (show u=Value.ref b from ry);obtain⟨z,hd,xs,rel,dd⟩:=CJ I.hok e;obtain⟨w',hw,rw'⟩:=mW.some_of (v:=v) (o:=(atKey xs k).map (·.2)) (by rw[l]; exact rel.val k);obtain⟨p,hp,hp2⟩:=Option.map_eq_some_iff.mp hw;refine wpAny_getItem_heap (tupleKind_room_in1 hu) (Ds I.hok eb) dd hp ?_;rw[hp2];exact h w' _ (I.tok _) rw'
theorem v9 {h':Heap} {t':Nat} {ob:HO} (I:Inv X acR O H s) (mu:Jz (H a)) (hs:Heap.SameBut a s.heap h') (he:∃q,h'.get? a=some q) (new:dY X.prog X.w (upd H a ob) h' a ob):
 Inv X acR O (upd H a ob) { s with heap:=h',toks:=t' }:=
 I.write (x:=a) (e:=a) mu (.inl rfl) (λb q hb z=>(hs.2 b hb).trans z) he new
theorem Dt {H':Hp} {h':Heap} {kvs:List (Key×V)} {vs:List (Key×Value)} (z:kvs.length<=sizeLine) (hd:(a==sysModules)=false) (rel:KV kvs vs) (dd:h'.DictOf (dj P w) a vs):
 dY P w H' h' a (.dK kvs):=⟨z,hd,vs,rel,dd⟩
theorem J6 {H':Hp} {Q:Unit->Shared->Prop} (hu:A.units+1<cLine) (I:Inv X acR O H s) (g:Uw H a y v H') (ry:RelV y u) (rv:RelV v r) (h:∀s',Inv X acR O H' s'->Q () s'):
 wpAny (model X.prog X.w) A (setItem (.ref a) u r) Q E s:=by
 rcases g with ⟨kvs,k,e,ey,l,eH⟩ | ⟨kvs,k,b,e,ey,eb,l,eH⟩
 . subst ey eH;obtain⟨z,hd,vs,rel,dd⟩:=CG I.hok e;have hz:vs.length<=sizeLine:=by rw[<-rel.length]; exact z
   have hl:(putK kvs k v).length<=sizeLine:=by have:=sy kvs k v; omega
   refine wpAny_setItem_pairs (hsz:=hz) (Cz ry) dd λh' dd' hs=>h _ ?_;have he:∃q,h'.get? a=some q:=let ⟨q,_,_,hq,_⟩:=dd'; ⟨q,hq⟩;exact v9 I (by rw[e]; exact True.intro) hs he (Dt hl hd (rel.put k rv) dd')
 . subst ey eH;cases (show u=Value.ref b from ry);obtain⟨z,hd,xs,rel,dd⟩:=WT I.hok e;have hz:xs.length<=sizeLine:=by rw[<-Paired.length rel]; exact z
   have hl:(putK kvs k v).length<=sizeLine:=by have:=sy kvs k v; omega
   refine wpAny_setItem_heap (hsz:=hz) (tupleKind_room_in1 hu) (Ds I.hok eb) dd λh' dd' hs=>h _ ?_;obtain⟨q,es,ep,hq,h2,h3,h4,_,h5⟩:=dd';refine v9 I (by rw[e]; exact True.intro) hs ⟨q,hq⟩ ⟨hl,hd,_,(rel.put k eb rv).keeps λc ys ec=>?_,q,es,ep,hq,h2,h3,h4,h5⟩;rw[bF (Wz ec e (λz=>nomatch z))];exact ec
end
section
variable {X:Cx} {acR:List (Addr×Obj)} {O:St} {H:Hp} {s:Shared} {a:Addr} {kvs:List (Key×V)} {k:Key} {u:Value} {A:Around} {E:Value->Shared->Prop}
end
theorem Gf {X:Cx} {O:St} {H:Hp} {a:Addr} {y:V} {o:Option V} (I:Inv X acR O H s) (g:Nj H a y o):s.TypeIs (.ref a) "dict" := by
 rcases g with ⟨kvs,k,e,_,_⟩ | ⟨kvs,k,b,e,_,_,_⟩
 . obtain⟨_,_,vs,_,dd⟩:=v8 I.hok e;exact dd.typeIs
 . obtain⟨_,_,xs,_,dd⟩:=CJ I.hok e;exact dd.typeIs
section
variable {X:Cx} {o i e value:Expr} {pos pos' tpos:Pos} {td ty tv:TE}
end
theorem Nk {H:Hp} (h:Heap) (hb:sysModules<h.objs.size):dY P w H (h.push { cls:=.type "dict",data:=.dict #[] }) h.objs.size (.dK []):=
 ⟨Z8 _,aba.mpr (Ne.symm (Zi hb)),[],.nil,Heap.DictOf.new h⟩
def Ux:TE:=λ_ H Q=>∀p,H p=none->Q (.ref p) (upd H p (.dK []))
section
variable {X:Cx} {pos:Pos}
theorem Nm:PE X (.Dict [] [] pos) Ux:=λacR s O H Q I h=>
 wpAny_Dict_empty ⟨.ref s.heap.objs.size,_,I.laid (a:=s.heap.objs.size) (o:=.dK []) (t':=s.toks) (λ_ _ q=>YL _ q) (YW _) (Nk s.heap I.big),rfl,h _ (I.hok.fresh (YW _))⟩
end
def m6 (kvs more:List (Key×V)):List (Key×V):=more.foldl (λacc kv=>putK acc kv.1 kv.2) kvs
theorem KV.merge:∀{more:List (Key×V)} {rs:List (Key×Value)} {kvs:List (Key×V)} {vs:List (Key×Value)},KV more rs->KV kvs vs->KV (m6 kvs more) (merged vs rs):=by
 intro more rs kvs vs r;unfold KV at r;induction r generalizing kvs vs with
 | nil=>intro q; exact q
 | @cons p q ps qs h t ih=>
  intro r0;have e:KV (putK kvs p.1 p.2) (stored vs q.1 q.2):=by have:=r0.put p.1 h.2;rw[<-h.1]; exact this
  exact ih e
theorem uM:∀(more kvs:List (Key×V)),(m6 kvs more).length<=kvs.length+more.length
 | [],kvs=>by show kvs.length<=kvs.length+0; omega
 | p::r,kvs=>by have h1:=uM r (putK kvs p.1 p.2);have h2:=sy kvs p.1 p.2;show (m6 (putK kvs p.1 p.2) r).length<=_;rw[YX]; omega
structure M1 (X:Cx) (o:Expr) (m:Str) (apos:Pos) (e:Expr) (cpos:Pos):Prop where
 base:attributeBase o m X.env (eval o X.env)=eval o X.env
 few:((backTo cpos (starEach [e] X.env)).all (λx=>!x.1)&&(backToKw cpos (keywordEach [] X.env)).all (λx=>x.1.isSome)
  && decide (([e]:List Expr).length+([]:List Keyword).length+(if ([]:List Keyword).isEmpty then 0 else 1)<30))=true
 line:(apos.endLine==cpos.line)=true
 trees:backTo cpos (starEach [e] X.env)=[(false,eval e X.env)]
def Xo (H:Hp) (a:Addr):Prop:=(∃kvs,Rd H a (.dK kvs))\/∃kvs,Rd H a (.dT kvs)
theorem Uy {X:Cx} {O:St} {H:Hp} {a:Addr} (I:Inv X acR O H s) (d:Xo H a):
 s.TypeIs (.ref a) "dict" /\ (∀b,Value.ref a=.ref b->∃ob,s.heap.get? b=some ob/\ob.dict=none)/\(a==sysModules)=false:=by
 rcases d with ⟨kvs,e⟩ | ⟨kvs,e⟩
 . obtain⟨_,hd,vs,_,dd⟩:=v8 I.hok e;refine⟨dd.typeIs,λb q=>?_,hd⟩;cases q;obtain⟨ob,_,_,h1,h2,_⟩:=dd;exact⟨ob,h1,h2.2.1⟩
 . obtain⟨_,hd,xs,_,dd⟩:=CJ I.hok e;refine⟨dd.typeIs,λb q=>?_,hd⟩;cases q;obtain⟨ob,_,_,h1,h2,_⟩:=dd;exact⟨ob,h1,h2.2.1⟩
section
variable {X:Cx} {acR:List (Addr×Obj)} {O:St} {H:Hp} {s:Shared} {a:Addr} {y d:V} {u r:Value} {o:Option V} {A:Around} {E:Value->Shared->Prop}
end
section
variable {X:Cx} {o e f:Expr} {apos cpos:Pos} {td ty tx:TE}
end
section
variable {X:Cx} {acR:List (Addr×Obj)} {O:St} {H:Hp} {s:Shared} {a:Addr} {kvs:List (Key×V)} {A:Around} {E:Value->Shared->Prop}
theorem Np {Q:Value->Shared->Prop} (I:Inv X acR O H s) (e:Rd H a (.dK kvs)) (h:∀p s',H p=none->Inv X acR O (upd H p (.dK kvs)) s'->Q (.ref p) s'):wpAny (model X.prog X.w) A (call (.type "dict") [.ref a]) Q E s:=by obtain⟨z,hd,vs,rel,dd⟩:=v8 I.hok e;refine kt_call_dict hd dd (by rw[<-rel.length]; exact z) λh' dd' hs=>?_;refine h _ _ (I.hok.fresh (YW _)) (I.laid (a:=s.heap.objs.size) (o:=.dK kvs) (t':=s.toks) (λb q hq=>?_) (YW _) (Dt z (aba.mpr (Ne.symm (Zi I.big))) rel dd'));exact(hs.2 b (Zi (YZ hq))).trans (YL _ hq)
end
section
variable {X:Cx} {acR:List (Addr×Obj)} {O:St} {H:Hp} {s:Shared} {a:Addr} {y:V} {u:Value} {A:Around} {E:Value->Shared->Prop}
end
section
variable {X:Cx}
end
section
variable {κ:Type} [DecidableEq κ]
end
def rG (names:List (Str×NameKind)) (env:Env):List (Str×Addr):=names.foldl (λcs p=>if (p.2==NameKind.free)=true then (p.1,(env.cells.lookup p.1).getD 0)::cs else cs) []
theorem uY {env:Env}:∀(names:List (Str×NameKind)) (cs:List (Str×Addr)) (x:Str) (c:Addr),
 (∀y d,cs.lookup y=some d->d=(env.cells.lookup y).getD 0)->
 (names.foldl (λcs p=>if (p.2==NameKind.free)=true then (p.1,(env.cells.lookup p.1).getD 0)::cs else cs) cs).lookup x=some c->c=(env.cells.lookup x).getD 0
 | [],cs,x,c,h,e=>h x c e
 | (n,k)::r,cs,x,c,h,e=>by
  simp only[aaa]at e;refine uY r _ x c ?_ e;intro y d q;split at q
  . simp only[Zx]at q;split at q
    . rename_i z;have z':y=n:=by simpa using z
      rw[z']; exact(Zf q).symm
    . exact h y d q
  . exact h y d q
theorem yz {env:Env}:∀(names:List (Str×NameKind)) (cs:List (Str×Addr)) (x:Str) (c:Addr),
 (names.foldl (λcs p=>if (p.2==NameKind.free)=true then (p.1,(env.cells.lookup p.1).getD 0)::cs else cs) cs).lookup x=some c->(∃d,cs.lookup x=some d)\/(x,NameKind.free)∈names
 | [],cs,x,c,e=>.inl ⟨c,e⟩
 | (n,k)::r,cs,x,c,e=>by
  simp only[aaa]at e;rcases yz r _ x c e with ⟨d,q⟩ | q
  . split at q
    . rename_i hk;simp only[Zx]at q;split at q
      . rename_i z;have z':x=n:=by simpa using z
        have k':k=NameKind.free:=by simpa using hk
        right; rw[z',k']; exact YK
      . exact .inl ⟨d,q⟩
    . exact .inl ⟨d,q⟩
  . exact .inr (Y6 _ q)
theorem uZ {env:Env}:∀(names:List (Str×NameKind)) (cs:List (Str×Addr)) (x:Str),
 ((∃d,cs.lookup x=some d)\/(x,NameKind.free)∈names)->∃c,(names.foldl (λcs p=>if (p.2==NameKind.free)=true then (p.1,(env.cells.lookup p.1).getD 0)::cs else cs) cs).lookup x=some c
 | [],cs,x,h=>by
  rcases h with h | h
  . exact h
  . cases h
 | (n,k)::r,cs,x,h=>by
  simp only[aaa];refine uZ r _ x ?_;rcases h with ⟨d,h⟩ | h
  . left;split
    . simp only[Zx];split
      . exact⟨_,rfl⟩
      . exact⟨d,h⟩
    . exact⟨d,h⟩
  . rcases YM.mp h with e | h
    . left;cases e;simp
    . exact .inr h
theorem qe {env:Env}:∀(names:List (Str×NameKind)) (cs:List (Str×Addr)),(∀p∈names,p.2=NameKind.free->∃c,env.cells.lookup p.1=some c)->
 (forIn names cs λp r=>if (p.2==NameKind.free)=true then do let a <-cellOf env p.1; pure (ForInStep.yield ((p.1,a)::r)) else pure (ForInStep.yield r):Sem (List (Str×Addr)))=
  pure (names.foldl (λcs p=>if (p.2==NameKind.free)=true then (p.1,(env.cells.lookup p.1).getD 0)::cs else cs) cs)
 | [],cs,_=>by simp
 | (n,k)::r,cs,h=>by
  rw[aa3,aaa];by_cases hk:(k==NameKind.free)=true
  . obtain⟨c,hc⟩:=h (n,k) YK (by simpa using hk);have hc':List.lookup n env.cells=some c:=hc;simp only[hk,if_true,cellOf,hc',pure_bind,Option.getD_some];exact qe r _ λp hp=>h p (Y6 _ hp)
  . simp only[hk,pure_bind];exact qe r _ λp hp=>h p (Y6 _ hp)
theorem BZ {sc:Scope} {env:Env} (h:∀p∈sc.names,p.2=NameKind.free->∃c,env.cells.lookup p.1=some c):closureFor sc env=pure (rG sc.names env):=by have:=qe (env:=env) sc.names [] h;unfold closureFor rG;rw[<-this];simp only[bind_pure]
theorem o9 {env:Env}:∀(names:List (Str×NameKind)) (x:Str),
 (names.map λ(n,k)=>if (k==NameKind.free&&env.scope.kind==.function&&env.kindOf n==some .cell) then (n,NameKind.cell) else (n,k)).lookup x=
  (names.lookup x).map λk=>if (k==NameKind.free&&env.scope.kind==.function&&env.kindOf x==some .cell) then NameKind.cell else k
 | [],x=>rfl
 | (n,k)::r,x=>by
  have ih:=o9 (env:=env) r x;simp only[Za];by_cases hx:x=n
  . subst hx;split<;>simp_all
  . have hb:(x==n)=false:=aba.mpr hx;split<;>simp only[Zx,hb,ih]
theorem jn {x:Str} {a:Addr}:∀(names:List (Str×NameKind)) (n:Nat) (acc:List (Str×Addr)),(cellsFrom n names acc).lookup x=some a->n<=a\/acc.lookup x=some a
 | [],_,_,h=>.inr h
 | (y,k)::r,n,acc,h=>by
  unfold cellsFrom at h;split at h
  . rcases jn r _ _ h with q | q
    . exact .inl (aal q)
    . rw[Zx]at q;split at q
      . cases q; exact .inl (YW _)
      . exact .inr q
  . exact jn r _ _ h
theorem u5 {x y:Str} {a:Addr}:∀(names:List (Str×NameKind)) (n:Nat) (acc:List (Str×Addr)),(∀z b,acc.lookup z=some b->b<n)->(cellsFrom n names acc).lookup x=some a->(cellsFrom n names acc).lookup y=some a->n<=a->x=y
 | [],_,_,h,h1,h2,h3=>absurd (h _ _ h1) (Nat.not_lt.mpr h3)
 | (z,k)::r,n,acc,h,h1,h2,h3=>by
  unfold cellsFrom at h1 h2;split at h1
  . rename_i hk;rw[aa5 hk]at h2;have one:∀{w:Str},(cellsFrom (n+1) r ((z,n)::acc)).lookup w=some a->a=n->w=z:=λ{w} e e'=>by
     rcases jn r _ _ e with q | q
     . exact absurd q (by rw[e']; exact Nat.not_succ_le_self n)
     . rw[Zx]at q;split at q
       . rename_i hw; exact beq_iff_eq.mp hw
       . exact absurd (h _ _ q) (by rw[e']; exact Z5 _)
    by_cases e:a=n
    . exact(one h1 e).trans (one h2 e).symm
    . refine u5 r (n+1) _ (λw b q=>?_) h1 h2 (Nat.lt_of_le_of_ne h3 (Ne.symm e));rw[Zx]at q;split at q
      . cases q; exact aar _
      . exact aam (h _ _ q)
  . rename_i hk;rw[aa6 hk]at h2;exact u5 r n acc h h1 h2 h3
theorem u6 {x:Str} {a:Addr}:∀(names:List (Str×NameKind)) (n:Nat) (acc:List (Str×Addr)),names.lookup x=some .cell->(cellsFrom n names acc).lookup x=some a->n<=a
 | [],_,_,h,_=>by cases h
 | (y,k)::r,n,acc,h,h1=>by
  rw[Zx]at h;unfold cellsFrom at h1;split at h
  . rename_i hy;cases h;rw[aa5 (by decide)]at h1;rcases jn r _ _ h1 with q | q
    . exact aal q
    . rw[Zx,hy]at q; cases q; exact YW _
  . split at h1
    . exact aal (u6 r _ _ h h1)
    . exact u6 r _ _ h h1
theorem u9 {x:Str}:∀(names:List (Str×NameKind)) (n:Nat) (acc:List (Str×Addr)),(∀p∈names,p.2=.cell->p.1≠x)->(cellsFrom n names acc).lookup x=acc.lookup x
 | [],_,_,_=>rfl
 | (y,k)::r,n,acc,h=>by
  unfold cellsFrom;split
  . rename_i hk;rw[u9 r _ _ λp hp=>h p (Y6 _ hp),Zx,show (x==y)=false from aba.mpr λe=>h _ YK (by simpa using hk) e.symm]
  . exact u9 r _ _ λp hp=>h p (Y6 _ hp)
theorem ug:∀(names:List (Str×NameKind)) (h:Heap) (acc:List (Str×Addr)) (x:Str) (a:Addr),(cellsFrom h.objs.size names acc).lookup x=some a->h.objs.size<=a->(∀z b,acc.lookup z=some b->b<h.objs.size)->(pushCells h names).IsCell a none
 | [],h,acc,x,a,e,hl,hb=>absurd (hb _ _ e) (Nat.not_lt.mpr hl)
 | (y,k)::r,h,acc,x,a,e,hl,hb=>by
  unfold cellsFrom at e;unfold pushCells;split at e
  . rename_i hk;rw[aa5 hk];have hz:=aaq h ({ cls:=.type "cell",data:=.cell none }:Obj);by_cases q:a=h.objs.size
    . subst q;exact⟨_,pushCells_keeps r _ _ _ (Y9 _ rfl),rfl⟩
    . refine ug r _ ((y,h.objs.size)::acc) x a (by rw[hz]; exact e) (by rw[hz]; exact Nat.lt_of_le_of_ne hl (Ne.symm q)) λz b q'=>?_;rw[hz];rw[Zx]at q';split at q'
      . cases q'; exact aar _
      . exact aam (hb _ _ q')
  . rename_i hk;rw[aa6 hk];exact ug r h acc x a e hl hb
abbrev nR (sc:Scope) (C:Addr) (env:Env):List (Str×Addr):=cellsFrom (C+1) sc.names (rG sc.names env)
structure jV (X:Cx) (M F:List Str) (ixs:List Nat) (sc:Scope):Prop where
 kind:sc.kind=.function
 locs:∀y∈sc.names,y.2=.local->sc.names.lookup y.1=some .local
 cel:∀y∈sc.names,y.2=.cell->sc.names.lookup y.1=some .cell
 own:∀p∈sc.names,p.2=.free->X.env.scope.names.lookup p.1=some .cell\/X.env.scope.names.lookup p.1=some .free
 frs:∀x∈F,sc.names.lookup x=some .free
 ixl:ixs.length=F.length
 ixn:∀(j i:Nat),ixs[j]?=some i->X.N[i]?=F[j]?
abbrev vd (m:Nat) (ixs:List Nat) (O:St):St:=List.replicate m none++ixs.map λi=>(O[i]?).join
def jg (X:Cx) (M F:List Str) (sc:Scope) (C:Addr) (fp:List Addr) (s:Shared) (H:Hp):Cx where
 prog:=X.prog
 w:=X.w
 K:=X.K
 mg:=X.mg
 base:=X.base
 A:=X.A
 N:=M++F
 s₀:=s
 H0:=H
 env:=compEnvC sc (nR sc C X.env) C X.env
 outer:=X.stack
 stack:=X.stack
 ex:=fp
 fn:=λx=>sc.names.lookup x==some .cell
 calm:=X.calm
 pn:=[]
 xe:=λ_ _=>False
section
variable {X:Cx} {acR:List (Addr×Obj)} {O:St} {H:Hp} {s:Shared}
theorem jV.free_of {M F:List Str} {ixs:List Nat} {sc:Scope} (c:jV X M F ixs sc) {x:Str} {k:NameKind} (h:sc.names.lookup x=some k):(x,k)∈sc.names:=by
 generalize sc.names=l at h;induction l with
 | nil=>cases h
 | cons p r ih=>
  rw[Zx]at h;split at h
  . rename_i z;have z':x=p.1:=by simpa using z
    have e:p.2=k:=Zf h;subst e;rw[z'];exact YK
  . exact Y6 _ (ih h)
theorem Du (I:Inv X acR O H s) {M F:List Str} {ixs:List Nat} {sc:Scope} (c:jV X M F ixs sc):∀p∈sc.names,p.2=NameKind.free->∃a,X.env.cells.lookup p.1=some a:=λp hp e=>
 I.ok.has p.1 (by rcases c.own p hp e with h | h; exact .inl h; exact .inr h)
theorem gY (I:Inv X acR O H s) {M F:List Str} {ixs:List Nat} {sc:Scope} (c:jV X M F ixs sc) {x:Str} {a:Addr} (h:(rG sc.names X.env).lookup x=some a):X.env.cells.lookup x=some a:=by
 have e:=uY (env:=X.env) sc.names [] x a (λy d q=>by cases q) h;rcases yz sc.names [] x a h with ⟨d,q⟩ | q
 . cases q
 . obtain⟨b,hb⟩:=Du I c _ q rfl;have hb':X.env.cells.lookup x=some b:=hb;rw[hb',Option.getD_some]at e;rw[hb',e]
theorem J7 (I:Inv X acR O H s) {M F:List Str} {ixs:List Nat} {sc:Scope} (c:jV X M F ixs sc) {x:Str} {a:Addr} (h:(rG sc.names X.env).lookup x=some a):a<s.heap.objs.size:=by obtain⟨v,o,ho,_⟩:=I.cell x a (gY I c h);exact YZ ho
theorem Ru (I:Inv X acR O H s) {M F:List Str} {ixs:List Nat} {sc:Scope} (c:jV X M F ixs sc) {C:Addr} {fp:List Addr} (hC:s.heap.objs.size<=C) (hf:∀b∈fp,nP X acR H b) (ho:∀b∈fp,∃o,s.heap.get? b=some o):(jg X M F sc C fp s H).Ok where
 mod:=I.ok.mod
 kind:=c.kind
 glob:=I.ok.glob
 blt:=I.ok.blt
 above:=hC
 inj:=λx y a e1 e2=>by
  have e1':(nR sc C X.env).lookup x=some a:=e1;have e2':(nR sc C X.env).lookup y=some a:=e2;have lt:∀z b,(rG sc.names X.env).lookup z=some b->b<C+1:=λz b q=>aam (Y7 (J7 I c q) hC);rcases jn _ _ _ e1' with q | q
  . exact u5 _ _ _ lt e1' e2' q
  . rcases jn _ _ _ e2' with q' | q'
    . exact absurd (lt _ _ q) (Nat.not_lt.mpr q')
    . exact I.ok.inj x y a (gY I c q) (gY I c q')
 has:=λx h=>by
  have h':((sc.names.lookup x).map λk=>if (k==NameKind.free&&X.env.scope.kind==.function&&X.env.kindOf x==some .cell) then NameKind.cell else k)=some .cell\/((sc.names.lookup x).map λk=>if (k==NameKind.free&&X.env.scope.kind==.function&&X.env.kindOf x==some .cell) then NameKind.cell else k)=some .free:=by rw[<-o9]; exact h
  refine ZX.mp (aaX _ _ _ ?_);cases e:sc.names.lookup x with
  | none=>rw[e]at h'; rcases h' with h' | h'<;>cases h'
  | some k=>
   rw[e]at h';have m:=c.free_of e;cases k with
   | free=>exact .inr (ZX.mpr (uZ sc.names [] x (.inr m)))
   | cell=>exact .inl rfl
   | _=>rcases h' with h' | h'<;>simp at h'
 cab:=λx a h e=>ZD hC (aal (u6 _ _ _ (beq_iff_eq.mp h) e))
 hd:=I.ok.hd
 frames:=I.ok.frames
 stk:=.inl rfl
 exf:=λb hb=>⟨by
  obtain⟨o,e⟩:=ho b hb;exact Zi (Y7 (YZ e) hC),λx a e=>by
  obtain⟨o,eo⟩:=ho b hb;rcases jn _ _ _ (show (nR sc C X.env).lookup x=some a from e) with q | q
  . exact ZK (Y7 (YZ eo) (ZD hC (aal q)))
  . exact(hf b hb).2.2.2.2.1 x a (gY I c q)⟩
 bs:=I.bs
 bsz:=ZD I.ok.bsz I.sz
 noex:=λb o e hb=>by
  obtain⟨_,_,_,h,_⟩:=hf b hb;rcases h with h | h
  . exact I.ok.noex b o e h
  . exact absurd (Y7 (YZ (I.ok.bs b o e).1) h) (Z5 _)
 exfs:=λb hb z=>by
  obtain⟨_,h1,h2,_⟩:=hf b hb;rcases YM.mp (I.stkSub b z) with z | z
  . exact h1 z
  . exact h2 z
 funs:=I.stack
 frf:=I.stkFree
theorem Nq (I:Inv X acR O H s) {M F:List Str} {ixs:List Nat} {sc:Scope} (c:jV X M F ixs sc) {fp:List Addr} (hf:∀b∈fp,nP X acR H b) (ho:∀b∈fp,∃o,s.heap.get? b=some o)
 {h₁:Heap} {tk:Nat} {C:Addr} {m1:Str->Option Value} (hC:C=s.heap.objs.size+1) (hns:h₁.Ns C m1) (old:∀b o,s.heap.get? b=some o->h₁.get? b=some o)
 (hD:h₁.get? s.heap.objs.size=some { cls:=.type "list",data:=.seq #[] 0 }) (hce:∀x a,(nR sc C X.env).lookup x=some a->C+1<=a->h₁.IsCell a none):
 Inv (jg X M F sc C fp s H) [] (vd M.length ixs O) (upd H s.heap.objs.size (.lst [])) { s with heap:=h₁,toks:=tk }:=by
 have hDn:H s.heap.objs.size=none:=I.hok.fresh (YW _);have hCle:s.heap.objs.size<=C:=by rw[hC]; exact aaz _
 have hCn:H C=none:=I.hok.fresh hCle;have hok:=Ru (X:=X) I c (C:=C) (fp:=fp) hCle hf ho;refine⟨hok,rfl,I.bare,Un.laid old (YW _) hDn,⟨m1,hns,?_⟩,?_,?_,?_,?_,?_,?_⟩
 . intro i x v e1 e2 hv;have e1':(M++F)[i]?=some x:=e1;by_cases hi:i<M.length
   . rw[Zj (by simpa using hi)]at e2;rw[List.getElem?_replicate]at e2;simp[hi]at e2
   . rw[Zb (by omega)]at e1';rw[Zb (by simpa using aay hi)]at e2;simp only[List.length_replicate,Zd]at e2;cases q:ixs[i-M.length]? with
     | none=>rw[q]at e2; cases e2
     | some i'=>
      rw[q]at e2;have e2':(O[i']?).join=some v:=by simpa using e2
      have e3:O[i']?=some (some v):=by
       cases z:O[i']? with
       | none=>rw[z]at e2'; cases e2'
       | some y=>rw[z]at e2'; simp at e2'; rw[e2']
      have xF:x∈F:=Z9 e1';have hlk:=c.frs x xF;have hm:=c.free_of hlk;have hX:=c.own _ hm rfl;have hN:X.N[i']?=some x:=by rw[c.ixn _ _ q]; exact e1'
      obtain⟨m,hn,hl⟩:=I.loc;have vis:JC X.env.scope x:=by
       rcases hX with h | h
       . exact .inr (.inl h)
       . exact .inr (.inr h)
      obtain⟨u,r,l⟩:=hl i' x v hN e3 vis;refine⟨u,r,.inr ⟨?_,?_⟩⟩
      . show (Env.kindOf (compEnvC sc (nR sc C X.env) C X.env) x=_)\/(Env.kindOf (compEnvC sc (nR sc C X.env) C X.env) x=_);have:Env.kindOf (compEnvC sc (nR sc C X.env) C X.env) x=(sc.names.lookup x).map λk=>if (k==NameKind.free&&X.env.scope.kind==.function&&X.env.kindOf x==some .cell) then NameKind.cell else k:=o9 sc.names x
        rw[this,hlk];simp only[aag];split
        . exact .inl rfl
        . exact .inr rfl
      . rcases l with ⟨hk,_⟩ | ⟨_,cc,hcc,hcell⟩
        . rcases hX with h | h
          . have hk':X.env.scope.names.lookup x=some .local:=hk;have h':X.env.scope.names.lookup x=some .cell:=h;rw[h']at hk'; cases hk'
          . have hk':X.env.scope.names.lookup x=some .local:=hk;have h':X.env.scope.names.lookup x=some .free:=h;rw[h']at hk'; cases hk'
        . obtain⟨a,ha⟩:=uZ (env:=X.env) sc.names [] x (.inr hm);have ha':=gY I c (x:=x) (a:=a) ha;rw[hcc]at ha'; cases ha';obtain⟨oc,hoc,hd⟩:=hcell;exact⟨cc,(u9 _ _ _ λp hp e z=>by have:=c.cel p hp e; rw[z,hlk]at this; cases this).trans ha,oc,old _ _ hoc,hd⟩
 . intro x a e;have e':(nR sc C X.env).lookup x=some a:=e;rcases jn _ _ _ e' with q | q
   . exact⟨none,hce x a e' q⟩
   . obtain⟨v,oc,hoc,hd⟩:=I.cell x a (gY I c q);exact⟨v,oc,old _ _ hoc,hd⟩
 . show upd H s.heap.objs.size (.lst []) C=none;rw[bF (by rw[hC]; exact Nat.succ_ne_self _)]; exact hCn
 . intro x a e;rcases jn _ _ _ (show (nR sc C X.env).lookup x=some a from e) with q | q
   . have q':s.heap.objs.size<a:=aaS hCle q;rw[bF (ZK q')];exact I.hok.fresh (aaW q')
   . obtain⟨v,oc,hoc,hd⟩:=I.cell x a (gY I c q);rw[bF (Zi (YZ hoc))];exact I.freeC x a (gY I c q)
 . intro p hp; cases hp
 . exact I.hok.laid old (YW _) ⟨Z8 _,[],0,.nil,hD⟩
 . show (List.replicate M.length none++_).length=(M++F).length;simp[c.ixl]
def zN (X:Cx) (ifs:List Expr) (t:TT):Prop:=
 ∀(acR:List (Addr×Obj)) (s:Shared) (O:St) (H:Hp) (Q:Bool->Hp->Prop),Inv X acR O H s->t O H Q->
  wpAny (model X.prog X.w) X.A (forIn ifs true λc r=>if r=true then do let ok <-isTrue c X.env (eval c X.env); pure (ForInStep.yield ok) else pure (ForInStep.yield r)) (TP X acR O Q) X.xe s
theorem Nr {X:Cx}:zN X [] (λ_ H Q=>Q true H):=λ_ s O H Q I h=>wpAny_tests_nil ⟨H,I,h⟩
def Qp (wi:TI) (m:Nat) (ixs:List Nat) (g:TG) (tc:TT) (te:TE):TE:=λO H Q=>wi O H λJ H1=>∀p,H1 p=none->
 ∃W:Nat->Nat->St->Hp->Prop,(∃n,W 0 n (vd m ixs O) (upd H1 p (.lst [])))/\∀i n O' H',W i n O' H'->
  ((J.stop i H'/\Q (.ref p) H')\/(J.go i H'/\∀x H2,J.yld i H' x H2->g x O' H2 λO3 H3=>tc O3 H3 λb H4=>
    if b=true then te O3 H4 λv H5=>∃ys,H5 p=some (.lst ys)/\ys.length<sizeLine/\∃n',n'<n/\W (i+1) n' O3 (upd H5 p (.lst (ys++[v])))
    else ∃n',n'<n/\W (i+1) n' O3 H4))
def CI (X:Cx) (fp:List Addr) (tn:Nat->Heap->Prop) (W:Nat->Nat->St->Hp->Prop) (n:Nat) (s:Shared):Prop:=∃i O H,Inv X [] O H s/\tn i s.heap/\(∀b∈fp,H b=none)/\W i n O H
theorem Dv {P:Prop} (h:∀G:Prop,(P->G)->G):P:=h P id
theorem J8 {D it:Addr} {fp:List Addr} {tn:Nat->Heap->Prop} {J:It} {tg iter elt:Expr} {ifs:List Expr} {sc:Scope} {pos:Pos} {g:TG} {tc:TT} {te:TE} {W:Nat->Nat->St->Hp->Prop} {F:Hp->Prop} (hcalm:X.calm=true) (T:Turn X.prog X.w X.K tg J fp it tn) (hg:PG X tg g) (hc:zN X ifs tc) (he:PE X elt te) (hx:∀u s,X.xe u s->False)
 (stat:∀{H':Hp},(∀b∈fp,H' b=none)->∀b∈fp,nP X [] H' b)
 (turn:∀i n O' H',W i n O' H'->((J.stop i H'/\F H')\/(J.go i H'/\∀x H2,J.yld i H' x H2->g x O' H2 λO3 H3=>tc O3 H3 λb H4=>
   if b=true then te O3 H4 λv H5=>∃ys,H5 D=some (.lst ys)/\ys.length<sizeLine/\∃n',n'<n/\W (i+1) n' O3 (upd H5 D (.lst (ys++[v])))
   else ∃n',n'<n/\W (i+1) n' O3 H4)))
 {R:Result->Shared->Prop} (hR:∀O' H' s',Inv X [] O' H' s'->F H'->R (.ok .next) s') (n:Nat) (s':Shared) (hI:CI X fp tn W n s'):
 wpAny (model X.prog X.w) X.A (compTurn (.ListComp elt [⟨tg,iter,ifs,0⟩] sc pos) 0 (.ref it) (.ref D) X.env)
  (λfin s'=>match fin with | .done f=>R (.ok f) s' | .again c'=>c'=.compLoop (.ListComp elt [⟨tg,iter,ifs,0⟩] sc pos) 0 (.ref it) (.ref D) X.env/\∃m,m<n/\CI X fp tn W m s') (λ_ _=>False) s':=by
 refine Dv λG kG=>?_;obtain⟨i,O',H',I',st',fr',w'⟩:=hI;rw[compTurn_list]at kG;rcases turn i n O' H' w' with ⟨stop,qn⟩ | ⟨go,step⟩
 . refine kG (aa4 (wpAny_standAt (aa4 (wpAny_mono (T.done X rfl rfl rfl hcalm i [] s' O' H' (λ_ _=>False) I' (stat fr') st' stop) (λr s4 h4=>?_) λ_ _ f=>f))));obtain⟨hr,I4⟩:=h4;subst hr;exact aa7 (hR O' H' _ I4 qn)
 . refine kG (aa4 (wpAny_standAt (aa4 (wpAny_mono (T.item X rfl rfl rfl hcalm i [] s' O' H' (λ_ _=>False) I' (stat fr') st' go) (λr s4 h4=>?_) λ_ _ f=>f))));obtain⟨u,hr,h4⟩:=h4;subst hr;refine aa4 (wpAny_mono h4 (λ_ s5 h5=>?_) λ_ _ f=>f);refine Dv λG kG=>?_;obtain⟨x,H5,I5,r5,y5,st5,fr5⟩:=h5;have again:∀{s7:Shared} {O7:St} {H7:Hp} {n':Nat},Inv X ([]++uV fp s5.heap) O7 H7 s7->W (i+1) n' O7 H7->CI X fp tn W n' s7:=λ{s7 O7 H7 n'} I7 w7=>by
    have pn:∀b∈fp,∀o,s5.heap.get? b=some o->s7.heap.get? b=some o/\H7 b=none:=λb hb o e=>by have:=I7.pin (b,o) (Zn _ (Zn _ (tY hb e)));exact⟨this.1,this.2.1⟩
    refine⟨i+1,O7,H7,I7.unpinned,T.keep _ _ _ st5 λb hb o e=>(pn b hb o e).1,λb hb=>?_,w7⟩;obtain⟨o,e,d⟩:=T.obj _ _ st5 b hb;exact(pn b hb o e).2
   refine kG (aa4 (wpAny_mono (hg _ s5 O' H5 x u _ (I5.pinned (stat fr5) (T.obj _ _ st5)) r5 (step x H5 y5)) (λ_ s6 h6=>?_) hx));refine Dv λG kG=>?_;obtain⟨O6,H6,I6,q6⟩:=h6;refine kG (aa4 (wpAny_mono (hc _ s6 O6 H6 _ I6 q6) (λok s7 h7=>?_) hx));refine Dv λG kG=>?_;obtain⟨H7,I7,q7⟩:=h7;cases ok with
   | false=>
    rw[aa6 Zm]at q7;obtain⟨n',hn',w7⟩:=q7;exact kG (aa7 ⟨rfl,n',hn',again I7 w7⟩)
   | true=>
    rw[aa5 rfl]at q7;refine kG (aa4 (aa4 (wpAny_mono (he _ s7 O6 H7 _ I7 q7) (λv s8 h8=>?_) hx)));refine Dv λG kG=>?_;obtain⟨y,H8,I8,r8,ys,hp8,hz,n',hn',w8⟩:=h8;refine kG (aa4 (wpAny_mono (oh (X:=X) _ s8 O6 H8 (.ref D) [y] (.ref D) [v] (λ_ H9=>W (i+1) n' O6 H9) I8 rfl (.cons r8 .nil) ⟨_,ys,y,rfl,rfl,hp8,hz,w8⟩) (λ_ s9 h9=>?_) hx));obtain⟨_,H9,I9,_,w9⟩:=h9;exact aa7 (aa7 ⟨rfl,n',hn',again I9 w9⟩)
theorem Rv {Md:Model} {sc:Scope} {gl:Addr} {clo:List (Str×Addr)} {qual:Str} {env:Env} {Q:Env->Shared->Prop}
 (h:Q (newEnv sc s.heap.objs.size gl (cellsFrom (s.heap.objs.size+1) sc.names clo) qual none .none (some env) builtinsNs) { s with heap:=pushCells (s.heap.push { cls:=.type "dict",data:=.dict #[] }) sc.names }):
 wpAny Md A (newFunctionEnv sc gl clo [] qual none .none (some env)) Q E s:=by
 simp only[newFunctionEnv,Option.isSome_some,if_true];refine aa4 (wpAny_alloc ?_);refine aa4 (wpAny_layCells _ (λname kind cells=>by cases hkc:kind==NameKind.cell<;>simp[hkc]) _ _ _ _ ?_);rw[show ({ s with heap:=s.heap.push { cls:=.type "dict",data:=.dict #[] } }:Shared).heap.objs.size=s.heap.objs.size+1 from aaq ..];exact aa4 (aa7 (aa7 h))
theorem Im {M F:List Str} {ixs:List Nat} {sc:Scope} {tg iter elt:Expr} {ifs:List Expr} {g:TG} {tc:TT} {te:TE} {pos:Pos} (hcalm:X.calm=true) (c:jV X M F ixs sc)
 (hg:∀C fp s H,PG (jg X M F sc C fp s H) tg g) (hc:∀C fp s H,zN (jg X M F sc C fp s H) ifs tc) (he:∀C fp s H,PE (jg X M F sc C fp s H) elt te)
 {fp:List Addr} {it:Addr} {tn:Nat->Heap->Prop} {J:It} {Q:VK} (I:Inv X acR O H s) (T:Turn X.prog X.w X.K tg J fp it tn) (st:tn 0 s.heap) (hf:∀b∈fp,nP X acR H b)
 (h:∀p,H p=none->∃W:Nat->Nat->St->Hp->Prop,(∃n,W 0 n (vd M.length ixs O) (upd H p (.lst [])))/\∀i n O' H',W i n O' H'->
   ((J.stop i H'/\Q (.ref p) H')\/(J.go i H'/\∀x H2,J.yld i H' x H2->g x O' H2 λO3 H3=>tc O3 H3 λb H4=>
     if b=true then te O3 H4 λv H5=>∃ys,H5 p=some (.lst ys)/\ys.length<sizeLine/\∃n',n'<n/\W (i+1) n' O3 (upd H5 p (.lst (ys++[v])))
     else ∃n',n'<n/\W (i+1) n' O3 H4)))
 {RR:Value->Addr->Result->Shared->Prop} {E:Value->Shared->Prop}
 (hR:∀D C s' H' m,s.heap.get? D=none->s.heap.get? C=none->s.heap.objs.size<=C->H D=none->D≠C->H' C=none->s'.heap.Ns C m->s'.os=s.os->AllBare s'.gens->Un (frs X.stack) fp H H' s.heap s'.heap->gj X.prog X.w H' s'.heap->Q (.ref D) H'->RR (.ref D) C (.ok .next) s'):
 wpAny (model X.prog X.w) X.A (newList []) (λacc s₃=>wpAny (model X.prog X.w) X.A (newFunctionEnv sc X.env.globals (rG sc.names X.env) [] X.env.qual none .none (some X.env)) (λcenv s₄=>
  codeAny (model X.prog X.w) X.A (.compStart (.ListComp elt [⟨tg,iter,ifs,0⟩] sc pos) 0 (.ref it) acc { cenv with scope:=relabel sc X.env }) (RR acc cenv.locals) s₄) E s₃) E s:=by
 refine wpAny_newObj_type (Rv ?_);dsimp only;generalize hH2:s.heap.push { cls:=.type "list",dict:=none,data:=.seq ([]:List Value).toArray }=H2;generalize hh1:pushCells (H2.push { cls:=.type "dict",data:=.dict #[] }) sc.names=h₁;have kp:∀b o,H2.get? b=some o->h₁.get? b=some o:=λb o e=>by rw[<-hh1]; exact pushCells_keeps _ _ _ _ (YL _ e)
 have hns₁:h₁.Ns H2.objs.size (λ_=>none):=by rw[<-hh1]; exact(Heap.Ns.new H2 (.type "dict")).keeps (pushCells_keeps _ _)
 have hC:H2.objs.size=s.heap.objs.size+1:=by rw[<-hH2,aaq]
 have hDC:s.heap.objs.size≠H2.objs.size:=by rw[hC]; exact Zi (aar _)
 have below:∀b,b<s.heap.objs.size->b≠H2.objs.size:=λb hb=>by rw[hC]; exact Zi (aam hb)
 have old:∀b o,s.heap.get? b=some o->h₁.get? b=some o:=λb o e=>kp b o (hH2▸YL _ e);have hD:h₁.get? s.heap.objs.size=some { cls:=.type "list",data:=.seq #[] 0 }:=kp _ _ (hH2▸Y9 _ rfl);have fresh:∀a,s.heap.objs.size<=a->s.heap.get? a=none:=λa ha=>by
  cases e:s.heap.get? a with
  | none=>rfl
  | some o'=>exact absurd (YZ e) (Nat.not_lt.mpr ha)
 have hDn:H s.heap.objs.size=none:=I.hok.fresh (YW _);have hfo:∀b∈fp,∃o,s.heap.get? b=some o:=λb hb=>let ⟨o,e,_⟩:=T.obj 0 _ st b hb; ⟨o,e⟩;have hz2:(H2.push { cls:=.type "dict",data:=.dict #[] }).objs.size=H2.objs.size+1:=aaq ..;have hce:∀x a,(nR sc H2.objs.size X.env).lookup x=some a->H2.objs.size+1<=a->h₁.IsCell a none:=λx a e q=>by rw[<-hh1];exact ug _ _ (rG sc.names X.env) x a (by rw[hz2]; exact e) (by rw[hz2]; exact q) λz b q'=>by rw[hz2,hC]; exact aam (aam (J7 I c q'))
 have I0:=Nq I c hf hfo (tk:=s.toks) hC hns₁ old hD hce;obtain⟨W,⟨n0,w0⟩,turn⟩:=h _ hDn;have nf:∀b∈fp,b≠s.heap.objs.size:=λb hb=>by obtain⟨o,e⟩:=hfo b hb; exact Zi (YZ e)
 have stat:∀{H':Hp},(∀b∈fp,H' b=none)->∀b∈fp,nP (jg X M F sc H2.objs.size fp s H) [] H' b:=λ{H'} hn b hb=>by
  obtain⟨f0,f1,f2,f3,f4,f5⟩:=hf b hb;obtain⟨o,e⟩:=hfo b hb;refine⟨hn b hb,below b (YZ e),λz=>?_,.inl hb,λx a e'=>by
   rcases jn _ _ _ (show (nR sc H2.objs.size X.env).lookup x=some a from e') with q | q
   . exact ZK (Y7 (YZ e) (ZD (by rw[hC]; exact aaz _) (aal q)))
   . exact f4 x a (gY I c q),λp hp=>by cases hp⟩
  rcases YM.mp (I.stkSub b z) with z | z
  . exact f1 z
  . exact f2 z
 have st1:tn 0 h₁:=T.keep 0 _ _ st λb hb o e=>old b o e;have loop:codeAny (model X.prog X.w) X.A (.compLoop (.ListComp elt [⟨tg,iter,ifs,0⟩] sc pos) 0 (.ref it) (.ref s.heap.objs.size) (compEnvC sc (nR sc H2.objs.size X.env) H2.objs.size X.env))
  (RR (.ref s.heap.objs.size) H2.objs.size) { s with heap:=h₁ }:=by
  refine codeAny_loop rfl (CI (jg X M F sc H2.objs.size fp s H) fp tn W) (λn s' hI=>?_) n0 ⟨0,_,_,I0,st1,λb hb=>by rw[bF (nf b hb)]; exact(hf b hb).1,w0⟩;show wpAny _ X.A ((compTurn (.ListComp elt [⟨tg,iter,ifs,0⟩] sc pos) 0 (.ref it) (.ref s.heap.objs.size) (compEnvC sc (nR sc H2.objs.size X.env) H2.objs.size X.env)).onRaise (λx=>do noteFrame x (compEnvC sc (nR sc H2.objs.size X.env) H2.objs.size X.env); theTreesLotGoes x)) _ _ s';refine wpAny_noted (wpAny_mono (J8 (X:=jg X M F sc H2.objs.size fp s H) hcalm T (hg _ fp s H) (hc _ fp s H) (he _ fp s H) (λ_ _ f=>f) stat turn (λO' H' s4 I4 qn=>?_) n s' hI) (λ_ _ h=>h) λ_ _ f=>f.elim);obtain⟨m4,hn4,_⟩:=I4.loc;exact hR _ _ _ H' m4 (fresh _ (YW _)) (fresh _ (by rw[hC]; exact aaz _)) (by rw[hC]; exact aaz _) hDn hDC I4.free hn4 I4.os I4.bare I4.base I4.hok qn
 exact codeAny_compStart_list loop (T.self _ 0 _ _ _ st1 loop)
end
section
variable {X:Cx}
theorem Rx {O O':St} {H H':Hp} {s s':Shared} {C:Addr} (I:Inv X acR O H s) (hC:s.heap.get? C=none) (I':Inv X acR O' H' s') (hn:H' C=none) {h':Heap} {m:Str->Option Value} (hs:Heap.SameBut C s'.heap h')
 (hsz:s.heap.objs.size<=C):Inv X acR O' H' { s' with heap:=h' }:=by
 have ne:∀a o,s.heap.get? a=some o->C≠a:=λa o e z=>by rw[z,e]at hC; cases hC
 refine I'.turned (t':=s'.toks) (it:=C) (λb o hb e=>(hs.2 b hb).trans e) hn ?_ (.inr (ZD I.sz hsz)) (λx c e=>?_) (λp hp=>?_)
 . exact ZK (Y7 I.lt hsz)
 . obtain⟨v,o,ho,_⟩:=I.cell x c e;exact Ne.symm (ne _ _ ho)
 . exact Ne.symm (ne _ _ (I.pin p hp).1)
theorem Ry (M F:List Str) (ixs:List Nat) {sc:Scope} {tg iter elt:Expr} {ifs:List Expr} {wi:TI} {g:TG} {tc:TT} {te:TE} {pos:Pos} (hcalm:X.calm=true) (c:jV X M F ixs sc) (hi:PI X tg iter wi)
 (hg:∀C fp s H,PG (jg X M F sc C fp s H) tg g) (hc:∀C fp s H,zN (jg X M F sc C fp s H) ifs tc) (he:∀C fp s H,PE (jg X M F sc C fp s H) elt te)
 (hs:∀x,foldedSetIterable iter X.env x=pure x:=by intro _; rfl):PE X (.ListComp elt [⟨tg,iter,ifs,0⟩] sc pos) (Qp wi M.length ixs g tc te):=by
 intro acR s O H Q I h;rw[eval_ListComp];refine wpAny_comprehension_free (use:=none) rfl hs (BZ (Du I c)) c.kind c.locs (bT (hi acR s O H _ I h) λv s1 h1=>bT h1 λitv s2 h2=>?_);obtain⟨it,fp,tn,J,H2,e,I2,T,st2,f2,q⟩:=h2;subst e;refine Im (Q:=Q) hcalm c hg hc he I2 T st2 f2 q (RR:=λacc C=>compPost (model X.prog X.w) X.A X.xe none (EP X acR O Q) acc C) ?_;intro D C s' H' m hD hC hsz hDn hDC hCn hns hos hbare hun hok q';have I3:Inv X acR O H' s':=I2.call' hos hun hok hbare λb hb=>by obtain⟨_,g1,g2,g3,g4,g5⟩:=f2 b hb;exact⟨g3,g1,g4,g5⟩
 exact⟨m,hns,λh' hs'=>⟨.ref D,H',Rx (m:=m) I2 hC I3 hCn hs' hsz,rfl,q'⟩⟩
end
theorem Dw (l:Addr) (items:Array Value) (n:Nat) (b:Addr) (items2:Array Value) (n2:Nat) (dd2:Option Addr) (sl2:Array (Option Value)) (hc0:¬(!items.isEmpty&&Builtin.List.listTooLong (items.size+items2.size))=true) (hc1:items.size<=sizeLine) (hs2:items.size+items2.size<=sizeLine+1):
 Meets (Builtin.«list.extend» ⟨[.ref l,.ref b],[]⟩) (λ_ R s=>s.heap.get? l=some { cls:=.type "list",dict:=none,data:=.seq items n,slots:=#[] }/\s.heap.get? b=some { cls:=.type "list",dict:=dd2,data:=.seq items2 n2,slots:=sl2 }/\R (.ok (.ret Value.none)) { s with heap:=s.heap.update l (Obj.mapSeq λx=>x++items2),toks:=s.toks }):=
 .of_wp λprog w A R s h=>by
  obtain⟨hp,g,d,tk,os⟩:=s; obtain⟨hl,hb,h⟩:=h; have f1:=AutoSeq1.idx_int; have f2:=AutoSeq1.sub_tuple_tuple; have f3:=AutoSeq1.sub_list_list; have f4:=AutoSeq1.sub_tuple_list; have f5:=AutoSeq1.sub_list_tuple;have hz':(items++items2).size<=sizeLine+1:=by rw[Array.size_append]; exact hs2
  wp_walk using (wpAny_updateSeq hl rfl (hz:=hc1) (_hz':=hz')),AutoSeq1.wpAny_loadPart' hl,AutoSeq1.wpAny_loadPart' hb; exact⟨_,rfl,h⟩
section
variable {X:Cx}
theorem Rz:fZ X (binaryOp .Add) (λx y H Q=>∃a b xs ys,x=.ref a/\y=.ref b/\bI X.K H a xs/\bI X.K H b ys/\xs.length+ys.length<=sizeLine/\∀p,H p=none->Q (.ref p) (upd H p (.lst (xs++ys)))):=by
 intro acR s O H x y v u Q I rx ry h;obtain⟨a,b,xs,ys,rfl,rfl,ha,hb,hz,q⟩:=h;cases rx;cases ry;obtain⟨its,r1,⟨⟨c1,d1,dt1,s1⟩,n1,g1,e1,e2,e3⟩,_⟩:=I.list ha;obtain⟨its2,r2,⟨⟨c2,d2,dt2,s2⟩,n2,g2,f1,f2,f3⟩,_⟩:=I.list hb;simp only at e1 e2 e3 f1 f2 f3;subst e1 e2 e3 f1 f2 f3;have hl1:=r1.length;have hl2:=r2.length;refine concat_meets ⟨_,g1,rfl⟩ ⟨_,g2,rfl⟩ noFill_list_add seq_list_add F.slot_list_add F.entry_list_add (F.args_list_add_2 _ _) (list_addW a b its.toArray its2.toArray n1 n2 none none s1 s2 (by rw[Y0,Y0]; omega)) ⟨g1,g2,?_⟩;have ea:its.toArray++its2.toArray=(its++its2).toArray:=by simp
 rw[ea];exact⟨.ref _,_,I.lnew (t':=s.toks) (r1.append r2) (by rw[Y5]; omega),rfl,q _ I.fresh⟩
def xJ (K:FG):V->List V->Hp->VK->Prop:=λx vs H Q=>∃l b xs zs,x=.ref l/\vs=[.ref b]/\H l=some (.lst xs)/\bI K H b zs/\xs.length+zs.length<=sizeLine/\Q .non (upd H l (.lst (xs++zs)))
theorem yC:Us X "list.extend" (xJ X.K):=by
 intro acR s O H x vs v us Q I rx rv h;obtain⟨l,b,xs,zs,rfl,rfl,hH,hB,hz,q⟩:=h;cases rx;obtain⟨u,rfl,ru⟩:=rv.one;cases ru;obtain⟨z,its,n,r,hl,e⟩:=I.lstM hH;obtain⟨its2,r2,⟨⟨c2,d2,dt2,s2⟩,n2,g2,f1,f2,f3⟩,_⟩:=I.list hB;simp only at f1 f2 f3;subst f1 f2 f3;have hl2:=r2.length;have hsz:its.toArray.size+its2.toArray.size<=sizeLine:=by rw[Y0,Y0]; omega
 have hlong:¬ (!its.toArray.isEmpty&&Builtin.List.listTooLong (its.toArray.size+its2.toArray.size))=true:=by rw[Dr hsz,Bool.and_false];exact Zm
 refine call_meets F.slot_list_extend ⟨_,e,rfl⟩ F.entry_list_extend (F.args_list_extend_2 _ _)
  (Dw l its.toArray n b its2.toArray n2 none s2 hlong (by rw[Y0]; omega) (by omega)) ⟨e,g2,?_⟩
 refine⟨.non,_,I.lset (its':=its++its2) hH e (by simp) (r.append r2) ?_,rfl,q⟩;rw[Y5];omega
end
def sV (z:Str) (lo hi:Option Int):Str:=⟨((z.cps.toList.drop (HT.sIx z.length 0 lo)).take (HT.sIx z.length z.length hi-HT.sIx z.length 0 lo)).toArray⟩
theorem WX (lo hi:Option Int) (n:Nat):Builtin.Str.strSliceIndices lo hi 1 n=(List.range (HT.sIx n n hi-HT.sIx n 0 lo)).map (HT.sIx n 0 lo+·):=by
 have e1:∀(o:Option Int) (d:Nat),d<=n->(match o with | none=>(d:Int) | some i=>max 0 (min (if i<0 then i+(n:Int) else i) (n:Int)))=((HT.sIx n d o:Nat):Int):=λo d hd=>by
  cases o with
  | none=>rfl
  | some i=>
   simp only[HT.sIx];by_cases h:i<0
   . simp only[h,if_true]<;>omega
   . simp only[h,if_false]<;>omega
 rw[<-sliceRange_one];have a1:=e1 lo 0 (Z8 _);have a2:=e1 hi n (YW _);unfold Builtin.Str.strSliceIndices;rw[<-a1,<-a2];cases lo<;>cases hi<;>simp
theorem J9 (z:Str) (lo hi:Option Int):Txt.slice z lo hi=sV z lo hi:=by
 unfold Txt.slice sV;rw[WX];have hp:=pick_run z.cps (HT.sIx z.length 0 lo) (HT.sIx z.length z.length hi-HT.sIx z.length 0 lo);split
 . rename_i h;have h2:(List.map (HT.sIx z.length 0 lo+·) (List.range (HT.sIx z.length z.length hi-HT.sIx z.length 0 lo))).length=z.length:=by simpa using h
   rw[YQ,ZR]at h2;have hh:HT.sIx z.length z.length hi<=z.length:=HT.sIx_le _ _ (YW _) hi;have hl0:HT.sIx z.length 0 lo<=z.length:=HT.sIx_le _ _ (Z8 _) lo;have hl:HT.sIx z.length 0 lo=0:=by omega
   rw[h2,hl,List.drop_zero,aaG (by rw[aaA]; exact YW _)]
 . rw[hp]
def Yc:V->Option Int->Option Int->Hp->VK->Prop:=λx lo hi H Q=>∃z,x=.str z/\z.length<=sizeLine/\Q (.str (sV z lo hi)) H
section
variable {X:Cx}
theorem Uz:Be X Yc:=by
 intro acR s O H x v vl vu lo hi sl Q I rx hs pl pu h;obtain⟨z,rfl,hz,q⟩:=h;obtain⟨t,rfl⟩:=rx;refine⟨"str",_,F.slot_str_getitem.lookup,typeIs_str _ _ _,?_⟩;have go:∀(l u:Option (Int×Tok)),vl=partValue l->vu=partValue u->l.map (·.1)=lo->u.map (·.1)=hi->wpAny (model X.prog X.w) X.A (getItem (.str z t) (.ref sl)) (EP X acR O Q) X.xe s:=λl u e1 e2 e3 e4=>by subst e1 e2 e3 e4;refine wpAny_getItem_str_slice (l:=l) (u:=u) (st:=none) hs rfl (post_val_or_str ⟨ZD (Txt.slice_le z _ _) hz,λt' k=>?_⟩);refine⟨.str (sV z (l.map (·.1)) (u.map (·.1))),H,I.tok _,⟨t',?_⟩,q⟩;rw[<-J9];rfl
 cases pl with
 | none=>cases pu with
  | none=>exact go none none rfl rfl rfl rfl
  | int j tj=>exact go none (some (j,tj)) rfl rfl rfl rfl
 | int i ti=>cases pu with
  | none=>exact go (some (i,ti)) none rfl rfl rfl rfl
  | int j tj=>exact go (some (i,ti)) (some (j,tj)) rfl rfl rfl rfl
end
section
variable {X:Cx} {acR:List (Addr×Obj)} {O:St} {H:Hp} {s:Shared} {h':Heap}
theorem Nt {h:Heap} {a:Addr} {o:Obj} (e:h.get? a=some o):o.isFreed=false:=by
 unfold Heap.get? at e;split at e
 . cases e
 . rename_i hne;obtain⟨c,d,dt,sl⟩:=o;cases dt<;>first | rfl | exact(hne _ _ _ e).elim
theorem Inv.turned2 {t':Nat} {e it:Addr} (I:Inv X acR O H s) (hei:e≠it) (k:∀b o,b≠e->b≠it->s.heap.get? b=some o->h'.get? b=some o) (fe:nP X acR H e) (fi:nP X acR H it) (he:∃o,h'.get? e=some o) (hes:∃o,s.heap.get? e=some o):Inv X acR O H { s with heap:=h',toks:=t' }:=by
 obtain⟨o,ho⟩:=he;obtain⟨o0,ho0⟩:=hes;obtain⟨a0,a1,a2,a3,a4,a5⟩:=fe;obtain⟨b0,b1,b2,b3,b4,b5⟩:=fi;have I1:Inv X acR O H { s with heap:=s.heap.update e (λ_=>o),toks:=s.toks }:=I.turned (it:=e) (λb u hb q=>(Zy s.heap (λ_=>o) (Ne.symm hb)).trans q) a0 a1 a3 a4 a5;refine Inv.turned (s:={ s with heap:=s.heap.update e (λ_=>o),toks:=s.toks }) (it:=it) (h':=h') (t':=t') I1 (λb u hb q=>?_) b0 b1 b3 b4 b5;by_cases hbe:b=e
 . subst hbe;have q':(s.heap.update b (λ_=>o)).get? b=some u:=q;rw[ZW (λ_=>o) ho0 (Nt ho)]at q';cases q';exact ho
 . have q':(s.heap.update e (λ_=>o)).get? b=some u:=q;rw[Zy s.heap (λ_=>o) (Ne.symm hbe)]at q';exact k b u hbe hb q'
end
def UG (K:FG) (a:Addr):It:=
 ⟨λi H=>∃xs x,bI K H a xs/\xs[i]?=some x,λi H x H'=>∃T y,H T=none/\x=.ref T/\H'=upd H T (.tup [.int i,y])/\∀xs,bI K H a xs->xs[i]?=some y,λi H=>∃xs,bI K H a xs/\xs.length<=i⟩
theorem Ka {K:FG} {elts:List Expr} {x1} {pos:Pos} (a e it:Addr) (hei:e≠it):Turn P w K (.Tuple elts x1 pos) (UG K a) [e,it] e (λi h=>(∃old,IsEnum h e it i old)/\h.IsListIter it a i) where
 mem:=by simp
 obj:=λi h st b hb=>by
  obtain⟨⟨old,he⟩,hit⟩:=st;rcases YM.mp hb with rfl | hb
  . exact⟨_,he,λv z=>by have z':Data.fields _=Data.cell v:=z;cases z'⟩
  . have eb:b=it:=by simpa using hb
    subst eb;obtain⟨o,ho,c,d⟩:=hit;exact⟨o,ho,λv z=>by rw[d]at z; cases z⟩
 keep:=λi h h' st k=>by obtain⟨⟨old,he⟩,hit⟩:=st;exact⟨⟨old,k e (by simp) _ he⟩,hit.at λo q=>k it (by simp) o q⟩
 item:=by
  intro X hP hw hK hc i acR s O H E I hf st hg;subst hP hw hK;obtain⟨⟨old,he⟩,hit⟩:=st;obtain⟨xs,x,hq,hx⟩:=hg;obtain⟨its,rv,p,hz⟩:=I.list hq;obtain⟨u,hu,ru⟩:=rv.get hx;have fe:=hf e (by simp);have fi:=hf it (by simp);have helt:e<s.heap.objs.size:=YZ he;have hilt:it<s.heap.objs.size:=by obtain⟨_,q,_⟩:=hit; exact YZ q
  have hTn:H s.heap.objs.size=none:=I.hok.fresh (YW _);refine wpAny_pyNext_enum_item he hit p.isList (x:=u) (by simpa using hu) hei λh1 ho hit' hT hsz hk=>?_;refine⟨_,rfl,wpAny_letOwnedTupleGo_enum ho λh2 he' hs'=>?_⟩;have ne1:s.heap.objs.size≠e:=ZK helt;have ne2:s.heap.objs.size≠it:=ZK hilt;have I1:Inv X acR O (upd H s.heap.objs.size (.tup [.int i,x])) { s with heap:=s.heap.push { cls:=.type "tuple",data:=.seq #[.int i s.toks,u] },toks:=s.toks+1 }:=by refine I.laid (λb o q=>YL _ q) (YW _) ⟨by simp only[YX,aaB]; rw[sizeLine_eq]; decide,[.int i s.toks,u],.cons ⟨_,rfl⟩ (.cons ru .nil),?_⟩;exact⟨_,Y9 s.heap rfl,rfl,0,rfl⟩
  have up:∀b,b≠s.heap.objs.size->H b=none->upd H s.heap.objs.size (.tup [.int i,x]) b=none:=λb hb q=>by rw[bF hb]; exact q
  have I2:Inv X acR O (upd H s.heap.objs.size (.tup [.int i,x])) { s with heap:=h2,toks:=s.toks+1 }:=by
   refine I1.turned2 (h':=h2) (t':=s.toks+1) hei (λb o hb1 hb2 q=>?_) ⟨up e ne1.symm fe.1,fe.2⟩ ⟨up it ne2.symm fi.1,fi.2⟩ ⟨_,he'⟩ ⟨_,YL _ he⟩;rw[hs'.2 b hb1];by_cases hbT:b=s.heap.objs.size
   . subst hbT;have q':(s.heap.push { cls:=.type "tuple",data:=.seq #[.int i s.toks,u] }).get? s.heap.objs.size=some o:=q;rw[Y9 s.heap rfl]at q';cases q';exact hT
   . refine hk b o hb1 hb2 ?_;have q':(s.heap.push { cls:=.type "tuple",data:=.seq #[.int i s.toks,u] }).get? b=some o:=q;rw[Heap.get?_push_ne s.heap b _ hbT]at q';exact q'
  refine⟨.ref s.heap.objs.size,_,I2,rfl,⟨s.heap.objs.size,x,hTn,rfl,rfl,λys hy=>by rw[I.list_inj hy hq]; exact hx⟩,⟨⟨u,by simpa using he'⟩,hit'.at λo y=>(hs'.2 it hei.symm).trans y⟩,λb hb=>?_⟩;rcases YM.mp hb with rfl | hb
  . exact up _ ne1.symm fe.1
  . have eb:b=it:=by simpa using hb
    subst eb;exact up _ ne2.symm fi.1
 done:=by intro X hP hw hK hc i acR s O H E I hf st hg;subst hP hw hK;obtain⟨⟨old,he⟩,hit⟩:=st;obtain⟨xs,hq,hx⟩:=hg;obtain⟨its,rv,p,hz⟩:=I.list hq;obtain⟨f0,f1,f2,f3,f4,f5⟩:=hf it (by simp);have hl:=rv.length;exact wpAny_pyNext_enum_end (I.ok.hd hc) he hit p.isList (aaH (by simp; omega)) λh' eb=>⟨rfl,I.turned (t':=s.toks) (λb o hb q=>eb b o hb q) f0 f1 f3 f4 f5⟩
 self:=λ_ _ _ _ _ st h=>by obtain⟨⟨old,he⟩,_⟩:=st;exact wpAny_pyIter_enum he h
section
variable {X:Cx}
def WY (K:FG) (ta:TA):TI:=λO H R=>ta O H λvs H1=>∃a,vs=[.ref a]/\(∃xs,bI K H1 a xs)/\R (UG K a) H1
theorem RB {a:Expr} {ta:TA} {p pos:Pos} {elts:List Expr} {x1} {tpos:Pos} (hg:Gl X "enumerate") (hm:X.mg "enumerate" = none) (ha:PA X [a] ta) (hs:starEach [a] X.env=[(false,eval a X.env)]:=by rfl):PI X (.Tuple elts x1 tpos) (.Call (.Name "enumerate" p) [a] [] pos) (WY X.K ta):=by
 intro acR s O H R I h;refine Call_ (qJ (u:=.type "enumerate") I hg hm (by kernel_rfl) (PyProof.Rows.callWith_type1 (bT (ha pos acR s O H _ I h) λus s1 ⟨vs,H1,I1,r1,q1⟩=>?_) hs rfl));obtain⟨b,e,⟨xs,hq⟩,q⟩:=q1;subst e;cases r1 with
 | cons r rr=>
  cases rr;cases r;obtain⟨its,rv,pl,hz⟩:=I1.list hq;refine call_enumerate_list pl.isList λh' he hit hsz hk=>?_;have I2:Inv X acR O H1 { s1 with heap:=h' }:=I1.kept (t':=s1.toks) hk;refine wpAny_pyIter_enum he ?_;refine⟨s1.heap.objs.size+1,[s1.heap.objs.size+1,s1.heap.objs.size],_,_,H1,rfl,I2,Ka b (s1.heap.objs.size+1) s1.heap.objs.size (Nat.succ_ne_self _),⟨⟨_,he⟩,hit⟩,λc hc=>?_,q⟩;have hc':s1.heap.objs.size<=c:=by
   rcases YM.mp hc with rfl | hc
   . exact aaz _
   . have ec:c=s1.heap.objs.size:=by simpa using hc
     exact Nat.le_of_eq ec.symm
  exact I1.fpOk hc' (I1.hok.fresh hc')
def Qq (i j:Int):Prop:=0<j/\j<18446744073709551616
theorem iK:fZ X (binaryOp .FloorDiv) (rI Qq λi j=>.int (i/j)):=Qg λi j _ _ _ _ _ hc q=>by
 have h1:(0:Int)<j:=hc.1;have h2:j<18446744073709551616:=hc.2;have h0:j.natAbs≠0:=by omega
 have h3:j.natAbs.log2<64:=(Nat.log2_lt h0).mpr (by omega);exact floordiv_int (by omega) (by rw[Int.fdiv_eq_ediv_of_nonneg i (by omega)]; exact q) (.inl (PyProof.noPylong_of_log2 (by omega)))
def W2:R2:=λx y H Q=>∃a v,x=.ref a/\Nj H a y (some v)/\Q v H
theorem Gz (hu:X.A.units+1<cLine):wX X W2:=by intro value slice acR s O H x y v u Q I rx ry h hs;obtain⟨a,z,rfl,g,q⟩:=h;cases rx;exact tail_any (Gf I g) F.slot_dict_getitem.lookup (J5 hu I g ry λw' s3 I3 rw'=>⟨z,H,I3,rw',q⟩) hs
def Qs:V->V->V->Hp->(Hp->Prop)->Prop:=λo i v H Q=>∃a H',o=.ref a/\Uw H a i v H'/\Q H'
theorem set_dict (hu:X.A.units+1<cLine):MF X Qs:=by intro acR s O H o i v ov iv u Q I ro ri rv h;obtain⟨a,H',rfl,g,q⟩:=h;cases ro;exact J6 hu I g ri rv λs4 I4=>⟨H',I4,q⟩
end
section
variable {X:Cx} {acR:List (Addr×Obj)} {O:St} {H:Hp} {s:Shared} {h':Heap}
theorem Inv.turnedL {t':Nat} {fp:List Addr} (I:Inv X acR O H s) (k:∀b o,b∉fp->s.heap.get? b=some o->h'.get? b=some o) (f:∀b∈fp,nP X acR H b):Inv X acR O H { s with heap:=h',toks:=t' }:=by
 have nit:∀b u,H b=some u->b∉fp:=λb u e z=>by rw[(f b z).1]at e; cases e
 refine I.step (g':=s.gens) (d':=s.drawn) (ch:=fp) (λb hb=>⟨(f b hb).2.2.2.1,(f b hb).2.1,(f b hb).2.2.2.2.1,(f b hb).2.2.2.2.2⟩) (λb o _ _ hc e _=>k b o hc e) (λb o _ _ hc e _=>⟨o.slots,k b o hc e⟩) (λ_ _ _ _ n=>n)
  (λb o hc e=>⟨o,k b o hc e⟩) (λ_ _ e=>e) (λ_ _ _ e=>e) (λb ps e=>⟨#[],by rw[e]; simp⟩) (λm hm=>?_) (λb u e=>?_) I.bare
 . obtain⟨o,es,ep,ho,r⟩:=hm;exact⟨o,es,ep,k _ o (λz=>(f _ z).2.1 rfl) ho,r⟩
 . refine(I.hok b u e).stay (λc v hc q=>k c v ?_ q) (λ_ q=>q) λ_ _ q=>q;rcases hc with z | z
   . rw[z]; exact nit b u e
   . exact nit c _ z
end
structure UJ (z TI TO i1 i2:Addr):Prop where
 TIz:TI≠z
 TOz:TO≠z
 i1z:i1≠z
 i2z:i2≠z
 TITO:TI≠TO
 TIi1:TI≠i1
 TIi2:TI≠i2
 TOi1:TO≠i1
 TOi2:TO≠i2
 i12:i1≠i2
section
variable {X:Cx}
end
section
variable {prog:Program}
end
section
variable {prog:Program} {w:World} {A:Around} {R:Result->Shared->Prop} {I:Addr} {fp wr:List Addr} {G:Array GenState->Array GenState->Prop} {n:Nat} {P:Nat->Value->Prop} {St:Nat->Shared->Prop}
end
section
variable {prog:Program}
end
section
variable {X:Cx} {acR:List (Addr×Obj)} {O:St} {H:Hp} {s:Shared}
end
section
variable {X:Cx}
end
section
variable {prog:Program}
end
section
variable {X:Cx}
end
def UL (K:FG) (a:Addr) (n:Nat):It:=
 ⟨λi H=>i<n/\∃xs,bI K H a xs/\xs.length=n,λi H x H'=>H'=H/\∀xs,bI K H a xs->xs[n-1-i]?=some x,λi H=>i=n/\∃xs,bI K H a xs/\xs.length=n⟩
theorem Nu {K:FG} {tg:Expr} (a it:Addr) (n:Nat):Turn P w K tg (UL K a n) [it] it (λi h=>h.IsRevIter it a ((n:Int)-1-i)) where
 mem:=by simp
 obj:=λi h st b hb=>by
  have e:b=it:=by simpa using hb
  subst e;obtain⟨o,e,c,d⟩:=st;exact⟨o,e,λv z=>by rw[d]at z; cases z⟩
 keep:=λi h h' st k=>st.at λo e=>k it (by simp) o e
 item:=by
  intro X hP hw hK hc i acR s O H E I hf st hg;subst hP hw hK;obtain⟨hi,xs,hq,hn⟩:=hg;obtain⟨its,rv,p,hz⟩:=I.list hq;obtain⟨f0,f1,f2,f3,f4,f5⟩:=hf it (by simp);have hx:xs[n-1-i]?=some (xs[n-1-i]'(by omega)):=YT _;obtain⟨u,hu,ru⟩:=rv.get hx;have e1:(n:Int)-1-i=((n-1-i:Nat):Int):=by omega
  rw[e1]at st;refine wpAny_pyNext_rev_item st p.isList (x:=u) (by simpa using hu) λh' st' sb=>?_;have I1:Inv X acR O H { s with heap:=h' }:=I.turned (t':=s.toks) (λb o hb e=>(sb.2 b hb).trans e) f0 f1 f3 f4 f5;obtain⟨o,e,c,d⟩:=id st';have e2:((n-1-i:Nat):Int)-1=(n:Int)-1-((i+1:Nat):Int):=by omega
  rw[e2]at st';exact⟨u,rfl,Cy (s:={ s with heap:=h' }) e c d (by decide) ⟨_,H,I1,ru,⟨rfl,λys hy=>by rw[I.list_inj hy hq]; exact hx⟩,st',λb hb=>(hf b hb).1⟩⟩
 done:=by
  intro X hP hw hK hc i acR s O H E I hf st hg;subst hP hw hK;obtain⟨rfl,xs,hq,hn⟩:=hg;obtain⟨f0,f1,f2,f3,f4,f5⟩:=hf it (by simp);have e1:(i:Int)-1-i=-1:=by omega
  rw[e1]at st;exact wpAny_pyNext_rev_end (I.ok.hd hc) st λh' eb=>⟨rfl,I.turned (t':=s.toks) (λb o hb e=>eb b o hb e) f0 f1 f3 f4 f5⟩
 self:=λ_ _ _ _ _ st h=>wpAny_pyIter_revIter st h
section
variable {X:Cx}
def Yd (K:FG) (ta:TA):TI:=λO H R=>ta O H λvs H1=>∃a xs,vs=[.ref a]/\bI K H1 a xs/\R (UL K a xs.length) H1
theorem UT {tg a:Expr} {ta:TA} {p pos:Pos} (hg:Gl X "reversed") (hm:X.mg "reversed" = none) (ha:PA X [a] ta) (hs:starEach [a] X.env=[(false,eval a X.env)]:=by rfl):PI X tg (.Call (.Name "reversed" p) [a] [] pos) (Yd X.K ta):=by
 intro acR s O H R I h;refine Call_ (qJ (u:=.type "reversed") I hg hm (by kernel_rfl) (PyProof.Rows.callWith_type1 (bT (ha pos acR s O H _ I h) λus s1 ⟨vs,H1,I1,r1,q1⟩=>?_) hs rfl));obtain⟨b,xs,e,hq,q⟩:=q1;subst e;cases r1 with
 | cons r rr=>
  cases rr;cases r;obtain⟨its,rv,pl,hz⟩:=I1.list hq;have hl:=rv.length;refine call_reversed_list pl.isList ?_;have hit:(s1.heap.push (revObj b ((its.toArray.size:Int)-1))).IsRevIter s1.heap.objs.size b ((xs.length:Int)-1-((0:Nat):Int)):=by
   have e0:(xs.length:Int)-1-((0:Nat):Int)=(its.toArray.size:Int)-1:=by rw[hl]; simp
   rw[e0];exact⟨_,Y9 _ rfl,rfl,rfl⟩
  refine wpAny_pyIter_revIter hit ?_;refine⟨s1.heap.objs.size,[s1.heap.objs.size],_,_,H1,rfl,I1.kept (t':=s1.toks) λb o e=>YL _ e,Nu b _ _,hit,λc hc=>?_,q⟩;have e:c=s1.heap.objs.size:=by simpa using hc
  subst e;exact I1.fpOk (YW _) (I1.hok.fresh (YW _))
end
def jy:Bool->Heap->Addr->Addr->Nat->Prop
 | true,h,it,a,i=>h.IsListIter it a i
 | false,h,it,a,i=>h.IsTupleIter it a i
def kY:Bool->Heap->Addr->Array Value->Prop
 | true,h,a,its=>h.IsList a its
 | false,h,a,its=>h.IsTuple a its
def oG:Bool->FG->Hp->Addr->List V->Prop
 | true,K,H,a,xs=>bI K H a xs
 | false,K,H,a,xs=>bV K H a xs
theorem jy.at {k:Bool} {h h':Heap} {it a:Addr} {i:Nat} (x:jy k h it a i) (e:∀o,h.get? it=some o->h'.get? it=some o):jy k h' it a i:=by
 cases k
 . exact Heap.IsTupleIter.at x e
 . exact Heap.IsListIter.at x e
theorem jy.obj {k:Bool} {h:Heap} {it a:Addr} {i:Nat} (x:jy k h it a i):∃o,h.get? it=some o/\o.cls≠.type "zip" /\ o.cls≠.type "tuple" /\ o.cls≠.type "list" /\ ∀v,o.data≠.cell v:=by
 cases k
 . obtain⟨o,ho,hc,hd⟩:=x;exact⟨o,ho,by rw[hc]; simp,by rw[hc]; simp,by rw[hc]; simp,λv z=>by rw[hd]at z; cases z⟩
 . obtain⟨o,ho,hc,hd⟩:=x;exact⟨o,ho,by rw[hc]; simp,by rw[hc]; simp,by rw[hc]; simp,λv z=>by rw[hd]at z; cases z⟩
theorem kY.at {k:Bool} {h h':Heap} {a:Addr} {its:Array Value} (x:kY k h a its) (e:∀o,h.get? a=some o->h'.get? a=some o):kY k h' a its:=by
 cases k
 . obtain⟨o,ho,r⟩:=x; exact⟨o,e _ ho,r⟩
 . obtain⟨o,ho,r⟩:=x; exact⟨o,e _ ho,r⟩
theorem kY.obj {k:Bool} {h:Heap} {a:Addr} {its:Array Value} (x:kY k h a its):∃o,h.get? a=some o/\(o.cls=.type "list" \/ o.cls=.type "tuple"):=by
 cases k
 . obtain⟨o,ho,hc,_⟩:=x; exact⟨o,ho,.inr hc⟩
 . obtain⟨o,ho,hc,_⟩:=x; exact⟨o,ho,.inl hc⟩
section
variable {prog:Program}
theorem zP {k:Bool} {it l:Addr} {i:Nat} {items:Array Value} {x:Value} {Q:Value->Shared->Prop} (hit:jy k s.heap it l i) (hl:kY k s.heap l items) (hx:items[i]?=some x)
 (hQ:∀h',jy k h' it l (i+1)->Heap.SameBut it s.heap h'->Q x { s with heap:=h' }):wpAny (model prog w) A (Builtin.SmallTypes.nextOf (.ref it)) Q E s:=by
 cases k
 . have hit:s.heap.IsTupleIter it l i:=hit;obtain⟨o,ho,hc,hd⟩:=id hit;obtain⟨ol,hol,_,nl,hdl⟩:=hl;unfold Builtin.SmallTypes.nextOf;refine aa4 (wpAny_callSpecial?_slot (name:=Str.ofString "__next__") hit.typeIs aak (wpAny_call_entry aak hit.typeIs aaT ?_ (aaR _)));show wpAny _ _ (field (.ref it) 0 >>= _) _ _ s;refine aa4 (wpAny_field ho hd (x:=.ref l) rfl ?_);show wpAny _ _ (if (Value.ref l==Value.none)=true then _ else _) _ _ s;rw[aa6 (show ¬ ((Value.ref l==Value.none)=true) from Zm)];show wpAny _ _ (field (.ref it) 1 >>= _) _ _ s;refine aa4 (wpAny_field ho hd (x:=.int i 0) rfl ?_);show wpAny _ _ (seqItems? (.ref l) >>= _) _ _ s;refine aa4 (wpAny_seqItems hol hdl ?_);simp only[aaE,hx];refine aa4 (wpAny_setField ho hd (by simp) (aa7 ⟨x,rfl,aa7 (hQ _ ?_ (aaw ..))⟩));exact⟨_,ZW _ ho (Obj.isFreed_of_fields (Obj.data_mapFields hd _)),(Obj.cls_mapFields ..).trans hc,by rw[Obj.data_mapFields hd]; simp[rawInt]⟩
 . exact wpAny_nextOf_list_item hit hl hx hQ
theorem Kc {k:Bool} {it l:Addr} {i:Nat} {items:Array Value} {Q:Value->Shared->Prop} (hh:A.handled=none) (hit:jy k s.heap it l i) (hl:kY k s.heap l items) (hx:items[i]?=none)
 (hE:∀h' e,Heap.ExtBut it s.heap h'->(∃o,h'.get? e=some o/\o.cls=.type "StopIteration")->E (.ref e) { s with heap:=h' }):wpAny (model prog w) A (Builtin.SmallTypes.nextOf (.ref it)) Q E s:=by
 cases k
 . have hit:s.heap.IsTupleIter it l i:=hit;obtain⟨o,ho,hc,hd⟩:=id hit;obtain⟨ol,hol,_,nl,hdl⟩:=hl;unfold Builtin.SmallTypes.nextOf;refine aa4 (wpAny_callSpecial?_slot (name:=Str.ofString "__next__") hit.typeIs aak (wpAny_call_entry aak hit.typeIs aaT ?_ (aaR _)));show wpAny _ _ (field (.ref it) 0 >>= _) _ _ s;refine aa4 (wpAny_field ho hd (x:=.ref l) rfl ?_);show wpAny _ _ (if (Value.ref l==Value.none)=true then _ else _) _ _ s;rw[aa6 (show ¬ ((Value.ref l==Value.none)=true) from Zm)];show wpAny _ _ (field (.ref it) 1 >>= _) _ _ s;refine aa4 (wpAny_field ho hd (x:=.int i 0) rfl ?_);show wpAny _ _ (seqItems? (.ref l) >>= _) _ _ s;refine aa4 (wpAny_seqItems hol hdl ?_);simp only[aaE,hx];refine aa4 (wpAny_rule (aa4 (wpAny_setField ho hd (by simp) ?_)));show wpAny _ _ (newExc (.type "StopIteration") [] >>= _) _ _ _;refine aa4 ?_;simp only[newExc,newTuple];refine aa4 (wpAny_newObj_type ?_ (by size_fits));refine aa4 (m:=firstArgMember _ _) (wpAny_of_eq (a:=Value.none) (by first | rfl | (simp only[firstArgMember]; rfl)) ?_);refine wpAny_newObj_type ?_ (by size_fits);simp only[raiseNew];refine aa4 (wpAny_handled ?_)
   first | rw[show A.in1.handled=none from hh] | rw[hh]
   refine aa4 (aa7 (wpAny_throw ?_));exact hE _ _ (((aaw ..).extBut.push _).push _) ⟨_,Y9 _ rfl,rfl⟩
 . exact wpAny_nextOf_list_end hh hit hl hx hE
theorem Kd {k:Bool} {z TI TO i1 i2 l1 l2:Addr} {k1 k2:Nat} {xs ys:Array Value} {x y a b:Value} {Q:Value->Shared->Prop} (D:ZipApart z TI TO i1 i2 l1 l2)
 (hz:IsZip s.heap z TI TO .none) (hTI:IsPair s.heap TI (.ref i1) (.ref i2)) (hTO:IsPair s.heap TO a b) (h1:jy k s.heap i1 l1 k1) (h2:jy k s.heap i2 l2 k2) (hl1:kY k s.heap l1 xs) (hl2:kY k s.heap l2 ys) (hx:xs[k1]?=some x) (hy:ys[k2]?=some y)
 (hQ:∀h',IsZip h' z TI TO (rawInt s.heap.objs.size)->IsPair h' TO x y->jy k h' i1 l1 (k1+1)->jy k h' i2 l2 (k2+1)->IsPair h' s.heap.objs.size x y->
   (∀c o,c≠z->c≠TO->c≠i1->c≠i2->s.heap.get? c=some o->h'.get? c=some o)->Q (.ref s.heap.objs.size) { s with heap:=h' }):
 wpAny (model prog w) A (Builtin.«zip.__next__» ⟨[.ref z],[]⟩) (λfin s'=>∃v,fin=.done (.ret v)/\Q v s') E s:=by
 show wpAny _ _ (field (.ref z) 2 >>= _) _ _ _;refine aa4 (wpAny_field hz rfl (x:=.bool false) rfl ?_);show wpAny _ _ (field (.ref z) 3 >>= _) _ _ _;refine aa4 (wpAny_field hz rfl (x:=.ref TI) rfl (aa4 (wpAny_seqItems hTI rfl ?_)));show wpAny _ _ (Builtin.SmallTypes.ownedTupleIsFree (.ref z) >>= _) _ _ _;unfold Builtin.SmallTypes.ownedTupleIsFree;refine aa4 (aa4 (wpAny_field hz rfl (x:=.none) rfl (aa7 ?_)));simp only[if_true];refine aa4 (wpAny_rule (aa4 (wpAny_field hz rfl (x:=.ref TO) rfl (aa4 (wpAny_setField_rec hz (by simp) λg1 z1 s1=>?_)))));have z1:IsZip g1 z TI TO .ellipsis:=z1;have e1:∀c o,c≠z->s.heap.get? c=some o->g1.get? c=some o:=λc o hc e=>s1.extBut _ _ hc e;refine aa4 ?_;simp only[aaY,List.zipIdx_nil,aa3,List.forIn_nil];refine aa4 (aa4 (wpAny_onRaise ?_));show wpAny _ _ (Builtin.SmallTypes.nextOf (.ref i1) >>= _) _ _ _;refine aa4 (zP (h1.at λo e=>e1 _ o D.i1z e) (hl1.at λo e=>e1 _ o D.l1z e) hx λg2 n1 s2=>aa7 ?_);have e2:∀c o,c≠i1->g1.get? c=some o->g2.get? c=some o:=λc o hc e=>s2.extBut _ _ hc e;have t2:IsPair g2 TO a b:=e2 _ _ D.TOi1 (e1 _ _ D.TOz hTO);refine aa4 (wpAny_seqItems t2 rfl (aa4 (wpAny_updateSeq_pair t2 λg3 t3 s3=>?_)));have t3:IsPair g3 TO x b:=t3;have e3:∀c o,c≠TO->g2.get? c=some o->g3.get? c=some o:=λc o hc e=>s3.extBut _ _ hc e;refine aa4 (wpAny_letGo (aa7 ?_));refine aa4 (aa4 (wpAny_onRaise ?_));show wpAny _ _ (Builtin.SmallTypes.nextOf (.ref i2) >>= _) _ _ _;refine aa4 (zP (h2.at λo e=>e3 _ o D.TOi2.symm (e2 _ o D.i12.symm (e1 _ o D.i2z e))) (hl2.at λo e=>e3 _ o D.l2TO (e2 _ o D.l2i1 (e1 _ o D.l2z e))) hy λg4 n2 s4=>aa7 ?_);have e4:∀c o,c≠i2->g3.get? c=some o->g4.get? c=some o:=λc o hc e=>s4.extBut _ _ hc e;have t4:IsPair g4 TO x b:=e4 _ _ D.TOi2 t3;refine aa4 (wpAny_seqItems t4 rfl (aa4 (wpAny_updateSeq_pair t4 λg5 t5 s5=>?_)));have t5:IsPair g5 TO x y:=t5;have e5:∀c o,c≠TO->g4.get? c=some o->g5.get? c=some o:=λc o hc e=>s5.extBut _ _ hc e;refine aa4 (wpAny_letGo (aa7 (aa7 ?_)));refine aa4 (wpAny_seqItems t5 rfl (aa4 (wpAny_newTuple ?_)));have hsz:g5.objs.size=s.heap.objs.size:=by rw[s5.1,s4.1,s3.1,s2.1,s1.1]
 have z5:IsZip g5 z TI TO .ellipsis:=e5 _ _ D.TOz.symm (e4 _ _ D.i2z.symm (e3 _ _ D.TOz.symm (e2 _ _ D.i1z.symm z1)));have zlt:z<g5.objs.size:=YZ z5;show wpAny _ _ (Builtin.SmallTypes.ownedTupleHandOut (.ref z) (.ref g5.objs.size) >>= _) _ _ _;unfold Builtin.SmallTypes.ownedTupleHandOut;have z6:IsZip (g5.push { cls:=.type "tuple",data:=.seq #[x,y] }) z TI TO .ellipsis:=YL _ z5;refine aa4 (aa4 (wpAny_setField_rec z6 (by simp) λg7 z7 s7=>?_));have z7:IsZip g7 z TI TO (rawInt g5.objs.size):=z7;refine wpAny_setField_rec z7 (by simp) λg8 z8 s8=>?_;have z8:IsZip g8 z TI TO (rawInt g5.objs.size):=z8;have up:∀c o,c≠z->g5.get? c=some o->g8.get? c=some o:=λc o c1 e=>s8.extBut _ _ c1 (s7.extBut _ _ c1 (YL _ e));have t8:IsPair g8 g5.objs.size x y:=s8.extBut _ _ (ZK zlt) (s7.extBut _ _ (ZK zlt) (Y9 _ rfl));rw[hsz]at z8 t8;refine aa7 ⟨_,rfl,?_⟩;show Q (.ref g5.objs.size) _;rw[hsz];exact hQ g8 z8 (up _ _ D.TOz t5) (n1.at λo e=>up _ o D.i1z (e5 _ o D.TOi1.symm (e4 _ o D.i12 (e3 _ o D.TOi1.symm e)))) (n2.at λo e=>up _ o D.i2z (e5 _ o D.TOi2.symm e)) t8 λc o c1 c2 c3 c4 e=>up c o c1 (e5 _ _ c2 (e4 _ _ c4 (e3 _ _ c2 (e2 _ _ c3 (e1 _ _ c1 e)))))
theorem Nv {k:Bool} {z TI TO i1 i2 l1 l2:Addr} {k1 k2:Nat} {xs ys:Array Value} {a b:Value} {Q:Fin->Shared->Prop} (hh:A.handled=none) (D:ZipApart z TI TO i1 i2 l1 l2)
 (hz:IsZip s.heap z TI TO .none) (hTI:IsPair s.heap TI (.ref i1) (.ref i2)) (hTO:IsPair s.heap TO a b) (h1:jy k s.heap i1 l1 k1) (h2:jy k s.heap i2 l2 k2) (hl1:kY k s.heap l1 xs) (hl2:kY k s.heap l2 ys) (hend:xs[k1]?=none\/ys[k2]?=none)
 (hE:∀h' e,(∀c o,c≠z->c≠TO->c≠i1->c≠i2->s.heap.get? c=some o->h'.get? c=some o)->(∃o,h'.get? e=some o/\o.cls=.type "StopIteration")->E (.ref e) { s with heap:=h' }):
 wpAny (model prog w) A (Builtin.«zip.__next__» ⟨[.ref z],[]⟩) Q E s:=by
 show wpAny _ _ (field (.ref z) 2 >>= _) _ _ _;refine aa4 (wpAny_field hz rfl (x:=.bool false) rfl ?_);show wpAny _ _ (field (.ref z) 3 >>= _) _ _ _;refine aa4 (wpAny_field hz rfl (x:=.ref TI) rfl (aa4 (wpAny_seqItems hTI rfl ?_)));show wpAny _ _ (Builtin.SmallTypes.ownedTupleIsFree (.ref z) >>= _) _ _ _;unfold Builtin.SmallTypes.ownedTupleIsFree;refine aa4 (aa4 (wpAny_field hz rfl (x:=.none) rfl (aa7 ?_)));simp only[if_true];refine aa4 (wpAny_rule (aa4 (wpAny_field hz rfl (x:=.ref TO) rfl (aa4 (wpAny_setField_rec hz (by simp) λg1 z1 s1=>?_)))));have z1:IsZip g1 z TI TO .ellipsis:=z1;have e1:∀c o,c≠z->s.heap.get? c=some o->g1.get? c=some o:=λc o hc e=>s1.extBut _ _ hc e;refine aa4 ?_;simp only[aaY,List.zipIdx_nil,aa3,List.forIn_nil];refine aa4 (aa4 (wpAny_onRaise ?_));show wpAny _ _ (Builtin.SmallTypes.nextOf (.ref i1) >>= _) _ _ _;have nz:∀{g:Heap} {f0:Value} {e:Addr},IsZip g z TI TO f0->(∃o,g.get? e=some o/\o.cls=.type "StopIteration")->e≠z:=λ{g f0 e} q ⟨o,h,c⟩ x=>by subst x;rw[q]at h;cases h;simp at c
 cases hx:xs[k1]? with
 | none=>
  refine aa4 (Kc hh (h1.at λo e=>e1 _ o D.i1z e) (hl1.at λo e=>e1 _ o D.l1z e) hx λg2 e s2 he=>?_);have z2:IsZip g2 z TI TO .ellipsis:=s2 _ _ D.i1z.symm z1;have ez:=nz z2 he;obtain⟨oe,hoe,hce⟩:=he;exact wpAny_setField_rec z2 (by simp) λg3 _ s3=>hE g3 e (λc o c1 _ c3 _ x=>s3.extBut _ _ c1 (s2 _ _ c3 (e1 _ _ c1 x))) ⟨oe,s3.extBut _ _ ez hoe,hce⟩
 | some x=>
  have hy:ys[k2]?=none:=hend.resolve_left λq=>by rw[hx]at q; cases q
  refine aa4 (zP (h1.at λo e=>e1 _ o D.i1z e) (hl1.at λo e=>e1 _ o D.l1z e) hx λg2 n1 s2=>aa7 ?_);have e2:∀c o,c≠i1->g1.get? c=some o->g2.get? c=some o:=λc o hc e=>s2.extBut _ _ hc e;have t2:IsPair g2 TO a b:=e2 _ _ D.TOi1 (e1 _ _ D.TOz hTO);refine aa4 (wpAny_seqItems t2 rfl (aa4 (wpAny_updateSeq_pair t2 λg3 t3 s3=>?_)));have e3:∀c o,c≠TO->g2.get? c=some o->g3.get? c=some o:=λc o hc e=>s3.extBut _ _ hc e;refine aa4 (wpAny_letGo (aa7 ?_));refine aa4 (aa4 (wpAny_onRaise ?_));show wpAny _ _ (Builtin.SmallTypes.nextOf (.ref i2) >>= _) _ _ _;refine aa4 (Kc hh (h2.at λo e=>e3 _ o D.TOi2.symm (e2 _ o D.i12.symm (e1 _ o D.i2z e))) (hl2.at λo e=>e3 _ o D.l2TO (e2 _ o D.l2i1 (e1 _ o D.l2z e))) hy λg4 e s4 he=>?_);have z4:IsZip g4 z TI TO .ellipsis:=s4 _ _ D.i2z.symm (e3 _ _ D.TOz.symm (e2 _ _ D.i1z.symm z1));have ez:=nz z4 he;obtain⟨oe,hoe,hce⟩:=he;exact wpAny_setField_rec z4 (by simp) λg5 _ s5=>hE g5 e (λc o c1 c2 c3 c4 x=>s5.extBut _ _ c1 (s4 _ _ c4 (e3 _ _ c2 (e2 _ _ c3 (e1 _ _ c1 x))))) ⟨oe,s5.extBut _ _ ez hoe,hce⟩
end
theorem Io (l1 l2:Addr) (xs ys:Array Value):
 Meets (Builtin.«zip.__new__» ⟨[.type "zip",.ref l1,.ref l2],[]⟩) (λ_ R s=>s.heap.IsTuple l1 xs/\s.heap.IsTuple l2 ys/\∀h',IsZip h' (s.heap.objs.size+4) (s.heap.objs.size+2) (s.heap.objs.size+3) .none->IsPair h' (s.heap.objs.size+2) (.ref s.heap.objs.size) (.ref (s.heap.objs.size+1))->
  IsPair h' (s.heap.objs.size+3) .none .none->h'.IsTupleIter s.heap.objs.size l1 0->h'.IsTupleIter (s.heap.objs.size+1) l2 0->(∀c o,s.heap.get? c=some o->h'.get? c=some o)->R (.ok (.ret (.ref (s.heap.objs.size+4)))) { s with heap:=h' }):=
 .of_wp λprog w A R s h=>by
  obtain⟨hp,g,d,tk,os⟩:=s;obtain⟨hl1,hl2,h⟩:=h;have hsub:=sub_zip;have hL1:Heap.IsTuple (Shared.heap ⟨hp,g,d,tk,os⟩) l1 xs:=hl1;have hL2:Heap.IsTuple (Shared.heap ⟨hp.push { cls:=.type "tuple_iterator",data:=.fields #[.ref l1,.int 0 0] },g,d,tk,os⟩) l2 ys:=by obtain⟨o,ho,r⟩:=hl2;exact⟨o,YL _ ho,r⟩
  wp_walk using wpAny_pyIter_tuple hL1,wpAny_pyIter_tuple hL2
  refine⟨_,rfl,?_⟩;have z1:∀(q:Heap) (o:Obj),(q.push o).objs.size=q.objs.size+1:=λq o=>aaq ..;simp only[z1];have key:∀(q:Heap) (o:Obj) (n:Nat),q.objs.size=n->o.isFreed=false->(q.push o).get? n=some o:=λq o n e f=>e▸Y9 q f;refine h _ (key _ _ _ (by simp only[z1]) rfl) (YL _ (YL _ (key _ _ _ (by simp only[z1]) rfl))) (YL _ (key _ _ _ (by simp only[z1]) rfl)) ⟨_,YL _ (YL _ (YL _ (YL _ (key _ _ _ rfl rfl)))),rfl,rfl⟩
   ⟨_,YL _ (YL _ (YL _ (key _ _ _ (by simp only[z1]) rfl))),rfl,rfl⟩ λc o e=>YL _ (YL _ (YL _ (YL _ (YL _ e))))
section
variable {prog:Program}
theorem Ke {k:Bool} {l1 l2:Addr} {xs ys:Array Value} {Q:Value->Shared->Prop} (hl1:kY k s.heap l1 xs) (hl2:kY k s.heap l2 ys)
 (h:∀h',IsZip h' (s.heap.objs.size+4) (s.heap.objs.size+2) (s.heap.objs.size+3) .none->IsPair h' (s.heap.objs.size+2) (.ref s.heap.objs.size) (.ref (s.heap.objs.size+1))->
   IsPair h' (s.heap.objs.size+3) .none .none->jy k h' s.heap.objs.size l1 0->jy k h' (s.heap.objs.size+1) l2 0->
   (∀c o,s.heap.get? c=some o->h'.get? c=some o)->Q (.ref (s.heap.objs.size+4)) { s with heap:=h' }):
 wpAny (model prog w) A (call (.type "zip") [.ref l1,.ref l2]) Q E s:=by
 cases k
 . exact callType_new F.called_zip (by decide) (F.typeCall_zip_2 _ _) (F.newCall_zip_2 _ _) (λobj=>F.args_object_init_3 obj _ _) F.entry_zip_new (Io l1 l2 xs ys) ⟨hl1,hl2,λh' a1 a2 a3 a4 a5 a6=>⟨⟨_,a1,rfl⟩,h h' a1 a2 a3 a4 a5 a6⟩⟩
 . exact call_zip_2 hl1 hl2 λh' a1 a2 a3 a4 a5 _ a6=>h h' a1 a2 a3 a4 a5 a6
end
section
variable {X:Cx} {acR:List (Addr×Obj)} {O:St} {H:Hp} {s:Shared}
theorem Inv.sqK {k:Bool} {a:Addr} {xs:List V} (I:Inv X acR O H s) (h:oG k X.K H a xs):∃its:List Value,Vals xs its/\kY k s.heap a its.toArray:=by
 cases k
 . obtain⟨its,r,p,_⟩:=I.tuple h;exact⟨its,r,p⟩
 . obtain⟨its,r,p,_⟩:=I.list h;exact⟨its,r,p.isList⟩
theorem Inv.sqK_inj {k:Bool} {a:Addr} {xs ys:List V} (I:Inv X acR O H s) (h:oG k X.K H a xs) (h':oG k X.K H a ys):xs=ys:=by
 cases k
 . exact I.tuple_inj h h'
 . exact I.list_inj h h'
end
def Nx (k:Bool) (K:FG) (a b:Addr):It:=
 ⟨λi H=>∃xs ys x y,oG k K H a xs/\oG k K H b ys/\xs[i]?=some x/\ys[i]?=some y,
  λi H x H'=>∃T y z,H T=none/\x=.ref T/\H'=upd H T (.tup [y,z])/\(∀xs,oG k K H a xs->xs[i]?=some y)/\∀ys,oG k K H b ys->ys[i]?=some z,
  λi H=>∃xs ys,oG k K H a xs/\oG k K H b ys/\(xs.length<=i\/ys.length<=i)⟩
theorem Bh {k:Bool} {h:Heap} {z TI TO i1 i2 a b:Addr} {u v:Value} {n m:Nat} {xs ys:Array Value} (D:UJ z TI TO i1 i2) (hz:IsZip h z TI TO .none) (aTO:a≠TO) (bTO:b≠TO) (h1:jy k h i1 a n) (h2:jy k h i2 b m) (ha:kY k h a xs) (hb:kY k h b ys):ZipApart z TI TO i1 i2 a b:=by
 obtain⟨o1,q1,_,c1,c1',_⟩:=h1.obj;obtain⟨o2,q2,_,c2,c2',_⟩:=h2.obj;have ne:∀{l c:Addr} {its:Array Value} {o:Obj},kY k h l its->h.get? c=some o->o.cls≠.type "tuple" -> o.cls≠.type "list" -> l≠c:=λ{l c its o} q e n1 n2 z=>by
  subst z;obtain⟨o',e',hc⟩:=q.obj;rw[e]at e';cases e';rcases hc with hc | hc
  . exact n2 hc
  . exact n1 hc
 exact⟨D.TIz,D.TOz,D.i1z,D.i2z,D.TITO,D.TIi1,D.TIi2,D.TOi1,D.TOi2,D.i12,ne ha hz (by simp) (by simp),aTO,ne ha q1 c1 c1',ne ha q2 c2 c2',ne hb hz (by simp) (by simp),bTO,ne hb q1 c1 c1',ne hb q2 c2 c2'⟩
theorem Kf {K:FG} {elts:List Expr} {x1} {pos:Pos} (k:Bool) (a b z TI TO i1 i2:Addr) (D:UJ z TI TO i1 i2) (aTO:a≠TO) (bTO:b≠TO):Turn P w K (.Tuple elts x1 pos) (Nx k K a b) [z,TI,TO,i1,i2] z
 (λi h=>IsZip h z TI TO .none/\IsPair h TI (.ref i1) (.ref i2)/\(∃u v,IsPair h TO u v)/\jy k h i1 a i/\jy k h i2 b i) where
 mem:=by simp
 obj:=λi h st c hc=>by
  obtain⟨hz,hTI,⟨u,v,hTO⟩,h1,h2⟩:=st;simp only[YM,ZC,or_false]at hc;rcases hc with rfl | rfl | rfl | rfl | rfl
  . exact⟨_,hz,λv z=>by have z':Data.fields _=Data.cell v:=z;cases z'⟩
  . exact⟨_,hTI,λv z=>by have z':Data.seq _ _=Data.cell v:=z;cases z'⟩
  . exact⟨_,hTO,λv z=>by have z':Data.seq _ _=Data.cell v:=z;cases z'⟩
  . obtain⟨o,ho,_,_,_,d⟩:=h1.obj;exact⟨o,ho,d⟩
  . obtain⟨o,ho,_,_,_,d⟩:=h2.obj;exact⟨o,ho,d⟩
 keep:=λi h h' st k=>by obtain⟨hz,hTI,⟨u,v,hTO⟩,h1,h2⟩:=st;exact⟨k z (by simp) _ hz,k TI (by simp) _ hTI,⟨u,v,k TO (by simp) _ hTO⟩,h1.at λo q=>k i1 (by simp) o q,h2.at λo q=>k i2 (by simp) o q⟩
 item:=by
  intro X hP hw hK hc i acR s O H E I hf st hg;subst hP hw hK;obtain⟨hz,hTI,⟨u0,v0,hTO⟩,h1,h2⟩:=st;obtain⟨xs,ys,x,y,hq,hr,hx,hy⟩:=hg;obtain⟨its,rv,p⟩:=I.sqK hq;obtain⟨jts,rw',p'⟩:=I.sqK hr;obtain⟨u,hu,ru⟩:=rv.get hx;obtain⟨u',hu',ru'⟩:=rw'.get hy;have DD:=Bh (u:=u0) (v:=v0) D hz aTO bTO h1 h2 p p';have zlt:∀c∈[z,TI,TO,i1,i2],s.heap.objs.size≠c:=λc hc=>by
   simp only[YM,ZC,or_false]at hc;rcases hc with rfl | rfl | rfl | rfl | rfl
   . exact ZK (YZ hz)
   . exact ZK (YZ hTI)
   . exact ZK (YZ hTO)
   . obtain⟨_,q,_⟩:=h1.obj; exact ZK (YZ q)
   . obtain⟨_,q,_⟩:=h2.obj; exact ZK (YZ q)
  have hTn:H s.heap.objs.size=none:=I.hok.fresh (YW _);have hT:s.TypeIs (.ref z) "zip" := ⟨_,hz,rfl⟩;unfold pyNext;refine aa4 (wpAny_attempt (wpAny_callSpecial?_slot (name:=Str.ofString "__next__") hT aaN (wpAny_call_entry aaN hT F.entry_zip_next (Kd DD hz hTI hTO h1 h2 p p' (x:=u) (y:=u') (by simpa using hu) (by simpa using hu') λg1 a1 a2 a3 a4 a5 a7=>aa7 ?_) (F.args_zip_next_1 _))));refine⟨_,rfl,wpAny_letOwnedTupleGo_zip a1 λg2 b1 b2=>?_⟩;have I1:Inv X acR O (upd H s.heap.objs.size (.tup [x,y])) { s with heap:=s.heap.push { cls:=.type "tuple",data:=.seq #[u,u'] },toks:=s.toks }:=by refine I.laid (λb o q=>YL _ q) (YW _) ⟨by simp only[YX,aaB]; rw[sizeLine_eq]; decide,[u,u'],.cons ru (.cons ru' .nil),?_⟩;exact⟨_,Y9 s.heap rfl,rfl,0,rfl⟩
  have up:∀b,b≠s.heap.objs.size->H b=none->upd H s.heap.objs.size (.tup [x,y]) b=none:=λb hb q=>by rw[bF hb]; exact q
  have hb2:∀c o,c≠z->g1.get? c=some o->g2.get? c=some o:=λc o hc q=>(b2.2 c hc).trans q;have I2:Inv X acR O (upd H s.heap.objs.size (.tup [x,y])) { s with heap:=g2,toks:=s.toks }:=by
   refine Inv.turnedL (s:={ s with heap:=s.heap.push { cls:=.type "tuple",data:=.seq #[u,u'] },toks:=s.toks }) (h':=g2) (t':=s.toks) I1 (fp:=[z,TI,TO,i1,i2]) (λc o hc q=>?_) (λc hc=>⟨up c (zlt c hc).symm (hf c hc).1,(hf c hc).2⟩);simp only[YM,ZC,or_false,not_or]at hc;refine hb2 c o hc.1 ?_;by_cases hbT:c=s.heap.objs.size
   . subst hbT;have q':(s.heap.push { cls:=.type "tuple",data:=.seq #[u,u'] }).get? s.heap.objs.size=some o:=q;rw[Y9 s.heap rfl]at q';cases q';exact a5
   . refine a7 c o hc.1 hc.2.2.1 hc.2.2.2.1 hc.2.2.2.2 ?_;have q':(s.heap.push { cls:=.type "tuple",data:=.seq #[u,u'] }).get? c=some o:=q;rw[Heap.get?_push_ne s.heap c _ hbT]at q';exact q'
  refine⟨.ref s.heap.objs.size,_,I2,rfl,⟨s.heap.objs.size,x,y,hTn,rfl,rfl,λys hy=>by rw[I.sqK_inj hy hq]; exact hx,λys hy'=>by rw[I.sqK_inj hy' hr]; exact hy⟩,⟨b1,hb2 _ _ D.TIz (a7 _ _ D.TIz D.TITO D.TIi1 D.TIi2 hTI),⟨_,_,hb2 _ _ D.TOz a2⟩,a3.at λo q=>hb2 _ o D.i1z q,a4.at λo q=>hb2 _ o D.i2z q⟩,λc hc=>up _ (zlt c hc).symm (hf c hc).1⟩
 done:=by
  intro X hP hw hK hc i acR s O H E I hf st hg;subst hP hw hK;obtain⟨hz,hTI,⟨u0,v0,hTO⟩,h1,h2⟩:=st;obtain⟨xs,ys,hq,hr,hx⟩:=hg;obtain⟨its,rv,p⟩:=I.sqK hq;obtain⟨jts,rw',p'⟩:=I.sqK hr;have DD:=Bh (u:=u0) (v:=v0) D hz aTO bTO h1 h2 p p';have e1:=rv.length;have e2:=rw'.length;have hT:s.TypeIs (.ref z) "zip" := ⟨_,hz,rfl⟩;have hend:its.toArray[i]?=none\/jts.toArray[i]?=none:=by
   rcases hx with hx | hx
   . exact .inl (aaH (by simp; omega))
   . exact .inr (aaH (by simp; omega))
  unfold pyNext;refine aa4 (wpAny_attempt (wpAny_callSpecial?_slot (name:=Str.ofString "__next__") hT aaN (wpAny_call_entry aaN hT F.entry_zip_next (Nv (I.ok.hd hc) DD hz hTI hTO h1 h2 p p' hend λg e k he=>?_) (F.args_zip_next_1 _))));obtain⟨o,ho,hce⟩:=he;refine aa4 (wpAny_isInstance (T := "StopIteration") (b:=true) ⟨o,ho,hce⟩ isSubtype_stop (aa7 ⟨rfl,?_⟩));refine I.turnedL (h':=g) (t':=s.toks) (fp:=[z,TI,TO,i1,i2]) (λc o hc q=>?_) hf;simp only[YM,ZC,or_false,not_or]at hc;exact k c o hc.1 hc.2.2.1 hc.2.2.2.1 hc.2.2.2.2 q
 self:=λ_ _ _ _ _ st h=>wpAny_pyIter_zip st.1 h
section
variable {X:Cx}
def W3 (K:FG) (ta:TA):TI:=λO H R=>ta O H λvs H1=>∃k a b,vs=[.ref a,.ref b]/\(∃xs,oG k K H1 a xs)/\(∃ys,oG k K H1 b ys)/\R (Nx k K a b) H1
theorem RC {a b:Expr} {ta:TA} {p pos:Pos} {elts:List Expr} {x1} {tpos:Pos} (hg:Gl X "zip") (hm:X.mg "zip" = none) (ha:PA X [a,b] ta) (hs:starEach [a,b] X.env=(false,eval a X.env)::starEach [b] X.env:=by rfl) (hs2:(backTo pos (starEach [b] X.env)).any (·.1)=false:=by rfl):PI X (.Tuple elts x1 tpos) (.Call (.Name "zip" p) [a,b] [] pos) (W3 X.K ta):=by
 intro acR s O H R I h;refine Call_ (qJ (u:=.type "zip") I hg hm (by kernel_rfl) (PyProof.Rows.callWith_type1 (bT (ha pos acR s O H _ I h) λus s1 ⟨vs,H1,I1,r1,q1⟩=>?_) hs hs2));obtain⟨kk,l1,l2,e,⟨xs,hq⟩,⟨ys,hr⟩,q⟩:=q1;subst e;cases r1 with
 | cons r rr=>
  cases rr with
  | cons r' rr=>
   cases rr;cases r;cases r';obtain⟨its,rv,pl⟩:=I1.sqK hq;obtain⟨jts,rv',pl'⟩:=I1.sqK hr;have lt:∀{l:Addr} {its:Array Value},kY kk s1.heap l its->l<s1.heap.objs.size:=λq=>let ⟨_,e,_⟩:=q.obj; YZ e;have lt1:=lt pl;have lt2:=lt pl';refine Ke pl pl' λh' b1 b2 b3 b4 b5 b7=>?_;have I2:Inv X acR O H1 { s1 with heap:=h' }:=I1.kept (t':=s1.toks) b7;refine wpAny_pyIter_zip b1 ?_;have this:∀n:Nat,n+2≠n+4/\n+3≠n+4/\n≠n+4/\n+1≠n+4/\n+2≠n+3/\n+2≠n/\n+2≠n+1/\n+3≠n/\n+3≠n+1/\n≠n+1:=λn=>by omega
   obtain⟨t1,t2,t3,t4,t5,t6,t7,t8,t9,t10⟩:=this s1.heap.objs.size;refine⟨s1.heap.objs.size+4,[s1.heap.objs.size+4,s1.heap.objs.size+2,s1.heap.objs.size+3,s1.heap.objs.size,s1.heap.objs.size+1],_,_,H1,rfl,I2,Kf kk l1 l2 (s1.heap.objs.size+4) (s1.heap.objs.size+2) (s1.heap.objs.size+3) s1.heap.objs.size (s1.heap.objs.size+1) ⟨t1,t2,t3,t4,t5,t6,t7,t8,t9,t10⟩ (Zi (Y7 lt1 (aaK _ _))) (Zi (Y7 lt2 (aaK _ _))),⟨b1,b2,⟨_,_,b3⟩,b4,b5⟩,λc hc=>?_,q⟩;have hc':s1.heap.objs.size<=c:=by
    simp only[YM,ZC,or_false]at hc;rcases hc with rfl | rfl | rfl | rfl | rfl
    all_goals (first | exact YW _ | exact aaK _ _)
   exact I1.fpOk hc' (I1.hok.fresh hc')
end
abbrev dg:=Option Key
def rH:dg->V
 | none=>.non
 | some k=>kV k
def Ny:dg->Value->Bool
 | none,v=>v==.none
 | some k,v=>rD k v
def Yy (w:World):dg->Int
 | none=>0xFCA86420
 | some k=>Tn w k
theorem gZ:∀{k:dg} {v:Value},Ny k v=true->(k=none/\v=.none)\/∃x,k=some x/\rD x v=true
 | none,v,h=>.inl ⟨rfl,by
  cases v<;>first | rfl | (exfalso; revert h; unfold Ny; simp)⟩
 | some x,v,h=>.inr ⟨x,rfl,h⟩
section
variable {prog:Program}
theorem Kg {Q:Int->Shared->Prop} (h:Q 0xFCA86420 { s with toks:=s.toks+1 }):wpAny (model prog w) A (pyHash .none) Q E s:=by have hT:s.TypeIs .none "NoneType" := rfl;unfold pyHash;refine aa4 ?_;rw[cRoomFor,aa6 (by simp[Value.onHeap])];refine aa7 (aa4 (wpAny_specialOf hT F.slot_NoneType_hash.lookup ?_));dsimp only;rw[aa6 (by rw[beq_builtin_none]; exact Zm)];refine aa4 (wpAny_specialOf hT F.slot_NoneType_hash.lookup (aa4 (wpAny_callSpecialIfBoundUnlessNone?_slot hT F.slot_NoneType_hash (wpAny_call_entry F.slot_NoneType_hash hT F.entry_NoneType_hash ?_ (F.args_NoneType_hash_1 _)))));refine aa4 (aa7 ?_);refine wpAny_ret_mkInt ?_;exact aa7 h
end
def qG (prog:Program) (w:World):PySem.KeyKind prog w dg where
 is:=Ny
 hash:=Yy w
 inj:=λv a b ha hb=>by
  rcases gZ ha with ⟨rfl,rfl⟩ | ⟨x,rfl,hx⟩
  . rcases gZ hb with ⟨rfl,_⟩ | ⟨y,rfl,hy⟩
    . rfl
    . rcases dB hy with ⟨i,t,_,e⟩ | ⟨i,t,_,e⟩<;>cases e
  . rcases gZ hb with ⟨rfl,e⟩ | ⟨y,rfl,hy⟩
    . subst e;rcases dB hx with ⟨i,t,_,e⟩ | ⟨i,t,_,e⟩<;>cases e
    . exact congrArg some ((dj prog w).inj v x y hx hy)
 byValue:=λk v h=>by
  rcases gZ h with ⟨rfl,rfl⟩ | ⟨x,rfl,hx⟩
  . rfl
  . exact(dj prog w).byValue x v hx
 pyHash:=λhv h=>by
  rcases gZ hv with ⟨rfl,rfl⟩ | ⟨x,rfl,hx⟩
  . exact Kg h
  . exact(dj prog w).pyHash hx h
 eqBool:=λhu hv h=>by
  rcases gZ hu with ⟨rfl,rfl⟩ | ⟨x,rfl,hx⟩
  . rcases gZ hv with ⟨rfl,rfl⟩ | ⟨y,rfl,hy⟩
    . exact SeqAt.EqAt.same _ _ _ _ _ h
    . rcases dB hy with ⟨i,t,rfl,rfl⟩ | ⟨i,t,rfl,rfl⟩
      . exact SeqAt.EqAt.none_int i t _ _ _ _ h
      . exact SeqAt.EqAt.none_str i t _ _ _ _ h
  . rcases gZ hv with ⟨rfl,rfl⟩ | ⟨y,rfl,hy⟩
    . rcases dB hx with ⟨i,t,rfl,rfl⟩ | ⟨i,t,rfl,rfl⟩
      . exact SeqAt.EqAt.int_none i t _ _ _ _ h
      . exact SeqAt.EqAt.str_none i t _ _ _ _ h
    . refine(dj prog w).eqBool hx hy ?_;have e:decide ((some x:dg)=some y)=decide (x=y):=by simp
      rw[e]at h;exact h
 «strs»:=λk x t v h=>by
  rcases gZ h with ⟨rfl,e⟩ | ⟨y,rfl,hy⟩
  . cases e
  . exact(dj prog w).strs y x t v hy
theorem UV:∀{k:dg} {u:Value},RelV (rH k) u->(qG P w).is k u=true
 | none,u,r=>by have e:u=.none:=r;subst e;rfl
 | some k,u,r=>Cz (P:=P) (w:=w) r
theorem GC:∀{ks:List dg} {us:List Value},Vals (ks.map rH) us->ItemsAre (qG P w) ks us
 | [],us,h=>by have e:=h.zero;subst e;exact .nil
 | k::ks,us,h=>by
  cases h with
  | cons r t=>exact .cons (UV r) (GC t)
def yD (P:Program) (w:World):List dg->Int:=(tupleKind (qG P w)).hash
abbrev XD:=List (List dg×Addr×V)
abbrev XV:=List (List dg×Addr×Value)
def XR:XD->XV->Prop:=Paired λx y=>x.1=y.1/\x.2.1=y.2.1/\RelV x.2.2 y.2.2
def sW (hk:List dg->Int) (a:Addr) (xs:XD):Heap->Prop:=λh=>xs.length<=sizeLine/\(a==sysModules)=false/\∃ys:XV,XR xs ys/\(ys.map (·.1)).Nodup/\
 ∃o es ep,h.get? a=some o/\o.ExactDict/\o.data=.dict es ep/\es.toList=ys.map λy=>⟨hk y.1,.ref y.2.1,y.2.2⟩
def dX (P:Program) (w:World) (a:Addr) (xs:XD):HO:=.ext (sW (yD P w) a xs)
theorem UW {H:Hp} {h:Heap} {hk:List dg->Int} {a:Addr} {xs:XD} (p:sW hk a xs h):dY P w H h a (.ext (sW hk a xs)):=by have q:=p;obtain⟨_,_,ys,_,_,o,es,ep,e,_⟩:=q;refine⟨p,⟨o,e⟩,λh1 h2 ⟨z,m,ys,r,n,o,es,ep,e,g⟩ k=>⟨z,m,ys,r,n,o,es,ep,k _ e,g⟩⟩
def jN (xs:XD) (k:List dg):Option V:=(xs.find? λx=>decide (x.1=k)).map (·.2.2)
theorem XR.at {k:List dg}:∀{xs:XD} {ys:XV},XR xs ys->(∀v,jN xs k=some v->∃p,atKey ys k=some p/\RelV v p.2)/\(jN xs k=none->atKey ys k=none)
 | _,_,.nil=>⟨λv h=>(by cases h),λ_=>rfl⟩
 | x::xs,y::ys,.cons ⟨h1,h2,h3⟩ t=>by
  have ih:=XR.at (k:=k) t;unfold jN atKey at ih ⊢;by_cases e:x.1=k
  . have e':y.1=k:=h1▸e;rw[aaI (by simpa using e),aaI (by simpa using e')];exact⟨λv h=>by cases h; exact⟨_,rfl,h3⟩,λh=>by cases h⟩
  . have e':¬ y.1=k:=h1▸e;rw[aaJ (by simpa using e),aaJ (by simpa using e')];exact ih
theorem XR.snoc {x:List dg×Addr×V} {y:List dg×Addr×Value} (h:x.1=y.1/\x.2.1=y.2.1/\RelV x.2.2 y.2.2):∀{xs:XD} {ys:XV},XR xs ys->XR (xs++[x]) (ys++[y])
 | _,_,.nil=>.cons h .nil
 | _,_,.cons a t=>.cons a (XR.snoc h t)
theorem XR.mem:∀{xs:XD} {ys:XV},XR xs ys->∀y∈ys,∃x∈xs,x.1=y.1/\x.2.1=y.2.1
 | _,_,.nil,y,h=>by cases h
 | x::xs,z::ys,.cons ⟨h1,h2,_⟩ t,y,h=>by
  rcases YM.mp h with rfl | h
  . exact⟨x,YK,h1,h2⟩
  . obtain⟨x',m,e⟩:=XR.mem t y h;exact⟨x',Y6 _ m,e⟩
section
variable {prog:Program} {w:World} {A:Around} {E:Value->Shared->Prop} {s:Shared} {K:Type} [DecidableEq K] {knd:HeapKind prog w K}
theorem Gg {d a:Addr} {xs:List (K×Addr×Value)} {k:K} {v:Value} {Q:Value->Shared->Prop} (hu:knd.room A) (hkey:knd.is s.heap k a) (hm:s.heap.DictOfH knd d xs)
 (q1:∀p,atKey xs k=some p->Q p.2 { s with toks:=s.toks+knd.draws k })
 (q2:atKey xs k=none->∀h',h'.DictOfH knd d (xs++[(k,a,v)])->Heap.SameBut d s.heap h'->Q v { s with heap:=h',toks:=s.toks+knd.draws k })
 (hsz:xs.length<=sizeLine):wpAny (model prog w) A (dictSetDefault d (.ref a) v) Q E s:=by
 obtain⟨o,es,ep,ho,hc,hd,he,his,hn⟩:=hm;have hsz':=size_of_entries he;unfold dictSetDefault;refine wpAny_holding ?_;refine aa4 (knd.pyHash hu hkey (aa4 (wpAny_dictFind_heap (s:={ s with toks:=s.toks+knd.draws k }) hu hkey ho hd he his hn (λhno=>?_) λj p hj=>?_)))
 . have hq:=atKey_none_of_get hno;refine aa4 (wpAny_rule (aa4 (wpAny_updateDictKeys (hz:=by omega) (s:={ s with toks:=s.toks+knd.draws k }) ho hd (aa7 (q2 hq _ ?_ (aaw ..))))));refine⟨_,_,ep+1,ZW _ ho (Obj.isFreed_of_dict (Obj.data_mapDictKeys hd _)),hc.mapDictKeys _,Obj.data_mapDictKeys hd _,by simp[he,entryOfKey],λx hx=>?_,?_⟩
   . rcases ZF.mp hx with hx | hx
     . exact knd.keeps (his x hx) ho hd (aaw ..)
     . rw[Zw.mp hx];exact knd.keeps hkey ho hd (aaw ..)
   . rw[Zo];refine aaF.mpr ⟨hn,ZP.mpr ⟨ZC,aaD⟩,λx hx y hy e=>not_mem_keys_of_get hno ?_⟩;rw[Za,aaC,Zw]at hy;have q:x=k:=e.trans hy;rw[<-q];exact hx
 . refine aa4 (wpAny_dictEntries (s:={ s with toks:=s.toks+knd.draws k }) ho hd ?_);rw[entry_at he j,hj];exact aa4 (wpAny_rule (aa7 (q1 p (atKey_of_get hn hj))))
end
section
variable {X:Cx}
theorem zQ {O:St} {H:Hp} {b:Addr} {k:List dg} (I:Inv X acR O H s) (e:bV X.K H b (k.map rH)):(tupleKind (qG P w)).is s.heap k b:=by obtain⟨its,r,⟨o,h1,h2,n,h3⟩,_⟩:=I.tuple e;exact⟨o,its.toArray,n,h1,h2,h3,by simpa using GC r⟩
theorem Inv.dx {O:St} {H:Hp} {a:Addr} {xs:XD} (I:Inv X acR O H s) (e:H a=some (dX X.prog X.w a xs)) (hk:∀x∈xs,bV X.K H x.2.1 (x.1.map rH)):
 xs.length<=sizeLine/\(a==sysModules)=false/\∃ys:XV,XR xs ys/\s.heap.DictOfH (tupleKind (qG X.prog X.w)) a ys:=by
 obtain⟨⟨z,m,ys,r,n,o,es,ep,h1,h2,h3,h4⟩,_⟩:=I.hok a _ e;refine⟨z,m,ys,r,o,es,ep,h1,h2,h3,h4,λy hy=>?_,n⟩;obtain⟨x,hx,e1,e2⟩:=r.mem y hy;rw[<-e1,<-e2];exact zQ I (hk x hx)
theorem XR.len:∀{xs:XD} {ys:XV},XR xs ys->ys.length=xs.length
 | _,_,.nil=>rfl
 | _,_,.cons _ t=>by rw[YX,YX,XR.len t]
def Kh (P:Program) (w:World) (K:FG):V->List V->Hp->VK->Prop:=λx vs H Q=>∃a b xs k v,x=.ref a/\vs=[.ref b,v]/\H a=some (dX P w a xs)/\(∀x∈xs,bV K H x.2.1 (x.1.map rH))/\bV K H b (k.map rH)/\xs.length<sizeLine/\
 match jN xs k with
 | some u=>Q u H
 | none=>Q v (upd H a (dX P w a (xs++[(k,b,v)])))
theorem Kl (hu:X.A.units+1<cLine):JZ X "dict.setdefault" (Kh X.prog X.w X.K):=by
 intro acR s O H x vs v us Q I rx rv h;obtain⟨a,b,xs,k,y,rfl,rfl,hH,hks,hb,hl,q⟩:=h;cases rx;obtain⟨u,r,rfl,rb,ry⟩:=rv.two;cases (show u=Value.ref b from rb);obtain⟨z,m,ys,xr,dd⟩:=I.dx hH hks;have hl':=xr.len;refine call_meetsIn F.slot_dict_setdefault dd.typeIs F.entry_dict_setdefault (F.args_dict_setdefault_3 _ _ _) (S:=λA R s'=>A=X.A/\R=wants (EP X acR O Q) X.xe/\s'=s) (.of_wp λA R s' ⟨e1,e2,e3⟩=>?_) ⟨rfl,rfl,rfl⟩;subst e1 e2 e3;unfold Builtin.«dict.setdefault»;refine aa4 ?_;unfold Builtin.Dict.keyAndDefault;refine aa4 (wpAny_notOrdered_dict dd.typeIs ?_);refine(show wpAny _ _ (pure (a,Value.ref b,some r)) _ _ _ from aa7 ?_);dsimp only;rw[aa6 (by rw[m]; exact Zm)];refine aa4 (Gg (tupleKind_room_in1 hu) (zQ I hb) dd (λp hp=>aa7 ⟨p.2,rfl,?_⟩) (λhn h' dd' hs=>aa7 ⟨r,rfl,?_⟩) (by omega))
 . cases e:jN xs k with
   | none=>rw[(xr.at).2 e]at hp; cases hp
   | some w'=>
    rw[e]at q;obtain⟨p',hp',rp⟩:=(xr.at).1 w' e;rw[hp]at hp';cases hp';exact⟨_,_,I.tok _,rp,q⟩
 . cases e:jN xs k with
   | some w'=>
    obtain⟨p',hp',_⟩:=(xr.at).1 w' e;rw[hn]at hp';cases hp'
   | none=>
    rw[e]at q;obtain⟨o,es,ep,h1,h2,h3,h4,h5,h6⟩:=dd';refine⟨_,_,v9 I (by rw[hH]; exact True.intro) hs ⟨o,h1⟩ (UW ⟨?_,m,ys++[(k,b,r)],xr.snoc ⟨rfl,rfl,ry⟩,h6,o,es,ep,h1,h2,h3,h4⟩),ry,q⟩;rw[Y5];exact hl
def Qt (P:Program) (w:World) (K:FG):V->List V->Hp->VK->Prop:=λx vs H Q=>∃a b xs k v,x=.ref a/\vs=[.ref b,v]/\H a=some (dX P w a xs)/\(∀x∈xs,bV K H x.2.1 (x.1.map rH))/\bV K H b (k.map rH)/\Q ((jN xs k).getD v) H
theorem GD (hu:X.A.units+1<cLine):JZ X "dict.get" (Qt X.prog X.w X.K):=by
 intro acR s O H x vs v us Q I rx rv h;obtain⟨a,b,xs,k,y,rfl,rfl,hH,hks,hb,q⟩:=h;cases rx;obtain⟨u,r,rfl,rb,ry⟩:=rv.two;cases (show u=Value.ref b from rb);obtain⟨z,m,ys,xr,dd⟩:=I.dx hH hks;refine call_meetsIn F.slot_dict_get dd.typeIs F.entry_dict_get (F.args_dict_get_3 _ _ _) (meetsH_dict_get_default (tupleKind (qG X.prog X.w)) a b m r) ⟨tupleKind_room_in1 hu,k,ys,zQ I hb,dd,?_⟩;refine⟨_,_,I.tok _,?_,q⟩;cases e:jN xs k with
 | none=>
  rw[(xr.at).2 e];exact ry
 | some w'=>
  obtain⟨p',hp',rp⟩:=(xr.at).1 w' e;rw[hp'];exact rp
theorem Dy {o e1 e2:Expr} {to:TE} {t:TA} {apos cpos:Pos} {name:Str} {id:String} {r:V->List V->Hp->VK->Prop} (slot:Slot "dict" name id) (hty:typeOf (.builtin id)=pure (.type "method_descriptor")) (hm:JZ X id r) (ho:PE X o to) (ha:PA X [e1,e2] t)
 (hbase:attributeBase o name X.env (eval o X.env)=eval o X.env:=by rfl)
 (hfew:((backTo cpos (starEach [e1,e2] X.env)).all (λx=>!x.1)&&(backToKw cpos (keywordEach [] X.env)).all (λx=>x.1.isSome)
   && decide ([e1,e2].length+([]:List Keyword).length+(if ([]:List Keyword).isEmpty then 0 else 1)<30))=true:=by rfl)
 (hline:(apos.endLine==cpos.line)=true:=by rfl) (hs:starEach [e1,e2] X.env=(false,eval e1 X.env)::starEach [e2] X.env:=by rfl) (hplain:(backTo cpos (starEach [e2] X.env)).any (·.1)=false:=by rfl):
 PE X (.Call (.Attribute o name apos) [e1,e2] [] cpos) (λO H Q=>to O H λx H1=>(∃a hk xs,x=.ref a/\H1 a=some (.ext (sW hk a xs)))/\t O H1 λvs H2=>r x vs H2 Q):=by
 intro acR s O H Q I h;refine wpAny_Call_method_late hbase hfew hline rfl (bT (ho acR s O H _ I h) λv s1 ⟨x,H1,I1,r1,⟨a,hk,xs,ea,hH⟩,q1⟩=>?_);subst ea;cases r1;obtain⟨⟨_,_,ys,_,_,o,es,ep,h1,h2,_⟩,_⟩:=I1.hok a _ hH;refine⟨"dict",id,F.plainAttrs_dict,slot,hty,⟨o,h1,h2.1⟩,λb e=>(by cases e; exact⟨o,h1,h2.2.1⟩),?_⟩;have hA:=ha cpos acR s1 O H1 _ I1 q1;rw[hs]at hA ⊢;refine Calls.callWith_builtin (by show (false||(backTo cpos (starEach [e2] X.env)).any (·.1))=false; rw[hplain]<;>rfl) (Calls.evalArgs_plain ?_);exact bT hA λus s2 ⟨vs,H2,I2,r2,q2⟩=>hm acR s2 O H2 (.ref a) vs (.ref a) us Q I2 rfl r2 q2
theorem Nz {pos:Pos}:PE X (.Dict [] [] pos) (λ_ H Q=>∀p,H p=none->Q (.ref p) (upd H p (dX X.prog X.w p []))):=λacR s O H Q I h=>
 wpAny_Dict_empty ⟨.ref s.heap.objs.size,_,I.laid (a:=s.heap.objs.size) (t':=s.toks) (λ_ _ q=>YL _ q) (YW _) (UW (hk:=yD X.prog X.w) (xs:=[]) ⟨Z8 _,aba.mpr (Ne.symm (Zi I.big)),[],.nil,aaD,_,#[],0,Y9 _ rfl,⟨rfl,rfl,rfl⟩,rfl,rfl⟩),rfl,h _ (I.hok.fresh (YW _))⟩
end
def sE (a c:Addr):Heap->Prop:=λh=>∃o,W.InstAt h a o c none
def wY (G:Addr->Prop) (e:Addr) (cls:Value) (h:Heap):Prop:=
 ∃oe vs,h.get? e=some oe/\(oe.cls=cls/\oe.dict=none)/\oe.data=.fields vs/\¬ G e/\
  (vs[1]?=some .none\/∃T oT ts,vs[1]?=some (.ref T)/\¬ G T/\T≠e/\h.get? T=some oT/\oT.data=.fields ts/\ts[3]?=some .none)
def Left (G:Addr->Prop) (fs:List Addr) (h h':Heap):Prop:=
 h.objs.size<=h'.objs.size/\(∀b o,G b->h.get? b=some o->(b∉fs->h'.get? b=some o)/\∃sl,h'.get? b=some { o with slots:=sl })/\
  ∀b o,h.get? b=some o->(∀vs,o.data≠.fields vs)->∃o',h'.get? b=some o'/\o'.data=o.data
section
variable {M:Model} {A:Around} {E:Value->Shared->Prop} {s:Shared} {base:Heap} {env:Env} {outer:List Env} {L e:Addr} {G:Addr->Prop} {Q:Unit->Shared->Prop}
theorem zR (o:Obj) (f):(o.mapFields f).dict=o.dict:=by unfold Obj.mapFields;split<;>rfl
theorem Bj {oe:Obj} {vs:Array Value} {head:Value} {hn:Bool} (hfr:A.frames=some (env::outer)) (hl:s.heap.FunFrames base (env::outer)) (hf:env.frame=some L)
 (he:s.heap.get? e=some oe) (hdi:oe.dict=none) (hd:oe.data=.fields vs) (hz:1<vs.size) (hne:¬ G e) (hG:∀b,G b->b<s.heap.objs.size)
 (h:∀h',Left G ((env::outer).filterMap (·.frame)) s.heap h'->wY G e oe.cls h'->Q () { s with heap:=h' }):
 wpAny M A (do let a <-frameOf env; let pl <-entryPlaceOf L hn; let b <-EntryCells.newEntry head a .none (rawInt L) .none pl; setField (.ref e) 1 b) (λ_ s'=>wpAny M A (setFlight (.ref e) none) Q E s') E s:=by
 have hm:e∉(env::outer).filterMap (·.frame):=λhm=>by obtain⟨_,o,ho,hnf⟩:=hl.mem hm;rw[he]at ho;cases ho;exact hnf vs hd
 refine aa4 (wpAny_frameOf_fun hfr hl hf λg k=>aa4 (wpAny_entryPlaceOf λpl hp=>?_));unfold EntryCells.newEntry newFields;refine aa4 (wpAny_newObj_type ?_ (hp.sizeOk5 _ _ _ _ _));have e1:g.get? e=some oe:=(k.2.1 e hm).trans he;generalize hob:({ cls:=.type "traceback",dict:=none,data:=.fields ([head,.ref L,.none,rawInt L,.none]++(if pl.isEmpty then List.replicate 6 Value.none else pl)).toArray }:Obj)=ob;have hdb:ob.data=.fields ([head,.ref L,.none,rawInt L,.none]++(if pl.isEmpty then List.replicate 6 Value.none else pl)).toArray:=by rw[<-hob]
 have e2:=YL (h:=g) ob e1;refine wpAny_setField e2 hd hz ?_;have hT:g.objs.size≠e:=ZK (YZ e1);have hd3:=Obj.data_mapFields hd (·.setIfInBounds 1 (Value.ref g.objs.size));have e3:=ZW (Obj.mapFields (·.setIfInBounds 1 (Value.ref g.objs.size))) e2 (Obj.isFreed_of_fields hd3);have t3:=(Zy (g.push ob) (Obj.mapFields (·.setIfInBounds 1 (Value.ref g.objs.size))) (Ne.symm hT)).trans (Y9 g (by rw[<-hob]; rfl));unfold setFlight;refine aa4 (wpAny_field e3 hd3 (x:=.ref g.objs.size) (by simp[hz]) ?_);rw[aa5 (show (Value.ref g.objs.size != Value.none)=true from by simp)];have hsz:3<([head,.ref L,.none,rawInt L,.none]++(if pl.isEmpty then List.replicate 6 Value.none else pl)).toArray.size:=by simp only[Y0,Y5,YX,aaB]; omega
 have keep:∀b o,b≠e->g.get? b=some o->(((g.push ob).update e (Obj.mapFields (·.setIfInBounds 1 (Value.ref g.objs.size)))).update g.objs.size (Obj.mapFields (·.setIfInBounds 3 ((none:Option Addr).elim Value.none λf=>rawInt f)))).get? b=some o:=λb o hb q=>by rw[Zy _ _ (ZK (YZ q)),Zy _ _ (Ne.symm hb)];exact YL _ q
 have nb:∀b,G b->b≠e:=λb hb z=>hne (z▸hb);refine wpAny_setField t3 hdb hsz (h _ ⟨?_,λb o hb q=>⟨λhs=>?_,?_⟩,λb o q nf=>?_⟩ ?_)
 . rw[Heap.size_update,Heap.size_update,<-k.1];show g.objs.size<=(g.objs.push ob).size;rw[Array.size_push]; exact aaz _
 . exact keep b o (nb b hb) ((k.2.1 b hs).trans q)
 . obtain⟨sl,q'⟩:=k.2.2 b o q;exact⟨sl,keep b _ (nb b hb) q'⟩
 . obtain⟨sl,q'⟩:=k.2.2 b o q;refine⟨_,keep b _ (λz=>?_) q',rfl⟩;rw[z,he]at q;cases q;exact nf vs hd
 . refine⟨_,_,(Zy _ _ hT).trans e3,⟨Obj.cls_mapFields _ _,(zR _ _).trans hdi⟩,hd3,hne,.inr ⟨g.objs.size,_,_,by simp[hz],λz=>by have:=hG _ z; rw[k.1]at this; exact Z5 _ this,hT,ZW _ t3 (Obj.isFreed_of_fields (Obj.data_mapFields hdb _)),Obj.data_mapFields hdb _,?_⟩⟩;simp
theorem Left.frames {h h':Heap} {fs:List Addr} {l:List Env} (x:Left G fs h h') (hl:h.FunFrames base l):h'.FunFrames base l:=hl.of_keeps λb o q nf=>x.2.2 b o q nf
theorem Left.trans {h h1 h2:Heap} {fs:List Addr} (x:Left G fs h h1) (y:Left G fs h1 h2):Left G fs h h2:=
 ⟨ZD x.1 y.1,λb o hb q=>by
  obtain⟨a1,sl,a2⟩:=x.2.1 b o hb q;obtain⟨b1,sl',b2⟩:=y.2.1 b _ hb a2;exact⟨λhs=>(y.2.1 b o hb (a1 hs)).1 hs,sl',b2⟩,λb o q nf=>by
  obtain⟨o1,q1,d1⟩:=x.2.2 b o q nf;obtain⟨o2,q2,d2⟩:=y.2.2 b o1 q1 (λvs z=>nf vs (d1▸z));exact⟨o2,q2,d2.trans d1⟩⟩
theorem Km {cls:Value} (hfr:A.frames=some (env::outer)) (hl:s.heap.FunFrames base (env::outer)) (hf:env.frame=some L) (hG:∀b,G b->b<s.heap.objs.size) (hy:wY G e cls s.heap)
 (h:∀h',Left G ((env::outer).filterMap (·.frame)) s.heap h'->wY G e cls h'->Q () { s with heap:=h' }):wpAny M A (noteFrame (.ref e) env) (λ_ s1=>wpAny M A (setFlight (.ref e) none) Q E s1) E s:=by
 obtain⟨oe,vs,he,⟨rfl,hdi⟩,hd,hne,h1⟩:=hy;unfold noteFrame;simp only[hf];rcases h1 with h1 | ⟨T,oT,ts,h1,hnT,hTe,hT,hdT,h3⟩
 . refine aa4 (wpAny_field he hd h1 ?_);rw[aa6 (by decide)];exact Bj hfr hl hf he hdi hd (Array.getElem?_eq_some_iff.mp h1).1 hne hG h
 . refine aa4 (wpAny_field he hd h1 ?_);rw[aa5 (show (Value.ref T != Value.none)=true from by simp)];refine aa4 (wpAny_field hT hdT h3 ?_);rw[aa6 (show ¬ ((Value.none==rawInt L)=true) from by simp[rawInt])];refine aa4 (wpAny_setField hT hdT (Array.getElem?_eq_some_iff.mp h3).1 ?_);have other:∀b,b≠T->(s.heap.update T (Obj.mapFields (·.setIfInBounds 3 Value.none))).get? b=s.heap.get? b:=λb hb=>Zy _ _ (Ne.symm hb);have x:Left G ((env::outer).filterMap (·.frame)) s.heap (s.heap.update T (Obj.mapFields (·.setIfInBounds 3 Value.none))):=
    ⟨by rw[Heap.size_update]; exact YW _,λb o hb q=>by have z:=(other b (λz=>hnT (z▸hb))).trans q;exact⟨λ_=>z,o.slots,z⟩,λb o q nf=>⟨o,(other b λz=>by rw[z,hT]at q; cases q; exact nf ts hdT).trans q,rfl⟩⟩
   exact Bj hfr (x.frames hl) hf ((other e (Ne.symm hTe)).trans he) hdi hd (Array.getElem?_eq_some_iff.mp h1).1 hne (λb hb=>Y7 (hG b hb) x.1) λh' y f=>h h' (x.trans y) f
theorem leave {cls:Value} (hfr:A.frames=some (env::outer)) (hl:s.heap.FunFrames base (env::outer)) (hf:env.frame=some L) (hG:∀b,G b->b<s.heap.objs.size) (hy:wY G e cls s.heap)
 (h:∀h',Left G ((env::outer).filterMap (·.frame)) s.heap h'->wY G e cls h'->Q () { s with heap:=h' }):wpAny M A (leaving env (.ref e)) Q E s:=aa4 (Km hfr hl hf hG hy h)
end
def lM (P:Program) (w:World):sU:=λouter H s E x s'=>
 ∃(e C:Addr) (H':Hp) (G:Addr->Prop),x=.ref e/\s'.os=s.os/\AllBare s'.gens/\Un (frs outer) [] H H' s.heap s'.heap/\gj P w H' s'.heap/\(∀b o,s.heap.get? b=some o->G b)/\(∀b o,H' b=some o->G b)/\(∀b,G b->b<s'.heap.objs.size)/\wY G e (.ref C) s'.heap/\E (.ref C) none H'
theorem gj.left {H:Hp} {h h':Heap} {fs:List Addr} {G:Addr->Prop} (x:gj P w H h) (y:Left G fs h h') (hn:∀b o,H b=some o->G b) (hf:∀b∈fs,H b=none):gj P w H h':=λa o q=>
 (x a o q).stay (λb u hb hg=>by
   have ht:∃o',H b=some o':=by
    rcases hb with rfl | hb
    . exact⟨_,q⟩
    . exact⟨_,hb⟩
   obtain⟨o',ht⟩:=ht;exact(y.2.1 b u (hn b o' ht) hg).1 λhb'=>by rw[hf b hb']at ht; cases ht) (λ_ z=>z) λ_ _ z=>z
theorem Un.left {H H':Hp} {h h1 h2:Heap} {fs gs:List Addr} {G:Addr->Prop} (u:Un fs [] H H' h h1) (y:Left G gs h1 h2) (hn:∀b o,h.get? b=some o->G b) (hg:∀b∈gs,b∈fs\/h.objs.size<=b):Un fs [] H H' h h2 where
 keep:=λb o q hb hf hx=>(y.2.1 b o (hn b _ q) (u.keep b o q hb hf hx)).1 λz=>by
  rcases hg b z with z | z
  . exact hf z
  . exact absurd (YZ q) (Nat.not_lt.mpr z)
 slot:=λb o q hb hf hx=>by obtain⟨sl,e1⟩:=u.slot b o q hb hf hx;obtain⟨_,sl',e2⟩:=y.2.1 b _ (hn b _ q) e1;exact⟨sl',e2⟩
 free:=u.free
 there:=λb o q hx=>by obtain⟨o',e1⟩:=u.there b o q hx;obtain⟨_,sl',e2⟩:=y.2.1 b _ (hn b _ q) e1;exact⟨_,e2⟩
 tups:=u.tups
 frzs:=u.frzs
 tbls:=u.tbls
theorem Ko {K:FG} {mg:Str->Option Value} {base:Heap} {N:List Str} {qual:Str} {sc:Scope} {f:Addr} {cd:Value} {outer:List Env} {H:Hp} {E:XK}
 {acR:List (Addr×Obj)} {O:St} {H1:Hp} {s1:Shared} {e C:Addr} {G:Addr->Prop} (I:Inv (oF (lM P w) P w K mg base N qual sc f cd A outer s H E) acR O H1 s1)
 (hs:∀b o,s.heap.get? b=some o->G b) (hn:∀b o,H1 b=some o->G b) (hG:∀b,G b->b<s1.heap.objs.size) (hy:wY G e (.ref C) s1.heap) (hE:E (.ref C) none H1):
 (oF (lM P w) P w K mg base N qual sc f cd A outer s H E).xe (.ref e) s1:=by
 have hfr:(A.deeper (envOfC qual sc s.heap.objs.size f cd)).frames=some (envOfC qual sc s.heap.objs.size f cd::outer):=I.ok.frames;show wpAny (model P w) (A.deeper (envOfC qual sc s.heap.objs.size f cd)) (leaving (envOfC qual sc s.heap.objs.size f cd) (.ref e)) (λ_ s''=>lM P w outer H s E (.ref e) s'') (λe' s''=>lM P w outer H s E e' s'') s1;refine leave (G:=G) (L:=s.heap.objs.size) (cls:=.ref C) hfr I.stack rfl hG hy λh2 y fl=>?_;have hf:∀b∈frs (envOfC qual sc s.heap.objs.size f cd::outer),H1 b=none:=I.stkFree;refine⟨e,C,H1,G,rfl,I.os,I.bare,?_,I.hok.left y hn hf,hs,hn,λb hb=>Y7 (hG b hb) y.1,fl,hE⟩;have u:Un (frs outer) [] H H1 s.heap s1.heap:=I.base;refine u.left y hs λb hb=>?_;have hb':b∈frs (envOfC qual sc s.heap.objs.size f cd::outer):=hb;rcases Zv.mp hb' with ⟨v,hv,hve⟩;rcases YM.mp hv with rfl | hv
 . right; cases hve; exact YW _
 . left; exact Zv.mpr ⟨v,hv,hve⟩
theorem RD {K:FG} {mg:Str->Option Value} {base:Heap} {N:List Str} {qual:Str} {sc:Scope} {f:Addr} {cd:Value} {outer:List Env} {H:Hp} {E:XK}:
 oE (lM P w) (oF (lM P w) P w K mg base N qual sc f cd A outer s H E) E:=λacR O H1 s1 x s' I h=>by
 obtain⟨e,C,H2,G,rfl,os,bare,un,hok,hn,hb,hG,fl,hE⟩:=h;obtain⟨hh,g,d,t,os'⟩:=s';obtain rfl:os'=s1.os:=os;have I2:=I.call (h':=hh) (g':=g) (d':=d) (t':=t) (ch:=[]) un hok bare (λb z=>absurd z (by simp));exact Ko I2 (λb o q=>by obtain⟨o',q'⟩:=I.base.there b o q (by intro z; cases z);exact hn b o' q') hb hG fl hE
theorem dY.known {H:Hp} {h:Heap} {a:Addr} {o:HO} (x:dY P w H h a o):∃ob,h.get? a=some ob:=by
 cases o with
 | lst xs=>obtain⟨_,_,_,_,z⟩:=x; exact⟨_,z⟩
 | tup xs=>obtain⟨_,_,_,_,z,_⟩:=x; exact⟨_,z⟩
 | dK kvs=>obtain⟨_,_,_,_,_,_,_,z,_⟩:=x; exact⟨_,z⟩
 | dT kvs=>obtain⟨_,_,_,_,_,_,_,z,_⟩:=x; exact⟨_,z⟩
 | set S n=>obtain⟨_,_,_,_,z,_⟩:=x; exact⟨_,z⟩
 | ins C dx fs=>obtain⟨_,_,_,z,_⟩:=x; exact⟨_,z⟩
 | own y=>obtain⟨_,z⟩:=x; exact⟨_,z⟩
 | xd fs=>obtain⟨_,⟨_,_,_,z,_⟩,_⟩:=x; exact⟨_,z⟩
 | rng lo hi=>obtain⟨_,_,_,z⟩:=x; exact⟨_,z⟩
 | frz ob u=>obtain⟨z,_⟩:=x; exact⟨_,z⟩
 | tbl ps=>exact⟨_,(show h.get? a=some _ from x)⟩
 | met f y=>exact⟨_,(show h.get? a=some _ from x)⟩
 | ext φ=>obtain⟨_,⟨_,z⟩,_⟩:=x; exact⟨_,z⟩
theorem RG {K:FG} {mg:Str->Option Value} {base:Heap} {N:List Str} {qual:Str} {sc:Scope} {f:Addr} {cd:Value} {outer:List Env} {H:Hp} {E:XK}
 {acR:List (Addr×Obj)} {O:St} {H1:Hp} {s1:Shared} {h':Heap} {e C:Addr} {args:List Value} (I:Inv (oF (lM P w) P w K mg base N qual sc f cd A outer s H E) acR O H1 s1)
 (hm:Heap.MadeExcOf s1.heap h' e (.ref C) args) (hE:E (.ref C) none H1):
 (oF (lM P w) P w K mg base N qual sc f cd A outer s H E).xe (.ref e) { s1 with heap:=h' }:=by
 obtain⟨t,ht,_,_⟩:=hm.there;have I2:=I.call (h':=h') (g':=s1.gens) (d':=s1.drawn) (t':=s1.toks) (ch:=[]) (Un.kept hm.keeps) (I.hok.kept hm.keeps) I.bare (λb z=>absurd z (by simp));refine Ko (G:=λb=>∃o,s1.heap.get? b=some o) I2 (λb o q=>I.base.there b o q (by intro z; cases z)) (λb o q=>?_) (λb ⟨o,q⟩=>YZ (hm.keeps b o q)) ⟨_,_,ht,⟨rfl,rfl⟩,rfl,(λ⟨o,q⟩=>by rw[hm.new]at q; cases q),.inl rfl⟩ hE;exact(I.hok b o q).known
def gH (x:Str):Bool:=decide (x.length<=1000)&&x.cps.toList.all λc=>decide (c<16 ^ 8)
def Ip (K:FG) (H:Hp) (v:V):Prop:=(∃x,v=.str x/\gH x=true)\/∃(a:Addr) (xs:List Str),v=.ref a/\(bI K H a (xs.map V.str)\/bV K H a (xs.map V.str))/\xs.length<=64/\xs.all gH=true
theorem Bk {x:Str} (h:gH x=true):(reprText x).length<=10002:=by
 unfold gH at h;rw[aac,decide_eq_true_eq,List.all_eq_true]at h;have:=StrLaws.reprText_len x λc hc=>by simpa using h.2 c hc
 omega
theorem uh {h:Heap}:∀{xs:List Str} {us:List Value},Vals (xs.map V.str) us->ReadsAll h us (xs.map PyData.str) []
 | [],_,.nil=>.nil
 | x::xs,_,.cons r t=>by obtain⟨tk,rfl⟩:=r;exact ReadsAll.cons (as:=[]) (.str x tk) (uh t)
theorem yE:∀xs:List Str,xs.all gH=true->PyData.showableAll (xs.map PyData.str)=true/\PyData.hasDictAll (xs.map PyData.str)=false/\PyData.depthAll (xs.map PyData.str)<=1/\(((PyData.shownAll (xs.map PyData.str)).map (·.length)).sum<=10002*xs.length)/\(PyData.shownAll (xs.map PyData.str)).length=xs.length
 | [],_=>⟨rfl,rfl,Z8 _,YW _,rfl⟩
 | x::xs,h=>by rw[List.all_cons,aac]at h;obtain⟨h1,h2,h3,h4,h5⟩:=yE xs h.2;have:=Bk h.1;simp only[Za,PyData.showableAll,PyData.showable,PyData.hasDictAll,PyData.hasDict,PyData.depthAll,PyData.depth,PyData.shownAll,PyData.shown,List.sum_cons,YX,h1,h2,h5];refine⟨rfl,rfl,by omega,by omega,trivial⟩
section
variable {X:Cx} {acR:List (Addr×Obj)} {O:St} {H:Hp} {s:Shared}
theorem NB {k:Nat} {v:V} {u:Value} {Q:Value->Shared->Prop} (hr:fH k X.A) (I:Inv X acR O H s) (r:RelV v u) (h:Ip X.K H v) (q:∀z tk s',z.length<=700000->Inv X acR O H s'->Q (.str z tk) s'):wpAny (model X.prog X.w) X.A (pyReprObj u) Q E s:=by
 have un:=hr.units;rcases h with ⟨x,rfl,hx⟩ | ⟨a,xs,rfl,hs,hl,hx⟩
 . obtain⟨tk,rfl⟩:=r;have:=Bk hx;exact wpAny_pyReprObj_str (q _ _ _ (by omega) (I.tok _)) (by rw[sizeLine_eq]; omega)
 . obtain rfl:u=Value.ref a:=r;obtain⟨h1,h2,h3,h4,h5⟩:=yE xs hx;rcases hs with hs | hs
   . obtain⟨its,rv,⟨o,n,e1,e2,_,e3⟩,_⟩:=I.list hs;have hz:=listText_len_le (PyData.shownAll (xs.map PyData.str));rw[h5]at hz;have hz':(PyData.list (xs.map PyData.str)).shown.length<=700000:=by show (listText _).length<=_; omega
     exact pyReprObj_of_reads (d:=.list (xs.map PyData.str)) (.list e1 e2 e3 (uh rv)) (by simpa [PyData.showable] using h1) (PyData.noDict_hsm (by simpa [PyData.hasDict] using h2)) hr.gd (by show X.A.units+(PyData.depthAll _+1)<_; omega) (λ_ _ z=>z) (λh' u tk hk=>q _ _ _ hz' (I.kept hk)) (by rw[sizeLine_eq]; omega)
   . obtain⟨its,rv,⟨o,e1,e2,n,e3⟩,_⟩:=I.tuple hs;have hz:=tupleText_len_le (PyData.shownAll (xs.map PyData.str));rw[h5]at hz;have hz':(PyData.tuple (xs.map PyData.str)).shown.length<=700000:=by show (tupleText _).length<=_; omega
     exact pyReprObj_of_reads (d:=.tuple (xs.map PyData.str)) (.tuple e1 e2 e3 (uh rv)) (by simpa [PyData.showable] using h1) (PyData.noDict_hsm (by simpa [PyData.hasDict] using h2)) hr.gd (by show X.A.units+(PyData.depthAll _+1)<_; omega) (λ_ _ z=>z) (λh' u tk hk=>q _ _ _ hz' (I.kept hk)) (by rw[sizeLine_eq]; omega)
end
abbrev TJ:=St->Hp->(Hp->Prop)->Prop
def PJ (X:Cx) (es:List Expr) (n:Nat) (t:TJ):Prop:=∀(acR:List (Addr×Obj)) (s:Shared) (O:St) (H:Hp) (Q:Hp->Prop) (acc:Str),Inv X acR O H s->acc.length+n<=sizeLine->t O H Q->
 wpAny (model X.prog X.w) X.A (joinParts acc (evalEach es X.env)) (λu s'=>∃z tk H',u=.str z tk/\Inv X acR O H' s'/\Q H') X.xe s
section
variable {X:Cx} {es:List Expr} {n:Nat} {t:TJ}
theorem U0_:PJ X [] 0 (λ_ H Q=>Q H):=λacR s O H Q acc I h q=>joinParts_nilE (joinParts_nil ⟨_,_,H,rfl,I.tok _,q⟩ h)
theorem Ye {c:Str} {j:Nat} {p:Pos} (hc:c.length<=100) (h:PJ X es n t):PJ X (.Constant (.str c) j p::es) (n+100) t:=λacR s O H Q acc I hl q=>by refine joinParts_cons (Calls.Constant_str ?_);have e:=strLen_append acc c;exact⟨by omega,h acR _ O H Q _ (I.tok _) (by omega) q⟩
theorem Yg {k:Nat} {e:Expr} {p:Pos} {te:TE} (hr:fH k X.A) (he:PE X e te) (h:PJ X es n t):PJ X (.FormattedValue e 114 none p::es) (n+700000) (λO H Q=>te O H λv H'=>Ip X.K H' v/\t O H' Q):=λacR s O H Q acc I hl q=>by refine joinParts_cons (wpAny_FormattedValue_repr (bT (he acR s O H _ I q) λu s1 ⟨v,H1,I1,r1,hs,q1⟩=>?_));refine NB hr I1 r1 hs λz tk s2 hz I2=>formatField_str (λt' tk'=>?_) (by rw[sizeLine_eq]; omega);have e:=strLen_append acc z;exact⟨by omega,h acR _ O H1 Q _ (I2.tok _) (by omega) q1⟩
theorem Kp {v1 v2:Expr} {p:Pos} (h:PJ X (v1::v2::es) n t) (hn:n<=sizeLine):PE X (.JoinedStr (v1::v2::es) p) (λO H Q=>t O H λH'=>∀z,Q (.str z) H'):=λacR s O H Q I q=>by refine JoinedStr_many (bT (h acR s O H _ Str.empty I (by show 0+n<=_; omega) q) λu s' ⟨z,tk,H',e,I',q'⟩=>?_);subst e;exact⟨.str z,H',I',⟨tk,rfl⟩,q' z⟩
end
abbrev kZ:List Value:=[.type "ValueError",.type "Exception",.type "BaseException",.type "object"]
abbrev lg:String := "ValueError.__new__"
def Raises (X:Cx) (E:XK):Prop:=∀(acR:List (Addr×Obj)) (O:St) (H:Hp) (s:Shared) (h':Heap) (e C:Addr) (args:List Value),Inv X acR O H s->Heap.MadeExcOf s.heap h' e (.ref C) args->E (.ref C) none H->X.xe (.ref e) { s with heap:=h' }
theorem zU {K:FG} {h:Heap} {C:Addr} {bmB:List Value} {newId:String} (X:K.In h) (q:W.excIn K C bmB newId=true):∃bm N nm qn bs hdct sn sub ab col dd k0 k1 k2 k3 k5,∃mN:Str->Option Value,h.get? C=some (excClassObj nm qn C N bs bm hdct sn sub ab col dd k0 k1 k2 k3 k5 newId)/\h.Ns N mN/\mN "__init__" = none/\OwnTail h bmB bm:=by
 unfold W.excIn at q;split at q
 . rename_i dd cd sl ho;split at q
   . rename_i C' bm k0 k1 k2 k3 n k5 hm hs;simp only[aac,beq_iff_eq,Bool.not_eq_true']at q;obtain⟨⟨⟨⟨⟨rfl,rfl⟩,hdel⟩,ht⟩,hok⟩,hni⟩:=q;obtain⟨nm,bs,mro,ns,qn,hd,sn,sub,ab,col,del⟩:=cd;dsimp only at hm hdel hok hni;subst hm hdel;have hsl:sl=#[k0,k1,k2,k3,some (.builtin n),k5]:=by obtain⟨l⟩:=sl;simp only at hs;rw[hs]
     subst hsl;exact⟨bm,ns,nm,qn,bs,hd,sn,sub,ab,col,dd,k0,k1,k2,k3,k5,_,X _ _ ho,.of_isNs (W.isNs_of_in X hok),W.nsMap_none_of_in X hok hni,W.tail_of_in X ht⟩
   . cases q
 . cases q
section
variable {X:Cx}
theorem Dz {x:Str} {C:Addr} {np cpos pos:Pos} {a:Expr} {t:TE} {E:XK} {k:Nat} (R:Raises X E) (hr:fH k X.A) (hg:Gl X x) (hm:X.mg x=some (.ref C)) (hx:W.excIn X.K C kZ lg=true) (ha:PE X a t)
 (hdb:(x==("__debug__" : Str))=false:=by decide) (hst:starEach [a] X.env=[(false,eval a X.env)]:=by rfl) (hpl:(backTo cpos (starEach [a] X.env)).any (·.1)=false:=by rfl):
 PS X (.Raise (some (.Call (.Name x np) [a] [] cpos)) none pos) (λ_ O H=>mG t rZ O H λvs H1=>vs.length=1/\E (.ref C) none H1):=λacR s O H D I q=>by
 obtain⟨bm,N,nm,qn,bs,hdct,sn,sub,ab,col,dd,k0,k1,k2,k3,k5,mN,hC,hN,hni,T⟩:=zU I.mod.kin hx;refine wpAny_Raise_call_subT (F:=F.excBase_ValueError) (C:=C) (mN:=mN) (nm:=nm) (q:=qn) (N:=N) (bs:=bs) (hdct:=hdct) (sn:=sn) (sub:=sub) (ab:=ab) (col:=col) (dd:=dd) (k0:=k0) (k1:=k1) (k2:=k2) (k3:=k3) (k5:=k5) (T.hasType (by decide +kernel)) (hr.hd rfl) hpl hni (sJ I hg hm ⟨rfl,?_⟩ hdb);have ha':=aO ha dh (hs:=hst);rw[hst];have hw:=ha' cpos acR s O H _ I q;rw[hst]at hw;refine Calls.evalArgs_plain (bT hw λus s1 ⟨vs,H1,I1,r1,q1⟩=>?_);refine⟨rfl,by rw[<-r1.length,q1.1]; decide,I1.bk _ _ hC,hN.keeps I1.bk,T.keeps I1.bk,λh' e hm=>R acR O H1 s1 h' e C us I1 hm q1.2⟩
end
theorem Left.refl {G:Addr->Prop} {fs:List Addr} {h:Heap}:Left G fs h h:=⟨YW _,λb o hb q=>⟨λ_=>q,o.slots,q⟩,λb o q nf=>⟨o,q,rfl⟩⟩
theorem RJ {M:Model} {e:Addr} {G:Addr->Prop} {Q:Unit->Shared->Prop} {cls:Value} {fs:List Addr} (hy:wY G e cls s.heap) (h:∀h',Left G fs s.heap h'->wY G e cls h'->Q () { s with heap:=h' }):wpAny M A (setFlight (.ref e) none) Q E s:=by
 obtain⟨oe,vs,he,hc,hd,hne,h1⟩:=id hy;unfold setFlight;rcases h1 with h1 | ⟨T,oT,ts,h1,hnT,hTe,hT,hdT,h3⟩
 . refine aa4 (wpAny_field he hd h1 ?_);rw[aa6 (by decide)];exact aa7 (h s.heap Left.refl hy)
 . refine aa4 (wpAny_field he hd h1 ?_);rw[aa5 (show (Value.ref T != Value.none)=true from by simp)];have hz:=(Array.getElem?_eq_some_iff.mp h3).1;have other:∀b,b≠T->(s.heap.update T (Obj.mapFields (·.setIfInBounds 3 Value.none))).get? b=s.heap.get? b:=λb hb=>Zy _ _ (Ne.symm hb);refine wpAny_setField hT hdT hz (h _ ⟨by rw[Heap.size_update]; exact YW _,λb o hb q=>?_,λb o q nf=>⟨o,(other b λz=>by rw[z,hT]at q; cases q; exact nf ts hdT).trans q,rfl⟩⟩ ⟨oe,vs,(other e (Ne.symm hTe)).trans he,hc,hd,hne,.inr ⟨T,_,_,h1,hnT,hTe,ZW _ hT (Obj.isFreed_of_fields (Obj.data_mapFields hdT _)),Obj.data_mapFields hdT _,by simp[hz]⟩⟩);have z:=(other b (λz=>hnT (z▸hb))).trans q;exact⟨λ_=>z,o.slots,z⟩
def oH (X:Cx) (acR:List (Addr×Obj)) (O:St) (H':Hp) (e C:Addr) (s':Shared):Prop:=
 ∃(H:Hp) (s:Shared) (G:Addr->Prop),Inv X acR O H s/\s'.os=s.os/\AllBare s'.gens/\Un (frs X.stack) [] H H' s.heap s'.heap/\gj X.prog X.w H' s'.heap/\(∀b o,s.heap.get? b=some o->G b)/\(∀b o,H' b=some o->G b)/\(∀b,G b->b<s'.heap.objs.size)/\wY G e (.ref C) s'.heap
section
variable {X:Cx} {acR:List (Addr×Obj)} {O:St} {H H':Hp} {s s':Shared} {e C:Addr}
theorem oH.of {E:XK} {x:Value} (I:Inv X acR O H s) (h:lM X.prog X.w X.stack H s E x s'):∃e C H',x=.ref e/\oH X acR O H' e C s'/\E (.ref C) none H':=by obtain⟨e,C,H',G,rfl,os,bare,un,hok,hn,hb,hG,fl,hE⟩:=h;exact⟨e,C,H',rfl,⟨H,s,G,I,os,bare,un,hok,hn,hb,hG,fl⟩,hE⟩
theorem oH.inv (h:oH X acR O H' e C s'):Inv X acR O H' s':=by obtain⟨H,s,G,I,os,bare,un,hok,hn,hb,hG,fl⟩:=h;exact I.call' os un hok bare (λb z=>absurd z (by simp))
theorem oH.leave {M:Model} {Q:Unit->Shared->Prop} (h:oH X acR O H' e C s') (hs:X.stack=X.env::X.outer) (hf:X.env.frame=some X.env.locals) (hA:A.frames=some X.stack)
 (k:∀h',oH X acR O H' e C { s' with heap:=h' }->Q () { s' with heap:=h' }):wpAny M A (noteFrame (.ref e) X.env) (λ_ s1=>wpAny M A (setFlight (.ref e) none) Q E s1) E s':=by
 have I':=h.inv;obtain⟨H,s,G,I,os,bare,un,hok,hn,hb,hG,fl⟩:=h;have hst:=I'.stack;rw[hs]at hst hA;refine Km hA hst hf hG fl λh' y f=>k h' ⟨H,s,G,I,os,bare,un.left y hn λb z=>.inl (by rw[hs]; exact z),hok.left y hb λb z=>I'.stkFree b (by rw[hs]; exact z),hn,hb,λb z=>Y7 (hG b z) y.1,f⟩
theorem oH.flight {M:Model} {Q:Unit->Shared->Prop} (h:oH X acR O H' e C s') (k:∀h',oH X acR O H' e C { s' with heap:=h' }->Q () { s' with heap:=h' }):wpAny M A (setFlight (.ref e) none) Q E s':=by have I':=h.inv;obtain⟨H,s,G,I,os,bare,un,hok,hn,hb,hG,fl⟩:=h;exact RJ (fs:=frs X.stack) fl λh' y f=>k h' ⟨H,s,G,I,os,bare,un.left y hn λb z=>.inl z,hok.left y hb λb z=>I'.stkFree b z,hn,hb,λb z=>Y7 (hG b z) y.1,f⟩
end
abbrev Cx.hand (X:Cx) (e:Addr):Cx:={ X with A:=X.A.mark (some (.ref e)),calm:=false,xe:=λ_ _=>False }
section
variable {X:Cx} {acR:List (Addr×Obj)} {O:St} {H:Hp} {s:Shared} {e:Addr}
theorem Inv.hand (I:Inv X acR O H s) (e:Addr):Inv (X.hand e) acR O H s:=
 ⟨⟨I.ok.mod,I.ok.kind,I.ok.glob,I.ok.blt,I.ok.above,I.ok.inj,I.ok.has,I.ok.cab,λz=>absurd z (by simp),I.ok.frames,I.ok.stk,I.ok.exf,I.ok.bs,I.ok.bsz,I.ok.noex,I.ok.exfs,I.ok.funs,I.ok.frf⟩,I.os,I.bare,I.base,I.loc,I.cell,I.free,I.freeC,I.pin,I.hok,I.len⟩
theorem Inv.unhand (hd:X.calm=true->X.A.handled=none) (I:Inv (X.hand e) acR O H s):Inv X acR O H s:=
 ⟨⟨I.ok.mod,I.ok.kind,I.ok.glob,I.ok.blt,I.ok.above,I.ok.inj,I.ok.has,I.ok.cab,hd,I.ok.frames,I.ok.stk,I.ok.exf,I.ok.bs,I.ok.bsz,I.ok.noex,I.ok.exfs,I.ok.funs,I.ok.frf⟩,I.os,I.bare,I.base,I.loc,I.cell,I.free,I.freeC,I.pin,I.hok,I.len⟩
end
def mroIn (K:FG) (C d:Addr):Bool:=W.mroIn K C (.ref d)==some true
theorem Ir {K:FG} {C d:Addr} {b:Bool} (h:W.mroIn K C (.ref d)=some b):mroIn K C d=b:=by unfold mroIn;rw[h];cases b<;>rfl
theorem U3_ {K:FG} {h:Heap} {C d:Addr} {bmB:List Value} {newId:String} (X:K.In h) (q:W.excIn K C bmB newId=true) {nm qn:Str} {N:Addr} {bs bm:List Value} {hdct:Bool} {sn:List Str} {sub:List Value} {ab:Bool} {col:Option Bool} {dd:Option Addr} {k0 k1 k2 k3 k5:Option Value}
 (hC:h.get? C=some (excClassObj nm qn C N bs bm hdct sn sub ab col dd k0 k1 k2 k3 k5 newId)):(Value.ref C::bm).contains (.ref d)=mroIn K C d:=by
 refine(Ir ?_).symm;unfold W.excIn at q;unfold W.mroIn W.clsIn;split at q
 . rename_i o ho;have:=X _ _ ho;rw[hC]at this;cases this;rw[ho];rfl
 . cases q
theorem Yh {M:Model} {nm q nm' q':Str} {C N D N':Addr} {bs bm bs' bm':List Value} {hdct hdct':Bool} {sn sn':List Str} {sub sub':List Value} {ab ab':Bool} {col col':Option Bool} {dd dd':Option Addr} {k0 k1 k2 k3 k5 j0 j1 j2 j3 j5:Option Value} {newId newId':String}
 {h:Heap} {g:Array GenState} {d:Drawn} {t:Nat} {os:OsState} {e:Addr} {oe:Obj} {Q:Bool->Shared->Prop}
 (hC:h.get? C=some (excClassObj nm q C N bs bm hdct sn sub ab col dd k0 k1 k2 k3 k5 newId)) (hD:h.get? D=some (excClassObj nm' q' D N' bs' bm' hdct' sn' sub' ab' col' dd' j0 j1 j2 j3 j5 newId')) (he:h.get? e=some oe) (hcls:oe.cls=.ref C) (hbase:bm'.contains (.type "BaseException")=true)
 (hq:Q ((Value.ref C::bm).contains (.ref D)) ⟨h,g,d,t,os⟩):wpAny M A (excMatches (.ref e) (.ref D)) Q E ⟨h,g,d,t,os⟩:=by
 have hcB:(Value.ref D::bm').contains (.type "BaseException")=true:=by rw[List.contains_cons,hbase,Bool.or_true]
 have f:=tc_notTuple;unfold excMatches;generalize hb:(Value.ref C::bm).contains (.ref D)=b at hq
 repeat (first | (with_reducible refine wpAny_loadPart_at he ?_; rw[hcls]) | with_reducible refine wpAny_loadPart_at hD ?_ | (with_reducible refine wpAny_isSubtype_exc hD ?_; rw[hcB]) | (with_reducible refine wpAny_isSubtype_exc hC ?_; rw[hb]) | wp_step)
 cases b<;>(wp_walk; exact hq)
def PH (X:Cx) (hs:List ExceptHandler) (t:Addr->TS):Prop:=∀(acR:List (Addr×Obj)) (s:Shared) (O:St) (H:Hp) (D:Ends) (e C:Addr),oH X acR O H e C s->W.excIn X.K C kZ lg=true->t C D O H->wpAny (model X.prog X.w) X.A (handleBy (.ref e) X.env hs) (SP X acR D) X.xe s
section
variable {X:Cx}
theorem U4 {hs:List ExceptHandler}:PH X hs (λ_ _ _ _=>False):=λ_ _ _ _ _ _ _ _ _ z=>z.elim
def Qu (X:Cx) (acR:List (Addr×Obj)) (O:St) (e:Expr) (t:TE):Prop:=∀(s:Shared) (H:Hp) (Q:VK),Inv X acR O H s->t O H Q->wpAny (model X.prog X.w) X.A (eval e X.env) (EP X acR O Q) X.xe s
def Bl (X:Cx) (acR:List (Addr×Obj)) (O:St) (b:List Stmt) (t:TS):Prop:=∀(s:Shared) (H:Hp) (D:Ends),Inv X acR O H s->t D O H->wpAny (model X.prog X.w) X.A (execs b X.env) (SP X acR D) X.xe s
def CK (X:Cx) (acR:List (Addr×Obj)) (O:St) (E:XK):Prop:=∀H s e s',Inv X acR O H s->lM X.prog X.w X.stack H s E e s'->X.xe e s'
section
variable {acR:List (Addr×Obj)} {O:St} {E:XK} {k:Nat} {f C:Addr} {fd:FuncData} {ps:List Str} {sp:Sp} {x:Str} {p pos:Pos} {e:Expr} {es:List Expr} {t:TA} {te:TE}
theorem NK (he:Qu X acR O e te) (hs:swapsWith e none pos.line X.env=pure false:=by rfl):Bl X acR O [.Expr e pos] (tX te):=λs H D I h=>
 wpAny_execs_cons (wpAny_Expr_any (bT (he s H _ I h) λv s1 ⟨x,H1,I1,r1,q1⟩=>wpAny_execs_nil ⟨O,H1,I1,q1⟩) I.quiet hs)
end
def Yi (K:FG) (tb:XK->TS) (th:Addr->TS):TS:=λD O H=>∃E:XK,tb E D O H/\∀C H',E (.ref C) none H'->W.excIn K C kZ lg=true/\th C D O H'
theorem U5 {body:List Stmt} {h₀:ExceptHandler} {hs:List ExceptHandler} {pos:Pos} {tb:XK->TS} {th:Addr->TS} (hst:X.stack=X.env::X.outer) (hf:X.env.frame=some X.env.locals)
 (hb:∀acR O xe E,CK (X.wish xe) acR O E->Bl (X.wish xe) acR O body (tb E)) (hh:PH X (h₀::hs) th):PS X (.Try body (h₀::hs) [] [] pos) (Yi X.K tb th):=λacR s O H D I ⟨E,q,k⟩=>by
 refine wpAny_Try_except (wpAny_mono (hb acR O (λx s'=>∃H s,Inv X acR O H s/\lM X.prog X.w X.stack H s E x s') E (λH s e s' I h=>⟨H,s,I.unwish,h⟩) s H D (I.wish _) q) (λf s1 h1=>?_) λx s1 h1=>?_)
 . have h2:=SP.unwish h1;cases f with
   | next=>exact wpAny_execs_nil h2
   | ret u=>exact h2
   | brk=>exact h2
   | cont=>exact h2
 . obtain⟨Hh,s0,I0,cx⟩:=h1;obtain⟨e,C,H',rfl,hh',hE⟩:=oH.of I0 cx;obtain⟨hc,hq⟩:=k C H' hE;exact hh'.leave hst hf I0.ok.frames λh' h2=>hh acR _ O H' D e C h2 hc hq
end
end L2
namespace L2
open PySem PySem.Spec PyProof.Rows PySem.W
section
variable {prog:Program} {w:World} {A:Around} {E:Value->Shared->Prop} {s:Shared} {K:FG} {e C:Addr} {oe:Obj}
structure oJ (K:FG) (C:Addr):Prop where
 ga:W.findIn K (.ref C) "__getattribute__" = some (some (.builtin "BaseException.__getattribute__"))
 gt:W.findIn K (.ref C) "__getattr__" = some none
 me:W.mroIn K C (.type "BaseException")=some true
 mo:W.mroIn K C (.type "object")=some true
 ic:(W.clsIn K C).isSome=true
 ca:W.findIn K (.ref C) "__class__" = some (some (.builtin "object.__class__"))
 cg:W.specialIn K (.builtin "object.__class__") "__get__" = some (some (.builtin "getset_descriptor.__get__"))
 tk:W.takesIn K (.builtin "object.__class__")=some true
theorem Ca {K:FG} {C:Addr} {name:Str} {a g:Value} (hc:(W.clsIn K C).isSome=true) (ha:W.findIn K (.ref C) name=some (some a)) (hg:W.specialIn K a "__get__" = some (some g)) (ht:W.takesIn K a=some true):W.findObj K C none name=some (.bind g a):=by obtain⟨cd,hc⟩:=ZX.mp hc;unfold W.findObj;rw[hc,YJ,ha,YJ];simp[hg,ht]
theorem Kq {nameV:Value} {Q:Unit->Shared->Prop} {M:Model} (X:K.In s.heap) (I:W.InstAt s.heap e oe C none) (T:oJ K C) (hq:Q () s):wpAny M A (checkBuiltinCall "BaseException.__getattribute__" ⟨[.ref e,nameV],[]⟩) Q E s:=by
 obtain⟨hh,g,d,t,os⟩:=s;have hk:builtinKind "BaseException.__getattribute__" = some .slot:=by decide +kernel
 have hsplit:splitId "BaseException.__getattribute__" = some ("BaseException", "__getattribute__"):=by decide +kernel
 have L0:=I.type (M:=M);have L1:=W.looks_mroIn (M:=M) X T.me;have ha:=F.args_bexc_ga (.ref e) nameV;simp only[checkBuiltinCall,hk,hsplit];refine aa4 ?_;unfold isInstance;refine aa4 (L0.at (L1.at ?_))
 repeat (any_goals (first | assumption | wp_step))
theorem Kr {tk:Tok} {Q:Fin->Shared->Prop} (X:K.In s.heap) (I:W.InstAt s.heap e oe C none) (T:oJ K C) (hq:Q (.done (.ret (.ref C))) s):wpAny (model prog w) A (Builtin.«object.__getattribute__» ⟨[.ref e,.str "__class__" tk],[]⟩) Q E s:=by
 have L0:=I.type (M:=model prog w);have L4:=W.looks_find (M:=model prog w) X I (Ca T.ic T.ca T.cg T.tk);unfold Builtin.«object.__getattribute__»
 repeat (any_goals (first | assumption | (with_reducible refine L0.at ?_) | (with_reducible refine L4.at ?_) | wp_step))
 refine W.class_get (od:=none) X I T.mo ?_
 repeat (any_goals (first | assumption | wp_step))
theorem Ks {Q:Option Value->Shared->Prop} (X:K.In s.heap) (I:W.InstAt s.heap e oe C none) (T:oJ K C) (hq:Q (some (.ref C)) { s with toks:=s.toks+1 }):wpAny (model prog w) A (getAttr? (.ref e) "__class__") Q E s:=by
 obtain⟨hh,g,d,t,os⟩:=s;have L0:=I.type (M:=model prog w);have L1:=W.looks_findIn (M:=model prog w) X T.ga;have L2:=W.looks_findIn (M:=model prog w) X T.gt;have hx2:(Value.builtin "BaseException.__getattribute__" == Value.builtin "object.__getattribute__")=false:=by decide +kernel
 have f3:=F.excAttr_ValueError.ga.bind (.ref e);have pl:=F.excAttr_ValueError.ga.plain;unfold getAttr? getAttrBy? getAttrBy;refine aa4 (wpAny_mkText (aa4 (wpAny_attempt (wpAny_holding (aa4 (L0.at (aa4 (L1.at ?_))))))));show wpAny _ _ (if (onTheHeap (Value.ref C)&&Value.builtin "BaseException.__getattribute__" == Value.builtin "object.__getattribute__")=true then _ else _) _ _ _;rw[hx2,Bool.and_false,aa6 (by decide)];unfold getAttrByItsOwn hookBefore;refine aa4 ?_;rw[aa5 (show onTheHeap (Value.ref C)=true from rfl)];refine L2.at (aa4 (wpAny_attempt (wpAny_holding ?_)));unfold callGetattribute;rw[Bool.false_and,aa6 (by decide)];unfold boundAndCalled;refine aa4 ?_;rw[f3];refine aa7 (wpAny_call ?_);refine codeAny_call_builtin pl F.entry_bexc_ga (Kq (s:=⟨hh,g,d,t+1,os⟩) X I T (Kr (s:=⟨hh,g,d,t+1,os⟩) X I T ?_))
 repeat (any_goals (first | assumption | wp_step))
theorem DG (T:oJ K C):W.KitX K (.ref e) (.ref C) (λh=>W.InstAt h e oe C none) where
 ty:=λ_ _ _ I=>I.type
 it:=λ_ _ X _=>by
  obtain⟨cdD,hcD⟩:=ZX.mp T.ic;unfold W.clsIn at hcD;split at hcD
  . rename_i c' d' cd' sl' ho;intro A' Q' E' s' k q;unfold isType loadHead;exact aa4 (wpAny_loadPart (k _ _ (X _ _ ho)) (aa7 q))
  . cases hcD
 ne:=λh tp dd its n sl X htp=>by
  obtain⟨cdD,hcD⟩:=ZX.mp T.ic;refine Bool.eq_false_iff.mpr λq=>?_;have e:C=tp:=Value.ref.inj (beq_iff_eq.mp q);subst e;unfold W.clsIn at hcD;split at hcD
  . rename_i c' d' cd' sl' ho;have z:=(X _ _ ho).symm.trans htp;cases z
  . cases hcD
 ca:=λX I k=>Ks X I T k
end
theorem W4 {H:Hp} {h:Heap} {a c:Addr} (p:sE a c h):dY P w H h a (.ext (sE a c)):=by
 obtain⟨o,q⟩:=id p;refine⟨p,⟨o,q.at_⟩,λh1 h2 ⟨o1,q1⟩ k=>⟨o1,k _ q1.at_,q1.cls,q1.no,?_⟩⟩;have:=q1.dict;cases e:o1.dict with
 | none=>rw[e]at this; trivial
 | some d=>rw[e]at this; exact this.elim
section
variable {X:Cx} {acR:List (Addr×Obj)} {O:St} {H H':Hp} {s s':Shared} {e C:Addr}
theorem oH.take (h:oH X acR O H' e C s'):H' e=none/\Inv X acR O (upd H' e (.ext (sE e C))) s':=by
 obtain⟨H,s,G,I,os,bare,un,hok,hn,hb,hG,oe,vs,he,⟨hc,hdi⟩,hd,hne,_⟩:=h;have e0:H' e=none:=by
  cases q:H' e with
  | none=>rfl
  | some o=>exact absurd (hb e o q) hne
 have ne:∀b o,H' b=some o->b≠e:=λb o q z=>by rw[z,e0]at q; cases q
 have nh:∀b o,s.heap.get? b=some o->b≠e:=λb o q z=>hne (z▸hn b o q);refine⟨e0,I.call' os ⟨un.keep,un.slot,λb o q n x=>by rw[bF (nh b o q)]; exact un.free b o q n x,un.there,λb xs q=>?_,λb o u q=>?_,λb ps q=>?_⟩ (λa o q=>?_) bare (λb z=>absurd z (by simp))⟩
 . have:=un.tups b xs q;rw[bF (ne _ _ this)]; exact this
 . have:=un.frzs b o u q;rw[bF (ne _ _ this)]; exact this
 . obtain⟨more,q⟩:=un.tbls b ps q;exact⟨more,by rw[bF (ne _ _ q)]; exact q⟩
 . by_cases z:a=e
   . subst z;rw[bA]at q;cases q;refine W4 ⟨oe,he,hc,?_,?_⟩
     . unfold W.notCls; rw[hd]
     . rw[hdi]; trivial
   . rw[bF z]at q;exact(hok a o q).stay (λ_ _ _ q=>q) (λb q=>by rw[bF (ne _ _ q)]; exact q) λb xs q=>by rw[bF (ne _ _ q)]; exact q
theorem qz {M:Model} {i:Nat} {x:Str} {pos:Pos} {Q:Unit->Shared->Prop} (I:Inv X acR O H s) (hN:X.N.Nodup) (hi:X.N[i]?=some x) (hk:X.env.scope.names.lookup x=some .local)
 (h:∀s',Inv X acR (O.set i none) H s'->Q () s'):wpAny M A (do bindName X.env x .none; unbindBehindTheSuite X.env x pos) Q E s:=by
 refine aa4 (wpAny_bindName (tW (v:=.non) I hN hi (.inl hk) rfl (λs1 I1=>?_) (.inr hk)));obtain⟨m,hn,hl⟩:=id I1.loc;have hcls:(X.env.scope.kind==.class||(X.env.scope.kind==.module&&X.env.locals != X.env.globals))=false:=by rw[I.ok.kind]; rfl
 have hiO:i<O.length:=by rw[I.len]; exact(YS.mp hi).1
 obtain⟨u,_,lk⟩:=hl i x .non hi (by rw[Y8 hiO]) (.inl hk);have hk':X.env.kindOf x=some .local:=hk;have hv:m x=some u:=by
  rcases lk with ⟨_,q⟩ | ⟨q,_⟩
  . exact q
  . rw[hk']at q; rcases q with q | q<;>cases q
 have cne:=I1.cne;unfold unbindBehindTheSuite;refine wpAny_onRaise (wpAny_unbindName_local hk' hn hv hcls λh' u' hn' hs=>h _ ?_);obtain⟨oL,_,_,hoL,_⟩:=id hn;have hok:gj X.prog X.w H h':=λb ob e=>by
  refine(I1.hok b ob e).stay (λc w' hc q=>(hs.2 c ?_).trans q) (λ_ q=>q) λ_ _ q=>q;rintro rfl;rcases hc with rfl | hc
  . rw[I1.free]at e; cases e
  . rw[I1.free]at hc; cases hc
 refine⟨I1.ok,I1.os,I1.bare,⟨λb o e n hb hx=>?_,λb o e n hb hx=>?_,I1.base.free,λb o e hx=>?_,I1.base.tups,I1.base.frzs,I1.base.tbls⟩,⟨_,hn',λj y v' e1 e2 e3=>?_⟩,λy c e=>?_,I1.free,I1.freeC,λp hp=>?_,hok,by simpa using I.len⟩
 . exact(hs.2 b (Zi (Y7 (YZ e) I1.ok.above))).trans (I1.base.keep b o e n hb hx)
 . obtain⟨sl,e1⟩:=I1.base.slot b o e n hb hx;exact⟨sl,(hs.2 b (Zi (Y7 (YZ e) I1.ok.above))).trans e1⟩
 . obtain⟨o',e1⟩:=I1.base.there b o e hx;exact⟨o',(hs.2 b (Zi (Y7 (YZ e) I1.ok.above))).trans e1⟩
 . by_cases hj:j=i
   . subst hj;rw[Y8 hiO]at e2;cases e2
   . rw[Zc (Ne.symm hj)]at e2;obtain⟨u',r',q⟩:=hl j y v' e1 (by rw[Zc (Ne.symm hj)]; exact e2) e3;refine⟨u',r',?_⟩;rcases q with ⟨k,e⟩ | ⟨k,c,e,z⟩
     . refine .inl ⟨k,?_⟩;have:y≠x:=λe=>hj (xu hN e1 (e▸hi));simp[this,e]
     . exact .inr ⟨k,c,e,z.sameBut hs (cne y c e)⟩
 . obtain⟨w',z⟩:=I1.cell y c e;exact⟨w',z.sameBut hs (cne y c e)⟩
 . obtain⟨e,n,ne,nf,d⟩:=I1.pin p hp;exact⟨(hs.2 p.1 ne).trans e,n,ne,nf,d⟩
end
def Ends.un (i:Nat) (D:Ends):Ends:={ nx:=λO H=>D.nx (O.set i none) H,rt:=D.rt,bk:=λO H=>D.bk (O.set i none) H,ct:=λO H=>D.ct (O.set i none) H }
def DK (K:FG) (d:Addr) (i:Nat) (ts:TS) (tr:Addr->TS):Addr->TS:=λC D O H=>if L2.mroIn K C d=true then ∀e,H e=none->ts (D.un i) (O.set i (some (.ref e))) (upd H e (.ext (sE e C))) else tr C D O H
section
variable {X:Cx}
theorem W5 {x n:Str} {i:Nat} {d:Addr} {b₀:Stmt} {suite:List Stmt} {pos np:Pos} {rest:List ExceptHandler} {ts:TS} {tr:Addr->TS} (hg:Gl X x) (hm:X.mg x=some (.ref d)) (hx:W.excIn X.K d kZ lg=true) (hN:X.N.Nodup) (hi:X.N[i]?=some n) (hk:X.env.scope.names.lookup n=some .local)
 (hs:∀e,eF (X.hand e) (b₀::suite) ts) (hr:PH X rest tr) (hdb:(x==("__debug__" : Str))=false:=by decide):
 PH X (.ExceptHandler (some (.Name x np)) (some n) (b₀::suite) pos::rest) (DK X.K d i ts tr):=λacR s O H D e C h hc q=>by
 have I:=h.inv;refine wpAny_handleBy_cons (codeAny_handlers_test (sJ (I.hand e) hg hm ?_ hdb)) (by intro q; cases q);obtain⟨bm,N,nm,qn,bs,hdct,sn,sub,ab,col,dd,k0,k1,k2,k3,k5,mN,hC,hN',hni,T⟩:=zU I.kIn hc;obtain⟨bm',N',nm',qn',bs',hdct',sn',sub',ab',col',dd',j0,j1,j2,j3,j5,mN',hD,hN'',hni',T'⟩:=zU I.kIn hx;have e1:=U3_ (d:=d) I.kIn hc hC;obtain⟨_,_,_,_,_,_,_,_,_,_,_,oe,_,he,hcls,_⟩:=id h;obtain⟨hp,g,dr,tk,os⟩:=s;refine Yh hC hD he hcls.1 (T'.hasType (by decide +kernel)) ?_;rw[e1];unfold DK at q;cases hb:L2.mroIn X.K C d with
 | true=>
  rw[aa5 hb]at q;refine codeAny_handlers_suite_as (h.flight λh' h2=>?_);obtain⟨e0,I2⟩:=h2.take;refine tW (X:=X.hand e) (v:=.ref e) (I2.hand e) hN hi (.inl hk) rfl (λs3 I3=>?_) (.inr hk);refine wpAny_mono (hs e acR _ _ _ _ I3 (q e e0)) (λf s1 q1=>?_) λ_ _ z=>False.elim z;cases f with
  | next=>obtain⟨O',H',J,q2⟩:=q1; exact qz (J.unhand I.ok.hd) hN hi hk λs' I'=>⟨_,H',I',q2⟩
  | brk=>obtain⟨O',H',J,q2⟩:=q1; exact qz (J.unhand I.ok.hd) hN hi hk λs' I'=>⟨_,H',I',q2⟩
  | cont=>obtain⟨O',H',J,q2⟩:=q1; exact qz (J.unhand I.ok.hd) hN hi hk λs' I'=>⟨_,H',I',q2⟩
  | ret u=>obtain⟨v,O',H',J,r,q2⟩:=q1; exact qz (J.unhand I.ok.hd) hN hi hk λs' I'=>⟨v,_,H',I',r,q2⟩
 | false=>
  rw[aa6 (by rw[hb]; decide)]at q;exact hr acR _ O H D e C h hc q
def U6 (K:FG) (cv:V):List V->Hp->VK->Prop:=λxs H Q=>∃e c u b,xs=[.ref e,cv]/\RelV cv u/\H e=some (.ext (sE e c))/\oJ K c/\W.kitOne K (.ref c) u=some b/\Q (.bl b) H
theorem xK {cv:V} (h1:∀u u',RelV cv u->RelV cv u'->u=u'):mF X (.builtin "isinstance") (U6 X.K cv):=by intro acR s O H xs us Q I r h;obtain⟨e,c,u,b,rfl,ru,he,T,hb,q⟩:=h;obtain⟨u1,w',rfl,r1,r2⟩:=vals2 r;cases r1;have:=h1 _ _ r2 ru;subst this;obtain⟨⟨o,p⟩,_⟩:=I.hok e _ he;exact aaL (DG T) I.kIn p hb (by intro z; cases z) λtk=>⟨.bl b,H,I.tok tk,rfl,q⟩
end
section
variable {X:Cx} {acR:List (Addr×Obj)} {O:St} {H:Hp} {s:Shared} {a b:Addr} {kvs more:List (Key×V)} {A:Around} {E:Value->Shared->Prop}
theorem NP {Q:Value->Shared->Prop} (I:Inv X acR O H s) (e:H a=some (.dK kvs)) (e2:Rd H b (.dK more)) (hne:a≠b) (hl:kvs.length+more.length<=sizeLine) (h:∀s',Inv X acR O (upd H a (.dK (m6 kvs more))) s'->Q .none s'):wpAny (model X.prog X.w) A (call (.builtin "dict.update") [.ref a,.ref b]) Q E s:=by obtain⟨z,hd,vs,rel,dd⟩:=CG I.hok e;obtain⟨z2,hd2,vs2,rel2,dd2⟩:=v8 I.hok e2;refine call_meetsIn F.slot_dict_update dd.typeIs F.entry_dict_update (F.args_dict_update_2 _ _) (meets_dict_update (dj X.prog X.w) a b hne hd2) ⟨vs,vs2,dd,dd2,by rw[<-rel.length,<-rel2.length]; exact hl,λh' m1 _ hs=>h _ ?_⟩;have he:∃q,h'.get? a=some q:=let ⟨q,_,_,hq,_⟩:=m1; ⟨q,hq⟩;exact v9 I (by rw[e]; exact True.intro) hs he (Dt (ZD (uM _ _) hl) hd (KV.merge rel2 rel) m1)
end
def Qv (td ty:TE):TE:=λO H Q=>td O H λx H1=>∃a,x=.ref a/\Xo H1 a/\ty O H1 λy H2=>∃b kvs more,y=.ref b/\H2 a=some (.dK kvs)/\Rd H2 b (.dK more)/\a≠b/\kvs.length+more.length<=sizeLine/\Q .non (upd H2 a (.dK (m6 kvs more)))
section
variable {X:Cx} {o e:Expr} {apos cpos:Pos} {td ty:TE}
theorem RK (ho:PE X o td) (he:PE X e ty) (m:M1 X o "update" apos e cpos):PE X (.Call (.Attribute o "update" apos) [e] [] cpos) (Qv td ty):=by intro acR s O H Q I h;refine wpAny_Call_method m.base m.few m.line F.plainAttrs_dict F.slot_dict_update F.type_dict_update (bT (ho acR s O H _ I h) λu s1 ⟨x,H1,I1,rx,a,ex,d,q1⟩=>?_);subst ex;obtain rfl:u=Value.ref a:=rx;obtain⟨t1,t2,_⟩:=Uy I1 d;refine⟨t1,t2,?_⟩;rw[m.trees];refine Calls.callWith_builtin rfl (Calls.evalArgs_plain (Calls.spliced_cons (bT (he acR s1 O H1 _ I1 q1) λiv s2 ⟨y,H2,I2,ry,b,kvs,more,ey,ea,eb,hne,hl,q2⟩=>Calls.spliced_nil ?_)));subst ey;obtain rfl:iv=Value.ref b:=ry;exact NP I2 ea eb hne hl λs3 I3=>⟨.non,_,I3,rfl,q2⟩
theorem DN:mF X (.type "dict") (λxs H Q=>∃a kvs,xs=[.ref a]/\Rd H a (.dK kvs)/\∀p,H p=none->Q (.ref p) (upd H p (.dK kvs))):=by intro acR s O H xs us Q I r h;obtain⟨a,kvs,rfl,e,k⟩:=h;obtain⟨u,rfl,ru⟩:=vals1 r;obtain rfl:u=Value.ref a:=ru;exact Np I e λp s' hp I'=>⟨.ref p,_,I',rfl,k p hp⟩
end
end L2
namespace PL
open PySem PySem.Spec PyProof.Rows L2
inductive PV where
 | non
 | bl (b:Bool)
 | int (i:Int)
 | str (x:Str)
 | tup (ps:List PV)
 | lst (ps:List PV)
 | dk (ks:List Key) (ps:List PV)
 | dt (ks:List (List Key)) (ps:List PV)
 | obj (C:Str) (ks:List Str) (ps:List PV)
 | df (ks:List Key) (ps:List PV)
 | dtf (ks:List (List Key)) (ps:List PV)
 | dx (hk:List dg->Int) (ks:List (List dg)) (ps:List PV)
 | exc (C:Str)
 | fn (x:Str)
 | ptr (n:Nat)
structure ZG where
 z:Hp
 g:List Addr
def iM (Z Z':ZG):Prop:=cY Z.z Z'.z/\Z.g <+: Z'.g
theorem iM.refl (Z:ZG):iM Z Z:=⟨cY.refl _,Z6 _⟩
theorem iM.trans {Z Z1 Z2:ZG} (a:iM Z Z1) (b:iM Z1 Z2):iM Z Z2:=⟨a.1.trans b.1,a.2.trans b.2⟩
theorem RL {α:Type} {l r:List α} {n:Nat} {a:α} (h:l <+: r) (e:l[n]?=some a):r[n]?=some a:=by obtain⟨t,rfl⟩:=h;rw[Zj (YS.mp e).1]; exact e
def CN (K:FG) (C:Str) (c:Addr):Prop:=W.nsIn K mainGlobals C=some (some (.ref c))
mutual
def Rep (K:FG) (Z:ZG):PV->V->Prop
 | .non,v=>v=.non
 | .bl b,v=>v=.bl b
 | .int i,v=>v=.int i
 | .str x,v=>v=.str x
 | .tup ps,v=>∃a vs,v=.ref a/\bV K Z.z a vs/\aF K Z ps vs
 | .lst ps,v=>∃a vs,v=.ref a/\bI K Z.z a vs/\aF K Z ps vs
 | .dk ks ps,v=>∃a kvs,v=.ref a/\Z.z a=some (.dK kvs)/\kvs.map (·.1)=ks/\aF K Z ps (kvs.map (·.2))
 | .dt ks ps,v=>∃a kvs,v=.ref a/\Z.z a=some (.dT kvs)/\kvs.map (·.1)=ks/\aF K Z ps (kvs.map (·.2))
 | .obj C ks ps,v=>∃a c dx fs,v=.ref a/\CN K C c/\Z.z a=some (.ins c dx fs)/\fs.map (·.1)=ks/\aF K Z ps (fs.map (·.2))
 | .df ks ps,v=>∃a o kvs,v=.ref a/\Z.z a=some (.frz o (.dK kvs))/\kvs.map (·.1)=ks/\aF K Z ps (kvs.map (·.2))
 | .dtf ks ps,v=>∃a o kvs,v=.ref a/\Z.z a=some (.frz o (.dT kvs))/\kvs.map (·.1)=ks/\aF K Z ps (kvs.map (·.2))
 | .dx hk ks ps,v=>∃a xs,v=.ref a/\Z.z a=some (.ext (sW hk a xs))/\xs.map (·.1)=ks/\(∀x∈xs,bV K Z.z x.2.1 (x.1.map rH))/\aF K Z ps (xs.map (·.2.2))
 | .exc C,v=>∃a c,v=.ref a/\CN K C c/\Z.z a=some (.ext (sE a c))
 | .fn x,v=>∃a,v=.ref a/\CN K x a
 | .ptr n,v=>∃a,v=.ref a/\Z.g[n]?=some a
def aF (K:FG) (Z:ZG):List PV->List V->Prop
 | [],vs=>vs=[]
 | p::ps,vs=>∃v r,vs=v::r/\Rep K Z p v/\aF K Z ps r
end
theorem bI.same {K:FG} {Z Z':Hp} {a:Addr} {vs:List V} (s:cY Z Z') (h:bI K Z a vs):bI K Z' a vs:=s.seq h
theorem bV.same {K:FG} {Z Z':Hp} {a:Addr} {vs:List V} (s:cY Z Z') (h:bV K Z a vs):bV K Z' a vs:=by
 rcases h with (h | ⟨o,h⟩) | h
 . exact .inl (.inl (s _ _ h))
 . exact .inl (.inr ⟨o,s _ _ h⟩)
 . exact .inr h
mutual
theorem Rep.mono {K:FG} {Z Z':ZG} (s:iM Z Z'):∀{p:PV} {v:V},Rep K Z p v->Rep K Z' p v
 | .non,v,h=>h
 | .bl _,v,h=>h
 | .int _,v,h=>h
 | .str _,v,h=>h
 | .tup ps,v,h=>by unfold Rep at h ⊢;obtain⟨a,vs,e,h1,h2⟩:=h;exact⟨a,vs,e,bV.same s.1 h1,aF.mono s h2⟩
 | .lst ps,v,h=>by unfold Rep at h ⊢;obtain⟨a,vs,e,h1,h2⟩:=h;exact⟨a,vs,e,bI.same s.1 h1,aF.mono s h2⟩
 | .dk ks ps,v,h=>by unfold Rep at h ⊢;obtain⟨a,kvs,e,h1,h2,h3⟩:=h;exact⟨a,kvs,e,s.1 _ _ h1,h2,aF.mono s h3⟩
 | .dt ks ps,v,h=>by unfold Rep at h ⊢;obtain⟨a,kvs,e,h1,h2,h3⟩:=h;exact⟨a,kvs,e,s.1 _ _ h1,h2,aF.mono s h3⟩
 | .obj C ks ps,v,h=>by unfold Rep at h ⊢;obtain⟨a,c,dx,fs,e,cn,h1,h2,h3⟩:=h;exact⟨a,c,dx,fs,e,cn,s.1 _ _ h1,h2,aF.mono s h3⟩
 | .df ks ps,v,h=>by unfold Rep at h ⊢;obtain⟨a,o,kvs,e,h1,h2,h3⟩:=h;exact⟨a,o,kvs,e,s.1 _ _ h1,h2,aF.mono s h3⟩
 | .dtf ks ps,v,h=>by unfold Rep at h ⊢;obtain⟨a,o,kvs,e,h1,h2,h3⟩:=h;exact⟨a,o,kvs,e,s.1 _ _ h1,h2,aF.mono s h3⟩
 | .dx hk ks ps,v,h=>by unfold Rep at h ⊢;obtain⟨a,xs,e,h1,h2,h4,h3⟩:=h;exact⟨a,xs,e,s.1 _ _ h1,h2,λx hx=>bV.same s.1 (h4 x hx),aF.mono s h3⟩
 | .exc C,v,h=>by unfold Rep at h ⊢;obtain⟨a,c,e,cn,h1⟩:=h;exact⟨a,c,e,cn,s.1 _ _ h1⟩
 | .fn x,v,h=>by unfold Rep at h ⊢; exact h
 | .ptr n,v,h=>by unfold Rep at h ⊢;obtain⟨a,e,h1⟩:=h;exact⟨a,e,RL s.2 h1⟩
theorem aF.mono {K:FG} {Z Z':ZG} (s:iM Z Z'):∀{ps:List PV} {vs:List V},aF K Z ps vs->aF K Z' ps vs
 | [],vs,h=>by unfold aF at h ⊢; exact h
 | p::ps,vs,h=>by unfold aF at h ⊢;obtain⟨v,r,e,h1,h2⟩:=h;exact⟨v,r,e,Rep.mono s h1,aF.mono s h2⟩
end
section
variable {K:FG} {Z:ZG}
theorem aF.length:∀{ps:List PV} {vs:List V},aF K Z ps vs->vs.length=ps.length
 | [],vs,h=>by unfold aF at h; subst h; rfl
 | p::ps,vs,h=>by unfold aF at h;obtain⟨v,r,rfl,_,h2⟩:=h;simp[aF.length h2]
theorem aF.nil:aF K Z [] []:=by unfold aF; rfl
theorem aF.cons {p:PV} {ps:List PV} {v:V} {vs:List V} (h:Rep K Z p v) (t:aF K Z ps vs):aF K Z (p::ps) (v::vs):=by unfold aF; exact⟨v,vs,rfl,h,t⟩
theorem aF.inv {p:PV} {ps:List PV} {vs:List V} (h:aF K Z (p::ps) vs):∃v r,vs=v::r/\Rep K Z p v/\aF K Z ps r:=by unfold aF at h; exact h
theorem aF.inv0 {vs:List V} (h:aF K Z [] vs):vs=[]:=by unfold aF at h; exact h
theorem aF.append:∀{ps qs:List PV} {vs ws:List V},aF K Z ps vs->aF K Z qs ws->aF K Z (ps++qs) (vs++ws)
 | [],qs,vs,ws,h,g=>by have:=h.inv0; subst this; exact g
 | p::ps,qs,vs,ws,h,g=>by obtain⟨v,r,rfl,h1,h2⟩:=h.inv;exact aF.cons h1 (aF.append h2 g)
theorem aF.get:∀{ps:List PV} {vs:List V} {i:Nat} {p:PV},aF K Z ps vs->ps[i]?=some p->∃v,vs[i]?=some v/\Rep K Z p v
 | [],vs,i,p,h,e=>by simp at e
 | q::ps,vs,0,p,h,e=>by obtain⟨v,r,rfl,h1,h2⟩:=h.inv;simp at e; subst e;exact⟨v,rfl,h1⟩
 | q::ps,vs,i+1,p,h,e=>by obtain⟨v,r,rfl,h1,h2⟩:=h.inv;obtain⟨u,h3,h4⟩:=aF.get (i:=i) (p:=p) h2 (by simpa using e);exact⟨u,by simpa using h3,h4⟩
theorem aF.getV {ps:List PV} {vs:List V} {i:Nat} {v:V} (h:aF K Z ps vs) (e:vs[i]?=some v):∃p,ps[i]?=some p/\Rep K Z p v:=by
 have hi:i<ps.length:=by rw[<-h.length]; exact(YS.mp e).1
 obtain⟨u,h1,h2⟩:=h.get (i:=i) (p:=ps[i]) (YT hi);rw[e]at h1; cases h1;exact⟨_,YT hi,h2⟩
theorem aF.set {q:PV} {u:V} (hq:Rep K Z q u):∀{ps:List PV} {vs:List V} (i:Nat),aF K Z ps vs->aF K Z (ps.set i q) (vs.set i u)
 | [],vs,i,h=>by have:=h.inv0; subst this; exact h
 | p::ps,vs,0,h=>by obtain⟨v,r,rfl,h1,h2⟩:=h.inv;exact aF.cons hq h2
 | p::ps,vs,i+1,h=>by obtain⟨v,r,rfl,h1,h2⟩:=h.inv;exact aF.cons h1 (aF.set hq i h2)
theorem aF.take:∀{ps:List PV} {vs:List V} (n:Nat),aF K Z ps vs->aF K Z (ps.take n) (vs.take n)
 | [],vs,n,h=>by have:=h.inv0; subst this; simp; exact .nil
 | p::ps,vs,0,h=>by simp; exact .nil
 | p::ps,vs,n+1,h=>by obtain⟨v,r,rfl,h1,h2⟩:=h.inv;exact aF.cons h1 (aF.take n h2)
theorem aF.drop:∀{ps:List PV} {vs:List V} (n:Nat),aF K Z ps vs->aF K Z (ps.drop n) (vs.drop n)
 | [],vs,n,h=>by have:=h.inv0; subst this; simp; exact .nil
 | p::ps,vs,0,h=>h
 | p::ps,vs,n+1,h=>by obtain⟨v,r,rfl,h1,h2⟩:=h.inv;exact aF.drop n h2
end
inductive Lc where
 | sh (p:PV)
 | own (p:PV)
def Lc.pv:Lc->PV
 | .sh p=>p
 | .own p=>p
abbrev Mu:=List (Option PV)
structure Ev where
 vs:List (Option Lc)
 mu:Mu
abbrev Pd:=List (V×Lc)
def qM (K:FG) (Z:ZG) (H:Hp) (a:Addr):PV->Prop
 | .lst ps=>∃vs,H a=some (.lst vs)/\aF K Z ps vs
 | .dk ks ps=>∃kvs,H a=some (.dK kvs)/\kvs.map (·.1)=ks/\aF K Z ps (kvs.map (·.2))
 | .dt ks ps=>∃kvs,H a=some (.dT kvs)/\kvs.map (·.1)=ks/\aF K Z ps (kvs.map (·.2))
 | .dx hk ks ps=>∃xs,H a=some (.ext (sW hk a xs))/\xs.map (·.1)=ks/\(∀x∈xs,bV K Z.z x.2.1 (x.1.map rH))/\aF K Z ps (xs.map (·.2.2))
 | .exc C=>∃c,CN K C c/\H a=some (.ext (sE a c))
 | .obj C ks ps=>∃c dx fs,CN K C c/\H a=some (.ins c dx fs)/\fs.map (·.1)=ks/\aF K Z ps (fs.map (·.2))
 | _=>False
def VR (K:FG) (H0:Hp) (Z:ZG) (H:Hp) (v:Option V):Option Lc->Prop
 | none=>True
 | some (.sh p)=>∃x,v=some x/\Rep K Z p x
 | some (.own p)=>∃a,v=some (.ref a)/\qM K Z H a p/\Z.z a=none/\H0 a=none
def lN:Option V×Option Lc->Option Addr
 | (some (.ref a),some (.own _))=>some a
 | _=>none
abbrev Sl:=List (Option V×Option Lc)
def Slots (K:FG) (H0:Hp) (Z:ZG) (H:Hp) (L:Sl):Prop:=(∀e∈L,VR K H0 Z H e.1 e.2)/\(L.filterMap lN).Nodup
def cel (g:List Addr) (mu:Mu):Sl:=(g.map λa=>some (V.ref a)).zip (mu.map λo=>o.map Lc.own)
def m7 (g:List Addr) (mu:Mu):List Addr:=(cel g mu).filterMap lN
def sl (g:List Addr) (O:L2.St) (U:Ev) (pd:Pd):Sl:=cel g U.mu++(O.zip U.vs++pd.map λe=>(some e.1,some e.2))
def CP:HO->Prop
 | .tup _=>True
 | .frz _ _=>True
 | _=>False
structure jW (H0:Hp) (Z0 Z:ZG) (H:Hp):Prop where
 zh:cY Z.z H
 h0:cY H0 H
 z0:iM Z0 Z
 new:∀b o,Z.z b=some o->Z0.z b=some o\/H0 b=none\/CP o
def SR (K:FG) (H0:Hp) (Z0:ZG) (O:L2.St) (H:Hp) (U:Ev) (pd:Pd):Prop:=O.length=U.vs.length/\∃Z,U.mu.length=Z.g.length/\jW H0 Z0 Z H/\Slots K H0 Z H (sl Z.g O U pd)
section
variable {K:FG} {H0 H H':Hp} {Z0 Z Z':ZG} {L L':Sl} {O:L2.St} {U:Ev} {pd:Pd}
theorem Slots.sub (h:Slots K H0 Z H L) (s:List.Sublist L' L):Slots K H0 Z H L':=⟨λe he=>h.1 e (s.subset he),h.2.sublist (s.filterMap lN)⟩
theorem Slots.perm (h:Slots K H0 Z H L) (s:List.Perm L' L):Slots K H0 Z H L':=⟨λe he=>h.1 e (s.subset he),(s.filterMap lN).nodup_iff.mpr h.2⟩
theorem qM.keep {a:Addr} {p:PV} (h:qM K Z H a p) (z:iM Z Z') (e:H' a=H a):qM K Z' H' a p:=by
 cases p with
 | lst ps=>obtain⟨vs,h1,h2⟩:=h; exact⟨vs,by rw[e]; exact h1,h2.mono z⟩
 | dk ks ps=>obtain⟨vs,h1,h2,h3⟩:=h; exact⟨vs,by rw[e]; exact h1,h2,h3.mono z⟩
 | dt ks ps=>obtain⟨vs,h1,h2,h3⟩:=h; exact⟨vs,by rw[e]; exact h1,h2,h3.mono z⟩
 | dx hk ks ps=>obtain⟨vs,h1,h2,h4,h3⟩:=h; exact⟨vs,by rw[e]; exact h1,h2,λx hx=>bV.same z.1 (h4 x hx),h3.mono z⟩
 | exc C=>obtain⟨c,cn,h1⟩:=h; exact⟨c,cn,by rw[e]; exact h1⟩
 | obj C ks ps=>obtain⟨c,dx,fs,cn,h1,h2,h3⟩:=h; exact⟨c,dx,fs,cn,by rw[e]; exact h1,h2,h3.mono z⟩
 | _=>exact h
theorem qM.some {a:Addr} {p:PV} (h:qM K Z H a p):∃o,H a=some o/\¬ CP o:=by
 cases p with
 | lst ps=>obtain⟨vs,h1,h2⟩:=h; exact⟨_,h1,λz=>z⟩
 | dk ks ps=>obtain⟨vs,h1,h2,h3⟩:=h; exact⟨_,h1,λz=>z⟩
 | dt ks ps=>obtain⟨vs,h1,h2,h3⟩:=h; exact⟨_,h1,λz=>z⟩
 | dx hk ks ps=>obtain⟨vs,h1,h2,h3⟩:=h; exact⟨_,h1,λz=>z⟩
 | exc C=>obtain⟨c,cn,h1⟩:=h; exact⟨_,h1,λz=>z⟩
 | obj C ks ps=>obtain⟨c,dx,fs,cn,h1,h2,h3⟩:=h; exact⟨_,h1,λz=>z⟩
 | _=>exact h.elim
theorem qM.rep {a:Addr} {p:PV} (h:qM K Z H a p) (z:iM Z Z') (e:Z'.z a=H a):Rep K Z' p (.ref a):=by
 cases p with
 | lst ps=>obtain⟨vs,h1,h2⟩:=h; unfold Rep; exact⟨a,vs,rfl,bI.of (by rw[e]; exact h1),h2.mono z⟩
 | dk ks ps=>obtain⟨vs,h1,h2,h3⟩:=h; unfold Rep; exact⟨a,vs,rfl,by rw[e]; exact h1,h2,h3.mono z⟩
 | dt ks ps=>obtain⟨vs,h1,h2,h3⟩:=h; unfold Rep; exact⟨a,vs,rfl,by rw[e]; exact h1,h2,h3.mono z⟩
 | dx hk ks ps=>obtain⟨vs,h1,h2,h4,h3⟩:=h; unfold Rep; exact⟨a,vs,rfl,by rw[e]; exact h1,h2,λx hx=>bV.same z.1 (h4 x hx),h3.mono z⟩
 | exc C=>obtain⟨c,cn,h1⟩:=h; unfold Rep; exact⟨a,c,rfl,cn,by rw[e]; exact h1⟩
 | obj C ks ps=>obtain⟨c,dx,fs,cn,h1,h2,h3⟩:=h; unfold Rep; exact⟨a,c,dx,fs,rfl,cn,by rw[e]; exact h1,h2,h3.mono z⟩
 | _=>exact h.elim
theorem Slots.step (h:Slots K H0 Z H L) (z:iM Z Z') (hk:∀e∈L,∀a,lN e=some a->H' a=H a/\Z'.z a=none):Slots K H0 Z' H' L:=by
 refine⟨λe he=>?_,h.2⟩;have q:=h.1 e he;obtain⟨v,l⟩:=e;cases l with
 | none=>trivial
 | some l=>
  cases l with
  | sh p=>obtain⟨x,e1,e2⟩:=q; exact⟨x,e1,e2.mono z⟩
  | own p=>
   obtain⟨a,e1,e2,e3,e4⟩:=q;have e1':v=some (.ref a):=e1;subst e1';obtain⟨k1,k2⟩:=hk _ he a rfl;exact⟨a,rfl,e2.keep z k1,k2,e4⟩
theorem jh (h:Slots K H0 Z H L) {e:Option V×Option Lc} (he:e∈L) {a:Addr} (ha:lN e=some a):Z.z a=none/\H0 a=none/\∃o,H a=some o/\¬ CP o:=by
 obtain⟨v,l⟩:=e;have q:=h.1 _ he;cases l with
 | none=>cases v with
  | none=>cases ha
  | some x=>cases x<;>cases ha
 | some l=>
  cases l with
  | sh p=>cases v with
   | none=>cases ha
   | some x=>cases x<;>cases ha
  | own p=>
   obtain⟨b,e1,e2,e3,e4⟩:=q;have e1':v=some (.ref b):=e1;subst e1';cases ha;exact⟨e3,e4,e2.some⟩
theorem Slots.new (h:Slots K H0 Z H L) (zo:jW H0 Z0 Z H) {a:Addr} {o:HO} {p:PV} (ha:H a=none) (hp:qM K Z (upd H a o) a p):jW H0 Z0 Z (upd H a o)/\Slots K H0 Z (upd H a o) ((some (.ref a),some (.own p))::L):=by
 have hz:Z.z a=none:=zo.zh.free ha;have h0:H0 a=none:=zo.h0.free ha;refine⟨⟨λb u e=>by rw[bF (dC e hz)]; exact zo.zh b u e,λb u e=>by rw[bF (dC e h0)]; exact zo.h0 b u e,zo.z0,zo.new⟩,?_⟩;have hne:∀e∈L,∀b,lN e=some b->b≠a:=λe he b hb=>by obtain⟨_,_,o',h3,_⟩:=jh h he hb;exact dC h3 ha
 have st:=h.step (Z':=Z) (H':=upd H a o) (iM.refl Z) λe he b hb=>⟨bF (hne e he b hb),(jh h he hb).1⟩;refine⟨λe he=>?_,?_⟩
 . rcases YM.mp he with rfl | he
   . exact⟨a,rfl,hp,hz,h0⟩
   . exact st.1 e he
 . show (a::L.filterMap lN).Nodup;refine ZP.mpr ⟨λhm=>?_,st.2⟩;obtain⟨e,he,hb⟩:=Zv.mp hm;exact hne e he a hb rfl
abbrev ZG.put (Z:ZG) (a:Addr) (o:HO):ZG:=⟨upd Z.z a o,Z.g⟩
theorem Slots.newF (h:Slots K H0 Z H L) (zo:jW H0 Z0 Z H) {a:Addr} {o:HO} (ha:H a=none):jW H0 Z0 (Z.put a o) (upd H a o)/\iM Z (Z.put a o)/\Slots K H0 (Z.put a o) (upd H a o) L:=by
 have hz:Z.z a=none:=zo.zh.free ha;have h0:H0 a=none:=zo.h0.free ha;have sz:cY Z.z (upd Z.z a o):=λb u e=>by rw[bF (dC e hz)]; exact e
 have lz:iM Z (Z.put a o):=⟨sz,Z6 _⟩;refine⟨⟨λb u e=>?_,λb u e=>by rw[bF (dC e h0)]; exact zo.h0 b u e,zo.z0.trans lz,λb u e=>?_⟩,lz,?_⟩
 . have e:upd Z.z a o b=some u:=e;unfold upd at e ⊢;split
   . rename_i q; rw[aa5 q]at e; exact e
   . rename_i q; rw[aa6 q]at e; exact zo.zh b u e
 . have e:upd Z.z a o b=some u:=e;unfold upd at e;split at e
   . rename_i q; rw[q]; exact .inr (.inl h0)
   . exact zo.new b u e
 . refine h.step lz λe he b hb=>?_;obtain⟨h1,h2,o',h3,_⟩:=jh h he hb;have hba:=dC h3 ha;exact⟨bF hba,by show upd Z.z a o b=none; rw[bF hba]; exact h1⟩
theorem Slots.freeze {v:Option V} {p:PV} (h:Slots K H0 Z H ((v,some (.own p))::L)) (zo:jW H0 Z0 Z H):∃Z',iM Z Z'/\Z'.g=Z.g/\jW H0 Z0 Z' H/\Slots K H0 Z' H ((v,some (.sh p))::L):=by
 obtain⟨a,e1,e2,e3,e4⟩:=h.1 _ YK;have e1':v=some (.ref a):=e1;subst e1';obtain⟨o,ho,_⟩:=e2.some;have sz:cY Z.z (upd Z.z a o):=λb u e=>by rw[bF (dC e e3)]; exact e
 have lz:iM Z (Z.put a o):=⟨sz,Z6 _⟩;have nd:(a::L.filterMap lN).Nodup:=h.2;have hL:Slots K H0 Z H L:=h.sub (Y4 _ _);refine⟨Z.put a o,lz,rfl,⟨λb u e=>?_,zo.h0,zo.z0.trans lz,λb u e=>?_⟩,λe he=>?_,(ZP.mp nd).2⟩
 . have e:upd Z.z a o b=some u:=e;unfold upd at e;split at e
   . rename_i q; cases e; rw[q]; exact ho
   . exact zo.zh b u e
 . have e:upd Z.z a o b=some u:=e;unfold upd at e;split at e
   . rename_i q; rw[q]; exact .inr (.inl e4)
   . exact zo.new b u e
 . rcases YM.mp he with rfl | he
   . exact⟨.ref a,rfl,e2.rep lz (by show upd Z.z a o a=_; rw[bA,ho])⟩
   . refine(hL.step (Z':=Z.put a o) (H':=H) lz λe' he' b hb=>⟨rfl,?_⟩).1 e he;have:b≠a:=λq=>by rw[q]at hb;exact(ZP.mp nd).1 (Zv.mpr ⟨e',he',hb⟩)
     show upd Z.z a o b=none;rw[bF this];exact(jh hL he' hb).1
theorem Slots.write {a:Addr} {p q:PV} {o:HO} (h:Slots K H0 Z H ((some (.ref a),some (.own p))::L)) (zo:jW H0 Z0 Z H) (hq:qM K Z (upd H a o) a q):jW H0 Z0 Z (upd H a o)/\Slots K H0 Z (upd H a o) ((some (.ref a),some (.own q))::L):=by
 obtain⟨b,e1,e2,e3,e4⟩:=h.1 _ YK;cases e1;have nd:(a::L.filterMap lN).Nodup:=h.2;have hL:Slots K H0 Z H L:=h.sub (Y4 _ _);refine⟨⟨λb u e=>by rw[bF (dC e e3)]; exact zo.zh b u e,λb u e=>by rw[bF (dC e e4)]; exact zo.h0 b u e,zo.z0,zo.new⟩,λe he=>?_,nd⟩;rcases YM.mp he with rfl | he
 . exact⟨a,rfl,hq,e3,e4⟩
 . refine(hL.step (Z':=Z) (H':=upd H a o) (iM.refl Z) λe' he' b hb=>⟨bF λq=>?_,(jh hL he' hb).1⟩).1 e he;rw[q]at hb;exact(ZP.mp nd).1 (Zv.mpr ⟨e',he',hb⟩)
end
variable {K:FG} {H0 H:Hp} {Z0:ZG} {O:L2.St} {U:Ev} {pd:Pd}
theorem vf {α:Type}:∀{l:List α} {i:Nat} {a:α},l[i]?=some a->∃R,List.Perm l (a::R)/\∀b,List.Perm (l.set i b) (b::R)
 | [],i,a,h=>by simp at h
 | x::r,0,a,h=>by simp at h; subst h;exact⟨r,List.Perm.refl _,λb=>List.Perm.refl _⟩
 | x::r,i+1,a,h=>by obtain⟨R,h1,h2⟩:=vf (l:=r) (i:=i) (a:=a) (by simpa using h);refine⟨x::R,(h1.cons x).trans (List.Perm.swap _ _ _),λb=>?_⟩;simp only[List.set_cons_succ];exact((h2 b).cons x).trans (List.Perm.swap _ _ _)
theorem zV {α β:Type}:∀(l:List α) (r:List β) (i:Nat) (a:α) (b:β),(l.set i a).zip (r.set i b)=(l.zip r).set i (a,b)
 | [],r,i,a,b=>by simp
 | x::l,[],i,a,b=>by simp
 | x::l,y::r,0,a,b=>by simp
 | x::l,y::r,i+1,a,b=>by simp[zV l r i a b]
theorem zip_get {α β:Type}:∀{l:List α} {r:List β} {i:Nat} {a:α} {b:β},l[i]?=some a->r[i]?=some b->(l.zip r)[i]?=some (a,b)
 | [],r,i,a,b,h,g=>by simp at h
 | x::l,[],i,a,b,h,g=>by simp at g
 | x::l,y::r,0,a,b,h,g=>by simp at h g; simp[h,g]
 | x::l,y::r,i+1,a,b,h,g=>by have:=zip_get (l:=l) (r:=r) (i:=i) (by simpa using h) (by simpa using g);simpa using this
theorem abf {α:Type}:∀{l:List α} {i:Nat} {a:α},l[i]?=some a->l.set i a=l
 | [],i,a,h=>by simp at h
 | x::r,0,a,h=>by simp at h; subst h; simp
 | x::r,i+1,a,h=>by simp[abf (l:=r) (i:=i) (a:=a) (by simpa using h)]
def Ev.set (U:Ev) (i:Nat) (x:Option Lc):Ev:=⟨U.vs.set i x,U.mu⟩
section
variable {K:FG} {H0 H H':Hp} {Z0 Z:ZG} {O:L2.St} {U:Ev} {pd pd':Pd} {v w:V} {l:Lc} {p:PV} {L:Sl} {g:List Addr}
theorem bQ:List.Perm (sl g O U ((v,l)::pd)) ((some v,some l)::sl g O U pd):=by unfold sl;exact(List.perm_middle.append_left _).trans ZL
theorem SR.top (h:SR K H0 Z0 O H U ((v,l)::pd)):O.length=U.vs.length/\∃Z,U.mu.length=Z.g.length/\jW H0 Z0 Z H/\Slots K H0 Z H ((some v,some l)::sl Z.g O U pd):=
 let ⟨e,Z,hg,z,s⟩:=h
 ⟨e,Z,hg,z,s.perm bQ.symm⟩
theorem SR.mk (e:O.length=U.vs.length) (hg:U.mu.length=Z.g.length) (z:jW H0 Z0 Z H) (s:Slots K H0 Z H ((some v,some l)::sl Z.g O U pd)):SR K H0 Z0 O H U ((v,l)::pd):=⟨e,Z,hg,z,s.perm bQ⟩
theorem SR.pop (h:SR K H0 Z0 O H U ((v,l)::pd)):SR K H0 Z0 O H U pd:=
 let ⟨e,Z,hg,z,s⟩:=h.top
 ⟨e,Z,hg,z,s.sub (Y4 _ _)⟩
theorem SR.perm (h:SR K H0 Z0 O H U pd) (q:List.Perm pd' pd):SR K H0 Z0 O H U pd':=
 let ⟨e,Z,hg,z,s⟩:=h
 ⟨e,Z,hg,z,s.perm (((q.map _).append_left _).append_left _)⟩
theorem SR.swap {l2:Lc} (h:SR K H0 Z0 O H U ((v,l)::(w,l2)::pd)):SR K H0 Z0 O H U ((w,l2)::(v,l)::pd):=h.perm (List.Perm.swap _ _ _)
theorem SR.freeze (h:SR K H0 Z0 O H U ((v,l)::pd)):SR K H0 Z0 O H U ((v,.sh l.pv)::pd):=by
 cases l with
 | sh p=>exact h
 | own p=>
  obtain⟨e,Z,hg,z,s⟩:=h.top;obtain⟨Z',_,eg,z',s'⟩:=s.freeze z;refine .mk (Z:=Z') e (by rw[eg]; exact hg) z' ?_;rw[eg]; exact s'
theorem SR.sh (h:SR K H0 Z0 O H U ((v,.sh p)::pd)):O.length=U.vs.length/\∃Z,U.mu.length=Z.g.length/\jW H0 Z0 Z H/\Rep K Z p v/\Slots K H0 Z H (sl Z.g O U pd):=by obtain⟨e,Z,hg,z,s⟩:=h.top;obtain⟨x,e1,e2⟩:=s.1 _ YK;cases e1;exact⟨e,Z,hg,z,e2,s.sub (Y4 _ _)⟩
theorem SR.rep (h:SR K H0 Z0 O H U ((v,.sh p)::pd)):∃Z:ZG,cY Z.z H/\Rep K Z p v:=let ⟨_,Z,_,z,r,_⟩:=h.sh; ⟨Z,z.zh,r⟩
theorem SR.repH (h:SR K H0 Z0 O H U ((v,.sh p)::pd)):∃g,Rep K ⟨H,g⟩ p v:=let ⟨_,Z,_,z,r,_⟩:=h.sh; ⟨Z.g,r.mono (Z':=⟨H,Z.g⟩) ⟨z.zh,Z6 _⟩⟩
theorem Slots.consS (s:Slots K H0 Z H L) (r:Rep K Z p v):Slots K H0 Z H ((some v,some (.sh p))::L):=by
 refine⟨λe he=>?_,?_⟩
 . rcases YM.mp he with rfl | he
   . exact⟨v,rfl,r⟩
   . exact s.1 e he
 . have:lN (some v,some (Lc.sh p))=none:=by cases v<;>rfl
   rw[Zr this];exact s.2
theorem SR.scal (h:SR K H0 Z0 O H U pd) (r:∀Z,Rep K Z p v):SR K H0 Z0 O H U ((v,.sh p)::pd):=
 let ⟨e,Z,hg,z,s⟩:=h
 .mk e hg z (s.consS (r Z))
theorem yF {i:Nat} {o:Option Lc} (el:O.length=U.vs.length) (e:U.vs[i]?=some o):∃R:Sl,∃x,O[i]?=some x/\(∀g pd,List.Perm (sl g O U pd) ((x,o)::(cel g U.mu++(R++pd.map λe=>(some e.1,some e.2)))))/\
 ∀g pd y o',List.Perm (sl g (O.set i y) (U.set i o') pd) ((y,o')::(cel g U.mu++(R++pd.map λe=>(some e.1,some e.2)))):=by
 have hi:i<O.length:=by rw[el]; exact(YS.mp e).1
 have hO:O[i]?=some O[i]:=YT hi;obtain⟨R,h1,h2⟩:=vf (zip_get hO e);refine⟨R,O[i],hO,λg pd=>?_,λg pd y o'=>?_⟩
 . unfold sl;exact((h1.append_right _).append_left _).trans ZL
 . unfold sl;show List.Perm (cel g U.mu++((O.set i y).zip (U.vs.set i o')++_)) _;rw[zV];exact(((h2 _).append_right _).append_left _).trans ZL
theorem Ev.set_mu {i:Nat} {x:Option Lc}:(U.set i x).mu=U.mu:=rfl
theorem Ev.set_len {i:Nat} {x:Option Lc}:(U.set i x).vs.length=U.vs.length:=by show (U.vs.set i x).length=_; rw[Zh]
theorem SR.var {i:Nat} (h:SR K H0 Z0 O H U pd) (e:U.vs[i]?=some (some l)):∃v,O[i]?=some (some v)/\SR K H0 Z0 O H (U.set i (some (.sh l.pv))) ((v,.sh l.pv)::pd):=by
 obtain⟨el,Z,hg,z,s⟩:=h;obtain⟨R,x,hO,h1,h2⟩:=yF el e;have s1:=s.perm (h1 Z.g pd).symm;have el':O.length=(U.set i (some (.sh l.pv))).vs.length:=by rw[Ev.set_len]; exact el
 have fin:∀{Z':ZG} {v:V},Z'.g=Z.g->jW H0 Z0 Z' H->x=some v->Slots K H0 Z' H ((x,some (.sh l.pv))::(cel Z.g U.mu++(R++pd.map λe=>(some e.1,some e.2))))->Rep K Z' l.pv v->SR K H0 Z0 O H (U.set i (some (.sh l.pv))) ((v,.sh l.pv)::pd):=
  λ{Z' v} eg z ev s2 r=>by have p2:=h2 Z.g pd x (some (.sh l.pv));rw[abf hO]at p2;refine .mk (Z:=Z') el' (by rw[eg,Ev.set_mu]; exact hg) z ?_;rw[eg];exact(s2.perm p2).consS r
 cases l with
 | sh p=>
  obtain⟨v,e1,e2⟩:=s1.1 _ YK;exact⟨v,hO.trans (congrArg some e1),fin rfl z e1 s1 e2⟩
 | own p=>
  obtain⟨Z',sz,eg,z',s'⟩:=s1.freeze z;obtain⟨v,e1,e2⟩:=s'.1 _ YK;exact⟨v,hO.trans (congrArg some e1),fin eg z' e1 s' e2⟩
theorem SR.store {i:Nat} (h:SR K H0 Z0 O H U ((v,l)::pd)) (hi:i<U.vs.length):SR K H0 Z0 (O.set i (some v)) H (U.set i (some l)) pd:=by obtain⟨el,Z,hg,z,s⟩:=h.top;have hU:U.vs[i]?=some U.vs[i]:=YT hi;obtain⟨R,x,hO,h1,h2⟩:=yF el hU;refine⟨by rw[Zh,Ev.set_len]; exact el,Z,hg,z,?_⟩;refine(Slots.sub (L:=(some v,some l)::((x,U.vs[i])::(cel Z.g U.mu++(R++pd.map λe=>(some e.1,some e.2))))) (s.perm ((h1 Z.g pd).symm.cons _)) ?_).perm (h2 Z.g pd (some v) (some l));exact(Y4 _ _).cons_cons _
theorem SR.take {i:Nat} (h:SR K H0 Z0 O H U pd) (e:U.vs[i]?=some (some l)):∃v,O[i]?=some (some v)/\SR K H0 Z0 O H (U.set i none) ((v,l)::pd):=by
 obtain⟨el,Z,hg,z,s⟩:=h;obtain⟨R,x,hO,h1,h2⟩:=yF el e;have s1:=s.perm (h1 Z.g pd).symm;obtain⟨v,hv⟩:∃v,x=some v:=by
  have q:=s1.1 _ YK;cases l with
  | sh p=>obtain⟨x,e1,_⟩:=q; exact⟨x,e1⟩
  | own p=>obtain⟨a,e1,_⟩:=q; exact⟨_,e1⟩
 subst hv;refine⟨v,hO,.mk (Z:=Z) (by rw[Ev.set_len]; exact el) hg z ?_⟩;have p2:=h2 Z.g pd (some v) none;rw[abf hO]at p2;refine Slots.perm ?_ (p2.cons _);have ht:Slots K H0 Z H ((some v,none)::(some v,some l)::(cel Z.g U.mu++(R++pd.map λe=>(some e.1,some e.2)))):=by
  refine⟨λe he=>?_,?_⟩
  . rcases YM.mp he with rfl | he
    . trivial
    . exact s1.1 e he
  . have:lN (some v,none)=none:=by cases v<;>rfl
    rw[Zr this];exact s1.2
 exact ht.perm (List.Perm.swap _ _ _)
theorem SR.put {i:Nat} (h:SR K H0 Z0 O H U ((v,l)::pd)) (e:O[i]?=some (some v)):SR K H0 Z0 O H (U.set i (some l)) pd:=by
 have hi:i<U.vs.length:=by rw[<-h.1]; exact(YS.mp e).1
 have:=h.store hi;rw[abf e]at this;exact this
end
abbrev EF:=Ev->Option (Lc×Ev)
abbrev TF:=Ev->Option (Bool×Ev)
abbrev AF:=Ev->Option (List Lc×Ev)
inductive Fl where
 | nx (U:Ev)
 | rt (r:Lc) (U:Ev)
 | bk (U:Ev)
 | ct (U:Ev)
abbrev SF:=Ev->Option Fl
def tP (K:FG) (f:EF):TE:=λO H Q=>∃H0 Z0 U pd r U',SR K H0 Z0 O H U pd/\f U=some (r,U')/\∀v H',SR K H0 Z0 O H' U' ((v,r)::pd)->Q v H'
def lA (K:FG) (f:TF):TT:=λO H Q=>∃H0 Z0 U pd b U',SR K H0 Z0 O H U pd/\f U=some (b,U')/\∀H',SR K H0 Z0 O H' U' pd->Q b H'
def gk (K:FG) (f:AF):TA:=λO H Q=>∃H0 Z0 U pd ls U',SR K H0 Z0 O H U pd/\f U=some (ls,U')/\∀vs H',vs.length=ls.length->SR K H0 Z0 O H' U' (vs.zip ls++pd)->Q vs H'
def oK (K:FG) (H0:Hp) (Z0:ZG) (pd:Pd) (D:Ends):Fl->Prop
 | .nx U'=>∀O' H',SR K H0 Z0 O' H' U' pd->D.nx O' H'
 | .rt r U'=>∀v O' H',SR K H0 Z0 O' H' U' ((v,r)::pd)->D.rt v H'
 | .bk U'=>∀O' H',SR K H0 Z0 O' H' U' pd->D.bk O' H'
 | .ct U'=>∀O' H',SR K H0 Z0 O' H' U' pd->D.ct O' H'
def fO (K:FG) (g:SF):TS:=λD O H=>∃H0 Z0 U pd fl,SR K H0 Z0 O H U pd/\g U=some fl/\oK K H0 Z0 pd D fl
section
variable {X:Cx} {e:Expr} {es:List Expr} {st:Stmt} {sts:List Stmt}
theorem PE.imp {t t':TE} (h:PE X e t) (i:∀O H Q,t' O H Q->t O H Q):PE X e t':=λacR s O H Q I q=>h acR s O H Q I (i O H Q q)
theorem PT.imp {t t':TT} (h:PT X e t) (i:∀O H Q,t' O H Q->t O H Q):PT X e t':=λacR s O H Q I q=>h acR s O H Q I (i O H Q q)
theorem PW.imp {t t':TT} (h:PW X e t) (i:∀O H Q,t' O H Q->t O H Q):PW X e t':=λwh acR s O H Q I q=>h wh acR s O H Q I (i O H Q q)
theorem PA.imp {t t':TA} (h:PA X es t) (i:∀O H Q,t' O H Q->t O H Q):PA X es t':=λpos acR s O H Q I q=>h pos acR s O H Q I (i O H Q q)
theorem PS.imp {t t':TS} (h:PS X st t) (i:∀D O H,t' D O H->t D O H):PS X st t':=λacR s O H D I q=>h acR s O H D I (i D O H q)
theorem eF.imp {t t':TS} (h:eF X sts t) (i:∀D O H,t' D O H->t D O H):eF X sts t':=λacR s O H D I q=>h acR s O H D I (i D O H q)
def aj (i:Nat):EF:=λU=>match U.vs[i]? with
 | some (some l)=>some (.sh l.pv,U.set i (some (.sh l.pv)))
 | _=>none
def eC (p:PV):EF:=λU=>some (.sh p,U)
abbrev acP (i:Int):=eC (.int i)
abbrev acQ (s:Str):=eC (.str s)
theorem qv {i:Nat} (h:PE X e (qd i)):PE X e (tP X.K (aj i)):=PE.imp h λO H Q q=>by
 obtain⟨H0,Z0,U,pd,r,U',s,f,k⟩:=q;unfold aj at f;split at f
 . rename_i l e1;cases f;obtain⟨v,h1,h2⟩:=s.var e1;exact⟨v,h1,k v H h2⟩
 . cases f
theorem qc {p:PV} {v:V} (h:PE X e (tC v)) (r:∀Z,Rep X.K Z p v):PE X e (tP X.K (eC p)):=PE.imp h λO H Q q=>by obtain⟨H0,Z0,U,pd,l,U',s,f,k⟩:=q;cases f;exact k v H (s.scal r)
theorem fj {i:Int}:∀Z,Rep K Z (.int i) (.int i):=λZ=>by unfold Rep; rfl
theorem sX {i:Str}:∀Z,Rep K Z (.str i) (.str i):=λZ=>by unfold Rep; rfl
theorem di {i:Bool}:∀Z,Rep K Z (.bl i) (.bl i):=λZ=>by unfold Rep; rfl
theorem sY:∀Z,Rep K Z .non .non:=λZ=>by unfold Rep; rfl
def jX (K:FG) (r:R2) (g:PV->PV->Option Lc):Prop:=∀H0 Z0 O U pd H v w x y l Q,SR K H0 Z0 O H U ((w,.sh y)::(v,.sh x)::pd)->g x y=some l->(∀u H',SR K H0 Z0 O H' U ((u,l)::pd)->Q u H')->r v w H Q
def aB (g:PV->PV->Option Lc) (fa fb:EF):EF:=λU=>(fa U).bind λx=>(fb x.2).bind λy=>(g x.1.pv y.1.pv).map λl=>(l,y.2)
theorem NQ {g:PV->PV->Option Lc} {fa fb:EF} {U U':Ev} {l:Lc} (h:aB g fa fb U=some (l,U')):∃x U1 y,fa U=some (x,U1)/\fb U1=some (y,U')/\g x.pv y.pv=some l:=by
 unfold aB at h;cases h1:fa U with
 | none=>rw[h1]at h; cases h
 | some x=>
  rw[h1,YJ]at h;cases h2:fb x.2 with
  | none=>rw[h2]at h; cases h
  | some y=>
   rw[h2,YJ]at h;cases h3:g x.1.pv y.1.pv with
   | none=>rw[h3]at h; cases h
   | some z=>
    rw[h3]at h;cases h;exact⟨x.1,x.2,y.1,rfl,h2,h3⟩
theorem DP {r:R2} {g:PV->PV->Option Lc} (hs:jX X.K r g) {fa fb:EF}:∀O H Q,tP X.K (aB g fa fb) O H Q->JQ r (tP X.K fa) (tP X.K fb) O H Q:=λO H Q q=>by obtain⟨H0,Z0,U,pd,l,U',s,f,k⟩:=q;obtain⟨x,U1,y,h1,h2,h3⟩:=NQ f;refine⟨H0,Z0,U,pd,x,U1,s,h1,λv H1 s1=>⟨H0,Z0,U1,_,y,U',s1,h2,λw H2 s2=>?_⟩⟩;exact hs H0 Z0 O U' pd H2 v w x.pv y.pv l Q (s2.freeze.swap.freeze.swap) h3 λu H' s3=>k u H' s3
theorem bM {op:Operator} {a b:Expr} {pos:Pos} {r:R2} {g:PV->PV->Option Lc} {fa fb:EF} (ho:fZ X (binaryOp op) r) (hs:jX X.K r g) (ha:PE X a (tP X.K fa)) (hb:PE X b (tP X.K fb)):PE X (.BinOp a op b pos) (tP X.K (aB g fa fb)):=
 PE.imp (Qf ho ha hb) (DP hs)
theorem zW {op:CmpOp} {a b:Expr} {pos:Pos} {r:R2} {g:PV->PV->Option Lc} {fa fb:EF} (ho:fZ X (compareOp op) r) (hs:jX X.K r g) (ha:PE X a (tP X.K fa)) (hb:PE X b (tP X.K fb)) (hm:behindInMarks op b=false):PE X (.Compare a [op] [b] pos) (tP X.K (aB g fa fb)):=
 PE.imp (Rf ho ha hb hm) (DP hs)
def vg (C:Int->Int->Bool) (g:Int->Int->PV):PV->PV->Option Lc
 | .int i,.int j=>if C i j=true then some (.sh (g i j)) else none
 | _,_=>none
theorem DQ {C:Int->Int->Bool} {g:Int->Int->PV} {x y:PV} {l:Lc} (h:vg C g x y=some l):∃i j,x=.int i/\y=.int j/\C i j=true/\l=.sh (g i j):=by
 cases x with
 | int i=>
  cases y with
  | int j=>
   have h':(if C i j=true then some (Lc.sh (g i j)) else none)=some l:=h;split at h'
   . rename_i c; cases h'; exact⟨i,j,rfl,rfl,c,rfl⟩
   . cases h'
  | _=>cases h
 | _=>cases h
theorem bG {Z:ZG} {i:Int} {v:V} (h:Rep K Z (.int i) v):v=.int i:=by unfold Rep at h; exact h
theorem cR {Z:ZG} {i:Str} {v:V} (h:Rep K Z (.str i) v):v=.str i:=by unfold Rep at h; exact h
theorem dF {Z:ZG} {i:Bool} {v:V} (h:Rep K Z (.bl i) v):v=.bl i:=by unfold Rep at h; exact h
theorem gA {Z:ZG} {v:V} (h:Rep K Z .non v):v=.non:=by unfold Rep at h; exact h
theorem CQ {C':Int->Int->Prop} {C:Int->Int->Bool} {gV:Int->Int->V} {g:Int->Int->PV} (hc:∀i j,C i j=true->C' i j) (hg:∀i j Z,Rep K Z (g i j) (gV i j)):jX K (rI C' gV) (vg C g):=by intro H0 Z0 O U pd H v w x y l Q s e k;obtain⟨i,j,rfl,rfl,c,rfl⟩:=DQ e;obtain⟨_,rw'⟩:=s.repH;obtain⟨_,rv'⟩:=s.pop.repH;have hw:=bG rw';have hv:=bG rv';exact⟨i,j,hv,hw,hc i j c,k _ H (s.pop.pop.scal (hg i j))⟩
theorem yG {gV:Int->Int->V} {g:Int->Int->PV} (hg:∀i j Z,Rep K Z (g i j) (gV i j)):jX K (sO gV) (vg (λ_ _=>true) g):=by intro H0 Z0 O U pd H v w x y l Q s e k;obtain⟨i,j,rfl,rfl,c,rfl⟩:=DQ e;obtain⟨_,rw'⟩:=s.repH;obtain⟨_,rv'⟩:=s.pop.repH;exact⟨i,j,bG rv',bG rw',k _ H (s.pop.pop.scal (hg i j))⟩
end
section
variable {X:Cx}
section
variable {K:FG} {H0 H H':Hp} {Z0 Z:ZG} {O:L2.St} {U:Ev} {pd pd':Pd} {v w:V} {l:Lc} {p:PV} {g:List Addr}
theorem SR.newO (h:SR K H0 Z0 O H U pd) {a:Addr} {o:HO} (ha:H a=none) (hp:∀Z,jW H0 Z0 Z H->Slots K H0 Z H (sl Z.g O U pd)->qM K Z (upd H a o) a p):SR K H0 Z0 O (upd H a o) U ((.ref a,.own p)::pd):=by obtain⟨e,Z,hg,z,s⟩:=h;obtain⟨z',s'⟩:=s.new z ha (hp Z z s);exact .mk e hg z' s'
theorem CT {α:Type} (A B C:List α):List.Perm (A++(B++C)) (B++(A++C)):=by rw[<-Ze A B C,<-Ze B A C];exact List.perm_append_comm.append_right _
theorem DR {pe:Pd}:List.Perm (sl g O U (pe++pd)) (pe.map (λe=>((some e.1:Option V),(some e.2:Option Lc)))++sl g O U pd):=by unfold sl;rw[Zo];exact((CT _ _ _).append_left _).trans (CT _ _ _)
theorem SR.freezeAll:∀{vs:List V} {ls:List Lc} {pd:Pd},SR K H0 Z0 O H U (vs.zip ls++pd)->SR K H0 Z0 O H U (vs.zip (ls.map λl=>.sh l.pv)++pd)
 | [],ls,pd,h=>by simpa using h
 | v::vs,[],pd,h=>by simpa using h
 | v::vs,l::ls,pd,h=>by have h1:SR K H0 Z0 O H U ((v,l)::(vs.zip ls++pd)):=h;have h2:=h1.freeze.perm (pd':=vs.zip ls++((v,.sh l.pv)::pd)) ZL;have h3:=SR.freezeAll h2;exact h3.perm (pd':=(v,.sh l.pv)::(vs.zip (ls.map λl=>.sh l.pv)++pd)) ZL.symm
theorem Slots.repl {L:Sl}:∀{vs:List V} {ps:List PV},vs.length=ps.length->Slots K H0 Z H ((vs.zip (ps.map λp=>Lc.sh p)).map (λe=>(some e.1,some e.2))++L)->aF K Z ps vs
 | [],[],_,_=>.nil
 | v::vs,p::ps,e,h=>by have h1:Slots K H0 Z H ((some v,some (.sh p))::((vs.zip (ps.map λp=>Lc.sh p)).map (λe=>(some e.1,some e.2))++L)):=h;obtain⟨x,e1,e2⟩:=h1.1 _ YK;cases e1;exact aF.cons e2 (Slots.repl (by simpa using e) (h1.sub (Y4 _ _)))
 | [],p::ps,e,_=>by simp at e
 | v::vs,[],e,_=>by simp at e
theorem SR.repl {vs:List V} {ls:List Lc} (h:SR K H0 Z0 O H U (vs.zip ls++pd)) (e:vs.length=ls.length):O.length=U.vs.length/\∃Z,U.mu.length=Z.g.length/\jW H0 Z0 Z H/\aF K Z (ls.map Lc.pv) vs/\Slots K H0 Z H (sl Z.g O U pd):=by
 obtain⟨el,Z,hg,z,s⟩:=h.freezeAll;have hm:(ls.map λl=>Lc.sh l.pv)=(ls.map Lc.pv).map λp=>Lc.sh p:=by rw[ZZ]; rfl
 rw[hm]at s;have pm:List.Perm (sl Z.g O U (vs.zip ((ls.map Lc.pv).map λp=>Lc.sh p)++pd)) ((vs.zip ((ls.map Lc.pv).map λp=>Lc.sh p)).map (λe=>(some e.1,some e.2))++sl Z.g O U pd):=DR;have s':=s.perm pm.symm;exact⟨el,Z,hg,z,Slots.repl (by simpa using e) s',s'.sub (aao _ _)⟩
end
theorem m8 {α:Type} {l:List α} (h:l.length=1):∃a,l=[a]:=List.length_eq_one_iff.mp h
theorem ln2 {α:Type} {l:List α} (h:l.length=2):∃a b,l=[a,b]:=by
 cases l with
 | nil=>cases h
 | cons a l=>obtain⟨b,rfl⟩:=m8 (aaZ h); exact⟨a,b,rfl⟩
theorem Bm {α:Type} {l:List α} (h:l.length=3):∃a b c,l=[a,b,c]:=by
 cases l with
 | nil=>cases h
 | cons a l=>obtain⟨b,c,rfl⟩:=ln2 (aaZ h); exact⟨a,b,c,rfl⟩
theorem U7 {α:Type} {l:List α} (h:l.length=4):∃a b c d,l=[a,b,c,d]:=by
 cases l with
 | nil=>cases h
 | cons a l=>obtain⟨b,c,d,rfl⟩:=Bm (aaZ h); exact⟨a,b,c,d,rfl⟩
theorem Yz {α:Type} {l:List α} (h:l.length=5):∃a b c d e,l=[a,b,c,d,e]:=by
 cases l with
 | nil=>cases h
 | cons a l=>obtain⟨b,c,d,e,rfl⟩:=U7 (aaZ h); exact⟨a,b,c,d,e,rfl⟩
def ao:AF:=λU=>some ([],U)
def aa (f:EF) (g:AF):AF:=λU=>(f U).bind λx=>(g x.2).map λy=>(x.1::y.1,y.2)
theorem aq:PA X [] (gk X.K ao):=PA.imp dh λO H Q q=>by obtain⟨H0,Z0,U,pd,l,U',s,f,k⟩:=q;cases f;exact k [] H rfl s
theorem ak {e:Expr} {es:List Expr} {f:EF} {g:AF} (ha:PE X e (tP X.K f)) (hr:PA X es (gk X.K g)) (hs:starEach (e::es) X.env=(false,eval e X.env)::starEach es X.env:=by rfl):PA X (e::es) (gk X.K (aa f g)):=PA.imp (aO ha hr hs) λO H Q q=>by
 obtain⟨H0,Z0,U,pd,l,U',s,h,k⟩:=q;unfold aa at h;cases h1:f U with
 | none=>rw[h1]at h; cases h
 | some x=>
  rw[h1,YJ]at h;cases h2:g x.2 with
  | none=>rw[h2]at h; cases h
  | some y=>
   rw[h2]at h;cases h;refine⟨H0,Z0,U,pd,x.1,x.2,s,h1,λv H1 s1=>⟨H0,Z0,x.2,_,y.1,y.2,s1,h2,λvs H2 e2 s2=>?_⟩⟩;refine k (v::vs) H2 (by simp[e2]) (s2.perm (pd':=(v,x.1)::(vs.zip y.1++pd)) ZL.symm)
def aL (g:AF):EF:=λU=>(g U).bind λy=>if y.1.length<=1000 then some (.own (.lst (y.1.map Lc.pv)),y.2) else none
def cN (g:AF):EF:=λU=>(g U).bind λy=>if y.1.length<=1000 then some (.sh (.tup (y.1.map Lc.pv)),y.2) else none
theorem small {n:Nat} (h:n<=100000):n<=sizeLine:=by rw[sizeLine_eq]; omega
theorem cO {es:List Expr} {g:AF} {pos:Pos} (h:PA X es (gk X.K g)):PE X (.List es pos) (tP X.K (aL g)):=PE.imp (Ug h) λO H Q q=>by
 obtain⟨H0,Z0,U,pd,l,U',s,f,k⟩:=q;unfold aL at f;cases h2:g U with
 | none=>rw[h2]at f; cases f
 | some y=>
  rw[h2,YJ]at f;split at f
  . rename_i hl;cases f;refine⟨H0,Z0,U,pd,y.1,y.2,s,h2,λvs H2 e2 s2=>⟨small (by omega),λp hp=>k _ _ ?_⟩⟩;obtain⟨el,Z,hg,z,r,sl'⟩:=s2.repl e2;obtain⟨z',s'⟩:=sl'.new (o:=.lst vs) (p:=.lst (y.1.map Lc.pv)) z hp ⟨vs,bA,r⟩;exact .mk el hg z' s'
  . cases f
theorem jz {es:List Expr} {g:AF} {x1} {pos:Pos} (h:PA X es (gk X.K g)):PE X (.Tuple es x1 pos) (tP X.K (cN g)):=PE.imp (Dn h) λO H Q q=>by
 obtain⟨H0,Z0,U,pd,l,U',s,f,k⟩:=q;unfold cN at f;cases h2:g U with
 | none=>rw[h2]at f; cases f
 | some y=>
  rw[h2,YJ]at f;split at f
  . rename_i hl;cases f;refine⟨H0,Z0,U,pd,y.1,y.2,s,h2,λvs H2 e2 s2=>⟨small (by omega),λp hp=>k _ _ ?_⟩⟩;obtain⟨el,Z,hg,z,r,sl'⟩:=s2.repl e2;obtain⟨z',sz,s'⟩:=sl'.newF (o:=.tup vs) z hp;refine .mk (Z:=Z.put p (.tup vs)) el hg z' (s'.consS ?_);unfold Rep;exact⟨p,vs,rfl,bV.of bA,r.mono sz⟩
  . cases f
def tT (f:EF) (tr:PV->Option Bool):TF:=λU=>(f U).bind λx=>(tr x.1.pv).map λb=>(b,x.2)
def eG:PV->Option Bool
 | .non=>some false
 | .bl b=>some b
 | .int i=>some (i != 0)
 | .str x=>if x.length<=100000 then some ((x.length:Int) != 0) else none
 | .tup ps=>some (!ps.isEmpty)
 | .lst ps=>some (!ps.isEmpty)
 | .dk ks ps=>some (!ps.isEmpty)
 | _=>none
theorem Yj {H:Hp} {g:List Addr} {p:PV} {v:V} {b:Bool} (r:Rep K ⟨H,g⟩ p v) (h:eG p=some b):M4 K v H b:=by
 cases p with
 | non=>have:=gA r; subst this; cases h; exact rfl
 | bl c=>have:=dF r; subst this; cases h; exact rfl
 | int i=>have:=bG r; subst this; cases h; exact rfl
 | str x=>
  have:=cR r; subst this;have h:(if x.length<=100000 then some ((x.length:Int) != 0) else none)=some b:=h;split at h
  . rename_i hl; cases h; exact⟨small hl,rfl⟩
  . cases h
 | tup ps=>
  unfold Rep at r;obtain⟨a,vs,rfl,h1,h2⟩:=r;cases h;refine .inr (.inl ⟨vs,h1,?_⟩);have:=h2.length;cases ps<;>cases vs<;>simp at this<;>rfl
 | lst ps=>
  unfold Rep at r;obtain⟨a,vs,rfl,h1,h2⟩:=r;cases h;refine .inl ⟨vs,h1,?_⟩;have:=h2.length;cases ps<;>cases vs<;>simp at this<;>rfl
 | dk ks ps=>
  unfold Rep at r;obtain⟨a,kvs,rfl,h1,h3,h2⟩:=r;cases h;refine .inr (.inr ⟨kvs,h1,?_⟩);have:=h2.length;cases ps<;>cases kvs<;>simp at this<;>rfl
 | _=>cases h
theorem GJ {f:EF} {tr:PV->Option Bool} {U U':Ev} {b:Bool} (h:tT f tr U=some (b,U')):∃x,f U=some (x,U')/\tr x.pv=some b:=by
 unfold tT at h;cases h1:f U with
 | none=>rw[h1]at h; cases h
 | some x=>
  rw[h1,YJ]at h;cases h2:tr x.1.pv with
  | none=>rw[h2]at h; cases h
  | some y=>rw[h2]at h; cases h; exact⟨x.1,rfl,h2⟩
theorem iQ {a:Expr} {f:EF} (ha:PE X a (tP X.K f)) (he:∀whole,isTrue a X.env whole=(do let v <-whole; standAt a.pos; holding [v] (truthy v))):PT X a (lA X.K (tT f eG)):=PT.imp (Dm ha he) λO H Q q=>by obtain⟨H0,Z0,U,pd,b,U',s,f',k⟩:=q;obtain⟨x,h1,h2⟩:=GJ f';refine⟨H0,Z0,U,pd,x,U',s,h1,λv H1 s1=>⟨b,Yj s1.freeze.repH.choose_spec h2,k H1 s1.pop⟩⟩
def cU:PV->Option Bool
 | .bl b=>some b
 | _=>none
theorem W6 {a:Expr} {f:EF} (ha:PT X a (Qi (tP X.K f))):PT X a (lA X.K (tT f cU)):=PT.imp ha λO H Q q=>by
 obtain⟨H0,Z0,U,pd,b,U',s,f',k⟩:=q;obtain⟨x,h1,h2⟩:=GJ f';refine⟨H0,Z0,U,pd,x,U',s,h1,λv H1 s1=>⟨b,?_,k H1 s1.pop⟩⟩;obtain⟨_,r⟩:=s1.freeze.repH;cases e:x.pv with
 | bl c=>rw[e]at h2 r; cases h2; exact dF r
 | _=>rw[e]at h2; cases h2
theorem cX {op:CmpOp} {a b:Expr} {pos:Pos} {r:R2} {g:PV->PV->Option Lc} {fa fb:EF} (ho:fZ X (compareOp op) r) (hs:jX X.K r g) (ha:PE X a (tP X.K fa)) (hb:PE X b (tP X.K fb)) (hm:behindInMarks op b=false):PT X (.Compare a [op] [b] pos) (lA X.K (tT (aB g fa fb) cU)):=
 W6 (PT.imp (Rg ho ha hb hm) λO H Q q=>DP hs O H _ q)
def oM (f g:TF):TF:=λU=>(f U).bind λx=>if x.1=true then some (true,x.2) else g x.2
def gf (f:TF):TF:=λU=>(f U).map λx=>(!x.1,x.2)
theorem U8 {f g:TF}:∀O H Q,lA X.K (oM f g) O H Q->Xn (lA X.K f) (lA X.K g) O H Q:=λO H Q q=>by
 obtain⟨H0,Z0,U,pd,b,U',s,h,k⟩:=q;unfold oM at h;cases h1:f U with
 | none=>rw[h1]at h; cases h
 | some x=>
  rw[h1,YJ]at h;refine⟨H0,Z0,U,pd,x.1,x.2,s,h1,λH1 s1=>?_⟩;dsimp only;split
  . rename_i c; rw[aa5 c]at h; cases h; exact k H1 s1
  . rename_i c; rw[aa6 c]at h; exact⟨H0,Z0,x.2,pd,b,U',s1,h,k⟩
theorem sZ {a:Expr} {f:TF} {pos:Pos} (ha:PT X a (lA X.K f)):PW X (.BoolOp .Or [a] pos) (lA X.K f):=TQ ha
theorem wg {a b:Expr} {rest:List Expr} {f g:TF} {pos:Pos} (ha:PT X a (lA X.K f)) (hb:PW X (.BoolOp .Or (b::rest) pos) (lA X.K g)):PW X (.BoolOp .Or (a::b::rest) pos) (lA X.K (oM f g)):=PW.imp (WD ha hb) U8
theorem oN {a:Expr} {f:TF} {pos:Pos} (ha:PT X a (lA X.K f)):PT X (.UnaryOp .Not a pos) (lA X.K (gf f)):=PT.imp (TV ha) λO H Q q=>by
 obtain⟨H0,Z0,U,pd,b,U',s,h,k⟩:=q;unfold gf at h;cases h1:f U with
 | none=>rw[h1]at h; cases h
 | some x=>
  rw[h1]at h;cases h;exact⟨H0,Z0,U,pd,x.1,x.2,s,h1,λH1 s1=>k H1 s1⟩
def iR (f g:EF):EF:=λU=>(f U).bind λx=>match x.1.pv with
 | .bl true=>g x.2
 | .bl false=>some (.sh (.bl false),x.2)
 | _=>none
def ph (f:EF):EF:=λU=>(f U).bind λx=>match x.1.pv with
 | .bl b=>some (.sh (.bl (!b)),x.2)
 | _=>none
theorem xM {op} {a:Expr} {f:EF} {pos:Pos} (h:PE X a (tP X.K f)):PE X (.BoolOp op [a] pos) (tP X.K f):=TX h
theorem qN {a b:Expr} {rest:List Expr} {f g:EF} {pos:Pos} (ha:PE X a (tP X.K f)) (hb:PE X (.BoolOp .And (b::rest) pos) (tP X.K g)):PE X (.BoolOp .And (a::b::rest) pos) (tP X.K (iR f g)):=PE.imp (TY ha hb) λO H Q q=>by
 obtain⟨H0,Z0,U,pd,b,U',s,h,k⟩:=q;unfold iR at h;cases h1:f U with
 | none=>rw[h1]at h; cases h
 | some x=>
  rw[h1,YJ]at h;refine⟨H0,Z0,U,pd,x.1,x.2,s,h1,λv H1 s1=>?_⟩;obtain⟨_,r⟩:=s1.freeze.repH;split at h
  . rename_i e;rw[e]at r;refine⟨true,dF r,?_⟩;rw[aa5 rfl];exact⟨H0,Z0,x.2,pd,b,U',s1.pop,h,k⟩
  . rename_i e;rw[e]at r;refine⟨false,dF r,?_⟩;rw[aa6 Zm];cases h;exact k _ H1 (s1.pop.scal di)
  . cases h
theorem NT {a:Expr} {f:EF} {pos:Pos} (ha:PE X a (tP X.K f)):PE X (.UnaryOp .Not a pos) (tP X.K (ph f)):=PE.imp (T3 ha) λO H Q q=>by
 obtain⟨H0,Z0,U,pd,b,U',s,h,k⟩:=q;unfold ph at h;cases h1:f U with
 | none=>rw[h1]at h; cases h
 | some x=>
  rw[h1,YJ]at h;refine⟨H0,Z0,U,pd,x.1,x.2,s,h1,λv H1 s1=>?_⟩;obtain⟨_,r⟩:=s1.freeze.repH;split at h
  . rename_i c e;rw[e]at r;cases h;exact⟨c,dF r,k _ H1 (s1.pop.scal di)⟩
  . cases h
def vh (c:TF) (f g:EF):EF:=λU=>(c U).bind λx=>if x.1=true then f x.2 else g x.2
theorem Xp {c a b:Expr} {fc:TF} {f g:EF} {pos:Pos} (hc:PT X c (lA X.K fc)) (ha:PE X a (tP X.K f)) (hb:PE X b (tP X.K g)):PE X (.IfExp c a b pos) (tP X.K (vh fc f g)):=PE.imp (My hc ha hb) λO H Q q=>by
 obtain⟨H0,Z0,U,pd,b,U',s,h,k⟩:=q;unfold vh at h;cases h1:fc U with
 | none=>rw[h1]at h; cases h
 | some x=>
  rw[h1,YJ]at h;refine⟨H0,Z0,U,pd,x.1,x.2,s,h1,λH1 s1=>?_⟩;dsimp only;split
  . rename_i c; rw[aa5 c]at h; exact⟨H0,Z0,x.2,pd,b,U',s1,h,k⟩
  . rename_i c; rw[aa6 c]at h; exact⟨H0,Z0,x.2,pd,b,U',s1,h,k⟩
def cG:SF:=λU=>some (.nx U)
def aK (f g:SF):SF:=λU=>(f U).bind λx=>match x with
 | .nx U'=>g U'
 | y=>some y
theorem bW:eF X [] (fO X.K cG):=eF.imp Gu λD O H q=>by obtain⟨H0,Z0,U,pd,fl,s,h,k⟩:=q;cases h;exact k O H s
theorem aA {st:Stmt} {rest:List Stmt} {f g:SF} (h1:PS X st (fO X.K f)) (h2:eF X rest (fO X.K g)):eF X (st::rest) (fO X.K (aK f g)):=eF.imp (Dj h1 h2) λD O H q=>by
 obtain⟨H0,Z0,U,pd,fl,s,h,k⟩:=q;unfold aK at h;cases e:f U with
 | none=>rw[e]at h; cases h
 | some x=>
  rw[e,YJ]at h;refine⟨H0,Z0,U,pd,x,s,e,?_⟩;cases x with
  | nx U'=>exact λO' H' s'=>⟨H0,Z0,U',pd,fl,s',h,k⟩
  | rt r U'=>cases h; exact k
  | bk U'=>cases h; exact k
  | ct U'=>cases h; exact k
theorem aC {st:Stmt} {f:SF} (h1:PS X st (fO X.K f)):eF X [st] (fO X.K f):=Gv h1
def lB (f:EF):SF:=λU=>(f U).map λx=>.nx x.2
theorem abe {α β:Type} {o:Option α} {f:α->β} {b:β} (h:o.map f=some b):∃a,o=some a/\f a=b:=by
 cases o with
 | none=>cases h
 | some a=>exact⟨a,rfl,Zf h⟩
theorem abd {α β:Type} {o:Option α} {f:α->Option β} {b:β} (h:o.bind f=some b):∃a,o=some a/\f a=some b:=by
 cases o with
 | none=>cases h
 | some a=>exact⟨a,rfl,h⟩
theorem ou {e:Expr} {pos:Pos} {f:EF} (he:PE X e (tP X.K f)) (hs:swapsWith e none pos.line X.env=pure false:=by rfl):PS X (.Expr e pos) (fO X.K (lB f)):=PS.imp (j9 he hs) λD O H q=>by obtain⟨H0,Z0,U,pd,fl,s,h,k⟩:=q;obtain⟨x,h1,rfl⟩:=abe h;exact⟨H0,Z0,U,pd,x.1,x.2,s,h1,λv H' s'=>k O H' s'.pop⟩
def cu (f:EF):SF:=λU=>(f U).map λx=>.rt x.1 x.2
theorem bL {e:Expr} {pos:Pos} {f:EF} (he:PE X e (tP X.K f)):PS X (.Return (some e) pos) (fO X.K (cu f)):=PS.imp (Dk he) λD O H q=>by obtain⟨H0,Z0,U,pd,fl,s,h,k⟩:=q;obtain⟨x,h1,rfl⟩:=abe h;exact⟨H0,Z0,U,pd,x.1,x.2,s,h1,λv H' s'=>k v O H' s'⟩
def nJ (i:Nat):SF:=λU=>match U.vs[i]? with
 | some (some l)=>some (.rt l (U.set i none))
 | _=>none
theorem kh {i:Nat} {e:Expr} {pos:Pos} (he:PE X e (qd i)):PS X (.Return (some e) pos) (fO X.K (nJ i)):=PS.imp (Dk he) λD O H q=>by
 obtain⟨H0,Z0,U,pd,fl,s,h,k⟩:=q;unfold nJ at h;split at h
 . rename_i l e1;cases h;obtain⟨v,h1,h2⟩:=s.take e1;exact⟨v,h1,k v O H h2⟩
 . cases h
def dw (c:TF) (f g:SF):SF:=λU=>(c U).bind λx=>if x.1=true then f x.2 else g x.2
theorem cC {c:Expr} {a b:List Stmt} {fc:TF} {f g:SF} {pos:Pos} (hc:PT X c (lA X.K fc)) (ha:eF X a (fO X.K f)) (hb:eF X b (fO X.K g)):PS X (.If c a b pos) (fO X.K (dw fc f g)):=PS.imp (P0 hc ha hb) λD O H q=>by
 obtain⟨H0,Z0,U,pd,fl,s,h,k⟩:=q;obtain⟨x,h1,h2⟩:=abd h;refine⟨H0,Z0,U,pd,x.1,x.2,s,h1,λH1 s1=>?_⟩;dsimp only;split
 . rename_i c; rw[aa5 c]at h2; exact⟨H0,Z0,x.2,pd,fl,s1,h2,k⟩
 . rename_i c; rw[aa6 c]at h2; exact⟨H0,Z0,x.2,pd,fl,s1,h2,k⟩
def aP (i:Nat) (f:EF):SF:=λU=>(f U).bind λx=>if i<x.2.vs.length then some (.nx (x.2.set i (some x.1))) else none
theorem RM {i:Nat} {f:EF} {t:TS} (h:∀D O H,(tP X.K f O H λv H1=>D.nx (O.set i (some v)) H1)->t D O H):∀D O H,fO X.K (aP i f) D O H->t D O H:=λD O H q=>by
 obtain⟨H0,Z0,U,pd,fl,s,h',k⟩:=q;obtain⟨x,h1,h2⟩:=abd h';split at h2
 . rename_i hl;cases h2;exact h D O H ⟨H0,Z0,U,pd,x.1,x.2,s,h1,λv H1 s1=>k _ _ (s1.store hl)⟩
 . cases h2
theorem Ku {i:Nat} {x:Str} {e:Expr} {pos pos':Pos} {f:EF} (hN:X.N.Nodup) (hi:X.N[i]?=some x) (hx:L2.Loc X.env.scope x) (he:PE X e (tP X.K f)) (hs:swapsWith e (some (.Name x pos')) pos.line X.env=pure false:=by rfl) (hf:X.fn x=true\/X.env.scope.names.lookup x=some .local:=by first | exact .inl rfl | exact .inr rfl | assumption):
 PS X (.Assign [.Name x pos'] e pos) (fO X.K (aP i f)):=PS.imp (JK hN hi hx he hs hf) (RM λD O H q=>q)
abbrev GF:=List PV->Mu->Option (Lc×Mu)
def jA (H:Hp) (g:List Addr):Hp:=λb=>if b∈g then none else H b
theorem RN {H:Hp} {g:List Addr} {b:Addr} {o:HO} (h:jA H g b=some o):H b=some o/\b∉g:=by
 unfold jA at h;split at h
 . cases h
 . rename_i q; exact⟨h,q⟩
theorem NZ {H:Hp} {g:List Addr} {b:Addr} (h:b∈g):jA H g b=none:=by unfold jA; rw[aa5 h]
theorem DW {H:Hp} {g:List Addr} {b:Addr} (h:b∉g):jA H g b=H b:=by unfold jA; rw[aa6 h]
def DX (K:FG) (H:Hp) (Z:ZG) (g:List Addr) (H':Hp) (mu':Mu) (v:V) (r:Lc):Prop:=∃Z',mu'.length=Z'.g.length/\jW (jA H g) Z Z' H'/\Slots K (jA H g) Z' H' ((some v,some r)::cel Z'.g mu')
def bj (K:FG) (n:Nat) (g:GF):Sp:=λvs H Q _=>∃(Z:ZG) (ps:List PV) (mu:Mu) (r:Lc) (mu':Mu),vs.length=n/\mu.length=Z.g.length/\cY Z.z H/\aF K Z ps vs/\Slots K (jA H (m7 Z.g mu)) Z H (cel Z.g mu)/\g ps mu=some (r,mu')/\∀v H',DX K H Z (m7 Z.g mu) H' mu' v r->Q v H'
def aG (g:GF) (a:AF):EF:=λU=>(a U).bind λy=>(g (y.1.map Lc.pv) y.2.mu).map λr=>(r.1,⟨y.2.vs,r.2⟩)
theorem RP {g:List Addr} {mu:Mu} {e:Option V×Option Lc} (he:e∈cel g mu):∃a,e.1=some (.ref a)/\(e.2=none\/∃p,e.2=some (.own p)):=by
 unfold cel at he;obtain⟨v,l⟩:=e;obtain⟨h1,h2⟩:=Z4 he;obtain⟨a,_,e1⟩:=Zk.mp h1;obtain⟨o,_,e2⟩:=Zk.mp h2;refine⟨a,e1.symm,?_⟩;cases o with
 | none=>exact .inl e2.symm
 | some p=>exact .inr ⟨p,e2.symm⟩
theorem Slots.cells {Z:ZG} (hg:U.mu.length=Z.g.length) (s:Slots K H0 Z H (sl Z.g O U pd)):Slots K (jA H (m7 Z.g U.mu)) Z H (cel Z.g U.mu):=by
 have s1:Slots K H0 Z H (cel Z.g U.mu):=s.sub (Zu _ _);refine⟨λe he=>?_,s1.2⟩;obtain⟨a,h1,h2⟩:=RP he;obtain⟨v,l⟩:=e;have h1':v=some (.ref a):=h1;subst h1';rcases h2 with h2 | ⟨p,h2⟩
 . have h2':l=none:=h2;subst h2'; trivial
 . have h2':l=some (.own p):=h2;subst h2';obtain⟨b,e1,e2,e3,e4⟩:=s1.1 _ he;cases e1;exact⟨a,rfl,e2,e3,NZ (Zv.mpr ⟨_,he,rfl⟩)⟩
theorem SR.called {H0 H H':Hp} {Z0 Z:ZG} {v:V} {r:Lc} {mu':Mu} (el:O.length=U.vs.length) (hg:U.mu.length=Z.g.length) (z:jW H0 Z0 Z H) (s:Slots K H0 Z H (sl Z.g O U pd)) (h:DX K H Z (m7 Z.g U.mu) H' mu' v r):SR K H0 Z0 O H' ⟨U.vs,mu'⟩ ((v,r)::pd):=by
 obtain⟨Z',hg',z',q⟩:=h;have s1:Slots K H0 Z H (cel Z.g U.mu):=s.sub (Zu _ _);have s0:Slots K H0 Z H (O.zip U.vs++pd.map λe=>(some e.1,some e.2)):=s.sub (aao _ _);have nd:(m7 Z.g U.mu++(O.zip U.vs++pd.map λe=>(some e.1,some e.2)).filterMap lN).Nodup:=by have:=s.2;unfold sl at this;rw[List.filterMap_append]at this;exact this
 have hc0:∀a∈m7 Z.g U.mu,H0 a=none:=λa ha=>by obtain⟨e,he,hb⟩:=Zv.mp ha;exact(jh s1 he hb).2.1
 have h0:cY H0 (jA H (m7 Z.g U.mu)):=λb o e=>by rw[DW λhm=>by rw[hc0 b hm]at e; cases e];exact z.h0 b o e
 have z2:jW H0 Z0 Z' H':=⟨z'.zh,h0.trans z'.h0,z.z0.trans z'.z0,λb o e=>by
  rcases z'.new b o e with e | e | e
  . exact z.new b o e
  . exact .inr (.inl (h0.free e))
  . exact .inr (.inr e)⟩
 have nog:∀e∈(O.zip U.vs++pd.map λe=>((some e.1:Option V),(some e.2:Option Lc))),∀a,lN e=some a->a∉m7 Z.g U.mu/\jA H (m7 Z.g U.mu) a=H a:=λe he a ha=>by have hn:a∉m7 Z.g U.mu:=λhm=>(aaF.mp nd).2.2 a hm a (Zv.mpr ⟨e,he,ha⟩) rfl;exact⟨hn,DW hn⟩
 have hk:∀e∈(O.zip U.vs++pd.map λe=>((some e.1:Option V),(some e.2:Option Lc))),∀a,lN e=some a->H' a=H a/\Z'.z a=none:=λe he a ha=>by
  obtain⟨h1,h2,o,h3,h4⟩:=jh s0 he ha;obtain⟨hn,ho⟩:=nog e he a ha;have h5:=z'.h0 a o (by rw[ho]; exact h3);refine⟨by rw[h3]; exact h5,?_⟩;cases q:Z'.z a with
  | none=>rfl
  | some u=>
   rcases z'.new a u q with e | e | e
   . rw[h1]at e; cases e
   . rw[ho,h3]at e; cases e
   . have:=z'.zh a u q;rw[h5]at this; cases this;exact(h4 e).elim
 have s2:=s0.step z'.z0 hk;have q':Slots K H0 Z' H' ((some v,some r)::cel Z'.g mu'):=by
  refine⟨λe he=>?_,q.2⟩;have:=q.1 e he;obtain⟨w,l⟩:=e;cases l with
  | none=>trivial
  | some l=>
   cases l with
   | sh p=>exact this
   | own p=>obtain⟨a,e1,e2,e3,e4⟩:=this; exact⟨a,e1,e2,e3,h0.free e4⟩
 have dis:∀e∈((some v,some r)::cel Z'.g mu'),∀a,lN e=some a->∀e'∈(O.zip U.vs++pd.map λe=>((some e.1:Option V),(some e.2:Option Lc))),lN e'≠some a:=λe he a ha e' he' ha'=>by obtain⟨_,h2,_⟩:=jh q he ha;obtain⟨_,_,o,h3,_⟩:=jh s0 he' ha';rw[(nog e' he' a ha').2,h3]at h2; cases h2
 refine .mk (Z:=Z') el hg' z2 ?_;refine⟨λe he=>?_,?_⟩
 . rcases YM.mp he with rfl | he
   . exact q'.1 _ YK
   . rcases ZF.mp he with he | he
     . exact q'.1 _ (Y6 _ he)
     . exact s2.1 e he
 . show (((some v,some r)::(cel Z'.g mu'++(O.zip U.vs++pd.map λe=>(some e.1,some e.2)))).filterMap lN).Nodup;rw[<-aad,List.filterMap_append];refine aaF.mpr ⟨q'.2,s2.2,λa ha b hb e=>?_⟩;subst e;obtain⟨e1,he1,h1⟩:=Zv.mp ha;obtain⟨e2,he2,h2⟩:=Zv.mp hb;exact dis e1 he1 a h1 e2 he2 h2
theorem N5 {n:Nat} {g:GF} {a:AF} {E:XK}:∀O H Q,(∃H0 Z0 U pd r U',SR X.K H0 Z0 O H U pd/\aG g a U=some (r,U')/\(∀ls U1,a U=some (ls,U1)->ls.length=n)/\∀v H',SR X.K H0 Z0 O H' U' ((v,r)::pd)->Q v H')->yr (bj X.K n g) [] E (gk X.K a) O H Q:=λO H Q q=>by
 obtain⟨H0,Z0,U,pd,r,U',s,h,hn,k⟩:=q;obtain⟨y,h1,h2⟩:=abd h;obtain⟨r',h3,h4⟩:=abe h2;cases h4;refine⟨H0,Z0,U,pd,y.1,y.2,s,h1,λvs H2 e2 s2=>?_⟩;obtain⟨el,Z,hg,z,rl,sl'⟩:=s2.repl e2;refine⟨Z,y.1.map Lc.pv,y.2.mu,_,_,?_,hg,z.zh,?_,sl'.cells hg,h3,λv H' rr=>k v H' (SR.called el hg z sl' rr)⟩
 . rw[Zg,e2]; exact hn _ _ h1
 . rw[Zg]; exact rl
end
section
variable {P:Program} {w:World} {K:FG} {mg:Str->Option Value} {base:Heap}
def aV (K:FG) (mg:Str->Option Value) (x:Str) (st:Stmt) (ps:List Str):Prop:=∃f fd,pU K x x st f fd/\mg x=some (.ref f)/\Binds K fd ps []
def DY (b:Bool) (P:Program) (w:World) (K:FG) (mg:Str->Option Value) (base:Heap) (x:Str) (k:Nat) (ps:List Str) (sp:Sp):Prop:=∃f fd,qy b P w K mg base o7 k f fd ps sp/\mg x=some (.ref f)/\W.keepIn K (.ref f)=true/\Binds K fd ps []
abbrev aZ:=DY true
def env0 (n:Nat) (ps:List PV) (mu:Mu):Ev:=⟨ps.map (λp=>some (Lc.sh p))++List.replicate (n-ps.length) none,mu⟩
def cJ (n:Nat) (g:SF):GF:=λps mu=>(g (env0 n ps mu)).bind λx=>match x with
 | .rt r U=>some (r,U.mu)
 | .nx U=>some (.sh .non,U.mu)
 | _=>none
theorem GK {Z:ZG} {L:Sl} (s:Slots K H0 Z H L):∀{ps:List PV} {vs:List V},aF K Z ps vs->Slots K H0 Z H ((vs.map some).zip (ps.map λp=>some (Lc.sh p))++L)
 | [],vs,h=>by have:=h.inv0; subst this; simpa using s
 | p::ps,vs,h=>by obtain⟨v,r,rfl,h1,h2⟩:=h.inv;exact(GK s h2).consS h1
theorem nones {Z:ZG} {L:Sl} (s:Slots K H0 Z H L):∀n:Nat,Slots K H0 Z H ((List.replicate n (none:Option V)).zip (List.replicate n (none:Option Lc))++L)
 | 0=>s
 | n+1=>by
  rw[List.replicate_succ,List.replicate_succ,Z7,aad];have ih:=nones s n;refine⟨λe he=>?_,?_⟩
  . rcases YM.mp he with rfl | he
    . trivial
    . exact ih.1 e he
  . rw[Zr rfl]; exact ih.2
theorem ul {H:Hp} {Z:ZG} {ps:List PV} {mu:Mu} {vs:List V} {N:List Str} (hg:mu.length=Z.g.length) (z:cY Z.z H) (r:aF K Z ps vs) (c:Slots K (jA H (m7 Z.g mu)) Z H (cel Z.g mu)):SR K (jA H (m7 Z.g mu)) Z (L2.start N vs) H (env0 N.length ps mu) []:=by have hl:=r.length;refine⟨by simp[L2.start,env0,hl],Z,hg,⟨z,λb o e=>(RN e).1,iM.refl _,λb o e=>.inl e⟩,?_⟩;unfold sl L2.start env0;rw[aah (by simp[hl]),aaC,Zg,hl];exact(GK (nones c _) r).perm ((aai).trans (by rw[Ze]))
theorem aV.ok {b:Bool} {x:Str} {st:Stmt} {N ps:List Str} {k:Nat} {g:GF} (F:aV K mg x st ps) (S:aQ N ps (au st))
 (h:∀(f:Addr) (cdv:Value) (A:Around) (outer:List PySem.Env) (s:Shared) (H:Hp) (E:XK),fC b k (A.deeper (envOfC x (au st) s.heap.objs.size f cdv))->
   ∃g':SF,(∀a mu,g a mu=cJ N.length g' a mu)/\eF (rE b o7 P w K mg base N x (au st) f cdv A outer s H E).nox (aR st) (fO K g')):DY b P w K mg base x (k+1) ps (bj K ps.length g):=by
 obtain⟨f,fd,F,hm,hb⟩:=F;refine⟨f,fd,F.ok S (λvs H Q E q=>?_) (λcdv A outer s H vs Q E hr q=>?_),hm,F.kp,hb⟩
 . obtain⟨Z,qs,mu,r,mu',e,_⟩:=q; exact e
 . obtain⟨g',eg,b⟩:=h f cdv A outer s H E hr;obtain⟨Z,qs,mu,r,mu',e,hg,z,rl,c,hr',kk⟩:=q;rw[eg]at hr';obtain⟨fl,h1,h2⟩:=abd hr';refine⟨_,b,jA H (m7 Z.g mu),Z,_,[],fl,ul hg z rl c,h1,?_⟩;cases fl with
   | rt r' U'=>
    cases h2;intro v O' H' s';obtain⟨el,Z',hg',z',s''⟩:=s'.top;refine kk v H' ⟨Z',hg',z',s''.sub ?_⟩;exact(Zu _ _).cons_cons _
   | nx U'=>
    cases h2;intro O' H' s';obtain⟨el,Z',hg',z',s''⟩:=s';exact kk .non H' ⟨Z',hg',z',(s''.sub (Zu _ _)).consS (sY _)⟩
   | bk U'=>cases h2
   | ct U'=>cases h2
end
section
variable {X:Cx}
theorem bR {b:Bool} {x:Str} {k:Nat} {ps:List Str} {g:GF} {e:Expr} {es:List Expr} {a:AF} {p pos:Pos} (D:DY b X.prog X.w X.K X.mg X.base x k ps (bj X.K ps.length g)) (hr:fC b k X.A) (hg:Gl X x)
 (ha:PA X (e::es) (gk X.K a)) (hn:∀U ls U1,a U=some (ls,U1)->ls.length=ps.length) (hdb:(x==("__debug__" : Str))=false:=by decide) (he:starEach (e::es) X.env=(false,eval e X.env)::starEach es X.env:=by rfl) (hpl:(backTo pos (starEach es X.env)).any (·.1)=false:=by rfl):PE X (.Call (.Name x p) (e::es) [] pos) (tP X.K (aG g a)):=by
 obtain⟨f,fd,F,hm,hk,hb⟩:=D;refine PE.imp (zJ (E:=E0) F hr hg hm hk hb .nil yx ha hdb he hpl) λO H Q q=>?_;obtain⟨H0,Z0,U,pd,r,U',s,h,kk⟩:=q;exact N5 O H Q ⟨H0,Z0,U,pd,r,U',s,h,λls U1 e=>hn U ls U1 e,kk⟩
section
variable {K:FG} {H0 H H':Hp} {Z0 Z:ZG} {O:L2.St} {U:Ev} {pd pd':Pd} {v w:V} {l:Lc} {p:PV}
theorem SR.sub (h:SR K H0 Z0 O H U pd') (q:List.Sublist pd pd'):SR K H0 Z0 O H U pd:=
 let ⟨e,Z,hg,z,s⟩:=h
 ⟨e,Z,hg,z,s.sub ((aan _).append ((aan _).append (q.map _)))⟩
theorem SR.dup (h:SR K H0 Z0 O H U ((v,.sh p)::pd)):SR K H0 Z0 O H U ((v,.sh p)::(v,.sh p)::pd):=by obtain⟨e,Z,hg,z,s⟩:=h.top;obtain⟨x,e1,e2⟩:=s.1 _ YK;cases e1;exact .mk e hg z ((s.perm bQ).consS e2)
theorem SR.part {u:V} {q:PV} (h:SR K H0 Z0 O H U ((v,.sh p)::pd)) (k:∀Z:ZG,cY Z.z H->Rep K Z p v->Rep K Z q u):SR K H0 Z0 O H U ((u,.sh q)::(v,.sh p)::pd):=by obtain⟨e,Z,hg,z,s⟩:=h.top;obtain⟨x,e1,e2⟩:=s.1 _ YK;cases e1;exact .mk e hg z ((s.perm bQ).consS (k Z z.zh e2))
end
abbrev BF:=PV->Ev->Option Ev
def GS (K:FG) (g:TG) (b:BF):Prop:=∀H0 Z0 O H U pd v p U' Q,SR K H0 Z0 O H U ((v,.sh p)::pd)->b p U=some U'->(∀O',SR K H0 Z0 O' H U' pd->Q O' H)->g v O H Q
abbrev Ea:=List PV->Ev->Option Ev
def Qw (K:FG) (g:uK) (b:Ea):Prop:=∀H0 Z0 O H U pd vs ps U' Q,vs.length=ps.length->SR K H0 Z0 O H U (vs.zip (ps.map Lc.sh)++pd)->b ps U=some U'->(∀O',SR K H0 Z0 O' H U' pd->Q O' H)->g vs O H Q
def aJ (i:Nat):BF:=λp U=>if i<U.vs.length then some (U.set i (some (.sh p))) else none
theorem aY {i:Nat}:GS K (Cw i) (aJ i):=by
 intro H0 Z0 O H U pd v p U' Q s h k;unfold aJ at h;split at h
 . rename_i hl; cases h; exact k _ (s.store hl)
 . cases h
def ie:Ea:=λps U=>match ps with
 | []=>some U
 | _=>none
def bh (b:BF) (bs:Ea):Ea:=λps U=>match ps with
 | p::r=>(b p U).bind λU1=>bs r U1
 | []=>none
theorem lO:Qw K T4 ie:=by
 intro H0 Z0 O H U pd vs ps U' Q e s h k;cases ps with
 | nil=>
  cases h;have:vs=[]:=aaO (by simpa using e);subst this;exact⟨rfl,k O s⟩
 | cons p r=>cases h
theorem bZ {t:TG} {u:uK} {b:BF} {bs:Ea} (h1:GS K t b) (h2:Qw K u bs):Qw K (Qa t u) (bh b bs):=by
 intro H0 Z0 O H U pd vs ps U' Q e s h k;cases ps with
 | nil=>cases h
 | cons p r=>
  cases vs with
  | nil=>simp at e
  | cons v ws=>
   obtain⟨U1,e1,e2⟩:=abd h;refine⟨v,ws,rfl,h1 H0 Z0 O H U _ v p U1 _ s e1 λO' s'=>?_⟩;exact h2 H0 Z0 O' H U1 pd ws r U' Q (by simpa using e) s' e2 k
theorem Kv {Z:ZG} {L:Sl} (s:Slots K H0 Z H L):∀{ps:List PV} {vs:List V},aF K Z ps vs->Slots K H0 Z H ((vs.zip (ps.map Lc.sh)).map (λe=>(some e.1,some e.2))++L)
 | [],vs,h=>by have:=h.inv0; subst this; simpa using s
 | p::ps,vs,h=>by obtain⟨v,r,rfl,h1,h2⟩:=h.inv;exact(Kv s h2).consS h1
theorem SR.items {Z0 Z:ZG} {vs:List V} {ps:List PV} (e:O.length=U.vs.length) (hg:U.mu.length=Z.g.length) (z:jW H0 Z0 Z H) (r:aF K Z ps vs) (s:Slots K H0 Z H (sl Z.g O U pd)):SR K H0 Z0 O H U (vs.zip (ps.map Lc.sh)++pd):=
 ⟨e,Z,hg,z,(Kv s r).perm DR⟩
def YD (i j:Nat) (a:AF):SF:=λU=>(a U).bind λy=>match y.1 with
 | [l,m]=>if i<y.2.vs.length/\j<y.2.vs.length then some (.nx ((y.2.set i (some l)).set j (some m))) else none
 | _=>none
def nT (K:FG) (H0:Hp) (Z0:ZG) (pd:Pd) (J:It) (xs:List PV):Prop:=∀O H U (i:Nat),SR K H0 Z0 O H U pd->
 (∀x,xs[i]?=some x->J.go i H/\∀v H',J.yld i H v H'->SR K H0 Z0 O H' U ((v,.sh x)::pd))/\(i=xs.length->J.stop i H)
abbrev IF:=Ev->Option (List PV×Ev)
def yH (K:FG) (f:IF):TI:=λO H R=>∃H0 Z0 U pd xs U',SR K H0 Z0 O H U pd/\f U=some (xs,U')/\∀J H' pd',SR K H0 Z0 O H' U' pd'->nT K H0 Z0 pd' J xs->List.Sublist pd pd'->R J H'
theorem PI.imp {tg iter:Expr} {t t':TI} (h:PI X tg iter t) (i:∀O H R,t' O H R->t O H R):PI X tg iter t':=λacR s O H R I q=>h acR s O H R I (i O H R q)
def jL (f:EF) (g:PV->Option (List PV)):IF:=λU=>(f U).bind λx=>(g x.1.pv).map λxs=>(xs,x.2)
theorem Kw {H0:Hp} {a:Addr} {ps:List PV}:nT K H0 Z0 ((.ref a,.sh (.lst ps))::pd) (Qc K a) ps:=by intro O H U i s;obtain⟨Z,z,r⟩:=s.rep;unfold Rep at r;obtain⟨b,vs,e,h1,h2⟩:=r;cases e;have hq:=bI.same z h1;refine⟨λx hx=>?_,λhl=>⟨vs,hq,by rw[h2.length]; omega⟩⟩;obtain⟨v,hv,rv⟩:=h2.get hx;refine⟨⟨vs,v,hq,hv⟩,λv' H' y=>?_⟩;obtain⟨e',y⟩:=y;subst e';have:=y vs hq;rw[hv]at this; cases this;refine s.part λZ' z' r'=>?_;unfold Rep at r';obtain⟨b',vs',e',h1',h2'⟩:=r';cases e';have:vs'[i]?=some v:=y vs' (bI.same z' h1');obtain⟨p',hp',rp'⟩:=h2'.getV this;rw[hx]at hp'; cases hp';exact rp'
theorem N6 {H0:Hp} {a:Addr} {ps:List PV}:nT K H0 Z0 ((.ref a,.sh (.tup ps))::pd) (Qd K a) ps:=by intro O H U i s;obtain⟨Z,z,r⟩:=s.rep;unfold Rep at r;obtain⟨b,vs,e,h1,h2⟩:=r;cases e;have hq:=bV.same z h1;refine⟨λx hx=>?_,λhl=>⟨vs,hq,by rw[h2.length]; omega⟩⟩;obtain⟨v,hv,rv⟩:=h2.get hx;refine⟨⟨vs,v,hq,hv⟩,λv' H' y=>?_⟩;obtain⟨e',y⟩:=y;subst e';have:=y vs hq;rw[hv]at this; cases this;refine s.part λZ' z' r'=>?_;unfold Rep at r';obtain⟨b',vs',e',h1',h2'⟩:=r';cases e';have:vs'[i]?=some v:=y vs' (bV.same z' h1');obtain⟨p',hp',rp'⟩:=h2'.getV this;rw[hx]at hp'; cases hp';exact rp'
def xN (lo:Int) (n:Nat):List PV:=(List.range n).map λi=>.int (lo+(i:Nat))
def cZ (a:AF):IF:=λU=>(a U).bind λy=>match y.1.map Lc.pv with
 | [.int j]=>if -(2 ^ 62)<=j/\j<2 ^ 62 then some (xN 0 j.toNat,y.2) else none
 | _=>none
theorem N7 {H0:Hp} {lo:Int} {n:Nat}:nT K H0 Z0 pd (Qe lo n) (xN lo n):=by
 intro O H U i s;refine⟨λx hx=>?_,λhl=>?_⟩
 . have hi:i<n:=by have:=(YS.mp hx).1;simpa [xN] using this
   refine⟨hi,λv H' y=>?_⟩;obtain⟨rfl,rfl⟩:=y;unfold xN at hx;rw[Zd,List.getElem?_range hi]at hx;cases hx;exact s.scal fj
 . show n<=i;simp[xN]at hl;omega
theorem SR.ints {vs:List V} {ls:List Lc} {ns:List Int} (s:SR K H0 Z0 O H U (vs.zip ls++pd)) (e:vs.length=ls.length) (h:ls.map Lc.pv=ns.map PV.int):vs=ns.map V.int/\SR K H0 Z0 O H U pd:=by
 obtain⟨el,Z,hg,z,r,sl'⟩:=s.repl e;refine⟨?_,el,Z,hg,z,sl'⟩;rw[h]at r;clear h e s sl';induction ns generalizing vs with
 | nil=>exact r.inv0
 | cons n ns ih=>
  obtain⟨v,w,rfl,h1,h2⟩:=r.inv;rw[bG h1,ih h2];rfl
theorem ji {tg a:Expr} {f:AF} {p pos:Pos} (hg:Gl X "range") (hm:X.mg "range" = none) (ha:PA X [a] (gk X.K f)) (hs:starEach [a] X.env=[(false,eval a X.env)]:=by rfl):PI X tg (.Call (.Name "range" p) [a] [] pos) (yH X.K (cZ f)):=PI.imp (JM hg hm ha hs) λO H R q=>by
 obtain⟨H0,Z0,U,pd,xs,U',s,h,k⟩:=q;obtain⟨y,h1,h2⟩:=abd h;refine⟨H0,Z0,U,pd,y.1,y.2,s,h1,λvs H1 e1 s1=>?_⟩;split at h2
 . rename_i j e;split at h2
   . rename_i hj;cases h2;obtain⟨rfl,s2⟩:=s1.ints (ns:=[j]) e1 e;exact⟨j,rfl,hj.1,hj.2,k _ _ _ s2 N7 (aan _)⟩
   . cases h2
 . cases h2
def jO (b:BF) (body:SF):List PV->SF
 | [],U=>some (.nx U)
 | x::xs,U=>(b x U).bind λU1=>(body U1).bind λfl=>match fl with
  | .nx U'=>jO b body xs U'
  | .ct U'=>jO b body xs U'
  | .bk U'=>some (.nx U')
  | .rt r U'=>some (.rt r U')
def jP (f:IF) (b:BF) (body:SF):SF:=λU=>(f U).bind λy=>jO b body y.1 y.2
theorem vm {P:Prop} (h:∀G:Prop,(P->G)->G):P:=h P id
def FW (K:FG) (H0:Hp) (Z0:ZG) (pd:Pd) (b:BF) (fb:SF) (xs:List PV) (fl:Fl) (i m:Nat) (O:L2.St) (H:Hp):Prop:=m=xs.length-i/\i<=xs.length/\∃U,SR K H0 Z0 O H U pd/\jO b fb (xs.drop i) U=some fl
theorem N8 {g:TG} {b:BF} {fb:SF} (hb:GS K g b) {J:It} {xs:List PV} {fl:Fl} {D:Ends} (it:nT K H0 Z0 pd J xs) (k:oK K H0 Z0 pd D fl) (s:SR K H0 Z0 O H U pd) (h:jO b fb xs U=some fl):
 ∃W:Nat->Nat->L2.St->Hp->Prop,(∃m,W 0 m O H)/\∀i m O H,W i m O H->
  (J.stop i H/\D.nx O H)\/(J.go i H/\∃N:L2.St->Hp->Prop,(∀O' H',N O' H'->∃m',m'<m/\W (i+1) m' O' H')/\∀x H',J.yld i H x H'->g x O H' λO2 H2=>fO K fb { D with nx:=N,ct:=N,bk:=D.nx } O2 H2):=by
 refine⟨FW K H0 Z0 pd b fb xs fl,⟨_,rfl,Z8 _,U,s,h⟩,λi m O' H' w=>?_⟩;refine vm λG kG=>?_;obtain⟨rfl,hi,U',s',h'⟩:=w;obtain⟨i1,i2⟩:=it O' H' U' i s';by_cases hlt:i<xs.length
 . obtain⟨go,yl⟩:=i1 _ (YT hlt);rw[aap hlt]at h';obtain⟨U1,e1,e2⟩:=abd h';obtain⟨fl1,e3,e4⟩:=abd e2;refine kG (.inr ⟨go,λO'' H''=>FW K H0 Z0 pd b fb xs fl (i+1) (xs.length-(i+1)) O'' H'',λO'' H'' w=>⟨_,by omega,w⟩,λx H2 hy=>hb H0 Z0 O' H2 U' pd x _ U1 _ (yl x H2 hy) e1 λO2 s2=>⟨H0,Z0,U1,pd,fl1,s2,e3,?_⟩⟩);cases fl1 with
   | nx U2=>exact λO3 H3 s3=>⟨rfl,hlt,U2,s3,e4⟩
   | ct U2=>exact λO3 H3 s3=>⟨rfl,hlt,U2,s3,e4⟩
   | bk U2=>cases e4; exact k
   | rt r U2=>cases e4; exact k
 . have e:i=xs.length:=Nat.le_antisymm hi (aay hlt);subst e;rw[aa0]at h';cases h';exact kG (.inl ⟨i2 rfl,k O' H' s'⟩)
theorem oK.imp {H0:Hp} {Z0 Z₁:ZG} {pd pd':Pd} {D:Ends} {fl:Fl} (k:oK K H0 Z0 pd D fl) (w:∀{τ:L2.St} {J:Hp} {q:Ev},SR K H0 Z₁ τ J q pd'->SR K H0 Z0 τ J q pd) (w':∀{τ:L2.St} {J:Hp} {q:Ev} {e:V×Lc},SR K H0 Z₁ τ J q (e::pd')->SR K H0 Z0 τ J q (e::pd)):oK K H0 Z₁ pd' D fl:=by
 cases fl with
 | rt r U=>exact λv O H s=>k v O H (w' s)
 | _=>exact λO H s=>k O H (w s)
theorem jY {tg iter:Expr} {body:List Stmt} {f:IF} {g:TG} {b:BF} {fb:SF} {pos:Pos} (hp:PassesOwn (model X.prog X.w) X.A X.env X.xe) (hc:X.calm=true) (hi:PI X tg iter (yH X.K f)) (hg:PG X tg g) (hb':GS X.K g b) (hb:eF X body (fO X.K fb))
 (hs:∀x,foldedSetIterable iter X.env x=pure x:=by intro _; rfl):PS X (.For tg iter body [] pos) (fO X.K (jP f b fb)):=PS.imp (JP hp hc hi hg hb hs) λD O H q=>by
 refine vm λG kG=>?_;obtain⟨H0,Z0,U,pd,fl,s,h,k⟩:=q;obtain⟨y,h1,h2⟩:=abd h;exact kG ⟨H0,Z0,U,pd,y.1,y.2,s,h1,λJ H1 pd' s1 it sub=>N8 hb' it (k.imp (λs=>s.sub sub) λs=>s.sub (sub.cons_cons _)) s1 h2⟩
def m9 (c:TF) (body:SF):Nat->SF
 | 0,_=>none
 | n+1,U=>(c U).bind λx=>if x.1=true then (body x.2).bind λfl=>match fl with
  | .nx U'=>m9 c body n U'
  | .ct U'=>m9 c body n U'
  | .bk U'=>some (.nx U')
  | .rt r U'=>some (.rt r U') else some (.nx x.2)
def qO (n:Nat) (c:TF) (body:SF):SF:=m9 c body n
theorem Oa (n:Nat) {c:Expr} {body:List Stmt} {fc:TF} {fb:SF} {pos:Pos} (hp:PassesOwn (model X.prog X.w) X.A X.env X.xe) (hc:PT X c (lA X.K fc)) (hb:eF X body (fO X.K fb)):PS X (.While c body [] pos) (fO X.K (qO n fc fb)):=PS.imp (MK hp hc hb) λD O H q=>by
 obtain⟨H0,Z0,U,pd,fl,s,h,k⟩:=q;refine⟨λm O' H'=>∃U',SR X.K H0 Z0 O' H' U' pd/\m9 fc fb m U'=some fl,⟨n,U,s,h⟩,?_⟩;rintro m O' H' ⟨U',s',h'⟩;cases m with
 | zero=>cases h'
 | succ m=>
  obtain⟨x,e1,e2⟩:=abd h';refine⟨H0,Z0,U',pd,x.1,x.2,s',e1,λH1 s1=>?_⟩;dsimp only;split
  . rename_i hx;rw[aa5 hx]at e2;obtain⟨fl1,e3,e4⟩:=abd e2;refine⟨λO'' H''=>∃U'',SR X.K H0 Z0 O'' H'' U'' pd/\m9 fc fb m U''=some fl,λO'' H'' q=>⟨m,aar _,q⟩,H0,Z0,x.2,pd,fl1,s1,e3,?_⟩;cases fl1 with
    | nx U2=>exact λO3 H3 s3=>⟨U2,s3,e4⟩
    | ct U2=>exact λO3 H3 s3=>⟨U2,s3,e4⟩
    | bk U2=>cases e4; exact λO3 H3 s3=>k O3 H3 s3
    | rt r U2=>cases e4; exact λv O3 H3 s3=>k v O3 H3 s3
  . rename_i hx;rw[aa6 hx]at e2;cases e2;exact k O' H1 s1
end
section
variable {K:FG} {H0 H H':Hp} {Z0 Z:ZG} {O:L2.St} {U:Ev} {pd pe:Pd} {v w:V} {l:Lc} {p:PV} {g:List Addr}
def Ev.app (U:Ev) (pe:Pd):Ev:=⟨U.vs++pe.map (λx=>some x.2),U.mu⟩
theorem Eb (e:O.length=U.vs.length):sl g (O++pe.map λx=>some x.1) (U.app pe) pd=sl g O U (pe++pd):=by
 unfold sl Ev.app;rw[aah e,Zo,Ze];congr 3;induction pe with
 | nil=>rfl
 | cons a r ih=>simp[ih]
theorem SR.shift (h:SR K H0 Z0 O H U (pe++pd)):SR K H0 Z0 (O++pe.map λx=>some x.1) H (U.app pe) pd:=by obtain⟨e,Z,hg,z,s⟩:=h;refine⟨by simp[Ev.app,e],Z,hg,z,?_⟩;rw[Eb e];exact s
theorem SR.unshift (e:O.length=U.vs.length) (h:SR K H0 Z0 (O++pe.map λx=>some x.1) H (U.app pe) pd):SR K H0 Z0 O H U (pe++pd):=by obtain⟨_,Z,hg,z,s⟩:=h;refine⟨e,Z,hg,z,?_⟩;rw[Eb e]at s;exact s
theorem nT.more {J:It} {xs:List PV} (h:nT K H0 Z0 pd J xs):nT K H0 Z0 (pe++pd) J xs:=by intro O H U i s;obtain⟨h1,h2⟩:=h _ H _ i s.shift;refine⟨λx hx=>?_,h2⟩;obtain⟨g,y⟩:=h1 x hx;refine⟨g,λv H' q=>?_⟩;have s':=y v H' q;have e:O.length=U.vs.length:=s.1;have s2:SR K H0 Z0 (O++pe.map λx=>some x.1) H' (U.app pe) ((v,.sh x)::pd):=s';exact(SR.unshift e s2).perm (pd':=(v,.sh x)::(pe++pd)) ZL.symm
def qg (O:L2.St) (U:Ev):Pd:=(O.zip U.vs).filterMap λe=>match e with
 | (some v,some l)=>some (v,l)
 | _=>none
theorem um:∀{L:Sl},(∀e∈L,e.2=none\/∃v l,e=(some v,some l))->∀{T:Sl},
 (Slots K H0 Z H (L++T) ↔ Slots K H0 Z H ((L.filterMap λe=>match e with | (some v,some l)=>some (v,l) | _=>none).map (λe=>((some e.1:Option V),(some e.2:Option Lc)))++T))
 | [],_,T=>by simp
 | (v,l)::L,h,T=>by
  have h':∀e∈L,e.2=none\/∃v l,e=(some v,some l):=λe he=>h e (Y6 _ he);rcases h (v,l) YK with e | ⟨v',l',e⟩
  . have e':l=none:=e;subst e';have e1:((v,(none:Option Lc))::L).filterMap (λe=>match e with | (some v,some l)=>some (v,l) | _=>none)=L.filterMap (λe=>match e with | (some v,some l)=>some (v,l) | _=>none):=by rw[Zr];cases v<;>rfl
    rw[e1,<-um h' (T:=T)];have o1:lN (v,none)=none:=by
     cases v with
     | none=>rfl
     | some x=>cases x<;>rfl
    constructor
    . exact λs=>s.sub (Y4 _ _)
    . intro s;refine⟨λe he=>?_,?_⟩
      . rcases YM.mp he with rfl | he
        . trivial
        . exact s.1 e he
      . rw[aad,Zr o1];exact s.2
  . cases e;have e1:((some v',some l')::L).filterMap (λe=>match e with | (some v,some l)=>some (v,l) | _=>none)=(v',l')::L.filterMap (λe=>match e with | (some v,some l)=>some (v,l) | _=>none):=by rfl
    rw[e1];have ih1:=um h' (T:=T++[(some v',some l')]);have perm1:∀A:Sl,List.Perm ((some v',some l')::(A++T)) (A++(T++[(some v',some l')])):=λA=>by rw[<-Ze];exact(List.perm_append_singleton _ _).symm
    constructor
    . intro s;exact(ih1.mp (s.perm (perm1 L).symm)).perm (perm1 _)
    . intro s;exact(ih1.mpr (s.perm (perm1 _).symm)).perm (perm1 L)
theorem SR.both (s:SR K H0 Z0 O H U pd):∀e∈O.zip U.vs,e.2=none\/∃v l,e=(some v,some l):=by
 obtain⟨_,Z,_,z,s⟩:=s;intro e he;have q:=s.1 e (Zn _ (ZV _ he));obtain⟨v,l⟩:=e;cases l with
 | none=>exact .inl rfl
 | some l=>
  cases l with
  | sh p=>obtain⟨x,e1,_⟩:=q; have e1':v=some x:=e1; subst e1'; exact .inr ⟨_,_,rfl⟩
  | own p=>obtain⟨x,e1,_⟩:=q; have e1':v=some (.ref x):=e1; subst e1'; exact .inr ⟨_,_,rfl⟩
theorem Bo (hb:∀e∈O.zip U.vs,e.2=none\/∃v l,e=(some v,some l)):Slots K H0 Z H (sl g O U pd) ↔ Slots K H0 Z H (cel g U.mu++(qg O U++pd).map λe=>(some e.1,some e.2)):=by
 have h1:=um (K:=K) (H0:=H0) (Z:=Z) (H:=H) hb (T:=(pd.map λe=>(some e.1,some e.2))++cel g U.mu);have c1:List.Perm (sl g O U pd) (O.zip U.vs++((pd.map λe=>(some e.1,some e.2))++cel g U.mu)):=by unfold sl;rw[<-Ze (O.zip U.vs)];exact aai
 have c2:List.Perm (cel g U.mu++(qg O U++pd).map λe=>((some e.1:Option V),(some e.2:Option Lc))) ((qg O U).map (λe=>(some e.1,some e.2))++((pd.map λe=>(some e.1,some e.2))++cel g U.mu)):=by rw[Zo,<-Ze ((qg O U).map _)];exact aai
 exact⟨λs=>(h1.mp (s.perm c1.symm)).perm c2,λs=>(h1.mpr (s.perm c2.symm)).perm c1⟩
theorem SR.back {O':L2.St} {U':Ev} (el:O.length=U.vs.length) (hb:∀e∈O.zip U.vs,e.2=none\/∃v l,e=(some v,some l)) (s:SR K H0 Z0 O' H U' (qg O U++pd)):SR K H0 Z0 O H ⟨U.vs,U'.mu⟩ pd:=by obtain⟨_,Z,hg,z,s⟩:=s;refine⟨el,Z,hg,z,(Bo (U:=⟨U.vs,U'.mu⟩) hb).mpr ?_⟩;exact s.sub ((aan _).append (aao _ _))
def jq (ixs:List Nat) (U:Ev):Ev:=ixs.foldl (λU i=>match U.vs[i]? with
 | some (some l)=>U.set i (some (.sh l.pv))
 | _=>U) U
theorem SR.frz:∀{ixs:List Nat} {U:Ev},SR K H0 Z0 O H U pd->SR K H0 Z0 O H (jq ixs U) pd
 | [],U,s=>s
 | i::r,U,s=>by
  unfold jq;rw[aaa];refine SR.frz (ixs:=r) ?_;split
  . rename_i l e;obtain⟨v,_,h2⟩:=s.var e;exact h2.pop
  . exact s
def xO:Option Lc->Bool
 | some (.own _)=>false
 | _=>true
theorem Ec {j:Nat}:∀{ixs:List Nat} {U:Ev},xO (U.vs[j]?).join=true->xO ((jq ixs U).vs[j]?).join=true
 | [],U,h=>h
 | i::r,U,h=>by
  unfold jq;rw[aaa];refine Ec (ixs:=r) ?_;split
  . rename_i l e;by_cases hij:i=j
    . subst hij;have hi:=(YS.mp e).1;show xO ((U.vs.set i _)[i]?).join=true;rw[Y8 hi];rfl
    . show xO ((U.vs.set i _)[j]?).join=true;rw[Zc hij]; exact h
  . exact h
theorem Ky {j:Nat}:∀{ixs:List Nat} {U:Ev},j∈ixs->xO ((jq ixs U).vs[j]?).join=true
 | [],U,h=>by cases h
 | i::r,U,h=>by
  unfold jq;rw[aaa];rcases YM.mp h with e | h
  . subst e;refine Ec (ixs:=r) ?_;split
    . rename_i l e;have hi:=(YS.mp e).1;show xO ((U.vs.set j _)[j]?).join=true;rw[Y8 hi];rfl
    . rename_i hn;cases q:U.vs[j]? with
      | none=>rfl
      | some o=>
       cases o with
       | none=>rfl
       | some l=>exact(hn l q).elim
  . exact Ky h
def qP (m:Nat) (ixs:List Nat) (U:Ev):Ev:=⟨List.replicate m none++ixs.map λi=>(U.vs[i]?).join,U.mu⟩
theorem SR.block {m:Nat} {ixs:List Nat} (s:SR K H0 Z0 O H U pd) (hs:∀j∈ixs,xO (U.vs[j]?).join=true):SR K H0 Z0 (vd m ixs O) H (qP m ixs U) (qg O U++pd):=by
 have hb:=s.both;obtain⟨el,Z,hg,z,so⟩:=s;refine⟨by simp[vd,qP],Z,hg,z,?_⟩;have s3:=(Bo hb).mp so;have fin:Slots K H0 Z H ((ixs.map λi=>(O[i]?).join).zip (ixs.map λi=>(U.vs[i]?).join)++(cel Z.g U.mu++(qg O U++pd).map λe=>(some e.1,some e.2)))->Slots K H0 Z H (sl Z.g (vd m ixs O) (qP m ixs U) (qg O U++pd)):=λh=>by unfold sl vd qP;rw[aah (by simp),Ze];refine(nones h m).perm ?_;exact(CT _ _ _).trans ((CT _ _ _).append_left _)
 refine fin ?_;clear fin;induction ixs with
 | nil=>simpa using s3
 | cons i r ih=>
  have ih':=ih λj hj=>hs j (Y6 _ hj);rw[Za,Za,Z7,aad];have h1:=hs i YK;cases q:U.vs[i]? with
  | none=>
   refine⟨λe he=>?_,?_⟩
   . rcases YM.mp he with rfl | he
     . trivial
     . exact ih'.1 e he
   . rw[Zr]
     . exact ih'.2
     . cases (O[i]?).join with
       | none=>rfl
       | some x=>cases x<;>rfl
  | some o=>
   cases o with
   | none=>
    refine⟨λe he=>?_,?_⟩
    . rcases YM.mp he with rfl | he
      . trivial
      . exact ih'.1 e he
    . rw[Zr]
      . exact ih'.2
      . cases (O[i]?).join with
        | none=>rfl
        | some x=>cases x<;>rfl
   | some l=>
    rw[q]at h1;cases l with
    | own p=>cases h1
    | sh p=>
     have hi:i<O.length:=by rw[el]; exact(YS.mp q).1
     have hO:O[i]?=some O[i]:=YT hi;have hm:=Z9 (zip_get hO q);obtain⟨x,e1,e2⟩:=so.1 _ (Zn _ (ZV _ hm));have e1':O[i]=some x:=e1;have ej:(O[i]?).join=some x:=by rw[hO,e1']; rfl
     rw[ej];exact ih'.consS e2
end
theorem SR.pushO {v:V} {l:Lc} {a:Addr} {ws:List PV} (s:SR K H0 Z0 O H U ((v,l)::(.ref a,.own (.lst ws))::pd)):
 ∃us,H a=some (.lst us)/\us.length=ws.length/\SR K H0 Z0 O (upd H a (.lst (us++[v]))) U ((.ref a,.own (.lst (ws++[l.pv])))::pd):=by
 obtain⟨el,Z,hg,z,r,so⟩:=s.freeze.sh;have so2:=so.perm bQ.symm;obtain⟨b,eb,⟨us,hu,hr⟩,_⟩:=so2.1 _ YK;cases eb;refine⟨us,hu,hr.length,?_⟩;obtain⟨z',s'⟩:=so2.write (o:=.lst (us++[v])) (q:=.lst (ws++[l.pv])) z ⟨us++[v],bA,hr.append (aF.cons r .nil)⟩;exact .mk el hg z' s'
def rJ (b:BF) (tc:TF) (te:EF):List PV->Ev->List PV->Option (List PV×Mu)
 | [],U,acc=>some (acc,U.mu)
 | x::xs,U,acc=>(b x U).bind λU1=>(tc U1).bind λc=>if c.1=true then (te c.2).bind λv=>if acc.length<100000 then rJ b tc te xs v.2 (acc++[v.1.pv]) else none else rJ b tc te xs c.2 acc
def dG (f:IF) (m:Nat) (ixs:List Nat) (b:BF) (tc:TF) (te:EF):EF:=λU=>(f U).bind λy=>(rJ b tc te y.1 (qP m ixs (jq ixs y.2)) []).map λys=>(.own (.lst ys.1),⟨(jq ixs y.2).vs,ys.2⟩)
def CW (K:FG) (H0:Hp) (Z0:ZG) (b:BF) (tc:TF) (te:EF) (p:Addr) (PD:Pd) (xs:List PV) (zs:List PV×Mu) (i n:Nat) (O':L2.St) (H':Hp):Prop:=
 n=xs.length-i/\i<=xs.length/\∃Ui ws,SR K H0 Z0 O' H' Ui ((.ref p,.own (.lst ws))::PD)/\rJ b tc te (xs.drop i) Ui ws=some zs
theorem Kz {g:TG} {b:BF} {tc:TF} {te:EF} (hb:GS K g b) {H0:Hp} {p:Addr} {PD:Pd} {J:It} {xs:List PV} {zs:List PV×Mu} {Q:VK}
 (it:∀ws,nT K H0 Z0 ((.ref p,.own (.lst ws))::PD) J xs) (fin:∀O' H' Ui ws,SR K H0 Z0 O' H' Ui ((.ref p,.own (.lst ws))::PD)->rJ b tc te [] Ui ws=some zs->Q (.ref p) H') (i n:Nat) (O':L2.St) (H':Hp) (w:CW K H0 Z0 b tc te p PD xs zs i n O' H'):
 (J.stop i H'/\Q (.ref p) H')\/(J.go i H'/\∀x H2,J.yld i H' x H2->g x O' H2 λO3 H3=>lA K tc O3 H3 λb' H4=>
   if b'=true then tP K te O3 H4 λv H5=>∃ys,H5 p=some (.lst ys)/\ys.length<sizeLine/\∃n',n'<n/\CW K H0 Z0 b tc te p PD xs zs (i+1) n' O3 (upd H5 p (.lst (ys++[v])))
   else ∃n',n'<n/\CW K H0 Z0 b tc te p PD xs zs (i+1) n' O3 H4):=by
 refine vm λG kG=>?_;obtain⟨rfl,hi,Ui,ws,s',h'⟩:=w;obtain⟨i1,i2⟩:=it ws O' H' Ui i s';by_cases hlt:i<xs.length
 . obtain⟨go,yl⟩:=i1 _ (YT hlt);rw[aap hlt]at h';obtain⟨U1,e1,e2⟩:=abd h';obtain⟨c,e3,e4⟩:=abd e2;have hn:xs.length-(i+1)<xs.length-i:=by omega
   refine kG (.inr ⟨go,λx H2 hy=>hb H0 Z0 O' H2 Ui _ x _ U1 _ (yl x H2 hy) e1 λO2 s5=>⟨H0,Z0,U1,_,c.1,c.2,s5,e3,λH4 s6=>?_⟩⟩);dsimp only;split
   . rename_i hc;refine vm λG kG=>?_;rw[aa5 hc]at e4;obtain⟨v,e5,e6⟩:=abd e4;split at e6
     . rename_i hz;refine kG ⟨H0,Z0,c.2,_,v.1,v.2,s6,e5,λvv H5 s7=>?_⟩;refine vm λG kG=>?_;obtain⟨us,hu,hl,s8⟩:=s7.pushO;exact kG ⟨us,hu,by rw[hl,sizeLine_eq]; omega,_,hn,rfl,hlt,v.2,_,s8,e6⟩
     . cases e6
   . rename_i hc;rw[aa6 hc]at e4;exact⟨_,hn,rfl,hlt,c.2,ws,s6,e4⟩
 . have e:i=xs.length:=Nat.le_antisymm hi (aay hlt);subst e;rw[aa0]at h';exact kG (.inl ⟨i2 rfl,fin _ _ _ _ s' h'⟩)
theorem Ob {f:IF} {m:Nat} {ixs:List Nat} {g:TG} {b:BF} {tc:TF} {te:EF} (hb:GS K g b):∀O H Q,tP K (dG f m ixs b tc te) O H Q->Qp (yH K f) m ixs g (lA K tc) (tP K te) O H Q:=λO H Q q=>by refine vm λG kG=>?_;obtain⟨H0,Z0,U,pd,r,U',s,h,k⟩:=q;obtain⟨y,h1,h2⟩:=abd h;obtain⟨zs,h3,h4⟩:=abe h2;cases h4;refine kG ⟨H0,Z0,U,pd,y.1,y.2,s,h1,λJ H1 pd' s1 it sub p hp=>?_⟩;have s2:SR K H0 Z0 O H1 (jq ixs y.2) pd':=s1.frz;have s3:=s2.block (m:=m) (ixs:=ixs) λj hj=>Ky hj;have s4:SR K H0 Z0 (vd m ixs O) (upd H1 p (.lst [])) (qP m ixs (jq ixs y.2)) ((.ref p,.own (.lst []))::(qg O (jq ixs y.2)++pd')):=s3.newO hp λZ _ _=>⟨[],bA,.nil⟩;refine⟨CW K H0 Z0 b tc te p (qg O (jq ixs y.2)++pd') y.1 zs,⟨_,rfl,Z8 _,_,[],s4,h3⟩,Kz hb (λws=>nT.more (pe:=(.ref p,.own (.lst ws))::qg O (jq ixs y.2)) it) λO' H' Ui ws s' h'=>?_⟩;cases h';have s5:SR K H0 Z0 O' H' Ui (qg O (jq ixs y.2)++((.ref p,.own (.lst ws))::pd')):=s'.perm ZL;exact k _ _ ((SR.back s2.1 s2.both s5).sub (sub.cons_cons _))
section
variable {X:Cx}
theorem nM (M F:List Str) (ixs:List Nat) {sc:Scope} {tg iter elt:Expr} {ifs:List Expr} {f:IF} {g:TG} {b:BF} {tc:TF} {te:EF} {pos:Pos} (hcalm:X.calm=true) (c:jV X M F ixs sc) (hi:PI X tg iter (yH X.K f))
 (hg:∀C fp s H,PG (jg X M F sc C fp s H) tg g) (hb:GS X.K g b) (hc:∀C fp s H,zN (jg X M F sc C fp s H) ifs (lA X.K tc)) (he:∀C fp s H,PE (jg X M F sc C fp s H) elt (tP X.K te))
 (hs:∀x,foldedSetIterable iter X.env x=pure x:=by intro _; rfl):PE X (.ListComp elt [⟨tg,iter,ifs,0⟩] sc pos) (tP X.K (dG f M.length ixs b tc te)):=PE.imp (Ry M F ixs hcalm c hi hg hc he hs) (Ob hb)
def dR:TF:=λU=>some (true,U)
theorem gO:zN X [] (lA X.K dR):=λacR s O H Q I q=>Nr acR s O H Q I (by obtain⟨H0,Z0,U,pd,b,U',s,h,k⟩:=q;cases h;exact k H s)
end
def uo (f:PV->PV->Option Bool):List PV->List PV->Option Bool
 | p::ps,q::qs=>(f p q).bind λb=>(uo f ps qs).map λc=>b&&c
 | _,_=>some true
def lQ:Nat->PV->PV->Option Bool
 | 0,_,_=>none
 | n+1,p,q=>match p,q with
  | .tup ps,.tup qs=>(uo (lQ n) ps qs).map λb=>b&&(ps.length==qs.length)
  | .lst ps,.lst qs=>if ps.length=qs.length then uo (lQ n) ps qs else some false
  | .non,.non=>some true
  | .bl a,.bl b=>some (a==b)
  | .int a,.int b=>some (a==b)
  | .str a,.str b=>some (a==b)
  | .bl a,.int b=>some ((if a then 1 else 0)==b)
  | .int a,.bl b=>some (a==(if b then 1 else 0))
  | .non,.bl _=>some false
  | .non,.int _=>some false
  | .non,.str _=>some false
  | .non,.tup _=>some false
  | .non,.lst _=>some false
  | .bl _,.non=>some false
  | .bl _,.str _=>some false
  | .bl _,.tup _=>some false
  | .bl _,.lst _=>some false
  | .int _,.non=>some false
  | .int _,.str _=>some false
  | .int _,.tup _=>some false
  | .int _,.lst _=>some false
  | .str _,.non=>some false
  | .str _,.bl _=>some false
  | .str _,.int _=>some false
  | .str _,.tup _=>some false
  | .str _,.lst _=>some false
  | .tup _,.non=>some false
  | .tup _,.bl _=>some false
  | .tup _,.int _=>some false
  | .tup _,.str _=>some false
  | .tup _,.lst _=>some false
  | .lst _,.non=>some false
  | .lst _,.bl _=>some false
  | .lst _,.int _=>some false
  | .lst _,.str _=>some false
  | .lst _,.tup _=>some false
  | _,_=>none
theorem wj {f:PV->PV->Option Bool}:∀{ps qs:List PV} {b:Bool},uo f ps qs=some b->(∀(j:Nat) p q,ps[j]?=some p->qs[j]?=some q->f p q=some ((f (ps.getD j .non) (qs.getD j .non)).getD false))/\
 b=(List.range (min ps.length qs.length)).all λj=>(f (ps.getD j .non) (qs.getD j .non)).getD false
 | [],qs,b,h=>by cases h;exact⟨λj p q e=>by simp at e,by simp⟩
 | p::ps,[],b,h=>by cases h;exact⟨λj p q _ e=>by simp at e,by simp⟩
 | p::ps,q::qs,b,h=>by
  obtain⟨c,h1,h2⟩:=abd h;obtain⟨d,h3,rfl⟩:=abe h2;obtain⟨i1,i2⟩:=wj h3;refine⟨λj p' q' e1 e2=>?_,?_⟩
  . cases j with
    | zero=>
     simp at e1 e2;subst e1 e2;simp[h1]
    | succ j=>
     have:=i1 j p' q' (by simpa using e1) (by simpa using e2);simpa using this
  . have e:min (p::ps).length (q::qs).length=min ps.length qs.length+1:=by simp only[YX]; omega
    rw[e,List.range_succ_eq_map,List.all_cons,List.all_map];have e0:(f ((p::ps).getD 0 .non) ((q::qs).getD 0 .non)).getD false=c:=by simp[h1]
    rw[e0,i2];rfl
theorem elts {Z:ZG} {ps:List PV} {vs:List V} {its:List Value} (r:aF K Z ps vs) (rv:Vals vs its) {j:Nat} (h:j<its.length):∃p v,ps[j]?=some p/\Rep K Z p v/\RelV v its[j]:=by have hl:=rv.length;have hv:vs[j]?=some vs[j]:=YT (by omega);obtain⟨u,e1,e2⟩:=rv.get hv;rw[YT h]at e1;cases e1;obtain⟨p,e3,e4⟩:=r.getV hv;exact⟨p,vs[j],e3,e4,e2⟩
section
open PySem.SeqAt
variable {X:Cx} {acR:List (Addr×Obj)} {O:L2.St} {H:Hp} {s:Shared} {g:List Addr}
theorem vo (I:Inv X acR O H s) {ps:List PV} {v:V} {u:Value} (r:Rep X.K ⟨H,g⟩ (.tup ps) v) (ru:RelV v u):∃a vs its,u=.ref a/\bV X.K H a vs/\aF X.K ⟨H,g⟩ ps vs/\Vals vs its/\s.heap.IsTuple a its.toArray:=by unfold Rep at r;obtain⟨a,vs,rfl,h1,h2⟩:=r;obtain⟨its,r1,t1,_⟩:=I.tuple h1;exact⟨a,vs,its,ru,h1,h2,r1,t1⟩
theorem vp (I:Inv X acR O H s) {ps:List PV} {v:V} {u:Value} (r:Rep X.K ⟨H,g⟩ (.lst ps) v) (ru:RelV v u):∃a vs its,u=.ref a/\bI X.K H a vs/\aF X.K ⟨H,g⟩ ps vs/\Vals vs its/\s.heap.IsList a its.toArray:=by unfold Rep at r;obtain⟨a,vs,rfl,h1,h2⟩:=r;obtain⟨its,r1,t1,_⟩:=I.list h1;exact⟨a,vs,its,ru,h1,h2,r1,t1.isList⟩
def kn:PV->Nat
 | .non=>0 | .bl _=>1 | .int _=>2 | .str _=>3 | .tup _=>4 | .lst _=>5 | _=>6
theorem Xq {p:PV} (h:kn p=4):∃ps,p=.tup ps:=by cases p<;>first | exact⟨_,rfl⟩ | cases h
theorem Xr {p:PV} (h:kn p=5):∃ps,p=.lst ps:=by cases p<;>first | exact⟨_,rfl⟩ | cases h
theorem Iu {n:Nat} {p q:PV} {b:Bool} (h:lQ (n+1) p q=some b):kn p<6:=by cases p<;>first | cases h; done | exact Nat.le.step (Nat.le.step (Nat.le.step (Nat.le.step (Nat.le.step .refl)))) | exact Nat.le.step (Nat.le.step (Nat.le.step (Nat.le.step .refl))) | exact Nat.le.step (Nat.le.step (Nat.le.step .refl)) | exact Nat.le.step (Nat.le.step .refl) | exact Nat.le.step .refl | exact Nat.le.refl
theorem Qx {n:Nat} {p q:PV} {b:Bool} (h:lQ (n+1) p q=some b):kn q<6:=by
 have no:lQ (n+1) p q=none->kn q<6:=λe=>absurd (h.symm.trans e) (Option.some_ne_none b);cases q with
 | dk _ _=>exact no (by cases p<;>rfl)
 | dt _ _=>exact no (by cases p<;>rfl)
 | obj _ _ _=>exact no (by cases p<;>rfl)
 | df _ _=>exact no (by cases p<;>rfl)
 | dtf _ _=>exact no (by cases p<;>rfl)
 | dx _ _ _=>exact no (by cases p<;>rfl)
 | exc _=>exact no (by cases p<;>rfl)
 | fn _=>exact no (by cases p<;>rfl)
 | ptr _=>exact no (by cases p<;>rfl)
 | _=>first | exact Nat.le.step (Nat.le.step (Nat.le.step (Nat.le.step (Nat.le.step .refl)))) | exact Nat.le.step (Nat.le.step (Nat.le.step (Nat.le.step .refl))) | exact Nat.le.step (Nat.le.step (Nat.le.step .refl)) | exact Nat.le.step (Nat.le.step .refl) | exact Nat.le.step .refl | exact Nat.le.refl
def back:V->Option PV
 | .non=>some .non | .bl b=>some (.bl b) | .int i=>some (.int i) | .str x=>some (.str x) | _=>none
inductive Sh (K:FG) (Z:ZG) (v:V):PV->Prop
 | at {p:PV}:back v=some p->Sh K Z v p
 | tup {a:Addr} {ps:List PV} {vs:List V}:v=.ref a->bV K Z.z a vs->aF K Z ps vs->Sh K Z v (.tup ps)
 | lst {a:Addr} {ps:List PV} {vs:List V}:v=.ref a->bI K Z.z a vs->aF K Z ps vs->Sh K Z v (.lst ps)
theorem Qy {Z:ZG} {v:V} {p:PV} (r:Rep K Z p v) (h:kn p<6):Sh K Z v p:=by
 cases p with
 | non=>exact .at (congrArg back (gA r))
 | bl b=>exact .at (congrArg back (dF r))
 | int b=>exact .at (congrArg back (bG r))
 | str b=>exact .at (congrArg back (cR r))
 | tup ps=>unfold Rep at r; obtain⟨a,vs,e,h1,h2⟩:=r; exact .tup e h1 h2
 | lst ps=>unfold Rep at r; obtain⟨a,vs,e,h1,h2⟩:=r; exact .lst e h1 h2
 | _=>exact absurd h (Z5 6)
inductive Tw (K:FG) (Z:ZG):PV->PV->Prop
 | at {v:V} {p:PV}:back v=some p->Tw K Z p p
 | tup {ps qs:List PV} {vs:List V}:aF K Z ps vs->aF K Z qs vs->Tw K Z (.tup ps) (.tup qs)
 | lst {ps qs:List PV} {vs:List V}:aF K Z ps vs->aF K Z qs vs->Tw K Z (.lst ps) (.lst qs)
theorem Qz (I:Inv X acR O H s) {a:Addr} {vs ws:List V} (h1:bV X.K H a vs) (h3:bI X.K H a ws):False:=by obtain⟨its,r1,⟨o1,n1,g1,c1,_⟩,_⟩:=I.list h3;obtain⟨its2,r2,⟨o2,g2,c2,_⟩,_⟩:=I.tuple h1;rw[g1]at g2;cases g2;rw[c1]at c2;exact absurd c2 (by decide)
theorem uq {v:V} {a:Addr} {p:PV} (e:v=.ref a) (h:back v=some p):False:=by subst e; cases h
theorem Sh.two (I:Inv X acR O H s) {p q:PV} {v:V} (h1:Sh X.K ⟨H,g⟩ v p) (h2:Sh X.K ⟨H,g⟩ v q):Tw X.K ⟨H,g⟩ p q:=by
 cases h1 with
 | «at» e=>
  cases h2 with
  | «at» e'=>exact(Zf (e.symm.trans e'))▸.at e
  | tup e'=>exact(uq e' e).elim
  | lst e'=>exact(uq e' e).elim
 | tup e k1 k2=>
  cases h2 with
  | «at» e'=>exact(uq e e').elim
  | tup e' m1 m2=>exact .tup k2 (I.tuple_inj k1 (V.ref.inj (e'.symm.trans e)▸m1)▸m2)
  | lst e' m1=>exact(Qz I k1 (V.ref.inj (e'.symm.trans e)▸m1)).elim
 | lst e k1 k2=>
  cases h2 with
  | «at» e'=>exact(uq e e').elim
  | tup e' m1=>exact(Qz I m1 (V.ref.inj (e.symm.trans e')▸k1)).elim
  | lst e' m1 m2=>exact .lst k2 (I.list_inj k1 (V.ref.inj (e'.symm.trans e)▸m1)▸m2)
theorem U9 {n:Nat} {v:V} {p:PV} {b:Bool} (e:back v=some p) (h:lQ (n+1) p p=some b):b=true:=by
 cases v with
 | non=>cases e; cases h; rfl
 | bl z=>cases e; cases h; exact abb z
 | int z=>cases e; cases h; exact abb z
 | str z=>cases e; cases h; exact abb z
 | _=>cases e
theorem vq {f:PV->PV->Option Bool} {Z:ZG} (ih:∀(p q:PV) (v:V) (b:Bool),Rep K Z p v->Rep K Z q v->f p q=some b->b=true):∀{ps qs:List PV} {vs:List V} {c:Bool},aF K Z ps vs->aF K Z qs vs->uo f ps qs=some c->c=true
 | [],qs,vs,c,a,b,h=>by cases h; rfl
 | p::ps,[],vs,c,a,b,h=>by cases h; rfl
 | p::ps,q::qs,vs,c,a,b,h=>by obtain⟨w1,r1,e1,e2,e3⟩:=a.inv;obtain⟨w2,r2,f1,f2,f3⟩:=b.inv;obtain⟨g1,g2⟩:=List.cons.inj (e1.symm.trans f1);subst g1 g2;obtain⟨c,h1,h2⟩:=abd h;obtain⟨d,h3,rfl⟩:=abe h2;rw[ih _ _ _ _ e2 f2 h1,vq ih e3 f3 h3];rfl
theorem eq_self (I:Inv X acR O H s):∀(n:Nat) {p q:PV} {v:V} {b:Bool},Rep X.K ⟨H,g⟩ p v->Rep X.K ⟨H,g⟩ q v->lQ n p q=some b->b=true
 | 0,p,q,v,b,_,_,h=>by cases h
 | n+1,p,q,v,b,rp,rq,h=>by
  cases Sh.two I (Qy rp (Iu h)) (Qy rq (Qx h)) with
  | «at» e=>exact U9 e h
  | tup h2 h4=>
   obtain⟨c,h5,rfl⟩:=abe h;rw[vq (λ_ _ _ _=>eq_self I n) h2 h4 h5,h2.length.symm.trans h4.length,abb];rfl
  | lst h2 h4=>exact vq (λ_ _ _ _=>eq_self I n) h2 h4 ((aa5 (h2.length.symm.trans h4.length)).symm.trans h)
inductive U_ (s:Shared):PV->Value->Prop
 | non:U_ s .non .none
 | bl {b:Bool}:U_ s (.bl b) (.bool b)
 | int {i:Int} {t}:U_ s (.int i) (.int i t)
 | str {x:Str} {t}:U_ s (.str x) (.str x t)
 | tup {ps:List PV} {a:Addr} {its}:s.heap.IsTuple a its->U_ s (.tup ps) (.ref a)
 | lst {ps:List PV} {a:Addr} {its}:s.heap.IsList a its->U_ s (.lst ps) (.ref a)
theorem Va (I:Inv X acR O H s) {p:PV} {v:V} {u:Value} (r:Rep X.K ⟨H,g⟩ p v) (ru:RelV v u) (h:kn p<6):U_ s p u:=by
 cases p with
 | non=>cases gA r; cases ru; exact .non
 | bl b=>cases dF r; cases ru; exact .bl
 | int b=>cases bG r; obtain⟨t,rfl⟩:=ru; exact .int
 | str b=>cases cR r; obtain⟨t,rfl⟩:=ru; exact .str
 | tup ps=>obtain⟨a,vs,its,rfl,_,_,_,x⟩:=vo I r ru; exact .tup x
 | lst ps=>obtain⟨a,vs,its,rfl,_,_,_,x⟩:=vp I r ru; exact .lst x
 | _=>exact absurd h (Z5 6)
def E3 (A:Around) (s:Shared) (x y:Value) (b:Bool):Prop:=EqAt A s x y b/\RcAt A s x y b/\RcNeAt A s x y (!b)
theorem E3.of {A:Around} {s:Shared} {x y:Value} {b c:Bool} (h:some c=some b) (e:EqAt A s x y c) (r:RcAt A s x y c) (q:RcNeAt A s x y (!c)):E3 A s x y b:=Zf h▸⟨e,r,q⟩
def two (p q:PV):Bool:=kn p==kn q&&Nat.ble 4 (kn p)
theorem RQ {A:Around} {p q:PV} {u1 u2:Value} {n:Nat} {b:Bool} (hu:A.units<cLine) (h1:U_ s p u1) (h2:U_ s q u2) (e:two p q=false) (h:lQ (n+1) p q=some b):E3 A s u1 u2 b:=by
 cases h1 with
 | non=>
  cases h2 with
  | non=>exact E3.of h (EqAt.same .none) RcAt.none_none RcNeAt.none_none
  | bl=>exact E3.of h (EqAt.none_bool _) (RcAt.none_bool _) (RcNeAt.none_bool _)
  | int=>exact E3.of h (EqAt.none_int _ _) (RcAt.none_int _ _) (RcNeAt.none_int _ _)
  | str=>exact E3.of h (EqAt.none_str _ _) (RcAt.none_str _ _) (RcNeAt.none_str _ _)
  | tup x2=>exact E3.of h (EqAt.none_tuple x2 hu) (RcAt.none_tuple x2 hu) (RcNeAt.none_tuple x2 hu)
  | lst x2=>exact E3.of h (EqAt.none_list x2 hu) (RcAt.none_list x2 hu) (RcNeAt.none_list x2 hu)
 | bl=>
  cases h2 with
  | non=>exact E3.of h (EqAt.bool_none _) (RcAt.bool_none _) (RcNeAt.bool_none _)
  | bl=>exact E3.of h (EqAt.bool_bool _ _) (RcAt.bool_bool _ _) (RcNeAt.bool_bool _ _)
  | int=>exact E3.of h (EqAt.bool_int _ _ _) (RcAt.bool_int _ _ _) (RcNeAt.bool_int _ _ _)
  | str=>exact E3.of h (EqAt.bool_str _ _ _) (RcAt.bool_str _ _ _) (RcNeAt.bool_str _ _ _)
  | tup x2=>exact E3.of h (EqAt.bool_tuple _ x2 hu) (RcAt.bool_tuple _ x2 hu) (RcNeAt.bool_tuple _ x2 hu)
  | lst x2=>exact E3.of h (EqAt.bool_list _ x2 hu) (RcAt.bool_list _ x2 hu) (RcNeAt.bool_list _ x2 hu)
 | int=>
  cases h2 with
  | non=>exact E3.of h (EqAt.int_none _ _) (RcAt.int_none _ _) (RcNeAt.int_none _ _)
  | bl=>exact E3.of h (EqAt.int_bool _ _ _) (RcAt.int_bool _ _ _) (RcNeAt.int_bool _ _ _)
  | int=>exact E3.of h (EqAt.int_int _ _ _ _) (RcAt.int_int _ _ _ _) (RcNeAt.int_int _ _ _ _)
  | str=>exact E3.of h (EqAt.int_str _ _ _ _) (RcAt.int_str _ _ _ _) (RcNeAt.int_str _ _ _ _)
  | tup x2=>exact E3.of h (EqAt.int_tuple _ _ x2 hu) (RcAt.int_tuple _ _ x2 hu) (RcNeAt.int_tuple _ _ x2 hu)
  | lst x2=>exact E3.of h (EqAt.int_list _ _ x2 hu) (RcAt.int_list _ _ x2 hu) (RcNeAt.int_list _ _ x2 hu)
 | str=>
  cases h2 with
  | non=>exact E3.of h (EqAt.str_none _ _) (RcAt.str_none _ _) (RcNeAt.str_none _ _)
  | bl=>exact E3.of h (EqAt.str_bool _ _ _) (RcAt.str_bool _ _ _) (RcNeAt.str_bool _ _ _)
  | int=>exact E3.of h (EqAt.str_int _ _ _ _) (RcAt.str_int _ _ _ _) (RcNeAt.str_int _ _ _ _)
  | str=>exact E3.of h (EqAt.str_str _ _ _ _) (RcAt.str_str _ _ _ _) (RcNeAt.str_str _ _ _ _)
  | tup x2=>exact E3.of h (EqAt.str_tuple _ _ x2 hu) (RcAt.str_tuple _ _ x2 hu) (RcNeAt.str_tuple _ _ x2 hu)
  | lst x2=>exact E3.of h (EqAt.str_list _ _ x2 hu) (RcAt.str_list _ _ x2 hu) (RcNeAt.str_list _ _ x2 hu)
 | tup x1=>
  cases h2 with
  | non=>exact E3.of h (EqAt.tuple_none x1 hu) (RcAt.tuple_none x1 hu) (RcNeAt.tuple_none x1 hu)
  | bl=>exact E3.of h (EqAt.tuple_bool _ x1 hu) (RcAt.tuple_bool _ x1 hu) (RcNeAt.tuple_bool _ x1 hu)
  | int=>exact E3.of h (EqAt.tuple_int _ _ x1 hu) (RcAt.tuple_int _ _ x1 hu) (RcNeAt.tuple_int _ _ x1 hu)
  | str=>exact E3.of h (EqAt.tuple_str _ _ x1 hu) (RcAt.tuple_str _ _ x1 hu) (RcNeAt.tuple_str _ _ x1 hu)
  | tup x2=>cases e
  | lst x2=>exact E3.of h (EqAt.tuple_list x1 x2 hu) (RcAt.tuple_list x1 x2 hu) (RcNeAt.tuple_list x1 x2 hu)
 | lst x1=>
  cases h2 with
  | non=>exact E3.of h (EqAt.list_none x1 hu) (RcAt.list_none x1 hu) (RcNeAt.list_none x1 hu)
  | bl=>exact E3.of h (EqAt.list_bool _ x1 hu) (RcAt.list_bool _ x1 hu) (RcNeAt.list_bool _ x1 hu)
  | int=>exact E3.of h (EqAt.list_int _ _ x1 hu) (RcAt.list_int _ _ x1 hu) (RcNeAt.list_int _ _ x1 hu)
  | str=>exact E3.of h (EqAt.list_str _ _ x1 hu) (RcAt.list_str _ _ x1 hu) (RcNeAt.list_str _ _ x1 hu)
  | tup x2=>exact E3.of h (EqAt.list_tuple x1 x2 hu) (RcAt.list_tuple x1 x2 hu) (RcNeAt.list_tuple x1 x2 hu)
  | lst x2=>cases e
theorem ur {v:V} {a:Addr} (r:RelV v (.ref a)):v=.ref a:=by
 cases v with
 | ref b=>cases r; rfl
 | non=>cases r
 | bl _=>cases r
 | ty _=>cases r
 | _=>obtain⟨t,e⟩:=r; cases e
theorem Ed (I:Inv X acR O H s) {n:Nat} {p q:PV} {a1 a2:Addr} {b:Bool} {A:Around} (rp:Rep X.K ⟨H,g⟩ p (.ref a1)) (rq:Rep X.K ⟨H,g⟩ q (.ref a2)) (h:lQ n p q=some b) (rc:RcAt A s (.ref a1) (.ref a2) b):EqAt A s (.ref a1) (.ref a2) b:=by
 by_cases ea:a1=a2
 . subst ea;exact eq_self I n rp rq h▸EqAt.same _
 . exact EqAt.of_refs ea rc
theorem CV (I:Inv X acR O H s):∀(n:Nat) {p q:PV} {v w:V} {u1 u2:Value} {b:Bool},Rep X.K ⟨H,g⟩ p v->Rep X.K ⟨H,g⟩ q w->RelV v u1->RelV w u2->lQ n p q=some b->∀A:Around,A.units+n<cLine->
 EqAt A s u1 u2 b/\RcAt A s u1 u2 b/\RcNeAt A s u1 u2 (!b)
 | 0,p,q,v,w,u1,u2,b,_,_,_,_,h,_,_=>by cases h
 | n+1,p,q,v,w,u1,u2,b,rp,rq,r1,r2,h,A,hA=>by
  have hu:A.units<cLine:=aaS (aaK _ _) hA;have hin:A.in1.units+n<cLine:=by show A.units+1+n<cLine; omega
  have item:∀{ps qs:List PV} {vs ws:List V} {its its2:List Value} {c:Bool},aF X.K ⟨H,g⟩ ps vs->Vals vs its->aF X.K ⟨H,g⟩ qs ws->Vals ws its2->uo (lQ n) ps qs=some c->
   ∀j (h1:j<its.toArray.size) (h2:j<its2.toArray.size),EqAt A.in1 s its.toArray[j] its2.toArray[j] ((lQ n (ps.getD j .non) (qs.getD j .non)).getD false):=λ{ps qs vs ws its its2 c} a b c' d e j h1 h2=>by
   obtain⟨p,v,e1,e2,e3⟩:=elts a b (j:=j) (by simpa using h1);obtain⟨q,w,f1,f2,f3⟩:=elts c' d (j:=j) (by simpa using h2);have:=(wj e).1 j p q e1 f1;exact(CV I n e2 f2 e3 f3 this A.in1 hin).1
  cases e:two p q with
  | false=>exact RQ hu (Va I rp r1 (Iu h)) (Va I rq r2 (Qx h)) e h
  | true=>
   have e':kn p=kn q/\4<=kn p:=by unfold two at e; simpa using e
   have hk:=Iu h;rcases (by omega:kn p=4\/kn p=5) with hp | hp
   . obtain⟨ps,rfl⟩:=Xq hp;obtain⟨qs,rfl⟩:=Xq (e'.1.symm.trans hp);clear e e' hk hp;obtain⟨a1,vs1,its1,rfl,q1,l1,rv1,x1⟩:=vo I rp r1;obtain⟨a2,vs2,its2,rfl,q2,l2,rv2,x2⟩:=vo I rq r2;have e1:=ur r1;have e2:=ur r2;subst e1 e2;obtain⟨c,h5,rfl⟩:=abe h;have it:=item l1 rv1 l2 rv2 h5;have z1:its1.toArray.size=ps.length:=by rw[Y0,<-rv1.length,l1.length]
     have z2:its2.toArray.size=qs.length:=by rw[Y0,<-rv2.length,l2.length]
     have rc:=RcAt.tuples x1 x2 hu it;have rn:=RcNeAt.tuples x1 x2 hu it;rw[z1,z2,<-(wj h5).2]at rc rn;exact⟨Ed I rp rq h rc,rc,rn⟩
   . obtain⟨ps,rfl⟩:=Xr hp;obtain⟨qs,rfl⟩:=Xr (e'.1.symm.trans hp);clear e e' hk hp;obtain⟨a1,vs1,its1,rfl,q1,l1,rv1,x1⟩:=vp I rp r1;obtain⟨a2,vs2,its2,rfl,q2,l2,rv2,x2⟩:=vp I rq r2;have e1:=ur r1;have e2:=ur r2;subst e1 e2;have z1:its1.toArray.size=ps.length:=by rw[Y0,<-rv1.length,l1.length]
     have z2:its2.toArray.size=qs.length:=by rw[Y0,<-rv2.length,l2.length]
     by_cases hl:ps.length=qs.length
     . have h':=(aa5 hl).symm.trans h;have it:=item l1 rv1 l2 rv2 h';have hz:=(z1.trans hl).trans z2.symm;have rc:=RcAt.lists x1 x2 hz hu it;have rn:=RcNeAt.lists x1 x2 hz hu it;rw[z1,<-(show min ps.length qs.length=ps.length by rw[<-hl,Nat.min_self]),<-(wj h').2]at rc rn;exact⟨Ed I rp rq h rc,rc,rn⟩
     . have h':=Zf ((aa6 hl).symm.trans h);subst h';have hz:(its1.toArray.size != its2.toArray.size)=true:=by rw[z1,z2]; exact bne_iff_ne.mpr hl
       have rc:=RcAt.lists_lengths x1 x2 hz hu;exact⟨Ed I rp rq h rc,rc,RcNeAt.lists_lengths x1 x2 hz hu⟩
end
section
open PySem.SeqAt
variable {X:Cx} {acR:List (Addr×Obj)} {O:L2.St} {H:Hp} {s:Shared} {g:List Addr}
def Oc (f:PV->PV->Option Bool) (x:PV):List PV->Option Bool
 | []=>some false
 | q::qs=>(f q x).bind λb=>(Oc f x qs).map λc=>b||c
end
section
variable {X:Cx}
theorem SR.rep2 {v w:V} {p q:PV} (h:SR K H0 Z0 O H U ((w,.sh q)::(v,.sh p)::pd)):∃Z:ZG,cY Z.z H/\Rep K Z p v/\Rep K Z q w:=by obtain⟨_,Z,_,z,r,s⟩:=h.sh;obtain⟨x,e1,e2⟩:=(s.perm bQ.symm).1 _ YK;cases e1;exact⟨Z,z.zh,e2,r⟩
theorem SR.rep2H {v w:V} {p q:PV} (h:SR K H0 Z0 O H U ((w,.sh q)::(v,.sh p)::pd)):∃g,Rep K ⟨H,g⟩ p v/\Rep K ⟨H,g⟩ q w:=by obtain⟨Z,z,a,b⟩:=h.rep2;exact⟨Z.g,a.mono (Z':=⟨H,Z.g⟩) ⟨z,Z6 _⟩,b.mono (Z':=⟨H,Z.g⟩) ⟨z,Z6 _⟩⟩
def Ef (K:FG) (neg:Bool):R2:=λx y H Q=>∃g p q b,Rep K ⟨H,g⟩ p x/\Rep K ⟨H,g⟩ q y/\lQ 150 p q=some b/\Q (.bl (if neg then !b else b)) H
theorem eN {b:Bool} {k:Nat} (hr:fC b k X.A):fZ X (compareOp .Eq) (Ef X.K false):=by
 intro acR s O H x y v u Q I rx ry h;obtain⟨g,p,q,b,rp,rq,e,k'⟩:=h;have hA:X.A.units+150<cLine:=by have:=hr.un; omega
 obtain⟨_,rc,_⟩:=CV I 150 rp rq rx ry e X.A hA;exact rc _ _ _ _ ⟨.bl b,H,I,rfl,k'⟩
theorem vy {b:Bool} {k:Nat} (hr:fC b k X.A):fZ X (compareOp .NotEq) (Ef X.K true):=by
 intro acR s O H x y v u Q I rx ry h;obtain⟨g,p,q,b,rp,rq,e,k'⟩:=h;have hA:X.A.units+150<cLine:=by have:=hr.un; omega
 obtain⟨_,_,rn⟩:=CV I 150 rp rq rx ry e X.A hA;exact rn _ _ _ _ ⟨.bl (!b),H,I,rfl,k'⟩
def eqP (p q:PV):Option Lc:=(lQ 150 p q).map λb=>.sh (.bl b)
def wZ (p q:PV):Option Lc:=(lQ 150 p q).map λb=>.sh (.bl (!b))
theorem eO:jX K (Ef K false) eqP:=by intro H0 Z0 O U pd H v w x y l Q s e k;obtain⟨b,e1,rfl⟩:=abe e;obtain⟨g,r1,r2⟩:=s.rep2H;exact⟨g,x,y,b,r1,r2,e1,k _ H (s.pop.pop.scal di)⟩
theorem vz:jX K (Ef K true) wZ:=by intro H0 Z0 O U pd H v w x y l Q s e k;obtain⟨b,e1,rfl⟩:=abe e;obtain⟨g,r1,r2⟩:=s.rep2H;exact⟨g,x,y,b,r1,r2,e1,k _ H (s.pop.pop.scal di)⟩
def isIn (x y:PV):Option Bool:=match y with
 | .lst qs=>Oc (lQ 150) x qs
 | .tup qs=>Oc (lQ 150) x qs
 | .str j=>match x with
  | .str i=>some (!(Builtin.Str.occurrences j i 0 j.length 1).isEmpty)
  | _=>none
 | _=>none
def QB:PV->Bool
 | .non=>true
 | _=>false
def Od (p q:PV):Option Lc:=match q with
 | .non=>some (.sh (.bl (QB p)))
 | _=>none
theorem RT {Z:ZG} {p:PV} {v:V} (r:Rep K Z p v):decide (v=.non)=QB p:=by
 cases p with
 | non=>have:=gA r; subst this; rfl
 | bl b=>have:=dF r; subst this; rfl
 | int b=>have:=bG r; subst this; rfl
 | str b=>have:=cR r; subst this; rfl
 | tup ps=>unfold Rep at r; obtain⟨a,vs,rfl,_⟩:=r; rfl
 | lst ps=>unfold Rep at r; obtain⟨a,vs,rfl,_⟩:=r; rfl
 | dk ks ps=>unfold Rep at r; obtain⟨a,vs,rfl,_⟩:=r; rfl
 | dt ks ps=>unfold Rep at r; obtain⟨a,vs,rfl,_⟩:=r; rfl
 | obj c ks ps=>unfold Rep at r; obtain⟨a,c,dx,fs,rfl,_⟩:=r; rfl
 | df ks ps=>unfold Rep at r; obtain⟨a,o,kvs,rfl,_⟩:=r; rfl
 | dtf ks ps=>unfold Rep at r; obtain⟨a,o,kvs,rfl,_⟩:=r; rfl
 | dx hk ks ps=>unfold Rep at r; obtain⟨a,xs,rfl,_⟩:=r; rfl
 | exc n=>unfold Rep at r; obtain⟨a,c,rfl,_⟩:=r; rfl
 | fn n=>unfold Rep at r; obtain⟨a,rfl,_⟩:=r; rfl
 | ptr n=>unfold Rep at r; obtain⟨a,rfl,_⟩:=r; rfl
theorem GP:jX K (λx y H Q=>y=.non/\Q (.bl (decide (x=.non))) H) Od:=by
 intro H0 Z0 O U pd H v w x y l Q s e k;obtain⟨g,r1,r2⟩:=s.rep2H;cases y with
 | non=>
  have e':=Zf e;subst e';refine⟨gA r2,?_⟩;rw[RT r1];exact k _ H (s.pop.pop.scal di)
 | _=>cases e
def QC:=vg (λ_ _=>true) λi j=>.bl (decide (i<j))
def GQ:=vg (λ_ _=>true) λi j=>.bl (decide (i<=j))
def KC:=vg (λ_ _=>true) λi j=>.bl (decide (j<i))
theorem Vb:jX K (sO λi j=>.bl (decide (i<j))) QC:=yG λ_ _ _=>di _
theorem Vc:jX K (sO λi j=>.bl (decide (i<=j))) GQ:=yG λ_ _ _=>di _
theorem KD:jX K (sO λi j=>.bl (decide (j<i))) KC:=yG λ_ _ _=>di _
def Eg:=vg (λ_ _=>true) λi j=>.int (i-j)
def bU:=vg (λ_ j=>decide (0<j)) λi j=>.int (i%j)
def fJ:=vg (λi j=>decide ((-(2 ^ 64)<i/\i<2 ^ 64)\/(-(2 ^ 64)<j/\j<2 ^ 64))) λi j=>.int (i*j)
def ut:=vg (λi j=>decide (0<=j/\j<=1000000/\i.natAbs<2 ^ 64)) λi j=>.int (i ^ j.toNat)
theorem zX:jX K (sO λi j=>.int (i-j)) Eg:=yG λ_ _ _=>fj _
theorem cT:jX K (rI (λ_ j=>0<j) λi j=>.int (i%j)) bU:=CQ (λ_ _ h=>of_decide_eq_true h) λ_ _ _=>fj _
theorem iy:jX K (rI HS λi j=>.int (i*j)) fJ:=CQ (λi j h=>(of_decide_eq_true h:(-(2 ^ 64)<i/\i<2 ^ 64)\/(-(2 ^ 64)<j/\j<2 ^ 64))) λ_ _ _=>fj _
theorem wk:jX K (rI T9 λi j=>.int (i ^ j.toNat)) ut:=CQ (λi j h=>(of_decide_eq_true h:0<=j/\j<=1000000/\i.natAbs<2 ^ 64)) λ_ _ _=>fj _
def M8 (K:FG):R2:=λx y H Q=>sO (λi j=>.int (i+j)) x y H Q\/(∃i j,x=.str i/\y=.str j/\i.length+j.length<=sizeLine/\Q (.str (i++j)) H)\/
 (∃a b xs ys,x=.ref a/\y=.ref b/\bI K H a xs/\bI K H b ys/\xs.length+ys.length<=sizeLine/\∀p,H p=none->Q (.ref p) (upd H p (.lst (xs++ys))))\/Ql K x y H Q
theorem cL:fZ X (binaryOp .Add) (M8 X.K):=Ua.or (HX.or (Rz.or Rq))
def bJ:PV->PV->Option Lc
 | .int i,.int j=>some (.sh (.int (i+j)))
 | .str i,.str j=>if i.length+j.length<=100000 then some (.sh (.str (i++j))) else none
 | .lst ps,.lst qs=>if ps.length+qs.length<=100000 then some (.own (.lst (ps++qs))) else none
 | .tup (p::ps),.tup qs=>if ps.length+qs.length<=10000 then some (.sh (.tup (p::ps++qs))) else none
 | _,_=>none
theorem xP {α:Type} {c:Prop} [Decidable c] {a b:α} (e:(if c then some a else none)=some b):c/\a=b:=by
 split at e
 . rename_i h;exact⟨h,Zf e⟩
 . cases e
theorem RV {x y:PV} {l:Lc} (e:bJ x y=some l):(∃i j,x=.int i/\y=.int j/\l=.sh (.int (i+j)))\/(∃i j,x=.str i/\y=.str j/\i.length+j.length<=100000/\l=.sh (.str (i++j)))
 \/ (∃ps qs,x=.lst ps/\y=.lst qs/\ps.length+qs.length<=100000/\l=.own (.lst (ps++qs)))\/∃p ps qs,x=.tup (p::ps)/\y=.tup qs/\ps.length+qs.length<=10000/\l=.sh (.tup (p::ps++qs)):=by
 unfold bJ at e;split at e
 . cases e;exact .inl ⟨_,_,rfl,rfl,rfl⟩
 . obtain⟨h,e⟩:=xP e;exact .inr (.inl ⟨_,_,rfl,rfl,h,e.symm⟩)
 . obtain⟨h,e⟩:=xP e;exact .inr (.inr (.inl ⟨_,_,rfl,rfl,h,e.symm⟩))
 . obtain⟨h,e⟩:=xP e;exact .inr (.inr (.inr ⟨_,_,_,rfl,rfl,h,e.symm⟩))
 . cases e
theorem cM:jX K (M8 K) bJ:=by
 intro H0 Z0 O U pd H v w x y l Q s e k;obtain⟨g,r1,r2⟩:=s.rep2H;rcases RV e with ⟨i,j,rfl,rfl,rfl⟩ | ⟨i,j,rfl,rfl,hl,rfl⟩ | ⟨ps,qs,rfl,rfl,hl,rfl⟩ | ⟨p,ps,qs,rfl,rfl,hl,rfl⟩
 . exact .inl ⟨i,j,bG r1,bG r2,k _ H (s.pop.pop.scal fj)⟩
 . exact .inr (.inl ⟨i,j,cR r1,cR r2,small hl,k _ H (s.pop.pop.scal sX)⟩)
 . obtain⟨el,Z,hg,z,rq,s1⟩:=s.sh;have s2:=s1.perm bQ.symm;obtain⟨_,e1,rp⟩:=s2.1 _ YK;cases e1;unfold Rep at rp rq;obtain⟨a,xs,rfl,h1,h2⟩:=rp;obtain⟨b,ys,rfl,h3,h4⟩:=rq;refine .inr (.inr (.inl ⟨a,b,xs,ys,rfl,rfl,bI.same z.zh h1,bI.same z.zh h3,by rw[h2.length,h4.length]; exact small hl,λp hp=>k _ _ ?_⟩));obtain⟨z',s'⟩:=(s2.sub (Y4 _ _)).new (o:=.lst (xs++ys)) (p:=.lst (ps++qs)) z hp ⟨xs++ys,bA,h2.append h4⟩;exact .mk el hg z' s'
 . obtain⟨el,Z,hg,z,rq,s1⟩:=s.sh;have s2:=s1.perm bQ.symm;obtain⟨_,e1,rp⟩:=s2.1 _ YK;cases e1;unfold Rep at rp rq;obtain⟨a,xs,rfl,h1,h2⟩:=rp;obtain⟨b,ys,rfl,h3,h4⟩:=rq;have hx:xs≠[]:=λh=>by have:=h2.length; rw[h]at this; simp at this
   have hz:=h2.length;have hz':=h4.length;rw[YX]at hz;refine .inr (.inr (.inr ⟨a,b,xs,ys,rfl,rfl,bV.same z.zh h1,bV.same z.zh h3,hx,small (by omega),λh=>?_,λh q hq=>?_⟩))
   . subst h;have:qs=[]:=aaO hz'.symm;subst this;rw[Zg]at k;exact k _ H s.pop
   . have s3:=s2.sub (Y4 _ _);obtain⟨z',sz,s'⟩:=s3.newF (o:=.tup (xs++ys)) z hq;refine k _ _ (.mk (Z:=Z.put q (.tup (xs++ys))) el hg z' (s'.consS ?_));unfold Rep;exact⟨q,xs++ys,rfl,bV.of bA,(h2.append h4).mono sz⟩
def Bp:PV->PV->Option Lc
 | .lst ps,.int i=>(gR ps i).map .sh
 | .tup ps,.int i=>(gR ps i).map .sh
 | .str x,.int i=>if x.length<=100000 then (gR x.cps.toList i).map λc=>.sh (.str ⟨#[c]⟩) else none
 | _,_=>none
theorem wu {α β:Type} {l:List α} {r:List β} {i:Int} {x:α} (h:gR l i=some x) (e:r.length=l.length):∃(j:Nat),l[j]?=some x/\∀y,r[j]?=some y->gR r i=some y:=by unfold gR at h;obtain⟨j,h1,h2⟩:=abd h;refine⟨j,h2,λy hy=>?_⟩;unfold gR;rw[e,h1];exact hy
theorem Vd {x y:PV} {l:Lc} (e:Bp x y=some l):∃i,y=.int i/\((∃ps,(x=.lst ps\/x=.tup ps)/\(gR ps i).map Lc.sh=some l)\/∃t c,x=.str t/\t.length<=100000/\gR t.cps.toList i=some c/\l=.sh (.str ⟨#[c]⟩)):=by
 unfold Bp at e;split at e
 . exact⟨_,rfl,.inl ⟨_,.inl rfl,e⟩⟩
 . exact⟨_,rfl,.inl ⟨_,.inr rfl,e⟩⟩
 . split at e
   . rename_i h;obtain⟨c,h1,rfl⟩:=abe e;exact⟨_,rfl,.inr ⟨_,c,rfl,h,h1,rfl⟩⟩
   . cases e
 . cases e
theorem KH:jX K (Uo K) Bp:=by
 intro H0 Z0 O U pd H v w x y l Q s e k;obtain⟨i,rfl,hx⟩:=Vd e;obtain⟨el,Z,hg,z,r2,s1⟩:=s.sh;have s2:=s1.perm bQ.symm;obtain⟨_,e1,r1⟩:=s2.1 _ YK;cases e1;have s3:=s2.sub (Y4 _ _);have ew:=bG r2;rcases hx with ⟨ps,hx,h0⟩ | ⟨x,c,rfl,hl,h1,rfl⟩
 . obtain⟨p,h1,rfl⟩:=abe h0;rcases hx with rfl | rfl
   . unfold Rep at r1;obtain⟨a,vs,rfl,h2,h3⟩:=r1;obtain⟨j,e1,e2⟩:=wu h1 h3.length;obtain⟨u,e3,e4⟩:=h3.get e1;exact .inl ⟨a,vs,i,u,rfl,ew,bI.same z.zh h2,e2 u e3,k _ H (.mk el hg z (s3.consS e4))⟩
   . unfold Rep at r1;obtain⟨a,vs,rfl,h2,h3⟩:=r1;obtain⟨j,e1,e2⟩:=wu h1 h3.length;obtain⟨u,e3,e4⟩:=h3.get e1;exact .inr (.inl ⟨a,vs,i,u,rfl,ew,bV.same z.zh h2,e2 u e3,k _ H (.mk el hg z (s3.consS e4))⟩)
 . exact .inr (.inr ⟨x,i,c,cR r1,ew,small hl,h1,k _ H (s.pop.pop.scal sX)⟩)
def lR (ps:List PV) (lo hi:Option Int):List PV:=(ps.drop (HT.sIx ps.length 0 lo)).take (HT.sIx ps.length ps.length hi-HT.sIx ps.length 0 lo)
abbrev OF:=Ev->Option (Option Int×Ev)
def GR (K:FG) (f:OF):TO:=λO H Q=>∃H0 Z0 U pd r U',SR K H0 Z0 O H U pd/\f U=some (r,U')/\∀H',SR K H0 Z0 O H' U' pd->Q r H'
theorem PO.imp {e:Option Expr} {t t':TO} (h:PO X e t) (i:∀O H Q,t' O H Q->t O H Q):PO X e t':=λacR s O H Q I q=>h acR s O H Q I (i O H Q q)
def cD:OF:=λU=>some (none,U)
def b8 (f:EF):OF:=λU=>(f U).bind λx=>match x.1.pv with
 | .int i=>some (some i,x.2)
 | _=>none
theorem iY:PO X none (GR X.K cD):=PO.imp Ro λO H Q q=>by obtain⟨H0,Z0,U,pd,r,U',s,h,k⟩:=q;cases h;exact k H s
theorem iZ {e:Expr} {f:EF} (h:PE X e (tP X.K f)):PO X (some e) (GR X.K (b8 f)):=PO.imp (Rp h) λO H Q q=>by
 obtain⟨H0,Z0,U,pd,r,U',s,h,k⟩:=q;obtain⟨x,h1,h2⟩:=abd h;refine⟨H0,Z0,U,pd,x.1,x.2,s,h1,λv H1 s1=>?_⟩;obtain⟨_,r1⟩:=s1.freeze.repH;cases e:x.1.pv with
 | int i=>
  rw[e]at h2 r1;cases h2;exact⟨i,bG r1,k H1 s1.pop⟩
 | _=>rw[e]at h2; cases h2
theorem aF.cut {Z:ZG} {ps:List PV} {vs:List V} {lo hi:Option Int} (h:aF K Z ps vs):aF K Z (lR ps lo hi) (mX vs lo hi):=by unfold lR mX;rw[h.length];exact(h.drop _).take _
def lC (K:FG) (r:List V->Hp->VK->Prop) (g:List PV->Option Lc):Prop:=∀H0 Z0 O U pd H vs ps l Q,vs.length=ps.length->SR K H0 Z0 O H U (vs.zip (ps.map Lc.sh)++pd)->g ps=some l->(∀u H',SR K H0 Z0 O H' U ((u,l)::pd)->Q u H')->r vs H Q
def eB (g:List PV->Option Lc) (a:AF):EF:=λU=>(a U).bind λy=>(g (y.1.map Lc.pv)).map λl=>(l,y.2)
theorem vA {r:List V->Hp->VK->Prop} {g:List PV->Option Lc} (hs:lC X.K r g) {a:AF}:∀O H Q,tP X.K (eB g a) O H Q->uL r (gk X.K a) O H Q:=λO H Q q=>by
 obtain⟨H0,Z0,U,pd,l,U',s,f,k⟩:=q;obtain⟨y,h1,h2⟩:=abd f;obtain⟨l',h3,h4⟩:=abe h2;cases h4;refine⟨H0,Z0,U,pd,y.1,y.2,s,h1,λvs H2 e2 s2=>?_⟩;have s3:=s2.freezeAll;have hm:(y.1.map λl=>Lc.sh l.pv)=(y.1.map Lc.pv).map Lc.sh:=by rw[ZZ]; rfl
 rw[hm]at s3;exact hs H0 Z0 O y.2 pd H2 vs (y.1.map Lc.pv) _ Q (by simpa using e2) s3 h3 k
theorem yI {x:Str} {id:String} {r:List V->Hp->VK->Prop} {g:List PV->Option Lc} {e:Expr} {es:List Expr} {a:AF} {p pos:Pos} (hc:mF X (.builtin id) r) (hs:lC X.K r g) (h:PE X (.Call (.Name x p) (e::es) [] pos) (uL r (gk X.K a))):PE X (.Call (.Name x p) (e::es) [] pos) (tP X.K (eB g a)):=PE.imp h (vA hs)
theorem lC.one {r:List V->Hp->VK->Prop} {g:PV->Option Lc} (h:∀H0 Z0 O U pd H v p l Q,SR K H0 Z0 O H U ((v,.sh p)::pd)->g p=some l->(∀u H',SR K H0 Z0 O H' U ((u,l)::pd)->Q u H')->r [v] H Q):
 lC K r (λps=>match ps with | [p]=>g p | _=>none):=by
 intro H0 Z0 O U pd H vs ps l Q e s hg k
 match ps,vs,e,s,hg with
 | [p],[v],_,s,hg=>exact h H0 Z0 O U pd H v p l Q s hg k
 | [p],[],e,_,_=>simp at e
 | [p],_::_::_,e,_,_=>simp at e
 | [],_,_,_,hg=>cases hg
 | _::_::_,_,_,_,hg=>cases hg
def Ve:PV->Option Lc
 | .str x=>if x.length<=100000 then some (.sh (.int x.length)) else none
 | .lst ps=>some (.sh (.int ps.length))
 | .tup ps=>some (.sh (.int ps.length))
 | _=>none
abbrev fK:List PV->Option Lc:=λps=>match ps with | [p]=>Ve p | _=>none
theorem KJ:lC K (λxs H Q=>∃x n,xs=[x]/\M5 K x H n/\Q (.int n) H) fK:=lC.one λH0 Z0 O U pd H v p l Q s e k=>by
 obtain⟨_,r⟩:=s.repH;cases p with
 | str x=>
  have e':(if x.length<=100000 then some (Lc.sh (.int x.length)) else none)=some l:=e;split at e'
  . rename_i hl;cases e';have:=cR r;subst this;exact⟨_,x.length,rfl,⟨small hl,rfl⟩,k _ H (s.pop.scal fj)⟩
  . cases e'
 | lst ps=>
  cases e;unfold Rep at r;obtain⟨a,vs,rfl,h1,h2⟩:=r;exact⟨_,ps.length,rfl,.inl ⟨vs,h1,h2.length.symm⟩,k _ H (s.pop.scal fj)⟩
 | tup ps=>
  cases e;unfold Rep at r;obtain⟨a,vs,rfl,h1,h2⟩:=r;exact⟨_,ps.length,rfl,.inr ⟨vs,h1,h2.length.symm⟩,k _ H (s.pop.scal fj)⟩
 | _=>cases e
def W7:PV->Option Lc
 | .lst ps=>some (.own (.lst ps))
 | .tup ps=>some (.own (.lst ps))
 | _=>none
abbrev list1:List PV->Option Lc:=λps=>match ps with | [p]=>W7 p | _=>none
theorem ww:lC K (λxs H Q=>∃p ys,xs=[.ref p]/\(bI K H p ys\/bV K H p ys)/\∀l,H l=none->Q (.ref l) (upd H l (.lst ys))) list1:=lC.one λH0 Z0 O U pd H v p l Q s e k=>by
 obtain⟨el,Z,hg,z,r,s1⟩:=s.sh;cases p with
 | lst ps=>
  cases e;unfold Rep at r;obtain⟨a,vs,rfl,h1,h2⟩:=r;refine⟨a,vs,rfl,.inl (bI.same z.zh h1),λq hq=>k _ _ ?_⟩;obtain⟨z',s'⟩:=s1.new (o:=.lst vs) (p:=.lst ps) z hq ⟨_,bA,h2⟩;exact .mk el hg z' s'
 | tup ps=>
  cases e;unfold Rep at r;obtain⟨a,vs,rfl,h1,h2⟩:=r;refine⟨a,vs,rfl,.inr (bV.same z.zh h1),λq hq=>k _ _ ?_⟩;obtain⟨z',s'⟩:=s1.new (o:=.lst vs) (p:=.lst ps) z hq ⟨_,bA,h2⟩;exact .mk el hg z' s'
 | _=>cases e
theorem Ev.set_set {i:Nat} {x y:Option Lc}:(U.set i x).set i y=U.set i y:=by show Ev.mk ((U.vs.set i x).set i y) U.mu=_;rw[aae];rfl
theorem SR.takeO {i:Nat} {ws:List PV} (s:SR K H0 Z0 O H U pd) (e:U.vs[i]?=some (some (.own (.lst ws)))):
 ∃a,O[i]?=some (some (.ref a))/\(∃us,H a=some (.lst us))/\SR K H0 Z0 O H (U.set i none) ((.ref a,.own (.lst ws))::pd):=by
 obtain⟨v,e1,s1⟩:=s.take e;obtain⟨_,Z,_,z,so⟩:=s1.top;obtain⟨a,ea,⟨us,hu,_⟩,_⟩:=so.1 _ YK;have ea':v=.ref a:=Zf ea;subst ea';exact⟨a,e1,⟨us,hu⟩,s1⟩
def lq (i:Nat) (f:EF):SF:=λU=>match U.vs[i]? with
 | some (some (.own (.lst _)))=>(f U).bind λy=>match y.2.vs[i]? with
  | some (some (.own (.lst ws)))=>if ws.length<100000 then some (.nx (y.2.set i (some (.own (.lst (ws++[y.1.pv])))))) else none
  | _=>none
 | _=>none
theorem Vf {i:Nat} {o e:Expr} {f:EF} {apos cpos pos:Pos} (h:PS X (.Expr (.Call (.Attribute o "append" apos) [e] [] cpos) pos) (tX (J2 X.K "list" zM (qd i) (gk X.K (aa f ao))))):
 PS X (.Expr (.Call (.Attribute o "append" apos) [e] [] cpos) pos) (fO X.K (lq i f)):=PS.imp h λD O H q=>by
 obtain⟨H0,Z0,U,pd,fl,s,h,k⟩:=q;unfold lq at h;split at h
 . rename_i ws0 e0;obtain⟨y,h1,h2⟩:=abd h;obtain⟨a,ea,⟨us,hu⟩,_⟩:=s.takeO e0;refine⟨.ref a,ea,.inl ⟨rfl,us,bI.of hu⟩,H0,Z0,U,pd,[y.1],y.2,s,?_,λvs H2 e2 s2=>?_⟩
   . unfold aa ao;rw[h1];rfl
   . obtain⟨v1,rfl⟩:=m8 e2;split at h2
     . rename_i ws e3;split at h2
       . rename_i hz;cases h2;obtain⟨a',ea',_,s3⟩:=SR.takeO s2 e3;rw[ea]at ea'; cases ea';have s4:SR X.K H0 Z0 O H2 (y.2.set i none) ((v1,y.1)::(.ref a,.own (.lst ws))::pd):=s3.swap;obtain⟨us2,hu2,hl,s5⟩:=s4.pushO;refine⟨a,us2,v1,rfl,rfl,hu2,by rw[hl,sizeLine_eq]; omega,k O _ ?_⟩;have s6:=s5.put ea;rw[Ev.set_set]at s6;exact s6
       . cases h2
     . cases h2
 . cases h
theorem SR.extO {v:V} {ps:List PV} {a:Addr} {ws:List PV} (s:SR K H0 Z0 O H U ((v,.sh (.lst ps))::(.ref a,.own (.lst ws))::pd)):
 ∃b us zs,v=.ref b/\bI K H b zs/\H a=some (.lst us)/\us.length=ws.length/\zs.length=ps.length/\SR K H0 Z0 O (upd H a (.lst (us++zs))) U ((.ref a,.own (.lst (ws++ps)))::pd):=by
 obtain⟨el,Z,hg,z,r,so⟩:=s.sh;unfold Rep at r;obtain⟨b,zs,rfl,h1,h2⟩:=r;have so2:=so.perm bQ.symm;obtain⟨_,eb,⟨us,hu,hr⟩,_⟩:=so2.1 _ YK;cases eb;refine⟨b,us,zs,rfl,bI.same z.zh h1,hu,hr.length,h2.length,?_⟩;obtain⟨z',s'⟩:=so2.write (o:=.lst (us++zs)) (q:=.lst (ws++ps)) z ⟨us++zs,bA,hr.append h2⟩;exact .mk el hg z' s'
def qi (i:Nat) (f:EF):SF:=λU=>match U.vs[i]? with
 | some (some (.own (.lst _)))=>(f U).bind λy=>match y.1.pv,y.2.vs[i]? with
  | .lst ps,some (some (.own (.lst ws)))=>if ws.length+ps.length<=100000 then some (.nx (y.2.set i (some (.own (.lst (ws++ps)))))) else none
  | _,_=>none
 | _=>none
theorem Vg {i:Nat} {o e:Expr} {f:EF} {apos cpos pos:Pos} (h:PS X (.Expr (.Call (.Attribute o "extend" apos) [e] [] cpos) pos) (tX (J2 X.K "list" (xJ X.K) (qd i) (gk X.K (aa f ao))))):
 PS X (.Expr (.Call (.Attribute o "extend" apos) [e] [] cpos) pos) (fO X.K (qi i f)):=PS.imp h λD O H q=>by
 obtain⟨H0,Z0,U,pd,fl,s,h,k⟩:=q;unfold qi at h;split at h
 . rename_i ws0 e0;obtain⟨y,h1,h2⟩:=abd h;obtain⟨a,ea,⟨us,hu⟩,_⟩:=s.takeO e0;refine⟨.ref a,ea,.inl ⟨rfl,us,bI.of hu⟩,H0,Z0,U,pd,[y.1],y.2,s,?_,λvs H2 e2 s2=>?_⟩
   . unfold aa ao;rw[h1];rfl
   . obtain⟨v1,rfl⟩:=m8 e2;split at h2
     . rename_i ps ws ep e3;split at h2
       . rename_i hz;cases h2;obtain⟨a',ea',_,s3⟩:=SR.takeO s2 e3;rw[ea]at ea'; cases ea';have s4:SR X.K H0 Z0 O H2 (y.2.set i none) ((v1,.sh y.1.pv)::(.ref a,.own (.lst ws))::pd):=s3.swap.freeze;rw[ep]at s4;obtain⟨b,us2,zs,rfl,hb,hu2,hl,hl2,s5⟩:=s4.extO;refine⟨a,b,us2,zs,rfl,rfl,hu2,hb,by rw[hl,hl2]; exact small hz,k O _ ?_⟩;have s6:=s5.put ea;rw[Ev.set_set]at s6;exact s6
       . cases h2
     . cases h2
 . cases h
theorem SR.setO {v:V} {p:PV} {a:Addr} {ws:List PV} {j:Nat} (s:SR K H0 Z0 O H U ((v,.sh p)::(.ref a,.own (.lst ws))::pd)):
 ∃us,H a=some (.lst us)/\us.length=ws.length/\SR K H0 Z0 O (upd H a (.lst (us.set j v))) U ((.ref a,.own (.lst (ws.set j p)))::pd):=by
 obtain⟨el,Z,hg,z,r,so⟩:=s.sh;have so2:=so.perm bQ.symm;obtain⟨_,eb,⟨us,hu,hr⟩,_⟩:=so2.1 _ YK;cases eb;refine⟨us,hu,hr.length,?_⟩;obtain⟨z',s'⟩:=so2.write (o:=.lst (us.set j v)) (q:=.lst (ws.set j p)) z ⟨us.set j v,bA,hr.set r j⟩;exact .mk el hg z' s'
def uv (i:Nat) (fi fv:EF):SF:=λU=>(fv U).bind λx=>match x.2.vs[i]? with
 | some (some (.own (.lst _)))=>(fi x.2).bind λy=>match y.1.pv,y.2.vs[i]? with
  | .int k,some (some (.own (.lst ws)))=>(qK ws.length k).map λj=>.nx (y.2.set i (some (.own (.lst (ws.set j x.1.pv)))))
  | _,_=>none
 | _=>none
theorem zY {i:Nat} {o ix e:Expr} {fi fv:EF} {tpos pos:Pos} (h:PS X (.Assign [.Subscript o ix tpos] e pos) (HN (tP X.K fv) (MJ (qd i) (tP X.K fi) Qm))):PS X (.Assign [.Subscript o ix tpos] e pos) (fO X.K (uv i fi fv)):=PS.imp h λD O H q=>by
 obtain⟨H0,Z0,U,pd,fl,s,h,k⟩:=q;obtain⟨x,h1,h2⟩:=abd h;refine⟨H0,Z0,U,pd,x.1,x.2,s,h1,λv H1 s1=>?_⟩;split at h2
 . rename_i ws0 e0;obtain⟨y,h3,h4⟩:=abd h2;obtain⟨a,ea,_,_⟩:=s1.takeO e0;refine⟨.ref a,ea,H0,Z0,x.2,_,y.1,y.2,s1.freeze,h3,λw H2 s2=>?_⟩;split at h4
   . rename_i kk ws ek e3;obtain⟨j,h5,rfl⟩:=abe h4;obtain⟨_,rw'⟩:=s2.freeze.repH;rw[ek]at rw';have ew:=bG rw';obtain⟨a',ea',_,s3⟩:=s2.pop.takeO e3;rw[ea]at ea'; cases ea';obtain⟨us,hu,hl,s4⟩:=s3.swap.setO (j:=j);refine⟨a,us,kk,j,rfl,ew,hu,by rw[hl]; exact h5,k O _ ?_⟩;have s5:=s4.put ea;rw[Ev.set_set]at s5;exact s5
   . cases h4
 . cases h2
theorem vB {g:List Addr} {mu:Mu} {n:Nat} {a:Addr} {o:Option PV} (hg:g[n]?=some a) (hm:mu[n]?=some o):∃R:Sl,List.Perm (cel g mu) ((some (.ref a),o.map Lc.own)::R)/\∀o',List.Perm (cel g (mu.set n o')) ((some (.ref a),o'.map Lc.own)::R):=by
 have h1:(g.map λa=>some (V.ref a))[n]?=some (some (.ref a)):=by rw[Zd,hg]; rfl
 have h2:(mu.map λo=>o.map Lc.own)[n]?=some (o.map Lc.own):=by rw[Zd,hm]; rfl
 obtain⟨R,p1,p2⟩:=vf (zip_get h1 h2);refine⟨R,p1,λo'=>?_⟩;have:=p2 (some (.ref a),o'.map Lc.own);rw[<-zV,abf h1]at this;unfold cel;rw[List.map_set];exact this
theorem SR.cellO {v:V} {n:Nat} {p:PV} (s:SR K H0 Z0 O H U ((v,.sh (.ptr n))::pd)) (hm:U.mu[n]?=some (some p)):
 ∃a,v=.ref a/\SR K H0 Z0 O H ⟨U.vs,U.mu.set n none⟩ ((.ref a,.own p)::(.ref a,.sh (.ptr n))::pd):=by
 obtain⟨el,Z,hg,z,r,so⟩:=s.sh;have r0:=r;unfold Rep at r;obtain⟨a,rfl,ha⟩:=r;obtain⟨R,p1,p2⟩:=vB ha hm;refine⟨a,rfl,.mk (Z:=Z) el (by simpa using hg) z ?_⟩;have so2:Slots K H0 Z H ((some (.ref a),some (.own p))::(R++(O.zip U.vs++pd.map λe=>(some e.1,some e.2)))):=so.perm (p1.append_right _).symm;have so3:Slots K H0 Z H ((some (.ref a),none)::(some (.ref a),some (.own p))::(R++(O.zip U.vs++pd.map λe=>(some e.1,some e.2)))):=by
  refine⟨λe he=>?_,?_⟩
  . rcases YM.mp he with rfl | he
    . trivial
    . exact so2.1 e he
  . rw[Zr rfl]; exact so2.2
 have so4:Slots K H0 Z H ((some (.ref a),some (.own p))::sl Z.g O ⟨U.vs,U.mu.set n none⟩ pd):=(so3.perm (List.Perm.swap _ _ _)).perm (List.Perm.cons _ ((p2 none).append_right _));exact((so4.consS r0).perm (List.Perm.swap _ _ _)).perm (List.Perm.cons _ bQ)
theorem SR.cellP {a:Addr} {n:Nat} {q:PV} (s:SR K H0 Z0 O H U ((.ref a,.own q)::(.ref a,.sh (.ptr n))::pd)) (hm:U.mu[n]?=some none):SR K H0 Z0 O H ⟨U.vs,U.mu.set n (some q)⟩ pd:=by obtain⟨el,Z,hg,z,r,so⟩:=s.swap.sh;unfold Rep at r;obtain⟨b,eb,ha⟩:=r;cases eb;obtain⟨R,p1,p2⟩:=vB ha hm;have so2:=so.perm bQ.symm;refine⟨el,Z,by simpa using hg,z,?_⟩;have p3:List.Perm (sl Z.g O U pd) ((some (.ref a),none)::(R++(O.zip U.vs++pd.map λe=>(some e.1,some e.2)))):=p1.append_right _;have so3:=so2.perm (p3.symm.cons _);have so4:=so3.sub (L':=(some (.ref a),some (.own q))::(R++(O.zip U.vs++pd.map λe=>(some e.1,some e.2)))) ((Y4 _ _).cons_cons _);exact so4.perm ((p2 (some q)).append_right _)
def YC (fo fi fv:EF):SF:=λU=>(fv U).bind λx=>(fo x.2).bind λo=>(fi o.2).bind λy=>match o.1.pv,y.1.pv with
 | .ptr n,.int k=>match y.2.mu[n]? with
  | some (some (.lst ws))=>(qK ws.length k).map λj=>.nx ⟨y.2.vs,y.2.mu.set n (some (.lst (ws.set j x.1.pv)))⟩
  | _=>none
 | _,_=>none
def bC (fa fb:EF):EF:=λU=>(fa U).bind λx=>(fb x.2).bind λy=>match x.1.pv,y.1.pv with
 | .ptr n,.int k=>match y.2.mu[n]? with
  | some (some (.lst ws))=>(gR ws k).map λp=>(.sh p,y.2)
  | _=>none
 | p,q=>(Bp p q).map λl=>(l,y.2)
theorem xQ {a b:Expr} {pos:Pos} {fa fb:EF} (ha:PE X a (tP X.K fa)) (hb:PE X b (tP X.K fb)) (hm:v7 b):PE X (.Subscript a b pos) (tP X.K (bC fa fb)):=PE.imp (Ij J0 ha hb hm) λO H Q q=>by
 obtain⟨H0,Z0,U,pd,l,U',s,f,k⟩:=q;obtain⟨x,h1,h2⟩:=abd f;obtain⟨y,h3,h4⟩:=abd h2;refine⟨H0,Z0,U,pd,x.1,x.2,s,h1,λv H1 s1=>⟨H0,Z0,x.2,_,y.1,y.2,s1,h3,λw H2 s2=>?_⟩⟩;have s3:=s2.freeze.swap.freeze.swap;split at h4
 . rename_i n kk en ek;split at h4
   . rename_i ws em;obtain⟨p,h5,h6⟩:=abe h4;cases h6;rw[en,ek]at s3;obtain⟨_,rw'⟩:=s3.repH;have ew:=bG rw';obtain⟨a,rfl,s5⟩:=s3.pop.cellO em;obtain⟨el,Z,hg,z,so⟩:=s5.top;obtain⟨_,ea,⟨us,hu,hr⟩,_⟩:=so.1 _ YK;cases ea;obtain⟨j,e1,e2⟩:=wu h5 hr.length;obtain⟨u,e3,e4⟩:=hr.get e1;refine .inl ⟨a,us,kk,u,rfl,ew,bI.of hu,e2 u e3,k u H2 ?_⟩;have s6:SR X.K H0 Z0 O H2 ⟨y.2.vs,y.2.mu.set n none⟩ ((u,.sh p)::(.ref a,.own (.lst ws))::(.ref a,.sh (.ptr n))::pd):=.mk (Z:=Z) el hg z ((so.perm bQ).consS e4);have hn:n<y.2.mu.length:=(YS.mp em).1;have s7:SR X.K H0 Z0 O H2 ⟨y.2.vs,y.2.mu.set n none⟩ ((.ref a,.own (.lst ws))::(.ref a,.sh (.ptr n))::(u,.sh p)::pd):=s6.perm (((List.Perm.swap _ _ _).cons _).trans (List.Perm.swap _ _ _));have s8:=s7.cellP (by show (y.2.mu.set n none)[n]?=_; rw[Y8 hn]);have e8:(y.2.mu.set n none).set n (some (.lst ws))=y.2.mu:=by rw[aae]; exact abf em
     have s9:SR X.K H0 Z0 O H2 ⟨y.2.vs,(y.2.mu.set n none).set n (some (.lst ws))⟩ ((u,.sh p)::pd):=s8;rw[e8]at s9;exact s9
   . cases h4
 . obtain⟨l',h5,h6⟩:=abe h4;cases h6;exact KH H0 Z0 O y.2 pd H2 v w x.1.pv y.1.pv _ Q s3 h5 k
mutual
def lD:PV->Bool
 | .non=>true
 | .bl _=>true
 | .int _=>true
 | .str _=>true
 | .tup ps=>vC ps
 | _=>false
def vC:List PV->Bool
 | []=>true
 | p::ps=>lD p&&vC ps
end
def rK:Lc->Bool
 | .sh p=>lD p
 | .own (.lst ps)=>vC ps
 | _=>false
def QD:Option Lc->Option Lc
 | some l=>some (.sh l.pv)
 | none=>none
def Ev.peek (U:Ev):Ev:=⟨U.vs.map QD,U.mu.map λ_=>none⟩
def pM (f:EF):EF:=λU=>(f U.peek).bind λx=>if rK x.1=true then some (x.1,U) else none
def zb:Option HO->Option HO->Option HO->Option HO
 | some (.tup vs),_,_=>some (.tup vs)
 | some (.frz o u),_,_=>some (.frz o u)
 | some _,z,_=>z
 | none,_,z=>z
def qC (H:Hp) (Z Z':ZG):ZG:=⟨λb=>zb (H b) (Z.z b) (Z'.z b),Z.g⟩
theorem KN {H H':Hp} {Z Z':ZG} (hh:cY H H') (zh:cY Z'.z H') {a:Addr} {vs:List V} (h:bV K Z'.z a vs):bV K (qC H Z Z').z a vs:=by
 rcases h with (h | ⟨o,h⟩) | h
 . refine .inl (.inl ?_);show zb (H a) (Z.z a) (Z'.z a)=_;cases q:H a with
   | none=>exact h
   | some o=>
    have e1:=hh a o q;rw[zh a _ h]at e1;cases e1;rfl
 . refine .inl (.inr ⟨o,?_⟩);show zb (H a) (Z.z a) (Z'.z a)=_;cases q:H a with
   | none=>exact h
   | some o'=>
    have e1:=hh a o' q;rw[zh a _ h]at e1;cases e1;rfl
 . exact .inr h
mutual
theorem Eh {H H':Hp} {Z Z':ZG} (hh:cY H H') (zh:cY Z'.z H'):∀{p:PV} {v:V},lD p=true->Rep K Z' p v->Rep K (qC H Z Z') p v
 | .non,v,_,h=>by unfold Rep at h ⊢; exact h
 | .bl _,v,_,h=>by unfold Rep at h ⊢; exact h
 | .int _,v,_,h=>by unfold Rep at h ⊢; exact h
 | .str _,v,_,h=>by unfold Rep at h ⊢; exact h
 | .tup ps,v,f,h=>by unfold Rep at h ⊢;obtain⟨a,vs,e,h1,h2⟩:=h;unfold lD at f;exact⟨a,vs,e,KN hh zh h1,vD hh zh f h2⟩
 | .lst _,v,f,_=>by unfold lD at f; cases f
 | .dk _ _,v,f,_=>by unfold lD at f; cases f
 | .dt _ _,v,f,_=>by unfold lD at f; cases f
 | .obj _ _ _,v,f,_=>by unfold lD at f; cases f
 | .df _ _,v,f,_=>by unfold lD at f; cases f
 | .dtf _ _,v,f,_=>by unfold lD at f; cases f
 | .dx _ _ _,v,f,_=>by unfold lD at f; cases f
 | .exc _,v,f,_=>by unfold lD at f; cases f
 | .fn _,v,f,_=>by unfold lD at f; cases f
 | .ptr _,v,f,_=>by unfold lD at f; cases f
theorem vD {H H':Hp} {Z Z':ZG} (hh:cY H H') (zh:cY Z'.z H'):∀{ps:List PV} {vs:List V},vC ps=true->aF K Z' ps vs->aF K (qC H Z Z') ps vs
 | [],vs,_,h=>by unfold aF at h ⊢; exact h
 | p::ps,vs,f,h=>by obtain⟨v,r,rfl,h1,h2⟩:=h.inv;unfold vC at f;rw[aac]at f;exact aF.cons (Eh hh zh f.1 h1) (vD hh zh f.2 h2)
end
theorem SR.lookB (s:SR K H0 Z0 O H U pd):
 ∃Z,(O.length=U.vs.length/\U.mu.length=Z.g.length/\iM Z ⟨H,Z.g⟩/\Slots K H0 Z H (sl Z.g O U pd))/\(∀H' v r U1,SR K H ⟨H,Z.g⟩ O H' U1 [(v,r)]->rK r=true->SR K H0 Z0 O H' U ((v,r)::pd))/\∀H' U1,SR K H ⟨H,Z.g⟩ O H' U1 []->SR K H0 Z0 O H' U pd:=by
 obtain⟨el,Z,hg,z,so⟩:=s;have lz:iM Z ⟨H,Z.g⟩:=⟨z.zh,Z6 _⟩;have back:∀{H':Hp} {Z':ZG},jW H ⟨H,Z.g⟩ Z' H'->jW H0 Z0 (qC H Z Z') H'/\Slots K H0 (qC H Z Z') H' (sl Z.g O U pd):=λ{H' Z'} z'=>by
  have zz:iM Z (qC H Z Z'):=⟨λb o e=>by show zb (H b) (Z.z b) (Z'.z b)=_;have hb:=z.zh b o e;rw[hb];cases o<;>first | rfl | exact e,Z6 _⟩
  have cas:∀b o,(qC H Z Z').z b=some o->(∃u,H b=some u/\((CP u/\o=u)\/Z.z b=some o))\/(H b=none/\Z'.z b=some o):=λb o e=>by
   have e:zb (H b) (Z.z b) (Z'.z b)=some o:=e;cases q:H b with
   | none=>rw[q]at e; exact .inr ⟨rfl,e⟩
   | some u=>
    rw[q]at e;refine .inl ⟨u,rfl,?_⟩;cases u with
    | tup vs=>cases e; exact .inl ⟨trivial,rfl⟩
    | frz o' u=>cases e; exact .inl ⟨trivial,rfl⟩
    | _=>exact .inr e
  refine⟨⟨λb o e=>?_,z.h0.trans z'.h0,z.z0.trans zz,λb o e=>?_⟩,?_⟩
  . rcases cas b o e with ⟨u,hu,⟨_,rfl⟩ | hz⟩ | ⟨_,hz⟩
    . exact z'.h0 b _ hu
    . exact z'.h0 b o (z.zh b o hz)
    . exact z'.zh b o hz
  . rcases cas b o e with ⟨u,hu,⟨hi,rfl⟩ | hz⟩ | ⟨hn,hz⟩
    . exact .inr (.inr hi)
    . exact z.new b o hz
    . exact .inr (.inl (z.h0.free hn))
  . refine so.step zz λe he a ha=>?_;obtain⟨h1,h2,o,h3,h4⟩:=jh so he ha;refine⟨by rw[h3]; exact z'.h0 a o h3,?_⟩;show zb (H a) (Z.z a) (Z'.z a)=_;rw[h3];cases o with
    | tup vs=>exact(h4 trivial).elim
    | frz o u=>exact(h4 trivial).elim
    | _=>exact h1
 refine⟨Z,⟨el,hg,lz,so⟩,λH' v r U1 s1 hf=>?_,λH' U1 s1=>?_⟩
 . obtain⟨_,Z',hg',z',s2⟩:=s1.top;obtain⟨zo,ss⟩:=back z';have q:=s2.1 _ YK;refine .mk (Z:=qC H Z Z') el hg zo ?_;cases r with
   | sh p=>
    obtain⟨x,e1,e2⟩:=q;cases e1;exact ss.consS (Eh z'.h0 z'.zh hf e2)
   | own p=>
    obtain⟨a,e1,e2,e3,e4⟩:=q;have e1':v=.ref a:=Zf e1;subst e1';cases p with
    | lst ps=>
     obtain⟨vs,g1,g2⟩:=e2;refine⟨λe he=>?_,?_⟩
     . rcases YM.mp he with rfl | he
       . refine⟨a,rfl,⟨vs,g1,vD z'.h0 z'.zh hf g2⟩,?_,z.h0.free e4⟩;show zb (H a) (Z.z a) (Z'.z a)=_;rw[e4];exact e3
       . exact ss.1 e he
     . show (a::(sl Z.g O U pd).filterMap lN).Nodup;refine ZP.mpr ⟨λhm=>?_,ss.2⟩;obtain⟨e,he,hb⟩:=Zv.mp hm;obtain⟨_,_,o,h3,_⟩:=jh so he hb;rw[h3]at e4; cases e4
    | _=>cases hf
 . obtain⟨_,Z',hg',z',s2⟩:=s1;obtain⟨zo,ss⟩:=back z';exact⟨el,qC H Z Z',hg,zo,ss⟩
theorem SR.peeked {H:Hp} {Z:ZG} {pk:Option Lc->Option Lc} (el:O.length=U.vs.length) (hg:U.mu.length=Z.g.length)
 (hs:∀v o,(v,o)∈O.zip U.vs->pk o=none\/∃x p,pk o=some (.sh p)/\v=some x/\Rep K ⟨H,Z.g⟩ p x):SR K H ⟨H,Z.g⟩ O H ⟨U.vs.map pk,U.mu.map λ_=>none⟩ []:=by
 have key:∀v l,(v,l)∈sl Z.g O ⟨U.vs.map pk,U.mu.map λ_=>none⟩ []->l=none\/∃x p,l=some (.sh p)/\v=some x/\Rep K ⟨H,Z.g⟩ p x:=λv l he=>by
  rcases ZF.mp he with he | he
  . obtain⟨_,h2⟩:=Z4 he;obtain⟨o,ho,e2⟩:=Zk.mp h2;obtain⟨o',_,e3⟩:=Zk.mp ho;subst e3;exact .inl e2.symm
  . rw[aaC,Zg]at he;have he:(v,l)∈O.zip (U.vs.map pk):=he;rw[List.zip_map_right]at he;obtain⟨e,he2,e1⟩:=Zk.mp he;cases e1;exact hs _ _ he2
 refine⟨by simp[el],⟨H,Z.g⟩,by simp[hg],⟨cY.refl _,cY.refl _,iM.refl _,λb o e=>.inl e⟩,λe he=>?_,?_⟩
 . obtain⟨v,l⟩:=e;rcases key v l he with rfl | ⟨x,p,rfl,rfl,r⟩
   . trivial
   . exact⟨x,rfl,r⟩
 . have:(sl Z.g O ⟨U.vs.map pk,U.mu.map λ_=>none⟩ []).filterMap lN=[]:=by
    rw[List.filterMap_eq_nil_iff];intro e he;obtain⟨v,l⟩:=e;rcases key v l he with rfl | ⟨x,p,rfl,rfl,_⟩
    . cases v with
      | none=>rfl
      | some x=>cases x<;>rfl
    . cases x<;>rfl
   show ((sl Z.g O ⟨U.vs.map pk,U.mu.map λ_=>none⟩ []).filterMap lN).Nodup;rw[this];exact aaD
theorem SR.look (s:SR K H0 Z0 O H U pd):
 ∃Zt,SR K H Zt O H U.peek []/\(∀H' v r U1,SR K H Zt O H' U1 [(v,r)]->rK r=true->SR K H0 Z0 O H' U ((v,r)::pd))/\∀H' U1,SR K H Zt O H' U1 []->SR K H0 Z0 O H' U pd:=by
 obtain⟨Z,⟨el,hg,lz,so⟩,b1,b2⟩:=s.lookB;refine⟨_,SR.peeked (pk:=QD) el hg λv o he=>?_,b1,b2⟩;have q:=so.1 _ (Zn _ (ZV _ he))
 match o,q with
 | none,_=>exact .inl rfl
 | some (.sh p),⟨x,e1,e2⟩=>exact .inr ⟨x,p,rfl,e1,e2.mono lz⟩
 | some (.own p),⟨a,e1,e2,_,_⟩=>exact .inr ⟨.ref a,p,rfl,e1,e2.rep lz rfl⟩
def Yk (mu:Mu):PV->PV
 | .ptr n=>match mu[n]? with
  | some (some p)=>p
  | _=>.ptr n
 | p=>p
def peekC (mu:Mu):Option Lc->Option Lc
 | some l=>some (.sh (Yk mu l.pv))
 | none=>none
def Ev.peekC (U:Ev):Ev:=⟨U.vs.map (PL.peekC U.mu),U.mu.map λ_=>none⟩
theorem Oe {f:EF}:∀O H Q,tP K (pM f) O H Q->tP K f O H Q:=λO H Q q=>by
 obtain⟨H0,Z0,U,pd,r,U',s,h,k⟩:=q;obtain⟨x,h1,h2⟩:=abd h;obtain⟨Zt,s1,b1,_⟩:=s.look;split at h2
 . rename_i hf;cases h2;exact⟨H,Zt,U.peek,[],x.1,x.2,s1,h1,λv H' s2=>k v H' (b1 H' v x.1 x.2 s2 hf)⟩
 . cases h2
theorem CZ {e:Expr} {f:EF} (h:PE X e (tP X.K f)):PE X e (tP X.K (pM f)):=PE.imp h Oe
end
def uw (x:Str):It:=⟨λi _=>i<x.cps.size,λi H v H'=>H'=H/\∃c,x.cps[i]?=some c/\v=.str ⟨#[c]⟩,λi _=>i=x.cps.size⟩
theorem Ei {P:Program} {w:World} {tg:Expr} (it:Addr) (x:Str) {St:Nat->Heap->Prop} (W:∀A':Around,A'.handled=none->Walks P w A' it [it] [it] x.cps.size (SignAt x) St)
 (hob:∀i h,St i h->∃o,h.get? it=some o/\∀v,o.data≠.cell v) (slf:∀(A:Around) (i:Nat) (s:Shared) (Q:Value->Shared->Prop) (E:Value->Shared->Prop),St i s.heap->Q (.ref it) s->wpAny (model P w) A (pyIter (.ref it)) Q E s):Turn P w K tg (uw x) [it] it St where
 mem:=by simp
 obj:=λi h st b hb=>by
  have e:b=it:=by simpa using hb
  subst e;exact hob i h st
 keep:=λi h h' st k=>(W {} rfl).frame i h h' st k
 item:=by intro X hP hw hK hc i acR s O H E I hf st hg;subst hP hw hK;obtain⟨f0,f1,f2,f3,f4,f5⟩:=hf it (by simp);refine(W X.A (I.ok.hd hc)).item i s _ E hg st λv h' tk hv st' hk=>?_;obtain⟨c,u,e1,rfl⟩:=hv;have I1:Inv X acR O H { s with heap:=h',toks:=tk }:=I.turned (λb o hb e=>hk b o (by simpa using hb) e) f0 f1 f3 f4 f5;refine⟨_,rfl,?_⟩;have fin:∃x_1 H',Inv X acR O H' { s with heap:=h',toks:=tk }/\RelV x_1 (.str ⟨#[c]⟩ u)/\(uw x).yld i H x_1 H'/\St (i+1) h'/\∀b∈[it],H' b=none:=⟨.str ⟨#[c]⟩,H,I1,⟨u,rfl⟩,⟨rfl,c,e1,rfl⟩,st',λb hb=>(hf b hb).1⟩;unfold letOwnedTupleGo;cases tg<;>exact aa7 fin
 done:=by intro X hP hw hK hc i acR s O H E I hf st hg;subst hP hw hK;obtain⟨f0,f1,f2,f3,f4,f5⟩:=hf it (by simp);have hg:i=x.cps.size:=hg;subst hg;exact(W X.A (I.ok.hd hc)).done s _ E st λh' tk hk=>⟨rfl,I.turned (λb o hb e=>hk b o (by simpa using hb) e) f0 f1 f3 f4 f5⟩
 self:=λA i s Q E st h=>slf A i s Q E st h
section
variable {X:Cx}
def signs (x:Str):List PV:=x.cps.toList.map λc=>.str ⟨#[c]⟩
def YF:PV->Option (List PV)
 | .str x=>some (signs x)
 | _=>none
theorem Og {H0:Hp} {x:Str}:nT K H0 Z0 pd (uw x) (signs x):=by
 intro O H U i s;refine⟨λp hp=>?_,λhl=>?_⟩
 . unfold signs at hp;rw[Zd]at hp;obtain⟨c,hc,rfl⟩:=abe hp;have hi:=(YS.mp hc).1;refine⟨(show i<x.cps.size by simpa using hi),λv H' y=>?_⟩;obtain⟨rfl,c',hc',rfl⟩:=y;have:c'=c:=by rw[Array.getElem?_toList]at hc;rw[hc]at hc';exact(Zf hc').symm
   subst this;exact s.scal sX
 . show i=x.cps.size;simpa [signs] using hl
theorem Gh {P:Program} {w:World} {A:Around} {ys:List V} {its:List Value} {bs:List Bool} (rv:Vals ys its) (e:ys=bs.map V.bl):TruthOf P w A (λi v=>its.toArray[i]?=some v) (λi=>bs.getD i false):=by
 intro i v s Q E hv q;have hv':its[i]?=some v:=by simpa using hv
 have hi:=(YS.mp hv').1;have hl:=rv.length;have hb:i<bs.length:=by rw[e,YQ]at hl; omega
 obtain⟨u,h1,h2⟩:=rv.get (i:=i) (x:=.bl bs[i]) (by rw[e,Zd,YT hb]; rfl);rw[hv']at h1; cases h1;cases h2;have:bs.getD i false=bs[i]:=by simp[hb]
 have q':Q (bs.getD i false) s:=q;rw[this]at q';exact wpAny_truthy_bool q'
theorem range_all {bs:List Bool}:((List.range bs.length).all λi=>bs.getD i false)=bs.all id:=by
 induction bs with
 | nil=>rfl
 | cons b r ih=>
  rw[YX,List.range_succ_eq_map,List.all_cons,List.all_map,List.all_cons];have:((List.range r.length).all ((λi=>(b::r).getD i false) ∘ Nat.succ))=(List.range r.length).all λi=>r.getD i false:=rfl;rw[this,ih];rfl
theorem ux (hc:X.calm=true):mF X (.builtin "all") (λxs H Q=>∃(p:Addr) (bs:List Bool),xs=[.ref p]/\bI X.K H p (bs.map V.bl)/\Q (.bl (bs.all id)) H):=by
 intro acR s O H xs us Q I r h;obtain⟨p,bs,rfl,hq,q⟩:=h;obtain⟨u,rfl,ru⟩:=vals1 r;cases ru;obtain⟨its,rv,pl,_⟩:=I.list hq;have hlt:p<s.heap.objs.size:=by obtain⟨o,n,g1,_⟩:=pl; exact YZ g1
 refine call_all_walk (wpAny_pyIter_list pl.isList ?_);have old:∀b o,s.heap.get? b=some o->(s.heap.push { cls:=.type "list_iterator",data:=.fields #[.ref p,.int 0 0] }).get? b=some o:=λb o e=>YL _ e;have hl:its.toArray.size=bs.length:=by rw[Y0,<-rv.length,YQ]
 refine⟨s.heap.objs.size,_,_,_,_,_,λi=>bs.getD i false,rfl,Walks.list (A:=X.A.in1) (show X.A.in1.handled=none from I.ok.hd hc) _ p (Zi hlt) its.toArray,⟨⟨_,Y9 _ rfl,rfl,rfl⟩,?_⟩,Gh rv rfl,λh' tk hk=>?_⟩
 . obtain⟨o,g1,g2⟩:=pl.isList;exact⟨o,old _ _ g1,g2⟩
 . rw[hl,range_all];refine⟨.bl _,H,I.kept (t':=tk) λb o e=>hk b o ?_ (old b o e),rfl,q⟩;have:=YZ e;simp;exact Zi this
def boolsOf:List PV->Option (List Bool)
 | []=>some []
 | .bl b::r=>(boolsOf r).map (b::·)
 | _=>none
theorem Bq {Z:ZG}:∀{ps:List PV} {bs:List Bool} {vs:List V},boolsOf ps=some bs->aF K Z ps vs->vs=bs.map V.bl
 | [],bs,vs,h,r=>by cases h; exact r.inv0
 | p::ps,bs,vs,h,r=>by
  cases p with
  | bl b=>
   obtain⟨cs,h1,rfl⟩:=abe h;obtain⟨v,w,rfl,r1,r2⟩:=r.inv;rw[dF r1,Bq h1 r2];rfl
  | _=>cases h
def Yl:PV->Option Lc
 | .lst ps=>(boolsOf ps).map λbs=>.sh (.bl (bs.all id))
 | _=>none
abbrev all1:List PV->Option Lc:=λps=>match ps with | [p]=>Yl p | _=>none
theorem KQ:lC K (λxs H Q=>∃(p:Addr) (bs:List Bool),xs=[.ref p]/\bI K H p (bs.map V.bl)/\Q (.bl (bs.all id)) H) all1:=lC.one λH0 Z0 O U pd H v p l Q s e k=>by
 obtain⟨_,r⟩:=s.repH;cases p with
 | lst ps=>
  obtain⟨bs,h1,rfl⟩:=abe (show (boolsOf ps).map (λbs=>Lc.sh (.bl (bs.all id)))=some l from e);unfold Rep at r;obtain⟨a,vs,rfl,h2,h3⟩:=r;have:=Bq h1 h3;subst this;exact⟨a,bs,rfl,h2,k _ H (s.pop.scal di)⟩
 | _=>cases e
def QF:PV->Option String
 | .non=>some "NoneType"
 | .bl _=>some "bool"
 | .int _=>some "int"
 | .str _=>some "str"
 | .tup _=>some "tuple"
 | .lst _=>some "list"
 | _=>none
def pq (p:PV) (C:String):Option Bool:=(QF p).bind λT=>if (Value.type T==Value.type C)=true then some true else if W.kitMeta C=true then (fastBuiltinMro T).map λx=>x.contains (.type C) else none
theorem nU {p:PV} {T C:String} {b:Bool} (h1:QF p=some T) (h:pq p C=some b):W.kitOne K (.type T) (.type C)=some b:=by unfold pq at h;rw[h1,YJ]at h;exact h
theorem cH:mF X (.builtin "isinstance") (λxs H Q=>∃x C g p b,xs=[x,.ty C]/\Rep X.K ⟨H,g⟩ p x/\pq p C=some b/\Q (.bl b) H):=by
 intro acR s O H xs us Q I r h;obtain⟨x,C,g,p,b,rfl,rp,e,q⟩:=h;obtain⟨u,w',rfl,ru,rw'⟩:=vals2 r;cases rw';have fin:∀tk,EP X acR O Q (.bool b) { s with toks:=tk }:=λtk=>⟨.bl b,H,I.tok tk,rfl,q⟩;cases p with
 | non=>have:=gA rp; subst this; cases ru; exact aaL W.kitx_none I.kIn trivial (nU rfl e) (by intro z; cases z) fin
 | bl c=>have:=dF rp; subst this; cases ru; exact aaL W.kitx_bool I.kIn trivial (nU rfl e) (by intro z; cases z) fin
 | int i=>have:=bG rp; subst this; obtain⟨t,rfl⟩:=ru; exact aaL W.kitx_int I.kIn trivial (nU rfl e) (by intro z; cases z) fin
 | str i=>have:=cR rp; subst this; obtain⟨t,rfl⟩:=ru; exact aaL W.kitx_str I.kIn trivial (nU rfl e) (by intro z; cases z) fin
 | tup ps=>
  obtain⟨a,vs,its,rfl,_,_,_,o,t1,t2,_⟩:=vo I rp ru;exact aaL (t:=.type "tuple") W.kitx_tuple I.kIn ⟨o,t1,t2⟩ (nU rfl e) (by intro z; cases z) fin
 | lst ps=>
  obtain⟨a,vs,its,rfl,_,_,_,o,t1,t2,_⟩:=vp I rp ru;exact aaL (t:=.type "list") W.kitx_list I.kIn ⟨o,t1,t2⟩ (nU rfl e) (by intro z; cases z) fin
 | _=>cases e
def fu (C:String) (f:EF):EF:=λU=>(f U).bind λx=>(pq x.1.pv C).map λb=>(.sh (.bl b),x.2)
theorem ql {C:String} {f:EF} {e c:Expr} {pp pos:Pos} (h:PE X (.Call (.Name "isinstance" pp) [e,c] [] pos) (uL (λxs H Q=>∃x C g p b,xs=[x,.ty C]/\Rep X.K ⟨H,g⟩ p x/\pq p C=some b/\Q (.bl b) H) (mG (tP X.K f) (mG (tC (.ty C)) rZ)))):
 PE X (.Call (.Name "isinstance" pp) [e,c] [] pos) (tP X.K (fu C f)):=PE.imp h λO H Q q=>by
 obtain⟨H0,Z0,U,pd,r,U',s,h,k⟩:=q;obtain⟨x,h1,h2⟩:=abd h;obtain⟨b,h3,h4⟩:=abe h2;cases h4;refine⟨H0,Z0,U,pd,x.1,x.2,s,h1,λv H1 s1=>?_⟩;obtain⟨g,r1⟩:=s1.freeze.repH;exact⟨v,C,g,_,b,rfl,r1,h3,k _ H1 (s1.pop.scal di)⟩
def strsOf:List PV->Option (List Str)
 | []=>some []
 | .str x::r=>(strsOf r).map (x::·)
 | _=>none
theorem xR {Z:ZG}:∀{ps:List PV} {xs:List Str} {vs:List V},strsOf ps=some xs->aF K Z ps vs->vs=xs.map V.str
 | [],xs,vs,h,r=>by cases h; exact r.inv0
 | p::ps,xs,vs,h,r=>by
  cases p with
  | str b=>
   obtain⟨cs,h1,rfl⟩:=abe h;obtain⟨v,w,rfl,r1,r2⟩:=r.inv;rw[cR r1,xR h1 r2];rfl
  | _=>cases h
end
section
variable {prog:Program} {w:World} {A:Around} {E:Value->Shared->Prop} {s:Shared}
theorem Br {it t:Addr} {items:Array Value} (hne:t≠it):∀(n i:Nat) (s:Shared) (Q:List Value->Shared->Prop),s.heap.IsListIter it t i->s.heap.IsList t items->i+n<=items.size->
 (∀h',h'.IsListIter it t (i+n)->Heap.SameBut it s.heap h'->Q ((items.toList.drop i).take n) { s with heap:=h' })->wpAny (model prog w) A (draw (.ref it) n) Q E s
 | 0,i,s,Q,hit,_,_,hQ=>by show wpAny _ _ (pure []) Q E s;exact aa7 (by simpa using hQ s.heap hit (Heap.SameBut.refl ..))
 | n+1,i,s,Q,hit,ht,hle,hQ=>by
  have hlt:i<items.size:=by omega
  show wpAny _ _ (pyNext (.ref it) >>= _) Q E s;refine aa4 (wpAny_pyNext_list_item hit ht (x:=items[i]) (by simp[hlt]) λh₁ hit₁ hs₁=>?_);refine aa4 (wpAny_holding (Br hne n (i+1) _ _ hit₁ (ht.extBut hs₁.extBut hne) (by omega) λh₂ hit₂ hs₂=>aa7 ?_));have hd:items.toList.drop i=items[i]::items.toList.drop (i+1):=by simp[aap,hlt]
  have:=hQ h₂ (by rw[show i+(n+1)=i+1+n by omega]; exact hit₂) (hs₁.trans hs₂);rw[hd,List.take_succ_cons]at this;exact this
theorem xT {t:Addr} {items:Array Value} {Q:List Value->Shared->Prop} (hh:A.handled=none) (ht:s.heap.IsList t items)
 (hQ:∀h',Heap.ExtBut s.heap.objs.size s.heap h'->Q items.toList { s with heap:=h' }):wpAny (model prog w) A (unpackItems (.ref t) items.size none) Q E s:=by
 have hlt:t≠s.heap.objs.size:=by obtain⟨o,ho,_⟩:=ht; exact Zi (YZ ho)
 unfold unpackItems;refine aa4 ?_
 . unfold notIterableAtAll;refine aa4 (wpAny_specialOf ht.typeIs slot_list_iter.lookup ?_);refine aa7 ?_;simp only[aaU,if_false];refine aa4 (wpAny_holding (wpAny_pyIter_list ht ?_));refine aa4 (wpAny_holding (Br hlt items.size 0 _ _ ⟨_,Y9 _ rfl,rfl,rfl⟩ (by obtain⟨o,g1,g2⟩:=ht; exact⟨o,YL _ g1,g2⟩) (by omega) λh₁ hit₁ hs₁=>?_));have hall:List.take items.size (List.drop 0 items.toList)=items.toList:=by rw[List.drop_zero]; exact aaG (by simp)
   rw[hall];rw[aa6 (by simp)];have ht₁:h₁.IsList t items:=Heap.IsList.extBut (by obtain⟨o,g1,g2⟩:=ht; exact⟨o,YL _ g1,g2⟩) hs₁.extBut hlt;refine aa4 (wpAny_holding (wpAny_pyNext_list_end hh hit₁ ht₁ (by simp) λh₂ he₂=>?_));simp only[Option.isSome_none,aaU,if_false];refine aa7 (hQ h₂ λb o hb e=>he₂ b o hb (hs₁.extBut b o hb (YL _ e)))
end
section
variable {X:Cx} {pos:Pos}
def Vh (K:FG) (n:Nat) (t:uK):TG:=λv O H Q=>∃a xs,v=.ref a/\(bV K H a xs\/bI K H a xs)/\xs.length=n/\t xs O H Q
theorem lU {es:List Expr} {k:Nat} {t:uK} {n:Nat} (hc:X.calm=true) (h:JH X es t)
 (hn:(assignEach es X.env).length=n:=by rfl) (hst:(assignEach es X.env).findIdx? (·.1)=none:=by rfl):PG X (.Tuple es k pos) (Vh X.K n t):=by
 intro acR s O H v u Q I r hw;obtain⟨a,xs,e1,hq,hl,hw⟩:=hw;rcases hq with hq | hq
 . exact T5 hc h hn hst acR s O H v u Q I r ⟨a,xs,e1,hq,hl,hw⟩
 . subst e1;cases r;obtain⟨its,rv,ht,hz⟩:=I.list hq;rw[assign_Tuple];refine aa4 (wpAny_standAt ?_);unfold unpack;have hsz:(assignEach es X.env).length=its.toArray.size:=by simp[hn,<-hl,rv.length]
   rw[hsz,hst];refine aa4 (wpAny_holding (xT (I.ok.hd hc) ht.isList λh' hx=>?_));have I1:Inv X acR O H { s with heap:=h' }:=I.kept (t':=s.toks) λb o e=>hx b o (Zi (YZ e)) e;exact h acR _ O H xs _ Q I1 (by simpa using rv) hw
def ig (n:Nat) (bs:Ea):BF:=λp U=>match p with
 | .tup ps=>if ps.length=n then bs ps U else none
 | .lst ps=>if ps.length=n then bs ps U else none
 | _=>none
theorem lV {n:Nat} {t:uK} {bs:Ea} (h1:Qw K t bs):GS K (Vh K n t) (ig n bs):=by
 intro H0 Z0 O H U pd v p U' Q s h k;cases p with
 | tup ps=>
  have h':(if ps.length=n then bs ps U else none)=some U':=h;split at h'
  . rename_i hn;obtain⟨e,Z,hg,z,r,sl'⟩:=s.sh;unfold Rep at r;obtain⟨a,vs,rfl,h2,h3⟩:=r;exact⟨a,vs,rfl,.inl (bV.same z.zh h2),by rw[h3.length]; exact hn,h1 H0 Z0 O H U pd vs ps U' Q h3.length (SR.items e hg z h3 sl') h' k⟩
  . cases h'
 | lst ps=>
  have h':(if ps.length=n then bs ps U else none)=some U':=h;split at h'
  . rename_i hn;obtain⟨e,Z,hg,z,r,sl'⟩:=s.sh;unfold Rep at r;obtain⟨a,vs,rfl,h2,h3⟩:=r;exact⟨a,vs,rfl,.inr (bI.same z.zh h2),by rw[h3.length]; exact hn,h1 H0 Z0 O H U pd vs ps U' Q h3.length (SR.items e hg z h3 sl') h' k⟩
  . cases h'
 | _=>cases h
def Ym (K:FG) (tl:TE):TI:=λO H R=>tl O H λx H1=>(∃a,x=.ref a/\(∃xs,bI K H1 a xs)/\R (Qc K a) H1)\/(∃a,x=.ref a/\(∃xs,bV K H1 a xs)/\R (Qd K a) H1)\/∃z,x=.str z/\R (uw z) H1
theorem Vi {tg l:Expr} {tl:TE} (hl:PE X l tl):PI X tg l (Ym X.K tl):=by
 intro acR s O H R I h;have at':∀(v:Value) (s1:Shared) (x:V) (H1:Hp),Inv X acR O H1 s1->RelV x v->((∃a,x=.ref a/\(∃xs,bI X.K H1 a xs)/\R (Qc X.K a) H1)\/(∃a,x=.ref a/\(∃xs,bV X.K H1 a xs)/\R (Qd X.K a) H1)\/∃z,x=.str z/\R (uw z) H1)->
  wpAny (model X.prog X.w) X.A (pyIter v) (PIE X acR O tg R) X.xe s1:=λv s1 x H1 I1 r1 q=>by
  have fp:∀b,b∈[s1.heap.objs.size]->nP X acR H1 b:=λb hb=>by
   have e:b=s1.heap.objs.size:=by simpa using hb
   subst e;exact I1.fpOk (YW _) (I1.hok.fresh (YW _))
  rcases q with ⟨a,rfl,⟨xs,hq⟩,q⟩ | ⟨a,rfl,⟨xs,hq⟩,q⟩ | ⟨z,rfl,q⟩
  . cases r1;obtain⟨its,rv,p,hz⟩:=I1.list hq;exact wpAny_pyIter_list p.isList ⟨s1.heap.objs.size,[s1.heap.objs.size],_,_,H1,rfl,I1.kept (t':=s1.toks) λb o e=>YL _ e,JL a _,⟨_,Y9 _ rfl,rfl,rfl⟩,fp,q⟩
  . cases r1;obtain⟨its,rv,p,hz⟩:=I1.tuple hq;exact wpAny_pyIter_tuple p ⟨s1.heap.objs.size,[s1.heap.objs.size],_,_,H1,rfl,I1.kept (t':=s1.toks) λb o e=>YL _ e,HQ a _,⟨_,Y9 _ rfl,rfl,rfl⟩,fp,q⟩
  . obtain⟨t,rfl⟩:=r1;have kp:∀(o:Obj),Inv X acR O H1 { s1 with heap:=s1.heap.push o }:=λo=>I1.kept (t':=s1.toks) λb u e=>YL _ e;have ob:∀{n:String} (i:Nat) (h:Heap),h.IsStrIter s1.heap.objs.size n z t i->∃o,h.get? s1.heap.objs.size=some o/\∀v,o.data≠.cell v:=λi h st=>by obtain⟨o,ho,_,hd⟩:=st;exact⟨o,ho,λv e=>by rw[hd]at e; cases e⟩
    cases ha:z.cps.all (·<128)
    . exact wpAny_pyIter_wide ha ⟨s1.heap.objs.size,[s1.heap.objs.size],_,uw z,H1,rfl,kp _,Ei _ z (λA' hA=>Walks.strWide hA _ z t) ob (λA i s Q E st h=>wpAny_pyIter_striter_wide st h),⟨_,Y9 _ rfl,rfl,rfl⟩,fp,q⟩
    . exact wpAny_pyIter_ascii ha ⟨s1.heap.objs.size,[s1.heap.objs.size],_,uw z,H1,rfl,kp _,Ei _ z (λA' hA=>Walks.strAscii hA _ z t) ob (λA i s Q E st h=>wpAny_pyIter_striter_ascii st h),⟨_,Y9 _ rfl,rfl,rfl⟩,fp,q⟩
 exact bT (hl acR s O H _ I h) λv s1 ⟨x,H1,I1,r1,q⟩=>at' v s1 x H1 I1 r1 q
def fP:PV->Option (List PV)
 | .lst ps=>some ps
 | .tup ps=>some ps
 | .str x=>some (signs x)
 | _=>none
theorem ni {tg l:Expr} {f:EF} (hl:PE X l (tP X.K f)):PI X tg l (yH X.K (jL f fP)):=PI.imp (Vi hl) λO H R q=>by
 obtain⟨H0,Z0,U,pd,xs,U',s,h,k⟩:=q;obtain⟨x,h1,h2⟩:=abd h;obtain⟨ys,h3,h4⟩:=abe h2;cases h4;refine⟨H0,Z0,U,pd,x.1,x.2,s,h1,λv H1 s1=>?_⟩;have s2:=s1.freeze;cases e:x.1.pv with
 | lst ps=>
  rw[e]at h3 s2;cases h3;obtain⟨Z,z,r⟩:=s2.rep;unfold Rep at r;obtain⟨b,vs,rfl,h1',h2'⟩:=r;exact .inl ⟨b,rfl,⟨vs,bI.same z h1'⟩,k _ _ _ s2 Kw (Y4 _ _)⟩
 | tup ps=>
  rw[e]at h3 s2;cases h3;obtain⟨Z,z,r⟩:=s2.rep;unfold Rep at r;obtain⟨b,vs,rfl,h1',h2'⟩:=r;exact .inr (.inl ⟨b,rfl,⟨vs,bV.same z h1'⟩,k _ _ _ s2 N6 (Y4 _ _)⟩)
 | str z=>
  rw[e]at h3 s2;cases h3;obtain⟨_,r⟩:=s2.repH;exact .inr (.inr ⟨z,cR r,k _ _ _ s2.pop Og (aan _)⟩)
 | _=>rw[e]at h3; cases h3
def qQ (g g':PV->PV->Option Lc) (fa fb fc:EF):EF:=λU=>(fa U).bind λx=>(fb x.2).bind λy=>(g x.1.pv y.1.pv).bind λz=>match z.pv with
 | .bl true=>(fc y.2).bind λw=>(g' y.1.pv w.1.pv).map λl=>(l,w.2)
 | .bl false=>some (.sh (.bl false),y.2)
 | _=>none
theorem KR {r r':R2} {g g':PV->PV->Option Lc} (hs:jX X.K r g) (hs':jX X.K r' g') {fa fb fc:EF}:∀O H Q,tP X.K (qQ g g' fa fb fc) O H Q->JS r r' (tP X.K fa) (tP X.K fb) (tP X.K fc) O H Q:=λO H Q q=>by
 obtain⟨H0,Z0,U,pd,l,U',s,f,k⟩:=q;obtain⟨x,h1,h2⟩:=abd f;obtain⟨y,h3,h4⟩:=abd h2;obtain⟨z,h5,h6⟩:=abd h4;refine⟨H0,Z0,U,pd,x.1,x.2,s,h1,λv H1 s1=>⟨H0,Z0,x.2,_,y.1,y.2,s1,h3,λw H2 s2=>?_⟩⟩;have s3:=s2.freeze.swap.freeze.swap;have s4:SR X.K H0 Z0 O H2 y.2 ((w,.sh y.1.pv)::(v,.sh x.1.pv)::(w,.sh y.1.pv)::pd):=s3.dup.perm ((List.Perm.swap _ _ _).cons _);refine hs H0 Z0 O y.2 _ H2 v w x.1.pv y.1.pv z _ s4 h5 λu H3 s5=>?_;obtain⟨_,ru⟩:=s5.freeze.repH;split at h6
 . rename_i e;rw[e]at ru;refine⟨true,dF ru,?_⟩;rw[aa5 rfl];obtain⟨t,h7,h8⟩:=abd h6;obtain⟨l',h9,h10⟩:=abe h8;cases h10;refine⟨H0,Z0,y.2,_,t.1,t.2,s5.pop,h7,λb H4 s6=>?_⟩;exact hs' H0 Z0 O t.2 pd H4 w b y.1.pv t.1.pv _ Q s6.freeze h9 k
 . rename_i e;rw[e]at ru;refine⟨false,dF ru,?_⟩;rw[aa6 Zm];cases h6;exact k _ H3 (s5.pop.pop.scal di)
 . cases h6
theorem Vj {op op':CmpOp} {a b c:Expr} {r r':R2} {g g':PV->PV->Option Lc} {fa fb fc:EF} (ho:fZ X (compareOp op) r) (ho':fZ X (compareOp op') r') (hs:jX X.K r g) (hs':jX X.K r' g') (ha:PE X a (tP X.K fa)) (hb:PE X b (tP X.K fb)) (hc:PE X c (tP X.K fc))
 (hm:lastMarks [op,op'] [b,c]=false:=by with_unfolding_all rfl):PE X (.Compare a [op,op'] [b,c] pos) (tP X.K (qQ g g' fa fb fc)):=PE.imp (M3 ho ho' ha hb hc hm) (KR hs hs')
end
section
variable {P:Program} {w:World} {K:FG} {mg:Str->Option Value} {base:Heap}
def Vk (mg:Str->Option Value) (L:List Str):Prop:=∀x∈L,mg x=none
theorem wy {x:Str} {st:Stmt} {ps:List Str} {k:Nat} (F:aV K mg x st ps):aZ P w K mg base x k ps (bj K ps.length λ_ _=>none):=by
 obtain⟨f,fd,F,hm,hb⟩:=F;have no:∀vs H Q E,¬ bj K ps.length (λ_ _=>none) vs H Q E:=λvs H Q E h=>by obtain⟨_,_,_,_,_,_,_,_,_,_,h,_⟩:=h;cases h
 exact⟨f,fd,⟨λvs H Q E h=>absurd h (no vs H Q E),λA outer s H args us vs Q E _ _ _ _ h=>absurd h (no vs H Q E)⟩,hm,F.kp,hb⟩
def Dc (K:FG):Sp:=λvs H Q _=>∃(a:Addr) (ns:List Int),vs=[.ref a]/\bI K H a (ns.map V.int)/\ns.length<=63/\∀H',Q (.bl true) H'
theorem Vl {f:Addr} {fd:FuncData} {k:Nat} {g:GF} (F:kW P w K mg base o7 k f fd ["_law_script"] (bj K 1 g)) (h:∀ns:List Int,ns.length<=63->∃mu',g [.lst (ns.map PV.int)] []=some (.sh (.bl true),mu')):kW P w K mg base o7 k f fd ["_law_script"] (Dc K):=
 F.imp λvs H Q E q=>by
  obtain⟨a,ns,rfl,hs,hl,k⟩:=q;obtain⟨mu',e⟩:=h ns hl;refine⟨⟨H,[]⟩,[.lst (ns.map PV.int)],[],_,mu',rfl,rfl,cY.refl _,aF.cons ?_ .nil,⟨λe he=>(by cases he),aaD⟩,e,λv H' r=>?_⟩
  . unfold Rep;refine⟨a,ns.map V.int,rfl,hs,?_⟩;clear hs e hl;induction ns with
    | nil=>exact .nil
    | cons n r ih=>exact aF.cons (fj _) ih
  . obtain⟨Z',_,_,s⟩:=r;obtain⟨x,e1,e2⟩:=s.1 _ YK;cases e1;rw[dF e2];exact k H'
end
theorem aN:∀U ls U1,ao U=some (ls,U1)->ls.length=0:=λU ls U1 h=>by cases h; rfl
theorem az {f:EF} {g:AF} {n:Nat} (h:∀U ls U1,g U=some (ls,U1)->ls.length=n):∀U ls U1,aa f g U=some (ls,U1)->ls.length=n+1:=λU ls U1 e=>by obtain⟨x,h1,h2⟩:=abd e;obtain⟨y,h3,h4⟩:=abe h2;cases h4;rw[YX,h _ _ _ h3]
theorem W8 {X:Cx} {M F:List Str} {ixs:List Nat} {sc:Scope} (S:Scope) (hS:X.env.scope=S) (kind:sc.kind=.function) (locs:∀y∈sc.names,y.2=.local->sc.names.lookup y.1=some .local) (cel:∀y∈sc.names,y.2=.cell->sc.names.lookup y.1=some .cell)
 (own:∀p∈sc.names,p.2=.free->S.names.lookup p.1=some .cell\/S.names.lookup p.1=some .free) (frs:∀x∈F,sc.names.lookup x=some .free) (ix:ixs.map (λi=>X.N[i]?)=F.map some):jV X M F ixs sc:=by
 refine⟨kind,locs,cel,λp hp e=>by rw[hS]; exact own p hp e,frs,?_,λj i h=>?_⟩
 . have:=congrArg List.length ix;simpa using this
 . have h2:(ixs.map (λi=>X.N[i]?))[j]?=some X.N[i]?:=by rw[Zd,h]; rfl
   rw[ix,Zd]at h2;cases q:F[j]? with
   | none=>rw[q]at h2; cases h2
   | some x=>rw[q]at h2; exact(Zf h2).symm
section
variable {P:Program} {w:World} {K:FG} {mg:Str->Option Value} {base:Heap}
theorem pU.okP {x:Str} {st:Stmt} {N ps:List Str} {k:Nat} {g:GF} {f:Addr} {fd:FuncData} (F:pU K x x st f fd) (S:aQ N ps (au st))
 (h:∀(cdv:Value) (A:Around) (outer:List PySem.Env) (s:Shared) (H:Hp) (E:XK),fH k (A.deeper (envOfC x (au st) s.heap.objs.size f cdv))->
   ∃g':SF,(∀a mu,g a mu=cJ N.length g' a mu)/\eF (oF o7 P w K mg base N x (au st) f cdv A outer s H E).nox (aR st) (fO K g')):kW P w K mg base o7 (k+1) f fd ps (bj K ps.length g):=by
 refine F.ok S (λvs H Q E q=>?_) (λcdv A outer s H vs Q E hr q=>?_)
 . obtain⟨Z,qs,mu,r,mu',e,_⟩:=q; exact e
 . obtain⟨g',eg,b⟩:=h cdv A outer s H E hr;obtain⟨Z,qs,mu,r,mu',e,hg,z,rl,c,hr',kk⟩:=q;rw[eg]at hr';obtain⟨fl,h1,h2⟩:=abd hr';refine⟨_,b,jA H (m7 Z.g mu),Z,_,[],fl,ul hg z rl c,h1,?_⟩;cases fl with
   | rt r' U'=>
    cases h2;intro v O' H' s';obtain⟨el,Z',hg',z',s''⟩:=s'.top;refine kk v H' ⟨Z',hg',z',s''.sub ?_⟩;exact(Zu _ _).cons_cons _
   | nx U'=>
    cases h2;intro O' H' s';obtain⟨el,Z',hg',z',s''⟩:=s';exact kk .non H' ⟨Z',hg',z',(s''.sub (Zu _ _)).consS (sY _)⟩
   | bk U'=>cases h2
   | ct U'=>cases h2
end
section
variable {X:Cx}
def Yn:PV->Option PV
 | .int i=>some (.int (-i))
 | _=>none
def sG (f:EF):EF:=λU=>(f U).bind λx=>(Yn x.1.pv).map λp=>(.sh p,x.2)
theorem Iv {a:Expr} {f:EF} {pos:Pos} (ha:PE X a (tP X.K f)):PE X (.UnaryOp .USub a pos) (tP X.K (sG f)):=PE.imp (WN Ub ha) λO H Q q=>by
 obtain⟨H0,Z0,U,pd,r,U',s,h,k⟩:=q;obtain⟨x,h1,h2⟩:=abd h;obtain⟨p,h3,h4⟩:=abe h2;cases h4;refine⟨H0,Z0,U,pd,x.1,x.2,s,h1,λv H1 s1=>?_⟩;obtain⟨_,r1⟩:=s1.freeze.repH;cases e:x.1.pv with
 | int i=>
  rw[e]at h3 r1;cases h3;exact⟨i,bG r1,k _ H1 (s1.pop.scal fj)⟩
 | _=>rw[e]at h3; cases h3
end
theorem xU {b:BF} {tc:TF} {te:EF} {mu:Mu} (J:Ev->Prop) (hJ:∀U,J U->U.mu=mu) (c:PV->Bool) (f:PV->PV):∀{xs:List PV} {U:Ev} {acc:List PV},J U->acc.length+xs.length<=100000->
 (∀x∈xs,∀U,J U->∃U1,b x U=some U1/\∃U2,tc U1=some (c x,U2)/\J U2/\(c x=true->∃l U3,te U2=some (l,U3)/\l.pv=f x/\J U3))->rJ b tc te xs U acc=some (acc++(xs.filter c).map f,mu)
 | [],U,acc,h,_,_=>by show some (acc,U.mu)=_;rw[hJ U h];simp
 | x::xs,U,acc,h,hl,hs=>by
  obtain⟨U1,e1,U2,e2,h2,h3⟩:=hs x YK U h;have hs':∀y∈xs,∀U,J U->∃U1,b y U=some U1/\∃U2,tc U1=some (c y,U2)/\J U2/\(c y=true->∃l U3,te U2=some (l,U3)/\l.pv=f y/\J U3):=λy hy=>hs y (Y6 _ hy);rw[YX]at hl;show (b x U).bind _=_;rw[e1,YJ,e2,YJ];cases hc:c x with
  | false=>
   simp only[aaU,if_false];rw[xU J hJ c f h2 (by omega) hs',List.filter_cons_of_neg (by simp[hc])]
  | true=>
   obtain⟨l,U3,e3,ef,h4⟩:=h3 hc;simp only[if_true];rw[e3,YJ,aa5 (by omega),xU J hJ c f h4 (by rw[Y5,List.length_singleton]; omega) hs',List.filter_cons_of_pos (by simp[hc]),ef];simp
theorem lW {b:BF} {te:EF} {mu:Mu} (J:Ev->Prop) (hJ:∀U,J U->U.mu=mu) (f:PV->PV) {xs:List PV} (h:J U) (hl:xs.length<=100000)
 (hs:∀x∈xs,∀U,J U->∃U1,b x U=some U1/\∃l U3,te U1=some (l,U3)/\l.pv=f x/\J U3) (hb:∀x∈xs,∀U U1,J U->b x U=some U1->J U1):rJ b dR te xs U []=some (xs.map f,mu):=by
 rw[xU J hJ (λ_=>true) f h (by simpa using hl) λx hx U hU=>?_]
 . rw[List.nil_append,List.filter_eq_self.mpr (λ_ _=>rfl)]
 . obtain⟨U1,e1,l,U3,e3⟩:=hs x hx U hU;exact⟨U1,e1,U1,rfl,hb x hx U U1 hU e1,λ_=>⟨l,U3,e3⟩⟩
theorem gP (a b:Int):bJ (.int a) (.int b)=some (.sh (.int (a+b))):=rfl
theorem cz {a b:Int} (h:0<b):bU (.int a) (.int b)=some (.sh (.int (a%b))):=by show (if decide (0<b)=true then _ else _)=_;rw[aa5 (aa9 h)]
theorem tu {a b:Int} (h:-18446744073709551616<a) (h2:a<18446744073709551616):fJ (.int a) (.int b)=some (.sh (.int (a*b))):=by show (if decide ((-(2 ^ 64)<a/\a<2 ^ 64)\/(-(2 ^ 64)<b/\b<2 ^ 64))=true then _ else _)=_;rw[aa5 (aa9 (.inl ⟨by omega,by omega⟩))]
theorem vG {a b:Int} (h:-18446744073709551616<b) (h2:b<18446744073709551616):fJ (.int a) (.int b)=some (.sh (.int (a*b))):=by show (if decide ((-(2 ^ 64)<a/\a<2 ^ 64)\/(-(2 ^ 64)<b/\b<2 ^ 64))=true then _ else _)=_;rw[aa5 (aa9 (.inr ⟨by omega,by omega⟩))]
theorem aM {g:PV->PV->Option Lc} {fa fb:EF} {U U1 U2:Ev} {x y l:Lc} (h1:fa U=some (x,U1)) (h2:fb U1=some (y,U2)) (h3:g x.pv y.pv=some l):aB g fa fb U=some (l,U2):=by unfold aB;rw[h1,YJ,h2,YJ,h3];rfl
theorem Oh {α:Type} {l:List α} {i:Int} (h0:0<=i) (h1:i<l.length):∃x,gR l i=some x/\l[i.toNat]?=some x:=by
 have hi:i.toNat<l.length:=by omega
 refine⟨l[i.toNat],?_,YT hi⟩;unfold gR qK;rw[aa5 h0,aa5 h1,YJ,YT hi]
theorem GZ {f g:SF} {U U':Ev} (h:f U=some (.nx U')):aK f g U=g U':=by unfold aK; rw[h,YJ]
theorem iz {f g:SF} {U U':Ev} {r:Lc} (h:f U=some (.rt r U')):aK f g U=some (.rt r U'):=by unfold aK; rw[h,YJ]
theorem RW {i:Nat} {f:EF} {U U1:Ev} {l:Lc} (h:f U=some (l,U1)) (hi:i<U1.vs.length):aP i f U=some (.nx (U1.set i (some l))):=by unfold aP; rw[h,YJ,aa5 hi]
theorem gh {c:TF} {f g:SF} {U U1:Ev} (h:c U=some (true,U1)):dw c f g U=f U1:=by unfold dw; rw[h,YJ,aa5 rfl]
theorem dZ {c:TF} {f g:SF} {U U1:Ev} (h:c U=some (false,U1)):dw c f g U=g U1:=by unfold dw; rw[h,YJ,aa6 Zm]
theorem RX {f:EF} {U U1:Ev} {l:Lc} (h:f U=some (l,U1)):cu f U=some (.rt l U1):=by unfold cu; rw[h]; rfl
theorem RZ {f:IF} {b:BF} {body:SF} {U U1:Ev} {xs:List PV} (h:f U=some (xs,U1)):jP f b body U=jO b body xs U1:=by unfold jP; rw[h,YJ]
theorem aW {n:Nat} {g:SF} {ps:List PV} {mu:Mu} {r:Lc} (h:g (env0 n ps mu)=some (.rt r U)):cJ n g ps mu=some (r,U.mu):=by unfold cJ; rw[h,YJ]
theorem jB {n:Nat} {g:SF} {ps:List PV} {mu:Mu} (h:g (env0 n ps mu)=some (.nx U)):cJ n g ps mu=some (.sh .non,U.mu):=by unfold cJ; rw[h,YJ]
theorem Oi {g:GF} {a:AF} {U U1:Ev} {ls:List Lc} {r:Lc} {mu:Mu} (h:a U=some (ls,U1)) (h2:g (ls.map Lc.pv) U1.mu=some (r,mu)):aG g a U=some (r,⟨U1.vs,mu⟩):=by unfold aG; rw[h,YJ,h2]; rfl
theorem Oj {f:EF} {a:AF} {U U1 U2:Ev} {l:Lc} {ls:List Lc} (h:f U=some (l,U1)) (h2:a U1=some (ls,U2)):aa f a U=some (l::ls,U2):=by unfold aa; rw[h,YJ,h2]; rfl
theorem W9 {g:List PV->Option Lc} {a:AF} {U U1:Ev} {ls:List Lc} {r:Lc} (h:a U=some (ls,U1)) (h2:g (ls.map Lc.pv)=some r):eB g a U=some (r,U1):=by unfold eB; rw[h,YJ,h2]; rfl
theorem nW {f:IF} {m:Nat} {ixs:List Nat} {b:BF} {tc:TF} {te:EF} {U U1:Ev} {xs ys:List PV} {mu:Mu} (h:f U=some (xs,U1)) (h2:rJ b tc te xs (qP m ixs (jq ixs U1)) []=some (ys,mu)):dG f m ixs b tc te U=some (.own (.lst ys),⟨(jq ixs U1).vs,mu⟩):=by unfold dG; rw[h,YJ,h2]; rfl
theorem yJ {f:EF} {g:PV->Option (List PV)} {U U1:Ev} {l:Lc} {xs:List PV} (h:f U=some (l,U1)) (h2:g l.pv=some xs):jL f g U=some (xs,U1):=by unfold jL; rw[h,YJ,h2]; rfl
theorem QG {f:EF} {tr:PV->Option Bool} {U U1:Ev} {l:Lc} {b:Bool} (h:f U=some (l,U1)) (h2:tr l.pv=some b):tT f tr U=some (b,U1):=by unfold tT; rw[h,YJ,h2]; rfl
section
variable {f g:SF} {U U1 U2 U':Ev} {R:Option Fl} {l m r:Lc} {fa fb fc:EF} {c d:TF} {a:AF} {b:Bool}
theorem aD (h:f U=some (.nx U')) (h2:g U'=R):aK f g U=R:=(GZ h).trans h2
theorem cP {i:Nat} (h:fa U=some (l,U1)) (hi:Nat.blt i U1.vs.length=true) (e:U1.set i (some l)=U'):aP i fa U=some (.nx U'):=by rw[RW h (by simpa using hi),e]
theorem cA (h:fa U=some (l,U1)):cu fa U=some (.rt l U1):=RX h
theorem mH (h:fa U=some (l,U1)):lB fa U=some (.nx U1):=by unfold lB; rw[h]; rfl
theorem oO {o:PV->PV->Option Lc} {p q:PV} (h1:fa U=some (l,U1)) (hx:l.pv=p) (h2:fb U1=some (m,U2)) (hy:m.pv=q) (h3:o p q=some r):aB o fa fb U=some (r,U2):=aM h1 h2 (by rw[hx,hy]; exact h3)
theorem bB {G:GF} {ls:List Lc} {ps:List PV} {mu:Mu} {v:List (Option Lc)} {mu1:Mu} (h:a U=some (ls,U1)) (hp:ls.map Lc.pv=ps) (hv:U1.vs=v) (hm:U1.mu=mu1) (h2:G ps mu1=some (r,mu)):aG G a U=some (r,⟨v,mu⟩):=by subst hp hv hm;exact Oi h h2
theorem pA {G:List PV->Option Lc} {ls:List Lc} {ps:List PV} (h:a U=some (ls,U1)) (hp:ls.map Lc.pv=ps) (h2:G ps=some r):eB G a U=some (r,U1):=by subst hp;exact W9 h h2
theorem aH {ls:List Lc} (h:fa U=some (l,U1)) (h2:a U1=some (ls,U2)):aa fa a U=some (l::ls,U2):=Oj h h2
theorem d7 {tr:PV->Option Bool} {p:PV} (h:fa U=some (l,U1)) (hp:l.pv=p) (h2:tr p=some b):tT fa tr U=some (b,U1):=by subst hp;exact QG h h2
theorem pW (h:c U=some (b,U1)):gf c U=some (!b,U1):=by unfold gf; rw[h]; rfl
theorem yK {b2:Bool} (h:c U=some (b,U1)) (h2:d U1=some (b2,U1)):oM c d U=some (b||b2,U1):=by
 unfold oM;rw[h,YJ];cases b with
 | true=>rfl
 | false=>rw[aa6 Zm,h2]; rfl
theorem yL {ls:List Lc} {ps:List PV} (h:a U=some (ls,U1)) (hl:Nat.ble ls.length 1000=true) (hp:ls.map Lc.pv=ps):aL a U=some (.own (.lst ps),U1):=by subst hp;unfold aL;rw[h,YJ,aa5 (by simpa using hl)]
theorem pX {ls:List Lc} {ps:List PV} (h:a U=some (ls,U1)) (hl:Nat.ble ls.length 1000=true) (hp:ls.map Lc.pv=ps):cN a U=some (.sh (.tup ps),U1):=by subst hp;unfold cN;rw[h,YJ,aa5 (by simpa using hl)]
theorem rM {p q:PV} (h1:fa U=some (l,U1)) (hx:l.pv=p) (h2:fb U1=some (m,U2)) (hy:m.pv=q) (hn:∀n,p≠.ptr n) (h3:Bp p q=some r):bC fa fb U=some (r,U2):=by
 subst hx hy;unfold bC;rw[h1,YJ,h2,YJ];split
 . rename_i n k e1 e2;exact(hn n e1).elim
 . rw[h3]; rfl
theorem Vm {n:Nat} {k:Int} {ws:List PV} {p:PV} (h1:fa U=some (l,U1)) (hx:l.pv=.ptr n) (h2:fb U1=some (m,U2)) (hy:m.pv=.int k) (hm:U2.mu[n]?=some (some (.lst ws))) (h3:gR ws k=some p):bC fa fb U=some (.sh p,U2):=by unfold bC;rw[h1,YJ,h2,YJ,hx,hy];show (match U2.mu[n]? with | some (some (.lst ws))=>_ | _=>_)=_;rw[hm];show (gR ws k).map _=_;rw[h3];rfl
theorem tB {i:Nat} {ws0 ws:List PV} {p:PV} (h0:U.vs[i]?=some (some (.own (.lst ws0)))) (h:fa U=some (l,U1)) (hp:l.pv=p) (h1:U1.vs[i]?=some (some (.own (.lst ws)))) (hz:ws.length<100000) (e:U1.set i (some (.own (.lst (ws++[p]))))=U'):lq i fa U=some (.nx U'):=by subst hp;unfold lq;rw[h0];show (fa U).bind _=_;rw[h,YJ];show (match U1.vs[i]? with | some (some (.own (.lst ws)))=>_ | _=>_)=_;rw[h1];show (if ws.length<100000 then _ else _)=_;rw[aa5 hz,e]
theorem KY {i:Nat} {ws0 ws ps:List PV} (h0:U.vs[i]?=some (some (.own (.lst ws0)))) (h:fa U=some (l,U1)) (hp:l.pv=.lst ps) (h1:U1.vs[i]?=some (some (.own (.lst ws)))) (hz:ws.length+ps.length<=100000) (e:U1.set i (some (.own (.lst (ws++ps))))=U'):qi i fa U=some (.nx U'):=by unfold qi;rw[h0];show (fa U).bind _=_;rw[h,YJ,hp];show (match PV.lst ps,U1.vs[i]? with | .lst ps,some (some (.own (.lst ws)))=>_ | _,_=>_)=_;rw[h1];show (if ws.length+ps.length<=100000 then _ else _)=_;rw[aa5 hz,e]
theorem R5 {i:Nat} {fi fv:EF} {ws0 ws:List PV} {k:Int} {j:Nat} {x y:Lc} {p:PV} (h:fv U=some (x,U1)) (hxp:x.pv=p) (h0:U1.vs[i]?=some (some (.own (.lst ws0)))) (h2:fi U1=some (y,U2)) (hy:y.pv=.int k) (h1:U2.vs[i]?=some (some (.own (.lst ws)))) (hj:qK ws.length k=some j) (e:U2.set i (some (.own (.lst (ws.set j p))))=U'):uv i fi fv U=some (.nx U'):=by subst hxp;unfold uv;rw[h,YJ];show (match U1.vs[i]? with | some (some (.own (.lst _)))=>_ | _=>_)=_;rw[h0];show (fi U1).bind _=_;rw[h2,YJ,hy];show (match PV.int k,U2.vs[i]? with | .int k,some (some (.own (.lst ws)))=>_ | _,_=>_)=_;rw[h1];show (qK ws.length k).map _=_;rw[hj,aag,e]
theorem ik {C:String} {p:PV} (h:fa U=some (l,U1)) (hp:l.pv=p) (h2:pq p C=some b):fu C fa U=some (.sh (.bl b),U1):=by subst hp;unfold fu;rw[h,YJ,h2];rfl
theorem jC {F:IF} {B:BF} {body:SF} {xs:List PV} (h:F U=some (xs,U1)) (h2:jO B body xs U1=R):jP F B body U=R:=(RZ h).trans h2
theorem KZ {G:PV->Option (List PV)} {p:PV} {xs:List PV} (h:fa U=some (l,U1)) (hp:l.pv=p) (h2:G p=some xs):jL fa G U=some (xs,U1):=by subst hp;exact yJ h h2
end
section
variable {X:Cx}
def jj (f:EF):EF:=λU=>(f U).bind λx=>match x.1 with
 | .own p=>some (.sh (.ptr x.2.mu.length),⟨x.2.vs,x.2.mu++[some p]⟩)
 | _=>none
theorem wz {e:Expr} {f:EF} (h:PE X e (tP X.K f)):PE X e (tP X.K (jj f)):=PE.imp h λO H Q q=>by
 obtain⟨H0,Z0,U,pd,l,U',s,f,k⟩:=q;obtain⟨x,h1,h2⟩:=abd f;refine⟨H0,Z0,U,pd,x.1,x.2,s,h1,λv H1 s1=>?_⟩;split at h2
 . rename_i p ep;cases h2;rw[ep]at s1;obtain⟨el,Z,hg,z,so⟩:=s1.top;obtain⟨a,ea,ra,za,ha0⟩:=so.1 _ YK;have ea':v=.ref a:=Zf ea;subst ea';have lz:iM Z ⟨Z.z,Z.g++[a]⟩:=⟨cY.refl _,aaV _ _⟩;have so2:=so.step (Z':=⟨Z.z,Z.g++[a]⟩) (H':=H1) lz λe he b hb=>⟨rfl,(jh so he hb).1⟩;refine k _ H1 (.mk (Z:=⟨Z.z,Z.g++[a]⟩) el (by simp[hg]) ⟨z.zh,z.h0,z.z0.trans lz,z.new⟩ (Slots.consS ?_ ?_))
   . refine so2.perm ?_;have ec:cel (Z.g++[a]) (x.2.mu++[some p])=cel Z.g x.2.mu++[(some (.ref a),some (.own p))]:=by unfold cel;rw[Zo,Zo,aah (by simp[hg])];rfl
     unfold sl;show List.Perm (cel (Z.g++[a]) (x.2.mu++[some p])++_) _;rw[ec,Ze];exact ZL
   . unfold Rep;exact⟨a,rfl,by show (Z.g++[a])[x.2.mu.length]?=some a; rw[hg,Zb (YW _)]; simp⟩
 . cases h2
def dJ (f:EF) (lo hi:OF):EF:=λU=>(f U).bind λx=>(lo x.2).bind λy=>(hi y.2).bind λz=>match x.1.pv with
 | .lst ps=>some (.own (.lst (lR ps y.1 z.1)),z.2)
 | .str t=>if t.length<=100000 then some (.sh (.str (sV t y.1 z.1)),z.2) else none
 | _=>none
theorem jD {e:Expr} {lo hi:Option Expr} {p2 pos:Pos} {f:EF} {fl fh:OF} (he:PE X e (tP X.K f)) (hl:PO X lo (GR X.K fl)) (hu:PO X hi (GR X.K fh)):PE X (.Subscript e (.Slice lo hi none p2) pos) (tP X.K (dJ f fl fh)):=PE.imp (Dp (Rt.or Uz) he hl hu) λO H Q q=>by
 obtain⟨H0,Z0,U,pd,r,U',s,h,k⟩:=q;obtain⟨x,h1,h2⟩:=abd h;obtain⟨y,h3,h4⟩:=abd h2;obtain⟨z,h5,h6⟩:=abd h4;refine⟨H0,Z0,U,pd,x.1,x.2,s,h1,λv H1 s1=>⟨H0,Z0,x.2,_,y.1,y.2,s1.freeze,h3,λH2 s2=>⟨H0,Z0,y.2,_,z.1,z.2,s2,h5,λH3 s3=>?_⟩⟩⟩;cases e:x.1.pv with
 | lst ps=>
  rw[e]at h6 s3;cases h6;obtain⟨el,Z,hg,zz,r1,s4⟩:=s3.sh;unfold Rep at r1;obtain⟨a,vs,rfl,g1,g2⟩:=r1;refine .inl ⟨a,vs,rfl,bI.same zz.zh g1,λp hp=>k _ _ ?_⟩;obtain⟨z',s'⟩:=s4.new (o:=.lst (mX vs y.1 z.1)) (p:=.lst (lR ps y.1 z.1)) zz hp ⟨_,bA,g2.cut⟩;exact .mk el hg z' s'
 | str t=>
  rw[e]at h6 s3;have h6':(if t.length<=100000 then some (Lc.sh (.str (sV t y.1 z.1)),z.2) else none)=some (r,U'):=h6;split at h6'
  . rename_i hz;cases h6';obtain⟨_,r1⟩:=s3.repH;unfold Rep at r1;exact .inr ⟨t,r1,small hz,k _ H3 (s3.pop.scal sX)⟩
  . cases h6'
 | _=>rw[e]at h6; cases h6
theorem lC.two {r:List V->Hp->VK->Prop} {g:PV->PV->Option Lc} (h:∀H0 Z0 O U pd H v w p q l Q,SR K H0 Z0 O H U ((v,.sh p)::(w,.sh q)::pd)->g p q=some l->(∀u H',SR K H0 Z0 O H' U ((u,l)::pd)->Q u H')->r [v,w] H Q):
 lC K r (λps=>match ps with | [p,q]=>g p q | _=>none):=by
 intro H0 Z0 O U pd H vs ps l Q e s hg k
 match ps,vs,e,s,hg with
 | [p,q],[v,w],_,s,hg=>exact h H0 Z0 O U pd H v w p q l Q s hg k
 | [p,q],[],e,_,_=>simp at e
 | [p,q],[_],e,_,_=>simp at e
 | [p,q],_::_::_::_,e,_,_=>simp at e
 | [],_,_,_,hg=>cases hg
 | [_],_,_,_,hg=>cases hg
 | _::_::_::_,_,_,_,hg=>cases hg
def YG:PV->PV->Option Lc
 | .int i,.int j=>some (.sh (.int (if j<i then j else i)))
 | _,_=>none
def Vn:PV->PV->Option Lc
 | .int i,.int j=>some (.sh (.int (if j>i then j else i)))
 | _,_=>none
abbrev max2:List PV->Option Lc:=λps=>match ps with | [p,q]=>Vn p q | _=>none
theorem Vo:lC K (λxs H Q=>∃i j,xs=[.int i,.int j]/\Q (.int (if j>i then j else i)) H) max2:=lC.two λH0 Z0 O U pd H v w p q l Q s e k=>by
 obtain⟨_,r1,r2⟩:=s.rep2H;unfold Vn at e;split at e
 . cases e;have a:=bG r1;have b:=bG r2;subst a b;exact⟨_,_,rfl,k _ H (s.pop.pop.scal fj)⟩
 . cases e
theorem SR.popO {a:Addr} {ws:List PV} {p:PV} (s:SR K H0 Z0 O H U ((.ref a,.own (.lst ws))::pd)) (hp:ws[ws.length-1]?=some p):
 ∃us y,H a=some (.lst us)/\us[us.length-1]?=some y/\SR K H0 Z0 O (upd H a (.lst us.dropLast)) U ((.ref a,.own (.lst ws.dropLast))::(y,.sh p)::pd):=by
 obtain⟨el,Z,hg,z,so⟩:=s.top;obtain⟨b,eb,⟨us,hu,hr⟩,_⟩:=so.1 _ YK;cases eb;obtain⟨y,hy,ry⟩:=hr.get hp;have hl:=hr.length;refine⟨us,y,hu,by rw[hl]; exact hy,?_⟩;have hd:aF K Z ws.dropLast us.dropLast:=by rw[List.dropLast_eq_take,List.dropLast_eq_take,hl];exact hr.take _
 obtain⟨z',s'⟩:=so.write (o:=.lst us.dropLast) (q:=.lst ws.dropLast) z ⟨us.dropLast,bA,hd⟩;have s2:=(s'.consS (v:=y) (p:=p) ry).perm (List.Perm.swap (some y,some (Lc.sh p)) (some (V.ref a),some (Lc.own (.lst ws.dropLast))) _);exact .mk (Z:=Z) el hg z' (s2.perm (bQ.cons _))
def uy (ps:List PV):List PV:=ps.zipIdx.map λx=>.tup [.int (x.2:Nat),x.1]
theorem K1 {ps:List PV} {i:Nat}:(uy ps)[i]?=ps[i]?.map λp=>.tup [.int (i:Nat),p]:=by unfold uy;rw[Zd,List.getElem?_zipIdx];cases ps[i]?<;>simp
theorem K3 {ps:List PV}:(uy ps).length=ps.length:=by unfold uy; simp
theorem K4 {H0:Hp} {a:Addr} {ps:List PV}:nT K H0 Z0 ((.ref a,.sh (.lst ps))::pd) (UG K a) (uy ps):=by intro O H U i s;obtain⟨el,Z,hg,z,r,so⟩:=s.sh;have r0:=r;unfold Rep at r;obtain⟨b,vs,e,h1,h2⟩:=r;cases e;have hq:=bI.same z.zh h1;refine⟨λx hx=>?_,λhl=>⟨vs,hq,by rw[h2.length]; rw[K3]at hl; omega⟩⟩;rw[K1]at hx;obtain⟨p,hp,rfl⟩:=abe hx;obtain⟨v,hv,rv⟩:=h2.get hp;refine⟨⟨vs,v,hq,hv⟩,λv' H' y=>?_⟩;obtain⟨T,y,hT,rfl,rfl,hy⟩:=y;have e1:=hy vs hq;rw[hv]at e1;cases e1;obtain⟨z',lz,so'⟩:=(so.consS r0).newF z (a:=T) (o:=.tup [.int (i:Nat),v]) hT;refine .mk (Z:=Z.put T (.tup [.int (i:Nat),v])) el hg z' (Slots.perm (Slots.consS so' ?_) (bQ.cons _));unfold Rep;exact⟨T,[.int (i:Nat),v],rfl,.inl (.inl (by show upd Z.z T _ T=_; rw[bA])),aF.cons (fj _) (aF.cons (rv.mono lz) .nil)⟩
def tD (f:EF):IF:=λU=>(f U).bind λx=>match x.1.pv with
 | .lst ps=>some (uy ps,x.2)
 | _=>none
theorem G3 {a:Expr} {f:EF} {p pos:Pos} {elts:List Expr} {x1} {tpos:Pos} (hg:Gl X "enumerate") (hm:X.mg "enumerate" = none) (ha:PA X [a] (gk X.K (aa f ao))) (hs:starEach [a] X.env=[(false,eval a X.env)]:=by rfl):PI X (.Tuple elts x1 tpos) (.Call (.Name "enumerate" p) [a] [] pos) (yH X.K (tD f)):=PI.imp (RB hg hm ha hs) λO H R q=>by
 obtain⟨H0,Z0,U,pd,xs,U',s,h,k⟩:=q;obtain⟨x,h1,h2⟩:=abd h;refine⟨H0,Z0,U,pd,[x.1],x.2,s,?_,λvs H1 e1 s1=>?_⟩
 . unfold aa ao;rw[h1];rfl
 . obtain⟨v,rfl⟩:=m8 e1;have s2:SR X.K H0 Z0 O H1 x.2 ((v,.sh x.1.pv)::pd):=SR.freeze s1;cases e:x.1.pv with
   | lst ps=>
    rw[e]at h2 s2;cases h2;obtain⟨Z,z,r⟩:=s2.rep;unfold Rep at r;obtain⟨b,us,rfl,h1',h2'⟩:=r;exact⟨b,rfl,⟨us,bI.same z h1'⟩,k _ _ _ s2 K4 (Y4 _ _)⟩
   | _=>rw[e]at h2; cases h2
abbrev PD:=List (Key×PV)
def fL:PD->Key->Option PV
 | [],_=>none
 | kv::r,k=>if kv.1=k then some kv.2 else fL r k
def Iw (k:Key) (v:PV):PD->PD
 | []=>[]
 | kv::r=>(if kv.1=k then (kv.1,v) else kv)::Iw k v r
def uz (l:PD) (k:Key) (v:PV):PD:=match fL l k with
 | some _=>Iw k v l
 | none=>l++[(k,v)]
def xV:PV->Option Key
 | .int i=>some (.inl i)
 | .str x=>some (.inr x)
 | _=>none
def qR (l:PD):PV:=.dk (l.map (·.1)) (l.map (·.2))
def dW (K:FG) (Z:ZG):PD->List (Key×V)->Prop:=Paired λp q=>p.1=q.1/\Rep K Z p.2 q.2
section
variable {K:FG} {Z Z':ZG}
theorem jb:∀{kvs:List (Key×V)} {ks:List Key} {ps:List PV},kvs.map (·.1)=ks->aF K Z ps (kvs.map (·.2))->dW K Z (ks.zip ps) kvs
 | [],ks,ps,h1,h2=>by subst h1;exact .nil
 | kv::r,ks,ps,h1,h2=>by
  subst h1;cases ps with
  | nil=>have:=h2.inv0; simp at this
  | cons p ps=>
   obtain⟨v,r',e,h3,h4⟩:=h2.inv;rw[Za]at e;injection e with e1 e2;subst e1 e2;rw[Za,Z7];exact .cons ⟨rfl,h3⟩ (jb rfl h4)
theorem dW.keys:∀{l:PD} {kvs:List (Key×V)},dW K Z l kvs->kvs.map (·.1)=l.map (·.1)
 | _,_,.nil=>rfl
 | _,_,.cons h t=>by rw[Za,Za,h.1,dW.keys t]
theorem dW.vals:∀{l:PD} {kvs:List (Key×V)},dW K Z l kvs->aF K Z (l.map (·.2)) (kvs.map (·.2))
 | _,_,.nil=>.nil
 | _,_,.cons h t=>aF.cons h.2 (dW.vals t)
theorem dW.len:∀{l:PD} {kvs:List (Key×V)},dW K Z l kvs->kvs.length=l.length
 | _,_,.nil=>rfl
 | _,_,.cons h t=>by rw[YX,YX,dW.len t]
theorem dW.val {k:Key}:∀{l:PD} {kvs:List (Key×V)},dW K Z l kvs->(∀p,fL l k=some p->∃v,nQ kvs k=some v/\Rep K Z p v)/\(fL l k=none->nQ kvs k=none)
 | _,_,.nil=>⟨λp h=>(by cases h),λ_=>rfl⟩
 | p::l,q::kvs,.cons h t=>by
  have ih:=dW.val (k:=k) t;by_cases e:p.1=k
  . have e':q.1=k:=by rw[<-h.1]; exact e
    refine⟨λx hx=>⟨q.2,ud e',?_⟩,λhx=>?_⟩
    . unfold fL at hx; rw[aa5 e]at hx; cases hx; exact h.2
    . unfold fL at hx; rw[aa5 e]at hx; cases hx
  . have e':¬ q.1=k:=by rw[<-h.1]; exact e
    rw[ue e'];unfold fL;rw[aa6 e];exact ih
theorem dW.repl {k:Key} {p:PV} {v:V} (r:Rep K Z p v):∀{l:PD} {kvs:List (Key×V)},dW K Z l kvs->dW K Z (Iw k p l) (kvs.map λkv=>if kv.1=k then (kv.1,v) else kv)
 | _,_,.nil=>.nil
 | a::l,b::kvs,.cons h t=>by
  refine .cons ?_ (dW.repl r t);by_cases e:a.1=k
  . have e':b.1=k:=by rw[<-h.1]; exact e
    rw[aa5 e];dsimp only;rw[aa5 e'];exact⟨h.1,r⟩
  . have e':¬ b.1=k:=by rw[<-h.1]; exact e
    rw[aa6 e];dsimp only;rw[aa6 e'];exact h
theorem dW.app:∀{l l':PD} {kvs kvs':List (Key×V)},dW K Z l kvs->dW K Z l' kvs'->dW K Z (l++l') (kvs++kvs')
 | _,_,_,_,.nil,h=>h
 | _,_,_,_,.cons a t,h=>.cons a (dW.app t h)
theorem dW.put {k:Key} {p:PV} {v:V} {l:PD} {kvs:List (Key×V)} (h:dW K Z l kvs) (r:Rep K Z p v):dW K Z (uz l k p) (putK kvs k v):=by
 have hv:=h.val (k:=k);unfold uz;cases e:fL l k with
 | none=>
  rw[Ni v (hv.2 e)];exact h.app (.cons ⟨rfl,r⟩ .nil)
 | some q=>
  obtain⟨u,hu,_⟩:=hv.1 q e;have e2:putK kvs k v=kvs.map λkv=>if kv.1=k then (kv.1,v) else kv:=by unfold putK;rw[uf,hu];rfl
  rw[e2];exact h.repl r
theorem wA {p:PV} {k:Key} {v:V} (h:xV p=some k) (r:Rep K Z p v):v=kV k:=by
 cases p with
 | int i=>cases h; exact bG r
 | str x=>cases h; exact cR r
 | _=>cases h
end
def jk (fa fb:EF):EF:=λU=>(fa U).bind λx=>(fb x.2).bind λy=>match x.1.pv with
 | .dk ks ps=>(xV y.1.pv).bind λk=>(fL (ks.zip ps) k).map λp=>(.sh p,y.2)
 | .df ks ps=>(xV y.1.pv).bind λk=>(fL (ks.zip ps) k).map λp=>(.sh p,y.2)
 | _=>bC (λ_=>some x) (λ_=>some y) U
theorem R6 {U U0 U':Ev} {v w:V} {x y:Lc×Ev} {l:Lc} {Q:VK} (hy:y.2=U) (s3:SR X.K H0 Z0 O H U ((w,.sh y.1.pv)::(v,.sh x.1.pv)::pd)) (h:bC (λ_=>some x) (λ_=>some y) U0=some (l,U')) (k:∀u H',SR X.K H0 Z0 O H' U' ((u,l)::pd)->Q u H'):Uo X.K v w H Q:=by
 unfold bC at h;rw[YJ,YJ]at h;subst hy;split at h
 . rename_i n kk en ek;split at h
   . rename_i ws em;obtain⟨p,h5,h6⟩:=abe h;cases h6;rw[en,ek]at s3;obtain⟨_,rw'⟩:=s3.repH;have ew:=bG rw';obtain⟨a,rfl,s5⟩:=s3.pop.cellO em;obtain⟨el,Z,hg,z,so⟩:=s5.top;obtain⟨_,ea,⟨us,hu,hr⟩,_⟩:=so.1 _ YK;cases ea;obtain⟨j,e1,e2⟩:=wu h5 hr.length;obtain⟨u,e3,e4⟩:=hr.get e1;refine .inl ⟨a,us,kk,u,rfl,ew,bI.of hu,e2 u e3,k u H ?_⟩;have s6:SR X.K H0 Z0 O H ⟨y.2.vs,y.2.mu.set n none⟩ ((u,.sh p)::(.ref a,.own (.lst ws))::(.ref a,.sh (.ptr n))::pd):=.mk (Z:=Z) el hg z ((so.perm bQ).consS e4);have hn:n<y.2.mu.length:=(YS.mp em).1;have s7:SR X.K H0 Z0 O H ⟨y.2.vs,y.2.mu.set n none⟩ ((.ref a,.own (.lst ws))::(.ref a,.sh (.ptr n))::(u,.sh p)::pd):=s6.perm (((List.Perm.swap _ _ _).cons _).trans (List.Perm.swap _ _ _));have s8:=s7.cellP (by show (y.2.mu.set n none)[n]?=_; rw[Y8 hn]);have e8:(y.2.mu.set n none).set n (some (.lst ws))=y.2.mu:=by rw[aae]; exact abf em
     have s9:SR X.K H0 Z0 O H ⟨y.2.vs,(y.2.mu.set n none).set n (some (.lst ws))⟩ ((u,.sh p)::pd):=s8;rw[e8]at s9;exact s9
   . cases h
 . obtain⟨l',h5,h6⟩:=abe h;cases h6;exact KH H0 Z0 O y.2 pd H v w x.1.pv y.1.pv _ Q s3 h5 k
theorem vH {a b:Expr} {pos:Pos} {fa fb:EF} (hu:X.A.units+1<cLine) (ha:PE X a (tP X.K fa)) (hb:PE X b (tP X.K fb)) (hm:v7 b):PE X (.Subscript a b pos) (tP X.K (jk fa fb)):=PE.imp (Ij (J0.or (Gz hu)) ha hb hm) λO H Q q=>by
 obtain⟨H0,Z0,U,pd,l,U',s,f,k⟩:=q;obtain⟨x,h1,h2⟩:=abd f;obtain⟨y,h3,h4⟩:=abd h2;refine⟨H0,Z0,U,pd,x.1,x.2,s,h1,λv H1 s1=>⟨H0,Z0,x.2,_,y.1,y.2,s1,h3,λw H2 s2=>?_⟩⟩;have s3:=s2.freeze.swap.freeze.swap;split at h4
 . rename_i ks ps en;obtain⟨kk,h5,h6⟩:=abd h4;obtain⟨p,h7,h8⟩:=abe h6;cases h8;obtain⟨_,rw'⟩:=s3.repH;have ew:=wA h5 rw';have s4:=s3.pop;rw[en]at s4;obtain⟨Z,z,r⟩:=s4.rep;unfold Rep at r;obtain⟨b',kvs,rfl,g1,g2,g3⟩:=r;obtain⟨u,hu',ru⟩:=(jb g2 g3).val.1 p h7;have e1:=z _ _ g1;refine .inr ⟨b',u,rfl,.inl ⟨kvs,kk,.inl e1,ew,hu'.symm⟩,k u H2 ?_⟩;refine(s4.part (u:=u) (q:=p) λZ' z' r'=>?_).sub ((Y4 _ _).cons_cons _);unfold Rep at r';obtain⟨b2,kvs2,eb,g1',g2',g3'⟩:=r';cases eb;have e2:=z' _ _ g1';rw[e1]at e2;cases e2;obtain⟨u2,hu2,ru2⟩:=(jb g2' g3').val.1 p h7;rw[hu']at hu2;cases hu2;exact ru2
 . rename_i ks ps en;obtain⟨kk,h5,h6⟩:=abd h4;obtain⟨p,h7,h8⟩:=abe h6;cases h8;obtain⟨_,rw'⟩:=s3.repH;have ew:=wA h5 rw';have s4:=s3.pop;rw[en]at s4;obtain⟨Z,z,r⟩:=s4.rep;unfold Rep at r;obtain⟨b',ob,kvs,rfl,g1,g2,g3⟩:=r;obtain⟨u,hu',ru⟩:=(jb g2 g3).val.1 p h7;have e1:=z _ _ g1;refine .inr ⟨b',u,rfl,.inl ⟨kvs,kk,.inr ⟨ob,e1⟩,ew,hu'.symm⟩,k u H2 ?_⟩;refine(s4.part (u:=u) (q:=p) λZ' z' r'=>?_).sub ((Y4 _ _).cons_cons _);unfold Rep at r';obtain⟨b2,ob2,kvs2,eb,g1',g2',g3'⟩:=r';cases eb;have e2:=z' _ _ g1';rw[e1]at e2;cases e2;obtain⟨u2,hu2,ru2⟩:=(jb g2' g3').val.1 p h7;rw[hu']at hu2;cases hu2;exact ru2
 . exact .inl (R6 rfl s3 h4 k)
theorem SR.takeD {i:Nat} {ks:List Key} {ps:List PV} (s:SR K H0 Z0 O H U pd) (e:U.vs[i]?=some (some (.own (.dk ks ps)))):
 ∃a,O[i]?=some (some (.ref a))/\SR K H0 Z0 O H (U.set i none) ((.ref a,.own (.dk ks ps))::pd):=by
 obtain⟨v,e1,s1⟩:=s.take e;obtain⟨_,Z,_,z,so⟩:=s1.top;obtain⟨a,ea,_⟩:=so.1 _ YK;have ea':v=.ref a:=Zf ea;subst ea';exact⟨a,e1,s1⟩
theorem SR.setD {v:V} {p:PV} {a:Addr} {ks:List Key} {ps:List PV} {k:Key} (s:SR K H0 Z0 O H U ((v,.sh p)::(.ref a,.own (.dk ks ps))::pd)):
 ∃kvs,H a=some (.dK kvs)/\kvs.length=ks.length/\SR K H0 Z0 O (upd H a (.dK (putK kvs k v))) U ((.ref a,.own (qR (uz (ks.zip ps) k p)))::pd):=by
 obtain⟨el,Z,hg,z,r,so⟩:=s.sh;have so2:=so.perm bQ.symm;obtain⟨_,eb,⟨kvs,hu,hk,hr⟩,_⟩:=so2.1 _ YK;cases eb;refine⟨kvs,hu,by rw[<-hk,YQ],?_⟩;have d:=(jb hk hr).put (k:=k) r;obtain⟨z',s'⟩:=so2.write (o:=.dK (putK kvs k v)) (q:=qR (uz (ks.zip ps) k p)) z ⟨putK kvs k v,bA,d.keys,d.vals⟩;exact .mk el hg z' s'
def uA (i:Nat) (fi fv:EF):SF:=λU=>(fv U).bind λx=>match x.2.vs[i]? with
 | some (some (.own (.dk _ _)))=>(fi x.2).bind λy=>match xV y.1.pv,y.2.vs[i]? with
  | some k,some (some (.own (.dk ks ps)))=>if ks.length<100000 then some (.nx (y.2.set i (some (.own (qR (uz (ks.zip ps) k x.1.pv)))))) else none
  | _,_=>none
 | _=>none
theorem G4 {i:Nat} {o ix e:Expr} {fi fv:EF} {tpos pos:Pos} (h:PS X (.Assign [.Subscript o ix tpos] e pos) (HN (tP X.K fv) (MJ (qd i) (tP X.K fi) Qs))):PS X (.Assign [.Subscript o ix tpos] e pos) (fO X.K (uA i fi fv)):=PS.imp h λD O H q=>by
 obtain⟨H0,Z0,U,pd,fl,s,h,k⟩:=q;obtain⟨x,h1,h2⟩:=abd h;refine⟨H0,Z0,U,pd,x.1,x.2,s,h1,λv H1 s1=>?_⟩;split at h2
 . rename_i ks0 ps0 e0;obtain⟨y,h3,h4⟩:=abd h2;obtain⟨a,ea,_⟩:=s1.takeD e0;refine⟨.ref a,ea,H0,Z0,x.2,_,y.1,y.2,s1.freeze,h3,λw H2 s2=>?_⟩;split at h4
   . rename_i kk ks ps ek e3;split at h4
     . rename_i hlen;cases h4;obtain⟨_,rw'⟩:=s2.freeze.repH;have ew:=wA ek rw';obtain⟨a',ea',s3⟩:=s2.pop.takeD e3;rw[ea]at ea'; cases ea';obtain⟨kvs,hu,hl,s4⟩:=s3.swap.setD (k:=kk);refine⟨a,_,rfl,.inl ⟨kvs,kk,hu,ew,by rw[hl,sizeLine_eq]; omega,rfl⟩,k O _ ?_⟩;have s5:=s4.put ea;rw[Ev.set_set]at s5;exact s5
     . cases h4
   . cases h4
 . cases h2
def pN (fo fv:EF):SF:=λU=>(fo U).bind λo=>match o.1.pv with
 | .ptr n=>match o.2.mu[n]? with
  | some (some (.lst _))=>(fv o.2).bind λy=>match y.2.mu[n]? with
   | some (some (.lst ws))=>if ws.length<100000 then some (.nx ⟨y.2.vs,y.2.mu.set n (some (.lst (ws++[y.1.pv])))⟩) else none
   | _=>none
  | _=>none
 | _=>none
theorem wB {o e:Expr} {fo fv:EF} {apos cpos pos:Pos} (h:PS X (.Expr (.Call (.Attribute o "append" apos) [e] [] cpos) pos) (tX (J2 X.K "list" zM (tP X.K fo) (gk X.K (aa fv ao))))):
 PS X (.Expr (.Call (.Attribute o "append" apos) [e] [] cpos) pos) (fO X.K (pN fo fv)):=PS.imp h λD O H q=>by
 obtain⟨H0,Z0,U,pd,fl,s,h,k⟩:=q;obtain⟨o',h1,h2⟩:=abd h;refine⟨H0,Z0,U,pd,o'.1,o'.2,s,h1,λv H1 s1=>?_⟩;split at h2
 . rename_i n en;split at h2
   . rename_i ws0 em0;obtain⟨y,h3,h4⟩:=abd h2;have s2:=s1.freeze;rw[en]at s2;obtain⟨a,rfl,s5⟩:=s2.cellO em0;obtain⟨_,Z,_,z,so⟩:=s5.top;obtain⟨_,ea,⟨us,hu,_⟩,_⟩:=so.1 _ YK;cases ea;refine⟨.inl ⟨rfl,us,bI.of hu⟩,H0,Z0,o'.2,_,[y.1],y.2,s2,?_,λvs H2 e2 sv=>?_⟩
     . unfold aa ao;rw[h3];rfl
     . obtain⟨v1,rfl⟩:=m8 e2;split at h4
       . rename_i ws em;split at h4
         . rename_i hz;cases h4;have s3:SR X.K H0 Z0 O H2 y.2 ((v1,.sh y.1.pv)::(.ref a,.sh (.ptr n))::pd):=SR.freeze sv;obtain⟨a',ea',s6⟩:=s3.swap.cellO em;cases ea';have s7:SR X.K H0 Z0 O H2 ⟨y.2.vs,y.2.mu.set n none⟩ ((v1,.sh y.1.pv)::(.ref a,.own (.lst ws))::(.ref a,.sh (.ptr n))::pd):=s6.perm ((List.Perm.swap _ _ _).trans ((List.Perm.swap _ _ _).cons _));obtain⟨us2,hu2,hl,s8⟩:=s7.pushO;have hn:n<y.2.mu.length:=(YS.mp em).1;have s9:=s8.cellP (by show (y.2.mu.set n none)[n]?=_; rw[Y8 hn]);refine⟨a,us2,v1,rfl,rfl,hu2,by rw[hl,sizeLine_eq]; omega,k O _ ?_⟩;have e8:(y.2.mu.set n none).set n (some (.lst (ws++[y.1.pv])))=y.2.mu.set n (some (.lst (ws++[y.1.pv]))):=aae ..;have s10:SR X.K H0 Z0 O (upd H2 a (.lst (us2++[v1]))) ⟨y.2.vs,(y.2.mu.set n none).set n (some (.lst (ws++[y.1.pv])))⟩ pd:=s9;rw[e8]at s10;exact s10
         . cases h4
       . cases h4
   . cases h2
 . cases h2
def Qn:List (V×V)->List V
 | []=>[]
 | p::r=>p.1::p.2::Qn r
def nj (l:PD) (acc:PD):PD:=match l with
 | []=>acc
 | kv::r=>nj r (uz acc kv.1 kv.2)
theorem dW.merge {Z:ZG}:∀{l:PD} {kvs:List (Key×V)} {a:PD} {b:List (Key×V)},dW K Z l kvs->dW K Z a b->dW K Z (nj l a) (m6 b kvs)
 | _,_,_,_,.nil,h=>h
 | p::l,q::kvs,a,b,.cons h t,g=>by have:=dW.merge t (g.put (k:=p.1) h.2);rw[h.1]at this;unfold nj;rw[h.1];exact this
def oR:EF:=λU=>some (.own (.dk [] []),U)
theorem Ej {pos:Pos}:PE X (.Dict [] [] pos) (tP X.K oR):=PE.imp Nm λO H Q q=>by obtain⟨H0,Z0,U,pd,l,U',s,f,k⟩:=q;cases f;exact λp hp=>k _ _ (s.newO hp λZ _ _=>⟨[],bA,rfl,.nil⟩)
def eQ (f:EF):EF:=λU=>(f U).bind λx=>match x.1.pv with
 | .ptr n=>match x.2.mu[n]? with
  | some (some (.lst ws))=>some (.sh (.int (ws.length:Nat)),x.2)
  | _=>none
 | p=>(Ve p).map λl=>(l,x.2)
theorem qj {x:Str} {e:Expr} {f:EF} {p pos:Pos} (h:PE X (.Call (.Name x p) [e] [] pos) (uL (λxs H Q=>∃x n,xs=[x]/\M5 X.K x H n/\Q (.int n) H) (gk X.K (aa f ao)))):PE X (.Call (.Name x p) [e] [] pos) (tP X.K (eQ f)):=PE.imp h λO H Q q=>by
 obtain⟨H0,Z0,U,pd,l,U',s,ff,k⟩:=q;obtain⟨y,h1,h2⟩:=abd ff;refine⟨H0,Z0,U,pd,[y.1],y.2,s,?_,λvs H1 e1 s1=>?_⟩
 . unfold aa ao;rw[h1];rfl
 . obtain⟨v,rfl⟩:=m8 e1;have s2:SR X.K H0 Z0 O H1 y.2 ((v,.sh y.1.pv)::pd):=SR.freeze s1;split at h2
   . rename_i n en;split at h2
     . rename_i ws em;cases h2;rw[en]at s2;obtain⟨a,rfl,s5⟩:=s2.cellO em;obtain⟨_,Z,_,z,so⟩:=s5.top;obtain⟨_,ea,⟨us,hu,hr⟩,_⟩:=so.1 _ YK;cases ea;exact⟨.ref a,ws.length,rfl,.inl ⟨us,bI.of hu,hr.length.symm⟩,k _ H1 (s2.pop.scal fj)⟩
     . cases h2
   . obtain⟨l',h3,h4⟩:=abe h2;cases h4;exact KJ H0 Z0 O y.2 pd H1 [v] [y.1.pv] _ Q rfl s2 h3 k
def eU:=vg (λ_ j=>decide (0<j/\j<18446744073709551616)) λi j=>.int (i/j)
theorem gB:jX K (rI Qq λi j=>.int (i/j)) eU:=CQ (λi j h=>(of_decide_eq_true h:0<j/\j<18446744073709551616)) λ_ _ _=>fj _
end
open PySem.SeqAt
section
variable {X:Cx}
def Iz (n:Nat):PD->PD->Option Bool
 | [],_=>some true
 | kv::r,lb=>match fL lb kv.1 with
  | none=>some false
  | some q=>(lQ n kv.2 q).bind λe=>(Iz n r lb).map λc=>e&&c
def vI (n:Nat) (la lb:PD):Option Bool:=if la.length=lb.length then Iz n la lb else some false
theorem G5 {acR:List (Addr×Obj)} {H:Hp} {s:Shared} {g:List Addr} (I:Inv X acR O H s) {n:Nat} {A:Around} (hA:A.units+n<cLine) {lb:PD} {kb:List (Key×V)} {vb:List (Key×Value)} (rb:dW X.K ⟨H,g⟩ lb kb) (qb:KV kb vb):
 ∀{la:PD} {ka:List (Key×V)} {va:List (Key×Value)} {b:Bool},dW X.K ⟨H,g⟩ la ka->KV ka va->Iz n la lb=some b->W.KeqHits A s vb va b
 | _,_,va,b,.nil,qa,h=>by cases h;cases (show Paired _ [] va from qa);exact .nil
 | p::la,q::ka,va,b,.cons hpq t,qa,h=>by
  cases (show Paired _ (q::ka) va from qa) with
  | @cons _ u _ vr e qr=>
   obtain⟨u1,u2⟩:=u;have ek:p.1=u1:=hpq.1.trans e.1;unfold Iz at h;have rel:=qb.val p.1;cases hv:fL lb p.1 with
   | none=>
    rw[hv]at h;cases h;rw[rb.val.2 hv]at rel;refine .miss ?_;rw[<-ek];cases hx:valueAt vb p.1 with
    | none=>rfl
    | some y=>rw[hx]at rel; exact rel.elim
   | some q'=>
    rw[hv]at h;obtain⟨e1,h1,h2⟩:=abd h;obtain⟨c,h3,h4⟩:=abe h2;subst h4;obtain⟨v',hv',rv'⟩:=rb.val.1 q' hv;rw[hv']at rel;cases hx:valueAt vb p.1 with
    | none=>rw[hx]at rel; exact rel.elim
    | some y=>
     rw[hx]at rel;refine .hit (y:=y) (by rw[<-ek]; exact hx) (CV I n hpq.2 rv' e.2 rel h1 A hA).1 (G5 I hA rb qb t qr h3)
def Ol (K:FG) (neg:Bool):R2:=λx y H Q=>∃g ks ps js qs b,Rep K ⟨H,g⟩ (.dk ks ps) x/\Rep K ⟨H,g⟩ (.dk js qs) y/\vI 150 (ks.zip ps) (js.zip qs)=some b/\Q (.bl (if neg then !b else b)) H
theorem K5 {acR:List (Addr×Obj)} {H:Hp} {s:Shared} {g:List Addr} (I:Inv X acR O H s) (hA:X.A.in1.units+150<cLine) {ks js:List Key} {ps qs:List PV} {x y:V} {v u:Value} {b:Bool}
 (r1:Rep X.K ⟨H,g⟩ (.dk ks ps) x) (r2:Rep X.K ⟨H,g⟩ (.dk js qs) y) (rx:RelV x v) (ry:RelV y u) (e:vI 150 (ks.zip ps) (js.zip qs)=some b):
 ∃a a' va vb r,v=.ref a/\u=.ref a'/\(a==sysModules)=false/\(a'==sysModules)=false/\s.heap.DictOf (dj X.prog X.w) a va/\s.heap.DictOf (dj X.prog X.w) a' vb/\(va.length=vb.length->W.KeqHits X.A.in1 s vb va r)/\(va.length==vb.length&&r)=b:=by
 unfold Rep at r1 r2;obtain⟨a,ka,rfl,h1,h2,h3⟩:=r1;obtain⟨a',kb,rfl,h1',h2',h3'⟩:=r2;cases rx;cases ry;obtain⟨_,d1,va,q1,dd1⟩:=CG I.hok h1;obtain⟨_,d2,vb,q2,dd2⟩:=CG I.hok h1';have ra:=jb h2 h3;have rb:=jb h2' h3';have la:va.length=(ks.zip ps).length:=by rw[<-q1.length,ra.len]
 have lb:vb.length=(js.zip qs).length:=by rw[<-q2.length,rb.len]
 unfold vI at e;split at e
 . rename_i hl;refine⟨a,a',va,vb,b,rfl,rfl,d1,d2,dd1,dd2,λ_=>G5 I hA rb q2 ra q1 e,?_⟩;rw[la,lb,hl];simp
 . rename_i hl;cases e;refine⟨a,a',va,vb,false,rfl,rfl,d1,d2,dd1,dd2,λz=>(hl (by rw[<-la,<-lb]; exact z)).elim,by simp⟩
theorem Vp {k:Nat} (hr:fH k X.A):fZ X (compareOp .Eq) (Ol X.K false):=by
 intro acR s O H x y v u Q I rx ry h;obtain⟨g,ks,ps,js,qs,b,r1,r2,e,k'⟩:=h;have hA:X.A.in1.units+150<cLine:=by have:=hr.un; show X.A.units+1+150<cLine; omega
 obtain⟨a,a',va,vb,r,rfl,rfl,d1,d2,dd1,dd2,hits,eb⟩:=K5 I hA r1 r2 rx ry e;refine W.keq_eq d1 d2 dd1 dd2 (by have:=hr.un; omega) hits ?_;rw[eb];exact⟨.bl b,H,I,rfl,k'⟩
theorem Vq {k:Nat} (hr:fH k X.A):fZ X (compareOp .NotEq) (Ol X.K true):=by
 intro acR s O H x y v u Q I rx ry h;obtain⟨g,ks,ps,js,qs,b,r1,r2,e,k'⟩:=h;have hA:X.A.in1.units+150<cLine:=by have:=hr.un; show X.A.units+1+150<cLine; omega
 obtain⟨a,a',va,vb,r,rfl,rfl,d1,d2,dd1,dd2,hits,eb⟩:=K5 I hA r1 r2 rx ry e;refine W.keq_ne d1 d2 dd1 dd2 (by have:=hr.un; omega) hits ?_;rw[eb];exact⟨.bl (!b),H,I,rfl,k'⟩
def lE (p q:PV):Option Lc:=match p,q with
 | .dk ks ps,.dk js qs=>(vI 150 (ks.zip ps) (js.zip qs)).map λb=>.sh (.bl b)
 | p,q=>eqP p q
def K6 (p q:PV):Option Lc:=match p,q with
 | .dk ks ps,.dk js qs=>(vI 150 (ks.zip ps) (js.zip qs)).map λb=>.sh (.bl (!b))
 | p,q=>wZ p q
def IK (K:FG) (neg:Bool):R2:=λx y H Q=>Ef K neg x y H Q\/Ol K neg x y H Q
theorem nu {k:Nat} (hr:fH k X.A):fZ X (compareOp .Eq) (IK X.K false):=(eN hr).or (Vp hr)
theorem Vr {k:Nat} (hr:fH k X.A):fZ X (compareOp .NotEq) (IK X.K true):=(vy hr).or (Vq hr)
theorem kj:jX K (IK K false) lE:=by
 intro H0 Z0 O U pd H v w x y l Q s e k;unfold lE at e;split at e
 . obtain⟨b,e1,rfl⟩:=abe e;obtain⟨g,r1,r2⟩:=s.rep2H;exact .inr ⟨g,_,_,_,_,b,r1,r2,e1,k _ H (s.pop.pop.scal di)⟩
 . exact .inl (eO H0 Z0 O U pd H v w _ _ l Q s e k)
theorem R7:jX K (IK K true) K6:=by
 intro H0 Z0 O U pd H v w x y l Q s e k;unfold K6 at e;split at e
 . obtain⟨b,e1,rfl⟩:=abe e;obtain⟨g,r1,r2⟩:=s.rep2H;exact .inr ⟨g,_,_,_,_,b,r1,r2,e1,k _ H (s.pop.pop.scal di)⟩
 . exact .inl (vz H0 Z0 O U pd H v w _ _ l Q s e k)
def mY (ps qs:List PV):List PV:=List.zipWith (λp q=>.tup [p,q]) ps qs
theorem Om {ps qs:List PV} {i:Nat} {x:PV} (h:(mY ps qs)[i]?=some x):∃p q,ps[i]?=some p/\qs[i]?=some q/\x=.tup [p,q]:=by
 unfold mY at h;rw[List.getElem?_zipWith]at h;cases h1:ps[i]? with
 | none=>rw[h1]at h; cases h
 | some p=>
  cases h2:qs[i]? with
  | none=>rw[h1,h2]at h; cases h
  | some q=>rw[h1,h2]at h; cases h; exact⟨p,q,rfl,rfl,rfl⟩
theorem Oo {ps qs:List PV}:(mY ps qs).length=min ps.length qs.length:=by unfold mY; simp
end
end PL
namespace L2
open PySem PySem.Spec PyProof.Rows
variable {acR:List (Addr×Obj)} {E:Value->Shared->Prop} {s:Shared} {A:Around} {w:World} {P:Program}
section
variable {X:Cx}
end
end L2
namespace PL
open PySem PySem.Spec PyProof.Rows L2
variable {K:FG} {H0 H:Hp} {Z0:ZG} {O:L2.St} {U:Ev} {pd:Pd}
section
variable {X:Cx}
def QH:List PV->Option (List Int)
 | []=>some []
 | .int x::ps=>(QH ps).map (x::·)
 | _::_=>none
def YH:PV->Option Lc
 | .lst ps=>(QH ps).bind λns=>if (ns.all λn=>decide (0<=n))&&decide (ns.sum<4611686018427387904) then some (.sh (.int ns.sum)) else none
 | _=>none
theorem Ek {Z:ZG} {ps:List PV} {us:List V} (h:aF K Z ps us):∀n:Nat,aF K Z (List.replicate n ps).flatten (List.replicate n us).flatten
 | 0=>by simp; exact aF.nil
 | n+1=>by rw[List.replicate_succ,List.replicate_succ,List.flatten_cons,List.flatten_cons];exact h.append (Ek h n)
def IV (f g:EF):EF:=λU=>(f U).bind λx=>(g x.2).bind λy=>match x.1,y.1.pv with
 | .own (.lst ps),.int k=>if 0<=k/\k<=100000/\ps.length*k.toNat<=100000 then some (.own (.lst (List.replicate k.toNat ps).flatten),y.2) else none
 | _,_=>none
theorem Xa {a b:Expr} {pos:Pos} {f g:EF} (ha:PE X a (tP X.K f)) (hb:PE X b (tP X.K g)):PE X (.BinOp a .Mult b pos) (tP X.K (IV f g)):=PE.imp (Qf Uv ha hb) λO H Q q=>by
 obtain⟨H0,Z0,U,pd,l,U',s,h,k⟩:=q;obtain⟨x,h1,h2⟩:=abd h;obtain⟨y,h3,h4⟩:=abd h2;refine⟨H0,Z0,U,pd,x.1,x.2,s,h1,λv H1 s1=>⟨H0,Z0,x.2,_,y.1,y.2,s1,h3,λu H2 s2=>?_⟩⟩;split at h4
 . rename_i ps n ex ey;split at h4
   . rename_i hc;cases h4;rw[ex]at s2;have s3:=s2.freeze;rw[ey]at s3;obtain⟨el,Z,hg,z,r,so⟩:=s3.sh;unfold Rep at r;subst r;have so2:=so.perm bQ.symm;obtain⟨c,ec,⟨us,hu,hr⟩,_⟩:=so2.1 _ YK;cases ec;refine⟨c,n,us,rfl,rfl,hu,by omega,by omega,by rw[hr.length,sizeLine_eq]; omega,λp hp=>k _ _ ?_⟩;obtain⟨z',s'⟩:=(so2.sub (Y4 _ _)).new (o:=.lst (List.replicate n.toNat us).flatten) (p:=.lst (List.replicate n.toNat ps).flatten) z hp ⟨_,bA,Ek hr _⟩;exact .mk el hg z' s'
   . cases h4
 . cases h4
section
variable {K:FG} {Z Z':ZG}
end
theorem SR.ext {l:Addr} {o:HO} (s:SR K H0 Z0 O H U pd) (hl:H l=none):SR K H0 Z0 O (upd H l o) U pd:=by obtain⟨el,Z,hg,z,so⟩:=s;obtain⟨z',lz,so'⟩:=so.newF z (o:=o) hl;exact⟨el,Z.put l o,hg,z',so'⟩
def jr:SF:=λ_=>none
theorem gJ {st:Stmt}:PS X st (fO X.K jr):=λacR s O H D I q=>by obtain⟨H0,Z0,U,pd,fl,s,h,k⟩:=q;cases h
abbrev FD:=List (Str×PV)
def pO:FD->Str->Option PV
 | [],_=>none
 | kv::r,k=>if kv.1=k then some kv.2 else pO r k
def oU (f:Str) (p:PV):FD->FD
 | []=>[(f,p)]
 | kv::r=>if kv.1=f then (kv.1,p)::r else kv::oU f p r
def cB (C:Str) (l:FD):PV:=.obj C (l.map (·.1)) (l.map (·.2))
def oV (K:FG) (Z:ZG):FD->List (Str×V)->Prop:=Paired λp q=>p.1=q.1/\Rep K Z p.2 q.2
section
variable {K:FG} {Z Z':ZG}
theorem zZ:∀{kvs:List (Str×V)} {ks:List Str} {ps:List PV},kvs.map (·.1)=ks->aF K Z ps (kvs.map (·.2))->oV K Z (ks.zip ps) kvs
 | [],ks,ps,h1,h2=>by subst h1;exact .nil
 | kv::r,ks,ps,h1,h2=>by
  subst h1;cases ps with
  | nil=>have:=h2.inv0; simp at this
  | cons p ps=>
   obtain⟨v,r',e,h3,h4⟩:=h2.inv;rw[Za]at e;injection e with e1 e2;subst e1 e2;rw[Za,Z7];exact .cons ⟨rfl,h3⟩ (zZ rfl h4)
theorem oV.keys:∀{l:FD} {kvs:List (Str×V)},oV K Z l kvs->kvs.map (·.1)=l.map (·.1)
 | _,_,.nil=>rfl
 | _,_,.cons h t=>by rw[Za,Za,h.1,oV.keys t]
theorem oV.vals:∀{l:FD} {kvs:List (Str×V)},oV K Z l kvs->aF K Z (l.map (·.2)) (kvs.map (·.2))
 | _,_,.nil=>.nil
 | _,_,.cons h t=>aF.cons h.2 (oV.vals t)
theorem oV.look {f:Str}:∀{l:FD} {kvs:List (Str×V)},oV K Z l kvs->(∀p,pO l f=some p->∃v,kvs.lookup f=some v/\Rep K Z p v)/\(pO l f=none->kvs.lookup f=none)
 | _,_,.nil=>⟨λp h=>(by cases h),λ_=>rfl⟩
 | p::l,q::kvs,.cons h t=>by
  have ih:=oV.look (f:=f) t;have e0:(q::kvs).lookup f=if f=q.1 then some q.2 else kvs.lookup f:=by
   obtain⟨q1,q2⟩:=q;rw[Zx];by_cases e:f=q1
   . subst e; simp
   . rw[aa6 e,show (f==q1)=false from aba.mpr e]
  rw[e0];by_cases e:p.1=f
  . have e':f=q.1:=by rw[<-h.1]; exact e.symm
    rw[aa5 e'];refine⟨λx hx=>⟨q.2,rfl,?_⟩,λhx=>?_⟩
    . unfold pO at hx; rw[aa5 e]at hx; cases hx; exact h.2
    . unfold pO at hx; rw[aa5 e]at hx; cases hx
  . have e':¬ f=q.1:=by rw[<-h.1]; exact λz=>e z.symm
    rw[aa6 e'];unfold pO;rw[aa6 e];exact ih
theorem oV.put {f:Str} {p:PV} {v:V} (r:Rep K Z p v):∀{l:FD} {kvs:List (Str×V)},oV K Z l kvs->oV K Z (oU f p l) (iW f v kvs)
 | _,_,.nil=>.cons ⟨rfl,r⟩ .nil
 | a::l,b::kvs,.cons h t=>by
  obtain⟨b1,b2⟩:=b;unfold oU iW;have h1:a.1=b1:=h.1;by_cases e:a.1=f
  . rw[aa5 e,aa5 (by rw[<-h1]; exact e)];exact .cons ⟨h1,r⟩ t
  . rw[aa6 e,aa6 (by rw[<-h1]; exact e)];exact .cons h (oV.put r t)
end
structure qT (K:FG) (mg:Str->Option Value) (C:Str) (c:Addr):Prop where
 cn:CN K C c
 cl:uX K c
 mgC:mg C=some (.ref c)
theorem pP {C:Str} {c d:Addr} (h:CN K C c) (g:CN K C d):c=d:=by have:(some (some (Value.ref c)))=some (some (.ref d)):=h.symm.trans g;cases this;rfl
def dm (C f:Str) (fo:EF):EF:=λU=>(fo U).bind λx=>match x.1.pv with
 | .ptr n=>match x.2.mu[n]? with
  | some (some (.obj D ks ps))=>if D=C then (pO (ks.zip ps) f).map λp=>(.sh p,x.2) else none
  | _=>none
 | _=>none
theorem SR.cellB {pd pe:Pd} {a:Addr} {n:Nat} {p:PV} (hm:U.mu[n]?=some (some p)) (s:SR K H0 Z0 O H ⟨U.vs,U.mu.set n none⟩ ((.ref a,.own p)::(.ref a,.sh (.ptr n))::pd)):SR K H0 Z0 O H U pd:=by
 have hn:n<U.mu.length:=(YS.mp hm).1;have s8:=s.cellP (by show (U.mu.set n none)[n]?=_; rw[Y8 hn]);have e8:(U.mu.set n none).set n (some p)=U.mu:=by rw[aae]; exact abf hm
 have s9:SR K H0 Z0 O H ⟨U.vs,(U.mu.set n none).set n (some p)⟩ pd:=s8;rw[e8]at s9;exact s9
theorem SR.objAt {v:V} {n:Nat} {C:Str} {ks:List Str} {ps:List PV} (s:SR K H0 Z0 O H U ((v,.sh (.ptr n))::pd)) (hm:U.mu[n]?=some (some (.obj C ks ps))):
 ∃a c dx fs,v=.ref a/\CN K C c/\H a=some (.ins c dx fs)/\fs.map (·.1)=ks/\(∀f p,pO (ks.zip ps) f=some p->∃u,fs.lookup f=some u/\SR K H0 Z0 O H U ((u,.sh p)::(v,.sh (.ptr n))::pd))/\∀f,pO (ks.zip ps) f=none->fs.lookup f=none:=by
 have sdup:SR K H0 Z0 O H U ((v,.sh (.ptr n))::(v,.sh (.ptr n))::pd):=s.part λZ _ r=>r;obtain⟨a,rfl,s5⟩:=sdup.cellO hm;obtain⟨el,Z,hg,z,so⟩:=s5.top;obtain⟨_,ea,⟨c,dx,fs,cn,hu,hk,hr⟩,_⟩:=so.1 _ YK;cases ea;have rf:=zZ hk hr;refine⟨a,c,dx,fs,rfl,cn,hu,hk,λf p hl=>?_,λf hl=>rf.look.2 hl⟩;obtain⟨u,h1,h2⟩:=rf.look.1 p hl;refine⟨u,h1,?_⟩;have s6:SR K H0 Z0 O H ⟨U.vs,U.mu.set n none⟩ ((u,.sh p)::(.ref a,.own (.obj C ks ps))::(.ref a,.sh (.ptr n))::(.ref a,.sh (.ptr n))::pd):=.mk (Z:=Z) el hg z ((so.perm bQ).consS h2);have s7:SR K H0 Z0 O H ⟨U.vs,U.mu.set n none⟩ ((.ref a,.own (.obj C ks ps))::(.ref a,.sh (.ptr n))::(u,.sh p)::(.ref a,.sh (.ptr n))::pd):=s6.perm (((List.Perm.swap _ _ _).cons _).trans (List.Perm.swap _ _ _));exact SR.cellB (pe:=pd) hm s7
theorem lu {C f:Str} {c:Addr} {o:Expr} {fo:EF} {pos:Pos} (T:qT X.K X.mg C c) (na:jU X.K c f) (ho:PE X o (tP X.K fo)) (hb:attributeBase o f X.env (eval o X.env)=eval o X.env:=by rfl):PE X (.Attribute o f pos) (tP X.K (dm C f fo)):=PE.imp (JW ho hb) λO H Q q=>by
 obtain⟨H0,Z0,U,pd,l,U',s,h,k⟩:=q;obtain⟨x,h1,h2⟩:=abd h;refine⟨H0,Z0,U,pd,x.1,x.2,s,h1,λv H1 s1=>?_⟩;split at h2
 . rename_i n en;split at h2
   . rename_i D ks ps em;split at h2
     . rename_i eD;subst eD;obtain⟨p,h3,h4⟩:=abe h2;cases h4;have s2:=s1.freeze;rw[en]at s2;obtain⟨a,c',dx,fs,rfl,cn,hH,hk,hl,_⟩:=s2.objAt em;have:=pP T.cn cn;subst this;obtain⟨u,h5,s6⟩:=hl f p h3;exact⟨a,c,dx,fs,u,rfl,hH,T.cl,na,h5,k u H1 (s6.sub ((Y4 _ _).cons_cons _))⟩
     . cases h2
   . cases h2
 . cases h2
def fD (C f:Str) (fo fv:EF):SF:=λU=>(fv U).bind λy=>(fo y.2).bind λx=>match x.1.pv with
 | .ptr n=>match x.2.mu[n]? with
  | some (some (.obj D ks ps))=>if D=C/\ks.length<1000 then some (.nx ⟨x.2.vs,x.2.mu.set n (some (cB C (oU f y.1.pv (ks.zip ps))))⟩) else none
  | _=>none
 | _=>none
theorem km {C f:Str} {c:Addr} {o value:Expr} {fo fv:EF} {pos' pos:Pos} (T:qT X.K X.mg C c) (na:jU X.K c f) (ho:PE X o (tP X.K fo)) (hv:PE X value (tP X.K fv)) (hs:swapsWith value (some (.Attribute o f pos')) pos.line X.env=pure false:=by rfl):PS X (.Assign [.Attribute o f pos'] value pos) (fO X.K (fD C f fo fv)):=PS.imp (Ue ho hv hs) λD O H q=>by
 obtain⟨H0,Z0,U,pd,fl,s,h,k⟩:=q;obtain⟨y,h1,h2⟩:=abd h;obtain⟨x,h3,h4⟩:=abd h2;refine⟨H0,Z0,U,pd,y.1,y.2,s,h1,λv H1 s1=>⟨H0,Z0,y.2,_,x.1,x.2,s1.freeze,h3,λw H2 s2=>?_⟩⟩;split at h4
 . rename_i n en;split at h4
   . rename_i D' ks ps em;split at h4
     . rename_i eD;obtain⟨eD,hz⟩:=eD;subst eD;cases h4;have s3:=s2.freeze;rw[en]at s3;obtain⟨a,rfl,s5⟩:=s3.cellO em;have s6:SR X.K H0 Z0 O H2 ⟨x.2.vs,x.2.mu.set n none⟩ ((v,.sh y.1.pv)::(.ref a,.own (.obj D' ks ps))::(.ref a,.sh (.ptr n))::pd):=s5.perm ((List.Perm.swap _ _ _).trans ((List.Perm.swap _ _ _).cons _));obtain⟨el,Z,hg,z,r,so⟩:=s6.sh;have so2:=so.perm bQ.symm;obtain⟨_,eb,⟨c',dx,fs,cn,hu,hk,hr⟩,_⟩:=so2.1 _ YK;cases eb;have:=pP T.cn cn;subst this;have rf:=zZ hk hr;have rp:=rf.put (f:=f) r;have hlen:fs.length=ks.length:=by rw[<-hk,YQ]
       refine⟨a,c,dx,fs,rfl,hu,T.cl,na,by omega,k O _ ?_⟩;obtain⟨z',s'⟩:=so2.write (o:=.ins c dx (iW f v fs)) (q:=cB D' (oU f y.1.pv (ks.zip ps))) z ⟨c,dx,iW f v fs,cn,bA,rp.keys,rp.vals⟩;have s7:SR X.K H0 Z0 O (upd H2 a (.ins c dx (iW f v fs))) ⟨x.2.vs,x.2.mu.set n none⟩ ((.ref a,.own (cB D' (oU f y.1.pv (ks.zip ps))))::(.ref a,.sh (.ptr n))::pd):=.mk el hg z' s';have hn:n<x.2.mu.length:=(YS.mp em).1;have s8:=s7.cellP (by show (x.2.mu.set n none)[n]?=_; rw[Y8 hn]);have e8:(x.2.mu.set n none).set n (some (cB D' (oU f y.1.pv (ks.zip ps))))=x.2.mu.set n (some (cB D' (oU f y.1.pv (ks.zip ps)))):=aae ..;have s9:SR X.K H0 Z0 O (upd H2 a (.ins c dx (iW f v fs))) ⟨x.2.vs,(x.2.mu.set n none).set n (some (cB D' (oU f y.1.pv (ks.zip ps))))⟩ pd:=s8;rw[e8]at s9;exact s9
     . cases h4
   . cases h4
 . cases h4
end
section
variable {P:Program} {w:World} {K:FG} {mg:Str->Option Value} {base:Heap}
def lF (K:FG) (c:Addr) (m qual:Str) (st:Stmt) (ps:List Str):Prop:=∃f fd,pU K m qual st f fd/\W.findIn K (.ref c) m=some (some (.ref f))/\W.isFn K (.ref f)=true/\Binds K fd ps []
def lG (P:Program) (w:World) (K:FG) (mg:Str->Option Value) (base:Heap) (c:Addr) (m:Str) (k:Nat) (ps:List Str) (sp:Sp):Prop:=∃f fd,kW P w K mg base o7 k f fd ps sp/\Meth K c m f/\Binds K fd ps []
theorem pU.okQ {x qual:Str} {st:Stmt} {N ps:List Str} {k:Nat} {g:GF} {f:Addr} {fd:FuncData} (F:pU K x qual st f fd) (S:aQ N ps (au st))
 (h:∀(cdv:Value) (A:Around) (outer:List PySem.Env) (s:Shared) (H:Hp) (E:XK),fH k (A.deeper (envOfC qual (au st) s.heap.objs.size f cdv))->
   ∃g':SF,(∀a mu,g a mu=cJ N.length g' a mu)/\eF (oF o7 P w K mg base N qual (au st) f cdv A outer s H E).nox (aR st) (fO K g')):kW P w K mg base o7 (k+1) f fd ps (bj K ps.length g):=by
 refine F.ok S (λvs H Q E q=>?_) (λcdv A outer s H vs Q E hr q=>?_)
 . obtain⟨Z,qs,mu,r,mu',e,_⟩:=q; exact e
 . obtain⟨g',eg,b⟩:=h cdv A outer s H E hr;obtain⟨Z,qs,mu,r,mu',e,hg,z,rl,c,hr',kk⟩:=q;rw[eg]at hr';obtain⟨fl,h1,h2⟩:=abd hr';refine⟨_,b,jA H (m7 Z.g mu),Z,_,[],fl,ul hg z rl c,h1,?_⟩;cases fl with
   | rt r' U'=>
    cases h2;intro v O' H' s';obtain⟨el,Z',hg',z',s''⟩:=s'.top;refine kk v H' ⟨Z',hg',z',s''.sub ?_⟩;exact(Zu _ _).cons_cons _
   | nx U'=>
    cases h2;intro O' H' s';obtain⟨el,Z',hg',z',s''⟩:=s';exact kk .non H' ⟨Z',hg',z',(s''.sub (Zu _ _)).consS (sY _)⟩
   | bk U'=>cases h2
   | ct U'=>cases h2
theorem lF.ok {c:Addr} {m qual:Str} {st:Stmt} {N ps:List Str} {k:Nat} {g:GF} (F:lF K c m qual st ps) (S:aQ N ps (au st))
 (h:∀(f:Addr) (cdv:Value) (A:Around) (outer:List PySem.Env) (s:Shared) (H:Hp) (E:XK),fH k (A.deeper (envOfC qual (au st) s.heap.objs.size f cdv))->
   ∃g':SF,(∀a mu,g a mu=cJ N.length g' a mu)/\eF (oF o7 P w K mg base N qual (au st) f cdv A outer s H E).nox (aR st) (fO K g')):lG P w K mg base c m (k+1) ps (bj K ps.length g):=by
 obtain⟨f,fd,F,h1,h2,hb⟩:=F;exact⟨f,fd,pU.okQ F S (h f),⟨h1,h2,F.kp⟩,hb⟩
end
section
variable {X:Cx}
def eV (C m:Str) (g:GF) (fo:EF) (a:AF):EF:=λU=>(fo U).bind λx=>match x.1.pv with
 | .ptr n=>match x.2.mu[n]? with
  | some (some (.obj D ks _))=>if D=C/\ks.contains m=false then (a x.2).bind λy=>(g (.ptr n::y.1.map Lc.pv) y.2.mu).map λr=>(r.1,⟨y.2.vs,r.2⟩) else none
  | _=>none
 | _=>none
theorem Bt {m:Str}:∀{fs:List (Str×V)},(fs.map (·.1)).contains m=false->fs.lookup m=none
 | [],_=>rfl
 | (g,x)::r,h=>by rw[Za,List.contains_cons,Bool.or_eq_false_iff]at h;rw[Zx,h.1];exact Bt h.2
theorem El {C m:Str} {c:Addr} {g:GF} {fo:EF} {a:AF} {n':Nat} {E:XK} (T:qT X.K X.mg C c) (hn:∀U ls U1,a U=some (ls,U1)->ls.length+1=n'):∀O H Q,tP X.K (eV C m g fo a) O H Q->Ig c m (bj X.K n' g) [] E (tP X.K fo) (gk X.K a) O H Q:=λO H Q q=>by
 obtain⟨H0,Z0,U,pd,l,U',s,h,k⟩:=q;obtain⟨x,h1,h2⟩:=abd h;refine⟨H0,Z0,U,pd,x.1,x.2,s,h1,λv H1 s1=>?_⟩;split at h2
 . rename_i n en;split at h2
   . rename_i D ks ps em;split at h2
     . rename_i eD;obtain⟨eD,hk⟩:=eD;subst eD;obtain⟨y,h3,h4⟩:=abd h2;obtain⟨r,h5,h6⟩:=abe h4;cases h6;have s2:=s1.freeze;rw[en]at s2;obtain⟨a',c',dx,fs,rfl,cn,hH,hks,_,_⟩:=s2.objAt em;have:=pP T.cn cn;subst this;refine⟨a',dx,fs,rfl,hH,Bt (by rw[hks]; exact hk),H0,Z0,x.2,_,y.1,y.2,s2,h3,λvs H2 e2 s3=>?_⟩;have s4:SR X.K H0 Z0 O H2 y.2 ((V.ref a'::vs).zip (Lc.sh (.ptr n)::y.1)++pd):=s3.perm (by rw[Z7,aad];exact ZL.symm)
       obtain⟨el,Z,hg,z,rl,sl'⟩:=s4.repl (by rw[YX,YX,e2]);refine⟨Z,.ptr n::y.1.map Lc.pv,y.2.mu,r.1,r.2,?_,hg,z.zh,?_,sl'.cells hg,h5,λv H' rr=>k v H' (SR.called el hg z sl' rr)⟩
       . rw[Zg,YX,e2]; exact hn _ _ _ h3
       . rw[Zg]; exact rl
     . cases h2
   . cases h2
 . cases h2
theorem pQ {C m:Str} {c:Addr} {k:Nat} {ps:List Str} {g:GF} {fo:EF} {e o:Expr} {es:List Expr} {a:AF} {apos pos:Pos} {pl:Sem Bool} (T:qT X.K X.mg C c) (M:lG X.prog X.w X.K X.mg X.base c m k ps (bj X.K ps.length g)) (hr:fH k X.A) (ho:PE X o (tP X.K fo)) (ha:PA X (e::es) (gk X.K a)) (hn:∀U ls U1,a U=some (ls,U1)->ls.length+1=ps.length)
 (hst:starEach (e::es) X.env=(false,eval e X.env)::starEach es X.env:=by rfl) (hpl:(backTo pos (starEach es X.env)).any (·.1)=false:=by rfl)
 (ht:eval (.Call (.Attribute o m apos) (e::es) [] pos) X.env=(do
   let ov <-eval o X.env
   standAt apos.atName
   let (f,first) <-holding [ov] (getMethod ov m pl)
   callWith pos f first (backTo pos (starEach (e::es) X.env)) (backToKw pos (keywordEach [] X.env))):=by rfl):PE X (.Call (.Attribute o m apos) (e::es) [] pos) (tP X.K (eV C m g fo a)):=by
 obtain⟨f,fd,F,hm,hb⟩:=M
 exact PE.imp (Rk (pl:=pl) (E:=E0) ho T.cl hm F hr hb .nil yx ha hst hpl ht) (El T hn)
theorem Vs {C m:Str} {c:Addr} {k:Nat} {ps:List Str} {g:GF} {fo:EF} {o:Expr} {apos pos:Pos} {pl:Sem Bool} (T:qT X.K X.mg C c) (M:lG X.prog X.w X.K X.mg X.base c m k ps (bj X.K ps.length g)) (hr:fH k X.A) (ho:PE X o (tP X.K fo)) (hn:1=ps.length)
 (ht:eval (.Call (.Attribute o m apos) [] [] pos) X.env=(do
   let ov <-eval o X.env
   standAt apos.atName
   let (f,first) <-holding [ov] (getMethod ov m pl)
   callWith pos f first (backTo pos (starEach [] X.env)) (backToKw pos (keywordEach [] X.env))):=by rfl):PE X (.Call (.Attribute o m apos) [] [] pos) (tP X.K (eV C m g fo ao)):=by
 obtain⟨f,fd,F,hm,hb⟩:=M
 refine PE.imp (Nb (pl:=pl) (E:=E0) ho T.cl hm F hr hb .nil yx ht) λO H Q q=>?_
 have:=El (X:=X) (E:=E0) (a:=ao) (n':=ps.length) T (λU ls U1 h=>by cases h; rw[<-hn]; rfl) O H Q q
 obtain⟨H0,Z0,U,pd,l,U',s,h,k⟩:=this
 refine⟨H0,Z0,U,pd,l,U',s,h,λv H1 s1=>?_⟩
 obtain⟨a,dx,fs,e1,e2,e3,H0',Z0',U2,pd2,ls,U3,s2,h2,k2⟩:=k v H1 s1
 cases h2
 exact⟨a,dx,fs,e1,e2,e3,k2 [] H1 rfl s2⟩
theorem SR.toCell {a:Addr} {p:PV} (s:SR K H0 Z0 O H U ((.ref a,.own p)::pd)):SR K H0 Z0 O H ⟨U.vs,U.mu++[some p]⟩ ((.ref a,.sh (.ptr U.mu.length))::pd):=by
 obtain⟨el,Z,hg,z,so⟩:=s.top;have lz:iM Z ⟨Z.z,Z.g++[a]⟩:=⟨cY.refl _,aaV _ _⟩;have so2:=so.step (Z':=⟨Z.z,Z.g++[a]⟩) (H':=H) lz λe he b hb=>⟨rfl,(jh so he hb).1⟩;refine .mk (Z:=⟨Z.z,Z.g++[a]⟩) el (by simp[hg]) ⟨z.zh,z.h0,z.z0.trans lz,z.new⟩ (Slots.consS ?_ ?_)
 . refine so2.perm ?_;have ec:cel (Z.g++[a]) (U.mu++[some p])=cel Z.g U.mu++[(some (.ref a),some (.own p))]:=by unfold cel;rw[Zo,Zo,aah (by simp[hg])];rfl
   unfold sl;show List.Perm (cel (Z.g++[a]) (U.mu++[some p])++_) _;rw[ec,Ze];exact ZL
 . unfold Rep;exact⟨a,rfl,by show (Z.g++[a])[U.mu.length]?=some a; rw[hg,Zb (YW _)]; simp⟩
def rN (C:Str) (g:GF) (a:AF):EF:=λU=>(a U).bind λy=>(g (.ptr y.2.mu.length::y.1.map Lc.pv) (y.2.mu++[some (.obj C [] [])])).bind λr=>match r.1 with
 | .sh .non=>some (.sh (.ptr y.2.mu.length),⟨y.2.vs,r.2⟩)
 | _=>none
def IW (P:Program) (w:World) (K:FG) (mg:Str->Option Value) (base:Heap) (c:Addr) (k:Nat) (ps:List Str) (sp:Sp):Prop:=∃f fd,kW P w K mg base o7 k f fd ps sp/\Mk K c f/\Binds K fd ps []
theorem Oq {C:Str} {c:Addr} {g:GF} {a:AF} {n':Nat} {E:XK} (T:qT X.K X.mg C c) (hn:∀U ls U1,a U=some (ls,U1)->ls.length+1=n'):∀O H Q,tP X.K (rN C g a) O H Q->Qj c (bj X.K n' g) [] E (gk X.K a) O H Q:=λO H Q q=>by
 obtain⟨H0,Z0,U,pd,l,U',s,h,k⟩:=q;obtain⟨y,h1,h2⟩:=abd h;obtain⟨r,h3,h4⟩:=abd h2;split at h4
 . rename_i er;cases h4;refine⟨H0,Z0,U,pd,y.1,y.2,s,h1,λvs H1 e1 s1 x dx hx hdx hne=>?_⟩;have s2:SR X.K H0 Z0 O (upd H1 dx (.own x)) y.2 (vs.zip y.1++pd):=s1.ext hdx;have s3:SR X.K H0 Z0 O (upd (upd H1 dx (.own x)) x (.ins c dx [])) y.2 ((.ref x,.own (.obj C [] []))::(vs.zip y.1++pd)):=s2.newO (by rw[bF hne.symm]; exact hx) λZ _ _=>⟨c,dx,[],T.cn,bA,rfl,.nil⟩;have s4:=s3.toCell;have s5:SR X.K H0 Z0 O (upd (upd H1 dx (.own x)) x (.ins c dx [])) ⟨y.2.vs,y.2.mu++[some (.obj C [] [])]⟩ ((.ref x,.sh (.ptr y.2.mu.length))::(.ref x,.sh (.ptr y.2.mu.length))::(vs.zip y.1++pd)):=s4.part λZ _ r=>r;have s6:SR X.K H0 Z0 O (upd (upd H1 dx (.own x)) x (.ins c dx [])) ⟨y.2.vs,y.2.mu++[some (.obj C [] [])]⟩ ((V.ref x::vs).zip (Lc.sh (.ptr y.2.mu.length)::y.1)++(.ref x,.sh (.ptr y.2.mu.length))::pd):=s5.perm (by rw[Z7,aad];exact List.perm_middle.cons _)
   obtain⟨el,Z,hg,z,rl,sl'⟩:=s6.repl (by rw[YX,YX,e1]);refine⟨Z,.ptr y.2.mu.length::y.1.map Lc.pv,y.2.mu++[some (.obj C [] [])],r.1,r.2,?_,hg,z.zh,?_,sl'.cells hg,h3,λv H' rr=>?_⟩
   . rw[Zg,YX,e1]; exact hn _ _ _ h1
   . rw[Zg]; exact rl
   . have s7:=SR.called el hg z sl' rr;rw[er]at s7;obtain⟨_,r0⟩:=s7.repH;exact⟨gA r0,k _ _ s7.pop⟩
 . cases h4
theorem QJ {C:Str} {c:Addr} {k:Nat} {ps:List Str} {g:GF} {e:Expr} {es:List Expr} {a:AF} {p pos:Pos} (T:qT X.K X.mg C c) (M:IW X.prog X.w X.K X.mg X.base c k ps (bj X.K ps.length g)) (hr:fH (k+1) X.A) (hg:Gl X C) (ha:PA X (e::es) (gk X.K a)) (hn:∀U ls U1,a U=some (ls,U1)->ls.length+1=ps.length)
 (hdb:(C==("__debug__" : Str))=false:=by decide) (he:starEach (e::es) X.env=(false,eval e X.env)::starEach es X.env:=by rfl) (hpl:(backTo pos (starEach es X.env)).any (·.1)=false:=by rfl):PE X (.Call (.Name C p) (e::es) [] pos) (tP X.K (rN C g a)):=by
 obtain⟨f,fd,F,hm,hb⟩:=M;exact PE.imp (Rm (E:=E0) hm F hr hg T.mgC hb .nil yx ha hdb he hpl) (Oq T hn)
end
theorem jZ {a:AF} {n m:Nat} (h:∀U ls U1,a U=some (ls,U1)->ls.length=n) (e:n+1=m:=by rfl):∀U ls U1,a U=some (ls,U1)->ls.length+1=m:=λU ls U1 g=>by rw[h _ _ _ g,e]
theorem QK {P:Program} {w:World} {mg:Str->Option Value} {base:Heap} {c:Addr} {k:Nat} {ps:List Str} {sp:Sp} (h:lG P w K mg base c "__init__" k ps sp) (mk:W.makesIn K c=true) (kc:W.keepIn K (.ref c)=true):IW P w K mg base c k ps sp:=by obtain⟨f,fd,F,m,b⟩:=h;exact⟨f,fd,F,⟨mk,m.at_,m.fn,kc⟩,b⟩
end PL
namespace L2
open PySem PySem.Spec PyProof.Rows
variable {acR:List (Addr×Obj)} {E:Value->Shared->Prop} {s:Shared} {A:Around} {w:World} {P:Program}
section
variable {X:Cx}
end
end L2
namespace PL
open PySem PySem.Spec PyProof.Rows L2
variable {K:FG} {H0 H:Hp} {Z0:ZG} {O:L2.St} {U:Ev} {pd:Pd}
section
variable {X:Cx}
end
end PL
namespace L2
open PySem PySem.Spec PyProof.Rows
variable {acR:List (Addr×Obj)} {E:Value->Shared->Prop} {s:Shared} {A:Around} {w:World} {P:Program}
section
variable {X:Cx}
def pk {α:Type} (xs:List α) (lo hi st:Option Int):List α:=
 (sliceRange (sliceBounds lo hi st xs.length).1 (sliceBounds lo hi st xs.length).2.1 (sliceBounds lo hi st xs.length).2.2).filterMap λi=>xs[i]?
end
end L2
namespace PL
open PySem PySem.Spec PyProof.Rows L2
variable {K:FG} {H0 H:Hp} {Z0:ZG} {O:L2.St} {U:Ev} {pd:Pd}
section
variable {X:Cx}
theorem SR.lstAt {v:V} {n:Nat} {ps:List PV} (s:SR K H0 Z0 O H U ((v,.sh (.ptr n))::pd)) (hm:U.mu[n]?=some (some (.lst ps))):
 ∃a vs,v=.ref a/\H a=some (.lst vs)/\vs.length=ps.length/\∀(i:Nat) p,ps[i]?=some p->∃u,vs[i]?=some u/\SR K H0 Z0 O H U ((u,.sh p)::(v,.sh (.ptr n))::pd):=by
 have sdup:SR K H0 Z0 O H U ((v,.sh (.ptr n))::(v,.sh (.ptr n))::pd):=s.part λZ _ r=>r;obtain⟨a,rfl,s5⟩:=sdup.cellO hm;obtain⟨el,Z,hg,z,so⟩:=s5.top;obtain⟨_,ea,⟨vs,hu,hr⟩,_⟩:=so.1 _ YK;cases ea;refine⟨a,vs,rfl,hu,hr.length,λi p hp=>?_⟩;obtain⟨u,h1,h2⟩:=hr.get hp;refine⟨u,h1,?_⟩;have s6:SR K H0 Z0 O H ⟨U.vs,U.mu.set n none⟩ ((u,.sh p)::(.ref a,.own (.lst ps))::(.ref a,.sh (.ptr n))::(.ref a,.sh (.ptr n))::pd):=.mk (Z:=Z) el hg z ((so.perm bQ).consS h2);have s7:SR K H0 Z0 O H ⟨U.vs,U.mu.set n none⟩ ((.ref a,.own (.lst ps))::(.ref a,.sh (.ptr n))::(u,.sh p)::(.ref a,.sh (.ptr n))::pd):=s6.perm (((List.Perm.swap _ _ _).cons _).trans (List.Perm.swap _ _ _));exact SR.cellB (pe:=pd) hm s7
end
def bK (mu:Mu):Nat->PV->PV
 | 0,p=>p
 | k+1,.ptr n=>match mu[n]? with
  | some (some p)=>bK mu k p
  | _=>.ptr n
 | k+1,.tup ps=>.tup (ps.map (bK mu k))
 | k+1,.lst ps=>.lst (ps.map (bK mu k))
 | k+1,.dk ks ps=>.dk ks (ps.map (bK mu k))
 | _+1,p=>p
theorem qU {Z:ZG} {f:PV->PV} (hf:∀p x,Rep K Z p x->Rep K Z (f p) x):∀{ps:List PV} {vs:List V},aF K Z ps vs->aF K Z (ps.map f) vs
 | [],vs,h=>h
 | p::ps,vs,h=>by obtain⟨v,r,rfl,h1,h2⟩:=h.inv;exact aF.cons (hf p v h1) (qU hf h2)
theorem nY {Z:ZG} (so:Slots K H0 Z H (sl Z.g O U pd)) (lz:iM Z ⟨H,Z.g⟩):∀(k:Nat) (p:PV) (x:V),Rep K ⟨H,Z.g⟩ p x->Rep K ⟨H,Z.g⟩ (bK U.mu k p) x
 | 0,p,x,r=>r
 | k+1,p,x,r=>by
  cases p with
  | ptr n=>
   show Rep K ⟨H,Z.g⟩ (match U.mu[n]? with | some (some p)=>bK U.mu k p | _=>.ptr n) x;split
   . rename_i q hq;unfold Rep at r;obtain⟨a,rfl,ha⟩:=r;have hc:(some (V.ref a),some (Lc.own q))∈cel Z.g U.mu:=Z9 (zip_get (i:=n) (by rw[Zd,ha]; rfl) (by rw[Zd,hq]; rfl));obtain⟨b,e1,e2,_,_⟩:=so.1 _ (ZV _ hc);cases e1;exact nY so lz k q _ (e2.rep lz rfl)
   . exact r
  | tup ps=>
   show Rep K ⟨H,Z.g⟩ (.tup (ps.map (bK U.mu k))) x;unfold Rep at r ⊢;obtain⟨a,vs,e,h1,h2⟩:=r;exact⟨a,vs,e,h1,qU (nY so lz k) h2⟩
  | lst ps=>
   show Rep K ⟨H,Z.g⟩ (.lst (ps.map (bK U.mu k))) x;unfold Rep at r ⊢;obtain⟨a,vs,e,h1,h2⟩:=r;exact⟨a,vs,e,h1,qU (nY so lz k) h2⟩
  | dk ks ps=>
   show Rep K ⟨H,Z.g⟩ (.dk ks (ps.map (bK U.mu k))) x;unfold Rep at r ⊢;obtain⟨a,vs,e,h1,h3,h2⟩:=r;exact⟨a,vs,e,h1,h3,qU (nY so lz k) h2⟩
  | _=>exact r
def peekD (mu:Mu):Option Lc->Option Lc
 | some l=>some (.sh (bK mu 40 l.pv))
 | none=>none
def Ev.peekD (U:Ev):Ev:=⟨U.vs.map (PL.peekD U.mu),U.mu.map λ_=>none⟩
theorem SR.lookD (s:SR K H0 Z0 O H U pd):
 ∃Zt,SR K H Zt O H U.peekD []/\(∀H' v r U1,SR K H Zt O H' U1 [(v,r)]->rK r=true->SR K H0 Z0 O H' U ((v,r)::pd))/\∀H' U1,SR K H Zt O H' U1 []->SR K H0 Z0 O H' U pd:=by
 obtain⟨Z,⟨el,hg,lz,so⟩,b1,b2⟩:=s.lookB;refine⟨_,SR.peeked (pk:=peekD U.mu) el hg λv o he=>?_,b1,b2⟩;have q:=so.1 _ (Zn _ (ZV _ he))
 match o,q with
 | none,_=>exact .inl rfl
 | some (.sh p),⟨x,e1,e2⟩=>exact .inr ⟨x,_,rfl,e1,nY so lz 40 _ _ (e2.mono lz)⟩
 | some (.own p),⟨a,e1,e2,_,_⟩=>exact .inr ⟨.ref a,_,rfl,e1,nY so lz 40 _ _ (e2.rep lz rfl)⟩
section
variable {X:Cx}
def j4 (f:EF):EF:=λU=>(f U.peekD).bind λx=>if rK x.1=true then some (x.1,U) else none
def nA (f:TF):TF:=λU=>(f U.peekD).map λx=>(x.1,U)
theorem yM {e:Expr} {f:EF} (h:PE X e (tP X.K f)):PE X e (tP X.K (j4 f)):=PE.imp h λO H Q q=>by
 obtain⟨H0,Z0,U,pd,r,U',s,h,k⟩:=q;obtain⟨x,h1,h2⟩:=abd h;obtain⟨Zt,s1,b1,_⟩:=s.lookD;split at h2
 . rename_i hf;cases h2;exact⟨H,Zt,U.peekD,[],x.1,x.2,s1,h1,λv H' s2=>k v H' (b1 H' v x.1 x.2 s2 hf)⟩
 . cases h2
theorem Aa {e:Expr} {f:TF} (h:PT X e (lA X.K f)):PT X e (lA X.K (nA f)):=PT.imp h λO H Q q=>by obtain⟨H0,Z0,U,pd,r,U',s,h,k⟩:=q;obtain⟨x,h1,h2⟩:=abe h;cases h2;obtain⟨Zt,s1,_,b2⟩:=s.lookD;exact⟨H,Zt,U.peekD,[],x.1,x.2,s1,h1,λH' s2=>k H' (b2 H' x.2 s2)⟩
theorem xW {f:EF} {l:Lc} {U U1:Ev} (h:f U.peekD=some (l,U1)) (hf:rK l=true):j4 f U=some (l,U):=by unfold j4;rw[h,YJ,aa5 hf]
def wC (fo:EF):EF:=λU=>(fo U).bind λo=>match o.1.pv with
 | .ptr n=>match o.2.mu[n]? with
  | some (some (.lst ws))=>(ws[ws.length-1]?).map λp=>(.sh p,⟨o.2.vs,o.2.mu.set n (some (.lst ws.dropLast))⟩)
  | _=>none
 | _=>none
theorem Xb {o:Expr} {fo:EF} {apos cpos:Pos} (h:PE X (.Call (.Attribute o "pop" apos) [] [] cpos) (Uq X.K "list" Ut (tP X.K fo))):PE X (.Call (.Attribute o "pop" apos) [] [] cpos) (tP X.K (wC fo)):=PE.imp h λO H Q q=>by
 obtain⟨H0,Z0,U,pd,r,U',s,h,k⟩:=q;obtain⟨o',h1,h2⟩:=abd h;refine⟨H0,Z0,U,pd,o'.1,o'.2,s,h1,λv H1 s1=>?_⟩;split at h2
 . rename_i n en;split at h2
   . rename_i ws em;obtain⟨p,h3,h4⟩:=abe h2;cases h4;have s2:=s1.freeze;rw[en]at s2;obtain⟨a,rfl,s5⟩:=s2.cellO em;obtain⟨_,Z,_,z,so⟩:=s5.top;obtain⟨_,ea,⟨us,hu,_⟩,_⟩:=so.1 _ YK;cases ea;obtain⟨us2,y,hu2,hy,s6⟩:=s5.popO h3;have hn:n<o'.2.mu.length:=(YS.mp em).1;have s7:=(s6.perm (pd':=(.ref a,.own (.lst ws.dropLast))::(.ref a,.sh (.ptr n))::(y,.sh p)::pd) ((List.Perm.swap _ _ _).cons _)).cellP (by show (o'.2.mu.set n none)[n]?=_; rw[Y8 hn]);refine⟨.inl ⟨rfl,us,bI.of hu⟩,a,us2,y,rfl,rfl,hu2,hy,k _ _ ?_⟩;have e8:(o'.2.mu.set n none).set n (some (.lst ws.dropLast))=o'.2.mu.set n (some (.lst ws.dropLast)):=aae ..;rw[show (⟨o'.2.vs,o'.2.mu.set n (some (.lst ws.dropLast))⟩:Ev)=⟨o'.2.vs,(o'.2.mu.set n none).set n (some (.lst ws.dropLast))⟩ by rw[e8]];exact s7
   . cases h2
 . cases h2
theorem Ot {H0:Hp} {a:Addr} {ps:List PV}:nT K H0 Z0 ((.ref a,.sh (.lst ps))::pd) (UL K a ps.length) ps.reverse:=by
 intro O H U i s;obtain⟨Z,z,r⟩:=s.rep;unfold Rep at r;obtain⟨b,vs,e,h1,h2⟩:=r;cases e;have hq:=bI.same z h1;refine⟨λx hx=>?_,λhl=>⟨by rw[hl,aaQ],vs,hq,h2.length⟩⟩;have hi:i<ps.length:=by
  have:=(YS.mp hx).1
  rwa [aaQ]at this
 have hx':ps[ps.length-1-i]?=some x:=by rw[<-List.getElem?_reverse hi]; exact hx
 refine⟨⟨hi,vs,hq,h2.length⟩,λv' H' y=>?_⟩;obtain⟨e',y⟩:=y;subst e';refine s.part λZ' z' r'=>?_;unfold Rep at r';obtain⟨b',vs',e',h1',h2'⟩:=r';cases e';obtain⟨p',hp',rp'⟩:=h2'.getV (y vs' (bI.same z' h1'));rw[hx']at hp';cases hp';exact rp'
def Dd (f:EF):IF:=λU=>(f U).bind λx=>match x.1.pv with
 | .lst ps=>some (ps.reverse,x.2)
 | _=>none
theorem Vt {tg a:Expr} {f:EF} {p pos:Pos} (hg:Gl X "reversed") (hm:X.mg "reversed" = none) (ha:PA X [a] (gk X.K (aa f ao))) (hs:starEach [a] X.env=[(false,eval a X.env)]:=by rfl):PI X tg (.Call (.Name "reversed" p) [a] [] pos) (yH X.K (Dd f)):=PI.imp (UT hg hm ha hs) λO H R q=>by
 obtain⟨H0,Z0,U,pd,xs,U',s,h,k⟩:=q;obtain⟨x,h1,h2⟩:=abd h;refine⟨H0,Z0,U,pd,[x.1],x.2,s,?_,λvs H1 e1 s1=>?_⟩
 . unfold aa ao;rw[h1];rfl
 . obtain⟨v,rfl⟩:=m8 e1;have s2:SR X.K H0 Z0 O H1 x.2 ((v,.sh x.1.pv)::pd):=SR.freeze s1;cases e:x.1.pv with
   | lst ps=>
    rw[e]at h2 s2;cases h2;obtain⟨Z,z,r⟩:=s2.rep;unfold Rep at r;obtain⟨b,us,rfl,h1',h2'⟩:=r;refine⟨b,us,rfl,bI.same z h1',?_⟩;rw[h2'.length];exact k _ _ _ s2 Ot (Y4 _ _)
   | _=>rw[e]at h2; cases h2
def isAny (p:PV):List String->Option Bool
 | []=>(QF p).map λ_=>false
 | C::r=>match pq p C with
  | some true=>some true
  | some false=>isAny p r
  | none=>none
theorem lX {p:PV} {T:String} (h1:QF p=some T):∀{Cs:List String} {b:Bool},isAny p Cs=some b->W.kitAny K (.type T) (Cs.map Value.type)=some b
 | [],b,h=>by unfold isAny at h;rw[h1]at h;exact h
 | C::r,b,h=>by
  unfold isAny at h;show (match W.kitOne K (.type T) (.type C) with | some true=>some true | some false=>W.kitAny K (.type T) (r.map Value.type) | none=>none)=some b;cases e:pq p C with
  | none=>rw[e]at h; cases h
  | some c=>
   rw[e]at h;rw[nU h1 e];cases c with
   | true=>exact h
   | false=>exact lX h1 h
def Vu (K:FG):List V->Hp->VK->Prop:=λxs H Q=>∃x t Cs g p b,xs=[x,.ref t]/\H t=some (.tup (Cs.map V.ty))/\Rep K ⟨H,g⟩ p x/\isAny p Cs=some b/\Q (.bl b) H
theorem G6:∀{Cs:List String} {its:List Value},Vals (Cs.map V.ty) its->its=Cs.map Value.type
 | [],its,h=>by cases h; rfl
 | C::r,its,h=>by
  cases h with
  | cons a b=>cases a; rw[G6 b]; rfl
theorem Em:mF X (.builtin "isinstance") (Vu X.K):=by
 intro acR s O H xs us Q I r h;obtain⟨x,t,Cs,g,p,b,rfl,ht,rp,e,q⟩:=h;obtain⟨u,w',rfl,ru,rw'⟩:=vals2 r;cases rw';have fin:∀tk,EP X acR O Q (.bool b) { s with toks:=tk }:=λtk=>⟨.bl b,H,I.tok tk,rfl,q⟩;obtain⟨its,rv,⟨o,hp,hc,n,hd⟩,_⟩:=I.tuple (bV.of ht);have ei:=G6 rv;subst ei;obtain⟨oc,od,oD,os⟩:=o;have hc':oc=.type "tuple" := hc;have hd':oD=.seq (Cs.map Value.type).toArray n:=hd;subst hc' hd';cases p with
 | non=>have:=gA rp; subst this; cases ru; exact aaM W.kitx_none I.kIn trivial hp (lX rfl e) (by intro z; cases z) fin
 | bl c=>have:=dF rp; subst this; cases ru; exact aaM W.kitx_bool I.kIn trivial hp (lX rfl e) (by intro z; cases z) fin
 | int i=>have:=bG rp; subst this; obtain⟨t,rfl⟩:=ru; exact aaM W.kitx_int I.kIn trivial hp (lX rfl e) (by intro z; cases z) fin
 | str i=>have:=cR rp; subst this; obtain⟨t,rfl⟩:=ru; exact aaM W.kitx_str I.kIn trivial hp (lX rfl e) (by intro z; cases z) fin
 | tup ps=>
  obtain⟨a,vs,its,rfl,_,_,_,o,t1,t2,_⟩:=vo I rp ru;exact aaM (t:=.type "tuple") W.kitx_tuple I.kIn ⟨o,t1,t2⟩ hp (lX rfl e) (by intro z; cases z) fin
 | lst ps=>
  obtain⟨a,vs,its,rfl,_,_,_,o,t1,t2,_⟩:=vp I rp ru;exact aaM (t:=.type "list") W.kitx_list I.kIn ⟨o,t1,t2⟩ hp (lX rfl e) (by intro z; cases z) fin
 | _=>cases Cs<;>cases e
def Ou (Cs:List String) (f:EF):EF:=λU=>(f U).bind λx=>(isAny x.1.pv Cs).map λb=>(.sh (.bl b),x.2)
def Ov:List String->TA
 | []=>rZ
 | C::r=>mG (tC (.ty C)) (Ov r)
theorem En {Q:List V->Hp->Prop} {H:Hp}:∀{Cs:List String},Q (Cs.map V.ty) H->Ov Cs O H Q
 | [],h=>h
 | C::r,h=>En (Q:=λxs H2=>Q (V.ty C::xs) H2) (Cs:=r) h
theorem Yo {Cs:List String} {f:EF} {e c:Expr} {pp pos:Pos} (h:PE X (.Call (.Name "isinstance" pp) [e,c] [] pos) (uL (Vu X.K) (mG (tP X.K f) (mG (M9 (Ov Cs)) rZ)))) (hc:Cs.length<=1000:=by decide):
 PE X (.Call (.Name "isinstance" pp) [e,c] [] pos) (tP X.K (Ou Cs f)):=PE.imp h λO H Q q=>by
 obtain⟨H0,Z0,U,pd,r,U',s,h,k⟩:=q;obtain⟨x,h1,h2⟩:=abd h;obtain⟨b,h3,h4⟩:=abe h2;cases h4;refine⟨H0,Z0,U,pd,x.1,x.2,s,h1,λv H1 s1=>?_⟩;refine En (Cs:=Cs) ⟨by rw[YQ]; exact small (by omega),λt ht=>?_⟩;have s2:=s1.freeze;obtain⟨el,Z,hg,z,r1,so⟩:=s2.sh;obtain⟨z',lz,so'⟩:=(so.consS r1).newF z (a:=t) (o:=.tup (Cs.map V.ty)) ht;have s3:SR X.K H0 Z0 O (upd H1 t (.tup (Cs.map V.ty))) x.2 ((v,.sh x.1.pv)::pd):=.mk (Z:=Z.put t (.tup (Cs.map V.ty))) el hg z' so';obtain⟨g,r2⟩:=s3.repH;exact⟨v,t,Cs,g,_,b,rfl,bA,r2,h3,k _ _ (s3.pop.scal di)⟩
def Eo (f:EF) (fl fh:OF):EF:=λU=>(f U).bind λx=>(fl x.2).bind λy=>(fh y.2).bind λz=>match x.1.pv with
 | .tup ps=>if HT.sIx ps.length 0 y.1=0/\HT.sIx ps.length ps.length z.1=ps.length then none else some (.sh (.tup (lR ps y.1 z.1)),z.2)
 | _=>none
theorem R8 {e:Expr} {lo hi:Option Expr} {p2 pos:Pos} {f:EF} {fl fh:OF} (he:PE X e (tP X.K f)) (hl:PO X lo (GR X.K fl)) (hu:PO X hi (GR X.K fh)):PE X (.Subscript e (.Slice lo hi none p2) pos) (tP X.K (Eo f fl fh)):=PE.imp (Dp Uh he hl hu) λO H Q q=>by
 obtain⟨H0,Z0,U,pd,r,U',s,h,k⟩:=q;obtain⟨x,h1,h2⟩:=abd h;obtain⟨y,h3,h4⟩:=abd h2;obtain⟨z,h5,h6⟩:=abd h4;refine⟨H0,Z0,U,pd,x.1,x.2,s,h1,λv H1 s1=>⟨H0,Z0,x.2,_,y.1,y.2,s1.freeze,h3,λH2 s2=>⟨H0,Z0,y.2,_,z.1,z.2,s2,h5,λH3 s3=>?_⟩⟩⟩;cases e:x.1.pv with
 | tup ps=>
  rw[e]at h6 s3;have h6:(if HT.sIx ps.length 0 y.1=0/\HT.sIx ps.length ps.length z.1=ps.length then none else some (Lc.sh (.tup (lR ps y.1 z.1)),z.2))=some (r,U'):=h6;split at h6
  . cases h6
  . rename_i hw;cases h6;obtain⟨el,Z,hg,zz,r1,s4⟩:=s3.sh;unfold Rep at r1;obtain⟨a,vs,rfl,g1,g2⟩:=r1;refine⟨a,vs,rfl,bV.same zz.zh g1,by rw[g2.length]; exact hw,λp hp=>k _ _ ?_⟩;obtain⟨z',lz,s'⟩:=s4.newF zz (a:=p) (o:=.tup (mX vs y.1 z.1)) hp;refine .mk (Z:=Z.put p (.tup (mX vs y.1 z.1))) el hg z' (s'.consS ?_);unfold Rep;exact⟨p,_,rfl,bV.of bA,g2.cut.mono lz⟩
 | _=>rw[e]at h6; cases h6
def uN:Bool->List PV->PV
 | true,ps=>.lst ps
 | false,ps=>.tup ps
theorem yN {Z:ZG} {k:Bool} {ps:List PV} {v:V} (r:Rep K Z (uN k ps) v):∃a vs,v=.ref a/\oG k K Z.z a vs/\aF K Z ps vs:=by
 cases k
 . unfold uN Rep at r; exact r
 . unfold uN Rep at r; exact r
theorem oG.same {Z Z':Hp} {k:Bool} {a:Addr} {vs:List V} (s:cY Z Z') (h:oG k K Z a vs):oG k K Z' a vs:=by
 cases k
 . exact bV.same s h
 . exact bI.same s h
theorem K7 {H0:Hp} {k:Bool} {a b:Addr} {ps qs:List PV}:nT K H0 Z0 ((.ref a,.sh (uN k ps))::(.ref b,.sh (uN k qs))::pd) (Nx k K a b) (mY ps qs):=by
 intro O H U i s;obtain⟨el,Z,hg,z,rl,so⟩:=SR.repl (vs:=[.ref a,.ref b]) (ls:=[.sh (uN k ps),.sh (uN k qs)]) (pd:=pd) s rfl;obtain⟨_,_,ev,r,rl⟩:=rl.inv;cases ev;obtain⟨_,_,ev,r',_⟩:=rl.inv;cases ev;have r0:Rep K Z (uN k ps) (.ref a):=r;have r0':Rep K Z (uN k qs) (.ref b):=r';obtain⟨a',vs,e,h1,h2⟩:=yN r0;obtain⟨b',ws,e',h1',h2'⟩:=yN r0';cases e;cases e';have hq:=oG.same z.zh h1;have hr:=oG.same z.zh h1';refine⟨λx hx=>?_,λhl=>⟨vs,ws,hq,hr,?_⟩⟩
 . obtain⟨p,q,hp,hq',rfl⟩:=Om hx;obtain⟨v,hv,rv⟩:=h2.get hp;obtain⟨u,hu,ru⟩:=h2'.get hq';refine⟨⟨vs,ws,v,u,hq,hr,hv,hu⟩,λv' H' y=>?_⟩;obtain⟨T,y1,y2,hT,rfl,rfl,hy1,hy2⟩:=y;have e1:=hy1 vs hq;rw[hv]at e1;cases e1;have e2:=hy2 ws hr;rw[hu]at e2;cases e2;obtain⟨z',lz,so'⟩:=((so.consS r0').consS r0).newF z (a:=T) (o:=.tup [v,u]) hT;refine .mk (Z:=Z.put T (.tup [v,u])) el hg z' (Slots.perm (Slots.consS so' ?_) ((bQ.trans (bQ.cons _)).cons _));unfold Rep;exact⟨T,[v,u],rfl,.inl (.inl (by show upd Z.z T _ T=_; rw[bA])),aF.cons (rv.mono lz) (aF.cons (ru.mono lz) .nil)⟩
 . rw[Oo]at hl;rw[h2.length,h2'.length];omega
def tE (f g:EF):IF:=λU=>(f U).bind λx=>(g x.2).bind λy=>match x.1.pv,y.1.pv with
 | .lst ps,.lst qs=>some (mY ps qs,y.2)
 | .tup ps,.tup qs=>some (mY ps qs,y.2)
 | _,_=>none
theorem R9 {α:Type} {p q:PV} {w r:α} {zs:List PV} (h:(match p,q with
 | .lst ps,.lst qs=>some (mY ps qs,w)
 | .tup ps,.tup qs=>some (mY ps qs,w)
 | _,_=>none)=some (zs,r)):∃k ps qs,p=uN k ps/\q=uN k qs/\zs=mY ps qs/\w=r:=by
 split at h
 . rename_i ps qs; cases h; exact⟨true,ps,qs,rfl,rfl,rfl,rfl⟩
 . rename_i ps qs; cases h; exact⟨false,ps,qs,rfl,rfl,rfl,rfl⟩
 . cases h
theorem Ab {a b:Expr} {f g:EF} {p pos:Pos} {elts:List Expr} {x1} {tpos:Pos} (hg:Gl X "zip") (hm:X.mg "zip" = none) (ha:PA X [a,b] (gk X.K (aa f (aa g ao)))) (hs:starEach [a,b] X.env=(false,eval a X.env)::starEach [b] X.env:=by rfl) (hs2:(backTo pos (starEach [b] X.env)).any (·.1)=false:=by rfl):PI X (.Tuple elts x1 tpos) (.Call (.Name "zip" p) [a,b] [] pos) (yH X.K (tE f g)):=PI.imp (RC hg hm ha hs hs2) λO H R q=>by
 obtain⟨H0,Z0,U,pd,xs,U',s,h,k⟩:=q;obtain⟨x,h1,h2⟩:=abd h;obtain⟨y,h3,h4⟩:=abd h2;refine⟨H0,Z0,U,pd,[x.1,y.1],y.2,s,?_,λvs H1 e1 s1=>?_⟩
 . unfold aa ao;rw[h1];simp only[YJ,h3,aag]
 . obtain⟨v,u,rfl⟩:=ln2 e1;have s2:SR X.K H0 Z0 O H1 y.2 ((v,.sh x.1.pv)::(u,.sh y.1.pv)::pd):=SR.freezeAll (vs:=[v,u]) (ls:=[x.1,y.1]) s1;obtain⟨kk,ps,qs,e,e',rfl,rfl⟩:=R9 h4;rw[e,e']at s2;obtain⟨Z,z,r,r'⟩:=s2.rep2;obtain⟨b',us,rfl,g1',g2'⟩:=yN r;obtain⟨a',vs',rfl,g1,g2⟩:=yN r';exact⟨kk,a',b',rfl,⟨_,oG.same z g1⟩,⟨_,oG.same z g1'⟩,k _ _ _ s2 K7 ((Y4 _ _).cons _)⟩
def qW (g:GF) (a:AF):EF:=λU=>(a U).bind λy=>(g ((y.1.map Lc.pv).map (bK y.2.mu 40)) (y.2.mu.map λ_=>none)).bind λr=>if rK r.1=true then some (r.1,y.2) else none
theorem yO {Z:ZG} {L:Sl} (h:∀e∈L,e.2=none):Slots K H0 Z H L:=by
 refine⟨λe he=>?_,?_⟩
 . obtain⟨v,l⟩:=e;have:l=none:=h _ he;subst this;trivial
 . have:L.filterMap lN=[]:=by
    rw[List.filterMap_eq_nil_iff];intro e he;obtain⟨v,l⟩:=e;have:l=none:=h _ he;subst this;cases v with
    | none=>rfl
    | some x=>cases x<;>rfl
   rw[this];exact aaD
theorem Ep {g:List Addr} {mu:Mu}:∀e∈cel g (mu.map λ_=>none),e.2=none:=λe he=>by obtain⟨v,l⟩:=e;obtain⟨_,h2⟩:=Z4 he;obtain⟨o,ho,e2⟩:=Zk.mp h2;obtain⟨o',_,e3⟩:=Zk.mp ho;subst e3;exact e2.symm
theorem K8 {n:Nat} {g:GF} {a:AF} {E:XK} (hn:∀U ls U1,a U=some (ls,U1)->ls.length=n):∀O H Q,tP X.K (qW g a) O H Q->yr (bj X.K n g) [] E (gk X.K a) O H Q:=λO H Q q=>by
 obtain⟨H0,Z0,U,pd,r,U',s,h,k⟩:=q;obtain⟨y,h1,h2⟩:=abd h;obtain⟨⟨r1,mu'⟩,h3,h4⟩:=abd h2;split at h4
 . rename_i hf;cases h4;refine⟨H0,Z0,U,pd,y.1,y.2,s,h1,λvs H2 e2 s2=>?_⟩;have s3:=s2.freezeAll;obtain⟨Z,⟨el,hg,lz,so⟩,b1,_⟩:=s3.lookB;have hm:(y.1.map λl=>Lc.sh l.pv)=(y.1.map Lc.pv).map λp=>Lc.sh p:=by rw[ZZ]; rfl
   have so0:=so;rw[hm]at so0;have rl:aF X.K Z (y.1.map Lc.pv) vs:=Slots.repl (by simpa using e2) (so0.perm DR.symm);have rl2:=qU (nY so lz 40) (rl.mono lz);have z1:jW H2 ⟨H2,Z.g⟩ ⟨H2,Z.g⟩ H2:=⟨cY.refl _,cY.refl _,iM.refl _,λb o e=>.inl e⟩;have hs:Slots X.K H2 ⟨H2,Z.g⟩ H2 (sl Z.g O ⟨y.2.vs.map λ_=>none,y.2.mu.map λ_=>none⟩ []):=yO λe he=>by
    rcases ZF.mp he with he | he
    . exact Ep e he
    . rw[aaC,Zg]at he;obtain⟨v,l⟩:=e;obtain⟨o,_,e3⟩:=Zk.mp (Z4 he).2;exact e3.symm
   refine⟨⟨H2,Z.g⟩,(y.1.map Lc.pv).map (bK y.2.mu 40),y.2.mu.map λ_=>none,r1,mu',?_,by simpa using hg,cY.refl _,?_,yO Ep,h3,λv H' rr=>k v H' ?_⟩
   . rw[Zg,e2]; exact hn _ _ _ h1
   . rw[Zg]; exact rl2
   . have s4:=SR.called (U:=⟨y.2.vs.map λ_=>none,y.2.mu.map λ_=>none⟩) (Z:=⟨H2,Z.g⟩) (by simpa using el) (by simpa using hg) z1 hs rr;exact(b1 H' v r1 _ s4 hf).sub ((aao _ _).cons_cons _)
 . cases h4
theorem Vv {x:Str} {k:Nat} {ps:List Str} {g:GF} {e:Expr} {es:List Expr} {a:AF} {p pos:Pos} (D:aZ X.prog X.w X.K X.mg X.base x k ps (bj X.K ps.length g)) (hr:fH k X.A) (hg:Gl X x)
 (ha:PA X (e::es) (gk X.K a)) (hn:∀U ls U1,a U=some (ls,U1)->ls.length=ps.length) (hdb:(x==("__debug__" : Str))=false:=by decide) (he:starEach (e::es) X.env=(false,eval e X.env)::starEach es X.env:=by rfl) (hpl:(backTo pos (starEach es X.env)).any (·.1)=false:=by rfl):PE X (.Call (.Name x p) (e::es) [] pos) (tP X.K (qW g a)):=by
 obtain⟨f,fd,F,hm,hk,hb⟩:=D;exact PE.imp (zJ (E:=E0) F hr hg hm hk hb .nil yx ha hdb he hpl) (K8 hn)
theorem Ow {G:GF} {a:AF} {U U1:Ev} {ls:List Lc} {ps:List PV} {r:Lc} {mu:Mu} (h:a U=some (ls,U1)) (hp:(ls.map Lc.pv).map (bK U1.mu 40)=ps) (h2:G ps (U1.mu.map λ_=>none)=some (r,mu)) (hf:rK r=true):qW G a U=some (r,U1):=by unfold qW;rw[h,YJ,hp,h2,YJ,aa5 hf]
end
class HK where
 hk:List dg->Int
def okP:PV->Option dg
 | .non=>some none
 | .int i=>some (some (.inl i))
 | .str x=>some (some (.inr x))
 | _=>none
def qX:List PV->Option (List dg)
 | []=>some []
 | p::ps=>(okP p).bind λk=>(qX ps).map (k::·)
theorem Vw {Z:ZG} {p:PV} {v:V} {k:dg} (h:okP p=some k) (r:Rep K Z p v):v=rH k:=by
 cases p with
 | non=>cases h; exact gA r
 | int i=>cases h; exact bG r
 | str x=>cases h; exact cR r
 | _=>cases h
theorem uB {Z:ZG}:∀{ps:List PV} {vs:List V} {ks:List dg},qX ps=some ks->aF K Z ps vs->vs=ks.map rH
 | [],vs,ks,h,r=>by cases h;exact r.inv0
 | p::ps,vs,ks,h,r=>by obtain⟨v,r',rfl,h1,h2⟩:=r.inv;obtain⟨k,g1,g2⟩:=abd h;obtain⟨t,g3,g4⟩:=abe g2;cases g4;rw[Vw g1 h1,uB g3 h2];rfl
abbrev YB:=List (List dg×PV)
def mZ:YB->List dg->Option PV
 | [],_=>none
 | kv::r,k=>if kv.1=k then some kv.2 else mZ r k
theorem Ja {x:List dg×Addr×V} {xs:XD} {k:List dg}:jN (x::xs) k=if x.1=k then some x.2.2 else jN xs k:=by
 unfold jN;by_cases e:x.1=k
 . rw[aaI (by simpa using e),aa5 e]; rfl
 . rw[aaJ (by simpa using e),aa6 e]
theorem xX {Z:ZG} {k:List dg}:∀{xs:XD} {ps:List PV},aF K Z ps (xs.map (·.2.2))->(∀p,mZ ((xs.map (·.1)).zip ps) k=some p->∃v,jN xs k=some v/\Rep K Z p v)/\(mZ ((xs.map (·.1)).zip ps) k=none->jN xs k=none)
 | [],ps,h=>⟨λp e=>(by cases e),λ_=>rfl⟩
 | x::xs,[],h=>by have:=h.inv0; cases this
 | x::xs,p::ps,h=>by
  obtain⟨v,r,e,h1,h2⟩:=h.inv;rw[Za]at e;injection e with e1 e2;subst e1 e2;have ih:=xX (k:=k) h2;rw[Ja];show (∀q,(if x.1=k then some p else mZ ((xs.map (·.1)).zip ps) k)=some q->_)/\((if x.1=k then some p else mZ ((xs.map (·.1)).zip ps) k)=none->_);by_cases e:x.1=k
  . rw[aa5 e,aa5 e];exact⟨λq hq=>by cases hq; exact⟨_,rfl,h1⟩,λhq=>by cases hq⟩
  . rw[aa6 e,aa6 e];exact ih
theorem SR.setX {v kb:V} {p:PV} {kp:List PV} {a:Addr} {hk:List dg->Int} {ks:List (List dg)} {ps:List PV} {k:List dg} (s:SR K H0 Z0 O H U ((v,.sh p)::(kb,.sh (.tup kp))::(.ref a,.own (.dx hk ks ps))::pd)) (ek:qX kp=some k):
 ∃b xs,kb=.ref b/\H a=some (.ext (sW hk a xs))/\(∀x∈xs,bV K H x.2.1 (x.1.map rH))/\bV K H b (k.map rH)/\xs.length=ks.length/\
  (mZ (ks.zip ps) k=none->jN xs k=none/\SR K H0 Z0 O (upd H a (.ext (sW hk a (xs++[(k,b,v)])))) U ((.ref a,.own (.dx hk (ks++[k]) (ps++[p])))::(v,.sh p)::pd))/\
  (∀q,mZ (ks.zip ps) k=some q->∃u,jN xs k=some u/\SR K H0 Z0 O H U ((u,.sh q)::(.ref a,.own (.dx hk ks ps))::pd)):=by
 obtain⟨el,Z,hg,z,r,so⟩:=s.sh;have so1:=so.perm bQ.symm;obtain⟨x,e1,rk⟩:=so1.1 _ YK;cases e1;unfold Rep at rk;obtain⟨b,ws,rfl,hb,rw'⟩:=rk;have ew:=uB ek rw';subst ew;have so2:Slots K H0 Z H (sl Z.g O U ((.ref a,.own (.dx hk ks ps))::pd)):=so1.sub (Y4 _ _);have so3:=so2.perm bQ.symm;obtain⟨_,eb,⟨xs,hu,hk1,hk2,hr⟩,_⟩:=so3.1 _ YK;cases eb;subst hk1;have hv:=xX (k:=k) hr;refine⟨b,xs,rfl,hu,λx hx=>bV.same z.zh (hk2 x hx),bV.same z.zh hb,by rw[YQ],λhn=>⟨hv.2 hn,?_⟩,λq hq=>?_⟩
 . have so4:Slots K H0 Z H ((some (.ref a),some (.own (.dx hk (xs.map (·.1)) ps)))::(some v,some (.sh p))::sl Z.g O U pd):=(so3.consS r).perm (List.Perm.swap _ _ _);obtain⟨z',s'⟩:=so4.write (o:=.ext (sW hk a (xs++[(k,b,v)]))) (q:=.dx hk (xs.map (·.1)++[k]) (ps++[p])) z ⟨xs++[(k,b,v)],bA,by rw[Zo]; rfl,(λx hx=>(by
    rcases ZF.mp hx with hx | hx
    . exact hk2 x hx
    . rw[Zw.mp hx];exact hb)),by rw[Zo]; exact hr.append (aF.cons r .nil)⟩
   exact .mk el hg z' (s'.perm (bQ.symm.cons _).symm)
 . obtain⟨u,e,ru⟩:=hv.1 q hq;exact⟨u,e,.mk el hg z (so2.consS ru)⟩
theorem SR.takeX {i:Nat} {hk:List dg->Int} {ks:List (List dg)} {ps:List PV} (s:SR K H0 Z0 O H U pd) (e:U.vs[i]?=some (some (.own (.dx hk ks ps)))):
 ∃a xs,O[i]?=some (some (.ref a))/\H a=some (.ext (sW hk a xs))/\SR K H0 Z0 O H (U.set i none) ((.ref a,.own (.dx hk ks ps))::pd):=by
 obtain⟨v,e1,s1⟩:=s.take e;obtain⟨_,Z,_,z,so⟩:=s1.top;obtain⟨a,ea,⟨xs,hu,_⟩,_⟩:=so.1 _ YK;have ea':v=.ref a:=Zf ea;subst ea';exact⟨a,xs,e1,hu,s1⟩
theorem SR.seal {v:V} {p:PV} (s1:SR K H0 Z0 O H U ((v,.own p)::pd)):SR K H0 Z0 O H ⟨U.vs,U.mu++[some p]⟩ ((v,.sh (.ptr U.mu.length))::pd):=by
 obtain⟨el,Z,hg,z,so⟩:=s1.top;obtain⟨a,ea,ra,za,ha0⟩:=so.1 _ YK;have ea':v=.ref a:=Zf ea;subst ea';have lz:iM Z ⟨Z.z,Z.g++[a]⟩:=⟨cY.refl _,aaV _ _⟩;have so2:=so.step (Z':=⟨Z.z,Z.g++[a]⟩) (H':=H) lz λe he b hb=>⟨rfl,(jh so he hb).1⟩;refine .mk (Z:=⟨Z.z,Z.g++[a]⟩) el (by simp[hg]) ⟨z.zh,z.h0,z.z0.trans lz,z.new⟩ (Slots.consS ?_ ?_)
 . refine so2.perm ?_;have ec:cel (Z.g++[a]) (U.mu++[some p])=cel Z.g U.mu++[(some (.ref a),some (.own p))]:=by unfold cel;rw[Zo,Zo,aah (by simp[hg])];rfl
   unfold sl;show List.Perm (cel (Z.g++[a]) (U.mu++[some p])++_) _;rw[ec,Ze];exact ZL
 . unfold Rep;exact⟨a,rfl,by show (Z.g++[a])[U.mu.length]?=some a; rw[hg,Zb (YW _)]; simp⟩
theorem Ev.set_self {i:Nat} {l:Option Lc} (e:U.vs[i]?=some l):U.set i l=U:=by show Ev.mk (U.vs.set i l) U.mu=U;obtain⟨hi,he⟩:=YS.mp e;rw[<-he,List.set_getElem_self]
section
variable {X:Cx} [HK]
def K9:EF:=λU=>some (.own (.dx HK.hk [] []),U)
theorem Vx (hx:HK.hk=yD X.prog X.w) {pos:Pos}:PE X (.Dict [] [] pos) (tP X.K K9):=PE.imp Nz λO H Q q=>by obtain⟨H0,Z0,U,pd,l,U',s,f,k⟩:=q;cases f;exact λp hp=>k _ _ (s.newO hp λZ _ _=>⟨[],by rw[bA,hx]; rfl,rfl,(λx hx=>(by cases hx)),aF.nil⟩)
open Classical in
def rO (i:Nat) (fk:EF):EF:=λU=>match U.vs[i]? with
 | some (some (.own (.dx _ _ _)))=>(fk U).bind λy=>match y.1.pv,y.2.vs[i]? with
  | .tup kp,some (some (.own (.dx hk ks ps)))=>(qX kp).bind λk=>if hk=HK.hk/\ks.length<100000 then
   (match mZ (ks.zip ps) k with
   | some p=>some (.sh p,y.2)
   | none=>some (.sh (.ptr y.2.mu.length),⟨y.2.vs.set i (some (.own (.dx hk (ks++[k]) (ps++[.ptr y.2.mu.length])))),y.2.mu++[some (.lst [])]⟩))
   else none
  | _,_=>none
 | _=>none
theorem Xc {i:Nat} {o e1 e2:Expr} {fk:EF} {apos cpos:Pos} (hx:HK.hk=yD X.prog X.w) (h:PE X (.Call (.Attribute o "setdefault" apos) [e1,e2] [] cpos) (λO H Q=>qd i O H λx H1=>(∃a hk xs,x=.ref a/\H1 a=some (.ext (sW hk a xs)))/\gk X.K (aa fk (aa (aL ao) ao)) O H1 λvs H2=>Kh X.prog X.w X.K x vs H2 Q)):
 PE X (.Call (.Attribute o "setdefault" apos) [e1,e2] [] cpos) (tP X.K (rO i fk)):=PE.imp h λO H Q q=>by
 obtain⟨H0,Z0,U,pd,r,U',s,h,k⟩:=q;unfold rO at h;split at h
 . rename_i hk0 ks0 ps0 e0;obtain⟨y,h1,h2⟩:=abd h;obtain⟨a,xs,ea,hu,_⟩:=s.takeX e0;refine⟨.ref a,ea,⟨a,hk0,xs,rfl,hu⟩,H0,Z0,U,pd,[y.1,.own (.lst [])],y.2,s,?_,λvs H2 e2 s2=>?_⟩
   . unfold aa ao aL;simp[h1]
   . obtain⟨v1,v2,rfl⟩:=ln2 e2;have s2':SR X.K H0 Z0 O H2 y.2 ((v1,y.1)::(v2,.own (.lst []))::pd):=s2;split at h2
     . rename_i kp hk ks ps e3 e4;obtain⟨kk,ek,h3⟩:=abd h2;split at h3
       . rename_i hc;obtain⟨hc1,hc2⟩:=hc;subst hc1;have s3:=s2'.freeze;rw[e3]at s3;cases hv:mZ (ks.zip ps) kk with
         | some p=>
          rw[hv]at h3;cases h3;obtain⟨a',xs',ea',hu',s4⟩:=s3.swap.freeze.takeX e4;rw[ea]at ea'; cases ea';have s5:=s4.perm (pd':=(v2,.sh (.lst []))::(v1,.sh (.tup kp))::(.ref a,.own (.dx HK.hk ks ps))::pd) (aai (l₁:=[(v2,Lc.sh (.lst [])),(v1,.sh (.tup kp))]) (l₂:=[(.ref a,.own (.dx HK.hk ks ps))]) |>.append_right pd);obtain⟨b,xs2,rfl,g1,g2,g3,g4,_,g6⟩:=s5.setX ek;obtain⟨u,eu,s6⟩:=g6 p hv;refine⟨a,b,xs2,kk,v2,rfl,rfl,by rw[g1]; unfold dX; rw[hx],g2,g3,by rw[g4,sizeLine_eq]; omega,?_⟩;rw[eu];have s7:=s6.swap.put ea;rw[Ev.set_set,Ev.set_self e4]at s7;exact k _ _ s7
         | none=>
          rw[hv]at h3;cases h3;have s3a:=s3.swap.seal;obtain⟨a',xs',ea',hu',s4⟩:=s3a.takeX (i:=i) (hk:=HK.hk) (ks:=ks) (ps:=ps) e4;rw[ea]at ea'; cases ea';have s5:=s4.perm (pd':=(v2,.sh (.ptr y.2.mu.length))::(v1,.sh (.tup kp))::(.ref a,.own (.dx HK.hk ks ps))::pd) (aai (l₁:=[(v2,Lc.sh (.ptr y.2.mu.length)),(v1,.sh (.tup kp))]) (l₂:=[(.ref a,.own (.dx HK.hk ks ps))]) |>.append_right pd);obtain⟨b,xs2,rfl,g1,g2,g3,g4,g5,_⟩:=s5.setX ek;obtain⟨eu,s6⟩:=g5 hv;refine⟨a,b,xs2,kk,v2,rfl,rfl,by rw[g1]; unfold dX; rw[hx],g2,g3,by rw[g4,sizeLine_eq]; omega,?_⟩;rw[eu];have s7:=s6.put ea;rw[Ev.set_set]at s7;have e9:(.ext (sW (yD X.prog X.w) a (xs2++[(kk,b,v2)])):HO)=dX X.prog X.w a (xs2++[(kk,b,v2)]):=rfl;rw[<-e9,<-hx];exact k _ _ s7
       . cases h3
     . cases h2
 . cases h
open Classical in
def uC (fo fk:EF):EF:=λU=>(fo U).bind λx=>match x.1.pv with
 | .dx hk ks ps=>(fk x.2).bind λy=>match y.1.pv with
  | .tup kp=>(qX kp).bind λk=>if hk=HK.hk then some (match mZ (ks.zip ps) k with | some p=>.sh p | none=>.own (.lst []),y.2) else none
  | _=>none
 | _=>none
theorem QL {o e1 e2:Expr} {fo fk:EF} {apos cpos:Pos} (hx:HK.hk=yD X.prog X.w) (h:PE X (.Call (.Attribute o "get" apos) [e1,e2] [] cpos) (λO H Q=>tP X.K fo O H λx H1=>(∃a hk xs,x=.ref a/\H1 a=some (.ext (sW hk a xs)))/\gk X.K (aa fk (aa (aL ao) ao)) O H1 λvs H2=>Qt X.prog X.w X.K x vs H2 Q)):
 PE X (.Call (.Attribute o "get" apos) [e1,e2] [] cpos) (tP X.K (uC fo fk)):=PE.imp h λO H Q q=>by
 obtain⟨H0,Z0,U,pd,r,U',s,h,k⟩:=q;obtain⟨x,h1,h2⟩:=abd h;refine⟨H0,Z0,U,pd,x.1,x.2,s,h1,λv H1 s1=>?_⟩;split at h2
 . rename_i hk ks ps e0;obtain⟨y,h3,h4⟩:=abd h2;have s2:=s1.freeze;rw[e0]at s2;have s2c:=s2;obtain⟨el,Z,hg,z,rd,so⟩:=s2.sh;unfold Rep at rd;obtain⟨a,xs,rfl,g1,g2,g3,g4⟩:=rd;refine⟨⟨a,hk,xs,rfl,z.zh _ _ g1⟩,H0,Z,x.2,pd,[y.1,.own (.lst [])],y.2,⟨el,Z,hg,⟨z.zh,z.h0,iM.refl Z,λb o e=>.inl e⟩,so⟩,?_,λvs H2 e2 s3=>?_⟩
   . unfold aa ao aL;simp[h3]
   . obtain⟨v1,v2,rfl⟩:=ln2 e2;have s3':SR X.K H0 Z O H2 y.2 ((v1,y.1)::(v2,.own (.lst []))::pd):=s3;split at h4
     . rename_i kp e3;obtain⟨kk,ek,h5⟩:=abd h4;split at h5
       . rename_i hc;subst hc;cases h5;have s4:=s3'.freeze;rw[e3]at s4;obtain⟨el2,Z2,hg2,z2,rk,so2⟩:=s4.sh;unfold Rep at rk;obtain⟨b,ws,rfl,hb,rw'⟩:=rk;have ew:=uB ek rw';subst ew;subst g2;have hv:=xX (k:=kk) g4;refine⟨a,b,xs,kk,v2,rfl,rfl,?_,λx hx=>bV.same z2.zh (bV.same z2.z0.1 (g3 x hx)),bV.same z2.zh hb,?_⟩
         . rw[z2.zh _ _ (z2.z0.1 _ _ g1),hx];rfl
         have zz:jW H0 Z0 Z2 H2:=⟨z2.zh,z2.h0,z.z0.trans z2.z0,λb o e=>by
          rcases z2.new b o e with q | q
          . exact z.new b o q
          . exact .inr q⟩
         cases hl:mZ ((xs.map (·.1)).zip ps) kk with
         | some p=>
          obtain⟨u,eu,ru⟩:=hv.1 p hl;rw[eu];rw[hl]at k;refine k _ _ (.mk el2 hg2 zz ((so2.perm bQ.symm).sub (Y4 _ _) |>.consS (ru.mono z2.z0)))
         | none=>
          rw[hv.2 hl];rw[hl]at k;exact k _ _ (.mk el2 hg2 zz (so2.perm bQ.symm))
       . cases h5
     . cases h4
 . cases h2
def meltL:Mu->List PV->Option (List PV×Mu)
 | mu,[]=>some ([],mu)
 | mu,.ptr n::ps=>match mu[n]? with
  | some (some q)=>(meltL (mu.set n none) ps).map λr=>(q::r.1,r.2)
  | _=>none
 | _,_=>none
theorem Slots.meltL {R:Sl}:∀{ps qs:List PV} {mu mu':Mu} {vs:List V} {Z:ZG},PL.meltL mu ps=some (qs,mu')->aF K Z ps vs->mu.length=Z.g.length->jW H0 Z0 Z H->Slots K H0 Z H (cel Z.g mu++R)->
 ∃Z',iM Z Z'/\Z'.g=Z.g/\jW H0 Z0 Z' H/\Slots K H0 Z' H (cel Z'.g mu'++R)/\aF K Z' qs vs/\mu'.length=mu.length
 | [],qs,mu,mu',vs,Z,h,r,hg,z,so=>by cases h;exact⟨Z,iM.refl Z,rfl,z,so,r,rfl⟩
 | p::ps,qs,mu,mu',vs,Z,h,r,hg,z,so=>by
  cases p with
  | ptr n=>
   unfold PL.meltL at h;split at h
   . rename_i q hm;obtain⟨t,h1,h2⟩:=abe h;cases h2;obtain⟨v,vr,rfl,r1,r2⟩:=r.inv;unfold Rep at r1;obtain⟨a,rfl,ha⟩:=r1;obtain⟨C,p1,p2⟩:=vB ha hm;have so2:Slots K H0 Z H ((some (.ref a),some (.own q))::(C++R)):=so.perm (p1.append_right _).symm;obtain⟨Z1,lz,eg,z1,so3⟩:=so2.freeze z;obtain⟨x,ex,rx⟩:=so3.1 _ YK;cases ex;have so4:Slots K H0 Z1 H (C++R):=so3.sub (Y4 _ _);have so5:Slots K H0 Z1 H ((some (.ref a),none)::(C++R)):=by
      refine⟨λe he=>?_,?_⟩
      . rcases YM.mp he with rfl | he
        . trivial
        . exact so4.1 e he
      . rw[Zr rfl]; exact so4.2
     have so6:Slots K H0 Z1 H (cel Z1.g (mu.set n none)++R):=by rw[eg];exact so5.perm ((p2 none).append_right _)
     obtain⟨Z2,lz2,eg2,z2,so7,r7,l7⟩:=Slots.meltL h1 (r2.mono lz) (by rw[eg]; simpa using hg) z1 so6;exact⟨Z2,lz.trans lz2,eg2.trans eg,z2,so7,aF.cons (rx.mono lz2) r7,by simpa using l7⟩
   . cases h
  | _=>cases h
def yP (f:EF):EF:=λU=>(f U).bind λx=>match x.1.pv with
 | .dx hk ks ps=>(meltL x.2.mu ps).map λr=>(.sh (.dx hk ks r.1),⟨x.2.vs,r.2⟩)
 | _=>none
theorem Vy {e:Expr} {f:EF} (h:PE X e (tP X.K f)):PE X e (tP X.K (yP f)):=PE.imp h λO H Q q=>by
 obtain⟨H0,Z0,U,pd,l,U',s,f,k⟩:=q;obtain⟨x,h1,h2⟩:=abd f;refine⟨H0,Z0,U,pd,x.1,x.2,s,h1,λv H1 s1=>?_⟩;split at h2
 . rename_i hk ks ps e0;obtain⟨r,h3,h4⟩:=abe h2;cases h4;have s2:=s1.freeze;rw[e0]at s2;obtain⟨el,Z,hg,z,rd,so⟩:=s2.sh;unfold Rep at rd;obtain⟨a,xs,rfl,g1,g2,g3,g4⟩:=rd;obtain⟨Z2,lz,eg,z2,so2,r2,l2⟩:=Slots.meltL (R:=O.zip x.2.vs++pd.map λe=>(some e.1,some e.2)) h3 g4 hg z so;refine k _ H1 (.mk (Z:=Z2) el (by rw[eg]; simpa [l2] using hg) z2 (Slots.consS so2 ?_));unfold Rep;exact⟨a,xs,rfl,lz.1 _ _ g1,g2,λx hx=>bV.same lz.1 (g3 x hx),r2⟩
 . cases h2
end
section
variable {X:Cx}
theorem qw (i:Nat) {x:Str} {pos:Pos} (hN:X.N[i]?=some x:=by rfl) (hv:JC X.env.scope x:=by first | exact Or.inl rfl | exact Or.inr (Or.inl rfl) | exact Or.inr (Or.inr rfl)) (hd:(x==("__debug__" : Str))=false:=by decide) (hcd:(x==("__classdict__" : Str))=false:=by decide):PE X (.Name x pos) (tP X.K (aj i)):=qv (pv i hN hv hd hcd)
theorem aU {i:Int} {j} {pos:Pos}:PE X (.Constant (.int i) j pos) (tP X.K (acP i)):=qc Tv fj
theorem gq {i:Str} {j} {pos:Pos}:PE X (.Constant (.str i) j pos) (tP X.K (acQ i)):=qc JG sX
theorem yQ {j} {pos:Pos}:PE X (.Constant .none j pos) (tP X.K (eC .non)):=qc Tz sY
theorem qI {a:Expr} {i:Int} {j} {p pos:Pos} {fa:EF} (ha:PE X a (tP X.K fa)):PE X (.Subscript a (.Constant (.int i) j p) pos) (tP X.K (bC fa (acP i))):=xQ ha aU (λ_ _=>rfl)
theorem qL {e:Expr} {f:EF} {p pos:Pos} (b:X.mg "len" = none) (h:PE X e (tP X.K f)) (hg:Gl X "len" := by rfl) (h0:starEach [e] X.env=(false,eval e X.env)::starEach [] X.env:=by rfl):PE X (.Call (.Name "len" p) [e] [] pos) (tP X.K (eB fK (aa f ao))):=yI fM KJ (bc fM hg b ZM (ak h aq h0) (he:=h0))
theorem fQ (i:Nat) {x:Str} {e:Expr} {pos pos':Pos} {f:EF} (hN:X.N.Nodup) (he:PE X e (tP X.K f)) (hi:X.N[i]?=some x:=by rfl) (hx:L2.Loc X.env.scope x:=by exact Or.inl rfl) (hs:swapsWith e (some (.Name x pos')) pos.line X.env=pure false:=by rfl) (hf:X.fn x=true\/X.env.scope.names.lookup x=some .local:=by first | exact .inl rfl | exact .inr rfl | assumption):
 PS X (.Assign [.Name x pos'] e pos) (fO X.K (aP i f)):=Ku hN hi hx he hs hf
theorem eY (i:Nat) {x:Str} {pos:Pos} (hN:X.N.Nodup) (hi:X.N[i]?=some x:=by rfl) (hx:L2.Loc X.env.scope x:=by exact Or.inl rfl) (hf:X.fn x=true\/X.env.scope.names.lookup x=some .local:=by first | exact .inl rfl | exact .inr rfl | assumption):PG X (.Name x pos) (Cw i):=Gw hN hi hx hf
theorem uO {M F:List Str} {ixs:List Nat} {sc:Scope} (S:Scope) (hS:X.env.scope=S:=by rfl) (kind:sc.kind=.function:=by rfl) (locs:∀y∈sc.names,y.2=.local->sc.names.lookup y.1=some .local:=by decide +kernel) (cel:∀y∈sc.names,y.2=.cell->sc.names.lookup y.1=some .cell:=by decide +kernel)
 (own:∀p∈sc.names,p.2=.free->S.names.lookup p.1=some .cell\/S.names.lookup p.1=some .free:=by decide +kernel) (frs:∀x∈F,sc.names.lookup x=some .free:=by decide +kernel) (ix:ixs.map (λi=>X.N[i]?)=F.map some:=by rfl):jV X M F ixs sc:=W8 S hS kind locs cel own frs ix
theorem Ac {i:Nat} {o e:Expr} {f:EF} {apos cpos pos:Pos} (ho:PE X o (qd i)) (he:PE X e (tP X.K f)) (h0:starEach [e] X.env=(false,eval e X.env)::starEach [] X.env:=by rfl) (h1:attributeBase o "append" X.env (eval o X.env)=eval o X.env:=by rfl)
 (h2:((backTo cpos (starEach [e] X.env)).all (λx=>!x.1)&&(backToKw cpos (keywordEach [] X.env)).all (λx=>x.1.isSome)
   && decide (([e]:List Expr).length+([]:List Keyword).length+(if ([]:List Keyword).isEmpty then 0 else 1)<30))=true:=by rfl) (h3:(apos.endLine==cpos.line)=true:=by rfl) (hs:swapsWith (.Call (.Attribute o "append" apos) [e] [] cpos) none pos.line X.env=pure false:=by rfl):
 PS X (.Expr (.Call (.Attribute o "append" apos) [e] [] cpos) pos) (fO X.K (lq i f)):=Vf (j9 (uc F.plainAttrs_list F.slot_list_append F.type_list_append oh ho (ak he aq h0) h1 h2 h3 h0) hs)
theorem Jb {i:Nat} {o e:Expr} {f:EF} {apos cpos pos:Pos} (ho:PE X o (qd i)) (he:PE X e (tP X.K f)) (h0:starEach [e] X.env=(false,eval e X.env)::starEach [] X.env:=by rfl) (h1:attributeBase o "extend" X.env (eval o X.env)=eval o X.env:=by rfl)
 (h2:((backTo cpos (starEach [e] X.env)).all (λx=>!x.1)&&(backToKw cpos (keywordEach [] X.env)).all (λx=>x.1.isSome)
   && decide (([e]:List Expr).length+([]:List Keyword).length+(if ([]:List Keyword).isEmpty then 0 else 1)<30))=true:=by rfl) (h3:(apos.endLine==cpos.line)=true:=by rfl) (hs:swapsWith (.Call (.Attribute o "extend" apos) [e] [] cpos) none pos.line X.env=pure false:=by rfl):
 PS X (.Expr (.Call (.Attribute o "extend" apos) [e] [] cpos) pos) (fO X.K (qi i f)):=Vg (j9 (uc F.plainAttrs_list F.slot_list_extend F.type_list_extend yC ho (ak he aq h0) h1 h2 h3 h0) hs)
end
inductive XR (α:Type) where
 | ok (a:α)
 | xc (C:Str) (U:Ev)
abbrev EX:=Ev->Option (XR (Lc×Ev))
abbrev SX:=Ev->Option (XR Fl)
abbrev GX:=List PV->Mu->Option (XR (Lc×Mu))
def vJ (K:FG) (E:XK) (f:EX):TE:=λO H Q=>∃H0 Z0 U pd,SR K H0 Z0 O H U pd/\((∃l U',f U=some (.ok (l,U'))/\∀v H',SR K H0 Z0 O H' U' ((v,l)::pd)->Q v H')\/∃C U',f U=some (.xc C U')/\∀c H',CN K C c->SR K H0 Z0 O H' U' pd->E (.ref c) none H')
def lH (K:FG) (E:XK) (g:SX):TS:=λD O H=>∃H0 Z0 U pd,SR K H0 Z0 O H U pd/\((∃fl,g U=some (.ok fl)/\oK K H0 Z0 pd D fl)\/∃C U',g U=some (.xc C U')/\∀c O' H',CN K C c->SR K H0 Z0 O' H' U' pd->E (.ref c) none H')
def Jc (K:FG) (E:XK) (g:SX):TS:=λD O H=>∃H0 Z0 U pd,SR K H0 Z0 O H U pd/\((∃fl,g U=some (.ok fl)/\oK K H0 Z0 pd D fl)\/∃C U',g U=some (.xc C U')/\∀c H',CN K C c->SR K H0 Z0 O H' U' pd->E (.ref c) none H')
theorem lH.a {E:XK} {g:SX} {D:Ends} {H:Hp} (q:lH K E g D O H):Jc K E g D O H:=by
 obtain⟨H0,Z0,U,pd,s,q | ⟨C,U',h,k⟩⟩:=q
 . exact⟨H0,Z0,U,pd,s,.inl q⟩
 . exact⟨H0,Z0,U,pd,s,.inr ⟨C,U',h,λc H'=>k c O H'⟩⟩
def QM (K:FG) (n:Nat) (g:GX):Sp:=λvs H Q E=>∃(Z:ZG) (ps:List PV) (mu:Mu),vs.length=n/\mu.length=Z.g.length/\cY Z.z H/\aF K Z ps vs/\Slots K (jA H (m7 Z.g mu)) Z H (cel Z.g mu)/\
 ((∃r mu',g ps mu=some (.ok (r,mu'))/\∀v H',DX K H Z (m7 Z.g mu) H' mu' v r->Q v H')\/∃C U',g ps mu=some (.xc C U')/\∀c v H',CN K C c->DX K H Z (m7 Z.g mu) H' U'.mu v (.sh .non)->E (.ref c) none H')
def uD (n:Nat) (g:SX):GX:=λps mu=>(g (env0 n ps mu)).bind λx=>match x with
 | .ok (.rt r U)=>some (.ok (r,U.mu))
 | .ok (.nx U)=>some (.ok (.sh .non,U.mu))
 | .xc C U=>some (.xc C U)
 | _=>none
def nO (g:SF):SX:=λU=>(g U).map .ok
def pB (f g:SX):SX:=λU=>(f U).bind λx=>match x with
 | .ok (.nx U')=>g U'
 | y=>some y
def w5 (c:TF) (f g:SX):SX:=λU=>(c U).bind λx=>if x.1=true then f x.2 else g x.2
def xB (f:EX) (k:Lc×Ev->Option Fl):SX:=λU=>(f U).bind λx=>match x with
 | .ok y=>(k y).map .ok
 | .xc C U'=>some (.xc C U')
def Jd (i:Nat):Lc×Ev->Option Fl:=λy=>if i<y.2.vs.length then some (.nx (y.2.set i (some y.1))) else none
def yR:Lc×Ev->Option Fl:=λy=>some (.nx y.2)
def Vz:Lc×Ev->Option Fl:=λy=>some (.rt y.1 y.2)
section
variable {X:Cx} {E:XK}
theorem tG {st:Stmt} {g:SF} (h:PS X st (fO X.K g)):PS X st (lH X.K E (nO g)):=PS.imp h λD O H q=>by
 obtain⟨H0,Z0,U,pd,s,⟨fl,h1,k⟩ | ⟨C,U',h1,k⟩⟩:=q
 . obtain⟨a,h2,h3⟩:=abe h1;cases h3;exact⟨H0,Z0,U,pd,fl,s,h2,k⟩
 . obtain⟨a,h2,h3⟩:=abe h1;cases h3
theorem G7:eF X [] (lH X.K E (nO cG)):=eF.imp Gu λD O H q=>by
 obtain⟨H0,Z0,U,pd,s,⟨fl,h1,k⟩ | ⟨C,U',h1,k⟩⟩:=q
 . cases h1; exact k O H s
 . cases h1
theorem pC {st:Stmt} {rest:List Stmt} {f g:SX} (h1:PS X st (lH X.K E f)) (h2:eF X rest (lH X.K E g)):eF X (st::rest) (lH X.K E (pB f g)):=eF.imp (Dj h1 h2) λD O H q=>by
 obtain⟨H0,Z0,U,pd,s,q⟩:=q;refine⟨H0,Z0,U,pd,s,?_⟩;unfold pB at q;cases e:f U with
 | none=>rw[e]at q; rcases q with ⟨_,z,_⟩ | ⟨_,_,z,_⟩<;>cases z
 | some x=>
  rw[e,YJ]at q;cases x with
  | xc C U'=>
   rcases q with ⟨_,z,_⟩ | ⟨_,_,z,k⟩
   . cases z
   . cases z; exact .inr ⟨C,U',rfl,k⟩
  | ok fl=>
   refine .inl ⟨fl,rfl,?_⟩;cases fl with
   | nx U'=>exact λO' H' s'=>⟨H0,Z0,U',pd,s',q⟩
   | rt r U'=>rcases q with ⟨_,z,k⟩ | ⟨_,_,z,k⟩<;>cases z; exact k
   | bk U'=>rcases q with ⟨_,z,k⟩ | ⟨_,_,z,k⟩<;>cases z; exact k
   | ct U'=>rcases q with ⟨_,z,k⟩ | ⟨_,_,z,k⟩<;>cases z; exact k
theorem pD {st:Stmt} {f:SX} (h1:PS X st (lH X.K E f)):eF X [st] (lH X.K E f):=Gv h1
theorem QQ {c:Expr} {a b:List Stmt} {fc:TF} {f g:SX} {pos:Pos} (hc:PT X c (lA X.K fc)) (ha:eF X a (lH X.K E f)) (hb:eF X b (lH X.K E g)):PS X (.If c a b pos) (lH X.K E (w5 fc f g)):=PS.imp (P0 hc ha hb) λD O H q=>by
 obtain⟨H0,Z0,U,pd,s,q⟩:=q;have hx:∃x,fc U=some x:=by
  cases e:fc U with
  | some x=>exact⟨x,rfl⟩
  | none=>unfold w5 at q; rw[e]at q; rcases q with ⟨_,z,_⟩ | ⟨_,_,z,_⟩<;>cases z
 obtain⟨x,h1⟩:=hx;unfold w5 at q;rw[h1,YJ]at q;refine⟨H0,Z0,U,pd,x.1,x.2,s,h1,λH1 s1=>?_⟩;dsimp only;split
 . rename_i c; rw[aa5 c]at q; exact⟨H0,Z0,x.2,pd,s1,q⟩
 . rename_i c; rw[aa6 c]at q; exact⟨H0,Z0,x.2,pd,s1,q⟩
theorem xb {f:EX} {k:Lc×Ev->Option Fl} {D:Ends} {H:Hp} {Q:VK} (q:Jc K E (xB f k) D O H) (h:∀H0 Z0 pd l U' fl v H',k (l,U')=some fl->oK K H0 Z0 pd D fl->SR K H0 Z0 O H' U' ((v,l)::pd)->Q v H'):vJ K E f O H Q:=by
 obtain⟨H0,Z0,U,pd,s,q⟩:=q;refine⟨H0,Z0,U,pd,s,?_⟩;unfold xB at q;cases e:f U with
 | none=>rw[e]at q; rcases q with ⟨_,z,_⟩ | ⟨_,_,z,_⟩<;>cases z
 | some x=>
  rw[e,YJ]at q;cases x with
  | xc C U'=>
   rcases q with ⟨_,z,_⟩ | ⟨_,_,z,kk⟩
   . cases z
   . cases z; exact .inr ⟨C,U',rfl,kk⟩
  | ok y=>
   rcases q with ⟨fl,z,kk⟩ | ⟨_,_,z,_⟩
   . obtain⟨fl',z1,z2⟩:=abe z;cases z2;exact .inl ⟨y.1,y.2,rfl,λv H' s'=>h H0 Z0 pd y.1 y.2 fl v H' z1 kk s'⟩
   . obtain⟨fl',z1,z2⟩:=abe z;cases z2
theorem Yp {H0 H':Hp} {D:Ends} {i:Nat} {l:Lc} {U':Ev} {fl:Fl} {v:V} (h:Jd i (l,U')=some fl) (k:oK K H0 Z0 pd D fl) (s:SR K H0 Z0 O H' U' ((v,l)::pd)):D.nx (O.set i (some v)) H':=by
 unfold Jd at h;split at h
 . rename_i hl;cases h;exact k _ _ (s.store hl)
 . cases h
theorem VB {i:Nat} {x:Str} {e:Expr} {pos pos':Pos} {f:EX} (hN:X.N.Nodup) (hi:X.N[i]?=some x) (hx:L2.Loc X.env.scope x) (he:PE X e (vJ X.K E f)) (hs:swapsWith e (some (.Name x pos')) pos.line X.env=pure false:=by rfl) (hf:X.fn x=true\/X.env.scope.names.lookup x=some .local:=by first | exact .inl rfl | exact .inr rfl | assumption):
 PS X (.Assign [.Name x pos'] e pos) (lH X.K E (xB f (Jd i))):=PS.imp (JK hN hi hx he hs hf) λD O H q=>xb q.a λ_ _ _ _ _ _ _ _ h k s=>Yp h k s
theorem Sd {e:Expr} {pos:Pos} {f:EX} (he:PE X e (vJ X.K E f)) (hs:swapsWith e none pos.line X.env=pure false:=by rfl):PS X (.Expr e pos) (lH X.K E (xB f yR)):=PS.imp (j9 he hs) λD O H q=>xb q.a λ_ _ _ _ _ _ _ _ h k s=>by cases h; exact k _ _ s.pop
theorem VD {e:Expr} {pos:Pos} {f:EX} (he:PE X e (vJ X.K E f)):PS X (.Return (some e) pos) (lH X.K E (xB f Vz)):=PS.imp (Dk he) λD O H q=>xb q.a λ_ _ _ _ _ _ _ _ h k s=>by cases h; exact k _ _ _ s
structure xY (K:FG) (mg:Str->Option Value) (C:Str) (c:Addr):Prop where
 cn:CN K C c
 mgC:mg C=some (.ref c)
 ex:W.excIn K c kZ lg=true
abbrev JF:=Ev->Option Ev
def Er (K:FG) (f:JF):TJ:=λO H Q=>∃H0 Z0 U pd U',SR K H0 Z0 O H U pd/\f U=some U'/\∀H',SR K H0 Z0 O H' U' pd->Q H'
def VF:PV->Bool
 | .str x=>gH x
 | .lst ps=>decide (ps.length<=64)&&(match strsOf ps with | some xs=>xs.all gH | none=>false)
 | .tup ps=>decide (ps.length<=64)&&(match strsOf ps with | some xs=>xs.all gH | none=>false)
 | _=>false
theorem Es:∀{ps:List PV} {xs:List Str},strsOf ps=some xs->xs.length=ps.length
 | [],xs,h=>by cases h; rfl
 | .str z::ps,xs,h=>by obtain⟨ys,h3,h4⟩:=abe h;subst h4;rw[YX,YX,Es h3]
theorem La {ps:List PV} (h:(decide (ps.length<=64)&&(match strsOf ps with | some xs=>xs.all gH | none=>false))=true):∃xs,strsOf ps=some xs/\xs.length<=64/\xs.all gH=true:=by
 rw[aac,decide_eq_true_eq]at h;obtain⟨h1,h2⟩:=h;split at h2
 . rename_i xs e;exact⟨xs,e,by rw[Es e]; exact h1,h2⟩
 . cases h2
theorem VG {p:PV} {v:V} (h:VF p=true) (s:SR K H0 Z0 O H U ((v,.sh p)::pd)):Ip K H v:=by
 obtain⟨g,r⟩:=s.repH;cases p with
 | str x=>exact .inl ⟨x,cR r,h⟩
 | lst ps=>
  obtain⟨xs,h1,h2,h3⟩:=La h;unfold Rep at r;obtain⟨a,vs,rfl,r1,r2⟩:=r;rw[xR h1 r2]at r1;exact .inr ⟨a,xs,rfl,.inl r1,h2,h3⟩
 | tup ps=>
  obtain⟨xs,h1,h2,h3⟩:=La h;unfold Rep at r;obtain⟨a,vs,rfl,r1,r2⟩:=r;rw[xR h1 r2]at r1;exact .inr ⟨a,xs,rfl,.inr r1,h2,h3⟩
 | _=>cases h
def xZ:JF:=λU=>some U
def jR (f:EF) (g:JF):JF:=λU=>(f U).bind λx=>if VF x.1.pv=true then g x.2 else none
theorem VH:PJ X [] 0 (Er X.K xZ):=λacR s O H Q acc I hl q=>by obtain⟨H0,Z0,U,pd,U',sr,h,k⟩:=q;cases h;exact U0_ acR s O H Q acc I hl (k H sr)
theorem VJ {c:Str} {es:List Expr} {j n:Nat} {p:Pos} {f:JF} (hc:c.length<=100) (h:PJ X es n (Er X.K f)):PJ X (.Constant (.str c) j p::es) (n+100) (Er X.K f):=Ye hc h
theorem Yq {k n:Nat} {e:Expr} {es:List Expr} {p:Pos} {fe:EF} {f:JF} (hr:fH k X.A) (he:PE X e (tP X.K fe)) (h:PJ X es n (Er X.K f)):PJ X (.FormattedValue e 114 none p::es) (n+700000) (Er X.K (jR fe f)):=λacR s O H Q acc I hl q=>Yg hr he h acR s O H Q acc I hl (by
 obtain⟨H0,Z0,U,pd,U',sr,h,k⟩:=q;obtain⟨x,h1,h2⟩:=abd h;split at h2
 . rename_i hs;exact⟨H0,Z0,U,pd,x.1,x.2,sr,h1,λv H' s'=>⟨VG hs s'.freeze,H0,Z0,x.2,pd,U',s'.pop,h2,k⟩⟩
 . cases h2)
def qY (C:Str) (f:JF):SX:=λU=>(f U).map λU'=>.xc C U'
theorem Bu {C:Str} {c:Addr} {f:JF} {D:Ends} {H:Hp} (hc:CN K C c) (q:lH K E (qY C f) D O H):Er K f O H λH'=>E (.ref c) none H':=by
 obtain⟨H0,Z0,U,pd,s,q⟩:=q;rcases q with ⟨_,z,_⟩ | ⟨C',U',z,k⟩
 . obtain⟨_,_,z2⟩:=abe z;cases z2
 . obtain⟨U1,z1,z2⟩:=abe z;cases z2;exact⟨H0,Z0,U,pd,U',s,z1,λH' s'=>k c O H' hc s'⟩
theorem Lb {C:Str} {c:Addr} {np cpos pos jp:Pos} {v1 v2:Expr} {es:List Expr} {n k:Nat} {f:JF} (R:Raises X E) (hr:fH k X.A) (hg:Gl X C) (T:xY X.K X.mg C c) (hj:PJ X (v1::v2::es) n (Er X.K f)) (hn:n<=sizeLine)
 (hdb:(C==("__debug__" : Str))=false:=by decide) (hst:starEach [Expr.JoinedStr (v1::v2::es) jp] X.env=[(false,eval (Expr.JoinedStr (v1::v2::es) jp) X.env)]:=by rfl) (hpl:(backTo cpos (starEach [Expr.JoinedStr (v1::v2::es) jp] X.env)).any (·.1)=false:=by rfl):
 PS X (.Raise (some (.Call (.Name C np) [.JoinedStr (v1::v2::es) jp] [] cpos)) none pos) (lH X.K E (qY C f)):=PS.imp (Dz R hr hg T.mgC T.ex (Kp hj hn) hdb hst hpl) λD O H q=>by
 obtain⟨H0,Z0,U,pd,U',s,h,k⟩:=Bu T.cn q;exact⟨H0,Z0,U,pd,U',s,h,λH' s' z=>⟨rfl,k H' s'⟩⟩
theorem Ld {C:Str} {c:Addr} {np cpos pos:Pos} {a:Expr} {x:Str} {k:Nat} (R:Raises X E) (hr:fH k X.A) (hg:Gl X C) (T:xY X.K X.mg C c) (ha:PE X a (tC (.str x)))
 (hdb:(C==("__debug__" : Str))=false:=by decide) (hst:starEach [a] X.env=[(false,eval a X.env)]:=by rfl) (hpl:(backTo cpos (starEach [a] X.env)).any (·.1)=false:=by rfl):
 PS X (.Raise (some (.Call (.Name C np) [a] [] cpos)) none pos) (lH X.K E (qY C xZ)):=PS.imp (Dz R hr hg T.mgC T.ex ha hdb hst hpl) λD O H q=>by
 obtain⟨H0,Z0,U,pd,U',s,h,k⟩:=Bu T.cn q;cases h;exact⟨rfl,k H s⟩
end
section
variable {P:Program} {w:World} {K:FG} {mg:Str->Option Value} {base:Heap}
theorem pU.okX {x qual:Str} {st:Stmt} {N ps:List Str} {k:Nat} {g:GX} {f:Addr} {fd:FuncData} (F:pU K x qual st f fd) (S:aQ N ps (au st))
 (h:∀(cdv:Value) (A:Around) (outer:List PySem.Env) (s:Shared) (H:Hp) (E:XK),fH k (A.deeper (envOfC qual (au st) s.heap.objs.size f cdv))->
   ∃g':SX,(∀a mu,g a mu=uD N.length g' a mu)/\(Raises (oF (lM P w) P w K mg base N qual (au st) f cdv A outer s H E) E->oE (lM P w) (oF (lM P w) P w K mg base N qual (au st) f cdv A outer s H E) E->eF (oF (lM P w) P w K mg base N qual (au st) f cdv A outer s H E) (aR st) (lH K E g'))):
 kW P w K mg base (lM P w) (k+1) f fd ps (QM K ps.length g):=by
 obtain⟨oc,od,kV,doc,pm,an,cdv,ct,osl,rfl,lk,hcd⟩:=F.ex;refine Qk lk hcd S (λvs H Q E q=>?_) λA outer s H vs Q E hr q=>?_
 . obtain⟨Z,qs,mu,e,_⟩:=q; exact e
 . obtain⟨g',eg,b⟩:=h cdv A outer s H E hr;obtain⟨Z,qs,mu,e,hg,z,rl,c,kk⟩:=q;rw[eg]at kk;refine⟨_,b (λacR O H s h' e C args I hm hE=>RG I hm hE) RD,jA H (m7 Z.g mu),Z,_,[],ul hg z rl c,?_⟩;have fin:∀{O':L2.St} {H':Hp} {U':Ev},SR K (jA H (m7 Z.g mu)) Z O' H' U' []->DX K H Z (m7 Z.g mu) H' U'.mu .non (.sh .non):=λs'=>by obtain⟨el,Z',hg',z',s''⟩:=s';exact⟨Z',hg',z',(s''.sub (Zu _ _)).consS (sY _)⟩
   unfold uD at kk;cases q:g' (env0 N.length qs mu) with
   | none=>rw[q]at kk; rcases kk with ⟨_,_,z,_⟩ | ⟨_,_,z,_⟩<;>cases z
   | some x=>
    rw[q,YJ]at kk;cases x with
    | xc C U'=>
     rcases kk with ⟨_,_,z,_⟩ | ⟨_,_,z,kk⟩
     . cases z
     . cases z;exact .inr ⟨C,U',rfl,λc' O' H' hc s'=>kk c' .non H' hc (fin s')⟩
    | ok fl=>
     refine .inl ⟨fl,rfl,?_⟩;cases fl with
     | rt r' U'=>
      rcases kk with ⟨_,_,z,kk⟩ | ⟨_,_,z,_⟩<;>cases z;intro v O' H' s';obtain⟨el,Z',hg',z',s''⟩:=s'.top;refine kk v H' ⟨Z',hg',z',s''.sub ?_⟩;exact(Zu _ _).cons_cons _
     | nx U'=>
      rcases kk with ⟨_,_,z,kk⟩ | ⟨_,_,z,_⟩<;>cases z;exact λO' H' s'=>kk .non H' (fin s')
     | bk U'=>rcases kk with ⟨_,_,z,_⟩ | ⟨_,_,z,_⟩<;>cases z
     | ct U'=>rcases kk with ⟨_,_,z,_⟩ | ⟨_,_,z,_⟩<;>cases z
def DefX (P:Program) (w:World) (K:FG) (mg:Str->Option Value) (base:Heap) (x:Str) (k:Nat) (ps:List Str) (g:GX):Prop:=∃f fd,kW P w K mg base (lM P w) k f fd ps (QM K ps.length g)/\mg x=some (.ref f)/\W.keepIn K (.ref f)=true/\Binds K fd ps []
end
section
variable {X:Cx} {E:XK}
def rX (vs:List (Option Lc)):XR (Lc×Mu)->XR (Lc×Ev)
 | .ok r=>.ok (r.1,⟨vs,r.2⟩)
 | .xc C U'=>.xc C ⟨vs,U'.mu⟩
def gU (g:GX) (a:AF):EX:=λU=>(a U).bind λy=>(g (y.1.map Lc.pv) y.2.mu).map (rX y.2.vs)
theorem VL {H0 H1:Hp} {y:List Lc×Ev} {vs:List V} {n:Nat} {g:GX} {Q:VK} (hn:y.1.length=n) (e2:vs.length=y.1.length) (s2:SR K H0 Z0 O H1 y.2 (vs.zip y.1++pd)) {x:XR (Lc×Mu)} (hg:g (y.1.map Lc.pv) y.2.mu=some x)
 (k:match rX y.2.vs x with | .ok r=>∀v H',SR K H0 Z0 O H' r.2 ((v,r.1)::pd)->Q v H' | .xc C U'=>∀c H',CN K C c->SR K H0 Z0 O H' U' pd->E (.ref c) none H'):QM K n g (vs++[]) H1 Q E:=by
 obtain⟨el,Z,hg',z,rl,sl'⟩:=s2.repl e2;refine⟨Z,y.1.map Lc.pv,y.2.mu,by rw[Zg,e2]; exact hn,hg',z.zh,by rw[Zg]; exact rl,sl'.cells hg',?_⟩;cases x with
 | ok r=>exact .inl ⟨r.1,r.2,hg,λv H' rr=>k v H' (SR.called el hg' z sl' rr)⟩
 | xc C U'=>exact .inr ⟨C,U',hg,λc v H' hc rr=>k c H' hc (SR.called el hg' z sl' rr).pop⟩
theorem Bv {n:Nat} {g:GX} {a:AF} (hn:∀U ls U1,a U=some (ls,U1)->ls.length=n):∀O H Q,vJ K E (gU g a) O H Q->yr (QM K n g) [] E (gk K a) O H Q:=λO H Q q=>by
 obtain⟨H0,Z0,U,pd,s,q⟩:=q;have hx:∃y x,a U=some y/\g (y.1.map Lc.pv) y.2.mu=some x:=by
  have:∃z,gU g a U=some z:=by rcases q with ⟨l,U',h,_⟩ | ⟨C,U',h,_⟩<;>exact⟨_,h⟩
  obtain⟨z,hz⟩:=this;obtain⟨y,h1,h2⟩:=abd hz;obtain⟨x,h3,_⟩:=abe h2;exact⟨y,x,h1,h3⟩
 obtain⟨y,x,h1,h3⟩:=hx;have he:gU g a U=some (rX y.2.vs x):=by unfold gU; rw[h1,YJ,h3]; rfl
 rw[he]at q;refine⟨H0,Z0,U,pd,y.1,y.2,s,h1,λvs H2 e2 s2=>VL (hn _ _ _ h1) e2 s2 h3 ?_⟩;cases x with
 | ok r=>rcases q with ⟨l,U',h,k⟩ | ⟨C,U',h,k⟩<;>cases h; exact k
 | xc C U'=>rcases q with ⟨l,U',h,k⟩ | ⟨C,U',h,k⟩<;>cases h; exact k
theorem Ad {x:Str} {k:Nat} {ps:List Str} {g:GX} {e:Expr} {es:List Expr} {a:AF} {p pos:Pos} (D:DefX X.prog X.w X.K X.mg X.base x k ps g) (hx:oE (lM X.prog X.w) X E) (hr:fH k X.A) (hg:Gl X x)
 (ha:PA X (e::es) (gk X.K a)) (hn:∀U ls U1,a U=some (ls,U1)->ls.length=ps.length) (hdb:(x==("__debug__" : Str))=false:=by decide) (he:starEach (e::es) X.env=(false,eval e X.env)::starEach es X.env:=by rfl) (hpl:(backTo pos (starEach es X.env)).any (·.1)=false:=by rfl):PE X (.Call (.Name x p) (e::es) [] pos) (vJ X.K E (gU g a)):=by
 obtain⟨f,fd,F,hm,hk,hb⟩:=D;exact PE.imp (zJ (E:=E) F hr hg hm hk hb .nil hx ha hdb he hpl) (Bv hn)
theorem Bl.imp {acR:List (Addr×Obj)} {b:List Stmt} {t t':TS} (h:Bl X acR O b t) (i:∀D H,t' D O H->t D O H):Bl X acR O b t':=λs H D I q=>h s H D I (i D H q)
theorem G8 {acR:List (Addr×Obj)} {e:Expr} {pos:Pos} {f:EX} (he:Qu X acR O e (vJ X.K E f)) (hs:swapsWith e none pos.line X.env=pure false:=by rfl):Bl X acR O [.Expr e pos] (Jc X.K E (xB f yR)):=Bl.imp (NK he hs) λD H q=>xb q λ_ _ _ _ _ _ _ _ h k s=>by cases h; exact k _ _ s.pop
def QR (X:Cx) (hs:List ExceptHandler) (h:Str->SF):Prop:=∃th,PH X hs th/\∀H0 Z0 pd D C c U' fl O H',CN X.K C c->h C U'=some fl->SR X.K H0 Z0 O H' U' pd->oK X.K H0 Z0 pd D fl->W.excIn X.K c kZ lg=true/\th c D O H'
def Ox:Str->SF:=λ_ _=>none
theorem Le {hs:List ExceptHandler}:QR X hs Ox:=⟨_,U4,λ_ _ _ _ _ _ _ _ _ _ _ z=>by cases z⟩
def Et (b:SX) (h:Str->SF):SF:=λU=>(b U).bind λx=>match x with
 | .ok fl=>some fl
 | .xc C U'=>h C U'
theorem Lf {body:List Stmt} {h₀:ExceptHandler} {hs:List ExceptHandler} {pos:Pos} {b:SX} {h:Str->SF} (hst:X.stack=X.env::X.outer) (hf:X.env.frame=some X.env.locals)
 (hb:∀acR O xe E,CK (X.wish xe) acR O E->Bl (X.wish xe) acR O body (Jc X.K E b)) (hh:QR X (h₀::hs) h):PS X (.Try body (h₀::hs) [] [] pos) (fO X.K (Et b h)):=by
 obtain⟨th,hh1,hh2⟩:=hh;refine PS.imp (U5 hst hf hb hh1) λD O H q=>?_;obtain⟨H0,Z0,U,pd,fl,s,e,k⟩:=q;obtain⟨x,e1,e2⟩:=abd e;cases x with
 | ok fl'=>
  cases e2;exact⟨λ_ _ _=>False,⟨H0,Z0,U,pd,s,.inl ⟨fl,e1,k⟩⟩,λ_ _ z=>z.elim⟩
 | xc C U'=>
  refine⟨λcv _ H'=>∃c,cv=.ref c/\CN X.K C c/\SR X.K H0 Z0 O H' U' pd,⟨H0,Z0,U,pd,s,.inr ⟨C,U',e1,λc H' hc s'=>⟨c,rfl,hc,s'⟩⟩⟩,λc H' ⟨c',z1,z2,z3⟩=>?_⟩;cases z1;exact hh2 H0 Z0 pd D C c U' fl O H' z2 e2 z3 k
end
section
variable {X:Cx}
end
section
variable {P:Program} {w:World} {K:FG} {mg:Str->Option Value} {base:Heap}
theorem aV.okX {x:Str} {st:Stmt} {N ps:List Str} {k:Nat} {g:GX} (F:aV K mg x st ps) (S:aQ N ps (au st))
 (h:∀(f:Addr) (cdv:Value) (A:Around) (outer:List PySem.Env) (s:Shared) (H:Hp) (E:XK),fH k (A.deeper (envOfC x (au st) s.heap.objs.size f cdv))->
   ∃g':SX,(∀a mu,g a mu=uD N.length g' a mu)/\(Raises (oF (lM P w) P w K mg base N x (au st) f cdv A outer s H E) E->oE (lM P w) (oF (lM P w) P w K mg base N x (au st) f cdv A outer s H E) E->eF (oF (lM P w) P w K mg base N x (au st) f cdv A outer s H E) (aR st) (lH K E g'))):DefX P w K mg base x (k+1) ps g:=by
 obtain⟨f,fd,F,hm,hb⟩:=F;exact⟨f,fd,pU.okX F S (h f),hm,F.kp,hb⟩
end
section
variable {X:Cx} {E:XK}
def wD (b:BF) (body:SX):List PV->SX
 | [],U=>some (.ok (.nx U))
 | x::xs,U=>(b x U).bind λU1=>(body U1).bind λy=>match y with
  | .ok (.nx U2)=>wD b body xs U2
  | .ok (.ct U2)=>wD b body xs U2
  | .ok (.bk U2)=>some (.ok (.nx U2))
  | .ok (.rt r U2)=>some (.ok (.rt r U2))
  | .xc C U2=>some (.xc C U2)
def VM (f:IF) (b:BF) (body:SX):SX:=λU=>(f U).bind λy=>wD b body y.1 y.2
def Lg (K:FG) (H0:Hp) (Z0:ZG) (pd:Pd) (E:XK) (D:Ends):XR Fl->Prop
 | .ok fl=>oK K H0 Z0 pd D fl
 | .xc C U'=>∀c O' H',CN K C c->SR K H0 Z0 O' H' U' pd->E (.ref c) none H'
theorem G9 {g:SX} {D:Ends} {H:Hp}:lH K E g D O H ↔ ∃H0 Z0 U pd r,SR K H0 Z0 O H U pd/\g U=some r/\Lg K H0 Z0 pd E D r:=by
 constructor
 . rintro⟨H0,Z0,U,pd,s,⟨fl,h,k⟩ | ⟨C,U',h,k⟩⟩
   . exact⟨H0,Z0,U,pd,.ok fl,s,h,k⟩
   . exact⟨H0,Z0,U,pd,.xc C U',s,h,k⟩
 . rintro⟨H0,Z0,U,pd,r,s,h,k⟩;cases r with
   | ok fl=>exact⟨H0,Z0,U,pd,s,.inl ⟨fl,h,k⟩⟩
   | xc C U'=>exact⟨H0,Z0,U,pd,s,.inr ⟨C,U',h,k⟩⟩
def Xu (K:FG) (H0:Hp) (Z0:ZG) (pd:Pd) (b:BF) (fb:SX) (xs:List PV) (r:XR Fl) (i m:Nat) (O:L2.St) (H:Hp):Prop:=m=xs.length-i/\i<=xs.length/\∃U,SR K H0 Z0 O H U pd/\wD b fb (xs.drop i) U=some r
theorem Lh {g:TG} {b:BF} {fb:SX} (hb:GS K g b) {J:It} {xs:List PV} {r:XR Fl} {D:Ends} (it:nT K H0 Z0 pd J xs) (k:Lg K H0 Z0 pd E D r) (s:SR K H0 Z0 O H U pd) (h:wD b fb xs U=some r):
 ∃W:Nat->Nat->L2.St->Hp->Prop,(∃m,W 0 m O H)/\∀i m O H,W i m O H->
  (J.stop i H/\D.nx O H)\/(J.go i H/\∃N:L2.St->Hp->Prop,(∀O' H',N O' H'->∃m',m'<m/\W (i+1) m' O' H')/\∀x H',J.yld i H x H'->g x O H' λO2 H2=>lH K E fb { D with nx:=N,ct:=N,bk:=D.nx } O2 H2):=by
 refine⟨Xu K H0 Z0 pd b fb xs r,⟨_,rfl,Z8 _,U,s,h⟩,λi m O' H' w=>?_⟩;refine vm λG kG=>?_;obtain⟨rfl,hi,U',s',h'⟩:=w;obtain⟨i1,i2⟩:=it O' H' U' i s';by_cases hlt:i<xs.length
 . obtain⟨go,yl⟩:=i1 _ (YT hlt);rw[aap hlt]at h';obtain⟨U1,e1,e2⟩:=abd h';obtain⟨r1,e3,e4⟩:=abd e2;refine kG (.inr ⟨go,λO'' H''=>Xu K H0 Z0 pd b fb xs r (i+1) (xs.length-(i+1)) O'' H'',λO'' H'' w=>⟨_,by omega,w⟩,λx H2 hy=>hb H0 Z0 O' H2 U' pd x _ U1 _ (yl x H2 hy) e1 λO2 s2=>G9.mpr ⟨H0,Z0,U1,pd,r1,s2,e3,?_⟩⟩);cases r1 with
   | xc C U2=>cases e4; exact k
   | ok fl1=>
    cases fl1 with
    | nx U2=>exact λO3 H3 s3=>⟨rfl,hlt,U2,s3,e4⟩
    | ct U2=>exact λO3 H3 s3=>⟨rfl,hlt,U2,s3,e4⟩
    | bk U2=>cases e4; exact k
    | rt r U2=>cases e4; exact k
 . have e:i=xs.length:=Nat.le_antisymm hi (aay hlt);subst e;rw[aa0]at h';cases h';exact kG (.inl ⟨i2 rfl,k O' H' s'⟩)
theorem Lg.imp {H0:Hp} {Z0 Z₁:ZG} {pd pd':Pd} {D:Ends} {r:XR Fl} (k:Lg K H0 Z0 pd E D r) (w:∀{τ:L2.St} {J:Hp} {q:Ev},SR K H0 Z₁ τ J q pd'->SR K H0 Z0 τ J q pd) (w':∀{τ:L2.St} {J:Hp} {q:Ev} {e:V×Lc},SR K H0 Z₁ τ J q (e::pd')->SR K H0 Z0 τ J q (e::pd)):Lg K H0 Z₁ pd' E D r:=by
 cases r with
 | ok fl=>exact oK.imp (D:=D) k w w'
 | xc C U'=>exact λc O' H' hc s=>k c O' H' hc (w s)
theorem VN {tg iter:Expr} {body:List Stmt} {f:IF} {g:TG} {b:BF} {fb:SX} {pos:Pos} (hp:PassesOwn (model X.prog X.w) X.A X.env X.xe) (hc:X.calm=true) (hi:PI X tg iter (yH X.K f)) (hg:PG X tg g) (hb':GS X.K g b) (hb:eF X body (lH X.K E fb))
 (hs:∀x,foldedSetIterable iter X.env x=pure x:=by intro _; rfl):PS X (.For tg iter body [] pos) (lH X.K E (VM f b fb)):=PS.imp (JP hp hc hi hg hb hs) λD O H q=>by
 refine vm λG kG=>?_;obtain⟨H0,Z0,U,pd,r,s,h,k⟩:=G9.mp q;obtain⟨y,h1,h2⟩:=abd h;exact kG ⟨H0,Z0,U,pd,y.1,y.2,s,h1,λJ H1 pd' s1 it sub=>Lh hb' it (k.imp (λs=>s.sub sub) λs=>s.sub (sub.cons_cons _)) s1 h2⟩
end
section
variable {K:FG} {H0 H:Hp} {Z0:ZG} {O:L2.St} {U:Ev} {pd:Pd}
theorem SR.drop {i:Nat} (h:SR K H0 Z0 O H U pd) (hi:i<U.vs.length):SR K H0 Z0 (O.set i none) H (U.set i none) pd:=by
 obtain⟨el,Z,hg,z,s⟩:=h;have hU:U.vs[i]?=some U.vs[i]:=YT hi;obtain⟨R,x,hO,h1,h2⟩:=yF el hU;refine⟨by rw[Zh,Ev.set_len]; exact el,Z,hg,z,?_⟩;have s1:=(s.perm (h1 Z.g pd).symm).sub (Y4 _ _);refine Slots.perm (L:=(none,none)::(cel Z.g U.mu++(R++pd.map λe=>(some e.1,some e.2)))) ⟨λe he=>?_,?_⟩ (h2 Z.g pd none none)
 . rcases YM.mp he with rfl | he
   . trivial
   . exact s1.1 e he
 . rw[Zr rfl]; exact s1.2
end
def VP (i:Nat):Fl->Option Fl
 | .nx U=>if i<U.vs.length then some (.nx (U.set i none)) else none
 | .bk U=>if i<U.vs.length then some (.bk (U.set i none)) else none
 | .ct U=>if i<U.vs.length then some (.ct (U.set i none)) else none
 | .rt r U=>some (.rt r U)
theorem Sg {H0:Hp} {D:Ends} {i:Nat} {f fl:Fl} (h:VP i f=some fl) (k:oK K H0 Z0 pd D fl):oK K H0 Z0 pd (D.un i) f:=by
 cases f with
 | rt r U=>cases h; exact k
 | nx U=>
  have h':(if i<U.vs.length then some (Fl.nx (U.set i none)) else none)=some fl:=h;split at h'
  . rename_i hl; cases h'; exact λO' H' s=>k _ _ (s.drop hl)
  . cases h'
 | bk U=>
  have h':(if i<U.vs.length then some (Fl.bk (U.set i none)) else none)=some fl:=h;split at h'
  . rename_i hl; cases h'; exact λO' H' s=>k _ _ (s.drop hl)
  . cases h'
 | ct U=>
  have h':(if i<U.vs.length then some (Fl.ct (U.set i none)) else none)=some fl:=h;split at h'
  . rename_i hl; cases h'; exact λO' H' s=>k _ _ (s.drop hl)
  . cases h'
def yS (i:Nat) (L1 L2:List Str) (f:SF) (r:Str->SF):Str->SF:=λC U=>if C∈L1 then (if i<U.vs.length then (f (U.set i (some (.sh (.exc C))))).bind (VP i) else none) else if C∈L2 then r C U else none
section
variable {X:Cx} {E:XK}
theorem QS {x n:Str} {i:Nat} {d:Addr} {L1 L2:List Str} {b₀:Stmt} {suite:List Stmt} {pos np:Pos} {rest:List ExceptHandler} {f:SF} {r:Str->SF} (hN:X.N.Nodup) (hi:X.N[i]?=some n) (hk:X.env.scope.names.lookup n=some .local) (hg:Gl X x) (T:xY X.K X.mg x d) (h1:∀C∈L1,∃c,CN X.K C c/\W.excIn X.K c kZ lg=true/\mroIn X.K c d=true) (h2:∀C∈L2,∃c,CN X.K C c/\W.excIn X.K c kZ lg=true/\mroIn X.K c d=false)
 (hs:∀e,eF (X.hand e) (b₀::suite) (fO X.K f)) (hr:QR X rest r) (hdb:(x==("__debug__" : Str))=false:=by decide):QR X (.ExceptHandler (some (.Name x np)) (some n) (b₀::suite) pos::rest) (yS i L1 L2 f r):=by
 obtain⟨th,hr1,hr2⟩:=hr;refine⟨_,W5 hg T.mgC T.ex hN hi hk hs hr1 hdb,λH0 Z0 pd D C c U' fl O H' hc h s k=>?_⟩;unfold yS at h;unfold DK;split at h
 . rename_i hC;obtain⟨c',e1,e2,e3⟩:=h1 C hC;have:=pP hc e1;subst this;rw[aa5 e3];refine⟨e2,λe he=>?_⟩;split at h
   . rename_i hl;obtain⟨fl',h3,h4⟩:=abd h;have s1:SR X.K H0 Z0 O (upd H' e (.ext (sE e c))) U' ((.ref e,.own (.exc C))::pd):=s.newO he λZ _ _=>⟨c,hc,bA⟩;have s2:SR X.K H0 Z0 O (upd H' e (.ext (sE e c))) U' ((.ref e,.sh (.exc C))::pd):=s1.freeze;exact⟨H0,Z0,_,pd,fl',s2.store hl,h3,Sg h4 k⟩
   . cases h
 . split at h
   . rename_i hC;obtain⟨c',e1,e2,e3⟩:=h2 C hC;have:=pP hc e1;subst this;rw[aa6 (by rw[e3]; decide)];exact hr2 H0 Z0 pd D C c U' fl O H' hc h s k
   . cases h
def Je (L1 L2:List Str) (f:EF):EF:=λU=>(f U).bind λx=>match x.1.pv with
 | .exc C=>if C∈L1 then some (.sh (.bl true),x.2) else if C∈L2 then some (.sh (.bl false),x.2) else none
 | _=>none
def gw (K:FG) (cv:V) (b:Bool) (C:Str):Prop:=∃c u,CN K C c/\RelV cv u/\oJ K c/\W.kitOne K (.ref c) u=some b
theorem Oz {cv:V} {L1 L2:List Str} {f:EF} {e ce:Expr} {pp pos:Pos} (h1:∀C∈L1,gw X.K cv true C) (h2:∀C∈L2,gw X.K cv false C) (h:PE X (.Call (.Name "isinstance" pp) [e,ce] [] pos) (uL (U6 X.K cv) (mG (tP X.K f) (mG (tC cv) rZ)))):
 PE X (.Call (.Name "isinstance" pp) [e,ce] [] pos) (tP X.K (Je L1 L2 f)):=PE.imp h λO H Q q=>by
 obtain⟨H0,Z0,U,pd,r,U',s,h,k⟩:=q;obtain⟨x,h3,h4⟩:=abd h;refine⟨H0,Z0,U,pd,x.1,x.2,s,h3,λv H1 s1=>?_⟩;obtain⟨g,r1⟩:=s1.freeze.repH;cases e:x.1.pv with
 | exc C=>
  rw[e]at h4 r1;unfold Rep at r1;obtain⟨a,c,rfl,cn,hz⟩:=r1;dsimp only at h4;split at h4
  . rename_i hC;cases h4;obtain⟨c',u,e1,e2,e3,e4⟩:=h1 C hC;have:=pP cn e1;subst this;exact⟨a,c,u,true,rfl,e2,hz,e3,e4,k _ H1 (s1.pop.scal di)⟩
  . split at h4
    . rename_i hC;cases h4;obtain⟨c',u,e1,e2,e3,e4⟩:=h2 C hC;have:=pP cn e1;subst this;exact⟨a,c,u,false,rfl,e2,hz,e3,e4,k _ H1 (s1.pop.scal di)⟩
    . cases h4
 | _=>rw[e]at h4; cases h4
theorem QT {c d:Addr} (ty:W.typeIn K (.ref d)=some (.type "type")) (cl:(W.clsIn K d).isSome=true) (m:W.mroIn K c (.ref d)=some true):W.kitOne K (.ref c) (.ref d)=some true:=by
 unfold W.kitOne W.kitCls;split
 . rfl
 . dsimp only; rw[aa5 (by rw[cl,ty]; rfl)]; exact m
theorem yU {c d:Addr} (ty:W.typeIn K (.ref d)=some (.type "type")) (cl:(W.clsIn K d).isSome=true) (m:W.mroIn K c (.ref d)=some false) (nq:(Value.ref c==Value.ref d)=false):W.kitOne K (.ref c) (.ref d)=some false:=by unfold W.kitOne W.kitCls;rw[nq,aa6 (by decide)];dsimp only;rw[aa5 (by rw[cl,ty]; rfl)]; exact m
theorem Xd {c:Addr} {T:String} {b:Bool} (hk:W.kitMeta T=true) (m:W.mroIn K c (.type T)=some b):W.kitOne K (.ref c) (.type T)=some b:=by unfold W.kitOne W.kitCls;rw[show (Value.ref c==Value.type T)=false from rfl,aa6 (by decide)];dsimp only;rw[aa5 hk]; exact m
theorem Ha {d:Addr}:∀u u',RelV (.ref d) u->RelV (.ref d) u'->u=u':=λu u' h h'=>by cases h; cases h'; rfl
theorem VV {T:String}:∀u u',RelV (.ty T) u->RelV (.ty T) u'->u=u':=λu u' h h'=>by cases h; cases h'; rfl
end
section
variable {X:Cx}
def Jf (f:EF):EF:=λU=>(f U).bind λx=>match x.1.pv with
 | .lst ps=>some (.sh (.tup ps),x.2)
 | _=>none
theorem V3 {e:Expr} {f:EF} {p pos:Pos} (h:PE X (.Call (.Name "tuple" p) [e] [] pos) (uL (λxs H Q=>∃p ys,xs=[.ref p]/\((bI X.K H p ys/\∀l,H l=none->Q (.ref l) (upd H l (.tup ys)))\/(bV X.K H p ys/\Q (.ref p) H))) (gk X.K (aa f ao)))):PE X (.Call (.Name "tuple" p) [e] [] pos) (tP X.K (Jf f)):=PE.imp h λO H Q q=>by
 obtain⟨H0,Z0,U,pd,l,U',s,h,k⟩:=q;obtain⟨x,h1,h2⟩:=abd h;refine⟨H0,Z0,U,pd,[x.1],x.2,s,?_,λvs H1 e1 s1=>?_⟩
 . unfold aa ao;rw[h1];rfl
 . obtain⟨v,rfl⟩:=m8 e1;have s2:SR X.K H0 Z0 O H1 x.2 ((v,.sh x.1.pv)::pd):=SR.freeze s1;split at h2
   . rename_i ps e;cases h2;rw[e]at s2;obtain⟨el,Z,hg,z,r,so⟩:=s2.sh;unfold Rep at r;obtain⟨a,ws,rfl,r1,r2⟩:=r;refine⟨a,ws,rfl,.inl ⟨bI.same z.zh r1,λb hb=>k _ _ ?_⟩⟩;obtain⟨z',sz,s'⟩:=so.newF (o:=.tup ws) z hb;refine .mk (Z:=Z.put b (.tup ws)) el hg z' (s'.consS ?_);unfold Rep;exact⟨b,ws,rfl,bV.of bA,r2.mono sz⟩
   . cases h2
theorem SR.dkAt {v:V} {n:Nat} {ks:List Key} {ps:List PV} (s:SR K H0 Z0 O H U ((v,.sh (.ptr n))::pd)) (hm:U.mu[n]?=some (some (.dk ks ps))):
 ∃a kvs,v=.ref a/\H a=some (.dK kvs)/\(∀k p,fL (ks.zip ps) k=some p->∃u,nQ kvs k=some u/\SR K H0 Z0 O H U ((u,.sh p)::(v,.sh (.ptr n))::pd))/\(∀k,fL (ks.zip ps) k=none->nQ kvs k=none)/\
  ∀b,H b=none->SR K H0 Z0 O (upd H b (.dK kvs)) U ((.ref b,.own (.dk ks ps))::(v,.sh (.ptr n))::pd):=by
 have sdup:SR K H0 Z0 O H U ((v,.sh (.ptr n))::(v,.sh (.ptr n))::pd):=s.part λZ _ r=>r;obtain⟨a,rfl,s5⟩:=sdup.cellO hm;obtain⟨el,Z,hg,z,so⟩:=s5.top;obtain⟨_,ea,⟨kvs,hu,hk,hr⟩,_⟩:=so.1 _ YK;cases ea;refine⟨a,kvs,rfl,hu,λk p hp=>?_,λk hp=>(jb hk hr).val.2 hp,λb hb=>?_⟩
 . obtain⟨u,h1,h2⟩:=(jb hk hr).val.1 p hp;refine⟨u,h1,?_⟩;have s6:SR K H0 Z0 O H ⟨U.vs,U.mu.set n none⟩ ((u,.sh p)::(.ref a,.own (.dk ks ps))::(.ref a,.sh (.ptr n))::(.ref a,.sh (.ptr n))::pd):=.mk (Z:=Z) el hg z ((so.perm bQ).consS h2);have s7:SR K H0 Z0 O H ⟨U.vs,U.mu.set n none⟩ ((.ref a,.own (.dk ks ps))::(.ref a,.sh (.ptr n))::(u,.sh p)::(.ref a,.sh (.ptr n))::pd):=s6.perm (((List.Perm.swap _ _ _).cons _).trans (List.Perm.swap _ _ _));exact SR.cellB (pe:=pd) hm s7
 . obtain⟨z',s'⟩:=(so.perm bQ).new (o:=.dK kvs) (p:=.dk ks ps) z hb ⟨kvs,bA,hk,hr⟩;have s6:SR K H0 Z0 O (upd H b (.dK kvs)) ⟨U.vs,U.mu.set n none⟩ ((.ref b,.own (.dk ks ps))::(.ref a,.own (.dk ks ps))::(.ref a,.sh (.ptr n))::(.ref a,.sh (.ptr n))::pd):=.mk (Z:=Z) el hg z' s';have s7:SR K H0 Z0 O (upd H b (.dK kvs)) ⟨U.vs,U.mu.set n none⟩ ((.ref a,.own (.dk ks ps))::(.ref a,.sh (.ptr n))::(.ref b,.own (.dk ks ps))::(.ref a,.sh (.ptr n))::pd):=s6.perm (((List.Perm.swap _ _ _).cons _).trans (List.Perm.swap _ _ _));exact SR.cellB (pe:=pd) hm s7
def Eu (fa fb:EF):EF:=λU=>(fa U).bind λx=>(fb x.2).bind λy=>match x.1.pv,xV y.1.pv with
 | .ptr n,some k=>match y.2.mu[n]? with
  | some (some (.dk ks ps))=>(fL (ks.zip ps) k).map λp=>(.sh p,y.2)
  | _=>none
 | _,_=>none
theorem Yr {a b:Expr} {pos:Pos} {fa fb:EF} (hu:X.A.units+1<cLine) (ha:PE X a (tP X.K fa)) (hb:PE X b (tP X.K fb)) (hm:v7 b):PE X (.Subscript a b pos) (tP X.K (Eu fa fb)):=PE.imp (Ij (Gz hu) ha hb hm) λO H Q q=>by
 obtain⟨H0,Z0,U,pd,l,U',s,f,k⟩:=q;obtain⟨x,h1,h2⟩:=abd f;obtain⟨y,h3,h4⟩:=abd h2;refine⟨H0,Z0,U,pd,x.1,x.2,s,h1,λv H1 s1=>⟨H0,Z0,x.2,_,y.1,y.2,s1,h3,λw H2 s2=>?_⟩⟩;have s3:=s2.freeze.swap.freeze.swap;split at h4
 . rename_i n kk en ek;split at h4
   . rename_i ks ps em;obtain⟨p,h5,h6⟩:=abe h4;cases h6;obtain⟨_,rw'⟩:=s3.repH;have ew:=wA ek rw';have s4:=s3.pop;rw[en]at s4;obtain⟨a',kvs,rfl,e1,g1,_,_⟩:=s4.dkAt em;obtain⟨u,hu',s5⟩:=g1 kk p h5;exact⟨a',u,rfl,.inl ⟨kvs,kk,.inl e1,ew,hu'.symm⟩,k u H2 (s5.sub ((Y4 _ _).cons_cons _))⟩
   . cases h4
 . cases h4
def vK (f:EF):EF:=λU=>(f U).bind λx=>match x.1.pv with
 | .ptr n=>match x.2.mu[n]? with
  | some (some (.dk ks ps))=>some (.own (.dk ks ps),x.2)
  | _=>none
 | _=>none
theorem V4 {e:Expr} {f:EF} {p pos:Pos} (h:PE X (.Call (.Name "dict" p) [e] [] pos) (uL (λxs H Q=>∃a kvs,xs=[.ref a]/\Rd H a (.dK kvs)/\∀p,H p=none->Q (.ref p) (upd H p (.dK kvs))) (gk X.K (aa f ao)))):PE X (.Call (.Name "dict" p) [e] [] pos) (tP X.K (vK f)):=PE.imp h λO H Q q=>by
 obtain⟨H0,Z0,U,pd,l,U',s,h,k⟩:=q;obtain⟨x,h1,h2⟩:=abd h;refine⟨H0,Z0,U,pd,[x.1],x.2,s,?_,λvs H1 e1 s1=>?_⟩
 . unfold aa ao;rw[h1];rfl
 . obtain⟨v,rfl⟩:=m8 e1;have s2:SR X.K H0 Z0 O H1 x.2 ((v,.sh x.1.pv)::pd):=SR.freeze s1;split at h2
   . rename_i n en;split at h2
     . rename_i ks ps em;cases h2;rw[en]at s2;obtain⟨a,kvs,rfl,e1,_,_,g⟩:=s2.dkAt em;exact⟨a,kvs,rfl,.inl e1,λb hb=>k _ _ ((g b hb).sub ((Y4 _ _).cons_cons _))⟩
     . cases h2
   . cases h2
def wF (i:Nat) (f:EF):SF:=λU=>match U.vs[i]? with
 | some (some (.own (.dk _ _)))=>(f U).bind λy=>match y.1.pv,y.2.vs[i]? with
  | .ptr n,some (some (.own (.dk ks ps)))=>match y.2.mu[n]? with
   | some (some (.dk ls qs))=>if ks.length+ls.length<=100000 then some (.nx (y.2.set i (some (.own (qR (nj (ls.zip qs) (ks.zip ps))))))) else none
   | _=>none
  | _,_=>none
 | _=>none
theorem Sq {i:Nat} {o e:Expr} {f:EF} {apos cpos pos:Pos} (h:PS X (.Expr (.Call (.Attribute o "update" apos) [e] [] cpos) pos) (tX (Qv (qd i) (tP X.K f)))):PS X (.Expr (.Call (.Attribute o "update" apos) [e] [] cpos) pos) (fO X.K (wF i f)):=PS.imp h λD O H q=>by
 obtain⟨H0,Z0,U,pd,fl,s,h,k⟩:=q;unfold wF at h;split at h
 . rename_i ks0 ps0 e0;obtain⟨y,h1,h2⟩:=abd h;obtain⟨a,ea,s0⟩:=s.takeD e0;obtain⟨_,Z,_,z,so⟩:=s0.top;obtain⟨_,eb,⟨kvs0,hu0,_⟩,_⟩:=so.1 _ YK;cases eb;refine⟨.ref a,ea,a,rfl,.inl ⟨kvs0,.inl hu0⟩,H0,Z0,U,pd,y.1,y.2,s,h1,λw H2 s2=>?_⟩;split at h2
   . rename_i n ks ps en e3;split at h2
     . rename_i ls qs em;split at h2
       . rename_i hz;cases h2;have s3:=s2.freeze;rw[en]at s3;obtain⟨b,rfl,s5⟩:=s3.cellO em;obtain⟨a',ea',s6⟩:=s5.takeD (i:=i) e3;rw[ea]at ea';cases ea';obtain⟨el,Z,hg,z,so⟩:=s6.top;obtain⟨_,ec,⟨kvs,hu,hk,hr⟩,_⟩:=so.1 _ YK;cases ec;have so2:=so.perm (bQ.symm.cons _);obtain⟨_,ed,⟨more,hu2,hk2,hr2⟩,_⟩:=so2.1 _ (Y6 _ YK);cases ed;have hne:a≠b:=by have nd:=so2.2;have nd':(a::b::_).Nodup:=nd;exact λe=>(ZP.mp nd').1 (e▸YK)
         have rm:=dW.merge (jb hk2 hr2) (jb hk hr);obtain⟨z',s'⟩:=so.write (o:=.dK (m6 kvs more)) (q:=qR (nj (ls.zip qs) (ks.zip ps))) z ⟨m6 kvs more,bA,rm.keys,rm.vals⟩;have s7:SR X.K H0 Z0 O (upd H2 a (.dK (m6 kvs more))) _ ((.ref a,.own (qR (nj (ls.zip qs) (ks.zip ps))))::(.ref b,.own (.dk ls qs))::(.ref b,.sh (.ptr n))::pd):=.mk (Z:=Z) el hg z' s';have s8:=s7.put ea;rw[Ev.set_set]at s8;have s9:SR X.K H0 Z0 O (upd H2 a (.dK (m6 kvs more))) (y.2.set i (some (.own (qR (nj (ls.zip qs) (ks.zip ps)))))) pd:=SR.cellB (pe:=pd) (U:=y.2.set i (some (.own (qR (nj (ls.zip qs) (ks.zip ps)))))) em s8;refine⟨b,kvs,more,rfl,hu,.inl hu2,hne,?_,k O _ s9⟩;have l1:kvs.length=ks.length:=by rw[<-hk,YQ]
         have l2:more.length=ls.length:=by rw[<-hk2,YQ]
         rw[l1,l2,sizeLine_eq];omega
       . cases h2
     . cases h2
   . cases h2
 . cases h
def De (fo fv:EF):SF:=λU=>(fo U).bind λo=>match o.1.pv with
 | .ptr n=>match o.2.mu[n]? with
  | some (some (.lst _))=>(fv o.2).bind λy=>match y.1.pv,y.2.mu[n]? with
   | .lst ps,some (some (.lst ws))=>if ws.length+ps.length<=100000 then some (.nx ⟨y.2.vs,y.2.mu.set n (some (.lst (ws++ps)))⟩) else none
   | _,_=>none
  | _=>none
 | _=>none
theorem Ss {o e:Expr} {fo fv:EF} {apos cpos pos:Pos} (h:PS X (.Expr (.Call (.Attribute o "extend" apos) [e] [] cpos) pos) (tX (J2 X.K "list" (xJ X.K) (tP X.K fo) (gk X.K (aa fv ao))))):
 PS X (.Expr (.Call (.Attribute o "extend" apos) [e] [] cpos) pos) (fO X.K (De fo fv)):=PS.imp h λD O H q=>by
 obtain⟨H0,Z0,U,pd,fl,s,h,k⟩:=q;obtain⟨o',h1,h2⟩:=abd h;refine⟨H0,Z0,U,pd,o'.1,o'.2,s,h1,λv H1 s1=>?_⟩;split at h2
 . rename_i n en;split at h2
   . rename_i ws0 em0;obtain⟨y,h3,h4⟩:=abd h2;have s2:=s1.freeze;rw[en]at s2;obtain⟨a,rfl,s5⟩:=s2.cellO em0;obtain⟨_,Z,_,z,so⟩:=s5.top;obtain⟨_,ea,⟨us,hu,_⟩,_⟩:=so.1 _ YK;cases ea;refine⟨.inl ⟨rfl,us,bI.of hu⟩,H0,Z0,o'.2,_,[y.1],y.2,s2,?_,λvs H2 e2 sv=>?_⟩
     . unfold aa ao;rw[h3];rfl
     . obtain⟨v1,rfl⟩:=m8 e2;split at h4
       . rename_i ps ws ep em;split at h4
         . rename_i hz;cases h4;have s3:SR X.K H0 Z0 O H2 y.2 ((v1,.sh y.1.pv)::(.ref a,.sh (.ptr n))::pd):=SR.freeze sv;rw[ep]at s3;obtain⟨a',ea',s6⟩:=s3.swap.cellO em;cases ea';have s7:SR X.K H0 Z0 O H2 ⟨y.2.vs,y.2.mu.set n none⟩ ((v1,.sh (.lst ps))::(.ref a,.own (.lst ws))::(.ref a,.sh (.ptr n))::pd):=s6.perm ((List.Perm.swap _ _ _).trans ((List.Perm.swap _ _ _).cons _));obtain⟨b,us2,zs,rfl,hb,hu2,hl,hl2,s8⟩:=s7.extO;have hn:n<y.2.mu.length:=(YS.mp em).1;have s9:=s8.cellP (by show (y.2.mu.set n none)[n]?=_; rw[Y8 hn]);refine⟨a,b,us2,zs,rfl,rfl,hu2,hb,by rw[hl,hl2]; exact small hz,k O _ ?_⟩;have e8:(y.2.mu.set n none).set n (some (.lst (ws++ps)))=y.2.mu.set n (some (.lst (ws++ps))):=aae ..;have s10:SR X.K H0 Z0 O (upd H2 a (.lst (us2++zs))) ⟨y.2.vs,(y.2.mu.set n none).set n (some (.lst (ws++ps)))⟩ pd:=s9;rw[e8]at s10;exact s10
         . cases h4
       . cases h4
   . cases h2
 . cases h2
def yV (f:EF):TF:=λU=>(f U).bind λx=>match x.1.pv with
 | .ptr n=>match x.2.mu[n]? with
  | some (some (.lst ws))=>some (!ws.isEmpty,x.2)
  | _=>none
 | _=>none
theorem Xe {a:Expr} {f:EF} (ha:PE X a (tP X.K f)) (he:∀whole,isTrue a X.env whole=(do let v <-whole; standAt a.pos; holding [v] (truthy v))):PT X a (lA X.K (yV f)):=PT.imp (Dm ha he) λO H Q q=>by
 obtain⟨H0,Z0,U,pd,b,U',s,h,k⟩:=q;obtain⟨x,h1,h2⟩:=abd h;refine⟨H0,Z0,U,pd,x.1,x.2,s,h1,λv H1 s1=>?_⟩;split at h2
 . rename_i n en;split at h2
   . rename_i ws em;cases h2;have s2:=s1.freeze;rw[en]at s2;obtain⟨a,vs,rfl,hH,hl,_⟩:=s2.lstAt em;refine⟨_,.inl ⟨vs,bI.of hH,?_⟩,k H1 s2.pop⟩;cases vs<;>cases ws<;>first | rfl | (simp at hl)
   . cases h2
 . cases h2
theorem SR.lstCut {v:V} {n:Nat} {ps:List PV} {y z:Option Int} (s:SR K H0 Z0 O H U ((v,.sh (.ptr n))::pd)) (hm:U.mu[n]?=some (some (.lst ps))):
 ∃a vs,v=.ref a/\H a=some (.lst vs)/\∀b,H b=none->SR K H0 Z0 O (upd H b (.lst (mX vs y z))) U ((.ref b,.own (.lst (lR ps y z)))::(v,.sh (.ptr n))::pd):=by
 have sdup:SR K H0 Z0 O H U ((v,.sh (.ptr n))::(v,.sh (.ptr n))::pd):=s.part λZ _ r=>r;obtain⟨a,rfl,s5⟩:=sdup.cellO hm;obtain⟨el,Z,hg,zz,so⟩:=s5.top;obtain⟨_,ea,⟨vs,hu,hr⟩,_⟩:=so.1 _ YK;cases ea;refine⟨a,vs,rfl,hu,λb hb=>?_⟩;obtain⟨z',s'⟩:=(so.perm bQ).new (o:=.lst (mX vs y z)) (p:=.lst (lR ps y z)) zz hb ⟨_,bA,hr.cut⟩;have s6:SR K H0 Z0 O (upd H b (.lst (mX vs y z))) ⟨U.vs,U.mu.set n none⟩ ((.ref b,.own (.lst (lR ps y z)))::(.ref a,.own (.lst ps))::(.ref a,.sh (.ptr n))::(.ref a,.sh (.ptr n))::pd):=.mk (Z:=Z) el hg z' s';have s7:SR K H0 Z0 O (upd H b (.lst (mX vs y z))) ⟨U.vs,U.mu.set n none⟩ ((.ref a,.own (.lst ps))::(.ref a,.sh (.ptr n))::(.ref b,.own (.lst (lR ps y z)))::(.ref a,.sh (.ptr n))::pd):=s6.perm (((List.Perm.swap _ _ _).cons _).trans (List.Perm.swap _ _ _));exact SR.cellB (pe:=pd) hm s7
def vL (f:EF):EF:=λU=>(f U).bind λx=>match x.1.pv with
 | .ptr n=>match x.2.mu[n]? with
  | some (some p)=>some (.sh p,⟨x.2.vs,x.2.mu.set n none⟩)
  | _=>none
 | _=>none
theorem V5 {e:Expr} {f:EF} (h:PE X e (tP X.K f)):PE X e (tP X.K (vL f)):=PE.imp h λO H Q q=>by
 obtain⟨H0,Z0,U,pd,l,U',s,h,k⟩:=q;obtain⟨x,h1,h2⟩:=abd h;refine⟨H0,Z0,U,pd,x.1,x.2,s,h1,λv H1 s1=>?_⟩;split at h2
 . rename_i n en;split at h2
   . rename_i p em;cases h2;have s2:=s1.freeze;rw[en]at s2;obtain⟨a,rfl,s5⟩:=s2.cellO em;exact k _ H1 (s5.freeze.sub ((Y4 _ _).cons_cons _))
   . cases h2
 . cases h2
theorem Ew {es es':List Expr} {x1} {pos:Pos} {f:EF} {g:AF} (ha:PE X (.Tuple es' x1 pos) (tP X.K f)) (hr:PA X es (gk X.K g)):PA X (.Tuple es' x1 pos::es) (gk X.K (aa f g)):=ak ha hr rfl
theorem fB {es es':List Expr} {pos:Pos} {f:EF} {g:AF} (ha:PE X (.List es' pos) (tP X.K f)) (hr:PA X es (gk X.K g)):PA X (.List es' pos::es) (gk X.K (aa f g)):=ak ha hr rfl
theorem V6 {es vs:List Expr} {ks:List (Option Expr)} {pos:Pos} {f:EF} {g:AF} (ha:PE X (.Dict ks vs pos) (tP X.K f)) (hr:PA X es (gk X.K g)):PA X (.Dict ks vs pos::es) (gk X.K (aa f g)):=ak ha hr rfl
end
def Bw (K:FG) (mg:Str->Option Value) (x:Str):Prop:=∃a,CN K x a/\mg x=some (.ref a)
section
variable {X:Cx} {E:XK}
theorem QV {x:Str} {pos:Pos} (h:Bw X.K X.mg x) (hg:Gl X x) (hd:(x==("__debug__" : Str))=false:=by decide):PE X (.Name x pos) (tP X.K (eC (.fn x))):=by obtain⟨a,h1,h2⟩:=h;exact qc (mD (v:=.ref a) hg h2 rfl hd) λZ=>by unfold Rep; exact⟨a,rfl,h1⟩
theorem Jg (i:Nat) {x:Str} {e:Expr} {pos pos':Pos} {f:EF} (hN:X.N.Nodup) (he:PE X e (tP X.K f)) (hi:X.N[i]?=some x:=by rfl) (hx:L2.Loc X.env.scope x:=by exact Or.inr rfl) (hs:swapsWith e (some (.Name x pos')) pos.line X.env=pure false:=by rfl) (hf:X.fn x=true\/X.env.scope.names.lookup x=some .local:=by first | exact .inl rfl | exact .inr rfl | assumption):
 PS X (.Assign [.Name x pos'] e pos) (fO X.K (aP i f)):=Ku hN hi hx he hs hf
theorem Li {k i:Nat} {f:Addr} {fd:FuncData} {ps:List Str} {sp:Sp} {x:Str} {p pos:Pos} {e:Expr} {es:List Expr} {t:TA} {acR:List (Addr×Obj)} (F:kW X.prog X.w X.K X.mg X.base (lM X.prog X.w) k f fd ps sp) (hr:fH k X.A) (hN:X.N[i]?=some x) (hv:X.env.scope.names.lookup x=some .local) (hO:O[i]?=some (some (.ref f))) (hk:W.keepIn X.K (.ref f)=true) (hb:Binds X.K fd ps []) (hx:CK X acR O E)
 (ha:PA X (e::es) t) (hdb:(x==("__debug__" : Str))=false:=by decide) (he:starEach (e::es) X.env=(false,eval e X.env)::starEach es X.env:=by rfl) (hpl:(backTo pos (starEach es X.env)).any (·.1)=false:=by rfl):
 Qu X acR O (.Call (.Name x p) (e::es) [] pos) (yr sp [] E t):=by
 intro s H Q I h;obtain⟨m,hn,hl⟩:=id I.loc;obtain⟨u,r,l⟩:=hl i x _ hN hO (.inl hv);cases r;rcases l with ⟨hk',hm⟩ | ⟨hk',_⟩
 . refine wpAny_Call_Name_kw (wpAny_Name (wpAny_loadName_local I.ok.kind hk' hn hm ?_) hdb);refine W.callWith_K (h₀:=X.base) I.ok.mod.kin hk (bT (ha pos acR s O H _ I h) λus s1 ⟨vs,H1,I1,r,q⟩=>⟨I1.kIn,?_⟩) he hpl;exact yt F hr hb .nil hx I1 r q
 . rw[show X.env.kindOf x=some .local from hv]at hk';rcases hk' with z | z<;>cases z
def pG (x1:Str) (g1:GX) (x2:Str) (g2:GX) (i:Nat) (a:AF):EX:=λU=>match U.vs[i]? with
 | some (some (.sh (.fn nm)))=>if nm=x1 then gU g1 a U else if nm=x2 then gU g2 a U else none
 | _=>none
theorem Ex {acR:List (Addr×Obj)} {x x1 x2:Str} {i k1 k2:Nat} {ps:List Str} {g1 g2:GX} {e:Expr} {es:List Expr} {a:AF} {p pos:Pos} (D1:DefX X.prog X.w X.K X.mg X.base x1 k1 ps g1) (D2:DefX X.prog X.w X.K X.mg X.base x2 k2 ps g2) (V1:Bw X.K X.mg x1) (V2:Bw X.K X.mg x2) (hx:CK X acR O E) (h1:fH k1 X.A) (h2:fH k2 X.A) (hN:X.N[i]?=some x) (hv:X.env.scope.names.lookup x=some .local)
 (ha:PA X (e::es) (gk X.K a)) (hn:∀U ls U1,a U=some (ls,U1)->ls.length=ps.length) (hdb:(x==("__debug__" : Str))=false:=by decide) (he:starEach (e::es) X.env=(false,eval e X.env)::starEach es X.env:=by rfl) (hpl:(backTo pos (starEach es X.env)).any (·.1)=false:=by rfl):Qu X acR O (.Call (.Name x p) (e::es) [] pos) (vJ X.K E (pG x1 g1 x2 g2 i a)):=by
 have key:∀{nm:Str} {k:Nat} {g:GX},DefX X.prog X.w X.K X.mg X.base nm k ps g->Bw X.K X.mg nm->fH k X.A->∀(s:Shared) (H:Hp) (Q:VK),Inv X acR O H s->(∃f,O[i]?=some (some (.ref f))/\CN X.K nm f)->vJ X.K E (gU g a) O H Q->wpAny (model X.prog X.w) X.A (eval (.Call (.Name x p) (e::es) [] pos) X.env) (EP X acR O Q) X.xe s:=by intro nm k g D V hr s H Q I hf q;obtain⟨f,fd,F,hm,hk,hb⟩:=D;obtain⟨f',h3,h4⟩:=V;rw[hm]at h4;cases h4;obtain⟨f'',h5,h6⟩:=hf;have:=pP h6 h3;subst this;exact Li F hr hN hv h5 hk hb hx ha hdb he hpl s H Q I (Bv hn O H Q q)
 intro s H Q I q;obtain⟨H0,Z0,U,pd,sr,q⟩:=q;have hx:∃nm,U.vs[i]?=some (some (.sh (.fn nm))):=by
  have:∃z,pG x1 g1 x2 g2 i a U=some z:=by rcases q with ⟨l,U',h,_⟩ | ⟨C,U',h,_⟩<;>exact⟨_,h⟩
  obtain⟨z,hz⟩:=this;unfold pG at hz;split at hz
  . rename_i nm e; exact⟨nm,e⟩
  . cases hz
 obtain⟨nm,en⟩:=hx;have hf:∃f,O[i]?=some (some (.ref f))/\CN X.K nm f:=by obtain⟨v,e1,s1⟩:=sr.var en;obtain⟨g,r⟩:=s1.repH;have r:Rep X.K ⟨H,g⟩ (.fn nm) v:=r;unfold Rep at r;obtain⟨f,rfl,cn⟩:=r;exact⟨f,e1,cn⟩
 unfold pG at q;rw[en]at q;dsimp only at q;by_cases c1:nm=x1
 . rw[aa5 c1]at q;subst c1;exact key D1 V1 h1 s H Q I hf ⟨H0,Z0,U,pd,sr,q⟩
 . rw[aa6 c1]at q;by_cases c2:nm=x2
   . rw[aa5 c2]at q;subst c2;exact key D2 V2 h2 s H Q I hf ⟨H0,Z0,U,pd,sr,q⟩
   . rw[aa6 c2]at q;rcases q with ⟨_,_,z,_⟩ | ⟨_,_,z,_⟩<;>cases z
def QW (K:FG):List V->Hp->VK->Prop:=λxs H Q=>∃e c t,∃ds:List Addr,∃b,xs=[.ref e,.ref t]/\H t=some (.tup (ds.map V.ref))/\H e=some (.ext (sE e c))/\oJ K c/\W.kitAny K (.ref c) (ds.map Value.ref)=some b/\Q (.bl b) H
theorem Ey:∀{ds:List Addr} {its:List Value},Vals (ds.map V.ref) its->its=ds.map Value.ref
 | [],its,h=>by cases h; rfl
 | C::r,its,h=>by
  cases h with
  | cons a b=>cases a; rw[Ey b]; rfl
theorem Lj:mF X (.builtin "isinstance") (QW X.K):=by intro acR s O H xs us Q I r h;obtain⟨e,c,t,ds,b,rfl,ht,he,T,hb,q⟩:=h;obtain⟨u,w',rfl,ru,rw'⟩:=vals2 r;cases ru;cases rw';obtain⟨its,rv,⟨o,hp,hc,n,hd⟩,_⟩:=I.tuple (bV.of ht);have ei:=Ey rv;subst ei;obtain⟨oc,od,oD,os⟩:=o;have hc':oc=.type "tuple" := hc;have hd':oD=.seq (ds.map Value.ref).toArray n:=hd;subst hc' hd';obtain⟨⟨o,p⟩,_⟩:=I.hok e _ he;exact aaM (DG T) I.kIn p hp hb (by intro z; cases z) λtk=>⟨.bl b,H,I.tok tk,rfl,q⟩
def Jh:List Addr->TA
 | []=>rZ
 | C::r=>mG (tC (.ref C)) (Jh r)
theorem Bx {Q:List V->Hp->Prop} {H:Hp}:∀{ds:List Addr},Q (ds.map V.ref) H->Jh ds O H Q
 | [],h=>h
 | C::r,h=>Bx (Q:=λxs H2=>Q (V.ref C::xs) H2) (ds:=r) h
def QX (K:FG) (ds:List Addr) (C:Str):Prop:=∃c,CN K C c/\oJ K c/\W.kitAny K (.ref c) (ds.map Value.ref)=some false
def V7 (L:List Str) (f:EF):EF:=λU=>(f U).bind λx=>match x.1.pv with
 | .exc C=>if C∈L then some (.sh (.bl false),x.2) else none
 | _=>none
theorem Ys {ds:List Addr} {L:List Str} {f:EF} {e ce:Expr} {pp pos:Pos} (h1:∀C∈L,QX X.K ds C) (h:PE X (.Call (.Name "isinstance" pp) [e,ce] [] pos) (uL (QW X.K) (mG (tP X.K f) (mG (M9 (Jh ds)) rZ)))) (hd:ds.length<=1000):
 PE X (.Call (.Name "isinstance" pp) [e,ce] [] pos) (tP X.K (V7 L f)):=PE.imp h λO H Q q=>by
 obtain⟨H0,Z0,U,pd,r,U',s,h,k⟩:=q;obtain⟨x,h3,h4⟩:=abd h;refine⟨H0,Z0,U,pd,x.1,x.2,s,h3,λv H1 s1=>?_⟩;refine Bx (ds:=ds) ⟨by rw[YQ]; exact small (by omega),λt ht=>?_⟩;have s2:=s1.freeze;obtain⟨el,Z,hg,z,r1,so⟩:=s2.sh;obtain⟨z',lz,so'⟩:=(so.consS r1).newF z (a:=t) (o:=.tup (ds.map V.ref)) ht;have s3:SR X.K H0 Z0 O (upd H1 t (.tup (ds.map V.ref))) x.2 ((v,.sh x.1.pv)::pd):=.mk (Z:=Z.put t (.tup (ds.map V.ref))) el hg z' so';obtain⟨g,r2⟩:=s3.repH;cases e:x.1.pv with
 | exc C=>
  rw[e]at h4 r2;have h4:(if C∈L then some (Lc.sh (.bl false),x.2) else none)=some (r,U'):=h4;have r2:Rep X.K ⟨_,g⟩ (.exc C) v:=r2;unfold Rep at r2;obtain⟨a,c,rfl,cn,hz⟩:=r2;split at h4
  . rename_i hC;cases h4;obtain⟨c',e1,e3,e4⟩:=h1 C hC;have:=pP cn e1;subst this;exact⟨a,c,t,ds,false,rfl,bA,hz,e3,e4,k _ _ (s3.pop.scal di)⟩
  . cases h4
 | _=>rw[e]at h4; cases h4
theorem nox {C:Str} {d:Addr} {ds:List Addr} (h1:gw K (.ref d) false C) (h2:QX K ds C):QX K (d::ds) C:=by obtain⟨c,u,a1,a2,a3,a4⟩:=h1;obtain⟨c',b1,b2,b3⟩:=h2;have:=pP a1 b1;subst this;cases a2;refine⟨c,a1,a3,?_⟩;rw[Za];unfold W.kitAny;rw[a4];exact b3
theorem Yt {C:Str} {d:Addr} (h1:gw K (.ref d) false C):QX K [] C:=by obtain⟨c,u,a1,a2,a3,a4⟩:=h1;exact⟨c,a1,a3,rfl⟩
def Lk (f:EX):EX:=λU=>(f U).bind λx=>match x with
 | .xc C U'=>some (.xc C U')
 | _=>none
theorem Su {o:Expr} {m:Str} {f:EX} {pos:Pos} (ho:PE X o (vJ X.K E f)) (hb:attributeBase o m X.env (eval o X.env)=eval o X.env:=by rfl):PE X (.Attribute o m pos) (vJ X.K E (Lk f)):=PE.imp (JW ho hb) λO H Q q=>by
 obtain⟨H0,Z0,U,pd,s,q⟩:=q;refine⟨H0,Z0,U,pd,s,.inr ?_⟩;rcases q with ⟨l,U',h,_⟩ | ⟨C,U',h,k⟩
 . obtain⟨x,h1,h2⟩:=abd h;cases x<;>cases h2
 . obtain⟨x,h1,h2⟩:=abd h;cases x<;>cases h2;exact⟨C,U',h1,k⟩
def yW (f:EF):EF:=λU=>(f U).bind λx=>match x.1.pv with
 | .lst ps=>some (.own (.lst ps),x.2)
 | .ptr n=>match x.2.mu[n]? with
  | some (some (.lst ps))=>some (.own (.lst ps),x.2)
  | _=>none
 | _=>none
theorem Xf {f:EF} {e:Expr} {pp pos:Pos} (h:PE X (.Call (.Name "list" pp) [e] [] pos) (uL (λxs H Q=>∃p ys,xs=[.ref p]/\(bI X.K H p ys\/bV X.K H p ys)/\∀l,H l=none->Q (.ref l) (upd H l (.lst ys))) (mG (tP X.K f) rZ))):
 PE X (.Call (.Name "list" pp) [e] [] pos) (tP X.K (yW f)):=PE.imp h λO H Q q=>by
 obtain⟨H0,Z0,U,pd,r,U',s,h,k⟩:=q;obtain⟨x,h3,h4⟩:=abd h;refine⟨H0,Z0,U,pd,x.1,x.2,s,h3,λv H1 s1=>?_⟩;have s2:=s1.freeze;cases e:x.1.pv with
 | lst ps=>
  rw[e]at h4 s2;have h4:some (Lc.own (.lst ps),x.2)=some (r,U'):=h4;cases h4;obtain⟨el,Z,hg,z,r,s3⟩:=s2.sh;unfold Rep at r;obtain⟨a,vs,rfl,h1,h2⟩:=r;refine⟨a,vs,rfl,.inl (bI.same z.zh h1),λq hq=>k _ _ ?_⟩;obtain⟨z',s'⟩:=s3.new (o:=.lst vs) (p:=.lst ps) z hq ⟨_,bA,h2⟩;exact .mk el hg z' s'
 | ptr n=>
  rw[e]at h4 s2;have h4:(match x.2.mu[n]? with | some (some (.lst ps))=>some (Lc.own (.lst ps),x.2) | _=>none)=some (r,U'):=h4;split at h4
  . rename_i ps em;cases h4;obtain⟨a,vs,rfl,hH,g⟩:=s2.lstCut (y:=none) (z:=none) em;have e1:mX vs none none=vs:=by show (vs.drop 0).take (vs.length-0)=vs;rw[List.drop_zero,Nat.sub_zero,List.take_length]
    have e2:lR ps none none=ps:=by show (ps.drop 0).take (ps.length-0)=ps;rw[List.drop_zero,Nat.sub_zero,List.take_length]
    rw[e1,e2]at g;exact⟨a,vs,rfl,.inl (bI.of hH),λp hp=>k _ _ ((g p hp).sub ((Y4 _ _).cons_cons _))⟩
  . cases h4
 | _=>rw[e]at h4; cases h4
end
end PL
namespace Law
open PySem PySem.Spec PyProof.Rows L2 PL
local macro_rules | `(tactic| walk_at "sc")=>`(tactic| exact⟨rfl,rfl,rfl,by decide +kernel,rfl,by decide +kernel,by decide +kernel⟩)
def top (i:Nat):Stmt:=PySem.Challenge.pw_hushwise_k23_no_input.main.body.getD i (.Pass ⟨0,0,0,0⟩)
abbrev kE:Stmt:=top 10
abbrev nZ:Stmt:=top 11
abbrev gC:Stmt:=top 12
abbrev jQ:Stmt:=top 13
abbrev mJ:Stmt:=top 14
abbrev mK:Stmt:=top 19
abbrev jc:Stmt:=top 23
abbrev pH:Stmt:=top 24
abbrev iB:Stmt:=top 25
abbrev pI:Stmt:=top 26
abbrev lY:Stmt:=top 27
abbrev iC:Stmt:=top 29
abbrev jo:Stmt:=top 30
abbrev wG:Stmt:=top 31
abbrev pJ:Stmt:=top 32
abbrev kI:Stmt:=top 34
abbrev jd:Stmt:=top 35
abbrev gD:Stmt:=top 36
abbrev jE:Stmt:=top 37
abbrev gQ:Stmt:=top 38
abbrev mL:Stmt:=top 39
abbrev iD:Stmt:=top 40
abbrev iG:Stmt:=top 41
abbrev jF:Stmt:=top 42
abbrev mO:Stmt:=top 43
abbrev dq:Stmt:=inClass (top 16) 0
abbrev iu:Stmt:=inClass (top 16) 4
abbrev gF:Stmt:=inClass (top 16) 7
abbrev gb:Stmt:=inClass (top 16) 8
abbrev cV:Stmt:=inClass (top 28) 0
abbrev dU:Stmt:=inClass (top 28) 1
abbrev cW:Stmt:=inClass (top 28) 2
abbrev d8:Stmt:=inClass (top 28) 3
abbrev d9:Stmt:=inClass (top 28) 4
abbrev dM:Stmt:=inClass (top 28) 5
abbrev dN:Stmt:=inClass (top 28) 8
abbrev n6:Stmt:=top 38
abbrev Ez:Stmt:=top 31
abbrev xf:Stmt:=top 32
abbrev qm:Stmt:=top 29
abbrev qp:Stmt:=top 25
theorem EY:aQ ["row"] ["row"] (au kE):=by walk_at "sc"
theorem Ln:aQ ["row"] ["row"] (au nZ):=by walk_at "sc"
theorem Cd:aQ ["rows"] ["rows"] (au gC):=by walk_at "sc"
theorem kJ:aQ ["where", "above", "block", "rows", "start", "told", "row", "number", "place", "inner"] ["where", "above", "block", "rows", "start"] (au jQ):=by walk_at "sc"
theorem kO:aQ ["program", "told", "name", "rank", "params", "rows"] ["program"] (au mJ):=by walk_at "sc"
theorem Gi:aQ ["expression", "boxes"] ["expression", "boxes"] (au mK):=by walk_at "sc"
theorem Ae:aQ ["thing"] ["thing"] (au jc):=by walk_at "sc"
theorem OD:aQ ["size", "thing"] ["size", "thing"] (au pH):=by walk_at "sc"
theorem lJ:aQ ["program", "values", "box", "thing", "name"] ["program", "values"] (au iB):=by walk_at "sc"
theorem rP:aQ ["program", "values", "boxes", "box", "thing"] ["program", "values"] (au pI):=by walk_at "sc"
theorem Ji:aQ ["program", "boxes"] ["program", "boxes"] (au lY):=by walk_at "sc"
theorem rQ:aQ ["program", "values", "budget", "running"] ["program", "values", "budget"] (au iC):=by walk_at "sc"
theorem lZ:aQ ["moments", "record", "row", "time", "events"] ["moments"] (au jo):=by walk_at "sc"
theorem Lp:aQ ["program", "values", "budget", "running"] ["program", "values", "budget"] (au wG):=by walk_at "sc"
theorem Lq:aQ ["program", "values", "budget"] ["program", "values", "budget"] (au pJ):=by walk_at "sc"
theorem qZ:aQ ["_law_script", "_law_k", "_law_cell_here"] ["_law_script", "_law_k"] (au kI):=by walk_at "sc"
theorem tH:aQ ["_law_cell_here", "_law_way"] ["_law_cell_here"] (au jd):=by walk_at "sc"
theorem Ce:aQ ["_law_got", "_law_due"] ["_law_got", "_law_due"] (au gD):=by walk_at "sc"
theorem je:aQ ["_law_script", "_law_cell_here", "_law_sizes_here", "_law_k", "_law_size"] ["_law_script"] (au jE):=by walk_at "sc"
theorem mQ:aQ ["_law_script", "_law_sizes_here", "_law_values_here", "_law_k", "_law_cell_here"] ["_law_script", "_law_sizes_here"] (au gQ):=by walk_at "sc"
theorem xg:aQ ["_law_cell_here", "_law_far"] ["_law_cell_here"] (au mL):=by walk_at "sc"
theorem gK:aQ ["_law_values_here", "_law_pick", "_law_cell_here", "_law_way", "_law_at", "_law_told", "_law_held", "_law_place"] ["_law_values_here", "_law_pick", "_law_cell_here"] (au iD):=by walk_at "sc"
theorem oW:aQ ["_law_ask", "_law_program", "_law_values_here", "e", "_law_others"] ["_law_ask", "_law_program", "_law_values_here"] (au iG):=by walk_at "sc"
theorem uP:aQ ["_law_ask", "_law_program", "_law_values_here", "e"] ["_law_ask", "_law_program", "_law_values_here"] (au jF):=by walk_at "sc"
theorem mj:aQ ["_law_script", "_law_sizes_here", "_law_rows", "_law_names", "_law_program", "_law_values_here", "_law_spoiled_here", "_law_asked", "_law_got", "_law_held", "_law_moments"] ["_law_script"] (au mO):=by walk_at "sc"
theorem cI:aQ ["self", "program", "told", "lists", "number", "one", "heads", "name", "rank", "params", "rows"] ["self", "program"] (au dq):=by walk_at "sc"
theorem Fb:aQ ["self", "k"] ["self", "k"] (au iu):=by walk_at "sc"
theorem Cg:aQ ["self", "name"] ["self", "name"] (au gF):=by walk_at "sc"
theorem Af:aQ ["self", "k", "which"] ["self", "k", "which"] (au gb):=by walk_at "sc"
theorem uE:aQ ["self", "program", "values", "budget"] ["self", "program", "values", "budget"] (au cV):=by walk_at "sc"
theorem yX:aQ ["self", "numbers"] ["self", "numbers"] (au dU):=by walk_at "sc"
theorem oX:aQ ["self", "name", "numbers"] ["self", "name"] (au cW):=by walk_at "sc"
theorem q8:aQ ["self", "due"] ["self"] (au d8):=by walk_at "sc"
theorem yc:aQ ["self", "k", "time", "events"] ["self", "k", "time", "events"] (au d9):=by walk_at "sc"
theorem qt:aQ ["self", "expression", "there"] ["self", "expression"] (au dM):=by walk_at "sc"
theorem qu:aQ ["self", "k", "row"] ["self", "k"] (au dN):=by walk_at "sc"
theorem jt:aQ ["_law_script", "_law_sizes_here", "_law_values_here", "_law_k", "_law_cell_here"] ["_law_script", "_law_sizes_here"] (au n6):=by walk_at "sc"
theorem By:aQ ["program", "values", "budget", "running"] ["program", "values", "budget"] (au Ez):=by walk_at "sc"
theorem Fd:aQ ["program", "values", "budget"] ["program", "values", "budget"] (au xf):=by walk_at "sc"
theorem vM:aQ ["program", "values", "budget", "running"] ["program", "values", "budget"] (au qm):=by walk_at "sc"
theorem jl:aQ ["program", "values", "box", "thing", "name"] ["program", "values"] (au qp):=by walk_at "sc"
def wH:PV:=(.int 1000000000000)
section
variable [HK]
def nC:GF:=cJ 1 (aK (dw (tT (aB eqP (bC (aj 0) (acP 0)) (acQ "if")) cU)
 (cu (aL (aa (bC (aj 0) (acP 2)) (aa (bC (aj 0) (acP 3)) ao))))
 cG)
 (aK (dw (tT (aB eqP (bC (aj 0) (acP 0)) (acQ "while")) cU)
 (cu (aL (aa (bC (aj 0) (acP 2)) ao)))
 cG)
 (cu (aL ao))))
mutual
def mq:Nat->GF
 | 0=>λ_ _=>none
 | n+1=>cJ 1 (aK (dw (tT (aB eqP (bC (aj 0) (acP 0)) (acQ "if")) cU)
  (cu (cN (aa (acQ "if") (aa (bC (aj 0) (acP 1)) (aa (aG (gG n) (aa (bC (aj 0) (acP 2)) ao)) (aa (aG (gG n) (aa (bC (aj 0) (acP 3)) ao)) ao))))))
  cG)
  (aK (dw (tT (aB eqP (bC (aj 0) (acP 0)) (acQ "while")) cU)
  (cu (cN (aa (acQ "while") (aa (bC (aj 0) (acP 1)) (aa (aG (gG n) (aa (bC (aj 0) (acP 2)) ao)) ao)))))
  cG)
  (aK (dw (tT (aB eqP (bC (aj 0) (acP 0)) (acQ "call")) cU)
  (cu (cN (aa (acQ "call") (aa (bC (aj 0) (acP 1)) (aa (bC (aj 0) (acP 2)) (aa (eB list1 (aa (bC (aj 0) (acP 3)) ao)) ao))))))
  cG)
  (nJ 0))))
def gG:Nat->GF
 | 0=>λ_ _=>none
 | n+1=>cJ 1 (cu (dG (jL (aj 0) fP) 1 [] (aJ 0) dR (aG (mq n) (aa (aj 0) ao))))
end
def fU:Nat->GF
 | 0=>λ_ _=>none
 | n+1=>cJ 10 (aK (aP 5 (aL ao))
  (aK (jP (jL (aj 3) fP) (aJ 6)
  (aK (aP 7 (pM (aB bJ (aj 4) (eB fK (aa (aj 5) ao)))))
  (aK (lq 5 (cN (aa (aj 0) (aa (aj 1) (aa (aj 2) (aa (aG (mq 40) (aa (aj 6) ao)) ao))))))
  (jP (tD (aG nC (aa (aj 6) ao))) (ig 2 (bh (aJ 8) (bh (aJ 9) ie)))
  (qi 5 (aG (fU n) (aa (aj 0) (aa (aj 7) (aa (aj 8) (aa (aj 9) (aa (pM (aB bJ (aj 4) (eB fK (aa (aj 5) ao)))) ao)))))))))))
  (nJ 5)))
def oY:GF:=cJ 6 (aK (aP 1 (aL ao))
 (aK (jP (jL (bC (aj 0) (acP 2)) fP) (ig 4 (bh (aJ 2) (bh (aJ 3) (bh (aJ 4) (bh (aJ 5) ie)))))
 (qi 1 (aG (fU 40) (aa (aj 2) (aa (eC .non) (aa (acP 0) (aa (aj 5) (aa (pM (eB fK (aa (aj 1) ao))) ao))))))))
 (aK (qi 1 (aG (fU 40) (aa (acQ "main") (aa (eC .non) (aa (acP 0) (aa (bC (aj 0) (acP 3)) (aa (pM (eB fK (aa (aj 1) ao))) ao)))))))
 (nJ 1))))
def qD:GF:=cJ 2 (aK (dw (tT (aB eqP (bC (aj 0) (acP 0)) (acQ "num")) cU)
 (cu (bC (aj 0) (acP 1)))
 cG)
 (aK (dw (tT (aB eqP (bC (aj 0) (acP 0)) (acQ "box")) cU)
 jr
 cG)
 (aK (dw (tT (aB eqP (bC (aj 0) (acP 0)) (acQ "@")) cU)
 jr
 cG)
 jr)))
def cF:GF:=cJ 1 (cu (iR (fu "int" (aj 0)) (iR (ph (fu "bool" (aj 0))) (qQ GQ QC (acP 0) (aj 0) (eC wH)))))
def jG:GF:=cJ 2 (aK (dw (tT (aB eqP (aj 0) (acP 0)) cU)
 (cu (aG cF (aa (aj 1) ao)))
 cG)
 (cu (iR (fu "list" (aj 1)) (iR (aB eqP (eB fK (aa (aj 1) ao)) (aj 0)) (eB all1 (aa (dG (jL (aj 1) fP) 1 [] (aJ 0) dR (aG cF (aa (aj 0) ao))) ao))))))
def jH:GF:=cJ 5 (aK (dw (oM (gf (tT (fu "list" (aj 1)) eG)) (tT (aB wZ (eB fK (aa (aj 1) ao)) (eB fK (aa (bC (aj 0) (acP 0)) ao))) cU))
 jr
 cG)
 (jP (tE (bC (aj 0) (acP 0)) (aj 1)) (ig 2 (bh (aJ 2) (bh (aJ 3) ie)))
 (aK (aP 4 (bC (aj 2) (acP 0)))
 (dw (gf (tT (aG jG (aa (bC (aj 2) (acP 1)) (aa (aj 3) ao))) eG))
 jr
 cG))))
def n8:GF:=cJ 5 (aK (aP 2 oR)
 (aK (jP (tE (bC (aj 0) (acP 0)) (aj 1)) (ig 2 (bh (aJ 3) (bh (aJ 4) ie)))
 (uA 2 (bC (aj 3) (acP 0)) (vh (nA (tT (j4 (fu "list" (aj 4))) eG)) (yW (aj 4)) (aj 4))))
 (nJ 2)))
def pY:GF:=cJ 2 (cu (dG (jL (bC (aj 0) (acP 0)) fP) 3 [1] (ig 3 (bh (aJ 0) (bh (aJ 1) (bh (aJ 2) ie)))) dR (Eu (aj 3) (aj 0))))
def gm:GF:=cJ 11 (aK (aP 2 (aG oY (aa (aj 1) ao)))
 (aK (aP 3 K9)
 (aK (jP (tD (aj 2)) (ig 2 (bh (aJ 4) (bh (aJ 5) ie)))
 (pN (rO 3 (Eo (aj 5) cD (b8 (acP 3)))) (aj 4)))
 (aK (aP 6 oR)
 (aK (jP (jL (bC (aj 1) (acP 2)) fP) (ig 4 (bh (aJ 7) (bh (aJ 8) (bh (aJ 9) (bh (aJ 10) ie)))))
 (uA 6 (aj 7) (dG (jL (aj 9) fP) 2 [] (ig 2 (bh (aJ 0) (bh (aJ 1) ie))) dR (aj 0))))
 (aK (fD "Plan" "told" (aj 0) (aj 2))
 (aK (fD "Plan" "lists" (aj 0) (yP (aj 3)))
 (fD "Plan" "heads" (aj 0) (aj 6)))))))))
def my:GF:=cJ 2 (cu (eB list1 (aa (uC (dm "Plan" "lists" (aj 0)) (cN (aa (aj 1) (aa (eC .non) (aa (acP 0) ao))))) ao)))
def jJ:GF:=cJ 2 (De (dm "Running" "due" (aj 0)) (dG (Dd (aj 1)) 1 [] (aJ 0) dR (cN (aa (aj 0) (aa (acP 0) ao)))))
def iV:GF:=cJ 3 (aK (aP 2 (eV "Plan" "body" my (dm "Running" "plan" (aj 0)) (aa (aj 1) ao)))
 (aK (dw (tT (aj 2) eG)
 (pN (dm "Running" "due" (aj 0)) (cN (aa (bC (aj 2) (sG (acP 1))) (aa (acP 3) ao))))
 cG)
 (lB (eV "Running" "lay" jJ (aj 0) (aa (aj 2) ao)))))
def eE:GF:=cJ 4 (aK (fD "Running" "plan" (aj 0) (rN "Plan" gm (aa (aj 1) ao)))
 (aK (fD "Running" "boxes" (aj 0) (jj (aG n8 (aa (aj 1) (aa (aj 2) ao)))))
 (aK (fD "Running" "own" (aj 0) (jj (aL (aa (jj oR) ao))))
 (aK (fD "Running" "budget" (aj 0) (aj 3))
 (aK (fD "Running" "word" (aj 0) (acQ "done"))
 (aK (fD "Running" "moments" (aj 0) (jj (aL ao)))
 (aK (fD "Running" "due" (aj 0) (jj (aL ao)))
 (lB (eV "Running" "lay_body" iV (aj 0) (aa (acQ "main") ao))))))))))
def j6:GF:=cJ 3 (cu (eB list1 (aa (uC (dm "Plan" "lists" (aj 0)) (cN (aa (bC (bC (dm "Plan" "told" (aj 0)) (aj 1)) (acP 0)) (aa (aj 1) (aa (aj 2) ao))))) ao)))
def nD:GF:=cJ 2 (cu (bC (bC (dm "Plan" "told" (aj 0)) (aj 1)) (acP 3)))
def gM:GF:=cJ 4 (pN (dm "Running" "moments" (aj 0)) (cN (aa (aj 1) (aa (aj 2) (aa (aj 3) ao)))))
def eZ:GF:=cJ 3 (aK (aP 2 (vK (dm "Running" "boxes" (aj 0))))
 (aK (wF 2 (bC (dm "Running" "own" (aj 0)) (sG (acP 1))))
 (cu (j4 (aG qD (aa (aj 1) (aa (aj 2) ao)))))))
def jT:GF:=cJ 3 (aK (aP 2 (eV "Plan" "row" nD (dm "Running" "plan" (aj 0)) (aa (aj 1) ao)))
 (aK (lB (eV "Running" "note" gM (aj 0) (aa (aj 1) (aa (acP 0) (aa (aL ao) ao)))))
 (dw (tT (aB eqP (bC (aj 2) (acP 0)) (acQ "if")) cU)
 (lB (eV "Running" "lay" jJ (aj 0) (aa (eV "Plan" "block" j6 (dm "Running" "plan" (aj 0)) (aa (aj 1) (aa (vh (tT (aB eqP (eV "Running" "value" eZ (aj 0) (aa (bC (aj 2) (acP 1)) ao)) (acP 0)) cU) (acP 1) (acP 0)) ao))) ao)))
 (dw (tT (aB eqP (bC (aj 2) (acP 0)) (acQ "while")) cU)
 jr
 (dw (tT (aB eqP (bC (aj 2) (acP 0)) (acQ "call")) cU)
 jr
 (dw (tT (aB eqP (bC (aj 2) (acP 0)) (acQ "put")) cU)
 jr
 jr))))))
def fW:GF:=cJ 2 (aK (aP 1 (wC (dm "Running" "due" (aj 0))))
 (dw (tT (aB eqP (bC (aj 1) (acP 1)) (acP 0)) cU)
 (lB (eV "Running" "begin" jT (aj 0) (aa (bC (aj 1) (acP 0)) ao)))
 (dw (tT (aB eqP (bC (aj 1) (acP 1)) (acP 2)) cU)
 jr
 (lB (eV "Running" "note" gM (aj 0) (aa (bC (aj 1) (acP 0)) (aa (bC (aj 1) (acP 1)) (aa (aL ao) ao))))))))
def iH:GF:=cJ 4 (aK (lB (j4 (aG jH (aa (aj 0) (aa (aj 1) ao)))))
 (aK (aP 3 (rN "Running" eE (aa (aj 0) (aa (aj 1) (aa (aj 2) ao)))))
 (aK (qO 1000 (yV (dm "Running" "due" (aj 3)))
 (lB (eV "Running" "step" fW (aj 3) ao)))
 (nJ 3))))
def nF:GF:=cJ 5 (aK (aP 1 (aL ao))
 (aK (jP (jL (vL (aj 0)) fP) (ig 3 (bh (aJ 2) (bh (aJ 3) (bh (aJ 4) ie))))
 (qi 1 (dG (jL (aj 4) fP) 3 [2] (ig 3 (bh (aJ 0) (bh (aJ 1) (bh (aJ 2) ie)))) dR (cN (aa (aj 3) (aa (aj 0) (aa (aj 1) (aa (aj 2) ao))))))))
 (nJ 1)))
def yZ:GF:=cJ 4 (aK (aP 3 (aG iH (aa (aj 0) (aa (aj 1) (aa (aj 2) ao)))))
 (cu (cN (aa (dm "Running" "word" (aj 3)) (aa (aG nF (aa (dm "Running" "moments" (aj 3)) ao)) (aa (aG pY (aa (aj 0) (aa (dm "Running" "boxes" (aj 3)) ao))) ao))))))
def pK:GF:=cJ 3 (cu (dm "Running" "moments" (aG iH (aa (aj 0) (aa (aj 1) (aa (aj 2) ao))))))
def bD:GF:=cJ 3 (aK (aP 2 (aB bJ (aB bJ (aB fJ (aj 1) (aj 1)) (aB fJ (acP 11) (aj 1))) (acP 3)))
 (aK (dw (tT (aB KC (eQ (aj 0)) (acP 0)) cU)
 (aP 2 (aB bJ (aB bU (jk (aj 0) (aB bU (aj 1) (eQ (aj 0)))) (acP 1000000000039)) (aB fJ (aB eU (aj 1) (eQ (aj 0))) (acP 7907))))
 cG)
 (cu (aB bU (aB bJ (aB fJ (aj 2) (acP 69621)) (aB fJ (aB eU (aj 1) (eB max2 (aa (acP 1) (aa (eQ (aj 0)) ao)))) (acP 40014))) (acP 2147483629)))))
def dz:GF:=cJ 2 (aK (aP 1 (aB bU (aj 0) (acP 4)))
 (aK (dw (tT (aB lE (aj 1) (acP 0)) cU)
 (cu (aB bU (aB eU (aj 0) (acP 4)) (acP 6)))
 cG)
 (aK (dw (tT (aB lE (aj 1) (acP 1)) cU)
 (cu (aB Eg (aB Eg (aB ut (acP 10) (acP 12)) (acP 1)) (aB bU (aB eU (aj 0) (acP 4)) (acP 4))))
 cG)
 (aK (dw (tT (aB lE (aj 1) (acP 2)) cU)
 (cu (aB bJ (acP 999997) (aB bU (aB eU (aj 0) (acP 4)) (acP 7))))
 cG)
 (cu (aB bU (aB fJ (aj 0) (acP 465661287)) (aB ut (acP 10) (acP 12))))))))
def cj:Nat->GF
 | 0=>λ_ _=>none
 | n+1=>cJ 2 (aK (dw (tT (Ou ["list", "tuple"] (aj 1)) eG)
  (aK (dw (oM (tT (aB wZ (fu "list" (aj 0)) (fu "list" (aj 1))) cU) (tT (aB wZ (fu "tuple" (aj 0)) (fu "tuple" (aj 1))) cU))
  (cu (eC (.bl false)))
  cG)
  (cu (iR (aB eqP (eB fK (aa (aj 0) ao)) (eB fK (aa (aj 1) ao))) (eB all1 (aa (dG (cZ (aa (eB fK (aa (aj 1) ao)) ao)) 1 [0,1] (aJ 0) dR (aG (cj n) (aa (bC (aj 1) (aj 0)) (aa (bC (aj 2) (aj 0)) ao)))) ao)))))
  cG)
  (aK (dw (tT (fu "str" (aj 1)) eG)
  (cu (iR (fu "str" (aj 0)) (aB eqP (aj 0) (aj 1))))
  cG)
  (aK (dw (tT (aB Od (aj 1) (eC .non)) cU)
  (cu (aB Od (aj 0) (eC .non)))
  cG)
  (cu (iR (fu "int" (aj 0)) (iR (ph (fu "bool" (aj 0))) (aB eqP (aj 0) (aj 1))))))))
def mz:GF:=cJ 5 (aK (aP 1 (aG bD (aa (aj 0) (aa (acP 0) ao))))
 (aK (aP 2 (aL ao))
 (aK (jP (cZ (aa (aB bU (aj 1) (acP 13)) ao)) (aJ 3)
 (aK (aP 4 (acP 0))
 (aK (dw (tT (aB lE (aB bU (aB bU (aB fJ (aB bJ (aB eU (aj 1) (acP 13)) (acP 1)) (aB bJ (aB fJ (aj 3) (aj 3)) (acP 48271))) (acP 65537)) (acP 2)) (acP 1)) cU)
 (aP 4 (aB bJ (acP 1) (aB bU (aB bJ (aB eU (aj 1) (acP 13)) (aj 3)) (acP 8))))
 cG)
 (lq 2 (aj 4)))))
 (nJ 2))))
def j7:GF:=cJ 5 (aK (aP 2 (aL ao))
 (aK (jP (cZ (aa (eQ (aj 1)) ao)) (aJ 3)
 (aK (aP 4 (aG bD (aa (aj 0) (aa (aB bJ (acP 1) (aj 3)) ao))))
 (dw (tT (aB lE (jk (aj 1) (aj 3)) (acP 0)) cU)
 (lq 2 (aG dz (aa (aj 4) ao)))
 (lq 2 (dG (cZ (aa (jk (aj 1) (aj 3)) ao)) 1 [4] (aJ 0) dR (aG dz (aa (aB bU (aB fJ (aj 1) (aB bJ (aB fJ (aj 0) (aj 0)) (acP 16807))) (acP 2147483587)) ao)))))))
 (nJ 2)))
def il:GF:=cJ 2 (aK (aP 1 (aB bU (aB fJ (aB eU (aj 0) (acP 18)) (aB bU (aB eU (aj 0) (acP 9)) (acP 2))) (aB ut (acP 10) (acP 12))))
 (cu (jk (aL (aa (eC .non) (aa (eC (.bl true)) (aa (eC (.bl false)) (aa (acQ "1") (aa (aB Eg (sG (acP 1)) (aj 1)) (aa (aB bJ (aB ut (acP 10) (acP 12)) (aj 1)) (aa (cN (aa (acP 1) (aa (acP 2) ao))) (aa (aL ao) (aa (aL (aa (acP 3) ao)) ao)))))))))) (aB bU (aj 0) (acP 9)))))
def iI:GF:=cJ 8 (aK (aP 3 (aB bU (aj 1) (acP 6)))
 (aK (dw (tT (aB lE (eQ (aj 0)) (acP 0)) cU)
 (cu (jk (aL (aa (aL (aa (acP 7) ao)) (aa (aL (aa (aL ao) ao)) (aa (aL (aa (eC .non) ao)) (aa (aL (aa (eC (.bl true)) ao)) (aa (aL (aa (acQ "1") ao)) (aa (aL (aa (aL (aa (acP 7) (aa (acP 7) ao))) ao)) ao))))))) (aj 3)))
 cG)
 (aK (aP 4 (aB bU (aB eU (aj 1) (acP 6)) (eQ (aj 0))))
 (aK (dw (tT (aB lE (aj 3) (acP 0)) cU)
 (cu (aB bJ (dJ (aj 0) cD (b8 (aj 4))) (dJ (aj 0) (b8 (aB bJ (aj 4) (acP 1))) cD)))
 cG)
 (aK (dw (tT (aB lE (aj 3) (acP 1)) cU)
 (cu (aB bJ (aB bJ (dJ (aj 0) cD (b8 (aj 4))) (dJ (dJ (aL (aa (aL ao) (aa (acP 7) (aa (aL (aa (acP 7) ao)) ao)))) (b8 (aB bU (aj 2) (acP 3))) cD) cD (b8 (acP 1)))) (dJ (aj 0) (b8 (aj 4)) cD)))
 cG)
 (aK (aP 5 (eB list1 (aa (aj 0) ao)))
 (aK (aP 6 (jk (aj 0) (aj 4)))
 (aK (uv 5 (aj 4) (aG il (aa (aj 2) ao)))
 (aK (dw (tT (fu "list" (aj 6)) eG)
 (aK (aP 7 (aB bU (aB eU (aj 2) (acP 9)) (eQ (aj 6))))
 (aK (uv 5 (aj 4) (jk (aL (aa (acP 5) (aa (eC .non) (aa (Jf (aj 6)) (aa (dJ (aj 6) (b8 (acP 1)) cD) (aa (aB bJ (aj 6) (dJ (aj 6) cD (b8 (acP 1)))) ao)))))) (aB bU (aj 2) (acP 5))))
 (dw (tT (aB KC (aj 3) (acP 3)) cU)
 (uv 5 (aj 4) (aB bJ (aB bJ (dJ (aj 6) cD (b8 (aj 7))) (aL (aa (aG il (aa (aj 2) ao)) ao))) (dJ (aj 6) (b8 (aB bJ (aj 7) (acP 1))) cD)))
 cG)))
 cG)
 (nJ 5))))))))))
def ju:GX:=uD 5 (pB (w5 (oM (gf (tT (fu "list" (aj 1)) eG)) (tT (aB wZ (eB fK (aa (aj 1) ao)) (eB fK (aa (bC (aj 0) (acP 0)) ao))) cU))
 (qY "NoInput" xZ)
 (nO cG))
 (VM (tE (bC (aj 0) (acP 0)) (aj 1)) (ig 2 (bh (aJ 2) (bh (aJ 3) ie)))
 (pB (nO (aP 4 (bC (aj 2) (acP 0))))
 (w5 (gf (tT (aG jG (aa (bC (aj 2) (acP 1)) (aa (aj 3) ao))) eG))
 (qY "NoInput" (jR (aj 4) xZ))
 (nO cG)))))
def fY:GX:=uD 4 (pB (xB (gU ju (aa (aj 0) (aa (aj 1) ao))) yR)
 (pB (nO jr)
 (pB (nO jr)
 (nO jr))))
def mC:GX:=uD 4 (pB (xB (gU fY (aa (aj 0) (aa (aj 1) (aa (aj 2) ao)))) (Jd 3))
 (nO jr))
def iw:GX:=uD 3 (xB (Lk (gU fY (aa (aj 0) (aa (aj 1) (aa (aj 2) ao))))) Vz)
def iJ:GF:=cJ 5 (aK (Et (xB (pG "run" mC "traced" iw 0 (aa (aj 1) (aa (aj 2) (aa (acP 3) ao)))) yR) (yS 3 ["NoInput"] [] (aK (aP 4 (V7 ["NoInput"] (aj 3)))
 (cu (iR (Je ["NoInput"] [] (aj 3)) (iR (Je ["NoInput"] [] (aj 3)) (ph (aj 4)))))) Ox))
 (cu (eC (.bl false))))
def jK:GF:=cJ 4 (aK (Et (xB (pG "run" mC "traced" iw 0 (aa (aj 1) (aa (aj 2) (aa (acP 0) ao)))) yR) (yS 3 ["NoInput"] [] (cu (Je ["NoInput"] [] (aj 3))) Ox))
 (cu (eC (.bl false))))
def iT:GF:=cJ 5 (aK (aP 2 (aL ao))
 (aK (jP (cZ (aa (eQ (aj 1)) ao)) (aJ 3)
 (aK (aP 4 (aG bD (aa (aj 0) (aa (aB bJ (acP 1) (aj 3)) ao))))
 (dw (tT (aB lE (jk (aj 1) (aj 3)) (acP 0)) cU)
 (lq 2 (aG dz (aa (aj 4) ao)))
 (lq 2 (jj (dG (cZ (aa (jk (aj 1) (aj 3)) ao)) 1 [4] (aJ 0) dR (aG dz (aa (aB bU (aB fJ (aj 1) (aB bJ (aB fJ (aj 0) (aj 0)) (acP 16807))) (acP 2147483587)) ao))))))))
 (nJ 2)))
def Jj:GF:=cJ 11 (aK (aP 1 (aG mz (aa (aj 0) ao)))
 (aK (aP 2 (IV (aL (aa (cN (aa (acQ "if") (aa (cN (aa (acQ "num") (aa (acP 0) ao))) (aa (aL ao) (aa (aL ao) ao))))) ao)) (aB bU (aG bD (aa (aj 0) (aa (acP 13) ao))) (acP 4))))
 (aK (aP 3 (aL (aa (acQ "a") (aa (acQ "b") (aa (acQ "ab") (aa (acQ "ba") (aa (acQ "c") (aa (acQ "cab") (aa (acQ "abc") (aa (acQ "d") (aa (acQ "da") (aa (acQ "dd") (aa (acQ "ddd") (aa (acQ "e") ao))))))))))))))
 (aK (aP 4 (cN (aa (dG (cZ (aa (eQ (aj 1)) ao)) 1 [3,1] (aJ 0) dR (cN (aa (jk (aj 1) (aj 0)) (aa (jk (aj 2) (aj 0)) (aa (eC .non) ao))))) (aa (aL ao) (aa (aL ao) (aa (aj 2) ao))))))
 (aK (aP 5 (aG j7 (aa (aj 0) (aa (aj 1) ao))))
 (aK (aP 6 (aG iI (aa (aj 5) (aa (aG bD (aa (aj 0) (aa (acP 14) ao))) (aa (aG bD (aa (aj 0) (aa (acP 15) ao))) ao)))))
 (aK (dw (oM (gf (tT (aG iJ (aa (eC (.fn "run")) (aa (aj 4) (aa (aj 6) ao)))) eG)) (gf (tT (aG iJ (aa (eC (.fn "traced")) (aa (aj 4) (aa (aj 6) ao)))) eG)))
 (cu (eC (.bl false)))
 cG)
 (aK (dw (oM (gf (tT (aG jK (aa (eC (.fn "run")) (aa (aj 4) (aa (aj 6) ao)))) eG)) (gf (tT (aG jK (aa (eC (.fn "traced")) (aa (aj 4) (aa (aj 6) ao)))) eG)))
 (cu (eC (.bl false)))
 cG)
 (aK (aP 7 (aG iT (aa (aj 0) (aa (aj 1) ao))))
 (aK (aP 8 (aG yZ (aa (aj 4) (aa (aj 7) (aa (aB bU (aG bD (aa (aj 0) (aa (acP 16) ao))) (acP 21)) ao)))))
 (aK (dw (oM (gf (tT (aG (cj 40) (aa (aj 8) (aa (cN (aa (acQ "done") (aa (aL ao) (aa (aj 5) ao)))) ao))) eG)) (nA (tT (aB K6 (aj 7) (aj 5)) cU)))
 (cu (eC (.bl false)))
 cG)
 (aK (jP (jL (aj 7) fP) (aJ 9)
 (dw (nA (tT (j4 (fu "list" (aj 9))) eG))
 (pN (aj 9) (acP 1))
 cG))
 (aK (aP 10 (aB bJ (dG (cZ (aa (eQ (aj 2)) ao)) 1 [] (aJ 0) dR (cN (aa (aj 0) (aa (acP 0) (aa (aL ao) ao))))) (dJ (dG (cZ (aa (eQ (aj 2)) ao)) 1 [] (aJ 0) dR (cN (aa (aj 0) (aa (acP 3) (aa (aL ao) ao))))) (b8 (sG (acP 1))) cD)))
 (cu (iR (aB lE (aj 8) (cN (aa (acQ "done") (aa (aL ao) (aa (aj 5) ao))))) (qW (cj 40) (aa (aG pK (aa (aj 4) (aa (aj 5) (aa (acP 0) ao)))) (aa (aj 10) ao))))))))))))))))))
variable {P:Program} {w:World} {K:FG} {mg:Str->Option Value} {base:Heap}
theorem Sv {X:Cx} {pos:Pos} (h:∃t,X.mg "LIMIT" = some (.int 1000000000000 t)) (hg:Gl X "LIMIT"):PE X (.Name "LIMIT" pos) (tP X.K (eC wH)):=by obtain⟨t,h⟩:=h;exact qc (mD (v:=.int 1000000000000) hg h ⟨_,rfl⟩) fj
abbrev BL:List Str:=["ValueError", "all", "bool", "dict", "enumerate", "int", "isinstance", "len", "list", "max", "range", "reversed", "str", "tuple", "zip"]
section
variable {mg:Str->Option Value} (B:Vk mg BL)
include B
theorem Fe:mg "ValueError" = none:=B _ (.head _)
theorem QZ:mg "all" = none:=B _ (.tail _ (.head _))
theorem Lr:mg "bool" = none:=B _ (.tail _ (.tail _ (.head _)))
theorem V8:mg "dict" = none:=B _ (.tail _ (.tail _ (.tail _ (.head _))))
theorem xj:mg "enumerate" = none:=B _ (.tail _ (.tail _ (.tail _ (.tail _ (.head _)))))
theorem Q0:mg "int" = none:=B _ (.tail _ (.tail _ (.tail _ (.tail _ (.tail _ (.head _))))))
theorem bH:mg "isinstance" = none:=B _ (.tail _ (.tail _ (.tail _ (.tail _ (.tail _ (.tail _ (.head _)))))))
theorem fG:mg "len" = none:=B _ (.tail _ (.tail _ (.tail _ (.tail _ (.tail _ (.tail _ (.tail _ (.head _))))))))
theorem jm:mg "list" = none:=B _ (.tail _ (.tail _ (.tail _ (.tail _ (.tail _ (.tail _ (.tail _ (.tail _ (.head _)))))))))
theorem Xg:mg "max" = none:=B _ (.tail _ (.tail _ (.tail _ (.tail _ (.tail _ (.tail _ (.tail _ (.tail _ (.tail _ (.head _))))))))))
theorem mR:mg "range" = none:=B _ (.tail _ (.tail _ (.tail _ (.tail _ (.tail _ (.tail _ (.tail _ (.tail _ (.tail _ (.tail _ (.head _)))))))))))
theorem Jk:mg "reversed" = none:=B _ (.tail _ (.tail _ (.tail _ (.tail _ (.tail _ (.tail _ (.tail _ (.tail _ (.tail _ (.tail _ (.tail _ (.head _))))))))))))
theorem Q3:mg "str" = none:=B _ (.tail _ (.tail _ (.tail _ (.tail _ (.tail _ (.tail _ (.tail _ (.tail _ (.tail _ (.tail _ (.tail _ (.tail _ (.head _)))))))))))))
theorem wI:mg "tuple" = none:=B _ (.tail _ (.tail _ (.tail _ (.tail _ (.tail _ (.tail _ (.tail _ (.tail _ (.tail _ (.tail _ (.tail _ (.tail _ (.tail _ (.head _))))))))))))))
theorem Jl:mg "zip" = none:=B _ (.tail _ (.tail _ (.tail _ (.tail _ (.tail _ (.tail _ (.tail _ (.tail _ (.tail _ (.tail _ (.tail _ (.tail _ (.tail _ (.tail _ (.head _)))))))))))))))
end
section
variable (P:Program) (w:World) (K:FG) (mg:Str->Option Value) (base:Heap) (c:Addr)
abbrev vN:=aZ P w K mg base "blocks_of" 1 ["row"] (bj K 1 nC)
abbrev BJ:=aZ P w K mg base "copied" 40 ["row"] (bj K 1 (mq 40))
abbrev Tj:=aZ P w K mg base "all_copied" 40 ["rows"] (bj K 1 (gG 40))
abbrev Gj:=aZ P w K mg base "laid_out" 80 ["where", "above", "block", "rows", "start"] (bj K 5 (fU 40))
abbrev Gk:=aZ P w K mg base "numbered" 81 ["program"] (bj K 1 oY)
abbrev Gm:=aZ P w K mg base "value_of" 1 ["expression", "boxes"] (bj K 2 qD)
abbrev Ag:=aZ P w K mg base "can_be_held" 1 ["thing"] (bj K 1 cF)
abbrev Ff:=aZ P w K mg base "suits" 2 ["size", "thing"] (bj K 2 jG)
abbrev zc:=aZ P w K mg base "refuse_input" 3 ["program", "values"] (bj K 2 jH)
abbrev Ls:=aZ P w K mg base "filled" 1 ["program", "values"] (bj K 2 n8)
abbrev Jm:=aZ P w K mg base "emptied" 1 ["program", "boxes"] (bj K 2 pY)
abbrev wJ:=IW P w K mg base c 82 ["self", "program"] (bj K 2 gm)
abbrev Ci:=lG P w K mg base c "body" 1 ["self", "name"] (bj K 2 my)
abbrev rR:=lG P w K mg base c "lay" 1 ["self", "numbers"] (bj K 2 jJ)
abbrev uF:=lG P w K mg base c "lay_body" 2 ["self", "name"] (bj K 2 iV)
abbrev uG:=IW P w K mg base c 84 ["self", "program", "values", "budget"] (bj K 4 eE)
abbrev Ah:=lG P w K mg base c "block" 1 ["self", "k", "which"] (bj K 3 j6)
abbrev Fg:=lG P w K mg base c "row" 1 ["self", "k"] (bj K 2 nD)
abbrev q9:=lG P w K mg base c "note" 1 ["self", "k", "time", "events"] (bj K 4 gM)
abbrev wK:=lG P w K mg base c "value" 2 ["self", "expression"] (bj K 2 eZ)
abbrev wL:=lG P w K mg base c "begin" 3 ["self", "k"] (bj K 2 jT)
abbrev yd:=lG P w K mg base c "step" 4 ["self"] (bj K 1 fW)
abbrev rT:=aZ P w K mg base "gone_through" 86 ["program", "values", "budget"] (bj K 3 iH)
abbrev Fi:=aZ P w K mg base "record_of" 1 ["moments"] (bj K 1 nF)
abbrev V9:=aZ P w K mg base "run" 87 ["program", "values", "budget"] (bj K 3 yZ)
abbrev Lw:=aZ P w K mg base "traced" 87 ["program", "values", "budget"] (bj K 3 pK)
abbrev oZ:=aZ P w K mg base "_law_cell" 1 ["_law_script", "_law_k"] (bj K 2 bD)
abbrev tK:=aZ P w K mg base "_law_number" 1 ["_law_cell_here"] (bj K 1 dz)
abbrev Cj:=aZ P w K mg base "_law_alike" 40 ["_law_got", "_law_due"] (bj K 2 (cj 40))
abbrev Ck:=aZ P w K mg base "_law_sizes" 2 ["_law_script"] (bj K 1 mz)
abbrev Ai:=aZ P w K mg base "_law_values" 2 ["_law_script", "_law_sizes_here"] (bj K 2 j7)
abbrev Gn:=aZ P w K mg base "_law_odd" 1 ["_law_cell_here"] (bj K 1 il)
abbrev zf:=aZ P w K mg base "_law_spoiled" 2 ["_law_values_here", "_law_pick", "_law_cell_here"] (bj K 3 iI)
abbrev zg:=aZ P w K mg base "_law_refused" 6 ["_law_ask", "_law_program", "_law_values_here"] (bj K 3 iJ)
abbrev Cm:=aZ P w K mg base "_law_based" 6 ["_law_ask", "_law_program", "_law_values_here"] (bj K 3 jK)
abbrev wM:=aZ P w K mg base "_law_values" 2 ["_law_script", "_law_sizes_here"] (bj K 2 iT)
end
variable (B:Vk mg BL) (abl:∃t,mg "LIMIT" = some (.int 1000000000000 t)) {abn:Addr} (abk:qT K mg "Plan" abn) (abm:∀f∈(["told", "lists", "heads"]:List Str),jU K abn f) {abi:Addr} (abg:qT K mg "Running" abi) (abh:∀f∈(["plan", "boxes", "own", "budget", "word", "moments", "due"]:List Str),jU K abi f) (hkx:HK.hk=yD P w) {abq:Addr} (XT_HushError:xY K mg "HushError" abq) {abj:Addr} (XT_NoInput:xY K mg "NoInput" abj) (Y_HushError:∀C∈(["NoInput"]:List Str),∃c,CN K C c/\W.excIn K c kZ lg=true/\mroIn K c abq=true) (Z_HushError:∀C∈([]:List Str),∃c,CN K C c/\W.excIn K c kZ lg=true/\mroIn K c abq=false) (Y_NoInput:∀C∈(["NoInput"]:List Str),∃c,CN K C c/\W.excIn K c kZ lg=true/\mroIn K c abj=true) (Z_NoInput:∀C∈([]:List Str),∃c,CN K C c/\W.excIn K c kZ lg=true/\mroIn K c abj=false) {v_HushError:Addr} (V_HushError:mg "HushError" = some (.ref v_HushError)) (I_HushError:∀C∈(["NoInput"]:List Str),gw K (.ref v_HushError) true C) (J_HushError:∀C∈([]:List Str),gw K (.ref v_HushError) false C) {v_NoFit:Addr} (V_NoFit:mg "NoFit" = some (.ref v_NoFit)) (I_NoFit:∀C∈([]:List Str),gw K (.ref v_NoFit) true C) (J_NoFit:∀C∈(["NoInput"]:List Str),gw K (.ref v_NoFit) false C) {v_NoInput:Addr} (V_NoInput:mg "NoInput" = some (.ref v_NoInput)) (I_NoInput:∀C∈(["NoInput"]:List Str),gw K (.ref v_NoInput) true C) (J_NoInput:∀C∈([]:List Str),gw K (.ref v_NoInput) false C) {v_NoName:Addr} (V_NoName:mg "NoName" = some (.ref v_NoName)) (I_NoName:∀C∈([]:List Str),gw K (.ref v_NoName) true C) (J_NoName:∀C∈(["NoInput"]:List Str),gw K (.ref v_NoName) false C) {v_NoOrder:Addr} (V_NoOrder:mg "NoOrder" = some (.ref v_NoOrder)) (I_NoOrder:∀C∈([]:List Str),gw K (.ref v_NoOrder) true C) (J_NoOrder:∀C∈(["NoInput"]:List Str),gw K (.ref v_NoOrder) false C) {v_NoRow:Addr} (V_NoRow:mg "NoRow" = some (.ref v_NoRow)) (I_NoRow:∀C∈([]:List Str),gw K (.ref v_NoRow) true C) (J_NoRow:∀C∈(["NoInput"]:List Str),gw K (.ref v_NoRow) false C) {v_NoText:Addr} (V_NoText:mg "NoText" = some (.ref v_NoText)) (I_NoText:∀C∈([]:List Str),gw K (.ref v_NoText) true C) (J_NoText:∀C∈(["NoInput"]:List Str),gw K (.ref v_NoText) false C) (I_ValueError:∀C∈(["NoInput"]:List Str),gw K (.ty "ValueError") true C) (J_ValueError:∀C∈([]:List Str),gw K (.ty "ValueError") false C) (FV_run:Bw K mg "run") (FV_traced:Bw K mg "traced")
include B abl abk abm abg abh hkx XT_HushError XT_NoInput Y_HushError Z_HushError Y_NoInput Z_NoInput V_HushError I_HushError J_HushError V_NoFit I_NoFit J_NoFit V_NoInput I_NoInput J_NoInput V_NoName I_NoName J_NoName V_NoOrder I_NoOrder J_NoOrder V_NoRow I_NoRow J_NoRow V_NoText I_NoText J_NoText I_ValueError J_ValueError FV_run FV_traced
theorem Fj (F:aV K mg "blocks_of" kE ["row"]):aZ P w K mg base "blocks_of" 1 ["row"] (bj K 1 nC):=
 F.ok (k:=0) EY λf cdv A outer s H E hr=>⟨_,λ_ _=>rfl,(aA (cC (cX (eN hr) eO (qI (qw 0)) gq (bO _))
  (aC (bL (cO (ak (qI (qw 0)) (ak (qI (qw 0)) aq)))))
  bW)
  (aA (cC (cX (eN hr) eO (qI (qw 0)) gq (bO _))
  (aC (bL (cO (ak (qI (qw 0)) aq))))
  bW)
  (aC (bL (cO aq)))))⟩
theorem Lx {n:Nat} (F:aV K mg "copied" nZ ["row"]) (abN:aZ P w K mg base "all_copied" (0+n) ["rows"] (bj K 1 (gG n))):aZ P w K mg base "copied" (0+n+1) ["row"] (bj K 1 (mq (n+1))):=
 F.ok (k:=0+n) Ln λf cdv A outer s H E hr=>⟨_,λ_ _=>rfl,(aA (cC (cX (eN hr) eO (qI (qw 0)) gq (bO _))
  (aC (bL (jz (ak gq (ak (qI (qw 0)) (ak (bR abN (hr.mono (by omega)) rfl (ak (qI (qw 0)) aq) (az aN)) (ak (bR abN (hr.mono (by omega)) rfl (ak (qI (qw 0)) aq) (az aN)) aq)))))))
  bW)
  (aA (cC (cX (eN hr) eO (qI (qw 0)) gq (bO _))
  (aC (bL (jz (ak gq (ak (qI (qw 0)) (ak (bR abN (hr.mono (by omega)) rfl (ak (qI (qw 0)) aq) (az aN)) aq))))))
  bW)
  (aA (cC (cX (eN hr) eO (qI (qw 0)) gq (bO _))
  (aC (bL (jz (ak gq (ak (qI (qw 0)) (ak (qI (qw 0)) (ak (PE.imp (lK lL (by rfl) (jm B) (by kernel_rfl) (ak (qI (qw 0)) aq)) (vA ww)) aq)))))))
  bW)
  (aC (kh (pv 0))))))⟩
theorem Cp {n:Nat} (F:aV K mg "all_copied" gC ["rows"]) (abC:aZ P w K mg base "copied" (0+n) ["row"] (bj K 1 (mq n))):aZ P w K mg base "all_copied" (0+n+1) ["rows"] (bj K 1 (gG (n+1))):=
 F.ok (k:=0+n) Cd λf cdv A outer s H E hr=>⟨_,λ_ _=>rfl,(aC (bL (nM ["row"] [] [] rfl (uO (au gC)) (ni (qw 0)) (λ_ _ _ _=>(eY 0 (show (["row"]:List Str).Nodup from by decide +kernel))) aY (λ_ _ _ _=>gO) (λ_ _ _ _=>(bR abC (hr.mono (by omega)) rfl (ak (qw 0) aq) (az aN))))))⟩
theorem zj (abY:aV K mg "copied" nZ ["row"]) (abD:aV K mg "all_copied" gC ["rows"]):∀n:Nat,aZ P w K mg base "copied" (0+n) ["row"] (bj K 1 (mq n))/\aZ P w K mg base "all_copied" (0+n) ["rows"] (bj K 1 (gG n))
 | 0=>⟨wy abY,wy abD⟩
 | n+1=>by have ih:=zj abY abD n;exact⟨Lx B abl abk abm abg abh hkx XT_HushError XT_NoInput Y_HushError Z_HushError Y_NoInput Z_NoInput V_HushError I_HushError J_HushError V_NoFit I_NoFit J_NoFit V_NoInput I_NoInput J_NoInput V_NoName I_NoName J_NoName V_NoOrder I_NoOrder J_NoOrder V_NoRow I_NoRow J_NoRow V_NoText I_NoText J_NoText I_ValueError J_ValueError FV_run FV_traced abY ih.2,Cp B abl abk abm abg abh hkx XT_HushError XT_NoInput Y_HushError Z_HushError Y_NoInput Z_NoInput V_HushError I_HushError J_HushError V_NoFit I_NoFit J_NoFit V_NoInput I_NoInput J_NoInput V_NoName I_NoName J_NoName V_NoOrder I_NoOrder J_NoOrder V_NoRow I_NoRow J_NoRow V_NoText I_NoText J_NoText I_ValueError J_ValueError FV_run FV_traced abD ih.1⟩
theorem Gp {n:Nat} (F:aV K mg "laid_out" jQ ["where", "above", "block", "rows", "start"]) (aby:vN P w K mg base) (abC:BJ P w K mg base) (abF:aZ P w K mg base "laid_out" (40+n) ["where", "above", "block", "rows", "start"] (bj K 5 (fU n))):aZ P w K mg base "laid_out" (40+n+1) ["where", "above", "block", "rows", "start"] (bj K 5 (fU (n+1))):=
 F.ok (k:=40+n) kJ λf cdv A outer s H E hr=>⟨_,λ_ _=>rfl,(aA (fQ 5 kJ.nd (cO aq))
  (aA (jY ZJ rfl (ni (qw 3)) (eY 6 kJ.nd) aY
  (aA (fQ 7 kJ.nd (CZ (bM cL cM (qw 4) (qL (fG B) (qw 5)))))
  (aA (Ac (pv 5) (jz (ak (qw 0) (ak (qw 1) (ak (qw 2) (ak (bR abC (hr.mono (by omega)) rfl (ak (qw 6) aq) (az aN)) aq))))))
  (aC (jY ZJ rfl (G3 rfl (xj B) (ak (bR aby (hr.mono (by omega)) rfl (ak (qw 6) aq) (az aN)) aq)) (lU rfl (bN (eY 8 kJ.nd) (bN (eY 9 kJ.nd) jw))) (lV (bZ aY (bZ aY lO)))
  (aC (Jb (pv 5) (bR abF (hr.mono (by omega)) rfl (ak (qw 0) (ak (qw 7) (ak (qw 8) (ak (qw 9) (ak (CZ (bM cL cM (qw 4) (qL (fG B) (qw 5)))) aq))))) (az (az (az (az (az aN)))))))))))))
  (aC (kh (pv 5)))))⟩
theorem vO (abO:aV K mg "laid_out" jQ ["where", "above", "block", "rows", "start"]) (aby:vN P w K mg base) (abC:BJ P w K mg base):∀n:Nat,aZ P w K mg base "laid_out" (40+n) ["where", "above", "block", "rows", "start"] (bj K 5 (fU n))
 | 0=>wy abO
 | n+1=>by have ih:=vO abO aby abC n;exact Gp B abl abk abm abg abh hkx XT_HushError XT_NoInput Y_HushError Z_HushError Y_NoInput Z_NoInput V_HushError I_HushError J_HushError V_NoFit I_NoFit J_NoFit V_NoInput I_NoInput J_NoInput V_NoName I_NoName J_NoName V_NoOrder I_NoOrder J_NoOrder V_NoRow I_NoRow J_NoRow V_NoText I_NoText J_NoText I_ValueError J_ValueError FV_run FV_traced abO aby abC ih
theorem Gq (F:aV K mg "numbered" mJ ["program"]) (abF:Gj P w K mg base):aZ P w K mg base "numbered" 81 ["program"] (bj K 1 oY):=
 F.ok (k:=80) kO λf cdv A outer s H E hr=>⟨_,λ_ _=>rfl,(aA (fQ 1 kO.nd (cO aq))
  (aA (jY ZJ rfl (ni (qI (qw 0))) (lU rfl (bN (eY 2 kO.nd) (bN (eY 3 kO.nd) (bN (eY 4 kO.nd) (bN (eY 5 kO.nd) jw))))) (lV (bZ aY (bZ aY (bZ aY (bZ aY lO)))))
  (aC (Jb (pv 1) (bR abF (hr.mono (by omega)) rfl (ak (qw 2) (ak yQ (ak aU (ak (qw 5) (ak (CZ (qL (fG B) (qw 1))) aq))))) (az (az (az (az (az aN)))))))))
  (aA (Jb (pv 1) (bR abF (hr.mono (by omega)) rfl (ak gq (ak yQ (ak aU (ak (qI (qw 0)) (ak (CZ (qL (fG B) (qw 1))) aq))))) (az (az (az (az (az aN)))))))
  (aC (kh (pv 1))))))⟩
theorem Gr (F:aV K mg "value_of" mK ["expression", "boxes"]):aZ P w K mg base "value_of" 1 ["expression", "boxes"] (bj K 2 qD):=
 F.ok (k:=0) Gi λf cdv A outer s H E hr=>⟨_,λ_ _=>rfl,(aA (cC (cX (eN hr) eO (qI (qw 0)) gq (bO _))
  (aC (bL (qI (qw 0))))
  bW)
  (aA (cC (cX (eN hr) eO (qI (qw 0)) gq (bO _))
  (aC gJ)
  bW)
  (aA (cC (cX (eN hr) eO (qI (qw 0)) gq (bO _))
  (aC gJ)
  bW)
  (aC gJ))))⟩
theorem Aj (F:aV K mg "can_be_held" jc ["thing"]):aZ P w K mg base "can_be_held" 1 ["thing"] (bj K 1 cF):=
 F.ok (k:=0) Ae λf cdv A outer s H E hr=>⟨_,λ_ _=>rfl,(aC (bL (qN (ql (bc cH (by rfl) (bH B) (by kernel_rfl) (aO (qw 0) (aO (dO (v:=.ty "int") (u:=.type "int") rfl (Q0 B) (by kernel_rfl) rfl) dh)))) (qN (NT (ql (bc cH (by rfl) (bH B) (by kernel_rfl) (aO (qw 0) (aO (dO (v:=.ty "bool") (u:=.type "bool") rfl (Lr B) (by kernel_rfl) rfl) dh))))) (xM (Vj WQ WP Vc Vb aU (qw 0) (Sv abl rfl)))))))⟩
theorem OJ (F:aV K mg "suits" pH ["size", "thing"]) (abI:Ag P w K mg base):aZ P w K mg base "suits" 2 ["size", "thing"] (bj K 2 jG):=
 F.ok (k:=1) OD λf cdv A outer s H E hr=>⟨_,λ_ _=>rfl,(aA (cC (cX (eN hr) eO (qw 0) aU (bO _))
  (aC (bL (bR abI (hr.mono (by omega)) rfl (ak (qw 1) aq) (az aN))))
  bW)
  (aC (bL (qN (ql (bc cH (by rfl) (bH B) (by kernel_rfl) (aO (qw 1) (aO (dO (v:=.ty "list") (u:=.type "list") rfl (jm B) (by kernel_rfl) rfl) dh)))) (qN (zW (eN hr) eO (qL (fG B) (qw 1)) (qw 0) (bO _)) (xM (yI (ux rfl) KQ (bc (ux rfl) (by rfl) (QZ B) (by kernel_rfl) (ak (nM ["part"] [] [] rfl (uO (au pH)) (ni (qw 1)) (λ_ _ _ _=>(eY 0 (show (["part"]:List Str).Nodup from by decide +kernel))) aY (λ_ _ _ _=>gO) (λ_ _ _ _=>(bR abI (hr.mono (by omega)) rfl (ak (qw 0) aq) (az aN)))) aq)))))))))⟩
theorem zm (F:aV K mg "refuse_input" iB ["program", "values"]) (abX:Ff P w K mg base):aZ P w K mg base "refuse_input" 3 ["program", "values"] (bj K 2 jH):=
 F.ok (k:=2) lJ λf cdv A outer s H E hr=>⟨_,λ_ _=>rfl,(aA (cC (PW.pt (wg (oN (iQ (ql (bc cH (by rfl) (bH B) (by kernel_rfl) (aO (qw 1) (aO (dO (v:=.ty "list") (u:=.type "list") rfl (jm B) (by kernel_rfl) rfl) dh)))) (λ_=>rfl))) (sZ (cX (vy hr) vz (qL (fG B) (qw 1)) (qL (fG B) (qI (qw 0))) (bO _)))))
  (aC gJ)
  bW)
  (aC (jY ZJ rfl (Ab rfl (Jl B) (ak (qI (qw 0)) (ak (qw 1) aq))) (lU rfl (bN (eY 2 lJ.nd) (bN (eY 3 lJ.nd) jw))) (lV (bZ aY (bZ aY lO)))
  (aA (fQ 4 lJ.nd (qI (qw 2)))
  (aC (cC (oN (iQ (bR abX (hr.mono (by omega)) rfl (ak (qI (qw 2)) (ak (qw 3) aq)) (az (az aN))) (λ_=>rfl)))
  (aC gJ)
  bW))))))⟩
theorem Ly (F:aV K mg "filled" pI ["program", "values"]):aZ P w K mg base "filled" 1 ["program", "values"] (bj K 2 n8):=
 F.ok (k:=0) rP λf cdv A outer s H E hr=>⟨_,λ_ _=>rfl,(aA (fQ 2 rP.nd Ej)
  (aA (jY ZJ rfl (Ab rfl (Jl B) (ak (qI (qw 0)) (ak (qw 1) aq))) (lU rfl (bN (eY 3 rP.nd) (bN (eY 4 rP.nd) jw))) (lV (bZ aY (bZ aY lO)))
  (aC (G4 (uU (Xp (Aa (iQ (yM (ql (bc cH (by rfl) (bH B) (by kernel_rfl) (aO (qw 4) (aO (dO (v:=.ty "list") (u:=.type "list") rfl (jm B) (by kernel_rfl) rfl) dh))))) (λ_=>rfl))) (Xf (lK lL (by rfl) (jm B) (by kernel_rfl) (aO (qw 4) dh))) (qw 4)) (uT (pv 2) (qI (qw 3)) (set_dict (jf hr)))))))
  (aC (kh (pv 2)))))⟩
theorem Jo (F:aV K mg "emptied" lY ["program", "boxes"]):aZ P w K mg base "emptied" 1 ["program", "boxes"] (bj K 2 pY):=
 F.ok (k:=0) Ji λf cdv A outer s H E hr=>⟨_,λ_ _=>rfl,(aC (bL (nM ["name", "size", "rank"] ["boxes"] [1] rfl (uO (au lY)) (ni (qI (qw 0))) (λ_ _ _ _=>(lU rfl (bN (eY 0 (show (["name", "size", "rank", "boxes"]:List Str).Nodup from by decide +kernel)) (bN (eY 1 (show (["name", "size", "rank", "boxes"]:List Str).Nodup from by decide +kernel)) (bN (eY 2 (show (["name", "size", "rank", "boxes"]:List Str).Nodup from by decide +kernel)) jw))))) (lV (bZ aY (bZ aY (bZ aY lO)))) (λ_ _ _ _=>gO) (λ_ _ _ _=>(Yr (jf hr) (qw 3) (qw 0) (λ_ _=>rfl))))))⟩
theorem wN (F:lF K abn "__init__" "Plan.__init__" dq ["self", "program"]) (ab5:Gk P w K mg base):lG P w K mg base abn "__init__" 82 ["self", "program"] (bj K 2 gm):=
 F.ok (k:=81) cI λf cdv A outer s H E hr=>⟨_,λ_ _=>rfl,(aA (fQ 2 cI.nd (bR ab5 (hr.mono (by omega)) rfl (ak (qw 1) aq) (az aN)))
  (aA (fQ 3 cI.nd (Vx (by exact hkx)))
  (aA (jY ZJ rfl (G3 rfl (xj B) (ak (qw 2) aq)) (lU rfl (bN (eY 4 cI.nd) (bN (eY 5 cI.nd) jw))) (lV (bZ aY (bZ aY lO)))
  (aC (wB (j9 (uc Z3 aas aat oh (Xc (by exact hkx) (Dy PySem.F.slot_dict_setdefault PySem.F.type_dict_setdefault (Kl (jf hr)) (pv 3) (ak (R8 (qw 5) iY (iZ aU)) (ak (cO aq) aq)))) (ak (qw 4) aq))))))
  (aA (fQ 6 cI.nd Ej)
  (aA (jY ZJ rfl (ni (qI (qw 1))) (lU rfl (bN (eY 7 cI.nd) (bN (eY 8 cI.nd) (bN (eY 9 cI.nd) (bN (eY 10 cI.nd) jw))))) (lV (bZ aY (bZ aY (bZ aY (bZ aY lO)))))
  (aC (G4 (uU (nM ["param", "known"] [] [] rfl (uO (au dq)) (ni (qw 9)) (λ_ _ _ _=>(lU rfl (bN (eY 0 (show (["param", "known"]:List Str).Nodup from by decide +kernel)) (bN (eY 1 (show (["param", "known"]:List Str).Nodup from by decide +kernel)) jw)))) (lV (bZ aY (bZ aY lO))) (λ_ _ _ _=>gO) (λ_ _ _ _=>(qw 0))) (uT (pv 6) (qw 7) (set_dict (jf hr)))))))
  (aA (km abk (abm _ (.head _)) (qw 0) (qw 2))
  (aA (km abk (abm _ (.tail _ (.head _))) (qw 0) (Vy (qw 3)))
  (aC (km abk (abm _ (.tail _ (.tail _ (.head _)))) (qw 0) (qw 6))))))))))⟩
theorem Cq (F:lF K abn "body" "Plan.body" gF ["self", "name"]):lG P w K mg base abn "body" 1 ["self", "name"] (bj K 2 my):=
 F.ok (k:=0) Cg λf cdv A outer s H E hr=>⟨_,λ_ _=>rfl,(aC (bL (PE.imp (lK lL (by rfl) (jm B) (by kernel_rfl) (ak (QL (by exact hkx) (Dy PySem.F.slot_dict_get PySem.F.type_dict_get (GD (jf hr)) (lu abk (abm _ (.tail _ (.head _))) (qw 0)) (ak (jz (ak (qw 1) (ak yQ (ak aU aq)))) (ak (cO aq) aq)))) aq)) (vA ww))))⟩
theorem zp (F:lF K abi "lay" "Running.lay" dU ["self", "numbers"]):lG P w K mg base abi "lay" 1 ["self", "numbers"] (bj K 2 jJ):=
 F.ok (k:=0) yX λf cdv A outer s H E hr=>⟨_,λ_ _=>rfl,(aC (Ss (j9 (uc Z3 PySem.F.slot_list_extend PySem.F.type_list_extend yC (lu abg (abh _ (.tail _ (.tail _ (.tail _ (.tail _ (.tail _ (.tail _ (.head _)))))))) (qw 0)) (ak (nM ["k"] [] [] rfl (uO (au dU)) (Vt rfl (Jk B) (ak (qw 1) aq)) (λ_ _ _ _=>(eY 0 (show (["k"]:List Str).Nodup from by decide +kernel))) aY (λ_ _ _ _=>gO) (λ_ _ _ _=>(jz (ak (qw 0) (ak aU aq))))) aq)))))⟩
theorem uH (F:lF K abi "lay_body" "Running.lay_body" cW ["self", "name"]) (abZ:Ci P w K mg base abn) (abv:rR P w K mg base abi):lG P w K mg base abi "lay_body" 2 ["self", "name"] (bj K 2 iV):=
 F.ok (k:=1) oX λf cdv A outer s H E hr=>⟨_,λ_ _=>rfl,(aA (fQ 2 oX.nd (pQ abk abZ (hr.mono (by omega)) (lu abg (abh _ (.head _)) (qw 0)) (ak (qw 1) aq) (jZ (az aN))))
  (aA (cC (iQ (qw 2) (λ_=>rfl))
  (aC (wB (j9 (uc Z3 aas aat oh (lu abg (abh _ (.tail _ (.tail _ (.tail _ (.tail _ (.tail _ (.tail _ (.head _)))))))) (qw 0)) (ak (jz (ak (xQ (qw 2) (Iv aU) (λ_ _=>rfl)) (ak aU aq))) aq)))))
  bW)
  (aC (ou (pQ abg abv (hr.mono (by omega)) (qw 0) (ak (qw 2) aq) (jZ (az aN)))))))⟩
theorem uI (F:lF K abi "__init__" "Running.__init__" cV ["self", "program", "values", "budget"]) (abJ:wJ P w K mg base abn) (abA:uF P w K mg base abi) (acd:Ls P w K mg base):lG P w K mg base abi "__init__" 84 ["self", "program", "values", "budget"] (bj K 4 eE):=
 F.ok (k:=83) uE λf cdv A outer s H E hr=>⟨_,λ_ _=>rfl,(aA (km abg (abh _ (.head _)) (qw 0) (QJ abk abJ (hr.mono (by omega)) rfl (ak (qw 1) aq) (jZ (az aN))))
  (aA (km abg (abh _ (.tail _ (.head _))) (qw 0) (wz (bR acd (hr.mono (by omega)) rfl (ak (qw 1) (ak (qw 2) aq)) (az (az aN)))))
  (aA (km abg (abh _ (.tail _ (.tail _ (.head _)))) (qw 0) (wz (@cO _ _ _ _ (@V6 _ _ _ _ _ _ _ (wz Ej) aq))))
  (aA (km abg (abh _ (.tail _ (.tail _ (.tail _ (.head _))))) (qw 0) (qw 3))
  (aA (km abg (abh _ (.tail _ (.tail _ (.tail _ (.tail _ (.head _)))))) (qw 0) gq)
  (aA (km abg (abh _ (.tail _ (.tail _ (.tail _ (.tail _ (.tail _ (.head _))))))) (qw 0) (wz (cO aq)))
  (aA (km abg (abh _ (.tail _ (.tail _ (.tail _ (.tail _ (.tail _ (.tail _ (.head _)))))))) (qw 0) (wz (cO aq)))
  (aC (ou (pQ abg abA (hr.mono (by omega)) (qw 0) (ak gq aq) (jZ (az aN))))))))))))⟩
theorem Ak (F:lF K abn "block" "Plan.block" gb ["self", "k", "which"]):lG P w K mg base abn "block" 1 ["self", "k", "which"] (bj K 3 j6):=
 F.ok (k:=0) Af λf cdv A outer s H E hr=>⟨_,λ_ _=>rfl,(aC (bL (PE.imp (lK lL (by rfl) (jm B) (by kernel_rfl) (ak (QL (by exact hkx) (Dy PySem.F.slot_dict_get PySem.F.type_dict_get (GD (jf hr)) (lu abk (abm _ (.tail _ (.head _))) (qw 0)) (ak (jz (ak (qI (xQ (lu abk (abm _ (.head _)) (qw 0)) (qw 1) (λ_ _=>rfl))) (ak (qw 1) (ak (qw 2) aq)))) (ak (cO aq) aq)))) aq)) (vA ww))))⟩
theorem Fo (F:lF K abn "row" "Plan.row" iu ["self", "k"]):lG P w K mg base abn "row" 1 ["self", "k"] (bj K 2 nD):=
 F.ok (k:=0) Fb λf cdv A outer s H E hr=>⟨_,λ_ _=>rfl,(aC (bL (qI (xQ (lu abk (abm _ (.head _)) (qw 0)) (qw 1) (λ_ _=>rfl)))))⟩
theorem ye (F:lF K abi "note" "Running.note" d9 ["self", "k", "time", "events"]):lG P w K mg base abi "note" 1 ["self", "k", "time", "events"] (bj K 4 gM):=
 F.ok (k:=0) yc λf cdv A outer s H E hr=>⟨_,λ_ _=>rfl,(aC (wB (j9 (uc Z3 aas aat oh (lu abg (abh _ (.tail _ (.tail _ (.tail _ (.tail _ (.tail _ (.head _))))))) (qw 0)) (ak (jz (ak (qw 1) (ak (qw 2) (ak (qw 3) aq)))) aq)))))⟩
theorem wO (F:lF K abi "value" "Running.value" dM ["self", "expression"]) (ab6:Gm P w K mg base):lG P w K mg base abi "value" 2 ["self", "expression"] (bj K 2 eZ):=
 F.ok (k:=1) qt λf cdv A outer s H E hr=>⟨_,λ_ _=>rfl,(aA (fQ 2 qt.nd (V4 (lK DN (by rfl) (V8 B) (by kernel_rfl) (ak (lu abg (abh _ (.tail _ (.head _))) (qw 0)) aq))))
  (aA (Sq (j9 (RK (pv 2) (xQ (lu abg (abh _ (.tail _ (.tail _ (.head _)))) (qw 0)) (Iv aU) (λ_ _=>rfl)) ⟨rfl,rfl,rfl,rfl⟩)))
  (aC (bL (yM (bR ab6 (hr.mono (by omega)) rfl (ak (qw 1) (ak (qw 2) aq)) (az (az aN))))))))⟩
theorem wQ (F:lF K abi "begin" "Running.begin" dN ["self", "k"]) (abU:Ah P w K mg base abn) (ab1:Fg P w K mg base abn) (abv:rR P w K mg base abi) (abu:q9 P w K mg base abi) (abK:wK P w K mg base abi):lG P w K mg base abi "begin" 3 ["self", "k"] (bj K 2 jT):=
 F.ok (k:=2) qu λf cdv A outer s H E hr=>⟨_,λ_ _=>rfl,(aA (fQ 2 qu.nd (pQ abk ab1 (hr.mono (by omega)) (lu abg (abh _ (.head _)) (qw 0)) (ak (qw 1) aq) (jZ (az aN))))
  (aA (ou (pQ abg abu (hr.mono (by omega)) (qw 0) (ak (qw 1) (ak aU (ak (cO aq) aq))) (jZ (az (az (az aN))))))
  (aC (cC (cX (eN hr) eO (qI (qw 2)) gq (bO _))
  (aC (ou (pQ abg abv (hr.mono (by omega)) (qw 0) (ak (pQ abk abU (hr.mono (by omega)) (lu abg (abh _ (.head _)) (qw 0)) (ak (qw 1) (ak (Xp (cX (eN hr) eO (pQ abg abK (hr.mono (by omega)) (qw 0) (ak (qI (qw 2)) aq) (jZ (az aN))) aU (bO _)) aU aU) aq)) (jZ (az (az aN)))) aq) (jZ (az aN)))))
  (aC (cC (cX (eN hr) eO (qI (qw 2)) gq (bO _))
  (aC gJ)
  (aC (cC (cX (eN hr) eO (qI (qw 2)) gq (bO _))
  (aC gJ)
  (aC (cC (cX (eN hr) eO (qI (qw 2)) gq (bO _))
  (aC gJ)
  (aC gJ)))))))))))⟩
theorem yf (F:lF K abi "step" "Running.step" d8 ["self"]) (abL:wL P w K mg base abi) (abu:q9 P w K mg base abi):lG P w K mg base abi "step" 4 ["self"] (bj K 1 fW):=
 F.ok (k:=3) q8 λf cdv A outer s H E hr=>⟨_,λ_ _=>rfl,(aA (fQ 1 q8.nd (Xb (Ur Z3 PySem.F.slot_list_pop PySem.F.type_list_pop Uu (lu abg (abh _ (.tail _ (.tail _ (.tail _ (.tail _ (.tail _ (.tail _ (.head _)))))))) (qw 0)))))
  (aC (cC (cX (eN hr) eO (qI (qw 1)) aU (bO _))
  (aC (ou (pQ abg abL (hr.mono (by omega)) (qw 0) (ak (qI (qw 1)) aq) (jZ (az aN)))))
  (aC (cC (cX (eN hr) eO (qI (qw 1)) aU (bO _))
  (aC gJ)
  (aC (ou (pQ abg abu (hr.mono (by omega)) (qw 0) (ak (qI (qw 1)) (ak (qI (qw 1)) (ak (cO aq) aq))) (jZ (az (az (az aN))))))))))))⟩
theorem zq (F:aV K mg "gone_through" iC ["program", "values", "budget"]) (abB:uG P w K mg base abi) (abP:yd P w K mg base abi) (abR:zc P w K mg base):aZ P w K mg base "gone_through" 86 ["program", "values", "budget"] (bj K 3 iH):=
 F.ok (k:=85) rQ λf cdv A outer s H E hr=>⟨_,λ_ _=>rfl,(aA (ou (yM (bR abR (hr.mono (by omega)) rfl (ak (qw 0) (ak (qw 1) aq)) (az (az aN)))))
  (aA (fQ 3 rQ.nd (QJ abg abB (hr.mono (by omega)) rfl (ak (qw 0) (ak (qw 1) (ak (qw 2) aq))) (jZ (az (az (az aN))))))
  (aA (Oa 1000 ZJ (Xe (lu abg (abh _ (.tail _ (.tail _ (.tail _ (.tail _ (.tail _ (.tail _ (.head _)))))))) (qw 3)) (λ_=>rfl))
  (aC (ou (Vs abg abP (hr.mono (by omega)) (qw 3) rfl))))
  (aC (kh (pv 3))))))⟩
theorem Fp (F:aV K mg "record_of" jo ["moments"]):aZ P w K mg base "record_of" 1 ["moments"] (bj K 1 nF):=
 F.ok (k:=0) lZ λf cdv A outer s H E hr=>⟨_,λ_ _=>rfl,(aA (fQ 1 lZ.nd (cO aq))
  (aA (jY ZJ rfl (ni (V5 (qw 0))) (lU rfl (bN (Gw (i:=2) lZ.nd rfl (Or.inr rfl)) (bN (eY 3 lZ.nd) (bN (eY 4 lZ.nd) jw)))) (lV (bZ aY (bZ aY (bZ aY lO))))
  (aC (Jb (pv 1) (nM ["name", "place", "value"] ["row"] [2] rfl (uO (au jo)) (ni (qw 4)) (λ_ _ _ _=>(lU rfl (bN (eY 0 (show (["name", "place", "value", "row"]:List Str).Nodup from by decide +kernel)) (bN (eY 1 (show (["name", "place", "value", "row"]:List Str).Nodup from by decide +kernel)) (bN (eY 2 (show (["name", "place", "value", "row"]:List Str).Nodup from by decide +kernel)) jw))))) (lV (bZ aY (bZ aY (bZ aY lO)))) (λ_ _ _ _=>gO) (λ_ _ _ _=>(jz (ak (qw 3) (ak (qw 0) (ak (qw 1) (ak (qw 2) aq))))))))))
  (aC (kh (pv 1)))))⟩
theorem Wa (F:aV K mg "run" wG ["program", "values", "budget"]) (aca:Jm P w K mg base) (abw:rT P w K mg base) (ab2:Fi P w K mg base):aZ P w K mg base "run" 87 ["program", "values", "budget"] (bj K 3 yZ):=
 F.ok (k:=86) Lp λf cdv A outer s H E hr=>⟨_,λ_ _=>rfl,(aA (fQ 3 Lp.nd (bR abw (hr.mono (by omega)) rfl (ak (qw 0) (ak (qw 1) (ak (qw 2) aq))) (az (az (az aN)))))
  (aC (bL (jz (ak (lu abg (abh _ (.tail _ (.tail _ (.tail _ (.tail _ (.head _)))))) (qw 3)) (ak (bR ab2 (hr.mono (by omega)) rfl (ak (lu abg (abh _ (.tail _ (.tail _ (.tail _ (.tail _ (.tail _ (.head _))))))) (qw 3)) aq) (az aN)) (ak (bR aca (hr.mono (by omega)) rfl (ak (qw 0) (ak (lu abg (abh _ (.tail _ (.head _))) (qw 3)) aq)) (az (az aN))) aq)))))))⟩
theorem Lz (F:aV K mg "traced" pJ ["program", "values", "budget"]) (abw:rT P w K mg base):aZ P w K mg base "traced" 87 ["program", "values", "budget"] (bj K 3 pK):=
 F.ok (k:=86) Lq λf cdv A outer s H E hr=>⟨_,λ_ _=>rfl,(aC (bL (lu abg (abh _ (.tail _ (.tail _ (.tail _ (.tail _ (.tail _ (.head _))))))) (bR abw (hr.mono (by omega)) rfl (ak (qw 0) (ak (qw 1) (ak (qw 2) aq))) (az (az (az aN)))))))⟩
theorem Fq (F:aV K mg "_law_cell" kI ["_law_script", "_law_k"]):aZ P w K mg base "_law_cell" 1 ["_law_script", "_law_k"] (bj K 2 bD):=
 F.ok (k:=0) qZ λf cdv A outer s H E hr=>⟨_,λ_ _=>rfl,(aA (fQ 2 qZ.nd (bM cL cM (bM cL cM (bM jx iy (qw 1) (qw 1)) (bM jx iy aU (qw 1))) aU))
  (aA (cC (cX Qh KD (qj (bc fM (by rfl) (fG B) ZM (ak (qw 0) aq))) aU (bO _))
  (aC (fQ 2 qZ.nd (bM cL cM (bM dD cT (vH (jf hr) (qw 0) (bM dD cT (qw 1) (qj (bc fM (by rfl) (fG B) ZM (ak (qw 0) aq)))) (λ_ _=>rfl)) aU) (bM jx iy (bM iK gB (qw 1) (qj (bc fM (by rfl) (fG B) ZM (ak (qw 0) aq)))) aU))))
  bW)
  (aC (bL (bM dD cT (bM cL cM (bM jx iy (qw 2) aU) (bM jx iy (bM iK gB (qw 1) (yI (Az rfl) Vo (bc (Az rfl) (by rfl) (Xg B) (by kernel_rfl) (ak aU (ak (qj (bc fM (by rfl) (fG B) ZM (ak (qw 0) aq))) aq))))) aU)) aU)))))⟩
theorem Al (F:aV K mg "_law_number" jd ["_law_cell_here"]):aZ P w K mg base "_law_number" 1 ["_law_cell_here"] (bj K 1 dz):=
 F.ok (k:=0) tH λf cdv A outer s H E hr=>⟨_,λ_ _=>rfl,(aA (fQ 1 tH.nd (bM dD cT (qw 0) aU))
  (aA (cC (cX (nu hr) kj (qw 1) aU (bO _))
  (aC (bL (bM dD cT (bM iK gB (qw 0) aU) aU)))
  bW)
  (aA (cC (cX (nu hr) kj (qw 1) aU (bO _))
  (aC (bL (bM Dl zX (bM Dl zX (bM yp wk aU aU) aU) (bM dD cT (bM iK gB (qw 0) aU) aU))))
  bW)
  (aA (cC (cX (nu hr) kj (qw 1) aU (bO _))
  (aC (bL (bM cL cM aU (bM dD cT (bM iK gB (qw 0) aU) aU))))
  bW)
  (aC (bL (bM dD cT (bM jx iy (qw 0) aU) (bM yp wk aU aU))))))))⟩
theorem Cr {n:Nat} (F:aV K mg "_law_alike" gD ["_law_got", "_law_due"]) (abx:aZ P w K mg base "_law_alike" (0+n) ["_law_got", "_law_due"] (bj K 2 (cj n))):aZ P w K mg base "_law_alike" (0+n+1) ["_law_got", "_law_due"] (bj K 2 (cj (n+1))):=
 F.ok (k:=0+n) Ce λf cdv A outer s H E hr=>⟨_,λ_ _=>rfl,(aA (cC (iQ (Yo (bc Em (by rfl) (bH B) (by kernel_rfl) (aO (qw 1) (aO (Dn (aO (dO (v:=.ty "list") (u:=.type "list") rfl (jm B) (by kernel_rfl) rfl) (aO (dO (v:=.ty "tuple") (u:=.type "tuple") rfl (wI B) (by kernel_rfl) rfl) dh))) dh)))) (λ_=>rfl))
  (aA (cC (PW.pt (wg (cX (vy hr) vz (ql (bc cH (by rfl) (bH B) (by kernel_rfl) (aO (qw 0) (aO (dO (v:=.ty "list") (u:=.type "list") rfl (jm B) (by kernel_rfl) rfl) dh)))) (ql (bc cH (by rfl) (bH B) (by kernel_rfl) (aO (qw 1) (aO (dO (v:=.ty "list") (u:=.type "list") rfl (jm B) (by kernel_rfl) rfl) dh)))) (bO _)) (sZ (cX (vy hr) vz (ql (bc cH (by rfl) (bH B) (by kernel_rfl) (aO (qw 0) (aO (dO (v:=.ty "tuple") (u:=.type "tuple") rfl (wI B) (by kernel_rfl) rfl) dh)))) (ql (bc cH (by rfl) (bH B) (by kernel_rfl) (aO (qw 1) (aO (dO (v:=.ty "tuple") (u:=.type "tuple") rfl (wI B) (by kernel_rfl) rfl) dh)))) (bO _)))))
  (aC (bL (qc qx di)))
  bW)
  (aC (bL (qN (zW (eN hr) eO (qL (fG B) (qw 0)) (qL (fG B) (qw 1)) (bO _)) (xM (yI (ux rfl) KQ (bc (ux rfl) (by rfl) (QZ B) (by kernel_rfl) (ak (nM ["_law_k"] ["_law_got", "_law_due"] [0,1] rfl (uO (au gD)) (ji rfl (mR B) (ak (qL (fG B) (qw 1)) aq)) (λ_ _ _ _=>(eY 0 (show (["_law_k", "_law_got", "_law_due"]:List Str).Nodup from by decide +kernel))) aY (λ_ _ _ _=>gO) (λ_ _ _ _=>(bR abx (hr.mono (by omega)) rfl (ak (xQ (qw 1) (qw 0) (λ_ _=>rfl)) (ak (xQ (qw 2) (qw 0) (λ_ _=>rfl)) aq)) (az (az aN))))) aq))))))))
  bW)
  (aA (cC (iQ (ql (bc cH (by rfl) (bH B) (by kernel_rfl) (aO (qw 1) (aO (dO (v:=.ty "str") (u:=.type "str") rfl (Q3 B) (by kernel_rfl) rfl) dh)))) (λ_=>rfl))
  (aC (bL (qN (ql (bc cH (by rfl) (bH B) (by kernel_rfl) (aO (qw 0) (aO (dO (v:=.ty "str") (u:=.type "str") rfl (Q3 B) (by kernel_rfl) rfl) dh)))) (xM (zW (eN hr) eO (qw 0) (qw 1) (bO _))))))
  bW)
  (aA (cC (cX JR GP (qw 1) yQ (bO _))
  (aC (bL (zW JR GP (qw 0) yQ (bO _))))
  bW)
  (aC (bL (qN (ql (bc cH (by rfl) (bH B) (by kernel_rfl) (aO (qw 0) (aO (dO (v:=.ty "int") (u:=.type "int") rfl (Q0 B) (by kernel_rfl) rfl) dh)))) (qN (NT (ql (bc cH (by rfl) (bH B) (by kernel_rfl) (aO (qw 0) (aO (dO (v:=.ty "bool") (u:=.type "bool") rfl (Lr B) (by kernel_rfl) rfl) dh))))) (xM (zW (eN hr) eO (qw 0) (qw 1) (bO _))))))))))⟩
theorem tL (abE:aV K mg "_law_alike" gD ["_law_got", "_law_due"]):∀n:Nat,aZ P w K mg base "_law_alike" (0+n) ["_law_got", "_law_due"] (bj K 2 (cj n))
 | 0=>wy abE
 | n+1=>by have ih:=tL abE n;exact Cr B abl abk abm abg abh hkx XT_HushError XT_NoInput Y_HushError Z_HushError Y_NoInput Z_NoInput V_HushError I_HushError J_HushError V_NoFit I_NoFit J_NoFit V_NoInput I_NoInput J_NoInput V_NoName I_NoName J_NoName V_NoOrder I_NoOrder J_NoOrder V_NoRow I_NoRow J_NoRow V_NoText I_NoText J_NoText I_ValueError J_ValueError FV_run FV_traced abE ih
theorem Cu (F:aV K mg "_law_sizes" jE ["_law_script"]) (abo:oZ P w K mg base):aZ P w K mg base "_law_sizes" 2 ["_law_script"] (bj K 1 mz):=
 F.ok (k:=1) je λf cdv A outer s H E hr=>⟨_,λ_ _=>rfl,(aA (fQ 1 je.nd (bR abo (hr.mono (by omega)) rfl (ak (qw 0) (ak aU aq)) (az (az aN))))
  (aA (fQ 2 je.nd (cO aq))
  (aA (jY ZJ rfl (ji rfl (mR B) (ak (bM dD cT (qw 1) aU) aq)) (eY 3 je.nd) aY
  (aA (fQ 4 je.nd aU)
  (aA (cC (cX (nu hr) kj (bM dD cT (bM dD cT (bM jx iy (bM cL cM (bM iK gB (qw 1) aU) aU) (bM cL cM (bM jx iy (qw 3) (qw 3)) aU)) aU) aU) aU (bO _))
  (aC (fQ 4 je.nd (bM cL cM aU (bM dD cT (bM cL cM (bM iK gB (qw 1) aU) (qw 3)) aU))))
  bW)
  (aC (Ac (pv 2) (qw 4))))))
  (aC (kh (pv 2))))))⟩
theorem Am (F:aV K mg "_law_values" gQ ["_law_script", "_law_sizes_here"]) (abo:oZ P w K mg base) (abt:tK P w K mg base):aZ P w K mg base "_law_values" 2 ["_law_script", "_law_sizes_here"] (bj K 2 j7):=
 F.ok (k:=1) mQ λf cdv A outer s H E hr=>⟨_,λ_ _=>rfl,(aA (fQ 2 mQ.nd (cO aq))
  (aA (jY ZJ rfl (ji rfl (mR B) (ak (qj (bc fM (by rfl) (fG B) ZM (ak (qw 1) aq))) aq)) (eY 3 mQ.nd) aY
  (aA (Jg 4 mQ.nd (bR abo (hr.mono (by omega)) rfl (ak (qw 0) (ak (bM cL cM aU (qw 3)) aq)) (az (az aN))))
  (aC (cC (cX (nu hr) kj (vH (jf hr) (qw 1) (qw 3) (λ_ _=>rfl)) aU (bO _))
  (aC (Ac (pv 2) (bR abt (hr.mono (by omega)) rfl (ak (qw 4) aq) (az aN))))
  (aC (Ac (pv 2) (nM ["_law_j"] ["_law_cell_here"] [4] rfl (uO (au gQ)) (ji rfl (mR B) (ak (vH (jf hr) (qw 1) (qw 3) (λ_ _=>rfl)) aq)) (λ_ _ _ _=>(eY 0 (show (["_law_j", "_law_cell_here"]:List Str).Nodup from by decide +kernel))) aY (λ_ _ _ _=>gO) (λ_ _ _ _=>(bR abt (hr.mono (by omega)) rfl (ak (bM dD cT (bM jx iy (qw 1) (bM cL cM (bM jx iy (qw 0) (qw 0)) aU)) aU) aq) (az aN))))))))))
  (aC (kh (pv 2)))))⟩
theorem Gs (F:aV K mg "_law_odd" mL ["_law_cell_here"]):aZ P w K mg base "_law_odd" 1 ["_law_cell_here"] (bj K 1 il):=
 F.ok (k:=0) xg λf cdv A outer s H E hr=>⟨_,λ_ _=>rfl,(@aA _ _ _ _ _ (@fQ _ 1 _ _ _ _ _ xg.nd (bM dD cT (bM jx iy (bM iK gB (qw 0) aU) (bM dD cT (bM iK gB (qw 0) aU) aU)) (bM yp wk aU aU)) (by rfl) (by exact Or.inl rfl) (by rfl) (by first | exact .inl rfl | exact .inr rfl | assumption))
  (@aC _ _ _ (@bL _ _ _ _ (@vH _ _ _ _ _ _ (jf hr) (@cO _ _ _ _ (@ak _ _ _ _ _ yQ (@ak _ _ _ _ _ (qc qx di) (@ak _ _ _ _ _ (qc qx di) (@ak _ _ _ _ _ gq (@ak _ _ _ _ _ (bM Dl zX (Iv aU) (qw 1)) (@ak _ _ _ _ _ (bM cL cM (bM yp wk aU aU) (qw 1)) (@Ew _ _ _ _ _ _ _ (@jz _ _ _ _ _ (@ak _ _ _ _ _ aU (@ak _ _ _ _ _ aU aq (by rfl)) (by rfl))) (@fB _ _ _ _ _ _ (@cO _ _ _ _ aq) (@fB _ _ _ _ _ _ (@cO _ _ _ _ (@ak _ _ _ _ _ aU aq (by rfl))) aq))) (by rfl)) (by rfl)) (by rfl)) (by rfl)) (by rfl)) (by rfl))) (bM dD cT (qw 0) aU) (λ_ _=>rfl)))))⟩
theorem zr (F:aV K mg "_law_spoiled" iD ["_law_values_here", "_law_pick", "_law_cell_here"]) (abW:Gn P w K mg base):aZ P w K mg base "_law_spoiled" 2 ["_law_values_here", "_law_pick", "_law_cell_here"] (bj K 3 iI):=
 F.ok (k:=1) gK λf cdv A outer s H E hr=>⟨_,λ_ _=>rfl,(@aA _ _ _ _ _ (@fQ _ 3 _ _ _ _ _ gK.nd (bM dD cT (qw 1) aU) (by rfl) (by exact Or.inl rfl) (by rfl) (by first | exact .inl rfl | exact .inr rfl | assumption))
  (@aA _ _ _ _ _ (@cC _ _ _ _ _ _ _ _ (cX (nu hr) kj (qj (bc fM (by rfl) (fG B) ZM (ak (qw 0) aq))) aU (bO _))
  (@aC _ _ _ (@bL _ _ _ _ (@vH _ _ _ _ _ _ (jf hr) (@cO _ _ _ _ (@fB _ _ _ _ _ _ (@cO _ _ _ _ (@ak _ _ _ _ _ aU aq (by rfl))) (@fB _ _ _ _ _ _ (@cO _ _ _ _ (@fB _ _ _ _ _ _ (@cO _ _ _ _ aq) aq)) (@fB _ _ _ _ _ _ (@cO _ _ _ _ (@ak _ _ _ _ _ yQ aq (by rfl))) (@fB _ _ _ _ _ _ (@cO _ _ _ _ (@ak _ _ _ _ _ (qc qx di) aq (by rfl))) (@fB _ _ _ _ _ _ (@cO _ _ _ _ (@ak _ _ _ _ _ gq aq (by rfl))) (@fB _ _ _ _ _ _ (@cO _ _ _ _ (@fB _ _ _ _ _ _ (@cO _ _ _ _ (@ak _ _ _ _ _ aU (@ak _ _ _ _ _ aU aq (by rfl)) (by rfl))) aq)) aq))))))) (qw 3) (λ_ _=>rfl)))) bW)
  (@aA _ _ _ _ _ (@fQ _ 4 _ _ _ _ _ gK.nd (bM dD cT (bM iK gB (qw 1) aU) (qj (bc fM (by rfl) (fG B) ZM (ak (qw 0) aq)))) (by rfl) (by exact Or.inl rfl) (by rfl) (by first | exact .inl rfl | exact .inr rfl | assumption))
  (@aA _ _ _ _ _ (@cC _ _ _ _ _ _ _ _ (cX (nu hr) kj (qw 3) aU (bO _))
  (@aC _ _ _ (@bL _ _ _ _ (bM cL cM (jD (qw 0) iY (iZ (qw 4))) (jD (qw 0) (iZ (bM cL cM (qw 4) aU)) iY)))) bW)
  (@aA _ _ _ _ _ (@cC _ _ _ _ _ _ _ _ (cX (nu hr) kj (qw 3) aU (bO _))
  (@aC _ _ _ (@bL _ _ _ _ (@bM _ _ _ _ _ _ _ _ _ cL cM (@bM _ _ _ _ _ _ _ _ _ cL cM (jD (qw 0) iY (iZ (qw 4))) (jD (jD (@cO _ _ _ _ (@fB _ _ _ _ _ _ (@cO _ _ _ _ aq) (@ak _ _ _ _ _ aU (@fB _ _ _ _ _ _ (@cO _ _ _ _ (@ak _ _ _ _ _ aU aq (by rfl))) aq) (by rfl)))) (iZ (bM dD cT (qw 2) aU)) iY) iY (iZ aU))) (jD (qw 0) (iZ (qw 4)) iY)))) bW)
  (@aA _ _ _ _ _ (@fQ _ 5 _ _ _ _ _ gK.nd (PE.imp (lK lL (by rfl) (jm B) (by kernel_rfl) (ak (qw 0) aq)) (vA ww)) (by rfl) (by exact Or.inl rfl) (by rfl) (by first | exact .inl rfl | exact .inr rfl | assumption))
  (@aA _ _ _ _ _ (@fQ _ 6 _ _ _ _ _ gK.nd (vH (jf hr) (qw 0) (qw 4) (λ_ _=>rfl)) (by rfl) (by exact Or.inl rfl) (by rfl) (by first | exact .inl rfl | exact .inr rfl | assumption))
  (@aA _ _ _ _ _ (zY (uU (bR abW (hr.mono (by omega)) rfl (ak (qw 2) aq) (az aN)) (uT (pv 5) (qw 4) set_list)))
  (@aA _ _ _ _ _ (@cC _ _ _ _ _ _ _ _ (iQ (ql (bc cH (by rfl) (bH B) (by kernel_rfl) (aO (qw 6) (aO (dO (v:=.ty "list") (u:=.type "list") rfl (jm B) (by kernel_rfl) rfl) dh)))) (λ_=>rfl))
  (@aA _ _ _ _ _ (@fQ _ 7 _ _ _ _ _ gK.nd (bM dD cT (bM iK gB (qw 2) aU) (qj (bc fM (by rfl) (fG B) ZM (ak (qw 6) aq)))) (by rfl) (by exact Or.inl rfl) (by rfl) (by first | exact .inl rfl | exact .inr rfl | assumption))
  (@aA _ _ _ _ _ (zY (uU (vH (jf hr) (cO (ak aU (ak yQ (ak (V3 (lK BX (by rfl) (wI B) (by kernel_rfl) (ak (qw 6) aq))) (ak (jD (qw 6) (iZ aU) iY) (ak (bM cL cM (qw 6) (jD (qw 6) iY (iZ aU))) aq)))))) (bM dD cT (qw 2) aU) (λ_ _=>rfl)) (uT (pv 5) (qw 4) set_list)))
  (@aC _ _ _ (@cC _ _ _ _ _ _ _ _ (cX Qh KD (qw 3) aU (bO _))
  (@aC _ _ _ (zY (uU (bM cL cM (bM cL cM (jD (qw 6) iY (iZ (qw 7))) (cO (ak (bR abW (hr.mono (by omega)) rfl (ak (qw 2) aq) (az aN)) aq))) (jD (qw 6) (iZ (bM cL cM (qw 7) aU)) iY)) (uT (pv 5) (qw 4) set_list)))) bW)))) bW)
  (@aC _ _ _ (kh (pv 5))))))))))))⟩
theorem vP (F:aV K mg "refuse_input" qp ["program", "values"]) (abX:Ff P w K mg base):DefX P w K mg base "refuse_input" 3 ["program", "values"] ju:=
 F.okX (k:=2) jl λf cdv A outer s H E hr=>⟨_,λ_ _=>rfl,λR PX=>(pC (QQ (PW.pt (wg (oN (iQ (ql (bc cH (by rfl) (bH B) (by kernel_rfl) (aO (qw 1) (aO (dO (v:=.ty "list") (u:=.type "list") rfl (jm B) (by kernel_rfl) rfl) dh)))) (λ_=>rfl))) (sZ (cX (vy hr) vz (qL (fG B) (qw 1)) (qL (fG B) (qI (qw 0))) (bO _)))))
  (pD (Ld R hr rfl XT_NoInput JG))
  G7)
  (pD (VN PassesOwn.leaving rfl (Ab rfl (Jl B) (ak (qI (qw 0)) (ak (qw 1) aq))) (lU rfl (bN (eY 2 jl.nd) (bN (eY 3 jl.nd) jw))) (lV (bZ aY (bZ aY lO)))
  (pC (tG (fQ 4 jl.nd (qI (qw 2))))
  (pD (QQ (oN (iQ (bR abX (hr.mono (by omega)) rfl (ak (qI (qw 2)) (ak (qw 3) aq)) (az (az aN))) (λ_=>rfl)))
  (pD (Lb R hr rfl XT_NoInput (VJ (by decide) (Yq hr (qw 4) (VJ (by decide) VH))) (by decide +kernel)))
  G7))))))⟩
theorem vQ (F:aV K mg "gone_through" qm ["program", "values", "budget"]) (abH:DefX P w K mg base "refuse_input" 3 ["program", "values"] ju):DefX P w K mg base "gone_through" 4 ["program", "values", "budget"] fY:=
 F.okX (k:=3) vM λf cdv A outer s H E hr=>⟨_,λ_ _=>rfl,λR PX=>(pC (Sd (Ad abH PX (hr.mono (by omega)) rfl (ak (qw 0) (ak (qw 1) aq)) (az (az aN))))
  (pC (tG gJ)
  (pC (tG gJ)
  (pD (tG gJ)))))⟩
theorem LC (F:aV K mg "run" Ez ["program", "values", "budget"]) (abr:DefX P w K mg base "gone_through" 4 ["program", "values", "budget"] fY):DefX P w K mg base "run" 5 ["program", "values", "budget"] mC:=
 F.okX (k:=4) By λf cdv A outer s H E hr=>⟨_,λ_ _=>rfl,λR PX=>(pC (VB (i:=3) By.nd rfl (Or.inl rfl) (Ad abr PX (hr.mono (by omega)) rfl (ak (qw 0) (ak (qw 1) (ak (qw 2) aq))) (az (az (az aN)))))
  (pD (tG gJ)))⟩
theorem Ft (F:aV K mg "traced" xf ["program", "values", "budget"]) (abr:DefX P w K mg base "gone_through" 4 ["program", "values", "budget"] fY):DefX P w K mg base "traced" 5 ["program", "values", "budget"] iw:=
 F.okX (k:=4) Fd λf cdv A outer s H E hr=>⟨_,λ_ _=>rfl,λR PX=>(pD (VD (Su (Ad abr PX (hr.mono (by omega)) rfl (ak (qw 0) (ak (qw 1) (ak (qw 2) aq))) (az (az (az aN)))))))⟩
theorem zu (F:aV K mg "_law_refused" iG ["_law_ask", "_law_program", "_law_values_here"]) (abS:DefX P w K mg base "run" 5 ["program", "values", "budget"] mC) (abz:DefX P w K mg base "traced" 5 ["program", "values", "budget"] iw):aZ P w K mg base "_law_refused" 6 ["_law_ask", "_law_program", "_law_values_here"] (bj K 3 iJ):=
 F.ok (k:=5) oW λf cdv A outer s H E hr=>⟨_,λ_ _=>rfl,(aA (Lf rfl rfl (λacR O xe E hp=>(G8 (Ex abS abz FV_run FV_traced hp (hr.mono (by omega)) (hr.mono (by omega)) rfl rfl (ak (qw 1) (ak (qw 2) (ak aU aq))) (az (az (az aN)))))) (QS (i:=3) oW.nd rfl rfl rfl XT_NoInput Y_NoInput Z_NoInput (λe=>(aA (fQ 4 oW.nd (Ys (ds:=[v_NoName,v_NoOrder,v_NoText,v_NoFit,v_NoRow]) (λC hC=>(nox (J_NoName C hC) (nox (J_NoOrder C hC) (nox (J_NoText C hC) (nox (J_NoFit C hC) (nox (J_NoRow C hC) (Yt (J_NoName C hC)))))))) (bc Lj (by rfl) (bH B) (by kernel_rfl) (aO (qw 3) (aO (Dn (aO (mD (v:=.ref v_NoName) rfl V_NoName rfl) (aO (mD (v:=.ref v_NoOrder) rfl V_NoOrder rfl) (aO (mD (v:=.ref v_NoText) rfl V_NoText rfl) (aO (mD (v:=.ref v_NoFit) rfl V_NoFit rfl) (aO (mD (v:=.ref v_NoRow) rfl V_NoRow rfl) dh)))))) dh))) (by simp)))
  (aC (bL (qN (Oz I_HushError J_HushError (bc (xK Ha) (by rfl) (bH B) (by kernel_rfl) (aO (qw 3) (aO (mD (v:=.ref v_HushError) rfl V_HushError rfl) dh)))) (qN (Oz I_ValueError J_ValueError (bc (xK VV) (by rfl) (bH B) (by kernel_rfl) (aO (qw 3) (aO (dO (v:=.ty "ValueError") (u:=.type "ValueError") rfl (Fe B) (by kernel_rfl) rfl) dh)))) (xM (NT (qw 4))))))))) Le))
  (aC (bL (qc qx di))))⟩
theorem Cv (F:aV K mg "_law_based" jF ["_law_ask", "_law_program", "_law_values_here"]) (abS:DefX P w K mg base "run" 5 ["program", "values", "budget"] mC) (abz:DefX P w K mg base "traced" 5 ["program", "values", "budget"] iw):aZ P w K mg base "_law_based" 6 ["_law_ask", "_law_program", "_law_values_here"] (bj K 3 jK):=
 F.ok (k:=5) uP λf cdv A outer s H E hr=>⟨_,λ_ _=>rfl,(aA (Lf rfl rfl (λacR O xe E hp=>(G8 (Ex abS abz FV_run FV_traced hp (hr.mono (by omega)) (hr.mono (by omega)) rfl rfl (ak (qw 1) (ak (qw 2) (ak aU aq))) (az (az (az aN)))))) (QS (i:=3) uP.nd rfl rfl rfl XT_HushError Y_HushError Z_HushError (λe=>(aC (bL (Oz I_NoInput J_NoInput (bc (xK Ha) (by rfl) (bH B) (by kernel_rfl) (aO (qw 3) (aO (mD (v:=.ref v_NoInput) rfl V_NoInput rfl) dh))))))) Le))
  (aC (bL (qc qx di))))⟩
theorem wR (F:aV K mg "_law_values" n6 ["_law_script", "_law_sizes_here"]) (abo:oZ P w K mg base) (abt:tK P w K mg base):aZ P w K mg base "_law_values" 2 ["_law_script", "_law_sizes_here"] (bj K 2 iT):=
 F.ok (k:=1) jt λf cdv A outer s H E hr=>⟨_,λ_ _=>rfl,(aA (fQ 2 jt.nd (cO aq))
  (aA (jY ZJ rfl (ji rfl (mR B) (ak (qj (bc fM (by rfl) (fG B) ZM (ak (qw 1) aq))) aq)) (eY 3 jt.nd) aY
  (aA (Jg 4 jt.nd (bR abo (hr.mono (by omega)) rfl (ak (qw 0) (ak (bM cL cM aU (qw 3)) aq)) (az (az aN))))
  (aC (cC (cX (nu hr) kj (vH (jf hr) (qw 1) (qw 3) (λ_ _=>rfl)) aU (bO _))
  (aC (Ac (pv 2) (bR abt (hr.mono (by omega)) rfl (ak (qw 4) aq) (az aN))))
  (aC (Ac (pv 2) (wz (nM ["_law_j"] ["_law_cell_here"] [4] rfl (uO (au n6)) (ji rfl (mR B) (ak (vH (jf hr) (qw 1) (qw 3) (λ_ _=>rfl)) aq)) (λ_ _ _ _=>(eY 0 (show (["_law_j", "_law_cell_here"]:List Str).Nodup from by decide +kernel))) aY (λ_ _ _ _=>gO) (λ_ _ _ _=>(bR abt (hr.mono (by omega)) rfl (ak (bM dD cT (bM jx iy (qw 1) (bM cL cM (bM jx iy (qw 0) (qw 0)) aU)) aU) aq) (az aN)))))))))))
  (aC (kh (pv 2)))))⟩
theorem Wb {f:Addr} {fd:FuncData} (F:pU K "law" "law" mO f fd) (abx:Cj P w K mg base) (abQ:Cm P w K mg base) (abo:oZ P w K mg base) (abG:zg P w K mg base) (ab0:Ck P w K mg base) (abT:zf P w K mg base) (abV:Ai P w K mg base) (abM:wM P w K mg base) (acE:V9 P w K mg base) (ace:Lw P w K mg base):kW P w K mg base o7 88 f fd ["_law_script"] (bj K 1 Jj):=
 pU.okP (k:=87) F mj λcdv A outer s H E hr=>⟨_,λ_ _=>rfl,(@aA _ _ _ _ _ (@Jg _ 1 _ _ _ _ _ mj.nd (bR ab0 (hr.mono (by omega)) rfl (ak (qw 0) aq) (az aN)) (by rfl) (by exact Or.inr rfl) (by rfl) (by first | exact .inl rfl | exact .inr rfl | assumption))
  (@aA _ _ _ _ _ (@fQ _ 2 _ _ _ _ _ mj.nd (Xa (@cO _ _ _ _ (@Ew _ _ _ _ _ _ _ (@jz _ _ _ _ _ (@ak _ _ _ _ _ gq (@Ew _ _ _ _ _ _ _ (@jz _ _ _ _ _ (@ak _ _ _ _ _ gq (@ak _ _ _ _ _ aU aq (by rfl)) (by rfl))) (@fB _ _ _ _ _ _ (@cO _ _ _ _ aq) (@fB _ _ _ _ _ _ (@cO _ _ _ _ aq) aq))) (by rfl))) aq)) (bM dD cT (bR abo (hr.mono (by omega)) rfl (ak (qw 0) (ak aU aq)) (az (az aN))) aU)) (by rfl) (by exact Or.inl rfl) (by rfl) (by first | exact .inl rfl | exact .inr rfl | assumption))
  (@aA _ _ _ _ _ (@Jg _ 3 _ _ _ _ _ mj.nd (@cO _ _ _ _ (@ak _ _ _ _ _ gq (@ak _ _ _ _ _ gq (@ak _ _ _ _ _ gq (@ak _ _ _ _ _ gq (@ak _ _ _ _ _ gq (@ak _ _ _ _ _ gq (@ak _ _ _ _ _ gq (@ak _ _ _ _ _ gq (@ak _ _ _ _ _ gq (@ak _ _ _ _ _ gq (@ak _ _ _ _ _ gq (@ak _ _ _ _ _ gq aq (by rfl)) (by rfl)) (by rfl)) (by rfl)) (by rfl)) (by rfl)) (by rfl)) (by rfl)) (by rfl)) (by rfl)) (by rfl)) (by rfl))) (by rfl) (by exact Or.inr rfl) (by rfl) (by first | exact .inl rfl | exact .inr rfl | assumption))
  (@aA _ _ _ _ _ (@fQ _ 4 _ _ _ _ _ mj.nd (@jz _ _ _ _ _ (@ak _ _ _ _ _ (nM ["_law_k"] ["_law_names", "_law_sizes_here"] [3,1] rfl (uO (au mO)) (ji rfl (mR B) (ak (qj (bc fM (by rfl) (fG B) ZM (ak (qw 1) aq))) aq)) (λ_ _ _ _=>(eY 0 (show (["_law_k", "_law_names", "_law_sizes_here"]:List Str).Nodup from by decide +kernel))) aY (λ_ _ _ _=>gO) (λ_ _ _ _=>(@jz _ _ _ _ _ (@ak _ _ _ _ _ (vH (jf hr) (qw 1) (qw 0) (λ_ _=>rfl)) (@ak _ _ _ _ _ (vH (jf hr) (qw 2) (qw 0) (λ_ _=>rfl)) (@ak _ _ _ _ _ yQ aq (by rfl)) (by rfl)) (by rfl))))) (@fB _ _ _ _ _ _ (@cO _ _ _ _ aq) (@fB _ _ _ _ _ _ (@cO _ _ _ _ aq) (@ak _ _ _ _ _ (qw 2) aq (by rfl)))) (by rfl))) (by rfl) (by exact Or.inl rfl) (by rfl) (by first | exact .inl rfl | exact .inr rfl | assumption))
  (@aA _ _ _ _ _ (@fQ _ 5 _ _ _ _ _ mj.nd (bR abV (hr.mono (by omega)) rfl (ak (qw 0) (ak (qw 1) aq)) (az (az aN))) (by rfl) (by exact Or.inl rfl) (by rfl) (by first | exact .inl rfl | exact .inr rfl | assumption))
  (@aA _ _ _ _ _ (@fQ _ 6 _ _ _ _ _ mj.nd (bR abT (hr.mono (by omega)) rfl (ak (qw 5) (ak (bR abo (hr.mono (by omega)) rfl (ak (qw 0) (ak aU aq)) (az (az aN))) (ak (bR abo (hr.mono (by omega)) rfl (ak (qw 0) (ak aU aq)) (az (az aN))) aq))) (az (az (az aN)))) (by rfl) (by exact Or.inl rfl) (by rfl) (by first | exact .inl rfl | exact .inr rfl | assumption))
  (@aA _ _ _ _ _ (@cC _ _ _ _ _ _ _ _ (PW.pt (wg (oN (iQ (bR abG (hr.mono (by omega)) rfl (ak (QV FV_run rfl) (ak (qw 4) (ak (qw 6) aq))) (az (az (az aN)))) (λ_=>rfl))) (sZ (oN (iQ (bR abG (hr.mono (by omega)) rfl (ak (QV FV_traced rfl) (ak (qw 4) (ak (qw 6) aq))) (az (az (az aN)))) (λ_=>rfl))))))
  (@aC _ _ _ (@bL _ _ _ _ (qc qx di))) bW)
  (@aA _ _ _ _ _ (@cC _ _ _ _ _ _ _ _ (PW.pt (wg (oN (iQ (bR abQ (hr.mono (by omega)) rfl (ak (QV FV_run rfl) (ak (qw 4) (ak (qw 6) aq))) (az (az (az aN)))) (λ_=>rfl))) (sZ (oN (iQ (bR abQ (hr.mono (by omega)) rfl (ak (QV FV_traced rfl) (ak (qw 4) (ak (qw 6) aq))) (az (az (az aN)))) (λ_=>rfl))))))
  (@aC _ _ _ (@bL _ _ _ _ (qc qx di))) bW)
  (@aA _ _ _ _ _ (@fQ _ 7 _ _ _ _ _ mj.nd (bR abM (hr.mono (by omega)) rfl (ak (qw 0) (ak (qw 1) aq)) (az (az aN))) (by rfl) (by exact Or.inl rfl) (by rfl) (by first | exact .inl rfl | exact .inr rfl | assumption))
  (@aA _ _ _ _ _ (@fQ _ 8 _ _ _ _ _ mj.nd (bR acE (hr.mono (by omega)) rfl (ak (qw 4) (ak (qw 7) (ak (bM dD cT (bR abo (hr.mono (by omega)) rfl (ak (qw 0) (ak aU aq)) (az (az aN))) aU) aq))) (az (az (az aN)))) (by rfl) (by exact Or.inl rfl) (by rfl) (by first | exact .inl rfl | exact .inr rfl | assumption))
  (@aA _ _ _ _ _ (@cC _ _ _ _ _ _ _ _ (PW.pt (wg (oN (iQ (bR abx (hr.mono (by omega)) rfl (@ak _ _ _ _ _ (qw 8) (@ak _ _ _ _ _ (@jz _ _ _ _ _ (@ak _ _ _ _ _ gq (@fB _ _ _ _ _ _ (@cO _ _ _ _ aq) (@ak _ _ _ _ _ (qw 5) aq (by rfl))) (by rfl))) aq (by rfl)) (by rfl)) (az (az aN))) (λ_=>rfl))) (sZ (Aa (cX (Vr hr) R7 (qw 7) (qw 5) (bO _))))))
  (@aC _ _ _ (@bL _ _ _ _ (qc qx di))) bW)
  (@aA _ _ _ _ _ (@jY _ _ _ _ _ _ _ _ _ ZJ rfl (ni (qw 7)) (eY 9 mj.nd) aY
  (@aC _ _ _ (@cC _ _ _ _ _ _ _ _ (Aa (iQ (yM (ql (bc cH (by rfl) (bH B) (by kernel_rfl) (aO (qw 9) (aO (dO (v:=.ty "list") (u:=.type "list") rfl (jm B) (by kernel_rfl) rfl) dh))))) (λ_=>rfl)))
  (@aC _ _ _ (wB (j9 (uc Z3 aas aat oh (qw 9) (ak aU aq))))) bW)) (by intro _; rfl))
  (@aA _ _ _ _ _ (@fQ _ 10 _ _ _ _ _ mj.nd (bM cL cM (nM ["_law_k"] [] [] rfl (uO (au mO)) (ji rfl (mR B) (ak (qj (bc fM (by rfl) (fG B) ZM (ak (qw 2) aq))) aq)) (λ_ _ _ _=>(eY 0 (show (["_law_k"]:List Str).Nodup from by decide +kernel))) aY (λ_ _ _ _=>gO) (λ_ _ _ _=>(@jz _ _ _ _ _ (@ak _ _ _ _ _ (qw 0) (@ak _ _ _ _ _ aU (@fB _ _ _ _ _ _ (@cO _ _ _ _ aq) aq) (by rfl)) (by rfl))))) (jD (nM ["_law_k"] [] [] rfl (uO (au mO)) (ji rfl (mR B) (ak (qj (bc fM (by rfl) (fG B) ZM (ak (qw 2) aq))) aq)) (λ_ _ _ _=>(eY 0 (show (["_law_k"]:List Str).Nodup from by decide +kernel))) aY (λ_ _ _ _=>gO) (λ_ _ _ _=>(@jz _ _ _ _ _ (@ak _ _ _ _ _ (qw 0) (@ak _ _ _ _ _ aU (@fB _ _ _ _ _ _ (@cO _ _ _ _ aq) aq) (by rfl)) (by rfl))))) (iZ (Iv aU)) iY)) (by rfl) (by exact Or.inl rfl) (by rfl) (by first | exact .inl rfl | exact .inr rfl | assumption))
  (@aC _ _ _ (@bL _ _ _ _ (qN (zW (nu hr) kj (qw 8) (@jz _ _ _ _ _ (@ak _ _ _ _ _ gq (@fB _ _ _ _ _ _ (@cO _ _ _ _ aq) (@ak _ _ _ _ _ (qw 5) aq (by rfl))) (by rfl))) (bO _)) (xM (Vv abx (hr.mono (by omega)) rfl (ak (bR ace (hr.mono (by omega)) rfl (ak (qw 4) (ak (qw 5) (ak aU aq))) (az (az (az aN)))) (ak (qw 10) aq)) (az (az aN))))))))))))))))))))⟩
end
local macro_rules | `(tactic| walk_at "op")=>`(tactic| first | exact rfl | exact modP_go rfl rfl (by omega) | exact fdivP_go rfl rfl (by omega) (by omega) | exact mulP_gor rfl rfl (by omega) (by omega) | exact mulP_gol rfl rfl (by omega) (by omega) | assumption)
local macro_rules | `(tactic| walk_at "ev")=>`(tactic| first
 | ((with_reducible refine' oO ?h1 ?h2 ?h3 ?h4 ?h5); (case h1=>walk_at "ev"); (case h2=>exact rfl); (case h3=>walk_at "ev"); (case h4=>exact rfl); (case h5=>walk_at "op"))
 | ((with_reducible refine' aD ?h1 ?h2); (case h1=>walk_at "ev"); (case h2=>walk_at "ev"))
 | ((with_reducible refine' cP ?h1 ?h2 ?h3); (case h1=>walk_at "ev"); (case h2=>exact rfl); (case h3=>exact rfl))
 | ((with_reducible refine' cA ?h1); (case h1=>walk_at "ev"))
 | ((with_reducible refine' aH ?h1 ?h2); (case h1=>walk_at "ev"); (case h2=>walk_at "ev"))
 | ((with_reducible refine' bB ?h1 ?h2 ?h3 ?h4 ?h5); (case h1=>walk_at "ev"); (case h2=>exact rfl); (case h3=>exact rfl); (case h4=>exact rfl); (case h5=>walk_at "call"))
 | ((with_reducible refine' pA ?h1 ?h2 ?h3); (case h1=>walk_at "ev"); (case h2=>exact rfl); (case h3=>walk_at "op"))
 | ((with_reducible refine' d7 ?h1 ?h2 ?h3); (case h1=>walk_at "ev"); (case h2=>exact rfl); (case h3=>exact rfl))
 | ((with_reducible refine' pW ?h1); (case h1=>walk_at "ev"))
 | ((with_reducible refine' and_go ?h1 ?h2); (case h1=>walk_at "ev"); (case h2=>walk_at "ev"))
 | ((with_reducible refine' yK ?h1 ?h2); (case h1=>walk_at "ev"); (case h2=>walk_at "ev"))
 | ((with_reducible refine' tread_go ?h1); (case h1=>walk_at "ev"))
 | ((with_reducible refine' eread_go ?h1 ?h2); (case h1=>walk_at "ev"); (case h2=>exact rfl))
 | ((with_reducible refine' yL ?h1 ?h2 ?h3); (case h1=>walk_at "ev"); (case h2=>exact rfl); (case h3=>exact rfl))
 | ((with_reducible refine' pX ?h1 ?h2 ?h3); (case h1=>walk_at "ev"); (case h2=>exact rfl); (case h3=>exact rfl))
 | ((with_reducible refine' newc_go ?h1 ?h2 ?h3 ?h4); (case h1=>walk_at "ev"); (case h2=>exact rfl); (case h3=>exact rfl); (case h4=>exact rfl))
 | ((with_reducible refine' ik ?h1 ?h2 ?h3); (case h1=>walk_at "ev"); (case h2=>exact rfl); (case h3=>exact rfl))
 | ((with_reducible refine' KZ ?h1 ?h2 ?h3); (case h1=>walk_at "ev"); (case h2=>exact rfl); (case h3=>exact rfl))
 | exact rfl
 | assumption)
local macro_rules | `(tactic| walk_at "call")=>`(tactic| first | assumption | exact rfl)
section
variable [HK]
theorem Wc {α β:Type}:∀l:List (α×β),(l.map (·.1)).zip (l.map (·.2))=l
 | []=>rfl
 | x::l=>by rw[Za,Za,Z7,Wc l]
theorem tM {fo fv:EF} {U U1 U2:Ev} {o y:Lc} {n:Nat} {ws0 ws:List PV} {p:PV} {mu:Mu} (h1:fo U=some (o,U1)) (ho:o.pv=.ptr n) (hm:U1.mu[n]?=some (some (.lst ws0))) (h2:fv U1=some (y,U2)) (hy:y.pv=p) (hm2:U2.mu[n]?=some (some (.lst ws))) (hz:ws.length<100000) (e:U2.mu.set n (some (.lst (ws++[p])))=mu):pN fo fv U=some (.nx ⟨U2.vs,mu⟩):=by unfold pN;rw[h1,YJ,ho];dsimp only;rw[hm];dsimp only;rw[h2,YJ,hm2];dsimp only;rw[aa5 hz,hy,e]
theorem Hb {fo:EF} {U U1:Ev} {o:Lc} {n:Nat} {ws:List PV} {p:PV} {mu:Mu} (h1:fo U=some (o,U1)) (ho:o.pv=.ptr n) (hm:U1.mu[n]?=some (some (.lst (ws++[p])))) (e:U1.mu.set n (some (.lst ws))=mu):wC fo U=some (.sh p,⟨U1.vs,mu⟩):=by unfold wC;rw[h1,YJ,ho];dsimp only;rw[hm];dsimp only;rw[Y5,YX,aaB,Zb (by omega),List.dropLast_concat,e];simp
theorem qH {f:EF} {p:PV} {U U1:Ev} (h:f U=some (.own p,U1)):jj f U=some (.sh (.ptr U1.mu.length),⟨U1.vs,U1.mu++[some p]⟩):=by unfold jj;rw[h];rfl
theorem tO {C f:Str} {fo fv:EF} {U U1 U2:Ev} {y x:Lc} {p:PV} {n:Nat} {l:FD} (h1:fv U=some (y,U1)) (hy:y.pv=p) (h2:fo U1=some (x,U2)) (hx:x.pv=.ptr n) (hm:U2.mu[n]?=some (some (cB C l))) (hl:l.length<1000):fD C f fo fv U=some (.nx ⟨U2.vs,U2.mu.set n (some (cB C (oU f p l)))⟩):=by unfold fD;rw[h1,YJ,h2,YJ,hx];dsimp only;rw[hm];unfold cB;dsimp only;rw[aa5 ⟨rfl,by rw[YQ]; exact hl⟩,Wc,hy]
theorem fX {C f:Str} {fo:EF} {U U1:Ev} {x:Lc} {p:PV} {n:Nat} {l:FD} (h2:fo U=some (x,U1)) (hx:x.pv=.ptr n) (hm:U1.mu[n]?=some (some (cB C l))) (hp:pO l f=some p):dm C f fo U=some (.sh p,U1):=by unfold dm;rw[h2,YJ,hx];dsimp only;rw[hm];unfold cB;dsimp only;rw[aa5 rfl,Wc,hp];rfl
theorem tQ {C m:Str} {g:GF} {fo:EF} {a:AF} {U U1 U2:Ev} {x:Lc} {ls:List Lc} {n:Nat} {l:FD} {r:Lc} {mu2:Mu} {ps:List PV} (h1:fo U=some (x,U1)) (hx:x.pv=.ptr n) (hm:U1.mu[n]?=some (some (cB C l))) (hc:(l.map (·.1)).contains m=false) (h2:a U1=some (ls,U2)) (hps:ls.map Lc.pv=ps) (h3:g (.ptr n::ps) U2.mu=some (r,mu2)):eV C m g fo a U=some (r,⟨U2.vs,mu2⟩):=by unfold eV;rw[h1,YJ,hx];dsimp only;rw[hm];unfold cB;dsimp only;rw[aa5 ⟨rfl,hc⟩,h2,YJ,hps,h3];rfl
theorem Hc {C:Str} {g:GF} {a:AF} {U U1:Ev} {ls:List Lc} {ps:List PV} {mu2:Mu} (h:a U=some (ls,U1)) (hps:ls.map Lc.pv=ps) (h2:g (.ptr U1.mu.length::ps) (U1.mu++[some (cB C [])])=some (.sh .non,mu2)):rN C g a U=some (.sh (.ptr U1.mu.length),⟨U1.vs,mu2⟩):=by unfold rN;rw[h,YJ,hps];rw[show g (.ptr U1.mu.length::ps) (U1.mu++[some (.obj C [] [])])=_ from h2];rfl
theorem Sw {fo fv:EF} {U U1 U2:Ev} {o y:Lc} {n:Nat} {ws0 ws ps:List PV} {mu:Mu} (h1:fo U=some (o,U1)) (ho:o.pv=.ptr n) (hm:U1.mu[n]?=some (some (.lst ws0))) (h2:fv U1=some (y,U2)) (hy:y.pv=.lst ps) (hm2:U2.mu[n]?=some (some (.lst ws))) (hz:ws.length+ps.length<=100000) (e:U2.mu.set n (some (.lst (ws++ps)))=mu):De fo fv U=some (.nx ⟨U2.vs,mu⟩):=by unfold De;rw[h1,YJ];dsimp only;rw[ho];dsimp only;rw[hm];dsimp only;rw[h2,YJ,hy,hm2];dsimp only;rw[aa5 hz,e]
theorem O2_ {f:EF} {U U1:Ev} {x:Lc} {n:Nat} {ks:List Key} {ps:List PV} (h:f U=some (x,U1)) (hx:x.pv=.ptr n) (hm:U1.mu[n]?=some (some (.dk ks ps))):vK f U=some (.own (.dk ks ps),U1):=by unfold vK;rw[h,YJ,hx];dsimp only;rw[hm]
theorem Sx {i:Nat} {f:EF} {U U1:Ev} {x:Lc} {n:Nat} {ks0 ks ls:List Key} {ps0 ps qs:List PV} (h0:U.vs[i]?=some (some (.own (.dk ks0 ps0)))) (h:f U=some (x,U1)) (hx:x.pv=.ptr n) (h1:U1.vs[i]?=some (some (.own (.dk ks ps)))) (hm:U1.mu[n]?=some (some (.dk ls qs))) (hz:ks.length+ls.length<=100000):wF i f U=some (.nx (U1.set i (some (.own (qR (nj (ls.zip qs) (ks.zip ps))))))):=by unfold wF;rw[h0];dsimp only;rw[h,YJ,hx,h1];dsimp only;rw[hm];dsimp only;rw[aa5 hz]
theorem Wd {fa fb:EF} {U U1 U2:Ev} {x y:Lc} {n:Nat} {k:Key} {ks:List Key} {ps:List PV} {p:PV} (h1:fa U=some (x,U1)) (hx:x.pv=.ptr n) (h2:fb U1=some (y,U2)) (hk:xV y.pv=some k) (hm:U2.mu[n]?=some (some (.dk ks ps))) (hp:fL (ks.zip ps) k=some p):Eu fa fb U=some (.sh p,U2):=by unfold Eu;rw[h1,YJ];dsimp only;rw[h2,YJ,hx,hk];dsimp only;rw[hm];dsimp only;rw[hp];rfl
theorem Sy {f:EF} {U U1:Ev} {x:Lc} {n:Nat} {ws:List PV} (h:f U=some (x,U1)) (hx:x.pv=.ptr n) (hm:U1.mu[n]?=some (some (.lst ws))):yV f U=some (!ws.isEmpty,U1):=by unfold yV;rw[h,YJ,hx];dsimp only;rw[hm]
theorem O3_ {f:EF} {U U1:Ev} {x:Lc} {n:Nat} {p:PV} (h:f U=some (x,U1)) (hx:x.pv=.ptr n) (hm:U1.mu[n]?=some (some p)):vL f U=some (.sh p,⟨U1.vs,U1.mu.set n none⟩):=by unfold vL;rw[h,YJ,hx];dsimp only;rw[hm]
theorem mU {α:Type} {l:List α} {n:Nat} {a:α} (h:l[n]?=some a):n<l.length:=(YS.mp h).1
theorem oA {α:Type} {xs:List α} {k:Nat} {p:α} (h:xs[k]?=some p):gR xs (k:Int)=some p:=by have hk:=(YS.mp h).1;unfold gR qK;rw[aa5 (by omega),aa5 (by omega)];exact h
theorem SJ {n k:Nat} (h:k<n):qK n (k:Int)=some k:=by unfold qK;rw[aa5 (by omega),aa5 (by omega)];rfl
theorem gn {b:BF} {body:SF} {x:PV} {xs:List PV} {U U1 U2:Ev} {R:Option Fl} (h1:b x U=some U1) (h2:body U1=some (.nx U2)) (h3:jO b body xs U2=R):jO b body (x::xs) U=R:=by show (b x U).bind _=R;rw[h1,YJ,h2,YJ];exact h3
theorem c2 {α:Type} {a b:α} {l m:List α} (h:a=b) (g:l=m):a::l=b::m:=by rw[h,g]
theorem Hf {mu:Mu} {i:Int}:∀k,bK mu k (.int i)=.int i
 | 0=>rfl
 | _+1=>rfl
theorem An {mu:Mu} {n k:Nat} {p:PV} (h:mu[n]?=some (some p)):bK mu (k+1) (.ptr n)=bK mu k p:=by show (match mu[n]? with | some (some p)=>bK mu k p | _=>.ptr n)=_;rw[h]
theorem LK {ks:List Key} {ps:List PV} (h:ps.length=ks.length):qR (ks.zip ps)=.dk ks ps:=by unfold qR;rw[show (λx:Key×PV=>x.1)=Prod.fst from rfl,show (λx:Key×PV=>x.2)=Prod.snd from rfl,List.map_fst_zip (by omega),List.map_snd_zip (by omega)]
theorem Hg {n:Nat} {c:TF} {f:SF} {U U1 U2:Ev} (h:c U=some (true,U1)) (g:f U1=some (.nx U2)):qO (n+1) c f U=qO n c f U2:=by
 show m9 c f (n+1) U=m9 c f n U2
 conv=>lhs; unfold m9
 rw[h,YJ];dsimp only;rw[aa5 rfl,g,YJ]
theorem Hi {n:Nat} {c:TF} {f:SF} {U U1:Ev} (h:c U=some (false,U1)):qO (n+1) c f U=some (.nx U1):=by show m9 c f (n+1) U=_;unfold m9;rw[h,YJ];rfl
theorem Df {f:EF} {a b:Str} {U U1:Ev} (h:f U=some (.sh (.str a),U1)) {c:Bool} (e:(a==b)=c):tT (aB eqP f (acQ b)) cU U=some (c,U1):=d7 (l:=.sh (.bl c)) (oO h rfl rfl rfl (by show some (Lc.sh (.bl (a==b)))=_; rw[e])) rfl rfl
theorem rW {f:EF} {a b:Int} {U U1:Ev} (h:f U=some (.sh (.int a),U1)) {c:Bool} (e:(a==b)=c):tT (aB eqP f (acP b)) cU U=some (c,U1):=d7 (l:=.sh (.bl c)) (oO h rfl rfl rfl (by show some (Lc.sh (.bl (a==b)))=_; rw[e])) rfl rfl
theorem O4 {ws:List PV} {p:PV}:gR (ws++[p]) (-1)=some p:=by
 unfold gR qK;have hl:(ws++[p]).length=ws.length+1:=by simp
 rw[hl,aa6 (by omega),aa5 (by omega)];show (ws++[p])[((-1:Int)+((ws.length+1:Nat):Int)).toNat]?=_;rw[show ((-1:Int)+((ws.length+1:Nat):Int)).toNat=ws.length from by omega,Zb (YW _),aau];rfl
theorem We {c:TF} {f g:EF} {U U1:Ev} (h:c U=some (false,U1)):vh c f g U=g U1:=by unfold vh; rw[h,YJ,aa6 Zm]
theorem LQ {c:TF} {f g:EF} {U U1:Ev} (h:c U=some (true,U1)):vh c f g U=f U1:=by unfold vh; rw[h,YJ,aa5 rfl]
theorem zx:∀ws:List PV,boolsOf (ws.map λ_=>PV.bl true)=some (ws.map λ_=>true)
 | []=>rfl
 | w::ws=>by show (boolsOf (ws.map λ_=>PV.bl true)).map _=_;rw[zx ws];rfl
theorem Fv:∀ws:List PV,(ws.map λ_=>true).all id=true
 | []=>rfl
 | w::ws=>Fv ws
theorem nG {f g:EF} {E:Ev} {b:Bool} (hf:f E=some (.sh (.bl true),E)) (hg:g E=some (.sh (.bl b),E)):iR f g E=some (.sh (.bl b),E):=by unfold iR;rw[hf,YJ];exact hg
abbrev In (x:Int):Prop:=0<=x/\x<1000000000000
abbrev zI (x:Int):Option Lc:=some (.sh (.int x))
abbrev zT (x:Str):Option Lc:=some (.sh (.str x))
abbrev zL (x:List PV):Option Lc:=some (.sh (.lst x))
abbrev zO (x:List PV):Option Lc:=some (.own (.lst x))
abbrev zS (x:PV):Option Lc:=some (.sh x)
inductive BV where
 | n (i:Int)
 | l (is:List Int)
def BV.pv:BV->PV
 | .n i=>.int i
 | .l is=>.lst (is.map .int)
abbrev Bs:=List (Str×BV)
abbrev dH (B:Bs):List Key:=B.map λq=>.inr q.1
abbrev dcl (D:List (Str×Int)):List PV:=D.map λq=>.tup [.str q.1,.int q.2,.non]
abbrev dI (B:Bs):List PV:=B.map λq=>q.2.pv
structure Ix where
 r:Nat
 p:Nat
 b:Nat
 e:Nat
 o:Nat
 m:Nat
 d:Nat
abbrev rF (I:Ix) (bu:Int):FD:=[("plan",.ptr I.p),("boxes",.ptr I.b),("own",.ptr I.o),("budget",.int bu),("word",.str "done"),("moments",.ptr I.m),("due",.ptr I.d)]
structure RS (mu:Mu) (I:Ix) (bu:Int) (PO:PV) (B:Bs) (M D:List PV):Prop where
 l1:I.r<I.p
 l2:I.p<I.b
 l3:I.b<I.e
 l4:I.e<I.o
 l5:I.o<I.m
 l6:I.m<I.d
 hr:mu[I.r]?=some (some (cB "Running" (rF I bu)))
 hp:mu[I.p]?=some (some PO)
 hb:mu[I.b]?=some (some (.dk (dH B) (dI B)))
 he:mu[I.e]?=some (some (.dk [] []))
 ho:mu[I.o]?=some (some (.lst [.ptr I.e]))
 hm:mu[I.m]?=some (some (.lst M))
 hd:mu[I.d]?=some (some (.lst D))
section
variable {mu mu':Mu} {I:Ix} {bu:Int} {PO:PV} {B:Bs} {M M' D D':List PV}
theorem RS.setM (S:RS mu I bu PO B M D):RS (mu.set I.m (some (.lst M'))) I bu PO B M' D:=by obtain⟨l1,l2,l3,l4,l5,l6,hr,hp,hb,he,ho,hm,hd⟩:=S;have f:∀c,c≠I.m->(mu.set I.m (some (.lst M')))[c]?=mu[c]?:=λc h=>Zc (Ne.symm h);exact⟨l1,l2,l3,l4,l5,l6,by rw[f _ (by omega)]; exact hr,by rw[f _ (by omega)]; exact hp,by rw[f _ (by omega)]; exact hb,by rw[f _ (by omega)]; exact he,by rw[f _ (by omega)]; exact ho,Y8 (mU hm),by rw[f _ (by omega)]; exact hd⟩
theorem RS.setD (S:RS mu I bu PO B M D):RS (mu.set I.d (some (.lst D'))) I bu PO B M D':=by obtain⟨l1,l2,l3,l4,l5,l6,hr,hp,hb,he,ho,hm,hd⟩:=S;have f:∀c,c≠I.d->(mu.set I.d (some (.lst D')))[c]?=mu[c]?:=λc h=>Zc (Ne.symm h);exact⟨l1,l2,l3,l4,l5,l6,by rw[f _ (by omega)]; exact hr,by rw[f _ (by omega)]; exact hp,by rw[f _ (by omega)]; exact hb,by rw[f _ (by omega)]; exact he,by rw[f _ (by omega)]; exact ho,by rw[f _ (by omega)]; exact hm,Y8 (mU hd)⟩
theorem SM {x:Option PV} {c:Nat} (h:c<mu.length):(mu++[x])[c]?=mu[c]?:=Zj h
def Fr (I:Ix) (mu mu':Mu):Prop:=mu'.length=mu.length/\∀c,c<I.r->mu'[c]?=mu[c]?
theorem Fr.refl:Fr I mu mu:=⟨rfl,λ_ _=>rfl⟩
theorem Fr.trans {a b c:Mu} (h:Fr I a b) (g:Fr I b c):Fr I a c:=⟨g.1.trans h.1,λk q=>(g.2 k q).trans (h.2 k q)⟩
theorem Fr.set {c:Nat} {x:Option PV} (h:I.r<=c):Fr I mu (mu.set c x):=⟨Zh,λk q=>Zc (by omega)⟩
theorem Hj (S:RS mu I bu PO B M D) {k t e:PV} (hl:M.length<100000):gM [.ptr I.r,k,t,e] mu=some (.sh .non,mu.set I.m (some (.lst (M++[PV.tup [k,t,e]])))):=
 jB (U:=⟨[zS (.ptr I.r),zS k,zS t,zS e],mu.set I.m (some (.lst (M++[PV.tup [k,t,e]])))⟩) (tM (o:=.sh (.ptr I.m)) (y:=.sh (.tup [k,t,e])) (U1:=⟨[zS (.ptr I.r),zS k,zS t,zS e],mu⟩) (U2:=⟨[zS (.ptr I.r),zS k,zS t,zS e],mu⟩) (fX rfl rfl S.hr rfl) rfl S.hm rfl rfl S.hm hl rfl)
theorem rY {m:Str} {g:GF} {a:AF} {vs:List (Option Lc)} {ls:List Lc} {mu1 mu2:Mu} {r:Lc} {ps:List PV} (hr:mu[I.r]?=some (some (cB "Running" (rF I bu)))) (hc:(["plan", "boxes", "own", "budget", "word", "moments", "due"]:List Str).contains m=false) (h2:a ⟨zS (.ptr I.r)::vs,mu⟩=some (ls,⟨zS (.ptr I.r)::vs,mu1⟩)) (hps:ls.map Lc.pv=ps) (h3:g (.ptr I.r::ps) mu1=some (r,mu2)):eV "Running" m g (aj 0) a ⟨zS (.ptr I.r)::vs,mu⟩=some (r,⟨zS (.ptr I.r)::vs,mu2⟩):=
 tQ (U1:=⟨zS (.ptr I.r)::vs,mu⟩) (U2:=⟨zS (.ptr I.r)::vs,mu1⟩) rfl rfl hr hc h2 hps h3
abbrev NUM:PV:=.tup [.str "num",.int 0]
abbrev vR:PV:=.tup [.str "if",NUM,.lst [],.lst []]
theorem LR (S:RS mu I bu PO B M D) (h8:B.length<=100):eZ [.ptr I.r,NUM] mu=some (.sh (.int 0),mu):=by
 have hlen:(dI B).length=(dH B).length:=by rw[YQ,YQ]
 let E:=λl2=>(⟨[zS (.ptr I.r),zS NUM,l2],mu⟩:Ev);have s1:aP 2 (vK (dm "Running" "boxes" (aj 0))) (E none)=some (.nx (E (some (.own (.dk (dH B) (dI B)))))):=cP (O2_ (fX rfl rfl S.hr rfl) rfl S.hb) rfl rfl;have s2:wF 2 (bC (dm "Running" "own" (aj 0)) (sG (acP 1))) (E (some (.own (.dk (dH B) (dI B)))))=some (.nx (E (some (.own (.dk (dH B) (dI B)))))):=by have u:=Sx (i:=2) (f:=bC (dm "Running" "own" (aj 0)) (sG (acP 1))) (U:=E (some (.own (.dk (dH B) (dI B))))) (U1:=E (some (.own (.dk (dH B) (dI B))))) (n:=I.e) (ls:=[]) (qs:=[]) (x:=.sh (.ptr I.e)) rfl (Vm (l:=.sh (.ptr I.o)) (m:=.sh (.int (-1))) (ws:=[.ptr I.e]) (fX rfl rfl S.hr rfl) rfl rfl rfl S.ho rfl) rfl rfl S.he (by rw[YQ]; simp; omega);rw[show qR (nj ([].zip []) ((dH B).zip (dI B)))=.dk (dH B) (dI B) from LK hlen]at u;exact u
 have s3:j4 (aG qD (aa (aj 1) (aa (aj 2) ao))) (E (some (.own (.dk (dH B) (dI B)))))=some (.sh (.int 0),E (some (.own (.dk (dH B) (dI B))))):=
  xW (U1:=(E (some (.own (.dk (dH B) (dI B))))).peekD) (bB (ls:=[.sh (bK mu 40 NUM),.sh (bK mu 40 (.dk (dH B) (dI B)))]) (ps:=[NUM,bK mu 40 (.dk (dH B) (dI B))]) (U1:=(E (some (.own (.dk (dH B) (dI B))))).peekD) (aH rfl (aH rfl rfl)) rfl rfl rfl (aW (U:=⟨[zS NUM,zS (bK mu 40 (.dk (dH B) (dI B)))],(E (some (.own (.dk (dH B) (dI B))))).peekD.mu⟩) (iz ((gh (Df (a := "num") rfl (by decide +kernel))).trans rfl)))) rfl
 exact aW (U:=E (some (.own (.dk (dH B) (dI B))))) (aD s1 (aD s2 (cA s3)))
end
def xm:Nat->List PV->List PV
 | _,[]=>[]
 | i,p::ps=>.tup [.int (i:Nat),p]::xm (i+1) ps
theorem Ma:∀(ps:List PV) (i:Nat),(ps.zipIdx i).map (λx=>PV.tup [.int (x.2:Nat),x.1])=xm i ps
 | [],i=>rfl
 | p::ps,i=>by rw[aaY,Za,Ma ps (i+1)];rfl
theorem O5 (ps:List PV):uy ps=xm 0 ps:=Ma ps 0
inductive Rw where
 | i
def Rw.pv (_:Rw):PV:=vR
abbrev pF (T:List PV) (L H:PV):FD:=[("told",.lst T),("lists",L),("heads",H)]
abbrev Xv (T:List PV) (L H:PV):PV:=cB "Plan" (pF T L H)
def bY (rs:List Rw):List PV:=rs.map λr=>.tup [.str "main",.non,.int 0,r.pv]
abbrev cQ (n:Nat):List PV:=(List.range n).map λi=>.int (i:Nat)
theorem yg {n:Nat}:cQ (n+1)=cQ n++[.int (n:Nat)]:=by unfold cQ;rw[List.range_succ,Zo];rfl
theorem Mf {n:Nat} {r:Rw} {mu:Mu}:mq (n+2) [r.pv] mu=some (.sh r.pv,mu):=by have ac:gG (n+1) [.lst []] mu=some (.own (.lst []),mu):=rfl;let E:Ev:=⟨[zS vR],mu⟩;exact aW (U:=E) (iz ((gh (Df (a := "if") (U1:=E) rfl (by decide +kernel))).trans (cA (pX (ls:=[.sh (.str "if"),.sh NUM,.own (.lst []),.own (.lst [])]) (aH rfl (aH rfl (aH (bB (ls:=[.sh (.lst [])]) (U1:=E) (aH rfl rfl) rfl rfl rfl ac) (aH (bB (ls:=[.sh (.lst [])]) (U1:=E) (aH rfl rfl) rfl rfl rfl ac) rfl)))) rfl rfl))))
theorem Mg {r:Rw} {mu:Mu}:nC [r.pv] mu=some (.own (.lst [.lst [],.lst []]),mu):=by let E:Ev:=⟨[zS vR],mu⟩;exact aW (U:=E) (iz ((gh (Df (a := "if") (U1:=E) rfl (by decide +kernel))).trans rfl))
theorem O6_ {n:Nat} {a b c e:PV} {mu:Mu}:fU (n+1) [a,b,c,.lst [],e] mu=some (.own (.lst []),mu):=rfl
abbrev LO (R:PV) (l5 l6 l7 l8 l9:Option Lc) (mu:Mu):Ev:=⟨[some (.sh (.str "main")),some (.sh .non),zI 0,zS R,zI 0,l5,l6,l7,l8,l9],mu⟩
theorem BK {R:PV} {mu:Mu}:∀(rs ts:List Rw) (l6 l7 l8 l9:Option Lc),ts.length+rs.length<=1000->∃p6 p7 p8 p9,jO (aJ 6) (aK (aP 7 (pM (aB bJ (aj 4) (eB fK (aa (aj 5) ao)))))
 (aK (lq 5 (cN (aa (aj 0) (aa (aj 1) (aa (aj 2) (aa (aG (mq 40) (aa (aj 6) ao)) ao))))))
 (jP (tD (aG nC (aa (aj 6) ao))) (ig 2 (bh (aJ 8) (bh (aJ 9) ie)))
 (qi 5 (aG (fU 39) (aa (aj 0) (aa (aj 7) (aa (aj 8) (aa (aj 9) (aa (pM (aB bJ (aj 4) (eB fK (aa (aj 5) ao)))) ao)))))))))) (rs.map Rw.pv) (LO R (zO (bY ts)) l6 l7 l8 l9 mu)=some (.nx (LO R (zO (bY (ts++rs))) p6 p7 p8 p9 mu))
 | [],ts,l6,l7,l8,l9,_=>⟨l6,l7,l8,l9,by rw[Zg]; rfl⟩
 | r::rs,ts,l6,l7,l8,l9,hl=>by
  simp only[YX]at hl;let E:=λl5 l7=>LO R l5 (zS r.pv) l7 l8 l9 mu;obtain⟨l7',e7⟩:∃l7',aP 7 (pM (aB bJ (aj 4) (eB fK (aa (aj 5) ao)))) (E (zO (bY ts)) l7)=some (.nx (E (zO (bY ts)) l7')):=⟨_,rfl⟩;have hl7:∃q,l7'=zS q:=by cases e7; exact⟨_,rfl⟩
  obtain⟨q7,rfl⟩:=hl7;have lext:∀(i:Int) (mu':Mu),qi 5 (aG (fU 39) (aa (aj 0) (aa (aj 7) (aa (aj 8) (aa (aj 9) (aa (pM (aB bJ (aj 4) (eB fK (aa (aj 5) ao)))) ao)))))) (LO R (zO (bY (ts++[r]))) (zS r.pv) (zS q7) (zI i) (zL []) mu')=some (.nx (LO R (zO (bY (ts++[r]))) (zS r.pv) (zS q7) (zI i) (zL []) mu')):=λi mu'=>by refine KY (ws0:=bY (ts++[r])) (ws:=bY (ts++[r])) (ps:=[]) (U1:=LO R (zO (bY (ts++[r]))) (zS r.pv) (zS q7) (zI i) (zL []) mu') rfl (bB (ls:=[.sh (.str "main"),.sh q7,.sh (.int i),.sh (.lst []),.sh (.int ((0:Int)+(((bY (ts++[r])).length:Nat):Int)))]) rfl rfl rfl rfl O6_) rfl rfl (by unfold bY; rw[YQ,Y5]; simp; omega) ?_;rw[Zg];rfl
  obtain⟨p6,p7,p8,p9,ih⟩:=BK (R:=R) (mu:=mu) rs (ts++[r]) (zS r.pv) (zS q7) (zI 1) (zL []) (by rw[Y5]; show ts.length+1+_<=_; omega);refine⟨p6,p7,p8,p9,gn (U1:=E (zO (bY ts)) l7) (U2:=LO R (zO (bY (ts++[r]))) (zS r.pv) (zS q7) (zI 1) (zL []) mu) rfl (aD e7 (aD (U':=E (zO (bY (ts++[r]))) (zS q7)) (tB (ws0:=bY ts) (ws:=bY ts) (l:=.sh (.tup [.str "main",.non,.int 0,r.pv])) (U1:=E (zO (bY ts)) (zS q7)) rfl (pX (ls:=[.sh (.str "main"),.sh .non,.sh (.int 0),.sh r.pv]) (aH rfl (aH rfl (aH rfl (aH (bB (ls:=[.sh r.pv]) (aH rfl rfl) rfl rfl rfl Mf) rfl)))) rfl rfl) rfl rfl (by unfold bY; rw[YQ]; omega) ?_) ?_)) ?_⟩
  . show (E (some (.own (.lst (bY ts++[.tup [.str "main",.non,.int 0,r.pv]])))) (zS q7))=_;unfold bY;rw[Zo];rfl
  . refine jC (xs:=xm 0 [.lst [],.lst []]) (U1:=LO R (zO (bY (ts++[r]))) (zS r.pv) (zS q7) l8 l9 mu) ?_ (gn (U1:=LO R (zO (bY (ts++[r]))) (zS r.pv) (zS q7) (zI 0) (zL []) mu) (U2:=LO R (zO (bY (ts++[r]))) (zS r.pv) (zS q7) (zI 0) (zL []) mu) rfl (lext _ _) (gn (U1:=LO R (zO (bY (ts++[r]))) (zS r.pv) (zS q7) (zI 1) (zL []) mu) (U2:=LO R (zO (bY (ts++[r]))) (zS r.pv) (zS q7) (zI 1) (zL []) mu) rfl (lext _ _) rfl));unfold tD;rw[bB (ls:=[.sh r.pv]) (aH rfl rfl) rfl rfl rfl (Mg (r:=r) (mu:=mu))];rfl
  . rw[Ze]at ih;exact ih
theorem SN {rs:List Rw} {mu:Mu} (hl:rs.length<=1000):fU 40 [.str "main",.non,.int 0,.lst (rs.map Rw.pv),.int 0] mu=some (.own (.lst (bY rs)),mu):=by obtain⟨p6,p7,p8,p9,e⟩:=BK (R:=.lst (rs.map Rw.pv)) (mu:=mu) rs [] none none none none (by simpa using hl);exact aW (U:=LO (.lst (rs.map Rw.pv)) none p6 p7 p8 p9 mu) (aD (U':=LO (.lst (rs.map Rw.pv)) (zO []) none none none none mu) rfl (aD (jC (KZ (l:=.sh (.lst (rs.map Rw.pv))) rfl rfl rfl) e) rfl))
abbrev rz (bx gr:PV) (rs:List Rw):PV:=.tup [bx,gr,.lst [],.lst (rs.map Rw.pv)]
theorem SQ {bx gr:PV} {rs:List Rw} {mu:Mu} (hl:rs.length<=1000):oY [rz bx gr rs] mu=some (.own (.lst (bY rs)),mu):=by let E:=λl1=>(⟨[zS (rz bx gr rs),l1,none,none,none,none],mu⟩:Ev);refine aW (U:=E none) (aD (U':=E (zO [])) rfl (aD (U':=E (zO [])) (jC (xs:=[]) (U1:=E (zO [])) rfl rfl) (aD (U':=E (zO (bY rs))) ?_ rfl)));refine KY (ws0:=[]) (ws:=[]) (ps:=bY rs) (U1:=E (zO [])) rfl (bB (ls:=[.sh (.str "main"),.sh .non,.sh (.int 0),.sh (.lst (rs.map Rw.pv)),.sh (.int 0)]) (U1:=E (zO [])) rfl rfl rfl rfl (SN hl)) rfl rfl (by unfold bY; rw[YQ]; simp; omega) rfl
abbrev KM:List dg:=[some (.inr "main"),none,some (.inl 0)]
abbrev ZE (o0 o1 o2 o3 o4 o5 o6:Option Lc) (mu:Mu):Ev:=⟨[o0,o1,o2,o3,o4,o5,o6,none,none,none,none],mu⟩
abbrev Wf:SF:=pN (rO 3 (Eo (aj 5) cD (b8 (acP 3)))) (aj 4)
open Classical in
theorem Hk {U:Ev} {ks:List (List dg)} {ps:List PV} {fk:EF} (h0:U.vs[3]?=some (some (.own (.dx HK.hk ks ps)))) (hk:fk U=some (.sh (.tup [.str "main",.non,.int 0]),U)) (hl:ks.length<100000):rO 3 fk U=(match mZ (ks.zip ps) KM with
 | some p=>some (.sh p,U)
 | none=>some (.sh (.ptr U.mu.length),⟨U.vs.set 3 (some (.own (.dx HK.hk (ks++[KM]) (ps++[.ptr U.mu.length])))),U.mu++[some (.lst [])]⟩)):=by
 unfold rO;rw[h0];dsimp only;rw[hk,YJ];show (match PV.tup [.str "main",.non,.int 0],U.vs[3]? with | .tup kp,some (some (.own (.dx hk ks ps)))=>_ | _,_=>none)=_;rw[h0];dsimp only;rw[show qX [.str "main",.non,.int 0]=some KM from rfl,YJ,aa5 ⟨rfl,hl⟩]
 all_goals (cases mZ (ks.zip ps) KM<;>rfl)
theorem S5 {mu:Mu} {o0 o1 o2 o4 o5 o6:Option Lc} {r:Rw} {j:Nat} (hj:j<=1000):Wf (ZE o0 o1 o2 (some (.own (.dx HK.hk [KM] [.ptr mu.length]))) (zI (j:Nat)) (some (.sh (.tup [.str "main",.non,.int 0,r.pv]))) o6 (mu++[some (.lst (cQ j))]))=some (.nx (ZE o0 o1 o2 (some (.own (.dx HK.hk [KM] [.ptr mu.length]))) (zI (j:Nat)) (some (.sh (.tup [.str "main",.non,.int 0,r.pv]))) o6 (mu++[some (.lst (cQ (j+1)))]))):=by
 let E:=ZE o0 o1 o2 (some (.own (.dx HK.hk [KM] [.ptr mu.length]))) (zI (j:Nat)) (some (.sh (.tup [.str "main",.non,.int 0,r.pv]))) o6 (mu++[some (.lst (cQ j))]);have set:rO 3 (Eo (aj 5) cD (b8 (acP 3))) E=some (.sh (.ptr mu.length),E):=Hk (U:=E) (ks:=[KM]) (ps:=[.ptr mu.length]) rfl rfl (by decide);have g:(mu++[some (PV.lst (cQ j))])[mu.length]?=some (some (.lst (cQ j))):=by rw[Zb (YW _),aau]; rfl
 refine(tM set rfl (n:=mu.length) (ws0:=cQ j) (ws:=cQ j) (p:=.int (j:Nat)) g (y:=.sh (.int (j:Nat))) (U2:=E) rfl rfl g (by rw[YQ,ZR]; omega) rfl).trans ?_;show some (Fl.nx ⟨_,(mu++[some (PV.lst (cQ j))]).set mu.length _⟩)=_;rw[List.set_append_right _ _ (YW _),aau,yg];rfl
theorem O7_ {mu:Mu} {o0 o1 o2 o6:Option Lc} {r:Rw}:Wf (ZE o0 o1 o2 (some (.own (.dx HK.hk [] []))) (zI 0) (some (.sh (.tup [.str "main",.non,.int 0,r.pv]))) o6 mu)=some (.nx (ZE o0 o1 o2 (some (.own (.dx HK.hk [KM] [.ptr mu.length]))) (zI 0) (some (.sh (.tup [.str "main",.non,.int 0,r.pv]))) o6 (mu++[some (.lst (cQ 1))]))):=by
 let E:=λl3 mu=>ZE o0 o1 o2 l3 (zI 0) (some (.sh (.tup [.str "main",.non,.int 0,r.pv]))) o6 mu;have set:rO 3 (Eo (aj 5) cD (b8 (acP 3))) (E (some (.own (.dx HK.hk [] []))) mu)=some (.sh (.ptr mu.length),E (some (.own (.dx HK.hk [KM] [.ptr mu.length]))) (mu++[some (.lst [])])):=Hk (U:=E (some (.own (.dx HK.hk [] []))) mu) (ks:=[]) (ps:=[]) rfl rfl (by decide);have g:(mu++[some (PV.lst [])])[mu.length]?=some (some (.lst [])):=by rw[Zb (YW _),aau]; rfl
 refine(tM set rfl (n:=mu.length) (ws0:=[]) (ws:=[]) (p:=.int 0) g (y:=.sh (.int 0)) (U2:=E (some (.own (.dx HK.hk [KM] [.ptr mu.length]))) (mu++[some (.lst [])])) rfl rfl g (by decide) rfl).trans ?_;show some (Fl.nx ⟨_,(mu++[some (PV.lst [])]).set mu.length _⟩)=_;rw[List.set_append_right _ _ (YW _),aau];rfl
theorem Hl {mu:Mu} {o0 o1 o2 o6:Option Lc}:∀(rs:List Rw) (j:Nat) (o4 o5:Option Lc),j+rs.length<=1000->∃p4 p5,jO (ig 2 (bh (aJ 4) (bh (aJ 5) ie))) Wf (xm j (bY rs)) (ZE o0 o1 o2 (some (.own (.dx HK.hk [KM] [.ptr mu.length]))) o4 o5 o6 (mu++[some (.lst (cQ j))]))=some (.nx (ZE o0 o1 o2 (some (.own (.dx HK.hk [KM] [.ptr mu.length]))) p4 p5 o6 (mu++[some (.lst (cQ (j+rs.length)))])))
 | [],j,o4,o5,_=>⟨o4,o5,rfl⟩
 | r::rs,j,o4,o5,hl=>by simp only[YX]at hl;obtain⟨p4,p5,ih⟩:=Hl (mu:=mu) (o0:=o0) (o1:=o1) (o2:=o2) (o6:=o6) rs (j+1) (zI (j:Nat)) (some (.sh (.tup [.str "main",.non,.int 0,r.pv]))) (by omega);refine⟨p4,p5,gn (U1:=ZE o0 o1 o2 (some (.own (.dx HK.hk [KM] [.ptr mu.length]))) (zI (j:Nat)) (some (.sh (.tup [.str "main",.non,.int 0,r.pv]))) o6 (mu++[some (.lst (cQ j))])) rfl (S5 (o4:=none) (o5:=none) (by omega)) ?_⟩;rw[show j+(r::rs).length=j+1+rs.length from by rw[YX]; omega];exact ih
def LX (n:Nat):PV:=if n=0 then .dx HK.hk [] [] else .dx HK.hk [KM] [.lst (cQ n)]
abbrev PO (rs:List Rw):PV:=Xv (bY rs) (LX rs.length) (.dk [] [])
theorem O8 {bx gr:PV} {rs:List Rw} {mu:Mu} {p:Nat} (hl:rs.length<=1000) (hp:mu[p]?=some (some (cB "Plan" []))):∃mu',gm [.ptr p,rz bx gr rs] mu=some (.sh .non,mu')/\mu'[p]?=some (some (PO rs))/\mu.length<=mu'.length/\∀c,c<mu.length->c≠p->mu'[c]?=mu[c]?:=by
 have hpl:=mU hp;let E:=λl2 l3 l4 l5 l6 mu=>ZE (zS (.ptr p)) (zS (rz bx gr rs)) l2 l3 l4 l5 l6 mu;let T:List PV:=bY rs;have s2:aP 2 (aG oY (aa (aj 1) ao)) (E none none none none none mu)=some (.nx (E (zO T) none none none none mu)):=cP (bB (ls:=[.sh (rz bx gr rs)]) rfl rfl rfl rfl (SQ hl)) rfl rfl;have fin:∀(ks:List (List dg)) (ps:List PV) (qs:List PV) (l4 l5:Option Lc) (mu1 mu2:Mu),.dx HK.hk ks qs=LX rs.length->mu1[p]?=some (some (cB "Plan" []))->meltL (mu1.set p (some (cB "Plan" [("told",.lst T)]))) ps=some (qs,mu2)->mu2[p]?=some (some (cB "Plan" [("told",.lst T)]))->
  ∃mu3,aK (aP 6 oR) (aK (jP (jL (bC (aj 1) (acP 2)) fP) (ig 4 (bh (aJ 7) (bh (aJ 8) (bh (aJ 9) (bh (aJ 10) ie)))))
   (uA 6 (aj 7) (dG (jL (aj 9) fP) 2 [] (ig 2 (bh (aJ 0) (bh (aJ 1) ie))) dR (aj 0))))
   (aK (fD "Plan" "told" (aj 0) (aj 2))
   (aK (fD "Plan" "lists" (aj 0) (yP (aj 3)))
   (fD "Plan" "heads" (aj 0) (aj 6))))) (E (zL T) (some (.own (.dx HK.hk ks ps))) l4 l5 none mu1)=some (.nx mu3)/\mu3.mu=(mu2.set p (some (cB "Plan" [("told",.lst T),("lists",LX rs.length)]))).set p (some (PO rs)):=λks ps qs l4 l5 mu1 mu2 hL h1 hm h2=>by
  have em:yP (aj 3) (E (zL T) (some (.own (.dx HK.hk ks ps))) l4 l5 (some (.own (.dk [] []))) (mu1.set p (some (cB "Plan" [("told",.lst T)]))))=some (.sh (LX rs.length),E (zL T) (zS (.dx HK.hk ks ps)) l4 l5 (some (.own (.dk [] []))) mu2):=by show (meltL (mu1.set p (some (cB "Plan" [("told",.lst T)]))) ps).map _=_;rw[hm,<-hL];rfl
  refine⟨_,aD (U':=E (zL T) (some (.own (.dx HK.hk ks ps))) l4 l5 (some (.own (.dk [] []))) mu1) rfl (aD (U':=E (zL T) (some (.own (.dx HK.hk ks ps))) l4 l5 (some (.own (.dk [] []))) mu1) (jC (xs:=[]) (U1:=E (zL T) (some (.own (.dx HK.hk ks ps))) l4 l5 (some (.own (.dk [] []))) mu1) rfl rfl) (aD (tO (C := "Plan") (f := "told") (x:=.sh (.ptr p)) (y:=.sh (.lst T)) (U1:=E (zL T) (some (.own (.dx HK.hk ks ps))) l4 l5 (some (.own (.dk [] []))) mu1) (U2:=E (zL T) (some (.own (.dx HK.hk ks ps))) l4 l5 (some (.own (.dk [] []))) mu1) rfl rfl rfl rfl h1 (by decide)) (aD (tO (C := "Plan") (f := "lists") (x:=.sh (.ptr p)) (l:=[("told",.lst T)]) em rfl rfl rfl h2 (show (1:Nat)<1000 from by decide)) (tO (C := "Plan") (f := "heads") (x:=.sh (.ptr p)) (l:=[("told",.lst T),("lists",LX rs.length)]) rfl rfl rfl rfl (Y8 (mU h2)) (show (2:Nat)<1000 from by decide))))),rfl⟩
 have en:tD (aj 2) (E (zO T) (some (.own (.dx HK.hk [] []))) none none none mu)=some (xm 0 T,E (zL T) (some (.own (.dx HK.hk [] []))) none none none mu):=by rw[<-O5];rfl
 have z1:(mu.set p (some (cB "Plan" [("told",.lst T)])))[p]?=some (some (cB "Plan" [("told",.lst T)])):=Y8 hpl;cases hrs:rs with
 | nil=>
  obtain⟨U3,e3,h3⟩:=fin [] [] [] none none mu _ (by rw[hrs]; rfl) hp rfl z1;refine⟨U3.mu,?_,?_,?_,?_⟩
  rotate_left
  . rw[<-hrs,h3]; exact Y8 (by rw[Zh,Zh]; exact hpl)
  . rw[h3,Zh,Zh,Zh]; exact YW _
  . intro c _ h;rw[h3,Zc (Ne.symm h),Zc (Ne.symm h),Zc (Ne.symm h)]
  . rw[<-hrs];exact jB (aD s2 (aD (U':=E (zO T) (some (.own (.dx HK.hk [] []))) none none none mu) rfl (aD (U':=E (zL T) (some (.own (.dx HK.hk [] []))) none none none mu) (jC en (by show jO _ _ (xm 0 (bY rs)) _=_; rw[hrs]; rfl)) e3)))
 | cons r rs'=>
  have hn:rs.length≠0:=by rw[hrs]; simp
  obtain⟨p4,p5,el⟩:=Hl (mu:=mu) (o0:=zS (.ptr p)) (o1:=zS (rz bx gr rs)) (o2:=zL T) (o6:=none) rs' 1 (zI 0) (some (.sh (.tup [.str "main",.non,.int 0,r.pv]))) (by rw[hrs,YX]at hl; omega);rw[show 1+rs'.length=rs.length from by rw[hrs,YX]; omega]at el;have e5:((mu++[some (PV.lst (cQ rs.length))]).set p (some (cB "Plan" [("told",.lst T)])))=mu.set p (some (cB "Plan" [("told",.lst T)]))++[some (PV.lst (cQ rs.length))]:=List.set_append_left _ _ hpl;have hm:meltL ((mu++[some (PV.lst (cQ rs.length))]).set p (some (cB "Plan" [("told",.lst T)]))) [.ptr mu.length]=some ([.lst (cQ rs.length)],(mu.set p (some (cB "Plan" [("told",.lst T)]))++[some (PV.lst (cQ rs.length))]).set mu.length none):=by rw[e5];show (match (mu.set p (some (cB "Plan" [("told",.lst T)]))++[some (PV.lst (cQ rs.length))])[mu.length]? with | some (some q)=>_ | _=>none)=_;rw[Zb (by rw[Zh]; exact YW _),Zh,aau];rfl
  obtain⟨U3,e3,h3⟩:=fin [KM] [.ptr mu.length] [.lst (cQ rs.length)] p4 p5 (mu++[some (PV.lst (cQ rs.length))]) _ (by unfold LX; rw[aa6 hn]) (by rw[SM hpl]; exact hp) hm (by rw[Zc (by omega),Zj (by rw[Zh]; exact hpl)]; exact z1);refine⟨U3.mu,?_,?_,?_,?_⟩
  rotate_left
  . rw[<-hrs,h3]; exact Y8 (by simp; omega)
  . rw[h3]; simp
  . intro c hc h;rw[h3,Zc (Ne.symm h),Zc (Ne.symm h),Zc (by omega),Zj (by rw[Zh]; exact hc),Zc (Ne.symm h)]
  . rw[<-hrs];refine jB (aD s2 (aD (U':=E (zO T) (some (.own (.dx HK.hk [] []))) none none none mu) rfl (aD (U':=E (zL T) (some (.own (.dx HK.hk [KM] [.ptr mu.length]))) p4 p5 none (mu++[some (PV.lst (cQ rs.length))])) (jC en ?_) e3)));have ht:xm 0 T=.tup [.int (0:Nat),.tup [.str "main",.non,.int 0,r.pv]]::xm 1 (bY rs'):=by show xm 0 (bY rs)=_; rw[hrs]; rfl
    rw[ht];exact gn (U1:=E (zL T) (some (.own (.dx HK.hk [] []))) (zI 0) (some (.sh (.tup [.str "main",.non,.int 0,r.pv]))) none mu) rfl O7_ el
open Classical in
theorem Ao {fo fk:EF} {U U1 U2:Ev} {x y:Lc} {ks:List (List dg)} {ps kp:List PV} {k:List dg} {l:Lc} (h1:fo U=some (x,U1)) (hx:x.pv=.dx HK.hk ks ps) (h2:fk U1=some (y,U2)) (hy:y.pv=.tup kp) (hk:qX kp=some k) (hl:(match mZ (ks.zip ps) k with | some p=>Lc.sh p | none=>.own (.lst []))=l):uC fo fk U=some (l,U2):=by unfold uC;rw[h1,YJ,hx];dsimp only;rw[h2,YJ,hy];dsimp only;rw[hk,YJ,aa5 rfl];subst hl;cases mZ (ks.zip ps) k<;>rfl
theorem O9 {mu:Mu} {p:Nat} {rs:List Rw} (hp:mu[p]?=some (some (PO rs))):my [.ptr p,.str "main"] mu=some (.own (.lst (cQ rs.length)),mu):=by
 let E:Ev:=⟨[zS (.ptr p),some (.sh (.str "main"))],mu⟩;have hf:dm "Plan" "lists" (aj 0) E=some (.sh (LX rs.length),E):=fX rfl rfl hp rfl;have hg:∃l:Lc,uC (dm "Plan" "lists" (aj 0)) (cN (aa (aj 1) (aa (eC .non) (aa (acP 0) ao)))) E=some (l,E)/\l.pv=.lst (cQ rs.length):=by
  by_cases h:rs.length=0
  . exact⟨.own (.lst []),Ao (ks:=[]) (ps:=[]) (k:=KM) hf (by show LX rs.length=_; unfold LX; rw[aa5 h]) rfl rfl rfl rfl,by rw[h]; rfl⟩
  . exact⟨.sh (.lst (cQ rs.length)),Ao (ks:=[KM]) (ps:=[.lst (cQ rs.length)]) (k:=KM) hf (by show LX rs.length=_; unfold LX; rw[aa6 h]) rfl rfl rfl rfl,rfl⟩
 obtain⟨l,hg,hv⟩:=hg;exact aW (U:=E) (cA (pA (ls:=[l]) (ps:=[.lst (cQ rs.length)]) (aH hg rfl) (by show [l.pv]=_; rw[hv]) rfl))
theorem Mh {mu:Mu} {p k:Nat} {rs:List Rw} (hp:mu[p]?=some (some (PO rs))) (hk:k<rs.length):j6 [.ptr p,.int (k:Nat),.int 1] mu=some (.own (.lst []),mu):=by
 let E:Ev:=⟨[zS (.ptr p),zI (k:Nat),zI 1],mu⟩;have hf:dm "Plan" "lists" (aj 0) E=some (.sh (LX rs.length),E):=fX rfl rfl hp rfl;have h0:rs.length≠0:=by omega
 have ht:(bY rs)[k]?=some (.tup [.str "main",.non,.int 0,vR]):=by unfold bY;rw[Zd,YT hk];rfl
 have e0:bC (bC (dm "Plan" "told" (aj 0)) (aj 1)) (acP 0) E=some (.sh (.str "main"),E):=
  rM (l:=.sh (.tup [.str "main",.non,.int 0,vR])) (m:=.sh (.int 0)) (rM (l:=.sh (.lst (bY rs))) (m:=.sh (.int (k:Nat))) (fX rfl rfl hp rfl) rfl rfl rfl (λn h=>by cases h) (by show (gR (bY rs) (k:Nat)).map _=_; rw[oA ht]; rfl)) rfl rfl rfl (λn h=>by cases h) rfl
 have hg:uC (dm "Plan" "lists" (aj 0)) (cN (aa (bC (bC (dm "Plan" "told" (aj 0)) (aj 1)) (acP 0)) (aa (aj 1) (aa (aj 2) ao)))) E=some (.own (.lst []),E):=by
  refine Ao (ks:=[KM]) (ps:=[.lst (cQ rs.length)]) (k:=[some (.inr "main"),some (.inl (k:Int)),some (.inl 1)]) hf (by show LX rs.length=_; unfold LX; rw[aa6 h0]) (pX (ls:=[.sh (.str "main"),.sh (.int (k:Nat)),.sh (.int 1)]) (aH e0 (aH rfl (aH rfl rfl))) rfl rfl) rfl rfl ?_;have:mZ ([KM].zip [PV.lst (cQ rs.length)]) [some (.inr "main"),some (.inl (k:Int)),some (.inl 1)]=none:=by show (if KM=[some (.inr "main"),some (.inl (k:Int)),some (.inl 1)] then _ else _)=_;rw[aa6 (by intro h; cases h)];rfl
  rw[this]
 exact aW (U:=E) (cA (pA (ls:=[.own (.lst [])]) (ps:=[.lst []]) (aH hg rfl) rfl rfl))
abbrev uQ (p:PV):PV:=.tup [p,.int 0]
abbrev xn (k t:Int):PV:=.tup [.int k,.int t,.lst []]
def uR:Nat->List Rw->List PV
 | k,[]=>[.tup [.int ((k:Int)-1),.int 3]]
 | k,_::rs=>uR (k+1) rs++[.tup [.int (k:Nat),.int 0]]
def Aq:Nat->List Rw->List PV
 | k,[]=>[xn ((k:Int)-1) 3]
 | k,_::rs=>xn (k:Int) 0::Aq (k+1) rs
theorem Fw:∀{k:Nat} {rs:List Rw},(Aq k rs).length=rs.length+1
 | k,[]=>rfl
 | k,r::rs=>by show (Aq (k+1) rs).length+1=(rs.length+1)+1;rw[Fw]
theorem Fx:∀(rs:List Rw) (k:Nat),uR k rs=.tup [.int (((k+rs.length:Nat):Int)-1),.int 3]::((List.range' k rs.length).map λi=>PV.int (i:Nat)).reverse.map uQ
 | [],k=>rfl
 | r::rs,k=>by show uR (k+1) rs++[.tup [.int (k:Nat),.int 0]]=_;rw[Fx rs (k+1),YX,aa1,Za,List.reverse_cons,Zo,aad,show k+1+rs.length=k+(rs.length+1) from by omega];rfl
theorem vU {n:Nat}:(List.range' 0 n).map (λi=>PV.int (i:Nat))=cQ n:=by rw[<-List.range_eq_range']
section
variable {mu:Mu} {I:Ix} {bu:Int} {T:List PV} {L H:PV} {B:Bs} {M D:List PV}
theorem S6 {p k:Nat} {w a b rv:PV} (hp:mu[p]?=some (some (Xv T L H))) (hk:T[k]?=some (.tup [w,a,b,rv])):nD [.ptr p,.int (k:Nat)] mu=some (.sh rv,mu):=
 aW (U:=⟨[zS (.ptr p),zI (k:Nat)],mu⟩) (cA (rM (l:=.sh (.tup [w,a,b,rv])) (m:=.sh (.int 3)) (rM (l:=.sh (.lst T)) (m:=.sh (.int (k:Nat))) (fX rfl rfl hp rfl) rfl rfl rfl (λn h=>by cases h) (by show (gR T (k:Nat)).map _=_; rw[oA hk]; rfl)) rfl rfl rfl (λn h=>by cases h) rfl))
end
section
variable {mu:Mu} {I:Ix} {bu:Int} {Q:PV} {B:Bs} {M D:List PV}
theorem Fy {ps:List PV} (S:RS mu I bu Q B M D) (hl:D.length+ps.length<=1000):jJ [.ptr I.r,.lst ps] mu=some (.sh .non,mu.set I.d (some (.lst (D++ps.reverse.map uQ)))):=by
 let E:Ev:=⟨[zS (.ptr I.r),zL ps],mu⟩;have ec:=lW (b:=aJ 0) (te:=cN (aa (aj 0) (aa (acP 0) ao))) (mu:=mu) (λU=>∃o,U=⟨[o],mu⟩) (λU ⟨o,e⟩=>by rw[e]) uQ (xs:=ps.reverse) (U:=⟨[none],mu⟩) ⟨none,rfl⟩ (by simp; omega) (by
  rintro p hp U ⟨o,rfl⟩;exact⟨⟨[zS p],mu⟩,rfl,.sh (uQ p),⟨[zS p],mu⟩,rfl,rfl,_,rfl⟩) (by
  rintro p hp U U1 ⟨o,rfl⟩ e;cases e;exact⟨_,rfl⟩)
 have e2:dG (Dd (aj 1)) 1 [] (aJ 0) dR (cN (aa (aj 0) (aa (acP 0) ao))) E=some (.own (.lst (ps.reverse.map uQ)),E):=nW (f:=Dd (aj 1)) (m:=1) (ixs:=[]) (U:=E) (U1:=E) (xs:=ps.reverse) rfl ec;exact jB (U:=⟨[zS (.ptr I.r),zL ps],mu.set I.d (some (.lst (D++ps.reverse.map uQ)))⟩) (Sw (o:=.sh (.ptr I.d)) (U1:=E) (U2:=E) (y:=.own (.lst (ps.reverse.map uQ))) (fX rfl rfl S.hr rfl) rfl S.hd e2 rfl S.hd (by rw[YQ,aaQ]; omega) rfl)
theorem Jp {rs:List Rw} (S:RS mu I bu (PO rs) B M []) (hl:rs.length<=900):∃mu',iV [.ptr I.r,.str "main"] mu=some (.sh .non,mu')/\RS mu' I bu (PO rs) B M (if rs=[] then [] else uR 0 rs)/\mu'.length=mu.length/\∀c,c≠I.d->mu'[c]?=mu[c]?:=by
 let E:=λl2 mu=>(⟨[zS (.ptr I.r),some (.sh (.str "main")),l2],mu⟩:Ev);let N:Option Lc:=zL (cQ rs.length);have ln:(cQ rs.length).length=rs.length:=by rw[YQ,ZR]
 have s2:aP 2 (eV "Plan" "body" my (dm "Running" "plan" (aj 0)) (aa (aj 1) ao)) (E none mu)=some (.nx (E (zO (cQ rs.length)) mu)):=cP (tQ (x:=.sh (.ptr I.p)) (ls:=[.sh (.str "main")]) (U1:=E none mu) (U2:=E none mu) (fX rfl rfl S.hr rfl) rfl S.hp (show (["told", "lists", "heads"]:List Str).contains "body" = false from by decide +kernel) rfl rfl (O9 S.hp)) rfl rfl;have t3:tT (aj 2) eG (E (zO (cQ rs.length)) mu)=some (!(cQ rs.length).isEmpty,E N mu):=rfl;by_cases h:rs=[]
 . have e0:cQ rs.length=[]:=by rw[h]; rfl
   have S':=S.setD (D':=[]++([]:List PV).reverse.map uQ);refine⟨mu.set I.d (some (.lst ([]++([]:List PV).reverse.map uQ))),?_,by rw[aa5 h]; exact S',Zh,λc hc=>Zc (Ne.symm hc)⟩;have el:=Fy (ps:=[]) S (by simp);refine jB (U:=E N _) (aD s2 (aD (U':=E N mu) ((dZ (t3.trans (by rw[e0]; rfl))).trans rfl) (mH (rY S.hr (by decide +kernel) (ls:=[.sh (.lst (cQ rs.length))]) (mu1:=mu) rfl rfl (by rw[e0]; exact el)))))
 . obtain⟨m,hm⟩:∃m,rs.length=m+1:=⟨rs.length-1,by cases rs with | nil=>exact absurd rfl h | cons r rs=>simp⟩;have S1:=S.setD (D':=[]++[PV.tup [.int (m:Nat),.int 3]]);have el:=Fy (ps:=cQ rs.length) S1 (by rw[ln]; simp; omega);have ed:[]++[PV.tup [.int (m:Nat),.int 3]]++(cQ rs.length).reverse.map uQ=uR 0 rs:=by rw[Fx,vU,hm,show (((0+(m+1):Nat):Int)-1)=(m:Nat) from by omega];rfl
   rw[ed]at el;refine⟨_,?_,by rw[aa6 h]; exact S1.setD,by rw[Zh,Zh],λc hc=>(Zc (Ne.symm hc)).trans (Zc (Ne.symm hc))⟩;have s3:pN (dm "Running" "due" (aj 0)) (cN (aa (bC (aj 2) (sG (acP 1))) (aa (acP 3) ao))) (E N mu)=some (.nx (E N (mu.set I.d (some (.lst ([]++[PV.tup [.int (m:Nat),.int 3]])))))):=tM (o:=.sh (.ptr I.d)) (U1:=E N mu) (U2:=E N mu) (y:=.sh (.tup [.int (m:Nat),.int 3])) (fX rfl rfl S.hr rfl) rfl S.hd (pX (ls:=[.sh (.int (m:Nat)),.sh (.int 3)]) (aH (rM (l:=.sh (.lst (cQ rs.length))) (m:=.sh (.int (-1))) rfl rfl rfl rfl (λn h=>by cases h) (by show (gR (cQ rs.length) (-1)).map _=_; rw[hm,yg,O4]; rfl)) rfl) rfl rfl) rfl S.hd (by decide) rfl;exact jB (U:=E N _) (aD s2 (aD (U':=E N _) ((gh (t3.trans (by rw[hm,yg]; cases cQ m<;>rfl))).trans s3) (mH (rY S1.hr (by decide +kernel) (ls:=[.sh (.lst (cQ rs.length))]) (mu1:=mu.set I.d (some (.lst ([]++[PV.tup [.int (m:Nat),.int 3]])))) rfl rfl el))))
theorem Pa {k:Nat} {rs:List Rw} (S:RS mu I bu (PO rs) B M D) (h8:B.length<=100) (hk:k<rs.length) (hl:M.length<1000) (hd:D.length<=900):∃mu',jT [.ptr I.r,.int (k:Nat)] mu=some (.sh .non,mu')/\RS mu' I bu (PO rs) B (M++[xn (k:Int) 0]) D/\Fr I mu mu':=by
 let E:=λl2 mu=>(⟨[zS (.ptr I.r),zI (k:Nat),l2],mu⟩:Ev);let R:Option Lc:=zS vR;have ht:(bY rs)[k]?=some (.tup [.str "main",.non,.int 0,vR]):=by unfold bY;rw[Zd,YT hk];rfl
 have s2:aP 2 (eV "Plan" "row" nD (dm "Running" "plan" (aj 0)) (aa (aj 1) ao)) (E none mu)=some (.nx (E R mu)):=cP (tQ (x:=.sh (.ptr I.p)) (ls:=[.sh (.int (k:Nat))]) (U1:=E none mu) (U2:=E none mu) (fX rfl rfl S.hr rfl) rfl S.hp (show (["told", "lists", "heads"]:List Str).contains "row" = false from by decide +kernel) rfl rfl (S6 S.hp ht)) rfl rfl;let mu1:=mu.set I.m (some (.lst (M++[xn (k:Int) 0])));have S1:RS mu1 I bu (PO rs) B (M++[xn (k:Int) 0]) D:=S.setM;have s3:lB (eV "Running" "note" gM (aj 0) (aa (aj 1) (aa (acP 0) (aa (aL ao) ao)))) (E R mu)=some (.nx (E R mu1)):=mH (rY S.hr (by decide +kernel) (ls:=[.sh (.int (k:Nat)),.sh (.int 0),.own (.lst [])]) (mu1:=mu) rfl rfl (Hj S (by omega)));have vl:eV "Running" "value" eZ (aj 0) (aa (bC (aj 2) (acP 1)) ao) (E R mu1)=some (.sh (.int 0),E R mu1):=rY S1.hr (by decide +kernel) (ls:=[.sh NUM]) (mu1:=mu1) rfl rfl (LR S1 h8);have wh:vh (tT (aB eqP (eV "Running" "value" eZ (aj 0) (aa (bC (aj 2) (acP 1)) ao)) (acP 0)) cU) (acP 1) (acP 0) (E R mu1)=some (.sh (.int 1),E R mu1):=(LQ (rW vl (by decide))).trans rfl;have bl:eV "Plan" "block" j6 (dm "Running" "plan" (aj 0)) (aa (aj 1) (aa (vh (tT (aB eqP (eV "Running" "value" eZ (aj 0) (aa (bC (aj 2) (acP 1)) ao)) (acP 0)) cU) (acP 1) (acP 0)) ao)) (E R mu1)=some (.own (.lst []),E R mu1):=tQ (x:=.sh (.ptr I.p)) (ls:=[.sh (.int (k:Nat)),.sh (.int 1)]) (U1:=E R mu1) (U2:=E R mu1) (fX rfl rfl S1.hr rfl) rfl S1.hp (show (["told", "lists", "heads"]:List Str).contains "block" = false from by decide +kernel) (aH rfl (aH wh rfl)) rfl (Mh S1.hp hk);have el:=Fy (ps:=[]) S1 (by simp; omega);have S2:=S1.setD (D':=D++([]:List PV).reverse.map uQ);have ea:D++([]:List PV).reverse.map uQ=D:=Zg _;refine⟨_,jB (U:=E R _) (aD s2 (aD s3 ((gh (Df (a := "if") (U1:=E R mu1) rfl (by decide +kernel))).trans (mH (rY S1.hr (by decide +kernel) (ls:=[.own (.lst [])]) (mu1:=mu1) (aH bl rfl) rfl el))))),?_,?_⟩
 . rw[ea]at S2 ⊢;exact S2
 . have l1:=S.l1;have l2:=S.l2;have l3:=S.l3;have l4:=S.l4;have l5:=S.l5;have l6:=S.l6;exact(Fr.set (by omega)).trans (Fr.set (by omega))
theorem Pb {k:Nat} {rs:List Rw} (S:RS mu I bu (PO rs) B M (D++[.tup [.int (k:Nat),.int 0]])) (h8:B.length<=100) (hk:k<rs.length) (hl:M.length<1000) (hd:D.length<=900):∃mu',fW [.ptr I.r] mu=some (.sh .non,mu')/\RS mu' I bu (PO rs) B (M++[xn (k:Int) 0]) D/\Fr I mu mu':=by have l1:=S.l1;have l2:=S.l2;have l3:=S.l3;have l4:=S.l4;have l5:=S.l5;have l6:=S.l6;let mu1:=mu.set I.d (some (.lst D));have S1:RS mu1 I bu (PO rs) B M D:=S.setD;obtain⟨mu',e',g',f'⟩:=Pa S1 h8 hk hl hd;let E:=λl1 mu=>(⟨[zS (.ptr I.r),l1],mu⟩:Ev);let U_:Option Lc:=zS (.tup [.int (k:Nat),.int 0]);have s1:aP 1 (wC (dm "Running" "due" (aj 0))) (E none mu)=some (.nx (E U_ mu1)):=cP (Hb (U1:=E none mu) (o:=.sh (.ptr I.d)) (ws:=D) (p:=.tup [.int (k:Nat),.int 0]) (fX rfl rfl S.hr rfl) rfl S.hd rfl) rfl rfl;exact⟨mu',jB (U:=E U_ mu') (aD s1 ((gh (rW (a:=0) (U1:=E U_ mu1) rfl (by decide))).trans (mH (rY S1.hr (by decide +kernel) (ls:=[.sh (.int (k:Nat))]) (mu1:=mu1) rfl rfl e')))),g',(Fr.set (by omega)).trans f'⟩
theorem Pg {k:Int} (S:RS mu I bu Q B M (D++[.tup [.int k,.int 3]])) (hl:M.length<1000):∃mu',fW [.ptr I.r] mu=some (.sh .non,mu')/\RS mu' I bu Q B (M++[xn k 3]) D/\Fr I mu mu':=by have l1:=S.l1;have l2:=S.l2;have l3:=S.l3;have l4:=S.l4;have l5:=S.l5;have l6:=S.l6;let mu1:=mu.set I.d (some (.lst D));have S1:RS mu1 I bu Q B M D:=S.setD;let E:=λl1 mu=>(⟨[zS (.ptr I.r),l1],mu⟩:Ev);let U_:Option Lc:=zS (.tup [.int k,.int 3]);have s1:aP 1 (wC (dm "Running" "due" (aj 0))) (E none mu)=some (.nx (E U_ mu1)):=cP (Hb (U1:=E none mu) (o:=.sh (.ptr I.d)) (ws:=D) (p:=.tup [.int k,.int 3]) (fX rfl rfl S.hr rfl) rfl S.hd rfl) rfl rfl;exact⟨_,jB (U:=E U_ _) (aD s1 ((dZ (rW (a:=3) (U1:=E U_ mu1) rfl (by decide))).trans ((dZ (rW (a:=3) (U1:=E U_ mu1) rfl (by decide))).trans (mH (rY S1.hr (by decide +kernel) (ls:=[.sh (.int k),.sh (.int 3),.own (.lst [])]) (mu1:=mu1) rfl rfl (Hj S1 (by omega))))))),S1.setM,(Fr.set (by omega)).trans (Fr.set (by omega))⟩
end
abbrev Wg:SF:=lB (eV "Running" "step" fW (aj 3) ao)
abbrev stC:TF:=yV (dm "Running" "due" (aj 3))
section
variable {I:Ix} {bu:Int}
abbrev GE (p v b:PV) (I:Ix) (mu:Mu):Ev:=⟨[zS p,zS v,zS b,zS (.ptr I.r)],mu⟩
theorem Q4 {p v b:PV} {mu mu':Mu} (hr:mu[I.r]?=some (some (cB "Running" (rF I bu)))) (e:fW [.ptr I.r] mu=some (.sh .non,mu')):Wg (GE p v b I mu)=some (.nx (GE p v b I mu')):=
 mH (tQ (x:=.sh (.ptr I.r)) (ls:=[]) (U1:=GE p v b I mu) (U2:=GE p v b I mu) rfl rfl hr (show (["plan", "boxes", "own", "budget", "word", "moments", "due"]:List Str).contains "step" = false from by decide +kernel) rfl rfl e)
theorem Dg {p v b:PV} {mu:Mu} {PO:PV} {B:Bs} {M D:List PV} (S:RS mu I bu PO B M D):stC (GE p v b I mu)=some (!D.isEmpty,GE p v b I mu):=Sy (x:=.sh (.ptr I.d)) (fX rfl rfl S.hr rfl) rfl S.hd
theorem Wh:∀{k:Nat} {rs:List Rw},(uR k rs).isEmpty=false
 | k,[]=>rfl
 | k,r::rs=>by unfold uR;cases uR (k+1) rs<;>rfl
theorem Fz {p v b:PV} {B:Bs} {as:List Rw} (h8:B.length<=100):∀(rs:List Rw) (n k:Nat) (M:List PV) (mu:Mu),rs.length+1<n->M.length+rs.length+2<900->k+rs.length=as.length->RS mu I bu (PO as) B M (uR k rs)->
 ∃mu',qO n stC Wg (GE p v b I mu)=some (.nx (GE p v b I mu'))/\RS mu' I bu (PO as) B (M++Aq k rs) []/\Fr I mu mu'
 | [],n,k,M,mu,hn,hl,hk,S=>by obtain⟨m,rfl⟩:∃m,n=m+2:=⟨n-2,by simp at hn; omega⟩;obtain⟨mu',e,g,f⟩:=Pg (D:=[]) (k:=(k:Int)-1) S (by omega);refine⟨mu',?_,g,f⟩;rw[Hg (Dg S) (Q4 S.hr e)];exact Hi (Dg g)
 | r::rs,n,k,M,mu,hn,hl,hk,S=>by
  obtain⟨m,rfl⟩:∃m,n=m+1:=⟨n-1,by simp at hn; omega⟩;simp only[YX]at hn hl hk;have ld:(uR (k+1) rs).length<=900:=by rw[Fx]; simp; omega
  obtain⟨mu1,e,g,f⟩:=Pb (D:=uR (k+1) rs) S h8 (by omega) (by omega) ld;obtain⟨mu',e',g',f'⟩:=Fz (p:=p) (v:=v) (b:=b) h8 rs m (k+1) _ mu1 (by omega) (by rw[Y5]; show M.length+1+_+2<900; omega) (by omega) g;refine⟨mu',?_,?_,f.trans f'⟩
  . rw[Hg ((Dg S).trans (by rw[Wh]; rfl)) (Q4 S.hr e)];exact e'
  . rw[Ze]at g';exact g'
end
theorem BP {k:Key}:∀{ks:List Key} {ps:List PV},k∉ks->fL (ks.zip ps) k=none
 | [],_,_=>rfl
 | _::_,[],_=>rfl
 | y::ks,p::ps,h=>by show (if y=k then some p else fL (ks.zip ps) k)=none;rw[aa6 (λe=>h (by rw[e]; exact YK)),BP λq=>h (Y6 _ q)]
theorem FJ {i:Nat} {fi fv:EF} {U U1 U2 U':Ev} {x y:Lc} {ks0 ks:List Key} {ps0 ps:List PV} {k:Key} {p:PV} (h1:fv U=some (x,U1)) (hx:x.pv=p) (h0:U1.vs[i]?=some (some (.own (.dk ks0 ps0)))) (h2:fi U1=some (y,U2)) (hy:xV y.pv=some k) (h3:U2.vs[i]?=some (some (.own (.dk ks ps)))) (hl:ks.length<100000) (e:U2.set i (some (.own (qR (uz (ks.zip ps) k p))))=U'):uA i fi fv U=some (.nx U'):=by unfold uA;rw[h1,YJ,h0];dsimp only;rw[h2,YJ,hy,h3];dsimp only;rw[aa5 hl,hx,e]
theorem S7 {ks:List Key} {ps:List PV} {k:Key} {p:PV} (hl:ps.length=ks.length) (hk:k∉ks):qR (uz (ks.zip ps) k p)=.dk (ks++[k]) (ps++[p]):=by unfold uz;rw[BP hk];show qR (ks.zip ps++[(k,p)])=_;rw[show ks.zip ps++[(k,p)]=(ks++[k]).zip (ps++[p]) from by rw[aah hl.symm]; rfl];exact LK (by rw[Y5,Y5,hl]; rfl)
theorem Ph {A:Bs} {x:Str} (h:x∉A.map (·.1)):(.inr x:Key)∉dH A:=λq=>by obtain⟨z,hz,e⟩:=Zk.mp q;exact h (Zk.mpr ⟨z,hz,Sum.inr.inj e⟩)
def VW (mu:Mu) (v:BV) (p:PV):Prop:=p=v.pv\/∃c is,v=.l is/\p=.ptr c/\mu[c]?=some (some (.lst (is.map .int)))
def mV (mu:Mu):Bs->List PV->Prop
 | [],ws=>ws=[]
 | q::B,ws=>∃w r,ws=w::r/\VW mu q.2 w/\mV mu B r
theorem mV.frame {mu mu':Mu} (f:∀c,c<mu.length->mu'[c]?=mu[c]?):∀{B:Bs} {ws:List PV},mV mu B ws->mV mu' B ws
 | [],ws,h=>h
 | q::B,ws,⟨w,r,e,h1,h2⟩=>⟨w,r,e,by
  rcases h1 with h1 | ⟨c,is,e1,e2,e3⟩
  . exact .inl h1
  . exact .inr ⟨c,is,e1,e2,by rw[f c (mU e3)]; exact e3⟩,h2.frame f⟩
theorem mV.self {mu:Mu}:∀{B:Bs},mV mu B (dI B)
 | []=>rfl
 | q::B=>⟨q.2.pv,dI B,rfl,.inl rfl,mV.self⟩
theorem mV.len {mu:Mu}:∀{B:Bs} {ws:List PV},mV mu B ws->ws.length=B.length
 | [],ws,h=>by have h:ws=[]:=h; subst h; rfl
 | q::B,ws,⟨w,r,e,h1,h2⟩=>by subst e; rw[YX,YX,h2.len]
theorem FN {mu:Mu} {is:List Int}:∀k,bK mu k (.lst (is.map .int))=.lst (is.map .int)
 | 0=>rfl
 | k+1=>by show PV.lst ((is.map PV.int).map (bK mu k))=_;rw[ZZ];exact congrArg PV.lst (aab λi _=>Hf k)
theorem FP {mu:Mu} {v:BV}:∀k,bK mu k v.pv=v.pv:=λk=>by
 cases v with
 | n i=>exact Hf k
 | l is=>exact FN k
theorem VW.res {mu:Mu} {v:BV} {p:PV} (h:VW mu v p) (k:Nat):bK mu (k+1) p=v.pv:=by
 rcases h with rfl | ⟨c,is,rfl,rfl,e⟩
 . exact FP _
 . rw[An e,FN]; rfl
theorem mV.res {mu:Mu} {k:Nat}:∀{B:Bs} {ws:List PV},mV mu B ws->ws.map (bK mu (k+1))=dI B
 | [],ws,h=>by have h:ws=[]:=h; subst h; rfl
 | q::B,ws,⟨w,r,e,h1,h2⟩=>by subst e;exact c2 (h1.res k) h2.res
theorem FQ {U:Ev} {i:Nat} {w:PV} {b:Bool} (hw:U.vs[i]?=some (zS w)) (h2:pq (bK (U.mu.map λ_=>none) 40 (bK U.mu 40 w)) "list" = some b):nA (tT (j4 (fu "list" (aj i))) eG) U=some (b,U):=by
 have e1:U.peekD.vs[i]?=some (zS (bK U.mu 40 w)):=by show (U.vs.map (peekD U.mu))[i]?=_;rw[Zd,hw];rfl
 have e2:U.peekD.peekD.vs[i]?=some (zS (bK (U.mu.map λ_=>none) 40 (bK U.mu 40 w))):=by show (U.peekD.vs.map (peekD U.peekD.mu))[i]?=_;rw[Zd,e1];rfl
 have e3:∃U1,aj i U.peekD.peekD=some (.sh (bK (U.mu.map λ_=>none) 40 (bK U.mu 40 w)),U1):=by unfold aj;rw[e2];exact⟨_,rfl⟩
 obtain⟨U1,e3⟩:=e3;unfold nA;rw[d7 (l:=.sh (.bl b)) (xW (ik e3 rfl h2) rfl) rfl rfl];rfl
theorem Wi {mu mu':Mu} {v:BV} {p:PV} (h:VW mu v p):pq (bK mu' 40 (bK mu 40 p)) "list" = some (match v with | .n _=>false | .l _=>true):=by rw[h.res 39,FP];cases v<;>rfl
theorem S8 {f:EF} {U U1:Ev} {x:Lc} {v:BV} {is:List Int} (h:f U=some (x,U1)) (hv:v=.l is) (hw:VW U1.mu v x.pv):yW f U=some (.own (.lst (is.map .int)),U1):=by
 unfold yW;rw[h,YJ];subst hv;rcases hw with e | ⟨c,js,e0,e,e1⟩
 . rw[e]; rfl
 . cases e0;rw[e];dsimp only;rw[e1]
abbrev FE (P V:PV) (l2 l3 l4:Option Lc) (mu:Mu):Ev:=⟨[zS P,zS V,l2,l3,l4],mu⟩
abbrev Xw:SF:=uA 2 (bC (aj 3) (acP 0)) (vh (nA (tT (j4 (fu "list" (aj 4))) eG)) (yW (aj 4)) (aj 4))
theorem S9 {P V w:PV} {A:Bs} {mu:Mu} {x:Str} {s:Int} {v:BV} (hx:x∉A.map (·.1)) (hA:A.length<=100) (hw:VW mu v w):∃p4,Xw (FE P V (some (.own (.dk (dH A) (dI A)))) (zS (.tup [.str x,.int s,.non])) (zS w) mu)=some (.nx (FE P V (some (.own (.dk (dH (A++[(x,v)])) (dI (A++[(x,v)]))))) (zS (.tup [.str x,.int s,.non])) p4 mu)):=by
 have hl:(dI A).length=(dH A).length:=by rw[YQ,YQ]
 have hk:=Ph hx;have ek:dH (A++[(x,v)])=dH A++[.inr x]:=Zo;have ev:dI (A++[(x,v)])=dI A++[v.pv]:=Zo;let E:Ev:=FE P V (some (.own (.dk (dH A) (dI A)))) (zS (.tup [.str x,.int s,.non])) (zS w) mu;have t:=FQ (U:=E) (i:=4) (w:=w) rfl (Wi hw);rw[ek,ev,<-S7 hl hk];cases v with
 | n i=>
  have hw:w=.int i:=by
   rcases hw with h | ⟨_,_,h,_⟩
   . exact h
   . cases h
  subst hw;exact⟨_,FJ (U1:=E) (U2:=E) (x:=.sh (.int i)) (y:=.sh (.str x)) ((We t).trans rfl) rfl rfl rfl rfl rfl (by rw[YQ]; omega) rfl⟩
 | l is=>exact⟨_,FJ (U1:=E) (U2:=E) (x:=.own (.lst (is.map .int))) (y:=.sh (.str x)) ((LQ t).trans (S8 (x:=.sh w) (U1:=E) rfl rfl hw)) rfl rfl rfl rfl rfl (by rw[YQ]; omega) rfl⟩
theorem Hm {P V:PV} {mu:Mu}:∀(B:Bs) (ws:List PV) (D:List (Str×Int)) (A:Bs) (l3 l4:Option Lc),D.map (·.1)=B.map (·.1)->((A++B).map (·.1)).Nodup->(A++B).length<=100->mV mu B ws->
 ∃p3 p4,jO (ig 2 (bh (aJ 3) (bh (aJ 4) ie))) Xw (mY (dcl D) ws) (FE P V (some (.own (.dk (dH A) (dI A)))) l3 l4 mu)=some (.nx (FE P V (some (.own (.dk (dH (A++B)) (dI (A++B))))) p3 p4 mu))
 | [],ws,D,A,l3,l4,hD,_,_,hv=>by
  obtain rfl:D=[]:=by cases D with | nil=>rfl | cons q D=>(simp at hD)
  refine⟨l3,l4,?_⟩;rw[Zg];rfl
 | (x,v)::B,ws,D,A,l3,l4,hD,nd,h1,⟨w,ws',e,hw,hv⟩=>by
  subst e;obtain⟨s,D',rfl,hD'⟩:∃s D',D=(x,s)::D'/\D'.map (·.1)=B.map (·.1):=by
   cases D with
   | nil=>simp at hD
   | cons q D=>
    simp only[Za,List.cons.injEq]at hD;exact⟨q.2,D,by rw[<-hD.1],hD.2⟩
  have e1:A++(x,v)::B=(A++[(x,v)])++B:=by rw[Ze]; rfl
  have hx:x∉A.map (·.1):=λq=>by rw[Zo]at nd;exact(aaF.mp nd).2.2 x q x (by rw[Za]; exact YK) rfl
  rw[e1]at nd h1 ⊢;obtain⟨q4,es⟩:=S9 (P:=P) (V:=V) (s:=s) hx (by rw[Y5,Y5]at h1; omega) hw;obtain⟨p3,p4,el⟩:=Hm (P:=P) (V:=V) (mu:=mu) B ws' D' (A++[(x,v)]) (zS (.tup [.str x,.int s,.non])) q4 hD' nd h1 hv;exact⟨p3,p4,gn (U1:=FE P V (some (.own (.dk (dH A) (dI A)))) (zS (.tup [.str x,.int s,.non])) (zS w) mu) rfl es el⟩
theorem Mi {gr R4 R3:PV} {B:Bs} {ws:List PV} {D:List (Str×Int)} {mu:Mu} (hD:D.map (·.1)=B.map (·.1)) (nd:(B.map (·.1)).Nodup) (h1:B.length<=100) (hv:mV mu B ws):n8 [.tup [.lst (dcl D),gr,R3,R4],.lst ws] mu=some (.own (.dk (dH B) (dI B)),mu):=by let P:PV:=.tup [.lst (dcl D),gr,R3,R4];obtain⟨p3,p4,el⟩:=Hm (P:=P) (V:=.lst ws) B ws D [] none none hD nd h1 hv;exact aW (U:=FE P (.lst ws) none p3 p4 mu) (aD (U':=FE P (.lst ws) (some (.own (.dk [] []))) none none mu) rfl (aD (U':=FE P (.lst ws) (some (.own (.dk (dH B) (dI B)))) p3 p4 mu) (jC (xs:=mY (dcl D) ws) (U1:=FE P (.lst ws) (some (.own (.dk [] []))) none none mu) rfl el) rfl))
section
variable {b0:Mu} {r:Nat}
abbrev WW (b0:Mu) (r:Nat) (l:FD) (t:Mu):Mu:=b0.set r (some (cB "Running" l))++t
theorem Wj {l l':FD} {t:Mu} (h:r<b0.length):(WW b0 r l t).set r (some (cB "Running" l'))=WW b0 r l' t:=by unfold WW;rw[List.set_append_left _ _ (by rw[Zh]; exact h),aae]
theorem Xh {l:FD} {t:Mu} {i:Nat}:(WW b0 r l t)[b0.length+i]?=t[i]?:=by unfold WW;rw[Zb (by rw[Zh]; omega),Zh];congr 1;omega
theorem Wk {l:FD} {t:Mu} (h:r<b0.length):(WW b0 r l t)[r]?=some (some (cB "Running" l)):=by unfold WW;rw[Zj (by rw[Zh]; exact h),Y8 h]
theorem Pj {l:FD} {t:Mu} {c:Nat} (h:c<b0.length) (hc:c≠r):(WW b0 r l t)[c]?=b0[c]?:=by unfold WW;rw[Zj (by rw[Zh]; exact h),Zc (Ne.symm hc)]
theorem vV {l:FD} {t:Mu}:(WW b0 r l t).length=b0.length+t.length:=by unfold WW;rw[Y5,Zh]
theorem pL {l:FD} {t u:Mu}:WW b0 r l t++u=WW b0 r l (t++u):=Ze ..
abbrev RE (r:Nat) (P V:PV) (bu:Int) (mu:Mu):Ev:=⟨[zS (.ptr r),zS P,zS V,zI bu],mu⟩
theorem Ar {f:Str} {fv:EF} {P V:PV} {bu:Int} {l l':FD} {t t':Mu} {y:Lc} {p:PV} (h:r<b0.length) (h1:fv (RE r P V bu (WW b0 r l t))=some (y,RE r P V bu (WW b0 r l t'))) (hy:y.pv=p) (hl:l.length<1000) (e:oU f p l=l'):fD "Running" f (aj 0) fv (RE r P V bu (WW b0 r l t))=some (.nx (RE r P V bu (WW b0 r l' t'))):=by have q:=tO (C := "Running") (f:=f) (fo:=aj 0) (x:=.sh (.ptr r)) (U2:=RE r P V bu (WW b0 r l t')) (n:=r) (l:=l) h1 hy rfl rfl (Wk h) hl;rw[q,e,show (RE r P V bu (WW b0 r l t')).mu=WW b0 r l t' from rfl,Wj h]
end
theorem Tc {gr:PV} {rs:List Rw} {B:Bs} {D:List (Str×Int)} {ws:List PV} {bu:Int} {mu:Mu} (hD:D.map (·.1)=B.map (·.1)) (nd:(B.map (·.1)).Nodup) (h1:B.length<=100) (hl:rs.length<=900) (hv:mV mu B ws):
 ∃mu' I,eE [.ptr mu.length,rz (.lst (dcl D)) gr rs,.lst ws,.int bu] (mu++[some (cB "Running" [])])=some (.sh .non,mu')/\I.r=mu.length/\RS mu' I bu (PO rs) B [] (if rs=[] then [] else uR 0 rs)/\mu'.length=I.d+1/\∀c,c<mu.length->mu'[c]?=mu[c]?:=by
 let P:PV:=rz (.lst (dcl D)) gr rs;let r:=mu.length;have hrm:r=mu.length:=rfl;have hp0:((mu++[some (cB "Running" [])])++[some (cB "Plan" [])])[r+1]?=some (some (cB "Plan" [])):=by rw[Zb (by simp[r]),show r+1-(mu++[some (cB "Running" [])]).length=0 from by simp[r]];rfl
 obtain⟨b0,e0,h0,l0,f0⟩:=O8 (bx:=.lst (dcl D)) (gr:=gr) (rs:=rs) (by omega) hp0;have lb:r+2<=b0.length:=by have:=l0; simp[r]at this ⊢; omega
 have fr:∀c,c<mu.length->b0[c]?=mu[c]?:=λc hc=>by rw[f0 c (by simp; omega) (by simp only[r]; omega),Zj (by simp; omega),Zj hc]
 have br:b0[r]?=some (some (cB "Running" [])):=by rw[f0 r (by simp[r]) (by simp[r]),Zj (by simp[r]),Zb (by simp[r]),show r-mu.length=0 from by simp[r]];rfl
 have hr:r<b0.length:=by omega
 have w0:b0=WW b0 r [] []:=by unfold WW;rw[Zg,abf br]
 have s1:fD "Running" "plan" (aj 0) (rN "Plan" gm (aa (aj 1) ao)) (RE r P (.lst ws) bu (mu++[some (cB "Running" [])]))=some (.nx (RE r P (.lst ws) bu (WW b0 r [("plan",.ptr (r+1))] []))):=by
  have mk:=Hc (C := "Plan") (g:=gm) (a:=aa (aj 1) ao) (U:=RE r P (.lst ws) bu (mu++[some (cB "Running" [])])) (U1:=RE r P (.lst ws) bu (mu++[some (cB "Running" [])])) (ls:=[.sh P]) (ps:=[P]) (mu2:=b0) rfl rfl (by rw[show (RE r P (.lst ws) bu (mu++[some (cB "Running" [])])).mu.length=r+1 from by simp[r]];exact e0)
  rw[show (RE r P (.lst ws) bu (mu++[some (cB "Running" [])])).mu.length=r+1 from by simp[r]]at mk;have q:=tO (C := "Running") (f := "plan") (fo:=aj 0) (x:=.sh (.ptr r)) (U2:=RE r P (.lst ws) bu b0) (n:=r) (l:=[]) mk rfl rfl rfl br (by decide);rw[q];show some (Fl.nx (RE r P (.lst ws) bu (b0.set r (some (cB "Running" [("plan",.ptr (r+1))])))))=_;unfold WW;rw[Zg]
 obtain⟨ps,t,ef,hc⟩:∃(ps:List PV) (t:Mu),n8 [.tup [.lst (dcl D),gr,.lst [],.lst (rs.map Rw.pv)],.lst ws] (WW b0 r [("plan",.ptr (r+1))] [])=some (.own (.dk (dH B) ps),WW b0 r [("plan",.ptr (r+1))] t)/\ps=dI B:=⟨dI B,[],Mi hD nd h1 (hv.frame λc hc=>by rw[Pj (by omega) (by omega),fr c hc]),rfl⟩;have s2:fD "Running" "boxes" (aj 0) (jj (aG n8 (aa (aj 1) (aa (aj 2) ao)))) (RE r P (.lst ws) bu (WW b0 r [("plan",.ptr (r+1))] []))=some (.nx (RE r P (.lst ws) bu (WW b0 r [("plan",.ptr (r+1)),("boxes",.ptr (b0.length+t.length))] (t++[some (.dk (dH B) ps)])))):=by refine Ar (y:=.sh (.ptr (b0.length+t.length))) hr ?_ rfl (show (1:Nat)<1000 from by decide) rfl;have q:=qH (f:=aG n8 (aa (aj 1) (aa (aj 2) ao))) (p:=.dk (dH B) ps) (U:=RE r P (.lst ws) bu (WW b0 r [("plan",.ptr (r+1))] [])) (U1:=RE r P (.lst ws) bu (WW b0 r [("plan",.ptr (r+1))] t)) (bB (ls:=[.sh P,.sh (.lst ws)]) (U1:=RE r P (.lst ws) bu (WW b0 r [("plan",.ptr (r+1))] [])) (aH rfl (aH rfl rfl)) rfl rfl rfl ef);rw[show (RE r P (.lst ws) bu (WW b0 r [("plan",.ptr (r+1))] t)).mu.length=b0.length+t.length from vV,show (RE r P (.lst ws) bu (WW b0 r [("plan",.ptr (r+1))] t)).mu++[some (.dk (dH B) ps)]=WW b0 r [("plan",.ptr (r+1))] (t++[some (.dk (dH B) ps)]) from pL]at q;exact q
 let n:=b0.length+t.length;let l2:FD:=[("plan",.ptr (r+1)),("boxes",.ptr n)];let t2:Mu:=t++[some (.dk (dH B) ps)];let t3:Mu:=t2++[some (.dk [] []),some (.lst [.ptr (n+1)])];let l3:FD:=[("plan",.ptr (r+1)),("boxes",.ptr n),("own",.ptr (n+2))];have lt2:∀l,(WW b0 r l t2).length=n+1:=λl=>by rw[vV]; simp[t2,n]; omega
 have s3:fD "Running" "own" (aj 0) (jj (aL (aa (jj oR) ao))) (RE r P (.lst ws) bu (WW b0 r l2 t2))=some (.nx (RE r P (.lst ws) bu (WW b0 r l3 t3))):=by
  refine Ar (y:=.sh (.ptr (n+2))) (t':=t3) hr ?_ rfl (show (2:Nat)<1000 from by decide) rfl;have a1:jj oR (RE r P (.lst ws) bu (WW b0 r l2 t2))=some (.sh (.ptr (n+1)),RE r P (.lst ws) bu (WW b0 r l2 (t2++[some (.dk [] [])]))):=by have q:=qH (f:=oR) (p:=.dk [] []) (U:=RE r P (.lst ws) bu (WW b0 r l2 t2)) rfl;rw[show (RE r P (.lst ws) bu (WW b0 r l2 t2)).mu.length=n+1 from lt2 l2]at q;rw[q,<-pL (t:=t2) (u:=[some (.dk [] [])])]
  have q:=qH (f:=aL (aa (jj oR) ao)) (p:=.lst [.ptr (n+1)]) (U:=RE r P (.lst ws) bu (WW b0 r l2 t2)) (U1:=RE r P (.lst ws) bu (WW b0 r l2 (t2++[some (.dk [] [])]))) (yL (ls:=[.sh (.ptr (n+1))]) (aH a1 rfl) rfl rfl);rw[show (RE r P (.lst ws) bu (WW b0 r l2 (t2++[some (.dk [] [])]))).mu.length=n+2 from by show (WW b0 r l2 (t2++[some (.dk [] [])])).length=_; rw[<-pL,Y5,lt2]; rfl]at q;rw[q,<-pL (t:=t2) (u:=[some (.dk [] [])])];show some (_,RE r P (.lst ws) bu ((WW b0 r l2 t2++[some (.dk [] [])])++[some (.lst [.ptr (n+1)])]))=_;rw[Ze,pL];rfl
 let l4:FD:=[("plan",.ptr (r+1)),("boxes",.ptr n),("own",.ptr (n+2)),("budget",.int bu)];let l5:FD:=[("plan",.ptr (r+1)),("boxes",.ptr n),("own",.ptr (n+2)),("budget",.int bu),("word",.str "done")];have s4:fD "Running" "budget" (aj 0) (aj 3) (RE r P (.lst ws) bu (WW b0 r l3 t3))=some (.nx (RE r P (.lst ws) bu (WW b0 r l4 t3))):=Ar (y:=.sh (.int bu)) hr rfl rfl (show (3:Nat)<1000 from by decide) rfl;have s5:fD "Running" "word" (aj 0) (acQ "done") (RE r P (.lst ws) bu (WW b0 r l4 t3))=some (.nx (RE r P (.lst ws) bu (WW b0 r l5 t3))):=Ar (y:=.sh (.str "done")) hr rfl rfl (show (4:Nat)<1000 from by decide) rfl;have lt3:∀l,(WW b0 r l t3).length=n+3:=λl=>by rw[vV]; simp[t3,t2,n]; omega
 let t4:Mu:=t3++[some (.lst [])];let l6:FD:=[("plan",.ptr (r+1)),("boxes",.ptr n),("own",.ptr (n+2)),("budget",.int bu),("word",.str "done"),("moments",.ptr (n+3))];have s6:fD "Running" "moments" (aj 0) (jj (aL ao)) (RE r P (.lst ws) bu (WW b0 r l5 t3))=some (.nx (RE r P (.lst ws) bu (WW b0 r l6 t4))):=by refine Ar (y:=.sh (.ptr (n+3))) (t':=t4) hr ?_ rfl (show (5:Nat)<1000 from by decide) rfl;have q:=qH (f:=aL ao) (p:=.lst []) (U:=RE r P (.lst ws) bu (WW b0 r l5 t3)) rfl;rw[show (RE r P (.lst ws) bu (WW b0 r l5 t3)).mu.length=n+3 from lt3 l5]at q;rw[q,<-pL (t:=t3) (u:=[some (.lst [])])]
 have lt4:∀l,(WW b0 r l t4).length=n+4:=λl=>by rw[vV]; simp[t4,t3,t2,n]; omega
 let t5:Mu:=t4++[some (.lst [])];let l7:FD:=[("plan",.ptr (r+1)),("boxes",.ptr n),("own",.ptr (n+2)),("budget",.int bu),("word",.str "done"),("moments",.ptr (n+3)),("due",.ptr (n+4))];have s7:fD "Running" "due" (aj 0) (jj (aL ao)) (RE r P (.lst ws) bu (WW b0 r l6 t4))=some (.nx (RE r P (.lst ws) bu (WW b0 r l7 t5))):=by refine Ar (y:=.sh (.ptr (n+4))) (t':=t5) hr ?_ rfl (show (6:Nat)<1000 from by decide) rfl;have q:=qH (f:=aL ao) (p:=.lst []) (U:=RE r P (.lst ws) bu (WW b0 r l6 t4)) rfl;rw[show (RE r P (.lst ws) bu (WW b0 r l6 t4)).mu.length=n+4 from lt4 l6]at q;rw[q,<-pL (t:=t4) (u:=[some (.lst [])])]
 let I:Ix:=⟨r,r+1,n,n+1,n+2,n+3,n+4⟩;have et:t5=t++[some (.dk (dH B) ps),some (.dk [] []),some (.lst [.ptr (n+1)]),some (.lst []),some (.lst [])]:=by simp[t5,t4,t3,t2]
 have at5:∀i:Nat,(WW b0 r l7 t5)[n+i]?=[some (PV.dk (dH B) ps),some (.dk [] []),some (.lst [.ptr (n+1)]),some (.lst []),some (.lst [])][i]?:=λi=>by rw[show n+i=b0.length+(t.length+i) from by simp only[n]; omega,Xh,et,Zb (by omega)];congr 1;omega
 have S:RS (WW b0 r l7 t5) I bu (PO rs) B [] []:=by
  refine⟨by show r<r+1; omega,by show r+1<n; simp only[n]; omega,by show n<n+1; omega,by show n+1<n+2; omega,by show n+2<n+3; omega,by show n+3<n+4; omega,Wk hr,?_,by rw[<-hc]; exact at5 0,at5 1,at5 2,at5 3,at5 4⟩
  . show (WW b0 r l7 t5)[r+1]?=_;rw[Pj (by omega) (by omega)];exact h0
 obtain⟨mu',el,S',len',fr'⟩:=Jp S hl;refine⟨mu',I,?_,rfl,S',?_,λc hc=>?_⟩
 . refine jB (U:=RE r P (.lst ws) bu mu') (aD s1 (aD s2 (aD s3 (aD s4 (aD s5 (aD s6 (aD s7 (mH (l:=.sh .non) ?_))))))));exact rY (I:=I) S.hr (by decide +kernel) (ls:=[.sh (.str "main")]) (mu1:=WW b0 r l7 t5) rfl rfl el
 . rw[len',vV,et];simp[I,n];omega
 . have hnd:n=b0.length+t.length:=rfl;rw[fr' c (by show c≠n+4; omega),Pj (by omega) (by omega),fr c hc]
def pR (s:Int):BV->Prop
 | .n i=>s=0/\In i
 | .l is=>s=is.length/\s≠0/\is.length<=8/\∀i∈is,In i
def sH:List (Str×Int)->Bs->Prop
 | [],[]=>True
 | (x,s)::D,(y,v)::B=>x=y/\pR s v/\sH D B
 | _,_=>False
theorem sH.names:∀{D:List (Str×Int)} {B:Bs},sH D B->D.map (·.1)=B.map (·.1)
 | [],[],_=>rfl
 | (x,s)::D,(y,v)::B,h=>by rw[Za,Za,sH.names h.2.2,show (x,s).1=(y,v).1 from h.1]
 | [],_::_,h=>h.elim
 | _::_,[],h=>h.elim
theorem Hn {i:Int} {mu:Mu} (h:In i):cF [.int i] mu=some (.sh (.bl true),mu):=by
 let E:Ev:=⟨[zI i],mu⟩;have h1:fu "int" (aj 0) E=some (.sh (.bl true),E):=ik (p:=.int i) rfl rfl rfl;have h2:ph (fu "bool" (aj 0)) E=some (.sh (.bl true),E):=by unfold ph;rw[show fu "bool" (aj 0) E=some (.sh (.bl false),E) from ik (p:=.int i) rfl rfl rfl,YJ];rfl
 have h3:qQ GQ QC (acP 0) (aj 0) (eC wH) E=some (.sh (.bl true),E):=by unfold qQ;rw[show acP 0 E=some (.sh (.int 0),E) from rfl,YJ,show aj 0 E=some (.sh (.int i),E) from rfl,YJ];dsimp only;rw[show GQ (Lc.sh (PV.int 0)).pv (Lc.sh (PV.int i)).pv=zS (.bl (decide ((0:Int)<=i))) from rfl,aa9 h.1];show some (Lc.sh (.bl (decide (i<1000000000000))),E)=_;rw[aa9 h.2]
 have an:∀(f g:EF),f E=some (.sh (.bl true),E)->g E=some (.sh (.bl true),E)->iR f g E=some (.sh (.bl true),E):=λf g hf hg=>by unfold iR;rw[hf,YJ];exact hg
 exact aW (U:=E) (cA (an _ _ h1 (an _ _ h2 h3)))
theorem Pk {s:Int} {v:BV} {mu:Mu} (h:pR s v):jG [.int s,v.pv] mu=some (.sh (.bl true),mu):=by
 let E:Ev:=⟨[zI s,zS v.pv],mu⟩;cases v with
 | n i=>
  obtain⟨rfl,hi⟩:=h;exact aW (U:=E) (iz ((gh (rW (a:=0) (U1:=E) rfl (by decide))).trans (cA (bB (ls:=[.sh (.int i)]) (U1:=E) rfl rfl rfl rfl (Hn hi)))))
 | l is=>
  obtain⟨hs,h0,h8,hi⟩:=h;have ec:=lW (b:=aJ 0) (te:=aG cF (aa (aj 0) ao)) (mu:=mu) (λU=>∃o,U=⟨[o],mu⟩) (λU ⟨o,e⟩=>by rw[e]) (λ_=>.bl true) (xs:=is.map .int) (U:=⟨[none],mu⟩) ⟨none,rfl⟩ (by simp; omega) (by
   rintro p hp U ⟨o,rfl⟩;obtain⟨i,hi',rfl⟩:=Zk.mp hp;exact⟨⟨[zI i],mu⟩,rfl,.sh (.bl true),⟨[zI i],mu⟩,bB (ls:=[.sh (.int i)]) (U1:=⟨[zI i],mu⟩) rfl rfl rfl rfl (Hn (hi i hi')),rfl,_,rfl⟩) (by
   rintro p hp U U1 ⟨o,rfl⟩ e;cases e;exact⟨_,rfl⟩)
  have e2:dG (jL (aj 1) fP) 1 [] (aJ 0) dR (aG cF (aa (aj 0) ao)) E=some (.own (.lst ((is.map PV.int).map λ_=>.bl true)),E):=nW (f:=jL (aj 1) fP) (m:=1) (ixs:=[]) (U:=E) (U1:=E) (xs:=is.map .int) rfl ec;have bo:∀ws:List PV,boolsOf (ws.map λ_=>PV.bl true)=some (ws.map λ_=>true):=λws=>by
   induction ws with
   | nil=>rfl
   | cons w ws ih=>
    show (boolsOf (ws.map λ_=>PV.bl true)).map _=_;rw[ih];rfl
  have ba:∀ws:List PV,(ws.map λ_=>true).all id=true:=λws=>by
   induction ws with
   | nil=>rfl
   | cons w ws ih=>exact ih
  have h3:eB all1 (aa (dG (jL (aj 1) fP) 1 [] (aJ 0) dR (aG cF (aa (aj 0) ao))) ao) E=some (.sh (.bl true),E):=pA (ls:=[.own (.lst ((is.map PV.int).map λ_=>.bl true))]) (aH e2 rfl) rfl (by show (boolsOf ((is.map PV.int).map λ_=>PV.bl true)).map _=_; rw[bo,aag,ba]);have h2:aB eqP (eB fK (aa (aj 1) ao)) (aj 0) E=some (.sh (.bl true),E):=by refine oO (pA (ls:=[.sh (.lst (is.map .int))]) rfl rfl rfl) rfl rfl rfl ?_;show some (Lc.sh (.bl ((((is.map PV.int).length:Nat):Int)==s)))=_;rw[YQ,<-hs,abb]
  have an:∀(f g:EF),f E=some (.sh (.bl true),E)->g E=some (.sh (.bl true),E)->iR f g E=some (.sh (.bl true),E):=λf g hf hg=>by unfold iR;rw[hf,YJ];exact hg
  exact aW (U:=E) (aD (U':=E) ((dZ (rW (a:=s) (U1:=E) rfl (aba.mpr h0))).trans rfl) (cA (an _ _ (ik (p:=.lst (is.map .int)) rfl rfl rfl) (an _ _ h2 h3))))
theorem xq {P V:PV} {mu:Mu}:∀(B:Bs) (D:List (Str×Int)) (l2 l3 l4:Option Lc),sH D B->∃p2 p3 p4,jO (ig 2 (bh (aJ 2) (bh (aJ 3) ie))) (aK (aP 4 (bC (aj 2) (acP 0))) (dw (gf (tT (aG jG (aa (bC (aj 2) (acP 1)) (aa (aj 3) ao))) eG)) jr cG)) (mY (dcl D) (dI B)) (FE P V l2 l3 l4 mu)=some (.nx (FE P V p2 p3 p4 mu))
 | [],[],l2,l3,l4,_=>⟨l2,l3,l4,rfl⟩
 | (y,v)::B,(x,s)::D,l2,l3,l4,h=>by let a:Option Lc:=zS (.tup [.str x,.int s,.non]);let b:Option Lc:=zS v.pv;obtain⟨p2,p3,p4,e⟩:=xq (P:=P) (V:=V) (mu:=mu) B D a b (zT x) h.2.2;have t:gf (tT (aG jG (aa (bC (aj 2) (acP 1)) (aa (aj 3) ao))) eG) (FE P V a b (zT x) mu)=some (false,FE P V a b (zT x) mu):=pW (b:=true) (d7 (bB (ls:=[.sh (.int s),.sh v.pv]) (U1:=FE P V a b (zT x) mu) rfl rfl rfl rfl (Pk h.2.1)) rfl rfl);exact⟨p2,p3,p4,gn (U1:=FE P V a b l4 mu) (U2:=FE P V a b (zT x) mu) rfl (aD (U':=FE P V a b (zT x) mu) rfl ((dZ t).trans rfl)) e⟩
 | [],_::_,_,_,_,h=>h.elim
 | _::_,[],_,_,_,h=>h.elim
theorem sH.len:∀{D:List (Str×Int)} {B:Bs},sH D B->D.length=B.length:=λh=>by
 have:=congrArg List.length h.names
 rwa [YQ,YQ]at this
theorem refuse_eq {gr R3 R4:PV} {D:List (Str×Int)} {B:Bs} {mu:Mu} (h:sH D B):jH [.tup [.lst (dcl D),gr,R3,R4],.lst (dI B)] mu=some (.sh .non,mu):=by
 let P:PV:=.tup [.lst (dcl D),gr,R3,R4];let E:Ev:=FE P (.lst (dI B)) none none none mu;obtain⟨p2,p3,p4,e⟩:=xq (P:=P) (V:=.lst (dI B)) (mu:=mu) B D none none none h;have t1:gf (tT (fu "list" (aj 1)) eG) E=some (false,E):=pW (b:=true) (d7 (ik (p:=.lst (dI B)) rfl rfl rfl) rfl rfl);have t2:tT (aB wZ (eB fK (aa (aj 1) ao)) (eB fK (aa (bC (aj 0) (acP 0)) ao))) cU E=some (false,E):=by refine d7 (l:=.sh (.bl false)) (oO (pA (ls:=[.sh (.lst (dI B))]) rfl rfl rfl) rfl (pA (ls:=[.sh (.lst (dcl D))]) rfl rfl rfl) rfl ?_) rfl rfl;show some (Lc.sh (.bl (!((((dI B).length:Nat):Int)==(((dcl D).length:Nat):Int)))))=_;rw[YQ,YQ,h.len,abb];rfl
 refine jB (U:=FE P (.lst (dI B)) p2 p3 p4 mu) (aD (U':=E) ((dZ (yK t1 t2)).trans rfl) (jC (xs:=mY (dcl D) (dI B)) (U1:=E) rfl e))
theorem Td {mu:Mu} {D:List (Str×Int)} {k:Nat}:bK mu (k+3) (.lst (dcl D))=.lst (dcl D):=by show PV.lst ((dcl D).map (bK mu (k+2)))=_;rw[ZZ];exact congrArg PV.lst (aab λq _=>rfl)
def ir (rs:List Rw):List PV:=if rs=[] then [] else Aq 0 rs
structure Pr (D:List (Str×Int)) (B:Bs) (rs:List Rw):Prop where
 su:sH D B
 nd:(B.map (·.1)).Nodup
 l8:B.length<=100
 l4:rs.length<=400
section
variable {gr:PV} {rs:List Rw} {B:Bs} {D:List (Str×Int)} {ws:List PV} {bu:Int} {mu:Mu}
theorem Ho (H:Pr D B rs) (hv:mV mu B ws):∃mu' I,iH [rz (.lst (dcl D)) gr rs,.lst ws,.int bu] mu=some (.sh (.ptr I.r),mu')/\RS mu' I bu (PO rs) B (ir rs) []/\I.r=mu.length/\∀c,c<mu.length->mu'[c]?=mu[c]?:=by
 let P:PV:=rz (.lst (dcl D)) gr rs;let E0:Ev:=⟨[zS P,zL ws,zI bu,none],mu⟩;have s1:lB (j4 (aG jH (aa (aj 0) (aa (aj 1) ao)))) E0=some (.nx E0):=by refine mH (l:=.sh .non) (xW (U1:=E0.peekD) (bB (ls:=[.sh (bK mu 40 P),.sh (bK mu 40 (.lst ws))]) (ps:=[.tup [.lst (dcl D),bK mu 39 gr,bK mu 39 (.lst []),bK mu 39 (.lst (rs.map Rw.pv))],.lst (dI B)]) (U1:=E0.peekD) (aH rfl (aH rfl rfl)) ?_ rfl rfl (refuse_eq H.su)) rfl);show [PV.tup [bK mu 39 (.lst (dcl D)),bK mu 39 gr,bK mu 39 (.lst []),bK mu 39 (.lst (rs.map Rw.pv))],PV.lst (ws.map (bK mu 39))]=_;rw[Td,hv.res]
 have h4:=H.l4;obtain⟨mu1,I,ei,hI,S,hlen,fr⟩:=Tc (gr:=gr) (rs:=rs) (bu:=bu) H.su.names H.nd H.l8 (by omega) hv;have s2:aP 3 (rN "Running" eE (aa (aj 0) (aa (aj 1) (aa (aj 2) ao)))) E0=some (.nx (GE P (.lst ws) (.int bu) I mu1)):=by
  have mk:=Hc (C := "Running") (g:=eE) (a:=aa (aj 0) (aa (aj 1) (aa (aj 2) ao))) (U:=E0) (U1:=E0) (ls:=[.sh P,.sh (.lst ws),.sh (.int bu)]) (mu2:=mu1) rfl rfl ei;refine cP mk ?_ ?_
  . exact rfl
  . rw[<-hI];rfl
 obtain⟨mu',ew,g,f⟩:∃mu',qO 1000 stC Wg (GE P (.lst ws) (.int bu) I mu1)=some (.nx (GE P (.lst ws) (.int bu) I mu'))/\RS mu' I bu (PO rs) B (ir rs) []/\Fr I mu1 mu':=by
  unfold ir;by_cases h:rs=[]
  . rw[aa5 h]at S ⊢;exact⟨mu1,Hi (Dg S),S,Fr.refl⟩
  . rw[aa6 h]at S ⊢;obtain⟨mu',e,g,f⟩:=Fz (p:=P) (v:=.lst ws) (b:=.int bu) H.l8 rs 1000 0 [] mu1 (by omega) (by show 0+_+2<900; omega) (Nat.zero_add _) S;exact⟨mu',e,g,f⟩
 refine⟨mu',I,aW (U:=⟨[zS P,zL ws,zI bu,none],mu'⟩) (aD s1 (aD s2 (aD ew rfl))),g,hI,λc hc=>?_⟩;rw[f.2 c (by omega),fr c hc]
abbrev zy (l0 l1 l2 l3 l4:Option Lc) (mu:Mu):Ev:=⟨[l0,l1,l2,l3,l4],mu⟩
theorem Hq {l0:Option Lc} {mu:Mu}:∀(M:List PV) (l2 l3 l4:Option Lc),(∀p∈M,∃k t,p=xn k t)->∃p2 p3 p4,jO (ig 3 (bh (aJ 2) (bh (aJ 3) (bh (aJ 4) ie)))) (qi 1 (dG (jL (aj 4) fP) 3 [2] (ig 3 (bh (aJ 0) (bh (aJ 1) (bh (aJ 2) ie)))) dR (cN (aa (aj 3) (aa (aj 0) (aa (aj 1) (aa (aj 2) ao))))))) M (zy l0 (zO []) l2 l3 l4 mu)=some (.nx (zy l0 (zO []) p2 p3 p4 mu))
 | [],l2,l3,l4,_=>⟨l2,l3,l4,rfl⟩
 | p::M,l2,l3,l4,h=>by obtain⟨k,t,rfl⟩:=h p YK;obtain⟨p2,p3,p4,e⟩:=Hq (l0:=l0) (mu:=mu) M (zI k) (zI t) (zL []) λq hq=>h q (Y6 _ hq);exact⟨p2,p3,p4,gn (U1:=zy l0 (zO []) (zI k) (zI t) (zL []) mu) (U2:=zy l0 (zO []) (zI k) (zI t) (zL []) mu) rfl rfl e⟩
theorem FT:∀{k:Nat} {rs:List Rw} {p:PV},p∈Aq k rs->∃k t,p=xn k t
 | k,[],p,h=>⟨_,_,Zw.mp h⟩
 | k,r::rs,p,h=>by
  rcases YM.mp h with h | h
  . exact⟨_,_,h⟩
  . exact FT h
theorem yh {p:PV} (h:p∈ir rs):∃k t,p=xn k t:=by
 unfold ir at h;split at h
 . cases h
 . exact FT h
theorem Mj {m:Nat} (hm:mu[m]?=some (some (.lst (ir rs)))):nF [.ptr m] mu=some (.own (.lst []),mu.set m none):=by obtain⟨p2,p3,p4,el⟩:=Hq (l0:=zS (.ptr m)) (mu:=mu.set m none) (ir rs) none none none λp h=>yh h;have em:jL (vL (aj 0)) fP (zy (zS (.ptr m)) (zO []) none none none mu)=some (ir rs,zy (zS (.ptr m)) (zO []) none none none (mu.set m none)):=yJ (O3_ (U1:=zy (zS (.ptr m)) (zO []) none none none mu) (x:=.sh (.ptr m)) rfl rfl hm) rfl;exact aW (U:=zy (zS (.ptr m)) none p2 p3 p4 (mu.set m none)) (aD (U':=zy (zS (.ptr m)) (zO []) none none none mu) rfl (aD (jC em el) rfl))
end
theorem Hr:∀{B:Bs} {ps:List PV},(B.map (·.1)).Nodup->ps.length=B.length->(B.map λq=>(fL ((dH B).zip ps) (.inr q.1)).getD .non)=ps
 | [],[],_,_=>rfl
 | [],_::_,_,h=>by simp at h
 | _::_,[],_,h=>by simp at h
 | (y,v)::B,p::ps,nd,h=>by
  obtain⟨hy,nd'⟩:=ZP.mp nd;have ev:∀x,fL ((dH ((y,v)::B)).zip (p::ps)) (.inr x)=if (Sum.inr y:Key)=.inr x then some p else fL ((dH B).zip ps) (.inr x):=λx=>rfl
  show (fL ((dH ((y,v)::B)).zip (p::ps)) (.inr y)).getD .non::(B.map λq=>(fL ((dH ((y,v)::B)).zip (p::ps)) (.inr q.1)).getD .non)=_;rw[ev,aa5 rfl];refine c2 rfl (Eq.trans (aab λq hq=>?_) (Hr nd' (by simpa using h)));rw[ev,aa6 λe=>hy (by rw[show y=q.1 from Sum.inr.inj e]; exact Zk.mpr ⟨q,hq,rfl⟩)]
section
variable {gr:PV} {D:List (Str×Int)} {mu:Mu}
theorem Jq {R3 R4:PV} {C:Bs} {ps:List PV} {b:Nat} (hD:D.map (·.1)=C.map (·.1)) (nd:(C.map (·.1)).Nodup) (h1:C.length<=100) (hb:mu[b]?=some (some (.dk (dH C) ps))) (hl:ps.length=C.length):pY [.tup [.lst (dcl D),gr,R3,R4],.ptr b] mu=some (.own (.lst ps),mu):=by
 let P:PV:=.tup [.lst (dcl D),gr,R3,R4];let E:Ev:=⟨[zS P,zS (.ptr b)],mu⟩;let f:PV->PV:=λp=>match p with
  | .tup (.str x::_)=>(fL ((dH C).zip ps) (.inr x)).getD .non
  | _=>.non
 have hin:∀x∈D.map (·.1),∃p,fL ((dH C).zip ps) (.inr x)=some p:=λx hx=>by
  rw[hD]at hx;cases h:fL ((dH C).zip ps) (.inr x) with
  | some p=>exact⟨p,rfl⟩
  | none=>
   exfalso;have key:∀(ks:List Key) (qs:List PV),qs.length=ks.length->(.inr x:Key)∈ks->fL (ks.zip qs) (.inr x)≠none:=λks=>by
    induction ks with
    | nil=>intro qs _ h; cases h
    | cons k ks ih=>
     intro qs hq hk;cases qs with
     | nil=>simp at hq
     | cons q qs=>
      show (if k=.inr x then some q else fL (ks.zip qs) (.inr x))≠none;split
      . exact λe=>by cases e
      . rename_i hne;rcases YM.mp hk with e | e
        . exact absurd e.symm hne
        . exact ih qs (by simpa using hq) e
   obtain⟨q,hq,e⟩:=Zk.mp hx;exact key _ _ (by rw[YQ]; exact hl) (Zk.mpr ⟨q,hq,by rw[<-e]⟩) h
 have ec:=lW (b:=ig 3 (bh (aJ 0) (bh (aJ 1) (bh (aJ 2) ie)))) (te:=Eu (aj 3) (aj 0)) (mu:=mu) (λU=>∃a b' c,U=⟨[a,b',c,zS (.ptr b)],mu⟩) (λU ⟨a,b',c,e⟩=>by rw[e]) f (xs:=dcl D) (U:=⟨[none,none,none,zS (.ptr b)],mu⟩) ⟨_,_,_,rfl⟩ (by rw[YQ,<-YQ (f:=(·.1)),hD,YQ]; omega) (by
  rintro p hp U ⟨a,b',c,rfl⟩;obtain⟨q,hq,rfl⟩:=Zk.mp hp;obtain⟨w,hw⟩:=hin q.1 (Zk.mpr ⟨q,hq,rfl⟩);refine⟨⟨[zT q.1,zI q.2,some (.sh .non),zS (.ptr b)],mu⟩,rfl,.sh w,⟨[zT q.1,zI q.2,some (.sh .non),zS (.ptr b)],mu⟩,Wd (x:=.sh (.ptr b)) (y:=.sh (.str q.1)) (k:=.inr q.1) rfl rfl rfl rfl hb hw,?_,_,_,_,rfl⟩;show w=(fL ((dH C).zip ps) (.inr q.1)).getD .non;rw[hw];rfl) (by
  rintro p hp U U1 ⟨a,b',c,rfl⟩ e;obtain⟨q,_,rfl⟩:=Zk.mp hp;cases e;exact⟨_,_,_,rfl⟩)
 have ef:(dcl D).map f=ps:=by
  rw[ZZ];have e1:D.map (f ∘ λq=>PV.tup [.str q.1,.int q.2,.non])=(D.map (·.1)).map λx=>(fL ((dH C).zip ps) (.inr x)).getD .non:=by rw[ZZ]; rfl
  rw[e1,hD,ZZ];exact Hr nd hl
 rw[ef]at ec;have e2:=nW (f:=jL (bC (aj 0) (acP 0)) fP) (m:=3) (ixs:=[1]) (U:=E) (U1:=E) (yJ (l:=.sh (.lst (dcl D))) rfl rfl) ec;exact aW (U:=E) (cA e2)
end
section
variable {gr:PV} {rs:List Rw} {B:Bs} {D:List (Str×Int)} {ws:List PV} {bu:Int} {mu:Mu}
theorem Wl (H:Pr D B rs) (hv:mV mu B ws):∃mu',yZ [rz (.lst (dcl D)) gr rs,.lst ws,.int bu] mu=some (.sh (.tup [.str "done",.lst [],.lst (dI B)]),mu')/\mu.length<=mu'.length/\∀c,c<mu.length->mu'[c]?=mu[c]?:=by let P:PV:=rz (.lst (dcl D)) gr rs;obtain⟨mu1,I,eg,S,hI,fr⟩:=Ho (gr:=gr) (bu:=bu) H hv;have l1:=S.l1;have l2:=S.l2;have l3:=S.l3;have l4:=S.l4;have l5:=S.l5;have l6:=S.l6;have er:=Mj S.hm;let mu2:=mu1.set I.m none;have a2:∀c,c≠I.m->mu2[c]?=mu1[c]?:=λc h=>Zc (Ne.symm h);let E:=λmu=>(⟨[zS P,zL ws,zI bu,zS (.ptr I.r)],mu⟩:Ev);have s1:aP 3 (aG iH (aa (aj 0) (aa (aj 1) (aa (aj 2) ao)))) ⟨[zS P,zL ws,zI bu,none],mu⟩=some (.nx (E mu1)):=cP (bB (ls:=[.sh P,.sh (.lst ws),.sh (.int bu)]) (U1:=⟨[zS P,zL ws,zI bu,none],mu⟩) rfl rfl rfl rfl eg) rfl rfl;have c2':aG nF (aa (dm "Running" "moments" (aj 3)) ao) (E mu1)=some (.own (.lst []),E mu2):=bB (ls:=[.sh (.ptr I.m)]) (U1:=E mu1) (aH (fX rfl rfl S.hr rfl) rfl) rfl rfl rfl er;have hr2:mu2[I.r]?=some (some (cB "Running" (rF I bu))):=(a2 I.r (by omega)).trans S.hr;have c3':aG pY (aa (aj 0) (aa (dm "Running" "boxes" (aj 3)) ao)) (E mu2)=some (.own (.lst (dI B)),E mu2):=bB (ls:=[.sh P,.sh (.ptr I.b)]) (U1:=E mu2) (aH rfl (aH (fX rfl rfl hr2 rfl) rfl)) rfl rfl rfl (Jq H.su.names H.nd H.l8 ((a2 I.b (by omega)).trans S.hb) (YQ ..));have hd1:=mU S.hd;refine⟨mu2,aW (U:=E mu2) (aD s1 (cA (pX (ls:=[.sh (.str "done"),.own (.lst []),.own (.lst (dI B))]) (aH (fX rfl rfl S.hr rfl) (aH c2' (aH c3' rfl))) rfl rfl))),by show _<=(mu1.set I.m none).length; rw[Zh]; omega,λc hc=>(a2 c (by omega)).trans (fr c hc)⟩
theorem Ml (H:Pr D B rs) (hv:mV mu B ws):∃mu' n,pK [rz (.lst (dcl D)) gr rs,.lst ws,.int bu] mu=some (.sh (.ptr n),mu')/\mu'[n]?=some (some (.lst (ir rs))):=by let P:PV:=rz (.lst (dcl D)) gr rs;obtain⟨mu1,I,eg,S,hI,fr⟩:=Ho (gr:=gr) (bu:=bu) H hv;let E:=λmu=>(⟨[zS P,zL ws,zI bu],mu⟩:Ev);exact⟨mu1,I.m,aW (U:=E mu1) (cA (fX (x:=.sh (.ptr I.r)) (bB (ls:=[.sh P,.sh (.lst ws),.sh (.int bu)]) (U1:=E mu) rfl rfl rfl rfl eg) rfl S.hr rfl)),S.hm⟩
end
section
variable {f g:SX} {s:SF} {c:TF} {U U' U1:Ev} {R:Option (XR Fl)} {fl:Fl} {C:Str} {b:Bool} {l:Lc}
theorem Av (h:f U=some (.ok (.nx U'))) (h2:g U'=R):pB f g U=R:=by unfold pB; rw[h,YJ]; exact h2
theorem Aw (h:f U=some (.xc C U')):pB f g U=some (.xc C U'):=by unfold pB; rw[h,YJ]
theorem Q5 (h:c U=some (true,U1)):w5 c f g U=f U1:=by unfold w5; rw[h,YJ,aa5 rfl]
theorem Q6 (h:c U=some (false,U1)):w5 c f g U=g U1:=by unfold w5; rw[h,YJ,aa6 Zm]
theorem Xi {fe:EF} {j:JF} (h:fe U=some (l,U1)) (hs:VF l.pv=true):jR fe j U=j U1:=by unfold jR; rw[h,YJ,aa5 hs]
theorem tR {n:Nat} {ps:List PV} {mu:Mu} (h:f (env0 n ps mu)=some (.xc C U)):uD n f ps mu=some (.xc C U):=by unfold uD; rw[h,YJ]
theorem rA {G:GX} {a:AF} {ls:List Lc} {ps:List PV} {v:List (Option Lc)} {mu1:Mu} (h:a U=some (ls,U1)) (hp:ls.map Lc.pv=ps) (hv:U1.vs=v) (hm:U1.mu=mu1) (h2:G ps mu1=some (.xc C U')):gU G a U=some (.xc C ⟨v,U'.mu⟩):=by subst hp hv hm;unfold gU;rw[h,YJ,h2]; rfl
theorem zA {fe:EX} {k:Lc×Ev->Option Fl} (h:fe U=some (.xc C U1)):xB fe k U=some (.xc C U1):=by unfold xB; rw[h,YJ]
end
def hb:PV->Bool
 | .int i=>decide (0<=i)&&decide (i<1000000000000)
 | _=>false
def Hs:PV->Bool
 | .non=>true
 | .bl _=>true
 | .int _=>true
 | .str _=>true
 | .tup _=>true
 | .lst _=>true
 | _=>false
theorem zB {f g:EF} {E:Ev} (hf:f E=some (.sh (.bl false),E)):iR f g E=some (.sh (.bl false),E):=by unfold iR;rw[hf,YJ];rfl
theorem held_eq {p:PV} {mu:Mu} (h:Hs p=true):cF [p] mu=some (.sh (.bl (hb p)),mu):=by
 have no:∀p:PV,pq p "int" = some false->cF [p] mu=some (.sh (.bl false),mu):=λp h=>by let E:Ev:=⟨[zS p],mu⟩;exact aW (U:=E) (cA (zB (ik (p:=p) rfl rfl h)))
 cases p with
 | int i=>
  let E:Ev:=⟨[zI i],mu⟩;have h1:fu "int" (aj 0) E=some (.sh (.bl true),E):=ik (p:=.int i) rfl rfl rfl;have h2:ph (fu "bool" (aj 0)) E=some (.sh (.bl true),E):=by unfold ph;rw[show fu "bool" (aj 0) E=some (.sh (.bl false),E) from ik (p:=.int i) rfl rfl rfl,YJ];rfl
  have h3:qQ GQ QC (acP 0) (aj 0) (eC wH) E=some (.sh (.bl (decide (0<=i)&&decide (i<1000000000000))),E):=by
   unfold qQ;rw[show acP 0 E=some (.sh (.int 0),E) from rfl,YJ,show aj 0 E=some (.sh (.int i),E) from rfl,YJ];dsimp only;rw[show GQ (Lc.sh (PV.int 0)).pv (Lc.sh (PV.int i)).pv=zS (.bl (decide ((0:Int)<=i))) from rfl];cases decide ((0:Int)<=i) with
   | true=>rfl
   | false=>rfl
  exact aW (U:=E) (cA (nG h1 (nG h2 h3)))
 | bl b=>
  let E:Ev:=⟨[zS (.bl b)],mu⟩;have h1:fu "int" (aj 0) E=some (.sh (.bl true),E):=ik (p:=.bl b) rfl rfl rfl;have h2:ph (fu "bool" (aj 0)) E=some (.sh (.bl false),E):=by unfold ph;rw[show fu "bool" (aj 0) E=some (.sh (.bl true),E) from ik (p:=.bl b) rfl rfl rfl,YJ];rfl
  exact aW (U:=E) (cA (nG h1 (zB h2)))
 | non=>exact no _ rfl
 | str x=>exact no _ rfl
 | tup ps=>exact no _ rfl
 | lst ps=>exact no _ rfl
 | _=>cases h
def su (s:Int) (p:PV):Bool:=if s=0 then hb p else match p with
 | .lst ps=>decide ((ps.length:Int)=s)&&ps.all hb
 | _=>false
def iU (p:PV):Prop:=Hs p=true/\∀ps,p=.lst ps->ps.length<=1000/\∀q∈ps,Hs q=true
theorem FZ {g:PV->Bool}:∀ws:List PV,boolsOf (ws.map λp=>PV.bl (g p))=some (ws.map g)
 | []=>rfl
 | w::ws=>by show (boolsOf (ws.map λp=>PV.bl (g p))).map _=_;rw[FZ ws];rfl
theorem Pn {s:Int} {p:PV} {mu:Mu} (h:iU p):jG [.int s,p] mu=some (.sh (.bl (su s p)),mu):=by
 let E:Ev:=⟨[zI s,zS p],mu⟩;unfold su;by_cases hs:s=0
 . rw[aa5 hs];exact aW (U:=E) (iz ((gh (rW (a:=s) (U1:=E) rfl (by rw[hs]; rfl))).trans (cA (bB (ls:=[.sh p]) (U1:=E) rfl rfl rfl rfl (held_eq h.1)))))
 . rw[aa6 hs];have t0:=(dZ (f:=cu (aG cF (aa (aj 1) ao))) (g:=cG) (rW (f:=aj 0) (a:=s) (b:=0) (U:=E) (U1:=E) rfl (aba.mpr hs))).trans (show cG E=some (.nx E) from rfl);have no:pq p "list" = some false->jG [.int s,p] mu=some (.sh (.bl false),mu):=λq=>aW (U:=E) (aD (U':=E) t0 (cA (zB (ik (p:=p) rfl rfl q))));cases p with
   | lst ps=>
    obtain⟨hl,hk⟩:=h.2 ps rfl;have l1:fu "list" (aj 1) E=some (.sh (.bl true),E):=ik (p:=.lst ps) rfl rfl rfl;have h2:aB eqP (eB fK (aa (aj 1) ao)) (aj 0) E=some (.sh (.bl (((ps.length:Nat):Int)==s)),E):=oO (pA (ls:=[.sh (.lst ps)]) rfl rfl rfl) rfl rfl rfl rfl;by_cases hn:(ps.length:Int)=s
    . have ec:=lW (b:=aJ 0) (te:=aG cF (aa (aj 0) ao)) (mu:=mu) (λU=>∃o,U=⟨[o],mu⟩) (λU ⟨o,e⟩=>by rw[e]) (λp=>.bl (hb p)) (xs:=ps) (U:=⟨[none],mu⟩) ⟨none,rfl⟩ (by omega) (by
       rintro p hp U ⟨o,rfl⟩;exact⟨⟨[zS p],mu⟩,rfl,.sh (.bl (hb p)),⟨[zS p],mu⟩,bB (ls:=[.sh p]) (U1:=⟨[zS p],mu⟩) rfl rfl rfl rfl (held_eq (hk p hp)),rfl,_,rfl⟩) (by
       rintro p hp U U1 ⟨o,rfl⟩ e;cases e;exact⟨_,rfl⟩)
      have e2:dG (jL (aj 1) fP) 1 [] (aJ 0) dR (aG cF (aa (aj 0) ao)) E=some (.own (.lst (ps.map λp=>.bl (hb p))),E):=nW (f:=jL (aj 1) fP) (m:=1) (ixs:=[]) (U:=E) (U1:=E) (xs:=ps) rfl ec;have h3:eB all1 (aa (dG (jL (aj 1) fP) 1 [] (aJ 0) dR (aG cF (aa (aj 0) ao))) ao) E=some (.sh (.bl (ps.all hb)),E):=pA (ls:=[.own (.lst (ps.map λp=>.bl (hb p)))]) (aH e2 rfl) rfl (by show (boolsOf (ps.map λp=>PV.bl (hb p))).map _=_;rw[FZ,aag,List.all_map];rfl)
      rw[show (((ps.length:Nat):Int)==s)=true from by rw[hn,abb]]at h2;have:=aW (n:=2) (ps:=[.int s,.lst ps]) (U:=E) (aD (U':=E) t0 (cA (nG l1 (nG h2 h3))));show _=some (Lc.sh (.bl (decide ((ps.length:Int)=s)&&ps.all hb)),mu);rw[aa9 hn,Bool.true_and];exact this
    . rw[show (((ps.length:Nat):Int)==s)=false from aba.mpr hn]at h2;show _=some (Lc.sh (.bl (decide ((ps.length:Int)=s)&&ps.all hb)),mu);rw[aa8 hn,Bool.false_and];exact aW (U:=E) (aD (U':=E) t0 (cA (nG l1 (zB h2))))
   | non=>exact no rfl
   | bl _=>exact no rfl
   | int _=>exact no rfl
   | str _=>exact no rfl
   | tup _=>exact no rfl
   | _=>cases h.1
abbrev Wm:SX:=pB (nO (aP 4 (bC (aj 2) (acP 0)))) (w5 (gf (tT (aG jG (aa (bC (aj 2) (acP 1)) (aa (aj 3) ao))) eG)) (qY "NoInput" (jR (aj 4) xZ)) (nO cG))
def yj:List (Str×Int)->List PV->Prop
 | q::D,w::ws=>su q.2 w=false\/yj D ws
 | _,_=>False
theorem Ht {P V:PV} {mu:Mu}:∀(D:List (Str×Int)) (ws:List PV) (l2 l3 l4:Option Lc),(∀q∈D,gH q.1=true)->(∀w∈ws,iU w)->yj D ws->∃U,wD (ig 2 (bh (aJ 2) (bh (aJ 3) ie))) Wm (mY (dcl D) ws) (FE P V l2 l3 l4 mu)=some (.xc "NoInput" U)/\U.mu=mu
 | [],_,_,_,_,_,_,h=>h.elim
 | _::_,[],_,_,_,_,_,h=>h.elim
 | (x,s)::D,w::ws,l2,l3,l4,hD,hw,h=>by
  let a:Option Lc:=zS (.tup [.str x,.int s,.non]);let b:Option Lc:=zS w;let E:Ev:=FE P V a b (zT x) mu;have t:gf (tT (aG jG (aa (bC (aj 2) (acP 1)) (aa (aj 3) ao))) eG) E=some (!su s w,E):=pW (d7 (bB (ls:=[.sh (.int s),.sh w]) (U1:=E) rfl rfl rfl rfl (Pn (hw w YK))) rfl rfl);have s4:nO (aP 4 (bC (aj 2) (acP 0))) (FE P V a b l4 mu)=some (.ok (.nx E)):=rfl;show ∃U,((ig 2 (bh (aJ 2) (bh (aJ 3) ie))) (.tup [.tup [.str x,.int s,.non],w]) (FE P V l2 l3 l4 mu)).bind _=_/\_;rw[show (ig 2 (bh (aJ 2) (bh (aJ 3) ie))) (.tup [.tup [.str x,.int s,.non],w]) (FE P V l2 l3 l4 mu)=some (FE P V a b l4 mu) from rfl,YJ];cases hs:su s w with
  | true=>
   rw[hs]at t;have e:Wm (FE P V a b l4 mu)=some (.ok (.nx E)):=Av s4 ((Q6 t).trans rfl);rw[e,YJ];have h':yj D ws:=by
    rcases (show su s w=false\/yj D ws from h) with z | z
    . rw[hs]at z; cases z
    . exact z
   exact Ht D ws a b (zT x) (λq hq=>hD q (Y6 _ hq)) (λq hq=>hw q (Y6 _ hq)) h'
  | false=>
   rw[hs]at t;have rs:qY "NoInput" (jR (aj 4) xZ) E=some (.xc "NoInput" E):=by show ((jR (aj 4) xZ E).map _)=_;rw[Xi (l:=.sh (.str x)) (U1:=E) rfl (hD (x,s) YK)];rfl
   have e:Wm (FE P V a b l4 mu)=some (.xc "NoInput" E):=Av s4 ((Q5 t).trans rs);rw[e,YJ];exact⟨E,rfl,rfl⟩
def vW (D:List (Str×Int)) (ws:List PV):Prop:=ws.length≠D.length\/yj D ws
section
variable {gr R3 R4:PV} {D:List (Str×Int)} {ws:List PV} {mu:Mu} {bu:Int}
theorem Pu (hD:∀q∈D,gH q.1=true) (hw:∀w∈ws,iU w) (h:vW D ws):∃U,ju [.tup [.lst (dcl D),gr,R3,R4],.lst ws] mu=some (.xc "NoInput" U)/\U.mu=mu:=by
 let P:PV:=.tup [.lst (dcl D),gr,R3,R4];let E:Ev:=FE P (.lst ws) none none none mu;have t1:gf (tT (fu "list" (aj 1)) eG) E=some (false,E):=pW (b:=true) (d7 (ik (p:=.lst ws) rfl rfl rfl) rfl rfl);have t2:tT (aB wZ (eB fK (aa (aj 1) ao)) (eB fK (aa (bC (aj 0) (acP 0)) ao))) cU E=some (!((((ws.length:Nat):Int))==(((dcl D).length:Nat):Int)),E):=d7 (l:=.sh (.bl (!((((ws.length:Nat):Int))==(((dcl D).length:Nat):Int))))) (oO (pA (ls:=[.sh (.lst ws)]) rfl rfl rfl) rfl (pA (ls:=[.sh (.lst (dcl D))]) rfl rfl rfl) rfl rfl) rfl rfl;have ld:(dcl D).length=D.length:=YQ ..;by_cases hn:ws.length=D.length
 . have h':yj D ws:=by
    rcases h with h | h
    . exact absurd hn h
    . exact h
   obtain⟨U,e,em⟩:=Ht (P:=P) (V:=.lst ws) (mu:=mu) D ws none none none hD hw h';rw[ld,hn,abb]at t2;refine⟨U,tR (Av (U':=E) ((Q6 (yK t1 t2)).trans rfl) ?_),em⟩;show (tE (bC (aj 0) (acP 0)) (aj 1) E).bind _=_;rw[show tE (bC (aj 0) (acP 0)) (aj 1) E=some (mY (dcl D) ws,E) from rfl,YJ];exact e
 . rw[ld,show (((ws.length:Nat):Int)==((D.length:Nat):Int))=false from aba.mpr (by omega)]at t2;exact⟨E,tR (Aw ((Q5 (yK t1 t2)).trans rfl)),rfl⟩
theorem Mm (hD:∀q∈D,gH q.1=true) (hw:∀w∈ws,iU w) (h:vW D ws):∃U,fY [.tup [.lst (dcl D),gr,R3,R4],.lst ws,.int bu] mu=some (.xc "NoInput" U)/\U.mu=mu:=by obtain⟨U,e,em⟩:=Pu (gr:=gr) (R3:=R3) (R4:=R4) (mu:=mu) hD hw h;let P:PV:=.tup [.lst (dcl D),gr,R3,R4];let E:Ev:=⟨[zS P,zL ws,zI bu,none],mu⟩;exact⟨_,tR (Aw (zA (rA (ls:=[.sh P,.sh (.lst ws)]) (U1:=E) rfl rfl rfl rfl e))),em⟩
theorem Xj (hD:∀q∈D,gH q.1=true) (hw:∀w∈ws,iU w) (h:vW D ws):∃U,mC [.tup [.lst (dcl D),gr,R3,R4],.lst ws,.int bu] mu=some (.xc "NoInput" U)/\U.mu=mu:=by obtain⟨U,e,em⟩:=Mm (gr:=gr) (R3:=R3) (R4:=R4) (mu:=mu) (bu:=bu) hD hw h;let P:PV:=.tup [.lst (dcl D),gr,R3,R4];let E:Ev:=⟨[zS P,zL ws,zI bu,none],mu⟩;exact⟨_,tR (Aw (zA (rA (ls:=[.sh P,.sh (.lst ws),.sh (.int bu)]) (U1:=E) rfl rfl rfl rfl e))),em⟩
theorem Px (hD:∀q∈D,gH q.1=true) (hw:∀w∈ws,iU w) (h:vW D ws):∃U,iw [.tup [.lst (dcl D),gr,R3,R4],.lst ws,.int bu] mu=some (.xc "NoInput" U)/\U.mu=mu:=by obtain⟨U,e,em⟩:=Mm (gr:=gr) (R3:=R3) (R4:=R4) (mu:=mu) (bu:=bu) hD hw h;let P:PV:=.tup [.lst (dcl D),gr,R3,R4];let E:Ev:=⟨[zS P,zL ws,zI bu],mu⟩;refine⟨⟨E.vs,U.mu⟩,tR (zA ?_),em⟩;show (gU _ _ _).bind _=_;rw[rA (ls:=[.sh P,.sh (.lst ws),.sh (.int bu)]) (U1:=E) rfl rfl rfl rfl e];rfl
def isF (x:Str):Prop:=x = "run" \/ x = "traced"
theorem Q7 {x:Str} {o3:List (Option Lc)} (hx:isF x) (hD:∀q∈D,gH q.1=true) (hw:∀w∈ws,iU w) (h:vW D ws):pG "run" mC "traced" iw 0 (aa (aj 1) (aa (aj 2) (aa (acP bu) ao))) ⟨zS (.fn x)::zS (.tup [.lst (dcl D),gr,R3,R4])::zL ws::o3,mu⟩=some (.xc "NoInput" ⟨zS (.fn x)::zS (.tup [.lst (dcl D),gr,R3,R4])::zL ws::o3,mu⟩):=by
 let P:PV:=.tup [.lst (dcl D),gr,R3,R4];let E:Ev:=⟨zS (.fn x)::zS P::zL ws::o3,mu⟩;show (if x = "run" then gU mC _ E else if x = "traced" then gU iw _ E else none)=_;rcases hx with hx | hx
 . obtain⟨U,e,em⟩:=Xj (gr:=gr) (R3:=R3) (R4:=R4) (mu:=mu) (bu:=bu) hD hw h;rw[aa5 hx,rA (ls:=[.sh P,.sh (.lst ws),.sh (.int bu)]) (U1:=E) rfl rfl rfl rfl e,em]
 . obtain⟨U,e,em⟩:=Px (gr:=gr) (R3:=R3) (R4:=R4) (mu:=mu) (bu:=bu) hD hw h;rw[aa6 (by rw[hx]; decide +kernel),aa5 hx,rA (ls:=[.sh P,.sh (.lst ws),.sh (.int bu)]) (U1:=E) rfl rfl rfl rfl e,em]
theorem Jr {x:Str} (hx:isF x) (hD:∀q∈D,gH q.1=true) (hw:∀w∈ws,iU w) (h:vW D ws):iJ [.fn x,.tup [.lst (dcl D),gr,R3,R4],.lst ws] mu=some (.sh (.bl true),mu):=by let P:PV:=.tup [.lst (dcl D),gr,R3,R4];refine aW (U:=⟨[zS (.fn x),zS P,zL ws,some (.sh (.exc "NoInput")),zS (.bl false)],mu⟩) (iz ?_);unfold Et;rw[show env0 5 [.fn x,.tup [.lst (dcl D),gr,R3,R4],.lst ws] mu=⟨zS (.fn x)::zS (.tup [.lst (dcl D),gr,R3,R4])::zL ws::[none,none],mu⟩ from rfl,zA (Q7 (o3:=[none,none]) hx hD hw h),YJ];rfl
theorem Py {x:Str} (hx:isF x) (hD:∀q∈D,gH q.1=true) (hw:∀w∈ws,iU w) (h:vW D ws):jK [.fn x,.tup [.lst (dcl D),gr,R3,R4],.lst ws] mu=some (.sh (.bl true),mu):=by let P:PV:=.tup [.lst (dcl D),gr,R3,R4];refine aW (U:=⟨[zS (.fn x),zS P,zL ws,some (.sh (.exc "NoInput"))],mu⟩) (iz ?_);unfold Et;rw[show env0 4 [.fn x,.tup [.lst (dcl D),gr,R3,R4],.lst ws] mu=⟨zS (.fn x)::zS (.tup [.lst (dcl D),gr,R3,R4])::zL ws::[none],mu⟩ from rfl,zA (Q7 (o3:=[none]) hx hD hw h),YJ];rfl
end
theorem ym {f:EF} {a b:Int} {U U1:Ev} (h:f U=some (.sh (.int a),U1)):tT (aB lE f (acP b)) cU U=some (decide (a=b),U1):=QG (l:=.sh (.bl (a==b))) (aM h rfl rfl) (by show some (a==b)=_; rfl)
theorem Wn {ns:List Int} {i:Int} (h0:0<=i) (h1:i<ns.length):∃c,Bp (.lst (ns.map .int)) (.int i)=zI c:=by obtain⟨x,e,e2⟩:=Oh (l:=ns.map PV.int) (i:=i) h0 (by rw[YQ]; exact h1);rw[Zd]at e2;obtain⟨c,_,rfl⟩:=abe e2;exact⟨c,by show (gR (ns.map PV.int) i).map _=_; rw[e]; rfl⟩
theorem zE {p q:PV} {fa fb:EF} {U U1 U2:Ev} {l m r:Lc} (h1:fa U=some (l,U1)) (hx:l.pv=p) (h2:fb U1=some (m,U2)) (hy:m.pv=q) (hn:(∀n,p≠.ptr n)/\(∀k s,p≠.dk k s)/\∀k s,p≠.df k s) (h3:Bp p q=some r):jk fa fb U=some (r,U2):=by
 have e:=rM (fa:=λ_=>some (l,U1)) (fb:=λ_=>some (m,U2)) (U:=U) rfl hx rfl hy hn.1 h3;unfold jk;rw[h1,YJ];dsimp only;rw[h2,YJ];split
 . rename_i ks ps q; rw[hx]at q; exact(hn.2.1 _ _ q).elim
 . rename_i ks ps q; rw[hx]at q; exact(hn.2.2 _ _ q).elim
 . exact e
theorem vX {ps:List PV}:(∀n,PV.lst ps≠.ptr n)/\(∀k s,PV.lst ps≠.dk k s)/\∀k s,PV.lst ps≠.df k s:=⟨λn h=>(by cases h),λ_ _ h=>(by cases h),λ_ _ h=>(by cases h)⟩
theorem jM {a b:Int} (h:0<b) (h2:b<18446744073709551616):eU (.int a) (.int b)=zI (a/b):=by show (if decide (0<b/\b<18446744073709551616)=true then _ else _)=_;rw[aa5 (aa9 ⟨h,h2⟩)]
theorem cell_eq {ns:List Int} {k:Int} (hn:ns.length<=63) (h0:0<=k) (h1:k<100000):∃c,0<=c/\c<2147483629/\∀mu:Mu,bD [.lst (ns.map .int),.int k] mu=some (.sh (.int c),mu):=by
 have hN:(ns.map PV.int).length=ns.length:=YQ ..;have ln:∀(o:List (Option Lc)) (mu:Mu),eQ (aj 0) ⟨zL (ns.map .int)::o,mu⟩=some (.sh (.int ns.length),⟨zL (ns.map .int)::o,mu⟩):=λo mu=>by show some (Lc.sh (.int ((ns.map PV.int).length:Nat)),_)=_;rw[hN];rfl
 have fin:∀(c d:Int) (mu:Mu),(k/(max 1 (ns.length:Int)))=d->cu (aB bU (aB bJ (aB fJ (aj 2) (acP 69621)) (aB fJ (aB eU (aj 1) (eB max2 (aa (acP 1) (aa (eQ (aj 0)) ao)))) (acP 40014))) (acP 2147483629)) ⟨[zL (ns.map .int),zI k,zI c],mu⟩=
  some (.rt (.sh (.int ((c*69621+d*40014)%2147483629))) ⟨[zL (ns.map .int),zI k,zI c],mu⟩):=λc d mu hd=>by
  have mx:eB max2 (aa (acP 1) (aa (eQ (aj 0)) ao)) ⟨[zL (ns.map .int),zI k,zI c],mu⟩=some (.sh (.int (max 1 (ns.length:Int))),⟨[zL (ns.map .int),zI k,zI c],mu⟩):=by
   refine pA (ls:=[.sh (.int 1),.sh (.int ns.length)]) (ps:=[.int 1,.int ns.length]) (aH rfl (aH (ln _ _) rfl)) rfl ?_;show some (Lc.sh (.int (if (ns.length:Int)>1 then (ns.length:Int) else 1)))=_;have:(if (ns.length:Int)>1 then (ns.length:Int) else 1)=max 1 (ns.length:Int):=by split<;>omega
   rw[this]
  have hmx:0<max 1 (ns.length:Int)/\max 1 (ns.length:Int)<18446744073709551616:=by omega
  refine cA (aM (aM (aM rfl rfl (vG (by decide) (by decide))) (aM (l:=.sh (.int (d*40014))) (aM (l:=.sh (.int d)) rfl mx ?_) rfl (vG (by decide) (by decide))) (gP _ _)) rfl (cz (by decide)));rw[<-hd];exact jM hmx.1 hmx.2
 have st1:∀mu:Mu,aP 2 (aB bJ (aB bJ (aB fJ (aj 1) (aj 1)) (aB fJ (acP 11) (aj 1))) (acP 3)) (env0 3 [.lst (ns.map .int),.int k] mu)=some (.nx ⟨[zL (ns.map .int),zI k,zI (k*k+11*k+3)],mu⟩):=λmu=>
  cP (aM (aM (aM rfl rfl (tu (by omega) (by omega))) (aM rfl rfl (tu (by decide) (by decide))) (gP _ _)) rfl (gP _ _)) rfl rfl
 have tst:∀(mu:Mu) (c:Int),tT (aB KC (eQ (aj 0)) (acP 0)) cU ⟨[zL (ns.map .int),zI k,zI c],mu⟩=some (decide ((0:Int)<ns.length),⟨[zL (ns.map .int),zI k,zI c],mu⟩):=λmu c=>
  d7 (aM (ln _ _) rfl rfl) rfl rfl
 by_cases hz:(0:Int)<ns.length
 . have hm0:=aaj k (b:=ns.length) (by omega);have hm1:=aaf k (b:=ns.length) hz;obtain⟨x,ex⟩:=Wn hm0 hm1;have st3:∀(mu:Mu) (c:Int),aP 2 (aB bJ (aB bU (jk (aj 0) (aB bU (aj 1) (eQ (aj 0)))) (acP 1000000000039)) (aB fJ (aB eU (aj 1) (eQ (aj 0))) (acP 7907))) ⟨[zL (ns.map .int),zI k,zI c],mu⟩=some (.nx ⟨[zL (ns.map .int),zI k,zI (x%1000000000039+k/ns.length*7907)],mu⟩):=λmu c=>
    cP (U1:=⟨[zL (ns.map .int),zI k,zI c],mu⟩) (aM (aM (x:=.sh (.int x)) (y:=.sh (.int 1000000000039)) (zE (p:=.lst (ns.map .int)) (m:=.sh (.int (k%ns.length))) rfl rfl (aM (x:=.sh (.int k)) (y:=.sh (.int ns.length)) rfl (ln _ _) (cz hz)) rfl vX ex) rfl (cz (by decide))) (aM (x:=.sh (.int (k/ns.length))) (y:=.sh (.int 7907)) (aM (x:=.sh (.int k)) (y:=.sh (.int ns.length)) rfl (ln _ _) (jM hz (by omega))) rfl (vG (by decide) (by decide))) (gP _ _)) rfl rfl
   exact⟨_,aaj _ (by decide),aaf _ (by decide),λmu=>aW (aD (st1 mu) (aD ((gh ((tst mu _).trans (by rw[aa9 hz]<;>rfl))).trans (st3 mu _)) (fin _ _ mu rfl)))⟩
 . refine⟨_,aaj _ (by decide),aaf _ (by decide),λmu=>aW (U:=⟨[zL (ns.map .int),zI k,zI (k*k+11*k+3)],mu⟩) (aD (st1 mu) (aD ((dZ ((tst mu _).trans (by rw[aa8 hz]<;>rfl))).trans rfl) (fin _ _ mu rfl)))⟩
def m5 (c:Int):Int:=if c%4=0 then c/4%6 else if c%4=1 then (1000000000000:Int)-1-c/4%4 else if c%4=2 then 999997+c/4%7 else c*465661287%(1000000000000:Int)
theorem Ga (c:Int):0<=m5 c/\m5 c<(1000000000000:Int):=by
 have h5:=aaj (c*465661287) (b:=(1000000000000:Int)) (by decide);have h6:=aaf (c*465661287) (b:=(1000000000000:Int)) (by decide);unfold m5;split
 . omega
 . split
   . omega
   . split
     . omega
     . exact⟨h5,h6⟩
theorem vY (c:Int) (mu:Mu):dz [.int c] mu=some (.sh (.int (m5 c)),mu):=by
 have st:aP 1 (aB bU (aj 0) (acP 4)) (env0 2 [.int c] mu)=some (.nx ⟨[zI c,zI (c%4)],mu⟩):=cP (aM rfl rfl (cz (by decide))) rfl rfl;have no:∀(t:Int) (f g:SF),¬ c%4=t->aK (dw (tT (aB lE (aj 1) (acP t)) cU) f cG) g ⟨[zI c,zI (c%4)],mu⟩=g ⟨[zI c,zI (c%4)],mu⟩:=λt f g h=>
  GZ ((dZ ((ym (a:=c%4) rfl).trans (by rw[aa8 h]<;>rfl))).trans rfl)
 have yes:∀(t:Int) (f g:SF) (r:Lc) (U:Ev),c%4=t->f ⟨[zI c,zI (c%4)],mu⟩=some (.rt r U)->aK (dw (tT (aB lE (aj 1) (acP t)) cU) f cG) g ⟨[zI c,zI (c%4)],mu⟩=some (.rt r U):=λt f g r U h h2=>
  iz ((gh ((ym (a:=c%4) rfl).trans (by rw[aa9 h]<;>rfl))).trans h2)
 have d4:aB eU (aj 0) (acP 4) ⟨[zI c,zI (c%4)],mu⟩=some (.sh (.int (c/4)),⟨[zI c,zI (c%4)],mu⟩):=aM rfl rfl (jM (by decide) (by decide));have pw:aB ut (acP 10) (acP 12) ⟨[zI c,zI (c%4)],mu⟩=some (.sh (.int (1000000000000:Int)),⟨[zI c,zI (c%4)],mu⟩):=rfl;refine aW (U:=⟨[zI c,zI (c%4)],mu⟩) (aD st ?_);by_cases e0:c%4=0
 . rw[show m5 c=c/4%6 from aa5 e0];exact yes 0 _ _ _ _ e0 (cA (aM d4 rfl (cz (by decide))))
 . by_cases e1:c%4=1
   . rw[show m5 c=(1000000000000:Int)-1-c/4%4 from (aa6 e0).trans (aa5 e1)];exact(no 0 _ _ e0).trans (yes 1 _ _ _ _ e1 (cA (aM (aM pw rfl rfl) (aM d4 rfl (cz (by decide))) rfl)))
   . by_cases e2:c%4=2
     . rw[show m5 c=999997+c/4%7 from (aa6 e0).trans ((aa6 e1).trans (aa5 e2))];exact(no 0 _ _ e0).trans ((no 1 _ _ e1).trans (yes 2 _ _ _ _ e2 (cA (aM rfl (aM d4 rfl (cz (by decide))) (gP _ _)))))
     . rw[show m5 c=c*465661287%(1000000000000:Int) from (aa6 e0).trans ((aa6 e1).trans (aa6 e2))];exact(no 0 _ _ e0).trans ((no 1 _ _ e1).trans ((no 2 _ _ e2).trans (cA (aM (aM rfl rfl (vG (by decide) (by decide))) pw (cz (by decide))))))
theorem tU {f:EF} {U U1:Ev} {n:Nat} (h:f U=some (.sh (.int (n:Nat)),U1)) (hn:n<=100000):cZ (aa f ao) U=some (cQ n,U1):=by unfold cZ;rw[aH (ls:=[]) h rfl,YJ];show (if _ then _ else _)=_;rw[aa5 (by omega),show xN 0 ((n:Nat):Int).toNat=cQ n from by unfold xN; rw[aaE]; exact aab λi _=>by rw[Int.zero_add]]
theorem Pz {ns:List Int} (hn:ns.length<=63):∃cf:Nat->Int,∀k:Nat,k<50->0<=cf k/\cf k<2147483629/\∀mu:Mu,bD [.lst (ns.map .int),.int (k:Nat)] mu=some (.sh (.int (cf k)),mu):=by
 refine Classical.skolem.mp (show ∀k:Nat,∃c:Int,k<50->0<=c/\c<2147483629/\∀mu:Mu,bD [.lst (ns.map .int),.int (k:Nat)] mu=some (.sh (.int c),mu) from λk=>?_);by_cases h:k<50
 . obtain⟨c,h0,h1,e⟩:=cell_eq (k:=(k:Int)) hn (by omega) (by omega);exact⟨c,λ_=>⟨h0,h1,e⟩⟩
 . exact⟨0,λq=>absurd q h⟩
abbrev SI (ss:List Nat):List PV:=ss.map λs=>.int (s:Nat)
abbrev Xx:SF:=aK (aP 4 (acP 0))
 (aK (dw (tT (aB lE (aB bU (aB bU (aB fJ (aB bJ (aB eU (aj 1) (acP 13)) (acP 1)) (aB bJ (aB fJ (aj 3) (aj 3)) (acP 48271))) (acP 65537)) (acP 2)) (acP 1)) cU)
 (aP 4 (aB bJ (acP 1) (aB bU (aB bJ (aB eU (aj 1) (acP 13)) (aj 3)) (acP 8))))
 cG)
 (lq 2 (aj 4)))
def vZ (c k:Int):Nat:=if (c/13+1)*(k*k+48271)%65537%2=1 then (1+(c/13+k)%8).toNat else 0
theorem Wo {c k:Int}:vZ c k<=8:=by unfold vZ;split<;>omega
abbrev ZS (N:PV) (c:Int) (l2 l3 l4:Option Lc) (mu:Mu):Ev:=⟨[zS N,zI c,l2,l3,l4],mu⟩
theorem Te {N:PV} {c k:Int} {acc:List PV} {l4:Option Lc} {mu:Mu} (hc:0<=c) (hc2:c<2147483629) (hk:0<=k) (hk2:k<100) (hl:acc.length<1000):∃p4,Xx (ZS N c (zO acc) (zI k) l4 mu)=some (.nx (ZS N c (zO (acc++[.int (vZ c k:Nat)])) (zI k) p4 mu)):=by
 let E:=λl4=>ZS N c (zO acc) (zI k) l4 mu;have kk:k*k<=10000:=by have:k*k<=100*100:=Int.mul_le_mul (by omega) (by omega) (by omega) (by omega);omega
 have k0:0<=k*k:=Int.mul_nonneg hk hk;let Z:=E (zI 0);have a1:aB eU (aj 1) (acP 13) Z=some (.sh (.int (c/13)),Z):=aM rfl rfl (jM (by decide) (by decide));have a2:aB bU (aB bU (aB fJ (aB bJ (aB eU (aj 1) (acP 13)) (acP 1)) (aB bJ (aB fJ (aj 3) (aj 3)) (acP 48271))) (acP 65537)) (acP 2) Z=some (.sh (.int ((c/13+1)*(k*k+48271)%65537%2)),Z):=
  aM (aM (aM (aM a1 rfl (gP _ _)) (aM (aM rfl rfl (tu (by omega) (by omega))) rfl (gP _ _)) (tu (by omega) (by omega))) rfl (cz (by decide))) rfl (cz (by decide))
 have t:=ym (b:=1) a2;have fin:∀v:Nat,lq 2 (aj 4) (E (zI (v:Nat)))=some (.nx (ZS N c (zO (acc++[.int (v:Nat)])) (zI k) (zI (v:Nat)) mu)):=λv=>tB (ws0:=acc) (ws:=acc) (l:=.sh (.int (v:Nat))) (U1:=E (zI (v:Nat))) rfl rfl rfl rfl (by omega) rfl;by_cases h:(c/13+1)*(k*k+48271)%65537%2=1
 . refine⟨_,aD (U':=Z) rfl (aD (U':=E (zI (vZ c k:Nat))) ?_ (fin _))⟩;refine(gh (t.trans (by rw[aa9 h]))).trans ?_;have ev:((vZ c k:Nat):Int)=1+(c/13+k)%8:=by unfold vZ; rw[aa5 h]; omega
   rw[ev];exact cP (aM rfl (aM (aM a1 rfl (gP _ _)) rfl (cz (by decide))) (gP _ _)) rfl rfl
 . refine⟨_,aD (U':=Z) rfl (aD (U':=E (zI (vZ c k:Nat))) ?_ (fin _))⟩;refine(dZ (t.trans (by rw[aa8 h]))).trans ?_;rw[show vZ c k=0 from aa6 h];rfl
theorem Hu {N:PV} {c:Int} {mu:Mu} (hc:0<=c) (hc2:c<2147483629):∀(ks:List Nat) (acc:List PV) (l3 l4:Option Lc),(∀k∈ks,k<100)->acc.length+ks.length<1000->∃p3 p4,jO (aJ 3) Xx (ks.map λk=>.int (k:Nat)) (ZS N c (zO acc) l3 l4 mu)=some (.nx (ZS N c (zO (acc++SI (ks.map λk=>vZ c (k:Nat)))) p3 p4 mu))
 | [],acc,l3,l4,_,_=>⟨l3,l4,by show _=some (Fl.nx (ZS N c (zO (acc++[])) l3 l4 mu)); rw[Zg]; rfl⟩
 | k::ks,acc,l3,l4,h,hl=>by simp only[YX]at hl;obtain⟨q4,e⟩:=Te (N:=N) (c:=c) (k:=(k:Nat)) (acc:=acc) (l4:=l4) (mu:=mu) hc hc2 (by omega) (by have:=h k YK; omega) (by omega);obtain⟨p3,p4,el⟩:=Hu (N:=N) (mu:=mu) hc hc2 ks (acc++[.int (vZ c (k:Nat):Nat)]) (zI (k:Nat)) q4 (λq hq=>h q (Y6 _ hq)) (by rw[Y5]; show acc.length+1+_<_; omega);refine⟨p3,p4,gn (U1:=ZS N c (zO acc) (zI (k:Nat)) l4 mu) rfl e ?_⟩;rw[Ze]at el;exact el
theorem PB {ns:List Int} {c:Int} (hc:0<=c) (hc2:c<2147483629) (ec:∀mu:Mu,bD [.lst (ns.map .int),.int 0] mu=some (.sh (.int c),mu)):∃ss:List Nat,ss.length<=12/\(∀s∈ss,s<=8)/\∀mu:Mu,mz [.lst (ns.map .int)] mu=some (.own (.lst (SI ss)),mu):=by
 obtain⟨n,hn⟩:∃n:Nat,c%13=(n:Int):=⟨(c%13).toNat,by omega⟩;refine⟨(List.range n).map λk=>vZ c (k:Nat),by rw[YQ,ZR]; omega,λs hs=>?_,λmu=>?_⟩
 . obtain⟨k,_,rfl⟩:=Zk.mp hs;exact Wo
 . let N:PV:=.lst (ns.map .int);obtain⟨p3,p4,el⟩:=Hu (N:=N) (mu:=mu) hc hc2 (List.range n) [] none none (λk hk=>by have:=List.mem_range.mp hk; omega) (by rw[ZR]; simp; omega);have er:cZ (aa (aB bU (aj 1) (acP 13)) ao) (ZS N c (zO []) none none mu)=some (cQ n,ZS N c (zO []) none none mu):=tU ((aM (l:=.sh (.int (c%13))) rfl rfl (cz (by decide))).trans (by rw[hn]; rfl)) (by omega);exact aW (U:=ZS N c none p3 p4 mu) (aD (U':=ZS N c none none none mu |>.set 1 (zI c)) (cP (bB (ls:=[.sh N,.sh (.int 0)]) (U1:=⟨[zS N,none,none,none,none],mu⟩) rfl rfl rfl rfl (ec mu)) rfl rfl) (aD (U':=ZS N c (zO []) none none mu) rfl (aD (jC er el) rfl)))
def rB (cl:Int) (s:Nat):List Int:=(List.range s).map λj=>m5 (cl*(((j:Nat):Int)*((j:Nat):Int)+16807)%2147483587)
def rC (cl:Int) (s:Nat):BV:=if s=0 then .n (m5 cl) else .l (rB cl s)
def zF (cf:Nat->Int):Nat->List Nat->List BV
 | _,[]=>[]
 | k,s::r=>rC (cf (1+k)) s::zF cf (k+1) r
abbrev VE (N:PV) (ss:List Nat) (l2 l3 l4:Option Lc) (mu:Mu):Ev:=⟨[zS N,zL (SI ss),l2,l3,l4],mu⟩
abbrev Wq:EF:=dG (cZ (aa (jk (aj 1) (aj 3)) ao)) 1 [4] (aJ 0) dR (aG dz (aa (aB bU (aB fJ (aj 1) (aB bJ (aB fJ (aj 0) (aj 0)) (acP 16807))) (acP 2147483587)) ao))
section
variable {N:PV} {ss:List Nat} {k s:Nat} {cl:Int} {mu:Mu}
theorem Js (l2 l4:Option Lc) (hk:ss[k]?=some s):jk (aj 1) (aj 3) (VE N ss l2 (zI (k:Nat)) l4 mu)=some (.sh (.int (s:Nat)),VE N ss l2 (zI (k:Nat)) l4 mu):=
 zE (p:=.lst (SI ss)) (m:=.sh (.int (k:Nat))) rfl rfl rfl rfl vX (by show (gR (SI ss) (k:Nat)).map _=_; rw[oA (p:=.int (s:Nat)) (by rw[Zd,hk]; rfl)]; rfl)
theorem Q8 (l2:Option Lc) (hk:ss[k]?=some s) (h0:0<=cl) (h1:cl<2147483629) (h8:s<=8):Wq (VE N ss l2 (zI (k:Nat)) (zI cl) mu)=some (.own (.lst ((rB cl s).map .int)),VE N ss l2 (zI (k:Nat)) (zI cl) mu):=by
 let f:PV->PV:=λp=>match p with
  | .int j=>.int (m5 (cl*(j*j+16807)%2147483587))
  | p=>p
 have ec:=lW (b:=aJ 0) (te:=aG dz (aa (aB bU (aB fJ (aj 1) (aB bJ (aB fJ (aj 0) (aj 0)) (acP 16807))) (acP 2147483587)) ao)) (mu:=mu) (λU=>∃o,U=⟨[o,zI cl],mu⟩) (λU ⟨o,e⟩=>by rw[e]) f (xs:=cQ s) (U:=⟨[none,zI cl],mu⟩) ⟨none,rfl⟩ (by rw[YQ,ZR]; omega) (by
  rintro p hp U ⟨o,rfl⟩;obtain⟨j,hj,rfl⟩:=Zk.mp hp;have hj:=List.mem_range.mp hj;refine⟨⟨[zI (j:Nat),zI cl],mu⟩,rfl,.sh (.int (m5 (cl*(((j:Nat):Int)*((j:Nat):Int)+16807)%2147483587))),⟨[zI (j:Nat),zI cl],mu⟩,bB (ls:=[.sh (.int (cl*(((j:Nat):Int)*((j:Nat):Int)+16807)%2147483587))]) (U1:=⟨[zI (j:Nat),zI cl],mu⟩) (aH (aM (aM rfl (aM (aM rfl rfl (tu (by omega) (by omega))) rfl (gP _ _)) (tu (by omega) (by omega))) rfl (cz (by decide))) rfl) rfl rfl rfl (vY _ mu),rfl,_,rfl⟩) (by
  rintro p hp U U1 ⟨o,rfl⟩ e;cases e;exact⟨_,rfl⟩)
 have ef:(cQ s).map f=(rB cl s).map .int:=by unfold rB;rw[ZZ,ZZ];rfl
 rw[ef]at ec;exact nW (f:=cZ (aa (jk (aj 1) (aj 3)) ao)) (m:=1) (ixs:=[4]) (tU (Js l2 _ hk) (by omega)) ec
theorem Wr {i:Int} (h:i∈rB cl s):In i:=by obtain⟨j,_,rfl⟩:=Zk.mp h;exact Ga _
theorem Hv:(rB cl s).length=s:=by unfold rB; rw[YQ,ZR]
theorem Mp (h8:s<=8):pR (s:Nat) (rC cl s):=by
 unfold rC;by_cases h:s=0
 . rw[aa5 h];exact⟨by omega,Ga _⟩
 . rw[aa6 h];exact⟨by rw[Hv],by omega,by rw[Hv]; exact h8,λi hi=>Wr hi⟩
end
abbrev Xy:SF:=aK (aP 4 (aG bD (aa (aj 0) (aa (aB bJ (acP 1) (aj 3)) ao))))
 (dw (tT (aB lE (jk (aj 1) (aj 3)) (acP 0)) cU)
 (lq 2 (aG dz (aa (aj 4) ao)))
 (lq 2 Wq))
abbrev Xz:SF:=aK (aP 4 (aG bD (aa (aj 0) (aa (aB bJ (acP 1) (aj 3)) ao))))
 (dw (tT (aB lE (jk (aj 1) (aj 3)) (acP 0)) cU)
 (lq 2 (aG dz (aa (aj 4) ao)))
 (lq 2 (jj Wq)))
def CF (ns:List Int) (cf:Nat->Int):Prop:=∀k:Nat,k<50->0<=cf k/\cf k<2147483629/\∀mu:Mu,bD [.lst (ns.map .int),.int (k:Nat)] mu=some (.sh (.int (cf k)),mu)
section
variable {ns:List Int} {cf:Nat->Int} {ss:List Nat}
theorem Jt {k:Nat} {l2 l4:Option Lc} {mu:Mu} (C:CF ns cf) (hk:k<40):aP 4 (aG bD (aa (aj 0) (aa (aB bJ (acP 1) (aj 3)) ao))) (VE (.lst (ns.map .int)) ss l2 (zI (k:Nat)) l4 mu)=some (.nx (VE (.lst (ns.map .int)) ss l2 (zI (k:Nat)) (zI (cf (1+k))) mu)):=by have e:=(C (1+k) (by omega)).2.2 mu;rw[show (((1+k:Nat)):Int)=1+(k:Int) from by omega]at e;exact cP (bB (ls:=[.sh (.lst (ns.map .int)),.sh (.int (1+(k:Int)))]) (U1:=VE (.lst (ns.map .int)) ss l2 (zI (k:Nat)) l4 mu) rfl rfl rfl rfl e) rfl rfl
theorem Tf {k s:Nat} {acc:List PV} {l4:Option Lc} {mu:Mu} (C:CF ns cf) (hk:k<40) (hs:ss[k]?=some s) (h8:s<=8) (hl:acc.length<1000):∃p4,Xy (VE (.lst (ns.map .int)) ss (zO acc) (zI (k:Nat)) l4 mu)=some (.nx (VE (.lst (ns.map .int)) ss (zO (acc++[(rC (cf (1+k)) s).pv])) (zI (k:Nat)) p4 mu)):=by
 let E:=VE (.lst (ns.map .int)) ss (zO acc) (zI (k:Nat)) (zI (cf (1+k))) mu;obtain⟨h0,h1,_⟩:=C (1+k) (by omega);have t:=ym (b:=0) (Js (N:=.lst (ns.map .int)) (mu:=mu) (zO acc) (zI (cf (1+k))) hs);refine⟨zI (cf (1+k)),aD (Jt C hk) ?_⟩;unfold rC;by_cases h:s=0
 . rw[aa5 h];exact(gh (t.trans (by rw[aa9 (by omega)]))).trans (tB (ws0:=acc) (ws:=acc) (l:=.sh (.int (m5 (cf (1+k))))) (U1:=E) rfl (bB (ls:=[.sh (.int (cf (1+k)))]) (U1:=E) rfl rfl rfl rfl (vY _ mu)) rfl rfl (by omega) rfl)
 . rw[aa6 h];exact(dZ (t.trans (by rw[aa8 (by omega)]))).trans (tB (ws0:=acc) (ws:=acc) (l:=.own (.lst ((rB (cf (1+k)) s).map .int))) (U1:=E) rfl (Q8 _ hs h0 h1 h8) rfl rfl (by omega) rfl)
theorem Hw {mu:Mu} (C:CF ns cf) (hss:ss.length<40) (h8:∀s∈ss,s<=8):∀(rem:List Nat) (k:Nat) (acc:List PV) (l3 l4:Option Lc),ss.drop k=rem->acc.length+rem.length<1000->∃p3 p4,jO (aJ 3) Xy ((List.range' k rem.length).map λi=>PV.int (i:Nat)) (VE (.lst (ns.map .int)) ss (zO acc) l3 l4 mu)=some (.nx (VE (.lst (ns.map .int)) ss (zO (acc++(zF cf k rem).map BV.pv)) p3 p4 mu))
 | [],k,acc,l3,l4,_,_=>⟨l3,l4,by show _=some (Fl.nx (VE (.lst (ns.map .int)) ss (zO (acc++[])) l3 l4 mu)); rw[Zg]; rfl⟩
 | s::rem,k,acc,l3,l4,hd,hl=>by
  simp only[YX]at hl;have hs:ss[k]?=some s:=by have:=congrArg (·[0]?) hd;simpa using this
  have hk:=(YS.mp hs).1;obtain⟨q4,e⟩:=Tf (ss:=ss) (acc:=acc) (l4:=l4) (mu:=mu) C (by omega) hs (h8 s (Z9 hs)) (by omega);obtain⟨p3,p4,el⟩:=Hw (mu:=mu) C hss h8 rem (k+1) (acc++[(rC (cf (1+k)) s).pv]) (zI (k:Nat)) q4 (by rw[<-List.drop_drop,hd]; rfl) (by rw[Y5]; show acc.length+1+_<_; omega);refine⟨p3,p4,?_⟩;rw[YX,aa1,Za];refine gn (U1:=VE (.lst (ns.map .int)) ss (zO acc) (zI (k:Nat)) l4 mu) rfl e ?_;rw[Ze]at el;exact el
theorem Hx {N:PV} {l2 l3 l4:Option Lc} {mu:Mu}:eQ (aj 1) (VE N ss l2 l3 l4 mu)=some (.sh (.int (ss.length:Nat)),VE N ss l2 l3 l4 mu):=by show some (Lc.sh (.int ((SI ss).length:Nat)),_)=_;rw[YQ];rfl
theorem Mq (C:CF ns cf) (hss:ss.length<40) (h8:∀s∈ss,s<=8) (mu:Mu):j7 [.lst (ns.map .int),.lst (SI ss)] mu=some (.own (.lst ((zF cf 0 ss).map BV.pv)),mu):=by let N:PV:=.lst (ns.map .int);obtain⟨p3,p4,el⟩:=Hw (mu:=mu) C hss h8 ss 0 [] none none rfl (by simp; omega);rw[vU]at el;exact aW (U:=VE N ss none p3 p4 mu) (aD (U':=VE N ss (zO []) none none mu) rfl (aD (jC (tU Hx (by omega)) el) rfl))
def Q9 (mu:Mu):List BV->List PV->Prop
 | [],ws=>ws=[]
 | v::bs,ws=>∃w r,ws=w::r/\VW mu v w/\Q9 mu bs r
theorem VW.mono {mu t:Mu} {v:BV} {w:PV} (h:VW mu v w):VW (mu++t) v w:=by
 rcases h with h | ⟨c,is,e1,e2,e3⟩
 . exact .inl h
 . exact .inr ⟨c,is,e1,e2,by rw[Zj (mU e3)]; exact e3⟩
theorem Tg {k s:Nat} {acc:List PV} {l4:Option Lc} {mu:Mu} (C:CF ns cf) (hk:k<40) (hs:ss[k]?=some s) (h8:s<=8) (hl:acc.length<1000):∃p4 w t,Xz (VE (.lst (ns.map .int)) ss (zO acc) (zI (k:Nat)) l4 mu)=some (.nx (VE (.lst (ns.map .int)) ss (zO (acc++[w])) (zI (k:Nat)) p4 (mu++t)))/\VW (mu++t) (rC (cf (1+k)) s) w/\(t=[]\/∃is:List Int,t=[some (.lst (is.map .int))]/\w=.ptr mu.length)/\(t=[]->w=(rC (cf (1+k)) s).pv/\s=0):=by
 let E:=λmu=>VE (.lst (ns.map .int)) ss (zO acc) (zI (k:Nat)) (zI (cf (1+k))) mu;obtain⟨h0,h1,_⟩:=C (1+k) (by omega);have t:=ym (b:=0) (Js (N:=.lst (ns.map .int)) (mu:=mu) (zO acc) (zI (cf (1+k))) hs);by_cases h:s=0
 . refine⟨zI (cf (1+k)),.int (m5 (cf (1+k))),[],aD (Jt C hk) ?_,.inl (by unfold rC; rw[aa5 h]; rfl),.inl rfl,λ_=>⟨by unfold rC; rw[aa5 h]; rfl,h⟩⟩;rw[Zg];exact(gh (t.trans (by rw[aa9 (by omega)]))).trans (tB (ws0:=acc) (ws:=acc) (l:=.sh (.int (m5 (cf (1+k))))) (U1:=E mu) rfl (bB (ls:=[.sh (.int (cf (1+k)))]) (U1:=E mu) rfl rfl rfl rfl (vY _ mu)) rfl rfl (by omega) rfl)
 . refine⟨zI (cf (1+k)),.ptr mu.length,[some (.lst ((rB (cf (1+k)) s).map .int))],aD (Jt C hk) ?_,.inr ⟨mu.length,rB (cf (1+k)) s,by unfold rC; rw[aa6 h],rfl,by rw[Zb (YW _),aau]; rfl⟩,.inr ⟨_,rfl,rfl⟩,λz=>by cases z⟩;exact(dZ (t.trans (by rw[aa8 (by omega)]))).trans (tB (ws0:=acc) (ws:=acc) (l:=.sh (.ptr mu.length)) (U1:=E (mu++[some (.lst ((rB (cf (1+k)) s).map .int))])) rfl (qH (U1:=E mu) (Q8 _ hs h0 h1 h8)) rfl rfl (by omega) rfl)
theorem Hy (C:CF ns cf) (hss:ss.length<40) (h8:∀s∈ss,s<=8):∀(rem:List Nat) (k:Nat) (acc:List PV) (l3 l4:Option Lc) (mu:Mu),ss.drop k=rem->acc.length+rem.length<1000->∃p3 p4 ws t,jO (aJ 3) Xz ((List.range' k rem.length).map λi=>PV.int (i:Nat)) (VE (.lst (ns.map .int)) ss (zO acc) l3 l4 mu)=some (.nx (VE (.lst (ns.map .int)) ss (zO (acc++ws)) p3 p4 (mu++t)))/\Q9 (mu++t) (zF cf k rem) ws/\∀w∈ws,(∃i,w=.int i)\/∃(c:Nat) (is:List Int),w=.ptr c/\(mu++t)[c]?=some (some (.lst (is.map PV.int)))
 | [],k,acc,l3,l4,mu,_,_=>⟨l3,l4,[],[],by rw[Zg,Zg]; rfl,rfl,λw h=>by cases h⟩
 | s::rem,k,acc,l3,l4,mu,hd,hl=>by
  simp only[YX]at hl;have hs:ss[k]?=some s:=by have:=congrArg (·[0]?) hd;simpa using this
  have hk:=(YS.mp hs).1;obtain⟨q4,w,t1,e,hw,ht,ht2⟩:=Tg (ss:=ss) (acc:=acc) (l4:=l4) (mu:=mu) C (by omega) hs (h8 s (Z9 hs)) (by omega);obtain⟨p3,p4,ws,t2,el,hws,hk2⟩:=Hy C hss h8 rem (k+1) (acc++[w]) (zI (k:Nat)) q4 (mu++t1) (by rw[<-List.drop_drop,hd]; rfl) (by rw[Y5]; show acc.length+1+_<_; omega);rw[Ze mu t1 t2]at el hws hk2;refine⟨p3,p4,w::ws,t1++t2,?_,⟨w,ws,rfl,by rw[<-Ze]; exact hw.mono,hws⟩,λx hx=>?_⟩
  . rw[YX,aa1,Za];refine gn (U1:=VE (.lst (ns.map .int)) ss (zO acc) (zI (k:Nat)) l4 mu) rfl e ?_;rw[Ze acc]at el;exact el
  . rcases YM.mp hx with rfl | hx
    . rcases ht with h | ⟨is,h,e2⟩
      . obtain⟨e3,e4⟩:=ht2 h;refine .inl ⟨m5 (cf (1+k)),?_⟩;rw[e3,e4];rfl
      . refine .inr ⟨mu.length,is,e2,?_⟩;rw[h,<-Ze,Zj (by simp),Zb (YW _),aau];rfl
    . exact hk2 x hx
theorem Ju (C:CF ns cf) (hss:ss.length<40) (h8:∀s∈ss,s<=8) (mu:Mu):∃ws t,iT [.lst (ns.map .int),.lst (SI ss)] mu=some (.own (.lst ws),mu++t)/\Q9 (mu++t) (zF cf 0 ss) ws/\∀w∈ws,(∃i,w=.int i)\/∃(c:Nat) (is:List Int),w=.ptr c/\(mu++t)[c]?=some (some (.lst (is.map PV.int))):=by let N:PV:=.lst (ns.map .int);obtain⟨p3,p4,ws,t,el,hw,hk⟩:=Hy C hss h8 ss 0 [] none none mu rfl (by simp; omega);rw[vU]at el;exact⟨ws,t,aW (U:=VE N ss none p3 p4 (mu++t)) (aD (U':=VE N ss (zO []) none none mu) rfl (aD (jC (tU Hx (by omega)) el) rfl)),hw,hk⟩
end
theorem Dh {ps:List PV} {a:Int} (h0:0<=a) (h1:a<=ps.length):lR ps none (some a)=ps.take a.toNat:=by
 have e:HT.sIx ps.length ps.length (some a)=a.toNat:=by show (if a<0 then _ else min a.toNat ps.length)=_;rw[aa6 (by omega)];omega
 unfold lR;rw[e];rfl
theorem zG {ps:List PV} {a:Int} (h0:0<=a) (h1:a<=ps.length):lR ps (some a) none=ps.drop a.toNat:=by
 have e:HT.sIx ps.length 0 (some a)=a.toNat:=by show (if a<0 then _ else min a.toNat ps.length)=_;rw[aa6 (by omega)];omega
 unfold lR;rw[e];show (ps.drop a.toNat).take (ps.length-a.toNat)=_;rw[aaG (by rw[Zz]; omega)]
def Ax (f:Int):List PV:=[.non,.bl true,.bl false,.str "1",.int (-1-f),.int (1000000000000+f),.tup [.int 1,.int 2],.lst [],.lst [.int 3]]
structure Odd (p:PV):Prop where
 fine:iU p
 no:hb p=false
theorem gW {p:PV} (h:Hs p=true) (hn:∀ps,p≠.lst ps):iU p:=⟨h,λps e=>absurd e (hn ps)⟩
theorem nH {ps:List PV} (h:ps.length<=1000) (hk:∀q∈ps,Hs q=true):iU (.lst ps):=⟨rfl,λqs e=>by cases e; exact⟨h,hk⟩⟩
theorem Th {f:Int} (hf:0<=f) {p:PV} (h:p∈Ax f):Odd p:=by
 unfold Ax at h;simp only[YM,ZC,or_false]at h;rcases h with rfl | rfl | rfl | rfl | rfl | rfl | rfl | rfl | rfl
 . exact⟨gW rfl λ_ e=>(by cases e),rfl⟩
 . exact⟨gW rfl λ_ e=>(by cases e),rfl⟩
 . exact⟨gW rfl λ_ e=>(by cases e),rfl⟩
 . exact⟨gW rfl λ_ e=>(by cases e),rfl⟩
 . refine⟨gW rfl λ_ e=>(by cases e),?_⟩;show (decide (0<=-1-f)&&_)=false;rw[aa8 (by omega),Bool.false_and]
 . refine⟨gW rfl λ_ e=>(by cases e),?_⟩;show (_&&decide (1000000000000+f<1000000000000))=false;rw[show decide (1000000000000+f<1000000000000)=false from aa8 (by omega),Bool.and_false]
 . exact⟨gW rfl λ_ e=>(by cases e),rfl⟩
 . exact⟨nH (by decide) (λq hq=>by cases hq),rfl⟩
 . exact⟨nH (by decide) (λq hq=>by rw[Zw.mp hq]; rfl),rfl⟩
theorem Di {fa fb:EF} {U U1 U2:Ev} {l:Lc} {ps:List PV} {k:Int} (h1:fa U=some (l,U1)) (hl:l.pv=.lst ps) (h2:fb U1=some (.sh (.int k),U2)) (hk:0<=k) (hk2:k<ps.length):∃p,p∈ps/\ps[k.toNat]?=some p/\jk fa fb U=some (.sh p,U2):=by have hp:=YT (show k.toNat<ps.length by omega);refine⟨ps[k.toNat]'(by omega),List.getElem_mem _,hp,zE h1 hl h2 rfl vX ?_⟩;show (gR ps k).map _=_;have:=oA (k:=k.toNat) hp;rw[show ((k.toNat:Nat):Int)=k from by omega]at this;rw[this];rfl
theorem Ws {c:Int} (h0:0<=c):∃p,Odd p/\∀mu:Mu,il [.int c] mu=some (.sh p,mu):=by
 let f:Int:=c/18*(c/9%2)%1000000000000;have hf:0<=f:=aaj _ (by decide);have key:∀mu:Mu,∃p,p∈Ax f/\(Ax f)[(c%9).toNat]?=some p/\il [.int c] mu=some (.sh p,mu):=λmu=>by
  let E:=λl1=>(⟨[zI c,l1],mu⟩:Ev);let F:Option Lc:=zI f;have s1:aP 1 (aB bU (aB fJ (aB eU (aj 0) (acP 18)) (aB bU (aB eU (aj 0) (acP 9)) (acP 2))) (aB ut (acP 10) (acP 12))) (E none)=some (.nx (E F)):=
   cP (aM (aM (x:=.sh (.int (c/18))) (y:=.sh (.int (c/9%2))) (U1:=E none) (aM rfl rfl (jM (by decide) (by decide))) (aM (aM rfl rfl (jM (by decide) (by decide))) rfl (cz (by decide))) (vG (by omega) (by omega))) (show aB ut (acP 10) (acP 12) (E none)=some (.sh (.int 1000000000000),E none) from rfl) (cz (by decide))) rfl rfl
  obtain⟨p,hp,ha,e⟩:=Di (fa:=aL (aa (eC .non) (aa (eC (.bl true)) (aa (eC (.bl false)) (aa (acQ "1") (aa (aB Eg (sG (acP 1)) (aj 1)) (aa (aB bJ (aB ut (acP 10) (acP 12)) (aj 1)) (aa (cN (aa (acP 1) (aa (acP 2) ao))) (aa (aL ao) (aa (aL (aa (acP 3) ao)) ao)))))))))) (fb:=aB bU (aj 0) (acP 9)) (U:=E F) (U1:=E F) (U2:=E F) (l:=.own (.lst (Ax f))) (ps:=Ax f) (k:=c%9) rfl rfl (aM rfl rfl (cz (by decide))) (by omega) (by show c%9<9; omega);exact⟨p,hp,ha,aW (U:=E F) (aD s1 (cA e))⟩
 obtain⟨p,hp,ha,_⟩:=key [];refine⟨p,Th hf hp,λmu=>?_⟩;obtain⟨p',_,ha',e⟩:=key mu;rw[ha]at ha';cases ha';exact e
def PK (ss:List Nat) (ws:List PV):Prop:=ws.length≠ss.length\/∃(k s:Nat) (w:PV),ss[k]?=some s/\ws[k]?=some w/\su (s:Nat) w=false
abbrev SP (vs:List PV) (p c:Int) (l3 l4 l5 l6 l7:Option Lc) (mu:Mu):Ev:=⟨[zL vs,zI p,zI c,l3,l4,l5,l6,l7],mu⟩
theorem Ti {v:BV} {s:Int} (h:pR s v):iU v.pv:=by
 cases v with
 | n i=>exact gW rfl λ_ e=>(by cases e)
 | l is=>exact nH (by rw[YQ]; have:=h.2.2.1; omega) λq hq=>by obtain⟨i,_,rfl⟩:=Zk.mp hq; rfl
theorem add_l {a b:List PV} (h:a.length+b.length<=100000):bJ (.lst a) (.lst b)=zO (a++b):=by show (if a.length+b.length<=100000 then _ else _)=_;rw[aa5 h]
theorem mem_set {ws:List PV} {k:Nat} {p w:PV} (h:w∈ws.set k p):w∈ws\/w=p:=List.mem_or_eq_of_mem_set h
theorem Wt {n:Nat} {k:Int} (h0:0<=k) (h1:k<n):qK n k=some k.toNat:=by have:=SJ (n:=n) (k:=k.toNat) (by omega);rw[show ((k.toNat:Nat):Int)=k from by omega]at this;exact this
theorem pZ {f:EF} {lo hi:OF} {U U1 U2 U3:Ev} {l:Lc} {ps:List PV} {y z:Option Int} (h1:f U=some (l,U1)) (hl:l.pv=.lst ps) (h2:lo U1=some (y,U2)) (h3:hi U2=some (z,U3)):dJ f lo hi U=some (.own (.lst (lR ps y z)),U3):=by unfold dJ;rw[h1,YJ];dsimp only;rw[h2,YJ];dsimp only;rw[h3,YJ,hl]
theorem yo {f:EF} {U U1:Ev} {l:Lc} {k:Int} (h:f U=some (l,U1)) (hl:l.pv=.int k):b8 f U=some (some k,U1):=by unfold b8;rw[h,YJ,hl]
section
variable {bs:List BV} {ss:List Nat} {p c:Int} {mu:Mu}
abbrev o8 (bs:List BV):List PV:=bs.map BV.pv
theorem Mr (hp:0<=p):∃l ws,iI [.lst [],.int p,.int c] mu=some (l,mu)/\l.pv=.lst ws/\(∀w∈ws,iU w)/\ws.length=1:=by
 let E:=λl3=>SP [] p c l3 none none none none mu;let W:Option Lc:=zI (p%6);let L:List PV:=[.lst [.int 7],.lst [.lst []],.lst [.non],.lst [.bl true],.lst [.str "1"],.lst [.lst [.int 7,.int 7]]];have s1:aP 3 (aB bU (aj 1) (acP 6)) (E none)=some (.nx (E W)):=cP (aM rfl rfl (cz (by decide))) rfl rfl;have t:tT (aB lE (eQ (aj 0)) (acP 0)) cU (E W)=some (true,E W):=rfl;obtain⟨q,hq,_,e⟩:=Di (fa:=aL (aa (aL (aa (acP 7) ao)) (aa (aL (aa (aL ao) ao)) (aa (aL (aa (eC .non) ao)) (aa (aL (aa (eC (.bl true)) ao)) (aa (aL (aa (acQ "1") ao)) (aa (aL (aa (aL (aa (acP 7) (aa (acP 7) ao))) ao)) ao))))))) (fb:=aj 3) (U:=E W) (U1:=E W) (U2:=E W) (l:=.own (.lst L)) (ps:=L) (k:=p%6) rfl rfl rfl (by omega) (by show p%6<6; omega);have key:∃ws,q=.lst ws/\(∀w∈ws,iU w)/\ws.length=1:=by
  have hq:q∈L:=hq;simp only[L,YM,ZC,or_false]at hq;rcases hq with rfl | rfl | rfl | rfl | rfl | rfl
  . exact⟨_,rfl,λw h=>by rw[Zw.mp h]; exact gW rfl λ_ e=>(by cases e),rfl⟩
  . exact⟨_,rfl,λw h=>by rw[Zw.mp h]; exact nH (by decide) (λq hq=>by cases hq),rfl⟩
  . exact⟨_,rfl,λw h=>by rw[Zw.mp h]; exact gW rfl λ_ e=>(by cases e),rfl⟩
  . exact⟨_,rfl,λw h=>by rw[Zw.mp h]; exact gW rfl λ_ e=>(by cases e),rfl⟩
  . exact⟨_,rfl,λw h=>by rw[Zw.mp h]; exact gW rfl λ_ e=>(by cases e),rfl⟩
  . refine⟨_,rfl,λw h=>?_,rfl⟩;rw[Zw.mp h];refine nH (by decide) λq hq=>?_;simp only[YM,ZC,or_false]at hq;rcases hq with rfl | rfl<;>rfl
 obtain⟨ws,rfl,h1,h2⟩:=key;exact⟨.sh (.lst ws),ws,aW (U:=E W) (aD s1 (iz ((gh t).trans (cA e)))),rfl,h1,h2⟩
theorem Jv (hp:0<=p) (hc:0<=c) (hl:bs.length=ss.length) (h12:ss.length<=12) (hs:∀(k s:Nat) (v:BV),ss[k]?=some s->bs[k]?=some v->pR (s:Nat) v):∃l ws,iI [.lst (o8 bs),.int p,.int c] mu=some (l,mu)/\l.pv=.lst ws/\(∀w∈ws,iU w)/\PK ss ws:=by
 by_cases hz:bs.length=0
 . have e0:bs=[]:=List.length_eq_zero_iff.mp hz;subst e0;obtain⟨l,ws,e,h1,h2,h3⟩:=Mr (c:=c) (mu:=mu) hp;exact⟨l,ws,e,h1,h2,.inl (by omega)⟩
 let n:=bs.length;let V:=o8 bs;have hV:V.length=n:=YQ ..;have hVe:(o8 bs).length=bs.length:=YQ ..;have fV:∀w∈V,iU w:=λw hw=>by obtain⟨v,hv,rfl⟩:=Zk.mp hw;obtain⟨k,hk⟩:=List.mem_iff_getElem?.mp hv;have hk':=(YS.mp hk).1;exact Ti (hs k _ v (YT (show k<ss.length by omega)) hk)
 let w:Int:=p%6;let a:Int:=p/6%(n:Int);have hn0:(0:Int)<(n:Int):=by show (0:Int)<((bs.length:Nat):Int); omega
 have a0:0<=a:=aaj _ (by omega);have a1:a<(n:Int):=aaf _ hn0;have w0:0<=w:=by omega
 have w6:w<6:=by omega
 let W:Option Lc:=zI w;let A:Option Lc:=zI a;let E:=λl3 l4 l5 l6 l7=>SP V p c l3 l4 l5 l6 l7 mu;have hnn:n=bs.length:=rfl;have s1:aP 3 (aB bU (aj 1) (acP 6)) (E none none none none none)=some (.nx (E W none none none none)):=cP (aM rfl rfl (cz (by decide))) rfl rfl;have ln:∀l3 l4 l5 l6 l7,eQ (aj 0) (E l3 l4 l5 l6 l7)=some (.sh (.int (n:Nat)),E l3 l4 l5 l6 l7):=λl3 l4 l5 l6 l7=>by show some (Lc.sh (.int (V.length:Nat)),_)=_;rw[hV];rfl
 have t2:tT (aB lE (eQ (aj 0)) (acP 0)) cU (E W none none none none)=some (false,E W none none none none):=(ym (ln _ _ _ _ _)).trans (by rw[aa8 (by omega)]);have s4:aP 4 (aB bU (aB eU (aj 1) (acP 6)) (eQ (aj 0))) (E W none none none none)=some (.nx (E W A none none none)):=cP (aM (x:=.sh (.int (p/6))) (U1:=E W none none none none) (aM rfl rfl (jM (by decide) (by decide))) (ln _ _ _ _ _) (cz hn0)) rfl rfl;have tw:∀(b:Int) l5 l6 l7,tT (aB lE (aj 3) (acP b)) cU (E W A l5 l6 l7)=some (decide (w=b),E W A l5 l6 l7):=λb l5 l6 l7=>ym rfl;have tk:dJ (aj 0) cD (b8 (aj 4)) (E W A none none none)=some (.own (.lst (V.take a.toNat)),E W A none none none):=by show some (Lc.own (.lst (lR V none (some a))),_)=_;rw[Dh a0 (by omega)];rfl
 have start:∀{R:Option Fl} (g:SF),g (E W A none none none)=R->aK (aP 3 (aB bU (aj 1) (acP 6))) (aK (dw (tT (aB lE (eQ (aj 0)) (acP 0)) cU) (cu (jk (aL (aa (aL (aa (acP 7) ao)) (aa (aL (aa (aL ao) ao)) (aa (aL (aa (eC .non) ao)) (aa (aL (aa (eC (.bl true)) ao)) (aa (aL (aa (acQ "1") ao)) (aa (aL (aa (aL (aa (acP 7) (aa (acP 7) ao))) ao)) ao))))))) (aj 3))) cG) (aK (aP 4 (aB bU (aB eU (aj 1) (acP 6)) (eQ (aj 0)))) g)) (E none none none none none)=R:=λg hg=>
  aD s1 (aD (U':=E W none none none none) ((dZ t2).trans rfl) (aD s4 hg))
 by_cases hw0:w=0
 . have dr:dJ (aj 0) (b8 (aB bJ (aj 4) (acP 1))) cD (E W A none none none)=some (.own (.lst (V.drop (a+1).toNat)),E W A none none none):=by rw[<-zG (by omega) (by omega)];exact pZ (l:=.sh (.lst V)) (U1:=E W A none none none) rfl rfl (yo (aM rfl rfl (gP _ _)) rfl) rfl
   refine⟨.own (.lst (V.take a.toNat++V.drop (a+1).toNat)),_,aW (U:=E W A none none none) (start _ (iz ((gh ((tw 0 _ _ _).trans (by rw[aa9 hw0]))).trans (cA (aM tk dr (add_l (by rw[Zq,Zz]; omega))))))),rfl,λx hx=>?_,.inl ?_⟩
   . rcases ZF.mp hx with h | h
     . exact fV x (List.mem_of_mem_take h)
     . exact fV x (List.mem_of_mem_drop h)
   . rw[Y5,Zq,Zz]; omega
 have q0:=(dZ (f:=cu (aB bJ (dJ (aj 0) cD (b8 (aj 4))) (dJ (aj 0) (b8 (aB bJ (aj 4) (acP 1))) cD))) (g:=cG) ((tw 0 none none none).trans (by rw[aa8 hw0]))).trans (show cG (E W A none none none)=some (.nx (E W A none none none)) from rfl);by_cases hw1:w=1
 . let L:List PV:=[.lst [],.int 7,.lst [.int 7]];have c3:0<=c%3/\c%3<3:=by omega
   have mid:dJ (dJ (aL (aa (aL ao) (aa (acP 7) (aa (aL (aa (acP 7) ao)) ao)))) (b8 (aB bU (aj 2) (acP 3))) cD) cD (b8 (acP 1)) (E W A none none none)=some (.own (.lst ((L.drop (c%3).toNat).take 1)),E W A none none none):=by
    have m1:dJ (aL (aa (aL ao) (aa (acP 7) (aa (aL (aa (acP 7) ao)) ao)))) (b8 (aB bU (aj 2) (acP 3))) cD (E W A none none none)=some (.own (.lst (L.drop (c%3).toNat)),E W A none none none):=by rw[<-zG (ps:=L) c3.1 (by show c%3<=3; omega)];exact pZ (l:=.own (.lst L)) (U1:=E W A none none none) rfl rfl (yo (aM rfl rfl (cz (by decide))) rfl) rfl
    have:(1:Int).toNat=1:=rfl;rw[<-this,<-Dh (ps:=L.drop (c%3).toNat) (a:=1) (by decide) (by rw[Zz]; show (1:Int)<=((3-(c%3).toNat:Nat):Int); omega)];exact pZ m1 rfl rfl rfl
   have dr:dJ (aj 0) (b8 (aj 4)) cD (E W A none none none)=some (.own (.lst (V.drop a.toNat)),E W A none none none):=by rw[<-zG a0 (by omega)];exact pZ (l:=.sh (.lst V)) (U1:=E W A none none none) rfl rfl rfl rfl
   have lm:((L.drop (c%3).toNat).take 1).length=1:=by rw[Zq,Zz]; show min 1 (3-(c%3).toNat)=1; omega
   refine⟨.own (.lst (V.take a.toNat++(L.drop (c%3).toNat).take 1++V.drop a.toNat)),_,aW (U:=E W A none none none) (start _ (aD q0 (iz ((gh ((tw 1 _ _ _).trans (by rw[aa9 hw1]))).trans (cA (aM (aM tk mid (add_l (by rw[lm,Zq]; omega))) dr (add_l (by rw[Y5,lm,Zq,Zz]; omega)))))))),rfl,λx hx=>?_,.inl ?_⟩
   . rcases ZF.mp hx with h | h
     . rcases ZF.mp h with h | h
       . exact fV x (List.mem_of_mem_take h)
       . have h:x∈L:=List.mem_of_mem_drop (List.mem_of_mem_take h);simp only[L,YM,ZC,or_false]at h;rcases h with rfl | rfl | rfl
         . exact nH (by decide) (λq hq=>by cases hq)
         . exact gW rfl λ_ e=>(by cases e)
         . exact nH (by decide) (λq hq=>by rw[Zw.mp hq]; rfl)
     . exact fV x (List.mem_of_mem_drop h)
   . rw[Y5,Y5,lm,Zq,Zz]; omega
 have q1:=(dZ (f:=cu (aB bJ (aB bJ (dJ (aj 0) cD (b8 (aj 4))) (dJ (dJ (aL (aa (aL ao) (aa (acP 7) (aa (aL (aa (acP 7) ao)) ao)))) (b8 (aB bU (aj 2) (acP 3))) cD) cD (b8 (acP 1)))) (dJ (aj 0) (b8 (aj 4)) cD))) (g:=cG) ((tw 1 none none none).trans (by rw[aa8 hw1]))).trans (show cG (E W A none none none)=some (.nx (E W A none none none)) from rfl);obtain⟨v,hv⟩:∃v,bs[a.toNat]?=some v:=⟨_,YT (show a.toNat<bs.length by omega)⟩;obtain⟨s,hsz⟩:∃s,ss[a.toNat]?=some s:=⟨_,YT (show a.toNat<ss.length by omega)⟩;have sv:=hs _ s v hsz hv;obtain⟨q,oq,eq⟩:=Ws hc;have hVa:V[a.toNat]?=some v.pv:=by show (bs.map BV.pv)[a.toNat]?=_; rw[Zd,hv]; rfl
 have fin:∀(T:List PV) (r:PV),T.length=n->(∀w∈T,iU w)->iU r->su (s:Nat) r=false->(∀w∈T.set a.toNat r,iU w)/\PK ss (T.set a.toNat r):=λT r hT fT fr hr=>⟨λx hx=>by
  rcases mem_set hx with h | rfl
  . exact fT x h
  . exact fr,.inr ⟨a.toNat,s,r,hsz,Y8 (by omega),hr⟩⟩
 let Hd:Option Lc:=zS v.pv;have g5:aP 5 (eB list1 (aa (aj 0) ao)) (E W A none none none)=some (.nx (E W A (zO V) none none)):=rfl;have g6:aP 6 (jk (aj 0) (aj 4)) (E W A (zO V) none none)=some (.nx (E W A (zO V) Hd none)):=by obtain⟨x,_,hx,e⟩:=Di (fa:=aj 0) (fb:=aj 4) (U:=E W A (zO V) none none) (U1:=E W A (zO V) none none) (U2:=E W A (zO V) none none) (l:=.sh (.lst V)) (ps:=V) (k:=a) rfl rfl rfl a0 (by omega);rw[hVa]at hx;cases hx;exact cP e rfl rfl
 have sti:∀(T:List PV) (r:PV) (fv:EF) (l:Lc) l7,T.length=n->fv (E W A (zO T) Hd l7)=some (l,E W A (zO T) Hd l7)->l.pv=r->uv 5 (aj 4) fv (E W A (zO T) Hd l7)=some (.nx (E W A (zO (T.set a.toNat r)) Hd l7)):=λT r fv l l7 hT hf hl=>R5 (ws0:=T) (ws:=T) (k:=a) (j:=a.toNat) (y:=.sh (.int a)) (U2:=E W A (zO T) Hd l7) hf hl rfl rfl rfl rfl (by rw[hT]; exact Wt a0 a1) rfl;have g7:=sti V q (aG il (aa (aj 2) ao)) (.sh q) none hV (bB (ls:=[.sh (.int c)]) (U1:=E W A (zO V) Hd none) rfl rfl rfl rfl (eq mu)) rfl;have l2:(V.set a.toNat q).length=n:=by rw[Zh]; exact hV
 cases v with
 | n i=>
  have s0:s=0:=by have:=sv.1; omega
  obtain⟨f1,f2⟩:=fin V q hV fV oq.fine (by rw[s0]; exact oq.no);exact⟨.own (.lst (V.set a.toNat q)),_,aW (U:=E W A none Hd none) (start _ (aD q0 (aD q1 (aD g5 (aD g6 (aD g7 (aD (U':=E W A (zO (V.set a.toNat q)) Hd none) ((dZ (d7 (l:=.sh (.bl false)) (ik (p:=.int i) rfl rfl rfl) rfl rfl)).trans rfl) rfl))))))),rfl,f1,f2⟩
 | l is=>
  obtain⟨v1,v2,v3,v4⟩:=sv;let hs':List PV:=is.map .int;have lh:hs'.length=is.length:=YQ ..;let b:Int:=c/9%(is.length:Int);have i0:(0:Int)<(is.length:Int):=by omega
  have b0:0<=b:=aaj _ (by omega);have b1:b<(is.length:Int):=aaf _ i0;let PL:Option Lc:=zI b;have tl:tT (fu "list" (aj 6)) eG (E W A (zO (V.set a.toNat q)) Hd none)=some (true,E W A (zO (V.set a.toNat q)) Hd none):=d7 (l:=.sh (.bl true)) (ik (p:=.lst hs') rfl rfl rfl) rfl rfl;have g8:aP 7 (aB bU (aB eU (aj 2) (acP 9)) (eQ (aj 6))) (E W A (zO (V.set a.toNat q)) Hd none)=some (.nx (E W A (zO (V.set a.toNat q)) Hd PL)):=by refine cP (U1:=E W A (zO (V.set a.toNat q)) Hd none) (aM (x:=.sh (.int (c/9))) (y:=.sh (.int (is.length:Nat))) (U1:=E W A (zO (V.set a.toNat q)) Hd none) (aM rfl rfl (jM (by decide) (by decide))) ?_ (cz i0)) rfl rfl;show some (Lc.sh (.int (hs'.length:Nat)),_)=_;rw[lh];rfl
  let F:=E W A (zO (V.set a.toNat q)) Hd PL;let X:List PV:=[.int 5,.non,.tup hs',.lst (hs'.drop 1),.lst (hs'++hs'.take 1)];have e3:dJ (aj 6) (b8 (acP 1)) cD F=some (.own (.lst (hs'.drop 1)),F):=by have:(1:Int).toNat=1:=rfl;rw[<-this,<-zG (ps:=hs') (a:=1) (by decide) (by omega)];exact pZ (l:=.sh (.lst hs')) (U1:=F) rfl rfl rfl rfl
  have e4:dJ (aj 6) cD (b8 (acP 1)) F=some (.own (.lst (hs'.take 1)),F):=by have:(1:Int).toNat=1:=rfl;rw[<-this,<-Dh (ps:=hs') (a:=1) (by decide) (by omega)];exact pZ (l:=.sh (.lst hs')) (U1:=F) rfl rfl rfl rfl
  have e5:aB bJ (aj 6) (dJ (aj 6) cD (b8 (acP 1))) F=some (.own (.lst (hs'++hs'.take 1)),F):=aM (x:=.sh (.lst hs')) (U1:=F) rfl e4 (add_l (by rw[Zq]; omega));have eX:aL (aa (acP 5) (aa (eC .non) (aa (Jf (aj 6)) (aa (dJ (aj 6) (b8 (acP 1)) cD) (aa (aB bJ (aj 6) (dJ (aj 6) cD (b8 (acP 1)))) ao))))) F=some (.own (.lst X),F):=yL (ls:=[.sh (.int 5),.sh .non,.sh (.tup hs'),.own (.lst (hs'.drop 1)),.own (.lst (hs'++hs'.take 1))]) (aH rfl (aH rfl (aH rfl (aH e3 (aH e5 rfl))))) rfl rfl;obtain⟨x,hx,_,ex⟩:=Di (fb:=aB bU (aj 2) (acP 5)) (U2:=F) (k:=c%5) eX rfl (aM rfl rfl (cz (by decide))) (by omega) (by show c%5<5; omega);have kk:∀q∈hs',Hs q=true:=λq hq=>by obtain⟨i,_,rfl⟩:=Zk.mp hq; rfl
  have s0:¬ ((s:Nat):Int)=0:=v2;have nx:∀ps:List PV,(ps.length:Int)≠s->su (s:Nat) (.lst ps)=false:=λps h=>by unfold su;rw[aa6 s0];show (decide ((ps.length:Int)=s)&&_)=false;rw[aa8 h,Bool.false_and]
  have hxx:iU x/\su (s:Nat) x=false:=by
   simp only[X,YM,ZC,or_false]at hx;rcases hx with rfl | rfl | rfl | rfl | rfl
   . exact⟨gW rfl λ_ e=>(by cases e),by unfold su; rw[aa6 s0]⟩
   . exact⟨gW rfl λ_ e=>(by cases e),by unfold su; rw[aa6 s0]⟩
   . exact⟨gW rfl λ_ e=>(by cases e),by unfold su; rw[aa6 s0]⟩
   . exact⟨nH (by rw[Zz]; omega) λq hq=>kk q (List.mem_of_mem_drop hq),nx _ (by rw[Zz]; omega)⟩
   . refine⟨nH (by rw[Y5,Zq]; omega) λq hq=>?_,nx _ (by rw[Y5,Zq]; omega)⟩;rcases ZF.mp hq with h | h
     . exact kk q h
     . exact kk q (List.mem_of_mem_take h)
  have g9:=sti (V.set a.toNat q) x _ (.sh x) PL l2 ex rfl;let T2:=(V.set a.toNat q).set a.toNat x;have lT2:T2.length=n:=by show ((V.set a.toNat q).set a.toNat x).length=n; rw[Zh]; exact l2
  obtain⟨f1,_⟩:(∀w∈V.set a.toNat q,iU w)/\True:=⟨λw hw=>by
   rcases mem_set hw with h | rfl
   . exact fV w h
   . exact oq.fine,trivial⟩
  obtain⟨f2,f3⟩:=fin (V.set a.toNat q) x l2 f1 hxx.1 hxx.2;let F2:=E W A (zO T2) Hd PL;have tg:tT (aB KC (aj 3) (acP 3)) cU F2=some (decide (3<w),F2):=d7 (l:=.sh (.bl (decide (3<w)))) (aM rfl rfl rfl) rfl rfl;by_cases h3:3<w
  . have k1:dJ (aj 6) cD (b8 (aj 7)) F2=some (.own (.lst (hs'.take b.toNat)),F2):=by rw[<-Dh b0 (by omega)];exact pZ (l:=.sh (.lst hs')) (U1:=F2) rfl rfl rfl rfl
    have k2:dJ (aj 6) (b8 (aB bJ (aj 7) (acP 1))) cD F2=some (.own (.lst (hs'.drop (b+1).toNat)),F2):=by rw[<-zG (by omega) (by omega)];exact pZ (l:=.sh (.lst hs')) (U1:=F2) rfl rfl (yo (aM rfl rfl (gP _ _)) rfl) rfl
    have k3:aL (aa (aG il (aa (aj 2) ao)) ao) F2=some (.own (.lst [q]),F2):=yL (ls:=[.sh q]) (aH (bB (ls:=[.sh (.int c)]) (U1:=F2) rfl rfl rfl rfl (eq mu)) rfl) rfl rfl;let z:List PV:=hs'.take b.toNat++[q]++hs'.drop (b+1).toNat;have k4:aB bJ (aB bJ (dJ (aj 6) cD (b8 (aj 7))) (aL (aa (aG il (aa (aj 2) ao)) ao))) (dJ (aj 6) (b8 (aB bJ (aj 7) (acP 1))) cD) F2=some (.own (.lst z),F2):=aM (aM k1 k3 (add_l (by rw[Zq]; simp; omega))) k2 (add_l (by rw[Y5,Zq,Zz]; simp; omega));have fz:iU (.lst z):=nH (by show (hs'.take b.toNat++[q]++hs'.drop (b+1).toNat).length<=1000; rw[Y5,Y5,Zq,Zz]; simp; omega) λy hy=>by
     rcases ZF.mp (show y∈hs'.take b.toNat++[q]++hs'.drop (b+1).toNat from hy) with h | h
     . rcases ZF.mp h with h | h
       . exact kk y (List.mem_of_mem_take h)
       . rw[Zw.mp h]; exact oq.fine.1
     . exact kk y (List.mem_of_mem_drop h)
    have bz:su (s:Nat) (.lst z)=false:=by
     unfold su;rw[aa6 s0];show (_&&z.all hb)=false;have:z.all hb=false:=by rw[List.all_eq_false];exact⟨q,ZV _ (Zn _ YK),by rw[oq.no]; decide⟩
     rw[this,Bool.and_false]
    obtain⟨f4,f5⟩:=fin T2 (.lst z) lT2 f2 fz bz;have g10:=sti T2 (.lst z) _ (.own (.lst z)) PL lT2 k4 rfl;exact⟨.own (.lst (T2.set a.toNat (.lst z))),_,aW (U:=E W A none Hd PL) (start _ (aD q0 (aD q1 (aD g5 (aD g6 (aD g7 (aD ((gh tl).trans (aD g8 (aD g9 ((gh (tg.trans (by rw[aa9 h3]))).trans g10)))) rfl))))))),rfl,f4,f5⟩
  . exact⟨.own (.lst T2),_,aW (U:=E W A none Hd PL) (start _ (aD q0 (aD q1 (aD g5 (aD g6 (aD g7 (aD ((gh tl).trans (aD g8 (aD (U':=F2) g9 ((dZ (tg.trans (by rw[aa8 h3]))).trans rfl)))) rfl))))))),rfl,f2,f3⟩
end
def sI:Nat->PV->Prop
 | 0,_=>False
 | _+1,.int _=>True
 | _+1,.str _=>True
 | n+1,.tup ps=>ps.length<=1000/\∀p∈ps,sI n p
 | n+1,.lst ps=>ps.length<=1000/\∀p∈ps,sI n p
 | _+1,_=>False
theorem BR {n:Nat} {X:PV} {ps:List PV} {mu:Mu} (k:Bool) (hX:X=uN k ps) (hl:ps.length<=1000) (ih:∀p∈ps,∀mu:Mu,cj n [p,p] mu=some (.sh (.bl true),mu)):cj (n+1) [X,X] mu=some (.sh (.bl true),mu):=by
 let E:Ev:=⟨[zS X,zS X],mu⟩;have t1:tT (Ou ["list", "tuple"] (aj 1)) eG E=some (true,E):=by subst hX;cases k<;>exact d7 (l:=.sh (.bl true)) rfl rfl rfl
 have t2:oM (tT (aB wZ (fu "list" (aj 0)) (fu "list" (aj 1))) cU) (tT (aB wZ (fu "tuple" (aj 0)) (fu "tuple" (aj 1))) cU) E=some (false,E):=by subst hX;cases k<;>exact yK (b:=false) (b2:=false) (d7 (l:=.sh (.bl false)) rfl rfl rfl) (d7 (l:=.sh (.bl false)) rfl rfl rfl)
 have ln:∀i:Nat,i<2->eB fK (aa (aj i) ao) E=some (.sh (.int (ps.length:Nat)),E):=λi hi=>by
  subst hX
  match i,hi with
  | 0,_=>cases k<;>rfl
  | 1,_=>cases k<;>rfl
 have e1:aB eqP (eB fK (aa (aj 0) ao)) (eB fK (aa (aj 1) ao)) E=some (.sh (.bl true),E):=oO (ln 0 (by decide)) rfl (ln 1 (by decide)) rfl (by show some (Lc.sh (.bl (((ps.length:Nat):Int)==((ps.length:Nat):Int))))=_; rw[abb]);have ix:∀(i:Nat) (p:PV),ps[i]?=some p->Bp X (.int (i:Nat))=zS p:=λi p hp=>by
  subst hX;cases k
  . show (gR ps (i:Nat)).map _=_;rw[oA hp];rfl
  . show (gR ps (i:Nat)).map _=_;rw[oA hp];rfl
 have np:∀m,X≠.ptr m:=λm h=>by subst hX;cases k<;>cases h
 have ec:=lW (b:=aJ 0) (te:=aG (cj n) (aa (bC (aj 1) (aj 0)) (aa (bC (aj 2) (aj 0)) ao))) (mu:=mu) (λU=>∃o,U=⟨[o,zS X,zS X],mu⟩) (λU ⟨o,e⟩=>by rw[e]) (λ_=>.bl true) (xs:=cQ ps.length) (U:=⟨[none,zS X,zS X],mu⟩) ⟨none,rfl⟩ (by rw[YQ,ZR]; omega) (by
  rintro p hp U ⟨o,rfl⟩;obtain⟨i,hi,rfl⟩:=Zk.mp hp;have hi:=List.mem_range.mp hi;have hp:=YT hi;refine⟨⟨[zI (i:Nat),zS X,zS X],mu⟩,rfl,.sh (.bl true),⟨[zI (i:Nat),zS X,zS X],mu⟩,bB (ls:=[.sh ps[i],.sh ps[i]]) (U1:=⟨[zI (i:Nat),zS X,zS X],mu⟩) (aH (rM (l:=.sh X) (m:=.sh (.int (i:Nat))) rfl rfl rfl rfl np (ix i _ hp)) (aH (rM (l:=.sh X) (m:=.sh (.int (i:Nat))) rfl rfl rfl rfl np (ix i _ hp)) rfl)) rfl rfl rfl (ih _ (List.getElem_mem hi) mu),rfl,_,rfl⟩) (by
  rintro p hp U U1 ⟨o,rfl⟩ e;cases e;exact⟨_,rfl⟩)
 have e2:dG (cZ (aa (eB fK (aa (aj 1) ao)) ao)) 1 [0,1] (aJ 0) dR (aG (cj n) (aa (bC (aj 1) (aj 0)) (aa (bC (aj 2) (aj 0)) ao))) E=some (.own (.lst ((cQ ps.length).map λ_=>.bl true)),E):=nW (f:=cZ (aa (eB fK (aa (aj 1) ao)) ao)) (m:=1) (ixs:=[0,1]) (U:=E) (U1:=E) (xs:=cQ ps.length) (tU (ln 1 (by decide)) (by omega)) ec;have e3:eB all1 (aa (dG (cZ (aa (eB fK (aa (aj 1) ao)) ao)) 1 [0,1] (aJ 0) dR (aG (cj n) (aa (bC (aj 1) (aj 0)) (aa (bC (aj 2) (aj 0)) ao)))) ao) E=some (.sh (.bl true),E):=pA (ls:=[.own (.lst ((cQ ps.length).map λ_=>.bl true))]) (aH e2 rfl) rfl (by show (boolsOf ((cQ ps.length).map λ_=>PV.bl true)).map _=_; rw[zx,aag,Fv]);exact aW (U:=E) (iz ((gh t1).trans (aD (U':=E) ((dZ t2).trans rfl) (cA (nG e1 e3)))))
theorem qF:∀{n:Nat} {X:PV},sI n X->∀mu:Mu,cj n [X,X] mu=some (.sh (.bl true),mu)
 | n+1,.int i,_,mu=>by
  let E:Ev:=⟨[zI i,zI i],mu⟩;have e:aB eqP (aj 0) (aj 1) E=some (.sh (.bl true),E):=oO rfl rfl rfl rfl (by show some (Lc.sh (.bl (i==i)))=_; rw[abb]);have nb:ph (fu "bool" (aj 0)) E=some (.sh (.bl true),E):=by unfold ph;rw[show fu "bool" (aj 0) E=some (.sh (.bl false),E) from ik (p:=.int i) rfl rfl rfl,YJ];rfl
  exact aW (U:=E) (aD (U':=E) ((dZ (d7 (l:=.sh (.bl false)) rfl rfl rfl)).trans rfl) (aD (U':=E) ((dZ (d7 (l:=.sh (.bl false)) rfl rfl rfl)).trans rfl) (aD (U':=E) ((dZ (d7 (l:=.sh (.bl false)) rfl rfl rfl)).trans rfl) (cA (nG (ik (p:=.int i) rfl rfl rfl) (nG nb e))))))
 | n+1,.str x,_,mu=>by let E:Ev:=⟨[zT x,zT x],mu⟩;have e:aB eqP (aj 0) (aj 1) E=some (.sh (.bl true),E):=oO rfl rfl rfl rfl (by show some (Lc.sh (.bl (x==x)))=_; rw[abb]);exact aW (U:=E) (aD (U':=E) ((dZ (d7 (l:=.sh (.bl false)) rfl rfl rfl)).trans rfl) (iz ((gh (d7 (l:=.sh (.bl true)) rfl rfl rfl)).trans (cA (nG (ik (p:=.str x) rfl rfl rfl) e)))))
 | n+1,.tup ps,h,mu=>BR false rfl h.1 λp hp mu=>qF (h.2 p hp) mu
 | n+1,.lst ps,h,mu=>BR true rfl h.1 λp hp mu=>qF (h.2 p hp) mu
theorem sI.up:∀{n m:Nat} {X:PV},n<=m->sI n X->sI m X
 | 0,_,_,_,h=>h.elim
 | n+1,m+1,.int _,_,_=>trivial
 | n+1,m+1,.str _,_,_=>trivial
 | n+1,m+1,.tup ps,hm,h=>⟨h.1,λp hp=>(h.2 p hp).up (by omega)⟩
 | n+1,m+1,.lst ps,hm,h=>⟨h.1,λp hp=>(h.2 p hp).up (by omega)⟩
 | n+1,0,_,hm,_=>by omega
theorem v5 {f:PV->PV->Option Bool}:∀{ps:List PV},(∀p∈ps,f p p=some true)->uo f ps ps=some true
 | [],_=>rfl
 | p::ps,h=>by show (f p p).bind _=_;rw[h p YK,YJ,v5 λq hq=>h q (Y6 _ hq)];rfl
theorem uJ:∀{n:Nat} {p:PV},sI n p->lQ n p p=some true
 | n+1,.int i,_=>by show some (i==i)=_; rw[abb]
 | n+1,.str x,_=>by show some (x==x)=_; rw[abb]
 | n+1,.tup ps,h=>by show (uo (lQ n) ps ps).map _=_;rw[v5 λq hq=>uJ (h.2 q hq),aag,abb];rfl
 | n+1,.lst ps,h=>by show (if ps.length=ps.length then uo (lQ n) ps ps else some false)=_;rw[aa5 rfl,v5 λq hq=>uJ (h.2 q hq)]
abbrev NM:List Str:=["a", "b", "ab", "ba", "c", "cab", "abc", "d", "da", "dd", "ddd", "e"]
abbrev DD (ss:List Nat):List (Str×Int):=NM.zip (ss.map λs=>((s:Nat):Int))
abbrev BB (bs:List BV):Bs:=NM.zip bs
theorem Hz {cf:Nat->Int}:∀{ss:List Nat} {k:Nat},(zF cf k ss).length=ss.length
 | [],_=>rfl
 | s::ss,k=>by show (zF cf (k+1) ss).length+1=_;rw[Hz];rfl
theorem Gb {cf:Nat->Int}:∀{ss:List Nat} {j:Nat},(∀s∈ss,s<=8)->∀(k s:Nat) (v:BV),ss[k]?=some s->(zF cf j ss)[k]?=some v->pR (s:Nat) v
 | [],j,_,k,s,v,h,_=>by simp at h
 | s0::ss,j,h8,0,s,v,h,e=>by cases h;cases e;exact Mp (h8 _ YK)
 | s0::ss,j,h8,k+1,s,v,h,e=>Gb (ss:=ss) (j:=j+1) (λs hs=>h8 s (Y6 _ hs)) k s v h e
theorem HB:∀{nm:List Str} {ss:List Nat} {bs:List BV},bs.length=ss.length->(∀(k s:Nat) (v:BV),ss[k]?=some s->bs[k]?=some v->pR (s:Nat) v)->sH (nm.zip (ss.map λs=>((s:Nat):Int))) (nm.zip bs)
 | [],_,_,_,_=>trivial
 | _::_,[],[],_,_=>trivial
 | _::_,[],_::_,h,_=>by simp at h
 | _::_,_::_,[],h,_=>by simp at h
 | x::nm,s::ss,v::bs,h,hs=>⟨rfl,hs 0 s v rfl rfl,HB (by simpa using h) λk s' v' h1 h2=>hs (k+1) s' v' h1 h2⟩
theorem HD {α β:Type}:∀{l:List α} {m:List β},List.Sublist ((l.zip m).map (·.1)) l
 | [],_=>aan _
 | _::_,[]=>List.nil_sublist _
 | a::l,b::m=>(HD (l:=l) (m:=m)).cons_cons a
theorem HF:∀{nm:List Str} {bs:List BV},bs.length<=nm.length->dI (nm.zip bs)=bs.map BV.pv
 | _,[],_=>by rw[List.zip_nil_right]; rfl
 | [],_::_,h=>by simp at h
 | x::nm,v::bs,h=>by have:=HF (nm:=nm) (bs:=bs) (by simpa using h);exact c2 rfl this
theorem HH {mu:Mu}:∀{nm:List Str} {bs:List BV} {ws:List PV},bs.length<=nm.length->Q9 mu bs ws->mV mu (nm.zip bs) ws
 | _,[],ws,_,h=>by rw[List.zip_nil_right]; exact h
 | [],_::_,_,h,_=>by simp at h
 | x::nm,v::bs,ws,h,⟨w,r,e,h1,h2⟩=>⟨w,r,e,h1,HH (by simpa using h) h2⟩
theorem Wu:∀{D:List (Str×Int)} {ws:List PV} (k:Nat) {q:Str×Int} {w:PV},D[k]?=some q->ws[k]?=some w->su q.2 w=false->yj D ws
 | [],_,k,_,_,h,_,_=>by simp at h
 | _::_,[],k,_,_,_,h,_=>by simp at h
 | q0::D,w0::ws,0,q,w,h1,h2,h=>by cases h1; cases h2; exact .inl h
 | q0::D,w0::ws,k+1,q,w,h1,h2,h=>.inr (Wu k h1 h2 h)
theorem Ms {ss:List Nat} (h:ss.length<=12):(DD ss).length=ss.length:=by rw[List.length_zip,YQ];show min 12 ss.length=_;omega
theorem Wv {ss:List Nat} {ws:List PV} (h12:ss.length<=12) (h:PK ss ws):vW (DD ss) ws:=by
 rcases h with h | ⟨k,s,w,h1,h2,h3⟩
 . exact .inl (by rw[Ms h12]; exact h)
 . have hk:=(YS.mp h1).1;have hn:k<NM.length:=by show k<12; omega
   refine .inr (Wu k (q:=(NM[k],(s:Int))) ?_ h2 h3);rw[List.getElem?_zip_eq_some];exact⟨YT hn,by rw[Zd,h1]; rfl⟩
theorem Ra {ss:List Nat}:∀q∈DD ss,gH q.1=true:=λq hq=>by
 have h:∀x∈NM,gH x=true:=by decide +kernel
 exact h q.1 (Z4 (show (q.1,q.2)∈_ from hq)).1
theorem Xk {ss:List Nat} {bs:List BV} {rs:List Rw} (hl:bs.length=ss.length) (h12:ss.length<=12) (hs:∀(k s:Nat) (v:BV),ss[k]?=some s->bs[k]?=some v->pR (s:Nat) v) (hr:rs.length<=400):Pr (DD ss) (BB bs) rs:=
 ⟨HB hl hs,List.Nodup.sublist HD (by decide +kernel),by rw[List.length_zip]; show min 12 bs.length<=100; omega,hr⟩
theorem PN {ss:List Nat} {bs:List BV} (hl:bs.length=ss.length) (h12:ss.length<=12) (hs:∀(k s:Nat) (v:BV),ss[k]?=some s->bs[k]?=some v->pR (s:Nat) v):sI 3 (.lst (o8 bs)):=by
 refine⟨by rw[YQ]; omega,λp hp=>?_⟩;obtain⟨v,hv,rfl⟩:=Zk.mp hp;obtain⟨k,hk⟩:=List.mem_iff_getElem?.mp hv;have hk':=(YS.mp hk).1;have:=hs k _ v (YT (show k<ss.length by omega)) hk;cases v with
 | n i=>exact trivial
 | l is=>
  refine⟨by rw[YQ]; have:=this.2.2.1; omega,λp hp=>?_⟩;obtain⟨i,_,rfl⟩:=Zk.mp hp;exact trivial
theorem Mt {L:List PV} {d:PV}:(List.range L.length).map (λi=>L[i]?.getD d)=L:=by refine List.ext_getElem (by rw[YQ,ZR]) λi h1 h2=>?_;rw[List.getElem_map,List.getElem_range,YT h2];rfl
abbrev LE (N:PV) (l1 l2 l3 l4 l5 l6 l7 l8 l9 l10:Option Lc) (mu:Mu):Ev:=⟨[zS N,l1,l2,l3,l4,l5,l6,l7,l8,l9,l10],mu⟩
abbrev XC:EF:=dG (cZ (aa (eQ (aj 1)) ao)) 1 [3,1] (aJ 0) dR (cN (aa (jk (aj 1) (aj 0)) (aa (jk (aj 2) (aj 0)) (aa (eC .non) ao))))
theorem Xl {N:PV} {ss:List Nat} {l2:Option Lc} {mu:Mu} (h12:ss.length<=12):XC (LE N (zO (SI ss)) l2 (zO (NM.map .str)) none none none none none none none mu)=some (.own (.lst (dcl (DD ss))),LE N (zL (SI ss)) l2 (zL (NM.map .str)) none none none none none none none mu):=by
 let f:PV->PV:=λp=>match p with
  | .int j=>(dcl (DD ss))[j.toNat]?.getD .non
  | p=>p
 let Q:=λo=>(⟨[o,zL (NM.map .str),zL (SI ss)],mu⟩:Ev);have ec:=lW (b:=aJ 0) (te:=cN (aa (jk (aj 1) (aj 0)) (aa (jk (aj 2) (aj 0)) (aa (eC .non) ao)))) (mu:=mu) (λU=>∃o,U=Q o) (λU ⟨o,e⟩=>by rw[e]) f (xs:=cQ ss.length) (U:=Q none) ⟨none,rfl⟩ (by rw[YQ,ZR]; omega) (by
  rintro p hp U ⟨o,rfl⟩;obtain⟨j,hj,rfl⟩:=Zk.mp hp;have hj:=List.mem_range.mp hj;have hn:j<NM.length:=by show j<12; omega
  let E:=Q (zI (j:Nat));have e1:jk (aj 1) (aj 0) E=some (.sh (.str NM[j]),E):=zE (p:=.lst (NM.map .str)) (m:=.sh (.int (j:Nat))) rfl rfl rfl rfl vX (by show (gR (NM.map PV.str) (j:Nat)).map _=_; rw[oA (p:=.str NM[j]) (by rw[Zd,YT hn]; rfl)]; rfl);have e2:jk (aj 2) (aj 0) E=some (.sh (.int (ss[j]:Nat)),E):=zE (p:=.lst (SI ss)) (m:=.sh (.int (j:Nat))) rfl rfl rfl rfl vX (by show (gR (SI ss) (j:Nat)).map _=_; rw[oA (p:=.int (ss[j]:Nat)) (by rw[Zd,YT hj]; rfl)]; rfl);refine⟨E,rfl,.sh (.tup [.str NM[j],.int (ss[j]:Nat),.non]),E,pX (ls:=[.sh (.str NM[j]),.sh (.int (ss[j]:Nat)),.sh .non]) (aH e1 (aH e2 rfl)) rfl rfl,?_,_,rfl⟩;show _=(dcl (DD ss))[j]?.getD .non;rw[Zd,show (DD ss)[j]?=some (NM[j],((ss[j]:Nat):Int)) from by rw[List.getElem?_zip_eq_some];exact⟨YT hn,by rw[Zd,YT hj]; rfl⟩]
  rfl) (by
  rintro p hp U U1 ⟨o,rfl⟩ e;cases e;exact⟨_,rfl⟩)
 have ef:(cQ ss.length).map f=dcl (DD ss):=by
  have hl:(dcl (DD ss)).length=ss.length:=by rw[YQ,Ms h12]
  have:=Mt (L:=dcl (DD ss)) (d:=.non);rw[hl]at this;rw[ZZ];exact this
 rw[ef]at ec;have er:cZ (aa (eQ (aj 1)) ao) (LE N (zO (SI ss)) l2 (zO (NM.map .str)) none none none none none none none mu)=some (cQ ss.length,LE N (zL (SI ss)) l2 (zO (NM.map .str)) none none none none none none none mu):=by refine tU ?_ (by omega);show some (Lc.sh (.int ((SI ss).length:Nat)),_)=_;rw[YQ];rfl
 exact nW (f:=cZ (aa (eQ (aj 1)) ao)) (m:=1) (ixs:=[3,1]) er ec
abbrev Mv (m:Nat):List Rw:=List.replicate m .i
theorem Ww:∀{m:Nat},m<4->(List.replicate m [vR]).flatten=(Mv m).map Rw.pv
 | 0,_=>rfl
 | 1,_=>rfl
 | 2,_=>rfl
 | 3,_=>rfl
 | m+4,h=>by omega
abbrev Wx:EF:=aB bJ (dG (cZ (aa (eQ (aj 2)) ao)) 1 [] (aJ 0) dR (cN (aa (aj 0) (aa (acP 0) (aa (aL ao) ao))))) (dJ (dG (cZ (aa (eQ (aj 2)) ao)) 1 [] (aJ 0) dR (cN (aa (aj 0) (aa (acP 3) (aa (aL ao) ao))))) (b8 (sG (acP 1))) cD)
section
variable {N:PV} {l1 l3 l4 l5 l6 l7 l8 l9 l10:Option Lc} {mu:Mu}
theorem Xm:∀{m:Nat},m<4->Wx (LE N l1 (zL ((Mv m).map Rw.pv)) l3 l4 l5 l6 l7 l8 l9 l10 mu)=some (.own (.lst (ir (Mv m))),LE N l1 (zL ((Mv m).map Rw.pv)) l3 l4 l5 l6 l7 l8 l9 l10 mu)
 | 0,_=>rfl
 | 1,_=>rfl
 | 2,_=>rfl
 | 3,_=>rfl
 | m+4,h=>by omega
end
def Mw (mu:Mu) (b:Nat) (w:PV):Prop:=(∃i,w=.int i)\/∃(c:Nat) (ps:List PV),w=.ptr c/\mu[c]?=some (some (.lst ps))/\ps.length<=b
theorem Mw.set {mu:Mu} {b c:Nat} {ps:List PV} {w:PV} (h:Mw mu b w) (hp:ps.length<=b+1):Mw (mu.set c (some (.lst ps))) (b+1) w:=by
 rcases h with h | ⟨d,qs,e,h1,h2⟩
 . exact .inl h
 . by_cases hd:d=c
   . exact .inr ⟨d,ps,e,by rw[hd]; exact Y8 (by rw[<-hd]; exact mU h1),hp⟩
   . exact .inr ⟨d,qs,e,by rw[Zc (Ne.symm hd)]; exact h1,by omega⟩
abbrev XF:SF:=dw (nA (tT (j4 (fu "list" (aj 9))) eG)) (pN (aj 9) (acP 1)) cG
theorem Ay {N:PV} {l1 l2 l3 l4 l5 l6 l7 l8 l10:Option Lc}:∀(ws:List PV) (b:Nat) (l9:Option Lc) (mu:Mu),(∀w∈ws,Mw mu b w)->b+ws.length<=1000->∃p9 mu',jO (aJ 9) XF ws (LE N l1 l2 l3 l4 l5 l6 l7 l8 l9 l10 mu)=some (.nx (LE N l1 l2 l3 l4 l5 l6 l7 l8 p9 l10 mu'))
 | [],b,l9,mu,_,_=>⟨l9,mu,rfl⟩
 | w::ws,b,l9,mu,h,hl=>by
  simp only[YX]at hl;let E:=λmu=>LE N l1 l2 l3 l4 l5 l6 l7 l8 (zS w) l10 mu;rcases h w YK with ⟨i,rfl⟩ | ⟨c,ps,rfl,hm,hp⟩
  . obtain⟨p9,mu',e⟩:=Ay (N:=N) (l1:=l1) (l2:=l2) (l3:=l3) (l4:=l4) (l5:=l5) (l6:=l6) (l7:=l7) (l8:=l8) (l10:=l10) ws b (zI i) mu (λq hq=>h q (Y6 _ hq)) (by omega);exact⟨p9,mu',gn (U1:=E mu) (U2:=E mu) rfl ((dZ (FQ (U:=E mu) (i:=9) (w:=.int i) rfl rfl)).trans rfl) e⟩
  . obtain⟨p9,mu',e⟩:=Ay (N:=N) (l1:=l1) (l2:=l2) (l3:=l3) (l4:=l4) (l5:=l5) (l6:=l6) (l7:=l7) (l8:=l8) (l10:=l10) ws (b+1) (zS (.ptr c)) (mu.set c (some (.lst (ps++[.int 1])))) (λq hq=>(h q (Y6 _ hq)).set (by rw[Y5]; show ps.length+1<=_; omega)) (by omega);refine⟨p9,mu',gn (U1:=E mu) (U2:=E (mu.set c (some (.lst (ps++[.int 1]))))) rfl ((gh (FQ (U:=E mu) (i:=9) (w:=.ptr c) rfl ?_)).trans (tM (o:=.sh (.ptr c)) (U1:=E mu) (U2:=E mu) (y:=.sh (.int 1)) (ws0:=ps) (ws:=ps) (p:=.int 1) rfl rfl hm rfl rfl hm (by omega) rfl)) e⟩;show pq (bK _ 40 (bK mu 40 (.ptr c))) "list" = _;rw[An hm];rfl
theorem HJ {rs:List Rw} {mu:Mu} {k:Nat}:bK mu (k+4) (.lst (ir rs))=.lst (ir rs):=by show PV.lst ((ir rs).map (bK mu (k+3)))=_;congr 1;refine Eq.trans (aab λp hp=>?_) (List.map_id _);obtain⟨a,b,rfl⟩:=yh hp;rfl
theorem PP {rs:List Rw} (h:(ir rs).length<=1000):sI 40 (.lst (ir rs)):=by
 refine⟨h,λp hp=>?_⟩;obtain⟨a,b,rfl⟩:=yh hp;refine⟨by show (3:Nat)<=1000; decide,λp hp=>?_⟩;simp only[YM,ZC,or_false]at hp;rcases hp with rfl | rfl | rfl
 . exact trivial
 . exact trivial
 . exact⟨by show (0:Nat)<=1000; decide,λq hq=>by cases hq⟩
theorem Jw {f g:TF} {U U1 U2:Ev} (h1:f U=some (false,U1)) (h2:g U1=some (false,U2)):oM f g U=some (false,U2):=by unfold oM;rw[h1,YJ];exact h2
theorem law_true (ns:List Int) (hn:ns.length<=63):∃mu,Jj [.lst (ns.map PV.int)] []=some (.sh (.bl true),mu):=by
 obtain⟨cf,C⟩:=Pz hn;have C':CF ns cf:=C;obtain⟨c00,c01,ec0⟩:=C 0 (by decide);obtain⟨ss,h12,h8,esz⟩:=PB c00 c01 ec0;let bs:=zF cf 0 ss;have hl:bs.length=ss.length:=Hz;have hsu:∀(k s:Nat) (v:BV),ss[k]?=some s->bs[k]?=some v->pR (s:Nat) v:=Gb h8;obtain⟨c30,c31,ec13⟩:=C 13 (by decide);obtain⟨m,hm⟩:∃m:Nat,cf 13%4=(m:Int):=⟨(cf 13%4).toNat,by omega⟩;have hm4:m<4:=by omega
 let rs:=Mv m;have hrl:rs.length=m:=List.length_replicate ..;have H:Pr (DD ss) (BB bs) rs:=Xk hl h12 hsu (by omega);obtain⟨c40,c41,ec14⟩:=C 14 (by decide);obtain⟨c50,c51,ec15⟩:=C 15 (by decide);obtain⟨c60,c61,ec16⟩:=C 16 (by decide);have hb12:bs.length<=NM.length:=by show bs.length<=12; omega
 have evl:dI (BB bs)=o8 bs:=HF hb12;let N:PV:=.lst (ns.map .int);let P:PV:=rz (.lst (dcl (DD ss))) (.lst []) rs;let L:=λl1 l2 l3 l4 l5 l6 l7 l8 l9 l10 mu=>LE N l1 l2 l3 l4 l5 l6 l7 l8 l9 l10 mu;let S0:Option Lc:=zO (SI ss);let S1:Option Lc:=zL (SI ss);let R0:Option Lc:=zO (rs.map Rw.pv);let R1:Option Lc:=zL (rs.map Rw.pv);let M0:Option Lc:=zO (NM.map .str);let M1:Option Lc:=zL (NM.map .str);let Pq:Option Lc:=zS P;let V0:Option Lc:=zO (o8 bs);let V1:Option Lc:=zL (o8 bs);have s1:aP 1 (aG mz (aa (aj 0) ao)) (L none none none none none none none none none none [])=some (.nx (L S0 none none none none none none none none none [])):=cP (bB (ls:=[.sh N]) (U1:=L none none none none none none none none none none []) rfl rfl rfl rfl (esz [])) rfl rfl;have s2:aP 2 (IV (aL (aa (cN (aa (acQ "if") (aa (cN (aa (acQ "num") (aa (acP 0) ao))) (aa (aL ao) (aa (aL ao) ao))))) ao)) (aB bU (aG bD (aa (aj 0) (aa (acP 13) ao))) (acP 4))) (L S0 none none none none none none none none none [])=some (.nx (L S0 R0 none none none none none none none none [])):=by
  let E:=L S0 none none none none none none none none none [];have e1:aB bU (aG bD (aa (aj 0) (aa (acP 13) ao))) (acP 4) E=some (.sh (.int (m:Nat)),E):=by rw[<-hm];exact aM (x:=.sh (.int (cf 13))) (U1:=E) (bB (ls:=[.sh N,.sh (.int 13)]) (U1:=E) rfl rfl rfl rfl (ec13 [])) rfl (cz (by decide))
  refine cP (l:=.own (.lst (rs.map Rw.pv))) (U1:=E) ?_ rfl rfl;unfold IV;rw[show aL (aa (cN (aa (acQ "if") (aa (cN (aa (acQ "num") (aa (acP 0) ao))) (aa (aL ao) (aa (aL ao) ao))))) ao) E=some (.own (.lst [vR]),E) from rfl,YJ];dsimp only;rw[e1,YJ];show (if (0:Int)<=(m:Nat)/\((m:Nat):Int)<=100000/\[vR].length*((m:Nat):Int).toNat<=100000 then some (Lc.own (.lst (List.replicate ((m:Nat):Int).toNat [vR]).flatten),E) else none)=_;rw[aa5 ⟨by omega,by omega,by show 1*((m:Nat):Int).toNat<=100000; omega⟩,aaE,Ww hm4]
 have s3:aP 3 (aL (aa (acQ "a") (aa (acQ "b") (aa (acQ "ab") (aa (acQ "ba") (aa (acQ "c") (aa (acQ "cab") (aa (acQ "abc") (aa (acQ "d") (aa (acQ "da") (aa (acQ "dd") (aa (acQ "ddd") (aa (acQ "e") ao))))))))))))) (L S0 R0 none none none none none none none none [])=some (.nx (L S0 R0 M0 none none none none none none none [])):=rfl;have s4:aP 4 (cN (aa XC (aa (aL ao) (aa (aL ao) (aa (aj 2) ao))))) (L S0 R0 M0 none none none none none none none [])=some (.nx (L S1 R1 M1 Pq none none none none none none [])):=
  cP (l:=.sh P) (U1:=L S1 R1 M1 none none none none none none none []) (pX (ls:=[.own (.lst (dcl (DD ss))),.own (.lst []),.own (.lst []),.sh (.lst (rs.map Rw.pv))]) (aH (Xl h12) (aH rfl (aH rfl (aH rfl rfl)))) rfl rfl) rfl rfl
 have s5:aP 5 (aG j7 (aa (aj 0) (aa (aj 1) ao))) (L S1 R1 M1 Pq none none none none none none [])=some (.nx (L S1 R1 M1 Pq V0 none none none none none [])):=cP (bB (ls:=[.sh N,.sh (.lst (SI ss))]) (U1:=L S1 R1 M1 Pq none none none none none none []) rfl rfl rfl rfl (Mq C' (by omega) h8 [])) rfl rfl;obtain⟨lw,ws,ew,hlw,fw,bw⟩:=Jv (mu:=[]) c40 c50 hl h12 hsu;have bad:=Wv h12 bw;let W0:Option Lc:=some lw;let W1:Option Lc:=zL ws;let E5:=L S1 R1 M1 Pq V1 none none none none none [];have cell:∀(k:Nat) (l1 l2 l3 l4 l5 l6 l7 l8 l9 l10:Option Lc) (mu:Mu) (c:Int),(∀mu:Mu,bD [N,.int (k:Nat)] mu=some (.sh (.int c),mu))->aG bD (aa (aj 0) (aa (eC (.int (k:Nat))) ao)) (L l1 l2 l3 l4 l5 l6 l7 l8 l9 l10 mu)=some (.sh (.int c),L l1 l2 l3 l4 l5 l6 l7 l8 l9 l10 mu):=λk l1 l2 l3 l4 l5 l6 l7 l8 l9 l10 mu c h=>bB (ls:=[.sh N,.sh (.int (k:Nat))]) (U1:=L l1 l2 l3 l4 l5 l6 l7 l8 l9 l10 mu) rfl rfl rfl rfl (h mu);have s6:aP 6 (aG iI (aa (aj 5) (aa (aG bD (aa (aj 0) (aa (acP 14) ao))) (aa (aG bD (aa (aj 0) (aa (acP 15) ao))) ao)))) (L S1 R1 M1 Pq V0 none none none none none [])=some (.nx (L S1 R1 M1 Pq V1 W0 none none none none [])):=
  cP (bB (ls:=[.sh (.lst (o8 bs)),.sh (.int (cf 14)),.sh (.int (cf 15))]) (U1:=E5) (aH (U1:=E5) rfl (aH (cell 14 _ _ _ _ _ _ _ _ _ _ _ _ ec14) (aH (cell 15 _ _ _ _ _ _ _ _ _ _ _ _ ec15) rfl))) rfl rfl rfl ew) rfl rfl
 have v6:∀l6 l7 l8 l9 l10 mu (l:Lc),l6=some l->l.pv=.lst ws->aj 6 (L S1 R1 M1 Pq V1 l6 l7 l8 l9 l10 mu)=some (.sh (.lst ws),L S1 R1 M1 Pq V1 W1 l7 l8 l9 l10 mu):=λl6 l7 l8 l9 l10 mu l e h=>by subst e;show some (Lc.sh l.pv,L S1 R1 M1 Pq V1 (zS l.pv) l7 l8 l9 l10 mu)=_;rw[h]
 have rf:∀(x:Str) (l6:Option Lc) (l:Lc),isF x->l6=some l->l.pv=.lst ws->gf (tT (aG iJ (aa (eC (.fn x)) (aa (aj 4) (aa (aj 6) ao)))) eG) (L S1 R1 M1 Pq V1 l6 none none none none [])=some (false,L S1 R1 M1 Pq V1 W1 none none none none []):=λx l6 l hx e h=>pW (b:=true) (d7 (l:=.sh (.bl true)) (bB (ls:=[.sh (.fn x),.sh P,.sh (.lst ws)]) (U1:=L S1 R1 M1 Pq V1 W1 none none none none []) (aH rfl (aH rfl (aH (v6 l6 none none none none [] l e h) rfl))) rfl rfl rfl (Jr hx Ra fw bad)) rfl rfl);have bf:∀(x:Str),isF x->gf (tT (aG jK (aa (eC (.fn x)) (aa (aj 4) (aa (aj 6) ao)))) eG) (L S1 R1 M1 Pq V1 W1 none none none none [])=some (false,L S1 R1 M1 Pq V1 W1 none none none none []):=λx hx=>pW (b:=true) (d7 (l:=.sh (.bl true)) (bB (ls:=[.sh (.fn x),.sh P,.sh (.lst ws)]) (U1:=L S1 R1 M1 Pq V1 W1 none none none none []) (aH rfl (aH rfl (aH rfl rfl))) rfl rfl rfl (Py hx Ra fw bad)) rfl rfl);have t7:=Jw (rf "run" W0 lw (.inl rfl) rfl hlw) (rf "traced" W1 (.sh (.lst ws)) (.inr rfl) rfl rfl);have t8:=Jw (bf "run" (.inl rfl)) (bf "traced" (.inr rfl));obtain⟨as,t,eas,has,hca⟩:=Ju C' (by omega) h8 [];have hva:mV ([]++t) (BB bs) as:=HH hb12 has;let A0:Option Lc:=zO as;let A1:Option Lc:=zL as;have s9:aP 7 (aG iT (aa (aj 0) (aa (aj 1) ao))) (L S1 R1 M1 Pq V1 W1 none none none none [])=some (.nx (L S1 R1 M1 Pq V1 W1 A0 none none none ([]++t))):=cP (bB (ls:=[.sh N,.sh (.lst (SI ss))]) (U1:=L S1 R1 M1 Pq V1 W1 none none none none []) rfl rfl rfl rfl eas) rfl rfl;let bu:Int:=cf 16%21;obtain⟨mu2,er,lr,fr⟩:=Wl (gr:=.lst []) (bu:=bu) H hva;rw[evl]at er;let got:PV:=.tup [.str "done",.lst [],.lst (o8 bs)];let G:Option Lc:=zS got;have s10:aP 8 (aG yZ (aa (aj 4) (aa (aj 7) (aa (aB bU (aG bD (aa (aj 0) (aa (acP 16) ao))) (acP 21)) ao)))) (L S1 R1 M1 Pq V1 W1 A0 none none none ([]++t))=some (.nx (L S1 R1 M1 Pq V1 W1 A1 G none none mu2)):=
  cP (bB (ls:=[.sh P,.sh (.lst as),.sh (.int bu)]) (U1:=L S1 R1 M1 Pq V1 W1 A1 none none none ([]++t)) (aH rfl (aH rfl (aH (aM (x:=.sh (.int (cf 16))) (U1:=L S1 R1 M1 Pq V1 W1 A1 none none none ([]++t)) (cell 16 _ _ _ _ _ _ _ _ _ _ _ _ ec16) rfl (cz (by decide))) rfl))) rfl rfl rfl er) rfl rfl
 have hv2:mV mu2 (BB bs) as:=hva.frame fr;have ng:=PN hl h12 hsu;have ngot:∀k,4<=k->sI k got:=λk hk=>by
  obtain⟨j,rfl⟩:∃j,k=j+1:=⟨k-1,by omega⟩;refine⟨by show (3:Nat)<=1000; decide,λp hp=>?_⟩;simp only[YM,ZC,or_false]at hp;obtain⟨i,rfl⟩:∃i,j=i+1:=⟨j-1,by omega⟩;rcases hp with rfl | rfl | rfl
  . exact trivial
  . exact⟨by show (0:Nat)<=1000; decide,λq hq=>by cases hq⟩
  . exact ng.up (by omega)
 let E8:=L S1 R1 M1 Pq V1 W1 A1 G none none mu2;have t11a:gf (tT (aG (cj 40) (aa (aj 8) (aa (cN (aa (acQ "done") (aa (aL ao) (aa (aj 5) ao)))) ao))) eG) E8=some (false,E8):=pW (b:=true) (d7 (l:=.sh (.bl true)) (bB (ls:=[.sh got,.sh got]) (U1:=E8) (aH rfl (aH rfl rfl)) rfl rfl rfl (qF (ngot 40 (by decide)) mu2)) rfl rfl);have t11b:nA (tT (aB K6 (aj 7) (aj 5)) cU) E8=some (false,E8):=by
  have r7:bK mu2 40 (.lst as)=.lst (o8 bs):=by show PV.lst (as.map (bK mu2 39))=_;rw[hv2.res,evl]
  have r5:bK mu2 40 (.lst (o8 bs))=.lst (o8 bs):=by show PV.lst ((o8 bs).map (bK mu2 39))=_;rw[ZZ];exact congrArg PV.lst (aab λv _=>FP 39)
  unfold nA;rw[d7 (l:=.sh (.bl false)) (U1:=E8.peekD) (oO (l:=.sh (bK mu2 40 (.lst as))) (m:=.sh (bK mu2 40 (.lst (o8 bs)))) (U1:=E8.peekD) rfl rfl rfl rfl ?_) rfl rfl]
  . rfl
  . show K6 (bK mu2 40 (.lst as)) (bK mu2 40 (.lst (o8 bs)))=_;rw[r7,r5];show (lQ 150 (.lst (o8 bs)) (.lst (o8 bs))).map _=_;rw[uJ (ng.up (by decide))];rfl
 have t11:=Jw t11a t11b;have hcel:∀w∈as,Mw mu2 8 w:=λw hw=>by
  rcases hca w hw with h | ⟨c,is,e,h⟩
  . exact .inl h
  . have hc:=mU h;have h2:mu2[c]?=some (some (.lst (is.map .int))):=(fr c hc).trans h;obtain⟨k,hk⟩:=List.mem_iff_getElem?.mp hw;have key:∀(B:Bs) (ws:List PV) (k:Nat) (w:PV),mV mu2 B ws->(∀q∈B,∀is,q.2=.l is->is.length<=8)->ws[k]?=some w->∀c,w=.ptr c->∃is:List Int,mu2[c]?=some (some (.lst (is.map .int)))/\is.length<=8:=λB=>by
     induction B with
     | nil=>
      intro ws k w h _ hk;have h:ws=[]:=h;subst h;simp at hk
     | cons q B ih=>
      rintro ws k w ⟨w0,r,rfl,h1,h2⟩ hB hk c e;cases k with
      | succ k=>exact ih r k w h2 (λq hq=>hB q (Y6 _ hq)) hk c e
      | zero=>
       cases hk;rcases h1 with h1 | ⟨c',js,e1,e2,e3⟩
       . rw[e]at h1;cases hv:q.2 with
         | n i=>rw[hv]at h1; cases h1
         | l js=>rw[hv]at h1; cases h1
       . rw[e]at e2;cases e2;exact⟨js,e3,hB q YK js e1⟩
    obtain⟨js,e3,e4⟩:=key (BB bs) as k w hv2 (λq hq js hj=>by have hq2:=(Z4 (show (q.1,q.2)∈_ from hq)).2;obtain⟨i,hi⟩:=List.mem_iff_getElem?.mp hq2;have hi':=(YS.mp hi).1;have:=hsu i _ q.2 (YT (show i<ss.length by omega)) hi;rw[hj]at this;exact this.2.2.1) hk c e
    exact .inr ⟨c,js.map .int,e,e3,by rw[YQ]; exact e4⟩
 have hal:as.length<=12:=by rw[hva.len,List.length_zip]; show min 12 bs.length<=12; omega
 obtain⟨p9,mu3,ea⟩:=Ay (N:=N) (l1:=S1) (l2:=R1) (l3:=M1) (l4:=Pq) (l5:=V1) (l6:=W1) (l7:=A1) (l8:=G) (l10:=none) as 8 none mu2 hcel (by omega);have s12:jP (jL (aj 7) fP) (aJ 9) XF E8=some (.nx (L S1 R1 M1 Pq V1 W1 A1 G p9 none mu3)):=jC (yJ (l:=.sh (.lst as)) (U1:=E8) rfl rfl) ea;have s13:aP 10 Wx (L S1 R1 M1 Pq V1 W1 A1 G p9 none mu3)=some (.nx (L S1 R1 M1 Pq V1 W1 A1 G p9 (zO (ir rs)) mu3)):=cP (Xm hm4) rfl rfl;obtain⟨mu4,n,et,hn4⟩:=Ml (gr:=.lst []) (bu:=0) (mu:=mu3) H (mV.self (B:=BB bs));rw[evl]at et;let O0:Option Lc:=zO (ir rs);let O1_:Option Lc:=zL (ir rs);have lo:(ir rs).length<=1000:=by
  unfold ir;split
  . exact Z8 _
  . rw[Fw]; omega
 have e1:aB lE (aj 8) (cN (aa (acQ "done") (aa (aL ao) (aa (aj 5) ao)))) (L S1 R1 M1 Pq V1 W1 A1 G p9 O0 mu3)=some (.sh (.bl true),L S1 R1 M1 Pq V1 W1 A1 G p9 O0 mu3):=by refine aM (x:=.sh got) (y:=.sh got) (U1:=L S1 R1 M1 Pq V1 W1 A1 G p9 O0 mu3) rfl rfl ?_;show (lQ 150 got got).map _=_;rw[uJ (ngot 150 (by decide))];rfl
 have e2:qW (cj 40) (aa (aG pK (aa (aj 4) (aa (aj 5) (aa (acP 0) ao)))) (aa (aj 10) ao)) (L S1 R1 M1 Pq V1 W1 A1 G p9 O0 mu3)=some (.sh (.bl true),L S1 R1 M1 Pq V1 W1 A1 G p9 O1_ mu4):=by refine Ow (ls:=[.sh (.ptr n),.sh (.lst (ir rs))]) (ps:=[.lst (ir rs),.lst (ir rs)]) (U1:=L S1 R1 M1 Pq V1 W1 A1 G p9 O1_ mu4) (aH (bB (ls:=[.sh P,.sh (.lst (o8 bs)),.sh (.int 0)]) (U1:=L S1 R1 M1 Pq V1 W1 A1 G p9 O0 mu3) rfl rfl rfl rfl et) rfl) ?_ (qF (PP lo) _) rfl;show [bK mu4 40 (.ptr n),bK mu4 40 (.lst (ir rs))]=_;rw[An hn4,HJ,HJ]
 have e3:iR (aB lE (aj 8) (cN (aa (acQ "done") (aa (aL ao) (aa (aj 5) ao))))) (qW (cj 40) (aa (aG pK (aa (aj 4) (aa (aj 5) (aa (acP 0) ao)))) (aa (aj 10) ao))) (L S1 R1 M1 Pq V1 W1 A1 G p9 O0 mu3)=some (.sh (.bl true),L S1 R1 M1 Pq V1 W1 A1 G p9 O1_ mu4):=by unfold iR;rw[e1,YJ];exact e2
 exact⟨mu4,aW (U:=L S1 R1 M1 Pq V1 W1 A1 G p9 O1_ mu4) (aD s1 (aD s2 (aD s3 (aD s4 (aD s5 (aD s6 (aD (U':=L S1 R1 M1 Pq V1 W1 none none none none []) ((dZ t7).trans rfl) (aD (U':=L S1 R1 M1 Pq V1 W1 none none none none []) ((dZ t8).trans rfl) (aD s9 (aD s10 (aD (U':=E8) ((dZ t11).trans rfl) (aD s12 (aD s13 (cA e3))))))))))))))⟩
end
theorem j8 {K:FG} {h:Heap} {mg:Str->Option Value} {x:Str} {st:Stmt} {ps:List Str} {f:Addr} {oc kV doc pm cdv ct:Value} {od an:Option Addr} {osl:Array (Option Value)} (X:K.In h) (G:h.Ns mainGlobals mg) (a:W.nsIn K mainGlobals x=some (some (.ref f))) (l:K.lookup f=some ⟨oc,od,.func (W.fnOf x x (aX st) (aR st) (au st) .none kV doc pm an cdv ct),osl⟩) (c:W.codeIn K cdv x=true) (k:W.keepIn K (.ref f)=true)
 (hb:∀(kV doc pm:Value) (an:Option Addr) (cdv ct:Value) (us:List Value),us.length=ps.length->bindArgs (W.fnOf x x (aX st) (aR st) (au st) .none kV doc pm an cdv ct) ⟨us,[]⟩=pure (ps.zip us)):aV K mg x st ps:=⟨_,_,du l c k,W.mg_of X G a,(du l c k).binds hb⟩
theorem all_mk {l:W.OpenLaw} {w:World} {K:FG} {h:Heap} {mg:Str->Option Value} {fa f1 f2 f3 f4 f5 f6 f7 f8 f9 f10 f11 f12 f13 f14 f15 f16 f17 f18 f19 f20 f21 f22 f23 f24 f25 f26 f27 f28 f29 f30 f31 f32 f33 f34 f35 f36:Addr} {tk_LIMIT:Tok} (X:K.In h) (G:h.Ns mainGlobals mg) (hfa:mg "law" = some (.ref fa))
 {od1 an1 od2 an2 od3 an3 od4 an4 od5 an5 od6 an6 od7 an7 od8 an8 od9 an9 od10 an10 od11 an11 od12 an12 od13 an13 od14 an14 od15 an15 od16 an16 od17 an17 od18 an18 od19 an19 od20 an20 od21 an21 od22 an22 od23 an23 od24 an24 od25 an25 od26 an26 od27 an27 od28 an28 od29 an29 od30 an30 od31 an31 od32 an32 od33 an33 od34 an34 od35 an35 od36 an36:Option Addr} {sl1 sl2 sl3 sl4 sl5 sl6 sl7 sl8 sl9 sl10 sl11 sl12 sl13 sl14 sl15 sl16 sl17 sl18 sl19 sl20 sl21 sl22 sl23 sl24 sl25 sl26 sl27 sl28 sl29 sl30 sl31 sl32 sl33 sl34 sl35 sl36:Array (Option Value)} {oc1 kV1 dc1 pm1 cd1 ct1 oc2 kV2 dc2 pm2 cd2 ct2 oc3 kV3 dc3 pm3 cd3 ct3 oc4 kV4 dc4 pm4 cd4 ct4 oc5 kV5 dc5 pm5 cd5 ct5 oc6 kV6 dc6 pm6 cd6 ct6 oc7 kV7 dc7 pm7 cd7 ct7 oc8 kV8 dc8 pm8 cd8 ct8 oc9 kV9 dc9 pm9 cd9 ct9 oc10 kV10 dc10 pm10 cd10 ct10 oc11 kV11 dc11 pm11 cd11 ct11 oc12 kV12 dc12 pm12 cd12 ct12 oc13 kV13 dc13 pm13 cd13 ct13 oc14 kV14 dc14 pm14 cd14 ct14 oc15 kV15 dc15 pm15 cd15 ct15 oc16 kV16 dc16 pm16 cd16 ct16 oc17 kV17 dc17 pm17 cd17 ct17 oc18 kV18 dc18 pm18 cd18 ct18 oc19 kV19 dc19 pm19 cd19 ct19 oc20 kV20 dc20 pm20 cd20 ct20 oc21 kV21 dc21 pm21 cd21 ct21 oc22 kV22 dc22 pm22 cd22 ct22 oc23 kV23 dc23 pm23 cd23 ct23 oc24 kV24 dc24 pm24 cd24 ct24 oc25 kV25 dc25 pm25 cd25 ct25 oc26 kV26 dc26 pm26 cd26 ct26 oc27 kV27 dc27 pm27 cd27 ct27 oc28 kV28 dc28 pm28 cd28 ct28 oc29 kV29 dc29 pm29 cd29 ct29 oc30 kV30 dc30 pm30 cd30 ct30 oc31 kV31 dc31 pm31 cd31 ct31 oc32 kV32 dc32 pm32 cd32 ct32 oc33 kV33 dc33 pm33 cd33 ct33 oc34 kV34 dc34 pm34 cd34 ct34 oc35 kV35 dc35 pm35 cd35 ct35 oc36 kV36 dc36 pm36 cd36 ct36:Value}
 {abn:Addr} (acD:W.nsIn K mainGlobals "Plan" = some (some (.ref abn))) (pg_Plan:W.plainGet K abn Str.empty=true) (hd_Plan:W.hasDictIn K abn=true) (po_Plan:W.plainOver K abn=true) (sa_Plan:W.findIn K (.ref abn) "__setattr__" = some (some (.builtin "object.__setattr__"))) (mk_Plan:W.makesIn K abn=true) (kc_Plan:W.keepIn K (.ref abn)=true)
 (n_Plan_told:W.findIn K (.ref abn) "told" = some none)
 (n_Plan_lists:W.findIn K (.ref abn) "lists" = some none)
 (n_Plan_heads:W.findIn K (.ref abn) "heads" = some none)
 {abi:Addr} (aci:W.nsIn K mainGlobals "Running" = some (some (.ref abi))) (pg_Running:W.plainGet K abi Str.empty=true) (hd_Running:W.hasDictIn K abi=true) (po_Running:W.plainOver K abi=true) (sa_Running:W.findIn K (.ref abi) "__setattr__" = some (some (.builtin "object.__setattr__"))) (mk_Running:W.makesIn K abi=true) (kc_Running:W.keepIn K (.ref abi)=true)
 (n_Running_plan:W.findIn K (.ref abi) "plan" = some none)
 (n_Running_boxes:W.findIn K (.ref abi) "boxes" = some none)
 (n_Running_own:W.findIn K (.ref abi) "own" = some none)
 (n_Running_budget:W.findIn K (.ref abi) "budget" = some none)
 (n_Running_word:W.findIn K (.ref abi) "word" = some none)
 (n_Running_moments:W.findIn K (.ref abi) "moments" = some none)
 (n_Running_due:W.findIn K (.ref abi) "due" = some none)
 {abq:Addr} (acb:W.nsIn K mainGlobals "HushError" = some (some (.ref abq))) (ex_HushError:W.excIn K abq kZ lg=true)
 {abj:Addr} (abp:W.nsIn K mainGlobals "NoInput" = some (some (.ref abj))) (ex_NoInput:W.excIn K abj kZ lg=true)
 (mr_NoInput_HushError:W.mroIn K abj (.ref abq)=some true)
 (mr_NoInput_NoInput:W.mroIn K abj (.ref abj)=some true)
 (xcg:W.specialIn K (.builtin "object.__class__") "__get__" = some (some (.builtin "getset_descriptor.__get__"))) (xtk:W.takesIn K (.builtin "object.__class__")=some true)
 (xga_NoInput:W.findIn K (.ref abj) "__getattribute__" = some (some (.builtin "BaseException.__getattribute__")))
 (xgt_NoInput:W.findIn K (.ref abj) "__getattr__" = some none)
 (xme_NoInput:W.mroIn K abj (.type "BaseException")=some true)
 (xmo_NoInput:W.mroIn K abj (.type "object")=some true)
 (xic_NoInput:W.isClsIn K abj=true)
 (xca_NoInput:W.findIn K (.ref abj) "__class__" = some (some (.builtin "object.__class__")))
 {v_HushError:Addr} (aV_HushError:W.nsIn K mainGlobals "HushError" = some (some (.ref v_HushError))) (ty_HushError:W.typeIn K (.ref v_HushError)=some (.type "type")) (cl_HushError:W.isClsIn K v_HushError=true)
 (mv_NoInput_HushError:W.mroIn K abj (.ref v_HushError)=some true)
 {v_NoFit:Addr} (aV_NoFit:W.nsIn K mainGlobals "NoFit" = some (some (.ref v_NoFit))) (ty_NoFit:W.typeIn K (.ref v_NoFit)=some (.type "type")) (cl_NoFit:W.isClsIn K v_NoFit=true)
 (mv_NoInput_NoFit:W.mroIn K abj (.ref v_NoFit)=some false)
 (nq_NoInput_NoFit:(Value.ref abj==Value.ref v_NoFit)=false)
 {v_NoInput:Addr} (aV_NoInput:W.nsIn K mainGlobals "NoInput" = some (some (.ref v_NoInput))) (ty_NoInput:W.typeIn K (.ref v_NoInput)=some (.type "type")) (cl_NoInput:W.isClsIn K v_NoInput=true)
 (mv_NoInput_NoInput:W.mroIn K abj (.ref v_NoInput)=some true)
 {v_NoName:Addr} (aV_NoName:W.nsIn K mainGlobals "NoName" = some (some (.ref v_NoName))) (ty_NoName:W.typeIn K (.ref v_NoName)=some (.type "type")) (cl_NoName:W.isClsIn K v_NoName=true)
 (mv_NoInput_NoName:W.mroIn K abj (.ref v_NoName)=some false)
 (nq_NoInput_NoName:(Value.ref abj==Value.ref v_NoName)=false)
 {v_NoOrder:Addr} (aV_NoOrder:W.nsIn K mainGlobals "NoOrder" = some (some (.ref v_NoOrder))) (ty_NoOrder:W.typeIn K (.ref v_NoOrder)=some (.type "type")) (cl_NoOrder:W.isClsIn K v_NoOrder=true)
 (mv_NoInput_NoOrder:W.mroIn K abj (.ref v_NoOrder)=some false)
 (nq_NoInput_NoOrder:(Value.ref abj==Value.ref v_NoOrder)=false)
 {v_NoRow:Addr} (aV_NoRow:W.nsIn K mainGlobals "NoRow" = some (some (.ref v_NoRow))) (ty_NoRow:W.typeIn K (.ref v_NoRow)=some (.type "type")) (cl_NoRow:W.isClsIn K v_NoRow=true)
 (mv_NoInput_NoRow:W.mroIn K abj (.ref v_NoRow)=some false)
 (nq_NoInput_NoRow:(Value.ref abj==Value.ref v_NoRow)=false)
 {v_NoText:Addr} (aV_NoText:W.nsIn K mainGlobals "NoText" = some (some (.ref v_NoText))) (ty_NoText:W.typeIn K (.ref v_NoText)=some (.type "type")) (cl_NoText:W.isClsIn K v_NoText=true)
 (mv_NoInput_NoText:W.mroIn K abj (.ref v_NoText)=some false)
 (nq_NoInput_NoText:(Value.ref abj==Value.ref v_NoText)=false)
 (mv_NoInput_ValueError:W.mroIn K abj (.type "ValueError")=some true)
 (a1:W.nsIn K mainGlobals "blocks_of" = some (some (.ref f1))) (l1:K.lookup f1=some ⟨oc1,od1,.func (W.fnOf "blocks_of" "blocks_of" (aX kE) (aR kE) (au kE) .none kV1 dc1 pm1 an1 cd1 ct1),sl1⟩) (c1:W.codeIn K cd1 "blocks_of" = true) (k1:W.keepIn K (.ref f1)=true)
 (a2:W.nsIn K mainGlobals "copied" = some (some (.ref f2))) (l2:K.lookup f2=some ⟨oc2,od2,.func (W.fnOf "copied" "copied" (aX nZ) (aR nZ) (au nZ) .none kV2 dc2 pm2 an2 cd2 ct2),sl2⟩) (c2:W.codeIn K cd2 "copied" = true) (k2:W.keepIn K (.ref f2)=true)
 (a3:W.nsIn K mainGlobals "all_copied" = some (some (.ref f3))) (l3:K.lookup f3=some ⟨oc3,od3,.func (W.fnOf "all_copied" "all_copied" (aX gC) (aR gC) (au gC) .none kV3 dc3 pm3 an3 cd3 ct3),sl3⟩) (c3:W.codeIn K cd3 "all_copied" = true) (k3:W.keepIn K (.ref f3)=true)
 (a4:W.nsIn K mainGlobals "laid_out" = some (some (.ref f4))) (l4:K.lookup f4=some ⟨oc4,od4,.func (W.fnOf "laid_out" "laid_out" (aX jQ) (aR jQ) (au jQ) .none kV4 dc4 pm4 an4 cd4 ct4),sl4⟩) (c4:W.codeIn K cd4 "laid_out" = true) (k4:W.keepIn K (.ref f4)=true)
 (a5:W.nsIn K mainGlobals "numbered" = some (some (.ref f5))) (l5:K.lookup f5=some ⟨oc5,od5,.func (W.fnOf "numbered" "numbered" (aX mJ) (aR mJ) (au mJ) .none kV5 dc5 pm5 an5 cd5 ct5),sl5⟩) (c5:W.codeIn K cd5 "numbered" = true) (k5:W.keepIn K (.ref f5)=true)
 (a6:W.nsIn K mainGlobals "value_of" = some (some (.ref f6))) (l6:K.lookup f6=some ⟨oc6,od6,.func (W.fnOf "value_of" "value_of" (aX mK) (aR mK) (au mK) .none kV6 dc6 pm6 an6 cd6 ct6),sl6⟩) (c6:W.codeIn K cd6 "value_of" = true) (k6:W.keepIn K (.ref f6)=true)
 (a7:W.nsIn K mainGlobals "can_be_held" = some (some (.ref f7))) (l7:K.lookup f7=some ⟨oc7,od7,.func (W.fnOf "can_be_held" "can_be_held" (aX jc) (aR jc) (au jc) .none kV7 dc7 pm7 an7 cd7 ct7),sl7⟩) (c7:W.codeIn K cd7 "can_be_held" = true) (k7:W.keepIn K (.ref f7)=true)
 (a8:W.nsIn K mainGlobals "suits" = some (some (.ref f8))) (l8:K.lookup f8=some ⟨oc8,od8,.func (W.fnOf "suits" "suits" (aX pH) (aR pH) (au pH) .none kV8 dc8 pm8 an8 cd8 ct8),sl8⟩) (c8:W.codeIn K cd8 "suits" = true) (k8:W.keepIn K (.ref f8)=true)
 (a9:W.nsIn K mainGlobals "refuse_input" = some (some (.ref f9))) (l9:K.lookup f9=some ⟨oc9,od9,.func (W.fnOf "refuse_input" "refuse_input" (aX iB) (aR iB) (au iB) .none kV9 dc9 pm9 an9 cd9 ct9),sl9⟩) (c9:W.codeIn K cd9 "refuse_input" = true) (k9:W.keepIn K (.ref f9)=true)
 (a10:W.nsIn K mainGlobals "filled" = some (some (.ref f10))) (l10:K.lookup f10=some ⟨oc10,od10,.func (W.fnOf "filled" "filled" (aX pI) (aR pI) (au pI) .none kV10 dc10 pm10 an10 cd10 ct10),sl10⟩) (c10:W.codeIn K cd10 "filled" = true) (k10:W.keepIn K (.ref f10)=true)
 (a11:W.nsIn K mainGlobals "emptied" = some (some (.ref f11))) (l11:K.lookup f11=some ⟨oc11,od11,.func (W.fnOf "emptied" "emptied" (aX lY) (aR lY) (au lY) .none kV11 dc11 pm11 an11 cd11 ct11),sl11⟩) (c11:W.codeIn K cd11 "emptied" = true) (k11:W.keepIn K (.ref f11)=true)
 (a12:W.nsIn K mainGlobals "gone_through" = some (some (.ref f12))) (l12:K.lookup f12=some ⟨oc12,od12,.func (W.fnOf "gone_through" "gone_through" (aX iC) (aR iC) (au iC) .none kV12 dc12 pm12 an12 cd12 ct12),sl12⟩) (c12:W.codeIn K cd12 "gone_through" = true) (k12:W.keepIn K (.ref f12)=true)
 (a13:W.nsIn K mainGlobals "record_of" = some (some (.ref f13))) (l13:K.lookup f13=some ⟨oc13,od13,.func (W.fnOf "record_of" "record_of" (aX jo) (aR jo) (au jo) .none kV13 dc13 pm13 an13 cd13 ct13),sl13⟩) (c13:W.codeIn K cd13 "record_of" = true) (k13:W.keepIn K (.ref f13)=true)
 (a14:W.nsIn K mainGlobals "run" = some (some (.ref f14))) (l14:K.lookup f14=some ⟨oc14,od14,.func (W.fnOf "run" "run" (aX wG) (aR wG) (au wG) .none kV14 dc14 pm14 an14 cd14 ct14),sl14⟩) (c14:W.codeIn K cd14 "run" = true) (k14:W.keepIn K (.ref f14)=true)
 (a15:W.nsIn K mainGlobals "traced" = some (some (.ref f15))) (l15:K.lookup f15=some ⟨oc15,od15,.func (W.fnOf "traced" "traced" (aX pJ) (aR pJ) (au pJ) .none kV15 dc15 pm15 an15 cd15 ct15),sl15⟩) (c15:W.codeIn K cd15 "traced" = true) (k15:W.keepIn K (.ref f15)=true)
 (a16:W.nsIn K mainGlobals "_law_cell" = some (some (.ref f16))) (l16:K.lookup f16=some ⟨oc16,od16,.func (W.fnOf "_law_cell" "_law_cell" (aX kI) (aR kI) (au kI) .none kV16 dc16 pm16 an16 cd16 ct16),sl16⟩) (c16:W.codeIn K cd16 "_law_cell" = true) (k16:W.keepIn K (.ref f16)=true)
 (a17:W.nsIn K mainGlobals "_law_number" = some (some (.ref f17))) (l17:K.lookup f17=some ⟨oc17,od17,.func (W.fnOf "_law_number" "_law_number" (aX jd) (aR jd) (au jd) .none kV17 dc17 pm17 an17 cd17 ct17),sl17⟩) (c17:W.codeIn K cd17 "_law_number" = true) (k17:W.keepIn K (.ref f17)=true)
 (a18:W.nsIn K mainGlobals "_law_alike" = some (some (.ref f18))) (l18:K.lookup f18=some ⟨oc18,od18,.func (W.fnOf "_law_alike" "_law_alike" (aX gD) (aR gD) (au gD) .none kV18 dc18 pm18 an18 cd18 ct18),sl18⟩) (c18:W.codeIn K cd18 "_law_alike" = true) (k18:W.keepIn K (.ref f18)=true)
 (a19:W.nsIn K mainGlobals "_law_sizes" = some (some (.ref f19))) (l19:K.lookup f19=some ⟨oc19,od19,.func (W.fnOf "_law_sizes" "_law_sizes" (aX jE) (aR jE) (au jE) .none kV19 dc19 pm19 an19 cd19 ct19),sl19⟩) (c19:W.codeIn K cd19 "_law_sizes" = true) (k19:W.keepIn K (.ref f19)=true)
 (a20:W.nsIn K mainGlobals "_law_values" = some (some (.ref f20))) (l20:K.lookup f20=some ⟨oc20,od20,.func (W.fnOf "_law_values" "_law_values" (aX gQ) (aR gQ) (au gQ) .none kV20 dc20 pm20 an20 cd20 ct20),sl20⟩) (c20:W.codeIn K cd20 "_law_values" = true) (k20:W.keepIn K (.ref f20)=true)
 (a21:W.nsIn K mainGlobals "_law_odd" = some (some (.ref f21))) (l21:K.lookup f21=some ⟨oc21,od21,.func (W.fnOf "_law_odd" "_law_odd" (aX mL) (aR mL) (au mL) .none kV21 dc21 pm21 an21 cd21 ct21),sl21⟩) (c21:W.codeIn K cd21 "_law_odd" = true) (k21:W.keepIn K (.ref f21)=true)
 (a22:W.nsIn K mainGlobals "_law_spoiled" = some (some (.ref f22))) (l22:K.lookup f22=some ⟨oc22,od22,.func (W.fnOf "_law_spoiled" "_law_spoiled" (aX iD) (aR iD) (au iD) .none kV22 dc22 pm22 an22 cd22 ct22),sl22⟩) (c22:W.codeIn K cd22 "_law_spoiled" = true) (k22:W.keepIn K (.ref f22)=true)
 (a23:W.nsIn K mainGlobals "_law_refused" = some (some (.ref f23))) (l23:K.lookup f23=some ⟨oc23,od23,.func (W.fnOf "_law_refused" "_law_refused" (aX iG) (aR iG) (au iG) .none kV23 dc23 pm23 an23 cd23 ct23),sl23⟩) (c23:W.codeIn K cd23 "_law_refused" = true) (k23:W.keepIn K (.ref f23)=true)
 (a24:W.nsIn K mainGlobals "_law_based" = some (some (.ref f24))) (l24:K.lookup f24=some ⟨oc24,od24,.func (W.fnOf "_law_based" "_law_based" (aX jF) (aR jF) (au jF) .none kV24 dc24 pm24 an24 cd24 ct24),sl24⟩) (c24:W.codeIn K cd24 "_law_based" = true) (k24:W.keepIn K (.ref f24)=true)
 (a25:W.nsIn K mainGlobals "law" = some (some (.ref f25))) (l25:K.lookup f25=some ⟨oc25,od25,.func (W.fnOf "law" "law" (aX mO) (aR mO) (au mO) .none kV25 dc25 pm25 an25 cd25 ct25),sl25⟩) (c25:W.codeIn K cd25 "law" = true) (k25:W.keepIn K (.ref f25)=true)
 (a26:W.findIn K (.ref abn) "__init__" = some (some (.ref f26))) (i26:W.isFn K (.ref f26)=true) (l26:K.lookup f26=some ⟨oc26,od26,.func (W.fnOf "__init__" "Plan.__init__" (aX dq) (aR dq) (au dq) .none kV26 dc26 pm26 an26 cd26 ct26),sl26⟩) (c26:W.codeIn K cd26 "Plan.__init__" = true) (k26:W.keepIn K (.ref f26)=true)
 (a27:W.findIn K (.ref abn) "row" = some (some (.ref f27))) (i27:W.isFn K (.ref f27)=true) (l27:K.lookup f27=some ⟨oc27,od27,.func (W.fnOf "row" "Plan.row" (aX iu) (aR iu) (au iu) .none kV27 dc27 pm27 an27 cd27 ct27),sl27⟩) (c27:W.codeIn K cd27 "Plan.row" = true) (k27:W.keepIn K (.ref f27)=true)
 (a28:W.findIn K (.ref abn) "body" = some (some (.ref f28))) (i28:W.isFn K (.ref f28)=true) (l28:K.lookup f28=some ⟨oc28,od28,.func (W.fnOf "body" "Plan.body" (aX gF) (aR gF) (au gF) .none kV28 dc28 pm28 an28 cd28 ct28),sl28⟩) (c28:W.codeIn K cd28 "Plan.body" = true) (k28:W.keepIn K (.ref f28)=true)
 (a29:W.findIn K (.ref abn) "block" = some (some (.ref f29))) (i29:W.isFn K (.ref f29)=true) (l29:K.lookup f29=some ⟨oc29,od29,.func (W.fnOf "block" "Plan.block" (aX gb) (aR gb) (au gb) .none kV29 dc29 pm29 an29 cd29 ct29),sl29⟩) (c29:W.codeIn K cd29 "Plan.block" = true) (k29:W.keepIn K (.ref f29)=true)
 (a30:W.findIn K (.ref abi) "__init__" = some (some (.ref f30))) (i30:W.isFn K (.ref f30)=true) (l30:K.lookup f30=some ⟨oc30,od30,.func (W.fnOf "__init__" "Running.__init__" (aX cV) (aR cV) (au cV) .none kV30 dc30 pm30 an30 cd30 ct30),sl30⟩) (c30:W.codeIn K cd30 "Running.__init__" = true) (k30:W.keepIn K (.ref f30)=true)
 (a31:W.findIn K (.ref abi) "lay" = some (some (.ref f31))) (i31:W.isFn K (.ref f31)=true) (l31:K.lookup f31=some ⟨oc31,od31,.func (W.fnOf "lay" "Running.lay" (aX dU) (aR dU) (au dU) .none kV31 dc31 pm31 an31 cd31 ct31),sl31⟩) (c31:W.codeIn K cd31 "Running.lay" = true) (k31:W.keepIn K (.ref f31)=true)
 (a32:W.findIn K (.ref abi) "lay_body" = some (some (.ref f32))) (i32:W.isFn K (.ref f32)=true) (l32:K.lookup f32=some ⟨oc32,od32,.func (W.fnOf "lay_body" "Running.lay_body" (aX cW) (aR cW) (au cW) .none kV32 dc32 pm32 an32 cd32 ct32),sl32⟩) (c32:W.codeIn K cd32 "Running.lay_body" = true) (k32:W.keepIn K (.ref f32)=true)
 (a33:W.findIn K (.ref abi) "step" = some (some (.ref f33))) (i33:W.isFn K (.ref f33)=true) (l33:K.lookup f33=some ⟨oc33,od33,.func (W.fnOf "step" "Running.step" (aX d8) (aR d8) (au d8) .none kV33 dc33 pm33 an33 cd33 ct33),sl33⟩) (c33:W.codeIn K cd33 "Running.step" = true) (k33:W.keepIn K (.ref f33)=true)
 (a34:W.findIn K (.ref abi) "note" = some (some (.ref f34))) (i34:W.isFn K (.ref f34)=true) (l34:K.lookup f34=some ⟨oc34,od34,.func (W.fnOf "note" "Running.note" (aX d9) (aR d9) (au d9) .none kV34 dc34 pm34 an34 cd34 ct34),sl34⟩) (c34:W.codeIn K cd34 "Running.note" = true) (k34:W.keepIn K (.ref f34)=true)
 (a35:W.findIn K (.ref abi) "value" = some (some (.ref f35))) (i35:W.isFn K (.ref f35)=true) (l35:K.lookup f35=some ⟨oc35,od35,.func (W.fnOf "value" "Running.value" (aX dM) (aR dM) (au dM) .none kV35 dc35 pm35 an35 cd35 ct35),sl35⟩) (c35:W.codeIn K cd35 "Running.value" = true) (k35:W.keepIn K (.ref f35)=true)
 (a36:W.findIn K (.ref abi) "begin" = some (some (.ref f36))) (i36:W.isFn K (.ref f36)=true) (l36:K.lookup f36=some ⟨oc36,od36,.func (W.fnOf "begin" "Running.begin" (aX dN) (aR dN) (au dN) .none kV36 dc36 pm36 an36 cd36 ct36),sl36⟩) (c36:W.codeIn K cd36 "Running.begin" = true) (k36:W.keepIn K (.ref f36)=true)
 (z0:W.nsIn K mainGlobals "ValueError" = some none)
 (z1:W.nsIn K mainGlobals "all" = some none)
 (z2:W.nsIn K mainGlobals "bool" = some none)
 (z3:W.nsIn K mainGlobals "dict" = some none)
 (z4:W.nsIn K mainGlobals "enumerate" = some none)
 (z5:W.nsIn K mainGlobals "int" = some none)
 (z6:W.nsIn K mainGlobals "isinstance" = some none)
 (z7:W.nsIn K mainGlobals "len" = some none)
 (z8:W.nsIn K mainGlobals "list" = some none)
 (z9:W.nsIn K mainGlobals "max" = some none)
 (z10:W.nsIn K mainGlobals "range" = some none)
 (z11:W.nsIn K mainGlobals "reversed" = some none)
 (z12:W.nsIn K mainGlobals "str" = some none)
 (z13:W.nsIn K mainGlobals "tuple" = some none)
 (z14:W.nsIn K mainGlobals "zip" = some none)
 (acM:W.nsIn K mainGlobals "LIMIT" = some (some (.int 1000000000000 tk_LIMIT)))
 (HL:∀[HK] (ns:List Int),ns.length<=63->∃mu,Jj [.lst (ns.map PV.int)] []=some (.sh (.bl true),mu))
 : ∃fd:FuncData,(∀(s:Shared) (v:Value),BindsTo s fd ⟨[v],[]⟩ [("_law_script",v)])/\∀base:Heap,K.In base->base.Ns mainGlobals mg->kW l.prog w K mg base o7 88 fa fd ["_law_script"] (Dc K):=by
 letI:HK:=⟨yD l.prog w⟩
 have hkx:HK.hk=yD l.prog w:=rfl;have abk:qT K mg "Plan" abn:=⟨acD,⟨pg_Plan,hd_Plan,po_Plan,sa_Plan⟩,W.mg_of X G acD⟩;have abm:∀f∈(["told", "lists", "heads"]:List Str),jU K abn f:=by
  intro x hx;rcases YM.mp hx with e | hx
  . rw[e]; exact n_Plan_told
  rcases YM.mp hx with e | hx
  . rw[e]; exact n_Plan_lists
  rcases YM.mp hx with e | hx
  . rw[e]; exact n_Plan_heads
  cases hx
 have abg:qT K mg "Running" abi:=⟨aci,⟨pg_Running,hd_Running,po_Running,sa_Running⟩,W.mg_of X G aci⟩;have abh:∀f∈(["plan", "boxes", "own", "budget", "word", "moments", "due"]:List Str),jU K abi f:=by
  intro x hx;rcases YM.mp hx with e | hx
  . rw[e]; exact n_Running_plan
  rcases YM.mp hx with e | hx
  . rw[e]; exact n_Running_boxes
  rcases YM.mp hx with e | hx
  . rw[e]; exact n_Running_own
  rcases YM.mp hx with e | hx
  . rw[e]; exact n_Running_budget
  rcases YM.mp hx with e | hx
  . rw[e]; exact n_Running_word
  rcases YM.mp hx with e | hx
  . rw[e]; exact n_Running_moments
  rcases YM.mp hx with e | hx
  . rw[e]; exact n_Running_due
  cases hx
 have XT_HushError:xY K mg "HushError" abq:=⟨acb,W.mg_of X G acb,ex_HushError⟩;have XT_NoInput:xY K mg "NoInput" abj:=⟨abp,W.mg_of X G abp,ex_NoInput⟩;have Y_HushError:∀C∈(["NoInput"]:List Str),∃c,CN K C c/\W.excIn K c kZ lg=true/\mroIn K c abq=true:=by
  intro C hC;rcases YM.mp hC with e | hC
  . rw[e]; exact⟨abj,abp,ex_NoInput,Ir mr_NoInput_HushError⟩
  cases hC
 have Z_HushError:∀C∈([]:List Str),∃c,CN K C c/\W.excIn K c kZ lg=true/\mroIn K c abq=false:=by intro C hC;cases hC
 have Y_NoInput:∀C∈(["NoInput"]:List Str),∃c,CN K C c/\W.excIn K c kZ lg=true/\mroIn K c abj=true:=by
  intro C hC;rcases YM.mp hC with e | hC
  . rw[e]; exact⟨abj,abp,ex_NoInput,Ir mr_NoInput_NoInput⟩
  cases hC
 have Z_NoInput:∀C∈([]:List Str),∃c,CN K C c/\W.excIn K c kZ lg=true/\mroIn K c abj=false:=by intro C hC;cases hC
 have Q_NoInput:oJ K abj:=⟨xga_NoInput,xgt_NoInput,xme_NoInput,xmo_NoInput,xic_NoInput,xca_NoInput,xcg,xtk⟩;have V_HushError:=W.mg_of X G aV_HushError;have I_HushError:∀C∈(["NoInput"]:List Str),gw K (.ref v_HushError) true C:=by
  intro C hC;rcases YM.mp hC with e | hC
  . rw[e]; exact⟨abj,_,abp,rfl,Q_NoInput,QT ty_HushError cl_HushError mv_NoInput_HushError⟩
  cases hC
 have J_HushError:∀C∈([]:List Str),gw K (.ref v_HushError) false C:=by intro C hC;cases hC
 have V_NoFit:=W.mg_of X G aV_NoFit;have I_NoFit:∀C∈([]:List Str),gw K (.ref v_NoFit) true C:=by intro C hC;cases hC
 have J_NoFit:∀C∈(["NoInput"]:List Str),gw K (.ref v_NoFit) false C:=by
  intro C hC;rcases YM.mp hC with e | hC
  . rw[e]; exact⟨abj,_,abp,rfl,Q_NoInput,yU ty_NoFit cl_NoFit mv_NoInput_NoFit nq_NoInput_NoFit⟩
  cases hC
 have V_NoInput:=W.mg_of X G aV_NoInput;have I_NoInput:∀C∈(["NoInput"]:List Str),gw K (.ref v_NoInput) true C:=by
  intro C hC;rcases YM.mp hC with e | hC
  . rw[e]; exact⟨abj,_,abp,rfl,Q_NoInput,QT ty_NoInput cl_NoInput mv_NoInput_NoInput⟩
  cases hC
 have J_NoInput:∀C∈([]:List Str),gw K (.ref v_NoInput) false C:=by intro C hC;cases hC
 have V_NoName:=W.mg_of X G aV_NoName;have I_NoName:∀C∈([]:List Str),gw K (.ref v_NoName) true C:=by intro C hC;cases hC
 have J_NoName:∀C∈(["NoInput"]:List Str),gw K (.ref v_NoName) false C:=by
  intro C hC;rcases YM.mp hC with e | hC
  . rw[e]; exact⟨abj,_,abp,rfl,Q_NoInput,yU ty_NoName cl_NoName mv_NoInput_NoName nq_NoInput_NoName⟩
  cases hC
 have V_NoOrder:=W.mg_of X G aV_NoOrder;have I_NoOrder:∀C∈([]:List Str),gw K (.ref v_NoOrder) true C:=by intro C hC;cases hC
 have J_NoOrder:∀C∈(["NoInput"]:List Str),gw K (.ref v_NoOrder) false C:=by
  intro C hC;rcases YM.mp hC with e | hC
  . rw[e]; exact⟨abj,_,abp,rfl,Q_NoInput,yU ty_NoOrder cl_NoOrder mv_NoInput_NoOrder nq_NoInput_NoOrder⟩
  cases hC
 have V_NoRow:=W.mg_of X G aV_NoRow;have I_NoRow:∀C∈([]:List Str),gw K (.ref v_NoRow) true C:=by intro C hC;cases hC
 have J_NoRow:∀C∈(["NoInput"]:List Str),gw K (.ref v_NoRow) false C:=by
  intro C hC;rcases YM.mp hC with e | hC
  . rw[e]; exact⟨abj,_,abp,rfl,Q_NoInput,yU ty_NoRow cl_NoRow mv_NoInput_NoRow nq_NoInput_NoRow⟩
  cases hC
 have V_NoText:=W.mg_of X G aV_NoText;have I_NoText:∀C∈([]:List Str),gw K (.ref v_NoText) true C:=by intro C hC;cases hC
 have J_NoText:∀C∈(["NoInput"]:List Str),gw K (.ref v_NoText) false C:=by
  intro C hC;rcases YM.mp hC with e | hC
  . rw[e]; exact⟨abj,_,abp,rfl,Q_NoInput,yU ty_NoText cl_NoText mv_NoInput_NoText nq_NoInput_NoText⟩
  cases hC
 have I_ValueError:∀C∈(["NoInput"]:List Str),gw K (.ty "ValueError") true C:=by
  intro C hC;rcases YM.mp hC with e | hC
  . rw[e]; exact⟨abj,_,abp,rfl,Q_NoInput,Xd (by kernel_rfl) mv_NoInput_ValueError⟩
  cases hC
 have J_ValueError:∀C∈([]:List Str),gw K (.ty "ValueError") false C:=by intro C hC;cases hC
 have acz:aV K mg "blocks_of" kE ["row"]:=j8 X G a1 l1 c1 k1 λ_ _ _ _ _ _ us hl=>by obtain⟨_,rfl⟩:=m8 hl; rfl
 have abY:aV K mg "copied" nZ ["row"]:=j8 X G a2 l2 c2 k2 λ_ _ _ _ _ _ us hl=>by obtain⟨_,rfl⟩:=m8 hl; rfl
 have abD:aV K mg "all_copied" gC ["rows"]:=j8 X G a3 l3 c3 k3 λ_ _ _ _ _ _ us hl=>by obtain⟨_,rfl⟩:=m8 hl; rfl
 have abO:aV K mg "laid_out" jQ ["where", "above", "block", "rows", "start"]:=j8 X G a4 l4 c4 k4 λ_ _ _ _ _ _ us hl=>by obtain⟨_,_,_,_,_,rfl⟩:=Yz hl; rfl
 have acF:aV K mg "numbered" mJ ["program"]:=j8 X G a5 l5 c5 k5 λ_ _ _ _ _ _ us hl=>by obtain⟨_,rfl⟩:=m8 hl; rfl
 have acG:aV K mg "value_of" mK ["expression", "boxes"]:=j8 X G a6 l6 c6 k6 λ_ _ _ _ _ _ us hl=>by obtain⟨_,_,rfl⟩:=ln2 hl; rfl
 have acp:aV K mg "can_be_held" jc ["thing"]:=j8 X G a7 l7 c7 k7 λ_ _ _ _ _ _ us hl=>by obtain⟨_,rfl⟩:=m8 hl; rfl
 have acN:aV K mg "suits" pH ["size", "thing"]:=j8 X G a8 l8 c8 k8 λ_ _ _ _ _ _ us hl=>by obtain⟨_,_,rfl⟩:=ln2 hl; rfl
 have ab3:aV K mg "refuse_input" iB ["program", "values"]:=j8 X G a9 l9 c9 k9 λ_ _ _ _ _ _ us hl=>by obtain⟨_,_,rfl⟩:=ln2 hl; rfl
 have acK:aV K mg "filled" pI ["program", "values"]:=j8 X G a10 l10 c10 k10 λ_ _ _ _ _ _ us hl=>by obtain⟨_,_,rfl⟩:=ln2 hl; rfl
 have acJ:aV K mg "emptied" lY ["program", "boxes"]:=j8 X G a11 l11 c11 k11 λ_ _ _ _ _ _ us hl=>by obtain⟨_,_,rfl⟩:=ln2 hl; rfl
 have ab4:aV K mg "gone_through" iC ["program", "values", "budget"]:=j8 X G a12 l12 c12 k12 λ_ _ _ _ _ _ us hl=>by obtain⟨_,_,_,rfl⟩:=Bm hl; rfl
 have acA:aV K mg "record_of" jo ["moments"]:=j8 X G a13 l13 c13 k13 λ_ _ _ _ _ _ us hl=>by obtain⟨_,rfl⟩:=m8 hl; rfl
 have acL:aV K mg "run" wG ["program", "values", "budget"]:=j8 X G a14 l14 c14 k14 λ_ _ _ _ _ _ us hl=>by obtain⟨_,_,_,rfl⟩:=Bm hl; rfl
 have acs:aV K mg "traced" pJ ["program", "values", "budget"]:=j8 X G a15 l15 c15 k15 λ_ _ _ _ _ _ us hl=>by obtain⟨_,_,_,rfl⟩:=Bm hl; rfl
 have acB:aV K mg "_law_cell" kI ["_law_script", "_law_k"]:=j8 X G a16 l16 c16 k16 λ_ _ _ _ _ _ us hl=>by obtain⟨_,_,rfl⟩:=ln2 hl; rfl
 have acq:aV K mg "_law_number" jd ["_law_cell_here"]:=j8 X G a17 l17 c17 k17 λ_ _ _ _ _ _ us hl=>by obtain⟨_,rfl⟩:=m8 hl; rfl
 have abE:aV K mg "_law_alike" gD ["_law_got", "_law_due"]:=j8 X G a18 l18 c18 k18 λ_ _ _ _ _ _ us hl=>by obtain⟨_,_,rfl⟩:=ln2 hl; rfl
 have acu:aV K mg "_law_sizes" jE ["_law_script"]:=j8 X G a19 l19 c19 k19 λ_ _ _ _ _ _ us hl=>by obtain⟨_,rfl⟩:=m8 hl; rfl
 have ab7:aV K mg "_law_values" gQ ["_law_script", "_law_sizes_here"]:=j8 X G a20 l20 c20 k20 λ_ _ _ _ _ _ us hl=>by obtain⟨_,_,rfl⟩:=ln2 hl; rfl
 have acH:aV K mg "_law_odd" mL ["_law_cell_here"]:=j8 X G a21 l21 c21 k21 λ_ _ _ _ _ _ us hl=>by obtain⟨_,rfl⟩:=m8 hl; rfl
 have acl:aV K mg "_law_spoiled" iD ["_law_values_here", "_law_pick", "_law_cell_here"]:=j8 X G a22 l22 c22 k22 λ_ _ _ _ _ _ us hl=>by obtain⟨_,_,_,rfl⟩:=Bm hl; rfl
 have acn:aV K mg "_law_refused" iG ["_law_ask", "_law_program", "_law_values_here"]:=j8 X G a23 l23 c23 k23 λ_ _ _ _ _ _ us hl=>by obtain⟨_,_,_,rfl⟩:=Bm hl; rfl
 have acv:aV K mg "_law_based" jF ["_law_ask", "_law_program", "_law_values_here"]:=j8 X G a24 l24 c24 k24 λ_ _ _ _ _ _ us hl=>by obtain⟨_,_,_,rfl⟩:=Bm hl; rfl
 have acO:aV K mg "law" mO ["_law_script"]:=j8 X G a25 l25 c25 k25 λ_ _ _ _ _ _ us hl=>by obtain⟨_,rfl⟩:=m8 hl; rfl
 have acf:lF K abn "__init__" "Plan.__init__" dq ["self", "program"]:=⟨_,_,du (st:=dq) l26 c26 k26,a26,i26,(du (st:=dq) l26 c26 k26).binds (ps:=["self", "program"]) λ_ _ _ _ _ _ us hl=>by obtain⟨_,_,rfl⟩:=ln2 hl; rfl⟩;have acC:lF K abn "row" "Plan.row" iu ["self", "k"]:=⟨_,_,du (st:=iu) l27 c27 k27,a27,i27,(du (st:=iu) l27 c27 k27).binds (ps:=["self", "k"]) λ_ _ _ _ _ _ us hl=>by obtain⟨_,_,rfl⟩:=ln2 hl; rfl⟩;have acw:lF K abn "body" "Plan.body" gF ["self", "name"]:=⟨_,_,du (st:=gF) l28 c28 k28,a28,i28,(du (st:=gF) l28 c28 k28).binds (ps:=["self", "name"]) λ_ _ _ _ _ _ us hl=>by obtain⟨_,_,rfl⟩:=ln2 hl; rfl⟩;have acr:lF K abn "block" "Plan.block" gb ["self", "k", "which"]:=⟨_,_,du (st:=gb) l29 c29 k29,a29,i29,(du (st:=gb) l29 c29 k29).binds (ps:=["self", "k", "which"]) λ_ _ _ _ _ _ us hl=>by obtain⟨_,_,_,rfl⟩:=Bm hl; rfl⟩;have ab8:lF K abi "__init__" "Running.__init__" cV ["self", "program", "values", "budget"]:=⟨_,_,du (st:=cV) l30 c30 k30,a30,i30,(du (st:=cV) l30 c30 k30).binds (ps:=["self", "program", "values", "budget"]) λ_ _ _ _ _ _ us hl=>by obtain⟨_,_,_,_,rfl⟩:=U7 hl; rfl⟩;have aco:lF K abi "lay" "Running.lay" dU ["self", "numbers"]:=⟨_,_,du (st:=dU) l31 c31 k31,a31,i31,(du (st:=dU) l31 c31 k31).binds (ps:=["self", "numbers"]) λ_ _ _ _ _ _ us hl=>by obtain⟨_,_,rfl⟩:=ln2 hl; rfl⟩;have ab9:lF K abi "lay_body" "Running.lay_body" cW ["self", "name"]:=⟨_,_,du (st:=cW) l32 c32 k32,a32,i32,(du (st:=cW) l32 c32 k32).binds (ps:=["self", "name"]) λ_ _ _ _ _ _ us hl=>by obtain⟨_,_,rfl⟩:=ln2 hl; rfl⟩;have acj:lF K abi "step" "Running.step" d8 ["self"]:=⟨_,_,du (st:=d8) l33 c33 k33,a33,i33,(du (st:=d8) l33 c33 k33).binds (ps:=["self"]) λ_ _ _ _ _ _ us hl=>by obtain⟨_,rfl⟩:=m8 hl; rfl⟩;have ack:lF K abi "note" "Running.note" d9 ["self", "k", "time", "events"]:=⟨_,_,du (st:=d9) l34 c34 k34,a34,i34,(du (st:=d9) l34 c34 k34).binds (ps:=["self", "k", "time", "events"]) λ_ _ _ _ _ _ us hl=>by obtain⟨_,_,_,_,rfl⟩:=U7 hl; rfl⟩;have acg:lF K abi "value" "Running.value" dM ["self", "expression"]:=⟨_,_,du (st:=dM) l35 c35 k35,a35,i35,(du (st:=dM) l35 c35 k35).binds (ps:=["self", "expression"]) λ_ _ _ _ _ _ us hl=>by obtain⟨_,_,rfl⟩:=ln2 hl; rfl⟩;have ach:lF K abi "begin" "Running.begin" dN ["self", "k"]:=⟨_,_,du (st:=dN) l36 c36 k36,a36,i36,(du (st:=dN) l36 c36 k36).binds (ps:=["self", "k"]) λ_ _ _ _ _ _ us hl=>by obtain⟨_,_,rfl⟩:=ln2 hl; rfl⟩;have B:Vk mg BL:=by
  intro x hx;rcases YM.mp hx with e | hx
  . rw[e]; exact ZQ X G z0
  rcases YM.mp hx with e | hx
  . rw[e]; exact ZQ X G z1
  rcases YM.mp hx with e | hx
  . rw[e]; exact ZQ X G z2
  rcases YM.mp hx with e | hx
  . rw[e]; exact ZQ X G z3
  rcases YM.mp hx with e | hx
  . rw[e]; exact ZQ X G z4
  rcases YM.mp hx with e | hx
  . rw[e]; exact ZQ X G z5
  rcases YM.mp hx with e | hx
  . rw[e]; exact ZQ X G z6
  rcases YM.mp hx with e | hx
  . rw[e]; exact ZQ X G z7
  rcases YM.mp hx with e | hx
  . rw[e]; exact ZQ X G z8
  rcases YM.mp hx with e | hx
  . rw[e]; exact ZQ X G z9
  rcases YM.mp hx with e | hx
  . rw[e]; exact ZQ X G z10
  rcases YM.mp hx with e | hx
  . rw[e]; exact ZQ X G z11
  rcases YM.mp hx with e | hx
  . rw[e]; exact ZQ X G z12
  rcases YM.mp hx with e | hx
  . rw[e]; exact ZQ X G z13
  rcases YM.mp hx with e | hx
  . rw[e]; exact ZQ X G z14
  cases hx
 have abl:∃t,mg "LIMIT" = some (.int 1000000000000 t):=⟨_,W.mg_of X G acM⟩;have FV_run:Bw K mg "run" := ⟨_,a14,W.mg_of X G a14⟩;have FV_traced:Bw K mg "traced" := ⟨_,a15,W.mg_of X G a15⟩;have e:=hfa.symm.trans (W.mg_of X G a25);cases e;refine⟨W.fnOf "law" "law" (aX mO) (aR mO) (au mO) .none kV25 dc25 pm25 an25 cd25 ct25,λs v=>.of_eq rfl,λbase _ _=>?_⟩;have aby:=Fj (P:=l.prog) (w:=w) (base:=base) B abl abk abm abg abh hkx XT_HushError XT_NoInput Y_HushError Z_HushError Y_NoInput Z_NoInput V_HushError I_HushError J_HushError V_NoFit I_NoFit J_NoFit V_NoInput I_NoInput J_NoInput V_NoName I_NoName J_NoName V_NoOrder I_NoOrder J_NoOrder V_NoRow I_NoRow J_NoRow V_NoText I_NoText J_NoText I_ValueError J_ValueError FV_run FV_traced acz;have acx:=zj (P:=l.prog) (w:=w) (base:=base) B abl abk abm abg abh hkx XT_HushError XT_NoInput Y_HushError Z_HushError Y_NoInput Z_NoInput V_HushError I_HushError J_HushError V_NoFit I_NoFit J_NoFit V_NoInput I_NoInput J_NoInput V_NoName I_NoName J_NoName V_NoOrder I_NoOrder J_NoOrder V_NoRow I_NoRow J_NoRow V_NoText I_NoText J_NoText I_ValueError J_ValueError FV_run FV_traced abY abD 40;have abC:=acx.1;have abN:=acx.2;have acI:=vO (P:=l.prog) (w:=w) (base:=base) B abl abk abm abg abh hkx XT_HushError XT_NoInput Y_HushError Z_HushError Y_NoInput Z_NoInput V_HushError I_HushError J_HushError V_NoFit I_NoFit J_NoFit V_NoInput I_NoInput J_NoInput V_NoName I_NoName J_NoName V_NoOrder I_NoOrder J_NoOrder V_NoRow I_NoRow J_NoRow V_NoText I_NoText J_NoText I_ValueError J_ValueError FV_run FV_traced abO aby abC 40;have abF:=acI;have ab5:=Gq (P:=l.prog) (w:=w) (base:=base) B abl abk abm abg abh hkx XT_HushError XT_NoInput Y_HushError Z_HushError Y_NoInput Z_NoInput V_HushError I_HushError J_HushError V_NoFit I_NoFit J_NoFit V_NoInput I_NoInput J_NoInput V_NoName I_NoName J_NoName V_NoOrder I_NoOrder J_NoOrder V_NoRow I_NoRow J_NoRow V_NoText I_NoText J_NoText I_ValueError J_ValueError FV_run FV_traced acF abF;have ab6:=Gr (P:=l.prog) (w:=w) (base:=base) B abl abk abm abg abh hkx XT_HushError XT_NoInput Y_HushError Z_HushError Y_NoInput Z_NoInput V_HushError I_HushError J_HushError V_NoFit I_NoFit J_NoFit V_NoInput I_NoInput J_NoInput V_NoName I_NoName J_NoName V_NoOrder I_NoOrder J_NoOrder V_NoRow I_NoRow J_NoRow V_NoText I_NoText J_NoText I_ValueError J_ValueError FV_run FV_traced acG;have abI:=Aj (P:=l.prog) (w:=w) (base:=base) B abl abk abm abg abh hkx XT_HushError XT_NoInput Y_HushError Z_HushError Y_NoInput Z_NoInput V_HushError I_HushError J_HushError V_NoFit I_NoFit J_NoFit V_NoInput I_NoInput J_NoInput V_NoName I_NoName J_NoName V_NoOrder I_NoOrder J_NoOrder V_NoRow I_NoRow J_NoRow V_NoText I_NoText J_NoText I_ValueError J_ValueError FV_run FV_traced acp;have abX:=OJ (P:=l.prog) (w:=w) (base:=base) B abl abk abm abg abh hkx XT_HushError XT_NoInput Y_HushError Z_HushError Y_NoInput Z_NoInput V_HushError I_HushError J_HushError V_NoFit I_NoFit J_NoFit V_NoInput I_NoInput J_NoInput V_NoName I_NoName J_NoName V_NoOrder I_NoOrder J_NoOrder V_NoRow I_NoRow J_NoRow V_NoText I_NoText J_NoText I_ValueError J_ValueError FV_run FV_traced acN abI;have abR:=zm (P:=l.prog) (w:=w) (base:=base) B abl abk abm abg abh hkx XT_HushError XT_NoInput Y_HushError Z_HushError Y_NoInput Z_NoInput V_HushError I_HushError J_HushError V_NoFit I_NoFit J_NoFit V_NoInput I_NoInput J_NoInput V_NoName I_NoName J_NoName V_NoOrder I_NoOrder J_NoOrder V_NoRow I_NoRow J_NoRow V_NoText I_NoText J_NoText I_ValueError J_ValueError FV_run FV_traced ab3 abX;have acd:=Ly (P:=l.prog) (w:=w) (base:=base) B abl abk abm abg abh hkx XT_HushError XT_NoInput Y_HushError Z_HushError Y_NoInput Z_NoInput V_HushError I_HushError J_HushError V_NoFit I_NoFit J_NoFit V_NoInput I_NoInput J_NoInput V_NoName I_NoName J_NoName V_NoOrder I_NoOrder J_NoOrder V_NoRow I_NoRow J_NoRow V_NoText I_NoText J_NoText I_ValueError J_ValueError FV_run FV_traced acK;have aca:=Jo (P:=l.prog) (w:=w) (base:=base) B abl abk abm abg abh hkx XT_HushError XT_NoInput Y_HushError Z_HushError Y_NoInput Z_NoInput V_HushError I_HushError J_HushError V_NoFit I_NoFit J_NoFit V_NoInput I_NoInput J_NoInput V_NoName I_NoName J_NoName V_NoOrder I_NoOrder J_NoOrder V_NoRow I_NoRow J_NoRow V_NoText I_NoText J_NoText I_ValueError J_ValueError FV_run FV_traced acJ;have abJ:=QK (wN (P:=l.prog) (w:=w) (base:=base) B abl abk abm abg abh hkx XT_HushError XT_NoInput Y_HushError Z_HushError Y_NoInput Z_NoInput V_HushError I_HushError J_HushError V_NoFit I_NoFit J_NoFit V_NoInput I_NoInput J_NoInput V_NoName I_NoName J_NoName V_NoOrder I_NoOrder J_NoOrder V_NoRow I_NoRow J_NoRow V_NoText I_NoText J_NoText I_ValueError J_ValueError FV_run FV_traced acf ab5) mk_Plan kc_Plan;have abZ:=Cq (P:=l.prog) (w:=w) (base:=base) B abl abk abm abg abh hkx XT_HushError XT_NoInput Y_HushError Z_HushError Y_NoInput Z_NoInput V_HushError I_HushError J_HushError V_NoFit I_NoFit J_NoFit V_NoInput I_NoInput J_NoInput V_NoName I_NoName J_NoName V_NoOrder I_NoOrder J_NoOrder V_NoRow I_NoRow J_NoRow V_NoText I_NoText J_NoText I_ValueError J_ValueError FV_run FV_traced acw;have abv:=zp (P:=l.prog) (w:=w) (base:=base) B abl abk abm abg abh hkx XT_HushError XT_NoInput Y_HushError Z_HushError Y_NoInput Z_NoInput V_HushError I_HushError J_HushError V_NoFit I_NoFit J_NoFit V_NoInput I_NoInput J_NoInput V_NoName I_NoName J_NoName V_NoOrder I_NoOrder J_NoOrder V_NoRow I_NoRow J_NoRow V_NoText I_NoText J_NoText I_ValueError J_ValueError FV_run FV_traced aco;have abA:=uH (P:=l.prog) (w:=w) (base:=base) B abl abk abm abg abh hkx XT_HushError XT_NoInput Y_HushError Z_HushError Y_NoInput Z_NoInput V_HushError I_HushError J_HushError V_NoFit I_NoFit J_NoFit V_NoInput I_NoInput J_NoInput V_NoName I_NoName J_NoName V_NoOrder I_NoOrder J_NoOrder V_NoRow I_NoRow J_NoRow V_NoText I_NoText J_NoText I_ValueError J_ValueError FV_run FV_traced ab9 abZ abv;have abB:=QK (uI (P:=l.prog) (w:=w) (base:=base) B abl abk abm abg abh hkx XT_HushError XT_NoInput Y_HushError Z_HushError Y_NoInput Z_NoInput V_HushError I_HushError J_HushError V_NoFit I_NoFit J_NoFit V_NoInput I_NoInput J_NoInput V_NoName I_NoName J_NoName V_NoOrder I_NoOrder J_NoOrder V_NoRow I_NoRow J_NoRow V_NoText I_NoText J_NoText I_ValueError J_ValueError FV_run FV_traced ab8 abJ abA acd) mk_Running kc_Running;have abU:=Ak (P:=l.prog) (w:=w) (base:=base) B abl abk abm abg abh hkx XT_HushError XT_NoInput Y_HushError Z_HushError Y_NoInput Z_NoInput V_HushError I_HushError J_HushError V_NoFit I_NoFit J_NoFit V_NoInput I_NoInput J_NoInput V_NoName I_NoName J_NoName V_NoOrder I_NoOrder J_NoOrder V_NoRow I_NoRow J_NoRow V_NoText I_NoText J_NoText I_ValueError J_ValueError FV_run FV_traced acr;have ab1:=Fo (P:=l.prog) (w:=w) (base:=base) B abl abk abm abg abh hkx XT_HushError XT_NoInput Y_HushError Z_HushError Y_NoInput Z_NoInput V_HushError I_HushError J_HushError V_NoFit I_NoFit J_NoFit V_NoInput I_NoInput J_NoInput V_NoName I_NoName J_NoName V_NoOrder I_NoOrder J_NoOrder V_NoRow I_NoRow J_NoRow V_NoText I_NoText J_NoText I_ValueError J_ValueError FV_run FV_traced acC;have abu:=ye (P:=l.prog) (w:=w) (base:=base) B abl abk abm abg abh hkx XT_HushError XT_NoInput Y_HushError Z_HushError Y_NoInput Z_NoInput V_HushError I_HushError J_HushError V_NoFit I_NoFit J_NoFit V_NoInput I_NoInput J_NoInput V_NoName I_NoName J_NoName V_NoOrder I_NoOrder J_NoOrder V_NoRow I_NoRow J_NoRow V_NoText I_NoText J_NoText I_ValueError J_ValueError FV_run FV_traced ack;have abK:=wO (P:=l.prog) (w:=w) (base:=base) B abl abk abm abg abh hkx XT_HushError XT_NoInput Y_HushError Z_HushError Y_NoInput Z_NoInput V_HushError I_HushError J_HushError V_NoFit I_NoFit J_NoFit V_NoInput I_NoInput J_NoInput V_NoName I_NoName J_NoName V_NoOrder I_NoOrder J_NoOrder V_NoRow I_NoRow J_NoRow V_NoText I_NoText J_NoText I_ValueError J_ValueError FV_run FV_traced acg ab6;have abL:=wQ (P:=l.prog) (w:=w) (base:=base) B abl abk abm abg abh hkx XT_HushError XT_NoInput Y_HushError Z_HushError Y_NoInput Z_NoInput V_HushError I_HushError J_HushError V_NoFit I_NoFit J_NoFit V_NoInput I_NoInput J_NoInput V_NoName I_NoName J_NoName V_NoOrder I_NoOrder J_NoOrder V_NoRow I_NoRow J_NoRow V_NoText I_NoText J_NoText I_ValueError J_ValueError FV_run FV_traced ach abU ab1 abv abu abK;have abP:=yf (P:=l.prog) (w:=w) (base:=base) B abl abk abm abg abh hkx XT_HushError XT_NoInput Y_HushError Z_HushError Y_NoInput Z_NoInput V_HushError I_HushError J_HushError V_NoFit I_NoFit J_NoFit V_NoInput I_NoInput J_NoInput V_NoName I_NoName J_NoName V_NoOrder I_NoOrder J_NoOrder V_NoRow I_NoRow J_NoRow V_NoText I_NoText J_NoText I_ValueError J_ValueError FV_run FV_traced acj abL abu;have abw:=zq (P:=l.prog) (w:=w) (base:=base) B abl abk abm abg abh hkx XT_HushError XT_NoInput Y_HushError Z_HushError Y_NoInput Z_NoInput V_HushError I_HushError J_HushError V_NoFit I_NoFit J_NoFit V_NoInput I_NoInput J_NoInput V_NoName I_NoName J_NoName V_NoOrder I_NoOrder J_NoOrder V_NoRow I_NoRow J_NoRow V_NoText I_NoText J_NoText I_ValueError J_ValueError FV_run FV_traced ab4 abB abP abR;have ab2:=Fp (P:=l.prog) (w:=w) (base:=base) B abl abk abm abg abh hkx XT_HushError XT_NoInput Y_HushError Z_HushError Y_NoInput Z_NoInput V_HushError I_HushError J_HushError V_NoFit I_NoFit J_NoFit V_NoInput I_NoInput J_NoInput V_NoName I_NoName J_NoName V_NoOrder I_NoOrder J_NoOrder V_NoRow I_NoRow J_NoRow V_NoText I_NoText J_NoText I_ValueError J_ValueError FV_run FV_traced acA;have acE:=Wa (P:=l.prog) (w:=w) (base:=base) B abl abk abm abg abh hkx XT_HushError XT_NoInput Y_HushError Z_HushError Y_NoInput Z_NoInput V_HushError I_HushError J_HushError V_NoFit I_NoFit J_NoFit V_NoInput I_NoInput J_NoInput V_NoName I_NoName J_NoName V_NoOrder I_NoOrder J_NoOrder V_NoRow I_NoRow J_NoRow V_NoText I_NoText J_NoText I_ValueError J_ValueError FV_run FV_traced acL aca abw ab2;have ace:=Lz (P:=l.prog) (w:=w) (base:=base) B abl abk abm abg abh hkx XT_HushError XT_NoInput Y_HushError Z_HushError Y_NoInput Z_NoInput V_HushError I_HushError J_HushError V_NoFit I_NoFit J_NoFit V_NoInput I_NoInput J_NoInput V_NoName I_NoName J_NoName V_NoOrder I_NoOrder J_NoOrder V_NoRow I_NoRow J_NoRow V_NoText I_NoText J_NoText I_ValueError J_ValueError FV_run FV_traced acs abw;have abo:=Fq (P:=l.prog) (w:=w) (base:=base) B abl abk abm abg abh hkx XT_HushError XT_NoInput Y_HushError Z_HushError Y_NoInput Z_NoInput V_HushError I_HushError J_HushError V_NoFit I_NoFit J_NoFit V_NoInput I_NoInput J_NoInput V_NoName I_NoName J_NoName V_NoOrder I_NoOrder J_NoOrder V_NoRow I_NoRow J_NoRow V_NoText I_NoText J_NoText I_ValueError J_ValueError FV_run FV_traced acB;have abt:=Al (P:=l.prog) (w:=w) (base:=base) B abl abk abm abg abh hkx XT_HushError XT_NoInput Y_HushError Z_HushError Y_NoInput Z_NoInput V_HushError I_HushError J_HushError V_NoFit I_NoFit J_NoFit V_NoInput I_NoInput J_NoInput V_NoName I_NoName J_NoName V_NoOrder I_NoOrder J_NoOrder V_NoRow I_NoRow J_NoRow V_NoText I_NoText J_NoText I_ValueError J_ValueError FV_run FV_traced acq;have acy:=tL (P:=l.prog) (w:=w) (base:=base) B abl abk abm abg abh hkx XT_HushError XT_NoInput Y_HushError Z_HushError Y_NoInput Z_NoInput V_HushError I_HushError J_HushError V_NoFit I_NoFit J_NoFit V_NoInput I_NoInput J_NoInput V_NoName I_NoName J_NoName V_NoOrder I_NoOrder J_NoOrder V_NoRow I_NoRow J_NoRow V_NoText I_NoText J_NoText I_ValueError J_ValueError FV_run FV_traced abE 40;have abx:=acy;have ab0:=Cu (P:=l.prog) (w:=w) (base:=base) B abl abk abm abg abh hkx XT_HushError XT_NoInput Y_HushError Z_HushError Y_NoInput Z_NoInput V_HushError I_HushError J_HushError V_NoFit I_NoFit J_NoFit V_NoInput I_NoInput J_NoInput V_NoName I_NoName J_NoName V_NoOrder I_NoOrder J_NoOrder V_NoRow I_NoRow J_NoRow V_NoText I_NoText J_NoText I_ValueError J_ValueError FV_run FV_traced acu abo;have abV:=Am (P:=l.prog) (w:=w) (base:=base) B abl abk abm abg abh hkx XT_HushError XT_NoInput Y_HushError Z_HushError Y_NoInput Z_NoInput V_HushError I_HushError J_HushError V_NoFit I_NoFit J_NoFit V_NoInput I_NoInput J_NoInput V_NoName I_NoName J_NoName V_NoOrder I_NoOrder J_NoOrder V_NoRow I_NoRow J_NoRow V_NoText I_NoText J_NoText I_ValueError J_ValueError FV_run FV_traced ab7 abo abt;have abW:=Gs (P:=l.prog) (w:=w) (base:=base) B abl abk abm abg abh hkx XT_HushError XT_NoInput Y_HushError Z_HushError Y_NoInput Z_NoInput V_HushError I_HushError J_HushError V_NoFit I_NoFit J_NoFit V_NoInput I_NoInput J_NoInput V_NoName I_NoName J_NoName V_NoOrder I_NoOrder J_NoOrder V_NoRow I_NoRow J_NoRow V_NoText I_NoText J_NoText I_ValueError J_ValueError FV_run FV_traced acH;have abT:=zr (P:=l.prog) (w:=w) (base:=base) B abl abk abm abg abh hkx XT_HushError XT_NoInput Y_HushError Z_HushError Y_NoInput Z_NoInput V_HushError I_HushError J_HushError V_NoFit I_NoFit J_NoFit V_NoInput I_NoInput J_NoInput V_NoName I_NoName J_NoName V_NoOrder I_NoOrder J_NoOrder V_NoRow I_NoRow J_NoRow V_NoText I_NoText J_NoText I_ValueError J_ValueError FV_run FV_traced acl abW;have abH:=vP (P:=l.prog) (w:=w) (base:=base) B abl abk abm abg abh hkx XT_HushError XT_NoInput Y_HushError Z_HushError Y_NoInput Z_NoInput V_HushError I_HushError J_HushError V_NoFit I_NoFit J_NoFit V_NoInput I_NoInput J_NoInput V_NoName I_NoName J_NoName V_NoOrder I_NoOrder J_NoOrder V_NoRow I_NoRow J_NoRow V_NoText I_NoText J_NoText I_ValueError J_ValueError FV_run FV_traced ab3 abX;have abr:=vQ (P:=l.prog) (w:=w) (base:=base) B abl abk abm abg abh hkx XT_HushError XT_NoInput Y_HushError Z_HushError Y_NoInput Z_NoInput V_HushError I_HushError J_HushError V_NoFit I_NoFit J_NoFit V_NoInput I_NoInput J_NoInput V_NoName I_NoName J_NoName V_NoOrder I_NoOrder J_NoOrder V_NoRow I_NoRow J_NoRow V_NoText I_NoText J_NoText I_ValueError J_ValueError FV_run FV_traced ab4 abH;have abS:=LC (P:=l.prog) (w:=w) (base:=base) B abl abk abm abg abh hkx XT_HushError XT_NoInput Y_HushError Z_HushError Y_NoInput Z_NoInput V_HushError I_HushError J_HushError V_NoFit I_NoFit J_NoFit V_NoInput I_NoInput J_NoInput V_NoName I_NoName J_NoName V_NoOrder I_NoOrder J_NoOrder V_NoRow I_NoRow J_NoRow V_NoText I_NoText J_NoText I_ValueError J_ValueError FV_run FV_traced acL abr;have abz:=Ft (P:=l.prog) (w:=w) (base:=base) B abl abk abm abg abh hkx XT_HushError XT_NoInput Y_HushError Z_HushError Y_NoInput Z_NoInput V_HushError I_HushError J_HushError V_NoFit I_NoFit J_NoFit V_NoInput I_NoInput J_NoInput V_NoName I_NoName J_NoName V_NoOrder I_NoOrder J_NoOrder V_NoRow I_NoRow J_NoRow V_NoText I_NoText J_NoText I_ValueError J_ValueError FV_run FV_traced acs abr;have abG:=zu (P:=l.prog) (w:=w) (base:=base) B abl abk abm abg abh hkx XT_HushError XT_NoInput Y_HushError Z_HushError Y_NoInput Z_NoInput V_HushError I_HushError J_HushError V_NoFit I_NoFit J_NoFit V_NoInput I_NoInput J_NoInput V_NoName I_NoName J_NoName V_NoOrder I_NoOrder J_NoOrder V_NoRow I_NoRow J_NoRow V_NoText I_NoText J_NoText I_ValueError J_ValueError FV_run FV_traced acn abS abz;have abQ:=Cv (P:=l.prog) (w:=w) (base:=base) B abl abk abm abg abh hkx XT_HushError XT_NoInput Y_HushError Z_HushError Y_NoInput Z_NoInput V_HushError I_HushError J_HushError V_NoFit I_NoFit J_NoFit V_NoInput I_NoInput J_NoInput V_NoName I_NoName J_NoName V_NoOrder I_NoOrder J_NoOrder V_NoRow I_NoRow J_NoRow V_NoText I_NoText J_NoText I_ValueError J_ValueError FV_run FV_traced acv abS abz;have abM:=wR (P:=l.prog) (w:=w) (base:=base) B abl abk abm abg abh hkx XT_HushError XT_NoInput Y_HushError Z_HushError Y_NoInput Z_NoInput V_HushError I_HushError J_HushError V_NoFit I_NoFit J_NoFit V_NoInput I_NoInput J_NoInput V_NoName I_NoName J_NoName V_NoOrder I_NoOrder J_NoOrder V_NoRow I_NoRow J_NoRow V_NoText I_NoText J_NoText I_ValueError J_ValueError FV_run FV_traced ab7 abo abt;exact Vl (Wb (P:=l.prog) (w:=w) (base:=base) B abl abk abm abg abh hkx XT_HushError XT_NoInput Y_HushError Z_HushError Y_NoInput Z_NoInput V_HushError I_HushError J_HushError V_NoFit I_NoFit J_NoFit V_NoInput I_NoInput J_NoInput V_NoName I_NoName J_NoName V_NoOrder I_NoOrder J_NoOrder V_NoRow I_NoRow J_NoRow V_NoText I_NoText J_NoText I_ValueError J_ValueError FV_run FV_traced (du (st:=mO) l25 c25 k25) abx abQ abo abG ab0 abT abV abM acE ace) HL
theorem walk {l:W.OpenLaw} {q:Program} {loose:List Str} {XP:(Str->Option Value)->Heap->Prop} {YP:World->Heap->Prop} {d:DefRec} {K:Params->FG} (hn:l.most=some 63) (hdf:d.params.defaults=[])
 (hY:∀(w:World) (h:Heap),YP w h->(K w.params).In h)
 (F:∀(w:World) (mg:Str->Option Value) (fa:Addr) (h:Heap),(K w.params).In h->h.Ns mainGlobals mg->mg d.name=some (.ref fa)->
   ∃fd:FuncData,(∀(s:Shared) (u:Value),BindsTo s fd ⟨[u],[]⟩ [("_law_script",u)])/\∀base:Heap,(K w.params).In base->base.Ns mainGlobals mg->kW l.prog w (K w.params) mg base o7 88 fa fd ["_law_script"] (Dc (K w.params))):
 W.WalkO q loose XP YP l.row.toRowW d [] (λf vs=>PySem.call f vs):=
 L2.walk_of (n:=63) (k:=88) (x := "_law_script") (CX:=λ_=>o7) (sp:=λw=>Dc (K w.params)) hn (by decide) hdf ⟨λ_=>rfl,by decide,by decide,rfl⟩ hY F (λ_ _ a ns hl _ hS=>⟨a,ns,rfl,hS,hl,λ_=>rfl⟩) λ_ _ _ _ _ z=>z
end Law
end
namespace PySem.W.Fast
def tw6875397962282907:=0
def tw14520895275410540327:=0
def tw10451345961106971486:=0
def tw8343574585479269557:=0
def tw17672759380011886760:=0
def tw5421647850606474140:=0
def tw16471156960596025474:=0
def tw12329100482267885081:=0
def tw3873879301310101406:=0
def tw2101623039845213091:=0
def tw7831412175208240633:=0
def tw6514642209046085748:=0
def tw14666025700190680482:=0
def tw17260545552696717695:=0
def tw1769437376705659353:=0
def tw9667466898932792695:=0
def tw14027304742732394886:=0
def tw9984989276826412341:=0
def tw8074327304390313278:=0
def tw12349753516473993799:=0
def tw17192695263481494076:=0
def tw9213762630747742432:=0
def tw14031165957382596298:=0
def tw13953790841767348664:=0
def tw14611473568198431704:=0
def tw9559940411629151467:=0
def tw3209126655395466349:=0
def tw2357031065465684144:=0
def tw14107374333914712589:=0
end PySem.W.Fast
open PySem PySem.W PyProof.Rows
set_option maxRecDepth 100000 in
set_option maxHeartbeats 0 in
theorem PySem.Challenge.cw_hushwise_k23_no_input_holds : PySem.Challenge.rw_hushwise_k23_no_input.Holds := by
 w_on; o_law; k_head; (case hw=>w_witness2)
 k_fill
 refine Law.walk (l:=PySem.Challenge.rw_hushwise_k23_no_input) rfl rfl (fun w h Y=>W.kIn_of Y) ?F
 case F=>
  intro w mg fa h KX G hmg
  refine' Law.all_mk KX G hmg ?aC_Plan ?pg_Plan ?hd_Plan ?po_Plan ?sa_Plan ?mk_Plan ?kc_Plan ?n_Plan_told ?n_Plan_lists ?n_Plan_heads ?aC_Running ?pg_Running ?hd_Running ?po_Running ?sa_Running ?mk_Running ?kc_Running ?n_Running_plan ?n_Running_boxes ?n_Running_own ?n_Running_budget ?n_Running_word ?n_Running_moments ?n_Running_due ?aC_HushError ?ex_HushError ?aC_NoInput ?ex_NoInput ?mr_NoInput_HushError ?mr_NoInput_NoInput ?xcg ?xtk ?xga_NoInput ?xgt_NoInput ?xme_NoInput ?xmo_NoInput ?xic_NoInput ?xca_NoInput ?aV_HushError ?ty_HushError ?cl_HushError ?mv_NoInput_HushError ?aV_NoFit ?ty_NoFit ?cl_NoFit ?mv_NoInput_NoFit ?nq_NoInput_NoFit ?aV_NoInput ?ty_NoInput ?cl_NoInput ?mv_NoInput_NoInput ?aV_NoName ?ty_NoName ?cl_NoName ?mv_NoInput_NoName ?nq_NoInput_NoName ?aV_NoOrder ?ty_NoOrder ?cl_NoOrder ?mv_NoInput_NoOrder ?nq_NoInput_NoOrder ?aV_NoRow ?ty_NoRow ?cl_NoRow ?mv_NoInput_NoRow ?nq_NoInput_NoRow ?aV_NoText ?ty_NoText ?cl_NoText ?mv_NoInput_NoText ?nq_NoInput_NoText ?mv_NoInput_ValueError ?a1 ?l1 ?c1 ?k1 ?a2 ?l2 ?c2 ?k2 ?a3 ?l3 ?c3 ?k3 ?a4 ?l4 ?c4 ?k4 ?a5 ?l5 ?c5 ?k5 ?a6 ?l6 ?c6 ?k6 ?a7 ?l7 ?c7 ?k7 ?a8 ?l8 ?c8 ?k8 ?a9 ?l9 ?c9 ?k9 ?a10 ?l10 ?c10 ?k10 ?a11 ?l11 ?c11 ?k11 ?a12 ?l12 ?c12 ?k12 ?a13 ?l13 ?c13 ?k13 ?a14 ?l14 ?c14 ?k14 ?a15 ?l15 ?c15 ?k15 ?a16 ?l16 ?c16 ?k16 ?a17 ?l17 ?c17 ?k17 ?a18 ?l18 ?c18 ?k18 ?a19 ?l19 ?c19 ?k19 ?a20 ?l20 ?c20 ?k20 ?a21 ?l21 ?c21 ?k21 ?a22 ?l22 ?c22 ?k22 ?a23 ?l23 ?c23 ?k23 ?a24 ?l24 ?c24 ?k24 ?a25 ?l25 ?c25 ?k25 ?a26 ?i26 ?l26 ?c26 ?k26 ?a27 ?i27 ?l27 ?c27 ?k27 ?a28 ?i28 ?l28 ?c28 ?k28 ?a29 ?i29 ?l29 ?c29 ?k29 ?a30 ?i30 ?l30 ?c30 ?k30 ?a31 ?i31 ?l31 ?c31 ?k31 ?a32 ?i32 ?l32 ?c32 ?k32 ?a33 ?i33 ?l33 ?c33 ?k33 ?a34 ?i34 ?l34 ?c34 ?k34 ?a35 ?i35 ?l35 ?c35 ?k35 ?a36 ?i36 ?l36 ?c36 ?k36 ?z0 ?z1 ?z2 ?z3 ?z4 ?z5 ?z6 ?z7 ?z8 ?z9 ?z10 ?z11 ?z12 ?z13 ?z14 ?y_LIMIT Law.law_true
  case aC_Plan=>k_is
  case pg_Plan=>k_is
  case hd_Plan=>k_is
  case po_Plan=>k_is
  case sa_Plan=>k_is
  case mk_Plan=>k_is
  case kc_Plan=>k_is
  case n_Plan_told=>k_is
  case n_Plan_lists=>k_is
  case n_Plan_heads=>k_is
  case aC_Running=>k_is
  case pg_Running=>k_is
  case hd_Running=>k_is
  case po_Running=>k_is
  case sa_Running=>k_is
  case mk_Running=>k_is
  case kc_Running=>k_is
  case n_Running_plan=>k_is
  case n_Running_boxes=>k_is
  case n_Running_own=>k_is
  case n_Running_budget=>k_is
  case n_Running_word=>k_is
  case n_Running_moments=>k_is
  case n_Running_due=>k_is
  case aC_HushError=>k_is
  (case ex_HushError=>k_exc)
  case aC_NoInput=>k_is
  (case ex_NoInput=>k_exc)
  case mr_NoInput_HushError=>k_is
  case mr_NoInput_NoInput=>k_is
  case xcg=>k_is
  case xtk=>k_is
  case xga_NoInput=>k_is
  case xgt_NoInput=>k_is
  case xme_NoInput=>k_is
  case xmo_NoInput=>k_is
  case xic_NoInput=>k_is
  case xca_NoInput=>k_is
  case aV_HushError=>k_is
  case ty_HushError=>k_is
  case cl_HushError=>k_is
  case mv_NoInput_HushError=>k_is
  case aV_NoFit=>k_is
  case ty_NoFit=>k_is
  case cl_NoFit=>k_is
  case mv_NoInput_NoFit=>k_is
  (case nq_NoInput_NoFit=>exact rfl)
  case aV_NoInput=>k_is
  case ty_NoInput=>k_is
  case cl_NoInput=>k_is
  case mv_NoInput_NoInput=>k_is
  case aV_NoName=>k_is
  case ty_NoName=>k_is
  case cl_NoName=>k_is
  case mv_NoInput_NoName=>k_is
  (case nq_NoInput_NoName=>exact rfl)
  case aV_NoOrder=>k_is
  case ty_NoOrder=>k_is
  case cl_NoOrder=>k_is
  case mv_NoInput_NoOrder=>k_is
  (case nq_NoInput_NoOrder=>exact rfl)
  case aV_NoRow=>k_is
  case ty_NoRow=>k_is
  case cl_NoRow=>k_is
  case mv_NoInput_NoRow=>k_is
  (case nq_NoInput_NoRow=>exact rfl)
  case aV_NoText=>k_is
  case ty_NoText=>k_is
  case cl_NoText=>k_is
  case mv_NoInput_NoText=>k_is
  (case nq_NoInput_NoText=>exact rfl)
  case mv_NoInput_ValueError=>k_is
  case a1=>k_is
  case l1=>k_is
  case c1=>k_is
  case k1=>k_is
  case a2=>k_is
  case l2=>k_is
  case c2=>k_is
  case k2=>k_is
  case a3=>k_is
  case l3=>k_is
  case c3=>k_is
  case k3=>k_is
  case a4=>k_is
  case l4=>k_is
  case c4=>k_is
  case k4=>k_is
  case a5=>k_is
  case l5=>k_is
  case c5=>k_is
  case k5=>k_is
  case a6=>k_is
  case l6=>k_is
  case c6=>k_is
  case k6=>k_is
  case a7=>k_is
  case l7=>k_is
  case c7=>k_is
  case k7=>k_is
  case a8=>k_is
  case l8=>k_is
  case c8=>k_is
  case k8=>k_is
  case a9=>k_is
  case l9=>k_is
  case c9=>k_is
  case k9=>k_is
  case a10=>k_is
  case l10=>k_is
  case c10=>k_is
  case k10=>k_is
  case a11=>k_is
  case l11=>k_is
  case c11=>k_is
  case k11=>k_is
  case a12=>k_is
  case l12=>k_is
  case c12=>k_is
  case k12=>k_is
  case a13=>k_is
  case l13=>k_is
  case c13=>k_is
  case k13=>k_is
  case a14=>k_is
  case l14=>k_is
  case c14=>k_is
  case k14=>k_is
  case a15=>k_is
  case l15=>k_is
  case c15=>k_is
  case k15=>k_is
  case a16=>k_is
  case l16=>k_is
  case c16=>k_is
  case k16=>k_is
  case a17=>k_is
  case l17=>k_is
  case c17=>k_is
  case k17=>k_is
  case a18=>k_is
  case l18=>k_is
  case c18=>k_is
  case k18=>k_is
  case a19=>k_is
  case l19=>k_is
  case c19=>k_is
  case k19=>k_is
  case a20=>k_is
  case l20=>k_is
  case c20=>k_is
  case k20=>k_is
  case a21=>k_is
  case l21=>k_is
  case c21=>k_is
  case k21=>k_is
  case a22=>k_is
  case l22=>k_is
  case c22=>k_is
  case k22=>k_is
  case a23=>k_is
  case l23=>k_is
  case c23=>k_is
  case k23=>k_is
  case a24=>k_is
  case l24=>k_is
  case c24=>k_is
  case k24=>k_is
  case a25=>k_is
  case l25=>k_is
  case c25=>k_is
  case k25=>k_is
  case a26=>k_is
  case i26=>k_is
  case l26=>k_is
  case c26=>k_is
  case k26=>k_is
  case a27=>k_is
  case i27=>k_is
  case l27=>k_is
  case c27=>k_is
  case k27=>k_is
  case a28=>k_is
  case i28=>k_is
  case l28=>k_is
  case c28=>k_is
  case k28=>k_is
  case a29=>k_is
  case i29=>k_is
  case l29=>k_is
  case c29=>k_is
  case k29=>k_is
  case a30=>k_is
  case i30=>k_is
  case l30=>k_is
  case c30=>k_is
  case k30=>k_is
  case a31=>k_is
  case i31=>k_is
  case l31=>k_is
  case c31=>k_is
  case k31=>k_is
  case a32=>k_is
  case i32=>k_is
  case l32=>k_is
  case c32=>k_is
  case k32=>k_is
  case a33=>k_is
  case i33=>k_is
  case l33=>k_is
  case c33=>k_is
  case k33=>k_is
  case a34=>k_is
  case i34=>k_is
  case l34=>k_is
  case c34=>k_is
  case k34=>k_is
  case a35=>k_is
  case i35=>k_is
  case l35=>k_is
  case c35=>k_is
  case k35=>k_is
  case a36=>k_is
  case i36=>k_is
  case l36=>k_is
  case c36=>k_is
  case k36=>k_is
  case z0=>k_is
  case z1=>k_is
  case z2=>k_is
  case z3=>k_is
  case z4=>k_is
  case z5=>k_is
  case z6=>k_is
  case z7=>k_is
  case z8=>k_is
  case z9=>k_is
  case z10=>k_is
  case z11=>k_is
  case z12=>k_is
  case z13=>k_is
  case z14=>k_is
  case y_LIMIT=>k_is
