import PyProof.Rows.All
import Wide.All
import OpenK.AllK
import Wide.FinOn
import Lean
import PyProof.EqAt
import PyProof.EqKinds
import PyProof.TupleCall
import PyProof.NeKinds
import PyProof.StrBlockI
import PyProof.WalksEnum
import PyProof.EnumMake
import PyProof.ZipIter
import PyProof.Rows.SortStr
import PyProof.Rows.SetFrom
import PyProof.CollectWalk
import PyProof.SetRoads
import PyProof.DictWalks
import PyProof.SumWalk
import PyProof.Rows.SumGenD
import PyProof.DictItems
import KE.KRevIter
import PyProof.Rows.FStrParts
import PyProof.StationsW
import PyProof.ReprRoads
import PyProof.ReprLen
import PyProof.ReprStr
import PyProof.StrLawsRepr
import PyProof.FString
import KE.KIsAll
import KE.KEqDict
import PyProof.AutoSeq1
import PyProof.StrCalls
import PySem.Challenge.RW_hushwise_k24_straight_rows
set_option Elab.async false
set_option linter.all false
set_option bootstrap.genMatcherCode false
set_option genSizeOf false
set_option compiler.extract_closed false
set_option maxRecDepth 100000
set_option maxHeartbeats 8000000
abbrev FG:=PySem.W.Frag
section
open PySem PySem.Spec PyProof.Rows
abbrev Yu:=@Option.bind_some
abbrev Yv:=@List.mem_cons_self
abbrev Yw:=@List.length_map
abbrev Yx:=@Heap.get?_push_of_some
abbrev Yy:=@Nat.le_refl
abbrev Yz:=@List.getElem?_set_ne
abbrev YB:=@List.length_cons
abbrev YC:=@List.mem_cons
abbrev YD:=@List.length_append
abbrev YF:=@List.getElem?_eq_some_iff
abbrev YG:=@List.mem_cons_of_mem
abbrev YH:=@List.size_toArray
abbrev YJ:=@List.sublist_cons_self
abbrev YK:=@Heap.lt_size
abbrev YL:=@List.getElem?_append_right
abbrev YM:=@List.getElem?_set_self
abbrev YQ:=@List.getElem?_eq_getElem
abbrev YS:=@List.append_nil
abbrev YT:=@List.map_cons
abbrev YW:=@Option.some.inj
abbrev YX:=@List.length_set
abbrev YZ:=@List.mem_map
abbrev Y0:=@List.append_assoc
abbrev Y4:=@Heap.get?_push_size
abbrev Y5:=@Nat.lt_of_lt_of_le
abbrev Y6:=@List.map_append
abbrev Y7:=@List.getElem?_map
abbrev Y8:=@List.not_mem_nil
abbrev Y9:=@List.getElem?_append_left
abbrev Za:=@Int.emod_lt_of_pos
abbrev Zb:=@Nat.ne_of_lt
abbrev Zc:=@List.map_map
abbrev Zd:=@List.mem_append_right
abbrev Ze:=@Bool.false_ne_true
abbrev Zf:=@Int.emod_nonneg
abbrev Zg:=@List.nodup_cons
abbrev Zh:=@PassesOwn.never
abbrev Zi:=@PySem.F.plainAttrs_list
abbrev Zj:=@List.lookup_cons
abbrev Zk:=@List.perm_middle
abbrev Zm:=@List.filterMap_cons_none
abbrev Zn:=@List.map_congr_left
abbrev Zo:=@Nat.le_trans
abbrev Zq:=@List.mem_of_getElem?
abbrev Zr:=@List.mem_filterMap
abbrev Zu:=@List.sublist_append_left
abbrev Zv:=@List.mem_append_left
abbrev Zw:=@Nat.ne_of_gt
abbrev Zx:=@PySem.F.slot_list_append
abbrev Zy:=@PySem.F.type_list_append
abbrev Zz:=@Nat.sub_self
abbrev ZC:=@Nat.zero_le
abbrev ZD:=@List.set_set
abbrev ZF:=@PySem.boot_len
abbrev ZJ:=@List.length_range
abbrev ZK:=@List.mem_append
abbrev ZL:=@List.nil_append
abbrev ZM:=@List.getD_eq_getElem?_getD
abbrev ZP:=@List.prefix_refl
abbrev ZQ:=@List.zip_cons_cons
abbrev ZR:=@Int.toNat_natCast
abbrev ZS:=@Nat.lt_irrefl
abbrev ZV:=@Nat.lt_succ_self
abbrev ZW:=@List.cons_append
abbrev ZX:=@List.mem_singleton
abbrev ZZ:=@List.of_mem_zip
abbrev Z3:=@List.foldl_cons
abbrev Z4:=@Option.map_some
abbrev Z5:=@List.zip_append
abbrev Z6:=@List.perm_append_comm
abbrev Z7:=@List.getElem?_eq_none
abbrev Z8:=@F.slot_tuple_iterator_next
abbrev Z9:=@Nat.le_of_succ_le
abbrev aaa:=@Nat.lt_succ_of_lt
abbrev aab:=@List.nodup_append
abbrev aac:=@List.sublist_append_right
abbrev aad:=@List.drop_eq_getElem_cons
abbrev aae:=@Heap.size_push
abbrev aaf:=@List.length_take
abbrev aag:=@Bool.and_eq_true
abbrev aah:=@List.range'_succ
abbrev aai:=@PySem.mem_of_lookup
abbrev aaj:=@Heap.SameBut.update
abbrev aak:=@List.find?_cons
abbrev aal:=@Heap.get?_update_other
abbrev aam:=@List.take_of_length_le
abbrev aan:=@List.Sublist.refl
abbrev aao:=@Heap.get?_update_self
abbrev aap:=@List.map_nil
abbrev aaq:=@List.nodup_nil
abbrev aar:=@Array.length_toList
abbrev aas:=@Nat.le_of_lt
abbrev aat:=@Option.isSome_iff_exists
abbrev aau:=@Nat.lt_of_le_of_lt
abbrev aav:=@Nat.add_right_comm
abbrev aaw:=@Nat.le_succ
abbrev aax:=@Array.getElem?_eq_none
abbrev aay:=@List.find?_cons_of_pos
abbrev aaz:=@List.find?_cons_of_neg
abbrev aaA:=@List.length_drop
abbrev aaB:=@Nat.le_of_not_lt
abbrev aaC:=@Nat.le_add_right
abbrev aaD:=@List.length_nil
abbrev aaE:=@F.slot_zip_next
abbrev aaF:=@Nat.zero_add
abbrev aaG:=@List.eq_nil_of_length_eq_zero
abbrev aaH:=@List.filterMap_cons
abbrev aaI:=@List.length_reverse
abbrev aaJ:=@F.args_tuple_iterator_next_1
abbrev aaK:=@F.entry_tuple_iterator_next
abbrev aaL:=@W.kia_one
abbrev aaM:=@Bool.false_eq_true
abbrev aaN:=@List.prefix_append
abbrev aaO:=@W.kia_tup
abbrev aaP:=@List.any_cons
abbrev aaQ:=@Nat.add_assoc
abbrev aaR:=@W.cellsFrom_some
abbrev aaS:=@Option.getD_some
abbrev aaT:=@List.zipIdx_cons
abbrev aaU:=@Nat.succ.inj
abbrev aaV:=@List.drop_length
abbrev aaW:=@W.methodCall_KW
abbrev aaX:=@List.forIn_cons
abbrev aaY:=@wpAny_bind
abbrev aaZ:=@if_pos
abbrev aa0:=@if_neg
abbrev aa1:=@wpAny_pure
abbrev aa2:=@decide_eq_false
abbrev aa3:=@decide_eq_true
abbrev aa4:=@beq_eq_false_iff_ne
abbrev aa5:=@beq_self_eq_true
end
namespace L2
open PySem PySem.Spec PyProof.Rows
variable {pins:List (Addr×Obj)} {E:Value->Shared->Prop} {s:Shared} {A:Around} {w:World} {P:Program}
abbrev Key:=Sum Int Str
noncomputable def sO:Key->Value->Bool
 | .inl k,v=>Value.isInt k v
 | .inr x,v=>Value.isStrOf x v
noncomputable def Tu (w:World):Key->Int
 | .inl k=>hashInt k
 | .inr x=>hashStr w x
theorem dU:∀ {k:Key} {v:Value},sO k v=true->(∃ i t,k=Sum.inl i/\v=Value.int i t)\/(∃ x t,k=Sum.inr x/\v=Value.str x t)
 | .inl i,v,h=>by
  obtain ⟨t,e⟩:=Value.isInt_shape (k:=i) (v:=v) h
  exact .inl ⟨i,t,rfl,e⟩
 | .inr x,v,h=>by
  obtain ⟨t,e⟩:=Value.isStrOf_shape (x:=x) (v:=v) h
  exact .inr ⟨x,t,rfl,e⟩
theorem KH (i:Int) (t:Tok):sO (.inl i) (.int i t)=true:=by simp [sO,Value.isInt]
theorem KJ (x:Str) (t:Tok):sO (.inr x) (.str x t)=true:=by simp [sO,Value.isStrOf]
theorem Tv (a b:Int):decide ((Sum.inl a:Key)=Sum.inl b)=(a==b):=by
 by_cases e:a=b
 . subst e; simp
 . have h:¬ (Sum.inl a:Key)=Sum.inl b:=fun q=>e (Sum.inl.inj q)
   rw [aa2 h]
   exact (aa4.mpr e).symm
theorem Tz (a b:Str):decide ((Sum.inr a:Key)=Sum.inr b)=decide (a=b):=by
 by_cases e:a=b
 . subst e; simp
 . have h:¬ (Sum.inr a:Key)=Sum.inr b:=fun q=>e (Sum.inr.inj q)
   rw [aa2 h,aa2 e]
theorem TQ (a:Int) (b:Str):decide ((Sum.inl a:Key)=Sum.inr b)=false:=aa2 (fun q=>nomatch q)
theorem TV (a:Str) (b:Int):decide ((Sum.inr a:Key)=Sum.inl b)=false:=aa2 (fun q=>nomatch q)
noncomputable def dM (prog:Program) (w:World):PySem.KeyKind prog w Key where
 is:=sO
 hash:=Tu w
 inj:=fun v a b ha hb=>by
  rcases dU ha with ⟨i,t,rfl,rfl⟩ | ⟨x,t,rfl,rfl⟩
  . rcases dU hb with ⟨j,u,rfl,e⟩ | ⟨y,u,rfl,e⟩
    . injection e with e1 _; rw [e1]
    . exact nomatch e
  . rcases dU hb with ⟨j,u,rfl,e⟩ | ⟨y,u,rfl,e⟩
    . exact nomatch e
    . injection e with e1 _; rw [e1]
 byValue:=fun k v h=>by
  rcases dU h with ⟨i,t,rfl,rfl⟩ | ⟨x,t,rfl,rfl⟩<;>rfl
 pyHash:=fun hv h=>by
  rcases dU hv with ⟨i,t,rfl,rfl⟩ | ⟨x,t,rfl,rfl⟩
  . exact wpAny_pyHash_int h
  . exact wpAny_pyHash_str h
 eqBool:=fun hu hv h=>by
  rcases dU hu with ⟨i,t,rfl,rfl⟩ | ⟨x,t,rfl,rfl⟩
  . rcases dU hv with ⟨j,u,rfl,rfl⟩ | ⟨y,u,rfl,rfl⟩
    . rw [Tv] at h; exact wpAny_eqBool_int h
    . rw [TQ] at h; exact SeqAt.EqAt.int_str i t y u _ _ _ _ h
  . rcases dU hv with ⟨j,u,rfl,rfl⟩ | ⟨y,u,rfl,rfl⟩
    . rw [TV] at h; exact SeqAt.EqAt.str_int x t j u _ _ _ _ h
    . rw [Tz] at h; exact wpAny_eqBool_str h
 «strs»:=fun k x t v h=>by
  rcases dU h with ⟨i,u,rfl,e⟩ | ⟨y,u,rfl,e⟩
  . exact nomatch e
  . injection e with e1 _
    subst e1
    cases v<;>rfl
theorem Hh (prog:Program) (w:World) (i:Int) (t:Tok):(dM prog w).is (.inl i) (.int i t)=true:=KH i t
theorem Hi (prog:Program) (w:World) (x:Str) (t:Tok):(dM prog w).is (.inr x) (.str x t)=true:=KJ x t
inductive V where
 | non | bl (b:Bool) | int (i:Int) | str (x:Str) | byt (b:Array UInt8) | flt (b:UInt64) | ref (a:Addr) | ty (n:String)
 deriving DecidableEq
def RelV:V->Value->Prop
 | .non,u=>u=Value.none
 | .bl b,u=>u=Value.bool b
 | .int i,u=>∃ t,u=Value.int i t
 | .str x,u=>∃ t,u=Value.str x t
 | .byt b,u=>∃ t,u=Value.bytes b t
 | .flt b,u=>∃ t,u=Value.float b t
 | .ref a,u=>u=Value.ref a
 | .ty n,u=>u=Value.type n
abbrev Vals:List V->List Value->Prop:=Paired RelV
theorem Vals.length {xs:List V} {us:List Value} (r:Vals xs us):xs.length=us.length:=Paired.length r
theorem Vals.get:∀ {xs:List V} {us:List Value} {i:Nat} {x:V},Vals xs us->xs[i]?=some x->∃ u,us[i]?=some u/\RelV x u
 | _,_,_,_,.nil,e=>by simp at e
 | _,_,0,_,.cons r _,e=>by simp at e; subst e; exact ⟨_,rfl,r⟩
 | _,_,i+1,x,.cons _ t,e=>by
  obtain ⟨u,h1,h2⟩:=Vals.get (i:=i) (x:=x) t (by simpa using e)
  exact ⟨u,by simpa using h1,h2⟩
theorem Vals.set {x:V} {u:Value} (r:RelV x u):∀ {xs:List V} {us:List Value} (i:Nat),Vals xs us->Vals (xs.set i x) (us.set i u)
 | _,_,_,.nil=>.nil
 | _,_,0,.cons _ t=>.cons r t
 | _,_,i+1,.cons q t=>.cons q (Vals.set r i t)
theorem Vals.append:∀ {xs ys:List V} {us ws:List Value},Vals xs us->Vals ys ws->Vals (xs++ys) (us++ws)
 | _,_,_,_,.nil,s=>s
 | _,_,_,_,.cons r t,s=>.cons r (Vals.append t s)
theorem Vals.take:∀ {xs:List V} {us:List Value} (n:Nat),Vals xs us->Vals (xs.take n) (us.take n)
 | _,_,0,_=>.nil
 | _,_,_+1,.nil=>.nil
 | _,_,n+1,.cons r t=>.cons r (Vals.take n t)
theorem Vals.drop:∀ {xs:List V} {us:List Value} (n:Nat),Vals xs us->Vals (xs.drop n) (us.drop n)
 | _,_,0,r=>r
 | _,_,_+1,.nil=>.nil
 | _,_,n+1,.cons _ t=>Vals.drop n t
def lK:Option V->Option Value->Prop
 | some v,some u=>RelV v u
 | none,none=>True
 | _,_=>False
def KV {κ:Type}:List (κ×V)->List (κ×Value)->Prop:=Paired fun (p:κ×V) (q:κ×Value)=>p.1=q.1/\RelV p.2 q.2
noncomputable def kV:Key->V
 | .inl i=>.int i
 | .inr x=>.str x
inductive HO where
 | lst (xs:List V)
 | tup (xs:List V)
 | dK (kvs:List (Key×V)) | dT (kvs:List (List Key×V))
 | set (S:Int->Bool) (n:Nat)
 | ins (C dx:Addr) (fs:List (Str×V))
 | own (x:Addr)
 | xd (fs:List (Str×V))
 | met (f x:Addr)
 | rng (lo hi:Int)
 | frz (o:Obj) (u:HO)
 | tbl (ps:Array Value)
 | ext (φ:Heap->Prop)
abbrev Hp:=Addr->Option HO
noncomputable def upd (H:Hp) (a:Addr) (o:HO):Hp:=fun b=>if b=a then some o else H b
theorem bT {H:Hp} {a:Addr} {o:HO}:upd H a o a=some o:=by unfold upd; rw [aaZ rfl]
theorem cI {H:Hp} {a b:Addr} {o:HO} (h:b≠a):upd H a o b=H b:=by unfold upd; rw [aa0 h]
theorem Wv {H:Hp} {a b:Addr} {o u:HO} (h:H a=some o) (h':H b=some u) (d:o≠u):a≠b:=by
 intro e; subst e; rw [h] at h'; exact d (YW h')
theorem dZ {H:Hp} {a b:Addr} {o:HO} (h:H a=some o) (h':H b=none):a≠b:=by
 intro e; subst e; rw [h] at h'; cases h'
section
variable (P:Program) (w:World)
def gh (H:Hp) (h:Heap) (a:Addr):HO->Prop
 | .lst xs=>xs.length<=sizeLine/\∃ (its:List Value) (n:Nat),Vals xs its/\h.get? a=some { cls:=.type "list",data:=.seq its.toArray n }
 | .tup xs=>xs.length<=sizeLine/\∃ its:List Value,Vals xs its/\IsTup h a its.toArray
 | .dK kvs=>kvs.length<=sizeLine/\(a==sysModules)=false/\∃ vs,KV kvs vs/\h.DictOf (dM P w) a vs
 | .dT kvs=>kvs.length<=sizeLine/\(a==sysModules)=false/\∃ xs:List (List Key×Addr×Value),
  Paired (fun (p:List Key×V) (q:List Key×Addr×Value)=>p.1=q.1/\H q.2.1=some (.tup (p.1.map kV))/\RelV p.2 q.2.2) kvs xs/\
  ∃ o es ep,h.get? a=some o/\o.ExactDict/\o.data=.dict es ep/\es.toList=xs.map (entryOfKey (tupleKind (dM P w)))/\(xs.map (·.1)).Nodup
 | .set S n=>h.SetOf (intKind P w) a S n
 | .ins C dx fs=>H dx=some (.own a)/\fs.length<=1000/\dx≠a/\h.get? a=some (W.instObj C dx)/\
  ∃ mA,h.Ns1 dx mA/\(∀ f,lK (fs.lookup f) (mA f))/\PySem.Within mA (fs.map (·.1))
 | .own _=>∃ o,h.get? a=some o
 | .xd fs=>∃ mA,h.Ns1 a mA/\∀ f,lK (fs.lookup f) (mA f)
 | .rng lo hi=>∃ t u v,h.get? a=some { cls:=.type "range",data:=.fields #[.int lo t,.int hi u,.int 1 v] }
 | .frz o u=>h.get? a=some o/\gh H h a u
 | .tbl ps=>h.get? a=some { cls:=.none,data:=.fields ps }
 | .met f x=>h.get? a=some (W.methodObj (.ref f) (.ref x))
 | .ext φ=>φ h/\(∃ o,h.get? a=some o)/\∀ h1 h2:Heap,φ h1->(∀ o,h1.get? a=some o->h2.get? a=some o)->φ h2
def iz (H:Hp) (h:Heap):Prop:=∀ a o,H a=some o->gh P w H h a o
end
section
variable {P:Program} {w:World} {H H':Hp} {h h':Heap} {a:Addr} {o:HO}
theorem gh.lt (x:gh P w H h a o):a<h.objs.size:=by
 cases o with
 | lst xs=>obtain ⟨_,_,_,_,e⟩:=x; exact YK e
 | tup xs=>obtain ⟨_,_,_,p⟩:=x; exact p.lt
 | dK kvs=>obtain ⟨_,_,_,_,o,_,_,e,_⟩:=x; exact YK e
 | dT kvs=>obtain ⟨_,_,_,_,o,_,_,e,_⟩:=x; exact YK e
 | set S n=>obtain ⟨o,_,_,_,e,_⟩:=x; exact YK e
 | ins C dx fs=>obtain ⟨_,_,_,e,_⟩:=x; exact YK e
 | own y=>obtain ⟨_,e⟩:=x; exact YK e
 | xd fs=>obtain ⟨_,⟨_,_,_,e,_⟩,_⟩:=x; exact YK e
 | rng lo hi=>obtain ⟨_,_,_,e⟩:=x; exact YK e
 | frz ob u=>obtain ⟨e,_⟩:=x; exact YK e
 | tbl ps=>exact YK (show h.get? a=some _ from x)
 | met f y=>exact YK (show h.get? a=some _ from x)
 | ext φ=>obtain ⟨_,⟨_,e⟩,_⟩:=x; exact YK e
theorem Paired.mapP {α β:Type} {F G:α->β->Prop}:∀ {l₁:List α} {l₂:List β},Paired F l₁ l₂->(∀ a b,F a b->G a b)->Paired G l₁ l₂
 | _,_,.nil,_=>.nil
 | _,_,.cons r t,f=>.cons (f _ _ r) (Paired.mapP t f)
theorem gh.stay (x:gh P w H h a o) (k:∀ b u,(b=a\/H b=some (.own a))->h.get? b=some u->h'.get? b=some u)
 (ho:∀ b,H b=some (.own a)->H' b=some (.own a)) (ht:∀ b xs,H b=some (.tup xs)->H' b=some (.tup xs)):gh P w H' h' a o:=by
 induction o with
 | lst xs=>obtain ⟨z,its,n,r,e⟩:=x; exact ⟨z,its,n,r,k _ _ (.inl rfl) e⟩
 | tup xs=>obtain ⟨z,its,r,ob,e,c⟩:=x; exact ⟨z,its,r,ob,k _ _ (.inl rfl) e,c⟩
 | dK kvs=>obtain ⟨z,y,vs,r,ob,es,ep,e,c⟩:=x; exact ⟨z,y,vs,r,ob,es,ep,k _ _ (.inl rfl) e,c⟩
 | dT kvs=>
  obtain ⟨z,y,xs,r,ob,es,ep,e,c⟩:=x
  exact ⟨z,y,xs,Paired.mapP r fun p q z=>⟨z.1,ht _ _ z.2.1,z.2.2⟩,ob,es,ep,k _ _ (.inl rfl) e,c⟩
 | set S n=>obtain ⟨ob,es,ep,t,e,c⟩:=x; exact ⟨ob,es,ep,t,k _ _ (.inl rfl) e,c⟩
 | ins C dx fs=>
  obtain ⟨d,z,ne,e,mA,⟨od,es,ep,e2,c⟩,r⟩:=x
  exact ⟨ho _ d,z,ne,k _ _ (.inl rfl) e,mA,⟨od,es,ep,k _ _ (.inr d) e2,c⟩,r⟩
 | own y=>obtain ⟨ob,e⟩:=x; exact ⟨ob,k _ _ (.inl rfl) e⟩
 | xd fs=>obtain ⟨mA,⟨od,es,ep,e,c⟩,r⟩:=x; exact ⟨mA,⟨od,es,ep,k _ _ (.inl rfl) e,c⟩,r⟩
 | rng lo hi=>obtain ⟨t,u,v,e⟩:=x; exact ⟨t,u,v,k _ _ (.inl rfl) e⟩
 | frz ob u ih=>obtain ⟨e,q⟩:=x; exact ⟨k _ _ (.inl rfl) e,ih q⟩
 | tbl ps=>
  have e:h.get? a=some { cls:=.none,data:=.fields ps }:=x
  show h'.get? a=some { cls:=.none,data:=.fields ps }
  exact k a _ (.inl rfl) e
 | met f y=>
  have e:h.get? a=some (W.methodObj (.ref f) (.ref y)):=x
  show h'.get? a=some (W.methodObj (.ref f) (.ref y))
  exact k a _ (.inl rfl) e
 | ext φ=>obtain ⟨p,⟨o,e⟩,st⟩:=x; exact ⟨st _ _ p fun o q=>k _ _ (.inl rfl) q,⟨o,k _ _ (.inl rfl) e⟩,st⟩
theorem iz.lt (x:iz P w H h) (e:H a=some o):a<h.objs.size:=(x a o e).lt
theorem iz.fresh (x:iz P w H h) (e:h.objs.size<=a):H a=none:=by
 cases q:H a with
 | none=>rfl
 | some u=>exact absurd (Y5 (x.lt q) e) (ZS _)
theorem iz.kept (x:iz P w H h) (k:∀ b u,h.get? b=some u->h'.get? b=some u):iz P w H h':=fun a o e=>
 (x a o e).stay (fun b u _ q=>k b u q) (fun _ q=>q) fun _ _ q=>q
theorem iz.laid (x:iz P w H h) (k:∀ b u,h.get? b=some u->h'.get? b=some u) (hp:h.objs.size<=a) (new:gh P w (upd H a o) h' a o):iz P w (upd H a o) h':=fun b u e=>by
 have hn:=x.fresh hp
 by_cases hb:b=a
 . subst hb; rw [bT] at e; cases e; exact new
 . rw [cI hb] at e
   exact (x b u e).stay (fun c v _ q=>k c v q) (fun c q=>by rw [cI (dZ q hn)]; exact q) fun c xs q=>by rw [cI (dZ q hn)]; exact q
end
def Rd (H:Hp) (a:Addr) (u:HO):Prop:=H a=some u\/∃ o,H a=some (.frz o u)
theorem Rd.ok {H:Hp} {h:Heap} {a:Addr} {u:HO} (r:Rd H a u) (x:iz P w H h):gh P w H h a u:=by
 rcases r with r | ⟨o,r⟩
 . exact x a u r
 . obtain ⟨_,q⟩:=x a _ r
   exact q
def KN:Option HO->Prop
 | some (.lst _)=>True
 | some (.dK _)=>True
 | some (.dT _)=>True
 | some (.set _ _)=>True
 | some (.ins _ _ _)=>True
 | some (.ext _)=>True
 | _=>False
section
variable {P:Program} {w:World} {H:Hp} {h h':Heap} {x e:Addr} {o':HO}
theorem iz.write (ok:iz P w H h) (mu:KN (H x)) (he:e=x\/H e=some (.own x)) (k:∀ b u,b≠e->h.get? b=some u->h'.get? b=some u) (heo:∃ u,h'.get? e=some u)
 (new:gh P w (upd H x o') h' x o'):iz P w (upd H x o') h':=fun b u q=>by
 have nown:∀ c y,H c=some (.own y)->c≠x:=fun c y r z=>by subst z; rw [r] at mu; exact mu
 have ntup:∀ c xs,H c=some (.tup xs)->c≠x:=fun c xs r z=>by subst z; rw [r] at mu; exact mu
 by_cases hb:b=x
 . subst hb; rw [bT] at q; cases q; exact new
 . rw [cI hb] at q
   by_cases hbe:b=e
   . have q':H b=some (.own x):=by
      rcases he with z | z
      . exact absurd (hbe.trans z) hb
      . rw [hbe]; exact z
     rw [q] at q'; cases q'
     obtain ⟨v,hv⟩:=heo
     exact ⟨v,by rw [hbe]; exact hv⟩
   . refine (ok b u q).stay (fun c v hc r=>k c v ?_ r) (fun c r=>by rw [cI (nown c b r)]; exact r) fun c xs r=>by rw [cI (ntup c xs r)]; exact r
     rcases hc with rfl | hc
     . exact hbe
     . rintro rfl
       rcases he with z | z
       . exact nown c b hc z
       . rw [hc] at z; cases z; exact hb rfl
end
structure Un (fs ex:List Addr) (H H':Hp) (h h':Heap):Prop where
 keep:∀ b o,h.get? b=some o->H b=none->b∉fs->b∉ex->h'.get? b=some o
 slot:∀ b o,h.get? b=some o->H b=none->b∈fs->b∉ex->∃ sl,h'.get? b=some { o with slots:=sl }
 free:∀ b o,h.get? b=some o->H b=none->b∉ex->H' b=none
 there:∀ b o,h.get? b=some o->b∉ex->∃ o',h'.get? b=some o'
 tups:∀ b xs,H b=some (.tup xs)->H' b=some (.tup xs)
 frzs:∀ b o u,H b=some (.frz o u)->H' b=some (.frz o u)
 tbls:∀ b ps,H b=some (.tbl ps)->∃ more,H' b=some (.tbl (ps++more))
section
variable {fs fs' ex ex':List Addr} {H H1 H2:Hp} {h h1 h2 h':Heap} {a x e:Addr} {o:HO}
theorem Un.any (u:Un fs ex H H1 h h1) {b:Addr} {ob:Obj} (q:h.get? b=some ob) (n:H b=none) (hx:b∉ex):∃ sl,h1.get? b=some { ob with slots:=sl }:=by
 by_cases hb:b∈fs
 . exact u.slot b ob q n hb hx
 . exact ⟨ob.slots,u.keep b ob q n hb hx⟩
theorem Un.kept (k:∀ b u,h.get? b=some u->h'.get? b=some u):Un fs ex H H h h':=
 ⟨fun b ob q _ _ _=>k b ob q,fun b ob q _ _ _=>⟨ob.slots,k b ob q⟩,fun _ _ _ n _=>n,fun b ob q _=>⟨ob,k b ob q⟩,fun _ _ q=>q,fun _ _ _ q=>q,fun _ ps q=>⟨#[],by rw [q]; simp⟩⟩
theorem Un.refl:Un fs ex H H h h:=Un.kept fun _ _ q=>q
theorem Un.laid (k:∀ b u,h.get? b=some u->h'.get? b=some u) (hp:h.objs.size<=a) (hn:H a=none):Un fs ex H (upd H a o) h h' where
 keep:=fun b u q _ _ _=>k b u q
 slot:=fun b u q _ _ _=>⟨u.slots,k b u q⟩
 free:=fun b u q n _=>by rw [cI (Zb (Y5 (YK q) hp))]; exact n
 there:=fun b u q _=>⟨u,k b u q⟩
 tups:=fun b xs q=>by rw [cI (dZ q hn)]; exact q
 frzs:=fun b u xs q=>by rw [cI (dZ q hn)]; exact q
 tbls:=fun b ps q=>⟨#[],by rw [cI (dZ q hn),q]; simp⟩
theorem Un.write (mu:KN (H x)) (he:e=x\/H e=some (.own x)) (k:∀ b u,b≠e->h.get? b=some u->h'.get? b=some u) (heo:∃ u,h'.get? e=some u):Un fs ex H (upd H x o) h h':=by
 have hx:∀ b,H b=none->b≠x:=fun b n z=>by subst z; rw [n] at mu; exact mu
 have hb:∀ b,H b=none->b≠e:=fun b n z=>by
  subst z
  rcases he with r | r
  . exact hx b n r
  . rw [n] at r; cases r
 have hm:∀ b u,H b=some u->¬ KN (some u)->b≠x:=fun b u q nm z=>by subst z; rw [q] at mu; exact nm mu
 refine ⟨fun b u q n _ _=>k b u (hb b n) q,fun b u q n _ _=>⟨u.slots,k b u (hb b n) q⟩,fun b u q n _=>by rw [cI (hx b n)]; exact n,fun b u q _=>?_,
  fun b xs q=>by rw [cI (hm b _ q fun z=>z)]; exact q,fun b u xs q=>by rw [cI (hm b _ q fun z=>z)]; exact q,fun b ps q=>⟨#[],by rw [cI (hm b _ q fun z=>z),q]; simp⟩⟩
 by_cases hbe:b=e
 . subst hbe; exact heo
 . exact ⟨u,k b u hbe q⟩
end
noncomputable def Qq (h:Heap) (H:Hp):List Addr:=(List.range h.objs.size).filter fun a=>(H a).isSome
noncomputable def uV (h:Heap) (H:Hp):Heap:=W.hideAll h (Qq h H)
theorem KQ (h:Heap) (H:Hp):(uV h H).objs.size=h.objs.size:=W.hideAll_size _ _
theorem Nz {h:Heap} {H:Hp} {b:Addr} {o:Obj} (e:h.get? b=some o) (n:H b=none):(uV h H).get? b=some o:=
 W.hideAll_get _ e fun hm=>by
  have q:(H b).isSome=true:=(List.mem_filter.mp hm).2
  rw [n] at q; simp at q
theorem Q9 {h:Heap} {H:Hp} {b:Addr} {o:Obj} (e:(uV h H).get? b=some o):h.get? b=some o/\H b=none:=by
 have e':h.get? b=some o:=W.of_hideAll (Qq h H) e
 refine ⟨e',?_⟩
 cases q:H b with
 | none=>rfl
 | some x=>
  have hm:b∈Qq h H:=List.mem_filter.mpr ⟨List.mem_range.mpr (YK e'),by simp [q]⟩
  have z:(uV h H).get? b=none:=W.hideAll_none (Qq h H) hm
  rw [z] at e; cases e
noncomputable def Ra (g h:Heap) (L:Addr):List (Addr×Obj):=(List.range h.objs.size).filterMap fun a=>if a=L\/(g.get? a).isSome=true then none else (h.get? a).map fun o=>(a,o)
noncomputable def rest (g h:Heap) (L d:Addr):List (Addr×Obj):=(Ra g h L).filter fun p=>decide (p.1≠d)
structure Mod (K:FG) (mg:Str->Option Value) (base:Heap):Prop where
 kin:K.In base
 glob:base.Ns mainGlobals mg
 blt:∃ mb,base.Ns builtinsNs mb/\∀ x:Str,x ≠ "__name__" -> mb x=bootBuiltins x
 nolimit:base.NoLimit
structure Cx where
 prog:Program
 w:World
 K:FG
 mg:Str->Option Value
 base:Heap
 A:Around
 N:List Str
 s₀:Shared
 H0:Hp
 env:Env
 outer:List Env
 stack:List Env
 ex:List Addr
 fn:Str->Bool
 calm:Bool
 pn:List (Addr×Obj)
 xe:Value->Shared->Prop
noncomputable def frs (l:List Env):List Addr:=l.filterMap (·.frame)
noncomputable abbrev Cx.fs (X:Cx):List Addr:=frs X.outer
def KR (sc:Scope) (x:Str):Prop:=sc.names.lookup x=some .local\/sc.names.lookup x=some .cell\/sc.names.lookup x=some .free
def Loc (sc:Scope) (x:Str):Prop:=sc.names.lookup x=some .local\/sc.names.lookup x=some .cell
def Look (env:Env) (h:Heap) (m:Str->Option Value) (x:Str) (u:Value):Prop:=
 (env.kindOf x=some .local/\m x=some u)\/((env.kindOf x=some .cell\/env.kindOf x=some .free)/\∃ c,env.cells.lookup x=some c/\h.IsCell c (some u))
structure Cx.Ok (X:Cx):Prop where
 mod:Mod X.K X.mg X.base
 kind:X.env.scope.kind=.function
 glob:X.env.globals=mainGlobals
 blt:X.env.builtins=builtinsNs
 above:X.s₀.heap.objs.size<=X.env.locals
 inj:∀ x y c,X.env.cells.lookup x=some c->X.env.cells.lookup y=some c->x=y
 has:∀ x,(X.env.kindOf x=some .cell\/X.env.kindOf x=some .free)->∃ c,X.env.cells.lookup x=some c
 cab:∀ x c,X.fn x=true->X.env.cells.lookup x=some c->X.s₀.heap.objs.size<=c
 hd:X.calm=true->X.A.handled=none
 frames:X.A.frames=some X.stack
 stk:X.stack=X.outer\/(X.stack=X.env::X.outer/\X.env.frame=some X.env.locals)
 exf:∀ b∈X.ex,b≠X.env.locals/\∀ x c,X.env.cells.lookup x=some c->c≠b
 bs:∀ b o,X.base.get? b=some o->X.s₀.heap.get? b=some o/\X.H0 b=none
 bsz:X.base.objs.size<=X.s₀.heap.objs.size
 noex:∀ b o,X.base.get? b=some o->b∉X.ex
 exfs:∀ b∈X.ex,b∉X.fs
 funs:X.s₀.heap.FunFrames X.base X.outer
 frf:∀ b∈X.fs,X.H0 b=none
structure Inv (X:Cx) (pins:List (Addr×Obj)) (σ:List (Option V)) (H:Hp) (s:Shared):Prop where
 ok:X.Ok
 os:s.os=X.s₀.os
 bare:AllBare s.gens
 base:Un X.fs X.ex X.H0 H X.s₀.heap s.heap
 loc:∃ m,s.heap.Ns X.env.locals m/\∀ (i:Nat) (x:Str) (v:V),X.N[i]?=some x->σ[i]?=some (some v)->KR X.env.scope x->∃ u,RelV v u/\Look X.env s.heap m x u
 cell:∀ x c,X.env.cells.lookup x=some c->∃ v,s.heap.IsCell c v
 free:H X.env.locals=none
 freeC:∀ x c,X.env.cells.lookup x=some c->H c=none
 pin:∀ p∈X.pn++pins,s.heap.get? p.1=some p.2/\H p.1=none/\p.1≠X.env.locals/\p.1∉X.fs/\∀ v,p.2.data≠.cell v
 hok:iz X.prog X.w H s.heap
 len:σ.length=X.N.length
section
variable {X:Cx} {pins:List (Addr×Obj)} {σ:List (Option V)} {H H':Hp} {s:Shared} {h':Heap}
theorem Cx.Ok.nofr (ok:X.Ok) {b:Addr} {o:Obj} (e:X.base.get? b=some o):b∉X.fs:=fun hb=>by
 have:=(ok.funs.mem hb).1
 rw [e] at this; cases this
theorem Inv.bs (I:Inv X pins σ H s):∀ b o,X.base.get? b=some o->s.heap.get? b=some o/\H b=none:=fun b o e=>
 ⟨I.base.keep b o (I.ok.bs b o e).1 (I.ok.bs b o e).2 (I.ok.nofr e) (I.ok.noex b o e),I.base.free b o (I.ok.bs b o e).1 (I.ok.bs b o e).2 (I.ok.noex b o e)⟩
theorem Inv.bk (I:Inv X pins σ H s):∀ b o,X.base.get? b=some o->s.heap.get? b=some o:=fun b o e=>(I.bs b o e).1
theorem Inv.mod (I:Inv X pins σ H s):Mod X.K X.mg X.base:=I.ok.mod
theorem Inv.kIn (I:Inv X pins σ H s):X.K.In s.heap:=I.ok.mod.kin.keeps I.bk
theorem Inv.lt (I:Inv X pins σ H s):X.env.locals<s.heap.objs.size:=let ⟨_,hn,_⟩:=I.loc; hn.lt
theorem Inv.sz (I:Inv X pins σ H s):X.s₀.heap.objs.size<=s.heap.objs.size:=Zo I.ok.above (aas I.lt)
theorem Inv.nofs (I:Inv X pins σ H s) {a:Addr} (h:s.heap.objs.size<=a):a∉X.fs:=fun hb=>by
 obtain ⟨_,o,ho,_⟩:=I.ok.funs.mem hb
 exact absurd (Y5 (YK ho) (Zo I.sz h)) (ZS _)
theorem Inv.cne (I:Inv X pins σ H s):∀ x c,X.env.cells.lookup x=some c->c≠X.env.locals:=fun x c e z=>by
 obtain ⟨v,o,ho,hd⟩:=I.cell x c e
 obtain ⟨m,⟨o',es,ep,ho',hd',_⟩,_⟩:=I.loc
 rw [z,ho'] at ho; cases ho; rw [hd'] at hd; cases hd
theorem Inv.funs (I:Inv X pins σ H s):s.heap.FunFrames X.base X.outer:=by
 have all:∀ (l:List Env),(∀ b∈frs l,b∈X.fs)->X.s₀.heap.FunFrames X.base l->s.heap.FunFrames X.base l:=by
  intro l
  induction l with
  | nil=>intro _ _; trivial
  | cons env r ih=>
   intro hs hl
   obtain ⟨hk,⟨L,o,hf,hn,ho,hd⟩,hr⟩:=hl
   have hL:L∈X.fs:=hs L (by unfold frs; rw [aaH,hf]; exact Yv)
   obtain ⟨sl,e⟩:=I.base.slot L o ho (I.ok.frf L hL) hL fun z=>I.ok.exfs L z hL
   exact ⟨hk,⟨L,_,hf,hn,e,hd⟩,ih (fun b hb=>hs b (by unfold frs; rw [aaH,hf]; exact YG _ hb)) hr⟩
 exact all X.outer (fun _ hb=>hb) I.ok.funs
theorem Inv.stack (I:Inv X pins σ H s):s.heap.FunFrames X.base X.stack:=by
 rcases I.ok.stk with e | ⟨e,hf⟩
 . rw [e]; exact I.funs
 . rw [e]
   obtain ⟨m,hn,_⟩:=I.loc
   refine .cons (by rw [I.ok.kind]; decide) hf hn ?_ I.funs
   exact Heap.get?_none_of_le (Zo I.ok.bsz I.ok.above)
theorem Inv.stkSub (I:Inv X pins σ H s):∀ b∈frs X.stack,b∈X.env.locals::X.fs:=fun b hb=>by
 rcases I.ok.stk with e | ⟨e,hf⟩
 . rw [e] at hb; exact YG _ hb
 . rw [e] at hb
   unfold frs at hb
   rw [aaH,hf] at hb
   exact hb
theorem Inv.stkFree (I:Inv X pins σ H s):∀ b∈frs X.stack,H b=none:=fun b hb=>by
 rcases YC.mp (I.stkSub b hb) with e | hb
 . rw [e]; exact I.free
 . obtain ⟨_,o,ho,_⟩:=I.ok.funs.mem hb
   exact I.base.free b o ho (I.ok.frf b hb) fun z=>I.ok.exfs b z hb
theorem Inv.step {g':Array GenState} {t':Nat} {d':Drawn} {ch:List Addr} (I:Inv X pins σ H s)
 (hch:∀ b∈ch,(b∈X.ex\/X.s₀.heap.objs.size<=b)/\b≠X.env.locals/\(∀ x c,X.env.cells.lookup x=some c->c≠b)/\∀ p∈X.pn++pins,p.1≠b)
 (keep:∀ b o,b≠X.env.locals->b∉X.fs->b∉ch->s.heap.get? b=some o->H b=none->h'.get? b=some o)
 (slot:∀ b o,b≠X.env.locals->b∈X.fs->b∉ch->s.heap.get? b=some o->H b=none->∃ sl,h'.get? b=some { o with slots:=sl }) (free:∀ b o,b∉ch->s.heap.get? b=some o->H b=none->H' b=none)
 (there:∀ b o,b∉ch->s.heap.get? b=some o->∃ o',h'.get? b=some o')
 (tups:∀ b xs,H b=some (.tup xs)->H' b=some (.tup xs)) (frzs:∀ b o u,H b=some (.frz o u)->H' b=some (.frz o u)) (tbls:∀ b ps,H b=some (.tbl ps)->∃ more,H' b=some (.tbl (ps++more)))
 (ns:∀ m,s.heap.Ns X.env.locals m->h'.Ns X.env.locals m) (hok:iz X.prog X.w H' h') (hg:AllBare g'):
 Inv X pins σ H' { s with heap:=h',gens:=g',drawn:=d',toks:=t' }:=by
 have neL:∀ b o,X.s₀.heap.get? b=some o->b≠X.env.locals:=fun b o e=>Zb (Y5 (YK e) I.ok.above)
 have neC:∀ b o,X.s₀.heap.get? b=some o->b∉X.ex->b∉ch:=fun b o e hx hb=>by
  rcases (hch b hb).1 with z | z
  . exact hx z
  . exact absurd (Y5 (YK e) z) (ZS _)
 have cellK:∀ x c,X.env.cells.lookup x=some c->∀ v,s.heap.IsCell c v->h'.IsCell c v:=fun x c e v ⟨o,ho,hd⟩=>by
  have nch:c∉ch:=fun z=>(hch c z).2.2.1 x c e rfl
  by_cases hc:c∈X.fs
  . obtain ⟨sl,q⟩:=slot c o (I.cne x c e) hc nch ho (I.freeC x c e)
    exact ⟨_,q,hd⟩
  . exact ⟨o,keep c o (I.cne x c e) hc nch ho (I.freeC x c e),hd⟩
 refine ⟨I.ok,I.os,hg,⟨fun b o e n hb hx=>?_,fun b o e n hb hx=>?_,fun b o e n hx=>?_,fun b o e hx=>?_,fun b xs e=>tups b xs (I.base.tups b xs e),fun b o xs e=>frzs b o xs (I.base.frzs b o xs e),fun b ps e=>?_⟩,?_,fun x c e=>?_,?_,fun x c e=>?_,fun p hp=>?_,hok,I.len⟩
 . exact keep b o (neL b o e) hb (neC b o e hx) (I.base.keep b o e n hb hx) (I.base.free b o e n hx)
 . obtain ⟨sl,e1⟩:=I.base.slot b o e n hb hx
   obtain ⟨sl',e2⟩:=slot b _ (neL b o e) hb (neC b o e hx) e1 (I.base.free b o e n hx)
   exact ⟨sl',e2⟩
 . obtain ⟨o',e1⟩:=I.base.there b o e hx
   exact free b o' (neC b o e hx) e1 (I.base.free b o e n hx)
 . obtain ⟨o',e1⟩:=I.base.there b o e hx
   exact there b o' (neC b o e hx) e1
 . obtain ⟨m1,e1⟩:=I.base.tbls b ps e
   obtain ⟨m2,e2⟩:=tbls b _ e1
   exact ⟨m1++m2,by rw [e2,Array.append_assoc]⟩
 . obtain ⟨m,hn,hl⟩:=I.loc
   refine ⟨m,ns m hn,fun i x v e1 e2 e3=>?_⟩
   obtain ⟨u,r,l⟩:=hl i x v e1 e2 e3
   refine ⟨u,r,?_⟩
   rcases l with l | ⟨k,c,e,z⟩
   . exact .inl l
   . exact .inr ⟨k,c,e,cellK x c e _ z⟩
 . obtain ⟨v,z⟩:=I.cell x c e
   exact ⟨v,cellK x c e v z⟩
 . obtain ⟨m,⟨o,_,_,ho,_⟩,_⟩:=I.loc
   exact free _ o (fun z=>(hch _ z).2.1 rfl) ho I.free
 . obtain ⟨v,o,ho,hd⟩:=I.cell x c e
   exact free c o (fun z=>(hch c z).2.2.1 x c e rfl) ho (I.freeC x c e)
 . obtain ⟨e,n,ne,nf,d⟩:=I.pin p hp
   have nch:p.1∉ch:=fun z=>(hch p.1 z).2.2.2 p hp rfl
   exact ⟨keep p.1 p.2 ne nf nch e n,free p.1 p.2 nch e n,ne,nf,d⟩
theorem Inv.un {t':Nat} (I:Inv X pins σ H s) (u:Un X.fs [] H H' s.heap h') (hok:iz X.prog X.w H' h'):Inv X pins σ H' { s with heap:=h',toks:=t' }:=by
 obtain ⟨m,⟨o,es,ep,ho,r⟩,_⟩:=id I.loc
 obtain ⟨sl,hL⟩:=u.any ho I.free (by simp)
 exact I.step (g':=s.gens) (d':=s.drawn) (ch:=[]) (fun _ z=>nomatch z) (fun b o _ hb _ e n=>u.keep b o e n hb (by simp)) (fun b o _ hb _ e n=>u.slot b o e n hb (by simp)) (fun b o _ e n=>u.free b o e n (by simp)) (fun b o _ e=>u.there b o e (by simp)) u.tups u.frzs u.tbls (fun m' hm=>by
  obtain ⟨o',es',ep',ho',r'⟩:=hm
  rw [ho] at ho'; cases ho'
  exact ⟨_,es',ep',hL,r'⟩) hok I.bare
theorem Inv.call {g':Array GenState} {t':Nat} {d':Drawn} {ch:List Addr} (I:Inv X pins σ H s) (u:Un (frs X.stack) ch H H' s.heap h') (hok:iz X.prog X.w H' h') (hg:AllBare g')
 (hch:∀ b∈ch,(b∈X.ex\/X.s₀.heap.objs.size<=b)/\b≠X.env.locals/\(∀ x c,X.env.cells.lookup x=some c->c≠b)/\∀ p∈X.pn++pins,p.1≠b):
 Inv X pins σ H' { s with heap:=h',gens:=g',drawn:=d',toks:=t' }:=by
 obtain ⟨m,⟨o,es,ep,ho,r⟩,_⟩:=id I.loc
 obtain ⟨sl,hL⟩:=u.any ho I.free fun z=>(hch _ z).2.1 rfl
 exact I.step (ch:=ch) hch (fun b o hL hb hc e n=>u.keep b o e n (fun z=>(YC.mp (I.stkSub b z)).elim hL hb) hc) (fun b o _ _ hc e n=>u.any e n hc) (fun b o hc e n=>u.free b o e n hc) (fun b o hc e=>u.there b o e hc) u.tups u.frzs u.tbls (fun m' hm=>by
  obtain ⟨o',es',ep',ho',r'⟩:=hm
  rw [ho] at ho'; cases ho'
  exact ⟨_,es',ep',hL,r'⟩) hok hg
theorem Inv.turned {t':Nat} {it:Addr} (I:Inv X pins σ H s) (k:∀ b o,b≠it->s.heap.get? b=some o->h'.get? b=some o) (hn:H it=none) (hL:it≠X.env.locals)
 (h1:it∈X.ex\/X.s₀.heap.objs.size<=it) (h2:∀ x c,X.env.cells.lookup x=some c->c≠it) (h3:∀ p∈X.pn++pins,p.1≠it):Inv X pins σ H { s with heap:=h',toks:=t' }:=by
 have nit:∀ b u,H b=some u->b≠it:=fun b u e z=>by rw [z,hn] at e; cases e
 refine I.step (g':=s.gens) (d':=s.drawn) (ch:=[it]) (fun b hb=>?_) (fun b o _ _ hc e _=>k b o (fun z=>hc (by simp [z])) e) (fun b o _ _ hc e _=>⟨o.slots,k b o (fun z=>hc (by simp [z])) e⟩) (fun _ _ _ _ n=>n)
  (fun b o hc e=>⟨o,k b o (fun z=>hc (by simp [z])) e⟩) (fun _ _ e=>e) (fun _ _ _ e=>e) (fun b ps e=>⟨#[],by rw [e]; simp⟩) (fun m hm=>?_) (fun b u e=>?_) I.bare
 . have e:b=it:=by simpa using hb
   subst e
   exact ⟨h1,hL,h2,h3⟩
 . obtain ⟨o,es,ep,ho,r⟩:=hm
   exact ⟨o,es,ep,k _ o (Ne.symm hL) ho,r⟩
 . refine (I.hok b u e).stay (fun c v hc q=>k c v ?_ q) (fun _ q=>q) fun _ _ q=>q
   rcases hc with z | z
   . rw [z]; exact nit b u e
   . exact nit c _ z
theorem Inv.tok (I:Inv X pins σ H s) (t:Nat):Inv X pins σ H { s with toks:=t }:=I.un (h':=s.heap) (t':=t) Un.refl I.hok
theorem Inv.kept {t':Nat} (I:Inv X pins σ H s) (k:∀ b u,s.heap.get? b=some u->h'.get? b=some u):Inv X pins σ H { s with heap:=h',toks:=t' }:=I.un (Un.kept k) (I.hok.kept k)
theorem Inv.laid {a:Addr} {o:HO} {t':Nat} (I:Inv X pins σ H s) (k:∀ b u,s.heap.get? b=some u->h'.get? b=some u) (hp:s.heap.objs.size<=a) (new:gh X.prog X.w (upd H a o) h' a o):
 Inv X pins σ (upd H a o) { s with heap:=h',toks:=t' }:=I.un (Un.laid k hp (I.hok.fresh hp)) (I.hok.laid k hp new)
theorem Inv.write {x e:Addr} {o:HO} {t':Nat} (I:Inv X pins σ H s) (mu:KN (H x)) (he:e=x\/H e=some (.own x)) (k:∀ b u,b≠e->s.heap.get? b=some u->h'.get? b=some u) (heo:∃ u,h'.get? e=some u)
 (new:gh X.prog X.w (upd H x o) h' x o):Inv X pins σ (upd H x o) { s with heap:=h',toks:=t' }:=I.un (Un.write mu he k heo) (I.hok.write mu he k heo new)
theorem Inv.pins_of {pins':List (Addr×Obj)} (I:Inv X pins σ H s) (h:∀ p∈pins',s.heap.get? p.1=some p.2/\H p.1=none/\p.1≠X.env.locals/\p.1∉X.fs/\∀ v,p.2.data≠.cell v):Inv X pins' σ H s:=
 ⟨I.ok,I.os,I.bare,I.base,I.loc,I.cell,I.free,I.freeC,fun p hp=>(ZK.mp hp).elim (fun z=>I.pin p (Zv _ z)) (h p),I.hok,I.len⟩
theorem Ej {N:List Str} (hN:N.Nodup) {i j:Nat} {x:Str} (a:N[i]?=some x) (b:N[j]?=some x):i=j:=by
 obtain ⟨h1,e1⟩:=YF.mp a
 obtain ⟨h2,e2⟩:=YF.mp b
 exact (List.getElem_inj hN).mp (e1.trans e2.symm)
theorem Ci {M:Model} {i:Nat} {x:Str} {v:V} {u:Value} {Q:Unit->Shared->Prop} (I:Inv X pins σ H s) (hN:X.N.Nodup) (hi:X.N[i]?=some x) (hx:Loc X.env.scope x) (r:RelV v u)
 (h:∀ s',Inv X pins (σ.set i (some v)) H s'->(∃ a,Heap.SameBut a s.heap s'.heap/\(a=X.env.locals\/X.env.cells.lookup x=some a))->Q () s') (hf:X.fn x=true\/X.env.scope.names.lookup x=some .local:=by first | exact .inl rfl | exact .inr rfl | assumption):wpAny M A (storeName X.env x u) Q E s:=by
 obtain ⟨m,hn,hl⟩:=id I.loc
 have hcls:(X.env.scope.kind==.class||(X.env.scope.kind==.module&&X.env.locals != X.env.globals))=false:=by rw [I.ok.kind]; rfl
 have hiσ:i<σ.length:=by rw [I.len]; exact (YF.mp hi).1
 have cne:=I.cne
 have tracked:∀ {a:Addr} {h':Heap},(∃ o,s.heap.get? a=some o/\H a=none)->Heap.SameBut a s.heap h'->iz X.prog X.w H h':=fun {a h'} ha hs b ob e=>by
  obtain ⟨_,_,hfree⟩:=ha
  refine (I.hok b ob e).stay (fun c w' hc q=>(hs.2 c ?_).trans q) (fun _ q=>q) fun _ _ q=>q
  rintro rfl
  rcases hc with rfl | hc
  . rw [hfree] at e; cases e
  . rw [hfree] at hc; cases hc
 rcases hx with hk | hk
 . refine wpAny_storeName_local hk hn (fun h' hn' hs=>?_) hcls
   obtain ⟨oL,_,_,hoL,_⟩:=id hn
   refine h _ ⟨I.ok,I.os,I.bare,⟨fun b o e n hb hx=>?_,fun b o e n hb hx=>?_,I.base.free,fun b o e hx=>?_,I.base.tups,I.base.frzs,I.base.tbls⟩,⟨_,hn',fun j y v' e1 e2 e3=>?_⟩,fun y c e=>?_,I.free,I.freeC,fun p hp=>?_,tracked ⟨oL,hoL,I.free⟩ hs,by simpa using I.len⟩ ⟨_,hs,.inl rfl⟩
   . exact (hs.2 b (Zb (Y5 (YK e) I.ok.above))).trans (I.base.keep b o e n hb hx)
   . obtain ⟨sl,e1⟩:=I.base.slot b o e n hb hx
     exact ⟨sl,(hs.2 b (Zb (Y5 (YK e) I.ok.above))).trans e1⟩
   . obtain ⟨o',e1⟩:=I.base.there b o e hx
     exact ⟨o',(hs.2 b (Zb (Y5 (YK e) I.ok.above))).trans e1⟩
   . by_cases hj:j=i
     . subst hj
       rw [hi] at e1; cases e1
       rw [YM hiσ] at e2
       cases e2
       exact ⟨u,r,.inl ⟨hk,by simp⟩⟩
     . rw [Yz (Ne.symm hj)] at e2
       obtain ⟨u',r',q⟩:=hl j y v' e1 e2 e3
       refine ⟨u',r',?_⟩
       rcases q with ⟨k,e⟩ | ⟨k,c,e,z⟩
       . refine .inl ⟨k,?_⟩
         have:y≠x:=fun e=>hj (Ej hN e1 (e▸hi))
         simp [this,e]
       . exact .inr ⟨k,c,e,z.sameBut hs (cne y c e)⟩
   . obtain ⟨w',z⟩:=I.cell y c e
     exact ⟨w',z.sameBut hs (cne y c e)⟩
   . obtain ⟨e,n,ne,nf,d⟩:=I.pin p hp
     exact ⟨(hs.2 p.1 ne).trans e,n,ne,nf,d⟩
 . have hfn:X.fn x=true:=by
    rcases hf with z | z
    . exact z
    . rw [z] at hk; cases hk
   obtain ⟨c,hc⟩:=I.ok.has x (.inl hk)
   obtain ⟨w',z⟩:=I.cell x c hc
   refine wpAny_storeName_cell I.ok.kind hk hc z (fun h' hc' hs=>?_)
   obtain ⟨oc,hoc,hocd⟩:=id z
   refine h { s with heap:=h' } ⟨I.ok,I.os,I.bare,⟨fun b o e n hb hx=>?_,fun b o e n hb hx=>?_,I.base.free,fun b o e hx=>?_,I.base.tups,I.base.frzs,I.base.tbls⟩,⟨m,hn.sameBut hs (Ne.symm (cne x c hc)),fun j y v' e1 e2 e3=>?_⟩,fun y c' e=>?_,I.free,I.freeC,fun p hp=>?_,tracked ⟨oc,hoc,I.freeC x c hc⟩ hs,by simpa using I.len⟩ ⟨c,hs,.inr hc⟩
   . exact (hs.2 b (Zb (Y5 (YK e) (I.ok.cab x c hfn hc)))).trans (I.base.keep b o e n hb hx)
   . obtain ⟨sl,e1⟩:=I.base.slot b o e n hb hx
     exact ⟨sl,(hs.2 b (Zb (Y5 (YK e) (I.ok.cab x c hfn hc)))).trans e1⟩
   . obtain ⟨o',e1⟩:=I.base.there b o e hx
     exact ⟨o',(hs.2 b (Zb (Y5 (YK e) (I.ok.cab x c hfn hc)))).trans e1⟩
   . by_cases hj:j=i
     . subst hj
       rw [hi] at e1; cases e1
       rw [YM hiσ] at e2
       cases e2
       exact ⟨u,r,.inr ⟨.inl hk,c,hc,hc'⟩⟩
     . rw [Yz (Ne.symm hj)] at e2
       obtain ⟨u',r',q⟩:=hl j y v' e1 e2 e3
       refine ⟨u',r',?_⟩
       rcases q with q | ⟨k,c',e,z'⟩
       . exact .inl q
       . refine .inr ⟨k,c',e,z'.sameBut hs ?_⟩
         rintro rfl
         exact hj (Ej hN e1 (I.ok.inj _ _ _ e hc▸hi))
   . by_cases hcc:c'=c
     . subst hcc; exact ⟨_,hc'⟩
     . obtain ⟨w2,z2⟩:=I.cell y c' e
       exact ⟨w2,z2.sameBut hs hcc⟩
   . obtain ⟨e,n,ne,nf,d⟩:=I.pin p hp
     refine ⟨(hs.2 p.1 ?_).trans e,n,ne,nf,d⟩
     intro q
     rw [q,hoc] at e
     have q':oc=p.2:=YW e
     exact d w' (by rw [← q']; exact hocd)
theorem Ek {M:Model} {i:Nat} {x:Str} {v:V} {u:Value} {Q:Unit->Shared->Prop} (I:Inv X pins σ H s) (hN:X.N.Nodup) (hi:X.N[i]?=some x) (hx:Loc X.env.scope x) (r:RelV v u)
 (h:∀ s',Inv X pins (σ.set i (some v)) H s'->Q () s') (hf:X.fn x=true\/X.env.scope.names.lookup x=some .local:=by first | exact .inl rfl | exact .inr rfl | assumption):wpAny M A (storeName X.env x u) Q E s:=
 Ci I hN hi hx r (fun s' I' _=>h s' I') hf
theorem Inv.call' {s':Shared} {ch:List Addr} (I:Inv X pins σ H s) (ho:s'.os=s.os) (u:Un (frs X.stack) ch H H' s.heap s'.heap) (hok:iz X.prog X.w H' s'.heap) (hg:AllBare s'.gens)
 (hch:∀ b∈ch,(b∈X.ex\/X.s₀.heap.objs.size<=b)/\b≠X.env.locals/\(∀ x c,X.env.cells.lookup x=some c->c≠b)/\∀ p∈X.pn++pins,p.1≠b):Inv X pins σ H' s':=by
 obtain ⟨h',g',d',t',o'⟩:=s'
 have e:o'=s.os:=ho
 subst e
 exact I.call (g':=g') (t':=t') (d':=d') u hok hg hch
end
abbrev XK:=Value->Option Addr->Hp->Prop
abbrev St:=List (Option V)
abbrev VK:=V->Hp->Prop
abbrev TE:=St->Hp->VK->Prop
abbrev TT:=St->Hp->(Bool->Hp->Prop)->Prop
abbrev TA:=St->Hp->(List V->Hp->Prop)->Prop
structure Ends where
 nx:St->Hp->Prop
 rt:VK
 bk:St->Hp->Prop:=fun _ _=>False
 ct:St->Hp->Prop:=fun _ _=>False
abbrev TS:=Ends->St->Hp->Prop
def EP (X:Cx) (pins:List (Addr×Obj)) (σ:St) (Q:VK) (u:Value) (s':Shared):Prop:=∃ v H',Inv X pins σ H' s'/\RelV v u/\Q v H'
def TP (X:Cx) (pins:List (Addr×Obj)) (σ:St) (Q:Bool->Hp->Prop) (b:Bool) (s':Shared):Prop:=∃ H',Inv X pins σ H' s'/\Q b H'
def AP (X:Cx) (pins:List (Addr×Obj)) (σ:St) (Q:List V->Hp->Prop) (us:List Value) (s':Shared):Prop:=∃ vs H',Inv X pins σ H' s'/\Vals vs us/\Q vs H'
def SP (X:Cx) (pins:List (Addr×Obj)) (D:Ends) (f:Flow) (s':Shared):Prop:=
 match f with
 | .next=>∃ σ' H',Inv X pins σ' H' s'/\D.nx σ' H'
 | .brk=>∃ σ' H',Inv X pins σ' H' s'/\D.bk σ' H'
 | .cont=>∃ σ' H',Inv X pins σ' H' s'/\D.ct σ' H'
 | .ret u=>∃ v σ' H',Inv X pins σ' H' s'/\RelV v u/\D.rt v H'
def PE (X:Cx) (e:Expr) (t:TE):Prop:=
 ∀ (pins:List (Addr×Obj)) (s:Shared) (σ:St) (H:Hp) (Q:VK),Inv X pins σ H s->t σ H Q->wpAny (model X.prog X.w) X.A (eval e X.env) (EP X pins σ Q) X.xe s
def PT (X:Cx) (e:Expr) (t:TT):Prop:=
 ∀ (pins:List (Addr×Obj)) (s:Shared) (σ:St) (H:Hp) (Q:Bool->Hp->Prop),Inv X pins σ H s->t σ H Q->wpAny (model X.prog X.w) X.A (isTrue e X.env (eval e X.env)) (TP X pins σ Q) X.xe s
def PW (X:Cx) (e:Expr) (t:TT):Prop:=
 ∀ (whole:Sem Value) (pins:List (Addr×Obj)) (s:Shared) (σ:St) (H:Hp) (Q:Bool->Hp->Prop),Inv X pins σ H s->t σ H Q->wpAny (model X.prog X.w) X.A (isTrue e X.env whole) (TP X pins σ Q) X.xe s
theorem PW.pt {X:Cx} {e:Expr} {t:TT} (h:PW X e t):PT X e t:=h _
def PA (X:Cx) (es:List Expr) (t:TA):Prop:=
 ∀ (pos:Pos) (pins:List (Addr×Obj)) (s:Shared) (σ:St) (H:Hp) (Q:List V->Hp->Prop),Inv X pins σ H s->t σ H Q->wpAny (model X.prog X.w) X.A (spliced (backTo pos (starEach es X.env))) (AP X pins σ Q) X.xe s
def PS (X:Cx) (st:Stmt) (t:TS):Prop:=
 ∀ (pins:List (Addr×Obj)) (s:Shared) (σ:St) (H:Hp) (D:Ends),Inv X pins σ H s->t D σ H->wpAny (model X.prog X.w) X.A (exec st X.env) (SP X pins D) X.xe s
def iB (X:Cx) (st:List Stmt) (t:TS):Prop:=
 ∀ (pins:List (Addr×Obj)) (s:Shared) (σ:St) (H:Hp) (D:Ends),Inv X pins σ H s->t D σ H->wpAny (model X.prog X.w) X.A (execs st X.env) (SP X pins D) X.xe s
theorem cj {α:Type} {t:Sem α} {Q Q':α->Shared->Prop} {M:Model} (h:wpAny M A t Q E s) (hQ:∀ a s,Q a s->Q' a s):wpAny M A t Q' E s:=wpAny_mono h hQ fun _ _ x=>x
section
variable {X:Cx}
theorem bin {a b:Expr} {ta tb:TE} (ha:PE X a ta) (hb:PE X b tb) {σ:St} {H:Hp} {R:V->V->Hp->Prop} (I:Inv X pins σ H s) (h:ta σ H fun x H1=>tb σ H1 fun y H2=>R x y H2)
 {α:Type} {Q:α->Shared->Prop} {f:Value->Value->Sem α}
 (hf:∀ v u s2 x y H2,Inv X pins σ H2 s2->RelV x v->RelV y u->R x y H2->wpAny (model X.prog X.w) X.A (f v u) Q X.xe s2):
 wpAny (model X.prog X.w) X.A (eval a X.env) (fun v s₁=>wpAny (model X.prog X.w) X.A (eval b X.env) (fun u s₂=>wpAny (model X.prog X.w) X.A (f v u) Q X.xe s₂) X.xe s₁) X.xe s:=by
 refine cj (ha pins s σ H _ I h) fun v s1 ⟨x,H1,I1,r1,q1⟩=>?_
 refine cj (hb pins s1 σ H1 _ I1 q1) fun u s2 ⟨y,H2,I2,r2,q2⟩=>?_
 exact hf v u s2 x y H2 I2 r1 r2 q2
def pX (i:Nat):TE:=fun σ H Q=>∃ v,σ[i]?=some (some v)/\Q v H
def tC (v:V):TE:=fun _ H Q=>Q v H
theorem TX {i:Nat} {x:Str} {pos:Pos} (hN:X.N[i]?=some x) (hv:KR X.env.scope x) (hd:(x==("__debug__" : Str))=false:=by decide) (hcd:(x==("__classdict__" : Str))=false:=by decide):PE X (.Name x pos) (pX i):=by
 intro pins s σ H Q I h
 obtain ⟨v,e,h⟩:=h
 obtain ⟨m,hn,hl⟩:=I.loc
 obtain ⟨u,r,l⟩:=hl i x v hN e hv
 have fin:EP X pins σ Q u s:=⟨v,H,I,r,h⟩
 rcases l with ⟨hk,hm⟩ | ⟨hk,c,hc,hcell⟩
 . exact wpAny_Name (wpAny_loadName_local I.ok.kind hk hn hm fin) hd
 . rcases hk with hk | hk
   . exact wpAny_Name (wpAny_loadName_cell I.ok.kind hk hc hcell fin) hd
   . exact wpAny_Name (wpAny_loadName_free I.ok.kind hk hc hcell fin hcd) hd
theorem TY {i j pos}:PE X (.Constant (.int i) j pos) (tC (.int i)):=fun _ _ _ H _ I h=>wpAny_Constant_int ⟨.int i,H,I.tok _,⟨_,rfl⟩,h⟩
theorem zj {b j pos}:PE X (.Constant (.bool b) j pos) (tC (.bl b)):=fun _ _ _ H _ I h=>Constant_bool ⟨.bl b,H,I,rfl,h⟩
theorem T3 {j pos}:PE X (.Constant .none j pos) (tC .non):=fun _ _ _ H _ I h=>Constant_none ⟨.non,H,I,rfl,h⟩
theorem T4 {x j pos}:PE X (.Constant (.str x) j pos) (tC (.str x)):=fun _ _ _ H _ I h=>Calls.Constant_str ⟨.str x,H,I.tok _,⟨_,rfl⟩,h⟩
def Gl (X:Cx) (x:Str):Prop:=X.env.kindOf x=some .globalImplicit
theorem Bd {σ:St} {H:Hp} {x:Str} {u:Value} {pos:Pos} {Q:Value->Shared->Prop} (I:Inv X pins σ H s) (hg:Gl X x) (hm:X.mg x=some u) (h:Q u s)
 (hd:(x==("__debug__" : Str))=false:=by decide):wpAny (model X.prog X.w) X.A (eval (.Name x pos) X.env) Q E s:=
 Calls.Name_function_global I.ok.kind hg (Calls.loadGlobal_global (by rw [I.ok.glob]; exact I.mod.glob.keeps I.bk) hm h) hd
theorem qX {σ:St} {H:Hp} {x:Str} {u:Value} {pos:Pos} {Q:Value->Shared->Prop} (I:Inv X pins σ H s) (hg:Gl X x) (hm:X.mg x=none) (hv:bootBuiltins x=some u) (h:Q u s)
 (hn:x ≠ "__name__" := by decide) (hd:(x==("__debug__" : Str))=false:=by decide):wpAny (model X.prog X.w) X.A (eval (.Name x pos) X.env) Q E s:=by
 obtain ⟨mb,h1,h2⟩:=I.mod.blt
 exact Calls.Name_function_global I.ok.kind hg (Calls.loadGlobal_builtin (by rw [I.ok.glob]; exact I.mod.glob.keeps I.bk) hm (by rw [I.ok.blt]; exact h1.keeps I.bk) ((h2 x hn).trans hv) h) hd
theorem Rb {x:Str} {v:V} {u:Value} {pos:Pos} (hg:Gl X x) (hm:X.mg x=some u) (r:RelV v u) (hd:(x==("__debug__" : Str))=false:=by decide):PE X (.Name x pos) (tC v):=
 fun _ _ _ H _ I h=>Bd I hg hm ⟨v,H,I,r,h⟩ hd
theorem gk {x:Str} {v:V} {u:Value} {pos:Pos} (hg:Gl X x) (hm:X.mg x=none) (hv:bootBuiltins x=some u) (r:RelV v u) (hn:x ≠ "__name__" := by decide) (hd:(x==("__debug__" : Str))=false:=by decide):PE X (.Name x pos) (tC v):=
 fun _ _ _ H _ I h=>qX I hg hm hv ⟨v,H,I,r,h⟩ hn hd
variable {a b:Expr} {ta tb:TE} {pos:Pos}
variable {tA tB':TT} {rest:List Expr}
def T9 (t u:TT):TT:=fun σ H Q=>t σ H fun c H1=>if c=true then u σ H1 Q else Q false H1
def Xf (t u:TT):TT:=fun σ H Q=>t σ H fun c H1=>if c=true then Q true H1 else u σ H1 Q
def Xv (t:TT):TT:=fun σ H Q=>t σ H fun c H1=>Q (!c) H1
theorem Rc (ha:PT X a tA):PW X (.BoolOp .And [a] pos) tA:=by
 intro wh pins s σ H Q I h
 refine isTrue_and (cj (ha pins s σ H Q I h) fun c s1 e=>?_)
 cases c with
 | true=>exact isTrue_and_nil e
 | false=>exact e
theorem Ua (ha:PT X a tA):PW X (.BoolOp .Or [a] pos) tA:=by
 intro wh pins s σ H Q I h
 refine isTrue_or (cj (ha pins s σ H Q I h) fun c s1 e=>?_)
 cases c with
 | false=>exact isTrue_or_nil e
 | true=>exact e
theorem Ub (ha:PT X a tA) (hb:PW X (.BoolOp .And (b::rest) pos) tB'):PW X (.BoolOp .And (a::b::rest) pos) (T9 tA tB'):=by
 intro wh pins s σ H Q I h
 refine isTrue_and (cj (ha pins s σ H _ I h) fun c s1 ⟨H1,I1,q1⟩=>?_)
 cases c with
 | true=>exact hb wh pins s1 σ H1 Q I1 q1
 | false=>exact ⟨H1,I1,q1⟩
theorem Ww (ha:PT X a tA) (hb:PW X (.BoolOp .Or (b::rest) pos) tB'):PW X (.BoolOp .Or (a::b::rest) pos) (Xf tA tB'):=by
 intro wh pins s σ H Q I h
 refine isTrue_or (cj (ha pins s σ H _ I h) fun c s1 ⟨H1,I1,q1⟩=>?_)
 cases c with
 | true=>exact ⟨H1,I1,q1⟩
 | false=>exact hb wh pins s1 σ H1 Q I1 q1
theorem Uc (ha:PT X a tA):PT X (.UnaryOp .Not a pos) (Xv tA):=by
 intro pins s σ H Q I h
 exact isTrue_not (ha pins s σ H (fun c H1=>Q (!c) H1) I h)
def Wx (ta tb:TE):TE:=fun σ H Q=>ta σ H fun x H1=>∃ c,x=.bl c/\if c=true then tb σ H1 Q else Q (.bl false) H1
def Xw (ta tb:TE):TE:=fun σ H Q=>ta σ H fun x H1=>∃ c,x=.bl c/\if c=true then Q (.bl true) H1 else tb σ H1 Q
def Wy (ta:TE):TE:=fun σ H Q=>ta σ H fun x H1=>∃ c,x=.bl c/\Q (.bl (!c)) H1
theorem Ud {op} {t:TE} (h:PE X a t):PE X (.BoolOp op [a] pos) t:=fun pins s σ H Q I hw=>BoolOp_one (h pins s σ H Q I hw)
theorem Ue (ha:PE X a ta) (hb:PE X (.BoolOp .And (b::rest) pos) tb):PE X (.BoolOp .And (a::b::rest) pos) (Wx ta tb):=by
 intro pins s σ H Q I h
 refine BoolOp_and (cj (ha pins s σ H _ I h) fun v s1 ⟨x,H1,I1,r1,q1⟩=>?_)
 obtain ⟨c,rfl,q1⟩:=q1
 cases r1
 refine wpAny_truthy_bool ?_
 cases c with
 | true=>exact hb pins s1 σ H1 Q I1 q1
 | false=>exact ⟨.bl false,H1,I1,rfl,q1⟩
theorem Wz (ha:PE X a ta) (hb:PE X (.BoolOp .Or (b::rest) pos) tb):PE X (.BoolOp .Or (a::b::rest) pos) (Xw ta tb):=by
 intro pins s σ H Q I h
 refine BoolOp_or (cj (ha pins s σ H _ I h) fun v s1 ⟨x,H1,I1,r1,q1⟩=>?_)
 obtain ⟨c,rfl,q1⟩:=q1
 cases r1
 refine wpAny_truthy_bool ?_
 cases c with
 | false=>exact hb pins s1 σ H1 Q I1 q1
 | true=>exact ⟨.bl true,H1,I1,rfl,q1⟩
theorem Ug (ha:PE X a ta):PE X (.UnaryOp .Not a pos) (Wy ta):=by
 intro pins s σ H Q I h
 refine UnaryOp_ (cj (ha pins s σ H _ I h) fun v s1 ⟨x,H1,I1,r1,q1⟩=>?_)
 obtain ⟨c,rfl,q1⟩:=q1
 cases r1
 exact not_of (wpAny_truthy_bool ⟨.bl (!c),H1,I1,rfl,q1⟩)
def Yh (t:TT) (ta tb:TE):TE:=fun σ H Q=>t σ H fun c H1=>if c=true then ta σ H1 Q else tb σ H1 Q
theorem NB {c:Expr} (hc:PT X c tA) (ha:PE X a ta) (hb:PE X b tb):PE X (.IfExp c a b pos) (Yh tA ta tb):=by
 intro pins s σ H Q I h
 refine wpAny_IfExp (cj (hc pins s σ H _ I h) fun d s1 ⟨H1,I1,q1⟩=>?_)
 cases d with
 | true=>exact ha pins s1 σ H1 Q I1 q1
 | false=>exact hb pins s1 σ H1 Q I1 q1
end
def bU (K:FG) (H:Hp) (a:Addr) (xs:List V):Prop:=
 Rd H a (.lst xs)\/
  ∃ (o:Obj) (its:Array Value) (n:Nat),K.lookup a=some o/\o.cls=.type "list" /\ o.dict=none/\o.data=.seq its n/\its.size<=sizeLine/\Vals xs its.toList
def cQ (K:FG) (H:Hp) (a:Addr) (xs:List V):Prop:=
 Rd H a (.tup xs)\/
  ∃ (o:Obj) (its:Array Value) (n:Nat),K.lookup a=some o/\o.cls=.type "tuple" /\ o.data=.seq its n/\its.size<=sizeLine/\Vals xs its.toList
noncomputable def Xx:Value->Option V
 | .none=>some .non
 | .bool b=>some (.bl b)
 | .int i _=>some (.int i)
 | .str x _=>some (.str x)
 | .bytes b _=>some (.byt b)
 | .float b _=>some (.flt b)
 | .ref a=>some (.ref a)
 | .type n=>some (.ty n)
 | _=>none
theorem RelV.abs {x:V} {u:Value} (r:RelV x u):Xx u=some x:=by
 cases x with
 | non=>cases r; rfl
 | bl _=>cases r; rfl
 | int _=>obtain ⟨t,rfl⟩:=r; rfl
 | str _=>obtain ⟨t,rfl⟩:=r; rfl
 | byt _=>obtain ⟨t,rfl⟩:=r; rfl
 | flt _=>obtain ⟨t,rfl⟩:=r; rfl
 | ref _=>cases r; rfl
 | ty _=>cases r; rfl
theorem RelV.inj {x y:V} {u:Value} (r:RelV x u) (q:RelV y u):x=y:=YW (r.abs.symm.trans q.abs)
theorem Vals.inj:∀ {xs ys:List V} {us:List Value},Vals xs us->Vals ys us->xs=ys
 | _,_,_,.nil,.nil=>rfl
 | _,_,_,.cons r t,.cons r' t'=>by rw [r.inj r',Vals.inj t t']
section
variable {X:Cx} {pins:List (Addr×Obj)} {σ:St} {H:Hp} {s:Shared} {a:Addr} {xs ys:List V}
theorem bU.of {K:FG} (h:H a=some (.lst xs)):bU K H a xs:=.inl (.inl h)
theorem cQ.of {K:FG} (h:H a=some (.tup xs)):cQ K H a xs:=.inl (.inl h)
theorem Inv.list (I:Inv X pins σ H s) (h:bU X.K H a xs):∃ its:List Value,Vals xs its/\PlainL s.heap a its.toArray/\xs.length<=sizeLine:=by
 rcases h with h | ⟨o,its,n,hk,hc,hd,hs,hz,r⟩
 . obtain ⟨z,its,n,r,e⟩:=h.ok I.hok
   exact ⟨its,r,⟨_,n,e,rfl,rfl,rfl⟩,z⟩
 . refine ⟨its.toList,r,⟨o,n,I.kIn a o hk,hc,hd,by simpa using hs⟩,?_⟩
   have e:=r.length
   simp only [aar] at e
   omega
theorem Inv.tuple (I:Inv X pins σ H s) (h:cQ X.K H a xs):∃ its:List Value,Vals xs its/\IsTup s.heap a its.toArray/\xs.length<=sizeLine:=by
 rcases h with h | ⟨o,its,n,hk,hc,hs,hz,r⟩
 . obtain ⟨z,its,r,p⟩:=h.ok I.hok
   exact ⟨its,r,p,z⟩
 . refine ⟨its.toList,r,⟨o,I.kIn a o hk,hc,n,by simpa using hs⟩,?_⟩
   have e:=r.length
   simp only [aar] at e
   omega
theorem Inv.list_inj (I:Inv X pins σ H s) (h:bU X.K H a xs) (h':bU X.K H a ys):xs=ys:=by
 obtain ⟨its,r,⟨o,n,e,_,_,d⟩,_⟩:=I.list h
 obtain ⟨its',r',⟨o',n',e',_,_,d'⟩,_⟩:=I.list h'
 rw [e] at e'; cases e'
 rw [d] at d'
 injection d' with d1 _
 have:its=its':=by simpa using congrArg Array.toList d1
 subst this
 exact r.inj r'
theorem Inv.tuple_inj (I:Inv X pins σ H s) (h:cQ X.K H a xs) (h':cQ X.K H a ys):xs=ys:=by
 obtain ⟨its,r,⟨o,e,_,n,d⟩,_⟩:=I.tuple h
 obtain ⟨its',r',⟨o',e',_,n',d'⟩,_⟩:=I.tuple h'
 rw [e] at e'; cases e'
 rw [d] at d'
 injection d' with d1 _
 have:its=its':=by simpa using congrArg Array.toList d1
 subst this
 exact r.inj r'
end
noncomputable abbrev Cx.wish (X:Cx) (E:Value->Shared->Prop):Cx:={ X with xe:=E }
noncomputable abbrev Cx.nox (X:Cx):Cx:=X.wish fun _ _=>False
theorem Cx.Ok.wish {X:Cx} (ok:X.Ok) (E:Value->Shared->Prop):(X.wish E).Ok:=
 ⟨ok.mod,ok.kind,ok.glob,ok.blt,ok.above,ok.inj,ok.has,ok.cab,ok.hd,ok.frames,ok.stk,ok.exf,ok.bs,ok.bsz,ok.noex,ok.exfs,ok.funs,ok.frf⟩
theorem Cx.Ok.unwish {X:Cx} (ok:(X.wish E).Ok):X.Ok:=
 ⟨ok.mod,ok.kind,ok.glob,ok.blt,ok.above,ok.inj,ok.has,ok.cab,ok.hd,ok.frames,ok.stk,ok.exf,ok.bs,ok.bsz,ok.noex,ok.exfs,ok.funs,ok.frf⟩
section
variable {X:Cx} {pins:List (Addr×Obj)} {σ:St} {H:Hp} {s:Shared} {E:Value->Shared->Prop}
theorem Inv.wish (I:Inv X pins σ H s) (E:Value->Shared->Prop):Inv (X.wish E) pins σ H s:=⟨I.ok.wish E,I.os,I.bare,I.base,I.loc,I.cell,I.free,I.freeC,I.pin,I.hok,I.len⟩
theorem Inv.unwish (I:Inv (X.wish E) pins σ H s):Inv X pins σ H s:=⟨I.ok.unwish,I.os,I.bare,I.base,I.loc,I.cell,I.free,I.freeC,I.pin,I.hok,I.len⟩
theorem SP.unwish {D:Ends} {f:Flow} {s':Shared} (h:SP (X.wish E) pins D f s'):SP X pins D f s':=by
 cases f with
 | next=>obtain ⟨σ',H',I,q⟩:=h; exact ⟨σ',H',I.unwish,q⟩
 | brk=>obtain ⟨σ',H',I,q⟩:=h; exact ⟨σ',H',I.unwish,q⟩
 | cont=>obtain ⟨σ',H',I,q⟩:=h; exact ⟨σ',H',I.unwish,q⟩
 | ret u=>obtain ⟨v,σ',H',I,r,q⟩:=h; exact ⟨v,σ',H',I.unwish,r,q⟩
theorem iB.nox {st:List Stmt} {t:TS} (h:iB X.nox st t):iB X st t:=fun pins s σ H D I hw=>
 wpAny_mono (h pins s σ H D (I.wish _) hw) (fun _ _ q=>q.unwish) fun _ _ z=>False.elim z
end
section
variable {X:Cx} {st:Stmt} {rest:List Stmt} {t u:TS} {e:Expr} {te:TE} {pos:Pos}
def WD:TS:=fun D σ H=>D.nx σ H
def Xy (t u:TS):TS:=fun D σ H=>t { D with nx:=u D } σ H
theorem Rf:iB X [] WD:=fun _ _ σ H _ I h=>wpAny_execs_nil ⟨σ,H,I,h⟩
theorem NK (h1:PS X st t) (h2:iB X rest u):iB X (st::rest) (Xy t u):=by
 intro pins s σ H D I h
 refine wpAny_execs_cons (cj (h1 pins s σ H { D with nx:=u D } I h) fun f s1 q=>?_)
 cases f with
 | next=>
  obtain ⟨σ',H',I',q⟩:=q
  exact h2 pins s1 σ' H' D I' q
 | ret v=>exact q
 | brk=>exact q
 | cont=>exact q
theorem Rg (h1:PS X st t):iB X [st] t:=by
 intro pins s σ H D I h
 refine wpAny_execs_cons (cj (h1 pins s σ H D I h) fun f s1 q=>?_)
 cases f with
 | next=>exact wpAny_execs_nil q
 | ret v=>exact q
 | brk=>exact q
 | cont=>exact q
theorem Inv.quiet {σ:St} {H:Hp} (I:Inv X pins σ H s):interactive X.env=false:=by simp [interactive,I.ok.kind]
def uW (te:TE):TS:=fun D σ H=>te σ H fun _ H1=>D.nx σ H1
theorem iw (he:PE X e te) (hs:swapsWith e none pos.line X.env=pure false:=by rfl):PS X (.Expr e pos) (uW te):=by
 intro pins s σ H D I h
 exact wpAny_Expr_any (cj (he pins s σ H _ I h) fun v s1 ⟨x,H1,I1,r1,q1⟩=>⟨σ,H1,I1,q1⟩) I.quiet hs
def Xz (te:TE):TS:=fun D σ H=>te σ H D.rt
theorem KY (he:PE X e te):PS X (.Return (some e) pos) (Xz te):=by
 intro pins s σ H D I h
 exact wpAny_Return_some (cj (he pins s σ H _ I h) fun v s1 ⟨x,H1,I1,r1,q1⟩=>⟨x,σ,H1,I1,r1,q1⟩)
def XC (c:TT) (t u:TS):TS:=fun D σ H=>c σ H fun b H1=>if b=true then t D σ H1 else u D σ H1
theorem WF {c:Expr} {a b:List Stmt} {tc:TT} (hc:PT X c tc) (ha:iB X a t) (hb:iB X b u):PS X (.If c a b pos) (XC tc t u):=by
 intro pins s σ H D I h
 refine wpAny_If (cj (hc pins s σ H _ I h) fun d s1 ⟨H1,I1,q1⟩=>?_)
 cases d with
 | true=>exact ha pins s1 σ H1 D I1 q1
 | false=>exact hb pins s1 σ H1 D I1 q1
end
abbrev TG:=V->St->Hp->(St->Hp->Prop)->Prop
abbrev vU:=List V->St->Hp->(St->Hp->Prop)->Prop
def PG (X:Cx) (target:Expr) (t:TG):Prop:=
 ∀ (pins:List (Addr×Obj)) (s:Shared) (σ:St) (H:Hp) (v:V) (u:Value) (Q:St->Hp->Prop),Inv X pins σ H s->RelV v u->t v σ H Q->
  wpAny (model X.prog X.w) X.A (assign target X.env u) (fun _ s'=>∃ σ' H',Inv X pins σ' H' s'/\Q σ' H') X.xe s
def KZ (X:Cx) (ts:List Expr) (t:vU):Prop:=
 ∀ (pins:List (Addr×Obj)) (s:Shared) (σ:St) (H:Hp) (vs:List V) (us:List Value) (Q:St->Hp->Prop),Inv X pins σ H s->Vals vs us->t vs σ H Q->
  wpAny (model X.prog X.w) X.A (assignInOrder ((assignEach ts X.env).map (·.2)) us) (fun _ s'=>∃ σ' H',Inv X pins σ' H' s'/\Q σ' H') X.xe s
abbrev NP:=V->V->V->Hp->(Hp->Prop)->Prop
def NQ (X:Cx) (t:NP):Prop:=
 ∀ (pins:List (Addr×Obj)) (s:Shared) (σ:St) (H:Hp) (o i v:V) (ov iv u:Value) (Q:Hp->Prop),Inv X pins σ H s->RelV o ov->RelV i iv->RelV v u->t o i v H Q->
  wpAny (model X.prog X.w) X.A (setItem ov iv u) (fun _ s'=>∃ H',Inv X pins σ H' s'/\Q H') X.xe s
section
variable {X:Cx} {pos:Pos}
def DG (i:Nat):TG:=fun v σ H Q=>Q (σ.set i (some v)) H
theorem Be {i:Nat} {x:Str} (hN:X.N.Nodup) (hi:X.N[i]?=some x) (hx:Loc X.env.scope x) (hf:X.fn x=true\/X.env.scope.names.lookup x=some .local:=by first | exact .inl rfl | exact .inr rfl | assumption):PG X (.Name x pos) (DG i):=by
 intro pins s σ H v u Q I r h
 exact wpAny_assign_Name (Ek I hN hi hx r (fun s' I'=>⟨_,H,I',h⟩) hf)
noncomputable def Uh:vU:=fun vs σ H Q=>vs=[]/\Q σ H
noncomputable def Qs (t:TG) (u:vU):vU:=fun vs σ H Q=>∃ v r,vs=v::r/\t v σ H fun σ' H'=>u r σ' H' Q
theorem iy:KZ X [] Uh:=by
 intro pins s σ H vs us Q I r h
 obtain ⟨e,h⟩:=h
 subst e
 cases r
 exact assignInOrder_nil ⟨σ,H,I,h⟩
theorem bH {e:Expr} {es:List Expr} {t:TG} {u:vU} (h1:PG X e t) (h2:KZ X es u)
 (hs:(assignEach (e::es) X.env).map (·.2)=assign e X.env::(assignEach es X.env).map (·.2):=by rfl):KZ X (e::es) (Qs t u):=by
 intro pins s σ H vs us Q I r h
 obtain ⟨v,vr,e1,h⟩:=h
 subst e1
 cases r with
 | cons r rr=>
  rw [hs]
  refine assignInOrder_cons (cj (h1 pins s σ H _ _ _ I r h) fun _ s1 ⟨σ1,H1,I1,q1⟩=>?_)
  exact h2 pins s1 σ1 H1 _ _ Q I1 rr q1
def XF (K:FG) (n:Nat) (t:vU):TG:=fun v σ H Q=>∃ a xs,v=.ref a/\cQ K H a xs/\xs.length=n/\t xs σ H Q
theorem Ui {es:List Expr} {k:Nat} {t:vU} {n:Nat} (hc:X.calm=true) (h:KZ X es t)
 (hn:(assignEach es X.env).length=n:=by rfl) (hst:(assignEach es X.env).findIdx? (·.1)=none:=by rfl):PG X (.Tuple es k pos) (XF X.K n t):=by
 intro pins s σ H v u Q I r hw
 obtain ⟨a,xs,e1,hq,hl,hw⟩:=hw
 subst e1
 cases r
 obtain ⟨its,rv,ht,hz⟩:=I.tuple hq
 refine assign_Tuple_tuple (I.ok.hd hc) ht (by simp [hn,← hl,rv.length]) hst fun h' hx=>?_
 have I1:Inv X pins σ H { s with heap:=h' }:=I.kept (t':=s.toks) fun b o e=>hx b o (Zb (YK e)) e
 exact h pins _ σ H xs _ Q I1 (by simpa using rv) hw
def Jz (to ti:TE) (t:NP):TG:=fun v σ H Q=>to σ H fun o H1=>ti σ H1 fun i H2=>t o i v H2 fun H3=>Q σ H3
theorem qY {o i:Expr} {to ti:TE} {t:NP} (ho:PE X o to) (hi:PE X i ti) (hs:NQ X t)
 (ha:∀ v,assign (.Subscript o i pos) X.env v=(do
   let ov ← holding [v] (eval o X.env)
   let iv ← holding [v,ov] (eval i X.env)
   standAt pos
   holding [v,ov,iv] (setItem ov iv v)
   release [v,ov,iv] []):=by intro _; rfl):PG X (.Subscript o i pos) (Jz to ti t):=by
 intro pins s σ H v u Q I r h
 rw [ha]
 refine aaY (wpAny_holding (cj (ho pins s σ H _ I h) fun ov s1 ⟨x,H1,I1,r1,q1⟩=>?_))
 refine aaY (wpAny_holding (cj (hi pins s1 σ H1 _ I1 q1) fun iv s2 ⟨y,H2,I2,r2,q2⟩=>?_))
 refine aaY (wpAny_standAt (aaY (wpAny_holding (cj (hs pins s2 σ H2 x y v ov iv u _ I2 r1 r2 r q2) fun _ s3 ⟨H3,I3,q3⟩=>?_))))
 exact wpAny_release ⟨σ,H3,I3,q3⟩
def El (te:TE) (g:TG):TS:=fun D σ H=>te σ H fun x H1=>g x σ H1 D.nx
theorem qZ {tg e:Expr} {te:TE} {g:TG} (he:PE X e te) (hg:PG X tg g) (hs:swapsWithSole [tg] e pos.line X.env=pure false:=by rfl) (hw:swappedStores [tg] e X.env=pure none:=by rfl)
 (h1:(assignEach [tg] X.env).map (·.2)=[assign tg X.env]:=by rfl):PS X (.Assign [tg] e pos) (El te g):=by
 intro pins s σ H D I h
 refine wpAny_Assign_stores (cj (he pins s σ H _ I h) fun v s1 ⟨x,H1,I1,r1,q1⟩=>?_) hs hw
 rw [h1]
 exact cj (hg pins s1 σ H1 x v _ I1 r1 q1) fun _ s2 q=>q
theorem Uj {i:Nat} {x:Str} {e:Expr} {te:TE} {pos':Pos} (hN:X.N.Nodup) (hi:X.N[i]?=some x) (hx:Loc X.env.scope x) (he:PE X e te) (hs:swapsWith e (some (.Name x pos')) pos.line X.env=pure false:=by rfl) (hf:X.fn x=true\/X.env.scope.names.lookup x=some .local:=by first | exact .inl rfl | exact .inr rfl | assumption):
 PS X (.Assign [.Name x pos'] e pos) (El te (DG i)):=by
 intro pins s σ H D I h
 refine wpAny_Assign_Name (cj (he pins s σ H _ I h) fun v s1 ⟨y,H1,I1,r1,q1⟩=>?_) hs
 exact Ek I1 hN hi hx r1 (fun s2 I2=>⟨_,H1,I2,q1⟩) hf
def Uk (c:TT) (tb:TS):TS:=fun D σ H=>∃ W:Nat->St->Hp->Prop,(∃ m,W m σ H)/\∀ m σ H,W m σ H->
 c σ H fun b H1=>if b=true then ∃ N:St->Hp->Prop,(∀ σ' H',N σ' H'->∃ m',m'<m/\W m' σ' H')/\tb { D with nx:=N,ct:=N,bk:=D.nx } σ H1 else D.nx σ H1
theorem NT {c:Expr} {body:List Stmt} {tc:TT} {tb:TS} (hp:PassesOwn (model X.prog X.w) X.A X.env X.xe) (hc:PT X c tc) (hb:iB X body tb):PS X (.While c body [] pos) (Uk tc tb):=by
 intro pins s σ H D I h
 obtain ⟨W,⟨m0,w0⟩,turn⟩:=h
 refine wpAny_While (codeAny_whileLoop (fun n s'=>∃ σ' H',Inv X pins σ' H' s'/\W n σ' H') ?_ m0 ⟨σ,H,I,w0⟩)
 rintro n s1 ⟨σ1,H1,I1,w1⟩
 refine wpAny_passesOwn hp (cj (hc pins s1 σ1 H1 _ I1 (turn n σ1 H1 w1)) fun b s2 ⟨H2,I2,q2⟩=>?_)
 cases b with
 | true=>
  obtain ⟨N,hN,q2⟩:=q2
  rw [aaZ rfl]
  refine wpAny_passesOwn hp (cj (hb pins s2 σ1 H2 _ I2 q2) fun f s3 q3=>?_)
  cases f with
  | next=>
   obtain ⟨σ3,H3,I3,n3⟩:=q3
   obtain ⟨m',hm,w3⟩:=hN σ3 H3 n3
   exact ⟨m',hm,σ3,H3,I3,w3⟩
  | cont=>
   obtain ⟨σ3,H3,I3,n3⟩:=q3
   obtain ⟨m',hm,w3⟩:=hN σ3 H3 n3
   exact ⟨m',hm,σ3,H3,I3,w3⟩
  | brk=>exact q3
  | ret v=>exact q3
 | false=>
  rw [aa0 Ze]
  exact wpAny_execs_nil ⟨σ1,H2,I2,q2⟩
end
structure It where
 go:Nat->Hp->Prop
 yld:Nat->Hp->V->Hp->Prop
 stop:Nat->Hp->Prop
def mz (X:Cx) (pins:List (Addr×Obj)) (H:Hp) (b:Addr):Prop:=
 H b=none/\b≠X.env.locals/\b∉X.fs/\(b∈X.ex\/X.s₀.heap.objs.size<=b)/\(∀ x c,X.env.cells.lookup x=some c->c≠b)/\∀ p∈X.pn++pins,p.1≠b
theorem Inv.fpOk {X:Cx} {σ:St} {H H':Hp} {b:Addr} (I:Inv X pins σ H s) (hb:s.heap.objs.size<=b) (hn:H' b=none):mz X pins H' b:=by
 refine ⟨hn,Zw (Y5 I.lt hb),I.nofs hb,.inr (Zo I.sz hb),fun x c e z=>?_,fun p hp z=>?_⟩
 . obtain ⟨v,q⟩:=I.cell x c e
   exact absurd (Y5 q.lt (by rw [z]; exact hb)) (ZS _)
 . exact absurd (Y5 (YK (I.pin p hp).1) (by rw [z]; exact hb)) (ZS _)
structure Turn (P:Program) (w:World) (K:FG) (tg:Expr) (J:It) (fp:List Addr) (it:Addr) (tn:Nat->Heap->Prop):Prop where
 mem:it∈fp
 obj:∀ i h,tn i h->∀ b∈fp,∃ o,h.get? b=some o/\∀ v,o.data≠.cell v
 keep:∀ i h h',tn i h->(∀ b∈fp,∀ o,h.get? b=some o->h'.get? b=some o)->tn i h'
 item:∀ (X:Cx),X.prog=P->X.w=w->X.K=K->X.calm=true->∀ (i:Nat) (pins:List (Addr×Obj)) (s:Shared) (σ:St) (H:Hp) (E:Value->Shared->Prop),Inv X pins σ H s->(∀ b∈fp,mz X pins H b)->tn i s.heap->J.go i H->
  wpAny (model P w) X.A (pyNext (.ref it)) (fun r s1=>∃ u,r=some u/\
   wpAny (model P w) X.A (letOwnedTupleGo tg (.ref it) u) (fun _ s2=>∃ x H',Inv X pins σ H' s2/\RelV x u/\J.yld i H x H'/\tn (i+1) s2.heap/\∀ b∈fp,H' b=none) E s1) E s
 done:∀ (X:Cx),X.prog=P->X.w=w->X.K=K->X.calm=true->∀ (i:Nat) (pins:List (Addr×Obj)) (s:Shared) (σ:St) (H:Hp) (E:Value->Shared->Prop),Inv X pins σ H s->(∀ b∈fp,mz X pins H b)->tn i s.heap->J.stop i H->
  wpAny (model P w) X.A (pyNext (.ref it)) (fun r s1=>r=none/\Inv X pins σ H s1) E s
 self:∀ (A:Around) (i:Nat) (s:Shared) (Q:Value->Shared->Prop) (E:Value->Shared->Prop),tn i s.heap->Q (.ref it) s->wpAny (model P w) A (pyIter (.ref it)) Q E s
abbrev TI:=St->Hp->(It->Hp->Prop)->Prop
def PIE (X:Cx) (pins:List (Addr×Obj)) (σ:St) (tg:Expr) (R:It->Hp->Prop) (itv:Value) (s2:Shared):Prop:=
 ∃ (it:Addr) (fp:List Addr) (tn:Nat->Heap->Prop) (J:It) (H':Hp),itv=.ref it/\Inv X pins σ H' s2/\Turn X.prog X.w X.K tg J fp it tn/\tn 0 s2.heap/\(∀ b∈fp,mz X pins H' b)/\R J H'
def PI (X:Cx) (tg iter:Expr) (wi:TI):Prop:=
 ∀ (pins:List (Addr×Obj)) (s:Shared) (σ:St) (H:Hp) (R:It->Hp->Prop),Inv X pins σ H s->wi σ H R->
  wpAny (model X.prog X.w) X.A (eval iter X.env) (fun v s1=>wpAny (model X.prog X.w) X.A (pyIter v) (PIE X pins σ tg R) X.xe s1) X.xe s
theorem DK {M:Model} {tg:Expr} {it:Addr} {u:Value} {o:Obj} {n:String} {vs:Array Value} {Q:Unit->Shared->Prop} (ho:s.heap.get? it=some o) (hc:o.cls=.type n) (hd:o.data=.fields vs)
 (hn:["enumerate", "zip", "dict_itemiterator", "dict_reverseitemiterator", "odict_iterator", "itertools.zip_longest", "itertools.pairwise"].contains n=false) (hQ:Q () s):wpAny M A (letOwnedTupleGo tg (.ref it) u) Q E s:=by
 unfold letOwnedTupleGo
 cases tg<;>first
  | exact aa1 hQ
  | (cases u<;>first
      | exact aa1 hQ
      | (refine aaY (wpAny_load ho ?_)
         rw [hc,hd]
         show wpAny M A (if (["enumerate", "zip", "dict_itemiterator", "dict_reverseitemiterator", "odict_iterator", "itertools.zip_longest", "itertools.pairwise"].contains n&&vs[0]?==some (rawInt _))=true then _ else _) Q E s
         rw [aa0 (by intro h; rw [hn,Bool.false_and] at h; cases h)]
         exact aa1 hQ))
noncomputable def Qt (K:FG) (a:Addr):It:=
 ⟨fun i H=>∃ xs x,bU K H a xs/\xs[i]?=some x,fun i H x H'=>H'=H/\∀ xs,bU K H a xs->xs[i]?=some x,fun i H=>∃ xs,bU K H a xs/\xs.length<=i⟩
noncomputable def Qu (K:FG) (a:Addr):It:=
 ⟨fun i H=>∃ xs x,cQ K H a xs/\xs[i]?=some x,fun i H x H'=>H'=H/\∀ xs,cQ K H a xs->xs[i]?=some x,fun i H=>∃ xs,cQ K H a xs/\xs.length<=i⟩
noncomputable def Qv (lo:Int) (n:Nat):It:=⟨fun i _=>i<n,fun i H x H'=>H'=H/\x=.int (lo+i),fun i _=>n<=i⟩
theorem K1 {K:FG} {tg:Expr} (a it:Addr):Turn P w K tg (Qt K a) [it] it (fun i h=>h.IsListIter it a i) where
 mem:=by simp
 obj:=fun i h st b hb=>by
  have e:b=it:=by simpa using hb
  subst e
  obtain ⟨o,e,c,d⟩:=st
  exact ⟨o,e,fun v z=>by rw [d] at z; cases z⟩
 keep:=fun i h h' st k=>st.at fun o e=>k it (by simp) o e
 item:=by
  intro X hP hw hK hc i pins s σ H E I hf st hg
  subst hP hw hK
  obtain ⟨xs,x,hq,hx⟩:=hg
  obtain ⟨its,rv,p,hz⟩:=I.list hq
  obtain ⟨u,hu,ru⟩:=rv.get hx
  obtain ⟨f0,f1,f2,f3,f4,f5⟩:=hf it (by simp)
  refine wpAny_pyNext_list_item st p.isList (x:=u) (by simpa using hu) fun h' st' sb=>?_
  have I1:Inv X pins σ H { s with heap:=h' }:=I.turned (t':=s.toks) (fun b o hb e=>(sb.2 b hb).trans e) f0 f1 f3 f4 f5
  obtain ⟨o,e,c,d⟩:=id st'
  exact ⟨u,rfl,DK (s:={ s with heap:=h' }) e c d (by decide) ⟨x,H,I1,ru,⟨rfl,fun ys hy=>by rw [I.list_inj hy hq]; exact hx⟩,st',fun b hb=>(hf b hb).1⟩⟩
 done:=by
  intro X hP hw hK hc i pins s σ H E I hf st hg
  subst hP hw hK
  obtain ⟨xs,hq,hx⟩:=hg
  obtain ⟨its,rv,p,hz⟩:=I.list hq
  obtain ⟨f0,f1,f2,f3,f4,f5⟩:=hf it (by simp)
  have hl:=rv.length
  exact wpAny_pyNext_list_end (I.ok.hd hc) st p.isList (by simp; omega) fun h' eb=>⟨rfl,I.turned (t':=s.toks) (fun b o hb e=>eb b o hb e) f0 f1 f3 f4 f5⟩
 self:=fun _ _ _ _ _ st h=>wpAny_pyIter_listiter st h
theorem JB {K:FG} {tg:Expr} (a it:Addr):Turn P w K tg (Qu K a) [it] it (fun i h=>h.IsTupleIter it a i) where
 mem:=by simp
 obj:=fun i h st b hb=>by
  have e:b=it:=by simpa using hb
  subst e
  obtain ⟨o,e,c,d⟩:=st
  exact ⟨o,e,fun v z=>by rw [d] at z; cases z⟩
 keep:=fun i h h' st k=>st.at fun o e=>k it (by simp) o e
 item:=by
  intro X hP hw hK hc i pins s σ H E I hf st hg
  subst hP hw hK
  obtain ⟨xs,x,hq,hx⟩:=hg
  obtain ⟨its,rv,p,hz⟩:=I.tuple hq
  obtain ⟨u,hu,ru⟩:=rv.get hx
  obtain ⟨f0,f1,f2,f3,f4,f5⟩:=hf it (by simp)
  refine wpAny_pyNext_tuple_item st (show s.heap.IsTuple a its.toArray from p) (x:=u) (by simpa using hu) fun h' st' sb=>?_
  have I1:Inv X pins σ H { s with heap:=h' }:=I.turned (t':=s.toks) (fun b o hb e=>(sb.2 b hb).trans e) f0 f1 f3 f4 f5
  obtain ⟨o,e,c,d⟩:=id st'
  exact ⟨u,rfl,DK (s:={ s with heap:=h' }) e c d (by decide) ⟨x,H,I1,ru,⟨rfl,fun ys hy=>by rw [I.tuple_inj hy hq]; exact hx⟩,st',fun b hb=>(hf b hb).1⟩⟩
 done:=by
  intro X hP hw hK hc i pins s σ H E I hf st hg
  subst hP hw hK
  obtain ⟨xs,hq,hx⟩:=hg
  obtain ⟨its,rv,p,hz⟩:=I.tuple hq
  obtain ⟨f0,f1,f2,f3,f4,f5⟩:=hf it (by simp)
  have hl:=rv.length
  exact wpAny_pyNext_tuple_end (I.ok.hd hc) st (show s.heap.IsTuple a its.toArray from p) (by simp; omega) fun h' eb=>⟨rfl,I.turned (t':=s.toks) (fun b o hb e=>eb b o hb e) f0 f1 f3 f4 f5⟩
 self:=fun _ _ _ _ _ st h=>wpAny_pyIter_tupleiter st h
theorem JC {K:FG} {tg:Expr} (it:Addr) (lo:Int) (n:Nat):Turn P w K tg (Qv lo n) [it] it (fun i h=>IsRangeIter h it (lo+(i:Nat)*1) ((n:Int)-(i:Nat)) 1) where
 mem:=by simp
 obj:=fun i h st b hb=>by
  have e:b=it:=by simpa using hb
  subst e
  exact ⟨_,st,fun v z=>by
   have z':Data.fields _=Data.cell v:=z
   cases z'⟩
 keep:=fun i h h' st k=>k it (by simp) _ st
 item:=by
  intro X hP hw hK hc i pins s σ H E I hf st hg
  subst hP hw hK
  obtain ⟨f0,f1,f2,f3,f4,f5⟩:=hf it (by simp)
  have W:=Walks.range (prog:=X.prog) (w:=X.w) (I.ok.hd hc) it lo 1 n
  refine W.item i s _ _ hg st fun v h' tk hv st' kk=>?_
  obtain ⟨t,rfl⟩:=hv
  have I1:Inv X pins σ H { s with heap:=h',toks:=tk }:=I.turned (fun b o hb e=>kk b o (by simpa using hb) e) f0 f1 f3 f4 f5
  refine ⟨_,rfl,DK (s:={ s with heap:=h',toks:=tk }) (n := "range_iterator") st' rfl rfl (by decide) ⟨.int (lo+i),H,I1,⟨t,?_⟩,⟨rfl,rfl⟩,st',fun b hb=>(hf b hb).1⟩⟩
  rw [Int.mul_one]
 done:=by
  intro X hP hw hK hc i pins s σ H E I hf st hg
  subst hP hw hK
  obtain ⟨f0,f1,f2,f3,f4,f5⟩:=hf it (by simp)
  exact wpAny_pyNext_range_end (I.ok.hd hc) st (by have:n<=i:=hg; omega) fun h' eb=>⟨rfl,I.turned (t':=s.toks) (fun b o hb e=>eb b o hb e) f0 f1 f3 f4 f5⟩
 self:=fun _ _ _ _ _ st h=>wpAny_pyIter_rangeiter st h
section
variable {X:Cx} {tg:Expr}
theorem NZ {σ:St} {H:Hp} {R:It->Hp->Prop} {lo hi:Int} {t u v:Tok} {tk:Nat} (I:Inv X pins σ H s) (h1:-(2 ^ 62)<=lo) (h2:lo<2 ^ 62) (h3:-(2 ^ 62)<=hi) (h4:hi<2 ^ 62)
 (q:R (Qv lo (hi-lo).toNat) H):wpAny (model X.prog X.w) X.A (pyIter (.ref s.heap.objs.size)) (PIE X pins σ tg R) E { s with heap:=s.heap.push { cls:=.type "range",data:=.fields #[.int lo t,.int hi u,.int 1 v] },toks:=tk }:=by
 refine wpAny_pyIter_range (IsRange.new ..) (small_one h1 h2 h3 h4) ?_
 have I1:Inv X pins σ H { s with heap:=s.heap.push { cls:=.type "range",data:=.fields #[.int lo t,.int hi u,.int 1 v] },toks:=tk }:=I.kept fun b o e=>Yx _ e
 refine ⟨(s.heap.push { cls:=.type "range",data:=.fields #[.int lo t,.int hi u,.int 1 v] }).objs.size,[(s.heap.push { cls:=.type "range",data:=.fields #[.int lo t,.int hi u,.int 1 v] }).objs.size],_,_,H,rfl,
  I1.kept (t':=tk) fun b o e=>Yx _ e,JC _ lo (hi-lo).toNat,?_,fun b hb=>?_,q⟩
 . have e1:lo+((0:Nat):Int)*1=lo:=by simp
   have e2:(((hi-lo).toNat:Nat):Int)-((0:Nat):Int)=Builtin.Range.rangeSize lo hi 1:=by rw [rangeSize_one]; split<;>omega
   show IsRangeIter _ _ (lo+((0:Nat):Int)*1) ((((hi-lo).toNat:Nat):Int)-((0:Nat):Int)) 1
   rw [e1,e2]
   exact Y4 _ rfl
 . have e:b=(s.heap.push { cls:=.type "range",data:=.fields #[.int lo t,.int hi u,.int 1 v] }).objs.size:=by simpa using hb
   subst e
   exact I1.fpOk (Yy _) (I1.hok.fresh (Yy _))
def WK (ta:TA):TI:=fun σ H R=>ta σ H fun vs H1=>∃ j:Int,vs=[.int j]/\-(2 ^ 62)<=j/\j<2 ^ 62/\R (Qv 0 j.toNat) H1
theorem K3 {a:Expr} {ta:TA} {p pos:Pos} (hg:Gl X "range") (hm:X.mg "range" = none) (ha:PA X [a] ta) (hs:starEach [a] X.env=[(false,eval a X.env)]:=by rfl):PI X tg (.Call (.Name "range" p) [a] [] pos) (WK ta):=by
 intro pins s σ H R I h
 refine Call_ (qX I hg hm boot_range (PyProof.Rows.callWith_type1 (cj (ha pos pins s σ H _ I h) fun us s1 ⟨vs,H1,I1,r1,q1⟩=>?_) hs rfl))
 obtain ⟨j,e,q1,q2,q⟩:=q1
 subst e
 cases r1 with
 | cons r rr=>
  cases rr
  obtain ⟨t,rfl⟩:=r
  exact call_range_1 (NZ I1 (by omega) (by omega) q1 q2 (by simpa using q))
def XH (wi:TI) (g:TG) (tb:TS):TS:=fun D σ H=>wi σ H fun J H1=>∃ W:Nat->Nat->St->Hp->Prop,(∃ m,W 0 m σ H1)/\∀ i m σ H,W i m σ H->
 (J.stop i H/\D.nx σ H)\/(J.go i H/\∃ N:St->Hp->Prop,(∀ σ' H',N σ' H'->∃ m',m'<m/\W (i+1) m' σ' H')/\∀ x H',J.yld i H x H'->g x σ H' fun σ2 H2=>tb { D with nx:=N,ct:=N,bk:=D.nx } σ2 H2)
noncomputable def v9 (fp:List Addr) (h:Heap):List (Addr×Obj):=fp.filterMap fun b=>(h.get? b).map fun o=>(b,o)
theorem uX {fp:List Addr} {h:Heap} {b:Addr} {o:Obj} (hb:b∈fp) (e:h.get? b=some o):(b,o)∈v9 fp h:=Zr.mpr ⟨b,hb,by rw [e]; rfl⟩
theorem K4 {fp:List Addr} {h:Heap} {p:Addr×Obj} (hp:p∈v9 fp h):p.1∈fp/\h.get? p.1=some p.2:=by
 obtain ⟨b,hb,e⟩:=Zr.mp hp
 cases q:h.get? b with
 | none=>rw [q] at e; cases e
 | some o=>
  rw [q] at e
  have e':(b,o)=p:=YW e
  subst e'
  exact ⟨hb,q⟩
theorem Inv.pinned {σ:St} {H:Hp} {fp:List Addr} (I:Inv X pins σ H s) (hf:∀ b∈fp,mz X pins H b) (ho:∀ b∈fp,∃ o,s.heap.get? b=some o/\∀ v,o.data≠.cell v):Inv X (pins++v9 fp s.heap) σ H s:=
 I.pins_of fun p hp=>(ZK.mp hp).elim (fun z=>I.pin p (Zd _ z)) fun z=>by
  obtain ⟨hb,e⟩:=K4 z
  obtain ⟨f0,f1,f2,_⟩:=hf p.1 hb
  obtain ⟨o,e',d⟩:=ho p.1 hb
  rw [e] at e'; cases e'
  exact ⟨e,f0,f1,f2,d⟩
theorem Inv.unpinned {pins pl:List (Addr×Obj)} {σ:St} {H:Hp} (I:Inv X (pins++pl) σ H s):Inv X pins σ H s:=I.pins_of fun p hp=>I.pin p (Zd _ (Zv _ hp))
theorem K5 {iter:Expr} {body:List Stmt} {wi:TI} {g:TG} {tb:TS} {pos:Pos} (hp:PassesOwn (model X.prog X.w) X.A X.env X.xe) (hc:X.calm=true) (hi:PI X tg iter wi) (hg:PG X tg g) (hb:iB X body tb)
 (hs:∀ x,foldedSetIterable iter X.env x=pure x:=by intro _; rfl):PS X (.For tg iter body [] pos) (XH wi g tb):=by
 intro pins s σ H D I h
 refine wpAny_For (cj (hi pins s σ H _ I h) fun v s1 h1=>cj h1 fun itv s2 h2=>?_) hs
 obtain ⟨it,fp,tn,J,H2,e,I2,T,st2,f2,W,⟨m0,w0⟩,turn⟩:=h2
 subst e
 have stat:∀ {H':Hp},(∀ b∈fp,H' b=none)->∀ b∈fp,mz X pins H' b:=fun hn b hb=>⟨hn b hb,(f2 b hb).2⟩
 refine codeAny_forLoop_any (fun n s'=>∃ i σ' H',Inv X pins σ' H' s'/\tn i s'.heap/\(∀ b∈fp,H' b=none)/\W i n σ' H') ?_ m0 ⟨0,σ,H2,I2,st2,fun b hb=>(f2 b hb).1,w0⟩
 rintro n s3 ⟨i,σ3,H3,I3,st3,fr3,w3⟩
 rcases turn i n σ3 H3 w3 with ⟨stop,qn⟩ | ⟨go,N,hN,step⟩
 . refine wpAny_passesOwn hp (cj (T.done X rfl rfl rfl hc i pins s3 σ3 H3 X.xe I3 (stat fr3) st3 stop) fun r s4 ⟨hr,I4⟩=>?_)
   subst hr
   exact wpAny_execs_nil ⟨σ3,H3,I4,qn⟩
 . refine wpAny_passesOwn hp (cj (T.item X rfl rfl rfl hc i pins s3 σ3 H3 X.xe I3 (stat fr3) st3 go) fun r s4 ⟨u,hr,h4⟩=>?_)
   subst hr
   refine wpAny_passesOwn hp (cj h4 fun _ s5 ⟨x,H5,I5,r5,y5,st5,fr5⟩=>?_)
   have I5':=I5.pinned (stat fr5) (T.obj _ _ st5)
   refine wpAny_passesOwn hp (cj (hg _ s5 σ3 H5 x u _ I5' r5 (step x H5 y5)) fun _ s6 ⟨σ6,H6,I6,q6⟩=>?_)
   refine wpAny_passesOwn hp (cj (hb _ s6 σ6 H6 _ I6 q6) fun f s7 q7=>?_)
   have again:∀ {σ7:St} {H7:Hp},Inv X (pins++v9 fp s5.heap) σ7 H7 s7->N σ7 H7->∃ m,m<n/\∃ i σ' H',Inv X pins σ' H' s7/\tn i s7.heap/\(∀ b∈fp,H' b=none)/\W i m σ' H':=fun {σ7 H7} I7 n7=>by
    obtain ⟨m',hm,w7⟩:=hN σ7 H7 n7
    refine ⟨m',hm,i+1,σ7,H7,I7.unpinned,T.keep _ _ _ st5 fun b hb o e=>(I7.pin (b,o) (Zd _ (Zd _ (uX hb e)))).1,fun b hb=>?_,w7⟩
    obtain ⟨o,e,d⟩:=T.obj _ _ st5 b hb
    exact (I7.pin (b,o) (Zd _ (Zd _ (uX hb e)))).2.1
   cases f with
   | next=>obtain ⟨σ7,H7,I7,n7⟩:=q7; exact again I7 n7
   | cont=>obtain ⟨σ7,H7,I7,n7⟩:=q7; exact again I7 n7
   | brk=>obtain ⟨σ7,H7,I7,q7⟩:=q7; exact ⟨σ7,H7,I7.unpinned,q7⟩
   | ret v=>obtain ⟨x7,σ7,H7,I7,r7,q7⟩:=q7; exact ⟨x7,σ7,H7,I7.unpinned,r7,q7⟩
end
abbrev R2:=V->V->Hp->VK->Prop
def fB (X:Cx) (f:Value->Value->Sem Value) (r:R2):Prop:=
 ∀ (pins:List (Addr×Obj)) (s:Shared) (σ:St) (H:Hp) (x y:V) (v u:Value) (Q:VK),Inv X pins σ H s->RelV x v->RelV y u->r x y H Q->
  wpAny (model X.prog X.w) X.A (f v u) (EP X pins σ Q) X.xe s
def Ul (X:Cx) (f:Value->Sem Value) (r:V->Hp->VK->Prop):Prop:=
 ∀ (pins:List (Addr×Obj)) (s:Shared) (σ:St) (H:Hp) (x:V) (v:Value) (Q:VK),Inv X pins σ H s->RelV x v->r x H Q->
  wpAny (model X.prog X.w) X.A (f v) (EP X pins σ Q) X.xe s
def lZ (X:Cx) (f:Value) (r:List V->Hp->VK->Prop):Prop:=
 ∀ (pins:List (Addr×Obj)) (s:Shared) (σ:St) (H:Hp) (xs:List V) (us:List Value) (Q:VK),Inv X pins σ H s->Vals xs us->r xs H Q->
  wpAny (model X.prog X.w) X.A (call f us) (EP X pins σ Q) X.xe s
def XJ (X:Cx) (r:V->Hp->(Bool->Hp->Prop)->Prop):Prop:=
 ∀ (pins:List (Addr×Obj)) (s:Shared) (σ:St) (H:Hp) (x:V) (v:Value) (Q:Bool->Hp->Prop),Inv X pins σ H s->RelV x v->r x H Q->
  wpAny (model X.prog X.w) X.A (truthy v) (TP X pins σ Q) X.xe s
def Hw (r:R2) (ta tb:TE):TE:=fun σ H Q=>ta σ H fun x H1=>tb σ H1 fun y H2=>r x y H2 Q
def Yi (r:V->Hp->VK->Prop) (ta:TE):TE:=fun σ H Q=>ta σ H fun x H1=>r x H1 Q
def rI (C:Int->Int->Prop) (g:Int->Int->V):R2:=fun x y H Q=>∃ i j,x=.int i/\y=.int j/\C i j/\Q (g i j) H
def q9 (g:Int->Int->V):R2:=fun x y H Q=>∃ i j,x=.int i/\y=.int j/\Q (g i j) H
def rU (g:Int->V):V->Hp->VK->Prop:=fun x H Q=>∃ i,x=.int i/\Q (g i) H
section
variable {X:Cx} {a b c:Expr} {ta tb tc:TE} {pos:Pos}
theorem N5 (ha:PE X a ta) (hb:PE X b tb) {σ:St} {H:Hp} {R:V->V->Hp->Prop} (I:Inv X pins σ H s)
 (h:ta σ H fun x H1=>tb σ H1 fun y H2=>R x y H2) {Q:Value->Shared->Prop} {f:Value->Value->Sem Value}
 (hf:∀ v u s2 x y H2,Inv X pins σ H2 s2->RelV x v->RelV y u->R x y H2->wpAny (model X.prog X.w) X.A (f v u) Q X.xe s2):
 wpAny (model X.prog X.w) X.A (eval a X.env) (fun v s₁=>wpAny (model X.prog X.w) X.A (eval b X.env) (fun u s₂=>wpAny (model X.prog X.w) X.A (f v u) Q X.xe s₂) X.xe s₁) X.xe s:=by
 refine cj (ha pins s σ H _ I h) fun v s1 ⟨x,H1,I1,r1,q1⟩=>?_
 refine cj (hb pins s1 σ H1 _ I1 q1) fun u s2 ⟨y,H2,I2,r2,q2⟩=>?_
 exact hf v u s2 x y H2 I2 r1 r2 q2
theorem WL {op:Operator} {r:R2} (ho:fB X (binaryOp op) r) (ha:PE X a ta) (hb:PE X b tb):PE X (.BinOp a op b pos) (Hw r ta tb):=by
 intro pins s σ H Q I h
 exact wpAny_BinOp (N5 ha hb I h fun v u s2 x y H2 I2 rx ry q=>ho pins s2 σ H2 x y v u Q I2 rx ry q)
theorem WM {op:UnaryOp} {r:V->Hp->VK->Prop} (ho:Ul X (unaryOp op) r) (ha:PE X a ta):PE X (.UnaryOp op a pos) (Yi r ta):=by
 intro pins s σ H Q I h
 exact UnaryOp_ (cj (ha pins s σ H _ I h) fun v s1 ⟨x,H1,I1,r1,q1⟩=>ho pins s1 σ H1 x v Q I1 r1 q1)
theorem K6 {f:Value->Value->Sem Value} {C:Int->Int->Prop} {g:Int->Int->Int}
 (rule:∀ (i j:Int) (t u:Tok) (s:Shared) (Q:Value->Shared->Prop) (E:Value->Shared->Prop),C i j->Q (.int (g i j) s.toks) { s with toks:=s.toks+1 }->wpAny (model X.prog X.w) X.A (f (.int i t) (.int j u)) Q E s):
 fB X f (rI C fun i j=>.int (g i j)):=by
 intro pins s σ H x y v u Q I rx ry h
 obtain ⟨i,j,rfl,rfl,hc,q⟩:=h
 obtain ⟨t,rfl⟩:=rx
 obtain ⟨t',rfl⟩:=ry
 exact rule i j t t' s _ _ hc ⟨.int (g i j),H,I.tok _,⟨_,rfl⟩,q⟩
theorem Um {f:Value->Value->Sem Value} {g:Int->Int->Int}
 (rule:∀ (i j:Int) (t u:Tok) (s:Shared) (Q:Value->Shared->Prop) (E:Value->Shared->Prop),Q (.int (g i j) s.toks) { s with toks:=s.toks+1 }->wpAny (model X.prog X.w) X.A (f (.int i t) (.int j u)) Q E s):
 fB X f (q9 fun i j=>.int (g i j)):=by
 intro pins s σ H x y v u Q I rx ry h
 obtain ⟨i,j,rfl,rfl,q⟩:=h
 obtain ⟨t,rfl⟩:=rx
 obtain ⟨t',rfl⟩:=ry
 exact rule i j t t' s _ _ ⟨.int (g i j),H,I.tok _,⟨_,rfl⟩,q⟩
theorem JD {f:Value->Value->Sem Value} {g:Int->Int->Bool}
 (rule:∀ (i j:Int) (t u:Tok) (s:Shared) (Q:Value->Shared->Prop) (E:Value->Shared->Prop),Q (.bool (g i j)) s->wpAny (model X.prog X.w) X.A (f (.int i t) (.int j u)) Q E s):
 fB X f (q9 fun i j=>.bl (g i j)):=by
 intro pins s σ H x y v u Q I rx ry h
 obtain ⟨i,j,rfl,rfl,q⟩:=h
 obtain ⟨t,rfl⟩:=rx
 obtain ⟨t',rfl⟩:=ry
 exact rule i j t t' s _ _ ⟨.bl (g i j),H,I,rfl,q⟩
def Uo (i j:Int):Prop:=0<j/\j<1073741824
def Up (i j:Int):Prop:=0<=j/\j<=1000000/\i.natAbs<2 ^ 64
def JF (i j:Int):Prop:=(-(2 ^ 64)<i/\i<2 ^ 64)\/(-(2 ^ 64)<j/\j<2 ^ 64)
theorem JF.ok {i j:Int} (h:JF i j):IntMulOk i j:=by
 rcases h with ⟨h1,h2⟩ | ⟨h1,h2⟩
 . exact .of_left (intBits_le_64 h1 h2)
 . exact .of_right (intBits_le_64 h1 h2)
theorem Uq:fB X (binaryOp .Add) (q9 fun i j=>.int (i+j)):=Um fun _ _ _ _ _ _ _ q=>add_int q
theorem zm:fB X (binaryOp .Sub) (q9 fun i j=>.int (i-j)):=Um fun _ _ _ _ _ _ _ q=>sub_int q
theorem fQ:fB X (binaryOp .Mult) (rI JF fun i j=>.int (i*j)):=K6 fun _ _ _ _ _ _ _ hc q=>mul_int q hc.ok
theorem eG:fB X (binaryOp .FloorDiv) (rI Uo fun i j=>.int (i/j)):=K6 fun i j _ _ _ _ _ hc q=>by
 have h1:(0:Int)<j:=hc.1
 have h2:j<1073741824:=hc.2
 exact floordiv_int (by omega) (by rw [Int.fdiv_eq_ediv_of_nonneg i (by omega)]; exact q) (.inl (PyProof.noPylong_small (by omega)))
theorem bM:fB X (binaryOp .Mod) (rI (fun _ j=>0<j) fun i j=>.int (i%j)):=K6 fun i j _ _ _ _ _ hc q=>by
 have h1:(0:Int)<j:=hc
 exact mod_int' (by omega) (by rw [Int.fmod_eq_emod_of_nonneg i (by omega)]; exact q)
theorem wg:fB X (binaryOp .Pow) (rI Up fun i j=>.int (i ^ j.toNat)):=K6 fun _ _ _ _ _ _ _ hc q=>pow_int_small hc.1 hc.2.1 hc.2.2 q
theorem Yj {f:Value->Sem Value} {g:Int->Int}
 (rule:∀ (i:Int) (t:Tok) (s:Shared) (Q:Value->Shared->Prop) (E:Value->Shared->Prop),Q (.int (g i) s.toks) { s with toks:=s.toks+1 }->wpAny (model X.prog X.w) X.A (f (.int i t)) Q E s):
 Ul X f (rU fun i=>.int (g i)):=by
 intro pins s σ H x v Q I rx h
 obtain ⟨i,rfl,q⟩:=h
 obtain ⟨t,rfl⟩:=rx
 exact rule i t s _ _ ⟨.int (g i),H,I.tok _,⟨_,rfl⟩,q⟩
theorem Ur:Ul X (unaryOp .USub) (rU fun i=>.int (-i)):=Yj fun _ _ _ _ _ q=>neg_int q
end
noncomputable def scal:V->V->Bool
 | .non,.non=>true | .non,.int _=>true | .int _,.non=>true | .non,.bl _=>true | .bl _,.non=>true | .non,.str _=>true | .str _,.non=>true
 | .int _,.int _=>true | .bl _,.bl _=>true | .str _,.str _=>true | .byt _,.byt _=>true
 | .int _,.str _=>true | .str _,.int _=>true | .bl _,.str _=>true | .str _,.bl _=>true
 | _,_=>false
section
variable {X:Cx} {a b c:Expr} {ta tb tc:TE} {pos:Pos}
theorem K7 {σ:St} {H:Hp} {Q:VK} {k k':Bool} (I:Inv X pins σ H s) (q:Q (.bl k) H) (e:k=k'):EP X pins σ Q (.bool k') s:=by
 subst e
 exact ⟨.bl k,H,I,rfl,q⟩
theorem zp:fB X (compareOp .Lt) (q9 fun i j=>.bl (decide (i<j))):=JD fun _ _ _ _ _ _ _ q=>lt_int q
theorem DN:fB X (compareOp .LtE) (q9 fun i j=>.bl (decide (i<=j))):=JD fun _ _ _ _ _ _ _ q=>le_int q
theorem DP:fB X (compareOp .Gt) (q9 fun i j=>.bl (decide (j<i))):=JD fun _ _ _ _ _ _ _ q=>gt_int q
theorem WN:fB X (compareOp .GtE) (q9 fun i j=>.bl (decide (j<=i))):=JD fun _ _ _ _ _ _ _ q=>ge_int q
theorem K8:fB X (compareOp .In) (fun x y H Q=>∃ i j,x=.str i/\y=.str j/\Q (.bl (!(Builtin.Str.occurrences j i 0 j.length 1).isEmpty)) H):=by
 intro pins s σ H x y v u Q I rx ry h
 obtain ⟨i,j,rfl,rfl,q⟩:=h
 obtain ⟨t,rfl⟩:=rx
 obtain ⟨t',rfl⟩:=ry
 exact in_str (K7 I q rfl)
theorem K9:fB X (compareOp .Is) (fun x y H Q=>y=.non/\Q (.bl (decide (x=.non))) H):=by
 intro pins s σ H x y v u Q I rx ry h
 obtain ⟨rfl,q⟩:=h
 cases ry
 refine is_none_gen (K7 I q ?_)
 cases x<;>first
  | (cases rx; rfl)
  | (obtain ⟨t,rfl⟩:=rx; rfl)
theorem fB.or {f:Value->Value->Sem Value} {r r':R2} (h:fB X f r) (h':fB X f r'):fB X f (fun x y H Q=>r x y H Q\/r' x y H Q):=by
 intro pins s σ H x y v u Q I rx ry q
 rcases q with q | q
 . exact h pins s σ H x y v u Q I rx ry q
 . exact h' pins s σ H x y v u Q I rx ry q
theorem aR (b:Expr) {op:CmpOp} (h:op≠.In:=by decide) (h2:op≠.NotIn:=by decide):behindInMarks op b=false:=by
 have e1:(op==CmpOp.In)=false:=by cases op<;>first | rfl | exact absurd rfl h
 have e2:(op==CmpOp.NotIn)=false:=by cases op<;>first | rfl | exact absurd rfl h2
 cases b<;>simp [behindInMarks,e1,e2]
theorem Rh {op:CmpOp} {r:R2} (ho:fB X (compareOp op) r) (ha:PE X a ta) (hb:PE X b tb) (hm:behindInMarks op b=false):PE X (.Compare a [op] [b] pos) (Hw r ta tb):=by
 intro pins s σ H Q I h
 exact wpAny_Compare1 (N5 ha hb I h fun v u s2 x y H2 I2 rx ry q=>ho pins s2 σ H2 x y v u Q I2 rx ry q) hm
def JG (t:TE):TT:=fun σ H Q=>t σ H fun x H'=>∃ k,x=.bl k/\Q k H'
theorem Hx {op:CmpOp} {r:R2} (ho:fB X (compareOp op) r) (ha:PE X a ta) (hb:PE X b tb) (hm:behindInMarks op b=false):PT X (.Compare a [op] [b] pos) (JG (Hw r ta tb)):=by
 intro pins s σ H Q I h
 refine wpAny_isTrue_Compare1 (cj (ha pins s σ H _ I h) fun v s1 ⟨x,H1,I1,r1,q1⟩=>cj (hb pins s1 σ H1 _ I1 q1) fun u s2 ⟨y,H2,I2,r2,q2⟩=>
  cj (ho pins s2 σ H2 x y v u _ I2 r1 r2 q2) fun c s3 ⟨z,H3,I3,r3,k,e,q3⟩=>?_) hm
 subst e
 cases r3
 exact wpAny_truthy_bool ⟨H3,I3,q3⟩
def Em (r r':R2) (ta tb tc:TE):TE:=fun σ H Q=>ta σ H fun x H1=>tb σ H1 fun y H2=>r x y H2 fun z H3=>∃ k,z=.bl k/\
 (if k=true then tc σ H3 fun w' H4=>r' y w' H4 Q else Q (.bl false) H3)
theorem N6 {op op':CmpOp} {r r':R2} (ho:fB X (compareOp op) r) (ho':fB X (compareOp op') r') (ha:PE X a ta) (hb:PE X b tb) (hc:PE X c tc)
 (hm:lastMarks [op,op'] [b,c]=false:=by with_unfolding_all rfl):PE X (.Compare a [op,op'] [b,c] pos) (Em r r' ta tb tc):=by
 intro pins s σ H Q I h
 refine Compare_chain (cj (ha pins s σ H _ I h) fun v s1 ⟨x,H1,I1,r1,q1⟩=>chain_link (cj (hb pins s1 σ H1 _ I1 q1) fun u s2 ⟨y,H2,I2,r2,q2⟩=>
  cj (ho pins s2 σ H2 x y v u _ I2 r1 r2 q2) fun d s3 ⟨z,H3,I3,r3,k,e,q3⟩=>?_)) hm
 subst e
 cases r3
 refine wpAny_truthy_bool ?_
 cases k with
 | false=>exact ite_ff ⟨.bl false,H3,I3,rfl,q3⟩
 | true=>exact ite_tt (chain_last (cj (hc pins s3 σ H3 _ I3 q3) fun w' s4 ⟨z',H4,I4,r4,q4⟩=>ho' pins s4 σ H4 y z' u w' Q I4 r2 r4 q4))
theorem N7 {op op':CmpOp} {r r':R2} (ho:fB X (compareOp op) r) (ho':fB X (compareOp op') r') (ha:PE X a ta) (hb:PE X b tb) (hc:PE X c tc)
 (hm:lastMarks [op,op'] [b,c]=false:=by with_unfolding_all rfl):PT X (.Compare a [op,op'] [b,c] pos) (JG (Em r r' ta tb tc)):=by
 intro pins s σ H Q I h
 refine isTrue_chain (cj (ha pins s σ H _ I h) fun v s1 ⟨x,H1,I1,r1,q1⟩=>test_link (cj (hb pins s1 σ H1 _ I1 q1) fun u s2 ⟨y,H2,I2,r2,q2⟩=>
  cj (ho pins s2 σ H2 x y v u _ I2 r1 r2 q2) fun d s3 ⟨z,H3,I3,r3,k,e,q3⟩=>?_)) hm
 subst e
 cases r3
 refine wpAny_truthy_bool ?_
 cases k with
 | false=>
  obtain ⟨k',e',q'⟩:=q3
  cases e'
  exact ite_ff ⟨H3,I3,q'⟩
 | true=>
  refine ite_tt (test_last (cj (hc pins s3 σ H3 _ I3 q3) fun w' s4 ⟨z',H4,I4,r4,q4⟩=>cj (ho' pins s4 σ H4 y z' u w' _ I4 r2 r4 q4) fun d' s5 ⟨z2,H5,I5,r5,k2,e2,q5⟩=>?_))
  subst e2
  cases r5
  exact wpAny_truthy_bool ⟨H5,I5,q5⟩
def N8 (K:FG) (x:V) (H:Hp) (k:Bool):Prop:=
 match x with
 | .non=>k=false
 | .bl b=>k=b
 | .int i=>k=(i != 0)
 | .str y=>y.length<=sizeLine/\k=((y.length:Int) != 0)
 | .byt y=>y.size<=sizeLine/\k=((y.size:Int) != 0)
 | .ref p=>(∃ xs,bU K H p xs/\k=!xs.isEmpty)\/(∃ xs,cQ K H p xs/\k=!xs.isEmpty)\/∃ kvs,H p=some (.dK kvs)/\k=!kvs.isEmpty
 | _=>False
theorem JH {κ:Type} {kvs:List (κ×V)} {vs:List (κ×Value)} (r:KV kvs vs):(!vs.isEmpty)=!kvs.isEmpty:=by
 cases r<;>rfl
theorem zq {xs:List V} {its:List Value} (r:Vals xs its):(!its.toArray.isEmpty)=!xs.isEmpty:=by
 cases r<;>simp
theorem ur:(sizeLine:Nat)<2 ^ 63:=by rw [sizeLine_eq]; decide
theorem Us:XJ X (fun x H Q=>∃ k,N8 X.K x H k/\Q k H):=by
 intro pins s σ H x v Q I rx h
 obtain ⟨k,e,q⟩:=h
 have hl:=ur
 have hs:sizeLine=16777216:=sizeLine_eq
 cases x with
 | non=>
  cases rx
  have e':k=false:=e
  subst e'
  exact truthy_none ⟨H,I,q⟩
 | bl b=>
  cases rx
  have e':k=b:=e
  subst e'
  exact wpAny_truthy_bool ⟨H,I,q⟩
 | int i=>
  obtain ⟨t,rfl⟩:=rx
  have e':k=(i != 0):=e
  subst e'
  exact PySem.P.truthy_int ⟨H,I,q⟩
 | str y=>
  obtain ⟨t,rfl⟩:=rx
  obtain ⟨hy,e'⟩:y.length<=sizeLine/\k=((y.length:Int) != 0):=e
  subst e'
  exact PySem.P.truthy_str (by omega) ⟨H,I.tok _,q⟩
 | byt y=>
  obtain ⟨t,rfl⟩:=rx
  obtain ⟨hy,e'⟩:y.size<=sizeLine/\k=((y.size:Int) != 0):=e
  subst e'
  exact W.truthy_bytes (by omega) ⟨H,I.tok _,q⟩
 | ref p=>
  cases rx
  have e':(∃ xs,bU X.K H p xs/\k=!xs.isEmpty)\/(∃ xs,cQ X.K H p xs/\k=!xs.isEmpty)\/∃ kvs,H p=some (.dK kvs)/\k=!kvs.isEmpty:=e
  rcases e' with ⟨xs,hx,e'⟩ | ⟨xs,hx,e'⟩ | ⟨kvs,hx,e'⟩
  . subst e'
    obtain ⟨its,r,pl,hz⟩:=I.list hx
    have hlen:=r.length
    exact wpAny_truthy_list pl.isList (by simp only [YH]; omega) ⟨H,I.tok _,by rw [zq r]; exact q⟩
  . subst e'
    obtain ⟨its,r,pl,hz⟩:=I.tuple hx
    have hlen:=r.length
    exact truthy_tuple pl (by simp only [YH]; omega) ⟨H,I.tok _,by rw [zq r]; exact q⟩
  . subst e'
    obtain ⟨hz,hS,vs,r,m⟩:kvs.length<=sizeLine/\(p==sysModules)=false/\∃ vs,KV kvs vs/\s.heap.DictOf (dM X.prog X.w) p vs:=I.hok p _ hx
    have hlen:kvs.length=vs.length:=Paired.length r
    exact wpAny_truthy_dict hS m (by omega) ⟨H,I.tok _,by rw [JH r]; exact q⟩
 | _=>exact (show False from e).elim
theorem En (ha:PE X a ta) (he:∀ whole,isTrue a X.env whole=(do let v ← whole; standAt a.pos; holding [v] (truthy v))):
 PT X a (fun σ H Q=>ta σ H fun x H'=>∃ k,N8 X.K x H' k/\Q k H'):=by
 intro pins s σ H Q I h
 exact isTrue_plain (cj (ha pins s σ H _ I h) fun v s1 ⟨x,H1,I1,r1,q1⟩=>Us pins s1 σ H1 x v Q I1 r1 q1) (he _)
theorem JK:fB X (binaryOp .Add) (fun x y H Q=>∃ i j,x=.str i/\y=.str j/\i.length+j.length<=sizeLine/\Q (.str (i++j)) H):=by
 intro pins s σ H x y v u Q I rx ry h
 obtain ⟨i,j,rfl,rfl,hz,q⟩:=h
 obtain ⟨t,rfl⟩:=rx
 obtain ⟨t',rfl⟩:=ry
 exact add_str (fun t' tk=>⟨.str (i++j),H,I.tok _,⟨_,rfl⟩,q⟩) hz
theorem vals1 {x:V} {us:List Value} (r:Vals [x] us):∃ u,us=[u]/\RelV x u:=by
 cases r with
 | cons r1 r2=>cases r2; exact ⟨_,rfl,r1⟩
theorem vals2 {x y:V} {us:List Value} (r:Vals [x,y] us):∃ u w',us=[u,w']/\RelV x u/\RelV y w':=by
 cases r with
 | cons r1 r2=>
  cases r2 with
  | cons r3 r4=>cases r4; exact ⟨_,_,rfl,r1,r3⟩
theorem sS (hc:X.calm=true):lZ X (.builtin "max") (fun xs H Q=>∃ i j,xs=[.int i,.int j]/\Q (.int (if j>i then j else i)) H):=by
 intro pins s σ H xs us Q I r h
 obtain ⟨i,j,rfl,q⟩:=h
 obtain ⟨u,w',rfl,⟨t,rfl⟩,⟨t',rfl⟩⟩:=vals2 r
 refine max_two_ints (I.ok.hd hc) fun h' tk k=>⟨_,H,I.kept k,?_,q⟩
 by_cases hj:j>i
 . rw [aaZ hj,aaZ hj]; exact ⟨_,rfl⟩
 . rw [aa0 hj,aa0 hj]; exact ⟨_,rfl⟩
theorem Cj (hc:X.calm=true):lZ X (.builtin "min") (fun xs H Q=>∃ i j,xs=[.int i,.int j]/\Q (.int (if j<i then j else i)) H):=by
 intro pins s σ H xs us Q I r h
 obtain ⟨i,j,rfl,q⟩:=h
 obtain ⟨u,w',rfl,⟨t,rfl⟩,⟨t',rfl⟩⟩:=vals2 r
 refine min_two_ints (I.ok.hd hc) fun h' tk k=>⟨_,H,I.kept k,?_,q⟩
 by_cases hj:j<i
 . rw [aaZ hj,aaZ hj]; exact ⟨_,rfl⟩
 . rw [aa0 hj,aa0 hj]; exact ⟨_,rfl⟩
def Oa (K:FG) (x:V) (H:Hp) (n:Nat):Prop:=
 match x with
 | .str y=>y.length<=sizeLine/\n=y.length
 | .byt y=>y.size<=sizeLine/\n=y.size
 | .ref p=>(∃ xs,bU K H p xs/\n=xs.length)\/∃ xs,cQ K H p xs/\n=xs.length
 | _=>False
theorem iC:lZ X (.builtin "len") (fun xs H Q=>∃ x n,xs=[x]/\Oa X.K x H n/\Q (.int n) H):=by
 intro pins s σ H xs us Q I r h
 obtain ⟨x,n,rfl,e,q⟩:=h
 obtain ⟨u,rfl,rx⟩:=vals1 r
 have hl:=ur
 have hs:sizeLine=16777216:=sizeLine_eq
 cases x with
 | str y=>
  obtain ⟨t,rfl⟩:=rx
  obtain ⟨hy,e'⟩:y.length<=sizeLine/\n=y.length:=e
  subst e'
  exact len_str (by omega) ⟨.int _,H,I.tok _,⟨_,rfl⟩,q⟩
 | byt y=>
  obtain ⟨t,rfl⟩:=rx
  obtain ⟨hy,e'⟩:y.size<=sizeLine/\n=y.size:=e
  subst e'
  exact W.len_bytes (by omega) ⟨.int _,H,I.tok _,⟨_,rfl⟩,q⟩
 | ref p=>
  cases rx
  have e':(∃ xs,bU X.K H p xs/\n=xs.length)\/∃ xs,cQ X.K H p xs/\n=xs.length:=e
  rcases e' with ⟨xs,hx,e'⟩ | ⟨xs,hx,e'⟩
  . subst e'
    obtain ⟨its,r',pl,hz⟩:=I.list hx
    have hlen:=r'.length
    exact Calls.call_len_list pl.isList (by simp only [YH]; omega) ⟨.int xs.length,H,I.tok _,⟨_,by simp only [YH]; rw [hlen]⟩,q⟩
  . subst e'
    obtain ⟨its,r',pl,hz⟩:=I.tuple hx
    have hlen:=r'.length
    exact len_tuple pl (by simp only [YH]; omega) ⟨.int xs.length,H,I.tok _,⟨_,by simp only [YH]; rw [hlen]⟩,q⟩
 | _=>exact (show False from e).elim
end
structure yC (h:Heap) (x dx C:Addr) (mA:Str->Option Value):Prop where
 obj:h.get? x=some (W.instObj C dx)
 ns:h.Ns1 dx mA
 ne:dx≠x
theorem La {h:Heap} {dx:Addr} {mA:Str->Option Value} (n:h.Ns1 dx mA):∃ od,h.get? dx=some od/\∀ name,W.lookIn name od=some (mA name):=by
 obtain ⟨o,es,ep,ho,hd,hk,_,hm⟩:=n
 refine ⟨o,ho,fun name=>?_⟩
 have e:=hm name
 unfold nsFind findBy at e
 rw [← Array.find?_toList] at e
 unfold W.lookIn
 rw [hd]
 dsimp only
 split
 . rename_i y q
   rw [q] at e
   exact congrArg some e
 . rename_i q
   rw [q] at e
   have a:es.toList.any (·.refKey)=false:=by
    rw [List.any_eq_false]
    intro y hy
    obtain ⟨z,t,hkey⟩:=hk y (Array.mem_toList_iff.mp hy)
    simp [DictEntry.refKey,hkey]
   have a':¬ es.toList.any (·.refKey)=true:=by rw [a]; exact Ze
   rw [aa0 a']
   exact congrArg some e
theorem yC.look {h:Heap} {x dx C:Addr} {mA:Str->Option Value} (I:yC h x dx C mA):∃ od,W.InstAt h x (W.instObj C dx) C (some od)/\∀ name,W.lookIn name od=some (mA name):=
 let ⟨od,ho,hl⟩:=La I.ns
 ⟨od,⟨I.obj,rfl,rfl,ho⟩,hl⟩
section
variable {prog:Program} {w:World} {A:Around} {E:Value->Shared->Prop} {s:Shared} {K:FG} {x dx C f:Addr} {mA:Str->Option Value} {name:Str} {v:Value}
theorem Ri {expr:Bool} {Q:Value->Shared->Prop} (X:K.In s.heap) (I:yC s.heap x dx C mA) (hg:W.plainGet K C name=true) (hh:W.hasDictIn K C=true)
 (ha:W.findIn K (.ref C) name=some none) (hv:mA name=some v) (hv':W.handedIn v=true) (h:Q v { s with toks:=s.toks+1 }):
 wpAny (model prog w) A (getAttr (.ref x) name expr) Q E s:=by
 obtain ⟨od,J,hl⟩:=I.look
 exact W.get_value X J (W.plainGet_of hg).1 (W.findObj_own hh ha rfl (by rw [hl,hv])) hv' h
theorem Ob {pl:Sem Bool} {Q:Value×List Value->Shared->Prop} (X:K.In s.heap) (I:yC s.heap x dx C mA) (hg:W.plainGet K C name=true)
 (hf:W.findIn K (.ref C) name=some (some (.ref f))) (ht:W.isFn K (.ref f)=true) (hv:mA name=none) (h:Q (.ref f,[.ref x]) s):
 wpAny (model prog w) A (getMethod (.ref x) name pl) Q E s:=by
 obtain ⟨od,J,hl⟩:=I.look
 exact W.method_fn X J (W.plainGet_of hg).1 (W.plainGet_of hg).2 hf (beq_iff_eq.mp ht) (by show (W.lookIn name od).map (·.isSome)=some false; rw [hl,hv]; rfl) h
theorem Rj {ns:List Str} {Q:Unit->Shared->Prop} (X:K.In s.heap) (I:yC s.heap x dx C mA)
 (hs:W.findIn K (.ref C) "__setattr__" = some (some (.builtin "object.__setattr__"))) (hp:W.plainOver K C=true) (ht:W.takerIn K C name=some none) (hh:W.hasDictIn K C=true)
 (hw:PySem.Within mA ns) (hsz:ns.length<=sizeLine)
 (h:∀ h',yC h' x dx C (fun y=>if y=name then some v else mA y)->Heap.SameBut dx s.heap h'->Q () { s with heap:=h',toks:=s.toks+2 }):
 wpAny (model prog w) A (setAttr (.ref x) name v) Q E s:=by
 obtain ⟨od,J,hl⟩:=I.look
 refine W.set_plain X J hs (W.osa_open (s:={ s with toks:=s.toks+1 }) (r:=none) X J hp ht fun b=>?_)
 obtain ⟨cd,hc,hd'⟩:=W.any_some hh
 have hx:s.heap.get? x=some ⟨.ref C,some dx,.plain,#[]⟩:=I.obj
 refine aaY (aa1 (aaY (aaY (wpAny_loadPart hx (aaY (W.Looks.here (s:={ s with toks:=s.toks+1 }) (W.looks_clsIn X hc) ?_))))))
 rw [hd']
 refine aa1 (a:=some dx) (aaY (aa1 (aaY ?_)))
 refine wpAny_nsSet1 (s:={ s with toks:=s.toks+1 }) I.ns fun h' hn2 hs2=>?_
 obtain ⟨oD,esD,epD,hoD,hdD,hcD⟩:=hn2.count (PySem.Within.cons name v hw)
 refine aaY (wpAny_lookBehind hoD (by rw [hdD]; exact pastItsLine_dict (Zo hcD (by rw [YB]; omega))) ?_)
 exact aa1 (h _ ⟨(hs2.2 _ (Ne.symm I.ne)).trans I.obj,hn2,I.ne⟩ hs2)
theorem Oc {R:Result->Shared->Prop} {vs:List Value} {kw:List (Str×Value)} (X:K.In s.heap) (hm:W.makesIn K C=true)
 (hi:W.findIn K (.ref C) "__init__" = some (some (.ref f))) (hf:W.typeIn K (.ref f)=some (.type "function"))
 (h:codeAny (model prog w) (A.under (.builtin "type.__call__" ⟨.ref C::vs,kw⟩)) (.call (.ref f) ⟨.ref (s.heap.objs.size+1)::vs,kw⟩) (W.InitBack (s.heap.objs.size+1) R)
   { s with heap:=(s.heap.push W.emptyDict).push (W.instObj C s.heap.objs.size) }):
 codeAny (model prog w) A (.call (.ref C) ⟨vs,kw⟩) R s:=by
 obtain ⟨hh,g,d,t,os⟩:=s
 exact W.make_core (W.makes_of X hm) (W.looks_findIn X hi) (fun self=>W.bind_fn X self hf) (.inl rfl) h
end
noncomputable def iR (f:Str) (v:V):List (Str×V)->List (Str×V)
 | []=>[(f,v)]
 | (g,x)::r=>if g=f then (g,v)::r else (g,x)::iR f v r
theorem yg (f g:Str) (v:V):∀ fs:List (Str×V),(iR f v fs).lookup g=if g=f then some v else fs.lookup g
 | []=>by
  show List.lookup g [(f,v)]=_
  by_cases h:g=f
  . have hb:(g==f)=true:=beq_iff_eq.mpr h
    simp only [List.lookup,hb,aaZ h]
  . have hb:(g==f)=false:=aa4.mpr h
    simp only [List.lookup,hb,aa0 h]
 | (k,x)::r=>by
  have ih:=yg f g v r
  rw [show iR f v ((k,x)::r)=(if k=f then (k,v)::r else (k,x)::iR f v r) from rfl]
  by_cases hk:k=f
  . rw [aaZ hk]
    by_cases h:g=k
    . have hb:(g==k)=true:=beq_iff_eq.mpr h
      simp only [List.lookup,hb,aaZ (h.trans hk)]
    . have hb:(g==k)=false:=aa4.mpr h
      simp only [List.lookup,hb,aa0 (fun e:g=f=>h (e.trans hk.symm))]
  . rw [aa0 hk]
    by_cases h:g=k
    . have hb:(g==k)=true:=beq_iff_eq.mpr h
      simp only [List.lookup,hb,aa0 (fun e:g=f=>hk (h.symm.trans e))]
    . have hb:(g==k)=false:=aa4.mpr h
      simp only [List.lookup,hb]
      exact ih
theorem wj (f:Str) (v:V):∀ fs:List (Str×V),f∈(iR f v fs).map (·.1)/\∀ g,g∈fs.map (·.1)->g∈(iR f v fs).map (·.1)
 | []=>⟨by simp [iR],fun g h=>by simp at h⟩
 | (k,x)::r=>by
  obtain ⟨i1,i2⟩:=wj f v r
  rw [show iR f v ((k,x)::r)=(if k=f then (k,v)::r else (k,x)::iR f v r) from rfl]
  by_cases hk:k=f
  . rw [aaZ hk]
    subst hk
    exact ⟨by simp,fun g h=>by simpa using h⟩
  . rw [aa0 hk]
    refine ⟨?_,fun g h=>?_⟩
    . rw [YT]
      exact YG _ i1
    . rw [YT] at h ⊢
      rcases YC.mp h with e | e
      . exact YC.mpr (.inl e)
      . exact YG _ (i2 g e)
theorem yh (f:Str) (v:V):∀ fs:List (Str×V),(iR f v fs).length<=fs.length+1
 | []=>by simp [iR]
 | (k,x)::r=>by
  have ih:=yh f v r
  rw [show iR f v ((k,x)::r)=(if k=f then (k,v)::r else (k,x)::iR f v r) from rfl]
  by_cases hk:k=f
  . rw [aaZ hk,YB,YB]; omega
  . rw [aa0 hk,YB,YB]; omega
theorem lK.some_of {v:V} {o:Option Value} (r:lK (some v) o):∃ u,o=some u/\RelV v u:=by
 cases o with
 | none=>exact (show False from r).elim
 | some u=>exact ⟨u,rfl,r⟩
theorem lK.none_of {o:Option Value} (r:lK none o):o=none:=by
 cases o with
 | none=>rfl
 | some u=>exact (show False from r).elim
theorem Lb {v:V} {u:Value} (r:RelV v u):W.handedIn u=true:=by
 cases v with
 | non=>cases (show u=Value.none from r); rfl
 | bl b=>cases (show u=Value.bool b from r); rfl
 | int i=>obtain ⟨t,e⟩:=(show ∃ t,u=Value.int i t from r); cases e; rfl
 | str x=>obtain ⟨t,e⟩:=(show ∃ t,u=Value.str x t from r); cases e; rfl
 | byt b=>obtain ⟨t,e⟩:=(show ∃ t,u=Value.bytes b t from r); cases e; rfl
 | flt b=>obtain ⟨t,e⟩:=(show ∃ t,u=Value.float b t from r); cases e; rfl
 | ref a=>cases (show u=Value.ref a from r); rfl
 | ty n=>cases (show u=Value.type n from r); rfl
section
variable {P:Program} {w:World} {H H':Hp} {h h':Heap} {a C dx:Addr} {fs fs':List (Str×V)}
theorem Bf (hok:iz P w H h) (e:H a=some (.ins C dx fs)):∃ mA,yC h a dx C mA/\(∀ f,lK (fs.lookup f) (mA f))/\PySem.Within mA (fs.map (·.1))/\fs.length<=1000/\H dx=some (.own a):=by
 obtain ⟨d,z,ne,ob,mA,n,r,q⟩:=(show gh P w H h a (.ins C dx fs) from hok a _ e)
 exact ⟨mA,⟨ob,n,ne⟩,r,q,z,d⟩
end
structure wk (K:FG) (C:Addr):Prop where
 pg:W.plainGet K C Str.empty=true
 hd:W.hasDictIn K C=true
 po:W.plainOver K C=true
 sa:W.findIn K (.ref C) "__setattr__" = some (some (.builtin "object.__setattr__"))
theorem wk.get {K:FG} {C:Addr} (c:wk K C) (f:Str):W.plainGet K C f=true:=c.pg
def jy (K:FG) (C:Addr) (f:Str):Prop:=W.findIn K (.ref C) f=some none
theorem jy.taker {K:FG} {C:Addr} {f:Str} (n:jy K C f):W.takerIn K C f=some none:=by
 unfold W.takerIn
 rw [show W.findIn K (.ref C) f=some none from n]
 rfl
structure Meth (K:FG) (C:Addr) (m:Str) (f:Addr):Prop where
 at_:W.findIn K (.ref C) m=some (some (.ref f))
 fn:W.isFn K (.ref f)=true
 kp:W.keepIn K (.ref f)=true
section
variable {X:Cx} {pins:List (Addr×Obj)} {σ:St} {H:Hp} {s:Shared} {a C dx:Addr} {fs:List (Str×V)} {f:Str} {v:V} {A:Around} {E:Value->Shared->Prop}
theorem JL {b:Bool} {Q:Value->Shared->Prop} (I:Inv X pins σ H s) (e:H a=some (.ins C dx fs)) (c:wk X.K C) (n:jy X.K C f) (l:fs.lookup f=some v)
 (h:∀ u s',Inv X pins σ H s'->RelV v u->Q u s'):wpAny (model X.prog X.w) A (getAttr (.ref a) f b) Q E s:=by
 obtain ⟨mA,O,r,_,_,_⟩:=Bf I.hok e
 obtain ⟨u,hu,ru⟩:=lK.some_of (v:=v) (o:=mA f) (by rw [← l]; exact r f)
 exact Ri I.kIn O (c.get f) c.hd n hu (Lb ru) (h u _ (I.tok _) ru)
theorem uY {m:Str} {g:Addr} {pl:Sem Bool} {Q:Value×List Value->Shared->Prop} (I:Inv X pins σ H s) (e:H a=some (.ins C dx fs)) (c:wk X.K C) (k:Meth X.K C m g) (l:fs.lookup m=none)
 (h:Q (.ref g,[.ref a]) s):wpAny (model X.prog X.w) A (getMethod (.ref a) m pl) Q E s:=by
 obtain ⟨mA,O,r,_,_,_⟩:=Bf I.hok e
 have hn:mA m=none:=lK.none_of (by rw [← l]; exact r m)
 exact Ob I.kIn O (c.get m) k.at_ k.fn hn h
theorem JM {y:V} {u:Value} {Q:Unit->Shared->Prop} (I:Inv X pins σ H s) (e:H a=some (.ins C dx fs)) (c:wk X.K C) (n:jy X.K C f) (hl:fs.length<1000) (ry:RelV y u)
 (h:∀ s',Inv X pins σ (upd H a (.ins C dx (iR f y fs))) s'->Q () s'):wpAny (model X.prog X.w) A (setAttr (.ref a) f u) Q E s:=by
 obtain ⟨mA,O,r,wi,_,ho⟩:=Bf I.hok e
 have hz:(fs.map (·.1)).length<=sizeLine:=by rw [Yw,sizeLine_eq]; omega
 refine Rj I.kIn O c.sa c.po n.taker c.hd wi hz fun h' O' sb=>h _ ?_
 have hd:∃ o,h'.get? dx=some o:=let ⟨o,_,_,e',_⟩:=O'.ns; ⟨o,e'⟩
 refine I.write (x:=a) (e:=dx) (by rw [e]; exact True.intro) (.inr ho) (fun b q hb z=>(sb.2 b hb).trans z) hd ?_
 refine ⟨by rw [cI O.ne]; exact ho,?_,O.ne,O'.obj,_,O'.ns,fun g=>?_,fun g hg=>?_⟩
 . have:=yh f y fs; omega
 . show lK ((iR f y fs).lookup g) (if g=f then some u else mA g)
   rw [yg]
   by_cases q:g=f
   . rw [aaZ q,aaZ q]; exact ry
   . rw [aa0 q,aa0 q]; exact r g
 . by_cases q:g=f
   . rw [q]; exact (wj f y fs).1
   . refine (wj f y fs).2 g (wi g fun z=>hg ?_)
     show (if g=f then some u else mA g)=none
     rw [aa0 q]; exact z
theorem Inv.made (I:Inv X pins σ H s):Inv X pins σ (upd (upd H s.heap.objs.size (.own (s.heap.objs.size+1))) (s.heap.objs.size+1) (.ins C s.heap.objs.size []))
 { s with heap:=(s.heap.push W.emptyDict).push (W.instObj C s.heap.objs.size) }:=by
 have e1:(s.heap.push W.emptyDict).get? s.heap.objs.size=some W.emptyDict:=Y4 s.heap rfl
 have e2:((s.heap.push W.emptyDict).push (W.instObj C s.heap.objs.size)).get? (s.heap.objs.size+1)=some (W.instObj C s.heap.objs.size):=by
  have:=Y4 (s.heap.push W.emptyDict) (o:=W.instObj C s.heap.objs.size) rfl
  rwa [aae] at this
 have e3:(s.heap.push W.emptyDict).Ns s.heap.objs.size (fun _=>none):=⟨W.emptyDict,#[],_,e1,rfl,(fun e he=>absurd he (by simp)),fun _=>rfl⟩
 have I1:=I.laid (a:=s.heap.objs.size) (o:=.own (s.heap.objs.size+1)) (h':=s.heap.push W.emptyDict) (t':=s.toks) (fun b u q=>Yx _ q) (Yy _) ⟨_,e1⟩
 refine I1.laid (a:=s.heap.objs.size+1) (o:=.ins C s.heap.objs.size []) (t':=s.toks) (fun b u q=>Yx _ q) (Nat.le_of_eq (aae _ _)) ?_
 have ne:s.heap.objs.size≠s.heap.objs.size+1:=Zb (ZV _)
 refine ⟨by rw [cI ne,bT],ZC _,ne,e2,fun _=>none,(Heap.Ns1.of_empty e3).at fun o q=>Yx _ q,fun _=>True.intro,fun y hy=>absurd rfl hy⟩
theorem Rk {prog:Program} {env:Env} {e:Expr} {f:Str} {pos:Pos} {Q:Value->Shared->Prop} (hb:attributeBase e f env (eval e env)=eval e env)
 (h:wpAny (model prog w) A (eval e env) (fun o s₁=>wpAny (model prog w) A (getAttr o f true) Q E s₁) E s):wpAny (model prog w) A (eval (.Attribute e f pos) env) Q E s:=
 Attribute_any_ h (by rw [arm_eval_Attribute,hb])
end
def XM (K:FG) (ta:TE) (f:Str):TE:=fun σ H Q=>ta σ H fun x H1=>∃ a C dx fs v,x=.ref a/\H1 a=some (.ins C dx fs)/\wk K C/\jy K C f/\fs.lookup f=some v/\Q v H1
def XN (K:FG) (ta tv:TE) (f:Str):TS:=fun D σ H=>tv σ H fun y H1=>ta σ H1 fun x H2=>∃ a C dx fs,x=.ref a/\H2 a=some (.ins C dx fs)/\wk K C/\jy K C f/\fs.length<1000/\
 D.nx σ (upd H2 a (.ins C dx (iR f y fs)))
section
variable {X:Cx} {o e value:Expr} {f:Str} {pos pos' tpos:Pos} {ta tv:TE}
theorem Ut (he:PE X e ta) (hb:attributeBase e f X.env (eval e X.env)=eval e X.env):PE X (.Attribute e f pos) (XM X.K ta f):=by
 intro pins s σ H Q I h
 refine Rk hb (cj (he pins s σ H _ I h) fun u s1 ⟨x,H1,I1,rx,a,C,dx,fs,v,ex,ea,c,n,l,q⟩=>?_)
 subst ex
 obtain rfl:u=Value.ref a:=rx
 exact JL I1 ea c n l fun u' s2 I2 ru=>⟨v,H1,I2,ru,q⟩
theorem Uu (ha:PE X o ta) (hv:PE X value tv) (hs:swapsWith value (some (.Attribute o f pos')) pos.line X.env=pure false):PS X (.Assign [.Attribute o f pos'] value pos) (XN X.K ta tv f):=by
 intro pins s σ H D I h
 refine plainObj_wpAny_Assign_Attribute (cj (hv pins s σ H _ I h) fun u s1 ⟨y,H1,I1,ry,q⟩=>cj (ha pins s1 σ H1 _ I1 q) fun ov s2 ⟨x,H2,I2,rx,a,C,dx,fs,ex,ea,c,n,l,q2⟩=>?_) hs
 subst ex
 obtain rfl:ov=Value.ref a:=rx
 exact JM I2 ea c n l ry fun s3 I3=>⟨σ,_,I3,q2⟩
def Od:V->V->Hp->VK->Prop:=fun x y H Q=>∃ i j,x=.int i/\y=.int j/\Q (.int (i+j)) H
theorem Wu {pl:Sem Bool} {m:Str} {apos:Pos} {args:List Expr} {σ:St} {H:Hp} {Q:Value->Shared->Prop} {te:TE} (he:PE X e te) (I:Inv X pins σ H s)
 (h:te σ H fun x H1=>∃ a C dx fs g,x=.ref a/\H1 a=some (.ins C dx fs)/\wk X.K C/\Meth X.K C m g/\fs.lookup m=none/\
   ∀ s1,Inv X pins σ H1 s1->wpAny (model X.prog X.w) X.A (callWith pos (.ref g) [.ref a] (backTo pos (starEach args X.env)) (backToKw pos (keywordEach [] X.env))) Q X.xe s1)
 (ht:eval (.Call (.Attribute e m apos) args [] pos) X.env=(do
   let ov ← eval e X.env
   standAt apos.atName
   let (f,first) ← holding [ov] (getMethod ov m pl)
   callWith pos f first (backTo pos (starEach args X.env)) (backToKw pos (keywordEach [] X.env)))):
 wpAny (model X.prog X.w) X.A (eval (.Call (.Attribute e m apos) args [] pos) X.env) Q X.xe s:=by
 refine aaW (pl:=pl) (cj (he pins s σ H _ I h) fun u s1 ⟨x,H1,I1,rx,a,C,dx,fs,g,ex,ea,c,k,l,q⟩=>?_) ht
 subst ex
 obtain rfl:u=Value.ref a:=rx
 exact uY I1 ea c k l (q s1 I1)
end
section
variable {X:Cx} {pins:List (Addr×Obj)} {σ:St} {H:Hp} {s:Shared} {A:Around} {E:Value->Shared->Prop} {Q:Value->Shared->Prop} {c:Value} {b:Bool}
end
structure fH (b:Bool) (k:Nat) (A:Around):Prop where
 hd:b=true->A.handled=none
 dp:A.depth+3*k+5<recursionLimit
 un:A.units+16*k+200<cLine
 gd:A.guards=some []
noncomputable abbrev mC:=fH true
theorem fH.mono {b:Bool} {j k:Nat} (r:fH b k A) (h:j<=k):fH b j A:=⟨r.hd,by have:=r.dp; omega,by have:=r.un; omega,r.gd⟩
theorem fH.deeper {b:Bool} {k:Nat} (r:fH b (k+1) A) (env:Env):fH b k (A.deeper env):=
 ⟨r.hd,by have:=r.dp; show A.depth+1+3*k+5<_; omega,by have:=r.un; show A.units+3+16*k+200<_; omega,r.gd⟩
theorem JN {C:Addr} {us:List Value} {kw:List (Str×Value)}:(A.under (.builtin "type.__call__" ⟨.ref C::us,kw⟩)).depth=A.depth+1:=by
 first | rfl | simp [Around.under,Code.weight,Code.isCreation,Code.isGuard,Code.isCaller,Code.frames,Code.isFrame,guardIds]
theorem JP {C:Addr} {us:List Value} {kw:List (Str×Value)}:(A.under (.builtin "type.__call__" ⟨.ref C::us,kw⟩)).units=A.units+1:=by
 first | rfl | simp [Around.under,Code.cUnits,Code.frames,Code.isFrame]
theorem fH.make {b:Bool} {k:Nat} (r:fH b (k+1) A) (C:Addr) (us:List Value) (kw:List (Str×Value)):fH b k (A.under (.builtin "type.__call__" ⟨.ref C::us,kw⟩)):=
 ⟨r.hd,by have:=r.dp; rw [JN]; omega,by have:=r.un; rw [JP]; omega,by first | exact r.gd | (simpa [Around.under,Code.isGuard,guardIds] using r.gd)⟩
theorem fH.depth {b:Bool} {k:Nat} (r:fH b k A):A.depth<recursionLimit:=by have:=r.dp; omega
theorem fH.units {b:Bool} {k:Nat} (r:fH b k A):A.units+64<cLine:=by have:=r.un; omega
def Eo:TA:=fun _ H Q=>Q [] H
def xH (ta:TE) (tr:TA):TA:=fun σ H Q=>ta σ H fun x H1=>tr σ H1 fun xs H2=>Q (x::xs) H2
section
variable {X:Cx} {e:Expr} {es:List Expr} {te:TE} {t:TA} {pos:Pos}
theorem gQ:PA X [] Eo:=fun _ _ _ _ H Q I h=>Calls.spliced_nil ⟨[],H,I,.nil,h⟩
theorem cG (ha:PE X e te) (hr:PA X es t) (hs:starEach (e::es) X.env=(false,eval e X.env)::starEach es X.env:=by rfl):PA X (e::es) (xH te t):=by
 intro pos pins s σ H Q I h
 rw [hs]
 show wpAny _ _ (spliced ((false,eval e X.env)::backTo pos (starEach es X.env))) _ _ s
 refine Calls.spliced_cons (cj (ha pins s σ H _ I h) fun u s1 ⟨x,H1,I1,r1,q1⟩=>?_)
 exact cj (hr pos pins s1 σ H1 _ I1 q1) fun us s2 ⟨xs,H2,I2,r2,q2⟩=>⟨x::xs,H2,I2,.cons r1 r2,q2⟩
def Uv (t:TA):TE:=fun σ H Q=>t σ H fun xs H1=>xs.length<=sizeLine/\∀ p,H1 p=none->Q (.ref p) (upd H1 p (.tup xs))
def XQ (t:TA):TE:=fun σ H Q=>t σ H fun xs H1=>xs.length<=sizeLine/\∀ p,H1 p=none->Q (.ref p) (upd H1 p (.lst xs))
theorem Ld {x1} (h:PA X es t):PE X (.Tuple es x1 pos) (Uv t):=by
 intro pins s σ H Q I hq
 refine wpAny_Tuple_spliced (cj (h pos pins s σ H _ I hq) fun us s1 ⟨xs,H1,I1,r,z,q⟩=>⟨by rw [← r.length]; exact z,?_⟩)
 have hf:H1 s1.heap.objs.size=none:=I1.hok.fresh (Yy _)
 refine ⟨.ref s1.heap.objs.size,upd H1 s1.heap.objs.size (.tup xs),I1.laid (t':=s1.toks) (fun b u e=>Yx _ e) (Yy _) ?_,rfl,q _ hf⟩
 exact ⟨z,us,r,⟨_,Y4 _ rfl,rfl,_,rfl⟩⟩
theorem Uw (h:PA X es t):PE X (.List es pos) (XQ t):=by
 intro pins s σ H Q I hq
 refine wpAny_List_spliced (cj (h pos pins s σ H _ I hq) fun us s1 ⟨xs,H1,I1,r,z,q⟩=>⟨by rw [← r.length]; exact z,?_⟩)
 have hf:H1 s1.heap.objs.size=none:=I1.hok.fresh (Yy _)
 refine ⟨.ref s1.heap.objs.size,upd H1 s1.heap.objs.size (.lst xs),I1.laid (t':=s1.toks) (fun b u e=>Yx _ e) (Yy _) ?_,rfl,q _ hf⟩
 exact ⟨z,us,0,r,Y4 _ rfl⟩
end
abbrev Sp:=List V->Hp->VK->XK->Prop
abbrev vV:=List Env->Hp->Shared->XK->Value->Shared->Prop
structure yD (P:Program) (w:World) (K:FG) (mg:Str->Option Value) (base:Heap) (A:Around) (outer:List Env) (s:Shared) (H:Hp):Prop where
 frames:A.frames=some outer
 mod:Mod K mg base
 bs:∀ b o,base.get? b=some o->s.heap.get? b=some o/\H b=none
 bsz:base.objs.size<=s.heap.objs.size
 funs:s.heap.FunFrames base outer
 frf:∀ b∈frs outer,H b=none
 hok:iz P w H s.heap
 bare:AllBare s.gens
def CE (outer:List Env) (P:Program) (w:World) (H:Hp) (s:Shared) (Q:VK) (u:Value) (s':Shared):Prop:=
 ∃ v H',s'.os=s.os/\AllBare s'.gens/\Un (frs outer) [] H H' s.heap s'.heap/\iz P w H' s'.heap/\RelV v u/\Q v H'
def CR (CX:vV) (outer:List Env) (P:Program) (w:World) (H:Hp) (s:Shared) (Q:VK) (E:XK) (r:Result) (s':Shared):Prop:=
 match r with
 | .ok (.ret u)=>CE outer P w H s Q u s'
 | .ok _=>False
 | .error e=>CX outer H s E e s'
structure qC (b:Bool) (P:Program) (w:World) (K:FG) (mg:Str->Option Value) (base:Heap) (CX:vV) (k:Nat) (f:Addr) (fd:FuncData) (ps:List Str) (sp:Sp):Prop where
 len:∀ vs H Q E,sp vs H Q E->vs.length=ps.length
 run:∀ (A:Around) (outer:List Env) (s:Shared) (H:Hp) (args:Args) (us:List Value) (vs:List V) (Q:VK) (E:XK),fH b k A->yD P w K mg base A outer s H->BindsTo s fd args (ps.zip us)->Vals vs us->sp vs H Q E->
  codeAny (model P w) A (.call (.ref f) args) (CR CX outer P w H s Q E) s
noncomputable abbrev mD:=qC true
theorem qC.imp {b:Bool} {K:FG} {mg:Str->Option Value} {base:Heap} {CX:vV} {k:Nat} {f:Addr} {fd:FuncData} {ps:List Str} {sp sp':Sp} (F:qC b P w K mg base CX k f fd ps sp)
 (h:∀ vs H Q E,sp' vs H Q E->sp vs H Q E):qC b P w K mg base CX k f fd ps sp':=
 ⟨fun vs H Q E q=>F.len vs H Q E (h _ _ _ _ q),fun A outer s H args us vs Q E hr he hb hv hs=>F.run A outer s H args us vs Q E hr he hb hv (h _ _ _ _ hs)⟩
theorem yD.make {K:FG} {mg:Str->Option Value} {base:Heap} {outer:List Env} {H:Hp} (e:yD P w K mg base A outer s H) (C:Addr) (us:List Value) (kw:List (Str×Value)):
 yD P w K mg base (A.under (.builtin "type.__call__" ⟨.ref C::us,kw⟩)) outer s H:=⟨by first | exact e.frames | (simpa [Around.under,Code.envs,Code.isFrame,pushEnvs] using e.frames),e.mod,e.bs,e.bsz,e.funs,e.frf,e.hok,e.bare⟩
section
variable {X:Cx} {pins:List (Addr×Obj)} {σ:St} {H:Hp} {s s':Shared}
theorem Inv.env0 (I:Inv X pins σ H s):yD X.prog X.w X.K X.mg X.base X.A X.stack s H:=
 ⟨I.ok.frames,I.ok.mod,I.bs,Zo I.ok.bsz I.sz,I.stack,I.stkFree,I.hok,I.bare⟩
theorem Inv.after {Q:VK} {u:Value} (I:Inv X pins σ H s) (h:CE X.stack X.prog X.w H s Q u s'):EP X pins σ Q u s':=by
 obtain ⟨v,H',os,bare,un,hok,r,q⟩:=h
 obtain ⟨hh,g,d,t,os'⟩:=s'
 obtain rfl:os'=s.os:=os
 exact ⟨v,H',I.call (h':=hh) (g':=g) (d':=d) (t':=t) (ch:=[]) un hok bare (fun b z=>absurd z (by simp)),r,q⟩
end
def JQ (sp:Sp) (dvs:List V) (E:XK) (t:TA):TE:=fun σ H Q=>t σ H fun vs H1=>sp (vs++dvs) H1 Q E
def JR (C:Addr) (m:Str) (sp:Sp) (dvs:List V) (E:XK) (ta:TE) (t:TA):TE:=fun σ H Q=>ta σ H fun x H1=>∃ a dx fs,x=.ref a/\H1 a=some (.ins C dx fs)/\fs.lookup m=none/\
 t σ H1 fun vs H2=>sp (x::(vs++dvs)) H2 Q E
def Qw (C:Addr) (sp:Sp) (dvs:List V) (E:XK) (t:TA):TE:=fun σ H Q=>t σ H fun vs H1=>∀ x dx,H1 x=none->H1 dx=none->dx≠x->
 sp (.ref x::(vs++dvs)) (upd (upd H1 dx (.own x)) x (.ins C dx [])) (fun v H2=>v=.non/\Q (.ref x) H2) E
def Binds (K:FG) (fd:FuncData) (ps:List Str) (ds:List Value):Prop:=
 ∀ (s:Shared) (us:List Value),K.In s.heap->(us++ds).length=ps.length->BindsTo s fd ⟨us,[]⟩ (ps.zip (us++ds))
theorem Binds.all {K:FG} {fd:FuncData} {ps:List Str} (h:∀ us:List Value,us.length=ps.length->bindArgs fd ⟨us,[]⟩=pure (ps.zip us)):Binds K fd ps []:=fun s us _ hl=>by
 rw [YS] at hl ⊢
 exact .of_eq (h us hl)
def wu (CX:vV) (X:Cx) (E:XK):Prop:=∀ (pins:List (Addr×Obj)) (σ:St) (H:Hp) (s:Shared) (e:Value) (s':Shared),Inv X pins σ H s->CX X.stack H s E e s'->X.xe e s'
section
variable {X:Cx} {CX:vV} {k:Nat} {f C:Addr} {fd:FuncData} {ps:List Str} {sp:Sp} {dvs:List V} {ds:List Value} {E:XK} {x m:Str} {p pos apos:Pos} {e o:Expr} {es:List Expr} {ta:TE} {t:TA}
theorem Ep {b:Bool} {σ:St} {H:Hp} {Q:VK} {us:List Value} {vs:List V} (F:qC b X.prog X.w X.K X.mg X.base CX k f fd ps sp) (hr:fH b k X.A) (hb:Binds X.K fd ps ds) (hd:Vals dvs ds) (hx:∀ H s e s',Inv X pins σ H s->CX X.stack H s E e s'->X.xe e s')
 (I:Inv X pins σ H s) (r:Vals vs us) (h:sp (vs++dvs) H Q E):wpAny (model X.prog X.w) X.A (call (.ref f) us) (EP X pins σ Q) X.xe s:=by
 have r2:Vals (vs++dvs) (us++ds):=r.append hd
 have hl:(us++ds).length=ps.length:=by rw [← r2.length]; exact F.len _ _ _ _ h
 refine wpAny_call (codeAny_mono (F.run X.A X.stack s H ⟨us,[]⟩ (us++ds) (vs++dvs) Q E hr I.env0 (hb s us I.kIn hl) r2 h) fun r s' hq=>?_)
 cases r with
 | error e=>exact hx H s e s' I hq
 | ok fl=>
  cases fl with
  | ret u=>exact I.after hq
  | next=>exact False.elim hq
  | brk=>exact False.elim hq
  | cont=>exact False.elim hq
theorem Hy {b:Bool} (F:qC b X.prog X.w X.K X.mg X.base CX k f fd ps sp) (hr:fH b k X.A) (hg:Gl X x) (hm:X.mg x=some (.ref f)) (hk:W.keepIn X.K (.ref f)=true) (hb:Binds X.K fd ps ds) (hd:Vals dvs ds) (hx:wu CX X E)
 (ha:PA X (e::es) t) (hdb:(x==("__debug__" : Str))=false:=by decide) (he:starEach (e::es) X.env=(false,eval e X.env)::starEach es X.env:=by rfl) (hpl:(backTo pos (starEach es X.env)).any (·.1)=false:=by rfl):
 PE X (.Call (.Name x p) (e::es) [] pos) (JQ sp dvs E t):=by
 intro pins s σ H Q I h
 refine wpAny_Call_Name_kw (Bd I hg hm ?_ hdb)
 refine W.callWith_K (h₀:=X.base) I.ok.mod.kin hk (cj (ha pos pins s σ H _ I h) fun us s1 ⟨vs,H1,I1,r,q⟩=>⟨I1.kIn,?_⟩) he hpl
 exact Ep F hr hb hd (hx _ _) I1 r q
theorem Rm {pl:Sem Bool} (he:PE X o ta) (c:wk X.K C) (hm:Meth X.K C m f) (F:mD X.prog X.w X.K X.mg X.base CX k f fd ps sp) (hr:mC k X.A) (hb:Binds X.K fd ps ds) (hd:Vals dvs ds) (hx:wu CX X E) (ha:PA X (e::es) t)
 (hst:starEach (e::es) X.env=(false,eval e X.env)::starEach es X.env:=by rfl) (hpl:(backTo pos (starEach es X.env)).any (·.1)=false:=by rfl)
 (ht:eval (.Call (.Attribute o m apos) (e::es) [] pos) X.env=(do
   let ov ← eval o X.env
   standAt apos.atName
   let (f,first) ← holding [ov] (getMethod ov m pl)
   callWith pos f first (backTo pos (starEach (e::es) X.env)) (backToKw pos (keywordEach [] X.env))):=by rfl):
 PE X (.Call (.Attribute o m apos) (e::es) [] pos) (JR C m sp dvs E ta t):=by
 intro pins s σ H Q I h
 refine aaW (pl:=pl) (cj (he pins s σ H _ I h) fun u s1 ⟨x,H1,I1,rx,a,dx,fs,ex,ea,l,q⟩=>?_) ht
 subst ex
 obtain rfl:u=Value.ref a:=rx
 refine uY I1 ea c hm l ?_
 refine W.callWith_K (first:=[.ref a]) (h₀:=X.base) I.ok.mod.kin hm.kp (cj (ha pos pins s1 σ H1 _ I1 q) fun us s2 ⟨vs,H2,I2,r,q2⟩=>⟨I2.kIn,?_⟩) hst hpl
 exact Ep (us:=.ref a::us) (vs:=.ref a::vs) F hr hb hd (hx _ _) I2 (.cons rfl r) q2
theorem Oe {pl:Sem Bool} (he:PE X o ta) (c:wk X.K C) (hm:Meth X.K C m f) (F:mD X.prog X.w X.K X.mg X.base CX k f fd ps sp) (hr:mC k X.A) (hb:Binds X.K fd ps ds) (hd:Vals dvs ds) (hx:wu CX X E)
 (ht:eval (.Call (.Attribute o m apos) [] [] pos) X.env=(do
   let ov ← eval o X.env
   standAt apos.atName
   let (f,first) ← holding [ov] (getMethod ov m pl)
   callWith pos f first (backTo pos (starEach [] X.env)) (backToKw pos (keywordEach [] X.env))):=by rfl):
 PE X (.Call (.Attribute o m apos) [] [] pos) (JR C m sp dvs E ta Eo):=by
 intro pins s σ H Q I h
 refine aaW (pl:=pl) (cj (he pins s σ H _ I h) fun u s1 ⟨x,H1,I1,rx,a,dx,fs,ex,ea,l,q⟩=>?_) ht
 subst ex
 obtain rfl:u=Value.ref a:=rx
 refine uY I1 ea c hm l ?_
 exact W.callWith_K0 (first:=[.ref a]) I1.kIn hm.kp (Ep (us:=[.ref a]) (vs:=[.ref a]) F hr hb hd (hx _ _) I1 (.cons rfl .nil) q)
structure Mk (K:FG) (C f:Addr):Prop where
 makes:W.makesIn K C=true
 init:W.findIn K (.ref C) "__init__" = some (some (.ref f))
 fn:W.isFn K (.ref f)=true
 kp:W.keepIn K (.ref C)=true
theorem Og {σ:St} {H:Hp} {Q:VK} {us:List Value} {vs:List V} (M:Mk X.K C f) (F:mD X.prog X.w X.K X.mg X.base CX k f fd ps sp) (hr:mC (k+1) X.A) (hb:Binds X.K fd ps ds) (hd:Vals dvs ds)
 (hx:∀ H s e s',Inv X pins σ H s->CX X.stack H s E e s'->X.xe e s') (I:Inv X pins σ H s) (r:Vals vs us)
 (h:∀ x dx,H x=none->H dx=none->dx≠x->sp (.ref x::(vs++dvs)) (upd (upd H dx (.own x)) x (.ins C dx [])) (fun v H2=>v=.non/\Q (.ref x) H2) E):
 wpAny (model X.prog X.w) X.A (call (.ref C) us) (EP X pins σ Q) X.xe s:=by
 have hq:=h (s.heap.objs.size+1) s.heap.objs.size (I.hok.fresh (aaw _)) (I.hok.fresh (Yy _)) (Zb (ZV _))
 have I2:=Inv.made (C:=C) I
 have r2:Vals (V.ref (s.heap.objs.size+1)::(vs++dvs)) (Value.ref (s.heap.objs.size+1)::(us++ds)):=.cons rfl (r.append hd)
 have hl:(Value.ref (s.heap.objs.size+1)::us++ds).length=ps.length:=by
  have e:=r2.length
  rw [F.len _ _ _ _ hq] at e
  exact e.symm
 refine wpAny_call (Oc (f:=f) I.kIn M.makes M.init (beq_iff_eq.mp M.fn) (codeAny_mono (F.run _ X.stack _ _ ⟨Value.ref (s.heap.objs.size+1)::us,[]⟩ (Value.ref (s.heap.objs.size+1)::(us++ds)) _ _ E (hr.make C us [])
  (I2.env0.make C us []) (hb _ (Value.ref (s.heap.objs.size+1)::us) I2.kIn hl) r2 hq) fun r s' hq'=>?_))
 cases r with
 | error e=>exact hx _ _ e s' I2 hq'
 | ok fl=>
  cases fl with
  | ret u=>
   obtain ⟨v,H',I3,rv,ev,q3⟩:=I2.after hq'
   subst ev
   exact ⟨rv,⟨V.ref (s.heap.objs.size+1),H',I3,rfl,q3⟩⟩
  | next=>exact False.elim hq'
  | brk=>exact False.elim hq'
  | cont=>exact False.elim hq'
theorem Rn (M:Mk X.K C f) (F:mD X.prog X.w X.K X.mg X.base CX k f fd ps sp) (hr:mC (k+1) X.A) (hg:Gl X x) (hm:X.mg x=some (.ref C)) (hb:Binds X.K fd ps ds) (hd:Vals dvs ds) (hx:wu CX X E)
 (ha:PA X (e::es) t) (hdb:(x==("__debug__" : Str))=false:=by decide) (he:starEach (e::es) X.env=(false,eval e X.env)::starEach es X.env:=by rfl) (hpl:(backTo pos (starEach es X.env)).any (·.1)=false:=by rfl):
 PE X (.Call (.Name x p) (e::es) [] pos) (Qw C sp dvs E t):=by
 intro pins s σ H Q I h
 refine wpAny_Call_Name_kw (Bd I hg hm ?_ hdb)
 refine W.callWith_K (h₀:=X.base) I.ok.mod.kin M.kp (cj (ha pos pins s σ H _ I h) fun us s1 ⟨vs,H1,I1,r,q⟩=>⟨I1.kIn,?_⟩) he hpl
 exact Og M F hr hb hd (hx _ _) I1 r q
end
section
variable {X:Cx} {CX:vV} {k:Nat} {f C:Addr} {fd:FuncData} {ps ks:List Str} {sp:Sp} {E:XK} {x m:Str} {p pos apos kpos:Pos} {e o:Expr} {es:List Expr} {kws:List Keyword} {te ta:TE} {t tk:TA} {nm:Option Str}
variable {g:List Value->List Value->List Value} {gV:List V->List V->List V}
end
structure bf (N P:List Str) (sc:Scope):Prop where
 kind:sc.kind=.function
 co:sc.isCoroutine=false
 gen:sc.isGenerator=false
 nd:N.Nodup
 pre:N.take P.length=P
 par:∀ x∈P,sc.names.lookup x=some .local\/sc.names.lookup x=some .cell
 nofree:∀ y∈sc.names,y.2≠.free
theorem Ck {kindOf:Str->Option NameKind} {x:Str}:∀ {binds:List (Str×Value)} {m:Str->Option Value},(∀ v,(x,v)∉binds)->bindL kindOf binds m x=m x
 | [],_,_=>rfl
 | (n,v)::r,m,h=>by
  unfold bindL
  rw [Ck fun w hw=>h w (YG _ hw)]
  split
  . have:x≠n:=by rintro rfl; exact h v Yv
    simp [this]
  . rfl
theorem Cm {kindOf:Str->Option NameKind} {x:Str}:∀ {binds:List (Str×Value)} {m:Str->Option Value},(∀ v,(x,v)∉binds)->bindC kindOf binds m x=m x
 | [],_,_=>rfl
 | (n,v)::r,m,h=>by
  unfold bindC
  rw [Cm fun w hw=>h w (YG _ hw)]
  split
  . rfl
  . have:x≠n:=by rintro rfl; exact h v Yv
    simp [this]
theorem Cp {kindOf:Str->Option NameKind} {x:Str} {v:Value}:∀ {P:List Str} {vs:List Value} {i:Nat} {m:Str->Option Value},P.Nodup->P[i]?=some x->vs[i]?=some v->kindOf x=some .local->
 bindL kindOf (P.zip vs) m x=some v
 | [],_,_,_,_,h,_,_=>by simp at h
 | _::_,[],_,_,_,_,h,_=>by simp at h
 | p::P,w::vs,0,m,nd,h1,h2,hk=>by
  simp at h1 h2; subst h1; subst h2
  show bindL kindOf ((p,w)::P.zip vs) m p=_
  unfold bindL
  rw [Ck fun v hv=>(Zg.mp nd).1 (ZZ hv).1,aaZ hk]
  simp
 | p::P,w::vs,i+1,m,nd,h1,h2,hk=>by
  show bindL kindOf ((p,w)::P.zip vs) m x=_
  unfold bindL
  exact Cp (i:=i) (Zg.mp nd).2 (by simpa using h1) (by simpa using h2) hk
theorem Cq {kindOf:Str->Option NameKind} {x:Str} {v:Value}:∀ {P:List Str} {vs:List Value} {i:Nat} {m:Str->Option Value},P.Nodup->P[i]?=some x->vs[i]?=some v->kindOf x≠some .local->
 bindC kindOf (P.zip vs) m x=some v
 | [],_,_,_,_,h,_,_=>by simp at h
 | _::_,[],_,_,_,_,h,_=>by simp at h
 | p::P,w::vs,0,m,nd,h1,h2,hk=>by
  simp at h1 h2; subst h1; subst h2
  show bindC kindOf ((p,w)::P.zip vs) m p=_
  unfold bindC
  rw [Cm fun v hv=>(Zg.mp nd).1 (ZZ hv).1,aa0 hk]
  simp
 | p::P,w::vs,i+1,m,nd,h1,h2,hk=>by
  show bindC kindOf ((p,w)::P.zip vs) m x=_
  unfold bindC
  exact Cq (i:=i) (Zg.mp nd).2 (by simpa using h1) (by simpa using h2) hk
noncomputable def start (N:List Str) (vs:List V):St:=vs.map some++List.replicate (N.length-vs.length) none
noncomputable def sU (b:Bool) (CX:vV) (P:Program) (w:World) (K:FG) (mg:Str->Option Value) (base:Heap) (N:List Str) (qual:Str) (scope:Scope) (f:Addr) (cd:Value) (A:Around) (outer:List Env) (s:Shared) (H:Hp) (E:XK):Cx where
 prog:=P
 w:=w
 K:=K
 mg:=mg
 base:=base
 A:=A.deeper (envOfC qual scope s.heap.objs.size f cd)
 N:=N
 s₀:=s
 H0:=H
 env:=envOfC qual scope s.heap.objs.size f cd
 outer:=outer
 stack:=envOfC qual scope s.heap.objs.size f cd::outer
 ex:=[]
 calm:=b
 fn:=fun _=>true
 pn:=[]
 xe:=fun e s'=>wpAny (model P w) (A.deeper (envOfC qual scope s.heap.objs.size f cd)) (leaving (envOfC qual scope s.heap.objs.size f cd) e) (fun _ s''=>CX outer H s E e s'') (fun e' s''=>CX outer H s E e' s'') s'
noncomputable abbrev Oh:=sU true
theorem Er {sc:Scope} {n:Nat} {x:Str} (h:sc.names.lookup x=some .cell):∃ c,(cellsFrom n sc.names []).lookup x=some c:=by
 have q:=aaR sc.names n [] (.inl h)
 exact aat.mp q
theorem Le {cm:Bool} {CX:vV} {K:FG} {mg:Str->Option Value} {base:Heap} {N ps:List Str} {qual:Str} {scope:Scope} {f:Addr} {cd:Value} {outer:List Env} {s s1:Shared} {H:Hp} {E:XK} {us:List Value} {vs:List V}
 (S:bf N ps scope) (hd:cm=true->A.handled=none) (e0:yD P w K mg base A outer s H) (hl:vs.length=ps.length) (r:Vals vs us)
 (x:InCallC s s.heap.objs.size (bindL (envOfC qual scope s.heap.objs.size f cd).kindOf (ps.zip us) fun _=>none) (cellsFrom (s.heap.objs.size+1) scope.names []) (bindC (envOfC qual scope s.heap.objs.size f cd).kindOf (ps.zip us) fun _=>none) s1):
 Inv (sU cm CX P w K mg base N qual scope f cd A outer s H E) [] (start N vs) H s1:=by
 have hpl:ps.length<=N.length:=by have:=congrArg List.length S.pre; rw [aaf] at this; omega
 obtain ⟨h1,tk,rfl,hk⟩:=x.done
 have noA:∀ b:Addr,b∉(sU cm CX P w K mg base N qual scope f cd A outer s H E).ex:=fun b z=>absurd (show b∈([]:List Addr) from z) (by simp)
 refine ⟨⟨e0.mod,S.kind,rfl,rfl,Yy _,fun y z c h1 h2=>?_,fun y hy=>?_,fun y c _ h=>?_,hd,Around.frames_deeper e0.frames,.inr ⟨rfl,rfl⟩,fun b z=>absurd z (noA b),e0.bs,e0.bsz,fun b _ _=>noA b,fun b z=>absurd z (noA b),e0.funs,e0.frf⟩,
  rfl,e0.bare,Un.kept hk,⟨_,x.toInCall.ns,fun i y v h1 h2 h3=>?_⟩,fun y c h=>⟨_,x.cell y c h⟩,e0.hok.fresh (Yy _),fun y c h=>?_,fun p hp=>absurd (show p∈([]:List (Addr×Obj)) from hp) (by simp),e0.hok.kept hk,?_⟩
 . exact name_of_addr x.apart (aai h1) (aai h2)
 . have hy:scope.names.lookup y=some .cell\/scope.names.lookup y=some .free:=hy
   rcases hy with hy | hy
   . exact Er hy
   . exact absurd rfl (S.nofree _ (aai hy))
 . exact aas (x.above y c (aai h))
 . have hi:i<vs.length:=by
    unfold start at h2
    by_cases hi:i<vs.length
    . exact hi
    . rw [YL (by simpa using hi)] at h2
      rw [List.getElem?_replicate] at h2
      split at h2<;>cases h2
   have ha:vs[i]?=some v:=by
    unfold start at h2
    rw [Y9 (by simpa using hi),Y7] at h2
    cases e:vs[i]? with
    | none=>rw [e] at h2; cases h2
    | some a=>rw [e] at h2; cases h2; rfl
   obtain ⟨u,hu,rv⟩:=r.get ha
   have hp:ps[i]?=some y:=by
    rw [← S.pre,List.getElem?_take_of_lt (by omega)]; exact h1
   have ndP:ps.Nodup:=by rw [← S.pre]; exact S.nd.sublist (List.take_sublist _ _)
   refine ⟨u,rv,?_⟩
   rcases S.par y (Zq hp) with k | k
   . exact .inl ⟨k,Cp ndP hp hu k⟩
   . obtain ⟨c,e⟩:=Er (n:=s.heap.objs.size+1) k
     refine .inr ⟨.inl k,c,e,?_⟩
     have q:=x.cell y c e
     rw [Cq ndP hp hu (by show scope.names.lookup y≠_; rw [k]; decide)] at q
     exact q
 . exact e0.hok.fresh (aas (x.above y c (aai h)))
 . unfold start
   show _=N.length
   rw [YD,Yw,List.length_replicate]
   omega
theorem WP {b:Bool} {CX:vV} {K:FG} {mg:Str->Option Value} {base:Heap} {k:Nat} {f:Addr} {name qual:Str} {params:Arguments} {body:List Stmt} {scope:Scope} {dV kV doc pm cdv ct oc:Value} {an od:Option Addr}
 {osl:Array (Option Value)} {N ps:List Str} {sp:Sp} (lk:K.lookup f=some ⟨oc,od,.func (W.fnOf name qual params body scope dV kV doc pm an cdv ct),osl⟩) (hcd:W.codeIn K cdv qual=true) (S:bf N ps scope)
 (len:∀ vs H Q E,sp vs H Q E->vs.length=ps.length)
 (hbody:∀ (A:Around) (outer:List Env) (s:Shared) (H:Hp) (vs:List V) (Q:VK) (E:XK),fH b k (A.deeper (envOfC qual scope s.heap.objs.size f cdv))->sp vs H Q E->
   ∃ t,iB (sU b CX P w K mg base N qual scope f cdv A outer s H E) body t/\t { nx:=fun _ H'=>Q .non H',rt:=Q } (start N vs) H):
 qC b P w K mg base CX (k+1) f (W.fnOf name qual params body scope dV kV doc pm an cdv ct) ps sp:=by
 refine ⟨len,fun A outer s H args us vs Q E hr e0 hb r hsp=>?_⟩
 have hl:=len _ _ _ _ hsp
 have KX:K.In s.heap:=e0.mod.kin.keeps fun b o e=>(e0.bs b o e).1
 have lim:s.heap.NoLimit:=e0.mod.nolimit.keeps fun b o e=>(e0.bs b o e).1
 have hkind:∀ y∈ps.zip us,scope.names.lookup y.1=some .local\/(scope.names.lookup y.1=some .cell/\((cellsFrom (s.heap.objs.size+1) scope.names []).lookup y.1).isSome=true):=fun ⟨n,v⟩ hy=>by
  rcases S.par n (ZZ hy).1 with q | q
  . exact .inl q
  . exact .inr ⟨q,aaR _ _ _ (.inl q)⟩
 refine codeAny_call_function hr.depth (KX _ _ lk) rfl S.co S.gen rfl (W.codeRec_of KX hcd) (hb _ _ _ _ ?_)
 refine wpAny_newFunctionEnv_cells S.kind hkind fun env he s1 x=>?_
 subst he
 refine ⟨lim.keeps x.toInCall.keep,codeAny_func ?_⟩
 obtain ⟨t,ht,hq⟩:=hbody A outer s H vs Q E (hr.deeper _) hsp
 have I:Inv (sU b CX P w K mg base N qual scope f cdv A outer s H E) [] (start N vs) H s1:=Le S hr.hd e0 hl r x
 refine wpAny_mono (ht [] s1 (start N vs) H _ I hq) (fun fl s' hs=>?_) fun e s' hs=>hs
 have fin:∀ {σ':St} {H':Hp} {v:V} {u:Value},Inv (sU b CX P w K mg base N qual scope f cdv A outer s H E) [] σ' H' s'->RelV v u->Q v H'->CE outer P w H s Q u s':=
  fun {σ' H' v u} J rv q=>⟨v,H',J.os,J.bare,J.base,J.hok,rv,q⟩
 cases fl with
 | ret u=>
  obtain ⟨v,σ',H',J,rv,q⟩:=hs
  exact fin J rv q
 | next=>
  obtain ⟨σ',H',J,q⟩:=hs
  exact fin (v:=V.non) (u:=Value.none) J rfl q
 | brk=>
  obtain ⟨_,_,_,q⟩:=hs
  exact False.elim q
 | cont=>
  obtain ⟨_,_,_,q⟩:=hs
  exact False.elim q
section
variable {X:Cx} {x:Str} {p pos:Pos} {e:Expr} {es:List Expr} {t:TA} {id T:String} {r:List V->Hp->VK->Prop}
def Cr (r:List V->Hp->VK->Prop) (t:TA):TE:=fun σ H Q=>t σ H fun vs H1=>r vs H1 Q
theorem cu (hc:lZ X (.builtin id) r) (hg:Gl X x) (hm:X.mg x=none) (hv:bootBuiltins x=some (.builtin id)) (ha:PA X (e::es) t) (hn:x ≠ "__name__" := by decide) (hdb:(x==("__debug__" : Str))=false:=by decide)
 (he:starEach (e::es) X.env=(false,eval e X.env)::starEach es X.env:=by rfl) (hpl:(backTo pos (starEach es X.env)).any (·.1)=false:=by rfl):PE X (.Call (.Name x p) (e::es) [] pos) (Cr r t):=by
 intro pins s σ H Q I h
 refine wpAny_Call_Name_kw (qX I hg hm hv ?_ hn hdb)
 exact PyProof.Rows.callWith_builtin1 (cj (ha pos pins s σ H _ I h) fun us s1 ⟨vs,H1,I1,r1,q1⟩=>hc pins s1 σ H1 vs us Q I1 r1 q1) he hpl
theorem j9 (hc:lZ X (.type T) r) (hg:Gl X x) (hm:X.mg x=none) (hv:bootBuiltins x=some (.type T)) (ha:PA X (e::es) t) (hn:x ≠ "__name__" := by decide) (hdb:(x==("__debug__" : Str))=false:=by decide)
 (he:starEach (e::es) X.env=(false,eval e X.env)::starEach es X.env:=by rfl) (hpl:(backTo pos (starEach es X.env)).any (·.1)=false:=by rfl):PE X (.Call (.Name x p) (e::es) [] pos) (Cr r t):=by
 intro pins s σ H Q I h
 refine wpAny_Call_Name_kw (qX I hg hm hv ?_ hn hdb)
 exact PyProof.Rows.callWith_type1 (cj (ha pos pins s σ H _ I h) fun us s1 ⟨vs,H1,I1,r1,q1⟩=>hc pins s1 σ H1 vs us Q I1 r1 q1) he hpl
end
end L2
namespace HT
open PySem PyProof.Rows
section
open PySem.SeqAt
open PySem.AutoSeq1 (wpAny_loadPart')
open PySem.MeetsSeq PySem.MeetsSeq2 PySem.MeetsSeq3
end
section
variable {prog:Program} {w:World} {A:Around} {E:Value->Shared->Prop} {s:Shared}
theorem cat_tup {t b:Addr} {vs ws:List Value} {Q:Value->Shared->Prop} (ht:IsTup s.heap t vs.toArray) (hb:IsTup s.heap b ws.toArray) (hv:vs≠[])
 (h1:ws=[]->Q (.ref t) s) (h2:ws≠[]->Q (.ref s.heap.objs.size) { s with heap:=s.heap.push { cls:=.type "tuple",data:=.seq (vs++ws).toArray } })
 (hsz:vs.length+ws.length<=sizeLine):wpAny (model prog w) A (binaryOp .Add (.ref t) (.ref b)) Q E s:=by
 obtain ⟨⟨cls,dd,data,sl⟩,ho,hc,n,hd⟩:=id ht
 obtain ⟨⟨cls2,dd2,data2,sl2⟩,ho2,hc2,n2,hd2⟩:=id hb
 simp only at hc hd hc2 hd2
 subst hc hd hc2 hd2
 have e:vs.toArray++ws.toArray=(vs++ws).toArray:=by simp
 by_cases hw:ws=[]
 . exact concat_meets ⟨_,ho,rfl⟩ ⟨_,ho2,rfl⟩ noFill_tuple_add seq_tuple_add F.slot_tuple_add F.entry_tuple_add (F.args_tuple_add_2 _ _)
    (tuple_addW1 t b vs.toArray ws.toArray n n2 dd dd2 sl sl2 (by simpa using hv) (by simp [hw])) ⟨ho,ho2,h1 hw⟩
 . refine concat_meets ⟨_,ho,rfl⟩ ⟨_,ho2,rfl⟩ noFill_tuple_add seq_tuple_add F.slot_tuple_add F.entry_tuple_add (F.args_tuple_add_2 _ _)
    (tuple_addW2 t b vs.toArray ws.toArray n n2 dd dd2 sl sl2 (by simpa using hv) (by simpa using hw) (by rw [YH,YH]; exact hsz)) ⟨ho,ho2,?_⟩
   rw [e]
   exact h2 hw
noncomputable def sIx (n d:Nat):Option Int->Nat
 | none=>d
 | some v=>if v<0 then (v+(n:Int)).toNat else min v.toNat n
theorem sIx_none (n d:Nat):sIx n d none=d:=rfl
theorem sIx_le (n d:Nat) (hd:d<=n) (o:Option Int):sIx n d o<=n:=by
 cases o with
 | none=>exact hd
 | some v=>
  show (if v<0 then (v+(n:Int)).toNat else min v.toNat n)<=n
  by_cases hv:v<0
  . rw [aaZ hv]; omega
  . rw [aa0 hv]; exact Nat.min_le_right _ _
theorem Hz (v:Int) (n d:Nat):(if v<0 then max (v+(n:Int)) 0 else min v (n:Int))=((sIx n d (some v):Nat):Int):=by
 show (if v<0 then max (v+(n:Int)) 0 else min v (n:Int))=(((if v<0 then (v+(n:Int)).toNat else min v.toNat n):Nat):Int)
 by_cases hv:v<0
 . simp only [aaZ hv]; omega
 . simp only [aa0 hv]; omega
theorem JS (lo hi:Option Int) (n:Nat):Builtin.Slice.sliceAdjust lo hi 1 (n:Int)=(((sIx n 0 lo:Nat):Int),((sIx n n hi:Nat):Int)):=by
 have h1:¬ ((1:Int)<0):=by omega
 unfold Builtin.Slice.sliceAdjust
 simp only [h1,if_false]
 refine Prod.ext ?_ ?_
 . cases lo with
   | none=>rfl
   | some v=>exact Hz v n 0
 . cases hi with
   | none=>rfl
   | some v=>exact Hz v n n
theorem JT (i j:Nat):Builtin.Slice.slicePlaces (i:Int) (j:Int) 1=j-i:=by
 unfold Builtin.Slice.slicePlaces
 have h1:(1:Int)>0:=by omega
 simp only [h1,if_true,Int.ediv_one]
 split<;>omega
theorem zr {v:Value} {o:Option Int} {Q:Option Int->Shared->Prop} (p:IsPart v o) (h:Q o s):wpAny (model prog w) A (Builtin.Slice.slicePartIndex v) Q E s:=by
 cases p with
 | none=>exact slicePart_none h
 | int i t=>exact slicePart_int h
theorem yE {sl:Addr} {vl vu:Value} {lo hi:Option Int} {n:Nat} {Q:Int×Int×Nat->Shared->Prop} (hs:s.heap.IsSliceOf sl vl vu .none) (pl:IsPart vl lo) (pu:IsPart vu hi)
 (h:Q (((sIx n 0 lo:Nat):Int),1,sIx n n hi-sIx n 0 lo) s):wpAny (model prog w) A (Builtin.Slice.sliceApplied (.ref sl) (pure (n:Int))) Q E s:=by
 obtain ⟨os,hos,hcs,hds⟩:=id hs
 unfold Builtin.Slice.sliceApplied Builtin.Slice.sliceFields
 refine aaY (aaY (wpAny_field hos hds (x:=vl) rfl (aaY (wpAny_field hos hds (x:=vu) rfl (aaY (wpAny_field hos hds (x:=.none) rfl (aa1 ?_)))))))
 refine aaY (slicePart_none ?_)
 show wpAny _ _ (if ((1:Int)==0)=true then _ else _) _ _ s
 rw [aa0 (by decide)]
 refine aaY (zr pl (aaY (zr pu (aaY (aa1 ?_)))))
 show wpAny _ _ (match Builtin.Slice.sliceAdjust lo hi 1 (n:Int) with | (lo,hi)=>pure (lo,(1:Int),Builtin.Slice.slicePlaces lo hi 1)) _ _ s
 rw [JS lo hi n]
 show wpAny _ _ (pure (((sIx n 0 lo:Nat):Int),(1:Int),Builtin.Slice.slicePlaces ((sIx n 0 lo:Nat):Int) ((sIx n n hi:Nat):Int) 1)) _ _ s
 rw [JT]
 exact aa1 h
theorem Oi (xs:Array Value) (i k:Nat):((List.range k).filterMap fun (m:Nat)=>xs[((i:Int)+(m:Int)*1).toNat]?).toArray=((xs.toList.drop i).take k).toArray:=by
 have e:(fun (m:Nat)=>xs[((i:Int)+(m:Int)*1).toNat]?)=fun m=>xs[i+m]?:=by
  funext m
  have:((i:Int)+(m:Int)*1).toNat=i+m:=by omega
  rw [this]
 rw [e]
 have:=pick_run xs i k
 rw [List.filterMap_map] at this
 have e2:((fun x=>xs[x]?) ∘ fun x=>i+x)=fun m=>xs[i+m]?:=rfl
 rw [e2] at this
 rw [this]
theorem getItem_tuple_cut {t sl:Addr} {items:Array Value} {vl vu:Value} {lo hi:Option Int} {Q:Value->Shared->Prop} (ht:IsTup s.heap t items) (hs:s.heap.IsSliceOf sl vl vu .none) (pl:IsPart vl lo) (pu:IsPart vu hi)
 (hw:¬ (sIx items.size 0 lo=0/\sIx items.size items.size hi=items.size))
 (h:Q (.ref s.heap.objs.size) { s with heap:=s.heap.push { cls:=.type "tuple",data:=.seq ((items.toList.drop (sIx items.size 0 lo)).take (sIx items.size items.size hi-sIx items.size 0 lo)).toArray } })
 (hsz:items.size<=sizeLine):wpAny (model prog w) A (getItem (.ref t) (.ref sl)) Q E s:=by
 have htake:sizeOk (.seq ((items.toList.drop (sIx items.size 0 lo)).take (sIx items.size items.size hi-sIx items.size 0 lo)).toArray):=by
  show ((items.toList.drop (sIx items.size 0 lo)).take (sIx items.size items.size hi-sIx items.size 0 lo)).toArray.size<=sizeLine
  rw [YH,aaf,aaA,aar]
  omega
 have hj:sIx items.size items.size hi<=items.size:=sIx_le _ _ (Yy _) hi
 obtain ⟨os,hos,hcs,hds⟩:=id hs
 have hTs:s.TypeIs (.ref sl) "slice" := ⟨os,hos,hcs⟩
 unfold getItem
 try with_reducible refine wpAny_holding ?_
 first | refine aaY (aa1 ?_) | skip
 refine aaY (wpAny_sequenceKey ht.typeIs (by decide) ?_)
 refine aaY (wpAny_callSpecial?_slot (name:=Str.ofString "__getitem__") ht.typeIs PyProof.Rows.slot_tuple_getitem
  (wpAny_call_entry PyProof.Rows.slot_tuple_getitem ht.typeIs entry_tuple_getitem ?_ (args_tuple_getitem _ _)))
 show wpAny _ _ (Builtin.Tuple.tupleItemsOf (.ref t) >>= _) _ _ s
 refine aaY (tupleItemsOf_ ht ?_)
 refine aaY (wpAny_typeOf hTs ?_)
 rw [aaZ (by decide)]
 refine aaY (yE hs pl pu ?_)
 have hno:¬ ((((sIx items.size 0 lo:Nat):Int)==0&&(1:Int)==1&&(sIx items.size items.size hi-sIx items.size 0 lo)==items.size)=true):=by
  intro q
  rw [aag,aag] at q
  have q1:((sIx items.size 0 lo:Nat):Int)=0:=eq_of_beq q.1.1
  have q2:sIx items.size items.size hi-sIx items.size 0 lo=items.size:=eq_of_beq q.2
  exact hw ⟨by omega,by omega⟩
 show wpAny _ _ (if (((sIx items.size 0 lo:Nat):Int)==0&&(1:Int)==1&&(sIx items.size items.size hi-sIx items.size 0 lo)==items.size)=true then _ else _) _ _ s
 rw [aa0 hno,Oi]
 first
  | exact aaY (m:=Builtin.Tuple.tupleExact _) (wpAny_newObj_type (aa1 ⟨_,rfl,aa1 h⟩) htake)
  | exact aaY (m:=Builtin.Tuple.tupleExact _) (wpAny_newObj_type (aaY (aa1 (aa1 ⟨_,rfl,aa1 h⟩))) htake)
  | exact aaY (aaY (m:=Builtin.Tuple.tupleExact _) (wpAny_newObj_type (aa1 (aa1 ⟨_,rfl,aa1 h⟩)) htake))
  | exact aaY (aaY (m:=Builtin.Tuple.tupleExact _) (wpAny_newObj_type (aa1 ⟨_,rfl,aa1 h⟩) htake))
end
end HT
namespace L2
open PySem PySem.Spec PyProof.Rows
variable {pins:List (Addr×Obj)} {E:Value->Shared->Prop} {s:Shared} {A:Around} {w:World} {P:Program}
abbrev TO:=St->Hp->(Option Int->Hp->Prop)->Prop
def PO (X:Cx) (e:Option Expr) (t:TO):Prop:=
 ∀ (pins:List (Addr×Obj)) (s:Shared) (σ:St) (H:Hp) (Q:Option Int->Hp->Prop),Inv X pins σ H s->t σ H Q->
  wpAny (model X.prog X.w) X.A (evalPart e X.env) (fun u s'=>∃ o H',Inv X pins σ H' s'/\IsPart u o/\Q o H') X.xe s
def Ro:TO:=fun _ H Q=>Q none H
def WQ (t:TE):TO:=fun σ H Q=>t σ H fun x H1=>∃ i,x=.int i/\Q (some i) H1
section
variable {X:Cx} {e:Expr} {te:TE} {lo hi:Option Expr} {tl th:TO} {pos p2:Pos}
theorem Rp:PO X none Ro:=by
 intro pins s σ H Q I h
 rw [evalPart_none]
 exact aa1 ⟨none,H,I,.none,h⟩
theorem Rq (h:PE X e te):PO X (some e) (WQ te):=by
 intro pins s σ H Q I hw
 rw [evalPart_some]
 refine cj (h pins s σ H _ I hw) fun u s1 ⟨x,H1,I1,r1,q1⟩=>?_
 obtain ⟨i,rfl,q⟩:=q1
 obtain ⟨t,rfl⟩:=r1
 exact ⟨some i,H1,I1,.int i t,q⟩
def Cu (X:Cx) (r:V->Option Int->Option Int->Hp->VK->Prop):Prop:=
 ∀ (pins:List (Addr×Obj)) (s:Shared) (σ:St) (H:Hp) (x:V) (v vl vu:Value) (lo hi:Option Int) (sl:Addr) (Q:VK),Inv X pins σ H s->RelV x v->s.heap.IsSliceOf sl vl vu .none->IsPart vl lo->IsPart vu hi->r x lo hi H Q->
  ∃ T id,typeLookup (.type T) "__getitem__" = pure (some (.builtin id))/\s.TypeIs v T/\wpAny (model X.prog X.w) X.A (getItem v (.ref sl)) (EP X pins σ Q) X.xe s
theorem Cu.or {r r':V->Option Int->Option Int->Hp->VK->Prop} (h:Cu X r) (h':Cu X r'):Cu X (fun x lo hi H Q=>r x lo hi H Q\/r' x lo hi H Q):=by
 intro pins s σ H x v vl vu lo hi sl Q I rx hs pl pu q
 rcases q with q | q
 . exact h pins s σ H x v vl vu lo hi sl Q I rx hs pl pu q
 . exact h' pins s σ H x v vl vu lo hi sl Q I rx hs pl pu q
def Yk (r:V->Option Int->Option Int->Hp->VK->Prop) (te:TE) (tl th:TO):TE:=fun σ H Q=>te σ H fun x H1=>tl σ H1 fun l H2=>th σ H2 fun u H3=>r x l u H3 Q
theorem yF {r:V->Option Int->Option Int->Hp->VK->Prop} (hr:Cu X r) (he:PE X e te) (hl:PO X lo tl) (hu:PO X hi th):PE X (.Subscript e (.Slice lo hi none p2) pos) (Yk r te tl th):=by
 intro pins s σ H Q I h
 refine Subscript_ (cj (he pins s σ H _ I h) fun v s1 ⟨x,H1,I1,r1,q1⟩=>?_)
 refine wpAny_Slice (cj (hl pins s1 σ H1 _ I1 q1) fun vl s2 ⟨l,H2,I2,pl,q2⟩=>cj (hu pins s2 σ H2 _ I2 q2) fun vu s3 ⟨u,H3,I3,pu,q3⟩=>?_)
 rw [evalPart_none]
 refine aa1 ?_
 have I4:Inv X pins σ H3 { s3 with heap:=s3.heap.push { cls:=.type "slice",data:=.fields #[vl,vu,.none] } }:=I3.kept (t':=s3.toks) fun b ob q=>Yx _ q
 obtain ⟨T,id,hT,ht,hg⟩:=hr pins { s3 with heap:=s3.heap.push { cls:=.type "slice",data:=.fields #[vl,vu,.none] } } σ H3 x v vl vu l u s3.heap.objs.size Q I4 r1 (Heap.IsSliceOf.new ..) pl pu q3
 show wpAny (model X.prog X.w) X.A (subscriptTail e (.Slice lo hi none p2) v (.ref s3.heap.objs.size)) (EP X pins σ Q) X.xe { s3 with heap:=s3.heap.push { cls:=.type "slice",data:=.fields #[vl,vu,.none] } }
 exact tail_any (ops:=[.ref s3.heap.objs.size,v]) ht hT hg (by with_unfolding_all rfl)
noncomputable def mF (xs:List V) (lo hi:Option Int):List V:=(xs.drop (HT.sIx xs.length 0 lo)).take (HT.sIx xs.length xs.length hi-HT.sIx xs.length 0 lo)
theorem yj (xs:List V) (lo hi:Option Int):(mF xs lo hi).length<=xs.length:=by
 unfold mF
 rw [aaf,aaA]
 omega
def XS (K:FG):V->Option Int->Option Int->Hp->VK->Prop:=fun x lo hi H Q=>∃ a xs,x=.ref a/\cQ K H a xs/\
 ¬ (HT.sIx xs.length 0 lo=0/\HT.sIx xs.length xs.length hi=xs.length)/\∀ p,H p=none->Q (.ref p) (upd H p (.tup (mF xs lo hi)))
theorem Ux:Cu X (XS X.K):=by
 intro pins s σ H x v vl vu lo hi sl Q I rx hs pl pu h
 obtain ⟨a,xs,rfl,hx,hw,q⟩:=h
 cases rx
 obtain ⟨its,r,ht,hz⟩:=I.tuple hx
 have hlen:its.toArray.size=xs.length:=by rw [YH]; exact r.length.symm
 refine ⟨"tuple",_,PyProof.Rows.slot_tuple_getitem.lookup,ht.typeIs,?_⟩
 refine HT.getItem_tuple_cut ht hs pl pu (by rw [hlen]; exact hw) ?_ (by rw [hlen]; exact hz)
 rw [hlen]
 refine ⟨.ref s.heap.objs.size,_,I.laid (t':=s.toks) (o:=.tup (mF xs lo hi)) (fun b ob q=>Yx _ q) (Yy _) ?_,rfl,q _ (I.hok.fresh (Yy _))⟩
 exact ⟨Zo (yj xs lo hi) hz,_,(r.drop (HT.sIx xs.length 0 lo)).take (HT.sIx xs.length xs.length hi-HT.sIx xs.length 0 lo),IsTup.new _ _⟩
def Qx (K:FG):R2:=fun x y H Q=>∃ a b xs ys,x=.ref a/\y=.ref b/\cQ K H a xs/\cQ K H b ys/\xs≠[]/\xs.length+ys.length<=sizeLine/\
 (ys=[]->Q (.ref a) H)/\(ys≠[]->∀ p,H p=none->Q (.ref p) (upd H p (.tup (xs++ys))))
theorem Vals.nil_iff {xs:List V} {us:List Value} (r:Vals xs us):us=[] ↔ xs=[]:=by
 cases r with
 | nil=>simp
 | cons _ _=>simp
theorem Rr:fB X (binaryOp .Add) (Qx X.K):=by
 intro pins s σ H x y v u Q I rx ry h
 obtain ⟨a,b,xs,ys,rfl,rfl,ha,hb,hx,hz,q1,q2⟩:=h
 cases rx
 cases ry
 obtain ⟨its,r1,p1,_⟩:=I.tuple ha
 obtain ⟨its2,r2,p2,_⟩:=I.tuple hb
 refine HT.cat_tup p1 p2 (fun z=>hx (r1.nil_iff.mp z)) (fun z=>⟨.ref a,H,I,rfl,q1 (r2.nil_iff.mp z)⟩) (fun z=>?_) (by rw [← r1.length,← r2.length]; exact hz)
 refine ⟨.ref s.heap.objs.size,_,I.laid (t':=s.toks) (o:=.tup (xs++ys)) (fun b ob q=>Yx _ q) (Yy _) ?_,rfl,q2 (fun w=>z (r2.nil_iff.mpr w)) _ (I.hok.fresh (Yy _))⟩
 exact ⟨by rw [YD]; exact hz,_,r1.append r2,IsTup.new _ _⟩
end
noncomputable def pJ (n:Nat) (i:Int):Option Nat:=if 0<=i then (if i<n then some i.toNat else none) else if -(n:Int)<=i then some (i+n).toNat else none
noncomputable def gj {α:Type} (xs:List α) (i:Int):Option α:=(pJ xs.length i).bind fun j=>xs[j]?
theorem HD {n:Nat} {i:Int} {j:Nat} (h:pJ n i=some j):seqIndex? i n=some j/\j<n/\-(n:Int)<=i/\i<n:=by
 unfold pJ at h
 by_cases h0:0<=i
 . rw [aaZ h0] at h
   by_cases h1:i<n
   . rw [aaZ h1] at h
     have e:i.toNat=j:=YW h
     exact ⟨by rw [seqIndex_of h0 h1,e],by omega,by omega,h1⟩
   . rw [aa0 h1] at h; cases h
 . rw [aa0 h0] at h
   by_cases h1:-(n:Int)<=i
   . rw [aaZ h1] at h
     have e:(i+n).toNat=j:=YW h
     exact ⟨by rw [seqIndex_neg (by omega) h1,e],by omega,h1,by omega⟩
   . rw [aa0 h1] at h; cases h
theorem Bg {α:Type} {xs:List α} {i:Int} {v:α} (h:gj xs i=some v):∃ j,seqIndex? i xs.length=some j/\xs[j]?=some v/\j<xs.length/\-(xs.length:Int)<=i/\i<xs.length:=by
 unfold gj at h
 cases e:pJ xs.length i with
 | none=>rw [e] at h; cases h
 | some j=>
  rw [e] at h
  obtain ⟨h1,h2,h3,h4⟩:=HD e
  exact ⟨j,h1,h,h2,h3,h4⟩
def xJ (b:Expr):Prop:=∀ o i,subscripted b false o i=operate [o,i] (getItem o i)
def ym (X:Cx) (r:R2):Prop:=
 ∀ (value slice:Expr) (pins:List (Addr×Obj)) (s:Shared) (σ:St) (H:Hp) (x y:V) (v u:Value) (Q:VK),Inv X pins σ H s->RelV x v->RelV y u->r x y H Q->
  subscripted slice false v u=operate [v,u] (getItem v u)->wpAny (model X.prog X.w) X.A (subscriptTail value slice v u) (EP X pins σ Q) X.xe s
def Lf (X:Cx) (id:String) (r:V->List V->Hp->VK->Prop):Prop:=
 ∀ (pins:List (Addr×Obj)) (s:Shared) (σ:St) (H:Hp) (x:V) (xs:List V) (v:Value) (us:List Value) (Q:VK),Inv X pins σ H s->RelV x v->Vals xs us->r x xs H Q->
  wpAny (model X.prog X.w) X.A (call (.builtin id) (v::us)) (EP X pins σ Q) X.xe s
section
variable {X:Cx} {a b:Expr} {ta tb:TE} {pos:Pos}
theorem ym.or {r r':R2} (h:ym X r) (h':ym X r'):ym X (fun x y H Q=>r x y H Q\/r' x y H Q):=by
 intro value slice pins s σ H x y v u Q I rx ry q hs
 rcases q with q | q
 . exact h value slice pins s σ H x y v u Q I rx ry q hs
 . exact h' value slice pins s σ H x y v u Q I rx ry q hs
theorem JV {r:R2} (hr:ym X r) (ha:PE X a ta) (hb:PE X b tb) (hs:xJ b):PE X (.Subscript a b pos) (Hw r ta tb):=by
 intro pins s σ H Q I h
 exact Subscript_ (N5 ha hb I h fun v u s2 x y H2 I2 rx ry q=>hr a b pins s2 σ H2 x y v u Q I2 rx ry q (hs _ _))
def Uy (K:FG):R2:=fun x y H Q=>∃ p xs i v,x=.ref p/\y=.int i/\bU K H p xs/\gj xs i=some v/\Q v H
def Uz (K:FG):R2:=fun x y H Q=>∃ p xs i v,x=.ref p/\y=.int i/\cQ K H p xs/\gj xs i=some v/\Q v H
def UG:R2:=fun x y H Q=>∃ z i c,x=.str z/\y=.int i/\z.length<=sizeLine/\gj z.cps.toList i=some c/\Q (.str ⟨#[c]⟩) H
theorem Rt:ym X (Uy X.K):=by
 intro value slice pins s σ H x y v u Q I rx ry h hs
 obtain ⟨p,xs,i,z,rfl,rfl,hq,he,q⟩:=h
 cases rx
 obtain ⟨t,rfl⟩:=ry
 obtain ⟨its,r,pl,hz⟩:=I.list hq
 obtain ⟨j,h1,h2,h3,h4,h5⟩:=Bg he
 obtain ⟨w,ew,rw'⟩:=r.get h2
 have hl:=r.length
 have hn:=ur
 have fin:EP X pins σ Q w s:=⟨z,H,I,rw',q⟩
 by_cases h0:0<=i
 . have hj:i.toNat=j:=by
    rw [seqIndex_of h0 h5] at h1
    exact YW h1
   exact item_listR pl.isList h0 (by omega) (by rw [hj]; simpa using ew) fin hs
 . have hj:(i+(its.toArray.size:Int)).toNat=j:=by
    rw [seqIndex_neg (by omega) h4] at h1
    rw [YH,← hl]
    exact YW h1
   exact subscriptTail_builtinR (x:=w) pl.isList.typeIs slot_list_getitem.lookup
    (wpAny_getItem_list_neg (Q:=fun r s'=>r=w/\EP X pins σ Q r s') pl.isList (by omega) (by rw [YH]<;>omega) (by omega) (by rw [hj]; simpa using ew) ⟨rfl,fin⟩) hs
theorem UJ:ym X (Uz X.K):=by
 intro value slice pins s σ H x y v u Q I rx ry h hs
 obtain ⟨p,xs,i,z,rfl,rfl,hq,he,q⟩:=h
 cases rx
 obtain ⟨t,rfl⟩:=ry
 obtain ⟨its,r,pl,hz⟩:=I.tuple hq
 obtain ⟨j,h1,h2,h3,h4,h5⟩:=Bg he
 obtain ⟨w,ew,rw'⟩:=r.get h2
 have hl:=r.length
 have hn:=ur
 have fin:EP X pins σ Q w s:=⟨z,H,I,rw',q⟩
 exact subscriptTail_builtinR (x:=w) pl.typeIs slot_tuple_getitem.lookup
  (getItem_tuple (j:=j) (Q:=fun r s'=>r=w/\EP X pins σ Q r s') pl (by omega) (by omega) (by rw [YH,← hl]; exact h1) (by simpa using ew) ⟨rfl,fin⟩) hs
theorem UL:ym X UG:=by
 intro value slice pins s σ H x y v u Q I rx ry h hs
 obtain ⟨z,i,c,rfl,rfl,hz,he,q⟩:=h
 obtain ⟨t,rfl⟩:=rx
 obtain ⟨t',rfl⟩:=ry
 obtain ⟨j,h1,h2,h3,h4,h5⟩:=Bg he
 have hl:z.cps.toList.length=z.length:=by simp [Str.length]
 rw [hl] at h1 h4 h5
 have hn:=ur
 exact tail_any (typeIs_str s z t) slot_str_getitem.lookup (getItem_str (c:=c) (by
  have e1:decide (i < -(2 ^ 63:Int))=false:=aa2 (by omega)
  have e2:decide (i ≥ 2 ^ 63)=false:=aa2 (by omega)
  rw [e1,e2,Bool.or_false]) (by rw [h1]; simpa using h2) ⟨.str ⟨#[c]⟩,H,I.tok _,⟨_,rfl⟩,q⟩) hs
def UT (K:FG):R2:=fun x y H Q=>Uy K x y H Q\/Uz K x y H Q\/UG x y H Q
theorem Lg:ym X (UT X.K):=Rt.or (UJ.or UL)
theorem JW (its:List Value) (n j:Nat) (u:Value):Obj.mapSeq (·.setIfInBounds j u) { cls:=.type "list",data:=.seq its.toArray n }={ cls:=.type "list",data:=.seq (its.set j u).toArray n }:=by
 simp [Obj.mapSeq]
theorem Inv.lst {σ:St} {H:Hp} {p:Addr} {xs:List V} (I:Inv X pins σ H s) (h:H p=some (.lst xs)):
 ∃ (its:List Value) (n:Nat),Vals xs its/\s.heap.get? p=some { cls:=.type "list",data:=.seq its.toArray n }/\xs.length<=sizeLine:=by
 obtain ⟨z,its,n,r,e⟩:=I.hok p _ h
 exact ⟨its,n,r,e,z⟩
theorem Inv.lstUpd {σ:St} {H:Hp} {p:Addr} {xs ys:List V} {its its':List Value} {n n':Nat} {f:Obj->Obj} (I:Inv X pins σ H s) (h:H p=some (.lst xs))
 (ho:s.heap.get? p=some { cls:=.type "list",data:=.seq its.toArray n }) (hf:f { cls:=.type "list",data:=.seq its.toArray n }={ cls:=.type "list",data:=.seq its'.toArray n' }) (r:Vals ys its') (hz:ys.length<=sizeLine) (t:Nat):
 Inv X pins σ (upd H p (.lst ys)) { s with heap:=s.heap.update p f,toks:=t }:=by
 have e:(s.heap.update p f).get? p=some { cls:=.type "list",data:=.seq its'.toArray n' }:=by
  rw [aao f ho (by rw [hf]<;>rfl),hf]
 refine I.write (x:=p) (e:=p) (by rw [h]; trivial) (.inl rfl) (fun b u hb q=>(aal _ _ (Ne.symm hb)).trans q) ⟨_,e⟩ ?_
 exact ⟨hz,its',n',r,e⟩
def Qy:V->V->V->Hp->(Hp->Prop)->Prop:=fun o i v H Q=>∃ p xs k j,o=.ref p/\i=.int k/\H p=some (.lst xs)/\pJ xs.length k=some j/\Q (upd H p (.lst (xs.set j v)))
theorem set_list:NQ X Qy:=by
 intro pins s σ H o i v ov iv u Q I ro ri rv h
 obtain ⟨p,xs,k,j,rfl,rfl,hp,hj,q⟩:=h
 cases ro
 obtain ⟨t,rfl⟩:=ri
 obtain ⟨its,n,r,ho,hz⟩:=I.lst hp
 obtain ⟨h1,h2,h3,h4⟩:=HD hj
 have hl:=r.length
 have hn:=ur
 have I':Inv X pins σ (upd H p (.lst (xs.set j v))) { s with heap:=s.heap.update p (Obj.mapSeq (·.setIfInBounds j u)) }:=
  I.lstUpd hp ho (JW its n j u) (r.set rv j) (by rw [YX]; exact hz) s.toks
 by_cases h0:0<=k
 . have hk:k.toNat=j:=by
    rw [seqIndex_of h0 h4] at h1
    exact YW h1
   exact W.ki_setAt ho h0 (by omega) (by rw [YH,← hl]; exact h4) (by rw [hk]; exact ⟨_,I',q⟩)
 . have hk:(k+(its.toArray.size:Int)).toNat=j:=by
    rw [seqIndex_neg (by omega) h3] at h1
    rw [YH,← hl]
    exact YW h1
   exact W.ki_setBack ho (by omega) (by rw [YH,← hl]; exact h3) (by omega) (by rw [hk]; exact ⟨_,I',q⟩)
theorem Es (lo hi:Option Int) (n:Nat):(sliceBounds lo hi none n).1=((HT.sIx n 0 lo:Nat):Int)/\(sliceBounds lo hi none n).2.1=((HT.sIx n n hi:Nat):Int)/\(sliceBounds lo hi none n).2.2=1:=by
 refine ⟨?_,?_,rfl⟩
 . cases lo with
   | none=>simp [sliceBounds,HT.sIx]
   | some i=>
    simp only [sliceBounds,HT.sIx,Option.getD_none,show (1:Int)>0 by decide,if_true]
    by_cases h:i<0
    . simp only [h,if_true]<;>omega
    . simp only [h,if_false]<;>omega
 . cases hi with
   | none=>simp [sliceBounds,HT.sIx]
   | some i=>
    simp only [sliceBounds,HT.sIx,Option.getD_none,show (1:Int)>0 by decide,if_true]
    by_cases h:i<0
    . simp only [h,if_true]<;>omega
    . simp only [h,if_false]<;>omega
theorem Do (its:List Value) (lo hi:Option Int):slicePick its.toArray lo hi none=((its.drop (HT.sIx its.length 0 lo)).take (HT.sIx its.length its.length hi-HT.sIx its.length 0 lo)).toArray:=by
 obtain ⟨h1,h2,h3⟩:=Es lo hi its.toArray.size
 unfold slicePick
 rw [h1,h2,h3]
 simp only [sliceRange_one,pick_run,YH]<;>rfl
def XX (K:FG):V->Option Int->Option Int->Hp->VK->Prop:=fun x lo hi H Q=>∃ a xs,x=.ref a/\bU K H a xs/\∀ p,H p=none->Q (.ref p) (upd H p (.lst (mF xs lo hi)))
theorem HF:Cu X (XX X.K):=by
 intro pins s σ H x v vl vu lo hi sl Q I rx hs pl pu h
 obtain ⟨a,xs,rfl,hx,q⟩:=h
 cases rx
 obtain ⟨its,r,ht,hz⟩:=I.list hx
 have hlen:=r.length
 refine ⟨"list",_,slot_list_getitem.lookup,ht.isList.typeIs,?_⟩
 refine wpAny_getItem_list_slice ht.isList hs pl pu .none (by simp) ?_ (by rw [YH]<;>omega)
 rw [Do,← hlen]
 refine ⟨.ref s.heap.objs.size,_,I.laid (t':=s.toks) (o:=.lst (mF xs lo hi)) (fun b ob q=>Yx _ q) (Yy _) ?_,rfl,q _ (I.hok.fresh (Yy _))⟩
 exact ⟨Zo (yj xs lo hi) hz,_,0,(r.drop (HT.sIx xs.length 0 lo)).take (HT.sIx xs.length xs.length hi-HT.sIx xs.length 0 lo),Y4 _ rfl⟩
noncomputable def Qz:V->Bool
 | .non=>true
 | .bl _=>true
 | .int _=>true
 | .str _=>true
 | _=>false
theorem rz:lZ X (.type "list") (fun xs H Q=>∃ p ys,xs=[.ref p]/\(bU X.K H p ys\/cQ X.K H p ys)/\∀ l,H l=none->Q (.ref l) (upd H l (.lst ys))):=by
 intro pins s σ H xs us Q I r h
 obtain ⟨p,ys,rfl,hq,q⟩:=h
 obtain ⟨u,rfl,rx⟩:=vals1 r
 cases rx
 have fin:∀ (its:List Value),Vals ys its->ys.length<=sizeLine->∀ (h':Heap) (c':Nat),(∀ b o',s.heap.get? b=some o'->h'.get? b=some o')->
  h'.get? s.heap.objs.size=some { cls:=.type "list",dict:=none,data:=.seq its.toArray c',slots:=#[] }->EP X pins σ Q (.ref s.heap.objs.size) { s with heap:=h' }:=fun its r' hz h' c' kp e=>
  ⟨.ref s.heap.objs.size,_,I.laid (t':=s.toks) kp (Yy _) (show gh X.prog X.w _ h' _ (.lst ys) from ⟨hz,its,c',r',e⟩),rfl,q _ (I.hok.fresh (Yy _))⟩
 rcases hq with hq | hq
 . obtain ⟨its,r',pl,hz⟩:=I.list hq
   have hlen:=r'.length
   obtain ⟨o,ho,hc,n,hd⟩:=pl.isList
   exact call_list_seq p (.inl rfl) ho hc hd (fun h' c' kp e=>fin its r' hz h' c' kp e) (by simp only [YH]<;>omega)
 . obtain ⟨its,r',pl,hz⟩:=I.tuple hq
   have hlen:=r'.length
   obtain ⟨o,ho,hc,n,hd⟩:=pl
   exact call_list_seq p (.inr rfl) ho hc hd (fun h' c' kp e=>fin its r' hz h' c' kp e) (by simp only [YH]<;>omega)
def UV (K:FG) (T:String) (x:V) (H:Hp):Prop:=match x with
 | .str _=>T = "str"
 | .int _=>T = "int"
 | .ref p=>(T = "list" /\ ∃ xs,bU K H p xs)\/(T = "tuple" /\ ∃ o,K.lookup p=some o/\o.cls=.type "tuple" /\ o.dict=none)\/
  (T = "dict" /\ ((∃ kvs,H p=some (.dK kvs))\/∃ kvs,H p=some (.dT kvs)))\/(T = "set" /\ ∃ S n,H p=some (.set S n))
 | _=>False
theorem Lh {σ:St} {H:Hp} {T:String} {x:V} {v:Value} (I:Inv X pins σ H s) (r:RelV x v) (ty:UV X.K T x H):
 s.TypeIs v T/\∀ a,v=.ref a->∃ ob,s.heap.get? a=some ob/\ob.dict=none:=by
 cases x with
 | str z=>
  obtain ⟨t,rfl⟩:=r
  cases (show T = "str" from ty)
  exact ⟨typeIs_str s z t,fun _ e=>nomatch e⟩
 | int i=>
  obtain ⟨t,rfl⟩:=r
  cases (show T = "int" from ty)
  exact ⟨typeIs_int s i t,fun _ e=>nomatch e⟩
 | ref p=>
  cases r
  rcases ty with ⟨rfl,xs,hq⟩ | ⟨rfl,o,hk,hc,hd⟩ | ⟨rfl,hk⟩ | ⟨rfl,S,n,hk⟩
  . obtain ⟨its,_,pl,_⟩:=I.list hq
    refine ⟨pl.isList.typeIs,fun a e=>?_⟩
    cases e
    obtain ⟨o,n,e,c,hd,_⟩:=pl
    exact ⟨o,e,hd⟩
  . refine ⟨⟨o,I.kIn p o hk,hc⟩,fun a e=>?_⟩
    cases e
    exact ⟨o,I.kIn _ o hk,hd⟩
  . have z:∃ o,s.heap.get? p=some o/\o.ExactDict:=by
     rcases hk with ⟨kvs,hk⟩ | ⟨kvs,hk⟩
     . obtain ⟨_,_,_,_,o,_,_,e,ex,_⟩:=I.hok p _ hk
       exact ⟨o,e,ex⟩
     . obtain ⟨_,_,_,_,o,_,_,e,ex,_⟩:=I.hok p _ hk
       exact ⟨o,e,ex⟩
    obtain ⟨o,e,ex⟩:=z
    refine ⟨⟨o,e,ex.1⟩,fun a e2=>?_⟩
    cases e2
    exact ⟨o,e,ex.2.1⟩
  . obtain ⟨o,_,_,_,e,ex,_⟩:=I.hok p _ hk
    refine ⟨⟨o,e,ex.1⟩,fun a e2=>?_⟩
    cases e2
    exact ⟨o,e,ex.2.1⟩
 | _=>exact False.elim ty
def UW (K:FG) (T:String) (r:V->List V->Hp->VK->Prop) (to:TE):TE:=fun σ H Q=>to σ H fun x H1=>UV K T x H1/\r x [] H1 Q
def HH (K:FG) (T:String) (r:V->List V->Hp->VK->Prop) (to:TE) (t:TA):TE:=fun σ H Q=>to σ H fun x H1=>UV K T x H1/\t σ H1 fun xs H2=>r x xs H2 Q
variable {o e:Expr} {es:List Expr} {to:TE} {t:TA} {name:Str} {apos cpos:Pos} {T id:String} {r:V->List V->Hp->VK->Prop}
theorem U0 (pa:PlainAttrs T) (slot:Slot T name id) (hty:typeOf (.builtin id)=pure (.type "method_descriptor")) (hm:Lf X id r) (ho:PE X o to)
 (hbase:attributeBase o name X.env (eval o X.env)=eval o X.env:=by rfl) (hline:(apos.endLine==cpos.line)=true:=by rfl):PE X (.Call (.Attribute o name apos) [] [] cpos) (UW X.K T r to):=by
 intro pins s σ H Q I h
 refine wpAny_Call_method0_late hbase hline (cj (ho pins s σ H _ I h) fun v s1 ⟨x,H1,I1,r1,ty,q1⟩=>?_)
 obtain ⟨h1,h2⟩:=Lh I1 r1 ty
 exact ⟨T,id,pa,slot,hty,h1,h2,Calls.callWith_builtin rfl (PySem.evalArgs_none (hm pins s1 σ H1 x [] v [] Q I1 r1 .nil q1))⟩
theorem m9 (pa:PlainAttrs T) (slot:Slot T name id) (hty:typeOf (.builtin id)=pure (.type "method_descriptor")) (hm:Lf X id r) (ho:PE X o to) (ha:PA X (e::es) t)
 (hbase:attributeBase o name X.env (eval o X.env)=eval o X.env:=by rfl)
 (hfew:((backTo cpos (starEach (e::es) X.env)).all (fun x=>!x.1)&&(backToKw cpos (keywordEach [] X.env)).all (fun x=>x.1.isSome)
   && decide ((e::es).length+([]:List Keyword).length+(if ([]:List Keyword).isEmpty then 0 else 1)<30))=true:=by rfl)
 (hline:(apos.endLine==cpos.line)=true:=by rfl) (hs:starEach (e::es) X.env=(false,eval e X.env)::starEach es X.env:=by rfl) (hplain:(backTo cpos (starEach es X.env)).any (·.1)=false:=by rfl):
 PE X (.Call (.Attribute o name apos) (e::es) [] cpos) (HH X.K T r to t):=by
 intro pins s σ H Q I h
 refine wpAny_Call_method_late hbase hfew hline rfl (cj (ho pins s σ H _ I h) fun v s1 ⟨x,H1,I1,r1,ty,q1⟩=>?_)
 obtain ⟨h1,h2⟩:=Lh I1 r1 ty
 refine ⟨T,id,pa,slot,hty,h1,h2,?_⟩
 have hA:=ha cpos pins s1 σ H1 _ I1 q1
 rw [hs] at hA ⊢
 refine Calls.callWith_builtin (by show (false||(backTo cpos (starEach es X.env)).any (·.1))=false; rw [hplain]<;>rfl) (Calls.evalArgs_plain ?_)
 exact cj hA fun us s2 ⟨vs,H2,I2,r2,q2⟩=>hm pins s2 σ H2 x vs v us Q I2 r1 r2 q2
end
def QB (X:Cx) (id:String) (r:V->List V->Hp->VK->Prop):Prop:=
 ∀ (pins:List (Addr×Obj)) (s:Shared) (σ:St) (H:Hp) (x:V) (xs:List V) (v:Value) (us:List Value) (Q:VK),Inv X pins σ H s->RelV x v->Vals xs us->r x xs H Q->
  wpAny (model X.prog X.w) X.A (call (.builtin id) (v::us)) (EP X pins σ Q) X.xe s
theorem Vals.one:∀ {x:V} {us:List Value},Vals [x] us->∃ u,us=[u]/\RelV x u
 | _,_,.cons r .nil=>⟨_,rfl,r⟩
theorem Vals.two:∀ {x y:V} {us:List Value},Vals [x,y] us->∃ u v,us=[u,v]/\RelV x u/\RelV y v
 | _,_,_,.cons r (.cons q .nil)=>⟨_,_,rfl,r,q⟩
theorem Vals.zero:∀ {us:List Value},Vals [] us->us=[]
 | _,.nil=>rfl
theorem Vals.dropLast {xs:List V} {us:List Value} (h:Vals xs us):Vals xs.dropLast us.dropLast:=by
 induction h with
 | nil=>exact .nil
 | cons r t ih=>
  cases t with
  | nil=>exact .nil
  | cons q t'=>exact .cons r ih
theorem JX {α:Type} (l:List α):l.eraseIdx (l.length-1)=l.dropLast:=by
 induction l with
 | nil=>rfl
 | cons a r ih=>
  cases r with
  | nil=>rfl
  | cons b r=>
   have e:(a::b::r).length-1=((b::r).length-1)+1:=by
    have h1:(a::b::r).length=r.length+2:=rfl
    have h2:(b::r).length=r.length+1:=rfl
    omega
   rw [e,List.eraseIdx_cons_succ,ih]
   all_goals rfl
section
variable {X:Cx} {pins:List (Addr×Obj)} {σ:St} {H:Hp} {s:Shared} {l b:Addr} {xs ys zs:List V}
theorem Inv.lset {its its':List Value} {n:Nat} {f:Array Value->Array Value} {t':Nat} (I:Inv X pins σ H s) (hH:H l=some (.lst xs))
 (e:s.heap.get? l=some { cls:=.type "list",data:=.seq its.toArray n }) (hf:f its.toArray=its'.toArray) (hv:Vals ys its') (hz:ys.length<=sizeLine):
 Inv X pins σ (upd H l (.lst ys)) { s with heap:=s.heap.update l (Obj.mapSeq f),toks:=t' }:=by
 have q:=PySem.IsL.update e f
 rw [hf] at q
 refine I.write (x:=l) (e:=l) (by rw [hH]; exact trivial) (.inl rfl) (fun b' u hb hu=>(aal s.heap (Obj.mapSeq f) (Ne.symm hb)).trans hu) ⟨_,q⟩ ?_
 exact ⟨hz,its',_,hv,q⟩
theorem Inv.lnew {its:List Value} {t':Nat} (I:Inv X pins σ H s) (hv:Vals ys its) (hz:ys.length<=sizeLine):
 Inv X pins σ (upd H s.heap.objs.size (.lst ys)) { s with heap:=s.heap.push { cls:=.type "list",data:=.seq its.toArray },toks:=t' }:=
 I.laid (fun _ _ q=>Yx _ q) (Yy _) ⟨hz,its,0,hv,Y4 _ rfl⟩
theorem Inv.fresh (I:Inv X pins σ H s):H s.heap.objs.size=none:=I.hok.fresh (Yy _)
theorem Inv.lstM (I:Inv X pins σ H s) (hH:H l=some (.lst xs)):xs.length<=sizeLine/\∃ (its:List Value) (n:Nat),Vals xs its/\xs.length=its.length/\s.heap.get? l=some { cls:=.type "list",data:=.seq its.toArray n }:=by
 obtain ⟨z,its,n,r,e⟩:=I.hok l _ hH
 exact ⟨z,its,n,r,r.length,e⟩
theorem Oj {n:Nat} (h:n<=sizeLine):Builtin.List.listTooLong n=false:=by
 unfold Builtin.List.listTooLong
 exact aa2 (by omega)
end
section
variable {X:Cx}
def Bh:V->List V->Hp->VK->Prop:=fun x vs H Q=>∃ l xs y,x=.ref l/\vs=[y]/\H l=some (.lst xs)/\xs.length<sizeLine/\Q .non (upd H l (.lst (xs++[y])))
theorem iY:QB X "list.append" Bh:=by
 intro pins s σ H x vs v us Q I rx rv h
 obtain ⟨l,xs,y,rfl,rfl,hH,hz,q⟩:=h
 cases rx
 obtain ⟨u,rfl,ru⟩:=rv.one
 obtain ⟨z,its,n,r,hl,e⟩:=I.lstM hH
 refine call_meets F.slot_list_append ⟨_,e,rfl⟩ F.entry_list_append (F.args_list_append_2 _ _) (PySem.list_append l its.toArray n u (by rw [YH]; omega)) ⟨e,?_⟩
 refine ⟨.non,_,I.lset (its':=its++[u]) hH e (by simp) (r.append (.cons ru .nil)) ?_,rfl,q⟩
 rw [YD,List.length_singleton]
 omega
def U3:V->List V->Hp->VK->Prop:=fun x vs H Q=>∃ l xs y,x=.ref l/\vs=[]/\H l=some (.lst xs)/\xs[xs.length-1]?=some y/\Q y (upd H l (.lst xs.dropLast))
theorem U4:QB X "list.pop" U3:=by
 intro pins s σ H x vs v us Q I rx rv h
 obtain ⟨l,xs,y,rfl,rfl,hH,hy,q⟩:=h
 cases rx
 have hus:=rv.zero
 subst hus
 obtain ⟨z,its,n,r,hl,e⟩:=I.lstM hH
 obtain ⟨u,hu,ru⟩:=r.get hy
 have hy':its.toArray[its.toArray.size-1]?=some u:=by
  show its.toArray[its.length-1]?=some u
  rw [← Array.getElem?_toList,← hl]
  exact hu
 refine call_meets F.slot_list_pop ⟨_,e,rfl⟩ F.entry_list_pop (F.args_list_pop_1 _) (MeetsSeq.list_pop_last l its.toArray n u hy' (by rw [YH]; omega)) ⟨e,?_⟩
 refine ⟨y,_,I.lset (its':=its.dropLast) hH e ?_ r.dropLast ?_,ru,q⟩
 . show its.toArray.eraseIdxIfInBounds (its.toArray.size-1)=its.dropLast.toArray
   rw [YH,List.eraseIdxIfInBounds_toArray,JX]
 . rw [List.length_dropLast]
   omega
end
section
variable {prog:Program}
end
section
variable {X:Cx}
end
end L2
namespace Att
open PySem PySem.W PySem.Calls PyProof.Rows
theorem zu {P:Params} {h:Heap}:∀ (ns:List Int) (vs:List Value),WellAll P h vs (ns.map WData.int)->IntsAre vs ns:=by
 intro ns
 induction ns with
 | nil=>
  intro vs w
  rw [aap] at w
  cases w
  exact .nil
 | cons n ns ih=>
  intro vs w
  rw [YT] at w
  cases w with
  | cons a b=>
   cases a
   exact .cons _ _ (ih _ b)
theorem Li {l:OpenLaw} {n:Nat} (hn:l.most=some n) {P:Params} {h:Heap} {args:List WData} {vals:List Value}
 (hpre:l.row.toRowW.claim.pre args=true) (hwl:WellAll P h vals args):
 ∃ a vs ns,vals=[Value.ref a]/\args=[WData.list (ns.map WData.int)]/\h.get? a=some { cls:=.type "list",data:=.seq vs.toArray }/\IntsAre vs ns/\ns.length<=n:=by
 have hsh:WShape.hasAll [] args [.list .int]=true:=(pre_splitW hpre).1
 have hc:l.pre.holds [] { args:=args }=true:=(pre_splitW hpre).2
 obtain ⟨d,r,rfl,h1,h2⟩:=hasAllW_cons hsh
 obtain rfl:=hasAllW_nil h2
 obtain ⟨xs,rfl,h3⟩:=hasW_list h1
 obtain ⟨ns,rfl⟩:=items_int h3
 have hlen:ns.length<=n:=by
  unfold OpenLaw.pre at hc
  have h4:(WTm.not (.lt (.lit (.int (n:Int))) (.len (.arg 0)))).holds [] { args:=[.list (ns.map .int)] }=true:=by
   have h4:=(holds_andW hc).1
   rw [hn] at h4
   exact h4
  have h5:=condW_of h4 (w_not (w_lt w_lit (w_len_list (w_arg rfl))))
  rw [Yw] at h5
  refine aaB fun q=>?_
  have q':(n:Int)<((ns.length:Nat):Int):=by omega
  first
   | (rw [aa3 q'] at h5; exact absurd h5 (by decide))
   | (simp at h5; omega)
 cases hwl with
 | cons w1 w2=>
  cases w2
  cases w1 with
  | list ho hall=>exact ⟨_,_,ns,rfl,rfl,ho,zu ns _ hall,hlen⟩
theorem Lj (l:OpenLaw) (args:List WData):l.row.toRowW.claim.post args (.bool true) args=true:=
 postW_of (r:=l.row.toRowW) (X:=(true==true))
  (show WShape.has [] (.bool true) .bool=true by first | rfl | decide | simp [WShape.has,WShape.arms,WShape.armsAll])
  (show (WTm.eq .res (.lit (.bool true))).value [] { args:=args,res:=some (.bool true),after:=args }=some (.bool (true==true)) from w_eq_bool (w_res rfl) w_lit) rfl
theorem attach_call {l:OpenLaw} {n:Nat} {q:Program} {loose:List Str} {XP:(Str->Option Value)->Heap->Prop} {YP:World->Heap->Prop} {d:DefRec}
 (hn:l.most=some n) (hdf:d.params.defaults=[])
 (call:∀ (w:World) (s₀ s₁:Shared) (mg mb:Str->Option Value) (fa:Addr) (o:Obj) (pm cd doc:Value) (a:Addr) (vs:List Value) (ns:List Int),
   Ground q loose [] XP w s₀ mg mb s₁.heap->YP w s₁.heap->
   s₁.heap.get? fa=some o->o.data=.func (docDef d.name d.params d.body d.scope pm cd doc)->s₁.heap.CodeRec cd d.name->mg d.name=some (.ref fa)->
   s₁.heap.get? a=some { cls:=.type "list",data:=.seq vs.toArray }->IntsAre vs ns->ns.length<=n->s₁.gens=#[]->
   codeAny (model l.prog w) callerA (.call (.ref fa) ⟨[.ref a],[]⟩) (fun r s'=>r=.ok (.ret (.bool true))/\OldK s₁.heap s'.heap/\s'.os=s₁.os/\AllBare s'.gens) s₁):
 WalkO q loose XP YP l.row.toRowW d [] (fun f vs=>PySem.call f vs):=by
 intro w s₀ s₁ mg mb G Y fa o pm cd doc dV kV ho hd hcd hD hmg hg args vals as hpre hlay hrd hwl hlo
 obtain rfl:dV=.none:=Dflts.none hD hdf
 obtain rfl:kV=.none:=Dflts.noKw hD
 obtain ⟨a,vs,ns,rfl,rfl,hobj,hints,hlen⟩:=Li hn hpre hwl
 refine enter_call (codeAny_mono (call w s₀ s₁ mg mb fa o pm cd doc a vs ns G Y ho (fd_plain hd) hcd hmg hobj hints hlen hg) fun r s' hq=>?_)
 obtain ⟨rfl,h2,h3,h4⟩:=hq
 exact ⟨.inl ⟨.bool true,.bool true,[],rfl,fun _=>rfl,.bool true,Lj l _,fun _=>⟨List.Pairwise.nil,fun _ hm=>(nomatch hm)⟩⟩,h2,h3,h4⟩
section
variable {prog:Program} {w:World} {A:Around} {E:Value->Shared->Prop} {s:Shared} {K:Frag}
end
end Att
namespace L2
open PySem PySem.Spec PyProof.Rows
variable {pins:List (Addr×Obj)} {E:Value->Shared->Prop} {s:Shared} {A:Around} {w:World} {P:Program}
theorem Cv:∀ {vs:List Value} {ns:List Int},IntsAre vs ns->Vals (ns.map V.int) vs
 | _,_,.nil=>.nil
 | _,_,.cons n t h=>.cons ⟨t,rfl⟩ (Cv h)
def Only (H:Hp):Prop:=∀ b,H b=none\/∃ o xs,H b=some (.frz o (.lst xs))
theorem Ol {K:FG} {mg mb:Str->Option Value} {CX:vV} {k:Nat} {fa a:Addr} {fd:FuncData} {x:Str} {sp:Sp} {s₁:Shared} {vs:List Value} {ns:List Int}
 (KX:K.In s₁.heap) (hns:s₁.heap.Ns mainGlobals mg) (hb:s₁.heap.Ns builtinsNs mb) (hbb:∀ x:Str,x ≠ "__name__" -> mb x=bootBuiltins x) (hlim:s₁.heap.NoLimit) (hg:s₁.gens=#[])
 (ha:s₁.heap.get? a=some { cls:=.type "list",data:=.seq vs.toArray }) (hi:IntsAre vs ns) (hl:ns.length<=sizeLine) (hr:mC k callerA)
 (F:∀ base:Heap,K.In base->base.Ns mainGlobals mg->mD P w K mg base CX k fa fd [x] sp) (hbind:∀ (s:Shared) (u:Value),BindsTo s fd ⟨[u],[]⟩ [(x,u)])
 (hsp:∀ H:Hp,Only H->bU K H a (ns.map V.int)->sp [.ref a] H (fun v _=>v=.bl true) fun _ _ _=>False)
 (hCX:∀ H e s',CX [] H s₁ (fun _ _ _=>False) e s'->False):
 codeAny (model P w) callerA (.call (.ref fa) ⟨[.ref a],[]⟩) (fun r s'=>r=.ok (.ret (.bool true))/\OldK s₁.heap s'.heap/\s'.os=s₁.os/\AllBare s'.gens) s₁:=by
 have rv:=Cv hi
 have lenV:=hi.length
 have core:∀ H:Hp,Only H->bU K H a (ns.map V.int)->iz P w H s₁.heap->(∀ b,H b≠none->b=a)->(H a≠none->K.lookup a=none)->
  codeAny (model P w) callerA (.call (.ref fa) ⟨[.ref a],[]⟩) (fun r s'=>r=.ok (.ret (.bool true))/\OldK s₁.heap s'.heap/\s'.os=s₁.os/\AllBare s'.gens) s₁:=by
  intro H hO hS hok hA hK
  have base_of:∀ {b:Addr} {o:Obj},s₁.heap.get? b=some o->H b=none->(uV s₁.heap H).get? b=some o:=fun e n=>Nz e n
  have noA:∀ {b:Addr} {o:Obj} {es:Array DictEntry} {ep:Nat},s₁.heap.get? b=some o->o.data=.dict es ep->H b=none:=fun {b o es ep} e d=>by
   cases q:H b with
   | none=>rfl
   | some u=>
    have e':b=a:=hA b (by rw [q]; simp)
    subst e'
    rw [ha] at e; cases e
    have d':Data.seq vs.toArray _=Data.dict es ep:=d
    cases d'
  have nsK:∀ {b:Addr} {m:Str->Option Value},s₁.heap.Ns b m->(uV s₁.heap H).Ns b m:=fun {b m} ⟨o,es,ep,e,d,r⟩=>⟨o,es,ep,base_of e (noA e d),d,r⟩
  have hKb:K.In (uV s₁.heap H):=fun b o e=>base_of (KX b o e) (by
   cases q:H b with
   | none=>rfl
   | some u=>
    have e':b=a:=hA b (by rw [q]; simp)
    subst e'
    rw [hK (by rw [q]; simp)] at e; cases e)
  have hM:Mod K mg (uV s₁.heap H):=⟨hKb,nsK hns,⟨mb,nsK hb,hbb⟩,let ⟨mc,h1,h2⟩:=hlim; ⟨mc,nsK h1,h2⟩⟩
  have e0:yD P w K mg (uV s₁.heap H) callerA [] s₁ H:=⟨rfl,hM,fun b o e=>Q9 e,Nat.le_of_eq (KQ _ _),trivial,fun b hb=>absurd (show b∈([]:List Addr) from hb) (by simp),hok,.of_eq hg⟩
  refine codeAny_mono ((F _ hKb (nsK hns)).run callerA [] s₁ H ⟨[.ref a],[]⟩ [.ref a] [.ref a] _ _ hr e0 (hbind s₁ (.ref a)) (.cons rfl .nil) (hsp H hO hS)) fun r s' h=>?_
  cases r with
  | error e=>exact (hCX H e s' h).elim
  | ok fl=>
   cases fl with
   | next=>exact False.elim h
   | brk=>exact False.elim h
   | cont=>exact False.elim h
   | ret u=>
    obtain ⟨v,H',os,bare,un,hok',r',q⟩:=h
    have q':v=.bl true:=q
    subst q'
    obtain rfl:u=Value.bool true:=r'
    refine ⟨rfl,OldK.of_keep fun b o e=>?_,os,bare⟩
    cases q:H b with
    | none=>exact un.keep b o e q (by intro z; exact absurd (show b∈([]:List Addr) from z) (by simp)) (by simp)
    | some u=>
     rcases hO b with z | ⟨ob,xs,z⟩
     . rw [q] at z; cases z
     . have z2:=un.frzs b ob _ z
       obtain ⟨e1,_⟩:=hok b _ z
       obtain ⟨e2,_⟩:=hok' b _ z2
       rw [e] at e1; cases e1
       exact e2
 cases hk:K.lookup a with
 | some o=>
  have e:=KX a o hk
  rw [ha] at e
  cases e
  refine core (fun _=>none) (fun _=>.inl rfl) (.inr ⟨_,vs.toArray,_,hk,rfl,rfl,rfl,by rw [YH,lenV]; exact hl,by simpa using rv⟩) (fun b u z=>by have z':(none:Option HO)=some u:=z; cases z') (fun b z=>absurd rfl z) fun z=>absurd rfl z
 | none=>
  refine core (fun b=>if b=a then some (.frz { cls:=.type "list",data:=.seq vs.toArray } (.lst (ns.map V.int))) else none) (fun b=>?_) (.inl (.inr ⟨{ cls:=.type "list",data:=.seq vs.toArray },aaZ rfl⟩)) (fun b u z=>?_) (fun b z=>?_) fun _=>hk
  . by_cases hb:b=a
    . exact .inr ⟨_,_,aaZ hb⟩
    . exact .inl (aa0 hb)
  . by_cases hb:b=a
    . have z':=(aaZ hb).symm.trans z
      cases z'
      subst hb
      exact ⟨ha,by rw [Yw]; exact hl,vs,_,rv,ha⟩
    . have z':=(aa0 hb).symm.trans z
      cases z'
  . by_cases hb:b=a
    . exact hb
    . exact absurd (aa0 hb) z
theorem walk_of {l:W.OpenLaw} {n k:Nat} {q:Program} {loose:List Str} {XP:(Str->Option Value)->Heap->Prop} {YP:World->Heap->Prop} {d:DefRec} {K:Params->FG} {CX:World->vV} {sp:World->Sp} {x:Str}
 (hn:l.most=some n) (hn2:n<=sizeLine) (hdf:d.params.defaults=[]) (hr:mC k callerA)
 (hY:∀ (w:World) (h:Heap),YP w h->(K w.params).In h)
 (F:∀ (w:World) (mg:Str->Option Value) (fa:Addr) (h:Heap),(K w.params).In h->h.Ns mainGlobals mg->mg d.name=some (.ref fa)->
   ∃ fd:FuncData,(∀ (s:Shared) (u:Value),BindsTo s fd ⟨[u],[]⟩ [(x,u)])/\
    ∀ base:Heap,(K w.params).In base->base.Ns mainGlobals mg->mD l.prog w (K w.params) mg base (CX w) k fa fd [x] (sp w))
 (hsp:∀ (w:World) (H:Hp) (a:Addr) (ns:List Int),ns.length<=n->Only H->bU (K w.params) H a (ns.map V.int)->sp w [.ref a] H (fun v _=>v=.bl true) fun _ _ _=>False)
 (hCX:∀ (w:World) (H:Hp) (s:Shared) (e:Value) (s':Shared),CX w [] H s (fun _ _ _=>False) e s'->False):
 W.WalkO q loose XP YP l.row.toRowW d [] (fun f vs=>PySem.call f vs):=by
 refine Att.attach_call hn hdf fun w s₀ s₁ mg mb fa o pm cd doc a vs ns G Y ho hd hcd hmg hobj hints hlen hg=>?_
 have KX:=hY w _ Y
 obtain ⟨fd,hb,hF⟩:=F w mg fa _ KX G.T.g hmg
 exact Ol KX G.T.g G.T.b G.T.builtins G.T.nolimit hg hobj hints (Zo hlen hn2) hr hF hb (fun H hO hS=>hsp w H a ns hlen hO hS) fun H e s'=>hCX w H s₁ e s'
noncomputable def inClass (s:Stmt) (j:Nat):Stmt:=match s with
 | .ClassDef _ _ _ body _ _ _ _ _ _ _=>body.getD j (.Pass ⟨0,0,0,0⟩)
 | _=>.Pass ⟨0,0,0,0⟩
noncomputable def oG (s:Stmt):Arguments:=match s with
 | .FunctionDef _ a _ _ _ _ _ _ _ _=>a
 | _=>{ posonlyargs:=[],args:=[],vararg:=none,kwonlyargs:=[],kw_defaults:=[],kwarg:=none,defaults:=[] }
noncomputable def iV (s:Stmt):List Stmt:=match s with
 | .FunctionDef _ _ b _ _ _ _ _ _ _=>b
 | _=>[]
noncomputable def aK (s:Stmt):Scope:=match s with
 | .FunctionDef _ _ _ _ _ _ sc _ _ _=>sc
 | _=>{ kind:=.function,names:=[],isGenerator:=false,isCoroutine:=false }
noncomputable abbrev oE:vV:=fun _ _ _ _ _ _=>False
noncomputable abbrev E0:XK:=fun _ _ _=>False
theorem zx {X:Cx}:wu oE X E0:=fun _ _ _ _ _ _ _ h=>h.elim
structure sV (K:FG) (x qual:Str) (st:Stmt) (f:Addr) (fd:FuncData):Prop where
 ex:∃ (oc:Value) (od:Option Addr) (kV doc pm:Value) (an:Option Addr) (cdv ct:Value) (osl:Array (Option Value)),
  fd=W.fnOf x qual (oG st) (iV st) (aK st) .none kV doc pm an cdv ct/\K.lookup f=some ⟨oc,od,.func fd,osl⟩/\W.codeIn K cdv qual=true
 kp:W.keepIn K (.ref f)=true
section
variable {P:Program} {w:World} {K:FG} {mg:Str->Option Value} {base:Heap}
theorem sV.ok {b:Bool} {x qual:Str} {st:Stmt} {f:Addr} {fd:FuncData} {N ps:List Str} {k:Nat} {sp:Sp} (F:sV K x qual st f fd) (S:bf N ps (aK st)) (len:∀ vs H Q E,sp vs H Q E->vs.length=ps.length)
 (hbody:∀ (cdv:Value) (A:Around) (outer:List Env) (s:Shared) (H:Hp) (vs:List V) (Q:VK) (E:XK),fH b k (A.deeper (envOfC qual (aK st) s.heap.objs.size f cdv))->sp vs H Q E->
   ∃ t,iB (sU b oE P w K mg base N qual (aK st) f cdv A outer s H E).nox (iV st) t/\t { nx:=fun _ H'=>Q .non H',rt:=Q } (start N vs) H):qC b P w K mg base oE (k+1) f fd ps sp:=by
 obtain ⟨oc,od,kV,doc,pm,an,cdv,ct,osl,rfl,lk,hcd⟩:=F.ex
 refine WP lk hcd S len fun A outer s H vs Q E hr hsp=>?_
 obtain ⟨t,h,q⟩:=hbody cdv A outer s H vs Q E hr hsp
 exact ⟨t,h.nox,q⟩
theorem sV.binds {x qual:Str} {st:Stmt} {f:Addr} {fd:FuncData} {ps:List Str} (F:sV K x qual st f fd)
 (h:∀ (kV doc pm:Value) (an:Option Addr) (cdv ct:Value) (us:List Value),us.length=ps.length->bindArgs (W.fnOf x qual (oG st) (iV st) (aK st) .none kV doc pm an cdv ct) ⟨us,[]⟩=pure (ps.zip us)):Binds K fd ps []:=by
 obtain ⟨oc,od,kV,doc,pm,an,cdv,ct,osl,rfl,lk,hcd⟩:=F.ex
 exact .all (h kV doc pm an cdv ct)
theorem ww {x qual:Str} {st:Stmt} {f:Addr} {oc:Value} {od an:Option Addr} {osl:Array (Option Value)} {kV doc pm cdv ct:Value} (l:K.lookup f=some ⟨oc,od,.func (W.fnOf x qual (oG st) (iV st) (aK st) .none kV doc pm an cdv ct),osl⟩)
 (c:W.codeIn K cdv qual=true) (k:W.keepIn K (.ref f)=true):sV K x qual st f (W.fnOf x qual (oG st) (iV st) (aK st) .none kV doc pm an cdv ct):=⟨⟨oc,od,kV,doc,pm,an,cdv,ct,osl,rfl,l,c⟩,k⟩
end
theorem cz {b:Bool} {k:Nat} (hr:fH b k A):A.units+1<cLine:=aau (Nat.add_le_add_left (by decide:1<=64) _) hr.units
section
variable {X:Cx}
theorem pv (i:Nat) {x:Str} {pos:Pos} (hN:X.N[i]?=some x:=by rfl) (hv:KR X.env.scope x:=by first | exact Or.inl rfl | exact Or.inr (Or.inl rfl) | exact Or.inr (Or.inr rfl)) (hd:(x==("__debug__" : Str))=false:=by decide)
 (hcd:(x==("__classdict__" : Str))=false:=by decide):PE X (.Name x pos) (pX i):=TX hN hv hd hcd
end
def dG (H H':Hp):Prop:=∀ b o,H b=some o->H' b=some o
theorem dG.refl (H:Hp):dG H H:=fun _ _ h=>h
theorem dG.trans {H H1 H2:Hp} (a:dG H H1) (b:dG H1 H2):dG H H2:=fun c o h=>b c o (a c o h)
theorem dG.free {H H':Hp} (e:dG H H') {l:Addr} (h:H' l=Option.none):H l=Option.none:=by
 cases q:H l with
 | none=>rfl
 | some o=>
  rw [e l o q] at h
  cases h
theorem dG.seq {K:FG} {H H':Hp} {a:Addr} {xs:List V} (e:dG H H') (h:bU K H a xs):bU K H' a xs:=by
 rcases h with (h | ⟨o,h⟩) | h
 . exact .inl (.inl (e _ _ h))
 . exact .inl (.inr ⟨o,e _ _ h⟩)
 . exact .inr h
section
variable {κ:Type} [DecidableEq κ]
noncomputable def kh (kvs:List (κ×V)) (k:κ):Option V:=(kvs.find? fun kv=>decide (kv.1=k)).map (·.2)
noncomputable def putK (kvs:List (κ×V)) (k:κ) (v:V):List (κ×V):=
 if (kvs.any fun kv=>decide (kv.1=k))=true then kvs.map (fun kv=>if kv.1=k then (kv.1,v) else kv) else kvs++[(k,v)]
theorem uZ {p:κ×V} {r:List (κ×V)} {k:κ} (e:p.1=k):kh (p::r) k=some p.2:=by simp [kh,aak,e]
theorem u5 {p:κ×V} {r:List (κ×V)} {k:κ} (e:¬ p.1=k):kh (p::r) k=kh r k:=by simp [kh,aak,e]
theorem u6 (k:κ):∀ kvs:List (κ×V),(kvs.any fun kv=>decide (kv.1=k))=(kh kvs k).isSome
 | []=>rfl
 | p::r=>by
  rw [aaP]
  by_cases e:p.1=k
  . simp only [uZ e,aa3 e,Bool.true_or,Option.isSome_some]
  . rw [u5 e,aa2 e,Bool.false_or]; exact u6 k r
theorem tZ (kvs:List (κ×V)) (k:κ) (v:V):(putK kvs k v).length<=kvs.length+1:=by
 unfold putK
 split
 . rw [Yw]; omega
 . rw [YD,YB,aaD]; omega
theorem Om {kvs:List (κ×V)} {k:κ} (v:V) (h:kh kvs k=none):putK kvs k v=kvs++[(k,v)]:=by
 unfold putK
 rw [u6,h]
 exact aa0 (by decide)
theorem lK.isSome_eq {o:Option V} {u:Option Value} (r:lK o u):o.isSome=u.isSome:=by
 cases o with
 | none=>cases u with
  | none=>rfl
  | some _=>exact (show False from r).elim
 | some _=>cases u with
  | none=>exact (show False from r).elim
  | some _=>rfl
theorem KV.val {kvs:List (κ×V)} {vs:List (κ×Value)} (r:KV kvs vs) (k:κ):lK (kh kvs k) (valueAt vs k):=by
 unfold KV at r
 induction r with
 | nil=>exact True.intro
 | @cons p q ps qs h t ih=>
  obtain ⟨h1,h2⟩:=h
  by_cases e:p.1=k
  . have e':q.1=k:=h1.symm.trans e
    have b:valueAt (q::qs) k=some q.2:=by simp [valueAt,aak,e']
    rw [uZ e,b]; exact h2
  . have e':¬ q.1=k:=fun z=>e (h1.trans z)
    have b:valueAt (q::qs) k=valueAt qs k:=by simp [valueAt,aak,e']
    rw [u5 e,b]; exact ih
theorem KV.any {kvs:List (κ×V)} {vs:List (κ×Value)} (r:KV kvs vs) (k:κ):(kvs.any fun kv=>decide (kv.1=k))=vs.any fun kv=>decide (kv.1=k):=by
 unfold KV at r
 induction r with
 | nil=>rfl
 | cons h t ih=>rw [aaP,aaP,ih,h.1]
theorem KV.repl {kvs:List (κ×V)} {vs:List (κ×Value)} (r:KV kvs vs) (k:κ) {y:V} {u:Value} (ry:RelV y u):
 KV (kvs.map fun kv=>if kv.1=k then (kv.1,y) else kv) (vs.map fun kv=>if kv.1=k then (kv.1,u) else kv):=by
 unfold KV at r ⊢
 induction r with
 | nil=>exact .nil
 | @cons p q ps qs h t ih=>
  rw [YT,YT]
  refine .cons ?_ ih
  obtain ⟨h1,h2⟩:=h
  by_cases e:p.1=k
  . rw [aaZ e,aaZ (h1.symm.trans e)]; exact ⟨h1,ry⟩
  . rw [aa0 e,aa0 (fun z=>e (h1.trans z))]; exact ⟨h1,h2⟩
theorem KV.put {kvs:List (κ×V)} {vs:List (κ×Value)} (r:KV kvs vs) (k:κ) {y:V} {u:Value} (ry:RelV y u):KV (putK kvs k y) (stored vs k u):=by
 unfold putK stored
 rw [r.any k]
 by_cases e:(vs.any fun kv=>decide (kv.1=k))=true
 . rw [aaZ e,aaZ e]; exact r.repl k ry
 . rw [aa0 e,aa0 e]; exact Paired.snoc r ⟨rfl,ry⟩
theorem KV.length {kvs:List (κ×V)} {vs:List (κ×Value)} (r:KV kvs vs):kvs.length=vs.length:=Paired.length r
end
theorem zy {k:Key} {u:Value} (r:RelV (kV k) u):(dM P w).is k u=true:=by
 cases k with
 | inl i=>obtain ⟨t,e⟩:=(show ∃ t,u=Value.int i t from r); subst e; exact Hh P w i t
 | inr x=>obtain ⟨t,e⟩:=(show ∃ t,u=Value.str x t from r); subst e; exact Hi P w x t
theorem Cw:∀ {ks:List Key} {us:List Value},Vals (ks.map kV) us->ItemsAre (dM P w) ks us
 | [],_,r=>by rw [aap] at r; cases r; exact .nil
 | k::ks,_,r=>by
  rw [YT] at r
  cases r with
  | cons h t=>exact .cons (zy h) (Cw t)
abbrev KT (H:Hp):List (List Key×V)->List (List Key×Addr×Value)->Prop:=Paired fun p q=>p.1=q.1/\H q.2.1=some (.tup (p.1.map kV))/\RelV p.2 q.2.2
theorem KT.val {H:Hp} {kvs:List (List Key×V)} {xs:List (List Key×Addr×Value)} (r:KT H kvs xs) (k:List Key):lK (kh kvs k) ((atKey xs k).map (·.2)):=by
 induction r with
 | nil=>exact True.intro
 | @cons p q ps qs h t ih=>
  obtain ⟨h1,_,h2⟩:=h
  by_cases e:p.1=k
  . have e':q.1=k:=h1.symm.trans e
    have b:atKey (q::qs) k=some q.2:=by simp [atKey,aak,e']
    rw [uZ e,b]; exact h2
  . have e':¬ q.1=k:=fun z=>e (h1.trans z)
    have b:atKey (q::qs) k=atKey qs k:=by simp [atKey,aak,e']
    rw [u5 e,b]; exact ih
theorem KT.repl {H:Hp} {kvs:List (List Key×V)} {xs:List (List Key×Addr×Value)} (r:KT H kvs xs) (k:List Key) {y:V} {u:Value} (ry:RelV y u):
 KT H (kvs.map fun kv=>if kv.1=k then (kv.1,y) else kv) (xs.map (putAt k u)):=by
 induction r with
 | nil=>exact .nil
 | @cons p q ps qs h t ih=>
  rw [YT,YT]
  refine .cons ?_ ih
  obtain ⟨h1,h2,h3⟩:=h
  unfold putAt
  by_cases e:p.1=k
  . rw [aaZ e,aaZ (h1.symm.trans e)]; exact ⟨h1,h2,ry⟩
  . rw [aa0 e,aa0 (fun z=>e (h1.trans z))]; exact ⟨h1,h2,h3⟩
theorem KT.put {H:Hp} {kvs:List (List Key×V)} {xs:List (List Key×Addr×Value)} (r:KT H kvs xs) (k:List Key) {b:Addr} {y:V} {u:Value} (hb:H b=some (.tup (k.map kV))) (ry:RelV y u):
 KT H (putK kvs k y) (storedH xs k b u):=by
 have e:(kvs.any fun kv=>decide (kv.1=k))=(atKey xs k).isSome:=by
  rw [u6,(r.val k).isSome_eq,Option.isSome_map]
 unfold putK storedH
 rw [e]
 by_cases q:(atKey xs k).isSome=true
 . rw [aaZ q,aaZ q]; exact r.repl k ry
 . rw [aa0 q,aa0 q]; exact Paired.snoc r ⟨rfl,hb,ry⟩
theorem KT.keeps {H H':Hp} {kvs:List (List Key×V)} {xs:List (List Key×Addr×Value)} (r:KT H kvs xs) (ht:∀ b ys,H b=some (.tup ys)->H' b=some (.tup ys)):KT H' kvs xs:=
 Paired.mapP r fun _ _ z=>⟨z.1,ht _ _ z.2.1,z.2.2⟩
section
variable {P:Program} {w:World} {H:Hp} {h:Heap} {a:Addr}
theorem QC {u:HO} (ok:iz P w H h) (e:Rd H a u):gh P w H h a u:=e.ok ok
theorem u9 {kvs:List (Key×V)} (ok:iz P w H h) (e:Rd H a (.dK kvs)):kvs.length<=sizeLine/\(a==sysModules)=false/\∃ vs,KV kvs vs/\h.DictOf (dM P w) a vs:=
 show gh P w H h a (.dK kvs) from QC ok e
theorem DR {kvs:List (Key×V)} (ok:iz P w H h) (e:H a=some (.dK kvs)):kvs.length<=sizeLine/\(a==sysModules)=false/\∃ vs,KV kvs vs/\h.DictOf (dM P w) a vs:=u9 ok (.inl e)
theorem zA {ks:List Key} (ok:iz P w H h) (e:H a=some (.tup (ks.map kV))):(tupleKind (dM P w)).is h ks a:=by
 obtain ⟨_,its,r,o,h1,h2,n,h3⟩:=(show gh P w H h a (.tup (ks.map kV)) from ok a _ e)
 exact ⟨o,its.toArray,n,h1,h2,h3,by simpa using Cw r⟩
theorem zB {kvs:List (List Key×V)} (ok:iz P w H h) (e:Rd H a (.dT kvs)):kvs.length<=sizeLine/\(a==sysModules)=false/\
 ∃ xs,KT H kvs xs/\h.DictOfH (tupleKind (dM P w)) a xs:=by
 obtain ⟨z,y,xs,r,o,es,ep,h1,h2,h3,h4,h5⟩:=(show gh P w H h a (.dT kvs) from QC ok e)
 refine ⟨z,y,xs,r,o,es,ep,h1,h2,h3,h4,fun x hx=>?_,h5⟩
 have all:∀ {l:List (List Key×V)} {m:List (List Key×Addr×Value)},KT H l m->∀ x∈m,(tupleKind (dM P w)).is h x.1 x.2.1:=by
  intro l m q
  induction q with
  | nil=>intro x hx; exact nomatch hx
  | @cons p q ps qs hq t ih=>
   intro x hx
   rcases YC.mp hx with e | hx
   . subst e
     exact zA ok (by rw [← hq.1]; exact hq.2.1)
   . exact ih x hx
 exact all r x hx
theorem WR {kvs:List (List Key×V)} (ok:iz P w H h) (e:H a=some (.dT kvs)):kvs.length<=sizeLine/\(a==sysModules)=false/\
 ∃ xs,KT H kvs xs/\h.DictOfH (tupleKind (dM P w)) a xs:=zB ok (.inl e)
end
def Bj (H:Hp) (a:Addr) (y:V) (r:Option V):Prop:=
 (∃ kvs k,Rd H a (.dK kvs)/\y=kV k/\r=kh kvs k)\/∃ kvs k b,Rd H a (.dT kvs)/\y=.ref b/\H b=some (.tup (k.map kV))/\r=kh kvs k
def U5 (H:Hp) (a:Addr) (y v:V) (H':Hp):Prop:=
 (∃ kvs k,H a=some (.dK kvs)/\y=kV k/\kvs.length<sizeLine/\H'=upd H a (.dK (putK kvs k v)))\/
 ∃ kvs k b,H a=some (.dT kvs)/\y=.ref b/\H b=some (.tup (k.map kV))/\kvs.length<sizeLine/\H'=upd H a (.dT (putK kvs k v))
section
variable {X:Cx} {pins:List (Addr×Obj)} {σ:St} {H:Hp} {s:Shared} {a:Addr} {y v:V} {u r:Value} {o:Option V} {A:Around} {E:Value->Shared->Prop}
theorem Inv.big (I:Inv X pins σ H s):sysModules<s.heap.objs.size:=by
 have h:mainGlobals<s.heap.objs.size:=(I.mod.glob.keeps I.bk).lt
 exact Nat.lt_trans (by decide) h
theorem Lk {Q:Value->Shared->Prop} (hu:A.units+1<cLine) (I:Inv X pins σ H s) (g:Bj H a y (some v)) (ry:RelV y u) (h:∀ w' s',Inv X pins σ H s'->RelV v w'->Q w' s'):
 wpAny (model X.prog X.w) A (getItem (.ref a) u) Q E s:=by
 rcases g with ⟨kvs,k,e,ey,l⟩ | ⟨kvs,k,b,e,ey,eb,l⟩
 . subst ey
   obtain ⟨z,hd,vs,rel,dd⟩:=u9 I.hok e
   obtain ⟨w',hw,rw'⟩:=lK.some_of (v:=v) (o:=valueAt vs k) (by rw [l]; exact rel.val k)
   exact wpAny_getItem_of (zy ry) dd.mapOf hw (h w' _ (I.tok _) rw')
 . subst ey
   cases (show u=Value.ref b from ry)
   obtain ⟨z,hd,xs,rel,dd⟩:=zB I.hok e
   obtain ⟨w',hw,rw'⟩:=lK.some_of (v:=v) (o:=(atKey xs k).map (·.2)) (by rw [l]; exact rel.val k)
   obtain ⟨p,hp,hp2⟩:=Option.map_eq_some_iff.mp hw
   refine wpAny_getItem_heap (tupleKind_room_in1 hu) (zA I.hok eb) dd hp ?_
   rw [hp2]
   exact h w' _ (I.tok _) rw'
theorem X3 {Q:Value->Shared->Prop} (hu:A.units+1<cLine) (I:Inv X pins σ H s) (g:Bj H a y o) (ry:RelV y u) (h:∀ s',Inv X pins σ H s'->Q (.bool o.isSome) s'):
 wpAny (model X.prog X.w) A (compareOp .In u (.ref a)) Q E s:=by
 rcases g with ⟨kvs,k,e,ey,l⟩ | ⟨kvs,k,b,e,ey,eb,l⟩
 . subst ey
   obtain ⟨z,hd,vs,rel,dd⟩:=u9 I.hok e
   refine wpAny_in_of (zy ry) hd dd.mapOf ?_
   rw [← (rel.val k).isSome_eq,← l]
   exact h _ (I.tok _)
 . subst ey
   cases (show u=Value.ref b from ry)
   obtain ⟨z,hd,xs,rel,dd⟩:=zB I.hok e
   refine wpAny_in_heap (tupleKind_room_in1 hu) (zA I.hok eb) hd dd ?_
   have q:=(rel.val k).isSome_eq
   rw [Option.isSome_map] at q
   rw [← q,← l]
   exact h _ (I.tok _)
theorem xK {h':Heap} {t':Nat} {ob:HO} (I:Inv X pins σ H s) (mu:KN (H a)) (hs:Heap.SameBut a s.heap h') (he:∃ q,h'.get? a=some q) (new:gh X.prog X.w (upd H a ob) h' a ob):
 Inv X pins σ (upd H a ob) { s with heap:=h',toks:=t' }:=
 I.write (x:=a) (e:=a) mu (.inl rfl) (fun b q hb z=>(hs.2 b hb).trans z) he new
theorem Et {H':Hp} {h':Heap} {kvs:List (Key×V)} {vs:List (Key×Value)} (z:kvs.length<=sizeLine) (hd:(a==sysModules)=false) (rel:KV kvs vs) (dd:h'.DictOf (dM P w) a vs):
 gh P w H' h' a (.dK kvs):=⟨z,hd,vs,rel,dd⟩
theorem Ln {H':Hp} {Q:Unit->Shared->Prop} (hu:A.units+1<cLine) (I:Inv X pins σ H s) (g:U5 H a y v H') (ry:RelV y u) (rv:RelV v r) (h:∀ s',Inv X pins σ H' s'->Q () s'):
 wpAny (model X.prog X.w) A (setItem (.ref a) u r) Q E s:=by
 rcases g with ⟨kvs,k,e,ey,l,eH⟩ | ⟨kvs,k,b,e,ey,eb,l,eH⟩
 . subst ey eH
   obtain ⟨z,hd,vs,rel,dd⟩:=DR I.hok e
   have hz:vs.length<=sizeLine:=by rw [← rel.length]; exact z
   have hl:(putK kvs k v).length<=sizeLine:=by have:=tZ kvs k v; omega
   refine wpAny_setItem_pairs (hsz:=hz) (zy ry) dd fun h' dd' hs=>h _ ?_
   have he:∃ q,h'.get? a=some q:=let ⟨q,_,_,hq,_⟩:=dd'; ⟨q,hq⟩
   exact xK I (by rw [e]; exact True.intro) hs he (Et hl hd (rel.put k rv) dd')
 . subst ey eH
   cases (show u=Value.ref b from ry)
   obtain ⟨z,hd,xs,rel,dd⟩:=WR I.hok e
   have hz:xs.length<=sizeLine:=by rw [← Paired.length rel]; exact z
   have hl:(putK kvs k v).length<=sizeLine:=by have:=tZ kvs k v; omega
   refine wpAny_setItem_heap (hsz:=hz) (tupleKind_room_in1 hu) (zA I.hok eb) dd fun h' dd' hs=>h _ ?_
   obtain ⟨q,es,ep,hq,h2,h3,h4,_,h5⟩:=dd'
   refine xK I (by rw [e]; exact True.intro) hs ⟨q,hq⟩ ⟨hl,hd,_,(rel.put k eb rv).keeps fun c ys ec=>?_,q,es,ep,hq,h2,h3,h4,h5⟩
   rw [cI (Wv ec e (fun z=>nomatch z))]
   exact ec
end
section
variable {X:Cx} {pins:List (Addr×Obj)} {σ:St} {H:Hp} {s:Shared} {a:Addr} {kvs:List (Key×V)} {k:Key} {u:Value} {A:Around} {E:Value->Shared->Prop}
end
theorem Hj {X:Cx} {σ:St} {H:Hp} {a:Addr} {y:V} {o:Option V} (I:Inv X pins σ H s) (g:Bj H a y o):s.TypeIs (.ref a) "dict" := by
 rcases g with ⟨kvs,k,e,_,_⟩ | ⟨kvs,k,b,e,_,_,_⟩
 . obtain ⟨_,_,vs,_,dd⟩:=u9 I.hok e
   exact dd.typeIs
 . obtain ⟨_,_,xs,_,dd⟩:=zB I.hok e
   exact dd.typeIs
section
variable {X:Cx} {o i e value:Expr} {pos pos' tpos:Pos} {td ty tv:TE}
end
theorem Oo {H:Hp} (h:Heap) (hb:sysModules<h.objs.size):gh P w H (h.push { cls:=.type "dict",data:=.dict #[] }) h.objs.size (.dK []):=
 ⟨ZC _,aa4.mpr (Ne.symm (Zb hb)),[],.nil,Heap.DictOf.new h⟩
def U6:TE:=fun _ H Q=>∀ p,H p=none->Q (.ref p) (upd H p (.dK []))
section
variable {X:Cx} {pos:Pos}
theorem Oq:PE X (.Dict [] [] pos) U6:=fun pins s σ H Q I h=>
 wpAny_Dict_empty ⟨.ref s.heap.objs.size,_,I.laid (a:=s.heap.objs.size) (o:=.dK []) (t':=s.toks) (fun _ _ q=>Yx _ q) (Yy _) (Oo s.heap I.big),rfl,h _ (I.hok.fresh (Yy _))⟩
end
noncomputable def lU (kvs more:List (Key×V)):List (Key×V):=more.foldl (fun acc kv=>putK acc kv.1 kv.2) kvs
theorem KV.merge:∀ {more:List (Key×V)} {rs:List (Key×Value)} {kvs:List (Key×V)} {vs:List (Key×Value)},KV more rs->KV kvs vs->KV (lU kvs more) (merged vs rs):=by
 intro more rs kvs vs r
 unfold KV at r
 induction r generalizing kvs vs with
 | nil=>intro q; exact q
 | @cons p q ps qs h t ih=>
  intro r0
  have e:KV (putK kvs p.1 p.2) (stored vs q.1 q.2):=by
   have:=r0.put p.1 h.2
   rw [← h.1]; exact this
  exact ih e
theorem vW:∀ (more kvs:List (Key×V)),(lU kvs more).length<=kvs.length+more.length
 | [],kvs=>by show kvs.length<=kvs.length+0; omega
 | p::r,kvs=>by
  have h1:=vW r (putK kvs p.1 p.2)
  have h2:=tZ kvs p.1 p.2
  show (lU (putK kvs p.1 p.2) r).length<=_
  rw [YB]; omega
structure M1 (X:Cx) (o:Expr) (m:Str) (apos:Pos) (e:Expr) (cpos:Pos):Prop where
 base:attributeBase o m X.env (eval o X.env)=eval o X.env
 few:((backTo cpos (starEach [e] X.env)).all (fun x=>!x.1)&&(backToKw cpos (keywordEach [] X.env)).all (fun x=>x.1.isSome)
  && decide (([e]:List Expr).length+([]:List Keyword).length+(if ([]:List Keyword).isEmpty then 0 else 1)<30))=true
 line:(apos.endLine==cpos.line)=true
 trees:backTo cpos (starEach [e] X.env)=[(false,eval e X.env)]
def Xg (H:Hp) (a:Addr):Prop:=(∃ kvs,Rd H a (.dK kvs))\/∃ kvs,Rd H a (.dT kvs)
theorem U7 {X:Cx} {σ:St} {H:Hp} {a:Addr} (I:Inv X pins σ H s) (d:Xg H a):
 s.TypeIs (.ref a) "dict" /\ (∀ b,Value.ref a=.ref b->∃ ob,s.heap.get? b=some ob/\ob.dict=none)/\(a==sysModules)=false:=by
 rcases d with ⟨kvs,e⟩ | ⟨kvs,e⟩
 . obtain ⟨_,hd,vs,_,dd⟩:=u9 I.hok e
   refine ⟨dd.typeIs,fun b q=>?_,hd⟩
   cases q
   obtain ⟨ob,_,_,h1,h2,_⟩:=dd
   exact ⟨ob,h1,h2.2.1⟩
 . obtain ⟨_,hd,xs,_,dd⟩:=zB I.hok e
   refine ⟨dd.typeIs,fun b q=>?_,hd⟩
   cases q
   obtain ⟨ob,_,_,h1,h2,_⟩:=dd
   exact ⟨ob,h1,h2.2.1⟩
section
variable {X:Cx} {pins:List (Addr×Obj)} {σ:St} {H:Hp} {s:Shared} {a:Addr} {y d:V} {u r:Value} {o:Option V} {A:Around} {E:Value->Shared->Prop}
end
section
variable {X:Cx} {o e f:Expr} {apos cpos:Pos} {td ty tx:TE}
end
section
variable {X:Cx} {pins:List (Addr×Obj)} {σ:St} {H:Hp} {s:Shared} {a:Addr} {kvs:List (Key×V)} {A:Around} {E:Value->Shared->Prop}
theorem Ot {Q:Value->Shared->Prop} (I:Inv X pins σ H s) (e:Rd H a (.dK kvs)) (h:∀ p s',H p=none->Inv X pins σ (upd H p (.dK kvs)) s'->Q (.ref p) s'):wpAny (model X.prog X.w) A (call (.type "dict") [.ref a]) Q E s:=by
 obtain ⟨z,hd,vs,rel,dd⟩:=u9 I.hok e
 refine kt_call_dict hd dd (by rw [← rel.length]; exact z) fun h' dd' hs=>?_
 refine h _ _ (I.hok.fresh (Yy _)) (I.laid (a:=s.heap.objs.size) (o:=.dK kvs) (t':=s.toks) (fun b q hq=>?_) (Yy _) (Et z (aa4.mpr (Ne.symm (Zb I.big))) rel dd'))
 exact (hs.2 b (Zb (YK hq))).trans (Yx _ hq)
end
section
variable {X:Cx} {pins:List (Addr×Obj)} {σ:St} {H:Hp} {s:Shared} {a:Addr} {y:V} {u:Value} {A:Around} {E:Value->Shared->Prop}
end
section
variable {X:Cx}
end
section
variable {κ:Type} [DecidableEq κ]
end
noncomputable def sW (names:List (Str×NameKind)) (env:Env):List (Str×Addr):=names.foldl (fun cs p=>if (p.2==NameKind.free)=true then (p.1,(env.cells.lookup p.1).getD 0)::cs else cs) []
theorem wy {env:Env}:∀ (names:List (Str×NameKind)) (cs:List (Str×Addr)) (x:Str) (c:Addr),
 (∀ y d,cs.lookup y=some d->d=(env.cells.lookup y).getD 0)->
 (names.foldl (fun cs p=>if (p.2==NameKind.free)=true then (p.1,(env.cells.lookup p.1).getD 0)::cs else cs) cs).lookup x=some c->c=(env.cells.lookup x).getD 0
 | [],cs,x,c,h,e=>h x c e
 | (n,k)::r,cs,x,c,h,e=>by
  simp only [Z3] at e
  refine wy r _ x c ?_ e
  intro y d q
  split at q
  . simp only [Zj] at q
    split at q
    . rename_i z
      have z':y=n:=by simpa using z
      rw [z']; exact (YW q).symm
    . exact h y d q
  . exact h y d q
theorem zE {env:Env}:∀ (names:List (Str×NameKind)) (cs:List (Str×Addr)) (x:Str) (c:Addr),
 (names.foldl (fun cs p=>if (p.2==NameKind.free)=true then (p.1,(env.cells.lookup p.1).getD 0)::cs else cs) cs).lookup x=some c->(∃ d,cs.lookup x=some d)\/(x,NameKind.free)∈names
 | [],cs,x,c,e=>.inl ⟨c,e⟩
 | (n,k)::r,cs,x,c,e=>by
  simp only [Z3] at e
  rcases zE r _ x c e with ⟨d,q⟩ | q
  . split at q
    . rename_i hk
      simp only [Zj] at q
      split at q
      . rename_i z
        have z':x=n:=by simpa using z
        have k':k=NameKind.free:=by simpa using hk
        right; rw [z',k']; exact Yv
      . exact .inl ⟨d,q⟩
    . exact .inl ⟨d,q⟩
  . exact .inr (YG _ q)
theorem wz {env:Env}:∀ (names:List (Str×NameKind)) (cs:List (Str×Addr)) (x:Str),
 ((∃ d,cs.lookup x=some d)\/(x,NameKind.free)∈names)->∃ c,(names.foldl (fun cs p=>if (p.2==NameKind.free)=true then (p.1,(env.cells.lookup p.1).getD 0)::cs else cs) cs).lookup x=some c
 | [],cs,x,h=>by
  rcases h with h | h
  . exact h
  . cases h
 | (n,k)::r,cs,x,h=>by
  simp only [Z3]
  refine wz r _ x ?_
  rcases h with ⟨d,h⟩ | h
  . left
    split
    . simp only [Zj]
      split
      . exact ⟨_,rfl⟩
      . exact ⟨d,h⟩
    . exact ⟨d,h⟩
  . rcases YC.mp h with e | h
    . left
      cases e
      simp
    . exact .inr h
theorem pY {env:Env}:∀ (names:List (Str×NameKind)) (cs:List (Str×Addr)),(∀ p∈names,p.2=NameKind.free->∃ c,env.cells.lookup p.1=some c)->
 (forIn names cs fun p r=>if (p.2==NameKind.free)=true then do let a ← cellOf env p.1; pure (ForInStep.yield ((p.1,a)::r)) else pure (ForInStep.yield r):Sem (List (Str×Addr)))=
  pure (names.foldl (fun cs p=>if (p.2==NameKind.free)=true then (p.1,(env.cells.lookup p.1).getD 0)::cs else cs) cs)
 | [],cs,_=>by simp
 | (n,k)::r,cs,h=>by
  rw [aaX,Z3]
  by_cases hk:(k==NameKind.free)=true
  . obtain ⟨c,hc⟩:=h (n,k) Yv (by simpa using hk)
    have hc':List.lookup n env.cells=some c:=hc
    simp only [hk,if_true,cellOf,hc',pure_bind,aaS]
    exact pY r _ fun p hp=>h p (YG _ hp)
  . simp only [hk,pure_bind]
    exact pY r _ fun p hp=>h p (YG _ hp)
theorem vX {sc:Scope} {env:Env} (h:∀ p∈sc.names,p.2=NameKind.free->∃ c,env.cells.lookup p.1=some c):closureFor sc env=pure (sW sc.names env):=by
 have:=pY (env:=env) sc.names [] h
 unfold closureFor sW
 rw [← this]
 simp only [bind_pure]
theorem oH {env:Env}:∀ (names:List (Str×NameKind)) (x:Str),
 (names.map fun (n,k)=>if (k==NameKind.free&&env.scope.kind==.function&&env.kindOf n==some .cell) then (n,NameKind.cell) else (n,k)).lookup x=
  (names.lookup x).map fun k=>if (k==NameKind.free&&env.scope.kind==.function&&env.kindOf x==some .cell) then NameKind.cell else k
 | [],x=>rfl
 | (n,k)::r,x=>by
  have ih:=oH (env:=env) r x
  simp only [YT]
  by_cases hx:x=n
  . subst hx
    split<;>simp_all
  . have hb:(x==n)=false:=aa4.mpr hx
    split<;>simp only [Zj,hb,ih]
theorem jk {x:Str} {a:Addr}:∀ (names:List (Str×NameKind)) (n:Nat) (acc:List (Str×Addr)),(cellsFrom n names acc).lookup x=some a->n<=a\/acc.lookup x=some a
 | [],_,_,h=>.inr h
 | (y,k)::r,n,acc,h=>by
  unfold cellsFrom at h
  split at h
  . rcases jk r _ _ h with q | q
    . exact .inl (Z9 q)
    . rw [Zj] at q
      split at q
      . cases q; exact .inl (Yy _)
      . exact .inr q
  . exact jk r _ _ h
theorem wA {x y:Str} {a:Addr}:∀ (names:List (Str×NameKind)) (n:Nat) (acc:List (Str×Addr)),(∀ z b,acc.lookup z=some b->b<n)->(cellsFrom n names acc).lookup x=some a->(cellsFrom n names acc).lookup y=some a->n<=a->x=y
 | [],_,_,h,h1,h2,h3=>absurd (h _ _ h1) (Nat.not_lt.mpr h3)
 | (z,k)::r,n,acc,h,h1,h2,h3=>by
  unfold cellsFrom at h1 h2
  split at h1
  . rename_i hk
    rw [aaZ hk] at h2
    have one:∀ {w:Str},(cellsFrom (n+1) r ((z,n)::acc)).lookup w=some a->a=n->w=z:=fun {w} e e'=>by
     rcases jk r _ _ e with q | q
     . exact absurd q (by rw [e']; exact Nat.not_succ_le_self n)
     . rw [Zj] at q
       split at q
       . rename_i hw; exact beq_iff_eq.mp hw
       . exact absurd (h _ _ q) (by rw [e']; exact ZS _)
    by_cases e:a=n
    . exact (one h1 e).trans (one h2 e).symm
    . refine wA r (n+1) _ (fun w b q=>?_) h1 h2 (Nat.lt_of_le_of_ne h3 (Ne.symm e))
      rw [Zj] at q
      split at q
      . cases q; exact ZV _
      . exact aaa (h _ _ q)
  . rename_i hk
    rw [aa0 hk] at h2
    exact wA r n acc h h1 h2 h3
theorem wB {x:Str} {a:Addr}:∀ (names:List (Str×NameKind)) (n:Nat) (acc:List (Str×Addr)),names.lookup x=some .cell->(cellsFrom n names acc).lookup x=some a->n<=a
 | [],_,_,h,_=>by cases h
 | (y,k)::r,n,acc,h,h1=>by
  rw [Zj] at h
  unfold cellsFrom at h1
  split at h
  . rename_i hy
    cases h
    rw [aaZ (by decide)] at h1
    rcases jk r _ _ h1 with q | q
    . exact Z9 q
    . rw [Zj,hy] at q; cases q; exact Yy _
  . split at h1
    . exact Z9 (wB r _ _ h h1)
    . exact wB r _ _ h h1
theorem wC {x:Str}:∀ (names:List (Str×NameKind)) (n:Nat) (acc:List (Str×Addr)),(∀ p∈names,p.2=.cell->p.1≠x)->(cellsFrom n names acc).lookup x=acc.lookup x
 | [],_,_,_=>rfl
 | (y,k)::r,n,acc,h=>by
  unfold cellsFrom
  split
  . rename_i hk
    rw [wC r _ _ fun p hp=>h p (YG _ hp),Zj,show (x==y)=false from aa4.mpr fun e=>h _ Yv (by simpa using hk) e.symm]
  . exact wC r _ _ fun p hp=>h p (YG _ hp)
theorem vd:∀ (names:List (Str×NameKind)) (h:Heap) (acc:List (Str×Addr)) (x:Str) (a:Addr),(cellsFrom h.objs.size names acc).lookup x=some a->h.objs.size<=a->(∀ z b,acc.lookup z=some b->b<h.objs.size)->(pushCells h names).IsCell a none
 | [],h,acc,x,a,e,hl,hb=>absurd (hb _ _ e) (Nat.not_lt.mpr hl)
 | (y,k)::r,h,acc,x,a,e,hl,hb=>by
  unfold cellsFrom at e
  unfold pushCells
  split at e
  . rename_i hk
    rw [aaZ hk]
    have hz:=aae h ({ cls:=.type "cell",data:=.cell none }:Obj)
    by_cases q:a=h.objs.size
    . subst q
      exact ⟨_,pushCells_keeps r _ _ _ (Y4 _ rfl),rfl⟩
    . refine vd r _ ((y,h.objs.size)::acc) x a (by rw [hz]; exact e) (by rw [hz]; exact Nat.lt_of_le_of_ne hl (Ne.symm q)) fun z b q'=>?_
      rw [hz]
      rw [Zj] at q'
      split at q'
      . cases q'; exact ZV _
      . exact aaa (hb _ _ q')
  . rename_i hk
    rw [aa0 hk]
    exact vd r h acc x a e hl hb
noncomputable abbrev mG (sc:Scope) (C:Addr) (env:Env):List (Str×Addr):=cellsFrom (C+1) sc.names (sW sc.names env)
structure iZ (X:Cx) (M F:List Str) (ixs:List Nat) (sc:Scope):Prop where
 kind:sc.kind=.function
 locs:∀ y∈sc.names,y.2=.local->sc.names.lookup y.1=some .local
 cel:∀ y∈sc.names,y.2=.cell->sc.names.lookup y.1=some .cell
 own:∀ p∈sc.names,p.2=.free->X.env.scope.names.lookup p.1=some .cell\/X.env.scope.names.lookup p.1=some .free
 frs:∀ x∈F,sc.names.lookup x=some .free
 ixl:ixs.length=F.length
 ixn:∀ (j i:Nat),ixs[j]?=some i->X.N[i]?=F[j]?
noncomputable abbrev wD (m:Nat) (ixs:List Nat) (σ:St):St:=List.replicate m none++ixs.map fun i=>(σ[i]?).join
noncomputable def fU (X:Cx) (M F:List Str) (sc:Scope) (C:Addr) (fp:List Addr) (s:Shared) (H:Hp):Cx where
 prog:=X.prog
 w:=X.w
 K:=X.K
 mg:=X.mg
 base:=X.base
 A:=X.A
 N:=M++F
 s₀:=s
 H0:=H
 env:=compEnvC sc (mG sc C X.env) C X.env
 outer:=X.stack
 stack:=X.stack
 ex:=fp
 fn:=fun x=>sc.names.lookup x==some .cell
 calm:=X.calm
 pn:=[]
 xe:=fun _ _=>False
section
variable {X:Cx} {pins:List (Addr×Obj)} {σ:St} {H:Hp} {s:Shared}
theorem iZ.free_of {M F:List Str} {ixs:List Nat} {sc:Scope} (c:iZ X M F ixs sc) {x:Str} {k:NameKind} (h:sc.names.lookup x=some k):(x,k)∈sc.names:=by
 generalize sc.names=l at h
 induction l with
 | nil=>cases h
 | cons p r ih=>
  rw [Zj] at h
  split at h
  . rename_i z
    have z':x=p.1:=by simpa using z
    have e:p.2=k:=YW h
    subst e
    rw [z']
    exact Yv
  . exact YG _ (ih h)
theorem yG (I:Inv X pins σ H s) {M F:List Str} {ixs:List Nat} {sc:Scope} (c:iZ X M F ixs sc):∀ p∈sc.names,p.2=NameKind.free->∃ a,X.env.cells.lookup p.1=some a:=fun p hp e=>
 I.ok.has p.1 (by rcases c.own p hp e with h | h; exact .inl h; exact .inr h)
theorem gY (I:Inv X pins σ H s) {M F:List Str} {ixs:List Nat} {sc:Scope} (c:iZ X M F ixs sc) {x:Str} {a:Addr} (h:(sW sc.names X.env).lookup x=some a):X.env.cells.lookup x=some a:=by
 have e:=wy (env:=X.env) sc.names [] x a (fun y d q=>by cases q) h
 rcases zE sc.names [] x a h with ⟨d,q⟩ | q
 . cases q
 . obtain ⟨b,hb⟩:=yG I c _ q rfl
   have hb':X.env.cells.lookup x=some b:=hb
   rw [hb',aaS] at e
   rw [hb',e]
theorem Lp (I:Inv X pins σ H s) {M F:List Str} {ixs:List Nat} {sc:Scope} (c:iZ X M F ixs sc) {x:Str} {a:Addr} (h:(sW sc.names X.env).lookup x=some a):a<s.heap.objs.size:=by
 obtain ⟨v,o,ho,_⟩:=I.cell x a (gY I c h)
 exact YK ho
theorem Ru (I:Inv X pins σ H s) {M F:List Str} {ixs:List Nat} {sc:Scope} (c:iZ X M F ixs sc) {C:Addr} {fp:List Addr} (hC:s.heap.objs.size<=C) (hf:∀ b∈fp,mz X pins H b) (ho:∀ b∈fp,∃ o,s.heap.get? b=some o):(fU X M F sc C fp s H).Ok where
 mod:=I.ok.mod
 kind:=c.kind
 glob:=I.ok.glob
 blt:=I.ok.blt
 above:=hC
 inj:=fun x y a e1 e2=>by
  have e1':(mG sc C X.env).lookup x=some a:=e1
  have e2':(mG sc C X.env).lookup y=some a:=e2
  have lt:∀ z b,(sW sc.names X.env).lookup z=some b->b<C+1:=fun z b q=>aaa (Y5 (Lp I c q) hC)
  rcases jk _ _ _ e1' with q | q
  . exact wA _ _ _ lt e1' e2' q
  . rcases jk _ _ _ e2' with q' | q'
    . exact absurd (lt _ _ q) (Nat.not_lt.mpr q')
    . exact I.ok.inj x y a (gY I c q) (gY I c q')
 has:=fun x h=>by
  have h':((sc.names.lookup x).map fun k=>if (k==NameKind.free&&X.env.scope.kind==.function&&X.env.kindOf x==some .cell) then NameKind.cell else k)=some .cell\/((sc.names.lookup x).map fun k=>if (k==NameKind.free&&X.env.scope.kind==.function&&X.env.kindOf x==some .cell) then NameKind.cell else k)=some .free:=by
   rw [← oH]; exact h
  refine aat.mp (aaR _ _ _ ?_)
  cases e:sc.names.lookup x with
  | none=>rw [e] at h'; rcases h' with h' | h'<;>cases h'
  | some k=>
   rw [e] at h'
   have m:=c.free_of e
   cases k with
   | free=>exact .inr (aat.mpr (wz sc.names [] x (.inr m)))
   | cell=>exact .inl rfl
   | _=>rcases h' with h' | h'<;>simp at h'
 cab:=fun x a h e=>Zo hC (Z9 (wB _ _ _ (beq_iff_eq.mp h) e))
 hd:=I.ok.hd
 frames:=I.ok.frames
 stk:=.inl rfl
 exf:=fun b hb=>⟨by
  obtain ⟨o,e⟩:=ho b hb
  exact Zb (Y5 (YK e) hC),fun x a e=>by
  obtain ⟨o,eo⟩:=ho b hb
  rcases jk _ _ _ (show (mG sc C X.env).lookup x=some a from e) with q | q
  . exact Zw (Y5 (YK eo) (Zo hC (Z9 q)))
  . exact (hf b hb).2.2.2.2.1 x a (gY I c q)⟩
 bs:=I.bs
 bsz:=Zo I.ok.bsz I.sz
 noex:=fun b o e hb=>by
  obtain ⟨_,_,_,h,_⟩:=hf b hb
  rcases h with h | h
  . exact I.ok.noex b o e h
  . exact absurd (Y5 (YK (I.ok.bs b o e).1) h) (ZS _)
 exfs:=fun b hb z=>by
  obtain ⟨_,h1,h2,_⟩:=hf b hb
  rcases YC.mp (I.stkSub b z) with z | z
  . exact h1 z
  . exact h2 z
 funs:=I.stack
 frf:=I.stkFree
theorem Ou (I:Inv X pins σ H s) {M F:List Str} {ixs:List Nat} {sc:Scope} (c:iZ X M F ixs sc) {fp:List Addr} (hf:∀ b∈fp,mz X pins H b) (ho:∀ b∈fp,∃ o,s.heap.get? b=some o)
 {h₁:Heap} {tk:Nat} {C:Addr} {m1:Str->Option Value} (hC:C=s.heap.objs.size+1) (hns:h₁.Ns C m1) (old:∀ b o,s.heap.get? b=some o->h₁.get? b=some o)
 (hD:h₁.get? s.heap.objs.size=some { cls:=.type "list",data:=.seq #[] 0 }) (hce:∀ x a,(mG sc C X.env).lookup x=some a->C+1<=a->h₁.IsCell a none):
 Inv (fU X M F sc C fp s H) [] (wD M.length ixs σ) (upd H s.heap.objs.size (.lst [])) { s with heap:=h₁,toks:=tk }:=by
 have hDn:H s.heap.objs.size=none:=I.hok.fresh (Yy _)
 have hCle:s.heap.objs.size<=C:=by rw [hC]; exact aaw _
 have hCn:H C=none:=I.hok.fresh hCle
 have hok:=Ru (X:=X) I c (C:=C) (fp:=fp) hCle hf ho
 refine ⟨hok,rfl,I.bare,Un.laid old (Yy _) hDn,⟨m1,hns,?_⟩,?_,?_,?_,?_,?_,?_⟩
 . intro i x v e1 e2 hv
   have e1':(M++F)[i]?=some x:=e1
   by_cases hi:i<M.length
   . rw [Y9 (by simpa using hi)] at e2
     rw [List.getElem?_replicate] at e2
     simp [hi] at e2
   . rw [YL (by omega)] at e1'
     rw [YL (by simpa using aaB hi)] at e2
     simp only [List.length_replicate,Y7] at e2
     cases q:ixs[i-M.length]? with
     | none=>rw [q] at e2; cases e2
     | some i'=>
      rw [q] at e2
      have e2':(σ[i']?).join=some v:=by simpa using e2
      have e3:σ[i']?=some (some v):=by
       cases z:σ[i']? with
       | none=>rw [z] at e2'; cases e2'
       | some y=>rw [z] at e2'; simp at e2'; rw [e2']
      have xF:x∈F:=Zq e1'
      have hlk:=c.frs x xF
      have hm:=c.free_of hlk
      have hX:=c.own _ hm rfl
      have hN:X.N[i']?=some x:=by rw [c.ixn _ _ q]; exact e1'
      obtain ⟨m,hn,hl⟩:=I.loc
      have vis:KR X.env.scope x:=by
       rcases hX with h | h
       . exact .inr (.inl h)
       . exact .inr (.inr h)
      obtain ⟨u,r,l⟩:=hl i' x v hN e3 vis
      refine ⟨u,r,.inr ⟨?_,?_⟩⟩
      . show (Env.kindOf (compEnvC sc (mG sc C X.env) C X.env) x=_)\/(Env.kindOf (compEnvC sc (mG sc C X.env) C X.env) x=_)
        have:Env.kindOf (compEnvC sc (mG sc C X.env) C X.env) x=(sc.names.lookup x).map fun k=>if (k==NameKind.free&&X.env.scope.kind==.function&&X.env.kindOf x==some .cell) then NameKind.cell else k:=oH sc.names x
        rw [this,hlk]
        simp only [Z4]
        split
        . exact .inl rfl
        . exact .inr rfl
      . rcases l with ⟨hk,_⟩ | ⟨_,cc,hcc,hcell⟩
        . rcases hX with h | h
          . have hk':X.env.scope.names.lookup x=some .local:=hk
            have h':X.env.scope.names.lookup x=some .cell:=h
            rw [h'] at hk'; cases hk'
          . have hk':X.env.scope.names.lookup x=some .local:=hk
            have h':X.env.scope.names.lookup x=some .free:=h
            rw [h'] at hk'; cases hk'
        . obtain ⟨a,ha⟩:=wz (env:=X.env) sc.names [] x (.inr hm)
          have ha':=gY I c (x:=x) (a:=a) ha
          rw [hcc] at ha'; cases ha'
          obtain ⟨oc,hoc,hd⟩:=hcell
          exact ⟨cc,(wC _ _ _ fun p hp e z=>by have:=c.cel p hp e; rw [z,hlk] at this; cases this).trans ha,oc,old _ _ hoc,hd⟩
 . intro x a e
   have e':(mG sc C X.env).lookup x=some a:=e
   rcases jk _ _ _ e' with q | q
   . exact ⟨none,hce x a e' q⟩
   . obtain ⟨v,oc,hoc,hd⟩:=I.cell x a (gY I c q)
     exact ⟨v,oc,old _ _ hoc,hd⟩
 . show upd H s.heap.objs.size (.lst []) C=none
   rw [cI (by rw [hC]; exact Nat.succ_ne_self _)]; exact hCn
 . intro x a e
   rcases jk _ _ _ (show (mG sc C X.env).lookup x=some a from e) with q | q
   . have q':s.heap.objs.size<a:=aau hCle q
     rw [cI (Zw q')]
     exact I.hok.fresh (aas q')
   . obtain ⟨v,oc,hoc,hd⟩:=I.cell x a (gY I c q)
     rw [cI (Zb (YK hoc))]
     exact I.freeC x a (gY I c q)
 . intro p hp; cases hp
 . exact I.hok.laid old (Yy _) ⟨ZC _,[],0,.nil,hD⟩
 . show (List.replicate M.length none++_).length=(M++F).length
   simp [c.ixl]
def wF (X:Cx) (ifs:List Expr) (t:TT):Prop:=
 ∀ (pins:List (Addr×Obj)) (s:Shared) (σ:St) (H:Hp) (Q:Bool->Hp->Prop),Inv X pins σ H s->t σ H Q->
  wpAny (model X.prog X.w) X.A (forIn ifs true fun c r=>if r=true then do let ok ← isTrue c X.env (eval c X.env); pure (ForInStep.yield ok) else pure (ForInStep.yield r)) (TP X pins σ Q) X.xe s
theorem Ov {X:Cx}:wF X [] (fun _ H Q=>Q true H):=fun _ s σ H Q I h=>wpAny_tests_nil ⟨H,I,h⟩
def JZ (wi:TI) (m:Nat) (ixs:List Nat) (g:TG) (tc:TT) (te:TE):TE:=fun σ H Q=>wi σ H fun J H1=>∀ p,H1 p=none->
 ∃ W:Nat->Nat->St->Hp->Prop,(∃ n,W 0 n (wD m ixs σ) (upd H1 p (.lst [])))/\∀ i n σ' H',W i n σ' H'->
  ((J.stop i H'/\Q (.ref p) H')\/(J.go i H'/\∀ x H2,J.yld i H' x H2->g x σ' H2 fun σ3 H3=>tc σ3 H3 fun b H4=>
    if b=true then te σ3 H4 fun v H5=>∃ ys,H5 p=some (.lst ys)/\ys.length<sizeLine/\∃ n',n'<n/\W (i+1) n' σ3 (upd H5 p (.lst (ys++[v])))
    else ∃ n',n'<n/\W (i+1) n' σ3 H4))
def CI (X:Cx) (fp:List Addr) (tn:Nat->Heap->Prop) (W:Nat->Nat->St->Hp->Prop) (n:Nat) (s:Shared):Prop:=∃ i σ H,Inv X [] σ H s/\tn i s.heap/\(∀ b∈fp,H b=none)/\W i n σ H
theorem Eu {P:Prop} (h:∀ G:Prop,(P->G)->G):P:=h P id
theorem Lq {D it:Addr} {fp:List Addr} {tn:Nat->Heap->Prop} {J:It} {tg iter elt:Expr} {ifs:List Expr} {sc:Scope} {pos:Pos} {g:TG} {tc:TT} {te:TE} {W:Nat->Nat->St->Hp->Prop} {F:Hp->Prop} (hcalm:X.calm=true) (T:Turn X.prog X.w X.K tg J fp it tn) (hg:PG X tg g) (hc:wF X ifs tc) (he:PE X elt te) (hx:∀ u s,X.xe u s->False)
 (stat:∀ {H':Hp},(∀ b∈fp,H' b=none)->∀ b∈fp,mz X [] H' b)
 (turn:∀ i n σ' H',W i n σ' H'->((J.stop i H'/\F H')\/(J.go i H'/\∀ x H2,J.yld i H' x H2->g x σ' H2 fun σ3 H3=>tc σ3 H3 fun b H4=>
   if b=true then te σ3 H4 fun v H5=>∃ ys,H5 D=some (.lst ys)/\ys.length<sizeLine/\∃ n',n'<n/\W (i+1) n' σ3 (upd H5 D (.lst (ys++[v])))
   else ∃ n',n'<n/\W (i+1) n' σ3 H4)))
 {R:Result->Shared->Prop} (hR:∀ σ' H' s',Inv X [] σ' H' s'->F H'->R (.ok .next) s') (n:Nat) (s':Shared) (hI:CI X fp tn W n s'):
 wpAny (model X.prog X.w) X.A (compTurn (.ListComp elt [⟨tg,iter,ifs,0⟩] sc pos) 0 (.ref it) (.ref D) X.env)
  (fun fin s'=>match fin with | .done f=>R (.ok f) s' | .again c'=>c'=.compLoop (.ListComp elt [⟨tg,iter,ifs,0⟩] sc pos) 0 (.ref it) (.ref D) X.env/\∃ m,m<n/\CI X fp tn W m s') (fun _ _=>False) s':=by
 refine Eu fun G kG=>?_
 obtain ⟨i,σ',H',I',st',fr',w'⟩:=hI
 rw [compTurn_list] at kG
 rcases turn i n σ' H' w' with ⟨stop,qn⟩ | ⟨go,step⟩
 . refine kG (aaY (wpAny_standAt (aaY (wpAny_mono (T.done X rfl rfl rfl hcalm i [] s' σ' H' (fun _ _=>False) I' (stat fr') st' stop) (fun r s4 h4=>?_) fun _ _ f=>f))))
   obtain ⟨hr,I4⟩:=h4
   subst hr
   exact aa1 (hR σ' H' _ I4 qn)
 . refine kG (aaY (wpAny_standAt (aaY (wpAny_mono (T.item X rfl rfl rfl hcalm i [] s' σ' H' (fun _ _=>False) I' (stat fr') st' go) (fun r s4 h4=>?_) fun _ _ f=>f))))
   obtain ⟨u,hr,h4⟩:=h4
   subst hr
   refine aaY (wpAny_mono h4 (fun _ s5 h5=>?_) fun _ _ f=>f)
   refine Eu fun G kG=>?_
   obtain ⟨x,H5,I5,r5,y5,st5,fr5⟩:=h5
   have again:∀ {s7:Shared} {σ7:St} {H7:Hp} {n':Nat},Inv X ([]++v9 fp s5.heap) σ7 H7 s7->W (i+1) n' σ7 H7->CI X fp tn W n' s7:=fun {s7 σ7 H7 n'} I7 w7=>by
    have pn:∀ b∈fp,∀ o,s5.heap.get? b=some o->s7.heap.get? b=some o/\H7 b=none:=fun b hb o e=>by
     have:=I7.pin (b,o) (Zd _ (Zd _ (uX hb e)))
     exact ⟨this.1,this.2.1⟩
    refine ⟨i+1,σ7,H7,I7.unpinned,T.keep _ _ _ st5 fun b hb o e=>(pn b hb o e).1,fun b hb=>?_,w7⟩
    obtain ⟨o,e,d⟩:=T.obj _ _ st5 b hb
    exact (pn b hb o e).2
   refine kG (aaY (wpAny_mono (hg _ s5 σ' H5 x u _ (I5.pinned (stat fr5) (T.obj _ _ st5)) r5 (step x H5 y5)) (fun _ s6 h6=>?_) hx))
   refine Eu fun G kG=>?_
   obtain ⟨σ6,H6,I6,q6⟩:=h6
   refine kG (aaY (wpAny_mono (hc _ s6 σ6 H6 _ I6 q6) (fun ok s7 h7=>?_) hx))
   refine Eu fun G kG=>?_
   obtain ⟨H7,I7,q7⟩:=h7
   cases ok with
   | false=>
    rw [aa0 Ze] at q7
    obtain ⟨n',hn',w7⟩:=q7
    exact kG (aa1 ⟨rfl,n',hn',again I7 w7⟩)
   | true=>
    rw [aaZ rfl] at q7
    refine kG (aaY (aaY (wpAny_mono (he _ s7 σ6 H7 _ I7 q7) (fun v s8 h8=>?_) hx)))
    refine Eu fun G kG=>?_
    obtain ⟨y,H8,I8,r8,ys,hp8,hz,n',hn',w8⟩:=h8
    refine kG (aaY (wpAny_mono (iY (X:=X) _ s8 σ6 H8 (.ref D) [y] (.ref D) [v] (fun _ H9=>W (i+1) n' σ6 H9) I8 rfl (.cons r8 .nil) ⟨_,ys,y,rfl,rfl,hp8,hz,w8⟩) (fun _ s9 h9=>?_) hx))
    obtain ⟨_,H9,I9,_,w9⟩:=h9
    exact aa1 (aa1 ⟨rfl,n',hn',again I9 w9⟩)
theorem Rv {Md:Model} {sc:Scope} {gl:Addr} {clo:List (Str×Addr)} {qual:Str} {env:Env} {Q:Env->Shared->Prop}
 (h:Q (newEnv sc s.heap.objs.size gl (cellsFrom (s.heap.objs.size+1) sc.names clo) qual none .none (some env) builtinsNs) { s with heap:=pushCells (s.heap.push { cls:=.type "dict",data:=.dict #[] }) sc.names }):
 wpAny Md A (newFunctionEnv sc gl clo [] qual none .none (some env)) Q E s:=by
 simp only [newFunctionEnv,Option.isSome_some,if_true]
 refine aaY (wpAny_alloc ?_)
 refine aaY (wpAny_layCells _ (fun name kind cells=>by cases hkc:kind==NameKind.cell<;>simp [hkc]) _ _ _ _ ?_)
 rw [show ({ s with heap:=s.heap.push { cls:=.type "dict",data:=.dict #[] } }:Shared).heap.objs.size=s.heap.objs.size+1 from aae ..]
 exact aaY (aa1 (aa1 h))
theorem zF {M F:List Str} {ixs:List Nat} {sc:Scope} {tg iter elt:Expr} {ifs:List Expr} {g:TG} {tc:TT} {te:TE} {pos:Pos} (hcalm:X.calm=true) (c:iZ X M F ixs sc)
 (hg:∀ C fp s H,PG (fU X M F sc C fp s H) tg g) (hc:∀ C fp s H,wF (fU X M F sc C fp s H) ifs tc) (he:∀ C fp s H,PE (fU X M F sc C fp s H) elt te)
 {fp:List Addr} {it:Addr} {tn:Nat->Heap->Prop} {J:It} {Q:VK} (I:Inv X pins σ H s) (T:Turn X.prog X.w X.K tg J fp it tn) (st:tn 0 s.heap) (hf:∀ b∈fp,mz X pins H b)
 (h:∀ p,H p=none->∃ W:Nat->Nat->St->Hp->Prop,(∃ n,W 0 n (wD M.length ixs σ) (upd H p (.lst [])))/\∀ i n σ' H',W i n σ' H'->
   ((J.stop i H'/\Q (.ref p) H')\/(J.go i H'/\∀ x H2,J.yld i H' x H2->g x σ' H2 fun σ3 H3=>tc σ3 H3 fun b H4=>
     if b=true then te σ3 H4 fun v H5=>∃ ys,H5 p=some (.lst ys)/\ys.length<sizeLine/\∃ n',n'<n/\W (i+1) n' σ3 (upd H5 p (.lst (ys++[v])))
     else ∃ n',n'<n/\W (i+1) n' σ3 H4)))
 {RR:Value->Addr->Result->Shared->Prop} {E:Value->Shared->Prop}
 (hR:∀ D C s' H' m,s.heap.get? D=none->s.heap.get? C=none->s.heap.objs.size<=C->H D=none->D≠C->H' C=none->s'.heap.Ns C m->s'.os=s.os->AllBare s'.gens->Un (frs X.stack) fp H H' s.heap s'.heap->iz X.prog X.w H' s'.heap->Q (.ref D) H'->RR (.ref D) C (.ok .next) s'):
 wpAny (model X.prog X.w) X.A (newList []) (fun acc s₃=>wpAny (model X.prog X.w) X.A (newFunctionEnv sc X.env.globals (sW sc.names X.env) [] X.env.qual none .none (some X.env)) (fun cenv s₄=>
  codeAny (model X.prog X.w) X.A (.compStart (.ListComp elt [⟨tg,iter,ifs,0⟩] sc pos) 0 (.ref it) acc { cenv with scope:=relabel sc X.env }) (RR acc cenv.locals) s₄) E s₃) E s:=by
 refine wpAny_newObj_type (Rv ?_)
 dsimp only
 generalize hH2:s.heap.push { cls:=.type "list",dict:=none,data:=.seq ([]:List Value).toArray }=H2
 generalize hh1:pushCells (H2.push { cls:=.type "dict",data:=.dict #[] }) sc.names=h₁
 have kp:∀ b o,H2.get? b=some o->h₁.get? b=some o:=fun b o e=>by rw [← hh1]; exact pushCells_keeps _ _ _ _ (Yx _ e)
 have hns₁:h₁.Ns H2.objs.size (fun _=>none):=by rw [← hh1]; exact (Heap.Ns.new H2 (.type "dict")).keeps (pushCells_keeps _ _)
 have hC:H2.objs.size=s.heap.objs.size+1:=by rw [← hH2,aae]
 have hDC:s.heap.objs.size≠H2.objs.size:=by rw [hC]; exact Zb (ZV _)
 have below:∀ b,b<s.heap.objs.size->b≠H2.objs.size:=fun b hb=>by rw [hC]; exact Zb (aaa hb)
 have old:∀ b o,s.heap.get? b=some o->h₁.get? b=some o:=fun b o e=>kp b o (hH2▸Yx _ e)
 have hD:h₁.get? s.heap.objs.size=some { cls:=.type "list",data:=.seq #[] 0 }:=kp _ _ (hH2▸Y4 _ rfl)
 have fresh:∀ a,s.heap.objs.size<=a->s.heap.get? a=none:=fun a ha=>by
  cases e:s.heap.get? a with
  | none=>rfl
  | some o'=>exact absurd (YK e) (Nat.not_lt.mpr ha)
 have hDn:H s.heap.objs.size=none:=I.hok.fresh (Yy _)
 have hfo:∀ b∈fp,∃ o,s.heap.get? b=some o:=fun b hb=>let ⟨o,e,_⟩:=T.obj 0 _ st b hb; ⟨o,e⟩
 have hz2:(H2.push { cls:=.type "dict",data:=.dict #[] }).objs.size=H2.objs.size+1:=aae ..
 have hce:∀ x a,(mG sc H2.objs.size X.env).lookup x=some a->H2.objs.size+1<=a->h₁.IsCell a none:=fun x a e q=>by
  rw [← hh1]
  exact vd _ _ (sW sc.names X.env) x a (by rw [hz2]; exact e) (by rw [hz2]; exact q) fun z b q'=>by rw [hz2,hC]; exact aaa (aaa (Lp I c q'))
 have I0:=Ou I c hf hfo (tk:=s.toks) hC hns₁ old hD hce
 obtain ⟨W,⟨n0,w0⟩,turn⟩:=h _ hDn
 have nf:∀ b∈fp,b≠s.heap.objs.size:=fun b hb=>by obtain ⟨o,e⟩:=hfo b hb; exact Zb (YK e)
 have stat:∀ {H':Hp},(∀ b∈fp,H' b=none)->∀ b∈fp,mz (fU X M F sc H2.objs.size fp s H) [] H' b:=fun {H'} hn b hb=>by
  obtain ⟨f0,f1,f2,f3,f4,f5⟩:=hf b hb
  obtain ⟨o,e⟩:=hfo b hb
  refine ⟨hn b hb,below b (YK e),fun z=>?_,.inl hb,fun x a e'=>by
   rcases jk _ _ _ (show (mG sc H2.objs.size X.env).lookup x=some a from e') with q | q
   . exact Zw (Y5 (YK e) (Zo (by rw [hC]; exact aaw _) (Z9 q)))
   . exact f4 x a (gY I c q),fun p hp=>by cases hp⟩
  rcases YC.mp (I.stkSub b z) with z | z
  . exact f1 z
  . exact f2 z
 have st1:tn 0 h₁:=T.keep 0 _ _ st fun b hb o e=>old b o e
 have loop:codeAny (model X.prog X.w) X.A (.compLoop (.ListComp elt [⟨tg,iter,ifs,0⟩] sc pos) 0 (.ref it) (.ref s.heap.objs.size) (compEnvC sc (mG sc H2.objs.size X.env) H2.objs.size X.env))
  (RR (.ref s.heap.objs.size) H2.objs.size) { s with heap:=h₁ }:=by
  refine codeAny_loop rfl (CI (fU X M F sc H2.objs.size fp s H) fp tn W) (fun n s' hI=>?_) n0 ⟨0,_,_,I0,st1,fun b hb=>by rw [cI (nf b hb)]; exact (hf b hb).1,w0⟩
  show wpAny _ X.A ((compTurn (.ListComp elt [⟨tg,iter,ifs,0⟩] sc pos) 0 (.ref it) (.ref s.heap.objs.size) (compEnvC sc (mG sc H2.objs.size X.env) H2.objs.size X.env)).onRaise (fun x=>do noteFrame x (compEnvC sc (mG sc H2.objs.size X.env) H2.objs.size X.env); theTreesLotGoes x)) _ _ s'
  refine wpAny_noted (wpAny_mono (Lq (X:=fU X M F sc H2.objs.size fp s H) hcalm T (hg _ fp s H) (hc _ fp s H) (he _ fp s H) (fun _ _ f=>f) stat turn (fun σ' H' s4 I4 qn=>?_) n s' hI) (fun _ _ h=>h) fun _ _ f=>f.elim)
  obtain ⟨m4,hn4,_⟩:=I4.loc
  exact hR _ _ _ H' m4 (fresh _ (Yy _)) (fresh _ (by rw [hC]; exact aaw _)) (by rw [hC]; exact aaw _) hDn hDC I4.free hn4 I4.os I4.bare I4.base I4.hok qn
 exact codeAny_compStart_list loop (T.self _ 0 _ _ _ st1 loop)
end
section
variable {X:Cx}
theorem HJ {σ σ':St} {H H':Hp} {s s':Shared} {C:Addr} (I:Inv X pins σ H s) (hC:s.heap.get? C=none) (I':Inv X pins σ' H' s') (hn:H' C=none) {h':Heap} {m:Str->Option Value} (hs:Heap.SameBut C s'.heap h')
 (hsz:s.heap.objs.size<=C):Inv X pins σ' H' { s' with heap:=h' }:=by
 have ne:∀ a o,s.heap.get? a=some o->C≠a:=fun a o e z=>by rw [z,e] at hC; cases hC
 refine I'.turned (t':=s'.toks) (it:=C) (fun b o hb e=>(hs.2 b hb).trans e) hn ?_ (.inr (Zo I.sz hsz)) (fun x c e=>?_) (fun p hp=>?_)
 . exact Zw (Y5 I.lt hsz)
 . obtain ⟨v,o,ho,_⟩:=I.cell x c e
   exact Ne.symm (ne _ _ ho)
 . exact Ne.symm (ne _ _ (I.pin p hp).1)
theorem Rx (M F:List Str) (ixs:List Nat) {sc:Scope} {tg iter elt:Expr} {ifs:List Expr} {wi:TI} {g:TG} {tc:TT} {te:TE} {pos:Pos} (hcalm:X.calm=true) (c:iZ X M F ixs sc) (hi:PI X tg iter wi)
 (hg:∀ C fp s H,PG (fU X M F sc C fp s H) tg g) (hc:∀ C fp s H,wF (fU X M F sc C fp s H) ifs tc) (he:∀ C fp s H,PE (fU X M F sc C fp s H) elt te)
 (hs:∀ x,foldedSetIterable iter X.env x=pure x:=by intro _; rfl):PE X (.ListComp elt [⟨tg,iter,ifs,0⟩] sc pos) (JZ wi M.length ixs g tc te):=by
 intro pins s σ H Q I h
 rw [eval_ListComp]
 refine wpAny_comprehension_free (use:=none) rfl hs (vX (yG I c)) c.kind c.locs (cj (hi pins s σ H _ I h) fun v s1 h1=>cj h1 fun itv s2 h2=>?_)
 obtain ⟨it,fp,tn,J,H2,e,I2,T,st2,f2,q⟩:=h2
 subst e
 refine zF (Q:=Q) hcalm c hg hc he I2 T st2 f2 q (RR:=fun acc C=>compPost (model X.prog X.w) X.A X.xe none (EP X pins σ Q) acc C) ?_
 intro D C s' H' m hD hC hsz hDn hDC hCn hns hos hbare hun hok q'
 have I3:Inv X pins σ H' s':=I2.call' hos hun hok hbare fun b hb=>by
  obtain ⟨_,g1,g2,g3,g4,g5⟩:=f2 b hb
  exact ⟨g3,g1,g4,g5⟩
 exact ⟨m,hns,fun h' hs'=>⟨.ref D,H',HJ (m:=m) I2 hC I3 hCn hs' hsz,rfl,q'⟩⟩
theorem Ry {i:Nat} (M F:List Str) (ixs:List Nat) {x:Str} {sc:Scope} {tg iter elt:Expr} {ifs:List Expr} {wi:TI} {g:TG} {tc:TT} {te:TE} {pos pos' pos2:Pos} (hN:X.N.Nodup) (hix:X.N[i]?=some x) (hx:X.env.scope.names.lookup x=some .local)
 (hcalm:X.calm=true) (c:iZ X M F ixs sc) (hi:PI X tg iter wi)
 (hg:∀ C fp s H,PG (fU X M F sc C fp s H) tg g) (hc:∀ C fp s H,wF (fU X M F sc C fp s H) ifs tc) (he:∀ C fp s H,PE (fU X M F sc C fp s H) elt te)
 (hsw:swapsWith (.ListComp elt [⟨tg,iter,ifs,0⟩] sc pos) (some (.Name x pos')) pos2.line X.env=pure true:=by rfl)
 (hs:∀ x,foldedSetIterable iter X.env x=pure x:=by intro _; rfl):PS X (.Assign [.Name x pos'] (.ListComp elt [⟨tg,iter,ifs,0⟩] sc pos) pos2) (fun D σ H=>JZ wi M.length ixs g tc te σ H fun v H1=>D.nx (σ.set i (some v)) H1):=by
 intro pins s σ H D I h
 rw [exec_Assign_Name_used _ _ _ _ hsw]
 refine aaY (wpAny_standAt (aaY ?_))
 show wpAny _ X.A (do let _ ← comprehension (.ListComp elt [⟨tg,iter,ifs,0⟩] sc pos) sc X.env _ (newList []) false (eval iter X.env) (some (assign (.Name x pos') X.env))) _ _ s
 refine aaY (wpAny_mono (wpAny_comprehension_free (use:=some (assign (.Name x pos') X.env)) (Q:=fun _ s'=>SP X pins D .next s') rfl hs (vX (yG I c)) c.kind c.locs
  (cj (hi pins s σ H _ I h) fun v s1 h1=>cj h1 fun itv s2 h2=>?_)) (fun _ s' hq=>aa1 (aa1 hq)) fun _ _ e=>e)
 obtain ⟨it,fp,tn,J,H2,e,I2,T,st2,f2,q⟩:=h2
 subst e
 refine zF (Q:=fun v H1=>D.nx (σ.set i (some v)) H1) hcalm c hg hc he I2 T st2 f2 q (RR:=fun acc C=>compPost (model X.prog X.w) X.A X.xe (some (assign (.Name x pos') X.env)) (fun _ s'=>SP X pins D .next s') acc C) ?_
 intro D' C s' H' m hD hC hsz hDn hDC hCn hns hos hbare hun hok q'
 have I3:Inv X pins σ H' s':=I2.call' hos hun hok hbare fun b hb=>by
  obtain ⟨_,g1,g2,g3,g4,g5⟩:=f2 b hb
  exact ⟨g3,g1,g4,g5⟩
 have hLC:C≠X.env.locals:=Zw (Y5 I2.lt hsz)
 show wpAny _ X.A (assign (.Name x pos') X.env (.ref D')) _ _ _
 refine wpAny_assign_Name (Ci (v:=.ref D') I3 hN hix (.inl hx) rfl (fun s'' I4 ⟨a,hsb,ha⟩=>?_) (.inr hx))
 have hCa:C≠a:=by
  rcases ha with ha | ha
  . rw [ha]; exact hLC
  . obtain ⟨v,o,ho,_⟩:=I2.cell x a ha
    intro z; rw [z,ho] at hC; cases hC
 exact ⟨m,hns.sameBut hsb hCa,fun h' hs'=>⟨_,H',HJ (m:=m) I2 hC I4 hCn hs' hsz,q'⟩⟩
end
theorem Ew (l:Addr) (items:Array Value) (n:Nat) (b:Addr) (items2:Array Value) (n2:Nat) (dd2:Option Addr) (sl2:Array (Option Value)) (hc0:¬(!items.isEmpty&&Builtin.List.listTooLong (items.size+items2.size))=true) (hc1:items.size<=sizeLine) (hs2:items.size+items2.size<=sizeLine+1):
 Meets (Builtin.«list.extend» ⟨[.ref l,.ref b],[]⟩) (fun _ R s=>s.heap.get? l=some { cls:=.type "list",dict:=none,data:=.seq items n,slots:=#[] }/\s.heap.get? b=some { cls:=.type "list",dict:=dd2,data:=.seq items2 n2,slots:=sl2 }/\R (.ok (.ret Value.none)) { s with heap:=s.heap.update l (Obj.mapSeq fun x=>x++items2),toks:=s.toks }):=
 .of_wp fun prog w A R s h=>by
  obtain ⟨hp,g,d,tk,os⟩:=s; obtain ⟨hl,hb,h⟩:=h; have f1:=AutoSeq1.idx_int; have f2:=AutoSeq1.sub_tuple_tuple; have f3:=AutoSeq1.sub_list_list; have f4:=AutoSeq1.sub_tuple_list; have f5:=AutoSeq1.sub_list_tuple;
  have hz':(items++items2).size<=sizeLine+1:=by rw [Array.size_append]; exact hs2
  wp_walk using (wpAny_updateSeq hl rfl (hz:=hc1) (_hz':=hz')),AutoSeq1.wpAny_loadPart' hl,AutoSeq1.wpAny_loadPart' hb; exact ⟨_,rfl,h⟩
section
variable {X:Cx}
theorem Rz:fB X (binaryOp .Add) (fun x y H Q=>∃ a b xs ys,x=.ref a/\y=.ref b/\bU X.K H a xs/\bU X.K H b ys/\xs.length+ys.length<=sizeLine/\∀ p,H p=none->Q (.ref p) (upd H p (.lst (xs++ys)))):=by
 intro pins s σ H x y v u Q I rx ry h
 obtain ⟨a,b,xs,ys,rfl,rfl,ha,hb,hz,q⟩:=h
 cases rx
 cases ry
 obtain ⟨its,r1,⟨⟨c1,d1,dt1,s1⟩,n1,g1,e1,e2,e3⟩,_⟩:=I.list ha
 obtain ⟨its2,r2,⟨⟨c2,d2,dt2,s2⟩,n2,g2,f1,f2,f3⟩,_⟩:=I.list hb
 simp only at e1 e2 e3 f1 f2 f3
 subst e1 e2 e3 f1 f2 f3
 have hl1:=r1.length
 have hl2:=r2.length
 refine concat_meets ⟨_,g1,rfl⟩ ⟨_,g2,rfl⟩ noFill_list_add seq_list_add F.slot_list_add F.entry_list_add (F.args_list_add_2 _ _) (list_addW a b its.toArray its2.toArray n1 n2 none none s1 s2 (by rw [YH,YH]; omega)) ⟨g1,g2,?_⟩
 have ea:its.toArray++its2.toArray=(its++its2).toArray:=by simp
 rw [ea]
 exact ⟨.ref _,_,I.lnew (t':=s.toks) (r1.append r2) (by rw [YD]; omega),rfl,q _ I.fresh⟩
def yH (K:FG):V->List V->Hp->VK->Prop:=fun x vs H Q=>∃ l b xs zs,x=.ref l/\vs=[.ref b]/\H l=some (.lst xs)/\bU K H b zs/\xs.length+zs.length<=sizeLine/\Q .non (upd H l (.lst (xs++zs)))
theorem zG:QB X "list.extend" (yH X.K):=by
 intro pins s σ H x vs v us Q I rx rv h
 obtain ⟨l,b,xs,zs,rfl,rfl,hH,hB,hz,q⟩:=h
 cases rx
 obtain ⟨u,rfl,ru⟩:=rv.one
 cases ru
 obtain ⟨z,its,n,r,hl,e⟩:=I.lstM hH
 obtain ⟨its2,r2,⟨⟨c2,d2,dt2,s2⟩,n2,g2,f1,f2,f3⟩,_⟩:=I.list hB
 simp only at f1 f2 f3
 subst f1 f2 f3
 have hl2:=r2.length
 have hsz:its.toArray.size+its2.toArray.size<=sizeLine:=by rw [YH,YH]; omega
 have hlong:¬ (!its.toArray.isEmpty&&Builtin.List.listTooLong (its.toArray.size+its2.toArray.size))=true:=by
  rw [Oj hsz,Bool.and_false]
  exact Ze
 refine call_meets F.slot_list_extend ⟨_,e,rfl⟩ F.entry_list_extend (F.args_list_extend_2 _ _)
  (Ew l its.toArray n b its2.toArray n2 none s2 hlong (by rw [YH]; omega) (by omega)) ⟨e,g2,?_⟩
 refine ⟨.non,_,I.lset (its':=its++its2) hH e (by simp) (r.append r2) ?_,rfl,q⟩
 rw [YD]
 omega
end
noncomputable def ut (z:Str) (lo hi:Option Int):Str:=⟨((z.cps.toList.drop (HT.sIx z.length 0 lo)).take (HT.sIx z.length z.length hi-HT.sIx z.length 0 lo)).toArray⟩
theorem WT (lo hi:Option Int) (n:Nat):Builtin.Str.strSliceIndices lo hi 1 n=(List.range (HT.sIx n n hi-HT.sIx n 0 lo)).map (HT.sIx n 0 lo+·):=by
 have e1:∀ (o:Option Int) (d:Nat),d<=n->(match o with | none=>(d:Int) | some i=>max 0 (min (if i<0 then i+(n:Int) else i) (n:Int)))=((HT.sIx n d o:Nat):Int):=fun o d hd=>by
  cases o with
  | none=>rfl
  | some i=>
   simp only [HT.sIx]
   by_cases h:i<0
   . simp only [h,if_true]<;>omega
   . simp only [h,if_false]<;>omega
 rw [← sliceRange_one]
 have a1:=e1 lo 0 (ZC _)
 have a2:=e1 hi n (Yy _)
 unfold Builtin.Str.strSliceIndices
 rw [← a1,← a2]
 cases lo<;>cases hi<;>simp
theorem Lr (z:Str) (lo hi:Option Int):Txt.slice z lo hi=ut z lo hi:=by
 unfold Txt.slice ut
 rw [WT]
 have hp:=pick_run z.cps (HT.sIx z.length 0 lo) (HT.sIx z.length z.length hi-HT.sIx z.length 0 lo)
 split
 . rename_i h
   have h2:(List.map (HT.sIx z.length 0 lo+·) (List.range (HT.sIx z.length z.length hi-HT.sIx z.length 0 lo))).length=z.length:=by simpa using h
   rw [Yw,ZJ] at h2
   have hh:HT.sIx z.length z.length hi<=z.length:=HT.sIx_le _ _ (Yy _) hi
   have hl0:HT.sIx z.length 0 lo<=z.length:=HT.sIx_le _ _ (ZC _) lo
   have hl:HT.sIx z.length 0 lo=0:=by omega
   rw [h2,hl,List.drop_zero,aam (by rw [aar]; exact Yy _)]
 . rw [hp]
def X4:V->Option Int->Option Int->Hp->VK->Prop:=fun x lo hi H Q=>∃ z,x=.str z/\z.length<=sizeLine/\Q (.str (ut z lo hi)) H
section
variable {X:Cx}
theorem U8:Cu X X4:=by
 intro pins s σ H x v vl vu lo hi sl Q I rx hs pl pu h
 obtain ⟨z,rfl,hz,q⟩:=h
 obtain ⟨t,rfl⟩:=rx
 refine ⟨"str",_,F.slot_str_getitem.lookup,typeIs_str _ _ _,?_⟩
 have go:∀ (l u:Option (Int×Tok)),vl=partValue l->vu=partValue u->l.map (·.1)=lo->u.map (·.1)=hi->wpAny (model X.prog X.w) X.A (getItem (.str z t) (.ref sl)) (EP X pins σ Q) X.xe s:=fun l u e1 e2 e3 e4=>by
  subst e1 e2 e3 e4
  refine wpAny_getItem_str_slice (l:=l) (u:=u) (st:=none) hs rfl (post_val_or_str ⟨Zo (Txt.slice_le z _ _) hz,fun t' k=>?_⟩)
  refine ⟨.str (ut z (l.map (·.1)) (u.map (·.1))),H,I.tok _,⟨t',?_⟩,q⟩
  rw [← Lr]
  rfl
 cases pl with
 | none=>cases pu with
  | none=>exact go none none rfl rfl rfl rfl
  | int j tj=>exact go none (some (j,tj)) rfl rfl rfl rfl
 | int i ti=>cases pu with
  | none=>exact go (some (i,ti)) none rfl rfl rfl rfl
  | int j tj=>exact go (some (i,ti)) (some (j,tj)) rfl rfl rfl rfl
end
section
variable {X:Cx} {pins:List (Addr×Obj)} {σ:St} {H:Hp} {s:Shared} {h':Heap}
theorem Ow {h:Heap} {a:Addr} {o:Obj} (e:h.get? a=some o):o.isFreed=false:=by
 unfold Heap.get? at e
 split at e
 . cases e
 . rename_i hne
   obtain ⟨c,d,dt,sl⟩:=o
   cases dt<;>first | rfl | exact (hne _ _ _ e).elim
theorem Inv.turned2 {t':Nat} {e it:Addr} (I:Inv X pins σ H s) (hei:e≠it) (k:∀ b o,b≠e->b≠it->s.heap.get? b=some o->h'.get? b=some o) (fe:mz X pins H e) (fi:mz X pins H it) (he:∃ o,h'.get? e=some o) (hes:∃ o,s.heap.get? e=some o):Inv X pins σ H { s with heap:=h',toks:=t' }:=by
 obtain ⟨o,ho⟩:=he
 obtain ⟨o0,ho0⟩:=hes
 obtain ⟨a0,a1,a2,a3,a4,a5⟩:=fe
 obtain ⟨b0,b1,b2,b3,b4,b5⟩:=fi
 have I1:Inv X pins σ H { s with heap:=s.heap.update e (fun _=>o),toks:=s.toks }:=I.turned (it:=e) (fun b u hb q=>(aal s.heap (fun _=>o) (Ne.symm hb)).trans q) a0 a1 a3 a4 a5
 refine Inv.turned (s:={ s with heap:=s.heap.update e (fun _=>o),toks:=s.toks }) (it:=it) (h':=h') (t':=t') I1 (fun b u hb q=>?_) b0 b1 b3 b4 b5
 by_cases hbe:b=e
 . subst hbe
   have q':(s.heap.update b (fun _=>o)).get? b=some u:=q
   rw [aao (fun _=>o) ho0 (Ow ho)] at q'
   cases q'
   exact ho
 . have q':(s.heap.update e (fun _=>o)).get? b=some u:=q
   rw [aal s.heap (fun _=>o) (Ne.symm hbe)] at q'
   exact k b u hbe hb q'
end
noncomputable def U9 (K:FG) (a:Addr):It:=
 ⟨fun i H=>∃ xs x,bU K H a xs/\xs[i]?=some x,fun i H x H'=>∃ T y,H T=none/\x=.ref T/\H'=upd H T (.tup [.int i,y])/\∀ xs,bU K H a xs->xs[i]?=some y,fun i H=>∃ xs,bU K H a xs/\xs.length<=i⟩
theorem Ls {K:FG} {elts:List Expr} {x1} {pos:Pos} (a e it:Addr) (hei:e≠it):Turn P w K (.Tuple elts x1 pos) (U9 K a) [e,it] e (fun i h=>(∃ old,IsEnum h e it i old)/\h.IsListIter it a i) where
 mem:=by simp
 obj:=fun i h st b hb=>by
  obtain ⟨⟨old,he⟩,hit⟩:=st
  rcases YC.mp hb with rfl | hb
  . exact ⟨_,he,fun v z=>by
     have z':Data.fields _=Data.cell v:=z
     cases z'⟩
  . have eb:b=it:=by simpa using hb
    subst eb
    obtain ⟨o,ho,c,d⟩:=hit
    exact ⟨o,ho,fun v z=>by rw [d] at z; cases z⟩
 keep:=fun i h h' st k=>by
  obtain ⟨⟨old,he⟩,hit⟩:=st
  exact ⟨⟨old,k e (by simp) _ he⟩,hit.at fun o q=>k it (by simp) o q⟩
 item:=by
  intro X hP hw hK hc i pins s σ H E I hf st hg
  subst hP hw hK
  obtain ⟨⟨old,he⟩,hit⟩:=st
  obtain ⟨xs,x,hq,hx⟩:=hg
  obtain ⟨its,rv,p,hz⟩:=I.list hq
  obtain ⟨u,hu,ru⟩:=rv.get hx
  have fe:=hf e (by simp)
  have fi:=hf it (by simp)
  have helt:e<s.heap.objs.size:=YK he
  have hilt:it<s.heap.objs.size:=by obtain ⟨_,q,_⟩:=hit; exact YK q
  have hTn:H s.heap.objs.size=none:=I.hok.fresh (Yy _)
  refine wpAny_pyNext_enum_item he hit p.isList (x:=u) (by simpa using hu) hei fun h1 ho hit' hT hsz hk=>?_
  refine ⟨_,rfl,wpAny_letOwnedTupleGo_enum ho fun h2 he' hs'=>?_⟩
  have ne1:s.heap.objs.size≠e:=Zw helt
  have ne2:s.heap.objs.size≠it:=Zw hilt
  have I1:Inv X pins σ (upd H s.heap.objs.size (.tup [.int i,x])) { s with heap:=s.heap.push { cls:=.type "tuple",data:=.seq #[.int i s.toks,u] },toks:=s.toks+1 }:=by
   refine I.laid (fun b o q=>Yx _ q) (Yy _) ⟨by simp only [YB,aaD]; rw [sizeLine_eq]; decide,[.int i s.toks,u],.cons ⟨_,rfl⟩ (.cons ru .nil),?_⟩
   exact ⟨_,Y4 s.heap rfl,rfl,0,rfl⟩
  have up:∀ b,b≠s.heap.objs.size->H b=none->upd H s.heap.objs.size (.tup [.int i,x]) b=none:=fun b hb q=>by rw [cI hb]; exact q
  have I2:Inv X pins σ (upd H s.heap.objs.size (.tup [.int i,x])) { s with heap:=h2,toks:=s.toks+1 }:=by
   refine I1.turned2 (h':=h2) (t':=s.toks+1) hei (fun b o hb1 hb2 q=>?_) ⟨up e ne1.symm fe.1,fe.2⟩ ⟨up it ne2.symm fi.1,fi.2⟩ ⟨_,he'⟩ ⟨_,Yx _ he⟩
   rw [hs'.2 b hb1]
   by_cases hbT:b=s.heap.objs.size
   . subst hbT
     have q':(s.heap.push { cls:=.type "tuple",data:=.seq #[.int i s.toks,u] }).get? s.heap.objs.size=some o:=q
     rw [Y4 s.heap rfl] at q'
     cases q'
     exact hT
   . refine hk b o hb1 hb2 ?_
     have q':(s.heap.push { cls:=.type "tuple",data:=.seq #[.int i s.toks,u] }).get? b=some o:=q
     rw [Heap.get?_push_ne s.heap b _ hbT] at q'
     exact q'
  refine ⟨.ref s.heap.objs.size,_,I2,rfl,⟨s.heap.objs.size,x,hTn,rfl,rfl,fun ys hy=>by rw [I.list_inj hy hq]; exact hx⟩,⟨⟨u,by simpa using he'⟩,hit'.at fun o y=>(hs'.2 it hei.symm).trans y⟩,fun b hb=>?_⟩
  rcases YC.mp hb with rfl | hb
  . exact up _ ne1.symm fe.1
  . have eb:b=it:=by simpa using hb
    subst eb
    exact up _ ne2.symm fi.1
 done:=by
  intro X hP hw hK hc i pins s σ H E I hf st hg
  subst hP hw hK
  obtain ⟨⟨old,he⟩,hit⟩:=st
  obtain ⟨xs,hq,hx⟩:=hg
  obtain ⟨its,rv,p,hz⟩:=I.list hq
  obtain ⟨f0,f1,f2,f3,f4,f5⟩:=hf it (by simp)
  have hl:=rv.length
  exact wpAny_pyNext_enum_end (I.ok.hd hc) he hit p.isList (aax (by simp; omega)) fun h' eb=>⟨rfl,I.turned (t':=s.toks) (fun b o hb q=>eb b o hb q) f0 f1 f3 f4 f5⟩
 self:=fun _ _ _ _ _ st h=>by
  obtain ⟨⟨old,he⟩,_⟩:=st
  exact wpAny_pyIter_enum he h
section
variable {X:Cx}
def WX (K:FG) (ta:TA):TI:=fun σ H R=>ta σ H fun vs H1=>∃ a,vs=[.ref a]/\(∃ xs,bU K H1 a xs)/\R (U9 K a) H1
theorem RB {a:Expr} {ta:TA} {p pos:Pos} {elts:List Expr} {x1} {tpos:Pos} (hg:Gl X "enumerate") (hm:X.mg "enumerate" = none) (ha:PA X [a] ta) (hs:starEach [a] X.env=[(false,eval a X.env)]:=by rfl):PI X (.Tuple elts x1 tpos) (.Call (.Name "enumerate" p) [a] [] pos) (WX X.K ta):=by
 intro pins s σ H R I h
 refine Call_ (qX (u:=.type "enumerate") I hg hm (by kernel_rfl) (PyProof.Rows.callWith_type1 (cj (ha pos pins s σ H _ I h) fun us s1 ⟨vs,H1,I1,r1,q1⟩=>?_) hs rfl))
 obtain ⟨b,e,⟨xs,hq⟩,q⟩:=q1
 subst e
 cases r1 with
 | cons r rr=>
  cases rr
  cases r
  obtain ⟨its,rv,pl,hz⟩:=I1.list hq
  refine call_enumerate_list pl.isList fun h' he hit hsz hk=>?_
  have I2:Inv X pins σ H1 { s1 with heap:=h' }:=I1.kept (t':=s1.toks) hk
  refine wpAny_pyIter_enum he ?_
  refine ⟨s1.heap.objs.size+1,[s1.heap.objs.size+1,s1.heap.objs.size],_,_,H1,rfl,I2,Ls b (s1.heap.objs.size+1) s1.heap.objs.size (Nat.succ_ne_self _),⟨⟨_,he⟩,hit⟩,fun c hc=>?_,q⟩
  have hc':s1.heap.objs.size<=c:=by
   rcases YC.mp hc with rfl | hc
   . exact aaw _
   . have ec:c=s1.heap.objs.size:=by simpa using hc
     exact Nat.le_of_eq ec.symm
  exact I1.fpOk hc' (I1.hok.fresh hc')
def QD (i j:Int):Prop:=0<j/\j<18446744073709551616
theorem rA:fB X (binaryOp .FloorDiv) (rI QD fun i j=>.int (i/j)):=K6 fun i j _ _ _ _ _ hc q=>by
 have h1:(0:Int)<j:=hc.1
 have h2:j<18446744073709551616:=hc.2
 have h0:j.natAbs≠0:=by omega
 have h3:j.natAbs.log2<64:=(Nat.log2_lt h0).mpr (by omega)
 exact floordiv_int (by omega) (by rw [Int.fdiv_eq_ediv_of_nonneg i (by omega)]; exact q) (.inl (PyProof.noPylong_of_log2 (by omega)))
def WY:R2:=fun x y H Q=>∃ a v,x=.ref a/\Bj H a y (some v)/\Q v H
theorem HN (hu:X.A.units+1<cLine):ym X WY:=by
 intro value slice pins s σ H x y v u Q I rx ry h hs
 obtain ⟨a,z,rfl,g,q⟩:=h
 cases rx
 exact tail_any (Hj I g) F.slot_dict_getitem.lookup (Lk hu I g ry fun w' s3 I3 rw'=>⟨z,H,I3,rw',q⟩) hs
def J0:V->V->V->Hp->(Hp->Prop)->Prop:=fun o i v H Q=>∃ a H',o=.ref a/\U5 H a i v H'/\Q H'
theorem set_dict (hu:X.A.units+1<cLine):NQ X J0:=by
 intro pins s σ H o i v ov iv u Q I ro ri rv h
 obtain ⟨a,H',rfl,g,q⟩:=h
 cases ro
 exact Ln hu I g ri rv fun s4 I4=>⟨H',I4,q⟩
theorem uc:lZ X (.type "int") (fun xs H Q=>∃ b,xs=[.bl b]/\Q (.int (if b then 1 else 0)) H):=by
 intro pins s σ H xs us Q I r h
 obtain ⟨b,rfl,q⟩:=h
 obtain ⟨u,rfl,ru⟩:=vals1 r
 cases ru
 exact call_int_bool ⟨.int _,H,I.tok _,⟨_,rfl⟩,q⟩
end
section
variable {X:Cx} {pins:List (Addr×Obj)} {σ:St} {H:Hp} {s:Shared} {h':Heap}
theorem Inv.turnedL {t':Nat} {fp:List Addr} (I:Inv X pins σ H s) (k:∀ b o,b∉fp->s.heap.get? b=some o->h'.get? b=some o) (f:∀ b∈fp,mz X pins H b):Inv X pins σ H { s with heap:=h',toks:=t' }:=by
 have nit:∀ b u,H b=some u->b∉fp:=fun b u e z=>by rw [(f b z).1] at e; cases e
 refine I.step (g':=s.gens) (d':=s.drawn) (ch:=fp) (fun b hb=>⟨(f b hb).2.2.2.1,(f b hb).2.1,(f b hb).2.2.2.2.1,(f b hb).2.2.2.2.2⟩) (fun b o _ _ hc e _=>k b o hc e) (fun b o _ _ hc e _=>⟨o.slots,k b o hc e⟩) (fun _ _ _ _ n=>n)
  (fun b o hc e=>⟨o,k b o hc e⟩) (fun _ _ e=>e) (fun _ _ _ e=>e) (fun b ps e=>⟨#[],by rw [e]; simp⟩) (fun m hm=>?_) (fun b u e=>?_) I.bare
 . obtain ⟨o,es,ep,ho,r⟩:=hm
   exact ⟨o,es,ep,k _ o (fun z=>(f _ z).2.1 rfl) ho,r⟩
 . refine (I.hok b u e).stay (fun c v hc q=>k c v ?_ q) (fun _ q=>q) fun _ _ q=>q
   rcases hc with z | z
   . rw [z]; exact nit b u e
   . exact nit c _ z
end
structure Va (z TI TO i1 i2:Addr):Prop where
 TIz:TI≠z
 TOz:TO≠z
 i1z:i1≠z
 i2z:i2≠z
 TITO:TI≠TO
 TIi1:TI≠i1
 TIi2:TI≠i2
 TOi1:TO≠i1
 TOi2:TO≠i2
 i12:i1≠i2
section
variable {X:Cx}
end
section
variable {prog:Program}
end
section
variable {prog:Program} {w:World} {A:Around} {R:Result->Shared->Prop} {I:Addr} {fp wr:List Addr} {G:Array GenState->Array GenState->Prop} {n:Nat} {P:Nat->Value->Prop} {St:Nat->Shared->Prop}
end
section
variable {prog:Program}
end
section
variable {X:Cx} {pins:List (Addr×Obj)} {σ:St} {H:Hp} {s:Shared}
end
section
variable {X:Cx}
end
section
variable {prog:Program}
end
section
variable {X:Cx}
end
noncomputable def Vb (K:FG) (a:Addr) (n:Nat):It:=
 ⟨fun i H=>i<n/\∃ xs,bU K H a xs/\xs.length=n,fun i H x H'=>H'=H/\∀ xs,bU K H a xs->xs[n-1-i]?=some x,fun i H=>i=n/\∃ xs,bU K H a xs/\xs.length=n⟩
theorem Ox {K:FG} {tg:Expr} (a it:Addr) (n:Nat):Turn P w K tg (Vb K a n) [it] it (fun i h=>h.IsRevIter it a ((n:Int)-1-i)) where
 mem:=by simp
 obj:=fun i h st b hb=>by
  have e:b=it:=by simpa using hb
  subst e
  obtain ⟨o,e,c,d⟩:=st
  exact ⟨o,e,fun v z=>by rw [d] at z; cases z⟩
 keep:=fun i h h' st k=>st.at fun o e=>k it (by simp) o e
 item:=by
  intro X hP hw hK hc i pins s σ H E I hf st hg
  subst hP hw hK
  obtain ⟨hi,xs,hq,hn⟩:=hg
  obtain ⟨its,rv,p,hz⟩:=I.list hq
  obtain ⟨f0,f1,f2,f3,f4,f5⟩:=hf it (by simp)
  have hx:xs[n-1-i]?=some (xs[n-1-i]'(by omega)):=YQ _
  obtain ⟨u,hu,ru⟩:=rv.get hx
  have e1:(n:Int)-1-i=((n-1-i:Nat):Int):=by omega
  rw [e1] at st
  refine wpAny_pyNext_rev_item st p.isList (x:=u) (by simpa using hu) fun h' st' sb=>?_
  have I1:Inv X pins σ H { s with heap:=h' }:=I.turned (t':=s.toks) (fun b o hb e=>(sb.2 b hb).trans e) f0 f1 f3 f4 f5
  obtain ⟨o,e,c,d⟩:=id st'
  have e2:((n-1-i:Nat):Int)-1=(n:Int)-1-((i+1:Nat):Int):=by omega
  rw [e2] at st'
  exact ⟨u,rfl,DK (s:={ s with heap:=h' }) e c d (by decide) ⟨_,H,I1,ru,⟨rfl,fun ys hy=>by rw [I.list_inj hy hq]; exact hx⟩,st',fun b hb=>(hf b hb).1⟩⟩
 done:=by
  intro X hP hw hK hc i pins s σ H E I hf st hg
  subst hP hw hK
  obtain ⟨rfl,xs,hq,hn⟩:=hg
  obtain ⟨f0,f1,f2,f3,f4,f5⟩:=hf it (by simp)
  have e1:(i:Int)-1-i=-1:=by omega
  rw [e1] at st
  exact wpAny_pyNext_rev_end (I.ok.hd hc) st fun h' eb=>⟨rfl,I.turned (t':=s.toks) (fun b o hb e=>eb b o hb e) f0 f1 f3 f4 f5⟩
 self:=fun _ _ _ _ _ st h=>wpAny_pyIter_revIter st h
section
variable {X:Cx}
def X5 (K:FG) (ta:TA):TI:=fun σ H R=>ta σ H fun vs H1=>∃ a xs,vs=[.ref a]/\bU K H1 a xs/\R (Vb K a xs.length) H1
theorem Vc {tg a:Expr} {ta:TA} {p pos:Pos} (hg:Gl X "reversed") (hm:X.mg "reversed" = none) (ha:PA X [a] ta) (hs:starEach [a] X.env=[(false,eval a X.env)]:=by rfl):PI X tg (.Call (.Name "reversed" p) [a] [] pos) (X5 X.K ta):=by
 intro pins s σ H R I h
 refine Call_ (qX (u:=.type "reversed") I hg hm (by kernel_rfl) (PyProof.Rows.callWith_type1 (cj (ha pos pins s σ H _ I h) fun us s1 ⟨vs,H1,I1,r1,q1⟩=>?_) hs rfl))
 obtain ⟨b,xs,e,hq,q⟩:=q1
 subst e
 cases r1 with
 | cons r rr=>
  cases rr
  cases r
  obtain ⟨its,rv,pl,hz⟩:=I1.list hq
  have hl:=rv.length
  refine call_reversed_list pl.isList ?_
  have hit:(s1.heap.push (revObj b ((its.toArray.size:Int)-1))).IsRevIter s1.heap.objs.size b ((xs.length:Int)-1-((0:Nat):Int)):=by
   have e0:(xs.length:Int)-1-((0:Nat):Int)=(its.toArray.size:Int)-1:=by rw [hl]; simp
   rw [e0]
   exact ⟨_,Y4 _ rfl,rfl,rfl⟩
  refine wpAny_pyIter_revIter hit ?_
  refine ⟨s1.heap.objs.size,[s1.heap.objs.size],_,_,H1,rfl,I1.kept (t':=s1.toks) fun b o e=>Yx _ e,Ox b _ _,hit,fun c hc=>?_,q⟩
  have e:c=s1.heap.objs.size:=by simpa using hc
  subst e
  exact I1.fpOk (Yy _) (I1.hok.fresh (Yy _))
end
def jz:Bool->Heap->Addr->Addr->Nat->Prop
 | true,h,it,a,i=>h.IsListIter it a i
 | false,h,it,a,i=>h.IsTupleIter it a i
def jZ:Bool->Heap->Addr->Array Value->Prop
 | true,h,a,its=>h.IsList a its
 | false,h,a,its=>h.IsTuple a its
def lJ:Bool->FG->Hp->Addr->List V->Prop
 | true,K,H,a,xs=>bU K H a xs
 | false,K,H,a,xs=>cQ K H a xs
theorem jz.at {k:Bool} {h h':Heap} {it a:Addr} {i:Nat} (x:jz k h it a i) (e:∀ o,h.get? it=some o->h'.get? it=some o):jz k h' it a i:=by
 cases k
 . exact Heap.IsTupleIter.at x e
 . exact Heap.IsListIter.at x e
theorem jz.obj {k:Bool} {h:Heap} {it a:Addr} {i:Nat} (x:jz k h it a i):∃ o,h.get? it=some o/\o.cls≠.type "zip" /\ o.cls≠.type "tuple" /\ o.cls≠.type "list" /\ ∀ v,o.data≠.cell v:=by
 cases k
 . obtain ⟨o,ho,hc,hd⟩:=x
   exact ⟨o,ho,by rw [hc]; simp,by rw [hc]; simp,by rw [hc]; simp,fun v z=>by rw [hd] at z; cases z⟩
 . obtain ⟨o,ho,hc,hd⟩:=x
   exact ⟨o,ho,by rw [hc]; simp,by rw [hc]; simp,by rw [hc]; simp,fun v z=>by rw [hd] at z; cases z⟩
theorem jZ.at {k:Bool} {h h':Heap} {a:Addr} {its:Array Value} (x:jZ k h a its) (e:∀ o,h.get? a=some o->h'.get? a=some o):jZ k h' a its:=by
 cases k
 . obtain ⟨o,ho,r⟩:=x; exact ⟨o,e _ ho,r⟩
 . obtain ⟨o,ho,r⟩:=x; exact ⟨o,e _ ho,r⟩
theorem jZ.obj {k:Bool} {h:Heap} {a:Addr} {its:Array Value} (x:jZ k h a its):∃ o,h.get? a=some o/\(o.cls=.type "list" \/ o.cls=.type "tuple"):=by
 cases k
 . obtain ⟨o,ho,hc,_⟩:=x; exact ⟨o,ho,.inr hc⟩
 . obtain ⟨o,ho,hc,_⟩:=x; exact ⟨o,ho,.inl hc⟩
section
variable {prog:Program}
theorem Bk {k:Bool} {it l:Addr} {i:Nat} {items:Array Value} {x:Value} {Q:Value->Shared->Prop} (hit:jz k s.heap it l i) (hl:jZ k s.heap l items) (hx:items[i]?=some x)
 (hQ:∀ h',jz k h' it l (i+1)->Heap.SameBut it s.heap h'->Q x { s with heap:=h' }):wpAny (model prog w) A (Builtin.SmallTypes.nextOf (.ref it)) Q E s:=by
 cases k
 . have hit:s.heap.IsTupleIter it l i:=hit
   obtain ⟨o,ho,hc,hd⟩:=id hit
   obtain ⟨ol,hol,_,nl,hdl⟩:=hl
   unfold Builtin.SmallTypes.nextOf
   refine aaY (wpAny_callSpecial?_slot (name:=Str.ofString "__next__") hit.typeIs Z8 (wpAny_call_entry Z8 hit.typeIs aaK ?_ (aaJ _)))
   show wpAny _ _ (field (.ref it) 0 >>= _) _ _ s
   refine aaY (wpAny_field ho hd (x:=.ref l) rfl ?_)
   show wpAny _ _ (if (Value.ref l==Value.none)=true then _ else _) _ _ s
   rw [aa0 (show ¬ ((Value.ref l==Value.none)=true) from Ze)]
   show wpAny _ _ (field (.ref it) 1 >>= _) _ _ s
   refine aaY (wpAny_field ho hd (x:=.int i 0) rfl ?_)
   show wpAny _ _ (seqItems? (.ref l) >>= _) _ _ s
   refine aaY (wpAny_seqItems hol hdl ?_)
   simp only [ZR,hx]
   refine aaY (wpAny_setField ho hd (by simp) (aa1 ⟨x,rfl,aa1 (hQ _ ?_ (aaj ..))⟩))
   exact ⟨_,aao _ ho (Obj.isFreed_of_fields (Obj.data_mapFields hd _)),(Obj.cls_mapFields ..).trans hc,by rw [Obj.data_mapFields hd]; simp [rawInt]⟩
 . exact wpAny_nextOf_list_item hit hl hx hQ
theorem Lw {k:Bool} {it l:Addr} {i:Nat} {items:Array Value} {Q:Value->Shared->Prop} (hh:A.handled=none) (hit:jz k s.heap it l i) (hl:jZ k s.heap l items) (hx:items[i]?=none)
 (hE:∀ h' e,Heap.ExtBut it s.heap h'->(∃ o,h'.get? e=some o/\o.cls=.type "StopIteration")->E (.ref e) { s with heap:=h' }):wpAny (model prog w) A (Builtin.SmallTypes.nextOf (.ref it)) Q E s:=by
 cases k
 . have hit:s.heap.IsTupleIter it l i:=hit
   obtain ⟨o,ho,hc,hd⟩:=id hit
   obtain ⟨ol,hol,_,nl,hdl⟩:=hl
   unfold Builtin.SmallTypes.nextOf
   refine aaY (wpAny_callSpecial?_slot (name:=Str.ofString "__next__") hit.typeIs Z8 (wpAny_call_entry Z8 hit.typeIs aaK ?_ (aaJ _)))
   show wpAny _ _ (field (.ref it) 0 >>= _) _ _ s
   refine aaY (wpAny_field ho hd (x:=.ref l) rfl ?_)
   show wpAny _ _ (if (Value.ref l==Value.none)=true then _ else _) _ _ s
   rw [aa0 (show ¬ ((Value.ref l==Value.none)=true) from Ze)]
   show wpAny _ _ (field (.ref it) 1 >>= _) _ _ s
   refine aaY (wpAny_field ho hd (x:=.int i 0) rfl ?_)
   show wpAny _ _ (seqItems? (.ref l) >>= _) _ _ s
   refine aaY (wpAny_seqItems hol hdl ?_)
   simp only [ZR,hx]
   refine aaY (wpAny_rule (aaY (wpAny_setField ho hd (by simp) ?_)))
   show wpAny _ _ (newExc (.type "StopIteration") [] >>= _) _ _ _
   refine aaY ?_
   simp only [newExc,newTuple]
   refine aaY (wpAny_newObj_type ?_ (by size_fits))
   refine aaY (m:=firstArgMember _ _) (wpAny_of_eq (a:=Value.none) (by first | rfl | (simp only [firstArgMember]; rfl)) ?_)
   refine wpAny_newObj_type ?_ (by size_fits)
   simp only [raiseNew]
   refine aaY (wpAny_handled ?_)
   first | rw [show A.in1.handled=none from hh] | rw [hh]
   refine aaY (aa1 (wpAny_throw ?_))
   exact hE _ _ (((aaj ..).extBut.push _).push _) ⟨_,Y4 _ rfl,rfl⟩
 . exact wpAny_nextOf_list_end hh hit hl hx hE
theorem Lx {k:Bool} {z TI TO i1 i2 l1 l2:Addr} {k1 k2:Nat} {xs ys:Array Value} {x y a b:Value} {Q:Value->Shared->Prop} (D:ZipApart z TI TO i1 i2 l1 l2)
 (hz:IsZip s.heap z TI TO .none) (hTI:IsPair s.heap TI (.ref i1) (.ref i2)) (hTO:IsPair s.heap TO a b) (h1:jz k s.heap i1 l1 k1) (h2:jz k s.heap i2 l2 k2) (hl1:jZ k s.heap l1 xs) (hl2:jZ k s.heap l2 ys) (hx:xs[k1]?=some x) (hy:ys[k2]?=some y)
 (hQ:∀ h',IsZip h' z TI TO (rawInt s.heap.objs.size)->IsPair h' TO x y->jz k h' i1 l1 (k1+1)->jz k h' i2 l2 (k2+1)->IsPair h' s.heap.objs.size x y->
   (∀ c o,c≠z->c≠TO->c≠i1->c≠i2->s.heap.get? c=some o->h'.get? c=some o)->Q (.ref s.heap.objs.size) { s with heap:=h' }):
 wpAny (model prog w) A (Builtin.«zip.__next__» ⟨[.ref z],[]⟩) (fun fin s'=>∃ v,fin=.done (.ret v)/\Q v s') E s:=by
 show wpAny _ _ (field (.ref z) 2 >>= _) _ _ _
 refine aaY (wpAny_field hz rfl (x:=.bool false) rfl ?_)
 show wpAny _ _ (field (.ref z) 3 >>= _) _ _ _
 refine aaY (wpAny_field hz rfl (x:=.ref TI) rfl (aaY (wpAny_seqItems hTI rfl ?_)))
 show wpAny _ _ (Builtin.SmallTypes.ownedTupleIsFree (.ref z) >>= _) _ _ _
 unfold Builtin.SmallTypes.ownedTupleIsFree
 refine aaY (aaY (wpAny_field hz rfl (x:=.none) rfl (aa1 ?_)))
 simp only [if_true]
 refine aaY (wpAny_rule (aaY (wpAny_field hz rfl (x:=.ref TO) rfl (aaY (wpAny_setField_rec hz (by simp) fun g1 z1 s1=>?_)))))
 have z1:IsZip g1 z TI TO .ellipsis:=z1
 have e1:∀ c o,c≠z->s.heap.get? c=some o->g1.get? c=some o:=fun c o hc e=>s1.extBut _ _ hc e
 refine aaY ?_
 simp only [aaT,List.zipIdx_nil,aaX,List.forIn_nil]
 refine aaY (aaY (wpAny_onRaise ?_))
 show wpAny _ _ (Builtin.SmallTypes.nextOf (.ref i1) >>= _) _ _ _
 refine aaY (Bk (h1.at fun o e=>e1 _ o D.i1z e) (hl1.at fun o e=>e1 _ o D.l1z e) hx fun g2 n1 s2=>aa1 ?_)
 have e2:∀ c o,c≠i1->g1.get? c=some o->g2.get? c=some o:=fun c o hc e=>s2.extBut _ _ hc e
 have t2:IsPair g2 TO a b:=e2 _ _ D.TOi1 (e1 _ _ D.TOz hTO)
 refine aaY (wpAny_seqItems t2 rfl (aaY (wpAny_updateSeq_pair t2 fun g3 t3 s3=>?_)))
 have t3:IsPair g3 TO x b:=t3
 have e3:∀ c o,c≠TO->g2.get? c=some o->g3.get? c=some o:=fun c o hc e=>s3.extBut _ _ hc e
 refine aaY (wpAny_letGo (aa1 ?_))
 refine aaY (aaY (wpAny_onRaise ?_))
 show wpAny _ _ (Builtin.SmallTypes.nextOf (.ref i2) >>= _) _ _ _
 refine aaY (Bk (h2.at fun o e=>e3 _ o D.TOi2.symm (e2 _ o D.i12.symm (e1 _ o D.i2z e))) (hl2.at fun o e=>e3 _ o D.l2TO (e2 _ o D.l2i1 (e1 _ o D.l2z e))) hy fun g4 n2 s4=>aa1 ?_)
 have e4:∀ c o,c≠i2->g3.get? c=some o->g4.get? c=some o:=fun c o hc e=>s4.extBut _ _ hc e
 have t4:IsPair g4 TO x b:=e4 _ _ D.TOi2 t3
 refine aaY (wpAny_seqItems t4 rfl (aaY (wpAny_updateSeq_pair t4 fun g5 t5 s5=>?_)))
 have t5:IsPair g5 TO x y:=t5
 have e5:∀ c o,c≠TO->g4.get? c=some o->g5.get? c=some o:=fun c o hc e=>s5.extBut _ _ hc e
 refine aaY (wpAny_letGo (aa1 (aa1 ?_)))
 refine aaY (wpAny_seqItems t5 rfl (aaY (wpAny_newTuple ?_)))
 have hsz:g5.objs.size=s.heap.objs.size:=by rw [s5.1,s4.1,s3.1,s2.1,s1.1]
 have z5:IsZip g5 z TI TO .ellipsis:=e5 _ _ D.TOz.symm (e4 _ _ D.i2z.symm (e3 _ _ D.TOz.symm (e2 _ _ D.i1z.symm z1)))
 have zlt:z<g5.objs.size:=YK z5
 show wpAny _ _ (Builtin.SmallTypes.ownedTupleHandOut (.ref z) (.ref g5.objs.size) >>= _) _ _ _
 unfold Builtin.SmallTypes.ownedTupleHandOut
 have z6:IsZip (g5.push { cls:=.type "tuple",data:=.seq #[x,y] }) z TI TO .ellipsis:=Yx _ z5
 refine aaY (aaY (wpAny_setField_rec z6 (by simp) fun g7 z7 s7=>?_))
 have z7:IsZip g7 z TI TO (rawInt g5.objs.size):=z7
 refine wpAny_setField_rec z7 (by simp) fun g8 z8 s8=>?_
 have z8:IsZip g8 z TI TO (rawInt g5.objs.size):=z8
 have up:∀ c o,c≠z->g5.get? c=some o->g8.get? c=some o:=fun c o c1 e=>s8.extBut _ _ c1 (s7.extBut _ _ c1 (Yx _ e))
 have t8:IsPair g8 g5.objs.size x y:=s8.extBut _ _ (Zw zlt) (s7.extBut _ _ (Zw zlt) (Y4 _ rfl))
 rw [hsz] at z8 t8
 refine aa1 ⟨_,rfl,?_⟩
 show Q (.ref g5.objs.size) _
 rw [hsz]
 exact hQ g8 z8 (up _ _ D.TOz t5) (n1.at fun o e=>up _ o D.i1z (e5 _ o D.TOi1.symm (e4 _ o D.i12 (e3 _ o D.TOi1.symm e)))) (n2.at fun o e=>up _ o D.i2z (e5 _ o D.TOi2.symm e)) t8 fun c o c1 c2 c3 c4 e=>up c o c1 (e5 _ _ c2 (e4 _ _ c4 (e3 _ _ c2 (e2 _ _ c3 (e1 _ _ c1 e)))))
theorem Oz {k:Bool} {z TI TO i1 i2 l1 l2:Addr} {k1 k2:Nat} {xs ys:Array Value} {a b:Value} {Q:Fin->Shared->Prop} (hh:A.handled=none) (D:ZipApart z TI TO i1 i2 l1 l2)
 (hz:IsZip s.heap z TI TO .none) (hTI:IsPair s.heap TI (.ref i1) (.ref i2)) (hTO:IsPair s.heap TO a b) (h1:jz k s.heap i1 l1 k1) (h2:jz k s.heap i2 l2 k2) (hl1:jZ k s.heap l1 xs) (hl2:jZ k s.heap l2 ys) (hend:xs[k1]?=none\/ys[k2]?=none)
 (hE:∀ h' e,(∀ c o,c≠z->c≠TO->c≠i1->c≠i2->s.heap.get? c=some o->h'.get? c=some o)->(∃ o,h'.get? e=some o/\o.cls=.type "StopIteration")->E (.ref e) { s with heap:=h' }):
 wpAny (model prog w) A (Builtin.«zip.__next__» ⟨[.ref z],[]⟩) Q E s:=by
 show wpAny _ _ (field (.ref z) 2 >>= _) _ _ _
 refine aaY (wpAny_field hz rfl (x:=.bool false) rfl ?_)
 show wpAny _ _ (field (.ref z) 3 >>= _) _ _ _
 refine aaY (wpAny_field hz rfl (x:=.ref TI) rfl (aaY (wpAny_seqItems hTI rfl ?_)))
 show wpAny _ _ (Builtin.SmallTypes.ownedTupleIsFree (.ref z) >>= _) _ _ _
 unfold Builtin.SmallTypes.ownedTupleIsFree
 refine aaY (aaY (wpAny_field hz rfl (x:=.none) rfl (aa1 ?_)))
 simp only [if_true]
 refine aaY (wpAny_rule (aaY (wpAny_field hz rfl (x:=.ref TO) rfl (aaY (wpAny_setField_rec hz (by simp) fun g1 z1 s1=>?_)))))
 have z1:IsZip g1 z TI TO .ellipsis:=z1
 have e1:∀ c o,c≠z->s.heap.get? c=some o->g1.get? c=some o:=fun c o hc e=>s1.extBut _ _ hc e
 refine aaY ?_
 simp only [aaT,List.zipIdx_nil,aaX,List.forIn_nil]
 refine aaY (aaY (wpAny_onRaise ?_))
 show wpAny _ _ (Builtin.SmallTypes.nextOf (.ref i1) >>= _) _ _ _
 have nz:∀ {g:Heap} {f0:Value} {e:Addr},IsZip g z TI TO f0->(∃ o,g.get? e=some o/\o.cls=.type "StopIteration")->e≠z:=fun {g f0 e} q ⟨o,h,c⟩ x=>by
  subst x
  rw [q] at h
  cases h
  simp at c
 cases hx:xs[k1]? with
 | none=>
  refine aaY (Lw hh (h1.at fun o e=>e1 _ o D.i1z e) (hl1.at fun o e=>e1 _ o D.l1z e) hx fun g2 e s2 he=>?_)
  have z2:IsZip g2 z TI TO .ellipsis:=s2 _ _ D.i1z.symm z1
  have ez:=nz z2 he
  obtain ⟨oe,hoe,hce⟩:=he
  exact wpAny_setField_rec z2 (by simp) fun g3 _ s3=>hE g3 e (fun c o c1 _ c3 _ x=>s3.extBut _ _ c1 (s2 _ _ c3 (e1 _ _ c1 x))) ⟨oe,s3.extBut _ _ ez hoe,hce⟩
 | some x=>
  have hy:ys[k2]?=none:=hend.resolve_left fun q=>by rw [hx] at q; cases q
  refine aaY (Bk (h1.at fun o e=>e1 _ o D.i1z e) (hl1.at fun o e=>e1 _ o D.l1z e) hx fun g2 n1 s2=>aa1 ?_)
  have e2:∀ c o,c≠i1->g1.get? c=some o->g2.get? c=some o:=fun c o hc e=>s2.extBut _ _ hc e
  have t2:IsPair g2 TO a b:=e2 _ _ D.TOi1 (e1 _ _ D.TOz hTO)
  refine aaY (wpAny_seqItems t2 rfl (aaY (wpAny_updateSeq_pair t2 fun g3 t3 s3=>?_)))
  have e3:∀ c o,c≠TO->g2.get? c=some o->g3.get? c=some o:=fun c o hc e=>s3.extBut _ _ hc e
  refine aaY (wpAny_letGo (aa1 ?_))
  refine aaY (aaY (wpAny_onRaise ?_))
  show wpAny _ _ (Builtin.SmallTypes.nextOf (.ref i2) >>= _) _ _ _
  refine aaY (Lw hh (h2.at fun o e=>e3 _ o D.TOi2.symm (e2 _ o D.i12.symm (e1 _ o D.i2z e))) (hl2.at fun o e=>e3 _ o D.l2TO (e2 _ o D.l2i1 (e1 _ o D.l2z e))) hy fun g4 e s4 he=>?_)
  have z4:IsZip g4 z TI TO .ellipsis:=s4 _ _ D.i2z.symm (e3 _ _ D.TOz.symm (e2 _ _ D.i1z.symm z1))
  have ez:=nz z4 he
  obtain ⟨oe,hoe,hce⟩:=he
  exact wpAny_setField_rec z4 (by simp) fun g5 _ s5=>hE g5 e (fun c o c1 c2 c3 c4 x=>s5.extBut _ _ c1 (s4 _ _ c4 (e3 _ _ c2 (e2 _ _ c3 (e1 _ _ c1 x))))) ⟨oe,s5.extBut _ _ ez hoe,hce⟩
end
theorem J1 (l1 l2:Addr) (xs ys:Array Value):
 Meets (Builtin.«zip.__new__» ⟨[.type "zip",.ref l1,.ref l2],[]⟩) (fun _ R s=>s.heap.IsTuple l1 xs/\s.heap.IsTuple l2 ys/\∀ h',IsZip h' (s.heap.objs.size+4) (s.heap.objs.size+2) (s.heap.objs.size+3) .none->IsPair h' (s.heap.objs.size+2) (.ref s.heap.objs.size) (.ref (s.heap.objs.size+1))->
  IsPair h' (s.heap.objs.size+3) .none .none->h'.IsTupleIter s.heap.objs.size l1 0->h'.IsTupleIter (s.heap.objs.size+1) l2 0->(∀ c o,s.heap.get? c=some o->h'.get? c=some o)->R (.ok (.ret (.ref (s.heap.objs.size+4)))) { s with heap:=h' }):=
 .of_wp fun prog w A R s h=>by
  obtain ⟨hp,g,d,tk,os⟩:=s
  obtain ⟨hl1,hl2,h⟩:=h
  have hsub:=sub_zip
  have hL1:Heap.IsTuple (Shared.heap ⟨hp,g,d,tk,os⟩) l1 xs:=hl1
  have hL2:Heap.IsTuple (Shared.heap ⟨hp.push { cls:=.type "tuple_iterator",data:=.fields #[.ref l1,.int 0 0] },g,d,tk,os⟩) l2 ys:=by
   obtain ⟨o,ho,r⟩:=hl2
   exact ⟨o,Yx _ ho,r⟩
  wp_walk using wpAny_pyIter_tuple hL1,wpAny_pyIter_tuple hL2
  refine ⟨_,rfl,?_⟩
  have z1:∀ (q:Heap) (o:Obj),(q.push o).objs.size=q.objs.size+1:=fun q o=>aae ..
  simp only [z1]
  have key:∀ (q:Heap) (o:Obj) (n:Nat),q.objs.size=n->o.isFreed=false->(q.push o).get? n=some o:=fun q o n e f=>e▸Y4 q f
  refine h _ (key _ _ _ (by simp only [z1]) rfl) (Yx _ (Yx _ (key _ _ _ (by simp only [z1]) rfl))) (Yx _ (key _ _ _ (by simp only [z1]) rfl)) ⟨_,Yx _ (Yx _ (Yx _ (Yx _ (key _ _ _ rfl rfl)))),rfl,rfl⟩
   ⟨_,Yx _ (Yx _ (Yx _ (key _ _ _ (by simp only [z1]) rfl))),rfl,rfl⟩ fun c o e=>Yx _ (Yx _ (Yx _ (Yx _ (Yx _ e))))
section
variable {prog:Program}
theorem Ly {k:Bool} {l1 l2:Addr} {xs ys:Array Value} {Q:Value->Shared->Prop} (hl1:jZ k s.heap l1 xs) (hl2:jZ k s.heap l2 ys)
 (h:∀ h',IsZip h' (s.heap.objs.size+4) (s.heap.objs.size+2) (s.heap.objs.size+3) .none->IsPair h' (s.heap.objs.size+2) (.ref s.heap.objs.size) (.ref (s.heap.objs.size+1))->
   IsPair h' (s.heap.objs.size+3) .none .none->jz k h' s.heap.objs.size l1 0->jz k h' (s.heap.objs.size+1) l2 0->
   (∀ c o,s.heap.get? c=some o->h'.get? c=some o)->Q (.ref (s.heap.objs.size+4)) { s with heap:=h' }):
 wpAny (model prog w) A (call (.type "zip") [.ref l1,.ref l2]) Q E s:=by
 cases k
 . exact callType_new F.called_zip (by decide) (F.typeCall_zip_2 _ _) (F.newCall_zip_2 _ _) (fun obj=>F.args_object_init_3 obj _ _) F.entry_zip_new (J1 l1 l2 xs ys) ⟨hl1,hl2,fun h' a1 a2 a3 a4 a5 a6=>⟨⟨_,a1,rfl⟩,h h' a1 a2 a3 a4 a5 a6⟩⟩
 . exact call_zip_2 hl1 hl2 fun h' a1 a2 a3 a4 a5 _ a6=>h h' a1 a2 a3 a4 a5 a6
end
section
variable {X:Cx} {pins:List (Addr×Obj)} {σ:St} {H:Hp} {s:Shared}
theorem Inv.sqK {k:Bool} {a:Addr} {xs:List V} (I:Inv X pins σ H s) (h:lJ k X.K H a xs):∃ its:List Value,Vals xs its/\jZ k s.heap a its.toArray:=by
 cases k
 . obtain ⟨its,r,p,_⟩:=I.tuple h
   exact ⟨its,r,p⟩
 . obtain ⟨its,r,p,_⟩:=I.list h
   exact ⟨its,r,p.isList⟩
theorem Inv.sqK_inj {k:Bool} {a:Addr} {xs ys:List V} (I:Inv X pins σ H s) (h:lJ k X.K H a xs) (h':lJ k X.K H a ys):xs=ys:=by
 cases k
 . exact I.tuple_inj h h'
 . exact I.list_inj h h'
end
noncomputable def J2 (k:Bool) (K:FG) (a b:Addr):It:=
 ⟨fun i H=>∃ xs ys x y,lJ k K H a xs/\lJ k K H b ys/\xs[i]?=some x/\ys[i]?=some y,
  fun i H x H'=>∃ T y z,H T=none/\x=.ref T/\H'=upd H T (.tup [y,z])/\(∀ xs,lJ k K H a xs->xs[i]?=some y)/\∀ ys,lJ k K H b ys->ys[i]?=some z,
  fun i H=>∃ xs ys,lJ k K H a xs/\lJ k K H b ys/\(xs.length<=i\/ys.length<=i)⟩
theorem Cy {k:Bool} {h:Heap} {z TI TO i1 i2 a b:Addr} {u v:Value} {n m:Nat} {xs ys:Array Value} (D:Va z TI TO i1 i2) (hz:IsZip h z TI TO .none) (aTO:a≠TO) (bTO:b≠TO) (h1:jz k h i1 a n) (h2:jz k h i2 b m) (ha:jZ k h a xs) (hb:jZ k h b ys):ZipApart z TI TO i1 i2 a b:=by
 obtain ⟨o1,q1,_,c1,c1',_⟩:=h1.obj
 obtain ⟨o2,q2,_,c2,c2',_⟩:=h2.obj
 have ne:∀ {l c:Addr} {its:Array Value} {o:Obj},jZ k h l its->h.get? c=some o->o.cls≠.type "tuple" -> o.cls≠.type "list" -> l≠c:=fun {l c its o} q e n1 n2 z=>by
  subst z
  obtain ⟨o',e',hc⟩:=q.obj
  rw [e] at e'
  cases e'
  rcases hc with hc | hc
  . exact n2 hc
  . exact n1 hc
 exact ⟨D.TIz,D.TOz,D.i1z,D.i2z,D.TITO,D.TIi1,D.TIi2,D.TOi1,D.TOi2,D.i12,ne ha hz (by simp) (by simp),aTO,ne ha q1 c1 c1',ne ha q2 c2 c2',ne hb hz (by simp) (by simp),bTO,ne hb q1 c1 c1',ne hb q2 c2 c2'⟩
theorem Lz {K:FG} {elts:List Expr} {x1} {pos:Pos} (k:Bool) (a b z TI TO i1 i2:Addr) (D:Va z TI TO i1 i2) (aTO:a≠TO) (bTO:b≠TO):Turn P w K (.Tuple elts x1 pos) (J2 k K a b) [z,TI,TO,i1,i2] z
 (fun i h=>IsZip h z TI TO .none/\IsPair h TI (.ref i1) (.ref i2)/\(∃ u v,IsPair h TO u v)/\jz k h i1 a i/\jz k h i2 b i) where
 mem:=by simp
 obj:=fun i h st c hc=>by
  obtain ⟨hz,hTI,⟨u,v,hTO⟩,h1,h2⟩:=st
  simp only [YC,Y8,or_false] at hc
  rcases hc with rfl | rfl | rfl | rfl | rfl
  . exact ⟨_,hz,fun v z=>by
     have z':Data.fields _=Data.cell v:=z
     cases z'⟩
  . exact ⟨_,hTI,fun v z=>by
     have z':Data.seq _ _=Data.cell v:=z
     cases z'⟩
  . exact ⟨_,hTO,fun v z=>by
     have z':Data.seq _ _=Data.cell v:=z
     cases z'⟩
  . obtain ⟨o,ho,_,_,_,d⟩:=h1.obj
    exact ⟨o,ho,d⟩
  . obtain ⟨o,ho,_,_,_,d⟩:=h2.obj
    exact ⟨o,ho,d⟩
 keep:=fun i h h' st k=>by
  obtain ⟨hz,hTI,⟨u,v,hTO⟩,h1,h2⟩:=st
  exact ⟨k z (by simp) _ hz,k TI (by simp) _ hTI,⟨u,v,k TO (by simp) _ hTO⟩,h1.at fun o q=>k i1 (by simp) o q,h2.at fun o q=>k i2 (by simp) o q⟩
 item:=by
  intro X hP hw hK hc i pins s σ H E I hf st hg
  subst hP hw hK
  obtain ⟨hz,hTI,⟨u0,v0,hTO⟩,h1,h2⟩:=st
  obtain ⟨xs,ys,x,y,hq,hr,hx,hy⟩:=hg
  obtain ⟨its,rv,p⟩:=I.sqK hq
  obtain ⟨jts,rw',p'⟩:=I.sqK hr
  obtain ⟨u,hu,ru⟩:=rv.get hx
  obtain ⟨u',hu',ru'⟩:=rw'.get hy
  have DD:=Cy (u:=u0) (v:=v0) D hz aTO bTO h1 h2 p p'
  have zlt:∀ c∈[z,TI,TO,i1,i2],s.heap.objs.size≠c:=fun c hc=>by
   simp only [YC,Y8,or_false] at hc
   rcases hc with rfl | rfl | rfl | rfl | rfl
   . exact Zw (YK hz)
   . exact Zw (YK hTI)
   . exact Zw (YK hTO)
   . obtain ⟨_,q,_⟩:=h1.obj; exact Zw (YK q)
   . obtain ⟨_,q,_⟩:=h2.obj; exact Zw (YK q)
  have hTn:H s.heap.objs.size=none:=I.hok.fresh (Yy _)
  have hT:s.TypeIs (.ref z) "zip" := ⟨_,hz,rfl⟩
  unfold pyNext
  refine aaY (wpAny_attempt (wpAny_callSpecial?_slot (name:=Str.ofString "__next__") hT aaE (wpAny_call_entry aaE hT F.entry_zip_next (Lx DD hz hTI hTO h1 h2 p p' (x:=u) (y:=u') (by simpa using hu) (by simpa using hu') fun g1 a1 a2 a3 a4 a5 a7=>aa1 ?_) (F.args_zip_next_1 _))))
  refine ⟨_,rfl,wpAny_letOwnedTupleGo_zip a1 fun g2 b1 b2=>?_⟩
  have I1:Inv X pins σ (upd H s.heap.objs.size (.tup [x,y])) { s with heap:=s.heap.push { cls:=.type "tuple",data:=.seq #[u,u'] },toks:=s.toks }:=by
   refine I.laid (fun b o q=>Yx _ q) (Yy _) ⟨by simp only [YB,aaD]; rw [sizeLine_eq]; decide,[u,u'],.cons ru (.cons ru' .nil),?_⟩
   exact ⟨_,Y4 s.heap rfl,rfl,0,rfl⟩
  have up:∀ b,b≠s.heap.objs.size->H b=none->upd H s.heap.objs.size (.tup [x,y]) b=none:=fun b hb q=>by rw [cI hb]; exact q
  have hb2:∀ c o,c≠z->g1.get? c=some o->g2.get? c=some o:=fun c o hc q=>(b2.2 c hc).trans q
  have I2:Inv X pins σ (upd H s.heap.objs.size (.tup [x,y])) { s with heap:=g2,toks:=s.toks }:=by
   refine Inv.turnedL (s:={ s with heap:=s.heap.push { cls:=.type "tuple",data:=.seq #[u,u'] },toks:=s.toks }) (h':=g2) (t':=s.toks) I1 (fp:=[z,TI,TO,i1,i2]) (fun c o hc q=>?_) (fun c hc=>⟨up c (zlt c hc).symm (hf c hc).1,(hf c hc).2⟩)
   simp only [YC,Y8,or_false,not_or] at hc
   refine hb2 c o hc.1 ?_
   by_cases hbT:c=s.heap.objs.size
   . subst hbT
     have q':(s.heap.push { cls:=.type "tuple",data:=.seq #[u,u'] }).get? s.heap.objs.size=some o:=q
     rw [Y4 s.heap rfl] at q'
     cases q'
     exact a5
   . refine a7 c o hc.1 hc.2.2.1 hc.2.2.2.1 hc.2.2.2.2 ?_
     have q':(s.heap.push { cls:=.type "tuple",data:=.seq #[u,u'] }).get? c=some o:=q
     rw [Heap.get?_push_ne s.heap c _ hbT] at q'
     exact q'
  refine ⟨.ref s.heap.objs.size,_,I2,rfl,⟨s.heap.objs.size,x,y,hTn,rfl,rfl,fun ys hy=>by rw [I.sqK_inj hy hq]; exact hx,fun ys hy'=>by rw [I.sqK_inj hy' hr]; exact hy⟩,⟨b1,hb2 _ _ D.TIz (a7 _ _ D.TIz D.TITO D.TIi1 D.TIi2 hTI),⟨_,_,hb2 _ _ D.TOz a2⟩,a3.at fun o q=>hb2 _ o D.i1z q,a4.at fun o q=>hb2 _ o D.i2z q⟩,fun c hc=>up _ (zlt c hc).symm (hf c hc).1⟩
 done:=by
  intro X hP hw hK hc i pins s σ H E I hf st hg
  subst hP hw hK
  obtain ⟨hz,hTI,⟨u0,v0,hTO⟩,h1,h2⟩:=st
  obtain ⟨xs,ys,hq,hr,hx⟩:=hg
  obtain ⟨its,rv,p⟩:=I.sqK hq
  obtain ⟨jts,rw',p'⟩:=I.sqK hr
  have DD:=Cy (u:=u0) (v:=v0) D hz aTO bTO h1 h2 p p'
  have e1:=rv.length
  have e2:=rw'.length
  have hT:s.TypeIs (.ref z) "zip" := ⟨_,hz,rfl⟩
  have hend:its.toArray[i]?=none\/jts.toArray[i]?=none:=by
   rcases hx with hx | hx
   . exact .inl (aax (by simp; omega))
   . exact .inr (aax (by simp; omega))
  unfold pyNext
  refine aaY (wpAny_attempt (wpAny_callSpecial?_slot (name:=Str.ofString "__next__") hT aaE (wpAny_call_entry aaE hT F.entry_zip_next (Oz (I.ok.hd hc) DD hz hTI hTO h1 h2 p p' hend fun g e k he=>?_) (F.args_zip_next_1 _))))
  obtain ⟨o,ho,hce⟩:=he
  refine aaY (wpAny_isInstance (T := "StopIteration") (b:=true) ⟨o,ho,hce⟩ isSubtype_stop (aa1 ⟨rfl,?_⟩))
  refine I.turnedL (h':=g) (t':=s.toks) (fp:=[z,TI,TO,i1,i2]) (fun c o hc q=>?_) hf
  simp only [YC,Y8,or_false,not_or] at hc
  exact k c o hc.1 hc.2.2.1 hc.2.2.2.1 hc.2.2.2.2 q
 self:=fun _ _ _ _ _ st h=>wpAny_pyIter_zip st.1 h
section
variable {X:Cx}
def W0 (K:FG) (ta:TA):TI:=fun σ H R=>ta σ H fun vs H1=>∃ k a b,vs=[.ref a,.ref b]/\(∃ xs,lJ k K H1 a xs)/\(∃ ys,lJ k K H1 b ys)/\R (J2 k K a b) H1
theorem HQ {a b:Expr} {ta:TA} {p pos:Pos} {elts:List Expr} {x1} {tpos:Pos} (hg:Gl X "zip") (hm:X.mg "zip" = none) (ha:PA X [a,b] ta) (hs:starEach [a,b] X.env=(false,eval a X.env)::starEach [b] X.env:=by rfl) (hs2:(backTo pos (starEach [b] X.env)).any (·.1)=false:=by rfl):PI X (.Tuple elts x1 tpos) (.Call (.Name "zip" p) [a,b] [] pos) (W0 X.K ta):=by
 intro pins s σ H R I h
 refine Call_ (qX (u:=.type "zip") I hg hm (by kernel_rfl) (PyProof.Rows.callWith_type1 (cj (ha pos pins s σ H _ I h) fun us s1 ⟨vs,H1,I1,r1,q1⟩=>?_) hs hs2))
 obtain ⟨kk,l1,l2,e,⟨xs,hq⟩,⟨ys,hr⟩,q⟩:=q1
 subst e
 cases r1 with
 | cons r rr=>
  cases rr with
  | cons r' rr=>
   cases rr
   cases r
   cases r'
   obtain ⟨its,rv,pl⟩:=I1.sqK hq
   obtain ⟨jts,rv',pl'⟩:=I1.sqK hr
   have lt:∀ {l:Addr} {its:Array Value},jZ kk s1.heap l its->l<s1.heap.objs.size:=fun q=>let ⟨_,e,_⟩:=q.obj; YK e
   have lt1:=lt pl
   have lt2:=lt pl'
   refine Ly pl pl' fun h' b1 b2 b3 b4 b5 b7=>?_
   have I2:Inv X pins σ H1 { s1 with heap:=h' }:=I1.kept (t':=s1.toks) b7
   refine wpAny_pyIter_zip b1 ?_
   have this:∀ n:Nat,n+2≠n+4/\n+3≠n+4/\n≠n+4/\n+1≠n+4/\n+2≠n+3/\n+2≠n/\n+2≠n+1/\n+3≠n/\n+3≠n+1/\n≠n+1:=fun n=>by omega
   obtain ⟨t1,t2,t3,t4,t5,t6,t7,t8,t9,t10⟩:=this s1.heap.objs.size
   refine ⟨s1.heap.objs.size+4,[s1.heap.objs.size+4,s1.heap.objs.size+2,s1.heap.objs.size+3,s1.heap.objs.size,s1.heap.objs.size+1],_,_,H1,rfl,I2,Lz kk l1 l2 (s1.heap.objs.size+4) (s1.heap.objs.size+2) (s1.heap.objs.size+3) s1.heap.objs.size (s1.heap.objs.size+1) ⟨t1,t2,t3,t4,t5,t6,t7,t8,t9,t10⟩ (Zb (Y5 lt1 (aaC _ _))) (Zb (Y5 lt2 (aaC _ _))),⟨b1,b2,⟨_,_,b3⟩,b4,b5⟩,fun c hc=>?_,q⟩
   have hc':s1.heap.objs.size<=c:=by
    simp only [YC,Y8,or_false] at hc
    rcases hc with rfl | rfl | rfl | rfl | rfl
    all_goals (first | exact Yy _ | exact aaC _ _)
   exact I1.fpOk hc' (I1.hok.fresh hc')
end
abbrev dH:=Option Key
noncomputable def sX:dH->V
 | none=>.non
 | some k=>kV k
noncomputable def OD:dH->Value->Bool
 | none,v=>v==.none
 | some k,v=>sO k v
noncomputable def Yl (w:World):dH->Int
 | none=>0xFCA86420
 | some k=>Tu w k
theorem gZ:∀ {k:dH} {v:Value},OD k v=true->(k=none/\v=.none)\/∃ x,k=some x/\sO x v=true
 | none,v,h=>.inl ⟨rfl,by
  cases v<;>first | rfl | (exfalso; revert h; unfold OD; simp)⟩
 | some x,v,h=>.inr ⟨x,rfl,h⟩
section
variable {prog:Program}
theorem LC {Q:Int->Shared->Prop} (h:Q 0xFCA86420 { s with toks:=s.toks+1 }):wpAny (model prog w) A (pyHash .none) Q E s:=by
 have hT:s.TypeIs .none "NoneType" := rfl
 unfold pyHash
 refine aaY ?_
 rw [cRoomFor,aa0 (by simp [Value.onHeap])]
 refine aa1 (aaY (wpAny_specialOf hT F.slot_NoneType_hash.lookup ?_))
 dsimp only
 rw [aa0 (by rw [beq_builtin_none]; exact Ze)]
 refine aaY (wpAny_specialOf hT F.slot_NoneType_hash.lookup (aaY (wpAny_callSpecialIfBoundUnlessNone?_slot hT F.slot_NoneType_hash (wpAny_call_entry F.slot_NoneType_hash hT F.entry_NoneType_hash ?_ (F.args_NoneType_hash_1 _)))))
 refine aaY (aa1 ?_)
 refine wpAny_ret_mkInt ?_
 exact aa1 h
end
noncomputable def qO (prog:Program) (w:World):PySem.KeyKind prog w dH where
 is:=OD
 hash:=Yl w
 inj:=fun v a b ha hb=>by
  rcases gZ ha with ⟨rfl,rfl⟩ | ⟨x,rfl,hx⟩
  . rcases gZ hb with ⟨rfl,_⟩ | ⟨y,rfl,hy⟩
    . rfl
    . rcases dU hy with ⟨i,t,_,e⟩ | ⟨i,t,_,e⟩<;>cases e
  . rcases gZ hb with ⟨rfl,e⟩ | ⟨y,rfl,hy⟩
    . subst e
      rcases dU hx with ⟨i,t,_,e⟩ | ⟨i,t,_,e⟩<;>cases e
    . exact congrArg some ((dM prog w).inj v x y hx hy)
 byValue:=fun k v h=>by
  rcases gZ h with ⟨rfl,rfl⟩ | ⟨x,rfl,hx⟩
  . rfl
  . exact (dM prog w).byValue x v hx
 pyHash:=fun hv h=>by
  rcases gZ hv with ⟨rfl,rfl⟩ | ⟨x,rfl,hx⟩
  . exact LC h
  . exact (dM prog w).pyHash hx h
 eqBool:=fun hu hv h=>by
  rcases gZ hu with ⟨rfl,rfl⟩ | ⟨x,rfl,hx⟩
  . rcases gZ hv with ⟨rfl,rfl⟩ | ⟨y,rfl,hy⟩
    . exact SeqAt.EqAt.same _ _ _ _ _ h
    . rcases dU hy with ⟨i,t,rfl,rfl⟩ | ⟨i,t,rfl,rfl⟩
      . exact SeqAt.EqAt.none_int i t _ _ _ _ h
      . exact SeqAt.EqAt.none_str i t _ _ _ _ h
  . rcases gZ hv with ⟨rfl,rfl⟩ | ⟨y,rfl,hy⟩
    . rcases dU hx with ⟨i,t,rfl,rfl⟩ | ⟨i,t,rfl,rfl⟩
      . exact SeqAt.EqAt.int_none i t _ _ _ _ h
      . exact SeqAt.EqAt.str_none i t _ _ _ _ h
    . refine (dM prog w).eqBool hx hy ?_
      have e:decide ((some x:dH)=some y)=decide (x=y):=by simp
      rw [e] at h
      exact h
 «strs»:=fun k x t v h=>by
  rcases gZ h with ⟨rfl,e⟩ | ⟨y,rfl,hy⟩
  . cases e
  . exact (dM prog w).strs y x t v hy
theorem Vd:∀ {k:dH} {u:Value},RelV (sX k) u->(qO P w).is k u=true
 | none,u,r=>by
  have e:u=.none:=r
  subst e
  rfl
 | some k,u,r=>zy (P:=P) (w:=w) r
theorem HR:∀ {ks:List dH} {us:List Value},Vals (ks.map sX) us->ItemsAre (qO P w) ks us
 | [],us,h=>by
  have e:=h.zero
  subst e
  exact .nil
 | k::ks,us,h=>by
  cases h with
  | cons r t=>exact .cons (Vd r) (HR t)
noncomputable def zH (P:Program) (w:World):List dH->Int:=(tupleKind (qO P w)).hash
abbrev XD:=List (List dH×Addr×V)
abbrev XV:=List (List dH×Addr×Value)
def XR:XD->XV->Prop:=Paired fun x y=>x.1=y.1/\x.2.1=y.2.1/\RelV x.2.2 y.2.2
def uv (hk:List dH->Int) (a:Addr) (xs:XD):Heap->Prop:=fun h=>xs.length<=sizeLine/\(a==sysModules)=false/\∃ ys:XV,XR xs ys/\(ys.map (·.1)).Nodup/\
 ∃ o es ep,h.get? a=some o/\o.ExactDict/\o.data=.dict es ep/\es.toList=ys.map fun y=>⟨hk y.1,.ref y.2.1,y.2.2⟩
noncomputable def dX (P:Program) (w:World) (a:Addr) (xs:XD):HO:=.ext (uv (zH P w) a xs)
theorem Ve {H:Hp} {h:Heap} {hk:List dH->Int} {a:Addr} {xs:XD} (p:uv hk a xs h):gh P w H h a (.ext (uv hk a xs)):=by
 have q:=p
 obtain ⟨_,_,ys,_,_,o,es,ep,e,_⟩:=q
 refine ⟨p,⟨o,e⟩,fun h1 h2 ⟨z,m,ys,r,n,o,es,ep,e,g⟩ k=>⟨z,m,ys,r,n,o,es,ep,k _ e,g⟩⟩
noncomputable def jL (xs:XD) (k:List dH):Option V:=(xs.find? fun x=>decide (x.1=k)).map (·.2.2)
theorem XR.at {k:List dH}:∀ {xs:XD} {ys:XV},XR xs ys->(∀ v,jL xs k=some v->∃ p,atKey ys k=some p/\RelV v p.2)/\(jL xs k=none->atKey ys k=none)
 | _,_,.nil=>⟨fun v h=>(by cases h),fun _=>rfl⟩
 | x::xs,y::ys,.cons ⟨h1,h2,h3⟩ t=>by
  have ih:=XR.at (k:=k) t
  unfold jL atKey at ih ⊢
  by_cases e:x.1=k
  . have e':y.1=k:=h1▸e
    rw [aay (by simpa using e),aay (by simpa using e')]
    exact ⟨fun v h=>by cases h; exact ⟨_,rfl,h3⟩,fun h=>by cases h⟩
  . have e':¬ y.1=k:=h1▸e
    rw [aaz (by simpa using e),aaz (by simpa using e')]
    exact ih
theorem XR.snoc {x:List dH×Addr×V} {y:List dH×Addr×Value} (h:x.1=y.1/\x.2.1=y.2.1/\RelV x.2.2 y.2.2):∀ {xs:XD} {ys:XV},XR xs ys->XR (xs++[x]) (ys++[y])
 | _,_,.nil=>.cons h .nil
 | _,_,.cons a t=>.cons a (XR.snoc h t)
theorem XR.mem:∀ {xs:XD} {ys:XV},XR xs ys->∀ y∈ys,∃ x∈xs,x.1=y.1/\x.2.1=y.2.1
 | _,_,.nil,y,h=>by cases h
 | x::xs,z::ys,.cons ⟨h1,h2,_⟩ t,y,h=>by
  rcases YC.mp h with rfl | h
  . exact ⟨x,Yv,h1,h2⟩
  . obtain ⟨x',m,e⟩:=XR.mem t y h
    exact ⟨x',YG _ m,e⟩
section
variable {prog:Program} {w:World} {A:Around} {E:Value->Shared->Prop} {s:Shared} {K:Type} [DecidableEq K] {knd:HeapKind prog w K}
theorem Hk {d a:Addr} {xs:List (K×Addr×Value)} {k:K} {v:Value} {Q:Value->Shared->Prop} (hu:knd.room A) (hkey:knd.is s.heap k a) (hm:s.heap.DictOfH knd d xs)
 (q1:∀ p,atKey xs k=some p->Q p.2 { s with toks:=s.toks+knd.draws k })
 (q2:atKey xs k=none->∀ h',h'.DictOfH knd d (xs++[(k,a,v)])->Heap.SameBut d s.heap h'->Q v { s with heap:=h',toks:=s.toks+knd.draws k })
 (hsz:xs.length<=sizeLine):wpAny (model prog w) A (dictSetDefault d (.ref a) v) Q E s:=by
 obtain ⟨o,es,ep,ho,hc,hd,he,his,hn⟩:=hm
 have hsz':=size_of_entries he
 unfold dictSetDefault
 refine wpAny_holding ?_
 refine aaY (knd.pyHash hu hkey (aaY (wpAny_dictFind_heap (s:={ s with toks:=s.toks+knd.draws k }) hu hkey ho hd he his hn (fun hno=>?_) fun j p hj=>?_)))
 . have hq:=atKey_none_of_get hno
   refine aaY (wpAny_rule (aaY (wpAny_updateDictKeys (hz:=by omega) (s:={ s with toks:=s.toks+knd.draws k }) ho hd (aa1 (q2 hq _ ?_ (aaj ..))))))
   refine ⟨_,_,ep+1,aao _ ho (Obj.isFreed_of_dict (Obj.data_mapDictKeys hd _)),hc.mapDictKeys _,Obj.data_mapDictKeys hd _,by simp [he,entryOfKey],fun x hx=>?_,?_⟩
   . rcases ZK.mp hx with hx | hx
     . exact knd.keeps (his x hx) ho hd (aaj ..)
     . rw [ZX.mp hx]
       exact knd.keeps hkey ho hd (aaj ..)
   . rw [Y6]
     refine aab.mpr ⟨hn,Zg.mpr ⟨Y8,aaq⟩,fun x hx y hy e=>not_mem_keys_of_get hno ?_⟩
     rw [YT,aap,ZX] at hy
     have q:x=k:=e.trans hy
     rw [← q]
     exact hx
 . refine aaY (wpAny_dictEntries (s:={ s with toks:=s.toks+knd.draws k }) ho hd ?_)
   rw [entry_at he j,hj]
   exact aaY (wpAny_rule (aa1 (q1 p (atKey_of_get hn hj))))
end
section
variable {X:Cx}
theorem Bl {σ:St} {H:Hp} {b:Addr} {k:List dH} (I:Inv X pins σ H s) (e:cQ X.K H b (k.map sX)):(tupleKind (qO P w)).is s.heap k b:=by
 obtain ⟨its,r,⟨o,h1,h2,n,h3⟩,_⟩:=I.tuple e
 exact ⟨o,its.toArray,n,h1,h2,h3,by simpa using HR r⟩
theorem Inv.dx {σ:St} {H:Hp} {a:Addr} {xs:XD} (I:Inv X pins σ H s) (e:H a=some (dX X.prog X.w a xs)) (hk:∀ x∈xs,cQ X.K H x.2.1 (x.1.map sX)):
 xs.length<=sizeLine/\(a==sysModules)=false/\∃ ys:XV,XR xs ys/\s.heap.DictOfH (tupleKind (qO X.prog X.w)) a ys:=by
 obtain ⟨⟨z,m,ys,r,n,o,es,ep,h1,h2,h3,h4⟩,_⟩:=I.hok a _ e
 refine ⟨z,m,ys,r,o,es,ep,h1,h2,h3,h4,fun y hy=>?_,n⟩
 obtain ⟨x,hx,e1,e2⟩:=r.mem y hy
 rw [← e1,← e2]
 exact Bl I (hk x hx)
theorem XR.len:∀ {xs:XD} {ys:XV},XR xs ys->ys.length=xs.length
 | _,_,.nil=>rfl
 | _,_,.cons _ t=>by rw [YB,YB,XR.len t]
def LK (P:Program) (w:World) (K:FG):V->List V->Hp->VK->Prop:=fun x vs H Q=>∃ a b xs k v,x=.ref a/\vs=[.ref b,v]/\H a=some (dX P w a xs)/\(∀ x∈xs,cQ K H x.2.1 (x.1.map sX))/\cQ K H b (k.map sX)/\xs.length<sizeLine/\
 match jL xs k with
 | some u=>Q u H
 | none=>Q v (upd H a (dX P w a (xs++[(k,b,v)])))
theorem LQ (hu:X.A.units+1<cLine):Lf X "dict.setdefault" (LK X.prog X.w X.K):=by
 intro pins s σ H x vs v us Q I rx rv h
 obtain ⟨a,b,xs,k,y,rfl,rfl,hH,hks,hb,hl,q⟩:=h
 cases rx
 obtain ⟨u,r,rfl,rb,ry⟩:=rv.two
 cases (show u=Value.ref b from rb)
 obtain ⟨z,m,ys,xr,dd⟩:=I.dx hH hks
 have hl':=xr.len
 refine call_meetsIn F.slot_dict_setdefault dd.typeIs F.entry_dict_setdefault (F.args_dict_setdefault_3 _ _ _) (S:=fun A R s'=>A=X.A/\R=wants (EP X pins σ Q) X.xe/\s'=s) (.of_wp fun A R s' ⟨e1,e2,e3⟩=>?_) ⟨rfl,rfl,rfl⟩
 subst e1 e2 e3
 unfold Builtin.«dict.setdefault»
 refine aaY ?_
 unfold Builtin.Dict.keyAndDefault
 refine aaY (wpAny_notOrdered_dict dd.typeIs ?_)
 refine (show wpAny _ _ (pure (a,Value.ref b,some r)) _ _ _ from aa1 ?_)
 dsimp only
 rw [aa0 (by rw [m]; exact Ze)]
 refine aaY (Hk (tupleKind_room_in1 hu) (Bl I hb) dd (fun p hp=>aa1 ⟨p.2,rfl,?_⟩) (fun hn h' dd' hs=>aa1 ⟨r,rfl,?_⟩) (by omega))
 . cases e:jL xs k with
   | none=>rw [(xr.at).2 e] at hp; cases hp
   | some w'=>
    rw [e] at q
    obtain ⟨p',hp',rp⟩:=(xr.at).1 w' e
    rw [hp] at hp'
    cases hp'
    exact ⟨_,_,I.tok _,rp,q⟩
 . cases e:jL xs k with
   | some w'=>
    obtain ⟨p',hp',_⟩:=(xr.at).1 w' e
    rw [hn] at hp'
    cases hp'
   | none=>
    rw [e] at q
    obtain ⟨o,es,ep,h1,h2,h3,h4,h5,h6⟩:=dd'
    refine ⟨_,_,xK I (by rw [hH]; exact True.intro) hs ⟨o,h1⟩ (Ve ⟨?_,m,ys++[(k,b,r)],xr.snoc ⟨rfl,rfl,ry⟩,h6,o,es,ep,h1,h2,h3,h4⟩),ry,q⟩
    rw [YD]
    exact hl
def QF (P:Program) (w:World) (K:FG):V->List V->Hp->VK->Prop:=fun x vs H Q=>∃ a b xs k v,x=.ref a/\vs=[.ref b,v]/\H a=some (dX P w a xs)/\(∀ x∈xs,cQ K H x.2.1 (x.1.map sX))/\cQ K H b (k.map sX)/\Q ((jL xs k).getD v) H
theorem RC (hu:X.A.units+1<cLine):Lf X "dict.get" (QF X.prog X.w X.K):=by
 intro pins s σ H x vs v us Q I rx rv h
 obtain ⟨a,b,xs,k,y,rfl,rfl,hH,hks,hb,q⟩:=h
 cases rx
 obtain ⟨u,r,rfl,rb,ry⟩:=rv.two
 cases (show u=Value.ref b from rb)
 obtain ⟨z,m,ys,xr,dd⟩:=I.dx hH hks
 refine call_meetsIn F.slot_dict_get dd.typeIs F.entry_dict_get (F.args_dict_get_3 _ _ _) (meetsH_dict_get_default (tupleKind (qO X.prog X.w)) a b m r) ⟨tupleKind_room_in1 hu,k,ys,Bl I hb,dd,?_⟩
 refine ⟨_,_,I.tok _,?_,q⟩
 cases e:jL xs k with
 | none=>
  rw [(xr.at).2 e]
  exact ry
 | some w'=>
  obtain ⟨p',hp',rp⟩:=(xr.at).1 w' e
  rw [hp']
  exact rp
theorem LR {o e1 e2:Expr} {to:TE} {t:TA} {apos cpos:Pos} {name:Str} {id:String} {r:V->List V->Hp->VK->Prop} (slot:Slot "dict" name id) (hty:typeOf (.builtin id)=pure (.type "method_descriptor")) (hm:Lf X id r) (ho:PE X o to) (ha:PA X [e1,e2] t)
 (hbase:attributeBase o name X.env (eval o X.env)=eval o X.env:=by rfl)
 (hfew:((backTo cpos (starEach [e1,e2] X.env)).all (fun x=>!x.1)&&(backToKw cpos (keywordEach [] X.env)).all (fun x=>x.1.isSome)
   && decide ([e1,e2].length+([]:List Keyword).length+(if ([]:List Keyword).isEmpty then 0 else 1)<30))=true:=by rfl)
 (hline:(apos.endLine==cpos.line)=true:=by rfl) (hs:starEach [e1,e2] X.env=(false,eval e1 X.env)::starEach [e2] X.env:=by rfl) (hplain:(backTo cpos (starEach [e2] X.env)).any (·.1)=false:=by rfl):
 PE X (.Call (.Attribute o name apos) [e1,e2] [] cpos) (fun σ H Q=>to σ H fun x H1=>(∃ a hk xs,x=.ref a/\H1 a=some (.ext (uv hk a xs)))/\t σ H1 fun vs H2=>r x vs H2 Q):=by
 intro pins s σ H Q I h
 refine wpAny_Call_method_late hbase hfew hline rfl (cj (ho pins s σ H _ I h) fun v s1 ⟨x,H1,I1,r1,⟨a,hk,xs,ea,hH⟩,q1⟩=>?_)
 subst ea
 cases r1
 obtain ⟨⟨_,_,ys,_,_,o,es,ep,h1,h2,_⟩,_⟩:=I1.hok a _ hH
 refine ⟨"dict",id,F.plainAttrs_dict,slot,hty,⟨o,h1,h2.1⟩,fun b e=>(by cases e; exact ⟨o,h1,h2.2.1⟩),?_⟩
 have hA:=ha cpos pins s1 σ H1 _ I1 q1
 rw [hs] at hA ⊢
 refine Calls.callWith_builtin (by show (false||(backTo cpos (starEach [e2] X.env)).any (·.1))=false; rw [hplain]<;>rfl) (Calls.evalArgs_plain ?_)
 exact cj hA fun us s2 ⟨vs,H2,I2,r2,q2⟩=>hm pins s2 σ H2 (.ref a) vs (.ref a) us Q I2 rfl r2 q2
theorem OJ {pos:Pos}:PE X (.Dict [] [] pos) (fun _ H Q=>∀ p,H p=none->Q (.ref p) (upd H p (dX X.prog X.w p []))):=fun pins s σ H Q I h=>
 wpAny_Dict_empty ⟨.ref s.heap.objs.size,_,I.laid (a:=s.heap.objs.size) (t':=s.toks) (fun _ _ q=>Yx _ q) (Yy _) (Ve (hk:=zH X.prog X.w) (xs:=[]) ⟨ZC _,aa4.mpr (Ne.symm (Zb I.big)),[],.nil,aaq,_,#[],0,Y4 _ rfl,⟨rfl,rfl,rfl⟩,rfl,rfl⟩),rfl,h _ (I.hok.fresh (Yy _))⟩
end
def Vf (a c:Addr):Heap->Prop:=fun h=>∃ o,W.InstAt h a o c none
section
variable {M:Model} {A:Around} {E:Value->Shared->Prop} {s:Shared} {base:Heap} {env:Env} {outer:List Env} {L e:Addr} {G:Addr->Prop} {Q:Unit->Shared->Prop}
end
section
variable {X:Cx} {pins:List (Addr×Obj)} {σ:St} {H:Hp} {s:Shared}
end
abbrev TJ:=St->Hp->(Hp->Prop)->Prop
section
variable {X:Cx} {es:List Expr} {n:Nat} {t:TJ}
end
section
variable {X:Cx}
end
section
variable {X:Cx} {pins:List (Addr×Obj)} {σ:St} {H H':Hp} {s s':Shared} {e C:Addr}
end
section
variable {X:Cx} {pins:List (Addr×Obj)} {σ:St} {H:Hp} {s:Shared} {e:Addr}
end
section
variable {X:Cx}
section
variable {pins:List (Addr×Obj)} {σ:St} {E:XK} {k:Nat} {f C:Addr} {fd:FuncData} {ps:List Str} {sp:Sp} {x:Str} {p pos:Pos} {e:Expr} {es:List Expr} {t:TA} {te:TE}
end
end
end L2
namespace L2
open PySem PySem.Spec PyProof.Rows PySem.W
section
variable {prog:Program} {w:World} {A:Around} {E:Value->Shared->Prop} {s:Shared} {K:FG} {e C:Addr} {oe:Obj}
end
section
variable {X:Cx} {pins:List (Addr×Obj)} {σ:St} {H H':Hp} {s s':Shared} {e C:Addr}
end
noncomputable def Ends.un (i:Nat) (D:Ends):Ends:={ nx:=fun σ H=>D.nx (σ.set i none) H,rt:=D.rt,bk:=fun σ H=>D.bk (σ.set i none) H,ct:=fun σ H=>D.ct (σ.set i none) H }
section
variable {X:Cx}
end
section
variable {X:Cx} {pins:List (Addr×Obj)} {σ:St} {H:Hp} {s:Shared} {a b:Addr} {kvs more:List (Key×V)} {A:Around} {E:Value->Shared->Prop}
theorem O1 {Q:Value->Shared->Prop} (I:Inv X pins σ H s) (e:H a=some (.dK kvs)) (e2:Rd H b (.dK more)) (hne:a≠b) (hl:kvs.length+more.length<=sizeLine) (h:∀ s',Inv X pins σ (upd H a (.dK (lU kvs more))) s'->Q .none s'):wpAny (model X.prog X.w) A (call (.builtin "dict.update") [.ref a,.ref b]) Q E s:=by
 obtain ⟨z,hd,vs,rel,dd⟩:=DR I.hok e
 obtain ⟨z2,hd2,vs2,rel2,dd2⟩:=u9 I.hok e2
 refine call_meetsIn F.slot_dict_update dd.typeIs F.entry_dict_update (F.args_dict_update_2 _ _) (meets_dict_update (dM X.prog X.w) a b hne hd2) ⟨vs,vs2,dd,dd2,by rw [← rel.length,← rel2.length]; exact hl,fun h' m1 _ hs=>h _ ?_⟩
 have he:∃ q,h'.get? a=some q:=let ⟨q,_,_,hq,_⟩:=m1; ⟨q,hq⟩
 exact xK I (by rw [e]; exact True.intro) hs he (Et (Zo (vW _ _) hl) hd (KV.merge rel2 rel) m1)
end
def QG (td ty:TE):TE:=fun σ H Q=>td σ H fun x H1=>∃ a,x=.ref a/\Xg H1 a/\ty σ H1 fun y H2=>∃ b kvs more,y=.ref b/\H2 a=some (.dK kvs)/\Rd H2 b (.dK more)/\a≠b/\kvs.length+more.length<=sizeLine/\Q .non (upd H2 a (.dK (lU kvs more)))
section
variable {X:Cx} {o e:Expr} {apos cpos:Pos} {td ty:TE}
theorem RD (ho:PE X o td) (he:PE X e ty) (m:M1 X o "update" apos e cpos):PE X (.Call (.Attribute o "update" apos) [e] [] cpos) (QG td ty):=by
 intro pins s σ H Q I h
 refine wpAny_Call_method m.base m.few m.line F.plainAttrs_dict F.slot_dict_update F.type_dict_update (cj (ho pins s σ H _ I h) fun u s1 ⟨x,H1,I1,rx,a,ex,d,q1⟩=>?_)
 subst ex
 obtain rfl:u=Value.ref a:=rx
 obtain ⟨t1,t2,_⟩:=U7 I1 d
 refine ⟨t1,t2,?_⟩
 rw [m.trees]
 refine Calls.callWith_builtin rfl (Calls.evalArgs_plain (Calls.spliced_cons (cj (he pins s1 σ H1 _ I1 q1) fun iv s2 ⟨y,H2,I2,ry,b,kvs,more,ey,ea,eb,hne,hl,q2⟩=>Calls.spliced_nil ?_)))
 subst ey
 obtain rfl:iv=Value.ref b:=ry
 exact O1 I2 ea eb hne hl fun s3 I3=>⟨.non,_,I3,rfl,q2⟩
theorem Ey:lZ X (.type "dict") (fun xs H Q=>∃ a kvs,xs=[.ref a]/\Rd H a (.dK kvs)/\∀ p,H p=none->Q (.ref p) (upd H p (.dK kvs))):=by
 intro pins s σ H xs us Q I r h
 obtain ⟨a,kvs,rfl,e,k⟩:=h
 obtain ⟨u,rfl,ru⟩:=vals1 r
 obtain rfl:u=Value.ref a:=ru
 exact Ot I e fun p s' hp I'=>⟨.ref p,_,I',rfl,k p hp⟩
end
end L2
namespace PL
open PySem PySem.Spec PyProof.Rows L2
inductive PV where
 | non
 | bl (b:Bool)
 | int (i:Int)
 | str (x:Str)
 | tup (ps:List PV)
 | lst (ps:List PV)
 | dk (ks:List Key) (ps:List PV)
 | dt (ks:List (List Key)) (ps:List PV)
 | obj (C:Str) (ks:List Str) (ps:List PV)
 | df (ks:List Key) (ps:List PV)
 | dtf (ks:List (List Key)) (ps:List PV)
 | dx (hk:List dH->Int) (ks:List (List dH)) (ps:List PV)
 | exc (C:Str)
 | ptr (n:Nat)
structure ZG where
 z:Hp
 g:List Addr
def iD (Z Z':ZG):Prop:=dG Z.z Z'.z/\Z.g <+: Z'.g
theorem iD.refl (Z:ZG):iD Z Z:=⟨dG.refl _,ZP _⟩
theorem iD.trans {Z Z1 Z2:ZG} (a:iD Z Z1) (b:iD Z1 Z2):iD Z Z2:=⟨a.1.trans b.1,a.2.trans b.2⟩
theorem RG {α:Type} {l r:List α} {n:Nat} {a:α} (h:l <+: r) (e:l[n]?=some a):r[n]?=some a:=by
 obtain ⟨t,rfl⟩:=h
 rw [Y9 (YF.mp e).1]; exact e
def CN (K:FG) (C:Str) (c:Addr):Prop:=W.nsIn K mainGlobals C=some (some (.ref c))
mutual
def Rep (K:FG) (Z:ZG):PV->V->Prop
 | .non,v=>v=.non
 | .bl b,v=>v=.bl b
 | .int i,v=>v=.int i
 | .str x,v=>v=.str x
 | .tup ps,v=>∃ a vs,v=.ref a/\cQ K Z.z a vs/\aN K Z ps vs
 | .lst ps,v=>∃ a vs,v=.ref a/\bU K Z.z a vs/\aN K Z ps vs
 | .dk ks ps,v=>∃ a kvs,v=.ref a/\Z.z a=some (.dK kvs)/\kvs.map (·.1)=ks/\aN K Z ps (kvs.map (·.2))
 | .dt ks ps,v=>∃ a kvs,v=.ref a/\Z.z a=some (.dT kvs)/\kvs.map (·.1)=ks/\aN K Z ps (kvs.map (·.2))
 | .obj C ks ps,v=>∃ a c dx fs,v=.ref a/\CN K C c/\Z.z a=some (.ins c dx fs)/\fs.map (·.1)=ks/\aN K Z ps (fs.map (·.2))
 | .df ks ps,v=>∃ a o kvs,v=.ref a/\Z.z a=some (.frz o (.dK kvs))/\kvs.map (·.1)=ks/\aN K Z ps (kvs.map (·.2))
 | .dtf ks ps,v=>∃ a o kvs,v=.ref a/\Z.z a=some (.frz o (.dT kvs))/\kvs.map (·.1)=ks/\aN K Z ps (kvs.map (·.2))
 | .dx hk ks ps,v=>∃ a xs,v=.ref a/\Z.z a=some (.ext (uv hk a xs))/\xs.map (·.1)=ks/\(∀ x∈xs,cQ K Z.z x.2.1 (x.1.map sX))/\aN K Z ps (xs.map (·.2.2))
 | .exc C,v=>∃ a c,v=.ref a/\CN K C c/\Z.z a=some (.ext (Vf a c))
 | .ptr n,v=>∃ a,v=.ref a/\Z.g[n]?=some a
def aN (K:FG) (Z:ZG):List PV->List V->Prop
 | [],vs=>vs=[]
 | p::ps,vs=>∃ v r,vs=v::r/\Rep K Z p v/\aN K Z ps r
end
theorem bU.same {K:FG} {Z Z':Hp} {a:Addr} {vs:List V} (s:dG Z Z') (h:bU K Z a vs):bU K Z' a vs:=s.seq h
theorem cQ.same {K:FG} {Z Z':Hp} {a:Addr} {vs:List V} (s:dG Z Z') (h:cQ K Z a vs):cQ K Z' a vs:=by
 rcases h with (h | ⟨o,h⟩) | h
 . exact .inl (.inl (s _ _ h))
 . exact .inl (.inr ⟨o,s _ _ h⟩)
 . exact .inr h
mutual
theorem Rep.mono {K:FG} {Z Z':ZG} (s:iD Z Z'):∀ {p:PV} {v:V},Rep K Z p v->Rep K Z' p v
 | .non,v,h=>h
 | .bl _,v,h=>h
 | .int _,v,h=>h
 | .str _,v,h=>h
 | .tup ps,v,h=>by
  unfold Rep at h ⊢
  obtain ⟨a,vs,e,h1,h2⟩:=h
  exact ⟨a,vs,e,cQ.same s.1 h1,aN.mono s h2⟩
 | .lst ps,v,h=>by
  unfold Rep at h ⊢
  obtain ⟨a,vs,e,h1,h2⟩:=h
  exact ⟨a,vs,e,bU.same s.1 h1,aN.mono s h2⟩
 | .dk ks ps,v,h=>by
  unfold Rep at h ⊢
  obtain ⟨a,kvs,e,h1,h2,h3⟩:=h
  exact ⟨a,kvs,e,s.1 _ _ h1,h2,aN.mono s h3⟩
 | .dt ks ps,v,h=>by
  unfold Rep at h ⊢
  obtain ⟨a,kvs,e,h1,h2,h3⟩:=h
  exact ⟨a,kvs,e,s.1 _ _ h1,h2,aN.mono s h3⟩
 | .obj C ks ps,v,h=>by
  unfold Rep at h ⊢
  obtain ⟨a,c,dx,fs,e,cn,h1,h2,h3⟩:=h
  exact ⟨a,c,dx,fs,e,cn,s.1 _ _ h1,h2,aN.mono s h3⟩
 | .df ks ps,v,h=>by
  unfold Rep at h ⊢
  obtain ⟨a,o,kvs,e,h1,h2,h3⟩:=h
  exact ⟨a,o,kvs,e,s.1 _ _ h1,h2,aN.mono s h3⟩
 | .dtf ks ps,v,h=>by
  unfold Rep at h ⊢
  obtain ⟨a,o,kvs,e,h1,h2,h3⟩:=h
  exact ⟨a,o,kvs,e,s.1 _ _ h1,h2,aN.mono s h3⟩
 | .dx hk ks ps,v,h=>by
  unfold Rep at h ⊢
  obtain ⟨a,xs,e,h1,h2,h4,h3⟩:=h
  exact ⟨a,xs,e,s.1 _ _ h1,h2,fun x hx=>cQ.same s.1 (h4 x hx),aN.mono s h3⟩
 | .exc C,v,h=>by
  unfold Rep at h ⊢
  obtain ⟨a,c,e,cn,h1⟩:=h
  exact ⟨a,c,e,cn,s.1 _ _ h1⟩
 | .ptr n,v,h=>by
  unfold Rep at h ⊢
  obtain ⟨a,e,h1⟩:=h
  exact ⟨a,e,RG s.2 h1⟩
theorem aN.mono {K:FG} {Z Z':ZG} (s:iD Z Z'):∀ {ps:List PV} {vs:List V},aN K Z ps vs->aN K Z' ps vs
 | [],vs,h=>by unfold aN at h ⊢; exact h
 | p::ps,vs,h=>by
  unfold aN at h ⊢
  obtain ⟨v,r,e,h1,h2⟩:=h
  exact ⟨v,r,e,Rep.mono s h1,aN.mono s h2⟩
end
section
variable {K:FG} {Z:ZG}
theorem aN.length:∀ {ps:List PV} {vs:List V},aN K Z ps vs->vs.length=ps.length
 | [],vs,h=>by unfold aN at h; subst h; rfl
 | p::ps,vs,h=>by
  unfold aN at h
  obtain ⟨v,r,rfl,_,h2⟩:=h
  simp [aN.length h2]
theorem aN.nil:aN K Z [] []:=by unfold aN; rfl
theorem aN.cons {p:PV} {ps:List PV} {v:V} {vs:List V} (h:Rep K Z p v) (t:aN K Z ps vs):aN K Z (p::ps) (v::vs):=by unfold aN; exact ⟨v,vs,rfl,h,t⟩
theorem aN.inv {p:PV} {ps:List PV} {vs:List V} (h:aN K Z (p::ps) vs):∃ v r,vs=v::r/\Rep K Z p v/\aN K Z ps r:=by unfold aN at h; exact h
theorem aN.inv0 {vs:List V} (h:aN K Z [] vs):vs=[]:=by unfold aN at h; exact h
theorem aN.append:∀ {ps qs:List PV} {vs ws:List V},aN K Z ps vs->aN K Z qs ws->aN K Z (ps++qs) (vs++ws)
 | [],qs,vs,ws,h,g=>by have:=h.inv0; subst this; exact g
 | p::ps,qs,vs,ws,h,g=>by
  obtain ⟨v,r,rfl,h1,h2⟩:=h.inv
  exact aN.cons h1 (aN.append h2 g)
theorem aN.get:∀ {ps:List PV} {vs:List V} {i:Nat} {p:PV},aN K Z ps vs->ps[i]?=some p->∃ v,vs[i]?=some v/\Rep K Z p v
 | [],vs,i,p,h,e=>by simp at e
 | q::ps,vs,0,p,h,e=>by
  obtain ⟨v,r,rfl,h1,h2⟩:=h.inv
  simp at e; subst e
  exact ⟨v,rfl,h1⟩
 | q::ps,vs,i+1,p,h,e=>by
  obtain ⟨v,r,rfl,h1,h2⟩:=h.inv
  obtain ⟨u,h3,h4⟩:=aN.get (i:=i) (p:=p) h2 (by simpa using e)
  exact ⟨u,by simpa using h3,h4⟩
theorem aN.getV {ps:List PV} {vs:List V} {i:Nat} {v:V} (h:aN K Z ps vs) (e:vs[i]?=some v):∃ p,ps[i]?=some p/\Rep K Z p v:=by
 have hi:i<ps.length:=by rw [← h.length]; exact (YF.mp e).1
 obtain ⟨u,h1,h2⟩:=h.get (i:=i) (p:=ps[i]) (YQ hi)
 rw [e] at h1; cases h1
 exact ⟨_,YQ hi,h2⟩
theorem aN.set {q:PV} {u:V} (hq:Rep K Z q u):∀ {ps:List PV} {vs:List V} (i:Nat),aN K Z ps vs->aN K Z (ps.set i q) (vs.set i u)
 | [],vs,i,h=>by have:=h.inv0; subst this; exact h
 | p::ps,vs,0,h=>by
  obtain ⟨v,r,rfl,h1,h2⟩:=h.inv
  exact aN.cons hq h2
 | p::ps,vs,i+1,h=>by
  obtain ⟨v,r,rfl,h1,h2⟩:=h.inv
  exact aN.cons h1 (aN.set hq i h2)
theorem aN.take:∀ {ps:List PV} {vs:List V} (n:Nat),aN K Z ps vs->aN K Z (ps.take n) (vs.take n)
 | [],vs,n,h=>by have:=h.inv0; subst this; simp; exact .nil
 | p::ps,vs,0,h=>by simp; exact .nil
 | p::ps,vs,n+1,h=>by
  obtain ⟨v,r,rfl,h1,h2⟩:=h.inv
  exact aN.cons h1 (aN.take n h2)
theorem aN.drop:∀ {ps:List PV} {vs:List V} (n:Nat),aN K Z ps vs->aN K Z (ps.drop n) (vs.drop n)
 | [],vs,n,h=>by have:=h.inv0; subst this; simp; exact .nil
 | p::ps,vs,0,h=>h
 | p::ps,vs,n+1,h=>by
  obtain ⟨v,r,rfl,h1,h2⟩:=h.inv
  exact aN.drop n h2
end
inductive Lc where
 | sh (p:PV)
 | own (p:PV)
noncomputable def Lc.pv:Lc->PV
 | .sh p=>p
 | .own p=>p
abbrev Mu:=List (Option PV)
structure Ev where
 vs:List (Option Lc)
 mu:Mu
abbrev Pd:=List (V×Lc)
def rB (K:FG) (Z:ZG) (H:Hp) (a:Addr):PV->Prop
 | .lst ps=>∃ vs,H a=some (.lst vs)/\aN K Z ps vs
 | .dk ks ps=>∃ kvs,H a=some (.dK kvs)/\kvs.map (·.1)=ks/\aN K Z ps (kvs.map (·.2))
 | .dt ks ps=>∃ kvs,H a=some (.dT kvs)/\kvs.map (·.1)=ks/\aN K Z ps (kvs.map (·.2))
 | .dx hk ks ps=>∃ xs,H a=some (.ext (uv hk a xs))/\xs.map (·.1)=ks/\(∀ x∈xs,cQ K Z.z x.2.1 (x.1.map sX))/\aN K Z ps (xs.map (·.2.2))
 | .exc C=>∃ c,CN K C c/\H a=some (.ext (Vf a c))
 | .obj C ks ps=>∃ c dx fs,CN K C c/\H a=some (.ins c dx fs)/\fs.map (·.1)=ks/\aN K Z ps (fs.map (·.2))
 | _=>False
def VR (K:FG) (H0:Hp) (Z:ZG) (H:Hp) (v:Option V):Option Lc->Prop
 | none=>True
 | some (.sh p)=>∃ x,v=some x/\Rep K Z p x
 | some (.own p)=>∃ a,v=some (.ref a)/\rB K Z H a p/\Z.z a=none/\H0 a=none
noncomputable def kj:Option V×Option Lc->Option Addr
 | (some (.ref a),some (.own _))=>some a
 | _=>none
abbrev Sl:=List (Option V×Option Lc)
def Slots (K:FG) (H0:Hp) (Z:ZG) (H:Hp) (L:Sl):Prop:=(∀ e∈L,VR K H0 Z H e.1 e.2)/\(L.filterMap kj).Nodup
noncomputable def cel (g:List Addr) (mu:Mu):Sl:=(g.map fun a=>some (V.ref a)).zip (mu.map fun o=>o.map Lc.own)
noncomputable def rC (g:List Addr) (mu:Mu):List Addr:=(cel g mu).filterMap kj
noncomputable def sl (g:List Addr) (σ:L2.St) (ρ:Ev) (pd:Pd):Sl:=cel g ρ.mu++(σ.zip ρ.vs++pd.map fun e=>(some e.1,some e.2))
def DW:HO->Prop
 | .tup _=>True
 | .frz _ _=>True
 | _=>False
structure jR (H0:Hp) (Z0 Z:ZG) (H:Hp):Prop where
 zh:dG Z.z H
 h0:dG H0 H
 z0:iD Z0 Z
 new:∀ b o,Z.z b=some o->Z0.z b=some o\/H0 b=none\/DW o
def SR (K:FG) (H0:Hp) (Z0:ZG) (σ:L2.St) (H:Hp) (ρ:Ev) (pd:Pd):Prop:=σ.length=ρ.vs.length/\∃ Z,ρ.mu.length=Z.g.length/\jR H0 Z0 Z H/\Slots K H0 Z H (sl Z.g σ ρ pd)
section
variable {K:FG} {H0 H H':Hp} {Z0 Z Z':ZG} {L L':Sl} {σ:L2.St} {ρ:Ev} {pd:Pd}
theorem Slots.sub (h:Slots K H0 Z H L) (s:List.Sublist L' L):Slots K H0 Z H L':=⟨fun e he=>h.1 e (s.subset he),h.2.sublist (s.filterMap kj)⟩
theorem Slots.perm (h:Slots K H0 Z H L) (s:List.Perm L' L):Slots K H0 Z H L':=⟨fun e he=>h.1 e (s.subset he),(s.filterMap kj).nodup_iff.mpr h.2⟩
theorem rB.keep {a:Addr} {p:PV} (h:rB K Z H a p) (z:iD Z Z') (e:H' a=H a):rB K Z' H' a p:=by
 cases p with
 | lst ps=>obtain ⟨vs,h1,h2⟩:=h; exact ⟨vs,by rw [e]; exact h1,h2.mono z⟩
 | dk ks ps=>obtain ⟨vs,h1,h2,h3⟩:=h; exact ⟨vs,by rw [e]; exact h1,h2,h3.mono z⟩
 | dt ks ps=>obtain ⟨vs,h1,h2,h3⟩:=h; exact ⟨vs,by rw [e]; exact h1,h2,h3.mono z⟩
 | dx hk ks ps=>obtain ⟨vs,h1,h2,h4,h3⟩:=h; exact ⟨vs,by rw [e]; exact h1,h2,fun x hx=>cQ.same z.1 (h4 x hx),h3.mono z⟩
 | exc C=>obtain ⟨c,cn,h1⟩:=h; exact ⟨c,cn,by rw [e]; exact h1⟩
 | obj C ks ps=>obtain ⟨c,dx,fs,cn,h1,h2,h3⟩:=h; exact ⟨c,dx,fs,cn,by rw [e]; exact h1,h2,h3.mono z⟩
 | _=>exact h
theorem rB.some {a:Addr} {p:PV} (h:rB K Z H a p):∃ o,H a=some o/\¬ DW o:=by
 cases p with
 | lst ps=>obtain ⟨vs,h1,h2⟩:=h; exact ⟨_,h1,fun z=>z⟩
 | dk ks ps=>obtain ⟨vs,h1,h2,h3⟩:=h; exact ⟨_,h1,fun z=>z⟩
 | dt ks ps=>obtain ⟨vs,h1,h2,h3⟩:=h; exact ⟨_,h1,fun z=>z⟩
 | dx hk ks ps=>obtain ⟨vs,h1,h2,h3⟩:=h; exact ⟨_,h1,fun z=>z⟩
 | exc C=>obtain ⟨c,cn,h1⟩:=h; exact ⟨_,h1,fun z=>z⟩
 | obj C ks ps=>obtain ⟨c,dx,fs,cn,h1,h2,h3⟩:=h; exact ⟨_,h1,fun z=>z⟩
 | _=>exact h.elim
theorem rB.rep {a:Addr} {p:PV} (h:rB K Z H a p) (z:iD Z Z') (e:Z'.z a=H a):Rep K Z' p (.ref a):=by
 cases p with
 | lst ps=>obtain ⟨vs,h1,h2⟩:=h; unfold Rep; exact ⟨a,vs,rfl,bU.of (by rw [e]; exact h1),h2.mono z⟩
 | dk ks ps=>obtain ⟨vs,h1,h2,h3⟩:=h; unfold Rep; exact ⟨a,vs,rfl,by rw [e]; exact h1,h2,h3.mono z⟩
 | dt ks ps=>obtain ⟨vs,h1,h2,h3⟩:=h; unfold Rep; exact ⟨a,vs,rfl,by rw [e]; exact h1,h2,h3.mono z⟩
 | dx hk ks ps=>obtain ⟨vs,h1,h2,h4,h3⟩:=h; unfold Rep; exact ⟨a,vs,rfl,by rw [e]; exact h1,h2,fun x hx=>cQ.same z.1 (h4 x hx),h3.mono z⟩
 | exc C=>obtain ⟨c,cn,h1⟩:=h; unfold Rep; exact ⟨a,c,rfl,cn,by rw [e]; exact h1⟩
 | obj C ks ps=>obtain ⟨c,dx,fs,cn,h1,h2,h3⟩:=h; unfold Rep; exact ⟨a,c,dx,fs,rfl,cn,by rw [e]; exact h1,h2,h3.mono z⟩
 | _=>exact h.elim
theorem Slots.step (h:Slots K H0 Z H L) (z:iD Z Z') (hk:∀ e∈L,∀ a,kj e=some a->H' a=H a/\Z'.z a=none):Slots K H0 Z' H' L:=by
 refine ⟨fun e he=>?_,h.2⟩
 have q:=h.1 e he
 obtain ⟨v,l⟩:=e
 cases l with
 | none=>trivial
 | some l=>
  cases l with
  | sh p=>obtain ⟨x,e1,e2⟩:=q; exact ⟨x,e1,e2.mono z⟩
  | own p=>
   obtain ⟨a,e1,e2,e3,e4⟩:=q
   have e1':v=some (.ref a):=e1
   subst e1'
   obtain ⟨k1,k2⟩:=hk _ he a rfl
   exact ⟨a,rfl,e2.keep z k1,k2,e4⟩
theorem jb (h:Slots K H0 Z H L) {e:Option V×Option Lc} (he:e∈L) {a:Addr} (ha:kj e=some a):Z.z a=none/\H0 a=none/\∃ o,H a=some o/\¬ DW o:=by
 obtain ⟨v,l⟩:=e
 have q:=h.1 _ he
 cases l with
 | none=>cases v with
  | none=>cases ha
  | some x=>cases x<;>cases ha
 | some l=>
  cases l with
  | sh p=>cases v with
   | none=>cases ha
   | some x=>cases x<;>cases ha
  | own p=>
   obtain ⟨b,e1,e2,e3,e4⟩:=q
   have e1':v=some (.ref b):=e1
   subst e1'
   cases ha
   exact ⟨e3,e4,e2.some⟩
theorem Slots.new (h:Slots K H0 Z H L) (zo:jR H0 Z0 Z H) {a:Addr} {o:HO} {p:PV} (ha:H a=none) (hp:rB K Z (upd H a o) a p):jR H0 Z0 Z (upd H a o)/\Slots K H0 Z (upd H a o) ((some (.ref a),some (.own p))::L):=by
 have hz:Z.z a=none:=zo.zh.free ha
 have h0:H0 a=none:=zo.h0.free ha
 refine ⟨⟨fun b u e=>by rw [cI (dZ e hz)]; exact zo.zh b u e,fun b u e=>by rw [cI (dZ e h0)]; exact zo.h0 b u e,zo.z0,zo.new⟩,?_⟩
 have hne:∀ e∈L,∀ b,kj e=some b->b≠a:=fun e he b hb=>by
  obtain ⟨_,_,o',h3,_⟩:=jb h he hb
  exact dZ h3 ha
 have st:=h.step (Z':=Z) (H':=upd H a o) (iD.refl Z) fun e he b hb=>⟨cI (hne e he b hb),(jb h he hb).1⟩
 refine ⟨fun e he=>?_,?_⟩
 . rcases YC.mp he with rfl | he
   . exact ⟨a,rfl,hp,hz,h0⟩
   . exact st.1 e he
 . show (a::L.filterMap kj).Nodup
   refine Zg.mpr ⟨fun hm=>?_,st.2⟩
   obtain ⟨e,he,hb⟩:=Zr.mp hm
   exact hne e he a hb rfl
noncomputable abbrev ZG.put (Z:ZG) (a:Addr) (o:HO):ZG:=⟨upd Z.z a o,Z.g⟩
theorem Slots.newF (h:Slots K H0 Z H L) (zo:jR H0 Z0 Z H) {a:Addr} {o:HO} (ha:H a=none):jR H0 Z0 (Z.put a o) (upd H a o)/\iD Z (Z.put a o)/\Slots K H0 (Z.put a o) (upd H a o) L:=by
 have hz:Z.z a=none:=zo.zh.free ha
 have h0:H0 a=none:=zo.h0.free ha
 have sz:dG Z.z (upd Z.z a o):=fun b u e=>by rw [cI (dZ e hz)]; exact e
 have lz:iD Z (Z.put a o):=⟨sz,ZP _⟩
 refine ⟨⟨fun b u e=>?_,fun b u e=>by rw [cI (dZ e h0)]; exact zo.h0 b u e,zo.z0.trans lz,fun b u e=>?_⟩,lz,?_⟩
 . have e:upd Z.z a o b=some u:=e
   unfold upd at e ⊢
   split
   . rename_i q; rw [aaZ q] at e; exact e
   . rename_i q; rw [aa0 q] at e; exact zo.zh b u e
 . have e:upd Z.z a o b=some u:=e
   unfold upd at e
   split at e
   . rename_i q; rw [q]; exact .inr (.inl h0)
   . exact zo.new b u e
 . refine h.step lz fun e he b hb=>?_
   obtain ⟨h1,h2,o',h3,_⟩:=jb h he hb
   have hba:=dZ h3 ha
   exact ⟨cI hba,by show upd Z.z a o b=none; rw [cI hba]; exact h1⟩
theorem Slots.freeze {v:Option V} {p:PV} (h:Slots K H0 Z H ((v,some (.own p))::L)) (zo:jR H0 Z0 Z H):∃ Z',iD Z Z'/\Z'.g=Z.g/\jR H0 Z0 Z' H/\Slots K H0 Z' H ((v,some (.sh p))::L):=by
 obtain ⟨a,e1,e2,e3,e4⟩:=h.1 _ Yv
 have e1':v=some (.ref a):=e1
 subst e1'
 obtain ⟨o,ho,_⟩:=e2.some
 have sz:dG Z.z (upd Z.z a o):=fun b u e=>by rw [cI (dZ e e3)]; exact e
 have lz:iD Z (Z.put a o):=⟨sz,ZP _⟩
 have nd:(a::L.filterMap kj).Nodup:=h.2
 have hL:Slots K H0 Z H L:=h.sub (YJ _ _)
 refine ⟨Z.put a o,lz,rfl,⟨fun b u e=>?_,zo.h0,zo.z0.trans lz,fun b u e=>?_⟩,fun e he=>?_,(Zg.mp nd).2⟩
 . have e:upd Z.z a o b=some u:=e
   unfold upd at e
   split at e
   . rename_i q; cases e; rw [q]; exact ho
   . exact zo.zh b u e
 . have e:upd Z.z a o b=some u:=e
   unfold upd at e
   split at e
   . rename_i q; rw [q]; exact .inr (.inl e4)
   . exact zo.new b u e
 . rcases YC.mp he with rfl | he
   . exact ⟨.ref a,rfl,e2.rep lz (by show upd Z.z a o a=_; rw [bT,ho])⟩
   . refine (hL.step (Z':=Z.put a o) (H':=H) lz fun e' he' b hb=>⟨rfl,?_⟩).1 e he
     have:b≠a:=fun q=>by
      rw [q] at hb
      exact (Zg.mp nd).1 (Zr.mpr ⟨e',he',hb⟩)
     show upd Z.z a o b=none
     rw [cI this]
     exact (jb hL he' hb).1
theorem Slots.write {a:Addr} {p q:PV} {o:HO} (h:Slots K H0 Z H ((some (.ref a),some (.own p))::L)) (zo:jR H0 Z0 Z H) (hq:rB K Z (upd H a o) a q):jR H0 Z0 Z (upd H a o)/\Slots K H0 Z (upd H a o) ((some (.ref a),some (.own q))::L):=by
 obtain ⟨b,e1,e2,e3,e4⟩:=h.1 _ Yv
 cases e1
 have nd:(a::L.filterMap kj).Nodup:=h.2
 have hL:Slots K H0 Z H L:=h.sub (YJ _ _)
 refine ⟨⟨fun b u e=>by rw [cI (dZ e e3)]; exact zo.zh b u e,fun b u e=>by rw [cI (dZ e e4)]; exact zo.h0 b u e,zo.z0,zo.new⟩,fun e he=>?_,nd⟩
 rcases YC.mp he with rfl | he
 . exact ⟨a,rfl,hq,e3,e4⟩
 . refine (hL.step (Z':=Z) (H':=upd H a o) (iD.refl Z) fun e' he' b hb=>⟨cI fun q=>?_,(jb hL he' hb).1⟩).1 e he
   rw [q] at hb
   exact (Zg.mp nd).1 (Zr.mpr ⟨e',he',hb⟩)
end
variable {K:FG} {H0 H:Hp} {Z0:ZG} {σ:L2.St} {ρ:Ev} {pd:Pd}
theorem wG {α:Type}:∀ {l:List α} {i:Nat} {a:α},l[i]?=some a->∃ R,List.Perm l (a::R)/\∀ b,List.Perm (l.set i b) (b::R)
 | [],i,a,h=>by simp at h
 | x::r,0,a,h=>by
  simp at h; subst h
  exact ⟨r,List.Perm.refl _,fun b=>List.Perm.refl _⟩
 | x::r,i+1,a,h=>by
  obtain ⟨R,h1,h2⟩:=wG (l:=r) (i:=i) (a:=a) (by simpa using h)
  refine ⟨x::R,(h1.cons x).trans (List.Perm.swap _ _ _),fun b=>?_⟩
  simp only [List.set_cons_succ]
  exact ((h2 b).cons x).trans (List.Perm.swap _ _ _)
theorem Bm {α β:Type}:∀ (l:List α) (r:List β) (i:Nat) (a:α) (b:β),(l.set i a).zip (r.set i b)=(l.zip r).set i (a,b)
 | [],r,i,a,b=>by simp
 | x::l,[],i,a,b=>by simp
 | x::l,y::r,0,a,b=>by simp
 | x::l,y::r,i+1,a,b=>by simp [Bm l r i a b]
theorem zip_get {α β:Type}:∀ {l:List α} {r:List β} {i:Nat} {a:α} {b:β},l[i]?=some a->r[i]?=some b->(l.zip r)[i]?=some (a,b)
 | [],r,i,a,b,h,g=>by simp at h
 | x::l,[],i,a,b,h,g=>by simp at g
 | x::l,y::r,0,a,b,h,g=>by simp at h g; simp [h,g]
 | x::l,y::r,i+1,a,b,h,g=>by
  have:=zip_get (l:=l) (r:=r) (i:=i) (by simpa using h) (by simpa using g)
  simpa using this
theorem aa8 {α:Type}:∀ {l:List α} {i:Nat} {a:α},l[i]?=some a->l.set i a=l
 | [],i,a,h=>by simp at h
 | x::r,0,a,h=>by simp at h; subst h; simp
 | x::r,i+1,a,h=>by simp [aa8 (l:=r) (i:=i) (a:=a) (by simpa using h)]
noncomputable def Ev.set (ρ:Ev) (i:Nat) (x:Option Lc):Ev:=⟨ρ.vs.set i x,ρ.mu⟩
section
variable {K:FG} {H0 H H':Hp} {Z0 Z:ZG} {σ:L2.St} {ρ:Ev} {pd pd':Pd} {v w:V} {l:Lc} {p:PV} {L:Sl} {g:List Addr}
theorem bV:List.Perm (sl g σ ρ ((v,l)::pd)) ((some v,some l)::sl g σ ρ pd):=by
 unfold sl
 exact (List.perm_middle.append_left _).trans Zk
theorem SR.top (h:SR K H0 Z0 σ H ρ ((v,l)::pd)):σ.length=ρ.vs.length/\∃ Z,ρ.mu.length=Z.g.length/\jR H0 Z0 Z H/\Slots K H0 Z H ((some v,some l)::sl Z.g σ ρ pd):=
 let ⟨e,Z,hg,z,s⟩:=h
 ⟨e,Z,hg,z,s.perm bV.symm⟩
theorem SR.mk (e:σ.length=ρ.vs.length) (hg:ρ.mu.length=Z.g.length) (z:jR H0 Z0 Z H) (s:Slots K H0 Z H ((some v,some l)::sl Z.g σ ρ pd)):SR K H0 Z0 σ H ρ ((v,l)::pd):=⟨e,Z,hg,z,s.perm bV⟩
theorem SR.pop (h:SR K H0 Z0 σ H ρ ((v,l)::pd)):SR K H0 Z0 σ H ρ pd:=
 let ⟨e,Z,hg,z,s⟩:=h.top
 ⟨e,Z,hg,z,s.sub (YJ _ _)⟩
theorem SR.perm (h:SR K H0 Z0 σ H ρ pd) (q:List.Perm pd' pd):SR K H0 Z0 σ H ρ pd':=
 let ⟨e,Z,hg,z,s⟩:=h
 ⟨e,Z,hg,z,s.perm (((q.map _).append_left _).append_left _)⟩
theorem SR.swap {l2:Lc} (h:SR K H0 Z0 σ H ρ ((v,l)::(w,l2)::pd)):SR K H0 Z0 σ H ρ ((w,l2)::(v,l)::pd):=h.perm (List.Perm.swap _ _ _)
theorem SR.freeze (h:SR K H0 Z0 σ H ρ ((v,l)::pd)):SR K H0 Z0 σ H ρ ((v,.sh l.pv)::pd):=by
 cases l with
 | sh p=>exact h
 | own p=>
  obtain ⟨e,Z,hg,z,s⟩:=h.top
  obtain ⟨Z',_,eg,z',s'⟩:=s.freeze z
  refine .mk (Z:=Z') e (by rw [eg]; exact hg) z' ?_
  rw [eg]; exact s'
theorem SR.sh (h:SR K H0 Z0 σ H ρ ((v,.sh p)::pd)):σ.length=ρ.vs.length/\∃ Z,ρ.mu.length=Z.g.length/\jR H0 Z0 Z H/\Rep K Z p v/\Slots K H0 Z H (sl Z.g σ ρ pd):=by
 obtain ⟨e,Z,hg,z,s⟩:=h.top
 obtain ⟨x,e1,e2⟩:=s.1 _ Yv
 cases e1
 exact ⟨e,Z,hg,z,e2,s.sub (YJ _ _)⟩
theorem SR.rep (h:SR K H0 Z0 σ H ρ ((v,.sh p)::pd)):∃ Z:ZG,dG Z.z H/\Rep K Z p v:=let ⟨_,Z,_,z,r,_⟩:=h.sh; ⟨Z,z.zh,r⟩
theorem SR.repH (h:SR K H0 Z0 σ H ρ ((v,.sh p)::pd)):∃ g,Rep K ⟨H,g⟩ p v:=let ⟨_,Z,_,z,r,_⟩:=h.sh; ⟨Z.g,r.mono (Z':=⟨H,Z.g⟩) ⟨z.zh,ZP _⟩⟩
theorem Slots.consS (s:Slots K H0 Z H L) (r:Rep K Z p v):Slots K H0 Z H ((some v,some (.sh p))::L):=by
 refine ⟨fun e he=>?_,?_⟩
 . rcases YC.mp he with rfl | he
   . exact ⟨v,rfl,r⟩
   . exact s.1 e he
 . have:kj (some v,some (Lc.sh p))=none:=by cases v<;>rfl
   rw [Zm this]
   exact s.2
theorem SR.scal (h:SR K H0 Z0 σ H ρ pd) (r:∀ Z,Rep K Z p v):SR K H0 Z0 σ H ρ ((v,.sh p)::pd):=
 let ⟨e,Z,hg,z,s⟩:=h
 .mk e hg z (s.consS (r Z))
theorem Ez {i:Nat} {o:Option Lc} (el:σ.length=ρ.vs.length) (e:ρ.vs[i]?=some o):∃ R:Sl,∃ x,σ[i]?=some x/\(∀ g pd,List.Perm (sl g σ ρ pd) ((x,o)::(cel g ρ.mu++(R++pd.map fun e=>(some e.1,some e.2)))))/\
 ∀ g pd y o',List.Perm (sl g (σ.set i y) (ρ.set i o') pd) ((y,o')::(cel g ρ.mu++(R++pd.map fun e=>(some e.1,some e.2)))):=by
 have hi:i<σ.length:=by rw [el]; exact (YF.mp e).1
 have hσ:σ[i]?=some σ[i]:=YQ hi
 obtain ⟨R,h1,h2⟩:=wG (zip_get hσ e)
 refine ⟨R,σ[i],hσ,fun g pd=>?_,fun g pd y o'=>?_⟩
 . unfold sl
   exact ((h1.append_right _).append_left _).trans Zk
 . unfold sl
   show List.Perm (cel g ρ.mu++((σ.set i y).zip (ρ.vs.set i o')++_)) _
   rw [Bm]
   exact (((h2 _).append_right _).append_left _).trans Zk
theorem Ev.set_mu {i:Nat} {x:Option Lc}:(ρ.set i x).mu=ρ.mu:=rfl
theorem Ev.set_len {i:Nat} {x:Option Lc}:(ρ.set i x).vs.length=ρ.vs.length:=by show (ρ.vs.set i x).length=_; rw [YX]
theorem SR.var {i:Nat} (h:SR K H0 Z0 σ H ρ pd) (e:ρ.vs[i]?=some (some l)):∃ v,σ[i]?=some (some v)/\SR K H0 Z0 σ H (ρ.set i (some (.sh l.pv))) ((v,.sh l.pv)::pd):=by
 obtain ⟨el,Z,hg,z,s⟩:=h
 obtain ⟨R,x,hσ,h1,h2⟩:=Ez el e
 have s1:=s.perm (h1 Z.g pd).symm
 have el':σ.length=(ρ.set i (some (.sh l.pv))).vs.length:=by rw [Ev.set_len]; exact el
 have fin:∀ {Z':ZG} {v:V},Z'.g=Z.g->jR H0 Z0 Z' H->x=some v->Slots K H0 Z' H ((x,some (.sh l.pv))::(cel Z.g ρ.mu++(R++pd.map fun e=>(some e.1,some e.2))))->Rep K Z' l.pv v->SR K H0 Z0 σ H (ρ.set i (some (.sh l.pv))) ((v,.sh l.pv)::pd):=
  fun {Z' v} eg z ev s2 r=>by
   have p2:=h2 Z.g pd x (some (.sh l.pv))
   rw [aa8 hσ] at p2
   refine .mk (Z:=Z') el' (by rw [eg,Ev.set_mu]; exact hg) z ?_
   rw [eg]
   exact (s2.perm p2).consS r
 cases l with
 | sh p=>
  obtain ⟨v,e1,e2⟩:=s1.1 _ Yv
  exact ⟨v,hσ.trans (congrArg some e1),fin rfl z e1 s1 e2⟩
 | own p=>
  obtain ⟨Z',sz,eg,z',s'⟩:=s1.freeze z
  obtain ⟨v,e1,e2⟩:=s'.1 _ Yv
  exact ⟨v,hσ.trans (congrArg some e1),fin eg z' e1 s' e2⟩
theorem SR.store {i:Nat} (h:SR K H0 Z0 σ H ρ ((v,l)::pd)) (hi:i<ρ.vs.length):SR K H0 Z0 (σ.set i (some v)) H (ρ.set i (some l)) pd:=by
 obtain ⟨el,Z,hg,z,s⟩:=h.top
 have hρ:ρ.vs[i]?=some ρ.vs[i]:=YQ hi
 obtain ⟨R,x,hσ,h1,h2⟩:=Ez el hρ
 refine ⟨by rw [YX,Ev.set_len]; exact el,Z,hg,z,?_⟩
 refine (Slots.sub (L:=(some v,some l)::((x,ρ.vs[i])::(cel Z.g ρ.mu++(R++pd.map fun e=>(some e.1,some e.2))))) (s.perm ((h1 Z.g pd).symm.cons _)) ?_).perm (h2 Z.g pd (some v) (some l))
 exact (YJ _ _).cons_cons _
theorem SR.take {i:Nat} (h:SR K H0 Z0 σ H ρ pd) (e:ρ.vs[i]?=some (some l)):∃ v,σ[i]?=some (some v)/\SR K H0 Z0 σ H (ρ.set i none) ((v,l)::pd):=by
 obtain ⟨el,Z,hg,z,s⟩:=h
 obtain ⟨R,x,hσ,h1,h2⟩:=Ez el e
 have s1:=s.perm (h1 Z.g pd).symm
 obtain ⟨v,hv⟩:∃ v,x=some v:=by
  have q:=s1.1 _ Yv
  cases l with
  | sh p=>obtain ⟨x,e1,_⟩:=q; exact ⟨x,e1⟩
  | own p=>obtain ⟨a,e1,_⟩:=q; exact ⟨_,e1⟩
 subst hv
 refine ⟨v,hσ,.mk (Z:=Z) (by rw [Ev.set_len]; exact el) hg z ?_⟩
 have p2:=h2 Z.g pd (some v) none
 rw [aa8 hσ] at p2
 refine Slots.perm ?_ (p2.cons _)
 have ht:Slots K H0 Z H ((some v,none)::(some v,some l)::(cel Z.g ρ.mu++(R++pd.map fun e=>(some e.1,some e.2)))):=by
  refine ⟨fun e he=>?_,?_⟩
  . rcases YC.mp he with rfl | he
    . trivial
    . exact s1.1 e he
  . have:kj (some v,none)=none:=by cases v<;>rfl
    rw [Zm this]
    exact s1.2
 exact ht.perm (List.Perm.swap _ _ _)
theorem SR.put {i:Nat} (h:SR K H0 Z0 σ H ρ ((v,l)::pd)) (e:σ[i]?=some (some v)):SR K H0 Z0 σ H (ρ.set i (some l)) pd:=by
 have hi:i<ρ.vs.length:=by rw [← h.1]; exact (YF.mp e).1
 have:=h.store hi
 rw [aa8 e] at this
 exact this
end
abbrev EF:=Ev->Option (Lc×Ev)
abbrev TF:=Ev->Option (Bool×Ev)
abbrev AF:=Ev->Option (List Lc×Ev)
inductive Fl where
 | nx (ρ:Ev)
 | rt (r:Lc) (ρ:Ev)
 | bk (ρ:Ev)
 | ct (ρ:Ev)
abbrev SF:=Ev->Option Fl
def tP (K:FG) (f:EF):TE:=fun σ H Q=>∃ H0 Z0 ρ pd r ρ',SR K H0 Z0 σ H ρ pd/\f ρ=some (r,ρ')/\∀ v H',SR K H0 Z0 σ H' ρ' ((v,r)::pd)->Q v H'
def gG (K:FG) (f:TF):TT:=fun σ H Q=>∃ H0 Z0 ρ pd b ρ',SR K H0 Z0 σ H ρ pd/\f ρ=some (b,ρ')/\∀ H',SR K H0 Z0 σ H' ρ' pd->Q b H'
def jc (K:FG) (f:AF):TA:=fun σ H Q=>∃ H0 Z0 ρ pd ls ρ',SR K H0 Z0 σ H ρ pd/\f ρ=some (ls,ρ')/\∀ vs H',vs.length=ls.length->SR K H0 Z0 σ H' ρ' (vs.zip ls++pd)->Q vs H'
def EY (K:FG) (H0:Hp) (Z0:ZG) (pd:Pd) (D:Ends):Fl->Prop
 | .nx ρ'=>∀ σ' H',SR K H0 Z0 σ' H' ρ' pd->D.nx σ' H'
 | .rt r ρ'=>∀ v σ' H',SR K H0 Z0 σ' H' ρ' ((v,r)::pd)->D.rt v H'
 | .bk ρ'=>∀ σ' H',SR K H0 Z0 σ' H' ρ' pd->D.bk σ' H'
 | .ct ρ'=>∀ σ' H',SR K H0 Z0 σ' H' ρ' pd->D.ct σ' H'
def fK (K:FG) (g:SF):TS:=fun D σ H=>∃ H0 Z0 ρ pd fl,SR K H0 Z0 σ H ρ pd/\g ρ=some fl/\EY K H0 Z0 pd D fl
section
variable {X:Cx} {e:Expr} {es:List Expr} {st:Stmt} {sts:List Stmt}
theorem PE.imp {t t':TE} (h:PE X e t) (i:∀ σ H Q,t' σ H Q->t σ H Q):PE X e t':=fun pins s σ H Q I q=>h pins s σ H Q I (i σ H Q q)
theorem PT.imp {t t':TT} (h:PT X e t) (i:∀ σ H Q,t' σ H Q->t σ H Q):PT X e t':=fun pins s σ H Q I q=>h pins s σ H Q I (i σ H Q q)
theorem PW.imp {t t':TT} (h:PW X e t) (i:∀ σ H Q,t' σ H Q->t σ H Q):PW X e t':=fun wh pins s σ H Q I q=>h wh pins s σ H Q I (i σ H Q q)
theorem PA.imp {t t':TA} (h:PA X es t) (i:∀ σ H Q,t' σ H Q->t σ H Q):PA X es t':=fun pos pins s σ H Q I q=>h pos pins s σ H Q I (i σ H Q q)
theorem PS.imp {t t':TS} (h:PS X st t) (i:∀ D σ H,t' D σ H->t D σ H):PS X st t':=fun pins s σ H D I q=>h pins s σ H D I (i D σ H q)
theorem iB.imp {t t':TS} (h:iB X sts t) (i:∀ D σ H,t' D σ H->t D σ H):iB X sts t':=fun pins s σ H D I q=>h pins s σ H D I (i D σ H q)
noncomputable def aa (i:Nat):EF:=fun ρ=>match ρ.vs[i]? with
 | some (some l)=>some (.sh l.pv,ρ.set i (some (.sh l.pv)))
 | _=>none
noncomputable def eC (p:PV):EF:=fun ρ=>some (.sh p,ρ)
theorem qv {i:Nat} (h:PE X e (pX i)):PE X e (tP X.K (aa i)):=PE.imp h fun σ H Q q=>by
 obtain ⟨H0,Z0,ρ,pd,r,ρ',s,f,k⟩:=q
 unfold aa at f
 split at f
 . rename_i l e1
   cases f
   obtain ⟨v,h1,h2⟩:=s.var e1
   exact ⟨v,h1,k v H h2⟩
 . cases f
theorem qc {p:PV} {v:V} (h:PE X e (tC v)) (r:∀ Z,Rep X.K Z p v):PE X e (tP X.K (eC p)):=PE.imp h fun σ H Q q=>by
 obtain ⟨H0,Z0,ρ,pd,l,ρ',s,f,k⟩:=q
 cases f
 exact k v H (s.scal r)
theorem eN {i:Int}:∀ Z,Rep K Z (.int i) (.int i):=fun Z=>by unfold Rep; rfl
theorem uw {i:Str}:∀ Z,Rep K Z (.str i) (.str i):=fun Z=>by unfold Rep; rfl
theorem eQ {i:Bool}:∀ Z,Rep K Z (.bl i) (.bl i):=fun Z=>by unfold Rep; rfl
theorem xM:∀ Z,Rep K Z .non .non:=fun Z=>by unfold Rep; rfl
def iQ (K:FG) (r:R2) (g:PV->PV->Option Lc):Prop:=∀ H0 Z0 σ ρ pd H v w x y l Q,SR K H0 Z0 σ H ρ ((w,.sh y)::(v,.sh x)::pd)->g x y=some l->(∀ u H',SR K H0 Z0 σ H' ρ ((u,l)::pd)->Q u H')->r v w H Q
noncomputable def aq (g:PV->PV->Option Lc) (fa fb:EF):EF:=fun ρ=>(fa ρ).bind fun x=>(fb x.2).bind fun y=>(g x.1.pv y.1.pv).map fun l=>(l,y.2)
theorem O2 {g:PV->PV->Option Lc} {fa fb:EF} {ρ ρ':Ev} {l:Lc} (h:aq g fa fb ρ=some (l,ρ')):∃ x ρ1 y,fa ρ=some (x,ρ1)/\fb ρ1=some (y,ρ')/\g x.pv y.pv=some l:=by
 unfold aq at h
 cases h1:fa ρ with
 | none=>rw [h1] at h; cases h
 | some x=>
  rw [h1,Yu] at h
  cases h2:fb x.2 with
  | none=>rw [h2] at h; cases h
  | some y=>
   rw [h2,Yu] at h
   cases h3:g x.1.pv y.1.pv with
   | none=>rw [h3] at h; cases h
   | some z=>
    rw [h3] at h
    cases h
    exact ⟨x.1,x.2,y.1,rfl,h2,h3⟩
theorem Fb {r:R2} {g:PV->PV->Option Lc} (hs:iQ X.K r g) {fa fb:EF}:∀ σ H Q,tP X.K (aq g fa fb) σ H Q->Hw r (tP X.K fa) (tP X.K fb) σ H Q:=fun σ H Q q=>by
 obtain ⟨H0,Z0,ρ,pd,l,ρ',s,f,k⟩:=q
 obtain ⟨x,ρ1,y,h1,h2,h3⟩:=O2 f
 refine ⟨H0,Z0,ρ,pd,x,ρ1,s,h1,fun v H1 s1=>⟨H0,Z0,ρ1,_,y,ρ',s1,h2,fun w H2 s2=>?_⟩⟩
 exact hs H0 Z0 σ ρ' pd H2 v w x.pv y.pv l Q (s2.freeze.swap.freeze.swap) h3 fun u H' s3=>k u H' s3
theorem aV {op:Operator} {a b:Expr} {pos:Pos} {r:R2} {g:PV->PV->Option Lc} {fa fb:EF} (ho:fB X (binaryOp op) r) (hs:iQ X.K r g) (ha:PE X a (tP X.K fa)) (hb:PE X b (tP X.K fb)):PE X (.BinOp a op b pos) (tP X.K (aq g fa fb)):=
 PE.imp (WL ho ha hb) (Fb hs)
theorem ud {op:CmpOp} {a b:Expr} {pos:Pos} {r:R2} {g:PV->PV->Option Lc} {fa fb:EF} (ho:fB X (compareOp op) r) (hs:iQ X.K r g) (ha:PE X a (tP X.K fa)) (hb:PE X b (tP X.K fb)) (hm:behindInMarks op b=false):PE X (.Compare a [op] [b] pos) (tP X.K (aq g fa fb)):=
 PE.imp (Rh ho ha hb hm) (Fb hs)
noncomputable def sY (C:Int->Int->Bool) (g:Int->Int->PV):PV->PV->Option Lc
 | .int i,.int j=>if C i j=true then some (.sh (g i j)) else none
 | _,_=>none
theorem Fd {C:Int->Int->Bool} {g:Int->Int->PV} {x y:PV} {l:Lc} (h:sY C g x y=some l):∃ i j,x=.int i/\y=.int j/\C i j=true/\l=.sh (g i j):=by
 cases x with
 | int i=>
  cases y with
  | int j=>
   have h':(if C i j=true then some (Lc.sh (g i j)) else none)=some l:=h
   split at h'
   . rename_i c; cases h'; exact ⟨i,j,rfl,rfl,c,rfl⟩
   . cases h'
  | _=>cases h
 | _=>cases h
theorem bI {Z:ZG} {i:Int} {v:V} (h:Rep K Z (.int i) v):v=.int i:=by unfold Rep at h; exact h
theorem dj {Z:ZG} {i:Str} {v:V} (h:Rep K Z (.str i) v):v=.str i:=by unfold Rep at h; exact h
theorem dg {Z:ZG} {i:Bool} {v:V} (h:Rep K Z (.bl i) v):v=.bl i:=by unfold Rep at h; exact h
theorem gD {Z:ZG} {v:V} (h:Rep K Z .non v):v=.non:=by unfold Rep at h; exact h
theorem zJ {C':Int->Int->Prop} {C:Int->Int->Bool} {gV:Int->Int->V} {g:Int->Int->PV} (hc:∀ i j,C i j=true->C' i j) (hg:∀ i j Z,Rep K Z (g i j) (gV i j)):iQ K (rI C' gV) (sY C g):=by
 intro H0 Z0 σ ρ pd H v w x y l Q s e k
 obtain ⟨i,j,rfl,rfl,c,rfl⟩:=Fd e
 obtain ⟨_,rw'⟩:=s.repH
 obtain ⟨_,rv'⟩:=s.pop.repH
 have hw:=bI rw'
 have hv:=bI rv'
 exact ⟨i,j,hv,hw,hc i j c,k _ H (s.pop.pop.scal (hg i j))⟩
theorem wH {gV:Int->Int->V} {g:Int->Int->PV} (hg:∀ i j Z,Rep K Z (g i j) (gV i j)):iQ K (q9 gV) (sY (fun _ _=>true) g):=by
 intro H0 Z0 σ ρ pd H v w x y l Q s e k
 obtain ⟨i,j,rfl,rfl,c,rfl⟩:=Fd e
 obtain ⟨_,rw'⟩:=s.repH
 obtain ⟨_,rv'⟩:=s.pop.repH
 exact ⟨i,j,bI rv',bI rw',k _ H (s.pop.pop.scal (hg i j))⟩
end
section
variable {X:Cx}
section
variable {K:FG} {H0 H H':Hp} {Z0 Z:ZG} {σ:L2.St} {ρ:Ev} {pd pd':Pd} {v w:V} {l:Lc} {p:PV} {g:List Addr}
theorem SR.newO (h:SR K H0 Z0 σ H ρ pd) {a:Addr} {o:HO} (ha:H a=none) (hp:∀ Z,jR H0 Z0 Z H->Slots K H0 Z H (sl Z.g σ ρ pd)->rB K Z (upd H a o) a p):SR K H0 Z0 σ (upd H a o) ρ ((.ref a,.own p)::pd):=by
 obtain ⟨e,Z,hg,z,s⟩:=h
 obtain ⟨z',s'⟩:=s.new z ha (hp Z z s)
 exact .mk e hg z' s'
theorem DX {α:Type} (A B C:List α):List.Perm (A++(B++C)) (B++(A++C)):=by
 rw [← Y0 A B C,← Y0 B A C]
 exact List.perm_append_comm.append_right _
theorem Fe {pe:Pd}:List.Perm (sl g σ ρ (pe++pd)) (pe.map (fun e=>((some e.1:Option V),(some e.2:Option Lc)))++sl g σ ρ pd):=by
 unfold sl
 rw [Y6]
 exact ((DX _ _ _).append_left _).trans (DX _ _ _)
theorem SR.freezeAll:∀ {vs:List V} {ls:List Lc} {pd:Pd},SR K H0 Z0 σ H ρ (vs.zip ls++pd)->SR K H0 Z0 σ H ρ (vs.zip (ls.map fun l=>.sh l.pv)++pd)
 | [],ls,pd,h=>by simpa using h
 | v::vs,[],pd,h=>by simpa using h
 | v::vs,l::ls,pd,h=>by
  have h1:SR K H0 Z0 σ H ρ ((v,l)::(vs.zip ls++pd)):=h
  have h2:=h1.freeze.perm (pd':=vs.zip ls++((v,.sh l.pv)::pd)) Zk
  have h3:=SR.freezeAll h2
  exact h3.perm (pd':=(v,.sh l.pv)::(vs.zip (ls.map fun l=>.sh l.pv)++pd)) Zk.symm
theorem Slots.repl {L:Sl}:∀ {vs:List V} {ps:List PV},vs.length=ps.length->Slots K H0 Z H ((vs.zip (ps.map fun p=>Lc.sh p)).map (fun e=>(some e.1,some e.2))++L)->aN K Z ps vs
 | [],[],_,_=>.nil
 | v::vs,p::ps,e,h=>by
  have h1:Slots K H0 Z H ((some v,some (.sh p))::((vs.zip (ps.map fun p=>Lc.sh p)).map (fun e=>(some e.1,some e.2))++L)):=h
  obtain ⟨x,e1,e2⟩:=h1.1 _ Yv
  cases e1
  exact aN.cons e2 (Slots.repl (by simpa using e) (h1.sub (YJ _ _)))
 | [],p::ps,e,_=>by simp at e
 | v::vs,[],e,_=>by simp at e
theorem SR.repl {vs:List V} {ls:List Lc} (h:SR K H0 Z0 σ H ρ (vs.zip ls++pd)) (e:vs.length=ls.length):σ.length=ρ.vs.length/\∃ Z,ρ.mu.length=Z.g.length/\jR H0 Z0 Z H/\aN K Z (ls.map Lc.pv) vs/\Slots K H0 Z H (sl Z.g σ ρ pd):=by
 obtain ⟨el,Z,hg,z,s⟩:=h.freezeAll
 have hm:(ls.map fun l=>Lc.sh l.pv)=(ls.map Lc.pv).map fun p=>Lc.sh p:=by rw [Zc]; rfl
 rw [hm] at s
 have pm:List.Perm (sl Z.g σ ρ (vs.zip ((ls.map Lc.pv).map fun p=>Lc.sh p)++pd)) ((vs.zip ((ls.map Lc.pv).map fun p=>Lc.sh p)).map (fun e=>(some e.1,some e.2))++sl Z.g σ ρ pd):=Fe
 have s':=s.perm pm.symm
 exact ⟨el,Z,hg,z,Slots.repl (by simpa using e) s',s'.sub (aac _ _)⟩
end
theorem yo {α:Type} {l:List α} (h:l.length=1):∃ a,l=[a]:=List.length_eq_one_iff.mp h
theorem ln2 {α:Type} {l:List α} (h:l.length=2):∃ a b,l=[a,b]:=by
 cases l with
 | nil=>cases h
 | cons a l=>obtain ⟨b,rfl⟩:=yo (aaU h); exact ⟨a,b,rfl⟩
theorem Xh {α:Type} {l:List α} (h:l.length=3):∃ a b c,l=[a,b,c]:=by
 cases l with
 | nil=>cases h
 | cons a l=>obtain ⟨b,c,rfl⟩:=ln2 (aaU h); exact ⟨a,b,c,rfl⟩
theorem Xi {α:Type} {l:List α} (h:l.length=4):∃ a b c d,l=[a,b,c,d]:=by
 cases l with
 | nil=>cases h
 | cons a l=>obtain ⟨b,c,d,rfl⟩:=Xh (aaU h); exact ⟨a,b,c,d,rfl⟩
theorem Ym {α:Type} {l:List α} (h:l.length=5):∃ a b c d e,l=[a,b,c,d,e]:=by
 cases l with
 | nil=>cases h
 | cons a l=>obtain ⟨b,c,d,e,rfl⟩:=Xi (aaU h); exact ⟨a,b,c,d,e,rfl⟩
noncomputable def ao:AF:=fun ρ=>some ([],ρ)
noncomputable def aj (f:EF) (g:AF):AF:=fun ρ=>(f ρ).bind fun x=>(g x.2).map fun y=>(x.1::y.1,y.2)
theorem au:PA X [] (jc X.K ao):=PA.imp gQ fun σ H Q q=>by
 obtain ⟨H0,Z0,ρ,pd,l,ρ',s,f,k⟩:=q
 cases f
 exact k [] H rfl s
theorem ak {e:Expr} {es:List Expr} {f:EF} {g:AF} (ha:PE X e (tP X.K f)) (hr:PA X es (jc X.K g)) (hs:starEach (e::es) X.env=(false,eval e X.env)::starEach es X.env:=by rfl):PA X (e::es) (jc X.K (aj f g)):=PA.imp (cG ha hr hs) fun σ H Q q=>by
 obtain ⟨H0,Z0,ρ,pd,l,ρ',s,h,k⟩:=q
 unfold aj at h
 cases h1:f ρ with
 | none=>rw [h1] at h; cases h
 | some x=>
  rw [h1,Yu] at h
  cases h2:g x.2 with
  | none=>rw [h2] at h; cases h
  | some y=>
   rw [h2] at h
   cases h
   refine ⟨H0,Z0,ρ,pd,x.1,x.2,s,h1,fun v H1 s1=>⟨H0,Z0,x.2,_,y.1,y.2,s1,h2,fun vs H2 e2 s2=>?_⟩⟩
   refine k (v::vs) H2 (by simp [e2]) (s2.perm (pd':=(v,x.1)::(vs.zip y.1++pd)) Zk.symm)
noncomputable def bW (g:AF):EF:=fun ρ=>(g ρ).bind fun y=>if y.1.length<=1000 then some (.own (.lst (y.1.map Lc.pv)),y.2) else none
noncomputable def bh (g:AF):EF:=fun ρ=>(g ρ).bind fun y=>if y.1.length<=1000 then some (.sh (.tup (y.1.map Lc.pv)),y.2) else none
theorem small {n:Nat} (h:n<=100000):n<=sizeLine:=by rw [sizeLine_eq]; omega
theorem fM {es:List Expr} {g:AF} {pos:Pos} (h:PA X es (jc X.K g)):PE X (.List es pos) (tP X.K (bW g)):=PE.imp (Uw h) fun σ H Q q=>by
 obtain ⟨H0,Z0,ρ,pd,l,ρ',s,f,k⟩:=q
 unfold bW at f
 cases h2:g ρ with
 | none=>rw [h2] at f; cases f
 | some y=>
  rw [h2,Yu] at f
  split at f
  . rename_i hl
    cases f
    refine ⟨H0,Z0,ρ,pd,y.1,y.2,s,h2,fun vs H2 e2 s2=>⟨small (by omega),fun p hp=>k _ _ ?_⟩⟩
    obtain ⟨el,Z,hg,z,r,sl'⟩:=s2.repl e2
    obtain ⟨z',s'⟩:=sl'.new (o:=.lst vs) (p:=.lst (y.1.map Lc.pv)) z hp ⟨vs,bT,r⟩
    exact .mk el hg z' s'
  . cases f
theorem dI {es:List Expr} {g:AF} {x1} {pos:Pos} (h:PA X es (jc X.K g)):PE X (.Tuple es x1 pos) (tP X.K (bh g)):=PE.imp (Ld h) fun σ H Q q=>by
 obtain ⟨H0,Z0,ρ,pd,l,ρ',s,f,k⟩:=q
 unfold bh at f
 cases h2:g ρ with
 | none=>rw [h2] at f; cases f
 | some y=>
  rw [h2,Yu] at f
  split at f
  . rename_i hl
    cases f
    refine ⟨H0,Z0,ρ,pd,y.1,y.2,s,h2,fun vs H2 e2 s2=>⟨small (by omega),fun p hp=>k _ _ ?_⟩⟩
    obtain ⟨el,Z,hg,z,r,sl'⟩:=s2.repl e2
    obtain ⟨z',sz,s'⟩:=sl'.newF (o:=.tup vs) z hp
    refine .mk (Z:=Z.put p (.tup vs)) el hg z' (s'.consS ?_)
    unfold Rep
    exact ⟨p,vs,rfl,cQ.of bT,r.mono sz⟩
  . cases f
noncomputable def tT (f:EF) (tr:PV->Option Bool):TF:=fun ρ=>(f ρ).bind fun x=>(tr x.1.pv).map fun b=>(b,x.2)
noncomputable def jA:PV->Option Bool
 | .non=>some false
 | .bl b=>some b
 | .int i=>some (i != 0)
 | .str x=>if x.length<=100000 then some ((x.length:Int) != 0) else none
 | .tup ps=>some (!ps.isEmpty)
 | .lst ps=>some (!ps.isEmpty)
 | .dk ks ps=>some (!ps.isEmpty)
 | _=>none
theorem X6 {H:Hp} {g:List Addr} {p:PV} {v:V} {b:Bool} (r:Rep K ⟨H,g⟩ p v) (h:jA p=some b):N8 K v H b:=by
 cases p with
 | non=>have:=gD r; subst this; cases h; exact rfl
 | bl c=>have:=dg r; subst this; cases h; exact rfl
 | int i=>have:=bI r; subst this; cases h; exact rfl
 | str x=>
  have:=dj r; subst this
  have h:(if x.length<=100000 then some ((x.length:Int) != 0) else none)=some b:=h
  split at h
  . rename_i hl; cases h; exact ⟨small hl,rfl⟩
  . cases h
 | tup ps=>
  unfold Rep at r
  obtain ⟨a,vs,rfl,h1,h2⟩:=r
  cases h
  refine .inr (.inl ⟨vs,h1,?_⟩)
  have:=h2.length
  cases ps<;>cases vs<;>simp at this<;>rfl
 | lst ps=>
  unfold Rep at r
  obtain ⟨a,vs,rfl,h1,h2⟩:=r
  cases h
  refine .inl ⟨vs,h1,?_⟩
  have:=h2.length
  cases ps<;>cases vs<;>simp at this<;>rfl
 | dk ks ps=>
  unfold Rep at r
  obtain ⟨a,kvs,rfl,h1,h3,h2⟩:=r
  cases h
  refine .inr (.inr ⟨kvs,h1,?_⟩)
  have:=h2.length
  cases ps<;>cases kvs<;>simp at this<;>rfl
 | _=>cases h
theorem HS {f:EF} {tr:PV->Option Bool} {ρ ρ':Ev} {b:Bool} (h:tT f tr ρ=some (b,ρ')):∃ x,f ρ=some (x,ρ')/\tr x.pv=some b:=by
 unfold tT at h
 cases h1:f ρ with
 | none=>rw [h1] at h; cases h
 | some x=>
  rw [h1,Yu] at h
  cases h2:tr x.1.pv with
  | none=>rw [h2] at h; cases h
  | some y=>rw [h2] at h; cases h; exact ⟨x.1,rfl,h2⟩
theorem ni {a:Expr} {f:EF} (ha:PE X a (tP X.K f)) (he:∀ whole,isTrue a X.env whole=(do let v ← whole; standAt a.pos; holding [v] (truthy v))):PT X a (gG X.K (tT f jA)):=PT.imp (En ha he) fun σ H Q q=>by
 obtain ⟨H0,Z0,ρ,pd,b,ρ',s,f',k⟩:=q
 obtain ⟨x,h1,h2⟩:=HS f'
 refine ⟨H0,Z0,ρ,pd,x,ρ',s,h1,fun v H1 s1=>⟨b,X6 s1.freeze.repH.choose_spec h2,k H1 s1.pop⟩⟩
noncomputable def aU:PV->Option Bool
 | .bl b=>some b
 | _=>none
theorem J3 {a:Expr} {f:EF} (ha:PT X a (JG (tP X.K f))):PT X a (gG X.K (tT f aU)):=PT.imp ha fun σ H Q q=>by
 obtain ⟨H0,Z0,ρ,pd,b,ρ',s,f',k⟩:=q
 obtain ⟨x,h1,h2⟩:=HS f'
 refine ⟨H0,Z0,ρ,pd,x,ρ',s,h1,fun v H1 s1=>⟨b,?_,k H1 s1.pop⟩⟩
 obtain ⟨_,r⟩:=s1.freeze.repH
 cases e:x.pv with
 | bl c=>rw [e] at h2 r; cases h2; exact dg r
 | _=>rw [e] at h2; cases h2
theorem bF {op:CmpOp} {a b:Expr} {pos:Pos} {r:R2} {g:PV->PV->Option Lc} {fa fb:EF} (ho:fB X (compareOp op) r) (hs:iQ X.K r g) (ha:PE X a (tP X.K fa)) (hb:PE X b (tP X.K fb)) (hm:behindInMarks op b=false):PT X (.Compare a [op] [b] pos) (gG X.K (tT (aq g fa fb) aU)):=
 J3 (PT.imp (Hx ho ha hb hm) fun σ H Q q=>Fb hs σ H _ q)
noncomputable def jq (f g:TF):TF:=fun ρ=>(f ρ).bind fun x=>if x.1=true then g x.2 else some (false,x.2)
noncomputable def mH (f g:TF):TF:=fun ρ=>(f ρ).bind fun x=>if x.1=true then some (true,x.2) else g x.2
noncomputable def jM (f:TF):TF:=fun ρ=>(f ρ).map fun x=>(!x.1,x.2)
theorem RJ {f g:TF}:∀ σ H Q,gG X.K (jq f g) σ H Q->T9 (gG X.K f) (gG X.K g) σ H Q:=fun σ H Q q=>by
 obtain ⟨H0,Z0,ρ,pd,b,ρ',s,h,k⟩:=q
 unfold jq at h
 cases h1:f ρ with
 | none=>rw [h1] at h; cases h
 | some x=>
  rw [h1,Yu] at h
  refine ⟨H0,Z0,ρ,pd,x.1,x.2,s,h1,fun H1 s1=>?_⟩
  dsimp only
  split
  . rename_i c; rw [aaZ c] at h; exact ⟨H0,Z0,x.2,pd,b,ρ',s1,h,k⟩
  . rename_i c; rw [aa0 c] at h; cases h; exact k H1 s1
theorem Vg {f g:TF}:∀ σ H Q,gG X.K (mH f g) σ H Q->Xf (gG X.K f) (gG X.K g) σ H Q:=fun σ H Q q=>by
 obtain ⟨H0,Z0,ρ,pd,b,ρ',s,h,k⟩:=q
 unfold mH at h
 cases h1:f ρ with
 | none=>rw [h1] at h; cases h
 | some x=>
  rw [h1,Yu] at h
  refine ⟨H0,Z0,ρ,pd,x.1,x.2,s,h1,fun H1 s1=>?_⟩
  dsimp only
  split
  . rename_i c; rw [aaZ c] at h; cases h; exact k H1 s1
  . rename_i c; rw [aa0 c] at h; exact ⟨H0,Z0,x.2,pd,b,ρ',s1,h,k⟩
theorem Bo {a:Expr} {f:TF} {pos:Pos} (ha:PT X a (gG X.K f)):PW X (.BoolOp .And [a] pos) (gG X.K f):=Rc ha
theorem wI {a:Expr} {f:TF} {pos:Pos} (ha:PT X a (gG X.K f)):PW X (.BoolOp .Or [a] pos) (gG X.K f):=Ua ha
theorem Ff {a b:Expr} {rest:List Expr} {f g:TF} {pos:Pos} (ha:PT X a (gG X.K f)) (hb:PW X (.BoolOp .And (b::rest) pos) (gG X.K g)):PW X (.BoolOp .And (a::b::rest) pos) (gG X.K (jq f g)):=PW.imp (Ub ha hb) RJ
theorem zK {a b:Expr} {rest:List Expr} {f g:TF} {pos:Pos} (ha:PT X a (gG X.K f)) (hb:PW X (.BoolOp .Or (b::rest) pos) (gG X.K g)):PW X (.BoolOp .Or (a::b::rest) pos) (gG X.K (mH f g)):=PW.imp (Ww ha hb) Vg
theorem wJ {a:Expr} {f:TF} {pos:Pos} (ha:PT X a (gG X.K f)):PT X (.UnaryOp .Not a pos) (gG X.K (jM f)):=PT.imp (Uc ha) fun σ H Q q=>by
 obtain ⟨H0,Z0,ρ,pd,b,ρ',s,h,k⟩:=q
 unfold jM at h
 cases h1:f ρ with
 | none=>rw [h1] at h; cases h
 | some x=>
  rw [h1] at h
  cases h
  exact ⟨H0,Z0,ρ,pd,x.1,x.2,s,h1,fun H1 s1=>k H1 s1⟩
noncomputable def lL (f g:EF):EF:=fun ρ=>(f ρ).bind fun x=>match x.1.pv with
 | .bl true=>g x.2
 | .bl false=>some (.sh (.bl false),x.2)
 | _=>none
noncomputable def yp (f g:EF):EF:=fun ρ=>(f ρ).bind fun x=>match x.1.pv with
 | .bl true=>some (.sh (.bl true),x.2)
 | .bl false=>g x.2
 | _=>none
noncomputable def wK (f:EF):EF:=fun ρ=>(f ρ).bind fun x=>match x.1.pv with
 | .bl b=>some (.sh (.bl (!b)),x.2)
 | _=>none
theorem yI {op} {a:Expr} {f:EF} {pos:Pos} (h:PE X a (tP X.K f)):PE X (.BoolOp op [a] pos) (tP X.K f):=Ud h
theorem wL {a b:Expr} {rest:List Expr} {f g:EF} {pos:Pos} (ha:PE X a (tP X.K f)) (hb:PE X (.BoolOp .And (b::rest) pos) (tP X.K g)):PE X (.BoolOp .And (a::b::rest) pos) (tP X.K (lL f g)):=PE.imp (Ue ha hb) fun σ H Q q=>by
 obtain ⟨H0,Z0,ρ,pd,b,ρ',s,h,k⟩:=q
 unfold lL at h
 cases h1:f ρ with
 | none=>rw [h1] at h; cases h
 | some x=>
  rw [h1,Yu] at h
  refine ⟨H0,Z0,ρ,pd,x.1,x.2,s,h1,fun v H1 s1=>?_⟩
  obtain ⟨_,r⟩:=s1.freeze.repH
  split at h
  . rename_i e
    rw [e] at r
    refine ⟨true,dg r,?_⟩
    rw [aaZ rfl]
    exact ⟨H0,Z0,x.2,pd,b,ρ',s1.pop,h,k⟩
  . rename_i e
    rw [e] at r
    refine ⟨false,dg r,?_⟩
    rw [aa0 Ze]
    cases h
    exact k _ H1 (s1.pop.scal eQ)
  . cases h
theorem Xj {a b:Expr} {rest:List Expr} {f g:EF} {pos:Pos} (ha:PE X a (tP X.K f)) (hb:PE X (.BoolOp .Or (b::rest) pos) (tP X.K g)):PE X (.BoolOp .Or (a::b::rest) pos) (tP X.K (yp f g)):=PE.imp (Wz ha hb) fun σ H Q q=>by
 obtain ⟨H0,Z0,ρ,pd,b,ρ',s,h,k⟩:=q
 unfold yp at h
 cases h1:f ρ with
 | none=>rw [h1] at h; cases h
 | some x=>
  rw [h1,Yu] at h
  refine ⟨H0,Z0,ρ,pd,x.1,x.2,s,h1,fun v H1 s1=>?_⟩
  obtain ⟨_,r⟩:=s1.freeze.repH
  split at h
  . rename_i e
    rw [e] at r
    refine ⟨true,dg r,?_⟩
    rw [aaZ rfl]
    cases h
    exact k _ H1 (s1.pop.scal eQ)
  . rename_i e
    rw [e] at r
    refine ⟨false,dg r,?_⟩
    rw [aa0 Ze]
    exact ⟨H0,Z0,x.2,pd,b,ρ',s1.pop,h,k⟩
  . cases h
theorem Vh {a:Expr} {f:EF} {pos:Pos} (ha:PE X a (tP X.K f)):PE X (.UnaryOp .Not a pos) (tP X.K (wK f)):=PE.imp (Ug ha) fun σ H Q q=>by
 obtain ⟨H0,Z0,ρ,pd,b,ρ',s,h,k⟩:=q
 unfold wK at h
 cases h1:f ρ with
 | none=>rw [h1] at h; cases h
 | some x=>
  rw [h1,Yu] at h
  refine ⟨H0,Z0,ρ,pd,x.1,x.2,s,h1,fun v H1 s1=>?_⟩
  obtain ⟨_,r⟩:=s1.freeze.repH
  split at h
  . rename_i c e
    rw [e] at r
    cases h
    exact ⟨c,dg r,k _ H1 (s1.pop.scal eQ)⟩
  . cases h
noncomputable def rD (c:TF) (f g:EF):EF:=fun ρ=>(c ρ).bind fun x=>if x.1=true then f x.2 else g x.2
theorem Ma {c a b:Expr} {fc:TF} {f g:EF} {pos:Pos} (hc:PT X c (gG X.K fc)) (ha:PE X a (tP X.K f)) (hb:PE X b (tP X.K g)):PE X (.IfExp c a b pos) (tP X.K (rD fc f g)):=PE.imp (NB hc ha hb) fun σ H Q q=>by
 obtain ⟨H0,Z0,ρ,pd,b,ρ',s,h,k⟩:=q
 unfold rD at h
 cases h1:fc ρ with
 | none=>rw [h1] at h; cases h
 | some x=>
  rw [h1,Yu] at h
  refine ⟨H0,Z0,ρ,pd,x.1,x.2,s,h1,fun H1 s1=>?_⟩
  dsimp only
  split
  . rename_i c; rw [aaZ c] at h; exact ⟨H0,Z0,x.2,pd,b,ρ',s1,h,k⟩
  . rename_i c; rw [aa0 c] at h; exact ⟨H0,Z0,x.2,pd,b,ρ',s1,h,k⟩
noncomputable def bY:SF:=fun ρ=>some (.nx ρ)
noncomputable def aH (f g:SF):SF:=fun ρ=>(f ρ).bind fun x=>match x with
 | .nx ρ'=>g ρ'
 | y=>some y
theorem bC:iB X [] (fK X.K bY):=iB.imp Rf fun D σ H q=>by
 obtain ⟨H0,Z0,ρ,pd,fl,s,h,k⟩:=q
 cases h
 exact k σ H s
theorem aA {st:Stmt} {rest:List Stmt} {f g:SF} (h1:PS X st (fK X.K f)) (h2:iB X rest (fK X.K g)):iB X (st::rest) (fK X.K (aH f g)):=iB.imp (NK h1 h2) fun D σ H q=>by
 obtain ⟨H0,Z0,ρ,pd,fl,s,h,k⟩:=q
 unfold aH at h
 cases e:f ρ with
 | none=>rw [e] at h; cases h
 | some x=>
  rw [e,Yu] at h
  refine ⟨H0,Z0,ρ,pd,x,s,e,?_⟩
  cases x with
  | nx ρ'=>exact fun σ' H' s'=>⟨H0,Z0,ρ',pd,fl,s',h,k⟩
  | rt r ρ'=>cases h; exact k
  | bk ρ'=>cases h; exact k
  | ct ρ'=>cases h; exact k
theorem aD {st:Stmt} {f:SF} (h1:PS X st (fK X.K f)):iB X [st] (fK X.K f):=Rg h1
noncomputable def jd (f:EF):SF:=fun ρ=>(f ρ).map fun x=>.nx x.2
theorem aa7 {α β:Type} {o:Option α} {f:α->β} {b:β} (h:o.map f=some b):∃ a,o=some a/\f a=b:=by
 cases o with
 | none=>cases h
 | some a=>exact ⟨a,rfl,YW h⟩
theorem aa6 {α β:Type} {o:Option α} {f:α->Option β} {b:β} (h:o.bind f=some b):∃ a,o=some a/\f a=some b:=by
 cases o with
 | none=>cases h
 | some a=>exact ⟨a,rfl,h⟩
theorem jU {e:Expr} {pos:Pos} {f:EF} (he:PE X e (tP X.K f)) (hs:swapsWith e none pos.line X.env=pure false:=by rfl):PS X (.Expr e pos) (fK X.K (jd f)):=PS.imp (iw he hs) fun D σ H q=>by
 obtain ⟨H0,Z0,ρ,pd,fl,s,h,k⟩:=q
 obtain ⟨x,h1,rfl⟩:=aa7 h
 exact ⟨H0,Z0,ρ,pd,x.1,x.2,s,h1,fun v H' s'=>k σ H' s'.pop⟩
noncomputable def bD (f:EF):SF:=fun ρ=>(f ρ).map fun x=>.rt x.1 x.2
theorem aZ {e:Expr} {pos:Pos} {f:EF} (he:PE X e (tP X.K f)):PS X (.Return (some e) pos) (fK X.K (bD f)):=PS.imp (KY he) fun D σ H q=>by
 obtain ⟨H0,Z0,ρ,pd,fl,s,h,k⟩:=q
 obtain ⟨x,h1,rfl⟩:=aa7 h
 exact ⟨H0,Z0,ρ,pd,x.1,x.2,s,h1,fun v H' s'=>k v σ H' s'⟩
noncomputable def o8 (i:Nat):SF:=fun ρ=>match ρ.vs[i]? with
 | some (some l)=>some (.rt l (ρ.set i none))
 | _=>none
theorem mY {i:Nat} {e:Expr} {pos:Pos} (he:PE X e (pX i)):PS X (.Return (some e) pos) (fK X.K (o8 i)):=PS.imp (KY he) fun D σ H q=>by
 obtain ⟨H0,Z0,ρ,pd,fl,s,h,k⟩:=q
 unfold o8 at h
 split at h
 . rename_i l e1
   cases h
   obtain ⟨v,h1,h2⟩:=s.take e1
   exact ⟨v,h1,k v σ H h2⟩
 . cases h
noncomputable def bN (c:TF) (f g:SF):SF:=fun ρ=>(c ρ).bind fun x=>if x.1=true then f x.2 else g x.2
theorem bJ {c:Expr} {a b:List Stmt} {fc:TF} {f g:SF} {pos:Pos} (hc:PT X c (gG X.K fc)) (ha:iB X a (fK X.K f)) (hb:iB X b (fK X.K g)):PS X (.If c a b pos) (fK X.K (bN fc f g)):=PS.imp (WF hc ha hb) fun D σ H q=>by
 obtain ⟨H0,Z0,ρ,pd,fl,s,h,k⟩:=q
 obtain ⟨x,h1,h2⟩:=aa6 h
 refine ⟨H0,Z0,ρ,pd,x.1,x.2,s,h1,fun H1 s1=>?_⟩
 dsimp only
 split
 . rename_i c; rw [aaZ c] at h2; exact ⟨H0,Z0,x.2,pd,fl,s1,h2,k⟩
 . rename_i c; rw [aa0 c] at h2; exact ⟨H0,Z0,x.2,pd,fl,s1,h2,k⟩
noncomputable def aL (i:Nat) (f:EF):SF:=fun ρ=>(f ρ).bind fun x=>if i<x.2.vs.length then some (.nx (x.2.set i (some x.1))) else none
theorem HW {i:Nat} {f:EF} {t:TS} (h:∀ D σ H,(tP X.K f σ H fun v H1=>D.nx (σ.set i (some v)) H1)->t D σ H):∀ D σ H,fK X.K (aL i f) D σ H->t D σ H:=fun D σ H q=>by
 obtain ⟨H0,Z0,ρ,pd,fl,s,h',k⟩:=q
 obtain ⟨x,h1,h2⟩:=aa6 h'
 split at h2
 . rename_i hl
   cases h2
   exact h D σ H ⟨H0,Z0,ρ,pd,x.1,x.2,s,h1,fun v H1 s1=>k _ _ (s1.store hl)⟩
 . cases h2
theorem zM {i:Nat} {x:Str} {e:Expr} {pos pos':Pos} {f:EF} (hN:X.N.Nodup) (hi:X.N[i]?=some x) (hx:L2.Loc X.env.scope x) (he:PE X e (tP X.K f)) (hs:swapsWith e (some (.Name x pos')) pos.line X.env=pure false:=by rfl) (hf:X.fn x=true\/X.env.scope.names.lookup x=some .local:=by first | exact .inl rfl | exact .inr rfl | assumption):
 PS X (.Assign [.Name x pos'] e pos) (fK X.K (aL i f)):=PS.imp (Uj hN hi hx he hs hf) (HW fun D σ H q=>q)
abbrev GF:=List PV->Mu->Option (Lc×Mu)
noncomputable def km (H:Hp) (g:List Addr):Hp:=fun b=>if b∈g then none else H b
theorem RK {H:Hp} {g:List Addr} {b:Addr} {o:HO} (h:km H g b=some o):H b=some o/\b∉g:=by
 unfold km at h
 split at h
 . cases h
 . rename_i q; exact ⟨h,q⟩
theorem O3 {H:Hp} {g:List Addr} {b:Addr} (h:b∈g):km H g b=none:=by unfold km; rw [aaZ h]
theorem Fg {H:Hp} {g:List Addr} {b:Addr} (h:b∉g):km H g b=H b:=by unfold km; rw [aa0 h]
def Vi (K:FG) (H:Hp) (Z:ZG) (g:List Addr) (H':Hp) (mu':Mu) (v:V) (r:Lc):Prop:=∃ Z',mu'.length=Z'.g.length/\jR (km H g) Z Z' H'/\Slots K (km H g) Z' H' ((some v,some r)::cel Z'.g mu')
noncomputable def cB (K:FG) (n:Nat) (g:GF):Sp:=fun vs H Q _=>∃ (Z:ZG) (ps:List PV) (mu:Mu) (r:Lc) (mu':Mu),vs.length=n/\mu.length=Z.g.length/\dG Z.z H/\aN K Z ps vs/\Slots K (km H (rC Z.g mu)) Z H (cel Z.g mu)/\g ps mu=some (r,mu')/\∀ v H',Vi K H Z (rC Z.g mu) H' mu' v r->Q v H'
noncomputable def aG (g:GF) (a:AF):EF:=fun ρ=>(a ρ).bind fun y=>(g (y.1.map Lc.pv) y.2.mu).map fun r=>(r.1,⟨y.2.vs,r.2⟩)
theorem RL {g:List Addr} {mu:Mu} {e:Option V×Option Lc} (he:e∈cel g mu):∃ a,e.1=some (.ref a)/\(e.2=none\/∃ p,e.2=some (.own p)):=by
 unfold cel at he
 obtain ⟨v,l⟩:=e
 obtain ⟨h1,h2⟩:=ZZ he
 obtain ⟨a,_,e1⟩:=YZ.mp h1
 obtain ⟨o,_,e2⟩:=YZ.mp h2
 refine ⟨a,e1.symm,?_⟩
 cases o with
 | none=>exact .inl e2.symm
 | some p=>exact .inr ⟨p,e2.symm⟩
theorem Slots.cells {Z:ZG} (hg:ρ.mu.length=Z.g.length) (s:Slots K H0 Z H (sl Z.g σ ρ pd)):Slots K (km H (rC Z.g ρ.mu)) Z H (cel Z.g ρ.mu):=by
 have s1:Slots K H0 Z H (cel Z.g ρ.mu):=s.sub (Zu _ _)
 refine ⟨fun e he=>?_,s1.2⟩
 obtain ⟨a,h1,h2⟩:=RL he
 obtain ⟨v,l⟩:=e
 have h1':v=some (.ref a):=h1
 subst h1'
 rcases h2 with h2 | ⟨p,h2⟩
 . have h2':l=none:=h2
   subst h2'; trivial
 . have h2':l=some (.own p):=h2
   subst h2'
   obtain ⟨b,e1,e2,e3,e4⟩:=s1.1 _ he
   cases e1
   exact ⟨a,rfl,e2,e3,O3 (Zr.mpr ⟨_,he,rfl⟩)⟩
theorem SR.called {H0 H H':Hp} {Z0 Z:ZG} {v:V} {r:Lc} {mu':Mu} (el:σ.length=ρ.vs.length) (hg:ρ.mu.length=Z.g.length) (z:jR H0 Z0 Z H) (s:Slots K H0 Z H (sl Z.g σ ρ pd)) (h:Vi K H Z (rC Z.g ρ.mu) H' mu' v r):SR K H0 Z0 σ H' ⟨ρ.vs,mu'⟩ ((v,r)::pd):=by
 obtain ⟨Z',hg',z',q⟩:=h
 have s1:Slots K H0 Z H (cel Z.g ρ.mu):=s.sub (Zu _ _)
 have s0:Slots K H0 Z H (σ.zip ρ.vs++pd.map fun e=>(some e.1,some e.2)):=s.sub (aac _ _)
 have nd:(rC Z.g ρ.mu++(σ.zip ρ.vs++pd.map fun e=>(some e.1,some e.2)).filterMap kj).Nodup:=by
  have:=s.2
  unfold sl at this
  rw [List.filterMap_append] at this
  exact this
 have hc0:∀ a∈rC Z.g ρ.mu,H0 a=none:=fun a ha=>by
  obtain ⟨e,he,hb⟩:=Zr.mp ha
  exact (jb s1 he hb).2.1
 have h0:dG H0 (km H (rC Z.g ρ.mu)):=fun b o e=>by
  rw [Fg fun hm=>by rw [hc0 b hm] at e; cases e]
  exact z.h0 b o e
 have z2:jR H0 Z0 Z' H':=⟨z'.zh,h0.trans z'.h0,z.z0.trans z'.z0,fun b o e=>by
  rcases z'.new b o e with e | e | e
  . exact z.new b o e
  . exact .inr (.inl (h0.free e))
  . exact .inr (.inr e)⟩
 have nog:∀ e∈(σ.zip ρ.vs++pd.map fun e=>((some e.1:Option V),(some e.2:Option Lc))),∀ a,kj e=some a->a∉rC Z.g ρ.mu/\km H (rC Z.g ρ.mu) a=H a:=fun e he a ha=>by
  have hn:a∉rC Z.g ρ.mu:=fun hm=>(aab.mp nd).2.2 a hm a (Zr.mpr ⟨e,he,ha⟩) rfl
  exact ⟨hn,Fg hn⟩
 have hk:∀ e∈(σ.zip ρ.vs++pd.map fun e=>((some e.1:Option V),(some e.2:Option Lc))),∀ a,kj e=some a->H' a=H a/\Z'.z a=none:=fun e he a ha=>by
  obtain ⟨h1,h2,o,h3,h4⟩:=jb s0 he ha
  obtain ⟨hn,ho⟩:=nog e he a ha
  have h5:=z'.h0 a o (by rw [ho]; exact h3)
  refine ⟨by rw [h3]; exact h5,?_⟩
  cases q:Z'.z a with
  | none=>rfl
  | some u=>
   rcases z'.new a u q with e | e | e
   . rw [h1] at e; cases e
   . rw [ho,h3] at e; cases e
   . have:=z'.zh a u q
     rw [h5] at this; cases this
     exact (h4 e).elim
 have s2:=s0.step z'.z0 hk
 have q':Slots K H0 Z' H' ((some v,some r)::cel Z'.g mu'):=by
  refine ⟨fun e he=>?_,q.2⟩
  have:=q.1 e he
  obtain ⟨w,l⟩:=e
  cases l with
  | none=>trivial
  | some l=>
   cases l with
   | sh p=>exact this
   | own p=>obtain ⟨a,e1,e2,e3,e4⟩:=this; exact ⟨a,e1,e2,e3,h0.free e4⟩
 have dis:∀ e∈((some v,some r)::cel Z'.g mu'),∀ a,kj e=some a->∀ e'∈(σ.zip ρ.vs++pd.map fun e=>((some e.1:Option V),(some e.2:Option Lc))),kj e'≠some a:=fun e he a ha e' he' ha'=>by
  obtain ⟨_,h2,_⟩:=jb q he ha
  obtain ⟨_,_,o,h3,_⟩:=jb s0 he' ha'
  rw [(nog e' he' a ha').2,h3] at h2; cases h2
 refine .mk (Z:=Z') el hg' z2 ?_
 refine ⟨fun e he=>?_,?_⟩
 . rcases YC.mp he with rfl | he
   . exact q'.1 _ Yv
   . rcases ZK.mp he with he | he
     . exact q'.1 _ (YG _ he)
     . exact s2.1 e he
 . show (((some v,some r)::(cel Z'.g mu'++(σ.zip ρ.vs++pd.map fun e=>(some e.1,some e.2)))).filterMap kj).Nodup
   rw [← ZW,List.filterMap_append]
   refine aab.mpr ⟨q'.2,s2.2,fun a ha b hb e=>?_⟩
   subst e
   obtain ⟨e1,he1,h1⟩:=Zr.mp ha
   obtain ⟨e2,he2,h2⟩:=Zr.mp hb
   exact dis e1 he1 a h1 e2 he2 h2
theorem O4 {n:Nat} {g:GF} {a:AF} {E:XK}:∀ σ H Q,(∃ H0 Z0 ρ pd r ρ',SR X.K H0 Z0 σ H ρ pd/\aG g a ρ=some (r,ρ')/\(∀ ls ρ1,a ρ=some (ls,ρ1)->ls.length=n)/\∀ v H',SR X.K H0 Z0 σ H' ρ' ((v,r)::pd)->Q v H')->JQ (cB X.K n g) [] E (jc X.K a) σ H Q:=fun σ H Q q=>by
 obtain ⟨H0,Z0,ρ,pd,r,ρ',s,h,hn,k⟩:=q
 obtain ⟨y,h1,h2⟩:=aa6 h
 obtain ⟨r',h3,h4⟩:=aa7 h2
 cases h4
 refine ⟨H0,Z0,ρ,pd,y.1,y.2,s,h1,fun vs H2 e2 s2=>?_⟩
 obtain ⟨el,Z,hg,z,rl,sl'⟩:=s2.repl e2
 refine ⟨Z,y.1.map Lc.pv,y.2.mu,_,_,?_,hg,z.zh,?_,sl'.cells hg,h3,fun v H' rr=>k v H' (SR.called el hg z sl' rr)⟩
 . rw [YS,e2]; exact hn _ _ h1
 . rw [YS]; exact rl
end
section
variable {P:Program} {w:World} {K:FG} {mg:Str->Option Value} {base:Heap}
def cR (K:FG) (mg:Str->Option Value) (x:Str) (st:Stmt) (ps:List Str):Prop:=∃ f fd,sV K x x st f fd/\mg x=some (.ref f)/\Binds K fd ps []
def Fi (b:Bool) (P:Program) (w:World) (K:FG) (mg:Str->Option Value) (base:Heap) (x:Str) (k:Nat) (ps:List Str) (sp:Sp):Prop:=∃ f fd,qC b P w K mg base oE k f fd ps sp/\mg x=some (.ref f)/\W.keepIn K (.ref f)=true/\Binds K fd ps []
noncomputable abbrev cg:=Fi true
noncomputable def env0 (n:Nat) (ps:List PV) (mu:Mu):Ev:=⟨ps.map (fun p=>some (Lc.sh p))++List.replicate (n-ps.length) none,mu⟩
noncomputable def cM (n:Nat) (g:SF):GF:=fun ps mu=>(g (env0 n ps mu)).bind fun x=>match x with
 | .rt r ρ=>some (r,ρ.mu)
 | .nx ρ=>some (.sh .non,ρ.mu)
 | _=>none
theorem HX {Z:ZG} {L:Sl} (s:Slots K H0 Z H L):∀ {ps:List PV} {vs:List V},aN K Z ps vs->Slots K H0 Z H ((vs.map some).zip (ps.map fun p=>some (Lc.sh p))++L)
 | [],vs,h=>by have:=h.inv0; subst this; simpa using s
 | p::ps,vs,h=>by
  obtain ⟨v,r,rfl,h1,h2⟩:=h.inv
  exact (HX s h2).consS h1
theorem nones {Z:ZG} {L:Sl} (s:Slots K H0 Z H L):∀ n:Nat,Slots K H0 Z H ((List.replicate n (none:Option V)).zip (List.replicate n (none:Option Lc))++L)
 | 0=>s
 | n+1=>by
  rw [List.replicate_succ,List.replicate_succ,ZQ,ZW]
  have ih:=nones s n
  refine ⟨fun e he=>?_,?_⟩
  . rcases YC.mp he with rfl | he
    . trivial
    . exact ih.1 e he
  . rw [Zm rfl]; exact ih.2
theorem yJ {H:Hp} {Z:ZG} {ps:List PV} {mu:Mu} {vs:List V} {N:List Str} (hg:mu.length=Z.g.length) (z:dG Z.z H) (r:aN K Z ps vs) (c:Slots K (km H (rC Z.g mu)) Z H (cel Z.g mu)):SR K (km H (rC Z.g mu)) Z (L2.start N vs) H (env0 N.length ps mu) []:=by
 have hl:=r.length
 refine ⟨by simp [L2.start,env0,hl],Z,hg,⟨z,fun b o e=>(RK e).1,iD.refl _,fun b o e=>.inl e⟩,?_⟩
 unfold sl L2.start env0
 rw [Z5 (by simp [hl]),aap,YS,hl]
 exact (HX (nones c _) r).perm ((Z6).trans (by rw [Y0]))
theorem cR.ok {b:Bool} {x:Str} {st:Stmt} {N ps:List Str} {k:Nat} {g:GF} (F:cR K mg x st ps) (S:bf N ps (aK st))
 (h:∀ (f:Addr) (cdv:Value) (A:Around) (outer:List PySem.Env) (s:Shared) (H:Hp) (E:XK),fH b k (A.deeper (envOfC x (aK st) s.heap.objs.size f cdv))->
   ∃ g':SF,(∀ a mu,g a mu=cM N.length g' a mu)/\iB (sU b oE P w K mg base N x (aK st) f cdv A outer s H E).nox (iV st) (fK K g')):Fi b P w K mg base x (k+1) ps (cB K ps.length g):=by
 obtain ⟨f,fd,F,hm,hb⟩:=F
 refine ⟨f,fd,F.ok S (fun vs H Q E q=>?_) (fun cdv A outer s H vs Q E hr q=>?_),hm,F.kp,hb⟩
 . obtain ⟨Z,qs,mu,r,mu',e,_⟩:=q; exact e
 . obtain ⟨g',eg,b⟩:=h f cdv A outer s H E hr
   obtain ⟨Z,qs,mu,r,mu',e,hg,z,rl,c,hr',kk⟩:=q
   rw [eg] at hr'
   obtain ⟨fl,h1,h2⟩:=aa6 hr'
   refine ⟨_,b,km H (rC Z.g mu),Z,_,[],fl,yJ hg z rl c,h1,?_⟩
   cases fl with
   | rt r' ρ'=>
    cases h2
    intro v σ' H' s'
    obtain ⟨el,Z',hg',z',s''⟩:=s'.top
    refine kk v H' ⟨Z',hg',z',s''.sub ?_⟩
    exact (Zu _ _).cons_cons _
   | nx ρ'=>
    cases h2
    intro σ' H' s'
    obtain ⟨el,Z',hg',z',s''⟩:=s'
    exact kk .non H' ⟨Z',hg',z',(s''.sub (Zu _ _)).consS (xM _)⟩
   | bk ρ'=>cases h2
   | ct ρ'=>cases h2
end
section
variable {X:Cx}
theorem bw {b:Bool} {x:Str} {k:Nat} {ps:List Str} {g:GF} {e:Expr} {es:List Expr} {a:AF} {p pos:Pos} (D:Fi b X.prog X.w X.K X.mg X.base x k ps (cB X.K ps.length g)) (hr:fH b k X.A) (hg:Gl X x)
 (ha:PA X (e::es) (jc X.K a)) (hn:∀ ρ ls ρ1,a ρ=some (ls,ρ1)->ls.length=ps.length) (hdb:(x==("__debug__" : Str))=false:=by decide) (he:starEach (e::es) X.env=(false,eval e X.env)::starEach es X.env:=by rfl) (hpl:(backTo pos (starEach es X.env)).any (·.1)=false:=by rfl):PE X (.Call (.Name x p) (e::es) [] pos) (tP X.K (aG g a)):=by
 obtain ⟨f,fd,F,hm,hk,hb⟩:=D
 refine PE.imp (Hy (E:=E0) F hr hg hm hk hb .nil zx ha hdb he hpl) fun σ H Q q=>?_
 obtain ⟨H0,Z0,ρ,pd,r,ρ',s,h,kk⟩:=q
 exact O4 σ H Q ⟨H0,Z0,ρ,pd,r,ρ',s,h,fun ls ρ1 e=>hn ρ ls ρ1 e,kk⟩
section
variable {K:FG} {H0 H H':Hp} {Z0 Z:ZG} {σ:L2.St} {ρ:Ev} {pd pd':Pd} {v w:V} {l:Lc} {p:PV}
theorem SR.sub (h:SR K H0 Z0 σ H ρ pd') (q:List.Sublist pd pd'):SR K H0 Z0 σ H ρ pd:=
 let ⟨e,Z,hg,z,s⟩:=h
 ⟨e,Z,hg,z,s.sub ((aan _).append ((aan _).append (q.map _)))⟩
theorem SR.dup (h:SR K H0 Z0 σ H ρ ((v,.sh p)::pd)):SR K H0 Z0 σ H ρ ((v,.sh p)::(v,.sh p)::pd):=by
 obtain ⟨e,Z,hg,z,s⟩:=h.top
 obtain ⟨x,e1,e2⟩:=s.1 _ Yv
 cases e1
 exact .mk e hg z ((s.perm bV).consS e2)
theorem SR.part {u:V} {q:PV} (h:SR K H0 Z0 σ H ρ ((v,.sh p)::pd)) (k:∀ Z:ZG,dG Z.z H->Rep K Z p v->Rep K Z q u):SR K H0 Z0 σ H ρ ((u,.sh q)::(v,.sh p)::pd):=by
 obtain ⟨e,Z,hg,z,s⟩:=h.top
 obtain ⟨x,e1,e2⟩:=s.1 _ Yv
 cases e1
 exact .mk e hg z ((s.perm bV).consS (k Z z.zh e2))
end
abbrev BF:=PV->Ev->Option Ev
def GS (K:FG) (g:TG) (b:BF):Prop:=∀ H0 Z0 σ H ρ pd v p ρ' Q,SR K H0 Z0 σ H ρ ((v,.sh p)::pd)->b p ρ=some ρ'->(∀ σ',SR K H0 Z0 σ' H ρ' pd->Q σ' H)->g v σ H Q
abbrev Fj:=List PV->Ev->Option Ev
def QH (K:FG) (g:vU) (b:Fj):Prop:=∀ H0 Z0 σ H ρ pd vs ps ρ' Q,vs.length=ps.length->SR K H0 Z0 σ H ρ (vs.zip (ps.map Lc.sh)++pd)->b ps ρ=some ρ'->(∀ σ',SR K H0 Z0 σ' H ρ' pd->Q σ' H)->g vs σ H Q
noncomputable def aJ (i:Nat):BF:=fun p ρ=>if i<ρ.vs.length then some (ρ.set i (some (.sh p))) else none
theorem aX {i:Nat}:GS K (DG i) (aJ i):=by
 intro H0 Z0 σ H ρ pd v p ρ' Q s h k
 unfold aJ at h
 split at h
 . rename_i hl; cases h; exact k _ (s.store hl)
 . cases h
noncomputable def fO:Fj:=fun ps ρ=>match ps with
 | []=>some ρ
 | _=>none
noncomputable def aP (b:BF) (bs:Fj):Fj:=fun ps ρ=>match ps with
 | p::r=>(b p ρ).bind fun ρ1=>bs r ρ1
 | []=>none
theorem jB:QH K Uh fO:=by
 intro H0 Z0 σ H ρ pd vs ps ρ' Q e s h k
 cases ps with
 | nil=>
  cases h
  have:vs=[]:=aaG (by simpa using e)
  subst this
  exact ⟨rfl,k σ s⟩
 | cons p r=>cases h
theorem bZ {t:TG} {u:vU} {b:BF} {bs:Fj} (h1:GS K t b) (h2:QH K u bs):QH K (Qs t u) (aP b bs):=by
 intro H0 Z0 σ H ρ pd vs ps ρ' Q e s h k
 cases ps with
 | nil=>cases h
 | cons p r=>
  cases vs with
  | nil=>simp at e
  | cons v ws=>
   obtain ⟨ρ1,e1,e2⟩:=aa6 h
   refine ⟨v,ws,rfl,h1 H0 Z0 σ H ρ _ v p ρ1 _ s e1 fun σ' s'=>?_⟩
   exact h2 H0 Z0 σ' H ρ1 pd ws r ρ' Q (by simpa using e) s' e2 k
theorem Mf {Z:ZG} {L:Sl} (s:Slots K H0 Z H L):∀ {ps:List PV} {vs:List V},aN K Z ps vs->Slots K H0 Z H ((vs.zip (ps.map Lc.sh)).map (fun e=>(some e.1,some e.2))++L)
 | [],vs,h=>by have:=h.inv0; subst this; simpa using s
 | p::ps,vs,h=>by
  obtain ⟨v,r,rfl,h1,h2⟩:=h.inv
  exact (Mf s h2).consS h1
theorem SR.items {Z0 Z:ZG} {vs:List V} {ps:List PV} (e:σ.length=ρ.vs.length) (hg:ρ.mu.length=Z.g.length) (z:jR H0 Z0 Z H) (r:aN K Z ps vs) (s:Slots K H0 Z H (sl Z.g σ ρ pd)):SR K H0 Z0 σ H ρ (vs.zip (ps.map Lc.sh)++pd):=
 ⟨e,Z,hg,z,(Mf s r).perm Fe⟩
noncomputable def Yt (i j:Nat) (a:AF):SF:=fun ρ=>(a ρ).bind fun y=>match y.1 with
 | [l,m]=>if i<y.2.vs.length/\j<y.2.vs.length then some (.nx ((y.2.set i (some l)).set j (some m))) else none
 | _=>none
def nj (K:FG) (H0:Hp) (Z0:ZG) (pd:Pd) (J:It) (xs:List PV):Prop:=∀ σ H ρ (i:Nat),SR K H0 Z0 σ H ρ pd->
 (∀ x,xs[i]?=some x->J.go i H/\∀ v H',J.yld i H v H'->SR K H0 Z0 σ H' ρ ((v,.sh x)::pd))/\(i=xs.length->J.stop i H)
abbrev IF:=Ev->Option (List PV×Ev)
def zN (K:FG) (f:IF):TI:=fun σ H R=>∃ H0 Z0 ρ pd xs ρ',SR K H0 Z0 σ H ρ pd/\f ρ=some (xs,ρ')/\∀ J H' pd',SR K H0 Z0 σ H' ρ' pd'->nj K H0 Z0 pd' J xs->List.Sublist pd pd'->R J H'
theorem PI.imp {tg iter:Expr} {t t':TI} (h:PI X tg iter t) (i:∀ σ H R,t' σ H R->t σ H R):PI X tg iter t':=fun pins s σ H R I q=>h pins s σ H R I (i σ H R q)
noncomputable def gC (f:EF) (g:PV->Option (List PV)):IF:=fun ρ=>(f ρ).bind fun x=>(g x.1.pv).map fun xs=>(xs,x.2)
theorem Mg {H0:Hp} {a:Addr} {ps:List PV}:nj K H0 Z0 ((.ref a,.sh (.lst ps))::pd) (Qt K a) ps:=by
 intro σ H ρ i s
 obtain ⟨Z,z,r⟩:=s.rep
 unfold Rep at r
 obtain ⟨b,vs,e,h1,h2⟩:=r
 cases e
 have hq:=bU.same z h1
 refine ⟨fun x hx=>?_,fun hl=>⟨vs,hq,by rw [h2.length]; omega⟩⟩
 obtain ⟨v,hv,rv⟩:=h2.get hx
 refine ⟨⟨vs,v,hq,hv⟩,fun v' H' y=>?_⟩
 obtain ⟨e',y⟩:=y
 subst e'
 have:=y vs hq
 rw [hv] at this; cases this
 refine s.part fun Z' z' r'=>?_
 unfold Rep at r'
 obtain ⟨b',vs',e',h1',h2'⟩:=r'
 cases e'
 have:vs'[i]?=some v:=y vs' (bU.same z' h1')
 obtain ⟨p',hp',rp'⟩:=h2'.getV this
 rw [hx] at hp'; cases hp'
 exact rp'
theorem O5 {H0:Hp} {a:Addr} {ps:List PV}:nj K H0 Z0 ((.ref a,.sh (.tup ps))::pd) (Qu K a) ps:=by
 intro σ H ρ i s
 obtain ⟨Z,z,r⟩:=s.rep
 unfold Rep at r
 obtain ⟨b,vs,e,h1,h2⟩:=r
 cases e
 have hq:=cQ.same z h1
 refine ⟨fun x hx=>?_,fun hl=>⟨vs,hq,by rw [h2.length]; omega⟩⟩
 obtain ⟨v,hv,rv⟩:=h2.get hx
 refine ⟨⟨vs,v,hq,hv⟩,fun v' H' y=>?_⟩
 obtain ⟨e',y⟩:=y
 subst e'
 have:=y vs hq
 rw [hv] at this; cases this
 refine s.part fun Z' z' r'=>?_
 unfold Rep at r'
 obtain ⟨b',vs',e',h1',h2'⟩:=r'
 cases e'
 have:vs'[i]?=some v:=y vs' (cQ.same z' h1')
 obtain ⟨p',hp',rp'⟩:=h2'.getV this
 rw [hx] at hp'; cases hp'
 exact rp'
noncomputable def yK (lo:Int) (n:Nat):List PV:=(List.range n).map fun i=>.int (lo+(i:Nat))
noncomputable def dm (a:AF):IF:=fun ρ=>(a ρ).bind fun y=>match y.1.map Lc.pv with
 | [.int j]=>if -(2 ^ 62)<=j/\j<2 ^ 62 then some (yK 0 j.toNat,y.2) else none
 | _=>none
theorem O6 {H0:Hp} {lo:Int} {n:Nat}:nj K H0 Z0 pd (Qv lo n) (yK lo n):=by
 intro σ H ρ i s
 refine ⟨fun x hx=>?_,fun hl=>?_⟩
 . have hi:i<n:=by
    have:=(YF.mp hx).1
    simpa [yK] using this
   refine ⟨hi,fun v H' y=>?_⟩
   obtain ⟨rfl,rfl⟩:=y
   unfold yK at hx
   rw [Y7,List.getElem?_range hi] at hx
   cases hx
   exact s.scal eN
 . show n<=i
   simp [yK] at hl
   omega
theorem SR.ints {vs:List V} {ls:List Lc} {ns:List Int} (s:SR K H0 Z0 σ H ρ (vs.zip ls++pd)) (e:vs.length=ls.length) (h:ls.map Lc.pv=ns.map PV.int):vs=ns.map V.int/\SR K H0 Z0 σ H ρ pd:=by
 obtain ⟨el,Z,hg,z,r,sl'⟩:=s.repl e
 refine ⟨?_,el,Z,hg,z,sl'⟩
 rw [h] at r
 clear h e s sl'
 induction ns generalizing vs with
 | nil=>exact r.inv0
 | cons n ns ih=>
  obtain ⟨v,w,rfl,h1,h2⟩:=r.inv
  rw [bI h1,ih h2]
  rfl
theorem iu {tg a:Expr} {f:AF} {p pos:Pos} (hg:Gl X "range") (hm:X.mg "range" = none) (ha:PA X [a] (jc X.K f)) (hs:starEach [a] X.env=[(false,eval a X.env)]:=by rfl):PI X tg (.Call (.Name "range" p) [a] [] pos) (zN X.K (dm f)):=PI.imp (K3 hg hm ha hs) fun σ H R q=>by
 obtain ⟨H0,Z0,ρ,pd,xs,ρ',s,h,k⟩:=q
 obtain ⟨y,h1,h2⟩:=aa6 h
 refine ⟨H0,Z0,ρ,pd,y.1,y.2,s,h1,fun vs H1 e1 s1=>?_⟩
 split at h2
 . rename_i j e
   split at h2
   . rename_i hj
     cases h2
     obtain ⟨rfl,s2⟩:=s1.ints (ns:=[j]) e1 e
     exact ⟨j,rfl,hj.1,hj.2,k _ _ _ s2 O6 (aan _)⟩
   . cases h2
 . cases h2
noncomputable def iT (b:BF) (body:SF):List PV->SF
 | [],ρ=>some (.nx ρ)
 | x::xs,ρ=>(b x ρ).bind fun ρ1=>(body ρ1).bind fun fl=>match fl with
  | .nx ρ'=>iT b body xs ρ'
  | .ct ρ'=>iT b body xs ρ'
  | .bk ρ'=>some (.nx ρ')
  | .rt r ρ'=>some (.rt r ρ')
noncomputable def gM (f:IF) (b:BF) (body:SF):SF:=fun ρ=>(f ρ).bind fun y=>iT b body y.1 y.2
theorem Bp {P:Prop} (h:∀ G:Prop,(P->G)->G):P:=h P id
def FW (K:FG) (H0:Hp) (Z0:ZG) (pd:Pd) (b:BF) (fb:SF) (xs:List PV) (fl:Fl) (i m:Nat) (σ:L2.St) (H:Hp):Prop:=m=xs.length-i/\i<=xs.length/\∃ ρ,SR K H0 Z0 σ H ρ pd/\iT b fb (xs.drop i) ρ=some fl
theorem O7 {g:TG} {b:BF} {fb:SF} (hb:GS K g b) {J:It} {xs:List PV} {fl:Fl} {D:Ends} (it:nj K H0 Z0 pd J xs) (k:EY K H0 Z0 pd D fl) (s:SR K H0 Z0 σ H ρ pd) (h:iT b fb xs ρ=some fl):
 ∃ W:Nat->Nat->L2.St->Hp->Prop,(∃ m,W 0 m σ H)/\∀ i m σ H,W i m σ H->
  (J.stop i H/\D.nx σ H)\/(J.go i H/\∃ N:L2.St->Hp->Prop,(∀ σ' H',N σ' H'->∃ m',m'<m/\W (i+1) m' σ' H')/\∀ x H',J.yld i H x H'->g x σ H' fun σ2 H2=>fK K fb { D with nx:=N,ct:=N,bk:=D.nx } σ2 H2):=by
 refine ⟨FW K H0 Z0 pd b fb xs fl,⟨_,rfl,ZC _,ρ,s,h⟩,fun i m σ' H' w=>?_⟩
 refine Bp fun G kG=>?_
 obtain ⟨rfl,hi,ρ',s',h'⟩:=w
 obtain ⟨i1,i2⟩:=it σ' H' ρ' i s'
 by_cases hlt:i<xs.length
 . obtain ⟨go,yl⟩:=i1 _ (YQ hlt)
   rw [aad hlt] at h'
   obtain ⟨ρ1,e1,e2⟩:=aa6 h'
   obtain ⟨fl1,e3,e4⟩:=aa6 e2
   refine kG (.inr ⟨go,fun σ'' H''=>FW K H0 Z0 pd b fb xs fl (i+1) (xs.length-(i+1)) σ'' H'',fun σ'' H'' w=>⟨_,by omega,w⟩,fun x H2 hy=>hb H0 Z0 σ' H2 ρ' pd x _ ρ1 _ (yl x H2 hy) e1 fun σ2 s2=>⟨H0,Z0,ρ1,pd,fl1,s2,e3,?_⟩⟩)
   cases fl1 with
   | nx ρ2=>exact fun σ3 H3 s3=>⟨rfl,hlt,ρ2,s3,e4⟩
   | ct ρ2=>exact fun σ3 H3 s3=>⟨rfl,hlt,ρ2,s3,e4⟩
   | bk ρ2=>cases e4; exact k
   | rt r ρ2=>cases e4; exact k
 . have e:i=xs.length:=Nat.le_antisymm hi (aaB hlt)
   subst e
   rw [aaV] at h'
   cases h'
   exact kG (.inl ⟨i2 rfl,k σ' H' s'⟩)
theorem EY.imp {H0:Hp} {Z0 Z₁:ZG} {pd pd':Pd} {D:Ends} {fl:Fl} (k:EY K H0 Z0 pd D fl) (w:∀ {τ:L2.St} {J:Hp} {q:Ev},SR K H0 Z₁ τ J q pd'->SR K H0 Z0 τ J q pd) (w':∀ {τ:L2.St} {J:Hp} {q:Ev} {e:V×Lc},SR K H0 Z₁ τ J q (e::pd')->SR K H0 Z0 τ J q (e::pd)):EY K H0 Z₁ pd' D fl:=by
 cases fl with
 | rt r ρ=>exact fun v σ H s=>k v σ H (w' s)
 | _=>exact fun σ H s=>k σ H (w s)
theorem iG {tg iter:Expr} {body:List Stmt} {f:IF} {g:TG} {b:BF} {fb:SF} {pos:Pos} (hp:PassesOwn (model X.prog X.w) X.A X.env X.xe) (hc:X.calm=true) (hi:PI X tg iter (zN X.K f)) (hg:PG X tg g) (hb':GS X.K g b) (hb:iB X body (fK X.K fb))
 (hs:∀ x,foldedSetIterable iter X.env x=pure x:=by intro _; rfl):PS X (.For tg iter body [] pos) (fK X.K (gM f b fb)):=PS.imp (K5 hp hc hi hg hb hs) fun D σ H q=>by
 refine Bp fun G kG=>?_
 obtain ⟨H0,Z0,ρ,pd,fl,s,h,k⟩:=q
 obtain ⟨y,h1,h2⟩:=aa6 h
 exact kG ⟨H0,Z0,ρ,pd,y.1,y.2,s,h1,fun J H1 pd' s1 it sub=>O7 hb' it (k.imp (fun s=>s.sub sub) fun s=>s.sub (sub.cons_cons _)) s1 h2⟩
noncomputable def lV (c:TF) (body:SF):Nat->SF
 | 0,_=>none
 | n+1,ρ=>(c ρ).bind fun x=>if x.1=true then (body x.2).bind fun fl=>match fl with
  | .nx ρ'=>lV c body n ρ'
  | .ct ρ'=>lV c body n ρ'
  | .bk ρ'=>some (.nx ρ')
  | .rt r ρ'=>some (.rt r ρ') else some (.nx x.2)
noncomputable def rE (n:Nat) (c:TF) (body:SF):SF:=lV c body n
theorem O8 (n:Nat) {c:Expr} {body:List Stmt} {fc:TF} {fb:SF} {pos:Pos} (hp:PassesOwn (model X.prog X.w) X.A X.env X.xe) (hc:PT X c (gG X.K fc)) (hb:iB X body (fK X.K fb)):PS X (.While c body [] pos) (fK X.K (rE n fc fb)):=PS.imp (NT hp hc hb) fun D σ H q=>by
 obtain ⟨H0,Z0,ρ,pd,fl,s,h,k⟩:=q
 refine ⟨fun m σ' H'=>∃ ρ',SR X.K H0 Z0 σ' H' ρ' pd/\lV fc fb m ρ'=some fl,⟨n,ρ,s,h⟩,?_⟩
 rintro m σ' H' ⟨ρ',s',h'⟩
 cases m with
 | zero=>cases h'
 | succ m=>
  obtain ⟨x,e1,e2⟩:=aa6 h'
  refine ⟨H0,Z0,ρ',pd,x.1,x.2,s',e1,fun H1 s1=>?_⟩
  dsimp only
  split
  . rename_i hx
    rw [aaZ hx] at e2
    obtain ⟨fl1,e3,e4⟩:=aa6 e2
    refine ⟨fun σ'' H''=>∃ ρ'',SR X.K H0 Z0 σ'' H'' ρ'' pd/\lV fc fb m ρ''=some fl,fun σ'' H'' q=>⟨m,ZV _,q⟩,H0,Z0,x.2,pd,fl1,s1,e3,?_⟩
    cases fl1 with
    | nx ρ2=>exact fun σ3 H3 s3=>⟨ρ2,s3,e4⟩
    | ct ρ2=>exact fun σ3 H3 s3=>⟨ρ2,s3,e4⟩
    | bk ρ2=>cases e4; exact fun σ3 H3 s3=>k σ3 H3 s3
    | rt r ρ2=>cases e4; exact fun v σ3 H3 s3=>k v σ3 H3 s3
  . rename_i hx
    rw [aa0 hx] at e2
    cases e2
    exact k σ' H1 s1
end
section
variable {K:FG} {H0 H H':Hp} {Z0 Z:ZG} {σ:L2.St} {ρ:Ev} {pd pe:Pd} {v w:V} {l:Lc} {p:PV} {g:List Addr}
noncomputable def Ev.app (ρ:Ev) (pe:Pd):Ev:=⟨ρ.vs++pe.map (fun x=>some x.2),ρ.mu⟩
theorem Fo (e:σ.length=ρ.vs.length):sl g (σ++pe.map fun x=>some x.1) (ρ.app pe) pd=sl g σ ρ (pe++pd):=by
 unfold sl Ev.app
 rw [Z5 e,Y6,Y0]
 congr 3
 induction pe with
 | nil=>rfl
 | cons a r ih=>simp [ih]
theorem SR.shift (h:SR K H0 Z0 σ H ρ (pe++pd)):SR K H0 Z0 (σ++pe.map fun x=>some x.1) H (ρ.app pe) pd:=by
 obtain ⟨e,Z,hg,z,s⟩:=h
 refine ⟨by simp [Ev.app,e],Z,hg,z,?_⟩
 rw [Fo e]
 exact s
theorem SR.unshift (e:σ.length=ρ.vs.length) (h:SR K H0 Z0 (σ++pe.map fun x=>some x.1) H (ρ.app pe) pd):SR K H0 Z0 σ H ρ (pe++pd):=by
 obtain ⟨_,Z,hg,z,s⟩:=h
 refine ⟨e,Z,hg,z,?_⟩
 rw [Fo e] at s
 exact s
theorem nj.more {J:It} {xs:List PV} (h:nj K H0 Z0 pd J xs):nj K H0 Z0 (pe++pd) J xs:=by
 intro σ H ρ i s
 obtain ⟨h1,h2⟩:=h _ H _ i s.shift
 refine ⟨fun x hx=>?_,h2⟩
 obtain ⟨g,y⟩:=h1 x hx
 refine ⟨g,fun v H' q=>?_⟩
 have s':=y v H' q
 have e:σ.length=ρ.vs.length:=s.1
 have s2:SR K H0 Z0 (σ++pe.map fun x=>some x.1) H' (ρ.app pe) ((v,.sh x)::pd):=s'
 exact (SR.unshift e s2).perm (pd':=(v,.sh x)::(pe++pd)) Zk.symm
noncomputable def pZ (σ:L2.St) (ρ:Ev):Pd:=(σ.zip ρ.vs).filterMap fun e=>match e with
 | (some v,some l)=>some (v,l)
 | _=>none
theorem vf:∀ {L:Sl},(∀ e∈L,e.2=none\/∃ v l,e=(some v,some l))->∀ {T:Sl},
 (Slots K H0 Z H (L++T) ↔ Slots K H0 Z H ((L.filterMap fun e=>match e with | (some v,some l)=>some (v,l) | _=>none).map (fun e=>((some e.1:Option V),(some e.2:Option Lc)))++T))
 | [],_,T=>by simp
 | (v,l)::L,h,T=>by
  have h':∀ e∈L,e.2=none\/∃ v l,e=(some v,some l):=fun e he=>h e (YG _ he)
  rcases h (v,l) Yv with e | ⟨v',l',e⟩
  . have e':l=none:=e
    subst e'
    have e1:((v,(none:Option Lc))::L).filterMap (fun e=>match e with | (some v,some l)=>some (v,l) | _=>none)=L.filterMap (fun e=>match e with | (some v,some l)=>some (v,l) | _=>none):=by
     rw [Zm]
     cases v<;>rfl
    rw [e1,← vf h' (T:=T)]
    have o1:kj (v,none)=none:=by
     cases v with
     | none=>rfl
     | some x=>cases x<;>rfl
    constructor
    . exact fun s=>s.sub (YJ _ _)
    . intro s
      refine ⟨fun e he=>?_,?_⟩
      . rcases YC.mp he with rfl | he
        . trivial
        . exact s.1 e he
      . rw [ZW,Zm o1]
        exact s.2
  . cases e
    have e1:((some v',some l')::L).filterMap (fun e=>match e with | (some v,some l)=>some (v,l) | _=>none)=(v',l')::L.filterMap (fun e=>match e with | (some v,some l)=>some (v,l) | _=>none):=by
     rfl
    rw [e1]
    have ih1:=vf h' (T:=T++[(some v',some l')])
    have perm1:∀ A:Sl,List.Perm ((some v',some l')::(A++T)) (A++(T++[(some v',some l')])):=fun A=>by
     rw [← Y0]
     exact (List.perm_append_singleton _ _).symm
    constructor
    . intro s
      exact (ih1.mp (s.perm (perm1 L).symm)).perm (perm1 _)
    . intro s
      exact (ih1.mpr (s.perm (perm1 _).symm)).perm (perm1 L)
theorem SR.both (s:SR K H0 Z0 σ H ρ pd):∀ e∈σ.zip ρ.vs,e.2=none\/∃ v l,e=(some v,some l):=by
 obtain ⟨_,Z,_,z,s⟩:=s
 intro e he
 have q:=s.1 e (Zd _ (Zv _ he))
 obtain ⟨v,l⟩:=e
 cases l with
 | none=>exact .inl rfl
 | some l=>
  cases l with
  | sh p=>obtain ⟨x,e1,_⟩:=q; have e1':v=some x:=e1; subst e1'; exact .inr ⟨_,_,rfl⟩
  | own p=>obtain ⟨x,e1,_⟩:=q; have e1':v=some (.ref x):=e1; subst e1'; exact .inr ⟨_,_,rfl⟩
theorem Cz (hb:∀ e∈σ.zip ρ.vs,e.2=none\/∃ v l,e=(some v,some l)):Slots K H0 Z H (sl g σ ρ pd) ↔ Slots K H0 Z H (cel g ρ.mu++(pZ σ ρ++pd).map fun e=>(some e.1,some e.2)):=by
 have h1:=vf (K:=K) (H0:=H0) (Z:=Z) (H:=H) hb (T:=(pd.map fun e=>(some e.1,some e.2))++cel g ρ.mu)
 have c1:List.Perm (sl g σ ρ pd) (σ.zip ρ.vs++((pd.map fun e=>(some e.1,some e.2))++cel g ρ.mu)):=by
  unfold sl
  rw [← Y0 (σ.zip ρ.vs)]
  exact Z6
 have c2:List.Perm (cel g ρ.mu++(pZ σ ρ++pd).map fun e=>((some e.1:Option V),(some e.2:Option Lc))) ((pZ σ ρ).map (fun e=>(some e.1,some e.2))++((pd.map fun e=>(some e.1,some e.2))++cel g ρ.mu)):=by
  rw [Y6,← Y0 ((pZ σ ρ).map _)]
  exact Z6
 exact ⟨fun s=>(h1.mp (s.perm c1.symm)).perm c2,fun s=>(h1.mpr (s.perm c2.symm)).perm c1⟩
theorem SR.back {σ':L2.St} {ρ':Ev} (el:σ.length=ρ.vs.length) (hb:∀ e∈σ.zip ρ.vs,e.2=none\/∃ v l,e=(some v,some l)) (s:SR K H0 Z0 σ' H ρ' (pZ σ ρ++pd)):SR K H0 Z0 σ H ⟨ρ.vs,ρ'.mu⟩ pd:=by
 obtain ⟨_,Z,hg,z,s⟩:=s
 refine ⟨el,Z,hg,z,(Cz (ρ:=⟨ρ.vs,ρ'.mu⟩) hb).mpr ?_⟩
 exact s.sub ((aan _).append (aac _ _))
noncomputable def jr (ixs:List Nat) (ρ:Ev):Ev:=ixs.foldl (fun ρ i=>match ρ.vs[i]? with
 | some (some l)=>ρ.set i (some (.sh l.pv))
 | _=>ρ) ρ
theorem SR.frz:∀ {ixs:List Nat} {ρ:Ev},SR K H0 Z0 σ H ρ pd->SR K H0 Z0 σ H (jr ixs ρ) pd
 | [],ρ,s=>s
 | i::r,ρ,s=>by
  unfold jr
  rw [Z3]
  refine SR.frz (ixs:=r) ?_
  split
  . rename_i l e
    obtain ⟨v,_,h2⟩:=s.var e
    exact h2.pop
  . exact s
noncomputable def yL:Option Lc->Bool
 | some (.own _)=>false
 | _=>true
theorem Fp {j:Nat}:∀ {ixs:List Nat} {ρ:Ev},yL (ρ.vs[j]?).join=true->yL ((jr ixs ρ).vs[j]?).join=true
 | [],ρ,h=>h
 | i::r,ρ,h=>by
  unfold jr
  rw [Z3]
  refine Fp (ixs:=r) ?_
  split
  . rename_i l e
    by_cases hij:i=j
    . subst hij
      have hi:=(YF.mp e).1
      show yL ((ρ.vs.set i _)[i]?).join=true
      rw [YM hi]
      rfl
    . show yL ((ρ.vs.set i _)[j]?).join=true
      rw [Yz hij]; exact h
  . exact h
theorem Mh {j:Nat}:∀ {ixs:List Nat} {ρ:Ev},j∈ixs->yL ((jr ixs ρ).vs[j]?).join=true
 | [],ρ,h=>by cases h
 | i::r,ρ,h=>by
  unfold jr
  rw [Z3]
  rcases YC.mp h with e | h
  . subst e
    refine Fp (ixs:=r) ?_
    split
    . rename_i l e
      have hi:=(YF.mp e).1
      show yL ((ρ.vs.set j _)[j]?).join=true
      rw [YM hi]
      rfl
    . rename_i hn
      cases q:ρ.vs[j]? with
      | none=>rfl
      | some o=>
       cases o with
       | none=>rfl
       | some l=>exact (hn l q).elim
  . exact Mh h
noncomputable def rG (m:Nat) (ixs:List Nat) (ρ:Ev):Ev:=⟨List.replicate m none++ixs.map fun i=>(ρ.vs[i]?).join,ρ.mu⟩
theorem SR.block {m:Nat} {ixs:List Nat} (s:SR K H0 Z0 σ H ρ pd) (hs:∀ j∈ixs,yL (ρ.vs[j]?).join=true):SR K H0 Z0 (wD m ixs σ) H (rG m ixs ρ) (pZ σ ρ++pd):=by
 have hb:=s.both
 obtain ⟨el,Z,hg,z,so⟩:=s
 refine ⟨by simp [wD,rG],Z,hg,z,?_⟩
 have s3:=(Cz hb).mp so
 have fin:Slots K H0 Z H ((ixs.map fun i=>(σ[i]?).join).zip (ixs.map fun i=>(ρ.vs[i]?).join)++(cel Z.g ρ.mu++(pZ σ ρ++pd).map fun e=>(some e.1,some e.2)))->Slots K H0 Z H (sl Z.g (wD m ixs σ) (rG m ixs ρ) (pZ σ ρ++pd)):=fun h=>by
  unfold sl wD rG
  rw [Z5 (by simp),Y0]
  refine (nones h m).perm ?_
  exact (DX _ _ _).trans ((DX _ _ _).append_left _)
 refine fin ?_
 clear fin
 induction ixs with
 | nil=>simpa using s3
 | cons i r ih=>
  have ih':=ih fun j hj=>hs j (YG _ hj)
  rw [YT,YT,ZQ,ZW]
  have h1:=hs i Yv
  cases q:ρ.vs[i]? with
  | none=>
   refine ⟨fun e he=>?_,?_⟩
   . rcases YC.mp he with rfl | he
     . trivial
     . exact ih'.1 e he
   . rw [Zm]
     . exact ih'.2
     . cases (σ[i]?).join with
       | none=>rfl
       | some x=>cases x<;>rfl
  | some o=>
   cases o with
   | none=>
    refine ⟨fun e he=>?_,?_⟩
    . rcases YC.mp he with rfl | he
      . trivial
      . exact ih'.1 e he
    . rw [Zm]
      . exact ih'.2
      . cases (σ[i]?).join with
        | none=>rfl
        | some x=>cases x<;>rfl
   | some l=>
    rw [q] at h1
    cases l with
    | own p=>cases h1
    | sh p=>
     have hi:i<σ.length:=by rw [el]; exact (YF.mp q).1
     have hσ:σ[i]?=some σ[i]:=YQ hi
     have hm:=Zq (zip_get hσ q)
     obtain ⟨x,e1,e2⟩:=so.1 _ (Zd _ (Zv _ hm))
     have e1':σ[i]=some x:=e1
     have ej:(σ[i]?).join=some x:=by rw [hσ,e1']; rfl
     rw [ej]
     exact ih'.consS e2
end
theorem SR.pushO {v:V} {l:Lc} {a:Addr} {ws:List PV} (s:SR K H0 Z0 σ H ρ ((v,l)::(.ref a,.own (.lst ws))::pd)):
 ∃ us,H a=some (.lst us)/\us.length=ws.length/\SR K H0 Z0 σ (upd H a (.lst (us++[v]))) ρ ((.ref a,.own (.lst (ws++[l.pv])))::pd):=by
 obtain ⟨el,Z,hg,z,r,so⟩:=s.freeze.sh
 have so2:=so.perm bV.symm
 obtain ⟨b,eb,⟨us,hu,hr⟩,_⟩:=so2.1 _ Yv
 cases eb
 refine ⟨us,hu,hr.length,?_⟩
 obtain ⟨z',s'⟩:=so2.write (o:=.lst (us++[v])) (q:=.lst (ws++[l.pv])) z ⟨us++[v],bT,hr.append (aN.cons r .nil)⟩
 exact .mk el hg z' s'
noncomputable def qD (b:BF) (tc:TF) (te:EF):List PV->Ev->List PV->Option (List PV×Mu)
 | [],ρ,acc=>some (acc,ρ.mu)
 | x::xs,ρ,acc=>(b x ρ).bind fun ρ1=>(tc ρ1).bind fun c=>if c.1=true then (te c.2).bind fun v=>if acc.length<100000 then qD b tc te xs v.2 (acc++[v.1.pv]) else none else qD b tc te xs c.2 acc
noncomputable def dq (f:IF) (m:Nat) (ixs:List Nat) (b:BF) (tc:TF) (te:EF):EF:=fun ρ=>(f ρ).bind fun y=>(qD b tc te y.1 (rG m ixs (jr ixs y.2)) []).map fun ys=>(.own (.lst ys.1),⟨(jr ixs y.2).vs,ys.2⟩)
def CW (K:FG) (H0:Hp) (Z0:ZG) (b:BF) (tc:TF) (te:EF) (p:Addr) (PD:Pd) (xs:List PV) (zs:List PV×Mu) (i n:Nat) (σ':L2.St) (H':Hp):Prop:=
 n=xs.length-i/\i<=xs.length/\∃ ρi ws,SR K H0 Z0 σ' H' ρi ((.ref p,.own (.lst ws))::PD)/\qD b tc te (xs.drop i) ρi ws=some zs
theorem Mi {g:TG} {b:BF} {tc:TF} {te:EF} (hb:GS K g b) {H0:Hp} {p:Addr} {PD:Pd} {J:It} {xs:List PV} {zs:List PV×Mu} {Q:VK}
 (it:∀ ws,nj K H0 Z0 ((.ref p,.own (.lst ws))::PD) J xs) (fin:∀ σ' H' ρi ws,SR K H0 Z0 σ' H' ρi ((.ref p,.own (.lst ws))::PD)->qD b tc te [] ρi ws=some zs->Q (.ref p) H') (i n:Nat) (σ':L2.St) (H':Hp) (w:CW K H0 Z0 b tc te p PD xs zs i n σ' H'):
 (J.stop i H'/\Q (.ref p) H')\/(J.go i H'/\∀ x H2,J.yld i H' x H2->g x σ' H2 fun σ3 H3=>gG K tc σ3 H3 fun b' H4=>
   if b'=true then tP K te σ3 H4 fun v H5=>∃ ys,H5 p=some (.lst ys)/\ys.length<sizeLine/\∃ n',n'<n/\CW K H0 Z0 b tc te p PD xs zs (i+1) n' σ3 (upd H5 p (.lst (ys++[v])))
   else ∃ n',n'<n/\CW K H0 Z0 b tc te p PD xs zs (i+1) n' σ3 H4):=by
 refine Bp fun G kG=>?_
 obtain ⟨rfl,hi,ρi,ws,s',h'⟩:=w
 obtain ⟨i1,i2⟩:=it ws σ' H' ρi i s'
 by_cases hlt:i<xs.length
 . obtain ⟨go,yl⟩:=i1 _ (YQ hlt)
   rw [aad hlt] at h'
   obtain ⟨ρ1,e1,e2⟩:=aa6 h'
   obtain ⟨c,e3,e4⟩:=aa6 e2
   have hn:xs.length-(i+1)<xs.length-i:=by omega
   refine kG (.inr ⟨go,fun x H2 hy=>hb H0 Z0 σ' H2 ρi _ x _ ρ1 _ (yl x H2 hy) e1 fun σ2 s5=>⟨H0,Z0,ρ1,_,c.1,c.2,s5,e3,fun H4 s6=>?_⟩⟩)
   dsimp only
   split
   . rename_i hc
     refine Bp fun G kG=>?_
     rw [aaZ hc] at e4
     obtain ⟨v,e5,e6⟩:=aa6 e4
     split at e6
     . rename_i hz
       refine kG ⟨H0,Z0,c.2,_,v.1,v.2,s6,e5,fun vv H5 s7=>?_⟩
       refine Bp fun G kG=>?_
       obtain ⟨us,hu,hl,s8⟩:=s7.pushO
       exact kG ⟨us,hu,by rw [hl,sizeLine_eq]; omega,_,hn,rfl,hlt,v.2,_,s8,e6⟩
     . cases e6
   . rename_i hc
     rw [aa0 hc] at e4
     exact ⟨_,hn,rfl,hlt,c.2,ws,s6,e4⟩
 . have e:i=xs.length:=Nat.le_antisymm hi (aaB hlt)
   subst e
   rw [aaV] at h'
   exact kG (.inl ⟨i2 rfl,fin _ _ _ _ s' h'⟩)
theorem Fq {f:IF} {m:Nat} {ixs:List Nat} {g:TG} {b:BF} {tc:TF} {te:EF} (hb:GS K g b):∀ σ H Q,tP K (dq f m ixs b tc te) σ H Q->JZ (zN K f) m ixs g (gG K tc) (tP K te) σ H Q:=fun σ H Q q=>by
 refine Bp fun G kG=>?_
 obtain ⟨H0,Z0,ρ,pd,r,ρ',s,h,k⟩:=q
 obtain ⟨y,h1,h2⟩:=aa6 h
 obtain ⟨zs,h3,h4⟩:=aa7 h2
 cases h4
 refine kG ⟨H0,Z0,ρ,pd,y.1,y.2,s,h1,fun J H1 pd' s1 it sub p hp=>?_⟩
 have s2:SR K H0 Z0 σ H1 (jr ixs y.2) pd':=s1.frz
 have s3:=s2.block (m:=m) (ixs:=ixs) fun j hj=>Mh hj
 have s4:SR K H0 Z0 (wD m ixs σ) (upd H1 p (.lst [])) (rG m ixs (jr ixs y.2)) ((.ref p,.own (.lst []))::(pZ σ (jr ixs y.2)++pd')):=s3.newO hp fun Z _ _=>⟨[],bT,.nil⟩
 refine ⟨CW K H0 Z0 b tc te p (pZ σ (jr ixs y.2)++pd') y.1 zs,⟨_,rfl,ZC _,_,[],s4,h3⟩,Mi hb (fun ws=>nj.more (pe:=(.ref p,.own (.lst ws))::pZ σ (jr ixs y.2)) it) fun σ' H' ρi ws s' h'=>?_⟩
 cases h'
 have s5:SR K H0 Z0 σ' H' ρi (pZ σ (jr ixs y.2)++((.ref p,.own (.lst ws))::pd')):=s'.perm Zk
 exact k _ _ ((SR.back s2.1 s2.both s5).sub (sub.cons_cons _))
section
variable {X:Cx}
theorem mj (M F:List Str) (ixs:List Nat) {sc:Scope} {tg iter elt:Expr} {ifs:List Expr} {f:IF} {g:TG} {b:BF} {tc:TF} {te:EF} {pos:Pos} (hcalm:X.calm=true) (c:iZ X M F ixs sc) (hi:PI X tg iter (zN X.K f))
 (hg:∀ C fp s H,PG (fU X M F sc C fp s H) tg g) (hb:GS X.K g b) (hc:∀ C fp s H,wF (fU X M F sc C fp s H) ifs (gG X.K tc)) (he:∀ C fp s H,PE (fU X M F sc C fp s H) elt (tP X.K te))
 (hs:∀ x,foldedSetIterable iter X.env x=pure x:=by intro _; rfl):PE X (.ListComp elt [⟨tg,iter,ifs,0⟩] sc pos) (tP X.K (dq f M.length ixs b tc te)):=PE.imp (Rx M F ixs hcalm c hi hg hc he hs) (Fq hb)
theorem RM {i:Nat} (M F:List Str) (ixs:List Nat) {x:Str} {sc:Scope} {tg iter elt:Expr} {ifs:List Expr} {f:IF} {g:TG} {b:BF} {tc:TF} {te:EF} {pos pos' pos2:Pos} (hN:X.N.Nodup) (hix:X.N[i]?=some x) (hx:X.env.scope.names.lookup x=some .local)
 (hcalm:X.calm=true) (c:iZ X M F ixs sc) (hi:PI X tg iter (zN X.K f))
 (hg:∀ C fp s H,PG (fU X M F sc C fp s H) tg g) (hb:GS X.K g b) (hc:∀ C fp s H,wF (fU X M F sc C fp s H) ifs (gG X.K tc)) (he:∀ C fp s H,PE (fU X M F sc C fp s H) elt (tP X.K te))
 (hsw:swapsWith (.ListComp elt [⟨tg,iter,ifs,0⟩] sc pos) (some (.Name x pos')) pos2.line X.env=pure true:=by rfl)
 (hs:∀ x,foldedSetIterable iter X.env x=pure x:=by intro _; rfl):PS X (.Assign [.Name x pos'] (.ListComp elt [⟨tg,iter,ifs,0⟩] sc pos) pos2) (fK X.K (aL i (dq f M.length ixs b tc te))):=
 PS.imp (Ry M F ixs hN hix hx hcalm c hi hg hc he hsw hs) (HW fun D σ H q=>Fq hb σ H _ q)
noncomputable def dN:TF:=fun ρ=>some (true,ρ)
theorem gm:wF X [] (gG X.K dN):=fun pins s σ H Q I q=>Ov pins s σ H Q I (by
 obtain ⟨H0,Z0,ρ,pd,b,ρ',s,h,k⟩:=q
 cases h
 exact k H s)
end
noncomputable def rH (f:PV->PV->Option Bool):List PV->List PV->Option Bool
 | p::ps,q::qs=>(f p q).bind fun b=>(rH f ps qs).map fun c=>b&&c
 | _,_=>some true
noncomputable def fZ:Nat->PV->PV->Option Bool
 | 0,_,_=>none
 | n+1,p,q=>match p,q with
  | .tup ps,.tup qs=>(rH (fZ n) ps qs).map fun b=>b&&(ps.length==qs.length)
  | .lst ps,.lst qs=>if ps.length=qs.length then rH (fZ n) ps qs else some false
  | .non,.non=>some true
  | .bl a,.bl b=>some (a==b)
  | .int a,.int b=>some (a==b)
  | .str a,.str b=>some (a==b)
  | .bl a,.int b=>some ((if a then 1 else 0)==b)
  | .int a,.bl b=>some (a==(if b then 1 else 0))
  | .non,.bl _=>some false
  | .non,.int _=>some false
  | .non,.str _=>some false
  | .non,.tup _=>some false
  | .non,.lst _=>some false
  | .bl _,.non=>some false
  | .bl _,.str _=>some false
  | .bl _,.tup _=>some false
  | .bl _,.lst _=>some false
  | .int _,.non=>some false
  | .int _,.str _=>some false
  | .int _,.tup _=>some false
  | .int _,.lst _=>some false
  | .str _,.non=>some false
  | .str _,.bl _=>some false
  | .str _,.int _=>some false
  | .str _,.tup _=>some false
  | .str _,.lst _=>some false
  | .tup _,.non=>some false
  | .tup _,.bl _=>some false
  | .tup _,.int _=>some false
  | .tup _,.str _=>some false
  | .tup _,.lst _=>some false
  | .lst _,.non=>some false
  | .lst _,.bl _=>some false
  | .lst _,.int _=>some false
  | .lst _,.str _=>some false
  | .lst _,.tup _=>some false
  | _,_=>none
theorem xN {f:PV->PV->Option Bool}:∀ {ps qs:List PV} {b:Bool},rH f ps qs=some b->(∀ (j:Nat) p q,ps[j]?=some p->qs[j]?=some q->f p q=some ((f (ps.getD j .non) (qs.getD j .non)).getD false))/\
 b=(List.range (min ps.length qs.length)).all fun j=>(f (ps.getD j .non) (qs.getD j .non)).getD false
 | [],qs,b,h=>by
  cases h
  exact ⟨fun j p q e=>by simp at e,by simp⟩
 | p::ps,[],b,h=>by
  cases h
  exact ⟨fun j p q _ e=>by simp at e,by simp⟩
 | p::ps,q::qs,b,h=>by
  obtain ⟨c,h1,h2⟩:=aa6 h
  obtain ⟨d,h3,rfl⟩:=aa7 h2
  obtain ⟨i1,i2⟩:=xN h3
  refine ⟨fun j p' q' e1 e2=>?_,?_⟩
  . cases j with
    | zero=>
     simp at e1 e2
     subst e1 e2
     simp [h1]
    | succ j=>
     have:=i1 j p' q' (by simpa using e1) (by simpa using e2)
     simpa using this
  . have e:min (p::ps).length (q::qs).length=min ps.length qs.length+1:=by simp only [YB]; omega
    rw [e,List.range_succ_eq_map,List.all_cons,List.all_map]
    have e0:(f ((p::ps).getD 0 .non) ((q::qs).getD 0 .non)).getD false=c:=by simp [h1]
    rw [e0,i2]
    rfl
theorem elts {Z:ZG} {ps:List PV} {vs:List V} {its:List Value} (r:aN K Z ps vs) (rv:Vals vs its) {j:Nat} (h:j<its.length):∃ p v,ps[j]?=some p/\Rep K Z p v/\RelV v its[j]:=by
 have hl:=rv.length
 have hv:vs[j]?=some vs[j]:=YQ (by omega)
 obtain ⟨u,e1,e2⟩:=rv.get hv
 rw [YQ h] at e1
 cases e1
 obtain ⟨p,e3,e4⟩:=r.getV hv
 exact ⟨p,vs[j],e3,e4,e2⟩
section
open PySem.SeqAt
variable {X:Cx} {pins:List (Addr×Obj)} {σ:L2.St} {H:Hp} {s:Shared} {g:List Addr}
theorem ux (I:Inv X pins σ H s) {ps:List PV} {v:V} {u:Value} (r:Rep X.K ⟨H,g⟩ (.tup ps) v) (ru:RelV v u):∃ a vs its,u=.ref a/\cQ X.K H a vs/\aN X.K ⟨H,g⟩ ps vs/\Vals vs its/\s.heap.IsTuple a its.toArray:=by
 unfold Rep at r
 obtain ⟨a,vs,rfl,h1,h2⟩:=r
 obtain ⟨its,r1,t1,_⟩:=I.tuple h1
 exact ⟨a,vs,its,ru,h1,h2,r1,t1⟩
theorem uy (I:Inv X pins σ H s) {ps:List PV} {v:V} {u:Value} (r:Rep X.K ⟨H,g⟩ (.lst ps) v) (ru:RelV v u):∃ a vs its,u=.ref a/\bU X.K H a vs/\aN X.K ⟨H,g⟩ ps vs/\Vals vs its/\s.heap.IsList a its.toArray:=by
 unfold Rep at r
 obtain ⟨a,vs,rfl,h1,h2⟩:=r
 obtain ⟨its,r1,t1,_⟩:=I.list h1
 exact ⟨a,vs,its,ru,h1,h2,r1,t1.isList⟩
noncomputable def kn:PV->Nat
 | .non=>0 | .bl _=>1 | .int _=>2 | .str _=>3 | .tup _=>4 | .lst _=>5 | _=>6
theorem Xk {p:PV} (h:kn p=4):∃ ps,p=.tup ps:=by cases p<;>first | exact ⟨_,rfl⟩ | cases h
theorem Xl {p:PV} (h:kn p=5):∃ ps,p=.lst ps:=by cases p<;>first | exact ⟨_,rfl⟩ | cases h
theorem zP {n:Nat} {p q:PV} {b:Bool} (h:fZ (n+1) p q=some b):kn p<6:=by
 cases p<;>first | cases h; done | exact Nat.le.step (Nat.le.step (Nat.le.step (Nat.le.step (Nat.le.step .refl)))) | exact Nat.le.step (Nat.le.step (Nat.le.step (Nat.le.step .refl))) | exact Nat.le.step (Nat.le.step (Nat.le.step .refl)) | exact Nat.le.step (Nat.le.step .refl) | exact Nat.le.step .refl | exact Nat.le.refl
theorem QJ {n:Nat} {p q:PV} {b:Bool} (h:fZ (n+1) p q=some b):kn q<6:=by
 have no:fZ (n+1) p q=none->kn q<6:=fun e=>absurd (h.symm.trans e) (Option.some_ne_none b)
 cases q with
 | dk _ _=>exact no (by cases p<;>rfl)
 | dt _ _=>exact no (by cases p<;>rfl)
 | obj _ _ _=>exact no (by cases p<;>rfl)
 | df _ _=>exact no (by cases p<;>rfl)
 | dtf _ _=>exact no (by cases p<;>rfl)
 | dx _ _ _=>exact no (by cases p<;>rfl)
 | exc _=>exact no (by cases p<;>rfl)
 | ptr _=>exact no (by cases p<;>rfl)
 | _=>first | exact Nat.le.step (Nat.le.step (Nat.le.step (Nat.le.step (Nat.le.step .refl)))) | exact Nat.le.step (Nat.le.step (Nat.le.step (Nat.le.step .refl))) | exact Nat.le.step (Nat.le.step (Nat.le.step .refl)) | exact Nat.le.step (Nat.le.step .refl) | exact Nat.le.step .refl | exact Nat.le.refl
noncomputable def back:V->Option PV
 | .non=>some .non | .bl b=>some (.bl b) | .int i=>some (.int i) | .str x=>some (.str x) | _=>none
inductive Sh (K:FG) (Z:ZG) (v:V):PV->Prop
 | at {p:PV}:back v=some p->Sh K Z v p
 | tup {a:Addr} {ps:List PV} {vs:List V}:v=.ref a->cQ K Z.z a vs->aN K Z ps vs->Sh K Z v (.tup ps)
 | lst {a:Addr} {ps:List PV} {vs:List V}:v=.ref a->bU K Z.z a vs->aN K Z ps vs->Sh K Z v (.lst ps)
theorem DY {Z:ZG} {v:V} {p:PV} (r:Rep K Z p v) (h:kn p<6):Sh K Z v p:=by
 cases p with
 | non=>exact .at (congrArg back (gD r))
 | bl b=>exact .at (congrArg back (dg r))
 | int b=>exact .at (congrArg back (bI r))
 | str b=>exact .at (congrArg back (dj r))
 | tup ps=>unfold Rep at r; obtain ⟨a,vs,e,h1,h2⟩:=r; exact .tup e h1 h2
 | lst ps=>unfold Rep at r; obtain ⟨a,vs,e,h1,h2⟩:=r; exact .lst e h1 h2
 | _=>exact absurd h (ZS 6)
inductive Tw (K:FG) (Z:ZG):PV->PV->Prop
 | at {v:V} {p:PV}:back v=some p->Tw K Z p p
 | tup {ps qs:List PV} {vs:List V}:aN K Z ps vs->aN K Z qs vs->Tw K Z (.tup ps) (.tup qs)
 | lst {ps qs:List PV} {vs:List V}:aN K Z ps vs->aN K Z qs vs->Tw K Z (.lst ps) (.lst qs)
theorem QK (I:Inv X pins σ H s) {a:Addr} {vs ws:List V} (h1:cQ X.K H a vs) (h3:bU X.K H a ws):False:=by
 obtain ⟨its,r1,⟨o1,n1,g1,c1,_⟩,_⟩:=I.list h3
 obtain ⟨its2,r2,⟨o2,g2,c2,_⟩,_⟩:=I.tuple h1
 rw [g1] at g2
 cases g2
 rw [c1] at c2
 exact absurd c2 (by decide)
theorem vg {v:V} {a:Addr} {p:PV} (e:v=.ref a) (h:back v=some p):False:=by subst e; cases h
theorem Sh.two (I:Inv X pins σ H s) {p q:PV} {v:V} (h1:Sh X.K ⟨H,g⟩ v p) (h2:Sh X.K ⟨H,g⟩ v q):Tw X.K ⟨H,g⟩ p q:=by
 cases h1 with
 | «at» e=>
  cases h2 with
  | «at» e'=>exact (YW (e.symm.trans e'))▸.at e
  | tup e'=>exact (vg e' e).elim
  | lst e'=>exact (vg e' e).elim
 | tup e k1 k2=>
  cases h2 with
  | «at» e'=>exact (vg e e').elim
  | tup e' m1 m2=>exact .tup k2 (I.tuple_inj k1 (V.ref.inj (e'.symm.trans e)▸m1)▸m2)
  | lst e' m1=>exact (QK I k1 (V.ref.inj (e'.symm.trans e)▸m1)).elim
 | lst e k1 k2=>
  cases h2 with
  | «at» e'=>exact (vg e e').elim
  | tup e' m1=>exact (QK I m1 (V.ref.inj (e.symm.trans e')▸k1)).elim
  | lst e' m1 m2=>exact .lst k2 (I.list_inj k1 (V.ref.inj (e'.symm.trans e)▸m1)▸m2)
theorem Vj {n:Nat} {v:V} {p:PV} {b:Bool} (e:back v=some p) (h:fZ (n+1) p p=some b):b=true:=by
 cases v with
 | non=>cases e; cases h; rfl
 | bl z=>cases e; cases h; exact aa5 z
 | int z=>cases e; cases h; exact aa5 z
 | str z=>cases e; cases h; exact aa5 z
 | _=>cases e
theorem wM {f:PV->PV->Option Bool} {Z:ZG} (ih:∀ (p q:PV) (v:V) (b:Bool),Rep K Z p v->Rep K Z q v->f p q=some b->b=true):∀ {ps qs:List PV} {vs:List V} {c:Bool},aN K Z ps vs->aN K Z qs vs->rH f ps qs=some c->c=true
 | [],qs,vs,c,a,b,h=>by cases h; rfl
 | p::ps,[],vs,c,a,b,h=>by cases h; rfl
 | p::ps,q::qs,vs,c,a,b,h=>by
  obtain ⟨w1,r1,e1,e2,e3⟩:=a.inv
  obtain ⟨w2,r2,f1,f2,f3⟩:=b.inv
  obtain ⟨g1,g2⟩:=List.cons.inj (e1.symm.trans f1)
  subst g1 g2
  obtain ⟨c,h1,h2⟩:=aa6 h
  obtain ⟨d,h3,rfl⟩:=aa7 h2
  rw [ih _ _ _ _ e2 f2 h1,wM ih e3 f3 h3]
  rfl
theorem vh {f:PV->PV->Option Bool} {Z:ZG} (ih:∀ (p q r:PV) (v:V) (b c:Bool),Rep K Z p v->Rep K Z q v->f p r=some b->f q r=some c->b=c):∀ {ps qs rs:List PV} {vs:List V} {b c:Bool},aN K Z ps vs->aN K Z qs vs->rH f ps rs=some b->rH f qs rs=some c->b=c
 | [],[],rs,vs,b,c,_,_,h,k=>YW (h.symm.trans k)
 | [],q::qs,rs,vs,b,c,a,b',h,k=>by
  obtain ⟨_,_,e,_⟩:=b'.inv
  exact absurd (a.inv0.symm.trans e) (by simp)
 | p::ps,[],rs,vs,b,c,a,b',h,k=>by
  obtain ⟨_,_,e,_⟩:=a.inv
  exact absurd (b'.inv0.symm.trans e) (by simp)
 | p::ps,q::qs,[],vs,b,c,a,b',h,k=>YW (h.symm.trans k)
 | p::ps,q::qs,r::rs,vs,b,c,a,b',h,k=>by
  obtain ⟨w1,r1,e1,e2,e3⟩:=a.inv
  obtain ⟨w2,r2,f1,f2,f3⟩:=b'.inv
  obtain ⟨g1,g2⟩:=List.cons.inj (e1.symm.trans f1)
  subst g1 g2
  obtain ⟨x1,h1,h2⟩:=aa6 h
  obtain ⟨d1,h3,rfl⟩:=aa7 h2
  obtain ⟨x2,k1,k2⟩:=aa6 k
  obtain ⟨d2,k3,rfl⟩:=aa7 k2
  rw [ih _ _ _ _ _ _ e2 f2 h1 k1,vh ih e3 f3 h3 k3]
theorem eq_self (I:Inv X pins σ H s):∀ (n:Nat) {p q:PV} {v:V} {b:Bool},Rep X.K ⟨H,g⟩ p v->Rep X.K ⟨H,g⟩ q v->fZ n p q=some b->b=true
 | 0,p,q,v,b,_,_,h=>by cases h
 | n+1,p,q,v,b,rp,rq,h=>by
  cases Sh.two I (DY rp (zP h)) (DY rq (QJ h)) with
  | «at» e=>exact Vj e h
  | tup h2 h4=>
   obtain ⟨c,h5,rfl⟩:=aa7 h
   rw [wM (fun _ _ _ _=>eq_self I n) h2 h4 h5,h2.length.symm.trans h4.length,aa5]
   rfl
  | lst h2 h4=>exact wM (fun _ _ _ _=>eq_self I n) h2 h4 ((aaZ (h2.length.symm.trans h4.length)).symm.trans h)
inductive U (s:Shared):PV->Value->Prop
 | non:U s .non .none
 | bl {b:Bool}:U s (.bl b) (.bool b)
 | int {i:Int} {t}:U s (.int i) (.int i t)
 | str {x:Str} {t}:U s (.str x) (.str x t)
 | tup {ps:List PV} {a:Addr} {its}:s.heap.IsTuple a its->U s (.tup ps) (.ref a)
 | lst {ps:List PV} {a:Addr} {its}:s.heap.IsList a its->U s (.lst ps) (.ref a)
theorem Vk (I:Inv X pins σ H s) {p:PV} {v:V} {u:Value} (r:Rep X.K ⟨H,g⟩ p v) (ru:RelV v u) (h:kn p<6):U s p u:=by
 cases p with
 | non=>cases gD r; cases ru; exact .non
 | bl b=>cases dg r; cases ru; exact .bl
 | int b=>cases bI r; obtain ⟨t,rfl⟩:=ru; exact .int
 | str b=>cases dj r; obtain ⟨t,rfl⟩:=ru; exact .str
 | tup ps=>obtain ⟨a,vs,its,rfl,_,_,_,x⟩:=ux I r ru; exact .tup x
 | lst ps=>obtain ⟨a,vs,its,rfl,_,_,_,x⟩:=uy I r ru; exact .lst x
 | _=>exact absurd h (ZS 6)
def E3 (A:Around) (s:Shared) (x y:Value) (b:Bool):Prop:=EqAt A s x y b/\RcAt A s x y b/\RcNeAt A s x y (!b)
theorem E3.of {A:Around} {s:Shared} {x y:Value} {b c:Bool} (h:some c=some b) (e:EqAt A s x y c) (r:RcAt A s x y c) (q:RcNeAt A s x y (!c)):E3 A s x y b:=YW h▸⟨e,r,q⟩
noncomputable def two (p q:PV):Bool:=kn p==kn q&&Nat.ble 4 (kn p)
theorem RN {A:Around} {p q:PV} {u1 u2:Value} {n:Nat} {b:Bool} (hu:A.units<cLine) (h1:U s p u1) (h2:U s q u2) (e:two p q=false) (h:fZ (n+1) p q=some b):E3 A s u1 u2 b:=by
 cases h1 with
 | non=>
  cases h2 with
  | non=>exact E3.of h (EqAt.same .none) RcAt.none_none RcNeAt.none_none
  | bl=>exact E3.of h (EqAt.none_bool _) (RcAt.none_bool _) (RcNeAt.none_bool _)
  | int=>exact E3.of h (EqAt.none_int _ _) (RcAt.none_int _ _) (RcNeAt.none_int _ _)
  | str=>exact E3.of h (EqAt.none_str _ _) (RcAt.none_str _ _) (RcNeAt.none_str _ _)
  | tup x2=>exact E3.of h (EqAt.none_tuple x2 hu) (RcAt.none_tuple x2 hu) (RcNeAt.none_tuple x2 hu)
  | lst x2=>exact E3.of h (EqAt.none_list x2 hu) (RcAt.none_list x2 hu) (RcNeAt.none_list x2 hu)
 | bl=>
  cases h2 with
  | non=>exact E3.of h (EqAt.bool_none _) (RcAt.bool_none _) (RcNeAt.bool_none _)
  | bl=>exact E3.of h (EqAt.bool_bool _ _) (RcAt.bool_bool _ _) (RcNeAt.bool_bool _ _)
  | int=>exact E3.of h (EqAt.bool_int _ _ _) (RcAt.bool_int _ _ _) (RcNeAt.bool_int _ _ _)
  | str=>exact E3.of h (EqAt.bool_str _ _ _) (RcAt.bool_str _ _ _) (RcNeAt.bool_str _ _ _)
  | tup x2=>exact E3.of h (EqAt.bool_tuple _ x2 hu) (RcAt.bool_tuple _ x2 hu) (RcNeAt.bool_tuple _ x2 hu)
  | lst x2=>exact E3.of h (EqAt.bool_list _ x2 hu) (RcAt.bool_list _ x2 hu) (RcNeAt.bool_list _ x2 hu)
 | int=>
  cases h2 with
  | non=>exact E3.of h (EqAt.int_none _ _) (RcAt.int_none _ _) (RcNeAt.int_none _ _)
  | bl=>exact E3.of h (EqAt.int_bool _ _ _) (RcAt.int_bool _ _ _) (RcNeAt.int_bool _ _ _)
  | int=>exact E3.of h (EqAt.int_int _ _ _ _) (RcAt.int_int _ _ _ _) (RcNeAt.int_int _ _ _ _)
  | str=>exact E3.of h (EqAt.int_str _ _ _ _) (RcAt.int_str _ _ _ _) (RcNeAt.int_str _ _ _ _)
  | tup x2=>exact E3.of h (EqAt.int_tuple _ _ x2 hu) (RcAt.int_tuple _ _ x2 hu) (RcNeAt.int_tuple _ _ x2 hu)
  | lst x2=>exact E3.of h (EqAt.int_list _ _ x2 hu) (RcAt.int_list _ _ x2 hu) (RcNeAt.int_list _ _ x2 hu)
 | str=>
  cases h2 with
  | non=>exact E3.of h (EqAt.str_none _ _) (RcAt.str_none _ _) (RcNeAt.str_none _ _)
  | bl=>exact E3.of h (EqAt.str_bool _ _ _) (RcAt.str_bool _ _ _) (RcNeAt.str_bool _ _ _)
  | int=>exact E3.of h (EqAt.str_int _ _ _ _) (RcAt.str_int _ _ _ _) (RcNeAt.str_int _ _ _ _)
  | str=>exact E3.of h (EqAt.str_str _ _ _ _) (RcAt.str_str _ _ _ _) (RcNeAt.str_str _ _ _ _)
  | tup x2=>exact E3.of h (EqAt.str_tuple _ _ x2 hu) (RcAt.str_tuple _ _ x2 hu) (RcNeAt.str_tuple _ _ x2 hu)
  | lst x2=>exact E3.of h (EqAt.str_list _ _ x2 hu) (RcAt.str_list _ _ x2 hu) (RcNeAt.str_list _ _ x2 hu)
 | tup x1=>
  cases h2 with
  | non=>exact E3.of h (EqAt.tuple_none x1 hu) (RcAt.tuple_none x1 hu) (RcNeAt.tuple_none x1 hu)
  | bl=>exact E3.of h (EqAt.tuple_bool _ x1 hu) (RcAt.tuple_bool _ x1 hu) (RcNeAt.tuple_bool _ x1 hu)
  | int=>exact E3.of h (EqAt.tuple_int _ _ x1 hu) (RcAt.tuple_int _ _ x1 hu) (RcNeAt.tuple_int _ _ x1 hu)
  | str=>exact E3.of h (EqAt.tuple_str _ _ x1 hu) (RcAt.tuple_str _ _ x1 hu) (RcNeAt.tuple_str _ _ x1 hu)
  | tup x2=>cases e
  | lst x2=>exact E3.of h (EqAt.tuple_list x1 x2 hu) (RcAt.tuple_list x1 x2 hu) (RcNeAt.tuple_list x1 x2 hu)
 | lst x1=>
  cases h2 with
  | non=>exact E3.of h (EqAt.list_none x1 hu) (RcAt.list_none x1 hu) (RcNeAt.list_none x1 hu)
  | bl=>exact E3.of h (EqAt.list_bool _ x1 hu) (RcAt.list_bool _ x1 hu) (RcNeAt.list_bool _ x1 hu)
  | int=>exact E3.of h (EqAt.list_int _ _ x1 hu) (RcAt.list_int _ _ x1 hu) (RcNeAt.list_int _ _ x1 hu)
  | str=>exact E3.of h (EqAt.list_str _ _ x1 hu) (RcAt.list_str _ _ x1 hu) (RcNeAt.list_str _ _ x1 hu)
  | tup x2=>exact E3.of h (EqAt.list_tuple x1 x2 hu) (RcAt.list_tuple x1 x2 hu) (RcNeAt.list_tuple x1 x2 hu)
  | lst x2=>cases e
theorem vm {v:V} {a:Addr} (r:RelV v (.ref a)):v=.ref a:=by
 cases v with
 | ref b=>cases r; rfl
 | non=>cases r
 | bl _=>cases r
 | ty _=>cases r
 | _=>obtain ⟨t,e⟩:=r; cases e
theorem Ft (I:Inv X pins σ H s) {n:Nat} {p q:PV} {a1 a2:Addr} {b:Bool} {A:Around} (rp:Rep X.K ⟨H,g⟩ p (.ref a1)) (rq:Rep X.K ⟨H,g⟩ q (.ref a2)) (h:fZ n p q=some b) (rc:RcAt A s (.ref a1) (.ref a2) b):EqAt A s (.ref a1) (.ref a2) b:=by
 by_cases ea:a1=a2
 . subst ea
   exact eq_self I n rp rq h▸EqAt.same _
 . exact EqAt.of_refs ea rc
theorem zQ (I:Inv X pins σ H s):∀ (n:Nat) {p q:PV} {v w:V} {u1 u2:Value} {b:Bool},Rep X.K ⟨H,g⟩ p v->Rep X.K ⟨H,g⟩ q w->RelV v u1->RelV w u2->fZ n p q=some b->∀ A:Around,A.units+n<cLine->
 EqAt A s u1 u2 b/\RcAt A s u1 u2 b/\RcNeAt A s u1 u2 (!b)
 | 0,p,q,v,w,u1,u2,b,_,_,_,_,h,_,_=>by cases h
 | n+1,p,q,v,w,u1,u2,b,rp,rq,r1,r2,h,A,hA=>by
  have hu:A.units<cLine:=aau (aaC _ _) hA
  have hin:A.in1.units+n<cLine:=by show A.units+1+n<cLine; omega
  have item:∀ {ps qs:List PV} {vs ws:List V} {its its2:List Value} {c:Bool},aN X.K ⟨H,g⟩ ps vs->Vals vs its->aN X.K ⟨H,g⟩ qs ws->Vals ws its2->rH (fZ n) ps qs=some c->
   ∀ j (h1:j<its.toArray.size) (h2:j<its2.toArray.size),EqAt A.in1 s its.toArray[j] its2.toArray[j] ((fZ n (ps.getD j .non) (qs.getD j .non)).getD false):=fun {ps qs vs ws its its2 c} a b c' d e j h1 h2=>by
   obtain ⟨p,v,e1,e2,e3⟩:=elts a b (j:=j) (by simpa using h1)
   obtain ⟨q,w,f1,f2,f3⟩:=elts c' d (j:=j) (by simpa using h2)
   have:=(xN e).1 j p q e1 f1
   exact (zQ I n e2 f2 e3 f3 this A.in1 hin).1
  cases e:two p q with
  | false=>exact RN hu (Vk I rp r1 (zP h)) (Vk I rq r2 (QJ h)) e h
  | true=>
   have e':kn p=kn q/\4<=kn p:=by unfold two at e; simpa using e
   have hk:=zP h
   rcases (by omega:kn p=4\/kn p=5) with hp | hp
   . obtain ⟨ps,rfl⟩:=Xk hp
     obtain ⟨qs,rfl⟩:=Xk (e'.1.symm.trans hp)
     clear e e' hk hp
     obtain ⟨a1,vs1,its1,rfl,q1,l1,rv1,x1⟩:=ux I rp r1
     obtain ⟨a2,vs2,its2,rfl,q2,l2,rv2,x2⟩:=ux I rq r2
     have e1:=vm r1
     have e2:=vm r2
     subst e1 e2
     obtain ⟨c,h5,rfl⟩:=aa7 h
     have it:=item l1 rv1 l2 rv2 h5
     have z1:its1.toArray.size=ps.length:=by rw [YH,← rv1.length,l1.length]
     have z2:its2.toArray.size=qs.length:=by rw [YH,← rv2.length,l2.length]
     have rc:=RcAt.tuples x1 x2 hu it
     have rn:=RcNeAt.tuples x1 x2 hu it
     rw [z1,z2,← (xN h5).2] at rc rn
     exact ⟨Ft I rp rq h rc,rc,rn⟩
   . obtain ⟨ps,rfl⟩:=Xl hp
     obtain ⟨qs,rfl⟩:=Xl (e'.1.symm.trans hp)
     clear e e' hk hp
     obtain ⟨a1,vs1,its1,rfl,q1,l1,rv1,x1⟩:=uy I rp r1
     obtain ⟨a2,vs2,its2,rfl,q2,l2,rv2,x2⟩:=uy I rq r2
     have e1:=vm r1
     have e2:=vm r2
     subst e1 e2
     have z1:its1.toArray.size=ps.length:=by rw [YH,← rv1.length,l1.length]
     have z2:its2.toArray.size=qs.length:=by rw [YH,← rv2.length,l2.length]
     by_cases hl:ps.length=qs.length
     . have h':=(aaZ hl).symm.trans h
       have it:=item l1 rv1 l2 rv2 h'
       have hz:=(z1.trans hl).trans z2.symm
       have rc:=RcAt.lists x1 x2 hz hu it
       have rn:=RcNeAt.lists x1 x2 hz hu it
       rw [z1,← (show min ps.length qs.length=ps.length by rw [← hl,Nat.min_self]),← (xN h').2] at rc rn
       exact ⟨Ft I rp rq h rc,rc,rn⟩
     . have h':=YW ((aa0 hl).symm.trans h)
       subst h'
       have hz:(its1.toArray.size != its2.toArray.size)=true:=by rw [z1,z2]; exact bne_iff_ne.mpr hl
       have rc:=RcAt.lists_lengths x1 x2 hz hu
       exact ⟨Ft I rp rq h rc,rc,RcNeAt.lists_lengths x1 x2 hz hu⟩
end
section
open PySem.SeqAt
variable {X:Cx} {pins:List (Addr×Obj)} {σ:L2.St} {H:Hp} {s:Shared} {g:List Addr}
theorem HY {n:Nat} {ps:List PV} {r:PV} {b:Bool} (h:fZ (n+1) (.tup ps) r=some b):b=false\/∃ rs,r=.tup rs:=by
 cases r with
 | tup rs=>exact .inr ⟨rs,rfl⟩
 | _=>cases h<;>exact .inl rfl
theorem Ia {n:Nat} {ps:List PV} {r:PV} {b:Bool} (h:fZ (n+1) (.lst ps) r=some b):b=false\/∃ rs,r=.lst rs:=by
 cases r with
 | lst rs=>exact .inr ⟨rs,rfl⟩
 | _=>cases h<;>exact .inl rfl
theorem zR (I:Inv X pins σ H s):∀ (n:Nat) {p q r:PV} {v:V} {b c:Bool},Rep X.K ⟨H,g⟩ p v->Rep X.K ⟨H,g⟩ q v->fZ n p r=some b->fZ n q r=some c->b=c
 | 0,p,q,r,v,b,c,_,_,h,_=>by cases h
 | n+1,p,q,r,v,b,c,rp,rq,h,k=>by
  cases Sh.two I (DY rp (zP h)) (DY rq (zP k)) with
  | «at» e=>exact YW (h.symm.trans k)
  | @tup ps qs _ h2 h4=>
   have el:ps.length=qs.length:=h2.length.symm.trans h4.length
   rcases HY h with rfl | ⟨rs,rfl⟩
   . rcases HY k with rfl | ⟨rs,rfl⟩
     . rfl
     . obtain ⟨c1,h5,e1⟩:=aa7 h
       obtain ⟨c2,k5,rfl⟩:=aa7 k
       rw [← vh (f:=fZ n) (fun _ _ _ _ _ _=>zR I n) h2 h4 h5 k5,← el,e1]
   . obtain ⟨c1,h5,rfl⟩:=aa7 h
     obtain ⟨c2,k5,rfl⟩:=aa7 k
     rw [vh (f:=fZ n) (fun _ _ _ _ _ _=>zR I n) h2 h4 h5 k5,el]
  | @lst ps qs _ h2 h4=>
   have el:ps.length=qs.length:=h2.length.symm.trans h4.length
   have main:∀ rs,r=.lst rs->b=c:=fun rs e=>by
    subst e
    by_cases hl:qs.length=rs.length
    . exact vh (f:=fZ n) (fun _ _ _ _ _ _=>zR I n) h2 h4 ((aaZ (el.trans hl)).symm.trans h) ((aaZ hl).symm.trans k)
    . exact YW ((((aa0 fun e=>hl (el.symm.trans e)).symm.trans h).symm.trans ((aa0 hl).symm.trans k)))
   rcases Ia h with e1 | ⟨rs,e⟩
   . rcases Ia k with e2 | ⟨rs,e⟩
     . exact e1.trans e2.symm
     . exact main rs e
   . exact main rs e
noncomputable def Fv (f:PV->PV->Option Bool) (x:PV):List PV->Option Bool
 | []=>some false
 | q::qs=>(f q x).bind fun b=>(Fv f x qs).map fun c=>b||c
theorem Ib {f:PV->PV->Option Bool} {x:PV}:∀ {qs:List PV} {b:Bool},Fv f x qs=some b->(∀ q∈qs,∃ c,f q x=some c)/\b=qs.any fun q=>(f q x).getD false
 | [],b,h=>by cases h; exact ⟨fun q hq=>by simp at hq,rfl⟩
 | q::qs,b,h=>by
  obtain ⟨c,h1,h2⟩:=aa6 h
  obtain ⟨d,h3,rfl⟩:=aa7 h2
  obtain ⟨i1,i2⟩:=Ib h3
  refine ⟨fun q' hq=>?_,?_⟩
  . rcases YC.mp hq with rfl | hq
    . exact ⟨c,h1⟩
    . exact i1 q' hq
  . rw [aaP,h1,aaS,← i2]
open Classical in
noncomputable def worth (K:FG) (Z:ZG) (x:PV) (qs:List PV) (vs:List V) (its:List Value) (u:Value):Bool:=
 if h:∃ (j:Nat) (q:PV),qs[j]?=some q/\its[j]?=some u then (fZ 150 h.choose_spec.choose x).getD false else false
theorem Fw (I:Inv X pins σ H s) {x:PV} {xv:V} {xu:Value} {qs:List PV} {vs:List V} {its:List Value} (r:aN X.K ⟨H,g⟩ qs vs) (rv:Vals vs its) (hx:∀ q∈qs,∃ c,fZ 150 q x=some c) {j:Nat} {q:PV} {u:Value} (e1:qs[j]?=some q) (e2:its[j]?=some u):
 worth X.K ⟨H,g⟩ x qs vs its u=(fZ 150 q x).getD false:=by
 have h:∃ (j:Nat) (q:PV),qs[j]?=some q/\its[j]?=some u:=⟨j,q,e1,e2⟩
 unfold worth
 rw [dif_pos h]
 obtain ⟨f1,f2⟩:=h.choose_spec.choose_spec
 generalize h.choose_spec.choose=q' at f1 f2
 generalize h.choose=j' at f1 f2
 obtain ⟨v1,g1,g2⟩:=r.get e1
 obtain ⟨v2,k1,k2⟩:=r.get f1
 obtain ⟨u1,m1,m2⟩:=rv.get g1
 obtain ⟨u2,n1,n2⟩:=rv.get k1
 rw [e2] at m1; cases m1
 rw [f2] at n1; cases n1
 have ev:=RelV.inj m2 n2
 subst ev
 obtain ⟨c1,h1⟩:=hx q (Zq e1)
 obtain ⟨c2,h2⟩:=hx q' (Zq f1)
 rw [h1,h2,zR I 150 k2 g2 h2 h1]
theorem mJ (I:Inv X pins σ H s) {x:PV} {xv:V} {xu:Value} {qs:List PV} {vs:List V} {its:List Value} (rx:Rep X.K ⟨H,g⟩ x xv) (ru:RelV xv xu) (r:aN X.K ⟨H,g⟩ qs vs) (rv:Vals vs its) (hx:∀ q∈qs,∃ c,fZ 150 q x=some c) {A:Around} (hA:A.units+150<cLine):
 ∀ u,u∈its.toArray->EqAt A s u xu (worth X.K ⟨H,g⟩ x qs vs its u):=fun u hu=>by
 have hu':u∈its:=by simpa using hu
 obtain ⟨j,hj,e⟩:=List.getElem_of_mem hu'
 have e2:its[j]?=some u:=by rw [YQ hj,e]
 have hl:=rv.length
 have hlr:=r.length
 have e1:qs[j]?=some (qs[j]'(by omega)):=YQ _
 rw [Fw (xv:=xv) (xu:=xu) I r rv hx e1 e2]
 obtain ⟨v1,g1,g2⟩:=r.get e1
 obtain ⟨u1,m1,m2⟩:=rv.get g1
 rw [e2] at m1; cases m1
 obtain ⟨c1,h1⟩:=hx _ (Zq e1)
 rw [h1]
 exact (zQ I 150 g2 rx m2 ru h1 A hA).1
theorem CG (I:Inv X pins σ H s) {x:PV} {xv:V} {xu:Value} {qs:List PV} {vs:List V} {its:List Value} (r:aN X.K ⟨H,g⟩ qs vs) (rv:Vals vs its) (hx:∀ q∈qs,∃ c,fZ 150 q x=some c):
 its.toArray.any (worth X.K ⟨H,g⟩ x qs vs its)=qs.any fun q=>(fZ 150 q x).getD false:=by
 have hl:its.length=qs.length:=by rw [← rv.length,r.length]
 have key:its.map (worth X.K ⟨H,g⟩ x qs vs its)=qs.map fun q=>(fZ 150 q x).getD false:=by
  apply List.ext_getElem?
  intro j
  rw [Y7,Y7]
  by_cases hj:j<its.length
  . have e2:=YQ hj
    have e1:qs[j]?=some (qs[j]'(by omega)):=YQ _
    rw [e2,e1,Z4,Z4,Fw (xv:=xv) (xu:=xu) I r rv hx e1 e2]
  . rw [Z7 (by omega),Z7 (by omega)]
    rfl
 rw [show its.toArray.any (worth X.K ⟨H,g⟩ x qs vs its)=its.any (worth X.K ⟨H,g⟩ x qs vs its) by simp]
 have a1:its.any (worth X.K ⟨H,g⟩ x qs vs its)=(its.map (worth X.K ⟨H,g⟩ x qs vs its)).any id:=by simp [List.any_map]
 have a2:(qs.any fun q=>(fZ 150 q x).getD false)=(qs.map fun q=>(fZ 150 q x).getD false).any id:=by simp [List.any_map]
 rw [a1,a2,key]
end
section
variable {X:Cx}
theorem SR.rep2 {v w:V} {p q:PV} (h:SR K H0 Z0 σ H ρ ((w,.sh q)::(v,.sh p)::pd)):∃ Z:ZG,dG Z.z H/\Rep K Z p v/\Rep K Z q w:=by
 obtain ⟨_,Z,_,z,r,s⟩:=h.sh
 obtain ⟨x,e1,e2⟩:=(s.perm bV.symm).1 _ Yv
 cases e1
 exact ⟨Z,z.zh,e2,r⟩
theorem SR.rep2H {v w:V} {p q:PV} (h:SR K H0 Z0 σ H ρ ((w,.sh q)::(v,.sh p)::pd)):∃ g,Rep K ⟨H,g⟩ p v/\Rep K ⟨H,g⟩ q w:=by
 obtain ⟨Z,z,a,b⟩:=h.rep2
 exact ⟨Z.g,a.mono (Z':=⟨H,Z.g⟩) ⟨z,ZP _⟩,b.mono (Z':=⟨H,Z.g⟩) ⟨z,ZP _⟩⟩
def Fx (K:FG) (neg:Bool):R2:=fun x y H Q=>∃ g p q b,Rep K ⟨H,g⟩ p x/\Rep K ⟨H,g⟩ q y/\fZ 150 p q=some b/\Q (.bl (if neg then !b else b)) H
theorem cX {b:Bool} {k:Nat} (hr:fH b k X.A):fB X (compareOp .Eq) (Fx X.K false):=by
 intro pins s σ H x y v u Q I rx ry h
 obtain ⟨g,p,q,b,rp,rq,e,k'⟩:=h
 have hA:X.A.units+150<cLine:=by have:=hr.un; omega
 obtain ⟨_,rc,_⟩:=zQ I 150 rp rq rx ry e X.A hA
 exact rc _ _ _ _ ⟨.bl b,H,I,rfl,k'⟩
theorem uz {b:Bool} {k:Nat} (hr:fH b k X.A):fB X (compareOp .NotEq) (Fx X.K true):=by
 intro pins s σ H x y v u Q I rx ry h
 obtain ⟨g,p,q,b,rp,rq,e,k'⟩:=h
 have hA:X.A.units+150<cLine:=by have:=hr.un; omega
 obtain ⟨_,_,rn⟩:=zQ I 150 rp rq rx ry e X.A hA
 exact rn _ _ _ _ ⟨.bl (!b),H,I,rfl,k'⟩
noncomputable def eqP (p q:PV):Option Lc:=(fZ 150 p q).map fun b=>.sh (.bl b)
noncomputable def pK (p q:PV):Option Lc:=(fZ 150 p q).map fun b=>.sh (.bl (!b))
theorem cY:iQ K (Fx K false) eqP:=by
 intro H0 Z0 σ ρ pd H v w x y l Q s e k
 obtain ⟨b,e1,rfl⟩:=aa7 e
 obtain ⟨g,r1,r2⟩:=s.rep2H
 exact ⟨g,x,y,b,r1,r2,e1,k _ H (s.pop.pop.scal eQ)⟩
theorem uA:iQ K (Fx K true) pK:=by
 intro H0 Z0 σ ρ pd H v w x y l Q s e k
 obtain ⟨b,e1,rfl⟩:=aa7 e
 obtain ⟨g,r1,r2⟩:=s.rep2H
 exact ⟨g,x,y,b,r1,r2,e1,k _ H (s.pop.pop.scal eQ)⟩
def O9 (K:FG) (neg:Bool):R2:=fun x y H Q=>(∃ g p qs b,Rep K ⟨H,g⟩ p x/\(Rep K ⟨H,g⟩ (.lst qs) y\/Rep K ⟨H,g⟩ (.tup qs) y)/\Fv (fZ 150) p qs=some b/\Q (.bl (if neg then !b else b)) H)\/
 ∃ i j,x=.str i/\y=.str j/\Q (.bl (if neg then (Builtin.Str.occurrences j i 0 j.length 1).isEmpty else !(Builtin.Str.occurrences j i 0 j.length 1).isEmpty)) H
theorem Vl {b:Bool} {k:Nat} (hr:fH b k X.A):fB X (compareOp .In) (O9 X.K false):=by
 intro pins s σ H x y v u Q I rx ry h
 have hA:X.A.in1.units+150<cLine:=by have:=hr.un; show X.A.units+1+150<cLine; omega
 rcases h with ⟨g,p,qs,b,rp,rq,e,k'⟩ | ⟨i,j,rfl,rfl,k'⟩
 . obtain ⟨i1,i2⟩:=Ib e
   rcases rq with rq | rq
   . obtain ⟨a,vs,its,rfl,q1,l1,rv1,t1⟩:=uy I rq ry
     refine SeqAt.in_listAt (worth X.K ⟨H,g⟩ p qs vs its) t1 (mJ I rp rx l1 rv1 i1 hA) ⟨.bl b,H,I,?_,k'⟩
     rw [CG (xv:=x) (xu:=v) I l1 rv1 i1,← i2]
     rfl
   . obtain ⟨a,vs,its,rfl,q1,l1,rv1,t1⟩:=ux I rq ry
     refine SeqAt.in_tupleAt (worth X.K ⟨H,g⟩ p qs vs its) t1 (mJ I rp rx l1 rv1 i1 hA) ⟨.bl b,H,I,?_,k'⟩
     rw [CG (xv:=x) (xu:=v) I l1 rv1 i1,← i2]
     rfl
 . exact K8 pins s σ H (.str i) (.str j) v u Q I rx ry ⟨i,j,rfl,rfl,k'⟩
noncomputable def isIn (x y:PV):Option Bool:=match y with
 | .lst qs=>Fv (fZ 150) x qs
 | .tup qs=>Fv (fZ 150) x qs
 | .str j=>match x with
  | .str i=>some (!(Builtin.Str.occurrences j i 0 j.length 1).isEmpty)
  | _=>none
 | _=>none
noncomputable def QL (p q:PV):Option Lc:=(isIn p q).map fun b=>.sh (.bl b)
theorem Vm {neg:Bool}:iQ K (O9 K neg) (fun p q=>(isIn p q).map fun b=>.sh (.bl (if neg then !b else b))):=by
 intro H0 Z0 σ ρ pd H v w x y l Q s e k
 obtain ⟨b,e1,rfl⟩:=aa7 e
 obtain ⟨g,r1,r2⟩:=s.rep2H
 cases y with
 | lst qs=>exact .inl ⟨g,x,qs,b,r1,.inl r2,e1,k _ H (s.pop.pop.scal eQ)⟩
 | tup qs=>exact .inl ⟨g,x,qs,b,r1,.inr r2,e1,k _ H (s.pop.pop.scal eQ)⟩
 | str j=>
  cases x with
  | str i=>
   have e1':=YW e1
   subst e1'
   refine .inr ⟨i,j,dj r1,dj r2,?_⟩
   have:=k (.bl (if neg then (Builtin.Str.occurrences j i 0 j.length 1).isEmpty else !(Builtin.Str.occurrences j i 0 j.length 1).isEmpty)) H
   refine this (s.pop.pop.scal fun Z=>?_)
   cases neg<;>simp [Rep]
  | _=>cases e1
 | _=>cases e1
theorem RP:iQ K (O9 K false) QL:=Vm
noncomputable def QM:PV->Bool
 | .non=>true
 | _=>false
noncomputable def Pa (p q:PV):Option Lc:=match q with
 | .non=>some (.sh (.bl (QM p)))
 | _=>none
theorem RT {Z:ZG} {p:PV} {v:V} (r:Rep K Z p v):decide (v=.non)=QM p:=by
 cases p with
 | non=>have:=gD r; subst this; rfl
 | bl b=>have:=dg r; subst this; rfl
 | int b=>have:=bI r; subst this; rfl
 | str b=>have:=dj r; subst this; rfl
 | tup ps=>unfold Rep at r; obtain ⟨a,vs,rfl,_⟩:=r; rfl
 | lst ps=>unfold Rep at r; obtain ⟨a,vs,rfl,_⟩:=r; rfl
 | dk ks ps=>unfold Rep at r; obtain ⟨a,vs,rfl,_⟩:=r; rfl
 | dt ks ps=>unfold Rep at r; obtain ⟨a,vs,rfl,_⟩:=r; rfl
 | obj c ks ps=>unfold Rep at r; obtain ⟨a,c,dx,fs,rfl,_⟩:=r; rfl
 | df ks ps=>unfold Rep at r; obtain ⟨a,o,kvs,rfl,_⟩:=r; rfl
 | dtf ks ps=>unfold Rep at r; obtain ⟨a,o,kvs,rfl,_⟩:=r; rfl
 | dx hk ks ps=>unfold Rep at r; obtain ⟨a,xs,rfl,_⟩:=r; rfl
 | exc n=>unfold Rep at r; obtain ⟨a,c,rfl,_⟩:=r; rfl
 | ptr n=>unfold Rep at r; obtain ⟨a,rfl,_⟩:=r; rfl
theorem Ie:iQ K (fun x y H Q=>y=.non/\Q (.bl (decide (x=.non))) H) Pa:=by
 intro H0 Z0 σ ρ pd H v w x y l Q s e k
 obtain ⟨g,r1,r2⟩:=s.rep2H
 cases y with
 | non=>
  have e':=YW e
  subst e'
  refine ⟨gD r2,?_⟩
  rw [RT r1]
  exact k _ H (s.pop.pop.scal eQ)
 | _=>cases e
noncomputable def sZ:=sY (fun _ _=>true) fun i j=>.bl (decide (i<j))
noncomputable def uB:=sY (fun _ _=>true) fun i j=>.bl (decide (i<=j))
noncomputable def rJ:=sY (fun _ _=>true) fun i j=>.bl (decide (j<i))
noncomputable def QQ:=sY (fun _ _=>true) fun i j=>.bl (decide (j<=i))
theorem wN:iQ K (q9 fun i j=>.bl (decide (i<j))) sZ:=wH fun _ _ _=>eQ _
theorem zU:iQ K (q9 fun i j=>.bl (decide (i<=j))) uB:=wH fun _ _ _=>eQ _
theorem zV:iQ K (q9 fun i j=>.bl (decide (j<i))) rJ:=wH fun _ _ _=>eQ _
theorem Vn:iQ K (q9 fun i j=>.bl (decide (j<=i))) QQ:=wH fun _ _ _=>eQ _
noncomputable def yM:=sY (fun _ _=>true) fun i j=>.int (i-j)
noncomputable def aQ:=sY (fun _ j=>decide (0<j)) fun i j=>.int (i%j)
noncomputable def bQ:=sY (fun _ j=>decide (0<j/\j<1073741824)) fun i j=>.int (i/j)
noncomputable def cL:=sY (fun i j=>decide ((-(2 ^ 64)<i/\i<2 ^ 64)\/(-(2 ^ 64)<j/\j<2 ^ 64))) fun i j=>.int (i*j)
noncomputable def oJ:=sY (fun i j=>decide (0<=j/\j<=1000000/\i.natAbs<2 ^ 64)) fun i j=>.int (i ^ j.toNat)
theorem xO:iQ K (q9 fun i j=>.int (i-j)) yM:=wH fun _ _ _=>eN _
theorem bz:iQ K (rI (fun _ j=>0<j) fun i j=>.int (i%j)) aQ:=zJ (fun _ _ h=>of_decide_eq_true h) fun _ _ _=>eN _
theorem dz:iQ K (rI Uo fun i j=>.int (i/j)) bQ:=zJ (fun i j h=>(of_decide_eq_true h:0<j/\j<1073741824)) fun _ _ _=>eN _
theorem eO:iQ K (rI JF fun i j=>.int (i*j)) cL:=zJ (fun i j h=>(of_decide_eq_true h:(-(2 ^ 64)<i/\i<2 ^ 64)\/(-(2 ^ 64)<j/\j<2 ^ 64))) fun _ _ _=>eN _
theorem uC:iQ K (rI Up fun i j=>.int (i ^ j.toNat)) oJ:=zJ (fun i j h=>(of_decide_eq_true h:0<=j/\j<=1000000/\i.natAbs<2 ^ 64)) fun _ _ _=>eN _
def Od (K:FG):R2:=fun x y H Q=>q9 (fun i j=>.int (i+j)) x y H Q\/(∃ i j,x=.str i/\y=.str j/\i.length+j.length<=sizeLine/\Q (.str (i++j)) H)\/
 (∃ a b xs ys,x=.ref a/\y=.ref b/\bU K H a xs/\bU K H b ys/\xs.length+ys.length<=sizeLine/\∀ p,H p=none->Q (.ref p) (upd H p (.lst (xs++ys))))\/Qx K x y H Q
theorem cO:fB X (binaryOp .Add) (Od X.K):=Uq.or (JK.or (Rz.or Rr))
noncomputable def bK:PV->PV->Option Lc
 | .int i,.int j=>some (.sh (.int (i+j)))
 | .str i,.str j=>if i.length+j.length<=100000 then some (.sh (.str (i++j))) else none
 | .lst ps,.lst qs=>if ps.length+qs.length<=100000 then some (.own (.lst (ps++qs))) else none
 | .tup (p::ps),.tup qs=>if ps.length+qs.length<=10000 then some (.sh (.tup (p::ps++qs))) else none
 | _,_=>none
theorem yN {α:Type} {c:Prop} [Decidable c] {a b:α} (e:(if c then some a else none)=some b):c/\a=b:=by
 split at e
 . rename_i h
   exact ⟨h,YW e⟩
 . cases e
theorem RV {x y:PV} {l:Lc} (e:bK x y=some l):(∃ i j,x=.int i/\y=.int j/\l=.sh (.int (i+j)))\/(∃ i j,x=.str i/\y=.str j/\i.length+j.length<=100000/\l=.sh (.str (i++j)))
 \/ (∃ ps qs,x=.lst ps/\y=.lst qs/\ps.length+qs.length<=100000/\l=.own (.lst (ps++qs)))\/∃ p ps qs,x=.tup (p::ps)/\y=.tup qs/\ps.length+qs.length<=10000/\l=.sh (.tup (p::ps++qs)):=by
 unfold bK at e
 split at e
 . cases e
   exact .inl ⟨_,_,rfl,rfl,rfl⟩
 . obtain ⟨h,e⟩:=yN e
   exact .inr (.inl ⟨_,_,rfl,rfl,h,e.symm⟩)
 . obtain ⟨h,e⟩:=yN e
   exact .inr (.inr (.inl ⟨_,_,rfl,rfl,h,e.symm⟩))
 . obtain ⟨h,e⟩:=yN e
   exact .inr (.inr (.inr ⟨_,_,_,rfl,rfl,h,e.symm⟩))
 . cases e
theorem cP:iQ K (Od K) bK:=by
 intro H0 Z0 σ ρ pd H v w x y l Q s e k
 obtain ⟨g,r1,r2⟩:=s.rep2H
 rcases RV e with ⟨i,j,rfl,rfl,rfl⟩ | ⟨i,j,rfl,rfl,hl,rfl⟩ | ⟨ps,qs,rfl,rfl,hl,rfl⟩ | ⟨p,ps,qs,rfl,rfl,hl,rfl⟩
 . exact .inl ⟨i,j,bI r1,bI r2,k _ H (s.pop.pop.scal eN)⟩
 . exact .inr (.inl ⟨i,j,dj r1,dj r2,small hl,k _ H (s.pop.pop.scal uw)⟩)
 . obtain ⟨el,Z,hg,z,rq,s1⟩:=s.sh
   have s2:=s1.perm bV.symm
   obtain ⟨_,e1,rp⟩:=s2.1 _ Yv
   cases e1
   unfold Rep at rp rq
   obtain ⟨a,xs,rfl,h1,h2⟩:=rp
   obtain ⟨b,ys,rfl,h3,h4⟩:=rq
   refine .inr (.inr (.inl ⟨a,b,xs,ys,rfl,rfl,bU.same z.zh h1,bU.same z.zh h3,by rw [h2.length,h4.length]; exact small hl,fun p hp=>k _ _ ?_⟩))
   obtain ⟨z',s'⟩:=(s2.sub (YJ _ _)).new (o:=.lst (xs++ys)) (p:=.lst (ps++qs)) z hp ⟨xs++ys,bT,h2.append h4⟩
   exact .mk el hg z' s'
 . obtain ⟨el,Z,hg,z,rq,s1⟩:=s.sh
   have s2:=s1.perm bV.symm
   obtain ⟨_,e1,rp⟩:=s2.1 _ Yv
   cases e1
   unfold Rep at rp rq
   obtain ⟨a,xs,rfl,h1,h2⟩:=rp
   obtain ⟨b,ys,rfl,h3,h4⟩:=rq
   have hx:xs≠[]:=fun h=>by have:=h2.length; rw [h] at this; simp at this
   have hz:=h2.length
   have hz':=h4.length
   rw [YB] at hz
   refine .inr (.inr (.inr ⟨a,b,xs,ys,rfl,rfl,cQ.same z.zh h1,cQ.same z.zh h3,hx,small (by omega),fun h=>?_,fun h q hq=>?_⟩))
   . subst h
     have:qs=[]:=aaG hz'.symm
     subst this
     rw [YS] at k
     exact k _ H s.pop
   . have s3:=s2.sub (YJ _ _)
     obtain ⟨z',sz,s'⟩:=s3.newF (o:=.tup (xs++ys)) z hq
     refine k _ _ (.mk (Z:=Z.put q (.tup (xs++ys))) el hg z' (s'.consS ?_))
     unfold Rep
     exact ⟨q,xs++ys,rfl,cQ.of bT,(h2.append h4).mono sz⟩
noncomputable def wO:PV->PV->Option Lc
 | .lst ps,.int i=>(gj ps i).map .sh
 | .tup ps,.int i=>(gj ps i).map .sh
 | .str x,.int i=>if x.length<=100000 then (gj x.cps.toList i).map fun c=>.sh (.str ⟨#[c]⟩) else none
 | _,_=>none
theorem xP {α β:Type} {l:List α} {r:List β} {i:Int} {x:α} (h:gj l i=some x) (e:r.length=l.length):∃ (j:Nat),l[j]?=some x/\∀ y,r[j]?=some y->gj r i=some y:=by
 unfold gj at h
 obtain ⟨j,h1,h2⟩:=aa6 h
 refine ⟨j,h2,fun y hy=>?_⟩
 unfold gj
 rw [e,h1]
 exact hy
theorem Vo {x y:PV} {l:Lc} (e:wO x y=some l):∃ i,y=.int i/\((∃ ps,(x=.lst ps\/x=.tup ps)/\(gj ps i).map Lc.sh=some l)\/∃ t c,x=.str t/\t.length<=100000/\gj t.cps.toList i=some c/\l=.sh (.str ⟨#[c]⟩)):=by
 unfold wO at e
 split at e
 . exact ⟨_,rfl,.inl ⟨_,.inl rfl,e⟩⟩
 . exact ⟨_,rfl,.inl ⟨_,.inr rfl,e⟩⟩
 . split at e
   . rename_i h
     obtain ⟨c,h1,rfl⟩:=aa7 e
     exact ⟨_,rfl,.inr ⟨_,c,rfl,h,h1,rfl⟩⟩
   . cases e
 . cases e
theorem Mj:iQ K (UT K) wO:=by
 intro H0 Z0 σ ρ pd H v w x y l Q s e k
 obtain ⟨i,rfl,hx⟩:=Vo e
 obtain ⟨el,Z,hg,z,r2,s1⟩:=s.sh
 have s2:=s1.perm bV.symm
 obtain ⟨_,e1,r1⟩:=s2.1 _ Yv
 cases e1
 have s3:=s2.sub (YJ _ _)
 have ew:=bI r2
 rcases hx with ⟨ps,hx,h0⟩ | ⟨x,c,rfl,hl,h1,rfl⟩
 . obtain ⟨p,h1,rfl⟩:=aa7 h0
   rcases hx with rfl | rfl
   . unfold Rep at r1
     obtain ⟨a,vs,rfl,h2,h3⟩:=r1
     obtain ⟨j,e1,e2⟩:=xP h1 h3.length
     obtain ⟨u,e3,e4⟩:=h3.get e1
     exact .inl ⟨a,vs,i,u,rfl,ew,bU.same z.zh h2,e2 u e3,k _ H (.mk el hg z (s3.consS e4))⟩
   . unfold Rep at r1
     obtain ⟨a,vs,rfl,h2,h3⟩:=r1
     obtain ⟨j,e1,e2⟩:=xP h1 h3.length
     obtain ⟨u,e3,e4⟩:=h3.get e1
     exact .inr (.inl ⟨a,vs,i,u,rfl,ew,cQ.same z.zh h2,e2 u e3,k _ H (.mk el hg z (s3.consS e4))⟩)
 . exact .inr (.inr ⟨x,i,c,dj r1,ew,small hl,h1,k _ H (s.pop.pop.scal uw)⟩)
noncomputable def jl (ps:List PV) (lo hi:Option Int):List PV:=(ps.drop (HT.sIx ps.length 0 lo)).take (HT.sIx ps.length ps.length hi-HT.sIx ps.length 0 lo)
abbrev OF:=Ev->Option (Option Int×Ev)
def CJ (K:FG) (f:OF):TO:=fun σ H Q=>∃ H0 Z0 ρ pd r ρ',SR K H0 Z0 σ H ρ pd/\f ρ=some (r,ρ')/\∀ H',SR K H0 Z0 σ H' ρ' pd->Q r H'
theorem PO.imp {e:Option Expr} {t t':TO} (h:PO X e t) (i:∀ σ H Q,t' σ H Q->t σ H Q):PO X e t':=fun pins s σ H Q I q=>h pins s σ H Q I (i σ H Q q)
noncomputable def ie:OF:=fun ρ=>some (none,ρ)
noncomputable def gF (f:EF):OF:=fun ρ=>(f ρ).bind fun x=>match x.1.pv with
 | .int i=>some (some i,x.2)
 | _=>none
theorem oK:PO X none (CJ X.K ie):=PO.imp Rp fun σ H Q q=>by
 obtain ⟨H0,Z0,ρ,pd,r,ρ',s,h,k⟩:=q
 cases h
 exact k H s
theorem oM {e:Expr} {f:EF} (h:PE X e (tP X.K f)):PO X (some e) (CJ X.K (gF f)):=PO.imp (Rq h) fun σ H Q q=>by
 obtain ⟨H0,Z0,ρ,pd,r,ρ',s,h,k⟩:=q
 obtain ⟨x,h1,h2⟩:=aa6 h
 refine ⟨H0,Z0,ρ,pd,x.1,x.2,s,h1,fun v H1 s1=>?_⟩
 obtain ⟨_,r1⟩:=s1.freeze.repH
 cases e:x.1.pv with
 | int i=>
  rw [e] at h2 r1
  cases h2
  exact ⟨i,bI r1,k H1 s1.pop⟩
 | _=>rw [e] at h2; cases h2
theorem aN.cut {Z:ZG} {ps:List PV} {vs:List V} {lo hi:Option Int} (h:aN K Z ps vs):aN K Z (jl ps lo hi) (mF vs lo hi):=by
 unfold jl mF
 rw [h.length]
 exact (h.drop _).take _
def iK (K:FG) (r:List V->Hp->VK->Prop) (g:List PV->Option Lc):Prop:=∀ H0 Z0 σ ρ pd H vs ps l Q,vs.length=ps.length->SR K H0 Z0 σ H ρ (vs.zip (ps.map Lc.sh)++pd)->g ps=some l->(∀ u H',SR K H0 Z0 σ H' ρ ((u,l)::pd)->Q u H')->r vs H Q
noncomputable def eB (g:List PV->Option Lc) (a:AF):EF:=fun ρ=>(a ρ).bind fun y=>(g (y.1.map Lc.pv)).map fun l=>(l,y.2)
theorem rK {r:List V->Hp->VK->Prop} {g:List PV->Option Lc} (hs:iK X.K r g) {a:AF}:∀ σ H Q,tP X.K (eB g a) σ H Q->Cr r (jc X.K a) σ H Q:=fun σ H Q q=>by
 obtain ⟨H0,Z0,ρ,pd,l,ρ',s,f,k⟩:=q
 obtain ⟨y,h1,h2⟩:=aa6 f
 obtain ⟨l',h3,h4⟩:=aa7 h2
 cases h4
 refine ⟨H0,Z0,ρ,pd,y.1,y.2,s,h1,fun vs H2 e2 s2=>?_⟩
 have s3:=s2.freezeAll
 have hm:(y.1.map fun l=>Lc.sh l.pv)=(y.1.map Lc.pv).map Lc.sh:=by rw [Zc]; rfl
 rw [hm] at s3
 exact hs H0 Z0 σ y.2 pd H2 vs (y.1.map Lc.pv) _ Q (by simpa using e2) s3 h3 k
theorem uD {x:Str} {id:String} {r:List V->Hp->VK->Prop} {g:List PV->Option Lc} {e:Expr} {es:List Expr} {a:AF} {p pos:Pos} (hc:lZ X (.builtin id) r) (hs:iK X.K r g) (h:PE X (.Call (.Name x p) (e::es) [] pos) (Cr r (jc X.K a))):PE X (.Call (.Name x p) (e::es) [] pos) (tP X.K (eB g a)):=PE.imp h (rK hs)
theorem iK.one {r:List V->Hp->VK->Prop} {g:PV->Option Lc} (h:∀ H0 Z0 σ ρ pd H v p l Q,SR K H0 Z0 σ H ρ ((v,.sh p)::pd)->g p=some l->(∀ u H',SR K H0 Z0 σ H' ρ ((u,l)::pd)->Q u H')->r [v] H Q):
 iK K r (fun ps=>match ps with | [p]=>g p | _=>none):=by
 intro H0 Z0 σ ρ pd H vs ps l Q e s hg k
 match ps,vs,e,s,hg with
 | [p],[v],_,s,hg=>exact h H0 Z0 σ ρ pd H v p l Q s hg k
 | [p],[],e,_,_=>simp at e
 | [p],_::_::_,e,_,_=>simp at e
 | [],_,_,_,hg=>cases hg
 | _::_::_,_,_,_,hg=>cases hg
noncomputable def Pb:PV->Option Lc
 | .str x=>if x.length<=100000 then some (.sh (.int x.length)) else none
 | .lst ps=>some (.sh (.int ps.length))
 | .tup ps=>some (.sh (.int ps.length))
 | _=>none
noncomputable abbrev cF:List PV->Option Lc:=fun ps=>match ps with | [p]=>Pb p | _=>none
theorem Ml:iK K (fun xs H Q=>∃ x n,xs=[x]/\Oa K x H n/\Q (.int n) H) cF:=iK.one fun H0 Z0 σ ρ pd H v p l Q s e k=>by
 obtain ⟨_,r⟩:=s.repH
 cases p with
 | str x=>
  have e':(if x.length<=100000 then some (Lc.sh (.int x.length)) else none)=some l:=e
  split at e'
  . rename_i hl
    cases e'
    have:=dj r
    subst this
    exact ⟨_,x.length,rfl,⟨small hl,rfl⟩,k _ H (s.pop.scal eN)⟩
  . cases e'
 | lst ps=>
  cases e
  unfold Rep at r
  obtain ⟨a,vs,rfl,h1,h2⟩:=r
  exact ⟨_,ps.length,rfl,.inl ⟨vs,h1,h2.length.symm⟩,k _ H (s.pop.scal eN)⟩
 | tup ps=>
  cases e
  unfold Rep at r
  obtain ⟨a,vs,rfl,h1,h2⟩:=r
  exact ⟨_,ps.length,rfl,.inr ⟨vs,h1,h2.length.symm⟩,k _ H (s.pop.scal eN)⟩
 | _=>cases e
noncomputable def W2:PV->Option Lc
 | .lst ps=>some (.own (.lst ps))
 | .tup ps=>some (.own (.lst ps))
 | _=>none
noncomputable abbrev list1:List PV->Option Lc:=fun ps=>match ps with | [p]=>W2 p | _=>none
theorem Bq:iK K (fun xs H Q=>∃ p ys,xs=[.ref p]/\(bU K H p ys\/cQ K H p ys)/\∀ l,H l=none->Q (.ref l) (upd H l (.lst ys))) list1:=iK.one fun H0 Z0 σ ρ pd H v p l Q s e k=>by
 obtain ⟨el,Z,hg,z,r,s1⟩:=s.sh
 cases p with
 | lst ps=>
  cases e
  unfold Rep at r
  obtain ⟨a,vs,rfl,h1,h2⟩:=r
  refine ⟨a,vs,rfl,.inl (bU.same z.zh h1),fun q hq=>k _ _ ?_⟩
  obtain ⟨z',s'⟩:=s1.new (o:=.lst vs) (p:=.lst ps) z hq ⟨_,bT,h2⟩
  exact .mk el hg z' s'
 | tup ps=>
  cases e
  unfold Rep at r
  obtain ⟨a,vs,rfl,h1,h2⟩:=r
  refine ⟨a,vs,rfl,.inr (cQ.same z.zh h1),fun q hq=>k _ _ ?_⟩
  obtain ⟨z',s'⟩:=s1.new (o:=.lst vs) (p:=.lst ps) z hq ⟨_,bT,h2⟩
  exact .mk el hg z' s'
 | _=>cases e
theorem Ev.set_set {i:Nat} {x y:Option Lc}:(ρ.set i x).set i y=ρ.set i y:=by
 show Ev.mk ((ρ.vs.set i x).set i y) ρ.mu=_
 rw [ZD]
 rfl
theorem SR.takeO {i:Nat} {ws:List PV} (s:SR K H0 Z0 σ H ρ pd) (e:ρ.vs[i]?=some (some (.own (.lst ws)))):
 ∃ a,σ[i]?=some (some (.ref a))/\(∃ us,H a=some (.lst us))/\SR K H0 Z0 σ H (ρ.set i none) ((.ref a,.own (.lst ws))::pd):=by
 obtain ⟨v,e1,s1⟩:=s.take e
 obtain ⟨_,Z,_,z,so⟩:=s1.top
 obtain ⟨a,ea,⟨us,hu,_⟩,_⟩:=so.1 _ Yv
 have ea':v=.ref a:=YW ea
 subst ea'
 exact ⟨a,e1,⟨us,hu⟩,s1⟩
noncomputable def ig (i:Nat) (f:EF):SF:=fun ρ=>match ρ.vs[i]? with
 | some (some (.own (.lst _)))=>(f ρ).bind fun y=>match y.2.vs[i]? with
  | some (some (.own (.lst ws)))=>if ws.length<100000 then some (.nx (y.2.set i (some (.own (.lst (ws++[y.1.pv])))))) else none
  | _=>none
 | _=>none
theorem Vp {i:Nat} {o e:Expr} {f:EF} {apos cpos pos:Pos} (h:PS X (.Expr (.Call (.Attribute o "append" apos) [e] [] cpos) pos) (uW (HH X.K "list" Bh (pX i) (jc X.K (aj f ao))))):
 PS X (.Expr (.Call (.Attribute o "append" apos) [e] [] cpos) pos) (fK X.K (ig i f)):=PS.imp h fun D σ H q=>by
 obtain ⟨H0,Z0,ρ,pd,fl,s,h,k⟩:=q
 unfold ig at h
 split at h
 . rename_i ws0 e0
   obtain ⟨y,h1,h2⟩:=aa6 h
   obtain ⟨a,ea,⟨us,hu⟩,_⟩:=s.takeO e0
   refine ⟨.ref a,ea,.inl ⟨rfl,us,bU.of hu⟩,H0,Z0,ρ,pd,[y.1],y.2,s,?_,fun vs H2 e2 s2=>?_⟩
   . unfold aj ao
     rw [h1]
     rfl
   . obtain ⟨v1,rfl⟩:=yo e2
     split at h2
     . rename_i ws e3
       split at h2
       . rename_i hz
         cases h2
         obtain ⟨a',ea',_,s3⟩:=SR.takeO s2 e3
         rw [ea] at ea'; cases ea'
         have s4:SR X.K H0 Z0 σ H2 (y.2.set i none) ((v1,y.1)::(.ref a,.own (.lst ws))::pd):=s3.swap
         obtain ⟨us2,hu2,hl,s5⟩:=s4.pushO
         refine ⟨a,us2,v1,rfl,rfl,hu2,by rw [hl,sizeLine_eq]; omega,k σ _ ?_⟩
         have s6:=s5.put ea
         rw [Ev.set_set] at s6
         exact s6
       . cases h2
     . cases h2
 . cases h
theorem SR.extO {v:V} {ps:List PV} {a:Addr} {ws:List PV} (s:SR K H0 Z0 σ H ρ ((v,.sh (.lst ps))::(.ref a,.own (.lst ws))::pd)):
 ∃ b us zs,v=.ref b/\bU K H b zs/\H a=some (.lst us)/\us.length=ws.length/\zs.length=ps.length/\SR K H0 Z0 σ (upd H a (.lst (us++zs))) ρ ((.ref a,.own (.lst (ws++ps)))::pd):=by
 obtain ⟨el,Z,hg,z,r,so⟩:=s.sh
 unfold Rep at r
 obtain ⟨b,zs,rfl,h1,h2⟩:=r
 have so2:=so.perm bV.symm
 obtain ⟨_,eb,⟨us,hu,hr⟩,_⟩:=so2.1 _ Yv
 cases eb
 refine ⟨b,us,zs,rfl,bU.same z.zh h1,hu,hr.length,h2.length,?_⟩
 obtain ⟨z',s'⟩:=so2.write (o:=.lst (us++zs)) (q:=.lst (ws++ps)) z ⟨us++zs,bT,hr.append h2⟩
 exact .mk el hg z' s'
noncomputable def nq (i:Nat) (f:EF):SF:=fun ρ=>match ρ.vs[i]? with
 | some (some (.own (.lst _)))=>(f ρ).bind fun y=>match y.1.pv,y.2.vs[i]? with
  | .lst ps,some (some (.own (.lst ws)))=>if ws.length+ps.length<=100000 then some (.nx (y.2.set i (some (.own (.lst (ws++ps)))))) else none
  | _,_=>none
 | _=>none
theorem Vq {i:Nat} {o e:Expr} {f:EF} {apos cpos pos:Pos} (h:PS X (.Expr (.Call (.Attribute o "extend" apos) [e] [] cpos) pos) (uW (HH X.K "list" (yH X.K) (pX i) (jc X.K (aj f ao))))):
 PS X (.Expr (.Call (.Attribute o "extend" apos) [e] [] cpos) pos) (fK X.K (nq i f)):=PS.imp h fun D σ H q=>by
 obtain ⟨H0,Z0,ρ,pd,fl,s,h,k⟩:=q
 unfold nq at h
 split at h
 . rename_i ws0 e0
   obtain ⟨y,h1,h2⟩:=aa6 h
   obtain ⟨a,ea,⟨us,hu⟩,_⟩:=s.takeO e0
   refine ⟨.ref a,ea,.inl ⟨rfl,us,bU.of hu⟩,H0,Z0,ρ,pd,[y.1],y.2,s,?_,fun vs H2 e2 s2=>?_⟩
   . unfold aj ao
     rw [h1]
     rfl
   . obtain ⟨v1,rfl⟩:=yo e2
     split at h2
     . rename_i ps ws ep e3
       split at h2
       . rename_i hz
         cases h2
         obtain ⟨a',ea',_,s3⟩:=SR.takeO s2 e3
         rw [ea] at ea'; cases ea'
         have s4:SR X.K H0 Z0 σ H2 (y.2.set i none) ((v1,.sh y.1.pv)::(.ref a,.own (.lst ws))::pd):=s3.swap.freeze
         rw [ep] at s4
         obtain ⟨b,us2,zs,rfl,hb,hu2,hl,hl2,s5⟩:=s4.extO
         refine ⟨a,b,us2,zs,rfl,rfl,hu2,hb,by rw [hl,hl2]; exact small hz,k σ _ ?_⟩
         have s6:=s5.put ea
         rw [Ev.set_set] at s6
         exact s6
       . cases h2
     . cases h2
 . cases h
theorem SR.setO {v:V} {p:PV} {a:Addr} {ws:List PV} {j:Nat} (s:SR K H0 Z0 σ H ρ ((v,.sh p)::(.ref a,.own (.lst ws))::pd)):
 ∃ us,H a=some (.lst us)/\us.length=ws.length/\SR K H0 Z0 σ (upd H a (.lst (us.set j v))) ρ ((.ref a,.own (.lst (ws.set j p)))::pd):=by
 obtain ⟨el,Z,hg,z,r,so⟩:=s.sh
 have so2:=so.perm bV.symm
 obtain ⟨_,eb,⟨us,hu,hr⟩,_⟩:=so2.1 _ Yv
 cases eb
 refine ⟨us,hu,hr.length,?_⟩
 obtain ⟨z',s'⟩:=so2.write (o:=.lst (us.set j v)) (q:=.lst (ws.set j p)) z ⟨us.set j v,bT,hr.set r j⟩
 exact .mk el hg z' s'
noncomputable def Yr (i:Nat) (fi fv:EF):SF:=fun ρ=>(fv ρ).bind fun x=>match x.2.vs[i]? with
 | some (some (.own (.lst _)))=>(fi x.2).bind fun y=>match y.1.pv,y.2.vs[i]? with
  | .int k,some (some (.own (.lst ws)))=>(pJ ws.length k).map fun j=>.nx (y.2.set i (some (.own (.lst (ws.set j x.1.pv)))))
  | _,_=>none
 | _=>none
theorem wQ {g:List Addr} {mu:Mu} {n:Nat} {a:Addr} {o:Option PV} (hg:g[n]?=some a) (hm:mu[n]?=some o):∃ R:Sl,List.Perm (cel g mu) ((some (.ref a),o.map Lc.own)::R)/\∀ o',List.Perm (cel g (mu.set n o')) ((some (.ref a),o'.map Lc.own)::R):=by
 have h1:(g.map fun a=>some (V.ref a))[n]?=some (some (.ref a)):=by rw [Y7,hg]; rfl
 have h2:(mu.map fun o=>o.map Lc.own)[n]?=some (o.map Lc.own):=by rw [Y7,hm]; rfl
 obtain ⟨R,p1,p2⟩:=wG (zip_get h1 h2)
 refine ⟨R,p1,fun o'=>?_⟩
 have:=p2 (some (.ref a),o'.map Lc.own)
 rw [← Bm,aa8 h1] at this
 unfold cel
 rw [List.map_set]
 exact this
theorem SR.cellO {v:V} {n:Nat} {p:PV} (s:SR K H0 Z0 σ H ρ ((v,.sh (.ptr n))::pd)) (hm:ρ.mu[n]?=some (some p)):
 ∃ a,v=.ref a/\SR K H0 Z0 σ H ⟨ρ.vs,ρ.mu.set n none⟩ ((.ref a,.own p)::(.ref a,.sh (.ptr n))::pd):=by
 obtain ⟨el,Z,hg,z,r,so⟩:=s.sh
 have r0:=r
 unfold Rep at r
 obtain ⟨a,rfl,ha⟩:=r
 obtain ⟨R,p1,p2⟩:=wQ ha hm
 refine ⟨a,rfl,.mk (Z:=Z) el (by simpa using hg) z ?_⟩
 have so2:Slots K H0 Z H ((some (.ref a),some (.own p))::(R++(σ.zip ρ.vs++pd.map fun e=>(some e.1,some e.2)))):=so.perm (p1.append_right _).symm
 have so3:Slots K H0 Z H ((some (.ref a),none)::(some (.ref a),some (.own p))::(R++(σ.zip ρ.vs++pd.map fun e=>(some e.1,some e.2)))):=by
  refine ⟨fun e he=>?_,?_⟩
  . rcases YC.mp he with rfl | he
    . trivial
    . exact so2.1 e he
  . rw [Zm rfl]; exact so2.2
 have so4:Slots K H0 Z H ((some (.ref a),some (.own p))::sl Z.g σ ⟨ρ.vs,ρ.mu.set n none⟩ pd):=(so3.perm (List.Perm.swap _ _ _)).perm (List.Perm.cons _ ((p2 none).append_right _))
 exact ((so4.consS r0).perm (List.Perm.swap _ _ _)).perm (List.Perm.cons _ bV)
theorem SR.cellP {a:Addr} {n:Nat} {q:PV} (s:SR K H0 Z0 σ H ρ ((.ref a,.own q)::(.ref a,.sh (.ptr n))::pd)) (hm:ρ.mu[n]?=some none):SR K H0 Z0 σ H ⟨ρ.vs,ρ.mu.set n (some q)⟩ pd:=by
 obtain ⟨el,Z,hg,z,r,so⟩:=s.swap.sh
 unfold Rep at r
 obtain ⟨b,eb,ha⟩:=r
 cases eb
 obtain ⟨R,p1,p2⟩:=wQ ha hm
 have so2:=so.perm bV.symm
 refine ⟨el,Z,by simpa using hg,z,?_⟩
 have p3:List.Perm (sl Z.g σ ρ pd) ((some (.ref a),none)::(R++(σ.zip ρ.vs++pd.map fun e=>(some e.1,some e.2)))):=p1.append_right _
 have so3:=so2.perm (p3.symm.cons _)
 have so4:=so3.sub (L':=(some (.ref a),some (.own q))::(R++(σ.zip ρ.vs++pd.map fun e=>(some e.1,some e.2)))) ((YJ _ _).cons_cons _)
 exact so4.perm ((p2 (some q)).append_right _)
noncomputable def vo (fo fi fv:EF):SF:=fun ρ=>(fv ρ).bind fun x=>(fo x.2).bind fun o=>(fi o.2).bind fun y=>match o.1.pv,y.1.pv with
 | .ptr n,.int k=>match y.2.mu[n]? with
  | some (some (.lst ws))=>(pJ ws.length k).map fun j=>.nx ⟨y.2.vs,y.2.mu.set n (some (.lst (ws.set j x.1.pv)))⟩
  | _=>none
 | _,_=>none
theorem Fy {o ix e:Expr} {fo fi fv:EF} {tpos pos:Pos} (h:PS X (.Assign [.Subscript o ix tpos] e pos) (El (tP X.K fv) (Jz (tP X.K fo) (tP X.K fi) Qy))):PS X (.Assign [.Subscript o ix tpos] e pos) (fK X.K (vo fo fi fv)):=PS.imp h fun D σ H q=>by
 obtain ⟨H0,Z0,ρ,pd,fl,s,h,k⟩:=q
 obtain ⟨x,h1,h2⟩:=aa6 h
 obtain ⟨o,h3,h4⟩:=aa6 h2
 obtain ⟨y,h5,h6⟩:=aa6 h4
 refine ⟨H0,Z0,ρ,pd,x.1,x.2,s,h1,fun v H1 s1=>⟨H0,Z0,x.2,_,o.1,o.2,s1.freeze,h3,fun w H2 s2=>⟨H0,Z0,o.2,_,y.1,y.2,s2.freeze,h5,fun t H3 s3=>?_⟩⟩⟩
 split at h6
 . rename_i n kk en ek
   split at h6
   . rename_i ws em
     obtain ⟨j,h7,rfl⟩:=aa7 h6
     obtain ⟨_,rt'⟩:=s3.freeze.repH
     rw [ek] at rt'
     have et:=bI rt'
     have s4:=s3.pop
     rw [en] at s4
     obtain ⟨a,rfl,s5⟩:=s4.cellO em
     have s6:SR X.K H0 Z0 σ H3 ⟨y.2.vs,y.2.mu.set n none⟩ ((v,.sh x.1.pv)::(.ref a,.own (.lst ws))::(.ref a,.sh (.ptr n))::pd):=s5.perm ((List.Perm.swap _ _ _).trans ((List.Perm.swap _ _ _).cons _))
     obtain ⟨us,hu,hl,s7⟩:=s6.setO (j:=j)
     have hn:n<y.2.mu.length:=(YF.mp em).1
     have s8:=s7.cellP (by show (y.2.mu.set n none)[n]?=_; rw [YM hn])
     refine ⟨a,us,kk,j,rfl,et,hu,by rw [hl]; exact h7,k σ _ ?_⟩
     have e8:(y.2.mu.set n none).set n (some (.lst (ws.set j x.1.pv)))=y.2.mu.set n (some (.lst (ws.set j x.1.pv))):=ZD ..
     have s9:SR X.K H0 Z0 σ (upd H3 a (.lst (us.set j v))) ⟨y.2.vs,(y.2.mu.set n none).set n (some (.lst (ws.set j x.1.pv)))⟩ pd:=s8
     rw [e8] at s9
     exact s9
   . cases h6
 . cases h6
noncomputable def aF (fa fb:EF):EF:=fun ρ=>(fa ρ).bind fun x=>(fb x.2).bind fun y=>match x.1.pv,y.1.pv with
 | .ptr n,.int k=>match y.2.mu[n]? with
  | some (some (.lst ws))=>(gj ws k).map fun p=>(.sh p,y.2)
  | _=>none
 | p,q=>(wO p q).map fun l=>(l,y.2)
theorem iU {a b:Expr} {pos:Pos} {fa fb:EF} (ha:PE X a (tP X.K fa)) (hb:PE X b (tP X.K fb)) (hm:xJ b):PE X (.Subscript a b pos) (tP X.K (aF fa fb)):=PE.imp (JV Lg ha hb hm) fun σ H Q q=>by
 obtain ⟨H0,Z0,ρ,pd,l,ρ',s,f,k⟩:=q
 obtain ⟨x,h1,h2⟩:=aa6 f
 obtain ⟨y,h3,h4⟩:=aa6 h2
 refine ⟨H0,Z0,ρ,pd,x.1,x.2,s,h1,fun v H1 s1=>⟨H0,Z0,x.2,_,y.1,y.2,s1,h3,fun w H2 s2=>?_⟩⟩
 have s3:=s2.freeze.swap.freeze.swap
 split at h4
 . rename_i n kk en ek
   split at h4
   . rename_i ws em
     obtain ⟨p,h5,h6⟩:=aa7 h4
     cases h6
     rw [en,ek] at s3
     obtain ⟨_,rw'⟩:=s3.repH
     have ew:=bI rw'
     obtain ⟨a,rfl,s5⟩:=s3.pop.cellO em
     obtain ⟨el,Z,hg,z,so⟩:=s5.top
     obtain ⟨_,ea,⟨us,hu,hr⟩,_⟩:=so.1 _ Yv
     cases ea
     obtain ⟨j,e1,e2⟩:=xP h5 hr.length
     obtain ⟨u,e3,e4⟩:=hr.get e1
     refine .inl ⟨a,us,kk,u,rfl,ew,bU.of hu,e2 u e3,k u H2 ?_⟩
     have s6:SR X.K H0 Z0 σ H2 ⟨y.2.vs,y.2.mu.set n none⟩ ((u,.sh p)::(.ref a,.own (.lst ws))::(.ref a,.sh (.ptr n))::pd):=.mk (Z:=Z) el hg z ((so.perm bV).consS e4)
     have hn:n<y.2.mu.length:=(YF.mp em).1
     have s7:SR X.K H0 Z0 σ H2 ⟨y.2.vs,y.2.mu.set n none⟩ ((.ref a,.own (.lst ws))::(.ref a,.sh (.ptr n))::(u,.sh p)::pd):=s6.perm (((List.Perm.swap _ _ _).cons _).trans (List.Perm.swap _ _ _))
     have s8:=s7.cellP (by show (y.2.mu.set n none)[n]?=_; rw [YM hn])
     have e8:(y.2.mu.set n none).set n (some (.lst ws))=y.2.mu:=by rw [ZD]; exact aa8 em
     have s9:SR X.K H0 Z0 σ H2 ⟨y.2.vs,(y.2.mu.set n none).set n (some (.lst ws))⟩ ((u,.sh p)::pd):=s8
     rw [e8] at s9
     exact s9
   . cases h4
 . obtain ⟨l',h5,h6⟩:=aa7 h4
   cases h6
   exact Mj H0 Z0 σ y.2 pd H2 v w x.1.pv y.1.pv _ Q s3 h5 k
mutual
noncomputable def lg:PV->Bool
 | .non=>true
 | .bl _=>true
 | .int _=>true
 | .str _=>true
 | .tup ps=>wR ps
 | _=>false
noncomputable def wR:List PV->Bool
 | []=>true
 | p::ps=>lg p&&wR ps
end
noncomputable def tu:Lc->Bool
 | .sh p=>lg p
 | .own (.lst ps)=>wR ps
 | _=>false
noncomputable def QR:Option Lc->Option Lc
 | some l=>some (.sh l.pv)
 | none=>none
noncomputable def Ev.peek (ρ:Ev):Ev:=⟨ρ.vs.map QR,ρ.mu.map fun _=>none⟩
noncomputable def qF (f:EF):EF:=fun ρ=>(f ρ.peek).bind fun x=>if tu x.1=true then some (x.1,ρ) else none
noncomputable def zb:Option HO->Option HO->Option HO->Option HO
 | some (.tup vs),_,_=>some (.tup vs)
 | some (.frz o u),_,_=>some (.frz o u)
 | some _,z,_=>z
 | none,_,z=>z
noncomputable def qG (H:Hp) (Z Z':ZG):ZG:=⟨fun b=>zb (H b) (Z.z b) (Z'.z b),Z.g⟩
theorem Mm {H H':Hp} {Z Z':ZG} (hh:dG H H') (zh:dG Z'.z H') {a:Addr} {vs:List V} (h:cQ K Z'.z a vs):cQ K (qG H Z Z').z a vs:=by
 rcases h with (h | ⟨o,h⟩) | h
 . refine .inl (.inl ?_)
   show zb (H a) (Z.z a) (Z'.z a)=_
   cases q:H a with
   | none=>exact h
   | some o=>
    have e1:=hh a o q
    rw [zh a _ h] at e1
    cases e1
    rfl
 . refine .inl (.inr ⟨o,?_⟩)
   show zb (H a) (Z.z a) (Z'.z a)=_
   cases q:H a with
   | none=>exact h
   | some o'=>
    have e1:=hh a o' q
    rw [zh a _ h] at e1
    cases e1
    rfl
 . exact .inr h
mutual
theorem Fz {H H':Hp} {Z Z':ZG} (hh:dG H H') (zh:dG Z'.z H'):∀ {p:PV} {v:V},lg p=true->Rep K Z' p v->Rep K (qG H Z Z') p v
 | .non,v,_,h=>by unfold Rep at h ⊢; exact h
 | .bl _,v,_,h=>by unfold Rep at h ⊢; exact h
 | .int _,v,_,h=>by unfold Rep at h ⊢; exact h
 | .str _,v,_,h=>by unfold Rep at h ⊢; exact h
 | .tup ps,v,f,h=>by
  unfold Rep at h ⊢
  obtain ⟨a,vs,e,h1,h2⟩:=h
  unfold lg at f
  exact ⟨a,vs,e,Mm hh zh h1,wU hh zh f h2⟩
 | .lst _,v,f,_=>by unfold lg at f; cases f
 | .dk _ _,v,f,_=>by unfold lg at f; cases f
 | .dt _ _,v,f,_=>by unfold lg at f; cases f
 | .obj _ _ _,v,f,_=>by unfold lg at f; cases f
 | .df _ _,v,f,_=>by unfold lg at f; cases f
 | .dtf _ _,v,f,_=>by unfold lg at f; cases f
 | .dx _ _ _,v,f,_=>by unfold lg at f; cases f
 | .exc _,v,f,_=>by unfold lg at f; cases f
 | .ptr _,v,f,_=>by unfold lg at f; cases f
theorem wU {H H':Hp} {Z Z':ZG} (hh:dG H H') (zh:dG Z'.z H'):∀ {ps:List PV} {vs:List V},wR ps=true->aN K Z' ps vs->aN K (qG H Z Z') ps vs
 | [],vs,_,h=>by unfold aN at h ⊢; exact h
 | p::ps,vs,f,h=>by
  obtain ⟨v,r,rfl,h1,h2⟩:=h.inv
  unfold wR at f
  rw [aag] at f
  exact aN.cons (Fz hh zh f.1 h1) (wU hh zh f.2 h2)
end
theorem SR.lookB (s:SR K H0 Z0 σ H ρ pd):
 ∃ Z,(σ.length=ρ.vs.length/\ρ.mu.length=Z.g.length/\iD Z ⟨H,Z.g⟩/\Slots K H0 Z H (sl Z.g σ ρ pd))/\(∀ H' v r ρ1,SR K H ⟨H,Z.g⟩ σ H' ρ1 [(v,r)]->tu r=true->SR K H0 Z0 σ H' ρ ((v,r)::pd))/\∀ H' ρ1,SR K H ⟨H,Z.g⟩ σ H' ρ1 []->SR K H0 Z0 σ H' ρ pd:=by
 obtain ⟨el,Z,hg,z,so⟩:=s
 have lz:iD Z ⟨H,Z.g⟩:=⟨z.zh,ZP _⟩
 have back:∀ {H':Hp} {Z':ZG},jR H ⟨H,Z.g⟩ Z' H'->jR H0 Z0 (qG H Z Z') H'/\Slots K H0 (qG H Z Z') H' (sl Z.g σ ρ pd):=fun {H' Z'} z'=>by
  have zz:iD Z (qG H Z Z'):=⟨fun b o e=>by
   show zb (H b) (Z.z b) (Z'.z b)=_
   have hb:=z.zh b o e
   rw [hb]
   cases o<;>first | rfl | exact e,ZP _⟩
  have cas:∀ b o,(qG H Z Z').z b=some o->(∃ u,H b=some u/\((DW u/\o=u)\/Z.z b=some o))\/(H b=none/\Z'.z b=some o):=fun b o e=>by
   have e:zb (H b) (Z.z b) (Z'.z b)=some o:=e
   cases q:H b with
   | none=>rw [q] at e; exact .inr ⟨rfl,e⟩
   | some u=>
    rw [q] at e
    refine .inl ⟨u,rfl,?_⟩
    cases u with
    | tup vs=>cases e; exact .inl ⟨trivial,rfl⟩
    | frz o' u=>cases e; exact .inl ⟨trivial,rfl⟩
    | _=>exact .inr e
  refine ⟨⟨fun b o e=>?_,z.h0.trans z'.h0,z.z0.trans zz,fun b o e=>?_⟩,?_⟩
  . rcases cas b o e with ⟨u,hu,⟨_,rfl⟩ | hz⟩ | ⟨_,hz⟩
    . exact z'.h0 b _ hu
    . exact z'.h0 b o (z.zh b o hz)
    . exact z'.zh b o hz
  . rcases cas b o e with ⟨u,hu,⟨hi,rfl⟩ | hz⟩ | ⟨hn,hz⟩
    . exact .inr (.inr hi)
    . exact z.new b o hz
    . exact .inr (.inl (z.h0.free hn))
  . refine so.step zz fun e he a ha=>?_
    obtain ⟨h1,h2,o,h3,h4⟩:=jb so he ha
    refine ⟨by rw [h3]; exact z'.h0 a o h3,?_⟩
    show zb (H a) (Z.z a) (Z'.z a)=_
    rw [h3]
    cases o with
    | tup vs=>exact (h4 trivial).elim
    | frz o u=>exact (h4 trivial).elim
    | _=>exact h1
 refine ⟨Z,⟨el,hg,lz,so⟩,fun H' v r ρ1 s1 hf=>?_,fun H' ρ1 s1=>?_⟩
 . obtain ⟨_,Z',hg',z',s2⟩:=s1.top
   obtain ⟨zo,ss⟩:=back z'
   have q:=s2.1 _ Yv
   refine .mk (Z:=qG H Z Z') el hg zo ?_
   cases r with
   | sh p=>
    obtain ⟨x,e1,e2⟩:=q
    cases e1
    exact ss.consS (Fz z'.h0 z'.zh hf e2)
   | own p=>
    obtain ⟨a,e1,e2,e3,e4⟩:=q
    have e1':v=.ref a:=YW e1
    subst e1'
    cases p with
    | lst ps=>
     obtain ⟨vs,g1,g2⟩:=e2
     refine ⟨fun e he=>?_,?_⟩
     . rcases YC.mp he with rfl | he
       . refine ⟨a,rfl,⟨vs,g1,wU z'.h0 z'.zh hf g2⟩,?_,z.h0.free e4⟩
         show zb (H a) (Z.z a) (Z'.z a)=_
         rw [e4]
         exact e3
       . exact ss.1 e he
     . show (a::(sl Z.g σ ρ pd).filterMap kj).Nodup
       refine Zg.mpr ⟨fun hm=>?_,ss.2⟩
       obtain ⟨e,he,hb⟩:=Zr.mp hm
       obtain ⟨_,_,o,h3,_⟩:=jb so he hb
       rw [h3] at e4; cases e4
    | _=>cases hf
 . obtain ⟨_,Z',hg',z',s2⟩:=s1
   obtain ⟨zo,ss⟩:=back z'
   exact ⟨el,qG H Z Z',hg,zo,ss⟩
theorem SR.peeked {H:Hp} {Z:ZG} {pk:Option Lc->Option Lc} (el:σ.length=ρ.vs.length) (hg:ρ.mu.length=Z.g.length)
 (hs:∀ v o,(v,o)∈σ.zip ρ.vs->pk o=none\/∃ x p,pk o=some (.sh p)/\v=some x/\Rep K ⟨H,Z.g⟩ p x):SR K H ⟨H,Z.g⟩ σ H ⟨ρ.vs.map pk,ρ.mu.map fun _=>none⟩ []:=by
 have key:∀ v l,(v,l)∈sl Z.g σ ⟨ρ.vs.map pk,ρ.mu.map fun _=>none⟩ []->l=none\/∃ x p,l=some (.sh p)/\v=some x/\Rep K ⟨H,Z.g⟩ p x:=fun v l he=>by
  rcases ZK.mp he with he | he
  . obtain ⟨_,h2⟩:=ZZ he
    obtain ⟨o,ho,e2⟩:=YZ.mp h2
    obtain ⟨o',_,e3⟩:=YZ.mp ho
    subst e3
    exact .inl e2.symm
  . rw [aap,YS] at he
    have he:(v,l)∈σ.zip (ρ.vs.map pk):=he
    rw [List.zip_map_right] at he
    obtain ⟨e,he2,e1⟩:=YZ.mp he
    cases e1
    exact hs _ _ he2
 refine ⟨by simp [el],⟨H,Z.g⟩,by simp [hg],⟨dG.refl _,dG.refl _,iD.refl _,fun b o e=>.inl e⟩,fun e he=>?_,?_⟩
 . obtain ⟨v,l⟩:=e
   rcases key v l he with rfl | ⟨x,p,rfl,rfl,r⟩
   . trivial
   . exact ⟨x,rfl,r⟩
 . have:(sl Z.g σ ⟨ρ.vs.map pk,ρ.mu.map fun _=>none⟩ []).filterMap kj=[]:=by
    rw [List.filterMap_eq_nil_iff]
    intro e he
    obtain ⟨v,l⟩:=e
    rcases key v l he with rfl | ⟨x,p,rfl,rfl,_⟩
    . cases v with
      | none=>rfl
      | some x=>cases x<;>rfl
    . cases x<;>rfl
   show ((sl Z.g σ ⟨ρ.vs.map pk,ρ.mu.map fun _=>none⟩ []).filterMap kj).Nodup
   rw [this]
   exact aaq
theorem SR.look (s:SR K H0 Z0 σ H ρ pd):
 ∃ Zt,SR K H Zt σ H ρ.peek []/\(∀ H' v r ρ1,SR K H Zt σ H' ρ1 [(v,r)]->tu r=true->SR K H0 Z0 σ H' ρ ((v,r)::pd))/\∀ H' ρ1,SR K H Zt σ H' ρ1 []->SR K H0 Z0 σ H' ρ pd:=by
 obtain ⟨Z,⟨el,hg,lz,so⟩,b1,b2⟩:=s.lookB
 refine ⟨_,SR.peeked (pk:=QR) el hg fun v o he=>?_,b1,b2⟩
 have q:=so.1 _ (Zd _ (Zv _ he))
 match o,q with
 | none,_=>exact .inl rfl
 | some (.sh p),⟨x,e1,e2⟩=>exact .inr ⟨x,p,rfl,e1,e2.mono lz⟩
 | some (.own p),⟨a,e1,e2,_,_⟩=>exact .inr ⟨.ref a,p,rfl,e1,e2.rep lz rfl⟩
noncomputable def X7 (mu:Mu):PV->PV
 | .ptr n=>match mu[n]? with
  | some (some p)=>p
  | _=>.ptr n
 | p=>p
noncomputable def peekC (mu:Mu):Option Lc->Option Lc
 | some l=>some (.sh (X7 mu l.pv))
 | none=>none
noncomputable def Ev.peekC (ρ:Ev):Ev:=⟨ρ.vs.map (PL.peekC ρ.mu),ρ.mu.map fun _=>none⟩
theorem Pg {f:EF}:∀ σ H Q,tP K (qF f) σ H Q->tP K f σ H Q:=fun σ H Q q=>by
 obtain ⟨H0,Z0,ρ,pd,r,ρ',s,h,k⟩:=q
 obtain ⟨x,h1,h2⟩:=aa6 h
 obtain ⟨Zt,s1,b1,_⟩:=s.look
 split at h2
 . rename_i hf
   cases h2
   exact ⟨H,Zt,ρ.peek,[],x.1,x.2,s1,h1,fun v H' s2=>k v H' (b1 H' v x.1 x.2 s2 hf)⟩
 . cases h2
theorem Ea {e:Expr} {f:EF} (h:PE X e (tP X.K f)):PE X e (tP X.K (qF f)):=PE.imp h Pg
end
noncomputable def vp (x:Str):It:=⟨fun i _=>i<x.cps.size,fun i H v H'=>H'=H/\∃ c,x.cps[i]?=some c/\v=.str ⟨#[c]⟩,fun i _=>i=x.cps.size⟩
theorem FJ {P:Program} {w:World} {tg:Expr} (it:Addr) (x:Str) {St:Nat->Heap->Prop} (W:∀ A':Around,A'.handled=none->Walks P w A' it [it] [it] x.cps.size (SignAt x) St)
 (hob:∀ i h,St i h->∃ o,h.get? it=some o/\∀ v,o.data≠.cell v) (slf:∀ (A:Around) (i:Nat) (s:Shared) (Q:Value->Shared->Prop) (E:Value->Shared->Prop),St i s.heap->Q (.ref it) s->wpAny (model P w) A (pyIter (.ref it)) Q E s):Turn P w K tg (vp x) [it] it St where
 mem:=by simp
 obj:=fun i h st b hb=>by
  have e:b=it:=by simpa using hb
  subst e
  exact hob i h st
 keep:=fun i h h' st k=>(W {} rfl).frame i h h' st k
 item:=by
  intro X hP hw hK hc i pins s σ H E I hf st hg
  subst hP hw hK
  obtain ⟨f0,f1,f2,f3,f4,f5⟩:=hf it (by simp)
  refine (W X.A (I.ok.hd hc)).item i s _ E hg st fun v h' tk hv st' hk=>?_
  obtain ⟨c,u,e1,rfl⟩:=hv
  have I1:Inv X pins σ H { s with heap:=h',toks:=tk }:=I.turned (fun b o hb e=>hk b o (by simpa using hb) e) f0 f1 f3 f4 f5
  refine ⟨_,rfl,?_⟩
  have fin:∃ x_1 H',Inv X pins σ H' { s with heap:=h',toks:=tk }/\RelV x_1 (.str ⟨#[c]⟩ u)/\(vp x).yld i H x_1 H'/\St (i+1) h'/\∀ b∈[it],H' b=none:=⟨.str ⟨#[c]⟩,H,I1,⟨u,rfl⟩,⟨rfl,c,e1,rfl⟩,st',fun b hb=>(hf b hb).1⟩
  unfold letOwnedTupleGo
  cases tg<;>exact aa1 fin
 done:=by
  intro X hP hw hK hc i pins s σ H E I hf st hg
  subst hP hw hK
  obtain ⟨f0,f1,f2,f3,f4,f5⟩:=hf it (by simp)
  have hg:i=x.cps.size:=hg
  subst hg
  exact (W X.A (I.ok.hd hc)).done s _ E st fun h' tk hk=>⟨rfl,I.turned (fun b o hb e=>hk b o (by simpa using hb) e) f0 f1 f3 f4 f5⟩
 self:=fun A i s Q E st h=>slf A i s Q E st h
section
variable {X:Cx}
noncomputable def signs (x:Str):List PV:=x.cps.toList.map fun c=>.str ⟨#[c]⟩
theorem Ph {H0:Hp} {x:Str}:nj K H0 Z0 pd (vp x) (signs x):=by
 intro σ H ρ i s
 refine ⟨fun p hp=>?_,fun hl=>?_⟩
 . unfold signs at hp
   rw [Y7] at hp
   obtain ⟨c,hc,rfl⟩:=aa7 hp
   have hi:=(YF.mp hc).1
   refine ⟨(show i<x.cps.size by simpa using hi),fun v H' y=>?_⟩
   obtain ⟨rfl,c',hc',rfl⟩:=y
   have:c'=c:=by
    rw [Array.getElem?_toList] at hc
    rw [hc] at hc'
    exact (YW hc').symm
   subst this
   exact s.scal uw
 . show i=x.cps.size
   simpa [signs] using hl
theorem Hl {P:Program} {w:World} {A:Around} {ys:List V} {its:List Value} {bs:List Bool} (rv:Vals ys its) (e:ys=bs.map V.bl):TruthOf P w A (fun i v=>its.toArray[i]?=some v) (fun i=>bs.getD i false):=by
 intro i v s Q E hv q
 have hv':its[i]?=some v:=by simpa using hv
 have hi:=(YF.mp hv').1
 have hl:=rv.length
 have hb:i<bs.length:=by rw [e,Yw] at hl; omega
 obtain ⟨u,h1,h2⟩:=rv.get (i:=i) (x:=.bl bs[i]) (by rw [e,Y7,YQ hb]; rfl)
 rw [hv'] at h1; cases h1
 cases h2
 have:bs.getD i false=bs[i]:=by simp [hb]
 have q':Q (bs.getD i false) s:=q
 rw [this] at q'
 exact wpAny_truthy_bool q'
theorem range_all {bs:List Bool}:((List.range bs.length).all fun i=>bs.getD i false)=bs.all id:=by
 induction bs with
 | nil=>rfl
 | cons b r ih=>
  rw [YB,List.range_succ_eq_map,List.all_cons,List.all_map,List.all_cons]
  have:((List.range r.length).all ((fun i=>(b::r).getD i false) ∘ Nat.succ))=(List.range r.length).all fun i=>r.getD i false:=rfl
  rw [this,ih]
  rfl
theorem vq (hc:X.calm=true):lZ X (.builtin "all") (fun xs H Q=>∃ (p:Addr) (bs:List Bool),xs=[.ref p]/\bU X.K H p (bs.map V.bl)/\Q (.bl (bs.all id)) H):=by
 intro pins s σ H xs us Q I r h
 obtain ⟨p,bs,rfl,hq,q⟩:=h
 obtain ⟨u,rfl,ru⟩:=vals1 r
 cases ru
 obtain ⟨its,rv,pl,_⟩:=I.list hq
 have hlt:p<s.heap.objs.size:=by obtain ⟨o,n,g1,_⟩:=pl; exact YK g1
 refine call_all_walk (wpAny_pyIter_list pl.isList ?_)
 have old:∀ b o,s.heap.get? b=some o->(s.heap.push { cls:=.type "list_iterator",data:=.fields #[.ref p,.int 0 0] }).get? b=some o:=fun b o e=>Yx _ e
 have hl:its.toArray.size=bs.length:=by rw [YH,← rv.length,Yw]
 refine ⟨s.heap.objs.size,_,_,_,_,_,fun i=>bs.getD i false,rfl,Walks.list (A:=X.A.in1) (show X.A.in1.handled=none from I.ok.hd hc) _ p (Zb hlt) its.toArray,⟨⟨_,Y4 _ rfl,rfl,rfl⟩,?_⟩,Hl rv rfl,fun h' tk hk=>?_⟩
 . obtain ⟨o,g1,g2⟩:=pl.isList
   exact ⟨o,old _ _ g1,g2⟩
 . rw [hl,range_all]
   refine ⟨.bl _,H,I.kept (t':=tk) fun b o e=>hk b o ?_ (old b o e),rfl,q⟩
   have:=YK e
   simp
   exact Zb this
noncomputable def boolsOf:List PV->Option (List Bool)
 | []=>some []
 | .bl b::r=>(boolsOf r).map (b::·)
 | _=>none
theorem CK {Z:ZG}:∀ {ps:List PV} {bs:List Bool} {vs:List V},boolsOf ps=some bs->aN K Z ps vs->vs=bs.map V.bl
 | [],bs,vs,h,r=>by cases h; exact r.inv0
 | p::ps,bs,vs,h,r=>by
  cases p with
  | bl b=>
   obtain ⟨cs,h1,rfl⟩:=aa7 h
   obtain ⟨v,w,rfl,r1,r2⟩:=r.inv
   rw [dg r1,CK h1 r2]
   rfl
  | _=>cases h
noncomputable def X8:PV->Option Lc
 | .lst ps=>(boolsOf ps).map fun bs=>.sh (.bl (bs.all id))
 | _=>none
noncomputable abbrev all1:List PV->Option Lc:=fun ps=>match ps with | [p]=>X8 p | _=>none
theorem Mp:iK K (fun xs H Q=>∃ (p:Addr) (bs:List Bool),xs=[.ref p]/\bU K H p (bs.map V.bl)/\Q (.bl (bs.all id)) H) all1:=iK.one fun H0 Z0 σ ρ pd H v p l Q s e k=>by
 obtain ⟨_,r⟩:=s.repH
 cases p with
 | lst ps=>
  obtain ⟨bs,h1,rfl⟩:=aa7 (show (boolsOf ps).map (fun bs=>Lc.sh (.bl (bs.all id)))=some l from e)
  unfold Rep at r
  obtain ⟨a,vs,rfl,h2,h3⟩:=r
  have:=CK h1 h3
  subst this
  exact ⟨a,bs,rfl,h2,k _ H (s.pop.scal eQ)⟩
 | _=>cases e
noncomputable def QS:PV->Option String
 | .non=>some "NoneType"
 | .bl _=>some "bool"
 | .int _=>some "int"
 | .str _=>some "str"
 | .tup _=>some "tuple"
 | .lst _=>some "list"
 | _=>none
noncomputable def wV (p:PV) (C:String):Option Bool:=(QS p).bind fun T=>if (Value.type T==Value.type C)=true then some true else if W.kitMeta C=true then (fastBuiltinMro T).map fun x=>x.contains (.type C) else none
theorem mK {p:PV} {T C:String} {b:Bool} (h1:QS p=some T) (h:wV p C=some b):W.kitOne K (.type T) (.type C)=some b:=by
 unfold wV at h
 rw [h1,Yu] at h
 exact h
theorem dW:lZ X (.builtin "isinstance") (fun xs H Q=>∃ x C g p b,xs=[x,.ty C]/\Rep X.K ⟨H,g⟩ p x/\wV p C=some b/\Q (.bl b) H):=by
 intro pins s σ H xs us Q I r h
 obtain ⟨x,C,g,p,b,rfl,rp,e,q⟩:=h
 obtain ⟨u,w',rfl,ru,rw'⟩:=vals2 r
 cases rw'
 have fin:∀ tk,EP X pins σ Q (.bool b) { s with toks:=tk }:=fun tk=>⟨.bl b,H,I.tok tk,rfl,q⟩
 cases p with
 | non=>have:=gD rp; subst this; cases ru; exact aaL W.kitx_none I.kIn trivial (mK rfl e) (by intro z; cases z) fin
 | bl c=>have:=dg rp; subst this; cases ru; exact aaL W.kitx_bool I.kIn trivial (mK rfl e) (by intro z; cases z) fin
 | int i=>have:=bI rp; subst this; obtain ⟨t,rfl⟩:=ru; exact aaL W.kitx_int I.kIn trivial (mK rfl e) (by intro z; cases z) fin
 | str i=>have:=dj rp; subst this; obtain ⟨t,rfl⟩:=ru; exact aaL W.kitx_str I.kIn trivial (mK rfl e) (by intro z; cases z) fin
 | tup ps=>
  obtain ⟨a,vs,its,rfl,_,_,_,o,t1,t2,_⟩:=ux I rp ru
  exact aaL (t:=.type "tuple") W.kitx_tuple I.kIn ⟨o,t1,t2⟩ (mK rfl e) (by intro z; cases z) fin
 | lst ps=>
  obtain ⟨a,vs,its,rfl,_,_,_,o,t1,t2,_⟩:=uy I rp ru
  exact aaL (t:=.type "list") W.kitx_list I.kIn ⟨o,t1,t2⟩ (mK rfl e) (by intro z; cases z) fin
 | _=>cases e
noncomputable def jC (C:String) (f:EF):EF:=fun ρ=>(f ρ).bind fun x=>(wV x.1.pv C).map fun b=>(.sh (.bl b),x.2)
theorem uE {C:String} {f:EF} {e c:Expr} {pp pos:Pos} (h:PE X (.Call (.Name "isinstance" pp) [e,c] [] pos) (Cr (fun xs H Q=>∃ x C g p b,xs=[x,.ty C]/\Rep X.K ⟨H,g⟩ p x/\wV p C=some b/\Q (.bl b) H) (xH (tP X.K f) (xH (tC (.ty C)) Eo)))):
 PE X (.Call (.Name "isinstance" pp) [e,c] [] pos) (tP X.K (jC C f)):=PE.imp h fun σ H Q q=>by
 obtain ⟨H0,Z0,ρ,pd,r,ρ',s,h,k⟩:=q
 obtain ⟨x,h1,h2⟩:=aa6 h
 obtain ⟨b,h3,h4⟩:=aa7 h2
 cases h4
 refine ⟨H0,Z0,ρ,pd,x.1,x.2,s,h1,fun v H1 s1=>?_⟩
 obtain ⟨g,r1⟩:=s1.freeze.repH
 exact ⟨v,C,g,_,b,rfl,r1,h3,k _ H1 (s1.pop.scal eQ)⟩
end
section
variable {prog:Program} {w:World} {A:Around} {E:Value->Shared->Prop} {s:Shared}
theorem CP {it t:Addr} {items:Array Value} (hne:t≠it):∀ (n i:Nat) (s:Shared) (Q:List Value->Shared->Prop),s.heap.IsListIter it t i->s.heap.IsList t items->i+n<=items.size->
 (∀ h',h'.IsListIter it t (i+n)->Heap.SameBut it s.heap h'->Q ((items.toList.drop i).take n) { s with heap:=h' })->wpAny (model prog w) A (draw (.ref it) n) Q E s
 | 0,i,s,Q,hit,_,_,hQ=>by
  show wpAny _ _ (pure []) Q E s
  exact aa1 (by simpa using hQ s.heap hit (Heap.SameBut.refl ..))
 | n+1,i,s,Q,hit,ht,hle,hQ=>by
  have hlt:i<items.size:=by omega
  show wpAny _ _ (pyNext (.ref it) >>= _) Q E s
  refine aaY (wpAny_pyNext_list_item hit ht (x:=items[i]) (by simp [hlt]) fun h₁ hit₁ hs₁=>?_)
  refine aaY (wpAny_holding (CP hne n (i+1) _ _ hit₁ (ht.extBut hs₁.extBut hne) (by omega) fun h₂ hit₂ hs₂=>aa1 ?_))
  have hd:items.toList.drop i=items[i]::items.toList.drop (i+1):=by simp [aad,hlt]
  have:=hQ h₂ (by rw [show i+(n+1)=i+1+n by omega]; exact hit₂) (hs₁.trans hs₂)
  rw [hd,List.take_succ_cons] at this
  exact this
theorem yO {t:Addr} {items:Array Value} {Q:List Value->Shared->Prop} (hh:A.handled=none) (ht:s.heap.IsList t items)
 (hQ:∀ h',Heap.ExtBut s.heap.objs.size s.heap h'->Q items.toList { s with heap:=h' }):wpAny (model prog w) A (unpackItems (.ref t) items.size none) Q E s:=by
 have hlt:t≠s.heap.objs.size:=by obtain ⟨o,ho,_⟩:=ht; exact Zb (YK ho)
 unfold unpackItems
 refine aaY ?_
 . unfold notIterableAtAll
   refine aaY (wpAny_specialOf ht.typeIs slot_list_iter.lookup ?_)
   refine aa1 ?_
   simp only [aaM,if_false]
   refine aaY (wpAny_holding (wpAny_pyIter_list ht ?_))
   refine aaY (wpAny_holding (CP hlt items.size 0 _ _ ⟨_,Y4 _ rfl,rfl,rfl⟩ (by obtain ⟨o,g1,g2⟩:=ht; exact ⟨o,Yx _ g1,g2⟩) (by omega) fun h₁ hit₁ hs₁=>?_))
   have hall:List.take items.size (List.drop 0 items.toList)=items.toList:=by
    rw [List.drop_zero]; exact aam (by simp)
   rw [hall]
   rw [aa0 (by simp)]
   have ht₁:h₁.IsList t items:=Heap.IsList.extBut (by obtain ⟨o,g1,g2⟩:=ht; exact ⟨o,Yx _ g1,g2⟩) hs₁.extBut hlt
   refine aaY (wpAny_holding (wpAny_pyNext_list_end hh hit₁ ht₁ (by simp) fun h₂ he₂=>?_))
   simp only [Option.isSome_none,aaM,if_false]
   refine aa1 (hQ h₂ fun b o hb e=>he₂ b o hb (hs₁.extBut b o hb (Yx _ e)))
end
section
variable {X:Cx} {pos:Pos}
def Vr (K:FG) (n:Nat) (t:vU):TG:=fun v σ H Q=>∃ a xs,v=.ref a/\(cQ K H a xs\/bU K H a xs)/\xs.length=n/\t xs σ H Q
theorem jD {es:List Expr} {k:Nat} {t:vU} {n:Nat} (hc:X.calm=true) (h:KZ X es t)
 (hn:(assignEach es X.env).length=n:=by rfl) (hst:(assignEach es X.env).findIdx? (·.1)=none:=by rfl):PG X (.Tuple es k pos) (Vr X.K n t):=by
 intro pins s σ H v u Q I r hw
 obtain ⟨a,xs,e1,hq,hl,hw⟩:=hw
 rcases hq with hq | hq
 . exact Ui hc h hn hst pins s σ H v u Q I r ⟨a,xs,e1,hq,hl,hw⟩
 . subst e1
   cases r
   obtain ⟨its,rv,ht,hz⟩:=I.list hq
   rw [assign_Tuple]
   refine aaY (wpAny_standAt ?_)
   unfold unpack
   have hsz:(assignEach es X.env).length=its.toArray.size:=by simp [hn,← hl,rv.length]
   rw [hsz,hst]
   refine aaY (wpAny_holding (yO (I.ok.hd hc) ht.isList fun h' hx=>?_))
   have I1:Inv X pins σ H { s with heap:=h' }:=I.kept (t':=s.toks) fun b o e=>hx b o (Zb (YK e)) e
   exact h pins _ σ H xs _ Q I1 (by simpa using rv) hw
noncomputable def fP (n:Nat) (bs:Fj):BF:=fun p ρ=>match p with
 | .tup ps=>if ps.length=n then bs ps ρ else none
 | .lst ps=>if ps.length=n then bs ps ρ else none
 | _=>none
theorem jE {n:Nat} {t:vU} {bs:Fj} (h1:QH K t bs):GS K (Vr K n t) (fP n bs):=by
 intro H0 Z0 σ H ρ pd v p ρ' Q s h k
 cases p with
 | tup ps=>
  have h':(if ps.length=n then bs ps ρ else none)=some ρ':=h
  split at h'
  . rename_i hn
    obtain ⟨e,Z,hg,z,r,sl'⟩:=s.sh
    unfold Rep at r
    obtain ⟨a,vs,rfl,h2,h3⟩:=r
    exact ⟨a,vs,rfl,.inl (cQ.same z.zh h2),by rw [h3.length]; exact hn,h1 H0 Z0 σ H ρ pd vs ps ρ' Q h3.length (SR.items e hg z h3 sl') h' k⟩
  . cases h'
 | lst ps=>
  have h':(if ps.length=n then bs ps ρ else none)=some ρ':=h
  split at h'
  . rename_i hn
    obtain ⟨e,Z,hg,z,r,sl'⟩:=s.sh
    unfold Rep at r
    obtain ⟨a,vs,rfl,h2,h3⟩:=r
    exact ⟨a,vs,rfl,.inr (bU.same z.zh h2),by rw [h3.length]; exact hn,h1 H0 Z0 σ H ρ pd vs ps ρ' Q h3.length (SR.items e hg z h3 sl') h' k⟩
  . cases h'
 | _=>cases h
def Yb (K:FG) (tl:TE):TI:=fun σ H R=>tl σ H fun x H1=>(∃ a,x=.ref a/\(∃ xs,bU K H1 a xs)/\R (Qt K a) H1)\/(∃ a,x=.ref a/\(∃ xs,cQ K H1 a xs)/\R (Qu K a) H1)\/∃ z,x=.str z/\R (vp z) H1
theorem Vs {tg l:Expr} {tl:TE} (hl:PE X l tl):PI X tg l (Yb X.K tl):=by
 intro pins s σ H R I h
 have at':∀ (v:Value) (s1:Shared) (x:V) (H1:Hp),Inv X pins σ H1 s1->RelV x v->((∃ a,x=.ref a/\(∃ xs,bU X.K H1 a xs)/\R (Qt X.K a) H1)\/(∃ a,x=.ref a/\(∃ xs,cQ X.K H1 a xs)/\R (Qu X.K a) H1)\/∃ z,x=.str z/\R (vp z) H1)->
  wpAny (model X.prog X.w) X.A (pyIter v) (PIE X pins σ tg R) X.xe s1:=fun v s1 x H1 I1 r1 q=>by
  have fp:∀ b,b∈[s1.heap.objs.size]->mz X pins H1 b:=fun b hb=>by
   have e:b=s1.heap.objs.size:=by simpa using hb
   subst e
   exact I1.fpOk (Yy _) (I1.hok.fresh (Yy _))
  rcases q with ⟨a,rfl,⟨xs,hq⟩,q⟩ | ⟨a,rfl,⟨xs,hq⟩,q⟩ | ⟨z,rfl,q⟩
  . cases r1
    obtain ⟨its,rv,p,hz⟩:=I1.list hq
    exact wpAny_pyIter_list p.isList ⟨s1.heap.objs.size,[s1.heap.objs.size],_,_,H1,rfl,I1.kept (t':=s1.toks) fun b o e=>Yx _ e,K1 a _,⟨_,Y4 _ rfl,rfl,rfl⟩,fp,q⟩
  . cases r1
    obtain ⟨its,rv,p,hz⟩:=I1.tuple hq
    exact wpAny_pyIter_tuple p ⟨s1.heap.objs.size,[s1.heap.objs.size],_,_,H1,rfl,I1.kept (t':=s1.toks) fun b o e=>Yx _ e,JB a _,⟨_,Y4 _ rfl,rfl,rfl⟩,fp,q⟩
  . obtain ⟨t,rfl⟩:=r1
    have kp:∀ (o:Obj),Inv X pins σ H1 { s1 with heap:=s1.heap.push o }:=fun o=>I1.kept (t':=s1.toks) fun b u e=>Yx _ e
    have ob:∀ {n:String} (i:Nat) (h:Heap),h.IsStrIter s1.heap.objs.size n z t i->∃ o,h.get? s1.heap.objs.size=some o/\∀ v,o.data≠.cell v:=fun i h st=>by
     obtain ⟨o,ho,_,hd⟩:=st
     exact ⟨o,ho,fun v e=>by rw [hd] at e; cases e⟩
    cases ha:z.cps.all (·<128)
    . exact wpAny_pyIter_wide ha ⟨s1.heap.objs.size,[s1.heap.objs.size],_,vp z,H1,rfl,kp _,FJ _ z (fun A' hA=>Walks.strWide hA _ z t) ob (fun A i s Q E st h=>wpAny_pyIter_striter_wide st h),⟨_,Y4 _ rfl,rfl,rfl⟩,fp,q⟩
    . exact wpAny_pyIter_ascii ha ⟨s1.heap.objs.size,[s1.heap.objs.size],_,vp z,H1,rfl,kp _,FJ _ z (fun A' hA=>Walks.strAscii hA _ z t) ob (fun A i s Q E st h=>wpAny_pyIter_striter_ascii st h),⟨_,Y4 _ rfl,rfl,rfl⟩,fp,q⟩
 exact cj (hl pins s σ H _ I h) fun v s1 ⟨x,H1,I1,r1,q⟩=>at' v s1 x H1 I1 r1 q
noncomputable def du:PV->Option (List PV)
 | .lst ps=>some ps
 | .tup ps=>some ps
 | .str x=>some (signs x)
 | _=>none
theorem jF {tg l:Expr} {f:EF} (hl:PE X l (tP X.K f)):PI X tg l (zN X.K (gC f du)):=PI.imp (Vs hl) fun σ H R q=>by
 obtain ⟨H0,Z0,ρ,pd,xs,ρ',s,h,k⟩:=q
 obtain ⟨x,h1,h2⟩:=aa6 h
 obtain ⟨ys,h3,h4⟩:=aa7 h2
 cases h4
 refine ⟨H0,Z0,ρ,pd,x.1,x.2,s,h1,fun v H1 s1=>?_⟩
 have s2:=s1.freeze
 cases e:x.1.pv with
 | lst ps=>
  rw [e] at h3 s2
  cases h3
  obtain ⟨Z,z,r⟩:=s2.rep
  unfold Rep at r
  obtain ⟨b,vs,rfl,h1',h2'⟩:=r
  exact .inl ⟨b,rfl,⟨vs,bU.same z h1'⟩,k _ _ _ s2 Mg (YJ _ _)⟩
 | tup ps=>
  rw [e] at h3 s2
  cases h3
  obtain ⟨Z,z,r⟩:=s2.rep
  unfold Rep at r
  obtain ⟨b,vs,rfl,h1',h2'⟩:=r
  exact .inr (.inl ⟨b,rfl,⟨vs,cQ.same z h1'⟩,k _ _ _ s2 O5 (YJ _ _)⟩)
 | str z=>
  rw [e] at h3 s2
  cases h3
  obtain ⟨_,r⟩:=s2.repH
  exact .inr (.inr ⟨z,dj r,k _ _ _ s2.pop Ph (aan _)⟩)
 | _=>rw [e] at h3; cases h3
noncomputable def nu (g g':PV->PV->Option Lc) (fa fb fc:EF):EF:=fun ρ=>(fa ρ).bind fun x=>(fb x.2).bind fun y=>(g x.1.pv y.1.pv).bind fun z=>match z.pv with
 | .bl true=>(fc y.2).bind fun w=>(g' y.1.pv w.1.pv).map fun l=>(l,w.2)
 | .bl false=>some (.sh (.bl false),y.2)
 | _=>none
theorem CQ {r r':R2} {g g':PV->PV->Option Lc} (hs:iQ X.K r g) (hs':iQ X.K r' g') {fa fb fc:EF}:∀ σ H Q,tP X.K (nu g g' fa fb fc) σ H Q->Em r r' (tP X.K fa) (tP X.K fb) (tP X.K fc) σ H Q:=fun σ H Q q=>by
 obtain ⟨H0,Z0,ρ,pd,l,ρ',s,f,k⟩:=q
 obtain ⟨x,h1,h2⟩:=aa6 f
 obtain ⟨y,h3,h4⟩:=aa6 h2
 obtain ⟨z,h5,h6⟩:=aa6 h4
 refine ⟨H0,Z0,ρ,pd,x.1,x.2,s,h1,fun v H1 s1=>⟨H0,Z0,x.2,_,y.1,y.2,s1,h3,fun w H2 s2=>?_⟩⟩
 have s3:=s2.freeze.swap.freeze.swap
 have s4:SR X.K H0 Z0 σ H2 y.2 ((w,.sh y.1.pv)::(v,.sh x.1.pv)::(w,.sh y.1.pv)::pd):=s3.dup.perm ((List.Perm.swap _ _ _).cons _)
 refine hs H0 Z0 σ y.2 _ H2 v w x.1.pv y.1.pv z _ s4 h5 fun u H3 s5=>?_
 obtain ⟨_,ru⟩:=s5.freeze.repH
 split at h6
 . rename_i e
   rw [e] at ru
   refine ⟨true,dg ru,?_⟩
   rw [aaZ rfl]
   obtain ⟨t,h7,h8⟩:=aa6 h6
   obtain ⟨l',h9,h10⟩:=aa7 h8
   cases h10
   refine ⟨H0,Z0,y.2,_,t.1,t.2,s5.pop,h7,fun b H4 s6=>?_⟩
   exact hs' H0 Z0 σ t.2 pd H4 w b y.1.pv t.1.pv _ Q s6.freeze h9 k
 . rename_i e
   rw [e] at ru
   refine ⟨false,dg ru,?_⟩
   rw [aa0 Ze]
   cases h6
   exact k _ H3 (s5.pop.pop.scal eQ)
 . cases h6
theorem Vt {op op':CmpOp} {a b c:Expr} {r r':R2} {g g':PV->PV->Option Lc} {fa fb fc:EF} (ho:fB X (compareOp op) r) (ho':fB X (compareOp op') r') (hs:iQ X.K r g) (hs':iQ X.K r' g') (ha:PE X a (tP X.K fa)) (hb:PE X b (tP X.K fb)) (hc:PE X c (tP X.K fc))
 (hm:lastMarks [op,op'] [b,c]=false:=by with_unfolding_all rfl):PE X (.Compare a [op,op'] [b,c] pos) (tP X.K (nu g g' fa fb fc)):=PE.imp (N6 ho ho' ha hb hc hm) (CQ hs hs')
theorem RW {op op':CmpOp} {a b c:Expr} {r r':R2} {g g':PV->PV->Option Lc} {fa fb fc:EF} (ho:fB X (compareOp op) r) (ho':fB X (compareOp op') r') (hs:iQ X.K r g) (hs':iQ X.K r' g') (ha:PE X a (tP X.K fa)) (hb:PE X b (tP X.K fb)) (hc:PE X c (tP X.K fc))
 (hm:lastMarks [op,op'] [b,c]=false:=by with_unfolding_all rfl):PT X (.Compare a [op,op'] [b,c] pos) (gG X.K (tT (nu g g' fa fb fc) aU)):=J3 (PT.imp (N7 ho ho' ha hb hc hm) fun σ H Q q=>CQ hs hs' σ H _ q)
end
section
variable {P:Program} {w:World} {K:FG} {mg:Str->Option Value} {base:Heap}
def Ig (mg:Str->Option Value) (L:List Str):Prop:=∀ x∈L,mg x=none
theorem qP {x:Str} {st:Stmt} {ps:List Str} {k:Nat} (F:cR K mg x st ps):cg P w K mg base x k ps (cB K ps.length fun _ _=>none):=by
 obtain ⟨f,fd,F,hm,hb⟩:=F
 have no:∀ vs H Q E,¬ cB K ps.length (fun _ _=>none) vs H Q E:=fun vs H Q E h=>by
  obtain ⟨_,_,_,_,_,_,_,_,_,_,h,_⟩:=h
  cases h
 exact ⟨f,fd,⟨fun vs H Q E h=>absurd h (no vs H Q E),fun A outer s H args us vs Q E _ _ _ _ h=>absurd h (no vs H Q E)⟩,hm,F.kp,hb⟩
noncomputable def Eb (K:FG):Sp:=fun vs H Q _=>∃ (a:Addr) (ns:List Int),vs=[.ref a]/\bU K H a (ns.map V.int)/\ns.length<=63/\∀ H',Q (.bl true) H'
theorem Vu {f:Addr} {fd:FuncData} {k:Nat} {g:GF} (F:mD P w K mg base oE k f fd ["_law_script"] (cB K 1 g)) (h:∀ ns:List Int,ns.length<=63->∃ mu',g [.lst (ns.map PV.int)] []=some (.sh (.bl true),mu')):mD P w K mg base oE k f fd ["_law_script"] (Eb K):=
 F.imp fun vs H Q E q=>by
  obtain ⟨a,ns,rfl,hs,hl,k⟩:=q
  obtain ⟨mu',e⟩:=h ns hl
  refine ⟨⟨H,[]⟩,[.lst (ns.map PV.int)],[],_,mu',rfl,rfl,dG.refl _,aN.cons ?_ .nil,⟨fun e he=>(by cases he),aaq⟩,e,fun v H' r=>?_⟩
  . unfold Rep
    refine ⟨a,ns.map V.int,rfl,hs,?_⟩
    clear hs e hl
    induction ns with
    | nil=>exact .nil
    | cons n r ih=>exact aN.cons (eN _) ih
  . obtain ⟨Z',_,_,s⟩:=r
    obtain ⟨x,e1,e2⟩:=s.1 _ Yv
    cases e1
    rw [dg e2]
    exact k H'
end
theorem aO:∀ ρ ls ρ1,ao ρ=some (ls,ρ1)->ls.length=0:=fun ρ ls ρ1 h=>by cases h; rfl
theorem az {f:EF} {g:AF} {n:Nat} (h:∀ ρ ls ρ1,g ρ=some (ls,ρ1)->ls.length=n):∀ ρ ls ρ1,aj f g ρ=some (ls,ρ1)->ls.length=n+1:=fun ρ ls ρ1 e=>by
 obtain ⟨x,h1,h2⟩:=aa6 e
 obtain ⟨y,h3,h4⟩:=aa7 h2
 cases h4
 rw [YB,h _ _ _ h3]
theorem W3 {X:Cx} {M F:List Str} {ixs:List Nat} {sc:Scope} (S:Scope) (hS:X.env.scope=S) (kind:sc.kind=.function) (locs:∀ y∈sc.names,y.2=.local->sc.names.lookup y.1=some .local) (cel:∀ y∈sc.names,y.2=.cell->sc.names.lookup y.1=some .cell)
 (own:∀ p∈sc.names,p.2=.free->S.names.lookup p.1=some .cell\/S.names.lookup p.1=some .free) (frs:∀ x∈F,sc.names.lookup x=some .free) (ix:ixs.map (fun i=>X.N[i]?)=F.map some):iZ X M F ixs sc:=by
 refine ⟨kind,locs,cel,fun p hp e=>by rw [hS]; exact own p hp e,frs,?_,fun j i h=>?_⟩
 . have:=congrArg List.length ix
   simpa using this
 . have h2:(ixs.map (fun i=>X.N[i]?))[j]?=some X.N[i]?:=by rw [Y7,h]; rfl
   rw [ix,Y7] at h2
   cases q:F[j]? with
   | none=>rw [q] at h2; cases h2
   | some x=>rw [q] at h2; exact (YW h2).symm
section
variable {P:Program} {w:World} {K:FG} {mg:Str->Option Value} {base:Heap}
theorem sV.okP {x:Str} {st:Stmt} {N ps:List Str} {k:Nat} {g:GF} {f:Addr} {fd:FuncData} (F:sV K x x st f fd) (S:bf N ps (aK st))
 (h:∀ (cdv:Value) (A:Around) (outer:List PySem.Env) (s:Shared) (H:Hp) (E:XK),mC k (A.deeper (envOfC x (aK st) s.heap.objs.size f cdv))->
   ∃ g':SF,(∀ a mu,g a mu=cM N.length g' a mu)/\iB (Oh oE P w K mg base N x (aK st) f cdv A outer s H E).nox (iV st) (fK K g')):mD P w K mg base oE (k+1) f fd ps (cB K ps.length g):=by
 refine F.ok S (fun vs H Q E q=>?_) (fun cdv A outer s H vs Q E hr q=>?_)
 . obtain ⟨Z,qs,mu,r,mu',e,_⟩:=q; exact e
 . obtain ⟨g',eg,b⟩:=h cdv A outer s H E hr
   obtain ⟨Z,qs,mu,r,mu',e,hg,z,rl,c,hr',kk⟩:=q
   rw [eg] at hr'
   obtain ⟨fl,h1,h2⟩:=aa6 hr'
   refine ⟨_,b,km H (rC Z.g mu),Z,_,[],fl,yJ hg z rl c,h1,?_⟩
   cases fl with
   | rt r' ρ'=>
    cases h2
    intro v σ' H' s'
    obtain ⟨el,Z',hg',z',s''⟩:=s'.top
    refine kk v H' ⟨Z',hg',z',s''.sub ?_⟩
    exact (Zu _ _).cons_cons _
   | nx ρ'=>
    cases h2
    intro σ' H' s'
    obtain ⟨el,Z',hg',z',s''⟩:=s'
    exact kk .non H' ⟨Z',hg',z',(s''.sub (Zu _ _)).consS (xM _)⟩
   | bk ρ'=>cases h2
   | ct ρ'=>cases h2
end
section
variable {X:Cx}
noncomputable def Yc:PV->Option PV
 | .int i=>some (.int (-i))
 | _=>none
noncomputable def oN (f:EF):EF:=fun ρ=>(f ρ).bind fun x=>(Yc x.1.pv).map fun p=>(.sh p,x.2)
theorem FN {a:Expr} {f:EF} {pos:Pos} (ha:PE X a (tP X.K f)):PE X (.UnaryOp .USub a pos) (tP X.K (oN f)):=PE.imp (WM Ur ha) fun σ H Q q=>by
 obtain ⟨H0,Z0,ρ,pd,r,ρ',s,h,k⟩:=q
 obtain ⟨x,h1,h2⟩:=aa6 h
 obtain ⟨p,h3,h4⟩:=aa7 h2
 cases h4
 refine ⟨H0,Z0,ρ,pd,x.1,x.2,s,h1,fun v H1 s1=>?_⟩
 obtain ⟨_,r1⟩:=s1.freeze.repH
 cases e:x.1.pv with
 | int i=>
  rw [e] at h3 r1
  cases h3
  exact ⟨i,bI r1,k _ H1 (s1.pop.scal eN)⟩
 | _=>rw [e] at h3; cases h3
end
theorem yP {b:BF} {tc:TF} {te:EF} {mu:Mu} (J:Ev->Prop) (hJ:∀ ρ,J ρ->ρ.mu=mu) (c:PV->Bool) (f:PV->PV):∀ {xs:List PV} {ρ:Ev} {acc:List PV},J ρ->acc.length+xs.length<=100000->
 (∀ x∈xs,∀ ρ,J ρ->∃ ρ1,b x ρ=some ρ1/\∃ ρ2,tc ρ1=some (c x,ρ2)/\J ρ2/\(c x=true->∃ l ρ3,te ρ2=some (l,ρ3)/\l.pv=f x/\J ρ3))->qD b tc te xs ρ acc=some (acc++(xs.filter c).map f,mu)
 | [],ρ,acc,h,_,_=>by
  show some (acc,ρ.mu)=_
  rw [hJ ρ h]
  simp
 | x::xs,ρ,acc,h,hl,hs=>by
  obtain ⟨ρ1,e1,ρ2,e2,h2,h3⟩:=hs x Yv ρ h
  have hs':∀ y∈xs,∀ ρ,J ρ->∃ ρ1,b y ρ=some ρ1/\∃ ρ2,tc ρ1=some (c y,ρ2)/\J ρ2/\(c y=true->∃ l ρ3,te ρ2=some (l,ρ3)/\l.pv=f y/\J ρ3):=fun y hy=>hs y (YG _ hy)
  rw [YB] at hl
  show (b x ρ).bind _=_
  rw [e1,Yu,e2,Yu]
  cases hc:c x with
  | false=>
   simp only [aaM,if_false]
   rw [yP J hJ c f h2 (by omega) hs',List.filter_cons_of_neg (by simp [hc])]
  | true=>
   obtain ⟨l,ρ3,e3,ef,h4⟩:=h3 hc
   simp only [if_true]
   rw [e3,Yu,aaZ (by omega),yP J hJ c f h4 (by rw [YD,List.length_singleton]; omega) hs',List.filter_cons_of_pos (by simp [hc]),ef]
   simp
theorem je {b:BF} {te:EF} {mu:Mu} (J:Ev->Prop) (hJ:∀ ρ,J ρ->ρ.mu=mu) (f:PV->PV) {xs:List PV} (h:J ρ) (hl:xs.length<=100000)
 (hs:∀ x∈xs,∀ ρ,J ρ->∃ ρ1,b x ρ=some ρ1/\∃ l ρ3,te ρ1=some (l,ρ3)/\l.pv=f x/\J ρ3) (hb:∀ x∈xs,∀ ρ ρ1,J ρ->b x ρ=some ρ1->J ρ1):qD b dN te xs ρ []=some (xs.map f,mu):=by
 rw [yP J hJ (fun _=>true) f h (by simpa using hl) fun x hx ρ hρ=>?_]
 . rw [ZL,List.filter_eq_self.mpr (fun _ _=>rfl)]
 . obtain ⟨ρ1,e1,l,ρ3,e3⟩:=hs x hx ρ hρ
   exact ⟨ρ1,e1,ρ1,rfl,hb x hx ρ ρ1 hρ e1,fun _=>⟨l,ρ3,e3⟩⟩
theorem oO (a b:Int):bK (.int a) (.int b)=some (.sh (.int (a+b))):=rfl
theorem eZ {a b:Int} (h:0<b):aQ (.int a) (.int b)=some (.sh (.int (a%b))):=by
 show (if decide (0<b)=true then _ else _)=_
 rw [aaZ (aa3 h)]
theorem CT {a b:Int} (h:0<b) (h2:b<1073741824):bQ (.int a) (.int b)=some (.sh (.int (a/b))):=by
 show (if decide (0<b/\b<1073741824)=true then _ else _)=_
 rw [aaZ (aa3 ⟨h,h2⟩)]
theorem pL {a b:Int} (h:-18446744073709551616<a) (h2:a<18446744073709551616):cL (.int a) (.int b)=some (.sh (.int (a*b))):=by
 show (if decide ((-(2 ^ 64)<a/\a<2 ^ 64)\/(-(2 ^ 64)<b/\b<2 ^ 64))=true then _ else _)=_
 rw [aaZ (aa3 (.inl ⟨by omega,by omega⟩))]
theorem pM {a b:Int} (h:-18446744073709551616<b) (h2:b<18446744073709551616):cL (.int a) (.int b)=some (.sh (.int (a*b))):=by
 show (if decide ((-(2 ^ 64)<a/\a<2 ^ 64)\/(-(2 ^ 64)<b/\b<2 ^ 64))=true then _ else _)=_
 rw [aaZ (aa3 (.inr ⟨by omega,by omega⟩))]
theorem cJ {g:PV->PV->Option Lc} {fa fb:EF} {ρ ρ1 ρ2:Ev} {x y l:Lc} (h1:fa ρ=some (x,ρ1)) (h2:fb ρ1=some (y,ρ2)) (h3:g x.pv y.pv=some l):aq g fa fb ρ=some (l,ρ2):=by
 unfold aq
 rw [h1,Yu,h2,Yu,h3]
 rfl
theorem FP {α:Type} {l:List α} {i:Int} (h0:0<=i) (h1:i<l.length):∃ x,gj l i=some x/\l[i.toNat]?=some x:=by
 have hi:i.toNat<l.length:=by omega
 refine ⟨l[i.toNat],?_,YQ hi⟩
 unfold gj pJ
 rw [aaZ h0,aaZ h1,Yu,YQ hi]
theorem xQ {f g:SF} {ρ ρ':Ev} (h:f ρ=some (.nx ρ')):aH f g ρ=g ρ':=by unfold aH; rw [h,Yu]
theorem gn {f g:SF} {ρ ρ':Ev} {r:Lc} (h:f ρ=some (.rt r ρ')):aH f g ρ=some (.rt r ρ'):=by unfold aH; rw [h,Yu]
theorem RX {i:Nat} {f:EF} {ρ ρ1:Ev} {l:Lc} (h:f ρ=some (l,ρ1)) (hi:i<ρ1.vs.length):aL i f ρ=some (.nx (ρ1.set i (some l))):=by unfold aL; rw [h,Yu,aaZ hi]
theorem dB {c:TF} {f g:SF} {ρ ρ1:Ev} (h:c ρ=some (true,ρ1)):bN c f g ρ=f ρ1:=by unfold bN; rw [h,Yu,aaZ rfl]
theorem bG {c:TF} {f g:SF} {ρ ρ1:Ev} (h:c ρ=some (false,ρ1)):bN c f g ρ=g ρ1:=by unfold bN; rw [h,Yu,aa0 Ze]
theorem RZ {f:EF} {ρ ρ1:Ev} {l:Lc} (h:f ρ=some (l,ρ1)):bD f ρ=some (.rt l ρ1):=by unfold bD; rw [h]; rfl
theorem R0 {f:IF} {b:BF} {body:SF} {ρ ρ1:Ev} {xs:List PV} (h:f ρ=some (xs,ρ1)):gM f b body ρ=iT b body xs ρ1:=by unfold gM; rw [h,Yu]
theorem bj {n:Nat} {g:SF} {ps:List PV} {mu:Mu} {r:Lc} (h:g (env0 n ps mu)=some (.rt r ρ)):cM n g ps mu=some (r,ρ.mu):=by unfold cM; rw [h,Yu]
theorem gH {n:Nat} {g:SF} {ps:List PV} {mu:Mu} (h:g (env0 n ps mu)=some (.nx ρ)):cM n g ps mu=some (.sh .non,ρ.mu):=by unfold cM; rw [h,Yu]
theorem Pj {g:GF} {a:AF} {ρ ρ1:Ev} {ls:List Lc} {r:Lc} {mu:Mu} (h:a ρ=some (ls,ρ1)) (h2:g (ls.map Lc.pv) ρ1.mu=some (r,mu)):aG g a ρ=some (r,⟨ρ1.vs,mu⟩):=by unfold aG; rw [h,Yu,h2]; rfl
theorem Pk {f:EF} {a:AF} {ρ ρ1 ρ2:Ev} {l:Lc} {ls:List Lc} (h:f ρ=some (l,ρ1)) (h2:a ρ1=some (ls,ρ2)):aj f a ρ=some (l::ls,ρ2):=by unfold aj; rw [h,Yu,h2]; rfl
theorem W4 {g:List PV->Option Lc} {a:AF} {ρ ρ1:Ev} {ls:List Lc} {r:Lc} (h:a ρ=some (ls,ρ1)) (h2:g (ls.map Lc.pv)=some r):eB g a ρ=some (r,ρ1):=by unfold eB; rw [h,Yu,h2]; rfl
theorem jm {f:IF} {m:Nat} {ixs:List Nat} {b:BF} {tc:TF} {te:EF} {ρ ρ1:Ev} {xs ys:List PV} {mu:Mu} (h:f ρ=some (xs,ρ1)) (h2:qD b tc te xs (rG m ixs (jr ixs ρ1)) []=some (ys,mu)):dq f m ixs b tc te ρ=some (.own (.lst ys),⟨(jr ixs ρ1).vs,mu⟩):=by unfold dq; rw [h,Yu,h2]; rfl
theorem pN {f:EF} {g:PV->Option (List PV)} {ρ ρ1:Ev} {l:Lc} {xs:List PV} (h:f ρ=some (l,ρ1)) (h2:g l.pv=some xs):gC f g ρ=some (xs,ρ1):=by unfold gC; rw [h,Yu,h2]; rfl
theorem Ec {f:EF} {tr:PV->Option Bool} {ρ ρ1:Ev} {l:Lc} {b:Bool} (h:f ρ=some (l,ρ1)) (h2:tr l.pv=some b):tT f tr ρ=some (b,ρ1):=by unfold tT; rw [h,Yu,h2]; rfl
section
variable {f g:SF} {ρ ρ1 ρ2 ρ':Ev} {R:Option Fl} {l m r:Lc} {fa fb fc:EF} {c d:TF} {a:AF} {b:Bool}
theorem aB (h:f ρ=some (.nx ρ')) (h2:g ρ'=R):aH f g ρ=R:=(xQ h).trans h2
theorem bA {i:Nat} (h:fa ρ=some (l,ρ1)) (hi:Nat.blt i ρ1.vs.length=true) (e:ρ1.set i (some l)=ρ'):aL i fa ρ=some (.nx ρ'):=by
 rw [RX h (by simpa using hi),e]
theorem b8 (h:fa ρ=some (l,ρ1)):bD fa ρ=some (.rt l ρ1):=RZ h
theorem jG (h:fa ρ=some (l,ρ1)):jd fa ρ=some (.nx ρ1):=by unfold jd; rw [h]; rfl
theorem bO {o:PV->PV->Option Lc} {p q:PV} (h1:fa ρ=some (l,ρ1)) (hx:l.pv=p) (h2:fb ρ1=some (m,ρ2)) (hy:m.pv=q) (h3:o p q=some r):aq o fa fb ρ=some (r,ρ2):=cJ h1 h2 (by rw [hx,hy]; exact h3)
theorem aY {G:GF} {ls:List Lc} {ps:List PV} {mu:Mu} {v:List (Option Lc)} {mu1:Mu} (h:a ρ=some (ls,ρ1)) (hp:ls.map Lc.pv=ps) (hv:ρ1.vs=v) (hm:ρ1.mu=mu1) (h2:G ps mu1=some (r,mu)):aG G a ρ=some (r,⟨v,mu⟩):=by
 subst hp hv hm
 exact Pj h h2
theorem kE {G:List PV->Option Lc} {ls:List Lc} {ps:List PV} (h:a ρ=some (ls,ρ1)) (hp:ls.map Lc.pv=ps) (h2:G ps=some r):eB G a ρ=some (r,ρ1):=by
 subst hp
 exact W4 h h2
theorem aC {ls:List Lc} (h:fa ρ=some (l,ρ1)) (h2:a ρ1=some (ls,ρ2)):aj fa a ρ=some (l::ls,ρ2):=Pk h h2
theorem d7 {tr:PV->Option Bool} {p:PV} (h:fa ρ=some (l,ρ1)) (hp:l.pv=p) (h2:tr p=some b):tT fa tr ρ=some (b,ρ1):=by
 subst hp
 exact Ec h h2
theorem uF (h:c ρ=some (b,ρ1)):jM c ρ=some (!b,ρ1):=by unfold jM; rw [h]; rfl
theorem wW {b2:Bool} (h:c ρ=some (b,ρ1)) (h2:d ρ1=some (b2,ρ1)):jq c d ρ=some (b&&b2,ρ1):=by
 unfold jq
 rw [h,Yu]
 cases b with
 | true=>rw [aaZ rfl,h2]; rfl
 | false=>rfl
theorem zW {b2:Bool} (h:c ρ=some (b,ρ1)) (h2:d ρ1=some (b2,ρ1)):mH c d ρ=some (b||b2,ρ1):=by
 unfold mH
 rw [h,Yu]
 cases b with
 | true=>rfl
 | false=>rw [aa0 Ze,h2]; rfl
theorem pO {ls:List Lc} {ps:List PV} (h:a ρ=some (ls,ρ1)) (hl:Nat.ble ls.length 1000=true) (hp:ls.map Lc.pv=ps):bW a ρ=some (.own (.lst ps),ρ1):=by
 subst hp
 unfold bW
 rw [h,Yu,aaZ (by simpa using hl)]
theorem fV {ls:List Lc} {ps:List PV} (h:a ρ=some (ls,ρ1)) (hl:Nat.ble ls.length 1000=true) (hp:ls.map Lc.pv=ps):bh a ρ=some (.sh (.tup ps),ρ1):=by
 subst hp
 unfold bh
 rw [h,Yu,aaZ (by simpa using hl)]
theorem jf {p q:PV} (h1:fa ρ=some (l,ρ1)) (hx:l.pv=p) (h2:fb ρ1=some (m,ρ2)) (hy:m.pv=q) (hn:∀ n,p≠.ptr n) (h3:wO p q=some r):aF fa fb ρ=some (r,ρ2):=by
 subst hx hy
 unfold aF
 rw [h1,Yu,h2,Yu]
 split
 . rename_i n k e1 e2
   exact (hn n e1).elim
 . rw [h3]; rfl
theorem FQ {n:Nat} {k:Int} {ws:List PV} {p:PV} (h1:fa ρ=some (l,ρ1)) (hx:l.pv=.ptr n) (h2:fb ρ1=some (m,ρ2)) (hy:m.pv=.int k) (hm:ρ2.mu[n]?=some (some (.lst ws))) (h3:gj ws k=some p):aF fa fb ρ=some (.sh p,ρ2):=by
 unfold aF
 rw [h1,Yu,h2,Yu,hx,hy]
 show (match ρ2.mu[n]? with | some (some (.lst ws))=>_ | _=>_)=_
 rw [hm]
 show (gj ws k).map _=_
 rw [h3]
 rfl
theorem Ih {fo fi fv:EF} {n:Nat} {k:Int} {ws:List PV} {j:Nat} {x o y:Lc} {ρ3:Ev} {p:PV} (h1:fv ρ=some (x,ρ1)) (hxp:x.pv=p) (h2:fo ρ1=some (o,ρ2)) (hx:o.pv=.ptr n) (h3:fi ρ2=some (y,ρ3)) (hy:y.pv=.int k) (hm:ρ3.mu[n]?=some (some (.lst ws))) (h4:pJ ws.length k=some j):vo fo fi fv ρ=some (.nx ⟨ρ3.vs,ρ3.mu.set n (some (.lst (ws.set j p)))⟩):=by
 subst hxp
 unfold vo
 rw [h1,Yu,h2,Yu,h3,Yu,hx,hy]
 show (match ρ3.mu[n]? with | some (some (.lst ws))=>_ | _=>_)=_
 rw [hm]
 show (pJ ws.length k).map _=_
 rw [h4]
 rfl
theorem nA {i:Nat} {ws0 ws:List PV} {p:PV} (h0:ρ.vs[i]?=some (some (.own (.lst ws0)))) (h:fa ρ=some (l,ρ1)) (hp:l.pv=p) (h1:ρ1.vs[i]?=some (some (.own (.lst ws)))) (hz:ws.length<100000) (e:ρ1.set i (some (.own (.lst (ws++[p]))))=ρ'):ig i fa ρ=some (.nx ρ'):=by
 subst hp
 unfold ig
 rw [h0]
 show (fa ρ).bind _=_
 rw [h,Yu]
 show (match ρ1.vs[i]? with | some (some (.own (.lst ws)))=>_ | _=>_)=_
 rw [h1]
 show (if ws.length<100000 then _ else _)=_
 rw [aaZ hz,e]
theorem FT {i:Nat} {ws0 ws ps:List PV} (h0:ρ.vs[i]?=some (some (.own (.lst ws0)))) (h:fa ρ=some (l,ρ1)) (hp:l.pv=.lst ps) (h1:ρ1.vs[i]?=some (some (.own (.lst ws)))) (hz:ws.length+ps.length<=100000) (e:ρ1.set i (some (.own (.lst (ws++ps))))=ρ'):nq i fa ρ=some (.nx ρ'):=by
 unfold nq
 rw [h0]
 show (fa ρ).bind _=_
 rw [h,Yu,hp]
 show (match PV.lst ps,ρ1.vs[i]? with | .lst ps,some (some (.own (.lst ws)))=>_ | _,_=>_)=_
 rw [h1]
 show (if ws.length+ps.length<=100000 then _ else _)=_
 rw [aaZ hz,e]
theorem tB {C:String} {p:PV} (h:fa ρ=some (l,ρ1)) (hp:l.pv=p) (h2:wV p C=some b):jC C fa ρ=some (.sh (.bl b),ρ1):=by
 subst hp
 unfold jC
 rw [h,Yu,h2]
 rfl
theorem gR {F:IF} {B:BF} {body:SF} {xs:List PV} (h:F ρ=some (xs,ρ1)) (h2:iT B body xs ρ1=R):gM F B body ρ=R:=(R0 h).trans h2
theorem Mq {G:PV->Option (List PV)} {p:PV} {xs:List PV} (h:fa ρ=some (l,ρ1)) (hp:l.pv=p) (h2:G p=some xs):gC fa G ρ=some (xs,ρ1):=by
 subst hp
 exact pN h h2
theorem FZ {x y:PV} {p q:Int} (hx:x=.int p) (hy:y=.int q) (h:-18446744073709551616<p) (h2:p<18446744073709551616):cL x y=some (.sh (.int (p*q))):=by subst hx hy; exact pL h h2
end
section
variable {X:Cx}
noncomputable def dC (f:EF):EF:=fun ρ=>(f ρ).bind fun x=>match x.1 with
 | .own p=>some (.sh (.ptr x.2.mu.length),⟨x.2.vs,x.2.mu++[some p]⟩)
 | _=>none
theorem lq {e:Expr} {f:EF} (h:PE X e (tP X.K f)):PE X e (tP X.K (dC f)):=PE.imp h fun σ H Q q=>by
 obtain ⟨H0,Z0,ρ,pd,l,ρ',s,f,k⟩:=q
 obtain ⟨x,h1,h2⟩:=aa6 f
 refine ⟨H0,Z0,ρ,pd,x.1,x.2,s,h1,fun v H1 s1=>?_⟩
 split at h2
 . rename_i p ep
   cases h2
   rw [ep] at s1
   obtain ⟨el,Z,hg,z,so⟩:=s1.top
   obtain ⟨a,ea,ra,za,ha0⟩:=so.1 _ Yv
   have ea':v=.ref a:=YW ea
   subst ea'
   have lz:iD Z ⟨Z.z,Z.g++[a]⟩:=⟨dG.refl _,aaN _ _⟩
   have so2:=so.step (Z':=⟨Z.z,Z.g++[a]⟩) (H':=H1) lz fun e he b hb=>⟨rfl,(jb so he hb).1⟩
   refine k _ H1 (.mk (Z:=⟨Z.z,Z.g++[a]⟩) el (by simp [hg]) ⟨z.zh,z.h0,z.z0.trans lz,z.new⟩ (Slots.consS ?_ ?_))
   . refine so2.perm ?_
     have ec:cel (Z.g++[a]) (x.2.mu++[some p])=cel Z.g x.2.mu++[(some (.ref a),some (.own p))]:=by
      unfold cel
      rw [Y6,Y6,Z5 (by simp [hg])]
      rfl
     unfold sl
     show List.Perm (cel (Z.g++[a]) (x.2.mu++[some p])++_) _
     rw [ec,Y0]
     exact Zk
   . unfold Rep
     exact ⟨a,rfl,by show (Z.g++[a])[x.2.mu.length]?=some a; rw [hg,YL (Yy _)]; simp⟩
 . cases h2
noncomputable def nC (f:EF) (lo hi:OF):EF:=fun ρ=>(f ρ).bind fun x=>(lo x.2).bind fun y=>(hi y.2).bind fun z=>match x.1.pv with
 | .lst ps=>some (.own (.lst (jl ps y.1 z.1)),z.2)
 | .str t=>if t.length<=100000 then some (.sh (.str (ut t y.1 z.1)),z.2) else none
 | _=>none
theorem uG {e:Expr} {lo hi:Option Expr} {p2 pos:Pos} {f:EF} {fl fh:OF} (he:PE X e (tP X.K f)) (hl:PO X lo (CJ X.K fl)) (hu:PO X hi (CJ X.K fh)):PE X (.Subscript e (.Slice lo hi none p2) pos) (tP X.K (nC f fl fh)):=PE.imp (yF (HF.or U8) he hl hu) fun σ H Q q=>by
 obtain ⟨H0,Z0,ρ,pd,r,ρ',s,h,k⟩:=q
 obtain ⟨x,h1,h2⟩:=aa6 h
 obtain ⟨y,h3,h4⟩:=aa6 h2
 obtain ⟨z,h5,h6⟩:=aa6 h4
 refine ⟨H0,Z0,ρ,pd,x.1,x.2,s,h1,fun v H1 s1=>⟨H0,Z0,x.2,_,y.1,y.2,s1.freeze,h3,fun H2 s2=>⟨H0,Z0,y.2,_,z.1,z.2,s2,h5,fun H3 s3=>?_⟩⟩⟩
 cases e:x.1.pv with
 | lst ps=>
  rw [e] at h6 s3
  cases h6
  obtain ⟨el,Z,hg,zz,r1,s4⟩:=s3.sh
  unfold Rep at r1
  obtain ⟨a,vs,rfl,g1,g2⟩:=r1
  refine .inl ⟨a,vs,rfl,bU.same zz.zh g1,fun p hp=>k _ _ ?_⟩
  obtain ⟨z',s'⟩:=s4.new (o:=.lst (mF vs y.1 z.1)) (p:=.lst (jl ps y.1 z.1)) zz hp ⟨_,bT,g2.cut⟩
  exact .mk el hg z' s'
 | str t=>
  rw [e] at h6 s3
  have h6':(if t.length<=100000 then some (Lc.sh (.str (ut t y.1 z.1)),z.2) else none)=some (r,ρ'):=h6
  split at h6'
  . rename_i hz
    cases h6'
    obtain ⟨_,r1⟩:=s3.repH
    unfold Rep at r1
    exact .inr ⟨t,r1,small hz,k _ H3 (s3.pop.scal uw)⟩
  . cases h6'
 | _=>rw [e] at h6; cases h6
theorem iK.two {r:List V->Hp->VK->Prop} {g:PV->PV->Option Lc} (h:∀ H0 Z0 σ ρ pd H v w p q l Q,SR K H0 Z0 σ H ρ ((v,.sh p)::(w,.sh q)::pd)->g p q=some l->(∀ u H',SR K H0 Z0 σ H' ρ ((u,l)::pd)->Q u H')->r [v,w] H Q):
 iK K r (fun ps=>match ps with | [p,q]=>g p q | _=>none):=by
 intro H0 Z0 σ ρ pd H vs ps l Q e s hg k
 match ps,vs,e,s,hg with
 | [p,q],[v,w],_,s,hg=>exact h H0 Z0 σ ρ pd H v w p q l Q s hg k
 | [p,q],[],e,_,_=>simp at e
 | [p,q],[_],e,_,_=>simp at e
 | [p,q],_::_::_::_,e,_,_=>simp at e
 | [],_,_,_,hg=>cases hg
 | [_],_,_,_,hg=>cases hg
 | _::_::_::_,_,_,_,hg=>cases hg
noncomputable def Vv:PV->PV->Option Lc
 | .int i,.int j=>some (.sh (.int (if j<i then j else i)))
 | _,_=>none
noncomputable def Vw:PV->PV->Option Lc
 | .int i,.int j=>some (.sh (.int (if j>i then j else i)))
 | _,_=>none
noncomputable abbrev min2:List PV->Option Lc:=fun ps=>match ps with | [p,q]=>Vv p q | _=>none
noncomputable abbrev max2:List PV->Option Lc:=fun ps=>match ps with | [p,q]=>Vw p q | _=>none
theorem Vx:iK K (fun xs H Q=>∃ i j,xs=[.int i,.int j]/\Q (.int (if j<i then j else i)) H) min2:=iK.two fun H0 Z0 σ ρ pd H v w p q l Q s e k=>by
 obtain ⟨_,r1,r2⟩:=s.rep2H
 unfold Vv at e
 split at e
 . cases e
   have a:=bI r1
   have b:=bI r2
   subst a b
   exact ⟨_,_,rfl,k _ H (s.pop.pop.scal eN)⟩
 . cases e
theorem Mr:iK K (fun xs H Q=>∃ i j,xs=[.int i,.int j]/\Q (.int (if j>i then j else i)) H) max2:=iK.two fun H0 Z0 σ ρ pd H v w p q l Q s e k=>by
 obtain ⟨_,r1,r2⟩:=s.rep2H
 unfold Vw at e
 split at e
 . cases e
   have a:=bI r1
   have b:=bI r2
   subst a b
   exact ⟨_,_,rfl,k _ H (s.pop.pop.scal eN)⟩
 . cases e
theorem SR.popO {a:Addr} {ws:List PV} {p:PV} (s:SR K H0 Z0 σ H ρ ((.ref a,.own (.lst ws))::pd)) (hp:ws[ws.length-1]?=some p):
 ∃ us y,H a=some (.lst us)/\us[us.length-1]?=some y/\SR K H0 Z0 σ (upd H a (.lst us.dropLast)) ρ ((.ref a,.own (.lst ws.dropLast))::(y,.sh p)::pd):=by
 obtain ⟨el,Z,hg,z,so⟩:=s.top
 obtain ⟨b,eb,⟨us,hu,hr⟩,_⟩:=so.1 _ Yv
 cases eb
 obtain ⟨y,hy,ry⟩:=hr.get hp
 have hl:=hr.length
 refine ⟨us,y,hu,by rw [hl]; exact hy,?_⟩
 have hd:aN K Z ws.dropLast us.dropLast:=by
  rw [List.dropLast_eq_take,List.dropLast_eq_take,hl]
  exact hr.take _
 obtain ⟨z',s'⟩:=so.write (o:=.lst us.dropLast) (q:=.lst ws.dropLast) z ⟨us.dropLast,bT,hd⟩
 have s2:=(s'.consS (v:=y) (p:=p) ry).perm (List.Perm.swap (some y,some (Lc.sh p)) (some (V.ref a),some (Lc.own (.lst ws.dropLast))) _)
 exact .mk (Z:=Z) el hg z' (s2.perm (bV.cons _))
noncomputable def vy (ps:List PV):List PV:=ps.zipIdx.map fun x=>.tup [.int (x.2:Nat),x.1]
theorem Ms {ps:List PV} {i:Nat}:(vy ps)[i]?=ps[i]?.map fun p=>.tup [.int (i:Nat),p]:=by
 unfold vy
 rw [Y7,List.getElem?_zipIdx]
 cases ps[i]?<;>simp
theorem Mt {ps:List PV}:(vy ps).length=ps.length:=by unfold vy; simp
theorem Mv {H0:Hp} {a:Addr} {ps:List PV}:nj K H0 Z0 ((.ref a,.sh (.lst ps))::pd) (U9 K a) (vy ps):=by
 intro σ H ρ i s
 obtain ⟨el,Z,hg,z,r,so⟩:=s.sh
 have r0:=r
 unfold Rep at r
 obtain ⟨b,vs,e,h1,h2⟩:=r
 cases e
 have hq:=bU.same z.zh h1
 refine ⟨fun x hx=>?_,fun hl=>⟨vs,hq,by rw [h2.length]; rw [Mt] at hl; omega⟩⟩
 rw [Ms] at hx
 obtain ⟨p,hp,rfl⟩:=aa7 hx
 obtain ⟨v,hv,rv⟩:=h2.get hp
 refine ⟨⟨vs,v,hq,hv⟩,fun v' H' y=>?_⟩
 obtain ⟨T,y,hT,rfl,rfl,hy⟩:=y
 have e1:=hy vs hq
 rw [hv] at e1
 cases e1
 obtain ⟨z',lz,so'⟩:=(so.consS r0).newF z (a:=T) (o:=.tup [.int (i:Nat),v]) hT
 refine .mk (Z:=Z.put T (.tup [.int (i:Nat),v])) el hg z' (Slots.perm (Slots.consS so' ?_) (bV.cons _))
 unfold Rep
 exact ⟨T,[.int (i:Nat),v],rfl,.inl (.inl (by show upd Z.z T _ T=_; rw [bT])),aN.cons (eN _) (aN.cons (rv.mono lz) .nil)⟩
noncomputable def uH (f:EF):IF:=fun ρ=>(f ρ).bind fun x=>match x.1.pv with
 | .lst ps=>some (vy ps,x.2)
 | _=>none
theorem Ii {a:Expr} {f:EF} {p pos:Pos} {elts:List Expr} {x1} {tpos:Pos} (hg:Gl X "enumerate") (hm:X.mg "enumerate" = none) (ha:PA X [a] (jc X.K (aj f ao))) (hs:starEach [a] X.env=[(false,eval a X.env)]:=by rfl):PI X (.Tuple elts x1 tpos) (.Call (.Name "enumerate" p) [a] [] pos) (zN X.K (uH f)):=PI.imp (RB hg hm ha hs) fun σ H R q=>by
 obtain ⟨H0,Z0,ρ,pd,xs,ρ',s,h,k⟩:=q
 obtain ⟨x,h1,h2⟩:=aa6 h
 refine ⟨H0,Z0,ρ,pd,[x.1],x.2,s,?_,fun vs H1 e1 s1=>?_⟩
 . unfold aj ao
   rw [h1]
   rfl
 . obtain ⟨v,rfl⟩:=yo e1
   have s2:SR X.K H0 Z0 σ H1 x.2 ((v,.sh x.1.pv)::pd):=SR.freeze s1
   cases e:x.1.pv with
   | lst ps=>
    rw [e] at h2 s2
    cases h2
    obtain ⟨Z,z,r⟩:=s2.rep
    unfold Rep at r
    obtain ⟨b,us,rfl,h1',h2'⟩:=r
    exact ⟨b,rfl,⟨us,bU.same z h1'⟩,k _ _ _ s2 Mv (YJ _ _)⟩
   | _=>rw [e] at h2; cases h2
abbrev PD:=List (Key×PV)
noncomputable def cH:PD->Key->Option PV
 | [],_=>none
 | kv::r,k=>if kv.1=k then some kv.2 else cH r k
noncomputable def qH (k:Key) (v:PV):PD->PD
 | []=>[]
 | kv::r=>(if kv.1=k then (kv.1,v) else kv)::qH k v r
noncomputable def jn (l:PD) (k:Key) (v:PV):PD:=match cH l k with
 | some _=>qH k v l
 | none=>l++[(k,v)]
noncomputable def qd:PV->Option Key
 | .int i=>some (.inl i)
 | .str x=>some (.inr x)
 | _=>none
noncomputable def jH (l:PD):PV:=.dk (l.map (·.1)) (l.map (·.2))
def fj (K:FG) (Z:ZG):PD->List (Key×V)->Prop:=Paired fun p q=>p.1=q.1/\Rep K Z p.2 q.2
section
variable {K:FG} {Z Z':ZG}
theorem iW:∀ {kvs:List (Key×V)} {ks:List Key} {ps:List PV},kvs.map (·.1)=ks->aN K Z ps (kvs.map (·.2))->fj K Z (ks.zip ps) kvs
 | [],ks,ps,h1,h2=>by
  subst h1
  exact .nil
 | kv::r,ks,ps,h1,h2=>by
  subst h1
  cases ps with
  | nil=>have:=h2.inv0; simp at this
  | cons p ps=>
   obtain ⟨v,r',e,h3,h4⟩:=h2.inv
   rw [YT] at e
   injection e with e1 e2
   subst e1 e2
   rw [YT,ZQ]
   exact .cons ⟨rfl,h3⟩ (iW rfl h4)
theorem fj.keys:∀ {l:PD} {kvs:List (Key×V)},fj K Z l kvs->kvs.map (·.1)=l.map (·.1)
 | _,_,.nil=>rfl
 | _,_,.cons h t=>by rw [YT,YT,h.1,fj.keys t]
theorem fj.vals:∀ {l:PD} {kvs:List (Key×V)},fj K Z l kvs->aN K Z (l.map (·.2)) (kvs.map (·.2))
 | _,_,.nil=>.nil
 | _,_,.cons h t=>aN.cons h.2 (fj.vals t)
theorem fj.len:∀ {l:PD} {kvs:List (Key×V)},fj K Z l kvs->kvs.length=l.length
 | _,_,.nil=>rfl
 | _,_,.cons h t=>by rw [YB,YB,fj.len t]
theorem fj.val {k:Key}:∀ {l:PD} {kvs:List (Key×V)},fj K Z l kvs->(∀ p,cH l k=some p->∃ v,kh kvs k=some v/\Rep K Z p v)/\(cH l k=none->kh kvs k=none)
 | _,_,.nil=>⟨fun p h=>(by cases h),fun _=>rfl⟩
 | p::l,q::kvs,.cons h t=>by
  have ih:=fj.val (k:=k) t
  by_cases e:p.1=k
  . have e':q.1=k:=by rw [← h.1]; exact e
    refine ⟨fun x hx=>⟨q.2,uZ e',?_⟩,fun hx=>?_⟩
    . unfold cH at hx; rw [aaZ e] at hx; cases hx; exact h.2
    . unfold cH at hx; rw [aaZ e] at hx; cases hx
  . have e':¬ q.1=k:=by rw [← h.1]; exact e
    rw [u5 e']
    unfold cH
    rw [aa0 e]
    exact ih
theorem fj.repl {k:Key} {p:PV} {v:V} (r:Rep K Z p v):∀ {l:PD} {kvs:List (Key×V)},fj K Z l kvs->fj K Z (qH k p l) (kvs.map fun kv=>if kv.1=k then (kv.1,v) else kv)
 | _,_,.nil=>.nil
 | a::l,b::kvs,.cons h t=>by
  refine .cons ?_ (fj.repl r t)
  by_cases e:a.1=k
  . have e':b.1=k:=by rw [← h.1]; exact e
    rw [aaZ e]
    dsimp only
    rw [aaZ e']
    exact ⟨h.1,r⟩
  . have e':¬ b.1=k:=by rw [← h.1]; exact e
    rw [aa0 e]
    dsimp only
    rw [aa0 e']
    exact h
theorem fj.app:∀ {l l':PD} {kvs kvs':List (Key×V)},fj K Z l kvs->fj K Z l' kvs'->fj K Z (l++l') (kvs++kvs')
 | _,_,_,_,.nil,h=>h
 | _,_,_,_,.cons a t,h=>.cons a (fj.app t h)
theorem fj.put {k:Key} {p:PV} {v:V} {l:PD} {kvs:List (Key×V)} (h:fj K Z l kvs) (r:Rep K Z p v):fj K Z (jn l k p) (putK kvs k v):=by
 have hv:=h.val (k:=k)
 unfold jn
 cases e:cH l k with
 | none=>
  rw [Om v (hv.2 e)]
  exact h.app (.cons ⟨rfl,r⟩ .nil)
 | some q=>
  obtain ⟨u,hu,_⟩:=hv.1 q e
  have e2:putK kvs k v=kvs.map fun kv=>if kv.1=k then (kv.1,v) else kv:=by
   unfold putK
   rw [u6,hu]
   rfl
  rw [e2]
  exact h.repl r
theorem qQ {p:PV} {k:Key} {v:V} (h:qd p=some k) (r:Rep K Z p v):v=kV k:=by
 cases p with
 | int i=>cases h; exact bI r
 | str x=>cases h; exact dj r
 | _=>cases h
end
noncomputable def cV (fa fb:EF):EF:=fun ρ=>(fa ρ).bind fun x=>(fb x.2).bind fun y=>match x.1.pv with
 | .dk ks ps=>(qd y.1.pv).bind fun k=>(cH (ks.zip ps) k).map fun p=>(.sh p,y.2)
 | .df ks ps=>(qd y.1.pv).bind fun k=>(cH (ks.zip ps) k).map fun p=>(.sh p,y.2)
 | _=>aF (fun _=>some x) (fun _=>some y) ρ
theorem R1 {ρ ρ0 ρ':Ev} {v w:V} {x y:Lc×Ev} {l:Lc} {Q:VK} (hy:y.2=ρ) (s3:SR X.K H0 Z0 σ H ρ ((w,.sh y.1.pv)::(v,.sh x.1.pv)::pd)) (h:aF (fun _=>some x) (fun _=>some y) ρ0=some (l,ρ')) (k:∀ u H',SR X.K H0 Z0 σ H' ρ' ((u,l)::pd)->Q u H'):UT X.K v w H Q:=by
 unfold aF at h
 rw [Yu,Yu] at h
 subst hy
 split at h
 . rename_i n kk en ek
   split at h
   . rename_i ws em
     obtain ⟨p,h5,h6⟩:=aa7 h
     cases h6
     rw [en,ek] at s3
     obtain ⟨_,rw'⟩:=s3.repH
     have ew:=bI rw'
     obtain ⟨a,rfl,s5⟩:=s3.pop.cellO em
     obtain ⟨el,Z,hg,z,so⟩:=s5.top
     obtain ⟨_,ea,⟨us,hu,hr⟩,_⟩:=so.1 _ Yv
     cases ea
     obtain ⟨j,e1,e2⟩:=xP h5 hr.length
     obtain ⟨u,e3,e4⟩:=hr.get e1
     refine .inl ⟨a,us,kk,u,rfl,ew,bU.of hu,e2 u e3,k u H ?_⟩
     have s6:SR X.K H0 Z0 σ H ⟨y.2.vs,y.2.mu.set n none⟩ ((u,.sh p)::(.ref a,.own (.lst ws))::(.ref a,.sh (.ptr n))::pd):=.mk (Z:=Z) el hg z ((so.perm bV).consS e4)
     have hn:n<y.2.mu.length:=(YF.mp em).1
     have s7:SR X.K H0 Z0 σ H ⟨y.2.vs,y.2.mu.set n none⟩ ((.ref a,.own (.lst ws))::(.ref a,.sh (.ptr n))::(u,.sh p)::pd):=s6.perm (((List.Perm.swap _ _ _).cons _).trans (List.Perm.swap _ _ _))
     have s8:=s7.cellP (by show (y.2.mu.set n none)[n]?=_; rw [YM hn])
     have e8:(y.2.mu.set n none).set n (some (.lst ws))=y.2.mu:=by rw [ZD]; exact aa8 em
     have s9:SR X.K H0 Z0 σ H ⟨y.2.vs,(y.2.mu.set n none).set n (some (.lst ws))⟩ ((u,.sh p)::pd):=s8
     rw [e8] at s9
     exact s9
   . cases h
 . obtain ⟨l',h5,h6⟩:=aa7 h
   cases h6
   exact Mj H0 Z0 σ y.2 pd H v w x.1.pv y.1.pv _ Q s3 h5 k
theorem gJ {a b:Expr} {pos:Pos} {fa fb:EF} (hu:X.A.units+1<cLine) (ha:PE X a (tP X.K fa)) (hb:PE X b (tP X.K fb)) (hm:xJ b):PE X (.Subscript a b pos) (tP X.K (cV fa fb)):=PE.imp (JV (Lg.or (HN hu)) ha hb hm) fun σ H Q q=>by
 obtain ⟨H0,Z0,ρ,pd,l,ρ',s,f,k⟩:=q
 obtain ⟨x,h1,h2⟩:=aa6 f
 obtain ⟨y,h3,h4⟩:=aa6 h2
 refine ⟨H0,Z0,ρ,pd,x.1,x.2,s,h1,fun v H1 s1=>⟨H0,Z0,x.2,_,y.1,y.2,s1,h3,fun w H2 s2=>?_⟩⟩
 have s3:=s2.freeze.swap.freeze.swap
 split at h4
 . rename_i ks ps en
   obtain ⟨kk,h5,h6⟩:=aa6 h4
   obtain ⟨p,h7,h8⟩:=aa7 h6
   cases h8
   obtain ⟨_,rw'⟩:=s3.repH
   have ew:=qQ h5 rw'
   have s4:=s3.pop
   rw [en] at s4
   obtain ⟨Z,z,r⟩:=s4.rep
   unfold Rep at r
   obtain ⟨b',kvs,rfl,g1,g2,g3⟩:=r
   obtain ⟨u,hu',ru⟩:=(iW g2 g3).val.1 p h7
   have e1:=z _ _ g1
   refine .inr ⟨b',u,rfl,.inl ⟨kvs,kk,.inl e1,ew,hu'.symm⟩,k u H2 ?_⟩
   refine (s4.part (u:=u) (q:=p) fun Z' z' r'=>?_).sub ((YJ _ _).cons_cons _)
   unfold Rep at r'
   obtain ⟨b2,kvs2,eb,g1',g2',g3'⟩:=r'
   cases eb
   have e2:=z' _ _ g1'
   rw [e1] at e2
   cases e2
   obtain ⟨u2,hu2,ru2⟩:=(iW g2' g3').val.1 p h7
   rw [hu'] at hu2
   cases hu2
   exact ru2
 . rename_i ks ps en
   obtain ⟨kk,h5,h6⟩:=aa6 h4
   obtain ⟨p,h7,h8⟩:=aa7 h6
   cases h8
   obtain ⟨_,rw'⟩:=s3.repH
   have ew:=qQ h5 rw'
   have s4:=s3.pop
   rw [en] at s4
   obtain ⟨Z,z,r⟩:=s4.rep
   unfold Rep at r
   obtain ⟨b',ob,kvs,rfl,g1,g2,g3⟩:=r
   obtain ⟨u,hu',ru⟩:=(iW g2 g3).val.1 p h7
   have e1:=z _ _ g1
   refine .inr ⟨b',u,rfl,.inl ⟨kvs,kk,.inr ⟨ob,e1⟩,ew,hu'.symm⟩,k u H2 ?_⟩
   refine (s4.part (u:=u) (q:=p) fun Z' z' r'=>?_).sub ((YJ _ _).cons_cons _)
   unfold Rep at r'
   obtain ⟨b2,ob2,kvs2,eb,g1',g2',g3'⟩:=r'
   cases eb
   have e2:=z' _ _ g1'
   rw [e1] at e2
   cases e2
   obtain ⟨u2,hu2,ru2⟩:=(iW g2' g3').val.1 p h7
   rw [hu'] at hu2
   cases hu2
   exact ru2
 . exact .inl (R1 rfl s3 h4 k)
theorem SR.takeD {i:Nat} {ks:List Key} {ps:List PV} (s:SR K H0 Z0 σ H ρ pd) (e:ρ.vs[i]?=some (some (.own (.dk ks ps)))):
 ∃ a,σ[i]?=some (some (.ref a))/\SR K H0 Z0 σ H (ρ.set i none) ((.ref a,.own (.dk ks ps))::pd):=by
 obtain ⟨v,e1,s1⟩:=s.take e
 obtain ⟨_,Z,_,z,so⟩:=s1.top
 obtain ⟨a,ea,_⟩:=so.1 _ Yv
 have ea':v=.ref a:=YW ea
 subst ea'
 exact ⟨a,e1,s1⟩
theorem SR.setD {v:V} {p:PV} {a:Addr} {ks:List Key} {ps:List PV} {k:Key} (s:SR K H0 Z0 σ H ρ ((v,.sh p)::(.ref a,.own (.dk ks ps))::pd)):
 ∃ kvs,H a=some (.dK kvs)/\kvs.length=ks.length/\SR K H0 Z0 σ (upd H a (.dK (putK kvs k v))) ρ ((.ref a,.own (jH (jn (ks.zip ps) k p)))::pd):=by
 obtain ⟨el,Z,hg,z,r,so⟩:=s.sh
 have so2:=so.perm bV.symm
 obtain ⟨_,eb,⟨kvs,hu,hk,hr⟩,_⟩:=so2.1 _ Yv
 cases eb
 refine ⟨kvs,hu,by rw [← hk,Yw],?_⟩
 have d:=(iW hk hr).put (k:=k) r
 obtain ⟨z',s'⟩:=so2.write (o:=.dK (putK kvs k v)) (q:=jH (jn (ks.zip ps) k p)) z ⟨putK kvs k v,bT,d.keys,d.vals⟩
 exact .mk el hg z' s'
noncomputable def o9 (i:Nat) (fi fv:EF):SF:=fun ρ=>(fv ρ).bind fun x=>match x.2.vs[i]? with
 | some (some (.own (.dk _ _)))=>(fi x.2).bind fun y=>match qd y.1.pv,y.2.vs[i]? with
  | some k,some (some (.own (.dk ks ps)))=>if ks.length<100000 then some (.nx (y.2.set i (some (.own (jH (jn (ks.zip ps) k x.1.pv)))))) else none
  | _,_=>none
 | _=>none
theorem Br {i:Nat} {o ix e:Expr} {fi fv:EF} {tpos pos:Pos} (h:PS X (.Assign [.Subscript o ix tpos] e pos) (El (tP X.K fv) (Jz (pX i) (tP X.K fi) J0))):PS X (.Assign [.Subscript o ix tpos] e pos) (fK X.K (o9 i fi fv)):=PS.imp h fun D σ H q=>by
 obtain ⟨H0,Z0,ρ,pd,fl,s,h,k⟩:=q
 obtain ⟨x,h1,h2⟩:=aa6 h
 refine ⟨H0,Z0,ρ,pd,x.1,x.2,s,h1,fun v H1 s1=>?_⟩
 split at h2
 . rename_i ks0 ps0 e0
   obtain ⟨y,h3,h4⟩:=aa6 h2
   obtain ⟨a,ea,_⟩:=s1.takeD e0
   refine ⟨.ref a,ea,H0,Z0,x.2,_,y.1,y.2,s1.freeze,h3,fun w H2 s2=>?_⟩
   split at h4
   . rename_i kk ks ps ek e3
     split at h4
     . rename_i hlen
       cases h4
       obtain ⟨_,rw'⟩:=s2.freeze.repH
       have ew:=qQ ek rw'
       obtain ⟨a',ea',s3⟩:=s2.pop.takeD e3
       rw [ea] at ea'; cases ea'
       obtain ⟨kvs,hu,hl,s4⟩:=s3.swap.setD (k:=kk)
       refine ⟨a,_,rfl,.inl ⟨kvs,kk,hu,ew,by rw [hl,sizeLine_eq]; omega,rfl⟩,k σ _ ?_⟩
       have s5:=s4.put ea
       rw [Ev.set_set] at s5
       exact s5
     . cases h4
   . cases h4
 . cases h2
noncomputable def jt (fo fv:EF):SF:=fun ρ=>(fo ρ).bind fun o=>match o.1.pv with
 | .ptr n=>match o.2.mu[n]? with
  | some (some (.lst _))=>(fv o.2).bind fun y=>match y.2.mu[n]? with
   | some (some (.lst ws))=>if ws.length<100000 then some (.nx ⟨y.2.vs,y.2.mu.set n (some (.lst (ws++[y.1.pv])))⟩) else none
   | _=>none
  | _=>none
 | _=>none
theorem oR {o e:Expr} {fo fv:EF} {apos cpos pos:Pos} (h:PS X (.Expr (.Call (.Attribute o "append" apos) [e] [] cpos) pos) (uW (HH X.K "list" Bh (tP X.K fo) (jc X.K (aj fv ao))))):
 PS X (.Expr (.Call (.Attribute o "append" apos) [e] [] cpos) pos) (fK X.K (jt fo fv)):=PS.imp h fun D σ H q=>by
 obtain ⟨H0,Z0,ρ,pd,fl,s,h,k⟩:=q
 obtain ⟨o',h1,h2⟩:=aa6 h
 refine ⟨H0,Z0,ρ,pd,o'.1,o'.2,s,h1,fun v H1 s1=>?_⟩
 split at h2
 . rename_i n en
   split at h2
   . rename_i ws0 em0
     obtain ⟨y,h3,h4⟩:=aa6 h2
     have s2:=s1.freeze
     rw [en] at s2
     obtain ⟨a,rfl,s5⟩:=s2.cellO em0
     obtain ⟨_,Z,_,z,so⟩:=s5.top
     obtain ⟨_,ea,⟨us,hu,_⟩,_⟩:=so.1 _ Yv
     cases ea
     refine ⟨.inl ⟨rfl,us,bU.of hu⟩,H0,Z0,o'.2,_,[y.1],y.2,s2,?_,fun vs H2 e2 sv=>?_⟩
     . unfold aj ao
       rw [h3]
       rfl
     . obtain ⟨v1,rfl⟩:=yo e2
       split at h4
       . rename_i ws em
         split at h4
         . rename_i hz
           cases h4
           have s3:SR X.K H0 Z0 σ H2 y.2 ((v1,.sh y.1.pv)::(.ref a,.sh (.ptr n))::pd):=SR.freeze sv
           obtain ⟨a',ea',s6⟩:=s3.swap.cellO em
           cases ea'
           have s7:SR X.K H0 Z0 σ H2 ⟨y.2.vs,y.2.mu.set n none⟩ ((v1,.sh y.1.pv)::(.ref a,.own (.lst ws))::(.ref a,.sh (.ptr n))::pd):=s6.perm ((List.Perm.swap _ _ _).trans ((List.Perm.swap _ _ _).cons _))
           obtain ⟨us2,hu2,hl,s8⟩:=s7.pushO
           have hn:n<y.2.mu.length:=(YF.mp em).1
           have s9:=s8.cellP (by show (y.2.mu.set n none)[n]?=_; rw [YM hn])
           refine ⟨a,us2,v1,rfl,rfl,hu2,by rw [hl,sizeLine_eq]; omega,k σ _ ?_⟩
           have e8:(y.2.mu.set n none).set n (some (.lst (ws++[y.1.pv])))=y.2.mu.set n (some (.lst (ws++[y.1.pv]))):=ZD ..
           have s10:SR X.K H0 Z0 σ (upd H2 a (.lst (us2++[v1]))) ⟨y.2.vs,(y.2.mu.set n none).set n (some (.lst (ws++[y.1.pv])))⟩ pd:=s9
           rw [e8] at s10
           exact s10
         . cases h4
       . cases h4
   . cases h2
 . cases h2
noncomputable def Qz:List (V×V)->List V
 | []=>[]
 | p::r=>p.1::p.2::Qz r
noncomputable def lW (l:PD) (acc:PD):PD:=match l with
 | []=>acc
 | kv::r=>lW r (jn acc kv.1 kv.2)
theorem fj.merge {Z:ZG}:∀ {l:PD} {kvs:List (Key×V)} {a:PD} {b:List (Key×V)},fj K Z l kvs->fj K Z a b->fj K Z (lW l a) (lU b kvs)
 | _,_,_,_,.nil,h=>h
 | p::l,q::kvs,a,b,.cons h t,g=>by
  have:=fj.merge t (g.put (k:=p.1) h.2)
  rw [h.1] at this
  unfold lW
  rw [h.1]
  exact this
noncomputable def lX:EF:=fun ρ=>some (.own (.dk [] []),ρ)
theorem zX {pos:Pos}:PE X (.Dict [] [] pos) (tP X.K lX):=PE.imp Oq fun σ H Q q=>by
 obtain ⟨H0,Z0,ρ,pd,l,ρ',s,f,k⟩:=q
 cases f
 exact fun p hp=>k _ _ (s.newO hp fun Z _ _=>⟨[],bT,rfl,.nil⟩)
noncomputable def gO (f:EF):EF:=fun ρ=>(f ρ).bind fun x=>match x.1.pv with
 | .ptr n=>match x.2.mu[n]? with
  | some (some (.lst ws))=>some (.sh (.int (ws.length:Nat)),x.2)
  | _=>none
 | p=>(Pb p).map fun l=>(l,x.2)
theorem vz {x:Str} {e:Expr} {f:EF} {p pos:Pos} (h:PE X (.Call (.Name x p) [e] [] pos) (Cr (fun xs H Q=>∃ x n,xs=[x]/\Oa X.K x H n/\Q (.int n) H) (jc X.K (aj f ao)))):PE X (.Call (.Name x p) [e] [] pos) (tP X.K (gO f)):=PE.imp h fun σ H Q q=>by
 obtain ⟨H0,Z0,ρ,pd,l,ρ',s,ff,k⟩:=q
 obtain ⟨y,h1,h2⟩:=aa6 ff
 refine ⟨H0,Z0,ρ,pd,[y.1],y.2,s,?_,fun vs H1 e1 s1=>?_⟩
 . unfold aj ao
   rw [h1]
   rfl
 . obtain ⟨v,rfl⟩:=yo e1
   have s2:SR X.K H0 Z0 σ H1 y.2 ((v,.sh y.1.pv)::pd):=SR.freeze s1
   split at h2
   . rename_i n en
     split at h2
     . rename_i ws em
       cases h2
       rw [en] at s2
       obtain ⟨a,rfl,s5⟩:=s2.cellO em
       obtain ⟨_,Z,_,z,so⟩:=s5.top
       obtain ⟨_,ea,⟨us,hu,hr⟩,_⟩:=so.1 _ Yv
       cases ea
       exact ⟨.ref a,ws.length,rfl,.inl ⟨us,bU.of hu,hr.length.symm⟩,k _ H1 (s2.pop.scal eN)⟩
     . cases h2
   . obtain ⟨l',h3,h4⟩:=aa7 h2
     cases h4
     exact Ml H0 Z0 σ y.2 pd H1 [v] [y.1.pv] _ Q rfl s2 h3 k
noncomputable def Yd:PV->Option Lc
 | .bl b=>some (.sh (.int (if b then 1 else 0)))
 | _=>none
noncomputable abbrev rM:List PV->Option Lc:=fun ps=>match ps with | [p]=>Yd p | _=>none
theorem Ga:iK K (fun xs H Q=>∃ b,xs=[.bl b]/\Q (.int (if b then 1 else 0)) H) rM:=iK.one fun H0 Z0 σ ρ pd H v p l Q s e k=>by
 obtain ⟨_,r⟩:=s.repH
 cases p with
 | bl b=>
  cases e
  have:=dg r
  subst this
  exact ⟨b,rfl,k _ H (s.pop.scal eN)⟩
 | _=>cases e
noncomputable def ph:=sY (fun _ j=>decide (0<j/\j<18446744073709551616)) fun i j=>.int (i/j)
theorem pQ:iQ K (rI QD fun i j=>.int (i/j)) ph:=zJ (fun i j h=>(of_decide_eq_true h:0<j/\j<18446744073709551616)) fun _ _ _=>eN _
end
open PySem.SeqAt
section
variable {X:Cx}
noncomputable def J4 (n:Nat):PD->PD->Option Bool
 | [],_=>some true
 | kv::r,lb=>match cH lb kv.1 with
  | none=>some false
  | some q=>(fZ n kv.2 q).bind fun e=>(J4 n r lb).map fun c=>e&&c
noncomputable def zY (n:Nat) (la lb:PD):Option Bool:=if la.length=lb.length then J4 n la lb else some false
theorem Ij {pins:List (Addr×Obj)} {H:Hp} {s:Shared} {g:List Addr} (I:Inv X pins σ H s) {n:Nat} {A:Around} (hA:A.units+n<cLine) {lb:PD} {kb:List (Key×V)} {vb:List (Key×Value)} (rb:fj X.K ⟨H,g⟩ lb kb) (qb:KV kb vb):
 ∀ {la:PD} {ka:List (Key×V)} {va:List (Key×Value)} {b:Bool},fj X.K ⟨H,g⟩ la ka->KV ka va->J4 n la lb=some b->W.KeqHits A s vb va b
 | _,_,va,b,.nil,qa,h=>by
  cases h
  cases (show Paired _ [] va from qa)
  exact .nil
 | p::la,q::ka,va,b,.cons hpq t,qa,h=>by
  cases (show Paired _ (q::ka) va from qa) with
  | @cons _ u _ vr e qr=>
   obtain ⟨u1,u2⟩:=u
   have ek:p.1=u1:=hpq.1.trans e.1
   unfold J4 at h
   have rel:=qb.val p.1
   cases hv:cH lb p.1 with
   | none=>
    rw [hv] at h
    cases h
    rw [rb.val.2 hv] at rel
    refine .miss ?_
    rw [← ek]
    cases hx:valueAt vb p.1 with
    | none=>rfl
    | some y=>rw [hx] at rel; exact rel.elim
   | some q'=>
    rw [hv] at h
    obtain ⟨e1,h1,h2⟩:=aa6 h
    obtain ⟨c,h3,h4⟩:=aa7 h2
    subst h4
    obtain ⟨v',hv',rv'⟩:=rb.val.1 q' hv
    rw [hv'] at rel
    cases hx:valueAt vb p.1 with
    | none=>rw [hx] at rel; exact rel.elim
    | some y=>
     rw [hx] at rel
     refine .hit (y:=y) (by rw [← ek]; exact hx) (zQ I n hpq.2 rv' e.2 rel h1 A hA).1 (Ij I hA rb qb t qr h3)
def Vy (K:FG) (neg:Bool):R2:=fun x y H Q=>∃ g ks ps js qs b,Rep K ⟨H,g⟩ (.dk ks ps) x/\Rep K ⟨H,g⟩ (.dk js qs) y/\zY 150 (ks.zip ps) (js.zip qs)=some b/\Q (.bl (if neg then !b else b)) H
theorem Vz {pins:List (Addr×Obj)} {H:Hp} {s:Shared} {g:List Addr} (I:Inv X pins σ H s) (hA:X.A.in1.units+150<cLine) {ks js:List Key} {ps qs:List PV} {x y:V} {v u:Value} {b:Bool}
 (r1:Rep X.K ⟨H,g⟩ (.dk ks ps) x) (r2:Rep X.K ⟨H,g⟩ (.dk js qs) y) (rx:RelV x v) (ry:RelV y u) (e:zY 150 (ks.zip ps) (js.zip qs)=some b):
 ∃ a a' va vb r,v=.ref a/\u=.ref a'/\(a==sysModules)=false/\(a'==sysModules)=false/\s.heap.DictOf (dM X.prog X.w) a va/\s.heap.DictOf (dM X.prog X.w) a' vb/\(va.length=vb.length->W.KeqHits X.A.in1 s vb va r)/\(va.length==vb.length&&r)=b:=by
 unfold Rep at r1 r2
 obtain ⟨a,ka,rfl,h1,h2,h3⟩:=r1
 obtain ⟨a',kb,rfl,h1',h2',h3'⟩:=r2
 cases rx
 cases ry
 obtain ⟨_,d1,va,q1,dd1⟩:=DR I.hok h1
 obtain ⟨_,d2,vb,q2,dd2⟩:=DR I.hok h1'
 have ra:=iW h2 h3
 have rb:=iW h2' h3'
 have la:va.length=(ks.zip ps).length:=by rw [← q1.length,ra.len]
 have lb:vb.length=(js.zip qs).length:=by rw [← q2.length,rb.len]
 unfold zY at e
 split at e
 . rename_i hl
   refine ⟨a,a',va,vb,b,rfl,rfl,d1,d2,dd1,dd2,fun _=>Ij I hA rb q2 ra q1 e,?_⟩
   rw [la,lb,hl]
   simp
 . rename_i hl
   cases e
   refine ⟨a,a',va,vb,false,rfl,rfl,d1,d2,dd1,dd2,fun z=>(hl (by rw [← la,← lb]; exact z)).elim,by simp⟩
theorem VB {k:Nat} (hr:mC k X.A):fB X (compareOp .Eq) (Vy X.K false):=by
 intro pins s σ H x y v u Q I rx ry h
 obtain ⟨g,ks,ps,js,qs,b,r1,r2,e,k'⟩:=h
 have hA:X.A.in1.units+150<cLine:=by have:=hr.un; show X.A.units+1+150<cLine; omega
 obtain ⟨a,a',va,vb,r,rfl,rfl,d1,d2,dd1,dd2,hits,eb⟩:=Vz I hA r1 r2 rx ry e
 refine W.keq_eq d1 d2 dd1 dd2 (by have:=hr.un; omega) hits ?_
 rw [eb]
 exact ⟨.bl b,H,I,rfl,k'⟩
noncomputable def fL (p q:PV):Option Lc:=match p,q with
 | .dk ks ps,.dk js qs=>(zY 150 (ks.zip ps) (js.zip qs)).map fun b=>.sh (.bl b)
 | p,q=>eqP p q
def VD (K:FG) (neg:Bool):R2:=fun x y H Q=>Fx K neg x y H Q\/Vy K neg x y H Q
theorem f9 {k:Nat} (hr:mC k X.A):fB X (compareOp .Eq) (VD X.K false):=(cX hr).or (VB hr)
theorem eU:iQ K (VD K false) fL:=by
 intro H0 Z0 σ ρ pd H v w x y l Q s e k
 unfold fL at e
 split at e
 . obtain ⟨b,e1,rfl⟩:=aa7 e
   obtain ⟨g,r1,r2⟩:=s.rep2H
   exact .inr ⟨g,_,_,_,_,b,r1,r2,e1,k _ H (s.pop.pop.scal eQ)⟩
 . exact .inl (cY H0 Z0 σ ρ pd H v w _ _ l Q s e k)
noncomputable def j0 (ps qs:List PV):List PV:=List.zipWith (fun p q=>.tup [p,q]) ps qs
theorem Gb {ps qs:List PV} {i:Nat} {x:PV} (h:(j0 ps qs)[i]?=some x):∃ p q,ps[i]?=some p/\qs[i]?=some q/\x=.tup [p,q]:=by
 unfold j0 at h
 rw [List.getElem?_zipWith] at h
 cases h1:ps[i]? with
 | none=>rw [h1] at h; cases h
 | some p=>
  cases h2:qs[i]? with
  | none=>rw [h1,h2] at h; cases h
  | some q=>rw [h1,h2] at h; cases h; exact ⟨p,q,rfl,rfl,rfl⟩
theorem Ge {ps qs:List PV}:(j0 ps qs).length=min ps.length qs.length:=by unfold j0; simp
end
end PL
namespace L2
open PySem PySem.Spec PyProof.Rows
variable {pins:List (Addr×Obj)} {E:Value->Shared->Prop} {s:Shared} {A:Around} {w:World} {P:Program}
section
variable {X:Cx}
end
end L2
namespace PL
open PySem PySem.Spec PyProof.Rows L2
variable {K:FG} {H0 H:Hp} {Z0:ZG} {σ:L2.St} {ρ:Ev} {pd:Pd}
section
variable {X:Cx}
section
variable {K:FG} {Z Z':ZG}
end
theorem SR.ext {l:Addr} {o:HO} (s:SR K H0 Z0 σ H ρ pd) (hl:H l=none):SR K H0 Z0 σ (upd H l o) ρ pd:=by
 obtain ⟨el,Z,hg,z,so⟩:=s
 obtain ⟨z',lz,so'⟩:=so.newF z (o:=o) hl
 exact ⟨el,Z.put l o,hg,z',so'⟩
noncomputable def tD:SF:=fun _=>none
theorem qR {st:Stmt}:PS X st (fK X.K tD):=fun pins s σ H D I q=>by
 obtain ⟨H0,Z0,ρ,pd,fl,s,h,k⟩:=q
 cases h
abbrev FD:=List (Str×PV)
noncomputable def pq:FD->Str->Option PV
 | [],_=>none
 | kv::r,k=>if kv.1=k then some kv.2 else pq r k
noncomputable def nD (f:Str) (p:PV):FD->FD
 | []=>[(f,p)]
 | kv::r=>if kv.1=f then (kv.1,p)::r else kv::nD f p r
noncomputable def cT (C:Str) (l:FD):PV:=.obj C (l.map (·.1)) (l.map (·.2))
def nF (K:FG) (Z:ZG):FD->List (Str×V)->Prop:=Paired fun p q=>p.1=q.1/\Rep K Z p.2 q.2
section
variable {K:FG} {Z Z':ZG}
theorem Bt:∀ {kvs:List (Str×V)} {ks:List Str} {ps:List PV},kvs.map (·.1)=ks->aN K Z ps (kvs.map (·.2))->nF K Z (ks.zip ps) kvs
 | [],ks,ps,h1,h2=>by
  subst h1
  exact .nil
 | kv::r,ks,ps,h1,h2=>by
  subst h1
  cases ps with
  | nil=>have:=h2.inv0; simp at this
  | cons p ps=>
   obtain ⟨v,r',e,h3,h4⟩:=h2.inv
   rw [YT] at e
   injection e with e1 e2
   subst e1 e2
   rw [YT,ZQ]
   exact .cons ⟨rfl,h3⟩ (Bt rfl h4)
theorem nF.keys:∀ {l:FD} {kvs:List (Str×V)},nF K Z l kvs->kvs.map (·.1)=l.map (·.1)
 | _,_,.nil=>rfl
 | _,_,.cons h t=>by rw [YT,YT,h.1,nF.keys t]
theorem nF.vals:∀ {l:FD} {kvs:List (Str×V)},nF K Z l kvs->aN K Z (l.map (·.2)) (kvs.map (·.2))
 | _,_,.nil=>.nil
 | _,_,.cons h t=>aN.cons h.2 (nF.vals t)
theorem nF.look {f:Str}:∀ {l:FD} {kvs:List (Str×V)},nF K Z l kvs->(∀ p,pq l f=some p->∃ v,kvs.lookup f=some v/\Rep K Z p v)/\(pq l f=none->kvs.lookup f=none)
 | _,_,.nil=>⟨fun p h=>(by cases h),fun _=>rfl⟩
 | p::l,q::kvs,.cons h t=>by
  have ih:=nF.look (f:=f) t
  have e0:(q::kvs).lookup f=if f=q.1 then some q.2 else kvs.lookup f:=by
   obtain ⟨q1,q2⟩:=q
   rw [Zj]
   by_cases e:f=q1
   . subst e; simp
   . rw [aa0 e,show (f==q1)=false from aa4.mpr e]
  rw [e0]
  by_cases e:p.1=f
  . have e':f=q.1:=by rw [← h.1]; exact e.symm
    rw [aaZ e']
    refine ⟨fun x hx=>⟨q.2,rfl,?_⟩,fun hx=>?_⟩
    . unfold pq at hx; rw [aaZ e] at hx; cases hx; exact h.2
    . unfold pq at hx; rw [aaZ e] at hx; cases hx
  . have e':¬ f=q.1:=by rw [← h.1]; exact fun z=>e z.symm
    rw [aa0 e']
    unfold pq
    rw [aa0 e]
    exact ih
theorem nF.put {f:Str} {p:PV} {v:V} (r:Rep K Z p v):∀ {l:FD} {kvs:List (Str×V)},nF K Z l kvs->nF K Z (nD f p l) (iR f v kvs)
 | _,_,.nil=>.cons ⟨rfl,r⟩ .nil
 | a::l,b::kvs,.cons h t=>by
  obtain ⟨b1,b2⟩:=b
  unfold nD iR
  have h1:a.1=b1:=h.1
  by_cases e:a.1=f
  . rw [aaZ e,aaZ (by rw [← h1]; exact e)]
    exact .cons ⟨h1,r⟩ t
  . rw [aa0 e,aa0 (by rw [← h1]; exact e)]
    exact .cons h (nF.put r t)
end
structure ue (K:FG) (mg:Str->Option Value) (C:Str) (c:Addr):Prop where
 cn:CN K C c
 cl:wk K c
 mgC:mg C=some (.ref c)
theorem J5 {C:Str} {c d:Addr} (h:CN K C c) (g:CN K C d):c=d:=by
 have:(some (some (Value.ref c)))=some (some (.ref d)):=h.symm.trans g
 cases this
 rfl
noncomputable def dJ (C f:Str) (fo:EF):EF:=fun ρ=>(fo ρ).bind fun x=>match x.1.pv with
 | .ptr n=>match x.2.mu[n]? with
  | some (some (.obj D ks ps))=>if D=C then (pq (ks.zip ps) f).map fun p=>(.sh p,x.2) else none
  | _=>none
 | _=>none
theorem SR.cellB {pd pe:Pd} {a:Addr} {n:Nat} {p:PV} (hm:ρ.mu[n]?=some (some p)) (s:SR K H0 Z0 σ H ⟨ρ.vs,ρ.mu.set n none⟩ ((.ref a,.own p)::(.ref a,.sh (.ptr n))::pd)):SR K H0 Z0 σ H ρ pd:=by
 have hn:n<ρ.mu.length:=(YF.mp hm).1
 have s8:=s.cellP (by show (ρ.mu.set n none)[n]?=_; rw [YM hn])
 have e8:(ρ.mu.set n none).set n (some p)=ρ.mu:=by rw [ZD]; exact aa8 hm
 have s9:SR K H0 Z0 σ H ⟨ρ.vs,(ρ.mu.set n none).set n (some p)⟩ pd:=s8
 rw [e8] at s9
 exact s9
theorem SR.objAt {v:V} {n:Nat} {C:Str} {ks:List Str} {ps:List PV} (s:SR K H0 Z0 σ H ρ ((v,.sh (.ptr n))::pd)) (hm:ρ.mu[n]?=some (some (.obj C ks ps))):
 ∃ a c dx fs,v=.ref a/\CN K C c/\H a=some (.ins c dx fs)/\fs.map (·.1)=ks/\(∀ f p,pq (ks.zip ps) f=some p->∃ u,fs.lookup f=some u/\SR K H0 Z0 σ H ρ ((u,.sh p)::(v,.sh (.ptr n))::pd))/\∀ f,pq (ks.zip ps) f=none->fs.lookup f=none:=by
 have sdup:SR K H0 Z0 σ H ρ ((v,.sh (.ptr n))::(v,.sh (.ptr n))::pd):=s.part fun Z _ r=>r
 obtain ⟨a,rfl,s5⟩:=sdup.cellO hm
 obtain ⟨el,Z,hg,z,so⟩:=s5.top
 obtain ⟨_,ea,⟨c,dx,fs,cn,hu,hk,hr⟩,_⟩:=so.1 _ Yv
 cases ea
 have rf:=Bt hk hr
 refine ⟨a,c,dx,fs,rfl,cn,hu,hk,fun f p hl=>?_,fun f hl=>rf.look.2 hl⟩
 obtain ⟨u,h1,h2⟩:=rf.look.1 p hl
 refine ⟨u,h1,?_⟩
 have s6:SR K H0 Z0 σ H ⟨ρ.vs,ρ.mu.set n none⟩ ((u,.sh p)::(.ref a,.own (.obj C ks ps))::(.ref a,.sh (.ptr n))::(.ref a,.sh (.ptr n))::pd):=.mk (Z:=Z) el hg z ((so.perm bV).consS h2)
 have s7:SR K H0 Z0 σ H ⟨ρ.vs,ρ.mu.set n none⟩ ((.ref a,.own (.obj C ks ps))::(.ref a,.sh (.ptr n))::(u,.sh p)::(.ref a,.sh (.ptr n))::pd):=s6.perm (((List.Perm.swap _ _ _).cons _).trans (List.Perm.swap _ _ _))
 exact SR.cellB (pe:=pd) hm s7
theorem jN {C f:Str} {c:Addr} {o:Expr} {fo:EF} {pos:Pos} (T:ue X.K X.mg C c) (na:jy X.K c f) (ho:PE X o (tP X.K fo)) (hb:attributeBase o f X.env (eval o X.env)=eval o X.env:=by rfl):PE X (.Attribute o f pos) (tP X.K (dJ C f fo)):=PE.imp (Ut ho hb) fun σ H Q q=>by
 obtain ⟨H0,Z0,ρ,pd,l,ρ',s,h,k⟩:=q
 obtain ⟨x,h1,h2⟩:=aa6 h
 refine ⟨H0,Z0,ρ,pd,x.1,x.2,s,h1,fun v H1 s1=>?_⟩
 split at h2
 . rename_i n en
   split at h2
   . rename_i D ks ps em
     split at h2
     . rename_i eD
       subst eD
       obtain ⟨p,h3,h4⟩:=aa7 h2
       cases h4
       have s2:=s1.freeze
       rw [en] at s2
       obtain ⟨a,c',dx,fs,rfl,cn,hH,hk,hl,_⟩:=s2.objAt em
       have:=J5 T.cn cn
       subst this
       obtain ⟨u,h5,s6⟩:=hl f p h3
       exact ⟨a,c,dx,fs,u,rfl,hH,T.cl,na,h5,k u H1 (s6.sub ((YJ _ _).cons_cons _))⟩
     . cases h2
   . cases h2
 . cases h2
noncomputable def fX (C f:Str) (fo fv:EF):SF:=fun ρ=>(fv ρ).bind fun y=>(fo y.2).bind fun x=>match x.1.pv with
 | .ptr n=>match x.2.mu[n]? with
  | some (some (.obj D ks ps))=>if D=C/\ks.length<1000 then some (.nx ⟨x.2.vs,x.2.mu.set n (some (cT C (nD f y.1.pv (ks.zip ps))))⟩) else none
  | _=>none
 | _=>none
theorem jV {C f:Str} {c:Addr} {o value:Expr} {fo fv:EF} {pos' pos:Pos} (T:ue X.K X.mg C c) (na:jy X.K c f) (ho:PE X o (tP X.K fo)) (hv:PE X value (tP X.K fv)) (hs:swapsWith value (some (.Attribute o f pos')) pos.line X.env=pure false:=by rfl):PS X (.Assign [.Attribute o f pos'] value pos) (fK X.K (fX C f fo fv)):=PS.imp (Uu ho hv hs) fun D σ H q=>by
 obtain ⟨H0,Z0,ρ,pd,fl,s,h,k⟩:=q
 obtain ⟨y,h1,h2⟩:=aa6 h
 obtain ⟨x,h3,h4⟩:=aa6 h2
 refine ⟨H0,Z0,ρ,pd,y.1,y.2,s,h1,fun v H1 s1=>⟨H0,Z0,y.2,_,x.1,x.2,s1.freeze,h3,fun w H2 s2=>?_⟩⟩
 split at h4
 . rename_i n en
   split at h4
   . rename_i D' ks ps em
     split at h4
     . rename_i eD
       obtain ⟨eD,hz⟩:=eD
       subst eD
       cases h4
       have s3:=s2.freeze
       rw [en] at s3
       obtain ⟨a,rfl,s5⟩:=s3.cellO em
       have s6:SR X.K H0 Z0 σ H2 ⟨x.2.vs,x.2.mu.set n none⟩ ((v,.sh y.1.pv)::(.ref a,.own (.obj D' ks ps))::(.ref a,.sh (.ptr n))::pd):=s5.perm ((List.Perm.swap _ _ _).trans ((List.Perm.swap _ _ _).cons _))
       obtain ⟨el,Z,hg,z,r,so⟩:=s6.sh
       have so2:=so.perm bV.symm
       obtain ⟨_,eb,⟨c',dx,fs,cn,hu,hk,hr⟩,_⟩:=so2.1 _ Yv
       cases eb
       have:=J5 T.cn cn
       subst this
       have rf:=Bt hk hr
       have rp:=rf.put (f:=f) r
       have hlen:fs.length=ks.length:=by rw [← hk,Yw]
       refine ⟨a,c,dx,fs,rfl,hu,T.cl,na,by omega,k σ _ ?_⟩
       obtain ⟨z',s'⟩:=so2.write (o:=.ins c dx (iR f v fs)) (q:=cT D' (nD f y.1.pv (ks.zip ps))) z ⟨c,dx,iR f v fs,cn,bT,rp.keys,rp.vals⟩
       have s7:SR X.K H0 Z0 σ (upd H2 a (.ins c dx (iR f v fs))) ⟨x.2.vs,x.2.mu.set n none⟩ ((.ref a,.own (cT D' (nD f y.1.pv (ks.zip ps))))::(.ref a,.sh (.ptr n))::pd):=.mk el hg z' s'
       have hn:n<x.2.mu.length:=(YF.mp em).1
       have s8:=s7.cellP (by show (x.2.mu.set n none)[n]?=_; rw [YM hn])
       have e8:(x.2.mu.set n none).set n (some (cT D' (nD f y.1.pv (ks.zip ps))))=x.2.mu.set n (some (cT D' (nD f y.1.pv (ks.zip ps)))):=ZD ..
       have s9:SR X.K H0 Z0 σ (upd H2 a (.ins c dx (iR f v fs))) ⟨x.2.vs,(x.2.mu.set n none).set n (some (cT D' (nD f y.1.pv (ks.zip ps))))⟩ pd:=s8
       rw [e8] at s9
       exact s9
     . cases h4
   . cases h4
 . cases h4
end
section
variable {P:Program} {w:World} {K:FG} {mg:Str->Option Value} {base:Heap}
def rN (K:FG) (c:Addr) (m qual:Str) (st:Stmt) (ps:List Str):Prop:=∃ f fd,sV K m qual st f fd/\W.findIn K (.ref c) m=some (some (.ref f))/\W.isFn K (.ref f)=true/\Binds K fd ps []
def qp (P:Program) (w:World) (K:FG) (mg:Str->Option Value) (base:Heap) (c:Addr) (m:Str) (k:Nat) (ps:List Str) (sp:Sp):Prop:=∃ f fd,mD P w K mg base oE k f fd ps sp/\Meth K c m f/\Binds K fd ps []
theorem sV.okQ {x qual:Str} {st:Stmt} {N ps:List Str} {k:Nat} {g:GF} {f:Addr} {fd:FuncData} (F:sV K x qual st f fd) (S:bf N ps (aK st))
 (h:∀ (cdv:Value) (A:Around) (outer:List PySem.Env) (s:Shared) (H:Hp) (E:XK),mC k (A.deeper (envOfC qual (aK st) s.heap.objs.size f cdv))->
   ∃ g':SF,(∀ a mu,g a mu=cM N.length g' a mu)/\iB (Oh oE P w K mg base N qual (aK st) f cdv A outer s H E).nox (iV st) (fK K g')):mD P w K mg base oE (k+1) f fd ps (cB K ps.length g):=by
 refine F.ok S (fun vs H Q E q=>?_) (fun cdv A outer s H vs Q E hr q=>?_)
 . obtain ⟨Z,qs,mu,r,mu',e,_⟩:=q; exact e
 . obtain ⟨g',eg,b⟩:=h cdv A outer s H E hr
   obtain ⟨Z,qs,mu,r,mu',e,hg,z,rl,c,hr',kk⟩:=q
   rw [eg] at hr'
   obtain ⟨fl,h1,h2⟩:=aa6 hr'
   refine ⟨_,b,km H (rC Z.g mu),Z,_,[],fl,yJ hg z rl c,h1,?_⟩
   cases fl with
   | rt r' ρ'=>
    cases h2
    intro v σ' H' s'
    obtain ⟨el,Z',hg',z',s''⟩:=s'.top
    refine kk v H' ⟨Z',hg',z',s''.sub ?_⟩
    exact (Zu _ _).cons_cons _
   | nx ρ'=>
    cases h2
    intro σ' H' s'
    obtain ⟨el,Z',hg',z',s''⟩:=s'
    exact kk .non H' ⟨Z',hg',z',(s''.sub (Zu _ _)).consS (xM _)⟩
   | bk ρ'=>cases h2
   | ct ρ'=>cases h2
theorem rN.ok {c:Addr} {m qual:Str} {st:Stmt} {N ps:List Str} {k:Nat} {g:GF} (F:rN K c m qual st ps) (S:bf N ps (aK st))
 (h:∀ (f:Addr) (cdv:Value) (A:Around) (outer:List PySem.Env) (s:Shared) (H:Hp) (E:XK),mC k (A.deeper (envOfC qual (aK st) s.heap.objs.size f cdv))->
   ∃ g':SF,(∀ a mu,g a mu=cM N.length g' a mu)/\iB (Oh oE P w K mg base N qual (aK st) f cdv A outer s H E).nox (iV st) (fK K g')):qp P w K mg base c m (k+1) ps (cB K ps.length g):=by
 obtain ⟨f,fd,F,h1,h2,hb⟩:=F
 exact ⟨f,fd,sV.okQ F S (h f),⟨h1,h2,F.kp⟩,hb⟩
end
section
variable {X:Cx}
noncomputable def dD (C m:Str) (g:GF) (fo:EF) (a:AF):EF:=fun ρ=>(fo ρ).bind fun x=>match x.1.pv with
 | .ptr n=>match x.2.mu[n]? with
  | some (some (.obj D ks _))=>if D=C/\ks.contains m=false then (a x.2).bind fun y=>(g (.ptr n::y.1.map Lc.pv) y.2.mu).map fun r=>(r.1,⟨y.2.vs,r.2⟩) else none
  | _=>none
 | _=>none
theorem CV {m:Str}:∀ {fs:List (Str×V)},(fs.map (·.1)).contains m=false->fs.lookup m=none
 | [],_=>rfl
 | (g,x)::r,h=>by
  rw [YT,List.contains_cons,Bool.or_eq_false_iff] at h
  rw [Zj,h.1]
  exact CV h.2
theorem Gf {C m:Str} {c:Addr} {g:GF} {fo:EF} {a:AF} {n':Nat} {E:XK} (T:ue X.K X.mg C c) (hn:∀ ρ ls ρ1,a ρ=some (ls,ρ1)->ls.length+1=n'):∀ σ H Q,tP X.K (dD C m g fo a) σ H Q->JR c m (cB X.K n' g) [] E (tP X.K fo) (jc X.K a) σ H Q:=fun σ H Q q=>by
 obtain ⟨H0,Z0,ρ,pd,l,ρ',s,h,k⟩:=q
 obtain ⟨x,h1,h2⟩:=aa6 h
 refine ⟨H0,Z0,ρ,pd,x.1,x.2,s,h1,fun v H1 s1=>?_⟩
 split at h2
 . rename_i n en
   split at h2
   . rename_i D ks ps em
     split at h2
     . rename_i eD
       obtain ⟨eD,hk⟩:=eD
       subst eD
       obtain ⟨y,h3,h4⟩:=aa6 h2
       obtain ⟨r,h5,h6⟩:=aa7 h4
       cases h6
       have s2:=s1.freeze
       rw [en] at s2
       obtain ⟨a',c',dx,fs,rfl,cn,hH,hks,_,_⟩:=s2.objAt em
       have:=J5 T.cn cn
       subst this
       refine ⟨a',dx,fs,rfl,hH,CV (by rw [hks]; exact hk),H0,Z0,x.2,_,y.1,y.2,s2,h3,fun vs H2 e2 s3=>?_⟩
       have s4:SR X.K H0 Z0 σ H2 y.2 ((V.ref a'::vs).zip (Lc.sh (.ptr n)::y.1)++pd):=s3.perm (by
        rw [ZQ,ZW]
        exact Zk.symm)
       obtain ⟨el,Z,hg,z,rl,sl'⟩:=s4.repl (by rw [YB,YB,e2])
       refine ⟨Z,.ptr n::y.1.map Lc.pv,y.2.mu,r.1,r.2,?_,hg,z.zh,?_,sl'.cells hg,h5,fun v H' rr=>k v H' (SR.called el hg z sl' rr)⟩
       . rw [YS,YB,e2]; exact hn _ _ _ h3
       . rw [YS]; exact rl
     . cases h2
   . cases h2
 . cases h2
theorem j7 {C m:Str} {c:Addr} {k:Nat} {ps:List Str} {g:GF} {fo:EF} {e o:Expr} {es:List Expr} {a:AF} {apos pos:Pos} {pl:Sem Bool} (T:ue X.K X.mg C c) (M:qp X.prog X.w X.K X.mg X.base c m k ps (cB X.K ps.length g)) (hr:mC k X.A) (ho:PE X o (tP X.K fo)) (ha:PA X (e::es) (jc X.K a)) (hn:∀ ρ ls ρ1,a ρ=some (ls,ρ1)->ls.length+1=ps.length)
 (hst:starEach (e::es) X.env=(false,eval e X.env)::starEach es X.env:=by rfl) (hpl:(backTo pos (starEach es X.env)).any (·.1)=false:=by rfl)
 (ht:eval (.Call (.Attribute o m apos) (e::es) [] pos) X.env=(do
   let ov ← eval o X.env
   standAt apos.atName
   let (f,first) ← holding [ov] (getMethod ov m pl)
   callWith pos f first (backTo pos (starEach (e::es) X.env)) (backToKw pos (keywordEach [] X.env))):=by rfl):PE X (.Call (.Attribute o m apos) (e::es) [] pos) (tP X.K (dD C m g fo a)):=by
 obtain ⟨f,fd,F,hm,hb⟩:=M
 exact PE.imp (Rm (pl:=pl) (E:=E0) ho T.cl hm F hr hb .nil zx ha hst hpl ht) (Gf T hn)
theorem VF {C m:Str} {c:Addr} {k:Nat} {ps:List Str} {g:GF} {fo:EF} {o:Expr} {apos pos:Pos} {pl:Sem Bool} (T:ue X.K X.mg C c) (M:qp X.prog X.w X.K X.mg X.base c m k ps (cB X.K ps.length g)) (hr:mC k X.A) (ho:PE X o (tP X.K fo)) (hn:1=ps.length)
 (ht:eval (.Call (.Attribute o m apos) [] [] pos) X.env=(do
   let ov ← eval o X.env
   standAt apos.atName
   let (f,first) ← holding [ov] (getMethod ov m pl)
   callWith pos f first (backTo pos (starEach [] X.env)) (backToKw pos (keywordEach [] X.env))):=by rfl):PE X (.Call (.Attribute o m apos) [] [] pos) (tP X.K (dD C m g fo ao)):=by
 obtain ⟨f,fd,F,hm,hb⟩:=M
 refine PE.imp (Oe (pl:=pl) (E:=E0) ho T.cl hm F hr hb .nil zx ht) fun σ H Q q=>?_
 have:=Gf (X:=X) (E:=E0) (a:=ao) (n':=ps.length) T (fun ρ ls ρ1 h=>by cases h; rw [← hn]; rfl) σ H Q q
 obtain ⟨H0,Z0,ρ,pd,l,ρ',s,h,k⟩:=this
 refine ⟨H0,Z0,ρ,pd,l,ρ',s,h,fun v H1 s1=>?_⟩
 obtain ⟨a,dx,fs,e1,e2,e3,H0',Z0',ρ2,pd2,ls,ρ3,s2,h2,k2⟩:=k v H1 s1
 cases h2
 exact ⟨a,dx,fs,e1,e2,e3,k2 [] H1 rfl s2⟩
theorem SR.toCell {a:Addr} {p:PV} (s:SR K H0 Z0 σ H ρ ((.ref a,.own p)::pd)):SR K H0 Z0 σ H ⟨ρ.vs,ρ.mu++[some p]⟩ ((.ref a,.sh (.ptr ρ.mu.length))::pd):=by
 obtain ⟨el,Z,hg,z,so⟩:=s.top
 have lz:iD Z ⟨Z.z,Z.g++[a]⟩:=⟨dG.refl _,aaN _ _⟩
 have so2:=so.step (Z':=⟨Z.z,Z.g++[a]⟩) (H':=H) lz fun e he b hb=>⟨rfl,(jb so he hb).1⟩
 refine .mk (Z:=⟨Z.z,Z.g++[a]⟩) el (by simp [hg]) ⟨z.zh,z.h0,z.z0.trans lz,z.new⟩ (Slots.consS ?_ ?_)
 . refine so2.perm ?_
   have ec:cel (Z.g++[a]) (ρ.mu++[some p])=cel Z.g ρ.mu++[(some (.ref a),some (.own p))]:=by
    unfold cel
    rw [Y6,Y6,Z5 (by simp [hg])]
    rfl
   unfold sl
   show List.Perm (cel (Z.g++[a]) (ρ.mu++[some p])++_) _
   rw [ec,Y0]
   exact Zk
 . unfold Rep
   exact ⟨a,rfl,by show (Z.g++[a])[ρ.mu.length]?=some a; rw [hg,YL (Yy _)]; simp⟩
noncomputable def tE (C:Str) (g:GF) (a:AF):EF:=fun ρ=>(a ρ).bind fun y=>(g (.ptr y.2.mu.length::y.1.map Lc.pv) (y.2.mu++[some (.obj C [] [])])).bind fun r=>match r.1 with
 | .sh .non=>some (.sh (.ptr y.2.mu.length),⟨y.2.vs,r.2⟩)
 | _=>none
def J6 (P:Program) (w:World) (K:FG) (mg:Str->Option Value) (base:Heap) (c:Addr) (k:Nat) (ps:List Str) (sp:Sp):Prop:=∃ f fd,mD P w K mg base oE k f fd ps sp/\Mk K c f/\Binds K fd ps []
theorem Pn {C:Str} {c:Addr} {g:GF} {a:AF} {n':Nat} {E:XK} (T:ue X.K X.mg C c) (hn:∀ ρ ls ρ1,a ρ=some (ls,ρ1)->ls.length+1=n'):∀ σ H Q,tP X.K (tE C g a) σ H Q->Qw c (cB X.K n' g) [] E (jc X.K a) σ H Q:=fun σ H Q q=>by
 obtain ⟨H0,Z0,ρ,pd,l,ρ',s,h,k⟩:=q
 obtain ⟨y,h1,h2⟩:=aa6 h
 obtain ⟨r,h3,h4⟩:=aa6 h2
 split at h4
 . rename_i er
   cases h4
   refine ⟨H0,Z0,ρ,pd,y.1,y.2,s,h1,fun vs H1 e1 s1 x dx hx hdx hne=>?_⟩
   have s2:SR X.K H0 Z0 σ (upd H1 dx (.own x)) y.2 (vs.zip y.1++pd):=s1.ext hdx
   have s3:SR X.K H0 Z0 σ (upd (upd H1 dx (.own x)) x (.ins c dx [])) y.2 ((.ref x,.own (.obj C [] []))::(vs.zip y.1++pd)):=s2.newO (by rw [cI hne.symm]; exact hx) fun Z _ _=>⟨c,dx,[],T.cn,bT,rfl,.nil⟩
   have s4:=s3.toCell
   have s5:SR X.K H0 Z0 σ (upd (upd H1 dx (.own x)) x (.ins c dx [])) ⟨y.2.vs,y.2.mu++[some (.obj C [] [])]⟩ ((.ref x,.sh (.ptr y.2.mu.length))::(.ref x,.sh (.ptr y.2.mu.length))::(vs.zip y.1++pd)):=s4.part fun Z _ r=>r
   have s6:SR X.K H0 Z0 σ (upd (upd H1 dx (.own x)) x (.ins c dx [])) ⟨y.2.vs,y.2.mu++[some (.obj C [] [])]⟩ ((V.ref x::vs).zip (Lc.sh (.ptr y.2.mu.length)::y.1)++(.ref x,.sh (.ptr y.2.mu.length))::pd):=s5.perm (by
    rw [ZQ,ZW]
    exact List.perm_middle.cons _)
   obtain ⟨el,Z,hg,z,rl,sl'⟩:=s6.repl (by rw [YB,YB,e1])
   refine ⟨Z,.ptr y.2.mu.length::y.1.map Lc.pv,y.2.mu++[some (.obj C [] [])],r.1,r.2,?_,hg,z.zh,?_,sl'.cells hg,h3,fun v H' rr=>?_⟩
   . rw [YS,YB,e1]; exact hn _ _ _ h1
   . rw [YS]; exact rl
   . have s7:=SR.called el hg z sl' rr
     rw [er] at s7
     obtain ⟨_,r0⟩:=s7.repH
     exact ⟨gD r0,k _ _ s7.pop⟩
 . cases h4
theorem QT {C:Str} {c:Addr} {k:Nat} {ps:List Str} {g:GF} {e:Expr} {es:List Expr} {a:AF} {p pos:Pos} (T:ue X.K X.mg C c) (M:J6 X.prog X.w X.K X.mg X.base c k ps (cB X.K ps.length g)) (hr:mC (k+1) X.A) (hg:Gl X C) (ha:PA X (e::es) (jc X.K a)) (hn:∀ ρ ls ρ1,a ρ=some (ls,ρ1)->ls.length+1=ps.length)
 (hdb:(C==("__debug__" : Str))=false:=by decide) (he:starEach (e::es) X.env=(false,eval e X.env)::starEach es X.env:=by rfl) (hpl:(backTo pos (starEach es X.env)).any (·.1)=false:=by rfl):PE X (.Call (.Name C p) (e::es) [] pos) (tP X.K (tE C g a)):=by
 obtain ⟨f,fd,F,hm,hb⟩:=M
 exact PE.imp (Rn (E:=E0) hm F hr hg T.mgC hb .nil zx ha hdb he hpl) (Pn T hn)
end
theorem gU {a:AF} {n m:Nat} (h:∀ ρ ls ρ1,a ρ=some (ls,ρ1)->ls.length=n) (e:n+1=m:=by rfl):∀ ρ ls ρ1,a ρ=some (ls,ρ1)->ls.length+1=m:=fun ρ ls ρ1 g=>by rw [h _ _ _ g,e]
theorem QV {P:Program} {w:World} {mg:Str->Option Value} {base:Heap} {c:Addr} {k:Nat} {ps:List Str} {sp:Sp} (h:qp P w K mg base c "__init__" k ps sp) (mk:W.makesIn K c=true) (kc:W.keepIn K (.ref c)=true):J6 P w K mg base c k ps sp:=by
 obtain ⟨f,fd,F,m,b⟩:=h
 exact ⟨f,fd,F,⟨mk,m.at_,m.fn,kc⟩,b⟩
end PL
namespace L2
open PySem PySem.Spec PyProof.Rows
variable {pins:List (Addr×Obj)} {E:Value->Shared->Prop} {s:Shared} {A:Around} {w:World} {P:Program}
section
variable {X:Cx}
def VG:V->List V->Hp->VK->Prop:=fun x vs H Q=>∃ l xs y j k,x=.ref l/\vs=[.int k,y]/\k=((j:Nat):Int)/\j<=xs.length/\H l=some (.lst xs)/\xs.length<100001/\Q .non (upd H l (.lst (xs.take j++y::xs.drop j)))
theorem sz:100001<sizeLine:=by decide
theorem fits {j n:Nat} (h:j<=n) (hz:n<100001):¬ (!Builtin.List.listFitsIndex ((j:Nat):Int))=true:=by
 unfold Builtin.List.listFitsIndex
 simp only [Bool.not_eq_true',Bool.not_eq_false,aag,decide_eq_true_eq]
 omega
theorem VH:QB X "list.insert" VG:=by
 intro pins s σ H x vs v us Q I rx rv h
 obtain ⟨l,xs,y,j,k,rfl,rfl,hk,hj,hH,hz,q⟩:=h
 cases rx
 cases rv with
 | cons r0 rv=>
  obtain ⟨u,rfl,ru⟩:=vals1 rv
  obtain ⟨t,rfl⟩:=r0
  obtain ⟨z,its,n,r,hl,e⟩:=I.lstM hH
  have hil:its.length=xs.length:=r.length.symm
  refine call_meets F.slot_list_insert ⟨_,e,rfl⟩ F.entry_list_insert (F.args_list_insert_3 _ _ _) (PySem.AutoSeq1.list_insert_list_int_val_1 l its.toArray n k t u (by rw [hk]; exact fits hj hz) (by rw [YH]; have:=sz; omega)) ⟨e,?_⟩
  refine ⟨.non,_,I.lset (its':=its.take j++u::its.drop j) hH e ?_ ?_ ?_,rfl,q⟩
  . have ek:(if k<0 then (k+((its.toArray.size:Nat):Int)).toNat else min k.toNat its.toArray.size)=j:=by
     rw [hk,aa0 (by omega),ZR,YH]
     omega
    dsimp only
    rw [ek]
    apply Array.toList_inj.mp
    simp
    rw [aam (by rw [aaA]; omega)]
  . exact (r.take j).append (.cons ru (r.drop j))
  . rw [YD,YB,aaf,aaA]; have:=sz; omega
end
end L2
namespace PL
open PySem PySem.Spec PyProof.Rows L2
variable {K:FG} {H0 H:Hp} {Z0:ZG} {σ:L2.St} {ρ:Ev} {pd:Pd}
section
variable {X:Cx}
theorem SR.insO {v:V} {l:Lc} {a:Addr} {ws:List PV} {j:Nat} (s:SR K H0 Z0 σ H ρ ((v,l)::(.ref a,.own (.lst ws))::pd)):
 ∃ us,H a=some (.lst us)/\us.length=ws.length/\SR K H0 Z0 σ (upd H a (.lst (us.take j++v::us.drop j))) ρ ((.ref a,.own (.lst (ws.take j++l.pv::ws.drop j)))::pd):=by
 obtain ⟨el,Z,hg,z,r,so⟩:=s.freeze.sh
 have so2:=so.perm bV.symm
 obtain ⟨b,eb,⟨us,hu,hr⟩,_⟩:=so2.1 _ Yv
 cases eb
 refine ⟨us,hu,hr.length,?_⟩
 obtain ⟨z',s'⟩:=so2.write (o:=.lst (us.take j++v::us.drop j)) (q:=.lst (ws.take j++l.pv::ws.drop j)) z ⟨_,bT,(hr.take j).append (aN.cons r (hr.drop j))⟩
 exact .mk el hg z' s'
noncomputable def Bu (i:Nat) (a:AF):SF:=fun ρ=>match ρ.vs[i]? with
 | some (some (.own (.lst _)))=>(a ρ).bind fun y=>match y.1,y.2.vs[i]? with
  | [lk,le],some (some (.own (.lst ws)))=>match lk with
   | .sh (.int k)=>if 0<=k/\k<=ws.length/\ws.length<100000 then some (.nx (y.2.set i (some (.own (.lst (ws.take k.toNat++le.pv::ws.drop k.toNat)))))) else none
   | _=>none
  | _,_=>none
 | _=>none
theorem VJ {i:Nat} {o z e:Expr} {a:AF} {apos cpos pos:Pos} (h:PS X (.Expr (.Call (.Attribute o "insert" apos) [z,e] [] cpos) pos) (uW (HH X.K "list" VG (pX i) (jc X.K a)))):
 PS X (.Expr (.Call (.Attribute o "insert" apos) [z,e] [] cpos) pos) (fK X.K (Bu i a)):=PS.imp h fun D σ H q=>by
 obtain ⟨H0,Z0,ρ,pd,fl,s,h,k⟩:=q
 unfold Bu at h
 split at h
 . rename_i ws0 e0
   obtain ⟨y,h1,h2⟩:=aa6 h
   obtain ⟨a',ea,⟨us,hu⟩,_⟩:=s.takeO e0
   refine ⟨.ref a',ea,.inl ⟨rfl,us,bU.of hu⟩,H0,Z0,ρ,pd,y.1,y.2,s,h1,fun vs H2 e2 s2=>?_⟩
   split at h2
   . rename_i lk le ws ey e3
     split at h2
     . rename_i kk
       split at h2
       . rename_i hz
         cases h2
         rw [ey] at e2 s2
         obtain ⟨v0,v1,rfl⟩:=ln2 e2
         have s2':SR X.K H0 Z0 σ H2 y.2 ((v0,.sh (.int kk))::(v1,le)::pd):=s2
         obtain ⟨_,_,_,_,r0,_⟩:=s2'.sh
         unfold Rep at r0
         subst r0
         obtain ⟨b',eb',_,s3⟩:=SR.takeO s2'.pop e3
         rw [ea] at eb'; cases eb'
         have s4:SR X.K H0 Z0 σ H2 (y.2.set i none) ((v1,le)::(.ref a',.own (.lst ws))::pd):=s3.swap
         obtain ⟨us2,hu2,hl,s5⟩:=s4.insO (j:=kk.toNat)
         refine ⟨a',us2,v1,kk.toNat,kk,rfl,rfl,by omega,by omega,hu2,by omega,k σ _ ?_⟩
         have s6:=s5.put ea
         rw [Ev.set_set] at s6
         exact s6
       . cases h2
     . cases h2
   . cases h2
 . cases h
end
end PL
namespace L2
open PySem PySem.Spec PyProof.Rows
variable {pins:List (Addr×Obj)} {E:Value->Shared->Prop} {s:Shared} {A:Around} {w:World} {P:Program}
section
variable {X:Cx}
noncomputable def pk {α:Type} (xs:List α) (lo hi st:Option Int):List α:=
 (sliceRange (sliceBounds lo hi st xs.length).1 (sliceBounds lo hi st xs.length).2.1 (sliceBounds lo hi st xs.length).2.2).filterMap fun i=>xs[i]?
end
end L2
namespace PL
open PySem PySem.Spec PyProof.Rows L2
variable {K:FG} {H0 H:Hp} {Z0:ZG} {σ:L2.St} {ρ:Ev} {pd:Pd}
section
variable {X:Cx}
theorem SR.lstAt {v:V} {n:Nat} {ps:List PV} (s:SR K H0 Z0 σ H ρ ((v,.sh (.ptr n))::pd)) (hm:ρ.mu[n]?=some (some (.lst ps))):
 ∃ a vs,v=.ref a/\H a=some (.lst vs)/\vs.length=ps.length/\∀ (i:Nat) p,ps[i]?=some p->∃ u,vs[i]?=some u/\SR K H0 Z0 σ H ρ ((u,.sh p)::(v,.sh (.ptr n))::pd):=by
 have sdup:SR K H0 Z0 σ H ρ ((v,.sh (.ptr n))::(v,.sh (.ptr n))::pd):=s.part fun Z _ r=>r
 obtain ⟨a,rfl,s5⟩:=sdup.cellO hm
 obtain ⟨el,Z,hg,z,so⟩:=s5.top
 obtain ⟨_,ea,⟨vs,hu,hr⟩,_⟩:=so.1 _ Yv
 cases ea
 refine ⟨a,vs,rfl,hu,hr.length,fun i p hp=>?_⟩
 obtain ⟨u,h1,h2⟩:=hr.get hp
 refine ⟨u,h1,?_⟩
 have s6:SR K H0 Z0 σ H ⟨ρ.vs,ρ.mu.set n none⟩ ((u,.sh p)::(.ref a,.own (.lst ps))::(.ref a,.sh (.ptr n))::(.ref a,.sh (.ptr n))::pd):=.mk (Z:=Z) el hg z ((so.perm bV).consS h2)
 have s7:SR K H0 Z0 σ H ⟨ρ.vs,ρ.mu.set n none⟩ ((.ref a,.own (.lst ps))::(.ref a,.sh (.ptr n))::(u,.sh p)::(.ref a,.sh (.ptr n))::pd):=s6.perm (((List.Perm.swap _ _ _).cons _).trans (List.Perm.swap _ _ _))
 exact SR.cellB (pe:=pd) hm s7
def Holds (o:Option Nat) (ps:List PV) (ρ:Ev):Prop:=∀ n,o=some n->ρ.mu[n]?=some (some (.lst ps))
abbrev Yn:=Ev->Option (Option Nat×List PV×Ev)
noncomputable def Ys (f:EF):Yn:=fun ρ=>(f ρ).bind fun x=>match x.1.pv with
 | .lst ps=>some (none,ps,x.2)
 | .ptr n=>match x.2.mu[n]? with
  | some (some (.lst ps))=>some (some n,ps,x.2)
  | _=>none
 | _=>none
open Classical in
noncomputable def nG (o:Option Nat) (ps:List PV) (b:BF) (body:SF):List PV->SF
 | [],ρ=>if Holds o ps ρ then some (.nx ρ) else none
 | x::xs,ρ=>if Holds o ps ρ then (b x ρ).bind fun ρ1=>(body ρ1).bind fun fl=>match fl with
  | .nx ρ'=>nG o ps b body xs ρ'
  | .ct ρ'=>nG o ps b body xs ρ'
  | .bk ρ'=>some (.nx ρ')
  | .rt r ρ'=>some (.rt r ρ') else none
theorem Mw {α:Type} {c:Prop} {_:Decidable c} {o:Option α} {r:α} (h:(if c then o else none)=some r):c/\o=some r:=by
 split at h
 . rename_i hc
   exact ⟨hc,h⟩
 . cases h
theorem R5 {o:Option Nat} {ps:List PV} {b:BF} {body:SF} {x:PV} {xs:List PV} {ρ ρ1 ρ2:Ev} {r:Fl} (hm:Holds o ps ρ) (e1:b x ρ=some ρ1) (e2:body ρ1=some (.nx ρ2)) (e3:nG o ps b body xs ρ2=some r):nG o ps b body (x::xs) ρ=some r:=by
 unfold nG
 rw [aaZ hm,e1]
 show (body ρ1).bind _=_
 rw [e2]
 exact e3
theorem Pq {o:Option Nat} {ps:List PV} {b:BF} {body:SF} (hm:Holds o ps ρ):nG o ps b body [] ρ=some (.nx ρ):=by
 unfold nG
 rw [aaZ hm]
noncomputable def sealV (i:Nat) (ρ:Ev):Option Ev:=match ρ.vs[i]? with
 | some (some (.own p))=>some ⟨ρ.vs.set i (some (.sh (.ptr ρ.mu.length))),ρ.mu++[some p]⟩
 | _=>none
noncomputable def rO (i:Nat) (f:SF):SF:=fun ρ=>(sealV i ρ).bind f
theorem SR.sealV {ρ ρ':Ev} {i:Nat} (s:SR K H0 Z0 σ H ρ pd) (h:PL.sealV i ρ=some ρ'):SR K H0 Z0 σ H ρ' pd:=by
 unfold PL.sealV at h
 split at h
 . rename_i p e0
   cases h
   obtain ⟨v,ea,s1⟩:=s.take e0
   obtain ⟨_,Z,_,z,so⟩:=s1.top
   obtain ⟨a,eb,_⟩:=so.1 _ Yv
   have eb':v=.ref a:=YW eb
   subst eb'
   have s2:=s1.toCell.put ea
   have e:(ρ.vs.set i none).set i (some (Lc.sh (.ptr ρ.mu.length)))=ρ.vs.set i (some (.sh (.ptr ρ.mu.length))):=ZD _
   have s3:SR K H0 Z0 σ H ⟨(ρ.vs.set i none).set i (some (Lc.sh (.ptr ρ.mu.length))),ρ.mu++[some p]⟩ pd:=s2
   rw [e] at s3
   exact s3
 . cases h
theorem Ik {i:Nat} {st:Stmt} {f:SF} (h:PS X st (fK X.K f)):PS X st (fK X.K (rO i f)):=PS.imp h fun D σ H q=>by
 obtain ⟨H0,Z0,ρ,pd,fl,s,h,k⟩:=q
 obtain ⟨ρ1,h1,h2⟩:=aa6 h
 exact ⟨H0,Z0,ρ1,pd,fl,s.sealV h1,h2,k⟩
end
noncomputable def aW (mu:Mu):Nat->PV->PV
 | 0,p=>p
 | k+1,.ptr n=>match mu[n]? with
  | some (some p)=>aW mu k p
  | _=>.ptr n
 | k+1,.tup ps=>.tup (ps.map (aW mu k))
 | k+1,.lst ps=>.lst (ps.map (aW mu k))
 | k+1,.dk ks ps=>.dk ks (ps.map (aW mu k))
 | _+1,p=>p
theorem rP {Z:ZG} {f:PV->PV} (hf:∀ p x,Rep K Z p x->Rep K Z (f p) x):∀ {ps:List PV} {vs:List V},aN K Z ps vs->aN K Z (ps.map f) vs
 | [],vs,h=>h
 | p::ps,vs,h=>by
  obtain ⟨v,r,rfl,h1,h2⟩:=h.inv
  exact aN.cons (hf p v h1) (rP hf h2)
theorem mL {Z:ZG} (so:Slots K H0 Z H (sl Z.g σ ρ pd)) (lz:iD Z ⟨H,Z.g⟩):∀ (k:Nat) (p:PV) (x:V),Rep K ⟨H,Z.g⟩ p x->Rep K ⟨H,Z.g⟩ (aW ρ.mu k p) x
 | 0,p,x,r=>r
 | k+1,p,x,r=>by
  cases p with
  | ptr n=>
   show Rep K ⟨H,Z.g⟩ (match ρ.mu[n]? with | some (some p)=>aW ρ.mu k p | _=>.ptr n) x
   split
   . rename_i q hq
     unfold Rep at r
     obtain ⟨a,rfl,ha⟩:=r
     have hc:(some (V.ref a),some (Lc.own q))∈cel Z.g ρ.mu:=Zq (zip_get (i:=n) (by rw [Y7,ha]; rfl) (by rw [Y7,hq]; rfl))
     obtain ⟨b,e1,e2,_,_⟩:=so.1 _ (Zv _ hc)
     cases e1
     exact mL so lz k q _ (e2.rep lz rfl)
   . exact r
  | tup ps=>
   show Rep K ⟨H,Z.g⟩ (.tup (ps.map (aW ρ.mu k))) x
   unfold Rep at r ⊢
   obtain ⟨a,vs,e,h1,h2⟩:=r
   exact ⟨a,vs,e,h1,rP (mL so lz k) h2⟩
  | lst ps=>
   show Rep K ⟨H,Z.g⟩ (.lst (ps.map (aW ρ.mu k))) x
   unfold Rep at r ⊢
   obtain ⟨a,vs,e,h1,h2⟩:=r
   exact ⟨a,vs,e,h1,rP (mL so lz k) h2⟩
  | dk ks ps=>
   show Rep K ⟨H,Z.g⟩ (.dk ks (ps.map (aW ρ.mu k))) x
   unfold Rep at r ⊢
   obtain ⟨a,vs,e,h1,h3,h2⟩:=r
   exact ⟨a,vs,e,h1,h3,rP (mL so lz k) h2⟩
  | _=>exact r
noncomputable def peekD (mu:Mu):Option Lc->Option Lc
 | some l=>some (.sh (aW mu 40 l.pv))
 | none=>none
noncomputable def Ev.peekD (ρ:Ev):Ev:=⟨ρ.vs.map (PL.peekD ρ.mu),ρ.mu.map fun _=>none⟩
theorem SR.lookD (s:SR K H0 Z0 σ H ρ pd):
 ∃ Zt,SR K H Zt σ H ρ.peekD []/\(∀ H' v r ρ1,SR K H Zt σ H' ρ1 [(v,r)]->tu r=true->SR K H0 Z0 σ H' ρ ((v,r)::pd))/\∀ H' ρ1,SR K H Zt σ H' ρ1 []->SR K H0 Z0 σ H' ρ pd:=by
 obtain ⟨Z,⟨el,hg,lz,so⟩,b1,b2⟩:=s.lookB
 refine ⟨_,SR.peeked (pk:=peekD ρ.mu) el hg fun v o he=>?_,b1,b2⟩
 have q:=so.1 _ (Zd _ (Zv _ he))
 match o,q with
 | none,_=>exact .inl rfl
 | some (.sh p),⟨x,e1,e2⟩=>exact .inr ⟨x,_,rfl,e1,mL so lz 40 _ _ (e2.mono lz)⟩
 | some (.own p),⟨a,e1,e2,_,_⟩=>exact .inr ⟨.ref a,_,rfl,e1,mL so lz 40 _ _ (e2.rep lz rfl)⟩
section
variable {X:Cx}
noncomputable def rQ (f:EF):EF:=fun ρ=>(f ρ.peekD).bind fun x=>if tu x.1=true then some (x.1,ρ) else none
noncomputable def pR (f:TF):TF:=fun ρ=>(f ρ.peekD).map fun x=>(x.1,ρ)
theorem Mx {e:Expr} {f:EF} (h:PE X e (tP X.K f)):PE X e (tP X.K (rQ f)):=PE.imp h fun σ H Q q=>by
 obtain ⟨H0,Z0,ρ,pd,r,ρ',s,h,k⟩:=q
 obtain ⟨x,h1,h2⟩:=aa6 h
 obtain ⟨Zt,s1,b1,_⟩:=s.lookD
 split at h2
 . rename_i hf
   cases h2
   exact ⟨H,Zt,ρ.peekD,[],x.1,x.2,s1,h1,fun v H' s2=>k v H' (b1 H' v x.1 x.2 s2 hf)⟩
 . cases h2
theorem Il {e:Expr} {f:TF} (h:PT X e (gG X.K f)):PT X e (gG X.K (pR f)):=PT.imp h fun σ H Q q=>by
 obtain ⟨H0,Z0,ρ,pd,r,ρ',s,h,k⟩:=q
 obtain ⟨x,h1,h2⟩:=aa7 h
 cases h2
 obtain ⟨Zt,s1,_,b2⟩:=s.lookD
 exact ⟨H,Zt,ρ.peekD,[],x.1,x.2,s1,h1,fun H' s2=>k H' (b2 H' x.2 s2)⟩
theorem Gg {f:EF} {l:Lc} {ρ ρ1:Ev} (h:f ρ.peekD=some (l,ρ1)) (hf:tu l=true):rQ f ρ=some (l,ρ):=by
 unfold rQ
 rw [h,Yu,aaZ hf]
noncomputable def xR (fo:EF):EF:=fun ρ=>(fo ρ).bind fun o=>match o.1.pv with
 | .ptr n=>match o.2.mu[n]? with
  | some (some (.lst ws))=>(ws[ws.length-1]?).map fun p=>(.sh p,⟨o.2.vs,o.2.mu.set n (some (.lst ws.dropLast))⟩)
  | _=>none
 | _=>none
theorem W5 {o:Expr} {fo:EF} {apos cpos:Pos} (h:PE X (.Call (.Attribute o "pop" apos) [] [] cpos) (UW X.K "list" U3 (tP X.K fo))):PE X (.Call (.Attribute o "pop" apos) [] [] cpos) (tP X.K (xR fo)):=PE.imp h fun σ H Q q=>by
 obtain ⟨H0,Z0,ρ,pd,r,ρ',s,h,k⟩:=q
 obtain ⟨o',h1,h2⟩:=aa6 h
 refine ⟨H0,Z0,ρ,pd,o'.1,o'.2,s,h1,fun v H1 s1=>?_⟩
 split at h2
 . rename_i n en
   split at h2
   . rename_i ws em
     obtain ⟨p,h3,h4⟩:=aa7 h2
     cases h4
     have s2:=s1.freeze
     rw [en] at s2
     obtain ⟨a,rfl,s5⟩:=s2.cellO em
     obtain ⟨_,Z,_,z,so⟩:=s5.top
     obtain ⟨_,ea,⟨us,hu,_⟩,_⟩:=so.1 _ Yv
     cases ea
     obtain ⟨us2,y,hu2,hy,s6⟩:=s5.popO h3
     have hn:n<o'.2.mu.length:=(YF.mp em).1
     have s7:=(s6.perm (pd':=(.ref a,.own (.lst ws.dropLast))::(.ref a,.sh (.ptr n))::(y,.sh p)::pd) ((List.Perm.swap _ _ _).cons _)).cellP (by show (o'.2.mu.set n none)[n]?=_; rw [YM hn])
     refine ⟨.inl ⟨rfl,us,bU.of hu⟩,a,us2,y,rfl,rfl,hu2,hy,k _ _ ?_⟩
     have e8:(o'.2.mu.set n none).set n (some (.lst ws.dropLast))=o'.2.mu.set n (some (.lst ws.dropLast)):=ZD ..
     rw [show (⟨o'.2.vs,o'.2.mu.set n (some (.lst ws.dropLast))⟩:Ev)=⟨o'.2.vs,(o'.2.mu.set n none).set n (some (.lst ws.dropLast))⟩ by rw [e8]]
     exact s7
   . cases h2
 . cases h2
theorem Pu {H0:Hp} {a:Addr} {ps:List PV}:nj K H0 Z0 ((.ref a,.sh (.lst ps))::pd) (Vb K a ps.length) ps.reverse:=by
 intro σ H ρ i s
 obtain ⟨Z,z,r⟩:=s.rep
 unfold Rep at r
 obtain ⟨b,vs,e,h1,h2⟩:=r
 cases e
 have hq:=bU.same z h1
 refine ⟨fun x hx=>?_,fun hl=>⟨by rw [hl,aaI],vs,hq,h2.length⟩⟩
 have hi:i<ps.length:=by
  have:=(YF.mp hx).1
  rwa [aaI] at this
 have hx':ps[ps.length-1-i]?=some x:=by rw [← List.getElem?_reverse hi]; exact hx
 refine ⟨⟨hi,vs,hq,h2.length⟩,fun v' H' y=>?_⟩
 obtain ⟨e',y⟩:=y
 subst e'
 refine s.part fun Z' z' r'=>?_
 unfold Rep at r'
 obtain ⟨b',vs',e',h1',h2'⟩:=r'
 cases e'
 obtain ⟨p',hp',rp'⟩:=h2'.getV (y vs' (bU.same z' h1'))
 rw [hx'] at hp'
 cases hp'
 exact rp'
noncomputable def Ed (f:EF):IF:=fun ρ=>(f ρ).bind fun x=>match x.1.pv with
 | .lst ps=>some (ps.reverse,x.2)
 | _=>none
theorem VL {tg a:Expr} {f:EF} {p pos:Pos} (hg:Gl X "reversed") (hm:X.mg "reversed" = none) (ha:PA X [a] (jc X.K (aj f ao))) (hs:starEach [a] X.env=[(false,eval a X.env)]:=by rfl):PI X tg (.Call (.Name "reversed" p) [a] [] pos) (zN X.K (Ed f)):=PI.imp (Vc hg hm ha hs) fun σ H R q=>by
 obtain ⟨H0,Z0,ρ,pd,xs,ρ',s,h,k⟩:=q
 obtain ⟨x,h1,h2⟩:=aa6 h
 refine ⟨H0,Z0,ρ,pd,[x.1],x.2,s,?_,fun vs H1 e1 s1=>?_⟩
 . unfold aj ao
   rw [h1]
   rfl
 . obtain ⟨v,rfl⟩:=yo e1
   have s2:SR X.K H0 Z0 σ H1 x.2 ((v,.sh x.1.pv)::pd):=SR.freeze s1
   cases e:x.1.pv with
   | lst ps=>
    rw [e] at h2 s2
    cases h2
    obtain ⟨Z,z,r⟩:=s2.rep
    unfold Rep at r
    obtain ⟨b,us,rfl,h1',h2'⟩:=r
    refine ⟨b,us,rfl,bU.same z h1',?_⟩
    rw [h2'.length]
    exact k _ _ _ s2 Pu (YJ _ _)
   | _=>rw [e] at h2; cases h2
noncomputable def isAny (p:PV):List String->Option Bool
 | []=>(QS p).map fun _=>false
 | C::r=>match wV p C with
  | some true=>some true
  | some false=>isAny p r
  | none=>none
theorem kI {p:PV} {T:String} (h1:QS p=some T):∀ {Cs:List String} {b:Bool},isAny p Cs=some b->W.kitAny K (.type T) (Cs.map Value.type)=some b
 | [],b,h=>by
  unfold isAny at h
  rw [h1] at h
  exact h
 | C::r,b,h=>by
  unfold isAny at h
  show (match W.kitOne K (.type T) (.type C) with | some true=>some true | some false=>W.kitAny K (.type T) (r.map Value.type) | none=>none)=some b
  cases e:wV p C with
  | none=>rw [e] at h; cases h
  | some c=>
   rw [e] at h
   rw [mK h1 e]
   cases c with
   | true=>exact h
   | false=>exact kI h1 h
def VM (K:FG):List V->Hp->VK->Prop:=fun xs H Q=>∃ x t Cs g p b,xs=[x,.ref t]/\H t=some (.tup (Cs.map V.ty))/\Rep K ⟨H,g⟩ p x/\isAny p Cs=some b/\Q (.bl b) H
theorem Im:∀ {Cs:List String} {its:List Value},Vals (Cs.map V.ty) its->its=Cs.map Value.type
 | [],its,h=>by cases h; rfl
 | C::r,its,h=>by
  cases h with
  | cons a b=>cases a; rw [Im b]; rfl
theorem Gh:lZ X (.builtin "isinstance") (VM X.K):=by
 intro pins s σ H xs us Q I r h
 obtain ⟨x,t,Cs,g,p,b,rfl,ht,rp,e,q⟩:=h
 obtain ⟨u,w',rfl,ru,rw'⟩:=vals2 r
 cases rw'
 have fin:∀ tk,EP X pins σ Q (.bool b) { s with toks:=tk }:=fun tk=>⟨.bl b,H,I.tok tk,rfl,q⟩
 obtain ⟨its,rv,⟨o,hp,hc,n,hd⟩,_⟩:=I.tuple (cQ.of ht)
 have ei:=Im rv
 subst ei
 obtain ⟨oc,od,oD,os⟩:=o
 have hc':oc=.type "tuple" := hc
 have hd':oD=.seq (Cs.map Value.type).toArray n:=hd
 subst hc' hd'
 cases p with
 | non=>have:=gD rp; subst this; cases ru; exact aaO W.kitx_none I.kIn trivial hp (kI rfl e) (by intro z; cases z) fin
 | bl c=>have:=dg rp; subst this; cases ru; exact aaO W.kitx_bool I.kIn trivial hp (kI rfl e) (by intro z; cases z) fin
 | int i=>have:=bI rp; subst this; obtain ⟨t,rfl⟩:=ru; exact aaO W.kitx_int I.kIn trivial hp (kI rfl e) (by intro z; cases z) fin
 | str i=>have:=dj rp; subst this; obtain ⟨t,rfl⟩:=ru; exact aaO W.kitx_str I.kIn trivial hp (kI rfl e) (by intro z; cases z) fin
 | tup ps=>
  obtain ⟨a,vs,its,rfl,_,_,_,o,t1,t2,_⟩:=ux I rp ru
  exact aaO (t:=.type "tuple") W.kitx_tuple I.kIn ⟨o,t1,t2⟩ hp (kI rfl e) (by intro z; cases z) fin
 | lst ps=>
  obtain ⟨a,vs,its,rfl,_,_,_,o,t1,t2,_⟩:=uy I rp ru
  exact aaO (t:=.type "list") W.kitx_list I.kIn ⟨o,t1,t2⟩ hp (kI rfl e) (by intro z; cases z) fin
 | _=>cases Cs<;>cases e
noncomputable def Px (Cs:List String) (f:EF):EF:=fun ρ=>(f ρ).bind fun x=>(isAny x.1.pv Cs).map fun b=>(.sh (.bl b),x.2)
noncomputable def Py:List String->TA
 | []=>Eo
 | C::r=>xH (tC (.ty C)) (Py r)
theorem Gi {Q:List V->Hp->Prop} {H:Hp}:∀ {Cs:List String},Q (Cs.map V.ty) H->Py Cs σ H Q
 | [],h=>h
 | C::r,h=>Gi (Q:=fun xs H2=>Q (V.ty C::xs) H2) (Cs:=r) h
theorem Ye {Cs:List String} {f:EF} {e c:Expr} {pp pos:Pos} (h:PE X (.Call (.Name "isinstance" pp) [e,c] [] pos) (Cr (VM X.K) (xH (tP X.K f) (xH (Uv (Py Cs)) Eo)))) (hc:Cs.length<=1000:=by decide):
 PE X (.Call (.Name "isinstance" pp) [e,c] [] pos) (tP X.K (Px Cs f)):=PE.imp h fun σ H Q q=>by
 obtain ⟨H0,Z0,ρ,pd,r,ρ',s,h,k⟩:=q
 obtain ⟨x,h1,h2⟩:=aa6 h
 obtain ⟨b,h3,h4⟩:=aa7 h2
 cases h4
 refine ⟨H0,Z0,ρ,pd,x.1,x.2,s,h1,fun v H1 s1=>?_⟩
 refine Gi (Cs:=Cs) ⟨by rw [Yw]; exact small (by omega),fun t ht=>?_⟩
 have s2:=s1.freeze
 obtain ⟨el,Z,hg,z,r1,so⟩:=s2.sh
 obtain ⟨z',lz,so'⟩:=(so.consS r1).newF z (a:=t) (o:=.tup (Cs.map V.ty)) ht
 have s3:SR X.K H0 Z0 σ (upd H1 t (.tup (Cs.map V.ty))) x.2 ((v,.sh x.1.pv)::pd):=.mk (Z:=Z.put t (.tup (Cs.map V.ty))) el hg z' so'
 obtain ⟨g,r2⟩:=s3.repH
 exact ⟨v,t,Cs,g,_,b,rfl,bT,r2,h3,k _ _ (s3.pop.scal eQ)⟩
noncomputable def Gj (f:EF) (fl fh:OF):EF:=fun ρ=>(f ρ).bind fun x=>(fl x.2).bind fun y=>(fh y.2).bind fun z=>match x.1.pv with
 | .tup ps=>if HT.sIx ps.length 0 y.1=0/\HT.sIx ps.length ps.length z.1=ps.length then none else some (.sh (.tup (jl ps y.1 z.1)),z.2)
 | _=>none
theorem R6 {e:Expr} {lo hi:Option Expr} {p2 pos:Pos} {f:EF} {fl fh:OF} (he:PE X e (tP X.K f)) (hl:PO X lo (CJ X.K fl)) (hu:PO X hi (CJ X.K fh)):PE X (.Subscript e (.Slice lo hi none p2) pos) (tP X.K (Gj f fl fh)):=PE.imp (yF Ux he hl hu) fun σ H Q q=>by
 obtain ⟨H0,Z0,ρ,pd,r,ρ',s,h,k⟩:=q
 obtain ⟨x,h1,h2⟩:=aa6 h
 obtain ⟨y,h3,h4⟩:=aa6 h2
 obtain ⟨z,h5,h6⟩:=aa6 h4
 refine ⟨H0,Z0,ρ,pd,x.1,x.2,s,h1,fun v H1 s1=>⟨H0,Z0,x.2,_,y.1,y.2,s1.freeze,h3,fun H2 s2=>⟨H0,Z0,y.2,_,z.1,z.2,s2,h5,fun H3 s3=>?_⟩⟩⟩
 cases e:x.1.pv with
 | tup ps=>
  rw [e] at h6 s3
  have h6:(if HT.sIx ps.length 0 y.1=0/\HT.sIx ps.length ps.length z.1=ps.length then none else some (Lc.sh (.tup (jl ps y.1 z.1)),z.2))=some (r,ρ'):=h6
  split at h6
  . cases h6
  . rename_i hw
    cases h6
    obtain ⟨el,Z,hg,zz,r1,s4⟩:=s3.sh
    unfold Rep at r1
    obtain ⟨a,vs,rfl,g1,g2⟩:=r1
    refine ⟨a,vs,rfl,cQ.same zz.zh g1,by rw [g2.length]; exact hw,fun p hp=>k _ _ ?_⟩
    obtain ⟨z',lz,s'⟩:=s4.newF zz (a:=p) (o:=.tup (mF vs y.1 z.1)) hp
    refine .mk (Z:=Z.put p (.tup (mF vs y.1 z.1))) el hg z' (s'.consS ?_)
    unfold Rep
    exact ⟨p,_,rfl,cQ.of bT,g2.cut.mono lz⟩
 | _=>rw [e] at h6; cases h6
noncomputable def vY:Bool->List PV->PV
 | true,ps=>.lst ps
 | false,ps=>.tup ps
theorem zZ {Z:ZG} {k:Bool} {ps:List PV} {v:V} (r:Rep K Z (vY k ps) v):∃ a vs,v=.ref a/\lJ k K Z.z a vs/\aN K Z ps vs:=by
 cases k
 . unfold vY Rep at r; exact r
 . unfold vY Rep at r; exact r
theorem lJ.same {Z Z':Hp} {k:Bool} {a:Addr} {vs:List V} (s:dG Z Z') (h:lJ k K Z a vs):lJ k K Z' a vs:=by
 cases k
 . exact cQ.same s h
 . exact bU.same s h
theorem My {H0:Hp} {k:Bool} {a b:Addr} {ps qs:List PV}:nj K H0 Z0 ((.ref a,.sh (vY k ps))::(.ref b,.sh (vY k qs))::pd) (J2 k K a b) (j0 ps qs):=by
 intro σ H ρ i s
 obtain ⟨el,Z,hg,z,rl,so⟩:=SR.repl (vs:=[.ref a,.ref b]) (ls:=[.sh (vY k ps),.sh (vY k qs)]) (pd:=pd) s rfl
 obtain ⟨_,_,ev,r,rl⟩:=rl.inv
 cases ev
 obtain ⟨_,_,ev,r',_⟩:=rl.inv
 cases ev
 have r0:Rep K Z (vY k ps) (.ref a):=r
 have r0':Rep K Z (vY k qs) (.ref b):=r'
 obtain ⟨a',vs,e,h1,h2⟩:=zZ r0
 obtain ⟨b',ws,e',h1',h2'⟩:=zZ r0'
 cases e
 cases e'
 have hq:=lJ.same z.zh h1
 have hr:=lJ.same z.zh h1'
 refine ⟨fun x hx=>?_,fun hl=>⟨vs,ws,hq,hr,?_⟩⟩
 . obtain ⟨p,q,hp,hq',rfl⟩:=Gb hx
   obtain ⟨v,hv,rv⟩:=h2.get hp
   obtain ⟨u,hu,ru⟩:=h2'.get hq'
   refine ⟨⟨vs,ws,v,u,hq,hr,hv,hu⟩,fun v' H' y=>?_⟩
   obtain ⟨T,y1,y2,hT,rfl,rfl,hy1,hy2⟩:=y
   have e1:=hy1 vs hq
   rw [hv] at e1
   cases e1
   have e2:=hy2 ws hr
   rw [hu] at e2
   cases e2
   obtain ⟨z',lz,so'⟩:=((so.consS r0').consS r0).newF z (a:=T) (o:=.tup [v,u]) hT
   refine .mk (Z:=Z.put T (.tup [v,u])) el hg z' (Slots.perm (Slots.consS so' ?_) ((bV.trans (bV.cons _)).cons _))
   unfold Rep
   exact ⟨T,[v,u],rfl,.inl (.inl (by show upd Z.z T _ T=_; rw [bT])),aN.cons (rv.mono lz) (aN.cons (ru.mono lz) .nil)⟩
 . rw [Ge] at hl
   rw [h2.length,h2'.length]
   omega
noncomputable def wX (f g:EF):IF:=fun ρ=>(f ρ).bind fun x=>(g x.2).bind fun y=>match x.1.pv,y.1.pv with
 | .lst ps,.lst qs=>some (j0 ps qs,y.2)
 | .tup ps,.tup qs=>some (j0 ps qs,y.2)
 | _,_=>none
theorem R7 {α:Type} {p q:PV} {w r:α} {zs:List PV} (h:(match p,q with
 | .lst ps,.lst qs=>some (j0 ps qs,w)
 | .tup ps,.tup qs=>some (j0 ps qs,w)
 | _,_=>none)=some (zs,r)):∃ k ps qs,p=vY k ps/\q=vY k qs/\zs=j0 ps qs/\w=r:=by
 split at h
 . rename_i ps qs; cases h; exact ⟨true,ps,qs,rfl,rfl,rfl,rfl⟩
 . rename_i ps qs; cases h; exact ⟨false,ps,qs,rfl,rfl,rfl,rfl⟩
 . cases h
theorem Io {a b:Expr} {f g:EF} {p pos:Pos} {elts:List Expr} {x1} {tpos:Pos} (hg:Gl X "zip") (hm:X.mg "zip" = none) (ha:PA X [a,b] (jc X.K (aj f (aj g ao)))) (hs:starEach [a,b] X.env=(false,eval a X.env)::starEach [b] X.env:=by rfl) (hs2:(backTo pos (starEach [b] X.env)).any (·.1)=false:=by rfl):PI X (.Tuple elts x1 tpos) (.Call (.Name "zip" p) [a,b] [] pos) (zN X.K (wX f g)):=PI.imp (HQ hg hm ha hs hs2) fun σ H R q=>by
 obtain ⟨H0,Z0,ρ,pd,xs,ρ',s,h,k⟩:=q
 obtain ⟨x,h1,h2⟩:=aa6 h
 obtain ⟨y,h3,h4⟩:=aa6 h2
 refine ⟨H0,Z0,ρ,pd,[x.1,y.1],y.2,s,?_,fun vs H1 e1 s1=>?_⟩
 . unfold aj ao
   rw [h1]
   simp only [Yu,h3,Z4]
 . obtain ⟨v,u,rfl⟩:=ln2 e1
   have s2:SR X.K H0 Z0 σ H1 y.2 ((v,.sh x.1.pv)::(u,.sh y.1.pv)::pd):=SR.freezeAll (vs:=[v,u]) (ls:=[x.1,y.1]) s1
   obtain ⟨kk,ps,qs,e,e',rfl,rfl⟩:=R7 h4
   rw [e,e'] at s2
   obtain ⟨Z,z,r,r'⟩:=s2.rep2
   obtain ⟨b',us,rfl,g1',g2'⟩:=zZ r
   obtain ⟨a',vs',rfl,g1,g2⟩:=zZ r'
   exact ⟨kk,a',b',rfl,⟨_,lJ.same z g1⟩,⟨_,lJ.same z g1'⟩,k _ _ _ s2 My ((YJ _ _).cons _)⟩
noncomputable def fW (g:GF) (a:AF):EF:=fun ρ=>(a ρ).bind fun y=>(g ((y.1.map Lc.pv).map (aW y.2.mu 40)) (y.2.mu.map fun _=>none)).bind fun r=>if tu r.1=true then some (r.1,y.2) else none
theorem Aa {Z:ZG} {L:Sl} (h:∀ e∈L,e.2=none):Slots K H0 Z H L:=by
 refine ⟨fun e he=>?_,?_⟩
 . obtain ⟨v,l⟩:=e
   have:l=none:=h _ he
   subst this
   trivial
 . have:L.filterMap kj=[]:=by
    rw [List.filterMap_eq_nil_iff]
    intro e he
    obtain ⟨v,l⟩:=e
    have:l=none:=h _ he
    subst this
    cases v with
    | none=>rfl
    | some x=>cases x<;>rfl
   rw [this]
   exact aaq
theorem Gk {g:List Addr} {mu:Mu}:∀ e∈cel g (mu.map fun _=>none),e.2=none:=fun e he=>by
 obtain ⟨v,l⟩:=e
 obtain ⟨_,h2⟩:=ZZ he
 obtain ⟨o,ho,e2⟩:=YZ.mp h2
 obtain ⟨o',_,e3⟩:=YZ.mp ho
 subst e3
 exact e2.symm
theorem Mz {n:Nat} {g:GF} {a:AF} {E:XK} (hn:∀ ρ ls ρ1,a ρ=some (ls,ρ1)->ls.length=n):∀ σ H Q,tP X.K (fW g a) σ H Q->JQ (cB X.K n g) [] E (jc X.K a) σ H Q:=fun σ H Q q=>by
 obtain ⟨H0,Z0,ρ,pd,r,ρ',s,h,k⟩:=q
 obtain ⟨y,h1,h2⟩:=aa6 h
 obtain ⟨⟨r1,mu'⟩,h3,h4⟩:=aa6 h2
 split at h4
 . rename_i hf
   cases h4
   refine ⟨H0,Z0,ρ,pd,y.1,y.2,s,h1,fun vs H2 e2 s2=>?_⟩
   have s3:=s2.freezeAll
   obtain ⟨Z,⟨el,hg,lz,so⟩,b1,_⟩:=s3.lookB
   have hm:(y.1.map fun l=>Lc.sh l.pv)=(y.1.map Lc.pv).map fun p=>Lc.sh p:=by rw [Zc]; rfl
   have so0:=so
   rw [hm] at so0
   have rl:aN X.K Z (y.1.map Lc.pv) vs:=Slots.repl (by simpa using e2) (so0.perm Fe.symm)
   have rl2:=rP (mL so lz 40) (rl.mono lz)
   have z1:jR H2 ⟨H2,Z.g⟩ ⟨H2,Z.g⟩ H2:=⟨dG.refl _,dG.refl _,iD.refl _,fun b o e=>.inl e⟩
   have hs:Slots X.K H2 ⟨H2,Z.g⟩ H2 (sl Z.g σ ⟨y.2.vs.map fun _=>none,y.2.mu.map fun _=>none⟩ []):=Aa fun e he=>by
    rcases ZK.mp he with he | he
    . exact Gk e he
    . rw [aap,YS] at he
      obtain ⟨v,l⟩:=e
      obtain ⟨o,_,e3⟩:=YZ.mp (ZZ he).2
      exact e3.symm
   refine ⟨⟨H2,Z.g⟩,(y.1.map Lc.pv).map (aW y.2.mu 40),y.2.mu.map fun _=>none,r1,mu',?_,by simpa using hg,dG.refl _,?_,Aa Gk,h3,fun v H' rr=>k v H' ?_⟩
   . rw [YS,e2]; exact hn _ _ _ h1
   . rw [YS]; exact rl2
   . have s4:=SR.called (ρ:=⟨y.2.vs.map fun _=>none,y.2.mu.map fun _=>none⟩) (Z:=⟨H2,Z.g⟩) (by simpa using el) (by simpa using hg) z1 hs rr
     exact (b1 H' v r1 _ s4 hf).sub ((aac _ _).cons_cons _)
 . cases h4
theorem uI {x:Str} {k:Nat} {ps:List Str} {g:GF} {e:Expr} {es:List Expr} {a:AF} {p pos:Pos} (D:cg X.prog X.w X.K X.mg X.base x k ps (cB X.K ps.length g)) (hr:mC k X.A) (hg:Gl X x)
 (ha:PA X (e::es) (jc X.K a)) (hn:∀ ρ ls ρ1,a ρ=some (ls,ρ1)->ls.length=ps.length) (hdb:(x==("__debug__" : Str))=false:=by decide) (he:starEach (e::es) X.env=(false,eval e X.env)::starEach es X.env:=by rfl) (hpl:(backTo pos (starEach es X.env)).any (·.1)=false:=by rfl):PE X (.Call (.Name x p) (e::es) [] pos) (tP X.K (fW g a)):=by
 obtain ⟨f,fd,F,hm,hk,hb⟩:=D
 exact PE.imp (Hy (E:=E0) F hr hg hm hk hb .nil zx ha hdb he hpl) (Mz hn)
theorem Gm {G:GF} {a:AF} {ρ ρ1:Ev} {ls:List Lc} {ps:List PV} {r:Lc} {mu:Mu} (h:a ρ=some (ls,ρ1)) (hp:(ls.map Lc.pv).map (aW ρ1.mu 40)=ps) (h2:G ps (ρ1.mu.map fun _=>none)=some (r,mu)) (hf:tu r=true):fW G a ρ=some (r,ρ1):=by
 unfold fW
 rw [h,Yu,hp,h2,Yu,aaZ hf]
end
class HK where
 hk:List dH->Int
noncomputable def okP:PV->Option dH
 | .non=>some none
 | .int i=>some (some (.inl i))
 | .str x=>some (some (.inr x))
 | _=>none
noncomputable def rR:List PV->Option (List dH)
 | []=>some []
 | p::ps=>(okP p).bind fun k=>(rR ps).map (k::·)
theorem VN {Z:ZG} {p:PV} {v:V} {k:dH} (h:okP p=some k) (r:Rep K Z p v):v=sX k:=by
 cases p with
 | non=>cases h; exact gD r
 | int i=>cases h; exact bI r
 | str x=>cases h; exact dj r
 | _=>cases h
theorem vA {Z:ZG}:∀ {ps:List PV} {vs:List V} {ks:List dH},rR ps=some ks->aN K Z ps vs->vs=ks.map sX
 | [],vs,ks,h,r=>by
  cases h
  exact r.inv0
 | p::ps,vs,ks,h,r=>by
  obtain ⟨v,r',rfl,h1,h2⟩:=r.inv
  obtain ⟨k,g1,g2⟩:=aa6 h
  obtain ⟨t,g3,g4⟩:=aa7 g2
  cases g4
  rw [VN g1 h1,vA g3 h2]
  rfl
abbrev Yo:=List (List dH×PV)
noncomputable def mO:Yo->List dH->Option PV
 | [],_=>none
 | kv::r,k=>if kv.1=k then some kv.2 else mO r k
theorem J7 {x:List dH×Addr×V} {xs:XD} {k:List dH}:jL (x::xs) k=if x.1=k then some x.2.2 else jL xs k:=by
 unfold jL
 by_cases e:x.1=k
 . rw [aay (by simpa using e),aaZ e]; rfl
 . rw [aaz (by simpa using e),aa0 e]
theorem yQ {Z:ZG} {k:List dH}:∀ {xs:XD} {ps:List PV},aN K Z ps (xs.map (·.2.2))->(∀ p,mO ((xs.map (·.1)).zip ps) k=some p->∃ v,jL xs k=some v/\Rep K Z p v)/\(mO ((xs.map (·.1)).zip ps) k=none->jL xs k=none)
 | [],ps,h=>⟨fun p e=>(by cases e),fun _=>rfl⟩
 | x::xs,[],h=>by have:=h.inv0; cases this
 | x::xs,p::ps,h=>by
  obtain ⟨v,r,e,h1,h2⟩:=h.inv
  rw [YT] at e
  injection e with e1 e2
  subst e1 e2
  have ih:=yQ (k:=k) h2
  rw [J7]
  show (∀ q,(if x.1=k then some p else mO ((xs.map (·.1)).zip ps) k)=some q->_)/\((if x.1=k then some p else mO ((xs.map (·.1)).zip ps) k)=none->_)
  by_cases e:x.1=k
  . rw [aaZ e,aaZ e]
    exact ⟨fun q hq=>by cases hq; exact ⟨_,rfl,h1⟩,fun hq=>by cases hq⟩
  . rw [aa0 e,aa0 e]
    exact ih
theorem SR.setX {v kb:V} {p:PV} {kp:List PV} {a:Addr} {hk:List dH->Int} {ks:List (List dH)} {ps:List PV} {k:List dH} (s:SR K H0 Z0 σ H ρ ((v,.sh p)::(kb,.sh (.tup kp))::(.ref a,.own (.dx hk ks ps))::pd)) (ek:rR kp=some k):
 ∃ b xs,kb=.ref b/\H a=some (.ext (uv hk a xs))/\(∀ x∈xs,cQ K H x.2.1 (x.1.map sX))/\cQ K H b (k.map sX)/\xs.length=ks.length/\
  (mO (ks.zip ps) k=none->jL xs k=none/\SR K H0 Z0 σ (upd H a (.ext (uv hk a (xs++[(k,b,v)])))) ρ ((.ref a,.own (.dx hk (ks++[k]) (ps++[p])))::(v,.sh p)::pd))/\
  (∀ q,mO (ks.zip ps) k=some q->∃ u,jL xs k=some u/\SR K H0 Z0 σ H ρ ((u,.sh q)::(.ref a,.own (.dx hk ks ps))::pd)):=by
 obtain ⟨el,Z,hg,z,r,so⟩:=s.sh
 have so1:=so.perm bV.symm
 obtain ⟨x,e1,rk⟩:=so1.1 _ Yv
 cases e1
 unfold Rep at rk
 obtain ⟨b,ws,rfl,hb,rw'⟩:=rk
 have ew:=vA ek rw'
 subst ew
 have so2:Slots K H0 Z H (sl Z.g σ ρ ((.ref a,.own (.dx hk ks ps))::pd)):=so1.sub (YJ _ _)
 have so3:=so2.perm bV.symm
 obtain ⟨_,eb,⟨xs,hu,hk1,hk2,hr⟩,_⟩:=so3.1 _ Yv
 cases eb
 subst hk1
 have hv:=yQ (k:=k) hr
 refine ⟨b,xs,rfl,hu,fun x hx=>cQ.same z.zh (hk2 x hx),cQ.same z.zh hb,by rw [Yw],fun hn=>⟨hv.2 hn,?_⟩,fun q hq=>?_⟩
 . have so4:Slots K H0 Z H ((some (.ref a),some (.own (.dx hk (xs.map (·.1)) ps)))::(some v,some (.sh p))::sl Z.g σ ρ pd):=(so3.consS r).perm (List.Perm.swap _ _ _)
   obtain ⟨z',s'⟩:=so4.write (o:=.ext (uv hk a (xs++[(k,b,v)]))) (q:=.dx hk (xs.map (·.1)++[k]) (ps++[p])) z ⟨xs++[(k,b,v)],bT,by rw [Y6]; rfl,(fun x hx=>(by
    rcases ZK.mp hx with hx | hx
    . exact hk2 x hx
    . rw [ZX.mp hx]
      exact hb)),by rw [Y6]; exact hr.append (aN.cons r .nil)⟩
   exact .mk el hg z' (s'.perm (bV.symm.cons _).symm)
 . obtain ⟨u,e,ru⟩:=hv.1 q hq
   exact ⟨u,e,.mk el hg z (so2.consS ru)⟩
theorem SR.takeX {i:Nat} {hk:List dH->Int} {ks:List (List dH)} {ps:List PV} (s:SR K H0 Z0 σ H ρ pd) (e:ρ.vs[i]?=some (some (.own (.dx hk ks ps)))):
 ∃ a xs,σ[i]?=some (some (.ref a))/\H a=some (.ext (uv hk a xs))/\SR K H0 Z0 σ H (ρ.set i none) ((.ref a,.own (.dx hk ks ps))::pd):=by
 obtain ⟨v,e1,s1⟩:=s.take e
 obtain ⟨_,Z,_,z,so⟩:=s1.top
 obtain ⟨a,ea,⟨xs,hu,_⟩,_⟩:=so.1 _ Yv
 have ea':v=.ref a:=YW ea
 subst ea'
 exact ⟨a,xs,e1,hu,s1⟩
theorem SR.seal {v:V} {p:PV} (s1:SR K H0 Z0 σ H ρ ((v,.own p)::pd)):SR K H0 Z0 σ H ⟨ρ.vs,ρ.mu++[some p]⟩ ((v,.sh (.ptr ρ.mu.length))::pd):=by
 obtain ⟨el,Z,hg,z,so⟩:=s1.top
 obtain ⟨a,ea,ra,za,ha0⟩:=so.1 _ Yv
 have ea':v=.ref a:=YW ea
 subst ea'
 have lz:iD Z ⟨Z.z,Z.g++[a]⟩:=⟨dG.refl _,aaN _ _⟩
 have so2:=so.step (Z':=⟨Z.z,Z.g++[a]⟩) (H':=H) lz fun e he b hb=>⟨rfl,(jb so he hb).1⟩
 refine .mk (Z:=⟨Z.z,Z.g++[a]⟩) el (by simp [hg]) ⟨z.zh,z.h0,z.z0.trans lz,z.new⟩ (Slots.consS ?_ ?_)
 . refine so2.perm ?_
   have ec:cel (Z.g++[a]) (ρ.mu++[some p])=cel Z.g ρ.mu++[(some (.ref a),some (.own p))]:=by
    unfold cel
    rw [Y6,Y6,Z5 (by simp [hg])]
    rfl
   unfold sl
   show List.Perm (cel (Z.g++[a]) (ρ.mu++[some p])++_) _
   rw [ec,Y0]
   exact Zk
 . unfold Rep
   exact ⟨a,rfl,by show (Z.g++[a])[ρ.mu.length]?=some a; rw [hg,YL (Yy _)]; simp⟩
theorem Ev.set_self {i:Nat} {l:Option Lc} (e:ρ.vs[i]?=some l):ρ.set i l=ρ:=by
 show Ev.mk (ρ.vs.set i l) ρ.mu=ρ
 obtain ⟨hi,he⟩:=YF.mp e
 rw [← he,List.set_getElem_self]
section
variable {X:Cx} [HK]
noncomputable def MF:EF:=fun ρ=>some (.own (.dx HK.hk [] []),ρ)
theorem VP (hx:HK.hk=zH X.prog X.w) {pos:Pos}:PE X (.Dict [] [] pos) (tP X.K MF):=PE.imp OJ fun σ H Q q=>by
 obtain ⟨H0,Z0,ρ,pd,l,ρ',s,f,k⟩:=q
 cases f
 exact fun p hp=>k _ _ (s.newO hp fun Z _ _=>⟨[],by rw [bT,hx]; rfl,rfl,(fun x hx=>(by cases hx)),aN.nil⟩)
open Classical in
noncomputable def tG (i:Nat) (fk:EF):EF:=fun ρ=>match ρ.vs[i]? with
 | some (some (.own (.dx _ _ _)))=>(fk ρ).bind fun y=>match y.1.pv,y.2.vs[i]? with
  | .tup kp,some (some (.own (.dx hk ks ps)))=>(rR kp).bind fun k=>if hk=HK.hk/\ks.length<100000 then
   (match mO (ks.zip ps) k with
   | some p=>some (.sh p,y.2)
   | none=>some (.sh (.ptr y.2.mu.length),⟨y.2.vs.set i (some (.own (.dx hk (ks++[k]) (ps++[.ptr y.2.mu.length])))),y.2.mu++[some (.lst [])]⟩))
   else none
  | _,_=>none
 | _=>none
theorem W6 {i:Nat} {o e1 e2:Expr} {fk:EF} {apos cpos:Pos} (hx:HK.hk=zH X.prog X.w) (h:PE X (.Call (.Attribute o "setdefault" apos) [e1,e2] [] cpos) (fun σ H Q=>pX i σ H fun x H1=>(∃ a hk xs,x=.ref a/\H1 a=some (.ext (uv hk a xs)))/\jc X.K (aj fk (aj (bW ao) ao)) σ H1 fun vs H2=>LK X.prog X.w X.K x vs H2 Q)):
 PE X (.Call (.Attribute o "setdefault" apos) [e1,e2] [] cpos) (tP X.K (tG i fk)):=PE.imp h fun σ H Q q=>by
 obtain ⟨H0,Z0,ρ,pd,r,ρ',s,h,k⟩:=q
 unfold tG at h
 split at h
 . rename_i hk0 ks0 ps0 e0
   obtain ⟨y,h1,h2⟩:=aa6 h
   obtain ⟨a,xs,ea,hu,_⟩:=s.takeX e0
   refine ⟨.ref a,ea,⟨a,hk0,xs,rfl,hu⟩,H0,Z0,ρ,pd,[y.1,.own (.lst [])],y.2,s,?_,fun vs H2 e2 s2=>?_⟩
   . unfold aj ao bW
     simp [h1]
   . obtain ⟨v1,v2,rfl⟩:=ln2 e2
     have s2':SR X.K H0 Z0 σ H2 y.2 ((v1,y.1)::(v2,.own (.lst []))::pd):=s2
     split at h2
     . rename_i kp hk ks ps e3 e4
       obtain ⟨kk,ek,h3⟩:=aa6 h2
       split at h3
       . rename_i hc
         obtain ⟨hc1,hc2⟩:=hc
         subst hc1
         have s3:=s2'.freeze
         rw [e3] at s3
         cases hv:mO (ks.zip ps) kk with
         | some p=>
          rw [hv] at h3
          cases h3
          obtain ⟨a',xs',ea',hu',s4⟩:=s3.swap.freeze.takeX e4
          rw [ea] at ea'; cases ea'
          have s5:=s4.perm (pd':=(v2,.sh (.lst []))::(v1,.sh (.tup kp))::(.ref a,.own (.dx HK.hk ks ps))::pd) (Z6 (l₁:=[(v2,Lc.sh (.lst [])),(v1,.sh (.tup kp))]) (l₂:=[(.ref a,.own (.dx HK.hk ks ps))]) |>.append_right pd)
          obtain ⟨b,xs2,rfl,g1,g2,g3,g4,_,g6⟩:=s5.setX ek
          obtain ⟨u,eu,s6⟩:=g6 p hv
          refine ⟨a,b,xs2,kk,v2,rfl,rfl,by rw [g1]; unfold dX; rw [hx],g2,g3,by rw [g4,sizeLine_eq]; omega,?_⟩
          rw [eu]
          have s7:=s6.swap.put ea
          rw [Ev.set_set,Ev.set_self e4] at s7
          exact k _ _ s7
         | none=>
          rw [hv] at h3
          cases h3
          have s3a:=s3.swap.seal
          obtain ⟨a',xs',ea',hu',s4⟩:=s3a.takeX (i:=i) (hk:=HK.hk) (ks:=ks) (ps:=ps) e4
          rw [ea] at ea'; cases ea'
          have s5:=s4.perm (pd':=(v2,.sh (.ptr y.2.mu.length))::(v1,.sh (.tup kp))::(.ref a,.own (.dx HK.hk ks ps))::pd) (Z6 (l₁:=[(v2,Lc.sh (.ptr y.2.mu.length)),(v1,.sh (.tup kp))]) (l₂:=[(.ref a,.own (.dx HK.hk ks ps))]) |>.append_right pd)
          obtain ⟨b,xs2,rfl,g1,g2,g3,g4,g5,_⟩:=s5.setX ek
          obtain ⟨eu,s6⟩:=g5 hv
          refine ⟨a,b,xs2,kk,v2,rfl,rfl,by rw [g1]; unfold dX; rw [hx],g2,g3,by rw [g4,sizeLine_eq]; omega,?_⟩
          rw [eu]
          have s7:=s6.put ea
          rw [Ev.set_set] at s7
          have e9:(.ext (uv (zH X.prog X.w) a (xs2++[(kk,b,v2)])):HO)=dX X.prog X.w a (xs2++[(kk,b,v2)]):=rfl
          rw [← e9,← hx]
          exact k _ _ s7
       . cases h3
     . cases h2
 . cases h
open Classical in
noncomputable def Ab (fo fk:EF):EF:=fun ρ=>(fo ρ).bind fun x=>match x.1.pv with
 | .dx hk ks ps=>(fk x.2).bind fun y=>match y.1.pv with
  | .tup kp=>(rR kp).bind fun k=>if hk=HK.hk then some (match mO (ks.zip ps) k with | some p=>.sh p | none=>.own (.lst []),y.2) else none
  | _=>none
 | _=>none
theorem W7 {o e1 e2:Expr} {fo fk:EF} {apos cpos:Pos} (hx:HK.hk=zH X.prog X.w) (h:PE X (.Call (.Attribute o "get" apos) [e1,e2] [] cpos) (fun σ H Q=>tP X.K fo σ H fun x H1=>(∃ a hk xs,x=.ref a/\H1 a=some (.ext (uv hk a xs)))/\jc X.K (aj fk (aj (bW ao) ao)) σ H1 fun vs H2=>QF X.prog X.w X.K x vs H2 Q)):
 PE X (.Call (.Attribute o "get" apos) [e1,e2] [] cpos) (tP X.K (Ab fo fk)):=PE.imp h fun σ H Q q=>by
 obtain ⟨H0,Z0,ρ,pd,r,ρ',s,h,k⟩:=q
 obtain ⟨x,h1,h2⟩:=aa6 h
 refine ⟨H0,Z0,ρ,pd,x.1,x.2,s,h1,fun v H1 s1=>?_⟩
 split at h2
 . rename_i hk ks ps e0
   obtain ⟨y,h3,h4⟩:=aa6 h2
   have s2:=s1.freeze
   rw [e0] at s2
   have s2c:=s2
   obtain ⟨el,Z,hg,z,rd,so⟩:=s2.sh
   unfold Rep at rd
   obtain ⟨a,xs,rfl,g1,g2,g3,g4⟩:=rd
   refine ⟨⟨a,hk,xs,rfl,z.zh _ _ g1⟩,H0,Z,x.2,pd,[y.1,.own (.lst [])],y.2,⟨el,Z,hg,⟨z.zh,z.h0,iD.refl Z,fun b o e=>.inl e⟩,so⟩,?_,fun vs H2 e2 s3=>?_⟩
   . unfold aj ao bW
     simp [h3]
   . obtain ⟨v1,v2,rfl⟩:=ln2 e2
     have s3':SR X.K H0 Z σ H2 y.2 ((v1,y.1)::(v2,.own (.lst []))::pd):=s3
     split at h4
     . rename_i kp e3
       obtain ⟨kk,ek,h5⟩:=aa6 h4
       split at h5
       . rename_i hc
         subst hc
         cases h5
         have s4:=s3'.freeze
         rw [e3] at s4
         obtain ⟨el2,Z2,hg2,z2,rk,so2⟩:=s4.sh
         unfold Rep at rk
         obtain ⟨b,ws,rfl,hb,rw'⟩:=rk
         have ew:=vA ek rw'
         subst ew
         subst g2
         have hv:=yQ (k:=kk) g4
         refine ⟨a,b,xs,kk,v2,rfl,rfl,?_,fun x hx=>cQ.same z2.zh (cQ.same z2.z0.1 (g3 x hx)),cQ.same z2.zh hb,?_⟩
         . rw [z2.zh _ _ (z2.z0.1 _ _ g1),hx]
           rfl
         have zz:jR H0 Z0 Z2 H2:=⟨z2.zh,z2.h0,z.z0.trans z2.z0,fun b o e=>by
          rcases z2.new b o e with q | q
          . exact z.new b o q
          . exact .inr q⟩
         cases hl:mO ((xs.map (·.1)).zip ps) kk with
         | some p=>
          obtain ⟨u,eu,ru⟩:=hv.1 p hl
          rw [eu]
          rw [hl] at k
          refine k _ _ (.mk el2 hg2 zz ((so2.perm bV.symm).sub (YJ _ _) |>.consS (ru.mono z2.z0)))
         | none=>
          rw [hv.2 hl]
          rw [hl] at k
          exact k _ _ (.mk el2 hg2 zz (so2.perm bV.symm))
       . cases h5
     . cases h4
 . cases h2
noncomputable def meltL:Mu->List PV->Option (List PV×Mu)
 | mu,[]=>some ([],mu)
 | mu,.ptr n::ps=>match mu[n]? with
  | some (some q)=>(meltL (mu.set n none) ps).map fun r=>(q::r.1,r.2)
  | _=>none
 | _,_=>none
theorem Slots.meltL {R:Sl}:∀ {ps qs:List PV} {mu mu':Mu} {vs:List V} {Z:ZG},PL.meltL mu ps=some (qs,mu')->aN K Z ps vs->mu.length=Z.g.length->jR H0 Z0 Z H->Slots K H0 Z H (cel Z.g mu++R)->
 ∃ Z',iD Z Z'/\Z'.g=Z.g/\jR H0 Z0 Z' H/\Slots K H0 Z' H (cel Z'.g mu'++R)/\aN K Z' qs vs/\mu'.length=mu.length
 | [],qs,mu,mu',vs,Z,h,r,hg,z,so=>by
  cases h
  exact ⟨Z,iD.refl Z,rfl,z,so,r,rfl⟩
 | p::ps,qs,mu,mu',vs,Z,h,r,hg,z,so=>by
  cases p with
  | ptr n=>
   unfold PL.meltL at h
   split at h
   . rename_i q hm
     obtain ⟨t,h1,h2⟩:=aa7 h
     cases h2
     obtain ⟨v,vr,rfl,r1,r2⟩:=r.inv
     unfold Rep at r1
     obtain ⟨a,rfl,ha⟩:=r1
     obtain ⟨C,p1,p2⟩:=wQ ha hm
     have so2:Slots K H0 Z H ((some (.ref a),some (.own q))::(C++R)):=so.perm (p1.append_right _).symm
     obtain ⟨Z1,lz,eg,z1,so3⟩:=so2.freeze z
     obtain ⟨x,ex,rx⟩:=so3.1 _ Yv
     cases ex
     have so4:Slots K H0 Z1 H (C++R):=so3.sub (YJ _ _)
     have so5:Slots K H0 Z1 H ((some (.ref a),none)::(C++R)):=by
      refine ⟨fun e he=>?_,?_⟩
      . rcases YC.mp he with rfl | he
        . trivial
        . exact so4.1 e he
      . rw [Zm rfl]; exact so4.2
     have so6:Slots K H0 Z1 H (cel Z1.g (mu.set n none)++R):=by
      rw [eg]
      exact so5.perm ((p2 none).append_right _)
     obtain ⟨Z2,lz2,eg2,z2,so7,r7,l7⟩:=Slots.meltL h1 (r2.mono lz) (by rw [eg]; simpa using hg) z1 so6
     exact ⟨Z2,lz.trans lz2,eg2.trans eg,z2,so7,aN.cons (rx.mono lz2) r7,by simpa using l7⟩
   . cases h
  | _=>cases h
noncomputable def Ac (f:EF):EF:=fun ρ=>(f ρ).bind fun x=>match x.1.pv with
 | .dx hk ks ps=>(meltL x.2.mu ps).map fun r=>(.sh (.dx hk ks r.1),⟨x.2.vs,r.2⟩)
 | _=>none
theorem VV {e:Expr} {f:EF} (h:PE X e (tP X.K f)):PE X e (tP X.K (Ac f)):=PE.imp h fun σ H Q q=>by
 obtain ⟨H0,Z0,ρ,pd,l,ρ',s,f,k⟩:=q
 obtain ⟨x,h1,h2⟩:=aa6 f
 refine ⟨H0,Z0,ρ,pd,x.1,x.2,s,h1,fun v H1 s1=>?_⟩
 split at h2
 . rename_i hk ks ps e0
   obtain ⟨r,h3,h4⟩:=aa7 h2
   cases h4
   have s2:=s1.freeze
   rw [e0] at s2
   obtain ⟨el,Z,hg,z,rd,so⟩:=s2.sh
   unfold Rep at rd
   obtain ⟨a,xs,rfl,g1,g2,g3,g4⟩:=rd
   obtain ⟨Z2,lz,eg,z2,so2,r2,l2⟩:=Slots.meltL (R:=σ.zip x.2.vs++pd.map fun e=>(some e.1,some e.2)) h3 g4 hg z so
   refine k _ H1 (.mk (Z:=Z2) el (by rw [eg]; simpa [l2] using hg) z2 (Slots.consS so2 ?_))
   unfold Rep
   exact ⟨a,xs,rfl,lz.1 _ _ g1,g2,fun x hx=>cQ.same lz.1 (g3 x hx),r2⟩
 . cases h2
end
section
variable {X:Cx}
theorem qw (i:Nat) {x:Str} {pos:Pos} (hN:X.N[i]?=some x:=by rfl) (hv:KR X.env.scope x:=by first | exact Or.inl rfl | exact Or.inr (Or.inl rfl) | exact Or.inr (Or.inr rfl)) (hd:(x==("__debug__" : Str))=false:=by decide) (hcd:(x==("__classdict__" : Str))=false:=by decide):PE X (.Name x pos) (tP X.K (aa i)):=qv (pv i hN hv hd hcd)
theorem aM {i:Int} {j} {pos:Pos}:PE X (.Constant (.int i) j pos) (tP X.K (eC (.int i))):=qc TY eN
theorem dF {i:Str} {j} {pos:Pos}:PE X (.Constant (.str i) j pos) (tP X.K (eC (.str i))):=qc T4 uw
theorem Gn {j} {pos:Pos}:PE X (.Constant .none j pos) (tP X.K (eC .non)):=qc T3 xM
theorem qI {a:Expr} {i:Int} {j} {p pos:Pos} {fa:EF} (ha:PE X a (tP X.K fa)):PE X (.Subscript a (.Constant (.int i) j p) pos) (tP X.K (aF fa (eC (.int i)))):=iU ha aM (fun _ _=>rfl)
theorem qL {e:Expr} {f:EF} {p pos:Pos} (b:X.mg "len" = none) (h:PE X e (tP X.K f)) (hg:Gl X "len" := by rfl) (h0:starEach [e] X.env=(false,eval e X.env)::starEach [] X.env:=by rfl):PE X (.Call (.Name "len" p) [e] [] pos) (tP X.K (eB cF (aj f ao))):=uD iC Ml (cu iC hg b ZF (ak h au h0) (he:=h0))
theorem cU (i:Nat) {x:Str} {e:Expr} {pos pos':Pos} {f:EF} (hN:X.N.Nodup) (he:PE X e (tP X.K f)) (hi:X.N[i]?=some x:=by rfl) (hx:L2.Loc X.env.scope x:=by exact Or.inl rfl) (hs:swapsWith e (some (.Name x pos')) pos.line X.env=pure false:=by rfl) (hf:X.fn x=true\/X.env.scope.names.lookup x=some .local:=by first | exact .inl rfl | exact .inr rfl | assumption):
 PS X (.Assign [.Name x pos'] e pos) (fK X.K (aL i f)):=zM hN hi hx he hs hf
theorem d9 (i:Nat) {x:Str} {pos:Pos} (hN:X.N.Nodup) (hi:X.N[i]?=some x:=by rfl) (hx:L2.Loc X.env.scope x:=by exact Or.inl rfl) (hf:X.fn x=true\/X.env.scope.names.lookup x=some .local:=by first | exact .inl rfl | exact .inr rfl | assumption):PG X (.Name x pos) (DG i):=Be hN hi hx hf
theorem uJ {M F:List Str} {ixs:List Nat} {sc:Scope} (S:Scope) (hS:X.env.scope=S:=by rfl) (kind:sc.kind=.function:=by rfl) (locs:∀ y∈sc.names,y.2=.local->sc.names.lookup y.1=some .local:=by decide +kernel) (cel:∀ y∈sc.names,y.2=.cell->sc.names.lookup y.1=some .cell:=by decide +kernel)
 (own:∀ p∈sc.names,p.2=.free->S.names.lookup p.1=some .cell\/S.names.lookup p.1=some .free:=by decide +kernel) (frs:∀ x∈F,sc.names.lookup x=some .free:=by decide +kernel) (ix:ixs.map (fun i=>X.N[i]?)=F.map some:=by rfl):iZ X M F ixs sc:=W3 S hS kind locs cel own frs ix
theorem vB {i:Nat} {o e:Expr} {f:EF} {apos cpos pos:Pos} (ho:PE X o (pX i)) (he:PE X e (tP X.K f)) (h0:starEach [e] X.env=(false,eval e X.env)::starEach [] X.env:=by rfl) (h1:attributeBase o "append" X.env (eval o X.env)=eval o X.env:=by rfl)
 (h2:((backTo cpos (starEach [e] X.env)).all (fun x=>!x.1)&&(backToKw cpos (keywordEach [] X.env)).all (fun x=>x.1.isSome)
   && decide (([e]:List Expr).length+([]:List Keyword).length+(if ([]:List Keyword).isEmpty then 0 else 1)<30))=true:=by rfl) (h3:(apos.endLine==cpos.line)=true:=by rfl) (hs:swapsWith (.Call (.Attribute o "append" apos) [e] [] cpos) none pos.line X.env=pure false:=by rfl):
 PS X (.Expr (.Call (.Attribute o "append" apos) [e] [] cpos) pos) (fK X.K (ig i f)):=Vp (iw (m9 F.plainAttrs_list F.slot_list_append F.type_list_append iY ho (ak he au h0) h1 h2 h3 h0) hs)
theorem Gp {i:Nat} {o e:Expr} {f:EF} {apos cpos pos:Pos} (ho:PE X o (pX i)) (he:PE X e (tP X.K f)) (h0:starEach [e] X.env=(false,eval e X.env)::starEach [] X.env:=by rfl) (h1:attributeBase o "extend" X.env (eval o X.env)=eval o X.env:=by rfl)
 (h2:((backTo cpos (starEach [e] X.env)).all (fun x=>!x.1)&&(backToKw cpos (keywordEach [] X.env)).all (fun x=>x.1.isSome)
   && decide (([e]:List Expr).length+([]:List Keyword).length+(if ([]:List Keyword).isEmpty then 0 else 1)<30))=true:=by rfl) (h3:(apos.endLine==cpos.line)=true:=by rfl) (hs:swapsWith (.Call (.Attribute o "extend" apos) [e] [] cpos) none pos.line X.env=pure false:=by rfl):
 PS X (.Expr (.Call (.Attribute o "extend" apos) [e] [] cpos) pos) (fK X.K (nq i f)):=Vq (iw (m9 F.plainAttrs_list F.slot_list_extend F.type_list_extend zG ho (ak he au h0) h1 h2 h3 h0) hs)
end
inductive XR (α:Type) where
 | ok (a:α)
 | xc (C:Str) (ρ:Ev)
section
variable {X:Cx} {E:XK}
end
section
variable {P:Program} {w:World} {K:FG} {mg:Str->Option Value} {base:Heap}
end
section
variable {X:Cx} {E:XK}
end
section
variable {X:Cx}
end
section
variable {P:Program} {w:World} {K:FG} {mg:Str->Option Value} {base:Heap}
end
section
variable {X:Cx} {E:XK}
end
section
variable {K:FG} {H0 H:Hp} {Z0:ZG} {σ:L2.St} {ρ:Ev} {pd:Pd}
end
section
variable {X:Cx} {E:XK}
end
section
variable {X:Cx}
theorem SR.dkAt {v:V} {n:Nat} {ks:List Key} {ps:List PV} (s:SR K H0 Z0 σ H ρ ((v,.sh (.ptr n))::pd)) (hm:ρ.mu[n]?=some (some (.dk ks ps))):
 ∃ a kvs,v=.ref a/\H a=some (.dK kvs)/\(∀ k p,cH (ks.zip ps) k=some p->∃ u,kh kvs k=some u/\SR K H0 Z0 σ H ρ ((u,.sh p)::(v,.sh (.ptr n))::pd))/\(∀ k,cH (ks.zip ps) k=none->kh kvs k=none)/\
  ∀ b,H b=none->SR K H0 Z0 σ (upd H b (.dK kvs)) ρ ((.ref b,.own (.dk ks ps))::(v,.sh (.ptr n))::pd):=by
 have sdup:SR K H0 Z0 σ H ρ ((v,.sh (.ptr n))::(v,.sh (.ptr n))::pd):=s.part fun Z _ r=>r
 obtain ⟨a,rfl,s5⟩:=sdup.cellO hm
 obtain ⟨el,Z,hg,z,so⟩:=s5.top
 obtain ⟨_,ea,⟨kvs,hu,hk,hr⟩,_⟩:=so.1 _ Yv
 cases ea
 refine ⟨a,kvs,rfl,hu,fun k p hp=>?_,fun k hp=>(iW hk hr).val.2 hp,fun b hb=>?_⟩
 . obtain ⟨u,h1,h2⟩:=(iW hk hr).val.1 p hp
   refine ⟨u,h1,?_⟩
   have s6:SR K H0 Z0 σ H ⟨ρ.vs,ρ.mu.set n none⟩ ((u,.sh p)::(.ref a,.own (.dk ks ps))::(.ref a,.sh (.ptr n))::(.ref a,.sh (.ptr n))::pd):=.mk (Z:=Z) el hg z ((so.perm bV).consS h2)
   have s7:SR K H0 Z0 σ H ⟨ρ.vs,ρ.mu.set n none⟩ ((.ref a,.own (.dk ks ps))::(.ref a,.sh (.ptr n))::(u,.sh p)::(.ref a,.sh (.ptr n))::pd):=s6.perm (((List.Perm.swap _ _ _).cons _).trans (List.Perm.swap _ _ _))
   exact SR.cellB (pe:=pd) hm s7
 . obtain ⟨z',s'⟩:=(so.perm bV).new (o:=.dK kvs) (p:=.dk ks ps) z hb ⟨kvs,bT,hk,hr⟩
   have s6:SR K H0 Z0 σ (upd H b (.dK kvs)) ⟨ρ.vs,ρ.mu.set n none⟩ ((.ref b,.own (.dk ks ps))::(.ref a,.own (.dk ks ps))::(.ref a,.sh (.ptr n))::(.ref a,.sh (.ptr n))::pd):=.mk (Z:=Z) el hg z' s'
   have s7:SR K H0 Z0 σ (upd H b (.dK kvs)) ⟨ρ.vs,ρ.mu.set n none⟩ ((.ref a,.own (.dk ks ps))::(.ref a,.sh (.ptr n))::(.ref b,.own (.dk ks ps))::(.ref a,.sh (.ptr n))::pd):=s6.perm (((List.Perm.swap _ _ _).cons _).trans (List.Perm.swap _ _ _))
   exact SR.cellB (pe:=pd) hm s7
noncomputable def jO (fa fb:EF):EF:=fun ρ=>(fa ρ).bind fun x=>(fb x.2).bind fun y=>match x.1.pv,qd y.1.pv with
 | .ptr n,some k=>match y.2.mu[n]? with
  | some (some (.dk ks ps))=>(cH (ks.zip ps) k).map fun p=>(.sh p,y.2)
  | _=>none
 | _,_=>none
theorem Gq {a b:Expr} {pos:Pos} {fa fb:EF} (hu:X.A.units+1<cLine) (ha:PE X a (tP X.K fa)) (hb:PE X b (tP X.K fb)) (hm:xJ b):PE X (.Subscript a b pos) (tP X.K (jO fa fb)):=PE.imp (JV (HN hu) ha hb hm) fun σ H Q q=>by
 obtain ⟨H0,Z0,ρ,pd,l,ρ',s,f,k⟩:=q
 obtain ⟨x,h1,h2⟩:=aa6 f
 obtain ⟨y,h3,h4⟩:=aa6 h2
 refine ⟨H0,Z0,ρ,pd,x.1,x.2,s,h1,fun v H1 s1=>⟨H0,Z0,x.2,_,y.1,y.2,s1,h3,fun w H2 s2=>?_⟩⟩
 have s3:=s2.freeze.swap.freeze.swap
 split at h4
 . rename_i n kk en ek
   split at h4
   . rename_i ks ps em
     obtain ⟨p,h5,h6⟩:=aa7 h4
     cases h6
     obtain ⟨_,rw'⟩:=s3.repH
     have ew:=qQ ek rw'
     have s4:=s3.pop
     rw [en] at s4
     obtain ⟨a',kvs,rfl,e1,g1,_,_⟩:=s4.dkAt em
     obtain ⟨u,hu',s5⟩:=g1 kk p h5
     exact ⟨a',u,rfl,.inl ⟨kvs,kk,.inl e1,ew,hu'.symm⟩,k u H2 (s5.sub ((YJ _ _).cons_cons _))⟩
   . cases h4
 . cases h4
theorem V1 (hu:X.A.units+1<cLine):fB X (compareOp .In) (fun x y H Q=>∃ a o,y=.ref a/\Bj H a x o/\Q (.bl o.isSome) H):=by
 intro pins s σ H x y v u Q I rx ry h
 obtain ⟨a,o,rfl,g,q⟩:=h
 obtain rfl:u=Value.ref a:=ry
 exact X3 hu I g rx fun s3 I3=>⟨.bl o.isSome,H,I3,rfl,q⟩
noncomputable def Bv (fa fb:EF):EF:=fun ρ=>(fa ρ).bind fun x=>(fb x.2).bind fun y=>match y.1.pv,qd x.1.pv with
 | .ptr n,some k=>match y.2.mu[n]? with
  | some (some (.dk ks ps))=>some (.sh (.bl (cH (ks.zip ps) k).isSome),y.2)
  | _=>none
 | _,_=>none
theorem R8 {fa fb:EF}:∀ σ H Q,tP X.K (Bv fa fb) σ H Q->Hw (fun x y H Q=>∃ a o,y=.ref a/\Bj H a x o/\Q (.bl o.isSome) H) (tP X.K fa) (tP X.K fb) σ H Q:=fun σ H Q q=>by
 obtain ⟨H0,Z0,ρ,pd,l,ρ',s,f,k⟩:=q
 obtain ⟨x,h1,h2⟩:=aa6 f
 obtain ⟨y,h3,h4⟩:=aa6 h2
 refine ⟨H0,Z0,ρ,pd,x.1,x.2,s,h1,fun v H1 s1=>⟨H0,Z0,x.2,_,y.1,y.2,s1,h3,fun w H2 s2=>?_⟩⟩
 have s3:=s2.freeze.swap.freeze
 split at h4
 . rename_i n kk en ek
   split at h4
   . rename_i ks ps em
     cases h4
     obtain ⟨_,rw'⟩:=s3.repH
     have ew:=qQ ek rw'
     have s4:=s3.pop
     rw [en] at s4
     obtain ⟨a',kvs,rfl,e1,g1,g2,_⟩:=s4.dkAt em
     have e2:(kh kvs kk).isSome=(cH (ks.zip ps) kk).isSome:=by
      cases h:cH (ks.zip ps) kk with
      | none=>rw [g2 kk h]; rfl
      | some p=>obtain ⟨u,hu',_⟩:=g1 kk p h; rw [hu']; rfl
     refine ⟨a',kh kvs kk,rfl,.inl ⟨kvs,kk,.inl e1,ew,rfl⟩,?_⟩
     rw [e2]
     exact k _ H2 (s4.pop.scal fun _=>eQ _)
   . cases h4
 . cases h4
theorem Yg {a b:Expr} {pos:Pos} {fa fb:EF} (hu:X.A.units+1<cLine) (ha:PE X a (tP X.K fa)) (hb:PE X b (tP X.K fb)) (hm:behindInMarks .In b=false):PT X (.Compare a [.In] [b] pos) (gG X.K (tT (Bv fa fb) aU)):=
 J3 (PT.imp (Hx (V1 hu) ha hb hm) fun σ H Q q=>R8 σ H _ q)
noncomputable def xT (fo fi fv:EF):SF:=fun ρ=>(fv ρ).bind fun x=>(fo x.2).bind fun o=>(fi o.2).bind fun y=>match o.1.pv,qd y.1.pv with
 | .ptr n,some k=>match y.2.mu[n]? with
  | some (some (.dk ks ps))=>if ks.length<100000 then some (.nx ⟨y.2.vs,y.2.mu.set n (some (jH (jn (ks.zip ps) k x.1.pv)))⟩) else none
  | _=>none
 | _,_=>none
theorem Ip {o ix e:Expr} {fo fi fv:EF} {tpos pos:Pos} (h:PS X (.Assign [.Subscript o ix tpos] e pos) (El (tP X.K fv) (Jz (tP X.K fo) (tP X.K fi) J0))):PS X (.Assign [.Subscript o ix tpos] e pos) (fK X.K (xT fo fi fv)):=PS.imp h fun D σ H q=>by
 obtain ⟨H0,Z0,ρ,pd,fl,s,h,k⟩:=q
 obtain ⟨x,h1,h2⟩:=aa6 h
 obtain ⟨o,h3,h4⟩:=aa6 h2
 obtain ⟨y,h5,h6⟩:=aa6 h4
 refine ⟨H0,Z0,ρ,pd,x.1,x.2,s,h1,fun v H1 s1=>⟨H0,Z0,x.2,_,o.1,o.2,s1.freeze,h3,fun w H2 s2=>⟨H0,Z0,o.2,_,y.1,y.2,s2.freeze,h5,fun t H3 s3=>?_⟩⟩⟩
 split at h6
 . rename_i n kk en ek
   split at h6
   . rename_i ks ps em
     split at h6
     . rename_i hlen
       cases h6
       obtain ⟨_,rt'⟩:=s3.freeze.repH
       have et:=qQ ek rt'
       have s4:=s3.pop
       rw [en] at s4
       obtain ⟨a,rfl,s5⟩:=s4.cellO em
       have s6:SR X.K H0 Z0 σ H3 ⟨y.2.vs,y.2.mu.set n none⟩ ((v,.sh x.1.pv)::(.ref a,.own (.dk ks ps))::(.ref a,.sh (.ptr n))::pd):=s5.perm ((List.Perm.swap _ _ _).trans ((List.Perm.swap _ _ _).cons _))
       obtain ⟨kvs,hu,hl,s7⟩:=s6.setD (k:=kk)
       have hn:n<y.2.mu.length:=(YF.mp em).1
       have s8:=s7.cellP (by show (y.2.mu.set n none)[n]?=_; rw [YM hn])
       refine ⟨a,_,rfl,.inl ⟨kvs,kk,hu,et,by rw [hl,sizeLine_eq]; omega,rfl⟩,k σ _ ?_⟩
       have e8:(y.2.mu.set n none).set n (some (jH (jn (ks.zip ps) kk x.1.pv)))=y.2.mu.set n (some (jH (jn (ks.zip ps) kk x.1.pv))):=ZD ..
       have s9:SR X.K H0 Z0 σ (upd H3 a (.dK (putK kvs kk v))) ⟨y.2.vs,(y.2.mu.set n none).set n (some (jH (jn (ks.zip ps) kk x.1.pv)))⟩ pd:=s8
       rw [e8] at s9
       exact s9
     . cases h6
   . cases h6
 . cases h6
noncomputable def wY (f:EF):EF:=fun ρ=>(f ρ).bind fun x=>match x.1.pv with
 | .ptr n=>match x.2.mu[n]? with
  | some (some (.dk ks ps))=>some (.own (.dk ks ps),x.2)
  | _=>none
 | _=>none
theorem V3 {e:Expr} {f:EF} {p pos:Pos} (h:PE X (.Call (.Name "dict" p) [e] [] pos) (Cr (fun xs H Q=>∃ a kvs,xs=[.ref a]/\Rd H a (.dK kvs)/\∀ p,H p=none->Q (.ref p) (upd H p (.dK kvs))) (jc X.K (aj f ao)))):PE X (.Call (.Name "dict" p) [e] [] pos) (tP X.K (wY f)):=PE.imp h fun σ H Q q=>by
 obtain ⟨H0,Z0,ρ,pd,l,ρ',s,h,k⟩:=q
 obtain ⟨x,h1,h2⟩:=aa6 h
 refine ⟨H0,Z0,ρ,pd,[x.1],x.2,s,?_,fun vs H1 e1 s1=>?_⟩
 . unfold aj ao
   rw [h1]
   rfl
 . obtain ⟨v,rfl⟩:=yo e1
   have s2:SR X.K H0 Z0 σ H1 x.2 ((v,.sh x.1.pv)::pd):=SR.freeze s1
   split at h2
   . rename_i n en
     split at h2
     . rename_i ks ps em
       cases h2
       rw [en] at s2
       obtain ⟨a,kvs,rfl,e1,_,_,g⟩:=s2.dkAt em
       exact ⟨a,kvs,rfl,.inl e1,fun b hb=>k _ _ ((g b hb).sub ((YJ _ _).cons_cons _))⟩
     . cases h2
   . cases h2
noncomputable def xU (i:Nat) (f:EF):SF:=fun ρ=>match ρ.vs[i]? with
 | some (some (.own (.dk _ _)))=>(f ρ).bind fun y=>match y.1.pv,y.2.vs[i]? with
  | .ptr n,some (some (.own (.dk ks ps)))=>match y.2.mu[n]? with
   | some (some (.dk ls qs))=>if ks.length+ls.length<=100000 then some (.nx (y.2.set i (some (.own (jH (lW (ls.zip qs) (ks.zip ps))))))) else none
   | _=>none
  | _,_=>none
 | _=>none
theorem R9 {i:Nat} {o e:Expr} {f:EF} {apos cpos pos:Pos} (h:PS X (.Expr (.Call (.Attribute o "update" apos) [e] [] cpos) pos) (uW (QG (pX i) (tP X.K f)))):PS X (.Expr (.Call (.Attribute o "update" apos) [e] [] cpos) pos) (fK X.K (xU i f)):=PS.imp h fun D σ H q=>by
 obtain ⟨H0,Z0,ρ,pd,fl,s,h,k⟩:=q
 unfold xU at h
 split at h
 . rename_i ks0 ps0 e0
   obtain ⟨y,h1,h2⟩:=aa6 h
   obtain ⟨a,ea,s0⟩:=s.takeD e0
   obtain ⟨_,Z,_,z,so⟩:=s0.top
   obtain ⟨_,eb,⟨kvs0,hu0,_⟩,_⟩:=so.1 _ Yv
   cases eb
   refine ⟨.ref a,ea,a,rfl,.inl ⟨kvs0,.inl hu0⟩,H0,Z0,ρ,pd,y.1,y.2,s,h1,fun w H2 s2=>?_⟩
   split at h2
   . rename_i n ks ps en e3
     split at h2
     . rename_i ls qs em
       split at h2
       . rename_i hz
         cases h2
         have s3:=s2.freeze
         rw [en] at s3
         obtain ⟨b,rfl,s5⟩:=s3.cellO em
         obtain ⟨a',ea',s6⟩:=s5.takeD (i:=i) e3
         rw [ea] at ea'
         cases ea'
         obtain ⟨el,Z,hg,z,so⟩:=s6.top
         obtain ⟨_,ec,⟨kvs,hu,hk,hr⟩,_⟩:=so.1 _ Yv
         cases ec
         have so2:=so.perm (bV.symm.cons _)
         obtain ⟨_,ed,⟨more,hu2,hk2,hr2⟩,_⟩:=so2.1 _ (YG _ Yv)
         cases ed
         have hne:a≠b:=by
          have nd:=so2.2
          have nd':(a::b::_).Nodup:=nd
          exact fun e=>(Zg.mp nd').1 (e▸Yv)
         have rm:=fj.merge (iW hk2 hr2) (iW hk hr)
         obtain ⟨z',s'⟩:=so.write (o:=.dK (lU kvs more)) (q:=jH (lW (ls.zip qs) (ks.zip ps))) z ⟨lU kvs more,bT,rm.keys,rm.vals⟩
         have s7:SR X.K H0 Z0 σ (upd H2 a (.dK (lU kvs more))) _ ((.ref a,.own (jH (lW (ls.zip qs) (ks.zip ps))))::(.ref b,.own (.dk ls qs))::(.ref b,.sh (.ptr n))::pd):=.mk (Z:=Z) el hg z' s'
         have s8:=s7.put ea
         rw [Ev.set_set] at s8
         have s9:SR X.K H0 Z0 σ (upd H2 a (.dK (lU kvs more))) (y.2.set i (some (.own (jH (lW (ls.zip qs) (ks.zip ps)))))) pd:=SR.cellB (pe:=pd) (ρ:=y.2.set i (some (.own (jH (lW (ls.zip qs) (ks.zip ps)))))) em s8
         refine ⟨b,kvs,more,rfl,hu,.inl hu2,hne,?_,k σ _ s9⟩
         have l1:kvs.length=ks.length:=by rw [← hk,Yw]
         have l2:more.length=ls.length:=by rw [← hk2,Yw]
         rw [l1,l2,sizeLine_eq]
         omega
       . cases h2
     . cases h2
   . cases h2
 . cases h
noncomputable def Ef (fo fv:EF):SF:=fun ρ=>(fo ρ).bind fun o=>match o.1.pv with
 | .ptr n=>match o.2.mu[n]? with
  | some (some (.lst _))=>(fv o.2).bind fun y=>match y.1.pv,y.2.mu[n]? with
   | .lst ps,some (some (.lst ws))=>if ws.length+ps.length<=100000 then some (.nx ⟨y.2.vs,y.2.mu.set n (some (.lst (ws++ps)))⟩) else none
   | _,_=>none
  | _=>none
 | _=>none
theorem Sd {o e:Expr} {fo fv:EF} {apos cpos pos:Pos} (h:PS X (.Expr (.Call (.Attribute o "extend" apos) [e] [] cpos) pos) (uW (HH X.K "list" (yH X.K) (tP X.K fo) (jc X.K (aj fv ao))))):
 PS X (.Expr (.Call (.Attribute o "extend" apos) [e] [] cpos) pos) (fK X.K (Ef fo fv)):=PS.imp h fun D σ H q=>by
 obtain ⟨H0,Z0,ρ,pd,fl,s,h,k⟩:=q
 obtain ⟨o',h1,h2⟩:=aa6 h
 refine ⟨H0,Z0,ρ,pd,o'.1,o'.2,s,h1,fun v H1 s1=>?_⟩
 split at h2
 . rename_i n en
   split at h2
   . rename_i ws0 em0
     obtain ⟨y,h3,h4⟩:=aa6 h2
     have s2:=s1.freeze
     rw [en] at s2
     obtain ⟨a,rfl,s5⟩:=s2.cellO em0
     obtain ⟨_,Z,_,z,so⟩:=s5.top
     obtain ⟨_,ea,⟨us,hu,_⟩,_⟩:=so.1 _ Yv
     cases ea
     refine ⟨.inl ⟨rfl,us,bU.of hu⟩,H0,Z0,o'.2,_,[y.1],y.2,s2,?_,fun vs H2 e2 sv=>?_⟩
     . unfold aj ao
       rw [h3]
       rfl
     . obtain ⟨v1,rfl⟩:=yo e2
       split at h4
       . rename_i ps ws ep em
         split at h4
         . rename_i hz
           cases h4
           have s3:SR X.K H0 Z0 σ H2 y.2 ((v1,.sh y.1.pv)::(.ref a,.sh (.ptr n))::pd):=SR.freeze sv
           rw [ep] at s3
           obtain ⟨a',ea',s6⟩:=s3.swap.cellO em
           cases ea'
           have s7:SR X.K H0 Z0 σ H2 ⟨y.2.vs,y.2.mu.set n none⟩ ((v1,.sh (.lst ps))::(.ref a,.own (.lst ws))::(.ref a,.sh (.ptr n))::pd):=s6.perm ((List.Perm.swap _ _ _).trans ((List.Perm.swap _ _ _).cons _))
           obtain ⟨b,us2,zs,rfl,hb,hu2,hl,hl2,s8⟩:=s7.extO
           have hn:n<y.2.mu.length:=(YF.mp em).1
           have s9:=s8.cellP (by show (y.2.mu.set n none)[n]?=_; rw [YM hn])
           refine ⟨a,b,us2,zs,rfl,rfl,hu2,hb,by rw [hl,hl2]; exact small hz,k σ _ ?_⟩
           have e8:(y.2.mu.set n none).set n (some (.lst (ws++ps)))=y.2.mu.set n (some (.lst (ws++ps))):=ZD ..
           have s10:SR X.K H0 Z0 σ (upd H2 a (.lst (us2++zs))) ⟨y.2.vs,(y.2.mu.set n none).set n (some (.lst (ws++ps)))⟩ pd:=s9
           rw [e8] at s10
           exact s10
         . cases h4
       . cases h4
   . cases h2
 . cases h2
noncomputable def Ad (f:EF):TF:=fun ρ=>(f ρ).bind fun x=>match x.1.pv with
 | .ptr n=>match x.2.mu[n]? with
  | some (some (.lst ws))=>some (!ws.isEmpty,x.2)
  | _=>none
 | _=>none
theorem W8 {a:Expr} {f:EF} (ha:PE X a (tP X.K f)) (he:∀ whole,isTrue a X.env whole=(do let v ← whole; standAt a.pos; holding [v] (truthy v))):PT X a (gG X.K (Ad f)):=PT.imp (En ha he) fun σ H Q q=>by
 obtain ⟨H0,Z0,ρ,pd,b,ρ',s,h,k⟩:=q
 obtain ⟨x,h1,h2⟩:=aa6 h
 refine ⟨H0,Z0,ρ,pd,x.1,x.2,s,h1,fun v H1 s1=>?_⟩
 split at h2
 . rename_i n en
   split at h2
   . rename_i ws em
     cases h2
     have s2:=s1.freeze
     rw [en] at s2
     obtain ⟨a,vs,rfl,hH,hl,_⟩:=s2.lstAt em
     refine ⟨_,.inl ⟨vs,bU.of hH,?_⟩,k H1 s2.pop⟩
     cases vs<;>cases ws<;>first | rfl | (simp at hl)
   . cases h2
 . cases h2
theorem SR.lstCut {v:V} {n:Nat} {ps:List PV} {y z:Option Int} (s:SR K H0 Z0 σ H ρ ((v,.sh (.ptr n))::pd)) (hm:ρ.mu[n]?=some (some (.lst ps))):
 ∃ a vs,v=.ref a/\H a=some (.lst vs)/\∀ b,H b=none->SR K H0 Z0 σ (upd H b (.lst (mF vs y z))) ρ ((.ref b,.own (.lst (jl ps y z)))::(v,.sh (.ptr n))::pd):=by
 have sdup:SR K H0 Z0 σ H ρ ((v,.sh (.ptr n))::(v,.sh (.ptr n))::pd):=s.part fun Z _ r=>r
 obtain ⟨a,rfl,s5⟩:=sdup.cellO hm
 obtain ⟨el,Z,hg,zz,so⟩:=s5.top
 obtain ⟨_,ea,⟨vs,hu,hr⟩,_⟩:=so.1 _ Yv
 cases ea
 refine ⟨a,vs,rfl,hu,fun b hb=>?_⟩
 obtain ⟨z',s'⟩:=(so.perm bV).new (o:=.lst (mF vs y z)) (p:=.lst (jl ps y z)) zz hb ⟨_,bT,hr.cut⟩
 have s6:SR K H0 Z0 σ (upd H b (.lst (mF vs y z))) ⟨ρ.vs,ρ.mu.set n none⟩ ((.ref b,.own (.lst (jl ps y z)))::(.ref a,.own (.lst ps))::(.ref a,.sh (.ptr n))::(.ref a,.sh (.ptr n))::pd):=.mk (Z:=Z) el hg z' s'
 have s7:SR K H0 Z0 σ (upd H b (.lst (mF vs y z))) ⟨ρ.vs,ρ.mu.set n none⟩ ((.ref a,.own (.lst ps))::(.ref a,.sh (.ptr n))::(.ref b,.own (.lst (jl ps y z)))::(.ref a,.sh (.ptr n))::pd):=s6.perm (((List.Perm.swap _ _ _).cons _).trans (List.Perm.swap _ _ _))
 exact SR.cellB (pe:=pd) hm s7
noncomputable def Gs (f:EF) (lo hi:OF):EF:=fun ρ=>(f ρ).bind fun x=>(lo x.2).bind fun y=>(hi y.2).bind fun z=>match x.1.pv with
 | .ptr n=>match z.2.mu[n]? with
  | some (some (.lst ps))=>some (.own (.lst (jl ps y.1 z.1)),z.2)
  | _=>none
 | _=>none
theorem Sq {e:Expr} {lo hi:Option Expr} {p2 pos:Pos} {f:EF} {fl fh:OF} (he:PE X e (tP X.K f)) (hl:PO X lo (CJ X.K fl)) (hu:PO X hi (CJ X.K fh)):PE X (.Subscript e (.Slice lo hi none p2) pos) (tP X.K (Gs f fl fh)):=PE.imp (yF HF he hl hu) fun σ H Q q=>by
 obtain ⟨H0,Z0,ρ,pd,r,ρ',s,h,k⟩:=q
 obtain ⟨x,h1,h2⟩:=aa6 h
 obtain ⟨y,h3,h4⟩:=aa6 h2
 obtain ⟨z,h5,h6⟩:=aa6 h4
 refine ⟨H0,Z0,ρ,pd,x.1,x.2,s,h1,fun v H1 s1=>⟨H0,Z0,x.2,_,y.1,y.2,s1.freeze,h3,fun H2 s2=>⟨H0,Z0,y.2,_,z.1,z.2,s2,h5,fun H3 s3=>?_⟩⟩⟩
 split at h6
 . rename_i n en
   split at h6
   . rename_i ps em
     cases h6
     rw [en] at s3
     obtain ⟨a,vs,rfl,hH,g⟩:=s3.lstCut (y:=y.1) (z:=z.1) em
     exact ⟨a,vs,rfl,bU.of hH,fun p hp=>k _ _ ((g p hp).sub ((YJ _ _).cons_cons _))⟩
   . cases h6
 . cases h6
def Xm (K:FG) (H0:Hp) (Z0:ZG) (pd:Pd) (J:It) (o:Option Nat) (cs ps:List PV):Prop:=∀ σ H ρ (i:Nat),SR K H0 Z0 σ H ρ pd->Holds o cs ρ->
 (∀ x,ps[i]?=some x->J.go i H/\∀ v H',J.yld i H v H'->SR K H0 Z0 σ H' ρ ((v,.sh x)::pd))/\(i=ps.length->J.stop i H)
abbrev QW:=Ev->Option (Option Nat×List PV×List PV×Ev)
def V4 (K:FG) (f:QW):TI:=fun σ H R=>∃ H0 Z0 ρ pd o cs xs ρ',SR K H0 Z0 σ H ρ pd/\f ρ=some (o,cs,xs,ρ')/\∀ J H' pd',SR K H0 Z0 σ H' ρ' pd'->Xm K H0 Z0 pd' J o cs xs->List.Sublist pd pd'->R J H'
theorem Ss {H0:Hp} {n:Nat} {a b:Addr} {ps qs:List PV}:Xm K H0 Z0 ((.ref a,.sh (.lst ps))::(.ref b,.sh (.ptr n))::pd) (J2 true K a b) (some n) qs (j0 ps qs):=by
 intro σ H ρ i s hm
 obtain ⟨b',ws,eb,hH,hlw,hget⟩:=s.swap.lstAt (hm n rfl)
 cases eb
 obtain ⟨Z1,z1,r1⟩:=s.rep
 unfold Rep at r1
 obtain ⟨a',vs,ea,g1,g2⟩:=r1
 cases ea
 have hq:lJ true K H a vs:=bU.same z1 g1
 have hr:lJ true K H b ws:=bU.of hH
 refine ⟨fun x hx=>?_,fun hl=>⟨vs,ws,hq,hr,?_⟩⟩
 . obtain ⟨p,q,hp,hq',rfl⟩:=Gb hx
   obtain ⟨u,hu,s2⟩:=hget i q hq'
   obtain ⟨v,hv,_⟩:=g2.get hp
   refine ⟨⟨vs,ws,v,u,hq,hr,hv,hu⟩,fun v' H' y=>?_⟩
   obtain ⟨T,y1,y2,hT,rfl,rfl,hy1,hy2⟩:=y
   have e1:=hy1 vs hq
   rw [hv] at e1
   cases e1
   have e2:=hy2 ws hr
   rw [hu] at e2
   cases e2
   obtain ⟨el,Z,hg,z,rl,so⟩:=SR.repl (vs:=[u,.ref b,.ref a]) (ls:=[.sh q,.sh (.ptr n),.sh (.lst ps)]) (pd:=pd) s2 rfl
   obtain ⟨_,_,ev,ru,rl⟩:=rl.inv
   cases ev
   obtain ⟨_,_,ev,rb,rl⟩:=rl.inv
   cases ev
   obtain ⟨_,_,ev,ra,_⟩:=rl.inv
   cases ev
   have ra0:Rep K Z (.lst ps) (.ref a):=ra
   unfold Rep at ra0
   obtain ⟨a2,vs2,ea2,k1,k2⟩:=ra0
   cases ea2
   have hq2:lJ true K H a vs2:=bU.same z.zh k1
   obtain ⟨v2,hv2,rv⟩:=k2.get hp
   have e3:=hy1 vs2 hq2
   rw [hv2] at e3
   cases e3
   obtain ⟨z',lz,so'⟩:=((so.consS rb).consS ra).newF z (a:=T) (o:=.tup [v,u]) hT
   refine .mk (Z:=Z.put T (.tup [v,u])) el hg z' (Slots.perm (Slots.consS so' ?_) ((bV.trans (bV.cons _)).cons _))
   unfold Rep
   exact ⟨T,[v,u],rfl,.inl (.inl (by show upd Z.z T _ T=_; rw [bT])),aN.cons (rv.mono lz) (aN.cons (ru.mono lz) .nil)⟩
 . rw [Ge] at hl
   rw [g2.length,hlw]
   omega
noncomputable def J8 (f g:EF):QW:=fun ρ=>(f ρ).bind fun x=>(g x.2).bind fun y=>match x.1.pv,y.1.pv with
 | .lst ps,.ptr n=>match y.2.mu[n]? with
  | some (some (.lst qs))=>some (some n,qs,j0 ps qs,y.2)
  | _=>none
 | _,_=>none
theorem Su {a b:Expr} {f g:EF} {p pos:Pos} {elts:List Expr} {x1} {tpos:Pos} (hg:Gl X "zip") (hm:X.mg "zip" = none) (ha:PA X [a,b] (jc X.K (aj f (aj g ao)))) (hs:starEach [a,b] X.env=(false,eval a X.env)::starEach [b] X.env:=by rfl) (hs2:(backTo pos (starEach [b] X.env)).any (·.1)=false:=by rfl):PI X (.Tuple elts x1 tpos) (.Call (.Name "zip" p) [a,b] [] pos) (V4 X.K (J8 f g)):=PI.imp (HQ hg hm ha hs hs2) fun σ H R q=>by
 obtain ⟨H0,Z0,ρ,pd,o,cs,xs,ρ',s,h,k⟩:=q
 obtain ⟨x,h1,h2⟩:=aa6 h
 obtain ⟨y,h3,h4⟩:=aa6 h2
 refine ⟨H0,Z0,ρ,pd,[x.1,y.1],y.2,s,?_,fun vs H1 e1 s1=>?_⟩
 . unfold aj ao
   rw [h1]
   simp only [Yu,h3,Z4]
 . obtain ⟨v,u,rfl⟩:=ln2 e1
   have s2:SR X.K H0 Z0 σ H1 y.2 ((v,.sh x.1.pv)::(u,.sh y.1.pv)::pd):=SR.freezeAll (vs:=[v,u]) (ls:=[x.1,y.1]) s1
   split at h4
   . rename_i ps n ep en
     split at h4
     . rename_i qs em
       cases h4
       rw [ep,en] at s2
       obtain ⟨b',ws,rfl,hH,_,_⟩:=s2.swap.lstAt em
       obtain ⟨Z1,z1,r1⟩:=s2.rep
       unfold Rep at r1
       obtain ⟨a',vs,rfl,g1,_⟩:=r1
       exact ⟨true,a',b',rfl,⟨_,bU.same z1 g1⟩,⟨_,bU.of hH⟩,k _ _ _ s2 Ss ((YJ _ _).cons _)⟩
     . cases h4
   . cases h4
noncomputable def J9 (f:QW) (b:BF) (body:SF):SF:=fun ρ=>(f ρ).bind fun y=>nG y.1 y.2.1 b body y.2.2.1 y.2.2.2
theorem Sv {tg iter:Expr} {body:List Stmt} {f:QW} {g:TG} {b:BF} {fb:SF} {pos:Pos} (hp:PassesOwn (model X.prog X.w) X.A X.env X.xe) (hc:X.calm=true) (hi:PI X tg iter (V4 X.K f)) (hg:PG X tg g) (hb':GS X.K g b) (hb:iB X body (fK X.K fb))
 (hs:∀ x,foldedSetIterable iter X.env x=pure x:=by intro _; rfl):PS X (.For tg iter body [] pos) (fK X.K (J9 f b fb)):=PS.imp (K5 hp hc hi hg hb hs) fun D σ H q=>by
 obtain ⟨H0,Z0,ρ,pd,fl,s,h,k⟩:=q
 obtain ⟨⟨n,cs,ps,ρ0⟩,h1,h2⟩:=aa6 h
 have h2:nG n cs b fb ps ρ0=some fl:=h2
 refine ⟨H0,Z0,ρ,pd,n,cs,ps,ρ0,s,h1,fun J H1 pd' s1 it sub=>?_⟩
 refine ⟨fun i m σ' H'=>m=ps.length-i/\i<=ps.length/\∃ ρ',SR X.K H0 Z0 σ' H' ρ' pd'/\nG n cs b fb (ps.drop i) ρ'=some fl,⟨_,rfl,ZC _,ρ0,s1,h2⟩,?_⟩
 rintro i m σ' H' ⟨rfl,hi,ρ',s',h'⟩
 by_cases hlt:i<ps.length
 . have hx:ps[i]?=some ps[i]:=YQ hlt
   rw [aad hlt] at h'
   unfold nG at h'
   obtain ⟨hm,h'⟩:=Mw h'
   obtain ⟨i1,_⟩:=it σ' H' ρ' i s' hm
   obtain ⟨go,yl⟩:=i1 _ hx
   obtain ⟨ρ1,e1,e2⟩:=aa6 h'
   obtain ⟨fl1,e3,e4⟩:=aa6 e2
   refine .inr ⟨go,fun σ'' H''=>∃ ρ'',SR X.K H0 Z0 σ'' H'' ρ'' pd'/\nG n cs b fb (ps.drop (i+1)) ρ''=some fl,fun σ'' H'' ⟨ρ'',s'',h''⟩=>⟨ps.length-(i+1),by omega,rfl,hlt,ρ'',s'',h''⟩,fun x H2 hy=>?_⟩
   refine hb' H0 Z0 σ' H2 ρ' pd' x _ ρ1 _ (yl x H2 hy) e1 fun σ2 s2=>?_
   refine ⟨H0,Z0,ρ1,pd',fl1,s2,e3,?_⟩
   cases fl1 with
   | nx ρ2=>exact fun σ3 H3 s3=>⟨ρ2,s3,e4⟩
   | ct ρ2=>exact fun σ3 H3 s3=>⟨ρ2,s3,e4⟩
   | bk ρ2=>cases e4; exact fun σ3 H3 s3=>k σ3 H3 (s3.sub sub)
   | rt r ρ2=>cases e4; exact fun v σ3 H3 s3=>k v σ3 H3 (s3.sub (sub.cons_cons _))
 . have e:i=ps.length:=by omega
   subst e
   rw [aaV] at h'
   unfold nG at h'
   obtain ⟨hm,h'⟩:=Mw h'
   cases h'
   obtain ⟨_,i2⟩:=it σ' H' ρ' ps.length s' hm
   exact .inl ⟨i2 rfl,k σ' H' (s'.sub sub)⟩
noncomputable def nH (f:EF):EF:=fun ρ=>(f ρ).bind fun x=>match x.1.pv with
 | .ptr n=>match x.2.mu[n]? with
  | some (some p)=>some (.sh p,⟨x.2.vs,x.2.mu.set n none⟩)
  | _=>none
 | _=>none
theorem MJ {e:Expr} {f:EF} (h:PE X e (tP X.K f)):PE X e (tP X.K (nH f)):=PE.imp h fun σ H Q q=>by
 obtain ⟨H0,Z0,ρ,pd,l,ρ',s,h,k⟩:=q
 obtain ⟨x,h1,h2⟩:=aa6 h
 refine ⟨H0,Z0,ρ,pd,x.1,x.2,s,h1,fun v H1 s1=>?_⟩
 split at h2
 . rename_i n en
   split at h2
   . rename_i p em
     cases h2
     have s2:=s1.freeze
     rw [en] at s2
     obtain ⟨a,rfl,s5⟩:=s2.cellO em
     exact k _ H1 (s5.freeze.sub ((YJ _ _).cons_cons _))
   . cases h2
 . cases h2
end
end PL
namespace Law
open PySem PySem.Spec PyProof.Rows L2 PL
local macro_rules | `(tactic| walk_at "sc")=>`(tactic| exact ⟨rfl,rfl,rfl,by decide +kernel,rfl,by decide +kernel,by decide +kernel⟩)
theorem mI {l:List Str} {a:Str} (i:Nat) (h:l[i]?=some a):a∈l:=Zq h
noncomputable def top (i:Nat):Stmt:=PySem.Challenge.pw_hushwise_k24_straight_rows.main.body.getD i (.Pass ⟨0,0,0,0⟩)
noncomputable abbrev uf:Stmt:=top 5
noncomputable abbrev vC:Stmt:=top 6
noncomputable abbrev kJ:Stmt:=top 7
noncomputable abbrev qJ:Stmt:=top 8
noncomputable abbrev vD:Stmt:=top 9
noncomputable abbrev qK:Stmt:=top 14
noncomputable abbrev ug:Stmt:=top 15
noncomputable abbrev vG:Stmt:=top 16
noncomputable abbrev qe:Stmt:=top 18
noncomputable abbrev xV:Stmt:=top 19
noncomputable abbrev oU:Stmt:=top 20
noncomputable abbrev yR:Stmt:=top 21
noncomputable abbrev tH:Stmt:=top 22
noncomputable abbrev oV:Stmt:=top 24
noncomputable abbrev pA:Stmt:=top 25
noncomputable abbrev Ka:Stmt:=top 26
noncomputable abbrev yS:Stmt:=top 27
noncomputable abbrev uh:Stmt:=top 29
noncomputable abbrev qg:Stmt:=top 30
noncomputable abbrev kO:Stmt:=top 31
noncomputable abbrev ul:Stmt:=top 32
noncomputable abbrev qi:Stmt:=top 33
noncomputable abbrev lM:Stmt:=top 34
noncomputable abbrev nJ:Stmt:=top 35
noncomputable abbrev vH:Stmt:=top 36
noncomputable abbrev lu:Stmt:=top 37
noncomputable abbrev mq:Stmt:=top 38
noncomputable abbrev pB:Stmt:=top 39
noncomputable abbrev qM:Stmt:=top 40
noncomputable abbrev jP:Stmt:=inClass (top 11) 0
noncomputable abbrev um:Stmt:=inClass (top 11) 4
noncomputable abbrev rT:Stmt:=inClass (top 11) 7
noncomputable abbrev j4:Stmt:=inClass (top 23) 0
noncomputable abbrev lw:Stmt:=inClass (top 23) 1
noncomputable abbrev j5:Stmt:=inClass (top 23) 2
noncomputable abbrev nM:Stmt:=inClass (top 23) 3
noncomputable abbrev nO:Stmt:=inClass (top 23) 4
noncomputable abbrev mQ:Stmt:=inClass (top 23) 5
noncomputable abbrev nP:Stmt:=inClass (top 23) 6
noncomputable abbrev mR:Stmt:=inClass (top 23) 8
noncomputable abbrev oW:Stmt:=inClass (top 23) 10
noncomputable abbrev mU:Stmt:=top 38
theorem Gu:bf ["row"] ["row"] (aK uf):=by walk_at "sc"
theorem MK:bf ["row"] ["row"] (aK vC):=by walk_at "sc"
theorem Dq:bf ["rows"] ["rows"] (aK kJ):=by walk_at "sc"
theorem jW:bf ["where", "above", "block", "rows", "start", "told", "row", "number", "place", "inner"] ["where", "above", "block", "rows", "start"] (aK qJ):=by walk_at "sc"
theorem jX:bf ["program", "told", "name", "rank", "params", "rows"] ["program"] (aK vD):=by walk_at "sc"
theorem Hm:bf ["expression", "boxes"] ["expression", "boxes"] (aK qK):=by walk_at "sc"
theorem Gv:bf ["numbers", "place"] ["numbers", "place"] (aK ug):=by walk_at "sc"
theorem Hn:bf ["sign", "one", "other"] ["sign", "one", "other"] (aK vG):=by walk_at "sc"
theorem Bw:bf ["thing"] ["thing"] (aK qe):=by walk_at "sc"
theorem Pz:bf ["size", "thing"] ["size", "thing"] (aK xV):=by walk_at "sc"
theorem j8:bf ["program", "values", "box", "thing", "name"] ["program", "values"] (aK oU):=by walk_at "sc"
theorem tK:bf ["program", "values", "boxes", "box", "thing"] ["program", "values"] (aK yR):=by walk_at "sc"
theorem Kc:bf ["program", "boxes"] ["program", "boxes"] (aK tH):=by walk_at "sc"
theorem tL:bf ["program", "values", "budget", "running"] ["program", "values", "budget"] (aK oV):=by walk_at "sc"
theorem kW:bf ["moments", "record", "row", "time", "events"] ["moments"] (aK pA):=by walk_at "sc"
theorem MN:bf ["program", "values", "budget", "running"] ["program", "values", "budget"] (aK Ka):=by walk_at "sc"
theorem MT:bf ["program", "values", "budget"] ["program", "values", "budget"] (aK yS):=by walk_at "sc"
theorem rW:bf ["_law_script", "_law_k", "_law_cell_here"] ["_law_script", "_law_k"] (aK uh):=by walk_at "sc"
theorem uK:bf ["_law_cell_here", "_law_way"] ["_law_cell_here"] (aK qg):=by walk_at "sc"
theorem Dr:bf ["_law_got", "_law_due"] ["_law_got", "_law_due"] (aK kO):=by walk_at "sc"
theorem nQ:bf ["_law_cell_here", "_law_nums", "_law_lists", "_law_way", "_law_place"] ["_law_cell_here", "_law_nums", "_law_lists"] (aK ul):=by walk_at "sc"
theorem Bx:bf ["_law_sign", "_law_one", "_law_other"] ["_law_sign", "_law_one", "_law_other"] (aK qi):=by walk_at "sc"
theorem cC:bf ["_law_cell_here", "_law_nums", "_law_lists", "_law_grown", "_law_k", "_law_leaf_here", "_law_twin", "_law_sign", "_law_longer"] ["_law_cell_here", "_law_nums", "_law_lists"] (aK lM):=by walk_at "sc"
theorem my:bf ["_law_e", "_law_boxes", "_law_place", "_law_one", "_law_other"] ["_law_e", "_law_boxes"] (aK nJ):=by walk_at "sc"
theorem lY:bf ["_law_a", "_law_b", "_law_nums", "_law_lists", "_law_value", "_law_name", "_law_place"] ["_law_a", "_law_b", "_law_nums", "_law_lists"] (aK vH):=by walk_at "sc"
theorem fC:bf ["_law_script", "_law_cell_here", "_law_nums", "_law_lists", "_law_boxes", "_law_k", "_law_rows"] ["_law_script"] (aK lu):=by walk_at "sc"
theorem lA:bf ["_law_script", "_law_program_here", "_law_values_here", "_law_k", "_law_cell_here"] ["_law_script", "_law_program_here"] (aK mq):=by walk_at "sc"
theorem iH:bf ["_law_rows", "_law_boxes", "_law_moments", "_law_k", "_law_row_here", "_law_events"] ["_law_rows", "_law_boxes"] (aK pB):=by walk_at "sc"
theorem gW:bf ["_law_script", "_law_program_here", "_law_values_here", "_law_boxes", "_law_box", "_law_thing", "_law_moments", "_law_record", "_law_k", "_law_time", "_law_events", "_law_due", "_law_budget", "_law_got", "_law_told"] ["_law_script"] (aK qM):=by walk_at "sc"
theorem cW:bf ["self", "program", "told", "lists", "number", "one", "heads", "name", "rank", "params", "rows"] ["self", "program"] (aK jP):=by walk_at "sc"
theorem Gw:bf ["self", "k"] ["self", "k"] (aK um):=by walk_at "sc"
theorem Ds:bf ["self", "name"] ["self", "name"] (aK rT):=by walk_at "sc"
theorem vI:bf ["self", "program", "values", "budget"] ["self", "program", "values", "budget"] (aK j4):=by walk_at "sc"
theorem Ae:bf ["self", "numbers"] ["self", "numbers"] (aK lw):=by walk_at "sc"
theorem nR:bf ["self", "name", "numbers"] ["self", "name"] (aK j5):=by walk_at "sc"
theorem rY:bf ["self", "due"] ["self"] (aK nM):=by walk_at "sc"
theorem yU:bf ["self", "k", "time", "events"] ["self", "k", "time", "events"] (aK nO):=by walk_at "sc"
theorem qt:bf ["self", "expression", "there"] ["self", "expression"] (aK mQ):=by walk_at "sc"
theorem rZ:bf ["self", "name", "value", "holder"] ["self", "name", "value"] (aK nP):=by walk_at "sc"
theorem qu:bf ["self", "k", "row"] ["self", "k"] (aK mR):=by walk_at "sc"
theorem jg:bf ["self", "k", "row", "numbers", "place", "value", "events"] ["self", "k", "row"] (aK oW):=by walk_at "sc"
theorem ju:bf ["_law_script", "_law_program_here", "_law_values_here", "_law_k", "_law_cell_here"] ["_law_script", "_law_program_here"] (aK mU):=by walk_at "sc"
noncomputable def qT:PV:=(.int 1000000000000)
section
variable [HK]
noncomputable def pC:GF:=cM 1 (aH (bN (tT (aq eqP (aF (aa 0) (eC (.int 0))) (eC (.str "if"))) aU)
 (bD (bW (aj (aF (aa 0) (eC (.int 2))) (aj (aF (aa 0) (eC (.int 3))) ao))))
 bY)
 (aH (bN (tT (aq eqP (aF (aa 0) (eC (.int 0))) (eC (.str "while"))) aU)
 (bD (bW (aj (aF (aa 0) (eC (.int 2))) ao)))
 bY)
 (bD (bW ao))))
mutual
noncomputable def kY:Nat->GF
 | 0=>fun _ _=>none
 | n+1=>cM 1 (aH (bN (tT (aq eqP (aF (aa 0) (eC (.int 0))) (eC (.str "if"))) aU)
  (bD (bh (aj (eC (.str "if")) (aj (aF (aa 0) (eC (.int 1))) (aj (aG (iI n) (aj (aF (aa 0) (eC (.int 2))) ao)) (aj (aG (iI n) (aj (aF (aa 0) (eC (.int 3))) ao)) ao))))))
  bY)
  (aH (bN (tT (aq eqP (aF (aa 0) (eC (.int 0))) (eC (.str "while"))) aU)
  (bD (bh (aj (eC (.str "while")) (aj (aF (aa 0) (eC (.int 1))) (aj (aG (iI n) (aj (aF (aa 0) (eC (.int 2))) ao)) ao)))))
  bY)
  (aH (bN (tT (aq eqP (aF (aa 0) (eC (.int 0))) (eC (.str "call"))) aU)
  (bD (bh (aj (eC (.str "call")) (aj (aF (aa 0) (eC (.int 1))) (aj (aF (aa 0) (eC (.int 2))) (aj (eB list1 (aj (aF (aa 0) (eC (.int 3))) ao)) ao))))))
  bY)
  (o8 0))))
noncomputable def iI:Nat->GF
 | 0=>fun _ _=>none
 | n+1=>cM 1 (bD (dq (gC (aa 0) du) 1 [] (aJ 0) dN (aG (kY n) (aj (aa 0) ao))))
end
noncomputable def ik:Nat->GF
 | 0=>fun _ _=>none
 | n+1=>cM 10 (aH (aL 5 (bW ao))
  (aH (gM (gC (aa 3) du) (aJ 6)
  (aH (aL 7 (qF (aq bK (aa 4) (eB cF (aj (aa 5) ao)))))
  (aH (ig 5 (bh (aj (aa 0) (aj (aa 1) (aj (aa 2) (aj (aG (kY 40) (aj (aa 6) ao)) ao))))))
  (gM (uH (aG pC (aj (aa 6) ao))) (fP 2 (aP (aJ 8) (aP (aJ 9) fO)))
  (nq 5 (aG (ik n) (aj (aa 0) (aj (aa 7) (aj (aa 8) (aj (aa 9) (aj (qF (aq bK (aa 4) (eB cF (aj (aa 5) ao)))) ao)))))))))))
  (o8 5)))
noncomputable def qN:GF:=cM 6 (aH (aL 1 (bW ao))
 (aH (gM (gC (aF (aa 0) (eC (.int 2))) du) (fP 4 (aP (aJ 2) (aP (aJ 3) (aP (aJ 4) (aP (aJ 5) fO)))))
 (nq 1 (aG (ik 40) (aj (aa 2) (aj (eC .non) (aj (eC (.int 0)) (aj (aa 5) (aj (qF (eB cF (aj (aa 1) ao))) ao))))))))
 (aH (nq 1 (aG (ik 40) (aj (eC (.str "main")) (aj (eC .non) (aj (eC (.int 0)) (aj (aF (aa 0) (eC (.int 3))) (aj (qF (eB cF (aj (aa 1) ao))) ao)))))))
 (o8 1))))
noncomputable def uo:GF:=cM 2 (bD (rD (tT (nu uB sZ (eC (.int 0)) (aa 1) (gO (aa 0))) aU) (cV (aa 0) (aa 1)) (eC (.int 0))))
noncomputable def vJ:GF:=cM 3 (aH (bN (tT (aq fL (aa 0) (eC (.str "+"))) aU)
 (bD (aq aQ (aq bK (aa 1) (aa 2)) (eC qT)))
 bY)
 (aH (bN (tT (aq fL (aa 0) (eC (.str "-"))) aU)
 (bD (aq aQ (aq yM (aa 1) (aa 2)) (eC qT)))
 bY)
 (aH (bN (tT (aq fL (aa 0) (eC (.str "*"))) aU)
 (bD (aq aQ (aq cL (aa 1) (aa 2)) (eC qT)))
 bY)
 (aH (bN (tT (aq fL (aa 0) (eC (.str "<"))) aU)
 (bD (rD (tT (aq sZ (aa 1) (aa 2)) aU) (eC (.int 1)) (eC (.int 0))))
 bY)
 (bD (rD (tT (aq fL (aa 1) (aa 2)) aU) (eC (.int 1)) (eC (.int 0))))))))
noncomputable def dh:Nat->GF
 | 0=>fun _ _=>none
 | n+1=>cM 2 (aH (bN (tT (aq fL (cV (aa 0) (eC (.int 0))) (eC (.str "num"))) aU)
  (bD (cV (aa 0) (eC (.int 1))))
  bY)
  (aH (bN (tT (aq fL (cV (aa 0) (eC (.int 0))) (eC (.str "box"))) aU)
  (bD (cV (aa 1) (cV (aa 0) (eC (.int 1)))))
  bY)
  (aH (bN (tT (aq fL (cV (aa 0) (eC (.int 0))) (eC (.str "@"))) aU)
  (bD (aG uo (aj (cV (aa 1) (cV (aa 0) (eC (.int 1)))) (aj (aG (dh n) (aj (cV (aa 0) (eC (.int 2))) (aj (aa 1) ao))) ao))))
  bY)
  (bD (aG vJ (aj (cV (aa 0) (eC (.int 0))) (aj (aG (dh n) (aj (cV (aa 0) (eC (.int 1))) (aj (aa 1) ao))) (aj (aG (dh n) (aj (cV (aa 0) (eC (.int 2))) (aj (aa 1) ao))) ao))))))))
noncomputable def gP:GF:=cM 1 (bD (lL (jC "int" (aa 0)) (lL (wK (jC "bool" (aa 0))) (nu uB sZ (eC (.int 0)) (aa 0) (eC qT)))))
noncomputable def uL:GF:=cM 2 (aH (bN (tT (aq eqP (aa 0) (eC (.int 0))) aU)
 (bD (aG gP (aj (aa 1) ao)))
 bY)
 (bD (lL (jC "list" (aa 1)) (lL (aq eqP (eB cF (aj (aa 1) ao)) (aa 0)) (eB all1 (aj (dq (gC (aa 1) du) 1 [] (aJ 0) dN (aG gP (aj (aa 0) ao))) ao))))))
noncomputable def lB:GF:=cM 5 (aH (bN (mH (jM (tT (jC "list" (aa 1)) jA)) (tT (aq pK (eB cF (aj (aa 1) ao)) (eB cF (aj (aF (aa 0) (eC (.int 0))) ao))) aU))
 tD
 bY)
 (gM (wX (aF (aa 0) (eC (.int 0))) (aa 1)) (fP 2 (aP (aJ 2) (aP (aJ 3) fO)))
 (aH (aL 4 (aF (aa 2) (eC (.int 0))))
 (bN (jM (tT (aG uL (aj (aF (aa 2) (eC (.int 1))) (aj (aa 3) ao))) jA))
 tD
 bY))))
noncomputable def sr:GF:=cM 5 (aH (aL 2 lX)
 (aH (J9 (J8 (aF (aa 0) (eC (.int 0))) (aa 1)) (fP 2 (aP (aJ 3) (aP (aJ 4) fO)))
 (o9 2 (aF (aa 3) (eC (.int 0))) (rD (tT (jC "list" (aa 4)) jA) (dC (eB list1 (aj (aa 4) ao))) (aa 4))))
 (o8 2)))
noncomputable def tM:GF:=cM 2 (bD (dq (gC (aF (aa 0) (eC (.int 0))) du) 3 [1] (fP 3 (aP (aJ 0) (aP (aJ 1) (aP (aJ 2) fO)))) dN (jO (aa 3) (aa 0))))
noncomputable def gq:GF:=cM 11 (aH (aL 2 (aG qN (aj (aa 1) ao)))
 (aH (aL 3 MF)
 (aH (gM (uH (aa 2)) (fP 2 (aP (aJ 4) (aP (aJ 5) fO)))
 (jt (tG 3 (Gj (aa 5) ie (gF (eC (.int 3))))) (aa 4)))
 (aH (aL 6 lX)
 (aH (gM (gC (aF (aa 1) (eC (.int 2))) du) (fP 4 (aP (aJ 7) (aP (aJ 8) (aP (aJ 9) (aP (aJ 10) fO)))))
 (o9 6 (aa 7) (dq (gC (aa 9) du) 2 [] (fP 2 (aP (aJ 0) (aP (aJ 1) fO))) dN (aa 0))))
 (aH (fX "Plan" "told" (aa 0) (aa 2))
 (aH (fX "Plan" "lists" (aa 0) (Ac (aa 3)))
 (fX "Plan" "heads" (aa 0) (aa 6)))))))))
noncomputable def nT:GF:=cM 2 (bD (eB list1 (aj (Ab (dJ "Plan" "lists" (aa 0)) (bh (aj (aa 1) (aj (eC .non) (aj (eC (.int 0)) ao))))) ao)))
noncomputable def oX:GF:=cM 2 (Ef (dJ "Running" "due" (aa 0)) (dq (Ed (aa 1)) 1 [] (aJ 0) dN (bh (aj (aa 0) (aj (eC (.int 0)) ao)))))
noncomputable def j6:GF:=cM 3 (aH (aL 2 (dD "Plan" "body" nT (dJ "Running" "plan" (aa 0)) (aj (aa 1) ao)))
 (aH (bN (tT (aa 2) jA)
 (jt (dJ "Running" "due" (aa 0)) (bh (aj (aF (aa 2) (oN (eC (.int 1)))) (aj (eC (.int 3)) ao))))
 bY)
 (jd (dD "Running" "lay" oX (aa 0) (aj (aa 2) ao)))))
noncomputable def fG:GF:=cM 4 (aH (fX "Running" "plan" (aa 0) (tE "Plan" gq (aj (aa 1) ao)))
 (aH (fX "Running" "boxes" (aa 0) (dC (aG sr (aj (aa 1) (aj (aa 2) ao)))))
 (aH (fX "Running" "own" (aa 0) (dC (bW (aj (dC lX) ao))))
 (aH (fX "Running" "budget" (aa 0) (aa 3))
 (aH (fX "Running" "word" (aa 0) (eC (.str "done")))
 (aH (fX "Running" "moments" (aa 0) (dC (bW ao)))
 (aH (fX "Running" "due" (aa 0) (dC (bW ao)))
 (jd (dD "Running" "lay_body" j6 (aa 0) (aj (eC (.str "main")) ao))))))))))
noncomputable def pD:GF:=cM 2 (bD (aF (aF (dJ "Plan" "told" (aa 0)) (aa 1)) (eC (.int 3))))
noncomputable def jh:GF:=cM 4 (aH (aL 3 (rD (tT (Bv (aa 1) (aF (dJ "Running" "own" (aa 0)) (oN (eC (.int 1))))) aU) (aF (dJ "Running" "own" (aa 0)) (oN (eC (.int 1)))) (dJ "Running" "boxes" (aa 0))))
 (aH (xT (aa 3) (aa 1) (aa 2))
 (bD (bh (aj (aa 1) (aj (eC (.int 0)) (aj (aa 2) ao)))))))
noncomputable def eF:GF:=cM 4 (jt (dJ "Running" "moments" (aa 0)) (bh (aj (aa 1) (aj (aa 2) (aj (aa 3) ao)))))
noncomputable def dO:GF:=cM 3 (aH (aL 2 (wY (dJ "Running" "boxes" (aa 0))))
 (aH (xU 2 (aF (dJ "Running" "own" (aa 0)) (oN (eC (.int 1)))))
 (bD (rQ (aG (dh 40) (aj (aa 1) (aj (aa 2) ao)))))))
noncomputable def lC:GF:=cM 7 (aH (aL 3 (jO (dJ "Running" "boxes" (aa 0)) (aF (aa 2) (eC (.int 1)))))
 (aH (aL 4 (dD "Running" "value" dO (aa 0) (aj (aF (aa 2) (eC (.int 2))) ao)))
 (aH (aL 5 (dD "Running" "value" dO (aa 0) (aj (aF (aa 2) (eC (.int 3))) ao)))
 (aH (aL 6 (bW ao))
 (aH (bN (tT (aq sZ (aa 4) (gO (aa 3))) aU)
 (aH (vo (aa 3) (aa 4) (aa 5))
 (ig 6 (bh (aj (aF (aa 2) (eC (.int 1))) (aj (aa 4) (aj (aa 5) ao))))))
 bY)
 (rO 6 (jd (dD "Running" "note" eF (aa 0) (aj (aa 1) (aj (eC (.int 1)) (aj (aa 6) ao)))))))))))
noncomputable def mV:GF:=cM 3 (aH (aL 2 (dD "Plan" "row" pD (dJ "Running" "plan" (aa 0)) (aj (aa 1) ao)))
 (aH (jd (dD "Running" "note" eF (aa 0) (aj (aa 1) (aj (eC (.int 0)) (aj (dC (bW ao)) ao)))))
 (bN (tT (aq eqP (aF (aa 2) (eC (.int 0))) (eC (.str "if"))) aU)
 tD
 (bN (tT (aq eqP (aF (aa 2) (eC (.int 0))) (eC (.str "while"))) aU)
 tD
 (bN (tT (aq eqP (aF (aa 2) (eC (.int 0))) (eC (.str "call"))) aU)
 tD
 (bN (tT (aq eqP (aF (aa 2) (eC (.int 0))) (eC (.str "put"))) aU)
 (jd (dD "Running" "put" lC (aa 0) (aj (aa 1) (aj (aa 2) ao))))
 (jd (dD "Running" "note" eF (aa 0) (aj (aa 1) (aj (eC (.int 1)) (aj (dC (bW (aj (dD "Running" "give" jh (aa 0) (aj (aF (aa 2) (eC (.int 1))) (aj (dD "Running" "value" dO (aa 0) (aj (aF (aa 2) (eC (.int 2))) ao)) ao))) ao))) ao)))))))))))
noncomputable def gK:GF:=cM 2 (aH (aL 1 (xR (dJ "Running" "due" (aa 0))))
 (bN (tT (aq eqP (aF (aa 1) (eC (.int 1))) (eC (.int 0))) aU)
 (jd (dD "Running" "begin" mV (aa 0) (aj (aF (aa 1) (eC (.int 0))) ao)))
 (bN (tT (aq eqP (aF (aa 1) (eC (.int 1))) (eC (.int 2))) aU)
 tD
 (jd (dD "Running" "note" eF (aa 0) (aj (aF (aa 1) (eC (.int 0))) (aj (aF (aa 1) (eC (.int 1))) (aj (dC (bW ao)) ao))))))))
noncomputable def jJ:GF:=cM 4 (aH (jd (rQ (aG lB (aj (aa 0) (aj (aa 1) ao)))))
 (aH (aL 3 (tE "Running" fG (aj (aa 0) (aj (aa 1) (aj (aa 2) ao)))))
 (aH (rE 1000 (Ad (dJ "Running" "due" (aa 3)))
 (jd (dD "Running" "step" gK (aa 3) ao)))
 (o8 3))))
noncomputable def pG:GF:=cM 5 (aH (aL 1 (bW ao))
 (aH (gM (gC (nH (aa 0)) du) (fP 3 (aP (aJ 2) (aP (aJ 3) (aP (aJ 4) fO))))
 (nq 1 (dq (gC (nH (aa 4)) du) 3 [2] (fP 3 (aP (aJ 0) (aP (aJ 1) (aP (aJ 2) fO)))) dN (bh (aj (aa 3) (aj (aa 0) (aj (aa 1) (aj (aa 2) ao))))))))
 (o8 1)))
noncomputable def vK:GF:=cM 4 (aH (aL 3 (aG jJ (aj (aa 0) (aj (aa 1) (aj (aa 2) ao)))))
 (bD (bh (aj (dJ "Running" "word" (aa 3)) (aj (dC (aG pG (aj (dJ "Running" "moments" (aa 3)) ao))) (aj (aG tM (aj (aa 0) (aj (dJ "Running" "boxes" (aa 3)) ao))) ao))))))
noncomputable def oY:GF:=cM 3 (bD (dJ "Running" "moments" (aG jJ (aj (aa 0) (aj (aa 1) (aj (aa 2) ao))))))
noncomputable def bB:GF:=cM 3 (aH (aL 2 (aq bK (aq bK (aq cL (aa 1) (aa 1)) (aq cL (eC (.int 11)) (aa 1))) (eC (.int 3))))
 (aH (bN (tT (aq rJ (gO (aa 0)) (eC (.int 0))) aU)
 (aL 2 (aq bK (aq aQ (cV (aa 0) (aq aQ (aa 1) (gO (aa 0)))) (eC (.int 1000000000039))) (aq cL (aq ph (aa 1) (gO (aa 0))) (eC (.int 7907)))))
 bY)
 (bD (aq aQ (aq bK (aq cL (aa 2) (eC (.int 69621))) (aq cL (aq ph (aa 1) (eB max2 (aj (eC (.int 1)) (aj (gO (aa 0)) ao)))) (eC (.int 40014)))) (eC (.int 2147483629))))))
noncomputable def dR:GF:=cM 2 (aH (aL 1 (aq aQ (aa 0) (eC (.int 4))))
 (aH (bN (tT (aq fL (aa 1) (eC (.int 0))) aU)
 (bD (aq aQ (aq ph (aa 0) (eC (.int 4))) (eC (.int 6))))
 bY)
 (aH (bN (tT (aq fL (aa 1) (eC (.int 1))) aU)
 (bD (aq yM (aq yM (aq oJ (eC (.int 10)) (eC (.int 12))) (eC (.int 1))) (aq aQ (aq ph (aa 0) (eC (.int 4))) (eC (.int 4)))))
 bY)
 (aH (bN (tT (aq fL (aa 1) (eC (.int 2))) aU)
 (bD (aq bK (eC (.int 999997)) (aq aQ (aq ph (aa 0) (eC (.int 4))) (eC (.int 7)))))
 bY)
 (bD (aq aQ (aq cL (aa 0) (eC (.int 465661287))) (aq oJ (eC (.int 10)) (eC (.int 12)))))))))
noncomputable def cA:Nat->GF
 | 0=>fun _ _=>none
 | n+1=>cM 2 (aH (bN (tT (Px ["list", "tuple"] (aa 1)) jA)
  (aH (bN (mH (tT (aq pK (jC "list" (aa 0)) (jC "list" (aa 1))) aU) (tT (aq pK (jC "tuple" (aa 0)) (jC "tuple" (aa 1))) aU))
  (bD (eC (.bl false)))
  bY)
  (bD (lL (aq eqP (eB cF (aj (aa 0) ao)) (eB cF (aj (aa 1) ao))) (eB all1 (aj (dq (dm (aj (eB cF (aj (aa 1) ao)) ao)) 1 [0,1] (aJ 0) dN (aG (cA n) (aj (aF (aa 1) (aa 0)) (aj (aF (aa 2) (aa 0)) ao)))) ao)))))
  bY)
  (aH (bN (tT (jC "str" (aa 1)) jA)
  (bD (lL (jC "str" (aa 0)) (aq eqP (aa 0) (aa 1))))
  bY)
  (aH (bN (tT (aq Pa (aa 1) (eC .non)) aU)
  (bD (aq Pa (aa 0) (eC .non)))
  bY)
  (bD (lL (jC "int" (aa 0)) (lL (wK (jC "bool" (aa 0))) (aq eqP (aa 0) (aa 1))))))))
noncomputable def fY:GF:=cM 5 (aH (aL 3 (aq aQ (aa 0) (eC (.int 4))))
 (aH (bN (tT (aq eqP (aa 3) (eC (.int 0))) aU)
 (bD (bh (aj (eC (.str "num")) (aj (aG dR (aj (aq bQ (aa 0) (eC (.int 4))) ao)) ao))))
 bY)
 (aH (bN (jq (tT (aq eqP (aa 3) (eC (.int 1))) aU) (tT (aq rJ (eB cF (aj (aa 2) ao)) (eC (.int 0))) aU))
 (aH (aL 4 (bh (aj (eC (.str "num")) (aj (aq aQ (aq bQ (aa 0) (eC (.int 4))) (eC (.int 9))) ao))))
 (aH (bN (tT (aq eqP (aq aQ (aq bQ (aa 0) (eC (.int 36))) (eC (.int 2))) (eC (.int 1))) aU)
 (aL 4 (bh (aj (eC (.str "box")) (aj (aF (aa 1) (aq aQ (aq bQ (aa 0) (eC (.int 72))) (eB cF (aj (aa 1) ao)))) ao))))
 bY)
 (bD (bh (aj (eC (.str "@")) (aj (aF (aa 2) (aq aQ (aq bQ (aa 0) (eC (.int 216))) (eB cF (aj (aa 2) ao)))) (aj (aa 4) ao)))))))
 bY)
 (bD (bh (aj (eC (.str "box")) (aj (aF (aa 1) (aq aQ (aq bQ (aa 0) (eC (.int 4))) (eB cF (aj (aa 1) ao)))) ao)))))))
noncomputable def bR:GF:=cM 3 (bD (bh (aj (bh (aj (aa 0) (aj (aF (aa 1) (eC (.int 0))) (aj (aF (aa 2) (eC (.int 0))) ao)))) (aj (aq bK (aq bK (eC (.int 1)) (aF (aa 1) (eC (.int 1)))) (aF (aa 2) (eC (.int 1)))) (aj (aq bK (eC (.int 1)) (eB max2 (aj (aF (aa 1) (eC (.int 2))) (aj (aF (aa 2) (eC (.int 2))) ao)))) ao)))))
noncomputable def fu:GF:=cM 9 (aH (aL 3 (bh (aj (aG fY (aj (aq bQ (aa 0) (eC (.int 5))) (aj (aa 1) (aj (aa 2) ao)))) (aj (eC (.int 3)) (aj (eC (.int 2)) ao)))))
 (aH (gM (dm (aj (aq aQ (aa 0) (eC (.int 5))) ao)) (aJ 4)
 (aH (aL 0 (aq aQ (aq cL (aa 0) (eC (.int 48271))) (eC (.int 2147483563))))
 (aH (aL 5 (bh (aj (aG fY (aj (aq bQ (aa 0) (eC (.int 40))) (aj (aa 1) (aj (aa 2) ao)))) (aj (eC (.int 3)) (aj (eC (.int 2)) ao)))))
 (aH (aL 6 (bh (aj (aG fY (aj (aq aQ (aq cL (aa 0) (eC (.int 16807))) (eC (.int 2147483587))) (aj (aa 1) (aj (aa 2) ao)))) (aj (eC (.int 3)) (aj (eC (.int 2)) ao)))))
 (aH (aL 7 (aF (eC (.str "+-*<=")) (aq aQ (aq bQ (aa 0) (eC (.int 5))) (eC (.int 5)))))
 (aH (bN (jq (tT (aq eqP (aq aQ (aa 0) (eC (.int 5))) (eC (.int 0))) aU) (tT (aq rJ (eB cF (aj (aa 2) ao)) (eC (.int 0))) aU))
 (aL 8 (bh (aj (bh (aj (eC (.str "@")) (aj (aF (aa 2) (aq aQ (aq bQ (aa 0) (eC (.int 25))) (eB cF (aj (aa 2) ao)))) (aj (aF (aa 3) (eC (.int 0))) ao)))) (aj (aq bK (eC (.int 2)) (aF (aa 3) (eC (.int 1)))) (aj (aq bK (eC (.int 1)) (aF (aa 3) (eC (.int 2)))) ao)))))
 (bN (tT (aq eqP (aq aQ (aa 0) (eC (.int 5))) (eC (.int 1))) aU)
 (aL 8 (aG bR (aj (aa 7) (aj (aa 5) (aj (aa 3) ao)))))
 (bN (tT (aq eqP (aq aQ (aa 0) (eC (.int 5))) (eC (.int 2))) aU)
 (aL 8 (aG bR (aj (aa 7) (aj (aG bR (aj (aF (eC (.str "+-*<=")) (aq aQ (aq bQ (aa 0) (eC (.int 25))) (eC (.int 5)))) (aj (aa 5) (aj (aa 6) ao)))) (aj (aa 3) ao)))))
 (aL 8 (aG bR (aj (aa 7) (aj (aa 3) (aj (aa 5) ao))))))))
 (bN (jq (tT (aq uB (aF (aa 8) (eC (.int 1))) (eC (.int 24))) aU) (tT (aq uB (aF (aa 8) (eC (.int 2))) (eC (.int 6))) aU))
 (aL 3 (aa 8))
 bY)))))))
 (bD (aF (aa 3) (eC (.int 0))))))
noncomputable def cN:Nat->GF
 | 0=>fun _ _=>none
 | n+1=>cM 5 (aH (bN (tT (aq fL (cV (aa 0) (eC (.int 0))) (eC (.str "num"))) aU)
  (bD (cV (aa 0) (eC (.int 1))))
  bY)
  (aH (bN (tT (aq fL (cV (aa 0) (eC (.int 0))) (eC (.str "box"))) aU)
  (bD (cV (aa 1) (cV (aa 0) (eC (.int 1)))))
  bY)
  (aH (bN (tT (aq fL (cV (aa 0) (eC (.int 0))) (eC (.str "@"))) aU)
  (aH (aL 2 (aG (cN n) (aj (cV (aa 0) (eC (.int 2))) (aj (aa 1) ao))))
  (bD (cV (aq bK (cV (aa 1) (cV (aa 0) (eC (.int 1)))) (bW (aj (eC (.int 0)) ao))) (eB min2 (aj (aa 2) (aj (gO (cV (aa 1) (cV (aa 0) (eC (.int 1))))) ao))))))
  bY)
  (aH (aL 3 (aG (cN n) (aj (cV (aa 0) (eC (.int 1))) (aj (aa 1) ao))))
  (aH (aL 4 (aG (cN n) (aj (cV (aa 0) (eC (.int 2))) (aj (aa 1) ao))))
  (aH (bN (tT (aq QL (cV (aa 0) (eC (.int 0))) (bh (aj (eC (.str "<")) (aj (eC (.str "=")) ao)))) aU)
  (bD (aq cL (eB rM (aj (yp (aq sZ (aa 3) (aa 4)) (aq fL (cV (aa 0) (eC (.int 0))) (eC (.str "=")))) ao)) (eB rM (aj (yp (aq fL (aa 3) (aa 4)) (aq fL (cV (aa 0) (eC (.int 0))) (eC (.str "<")))) ao))))
  bY)
  (aH (bN (tT (aq fL (cV (aa 0) (eC (.int 0))) (eC (.str "*"))) aU)
  (bD (aq aQ (aq cL (aa 3) (aa 4)) (aq oJ (eC (.int 10)) (eC (.int 12)))))
  bY)
  (bD (aq aQ (aq bK (aa 3) (cV (bW (aj (aa 4) (aj (aq yM (aq oJ (eC (.int 10)) (eC (.int 12))) (aa 4)) ao))) (eB rM (aj (aq fL (cV (aa 0) (eC (.int 0))) (eC (.str "-"))) ao)))) (aq oJ (eC (.int 10)) (eC (.int 12))))))))))))
noncomputable def lD:GF:=cM 7 (aH (aL 4 (aG fu (aj (aa 1) (aj (aa 2) (aj (aa 3) ao)))))
 (aH (aL 5 (aF (aa 2) (aq aQ (aq bQ (aa 0) (eC (.int 4))) (eB cF (aj (aa 2) ao)))))
 (aH (bN (tT (aq eqP (aq aQ (aa 0) (eC (.int 4))) (eC (.int 0))) aU)
 (bD (bh (aj (eC (.str "out")) (aj (aa 5) (aj (aa 4) (aj (eC (.str "may")) ao))))))
 bY)
 (aH (bN (mH (tT (aq eqP (aq aQ (aa 0) (eC (.int 4))) (eC (.int 1))) aU) (tT (aq eqP (eB cF (aj (aa 3) ao)) (eC (.int 0))) aU))
 (bD (bh (aj (eC (.str "set")) (aj (aa 5) (aj (aa 4) ao)))))
 bY)
 (aH (aL 6 (bh (aj (eC (.str "num")) (aj (aq aQ (aq bQ (aa 0) (eC (.int 8))) (eC (.int 9))) ao))))
 (aH (bN (tT (aq eqP (aq aQ (aq bQ (aa 0) (eC (.int 4))) (eC (.int 2))) (eC (.int 1))) aU)
 (aL 6 (aG fu (aj (aq bQ (aa 0) (eC (.int 72))) (aj (aa 2) (aj (aa 3) ao)))))
 bY)
 (bD (bh (aj (eC (.str "put")) (aj (aF (aa 3) (aq aQ (aq bQ (aa 0) (eC (.int 144))) (eB cF (aj (aa 3) ao)))) (aj (aa 6) (aj (aa 4) ao))))))))))))
noncomputable def gA:GF:=cM 7 (aH (aL 1 (aG bB (aj (aa 0) (aj (eC (.int 0)) ao))))
 (aH (aL 2 (nC (bW (aj (eC (.str "an")) (aj (eC (.str "n")) (aj (eC (.str "a")) ao)))) ie (gF (aq bK (eC (.int 1)) (aq aQ (aa 1) (eC (.int 3)))))))
 (aH (aL 3 (nC (bW (aj (eC (.str "r")) (aj (eC (.str "anr")) ao))) ie (gF (aq aQ (aq bQ (aa 1) (eC (.int 3))) (eC (.int 3))))))
 (aH (aL 4 (dq (gC (aa 2) du) 1 [] (aJ 0) dN (bh (aj (aa 0) (aj (eC (.int 0)) (aj (eC .non) ao))))))
 (aH (gM (dm (aj (eB cF (aj (aa 3) ao)) ao)) (aJ 5)
 (Bu 4 (aj (aq aQ (aq bQ (aa 1) (eC (.int 648))) (aq bK (aa 5) (eC (.int 2)))) (aj (bh (aj (aF (aa 3) (aa 5)) (aj (aq bK (eC (.int 1)) (aq aQ (aq bQ (aa 1) (aq bK (eC (.int 9)) (aq cL (eC (.int 72)) (aa 5)))) (eC (.int 8)))) (aj (eC .non) ao)))) ao))))
 (aH (aL 6 (bW ao))
 (aH (gM (dm (aj (aq aQ (aG bB (aj (aa 0) (aj (eC (.int 1)) ao))) (eC (.int 41))) ao)) (aJ 5)
 (ig 6 (aG lD (aj (aG bB (aj (aa 0) (aj (aq bK (eC (.int 3)) (aq cL (eC (.int 2)) (aa 5))) ao))) (aj (aG bB (aj (aa 0) (aj (aq bK (eC (.int 4)) (aq cL (eC (.int 2)) (aa 5))) ao))) (aj (aa 2) (aj (aa 3) ao)))))))
 (bD (bh (aj (aa 4) (aj (bW (aj (bh (aj (eC (.str "may")) (aj (eC (.str "high")) (aj (eC (.str "low")) ao)))) ao)) (aj (bW ao) (aj (aa 6) ao)))))))))))))
noncomputable def fJ:GF:=cM 5 (aH (aL 2 (bW ao))
 (aH (gM (dm (aj (eB cF (aj (aF (aa 1) (eC (.int 0))) ao)) ao)) (aJ 3)
 (aH (aL 4 (aq aQ (aq cL (aq bK (aG bB (aj (aa 0) (aj (eC (.int 2)) ao))) (aa 3)) (aq bK (aq cL (aa 3) (aa 3)) (eC (.int 40014)))) (eC (.int 2147483563))))
 (bN (tT (aq eqP (aF (aF (aF (aa 1) (eC (.int 0))) (aa 3)) (eC (.int 1))) (eC (.int 0))) aU)
 (ig 2 (aG dR (aj (aa 4) ao)))
 (ig 2 (dq (dm (aj (aF (aF (aF (aa 1) (eC (.int 0))) (aa 3)) (eC (.int 1))) ao)) 1 [4] (aJ 0) dN (aG dR (aj (aq aQ (aq cL (aa 1) (aq bK (aa 0) (eC (.int 16807)))) (eC (.int 2147483587))) ao)))))))
 (o8 2)))
noncomputable def pH:GF:=cM 6 (aH (aL 2 (bW ao))
 (aH (gM (dm (aj (eB cF (aj (aa 0) ao)) ao)) (aJ 3)
 (aH (aL 4 (aF (aa 0) (aa 3)))
 (aH (ig 2 (bh (aj (aa 3) (aj (eC (.int 0)) (aj (bW ao) ao)))))
 (aH (aL 5 (bW (aj (bh (aj (aF (aa 4) (eC (.int 1))) (aj (eC (.int 0)) (aj (fW (cN 40) (aj (aF (aa 4) (eC (.int 2))) (aj (aa 1) ao))) ao)))) ao)))
 (aH (bN (tT (aq eqP (aF (aa 4) (eC (.int 0))) (eC (.str "put"))) aU)
 (aH (aL 5 (bW (aj (bh (aj (aF (aa 4) (eC (.int 1))) (aj (aF (aF (aa 5) (eC (.int 0))) (eC (.int 2))) (aj (fW (cN 40) (aj (aF (aa 4) (eC (.int 3))) (aj (aa 1) ao))) ao)))) ao)))
 (bN (tT (aq QQ (aF (aF (aa 5) (eC (.int 0))) (eC (.int 1))) (gO (jO (aa 1) (aF (aa 4) (eC (.int 1)))))) aU)
 (aL 5 (bW ao))
 (vo (jO (aa 1) (aF (aa 4) (eC (.int 1)))) (aF (aF (aa 5) (eC (.int 0))) (eC (.int 1))) (aF (aF (aa 5) (eC (.int 0))) (eC (.int 2))))))
 (xT (aa 1) (aF (aa 4) (eC (.int 1))) (aF (aF (aa 5) (eC (.int 0))) (eC (.int 2)))))
 (ig 2 (bh (aj (aa 3) (aj (eC (.int 1)) (aj (aa 5) ao))))))))))
 (bD (aq bK (aa 2) (nC (dq (dm (aj (eB cF (aj (aa 0) ao)) ao)) 1 [] (aJ 0) dN (bh (aj (aa 0) (aj (eC (.int 3)) (aj (bW ao) ao))))) (gF (oN (eC (.int 1)))) ie)))))
noncomputable def iJ:GF:=cM 5 (aH (aL 2 (bW ao))
 (aH (gM (dm (aj (eB cF (aj (aF (aa 1) (eC (.int 0))) ao)) ao)) (aJ 3)
 (aH (aL 4 (aq aQ (aq cL (aq bK (aG bB (aj (aa 0) (aj (eC (.int 2)) ao))) (aa 3)) (aq bK (aq cL (aa 3) (aa 3)) (eC (.int 40014)))) (eC (.int 2147483563))))
 (bN (tT (aq eqP (aF (aF (aF (aa 1) (eC (.int 0))) (aa 3)) (eC (.int 1))) (eC (.int 0))) aU)
 (ig 2 (aG dR (aj (aa 4) ao)))
 (ig 2 (dC (dq (dm (aj (aF (aF (aF (aa 1) (eC (.int 0))) (aa 3)) (eC (.int 1))) ao)) 1 [4] (aJ 0) dN (aG dR (aj (aq aQ (aq cL (aa 1) (aq bK (aa 0) (eC (.int 16807)))) (eC (.int 2147483587))) ao))))))))
 (o8 2)))
noncomputable def Kd:GF:=cM 15 (aH (aL 1 (aG gA (aj (aa 0) ao)))
 (aH (aL 2 (dC (aG fJ (aj (aa 0) (aj (aa 1) ao)))))
 (aH (aL 3 lX)
 (aH (gM (wX (aF (aa 1) (eC (.int 0))) (aG iJ (aj (aa 0) (aj (aa 1) ao)))) (fP 2 (aP (aJ 4) (aP (aJ 5) fO)))
 (o9 3 (aF (aa 4) (eC (.int 0))) (aa 5)))
 (aH (rO 3 (aL 6 (aG pH (aj (aF (aa 1) (eC (.int 3))) (aj (aa 3) ao)))))
 (aH (aL 7 (bW ao))
 (aH (gM (gC (aa 6) du) (fP 3 (aP (aJ 8) (aP (aJ 9) (aP (aJ 10) fO))))
 (nq 7 (dq (gC (aa 10) du) 3 [8] (fP 3 (aP (aJ 0) (aP (aJ 1) (aP (aJ 2) fO)))) dN (bh (aj (aa 3) (aj (aa 0) (aj (aa 1) (aj (aa 2) ao))))))))
 (aH (aL 11 (bh (aj (eC (.str "done")) (aj (aa 7) (aj (dq (gC (aF (aa 1) (eC (.int 0))) du) 1 [3] (aJ 0) dN (jO (aa 1) (aF (aa 0) (eC (.int 0))))) ao)))))
 (aH (aL 12 (aq aQ (aq bQ (aG bB (aj (aa 0) (aj (eC (.int 1)) ao))) (eC (.int 41))) (eC (.int 21))))
 (aH (aL 13 (aG vK (aj (aa 1) (aj (aa 2) (aj (aa 12) ao)))))
 (aH (aL 14 (aG oY (aj (aa 1) (aj (aa 2) (aj (aa 12) ao)))))
 (aH (bN (mH (jM (tT (fW (cA 40) (aj (aa 13) (aj (aa 11) ao))) jA)) (jM (tT (fW (cA 40) (aj (aa 14) (aj (aa 6) ao))) jA)))
 (bD (eC (.bl false)))
 bY)
 (aH (bN (mH (pR (tT (aq pK (aa 2) (aG fJ (aj (aa 0) (aj (aa 1) ao)))) aU)) (tT (aq pK (aa 1) (aG gA (aj (aa 0) ao))) aU))
 (bD (eC (.bl false)))
 bY)
 (aH (jt (aa 2) (eC (.int 3)))
 (aH (jt (aF (aa 13) (eC (.int 1))) (aF (aa 13) (eC (.int 2))))
 (aH (bN (tT (aq rJ (gO (aa 14)) (eC (.int 0))) aU)
 (jt (aF (aF (aa 14) (eC (.int 0))) (eC (.int 2))) (eC (.int 1)))
 bY)
 (aH (bN (pR (tT (aq pK (nC (aa 14) (gF (eC (.int 1))) ie) (nC (aa 6) (gF (eC (.int 1))) ie)) aU))
 (bD (eC (.bl false)))
 bY)
 (aH (jt (aa 14) (Gs (aa 14) ie (gF (eC (.int 1)))))
 (aH (aL 2 (dC (aG fJ (aj (aa 0) (aj (aa 1) ao)))))
 (aH (bN (jM (tT (fW (cA 40) (aj (aG vK (aj (aa 1) (aj (aa 2) (aj (aa 12) ao)))) (aj (aa 11) ao))) jA))
 (bD (eC (.bl false)))
 bY)
 (bD (fW (cA 40) (aj (aG oY (aj (aa 1) (aj (aa 2) (aj (aa 12) ao)))) (aj (aa 6) ao))))))))))))))))))))))))
variable {P:Program} {w:World} {K:FG} {mg:Str->Option Value} {base:Heap}
theorem xW {X:Cx} {pos:Pos} (h:∃ t,X.mg "LIMIT" = some (.int 1000000000000 t)) (hg:Gl X "LIMIT"):PE X (.Name "LIMIT" pos) (tP X.K (eC qT)):=by
 obtain ⟨t,h⟩:=h
 exact qc (Rb (v:=.int 1000000000000) hg h ⟨_,rfl⟩) eN
noncomputable abbrev BL:List Str:=["ValueError", "all", "bool", "dict", "enumerate", "int", "isinstance", "len", "list", "max", "min", "range", "reversed", "str", "tuple", "zip"]
section
variable {mg:Str->Option Value} (B:Ig mg BL)
include B
theorem V5:mg "ValueError" = none:=B _ (.head _)
theorem QX:mg "all" = none:=B _ (mI 1 rfl)
theorem M3:mg "bool" = none:=B _ (mI 2 rfl)
theorem V6:mg "dict" = none:=B _ (mI 3 rfl)
theorem yq:mg "enumerate" = none:=B _ (mI 4 rfl)
theorem Af:mg "int" = none:=B _ (mI 5 rfl)
theorem di:mg "isinstance" = none:=B _ (mI 6 rfl)
theorem dw:mg "len" = none:=B _ (mI 7 rfl)
theorem nU:mg "list" = none:=B _ (mI 8 rfl)
theorem QZ:mg "max" = none:=B _ (mI 9 rfl)
theorem W9:mg "min" = none:=B _ (mI 10 rfl)
theorem jY:mg "range" = none:=B _ (mI 11 rfl)
theorem Ke:mg "reversed" = none:=B _ (mI 12 rfl)
theorem Q0:mg "str" = none:=B _ (.tail _ (mI 12 rfl))
theorem By:mg "tuple" = none:=B _ (.tail _ (.tail _ (mI 12 rfl)))
theorem Kf:mg "zip" = none:=B _ (.tail _ (.tail _ (.tail _ (mI 12 rfl))))
end
section
variable (P:Program) (w:World) (K:FG) (mg:Str->Option Value) (base:Heap) (c:Addr)
abbrev sy:=cg P w K mg base "blocks_of" 1 ["row"] (cB K 1 pC)
abbrev CZ:=cg P w K mg base "copied" 40 ["row"] (cB K 1 (kY 40))
abbrev Tt:=cg P w K mg base "all_copied" 40 ["rows"] (cB K 1 (iI 40))
abbrev Ho:=cg P w K mg base "laid_out" 80 ["where", "above", "block", "rows", "start"] (cB K 5 (ik 40))
abbrev yr:=cg P w K mg base "numbered" 81 ["program"] (cB K 1 qN)
abbrev sE:=cg P w K mg base "number_at" 1 ["numbers", "place"] (cB K 2 uo)
abbrev uq:=cg P w K mg base "reckoned" 1 ["sign", "one", "other"] (cB K 3 vJ)
abbrev Hq:=cg P w K mg base "value_of" 41 ["expression", "boxes"] (cB K 2 (dh 40))
abbrev uM:=cg P w K mg base "can_be_held" 1 ["thing"] (cB K 1 gP)
abbrev Gx:=cg P w K mg base "suits" 2 ["size", "thing"] (cB K 2 uL)
abbrev tO:=cg P w K mg base "refuse_input" 3 ["program", "values"] (cB K 2 lB)
abbrev Dd:=cg P w K mg base "filled" 1 ["program", "values"] (cB K 2 sr)
abbrev Ag:=cg P w K mg base "emptied" 1 ["program", "boxes"] (cB K 2 tM)
abbrev xZ:=J6 P w K mg base c 82 ["self", "program"] (cB K 2 gq)
abbrev vZ:=qp P w K mg base c "body" 1 ["self", "name"] (cB K 2 nT)
abbrev tQ:=qp P w K mg base c "lay" 1 ["self", "numbers"] (cB K 2 oX)
abbrev nW:=qp P w K mg base c "lay_body" 2 ["self", "name"] (cB K 2 j6)
abbrev vL:=J6 P w K mg base c 84 ["self", "program", "values", "budget"] (cB K 4 fG)
abbrev wZ:=qp P w K mg base c "row" 1 ["self", "k"] (cB K 2 pD)
abbrev sG:=qp P w K mg base c "give" 1 ["self", "name", "value"] (cB K 3 jh)
abbrev jQ:=qp P w K mg base c "note" 1 ["self", "k", "time", "events"] (cB K 4 eF)
abbrev lN:=qp P w K mg base c "value" 42 ["self", "expression"] (cB K 2 dO)
abbrev tR:=qp P w K mg base c "put" 43 ["self", "k", "row"] (cB K 3 lC)
abbrev qx:=qp P w K mg base c "begin" 44 ["self", "k"] (cB K 2 mV)
abbrev sH:=qp P w K mg base c "step" 45 ["self"] (cB K 1 gK)
abbrev nY:=cg P w K mg base "gone_through" 86 ["program", "values", "budget"] (cB K 3 jJ)
abbrev w5:=cg P w K mg base "record_of" 1 ["moments"] (cB K 1 pG)
abbrev M4:=cg P w K mg base "run" 87 ["program", "values", "budget"] (cB K 3 vK)
abbrev De:=cg P w K mg base "traced" 87 ["program", "values", "budget"] (cB K 3 oY)
abbrev kZ:=cg P w K mg base "_law_cell" 1 ["_law_script", "_law_k"] (cB K 2 bB)
abbrev lE:=cg P w K mg base "_law_number" 1 ["_law_cell_here"] (cB K 1 dR)
abbrev Dt:=cg P w K mg base "_law_alike" 40 ["_law_got", "_law_due"] (cB K 2 (cA 40))
abbrev w6:=cg P w K mg base "_law_leaf" 2 ["_law_cell_here", "_law_nums", "_law_lists"] (cB K 3 fY)
abbrev uN:=cg P w K mg base "_law_joined" 1 ["_law_sign", "_law_one", "_law_other"] (cB K 3 bR)
abbrev pU:=cg P w K mg base "_law_expression" 3 ["_law_cell_here", "_law_nums", "_law_lists"] (cB K 3 fu)
abbrev Du:=cg P w K mg base "_law_worth" 40 ["_law_e", "_law_boxes"] (cB K 2 (cN 40))
abbrev yt:=cg P w K mg base "_law_row" 4 ["_law_a", "_law_b", "_law_nums", "_law_lists"] (cB K 4 lD)
abbrev tU:=cg P w K mg base "_law_program" 5 ["_law_script"] (cB K 1 gA)
abbrev uO:=cg P w K mg base "_law_values" 2 ["_law_script", "_law_program_here"] (cB K 2 fJ)
abbrev xf:=cg P w K mg base "_law_laid" 41 ["_law_rows", "_law_boxes"] (cB K 2 pH)
abbrev qy:=cg P w K mg base "_law_values" 2 ["_law_script", "_law_program_here"] (cB K 2 iJ)
end
variable (B:Ig mg BL) (abb:∃ t,mg "LIMIT" = some (.int 1000000000000 t)) {abq:Addr} (abd:ue K mg "Plan" abq) (abe:∀ f∈(["told", "lists", "heads"]:List Str),jy K abq f) {abf:Addr} (aa9:ue K mg "Running" abf) (aba:∀ f∈(["plan", "boxes", "own", "budget", "word", "moments", "due"]:List Str),jy K abf f) (hkx:HK.hk=zH P w)
include B abb abd abe aa9 aba hkx
theorem Gy (F:cR K mg "blocks_of" uf ["row"]):sy P w K mg base:=
 F.ok (k:=0) Gu fun f cdv A outer s H E hr=>⟨_,fun _ _=>rfl,(aA (bJ (bF (cX hr) cY (qI (qw 0)) dF (aR _))
  (aD (aZ (fM (ak (qI (qw 0)) (ak (qI (qw 0)) au)))))
  bC)
  (aA (bJ (bF (cX hr) cY (qI (qw 0)) dF (aR _))
  (aD (aZ (fM (ak (qI (qw 0)) au))))
  bC)
  (aD (aZ (fM au)))))⟩
theorem M5 {n:Nat} (F:cR K mg "copied" vC ["row"]) (abG:cg P w K mg base "all_copied" (0+n) ["rows"] (cB K 1 (iI n))):cg P w K mg base "copied" (0+n+1) ["row"] (cB K 1 (kY (n+1))):=
 F.ok (k:=0+n) MK fun f cdv A outer s H E hr=>⟨_,fun _ _=>rfl,(aA (bJ (bF (cX hr) cY (qI (qw 0)) dF (aR _))
  (aD (aZ (dI (ak dF (ak (qI (qw 0)) (ak (bw abG (hr.mono (by omega)) rfl (ak (qI (qw 0)) au) (az aO)) (ak (bw abG (hr.mono (by omega)) rfl (ak (qI (qw 0)) au) (az aO)) au)))))))
  bC)
  (aA (bJ (bF (cX hr) cY (qI (qw 0)) dF (aR _))
  (aD (aZ (dI (ak dF (ak (qI (qw 0)) (ak (bw abG (hr.mono (by omega)) rfl (ak (qI (qw 0)) au) (az aO)) au))))))
  bC)
  (aA (bJ (bF (cX hr) cY (qI (qw 0)) dF (aR _))
  (aD (aZ (dI (ak dF (ak (qI (qw 0)) (ak (qI (qw 0)) (ak (PE.imp (j9 rz (by rfl) (nU B) (by kernel_rfl) (ak (qI (qw 0)) au)) (rK Bq)) au)))))))
  bC)
  (aD (mY (pv 0))))))⟩
theorem Dv {n:Nat} (F:cR K mg "all_copied" kJ ["rows"]) (abx:cg P w K mg base "copied" (0+n) ["row"] (cB K 1 (kY n))):cg P w K mg base "all_copied" (0+n+1) ["rows"] (cB K 1 (iI (n+1))):=
 F.ok (k:=0+n) Dq fun f cdv A outer s H E hr=>⟨_,fun _ _=>rfl,(aD (aZ (mj ["row"] [] [] rfl (uJ (aK kJ)) (jF (qw 0)) (fun _ _ _ _=>(d9 0 (show (["row"]:List Str).Nodup from by decide +kernel))) aX (fun _ _ _ _=>gm) (fun _ _ _ _=>(bw abx (hr.mono (by omega)) rfl (ak (qw 0) au) (az aO))))))⟩
theorem Ah (ab4:cR K mg "copied" vC ["row"]) (abM:cR K mg "all_copied" kJ ["rows"]):∀ n:Nat,cg P w K mg base "copied" (0+n) ["row"] (cB K 1 (kY n))/\cg P w K mg base "all_copied" (0+n) ["rows"] (cB K 1 (iI n))
 | 0=>⟨qP ab4,qP abM⟩
 | n+1=>by
  have ih:=Ah ab4 abM n
  exact ⟨M5 B abb abd abe aa9 aba hkx ab4 ih.2,Dv B abb abd abe aa9 aba hkx abM ih.1⟩
theorem Hr {n:Nat} (F:cR K mg "laid_out" qJ ["where", "above", "block", "rows", "start"]) (abt:sy P w K mg base) (abx:CZ P w K mg base) (aby:cg P w K mg base "laid_out" (40+n) ["where", "above", "block", "rows", "start"] (cB K 5 (ik n))):cg P w K mg base "laid_out" (40+n+1) ["where", "above", "block", "rows", "start"] (cB K 5 (ik (n+1))):=
 F.ok (k:=40+n) jW fun f cdv A outer s H E hr=>⟨_,fun _ _=>rfl,(aA (cU 5 jW.nd (fM au))
  (aA (iG Zh rfl (jF (qw 3)) (d9 6 jW.nd) aX
  (aA (cU 7 jW.nd (Ea (aV cO cP (qw 4) (qL (dw B) (qw 5)))))
  (aA (vB (pv 5) (dI (ak (qw 0) (ak (qw 1) (ak (qw 2) (ak (bw abx (hr.mono (by omega)) rfl (ak (qw 6) au) (az aO)) au))))))
  (aD (iG Zh rfl (Ii rfl (yq B) (ak (bw abt (hr.mono (by omega)) rfl (ak (qw 6) au) (az aO)) au)) (jD rfl (bH (d9 8 jW.nd) (bH (d9 9 jW.nd) iy))) (jE (bZ aX (bZ aX jB)))
  (aD (Gp (pv 5) (bw aby (hr.mono (by omega)) rfl (ak (qw 0) (ak (qw 7) (ak (qw 8) (ak (qw 9) (ak (Ea (aV cO cP (qw 4) (qL (dw B) (qw 5)))) au))))) (az (az (az (az (az aO)))))))))))))
  (aD (mY (pv 5)))))⟩
theorem xg (abT:cR K mg "laid_out" qJ ["where", "above", "block", "rows", "start"]) (abt:sy P w K mg base) (abx:CZ P w K mg base):∀ n:Nat,cg P w K mg base "laid_out" (40+n) ["where", "above", "block", "rows", "start"] (cB K 5 (ik n))
 | 0=>qP abT
 | n+1=>by
  have ih:=xg abT abt abx n
  exact Hr B abb abd abe aa9 aba hkx abT abt abx ih
theorem Hs (F:cR K mg "numbered" vD ["program"]) (aby:Ho P w K mg base):yr P w K mg base:=
 F.ok (k:=80) jX fun f cdv A outer s H E hr=>⟨_,fun _ _=>rfl,(aA (cU 1 jX.nd (fM au))
  (aA (iG Zh rfl (jF (qI (qw 0))) (jD rfl (bH (d9 2 jX.nd) (bH (d9 3 jX.nd) (bH (d9 4 jX.nd) (bH (d9 5 jX.nd) iy))))) (jE (bZ aX (bZ aX (bZ aX (bZ aX jB)))))
  (aD (Gp (pv 1) (bw aby (hr.mono (by omega)) rfl (ak (qw 2) (ak Gn (ak aM (ak (qw 5) (ak (Ea (qL (dw B) (qw 1))) au))))) (az (az (az (az (az aO)))))))))
  (aA (Gp (pv 1) (bw aby (hr.mono (by omega)) rfl (ak dF (ak Gn (ak aM (ak (qI (qw 0)) (ak (Ea (qL (dw B) (qw 1))) au))))) (az (az (az (az (az aO)))))))
  (aD (mY (pv 1))))))⟩
theorem Gz (F:cR K mg "number_at" ug ["numbers", "place"]):sE P w K mg base:=
 F.ok (k:=0) Gv fun f cdv A outer s H E hr=>⟨_,fun _ _=>rfl,(aD (aZ (Ma (RW DN zp zU wN aM (qw 1) (vz (cu iC (by rfl) (dw B) ZF (ak (qw 0) au)))) (gJ (cz hr) (qw 0) (qw 1) (fun _ _=>rfl)) aM)))⟩
theorem Ht (F:cR K mg "reckoned" vG ["sign", "one", "other"]):uq P w K mg base:=
 F.ok (k:=0) Hn fun f cdv A outer s H E hr=>⟨_,fun _ _=>rfl,(aA (bJ (bF (f9 hr) eU (qw 0) dF (aR _))
  (aD (aZ (aV bM bz (aV cO cP (qw 1) (qw 2)) (xW abb rfl))))
  bC)
  (aA (bJ (bF (f9 hr) eU (qw 0) dF (aR _))
  (aD (aZ (aV bM bz (aV zm xO (qw 1) (qw 2)) (xW abb rfl))))
  bC)
  (aA (bJ (bF (f9 hr) eU (qw 0) dF (aR _))
  (aD (aZ (aV bM bz (aV fQ eO (qw 1) (qw 2)) (xW abb rfl))))
  bC)
  (aA (bJ (bF (f9 hr) eU (qw 0) dF (aR _))
  (aD (aZ (Ma (bF zp wN (qw 1) (qw 2) (aR _)) aM aM)))
  bC)
  (aD (aZ (Ma (bF (f9 hr) eU (qw 1) (qw 2) (aR _)) aM aM)))))))⟩
theorem Hu {n:Nat} (F:cR K mg "value_of" qK ["expression", "boxes"]) (abu:sE P w K mg base) (abz:uq P w K mg base) (abp:cg P w K mg base "value_of" (1+n) ["expression", "boxes"] (cB K 2 (dh n))):cg P w K mg base "value_of" (1+n+1) ["expression", "boxes"] (cB K 2 (dh (n+1))):=
 F.ok (k:=1+n) Hm fun f cdv A outer s H E hr=>⟨_,fun _ _=>rfl,(aA (bJ (bF (f9 hr) eU (gJ (cz hr) (qw 0) aM (fun _ _=>rfl)) dF (aR _))
  (aD (aZ (gJ (cz hr) (qw 0) aM (fun _ _=>rfl))))
  bC)
  (aA (bJ (bF (f9 hr) eU (gJ (cz hr) (qw 0) aM (fun _ _=>rfl)) dF (aR _))
  (aD (aZ (gJ (cz hr) (qw 1) (gJ (cz hr) (qw 0) aM (fun _ _=>rfl)) (fun _ _=>rfl))))
  bC)
  (aA (bJ (bF (f9 hr) eU (gJ (cz hr) (qw 0) aM (fun _ _=>rfl)) dF (aR _))
  (aD (aZ (bw abu (hr.mono (by omega)) rfl (ak (gJ (cz hr) (qw 1) (gJ (cz hr) (qw 0) aM (fun _ _=>rfl)) (fun _ _=>rfl)) (ak (bw abp (hr.mono (by omega)) rfl (ak (gJ (cz hr) (qw 0) aM (fun _ _=>rfl)) (ak (qw 1) au)) (az (az aO))) au)) (az (az aO)))))
  bC)
  (aD (aZ (bw abz (hr.mono (by omega)) rfl (ak (gJ (cz hr) (qw 0) aM (fun _ _=>rfl)) (ak (bw abp (hr.mono (by omega)) rfl (ak (gJ (cz hr) (qw 0) aM (fun _ _=>rfl)) (ak (qw 1) au)) (az (az aO))) (ak (bw abp (hr.mono (by omega)) rfl (ak (gJ (cz hr) (qw 0) aM (fun _ _=>rfl)) (ak (qw 1) au)) (az (az aO))) au))) (az (az (az aO)))))))))⟩
theorem xj (abU:cR K mg "value_of" qK ["expression", "boxes"]) (abu:sE P w K mg base) (abz:uq P w K mg base):∀ n:Nat,cg P w K mg base "value_of" (1+n) ["expression", "boxes"] (cB K 2 (dh n))
 | 0=>qP abU
 | n+1=>by
  have ih:=xj abU abu abz n
  exact Hu B abb abd abe aa9 aba hkx abU abu abz ih
theorem BJ (F:cR K mg "can_be_held" qe ["thing"]):uM P w K mg base:=
 F.ok (k:=0) Bw fun f cdv A outer s H E hr=>⟨_,fun _ _=>rfl,(aD (aZ (wL (uE (cu dW (by rfl) (di B) (by kernel_rfl) (cG (qw 0) (cG (gk (v:=.ty "int") (u:=.type "int") rfl (Af B) (by kernel_rfl) rfl) gQ)))) (wL (Vh (uE (cu dW (by rfl) (di B) (by kernel_rfl) (cG (qw 0) (cG (gk (v:=.ty "bool") (u:=.type "bool") rfl (M3 B) (by kernel_rfl) rfl) gQ))))) (yI (Vt DN zp zU wN aM (qw 0) (xW abb rfl)))))))⟩
theorem PB (F:cR K mg "suits" xV ["size", "thing"]) (abC:uM P w K mg base):Gx P w K mg base:=
 F.ok (k:=1) Pz fun f cdv A outer s H E hr=>⟨_,fun _ _=>rfl,(aA (bJ (bF (cX hr) cY (qw 0) aM (aR _))
  (aD (aZ (bw abC (hr.mono (by omega)) rfl (ak (qw 1) au) (az aO))))
  bC)
  (aD (aZ (wL (uE (cu dW (by rfl) (di B) (by kernel_rfl) (cG (qw 1) (cG (gk (v:=.ty "list") (u:=.type "list") rfl (nU B) (by kernel_rfl) rfl) gQ)))) (wL (ud (cX hr) cY (qL (dw B) (qw 1)) (qw 0) (aR _)) (yI (uD (vq rfl) Mp (cu (vq rfl) (by rfl) (QX B) (by kernel_rfl) (ak (mj ["part"] [] [] rfl (uJ (aK xV)) (jF (qw 1)) (fun _ _ _ _=>(d9 0 (show (["part"]:List Str).Nodup from by decide +kernel))) aX (fun _ _ _ _=>gm) (fun _ _ _ _=>(bw abC (hr.mono (by omega)) rfl (ak (qw 0) au) (az aO)))) au)))))))))⟩
theorem Ai (F:cR K mg "refuse_input" oU ["program", "values"]) (acd:Gx P w K mg base):tO P w K mg base:=
 F.ok (k:=2) j8 fun f cdv A outer s H E hr=>⟨_,fun _ _=>rfl,(aA (bJ (PW.pt (zK (wJ (ni (uE (cu dW (by rfl) (di B) (by kernel_rfl) (cG (qw 1) (cG (gk (v:=.ty "list") (u:=.type "list") rfl (nU B) (by kernel_rfl) rfl) gQ)))) (fun _=>rfl))) (wI (bF (uz hr) uA (qL (dw B) (qw 1)) (qL (dw B) (qI (qw 0))) (aR _)))))
  (aD qR)
  bC)
  (aD (iG Zh rfl (Io rfl (Kf B) (ak (qI (qw 0)) (ak (qw 1) au))) (jD rfl (bH (d9 2 j8.nd) (bH (d9 3 j8.nd) iy))) (jE (bZ aX (bZ aX jB)))
  (aA (cU 4 j8.nd (qI (qw 2)))
  (aD (bJ (wJ (ni (bw acd (hr.mono (by omega)) rfl (ak (qI (qw 2)) (ak (qw 3) au)) (az (az aO))) (fun _=>rfl)))
  (aD qR)
  bC))))))⟩
theorem M6 (F:cR K mg "filled" yR ["program", "values"]):Dd P w K mg base:=
 F.ok (k:=0) tK fun f cdv A outer s H E hr=>⟨_,fun _ _=>rfl,(aA (cU 2 tK.nd zX)
  (aA (Sv Zh rfl (Su rfl (Kf B) (ak (qI (qw 0)) (ak (qw 1) au))) (jD rfl (bH (d9 3 tK.nd) (bH (d9 4 tK.nd) iy))) (jE (bZ aX (bZ aX jB)))
  (aD (Br (qZ (Ma (ni (uE (cu dW (by rfl) (di B) (by kernel_rfl) (cG (qw 4) (cG (gk (v:=.ty "list") (u:=.type "list") rfl (nU B) (by kernel_rfl) rfl) gQ)))) (fun _=>rfl)) (lq (PE.imp (j9 rz (by rfl) (nU B) (by kernel_rfl) (ak (qw 4) au)) (rK Bq))) (qw 4)) (qY (pv 2) (qI (qw 3)) (set_dict (cz hr)))))))
  (aD (mY (pv 2)))))⟩
theorem Kg (F:cR K mg "emptied" tH ["program", "boxes"]):Ag P w K mg base:=
 F.ok (k:=0) Kc fun f cdv A outer s H E hr=>⟨_,fun _ _=>rfl,(aD (aZ (mj ["name", "size", "rank"] ["boxes"] [1] rfl (uJ (aK tH)) (jF (qI (qw 0))) (fun _ _ _ _=>(jD rfl (bH (d9 0 (show (["name", "size", "rank", "boxes"]:List Str).Nodup from by decide +kernel)) (bH (d9 1 (show (["name", "size", "rank", "boxes"]:List Str).Nodup from by decide +kernel)) (bH (d9 2 (show (["name", "size", "rank", "boxes"]:List Str).Nodup from by decide +kernel)) iy))))) (jE (bZ aX (bZ aX (bZ aX jB)))) (fun _ _ _ _=>gm) (fun _ _ _ _=>(Gq (cz hr) (qw 3) (qw 0) (fun _ _=>rfl))))))⟩
theorem yc (F:rN K abq "__init__" "Plan.__init__" jP ["self", "program"]) (abV:yr P w K mg base):qp P w K mg base abq "__init__" 82 ["self", "program"] (cB K 2 gq):=
 F.ok (k:=81) cW fun f cdv A outer s H E hr=>⟨_,fun _ _=>rfl,(aA (cU 2 cW.nd (bw abV (hr.mono (by omega)) rfl (ak (qw 1) au) (az aO)))
  (aA (cU 3 cW.nd (VP (by exact hkx)))
  (aA (iG Zh rfl (Ii rfl (yq B) (ak (qw 2) au)) (jD rfl (bH (d9 4 cW.nd) (bH (d9 5 cW.nd) iy))) (jE (bZ aX (bZ aX jB)))
  (aD (oR (iw (m9 Zi Zx Zy iY (W6 (by exact hkx) (LR PySem.F.slot_dict_setdefault PySem.F.type_dict_setdefault (LQ (cz hr)) (pv 3) (ak (R6 (qw 5) oK (oM aM)) (ak (fM au) au)))) (ak (qw 4) au))))))
  (aA (cU 6 cW.nd zX)
  (aA (iG Zh rfl (jF (qI (qw 1))) (jD rfl (bH (d9 7 cW.nd) (bH (d9 8 cW.nd) (bH (d9 9 cW.nd) (bH (d9 10 cW.nd) iy))))) (jE (bZ aX (bZ aX (bZ aX (bZ aX jB)))))
  (aD (Br (qZ (mj ["param", "known"] [] [] rfl (uJ (aK jP)) (jF (qw 9)) (fun _ _ _ _=>(jD rfl (bH (d9 0 (show (["param", "known"]:List Str).Nodup from by decide +kernel)) (bH (d9 1 (show (["param", "known"]:List Str).Nodup from by decide +kernel)) iy)))) (jE (bZ aX (bZ aX jB))) (fun _ _ _ _=>gm) (fun _ _ _ _=>(qw 0))) (qY (pv 6) (qw 7) (set_dict (cz hr)))))))
  (aA (jV abd (abe _ (.head _)) (qw 0) (qw 2))
  (aA (jV abd (abe _ (mI 1 rfl)) (qw 0) (VV (qw 3)))
  (aD (jV abd (abe _ (mI 2 rfl)) (qw 0) (qw 6))))))))))⟩
theorem Dw (F:rN K abq "body" "Plan.body" rT ["self", "name"]):vZ P w K mg base abq:=
 F.ok (k:=0) Ds fun f cdv A outer s H E hr=>⟨_,fun _ _=>rfl,(aD (aZ (PE.imp (j9 rz (by rfl) (nU B) (by kernel_rfl) (ak (W7 (by exact hkx) (LR PySem.F.slot_dict_get PySem.F.type_dict_get (RC (cz hr)) (jN abd (abe _ (mI 1 rfl)) (qw 0)) (ak (dI (ak (qw 1) (ak Gn (ak aM au)))) (ak (fM au) au)))) au)) (rK Bq))))⟩
theorem Aj (F:rN K abf "lay" "Running.lay" lw ["self", "numbers"]):tQ P w K mg base abf:=
 F.ok (k:=0) Ae fun f cdv A outer s H E hr=>⟨_,fun _ _=>rfl,(aD (Sd (iw (m9 Zi PySem.F.slot_list_extend PySem.F.type_list_extend zG (jN aa9 (aba _ (mI 6 rfl)) (qw 0)) (ak (mj ["k"] [] [] rfl (uJ (aK lw)) (VL rfl (Ke B) (ak (qw 1) au)) (fun _ _ _ _=>(d9 0 (show (["k"]:List Str).Nodup from by decide +kernel))) aX (fun _ _ _ _=>gm) (fun _ _ _ _=>(dI (ak (qw 0) (ak aM au))))) au)))))⟩
theorem vM (F:rN K abf "lay_body" "Running.lay_body" j5 ["self", "name"]) (abN:vZ P w K mg base abq) (abJ:tQ P w K mg base abf):nW P w K mg base abf:=
 F.ok (k:=1) nR fun f cdv A outer s H E hr=>⟨_,fun _ _=>rfl,(aA (cU 2 nR.nd (j7 abd abN (hr.mono (by omega)) (jN aa9 (aba _ (.head _)) (qw 0)) (ak (qw 1) au) (gU (az aO))))
  (aA (bJ (ni (qw 2) (fun _=>rfl))
  (aD (oR (iw (m9 Zi Zx Zy iY (jN aa9 (aba _ (mI 6 rfl)) (qw 0)) (ak (dI (ak (iU (qw 2) (FN aM) (fun _ _=>rfl)) (ak aM au))) au)))))
  bC)
  (aD (jU (j7 aa9 abJ (hr.mono (by omega)) (qw 0) (ak (qw 2) au) (gU (az aO)))))))⟩
theorem vN (F:rN K abf "__init__" "Running.__init__" j4 ["self", "program", "values", "budget"]) (abD:xZ P w K mg base abq) (abv:nW P w K mg base abf) (ab5:Dd P w K mg base):qp P w K mg base abf "__init__" 84 ["self", "program", "values", "budget"] (cB K 4 fG):=
 F.ok (k:=83) vI fun f cdv A outer s H E hr=>⟨_,fun _ _=>rfl,(aA (jV aa9 (aba _ (.head _)) (qw 0) (QT abd abD (hr.mono (by omega)) rfl (ak (qw 1) au) (gU (az aO))))
  (aA (jV aa9 (aba _ (mI 1 rfl)) (qw 0) (lq (bw ab5 (hr.mono (by omega)) rfl (ak (qw 1) (ak (qw 2) au)) (az (az aO)))))
  (aA (jV aa9 (aba _ (mI 2 rfl)) (qw 0) (lq (fM (ak (lq zX) au))))
  (aA (jV aa9 (aba _ (mI 3 rfl)) (qw 0) (qw 3))
  (aA (jV aa9 (aba _ (mI 4 rfl)) (qw 0) dF)
  (aA (jV aa9 (aba _ (mI 5 rfl)) (qw 0) (lq (fM au)))
  (aA (jV aa9 (aba _ (mI 6 rfl)) (qw 0) (lq (fM au)))
  (aD (jU (j7 aa9 abv (hr.mono (by omega)) (qw 0) (ak dF au) (gU (az aO))))))))))))⟩
theorem GC (F:rN K abq "row" "Plan.row" um ["self", "k"]):wZ P w K mg base abq:=
 F.ok (k:=0) Gw fun f cdv A outer s H E hr=>⟨_,fun _ _=>rfl,(aD (aZ (qI (iU (jN abd (abe _ (.head _)) (qw 0)) (qw 1) (fun _ _=>rfl)))))⟩
theorem yV (F:rN K abf "give" "Running.give" nP ["self", "name", "value"]):sG P w K mg base abf:=
 F.ok (k:=0) rZ fun f cdv A outer s H E hr=>⟨_,fun _ _=>rfl,(aA (cU 3 rZ.nd (Ma (Yg (cz hr) (qw 1) (iU (jN aa9 (aba _ (mI 2 rfl)) (qw 0)) (FN aM) (fun _ _=>rfl)) (by with_unfolding_all rfl)) (iU (jN aa9 (aba _ (mI 2 rfl)) (qw 0)) (FN aM) (fun _ _=>rfl)) (jN aa9 (aba _ (mI 1 rfl)) (qw 0))))
  (aA (Ip (qZ (qw 2) (qY (qw 3) (qw 1) (set_dict (cz hr)))))
  (aD (aZ (dI (ak (qw 1) (ak aM (ak (qw 2) au))))))))⟩
theorem yW (F:rN K abf "note" "Running.note" nO ["self", "k", "time", "events"]):jQ P w K mg base abf:=
 F.ok (k:=0) yU fun f cdv A outer s H E hr=>⟨_,fun _ _=>rfl,(aD (oR (iw (m9 Zi Zx Zy iY (jN aa9 (aba _ (mI 5 rfl)) (qw 0)) (ak (dI (ak (qw 1) (ak (qw 2) (ak (qw 3) au)))) au)))))⟩
theorem yd (F:rN K abf "value" "Running.value" mQ ["self", "expression"]) (abp:Hq P w K mg base):lN P w K mg base abf:=
 F.ok (k:=41) qt fun f cdv A outer s H E hr=>⟨_,fun _ _=>rfl,(aA (cU 2 qt.nd (V3 (j9 Ey (by rfl) (V6 B) (by kernel_rfl) (ak (jN aa9 (aba _ (mI 1 rfl)) (qw 0)) au))))
  (aA (R9 (iw (RD (pv 2) (iU (jN aa9 (aba _ (mI 2 rfl)) (qw 0)) (FN aM) (fun _ _=>rfl)) ⟨rfl,rfl,rfl,rfl⟩)))
  (aD (aZ (Mx (bw abp (hr.mono (by omega)) rfl (ak (qw 1) (ak (qw 2) au)) (az (az aO))))))))⟩
theorem Ak (F:rN K abf "put" "Running.put" oW ["self", "k", "row"]) (abh:jQ P w K mg base abf) (abj:lN P w K mg base abf):tR P w K mg base abf:=
 F.ok (k:=42) jg fun f cdv A outer s H E hr=>⟨_,fun _ _=>rfl,(aA (cU 3 jg.nd (Gq (cz hr) (jN aa9 (aba _ (mI 1 rfl)) (qw 0)) (qI (qw 2)) (fun _ _=>rfl)))
  (aA (cU 4 jg.nd (j7 aa9 abj (hr.mono (by omega)) (qw 0) (ak (qI (qw 2)) au) (gU (az aO))))
  (aA (cU 5 jg.nd (j7 aa9 abj (hr.mono (by omega)) (qw 0) (ak (qI (qw 2)) au) (gU (az aO))))
  (aA (cU 6 jg.nd (fM au))
  (aA (bJ (bF zp wN (qw 4) (vz (cu iC (by rfl) (dw B) ZF (ak (qw 3) au))) (aR _))
  (aA (Fy (qZ (qw 5) (qY (qw 3) (qw 4) set_list)))
  (aD (vB (pv 6) (dI (ak (qI (qw 2)) (ak (qw 4) (ak (qw 5) au)))))))
  bC)
  (aD (Ik (i:=6) (jU (j7 aa9 abh (hr.mono (by omega)) (qw 0) (ak (qw 1) (ak aM (ak (qw 6) au))) (gU (az (az (az aO)))))))))))))⟩
theorem ye (F:rN K abf "begin" "Running.begin" mR ["self", "k"]) (abQ:wZ P w K mg base abq) (abH:sG P w K mg base abf) (abh:jQ P w K mg base abf) (abK:tR P w K mg base abf) (abj:lN P w K mg base abf):qx P w K mg base abf:=
 F.ok (k:=43) qu fun f cdv A outer s H E hr=>⟨_,fun _ _=>rfl,(aA (cU 2 qu.nd (j7 abd abQ (hr.mono (by omega)) (jN aa9 (aba _ (.head _)) (qw 0)) (ak (qw 1) au) (gU (az aO))))
  (aA (jU (j7 aa9 abh (hr.mono (by omega)) (qw 0) (ak (qw 1) (ak aM (ak (lq (fM au)) au))) (gU (az (az (az aO))))))
  (aD (bJ (bF (cX hr) cY (qI (qw 2)) dF (aR _))
  (aD qR)
  (aD (bJ (bF (cX hr) cY (qI (qw 2)) dF (aR _))
  (aD qR)
  (aD (bJ (bF (cX hr) cY (qI (qw 2)) dF (aR _))
  (aD qR)
  (aD (bJ (bF (cX hr) cY (qI (qw 2)) dF (aR _))
  (aD (jU (j7 aa9 abK (hr.mono (by omega)) (qw 0) (ak (qw 1) (ak (qw 2) au)) (gU (az (az aO))))))
  (aD (jU (j7 aa9 abh (hr.mono (by omega)) (qw 0) (ak (qw 1) (ak aM (ak (lq (fM (ak (j7 aa9 abH (hr.mono (by omega)) (qw 0) (ak (qI (qw 2)) (ak (j7 aa9 abj (hr.mono (by omega)) (qw 0) (ak (qI (qw 2)) au) (gU (az aO))) au)) (gU (az (az aO)))) au))) au))) (gU (az (az (az aO)))))))))))))))))⟩
theorem yX (F:rN K abf "step" "Running.step" nM ["self"]) (abE:qx P w K mg base abf) (abh:jQ P w K mg base abf):sH P w K mg base abf:=
 F.ok (k:=44) rY fun f cdv A outer s H E hr=>⟨_,fun _ _=>rfl,(aA (cU 1 rY.nd (W5 (U0 Zi PySem.F.slot_list_pop PySem.F.type_list_pop U4 (jN aa9 (aba _ (mI 6 rfl)) (qw 0)))))
  (aD (bJ (bF (cX hr) cY (qI (qw 1)) aM (aR _))
  (aD (jU (j7 aa9 abE (hr.mono (by omega)) (qw 0) (ak (qI (qw 1)) au) (gU (az aO)))))
  (aD (bJ (bF (cX hr) cY (qI (qw 1)) aM (aR _))
  (aD qR)
  (aD (jU (j7 aa9 abh (hr.mono (by omega)) (qw 0) (ak (qI (qw 1)) (ak (qI (qw 1)) (ak (lq (fM au)) au))) (gU (az (az (az aO))))))))))))⟩
theorem Al (F:cR K mg "gone_through" oV ["program", "values", "budget"]) (abw:vL P w K mg base abf) (abI:sH P w K mg base abf) (abL:tO P w K mg base):nY P w K mg base:=
 F.ok (k:=85) tL fun f cdv A outer s H E hr=>⟨_,fun _ _=>rfl,(aA (jU (Mx (bw abL (hr.mono (by omega)) rfl (ak (qw 0) (ak (qw 1) au)) (az (az aO)))))
  (aA (cU 3 tL.nd (QT aa9 abw (hr.mono (by omega)) rfl (ak (qw 0) (ak (qw 1) (ak (qw 2) au))) (gU (az (az (az aO))))))
  (aA (O8 1000 Zh (W8 (jN aa9 (aba _ (mI 6 rfl)) (qw 3)) (fun _=>rfl))
  (aD (jU (VF aa9 abI (hr.mono (by omega)) (qw 3) rfl))))
  (aD (mY (pv 3))))))⟩
theorem GD (F:cR K mg "record_of" pA ["moments"]):w5 P w K mg base:=
 F.ok (k:=0) kW fun f cdv A outer s H E hr=>⟨_,fun _ _=>rfl,(aA (cU 1 kW.nd (fM au))
  (aA (iG Zh rfl (jF (MJ (qw 0))) (jD rfl (bH (Be (i:=2) kW.nd rfl (Or.inr rfl)) (bH (d9 3 kW.nd) (bH (d9 4 kW.nd) iy)))) (jE (bZ aX (bZ aX (bZ aX jB))))
  (aD (Gp (pv 1) (mj ["name", "place", "value"] ["row"] [2] rfl (uJ (aK pA)) (jF (MJ (qw 4))) (fun _ _ _ _=>(jD rfl (bH (d9 0 (show (["name", "place", "value", "row"]:List Str).Nodup from by decide +kernel)) (bH (d9 1 (show (["name", "place", "value", "row"]:List Str).Nodup from by decide +kernel)) (bH (d9 2 (show (["name", "place", "value", "row"]:List Str).Nodup from by decide +kernel)) iy))))) (jE (bZ aX (bZ aX (bZ aX jB)))) (fun _ _ _ _=>gm) (fun _ _ _ _=>(dI (ak (qw 3) (ak (qw 0) (ak (qw 1) (ak (qw 2) au))))))))))
  (aD (mY (pv 1)))))⟩
theorem V7 (F:cR K mg "run" Ka ["program", "values", "budget"]) (ab1:Ag P w K mg base) (abm:nY P w K mg base) (abR:w5 P w K mg base):M4 P w K mg base:=
 F.ok (k:=86) MN fun f cdv A outer s H E hr=>⟨_,fun _ _=>rfl,(aA (cU 3 MN.nd (bw abm (hr.mono (by omega)) rfl (ak (qw 0) (ak (qw 1) (ak (qw 2) au))) (az (az (az aO)))))
  (aD (aZ (dI (ak (jN aa9 (aba _ (mI 4 rfl)) (qw 3)) (ak (lq (bw abR (hr.mono (by omega)) rfl (ak (jN aa9 (aba _ (mI 5 rfl)) (qw 3)) au) (az aO))) (ak (bw ab1 (hr.mono (by omega)) rfl (ak (qw 0) (ak (jN aa9 (aba _ (mI 1 rfl)) (qw 3)) au)) (az (az aO))) au)))))))⟩
theorem M7 (F:cR K mg "traced" yS ["program", "values", "budget"]) (abm:nY P w K mg base):De P w K mg base:=
 F.ok (k:=86) MT fun f cdv A outer s H E hr=>⟨_,fun _ _=>rfl,(aD (aZ (jN aa9 (aba _ (mI 5 rfl)) (bw abm (hr.mono (by omega)) rfl (ak (qw 0) (ak (qw 1) (ak (qw 2) au))) (az (az (az aO)))))))⟩
theorem GJ (F:cR K mg "_law_cell" uh ["_law_script", "_law_k"]):kZ P w K mg base:=
 F.ok (k:=0) rW fun f cdv A outer s H E hr=>⟨_,fun _ _=>rfl,(aA (cU 2 rW.nd (aV cO cP (aV cO cP (aV fQ eO (qw 1) (qw 1)) (aV fQ eO aM (qw 1))) aM))
  (aA (bJ (bF DP zV (vz (cu iC (by rfl) (dw B) ZF (ak (qw 0) au))) aM (aR _))
  (aD (cU 2 rW.nd (aV cO cP (aV bM bz (gJ (cz hr) (qw 0) (aV bM bz (qw 1) (vz (cu iC (by rfl) (dw B) ZF (ak (qw 0) au)))) (fun _ _=>rfl)) aM) (aV fQ eO (aV rA pQ (qw 1) (vz (cu iC (by rfl) (dw B) ZF (ak (qw 0) au)))) aM))))
  bC)
  (aD (aZ (aV bM bz (aV cO cP (aV fQ eO (qw 2) aM) (aV fQ eO (aV rA pQ (qw 1) (uD (sS rfl) Mr (cu (sS rfl) (by rfl) (QZ B) (by kernel_rfl) (ak aM (ak (vz (cu iC (by rfl) (dw B) ZF (ak (qw 0) au))) au))))) aM)) aM)))))⟩
theorem BK (F:cR K mg "_law_number" qg ["_law_cell_here"]):lE P w K mg base:=
 F.ok (k:=0) uK fun f cdv A outer s H E hr=>⟨_,fun _ _=>rfl,(aA (cU 1 uK.nd (aV bM bz (qw 0) aM))
  (aA (bJ (bF (f9 hr) eU (qw 1) aM (aR _))
  (aD (aZ (aV bM bz (aV rA pQ (qw 0) aM) aM)))
  bC)
  (aA (bJ (bF (f9 hr) eU (qw 1) aM (aR _))
  (aD (aZ (aV zm xO (aV zm xO (aV wg uC aM aM) aM) (aV bM bz (aV rA pQ (qw 0) aM) aM))))
  bC)
  (aA (bJ (bF (f9 hr) eU (qw 1) aM (aR _))
  (aD (aZ (aV cO cP aM (aV bM bz (aV rA pQ (qw 0) aM) aM))))
  bC)
  (aD (aZ (aV bM bz (aV fQ eO (qw 0) aM) (aV wg uC aM aM))))))))⟩
theorem Dy {n:Nat} (F:cR K mg "_law_alike" kO ["_law_got", "_law_due"]) (abk:cg P w K mg base "_law_alike" (0+n) ["_law_got", "_law_due"] (cB K 2 (cA n))):cg P w K mg base "_law_alike" (0+n+1) ["_law_got", "_law_due"] (cB K 2 (cA (n+1))):=
 F.ok (k:=0+n) Dr fun f cdv A outer s H E hr=>⟨_,fun _ _=>rfl,(aA (bJ (ni (Ye (cu Gh (by rfl) (di B) (by kernel_rfl) (cG (qw 1) (cG (Ld (cG (gk (v:=.ty "list") (u:=.type "list") rfl (nU B) (by kernel_rfl) rfl) (cG (gk (v:=.ty "tuple") (u:=.type "tuple") rfl (By B) (by kernel_rfl) rfl) gQ))) gQ)))) (fun _=>rfl))
  (aA (bJ (PW.pt (zK (bF (uz hr) uA (uE (cu dW (by rfl) (di B) (by kernel_rfl) (cG (qw 0) (cG (gk (v:=.ty "list") (u:=.type "list") rfl (nU B) (by kernel_rfl) rfl) gQ)))) (uE (cu dW (by rfl) (di B) (by kernel_rfl) (cG (qw 1) (cG (gk (v:=.ty "list") (u:=.type "list") rfl (nU B) (by kernel_rfl) rfl) gQ)))) (aR _)) (wI (bF (uz hr) uA (uE (cu dW (by rfl) (di B) (by kernel_rfl) (cG (qw 0) (cG (gk (v:=.ty "tuple") (u:=.type "tuple") rfl (By B) (by kernel_rfl) rfl) gQ)))) (uE (cu dW (by rfl) (di B) (by kernel_rfl) (cG (qw 1) (cG (gk (v:=.ty "tuple") (u:=.type "tuple") rfl (By B) (by kernel_rfl) rfl) gQ)))) (aR _)))))
  (aD (aZ (qc zj eQ)))
  bC)
  (aD (aZ (wL (ud (cX hr) cY (qL (dw B) (qw 0)) (qL (dw B) (qw 1)) (aR _)) (yI (uD (vq rfl) Mp (cu (vq rfl) (by rfl) (QX B) (by kernel_rfl) (ak (mj ["_law_k"] ["_law_got", "_law_due"] [0,1] rfl (uJ (aK kO)) (iu rfl (jY B) (ak (qL (dw B) (qw 1)) au)) (fun _ _ _ _=>(d9 0 (show (["_law_k", "_law_got", "_law_due"]:List Str).Nodup from by decide +kernel))) aX (fun _ _ _ _=>gm) (fun _ _ _ _=>(bw abk (hr.mono (by omega)) rfl (ak (iU (qw 1) (qw 0) (fun _ _=>rfl)) (ak (iU (qw 2) (qw 0) (fun _ _=>rfl)) au)) (az (az aO))))) au))))))))
  bC)
  (aA (bJ (ni (uE (cu dW (by rfl) (di B) (by kernel_rfl) (cG (qw 1) (cG (gk (v:=.ty "str") (u:=.type "str") rfl (Q0 B) (by kernel_rfl) rfl) gQ)))) (fun _=>rfl))
  (aD (aZ (wL (uE (cu dW (by rfl) (di B) (by kernel_rfl) (cG (qw 0) (cG (gk (v:=.ty "str") (u:=.type "str") rfl (Q0 B) (by kernel_rfl) rfl) gQ)))) (yI (ud (cX hr) cY (qw 0) (qw 1) (aR _))))))
  bC)
  (aA (bJ (bF K9 Ie (qw 1) Gn (aR _))
  (aD (aZ (ud K9 Ie (qw 0) Gn (aR _))))
  bC)
  (aD (aZ (wL (uE (cu dW (by rfl) (di B) (by kernel_rfl) (cG (qw 0) (cG (gk (v:=.ty "int") (u:=.type "int") rfl (Af B) (by kernel_rfl) rfl) gQ)))) (wL (Vh (uE (cu dW (by rfl) (di B) (by kernel_rfl) (cG (qw 0) (cG (gk (v:=.ty "bool") (u:=.type "bool") rfl (M3 B) (by kernel_rfl) rfl) gQ))))) (yI (ud (cX hr) cY (qw 0) (qw 1) (aR _))))))))))⟩
theorem uP (abO:cR K mg "_law_alike" kO ["_law_got", "_law_due"]):∀ n:Nat,cg P w K mg base "_law_alike" (0+n) ["_law_got", "_law_due"] (cB K 2 (cA n))
 | 0=>qP abO
 | n+1=>by
  have ih:=uP abO n
  exact Dy B abb abd abe aa9 aba hkx abO ih
theorem GK (F:cR K mg "_law_leaf" ul ["_law_cell_here", "_law_nums", "_law_lists"]) (abi:lE P w K mg base):w6 P w K mg base:=
 F.ok (k:=1) nQ fun f cdv A outer s H E hr=>⟨_,fun _ _=>rfl,(aA (cU 3 nQ.nd (aV bM bz (qw 0) aM))
  (aA (bJ (bF (cX hr) cY (qw 3) aM (aR _))
  (aD (aZ (dI (ak dF (ak (bw abi (hr.mono (by omega)) rfl (ak (aV eG dz (qw 0) aM) au) (az aO)) au)))))
  bC)
  (aA (bJ (PW.pt (Ff (bF (cX hr) cY (qw 3) aM (aR _)) (Bo (bF DP zV (qL (dw B) (qw 2)) aM (aR _)))))
  (aA (cU 4 nQ.nd (dI (ak dF (ak (aV bM bz (aV eG dz (qw 0) aM) aM) au))))
  (aA (bJ (bF (cX hr) cY (aV bM bz (aV eG dz (qw 0) aM) aM) aM (aR _))
  (aD (cU 4 nQ.nd (dI (ak dF (ak (iU (qw 1) (aV bM bz (aV eG dz (qw 0) aM) (qL (dw B) (qw 1))) (fun _ _=>rfl)) au)))))
  bC)
  (aD (aZ (dI (ak dF (ak (iU (qw 2) (aV bM bz (aV eG dz (qw 0) aM) (qL (dw B) (qw 2))) (fun _ _=>rfl)) (ak (qw 4) au))))))))
  bC)
  (aD (aZ (dI (ak dF (ak (iU (qw 1) (aV bM bz (aV eG dz (qw 0) aM) (qL (dw B) (qw 1))) (fun _ _=>rfl)) au))))))))⟩
theorem BP (F:cR K mg "_law_joined" qi ["_law_sign", "_law_one", "_law_other"]):uN P w K mg base:=
 F.ok (k:=0) Bx fun f cdv A outer s H E hr=>⟨_,fun _ _=>rfl,(aD (aZ (dI (ak (dI (ak (qw 0) (ak (qI (qw 1)) (ak (qI (qw 2)) au)))) (ak (aV cO cP (aV cO cP aM (qI (qw 1))) (qI (qw 2))) (ak (aV cO cP aM (uD (sS rfl) Mr (cu (sS rfl) (by rfl) (QZ B) (by kernel_rfl) (ak (qI (qw 1)) (ak (qI (qw 2)) au))))) au))))))⟩
theorem xm (F:cR K mg "_law_expression" lM ["_law_cell_here", "_law_nums", "_law_lists"]) (abn:uN P w K mg base) (abB:w6 P w K mg base):pU P w K mg base:=
 F.ok (k:=2) cC fun f cdv A outer s H E hr=>⟨_,fun _ _=>rfl,(aA (cU 3 cC.nd (dI (ak (bw abB (hr.mono (by omega)) rfl (ak (aV eG dz (qw 0) aM) (ak (qw 1) (ak (qw 2) au))) (az (az (az aO)))) (ak aM (ak aM au)))))
  (aA (iG Zh rfl (iu rfl (jY B) (ak (aV bM bz (qw 0) aM) au)) (d9 4 cC.nd) aX
  (aA (cU 0 cC.nd (aV bM bz (aV fQ eO (qw 0) aM) aM))
  (aA (cU 5 cC.nd (dI (ak (bw abB (hr.mono (by omega)) rfl (ak (aV eG dz (qw 0) aM) (ak (qw 1) (ak (qw 2) au))) (az (az (az aO)))) (ak aM (ak aM au)))))
  (aA (cU 6 cC.nd (dI (ak (bw abB (hr.mono (by omega)) rfl (ak (aV bM bz (aV fQ eO (qw 0) aM) aM) (ak (qw 1) (ak (qw 2) au))) (az (az (az aO)))) (ak aM (ak aM au)))))
  (aA (cU 7 cC.nd (iU dF (aV bM bz (aV eG dz (qw 0) aM) aM) (fun _ _=>rfl)))
  (aA (bJ (PW.pt (Ff (bF (cX hr) cY (aV bM bz (qw 0) aM) aM (aR _)) (Bo (bF DP zV (qL (dw B) (qw 2)) aM (aR _)))))
  (aD (cU 8 cC.nd (dI (ak (dI (ak dF (ak (iU (qw 2) (aV bM bz (aV eG dz (qw 0) aM) (qL (dw B) (qw 2))) (fun _ _=>rfl)) (ak (qI (qw 3)) au)))) (ak (aV cO cP aM (qI (qw 3))) (ak (aV cO cP aM (qI (qw 3))) au))))))
  (aD (bJ (bF (cX hr) cY (aV bM bz (qw 0) aM) aM (aR _))
  (aD (cU 8 cC.nd (bw abn (hr.mono (by omega)) rfl (ak (qw 7) (ak (qw 5) (ak (qw 3) au))) (az (az (az aO))))))
  (aD (bJ (bF (cX hr) cY (aV bM bz (qw 0) aM) aM (aR _))
  (aD (cU 8 cC.nd (bw abn (hr.mono (by omega)) rfl (ak (qw 7) (ak (bw abn (hr.mono (by omega)) rfl (ak (iU dF (aV bM bz (aV eG dz (qw 0) aM) aM) (fun _ _=>rfl)) (ak (qw 5) (ak (qw 6) au))) (az (az (az aO)))) (ak (qw 3) au))) (az (az (az aO))))))
  (aD (cU 8 cC.nd (bw abn (hr.mono (by omega)) rfl (ak (qw 7) (ak (qw 3) (ak (qw 5) au))) (az (az (az aO)))))))))))
  (aD (bJ (PW.pt (Ff (bF DN zU (qI (qw 8)) aM (aR _)) (Bo (bF DN zU (qI (qw 8)) aM (aR _)))))
  (aD (cU 3 cC.nd (qw 8)))
  bC))))))))
  (aD (aZ (qI (qw 3))))))⟩
theorem Dz {n:Nat} (F:cR K mg "_law_worth" nJ ["_law_e", "_law_boxes"]) (abl:cg P w K mg base "_law_worth" (0+n) ["_law_e", "_law_boxes"] (cB K 2 (cN n))):cg P w K mg base "_law_worth" (0+n+1) ["_law_e", "_law_boxes"] (cB K 2 (cN (n+1))):=
 F.ok (k:=0+n) my fun f cdv A outer s H E hr=>⟨_,fun _ _=>rfl,(aA (bJ (bF (f9 hr) eU (gJ (cz hr) (qw 0) aM (fun _ _=>rfl)) dF (aR _))
  (aD (aZ (gJ (cz hr) (qw 0) aM (fun _ _=>rfl))))
  bC)
  (aA (bJ (bF (f9 hr) eU (gJ (cz hr) (qw 0) aM (fun _ _=>rfl)) dF (aR _))
  (aD (aZ (gJ (cz hr) (qw 1) (gJ (cz hr) (qw 0) aM (fun _ _=>rfl)) (fun _ _=>rfl))))
  bC)
  (aA (bJ (bF (f9 hr) eU (gJ (cz hr) (qw 0) aM (fun _ _=>rfl)) dF (aR _))
  (aA (cU 2 my.nd (bw abl (hr.mono (by omega)) rfl (ak (gJ (cz hr) (qw 0) aM (fun _ _=>rfl)) (ak (qw 1) au)) (az (az aO))))
  (aD (aZ (gJ (cz hr) (aV cO cP (gJ (cz hr) (qw 1) (gJ (cz hr) (qw 0) aM (fun _ _=>rfl)) (fun _ _=>rfl)) (fM (ak aM au))) (uD (Cj rfl) Vx (cu (Cj rfl) (by rfl) (W9 B) (by kernel_rfl) (ak (qw 2) (ak (vz (cu iC (by rfl) (dw B) ZF (ak (gJ (cz hr) (qw 1) (gJ (cz hr) (qw 0) aM (fun _ _=>rfl)) (fun _ _=>rfl)) au))) au)))) (fun _ _=>rfl)))))
  bC)
  (aA (cU 3 my.nd (bw abl (hr.mono (by omega)) rfl (ak (gJ (cz hr) (qw 0) aM (fun _ _=>rfl)) (ak (qw 1) au)) (az (az aO))))
  (aA (cU 4 my.nd (bw abl (hr.mono (by omega)) rfl (ak (gJ (cz hr) (qw 0) aM (fun _ _=>rfl)) (ak (qw 1) au)) (az (az aO))))
  (aA (bJ (bF (Vl hr) RP (gJ (cz hr) (qw 0) aM (fun _ _=>rfl)) (dI (ak dF (ak dF au))) (by with_unfolding_all rfl))
  (aD (aZ (aV fQ eO (PE.imp (j9 uc (by rfl) (Af B) (by kernel_rfl) (ak (Xj (ud zp wN (qw 3) (qw 4) (aR _)) (yI (ud (f9 hr) eU (gJ (cz hr) (qw 0) aM (fun _ _=>rfl)) dF (aR _)))) au)) (rK Ga)) (PE.imp (j9 uc (by rfl) (Af B) (by kernel_rfl) (ak (Xj (ud (f9 hr) eU (qw 3) (qw 4) (aR _)) (yI (ud (f9 hr) eU (gJ (cz hr) (qw 0) aM (fun _ _=>rfl)) dF (aR _)))) au)) (rK Ga)))))
  bC)
  (aA (bJ (bF (f9 hr) eU (gJ (cz hr) (qw 0) aM (fun _ _=>rfl)) dF (aR _))
  (aD (aZ (aV bM bz (aV fQ eO (qw 3) (qw 4)) (aV wg uC aM aM))))
  bC)
  (aD (aZ (aV bM bz (aV cO cP (qw 3) (gJ (cz hr) (fM (ak (qw 4) (ak (aV zm xO (aV wg uC aM aM) (qw 4)) au))) (PE.imp (j9 uc (by rfl) (Af B) (by kernel_rfl) (ak (ud (f9 hr) eU (gJ (cz hr) (qw 0) aM (fun _ _=>rfl)) dF (aR _)) au)) (rK Ga)) (fun _ _=>rfl))) (aV wg uC aM aM)))))))))))⟩
theorem uQ (abP:cR K mg "_law_worth" nJ ["_law_e", "_law_boxes"]):∀ n:Nat,cg P w K mg base "_law_worth" (0+n) ["_law_e", "_law_boxes"] (cB K 2 (cN n))
 | 0=>qP abP
 | n+1=>by
  have ih:=uQ abP n
  exact Dz B abb abd abe aa9 aba hkx abP ih
theorem Hv (F:cR K mg "_law_row" vH ["_law_a", "_law_b", "_law_nums", "_law_lists"]) (abo:pU P w K mg base):yt P w K mg base:=
 F.ok (k:=3) lY fun f cdv A outer s H E hr=>⟨_,fun _ _=>rfl,(aA (cU 4 lY.nd (bw abo (hr.mono (by omega)) rfl (ak (qw 1) (ak (qw 2) (ak (qw 3) au))) (az (az (az aO)))))
  (aA (cU 5 lY.nd (iU (qw 2) (aV bM bz (aV eG dz (qw 0) aM) (qL (dw B) (qw 2))) (fun _ _=>rfl)))
  (aA (bJ (bF (cX hr) cY (aV bM bz (qw 0) aM) aM (aR _))
  (aD (aZ (dI (ak dF (ak (qw 5) (ak (qw 4) (ak dF au)))))))
  bC)
  (aA (bJ (PW.pt (zK (bF (cX hr) cY (aV bM bz (qw 0) aM) aM (aR _)) (wI (bF (cX hr) cY (qL (dw B) (qw 3)) aM (aR _)))))
  (aD (aZ (dI (ak dF (ak (qw 5) (ak (qw 4) au))))))
  bC)
  (aA (cU 6 lY.nd (dI (ak dF (ak (aV bM bz (aV eG dz (qw 0) aM) aM) au))))
  (aA (bJ (bF (cX hr) cY (aV bM bz (aV eG dz (qw 0) aM) aM) aM (aR _))
  (aD (cU 6 lY.nd (bw abo (hr.mono (by omega)) rfl (ak (aV eG dz (qw 0) aM) (ak (qw 2) (ak (qw 3) au))) (az (az (az aO))))))
  bC)
  (aD (aZ (dI (ak dF (ak (iU (qw 3) (aV bM bz (aV eG dz (qw 0) aM) (qL (dw B) (qw 3))) (fun _ _=>rfl)) (ak (qw 6) (ak (qw 4) au)))))))))))))⟩
theorem Am (F:cR K mg "_law_program" lu ["_law_script"]) (abg:kZ P w K mg base) (abW:yt P w K mg base):tU P w K mg base:=
 F.ok (k:=4) fC fun f cdv A outer s H E hr=>⟨_,fun _ _=>rfl,(aA (cU 1 fC.nd (bw abg (hr.mono (by omega)) rfl (ak (qw 0) (ak aM au)) (az (az aO))))
  (aA (cU 2 fC.nd (uG (fM (ak dF (ak dF (ak dF au)))) oK (oM (aV cO cP aM (aV bM bz (qw 1) aM)))))
  (aA (cU 3 fC.nd (uG (fM (ak dF (ak dF au))) oK (oM (aV bM bz (aV eG dz (qw 1) aM) aM))))
  (aA (RM (i:=4) ["_law_name"] [] [] fC.nd rfl rfl rfl (uJ (aK lu)) (jF (qw 2)) (fun _ _ _ _=>(d9 0 (show (["_law_name"]:List Str).Nodup from by decide +kernel))) aX (fun _ _ _ _=>gm) (fun _ _ _ _=>(dI (ak (qw 0) (ak aM (ak Gn au))))))
  (aA (iG Zh rfl (iu rfl (jY B) (ak (qL (dw B) (qw 3)) au)) (d9 5 fC.nd) aX
  (aD (VJ (iw (m9 Zi PySem.F.slot_list_insert PySem.F.type_list_insert VH (pv 4) (ak (aV bM bz (aV eG dz (qw 1) aM) (aV cO cP (qw 5) aM)) (ak (dI (ak (iU (qw 3) (qw 5) (fun _ _=>rfl)) (ak (aV cO cP aM (aV bM bz (aV eG dz (qw 1) (aV cO cP aM (aV fQ eO aM (qw 5)))) aM)) (ak Gn au)))) au)))))))
  (aA (cU 6 fC.nd (fM au))
  (aA (iG Zh rfl (iu rfl (jY B) (ak (aV bM bz (bw abg (hr.mono (by omega)) rfl (ak (qw 0) (ak aM au)) (az (az aO))) aM) au)) (d9 5 fC.nd) aX
  (aD (vB (pv 6) (bw abW (hr.mono (by omega)) rfl (ak (bw abg (hr.mono (by omega)) rfl (ak (qw 0) (ak (aV cO cP aM (aV fQ eO aM (qw 5))) au)) (az (az aO))) (ak (bw abg (hr.mono (by omega)) rfl (ak (qw 0) (ak (aV cO cP aM (aV fQ eO aM (qw 5))) au)) (az (az aO))) (ak (qw 2) (ak (qw 3) au)))) (az (az (az (az aO))))))))
  (aD (aZ (dI (ak (qw 4) (ak (fM (ak (dI (ak dF (ak dF (ak dF au)))) au)) (ak (fM au) (ak (qw 6) au))))))))))))))⟩
theorem BR (F:cR K mg "_law_values" mq ["_law_script", "_law_program_here"]) (abg:kZ P w K mg base) (abi:lE P w K mg base):uO P w K mg base:=
 F.ok (k:=1) lA fun f cdv A outer s H E hr=>⟨_,fun _ _=>rfl,(aA (cU 2 lA.nd (fM au))
  (aA (iG Zh rfl (iu rfl (jY B) (ak (qL (dw B) (qI (qw 1))) au)) (d9 3 lA.nd) aX
  (aA (zM (i:=4) lA.nd rfl (Or.inr rfl) (aV bM bz (aV fQ eO (aV cO cP (bw abg (hr.mono (by omega)) rfl (ak (qw 0) (ak aM au)) (az (az aO))) (qw 3)) (aV cO cP (aV fQ eO (qw 3) (qw 3)) aM)) aM))
  (aD (bJ (bF (cX hr) cY (qI (iU (qI (qw 1)) (qw 3) (fun _ _=>rfl))) aM (aR _))
  (aD (vB (pv 2) (bw abi (hr.mono (by omega)) rfl (ak (qw 4) au) (az aO))))
  (aD (vB (pv 2) (mj ["_law_j"] ["_law_cell_here"] [4] rfl (uJ (aK mq)) (iu rfl (jY B) (ak (qI (iU (qI (qw 1)) (qw 3) (fun _ _=>rfl))) au)) (fun _ _ _ _=>(d9 0 (show (["_law_j", "_law_cell_here"]:List Str).Nodup from by decide +kernel))) aX (fun _ _ _ _=>gm) (fun _ _ _ _=>(bw abi (hr.mono (by omega)) rfl (ak (aV bM bz (aV fQ eO (qw 1) (aV cO cP (qw 0) aM)) aM) au) (az aO))))))))))
  (aD (mY (pv 2)))))⟩
theorem GP (F:cR K mg "_law_laid" pB ["_law_rows", "_law_boxes"]) (abl:Du P w K mg base):xf P w K mg base:=
 F.ok (k:=40) iH fun f cdv A outer s H E hr=>⟨_,fun _ _=>rfl,(aA (cU 2 iH.nd (fM au))
  (aA (iG Zh rfl (iu rfl (jY B) (ak (qL (dw B) (qw 0)) au)) (d9 3 iH.nd) aX
  (aA (cU 4 iH.nd (iU (qw 0) (qw 3) (fun _ _=>rfl)))
  (aA (vB (pv 2) (dI (ak (qw 3) (ak aM (ak (fM au) au)))))
  (aA (cU 5 iH.nd (fM (ak (dI (ak (qI (qw 4)) (ak aM (ak (uI abl (hr.mono (by omega)) rfl (ak (qI (qw 4)) (ak (qw 1) au)) (az (az aO))) au)))) au)))
  (aA (bJ (bF (cX hr) cY (qI (qw 4)) dF (aR _))
  (aA (cU 5 iH.nd (fM (ak (dI (ak (qI (qw 4)) (ak (qI (qI (qw 5))) (ak (uI abl (hr.mono (by omega)) rfl (ak (qI (qw 4)) (ak (qw 1) au)) (az (az aO))) au)))) au)))
  (aD (bJ (bF WN Vn (qI (qI (qw 5))) (vz (cu iC (by rfl) (dw B) ZF (ak (Gq (cz hr) (qw 1) (qI (qw 4)) (fun _ _=>rfl)) au))) (aR _))
  (aD (cU 5 iH.nd (fM au)))
  (aD (Fy (qZ (qI (qI (qw 5))) (qY (Gq (cz hr) (qw 1) (qI (qw 4)) (fun _ _=>rfl)) (qI (qI (qw 5))) set_list)))))))
  (aD (Ip (qZ (qI (qI (qw 5))) (qY (qw 1) (qI (qw 4)) (set_dict (cz hr)))))))
  (aD (vB (pv 2) (dI (ak (qw 3) (ak aM (ak (qw 5) au)))))))))))
  (aD (aZ (aV cO cP (qw 2) (uG (mj ["_law_k"] [] [] rfl (uJ (aK pB)) (iu rfl (jY B) (ak (qL (dw B) (qw 0)) au)) (fun _ _ _ _=>(d9 0 (show (["_law_k"]:List Str).Nodup from by decide +kernel))) aX (fun _ _ _ _=>gm) (fun _ _ _ _=>(dI (ak (qw 0) (ak aM (ak (fM au) au)))))) (oM (FN aM)) oK))))))⟩
theorem yf (F:cR K mg "_law_values" mU ["_law_script", "_law_program_here"]) (abg:kZ P w K mg base) (abi:lE P w K mg base):qy P w K mg base:=
 F.ok (k:=1) ju fun f cdv A outer s H E hr=>⟨_,fun _ _=>rfl,(aA (cU 2 ju.nd (fM au))
  (aA (iG Zh rfl (iu rfl (jY B) (ak (qL (dw B) (qI (qw 1))) au)) (d9 3 ju.nd) aX
  (aA (zM (i:=4) ju.nd rfl (Or.inr rfl) (aV bM bz (aV fQ eO (aV cO cP (bw abg (hr.mono (by omega)) rfl (ak (qw 0) (ak aM au)) (az (az aO))) (qw 3)) (aV cO cP (aV fQ eO (qw 3) (qw 3)) aM)) aM))
  (aD (bJ (bF (cX hr) cY (qI (iU (qI (qw 1)) (qw 3) (fun _ _=>rfl))) aM (aR _))
  (aD (vB (pv 2) (bw abi (hr.mono (by omega)) rfl (ak (qw 4) au) (az aO))))
  (aD (vB (pv 2) (lq (mj ["_law_j"] ["_law_cell_here"] [4] rfl (uJ (aK mU)) (iu rfl (jY B) (ak (qI (iU (qI (qw 1)) (qw 3) (fun _ _=>rfl))) au)) (fun _ _ _ _=>(d9 0 (show (["_law_j", "_law_cell_here"]:List Str).Nodup from by decide +kernel))) aX (fun _ _ _ _=>gm) (fun _ _ _ _=>(bw abi (hr.mono (by omega)) rfl (ak (aV bM bz (aV fQ eO (qw 1) (aV cO cP (qw 0) aM)) aM) au) (az aO)))))))))))
  (aD (mY (pv 2)))))⟩
theorem V8 {f:Addr} {fd:FuncData} (F:sV K "law" "law" qM f fd) (abk:Dt P w K mg base) (abg:kZ P w K mg base) (abS:xf P w K mg base) (abA:tU P w K mg base) (abr:uO P w K mg base) (abF:qy P w K mg base) (acn:M4 P w K mg base) (abX:De P w K mg base):mD P w K mg base oE 88 f fd ["_law_script"] (cB K 1 Kd):=
 sV.okP (k:=87) F gW fun cdv A outer s H E hr=>⟨_,fun _ _=>rfl,(aA (cU 1 gW.nd (bw abA (hr.mono (by omega)) rfl (ak (qw 0) au) (az aO)))
  (aA (cU 2 gW.nd (lq (bw abr (hr.mono (by omega)) rfl (ak (qw 0) (ak (qw 1) au)) (az (az aO)))))
  (aA (zM (i:=3) gW.nd rfl (Or.inr rfl) zX)
  (aA (iG Zh rfl (Io rfl (Kf B) (ak (qI (qw 1)) (ak (bw abF (hr.mono (by omega)) rfl (ak (qw 0) (ak (qw 1) au)) (az (az aO))) au))) (jD rfl (bH (d9 4 gW.nd) (bH (d9 5 gW.nd) iy))) (jE (bZ aX (bZ aX jB)))
  (aD (Br (qZ (qw 5) (qY (pv 3) (qI (qw 4)) (set_dict (cz hr)))))))
  (aA (Ik (i:=3) (cU 6 gW.nd (bw abS (hr.mono (by omega)) rfl (ak (qI (qw 1)) (ak (qw 3) au)) (az (az aO)))))
  (aA (cU 7 gW.nd (fM au))
  (aA (iG Zh rfl (jF (qw 6)) (jD rfl (bH (Be (i:=8) gW.nd rfl (Or.inr rfl)) (bH (d9 9 gW.nd) (bH (d9 10 gW.nd) iy)))) (jE (bZ aX (bZ aX (bZ aX jB))))
  (aD (Gp (pv 7) (mj ["_law_name", "_law_place", "_law_value"] ["_law_k"] [8] rfl (uJ (aK qM)) (jF (qw 10)) (fun _ _ _ _=>(jD rfl (bH (d9 0 (show (["_law_name", "_law_place", "_law_value", "_law_k"]:List Str).Nodup from by decide +kernel)) (bH (d9 1 (show (["_law_name", "_law_place", "_law_value", "_law_k"]:List Str).Nodup from by decide +kernel)) (bH (d9 2 (show (["_law_name", "_law_place", "_law_value", "_law_k"]:List Str).Nodup from by decide +kernel)) iy))))) (jE (bZ aX (bZ aX (bZ aX jB)))) (fun _ _ _ _=>gm) (fun _ _ _ _=>(dI (ak (qw 3) (ak (qw 0) (ak (qw 1) (ak (qw 2) au))))))))))
  (aA (cU 11 gW.nd (dI (ak dF (ak (qw 7) (ak (mj ["_law_box"] ["_law_boxes"] [3] rfl (uJ (aK qM)) (jF (qI (qw 1))) (fun _ _ _ _=>(d9 0 (show (["_law_box", "_law_boxes"]:List Str).Nodup from by decide +kernel))) aX (fun _ _ _ _=>gm) (fun _ _ _ _=>(Gq (cz hr) (qw 1) (qI (qw 0)) (fun _ _=>rfl)))) au)))))
  (aA (cU 12 gW.nd (aV bM bz (aV eG dz (bw abg (hr.mono (by omega)) rfl (ak (qw 0) (ak aM au)) (az (az aO))) aM) aM))
  (aA (cU 13 gW.nd (bw acn (hr.mono (by omega)) rfl (ak (qw 1) (ak (qw 2) (ak (qw 12) au))) (az (az (az aO)))))
  (aA (cU 14 gW.nd (bw abX (hr.mono (by omega)) rfl (ak (qw 1) (ak (qw 2) (ak (qw 12) au))) (az (az (az aO)))))
  (aA (bJ (PW.pt (zK (wJ (ni (uI abk (hr.mono (by omega)) rfl (ak (qw 13) (ak (qw 11) au)) (az (az aO))) (fun _=>rfl))) (wI (wJ (ni (uI abk (hr.mono (by omega)) rfl (ak (qw 14) (ak (qw 6) au)) (az (az aO))) (fun _=>rfl))))))
  (aD (aZ (qc zj eQ)))
  bC)
  (aA (bJ (PW.pt (zK (Il (bF (uz hr) uA (qw 2) (bw abr (hr.mono (by omega)) rfl (ak (qw 0) (ak (qw 1) au)) (az (az aO))) (aR _))) (wI (bF (uz hr) uA (qw 1) (bw abA (hr.mono (by omega)) rfl (ak (qw 0) au) (az aO)) (aR _)))))
  (aD (aZ (qc zj eQ)))
  bC)
  (aA (oR (iw (m9 Zi Zx Zy iY (qw 2) (ak aM au))))
  (aA (oR (iw (m9 Zi Zx Zy iY (qI (qw 13)) (ak (qI (qw 13)) au))))
  (aA (bJ (bF DP zV (vz (cu iC (by rfl) (dw B) ZF (ak (qw 14) au))) aM (aR _))
  (aD (oR (iw (m9 Zi Zx Zy iY (qI (qI (qw 14))) (ak aM au)))))
  bC)
  (aA (bJ (Il (bF (uz hr) uA (uG (qw 14) (oM aM) oK) (uG (qw 6) (oM aM) oK) (aR _)))
  (aD (aZ (qc zj eQ)))
  bC)
  (aA (oR (iw (m9 Zi Zx Zy iY (qw 14) (ak (Sq (qw 14) oK (oM aM)) au))))
  (aA (cU 2 gW.nd (lq (bw abr (hr.mono (by omega)) rfl (ak (qw 0) (ak (qw 1) au)) (az (az aO)))))
  (aA (bJ (wJ (ni (uI abk (hr.mono (by omega)) rfl (ak (bw acn (hr.mono (by omega)) rfl (ak (qw 1) (ak (qw 2) (ak (qw 12) au))) (az (az (az aO)))) (ak (qw 11) au)) (az (az aO))) (fun _=>rfl)))
  (aD (aZ (qc zj eQ)))
  bC)
  (aD (aZ (uI abk (hr.mono (by omega)) rfl (ak (bw abX (hr.mono (by omega)) rfl (ak (qw 1) (ak (qw 2) (ak (qw 12) au))) (az (az (az aO)))) (ak (qw 6) au)) (az (az aO)))))))))))))))))))))))))⟩
end
local macro_rules | `(tactic| walk_at "op")=>`(tactic| first | exact rfl | exact modP_go rfl rfl (by omega) | exact fdivP_go rfl rfl (by omega) (by omega) | exact mulP_gor rfl rfl (by omega) (by omega) | exact FZ rfl rfl (by omega) (by omega) | assumption)
local macro_rules | `(tactic| walk_at "ev")=>`(tactic| first
 | ((with_reducible refine' bO ?h1 ?h2 ?h3 ?h4 ?h5); (case h1=>walk_at "ev"); (case h2=>exact rfl); (case h3=>walk_at "ev"); (case h4=>exact rfl); (case h5=>walk_at "op"))
 | ((with_reducible refine' aB ?h1 ?h2); (case h1=>walk_at "ev"); (case h2=>walk_at "ev"))
 | ((with_reducible refine' bA ?h1 ?h2 ?h3); (case h1=>walk_at "ev"); (case h2=>exact rfl); (case h3=>exact rfl))
 | ((with_reducible refine' b8 ?h1); (case h1=>walk_at "ev"))
 | ((with_reducible refine' aC ?h1 ?h2); (case h1=>walk_at "ev"); (case h2=>walk_at "ev"))
 | ((with_reducible refine' aY ?h1 ?h2 ?h3 ?h4 ?h5); (case h1=>walk_at "ev"); (case h2=>exact rfl); (case h3=>exact rfl); (case h4=>exact rfl); (case h5=>walk_at "call"))
 | ((with_reducible refine' kE ?h1 ?h2 ?h3); (case h1=>walk_at "ev"); (case h2=>exact rfl); (case h3=>walk_at "op"))
 | ((with_reducible refine' d7 ?h1 ?h2 ?h3); (case h1=>walk_at "ev"); (case h2=>exact rfl); (case h3=>exact rfl))
 | ((with_reducible refine' uF ?h1); (case h1=>walk_at "ev"))
 | ((with_reducible refine' wW ?h1 ?h2); (case h1=>walk_at "ev"); (case h2=>walk_at "ev"))
 | ((with_reducible refine' zW ?h1 ?h2); (case h1=>walk_at "ev"); (case h2=>walk_at "ev"))
 | ((with_reducible refine' tread_go ?h1); (case h1=>walk_at "ev"))
 | ((with_reducible refine' eread_go ?h1 ?h2); (case h1=>walk_at "ev"); (case h2=>exact rfl))
 | ((with_reducible refine' pO ?h1 ?h2 ?h3); (case h1=>walk_at "ev"); (case h2=>exact rfl); (case h3=>exact rfl))
 | ((with_reducible refine' fV ?h1 ?h2 ?h3); (case h1=>walk_at "ev"); (case h2=>exact rfl); (case h3=>exact rfl))
 | ((with_reducible refine' newc_go ?h1 ?h2 ?h3 ?h4); (case h1=>walk_at "ev"); (case h2=>exact rfl); (case h3=>exact rfl); (case h4=>exact rfl))
 | ((with_reducible refine' tB ?h1 ?h2 ?h3); (case h1=>walk_at "ev"); (case h2=>exact rfl); (case h3=>exact rfl))
 | ((with_reducible refine' Mq ?h1 ?h2 ?h3); (case h1=>walk_at "ev"); (case h2=>exact rfl); (case h3=>exact rfl))
 | exact rfl
 | assumption)
local macro_rules | `(tactic| walk_at "call")=>`(tactic| first | assumption | exact rfl)
section
variable [HK]
def Sg (s:Str):Prop:=s = "+" \/ s = "-" \/ s = "*" \/ s = "<" \/ s = "="
noncomputable def rk (s:Str) (a b:Int):Int:=if s = "+" then (a+b)%(1000000000000:Int) else if s = "-" then (a-b)%(1000000000000:Int) else if s = "*" then a*b%(1000000000000:Int) else if s = "<" then (if a<b then 1 else 0) else (if a=b then 1 else 0)
theorem V9 {c:TF} {f g:EF} {ρ ρ1:Ev} (h:c ρ=some (true,ρ1)):rD c f g ρ=f ρ1:=by unfold rD; rw [h,Yu,aaZ rfl]
theorem M8 {c:TF} {f g:EF} {ρ ρ1:Ev} (h:c ρ=some (false,ρ1)):rD c f g ρ=g ρ1:=by unfold rD; rw [h,Yu,aa0 Ze]
theorem Wa {s:Str} {a b:Int}:0<=rk s a b/\rk s a b<(1000000000000:Int):=by
 unfold rk
 have h1:=Zf (a+b) (b:=(1000000000000:Int)) (by decide)
 have h2:=Za (a+b) (b:=(1000000000000:Int)) (by decide)
 have h3:=Zf (a-b) (b:=(1000000000000:Int)) (by decide)
 have h4:=Za (a-b) (b:=(1000000000000:Int)) (by decide)
 have h5:=Zf (a*b) (b:=(1000000000000:Int)) (by decide)
 have h6:=Za (a*b) (b:=(1000000000000:Int)) (by decide)
 split
 . exact ⟨h1,h2⟩
 . split
   . exact ⟨h3,h4⟩
   . split
     . exact ⟨h5,h6⟩
     . split
       . split<;>decide
       . split<;>decide
theorem xn {f:EF} {a b:Str} {ρ ρ1:Ev} (h:f ρ=some (.sh (.str a),ρ1)) (e:(a==b)=true):tT (aq fL f (eC (.str b))) aU ρ=some (true,ρ1):=Ec (l:=.sh (.bl true)) (cJ h rfl (by show some (Lc.sh (.bl (a==b)))=_; rw [e])) rfl
theorem pW {f:EF} {a b:Str} {ρ ρ1:Ev} (h:f ρ=some (.sh (.str a),ρ1)) (e:(a==b)=false):tT (aq fL f (eC (.str b))) aU ρ=some (false,ρ1):=Ec (l:=.sh (.bl false)) (cJ h rfl (by show some (Lc.sh (.bl (a==b)))=_; rw [e])) rfl
theorem Wb {f:EF} {a b:Int} {ρ ρ1:Ev} (h:f ρ=some (.sh (.int a),ρ1)):tT (aq fL f (eC (.int b))) aU ρ=some (decide (a=b),ρ1):=Ec (l:=.sh (.bl (a==b))) (cJ h rfl rfl) (by show some (a==b)=_; rfl)
theorem Sw {s:Str} {a b:Int} {mu:Mu} (hs:Sg s) (ha:0<=a) (ha2:a<(1000000000000:Int)):vJ [.str s,.int a,.int b] mu=some (.sh (.int (rk s a b)),mu):=by
 have lt:∀ (f:Int->Int->PV),tT (aq sZ (aa 1) (aa 2)) aU ⟨[some (.sh (.str s)),some (.sh (.int a)),some (.sh (.int b))],mu⟩=some (decide (a<b),⟨[some (.sh (.str s)),some (.sh (.int a)),some (.sh (.int b))],mu⟩):=fun _=>rfl
 have eq:tT (aq fL (aa 1) (aa 2)) aU ⟨[some (.sh (.str s)),some (.sh (.int a)),some (.sh (.int b))],mu⟩=some (a==b,⟨[some (.sh (.str s)),some (.sh (.int a)),some (.sh (.int b))],mu⟩):=rfl
 have no:∀ (t:Str) (f g:SF),(s==t)=false->aH (bN (tT (aq fL (aa 0) (eC (.str t))) aU) f bY) g ⟨[some (.sh (.str s)),some (.sh (.int a)),some (.sh (.int b))],mu⟩=g ⟨[some (.sh (.str s)),some (.sh (.int a)),some (.sh (.int b))],mu⟩:=fun t f g h=>
  xQ ((bG (pW (a:=s) rfl h)).trans rfl)
 have yes:∀ (t:Str) (f g:SF) (r:Lc) (ρ:Ev),(s==t)=true->f ⟨[some (.sh (.str s)),some (.sh (.int a)),some (.sh (.int b))],mu⟩=some (.rt r ρ)->aH (bN (tT (aq fL (aa 0) (eC (.str t))) aU) f bY) g ⟨[some (.sh (.str s)),some (.sh (.int a)),some (.sh (.int b))],mu⟩=some (.rt r ρ):=fun t f g r ρ h h2=>
  gn ((dB (xn (a:=s) rfl h)).trans h2)
 refine bj (ρ:=⟨[some (.sh (.str s)),some (.sh (.int a)),some (.sh (.int b))],mu⟩) ?_
 rcases hs with rfl | rfl | rfl | rfl | rfl
 . exact yes _ _ _ _ _ (by decide +kernel) (b8 (cJ (cJ rfl rfl (oO _ _)) rfl (eZ (by decide))))
 . refine (no _ _ _ (by decide +kernel)).trans ?_
   exact yes _ _ _ _ _ (by decide +kernel) (b8 (cJ (cJ rfl rfl rfl) rfl (eZ (by decide))))
 . refine (no _ _ _ (by decide +kernel)).trans ((no _ _ _ (by decide +kernel)).trans ?_)
   exact yes _ _ _ _ _ (by decide +kernel) (b8 (cJ (cJ rfl rfl (pL (by omega) (by omega))) rfl (eZ (by decide))))
 . refine (no _ _ _ (by decide +kernel)).trans ((no _ _ _ (by decide +kernel)).trans ((no _ _ _ (by decide +kernel)).trans ?_))
   refine yes _ _ _ _ _ (by decide +kernel) (b8 ?_)
   unfold rD
   rw [lt (fun _ _=>.non),Yu]
   have e:rk "<" a b=if a<b then 1 else 0:=rfl
   rw [e]
   by_cases h:a<b
   . rw [aa3 h,aaZ h,aaZ rfl]; rfl
   . rw [aa2 h,aa0 h,aa0 Ze]; rfl
 . refine (no _ _ _ (by decide +kernel)).trans ((no _ _ _ (by decide +kernel)).trans ((no _ _ _ (by decide +kernel)).trans ((no _ _ _ (by decide +kernel)).trans (b8 ?_))))
   unfold rD
   rw [eq,Yu]
   have e:rk "=" a b=if a=b then 1 else 0:=rfl
   rw [e]
   by_cases h:a=b
   . rw [aaZ h,aaZ (show ((a==b,_):Bool×Ev).1=true from beq_iff_eq.mpr h)]; rfl
   . rw [aa0 h,aa0 (show ¬ ((a==b,_):Bool×Ev).1=true from fun q=>h (beq_iff_eq.mp q))]; rfl
theorem Sg.no {s:Str} (h:Sg s):(s == "num")=false/\(s == "box")=false/\(s == "@")=false:=by
 rcases h with rfl | rfl | rfl | rfl | rfl<;>decide +kernel
theorem Wc {n:Nat} {d v:PV} {mu:Mu}:dh (n+1) [.tup [.str "num",v],d] mu=some (.sh v,mu):=
 bj (ρ:=⟨[some (.sh (.tup [.str "num",v])),some (.sh d)],mu⟩) (gn ((dB (xn (a := "num") rfl (by decide +kernel))).trans (b8 rfl)))
def Dc (d:PV) (l:PD):Prop:=(∃ ks ps,d=.dk ks ps/\l=ks.zip ps)\/∃ ks ps,d=.df ks ps/\l=ks.zip ps
theorem xX {fa fb:EF} {ρ ρ1 ρ2:Ev} {x y:Lc} {l:PD} {k:Key} {p:PV} (h1:fa ρ=some (x,ρ1)) (h2:fb ρ1=some (y,ρ2)) (hd:Dc x.pv l) (hk:qd y.pv=some k) (hv:cH l k=some p):cV fa fb ρ=some (.sh p,ρ2):=by
 unfold cV
 rw [h1,Yu]
 dsimp only
 rw [h2,Yu]
 rcases hd with ⟨ks,ps,e,rfl⟩ | ⟨ks,ps,e,rfl⟩
 . rw [e]
   dsimp only
   rw [hk,Yu,hv]
   rfl
 . rw [e]
   dsimp only
   rw [hk,Yu,hv]
   rfl
theorem Wd {n:Nat} {d:PV} {l:PD} {x:Str} {p:PV} {mu:Mu} (hd:Dc d l) (h:cH l (.inr x)=some p):dh (n+1) [.tup [.str "box",.str x],d] mu=some (.sh p,mu):=
 bj (ρ:=⟨[some (.sh (.tup [.str "box",.str x])),some (.sh d)],mu⟩) (aB (ρ':=⟨[some (.sh (.tup [.str "box",.str x])),some (.sh d)],mu⟩) ((bG (pW (a := "box") rfl (by decide +kernel))).trans rfl) (gn ((dB (xn (a := "box") rfl (by decide +kernel))).trans (b8 (xX (x:=.sh d) (y:=.sh (.str x)) rfl rfl hd rfl h)))))
theorem Sx {n:Nat} {d e1 e2:PV} {s:Str} {a b:Int} {mu:Mu} (hs:Sg s) (ha:0<=a) (ha2:a<(1000000000000:Int)) (h1:dh n [e1,d] mu=some (.sh (.int a),mu)) (h2:dh n [e2,d] mu=some (.sh (.int b),mu)):dh (n+1) [.tup [.str s,e1,e2],d] mu=some (.sh (.int (rk s a b)),mu):=by
 obtain ⟨n1,n2,n3⟩:=hs.no
 refine bj (ρ:=⟨[some (.sh (.tup [.str s,e1,e2])),some (.sh d)],mu⟩) (aB (ρ':=⟨[some (.sh (.tup [.str s,e1,e2])),some (.sh d)],mu⟩) ((bG (pW (a:=s) rfl n1)).trans rfl) (aB (ρ':=⟨[some (.sh (.tup [.str s,e1,e2])),some (.sh d)],mu⟩) ((bG (pW (a:=s) rfl n2)).trans rfl) (aB (ρ':=⟨[some (.sh (.tup [.str s,e1,e2])),some (.sh d)],mu⟩) ((bG (pW (a:=s) rfl n3)).trans rfl) (b8 ?_))))
 exact aY (ps:=[.str s,.int a,.int b]) (aC rfl (aC (aY (ps:=[e1,d]) (aC rfl (aC rfl rfl)) rfl rfl rfl h1) (aC (aY (ps:=[e2,d]) (aC rfl (aC rfl rfl)) rfl rfl rfl h2) rfl))) rfl rfl rfl (Sw hs ha ha2)
theorem gB {b:BF} {body:SF} {x:PV} {xs:List PV} {ρ ρ1 ρ2:Ev} {R:Option Fl} (h1:b x ρ=some ρ1) (h2:body ρ1=some (.nx ρ2)) (h3:iT b body xs ρ2=R):iT b body (x::xs) ρ=R:=by
 show (b x ρ).bind _=R
 rw [h1,Yu,h2,Yu]
 exact h3
theorem We {ns:List Int} {i:Int} (h0:0<=i) (h1:i<ns.length):∃ c,wO (.lst (ns.map .int)) (.int i)=some (.sh (.int c)):=by
 obtain ⟨x,e,e2⟩:=FP (l:=ns.map PV.int) (i:=i) h0 (by rw [Yw]; exact h1)
 rw [Y7] at e2
 obtain ⟨c,_,rfl⟩:=aa7 e2
 exact ⟨c,by show (gj (ns.map PV.int) i).map _=_; rw [e]; rfl⟩
theorem Eg {p q:PV} {fa fb:EF} {ρ ρ1 ρ2:Ev} {l m r:Lc} (h1:fa ρ=some (l,ρ1)) (hx:l.pv=p) (h2:fb ρ1=some (m,ρ2)) (hy:m.pv=q) (hn:(∀ n,p≠.ptr n)/\(∀ k s,p≠.dk k s)/\∀ k s,p≠.df k s) (h3:wO p q=some r):cV fa fb ρ=some (r,ρ2):=by
 have e:=jf (fa:=fun _=>some (l,ρ1)) (fb:=fun _=>some (m,ρ2)) (ρ:=ρ) rfl hx rfl hy hn.1 h3
 unfold cV
 rw [h1,Yu]
 dsimp only
 rw [h2,Yu]
 split
 . rename_i ks ps q; rw [hx] at q; exact (hn.2.1 _ _ q).elim
 . rename_i ks ps q; rw [hx] at q; exact (hn.2.2 _ _ q).elim
 . exact e
theorem An {ps:List PV}:(∀ n,PV.lst ps≠.ptr n)/\(∀ k s,PV.lst ps≠.dk k s)/\∀ k s,PV.lst ps≠.df k s:=⟨fun n h=>(by cases h),fun _ _ h=>(by cases h),fun _ _ h=>(by cases h)⟩
theorem xq {a b:Int} (h:0<b) (h2:b<18446744073709551616):ph (.int a) (.int b)=some (.sh (.int (a/b))):=by
 show (if decide (0<b/\b<18446744073709551616)=true then _ else _)=_
 rw [aaZ (aa3 ⟨h,h2⟩)]
theorem cell_eq {ns:List Int} {k:Int} (hn:ns.length<=63) (h0:0<=k) (h1:k<100000):∃ c,0<=c/\c<2147483629/\∀ mu:Mu,bB [.lst (ns.map .int),.int k] mu=some (.sh (.int c),mu):=by
 have hN:(ns.map PV.int).length=ns.length:=Yw ..
 have ln:∀ (o:List (Option Lc)) (mu:Mu),gO (aa 0) ⟨some (.sh (.lst (ns.map .int)))::o,mu⟩=some (.sh (.int ns.length),⟨some (.sh (.lst (ns.map .int)))::o,mu⟩):=fun o mu=>by
  show some (Lc.sh (.int ((ns.map PV.int).length:Nat)),_)=_
  rw [hN]
  rfl
 have fin:∀ (c d:Int) (mu:Mu),(k/(max 1 (ns.length:Int)))=d->bD (aq aQ (aq bK (aq cL (aa 2) (eC (.int 69621))) (aq cL (aq ph (aa 1) (eB max2 (aj (eC (.int 1)) (aj (gO (aa 0)) ao)))) (eC (.int 40014)))) (eC (.int 2147483629))) ⟨[some (.sh (.lst (ns.map .int))),some (.sh (.int k)),some (.sh (.int c))],mu⟩=
  some (.rt (.sh (.int ((c*69621+d*40014)%2147483629))) ⟨[some (.sh (.lst (ns.map .int))),some (.sh (.int k)),some (.sh (.int c))],mu⟩):=fun c d mu hd=>by
  have mx:eB max2 (aj (eC (.int 1)) (aj (gO (aa 0)) ao)) ⟨[some (.sh (.lst (ns.map .int))),some (.sh (.int k)),some (.sh (.int c))],mu⟩=some (.sh (.int (max 1 (ns.length:Int))),⟨[some (.sh (.lst (ns.map .int))),some (.sh (.int k)),some (.sh (.int c))],mu⟩):=by
   refine kE (ls:=[.sh (.int 1),.sh (.int ns.length)]) (ps:=[.int 1,.int ns.length]) (aC rfl (aC (ln _ _) rfl)) rfl ?_
   show some (Lc.sh (.int (if (ns.length:Int)>1 then (ns.length:Int) else 1)))=_
   have:(if (ns.length:Int)>1 then (ns.length:Int) else 1)=max 1 (ns.length:Int):=by split<;>omega
   rw [this]
  have hmx:0<max 1 (ns.length:Int)/\max 1 (ns.length:Int)<18446744073709551616:=by omega
  refine b8 (cJ (cJ (cJ rfl rfl (pM (by decide) (by decide))) (cJ (l:=.sh (.int (d*40014))) (cJ (l:=.sh (.int d)) rfl mx ?_) rfl (pM (by decide) (by decide))) (oO _ _)) rfl (eZ (by decide)))
  rw [← hd]
  exact xq hmx.1 hmx.2
 have st1:∀ mu:Mu,aL 2 (aq bK (aq bK (aq cL (aa 1) (aa 1)) (aq cL (eC (.int 11)) (aa 1))) (eC (.int 3))) (env0 3 [.lst (ns.map .int),.int k] mu)=some (.nx ⟨[some (.sh (.lst (ns.map .int))),some (.sh (.int k)),some (.sh (.int (k*k+11*k+3)))],mu⟩):=fun mu=>
  bA (cJ (cJ (cJ rfl rfl (pL (by omega) (by omega))) (cJ rfl rfl (pL (by decide) (by decide))) (oO _ _)) rfl (oO _ _)) rfl rfl
 have tst:∀ (mu:Mu) (c:Int),tT (aq rJ (gO (aa 0)) (eC (.int 0))) aU ⟨[some (.sh (.lst (ns.map .int))),some (.sh (.int k)),some (.sh (.int c))],mu⟩=some (decide ((0:Int)<ns.length),⟨[some (.sh (.lst (ns.map .int))),some (.sh (.int k)),some (.sh (.int c))],mu⟩):=fun mu c=>
  d7 (cJ (ln _ _) rfl rfl) rfl rfl
 by_cases hz:(0:Int)<ns.length
 . have hm0:=Zf k (b:=ns.length) (by omega)
   have hm1:=Za k (b:=ns.length) hz
   obtain ⟨x,ex⟩:=We hm0 hm1
   have st3:∀ (mu:Mu) (c:Int),aL 2 (aq bK (aq aQ (cV (aa 0) (aq aQ (aa 1) (gO (aa 0)))) (eC (.int 1000000000039))) (aq cL (aq ph (aa 1) (gO (aa 0))) (eC (.int 7907)))) ⟨[some (.sh (.lst (ns.map .int))),some (.sh (.int k)),some (.sh (.int c))],mu⟩=some (.nx ⟨[some (.sh (.lst (ns.map .int))),some (.sh (.int k)),some (.sh (.int (x%1000000000039+k/ns.length*7907)))],mu⟩):=fun mu c=>
    bA (ρ1:=⟨[some (.sh (.lst (ns.map .int))),some (.sh (.int k)),some (.sh (.int c))],mu⟩) (cJ (cJ (x:=.sh (.int x)) (y:=.sh (.int 1000000000039)) (Eg (p:=.lst (ns.map .int)) (m:=.sh (.int (k%ns.length))) rfl rfl (cJ (x:=.sh (.int k)) (y:=.sh (.int ns.length)) rfl (ln _ _) (eZ hz)) rfl An ex) rfl (eZ (by decide))) (cJ (x:=.sh (.int (k/ns.length))) (y:=.sh (.int 7907)) (cJ (x:=.sh (.int k)) (y:=.sh (.int ns.length)) rfl (ln _ _) (xq hz (by omega))) rfl (pM (by decide) (by decide))) (oO _ _)) rfl rfl
   exact ⟨_,Zf _ (by decide),Za _ (by decide),fun mu=>bj (aB (st1 mu) (aB ((dB ((tst mu _).trans (by rw [aa3 hz]<;>rfl))).trans (st3 mu _)) (fin _ _ mu rfl)))⟩
 . refine ⟨_,Zf _ (by decide),Za _ (by decide),fun mu=>bj (ρ:=⟨[some (.sh (.lst (ns.map .int))),some (.sh (.int k)),some (.sh (.int (k*k+11*k+3)))],mu⟩) (aB (st1 mu) (aB ((bG ((tst mu _).trans (by rw [aa2 hz]<;>rfl))).trans rfl) (fin _ _ mu rfl)))⟩
noncomputable def lO (c:Int):Int:=if c%4=0 then c/4%6 else if c%4=1 then (1000000000000:Int)-1-c/4%4 else if c%4=2 then 999997+c/4%7 else c*465661287%(1000000000000:Int)
theorem vO (c:Int):0<=lO c/\lO c<(1000000000000:Int):=by
 have h5:=Zf (c*465661287) (b:=(1000000000000:Int)) (by decide)
 have h6:=Za (c*465661287) (b:=(1000000000000:Int)) (by decide)
 unfold lO
 split
 . omega
 . split
   . omega
   . split
     . omega
     . exact ⟨h5,h6⟩
theorem tV (c:Int) (mu:Mu):dR [.int c] mu=some (.sh (.int (lO c)),mu):=by
 have st:aL 1 (aq aQ (aa 0) (eC (.int 4))) (env0 2 [.int c] mu)=some (.nx ⟨[some (.sh (.int c)),some (.sh (.int (c%4)))],mu⟩):=bA (cJ rfl rfl (eZ (by decide))) rfl rfl
 have no:∀ (t:Int) (f g:SF),¬ c%4=t->aH (bN (tT (aq fL (aa 1) (eC (.int t))) aU) f bY) g ⟨[some (.sh (.int c)),some (.sh (.int (c%4)))],mu⟩=g ⟨[some (.sh (.int c)),some (.sh (.int (c%4)))],mu⟩:=fun t f g h=>
  xQ ((bG ((Wb (a:=c%4) rfl).trans (by rw [aa2 h]<;>rfl))).trans rfl)
 have yes:∀ (t:Int) (f g:SF) (r:Lc) (ρ:Ev),c%4=t->f ⟨[some (.sh (.int c)),some (.sh (.int (c%4)))],mu⟩=some (.rt r ρ)->aH (bN (tT (aq fL (aa 1) (eC (.int t))) aU) f bY) g ⟨[some (.sh (.int c)),some (.sh (.int (c%4)))],mu⟩=some (.rt r ρ):=fun t f g r ρ h h2=>
  gn ((dB ((Wb (a:=c%4) rfl).trans (by rw [aa3 h]<;>rfl))).trans h2)
 have d4:aq ph (aa 0) (eC (.int 4)) ⟨[some (.sh (.int c)),some (.sh (.int (c%4)))],mu⟩=some (.sh (.int (c/4)),⟨[some (.sh (.int c)),some (.sh (.int (c%4)))],mu⟩):=cJ rfl rfl (xq (by decide) (by decide))
 have pw:aq oJ (eC (.int 10)) (eC (.int 12)) ⟨[some (.sh (.int c)),some (.sh (.int (c%4)))],mu⟩=some (.sh (.int (1000000000000:Int)),⟨[some (.sh (.int c)),some (.sh (.int (c%4)))],mu⟩):=rfl
 refine bj (ρ:=⟨[some (.sh (.int c)),some (.sh (.int (c%4)))],mu⟩) (aB st ?_)
 by_cases e0:c%4=0
 . rw [show lO c=c/4%6 from aaZ e0]
   exact yes 0 _ _ _ _ e0 (b8 (cJ d4 rfl (eZ (by decide))))
 . by_cases e1:c%4=1
   . rw [show lO c=(1000000000000:Int)-1-c/4%4 from (aa0 e0).trans (aaZ e1)]
     exact (no 0 _ _ e0).trans (yes 1 _ _ _ _ e1 (b8 (cJ (cJ pw rfl rfl) (cJ d4 rfl (eZ (by decide))) rfl)))
   . by_cases e2:c%4=2
     . rw [show lO c=999997+c/4%7 from (aa0 e0).trans ((aa0 e1).trans (aaZ e2))]
       exact (no 0 _ _ e0).trans ((no 1 _ _ e1).trans (yes 2 _ _ _ _ e2 (b8 (cJ rfl (cJ d4 rfl (eZ (by decide))) (oO _ _)))))
     . rw [show lO c=c*465661287%(1000000000000:Int) from (aa0 e0).trans ((aa0 e1).trans (aa0 e2))]
       exact (no 0 _ _ e0).trans ((no 1 _ _ e1).trans ((no 2 _ _ e2).trans (b8 (cJ (cJ rfl rfl (pM (by decide) (by decide))) pw (eZ (by decide))))))
theorem M9 (c:Int):∃ v,0<=v/\v<(1000000000000:Int)/\∀ mu:Mu,dR [.int c] mu=some (.sh (.int v),mu):=⟨lO c,(vO c).1,(vO c).2,tV c⟩
noncomputable def ji (rs:List Int) (i:Int):Int:=rs.getD i.toNat 0
theorem Ir {rs:List Int} {i:Int} (h0:0<=i) (h1:i<rs.length):wO (.lst (rs.map .int)) (.int i)=some (.sh (.int (ji rs i))):=by
 obtain ⟨x,e,e2⟩:=FP (l:=rs.map PV.int) (i:=i) h0 (by rw [Yw]; exact h1)
 rw [Y7] at e2
 obtain ⟨c,hc,rfl⟩:=aa7 e2
 show (gj (rs.map PV.int) i).map _=_
 rw [e]
 have:ji rs i=c:=by unfold ji; rw [ZM,hc]; rfl
 rw [this]
 rfl
theorem Nb {rs:List Int} {i:Int} (h0:0<=i) (h1:¬ i<rs.length):ji rs i=0:=by
 unfold ji
 rw [ZM,Z7 (by omega)]
 rfl
theorem PJ {rs:List Int} {i:Int} (h:∀ x∈rs,0<=x/\x<(1000000000000:Int)):0<=ji rs i/\ji rs i<(1000000000000:Int):=by
 unfold ji
 rw [ZM]
 cases e:rs[i.toNat]? with
 | none=>decide
 | some x=>exact h x (Zq e)
theorem GQ {rs:List Int} {i:Int} {mu:Mu} (h0:0<=i):uo [.lst (rs.map .int),.int i] mu=some (.sh (.int (ji rs i)),mu):=by
 refine bj (ρ:=⟨[some (.sh (.lst (rs.map .int))),some (.sh (.int i))],mu⟩) (b8 ?_)
 have hl:((rs.map PV.int).length:Int)=rs.length:=by rw [Yw]
 have t:tT (nu uB sZ (eC (.int 0)) (aa 1) (gO (aa 0))) aU ⟨[some (.sh (.lst (rs.map .int))),some (.sh (.int i))],mu⟩=some (decide (i<rs.length),⟨[some (.sh (.lst (rs.map .int))),some (.sh (.int i))],mu⟩):=by
  rw [← hl]
  simp [nu,eC,eB,gO,Pb,aj,ao,aa,Ev.set,Lc.pv,uB,sZ,sY,h0,tT,aU]
 by_cases h:i<rs.length
 . exact (V9 (t.trans (by rw [aa3 h]<;>rfl))).trans (Eg (p:=.lst (rs.map .int)) (m:=.sh (.int i)) rfl rfl rfl rfl An (Ir h0 h))
 . rw [Nb h0 h]
   exact (M8 (t.trans (by rw [aa2 h]<;>rfl))).trans rfl
theorem Xa {n:Nat} {d e:PV} {l:PD} {r:Str} {rs:List Int} {i:Int} {mu:Mu} (hd:Dc d l) (h:cH l (.inr r)=some (.lst (rs.map .int))) (h0:0<=i) (h1:dh n [e,d] mu=some (.sh (.int i),mu)):dh (n+1) [.tup [.str "@",.str r,e],d] mu=some (.sh (.int (ji rs i)),mu):=by
 refine bj (ρ:=⟨[some (.sh (.tup [.str "@",.str r,e])),some (.sh d)],mu⟩) (aB (ρ':=⟨[some (.sh (.tup [.str "@",.str r,e])),some (.sh d)],mu⟩) ((bG (pW (a := "@") rfl (by decide +kernel))).trans rfl) (aB (ρ':=⟨[some (.sh (.tup [.str "@",.str r,e])),some (.sh d)],mu⟩) ((bG (pW (a := "@") rfl (by decide +kernel))).trans rfl) (gn ((dB (xn (a := "@") rfl (by decide +kernel))).trans (b8 ?_)))))
 exact aY (ps:=[.lst (rs.map .int),.int i]) (ls:=[.sh (.lst (rs.map .int)),.sh (.int i)]) (aC (xX (x:=.sh d) (y:=.sh (.str r)) rfl rfl hd rfl h) (aC (aY (ps:=[e,d]) (aC rfl (aC rfl rfl)) rfl rfl rfl h1) rfl)) rfl rfl rfl (GQ h0)
abbrev In (x:Int):Prop:=0<=x/\x<1000000000000
noncomputable abbrev zI (x:Int):Option Lc:=some (.sh (.int x))
noncomputable abbrev zT (x:Str):Option Lc:=some (.sh (.str x))
noncomputable abbrev zL (x:List PV):Option Lc:=some (.sh (.lst x))
noncomputable abbrev zO (x:List PV):Option Lc:=some (.own (.lst x))
noncomputable abbrev zS (x:PV):Option Lc:=some (.sh x)
inductive Ex where
 | num (i:Int)
 | box (x:Str)
 | at_ (x:Str) (e:Ex)
 | op (s:Str) (a b:Ex)
noncomputable def Ex.pv:Ex->PV
 | .num i=>.tup [.str "num",.int i]
 | .box x=>.tup [.str "box",.str x]
 | .at_ x e=>.tup [.str "@",.str x,e.pv]
 | .op s a b=>.tup [.str s,a.pv,b.pv]
noncomputable def Ex.dp:Ex->Nat
 | .num _=>1
 | .box _=>1
 | .at_ _ e=>e.dp+1
 | .op _ a b=>max a.dp b.dp+1
inductive BV where
 | n (i:Int)
 | l (is:List Int)
noncomputable def BV.pv:BV->PV
 | .n i=>.int i
 | .l is=>.lst (is.map .int)
def BV.ok:BV->Prop
 | .n i=>In i
 | .l is=>∀ i∈is,In i
abbrev Bs:=List (Str×BV)
noncomputable def look (B:Bs) (x:Str):Option BV:=match B with
 | []=>none
 | (y,v)::B=>if y=x then some v else look B x
noncomputable def numAt (B:Bs) (x:Str):Int:=match look B x with
 | some (.n i)=>i
 | _=>0
noncomputable def lstAt (B:Bs) (x:Str):List Int:=match look B x with
 | some (.l is)=>is
 | _=>[]
noncomputable def ev (B:Bs):Ex->Int
 | .num i=>i
 | .box x=>numAt B x
 | .at_ x e=>ji (lstAt B x) (ev B e)
 | .op s a b=>rk s (ev B a) (ev B b)
def yu (B:Bs) (x:Str):Prop:=∃ i,look B x=some (.n i)
def GR (B:Bs) (x:Str):Prop:=∃ is,look B x=some (.l is)
def Ex.ok (B:Bs):Ex->Prop
 | .num i=>In i
 | .box x=>yu B x
 | .at_ x e=>GR B x/\e.ok B
 | .op s a b=>Sg s/\a.ok B/\b.ok B
structure Ao (B:Bs):Prop where
 ok:∀ q∈B,q.2.ok
 sm:∀ q∈B,∀ is,q.2=.l is->is.length<=8
theorem sI:∀ {B:Bs} {x:Str} {v:BV},look B x=some v->(x,v)∈B
 | (y,w)::B,x,v,h=>by
  unfold look at h
  split at h
  . rename_i e; cases h; subst e; exact Yv
  . exact YG _ (sI h)
theorem pI {B:Bs} (hB:Ao B):∀ {e:Ex},e.ok B->In (ev B e)
 | .num i,h=>h
 | .box x,⟨i,h⟩=>by
  show In (numAt B x)
  unfold numAt
  rw [h]
  exact hB.ok _ (sI h)
 | .at_ x e,⟨⟨is,h⟩,_⟩=>by
  show In (ji (lstAt B x) (ev B e))
  unfold lstAt
  rw [h]
  exact PJ (hB.ok _ (sI h))
 | .op s a b,_=>Wa
noncomputable abbrev bL (B:Bs):List Key:=B.map fun q=>.inr q.1
noncomputable abbrev qz (B:Bs):PV:=.dk (bL B) (B.map fun q=>q.2.pv)
theorem Kh:∀ {B:Bs} {f:BV->PV},(bL B).zip (B.map fun q=>f q.2)=B.map fun q=>(.inr q.1,f q.2)
 | [],_=>rfl
 | q::B,f=>by
  show (Sum.inr q.1,f q.2)::(bL B).zip (B.map fun q=>f q.2)=_
  rw [Kh]
  rfl
theorem Kl:∀ {B:Bs} {x:Str},cH (B.map fun q=>(Sum.inr q.1,q.2.pv)) (.inr x)=(look B x).map BV.pv
 | [],_=>rfl
 | (y,v)::B,x=>by
  show (if (Sum.inr y:Key)=.inr x then some v.pv else cH (B.map fun q=>(Sum.inr q.1,q.2.pv)) (.inr x))=(if y=x then some v else look B x).map BV.pv
  by_cases e:y=x
  . rw [aaZ (by rw [e]),aaZ e]; rfl
  . rw [aa0 (fun h=>e (Sum.inr.inj h)),aa0 e]; exact Kl
theorem value_eq {B:Bs} (hB:Ao B):∀ {e:Ex} {n:Nat} {mu:Mu},e.ok B->e.dp<=n->dh n [e.pv,qz B] mu=some (.sh (.int (ev B e)),mu)
 | .num i,n,mu,h,hn=>by
  obtain ⟨m,rfl⟩:∃ m,n=m+1:=⟨n-1,by unfold Ex.dp at hn; omega⟩
  exact Wc
 | .box x,n,mu,⟨i,h⟩,hn=>by
  obtain ⟨m,rfl⟩:∃ m,n=m+1:=⟨n-1,by unfold Ex.dp at hn; omega⟩
  refine Wd (.inl ⟨_,_,rfl,rfl⟩) (p:=.int (numAt B x)) ?_
  rw [Kh (f:=BV.pv),Kl]
  unfold numAt
  rw [h]
  rfl
 | .at_ x e,n,mu,⟨⟨is,h⟩,he⟩,hn=>by
  obtain ⟨m,rfl⟩:∃ m,n=m+1:=⟨n-1,by unfold Ex.dp at hn; omega⟩
  refine Xa (.inl ⟨_,_,rfl,rfl⟩) (rs:=lstAt B x) ?_ (pI hB he).1 (value_eq hB he (by unfold Ex.dp at hn; omega))
  rw [Kh (f:=BV.pv),Kl]
  unfold lstAt
  rw [h]
  rfl
 | .op s a b,n,mu,⟨hs,ha,hb⟩,hn=>by
  obtain ⟨m,rfl⟩:∃ m,n=m+1:=⟨n-1,by unfold Ex.dp at hn; omega⟩
  exact Sx hs (pI hB ha).1 (pI hB ha).2 (value_eq hB ha (by unfold Ex.dp at hn; omega)) (value_eq hB hb (by unfold Ex.dp at hn; omega))
theorem Wf {a b:List PV} (h:a.length+b.length<=100000):bK (.lst a) (.lst b)=zO (a++b):=by
 show (if _<=_ then _ else none)=_
 rw [aaZ h]
noncomputable abbrev WE (e d:PV) (l2 l3 l4:Option Lc) (mu:Mu):Ev:=⟨[zS e,zS d,l2,l3,l4],mu⟩
theorem PK {is:List Int} {i:Int} (h0:0<=i):ji (is++[0]) (if (is.length:Int)<i then (is.length:Int) else i)=ji is i:=by
 unfold ji
 rw [ZM,ZM]
 split
 . rename_i h
   rw [ZR,YL (Yy _),Zz,Z7 (l:=is) (by omega)]
   rfl
 . rename_i h
   by_cases e:i=is.length
   . rw [e,ZR,YL (Yy _),Zz,Z7 (l:=is) (by omega)]
     rfl
   . rw [Y9 (by omega)]
theorem Df {e d:PV} {s t:Str} {f g:SF} {R:Option Fl} {l2 l3 l4:Option Lc} {mu:Mu} (he:cV (aa 0) (eC (.int 0)) (WE e d l2 l3 l4 mu)=some (.sh (.str s),WE e d l2 l3 l4 mu)) (h:(s==t)=false) (hg:g (WE e d l2 l3 l4 mu)=R):aH (bN (tT (aq fL (cV (aa 0) (eC (.int 0))) (eC (.str t))) aU) f bY) g (WE e d l2 l3 l4 mu)=R:=
 (xQ ((bG (pW (a:=s) he h)).trans rfl)).trans hg
theorem Km {e d:PV} {s t:Str} {f g:SF} {r:Lc} {ρ:Ev} {l2 l3 l4:Option Lc} {mu:Mu} (he:cV (aa 0) (eC (.int 0)) (WE e d l2 l3 l4 mu)=some (.sh (.str s),WE e d l2 l3 l4 mu)) (h:(s==t)=true) (hf:f (WE e d l2 l3 l4 mu)=some (.rt r ρ)):aH (bN (tT (aq fL (cV (aa 0) (eC (.int 0))) (eC (.str t))) aU) f bY) g (WE e d l2 l3 l4 mu)=some (.rt r ρ):=
 gn ((dB (xn (a:=s) he h)).trans hf)
theorem lookB {B:Bs} {x:Str} {v:BV} (h:look B x=some v):cH ((bL B).zip (B.map fun q=>q.2.pv)) (.inr x)=some v.pv:=by
 rw [Kh (f:=BV.pv),Kl,h]
 rfl
noncomputable def Iu (s:Str):Bool := "<" == s||("=" == s||false)
theorem wsum {s:Str} {a b:Int} {e d:PV} {mu:Mu} {l2:Option Lc} (hs:Sg s) (ha:In a) (hb:In b) (he:∀ l3 l4 mu,cV (aa 0) (eC (.int 0)) (WE e d l2 l3 l4 mu)=some (.sh (.str s),WE e d l2 l3 l4 mu)):
 aH (bN (tT (aq QL (cV (aa 0) (eC (.int 0))) (bh (aj (eC (.str "<")) (aj (eC (.str "=")) ao)))) aU)
 (bD (aq cL (eB rM (aj (yp (aq sZ (aa 3) (aa 4)) (aq fL (cV (aa 0) (eC (.int 0))) (eC (.str "=")))) ao)) (eB rM (aj (yp (aq fL (aa 3) (aa 4)) (aq fL (cV (aa 0) (eC (.int 0))) (eC (.str "<")))) ao))))
 bY)
 (aH (bN (tT (aq fL (cV (aa 0) (eC (.int 0))) (eC (.str "*"))) aU)
 (bD (aq aQ (aq cL (aa 3) (aa 4)) (aq oJ (eC (.int 10)) (eC (.int 12)))))
 bY)
 (bD (aq aQ (aq bK (aa 3) (cV (bW (aj (aa 4) (aj (aq yM (aq oJ (eC (.int 10)) (eC (.int 12))) (aa 4)) ao))) (eB rM (aj (aq fL (cV (aa 0) (eC (.int 0))) (eC (.str "-"))) ao)))) (aq oJ (eC (.int 10)) (eC (.int 12))))))
 (WE e d l2 (zI a) (zI b) mu)=some (.rt (.sh (.int (rk s a b))) (WE e d l2 (zI a) (zI b) mu)):=by
 let E:=WE e d l2 (zI a) (zI b) mu
 have h0:cV (aa 0) (eC (.int 0)) E=some (.sh (.str s),E):=he _ _ _
 have pw:aq oJ (eC (.int 10)) (eC (.int 12)) E=some (.sh (.int 1000000000000),E):=rfl
 have ti:tT (aq QL (cV (aa 0) (eC (.int 0))) (bh (aj (eC (.str "<")) (aj (eC (.str "=")) ao)))) aU E=some (Iu s,E):=d7 (bO h0 rfl rfl rfl rfl) rfl rfl
 have eqs:∀ t:Str,aq fL (cV (aa 0) (eC (.int 0))) (eC (.str t)) E=some (.sh (.bl (s==t)),E):=fun t=>bO h0 rfl rfl rfl rfl
 have orE:∀ (f g:EF) (p q:Bool),f E=some (.sh (.bl p),E)->g E=some (.sh (.bl q),E)->yp f g E=some (.sh (.bl (p||q)),E):=fun f g p q hf hg=>by
  unfold yp
  rw [hf,Yu]
  cases p
  . exact hg
  . rfl
 have i1:∀ (f:EF) (p:Bool),f E=some (.sh (.bl p),E)->eB rM (aj f ao) E=some (.sh (.int (if p=true then 1 else 0)),E):=fun f p hf=>kE (ls:=[.sh (.bl p)]) (aC hf rfl) rfl (by cases p<;>rfl)
 have lt:aq sZ (aa 3) (aa 4) E=some (.sh (.bl (decide (a<b))),E):=rfl
 have eq:aq fL (aa 3) (aa 4) E=some (.sh (.bl (a==b)),E):=rfl
 have cmp:∀ p q r t:Bool,(s == "=")=p->(s == "<")=q->decide (a<b)=r->(a==b)=t->bD (aq cL (eB rM (aj (yp (aq sZ (aa 3) (aa 4)) (aq fL (cV (aa 0) (eC (.int 0))) (eC (.str "=")))) ao)) (eB rM (aj (yp (aq fL (aa 3) (aa 4)) (aq fL (cV (aa 0) (eC (.int 0))) (eC (.str "<")))) ao))) E=some (.rt (.sh (.int ((if (r||p)=true then 1 else 0)*(if (t||q)=true then 1 else 0)))) E):=fun p q r t hp hq hr ht=>by
  subst hp hq hr ht
  exact b8 (bO (i1 _ _ (orE _ _ _ _ lt (eqs "="))) rfl (i1 _ _ (orE _ _ _ _ eq (eqs "<"))) rfl (FZ rfl rfl (by split<;>decide) (by split<;>decide)))
 have fin:∀ p:Bool,(s == "-")=p->bD (aq aQ (aq bK (aa 3) (cV (bW (aj (aa 4) (aj (aq yM (aq oJ (eC (.int 10)) (eC (.int 12))) (aa 4)) ao))) (eB rM (aj (aq fL (cV (aa 0) (eC (.int 0))) (eC (.str "-"))) ao)))) (aq oJ (eC (.int 10)) (eC (.int 12)))) E=some (.rt (.sh (.int ((a+if p=true then 1000000000000-b else b)%1000000000000))) E):=fun p hp=>by
  subst hp
  refine b8 (bO (bO rfl rfl (Eg (p:=.lst [.int b,.int (1000000000000-b)]) (pO (ls:=[.sh (.int b),.sh (.int (1000000000000-b))]) (aC rfl (aC (bO pw rfl rfl rfl rfl) rfl)) rfl rfl) rfl (i1 _ _ (eqs "-")) rfl An (r:=.sh (.int (if (s == "-")=true then 1000000000000-b else b))) ?_) rfl rfl) rfl pw rfl (eZ (by decide)))
  cases (s == "-")<;>rfl
 rcases hs with rfl | rfl | rfl | rfl | rfl
 . refine aB (ρ':=E) ((bG (ti.trans (by rw [show Iu "+" = false from by decide +kernel]))).trans rfl) (Df h0 (by decide +kernel) ((fin false (by decide +kernel)).trans ?_))
   rfl
 . refine aB (ρ':=E) ((bG (ti.trans (by rw [show Iu "-" = false from by decide +kernel]))).trans rfl) (Df h0 (by decide +kernel) ((fin true (by decide +kernel)).trans ?_))
   rw [show rk "-" a b=(a-b)%1000000000000 from rfl,aaZ rfl,show a+(1000000000000-b)=(a-b)+1000000000000 from by omega,Int.add_emod_right]
 . refine aB (ρ':=E) ((bG (ti.trans (by rw [show Iu "*" = false from by decide +kernel]))).trans rfl) (Km h0 (by decide +kernel) (b8 (bO (bO rfl rfl rfl rfl (pL (by omega) (by omega))) rfl pw rfl (eZ (by decide)))))
 . refine gn ((dB (ti.trans (by rw [show Iu "<" = true from by decide +kernel]))).trans ?_)
   refine (cmp false true _ _ (by decide +kernel) (by decide +kernel) rfl rfl).trans ?_
   rw [show rk "<" a b=if a<b then 1 else 0 from rfl,Bool.or_false,Bool.or_true,aaZ (rfl:true=true),Int.mul_one]
   by_cases h:a<b
   . rw [aa3 h,aaZ rfl,aaZ h]
   . rw [aa2 h,aa0 Ze,aa0 h]
 . refine gn ((dB (ti.trans (by rw [show Iu "=" = true from by decide +kernel]))).trans ?_)
   refine (cmp true false _ _ (by decide +kernel) (by decide +kernel) rfl rfl).trans ?_
   rw [show rk "=" a b=if a=b then 1 else 0 from rfl,Bool.or_true,Bool.or_false,aaZ (rfl:true=true),Int.one_mul]
   by_cases h:a=b
   . rw [aaZ h,aaZ (beq_iff_eq.mpr h)]
   . rw [aa0 h,aa0 (fun q=>h (beq_iff_eq.mp q))]
theorem mJ {B:Bs} (hB:Ao B):∀ {e:Ex} {n:Nat} {mu:Mu},e.ok B->e.dp<=n->cN n [e.pv,qz B] mu=some (.sh (.int (ev B e)),mu)
 | .num i,n,mu,h,hn=>by
  obtain ⟨m,rfl⟩:∃ m,n=m+1:=⟨n-1,by unfold Ex.dp at hn; omega⟩
  exact bj (ρ:=WE (Ex.num i).pv (qz B) none none none mu) (Km (s := "num") rfl (by decide +kernel) (b8 rfl))
 | .box x,n,mu,⟨i,h⟩,hn=>by
  obtain ⟨m,rfl⟩:∃ m,n=m+1:=⟨n-1,by unfold Ex.dp at hn; omega⟩
  have e:ev B (.box x)=i:=by show numAt B x=i; unfold numAt; rw [h]
  rw [e]
  exact bj (ρ:=WE (Ex.box x).pv (qz B) none none none mu) (Df (s := "box") rfl (by decide +kernel) (Km (s := "box") rfl (by decide +kernel) (b8 (xX (x:=.sh (qz B)) (y:=.sh (.str x)) rfl rfl (.inl ⟨_,_,rfl,rfl⟩) rfl (lookB h)))))
 | .at_ x e,n,mu,⟨⟨is,h⟩,he⟩,hn=>by
  obtain ⟨m,rfl⟩:∃ m,n=m+1:=⟨n-1,by unfold Ex.dp at hn; omega⟩
  have ih:=mJ (mu:=mu) hB he (n:=m) (by unfold Ex.dp at hn; omega)
  have hi:=pI hB he
  have hsm:=hB.sm _ (sI h) is rfl
  have e1:ev B (.at_ x e)=ji is (ev B e):=by show ji (lstAt B x) (ev B e)=_; unfold lstAt; rw [h]
  rw [e1]
  let E:=fun l2=>WE (Ex.at_ x e).pv (qz B) l2 none none mu
  have gx:∀ l2,cV (aa 1) (cV (aa 0) (eC (.int 1))) (E l2)=some (.sh (.lst (is.map .int)),E l2):=fun l2=>xX (x:=.sh (qz B)) (y:=.sh (.str x)) rfl rfl (.inl ⟨_,_,rfl,rfl⟩) rfl (lookB h)
  refine bj (ρ:=E (zI (ev B e))) (Df (s := "@") rfl (by decide +kernel) (Df (s := "@") rfl (by decide +kernel) (Km (s := "@") rfl (by decide +kernel) (aB (ρ':=E (zI (ev B e))) (bA (aY (ls:=[.sh e.pv,.sh (qz B)]) (aC rfl (aC rfl rfl)) rfl rfl rfl ih) rfl rfl) (b8 ?_)))))
  generalize ev B e=i at hi
  refine Eg (p:=.lst ((is++[0]).map .int)) (q:=.int (if (is.length:Int)<i then (is.length:Int) else i)) (ρ1:=E (zI i)) (l:=.own (.lst ((is++[0]).map .int))) (m:=.sh (.int (if (is.length:Int)<i then (is.length:Int) else i))) (bO (gx _) rfl (pO (ls:=[.sh (.int 0)]) rfl rfl rfl) rfl ?_) rfl (kE (ls:=[.sh (.int i),.sh (.int (is.length:Nat))]) (aC rfl (aC ?_ rfl)) rfl rfl) rfl An ?_
  . rw [Y6]
    exact Wf (by rw [Yw]; simp; omega)
  . show (Option.bind (cV (aa 1) (cV (aa 0) (eC (.int 1))) (E (zI i))) _)=_
    rw [gx,Yu]
    show some (Lc.sh (.int ((is.map PV.int).length:Nat)),_)=_
    rw [Yw]
  . rw [← PK hi.1]
    refine Ir (by split<;>omega) ?_
    rw [YD]
    show _<((is.length+1:Nat):Int)
    split<;>omega
 | .op s a b,n,mu,⟨hs,ha,hb⟩,hn=>by
  obtain ⟨m,rfl⟩:∃ m,n=m+1:=⟨n-1,by unfold Ex.dp at hn; omega⟩
  have ia:=mJ (mu:=mu) hB ha (n:=m) (by unfold Ex.dp at hn; omega)
  have ib:=mJ (mu:=mu) hB hb (n:=m) (by unfold Ex.dp at hn; omega)
  obtain ⟨n1,n2,n3⟩:=hs.no
  refine bj (ρ:=WE (Ex.op s a b).pv (qz B) none (zI (ev B a)) (zI (ev B b)) mu) (Df (s:=s) rfl n1 (Df (s:=s) rfl n2 (Df (s:=s) rfl n3 (aB (ρ':=WE (Ex.op s a b).pv (qz B) none (zI (ev B a)) none mu) (bA (aY (ls:=[.sh a.pv,.sh (qz B)]) (aC rfl (aC rfl rfl)) rfl rfl rfl ia) rfl rfl) (aB (ρ':=WE (Ex.op s a b).pv (qz B) none (zI (ev B a)) (zI (ev B b)) mu) (bA (aY (ls:=[.sh b.pv,.sh (qz B)]) (aC rfl (aC rfl rfl)) rfl rfl rfl ib) rfl rfl) (wsum hs (pI hB ha) (pI hB hb) fun _ _ _=>rfl))))))
theorem c2 {α:Type} {a b:α} {l m:List α} (h:a=b) (g:l=m):a::l=b::m:=by rw [h,g]
theorem nZ {y z:Str} {w:BV} {B:Bs}:look ((z,w)::B) y=if z=y then some w else look B y:=rfl
noncomputable def setB (B:Bs) (x:Str) (v:BV):Bs:=B.map fun q=>if q.1=x then (q.1,v) else q
theorem mW {x:Str} {v:BV}:∀ {B:Bs} {y:Str},look (setB B x v) y=if y=x then (look B x).map (fun _=>v) else look B y
 | [],y=>by
  show none=_
  split<;>rfl
 | (z,w)::B,y=>by
  have ih:=mW (x:=x) (v:=v) (B:=B) (y:=y)
  show look ((if z=x then (z,v) else (z,w))::setB B x v) y=_
  by_cases e:z=x
  . rw [aaZ e]
    show (if z=y then some v else look (setB B x v) y)=_
    by_cases e2:z=y
    . have e3:y=x:=by rw [← e2,e]
      rw [aaZ e2,aaZ e3,nZ,aaZ e]
      rfl
    . have e3:¬ y=x:=fun h=>e2 (by rw [e,h])
      rw [aa0 e2,ih,aa0 e3,aa0 e3,nZ,aa0 e2]
  . rw [aa0 e]
    show (if z=y then some w else look (setB B x v) y)=_
    by_cases e2:z=y
    . have e3:¬ y=x:=fun h=>e (by rw [e2,h])
      rw [aaZ e2,aa0 e3,nZ,aaZ e2]
    . rw [aa0 e2,ih]
      split
      . rw [nZ,aa0 e]
      . rw [nZ,aa0 e2]
theorem Aq {B:Bs} {x:Str} {v:BV}:bL (setB B x v)=bL B:=by
 unfold bL setB
 rw [Zc]
 refine Zn fun q _=>?_
 show (Sum.inr (if q.1=x then (q.1,v) else q).1:Key)=_
 split<;>rfl
theorem Ar {B:Bs} {x:Str} {v:BV}:(setB B x v).map (·.1)=B.map (·.1):=by
 unfold setB
 rw [Zc]
 refine Zn fun q _=>?_
 show (if q.1=x then (q.1,v) else q).1=_
 split<;>rfl
def oF (B C:Bs):Prop:=(∀ x,yu B x->yu C x)/\∀ x,GR B x->GR C x
theorem oF.refl {B:Bs}:oF B B:=⟨fun _ h=>h,fun _ h=>h⟩
theorem oF.trans {A B C:Bs} (h:oF A B) (g:oF B C):oF A C:=⟨fun x q=>g.1 x (h.1 x q),fun x q=>g.2 x (h.2 x q)⟩
theorem oF.ex {B C:Bs} (h:oF B C):∀ {e:Ex},e.ok B->e.ok C
 | .num _,q=>q
 | .box x,q=>h.1 x q
 | .at_ x e,q=>⟨h.2 x q.1,oF.ex h q.2⟩
 | .op s a b,q=>⟨q.1,oF.ex h q.2.1,oF.ex h q.2.2⟩
theorem Xb {B:Bs} {x:Str} {v:Int} (h:yu B x):oF B (setB B x (.n v)):=by
 obtain ⟨i,h⟩:=h
 refine ⟨fun y ⟨j,q⟩=>?_,fun y ⟨j,q⟩=>?_⟩
 . by_cases e:y=x
   . exact ⟨v,by rw [mW,aaZ e,h]; rfl⟩
   . exact ⟨j,by rw [mW,aa0 e,q]⟩
 . by_cases e:y=x
   . rw [e,h] at q; cases q
   . exact ⟨j,by rw [mW,aa0 e,q]⟩
theorem Xc {B:Bs} {x:Str} {v:List Int} (h:GR B x):oF B (setB B x (.l v)):=by
 obtain ⟨i,h⟩:=h
 refine ⟨fun y ⟨j,q⟩=>?_,fun y ⟨j,q⟩=>?_⟩
 . by_cases e:y=x
   . rw [e,h] at q; cases q
   . exact ⟨j,by rw [mW,aa0 e,q]⟩
 . by_cases e:y=x
   . exact ⟨v,by rw [mW,aaZ e,h]; rfl⟩
   . exact ⟨j,by rw [mW,aa0 e,q]⟩
theorem Ao.set {B:Bs} (h:Ao B) {x:Str} {v:BV} (hv:v.ok) (hl:∀ is,v=.l is->is.length<=8):Ao (setB B x v):=by
 have key:∀ q∈setB B x v,q.2=v\/q∈B:=fun q hq=>by
  obtain ⟨p,hp,e⟩:=YZ.mp hq
  by_cases c:p.1=x
  . rw [aaZ c] at e; exact .inl (by rw [← e])
  . rw [aa0 c] at e; exact .inr (e▸hp)
 refine ⟨fun q hq=>?_,fun q hq is e=>?_⟩
 . rcases key q hq with h' | h'
   . rw [h']; exact hv
   . exact h.ok q h'
 . rcases key q hq with h' | h'
   . exact hl is (by rw [← h',e])
   . exact h.sm q h' is e
def CB (mu:Mu) (hi:Nat):Nat->Bs->List PV->Prop
 | _,[],ps=>ps=[]
 | lo,(_,.n i)::B,ps=>∃ r,ps=.int i::r/\CB mu hi lo B r
 | lo,(_,.l is)::B,ps=>∃ c r,ps=.ptr c::r/\lo<=c/\c<hi/\mu[c]?=some (some (.lst (is.map .int)))/\CB mu hi (c+1) B r
theorem CB.lo {mu:Mu} {hi:Nat}:∀ {lo lo':Nat} {B:Bs} {ps:List PV},lo'<=lo->CB mu hi lo B ps->CB mu hi lo' B ps
 | lo,lo',[],ps,_,h=>h
 | lo,lo',(_,.n i)::B,ps,hl,⟨r,e,h⟩=>⟨r,e,CB.lo hl h⟩
 | lo,lo',(_,.l is)::B,ps,hl,⟨c,r,e,h1,h2,h3,h⟩=>⟨c,r,e,by omega,h2,h3,h⟩
theorem CB.frame {mu mu':Mu} {hi:Nat}:∀ {lo:Nat} {B:Bs} {ps:List PV},(∀ c,lo<=c->c<hi->mu'[c]?=mu[c]?)->CB mu hi lo B ps->CB mu' hi lo B ps
 | lo,[],ps,_,h=>h
 | lo,(_,.n i)::B,ps,f,⟨r,e,h⟩=>⟨r,e,CB.frame f h⟩
 | lo,(_,.l is)::B,ps,f,⟨c,r,e,h1,h2,h3,h⟩=>⟨c,r,e,h1,h2,by rw [f c h1 h2]; exact h3,CB.frame (fun d q1 q2=>f d (by omega) q2) h⟩
theorem CB.len {mu:Mu} {hi:Nat}:∀ {lo:Nat} {B:Bs} {ps:List PV},CB mu hi lo B ps->ps.length=B.length
 | lo,[],ps,h=>by have h:ps=[]:=h; subst h; rfl
 | lo,(_,.n i)::B,ps,⟨r,e,h⟩=>by subst e; rw [YB,YB,h.len]
 | lo,(_,.l is)::B,ps,⟨c,r,e,h1,h2,h3,h⟩=>by subst e; rw [YB,YB,h.len]
theorem BW {mu:Mu} {i:Int}:∀ k,aW mu k (.int i)=.int i
 | 0=>rfl
 | _+1=>rfl
theorem yZ {mu:Mu} {is:List Int}:∀ k,aW mu k (.lst (is.map .int))=.lst (is.map .int)
 | 0=>rfl
 | k+1=>by
  show PV.lst ((is.map PV.int).map (aW mu k))=_
  rw [Zc]
  exact congrArg PV.lst (Zn fun i _=>BW k)
theorem CB.res {mu:Mu} {hi k:Nat}:∀ {lo:Nat} {B:Bs} {ps:List PV},CB mu hi lo B ps->ps.map (aW mu (k+1))=B.map fun q=>q.2.pv
 | lo,[],ps,h=>by have h:ps=[]:=h; subst h; rfl
 | lo,(_,.n i)::B,ps,⟨r,e,h⟩=>by subst e; exact c2 rfl h.res
 | lo,(_,.l is)::B,ps,⟨c,r,e,h1,h2,h3,h⟩=>by
  subst e
  refine c2 ?_ h.res
  show (match mu[c]? with | some (some p)=>aW mu k p | _=>.ptr c)=_
  rw [h3]
  exact yZ k
theorem CB.val {mu:Mu} {hi:Nat} {x:Str}:∀ {lo:Nat} {B:Bs} {ps:List PV},CB mu hi lo B ps->(∀ i,look B x=some (.n i)->cH ((bL B).zip ps) (.inr x)=some (.int i))/\∀ is,look B x=some (.l is)->∃ c,cH ((bL B).zip ps) (.inr x)=some (.ptr c)/\lo<=c/\c<hi/\mu[c]?=some (some (.lst (is.map .int)))
 | lo,[],ps,h=>⟨fun i q=>(by cases q),fun i q=>(by cases q)⟩
 | lo,(y,.n i)::B,ps,⟨r,e,h⟩=>by
  subst e
  have ih:=h.val (x:=x)
  have ev:cH ((bL ((y,BV.n i)::B)).zip (.int i::r)) (.inr x)=if (Sum.inr y:Key)=.inr x then some (.int i) else cH ((bL B).zip r) (.inr x):=rfl
  have el:look ((y,BV.n i)::B) x=if y=x then some (.n i) else look B x:=rfl
  rw [ev,el]
  by_cases e:y=x
  . rw [aaZ e,aaZ (congrArg Sum.inr e)]
    exact ⟨fun j q=>by (cases q; rfl),fun js q=>by (cases q)⟩
  . rw [aa0 e,aa0 (fun h=>e (Sum.inr.inj h))]
    exact ih
 | lo,(y,.l is)::B,ps,⟨c,r,e,h1,h2,h3,h⟩=>by
  subst e
  have ih:=h.val (x:=x)
  have ev:cH ((bL ((y,BV.l is)::B)).zip (.ptr c::r)) (.inr x)=if (Sum.inr y:Key)=.inr x then some (.ptr c) else cH ((bL B).zip r) (.inr x):=rfl
  have el:look ((y,BV.l is)::B) x=if y=x then some (.l is) else look B x:=rfl
  rw [ev,el]
  by_cases e:y=x
  . rw [aaZ e,aaZ (congrArg Sum.inr e)]
    exact ⟨fun j q=>by (cases q),fun js q=>by (cases q; exact ⟨c,rfl,h1,h2,h3⟩)⟩
  . rw [aa0 e,aa0 (fun h=>e (Sum.inr.inj h))]
    refine ⟨ih.1,fun js q=>?_⟩
    obtain ⟨d,g1,g2,g3,g4⟩:=ih.2 js q
    exact ⟨d,g1,by omega,g3,g4⟩
theorem GX {x:Str}:∀ {B:Bs},x∉B.map (·.1)->look B x=none
 | [],_=>rfl
 | (y,v)::B,h=>by
  have h1:¬ y=x:=fun e=>h (by rw [e]; exact Yv)
  unfold look
  rw [aa0 h1]
  exact GX fun q=>h (YG _ q)
theorem Iv {x:Str} {v:BV}:∀ {B:Bs},x∉B.map (·.1)->setB B x v=B
 | [],_=>rfl
 | (y,w)::B,h=>by
  have h1:¬ y=x:=fun e=>h (by rw [e]; exact Yv)
  show (if y=x then (y,v) else (y,w))::setB B x v=_
  rw [aa0 h1,Iv fun q=>h (YG _ q)]
theorem CB.setN {mu:Mu} {hi:Nat} {x:Str} {v:Int}:∀ {lo:Nat} {B:Bs} {ps:List PV},(B.map (·.1)).Nodup->(∀ is,look B x≠some (.l is))->CB mu hi lo B ps->∃ ps',(qH (.inr x) (.int v) ((bL B).zip ps)).map (·.1)=bL B/\(qH (.inr x) (.int v) ((bL B).zip ps)).map (·.2)=ps'/\CB mu hi lo (setB B x (.n v)) ps'
 | lo,[],ps,_,_,h=>by have h:ps=[]:=h; subst h; exact ⟨[],rfl,rfl,rfl⟩
 | lo,(y,.n i)::B,ps,nd,hx,⟨r,e,h⟩=>by
  subst e
  obtain ⟨hy,nd'⟩:=Zg.mp nd
  have hx':∀ is,look B x≠some (.l is):=fun is q=>by
   by_cases e:y=x
   . rw [GX (e▸hy)] at q; cases q
   . exact hx is (by unfold look; rw [aa0 e]; exact q)
  obtain ⟨r',g1,g2,g3⟩:=CB.setN (v:=v) nd' hx' h
  have er:qH (.inr x) (.int v) ((bL ((y,BV.n i)::B)).zip (.int i::r))=(if (Sum.inr y:Key)=.inr x then (Sum.inr y,PV.int v) else (Sum.inr y,.int i))::qH (.inr x) (.int v) ((bL B).zip r):=rfl
  rw [er]
  by_cases e:y=x
  . rw [aaZ (congrArg Sum.inr e)]
    refine ⟨.int v::r',c2 rfl g1,c2 rfl g2,?_⟩
    show CB mu hi lo ((if y=x then (y,BV.n v) else (y,.n i))::setB B x (.n v)) _
    rw [aaZ e]
    exact ⟨r',rfl,g3⟩
  . rw [aa0 (fun h=>e (Sum.inr.inj h))]
    refine ⟨.int i::r',c2 rfl g1,c2 rfl g2,?_⟩
    show CB mu hi lo ((if y=x then (y,BV.n v) else (y,.n i))::setB B x (.n v)) _
    rw [aa0 e]
    exact ⟨r',rfl,g3⟩
 | lo,(y,.l is)::B,ps,nd,hx,⟨c,r,e,h1,h2,h3,h⟩=>by
  subst e
  obtain ⟨hy,nd'⟩:=Zg.mp nd
  have e:¬ y=x:=fun e=>hx is (by unfold look; rw [aaZ e])
  have hx':∀ js,look B x≠some (.l js):=fun js q=>hx js (by unfold look; rw [aa0 e]; exact q)
  obtain ⟨r',g1,g2,g3⟩:=CB.setN (v:=v) nd' hx' h
  have er:qH (.inr x) (.int v) ((bL ((y,BV.l is)::B)).zip (.ptr c::r))=(if (Sum.inr y:Key)=.inr x then (Sum.inr y,PV.int v) else (Sum.inr y,.ptr c))::qH (.inr x) (.int v) ((bL B).zip r):=rfl
  rw [er,aa0 (fun h=>e (Sum.inr.inj h))]
  refine ⟨.ptr c::r',c2 rfl g1,c2 rfl g2,?_⟩
  show CB mu hi lo ((if y=x then (y,BV.n v) else (y,.l is))::setB B x (.n v)) _
  rw [aa0 e]
  exact ⟨c,r',rfl,h1,h2,h3,g3⟩
theorem CB.setL {mu:Mu} {hi:Nat} {x:Str} {is js:List Int} {c:Nat}:∀ {lo:Nat} {B:Bs} {ps:List PV},(B.map (·.1)).Nodup->look B x=some (.l is)->cH ((bL B).zip ps) (.inr x)=some (.ptr c)->c<mu.length->CB mu hi lo B ps->CB (mu.set c (some (.lst (js.map .int)))) hi lo (setB B x (.l js)) ps
 | lo,[],ps,_,hx,_,_,h=>by cases hx
 | lo,(y,.n i)::B,ps,nd,hx,hc,hl,⟨r,e,h⟩=>by
  subst e
  obtain ⟨hy,nd'⟩:=Zg.mp nd
  have e:¬ y=x:=fun e=>by
   unfold look at hx
   rw [aaZ e] at hx
   cases hx
  unfold look at hx
  rw [aa0 e] at hx
  have hc:(if (Sum.inr y:Key)=.inr x then some (PV.int i) else cH ((bL B).zip r) (.inr x))=some (.ptr c):=hc
  rw [aa0 (fun h=>e (Sum.inr.inj h))] at hc
  show CB _ hi lo ((if y=x then (y,BV.l js) else (y,.n i))::setB B x (.l js)) _
  rw [aa0 e]
  exact ⟨r,rfl,CB.setL nd' hx hc hl h⟩
 | lo,(y,.l ks)::B,ps,nd,hx,hc,hl,⟨d,r,e,h1,h2,h3,h⟩=>by
  subst e
  obtain ⟨hy,nd'⟩:=Zg.mp nd
  have hc:(if (Sum.inr y:Key)=.inr x then some (PV.ptr d) else cH ((bL B).zip r) (.inr x))=some (.ptr c):=hc
  show CB _ hi lo ((if y=x then (y,BV.l js) else (y,.l ks))::setB B x (.l js)) _
  by_cases e:y=x
  . rw [aaZ (congrArg Sum.inr e)] at hc
    cases hc
    rw [aaZ e,Iv (e▸hy)]
    refine ⟨c,r,rfl,h1,h2,by rw [YM hl],h.frame fun f q1 q2=>?_⟩
    rw [Yz (by omega)]
  . unfold look at hx
    rw [aa0 e] at hx
    rw [aa0 (fun h=>e (Sum.inr.inj h))] at hc
    rw [aa0 e]
    obtain ⟨c',e1,e2,_⟩:=h.val.2 is hx
    rw [hc] at e1
    cases e1
    exact ⟨d,r,rfl,h1,h2,by rw [Yz (by omega)]; exact h3,CB.setL nd' hx hc hl h⟩
theorem Wg {α β:Type}:∀ l:List (α×β),(l.map (·.1)).zip (l.map (·.2))=l
 | []=>rfl
 | x::l=>by rw [YT,YT,ZQ,Wg l]
theorem mZ {fo fv:EF} {ρ ρ1 ρ2:Ev} {o y:Lc} {n:Nat} {ws0 ws:List PV} {p:PV} {mu:Mu} (h1:fo ρ=some (o,ρ1)) (ho:o.pv=.ptr n) (hm:ρ1.mu[n]?=some (some (.lst ws0))) (h2:fv ρ1=some (y,ρ2)) (hy:y.pv=p) (hm2:ρ2.mu[n]?=some (some (.lst ws))) (hz:ws.length<100000) (e:ρ2.mu.set n (some (.lst (ws++[p])))=mu):jt fo fv ρ=some (.nx ⟨ρ2.vs,mu⟩):=by
 unfold jt
 rw [h1,Yu,ho]
 dsimp only
 rw [hm]
 dsimp only
 rw [h2,Yu,hm2]
 dsimp only
 rw [aaZ hz,hy,e]
theorem Iw {fo:EF} {ρ ρ1:Ev} {o:Lc} {n:Nat} {ws:List PV} {p:PV} {mu:Mu} (h1:fo ρ=some (o,ρ1)) (ho:o.pv=.ptr n) (hm:ρ1.mu[n]?=some (some (.lst (ws++[p])))) (e:ρ1.mu.set n (some (.lst ws))=mu):xR fo ρ=some (.sh p,⟨ρ1.vs,mu⟩):=by
 unfold xR
 rw [h1,Yu,ho]
 dsimp only
 rw [hm]
 dsimp only
 rw [YD,YB,aaD,YL (by omega),List.dropLast_concat,e]
 simp
theorem BX {f:EF} {ρ ρ1:Ev} {l:Lc} {n:Nat} {ws:List PV} (h:f ρ=some (l,ρ1)) (hl:l.pv=.ptr n) (hm:ρ1.mu[n]?=some (some (.lst ws))):gO f ρ=some (.sh (.int (ws.length:Nat)),ρ1):=by
 unfold gO
 rw [h,Yu,hl]
 dsimp only
 rw [hm]
theorem lF {f:EF} {p:PV} {ρ ρ1:Ev} (h:f ρ=some (.own p,ρ1)):dC f ρ=some (.sh (.ptr ρ1.mu.length),⟨ρ1.vs,ρ1.mu++[some p]⟩):=by
 unfold dC
 rw [h]
 rfl
theorem GZ {i:Nat} {f:SF} {ρ ρ1:Ev} {R:Option Fl} (h:PL.sealV i ρ=some ρ1) (h2:f ρ1=R):rO i f ρ=R:=by
 unfold rO
 rw [h,Yu]
 exact h2
theorem uR {C f:Str} {fo fv:EF} {ρ ρ1 ρ2:Ev} {y x:Lc} {p:PV} {n:Nat} {l:FD} (h1:fv ρ=some (y,ρ1)) (hy:y.pv=p) (h2:fo ρ1=some (x,ρ2)) (hx:x.pv=.ptr n) (hm:ρ2.mu[n]?=some (some (cT C l))) (hl:l.length<1000):fX C f fo fv ρ=some (.nx ⟨ρ2.vs,ρ2.mu.set n (some (cT C (nD f p l)))⟩):=by
 unfold fX
 rw [h1,Yu,h2,Yu,hx]
 dsimp only
 rw [hm]
 unfold cT
 dsimp only
 rw [aaZ ⟨rfl,by rw [Yw]; exact hl⟩,Wg,hy]
theorem gb {C f:Str} {fo:EF} {ρ ρ1:Ev} {x:Lc} {p:PV} {n:Nat} {l:FD} (h2:fo ρ=some (x,ρ1)) (hx:x.pv=.ptr n) (hm:ρ1.mu[n]?=some (some (cT C l))) (hp:pq l f=some p):dJ C f fo ρ=some (.sh p,ρ1):=by
 unfold dJ
 rw [h2,Yu,hx]
 dsimp only
 rw [hm]
 unfold cT
 dsimp only
 rw [aaZ rfl,Wg,hp]
 rfl
theorem xY {C m:Str} {g:GF} {fo:EF} {a:AF} {ρ ρ1 ρ2:Ev} {x:Lc} {ls:List Lc} {n:Nat} {l:FD} {r:Lc} {mu2:Mu} {ps:List PV} (h1:fo ρ=some (x,ρ1)) (hx:x.pv=.ptr n) (hm:ρ1.mu[n]?=some (some (cT C l))) (hc:(l.map (·.1)).contains m=false) (h2:a ρ1=some (ls,ρ2)) (hps:ls.map Lc.pv=ps) (h3:g (.ptr n::ps) ρ2.mu=some (r,mu2)):dD C m g fo a ρ=some (r,⟨ρ2.vs,mu2⟩):=by
 unfold dD
 rw [h1,Yu,hx]
 dsimp only
 rw [hm]
 unfold cT
 dsimp only
 rw [aaZ ⟨rfl,hc⟩,h2,Yu,hps,h3]
 rfl
theorem Iz {C:Str} {g:GF} {a:AF} {ρ ρ1:Ev} {ls:List Lc} {ps:List PV} {mu2:Mu} (h:a ρ=some (ls,ρ1)) (hps:ls.map Lc.pv=ps) (h2:g (.ptr ρ1.mu.length::ps) (ρ1.mu++[some (cT C [])])=some (.sh .non,mu2)):tE C g a ρ=some (.sh (.ptr ρ1.mu.length),⟨ρ1.vs,mu2⟩):=by
 unfold tE
 rw [h,Yu,hps]
 rw [show g (.ptr ρ1.mu.length::ps) (ρ1.mu++[some (.obj C [] [])])=_ from h2]
 rfl
theorem Sy {fo fv:EF} {ρ ρ1 ρ2:Ev} {o y:Lc} {n:Nat} {ws0 ws ps:List PV} {mu:Mu} (h1:fo ρ=some (o,ρ1)) (ho:o.pv=.ptr n) (hm:ρ1.mu[n]?=some (some (.lst ws0))) (h2:fv ρ1=some (y,ρ2)) (hy:y.pv=.lst ps) (hm2:ρ2.mu[n]?=some (some (.lst ws))) (hz:ws.length+ps.length<=100000) (e:ρ2.mu.set n (some (.lst (ws++ps)))=mu):Ef fo fv ρ=some (.nx ⟨ρ2.vs,mu⟩):=by
 unfold Ef
 rw [h1,Yu]
 dsimp only
 rw [ho]
 dsimp only
 rw [hm]
 dsimp only
 rw [h2,Yu,hy,hm2]
 dsimp only
 rw [aaZ hz,e]
theorem PN {f:EF} {ρ ρ1:Ev} {x:Lc} {n:Nat} {ks:List Key} {ps:List PV} (h:f ρ=some (x,ρ1)) (hx:x.pv=.ptr n) (hm:ρ1.mu[n]?=some (some (.dk ks ps))):wY f ρ=some (.own (.dk ks ps),ρ1):=by
 unfold wY
 rw [h,Yu,hx]
 dsimp only
 rw [hm]
theorem SJ {i:Nat} {f:EF} {ρ ρ1:Ev} {x:Lc} {n:Nat} {ks0 ks ls:List Key} {ps0 ps qs:List PV} (h0:ρ.vs[i]?=some (some (.own (.dk ks0 ps0)))) (h:f ρ=some (x,ρ1)) (hx:x.pv=.ptr n) (h1:ρ1.vs[i]?=some (some (.own (.dk ks ps)))) (hm:ρ1.mu[n]?=some (some (.dk ls qs))) (hz:ks.length+ls.length<=100000):xU i f ρ=some (.nx (ρ1.set i (some (.own (jH (lW (ls.zip qs) (ks.zip ps))))))):=by
 unfold xU
 rw [h0]
 dsimp only
 rw [h,Yu,hx,h1]
 dsimp only
 rw [hm]
 dsimp only
 rw [aaZ hz]
theorem Wh {fa fb:EF} {ρ ρ1 ρ2:Ev} {x y:Lc} {n:Nat} {k:Key} {ks:List Key} {ps:List PV} (h1:fa ρ=some (x,ρ1)) (h2:fb ρ1=some (y,ρ2)) (hy:y.pv=.ptr n) (hk:qd x.pv=some k) (hm:ρ2.mu[n]?=some (some (.dk ks ps))):Bv fa fb ρ=some (.sh (.bl (cH (ks.zip ps) k).isSome),ρ2):=by
 unfold Bv
 rw [h1,Yu]
 dsimp only
 rw [h2,Yu,hy,hk]
 dsimp only
 rw [hm]
theorem IK {fo fi fv:EF} {ρ ρ1 ρ2 ρ3:Ev} {x o y:Lc} {n:Nat} {k:Key} {ks:List Key} {ps:List PV} {p:PV} {mu:Mu} (h1:fv ρ=some (x,ρ1)) (hx:x.pv=p) (h2:fo ρ1=some (o,ρ2)) (ho:o.pv=.ptr n) (h3:fi ρ2=some (y,ρ3)) (hy:qd y.pv=some k) (hm:ρ3.mu[n]?=some (some (.dk ks ps))) (hz:ks.length<100000) (e:ρ3.mu.set n (some (jH (jn (ks.zip ps) k p)))=mu):xT fo fi fv ρ=some (.nx ⟨ρ3.vs,mu⟩):=by
 unfold xT
 rw [h1,Yu]
 dsimp only
 rw [h2,Yu]
 dsimp only
 rw [h3,Yu,ho,hy]
 dsimp only
 rw [hm]
 dsimp only
 rw [aaZ hz,hx,e]
theorem Av {fa fb:EF} {ρ ρ1 ρ2:Ev} {x y:Lc} {n:Nat} {k:Key} {ks:List Key} {ps:List PV} {p:PV} (h1:fa ρ=some (x,ρ1)) (hx:x.pv=.ptr n) (h2:fb ρ1=some (y,ρ2)) (hk:qd y.pv=some k) (hm:ρ2.mu[n]?=some (some (.dk ks ps))) (hp:cH (ks.zip ps) k=some p):jO fa fb ρ=some (.sh p,ρ2):=by
 unfold jO
 rw [h1,Yu]
 dsimp only
 rw [h2,Yu,hx,hk]
 dsimp only
 rw [hm]
 dsimp only
 rw [hp]
 rfl
theorem SM {f:EF} {ρ ρ1:Ev} {x:Lc} {n:Nat} {ws:List PV} (h:f ρ=some (x,ρ1)) (hx:x.pv=.ptr n) (hm:ρ1.mu[n]?=some (some (.lst ws))):Ad f ρ=some (!ws.isEmpty,ρ1):=by
 unfold Ad
 rw [h,Yu,hx]
 dsimp only
 rw [hm]
theorem G3 {f:EF} {ρ ρ1:Ev} {x:Lc} {n:Nat} {p:PV} (h:f ρ=some (x,ρ1)) (hx:x.pv=.ptr n) (hm:ρ1.mu[n]?=some (some p)):nH f ρ=some (.sh p,⟨ρ1.vs,ρ1.mu.set n none⟩):=by
 unfold nH
 rw [h,Yu,hx]
 dsimp only
 rw [hm]
structure Ix where
 r:Nat
 p:Nat
 b:Nat
 e:Nat
 o:Nat
 m:Nat
 d:Nat
noncomputable abbrev rF (I:Ix) (bu:Int):FD:=[("plan",.ptr I.p),("boxes",.ptr I.b),("own",.ptr I.o),("budget",.int bu),("word",.str "done"),("moments",.ptr I.m),("due",.ptr I.d)]
structure RS (mu:Mu) (I:Ix) (bu:Int) (PO:PV) (B:Bs) (M D:List PV):Prop where
 l1:I.r<I.p
 l2:I.p<I.b
 l3:I.b<I.e
 l4:I.e<I.o
 l5:I.o<I.m
 l6:I.m<I.d
 hr:mu[I.r]?=some (some (cT "Running" (rF I bu)))
 hp:mu[I.p]?=some (some PO)
 hb:∃ ps,mu[I.b]?=some (some (.dk (bL B) ps))/\CB mu I.b (I.p+1) B ps
 he:mu[I.e]?=some (some (.dk [] []))
 ho:mu[I.o]?=some (some (.lst [.ptr I.e]))
 hm:mu[I.m]?=some (some (.lst M))
 hd:mu[I.d]?=some (some (.lst D))
theorem eV {α:Type} {l:List α} {n:Nat} {a:α} (h:l[n]?=some a):n<l.length:=(YF.mp h).1
section
variable {mu mu':Mu} {I:Ix} {bu:Int} {PO:PV} {B:Bs} {M M' D D':List PV}
theorem RS.setM (S:RS mu I bu PO B M D):RS (mu.set I.m (some (.lst M'))) I bu PO B M' D:=by
 obtain ⟨l1,l2,l3,l4,l5,l6,hr,hp,⟨ps,hb,hc⟩,he,ho,hm,hd⟩:=S
 have f:∀ c,c≠I.m->(mu.set I.m (some (.lst M')))[c]?=mu[c]?:=fun c h=>Yz (Ne.symm h)
 exact ⟨l1,l2,l3,l4,l5,l6,by rw [f _ (by omega)]; exact hr,by rw [f _ (by omega)]; exact hp,⟨ps,by rw [f _ (by omega)]; exact hb,hc.frame fun c _ q=>f c (by omega)⟩,by rw [f _ (by omega)]; exact he,by rw [f _ (by omega)]; exact ho,YM (eV hm),by rw [f _ (by omega)]; exact hd⟩
theorem RS.setD (S:RS mu I bu PO B M D):RS (mu.set I.d (some (.lst D'))) I bu PO B M D':=by
 obtain ⟨l1,l2,l3,l4,l5,l6,hr,hp,⟨ps,hb,hc⟩,he,ho,hm,hd⟩:=S
 have f:∀ c,c≠I.d->(mu.set I.d (some (.lst D')))[c]?=mu[c]?:=fun c h=>Yz (Ne.symm h)
 exact ⟨l1,l2,l3,l4,l5,l6,by rw [f _ (by omega)]; exact hr,by rw [f _ (by omega)]; exact hp,⟨ps,by rw [f _ (by omega)]; exact hb,hc.frame fun c _ q=>f c (by omega)⟩,by rw [f _ (by omega)]; exact he,by rw [f _ (by omega)]; exact ho,by rw [f _ (by omega)]; exact hm,YM (eV hd)⟩
theorem RS.keep (S:RS mu I bu PO B M D) (f:∀ c,c<=I.d->mu'[c]?=mu[c]?):RS mu' I bu PO B M D:=by
 obtain ⟨l1,l2,l3,l4,l5,l6,hr,hp,⟨ps,hb,hc⟩,he,ho,hm,hd⟩:=S
 exact ⟨l1,l2,l3,l4,l5,l6,by rw [f _ (by omega)]; exact hr,by rw [f _ (by omega)]; exact hp,⟨ps,by rw [f _ (by omega)]; exact hb,hc.frame fun c _ q=>f c (by omega)⟩,by rw [f _ (by omega)]; exact he,by rw [f _ (by omega)]; exact ho,by rw [f _ (by omega)]; exact hm,by rw [f _ (by omega)]; exact hd⟩
theorem m5 {x:Option PV} {c:Nat} (h:c<mu.length):(mu++[x])[c]?=mu[c]?:=Y9 h
theorem RS.push (S:RS mu I bu PO B M D) {x:Option PV}:RS (mu++[x]) I bu PO B M D:=S.keep fun c h=>m5 (aau h (eV S.hd))
theorem RS.num (S:RS mu I bu PO B M D) (nd:(B.map (·.1)).Nodup) {x:Str} {v:Int} (hx:yu B x):∃ ks ps,mu[I.b]?=some (some (.dk ks ps))/\ks.length=B.length/\RS (mu.set I.b (some (jH (jn (ks.zip ps) (.inr x) (.int v))))) I bu PO (setB B x (.n v)) M D:=by
 obtain ⟨l1,l2,l3,l4,l5,l6,hr,hp,⟨ps,hb,hc⟩,he,ho,hm,hd⟩:=S
 obtain ⟨i,hx⟩:=hx
 have hv:=hc.val.1 i hx
 obtain ⟨ps',g1,g2,g3⟩:=hc.setN (v:=v) nd (fun is q=>by rw [hx] at q; cases q)
 have ep:jH (jn ((bL B).zip ps) (.inr x) (.int v))=.dk (bL (setB B x (.n v))) ps':=by
  unfold jn
  rw [hv]
  unfold jH
  dsimp only
  rw [g1,g2,Aq]
 refine ⟨bL B,ps,hb,Yw ..,?_⟩
 rw [ep]
 have f:∀ c,c≠I.b->(mu.set I.b (some (.dk (bL (setB B x (.n v))) ps')))[c]?=mu[c]?:=fun c h=>Yz (Ne.symm h)
 exact ⟨l1,l2,l3,l4,l5,l6,by rw [f _ (by omega)]; exact hr,by rw [f _ (by omega)]; exact hp,⟨ps',YM (eV hb),g3.frame fun c _ q=>f c (by omega)⟩,by rw [f _ (by omega)]; exact he,by rw [f _ (by omega)]; exact ho,by rw [f _ (by omega)]; exact hm,by rw [f _ (by omega)]; exact hd⟩
theorem RS.lst (S:RS mu I bu PO B M D) (nd:(B.map (·.1)).Nodup) {x:Str} {is:List Int} (hx:look B x=some (.l is)):∃ ks ps c,mu[I.b]?=some (some (.dk ks ps))/\cH (ks.zip ps) (.inr x)=some (.ptr c)/\I.p<c/\c<I.b/\mu[c]?=some (some (.lst (is.map .int)))/\∀ js:List Int,RS (mu.set c (some (.lst (js.map .int)))) I bu PO (setB B x (.l js)) M D:=by
 obtain ⟨l1,l2,l3,l4,l5,l6,hr,hp,⟨ps,hb,hc⟩,he,ho,hm,hd⟩:=S
 obtain ⟨c,g1,g2,g3,g4⟩:=hc.val.2 is hx
 refine ⟨bL B,ps,c,hb,g1,by omega,g3,g4,fun js=>?_⟩
 have f:∀ d,d≠c->(mu.set c (some (.lst (js.map .int))))[d]?=mu[d]?:=fun d h=>Yz (Ne.symm h)
 refine ⟨l1,l2,l3,l4,l5,l6,by rw [f _ (by omega)]; exact hr,by rw [f _ (by omega)]; exact hp,⟨ps,by rw [f _ (by omega),Aq]; exact hb,hc.setL nd hx g1 (eV g4)⟩,by rw [f _ (by omega)]; exact he,by rw [f _ (by omega)]; exact ho,by rw [f _ (by omega)]; exact hm,by rw [f _ (by omega)]; exact hd⟩
end
abbrev jK:=Str×Int×Int
noncomputable def jK.pv (q:jK):PV:=.tup [.str q.1,.int q.2.1,.int q.2.2]
noncomputable abbrev evs (es:List jK):PV:=.lst (es.map jK.pv)
noncomputable abbrev cD:=Int×Int×List jK
noncomputable def cD.pv (m:cD):PV:=.tup [.int m.1,.int m.2.1,evs m.2.2]
def MO (mu:Mu):Nat->List PV->List cD->Prop
 | _,ms,[]=>ms=[]
 | lo,ms,m::r=>∃ c rest,ms=.tup [.int m.1,.int m.2.1,.ptr c]::rest/\lo<c/\mu[c]?=some (some (evs m.2.2))/\MO mu c rest r
theorem MO.frame {mu mu':Mu}:∀ {lo:Nat} {M:List PV} {ms:List cD},(∀ c,lo<c->c<mu.length->mu'[c]?=mu[c]?)->MO mu lo M ms->MO mu' lo M ms
 | lo,M,[],_,h=>h
 | lo,M,m::r,f,⟨c,rest,e,h1,h2,h⟩=>⟨c,rest,e,h1,by rw [f c h1 (eV h2)]; exact h2,MO.frame (fun d q1 q2=>f d (by omega) q2) h⟩
theorem MO.snoc {mu:Mu} {m:cD}:∀ {lo:Nat} {M:List PV} {ms:List cD},lo<mu.length->MO mu lo M ms->MO (mu++[some (evs m.2.2)]) lo (M++[PV.tup [.int m.1,.int m.2.1,.ptr mu.length]]) (ms++[m])
 | lo,M,[],hl,h=>by
  have h:M=[]:=h
  subst h
  exact ⟨mu.length,[],rfl,hl,by rw [YL (Yy _),Zz]; rfl,rfl⟩
 | lo,M,m'::r,hl,⟨c,rest,e,h1,h2,h⟩=>by
  subst e
  exact ⟨c,_,rfl,h1,by rw [m5 (eV h2)]; exact h2,MO.snoc (eV h2) h⟩
theorem MO.len {mu:Mu}:∀ {lo:Nat} {M:List PV} {ms:List cD},MO mu lo M ms->M.length=ms.length
 | lo,M,[],h=>by have h:M=[]:=h; subst h; rfl
 | lo,M,m::r,⟨c,rest,e,h1,h2,h⟩=>by subst e; rw [YB,YB,h.len]
def Fr (I:Ix) (mu mu':Mu):Prop:=mu.length<=mu'.length/\∀ c,(c<I.r\/I.d<c)->c<mu.length->mu'[c]?=mu[c]?
theorem Fr.refl {I:Ix} {mu:Mu}:Fr I mu mu:=⟨Yy _,fun _ _ _=>rfl⟩
theorem Fr.trans {I:Ix} {a b c:Mu} (h:Fr I a b) (g:Fr I b c):Fr I a c:=⟨Zo h.1 g.1,fun k q l=>(g.2 k q (Y5 l h.1)).trans (h.2 k q l)⟩
theorem Fr.set {I:Ix} {mu:Mu} {c:Nat} {x:Option PV} (h:I.r<=c) (h2:c<=I.d):Fr I mu (mu.set c x):=⟨by rw [YX]; exact Yy _,fun k q l=>Yz (by omega)⟩
theorem Fr.push {I:Ix} {mu:Mu} {x:Option PV}:Fr I mu (mu++[x]):=⟨by simp,fun k _ l=>m5 l⟩
section
variable {mu:Mu} {I:Ix} {bu:Int} {PO:PV} {B:Bs} {M D:List PV}
theorem SN (S:RS mu I bu PO B M D) {k t e:PV} (hl:M.length<100000):eF [.ptr I.r,k,t,e] mu=some (.sh .non,mu.set I.m (some (.lst (M++[PV.tup [k,t,e]])))):=
 gH (ρ:=⟨[zS (.ptr I.r),zS k,zS t,zS e],mu.set I.m (some (.lst (M++[PV.tup [k,t,e]])))⟩) (mZ (o:=.sh (.ptr I.m)) (y:=.sh (.tup [k,t,e])) (ρ1:=⟨[zS (.ptr I.r),zS k,zS t,zS e],mu⟩) (ρ2:=⟨[zS (.ptr I.r),zS k,zS t,zS e],mu⟩) (gb rfl rfl S.hr rfl) rfl S.hm rfl rfl S.hm hl rfl)
theorem qU {x:Str}:∀ k,aW mu k (.str x)=.str x
 | 0=>rfl
 | _+1=>rfl
theorem Ex.res:∀ (e:Ex) (k:Nat),aW mu k e.pv=e.pv
 | _,0=>rfl
 | .num i,k+1=>by show PV.tup [aW mu k (.str "num"),aW mu k (.int i)]=_; rw [qU,BW]; rfl
 | .box x,k+1=>by show PV.tup [aW mu k (.str "box"),aW mu k (.str x)]=_; rw [qU,qU]; rfl
 | .at_ x e,k+1=>by show PV.tup [aW mu k (.str "@"),aW mu k (.str x),aW mu k e.pv]=_; rw [qU,qU,Ex.res e k]; rfl
 | .op s a b,k+1=>by show PV.tup [aW mu k (.str s),aW mu k a.pv,aW mu k b.pv]=_; rw [qU,Ex.res a k,Ex.res b k]; rfl
theorem Nf {ks:List Key} {ps:List PV} (h:ps.length=ks.length):jH (ks.zip ps)=.dk ks ps:=by
 unfold jH
 rw [show (fun x:Key×PV=>x.1)=Prod.fst from rfl,show (fun x:Key×PV=>x.2)=Prod.snd from rfl,List.map_fst_zip (by omega),List.map_snd_zip (by omega)]
theorem xx (S:RS mu I bu PO B M D) (hB:Ao B) {e:Ex} (he:e.ok B) (hd:e.dp<=40) (h8:B.length<=100):dO [.ptr I.r,e.pv] mu=some (.sh (.int (ev B e)),mu):=by
 obtain ⟨ps,hb,hc⟩:=S.hb
 have hlen:ps.length=(bL B).length:=by rw [hc.len,Yw]
 let E:=fun l2=>(⟨[zS (.ptr I.r),zS e.pv,l2],mu⟩:Ev)
 have s1:aL 2 (wY (dJ "Running" "boxes" (aa 0))) (E none)=some (.nx (E (some (.own (.dk (bL B) ps))))):=bA (PN (gb rfl rfl S.hr rfl) rfl hb) rfl rfl
 have s2:xU 2 (aF (dJ "Running" "own" (aa 0)) (oN (eC (.int 1)))) (E (some (.own (.dk (bL B) ps))))=some (.nx (E (some (.own (.dk (bL B) ps))))):=by
  have u:=SJ (i:=2) (f:=aF (dJ "Running" "own" (aa 0)) (oN (eC (.int 1)))) (ρ:=E (some (.own (.dk (bL B) ps)))) (ρ1:=E (some (.own (.dk (bL B) ps)))) (n:=I.e) (ls:=[]) (qs:=[]) (x:=.sh (.ptr I.e)) rfl (FQ (l:=.sh (.ptr I.o)) (m:=.sh (.int (-1))) (ws:=[.ptr I.e]) (gb rfl rfl S.hr rfl) rfl rfl rfl S.ho rfl) rfl rfl S.he (by rw [Yw]; simp; omega)
  rw [show jH (lW ([].zip []) ((bL B).zip ps))=.dk (bL B) ps from Nf hlen] at u
  exact u
 have s3:rQ (aG (dh 40) (aj (aa 1) (aj (aa 2) ao))) (E (some (.own (.dk (bL B) ps))))=some (.sh (.int (ev B e)),E (some (.own (.dk (bL B) ps)))):=by
  refine Gg (ρ1:=(E (some (.own (.dk (bL B) ps)))).peekD) (aY (ls:=[.sh (aW mu 40 e.pv),.sh (aW mu 40 (.dk (bL B) ps))]) (ps:=[e.pv,qz B]) (ρ1:=(E (some (.own (.dk (bL B) ps)))).peekD) (aC rfl (aC rfl rfl)) ?_ rfl rfl (value_eq hB he hd)) rfl
  show [aW mu 40 e.pv,.dk (bL B) (ps.map (aW mu 39))]=_
  rw [Ex.res,hc.res]
 exact bj (ρ:=E (some (.own (.dk (bL B) ps)))) (aB s1 (aB s2 (b8 s3)))
theorem SQ (S:RS mu I bu PO B M D) (nd:(B.map (·.1)).Nodup) (h8:B.length<=100) {x:Str} {v:Int} (hx:yu B x):∃ mu',jh [.ptr I.r,.str x,.int v] mu=some (.sh (jK.pv (x,0,v)),mu')/\RS mu' I bu PO (setB B x (.n v)) M D/\Fr I mu mu'/\mu'.length=mu.length:=by
 obtain ⟨ks,ps,hb,hl,S'⟩:=S.num nd (v:=v) hx
 let E:=fun l3 mu=>(⟨[zS (.ptr I.r),zT x,zI v,l3],mu⟩:Ev)
 have ow:∀ l3,aF (dJ "Running" "own" (aa 0)) (oN (eC (.int 1))) (E l3 mu)=some (.sh (.ptr I.e),E l3 mu):=fun l3=>FQ (l:=.sh (.ptr I.o)) (m:=.sh (.int (-1))) (ws:=[.ptr I.e]) (gb rfl rfl S.hr rfl) rfl rfl rfl S.ho rfl
 have s1:aL 3 (rD (tT (Bv (aa 1) (aF (dJ "Running" "own" (aa 0)) (oN (eC (.int 1))))) aU) (aF (dJ "Running" "own" (aa 0)) (oN (eC (.int 1)))) (dJ "Running" "boxes" (aa 0))) (E none mu)=some (.nx (E (zS (.ptr I.b)) mu)):=by
  refine bA (l:=.sh (.ptr I.b)) (ρ1:=E none mu) ((M8 (ρ1:=E none mu) (d7 (l:=.sh (.bl false)) (Wh (x:=.sh (.str x)) (y:=.sh (.ptr I.e)) (k:=.inr x) (ks:=[]) (ps:=[]) rfl (ow none) rfl rfl S.he) rfl rfl)).trans (gb rfl rfl S.hr rfl)) rfl rfl
 refine ⟨_,bj (ρ:=E (zS (.ptr I.b)) _) (aB s1 (aB (ρ':=E (zS (.ptr I.b)) _) (IK (ρ3:=E (zS (.ptr I.b)) mu) (x:=.sh (.int v)) (o:=.sh (.ptr I.b)) (y:=.sh (.str x)) rfl rfl rfl rfl rfl rfl hb (by omega) rfl) rfl)),S',Fr.set (by have:=S.l1; have:=S.l2; omega) (by have:=S.l3; have:=S.l4; have:=S.l5; have:=S.l6; omega),YX⟩
end
theorem lG {α:Type} {xs:List α} {k:Nat} {p:α} (h:xs[k]?=some p):gj xs (k:Int)=some p:=by
 have hk:=(YF.mp h).1
 unfold gj pJ
 rw [aaZ (by omega),aaZ (by omega)]
 exact h
theorem SX {n k:Nat} (h:k<n):pJ n (k:Int)=some k:=by
 unfold pJ
 rw [aaZ (by omega),aaZ (by omega)]
 rfl
inductive Rw where
 | asg (o:Bool) (x:Str) (e:Ex)
 | put (x:Str) (p e:Ex)
noncomputable def Rw.pv:Rw->PV
 | .asg true x e=>.tup [.str "out",.str x,e.pv,.str "may"]
 | .asg false x e=>.tup [.str "set",.str x,e.pv]
 | .put x p e=>.tup [.str "put",.str x,p.pv,e.pv]
def Rw.ok (B:Bs):Rw->Prop
 | .asg _ x e=>yu B x/\e.ok B/\e.dp<=40
 | .put x p e=>GR B x/\(p.ok B/\p.dp<=40)/\e.ok B/\e.dp<=40
noncomputable def jo (B:Bs):Rw->List jK×Bs
 | .asg _ x e=>([(x,0,ev B e)],setB B x (.n (ev B e)))
 | .put x p e=>if ev B p<(lstAt B x).length then ([(x,ev B p,ev B e)],setB B x (.l ((lstAt B x).set (ev B p).toNat (ev B e)))) else ([],B)
structure Gd (mu:Mu) (I:Ix) (bu:Int) (PO:PV) (B:Bs) (ms:List cD) (D:List PV):Prop where
 ex:∃ M,RS mu I bu PO B M D/\MO mu I.d M ms
structure BG (B:Bs):Prop where
 ok:Ao B
 nd:(B.map (·.1)).Nodup
 l8:B.length<=100
theorem BG.n {B:Bs} (h:BG B) {x:Str} {v:Int} (hv:In v):BG (setB B x (.n v)):=⟨h.ok.set hv (fun is e=>by cases e),by rw [Ar]; exact h.nd,by unfold setB; rw [Yw]; exact h.l8⟩
theorem BG.l {B:Bs} (h:BG B) {x:Str} {is:List Int} (hv:∀ i∈is,In i) (hl:is.length<=8):BG (setB B x (.l is)):=⟨h.ok.set (v:=.l is) hv (fun js e=>by cases e; exact hl),by rw [Ar]; exact h.nd,by unfold setB; rw [Yw]; exact h.l8⟩
theorem Aw {B:Bs} (h:BG B) {r:Rw} (hr:r.ok B):BG (jo B r).2/\oF B (jo B r).2:=by
 cases r with
 | asg o x e=>exact ⟨h.n (pI h.ok hr.2.1),Xb hr.1⟩
 | put x p e=>
  show BG (if ev B p<(lstAt B x).length then ([(x,ev B p,ev B e)],setB B x (.l ((lstAt B x).set (ev B p).toNat (ev B e)))) else ([],B)).2/\oF B (if ev B p<(lstAt B x).length then ([(x,ev B p,ev B e)],setB B x (.l ((lstAt B x).set (ev B p).toNat (ev B e)))) else ([],B)).2
  split
  . obtain ⟨⟨is,hx⟩,_,he,_⟩:=hr
    have hm:=sI hx
    have el:lstAt B x=is:=by unfold lstAt; rw [hx]
    refine ⟨h.l (fun i hi=>?_) ?_,Xc ⟨is,hx⟩⟩
    . rw [el] at hi
      rcases List.mem_or_eq_of_mem_set hi with q | q
      . exact h.ok.ok _ hm i q
      . rw [q]; exact pI h.ok he
    . rw [YX,el]
      exact h.ok.sm _ hm is rfl
  . exact ⟨h,oF.refl⟩
theorem oF.row {B C:Bs} (h:oF B C) {r:Rw} (hr:r.ok B):r.ok C:=by
 cases r with
 | asg o x e=>exact ⟨h.1 x hr.1,h.ex hr.2.1,hr.2.2⟩
 | put x p e=>exact ⟨h.2 x hr.1,⟨h.ex hr.2.1.1,hr.2.1.2⟩,h.ex hr.2.2.1,hr.2.2.2⟩
theorem Ng {n:Nat} {k:Int} (h0:0<=k) (h1:k<n):pJ n k=some k.toNat:=by
 obtain ⟨j,rfl⟩:∃ j:Nat,k=(j:Int):=⟨k.toNat,by omega⟩
 exact SX (by omega)
section
variable {mu:Mu} {I:Ix} {bu:Int} {PO:PV} {B:Bs} {M D:List PV} {ms:List cD}
theorem noted {m:cD} (S:RS mu I bu PO B M D) (Mo:MO mu I.d M ms) (hl:ms.length<1000):∃ mu',eF [.ptr I.r,.int m.1,.int m.2.1,.ptr mu.length] (mu++[some (evs m.2.2)])=some (.sh .non,mu')/\Gd mu' I bu PO B (ms++[m]) D/\Fr I mu mu':=by
 have h6:=S.l6
 have hd:=eV S.hd
 have l5:=S.l1
 have l7:=S.l2
 have l8:=S.l3
 have l9:=S.l4
 have l10:=S.l5
 refine ⟨_,SN S.push (by rw [Mo.len]; omega),⟨_,S.push.setM,(Mo.snoc hd).frame fun c q _=>Yz (by omega)⟩,Fr.push.trans (Fr.set (by omega) (by omega))⟩
theorem lH {m:Str} {g:GF} {a:AF} {vs:List (Option Lc)} {ls:List Lc} {mu1 mu2:Mu} {r:Lc} {ps:List PV} (hr:mu[I.r]?=some (some (cT "Running" (rF I bu)))) (hc:(["plan", "boxes", "own", "budget", "word", "moments", "due"]:List Str).contains m=false) (h2:a ⟨zS (.ptr I.r)::vs,mu⟩=some (ls,⟨zS (.ptr I.r)::vs,mu1⟩)) (hps:ls.map Lc.pv=ps) (h3:g (.ptr I.r::ps) mu1=some (r,mu2)):dD "Running" m g (aa 0) a ⟨zS (.ptr I.r)::vs,mu⟩=some (r,⟨zS (.ptr I.r)::vs,mu2⟩):=
 xY (ρ1:=⟨zS (.ptr I.r)::vs,mu⟩) (ρ2:=⟨zS (.ptr I.r)::vs,mu1⟩) rfl rfl hr hc h2 hps h3
theorem Wi {x:Str} {p e:Ex} {k:Int} (S:RS mu I bu PO B M D) (Mo:MO mu I.d M ms) (hB:BG B) (hr:(Rw.put x p e).ok B) (hl:ms.length<1000):∃ mu',lC [.ptr I.r,.int k,(Rw.put x p e).pv] mu=some (.sh .non,mu')/\Gd mu' I bu PO (jo B (.put x p e)).2 (ms++[(k,1,(jo B (.put x p e)).1)]) D/\Fr I mu mu':=by
 obtain ⟨⟨is,hx⟩,⟨hp,dp⟩,he,de⟩:=hr
 obtain ⟨ks,ps,c,hb,hv,c1,c2,hc,W⟩:=S.lst hB.nd hx
 have el:lstAt B x=is:=by unfold lstAt; rw [hx]
 have ip:=pI hB.ok hp
 let E:=fun l3 l4 l5 l6 mu=>(⟨[zS (.ptr I.r),zI k,some (.sh (Rw.put x p e).pv),l3,l4,l5,l6],mu⟩:Ev)
 let N:Option Lc:=zS (.ptr c)
 let P:Option Lc:=zI (ev B p)
 let V:Option Lc:=zI (ev B e)
 have s3:aL 3 (jO (dJ "Running" "boxes" (aa 0)) (aF (aa 2) (eC (.int 1)))) (E none none none none mu)=some (.nx (E N none none none mu)):=bA (Av (x:=.sh (.ptr I.b)) (y:=.sh (.str x)) (k:=.inr x) (gb rfl rfl S.hr rfl) rfl rfl rfl hb hv) rfl rfl
 have s4:aL 4 (dD "Running" "value" dO (aa 0) (aj (aF (aa 2) (eC (.int 2))) ao)) (E N none none none mu)=some (.nx (E N P none none mu)):=bA (lH S.hr (by decide +kernel) (ls:=[.sh p.pv]) (mu1:=mu) rfl rfl (xx S hB.ok hp dp hB.l8)) rfl rfl
 have s5:aL 5 (dD "Running" "value" dO (aa 0) (aj (aF (aa 2) (eC (.int 3))) ao)) (E N P none none mu)=some (.nx (E N P V none mu)):=bA (lH S.hr (by decide +kernel) (ls:=[.sh e.pv]) (mu1:=mu) rfl rfl (xx S hB.ok he de hB.l8)) rfl rfl
 have t:tT (aq sZ (aa 4) (gO (aa 3))) aU (E N P V (zO []) mu)=some (decide (ev B p<is.length),E N P V (zO []) mu):=by
  refine d7 (l:=.sh (.bl (decide (ev B p<is.length)))) (bO rfl rfl (BX (l:=.sh (.ptr c)) rfl rfl hc) rfl ?_) rfl rfl
  show some (Lc.sh (.bl (decide (ev B p<((is.map PV.int).length:Nat)))))=_
  rw [Yw]
 have fin:∀ (mu1:Mu) (es:List jK) (B1:Bs),RS mu1 I bu PO B1 M D->MO mu1 I.d M ms->Fr I mu mu1->∃ mu',rO 6 (jd (dD "Running" "note" eF (aa 0) (aj (aa 1) (aj (eC (.int 1)) (aj (aa 6) ao))))) (E N P V (some (.own (evs es))) mu1)=some (.nx (E N P V (zS (.ptr mu1.length)) mu'))/\Gd mu' I bu PO B1 (ms++[(k,1,es)]) D/\Fr I mu mu':=fun mu1 es B1 S1 M1 F1=>by
  obtain ⟨mu',e',g',f'⟩:=noted (m:=(k,1,es)) S1 M1 hl
  exact ⟨mu',GZ (ρ1:=E N P V (zS (.ptr mu1.length)) (mu1++[some (evs es)])) rfl (jG (lH S1.push.hr (by decide +kernel) (ls:=[.sh (.int k),.sh (.int 1),.sh (.ptr mu1.length)]) (mu1:=mu1++[some (evs es)]) rfl rfl e')),g',F1.trans f'⟩
 show ∃ mu',lC [.ptr I.r,.int k,(Rw.put x p e).pv] mu=some (.sh .non,mu')/\Gd mu' I bu PO (if ev B p<(lstAt B x).length then ([(x,ev B p,ev B e)],setB B x (.l ((lstAt B x).set (ev B p).toNat (ev B e)))) else ([],B)).2 (ms++[(k,1,(if ev B p<(lstAt B x).length then ([(x,ev B p,ev B e)],setB B x (.l ((lstAt B x).set (ev B p).toNat (ev B e)))) else ([],B)).1)]) D/\Fr I mu mu'
 rw [el]
 have ld:=S.l3
 have le:=S.l4
 have lo:=S.l5
 have lm:=S.l6
 have l1:=S.l1
 by_cases h:ev B p<is.length
 . rw [aaZ h]
   have hj:pJ (is.map PV.int).length (ev B p)=some (ev B p).toNat:=Ng ip.1 (by rw [Yw]; exact h)
   have S1:=W (is.set (ev B p).toNat (ev B e))
   obtain ⟨mu',e',g',f'⟩:=fin (mu.set c (some (.lst ((is.set (ev B p).toNat (ev B e)).map .int)))) [(x,ev B p,ev B e)] _ S1 (Mo.frame fun d q _=>Yz (by omega)) (Fr.set (by omega) (by omega))
   refine ⟨mu',gH (ρ:=E N P V (zS (.ptr _)) mu') (aB s3 (aB s4 (aB s5 (aB (ρ':=E N P V (zO []) mu) rfl (aB (ρ':=E N P V (some (.own (evs [(x,ev B p,ev B e)]))) (mu.set c (some (.lst ((is.set (ev B p).toNat (ev B e)).map .int))))) ((dB (t.trans (by rw [aa3 h]))).trans (aB (ρ':=E N P V (zO []) (mu.set c (some (.lst ((is.set (ev B p).toNat (ev B e)).map .int))))) ?_ ?_)) e'))))),g',f'⟩
   . have q:=Ih (ρ:=E N P V (zO []) mu) (ρ1:=E N P V (zO []) mu) (ρ2:=E N P V (zO []) mu) (ρ3:=E N P V (zO []) mu) (fo:=aa 3) (fi:=aa 4) (fv:=aa 5) (x:=.sh (.int (ev B e))) (o:=.sh (.ptr c)) (y:=.sh (.int (ev B p))) rfl rfl rfl rfl rfl rfl hc hj
     refine q.trans ?_
     rw [List.map_set]
     rfl
   . exact nA (ws0:=[]) (ws:=[]) (l:=.sh (jK.pv (x,ev B p,ev B e))) rfl rfl rfl rfl (by decide) rfl
 . rw [aa0 h]
   obtain ⟨mu',e',g',f'⟩:=fin mu [] B S Mo Fr.refl
   exact ⟨mu',gH (ρ:=E N P V (zS (.ptr _)) mu') (aB s3 (aB s4 (aB s5 (aB (ρ':=E N P V (zO []) mu) rfl (aB (ρ':=E N P V (zO []) mu) ((bG (t.trans (by rw [aa2 h]))).trans rfl) e'))))),g',f'⟩
end
noncomputable abbrev pF (T:List PV) (L H:PV):FD:=[("told",.lst T),("lists",L),("heads",H)]
noncomputable abbrev uT (T:List PV) (L H:PV):PV:=cT "Plan" (pF T L H)
theorem jw {f:EF} {a b:Str} {ρ ρ1:Ev} (h:f ρ=some (.sh (.str a),ρ1)) {c:Bool} (e:(a==b)=c):tT (aq eqP f (eC (.str b))) aU ρ=some (c,ρ1):=d7 (l:=.sh (.bl c)) (bO h rfl rfl rfl (by show some (Lc.sh (.bl (a==b)))=_; rw [e])) rfl rfl
section
variable {mu:Mu} {I:Ix} {bu:Int} {T:List PV} {L H:PV} {B:Bs} {M D:List PV} {ms:List cD}
theorem S5 {p k:Nat} {w a b rv:PV} (hp:mu[p]?=some (some (uT T L H))) (hk:T[k]?=some (.tup [w,a,b,rv])):pD [.ptr p,.int (k:Nat)] mu=some (.sh rv,mu):=
 bj (ρ:=⟨[zS (.ptr p),zI (k:Nat)],mu⟩) (b8 (jf (l:=.sh (.tup [w,a,b,rv])) (m:=.sh (.int 3)) (jf (l:=.sh (.lst T)) (m:=.sh (.int (k:Nat))) (gb rfl rfl hp rfl) rfl rfl rfl (fun n h=>by cases h) (by show (gj T (k:Nat)).map _=_; rw [lG hk]; rfl)) rfl rfl rfl (fun n h=>by cases h) rfl))
theorem PP {k:Nat} {w a b:PV} {r:Rw} (G:Gd mu I bu (uT T L H) B ms D) (hB:BG B) (hr:r.ok B) (hk:T[k]?=some (.tup [w,a,b,r.pv])) (hl:ms.length+1<1000):∃ mu',mV [.ptr I.r,.int (k:Nat)] mu=some (.sh .non,mu')/\Gd mu' I bu (uT T L H) (jo B r).2 (ms++[((k:Int),0,[]),((k:Int),1,(jo B r).1)]) D/\Fr I mu mu':=by
 obtain ⟨M,S,Mo⟩:=G.ex
 let E:=fun l2 mu=>(⟨[zS (.ptr I.r),zI (k:Nat),l2],mu⟩:Ev)
 let R:Option Lc:=zS r.pv
 have s2:aL 2 (dD "Plan" "row" pD (dJ "Running" "plan" (aa 0)) (aj (aa 1) ao)) (E none mu)=some (.nx (E R mu)):=bA (xY (x:=.sh (.ptr I.p)) (ls:=[.sh (.int (k:Nat))]) (ρ1:=E none mu) (ρ2:=E none mu) (gb rfl rfl S.hr rfl) rfl S.hp (show (["told", "lists", "heads"]:List Str).contains "row" = false from by decide +kernel) rfl rfl (S5 S.hp hk)) rfl rfl
 obtain ⟨mu1,e1,⟨⟨M1,S1,Mo1⟩⟩,f1⟩:=noted (m:=((k:Int),0,[])) S Mo (by omega)
 have hs1:aj (aa 1) (aj (eC (.int 0)) (aj (dC (bW ao)) ao)) (E R mu)=some ([.sh (.int (k:Nat)),.sh (.int 0),.sh (.ptr mu.length)],E R (mu++[some (evs [])])):=rfl
 have s3:jd (dD "Running" "note" eF (aa 0) (aj (aa 1) (aj (eC (.int 0)) (aj (dC (bW ao)) ao)))) (E R mu)=some (.nx (E R mu1)):=jG (lH S.hr (by decide +kernel) (ls:=[.sh (.int (k:Nat)),.sh (.int 0),.sh (.ptr mu.length)]) (mu1:=mu++[some (evs [])]) hs1 rfl e1)
 have ll:(ms++[((k:Int),(0:Int),([]:List jK))]).length<1000:=by rw [YD]; show ms.length+1<1000; exact hl
 have as:∀ m:cD,ms++[((k:Int),0,[]),m]=(ms++[((k:Int),0,[])])++[m]:=fun m=>by rw [Y0]; rfl
 cases r with
 | put x p e=>
  obtain ⟨mu',e',g',f'⟩:=Wi (k:=(k:Int)) S1 Mo1 hB hr ll
  have r0:aF (aa 2) (eC (.int 0)) (E R mu1)=some (.sh (.str "put"),E R mu1):=rfl
  refine ⟨mu',gH (ρ:=E R mu') (aB s2 (aB s3 ((bG (jw r0 (by decide +kernel))).trans ((bG (jw r0 (by decide +kernel))).trans ((bG (jw r0 (by decide +kernel))).trans ((dB (jw r0 (by decide +kernel))).trans (jG (lH S1.hr (by decide +kernel) (ls:=[.sh (.int (k:Nat)),.sh (Rw.put x p e).pv]) (mu1:=mu1) rfl rfl e')))))))),?_,f1.trans f'⟩
  rw [as]
  exact g'
 | asg o x e=>
  obtain ⟨hx,he,de⟩:=hr
  obtain ⟨mu2,e2,S2,f2,len2⟩:=SQ (v:=ev B e) S1 hB.nd hB.l8 hx
  have Mo2:MO mu2 I.d M1 (ms++[((k:Int),0,[])]):=Mo1.frame fun c q l=>f2.2 c (.inr q) l
  obtain ⟨mu',e',g',f'⟩:=noted (m:=((k:Int),1,[(x,0,ev B e)])) S2 Mo2 ll
  obtain ⟨t,ht,r0,r1,r2⟩:∃ t:Str,(t = "out" \/ t = "set")/\(∀ mu,aF (aa 2) (eC (.int 0)) (E R mu)=some (.sh (.str t),E R mu))/\(∀ mu,aF (aa 2) (eC (.int 1)) (E R mu)=some (.sh (.str x),E R mu))/\∀ mu,aF (aa 2) (eC (.int 2)) (E R mu)=some (.sh e.pv,E R mu):=by
   cases o with
   | true=>exact ⟨"out",.inl rfl,fun _=>rfl,fun _=>rfl,fun _=>rfl⟩
   | false=>exact ⟨"set",.inr rfl,fun _=>rfl,fun _=>rfl,fun _=>rfl⟩
  have no:(t == "if")=false/\(t == "while")=false/\(t == "call")=false/\(t == "put")=false:=by rcases ht with rfl | rfl<;>decide +kernel
  have gv:dD "Running" "give" jh (aa 0) (aj (aF (aa 2) (eC (.int 1))) (aj (dD "Running" "value" dO (aa 0) (aj (aF (aa 2) (eC (.int 2))) ao)) ao)) (E R mu1)=some (.sh (jK.pv (x,0,ev B e)),E R mu2):=lH S1.hr (by decide +kernel) (ls:=[.sh (.str x),.sh (.int (ev B e))]) (mu1:=mu1) (aC (r1 mu1) (aC (lH S1.hr (by decide +kernel) (ls:=[.sh e.pv]) (mu1:=mu1) (aC (r2 mu1) rfl) rfl (xx S1 hB.ok he de hB.l8)) rfl)) rfl e2
  have sl:dC (bW (aj (dD "Running" "give" jh (aa 0) (aj (aF (aa 2) (eC (.int 1))) (aj (dD "Running" "value" dO (aa 0) (aj (aF (aa 2) (eC (.int 2))) ao)) ao))) ao)) (E R mu1)=some (.sh (.ptr mu2.length),E R (mu2++[some (evs [(x,0,ev B e)])])):=lF (p:=evs [(x,0,ev B e)]) (ρ1:=E R mu2) (pO (ls:=[.sh (jK.pv (x,0,ev B e))]) (aC gv rfl) rfl rfl)
  refine ⟨mu',gH (ρ:=E R mu') (aB s2 (aB s3 ((bG (jw (r0 mu1) no.1)).trans ((bG (jw (r0 mu1) no.2.1)).trans ((bG (jw (r0 mu1) no.2.2.1)).trans ((bG (jw (r0 mu1) no.2.2.2)).trans (jG (lH S1.hr (by decide +kernel) (ls:=[.sh (.int (k:Nat)),.sh (.int 1),.sh (.ptr mu2.length)]) (mu1:=mu2++[some (evs [(x,0,ev B e)])]) (aC rfl (aC rfl (aC sl rfl))) rfl e')))))))),?_,(f1.trans f2).trans f'⟩
  rw [as]
  exact g'
theorem jx {f:EF} {a b:Int} {ρ ρ1:Ev} (h:f ρ=some (.sh (.int a),ρ1)) {c:Bool} (e:(a==b)=c):tT (aq eqP f (eC (.int b))) aU ρ=some (c,ρ1):=d7 (l:=.sh (.bl c)) (bO h rfl rfl rfl (by show some (Lc.sh (.bl (a==b)))=_; rw [e])) rfl rfl
theorem PQ {k:Nat} {w a b:PV} {r:Rw} (G:Gd mu I bu (uT T L H) B ms (D++[.tup [.int (k:Nat),.int 0]])) (hB:BG B) (hr:r.ok B) (hk:T[k]?=some (.tup [w,a,b,r.pv])) (hl:ms.length+1<1000):∃ mu',gK [.ptr I.r] mu=some (.sh .non,mu')/\Gd mu' I bu (uT T L H) (jo B r).2 (ms++[((k:Int),0,[]),((k:Int),1,(jo B r).1)]) D/\Fr I mu mu':=by
 obtain ⟨M,S,Mo⟩:=G.ex
 have l1:=S.l1
 have l2:=S.l2
 have l3:=S.l3
 have l4:=S.l4
 have l5:=S.l5
 have l6:=S.l6
 let mu1:=mu.set I.d (some (.lst D))
 have S1:RS mu1 I bu (uT T L H) B M D:=S.setD
 have G1:Gd mu1 I bu (uT T L H) B ms D:=⟨M,S1,Mo.frame fun c q _=>Yz (by omega)⟩
 obtain ⟨mu',e',g',f'⟩:=PP G1 hB hr hk hl
 let E:=fun l1 mu=>(⟨[zS (.ptr I.r),l1],mu⟩:Ev)
 let U:Option Lc:=zS (.tup [.int (k:Nat),.int 0])
 have s1:aL 1 (xR (dJ "Running" "due" (aa 0))) (E none mu)=some (.nx (E U mu1)):=bA (Iw (ρ1:=E none mu) (o:=.sh (.ptr I.d)) (ws:=D) (p:=.tup [.int (k:Nat),.int 0]) (gb rfl rfl S.hr rfl) rfl S.hd rfl) rfl rfl
 exact ⟨mu',gH (ρ:=E U mu') (aB s1 ((dB (jx (a:=0) (ρ1:=E U mu1) rfl (by decide))).trans (jG (lH S1.hr (by decide +kernel) (ls:=[.sh (.int (k:Nat))]) (mu1:=mu1) rfl rfl e')))),g',(Fr.set (by omega) (Yy _)).trans f'⟩
theorem PX {k:Int} (G:Gd mu I bu (uT T L H) B ms (D++[.tup [.int k,.int 3]])) (hl:ms.length<1000):∃ mu',gK [.ptr I.r] mu=some (.sh .non,mu')/\Gd mu' I bu (uT T L H) B (ms++[(k,3,[])]) D/\Fr I mu mu':=by
 obtain ⟨M,S,Mo⟩:=G.ex
 have l1:=S.l1
 have l2:=S.l2
 have l3:=S.l3
 have l4:=S.l4
 have l5:=S.l5
 have l6:=S.l6
 let mu1:=mu.set I.d (some (.lst D))
 have S1:RS mu1 I bu (uT T L H) B M D:=S.setD
 have Mo1:MO mu1 I.d M ms:=Mo.frame fun c q _=>Yz (by omega)
 obtain ⟨mu',e',g',f'⟩:=noted (m:=(k,3,[])) S1 Mo1 hl
 let E:=fun l1 mu=>(⟨[zS (.ptr I.r),l1],mu⟩:Ev)
 let U:Option Lc:=zS (.tup [.int k,.int 3])
 have s1:aL 1 (xR (dJ "Running" "due" (aa 0))) (E none mu)=some (.nx (E U mu1)):=bA (Iw (ρ1:=E none mu) (o:=.sh (.ptr I.d)) (ws:=D) (p:=.tup [.int k,.int 3]) (gb rfl rfl S.hr rfl) rfl S.hd rfl) rfl rfl
 have ha:aj (aF (aa 1) (eC (.int 0))) (aj (aF (aa 1) (eC (.int 1))) (aj (dC (bW ao)) ao)) (E U mu1)=some ([.sh (.int k),.sh (.int 3),.sh (.ptr mu1.length)],E U (mu1++[some (evs [])])):=rfl
 exact ⟨mu',gH (ρ:=E U mu') (aB s1 ((bG (jx (a:=3) (ρ1:=E U mu1) rfl (by decide))).trans ((bG (jx (a:=3) (ρ1:=E U mu1) rfl (by decide))).trans (jG (lH S1.hr (by decide +kernel) (ls:=[.sh (.int k),.sh (.int 3),.sh (.ptr mu1.length)]) (mu1:=mu1++[some (evs [])]) ha rfl e'))))),g',(Fr.set (by omega) (Yy _)).trans f'⟩
end
noncomputable def v6:Nat->List Rw->List PV
 | k,[]=>[.tup [.int ((k:Int)-1),.int 3]]
 | k,_::rs=>v6 (k+1) rs++[.tup [.int (k:Nat),.int 0]]
noncomputable def lQ:Nat->Bs->List Rw->List cD×Bs
 | k,B,[]=>([((k:Int)-1,3,[])],B)
 | k,B,r::rs=>(((k:Int),0,[])::((k:Int),1,(jo B r).1)::(lQ (k+1) (jo B r).2 rs).1,(lQ (k+1) (jo B r).2 rs).2)
theorem G4:∀ {k:Nat} {B:Bs} {rs:List Rw},(lQ k B rs).1.length=2*rs.length+1
 | k,B,[]=>rfl
 | k,B,r::rs=>by
  show (lQ (k+1) (jo B r).2 rs).1.length+1+1=2*(rs.length+1)+1
  rw [G4]
  omega
theorem IV:∀ {k:Nat} {B:Bs} {rs:List Rw},BG B->(∀ r∈rs,r.ok B)->BG (lQ k B rs).2
 | k,B,[],h,_=>h
 | k,B,r::rs,h,hr=>by
  obtain ⟨h1,h2⟩:=Aw h (hr r Yv)
  exact IV (k:=k+1) h1 fun q hq=>h2.row (hr q (YG _ hq))
theorem IW {n:Nat} {c:TF} {f:SF} {ρ ρ1 ρ2:Ev} (h:c ρ=some (true,ρ1)) (g:f ρ1=some (.nx ρ2)):rE (n+1) c f ρ=rE n c f ρ2:=by
 show lV c f (n+1) ρ=lV c f n ρ2
 conv=>lhs; unfold lV
 rw [h,Yu]
 dsimp only
 rw [aaZ rfl,g,Yu]
theorem Ja {n:Nat} {c:TF} {f:SF} {ρ ρ1:Ev} (h:c ρ=some (false,ρ1)):rE (n+1) c f ρ=some (.nx ρ1):=by
 show lV c f (n+1) ρ=_
 unfold lV
 rw [h,Yu]
 rfl
noncomputable abbrev Wj:SF:=jd (dD "Running" "step" gK (aa 3) ao)
noncomputable abbrev stC:TF:=Ad (dJ "Running" "due" (aa 3))
section
variable {I:Ix} {bu:Int} {T:List PV} {L H:PV}
noncomputable abbrev GE (p v b:PV) (I:Ix) (mu:Mu):Ev:=⟨[zS p,zS v,zS b,zS (.ptr I.r)],mu⟩
theorem Q3 {p v b:PV} {mu mu':Mu} (hr:mu[I.r]?=some (some (cT "Running" (rF I bu)))) (e:gK [.ptr I.r] mu=some (.sh .non,mu')):Wj (GE p v b I mu)=some (.nx (GE p v b I mu')):=
 jG (xY (x:=.sh (.ptr I.r)) (ls:=[]) (ρ1:=GE p v b I mu) (ρ2:=GE p v b I mu) rfl rfl hr (show (["plan", "boxes", "own", "budget", "word", "moments", "due"]:List Str).contains "step" = false from by decide +kernel) rfl rfl e)
theorem Eh {p v b:PV} {mu:Mu} {PO:PV} {B:Bs} {M D:List PV} (S:RS mu I bu PO B M D):stC (GE p v b I mu)=some (!D.isEmpty,GE p v b I mu):=SM (x:=.sh (.ptr I.d)) (gb rfl rfl S.hr rfl) rfl S.hd
theorem Wk:∀ {k:Nat} {rs:List Rw},(v6 k rs).isEmpty=false
 | k,[]=>rfl
 | k,r::rs=>by
  unfold v6
  cases v6 (k+1) rs<;>rfl
theorem G5 {p v b:PV}:∀ (rs:List Rw) (n k:Nat) (B:Bs) (ms:List cD) (mu:Mu),rs.length+1<n->ms.length+2*rs.length+2<1000->BG B->(∀ r∈rs,r.ok B)->(∀ (i:Nat) r,rs[i]?=some r->∃ w a c,T[k+i]?=some (.tup [w,a,c,r.pv]))->Gd mu I bu (uT T L H) B ms (v6 k rs)->
 ∃ mu',rE n stC Wj (GE p v b I mu)=some (.nx (GE p v b I mu'))/\Gd mu' I bu (uT T L H) (lQ k B rs).2 (ms++(lQ k B rs).1) []/\Fr I mu mu'
 | [],n,k,B,ms,mu,hn,hl,hB,hr,hT,G=>by
  obtain ⟨m,rfl⟩:∃ m,n=m+2:=⟨n-2,by simp at hn; omega⟩
  obtain ⟨M,S,Mo⟩:=G.ex
  obtain ⟨mu',e,g,f⟩:=PX (D:=[]) (k:=(k:Int)-1) G (by omega)
  obtain ⟨M',S',Mo'⟩:=g.ex
  refine ⟨mu',?_,g,f⟩
  rw [IW (Eh S) (Q3 S.hr e)]
  exact Ja (Eh S')
 | r::rs,n,k,B,ms,mu,hn,hl,hB,hr,hT,G=>by
  obtain ⟨m,rfl⟩:∃ m,n=m+1:=⟨n-1,by simp at hn; omega⟩
  simp only [YB] at hn hl
  obtain ⟨M,S,Mo⟩:=G.ex
  obtain ⟨w,a,c,hk⟩:=hT 0 r rfl
  obtain ⟨mu1,e,g,f⟩:=PQ (D:=v6 (k+1) rs) G hB (hr r Yv) hk (by omega)
  obtain ⟨h1,h2⟩:=Aw hB (hr r Yv)
  obtain ⟨mu',e',g',f'⟩:=G5 rs m (k+1) (jo B r).2 _ mu1 (by omega) (by rw [YD]; show ms.length+2+_+2<1000; omega) h1 (fun q hq=>h2.row (hr q (YG _ hq))) (fun i q hq=>by rw [aav,aaQ]; exact hT (i+1) q hq) g
  refine ⟨mu',?_,?_,f.trans f'⟩
  . rw [IW ((Eh S).trans (by rw [Wk]; rfl)) (Q3 S.hr e)]
    exact e'
  . rw [Y0] at g'
    exact g'
end
noncomputable def Ax:Nat->List PV->List PV
 | _,[]=>[]
 | i,p::ps=>.tup [.int (i:Nat),p]::Ax (i+1) ps
theorem Nh:∀ (ps:List PV) (i:Nat),(ps.zipIdx i).map (fun x=>PV.tup [.int (x.2:Nat),x.1])=Ax i ps
 | [],i=>rfl
 | p::ps,i=>by
  rw [aaT,YT,Nh ps (i+1)]
  rfl
theorem Qa (ps:List PV):vy ps=Ax 0 ps:=Nh ps 0
noncomputable def eX (rs:List Rw):List PV:=rs.map fun r=>.tup [.str "main",.non,.int 0,r.pv]
noncomputable abbrev cZ (n:Nat):List PV:=(List.range n).map fun i=>.int (i:Nat)
theorem vP {n:Nat}:cZ (n+1)=cZ n++[.int (n:Nat)]:=by
 unfold cZ
 rw [List.range_succ,Y6]
 rfl
theorem Jb (r:Rw):∃ t:Str,(t == "if")=false/\(t == "while")=false/\(t == "call")=false/\∀ (f:EF) (ρ:Ev),f ρ=some (.sh r.pv,ρ)->aF f (eC (.int 0)) ρ=some (.sh (.str t),ρ):=by
 have key:∀ (t:Str) (ws:List PV),r.pv=.tup (.str t::ws)->∀ (f:EF) (ρ:Ev),f ρ=some (.sh r.pv,ρ)->aF f (eC (.int 0)) ρ=some (.sh (.str t),ρ):=fun t ws e f ρ h=>by
  rw [e] at h
  exact jf (l:=.sh (.tup (.str t::ws))) (m:=.sh (.int 0)) h rfl rfl rfl (fun n h=>by cases h) (by show (gj (PV.str t::ws) 0).map _=_; rw [show gj (PV.str t::ws) 0=some (.str t) from lG (k:=0) rfl]; rfl)
 cases r with
 | asg o x e=>cases o with
  | true=>exact ⟨"out",by decide +kernel,by decide +kernel,by decide +kernel,key _ _ rfl⟩
  | false=>exact ⟨"set",by decide +kernel,by decide +kernel,by decide +kernel,key _ _ rfl⟩
 | put x p e=>exact ⟨"put",by decide +kernel,by decide +kernel,by decide +kernel,key _ _ rfl⟩
theorem Ni {n:Nat} {r:Rw} {mu:Mu}:kY (n+1) [r.pv] mu=some (.sh r.pv,mu):=by
 obtain ⟨t,n1,n2,n3,h⟩:=Jb r
 let E:Ev:=⟨[zS r.pv],mu⟩
 have h0:=h (aa 0) E rfl
 exact bj (ρ:=⟨[none],mu⟩) (aB (ρ':=E) ((bG (jw h0 n1)).trans rfl) (aB (ρ':=E) ((bG (jw h0 n2)).trans rfl) (aB (ρ':=E) ((bG (jw h0 n3)).trans rfl) rfl)))
theorem Nj {r:Rw} {mu:Mu}:pC [r.pv] mu=some (.own (.lst []),mu):=by
 obtain ⟨t,n1,n2,n3,h⟩:=Jb r
 let E:Ev:=⟨[zS r.pv],mu⟩
 have h0:=h (aa 0) E rfl
 exact bj (ρ:=E) (aB (ρ':=E) ((bG (jw h0 n1)).trans rfl) (aB (ρ':=E) ((bG (jw h0 n2)).trans rfl) rfl))
noncomputable abbrev LO (R:PV) (l5 l6 l7 l8 l9:Option Lc) (mu:Mu):Ev:=⟨[some (.sh (.str "main")),some (.sh .non),zI 0,zS R,zI 0,l5,l6,l7,l8,l9],mu⟩
theorem Dg {R:PV} {mu:Mu}:∀ (rs ts:List Rw) (l6 l7:Option Lc),ts.length+rs.length<=1000->∃ p6 p7,iT (aJ 6) (aH (aL 7 (qF (aq bK (aa 4) (eB cF (aj (aa 5) ao)))))
 (aH (ig 5 (bh (aj (aa 0) (aj (aa 1) (aj (aa 2) (aj (aG (kY 40) (aj (aa 6) ao)) ao))))))
 (gM (uH (aG pC (aj (aa 6) ao))) (fP 2 (aP (aJ 8) (aP (aJ 9) fO)))
 (nq 5 (aG (ik 39) (aj (aa 0) (aj (aa 7) (aj (aa 8) (aj (aa 9) (aj (qF (aq bK (aa 4) (eB cF (aj (aa 5) ao)))) ao)))))))))) (rs.map Rw.pv) (LO R (zO (eX ts)) l6 l7 none none mu)=some (.nx (LO R (zO (eX (ts++rs))) p6 p7 none none mu))
 | [],ts,l6,l7,_=>⟨l6,l7,by rw [YS]; rfl⟩
 | r::rs,ts,l6,l7,hl=>by
  simp only [YB] at hl
  let E:=fun l5 l7=>LO R l5 (zS r.pv) l7 none none mu
  obtain ⟨l7',e7⟩:∃ l7',aL 7 (qF (aq bK (aa 4) (eB cF (aj (aa 5) ao)))) (E (zO (eX ts)) l7)=some (.nx (E (zO (eX ts)) l7')):=⟨_,rfl⟩
  obtain ⟨p6,p7,ih⟩:=Dg (R:=R) (mu:=mu) rs (ts++[r]) (zS r.pv) l7' (by rw [YD]; show ts.length+1+_<=_; omega)
  refine ⟨p6,p7,gB (ρ1:=E (zO (eX ts)) l7) (ρ2:=E (zO (eX (ts++[r]))) l7') rfl (aB e7 (aB (ρ':=E (zO (eX (ts++[r]))) l7') (nA (ws0:=eX ts) (ws:=eX ts) (l:=.sh (.tup [.str "main",.non,.int 0,r.pv])) (ρ1:=E (zO (eX ts)) l7') rfl (fV (ls:=[.sh (.str "main"),.sh .non,.sh (.int 0),.sh r.pv]) (aC rfl (aC rfl (aC rfl (aC (aY (ls:=[.sh r.pv]) (aC rfl rfl) rfl rfl rfl Ni) rfl)))) rfl rfl) rfl rfl (by unfold eX; rw [Yw]; omega) ?_) ?_)) ?_⟩
  . show (E (some (.own (.lst (eX ts++[.tup [.str "main",.non,.int 0,r.pv]])))) l7')=_
    unfold eX
    rw [Y6]
    rfl
  . refine gR (xs:=[]) (ρ1:=E (zO (eX (ts++[r]))) l7') ?_ rfl
    unfold uH
    rw [aY (ls:=[.sh r.pv]) (aC rfl rfl) rfl rfl rfl (Nj (mu:=mu))]
    rfl
  . rw [Y0] at ih
    exact ih
theorem S6 {rs:List Rw} {mu:Mu} (hl:rs.length<=1000):ik 40 [.str "main",.non,.int 0,.lst (rs.map Rw.pv),.int 0] mu=some (.own (.lst (eX rs)),mu):=by
 obtain ⟨p6,p7,e⟩:=Dg (R:=.lst (rs.map Rw.pv)) (mu:=mu) rs [] none none (by simpa using hl)
 exact bj (ρ:=LO (.lst (rs.map Rw.pv)) none p6 p7 none none mu) (aB (ρ':=LO (.lst (rs.map Rw.pv)) (zO []) none none none none mu) rfl (aB (gR (Mq (l:=.sh (.lst (rs.map Rw.pv))) rfl rfl rfl) e) rfl))
noncomputable abbrev fD (bx gr:PV) (rs:List Rw):PV:=.tup [bx,gr,.lst [],.lst (rs.map Rw.pv)]
theorem S7 {bx gr:PV} {rs:List Rw} {mu:Mu} (hl:rs.length<=1000):qN [fD bx gr rs] mu=some (.own (.lst (eX rs)),mu):=by
 let E:=fun l1=>(⟨[zS (fD bx gr rs),l1,none,none,none,none],mu⟩:Ev)
 refine bj (ρ:=E none) (aB (ρ':=E (zO [])) rfl (aB (ρ':=E (zO [])) (gR (xs:=[]) (ρ1:=E (zO [])) rfl rfl) (aB (ρ':=E (zO (eX rs))) ?_ rfl)))
 refine FT (ws0:=[]) (ws:=[]) (ps:=eX rs) (ρ1:=E (zO [])) rfl (aY (ls:=[.sh (.str "main"),.sh .non,.sh (.int 0),.sh (.lst (rs.map Rw.pv)),.sh (.int 0)]) (ρ1:=E (zO [])) rfl rfl rfl rfl (S6 hl)) rfl rfl (by unfold eX; rw [Yw]; simp; omega) rfl
noncomputable abbrev KM:List dH:=[some (.inr "main"),none,some (.inl 0)]
noncomputable abbrev ZE (o0 o1 o2 o3 o4 o5 o6:Option Lc) (mu:Mu):Ev:=⟨[o0,o1,o2,o3,o4,o5,o6,none,none,none,none],mu⟩
noncomputable abbrev Wl:SF:=jt (tG 3 (Gj (aa 5) ie (gF (eC (.int 3))))) (aa 4)
open Classical in
theorem Jc {ρ:Ev} {ks:List (List dH)} {ps:List PV} {fk:EF} (h0:ρ.vs[3]?=some (some (.own (.dx HK.hk ks ps)))) (hk:fk ρ=some (.sh (.tup [.str "main",.non,.int 0]),ρ)) (hl:ks.length<100000):tG 3 fk ρ=(match mO (ks.zip ps) KM with
 | some p=>some (.sh p,ρ)
 | none=>some (.sh (.ptr ρ.mu.length),⟨ρ.vs.set 3 (some (.own (.dx HK.hk (ks++[KM]) (ps++[.ptr ρ.mu.length])))),ρ.mu++[some (.lst [])]⟩)):=by
 unfold tG
 rw [h0]
 dsimp only
 rw [hk,Yu]
 show (match PV.tup [.str "main",.non,.int 0],ρ.vs[3]? with | .tup kp,some (some (.own (.dx hk ks ps)))=>_ | _,_=>none)=_
 rw [h0]
 dsimp only
 rw [show rR [.str "main",.non,.int 0]=some KM from rfl,Yu,aaZ ⟨rfl,hl⟩]
 all_goals (cases mO (ks.zip ps) KM<;>rfl)
theorem S8 {mu:Mu} {o0 o1 o2 o4 o5 o6:Option Lc} {r:Rw} {j:Nat} (hj:j<=1000):Wl (ZE o0 o1 o2 (some (.own (.dx HK.hk [KM] [.ptr mu.length]))) (zI (j:Nat)) (some (.sh (.tup [.str "main",.non,.int 0,r.pv]))) o6 (mu++[some (.lst (cZ j))]))=some (.nx (ZE o0 o1 o2 (some (.own (.dx HK.hk [KM] [.ptr mu.length]))) (zI (j:Nat)) (some (.sh (.tup [.str "main",.non,.int 0,r.pv]))) o6 (mu++[some (.lst (cZ (j+1)))]))):=by
 let E:=ZE o0 o1 o2 (some (.own (.dx HK.hk [KM] [.ptr mu.length]))) (zI (j:Nat)) (some (.sh (.tup [.str "main",.non,.int 0,r.pv]))) o6 (mu++[some (.lst (cZ j))])
 have set:tG 3 (Gj (aa 5) ie (gF (eC (.int 3)))) E=some (.sh (.ptr mu.length),E):=Jc (ρ:=E) (ks:=[KM]) (ps:=[.ptr mu.length]) rfl rfl (by decide)
 have g:(mu++[some (PV.lst (cZ j))])[mu.length]?=some (some (.lst (cZ j))):=by rw [YL (Yy _),Zz]; rfl
 refine (mZ set rfl (n:=mu.length) (ws0:=cZ j) (ws:=cZ j) (p:=.int (j:Nat)) g (y:=.sh (.int (j:Nat))) (ρ2:=E) rfl rfl g (by rw [Yw,ZJ]; omega) rfl).trans ?_
 show some (Fl.nx ⟨_,(mu++[some (PV.lst (cZ j))]).set mu.length _⟩)=_
 rw [List.set_append_right _ _ (Yy _),Zz,vP]
 rfl
theorem Qc {mu:Mu} {o0 o1 o2 o6:Option Lc} {r:Rw}:Wl (ZE o0 o1 o2 (some (.own (.dx HK.hk [] []))) (zI 0) (some (.sh (.tup [.str "main",.non,.int 0,r.pv]))) o6 mu)=some (.nx (ZE o0 o1 o2 (some (.own (.dx HK.hk [KM] [.ptr mu.length]))) (zI 0) (some (.sh (.tup [.str "main",.non,.int 0,r.pv]))) o6 (mu++[some (.lst (cZ 1))]))):=by
 let E:=fun l3 mu=>ZE o0 o1 o2 l3 (zI 0) (some (.sh (.tup [.str "main",.non,.int 0,r.pv]))) o6 mu
 have set:tG 3 (Gj (aa 5) ie (gF (eC (.int 3)))) (E (some (.own (.dx HK.hk [] []))) mu)=some (.sh (.ptr mu.length),E (some (.own (.dx HK.hk [KM] [.ptr mu.length]))) (mu++[some (.lst [])])):=Jc (ρ:=E (some (.own (.dx HK.hk [] []))) mu) (ks:=[]) (ps:=[]) rfl rfl (by decide)
 have g:(mu++[some (PV.lst [])])[mu.length]?=some (some (.lst [])):=by rw [YL (Yy _),Zz]; rfl
 refine (mZ set rfl (n:=mu.length) (ws0:=[]) (ws:=[]) (p:=.int 0) g (y:=.sh (.int 0)) (ρ2:=E (some (.own (.dx HK.hk [KM] [.ptr mu.length]))) (mu++[some (.lst [])])) rfl rfl g (by decide) rfl).trans ?_
 show some (Fl.nx ⟨_,(mu++[some (PV.lst [])]).set mu.length _⟩)=_
 rw [List.set_append_right _ _ (Yy _),Zz]
 rfl
theorem Jd {mu:Mu} {o0 o1 o2 o6:Option Lc}:∀ (rs:List Rw) (j:Nat) (o4 o5:Option Lc),j+rs.length<=1000->∃ p4 p5,iT (fP 2 (aP (aJ 4) (aP (aJ 5) fO))) Wl (Ax j (eX rs)) (ZE o0 o1 o2 (some (.own (.dx HK.hk [KM] [.ptr mu.length]))) o4 o5 o6 (mu++[some (.lst (cZ j))]))=some (.nx (ZE o0 o1 o2 (some (.own (.dx HK.hk [KM] [.ptr mu.length]))) p4 p5 o6 (mu++[some (.lst (cZ (j+rs.length)))])))
 | [],j,o4,o5,_=>⟨o4,o5,rfl⟩
 | r::rs,j,o4,o5,hl=>by
  simp only [YB] at hl
  obtain ⟨p4,p5,ih⟩:=Jd (mu:=mu) (o0:=o0) (o1:=o1) (o2:=o2) (o6:=o6) rs (j+1) (zI (j:Nat)) (some (.sh (.tup [.str "main",.non,.int 0,r.pv]))) (by omega)
  refine ⟨p4,p5,gB (ρ1:=ZE o0 o1 o2 (some (.own (.dx HK.hk [KM] [.ptr mu.length]))) (zI (j:Nat)) (some (.sh (.tup [.str "main",.non,.int 0,r.pv]))) o6 (mu++[some (.lst (cZ j))])) rfl (S8 (o4:=none) (o5:=none) (by omega)) ?_⟩
  rw [show j+(r::rs).length=j+1+rs.length from by rw [YB]; omega]
  exact ih
noncomputable def LX (n:Nat):PV:=if n=0 then .dx HK.hk [] [] else .dx HK.hk [KM] [.lst (cZ n)]
noncomputable abbrev PO (rs:List Rw):PV:=uT (eX rs) (LX rs.length) (.dk [] [])
theorem Qd {bx gr:PV} {rs:List Rw} {mu:Mu} {p:Nat} (hl:rs.length<=1000) (hp:mu[p]?=some (some (cT "Plan" []))):∃ mu',gq [.ptr p,fD bx gr rs] mu=some (.sh .non,mu')/\mu'[p]?=some (some (PO rs))/\mu.length<=mu'.length/\∀ c,c<mu.length->c≠p->mu'[c]?=mu[c]?:=by
 have hpl:=eV hp
 let E:=fun l2 l3 l4 l5 l6 mu=>ZE (zS (.ptr p)) (zS (fD bx gr rs)) l2 l3 l4 l5 l6 mu
 let T:List PV:=eX rs
 have s2:aL 2 (aG qN (aj (aa 1) ao)) (E none none none none none mu)=some (.nx (E (zO T) none none none none mu)):=bA (aY (ls:=[.sh (fD bx gr rs)]) rfl rfl rfl rfl (S7 hl)) rfl rfl
 have fin:∀ (ks:List (List dH)) (ps:List PV) (qs:List PV) (l4 l5:Option Lc) (mu1 mu2:Mu),.dx HK.hk ks qs=LX rs.length->mu1[p]?=some (some (cT "Plan" []))->meltL (mu1.set p (some (cT "Plan" [("told",.lst T)]))) ps=some (qs,mu2)->mu2[p]?=some (some (cT "Plan" [("told",.lst T)]))->
  ∃ mu3,aH (aL 6 lX) (aH (gM (gC (aF (aa 1) (eC (.int 2))) du) (fP 4 (aP (aJ 7) (aP (aJ 8) (aP (aJ 9) (aP (aJ 10) fO)))))
   (o9 6 (aa 7) (dq (gC (aa 9) du) 2 [] (fP 2 (aP (aJ 0) (aP (aJ 1) fO))) dN (aa 0))))
   (aH (fX "Plan" "told" (aa 0) (aa 2))
   (aH (fX "Plan" "lists" (aa 0) (Ac (aa 3)))
   (fX "Plan" "heads" (aa 0) (aa 6))))) (E (zL T) (some (.own (.dx HK.hk ks ps))) l4 l5 none mu1)=some (.nx mu3)/\mu3.mu=(mu2.set p (some (cT "Plan" [("told",.lst T),("lists",LX rs.length)]))).set p (some (PO rs)):=fun ks ps qs l4 l5 mu1 mu2 hL h1 hm h2=>by
  have em:Ac (aa 3) (E (zL T) (some (.own (.dx HK.hk ks ps))) l4 l5 (some (.own (.dk [] []))) (mu1.set p (some (cT "Plan" [("told",.lst T)]))))=some (.sh (LX rs.length),E (zL T) (zS (.dx HK.hk ks ps)) l4 l5 (some (.own (.dk [] []))) mu2):=by
   show (meltL (mu1.set p (some (cT "Plan" [("told",.lst T)]))) ps).map _=_
   rw [hm,← hL]
   rfl
  refine ⟨_,aB (ρ':=E (zL T) (some (.own (.dx HK.hk ks ps))) l4 l5 (some (.own (.dk [] []))) mu1) rfl (aB (ρ':=E (zL T) (some (.own (.dx HK.hk ks ps))) l4 l5 (some (.own (.dk [] []))) mu1) (gR (xs:=[]) (ρ1:=E (zL T) (some (.own (.dx HK.hk ks ps))) l4 l5 (some (.own (.dk [] []))) mu1) rfl rfl) (aB (uR (C := "Plan") (f := "told") (x:=.sh (.ptr p)) (y:=.sh (.lst T)) (ρ1:=E (zL T) (some (.own (.dx HK.hk ks ps))) l4 l5 (some (.own (.dk [] []))) mu1) (ρ2:=E (zL T) (some (.own (.dx HK.hk ks ps))) l4 l5 (some (.own (.dk [] []))) mu1) rfl rfl rfl rfl h1 (by decide)) (aB (uR (C := "Plan") (f := "lists") (x:=.sh (.ptr p)) (l:=[("told",.lst T)]) em rfl rfl rfl h2 (show (1:Nat)<1000 from by decide)) (uR (C := "Plan") (f := "heads") (x:=.sh (.ptr p)) (l:=[("told",.lst T),("lists",LX rs.length)]) rfl rfl rfl rfl (YM (eV h2)) (show (2:Nat)<1000 from by decide))))),rfl⟩
 have en:uH (aa 2) (E (zO T) (some (.own (.dx HK.hk [] []))) none none none mu)=some (Ax 0 T,E (zL T) (some (.own (.dx HK.hk [] []))) none none none mu):=by
  rw [← Qa]
  rfl
 have z1:(mu.set p (some (cT "Plan" [("told",.lst T)])))[p]?=some (some (cT "Plan" [("told",.lst T)])):=YM hpl
 cases hrs:rs with
 | nil=>
  obtain ⟨ρ3,e3,h3⟩:=fin [] [] [] none none mu _ (by rw [hrs]; rfl) hp rfl z1
  refine ⟨ρ3.mu,?_,?_,?_,?_⟩
  rotate_left
  . rw [← hrs,h3]; exact YM (by rw [YX,YX]; exact hpl)
  . rw [h3,YX,YX,YX]; exact Yy _
  . intro c _ h
    rw [h3,Yz (Ne.symm h),Yz (Ne.symm h),Yz (Ne.symm h)]
  . rw [← hrs]
    exact gH (aB s2 (aB (ρ':=E (zO T) (some (.own (.dx HK.hk [] []))) none none none mu) rfl (aB (ρ':=E (zL T) (some (.own (.dx HK.hk [] []))) none none none mu) (gR en (by show iT _ _ (Ax 0 (eX rs)) _=_; rw [hrs]; rfl)) e3)))
 | cons r rs'=>
  have hn:rs.length≠0:=by rw [hrs]; simp
  obtain ⟨p4,p5,el⟩:=Jd (mu:=mu) (o0:=zS (.ptr p)) (o1:=zS (fD bx gr rs)) (o2:=zL T) (o6:=none) rs' 1 (zI 0) (some (.sh (.tup [.str "main",.non,.int 0,r.pv]))) (by rw [hrs,YB] at hl; omega)
  rw [show 1+rs'.length=rs.length from by rw [hrs,YB]; omega] at el
  have e5:((mu++[some (PV.lst (cZ rs.length))]).set p (some (cT "Plan" [("told",.lst T)])))=mu.set p (some (cT "Plan" [("told",.lst T)]))++[some (PV.lst (cZ rs.length))]:=List.set_append_left _ _ hpl
  have hm:meltL ((mu++[some (PV.lst (cZ rs.length))]).set p (some (cT "Plan" [("told",.lst T)]))) [.ptr mu.length]=some ([.lst (cZ rs.length)],(mu.set p (some (cT "Plan" [("told",.lst T)]))++[some (PV.lst (cZ rs.length))]).set mu.length none):=by
   rw [e5]
   show (match (mu.set p (some (cT "Plan" [("told",.lst T)]))++[some (PV.lst (cZ rs.length))])[mu.length]? with | some (some q)=>_ | _=>none)=_
   rw [YL (by rw [YX]; exact Yy _),YX,Zz]
   rfl
  obtain ⟨ρ3,e3,h3⟩:=fin [KM] [.ptr mu.length] [.lst (cZ rs.length)] p4 p5 (mu++[some (PV.lst (cZ rs.length))]) _ (by unfold LX; rw [aa0 hn]) (by rw [m5 hpl]; exact hp) hm (by rw [Yz (by omega),Y9 (by rw [YX]; exact hpl)]; exact z1)
  refine ⟨ρ3.mu,?_,?_,?_,?_⟩
  rotate_left
  . rw [← hrs,h3]; exact YM (by simp; omega)
  . rw [h3]; simp
  . intro c hc h
    rw [h3,Yz (Ne.symm h),Yz (Ne.symm h),Yz (by omega),Y9 (by rw [YX]; exact hc),Yz (Ne.symm h)]
  . rw [← hrs]
    refine gH (aB s2 (aB (ρ':=E (zO T) (some (.own (.dx HK.hk [] []))) none none none mu) rfl (aB (ρ':=E (zL T) (some (.own (.dx HK.hk [KM] [.ptr mu.length]))) p4 p5 none (mu++[some (PV.lst (cZ rs.length))])) (gR en ?_) e3)))
    have ht:Ax 0 T=.tup [.int (0:Nat),.tup [.str "main",.non,.int 0,r.pv]]::Ax 1 (eX rs'):=by show Ax 0 (eX rs)=_; rw [hrs]; rfl
    rw [ht]
    exact gB (ρ1:=E (zL T) (some (.own (.dx HK.hk [] []))) (zI 0) (some (.sh (.tup [.str "main",.non,.int 0,r.pv]))) none mu) rfl Qc el
open Classical in
theorem Je {fo fk:EF} {ρ ρ1 ρ2:Ev} {x y:Lc} {ks:List (List dH)} {ps kp:List PV} {k:List dH} {l:Lc} (h1:fo ρ=some (x,ρ1)) (hx:x.pv=.dx HK.hk ks ps) (h2:fk ρ1=some (y,ρ2)) (hy:y.pv=.tup kp) (hk:rR kp=some k) (hl:(match mO (ks.zip ps) k with | some p=>Lc.sh p | none=>.own (.lst []))=l):Ab fo fk ρ=some (l,ρ2):=by
 unfold Ab
 rw [h1,Yu,hx]
 dsimp only
 rw [h2,Yu,hy]
 dsimp only
 rw [hk,Yu,aaZ rfl]
 subst hl
 cases mO (ks.zip ps) k<;>rfl
theorem Qe {mu:Mu} {p:Nat} {rs:List Rw} (hp:mu[p]?=some (some (PO rs))):nT [.ptr p,.str "main"] mu=some (.own (.lst (cZ rs.length)),mu):=by
 let E:Ev:=⟨[zS (.ptr p),some (.sh (.str "main"))],mu⟩
 have hf:dJ "Plan" "lists" (aa 0) E=some (.sh (LX rs.length),E):=gb rfl rfl hp rfl
 have hg:∃ l:Lc,Ab (dJ "Plan" "lists" (aa 0)) (bh (aj (aa 1) (aj (eC .non) (aj (eC (.int 0)) ao)))) E=some (l,E)/\l.pv=.lst (cZ rs.length):=by
  by_cases h:rs.length=0
  . exact ⟨.own (.lst []),Je (ks:=[]) (ps:=[]) (k:=KM) hf (by show LX rs.length=_; unfold LX; rw [aaZ h]) rfl rfl rfl rfl,by rw [h]; rfl⟩
  . exact ⟨.sh (.lst (cZ rs.length)),Je (ks:=[KM]) (ps:=[.lst (cZ rs.length)]) (k:=KM) hf (by show LX rs.length=_; unfold LX; rw [aa0 h]) rfl rfl rfl rfl,rfl⟩
 obtain ⟨l,hg,hv⟩:=hg
 exact bj (ρ:=E) (b8 (kE (ls:=[l]) (ps:=[.lst (cZ rs.length)]) (aC hg rfl) (by show [l.pv]=_; rw [hv]) rfl))
theorem CB.snocN {mu:Mu} {hi:Nat} {x:Str} {i:Int}:∀ {lo:Nat} {A:Bs} {ps:List PV},CB mu hi lo A ps->CB mu hi lo (A++[(x,.n i)]) (ps++[.int i])
 | lo,[],ps,h=>by have h:ps=[]:=h; subst h; exact ⟨[],rfl,rfl⟩
 | lo,(_,.n j)::A,ps,⟨r,e,h⟩=>by subst e; exact ⟨_,rfl,h.snocN⟩
 | lo,(_,.l js)::A,ps,⟨c,r,e,h1,h2,h3,h⟩=>by subst e; exact ⟨c,_,rfl,h1,h2,h3,h.snocN⟩
theorem CB.snocL {mu:Mu} {x:Str} {is:List Int}:∀ {lo:Nat} {A:Bs} {ps:List PV},lo<=mu.length->CB mu mu.length lo A ps->CB (mu++[some (.lst (is.map .int))]) (mu.length+1) lo (A++[(x,.l is)]) (ps++[.ptr mu.length])
 | lo,[],ps,hl,h=>by have h:ps=[]:=h; subst h; exact ⟨mu.length,[],rfl,hl,ZV _,by rw [YL (Yy _),Zz]; rfl,rfl⟩
 | lo,(_,.n j)::A,ps,hl,⟨r,e,h⟩=>by subst e; exact ⟨_,rfl,h.snocL hl⟩
 | lo,(_,.l js)::A,ps,hl,⟨c,r,e,h1,h2,h3,h⟩=>by subst e; exact ⟨c,_,rfl,h1,by omega,by rw [m5 h2]; exact h3,h.snocL (by omega)⟩
theorem CB.hi {mu:Mu} {hi hi':Nat}:∀ {lo:Nat} {A:Bs} {ps:List PV},hi<=hi'->CB mu hi lo A ps->CB mu hi' lo A ps
 | lo,[],ps,_,h=>h
 | lo,(_,.n j)::A,ps,hl,⟨r,e,h⟩=>⟨r,e,h.hi hl⟩
 | lo,(_,.l js)::A,ps,hl,⟨c,r,e,h1,h2,h3,h⟩=>⟨c,r,e,h1,by omega,h3,h.hi hl⟩
theorem Dh {k:Key}:∀ {ks:List Key} {ps:List PV},k∉ks->cH (ks.zip ps) k=none
 | [],_,_=>rfl
 | _::_,[],_=>rfl
 | y::ks,p::ps,h=>by
  show (if y=k then some p else cH (ks.zip ps) k)=none
  rw [aa0 (fun e=>h (by rw [e]; exact Yv)),Dh fun q=>h (YG _ q)]
theorem zc {i:Nat} {fi fv:EF} {ρ ρ1 ρ2 ρ':Ev} {x y:Lc} {ks0 ks:List Key} {ps0 ps:List PV} {k:Key} {p:PV} (h1:fv ρ=some (x,ρ1)) (hx:x.pv=p) (h0:ρ1.vs[i]?=some (some (.own (.dk ks0 ps0)))) (h2:fi ρ1=some (y,ρ2)) (hy:qd y.pv=some k) (h3:ρ2.vs[i]?=some (some (.own (.dk ks ps)))) (hl:ks.length<100000) (e:ρ2.set i (some (.own (jH (jn (ks.zip ps) k p))))=ρ'):o9 i fi fv ρ=some (.nx ρ'):=by
 unfold o9
 rw [h1,Yu,h0]
 dsimp only
 rw [h2,Yu,hy,h3]
 dsimp only
 rw [aaZ hl,hx,e]
theorem BZ {ks:List Key} {ps:List PV} {k:Key} {p:PV} (hl:ps.length=ks.length) (hk:k∉ks):jH (jn (ks.zip ps) k p)=.dk (ks++[k]) (ps++[p]):=by
 unfold jn
 rw [Dh hk]
 show jH (ks.zip ps++[(k,p)])=_
 rw [show ks.zip ps++[(k,p)]=(ks++[k]).zip (ps++[p]) from by rw [Z5 hl.symm]; rfl]
 exact Nf (by rw [YD,YD,hl]; rfl)
noncomputable abbrev dcl (D:List (Str×Int)):List PV:=D.map fun q=>.tup [.str q.1,.int q.2,.non]
noncomputable abbrev gf (B:Bs):List PV:=B.map fun q=>q.2.pv
noncomputable abbrev Xn:SF:=o9 2 (aF (aa 3) (eC (.int 0))) (rD (tT (jC "list" (aa 4)) jA) (dC (eB list1 (aj (aa 4) ao))) (aa 4))
noncomputable abbrev FE (P V:PV) (l2 l3 l4:Option Lc) (mu:Mu):Ev:=⟨[zS P,zS V,l2,l3,l4],mu⟩
theorem Qf {A:Bs} {x:Str} (h:x∉A.map (·.1)):(.inr x:Key)∉bL A:=fun q=>by
 obtain ⟨z,hz,e⟩:=YZ.mp q
 exact h (YZ.mpr ⟨z,hz,Sum.inr.inj e⟩)
theorem S9 {P V:PV} {A:Bs} {ps:List PV} {mu:Mu} {lo:Nat} {x:Str} {s:Int} {v:BV} (hx:x∉A.map (·.1)) (hA:A.length<=100) (hlo:lo<=mu.length) (hc:CB mu mu.length lo A ps):∃ ps' t,Xn (FE P V (some (.own (.dk (bL A) ps))) (zS (.tup [.str x,.int s,.non])) (zS v.pv) mu)=some (.nx (FE P V (some (.own (.dk (bL (A++[(x,v)])) ps'))) (zS (.tup [.str x,.int s,.non])) (zS v.pv) (mu++t)))/\CB (mu++t) (mu++t).length lo (A++[(x,v)]) ps':=by
 have hl:ps.length=(bL A).length:=by rw [hc.len,Yw]
 have hk:=Qf hx
 have ek:bL (A++[(x,v)])=bL A++[.inr x]:=Y6
 cases v with
 | n i=>
  refine ⟨ps++[.int i],[],?_,?_⟩
  . rw [YS,ek,← BZ hl hk]
    exact zc (ρ2:=FE P V (some (.own (.dk (bL A) ps))) (zS (.tup [.str x,.int s,.non])) (some (.sh (BV.n i).pv)) mu) (x:=.sh (.int i)) (y:=.sh (.str x)) rfl rfl rfl rfl rfl rfl (by rw [Yw]; omega) rfl
  . rw [YS]
    exact hc.snocN
 | l is=>
  refine ⟨ps++[.ptr mu.length],[some (.lst (is.map .int))],?_,?_⟩
  . rw [ek,← BZ hl hk]
    exact zc (ρ1:=FE P V (some (.own (.dk (bL A) ps))) (zS (.tup [.str x,.int s,.non])) (some (.sh (BV.l is).pv)) (mu++[some (.lst (is.map .int))])) (ρ2:=FE P V (some (.own (.dk (bL A) ps))) (zS (.tup [.str x,.int s,.non])) (some (.sh (BV.l is).pv)) (mu++[some (.lst (is.map .int))])) (x:=.sh (.ptr mu.length)) (y:=.sh (.str x)) rfl rfl rfl rfl rfl rfl (by rw [Yw]; omega) rfl
  . rw [YD]
    exact hc.snocL hlo
theorem Jf {P V:PV} {v lo:Nat} {cs:List PV}:∀ (B:Bs) (D:List (Str×Int)) (A:Bs) (ps:List PV) (l3 l4:Option Lc) (mu:Mu),D.map (·.1)=B.map (·.1)->((A++B).map (·.1)).Nodup->(A++B).length<=100->lo<=mu.length->mu[v]?=some (some (.lst cs))->CB mu mu.length lo A ps->
 ∃ ps' t p3 p4,nG (some v) cs (fP 2 (aP (aJ 3) (aP (aJ 4) fO))) Xn (j0 (dcl D) (gf B)) (FE P V (some (.own (.dk (bL A) ps))) l3 l4 mu)=some (.nx (FE P V (some (.own (.dk (bL (A++B)) ps'))) p3 p4 (mu++t)))/\CB (mu++t) (mu++t).length lo (A++B) ps'
 | [],D,A,ps,l3,l4,mu,hD,_,_,_,hv,hc=>by
  obtain rfl:D=[]:=by cases D with | nil=>rfl | cons q D=>(simp at hD)
  refine ⟨ps,[],l3,l4,?_,by rw [YS,YS]; exact hc⟩
  rw [YS,YS]
  exact Pq fun n e=>by cases e; exact hv
 | (x,w)::B,D,A,ps,l3,l4,mu,hD,nd,h1,hlo,hv,hc=>by
  obtain ⟨s,D',rfl,hD'⟩:∃ s D',D=(x,s)::D'/\D'.map (·.1)=B.map (·.1):=by
   cases D with
   | nil=>simp at hD
   | cons q D=>
    simp only [YT,List.cons.injEq] at hD
    exact ⟨q.2,D,by rw [← hD.1],hD.2⟩
  have e1:A++(x,w)::B=(A++[(x,w)])++B:=by rw [Y0]; rfl
  have hx:x∉A.map (·.1):=fun q=>by
   rw [Y6] at nd
   exact (aab.mp nd).2.2 x q x (by rw [YT]; exact Yv) rfl
  rw [e1] at nd h1 ⊢
  obtain ⟨ps1,t1,es,hc1⟩:=S9 (P:=P) (V:=V) (s:=s) (v:=w) hx (by rw [YD,YD] at h1; omega) hlo hc
  obtain ⟨ps',t,p3,p4,el,hc'⟩:=Jf (P:=P) (V:=V) (v:=v) (lo:=lo) (cs:=cs) B D' (A++[(x,w)]) ps1 (zS (.tup [.str x,.int s,.non])) (zS w.pv) (mu++t1) hD' nd h1 (by rw [YD]; omega) (by rw [Y9 (eV hv)]; exact hv) hc1
  rw [Y0 mu t1 t] at el hc'
  exact ⟨ps',t1++t,p3,p4,R5 (ρ1:=FE P V (some (.own (.dk (bL A) ps))) (zS (.tup [.str x,.int s,.non])) (zS w.pv) mu) (fun n e=>by cases e; exact hv) rfl es el,hc'⟩
theorem Nk {gr R4 R3:PV} {B:Bs} {D:List (Str×Int)} {v:Nat} {mu:Mu} (hD:D.map (·.1)=B.map (·.1)) (nd:(B.map (·.1)).Nodup) (h1:B.length<=100) (hv:mu[v]?=some (some (.lst (gf B)))):∃ ps t,sr [.tup [.lst (dcl D),gr,R3,R4],.ptr v] mu=some (.own (.dk (bL B) ps),mu++t)/\CB (mu++t) (mu++t).length mu.length B ps:=by
 let P:PV:=.tup [.lst (dcl D),gr,R3,R4]
 obtain ⟨ps,t,p3,p4,el,hc⟩:=Jf (P:=P) (V:=.ptr v) (lo:=mu.length) B D [] [] none none mu hD nd h1 (Yy _) hv rfl
 refine ⟨ps,t,bj (ρ:=FE P (.ptr v) none p3 p4 (mu++t)) (aB (ρ':=FE P (.ptr v) (some (.own (.dk [] []))) none none mu) rfl (aB (ρ':=FE P (.ptr v) (some (.own (.dk (bL B) ps))) p3 p4 (mu++t)) ?_ rfl)),hc⟩
 unfold J9 J8
 rw [show aF (aa 0) (eC (.int 0)) (FE P (.ptr v) (some (.own (.dk [] []))) none none mu)=some (.sh (.lst (dcl D)),FE P (.ptr v) (some (.own (.dk [] []))) none none mu) from rfl,Yu]
 show Option.bind (match mu[v]? with | some (some (.lst qs))=>some (some v,qs,j0 (dcl D) qs,FE P (.ptr v) (some (.own (.dk [] []))) none none mu) | _=>none) _=_
 rw [hv]
 exact el
noncomputable abbrev yw (p:PV):PV:=.tup [p,.int 0]
theorem Nm:∀ (rs:List Rw) (k:Nat),v6 k rs=.tup [.int (((k+rs.length:Nat):Int)-1),.int 3]::((List.range' k rs.length).map fun i=>PV.int (i:Nat)).reverse.map yw
 | [],k=>rfl
 | r::rs,k=>by
  show v6 (k+1) rs++[.tup [.int (k:Nat),.int 0]]=_
  rw [Nm rs (k+1),YB,aah,YT,List.reverse_cons,Y6,ZW,show k+1+rs.length=k+(rs.length+1) from by omega]
  rfl
theorem m6 {n:Nat}:(List.range' 0 n).map (fun i=>PV.int (i:Nat))=cZ n:=by rw [← List.range_eq_range']
theorem Qg {ws:List PV} {p:PV}:gj (ws++[p]) (-1)=some p:=by
 unfold gj pJ
 have hl:(ws++[p]).length=ws.length+1:=by simp
 rw [hl,aa0 (by omega),aaZ (by omega)]
 show (ws++[p])[((-1:Int)+((ws.length+1:Nat):Int)).toNat]?=_
 rw [show ((-1:Int)+((ws.length+1:Nat):Int)).toNat=ws.length from by omega,YL (Yy _),Zz]
 rfl
section
variable {mu:Mu} {I:Ix} {bu:Int} {Q:PV} {B:Bs} {M D:List PV}
theorem Np {ps:List PV} (S:RS mu I bu Q B M D) (hl:D.length+ps.length<=1000):oX [.ptr I.r,.lst ps] mu=some (.sh .non,mu.set I.d (some (.lst (D++ps.reverse.map yw)))):=by
 let E:Ev:=⟨[zS (.ptr I.r),zL ps],mu⟩
 have ec:=je (b:=aJ 0) (te:=bh (aj (aa 0) (aj (eC (.int 0)) ao))) (mu:=mu) (fun ρ=>∃ o,ρ=⟨[o],mu⟩) (fun ρ ⟨o,e⟩=>by rw [e]) yw (xs:=ps.reverse) (ρ:=⟨[none],mu⟩) ⟨none,rfl⟩ (by simp; omega) (by
  rintro p hp ρ ⟨o,rfl⟩
  exact ⟨⟨[zS p],mu⟩,rfl,.sh (yw p),⟨[zS p],mu⟩,rfl,rfl,_,rfl⟩) (by
  rintro p hp ρ ρ1 ⟨o,rfl⟩ e
  cases e
  exact ⟨_,rfl⟩)
 have e2:dq (Ed (aa 1)) 1 [] (aJ 0) dN (bh (aj (aa 0) (aj (eC (.int 0)) ao))) E=some (.own (.lst (ps.reverse.map yw)),E):=jm (f:=Ed (aa 1)) (m:=1) (ixs:=[]) (ρ:=E) (ρ1:=E) (xs:=ps.reverse) rfl ec
 exact gH (ρ:=⟨[zS (.ptr I.r),zL ps],mu.set I.d (some (.lst (D++ps.reverse.map yw)))⟩) (Sy (o:=.sh (.ptr I.d)) (ρ1:=E) (ρ2:=E) (y:=.own (.lst (ps.reverse.map yw))) (gb rfl rfl S.hr rfl) rfl S.hd e2 rfl S.hd (by rw [Yw,aaI]; omega) rfl)
theorem Ko {rs:List Rw} (S:RS mu I bu (PO rs) B M []) (hl:rs.length<=900):∃ mu',j6 [.ptr I.r,.str "main"] mu=some (.sh .non,mu')/\RS mu' I bu (PO rs) B M (if rs=[] then [] else v6 0 rs)/\mu'.length=mu.length/\∀ c,c≠I.d->mu'[c]?=mu[c]?:=by
 let E:=fun l2 mu=>(⟨[zS (.ptr I.r),some (.sh (.str "main")),l2],mu⟩:Ev)
 let N:Option Lc:=zL (cZ rs.length)
 have ln:(cZ rs.length).length=rs.length:=by rw [Yw,ZJ]
 have s2:aL 2 (dD "Plan" "body" nT (dJ "Running" "plan" (aa 0)) (aj (aa 1) ao)) (E none mu)=some (.nx (E (zO (cZ rs.length)) mu)):=bA (xY (x:=.sh (.ptr I.p)) (ls:=[.sh (.str "main")]) (ρ1:=E none mu) (ρ2:=E none mu) (gb rfl rfl S.hr rfl) rfl S.hp (show (["told", "lists", "heads"]:List Str).contains "body" = false from by decide +kernel) rfl rfl (Qe S.hp)) rfl rfl
 have t3:tT (aa 2) jA (E (zO (cZ rs.length)) mu)=some (!(cZ rs.length).isEmpty,E N mu):=rfl
 by_cases h:rs=[]
 . have e0:cZ rs.length=[]:=by rw [h]; rfl
   have S':=S.setD (D':=[]++([]:List PV).reverse.map yw)
   refine ⟨mu.set I.d (some (.lst ([]++([]:List PV).reverse.map yw))),?_,by rw [aaZ h]; exact S',YX,fun c hc=>Yz (Ne.symm hc)⟩
   have el:=Np (ps:=[]) S (by simp)
   refine gH (ρ:=E N _) (aB s2 (aB (ρ':=E N mu) ((bG (t3.trans (by rw [e0]; rfl))).trans rfl) (jG (lH S.hr (by decide +kernel) (ls:=[.sh (.lst (cZ rs.length))]) (mu1:=mu) rfl rfl (by rw [e0]; exact el)))))
 . obtain ⟨m,hm⟩:∃ m,rs.length=m+1:=⟨rs.length-1,by cases rs with | nil=>exact absurd rfl h | cons r rs=>simp⟩
   have S1:=S.setD (D':=[]++[PV.tup [.int (m:Nat),.int 3]])
   have el:=Np (ps:=cZ rs.length) S1 (by rw [ln]; simp; omega)
   have ed:[]++[PV.tup [.int (m:Nat),.int 3]]++(cZ rs.length).reverse.map yw=v6 0 rs:=by
    rw [Nm,m6,hm,show (((0+(m+1):Nat):Int)-1)=(m:Nat) from by omega]
    rfl
   rw [ed] at el
   refine ⟨_,?_,by rw [aa0 h]; exact S1.setD,by rw [YX,YX],fun c hc=>(Yz (Ne.symm hc)).trans (Yz (Ne.symm hc))⟩
   have s3:jt (dJ "Running" "due" (aa 0)) (bh (aj (aF (aa 2) (oN (eC (.int 1)))) (aj (eC (.int 3)) ao))) (E N mu)=some (.nx (E N (mu.set I.d (some (.lst ([]++[PV.tup [.int (m:Nat),.int 3]])))))):=mZ (o:=.sh (.ptr I.d)) (ρ1:=E N mu) (ρ2:=E N mu) (y:=.sh (.tup [.int (m:Nat),.int 3])) (gb rfl rfl S.hr rfl) rfl S.hd (fV (ls:=[.sh (.int (m:Nat)),.sh (.int 3)]) (aC (jf (l:=.sh (.lst (cZ rs.length))) (m:=.sh (.int (-1))) rfl rfl rfl rfl (fun n h=>by cases h) (by show (gj (cZ rs.length) (-1)).map _=_; rw [hm,vP,Qg]; rfl)) rfl) rfl rfl) rfl S.hd (by decide) rfl
   exact gH (ρ:=E N _) (aB s2 (aB (ρ':=E N _) ((dB (t3.trans (by rw [hm,vP]; cases cZ m<;>rfl))).trans s3) (jG (lH S1.hr (by decide +kernel) (ls:=[.sh (.lst (cZ rs.length))]) (mu1:=mu.set I.d (some (.lst ([]++[PV.tup [.int (m:Nat),.int 3]])))) rfl rfl el))))
end
section
variable {b0:Mu} {r:Nat}
noncomputable abbrev WW (b0:Mu) (r:Nat) (l:FD) (t:Mu):Mu:=b0.set r (some (cT "Running" l))++t
theorem Wm {l l':FD} {t:Mu} (h:r<b0.length):(WW b0 r l t).set r (some (cT "Running" l'))=WW b0 r l' t:=by
 unfold WW
 rw [List.set_append_left _ _ (by rw [YX]; exact h),ZD]
theorem Kp {l:FD} {t:Mu} {i:Nat}:(WW b0 r l t)[b0.length+i]?=t[i]?:=by
 unfold WW
 rw [YL (by rw [YX]; omega),YX]
 congr 1
 omega
theorem Wn {l:FD} {t:Mu} (h:r<b0.length):(WW b0 r l t)[r]?=some (some (cT "Running" l)):=by
 unfold WW
 rw [Y9 (by rw [YX]; exact h),YM h]
theorem G6 {l:FD} {t:Mu} {c:Nat} (h:c<b0.length) (hc:c≠r):(WW b0 r l t)[c]?=b0[c]?:=by
 unfold WW
 rw [Y9 (by rw [YX]; exact h),Yz (Ne.symm hc)]
theorem sJ {l:FD} {t:Mu}:(WW b0 r l t).length=b0.length+t.length:=by
 unfold WW
 rw [YD,YX]
theorem m7 {l:FD} {t u:Mu}:WW b0 r l t++u=WW b0 r l (t++u):=Y0 ..
noncomputable abbrev RE (r:Nat) (P V:PV) (bu:Int) (mu:Mu):Ev:=⟨[zS (.ptr r),zS P,zS V,zI bu],mu⟩
theorem Ca {f:Str} {fv:EF} {P V:PV} {bu:Int} {l l':FD} {t t':Mu} {y:Lc} {p:PV} (h:r<b0.length) (h1:fv (RE r P V bu (WW b0 r l t))=some (y,RE r P V bu (WW b0 r l t'))) (hy:y.pv=p) (hl:l.length<1000) (e:nD f p l=l'):fX "Running" f (aa 0) fv (RE r P V bu (WW b0 r l t))=some (.nx (RE r P V bu (WW b0 r l' t'))):=by
 have q:=uR (C := "Running") (f:=f) (fo:=aa 0) (x:=.sh (.ptr r)) (ρ2:=RE r P V bu (WW b0 r l t')) (n:=r) (l:=l) h1 hy rfl rfl (Wn h) hl
 rw [q,e,show (RE r P V bu (WW b0 r l t')).mu=WW b0 r l t' from rfl,Wm h]
end
theorem Tc {gr:PV} {rs:List Rw} {B:Bs} {D:List (Str×Int)} {v:Nat} {bu:Int} {mu:Mu} (hD:D.map (·.1)=B.map (·.1)) (nd:(B.map (·.1)).Nodup) (h1:B.length<=100) (hl:rs.length<=900) (hv:mu[v]?=some (some (.lst (gf B)))):
 ∃ mu' I,fG [.ptr mu.length,fD (.lst (dcl D)) gr rs,.ptr v,.int bu] (mu++[some (cT "Running" [])])=some (.sh .non,mu')/\I.r=mu.length/\RS mu' I bu (PO rs) B [] (if rs=[] then [] else v6 0 rs)/\mu'.length=I.d+1/\∀ c,c<mu.length->mu'[c]?=mu[c]?:=by
 let P:PV:=fD (.lst (dcl D)) gr rs
 let r:=mu.length
 have hrm:r=mu.length:=rfl
 have hp0:((mu++[some (cT "Running" [])])++[some (cT "Plan" [])])[r+1]?=some (some (cT "Plan" [])):=by
  rw [YL (by simp [r]),show r+1-(mu++[some (cT "Running" [])]).length=0 from by simp [r]]
  rfl
 obtain ⟨b0,e0,h0,l0,f0⟩:=Qd (bx:=.lst (dcl D)) (gr:=gr) (rs:=rs) (by omega) hp0
 have lb:r+2<=b0.length:=by have:=l0; simp [r] at this ⊢; omega
 have fr:∀ c,c<mu.length->b0[c]?=mu[c]?:=fun c hc=>by
  rw [f0 c (by simp; omega) (by simp only [r]; omega),Y9 (by simp; omega),Y9 hc]
 have br:b0[r]?=some (some (cT "Running" [])):=by
  rw [f0 r (by simp [r]) (by simp [r]),Y9 (by simp [r]),YL (by simp [r]),show r-mu.length=0 from by simp [r]]
  rfl
 have hr:r<b0.length:=by omega
 have w0:b0=WW b0 r [] []:=by
  unfold WW
  rw [YS,aa8 br]
 have s1:fX "Running" "plan" (aa 0) (tE "Plan" gq (aj (aa 1) ao)) (RE r P (.ptr v) bu (mu++[some (cT "Running" [])]))=some (.nx (RE r P (.ptr v) bu (WW b0 r [("plan",.ptr (r+1))] []))):=by
  have mk:=Iz (C := "Plan") (g:=gq) (a:=aj (aa 1) ao) (ρ:=RE r P (.ptr v) bu (mu++[some (cT "Running" [])])) (ρ1:=RE r P (.ptr v) bu (mu++[some (cT "Running" [])])) (ls:=[.sh P]) (ps:=[P]) (mu2:=b0) rfl rfl (by
   rw [show (RE r P (.ptr v) bu (mu++[some (cT "Running" [])])).mu.length=r+1 from by simp [r]]
   exact e0)
  rw [show (RE r P (.ptr v) bu (mu++[some (cT "Running" [])])).mu.length=r+1 from by simp [r]] at mk
  have q:=uR (C := "Running") (f := "plan") (fo:=aa 0) (x:=.sh (.ptr r)) (ρ2:=RE r P (.ptr v) bu b0) (n:=r) (l:=[]) mk rfl rfl rfl br (by decide)
  rw [q]
  show some (Fl.nx (RE r P (.ptr v) bu (b0.set r (some (cT "Running" [("plan",.ptr (r+1))])))))=_
  unfold WW
  rw [YS]
 have hvr:v<mu.length:=eV hv
 obtain ⟨ps,t,ef,hc⟩:=Nk (gr:=gr) (R3:=.lst []) (R4:=.lst (rs.map Rw.pv)) (v:=v) (mu:=WW b0 r [("plan",.ptr (r+1))] []) hD nd h1 (by rw [G6 (by omega) (by omega),fr v hvr]; exact hv)
 rw [m7] at ef hc
 rw [ZL] at ef hc
 have s2:fX "Running" "boxes" (aa 0) (dC (aG sr (aj (aa 1) (aj (aa 2) ao)))) (RE r P (.ptr v) bu (WW b0 r [("plan",.ptr (r+1))] []))=some (.nx (RE r P (.ptr v) bu (WW b0 r [("plan",.ptr (r+1)),("boxes",.ptr (b0.length+t.length))] (t++[some (.dk (bL B) ps)])))):=by
  refine Ca (y:=.sh (.ptr (b0.length+t.length))) hr ?_ rfl (show (1:Nat)<1000 from by decide) rfl
  have q:=lF (f:=aG sr (aj (aa 1) (aj (aa 2) ao))) (p:=.dk (bL B) ps) (ρ:=RE r P (.ptr v) bu (WW b0 r [("plan",.ptr (r+1))] [])) (ρ1:=RE r P (.ptr v) bu (WW b0 r [("plan",.ptr (r+1))] t)) (aY (ls:=[.sh P,.sh (.ptr v)]) (ρ1:=RE r P (.ptr v) bu (WW b0 r [("plan",.ptr (r+1))] [])) (aC rfl (aC rfl rfl)) rfl rfl rfl ef)
  rw [show (RE r P (.ptr v) bu (WW b0 r [("plan",.ptr (r+1))] t)).mu.length=b0.length+t.length from sJ,show (RE r P (.ptr v) bu (WW b0 r [("plan",.ptr (r+1))] t)).mu++[some (.dk (bL B) ps)]=WW b0 r [("plan",.ptr (r+1))] (t++[some (.dk (bL B) ps)]) from m7] at q
  exact q
 let n:=b0.length+t.length
 let l2:FD:=[("plan",.ptr (r+1)),("boxes",.ptr n)]
 let t2:Mu:=t++[some (.dk (bL B) ps)]
 let t3:Mu:=t2++[some (.dk [] []),some (.lst [.ptr (n+1)])]
 let l3:FD:=[("plan",.ptr (r+1)),("boxes",.ptr n),("own",.ptr (n+2))]
 have lt2:∀ l,(WW b0 r l t2).length=n+1:=fun l=>by rw [sJ]; simp [t2,n]; omega
 have s3:fX "Running" "own" (aa 0) (dC (bW (aj (dC lX) ao))) (RE r P (.ptr v) bu (WW b0 r l2 t2))=some (.nx (RE r P (.ptr v) bu (WW b0 r l3 t3))):=by
  refine Ca (y:=.sh (.ptr (n+2))) (t':=t3) hr ?_ rfl (show (2:Nat)<1000 from by decide) rfl
  have a1:dC lX (RE r P (.ptr v) bu (WW b0 r l2 t2))=some (.sh (.ptr (n+1)),RE r P (.ptr v) bu (WW b0 r l2 (t2++[some (.dk [] [])]))):=by
   have q:=lF (f:=lX) (p:=.dk [] []) (ρ:=RE r P (.ptr v) bu (WW b0 r l2 t2)) rfl
   rw [show (RE r P (.ptr v) bu (WW b0 r l2 t2)).mu.length=n+1 from lt2 l2] at q
   rw [q,← m7 (t:=t2) (u:=[some (.dk [] [])])]
  have q:=lF (f:=bW (aj (dC lX) ao)) (p:=.lst [.ptr (n+1)]) (ρ:=RE r P (.ptr v) bu (WW b0 r l2 t2)) (ρ1:=RE r P (.ptr v) bu (WW b0 r l2 (t2++[some (.dk [] [])]))) (pO (ls:=[.sh (.ptr (n+1))]) (aC a1 rfl) rfl rfl)
  rw [show (RE r P (.ptr v) bu (WW b0 r l2 (t2++[some (.dk [] [])]))).mu.length=n+2 from by show (WW b0 r l2 (t2++[some (.dk [] [])])).length=_; rw [← m7,YD,lt2]; rfl] at q
  rw [q,← m7 (t:=t2) (u:=[some (.dk [] [])])]
  show some (_,RE r P (.ptr v) bu ((WW b0 r l2 t2++[some (.dk [] [])])++[some (.lst [.ptr (n+1)])]))=_
  rw [Y0,m7]
  rfl
 let l4:FD:=[("plan",.ptr (r+1)),("boxes",.ptr n),("own",.ptr (n+2)),("budget",.int bu)]
 let l5:FD:=[("plan",.ptr (r+1)),("boxes",.ptr n),("own",.ptr (n+2)),("budget",.int bu),("word",.str "done")]
 have s4:fX "Running" "budget" (aa 0) (aa 3) (RE r P (.ptr v) bu (WW b0 r l3 t3))=some (.nx (RE r P (.ptr v) bu (WW b0 r l4 t3))):=Ca (y:=.sh (.int bu)) hr rfl rfl (show (3:Nat)<1000 from by decide) rfl
 have s5:fX "Running" "word" (aa 0) (eC (.str "done")) (RE r P (.ptr v) bu (WW b0 r l4 t3))=some (.nx (RE r P (.ptr v) bu (WW b0 r l5 t3))):=Ca (y:=.sh (.str "done")) hr rfl rfl (show (4:Nat)<1000 from by decide) rfl
 have lt3:∀ l,(WW b0 r l t3).length=n+3:=fun l=>by rw [sJ]; simp [t3,t2,n]; omega
 let t4:Mu:=t3++[some (.lst [])]
 let l6:FD:=[("plan",.ptr (r+1)),("boxes",.ptr n),("own",.ptr (n+2)),("budget",.int bu),("word",.str "done"),("moments",.ptr (n+3))]
 have s6:fX "Running" "moments" (aa 0) (dC (bW ao)) (RE r P (.ptr v) bu (WW b0 r l5 t3))=some (.nx (RE r P (.ptr v) bu (WW b0 r l6 t4))):=by
  refine Ca (y:=.sh (.ptr (n+3))) (t':=t4) hr ?_ rfl (show (5:Nat)<1000 from by decide) rfl
  have q:=lF (f:=bW ao) (p:=.lst []) (ρ:=RE r P (.ptr v) bu (WW b0 r l5 t3)) rfl
  rw [show (RE r P (.ptr v) bu (WW b0 r l5 t3)).mu.length=n+3 from lt3 l5] at q
  rw [q,← m7 (t:=t3) (u:=[some (.lst [])])]
 have lt4:∀ l,(WW b0 r l t4).length=n+4:=fun l=>by rw [sJ]; simp [t4,t3,t2,n]; omega
 let t5:Mu:=t4++[some (.lst [])]
 let l7:FD:=[("plan",.ptr (r+1)),("boxes",.ptr n),("own",.ptr (n+2)),("budget",.int bu),("word",.str "done"),("moments",.ptr (n+3)),("due",.ptr (n+4))]
 have s7:fX "Running" "due" (aa 0) (dC (bW ao)) (RE r P (.ptr v) bu (WW b0 r l6 t4))=some (.nx (RE r P (.ptr v) bu (WW b0 r l7 t5))):=by
  refine Ca (y:=.sh (.ptr (n+4))) (t':=t5) hr ?_ rfl (show (6:Nat)<1000 from by decide) rfl
  have q:=lF (f:=bW ao) (p:=.lst []) (ρ:=RE r P (.ptr v) bu (WW b0 r l6 t4)) rfl
  rw [show (RE r P (.ptr v) bu (WW b0 r l6 t4)).mu.length=n+4 from lt4 l6] at q
  rw [q,← m7 (t:=t4) (u:=[some (.lst [])])]
 let I:Ix:=⟨r,r+1,n,n+1,n+2,n+3,n+4⟩
 have et:t5=t++[some (.dk (bL B) ps),some (.dk [] []),some (.lst [.ptr (n+1)]),some (.lst []),some (.lst [])]:=by simp [t5,t4,t3,t2]
 have at5:∀ i:Nat,(WW b0 r l7 t5)[n+i]?=[some (PV.dk (bL B) ps),some (.dk [] []),some (.lst [.ptr (n+1)]),some (.lst []),some (.lst [])][i]?:=fun i=>by
  rw [show n+i=b0.length+(t.length+i) from by simp only [n]; omega,Kp,et,YL (by omega)]
  congr 1
  omega
 have S:RS (WW b0 r l7 t5) I bu (PO rs) B [] []:=by
  refine ⟨by show r<r+1; omega,by show r+1<n; simp only [n]; omega,by show n<n+1; omega,by show n+1<n+2; omega,by show n+2<n+3; omega,by show n+3<n+4; omega,Wn hr,?_,⟨ps,at5 0,?_⟩,at5 1,at5 2,at5 3,at5 4⟩
  . show (WW b0 r l7 t5)[r+1]?=_
    rw [G6 (by omega) (by omega)]
    exact h0
  . rw [sJ] at hc
    refine (hc.lo (lo':=r+1+1) (by rw [sJ]; omega)).frame fun c c1 c2=>?_
    have c1':r+1+1<=c:=c1
    by_cases hcb:c<b0.length
    . rw [G6 hcb (by omega),G6 hcb (by omega)]
    . obtain ⟨i,rfl⟩:∃ i,c=b0.length+i:=⟨c-b0.length,by omega⟩
      rw [Kp,Kp,et,Y9 (by have:b0.length+i<b0.length+t.length:=c2; omega)]
 obtain ⟨mu',el,S',len',fr'⟩:=Ko S hl
 refine ⟨mu',I,?_,rfl,S',?_,fun c hc=>?_⟩
 . refine gH (ρ:=RE r P (.ptr v) bu mu') (aB s1 (aB s2 (aB s3 (aB s4 (aB s5 (aB s6 (aB s7 (jG (l:=.sh .non) ?_))))))))
   exact lH (I:=I) S.hr (by decide +kernel) (ls:=[.sh (.str "main")]) (mu1:=WW b0 r l7 t5) rfl rfl el
 . rw [len',sJ,et]
   simp [I,n]
   omega
 . have hnd:n=b0.length+t.length:=rfl
   rw [fr' c (by show c≠n+4; omega),G6 (by omega) (by omega),fr c hc]
def Q4 (s:Int):BV->Prop
 | .n i=>s=0/\In i
 | .l is=>s=is.length/\s≠0/\is.length<=8/\∀ i∈is,In i
def qj:List (Str×Int)->Bs->Prop
 | [],[]=>True
 | (x,s)::D,(y,v)::B=>x=y/\Q4 s v/\qj D B
 | _,_=>False
theorem qj.names:∀ {D:List (Str×Int)} {B:Bs},qj D B->D.map (·.1)=B.map (·.1)
 | [],[],_=>rfl
 | (x,s)::D,(y,v)::B,h=>by rw [YT,YT,qj.names h.2.2,show (x,s).1=(y,v).1 from h.1]
 | [],_::_,h=>h.elim
 | _::_,[],h=>h.elim
theorem Jg {i:Int} {mu:Mu} (h:In i):gP [.int i] mu=some (.sh (.bl true),mu):=by
 let E:Ev:=⟨[zI i],mu⟩
 have h1:jC "int" (aa 0) E=some (.sh (.bl true),E):=tB (p:=.int i) rfl rfl rfl
 have h2:wK (jC "bool" (aa 0)) E=some (.sh (.bl true),E):=by
  unfold wK
  rw [show jC "bool" (aa 0) E=some (.sh (.bl false),E) from tB (p:=.int i) rfl rfl rfl,Yu]
  rfl
 have h3:nu uB sZ (eC (.int 0)) (aa 0) (eC qT) E=some (.sh (.bl true),E):=by
  unfold nu
  rw [show eC (.int 0) E=some (.sh (.int 0),E) from rfl,Yu,show aa 0 E=some (.sh (.int i),E) from rfl,Yu]
  dsimp only
  rw [show uB (Lc.sh (PV.int 0)).pv (Lc.sh (PV.int i)).pv=zS (.bl (decide ((0:Int)<=i))) from rfl,aa3 h.1]
  show some (Lc.sh (.bl (decide (i<1000000000000))),E)=_
  rw [aa3 h.2]
 have an:∀ (f g:EF),f E=some (.sh (.bl true),E)->g E=some (.sh (.bl true),E)->lL f g E=some (.sh (.bl true),E):=fun f g hf hg=>by
  unfold lL
  rw [hf,Yu]
  exact hg
 exact bj (ρ:=E) (b8 (an _ _ h1 (an _ _ h2 h3)))
theorem Qh {s:Int} {v:BV} {mu:Mu} (h:Q4 s v):uL [.int s,v.pv] mu=some (.sh (.bl true),mu):=by
 let E:Ev:=⟨[zI s,zS v.pv],mu⟩
 cases v with
 | n i=>
  obtain ⟨rfl,hi⟩:=h
  exact bj (ρ:=E) (gn ((dB (jx (a:=0) (ρ1:=E) rfl (by decide))).trans (b8 (aY (ls:=[.sh (.int i)]) (ρ1:=E) rfl rfl rfl rfl (Jg hi)))))
 | l is=>
  obtain ⟨hs,h0,h8,hi⟩:=h
  have ec:=je (b:=aJ 0) (te:=aG gP (aj (aa 0) ao)) (mu:=mu) (fun ρ=>∃ o,ρ=⟨[o],mu⟩) (fun ρ ⟨o,e⟩=>by rw [e]) (fun _=>.bl true) (xs:=is.map .int) (ρ:=⟨[none],mu⟩) ⟨none,rfl⟩ (by simp; omega) (by
   rintro p hp ρ ⟨o,rfl⟩
   obtain ⟨i,hi',rfl⟩:=YZ.mp hp
   exact ⟨⟨[zI i],mu⟩,rfl,.sh (.bl true),⟨[zI i],mu⟩,aY (ls:=[.sh (.int i)]) (ρ1:=⟨[zI i],mu⟩) rfl rfl rfl rfl (Jg (hi i hi')),rfl,_,rfl⟩) (by
   rintro p hp ρ ρ1 ⟨o,rfl⟩ e
   cases e
   exact ⟨_,rfl⟩)
  have e2:dq (gC (aa 1) du) 1 [] (aJ 0) dN (aG gP (aj (aa 0) ao)) E=some (.own (.lst ((is.map PV.int).map fun _=>.bl true)),E):=jm (f:=gC (aa 1) du) (m:=1) (ixs:=[]) (ρ:=E) (ρ1:=E) (xs:=is.map .int) rfl ec
  have bo:∀ ws:List PV,boolsOf (ws.map fun _=>PV.bl true)=some (ws.map fun _=>true):=fun ws=>by
   induction ws with
   | nil=>rfl
   | cons w ws ih=>
    show (boolsOf (ws.map fun _=>PV.bl true)).map _=_
    rw [ih]
    rfl
  have ba:∀ ws:List PV,(ws.map fun _=>true).all id=true:=fun ws=>by
   induction ws with
   | nil=>rfl
   | cons w ws ih=>exact ih
  have h3:eB all1 (aj (dq (gC (aa 1) du) 1 [] (aJ 0) dN (aG gP (aj (aa 0) ao))) ao) E=some (.sh (.bl true),E):=kE (ls:=[.own (.lst ((is.map PV.int).map fun _=>.bl true))]) (aC e2 rfl) rfl (by show (boolsOf ((is.map PV.int).map fun _=>PV.bl true)).map _=_; rw [bo,Z4,ba])
  have h2:aq eqP (eB cF (aj (aa 1) ao)) (aa 0) E=some (.sh (.bl true),E):=by
   refine bO (kE (ls:=[.sh (.lst (is.map .int))]) rfl rfl rfl) rfl rfl rfl ?_
   show some (Lc.sh (.bl ((((is.map PV.int).length:Nat):Int)==s)))=_
   rw [Yw,← hs,aa5]
  have an:∀ (f g:EF),f E=some (.sh (.bl true),E)->g E=some (.sh (.bl true),E)->lL f g E=some (.sh (.bl true),E):=fun f g hf hg=>by
   unfold lL
   rw [hf,Yu]
   exact hg
  exact bj (ρ:=E) (aB (ρ':=E) ((bG (jx (a:=s) (ρ1:=E) rfl (aa4.mpr h0))).trans rfl) (b8 (an _ _ (tB (p:=.lst (is.map .int)) rfl rfl rfl) (an _ _ h2 h3))))
theorem yx {P V:PV} {mu:Mu}:∀ (B:Bs) (D:List (Str×Int)) (l2 l3 l4:Option Lc),qj D B->∃ p2 p3 p4,iT (fP 2 (aP (aJ 2) (aP (aJ 3) fO))) (aH (aL 4 (aF (aa 2) (eC (.int 0)))) (bN (jM (tT (aG uL (aj (aF (aa 2) (eC (.int 1))) (aj (aa 3) ao))) jA)) tD bY)) (j0 (dcl D) (gf B)) (FE P V l2 l3 l4 mu)=some (.nx (FE P V p2 p3 p4 mu))
 | [],[],l2,l3,l4,_=>⟨l2,l3,l4,rfl⟩
 | (y,v)::B,(x,s)::D,l2,l3,l4,h=>by
  let a:Option Lc:=zS (.tup [.str x,.int s,.non])
  let b:Option Lc:=zS v.pv
  obtain ⟨p2,p3,p4,e⟩:=yx (P:=P) (V:=V) (mu:=mu) B D a b (zT x) h.2.2
  have t:jM (tT (aG uL (aj (aF (aa 2) (eC (.int 1))) (aj (aa 3) ao))) jA) (FE P V a b (zT x) mu)=some (false,FE P V a b (zT x) mu):=uF (b:=true) (d7 (aY (ls:=[.sh (.int s),.sh v.pv]) (ρ1:=FE P V a b (zT x) mu) rfl rfl rfl rfl (Qh h.2.1)) rfl rfl)
  exact ⟨p2,p3,p4,gB (ρ1:=FE P V a b l4 mu) (ρ2:=FE P V a b (zT x) mu) rfl (aB (ρ':=FE P V a b (zT x) mu) rfl ((bG t).trans rfl)) e⟩
 | [],_::_,_,_,_,h=>h.elim
 | _::_,[],_,_,_,h=>h.elim
theorem qj.len:∀ {D:List (Str×Int)} {B:Bs},qj D B->D.length=B.length:=fun h=>by
 have:=congrArg List.length h.names
 rwa [Yw,Yw] at this
theorem refuse_eq {gr R3 R4:PV} {D:List (Str×Int)} {B:Bs} {mu:Mu} (h:qj D B):lB [.tup [.lst (dcl D),gr,R3,R4],.lst (gf B)] mu=some (.sh .non,mu):=by
 let P:PV:=.tup [.lst (dcl D),gr,R3,R4]
 let E:Ev:=FE P (.lst (gf B)) none none none mu
 obtain ⟨p2,p3,p4,e⟩:=yx (P:=P) (V:=.lst (gf B)) (mu:=mu) B D none none none h
 have t1:jM (tT (jC "list" (aa 1)) jA) E=some (false,E):=uF (b:=true) (d7 (tB (p:=.lst (gf B)) rfl rfl rfl) rfl rfl)
 have t2:tT (aq pK (eB cF (aj (aa 1) ao)) (eB cF (aj (aF (aa 0) (eC (.int 0))) ao))) aU E=some (false,E):=by
  refine d7 (l:=.sh (.bl false)) (bO (kE (ls:=[.sh (.lst (gf B))]) rfl rfl rfl) rfl (kE (ls:=[.sh (.lst (dcl D))]) rfl rfl rfl) rfl ?_) rfl rfl
  show some (Lc.sh (.bl (!((((gf B).length:Nat):Int)==(((dcl D).length:Nat):Int)))))=_
  rw [Yw,Yw,h.len,aa5]
  rfl
 refine gH (ρ:=FE P (.lst (gf B)) p2 p3 p4 mu) (aB (ρ':=E) ((bG (zW t1 t2)).trans rfl) (gR (xs:=j0 (dcl D) (gf B)) (ρ1:=E) rfl e))
noncomputable def dY (B:Bs) (rs:List Rw):List cD×Bs:=if rs=[] then ([],B) else lQ 0 B rs
theorem Wo {mu:Mu} {v:BV}:∀ k,aW mu k v.pv=v.pv:=fun k=>by
 cases v with
 | n i=>exact BW k
 | l is=>exact yZ k
theorem Td {mu:Mu} {B:Bs} {k:Nat}:aW mu (k+1) (.lst (gf B))=.lst (gf B):=by
 show PV.lst ((gf B).map (aW mu k))=_
 rw [Zc]
 exact congrArg PV.lst (Zn fun q _=>Wo k)
theorem Te {mu:Mu} {D:List (Str×Int)} {k:Nat}:aW mu (k+3) (.lst (dcl D))=.lst (dcl D):=by
 show PV.lst ((dcl D).map (aW mu (k+2)))=_
 rw [Zc]
 exact congrArg PV.lst (Zn fun q _=>rfl)
theorem oZ {mu:Mu} {n k:Nat} {p:PV} (h:mu[n]?=some (some p)):aW mu (k+1) (.ptr n)=aW mu k p:=by
 show (match mu[n]? with | some (some p)=>aW mu k p | _=>.ptr n)=_
 rw [h]
section
variable {gr:PV} {rs:List Rw} {B:Bs} {D:List (Str×Int)} {v:Nat} {bu:Int} {mu:Mu}
structure Pr (D:List (Str×Int)) (B:Bs) (rs:List Rw):Prop where
 su:qj D B
 g:BG B
 l4:rs.length<=400
 ok:∀ r∈rs,r.ok B
theorem Tf {k:Nat} {r:Rw} (h:rs[k]?=some r):(eX rs)[0+k]?=some (.tup [.str "main",.non,.int 0,r.pv]):=by
 unfold eX
 rw [aaF,Y7,h]
 rfl
theorem Jh (H:Pr D B rs) (hv:mu[v]?=some (some (.lst (gf B)))):∃ mu' I,jJ [fD (.lst (dcl D)) gr rs,.ptr v,.int bu] mu=some (.sh (.ptr I.r),mu')/\Gd mu' I bu (PO rs) (dY B rs).2 (dY B rs).1 []/\I.r=mu.length/\∀ c,c<mu.length->mu'[c]?=mu[c]?:=by
 let P:PV:=fD (.lst (dcl D)) gr rs
 let E0:Ev:=⟨[zS P,zS (.ptr v),zI bu,none],mu⟩
 have s1:jd (rQ (aG lB (aj (aa 0) (aj (aa 1) ao)))) E0=some (.nx E0):=by
  refine jG (l:=.sh .non) (Gg (ρ1:=E0.peekD) (aY (ls:=[.sh (aW mu 40 P),.sh (aW mu 40 (.ptr v))]) (ps:=[.tup [.lst (dcl D),aW mu 39 gr,aW mu 39 (.lst []),aW mu 39 (.lst (rs.map Rw.pv))],.lst (gf B)]) (ρ1:=E0.peekD) (aC rfl (aC rfl rfl)) ?_ rfl rfl (refuse_eq H.su)) rfl)
  show [PV.tup [aW mu 39 (.lst (dcl D)),aW mu 39 gr,aW mu 39 (.lst []),aW mu 39 (.lst (rs.map Rw.pv))],aW mu 40 (.ptr v)]=_
  rw [Te,oZ hv,Td]
 have h4:=H.l4
 obtain ⟨mu1,I,ei,hI,S,hlen,fr⟩:=Tc (gr:=gr) (rs:=rs) (bu:=bu) H.su.names H.g.nd H.g.l8 (by omega) hv
 have s2:aL 3 (tE "Running" fG (aj (aa 0) (aj (aa 1) (aj (aa 2) ao)))) E0=some (.nx (GE P (.ptr v) (.int bu) I mu1)):=by
  have mk:=Iz (C := "Running") (g:=fG) (a:=aj (aa 0) (aj (aa 1) (aj (aa 2) ao))) (ρ:=E0) (ρ1:=E0) (ls:=[.sh P,.sh (.ptr v),.sh (.int bu)]) (mu2:=mu1) rfl rfl ei
  refine bA mk ?_ ?_
  . exact rfl
  . rw [← hI]
    rfl
 have G1:Gd mu1 I bu (PO rs) B [] (if rs=[] then [] else v6 0 rs):=⟨[],S,rfl⟩
 obtain ⟨mu',ew,g,f⟩:∃ mu',rE 1000 stC Wj (GE P (.ptr v) (.int bu) I mu1)=some (.nx (GE P (.ptr v) (.int bu) I mu'))/\Gd mu' I bu (PO rs) (dY B rs).2 (dY B rs).1 []/\Fr I mu1 mu':=by
  unfold dY
  by_cases h:rs=[]
  . rw [aaZ h] at S G1
    rw [aaZ h]
    exact ⟨mu1,Ja (Eh S),G1,Fr.refl⟩
  . rw [aa0 h] at G1
    rw [aa0 h]
    obtain ⟨mu',e,g,f⟩:=G5 (p:=P) (v:=.ptr v) (b:=.int bu) rs 1000 0 B [] mu1 (by omega) (by show 0+_+2<1000; omega) H.g H.ok (fun i r hr=>⟨_,_,_,Tf hr⟩) G1
    exact ⟨mu',e,g,f⟩
 refine ⟨mu',I,bj (ρ:=⟨[zS P,zS (.ptr v),zI bu,none],mu'⟩) (aB s1 (aB s2 (aB ew rfl))),g,hI,fun c hc=>?_⟩
 rw [f.2 c (.inl (by omega)) (by rw [hlen]; have:=S.l1; have:=S.l2; have:=S.l3; have:=S.l4; have:=S.l5; have:=S.l6; omega),fr c hc]
noncomputable def oh (k:Int) (e:jK):PV:=.tup [.int k,.str e.1,.int e.2.1,.int e.2.2]
noncomputable def eY:List cD->List PV
 | []=>[]
 | m::ms=>m.2.2.map (oh m.1)++eY ms
noncomputable def tW:List cD->Nat
 | []=>0
 | m::ms=>m.2.2.length+tW ms
theorem zf:∀ {ms:List cD},(eY ms).length=tW ms
 | []=>rfl
 | m::ms=>by
  show (m.2.2.map (oh m.1)++eY ms).length=m.2.2.length+tW ms
  rw [YD,Yw,zf]
noncomputable def Yp (k:Int):PV->PV
 | .tup [a,b,c]=>.tup [.int k,a,b,c]
 | p=>p
noncomputable abbrev v7 (l0 l1 l2 l3 l4:Option Lc) (mu:Mu):Ev:=⟨[l0,l1,l2,l3,l4],mu⟩
theorem Ji {k:Int} {es:List jK} {mu:Mu} {o:List (Option Lc)} (hl:es.length<=1000):qD (fP 3 (aP (aJ 0) (aP (aJ 1) (aP (aJ 2) fO)))) dN (bh (aj (aa 3) (aj (aa 0) (aj (aa 1) (aj (aa 2) ao))))) (es.map jK.pv) ⟨[none,none,none,zI k],mu⟩ []=some (es.map (oh k),mu):=by
 have ec:=je (b:=fP 3 (aP (aJ 0) (aP (aJ 1) (aP (aJ 2) fO)))) (te:=bh (aj (aa 3) (aj (aa 0) (aj (aa 1) (aj (aa 2) ao))))) (mu:=mu) (fun ρ=>∃ a b c,ρ=⟨[a,b,c,zI k],mu⟩) (fun ρ ⟨a,b,c,e⟩=>by rw [e]) (Yp k) (xs:=es.map jK.pv) (ρ:=⟨[none,none,none,zI k],mu⟩) ⟨_,_,_,rfl⟩ (by rw [Yw]; omega) (by
  rintro p hp ρ ⟨a,b,c,rfl⟩
  obtain ⟨e,_,rfl⟩:=YZ.mp hp
  exact ⟨⟨[zT e.1,zI e.2.1,zI e.2.2,zI k],mu⟩,rfl,.sh (oh k e),⟨[zT e.1,zI e.2.1,zI e.2.2,zI k],mu⟩,rfl,rfl,_,_,_,rfl⟩) (by
  rintro p hp ρ ρ1 ⟨a,b,c,rfl⟩ e
  obtain ⟨q,_,rfl⟩:=YZ.mp hp
  cases e
  exact ⟨_,_,_,rfl⟩)
 rw [ec,Zc]
 rfl
theorem Jj {l0:Option Lc}:∀ (ms:List cD) (M:List PV) (lo:Nat) (mu:Mu) (ws:List PV) (l2 l3 l4:Option Lc),MO mu lo M ms->ws.length+tW ms<=1000->∃ mu' p2 p3 p4,iT (fP 3 (aP (aJ 2) (aP (aJ 3) (aP (aJ 4) fO))))
 (nq 1 (dq (gC (nH (aa 4)) du) 3 [2] (fP 3 (aP (aJ 0) (aP (aJ 1) (aP (aJ 2) fO)))) dN (bh (aj (aa 3) (aj (aa 0) (aj (aa 1) (aj (aa 2) ao))))))) M (v7 l0 (zO ws) l2 l3 l4 mu)=some (.nx (v7 l0 (zO (ws++eY ms)) p2 p3 p4 mu'))/\mu'.length=mu.length/\∀ c,c<=lo->mu'[c]?=mu[c]?
 | [],M,lo,mu,ws,l2,l3,l4,h,_=>by
  have h:M=[]:=h
  subst h
  exact ⟨mu,l2,l3,l4,by rw [show eY []=[] from rfl,YS]; rfl,rfl,fun _ _=>rfl⟩
 | m::ms,M,lo,mu,ws,l2,l3,l4,⟨c,rest,e,h1,h2,h⟩,hl=>by
  subst e
  have hl':ws.length+(m.2.2.length+tW ms)<=1000:=hl
  let K:Option Lc:=zI m.1
  let T:Option Lc:=zI m.2.1
  let C:Option Lc:=zS (.ptr c)
  let W:Option Lc:=zO ws
  have h':MO (mu.set c none) c rest ms:=h.frame fun d q _=>Yz (by omega)
  obtain ⟨mu',p2,p3,p4,el,ln,fr⟩:=Jj (l0:=l0) ms rest c (mu.set c none) (ws++m.2.2.map (oh m.1)) K T C h' (by rw [YD,Yw]; omega)
  have em:gC (nH (aa 4)) du (v7 l0 W K T C mu)=some (m.2.2.map jK.pv,v7 l0 W K T C (mu.set c none)):=pN (G3 (ρ1:=v7 l0 W K T C mu) (x:=.sh (.ptr c)) rfl rfl h2) rfl
  have ec:=jm (f:=gC (nH (aa 4)) du) (m:=3) (ixs:=[2]) em (Ji (k:=m.1) (es:=m.2.2) (mu:=mu.set c none) (o:=[]) (by omega))
  refine ⟨mu',p2,p3,p4,gB (ρ1:=v7 l0 W K T C mu) (ρ2:=v7 l0 (zO (ws++m.2.2.map (oh m.1))) K T C (mu.set c none)) rfl (FT (ws0:=ws) (ws:=ws) (ps:=m.2.2.map (oh m.1)) rfl ec rfl rfl (by rw [Yw]; omega) rfl) ?_,by rw [ln,YX],fun d hd=>?_⟩
  . rw [show eY (m::ms)=m.2.2.map (oh m.1)++eY ms from rfl,← Y0]
    exact el
  . rw [fr d (by omega),Yz (by omega)]
theorem Nq {M:List PV} {ms:List cD} {m lo:Nat} (hm:mu[m]?=some (some (.lst M))) (hlo:m<=lo) (h:MO mu lo M ms) (hl:tW ms<=1000):∃ mu',pG [.ptr m] mu=some (.own (.lst (eY ms)),mu')/\mu'.length=mu.length/\∀ c,c<=lo->c≠m->mu'[c]?=mu[c]?:=by
 have h':MO (mu.set m none) lo M ms:=h.frame fun d q _=>Yz (by omega)
 obtain ⟨mu',p2,p3,p4,el,ln,fr⟩:=Jj (l0:=zS (.ptr m)) ms M lo (mu.set m none) [] none none none h' (by simpa using hl)
 have em:gC (nH (aa 0)) du (v7 (zS (.ptr m)) (zO []) none none none mu)=some (M,v7 (zS (.ptr m)) (zO []) none none none (mu.set m none)):=pN (G3 (ρ1:=v7 (zS (.ptr m)) (zO []) none none none mu) (x:=.sh (.ptr m)) rfl rfl hm) rfl
 exact ⟨mu',bj (ρ:=v7 (zS (.ptr m)) none p2 p3 p4 mu') (aB (ρ':=v7 (zS (.ptr m)) (zO []) none none none mu) rfl (aB (gR em el) rfl)),by rw [ln,YX],fun c hc hn=>by rw [fr c hc,Yz (Ne.symm hn)]⟩
theorem Cd:∀ {B:Bs} {ps:List PV},(B.map (·.1)).Nodup->ps.length=B.length->(B.map fun q=>(cH ((bL B).zip ps) (.inr q.1)).getD .non)=ps
 | [],[],_,_=>rfl
 | [],_::_,_,h=>by simp at h
 | _::_,[],_,h=>by simp at h
 | (y,v)::B,p::ps,nd,h=>by
  obtain ⟨hy,nd'⟩:=Zg.mp nd
  have ev:∀ x,cH ((bL ((y,v)::B)).zip (p::ps)) (.inr x)=if (Sum.inr y:Key)=.inr x then some p else cH ((bL B).zip ps) (.inr x):=fun x=>rfl
  show (cH ((bL ((y,v)::B)).zip (p::ps)) (.inr y)).getD .non::(B.map fun q=>(cH ((bL ((y,v)::B)).zip (p::ps)) (.inr q.1)).getD .non)=_
  rw [ev,aaZ rfl]
  refine c2 rfl (Eq.trans (Zn fun q hq=>?_) (Cd nd' (by simpa using h)))
  rw [ev,aa0 fun e=>hy (by rw [show y=q.1 from Sum.inr.inj e]; exact YZ.mpr ⟨q,hq,rfl⟩)]
theorem Kq {R3 R4:PV} {C:Bs} {ps:List PV} {b:Nat} (hD:D.map (·.1)=C.map (·.1)) (nd:(C.map (·.1)).Nodup) (h1:C.length<=100) (hb:mu[b]?=some (some (.dk (bL C) ps))) (hl:ps.length=C.length):tM [.tup [.lst (dcl D),gr,R3,R4],.ptr b] mu=some (.own (.lst ps),mu):=by
 let P:PV:=.tup [.lst (dcl D),gr,R3,R4]
 let E:Ev:=⟨[zS P,zS (.ptr b)],mu⟩
 let f:PV->PV:=fun p=>match p with
  | .tup (.str x::_)=>(cH ((bL C).zip ps) (.inr x)).getD .non
  | _=>.non
 have hin:∀ x∈D.map (·.1),∃ p,cH ((bL C).zip ps) (.inr x)=some p:=fun x hx=>by
  rw [hD] at hx
  cases h:cH ((bL C).zip ps) (.inr x) with
  | some p=>exact ⟨p,rfl⟩
  | none=>
   exfalso
   have key:∀ (ks:List Key) (qs:List PV),qs.length=ks.length->(.inr x:Key)∈ks->cH (ks.zip qs) (.inr x)≠none:=fun ks=>by
    induction ks with
    | nil=>intro qs _ h; cases h
    | cons k ks ih=>
     intro qs hq hk
     cases qs with
     | nil=>simp at hq
     | cons q qs=>
      show (if k=.inr x then some q else cH (ks.zip qs) (.inr x))≠none
      split
      . exact fun e=>by cases e
      . rename_i hne
        rcases YC.mp hk with e | e
        . exact absurd e.symm hne
        . exact ih qs (by simpa using hq) e
   obtain ⟨q,hq,e⟩:=YZ.mp hx
   exact key _ _ (by rw [Yw]; exact hl) (YZ.mpr ⟨q,hq,by rw [← e]⟩) h
 have ec:=je (b:=fP 3 (aP (aJ 0) (aP (aJ 1) (aP (aJ 2) fO)))) (te:=jO (aa 3) (aa 0)) (mu:=mu) (fun ρ=>∃ a b' c,ρ=⟨[a,b',c,zS (.ptr b)],mu⟩) (fun ρ ⟨a,b',c,e⟩=>by rw [e]) f (xs:=dcl D) (ρ:=⟨[none,none,none,zS (.ptr b)],mu⟩) ⟨_,_,_,rfl⟩ (by rw [Yw,← Yw (f:=(·.1)),hD,Yw]; omega) (by
  rintro p hp ρ ⟨a,b',c,rfl⟩
  obtain ⟨q,hq,rfl⟩:=YZ.mp hp
  obtain ⟨w,hw⟩:=hin q.1 (YZ.mpr ⟨q,hq,rfl⟩)
  refine ⟨⟨[zT q.1,zI q.2,some (.sh .non),zS (.ptr b)],mu⟩,rfl,.sh w,⟨[zT q.1,zI q.2,some (.sh .non),zS (.ptr b)],mu⟩,Av (x:=.sh (.ptr b)) (y:=.sh (.str q.1)) (k:=.inr q.1) rfl rfl rfl rfl hb hw,?_,_,_,_,rfl⟩
  show w=(cH ((bL C).zip ps) (.inr q.1)).getD .non
  rw [hw]
  rfl) (by
  rintro p hp ρ ρ1 ⟨a,b',c,rfl⟩ e
  obtain ⟨q,_,rfl⟩:=YZ.mp hp
  cases e
  exact ⟨_,_,_,rfl⟩)
 have ef:(dcl D).map f=ps:=by
  rw [Zc]
  have e1:D.map (f ∘ fun q=>PV.tup [.str q.1,.int q.2,.non])=(D.map (·.1)).map fun x=>(cH ((bL C).zip ps) (.inr x)).getD .non:=by rw [Zc]; rfl
  rw [e1,hD,Zc]
  exact Cd nd hl
 rw [ef] at ec
 have e2:=jm (f:=gC (aF (aa 0) (eC (.int 0))) du) (m:=3) (ixs:=[1]) (ρ:=E) (ρ1:=E) (pN (l:=.sh (.lst (dcl D))) rfl rfl) ec
 exact bj (ρ:=E) (b8 e2)
end
section
variable {gr:PV} {rs:List Rw} {B:Bs} {D:List (Str×Int)} {v:Nat} {bu:Int} {mu:Mu}
theorem G7:∀ {k:Nat} {B:Bs} {rs:List Rw},BG B->(∀ r∈rs,r.ok B)->(lQ k B rs).2.map (·.1)=B.map (·.1)/\(lQ k B rs).2.length=B.length/\tW (lQ k B rs).1<=rs.length
 | k,B,[],_,_=>⟨rfl,rfl,Yy _⟩
 | k,B,r::rs,hB,hr=>by
  obtain ⟨h1,h2⟩:=Aw hB (hr r Yv)
  obtain ⟨g1,g2,g3⟩:=G7 (k:=k+1) h1 fun q hq=>h2.row (hr q (YG _ hq))
  have e:(jo B r).2.map (·.1)=B.map (·.1)/\(jo B r).1.length<=1:=by
   cases r with
   | asg o x e=>exact ⟨Ar,Yy _⟩
   | put x p e=>
    show (if ev B p<(lstAt B x).length then ([(x,ev B p,ev B e)],setB B x (.l ((lstAt B x).set (ev B p).toNat (ev B e)))) else ([],B)).2.map (·.1)=_/\(if ev B p<(lstAt B x).length then ([(x,ev B p,ev B e)],setB B x (.l ((lstAt B x).set (ev B p).toNat (ev B e)))) else ([],B)).1.length<=1
    split
    . exact ⟨Ar,Yy _⟩
    . exact ⟨rfl,ZC _⟩
  refine ⟨g1.trans e.1,?_,?_⟩
  . have:=congrArg List.length (g1.trans e.1)
    rwa [Yw,Yw] at this
  . show 0+((jo B r).1.length+tW (lQ (k+1) (jo B r).2 rs).1)<=rs.length+1
    have:=e.2
    omega
theorem Ce (H:Pr D B rs):(dY B rs).2.map (·.1)=B.map (·.1)/\(dY B rs).2.length=B.length/\tW (dY B rs).1<=rs.length/\BG (dY B rs).2:=by
 unfold dY
 split
 . exact ⟨rfl,rfl,ZC _,H.g⟩
 . obtain ⟨a,b,c⟩:=G7 (k:=0) H.g H.ok
   exact ⟨a,b,c,IV H.g H.ok⟩
noncomputable abbrev Kr (B:Bs) (rs:List Rw):PV:=.tup [.str "done",.lst (eY (dY B rs).1),.lst (gf (dY B rs).2)]
theorem G8 {ms:List cD} {k:Nat}:(eY ms).map (aW mu (k+2))=eY ms:=by
 induction ms with
 | nil=>rfl
 | cons m ms ih=>
  show (m.2.2.map (oh m.1)++eY ms).map (aW mu (k+2))=m.2.2.map (oh m.1)++eY ms
  rw [Y6,ih,Zc]
  exact congrArg (·++eY ms) (Zn fun e _=>rfl)
theorem Nr (H:Pr D B rs) (hv:mu[v]?=some (some (.lst (gf B)))):∃ mu' q ps,vK [fD (.lst (dcl D)) gr rs,.ptr v,.int bu] mu=some (.sh (.tup [.str "done",.ptr q,.lst ps]),mu')/\(∀ m2:Mu,(∀ c,c<mu'.length->mu.length<=c->m2[c]?=mu'[c]?)->aW m2 40 (.tup [.str "done",.ptr q,.lst ps])=Kr B rs)/\mu.length<=q/\mu'[q]?=some (some (.lst (eY (dY B rs).1)))/\mu.length<=mu'.length/\∀ c,c<mu.length->mu'[c]?=mu[c]?:=by
 let P:PV:=fD (.lst (dcl D)) gr rs
 obtain ⟨mu1,I,eg,⟨M,S,Mo⟩,hI,fr⟩:=Jh (gr:=gr) (bu:=bu) H hv
 obtain ⟨nm,ln,ne,bg⟩:=Ce H
 obtain ⟨ps,hb,hc⟩:=S.hb
 have h4:=H.l4
 obtain ⟨mu2,er,len2,fr2⟩:=Nq S.hm (aas S.l6) Mo (by omega)
 have l1:=S.l1
 have l2:=S.l2
 have l3:=S.l3
 have l4:=S.l4
 have l5:=S.l5
 have l6:=S.l6
 let mu3:Mu:=mu2++[some (.lst (eY (dY B rs).1))]
 have hd1:=eV S.hd
 have a3:∀ c,c<=I.d->c≠I.m->mu3[c]?=mu1[c]?:=fun c h1 h2=>by
  show (mu2++[_])[c]?=_
  rw [m5 (by omega),fr2 c h1 h2]
 have hc3:CB mu3 I.b (I.p+1) (dY B rs).2 ps:=hc.frame fun c _ q=>a3 c (by omega) (by omega)
 let E:=fun mu=>(⟨[zS P,zS (.ptr v),zI bu,zS (.ptr I.r)],mu⟩:Ev)
 have s1:aL 3 (aG jJ (aj (aa 0) (aj (aa 1) (aj (aa 2) ao)))) ⟨[zS P,zS (.ptr v),zI bu,none],mu⟩=some (.nx (E mu1)):=bA (aY (ls:=[.sh P,.sh (.ptr v),.sh (.int bu)]) (ρ1:=⟨[zS P,zS (.ptr v),zI bu,none],mu⟩) rfl rfl rfl rfl eg) rfl rfl
 have c2':dC (aG pG (aj (dJ "Running" "moments" (aa 3)) ao)) (E mu1)=some (.sh (.ptr mu2.length),E mu3):=lF (ρ1:=E mu2) (aY (ls:=[.sh (.ptr I.m)]) (ρ1:=E mu1) (aC (gb rfl rfl S.hr rfl) rfl) rfl rfl rfl er)
 have hr3:mu3[I.r]?=some (some (cT "Running" (rF I bu))):=(a3 I.r (by omega) (by omega)).trans S.hr
 have c3':aG tM (aj (aa 0) (aj (dJ "Running" "boxes" (aa 3)) ao)) (E mu3)=some (.own (.lst ps),E mu3):=aY (ls:=[.sh P,.sh (.ptr I.b)]) (ρ1:=E mu3) (aC rfl (aC (gb rfl rfl hr3 rfl) rfl)) rfl rfl rfl (Kq (by rw [H.su.names,nm]) (by rw [nm]; exact H.g.nd) (by rw [ln]; exact H.g.l8) ((a3 I.b (by omega) (by omega)).trans hb) hc.len)
 have q3:mu3[mu2.length]?=some (some (.lst (eY (dY B rs).1))):=by
  show (mu2++[_])[mu2.length]?=_
  rw [YL (Yy _),Zz]
  rfl
 refine ⟨mu3,mu2.length,ps,bj (ρ:=E mu3) (aB s1 (b8 (fV (ls:=[.sh (.str "done"),.sh (.ptr mu2.length),.own (.lst ps)]) (aC (gb rfl rfl S.hr rfl) (aC c2' (aC c3' rfl))) rfl rfl))),fun m2 hm2=>?_,by omega,q3,by show _<=(mu2++[_]).length; rw [YD]; omega,fun c hc=>(a3 c (by omega) (by omega)).trans (fr c hc)⟩
 have hl3:mu3.length=mu2.length+1:=by show (mu2++[_]).length=_; rw [YD]; rfl
 have q2:m2[mu2.length]?=some (some (.lst (eY (dY B rs).1))):=(hm2 _ (by omega) (by omega)).trans q3
 have hc2:CB m2 I.b (I.p+1) (dY B rs).2 ps:=hc3.frame fun c c1 c2=>hm2 c (by omega) (by omega)
 show PV.tup [.str "done",aW m2 39 (.ptr mu2.length),.lst (ps.map (aW m2 38))]=_
 rw [oZ q2,hc2.res]
 show PV.tup [.str "done",.lst ((eY (dY B rs).1).map (aW m2 37)),_]=_
 rw [G8]
theorem Tg {es:List jK} {k:Nat}:aW mu (k+3) (evs es)=evs es:=by
 show PV.lst ((es.map jK.pv).map (aW mu (k+2)))=_
 rw [Zc]
 exact congrArg PV.lst (Zn fun e _=>rfl)
theorem MO.res {k:Nat}:∀ {lo:Nat} {M:List PV} {ms:List cD},MO mu lo M ms->M.map (aW mu (k+5))=ms.map cD.pv
 | lo,M,[],h=>by have h:M=[]:=h; subst h; rfl
 | lo,M,m::ms,⟨c,rest,e,h1,h2,h⟩=>by
  subst e
  refine c2 ?_ h.res
  show PV.tup [.int m.1,.int m.2.1,aW mu (k+4) (.ptr c)]=_
  rw [oZ h2,Tg]
  rfl
theorem Di (H:Pr D B rs) (hv:mu[v]?=some (some (.lst (gf B)))):∃ mu' n M,oY [fD (.lst (dcl D)) gr rs,.ptr v,.int bu] mu=some (.sh (.ptr n),mu')/\mu'[n]?=some (some (.lst M))/\MO mu' n M (dY B rs).1/\mu.length<=n/\∀ c,c<mu.length->mu'[c]?=mu[c]?:=by
 let P:PV:=fD (.lst (dcl D)) gr rs
 obtain ⟨mu1,I,eg,⟨M,S,Mo⟩,hI,fr⟩:=Jh (gr:=gr) (bu:=bu) H hv
 have l1:=S.l1
 have l2:=S.l2
 have l3:=S.l3
 have l4:=S.l4
 have l5:=S.l5
 have l6:=S.l6
 let E:=fun mu=>(⟨[zS P,zS (.ptr v),zI bu],mu⟩:Ev)
 have lowMO:∀ {lo lo':Nat} {M:List PV} {ms:List cD},lo'<=lo->MO mu1 lo M ms->MO mu1 lo' M ms:=fun {lo lo' M ms} h q=>by
  cases ms with
  | nil=>exact q
  | cons m ms=>
   obtain ⟨c,rest,e,h1,h2,h3⟩:=q
   exact ⟨c,rest,e,by omega,h2,h3⟩
 exact ⟨mu1,I.m,M,bj (ρ:=E mu1) (b8 (gb (x:=.sh (.ptr I.r)) (aY (ls:=[.sh P,.sh (.ptr v),.sh (.int bu)]) (ρ1:=E mu) rfl rfl rfl rfl eg) rfl S.hr rfl)),S.hm,lowMO (aas l6) Mo,by omega,fr⟩
end
mutual
noncomputable def nice:PV->Bool
 | .int _=>true
 | .str _=>true
 | .tup ps=>Ks ps
 | .lst ps=>Ks ps
 | _=>false
noncomputable def Ks:List PV->Bool
 | []=>true
 | p::ps=>nice p&&Ks ps
end
mutual
noncomputable def Yq:PV->Nat
 | .tup ps=>Qi ps+1
 | .lst ps=>Qi ps+1
 | _=>1
noncomputable def Qi:List PV->Nat
 | []=>0
 | p::ps=>max (Yq p) (Qi ps)
end
def qm:Nat->PV->Prop
 | 0,_=>False
 | _+1,.int _=>True
 | _+1,.str _=>True
 | n+1,.tup ps=>ps.length<=1000/\∀ p∈ps,qm n p
 | n+1,.lst ps=>ps.length<=1000/\∀ p∈ps,qm n p
 | _+1,_=>False
theorem Ay:∀ ws:List PV,boolsOf (ws.map fun _=>PV.bl true)=some (ws.map fun _=>true)
 | []=>rfl
 | w::ws=>by
  show (boolsOf (ws.map fun _=>PV.bl true)).map _=_
  rw [Ay ws]
  rfl
theorem G9:∀ ws:List PV,(ws.map fun _=>true).all id=true
 | []=>rfl
 | w::ws=>G9 ws
theorem Az {f g:EF} {E:Ev} {b:Bool} (hf:f E=some (.sh (.bl true),E)) (hg:g E=some (.sh (.bl b),E)):lL f g E=some (.sh (.bl b),E):=by
 unfold lL
 rw [hf,Yu]
 exact hg
theorem ou {f:EF} {ρ ρ1:Ev} {n:Nat} (h:f ρ=some (.sh (.int (n:Nat)),ρ1)) (hn:n<=100000):dm (aj f ao) ρ=some (cZ n,ρ1):=by
 unfold dm
 rw [aC (ls:=[]) h rfl,Yu]
 show (if _ then _ else _)=_
 rw [aaZ (by omega),show yK 0 ((n:Nat):Int).toNat=cZ n from by unfold yK; rw [ZR]; exact Zn fun i _=>by rw [Int.zero_add]]
theorem Dj {n:Nat} {X:PV} {ps:List PV} {mu:Mu} (k:Bool) (hX:X=vY k ps) (hl:ps.length<=1000) (ih:∀ p∈ps,∀ mu:Mu,cA n [p,p] mu=some (.sh (.bl true),mu)):cA (n+1) [X,X] mu=some (.sh (.bl true),mu):=by
 let E:Ev:=⟨[zS X,zS X],mu⟩
 have t1:tT (Px ["list", "tuple"] (aa 1)) jA E=some (true,E):=by
  subst hX
  cases k<;>exact d7 (l:=.sh (.bl true)) rfl rfl rfl
 have t2:mH (tT (aq pK (jC "list" (aa 0)) (jC "list" (aa 1))) aU) (tT (aq pK (jC "tuple" (aa 0)) (jC "tuple" (aa 1))) aU) E=some (false,E):=by
  subst hX
  cases k<;>exact zW (b:=false) (b2:=false) (d7 (l:=.sh (.bl false)) rfl rfl rfl) (d7 (l:=.sh (.bl false)) rfl rfl rfl)
 have ln:∀ i:Nat,i<2->eB cF (aj (aa i) ao) E=some (.sh (.int (ps.length:Nat)),E):=fun i hi=>by
  subst hX
  match i,hi with
  | 0,_=>cases k<;>rfl
  | 1,_=>cases k<;>rfl
 have e1:aq eqP (eB cF (aj (aa 0) ao)) (eB cF (aj (aa 1) ao)) E=some (.sh (.bl true),E):=bO (ln 0 (by decide)) rfl (ln 1 (by decide)) rfl (by show some (Lc.sh (.bl (((ps.length:Nat):Int)==((ps.length:Nat):Int))))=_; rw [aa5])
 have ix:∀ (i:Nat) (p:PV),ps[i]?=some p->wO X (.int (i:Nat))=zS p:=fun i p hp=>by
  subst hX
  cases k
  . show (gj ps (i:Nat)).map _=_
    rw [lG hp]
    rfl
  . show (gj ps (i:Nat)).map _=_
    rw [lG hp]
    rfl
 have np:∀ m,X≠.ptr m:=fun m h=>by
  subst hX
  cases k<;>cases h
 have ec:=je (b:=aJ 0) (te:=aG (cA n) (aj (aF (aa 1) (aa 0)) (aj (aF (aa 2) (aa 0)) ao))) (mu:=mu) (fun ρ=>∃ o,ρ=⟨[o,zS X,zS X],mu⟩) (fun ρ ⟨o,e⟩=>by rw [e]) (fun _=>.bl true) (xs:=cZ ps.length) (ρ:=⟨[none,zS X,zS X],mu⟩) ⟨none,rfl⟩ (by rw [Yw,ZJ]; omega) (by
  rintro p hp ρ ⟨o,rfl⟩
  obtain ⟨i,hi,rfl⟩:=YZ.mp hp
  have hi:=List.mem_range.mp hi
  have hp:=YQ hi
  refine ⟨⟨[zI (i:Nat),zS X,zS X],mu⟩,rfl,.sh (.bl true),⟨[zI (i:Nat),zS X,zS X],mu⟩,aY (ls:=[.sh ps[i],.sh ps[i]]) (ρ1:=⟨[zI (i:Nat),zS X,zS X],mu⟩) (aC (jf (l:=.sh X) (m:=.sh (.int (i:Nat))) rfl rfl rfl rfl np (ix i _ hp)) (aC (jf (l:=.sh X) (m:=.sh (.int (i:Nat))) rfl rfl rfl rfl np (ix i _ hp)) rfl)) rfl rfl rfl (ih _ (List.getElem_mem hi) mu),rfl,_,rfl⟩) (by
  rintro p hp ρ ρ1 ⟨o,rfl⟩ e
  cases e
  exact ⟨_,rfl⟩)
 have e2:dq (dm (aj (eB cF (aj (aa 1) ao)) ao)) 1 [0,1] (aJ 0) dN (aG (cA n) (aj (aF (aa 1) (aa 0)) (aj (aF (aa 2) (aa 0)) ao))) E=some (.own (.lst ((cZ ps.length).map fun _=>.bl true)),E):=jm (f:=dm (aj (eB cF (aj (aa 1) ao)) ao)) (m:=1) (ixs:=[0,1]) (ρ:=E) (ρ1:=E) (xs:=cZ ps.length) (ou (ln 1 (by decide)) (by omega)) ec
 have e3:eB all1 (aj (dq (dm (aj (eB cF (aj (aa 1) ao)) ao)) 1 [0,1] (aJ 0) dN (aG (cA n) (aj (aF (aa 1) (aa 0)) (aj (aF (aa 2) (aa 0)) ao)))) ao) E=some (.sh (.bl true),E):=kE (ls:=[.own (.lst ((cZ ps.length).map fun _=>.bl true))]) (aC e2 rfl) rfl (by show (boolsOf ((cZ ps.length).map fun _=>PV.bl true)).map _=_; rw [Ay,Z4,G9])
 exact bj (ρ:=E) (gn ((dB t1).trans (aB (ρ':=E) ((bG t2).trans rfl) (b8 (Az e1 e3)))))
theorem vQ:∀ {n:Nat} {X:PV},qm n X->∀ mu:Mu,cA n [X,X] mu=some (.sh (.bl true),mu)
 | n+1,.int i,_,mu=>by
  let E:Ev:=⟨[zI i,zI i],mu⟩
  have e:aq eqP (aa 0) (aa 1) E=some (.sh (.bl true),E):=bO rfl rfl rfl rfl (by show some (Lc.sh (.bl (i==i)))=_; rw [aa5])
  have nb:wK (jC "bool" (aa 0)) E=some (.sh (.bl true),E):=by
   unfold wK
   rw [show jC "bool" (aa 0) E=some (.sh (.bl false),E) from tB (p:=.int i) rfl rfl rfl,Yu]
   rfl
  exact bj (ρ:=E) (aB (ρ':=E) ((bG (d7 (l:=.sh (.bl false)) rfl rfl rfl)).trans rfl) (aB (ρ':=E) ((bG (d7 (l:=.sh (.bl false)) rfl rfl rfl)).trans rfl) (aB (ρ':=E) ((bG (d7 (l:=.sh (.bl false)) rfl rfl rfl)).trans rfl) (b8 (Az (tB (p:=.int i) rfl rfl rfl) (Az nb e))))))
 | n+1,.str x,_,mu=>by
  let E:Ev:=⟨[zT x,zT x],mu⟩
  have e:aq eqP (aa 0) (aa 1) E=some (.sh (.bl true),E):=bO rfl rfl rfl rfl (by show some (Lc.sh (.bl (x==x)))=_; rw [aa5])
  exact bj (ρ:=E) (aB (ρ':=E) ((bG (d7 (l:=.sh (.bl false)) rfl rfl rfl)).trans rfl) (gn ((dB (d7 (l:=.sh (.bl true)) rfl rfl rfl)).trans (b8 (Az (tB (p:=.str x) rfl rfl rfl) e)))))
 | n+1,.tup ps,h,mu=>Dj false rfl h.1 fun p hp mu=>vQ (h.2 p hp) mu
 | n+1,.lst ps,h,mu=>Dj true rfl h.1 fun p hp mu=>vQ (h.2 p hp) mu
theorem qm.up:∀ {n m:Nat} {X:PV},n<=m->qm n X->qm m X
 | 0,_,_,_,h=>h.elim
 | n+1,m+1,.int _,_,_=>trivial
 | n+1,m+1,.str _,_,_=>trivial
 | n+1,m+1,.tup ps,hm,h=>⟨h.1,fun p hp=>(h.2 p hp).up (by omega)⟩
 | n+1,m+1,.lst ps,hm,h=>⟨h.1,fun p hp=>(h.2 p hp).up (by omega)⟩
 | n+1,0,_,hm,_=>by omega
theorem Qj {B:Bs} (hB:BG B):qm 3 (.lst (gf B)):=by
 have h8:=hB.l8
 refine ⟨by rw [Yw]; omega,fun p hp=>?_⟩
 obtain ⟨q,hq,rfl⟩:=YZ.mp hp
 cases hv:q.2 with
 | n i=>exact trivial
 | l is=>
  have:=hB.ok.sm q hq is hv
  refine ⟨by rw [Yw]; omega,fun p hp=>?_⟩
  obtain ⟨i,_,rfl⟩:=YZ.mp hp
  exact trivial
theorem Dk:∀ {ms:List cD} {p:PV},p∈eY ms->qm 2 p
 | m::ms,p,h=>by
  rcases ZK.mp (show p∈m.2.2.map (oh m.1)++eY ms from h) with h | h
  . obtain ⟨e,_,rfl⟩:=YZ.mp h
    refine ⟨by show (4:Nat)<=1000; decide,fun p hp=>?_⟩
    simp only [YC,Y8,or_false] at hp
    rcases hp with rfl | rfl | rfl | rfl<;>exact trivial
  . exact Dk h
theorem Qk {m:cD} (h:m.2.2.length<=1):qm 4 m.pv:=by
 refine ⟨by show (3:Nat)<=1000; decide,fun p hp=>?_⟩
 simp only [YC,Y8,or_false] at hp
 rcases hp with rfl | rfl | rfl
 . exact trivial
 . exact trivial
 . refine ⟨by rw [Yw]; omega,fun p hp=>?_⟩
   obtain ⟨e,_,rfl⟩:=YZ.mp hp
   refine ⟨by show (3:Nat)<=1000; decide,fun p hp=>?_⟩
   simp only [YC,Y8,or_false] at hp
   rcases hp with rfl | rfl | rfl<;>exact trivial
theorem Jk:∀ {k:Nat} {B:Bs} {rs:List Rw} {m:cD},m∈(lQ k B rs).1->m.2.2.length<=1
 | k,B,[],m,h=>by
  rw [ZX.mp h]
  exact ZC _
 | k,B,r::rs,m,h=>by
  rcases YC.mp h with rfl | h
  . exact ZC _
  . rcases YC.mp h with rfl | h
    . cases r with
      | asg o x e=>exact Yy _
      | put x p e=>
       show (if ev B p<(lstAt B x).length then ([(x,ev B p,ev B e)],setB B x (.l ((lstAt B x).set (ev B p).toNat (ev B e)))) else ([],B)).1.length<=1
       split
       . exact Yy _
       . exact ZC _
    . exact Jk h
theorem Jl {B:Bs} {rs:List Rw} {m:cD} (h:m∈(dY B rs).1):m.2.2.length<=1:=by
 unfold dY at h
 split at h
 . cases h
 . exact Jk h
theorem Jm {B:Bs} {rs:List Rw}:(dY B rs).1.length<=2*rs.length+1:=by
 unfold dY
 split
 . exact ZC _
 . rw [G4]
   exact Yy _
theorem Ha {D:List (Str×Int)} {B:Bs} {rs:List Rw} (H:Pr D B rs):qm 40 (Kr B rs):=by
 obtain ⟨_,_,ne,bg⟩:=Ce H
 have h4:=H.l4
 refine ⟨by show (3:Nat)<=1000; decide,fun p hp=>?_⟩
 simp only [YC,Y8,or_false] at hp
 rcases hp with rfl | rfl | rfl
 . exact trivial
 . exact ⟨by rw [zf]; omega,fun p hp=>(Dk hp).up (by decide)⟩
 . exact (Qj bg).up (by decide)
theorem Dl {B:Bs} {rs:List Rw} (h4:rs.length<=400):qm 40 (.lst ((dY B rs).1.map cD.pv)):=by
 have:=Jm (B:=B) (rs:=rs)
 refine ⟨by rw [Yw]; omega,fun p hp=>?_⟩
 obtain ⟨m,hm,rfl⟩:=YZ.mp hp
 exact (Qk (Jl hm)).up (by decide)
def LB (mu:Mu) (d lo:Nat) (B:Bs):Prop:=∃ ps,mu[d]?=some (some (.dk (bL B) ps))/\CB mu d lo B ps
section
variable {mu:Mu} {d lo:Nat} {B:Bs}
theorem LB.num (S:LB mu d lo B) (nd:(B.map (·.1)).Nodup) {x:Str} {v:Int} (hx:yu B x):∃ ks ps,mu[d]?=some (some (.dk ks ps))/\ks.length=B.length/\LB (mu.set d (some (jH (jn (ks.zip ps) (.inr x) (.int v))))) d lo (setB B x (.n v)):=by
 obtain ⟨ps,hb,hc⟩:=S
 obtain ⟨i,hx⟩:=hx
 have hv:=hc.val.1 i hx
 obtain ⟨ps',g1,g2,g3⟩:=hc.setN (v:=v) nd (fun is q=>by rw [hx] at q; cases q)
 have ep:jH (jn ((bL B).zip ps) (.inr x) (.int v))=.dk (bL (setB B x (.n v))) ps':=by
  unfold jn
  rw [hv]
  unfold jH
  dsimp only
  rw [g1,g2,Aq]
 refine ⟨bL B,ps,hb,Yw ..,?_⟩
 rw [ep]
 exact ⟨ps',YM (eV hb),g3.frame fun c _ q=>Yz (by omega)⟩
theorem LB.lst (S:LB mu d lo B) (nd:(B.map (·.1)).Nodup) {x:Str} {is:List Int} (hx:look B x=some (.l is)):∃ ks ps c,mu[d]?=some (some (.dk ks ps))/\cH (ks.zip ps) (.inr x)=some (.ptr c)/\lo<=c/\c<d/\mu[c]?=some (some (.lst (is.map .int)))/\∀ js:List Int,LB (mu.set c (some (.lst (js.map .int)))) d lo (setB B x (.l js)):=by
 obtain ⟨ps,hb,hc⟩:=S
 obtain ⟨c,g1,g2,g3,g4⟩:=hc.val.2 is hx
 refine ⟨bL B,ps,c,hb,g1,by omega,g3,g4,fun js=>⟨ps,?_,hc.setL nd hx g1 (eV g4)⟩⟩
 rw [Yz (by omega),Aq]
 exact hb
theorem LB.res (S:LB mu d lo B):aW mu 40 (.ptr d)=qz B:=by
 obtain ⟨ps,hb,hc⟩:=S
 rw [oZ hb]
 show PV.dk (bL B) (ps.map (aW mu 38))=_
 rw [hc.res]
noncomputable abbrev AE (R:PV) (d:Nat) (l2 l3 l4 l5:Option Lc) (mu:Mu):Ev:=⟨[zS R,zS (.ptr d),l2,l3,l4,l5],mu⟩
theorem Ku {f:EF} {e:Ex} {ρ:Ev} (S:LB ρ.mu d lo B) (hB:BG B) (he:e.ok B) (hd:e.dp<=40) (h1:f ρ=some (.sh e.pv,ρ)) (h2:aa 1 ρ=some (.sh (.ptr d),ρ)):fW (cN 40) (aj f (aj (aa 1) ao)) ρ=some (.sh (.int (ev B e)),ρ):=by
 refine Gm (ls:=[.sh e.pv,.sh (.ptr d)]) (ps:=[e.pv,qz B]) (aC h1 (aC h2 rfl)) ?_ (mJ hB.ok he hd) rfl
 show [aW ρ.mu 40 e.pv,aW ρ.mu 40 (.ptr d)]=_
 rw [Ex.res,S.res]
noncomputable abbrev Xo:SF:=aH (aL 4 (aF (aa 0) (aa 3)))
 (aH (ig 2 (bh (aj (aa 3) (aj (eC (.int 0)) (aj (bW ao) ao)))))
 (aH (aL 5 (bW (aj (bh (aj (aF (aa 4) (eC (.int 1))) (aj (eC (.int 0)) (aj (fW (cN 40) (aj (aF (aa 4) (eC (.int 2))) (aj (aa 1) ao))) ao)))) ao)))
 (aH (bN (tT (aq eqP (aF (aa 4) (eC (.int 0))) (eC (.str "put"))) aU)
 (aH (aL 5 (bW (aj (bh (aj (aF (aa 4) (eC (.int 1))) (aj (aF (aF (aa 5) (eC (.int 0))) (eC (.int 2))) (aj (fW (cN 40) (aj (aF (aa 4) (eC (.int 3))) (aj (aa 1) ao))) ao)))) ao)))
 (bN (tT (aq QQ (aF (aF (aa 5) (eC (.int 0))) (eC (.int 1))) (gO (jO (aa 1) (aF (aa 4) (eC (.int 1)))))) aU)
 (aL 5 (bW ao))
 (vo (jO (aa 1) (aF (aa 4) (eC (.int 1)))) (aF (aF (aa 5) (eC (.int 0))) (eC (.int 1))) (aF (aF (aa 5) (eC (.int 0))) (eC (.int 2))))))
 (xT (aa 1) (aF (aa 4) (eC (.int 1))) (aF (aF (aa 5) (eC (.int 0))) (eC (.int 2)))))
 (ig 2 (bh (aj (aa 3) (aj (eC (.int 1)) (aj (aa 5) ao))))))))
theorem Th {rows:List PV} {k:Nat} {r:Rw} {ms:List cD} {l4 l5:Option Lc} (S:LB mu d lo B) (hB:BG B) (hr:r.ok B) (hk:rows[k]?=some r.pv) (hl:ms.length<=1000):∃ mu' p4 p5,Xo (AE (.lst rows) d (zO (ms.map cD.pv)) (zI (k:Nat)) l4 l5 mu)=some (.nx (AE (.lst rows) d (zO ((ms++[((k:Int),0,[]),((k:Int),1,(jo B r).1)]).map cD.pv)) (zI (k:Nat)) p4 p5 mu'))/\LB mu' d lo (jo B r).2/\mu'.length=mu.length/\∀ c,c<lo->c<d->mu'[c]?=mu[c]?:=by
 let ms1:=ms++[((k:Int),(0:Int),([]:List jK))]
 let E:=fun l2 l5 mu=>AE (.lst rows) d l2 (zI (k:Nat)) (zS r.pv) l5 mu
 let A1:Option Lc:=zO (ms1.map cD.pv)
 have s4:aL 4 (aF (aa 0) (aa 3)) (AE (.lst rows) d (zO (ms.map cD.pv)) (zI (k:Nat)) l4 l5 mu)=some (.nx (E (zO (ms.map cD.pv)) l5 mu)):=bA (jf (l:=.sh (.lst rows)) (m:=.sh (.int (k:Nat))) rfl rfl rfl rfl (fun n h=>by cases h) (by show (gj rows (k:Nat)).map _=_; rw [lG hk]; rfl)) rfl rfl
 have s2:ig 2 (bh (aj (aa 3) (aj (eC (.int 0)) (aj (bW ao) ao)))) (E (zO (ms.map cD.pv)) l5 mu)=some (.nx (E A1 l5 mu)):=nA (ws0:=ms.map cD.pv) (ws:=ms.map cD.pv) (l:=.sh (cD.pv ((k:Int),0,[]))) (ρ1:=E (zO (ms.map cD.pv)) l5 mu) rfl rfl rfl rfl (by rw [Yw]; omega) (by show E (zO (ms.map cD.pv++[cD.pv ((k:Int),0,[])])) l5 mu=_; simp only [A1,ms1,Y6]; rfl)
 have fin:∀ (es:List jK) (mu':Mu) (c:Bool),ig 2 (bh (aj (aa 3) (aj (eC (.int 1)) (aj (aa 5) ao)))) (E A1 (some (if c=true then .own (evs es) else .sh (evs es))) mu')=some (.nx (E (zO ((ms++[((k:Int),0,[]),((k:Int),1,es)]).map cD.pv)) (zS (evs es)) mu')):=fun es mu' c=>by
  refine nA (ws0:=ms1.map cD.pv) (ws:=ms1.map cD.pv) (l:=.sh (cD.pv ((k:Int),1,es))) (ρ1:=E A1 (zS (evs es)) mu') rfl (by cases c<;>rfl) rfl rfl (by rw [Yw,YD]; show ms.length+1<_; omega) ?_
  show E (zO (ms1.map cD.pv++[cD.pv ((k:Int),1,es)])) _ _=_
  have e:ms++[((k:Int),0,[]),((k:Int),1,es)]=ms1++[((k:Int),1,es)]:=by simp [ms1]
  rw [e,show (ms1++[((k:Int),(1:Int),es)]).map cD.pv=ms1.map cD.pv++[cD.pv ((k:Int),1,es)] from Y6]
 cases hr':r with
 | asg o x e=>
  rw [hr'] at hr
  obtain ⟨hx,he,de⟩:=hr
  obtain ⟨t,ht,r0,r1,r2⟩:∃ t:Str,(t == "put")=false/\(∀ l2 l5 mu,aF (aa 4) (eC (.int 0)) (E l2 l5 mu)=some (.sh (.str t),E l2 l5 mu))/\(∀ l2 l5 mu,aF (aa 4) (eC (.int 1)) (E l2 l5 mu)=some (.sh (.str x),E l2 l5 mu))/\∀ l2 l5 mu,aF (aa 4) (eC (.int 2)) (E l2 l5 mu)=some (.sh e.pv,E l2 l5 mu):=by
   cases o with
   | true=>exact ⟨"out",by decide +kernel,by rw [show E=fun l2 l5 mu=>AE (.lst rows) d l2 (zI (k:Nat)) (some (.sh (Rw.asg true x e).pv)) l5 mu from by simp only [E,hr']]; exact fun _ _ _=>rfl,by rw [show E=fun l2 l5 mu=>AE (.lst rows) d l2 (zI (k:Nat)) (some (.sh (Rw.asg true x e).pv)) l5 mu from by simp only [E,hr']]; exact fun _ _ _=>rfl,by rw [show E=fun l2 l5 mu=>AE (.lst rows) d l2 (zI (k:Nat)) (some (.sh (Rw.asg true x e).pv)) l5 mu from by simp only [E,hr']]; exact fun _ _ _=>rfl⟩
   | false=>exact ⟨"set",by decide +kernel,by rw [show E=fun l2 l5 mu=>AE (.lst rows) d l2 (zI (k:Nat)) (some (.sh (Rw.asg false x e).pv)) l5 mu from by simp only [E,hr']]; exact fun _ _ _=>rfl,by rw [show E=fun l2 l5 mu=>AE (.lst rows) d l2 (zI (k:Nat)) (some (.sh (Rw.asg false x e).pv)) l5 mu from by simp only [E,hr']]; exact fun _ _ _=>rfl,by rw [show E=fun l2 l5 mu=>AE (.lst rows) d l2 (zI (k:Nat)) (some (.sh (Rw.asg false x e).pv)) l5 mu from by simp only [E,hr']]; exact fun _ _ _=>rfl⟩
  obtain ⟨ks,ps,hb,hlen,S'⟩:=S.num hB.nd (v:=ev B e) hx
  have h8:=hB.l8
  let V:PV:=evs [(x,0,ev B e)]
  have s5:aL 5 (bW (aj (bh (aj (aF (aa 4) (eC (.int 1))) (aj (eC (.int 0)) (aj (fW (cN 40) (aj (aF (aa 4) (eC (.int 2))) (aj (aa 1) ao))) ao)))) ao)) (E A1 l5 mu)=some (.nx (E A1 (some (.own V)) mu)):=bA (pO (ls:=[.sh (jK.pv (x,0,ev B e))]) (ρ1:=E A1 l5 mu) (aC (fV (ls:=[.sh (.str x),.sh (.int 0),.sh (.int (ev B e))]) (aC (r1 _ _ _) (aC rfl (aC (Ku S hB he de (r2 _ _ _) rfl) rfl))) rfl rfl) rfl) rfl rfl) rfl rfl
  refine ⟨_,_,_,aB s4 (aB s2 (aB s5 (aB (ρ':=E A1 (zS V) (mu.set d (some (jH (jn (ks.zip ps) (.inr x) (.int (ev B e))))))) ((bG (jw (r0 _ _ _) ht)).trans (IK (ρ1:=E A1 (zS V) mu) (ρ2:=E A1 (zS V) mu) (ρ3:=E A1 (zS V) mu) (x:=.sh (.int (ev B e))) (o:=.sh (.ptr d)) (y:=.sh (.str x)) rfl rfl rfl rfl (r1 _ _ _) rfl hb (by omega) rfl)) (fin [(x,0,ev B e)] _ false)))),S',YX,fun c h1 h2=>Yz (by omega)⟩
 | put x p e=>
  rw [hr'] at hr
  obtain ⟨⟨is,hx⟩,⟨hp,dp⟩,he,de⟩:=hr
  have eE:E=fun l2 l5 mu=>AE (.lst rows) d l2 (zI (k:Nat)) (some (.sh (Rw.put x p e).pv)) l5 mu:=by simp only [E,hr']
  have r0:∀ l2 l5 mu,aF (aa 4) (eC (.int 0)) (E l2 l5 mu)=some (.sh (.str "put"),E l2 l5 mu):=by rw [eE]; exact fun _ _ _=>rfl
  have r1:∀ l2 l5 mu,aF (aa 4) (eC (.int 1)) (E l2 l5 mu)=some (.sh (.str x),E l2 l5 mu):=by rw [eE]; exact fun _ _ _=>rfl
  have r2:∀ l2 l5 mu,aF (aa 4) (eC (.int 2)) (E l2 l5 mu)=some (.sh p.pv,E l2 l5 mu):=by rw [eE]; exact fun _ _ _=>rfl
  have r3:∀ l2 l5 mu,aF (aa 4) (eC (.int 3)) (E l2 l5 mu)=some (.sh e.pv,E l2 l5 mu):=by rw [eE]; exact fun _ _ _=>rfl
  obtain ⟨ks,ps,c,hb,hv,c1,c2,hc,W⟩:=S.lst hB.nd hx
  have el:lstAt B x=is:=by unfold lstAt; rw [hx]
  have ip:=pI hB.ok hp
  let V0:PV:=evs [(x,0,ev B p)]
  let V:PV:=evs [(x,ev B p,ev B e)]
  have s5:aL 5 (bW (aj (bh (aj (aF (aa 4) (eC (.int 1))) (aj (eC (.int 0)) (aj (fW (cN 40) (aj (aF (aa 4) (eC (.int 2))) (aj (aa 1) ao))) ao)))) ao)) (E A1 l5 mu)=some (.nx (E A1 (some (.own V0)) mu)):=bA (pO (ls:=[.sh (jK.pv (x,0,ev B p))]) (ρ1:=E A1 l5 mu) (aC (fV (ls:=[.sh (.str x),.sh (.int 0),.sh (.int (ev B p))]) (aC (r1 _ _ _) (aC rfl (aC (Ku S hB hp dp (r2 _ _ _) rfl) rfl))) rfl rfl) rfl) rfl rfl) rfl rfl
  have s6:aL 5 (bW (aj (bh (aj (aF (aa 4) (eC (.int 1))) (aj (aF (aF (aa 5) (eC (.int 0))) (eC (.int 2))) (aj (fW (cN 40) (aj (aF (aa 4) (eC (.int 3))) (aj (aa 1) ao))) ao)))) ao)) (E A1 (some (.own V0)) mu)=some (.nx (E A1 (some (.own V)) mu)):=bA (pO (ls:=[.sh (jK.pv (x,ev B p,ev B e))]) (ρ1:=E A1 (zS V0) mu) (aC (fV (ls:=[.sh (.str x),.sh (.int (ev B p)),.sh (.int (ev B e))]) (ρ1:=E A1 (zS V0) mu) (aC (r1 _ _ _) (aC (ρ1:=E A1 (zS V0) mu) rfl (aC (Ku S hB he de (r3 _ _ _) rfl) rfl))) rfl rfl) rfl) rfl rfl) rfl rfl
  have lx:∀ l2 l5,jO (aa 1) (aF (aa 4) (eC (.int 1))) (E l2 l5 mu)=some (.sh (.ptr c),E l2 l5 mu):=fun l2 l5=>Av (x:=.sh (.ptr d)) (y:=.sh (.str x)) (k:=.inr x) rfl rfl (r1 _ _ _) rfl hb hv
  have t:tT (aq QQ (aF (aF (aa 5) (eC (.int 0))) (eC (.int 1))) (gO (jO (aa 1) (aF (aa 4) (eC (.int 1)))))) aU (E A1 (some (.own V)) mu)=some (decide (ev B p ≥ is.length),E A1 (zS V) mu):=by
   refine d7 (l:=.sh (.bl (decide (ev B p ≥ is.length)))) (bO (l:=.sh (.int (ev B p))) (ρ1:=E A1 (zS V) mu) rfl rfl (BX (l:=.sh (.ptr c)) (lx _ _) rfl hc) rfl ?_) rfl rfl
   show some (Lc.sh (.bl (decide (ev B p ≥ ((is.map PV.int).length:Nat)))))=_
   rw [Yw]
  show ∃ mu' p4 p5,_=some (Fl.nx (AE (.lst rows) d (some (.own (.lst ((ms++[((k:Int),0,[]),((k:Int),1,(if ev B p<(lstAt B x).length then ([(x,ev B p,ev B e)],setB B x (.l ((lstAt B x).set (ev B p).toNat (ev B e)))) else ([],B)).1)]).map cD.pv)))) (zI (k:Nat)) p4 p5 mu'))/\LB mu' d lo (if ev B p<(lstAt B x).length then ([(x,ev B p,ev B e)],setB B x (.l ((lstAt B x).set (ev B p).toNat (ev B e)))) else ([],B)).2/\_
  rw [el]
  by_cases h:ev B p<is.length
  . rw [aaZ h]
    have hj:pJ (is.map PV.int).length (ev B p)=some (ev B p).toNat:=Ng ip.1 (by rw [Yw]; exact h)
    have sc:vo (jO (aa 1) (aF (aa 4) (eC (.int 1)))) (aF (aF (aa 5) (eC (.int 0))) (eC (.int 1))) (aF (aF (aa 5) (eC (.int 0))) (eC (.int 2))) (E A1 (zS V) mu)=some (.nx (E A1 (zS V) (mu.set c (some (.lst ((is.set (ev B p).toNat (ev B e)).map .int)))))):=by
     have q:=Ih (ρ:=E A1 (zS V) mu) (ρ1:=E A1 (zS V) mu) (ρ2:=E A1 (zS V) mu) (ρ3:=E A1 (zS V) mu) (fo:=jO (aa 1) (aF (aa 4) (eC (.int 1)))) (fi:=aF (aF (aa 5) (eC (.int 0))) (eC (.int 1))) (fv:=aF (aF (aa 5) (eC (.int 0))) (eC (.int 2))) (x:=.sh (.int (ev B e))) (o:=.sh (.ptr c)) (y:=.sh (.int (ev B p))) rfl rfl (lx _ _) rfl rfl rfl hc hj
     refine q.trans ?_
     rw [List.map_set]
     rfl
    refine ⟨_,_,_,aB s4 (aB s2 (aB s5 (aB (ρ':=E A1 (zS V) (mu.set c (some (.lst ((is.set (ev B p).toNat (ev B e)).map .int))))) ((dB (jw (r0 _ _ _) (by decide +kernel))).trans (aB s6 ((bG (t.trans (by rw [aa2 (by omega)]))).trans sc))) (fin [(x,ev B p,ev B e)] _ false)))),W _,YX,fun c' h1 h2=>Yz (by omega)⟩
  . rw [aa0 h]
    refine ⟨_,_,_,aB s4 (aB s2 (aB s5 (aB (ρ':=E A1 (some (.own (evs []))) mu) ((dB (jw (r0 _ _ _) (by decide +kernel))).trans (aB s6 ((dB (t.trans (by rw [aa3 (by omega)]))).trans rfl))) (fin [] _ true)))),S,rfl,fun c' h1 h2=>rfl⟩
end
noncomputable def oA:Nat->Bs->List Rw->List cD×Bs
 | _,B,[]=>([],B)
 | k,B,r::rs=>(((k:Int),0,[])::((k:Int),1,(jo B r).1)::(oA (k+1) (jo B r).2 rs).1,(oA (k+1) (jo B r).2 rs).2)
theorem Jo:∀ {k:Nat} {B:Bs} {rs:List Rw},lQ k B rs=((oA k B rs).1++[(((k+rs.length:Nat):Int)-1,3,[])],(oA k B rs).2)
 | k,B,[]=>rfl
 | k,B,r::rs=>by
  show (((k:Int),(0:Int),([]:List jK))::((k:Int),1,(jo B r).1)::(lQ (k+1) (jo B r).2 rs).1,(lQ (k+1) (jo B r).2 rs).2)=_
  rw [Jo,show k+(r::rs).length=k+1+rs.length from by rw [YB]; omega]
  rfl
theorem Jp:∀ {k:Nat} {B:Bs} {rs:List Rw},(oA k B rs).1.length=2*rs.length
 | k,B,[]=>rfl
 | k,B,r::rs=>by
  show (oA (k+1) (jo B r).2 rs).1.length+1+1=2*(rs.length+1)
  rw [Jp]
  omega
theorem Jq {rows:List PV} {d lo:Nat}:∀ (rs:List Rw) (k:Nat) (B:Bs) (ms:List cD) (mu:Mu) (l3 l4 l5:Option Lc),LB mu d lo B->BG B->(∀ r∈rs,r.ok B)->(∀ (i:Nat) r,rs[i]?=some r->rows[k+i]?=some r.pv)->ms.length+2*rs.length<=1000->
 ∃ mu' p3 p4 p5,iT (aJ 3) Xo ((List.range' k rs.length).map fun i=>PV.int (i:Nat)) (AE (.lst rows) d (zO (ms.map cD.pv)) l3 l4 l5 mu)=some (.nx (AE (.lst rows) d (zO ((ms++(oA k B rs).1).map cD.pv)) p3 p4 p5 mu'))/\LB mu' d lo (oA k B rs).2/\mu'.length=mu.length/\∀ c,c<lo->c<d->mu'[c]?=mu[c]?
 | [],k,B,ms,mu,l3,l4,l5,S,_,_,_,_=>⟨mu,l3,l4,l5,by rw [show (oA k B []).1=[] from rfl,YS]; rfl,S,rfl,fun _ _ _=>rfl⟩
 | r::rs,k,B,ms,mu,l3,l4,l5,S,hB,hr,hk,hl=>by
  simp only [YB] at hl
  obtain ⟨mu1,p4,p5,e,S1,n1,f1⟩:=Th (rows:=rows) (k:=k) (l4:=l4) (l5:=l5) (ms:=ms) S hB (hr r Yv) (hk 0 r rfl) (by omega)
  obtain ⟨h1,h2⟩:=Aw hB (hr r Yv)
  obtain ⟨mu',q3,q4,q5,e',S',n',f'⟩:=Jq (rows:=rows) rs (k+1) (jo B r).2 (ms++[((k:Int),0,[]),((k:Int),1,(jo B r).1)]) mu1 (zI (k:Nat)) p4 p5 S1 h1 (fun q hq=>h2.row (hr q (YG _ hq))) (fun i q hq=>by rw [aav,aaQ]; exact hk (i+1) q hq) (by rw [YD]; show ms.length+2+_<=_; omega)
  refine ⟨mu',q3,q4,q5,?_,S',n'.trans n1,fun c c1 c2=>(f' c c1 c2).trans (f1 c c1 c2)⟩
  rw [YB,aah,YT]
  rw [Y0] at e'
  exact gB (ρ1:=AE (.lst rows) d (zO (ms.map cD.pv)) (zI (k:Nat)) l4 l5 mu) rfl e e'
theorem Ql {m:Nat}:HT.sIx (m+1) 0 (some (-1))=m:=by
 show (if (-1:Int)<0 then ((-1:Int)+((m+1:Nat):Int)).toNat else min (-1:Int).toNat (m+1))=m
 rw [aaZ (by decide)]
 omega
theorem Qm {rs:List Rw} {B:Bs} {mu:Mu} {d lo:Nat} (S:LB mu d lo B) (hB:BG B) (hr:∀ r∈rs,r.ok B) (hl:rs.length<=400):∃ mu',pH [.lst (rs.map Rw.pv),.ptr d] mu=some (.own (.lst ((dY B rs).1.map cD.pv)),mu')/\LB mu' d lo (dY B rs).2/\mu'.length=mu.length/\∀ c,c<lo->c<d->mu'[c]?=mu[c]?:=by
 let rows:=rs.map Rw.pv
 obtain ⟨mu',p3,p4,p5,e,S',n',f'⟩:=Jq (rows:=rows) rs 0 B [] mu none none none S hB hr (fun i r h=>by show (rs.map Rw.pv)[0+i]?=_; rw [aaF,Y7,h]; rfl) (by show 0+_<=_; omega)
 rw [ZL,m6] at e
 let E:=fun l2 l3 l4 l5 mu=>AE (.lst rows) d l2 l3 l4 l5 mu
 have ln:∀ l2 l3 l4 l5 mu,eB cF (aj (aa 0) ao) (E l2 l3 l4 l5 mu)=some (.sh (.int (rs.length:Nat)),E l2 l3 l4 l5 mu):=fun l2 l3 l4 l5 mu=>by
  show some (Lc.sh (.int ((rs.map Rw.pv).length:Nat)),E l2 l3 l4 l5 mu)=_
  rw [Yw]
 let M:=some (Lc.own (.lst ((oA 0 B rs).1.map cD.pv)))
 let M':=some (Lc.sh (.lst ((oA 0 B rs).1.map cD.pv)))
 let X:=E M' p3 p4 p5 mu'
 let g:PV->PV:=fun p=>.tup [p,.int 3,.lst []]
 have ec:=je (b:=aJ 0) (te:=bh (aj (aa 0) (aj (eC (.int 3)) (aj (bW ao) ao)))) (mu:=mu') (fun ρ=>∃ o,ρ=⟨[o],mu'⟩) (fun ρ ⟨o,e⟩=>by rw [e]) g (xs:=cZ rs.length) (ρ:=⟨[none],mu'⟩) ⟨none,rfl⟩ (by rw [Yw,ZJ]; omega) (by
  rintro p hp ρ ⟨o,rfl⟩
  exact ⟨⟨[zS p],mu'⟩,rfl,.sh (g p),⟨[zS p],mu'⟩,rfl,rfl,_,rfl⟩) (by
  rintro p hp ρ ρ1 ⟨o,rfl⟩ e
  cases e
  exact ⟨_,rfl⟩)
 have e2:dq (dm (aj (eB cF (aj (aa 0) ao)) ao)) 1 [] (aJ 0) dN (bh (aj (aa 0) (aj (eC (.int 3)) (aj (bW ao) ao)))) X=some (.own (.lst ((cZ rs.length).map g)),X):=jm (f:=dm (aj (eB cF (aj (aa 0) ao)) ao)) (m:=1) (ixs:=[]) (ρ:=X) (ρ1:=X) (xs:=cZ rs.length) (ou (ln _ _ _ _ _) (by omega)) ec
 have cut:jl ((cZ rs.length).map g) (some (-1)) none=if rs=[] then [] else [cD.pv (((rs.length:Nat):Int)-1,3,[])]:=by
  by_cases h:rs=[]
  . rw [aaZ h,h]
    rfl
  . obtain ⟨m,hm⟩:∃ m,rs.length=m+1:=⟨rs.length-1,by cases rs with | nil=>exact absurd rfl h | cons r rs=>simp⟩
    rw [aa0 h,hm,vP,Y6]
    have lm:((cZ m).map g).length=m:=by rw [Yw,Yw,ZJ]
    have le:((cZ m).map g++[PV.int (m:Nat)].map g).length=m+1:=by rw [YD,lm]; rfl
    unfold jl
    rw [le,HT.sIx_none,Ql,List.drop_append,lm,Zz,List.drop_eq_nil_of_le (by rw [lm]; exact Yy _),show m+1-m=1 from by omega,show (((m+1:Nat):Int)-1)=(m:Nat) from by omega]
    rfl
 have e3:nC (dq (dm (aj (eB cF (aj (aa 0) ao)) ao)) 1 [] (aJ 0) dN (bh (aj (aa 0) (aj (eC (.int 3)) (aj (bW ao) ao))))) (gF (oN (eC (.int 1)))) ie X=some (.own (.lst (if rs=[] then [] else [cD.pv (((rs.length:Nat):Int)-1,3,[])])),X):=by
  unfold nC
  rw [e2,← cut]
  rfl
 have fin:(dY B rs).1.map cD.pv=(oA 0 B rs).1.map cD.pv++(if rs=[] then [] else [cD.pv (((rs.length:Nat):Int)-1,3,[])])/\(dY B rs).2=(oA 0 B rs).2:=by
  unfold dY
  by_cases h:rs=[]
  . rw [aaZ h,aaZ h,h]
    exact ⟨rfl,rfl⟩
  . rw [aa0 h,aa0 h,Jo,aaF,Y6]
    exact ⟨rfl,rfl⟩
 refine ⟨mu',?_,by rw [fin.2]; exact S',n',f'⟩
 rw [fin.1]
 refine bj (ρ:=X) (aB (ρ':=E (zO []) none none none mu) rfl (aB (ρ':=E M p3 p4 p5 mu') (gR (ou (ln _ _ _ _ _) (by omega)) e) (b8 (bO (l:=.sh (.lst ((oA 0 B rs).1.map cD.pv))) (ρ1:=X) rfl rfl e3 rfl (Wf ?_)))))
 rw [Yw,Jp]
 split
 . show _+0<=_; omega
 . show _+1<=_; omega
noncomputable abbrev SS (l:List Str):List PV:=l.map .str
def Ex.okS (ns ls:List Str):Ex->Prop
 | .num i=>In i
 | .box x=>x∈ns
 | .at_ x e=>x∈ls/\e.okS ns ls
 | .op s a b=>Sg s/\a.okS ns ls/\b.okS ns ls
theorem uU {ns ls:List Str} {B:Bs} (h1:∀ x∈ns,yu B x) (h2:∀ x∈ls,GR B x):∀ {e:Ex},e.okS ns ls->e.ok B
 | .num _,h=>h
 | .box x,h=>h1 x h
 | .at_ x e,h=>⟨h2 x h.1,uU h1 h2 h.2⟩
 | .op s a b,h=>⟨h.1,uU h1 h2 h.2.1,uU h1 h2 h.2.2⟩
noncomputable def iM (ss:List Str) (z:Int):Str:=(ss[(z%(ss.length:Int)).toNat]?).getD ""
theorem mX {ss:List Str} {z:Int} (h:0<ss.length):iM ss z∈ss/\ss[(z%(ss.length:Int)).toNat]?=some (iM ss z):=by
 have h0:=Zf z (b:=(ss.length:Int)) (by omega)
 have h1:=Za z (b:=(ss.length:Int)) (by omega)
 have e:ss[(z%(ss.length:Int)).toNat]?=some (iM ss z):=by
  unfold iM
  rw [YQ (by omega)]
  rfl
 exact ⟨Zq e,e⟩
theorem qW {ss:List Str} {fa fi:EF} {ρ:Ev} {z:Int} (h:0<ss.length) (h1:fa ρ=some (.sh (.lst (SS ss)),ρ)) (h2:fi ρ=some (.sh (.int z),ρ)):aF fa (aq aQ fi (eB cF (aj fa ao))) ρ=some (.sh (.str (iM ss z)),ρ):=by
 have h0:=Zf z (b:=(ss.length:Int)) (by omega)
 refine jf (l:=.sh (.lst (SS ss))) (m:=.sh (.int (z%(ss.length:Int)))) h1 rfl (bO (m:=.sh (.int (ss.length:Nat))) h2 rfl (kE (ls:=[.sh (.lst (SS ss))]) (aC h1 rfl) rfl (by show some (Lc.sh (.int ((SS ss).length:Nat)))=_; rw [Yw])) rfl (eZ (by omega))) rfl (fun n h=>by cases h) ?_
 show (gj (SS ss) (z%(ss.length:Int))).map _=_
 have e:z%(ss.length:Int)=((z%(ss.length:Int)).toNat:Nat):=by omega
 rw [e,lG (p:=.str (iM ss z)) (by rw [Y7,(mX h).2]; rfl)]
 rfl
noncomputable abbrev Xp (c:Int) (ns ls:List Str) (l3 l4:Option Lc) (mu:Mu):Ev:=⟨[zI c,zL (SS ns),zL (SS ls),l3,l4],mu⟩
theorem il {c d:Int} {fi:EF} {ρ:Ev} (h:fi ρ=some (.sh (.int c),ρ)) (h0:0<d) (h1:d<1073741824):aq bQ fi (eC (.int d)) ρ=some (.sh (.int (c/d)),ρ):=bO h rfl rfl rfl (CT h0 h1)
theorem ir {c d:Int} {fi:EF} {ρ:Ev} (h:fi ρ=some (.sh (.int c),ρ)) (h0:0<d):aq aQ fi (eC (.int d)) ρ=some (.sh (.int (c%d)),ρ):=bO h rfl rfl rfl (eZ h0)
theorem Hb {ss:List Str} {fa:EF} {ρ:Ev} (h1:fa ρ=some (.sh (.lst (SS ss)),ρ)):tT (aq rJ (eB cF (aj fa ao)) (eC (.int 0))) aU ρ=some (decide (0<ss.length),ρ):=by
 refine d7 (l:=.sh (.bl (decide (0<ss.length)))) (bO (kE (ls:=[.sh (.lst (SS ss))]) (aC h1 rfl) rfl rfl) rfl rfl rfl ?_) rfl rfl
 show some (Lc.sh (.bl (decide ((((SS ss).length:Nat):Int)>0))))=_
 rw [Yw]
 congr 3
 exact decide_eq_decide.mpr (by omega)
theorem Ti {c:Int} {ns ls:List Str} (hn:0<ns.length):∃ e:Ex,e.okS ns ls/\e.dp<=2/\∀ mu:Mu,fY [.int c,.lst (SS ns),.lst (SS ls)] mu=some (.sh e.pv,mu):=by
 let E:=fun l4 mu=>Xp c ns ls (zI (c%4)) l4 mu
 have s3:∀ mu,aL 3 (aq aQ (aa 0) (eC (.int 4))) (Xp c ns ls none none mu)=some (.nx (E none mu)):=fun mu=>bA (ir (c:=c) rfl (by decide)) rfl rfl
 by_cases h0:c%4=0
 . obtain ⟨v,v0,v1,hv⟩:=M9 (c/4)
   refine ⟨.num v,⟨v0,v1⟩,show (1:Nat)<=2 from by decide,fun mu=>bj (ρ:=E none mu) (aB (s3 mu) (gn ((dB (jx (a:=c%4) (ρ1:=E none mu) rfl (beq_iff_eq.mpr h0))).trans (b8 (fV (ls:=[.sh (.str "num"),.sh (.int v)]) (aC rfl (aC (aY (ls:=[.sh (.int (c/4))]) (ρ1:=E none mu) (aC (il (c:=c) rfl (by decide) (by decide)) rfl) rfl rfl rfl (hv mu)) rfl)) rfl rfl)))))⟩
 . have n0:∀ mu (f g:SF) R,g (E none mu)=R->aH (bN (tT (aq eqP (aa 3) (eC (.int 0))) aU) f bY) g (E none mu)=R:=fun mu f g R h=>aB (ρ':=E none mu) ((bG (jx (a:=c%4) (ρ1:=E none mu) rfl (aa4.mpr h0))).trans rfl) h
   by_cases h1:c%4=1/\0<ls.length
   . obtain ⟨h1,hl⟩:=h1
     have t1:∀ mu,jq (tT (aq eqP (aa 3) (eC (.int 1))) aU) (tT (aq rJ (eB cF (aj (aa 2) ao)) (eC (.int 0))) aU) (E none mu)=some (true,E none mu):=fun mu=>(wW (jx (a:=c%4) (ρ1:=E none mu) rfl (beq_iff_eq.mpr h1)) (Hb rfl)).trans (by rw [aa3 hl]; rfl)
     have p0:∀ mu,aL 4 (bh (aj (eC (.str "num")) (aj (aq aQ (aq bQ (aa 0) (eC (.int 4))) (eC (.int 9))) ao))) (E none mu)=some (.nx (E (some (.sh (Ex.num (c/4%9)).pv)) mu)):=fun mu=>bA (fV (ls:=[.sh (.str "num"),.sh (.int (c/4%9))]) (aC rfl (aC (ir (il (c:=c) rfl (by decide) (by decide)) (by decide)) rfl)) rfl rfl) rfl rfl
     have q0:=Zf (c/4) (b:=9) (by decide)
     have q1:=Za (c/4) (b:=9) (by decide)
     have tp:∀ l4 mu,tT (aq eqP (aq aQ (aq bQ (aa 0) (eC (.int 36))) (eC (.int 2))) (eC (.int 1))) aU (E l4 mu)=some (c/36%2==1,E l4 mu):=fun l4 mu=>jx (ir (il (c:=c) rfl (by decide) (by decide)) (by decide)) rfl
     obtain ⟨pl,ok,dp,sp⟩:∃ pl:Ex,pl.okS ns ls/\pl.dp<=1/\∀ mu,bN (tT (aq eqP (aq aQ (aq bQ (aa 0) (eC (.int 36))) (eC (.int 2))) (eC (.int 1))) aU) (aL 4 (bh (aj (eC (.str "box")) (aj (aF (aa 1) (aq aQ (aq bQ (aa 0) (eC (.int 72))) (eB cF (aj (aa 1) ao)))) ao)))) bY (E (some (.sh (Ex.num (c/4%9)).pv)) mu)=some (.nx (E (zS pl.pv) mu)):=by
      cases hb:(c/36%2==1) with
      | false=>exact ⟨.num (c/4%9),⟨q0,by omega⟩,Yy _,fun mu=>(bG ((tp _ mu).trans (by rw [hb]))).trans rfl⟩
      | true=>exact ⟨.box (iM ns (c/72)),(mX hn).1,Yy _,fun mu=>(dB ((tp _ mu).trans (by rw [hb]))).trans (bA (fV (ls:=[.sh (.str "box"),.sh (.str (iM ns (c/72)))]) (aC rfl (aC (qW hn rfl (il (c:=c) rfl (by decide) (by decide))) rfl)) rfl rfl) rfl rfl)⟩
     refine ⟨.at_ (iM ls (c/216)) pl,⟨(mX hl).1,ok⟩,by show pl.dp+1<=2; omega,fun mu=>bj (ρ:=E (zS pl.pv) mu) (aB (s3 mu) (n0 mu _ _ _ (gn ((dB (t1 mu)).trans (aB (p0 mu) (aB (sp mu) (b8 (fV (ls:=[.sh (.str "@"),.sh (.str (iM ls (c/216))),.sh pl.pv]) (aC rfl (aC (qW hl rfl (il (c:=c) rfl (by decide) (by decide))) (aC rfl rfl))) rfl rfl))))))))⟩
   . have t1:∀ mu,jq (tT (aq eqP (aa 3) (eC (.int 1))) aU) (tT (aq rJ (eB cF (aj (aa 2) ao)) (eC (.int 0))) aU) (E none mu)=some (false,E none mu):=fun mu=>(wW (jx (a:=c%4) (ρ1:=E none mu) (c:=(c%4==1)) rfl rfl) (Hb rfl)).trans (by
      by_cases q:c%4=1
      . rw [aa2 fun z=>h1 ⟨q,z⟩,Bool.and_false]
      . rw [aa4.mpr q,Bool.false_and])
     exact ⟨.box (iM ns (c/4)),(mX hn).1,show (1:Nat)<=2 from by decide,fun mu=>bj (ρ:=E none mu) (aB (s3 mu) (n0 mu _ _ _ (aB (ρ':=E none mu) ((bG (t1 mu)).trans rfl) (b8 (fV (ls:=[.sh (.str "box"),.sh (.str (iM ns (c/4)))]) (aC rfl (aC (qW hn rfl (il (c:=c) rfl (by decide) (by decide))) rfl)) rfl rfl)))))⟩
def Gr (ns ls:List Str) (t:PV) (d:Int):Prop:=∃ (e:Ex) (z:Int),t=.tup [e.pv,.int z,.int d]/\e.okS ns ls/\(e.dp:Int)<=d
theorem tX {ns ls:List Str} {s:Str} {t u:PV} {d d':Int} (hs:Sg s) (h:Gr ns ls t d) (g:Gr ns ls u d'):∃ w,Gr ns ls w (1+max d d')/\∀ mu:Mu,bR [.str s,t,u] mu=some (.sh w,mu):=by
 obtain ⟨e,z,rfl,he,hd⟩:=h
 obtain ⟨e',z',rfl,he',hd'⟩:=g
 refine ⟨.tup [(Ex.op s e e').pv,.int (1+z+z'),.int (1+max d d')],⟨.op s e e',_,rfl,⟨hs,he,he'⟩,by show ((max e.dp e'.dp+1:Nat):Int)<=_; omega⟩,fun mu=>?_⟩
 let E:Ev:=⟨[zT s,zS (.tup [e.pv,.int z,.int d]),zS (.tup [e'.pv,.int z',.int d'])],mu⟩
 have mx:eB max2 (aj (aF (aa 1) (eC (.int 2))) (aj (aF (aa 2) (eC (.int 2))) ao)) E=some (.sh (.int (max d d')),E):=kE (ls:=[.sh (.int d),.sh (.int d')]) rfl rfl (by
  show some (Lc.sh (.int (if d'>d then d' else d)))=_
  have:(if d'>d then d' else d)=max d d':=by split<;>omega
  rw [this])
 exact bj (ρ:=E) (b8 (fV (ls:=[.sh (Ex.op s e e').pv,.sh (.int (1+z+z')),.sh (.int (1+max d d'))]) (aC rfl (aC (bO (bO rfl rfl rfl rfl rfl) rfl rfl rfl rfl) (aC (bO rfl rfl mx rfl rfl) rfl))) rfl rfl))
theorem Jr {i:Int} (h0:0<=i) (h1:i<5):∃ s,Sg s/\wO (.str "+-*<=") (.int i)=zT s:=by
 have go:∀ (c:Nat) (s:Str),Sg s->("+-*<=" : Str).length<=100000->gj ("+-*<=" : Str).cps.toList i=some c->(⟨#[c]⟩:Str)=s->∃ s,Sg s/\wO (.str "+-*<=") (.int i)=zT s:=fun c s hs hl hc e=>⟨s,hs,by
  show (if ("+-*<=" : Str).length<=100000 then (gj ("+-*<=" : Str).cps.toList i).map fun c=>Lc.sh (.str ⟨#[c]⟩) else none)=_
  rw [aaZ hl,hc,← e]
  rfl⟩
 have h:i=0\/i=1\/i=2\/i=3\/i=4:=by omega
 rcases h with rfl | rfl | rfl | rfl | rfl
 . exact go 43 "+" (.inl rfl) (by decide +kernel) (by decide +kernel) (by decide +kernel)
 . exact go 45 "-" (.inr (.inl rfl)) (by decide +kernel) (by decide +kernel) (by decide +kernel)
 . exact go 42 "*" (.inr (.inr (.inl rfl))) (by decide +kernel) (by decide +kernel) (by decide +kernel)
 . exact go 60 "<" (.inr (.inr (.inr (.inl rfl)))) (by decide +kernel) (by decide +kernel) (by decide +kernel)
 . exact go 61 "=" (.inr (.inr (.inr (.inr rfl)))) (by decide +kernel) (by decide +kernel) (by decide +kernel)
noncomputable abbrev XE (c:Int) (ns ls:List Str) (l3 l4 l5 l6 l7 l8:Option Lc) (mu:Mu):Ev:=⟨[zI c,zL (SS ns),zL (SS ls),l3,l4,l5,l6,l7,l8],mu⟩
noncomputable abbrev Xq:SF:=aH (aL 0 (aq aQ (aq cL (aa 0) (eC (.int 48271))) (eC (.int 2147483563))))
 (aH (aL 5 (bh (aj (aG fY (aj (aq bQ (aa 0) (eC (.int 40))) (aj (aa 1) (aj (aa 2) ao)))) (aj (eC (.int 3)) (aj (eC (.int 2)) ao)))))
 (aH (aL 6 (bh (aj (aG fY (aj (aq aQ (aq cL (aa 0) (eC (.int 16807))) (eC (.int 2147483587))) (aj (aa 1) (aj (aa 2) ao)))) (aj (eC (.int 3)) (aj (eC (.int 2)) ao)))))
 (aH (aL 7 (aF (eC (.str "+-*<=")) (aq aQ (aq bQ (aa 0) (eC (.int 5))) (eC (.int 5)))))
 (aH (bN (jq (tT (aq eqP (aq aQ (aa 0) (eC (.int 5))) (eC (.int 0))) aU) (tT (aq rJ (eB cF (aj (aa 2) ao)) (eC (.int 0))) aU))
 (aL 8 (bh (aj (bh (aj (eC (.str "@")) (aj (aF (aa 2) (aq aQ (aq bQ (aa 0) (eC (.int 25))) (eB cF (aj (aa 2) ao)))) (aj (aF (aa 3) (eC (.int 0))) ao)))) (aj (aq bK (eC (.int 2)) (aF (aa 3) (eC (.int 1)))) (aj (aq bK (eC (.int 1)) (aF (aa 3) (eC (.int 2)))) ao)))))
 (bN (tT (aq eqP (aq aQ (aa 0) (eC (.int 5))) (eC (.int 1))) aU)
 (aL 8 (aG bR (aj (aa 7) (aj (aa 5) (aj (aa 3) ao)))))
 (bN (tT (aq eqP (aq aQ (aa 0) (eC (.int 5))) (eC (.int 2))) aU)
 (aL 8 (aG bR (aj (aa 7) (aj (aG bR (aj (aF (eC (.str "+-*<=")) (aq aQ (aq bQ (aa 0) (eC (.int 25))) (eC (.int 5)))) (aj (aa 5) (aj (aa 6) ao)))) (aj (aa 3) ao)))))
 (aL 8 (aG bR (aj (aa 7) (aj (aa 3) (aj (aa 5) ao))))))))
 (bN (jq (tT (aq uB (aF (aa 8) (eC (.int 1))) (eC (.int 24))) aU) (tT (aq uB (aF (aa 8) (eC (.int 2))) (eC (.int 6))) aU))
 (aL 3 (aa 8))
 bY)))))
theorem Kv {c:Int} {ns ls:List Str} (hn:0<ns.length):∃ t,Gr ns ls t 2/\∀ (f:EF) (ρ:Ev),f ρ=some (.sh (.int c),ρ)->aa 1 ρ=some (.sh (.lst (SS ns)),ρ)->aa 2 ρ=some (.sh (.lst (SS ls)),ρ)->bh (aj (aG fY (aj f (aj (aa 1) (aj (aa 2) ao)))) (aj (eC (.int 3)) (aj (eC (.int 2)) ao))) ρ=some (.sh t,ρ):=by
 obtain ⟨e,ok,dp,h⟩:=Ti (c:=c) (ls:=ls) hn
 refine ⟨.tup [e.pv,.int 3,.int 2],⟨e,3,rfl,ok,by omega⟩,fun f ρ h1 h2 h3=>fV (ls:=[.sh e.pv,.sh (.int 3),.sh (.int 2)]) (aC (aY (ls:=[.sh (.int c),.sh (.lst (SS ns)),.sh (.lst (SS ls))]) (aC h1 (aC h2 (aC h3 rfl))) rfl rfl rfl (h ρ.mu)) (aC rfl (aC rfl rfl))) rfl rfl⟩
theorem Tj {c:Int} {ns ls:List Str} {t:PV} {d:Int} (hn:0<ns.length) (ht:Gr ns ls t d) (hd:d<=6):∃ c' t' d' p5 p6 p7 p8,Gr ns ls t' d'/\d'<=6/\∀ l4 l5 l6 l7 l8 (mu:Mu),Xq (XE c ns ls (zS t) l4 l5 l6 l7 l8 mu)=some (.nx (XE c' ns ls (zS t') l4 p5 p6 p7 p8 mu)):=by
 obtain ⟨c1,hc1⟩:∃ c1:Int,c*48271%2147483563=c1:=⟨_,rfl⟩
 obtain ⟨t5,g5,h5⟩:=Kv (c:=c1/40) (ls:=ls) hn
 obtain ⟨t6,g6,h6⟩:=Kv (c:=c1*16807%2147483587) (ls:=ls) hn
 obtain ⟨s,hs,es⟩:=Jr (i:=c1/5%5) (Zf _ (by decide)) (Za _ (by decide))
 obtain ⟨s2,hs2,es2⟩:=Jr (i:=c1/25%5) (Zf _ (by decide)) (Za _ (by decide))
 let T:Option Lc:=zS t
 let T5:Option Lc:=zS t5
 let T6:Option Lc:=zS t6
 let T7:Option Lc:=zT s
 have s0:∀ l4 l5 l6 l7 l8 mu,aL 0 (aq aQ (aq cL (aa 0) (eC (.int 48271))) (eC (.int 2147483563))) (XE c ns ls T l4 l5 l6 l7 l8 mu)=some (.nx (XE c1 ns ls T l4 l5 l6 l7 l8 mu)):=fun l4 l5 l6 l7 l8 mu=>by
  rw [← hc1]
  exact bA (ir (bO rfl rfl rfl rfl (pM (by decide) (by decide))) (by decide)) rfl rfl
 have s5:∀ l4 l5 l6 l7 l8 mu,aL 5 (bh (aj (aG fY (aj (aq bQ (aa 0) (eC (.int 40))) (aj (aa 1) (aj (aa 2) ao)))) (aj (eC (.int 3)) (aj (eC (.int 2)) ao)))) (XE c1 ns ls T l4 l5 l6 l7 l8 mu)=some (.nx (XE c1 ns ls T l4 T5 l6 l7 l8 mu)):=fun l4 l5 l6 l7 l8 mu=>bA (h5 _ _ (il (c:=c1) rfl (by decide) (by decide)) rfl rfl) rfl rfl
 have s6:∀ l4 l6 l7 l8 mu,aL 6 (bh (aj (aG fY (aj (aq aQ (aq cL (aa 0) (eC (.int 16807))) (eC (.int 2147483587))) (aj (aa 1) (aj (aa 2) ao)))) (aj (eC (.int 3)) (aj (eC (.int 2)) ao)))) (XE c1 ns ls T l4 T5 l6 l7 l8 mu)=some (.nx (XE c1 ns ls T l4 T5 T6 l7 l8 mu)):=fun l4 l6 l7 l8 mu=>bA (h6 _ _ (ir (bO rfl rfl rfl rfl (pM (by decide) (by decide))) (by decide)) rfl rfl) rfl rfl
 have s7:∀ l4 l7 l8 mu,aL 7 (aF (eC (.str "+-*<=")) (aq aQ (aq bQ (aa 0) (eC (.int 5))) (eC (.int 5)))) (XE c1 ns ls T l4 T5 T6 l7 l8 mu)=some (.nx (XE c1 ns ls T l4 T5 T6 T7 l8 mu)):=fun l4 l7 l8 mu=>bA (jf (l:=.sh (.str "+-*<=")) (m:=.sh (.int (c1/5%5))) rfl rfl (ir (il (c:=c1) rfl (by decide) (by decide)) (by decide)) rfl (fun n h=>by cases h) es) rfl rfl
 have tm:∀ (k:Int) l4 l8 mu,tT (aq eqP (aq aQ (aa 0) (eC (.int 5))) (eC (.int k))) aU (XE c1 ns ls T l4 T5 T6 T7 l8 mu)=some (c1%5==k,XE c1 ns ls T l4 T5 T6 T7 l8 mu):=fun k l4 l8 mu=>jx (ir (c:=c1) rfl (by decide)) rfl
 obtain ⟨t8,d8,g8,s8⟩:∃ t8 d8,Gr ns ls t8 d8/\∀ l4 l8 mu,bN (jq (tT (aq eqP (aq aQ (aa 0) (eC (.int 5))) (eC (.int 0))) aU) (tT (aq rJ (eB cF (aj (aa 2) ao)) (eC (.int 0))) aU))
  (aL 8 (bh (aj (bh (aj (eC (.str "@")) (aj (aF (aa 2) (aq aQ (aq bQ (aa 0) (eC (.int 25))) (eB cF (aj (aa 2) ao)))) (aj (aF (aa 3) (eC (.int 0))) ao)))) (aj (aq bK (eC (.int 2)) (aF (aa 3) (eC (.int 1)))) (aj (aq bK (eC (.int 1)) (aF (aa 3) (eC (.int 2)))) ao)))))
  (bN (tT (aq eqP (aq aQ (aa 0) (eC (.int 5))) (eC (.int 1))) aU)
  (aL 8 (aG bR (aj (aa 7) (aj (aa 5) (aj (aa 3) ao)))))
  (bN (tT (aq eqP (aq aQ (aa 0) (eC (.int 5))) (eC (.int 2))) aU)
  (aL 8 (aG bR (aj (aa 7) (aj (aG bR (aj (aF (eC (.str "+-*<=")) (aq aQ (aq bQ (aa 0) (eC (.int 25))) (eC (.int 5)))) (aj (aa 5) (aj (aa 6) ao)))) (aj (aa 3) ao)))))
  (aL 8 (aG bR (aj (aa 7) (aj (aa 3) (aj (aa 5) ao))))))) (XE c1 ns ls T l4 T5 T6 T7 l8 mu)=some (.nx (XE c1 ns ls T l4 T5 T6 T7 (zS t8) mu)):=by
  have ta:∀ l4 l8 mu,jq (tT (aq eqP (aq aQ (aa 0) (eC (.int 5))) (eC (.int 0))) aU) (tT (aq rJ (eB cF (aj (aa 2) ao)) (eC (.int 0))) aU) (XE c1 ns ls T l4 T5 T6 T7 l8 mu)=some ((c1%5==0)&&decide (0<ls.length),XE c1 ns ls T l4 T5 T6 T7 l8 mu):=fun l4 l8 mu=>wW (tm 0 l4 l8 mu) (Hb rfl)
  cases ha:((c1%5==0)&&decide (0<ls.length)) with
  | true=>
   rw [aag] at ha
   have hl:=of_decide_eq_true ha.2
   obtain ⟨e,z,rfl,ok,dp⟩:=ht
   refine ⟨.tup [(Ex.at_ (iM ls (c1/25)) e).pv,.int (2+z),.int (1+d)],1+d,⟨_,_,rfl,⟨(mX hl).1,ok⟩,by show ((e.dp+1:Nat):Int)<=_; omega⟩,fun l4 l8 mu=>(dB ((ta l4 l8 mu).trans (by rw [ha.1,ha.2]; rfl))).trans (bA (fV (ls:=[.sh (Ex.at_ (iM ls (c1/25)) e).pv,.sh (.int (2+z)),.sh (.int (1+d))]) (aC (fV (ls:=[.sh (.str "@"),.sh (.str (iM ls (c1/25))),.sh e.pv]) (aC rfl (aC (qW hl rfl (il (c:=c1) rfl (by decide) (by decide))) (aC rfl rfl))) rfl rfl) (aC (bO rfl rfl rfl rfl rfl) (aC (bO rfl rfl rfl rfl rfl) rfl))) rfl rfl) rfl rfl)⟩
  | false=>
   have no0:∀ l4 l8 mu (f g:SF) R,g (XE c1 ns ls T l4 T5 T6 T7 l8 mu)=R->bN (jq (tT (aq eqP (aq aQ (aa 0) (eC (.int 5))) (eC (.int 0))) aU) (tT (aq rJ (eB cF (aj (aa 2) ao)) (eC (.int 0))) aU)) f g (XE c1 ns ls T l4 T5 T6 T7 l8 mu)=R:=fun l4 l8 mu f g R h=>(bG ((ta l4 l8 mu).trans (by rw [ha]))).trans h
   cases h1:(c1%5==1) with
   | true=>
    obtain ⟨w,gw,hw⟩:=tX hs g5 ht
    have sx:∀ l4 l8 mu,aL 8 (aG bR (aj (aa 7) (aj (aa 5) (aj (aa 3) ao)))) (XE c1 ns ls T l4 T5 T6 T7 l8 mu)=some (.nx (XE c1 ns ls T l4 T5 T6 T7 (zS w) mu)):=fun l4 l8 mu=>bA (aY (ls:=[.sh (.str s),.sh t5,.sh t]) (ρ1:=XE c1 ns ls T l4 T5 T6 T7 l8 mu) rfl rfl rfl rfl (hw mu)) rfl rfl
    exact ⟨w,_,gw,fun l4 l8 mu=>no0 l4 l8 mu _ _ _ ((dB ((tm 1 l4 l8 mu).trans (by rw [h1]))).trans (sx l4 l8 mu))⟩
   | false=>
    cases h2:(c1%5==2) with
    | true=>
     obtain ⟨w0,gw0,hw0⟩:=tX hs2 g5 g6
     obtain ⟨w,gw,hw⟩:=tX hs gw0 ht
     have sx:∀ l4 l8 mu,aL 8 (aG bR (aj (aa 7) (aj (aG bR (aj (aF (eC (.str "+-*<=")) (aq aQ (aq bQ (aa 0) (eC (.int 25))) (eC (.int 5)))) (aj (aa 5) (aj (aa 6) ao)))) (aj (aa 3) ao)))) (XE c1 ns ls T l4 T5 T6 T7 l8 mu)=some (.nx (XE c1 ns ls T l4 T5 T6 T7 (zS w) mu)):=fun l4 l8 mu=>by
      have q:aG bR (aj (aF (eC (.str "+-*<=")) (aq aQ (aq bQ (aa 0) (eC (.int 25))) (eC (.int 5)))) (aj (aa 5) (aj (aa 6) ao))) (XE c1 ns ls T l4 T5 T6 T7 l8 mu)=some (.sh w0,XE c1 ns ls T l4 T5 T6 T7 l8 mu):=aY (ls:=[.sh (.str s2),.sh t5,.sh t6]) (ρ1:=XE c1 ns ls T l4 T5 T6 T7 l8 mu) (aC (jf (l:=.sh (.str "+-*<=")) (m:=.sh (.int (c1/25%5))) rfl rfl (ir (il (c:=c1) rfl (by decide) (by decide)) (by decide)) rfl (fun n h=>by cases h) es2) (aC rfl (aC rfl rfl))) rfl rfl rfl (hw0 mu)
      exact bA (aY (ls:=[.sh (.str s),.sh w0,.sh t]) (ρ1:=XE c1 ns ls T l4 T5 T6 T7 l8 mu) (aC rfl (aC q (aC rfl rfl))) rfl rfl rfl (hw mu)) rfl rfl
     exact ⟨w,_,gw,fun l4 l8 mu=>no0 l4 l8 mu _ _ _ ((bG ((tm 1 l4 l8 mu).trans (by rw [h1]))).trans ((dB ((tm 2 l4 l8 mu).trans (by rw [h2]))).trans (sx l4 l8 mu)))⟩
    | false=>
     obtain ⟨w,gw,hw⟩:=tX hs ht g5
     have sx:∀ l4 l8 mu,aL 8 (aG bR (aj (aa 7) (aj (aa 3) (aj (aa 5) ao)))) (XE c1 ns ls T l4 T5 T6 T7 l8 mu)=some (.nx (XE c1 ns ls T l4 T5 T6 T7 (zS w) mu)):=fun l4 l8 mu=>bA (aY (ls:=[.sh (.str s),.sh t,.sh t5]) (ρ1:=XE c1 ns ls T l4 T5 T6 T7 l8 mu) rfl rfl rfl rfl (hw mu)) rfl rfl
     exact ⟨w,_,gw,fun l4 l8 mu=>no0 l4 l8 mu _ _ _ ((bG ((tm 1 l4 l8 mu).trans (by rw [h1]))).trans ((bG ((tm 2 l4 l8 mu).trans (by rw [h2]))).trans (sx l4 l8 mu)))⟩
 obtain ⟨e8,z8,rfl,ok8,dp8⟩:=g8
 let T8:Option Lc:=zS (.tup [e8.pv,.int z8,.int d8])
 have te:∀ l4 mu,jq (tT (aq uB (aF (aa 8) (eC (.int 1))) (eC (.int 24))) aU) (tT (aq uB (aF (aa 8) (eC (.int 2))) (eC (.int 6))) aU) (XE c1 ns ls T l4 T5 T6 T7 T8 mu)=some (decide (z8<=24)&&decide (d8<=6),XE c1 ns ls T l4 T5 T6 T7 T8 mu):=fun l4 mu=>wW (d7 (bO rfl rfl rfl rfl rfl) rfl rfl) (d7 (bO rfl rfl rfl rfl rfl) rfl rfl)
 cases hb:(decide (z8<=24)&&decide (d8<=6)) with
 | true=>
  refine ⟨c1,_,d8,T5,T6,T7,T8,⟨e8,z8,rfl,ok8,dp8⟩,?_,fun l4 l5 l6 l7 l8 mu=>aB (s0 _ _ _ _ _ _) (aB (s5 _ _ _ _ _ _) (aB (s6 _ _ _ _ _) (aB (s7 _ _ _ _) (aB (s8 _ _ _) ((dB ((te _ _).trans (by rw [hb]))).trans rfl)))))⟩
  rw [aag] at hb
  exact of_decide_eq_true hb.2
 | false=>exact ⟨c1,t,d,T5,T6,T7,T8,ht,hd,fun l4 l5 l6 l7 l8 mu=>aB (s0 _ _ _ _ _ _) (aB (s5 _ _ _ _ _ _) (aB (s6 _ _ _ _ _) (aB (s7 _ _ _ _) (aB (s8 _ _ _) ((bG ((te _ _).trans (by rw [hb]))).trans rfl)))))⟩
theorem Js {ns ls:List Str} (hn:0<ns.length):∀ (xs:List PV) (c:Int) (t:PV) (d:Int),Gr ns ls t d->d<=6->∀ l4 l5 l6 l7 l8,∃ c' t' d' p4 p5 p6 p7 p8,Gr ns ls t' d'/\d'<=6/\∀ mu:Mu,iT (aJ 4) Xq xs (XE c ns ls (zS t) l4 l5 l6 l7 l8 mu)=some (.nx (XE c' ns ls (zS t') p4 p5 p6 p7 p8 mu))
 | [],c,t,d,h,hd,l4,l5,l6,l7,l8=>⟨c,t,d,l4,l5,l6,l7,l8,h,hd,fun _=>rfl⟩
 | x::xs,c,t,d,h,hd,l4,l5,l6,l7,l8=>by
  obtain ⟨c1,t1,d1,q5,q6,q7,q8,h1,hd1,e1⟩:=Tj (c:=c) hn h hd
  obtain ⟨c',t',d',p4,p5,p6,p7,p8,h',hd',e'⟩:=Js hn xs c1 t1 d1 h1 hd1 (zS x) q5 q6 q7 q8
  exact ⟨c',t',d',p4,p5,p6,p7,p8,h',hd',fun mu=>gB (ρ1:=XE c ns ls (zS t) (zS x) l5 l6 l7 l8 mu) rfl (e1 _ _ _ _ _ mu) (e' mu)⟩
theorem Ba {c:Int} {ns ls:List Str} (hn:0<ns.length):∃ e:Ex,e.okS ns ls/\e.dp<=40/\∀ mu:Mu,fu [.int c,.lst (SS ns),.lst (SS ls)] mu=some (.sh e.pv,mu):=by
 obtain ⟨t,g,ht⟩:=Kv (c:=c/5) (ls:=ls) hn
 obtain ⟨n,hc⟩:∃ n:Nat,c%5=(n:Int):=⟨(c%5).toNat,by have:=Zf c (b:=5) (by decide); omega⟩
 have h5:=Za c (b:=5) (by decide)
 obtain ⟨c',t',d',p4,p5,p6,p7,p8,⟨e,z,rfl,ok,dp⟩,hd',el⟩:=Js hn (cZ n) c t 2 g (by decide) none none none none none
 refine ⟨e,ok,by omega,fun mu=>?_⟩
 refine bj (ρ:=XE c' ns ls (zS (.tup [e.pv,.int z,.int d'])) p4 p5 p6 p7 p8 mu) (aB (ρ':=XE c ns ls (zS t) none none none none none mu) (bA (ht _ _ (il (c:=c) rfl (by decide) (by decide)) rfl rfl) rfl rfl) (aB (gR (ou (n:=n) (by rw [← hc]; exact ir (c:=c) rfl (by decide)) (by omega)) (el mu)) rfl))
def Rw.okS (ns ls:List Str):Rw->Prop
 | .asg _ x e=>x∈ns/\e.okS ns ls/\e.dp<=40
 | .put x p e=>x∈ls/\(p.okS ns ls/\p.dp<=40)/\e.okS ns ls/\e.dp<=40
theorem Tn {ns ls:List Str} {B:Bs} (h1:∀ x∈ns,yu B x) (h2:∀ x∈ls,GR B x) {r:Rw} (h:r.okS ns ls):r.ok B:=by
 cases r with
 | asg o x e=>exact ⟨h1 x h.1,uU h1 h2 h.2.1,h.2.2⟩
 | put x p e=>exact ⟨h2 x h.1,⟨uU h1 h2 h.2.1.1,h.2.1.2⟩,uU h1 h2 h.2.2.1,h.2.2.2⟩
theorem Tp {a b:Int} {ns ls:List Str} (hn:0<ns.length):∃ r:Rw,r.okS ns ls/\∀ mu:Mu,lD [.int a,.int b,.lst (SS ns),.lst (SS ls)] mu=some (.sh r.pv,mu):=by
 obtain ⟨e,ok,dp,he⟩:=Ba (c:=b) (ls:=ls) hn
 let x:=iM ns (a/4)
 have hx:x∈ns:=(mX hn).1
 let E:=fun l4 l5 l6 mu=>(⟨[zI a,zI b,zL (SS ns),zL (SS ls),l4,l5,l6],mu⟩:Ev)
 let V:Option Lc:=zS e.pv
 let X:Option Lc:=zT x
 have s4:∀ mu,aL 4 (aG fu (aj (aa 1) (aj (aa 2) (aj (aa 3) ao)))) (E none none none mu)=some (.nx (E V none none mu)):=fun mu=>bA (aY (ls:=[.sh (.int b),.sh (.lst (SS ns)),.sh (.lst (SS ls))]) rfl rfl rfl rfl (he mu)) rfl rfl
 have s5:∀ mu,aL 5 (aF (aa 2) (aq aQ (aq bQ (aa 0) (eC (.int 4))) (eB cF (aj (aa 2) ao)))) (E V none none mu)=some (.nx (E V X none mu)):=fun mu=>bA (qW hn rfl (il (c:=a) rfl (by decide) (by decide))) rfl rfl
 have tm:∀ (k:Int) l6 mu,tT (aq eqP (aq aQ (aa 0) (eC (.int 4))) (eC (.int k))) aU (E V X l6 mu)=some (a%4==k,E V X l6 mu):=fun k l6 mu=>jx (ir (c:=a) rfl (by decide)) rfl
 cases h0:(a%4==0) with
 | true=>exact ⟨.asg true x e,⟨hx,ok,dp⟩,fun mu=>bj (ρ:=E V X none mu) (aB (s4 mu) (aB (s5 mu) (gn ((dB ((tm 0 none mu).trans (by rw [h0]))).trans rfl))))⟩
 | false=>
  have n0:∀ mu (f g:SF) R,g (E V X none mu)=R->aH (bN (tT (aq eqP (aq aQ (aa 0) (eC (.int 4))) (eC (.int 0))) aU) f bY) g (E V X none mu)=R:=fun mu f g R h=>aB (ρ':=E V X none mu) ((bG ((tm 0 none mu).trans (by rw [h0]))).trans rfl) h
  have tl:∀ mu,tT (aq eqP (eB cF (aj (aa 3) ao)) (eC (.int 0))) aU (E V X none mu)=some (((ls.length:Nat):Int)==0,E V X none mu):=fun mu=>by
   refine jx (a:=(ls.length:Nat)) (kE (ls:=[.sh (.lst (SS ls))]) rfl rfl ?_) rfl
   show some (Lc.sh (.int ((SS ls).length:Nat)))=_
   rw [Yw]
  cases h1:((a%4==1)||(((ls.length:Nat):Int)==0)) with
  | true=>exact ⟨.asg false x e,⟨hx,ok,dp⟩,fun mu=>bj (ρ:=E V X none mu) (aB (s4 mu) (aB (s5 mu) (n0 mu _ _ _ (gn ((dB ((zW (tm 1 none mu) (tl mu)).trans (by rw [h1]))).trans rfl)))))⟩
  | false=>
   have hl:0<ls.length:=by
    rw [Bool.or_eq_false_iff] at h1
    have:=ne_of_beq_false h1.2
    omega
   have s6:∀ mu,aL 6 (bh (aj (eC (.str "num")) (aj (aq aQ (aq bQ (aa 0) (eC (.int 8))) (eC (.int 9))) ao))) (E V X none mu)=some (.nx (E V X (some (.sh (Ex.num (a/8%9)).pv)) mu)):=fun mu=>bA (fV (ls:=[.sh (.str "num"),.sh (.int (a/8%9))]) (aC rfl (aC (ir (il (c:=a) rfl (by decide) (by decide)) (by decide)) rfl)) rfl rfl) rfl rfl
   have q0:=Zf (a/8) (b:=9) (by decide)
   have q1:=Za (a/8) (b:=9) (by decide)
   have tp:∀ l6 mu,tT (aq eqP (aq aQ (aq bQ (aa 0) (eC (.int 4))) (eC (.int 2))) (eC (.int 1))) aU (E V X l6 mu)=some (a/4%2==1,E V X l6 mu):=fun l6 mu=>jx (ir (il (c:=a) rfl (by decide) (by decide)) (by decide)) rfl
   obtain ⟨p,okp,dpp,sp⟩:∃ p:Ex,p.okS ns ls/\p.dp<=40/\∀ mu,bN (tT (aq eqP (aq aQ (aq bQ (aa 0) (eC (.int 4))) (eC (.int 2))) (eC (.int 1))) aU) (aL 6 (aG fu (aj (aq bQ (aa 0) (eC (.int 72))) (aj (aa 2) (aj (aa 3) ao))))) bY (E V X (some (.sh (Ex.num (a/8%9)).pv)) mu)=some (.nx (E V X (zS p.pv) mu)):=by
    cases hb:(a/4%2==1) with
    | false=>exact ⟨.num (a/8%9),⟨q0,by omega⟩,show (1:Nat)<=40 from by decide,fun mu=>(bG ((tp _ mu).trans (by rw [hb]))).trans rfl⟩
    | true=>
     obtain ⟨p,okp,dpp,hp⟩:=Ba (c:=a/72) (ls:=ls) hn
     have sx:∀ l6 mu,aL 6 (aG fu (aj (aq bQ (aa 0) (eC (.int 72))) (aj (aa 2) (aj (aa 3) ao)))) (E V X l6 mu)=some (.nx (E V X (zS p.pv) mu)):=fun l6 mu=>bA (aY (ls:=[.sh (.int (a/72)),.sh (.lst (SS ns)),.sh (.lst (SS ls))]) (ρ1:=E V X l6 mu) (aC (il (c:=a) rfl (by decide) (by decide)) (aC rfl (aC rfl rfl))) rfl rfl rfl (hp mu)) rfl rfl
     exact ⟨p,okp,dpp,fun mu=>(dB ((tp _ mu).trans (by rw [hb]))).trans (sx _ mu)⟩
   exact ⟨.put (iM ls (a/144)) p e,⟨(mX hl).1,⟨okp,dpp⟩,ok,dp⟩,fun mu=>bj (ρ:=E V X (zS p.pv) mu) (aB (s4 mu) (aB (s5 mu) (n0 mu _ _ _ (aB (ρ':=E V X none mu) ((bG ((zW (tm 1 none mu) (tl mu)).trans (by rw [h1]))).trans rfl) (aB (s6 mu) (aB (sp mu) (b8 (fV (ls:=[.sh (.str "put"),.sh (.str (iM ls (a/144))),.sh p.pv,.sh e.pv]) (aC rfl (aC (qW hl rfl (il (c:=a) rfl (by decide) (by decide))) (aC rfl (aC rfl rfl)))) rfl rfl))))))))⟩
theorem Wq {i:Nat} {a:AF} {ρ ρ1 ρ':Ev} {ws0 ws:List PV} {k:Int} {le:Lc} {p:PV} (h0:ρ.vs[i]?=some (zO ws0)) (h:a ρ=some ([.sh (.int k),le],ρ1)) (hp:le.pv=p) (h1:ρ1.vs[i]?=some (zO ws)) (hk:0<=k/\k<=ws.length/\ws.length<100000) (e:ρ1.set i (zO (ws.take k.toNat++p::ws.drop k.toNat))=ρ'):Bu i a ρ=some (.nx ρ'):=by
 unfold Bu
 rw [h0]
 dsimp only
 rw [h,Yu]
 dsimp only
 rw [h1]
 dsimp only
 rw [aaZ hk,hp,e]
theorem Bb {f:EF} {lo hi:OF} {ρ ρ1 ρ2 ρ3:Ev} {l:Lc} {ps:List PV} {y z:Option Int} (h1:f ρ=some (l,ρ1)) (hl:l.pv=.lst ps) (h2:lo ρ1=some (y,ρ2)) (h3:hi ρ2=some (z,ρ3)):nC f lo hi ρ=some (.own (.lst (jl ps y z)),ρ3):=by
 unfold nC
 rw [h1,Yu]
 dsimp only
 rw [h2,Yu]
 dsimp only
 rw [h3,Yu,hl]
theorem Hc {f:EF} {ρ ρ1:Ev} {k:Int} (h:f ρ=some (.sh (.int k),ρ1)):gF f ρ=some (some k,ρ1):=by
 unfold gF
 rw [h]
 rfl
structure Jt (ns ls:List Str) (D:List (Str×Int)):Prop where
 pm:(D.map (·.1)).Perm (ls++ns)
 kd:∀ q∈D,(q.2=0/\q.1∈ns)\/(1<=q.2/\q.2<=8/\q.1∈ls)
theorem Qn {α:Type} {l:List α} {x:α} {k:Nat}:(l.take k++x::l.drop k).Perm (x::l):=by
 have h:(l.take k++x::l.drop k).Perm (x::(l.take k++l.drop k)):=Zk
 rw [List.take_append_drop] at h
 exact h
noncomputable abbrev tY (S:PV) (c:Int) (ns ls:List Str) (l4 l5 l6:Option Lc) (mu:Mu):Ev:=⟨[zS S,zI c,zL (SS ns),zL (SS ls),l4,l5,l6],mu⟩
noncomputable abbrev inB:SF:=Bu 4 (aj (aq aQ (aq bQ (aa 1) (eC (.int 648))) (aq bK (aa 5) (eC (.int 2)))) (aj (bh (aj (aF (aa 3) (aa 5)) (aj (aq bK (eC (.int 1)) (aq aQ (aq bQ (aa 1) (aq bK (eC (.int 9)) (aq cL (eC (.int 72)) (aa 5)))) (eC (.int 8)))) (aj (eC .non) ao)))) ao))
theorem Ju {S:PV} {c:Int} {ns ls:List Str} (hls:ls.length<=100):∀ (m k:Nat) (D:List (Str×Int)) (l5:Option Lc),k+m=ls.length->Jt ns (ls.take k) D->k+1<=D.length->D.length<=k+10->∃ D' p5,Jt ns ls D'/\∀ mu:Mu,iT (aJ 5) inB ((List.range' k m).map fun i=>PV.int (i:Nat)) (tY S c ns ls (zO (dcl D)) l5 none mu)=some (.nx (tY S c ns ls (zO (dcl D')) p5 none mu))
 | 0,k,D,l5,hk,h,_,_=>⟨D,l5,by rw [aam (by omega)] at h; exact h,fun _=>rfl⟩
 | m+1,k,D,l5,hk,h,h1,h2=>by
  have hkl:k<ls.length:=by omega
  let x:=ls[k]
  have hx:ls[k]?=some x:=YQ hkl
  have z0:=Zf (c/(9+72*(k:Int))) (b:=8) (by decide)
  have z1:=Za (c/(9+72*(k:Int))) (b:=8) (by decide)
  have i0:=Zf (c/648) (b:=(k:Int)+2) (by omega)
  have i1:=Za (c/648) (b:=(k:Int)+2) (by omega)
  let s:Int:=1+c/(9+72*(k:Int))%8
  let i:Int:=c/648%((k:Int)+2)
  let D1:=D.take i.toNat++(x,s)::D.drop i.toNat
  have pm1:D1.Perm ((x,s)::D):=Qn
  have tk:ls.take (k+1)=ls.take k++[x]:=by rw [List.take_succ,hx]; rfl
  have ok1:Jt ns (ls.take (k+1)) D1:=by
   refine ⟨(pm1.map _).trans ?_,fun q hq=>?_⟩
   . rw [tk]
     show (x::D.map (·.1)).Perm _
     refine (h.pm.cons x).trans ?_
     rw [Y0]
     exact Zk.symm
   . rcases YC.mp (pm1.mem_iff.mp hq) with e | hq
     . rw [e]
       exact .inr ⟨by show 1<=1+_; omega,by show 1+_<=(8:Int); omega,by rw [tk]; exact Zd _ Yv⟩
     . rcases h.kd q hq with g | ⟨g1,g2,g3⟩
       . exact .inl g
       . exact .inr ⟨g1,g2,by rw [tk]; exact Zv _ g3⟩
  have cF:D1.length=D.length+1:=pm1.length_eq
  obtain ⟨D',p5,ok',e'⟩:=Ju (S:=S) (c:=c) hls m (k+1) D1 (zI (k:Nat)) (by omega) ok1 (by omega) (by omega)
  refine ⟨D',p5,ok',fun mu=>?_⟩
  let E:=fun l4=>tY S c ns ls l4 (zI (k:Nat)) none mu
  have ea:aj (aq aQ (aq bQ (aa 1) (eC (.int 648))) (aq bK (aa 5) (eC (.int 2)))) (aj (bh (aj (aF (aa 3) (aa 5)) (aj (aq bK (eC (.int 1)) (aq aQ (aq bQ (aa 1) (aq bK (eC (.int 9)) (aq cL (eC (.int 72)) (aa 5)))) (eC (.int 8)))) (aj (eC .non) ao)))) ao) (E (zO (dcl D)))=some ([.sh (.int i),.sh (.tup [.str x,.int s,.non])],E (zO (dcl D))):=by
   have e1:aq aQ (aq bQ (aa 1) (eC (.int 648))) (aq bK (aa 5) (eC (.int 2))) (E (zO (dcl D)))=some (.sh (.int i),E (zO (dcl D))):=bO (m:=.sh (.int ((k:Int)+2))) (il (c:=c) rfl (by decide) (by decide)) rfl (bO rfl rfl rfl rfl rfl) rfl (eZ (by omega))
   have e2:aq bQ (aa 1) (aq bK (eC (.int 9)) (aq cL (eC (.int 72)) (aa 5))) (E (zO (dcl D)))=some (.sh (.int (c/(9+72*(k:Int)))),E (zO (dcl D))):=bO (m:=.sh (.int (9+72*(k:Int)))) rfl rfl (bO (m:=.sh (.int (72*(k:Int)))) rfl rfl (bO rfl rfl rfl rfl (pL (by decide) (by decide))) rfl rfl) rfl (CT (by omega) (by omega))
   have e3:aF (aa 3) (aa 5) (E (zO (dcl D)))=some (.sh (.str x),E (zO (dcl D))):=jf (l:=.sh (.lst (SS ls))) (m:=.sh (.int (k:Nat))) rfl rfl rfl rfl (fun n h=>by cases h) (by show (gj (SS ls) (k:Nat)).map _=_; rw [lG (p:=.str x) (by rw [Y7,hx]; rfl)]; rfl)
   exact aC e1 (aC (fV (ls:=[.sh (.str x),.sh (.int s),.sh .non]) (aC e3 (aC (bO rfl rfl (ir e2 (by decide)) rfl rfl) (aC rfl rfl))) rfl rfl) rfl)
  have st:inB (E (zO (dcl D)))=some (.nx (E (zO (dcl D1)))):=by
   refine Wq (ws0:=dcl D) (ws:=dcl D) (p:=.tup [.str x,.int s,.non]) rfl ea rfl rfl ⟨i0,by rw [Yw]; show i<=_; omega,by rw [Yw]; omega⟩ ?_
   show E (zO ((dcl D).take i.toNat++.tup [.str x,.int s,.non]::(dcl D).drop i.toNat))=_
   rw [show dcl D1=(dcl D).take i.toNat++.tup [.str x,.int s,.non]::(dcl D).drop i.toNat from by
    show (D.take i.toNat++(x,s)::D.drop i.toNat).map _=_
    rw [Y6,YT,List.map_take,List.map_drop]]
  rw [aah,YT]
  exact gB (ρ1:=E (zO (dcl D))) rfl st (e' mu)
theorem Dm {ns0:List Int} {c:Int} {ns ls:List Str} (hn:0<ns.length) (h63:ns0.length<=63):∀ (m k:Nat) (rs:List Rw) (l4 l5:Option Lc),k+m<=100->rs.length=k->(∀ r∈rs,r.okS ns ls)->∃ (rs':List Rw) (p5:Option Lc),rs'.length=k+m/\(∀ r∈rs',r.okS ns ls)/\∀ mu:Mu,iT (aJ 5) (ig 6 (aG lD (aj (aG bB (aj (aa 0) (aj (aq bK (eC (.int 3)) (aq cL (eC (.int 2)) (aa 5))) ao))) (aj (aG bB (aj (aa 0) (aj (aq bK (eC (.int 4)) (aq cL (eC (.int 2)) (aa 5))) ao))) (aj (aa 2) (aj (aa 3) ao)))))) ((List.range' k m).map fun i=>PV.int (i:Nat)) (tY (.lst (ns0.map .int)) c ns ls l4 l5 (zO (rs.map Rw.pv)) mu)=some (.nx (tY (.lst (ns0.map .int)) c ns ls l4 p5 (zO (rs'.map Rw.pv)) mu))
 | 0,k,rs,l4,l5,_,hr,hok=>⟨rs,l5,hr,hok,fun _=>rfl⟩
 | m+1,k,rs,l4,l5,hk,hr,hok=>by
  obtain ⟨a,_,_,ea⟩:=cell_eq (ns:=ns0) (k:=3+2*(k:Int)) h63 (by omega) (by omega)
  obtain ⟨b,_,_,eb⟩:=cell_eq (ns:=ns0) (k:=4+2*(k:Int)) h63 (by omega) (by omega)
  obtain ⟨r,okr,er⟩:=Tp (a:=a) (b:=b) (ls:=ls) hn
  obtain ⟨rs',p5,lr,ok',e'⟩:=Dm (c:=c) (ls:=ls) hn h63 m (k+1) (rs++[r]) l4 (zI (k:Nat)) (by omega) (by rw [YD,hr]; rfl) (fun q hq=>by
   rcases ZK.mp hq with h | h
   . exact hok q h
   . rw [ZX.mp h]; exact okr)
  refine ⟨rs',p5,by omega,ok',fun mu=>?_⟩
  generalize hS:PV.lst (ns0.map PV.int)=S at ea eb e'
  let E:=fun l6=>tY S c ns ls l4 (zI (k:Nat)) l6 mu
  have cl:∀ (j v:Int) l6,(∀ mu,bB [S,.int (j+2*(k:Int))] mu=some (.sh (.int v),mu))->aG bB (aj (aa 0) (aj (aq bK (eC (.int j)) (aq cL (eC (.int 2)) (aa 5))) ao)) (E l6)=some (.sh (.int v),E l6):=fun j v l6 h=>aY (ls:=[.sh S,.sh (.int (j+2*(k:Int)))]) (ρ1:=E l6) (aC rfl (aC (bO (m:=.sh (.int (2*(k:Int)))) rfl rfl (bO rfl rfl rfl rfl (pL (by decide) (by decide))) rfl rfl) rfl)) rfl rfl rfl (h mu)
  have st:ig 6 (aG lD (aj (aG bB (aj (aa 0) (aj (aq bK (eC (.int 3)) (aq cL (eC (.int 2)) (aa 5))) ao))) (aj (aG bB (aj (aa 0) (aj (aq bK (eC (.int 4)) (aq cL (eC (.int 2)) (aa 5))) ao))) (aj (aa 2) (aj (aa 3) ao))))) (E (zO (rs.map Rw.pv)))=some (.nx (E (zO ((rs++[r]).map Rw.pv)))):=by
   refine nA (ws0:=rs.map Rw.pv) (ws:=rs.map Rw.pv) (l:=.sh r.pv) (ρ1:=E (zO (rs.map Rw.pv))) rfl (aY (ls:=[.sh (.int a),.sh (.int b),.sh (.lst (SS ns)),.sh (.lst (SS ls))]) (ρ1:=E (zO (rs.map Rw.pv))) (aC (cl 3 a _ ea) (aC (cl 4 b _ eb) (aC rfl (aC rfl rfl)))) rfl rfl rfl (er mu)) rfl rfl (by rw [Yw]; omega) ?_
   show E (zO (rs.map Rw.pv++[r.pv]))=_
   rw [Y6]
   rfl
  rw [aah,YT]
  exact gB (ρ1:=E (zO (rs.map Rw.pv))) rfl st (e' mu)
noncomputable abbrev Bc:PV:=.lst [.tup [.str "may",.str "high",.str "low"]]
theorem Qo {i j:Nat} (hi:i<3) (hj:j<3):((["r", "anr"]:List Str).take j++(["an", "n", "a"]:List Str).take (i+1)).Nodup:=by
 have:(i=0\/i=1\/i=2)/\(j=0\/j=1\/j=2):=by omega
 rcases this with ⟨rfl | rfl | rfl,rfl | rfl | rfl⟩<;>decide +kernel
theorem Tq {ns0:List Int} (h63:ns0.length<=63):∃ (D:List (Str×Int)) (rs:List Rw) (ns ls:List Str),0<ns.length/\(ls++ns).Nodup/\(ls++ns).length<=10/\Jt ns ls D/\rs.length<=100/\(∀ r∈rs,r.okS ns ls)/\∀ mu:Mu,gA [.lst (ns0.map .int)] mu=some (.sh (fD (.lst (dcl D)) Bc rs),mu):=by
 obtain ⟨c,_,_,ec⟩:=cell_eq (ns:=ns0) (k:=0) h63 (by decide) (by decide)
 obtain ⟨c1,_,_,ec1⟩:=cell_eq (ns:=ns0) (k:=1) h63 (by decide) (by decide)
 obtain ⟨i,hi⟩:∃ i:Nat,c%3=(i:Int):=⟨(c%3).toNat,by have:=Zf c (b:=3) (by decide); omega⟩
 obtain ⟨j,hj⟩:∃ j:Nat,c/3%3=(j:Int):=⟨(c/3%3).toNat,by have:=Zf (c/3) (b:=3) (by decide); omega⟩
 obtain ⟨m,hm⟩:∃ m:Nat,c1%41=(m:Int):=⟨(c1%41).toNat,by have:=Zf c1 (b:=41) (by decide); omega⟩
 have i3:i<3:=by have:=Za c (b:=3) (by decide); omega
 have j3:j<3:=by have:=Za (c/3) (b:=3) (by decide); omega
 have m41:m<41:=by have:=Za c1 (b:=41) (by decide); omega
 let ns:List Str:=(["an", "n", "a"]:List Str).take (i+1)
 let ls:List Str:=(["r", "anr"]:List Str).take j
 have ln:ns.length=i+1:=by rw [aaf]; show min (i+1) 3=_; omega
 have ll:ls.length=j:=by rw [aaf]; show min j 2=_; omega
 have cn:jl (SS ["an", "n", "a"]) none (some (1+(i:Int)))=SS ns:=by
  have:i=0\/i=1\/i=2:=by omega
  rcases this with h | h | h<;>(simp only [ns,h]; rfl)
 have cl:jl (SS ["r", "anr"]) none (some (j:Int))=SS ls:=by
  have:j=0\/j=1\/j=2:=by omega
  rcases this with h | h | h<;>(simp only [ls,h]; rfl)
 let D0:List (Str×Int):=ns.map fun x=>(x,0)
 have ok0:Jt ns (ls.take 0) D0:=by
  refine ⟨?_,fun q hq=>?_⟩
  . show ((ns.map fun x=>(x,(0:Int))).map (·.1)).Perm ([]++ns)
    rw [Zc,ZL]
    have:ns.map ((fun q:Str×Int=>q.1) ∘ fun x=>(x,(0:Int)))=ns:=by rw [show ((fun q:Str×Int=>q.1) ∘ fun x=>(x,(0:Int)))=id from rfl,List.map_id]
    rw [this]
  . obtain ⟨x,hx,rfl⟩:=YZ.mp hq
    exact .inl ⟨rfl,hx⟩
 have ld0:D0.length=i+1:=by rw [Yw,ln]
 generalize hS:PV.lst (ns0.map PV.int)=S at ec ec1
 obtain ⟨D,p5,okD,eD⟩:=Ju (S:=S) (c:=c) (ns:=ns) (ls:=ls) (by omega) j 0 D0 none (by omega) ok0 (by omega) (by omega)
 obtain ⟨rs,q5,lr,okr,er⟩:=Dm (ns0:=ns0) (c:=c) (ls:=ls) (by omega:0<ns.length) h63 m 0 [] (zO (dcl D)) p5 (by omega) rfl (fun r h=>by cases h)
 rw [hS] at er
 refine ⟨D,rs,ns,ls,by omega,Qo i3 j3,by rw [YD]; omega,okD,by omega,okr,fun mu=>?_⟩
 let E:=fun l1 l2 l3 l4 l5 l6=>(⟨[zS S,l1,l2,l3,l4,l5,l6],mu⟩:Ev)
 let C:Option Lc:=zI c
 have s1:aL 1 (aG bB (aj (aa 0) (aj (eC (.int 0)) ao))) (E none none none none none none)=some (.nx (E C none none none none none)):=bA (aY (ls:=[.sh S,.sh (.int 0)]) (ρ1:=E none none none none none none) rfl rfl rfl rfl (ec mu)) rfl rfl
 have s2:aL 2 (nC (bW (aj (eC (.str "an")) (aj (eC (.str "n")) (aj (eC (.str "a")) ao)))) ie (gF (aq bK (eC (.int 1)) (aq aQ (aa 1) (eC (.int 3)))))) (E C none none none none none)=some (.nx (E C (zO (SS ns)) none none none none)):=by
  rw [← cn]
  refine bA (Bb (l:=.own (.lst (SS ["an", "n", "a"]))) (ρ1:=E C none none none none none) rfl rfl rfl (Hc (bO rfl rfl (ir (c:=c) rfl (by decide)) rfl ?_))) rfl rfl
  rw [hi]
  rfl
 have s3:aL 3 (nC (bW (aj (eC (.str "r")) (aj (eC (.str "anr")) ao))) ie (gF (aq aQ (aq bQ (aa 1) (eC (.int 3))) (eC (.int 3))))) (E C (zO (SS ns)) none none none none)=some (.nx (E C (zO (SS ns)) (zO (SS ls)) none none none)):=by
  rw [← cl,← hj]
  exact bA (Bb (l:=.own (.lst (SS ["r", "anr"]))) (ρ1:=E C (zO (SS ns)) none none none none) rfl rfl rfl (Hc (ir (il (c:=c) rfl (by decide) (by decide)) (by decide)))) rfl rfl
 have ecm:=je (b:=aJ 0) (te:=bh (aj (aa 0) (aj (eC (.int 0)) (aj (eC .non) ao)))) (mu:=mu) (fun ρ=>∃ o,ρ=⟨[o],mu⟩) (fun ρ ⟨o,e⟩=>by rw [e]) (fun p=>.tup [p,.int 0,.non]) (xs:=SS ns) (ρ:=⟨[none],mu⟩) ⟨none,rfl⟩ (by rw [Yw]; omega) (by
  rintro p hp ρ ⟨o,rfl⟩
  exact ⟨⟨[zS p],mu⟩,rfl,.sh (.tup [p,.int 0,.non]),⟨[zS p],mu⟩,rfl,rfl,_,rfl⟩) (by
  rintro p hp ρ ρ1 ⟨o,rfl⟩ e
  cases e
  exact ⟨_,rfl⟩)
 rw [show (SS ns).map (fun p=>PV.tup [p,.int 0,.non])=dcl D0 from by show (ns.map PV.str).map _=(ns.map fun x=>(x,(0:Int))).map _; rw [Zc,Zc]; rfl] at ecm
 have s4:aL 4 (dq (gC (aa 2) du) 1 [] (aJ 0) dN (bh (aj (aa 0) (aj (eC (.int 0)) (aj (eC .non) ao))))) (E C (zO (SS ns)) (zO (SS ls)) none none none)=some (.nx (E C (zL (SS ns)) (zO (SS ls)) (zO (dcl D0)) none none)):=bA (jm (f:=gC (aa 2) du) (m:=1) (ixs:=[]) (ρ1:=E C (zL (SS ns)) (zO (SS ls)) none none none) (pN (l:=.sh (.lst (SS ns))) rfl rfl) ecm) rfl rfl
 have s5:gM (dm (aj (eB cF (aj (aa 3) ao)) ao)) (aJ 5) inB (E C (zL (SS ns)) (zO (SS ls)) (zO (dcl D0)) none none)=some (.nx (tY S c ns ls (zO (dcl D)) p5 none mu)):=by
  refine gR (ρ1:=tY S c ns ls (zO (dcl D0)) none none mu) (ou (n:=j) (kE (ls:=[.sh (.lst (SS ls))]) rfl rfl (by show some (Lc.sh (.int ((SS ls).length:Nat)))=_; rw [Yw,ll])) (by omega)) ?_
  rw [← m6]
  exact eD mu
 have s7:gM (dm (aj (aq aQ (aG bB (aj (aa 0) (aj (eC (.int 1)) ao))) (eC (.int 41))) ao)) (aJ 5) (ig 6 (aG lD (aj (aG bB (aj (aa 0) (aj (aq bK (eC (.int 3)) (aq cL (eC (.int 2)) (aa 5))) ao))) (aj (aG bB (aj (aa 0) (aj (aq bK (eC (.int 4)) (aq cL (eC (.int 2)) (aa 5))) ao))) (aj (aa 2) (aj (aa 3) ao)))))) (tY S c ns ls (zO (dcl D)) p5 (zO []) mu)=some (.nx (tY S c ns ls (zO (dcl D)) q5 (zO (rs.map Rw.pv)) mu)):=by
  refine gR (ρ1:=tY S c ns ls (zO (dcl D)) p5 (zO []) mu) (ou (n:=m) (by rw [← hm]; exact ir (aY (ls:=[.sh S,.sh (.int 1)]) (ρ1:=tY S c ns ls (zO (dcl D)) p5 (zO []) mu) rfl rfl rfl rfl (ec1 mu)) (by decide)) (by omega)) ?_
  rw [← m6]
  exact er mu
 exact bj (ρ:=tY S c ns ls (zL (dcl D)) q5 (zL (rs.map Rw.pv)) mu) (aB s1 (aB s2 (aB s3 (aB s4 (aB s5 (aB (ρ':=tY S c ns ls (zO (dcl D)) p5 (zO []) mu) rfl (aB s7 rfl)))))))
def Pl:Nat->PV->Prop
 | 0,_=>False
 | _+1,.non=>True
 | _+1,.int _=>True
 | _+1,.str _=>True
 | n+1,.tup ps=>∀ p∈ps,Pl n p
 | n+1,.lst ps=>∀ p∈ps,Pl n p
 | _+1,_=>False
theorem xG {f:PV->PV->Option Bool}:∀ ps:List PV,(∀ p∈ps,f p p=some true)->rH f ps ps=some true
 | [],_=>rfl
 | p::ps,h=>by
  show (f p p).bind _=_
  rw [h p Yv,Yu,xG ps fun q hq=>h q (YG _ hq)]
  rfl
theorem Pl.eq:∀ {n:Nat} {p:PV},Pl n p->fZ n p p=some true
 | n+1,.non,_=>rfl
 | n+1,.int i,_=>by show some (i==i)=_; rw [aa5]
 | n+1,.str x,_=>by show some (x==x)=_; rw [aa5]
 | n+1,.tup ps,h=>by
  show (rH (fZ n) ps ps).map _=_
  rw [xG ps fun p hp=>Pl.eq (h p hp)]
  show some (true&&(ps.length==ps.length))=_
  rw [aa5]
  rfl
 | n+1,.lst ps,h=>by
  show (if ps.length=ps.length then rH (fZ n) ps ps else some false)=_
  rw [aaZ rfl,xG ps fun p hp=>Pl.eq (h p hp)]
theorem Pl.res {mu:Mu}:∀ {n:Nat} {p:PV} {k:Nat},Pl n p->aW mu k p=p
 | _,_,0,_=>rfl
 | n+1,.non,k+1,_=>rfl
 | n+1,.int i,k+1,_=>rfl
 | n+1,.str x,k+1,_=>rfl
 | n+1,.tup ps,k+1,h=>by
  show PV.tup (ps.map (aW mu k))=_
  rw [Zn fun p hp=>(h p hp).res (k:=k),List.map_id']
 | n+1,.lst ps,k+1,h=>by
  show PV.lst (ps.map (aW mu k))=_
  rw [Zn fun p hp=>(h p hp).res (k:=k),List.map_id']
theorem Pl.up:∀ {n m:Nat} {X:PV},n<=m->Pl n X->Pl m X
 | 0,_,_,_,h=>h.elim
 | n+1,m+1,.non,_,_=>trivial
 | n+1,m+1,.int _,_,_=>trivial
 | n+1,m+1,.str _,_,_=>trivial
 | n+1,m+1,.tup ps,hm,h=>fun p hp=>(h p hp).up (by omega)
 | n+1,m+1,.lst ps,hm,h=>fun p hp=>(h p hp).up (by omega)
 | n+1,0,_,hm,_=>by omega
theorem Kw {p:PV} (h:Pl 150 p):pK p p=zS (.bl false):=by
 show (fZ 150 p p).map _=_
 rw [h.eq]
 rfl
theorem Ex.pl:∀ e:Ex,Pl (e.dp+1) e.pv
 | .num i=>fun p hp=>by
  simp only [YC,Y8,or_false] at hp
  rcases hp with rfl | rfl<;>exact trivial
 | .box x=>fun p hp=>by
  simp only [YC,Y8,or_false] at hp
  rcases hp with rfl | rfl<;>exact trivial
 | .at_ x e=>fun p hp=>by
  simp only [YC,Y8,or_false] at hp
  rcases hp with rfl | rfl | rfl
  . exact trivial
  . exact trivial
  . exact e.pl
 | .op s a b=>fun p hp=>by
  simp only [YC,Y8,or_false] at hp
  rcases hp with rfl | rfl | rfl
  . exact trivial
  . exact a.pl.up (by show _<=max a.dp b.dp+1; omega)
  . exact b.pl.up (by show _<=max a.dp b.dp+1; omega)
theorem Xd {r:Rw} {B:Bs} (h:r.ok B):Pl 60 r.pv:=by
 cases r with
 | asg o x e=>
  have he:=e.pl.up (m:=59) (by have:=h.2.2; omega)
  cases o with
  | true=>
   refine fun p hp=>?_
   simp only [YC,Y8,or_false] at hp
   rcases hp with rfl | rfl | rfl | rfl
   . exact trivial
   . exact trivial
   . exact he
   . exact trivial
  | false=>
   refine fun p hp=>?_
   simp only [YC,Y8,or_false] at hp
   rcases hp with rfl | rfl | rfl
   . exact trivial
   . exact trivial
   . exact he
 | put x q e=>
  have he:=e.pl.up (m:=59) (by have:=h.2.2.2; omega)
  have hq:=q.pl.up (m:=59) (by have:=h.2.1.2; omega)
  refine fun p hp=>?_
  simp only [YC,Y8,or_false] at hp
  rcases hp with rfl | rfl | rfl | rfl
  . exact trivial
  . exact trivial
  . exact hq
  . exact he
theorem Wr {D:List (Str×Int)}:Pl 3 (.lst (dcl D)):=by
 refine fun p hp=>?_
 obtain ⟨q,_,rfl⟩:=YZ.mp hp
 refine fun p hp=>?_
 simp only [YC,Y8,or_false] at hp
 rcases hp with rfl | rfl | rfl<;>exact trivial
theorem Ws {D:List (Str×Int)} {rs:List Rw} {B:Bs} (h:∀ r∈rs,r.ok B):Pl 70 (fD (.lst (dcl D)) Bc rs):=by
 refine fun p hp=>?_
 simp only [YC,Y8,or_false] at hp
 rcases hp with rfl | rfl | rfl | rfl
 . exact Wr.up (by decide)
 . refine fun p hp=>?_
   rw [ZX.mp hp]
   refine fun p hp=>?_
   simp only [YC,Y8,or_false] at hp
   rcases hp with rfl | rfl | rfl<;>exact trivial
 . exact fun p hp=>by cases hp
 . refine fun p hp=>?_
   obtain ⟨r,hr,rfl⟩:=YZ.mp hp
   exact (Xd (h r hr)).up (by decide)
theorem Nt {B:Bs}:Pl 3 (.lst (gf B)):=by
 refine fun p hp=>?_
 obtain ⟨q,_,rfl⟩:=YZ.mp hp
 cases q.2 with
 | n i=>exact trivial
 | l is=>
  refine fun p hp=>?_
  obtain ⟨i,_,rfl⟩:=YZ.mp hp
  exact trivial
theorem Nu {m:cD}:Pl 5 m.pv:=by
 refine fun p hp=>?_
 simp only [YC,Y8,or_false] at hp
 rcases hp with rfl | rfl | rfl
 . exact trivial
 . exact trivial
 . refine fun p hp=>?_
   obtain ⟨e,_,rfl⟩:=YZ.mp hp
   refine fun p hp=>?_
   simp only [YC,Y8,or_false] at hp
   rcases hp with rfl | rfl | rfl<;>exact trivial
theorem Cg {ms:List cD}:Pl 6 (.lst (ms.map cD.pv)):=by
 refine fun p hp=>?_
 obtain ⟨m,_,rfl⟩:=YZ.mp hp
 exact Nu
noncomputable def lR (c:Int) (k:Nat):Int:=(c+(k:Int))*((k:Int)*(k:Int)+40014)%2147483563
noncomputable def vR (c:Int) (k:Nat) (s:Int):List Int:=(List.range s.toNat).map fun j=>lO (lR c k*(((j:Nat):Int)+16807)%2147483587)
noncomputable def o7 (c:Int) (k:Nat) (s:Int):BV:=if s=0 then .n (lO (lR c k)) else .l (vR c k s)
noncomputable def m8 (c:Int):Nat->List (Str×Int)->Bs
 | _,[]=>[]
 | k,(x,s)::D=>(x,o7 c k s)::m8 c (k+1) D
theorem Q5 {c:Int}:∀ {D:List (Str×Int)} {k:Nat},(∀ q∈D,0<=q.2/\q.2<=8)->qj D (m8 c k D)
 | [],_,_=>trivial
 | (x,s)::D,k,h=>by
  refine ⟨rfl,?_,Q5 fun q hq=>h q (YG _ hq)⟩
  obtain ⟨h0,h8⟩:=h (x,s) Yv
  have h0:0<=s:=h0
  have h8:s<=8:=h8
  unfold o7
  by_cases e:s=0
  . rw [aaZ e]
    exact ⟨e,vO _⟩
  . rw [aa0 e]
    have ll:(vR c k s).length=s.toNat:=by unfold vR; rw [Yw,ZJ]
    refine ⟨by rw [ll]; omega,e,by rw [ll]; omega,fun i hi=>?_⟩
    obtain ⟨j,_,rfl⟩:=YZ.mp hi
    exact vO _
theorem zg {c:Int} {x:Str}:∀ {D:List (Str×Int)} {k:Nat},x∈D.map (·.1)->∃ s k',(x,s)∈D/\look (m8 c k D) x=some (o7 c k' s)
 | (y,s)::D,k,h=>by
  by_cases e:y=x
  . exact ⟨s,k,by rw [e]; exact Yv,by rw [show m8 c k ((y,s)::D)=(y,o7 c k s)::m8 c (k+1) D from rfl,nZ,aaZ e]⟩
  . rcases YC.mp h with h | h
    . exact absurd h.symm e
    . obtain ⟨s',k',g1,g2⟩:=zg (c:=c) (k:=k+1) h
      exact ⟨s',k',YG _ g1,by rw [show m8 c k ((y,s)::D)=(y,o7 c k s)::m8 c (k+1) D from rfl,nZ,aa0 e]; exact g2⟩
theorem Xe {c:Int} {D:List (Str×Int)} {rs:List Rw} {ns ls:List Str} (nd:(ls++ns).Nodup) (l10:(ls++ns).length<=10) (hD:Jt ns ls D) (hl:rs.length<=100) (ok:∀ r∈rs,r.okS ns ls):Pr D (m8 c 0 D) rs:=by
 have su:qj D (m8 c 0 D):=Q5 fun q hq=>by
  rcases hD.kd q hq with ⟨h,_⟩ | ⟨h1,h2,_⟩
  . omega
  . omega
 have nm:=su.names
 have nd':((m8 c 0 D).map (·.1)).Nodup:=by
  rw [← nm]
  exact hD.pm.nodup_iff.mpr nd
 have len:(m8 c 0 D).length<=10:=by
  have h:=hD.pm.length_eq
  rw [nm,Yw] at h
  omega
 have bok:Ao (m8 c 0 D):=by
  have key:∀ (D:List (Str×Int)) (B:Bs),qj D B->∀ q∈B,q.2.ok/\∀ is,q.2=.l is->is.length<=8:=fun D=>by
   induction D with
   | nil=>intro B h q hq; cases B with
    | nil=>cases hq
    | cons b B=>exact h.elim
   | cons d D ih=>
    intro B h q hq
    cases B with
    | nil=>exact h.elim
    | cons b B=>
     obtain ⟨_,h2,h3⟩:=h
     rcases YC.mp hq with rfl | hq
     . cases hv:q.2 with
       | n i=>rw [hv] at h2; exact ⟨h2.2,fun is e=>by cases e⟩
       | l js=>rw [hv] at h2; exact ⟨h2.2.2.2,fun is e=>by cases e; exact h2.2.2.1⟩
     . exact ih B h3 q hq
  exact ⟨fun q hq=>(key _ _ su q hq).1,fun q hq=>(key _ _ su q hq).2⟩
 have mem:∀ x,x∈ls++ns->x∈D.map (·.1):=fun x hx=>hD.pm.mem_iff.mpr hx
 have dis:∀ x,x∈ns->x∈ls->False:=fun x h1 h2=>(aab.mp nd).2.2 x h2 x h1 rfl
 refine ⟨su,⟨bok,nd',by omega⟩,by omega,fun r hr=>Tn (fun x hx=>?_) (fun x hx=>?_) (ok r hr)⟩
 . obtain ⟨s,k',g1,g2⟩:=zg (c:=c) (k:=0) (mem x (Zd _ hx))
   rcases hD.kd _ g1 with ⟨e,_⟩ | ⟨_,_,q⟩
   . have e:s=0:=e
     exact ⟨_,by rw [g2]; unfold o7; rw [aaZ e]⟩
   . exact (dis x hx q).elim
 . obtain ⟨s,k',g1,g2⟩:=zg (c:=c) (k:=0) (mem x (Zv _ hx))
   rcases hD.kd _ g1 with ⟨_,q⟩ | ⟨h1,_,_⟩
   . exact (dis x q hx).elim
   . have h1:1<=s:=h1
     exact ⟨_,by rw [g2]; unfold o7; rw [aa0 (by omega)]⟩
noncomputable abbrev jT (S P:PV) (l2 l3 l4:Option Lc) (mu:Mu):Ev:=⟨[zS S,zS P,l2,l3,l4],mu⟩
noncomputable abbrev Hd:EF:=aF (aF (aF (aa 1) (eC (.int 0))) (aa 3)) (eC (.int 1))
noncomputable abbrev Nv:EF:=dq (dm (aj Hd ao)) 1 [4] (aJ 0) dN (aG dR (aj (aq aQ (aq cL (aa 1) (aq bK (aa 0) (eC (.int 16807)))) (eC (.int 2147483587))) ao))
section
variable {S gr:PV} {rs:List Rw} {D:List (Str×Int)} {k:Nat} {x:Str} {s:Int} {mu:Mu} {l2:Lc}
theorem Ky (l2:Option Lc) (l4:Option Lc) (hk:D[k]?=some (x,s)):Hd (jT S (fD (.lst (dcl D)) gr rs) l2 (zI (k:Nat)) l4 mu)=some (.sh (.int s),jT S (fD (.lst (dcl D)) gr rs) l2 (zI (k:Nat)) l4 mu):=
 jf (l:=.sh (.tup [.str x,.int s,.non])) (m:=.sh (.int 1)) (jf (l:=.sh (.lst (dcl D))) (m:=.sh (.int (k:Nat))) rfl rfl rfl rfl (fun n h=>by cases h) (by show (gj (dcl D) (k:Nat)).map _=_; rw [lG (p:=.tup [.str x,.int s,.non]) (by rw [Y7,hk]; rfl)]; rfl)) rfl rfl rfl (fun n h=>by cases h) rfl
theorem Q6 {c:Int} (l2:Option Lc) (hk:D[k]?=some (x,s)) (h0:0<=s) (h8:s<=8):Nv (jT S (fD (.lst (dcl D)) gr rs) l2 (zI (k:Nat)) (zI (lR c k)) mu)=some (.own (.lst ((vR c k s).map .int)),jT S (fD (.lst (dcl D)) gr rs) l2 (zI (k:Nat)) (zI (lR c k)) mu):=by
 obtain ⟨n,rfl⟩:∃ n:Nat,s=(n:Int):=⟨s.toNat,by omega⟩
 let E:=jT S (fD (.lst (dcl D)) gr rs) l2 (zI (k:Nat)) (zI (lR c k)) mu
 generalize hcl:lR c k=cl
 let f:PV->PV:=fun p=>match p with
  | .int j=>.int (lO (cl*(j+16807)%2147483587))
  | p=>p
 have ec:=je (b:=aJ 0) (te:=aG dR (aj (aq aQ (aq cL (aa 1) (aq bK (aa 0) (eC (.int 16807)))) (eC (.int 2147483587))) ao)) (mu:=mu) (fun ρ=>∃ o,ρ=⟨[o,zI cl],mu⟩) (fun ρ ⟨o,e⟩=>by rw [e]) f (xs:=cZ n) (ρ:=⟨[none,zI cl],mu⟩) ⟨none,rfl⟩ (by rw [Yw,ZJ]; omega) (by
  rintro p hp ρ ⟨o,rfl⟩
  obtain ⟨j,hj,rfl⟩:=YZ.mp hp
  have hj:=List.mem_range.mp hj
  refine ⟨⟨[zI (j:Nat),zI cl],mu⟩,rfl,.sh (.int (lO (cl*(((j:Nat):Int)+16807)%2147483587))),⟨[zI (j:Nat),zI cl],mu⟩,aY (ls:=[.sh (.int (cl*(((j:Nat):Int)+16807)%2147483587))]) (ρ1:=⟨[zI (j:Nat),zI cl],mu⟩) (aC (ir (bO (m:=.sh (.int (((j:Nat):Int)+16807))) rfl rfl (bO rfl rfl rfl rfl rfl) rfl (pM (by omega) (by omega))) (by decide)) rfl) rfl rfl rfl (tV _ mu),rfl,_,rfl⟩) (by
  rintro p hp ρ ρ1 ⟨o,rfl⟩ e
  cases e
  exact ⟨_,rfl⟩)
 have ef:(cZ n).map f=(vR c k (n:Nat)).map .int:=by
  unfold vR
  rw [ZR,Zc,Zc,hcl]
  rfl
 rw [ef] at ec
 have hE:jT S (fD (.lst (dcl D)) gr rs) l2 (zI (k:Nat)) (zI cl) mu=E:=by simp only [E,hcl]
 have er:dm (aj Hd ao) (jT S (fD (.lst (dcl D)) gr rs) l2 (zI (k:Nat)) (zI cl) mu)=some (cZ n,jT S (fD (.lst (dcl D)) gr rs) l2 (zI (k:Nat)) (zI cl) mu):=ou (Ky l2 _ hk) (by omega)
 exact jm (f:=dm (aj Hd ao)) (m:=1) (ixs:=[4]) er ec
theorem Kz {c:Int} (l2 l4:Option Lc) (hk:k<=1000) (ec:∀ mu:Mu,bB [S,.int 2] mu=some (.sh (.int c),mu)):aL 4 (aq aQ (aq cL (aq bK (aG bB (aj (aa 0) (aj (eC (.int 2)) ao))) (aa 3)) (aq bK (aq cL (aa 3) (aa 3)) (eC (.int 40014)))) (eC (.int 2147483563))) (jT S (fD (.lst (dcl D)) gr rs) l2 (zI (k:Nat)) l4 mu)=some (.nx (jT S (fD (.lst (dcl D)) gr rs) l2 (zI (k:Nat)) (zI (lR c k)) mu)):=by
 have kk:(k:Int)*(k:Int)<=1000000:=by
  have:k*k<=1000*1000:=Nat.mul_le_mul hk hk
  have e:((k*k:Nat):Int)=(k:Int)*(k:Int):=Int.natCast_mul ..
  omega
 have k0:0<=(k:Int)*(k:Int):=Int.mul_nonneg (by omega) (by omega)
 let E:=jT S (fD (.lst (dcl D)) gr rs) l2 (zI (k:Nat)) l4 mu
 refine bA (ir (bO (l:=.sh (.int (c+(k:Int)))) (m:=.sh (.int ((k:Int)*(k:Int)+40014))) (ρ1:=E) (bO (aY (ls:=[.sh S,.sh (.int 2)]) (ρ1:=E) rfl rfl rfl rfl (ec mu)) rfl rfl rfl rfl) rfl (bO (l:=.sh (.int ((k:Int)*(k:Int)))) (ρ1:=E) (bO rfl rfl rfl rfl (pL (by omega) (by omega))) rfl rfl rfl rfl) rfl (pM (by omega) (by omega))) (by decide)) rfl rfl
end
noncomputable abbrev Q7 (g:EF):SF:=aH (aL 4 (aq aQ (aq cL (aq bK (aG bB (aj (aa 0) (aj (eC (.int 2)) ao))) (aa 3)) (aq bK (aq cL (aa 3) (aa 3)) (eC (.int 40014)))) (eC (.int 2147483563))))
 (bN (tT (aq eqP Hd (eC (.int 0))) aU)
 (ig 2 (aG dR (aj (aa 4) ao)))
 (ig 2 g))
section
variable {S gr:PV} {rs:List Rw} {D:List (Str×Int)} {c:Int}
theorem Jv {mu:Mu} (ec:∀ mu:Mu,bB [S,.int 2] mu=some (.sh (.int c),mu)):∀ (E:List (Str×Int)) (k:Nat) (ws:List PV) (l3 l4:Option Lc),(∀ (i:Nat) q,E[i]?=some q->D[k+i]?=some q)->(∀ q∈E,0<=q.2/\q.2<=8)->k+E.length<=1000->ws.length<=k->∃ p3 p4,iT (aJ 3) (Q7 Nv) ((List.range' k E.length).map fun i=>PV.int (i:Nat)) (jT S (fD (.lst (dcl D)) gr rs) (zO ws) l3 l4 mu)=some (.nx (jT S (fD (.lst (dcl D)) gr rs) (zO (ws++gf (m8 c k E))) p3 p4 mu))
 | [],k,ws,l3,l4,_,_,_,_=>⟨l3,l4,by rw [show gf (m8 c k [])=[] from rfl,YS]; rfl⟩
 | (x,s)::E,k,ws,l3,l4,hk,hs,hl,hw=>by
  simp only [YB] at hl
  have h0:D[k]?=some (x,s):=hk 0 (x,s) rfl
  obtain ⟨s0,s8⟩:0<=s/\s<=8:=hs (x,s) Yv
  let W:=fun l2=>jT S (fD (.lst (dcl D)) gr rs) l2 (zI (k:Nat)) (zI (lR c k)) mu
  obtain ⟨p3,p4,e⟩:=Jv ec E (k+1) (ws++[(o7 c k s).pv]) (zI (k:Nat)) (zI (lR c k)) (fun i q hq=>by rw [aav,aaQ]; exact hk (i+1) q hq) (fun q hq=>hs q (YG _ hq)) (by omega) (by rw [YD]; show ws.length+1<=_; omega)
  refine ⟨p3,p4,?_⟩
  have t:tT (aq eqP Hd (eC (.int 0))) aU (W (zO ws))=some (s==0,W (zO ws)):=jx (Ky _ _ h0) rfl
  have st:Q7 Nv (jT S (fD (.lst (dcl D)) gr rs) (zO ws) (zI (k:Nat)) l4 mu)=some (.nx (W (zO (ws++[(o7 c k s).pv])))):=by
   refine aB (Kz _ _ (by omega) ec) ?_
   unfold o7
   by_cases h:s=0
   . rw [aaZ h]
     exact (dB (t.trans (by rw [beq_iff_eq.mpr h]))).trans (nA (ws0:=ws) (ws:=ws) (l:=.sh (.int (lO (lR c k)))) (ρ1:=W (zO ws)) rfl (aY (ls:=[.sh (.int (lR c k))]) (ρ1:=W (zO ws)) rfl rfl rfl rfl (tV _ mu)) rfl rfl (by omega) rfl)
   . rw [aa0 h]
     exact (bG (t.trans (by rw [aa4.mpr h]))).trans (nA (ws0:=ws) (ws:=ws) (l:=.own (.lst ((vR c k s).map .int))) (ρ1:=W (zO ws)) rfl (Q6 _ h0 s0 s8) rfl rfl (by omega) rfl)
  rw [YB,aah,YT]
  rw [Y0] at e
  exact gB (ρ1:=jT S (fD (.lst (dcl D)) gr rs) (zO ws) (zI (k:Nat)) l4 mu) rfl st e
theorem Jw {lo:Nat} (ec:∀ mu:Mu,bB [S,.int 2] mu=some (.sh (.int c),mu)):∀ (E:List (Str×Int)) (k:Nat) (A:Bs) (ps:List PV) (mu:Mu) (l3 l4:Option Lc),(∀ (i:Nat) q,E[i]?=some q->D[k+i]?=some q)->(∀ q∈E,0<=q.2/\q.2<=8)->k+E.length<=1000->A.length<=k->lo<=mu.length->CB mu mu.length lo A ps->∃ ps' t p3 p4,iT (aJ 3) (Q7 (dC Nv)) ((List.range' k E.length).map fun i=>PV.int (i:Nat)) (jT S (fD (.lst (dcl D)) gr rs) (zO ps) l3 l4 mu)=some (.nx (jT S (fD (.lst (dcl D)) gr rs) (zO ps') p3 p4 (mu++t)))/\CB (mu++t) (mu++t).length lo (A++m8 c k E) ps'
 | [],k,A,ps,mu,l3,l4,_,_,_,_,_,hc=>⟨ps,[],l3,l4,by rw [YS]; rfl,by rw [YS,show m8 c k []=[] from rfl,YS]; exact hc⟩
 | (x,s)::E,k,A,ps,mu,l3,l4,hk,hs,hl,hA,hlo,hc=>by
  simp only [YB] at hl
  have h0:D[k]?=some (x,s):=hk 0 (x,s) rfl
  obtain ⟨s0,s8⟩:0<=s/\s<=8:=hs (x,s) Yv
  have hps:=hc.len
  let W:=fun l2 mu=>jT S (fD (.lst (dcl D)) gr rs) l2 (zI (k:Nat)) (zI (lR c k)) mu
  have t:tT (aq eqP Hd (eC (.int 0))) aU (W (zO ps) mu)=some (s==0,W (zO ps) mu):=jx (Ky _ _ h0) rfl
  obtain ⟨q,t1,st,hc1⟩:∃ q t1,Q7 (dC Nv) (jT S (fD (.lst (dcl D)) gr rs) (zO ps) (zI (k:Nat)) l4 mu)=some (.nx (W (zO (ps++[q])) (mu++t1)))/\CB (mu++t1) (mu++t1).length lo (A++[(x,o7 c k s)]) (ps++[q]):=by
   unfold o7
   by_cases h:s=0
   . rw [aaZ h]
     refine ⟨.int (lO (lR c k)),[],?_,by rw [YS]; exact hc.snocN⟩
     rw [YS]
     exact aB (Kz _ _ (by omega) ec) ((dB (t.trans (by rw [beq_iff_eq.mpr h]))).trans (nA (ws0:=ps) (ws:=ps) (l:=.sh (.int (lO (lR c k)))) (ρ1:=W (zO ps) mu) rfl (aY (ls:=[.sh (.int (lR c k))]) (ρ1:=W (zO ps) mu) rfl rfl rfl rfl (tV _ mu)) rfl rfl (by omega) rfl))
   . rw [aa0 h]
     refine ⟨.ptr mu.length,[some (.lst ((vR c k s).map .int))],?_,by rw [YD]; exact hc.snocL hlo⟩
     exact aB (Kz _ _ (by omega) ec) ((bG (t.trans (by rw [aa4.mpr h]))).trans (nA (ws0:=ps) (ws:=ps) (l:=.sh (.ptr mu.length)) (ρ1:=W (zO ps) (mu++[some (.lst ((vR c k s).map .int))])) rfl (lF (ρ1:=W (zO ps) mu) (Q6 _ h0 s0 s8)) rfl rfl (by omega) rfl))
  obtain ⟨ps',t2,p3,p4,e,hc'⟩:=Jw ec E (k+1) (A++[(x,o7 c k s)]) (ps++[q]) (mu++t1) (zI (k:Nat)) (zI (lR c k)) (fun i q hq=>by rw [aav,aaQ]; exact hk (i+1) q hq) (fun q hq=>hs q (YG _ hq)) (by omega) (by rw [YD]; show A.length+1<=_; omega) (by rw [YD]; omega) hc1
  rw [Y0 mu t1 t2] at e hc'
  rw [Y0 A] at hc'
  refine ⟨ps',t1++t2,p3,p4,?_,hc'⟩
  rw [YB,aah,YT]
  exact gB (ρ1:=jT S (fD (.lst (dcl D)) gr rs) (zO ps) (zI (k:Nat)) l4 mu) rfl st e
theorem Nx {mu:Mu} (ec:∀ mu:Mu,bB [S,.int 2] mu=some (.sh (.int c),mu)) (hs:∀ q∈D,0<=q.2/\q.2<=8) (hl:D.length<=100):fJ [S,fD (.lst (dcl D)) gr rs] mu=some (.own (.lst (gf (m8 c 0 D))),mu):=by
 obtain ⟨p3,p4,e⟩:=Jv (gr:=gr) (rs:=rs) (D:=D) (mu:=mu) ec D 0 [] none none (fun i q h=>by rw [aaF]; exact h) hs (by omega) (Yy _)
 rw [m6,ZL] at e
 exact bj (ρ:=jT S (fD (.lst (dcl D)) gr rs) none p3 p4 mu) (aB (ρ':=jT S (fD (.lst (dcl D)) gr rs) (zO []) none none mu) rfl (aB (gR (ou (kE (ls:=[.sh (.lst (dcl D))]) rfl rfl (by show some (Lc.sh (.int ((dcl D).length:Nat)))=_; rw [Yw])) (by omega)) e) rfl))
theorem KD {mu:Mu} (ec:∀ mu:Mu,bB [S,.int 2] mu=some (.sh (.int c),mu)) (hs:∀ q∈D,0<=q.2/\q.2<=8) (hl:D.length<=100):∃ ps t,iJ [S,fD (.lst (dcl D)) gr rs] mu=some (.own (.lst ps),mu++t)/\CB (mu++t) (mu++t).length mu.length (m8 c 0 D) ps:=by
 obtain ⟨ps,t,p3,p4,e,hc⟩:=Jw (gr:=gr) (rs:=rs) (D:=D) (lo:=mu.length) ec D 0 [] [] mu none none (fun i q h=>by rw [aaF]; exact h) hs (by omega) (Yy _) (Yy _) rfl
 rw [m6] at e
 exact ⟨ps,t,bj (ρ:=jT S (fD (.lst (dcl D)) gr rs) none p3 p4 (mu++t)) (aB (ρ':=jT S (fD (.lst (dcl D)) gr rs) (zO []) none none mu) rfl (aB (gR (ou (kE (ls:=[.sh (.lst (dcl D))]) rfl rfl (by show some (Lc.sh (.int ((dcl D).length:Nat)))=_; rw [Yw])) (by omega)) e) rfl)),hc⟩
end
noncomputable abbrev LW (S P:PV) (l2 l3 l4 l5 l6 l7 l8 l9 l10 l11 l12 l13 l14:Option Lc) (mu:Mu):Ev:=⟨[zS S,zS P,l2,l3,l4,l5,l6,l7,l8,l9,l10,l11,l12,l13,l14],mu⟩
theorem Jx {S P:PV} {l2:Option Lc} {mu:Mu}:∀ (D:List (Str×Int)) (ps:List PV) (ks:List Key) (qs:List PV) (l4 l5:Option Lc),ps.length=D.length->qs.length=ks.length->(ks++D.map fun q=>(.inr q.1:Key)).Nodup->ks.length+D.length<=1000->∃ p4 p5,iT (fP 2 (aP (aJ 4) (aP (aJ 5) fO))) (o9 3 (aF (aa 4) (eC (.int 0))) (aa 5)) (j0 (dcl D) ps) (LW S P l2 (some (.own (.dk ks qs))) l4 l5 none none none none none none none none none mu)=some (.nx (LW S P l2 (some (.own (.dk (ks++D.map fun q=>(.inr q.1:Key)) (qs++ps)))) p4 p5 none none none none none none none none none mu))
 | [],ps,ks,qs,l4,l5,hp,_,_,_=>by
  obtain rfl:ps=[]:=List.length_eq_zero_iff.mp hp
  exact ⟨l4,l5,by rw [aap,YS,YS]; rfl⟩
 | (x,s)::D,[],ks,qs,l4,l5,hp,_,_,_=>by simp at hp
 | (x,s)::D,p::ps,ks,qs,l4,l5,hp,hq,nd,hl=>by
  simp only [YB] at hp hl
  have e1:ks++((x,s)::D).map (fun q=>(.inr q.1:Key))=(ks++[.inr x])++D.map fun q=>(.inr q.1:Key):=by rw [YT,Y0]; rfl
  have hx:(.inr x:Key)∉ks:=fun h=>(aab.mp nd).2.2 _ h (.inr x) (by rw [YT]; exact Yv) rfl
  rw [e1] at nd ⊢
  obtain ⟨p4,p5,e⟩:=Jx (S:=S) (P:=P) (l2:=l2) (mu:=mu) D ps (ks++[.inr x]) (qs++[p]) (zS (.tup [.str x,.int s,.non])) (zS p) (by omega) (by rw [YD,YD,hq]; rfl) nd (by rw [YD]; show ks.length+1+_<=_; omega)
  rw [Y0 qs] at e
  refine ⟨p4,p5,gB (ρ1:=LW S P l2 (some (.own (.dk ks qs))) (zS (.tup [.str x,.int s,.non])) (zS p) none none none none none none none none none mu) rfl ?_ e⟩
  rw [← BZ hq hx]
  exact zc (ρ2:=LW S P l2 (some (.own (.dk ks qs))) (zS (.tup [.str x,.int s,.non])) (zS p) none none none none none none none none none mu) (x:=.sh p) (y:=.sh (.str x)) rfl rfl rfl rfl rfl rfl (by omega) rfl
theorem Hf {S P:PV} {l2 l3 l4 l5 l6:Option Lc} {mu:Mu}:∀ (ms:List cD) (ws:List PV) (l8 l9 l10:Option Lc),ws.length+tW ms<=1000->∃ p8 p9 p10,iT (fP 3 (aP (aJ 8) (aP (aJ 9) (aP (aJ 10) fO)))) (nq 7 (dq (gC (aa 10) du) 3 [8] (fP 3 (aP (aJ 0) (aP (aJ 1) (aP (aJ 2) fO)))) dN (bh (aj (aa 3) (aj (aa 0) (aj (aa 1) (aj (aa 2) ao))))))) (ms.map cD.pv) (LW S P l2 l3 l4 l5 l6 (zO ws) l8 l9 l10 none none none none mu)=some (.nx (LW S P l2 l3 l4 l5 l6 (zO (ws++eY ms)) p8 p9 p10 none none none none mu))
 | [],ws,l8,l9,l10,_=>⟨l8,l9,l10,by rw [show eY []=[] from rfl,YS]; rfl⟩
 | m::ms,ws,l8,l9,l10,hl=>by
  have hl':ws.length+(m.2.2.length+tW ms)<=1000:=hl
  let K:Option Lc:=zI m.1
  let T:Option Lc:=zI m.2.1
  let C:Option Lc:=zS (evs m.2.2)
  obtain ⟨p8,p9,p10,e⟩:=Hf (S:=S) (P:=P) (l2:=l2) (l3:=l3) (l4:=l4) (l5:=l5) (l6:=l6) (mu:=mu) ms (ws++m.2.2.map (oh m.1)) K T C (by rw [YD,Yw]; omega)
  rw [Y0] at e
  let E:=fun l7=>LW S P l2 l3 l4 l5 l6 l7 K T C none none none none mu
  have ec:=jm (f:=gC (aa 10) du) (m:=3) (ixs:=[8]) (ρ:=E (zO ws)) (ρ1:=E (zO ws)) (pN (l:=.sh (evs m.2.2)) rfl rfl) (Ji (k:=m.1) (es:=m.2.2) (mu:=mu) (o:=[]) (by omega))
  exact ⟨p8,p9,p10,gB (ρ1:=E (zO ws)) (ρ2:=E (zO (ws++m.2.2.map (oh m.1)))) rfl (FT (ws0:=ws) (ws:=ws) (ps:=m.2.2.map (oh m.1)) rfl ec rfl rfl (by rw [Yw]; omega) rfl) e⟩
theorem Jy {x:Str}:∀ {C:Bs},x∈C.map (·.1)->∃ v,look C x=some v
 | (y,v)::C,h=>by
  by_cases e:y=x
  . exact ⟨v,by rw [nZ,aaZ e]⟩
  . rcases YC.mp h with h | h
    . exact absurd h.symm e
    . obtain ⟨w,hw⟩:=Jy h
      exact ⟨w,by rw [nZ,aa0 e]; exact hw⟩
theorem Qp {S gr R3 R4:PV} {D:List (Str×Int)} {C:Bs} {ps:List PV} {d lo:Nat} {mu:Mu} {l2 l4 l5 l6 l7 l8 l9 l10 l11 l12 l13 l14:Option Lc} (hD:D.map (·.1)=C.map (·.1)) (nd:(C.map (·.1)).Nodup) (h1:C.length<=100) (hb:mu[d]?=some (some (.dk (bL C) ps))) (hc:CB mu d lo C ps):dq (gC (aF (aa 1) (eC (.int 0))) du) 1 [3] (aJ 0) dN (jO (aa 1) (aF (aa 0) (eC (.int 0)))) (LW S (.tup [.lst (dcl D),gr,R3,R4]) l2 (zS (.ptr d)) l4 l5 l6 l7 l8 l9 l10 l11 l12 l13 l14 mu)=some (.own (.lst ps),LW S (.tup [.lst (dcl D),gr,R3,R4]) l2 (zS (.ptr d)) l4 l5 l6 l7 l8 l9 l10 l11 l12 l13 l14 mu):=by
 let E:=LW S (.tup [.lst (dcl D),gr,R3,R4]) l2 (zS (.ptr d)) l4 l5 l6 l7 l8 l9 l10 l11 l12 l13 l14 mu
 let f:PV->PV:=fun p=>match p with
  | .tup (.str x::_)=>(cH ((bL C).zip ps) (.inr x)).getD .non
  | _=>.non
 have ec:=je (b:=aJ 0) (te:=jO (aa 1) (aF (aa 0) (eC (.int 0)))) (mu:=mu) (fun ρ=>∃ a,ρ=⟨[a,zS (.ptr d)],mu⟩) (fun ρ ⟨a,e⟩=>by rw [e]) f (xs:=dcl D) (ρ:=⟨[none,zS (.ptr d)],mu⟩) ⟨_,rfl⟩ (by rw [Yw,← Yw (f:=(·.1)),hD,Yw]; omega) (by
  rintro p hp ρ ⟨a,rfl⟩
  obtain ⟨q,hq,rfl⟩:=YZ.mp hp
  obtain ⟨v,hv⟩:=Jy (C:=C) (x:=q.1) (by rw [← hD]; exact YZ.mpr ⟨q,hq,rfl⟩)
  obtain ⟨w,hw⟩:∃ w,cH ((bL C).zip ps) (.inr q.1)=some w:=by
   cases v with
   | n i=>exact ⟨_,hc.val.1 i hv⟩
   | l is=>obtain ⟨c,h,_⟩:=hc.val.2 is hv; exact ⟨_,h⟩
  refine ⟨⟨[zS (.tup [.str q.1,.int q.2,.non]),zS (.ptr d)],mu⟩,rfl,.sh w,⟨[zS (.tup [.str q.1,.int q.2,.non]),zS (.ptr d)],mu⟩,Av (x:=.sh (.ptr d)) (y:=.sh (.str q.1)) (k:=.inr q.1) rfl rfl rfl rfl hb hw,?_,_,rfl⟩
  show w=(cH ((bL C).zip ps) (.inr q.1)).getD .non
  rw [hw]
  rfl) (by
  rintro p hp ρ ρ1 ⟨a,rfl⟩ e
  cases e
  exact ⟨_,rfl⟩)
 have ef:(dcl D).map f=ps:=by
  rw [Zc]
  have e1:D.map (f ∘ fun q=>PV.tup [.str q.1,.int q.2,.non])=(D.map (·.1)).map fun x=>(cH ((bL C).zip ps) (.inr x)).getD .non:=by rw [Zc]; rfl
  rw [e1,hD,Zc]
  exact Cd nd hc.len
 rw [ef] at ec
 exact jm (f:=gC (aF (aa 1) (eC (.int 0))) du) (m:=1) (ixs:=[3]) (ρ:=E) (ρ1:=E) (pN (l:=.sh (.lst (dcl D))) rfl rfl) ec
theorem Wt {f:EF} {lo hi:OF} {ρ ρ1 ρ2 ρ3:Ev} {l:Lc} {n:Nat} {ps:List PV} {y z:Option Int} (h1:f ρ=some (l,ρ1)) (hl:l.pv=.ptr n) (h2:lo ρ1=some (y,ρ2)) (h3:hi ρ2=some (z,ρ3)) (hm:ρ3.mu[n]?=some (some (.lst ps))):Gs f lo hi ρ=some (.own (.lst (jl ps y z)),ρ3):=by
 unfold Gs
 rw [h1,Yu]
 dsimp only
 rw [h2,Yu]
 dsimp only
 rw [h3,Yu,hl]
 dsimp only
 rw [hm]
theorem Hg {ps:List PV}:jl ps (some 1) none=ps.tail:=by
 cases ps with
 | nil=>rfl
 | cons p ps=>
  unfold jl
  rw [HT.sIx_none,show HT.sIx (p::ps).length 0 (some 1)=1 from by
   show (if (1:Int)<0 then ((1:Int)+((ps.length+1:Nat):Int)).toNat else min (1:Int).toNat (ps.length+1))=1
   rw [aa0 (by decide)]
   show min 1 (ps.length+1)=1
   omega]
  show (ps.take (ps.length+1-1))=ps
  rw [Nat.add_sub_cancel,List.take_length]
theorem Ei {f g:EF} {x y:Lc} {ρ ρ1 ρ2:Ev} {X:PV} (h1:f ρ=some (x,ρ1)) (h2:g ρ1=some (y,ρ2)) (rx:aW ρ2.mu 40 x.pv=X) (ry:aW ρ2.mu 40 y.pv=X) (hX:qm 40 X):fW (cA 40) (aj f (aj g ao)) ρ=some (.sh (.bl true),ρ2):=by
 refine Gm (ls:=[x,y]) (ps:=[X,X]) (aC h1 (aC h2 rfl)) ?_ (vQ hX _) rfl
 show [aW ρ2.mu 40 x.pv,aW ρ2.mu 40 y.pv]=_
 rw [rx,ry]
theorem Tr {B:Bs} {rs:List Rw} {mu:Mu} {d lo:Nat} {ps:List PV} (hc:CB mu d lo (dY B rs).2 ps):aW mu 40 (.tup [.str "done",.lst (eY (dY B rs).1),.lst ps])=Kr B rs:=by
 show PV.tup [.str "done",.lst ((eY (dY B rs).1).map (aW mu 38)),.lst (ps.map (aW mu 38))]=_
 rw [hc.res,G8]
theorem Q8 {c d:TF} {ρ ρ1 ρ2:Ev} (h:c ρ=some (false,ρ1)) (g:d ρ1=some (false,ρ2)):mH c d ρ=some (false,ρ2):=by
 unfold mH
 rw [h,Yu]
 exact g
theorem Dn {f:TF} {ρ ρ1:Ev} {b:Bool} (h:f ρ.peekD=some (b,ρ1)):pR f ρ=some (b,ρ):=by
 unfold pR
 rw [h]
 rfl
theorem Ny:∀ {l:List Str},l.Nodup->(l.map (Sum.inr:Str->Key)).Nodup
 | [],_=>aaq
 | x::l,h=>by
  obtain ⟨h1,h2⟩:=Zg.mp h
  refine Zg.mpr ⟨fun q=>?_,Ny h2⟩
  obtain ⟨y,hy,e⟩:=YZ.mp q
  exact h1 (by rw [← Sum.inr.inj e]; exact hy)
theorem law_true (ns:List Int) (hn:ns.length<=63):∃ mu,Kd [.lst (ns.map PV.int)] []=some (.sh (.bl true),mu):=by
 obtain ⟨D,rs,nm,ls,n0,nd,l10,hD,hrl,hok,ep⟩:=Tq (ns0:=ns) hn
 obtain ⟨c2,_,_,ec2⟩:=cell_eq (ns:=ns) (k:=2) hn (by decide) (by decide)
 obtain ⟨c1,_,_,ec1⟩:=cell_eq (ns:=ns) (k:=1) hn (by decide) (by decide)
 have H:Pr D (m8 c2 0 D) rs:=Xe nd l10 hD hrl hok
 have hs:∀ q∈D,0<=q.2/\q.2<=8:=fun q hq=>by
  rcases hD.kd q hq with ⟨h,_⟩ | ⟨h1,h2,_⟩
  . omega
  . omega
 have hDl:D.length<=100:=by
  have h:=H.su.len
  have:=H.g.l8
  omega
 have rS:∀ mu k,aW mu k (.lst (ns.map .int))=.lst (ns.map .int):=fun mu k=>yZ k
 obtain ⟨S,hS⟩:∃ S:PV,S=.lst (ns.map .int):=⟨_,rfl⟩
 rw [← hS] at ep ec2 ec1 rS ⊢
 have pP:=Ws (D:=D) H.ok
 obtain ⟨P,hP⟩:∃ P:PV,P=fD (.lst (dcl D)) Bc rs:=⟨_,rfl⟩
 obtain ⟨B,hB⟩:∃ B:Bs,B=m8 c2 0 D:=⟨_,rfl⟩
 have ev:∀ mu:Mu,fJ [S,P] mu=some (.own (.lst (gf B)),mu):=fun mu=>by
  rw [hP,hB]
  exact Nx ec2 hs hDl
 have evc:∀ mu:Mu,∃ ps t,iJ [S,P] mu=some (.own (.lst ps),mu++t)/\CB (mu++t) (mu++t).length mu.length B ps:=fun mu=>by
  rw [hP,hB]
  exact KD ec2 hs hDl
 rw [← hB] at H
 rw [← hP] at pP ep
 have h4:=H.l4
 let ms:=(dY B rs).1
 let MP:PV:=.lst (ms.map cD.pv)
 let bu:Int:=c1/41%21
 let mu1:Mu:=[some (.lst (gf B))]
 obtain ⟨ps,t,epc,hc0⟩:=evc mu1
 let d:=(mu1++t).length
 let mu2:Mu:=(mu1++t)++[some (.dk (bL B) ps)]
 have LB2:LB mu2 d 1 B:=⟨ps,by show ((mu1++t)++[_])[(mu1++t).length]?=_; rw [YL (Yy _),Zz]; rfl,hc0.frame fun c _ h=>m5 h⟩
 obtain ⟨mu3,el,⟨pf,hb3,hc3⟩,len3,fr3⟩:=Qm LB2 H.g H.ok H.l4
 have d1:1<=d:=by show 1<=(mu1++t).length; rw [YD]; show 1<=1+_; omega
 have dl:d<mu3.length:=eV hb3
 have v3:mu3[0]?=some (some (.lst (gf B))):=(fr3 0 (by decide) (by omega)).trans rfl
 obtain ⟨nm',ln',nev,bg⟩:=Ce H
 obtain ⟨mu4,q,pr,er,rr,q1,hq4,l4,fr4⟩:=Nr (gr:=Bc) (bu:=bu) H v3
 have v4:mu4[0]?=some (some (.lst (gf B))):=(fr4 0 (by omega)).trans v3
 obtain ⟨mu5,n,M,et,hn5,Mo,n1,fr5⟩:=Di (gr:=Bc) (bu:=bu) H v4
 have v5:mu5[0]?=some (some (.lst (gf B))):=(fr5 0 (by omega)).trans v4
 have ql:q<mu4.length:=eV hq4
 rw [← hP] at er et
 let due:PV:=.tup [.str "done",.lst (eY ms),.lst pf]
 let got:PV:=.tup [.str "done",.ptr q,.lst pr]
 have dres:∀ m2:Mu,(∀ c,1<=c->c<mu3.length->m2[c]?=mu3[c]?)->aW m2 40 due=Kr B rs:=fun m2 h=>Tr (hc3.frame fun c c1 c2=>h c c1 (by omega))
 let L:=fun l2 l3 l4 l5 l6 l7 l8 l9 l10 l11 l12 l13 l14 mu=>LW S P l2 l3 l4 l5 l6 l7 l8 l9 l10 l11 l12 l13 l14 mu
 let V:Option Lc:=zS (.ptr 0)
 have P0:∀ (ρ:Ev),aa 1 ρ=some (.sh P,ρ)->aF (aa 1) (eC (.int 0)) ρ=some (.sh (.lst (dcl D)),ρ):=fun ρ h=>jf (l:=.sh P) (m:=.sh (.int 0)) h rfl rfl rfl (fun n h'=>by rw [hP] at h'; cases h') (by rw [hP]; rfl)
 have s1:aL 1 (aG gA (aj (aa 0) ao)) (env0 15 [S] [])=some (.nx (L none none none none none none none none none none none none none [])):=bA (aY (ls:=[.sh S]) (ρ1:=env0 15 [S] []) rfl rfl rfl rfl (ep [])) rfl rfl
 have s2:∀ l2 l3 l4 l5 l6 l7 l8 l9 l10 l11 l12 l13 l14 mu,aL 2 (dC (aG fJ (aj (aa 0) (aj (aa 1) ao)))) (L l2 l3 l4 l5 l6 l7 l8 l9 l10 l11 l12 l13 l14 mu)=some (.nx (L (zS (.ptr mu.length)) l3 l4 l5 l6 l7 l8 l9 l10 l11 l12 l13 l14 (mu++[some (.lst (gf B))]))):=fun l2 l3 l4 l5 l6 l7 l8 l9 l10 l11 l12 l13 l14 mu=>bA (lF (ρ1:=L l2 l3 l4 l5 l6 l7 l8 l9 l10 l11 l12 l13 l14 mu) (aY (ls:=[.sh S,.sh P]) (ρ1:=L l2 l3 l4 l5 l6 l7 l8 l9 l10 l11 l12 l13 l14 mu) rfl rfl rfl rfl (ev mu))) rfl rfl
 have hkB:bL B=D.map fun q=>(.inr q.1:Key):=by
  have h:=congrArg (List.map (Sum.inr:Str->Key)) H.su.names
  rw [Zc,Zc] at h
  exact h.symm
 have ndk:(D.map fun q=>(.inr q.1:Key)).Nodup:=by
  have e:D.map (fun q=>(.inr q.1:Key))=(D.map (·.1)).map Sum.inr:=by rw [Zc]; rfl
  rw [e,H.su.names]
  exact Ny H.g.nd
 have hpl:ps.length=D.length:=by rw [hc0.len,H.su.len]
 obtain ⟨p4,p5,eb⟩:=Jx (S:=S) (P:=P) (l2:=V) (mu:=mu1++t) D ps [] [] none none hpl rfl (by rw [ZL]; exact ndk) (by show 0+_<=_; omega)
 rw [ZL,ZL,← hkB] at eb
 have s4:gM (wX (aF (aa 1) (eC (.int 0))) (aG iJ (aj (aa 0) (aj (aa 1) ao)))) (fP 2 (aP (aJ 4) (aP (aJ 5) fO))) (o9 3 (aF (aa 4) (eC (.int 0))) (aa 5)) (L V (some (.own (.dk [] []))) none none none none none none none none none none none mu1)=some (.nx (L V (some (.own (.dk (bL B) ps))) p4 p5 none none none none none none none none none (mu1++t))):=by
  refine gR (xs:=j0 (dcl D) ps) (ρ1:=L V (some (.own (.dk [] []))) none none none none none none none none none none none (mu1++t)) ?_ eb
  unfold wX
  rw [P0 _ rfl,Yu]
  dsimp only
  rw [aY (ls:=[.sh S,.sh P]) (ρ1:=L V (some (.own (.dk [] []))) none none none none none none none none none none none mu1) rfl rfl rfl rfl epc,Yu]
  rfl
 let Dp:Option Lc:=zS (.ptr d)
 have s5:rO 3 (aL 6 (aG pH (aj (aF (aa 1) (eC (.int 3))) (aj (aa 3) ao)))) (L V (some (.own (.dk (bL B) ps))) p4 p5 none none none none none none none none none (mu1++t))=some (.nx (L V Dp p4 p5 (some (.own MP)) none none none none none none none none mu3)):=by
  have e3:aF (aa 1) (eC (.int 3)) (L V Dp p4 p5 none none none none none none none none none mu2)=some (.sh (.lst (rs.map Rw.pv)),L V Dp p4 p5 none none none none none none none none none mu2):=jf (l:=.sh P) (m:=.sh (.int 3)) rfl rfl rfl rfl (fun n h'=>by rw [hP] at h'; cases h') (by rw [hP]; rfl)
  exact GZ (ρ1:=L V Dp p4 p5 none none none none none none none none none mu2) rfl (bA (aY (ls:=[.sh (.lst (rs.map Rw.pv)),.sh (.ptr d)]) (ρ1:=L V Dp p4 p5 none none none none none none none none none mu2) (aC e3 (aC rfl rfl)) rfl rfl rfl el) rfl rfl)
 obtain ⟨p8,p9,p10,ec⟩:=Hf (S:=S) (P:=P) (l2:=V) (l3:=Dp) (l4:=p4) (l5:=p5) (l6:=zS MP) (mu:=mu3) ms [] none none none (by have e:tW ms<=rs.length:=nev; show 0+tW ms<=1000; omega)
 rw [ZL] at ec
 have s6:gM (gC (aa 6) du) (fP 3 (aP (aJ 8) (aP (aJ 9) (aP (aJ 10) fO)))) (nq 7 (dq (gC (aa 10) du) 3 [8] (fP 3 (aP (aJ 0) (aP (aJ 1) (aP (aJ 2) fO)))) dN (bh (aj (aa 3) (aj (aa 0) (aj (aa 1) (aj (aa 2) ao))))))) (L V Dp p4 p5 (some (.own MP)) (zO []) none none none none none none none mu3)=some (.nx (L V Dp p4 p5 (zS MP) (zO (eY ms)) p8 p9 p10 none none none none mu3)):=gR (pN (l:=.sh MP) (ρ1:=L V Dp p4 p5 (zS MP) (zO []) none none none none none none none mu3) rfl rfl) ec
 let MQ:Option Lc:=zS MP
 let RQ:Option Lc:=zL (eY ms)
 let DQ:Option Lc:=zS due
 let BQ:Option Lc:=zI bu
 have s7:aL 11 (bh (aj (eC (.str "done")) (aj (aa 7) (aj (dq (gC (aF (aa 1) (eC (.int 0))) du) 1 [3] (aJ 0) dN (jO (aa 1) (aF (aa 0) (eC (.int 0))))) ao)))) (L V Dp p4 p5 MQ (zO (eY ms)) p8 p9 p10 none none none none mu3)=some (.nx (L V Dp p4 p5 MQ RQ p8 p9 p10 DQ none none none mu3)):=by
  have dc:=Qp (S:=S) (gr:=Bc) (R3:=.lst []) (R4:=.lst (rs.map Rw.pv)) (l2:=V) (l4:=p4) (l5:=p5) (l6:=MQ) (l7:=RQ) (l8:=p8) (l9:=p9) (l10:=p10) (l11:=none) (l12:=none) (l13:=none) (l14:=none) (D:=D) (by rw [H.su.names,nm']) (by rw [nm']; exact H.g.nd) (by rw [ln']; exact H.g.l8) hb3 hc3
  rw [show (.tup [.lst (dcl D),Bc,.lst [],.lst (rs.map Rw.pv)]:PV)=P from hP.symm] at dc
  exact bA (fV (ls:=[.sh (.str "done"),.sh (.lst (eY ms)),.own (.lst pf)]) (ρ1:=L V Dp p4 p5 MQ RQ p8 p9 p10 none none none none mu3) (aC rfl (aC (ρ1:=L V Dp p4 p5 MQ RQ p8 p9 p10 none none none none mu3) rfl (aC dc rfl))) rfl rfl) rfl rfl
 have s8:aL 12 (aq aQ (aq bQ (aG bB (aj (aa 0) (aj (eC (.int 1)) ao))) (eC (.int 41))) (eC (.int 21))) (L V Dp p4 p5 MQ RQ p8 p9 p10 DQ none none none mu3)=some (.nx (L V Dp p4 p5 MQ RQ p8 p9 p10 DQ BQ none none mu3)):=bA (ir (il (aY (ls:=[.sh S,.sh (.int 1)]) (ρ1:=L V Dp p4 p5 MQ RQ p8 p9 p10 DQ none none none mu3) rfl rfl rfl rfl (ec1 mu3)) (by decide) (by decide)) (by decide)) rfl rfl
 let Y:=fun l2 l13 l14 mu=>L l2 Dp p4 p5 MQ RQ p8 p9 p10 DQ BQ l13 l14 mu
 let G:Option Lc:=zS got
 let O:Option Lc:=zS (.ptr n)
 have s9:aL 13 (aG vK (aj (aa 1) (aj (aa 2) (aj (aa 12) ao)))) (Y V none none mu3)=some (.nx (Y V G none mu4)):=bA (aY (ls:=[.sh P,.sh (.ptr 0),.sh (.int bu)]) (ρ1:=Y V none none mu3) rfl rfl rfl rfl er) rfl rfl
 have s10:aL 14 (aG oY (aj (aa 1) (aj (aa 2) (aj (aa 12) ao)))) (Y V G none mu4)=some (.nx (Y V G O mu5)):=bA (aY (ls:=[.sh P,.sh (.ptr 0),.sh (.int bu)]) (ρ1:=Y V G none mu4) rfl rfl rfl rfl et) rfl rfl
 have tres:∀ (m2:Mu) (n':Nat) (M':List PV),m2[n']?=some (some (.lst M'))->MO m2 n' M' ms->aW m2 40 (.ptr n')=MP:=fun m2 n' M' h1 h2=>by
  rw [oZ h1]
  show PV.lst (M'.map (aW m2 38))=_
  rw [h2.res]
 have a1:=Ei (f:=aa 13) (g:=aa 11) (x:=.sh got) (y:=.sh due) (ρ:=Y V G O mu5) (ρ1:=Y V G O mu5) (ρ2:=Y V G O mu5) rfl rfl (rr mu5 fun c h1 _=>fr5 c h1) (dres mu5 fun c h1 h2=>(fr5 c (by omega)).trans (fr4 c h2)) (Ha H)
 have a2:=Ei (f:=aa 14) (g:=aa 6) (x:=.sh (.ptr n)) (y:=.sh MP) (ρ:=Y V G O mu5) (ρ1:=Y V G O mu5) (ρ2:=Y V G O mu5) rfl rfl (tres mu5 n M hn5 Mo) Cg.res (Dl H.l4)
 have s11:bN (mH (jM (tT (fW (cA 40) (aj (aa 13) (aj (aa 11) ao))) jA)) (jM (tT (fW (cA 40) (aj (aa 14) (aj (aa 6) ao))) jA))) (bD (eC (.bl false))) bY (Y V G O mu5)=some (.nx (Y V G O mu5)):=(bG (Q8 (uF (b:=true) (d7 a1 rfl rfl)) (uF (b:=true) (d7 a2 rfl rfl)))).trans rfl
 have s12:bN (mH (pR (tT (aq pK (aa 2) (aG fJ (aj (aa 0) (aj (aa 1) ao)))) aU)) (tT (aq pK (aa 1) (aG gA (aj (aa 0) ao))) aU)) (bD (eC (.bl false))) bY (Y V G O mu5)=some (.nx (Y V G O mu5)):=by
  have k1:pR (tT (aq pK (aa 2) (aG fJ (aj (aa 0) (aj (aa 1) ao)))) aU) (Y V G O mu5)=some (false,Y V G O mu5):=by
   refine Dn (ρ1:=(Y V G O mu5).peekD) (d7 (l:=.sh (.bl false)) (bO (l:=.sh (aW mu5 40 (.ptr 0))) (m:=.own (.lst (gf B))) (ρ1:=(Y V G O mu5).peekD) rfl rfl (aY (ls:=[.sh (aW mu5 40 S),.sh (aW mu5 40 P)]) (ps:=[S,P]) (ρ1:=(Y V G O mu5).peekD) rfl ?_ rfl rfl (ev _)) rfl ?_) rfl rfl)
   . show [aW mu5 40 S,aW mu5 40 P]=_
     rw [rS,pP.res]
   . show pK (aW mu5 40 (.ptr 0)) (.lst (gf B))=_
     rw [oZ v5,Nt.res]
     exact Kw (Nt.up (by decide))
  have k2:tT (aq pK (aa 1) (aG gA (aj (aa 0) ao))) aU (Y V G O mu5)=some (false,Y V G O mu5):=d7 (l:=.sh (.bl false)) (bO (l:=.sh P) (m:=.sh P) (ρ1:=Y V G O mu5) rfl rfl (aY (ls:=[.sh S]) (ρ1:=Y V G O mu5) rfl rfl rfl rfl (ep mu5)) rfl (Kw (pP.up (by decide)))) rfl rfl
  exact (bG (Q8 k1 k2)).trans rfl
 let mu6:Mu:=mu5.set 0 (some (.lst (gf B++[.int 3])))
 have hvl:(gf B).length<=100:=by rw [Yw]; exact H.g.l8
 have s13:jt (aa 2) (eC (.int 3)) (Y V G O mu5)=some (.nx (Y V G O mu6)):=mZ (o:=.sh (.ptr 0)) (y:=.sh (.int 3)) (ρ1:=Y V G O mu5) (ρ2:=Y V G O mu5) rfl rfl v5 rfl rfl v5 (by omega) rfl
 have q5:mu5[q]?=some (some (.lst (eY ms))):=(fr5 q ql).trans hq4
 have q6:mu6[q]?=some (some (.lst (eY ms))):=(Yz (by omega)).trans q5
 have hrc:(eY ms).length<=1000:=by
  have e:tW ms<=rs.length:=nev
  rw [zf]
  omega
 let mu7:Mu:=mu6.set q (some (.lst (eY ms++[.lst pr])))
 have s14:jt (aF (aa 13) (eC (.int 1))) (aF (aa 13) (eC (.int 2))) (Y V G O mu6)=some (.nx (Y V G O mu7)):=mZ (o:=.sh (.ptr q)) (y:=.sh (.lst pr)) (ρ1:=Y V G O mu6) (ρ2:=Y V G O mu6) rfl rfl q6 rfl rfl q6 (by omega) rfl
 have n5:n<mu5.length:=eV hn5
 have n7:mu7[n]?=some (some (.lst M)):=(Yz (by omega)).trans ((Yz (by omega)).trans hn5)
 have f7:∀ c,c≠0->c≠q->mu7[c]?=mu5[c]?:=fun c h1 h2=>(Yz (Ne.symm h2)).trans (Yz (Ne.symm h1))
 have tg:tT (aq rJ (gO (aa 14)) (eC (.int 0))) aU (Y V G O mu7)=some (decide ((M.length:Int)>0),Y V G O mu7):=d7 (l:=.sh (.bl (decide ((M.length:Int)>0)))) (bO (BX (l:=.sh (.ptr n)) rfl rfl n7) rfl rfl rfl rfl) rfl rfl
 obtain ⟨mu8,s15,n8,r8,f8,len8⟩:∃ mu8:Mu,bN (tT (aq rJ (gO (aa 14)) (eC (.int 0))) aU) (jt (aF (aF (aa 14) (eC (.int 0))) (eC (.int 2))) (eC (.int 1))) bY (Y V G O mu7)=some (.nx (Y V G O mu8))/\mu8[n]?=some (some (.lst M))/\(M.map (aW mu8 38)).tail=(ms.map cD.pv).tail/\(∀ c,c<n->mu8[c]?=mu7[c]?)/\mu8.length=mu7.length:=by
  cases hms:ms with
  | nil=>
   have hM:M=[]:=by have h:=Mo; rw [show (dY B rs).1=[] from hms] at h; exact h
   refine ⟨mu7,(bG (tg.trans (by rw [hM]; rfl))).trans rfl,n7,by rw [hM]; rfl,fun _ _=>rfl,rfl⟩
  | cons m ms'=>
   have h:=Mo
   rw [show (dY B rs).1=m::ms' from hms] at h
   obtain ⟨c,rest,rfl,hc1,hc2,hr⟩:=h
   have c7:mu7[c]?=some (some (evs m.2.2)):=(f7 c (by omega) (by omega)).trans hc2
   have e1:m.2.2.length<=1:=Jl (B:=B) (rs:=rs) (by rw [show (dY B rs).1=m::ms' from hms]; exact Yv)
   refine ⟨mu7.set c (some (.lst (m.2.2.map jK.pv++[.int 1]))),(dB (tg.trans (by rw [aa3 (by rw [YB]; omega)]))).trans (mZ (o:=.sh (.ptr c)) (y:=.sh (.int 1)) (ρ1:=Y V G O mu7) (ρ2:=Y V G O mu7) (jf (l:=.sh (.tup [.int m.1,.int m.2.1,.ptr c])) (m:=.sh (.int 2)) (FQ (l:=.sh (.ptr n)) (m:=.sh (.int 0)) rfl rfl rfl rfl n7 (lG (k:=0) rfl)) rfl rfl rfl (fun n h=>by cases h) rfl) rfl c7 rfl rfl c7 (by rw [Yw]; omega) rfl),(Yz (by omega)).trans n7,?_,fun c' h=>Yz (by omega),YX⟩
   show rest.map (aW _ 38)=ms'.map cD.pv
   exact (hr.frame fun c' h1 h2=>(Yz (by omega)).trans (f7 c' (by omega) (by omega))).res
 have s16:bN (pR (tT (aq pK (nC (aa 14) (gF (eC (.int 1))) ie) (nC (aa 6) (gF (eC (.int 1))) ie)) aU)) (bD (eC (.bl false))) bY (Y V G O mu8)=some (.nx (Y V G O mu8)):=by
  refine (bG (Dn (ρ1:=(Y V G O mu8).peekD) (d7 (l:=.sh (.bl false)) (bO (l:=.own (.lst (ms.map cD.pv).tail)) (m:=.own (.lst (ms.map cD.pv).tail)) (ρ1:=(Y V G O mu8).peekD) (ρ2:=(Y V G O mu8).peekD) ?_ rfl ?_ rfl (Kw ?_)) rfl rfl))).trans rfl
  . have q:=Bb (f:=aa 14) (lo:=gF (eC (.int 1))) (hi:=ie) (ρ:=(Y V G O mu8).peekD) (ρ1:=(Y V G O mu8).peekD) (l:=.sh (aW mu8 40 (.ptr n))) (ps:=M.map (aW mu8 38)) rfl (by show aW mu8 40 (.ptr n)=_; rw [oZ n8]; rfl) rfl rfl
    rw [Hg,r8] at q
    exact q
  . have q:=Bb (f:=aa 6) (lo:=gF (eC (.int 1))) (hi:=ie) (ρ:=(Y V G O mu8).peekD) (ρ1:=(Y V G O mu8).peekD) (l:=.sh (aW mu8 40 MP)) (ps:=ms.map cD.pv) rfl (show aW mu8 40 MP=_ from Cg.res) rfl rfl
    rw [Hg] at q
    exact q
  . refine Pl.up (n:=6) (by decide) (fun p hp=>?_)
    obtain ⟨m,_,rfl⟩:=YZ.mp (List.mem_of_mem_tail hp)
    exact Nu
 let mu9:Mu:=mu8.set n (some (.lst (M++[.lst (jl M none (some 1))])))
 have hM:M.length<=1000:=by
  rw [Mo.len]
  have:=Jm (B:=B) (rs:=rs)
  omega
 have s17:jt (aa 14) (Gs (aa 14) ie (gF (eC (.int 1)))) (Y V G O mu8)=some (.nx (Y V G O mu9)):=mZ (o:=.sh (.ptr n)) (y:=.own (.lst (jl M none (some 1)))) (ρ1:=Y V G O mu8) (ρ2:=Y V G O mu8) rfl rfl n8 (Wt (l:=.sh (.ptr n)) rfl rfl rfl rfl n8) rfl n8 (by omega) rfl
 let mu10:Mu:=mu9++[some (.lst (gf B))]
 have l9:mu9.length=mu5.length:=by rw [YX,len8,YX,YX]
 have f10:∀ c,1<=c->c<mu3.length->mu10[c]?=mu3[c]?:=fun c h1 h2=>by
  show (mu9++[_])[c]?=_
  rw [m5 (by omega)]
  show (mu8.set n _)[c]?=_
  rw [Yz (by omega),f8 c (by omega),f7 c (by omega) (by omega),fr5 c (by omega),fr4 c h2]
 let V2:Option Lc:=zS (.ptr mu9.length)
 have v10:mu10[mu9.length]?=some (some (.lst (gf B))):=by
  show (mu9++[_])[mu9.length]?=_
  rw [YL (Yy _),Zz]
  rfl
 have len10:mu10.length=mu9.length+1:=by show (mu9++[_]).length=_; rw [YD]; rfl
 obtain ⟨mu11,q',pr',er',rr',q1',hq',l11,fr11⟩:=Nr (gr:=Bc) (bu:=bu) H v10
 have v11:mu11[mu9.length]?=some (some (.lst (gf B))):=(fr11 _ (by omega)).trans v10
 obtain ⟨mu12,n',M',et',hn',Mo',n1',fr12⟩:=Di (gr:=Bc) (bu:=bu) H v11
 rw [← hP] at er' et'
 have a3:=Ei (f:=aG vK (aj (aa 1) (aj (aa 2) (aj (aa 12) ao)))) (g:=aa 11) (x:=.sh (.tup [.str "done",.ptr q',.lst pr'])) (y:=.sh due) (ρ:=Y V2 G O mu10) (ρ1:=Y V2 G O mu11) (ρ2:=Y V2 G O mu11) (aY (ls:=[.sh P,.sh (.ptr mu9.length),.sh (.int bu)]) (ρ1:=Y V2 G O mu10) rfl rfl rfl rfl er') rfl (rr' mu11 fun c _ _=>rfl) (dres mu11 fun c h1 h2=>(fr11 c (by omega)).trans (f10 c h1 h2)) (Ha H)
 have s19:bN (jM (tT (fW (cA 40) (aj (aG vK (aj (aa 1) (aj (aa 2) (aj (aa 12) ao)))) (aj (aa 11) ao))) jA)) (bD (eC (.bl false))) bY (Y V2 G O mu10)=some (.nx (Y V2 G O mu11)):=(bG (uF (b:=true) (d7 a3 rfl rfl))).trans rfl
 have a4:=Ei (f:=aG oY (aj (aa 1) (aj (aa 2) (aj (aa 12) ao)))) (g:=aa 6) (x:=.sh (.ptr n')) (y:=.sh MP) (ρ:=Y V2 G O mu11) (ρ1:=Y V2 G O mu12) (ρ2:=Y V2 G O mu12) (aY (ls:=[.sh P,.sh (.ptr mu9.length),.sh (.int bu)]) (ρ1:=Y V2 G O mu11) rfl rfl rfl rfl et') rfl (tres mu12 n' M' hn' Mo') Cg.res (Dl H.l4)
 exact ⟨mu12,bj (ρ:=Y V2 G O mu12) (aB s1 (aB (s2 _ _ _ _ _ _ _ _ _ _ _ _ _ _) (aB (ρ':=L V (some (.own (.dk [] []))) none none none none none none none none none none none mu1) rfl (aB s4 (aB s5 (aB (ρ':=L V Dp p4 p5 (some (.own MP)) (zO []) none none none none none none none mu3) rfl (aB s6 (aB s7 (aB s8 (aB s9 (aB s10 (aB s11 (aB s12 (aB s13 (aB s14 (aB s15 (aB s16 (aB s17 (aB (s2 _ _ _ _ _ _ _ _ _ _ _ _ _ _) (aB s19 (b8 a4)))))))))))))))))))))⟩
end
section
variable (K:FG) (x qq:Str) (st:Stmt) (f c:Addr)
abbrev Xr:Prop:=∃ (oc kV dc pm cd ct:Value) (od an:Option Addr) (sl:Array (Option Value)),K.lookup f=some ⟨oc,od,.func (W.fnOf x qq (oG st) (iV st) (aK st) .none kV dc pm an cd ct),sl⟩/\W.codeIn K cd qq=true/\W.keepIn K (.ref f)=true
abbrev FD:Prop:=∃ f,W.nsIn K mainGlobals x=some (some (.ref f))/\Xr K x x st f
abbrev FM:Prop:=∃ f,W.findIn K (.ref c) x=some (some (.ref f))/\W.isFn K (.ref f)=true/\Xr K x qq st f
abbrev KC:Prop:=W.nsIn K mainGlobals x=some (some (.ref c))/\W.plainGet K c Str.empty=true/\W.hasDictIn K c=true/\W.plainOver K c=true/\W.findIn K (.ref c) "__setattr__" = some (some (.builtin "object.__setattr__"))/\W.makesIn K c=true/\W.keepIn K (.ref c)=true
abbrev HB (ps:List Str):Prop:=∀ (kV doc pm:Value) (an:Option Addr) (cdv ct:Value) (us:List Value),us.length=ps.length->bindArgs (W.fnOf x qq (oG st) (iV st) (aK st) .none kV doc pm an cdv ct) ⟨us,[]⟩=pure (ps.zip us)
end
section
variable {K:FG} {h:Heap} {mg:Str->Option Value} {x qq:Str} {st:Stmt} {c:Addr} {ps:List Str}
theorem jj (X:K.In h) (G:h.Ns mainGlobals mg) (d:FD K x st) (hb:HB x x st ps):cR K mg x st ps:=by
 obtain ⟨f,a,_,_,_,_,_,_,_,_,_,l,e,k⟩:=d
 exact ⟨_,_,ww l e k,W.mg_of X G a,(ww l e k).binds hb⟩
theorem v8 (d:FM K x qq st c) (hb:HB x qq st ps):rN K c x qq st ps:=by
 obtain ⟨f,a,i,_,_,_,_,_,_,_,_,_,l,e,k⟩:=d
 exact ⟨_,_,ww l e k,a,i,(ww l e k).binds hb⟩
theorem Xu (X:K.In h) (G:h.Ns mainGlobals mg) (d:KC K x c):ue K mg x c:=⟨d.1,⟨d.2.1,d.2.2.1,d.2.2.2.1,d.2.2.2.2.1⟩,W.mg_of X G d.1⟩
theorem yz {l:List Str} (n:W.findIn K (.ref c) x=some none) (t:∀ f∈l,jy K c f):∀ f∈x::l,jy K c f:=by
 intro g hg
 rcases YC.mp hg with e | hg
 . rw [e]; exact n
 . exact t g hg
theorem nan:∀ f∈([]:List Str),jy K c f:=fun _ h=>nomatch h
theorem bc {l:List Str} (X:K.In h) (G:h.Ns mainGlobals mg) (n:W.nsIn K mainGlobals x=some none) (t:Ig mg l):Ig mg (x::l):=by
 intro g hg
 rcases YC.mp hg with e | hg
 . rw [e]; exact W.mg_none_of X G n
 . exact t g hg
theorem bn:Ig mg []:=fun _ h=>nomatch h
end
local macro_rules | `(tactic| walk_at "b")=>`(tactic| (intro _ _ _ _ _ _ us hl; first | (obtain ⟨_,e⟩:=yo hl; subst e; rfl) | (obtain ⟨_,_,e⟩:=ln2 hl; subst e; rfl) | (obtain ⟨_,_,_,e⟩:=Xh hl; subst e; rfl) | (obtain ⟨_,_,_,_,e⟩:=Xi hl; subst e; rfl) | (obtain ⟨_,_,_,_,_,e⟩:=Ym hl; subst e; rfl)))
theorem all_mk {l:W.OpenLaw} {w:World} {K:FG} {h:Heap} {mg:Str->Option Value} {fa:Addr} (X:K.In h) (G:h.Ns mainGlobals mg) (hfa:mg "law" = some (.ref fa))
 (acO:∃ c,KC K "Plan" c/\(W.findIn K (.ref c) "told" = some none/\W.findIn K (.ref c) "lists" = some none/\W.findIn K (.ref c) "heads" = some none)/\FM K "__init__" "Plan.__init__" jP c/\FM K "row" "Plan.row" um c/\FM K "body" "Plan.body" rT c)
 (acH:∃ c,KC K "Running" c/\(W.findIn K (.ref c) "plan" = some none/\W.findIn K (.ref c) "boxes" = some none/\W.findIn K (.ref c) "own" = some none/\W.findIn K (.ref c) "budget" = some none/\W.findIn K (.ref c) "word" = some none/\W.findIn K (.ref c) "moments" = some none/\W.findIn K (.ref c) "due" = some none)/\FM K "__init__" "Running.__init__" j4 c/\FM K "lay" "Running.lay" lw c/\FM K "lay_body" "Running.lay_body" j5 c/\FM K "step" "Running.step" nM c/\FM K "note" "Running.note" nO c/\FM K "value" "Running.value" mQ c/\FM K "give" "Running.give" nP c/\FM K "begin" "Running.begin" mR c/\FM K "put" "Running.put" oW c)
 (acv:FD K "blocks_of" uf)
 (acJ:FD K "copied" vC)
 (aco:FD K "all_copied" kJ)
 (acC:FD K "laid_out" qJ)
 (acD:FD K "numbered" vD)
 (acE:FD K "value_of" qK)
 (acw:FD K "number_at" ug)
 (acF:FD K "reckoned" vG)
 (acj:FD K "can_be_held" qe)
 (acM:FD K "suits" xV)
 (ace:FD K "refuse_input" oU)
 (acK:FD K "filled" yR)
 (acI:FD K "emptied" tH)
 (acf:FD K "gone_through" oV)
 (acx:FD K "record_of" pA)
 (acP:FD K "run" Ka)
 (acL:FD K "traced" yS)
 (acy:FD K "_law_cell" uh)
 (ack:FD K "_law_number" qg)
 (acp:FD K "_law_alike" kO)
 (acz:FD K "_law_leaf" ul)
 (acl:FD K "_law_joined" qi)
 (ab3:FD K "_law_expression" lM)
 (acq:FD K "_law_worth" nJ)
 (acG:FD K "_law_row" vH)
 (acg:FD K "_law_program" lu)
 (abY:FD K "_law_values" mq)
 (acA:FD K "_law_laid" pB)
 (acQ:FD K "law" qM)
 (z0:W.nsIn K mainGlobals "ValueError" = some none)
 (z1:W.nsIn K mainGlobals "all" = some none)
 (z2:W.nsIn K mainGlobals "bool" = some none)
 (z3:W.nsIn K mainGlobals "dict" = some none)
 (z4:W.nsIn K mainGlobals "enumerate" = some none)
 (z5:W.nsIn K mainGlobals "int" = some none)
 (z6:W.nsIn K mainGlobals "isinstance" = some none)
 (z7:W.nsIn K mainGlobals "len" = some none)
 (z8:W.nsIn K mainGlobals "list" = some none)
 (z9:W.nsIn K mainGlobals "max" = some none)
 (z10:W.nsIn K mainGlobals "min" = some none)
 (z11:W.nsIn K mainGlobals "range" = some none)
 (z12:W.nsIn K mainGlobals "reversed" = some none)
 (z13:W.nsIn K mainGlobals "str" = some none)
 (z14:W.nsIn K mainGlobals "tuple" = some none)
 (z15:W.nsIn K mainGlobals "zip" = some none)
 (acN:∃ t,W.nsIn K mainGlobals "LIMIT" = some (some (.int 1000000000000 t)))
 (HL:∀ [HK] (ns:List Int),ns.length<=63->∃ mu,Kd [.lst (ns.map PV.int)] []=some (.sh (.bl true),mu))
 : ∃ fd:FuncData,(∀ (s:Shared) (v:Value),BindsTo s fd ⟨[v],[]⟩ [("_law_script",v)])/\∀ base:Heap,K.In base->base.Ns mainGlobals mg->mD l.prog w K mg base oE 88 fa fd ["_law_script"] (Eb K):=by
 letI:HK:=⟨zH l.prog w⟩
 have hkx:HK.hk=zH l.prog w:=rfl
 obtain ⟨abq,acr,⟨n0,n1,n2⟩,ab6,acB,acs⟩:=acO
 have abd:=Xu X G acr
 have abe:=yz n0 (yz n1 (yz n2 (nan)))
 obtain ⟨abf,ab2,⟨n0,n1,n2,n3,n4,n5,n6⟩,abZ,ach,ab0,ab9,aca,ab7,acb,ab8,aci⟩:=acH
 have aa9:=Xu X G ab2
 have aba:=yz n0 (yz n1 (yz n2 (yz n3 (yz n4 (yz n5 (yz n6 (nan)))))))
 have B:Ig mg BL:=bc X G z0 (bc X G z1 (bc X G z2 (bc X G z3 (bc X G z4 (bc X G z5 (bc X G z6 (bc X G z7 (bc X G z8 (bc X G z9 (bc X G z10 (bc X G z11 (bc X G z12 (bc X G z13 (bc X G z14 (bc X G z15 (bn))))))))))))))))
 have abb:∃ t,mg "LIMIT" = some (.int 1000000000000 t):=acN.imp fun _ y=>W.mg_of X G y
 obtain ⟨_,a,_,kV,dc,pm,cd,ct,_,an,_,lk,ce,kp⟩:=acQ
 have e:=hfa.symm.trans (W.mg_of X G a)
 cases e
 refine ⟨W.fnOf "law" "law" (oG qM) (iV qM) (aK qM) .none kV dc pm an cd ct,fun s v=>.of_eq rfl,fun base _ _=>?_⟩
 have abt:=Gy (base:=base) B abb abd abe aa9 aba hkx (jj X G acv (by walk_at "b"))
 have acu:=Ah (base:=base) B abb abd abe aa9 aba hkx (jj X G acJ (by walk_at "b")) (jj X G aco (by walk_at "b")) 40
 have abx:=acu.1
 have abG:=acu.2
 have aby:=xg (base:=base) B abb abd abe aa9 aba hkx (jj X G acC (by walk_at "b")) abt abx 40
 have abV:=Hs (base:=base) B abb abd abe aa9 aba hkx (jj X G acD (by walk_at "b")) aby
 have abu:=Gz (base:=base) B abb abd abe aa9 aba hkx (jj X G acw (by walk_at "b"))
 have abz:=Ht (base:=base) B abb abd abe aa9 aba hkx (jj X G acF (by walk_at "b"))
 have abp:=xj (base:=base) B abb abd abe aa9 aba hkx (jj X G acE (by walk_at "b")) abu abz 40
 have abC:=BJ (base:=base) B abb abd abe aa9 aba hkx (jj X G acj (by walk_at "b"))
 have acd:=PB (base:=base) B abb abd abe aa9 aba hkx (jj X G acM (by walk_at "b")) abC
 have abL:=Ai (base:=base) B abb abd abe aa9 aba hkx (jj X G ace (by walk_at "b")) acd
 have ab5:=M6 (base:=base) B abb abd abe aa9 aba hkx (jj X G acK (by walk_at "b"))
 have ab1:=Kg (base:=base) B abb abd abe aa9 aba hkx (jj X G acI (by walk_at "b"))
 have abD:=QV (yc (base:=base) B abb abd abe aa9 aba hkx (v8 ab6 (by walk_at "b")) abV) acr.2.2.2.2.2.1 acr.2.2.2.2.2.2
 have abN:=Dw (base:=base) B abb abd abe aa9 aba hkx (v8 acs (by walk_at "b"))
 have abJ:=Aj (base:=base) B abb abd abe aa9 aba hkx (v8 ach (by walk_at "b"))
 have abv:=vM (base:=base) B abb abd abe aa9 aba hkx (v8 ab0 (by walk_at "b")) abN abJ
 have abw:=QV (vN (base:=base) B abb abd abe aa9 aba hkx (v8 abZ (by walk_at "b")) abD abv ab5) ab2.2.2.2.2.2.1 ab2.2.2.2.2.2.2
 have abQ:=GC (base:=base) B abb abd abe aa9 aba hkx (v8 acB (by walk_at "b"))
 have abH:=yV (base:=base) B abb abd abe aa9 aba hkx (v8 acb (by walk_at "b"))
 have abh:=yW (base:=base) B abb abd abe aa9 aba hkx (v8 aca (by walk_at "b"))
 have abj:=yd (base:=base) B abb abd abe aa9 aba hkx (v8 ab7 (by walk_at "b")) abp
 have abK:=Ak (base:=base) B abb abd abe aa9 aba hkx (v8 aci (by walk_at "b")) abh abj
 have abE:=ye (base:=base) B abb abd abe aa9 aba hkx (v8 ab8 (by walk_at "b")) abQ abH abh abK abj
 have abI:=yX (base:=base) B abb abd abe aa9 aba hkx (v8 ab9 (by walk_at "b")) abE abh
 have abm:=Al (base:=base) B abb abd abe aa9 aba hkx (jj X G acf (by walk_at "b")) abw abI abL
 have abR:=GD (base:=base) B abb abd abe aa9 aba hkx (jj X G acx (by walk_at "b"))
 have acn:=V7 (base:=base) B abb abd abe aa9 aba hkx (jj X G acP (by walk_at "b")) ab1 abm abR
 have abX:=M7 (base:=base) B abb abd abe aa9 aba hkx (jj X G acL (by walk_at "b")) abm
 have abg:=GJ (base:=base) B abb abd abe aa9 aba hkx (jj X G acy (by walk_at "b"))
 have abi:=BK (base:=base) B abb abd abe aa9 aba hkx (jj X G ack (by walk_at "b"))
 have abk:=uP (base:=base) B abb abd abe aa9 aba hkx (jj X G acp (by walk_at "b")) 40
 have abB:=GK (base:=base) B abb abd abe aa9 aba hkx (jj X G acz (by walk_at "b")) abi
 have abn:=BP (base:=base) B abb abd abe aa9 aba hkx (jj X G acl (by walk_at "b"))
 have abo:=xm (base:=base) B abb abd abe aa9 aba hkx (jj X G ab3 (by walk_at "b")) abn abB
 have abl:=uQ (base:=base) B abb abd abe aa9 aba hkx (jj X G acq (by walk_at "b")) 40
 have abW:=Hv (base:=base) B abb abd abe aa9 aba hkx (jj X G acG (by walk_at "b")) abo
 have abA:=Am (base:=base) B abb abd abe aa9 aba hkx (jj X G acg (by walk_at "b")) abg abW
 have abr:=BR (base:=base) B abb abd abe aa9 aba hkx (jj X G abY (by walk_at "b")) abg abi
 have abS:=GP (base:=base) B abb abd abe aa9 aba hkx (jj X G acA (by walk_at "b")) abl
 have abF:=yf (base:=base) B abb abd abe aa9 aba hkx (jj X G abY (by walk_at "b")) abg abi
 exact Vu (V8 (base:=base) B abb abd abe aa9 aba hkx (ww (st:=qM) lk ce kp) abk abg abS abA abr abF acn abX) HL
theorem walk {l:W.OpenLaw} {q:Program} {loose:List Str} {XP:(Str->Option Value)->Heap->Prop} {YP:World->Heap->Prop} {d:DefRec} {K:Params->FG} (hn:l.most=some 63) (hdf:d.params.defaults=[])
 (hY:∀ (w:World) (h:Heap),YP w h->(K w.params).In h)
 (F:∀ (w:World) (mg:Str->Option Value) (fa:Addr) (h:Heap),(K w.params).In h->h.Ns mainGlobals mg->mg d.name=some (.ref fa)->
   ∃ fd:FuncData,(∀ (s:Shared) (u:Value),BindsTo s fd ⟨[u],[]⟩ [("_law_script",u)])/\∀ base:Heap,(K w.params).In base->base.Ns mainGlobals mg->mD l.prog w (K w.params) mg base oE 88 fa fd ["_law_script"] (Eb (K w.params))):
 W.WalkO q loose XP YP l.row.toRowW d [] (fun f vs=>PySem.call f vs):=
 L2.walk_of (n:=63) (k:=88) (x := "_law_script") (CX:=fun _=>oE) (sp:=fun w=>Eb (K w.params)) hn (by decide) hdf ⟨fun _=>rfl,by decide,by decide,rfl⟩ hY F (fun _ _ a ns hl _ hS=>⟨a,ns,rfl,hS,hl,fun _=>rfl⟩) fun _ _ _ _ _ z=>z
end Law
namespace PySem.W.Fast
def tw13632694338808318555:=0
def tw9204579339355159799:=0
def tw69924771300944041:=0
def tw9373820876906318049:=0
def tw323112181677690665:=0
def tw7824211048377841074:=0
def tw8951990187762525631:=0
def tw14896561486712284684:=0
def tw8134170155164075309:=0
def tw16671743555626888356:=0
def tw12725111552389525204:=0
def tw13998614788856178037:=0
def tw2764731262952901619:=0
def tw12556740875128471976:=0
def tw7729855376325844393:=0
def tw684814044047396346:=0
def tw9561754131330317865:=0
def tw7763475740784530366:=0
def tw3731397425375191199:=0
def tw5198494617270690403:=0
def tw12032624718016405425:=0
def tw1336140994400826565:=0
def tw3512107058713636043:=0
def tw5602268431637350089:=0
def tw12549110972973926210:=0
def tw5050986300797800601:=0
def tw6095331153663684775:=0
end PySem.W.Fast
open PySem PySem.W PyProof.Rows
local macro_rules | `(tactic| walk_at "m")=>`(tactic| exact ⟨_,by k_is,by k_is,_,_,_,_,_,_,_,_,_,by k_is,by k_is,by k_is⟩)
local macro_rules | `(tactic| walk_at "d")=>`(tactic| exact ⟨_,by k_is,_,_,_,_,_,_,_,_,_,by k_is,by k_is,by k_is⟩)
set_option maxRecDepth 100000 in
set_option maxHeartbeats 0 in
theorem PySem.Challenge.cw_hushwise_k24_straight_rows_holds : PySem.Challenge.rw_hushwise_k24_straight_rows.Holds := by
 w_on; o_law; k_head; (case hw=>w_witness2)
 k_fill
 refine Law.walk (l:=PySem.Challenge.rw_hushwise_k24_straight_rows) rfl rfl (fun w h Y=>W.kIn_of Y) ?F
 case F=>
  intro w mg fa h KX G hmg
  refine' Law.all_mk KX G hmg ?_ ?_ ?_ ?_ ?_ ?_ ?_ ?_ ?_ ?_ ?_ ?_ ?_ ?_ ?_ ?_ ?_ ?_ ?_ ?_ ?_ ?_ ?_ ?_ ?_ ?_ ?_ ?_ ?_ ?_ ?_ ?_ ?_ ?_ ?_ ?_ ?_ ?_ ?_ ?_ ?_ ?_ ?_ ?_ ?_ ?_ ?_ ?_ Law.law_true
  exact ⟨_,⟨by k_is,by k_is,by k_is,by k_is,by k_is,by k_is,by k_is⟩,⟨by k_is,by k_is,by k_is⟩,by walk_at "m",by walk_at "m",by walk_at "m"⟩
  exact ⟨_,⟨by k_is,by k_is,by k_is,by k_is,by k_is,by k_is,by k_is⟩,⟨by k_is,by k_is,by k_is,by k_is,by k_is,by k_is,by k_is⟩,by walk_at "m",by walk_at "m",by walk_at "m",by walk_at "m",by walk_at "m",by walk_at "m",by walk_at "m",by walk_at "m",by walk_at "m"⟩
  iterate 29 walk_at "d"
  iterate 16 k_is
  iterate 1 exact ⟨_,by k_is⟩
