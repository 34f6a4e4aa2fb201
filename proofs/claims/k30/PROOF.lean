import PyProof.Rows.All
import Wide.All
import OpenK.AllK
import Wide.FinOn
import Lean
import PyProof.EqAt
import PyProof.EqKinds
import PyProof.TupleCall
import PyProof.NeKinds
import PyProof.StrBlockI
import PyProof.WalksEnum
import PyProof.EnumMake
import PyProof.ZipIter
import PyProof.Rows.SortStr
import PyProof.Rows.SetFrom
import PyProof.CollectWalk
import PyProof.SetRoads
import PyProof.DictWalks
import PyProof.SumWalk
import PyProof.Rows.SumGenD
import PyProof.DictItems
import KE.KRevIter
import PyProof.Rows.FStrParts
import PyProof.StationsW
import PyProof.ReprRoads
import PyProof.ReprLen
import PyProof.ReprStr
import PyProof.StrLawsRepr
import PyProof.FString
import KE.KIsAll
import PyProof.ListRange
import KE.KEqDict
import PyProof.AutoSeq1
import PyProof.StrCalls
import PySem.Challenge.RW_hushwise_k30_nodes
set_option Elab.async false
set_option linter.all false
set_option bootstrap.genMatcherCode false
set_option genSizeOf false
set_option compiler.extract_closed false
set_option maxRecDepth 100000
set_option maxHeartbeats 8000000
noncomputable section
abbrev FG:=PySem.W.Frag
section
open PySem PySem.Spec PyProof.Rows
abbrev Yy:=@List.length_cons
abbrev Yz:=@List.mem_cons_self
abbrev YB:=@Option.bind_some
abbrev YC:=@Nat.le_refl
abbrev YD:=@Heap.get?_push_of_some
abbrev YF:=@List.mem_cons
abbrev YG:=@List.mem_cons_of_mem
abbrev YH:=@List.length_map
abbrev YJ:=@List.length_append
abbrev YK:=@List.length_nil
abbrev YL:=@List.getElem?_eq_some_iff
abbrev YM:=@List.size_toArray
abbrev YQ:=@List.append_assoc
abbrev YS:=@Heap.lt_size
abbrev YT:=@Heap.get?_push_size
abbrev YW:=@List.map_cons
abbrev YX:=@List.sublist_cons_self
abbrev YZ:=@List.map_append
abbrev Y0:=@List.getElem?_eq_getElem
abbrev Y4:=@List.getElem?_map
abbrev Y5:=@Option.some.inj
abbrev Y6_:=@List.mem_append
abbrev Y7_:=@List.append_nil
abbrev Y8:=@List.getElem?_append_right
abbrev Y9:=@Nat.lt_of_lt_of_le
abbrev Za:=@List.mem_map
abbrev Zb:=@Nat.ne_of_lt
abbrev Zc:=@Nat.le_trans
abbrev Zd:=@List.perm_middle
abbrev Ze:=@List.mem_singleton
abbrev Zf:=@List.filterMap_cons_none
abbrev Zg:=@Bool.false_eq_true
abbrev Zh:=@PassesOwn.never
abbrev Zi:=@List.getElem?_set_self
abbrev Zj:=@Nat.zero_le
abbrev Zk:=@List.sublist_append_left
abbrev Zm:=@List.mem_append_right
abbrev Zn:=@List.mem_of_getElem?
abbrev Zo:=@List.nodup_cons
abbrev Zq:=@List.lookup_cons
abbrev Zr:=@List.nil_append
abbrev Zu:=@Array.length_toList
abbrev Zv:=@List.getElem?_append_left
abbrev Zw:=@List.mem_filterMap
abbrev Zx:=@Heap.get?_update_other
abbrev Zy:=@Bool.and_eq_true
abbrev Zz:=@Heap.get?_update_self
abbrev ZC:=@List.perm_append_comm
abbrev ZD:=@Bool.false_ne_true
abbrev ZF:=@Int.emod_lt_of_pos
abbrev ZJ:=@Nat.lt_succ_of_lt
abbrev ZK:=@List.length_range
abbrev ZL:=@List.map_map
abbrev ZM:=@Int.emod_nonneg
abbrev ZP:=@List.drop_eq_getElem_cons
abbrev ZQ:=@List.sublist_append_right
abbrev ZR:=@List.not_mem_nil
abbrev ZS:=@List.zip_cons_cons
abbrev ZV:=@Nat.lt_irrefl
abbrev ZW:=@PySem.F.plainAttrs_list
abbrev ZX:=@List.foldl_cons
abbrev ZZ:=@Nat.ne_of_gt
abbrev Z3:=@List.set_set
abbrev Z4:=@Nat.lt_succ_self
abbrev Z5:=@List.prefix_refl
abbrev Z6:=@List.cons_append
abbrev Z7:=@Heap.size_push
abbrev Z8:=@Nat.le_succ
abbrev Z9:=@List.mem_append_left
abbrev aaa:=@Nat.sub_self
abbrev aab:=@Nat.le_of_succ_le
abbrev aac:=@List.length_take
abbrev aad:=@List.length_set
abbrev aae:=@List.zip_append
abbrev aaf:=@List.getElem?_set_ne
abbrev aag:=@PySem.mem_of_lookup
abbrev aah:=@Heap.SameBut.update
abbrev aai:=@List.of_mem_zip
abbrev aaj:=@List.nodup_append
abbrev aak:=@List.Sublist.refl
abbrev aal:=@List.length_drop
abbrev aam:=@Option.map_some
abbrev aan:=@Option.isSome_iff_exists
abbrev aao:=@List.map_nil
abbrev aap:=@List.prefix_append
abbrev aaq:=@PySem.F.slot_list_append
abbrev aar:=@PySem.F.type_list_append
abbrev aas:=@List.nodup_nil
abbrev aat:=@List.take_of_length_le
abbrev aau:=@List.find?_cons_of_pos
abbrev aav:=@List.find?_cons_of_neg
abbrev aaw:=@Nat.le_of_not_lt
abbrev aax:=@List.getElem?_eq_none
abbrev aay:=@Nat.le_of_lt
abbrev aaz:=@List.find?_cons
abbrev aaA:=@List.eq_nil_of_length_eq_zero
abbrev aaB:=@List.filterMap_cons
abbrev aaC:=@PySem.boot_len
abbrev aaD:=@Nat.lt_of_le_of_lt
abbrev aaE:=@W.kia_one
abbrev aaF:=@List.any_cons
abbrev aaG:=@Int.toNat_natCast
abbrev aaH:=@W.cellsFrom_some
abbrev aaI:=@Option.getD_some
abbrev aaJ:=@Nat.zero_add
abbrev aaK:=@Nat.succ.inj
abbrev aaL:=@W.methodCall_KW
abbrev aaM:=@wpAny_bind
abbrev aaN:=@if_pos
abbrev aaO:=@if_neg
abbrev aaP:=@wpAny_pure
abbrev aaQ:=@decide_eq_false
abbrev aaR:=@decide_eq_true
abbrev aaS:=@beq_eq_false_iff_ne
abbrev aaT:=@beq_self_eq_true
end
namespace L2
open PySem PySem.Spec PyProof.Rows
variable {abQ:List (Addr×Obj)} {E:Value->Shared->Prop} {s:Shared} {A:Around} {w:World} {P:Program}
abbrev Key:=Sum Int Str
def pG:Key->Value->Bool
 | .inl k,v=>Value.isInt k v
 | .inr x,v=>Value.isStrOf x v
def Sx (w:World):Key->Int
 | .inl k=>hashInt k
 | .inr x=>hashStr w x
theorem cG:∀{k:Key} {v:Value},pG k v=true->(∃i t,k=Sum.inl i/\v=Value.int i t)\/(∃x t,k=Sum.inr x/\v=Value.str x t)
 | .inl i,v,h=>by obtain⟨t,e⟩:=Value.isInt_shape (k:=i) (v:=v) h;exact .inl ⟨i,t,rfl,e⟩
 | .inr x,v,h=>by obtain⟨t,e⟩:=Value.isStrOf_shape (x:=x) (v:=v) h;exact .inr ⟨x,t,rfl,e⟩
theorem Jq (i:Int) (t:Tok):pG (.inl i) (.int i t)=true:=by simp[pG,Value.isInt]
theorem Jr (x:Str) (t:Tok):pG (.inr x) (.str x t)=true:=by simp[pG,Value.isStrOf]
theorem Sy (a b:Int):decide ((Sum.inl a:Key)=Sum.inl b)=(a==b):=by
 by_cases e:a=b
 . subst e; simp
 . have h:¬ (Sum.inl a:Key)=Sum.inl b:=λq=>e (Sum.inl.inj q);rw[aaQ h];exact(aaS.mpr e).symm
theorem SJ (a b:Str):decide ((Sum.inr a:Key)=Sum.inr b)=decide (a=b):=by
 by_cases e:a=b
 . subst e; simp
 . have h:¬ (Sum.inr a:Key)=Sum.inr b:=λq=>e (Sum.inr.inj q);rw[aaQ h,aaQ e]
theorem SM (a:Int) (b:Str):decide ((Sum.inl a:Key)=Sum.inr b)=false:=aaQ (λq=>nomatch q)
theorem SN (a:Str) (b:Int):decide ((Sum.inr a:Key)=Sum.inl b)=false:=aaQ (λq=>nomatch q)
def bT (prog:Program) (w:World):PySem.KeyKind prog w Key where
 is:=pG
 hash:=Sx w
 inj:=λv a b ha hb=>by
  rcases cG ha with ⟨i,t,rfl,rfl⟩ | ⟨x,t,rfl,rfl⟩
  . rcases cG hb with ⟨j,u,rfl,e⟩ | ⟨y,u,rfl,e⟩
    . injection e with e1 _; rw[e1]
    . exact nomatch e
  . rcases cG hb with ⟨j,u,rfl,e⟩ | ⟨y,u,rfl,e⟩
    . exact nomatch e
    . injection e with e1 _; rw[e1]
 byValue:=λk v h=>by rcases cG h with ⟨i,t,rfl,rfl⟩ | ⟨x,t,rfl,rfl⟩<;>rfl
 pyHash:=λhv h=>by
  rcases cG hv with ⟨i,t,rfl,rfl⟩ | ⟨x,t,rfl,rfl⟩
  . exact wpAny_pyHash_int h
  . exact wpAny_pyHash_str h
 eqBool:=λhu hv h=>by
  rcases cG hu with ⟨i,t,rfl,rfl⟩ | ⟨x,t,rfl,rfl⟩
  . rcases cG hv with ⟨j,u,rfl,rfl⟩ | ⟨y,u,rfl,rfl⟩
    . rw[Sy]at h; exact wpAny_eqBool_int h
    . rw[SM]at h; exact SeqAt.EqAt.int_str i t y u _ _ _ _ h
  . rcases cG hv with ⟨j,u,rfl,rfl⟩ | ⟨y,u,rfl,rfl⟩
    . rw[SN]at h; exact SeqAt.EqAt.str_int x t j u _ _ _ _ h
    . rw[SJ]at h; exact wpAny_eqBool_str h
 «strs»:=λk x t v h=>by
  rcases cG h with ⟨i,u,rfl,e⟩ | ⟨y,u,rfl,e⟩
  . exact nomatch e
  . injection e with e1 _;subst e1;cases v<;>rfl
theorem Eu (prog:Program) (w:World) (i:Int) (t:Tok):(bT prog w).is (.inl i) (.int i t)=true:=Jq i t
theorem Ew (prog:Program) (w:World) (x:Str) (t:Tok):(bT prog w).is (.inr x) (.str x t)=true:=Jr x t
inductive V where
 | non | bl (b:Bool) | int (i:Int) | str (x:Str) | byt (b:Array UInt8) | flt (b:UInt64) | ref (a:Addr) | ty (n:String)
 deriving DecidableEq
def RelV:V->Value->Prop
 | .non,u=>u=Value.none
 | .bl b,u=>u=Value.bool b
 | .int i,u=>∃t,u=Value.int i t
 | .str x,u=>∃t,u=Value.str x t
 | .byt b,u=>∃t,u=Value.bytes b t
 | .flt b,u=>∃t,u=Value.float b t
 | .ref a,u=>u=Value.ref a
 | .ty n,u=>u=Value.type n
abbrev Vals:List V->List Value->Prop:=Paired RelV
theorem Vals.length {xs:List V} {us:List Value} (r:Vals xs us):xs.length=us.length:=Paired.length r
theorem Vals.get:∀{xs:List V} {us:List Value} {i:Nat} {x:V},Vals xs us->xs[i]?=some x->∃u,us[i]?=some u/\RelV x u
 | _,_,_,_,.nil,e=>by simp at e
 | _,_,0,_,.cons r _,e=>by simp at e; subst e; exact⟨_,rfl,r⟩
 | _,_,i+1,x,.cons _ t,e=>by obtain⟨u,h1,h2⟩:=Vals.get (i:=i) (x:=x) t (by simpa using e);exact⟨u,by simpa using h1,h2⟩
theorem Vals.set {x:V} {u:Value} (r:RelV x u):∀{xs:List V} {us:List Value} (i:Nat),Vals xs us->Vals (xs.set i x) (us.set i u)
 | _,_,_,.nil=>.nil
 | _,_,0,.cons _ t=>.cons r t
 | _,_,i+1,.cons q t=>.cons q (Vals.set r i t)
theorem Vals.append:∀{xs ys:List V} {us ws:List Value},Vals xs us->Vals ys ws->Vals (xs++ys) (us++ws)
 | _,_,_,_,.nil,s=>s
 | _,_,_,_,.cons r t,s=>.cons r (Vals.append t s)
theorem Vals.take:∀{xs:List V} {us:List Value} (n:Nat),Vals xs us->Vals (xs.take n) (us.take n)
 | _,_,0,_=>.nil
 | _,_,_+1,.nil=>.nil
 | _,_,n+1,.cons r t=>.cons r (Vals.take n t)
theorem Vals.drop:∀{xs:List V} {us:List Value} (n:Nat),Vals xs us->Vals (xs.drop n) (us.drop n)
 | _,_,0,r=>r
 | _,_,_+1,.nil=>.nil
 | _,_,n+1,.cons _ t=>Vals.drop n t
def lJ:Option V->Option Value->Prop
 | some v,some u=>RelV v u
 | none,none=>True
 | _,_=>False
def KV {κ:Type}:List (κ×V)->List (κ×Value)->Prop:=Paired λ(p:κ×V) (q:κ×Value)=>p.1=q.1/\RelV p.2 q.2
def kV:Key->V
 | .inl i=>.int i
 | .inr x=>.str x
inductive HO where
 | lst (xs:List V)
 | tup (xs:List V)
 | dK (kvs:List (Key×V)) | dT (kvs:List (List Key×V))
 | set (S:Int->Bool) (n:Nat)
 | ins (C dx:Addr) (fs:List (Str×V))
 | own (x:Addr)
 | xd (fs:List (Str×V))
 | met (f x:Addr)
 | rng (lo hi:Int)
 | frz (o:Obj) (u:HO)
 | tbl (ps:Array Value)
 | ext (φ:Heap->Prop)
abbrev Hp:=Addr->Option HO
def upd (H:Hp) (a:Addr) (o:HO):Hp:=λb=>if b=a then some o else H b
theorem aW {H:Hp} {a:Addr} {o:HO}:upd H a o a=some o:=by unfold upd; rw[aaN rfl]
theorem bM {H:Hp} {a b:Addr} {o:HO} (h:b≠a):upd H a o b=H b:=by unfold upd; rw[aaO h]
theorem Wd {H:Hp} {a b:Addr} {o u:HO} (h:H a=some o) (h':H b=some u) (d:o≠u):a≠b:=by intro e; subst e; rw[h]at h'; exact d (Y5 h')
theorem cT {H:Hp} {a b:Addr} {o:HO} (h:H a=some o) (h':H b=none):a≠b:=by intro e; subst e; rw[h]at h'; cases h'
section
variable (P:Program) (w:World)
def cU (H:Hp) (h:Heap) (a:Addr):HO->Prop
 | .lst xs=>xs.length<=sizeLine/\∃(its:List Value) (n:Nat),Vals xs its/\h.get? a=some { cls:=.type "list",data:=.seq its.toArray n }
 | .tup xs=>xs.length<=sizeLine/\∃its:List Value,Vals xs its/\IsTup h a its.toArray
 | .dK kvs=>kvs.length<=sizeLine/\(a==sysModules)=false/\∃vs,KV kvs vs/\h.DictOf (bT P w) a vs
 | .dT kvs=>kvs.length<=sizeLine/\(a==sysModules)=false/\∃xs:List (List Key×Addr×Value),
  Paired (λ(p:List Key×V) (q:List Key×Addr×Value)=>p.1=q.1/\H q.2.1=some (.tup (p.1.map kV))/\RelV p.2 q.2.2) kvs xs/\
  ∃o es ep,h.get? a=some o/\o.ExactDict/\o.data=.dict es ep/\es.toList=xs.map (entryOfKey (tupleKind (bT P w)))/\(xs.map (·.1)).Nodup
 | .set S n=>h.SetOf (intKind P w) a S n
 | .ins C dx fs=>H dx=some (.own a)/\fs.length<=1000/\dx≠a/\h.get? a=some (W.instObj C dx)/\
  ∃mA,h.Ns1 dx mA/\(∀f,lJ (fs.lookup f) (mA f))/\PySem.Within mA (fs.map (·.1))
 | .own _=>∃o,h.get? a=some o
 | .xd fs=>∃mA,h.Ns1 a mA/\∀f,lJ (fs.lookup f) (mA f)
 | .rng lo hi=>∃t u v,h.get? a=some { cls:=.type "range",data:=.fields #[.int lo t,.int hi u,.int 1 v] }
 | .frz o u=>h.get? a=some o/\cU H h a u
 | .tbl ps=>h.get? a=some { cls:=.none,data:=.fields ps }
 | .met f x=>h.get? a=some (W.methodObj (.ref f) (.ref x))
 | .ext φ=>φ h/\(∃o,h.get? a=some o)/\∀h1 h2:Heap,φ h1->(∀o,h1.get? a=some o->h2.get? a=some o)->φ h2
def gF (H:Hp) (h:Heap):Prop:=∀a o,H a=some o->cU P w H h a o
end
section
variable {P:Program} {w:World} {H H':Hp} {h h':Heap} {a:Addr} {o:HO}
theorem cU.lt (x:cU P w H h a o):a<h.objs.size:=by
 cases o with
 | lst xs=>obtain⟨_,_,_,_,e⟩:=x; exact YS e
 | tup xs=>obtain⟨_,_,_,p⟩:=x; exact p.lt
 | dK kvs=>obtain⟨_,_,_,_,o,_,_,e,_⟩:=x; exact YS e
 | dT kvs=>obtain⟨_,_,_,_,o,_,_,e,_⟩:=x; exact YS e
 | set S n=>obtain⟨o,_,_,_,e,_⟩:=x; exact YS e
 | ins C dx fs=>obtain⟨_,_,_,e,_⟩:=x; exact YS e
 | own y=>obtain⟨_,e⟩:=x; exact YS e
 | xd fs=>obtain⟨_,⟨_,_,_,e,_⟩,_⟩:=x; exact YS e
 | rng lo hi=>obtain⟨_,_,_,e⟩:=x; exact YS e
 | frz ob u=>obtain⟨e,_⟩:=x; exact YS e
 | tbl ps=>exact YS (show h.get? a=some _ from x)
 | met f y=>exact YS (show h.get? a=some _ from x)
 | ext φ=>obtain⟨_,⟨_,e⟩,_⟩:=x; exact YS e
theorem Paired.mapP {α β:Type} {F G:α->β->Prop}:∀{l₁:List α} {l₂:List β},Paired F l₁ l₂->(∀a b,F a b->G a b)->Paired G l₁ l₂
 | _,_,.nil,_=>.nil
 | _,_,.cons r t,f=>.cons (f _ _ r) (Paired.mapP t f)
theorem cU.stay (x:cU P w H h a o) (k:∀b u,(b=a\/H b=some (.own a))->h.get? b=some u->h'.get? b=some u)
 (ho:∀b,H b=some (.own a)->H' b=some (.own a)) (ht:∀b xs,H b=some (.tup xs)->H' b=some (.tup xs)):cU P w H' h' a o:=by
 induction o with
 | lst xs=>obtain⟨z,its,n,r,e⟩:=x; exact⟨z,its,n,r,k _ _ (.inl rfl) e⟩
 | tup xs=>obtain⟨z,its,r,ob,e,c⟩:=x; exact⟨z,its,r,ob,k _ _ (.inl rfl) e,c⟩
 | dK kvs=>obtain⟨z,y,vs,r,ob,es,ep,e,c⟩:=x; exact⟨z,y,vs,r,ob,es,ep,k _ _ (.inl rfl) e,c⟩
 | dT kvs=>
  obtain⟨z,y,xs,r,ob,es,ep,e,c⟩:=x;exact⟨z,y,xs,Paired.mapP r λp q z=>⟨z.1,ht _ _ z.2.1,z.2.2⟩,ob,es,ep,k _ _ (.inl rfl) e,c⟩
 | set S n=>obtain⟨ob,es,ep,t,e,c⟩:=x; exact⟨ob,es,ep,t,k _ _ (.inl rfl) e,c⟩
 | ins C dx fs=>
  obtain⟨d,z,ne,e,mA,⟨od,es,ep,e2,c⟩,r⟩:=x;exact⟨ho _ d,z,ne,k _ _ (.inl rfl) e,mA,⟨od,es,ep,k _ _ (.inr d) e2,c⟩,r⟩
 | own y=>obtain⟨ob,e⟩:=x; exact⟨ob,k _ _ (.inl rfl) e⟩
 | xd fs=>obtain⟨mA,⟨od,es,ep,e,c⟩,r⟩:=x; exact⟨mA,⟨od,es,ep,k _ _ (.inl rfl) e,c⟩,r⟩
 | rng lo hi=>obtain⟨t,u,v,e⟩:=x; exact⟨t,u,v,k _ _ (.inl rfl) e⟩
 | frz ob u ih=>obtain⟨e,q⟩:=x; exact⟨k _ _ (.inl rfl) e,ih q⟩
 | tbl ps=>
  have e:h.get? a=some { cls:=.none,data:=.fields ps }:=x;show h'.get? a=some { cls:=.none,data:=.fields ps };exact k a _ (.inl rfl) e
 | met f y=>
  have e:h.get? a=some (W.methodObj (.ref f) (.ref y)):=x;show h'.get? a=some (W.methodObj (.ref f) (.ref y));exact k a _ (.inl rfl) e
 | ext φ=>obtain⟨p,⟨o,e⟩,st⟩:=x; exact⟨st _ _ p λo q=>k _ _ (.inl rfl) q,⟨o,k _ _ (.inl rfl) e⟩,st⟩
theorem gF.lt (x:gF P w H h) (e:H a=some o):a<h.objs.size:=(x a o e).lt
theorem gF.fresh (x:gF P w H h) (e:h.objs.size<=a):H a=none:=by
 cases q:H a with
 | none=>rfl
 | some u=>exact absurd (Y9 (x.lt q) e) (ZV _)
theorem gF.kept (x:gF P w H h) (k:∀b u,h.get? b=some u->h'.get? b=some u):gF P w H h':=λa o e=>
 (x a o e).stay (λb u _ q=>k b u q) (λ_ q=>q) λ_ _ q=>q
theorem gF.laid (x:gF P w H h) (k:∀b u,h.get? b=some u->h'.get? b=some u) (hp:h.objs.size<=a) (new:cU P w (upd H a o) h' a o):gF P w (upd H a o) h':=λb u e=>by
 have hn:=x.fresh hp;by_cases hb:b=a
 . subst hb; rw[aW]at e; cases e; exact new
 . rw[bM hb]at e;exact(x b u e).stay (λc v _ q=>k c v q) (λc q=>by rw[bM (cT q hn)]; exact q) λc xs q=>by rw[bM (cT q hn)]; exact q
end
def Rd (H:Hp) (a:Addr) (u:HO):Prop:=H a=some u\/∃o,H a=some (.frz o u)
theorem Rd.ok {H:Hp} {h:Heap} {a:Addr} {u:HO} (r:Rd H a u) (x:gF P w H h):cU P w H h a u:=by
 rcases r with r | ⟨o,r⟩
 . exact x a u r
 . obtain⟨_,q⟩:=x a _ r;exact q
def Js:Option HO->Prop
 | some (.lst _)=>True
 | some (.dK _)=>True
 | some (.dT _)=>True
 | some (.set _ _)=>True
 | some (.ins _ _ _)=>True
 | some (.ext _)=>True
 | _=>False
section
variable {P:Program} {w:World} {H:Hp} {h h':Heap} {x e:Addr} {o':HO}
theorem gF.write (ok:gF P w H h) (mu:Js (H x)) (he:e=x\/H e=some (.own x)) (k:∀b u,b≠e->h.get? b=some u->h'.get? b=some u) (heo:∃u,h'.get? e=some u)
 (new:cU P w (upd H x o') h' x o'):gF P w (upd H x o') h':=λb u q=>by
 have nown:∀c y,H c=some (.own y)->c≠x:=λc y r z=>by subst z; rw[r]at mu; exact mu
 have ntup:∀c xs,H c=some (.tup xs)->c≠x:=λc xs r z=>by subst z; rw[r]at mu; exact mu
 by_cases hb:b=x
 . subst hb; rw[aW]at q; cases q; exact new
 . rw[bM hb]at q;by_cases hbe:b=e
   . have q':H b=some (.own x):=by
      rcases he with z | z
      . exact absurd (hbe.trans z) hb
      . rw[hbe]; exact z
     rw[q]at q'; cases q';obtain⟨v,hv⟩:=heo;exact⟨v,by rw[hbe]; exact hv⟩
   . refine(ok b u q).stay (λc v hc r=>k c v ?_ r) (λc r=>by rw[bM (nown c b r)]; exact r) λc xs r=>by rw[bM (ntup c xs r)]; exact r
     rcases hc with rfl | hc
     . exact hbe
     . rintro rfl;rcases he with z | z
       . exact nown c b hc z
       . rw[hc]at z; cases z; exact hb rfl
end
structure Un (fs ex:List Addr) (H H':Hp) (h h':Heap):Prop where
 keep:∀b o,h.get? b=some o->H b=none->b∉fs->b∉ex->h'.get? b=some o
 slot:∀b o,h.get? b=some o->H b=none->b∈fs->b∉ex->∃sl,h'.get? b=some { o with slots:=sl }
 free:∀b o,h.get? b=some o->H b=none->b∉ex->H' b=none
 there:∀b o,h.get? b=some o->b∉ex->∃o',h'.get? b=some o'
 tups:∀b xs,H b=some (.tup xs)->H' b=some (.tup xs)
 frzs:∀b o u,H b=some (.frz o u)->H' b=some (.frz o u)
 tbls:∀b ps,H b=some (.tbl ps)->∃more,H' b=some (.tbl (ps++more))
section
variable {fs fs' ex ex':List Addr} {H H1 H2:Hp} {h h1 h2 h':Heap} {a x e:Addr} {o:HO}
theorem Un.any (u:Un fs ex H H1 h h1) {b:Addr} {ob:Obj} (q:h.get? b=some ob) (n:H b=none) (hx:b∉ex):∃sl,h1.get? b=some { ob with slots:=sl }:=by
 by_cases hb:b∈fs
 . exact u.slot b ob q n hb hx
 . exact⟨ob.slots,u.keep b ob q n hb hx⟩
theorem Un.kept (k:∀b u,h.get? b=some u->h'.get? b=some u):Un fs ex H H h h':=
 ⟨λb ob q _ _ _=>k b ob q,λb ob q _ _ _=>⟨ob.slots,k b ob q⟩,λ_ _ _ n _=>n,λb ob q _=>⟨ob,k b ob q⟩,λ_ _ q=>q,λ_ _ _ q=>q,λ_ ps q=>⟨#[],by rw[q]; simp⟩⟩
theorem Un.refl:Un fs ex H H h h:=Un.kept λ_ _ q=>q
theorem Un.laid (k:∀b u,h.get? b=some u->h'.get? b=some u) (hp:h.objs.size<=a) (hn:H a=none):Un fs ex H (upd H a o) h h' where
 keep:=λb u q _ _ _=>k b u q
 slot:=λb u q _ _ _=>⟨u.slots,k b u q⟩
 free:=λb u q n _=>by rw[bM (Zb (Y9 (YS q) hp))]; exact n
 there:=λb u q _=>⟨u,k b u q⟩
 tups:=λb xs q=>by rw[bM (cT q hn)]; exact q
 frzs:=λb u xs q=>by rw[bM (cT q hn)]; exact q
 tbls:=λb ps q=>⟨#[],by rw[bM (cT q hn),q]; simp⟩
theorem Un.write (mu:Js (H x)) (he:e=x\/H e=some (.own x)) (k:∀b u,b≠e->h.get? b=some u->h'.get? b=some u) (heo:∃u,h'.get? e=some u):Un fs ex H (upd H x o) h h':=by
 have hx:∀b,H b=none->b≠x:=λb n z=>by subst z; rw[n]at mu; exact mu
 have hb:∀b,H b=none->b≠e:=λb n z=>by
  subst z;rcases he with r | r
  . exact hx b n r
  . rw[n]at r; cases r
 have hm:∀b u,H b=some u->¬ Js (some u)->b≠x:=λb u q nm z=>by subst z; rw[q]at mu; exact nm mu
 refine⟨λb u q n _ _=>k b u (hb b n) q,λb u q n _ _=>⟨u.slots,k b u (hb b n) q⟩,λb u q n _=>by rw[bM (hx b n)]; exact n,λb u q _=>?_,
  λb xs q=>by rw[bM (hm b _ q λz=>z)]; exact q,λb u xs q=>by rw[bM (hm b _ q λz=>z)]; exact q,λb ps q=>⟨#[],by rw[bM (hm b _ q λz=>z),q]; simp⟩⟩
 by_cases hbe:b=e
 . subst hbe; exact heo
 . exact⟨u,k b u hbe q⟩
end
def O3 (h:Heap) (H:Hp):List Addr:=(List.range h.objs.size).filter λa=>(H a).isSome
def qX (h:Heap) (H:Hp):Heap:=W.hideAll h (O3 h H)
theorem Jt (h:Heap) (H:Hp):(qX h H).objs.size=h.objs.size:=W.hideAll_size _ _
theorem Ma {h:Heap} {H:Hp} {b:Addr} {o:Obj} (e:h.get? b=some o) (n:H b=none):(qX h H).get? b=some o:=
 W.hideAll_get _ e λhm=>by have q:(H b).isSome=true:=(List.mem_filter.mp hm).2;rw[n]at q; simp at q
theorem Qs {h:Heap} {H:Hp} {b:Addr} {o:Obj} (e:(qX h H).get? b=some o):h.get? b=some o/\H b=none:=by
 have e':h.get? b=some o:=W.of_hideAll (O3 h H) e;refine⟨e',?_⟩;cases q:H b with
 | none=>rfl
 | some x=>
  have hm:b∈O3 h H:=List.mem_filter.mpr ⟨List.mem_range.mpr (YS e'),by simp[q]⟩;have z:(qX h H).get? b=none:=W.hideAll_none (O3 h H) hm;rw[z]at e; cases e
def Qt (g h:Heap) (L:Addr):List (Addr×Obj):=(List.range h.objs.size).filterMap λa=>if a=L\/(g.get? a).isSome=true then none else (h.get? a).map λo=>(a,o)
def rest (g h:Heap) (L d:Addr):List (Addr×Obj):=(Qt g h L).filter λp=>decide (p.1≠d)
structure Mod (K:FG) (mg:Str->Option Value) (base:Heap):Prop where
 kin:K.In base
 glob:base.Ns mainGlobals mg
 blt:∃mb,base.Ns builtinsNs mb/\∀x:Str,x ≠ "__name__" -> mb x=bootBuiltins x
 nolimit:base.NoLimit
structure Cx where
 prog:Program
 w:World
 K:FG
 mg:Str->Option Value
 base:Heap
 A:Around
 N:List Str
 s₀:Shared
 H0:Hp
 env:Env
 outer:List Env
 stack:List Env
 ex:List Addr
 fn:Str->Bool
 calm:Bool
 pn:List (Addr×Obj)
 xe:Value->Shared->Prop
def frs (l:List Env):List Addr:=l.filterMap (·.frame)
abbrev Cx.fs (X:Cx):List Addr:=frs X.outer
def Ju (sc:Scope) (x:Str):Prop:=sc.names.lookup x=some .local\/sc.names.lookup x=some .cell\/sc.names.lookup x=some .free
def Loc (sc:Scope) (x:Str):Prop:=sc.names.lookup x=some .local\/sc.names.lookup x=some .cell
def Look (env:Env) (h:Heap) (m:Str->Option Value) (x:Str) (u:Value):Prop:=
 (env.kindOf x=some .local/\m x=some u)\/((env.kindOf x=some .cell\/env.kindOf x=some .free)/\∃c,env.cells.lookup x=some c/\h.IsCell c (some u))
structure Cx.Ok (X:Cx):Prop where
 mod:Mod X.K X.mg X.base
 kind:X.env.scope.kind=.function
 glob:X.env.globals=mainGlobals
 blt:X.env.builtins=builtinsNs
 above:X.s₀.heap.objs.size<=X.env.locals
 inj:∀x y c,X.env.cells.lookup x=some c->X.env.cells.lookup y=some c->x=y
 has:∀x,(X.env.kindOf x=some .cell\/X.env.kindOf x=some .free)->∃c,X.env.cells.lookup x=some c
 cab:∀x c,X.fn x=true->X.env.cells.lookup x=some c->X.s₀.heap.objs.size<=c
 hd:X.calm=true->X.A.handled=none
 frames:X.A.frames=some X.stack
 stk:X.stack=X.outer\/(X.stack=X.env::X.outer/\X.env.frame=some X.env.locals)
 exf:∀b∈X.ex,b≠X.env.locals/\∀x c,X.env.cells.lookup x=some c->c≠b
 bs:∀b o,X.base.get? b=some o->X.s₀.heap.get? b=some o/\X.H0 b=none
 bsz:X.base.objs.size<=X.s₀.heap.objs.size
 noex:∀b o,X.base.get? b=some o->b∉X.ex
 exfs:∀b∈X.ex,b∉X.fs
 funs:X.s₀.heap.FunFrames X.base X.outer
 frf:∀b∈X.fs,X.H0 b=none
structure Inv (X:Cx) (abQ:List (Addr×Obj)) (Y:List (Option V)) (H:Hp) (s:Shared):Prop where
 ok:X.Ok
 os:s.os=X.s₀.os
 bare:AllBare s.gens
 base:Un X.fs X.ex X.H0 H X.s₀.heap s.heap
 loc:∃m,s.heap.Ns X.env.locals m/\∀(i:Nat) (x:Str) (v:V),X.N[i]?=some x->Y[i]?=some (some v)->Ju X.env.scope x->∃u,RelV v u/\Look X.env s.heap m x u
 cell:∀x c,X.env.cells.lookup x=some c->∃v,s.heap.IsCell c v
 free:H X.env.locals=none
 freeC:∀x c,X.env.cells.lookup x=some c->H c=none
 pin:∀p∈X.pn++abQ,s.heap.get? p.1=some p.2/\H p.1=none/\p.1≠X.env.locals/\p.1∉X.fs/\∀v,p.2.data≠.cell v
 hok:gF X.prog X.w H s.heap
 len:Y.length=X.N.length
section
variable {X:Cx} {abQ:List (Addr×Obj)} {Y:List (Option V)} {H H':Hp} {s:Shared} {h':Heap}
theorem Cx.Ok.nofr (ok:X.Ok) {b:Addr} {o:Obj} (e:X.base.get? b=some o):b∉X.fs:=λhb=>by have:=(ok.funs.mem hb).1;rw[e]at this; cases this
theorem Inv.bs (I:Inv X abQ Y H s):∀b o,X.base.get? b=some o->s.heap.get? b=some o/\H b=none:=λb o e=>
 ⟨I.base.keep b o (I.ok.bs b o e).1 (I.ok.bs b o e).2 (I.ok.nofr e) (I.ok.noex b o e),I.base.free b o (I.ok.bs b o e).1 (I.ok.bs b o e).2 (I.ok.noex b o e)⟩
theorem Inv.bk (I:Inv X abQ Y H s):∀b o,X.base.get? b=some o->s.heap.get? b=some o:=λb o e=>(I.bs b o e).1
theorem Inv.mod (I:Inv X abQ Y H s):Mod X.K X.mg X.base:=I.ok.mod
theorem Inv.kIn (I:Inv X abQ Y H s):X.K.In s.heap:=I.ok.mod.kin.keeps I.bk
theorem Inv.lt (I:Inv X abQ Y H s):X.env.locals<s.heap.objs.size:=let ⟨_,hn,_⟩:=I.loc; hn.lt
theorem Inv.sz (I:Inv X abQ Y H s):X.s₀.heap.objs.size<=s.heap.objs.size:=Zc I.ok.above (aay I.lt)
theorem Inv.nofs (I:Inv X abQ Y H s) {a:Addr} (h:s.heap.objs.size<=a):a∉X.fs:=λhb=>by obtain⟨_,o,ho,_⟩:=I.ok.funs.mem hb;exact absurd (Y9 (YS ho) (Zc I.sz h)) (ZV _)
theorem Inv.cne (I:Inv X abQ Y H s):∀x c,X.env.cells.lookup x=some c->c≠X.env.locals:=λx c e z=>by obtain⟨v,o,ho,hd⟩:=I.cell x c e;obtain⟨m,⟨o',es,ep,ho',hd',_⟩,_⟩:=I.loc;rw[z,ho']at ho; cases ho; rw[hd']at hd; cases hd
theorem Inv.funs (I:Inv X abQ Y H s):s.heap.FunFrames X.base X.outer:=by
 have all:∀(l:List Env),(∀b∈frs l,b∈X.fs)->X.s₀.heap.FunFrames X.base l->s.heap.FunFrames X.base l:=by
  intro l;induction l with
  | nil=>intro _ _; trivial
  | cons env r ih=>
   intro hs hl;obtain⟨hk,⟨L,o,hf,hn,ho,hd⟩,hr⟩:=hl;have hL:L∈X.fs:=hs L (by unfold frs; rw[aaB,hf]; exact Yz);obtain⟨sl,e⟩:=I.base.slot L o ho (I.ok.frf L hL) hL λz=>I.ok.exfs L z hL;exact⟨hk,⟨L,_,hf,hn,e,hd⟩,ih (λb hb=>hs b (by unfold frs; rw[aaB,hf]; exact YG _ hb)) hr⟩
 exact all X.outer (λ_ hb=>hb) I.ok.funs
theorem Inv.stack (I:Inv X abQ Y H s):s.heap.FunFrames X.base X.stack:=by
 rcases I.ok.stk with e | ⟨e,hf⟩
 . rw[e]; exact I.funs
 . rw[e];obtain⟨m,hn,_⟩:=I.loc;refine .cons (by rw[I.ok.kind]; decide) hf hn ?_ I.funs;exact Heap.get?_none_of_le (Zc I.ok.bsz I.ok.above)
theorem Inv.stkSub (I:Inv X abQ Y H s):∀b∈frs X.stack,b∈X.env.locals::X.fs:=λb hb=>by
 rcases I.ok.stk with e | ⟨e,hf⟩
 . rw[e]at hb; exact YG _ hb
 . rw[e]at hb;unfold frs at hb;rw[aaB,hf]at hb;exact hb
theorem Inv.stkFree (I:Inv X abQ Y H s):∀b∈frs X.stack,H b=none:=λb hb=>by
 rcases YF.mp (I.stkSub b hb) with e | hb
 . rw[e]; exact I.free
 . obtain⟨_,o,ho,_⟩:=I.ok.funs.mem hb;exact I.base.free b o ho (I.ok.frf b hb) λz=>I.ok.exfs b z hb
theorem Inv.step {g':Array GenState} {t':Nat} {d':Drawn} {ch:List Addr} (I:Inv X abQ Y H s)
 (hch:∀b∈ch,(b∈X.ex\/X.s₀.heap.objs.size<=b)/\b≠X.env.locals/\(∀x c,X.env.cells.lookup x=some c->c≠b)/\∀p∈X.pn++abQ,p.1≠b)
 (keep:∀b o,b≠X.env.locals->b∉X.fs->b∉ch->s.heap.get? b=some o->H b=none->h'.get? b=some o)
 (slot:∀b o,b≠X.env.locals->b∈X.fs->b∉ch->s.heap.get? b=some o->H b=none->∃sl,h'.get? b=some { o with slots:=sl }) (free:∀b o,b∉ch->s.heap.get? b=some o->H b=none->H' b=none)
 (there:∀b o,b∉ch->s.heap.get? b=some o->∃o',h'.get? b=some o')
 (tups:∀b xs,H b=some (.tup xs)->H' b=some (.tup xs)) (frzs:∀b o u,H b=some (.frz o u)->H' b=some (.frz o u)) (tbls:∀b ps,H b=some (.tbl ps)->∃more,H' b=some (.tbl (ps++more)))
 (ns:∀m,s.heap.Ns X.env.locals m->h'.Ns X.env.locals m) (hok:gF X.prog X.w H' h') (hg:AllBare g'):
 Inv X abQ Y H' { s with heap:=h',gens:=g',drawn:=d',toks:=t' }:=by
 have neL:∀b o,X.s₀.heap.get? b=some o->b≠X.env.locals:=λb o e=>Zb (Y9 (YS e) I.ok.above);have neC:∀b o,X.s₀.heap.get? b=some o->b∉X.ex->b∉ch:=λb o e hx hb=>by
  rcases (hch b hb).1 with z | z
  . exact hx z
  . exact absurd (Y9 (YS e) z) (ZV _)
 have cellK:∀x c,X.env.cells.lookup x=some c->∀v,s.heap.IsCell c v->h'.IsCell c v:=λx c e v ⟨o,ho,hd⟩=>by
  have nch:c∉ch:=λz=>(hch c z).2.2.1 x c e rfl;by_cases hc:c∈X.fs
  . obtain⟨sl,q⟩:=slot c o (I.cne x c e) hc nch ho (I.freeC x c e);exact⟨_,q,hd⟩
  . exact⟨o,keep c o (I.cne x c e) hc nch ho (I.freeC x c e),hd⟩
 refine⟨I.ok,I.os,hg,⟨λb o e n hb hx=>?_,λb o e n hb hx=>?_,λb o e n hx=>?_,λb o e hx=>?_,λb xs e=>tups b xs (I.base.tups b xs e),λb o xs e=>frzs b o xs (I.base.frzs b o xs e),λb ps e=>?_⟩,?_,λx c e=>?_,?_,λx c e=>?_,λp hp=>?_,hok,I.len⟩
 . exact keep b o (neL b o e) hb (neC b o e hx) (I.base.keep b o e n hb hx) (I.base.free b o e n hx)
 . obtain⟨sl,e1⟩:=I.base.slot b o e n hb hx;obtain⟨sl',e2⟩:=slot b _ (neL b o e) hb (neC b o e hx) e1 (I.base.free b o e n hx);exact⟨sl',e2⟩
 . obtain⟨o',e1⟩:=I.base.there b o e hx;exact free b o' (neC b o e hx) e1 (I.base.free b o e n hx)
 . obtain⟨o',e1⟩:=I.base.there b o e hx;exact there b o' (neC b o e hx) e1
 . obtain⟨m1,e1⟩:=I.base.tbls b ps e;obtain⟨m2,e2⟩:=tbls b _ e1;exact⟨m1++m2,by rw[e2,Array.append_assoc]⟩
 . obtain⟨m,hn,hl⟩:=I.loc;refine⟨m,ns m hn,λi x v e1 e2 e3=>?_⟩;obtain⟨u,r,l⟩:=hl i x v e1 e2 e3;refine⟨u,r,?_⟩;rcases l with l | ⟨k,c,e,z⟩
   . exact .inl l
   . exact .inr ⟨k,c,e,cellK x c e _ z⟩
 . obtain⟨v,z⟩:=I.cell x c e;exact⟨v,cellK x c e v z⟩
 . obtain⟨m,⟨o,_,_,ho,_⟩,_⟩:=I.loc;exact free _ o (λz=>(hch _ z).2.1 rfl) ho I.free
 . obtain⟨v,o,ho,hd⟩:=I.cell x c e;exact free c o (λz=>(hch c z).2.2.1 x c e rfl) ho (I.freeC x c e)
 . obtain⟨e,n,ne,nf,d⟩:=I.pin p hp;have nch:p.1∉ch:=λz=>(hch p.1 z).2.2.2 p hp rfl;exact⟨keep p.1 p.2 ne nf nch e n,free p.1 p.2 nch e n,ne,nf,d⟩
theorem Inv.un {t':Nat} (I:Inv X abQ Y H s) (u:Un X.fs [] H H' s.heap h') (hok:gF X.prog X.w H' h'):Inv X abQ Y H' { s with heap:=h',toks:=t' }:=by
 obtain⟨m,⟨o,es,ep,ho,r⟩,_⟩:=id I.loc;obtain⟨sl,hL⟩:=u.any ho I.free (by simp);exact I.step (g':=s.gens) (d':=s.drawn) (ch:=[]) (λ_ z=>nomatch z) (λb o _ hb _ e n=>u.keep b o e n hb (by simp)) (λb o _ hb _ e n=>u.slot b o e n hb (by simp)) (λb o _ e n=>u.free b o e n (by simp)) (λb o _ e=>u.there b o e (by simp)) u.tups u.frzs u.tbls (λm' hm=>by obtain⟨o',es',ep',ho',r'⟩:=hm;rw[ho]at ho'; cases ho';exact⟨_,es',ep',hL,r'⟩) hok I.bare
theorem Inv.call {g':Array GenState} {t':Nat} {d':Drawn} {ch:List Addr} (I:Inv X abQ Y H s) (u:Un (frs X.stack) ch H H' s.heap h') (hok:gF X.prog X.w H' h') (hg:AllBare g')
 (hch:∀b∈ch,(b∈X.ex\/X.s₀.heap.objs.size<=b)/\b≠X.env.locals/\(∀x c,X.env.cells.lookup x=some c->c≠b)/\∀p∈X.pn++abQ,p.1≠b):
 Inv X abQ Y H' { s with heap:=h',gens:=g',drawn:=d',toks:=t' }:=by
 obtain⟨m,⟨o,es,ep,ho,r⟩,_⟩:=id I.loc;obtain⟨sl,hL⟩:=u.any ho I.free λz=>(hch _ z).2.1 rfl;exact I.step (ch:=ch) hch (λb o hL hb hc e n=>u.keep b o e n (λz=>(YF.mp (I.stkSub b z)).elim hL hb) hc) (λb o _ _ hc e n=>u.any e n hc) (λb o hc e n=>u.free b o e n hc) (λb o hc e=>u.there b o e hc) u.tups u.frzs u.tbls (λm' hm=>by obtain⟨o',es',ep',ho',r'⟩:=hm;rw[ho]at ho'; cases ho';exact⟨_,es',ep',hL,r'⟩) hok hg
theorem Inv.turned {t':Nat} {it:Addr} (I:Inv X abQ Y H s) (k:∀b o,b≠it->s.heap.get? b=some o->h'.get? b=some o) (hn:H it=none) (hL:it≠X.env.locals)
 (h1:it∈X.ex\/X.s₀.heap.objs.size<=it) (h2:∀x c,X.env.cells.lookup x=some c->c≠it) (h3:∀p∈X.pn++abQ,p.1≠it):Inv X abQ Y H { s with heap:=h',toks:=t' }:=by
 have nit:∀b u,H b=some u->b≠it:=λb u e z=>by rw[z,hn]at e; cases e
 refine I.step (g':=s.gens) (d':=s.drawn) (ch:=[it]) (λb hb=>?_) (λb o _ _ hc e _=>k b o (λz=>hc (by simp[z])) e) (λb o _ _ hc e _=>⟨o.slots,k b o (λz=>hc (by simp[z])) e⟩) (λ_ _ _ _ n=>n)
  (λb o hc e=>⟨o,k b o (λz=>hc (by simp[z])) e⟩) (λ_ _ e=>e) (λ_ _ _ e=>e) (λb ps e=>⟨#[],by rw[e]; simp⟩) (λm hm=>?_) (λb u e=>?_) I.bare
 . have e:b=it:=by simpa using hb
   subst e;exact⟨h1,hL,h2,h3⟩
 . obtain⟨o,es,ep,ho,r⟩:=hm;exact⟨o,es,ep,k _ o (Ne.symm hL) ho,r⟩
 . refine(I.hok b u e).stay (λc v hc q=>k c v ?_ q) (λ_ q=>q) λ_ _ q=>q;rcases hc with z | z
   . rw[z]; exact nit b u e
   . exact nit c _ z
theorem Inv.tok (I:Inv X abQ Y H s) (t:Nat):Inv X abQ Y H { s with toks:=t }:=I.un (h':=s.heap) (t':=t) Un.refl I.hok
theorem Inv.kept {t':Nat} (I:Inv X abQ Y H s) (k:∀b u,s.heap.get? b=some u->h'.get? b=some u):Inv X abQ Y H { s with heap:=h',toks:=t' }:=I.un (Un.kept k) (I.hok.kept k)
theorem Inv.laid {a:Addr} {o:HO} {t':Nat} (I:Inv X abQ Y H s) (k:∀b u,s.heap.get? b=some u->h'.get? b=some u) (hp:s.heap.objs.size<=a) (new:cU X.prog X.w (upd H a o) h' a o):
 Inv X abQ Y (upd H a o) { s with heap:=h',toks:=t' }:=I.un (Un.laid k hp (I.hok.fresh hp)) (I.hok.laid k hp new)
theorem Inv.write {x e:Addr} {o:HO} {t':Nat} (I:Inv X abQ Y H s) (mu:Js (H x)) (he:e=x\/H e=some (.own x)) (k:∀b u,b≠e->s.heap.get? b=some u->h'.get? b=some u) (heo:∃u,h'.get? e=some u)
 (new:cU X.prog X.w (upd H x o) h' x o):Inv X abQ Y (upd H x o) { s with heap:=h',toks:=t' }:=I.un (Un.write mu he k heo) (I.hok.write mu he k heo new)
theorem Inv.pins_of {pins':List (Addr×Obj)} (I:Inv X abQ Y H s) (h:∀p∈pins',s.heap.get? p.1=some p.2/\H p.1=none/\p.1≠X.env.locals/\p.1∉X.fs/\∀v,p.2.data≠.cell v):Inv X pins' Y H s:=
 ⟨I.ok,I.os,I.bare,I.base,I.loc,I.cell,I.free,I.freeC,λp hp=>(Y6_.mp hp).elim (λz=>I.pin p (Z9 _ z)) (h p),I.hok,I.len⟩
theorem Bf {N:List Str} (hN:N.Nodup) {i j:Nat} {x:Str} (a:N[i]?=some x) (b:N[j]?=some x):i=j:=by obtain⟨h1,e1⟩:=YL.mp a;obtain⟨h2,e2⟩:=YL.mp b;exact(List.getElem_inj hN).mp (e1.trans e2.symm)
theorem yS {M:Model} {i:Nat} {x:Str} {v:V} {u:Value} {Q:Unit->Shared->Prop} (I:Inv X abQ Y H s) (hN:X.N.Nodup) (hi:X.N[i]?=some x) (hx:Loc X.env.scope x) (r:RelV v u)
 (h:∀s',Inv X abQ (Y.set i (some v)) H s'->(∃a,Heap.SameBut a s.heap s'.heap/\(a=X.env.locals\/X.env.cells.lookup x=some a))->Q () s') (hf:X.fn x=true\/X.env.scope.names.lookup x=some .local:=by first | exact .inl rfl | exact .inr rfl | assumption):wpAny M A (storeName X.env x u) Q E s:=by
 obtain⟨m,hn,hl⟩:=id I.loc;have hcls:(X.env.scope.kind==.class||(X.env.scope.kind==.module&&X.env.locals != X.env.globals))=false:=by rw[I.ok.kind]; rfl
 have hiY:i<Y.length:=by rw[I.len]; exact(YL.mp hi).1
 have cne:=I.cne;have tracked:∀{a:Addr} {h':Heap},(∃o,s.heap.get? a=some o/\H a=none)->Heap.SameBut a s.heap h'->gF X.prog X.w H h':=λ{a h'} ha hs b ob e=>by
  obtain⟨_,_,hfree⟩:=ha;refine(I.hok b ob e).stay (λc w' hc q=>(hs.2 c ?_).trans q) (λ_ q=>q) λ_ _ q=>q;rintro rfl;rcases hc with rfl | hc
  . rw[hfree]at e; cases e
  . rw[hfree]at hc; cases hc
 rcases hx with hk | hk
 . refine wpAny_storeName_local hk hn (λh' hn' hs=>?_) hcls;obtain⟨oL,_,_,hoL,_⟩:=id hn;refine h _ ⟨I.ok,I.os,I.bare,⟨λb o e n hb hx=>?_,λb o e n hb hx=>?_,I.base.free,λb o e hx=>?_,I.base.tups,I.base.frzs,I.base.tbls⟩,⟨_,hn',λj y v' e1 e2 e3=>?_⟩,λy c e=>?_,I.free,I.freeC,λp hp=>?_,tracked ⟨oL,hoL,I.free⟩ hs,by simpa using I.len⟩ ⟨_,hs,.inl rfl⟩
   . exact(hs.2 b (Zb (Y9 (YS e) I.ok.above))).trans (I.base.keep b o e n hb hx)
   . obtain⟨sl,e1⟩:=I.base.slot b o e n hb hx;exact⟨sl,(hs.2 b (Zb (Y9 (YS e) I.ok.above))).trans e1⟩
   . obtain⟨o',e1⟩:=I.base.there b o e hx;exact⟨o',(hs.2 b (Zb (Y9 (YS e) I.ok.above))).trans e1⟩
   . by_cases hj:j=i
     . subst hj;rw[hi]at e1; cases e1;rw[Zi hiY]at e2;cases e2;exact⟨u,r,.inl ⟨hk,by simp⟩⟩
     . rw[aaf (Ne.symm hj)]at e2;obtain⟨u',r',q⟩:=hl j y v' e1 e2 e3;refine⟨u',r',?_⟩;rcases q with ⟨k,e⟩ | ⟨k,c,e,z⟩
       . refine .inl ⟨k,?_⟩;have:y≠x:=λe=>hj (Bf hN e1 (e▸hi));simp[this,e]
       . exact .inr ⟨k,c,e,z.sameBut hs (cne y c e)⟩
   . obtain⟨w',z⟩:=I.cell y c e;exact⟨w',z.sameBut hs (cne y c e)⟩
   . obtain⟨e,n,ne,nf,d⟩:=I.pin p hp;exact⟨(hs.2 p.1 ne).trans e,n,ne,nf,d⟩
 . have hfn:X.fn x=true:=by
    rcases hf with z | z
    . exact z
    . rw[z]at hk; cases hk
   obtain⟨c,hc⟩:=I.ok.has x (.inl hk);obtain⟨w',z⟩:=I.cell x c hc;refine wpAny_storeName_cell I.ok.kind hk hc z (λh' hc' hs=>?_);obtain⟨oc,hoc,hocd⟩:=id z;refine h { s with heap:=h' } ⟨I.ok,I.os,I.bare,⟨λb o e n hb hx=>?_,λb o e n hb hx=>?_,I.base.free,λb o e hx=>?_,I.base.tups,I.base.frzs,I.base.tbls⟩,⟨m,hn.sameBut hs (Ne.symm (cne x c hc)),λj y v' e1 e2 e3=>?_⟩,λy c' e=>?_,I.free,I.freeC,λp hp=>?_,tracked ⟨oc,hoc,I.freeC x c hc⟩ hs,by simpa using I.len⟩ ⟨c,hs,.inr hc⟩
   . exact(hs.2 b (Zb (Y9 (YS e) (I.ok.cab x c hfn hc)))).trans (I.base.keep b o e n hb hx)
   . obtain⟨sl,e1⟩:=I.base.slot b o e n hb hx;exact⟨sl,(hs.2 b (Zb (Y9 (YS e) (I.ok.cab x c hfn hc)))).trans e1⟩
   . obtain⟨o',e1⟩:=I.base.there b o e hx;exact⟨o',(hs.2 b (Zb (Y9 (YS e) (I.ok.cab x c hfn hc)))).trans e1⟩
   . by_cases hj:j=i
     . subst hj;rw[hi]at e1; cases e1;rw[Zi hiY]at e2;cases e2;exact⟨u,r,.inr ⟨.inl hk,c,hc,hc'⟩⟩
     . rw[aaf (Ne.symm hj)]at e2;obtain⟨u',r',q⟩:=hl j y v' e1 e2 e3;refine⟨u',r',?_⟩;rcases q with q | ⟨k,c',e,z'⟩
       . exact .inl q
       . refine .inr ⟨k,c',e,z'.sameBut hs ?_⟩;rintro rfl;exact hj (Bf hN e1 (I.ok.inj _ _ _ e hc▸hi))
   . by_cases hcc:c'=c
     . subst hcc; exact⟨_,hc'⟩
     . obtain⟨w2,z2⟩:=I.cell y c' e;exact⟨w2,z2.sameBut hs hcc⟩
   . obtain⟨e,n,ne,nf,d⟩:=I.pin p hp;refine⟨(hs.2 p.1 ?_).trans e,n,ne,nf,d⟩;intro q;rw[q,hoc]at e;have q':oc=p.2:=Y5 e;exact d w' (by rw[<-q']; exact hocd)
theorem Bg {M:Model} {i:Nat} {x:Str} {v:V} {u:Value} {Q:Unit->Shared->Prop} (I:Inv X abQ Y H s) (hN:X.N.Nodup) (hi:X.N[i]?=some x) (hx:Loc X.env.scope x) (r:RelV v u)
 (h:∀s',Inv X abQ (Y.set i (some v)) H s'->Q () s') (hf:X.fn x=true\/X.env.scope.names.lookup x=some .local:=by first | exact .inl rfl | exact .inr rfl | assumption):wpAny M A (storeName X.env x u) Q E s:=
 yS I hN hi hx r (λs' I' _=>h s' I') hf
theorem Inv.call' {s':Shared} {ch:List Addr} (I:Inv X abQ Y H s) (ho:s'.os=s.os) (u:Un (frs X.stack) ch H H' s.heap s'.heap) (hok:gF X.prog X.w H' s'.heap) (hg:AllBare s'.gens)
 (hch:∀b∈ch,(b∈X.ex\/X.s₀.heap.objs.size<=b)/\b≠X.env.locals/\(∀x c,X.env.cells.lookup x=some c->c≠b)/\∀p∈X.pn++abQ,p.1≠b):Inv X abQ Y H' s':=by
 obtain⟨h',g',d',t',o'⟩:=s';have e:o'=s.os:=ho;subst e;exact I.call (g':=g') (t':=t') (d':=d') u hok hg hch
end
abbrev XK:=Value->Option Addr->Hp->Prop
abbrev St:=List (Option V)
abbrev VK:=V->Hp->Prop
abbrev TE:=St->Hp->VK->Prop
abbrev TT:=St->Hp->(Bool->Hp->Prop)->Prop
abbrev TA:=St->Hp->(List V->Hp->Prop)->Prop
structure Ends where
 nx:St->Hp->Prop
 rt:VK
 bk:St->Hp->Prop:=λ_ _=>False
 ct:St->Hp->Prop:=λ_ _=>False
abbrev TS:=Ends->St->Hp->Prop
def EP (X:Cx) (abQ:List (Addr×Obj)) (Y:St) (Q:VK) (u:Value) (s':Shared):Prop:=∃v H',Inv X abQ Y H' s'/\RelV v u/\Q v H'
def TP (X:Cx) (abQ:List (Addr×Obj)) (Y:St) (Q:Bool->Hp->Prop) (b:Bool) (s':Shared):Prop:=∃H',Inv X abQ Y H' s'/\Q b H'
def AP (X:Cx) (abQ:List (Addr×Obj)) (Y:St) (Q:List V->Hp->Prop) (us:List Value) (s':Shared):Prop:=∃vs H',Inv X abQ Y H' s'/\Vals vs us/\Q vs H'
def SP (X:Cx) (abQ:List (Addr×Obj)) (D:Ends) (f:Flow) (s':Shared):Prop:=
 match f with
 | .next=>∃Y' H',Inv X abQ Y' H' s'/\D.nx Y' H'
 | .brk=>∃Y' H',Inv X abQ Y' H' s'/\D.bk Y' H'
 | .cont=>∃Y' H',Inv X abQ Y' H' s'/\D.ct Y' H'
 | .ret u=>∃v Y' H',Inv X abQ Y' H' s'/\RelV v u/\D.rt v H'
def PE (X:Cx) (e:Expr) (t:TE):Prop:=
 ∀(abQ:List (Addr×Obj)) (s:Shared) (Y:St) (H:Hp) (Q:VK),Inv X abQ Y H s->t Y H Q->wpAny (model X.prog X.w) X.A (eval e X.env) (EP X abQ Y Q) X.xe s
def PT (X:Cx) (e:Expr) (t:TT):Prop:=
 ∀(abQ:List (Addr×Obj)) (s:Shared) (Y:St) (H:Hp) (Q:Bool->Hp->Prop),Inv X abQ Y H s->t Y H Q->wpAny (model X.prog X.w) X.A (isTrue e X.env (eval e X.env)) (TP X abQ Y Q) X.xe s
def PW (X:Cx) (e:Expr) (t:TT):Prop:=
 ∀(whole:Sem Value) (abQ:List (Addr×Obj)) (s:Shared) (Y:St) (H:Hp) (Q:Bool->Hp->Prop),Inv X abQ Y H s->t Y H Q->wpAny (model X.prog X.w) X.A (isTrue e X.env whole) (TP X abQ Y Q) X.xe s
theorem PW.pt {X:Cx} {e:Expr} {t:TT} (h:PW X e t):PT X e t:=h _
def PA (X:Cx) (es:List Expr) (t:TA):Prop:=
 ∀(pos:Pos) (abQ:List (Addr×Obj)) (s:Shared) (Y:St) (H:Hp) (Q:List V->Hp->Prop),Inv X abQ Y H s->t Y H Q->wpAny (model X.prog X.w) X.A (spliced (backTo pos (starEach es X.env))) (AP X abQ Y Q) X.xe s
def PS (X:Cx) (st:Stmt) (t:TS):Prop:=
 ∀(abQ:List (Addr×Obj)) (s:Shared) (Y:St) (H:Hp) (D:Ends),Inv X abQ Y H s->t D Y H->wpAny (model X.prog X.w) X.A (exec st X.env) (SP X abQ D) X.xe s
def ir (X:Cx) (st:List Stmt) (t:TS):Prop:=
 ∀(abQ:List (Addr×Obj)) (s:Shared) (Y:St) (H:Hp) (D:Ends),Inv X abQ Y H s->t D Y H->wpAny (model X.prog X.w) X.A (execs st X.env) (SP X abQ D) X.xe s
theorem bI {α:Type} {t:Sem α} {Q Q':α->Shared->Prop} {M:Model} (h:wpAny M A t Q E s) (hQ:∀a s,Q a s->Q' a s):wpAny M A t Q' E s:=wpAny_mono h hQ λ_ _ x=>x
section
variable {X:Cx}
theorem bin {a b:Expr} {ta tb:TE} (ha:PE X a ta) (hb:PE X b tb) {Y:St} {H:Hp} {R:V->V->Hp->Prop} (I:Inv X abQ Y H s) (h:ta Y H λx H1=>tb Y H1 λy H2=>R x y H2)
 {α:Type} {Q:α->Shared->Prop} {f:Value->Value->Sem α}
 (hf:∀v u s2 x y H2,Inv X abQ Y H2 s2->RelV x v->RelV y u->R x y H2->wpAny (model X.prog X.w) X.A (f v u) Q X.xe s2):
 wpAny (model X.prog X.w) X.A (eval a X.env) (λv s₁=>wpAny (model X.prog X.w) X.A (eval b X.env) (λu s₂=>wpAny (model X.prog X.w) X.A (f v u) Q X.xe s₂) X.xe s₁) X.xe s:=by
 refine bI (ha abQ s Y H _ I h) λv s1 zqz=>?_;obtain⟨x,H1,I1,r1,q1⟩:=zqz;refine bI (hb abQ s1 Y H1 _ I1 q1) λu s2 zqz=>?_;obtain⟨y,H2,I2,r2,q2⟩:=zqz;exact hf v u s2 x y H2 I2 r1 r2 q2
def mZ (i:Nat):TE:=λY H Q=>∃v,Y[i]?=some (some v)/\Q v H
def tC (v:V):TE:=λ_ H Q=>Q v H
theorem SQ {i:Nat} {x:Str} {pos:Pos} (hN:X.N[i]?=some x) (hv:Ju X.env.scope x) (hd:(x==("__debug__" : Str))=false:=by decide) (hcd:(x==("__classdict__" : Str))=false:=by decide):PE X (.Name x pos) (mZ i):=by
 intro abQ s Y H Q I h;obtain⟨v,e,h⟩:=h;obtain⟨m,hn,hl⟩:=I.loc;obtain⟨u,r,l⟩:=hl i x v hN e hv;have fin:EP X abQ Y Q u s:=⟨v,H,I,r,h⟩;rcases l with ⟨hk,hm⟩ | ⟨hk,c,hc,hcell⟩
 . exact wpAny_Name (wpAny_loadName_local I.ok.kind hk hn hm fin) hd
 . rcases hk with hk | hk
   . exact wpAny_Name (wpAny_loadName_cell I.ok.kind hk hc hcell fin) hd
   . exact wpAny_Name (wpAny_loadName_free I.ok.kind hk hc hcell fin hcd) hd
theorem SX {i j pos}:PE X (.Constant (.int i) j pos) (tC (.int i)):=λ_ _ _ H _ I h=>wpAny_Constant_int ⟨.int i,H,I.tok _,⟨_,rfl⟩,h⟩
theorem nH {b j pos}:PE X (.Constant (.bool b) j pos) (tC (.bl b)):=λ_ _ _ H _ I h=>Constant_bool ⟨.bl b,H,I,rfl,h⟩
theorem S5 {j pos}:PE X (.Constant .none j pos) (tC .non):=λ_ _ _ H _ I h=>Constant_none ⟨.non,H,I,rfl,h⟩
theorem S6 {x j pos}:PE X (.Constant (.str x) j pos) (tC (.str x)):=λ_ _ _ H _ I h=>Calls.Constant_str ⟨.str x,H,I.tok _,⟨_,rfl⟩,h⟩
def Gl (X:Cx) (x:Str):Prop:=X.env.kindOf x=some .globalImplicit
theorem Fo {Y:St} {H:Hp} {x:Str} {u:Value} {pos:Pos} {Q:Value->Shared->Prop} (I:Inv X abQ Y H s) (hg:Gl X x) (hm:X.mg x=some u) (h:Q u s)
 (hd:(x==("__debug__" : Str))=false:=by decide):wpAny (model X.prog X.w) X.A (eval (.Name x pos) X.env) Q E s:=
 Calls.Name_function_global I.ok.kind hg (Calls.loadGlobal_global (by rw[I.ok.glob]; exact I.mod.glob.keeps I.bk) hm h) hd
theorem tG {Y:St} {H:Hp} {x:Str} {u:Value} {pos:Pos} {Q:Value->Shared->Prop} (I:Inv X abQ Y H s) (hg:Gl X x) (hm:X.mg x=none) (hv:bootBuiltins x=some u) (h:Q u s)
 (hn:x ≠ "__name__" := by decide) (hd:(x==("__debug__" : Str))=false:=by decide):wpAny (model X.prog X.w) X.A (eval (.Name x pos) X.env) Q E s:=by
 obtain⟨mb,h1,h2⟩:=I.mod.blt;exact Calls.Name_function_global I.ok.kind hg (Calls.loadGlobal_builtin (by rw[I.ok.glob]; exact I.mod.glob.keeps I.bk) hm (by rw[I.ok.blt]; exact h1.keeps I.bk) ((h2 x hn).trans hv) h) hd
theorem Qu {x:Str} {v:V} {u:Value} {pos:Pos} (hg:Gl X x) (hm:X.mg x=none) (hv:bootBuiltins x=some u) (r:RelV v u) (hn:x ≠ "__name__" := by decide) (hd:(x==("__debug__" : Str))=false:=by decide):PE X (.Name x pos) (tC v):=
 λ_ _ _ H _ I h=>tG I hg hm hv ⟨v,H,I,r,h⟩ hn hd
variable {a b:Expr} {ta tb:TE} {pos:Pos}
variable {tA tB':TT} {rest:List Expr}
def S7 (t u:TT):TT:=λY H Q=>t Y H λc H1=>if c=true then u Y H1 Q else Q false H1
def W4 (t u:TT):TT:=λY H Q=>t Y H λc H1=>if c=true then Q true H1 else u Y H1 Q
def Xk (t:TT):TT:=λY H Q=>t Y H λc H1=>Q (!c) H1
theorem Qv (ha:PT X a tA):PW X (.BoolOp .And [a] pos) tA:=by
 intro wh abQ s Y H Q I h;refine isTrue_and (bI (ha abQ s Y H Q I h) λc s1 e=>?_);cases c with
 | true=>exact isTrue_and_nil e
 | false=>exact e
theorem S8 (ha:PT X a tA):PW X (.BoolOp .Or [a] pos) tA:=by
 intro wh abQ s Y H Q I h;refine isTrue_or (bI (ha abQ s Y H Q I h) λc s1 e=>?_);cases c with
 | false=>exact isTrue_or_nil e
 | true=>exact e
theorem S9 (ha:PT X a tA) (hb:PW X (.BoolOp .And (b::rest) pos) tB'):PW X (.BoolOp .And (a::b::rest) pos) (S7 tA tB'):=by
 intro wh abQ s Y H Q I h;refine isTrue_and (bI (ha abQ s Y H _ I h) λc s1 zqz=>?_);obtain⟨H1,I1,q1⟩:=zqz;cases c with
 | true=>exact hb wh abQ s1 Y H1 Q I1 q1
 | false=>exact⟨H1,I1,q1⟩
theorem We (ha:PT X a tA) (hb:PW X (.BoolOp .Or (b::rest) pos) tB'):PW X (.BoolOp .Or (a::b::rest) pos) (W4 tA tB'):=by
 intro wh abQ s Y H Q I h;refine isTrue_or (bI (ha abQ s Y H _ I h) λc s1 zqz=>?_);obtain⟨H1,I1,q1⟩:=zqz;cases c with
 | true=>exact⟨H1,I1,q1⟩
 | false=>exact hb wh abQ s1 Y H1 Q I1 q1
theorem Tc (ha:PT X a tA):PT X (.UnaryOp .Not a pos) (Xk tA):=by intro abQ s Y H Q I h;exact isTrue_not (ha abQ s Y H (λc H1=>Q (!c) H1) I h)
def Wf (ta tb:TE):TE:=λY H Q=>ta Y H λx H1=>∃c,x=.bl c/\if c=true then tb Y H1 Q else Q (.bl false) H1
theorem Td {op} {t:TE} (h:PE X a t):PE X (.BoolOp op [a] pos) t:=λabQ s Y H Q I hw=>BoolOp_one (h abQ s Y H Q I hw)
theorem Te (ha:PE X a ta) (hb:PE X (.BoolOp .And (b::rest) pos) tb):PE X (.BoolOp .And (a::b::rest) pos) (Wf ta tb):=by
 intro abQ s Y H Q I h;refine BoolOp_and (bI (ha abQ s Y H _ I h) λv s1 zqz=>?_);obtain⟨x,H1,I1,r1,q1⟩:=zqz;obtain⟨c,rfl,q1⟩:=q1;cases r1;refine wpAny_truthy_bool ?_;cases c with
 | true=>exact hb abQ s1 Y H1 Q I1 q1
 | false=>exact⟨.bl false,H1,I1,rfl,q1⟩
end
def bJ (K:FG) (H:Hp) (a:Addr) (xs:List V):Prop:=
 Rd H a (.lst xs)\/
  ∃(o:Obj) (its:Array Value) (n:Nat),K.lookup a=some o/\o.cls=.type "list" /\ o.dict=none/\o.data=.seq its n/\its.size<=sizeLine/\Vals xs its.toList
def cg (K:FG) (H:Hp) (a:Addr) (xs:List V):Prop:=
 Rd H a (.tup xs)\/
  ∃(o:Obj) (its:Array Value) (n:Nat),K.lookup a=some o/\o.cls=.type "tuple" /\ o.data=.seq its n/\its.size<=sizeLine/\Vals xs its.toList
def Xl:Value->Option V
 | .none=>some .non
 | .bool b=>some (.bl b)
 | .int i _=>some (.int i)
 | .str x _=>some (.str x)
 | .bytes b _=>some (.byt b)
 | .float b _=>some (.flt b)
 | .ref a=>some (.ref a)
 | .type n=>some (.ty n)
 | _=>none
theorem RelV.abs {x:V} {u:Value} (r:RelV x u):Xl u=some x:=by
 cases x with
 | non=>cases r; rfl
 | bl _=>cases r; rfl
 | int _=>obtain⟨t,rfl⟩:=r; rfl
 | str _=>obtain⟨t,rfl⟩:=r; rfl
 | byt _=>obtain⟨t,rfl⟩:=r; rfl
 | flt _=>obtain⟨t,rfl⟩:=r; rfl
 | ref _=>cases r; rfl
 | ty _=>cases r; rfl
theorem RelV.inj {x y:V} {u:Value} (r:RelV x u) (q:RelV y u):x=y:=Y5 (r.abs.symm.trans q.abs)
theorem Vals.inj:∀{xs ys:List V} {us:List Value},Vals xs us->Vals ys us->xs=ys
 | _,_,_,.nil,.nil=>rfl
 | _,_,_,.cons r t,.cons r' t'=>by rw[r.inj r',Vals.inj t t']
section
variable {X:Cx} {abQ:List (Addr×Obj)} {Y:St} {H:Hp} {s:Shared} {a:Addr} {xs ys:List V}
theorem bJ.of {K:FG} (h:H a=some (.lst xs)):bJ K H a xs:=.inl (.inl h)
theorem cg.of {K:FG} (h:H a=some (.tup xs)):cg K H a xs:=.inl (.inl h)
theorem Inv.list (I:Inv X abQ Y H s) (h:bJ X.K H a xs):∃its:List Value,Vals xs its/\PlainL s.heap a its.toArray/\xs.length<=sizeLine:=by
 rcases h with h | ⟨o,its,n,hk,hc,hd,hs,hz,r⟩
 . obtain⟨z,its,n,r,e⟩:=h.ok I.hok;exact⟨its,r,⟨_,n,e,rfl,rfl,rfl⟩,z⟩
 . refine⟨its.toList,r,⟨o,n,I.kIn a o hk,hc,hd,by simpa using hs⟩,?_⟩;have e:=r.length;simp only[Zu]at e;omega
theorem Inv.tuple (I:Inv X abQ Y H s) (h:cg X.K H a xs):∃its:List Value,Vals xs its/\IsTup s.heap a its.toArray/\xs.length<=sizeLine:=by
 rcases h with h | ⟨o,its,n,hk,hc,hs,hz,r⟩
 . obtain⟨z,its,r,p⟩:=h.ok I.hok;exact⟨its,r,p,z⟩
 . refine⟨its.toList,r,⟨o,I.kIn a o hk,hc,n,by simpa using hs⟩,?_⟩;have e:=r.length;simp only[Zu]at e;omega
theorem Inv.list_inj (I:Inv X abQ Y H s) (h:bJ X.K H a xs) (h':bJ X.K H a ys):xs=ys:=by
 obtain⟨its,r,⟨o,n,e,_,_,d⟩,_⟩:=I.list h;obtain⟨its',r',⟨o',n',e',_,_,d'⟩,_⟩:=I.list h';rw[e]at e'; cases e';rw[d]at d';injection d' with d1 _;have:its=its':=by simpa using congrArg Array.toList d1
 subst this;exact r.inj r'
theorem Inv.tuple_inj (I:Inv X abQ Y H s) (h:cg X.K H a xs) (h':cg X.K H a ys):xs=ys:=by
 obtain⟨its,r,⟨o,e,_,n,d⟩,_⟩:=I.tuple h;obtain⟨its',r',⟨o',e',_,n',d'⟩,_⟩:=I.tuple h';rw[e]at e'; cases e';rw[d]at d';injection d' with d1 _;have:its=its':=by simpa using congrArg Array.toList d1
 subst this;exact r.inj r'
end
abbrev Cx.wish (X:Cx) (E:Value->Shared->Prop):Cx:={ X with xe:=E }
abbrev Cx.nox (X:Cx):Cx:=X.wish λ_ _=>False
theorem Cx.Ok.wish {X:Cx} (ok:X.Ok) (E:Value->Shared->Prop):(X.wish E).Ok:=
 ⟨ok.mod,ok.kind,ok.glob,ok.blt,ok.above,ok.inj,ok.has,ok.cab,ok.hd,ok.frames,ok.stk,ok.exf,ok.bs,ok.bsz,ok.noex,ok.exfs,ok.funs,ok.frf⟩
theorem Cx.Ok.unwish {X:Cx} (ok:(X.wish E).Ok):X.Ok:=
 ⟨ok.mod,ok.kind,ok.glob,ok.blt,ok.above,ok.inj,ok.has,ok.cab,ok.hd,ok.frames,ok.stk,ok.exf,ok.bs,ok.bsz,ok.noex,ok.exfs,ok.funs,ok.frf⟩
section
variable {X:Cx} {abQ:List (Addr×Obj)} {Y:St} {H:Hp} {s:Shared} {E:Value->Shared->Prop}
theorem Inv.wish (I:Inv X abQ Y H s) (E:Value->Shared->Prop):Inv (X.wish E) abQ Y H s:=⟨I.ok.wish E,I.os,I.bare,I.base,I.loc,I.cell,I.free,I.freeC,I.pin,I.hok,I.len⟩
theorem Inv.unwish (I:Inv (X.wish E) abQ Y H s):Inv X abQ Y H s:=⟨I.ok.unwish,I.os,I.bare,I.base,I.loc,I.cell,I.free,I.freeC,I.pin,I.hok,I.len⟩
theorem SP.unwish {D:Ends} {f:Flow} {s':Shared} (h:SP (X.wish E) abQ D f s'):SP X abQ D f s':=by
 cases f with
 | next=>obtain⟨Y',H',I,q⟩:=h; exact⟨Y',H',I.unwish,q⟩
 | brk=>obtain⟨Y',H',I,q⟩:=h; exact⟨Y',H',I.unwish,q⟩
 | cont=>obtain⟨Y',H',I,q⟩:=h; exact⟨Y',H',I.unwish,q⟩
 | ret u=>obtain⟨v,Y',H',I,r,q⟩:=h; exact⟨v,Y',H',I.unwish,r,q⟩
theorem ir.nox {st:List Stmt} {t:TS} (h:ir X.nox st t):ir X st t:=λabQ s Y H D I hw=>
 wpAny_mono (h abQ s Y H D (I.wish _) hw) (λ_ _ q=>q.unwish) λ_ _ z=>False.elim z
end
section
variable {X:Cx} {st:Stmt} {rest:List Stmt} {t u:TS} {e:Expr} {te:TE} {pos:Pos}
def Wg:TS:=λD Y H=>D.nx Y H
def Xm (t u:TS):TS:=λD Y H=>t { D with nx:=u D } Y H
theorem Qw:ir X [] Wg:=λ_ _ Y H _ I h=>wpAny_execs_nil ⟨Y,H,I,h⟩
theorem Mf (h1:PS X st t) (h2:ir X rest u):ir X (st::rest) (Xm t u):=by
 intro abQ s Y H D I h;refine wpAny_execs_cons (bI (h1 abQ s Y H { D with nx:=u D } I h) λf s1 q=>?_);cases f with
 | next=>
  obtain⟨Y',H',I',q⟩:=q;exact h2 abQ s1 Y' H' D I' q
 | ret v=>exact q
 | brk=>exact q
 | cont=>exact q
theorem Qx (h1:PS X st t):ir X [st] t:=by
 intro abQ s Y H D I h;refine wpAny_execs_cons (bI (h1 abQ s Y H D I h) λf s1 q=>?_);cases f with
 | next=>exact wpAny_execs_nil q
 | ret v=>exact q
 | brk=>exact q
 | cont=>exact q
theorem Inv.quiet {Y:St} {H:Hp} (I:Inv X abQ Y H s):interactive X.env=false:=by simp[interactive,I.ok.kind]
def wH (te:TE):TS:=λD Y H=>te Y H λ_ H1=>D.nx Y H1
theorem lK (he:PE X e te) (hs:swapsWith e none pos.line X.env=pure false:=by rfl):PS X (.Expr e pos) (wH te):=by intro abQ s Y H D I h;exact wpAny_Expr_any (bI (he abQ s Y H _ I h) λv s1 ⟨x,H1,I1,r1,q1⟩=>⟨Y,H1,I1,q1⟩) I.quiet hs
def Xn (te:TE):TS:=λD Y H=>te Y H D.rt
theorem Jv (he:PE X e te):PS X (.Return (some e) pos) (Xn te):=by intro abQ s Y H D I h;exact wpAny_Return_some (bI (he abQ s Y H _ I h) λv s1 ⟨x,H1,I1,r1,q1⟩=>⟨x,Y,H1,I1,r1,q1⟩)
def Xo (c:TT) (t u:TS):TS:=λD Y H=>c Y H λb H1=>if b=true then t D Y H1 else u D Y H1
theorem Wh {c:Expr} {a b:List Stmt} {tc:TT} (hc:PT X c tc) (ha:ir X a t) (hb:ir X b u):PS X (.If c a b pos) (Xo tc t u):=by
 intro abQ s Y H D I h;refine wpAny_If (bI (hc abQ s Y H _ I h) λd s1 zqz=>?_);obtain⟨H1,I1,q1⟩:=zqz;cases d with
 | true=>exact ha abQ s1 Y H1 D I1 q1
 | false=>exact hb abQ s1 Y H1 D I1 q1
end
abbrev TG:=V->St->Hp->(St->Hp->Prop)->Prop
abbrev sI:=List V->St->Hp->(St->Hp->Prop)->Prop
def PG (X:Cx) (target:Expr) (t:TG):Prop:=
 ∀(abQ:List (Addr×Obj)) (s:Shared) (Y:St) (H:Hp) (v:V) (u:Value) (Q:St->Hp->Prop),Inv X abQ Y H s->RelV v u->t v Y H Q->
  wpAny (model X.prog X.w) X.A (assign target X.env u) (λ_ s'=>∃Y' H',Inv X abQ Y' H' s'/\Q Y' H') X.xe s
def Jw (X:Cx) (ts:List Expr) (t:sI):Prop:=
 ∀(abQ:List (Addr×Obj)) (s:Shared) (Y:St) (H:Hp) (vs:List V) (us:List Value) (Q:St->Hp->Prop),Inv X abQ Y H s->Vals vs us->t vs Y H Q->
  wpAny (model X.prog X.w) X.A (assignInOrder ((assignEach ts X.env).map (·.2)) us) (λ_ s'=>∃Y' H',Inv X abQ Y' H' s'/\Q Y' H') X.xe s
abbrev Mg:=V->V->V->Hp->(Hp->Prop)->Prop
def Mh (X:Cx) (t:Mg):Prop:=
 ∀(abQ:List (Addr×Obj)) (s:Shared) (Y:St) (H:Hp) (o i v:V) (ov iv u:Value) (Q:Hp->Prop),Inv X abQ Y H s->RelV o ov->RelV i iv->RelV v u->t o i v H Q->
  wpAny (model X.prog X.w) X.A (setItem ov iv u) (λ_ s'=>∃H',Inv X abQ Y H' s'/\Q H') X.xe s
section
variable {X:Cx} {pos:Pos}
def Ao (i:Nat):TG:=λv Y H Q=>Q (Y.set i (some v)) H
theorem Qy {i:Nat} {x:Str} (hN:X.N.Nodup) (hi:X.N[i]?=some x) (hx:Loc X.env.scope x) (hf:X.fn x=true\/X.env.scope.names.lookup x=some .local:=by first | exact .inl rfl | exact .inr rfl | assumption):PG X (.Name x pos) (Ao i):=by intro abQ s Y H v u Q I r h;exact wpAny_assign_Name (Bg I hN hi hx r (λs' I'=>⟨_,H,I',h⟩) hf)
def Tf:sI:=λvs Y H Q=>vs=[]/\Q Y H
def O7 (t:TG) (u:sI):sI:=λvs Y H Q=>∃v r,vs=v::r/\t v Y H λY' H'=>u r Y' H' Q
theorem gD:Jw X [] Tf:=by intro abQ s Y H vs us Q I r h;obtain⟨e,h⟩:=h;subst e;cases r;exact assignInOrder_nil ⟨Y,H,I,h⟩
theorem aX {e:Expr} {es:List Expr} {t:TG} {u:sI} (h1:PG X e t) (h2:Jw X es u)
 (hs:(assignEach (e::es) X.env).map (·.2)=assign e X.env::(assignEach es X.env).map (·.2):=by rfl):Jw X (e::es) (O7 t u):=by
 intro abQ s Y H vs us Q I r h;obtain⟨v,vr,e1,h⟩:=h;subst e1;cases r with
 | cons r rr=>
  rw[hs];refine assignInOrder_cons (bI (h1 abQ s Y H _ _ _ I r h) λ_ s1 zqz=>?_);obtain⟨Y1,H1,I1,q1⟩:=zqz;exact h2 abQ s1 Y1 H1 _ _ Q I1 rr q1
def Xp (K:FG) (n:Nat) (t:sI):TG:=λv Y H Q=>∃a xs,v=.ref a/\cg K H a xs/\xs.length=n/\t xs Y H Q
theorem Tg {es:List Expr} {k:Nat} {t:sI} {n:Nat} (hc:X.calm=true) (h:Jw X es t)
 (hn:(assignEach es X.env).length=n:=by rfl) (hst:(assignEach es X.env).findIdx? (·.1)=none:=by rfl):PG X (.Tuple es k pos) (Xp X.K n t):=by
 intro abQ s Y H v u Q I r hw;obtain⟨a,xs,e1,hq,hl,hw⟩:=hw;subst e1;cases r;obtain⟨its,rv,ht,hz⟩:=I.tuple hq;refine assign_Tuple_tuple (I.ok.hd hc) ht (by simp[hn,<-hl,rv.length]) hst λh' hx=>?_;have I1:Inv X abQ Y H { s with heap:=h' }:=I.kept (t':=s.toks) λb o e=>hx b o (Zb (YS e)) e;exact h abQ _ Y H xs _ Q I1 (by simpa using rv) hw
def HD (to ti:TE) (t:Mg):TG:=λv Y H Q=>to Y H λo H1=>ti Y H1 λi H2=>t o i v H2 λH3=>Q Y H3
theorem mL {o i:Expr} {to ti:TE} {t:Mg} (ho:PE X o to) (hi:PE X i ti) (hs:Mh X t)
 (ha:∀v,assign (.Subscript o i pos) X.env v=(do
   let ov <-holding [v] (eval o X.env)
   let iv <-holding [v,ov] (eval i X.env)
   standAt pos
   holding [v,ov,iv] (setItem ov iv v)
   release [v,ov,iv] []):=by intro _; rfl):PG X (.Subscript o i pos) (HD to ti t):=by
 intro abQ s Y H v u Q I r h
 rw[ha]
 refine aaM (wpAny_holding (bI (ho abQ s Y H _ I h) λov s1 zqz=>?_));obtain⟨x,H1,I1,r1,q1⟩:=zqz
 refine aaM (wpAny_holding (bI (hi abQ s1 Y H1 _ I1 q1) λiv s2 zqz=>?_));obtain⟨y,H2,I2,r2,q2⟩:=zqz
 refine aaM (wpAny_standAt (aaM (wpAny_holding (bI (hs abQ s2 Y H2 x y v ov iv u _ I2 r1 r2 r q2) λ_ s3 zqz=>?_))));obtain⟨H3,I3,q3⟩:=zqz
 exact wpAny_release ⟨Y,H3,I3,q3⟩
def Bh (te:TE) (g:TG):TS:=λD Y H=>te Y H λx H1=>g x Y H1 D.nx
theorem kW {tg e:Expr} {te:TE} {g:TG} (he:PE X e te) (hg:PG X tg g) (hs:swapsWithSole [tg] e pos.line X.env=pure false:=by rfl) (hw:swappedStores [tg] e X.env=pure none:=by rfl)
 (h1:(assignEach [tg] X.env).map (·.2)=[assign tg X.env]:=by rfl):PS X (.Assign [tg] e pos) (Bh te g):=by
 intro abQ s Y H D I h;refine wpAny_Assign_stores (bI (he abQ s Y H _ I h) λv s1 ⟨x,H1,I1,r1,q1⟩=>?_) hs hw;rw[h1];exact bI (hg abQ s1 Y H1 x v _ I1 r1 q1) λ_ s2 q=>q
theorem Th {i:Nat} {x:Str} {e:Expr} {te:TE} {pos':Pos} (hN:X.N.Nodup) (hi:X.N[i]?=some x) (hx:Loc X.env.scope x) (he:PE X e te) (hs:swapsWith e (some (.Name x pos')) pos.line X.env=pure false:=by rfl) (hf:X.fn x=true\/X.env.scope.names.lookup x=some .local:=by first | exact .inl rfl | exact .inr rfl | assumption):
 PS X (.Assign [.Name x pos'] e pos) (Bh te (Ao i)):=by
 intro abQ s Y H D I h;refine wpAny_Assign_Name (bI (he abQ s Y H _ I h) λv s1 ⟨y,H1,I1,r1,q1⟩=>?_) hs;exact Bg I1 hN hi hx r1 (λs2 I2=>⟨_,H1,I2,q1⟩) hf
end
structure It where
 go:Nat->Hp->Prop
 yld:Nat->Hp->V->Hp->Prop
 stop:Nat->Hp->Prop
def kY (X:Cx) (abQ:List (Addr×Obj)) (H:Hp) (b:Addr):Prop:=
 H b=none/\b≠X.env.locals/\b∉X.fs/\(b∈X.ex\/X.s₀.heap.objs.size<=b)/\(∀x c,X.env.cells.lookup x=some c->c≠b)/\∀p∈X.pn++abQ,p.1≠b
theorem Inv.fpOk {X:Cx} {Y:St} {H H':Hp} {b:Addr} (I:Inv X abQ Y H s) (hb:s.heap.objs.size<=b) (hn:H' b=none):kY X abQ H' b:=by
 refine⟨hn,ZZ (Y9 I.lt hb),I.nofs hb,.inr (Zc I.sz hb),λx c e z=>?_,λp hp z=>?_⟩
 . obtain⟨v,q⟩:=I.cell x c e;exact absurd (Y9 q.lt (by rw[z]; exact hb)) (ZV _)
 . exact absurd (Y9 (YS (I.pin p hp).1) (by rw[z]; exact hb)) (ZV _)
structure Turn (P:Program) (w:World) (K:FG) (tg:Expr) (J:It) (fp:List Addr) (it:Addr) (tn:Nat->Heap->Prop):Prop where
 mem:it∈fp
 obj:∀i h,tn i h->∀b∈fp,∃o,h.get? b=some o/\∀v,o.data≠.cell v
 keep:∀i h h',tn i h->(∀b∈fp,∀o,h.get? b=some o->h'.get? b=some o)->tn i h'
 item:∀(X:Cx),X.prog=P->X.w=w->X.K=K->X.calm=true->∀(i:Nat) (abQ:List (Addr×Obj)) (s:Shared) (Y:St) (H:Hp) (E:Value->Shared->Prop),Inv X abQ Y H s->(∀b∈fp,kY X abQ H b)->tn i s.heap->J.go i H->
  wpAny (model P w) X.A (pyNext (.ref it)) (λr s1=>∃u,r=some u/\
   wpAny (model P w) X.A (letOwnedTupleGo tg (.ref it) u) (λ_ s2=>∃x H',Inv X abQ Y H' s2/\RelV x u/\J.yld i H x H'/\tn (i+1) s2.heap/\∀b∈fp,H' b=none) E s1) E s
 done:∀(X:Cx),X.prog=P->X.w=w->X.K=K->X.calm=true->∀(i:Nat) (abQ:List (Addr×Obj)) (s:Shared) (Y:St) (H:Hp) (E:Value->Shared->Prop),Inv X abQ Y H s->(∀b∈fp,kY X abQ H b)->tn i s.heap->J.stop i H->
  wpAny (model P w) X.A (pyNext (.ref it)) (λr s1=>r=none/\Inv X abQ Y H s1) E s
 self:∀(A:Around) (i:Nat) (s:Shared) (Q:Value->Shared->Prop) (E:Value->Shared->Prop),tn i s.heap->Q (.ref it) s->wpAny (model P w) A (pyIter (.ref it)) Q E s
abbrev TI:=St->Hp->(It->Hp->Prop)->Prop
def PIE (X:Cx) (abQ:List (Addr×Obj)) (Y:St) (tg:Expr) (R:It->Hp->Prop) (itv:Value) (s2:Shared):Prop:=
 ∃(it:Addr) (fp:List Addr) (tn:Nat->Heap->Prop) (J:It) (H':Hp),itv=.ref it/\Inv X abQ Y H' s2/\Turn X.prog X.w X.K tg J fp it tn/\tn 0 s2.heap/\(∀b∈fp,kY X abQ H' b)/\R J H'
def PI (X:Cx) (tg iter:Expr) (wi:TI):Prop:=
 ∀(abQ:List (Addr×Obj)) (s:Shared) (Y:St) (H:Hp) (R:It->Hp->Prop),Inv X abQ Y H s->wi Y H R->
  wpAny (model X.prog X.w) X.A (eval iter X.env) (λv s1=>wpAny (model X.prog X.w) X.A (pyIter v) (PIE X abQ Y tg R) X.xe s1) X.xe s
theorem HF {M:Model} {tg:Expr} {it:Addr} {u:Value} {o:Obj} {n:String} {vs:Array Value} {Q:Unit->Shared->Prop} (ho:s.heap.get? it=some o) (hc:o.cls=.type n) (hd:o.data=.fields vs)
 (hn:["enumerate", "zip", "dict_itemiterator", "dict_reverseitemiterator", "odict_iterator", "itertools.zip_longest", "itertools.pairwise"].contains n=false) (hQ:Q () s):wpAny M A (letOwnedTupleGo tg (.ref it) u) Q E s:=by
 unfold letOwnedTupleGo;cases tg<;>first
  | exact aaP hQ
  | (cases u<;>first
      | exact aaP hQ
      | (refine aaM (wpAny_load ho ?_)
         rw[hc,hd];show wpAny M A (if (["enumerate", "zip", "dict_itemiterator", "dict_reverseitemiterator", "odict_iterator", "itertools.zip_longest", "itertools.pairwise"].contains n&&vs[0]?==some (rawInt _))=true then _ else _) Q E s;rw[aaO (by intro h; rw[hn,Bool.false_and]at h; cases h)];exact aaP hQ))
def O8 (K:FG) (a:Addr):It:=
 ⟨λi H=>∃xs x,bJ K H a xs/\xs[i]?=some x,λi H x H'=>H'=H/\∀xs,bJ K H a xs->xs[i]?=some x,λi H=>∃xs,bJ K H a xs/\xs.length<=i⟩
def O9 (K:FG) (a:Addr):It:=
 ⟨λi H=>∃xs x,cg K H a xs/\xs[i]?=some x,λi H x H'=>H'=H/\∀xs,cg K H a xs->xs[i]?=some x,λi H=>∃xs,cg K H a xs/\xs.length<=i⟩
def Pa (lo:Int) (n:Nat):It:=⟨λi _=>i<n,λi H x H'=>H'=H/\x=.int (lo+i),λi _=>n<=i⟩
theorem Jx {K:FG} {tg:Expr} (a it:Addr):Turn P w K tg (O8 K a) [it] it (λi h=>h.IsListIter it a i) where
 mem:=by simp
 obj:=λi h st b hb=>by
  have e:b=it:=by simpa using hb
  subst e;obtain⟨o,e,c,d⟩:=st;exact⟨o,e,λv z=>by rw[d]at z; cases z⟩
 keep:=λi h h' st k=>st.at λo e=>k it (by simp) o e
 item:=by intro X hP hw hK hc i abQ s Y H E I hf st hg;subst hP hw hK;obtain⟨xs,x,hq,hx⟩:=hg;obtain⟨its,rv,p,hz⟩:=I.list hq;obtain⟨u,hu,ru⟩:=rv.get hx;obtain⟨f0,f1,f2,f3,f4,f5⟩:=hf it (by simp);refine wpAny_pyNext_list_item st p.isList (x:=u) (by simpa using hu) λh' st' sb=>?_;have I1:Inv X abQ Y H { s with heap:=h' }:=I.turned (t':=s.toks) (λb o hb e=>(sb.2 b hb).trans e) f0 f1 f3 f4 f5;obtain⟨o,e,c,d⟩:=id st';exact⟨u,rfl,HF (s:={ s with heap:=h' }) e c d (by decide) ⟨x,H,I1,ru,⟨rfl,λys hy=>by rw[I.list_inj hy hq]; exact hx⟩,st',λb hb=>(hf b hb).1⟩⟩
 done:=by intro X hP hw hK hc i abQ s Y H E I hf st hg;subst hP hw hK;obtain⟨xs,hq,hx⟩:=hg;obtain⟨its,rv,p,hz⟩:=I.list hq;obtain⟨f0,f1,f2,f3,f4,f5⟩:=hf it (by simp);have hl:=rv.length;exact wpAny_pyNext_list_end (I.ok.hd hc) st p.isList (by simp; omega) λh' eb=>⟨rfl,I.turned (t':=s.toks) (λb o hb e=>eb b o hb e) f0 f1 f3 f4 f5⟩
 self:=λ_ _ _ _ _ st h=>wpAny_pyIter_listiter st h
theorem HH {K:FG} {tg:Expr} (a it:Addr):Turn P w K tg (O9 K a) [it] it (λi h=>h.IsTupleIter it a i) where
 mem:=by simp
 obj:=λi h st b hb=>by
  have e:b=it:=by simpa using hb
  subst e;obtain⟨o,e,c,d⟩:=st;exact⟨o,e,λv z=>by rw[d]at z; cases z⟩
 keep:=λi h h' st k=>st.at λo e=>k it (by simp) o e
 item:=by intro X hP hw hK hc i abQ s Y H E I hf st hg;subst hP hw hK;obtain⟨xs,x,hq,hx⟩:=hg;obtain⟨its,rv,p,hz⟩:=I.tuple hq;obtain⟨u,hu,ru⟩:=rv.get hx;obtain⟨f0,f1,f2,f3,f4,f5⟩:=hf it (by simp);refine wpAny_pyNext_tuple_item st (show s.heap.IsTuple a its.toArray from p) (x:=u) (by simpa using hu) λh' st' sb=>?_;have I1:Inv X abQ Y H { s with heap:=h' }:=I.turned (t':=s.toks) (λb o hb e=>(sb.2 b hb).trans e) f0 f1 f3 f4 f5;obtain⟨o,e,c,d⟩:=id st';exact⟨u,rfl,HF (s:={ s with heap:=h' }) e c d (by decide) ⟨x,H,I1,ru,⟨rfl,λys hy=>by rw[I.tuple_inj hy hq]; exact hx⟩,st',λb hb=>(hf b hb).1⟩⟩
 done:=by intro X hP hw hK hc i abQ s Y H E I hf st hg;subst hP hw hK;obtain⟨xs,hq,hx⟩:=hg;obtain⟨its,rv,p,hz⟩:=I.tuple hq;obtain⟨f0,f1,f2,f3,f4,f5⟩:=hf it (by simp);have hl:=rv.length;exact wpAny_pyNext_tuple_end (I.ok.hd hc) st (show s.heap.IsTuple a its.toArray from p) (by simp; omega) λh' eb=>⟨rfl,I.turned (t':=s.toks) (λb o hb e=>eb b o hb e) f0 f1 f3 f4 f5⟩
 self:=λ_ _ _ _ _ st h=>wpAny_pyIter_tupleiter st h
theorem HJ {K:FG} {tg:Expr} (it:Addr) (lo:Int) (n:Nat):Turn P w K tg (Pa lo n) [it] it (λi h=>IsRangeIter h it (lo+(i:Nat)*1) ((n:Int)-(i:Nat)) 1) where
 mem:=by simp
 obj:=λi h st b hb=>by
  have e:b=it:=by simpa using hb
  subst e;exact⟨_,st,λv z=>by have z':Data.fields _=Data.cell v:=z;cases z'⟩
 keep:=λi h h' st k=>k it (by simp) _ st
 item:=by intro X hP hw hK hc i abQ s Y H E I hf st hg;subst hP hw hK;obtain⟨f0,f1,f2,f3,f4,f5⟩:=hf it (by simp);have W:=Walks.range (prog:=X.prog) (w:=X.w) (I.ok.hd hc) it lo 1 n;refine W.item i s _ _ hg st λv h' tk hv st' kk=>?_;obtain⟨t,rfl⟩:=hv;have I1:Inv X abQ Y H { s with heap:=h',toks:=tk }:=I.turned (λb o hb e=>kk b o (by simpa using hb) e) f0 f1 f3 f4 f5;refine⟨_,rfl,HF (s:={ s with heap:=h',toks:=tk }) (n := "range_iterator") st' rfl rfl (by decide) ⟨.int (lo+i),H,I1,⟨t,?_⟩,⟨rfl,rfl⟩,st',λb hb=>(hf b hb).1⟩⟩;rw[Int.mul_one]
 done:=by intro X hP hw hK hc i abQ s Y H E I hf st hg;subst hP hw hK;obtain⟨f0,f1,f2,f3,f4,f5⟩:=hf it (by simp);exact wpAny_pyNext_range_end (I.ok.hd hc) st (by have:n<=i:=hg; omega) λh' eb=>⟨rfl,I.turned (t':=s.toks) (λb o hb e=>eb b o hb e) f0 f1 f3 f4 f5⟩
 self:=λ_ _ _ _ _ st h=>wpAny_pyIter_rangeiter st h
section
variable {X:Cx} {tg:Expr}
theorem Mi {Y:St} {H:Hp} {R:It->Hp->Prop} {lo hi:Int} {t u v:Tok} {tk:Nat} (I:Inv X abQ Y H s) (h1:-(2 ^ 62)<=lo) (h2:lo<2 ^ 62) (h3:-(2 ^ 62)<=hi) (h4:hi<2 ^ 62)
 (q:R (Pa lo (hi-lo).toNat) H):wpAny (model X.prog X.w) X.A (pyIter (.ref s.heap.objs.size)) (PIE X abQ Y tg R) E { s with heap:=s.heap.push { cls:=.type "range",data:=.fields #[.int lo t,.int hi u,.int 1 v] },toks:=tk }:=by
 refine wpAny_pyIter_range (IsRange.new ..) (small_one h1 h2 h3 h4) ?_;have I1:Inv X abQ Y H { s with heap:=s.heap.push { cls:=.type "range",data:=.fields #[.int lo t,.int hi u,.int 1 v] },toks:=tk }:=I.kept λb o e=>YD _ e;refine⟨(s.heap.push { cls:=.type "range",data:=.fields #[.int lo t,.int hi u,.int 1 v] }).objs.size,[(s.heap.push { cls:=.type "range",data:=.fields #[.int lo t,.int hi u,.int 1 v] }).objs.size],_,_,H,rfl,
  I1.kept (t':=tk) λb o e=>YD _ e,HJ _ lo (hi-lo).toNat,?_,λb hb=>?_,q⟩
 . have e1:lo+((0:Nat):Int)*1=lo:=by simp
   have e2:(((hi-lo).toNat:Nat):Int)-((0:Nat):Int)=Builtin.Range.rangeSize lo hi 1:=by rw[rangeSize_one]; split<;>omega
   show IsRangeIter _ _ (lo+((0:Nat):Int)*1) ((((hi-lo).toNat:Nat):Int)-((0:Nat):Int)) 1;rw[e1,e2];exact YT _ rfl
 . have e:b=(s.heap.push { cls:=.type "range",data:=.fields #[.int lo t,.int hi u,.int 1 v] }).objs.size:=by simpa using hb
   subst e;exact I1.fpOk (YC _) (I1.hok.fresh (YC _))
def Wi (ta:TA):TI:=λY H R=>ta Y H λvs H1=>∃j:Int,vs=[.int j]/\-(2 ^ 62)<=j/\j<2 ^ 62/\R (Pa 0 j.toNat) H1
theorem Jy {a:Expr} {ta:TA} {p pos:Pos} (hg:Gl X "range") (hm:X.mg "range" = none) (ha:PA X [a] ta) (hs:starEach [a] X.env=[(false,eval a X.env)]:=by rfl):PI X tg (.Call (.Name "range" p) [a] [] pos) (Wi ta):=by
 intro abQ s Y H R I h;refine Call_ (tG I hg hm boot_range (PyProof.Rows.callWith_type1 (bI (ha pos abQ s Y H _ I h) λus s1 ⟨vs,H1,I1,r1,q1⟩=>?_) hs rfl));obtain⟨j,e,q1,q2,q⟩:=q1;subst e;cases r1 with
 | cons r rr=>
  cases rr;obtain⟨t,rfl⟩:=r;exact call_range_1 (Mi I1 (by omega) (by omega) q1 q2 (by simpa using q))
def Xq (wi:TI) (g:TG) (tb:TS):TS:=λD Y H=>wi Y H λJ H1=>∃W:Nat->Nat->St->Hp->Prop,(∃m,W 0 m Y H1)/\∀i m Y H,W i m Y H->
 (J.stop i H/\D.nx Y H)\/(J.go i H/\∃N:St->Hp->Prop,(∀Y' H',N Y' H'->∃m',m'<m/\W (i+1) m' Y' H')/\∀x H',J.yld i H x H'->g x Y H' λY2 H2=>tb { D with nx:=N,ct:=N,bk:=D.nx } Y2 H2)
def tH (fp:List Addr) (h:Heap):List (Addr×Obj):=fp.filterMap λb=>(h.get? b).map λo=>(b,o)
theorem qY {fp:List Addr} {h:Heap} {b:Addr} {o:Obj} (hb:b∈fp) (e:h.get? b=some o):(b,o)∈tH fp h:=Zw.mpr ⟨b,hb,by rw[e]; rfl⟩
theorem Jz {fp:List Addr} {h:Heap} {p:Addr×Obj} (hp:p∈tH fp h):p.1∈fp/\h.get? p.1=some p.2:=by
 obtain⟨b,hb,e⟩:=Zw.mp hp;cases q:h.get? b with
 | none=>rw[q]at e; cases e
 | some o=>
  rw[q]at e;have e':(b,o)=p:=Y5 e;subst e';exact⟨hb,q⟩
theorem Inv.pinned {Y:St} {H:Hp} {fp:List Addr} (I:Inv X abQ Y H s) (hf:∀b∈fp,kY X abQ H b) (ho:∀b∈fp,∃o,s.heap.get? b=some o/\∀v,o.data≠.cell v):Inv X (abQ++tH fp s.heap) Y H s:=
 I.pins_of λp hp=>(Y6_.mp hp).elim (λz=>I.pin p (Zm _ z)) λz=>by obtain⟨hb,e⟩:=Jz z;obtain⟨f0,f1,f2,_⟩:=hf p.1 hb;obtain⟨o,e',d⟩:=ho p.1 hb;rw[e]at e'; cases e';exact⟨e,f0,f1,f2,d⟩
theorem Inv.unpinned {abQ pl:List (Addr×Obj)} {Y:St} {H:Hp} (I:Inv X (abQ++pl) Y H s):Inv X abQ Y H s:=I.pins_of λp hp=>I.pin p (Zm _ (Z9 _ hp))
theorem Ti {iter:Expr} {body:List Stmt} {wi:TI} {g:TG} {tb:TS} {pos:Pos} (hp:PassesOwn (model X.prog X.w) X.A X.env X.xe) (hc:X.calm=true) (hi:PI X tg iter wi) (hg:PG X tg g) (hb:ir X body tb)
 (hs:∀x,foldedSetIterable iter X.env x=pure x:=by intro _; rfl):PS X (.For tg iter body [] pos) (Xq wi g tb):=by
 intro abQ s Y H D I h;refine wpAny_For (bI (hi abQ s Y H _ I h) λv s1 h1=>bI h1 λitv s2 h2=>?_) hs;obtain⟨it,fp,tn,J,H2,e,I2,T,st2,f2,W,⟨m0,w0⟩,turn⟩:=h2;subst e;have stat:∀{H':Hp},(∀b∈fp,H' b=none)->∀b∈fp,kY X abQ H' b:=λhn b hb=>⟨hn b hb,(f2 b hb).2⟩;refine codeAny_forLoop_any (λn s'=>∃i Y' H',Inv X abQ Y' H' s'/\tn i s'.heap/\(∀b∈fp,H' b=none)/\W i n Y' H') ?_ m0 ⟨0,Y,H2,I2,st2,λb hb=>(f2 b hb).1,w0⟩;rintro n s3 ⟨i,Y3,H3,I3,st3,fr3,w3⟩;rcases turn i n Y3 H3 w3 with ⟨stop,qn⟩ | ⟨go,N,hN,step⟩
 . refine wpAny_passesOwn hp (bI (T.done X rfl rfl rfl hc i abQ s3 Y3 H3 X.xe I3 (stat fr3) st3 stop) λr s4 zqz=>?_);obtain⟨hr,I4⟩:=zqz;subst hr;exact wpAny_execs_nil ⟨Y3,H3,I4,qn⟩
 . refine wpAny_passesOwn hp (bI (T.item X rfl rfl rfl hc i abQ s3 Y3 H3 X.xe I3 (stat fr3) st3 go) λr s4 zqz=>?_);obtain⟨u,hr,h4⟩:=zqz;subst hr;refine wpAny_passesOwn hp (bI h4 λ_ s5 zqz=>?_);obtain⟨x,H5,I5,r5,y5,st5,fr5⟩:=zqz;have I5':=I5.pinned (stat fr5) (T.obj _ _ st5);refine wpAny_passesOwn hp (bI (hg _ s5 Y3 H5 x u _ I5' r5 (step x H5 y5)) λ_ s6 zqz=>?_);obtain⟨Y6,H6,I6,q6⟩:=zqz;refine wpAny_passesOwn hp (bI (hb _ s6 Y6 H6 _ I6 q6) λf s7 q7=>?_);have again:∀{Y7:St} {H7:Hp},Inv X (abQ++tH fp s5.heap) Y7 H7 s7->N Y7 H7->∃m,m<n/\∃i Y' H',Inv X abQ Y' H' s7/\tn i s7.heap/\(∀b∈fp,H' b=none)/\W i m Y' H':=λ{Y7 H7} I7 n7=>by obtain⟨m',hm,w7⟩:=hN Y7 H7 n7;refine⟨m',hm,i+1,Y7,H7,I7.unpinned,T.keep _ _ _ st5 λb hb o e=>(I7.pin (b,o) (Zm _ (Zm _ (qY hb e)))).1,λb hb=>?_,w7⟩;obtain⟨o,e,d⟩:=T.obj _ _ st5 b hb;exact(I7.pin (b,o) (Zm _ (Zm _ (qY hb e)))).2.1
   cases f with
   | next=>obtain⟨Y7,H7,I7,n7⟩:=q7; exact again I7 n7
   | cont=>obtain⟨Y7,H7,I7,n7⟩:=q7; exact again I7 n7
   | brk=>obtain⟨Y7,H7,I7,q7⟩:=q7; exact⟨Y7,H7,I7.unpinned,q7⟩
   | ret v=>obtain⟨x7,Y7,H7,I7,r7,q7⟩:=q7; exact⟨x7,Y7,H7,I7.unpinned,r7,q7⟩
end
abbrev R2:=V->V->Hp->VK->Prop
def gP (X:Cx) (f:Value->Value->Sem Value) (r:R2):Prop:=
 ∀(abQ:List (Addr×Obj)) (s:Shared) (Y:St) (H:Hp) (x y:V) (v u:Value) (Q:VK),Inv X abQ Y H s->RelV x v->RelV y u->r x y H Q->
  wpAny (model X.prog X.w) X.A (f v u) (EP X abQ Y Q) X.xe s
def Tj (X:Cx) (f:Value->Sem Value) (r:V->Hp->VK->Prop):Prop:=
 ∀(abQ:List (Addr×Obj)) (s:Shared) (Y:St) (H:Hp) (x:V) (v:Value) (Q:VK),Inv X abQ Y H s->RelV x v->r x H Q->
  wpAny (model X.prog X.w) X.A (f v) (EP X abQ Y Q) X.xe s
def jx (X:Cx) (f:Value) (r:List V->Hp->VK->Prop):Prop:=
 ∀(abQ:List (Addr×Obj)) (s:Shared) (Y:St) (H:Hp) (xs:List V) (us:List Value) (Q:VK),Inv X abQ Y H s->Vals xs us->r xs H Q->
  wpAny (model X.prog X.w) X.A (call f us) (EP X abQ Y Q) X.xe s
def Xr (X:Cx) (r:V->Hp->(Bool->Hp->Prop)->Prop):Prop:=
 ∀(abQ:List (Addr×Obj)) (s:Shared) (Y:St) (H:Hp) (x:V) (v:Value) (Q:Bool->Hp->Prop),Inv X abQ Y H s->RelV x v->r x H Q->
  wpAny (model X.prog X.w) X.A (truthy v) (TP X abQ Y Q) X.xe s
def JB (r:R2) (ta tb:TE):TE:=λY H Q=>ta Y H λx H1=>tb Y H1 λy H2=>r x y H2 Q
def X7 (r:V->Hp->VK->Prop) (ta:TE):TE:=λY H Q=>ta Y H λx H1=>r x H1 Q
def rI (C:Int->Int->Prop) (g:Int->Int->V):R2:=λx y H Q=>∃i j,x=.int i/\y=.int j/\C i j/\Q (g i j) H
def tK (g:Int->Int->V):R2:=λx y H Q=>∃i j,x=.int i/\y=.int j/\Q (g i j) H
def rU (g:Int->V):V->Hp->VK->Prop:=λx H Q=>∃i,x=.int i/\Q (g i) H
section
variable {X:Cx} {a b c:Expr} {ta tb tc:TE} {pos:Pos}
theorem Mj (ha:PE X a ta) (hb:PE X b tb) {Y:St} {H:Hp} {R:V->V->Hp->Prop} (I:Inv X abQ Y H s)
 (h:ta Y H λx H1=>tb Y H1 λy H2=>R x y H2) {Q:Value->Shared->Prop} {f:Value->Value->Sem Value}
 (hf:∀v u s2 x y H2,Inv X abQ Y H2 s2->RelV x v->RelV y u->R x y H2->wpAny (model X.prog X.w) X.A (f v u) Q X.xe s2):
 wpAny (model X.prog X.w) X.A (eval a X.env) (λv s₁=>wpAny (model X.prog X.w) X.A (eval b X.env) (λu s₂=>wpAny (model X.prog X.w) X.A (f v u) Q X.xe s₂) X.xe s₁) X.xe s:=by
 refine bI (ha abQ s Y H _ I h) λv s1 zqz=>?_;obtain⟨x,H1,I1,r1,q1⟩:=zqz;refine bI (hb abQ s1 Y H1 _ I1 q1) λu s2 zqz=>?_;obtain⟨y,H2,I2,r2,q2⟩:=zqz;exact hf v u s2 x y H2 I2 r1 r2 q2
theorem Wj {op:Operator} {r:R2} (ho:gP X (binaryOp op) r) (ha:PE X a ta) (hb:PE X b tb):PE X (.BinOp a op b pos) (JB r ta tb):=by intro abQ s Y H Q I h;exact wpAny_BinOp (Mj ha hb I h λv u s2 x y H2 I2 rx ry q=>ho abQ s2 Y H2 x y v u Q I2 rx ry q)
theorem Wk {op:UnaryOp} {r:V->Hp->VK->Prop} (ho:Tj X (unaryOp op) r) (ha:PE X a ta):PE X (.UnaryOp op a pos) (X7 r ta):=by intro abQ s Y H Q I h;exact UnaryOp_ (bI (ha abQ s Y H _ I h) λv s1 ⟨x,H1,I1,r1,q1⟩=>ho abQ s1 Y H1 x v Q I1 r1 q1)
theorem Pb {f:Value->Value->Sem Value} {C:Int->Int->Prop} {g:Int->Int->Int}
 (rule:∀(i j:Int) (t u:Tok) (s:Shared) (Q:Value->Shared->Prop) (E:Value->Shared->Prop),C i j->Q (.int (g i j) s.toks) { s with toks:=s.toks+1 }->wpAny (model X.prog X.w) X.A (f (.int i t) (.int j u)) Q E s):
 gP X f (rI C λi j=>.int (g i j)):=by
 intro abQ s Y H x y v u Q I rx ry h;obtain⟨i,j,rfl,rfl,hc,q⟩:=h;obtain⟨t,rfl⟩:=rx;obtain⟨t',rfl⟩:=ry;exact rule i j t t' s _ _ hc ⟨.int (g i j),H,I.tok _,⟨_,rfl⟩,q⟩
theorem Tn {f:Value->Value->Sem Value} {g:Int->Int->Int}
 (rule:∀(i j:Int) (t u:Tok) (s:Shared) (Q:Value->Shared->Prop) (E:Value->Shared->Prop),Q (.int (g i j) s.toks) { s with toks:=s.toks+1 }->wpAny (model X.prog X.w) X.A (f (.int i t) (.int j u)) Q E s):
 gP X f (tK λi j=>.int (g i j)):=by
 intro abQ s Y H x y v u Q I rx ry h;obtain⟨i,j,rfl,rfl,q⟩:=h;obtain⟨t,rfl⟩:=rx;obtain⟨t',rfl⟩:=ry;exact rule i j t t' s _ _ ⟨.int (g i j),H,I.tok _,⟨_,rfl⟩,q⟩
theorem Tp {f:Value->Value->Sem Value} {g:Int->Int->Bool}
 (rule:∀(i j:Int) (t u:Tok) (s:Shared) (Q:Value->Shared->Prop) (E:Value->Shared->Prop),Q (.bool (g i j)) s->wpAny (model X.prog X.w) X.A (f (.int i t) (.int j u)) Q E s):
 gP X f (tK λi j=>.bl (g i j)):=by
 intro abQ s Y H x y v u Q I rx ry h;obtain⟨i,j,rfl,rfl,q⟩:=h;obtain⟨t,rfl⟩:=rx;obtain⟨t',rfl⟩:=ry;exact rule i j t t' s _ _ ⟨.bl (g i j),H,I,rfl,q⟩
def Tq (i j:Int):Prop:=0<j/\j<1073741824
def Tr (i j:Int):Prop:=0<=j/\j<=1000000/\i.natAbs<2 ^ 64
def HN (i j:Int):Prop:=(-(2 ^ 64)<i/\i<2 ^ 64)\/(-(2 ^ 64)<j/\j<2 ^ 64)
theorem HN.ok {i j:Int} (h:HN i j):IntMulOk i j:=by
 rcases h with ⟨h1,h2⟩ | ⟨h1,h2⟩
 . exact .of_left (intBits_le_64 h1 h2)
 . exact .of_right (intBits_le_64 h1 h2)
theorem Tt:gP X (binaryOp .Add) (tK λi j=>.int (i+j)):=Tn λ_ _ _ _ _ _ _ q=>add_int q
theorem Tu:gP X (binaryOp .Sub) (tK λi j=>.int (i-j)):=Tn λ_ _ _ _ _ _ _ q=>sub_int q
theorem jO:gP X (binaryOp .Mult) (rI HN λi j=>.int (i*j)):=Pb λ_ _ _ _ _ _ _ hc q=>mul_int q hc.ok
theorem b7:gP X (binaryOp .FloorDiv) (rI Tq λi j=>.int (i/j)):=Pb λi j _ _ _ _ _ hc q=>by have h1:(0:Int)<j:=hc.1;have h2:j<1073741824:=hc.2;exact floordiv_int (by omega) (by rw[Int.fdiv_eq_ediv_of_nonneg i (by omega)]; exact q) (.inl (PyProof.noPylong_small (by omega)))
theorem bj:gP X (binaryOp .Mod) (rI (λ_ j=>0<j) λi j=>.int (i%j)):=Pb λi j _ _ _ _ _ hc q=>by have h1:(0:Int)<j:=hc;exact mod_int' (by omega) (by rw[Int.fmod_eq_emod_of_nonneg i (by omega)]; exact q)
theorem Tv:gP X (binaryOp .Pow) (rI Tr λi j=>.int (i ^ j.toNat)):=Pb λ_ _ _ _ _ _ _ hc q=>pow_int_small hc.1 hc.2.1 hc.2.2 q
theorem X8 {f:Value->Sem Value} {g:Int->Int}
 (rule:∀(i:Int) (t:Tok) (s:Shared) (Q:Value->Shared->Prop) (E:Value->Shared->Prop),Q (.int (g i) s.toks) { s with toks:=s.toks+1 }->wpAny (model X.prog X.w) X.A (f (.int i t)) Q E s):
 Tj X f (rU λi=>.int (g i)):=by
 intro abQ s Y H x v Q I rx h;obtain⟨i,rfl,q⟩:=h;obtain⟨t,rfl⟩:=rx;exact rule i t s _ _ ⟨.int (g i),H,I.tok _,⟨_,rfl⟩,q⟩
theorem Tz:Tj X (unaryOp .USub) (rU λi=>.int (-i)):=X8 λ_ _ _ _ _ q=>neg_int q
end
def scal:V->V->Bool
 | .non,.non=>true | .non,.int _=>true | .int _,.non=>true | .non,.bl _=>true | .bl _,.non=>true | .non,.str _=>true | .str _,.non=>true
 | .int _,.int _=>true | .bl _,.bl _=>true | .str _,.str _=>true | .byt _,.byt _=>true
 | .int _,.str _=>true | .str _,.int _=>true | .bl _,.str _=>true | .str _,.bl _=>true
 | _,_=>false
section
variable {X:Cx} {a b c:Expr} {ta tb tc:TE} {pos:Pos}
theorem TQ {Y:St} {H:Hp} {Q:VK} {k k':Bool} (I:Inv X abQ Y H s) (q:Q (.bl k) H) (e:k=k'):EP X abQ Y Q (.bool k') s:=by subst e;exact⟨.bl k,H,I,rfl,q⟩
theorem Ph:gP X (compareOp .Lt) (tK λi j=>.bl (decide (i<j))):=Tp λ_ _ _ _ _ _ _ q=>lt_int q
theorem lY:gP X (compareOp .Gt) (tK λi j=>.bl (decide (j<i))):=Tp λ_ _ _ _ _ _ _ q=>gt_int q
theorem JC:gP X (compareOp .In) (λx y H Q=>∃i j,x=.str i/\y=.str j/\Q (.bl (!(Builtin.Str.occurrences j i 0 j.length 1).isEmpty)) H):=by intro abQ s Y H x y v u Q I rx ry h;obtain⟨i,j,rfl,rfl,q⟩:=h;obtain⟨t,rfl⟩:=rx;obtain⟨t',rfl⟩:=ry;exact in_str (TQ I q rfl)
theorem gP.or {f:Value->Value->Sem Value} {r r':R2} (h:gP X f r) (h':gP X f r'):gP X f (λx y H Q=>r x y H Q\/r' x y H Q):=by
 intro abQ s Y H x y v u Q I rx ry q;rcases q with q | q
 . exact h abQ s Y H x y v u Q I rx ry q
 . exact h' abQ s Y H x y v u Q I rx ry q
theorem bR (b:Expr) {op:CmpOp} (h:op≠.In:=by decide) (h2:op≠.NotIn:=by decide):behindInMarks op b=false:=by
 have e1:(op==CmpOp.In)=false:=by cases op<;>first | rfl | exact absurd rfl h
 have e2:(op==CmpOp.NotIn)=false:=by cases op<;>first | rfl | exact absurd rfl h2
 cases b<;>simp[behindInMarks,e1,e2]
theorem Qz {op:CmpOp} {r:R2} (ho:gP X (compareOp op) r) (ha:PE X a ta) (hb:PE X b tb) (hm:behindInMarks op b=false):PE X (.Compare a [op] [b] pos) (JB r ta tb):=by intro abQ s Y H Q I h;exact wpAny_Compare1 (Mj ha hb I h λv u s2 x y H2 I2 rx ry q=>ho abQ s2 Y H2 x y v u Q I2 rx ry q) hm
def Pj (t:TE):TT:=λY H Q=>t Y H λx H'=>∃k,x=.bl k/\Q k H'
theorem QB {op:CmpOp} {r:R2} (ho:gP X (compareOp op) r) (ha:PE X a ta) (hb:PE X b tb) (hm:behindInMarks op b=false):PT X (.Compare a [op] [b] pos) (Pj (JB r ta tb)):=by
 intro abQ s Y H Q I h;refine wpAny_isTrue_Compare1 (bI (ha abQ s Y H _ I h) λv s1 ⟨x,H1,I1,r1,q1⟩=>bI (hb abQ s1 Y H1 _ I1 q1) λu s2 ⟨y,H2,I2,r2,q2⟩=>
  bI (ho abQ s2 Y H2 x y v u _ I2 r1 r2 q2) λc s3 ⟨z,H3,I3,r3,k,e,q3⟩=>?_) hm
 subst e;cases r3;exact wpAny_truthy_bool ⟨H3,I3,q3⟩
def Ml (K:FG) (x:V) (H:Hp) (k:Bool):Prop:=
 match x with
 | .non=>k=false
 | .bl b=>k=b
 | .int i=>k=(i != 0)
 | .str y=>y.length<=sizeLine/\k=((y.length:Int) != 0)
 | .byt y=>y.size<=sizeLine/\k=((y.size:Int) != 0)
 | .ref p=>(∃xs,bJ K H p xs/\k=!xs.isEmpty)\/(∃xs,cg K H p xs/\k=!xs.isEmpty)\/∃kvs,H p=some (.dK kvs)/\k=!kvs.isEmpty
 | _=>False
theorem HR {κ:Type} {kvs:List (κ×V)} {vs:List (κ×Value)} (r:KV kvs vs):(!vs.isEmpty)=!kvs.isEmpty:=by cases r<;>rfl
theorem wI {xs:List V} {its:List Value} (r:Vals xs its):(!its.toArray.isEmpty)=!xs.isEmpty:=by cases r<;>simp
theorem qz:(sizeLine:Nat)<2 ^ 63:=by rw[sizeLine_eq]; decide
theorem TV:Xr X (λx H Q=>∃k,Ml X.K x H k/\Q k H):=by
 intro abQ s Y H x v Q I rx h;obtain⟨k,e,q⟩:=h;have hl:=qz;have hs:sizeLine=16777216:=sizeLine_eq;cases x with
 | non=>
  cases rx;have e':k=false:=e;subst e';exact truthy_none ⟨H,I,q⟩
 | bl b=>
  cases rx;have e':k=b:=e;subst e';exact wpAny_truthy_bool ⟨H,I,q⟩
 | int i=>
  obtain⟨t,rfl⟩:=rx;have e':k=(i != 0):=e;subst e';exact PySem.P.truthy_int ⟨H,I,q⟩
 | str y=>
  obtain⟨t,rfl⟩:=rx;obtain⟨hy,e'⟩:y.length<=sizeLine/\k=((y.length:Int) != 0):=e;subst e';exact PySem.P.truthy_str (by omega) ⟨H,I.tok _,q⟩
 | byt y=>
  obtain⟨t,rfl⟩:=rx;obtain⟨hy,e'⟩:y.size<=sizeLine/\k=((y.size:Int) != 0):=e;subst e';exact W.truthy_bytes (by omega) ⟨H,I.tok _,q⟩
 | ref p=>
  cases rx;have e':(∃xs,bJ X.K H p xs/\k=!xs.isEmpty)\/(∃xs,cg X.K H p xs/\k=!xs.isEmpty)\/∃kvs,H p=some (.dK kvs)/\k=!kvs.isEmpty:=e;rcases e' with ⟨xs,hx,e'⟩ | ⟨xs,hx,e'⟩ | ⟨kvs,hx,e'⟩
  . subst e';obtain⟨its,r,pl,hz⟩:=I.list hx;have hlen:=r.length;exact wpAny_truthy_list pl.isList (by simp only[YM]; omega) ⟨H,I.tok _,by rw[wI r]; exact q⟩
  . subst e';obtain⟨its,r,pl,hz⟩:=I.tuple hx;have hlen:=r.length;exact truthy_tuple pl (by simp only[YM]; omega) ⟨H,I.tok _,by rw[wI r]; exact q⟩
  . subst e';obtain⟨hz,hS,vs,r,m⟩:kvs.length<=sizeLine/\(p==sysModules)=false/\∃vs,KV kvs vs/\s.heap.DictOf (bT X.prog X.w) p vs:=I.hok p _ hx;have hlen:kvs.length=vs.length:=Paired.length r;exact wpAny_truthy_dict hS m (by omega) ⟨H,I.tok _,by rw[HR r]; exact q⟩
 | _=>exact(show False from e).elim
theorem Mm (ha:PE X a ta) (he:∀whole,isTrue a X.env whole=(do let v <-whole; standAt a.pos; holding [v] (truthy v))):
 PT X a (λY H Q=>ta Y H λx H'=>∃k,Ml X.K x H' k/\Q k H'):=by
 intro abQ s Y H Q I h;exact isTrue_plain (bI (ha abQ s Y H _ I h) λv s1 ⟨x,H1,I1,r1,q1⟩=>TV abQ s1 Y H1 x v Q I1 r1 q1) (he _)
theorem HS:gP X (binaryOp .Add) (λx y H Q=>∃i j,x=.str i/\y=.str j/\i.length+j.length<=sizeLine/\Q (.str (i++j)) H):=by intro abQ s Y H x y v u Q I rx ry h;obtain⟨i,j,rfl,rfl,hz,q⟩:=h;obtain⟨t,rfl⟩:=rx;obtain⟨t',rfl⟩:=ry;exact add_str (λt' tk=>⟨.str (i++j),H,I.tok _,⟨_,rfl⟩,q⟩) hz
theorem vals1 {x:V} {us:List Value} (r:Vals [x] us):∃u,us=[u]/\RelV x u:=by
 cases r with
 | cons r1 r2=>cases r2; exact⟨_,rfl,r1⟩
theorem vals2 {x y:V} {us:List Value} (r:Vals [x,y] us):∃u w',us=[u,w']/\RelV x u/\RelV y w':=by
 cases r with
 | cons r1 r2=>
  cases r2 with
  | cons r3 r4=>cases r4; exact⟨_,_,rfl,r1,r3⟩
theorem oE:jx X (.type "str") (λxs H Q=>∃i,xs=[.int i]/\i.natAbs.log2<1920/\Q (.str (toString i)) H):=by intro abQ s Y H xs us Q I r h;obtain⟨i,rfl,hz,q⟩:=h;obtain⟨u,rfl,t,rfl⟩:=vals1 r;exact PySem.P.str_of_int hz ⟨.str _,H,I.tok _,⟨_,rfl⟩,q⟩
def Mp (K:FG) (x:V) (H:Hp) (n:Nat):Prop:=
 match x with
 | .str y=>y.length<=sizeLine/\n=y.length
 | .byt y=>y.size<=sizeLine/\n=y.size
 | .ref p=>(∃xs,bJ K H p xs/\n=xs.length)\/∃xs,cg K H p xs/\n=xs.length
 | _=>False
theorem oF:jx X (.builtin "len") (λxs H Q=>∃x n,xs=[x]/\Mp X.K x H n/\Q (.int n) H):=by
 intro abQ s Y H xs us Q I r h;obtain⟨x,n,rfl,e,q⟩:=h;obtain⟨u,rfl,rx⟩:=vals1 r;have hl:=qz;have hs:sizeLine=16777216:=sizeLine_eq;cases x with
 | str y=>
  obtain⟨t,rfl⟩:=rx;obtain⟨hy,e'⟩:y.length<=sizeLine/\n=y.length:=e;subst e';exact len_str (by omega) ⟨.int _,H,I.tok _,⟨_,rfl⟩,q⟩
 | byt y=>
  obtain⟨t,rfl⟩:=rx;obtain⟨hy,e'⟩:y.size<=sizeLine/\n=y.size:=e;subst e';exact W.len_bytes (by omega) ⟨.int _,H,I.tok _,⟨_,rfl⟩,q⟩
 | ref p=>
  cases rx;have e':(∃xs,bJ X.K H p xs/\n=xs.length)\/∃xs,cg X.K H p xs/\n=xs.length:=e;rcases e' with ⟨xs,hx,e'⟩ | ⟨xs,hx,e'⟩
  . subst e';obtain⟨its,r',pl,hz⟩:=I.list hx;have hlen:=r'.length;exact Calls.call_len_list pl.isList (by simp only[YM]; omega) ⟨.int xs.length,H,I.tok _,⟨_,by simp only[YM]; rw[hlen]⟩,q⟩
  . subst e';obtain⟨its,r',pl,hz⟩:=I.tuple hx;have hlen:=r'.length;exact len_tuple pl (by simp only[YM]; omega) ⟨.int xs.length,H,I.tok _,⟨_,by simp only[YM]; rw[hlen]⟩,q⟩
 | _=>exact(show False from e).elim
end
structure vN (h:Heap) (x dx C:Addr) (mA:Str->Option Value):Prop where
 obj:h.get? x=some (W.instObj C dx)
 ns:h.Ns1 dx mA
 ne:dx≠x
theorem JD {h:Heap} {dx:Addr} {mA:Str->Option Value} (n:h.Ns1 dx mA):∃od,h.get? dx=some od/\∀name,W.lookIn name od=some (mA name):=by
 obtain⟨o,es,ep,ho,hd,hk,_,hm⟩:=n;refine⟨o,ho,λname=>?_⟩;have e:=hm name;unfold nsFind findBy at e;rw[<-Array.find?_toList]at e;unfold W.lookIn;rw[hd];dsimp only;split
 . rename_i y q;rw[q]at e;exact congrArg some e
 . rename_i q;rw[q]at e;have a:es.toList.any (·.refKey)=false:=by rw[List.any_eq_false];intro y hy;obtain⟨z,t,hkey⟩:=hk y (Array.mem_toList_iff.mp hy);simp[DictEntry.refKey,hkey]
   have a':¬ es.toList.any (·.refKey)=true:=by rw[a]; exact ZD
   rw[aaO a'];exact congrArg some e
theorem vN.look {h:Heap} {x dx C:Addr} {mA:Str->Option Value} (I:vN h x dx C mA):∃od,W.InstAt h x (W.instObj C dx) C (some od)/\∀name,W.lookIn name od=some (mA name):=
 let ⟨od,ho,hl⟩:=JD I.ns
 ⟨od,⟨I.obj,rfl,rfl,ho⟩,hl⟩
section
variable {prog:Program} {w:World} {A:Around} {E:Value->Shared->Prop} {s:Shared} {K:FG} {x dx C f:Addr} {mA:Str->Option Value} {name:Str} {v:Value}
theorem QC {expr:Bool} {Q:Value->Shared->Prop} (X:K.In s.heap) (I:vN s.heap x dx C mA) (hg:W.plainGet K C name=true) (hh:W.hasDictIn K C=true)
 (ha:W.findIn K (.ref C) name=some none) (hv:mA name=some v) (hv':W.handedIn v=true) (h:Q v { s with toks:=s.toks+1 }):
 wpAny (model prog w) A (getAttr (.ref x) name expr) Q E s:=by
 obtain⟨od,J,hl⟩:=I.look;exact W.get_value X J (W.plainGet_of hg).1 (W.findObj_own hh ha rfl (by rw[hl,hv])) hv' h
theorem Mq {pl:Sem Bool} {Q:Value×List Value->Shared->Prop} (X:K.In s.heap) (I:vN s.heap x dx C mA) (hg:W.plainGet K C name=true)
 (hf:W.findIn K (.ref C) name=some (some (.ref f))) (ht:W.isFn K (.ref f)=true) (hv:mA name=none) (h:Q (.ref f,[.ref x]) s):
 wpAny (model prog w) A (getMethod (.ref x) name pl) Q E s:=by
 obtain⟨od,J,hl⟩:=I.look;exact W.method_fn X J (W.plainGet_of hg).1 (W.plainGet_of hg).2 hf (beq_iff_eq.mp ht) (by show (W.lookIn name od).map (·.isSome)=some false; rw[hl,hv]; rfl) h
theorem QD {ns:List Str} {Q:Unit->Shared->Prop} (X:K.In s.heap) (I:vN s.heap x dx C mA)
 (hs:W.findIn K (.ref C) "__setattr__" = some (some (.builtin "object.__setattr__"))) (hp:W.plainOver K C=true) (ht:W.takerIn K C name=some none) (hh:W.hasDictIn K C=true)
 (hw:PySem.Within mA ns) (hsz:ns.length<=sizeLine)
 (h:∀h',vN h' x dx C (λy=>if y=name then some v else mA y)->Heap.SameBut dx s.heap h'->Q () { s with heap:=h',toks:=s.toks+2 }):
 wpAny (model prog w) A (setAttr (.ref x) name v) Q E s:=by
 obtain⟨od,J,hl⟩:=I.look;refine W.set_plain X J hs (W.osa_open (s:={ s with toks:=s.toks+1 }) (r:=none) X J hp ht λb=>?_);obtain⟨cd,hc,hd'⟩:=W.any_some hh;have hx:s.heap.get? x=some ⟨.ref C,some dx,.plain,#[]⟩:=I.obj;refine aaM (aaP (aaM (aaM (wpAny_loadPart hx (aaM (W.Looks.here (s:={ s with toks:=s.toks+1 }) (W.looks_clsIn X hc) ?_))))));rw[hd'];refine aaP (a:=some dx) (aaM (aaP (aaM ?_)));refine wpAny_nsSet1 (s:={ s with toks:=s.toks+1 }) I.ns λh' hn2 hs2=>?_;obtain⟨oD,esD,epD,hoD,hdD,hcD⟩:=hn2.count (PySem.Within.cons name v hw);refine aaM (wpAny_lookBehind hoD (by rw[hdD]; exact pastItsLine_dict (Zc hcD (by rw[Yy]; omega))) ?_);exact aaP (h _ ⟨(hs2.2 _ (Ne.symm I.ne)).trans I.obj,hn2,I.ne⟩ hs2)
theorem Mr {R:Result->Shared->Prop} {vs:List Value} {kw:List (Str×Value)} (X:K.In s.heap) (hm:W.makesIn K C=true)
 (hi:W.findIn K (.ref C) "__init__" = some (some (.ref f))) (hf:W.typeIn K (.ref f)=some (.type "function"))
 (h:codeAny (model prog w) (A.under (.builtin "type.__call__" ⟨.ref C::vs,kw⟩)) (.call (.ref f) ⟨.ref (s.heap.objs.size+1)::vs,kw⟩) (W.InitBack (s.heap.objs.size+1) R)
   { s with heap:=(s.heap.push W.emptyDict).push (W.instObj C s.heap.objs.size) }):
 codeAny (model prog w) A (.call (.ref C) ⟨vs,kw⟩) R s:=by
 obtain⟨hh,g,d,t,os⟩:=s;exact W.make_core (W.makes_of X hm) (W.looks_findIn X hi) (λself=>W.bind_fn X self hf) (.inl rfl) h
end
def gK (f:Str) (v:V):List (Str×V)->List (Str×V)
 | []=>[(f,v)]
 | (g,x)::r=>if g=f then (g,v)::r else (g,x)::gK f v r
theorem vq (f g:Str) (v:V):∀fs:List (Str×V),(gK f v fs).lookup g=if g=f then some v else fs.lookup g
 | []=>by
  show List.lookup g [(f,v)]=_;by_cases h:g=f
  . have hb:(g==f)=true:=beq_iff_eq.mpr h;simp only[List.lookup,hb,aaN h]
  . have hb:(g==f)=false:=aaS.mpr h;simp only[List.lookup,hb,aaO h]
 | (k,x)::r=>by
  have ih:=vq f g v r;rw[show gK f v ((k,x)::r)=(if k=f then (k,v)::r else (k,x)::gK f v r) from rfl];by_cases hk:k=f
  . rw[aaN hk];by_cases h:g=k
    . have hb:(g==k)=true:=beq_iff_eq.mpr h;simp only[List.lookup,hb,aaN (h.trans hk)]
    . have hb:(g==k)=false:=aaS.mpr h;simp only[List.lookup,hb,aaO (λe:g=f=>h (e.trans hk.symm))]
  . rw[aaO hk];by_cases h:g=k
    . have hb:(g==k)=true:=beq_iff_eq.mpr h;simp only[List.lookup,hb,aaO (λe:g=f=>hk (h.symm.trans e))]
    . have hb:(g==k)=false:=aaS.mpr h;simp only[List.lookup,hb];exact ih
theorem tL (f:Str) (v:V):∀fs:List (Str×V),f∈(gK f v fs).map (·.1)/\∀g,g∈fs.map (·.1)->g∈(gK f v fs).map (·.1)
 | []=>⟨by simp[gK],λg h=>by simp at h⟩
 | (k,x)::r=>by
  obtain⟨i1,i2⟩:=tL f v r;rw[show gK f v ((k,x)::r)=(if k=f then (k,v)::r else (k,x)::gK f v r) from rfl];by_cases hk:k=f
  . rw[aaN hk];subst hk;exact⟨by simp,λg h=>by simpa using h⟩
  . rw[aaO hk];refine⟨?_,λg h=>?_⟩
    . rw[YW];exact YG _ i1
    . rw[YW]at h ⊢;rcases YF.mp h with e | e
      . exact YF.mpr (.inl e)
      . exact YG _ (i2 g e)
theorem vy (f:Str) (v:V):∀fs:List (Str×V),(gK f v fs).length<=fs.length+1
 | []=>by simp[gK]
 | (k,x)::r=>by
  have ih:=vy f v r;rw[show gK f v ((k,x)::r)=(if k=f then (k,v)::r else (k,x)::gK f v r) from rfl];by_cases hk:k=f
  . rw[aaN hk,Yy,Yy]; omega
  . rw[aaO hk,Yy,Yy]; omega
theorem lJ.some_of {v:V} {o:Option Value} (r:lJ (some v) o):∃u,o=some u/\RelV v u:=by
 cases o with
 | none=>exact(show False from r).elim
 | some u=>exact⟨u,rfl,r⟩
theorem lJ.none_of {o:Option Value} (r:lJ none o):o=none:=by
 cases o with
 | none=>rfl
 | some u=>exact(show False from r).elim
theorem JF {v:V} {u:Value} (r:RelV v u):W.handedIn u=true:=by
 cases v with
 | non=>cases (show u=Value.none from r); rfl
 | bl b=>cases (show u=Value.bool b from r); rfl
 | int i=>obtain⟨t,e⟩:=(show ∃t,u=Value.int i t from r); cases e; rfl
 | str x=>obtain⟨t,e⟩:=(show ∃t,u=Value.str x t from r); cases e; rfl
 | byt b=>obtain⟨t,e⟩:=(show ∃t,u=Value.bytes b t from r); cases e; rfl
 | flt b=>obtain⟨t,e⟩:=(show ∃t,u=Value.float b t from r); cases e; rfl
 | ref a=>cases (show u=Value.ref a from r); rfl
 | ty n=>cases (show u=Value.type n from r); rfl
section
variable {P:Program} {w:World} {H H':Hp} {h h':Heap} {a C dx:Addr} {fs fs':List (Str×V)}
theorem yg (hok:gF P w H h) (e:H a=some (.ins C dx fs)):∃mA,vN h a dx C mA/\(∀f,lJ (fs.lookup f) (mA f))/\PySem.Within mA (fs.map (·.1))/\fs.length<=1000/\H dx=some (.own a):=by obtain⟨d,z,ne,ob,mA,n,r,q⟩:=(show cU P w H h a (.ins C dx fs) from hok a _ e);exact⟨mA,⟨ob,n,ne⟩,r,q,z,d⟩
end
structure tM (K:FG) (C:Addr):Prop where
 pg:W.plainGet K C Str.empty=true
 hd:W.hasDictIn K C=true
 po:W.plainOver K C=true
 sa:W.findIn K (.ref C) "__setattr__" = some (some (.builtin "object.__setattr__"))
theorem tM.get {K:FG} {C:Addr} (c:tM K C) (f:Str):W.plainGet K C f=true:=c.pg
def iV (K:FG) (C:Addr) (f:Str):Prop:=W.findIn K (.ref C) f=some none
theorem iV.taker {K:FG} {C:Addr} {f:Str} (n:iV K C f):W.takerIn K C f=some none:=by unfold W.takerIn;rw[show W.findIn K (.ref C) f=some none from n];rfl
structure Meth (K:FG) (C:Addr) (m:Str) (f:Addr):Prop where
 at_:W.findIn K (.ref C) m=some (some (.ref f))
 fn:W.isFn K (.ref f)=true
 kp:W.keepIn K (.ref f)=true
section
variable {X:Cx} {abQ:List (Addr×Obj)} {Y:St} {H:Hp} {s:Shared} {a C dx:Addr} {fs:List (Str×V)} {f:Str} {v:V} {A:Around} {E:Value->Shared->Prop}
theorem HW {b:Bool} {Q:Value->Shared->Prop} (I:Inv X abQ Y H s) (e:H a=some (.ins C dx fs)) (c:tM X.K C) (n:iV X.K C f) (l:fs.lookup f=some v)
 (h:∀u s',Inv X abQ Y H s'->RelV v u->Q u s'):wpAny (model X.prog X.w) A (getAttr (.ref a) f b) Q E s:=by
 obtain⟨mA,O,r,_,_,_⟩:=yg I.hok e;obtain⟨u,hu,ru⟩:=lJ.some_of (v:=v) (o:=mA f) (by rw[<-l]; exact r f);exact QC I.kIn O (c.get f) c.hd n hu (JF ru) (h u _ (I.tok _) ru)
theorem qZ {m:Str} {g:Addr} {pl:Sem Bool} {Q:Value×List Value->Shared->Prop} (I:Inv X abQ Y H s) (e:H a=some (.ins C dx fs)) (c:tM X.K C) (k:Meth X.K C m g) (l:fs.lookup m=none)
 (h:Q (.ref g,[.ref a]) s):wpAny (model X.prog X.w) A (getMethod (.ref a) m pl) Q E s:=by
 obtain⟨mA,O,r,_,_,_⟩:=yg I.hok e;have hn:mA m=none:=lJ.none_of (by rw[<-l]; exact r m);exact Mq I.kIn O (c.get m) k.at_ k.fn hn h
theorem HX {y:V} {u:Value} {Q:Unit->Shared->Prop} (I:Inv X abQ Y H s) (e:H a=some (.ins C dx fs)) (c:tM X.K C) (n:iV X.K C f) (hl:fs.length<1000) (ry:RelV y u)
 (h:∀s',Inv X abQ Y (upd H a (.ins C dx (gK f y fs))) s'->Q () s'):wpAny (model X.prog X.w) A (setAttr (.ref a) f u) Q E s:=by
 obtain⟨mA,O,r,wi,_,ho⟩:=yg I.hok e;have hz:(fs.map (·.1)).length<=sizeLine:=by rw[YH,sizeLine_eq]; omega
 refine QD I.kIn O c.sa c.po n.taker c.hd wi hz λh' O' sb=>h _ ?_;have hd:∃o,h'.get? dx=some o:=let ⟨o,_,_,e',_⟩:=O'.ns; ⟨o,e'⟩;refine I.write (x:=a) (e:=dx) (by rw[e]; exact True.intro) (.inr ho) (λb q hb z=>(sb.2 b hb).trans z) hd ?_;refine⟨by rw[bM O.ne]; exact ho,?_,O.ne,O'.obj,_,O'.ns,λg=>?_,λg hg=>?_⟩
 . have:=vy f y fs; omega
 . show lJ ((gK f y fs).lookup g) (if g=f then some u else mA g);rw[vq];by_cases q:g=f
   . rw[aaN q,aaN q]; exact ry
   . rw[aaO q,aaO q]; exact r g
 . by_cases q:g=f
   . rw[q]; exact(tL f y fs).1
   . refine(tL f y fs).2 g (wi g λz=>hg ?_);show (if g=f then some u else mA g)=none;rw[aaO q]; exact z
theorem Inv.made (I:Inv X abQ Y H s):Inv X abQ Y (upd (upd H s.heap.objs.size (.own (s.heap.objs.size+1))) (s.heap.objs.size+1) (.ins C s.heap.objs.size []))
 { s with heap:=(s.heap.push W.emptyDict).push (W.instObj C s.heap.objs.size) }:=by
 have e1:(s.heap.push W.emptyDict).get? s.heap.objs.size=some W.emptyDict:=YT s.heap rfl;have e2:((s.heap.push W.emptyDict).push (W.instObj C s.heap.objs.size)).get? (s.heap.objs.size+1)=some (W.instObj C s.heap.objs.size):=by
  have:=YT (s.heap.push W.emptyDict) (o:=W.instObj C s.heap.objs.size) rfl
  rwa [Z7]at this
 have e3:(s.heap.push W.emptyDict).Ns s.heap.objs.size (λ_=>none):=⟨W.emptyDict,#[],_,e1,rfl,(λe he=>absurd he (by simp)),λ_=>rfl⟩;have I1:=I.laid (a:=s.heap.objs.size) (o:=.own (s.heap.objs.size+1)) (h':=s.heap.push W.emptyDict) (t':=s.toks) (λb u q=>YD _ q) (YC _) ⟨_,e1⟩;refine I1.laid (a:=s.heap.objs.size+1) (o:=.ins C s.heap.objs.size []) (t':=s.toks) (λb u q=>YD _ q) (Nat.le_of_eq (Z7 _ _)) ?_;have ne:s.heap.objs.size≠s.heap.objs.size+1:=Zb (Z4 _);refine⟨by rw[bM ne,aW],Zj _,ne,e2,λ_=>none,(Heap.Ns1.of_empty e3).at λo q=>YD _ q,λ_=>True.intro,λy hy=>absurd rfl hy⟩
theorem QF {prog:Program} {env:Env} {e:Expr} {f:Str} {pos:Pos} {Q:Value->Shared->Prop} (hb:attributeBase e f env (eval e env)=eval e env)
 (h:wpAny (model prog w) A (eval e env) (λo s₁=>wpAny (model prog w) A (getAttr o f true) Q E s₁) E s):wpAny (model prog w) A (eval (.Attribute e f pos) env) Q E s:=
 Attribute_any_ h (by rw[arm_eval_Attribute,hb])
end
def Xu (K:FG) (ta:TE) (f:Str):TE:=λY H Q=>ta Y H λx H1=>∃a C dx fs v,x=.ref a/\H1 a=some (.ins C dx fs)/\tM K C/\iV K C f/\fs.lookup f=some v/\Q v H1
def Xv (K:FG) (ta tv:TE) (f:Str):TS:=λD Y H=>tv Y H λy H1=>ta Y H1 λx H2=>∃a C dx fs,x=.ref a/\H2 a=some (.ins C dx fs)/\tM K C/\iV K C f/\fs.length<1000/\
 D.nx Y (upd H2 a (.ins C dx (gK f y fs)))
section
variable {X:Cx} {o e value:Expr} {f:Str} {pos pos' tpos:Pos} {ta tv:TE}
theorem TX (he:PE X e ta) (hb:attributeBase e f X.env (eval e X.env)=eval e X.env):PE X (.Attribute e f pos) (Xu X.K ta f):=by intro abQ s Y H Q I h;refine QF hb (bI (he abQ s Y H _ I h) λu s1 zqz=>?_);obtain⟨x,H1,I1,rx,a,C,dx,fs,v,ex,ea,c,n,l,q⟩:=zqz;subst ex;obtain rfl:u=Value.ref a:=rx;exact HW I1 ea c n l λu' s2 I2 ru=>⟨v,H1,I2,ru,q⟩
theorem TY (ha:PE X o ta) (hv:PE X value tv) (hs:swapsWith value (some (.Attribute o f pos')) pos.line X.env=pure false):PS X (.Assign [.Attribute o f pos'] value pos) (Xv X.K ta tv f):=by intro abQ s Y H D I h;refine plainObj_wpAny_Assign_Attribute (bI (hv abQ s Y H _ I h) λu s1 ⟨y,H1,I1,ry,q⟩=>bI (ha abQ s1 Y H1 _ I1 q) λov s2 ⟨x,H2,I2,rx,a,C,dx,fs,ex,ea,c,n,l,q2⟩=>?_) hs;subst ex;obtain rfl:ov=Value.ref a:=rx;exact HX I2 ea c n l ry λs3 I3=>⟨Y,_,I3,q2⟩
def Ms:V->V->Hp->VK->Prop:=λx y H Q=>∃i j,x=.int i/\y=.int j/\Q (.int (i+j)) H
theorem Wc {pl:Sem Bool} {m:Str} {apos:Pos} {args:List Expr} {Y:St} {H:Hp} {Q:Value->Shared->Prop} {te:TE} (he:PE X e te) (I:Inv X abQ Y H s)
 (h:te Y H λx H1=>∃a C dx fs g,x=.ref a/\H1 a=some (.ins C dx fs)/\tM X.K C/\Meth X.K C m g/\fs.lookup m=none/\
   ∀s1,Inv X abQ Y H1 s1->wpAny (model X.prog X.w) X.A (callWith pos (.ref g) [.ref a] (backTo pos (starEach args X.env)) (backToKw pos (keywordEach [] X.env))) Q X.xe s1)
 (ht:eval (.Call (.Attribute e m apos) args [] pos) X.env=(do
   let ov <-eval e X.env
   standAt apos.atName
   let (f,first) <-holding [ov] (getMethod ov m pl)
   callWith pos f first (backTo pos (starEach args X.env)) (backToKw pos (keywordEach [] X.env)))):
 wpAny (model X.prog X.w) X.A (eval (.Call (.Attribute e m apos) args [] pos) X.env) Q X.xe s:=by
 refine aaL (pl:=pl) (bI (he abQ s Y H _ I h) λu s1 ⟨x,H1,I1,rx,a,C,dx,fs,g,ex,ea,c,k,l,q⟩=>?_) ht
 subst ex
 obtain rfl:u=Value.ref a:=rx
 exact qZ I1 ea c k l (q s1 I1)
end
section
variable {X:Cx} {abQ:List (Addr×Obj)} {Y:St} {H:Hp} {s:Shared} {A:Around} {E:Value->Shared->Prop} {Q:Value->Shared->Prop} {c:Value} {b:Bool}
end
structure dO (b:Bool) (k:Nat) (A:Around):Prop where
 hd:b=true->A.handled=none
 dp:A.depth+3*k+5<recursionLimit
 un:A.units+16*k+200<cLine
 gd:A.guards=some []
abbrev ni:=dO true
theorem dO.mono {b:Bool} {j k:Nat} (r:dO b k A) (h:j<=k):dO b j A:=⟨r.hd,by have:=r.dp; omega,by have:=r.un; omega,r.gd⟩
theorem dO.deeper {b:Bool} {k:Nat} (r:dO b (k+1) A) (env:Env):dO b k (A.deeper env):=
 ⟨r.hd,by have:=r.dp; show A.depth+1+3*k+5<_; omega,by have:=r.un; show A.units+3+16*k+200<_; omega,r.gd⟩
theorem HY {C:Addr} {us:List Value} {kw:List (Str×Value)}:(A.under (.builtin "type.__call__" ⟨.ref C::us,kw⟩)).depth=A.depth+1:=by
 first | rfl | simp[Around.under,Code.weight,Code.isCreation,Code.isGuard,Code.isCaller,Code.frames,Code.isFrame,guardIds]
theorem Ia {C:Addr} {us:List Value} {kw:List (Str×Value)}:(A.under (.builtin "type.__call__" ⟨.ref C::us,kw⟩)).units=A.units+1:=by
 first | rfl | simp[Around.under,Code.cUnits,Code.frames,Code.isFrame]
theorem dO.make {b:Bool} {k:Nat} (r:dO b (k+1) A) (C:Addr) (us:List Value) (kw:List (Str×Value)):dO b k (A.under (.builtin "type.__call__" ⟨.ref C::us,kw⟩)):=
 ⟨r.hd,by have:=r.dp; rw[HY]; omega,by have:=r.un; rw[Ia]; omega,by first | exact r.gd | (simpa [Around.under,Code.isGuard,guardIds] using r.gd)⟩
theorem dO.depth {b:Bool} {k:Nat} (r:dO b k A):A.depth<recursionLimit:=by have:=r.dp; omega
theorem dO.units {b:Bool} {k:Nat} (r:dO b k A):A.units+64<cLine:=by have:=r.un; omega
def Bj:TA:=λ_ H Q=>Q [] H
def wJ (ta:TE) (tr:TA):TA:=λY H Q=>ta Y H λx H1=>tr Y H1 λxs H2=>Q (x::xs) H2
section
variable {X:Cx} {e:Expr} {es:List Expr} {te:TE} {t:TA} {pos:Pos}
theorem wK:PA X [] Bj:=λ_ _ _ _ H Q I h=>Calls.spliced_nil ⟨[],H,I,.nil,h⟩
theorem qC (ha:PE X e te) (hr:PA X es t) (hs:starEach (e::es) X.env=(false,eval e X.env)::starEach es X.env:=by rfl):PA X (e::es) (wJ te t):=by intro pos abQ s Y H Q I h;rw[hs];show wpAny _ _ (spliced ((false,eval e X.env)::backTo pos (starEach es X.env))) _ _ s;refine Calls.spliced_cons (bI (ha abQ s Y H _ I h) λu s1 zqz=>?_);obtain⟨x,H1,I1,r1,q1⟩:=zqz;exact bI (hr pos abQ s1 Y H1 _ I1 q1) λus s2 ⟨xs,H2,I2,r2,q2⟩=>⟨x::xs,H2,I2,.cons r1 r2,q2⟩
def Xw (t:TA):TE:=λY H Q=>t Y H λxs H1=>xs.length<=sizeLine/\∀p,H1 p=none->Q (.ref p) (upd H1 p (.tup xs))
def Xx (t:TA):TE:=λY H Q=>t Y H λxs H1=>xs.length<=sizeLine/\∀p,H1 p=none->Q (.ref p) (upd H1 p (.lst xs))
theorem T3 {x1} (h:PA X es t):PE X (.Tuple es x1 pos) (Xw t):=by intro abQ s Y H Q I hq;refine wpAny_Tuple_spliced (bI (h pos abQ s Y H _ I hq) λus s1 ⟨xs,H1,I1,r,z,q⟩=>⟨by rw[<-r.length]; exact z,?_⟩);have hf:H1 s1.heap.objs.size=none:=I1.hok.fresh (YC _);refine⟨.ref s1.heap.objs.size,upd H1 s1.heap.objs.size (.tup xs),I1.laid (t':=s1.toks) (λb u e=>YD _ e) (YC _) ?_,rfl,q _ hf⟩;exact⟨z,us,r,⟨_,YT _ rfl,rfl,_,rfl⟩⟩
theorem T4 (h:PA X es t):PE X (.List es pos) (Xx t):=by intro abQ s Y H Q I hq;refine wpAny_List_spliced (bI (h pos abQ s Y H _ I hq) λus s1 ⟨xs,H1,I1,r,z,q⟩=>⟨by rw[<-r.length]; exact z,?_⟩);have hf:H1 s1.heap.objs.size=none:=I1.hok.fresh (YC _);refine⟨.ref s1.heap.objs.size,upd H1 s1.heap.objs.size (.lst xs),I1.laid (t':=s1.toks) (λb u e=>YD _ e) (YC _) ?_,rfl,q _ hf⟩;exact⟨z,us,0,r,YT _ rfl⟩
end
abbrev Sp:=List V->Hp->VK->XK->Prop
abbrev sJ:=List Env->Hp->Shared->XK->Value->Shared->Prop
structure vO (P:Program) (w:World) (K:FG) (mg:Str->Option Value) (base:Heap) (A:Around) (outer:List Env) (s:Shared) (H:Hp):Prop where
 frames:A.frames=some outer
 mod:Mod K mg base
 bs:∀b o,base.get? b=some o->s.heap.get? b=some o/\H b=none
 bsz:base.objs.size<=s.heap.objs.size
 funs:s.heap.FunFrames base outer
 frf:∀b∈frs outer,H b=none
 hok:gF P w H s.heap
 bare:AllBare s.gens
def CE (outer:List Env) (P:Program) (w:World) (H:Hp) (s:Shared) (Q:VK) (u:Value) (s':Shared):Prop:=
 ∃v H',s'.os=s.os/\AllBare s'.gens/\Un (frs outer) [] H H' s.heap s'.heap/\gF P w H' s'.heap/\RelV v u/\Q v H'
def CR (CX:sJ) (outer:List Env) (P:Program) (w:World) (H:Hp) (s:Shared) (Q:VK) (E:XK) (r:Result) (s':Shared):Prop:=
 match r with
 | .ok (.ret u)=>CE outer P w H s Q u s'
 | .ok _=>False
 | .error e=>CX outer H s E e s'
structure nJ (b:Bool) (P:Program) (w:World) (K:FG) (mg:Str->Option Value) (base:Heap) (CX:sJ) (k:Nat) (f:Addr) (fd:FuncData) (ps:List Str) (sp:Sp):Prop where
 len:∀vs H Q E,sp vs H Q E->vs.length=ps.length
 run:∀(A:Around) (outer:List Env) (s:Shared) (H:Hp) (args:Args) (us:List Value) (vs:List V) (Q:VK) (E:XK),dO b k A->vO P w K mg base A outer s H->BindsTo s fd args (ps.zip us)->Vals vs us->sp vs H Q E->
  codeAny (model P w) A (.call (.ref f) args) (CR CX outer P w H s Q E) s
abbrev j4:=nJ true
theorem nJ.imp {b:Bool} {K:FG} {mg:Str->Option Value} {base:Heap} {CX:sJ} {k:Nat} {f:Addr} {fd:FuncData} {ps:List Str} {sp sp':Sp} (F:nJ b P w K mg base CX k f fd ps sp)
 (h:∀vs H Q E,sp' vs H Q E->sp vs H Q E):nJ b P w K mg base CX k f fd ps sp':=
 ⟨λvs H Q E q=>F.len vs H Q E (h _ _ _ _ q),λA outer s H args us vs Q E hr he hb hv hs=>F.run A outer s H args us vs Q E hr he hb hv (h _ _ _ _ hs)⟩
theorem vO.make {K:FG} {mg:Str->Option Value} {base:Heap} {outer:List Env} {H:Hp} (e:vO P w K mg base A outer s H) (C:Addr) (us:List Value) (kw:List (Str×Value)):
 vO P w K mg base (A.under (.builtin "type.__call__" ⟨.ref C::us,kw⟩)) outer s H:=⟨by first | exact e.frames | (simpa [Around.under,Code.envs,Code.isFrame,pushEnvs] using e.frames),e.mod,e.bs,e.bsz,e.funs,e.frf,e.hok,e.bare⟩
section
variable {X:Cx} {abQ:List (Addr×Obj)} {Y:St} {H:Hp} {s s':Shared}
theorem Inv.env0 (I:Inv X abQ Y H s):vO X.prog X.w X.K X.mg X.base X.A X.stack s H:=
 ⟨I.ok.frames,I.ok.mod,I.bs,Zc I.ok.bsz I.sz,I.stack,I.stkFree,I.hok,I.bare⟩
theorem Inv.after {Q:VK} {u:Value} (I:Inv X abQ Y H s) (h:CE X.stack X.prog X.w H s Q u s'):EP X abQ Y Q u s':=by obtain⟨v,H',os,bare,un,hok,r,q⟩:=h;obtain⟨hh,g,d,t,os'⟩:=s';obtain rfl:os'=s.os:=os;exact⟨v,H',I.call (h':=hh) (g':=g) (d':=d) (t':=t) (ch:=[]) un hok bare (λb z=>absurd z (by simp)),r,q⟩
end
def Pk (sp:Sp) (dvs:List V) (E:XK) (t:TA):TE:=λY H Q=>t Y H λvs H1=>sp (vs++dvs) H1 Q E
def Ib (C:Addr) (m:Str) (sp:Sp) (dvs:List V) (E:XK) (ta:TE) (t:TA):TE:=λY H Q=>ta Y H λx H1=>∃a dx fs,x=.ref a/\H1 a=some (.ins C dx fs)/\fs.lookup m=none/\
 t Y H1 λvs H2=>sp (x::(vs++dvs)) H2 Q E
def Pn (C:Addr) (sp:Sp) (dvs:List V) (E:XK) (t:TA):TE:=λY H Q=>t Y H λvs H1=>∀x dx,H1 x=none->H1 dx=none->dx≠x->
 sp (.ref x::(vs++dvs)) (upd (upd H1 dx (.own x)) x (.ins C dx [])) (λv H2=>v=.non/\Q (.ref x) H2) E
def Binds (K:FG) (fd:FuncData) (ps:List Str) (ds:List Value):Prop:=
 ∀(s:Shared) (us:List Value),K.In s.heap->(us++ds).length=ps.length->BindsTo s fd ⟨us,[]⟩ (ps.zip (us++ds))
theorem Binds.all {K:FG} {fd:FuncData} {ps:List Str} (h:∀us:List Value,us.length=ps.length->bindArgs fd ⟨us,[]⟩=pure (ps.zip us)):Binds K fd ps []:=λs us _ hl=>by rw[Y7_]at hl ⊢;exact .of_eq (h us hl)
def tO (CX:sJ) (X:Cx) (E:XK):Prop:=∀(abQ:List (Addr×Obj)) (Y:St) (H:Hp) (s:Shared) (e:Value) (s':Shared),Inv X abQ Y H s->CX X.stack H s E e s'->X.xe e s'
section
variable {X:Cx} {CX:sJ} {k:Nat} {f C:Addr} {fd:FuncData} {ps:List Str} {sp:Sp} {dvs:List V} {ds:List Value} {E:XK} {x m:Str} {p pos apos:Pos} {e o:Expr} {es:List Expr} {ta:TE} {t:TA}
theorem Bk {b:Bool} {Y:St} {H:Hp} {Q:VK} {us:List Value} {vs:List V} (F:nJ b X.prog X.w X.K X.mg X.base CX k f fd ps sp) (hr:dO b k X.A) (hb:Binds X.K fd ps ds) (hd:Vals dvs ds) (hx:∀H s e s',Inv X abQ Y H s->CX X.stack H s E e s'->X.xe e s')
 (I:Inv X abQ Y H s) (r:Vals vs us) (h:sp (vs++dvs) H Q E):wpAny (model X.prog X.w) X.A (call (.ref f) us) (EP X abQ Y Q) X.xe s:=by
 have r2:Vals (vs++dvs) (us++ds):=r.append hd;have hl:(us++ds).length=ps.length:=by rw[<-r2.length]; exact F.len _ _ _ _ h
 refine wpAny_call (codeAny_mono (F.run X.A X.stack s H ⟨us,[]⟩ (us++ds) (vs++dvs) Q E hr I.env0 (hb s us I.kIn hl) r2 h) λr s' hq=>?_);cases r with
 | error e=>exact hx H s e s' I hq
 | ok fl=>
  cases fl with
  | ret u=>exact I.after hq
  | next=>exact False.elim hq
  | brk=>exact False.elim hq
  | cont=>exact False.elim hq
theorem QG {b:Bool} (F:nJ b X.prog X.w X.K X.mg X.base CX k f fd ps sp) (hr:dO b k X.A) (hg:Gl X x) (hm:X.mg x=some (.ref f)) (hk:W.keepIn X.K (.ref f)=true) (hb:Binds X.K fd ps ds) (hd:Vals dvs ds) (hx:tO CX X E)
 (ha:PA X (e::es) t) (hdb:(x==("__debug__" : Str))=false:=by decide) (he:starEach (e::es) X.env=(false,eval e X.env)::starEach es X.env:=by rfl) (hpl:(backTo pos (starEach es X.env)).any (·.1)=false:=by rfl):
 PE X (.Call (.Name x p) (e::es) [] pos) (Pk sp dvs E t):=by
 intro abQ s Y H Q I h;refine wpAny_Call_Name_kw (Fo I hg hm ?_ hdb);refine W.callWith_K (h₀:=X.base) I.ok.mod.kin hk (bI (ha pos abQ s Y H _ I h) λus s1 ⟨vs,H1,I1,r,q⟩=>⟨I1.kIn,?_⟩) he hpl;exact Bk F hr hb hd (hx _ _) I1 r q
theorem QH {pl:Sem Bool} (he:PE X o ta) (c:tM X.K C) (hm:Meth X.K C m f) (F:j4 X.prog X.w X.K X.mg X.base CX k f fd ps sp) (hr:ni k X.A) (hb:Binds X.K fd ps ds) (hd:Vals dvs ds) (hx:tO CX X E) (ha:PA X (e::es) t)
 (hst:starEach (e::es) X.env=(false,eval e X.env)::starEach es X.env:=by rfl) (hpl:(backTo pos (starEach es X.env)).any (·.1)=false:=by rfl)
 (ht:eval (.Call (.Attribute o m apos) (e::es) [] pos) X.env=(do
   let ov <-eval o X.env
   standAt apos.atName
   let (f,first) <-holding [ov] (getMethod ov m pl)
   callWith pos f first (backTo pos (starEach (e::es) X.env)) (backToKw pos (keywordEach [] X.env))):=by rfl):
 PE X (.Call (.Attribute o m apos) (e::es) [] pos) (Ib C m sp dvs E ta t):=by
 intro abQ s Y H Q I h
 refine aaL (pl:=pl) (bI (he abQ s Y H _ I h) λu s1 ⟨x,H1,I1,rx,a,dx,fs,ex,ea,l,q⟩=>?_) ht
 subst ex
 obtain rfl:u=Value.ref a:=rx
 refine qZ I1 ea c hm l ?_
 refine W.callWith_K (first:=[.ref a]) (h₀:=X.base) I.ok.mod.kin hm.kp (bI (ha pos abQ s1 Y H1 _ I1 q) λus s2 ⟨vs,H2,I2,r,q2⟩=>⟨I2.kIn,?_⟩) hst hpl
 exact Bk (us:=.ref a::us) (vs:=.ref a::vs) F hr hb hd (hx _ _) I2 (.cons rfl r) q2
theorem Mt {pl:Sem Bool} (he:PE X o ta) (c:tM X.K C) (hm:Meth X.K C m f) (F:j4 X.prog X.w X.K X.mg X.base CX k f fd ps sp) (hr:ni k X.A) (hb:Binds X.K fd ps ds) (hd:Vals dvs ds) (hx:tO CX X E)
 (ht:eval (.Call (.Attribute o m apos) [] [] pos) X.env=(do
   let ov <-eval o X.env
   standAt apos.atName
   let (f,first) <-holding [ov] (getMethod ov m pl)
   callWith pos f first (backTo pos (starEach [] X.env)) (backToKw pos (keywordEach [] X.env))):=by rfl):
 PE X (.Call (.Attribute o m apos) [] [] pos) (Ib C m sp dvs E ta Bj):=by
 intro abQ s Y H Q I h
 refine aaL (pl:=pl) (bI (he abQ s Y H _ I h) λu s1 ⟨x,H1,I1,rx,a,dx,fs,ex,ea,l,q⟩=>?_) ht
 subst ex
 obtain rfl:u=Value.ref a:=rx
 refine qZ I1 ea c hm l ?_
 exact W.callWith_K0 (first:=[.ref a]) I1.kIn hm.kp (Bk (us:=[.ref a]) (vs:=[.ref a]) F hr hb hd (hx _ _) I1 (.cons rfl .nil) q)
structure Mk (K:FG) (C f:Addr):Prop where
 makes:W.makesIn K C=true
 init:W.findIn K (.ref C) "__init__" = some (some (.ref f))
 fn:W.isFn K (.ref f)=true
 kp:W.keepIn K (.ref C)=true
theorem Mv {Y:St} {H:Hp} {Q:VK} {us:List Value} {vs:List V} (M:Mk X.K C f) (F:j4 X.prog X.w X.K X.mg X.base CX k f fd ps sp) (hr:ni (k+1) X.A) (hb:Binds X.K fd ps ds) (hd:Vals dvs ds)
 (hx:∀H s e s',Inv X abQ Y H s->CX X.stack H s E e s'->X.xe e s') (I:Inv X abQ Y H s) (r:Vals vs us)
 (h:∀x dx,H x=none->H dx=none->dx≠x->sp (.ref x::(vs++dvs)) (upd (upd H dx (.own x)) x (.ins C dx [])) (λv H2=>v=.non/\Q (.ref x) H2) E):
 wpAny (model X.prog X.w) X.A (call (.ref C) us) (EP X abQ Y Q) X.xe s:=by
 have hq:=h (s.heap.objs.size+1) s.heap.objs.size (I.hok.fresh (Z8 _)) (I.hok.fresh (YC _)) (Zb (Z4 _));have I2:=Inv.made (C:=C) I;have r2:Vals (V.ref (s.heap.objs.size+1)::(vs++dvs)) (Value.ref (s.heap.objs.size+1)::(us++ds)):=.cons rfl (r.append hd);have hl:(Value.ref (s.heap.objs.size+1)::us++ds).length=ps.length:=by have e:=r2.length;rw[F.len _ _ _ _ hq]at e;exact e.symm
 refine wpAny_call (Mr (f:=f) I.kIn M.makes M.init (beq_iff_eq.mp M.fn) (codeAny_mono (F.run _ X.stack _ _ ⟨Value.ref (s.heap.objs.size+1)::us,[]⟩ (Value.ref (s.heap.objs.size+1)::(us++ds)) _ _ E (hr.make C us [])
  (I2.env0.make C us []) (hb _ (Value.ref (s.heap.objs.size+1)::us) I2.kIn hl) r2 hq) λr s' hq'=>?_))
 cases r with
 | error e=>exact hx _ _ e s' I2 hq'
 | ok fl=>
  cases fl with
  | ret u=>
   obtain⟨v,H',I3,rv,ev,q3⟩:=I2.after hq';subst ev;exact⟨rv,⟨V.ref (s.heap.objs.size+1),H',I3,rfl,q3⟩⟩
  | next=>exact False.elim hq'
  | brk=>exact False.elim hq'
  | cont=>exact False.elim hq'
theorem QJ (M:Mk X.K C f) (F:j4 X.prog X.w X.K X.mg X.base CX k f fd ps sp) (hr:ni (k+1) X.A) (hg:Gl X x) (hm:X.mg x=some (.ref C)) (hb:Binds X.K fd ps ds) (hd:Vals dvs ds) (hx:tO CX X E)
 (ha:PA X (e::es) t) (hdb:(x==("__debug__" : Str))=false:=by decide) (he:starEach (e::es) X.env=(false,eval e X.env)::starEach es X.env:=by rfl) (hpl:(backTo pos (starEach es X.env)).any (·.1)=false:=by rfl):
 PE X (.Call (.Name x p) (e::es) [] pos) (Pn C sp dvs E t):=by
 intro abQ s Y H Q I h;refine wpAny_Call_Name_kw (Fo I hg hm ?_ hdb);refine W.callWith_K (h₀:=X.base) I.ok.mod.kin M.kp (bI (ha pos abQ s Y H _ I h) λus s1 ⟨vs,H1,I1,r,q⟩=>⟨I1.kIn,?_⟩) he hpl;exact Mv M F hr hb hd (hx _ _) I1 r q
end
section
variable {X:Cx} {CX:sJ} {k:Nat} {f C:Addr} {fd:FuncData} {ps ks:List Str} {sp:Sp} {E:XK} {x m:Str} {p pos apos kpos:Pos} {e o:Expr} {es:List Expr} {kws:List Keyword} {te ta:TE} {t tk:TA} {nm:Option Str}
variable {g:List Value->List Value->List Value} {gV:List V->List V->List V}
end
structure bO (N P:List Str) (sc:Scope):Prop where
 kind:sc.kind=.function
 co:sc.isCoroutine=false
 gen:sc.isGenerator=false
 nd:N.Nodup
 pre:N.take P.length=P
 par:∀x∈P,sc.names.lookup x=some .local\/sc.names.lookup x=some .cell
 nofree:∀y∈sc.names,y.2≠.free
theorem yU {kindOf:Str->Option NameKind} {x:Str}:∀{binds:List (Str×Value)} {m:Str->Option Value},(∀v,(x,v)∉binds)->bindL kindOf binds m x=m x
 | [],_,_=>rfl
 | (n,v)::r,m,h=>by
  unfold bindL;rw[yU λw hw=>h w (YG _ hw)];split
  . have:x≠n:=by rintro rfl; exact h v Yz
    simp[this]
  . rfl
theorem yV {kindOf:Str->Option NameKind} {x:Str}:∀{binds:List (Str×Value)} {m:Str->Option Value},(∀v,(x,v)∉binds)->bindC kindOf binds m x=m x
 | [],_,_=>rfl
 | (n,v)::r,m,h=>by
  unfold bindC;rw[yV λw hw=>h w (YG _ hw)];split
  . rfl
  . have:x≠n:=by rintro rfl; exact h v Yz
    simp[this]
theorem yW {kindOf:Str->Option NameKind} {x:Str} {v:Value}:∀{P:List Str} {vs:List Value} {i:Nat} {m:Str->Option Value},P.Nodup->P[i]?=some x->vs[i]?=some v->kindOf x=some .local->
 bindL kindOf (P.zip vs) m x=some v
 | [],_,_,_,_,h,_,_=>by simp at h
 | _::_,[],_,_,_,_,h,_=>by simp at h
 | p::P,w::vs,0,m,nd,h1,h2,hk=>by simp at h1 h2; subst h1; subst h2;show bindL kindOf ((p,w)::P.zip vs) m p=_;unfold bindL;rw[yU λv hv=>(Zo.mp nd).1 (aai hv).1,aaN hk];simp
 | p::P,w::vs,i+1,m,nd,h1,h2,hk=>by show bindL kindOf ((p,w)::P.zip vs) m x=_;unfold bindL;exact yW (i:=i) (Zo.mp nd).2 (by simpa using h1) (by simpa using h2) hk
theorem yX {kindOf:Str->Option NameKind} {x:Str} {v:Value}:∀{P:List Str} {vs:List Value} {i:Nat} {m:Str->Option Value},P.Nodup->P[i]?=some x->vs[i]?=some v->kindOf x≠some .local->
 bindC kindOf (P.zip vs) m x=some v
 | [],_,_,_,_,h,_,_=>by simp at h
 | _::_,[],_,_,_,_,h,_=>by simp at h
 | p::P,w::vs,0,m,nd,h1,h2,hk=>by simp at h1 h2; subst h1; subst h2;show bindC kindOf ((p,w)::P.zip vs) m p=_;unfold bindC;rw[yV λv hv=>(Zo.mp nd).1 (aai hv).1,aaO hk];simp
 | p::P,w::vs,i+1,m,nd,h1,h2,hk=>by show bindC kindOf ((p,w)::P.zip vs) m x=_;unfold bindC;exact yX (i:=i) (Zo.mp nd).2 (by simpa using h1) (by simpa using h2) hk
def start (N:List Str) (vs:List V):St:=vs.map some++List.replicate (N.length-vs.length) none
def pH (b:Bool) (CX:sJ) (P:Program) (w:World) (K:FG) (mg:Str->Option Value) (base:Heap) (N:List Str) (qual:Str) (scope:Scope) (f:Addr) (cd:Value) (A:Around) (outer:List Env) (s:Shared) (H:Hp) (E:XK):Cx where
 prog:=P
 w:=w
 K:=K
 mg:=mg
 base:=base
 A:=A.deeper (envOfC qual scope s.heap.objs.size f cd)
 N:=N
 s₀:=s
 H0:=H
 env:=envOfC qual scope s.heap.objs.size f cd
 outer:=outer
 stack:=envOfC qual scope s.heap.objs.size f cd::outer
 ex:=[]
 calm:=b
 fn:=λ_=>true
 pn:=[]
 xe:=λe s'=>wpAny (model P w) (A.deeper (envOfC qual scope s.heap.objs.size f cd)) (leaving (envOfC qual scope s.heap.objs.size f cd) e) (λ_ s''=>CX outer H s E e s'') (λe' s''=>CX outer H s E e' s'') s'
abbrev Mw:=pH true
theorem Bl {sc:Scope} {n:Nat} {x:Str} (h:sc.names.lookup x=some .cell):∃c,(cellsFrom n sc.names []).lookup x=some c:=by have q:=aaH sc.names n [] (.inl h);exact aan.mp q
theorem JG {cm:Bool} {CX:sJ} {K:FG} {mg:Str->Option Value} {base:Heap} {N ps:List Str} {qual:Str} {scope:Scope} {f:Addr} {cd:Value} {outer:List Env} {s s1:Shared} {H:Hp} {E:XK} {us:List Value} {vs:List V}
 (S:bO N ps scope) (hd:cm=true->A.handled=none) (e0:vO P w K mg base A outer s H) (hl:vs.length=ps.length) (r:Vals vs us)
 (x:InCallC s s.heap.objs.size (bindL (envOfC qual scope s.heap.objs.size f cd).kindOf (ps.zip us) λ_=>none) (cellsFrom (s.heap.objs.size+1) scope.names []) (bindC (envOfC qual scope s.heap.objs.size f cd).kindOf (ps.zip us) λ_=>none) s1):
 Inv (pH cm CX P w K mg base N qual scope f cd A outer s H E) [] (start N vs) H s1:=by
 have hpl:ps.length<=N.length:=by have:=congrArg List.length S.pre; rw[aac]at this; omega
 obtain⟨h1,tk,rfl,hk⟩:=x.done;have noA:∀b:Addr,b∉(pH cm CX P w K mg base N qual scope f cd A outer s H E).ex:=λb z=>absurd (show b∈([]:List Addr) from z) (by simp);refine⟨⟨e0.mod,S.kind,rfl,rfl,YC _,λy z c h1 h2=>?_,λy hy=>?_,λy c _ h=>?_,hd,Around.frames_deeper e0.frames,.inr ⟨rfl,rfl⟩,λb z=>absurd z (noA b),e0.bs,e0.bsz,λb _ _=>noA b,λb z=>absurd z (noA b),e0.funs,e0.frf⟩,
  rfl,e0.bare,Un.kept hk,⟨_,x.toInCall.ns,λi y v h1 h2 h3=>?_⟩,λy c h=>⟨_,x.cell y c h⟩,e0.hok.fresh (YC _),λy c h=>?_,λp hp=>absurd (show p∈([]:List (Addr×Obj)) from hp) (by simp),e0.hok.kept hk,?_⟩
 . exact name_of_addr x.apart (aag h1) (aag h2)
 . have hy:scope.names.lookup y=some .cell\/scope.names.lookup y=some .free:=hy;rcases hy with hy | hy
   . exact Bl hy
   . exact absurd rfl (S.nofree _ (aag hy))
 . exact aay (x.above y c (aag h))
 . have hi:i<vs.length:=by
    unfold start at h2;by_cases hi:i<vs.length
    . exact hi
    . rw[Y8 (by simpa using hi)]at h2;rw[List.getElem?_replicate]at h2;split at h2<;>cases h2
   have ha:vs[i]?=some v:=by
    unfold start at h2;rw[Zv (by simpa using hi),Y4]at h2;cases e:vs[i]? with
    | none=>rw[e]at h2; cases h2
    | some a=>rw[e]at h2; cases h2; rfl
   obtain⟨u,hu,rv⟩:=r.get ha;have hp:ps[i]?=some y:=by rw[<-S.pre,List.getElem?_take_of_lt (by omega)]; exact h1
   have ndP:ps.Nodup:=by rw[<-S.pre]; exact S.nd.sublist (List.take_sublist _ _)
   refine⟨u,rv,?_⟩;rcases S.par y (Zn hp) with k | k
   . exact .inl ⟨k,yW ndP hp hu k⟩
   . obtain⟨c,e⟩:=Bl (n:=s.heap.objs.size+1) k;refine .inr ⟨.inl k,c,e,?_⟩;have q:=x.cell y c e;rw[yX ndP hp hu (by show scope.names.lookup y≠_; rw[k]; decide)]at q;exact q
 . exact e0.hok.fresh (aay (x.above y c (aag h)))
 . unfold start;show _=N.length;rw[YJ,YH,List.length_replicate];omega
theorem Wl {b:Bool} {CX:sJ} {K:FG} {mg:Str->Option Value} {base:Heap} {k:Nat} {f:Addr} {name qual:Str} {params:Arguments} {body:List Stmt} {scope:Scope} {dV kV doc pm cdv ct oc:Value} {an od:Option Addr}
 {osl:Array (Option Value)} {N ps:List Str} {sp:Sp} (lk:K.lookup f=some ⟨oc,od,.func (W.fnOf name qual params body scope dV kV doc pm an cdv ct),osl⟩) (hcd:W.codeIn K cdv qual=true) (S:bO N ps scope)
 (len:∀vs H Q E,sp vs H Q E->vs.length=ps.length)
 (hbody:∀(A:Around) (outer:List Env) (s:Shared) (H:Hp) (vs:List V) (Q:VK) (E:XK),dO b k (A.deeper (envOfC qual scope s.heap.objs.size f cdv))->sp vs H Q E->
   ∃t,ir (pH b CX P w K mg base N qual scope f cdv A outer s H E) body t/\t { nx:=λ_ H'=>Q .non H',rt:=Q } (start N vs) H):
 nJ b P w K mg base CX (k+1) f (W.fnOf name qual params body scope dV kV doc pm an cdv ct) ps sp:=by
 refine⟨len,λA outer s H args us vs Q E hr e0 hb r hsp=>?_⟩;have hl:=len _ _ _ _ hsp;have KX:K.In s.heap:=e0.mod.kin.keeps λb o e=>(e0.bs b o e).1;have lim:s.heap.NoLimit:=e0.mod.nolimit.keeps λb o e=>(e0.bs b o e).1;have hkind:∀y∈ps.zip us,scope.names.lookup y.1=some .local\/(scope.names.lookup y.1=some .cell/\((cellsFrom (s.heap.objs.size+1) scope.names []).lookup y.1).isSome=true):=λ⟨n,v⟩ hy=>by
  rcases S.par n (aai hy).1 with q | q
  . exact .inl q
  . exact .inr ⟨q,aaH _ _ _ (.inl q)⟩
 refine codeAny_call_function hr.depth (KX _ _ lk) rfl S.co S.gen rfl (W.codeRec_of KX hcd) (hb _ _ _ _ ?_);refine wpAny_newFunctionEnv_cells S.kind hkind λenv he s1 x=>?_;subst he;refine⟨lim.keeps x.toInCall.keep,codeAny_func ?_⟩;obtain⟨t,ht,hq⟩:=hbody A outer s H vs Q E (hr.deeper _) hsp;have I:Inv (pH b CX P w K mg base N qual scope f cdv A outer s H E) [] (start N vs) H s1:=JG S hr.hd e0 hl r x;refine wpAny_mono (ht [] s1 (start N vs) H _ I hq) (λfl s' hs=>?_) λe s' hs=>hs;have fin:∀{Y':St} {H':Hp} {v:V} {u:Value},Inv (pH b CX P w K mg base N qual scope f cdv A outer s H E) [] Y' H' s'->RelV v u->Q v H'->CE outer P w H s Q u s':=
  λ{Y' H' v u} J rv q=>⟨v,H',J.os,J.bare,J.base,J.hok,rv,q⟩
 cases fl with
 | ret u=>
  obtain⟨v,Y',H',J,rv,q⟩:=hs;exact fin J rv q
 | next=>
  obtain⟨Y',H',J,q⟩:=hs;exact fin (v:=V.non) (u:=Value.none) J rfl q
 | brk=>
  obtain⟨_,_,_,q⟩:=hs;exact False.elim q
 | cont=>
  obtain⟨_,_,_,q⟩:=hs;exact False.elim q
section
variable {X:Cx} {x:Str} {p pos:Pos} {e:Expr} {es:List Expr} {t:TA} {id T:String} {r:List V->Hp->VK->Prop}
def vz (r:List V->Hp->VK->Prop) (t:TA):TE:=λY H Q=>t Y H λvs H1=>r vs H1 Q
theorem jh (hc:jx X (.builtin id) r) (hg:Gl X x) (hm:X.mg x=none) (hv:bootBuiltins x=some (.builtin id)) (ha:PA X (e::es) t) (hn:x ≠ "__name__" := by decide) (hdb:(x==("__debug__" : Str))=false:=by decide)
 (he:starEach (e::es) X.env=(false,eval e X.env)::starEach es X.env:=by rfl) (hpl:(backTo pos (starEach es X.env)).any (·.1)=false:=by rfl):PE X (.Call (.Name x p) (e::es) [] pos) (vz r t):=by
 intro abQ s Y H Q I h;refine wpAny_Call_Name_kw (tG I hg hm hv ?_ hn hdb);exact PyProof.Rows.callWith_builtin1 (bI (ha pos abQ s Y H _ I h) λus s1 ⟨vs,H1,I1,r1,q1⟩=>hc abQ s1 Y H1 vs us Q I1 r1 q1) he hpl
theorem iJ (hc:jx X (.type T) r) (hg:Gl X x) (hm:X.mg x=none) (hv:bootBuiltins x=some (.type T)) (ha:PA X (e::es) t) (hn:x ≠ "__name__" := by decide) (hdb:(x==("__debug__" : Str))=false:=by decide)
 (he:starEach (e::es) X.env=(false,eval e X.env)::starEach es X.env:=by rfl) (hpl:(backTo pos (starEach es X.env)).any (·.1)=false:=by rfl):PE X (.Call (.Name x p) (e::es) [] pos) (vz r t):=by
 intro abQ s Y H Q I h;refine wpAny_Call_Name_kw (tG I hg hm hv ?_ hn hdb);exact PyProof.Rows.callWith_type1 (bI (ha pos abQ s Y H _ I h) λus s1 ⟨vs,H1,I1,r1,q1⟩=>hc abQ s1 Y H1 vs us Q I1 r1 q1) he hpl
end
end L2
namespace HT
open PySem PySem.Spec PyProof.Rows
section
open PySem.SeqAt
open PySem.AutoSeq1 (wpAny_loadPart')
open PySem.MeetsSeq PySem.MeetsSeq2 PySem.MeetsSeq3
end
section
variable {prog:Program} {w:World} {A:Around} {E:Value->Shared->Prop} {s:Shared}
theorem cat_tup {t b:Addr} {vs ws:List Value} {Q:Value->Shared->Prop} (ht:IsTup s.heap t vs.toArray) (hb:IsTup s.heap b ws.toArray) (hv:vs≠[])
 (h1:ws=[]->Q (.ref t) s) (h2:ws≠[]->Q (.ref s.heap.objs.size) { s with heap:=s.heap.push { cls:=.type "tuple",data:=.seq (vs++ws).toArray } })
 (hsz:vs.length+ws.length<=sizeLine):wpAny (model prog w) A (binaryOp .Add (.ref t) (.ref b)) Q E s:=by
 obtain⟨⟨cls,dd,data,sl⟩,ho,hc,n,hd⟩:=id ht;obtain⟨⟨cls2,dd2,data2,sl2⟩,ho2,hc2,n2,hd2⟩:=id hb;simp only at hc hd hc2 hd2;subst hc hd hc2 hd2;have e:vs.toArray++ws.toArray=(vs++ws).toArray:=by simp
 by_cases hw:ws=[]
 . exact concat_meets ⟨_,ho,rfl⟩ ⟨_,ho2,rfl⟩ noFill_tuple_add seq_tuple_add F.slot_tuple_add F.entry_tuple_add (F.args_tuple_add_2 _ _)
    (tuple_addW1 t b vs.toArray ws.toArray n n2 dd dd2 sl sl2 (by simpa using hv) (by simp[hw])) ⟨ho,ho2,h1 hw⟩
 . refine concat_meets ⟨_,ho,rfl⟩ ⟨_,ho2,rfl⟩ noFill_tuple_add seq_tuple_add F.slot_tuple_add F.entry_tuple_add (F.args_tuple_add_2 _ _)
    (tuple_addW2 t b vs.toArray ws.toArray n n2 dd dd2 sl sl2 (by simpa using hv) (by simpa using hw) (by rw[YM,YM]; exact hsz)) ⟨ho,ho2,?_⟩
   rw[e];exact h2 hw
def sIx (n d:Nat):Option Int->Nat
 | none=>d
 | some v=>if v<0 then (v+(n:Int)).toNat else min v.toNat n
theorem sIx_nat (n d k:Nat):sIx n d (some (k:Int))=min k n:=by show (if (k:Int)<0 then ((k:Int)+(n:Int)).toNat else min (k:Int).toNat n)=min k n;rw[aaO (by omega),aaG]
theorem sIx_le (n d:Nat) (hd:d<=n) (o:Option Int):sIx n d o<=n:=by
 cases o with
 | none=>exact hd
 | some v=>
  show (if v<0 then (v+(n:Int)).toNat else min v.toNat n)<=n;by_cases hv:v<0
  . rw[aaN hv]; omega
  . rw[aaO hv]; exact Nat.min_le_right _ _
theorem Fp (v:Int) (n d:Nat):(if v<0 then max (v+(n:Int)) 0 else min v (n:Int))=((sIx n d (some v):Nat):Int):=by
 show (if v<0 then max (v+(n:Int)) 0 else min v (n:Int))=(((if v<0 then (v+(n:Int)).toNat else min v.toNat n):Nat):Int);by_cases hv:v<0
 . simp only[aaN hv]; omega
 . simp only[aaO hv]; omega
theorem Ie (lo hi:Option Int) (n:Nat):Builtin.Slice.sliceAdjust lo hi 1 (n:Int)=(((sIx n 0 lo:Nat):Int),((sIx n n hi:Nat):Int)):=by
 have h1:¬ ((1:Int)<0):=by omega
 unfold Builtin.Slice.sliceAdjust;simp only[h1,if_false];refine Prod.ext ?_ ?_
 . cases lo with
   | none=>rfl
   | some v=>exact Fp v n 0
 . cases hi with
   | none=>rfl
   | some v=>exact Fp v n n
theorem Ig (i j:Nat):Builtin.Slice.slicePlaces (i:Int) (j:Int) 1=j-i:=by
 unfold Builtin.Slice.slicePlaces;have h1:(1:Int)>0:=by omega
 simp only[h1,if_true,Int.ediv_one];split<;>omega
theorem wL {v:Value} {o:Option Int} {Q:Option Int->Shared->Prop} (p:IsPart v o) (h:Q o s):wpAny (model prog w) A (Builtin.Slice.slicePartIndex v) Q E s:=by
 cases p with
 | none=>exact slicePart_none h
 | int i t=>exact slicePart_int h
theorem vP {sl:Addr} {vl vu:Value} {lo hi:Option Int} {n:Nat} {Q:Int×Int×Nat->Shared->Prop} (hs:s.heap.IsSliceOf sl vl vu .none) (pl:IsPart vl lo) (pu:IsPart vu hi)
 (h:Q (((sIx n 0 lo:Nat):Int),1,sIx n n hi-sIx n 0 lo) s):wpAny (model prog w) A (Builtin.Slice.sliceApplied (.ref sl) (pure (n:Int))) Q E s:=by
 obtain⟨os,hos,hcs,hds⟩:=id hs;unfold Builtin.Slice.sliceApplied Builtin.Slice.sliceFields;refine aaM (aaM (wpAny_field hos hds (x:=vl) rfl (aaM (wpAny_field hos hds (x:=vu) rfl (aaM (wpAny_field hos hds (x:=.none) rfl (aaP ?_)))))));refine aaM (slicePart_none ?_);show wpAny _ _ (if ((1:Int)==0)=true then _ else _) _ _ s;rw[aaO (by decide)];refine aaM (wL pl (aaM (wL pu (aaM (aaP ?_)))));show wpAny _ _ (match Builtin.Slice.sliceAdjust lo hi 1 (n:Int) with | (lo,hi)=>pure (lo,(1:Int),Builtin.Slice.slicePlaces lo hi 1)) _ _ s;rw[Ie lo hi n];show wpAny _ _ (pure (((sIx n 0 lo:Nat):Int),(1:Int),Builtin.Slice.slicePlaces ((sIx n 0 lo:Nat):Int) ((sIx n n hi:Nat):Int) 1)) _ _ s;rw[Ig];exact aaP h
theorem Mx (xs:Array Value) (i k:Nat):((List.range k).filterMap λ(m:Nat)=>xs[((i:Int)+(m:Int)*1).toNat]?).toArray=((xs.toList.drop i).take k).toArray:=by
 have e:(λ(m:Nat)=>xs[((i:Int)+(m:Int)*1).toNat]?)=λm=>xs[i+m]?:=by
  funext m;have:((i:Int)+(m:Int)*1).toNat=i+m:=by omega
  rw[this]
 rw[e];have:=pick_run xs i k;rw[List.filterMap_map]at this;have e2:((λx=>xs[x]?) ∘ λx=>i+x)=λm=>xs[i+m]?:=rfl;rw[e2]at this;rw[this]
theorem getItem_tuple_cut {t sl:Addr} {items:Array Value} {vl vu:Value} {lo hi:Option Int} {Q:Value->Shared->Prop} (ht:IsTup s.heap t items) (hs:s.heap.IsSliceOf sl vl vu .none) (pl:IsPart vl lo) (pu:IsPart vu hi)
 (hw:¬ (sIx items.size 0 lo=0/\sIx items.size items.size hi=items.size))
 (h:Q (.ref s.heap.objs.size) { s with heap:=s.heap.push { cls:=.type "tuple",data:=.seq ((items.toList.drop (sIx items.size 0 lo)).take (sIx items.size items.size hi-sIx items.size 0 lo)).toArray } })
 (hsz:items.size<=sizeLine):wpAny (model prog w) A (getItem (.ref t) (.ref sl)) Q E s:=by
 have htake:sizeOk (.seq ((items.toList.drop (sIx items.size 0 lo)).take (sIx items.size items.size hi-sIx items.size 0 lo)).toArray):=by show ((items.toList.drop (sIx items.size 0 lo)).take (sIx items.size items.size hi-sIx items.size 0 lo)).toArray.size<=sizeLine;rw[YM,aac,aal,Zu];omega
 have hj:sIx items.size items.size hi<=items.size:=sIx_le _ _ (YC _) hi;obtain⟨os,hos,hcs,hds⟩:=id hs;have hTs:s.TypeIs (.ref sl) "slice" := ⟨os,hos,hcs⟩;unfold getItem
 try with_reducible refine wpAny_holding ?_
 first | refine aaM (aaP ?_) | skip
 refine aaM (wpAny_sequenceKey ht.typeIs (by decide) ?_);refine aaM (wpAny_callSpecial?_slot (name:=Str.ofString "__getitem__") ht.typeIs PyProof.Rows.slot_tuple_getitem
  (wpAny_call_entry PyProof.Rows.slot_tuple_getitem ht.typeIs entry_tuple_getitem ?_ (args_tuple_getitem _ _)))
 show wpAny _ _ (Builtin.Tuple.tupleItemsOf (.ref t) >>= _) _ _ s;refine aaM (tupleItemsOf_ ht ?_);refine aaM (wpAny_typeOf hTs ?_);rw[aaN (by decide)];refine aaM (vP hs pl pu ?_);have hno:¬ ((((sIx items.size 0 lo:Nat):Int)==0&&(1:Int)==1&&(sIx items.size items.size hi-sIx items.size 0 lo)==items.size)=true):=by intro q;rw[Zy,Zy]at q;have q1:((sIx items.size 0 lo:Nat):Int)=0:=eq_of_beq q.1.1;have q2:sIx items.size items.size hi-sIx items.size 0 lo=items.size:=eq_of_beq q.2;exact hw ⟨by omega,by omega⟩
 show wpAny _ _ (if (((sIx items.size 0 lo:Nat):Int)==0&&(1:Int)==1&&(sIx items.size items.size hi-sIx items.size 0 lo)==items.size)=true then _ else _) _ _ s;rw[aaO hno,Mx]
 first
  | exact aaM (m:=Builtin.Tuple.tupleExact _) (wpAny_newObj_type (aaP ⟨_,rfl,aaP h⟩) htake)
  | exact aaM (m:=Builtin.Tuple.tupleExact _) (wpAny_newObj_type (aaM (aaP (aaP ⟨_,rfl,aaP h⟩))) htake)
  | exact aaM (aaM (m:=Builtin.Tuple.tupleExact _) (wpAny_newObj_type (aaP (aaP ⟨_,rfl,aaP h⟩)) htake))
  | exact aaM (aaM (m:=Builtin.Tuple.tupleExact _) (wpAny_newObj_type (aaP ⟨_,rfl,aaP h⟩) htake))
end
end HT
namespace L2
open PySem PySem.Spec PyProof.Rows
variable {abQ:List (Addr×Obj)} {E:Value->Shared->Prop} {s:Shared} {A:Around} {w:World} {P:Program}
abbrev TO:=St->Hp->(Option Int->Hp->Prop)->Prop
def PO (X:Cx) (e:Option Expr) (t:TO):Prop:=
 ∀(abQ:List (Addr×Obj)) (s:Shared) (Y:St) (H:Hp) (Q:Option Int->Hp->Prop),Inv X abQ Y H s->t Y H Q->
  wpAny (model X.prog X.w) X.A (evalPart e X.env) (λu s'=>∃o H',Inv X abQ Y H' s'/\IsPart u o/\Q o H') X.xe s
def QK:TO:=λ_ H Q=>Q none H
def Wm (t:TE):TO:=λY H Q=>t Y H λx H1=>∃i,x=.int i/\Q (some i) H1
section
variable {X:Cx} {e:Expr} {te:TE} {lo hi:Option Expr} {tl th:TO} {pos p2:Pos}
theorem QL:PO X none QK:=by intro abQ s Y H Q I h;rw[evalPart_none];exact aaP ⟨none,H,I,.none,h⟩
theorem QM (h:PE X e te):PO X (some e) (Wm te):=by intro abQ s Y H Q I hw;rw[evalPart_some];refine bI (h abQ s Y H _ I hw) λu s1 zqz=>?_;obtain⟨x,H1,I1,r1,q1⟩:=zqz;obtain⟨i,rfl,q⟩:=q1;obtain⟨t,rfl⟩:=r1;exact⟨some i,H1,I1,.int i t,q⟩
def yZ (X:Cx) (r:V->Option Int->Option Int->Hp->VK->Prop):Prop:=
 ∀(abQ:List (Addr×Obj)) (s:Shared) (Y:St) (H:Hp) (x:V) (v vl vu:Value) (lo hi:Option Int) (sl:Addr) (Q:VK),Inv X abQ Y H s->RelV x v->s.heap.IsSliceOf sl vl vu .none->IsPart vl lo->IsPart vu hi->r x lo hi H Q->
  ∃T id,typeLookup (.type T) "__getitem__" = pure (some (.builtin id))/\s.TypeIs v T/\wpAny (model X.prog X.w) X.A (getItem v (.ref sl)) (EP X abQ Y Q) X.xe s
theorem yZ.or {r r':V->Option Int->Option Int->Hp->VK->Prop} (h:yZ X r) (h':yZ X r'):yZ X (λx lo hi H Q=>r x lo hi H Q\/r' x lo hi H Q):=by
 intro abQ s Y H x v vl vu lo hi sl Q I rx hs pl pu q;rcases q with q | q
 . exact h abQ s Y H x v vl vu lo hi sl Q I rx hs pl pu q
 . exact h' abQ s Y H x v vl vu lo hi sl Q I rx hs pl pu q
def Yb (r:V->Option Int->Option Int->Hp->VK->Prop) (te:TE) (tl th:TO):TE:=λY H Q=>te Y H λx H1=>tl Y H1 λl H2=>th Y H2 λu H3=>r x l u H3 Q
theorem Bm {r:V->Option Int->Option Int->Hp->VK->Prop} (hr:yZ X r) (he:PE X e te) (hl:PO X lo tl) (hu:PO X hi th):PE X (.Subscript e (.Slice lo hi none p2) pos) (Yb r te tl th):=by intro abQ s Y H Q I h;refine Subscript_ (bI (he abQ s Y H _ I h) λv s1 zqz=>?_);obtain⟨x,H1,I1,r1,q1⟩:=zqz;refine wpAny_Slice (bI (hl abQ s1 Y H1 _ I1 q1) λvl s2 ⟨l,H2,I2,pl,q2⟩=>bI (hu abQ s2 Y H2 _ I2 q2) λvu s3 zqz=>?_);obtain⟨u,H3,I3,pu,q3⟩:=zqz;rw[evalPart_none];refine aaP ?_;have I4:Inv X abQ Y H3 { s3 with heap:=s3.heap.push { cls:=.type "slice",data:=.fields #[vl,vu,.none] } }:=I3.kept (t':=s3.toks) λb ob q=>YD _ q;obtain⟨T,id,hT,ht,hg⟩:=hr abQ { s3 with heap:=s3.heap.push { cls:=.type "slice",data:=.fields #[vl,vu,.none] } } Y H3 x v vl vu l u s3.heap.objs.size Q I4 r1 (Heap.IsSliceOf.new ..) pl pu q3;show wpAny (model X.prog X.w) X.A (subscriptTail e (.Slice lo hi none p2) v (.ref s3.heap.objs.size)) (EP X abQ Y Q) X.xe { s3 with heap:=s3.heap.push { cls:=.type "slice",data:=.fields #[vl,vu,.none] } };exact tail_any (ops:=[.ref s3.heap.objs.size,v]) ht hT hg (by with_unfolding_all rfl)
def oG (xs:List V) (lo hi:Option Int):List V:=(xs.drop (HT.sIx xs.length 0 lo)).take (HT.sIx xs.length xs.length hi-HT.sIx xs.length 0 lo)
theorem vA (xs:List V) (lo hi:Option Int):(oG xs lo hi).length<=xs.length:=by unfold oG;rw[aac,aal];omega
def Xy (K:FG):V->Option Int->Option Int->Hp->VK->Prop:=λx lo hi H Q=>∃a xs,x=.ref a/\cg K H a xs/\
 ¬ (HT.sIx xs.length 0 lo=0/\HT.sIx xs.length xs.length hi=xs.length)/\∀p,H p=none->Q (.ref p) (upd H p (.tup (oG xs lo hi)))
theorem T5:yZ X (Xy X.K):=by
 intro abQ s Y H x v vl vu lo hi sl Q I rx hs pl pu h;obtain⟨a,xs,rfl,hx,hw,q⟩:=h;cases rx;obtain⟨its,r,ht,hz⟩:=I.tuple hx;have hlen:its.toArray.size=xs.length:=by rw[YM]; exact r.length.symm
 refine⟨"tuple",_,PyProof.Rows.slot_tuple_getitem.lookup,ht.typeIs,?_⟩;refine HT.getItem_tuple_cut ht hs pl pu (by rw[hlen]; exact hw) ?_ (by rw[hlen]; exact hz);rw[hlen];refine⟨.ref s.heap.objs.size,_,I.laid (t':=s.toks) (o:=.tup (oG xs lo hi)) (λb ob q=>YD _ q) (YC _) ?_,rfl,q _ (I.hok.fresh (YC _))⟩;exact⟨Zc (vA xs lo hi) hz,_,(r.drop (HT.sIx xs.length 0 lo)).take (HT.sIx xs.length xs.length hi-HT.sIx xs.length 0 lo),IsTup.new _ _⟩
def Pq (K:FG):R2:=λx y H Q=>∃a b xs ys,x=.ref a/\y=.ref b/\cg K H a xs/\cg K H b ys/\xs≠[]/\xs.length+ys.length<=sizeLine/\
 (ys=[]->Q (.ref a) H)/\(ys≠[]->∀p,H p=none->Q (.ref p) (upd H p (.tup (xs++ys))))
theorem Vals.nil_iff {xs:List V} {us:List Value} (r:Vals xs us):us=[] ↔ xs=[]:=by
 cases r with
 | nil=>simp
 | cons _ _=>simp
theorem QQ:gP X (binaryOp .Add) (Pq X.K):=by intro abQ s Y H x y v u Q I rx ry h;obtain⟨a,b,xs,ys,rfl,rfl,ha,hb,hx,hz,q1,q2⟩:=h;cases rx;cases ry;obtain⟨its,r1,p1,_⟩:=I.tuple ha;obtain⟨its2,r2,p2,_⟩:=I.tuple hb;refine HT.cat_tup p1 p2 (λz=>hx (r1.nil_iff.mp z)) (λz=>⟨.ref a,H,I,rfl,q1 (r2.nil_iff.mp z)⟩) (λz=>?_) (by rw[<-r1.length,<-r2.length]; exact hz);refine⟨.ref s.heap.objs.size,_,I.laid (t':=s.toks) (o:=.tup (xs++ys)) (λb ob q=>YD _ q) (YC _) ?_,rfl,q2 (λw=>z (r2.nil_iff.mpr w)) _ (I.hok.fresh (YC _))⟩;exact⟨by rw[YJ]; exact hz,_,r1.append r2,IsTup.new _ _⟩
end
def oH (n:Nat) (i:Int):Option Nat:=if 0<=i then (if i<n then some i.toNat else none) else if -(n:Int)<=i then some (i+n).toNat else none
def gq {α:Type} (xs:List α) (i:Int):Option α:=(oH xs.length i).bind λj=>xs[j]?
theorem Fq {n:Nat} {i:Int} {j:Nat} (h:oH n i=some j):seqIndex? i n=some j/\j<n/\-(n:Int)<=i/\i<n:=by
 unfold oH at h;by_cases h0:0<=i
 . rw[aaN h0]at h;by_cases h1:i<n
   . rw[aaN h1]at h;have e:i.toNat=j:=Y5 h;exact⟨by rw[seqIndex_of h0 h1,e],by omega,by omega,h1⟩
   . rw[aaO h1]at h; cases h
 . rw[aaO h0]at h;by_cases h1:-(n:Int)<=i
   . rw[aaN h1]at h;have e:(i+n).toNat=j:=Y5 h;exact⟨by rw[seqIndex_neg (by omega) h1,e],by omega,h1,by omega⟩
   . rw[aaO h1]at h; cases h
theorem yh {α:Type} {xs:List α} {i:Int} {v:α} (h:gq xs i=some v):∃j,seqIndex? i xs.length=some j/\xs[j]?=some v/\j<xs.length/\-(xs.length:Int)<=i/\i<xs.length:=by
 unfold gq at h;cases e:oH xs.length i with
 | none=>rw[e]at h; cases h
 | some j=>
  rw[e]at h;obtain⟨h1,h2,h3,h4⟩:=Fq e;exact⟨j,h1,h,h2,h3,h4⟩
theorem QR {α:Type} {xs:List α} {j:Nat} {v:α} (h:xs[j]?=some v):gq xs (j:Int)=some v:=by
 have hj:j<xs.length:=(YL.mp h).1;have e:oH xs.length (j:Int)=some j:=by unfold oH;rw[aaN (by omega),aaN (by omega)]; simp
 unfold gq; rw[e]; exact h
theorem My {α:Type} (xs:List α) (v:α):gq (xs++[v]) (-1)=some v:=by
 have hl:(xs++[v]).length=xs.length+1:=by simp
 have e:oH (xs++[v]).length (-1)=some xs.length:=by unfold oH;rw[hl,aaO (by decide),aaN (by omega)];congr 1;omega
 unfold gq;rw[e];show (xs++[v])[xs.length]?=some v;simp
def Ft (b:Expr):Prop:=∀o i,subscripted b false o i=operate [o,i] (getItem o i)
def wM (X:Cx) (r:R2):Prop:=
 ∀(value slice:Expr) (abQ:List (Addr×Obj)) (s:Shared) (Y:St) (H:Hp) (x y:V) (v u:Value) (Q:VK),Inv X abQ Y H s->RelV x v->RelV y u->r x y H Q->
  subscripted slice false v u=operate [v,u] (getItem v u)->wpAny (model X.prog X.w) X.A (subscriptTail value slice v u) (EP X abQ Y Q) X.xe s
def Pr (X:Cx) (id:String) (r:V->List V->Hp->VK->Prop):Prop:=
 ∀(abQ:List (Addr×Obj)) (s:Shared) (Y:St) (H:Hp) (x:V) (xs:List V) (v:Value) (us:List Value) (Q:VK),Inv X abQ Y H s->RelV x v->Vals xs us->r x xs H Q->
  wpAny (model X.prog X.w) X.A (call (.builtin id) (v::us)) (EP X abQ Y Q) X.xe s
section
variable {X:Cx} {a b:Expr} {ta tb:TE} {pos:Pos}
theorem wM.or {r r':R2} (h:wM X r) (h':wM X r'):wM X (λx y H Q=>r x y H Q\/r' x y H Q):=by
 intro value slice abQ s Y H x y v u Q I rx ry q hs;rcases q with q | q
 . exact h value slice abQ s Y H x y v u Q I rx ry q hs
 . exact h' value slice abQ s Y H x y v u Q I rx ry q hs
theorem Wn {r:R2} (hr:wM X r) (ha:PE X a ta) (hb:PE X b tb) (hs:Ft b):PE X (.Subscript a b pos) (JB r ta tb):=by intro abQ s Y H Q I h;exact Subscript_ (Mj ha hb I h λv u s2 x y H2 I2 rx ry q=>hr a b abQ s2 Y H2 x y v u Q I2 rx ry q (hs _ _))
def T6 (K:FG):R2:=λx y H Q=>∃p xs i v,x=.ref p/\y=.int i/\bJ K H p xs/\gq xs i=some v/\Q v H
def T7 (K:FG):R2:=λx y H Q=>∃p xs i v,x=.ref p/\y=.int i/\cg K H p xs/\gq xs i=some v/\Q v H
def T8:R2:=λx y H Q=>∃z i c,x=.str z/\y=.int i/\z.length<=sizeLine/\gq z.cps.toList i=some c/\Q (.str ⟨#[c]⟩) H
theorem QS:wM X (T6 X.K):=by
 intro value slice abQ s Y H x y v u Q I rx ry h hs;obtain⟨p,xs,i,z,rfl,rfl,hq,he,q⟩:=h;cases rx;obtain⟨t,rfl⟩:=ry;obtain⟨its,r,pl,hz⟩:=I.list hq;obtain⟨j,h1,h2,h3,h4,h5⟩:=yh he;obtain⟨w,ew,rw'⟩:=r.get h2;have hl:=r.length;have hn:=qz;have fin:EP X abQ Y Q w s:=⟨z,H,I,rw',q⟩;by_cases h0:0<=i
 . have hj:i.toNat=j:=by rw[seqIndex_of h0 h5]at h1;exact Y5 h1
   exact item_listR pl.isList h0 (by omega) (by rw[hj]; simpa using ew) fin hs
 . have hj:(i+(its.toArray.size:Int)).toNat=j:=by rw[seqIndex_neg (by omega) h4]at h1;rw[YM,<-hl];exact Y5 h1
   exact subscriptTail_builtinR (x:=w) pl.isList.typeIs slot_list_getitem.lookup
    (wpAny_getItem_list_neg (Q:=λr s'=>r=w/\EP X abQ Y Q r s') pl.isList (by omega) (by rw[YM]<;>omega) (by omega) (by rw[hj]; simpa using ew) ⟨rfl,fin⟩) hs
theorem T9:wM X (T7 X.K):=by
 intro value slice abQ s Y H x y v u Q I rx ry h hs;obtain⟨p,xs,i,z,rfl,rfl,hq,he,q⟩:=h;cases rx;obtain⟨t,rfl⟩:=ry;obtain⟨its,r,pl,hz⟩:=I.tuple hq;obtain⟨j,h1,h2,h3,h4,h5⟩:=yh he;obtain⟨w,ew,rw'⟩:=r.get h2;have hl:=r.length;have hn:=qz;have fin:EP X abQ Y Q w s:=⟨z,H,I,rw',q⟩;exact subscriptTail_builtinR (x:=w) pl.typeIs slot_tuple_getitem.lookup
  (getItem_tuple (j:=j) (Q:=λr s'=>r=w/\EP X abQ Y Q r s') pl (by omega) (by omega) (by rw[YM,<-hl]; exact h1) (by simpa using ew) ⟨rfl,fin⟩) hs
theorem Ua:wM X T8:=by
 intro value slice abQ s Y H x y v u Q I rx ry h hs;obtain⟨z,i,c,rfl,rfl,hz,he,q⟩:=h;obtain⟨t,rfl⟩:=rx;obtain⟨t',rfl⟩:=ry;obtain⟨j,h1,h2,h3,h4,h5⟩:=yh he;have hl:z.cps.toList.length=z.length:=by simp[Str.length]
 rw[hl]at h1 h4 h5;have hn:=qz;exact tail_any (typeIs_str s z t) slot_str_getitem.lookup (getItem_str (c:=c) (by have e1:decide (i < -(2 ^ 63:Int))=false:=aaQ (by omega);have e2:decide (i ≥ 2 ^ 63)=false:=aaQ (by omega);rw[e1,e2,Bool.or_false]) (by rw[h1]; simpa using h2) ⟨.str ⟨#[c]⟩,H,I.tok _,⟨_,rfl⟩,q⟩) hs
def W5 (K:FG):R2:=λx y H Q=>T6 K x y H Q\/T7 K x y H Q\/T8 x y H Q
theorem Ub:wM X (W5 X.K):=QS.or (T9.or Ua)
theorem Ih (its:List Value) (n j:Nat) (u:Value):Obj.mapSeq (·.setIfInBounds j u) { cls:=.type "list",data:=.seq its.toArray n }={ cls:=.type "list",data:=.seq (its.set j u).toArray n }:=by simp[Obj.mapSeq]
theorem Inv.lst {Y:St} {H:Hp} {p:Addr} {xs:List V} (I:Inv X abQ Y H s) (h:H p=some (.lst xs)):
 ∃(its:List Value) (n:Nat),Vals xs its/\s.heap.get? p=some { cls:=.type "list",data:=.seq its.toArray n }/\xs.length<=sizeLine:=by
 obtain⟨z,its,n,r,e⟩:=I.hok p _ h;exact⟨its,n,r,e,z⟩
theorem Inv.lstUpd {Y:St} {H:Hp} {p:Addr} {xs ys:List V} {its its':List Value} {n n':Nat} {f:Obj->Obj} (I:Inv X abQ Y H s) (h:H p=some (.lst xs))
 (ho:s.heap.get? p=some { cls:=.type "list",data:=.seq its.toArray n }) (hf:f { cls:=.type "list",data:=.seq its.toArray n }={ cls:=.type "list",data:=.seq its'.toArray n' }) (r:Vals ys its') (hz:ys.length<=sizeLine) (t:Nat):
 Inv X abQ Y (upd H p (.lst ys)) { s with heap:=s.heap.update p f,toks:=t }:=by
 have e:(s.heap.update p f).get? p=some { cls:=.type "list",data:=.seq its'.toArray n' }:=by rw[Zz f ho (by rw[hf]<;>rfl),hf]
 refine I.write (x:=p) (e:=p) (by rw[h]; trivial) (.inl rfl) (λb u hb q=>(Zx _ _ (Ne.symm hb)).trans q) ⟨_,e⟩ ?_;exact⟨hz,its',n',r,e⟩
def Pu:V->V->V->Hp->(Hp->Prop)->Prop:=λo i v H Q=>∃p xs k j,o=.ref p/\i=.int k/\H p=some (.lst xs)/\oH xs.length k=some j/\Q (upd H p (.lst (xs.set j v)))
theorem set_list:Mh X Pu:=by
 intro abQ s Y H o i v ov iv u Q I ro ri rv h;obtain⟨p,xs,k,j,rfl,rfl,hp,hj,q⟩:=h;cases ro;obtain⟨t,rfl⟩:=ri;obtain⟨its,n,r,ho,hz⟩:=I.lst hp;obtain⟨h1,h2,h3,h4⟩:=Fq hj;have hl:=r.length;have hn:=qz;have I':Inv X abQ Y (upd H p (.lst (xs.set j v))) { s with heap:=s.heap.update p (Obj.mapSeq (·.setIfInBounds j u)) }:=
  I.lstUpd hp ho (Ih its n j u) (r.set rv j) (by rw[aad]; exact hz) s.toks
 by_cases h0:0<=k
 . have hk:k.toNat=j:=by rw[seqIndex_of h0 h4]at h1;exact Y5 h1
   exact W.ki_setAt ho h0 (by omega) (by rw[YM,<-hl]; exact h4) (by rw[hk]; exact⟨_,I',q⟩)
 . have hk:(k+(its.toArray.size:Int)).toNat=j:=by rw[seqIndex_neg (by omega) h3]at h1;rw[YM,<-hl];exact Y5 h1
   exact W.ki_setBack ho (by omega) (by rw[YM,<-hl]; exact h3) (by omega) (by rw[hk]; exact⟨_,I',q⟩)
theorem Bo (lo hi:Option Int) (n:Nat):(sliceBounds lo hi none n).1=((HT.sIx n 0 lo:Nat):Int)/\(sliceBounds lo hi none n).2.1=((HT.sIx n n hi:Nat):Int)/\(sliceBounds lo hi none n).2.2=1:=by
 refine⟨?_,?_,rfl⟩
 . cases lo with
   | none=>simp[sliceBounds,HT.sIx]
   | some i=>
    simp only[sliceBounds,HT.sIx,Option.getD_none,show (1:Int)>0 by decide,if_true];by_cases h:i<0
    . simp only[h,if_true]<;>omega
    . simp only[h,if_false]<;>omega
 . cases hi with
   | none=>simp[sliceBounds,HT.sIx]
   | some i=>
    simp only[sliceBounds,HT.sIx,Option.getD_none,show (1:Int)>0 by decide,if_true];by_cases h:i<0
    . simp only[h,if_true]<;>omega
    . simp only[h,if_false]<;>omega
theorem Ad (its:List Value) (lo hi:Option Int):slicePick its.toArray lo hi none=((its.drop (HT.sIx its.length 0 lo)).take (HT.sIx its.length its.length hi-HT.sIx its.length 0 lo)).toArray:=by obtain⟨h1,h2,h3⟩:=Bo lo hi its.toArray.size;unfold slicePick;rw[h1,h2,h3];simp only[sliceRange_one,pick_run,YM]<;>rfl
def Xz (K:FG):V->Option Int->Option Int->Hp->VK->Prop:=λx lo hi H Q=>∃a xs,x=.ref a/\bJ K H a xs/\∀p,H p=none->Q (.ref p) (upd H p (.lst (oG xs lo hi)))
theorem QT:yZ X (Xz X.K):=by intro abQ s Y H x v vl vu lo hi sl Q I rx hs pl pu h;obtain⟨a,xs,rfl,hx,q⟩:=h;cases rx;obtain⟨its,r,ht,hz⟩:=I.list hx;have hlen:=r.length;refine⟨"list",_,slot_list_getitem.lookup,ht.isList.typeIs,?_⟩;refine wpAny_getItem_list_slice ht.isList hs pl pu .none (by simp) ?_ (by rw[YM]<;>omega);rw[Ad,<-hlen];refine⟨.ref s.heap.objs.size,_,I.laid (t':=s.toks) (o:=.lst (oG xs lo hi)) (λb ob q=>YD _ q) (YC _) ?_,rfl,q _ (I.hok.fresh (YC _))⟩;exact⟨Zc (vA xs lo hi) hz,_,0,(r.drop (HT.sIx xs.length 0 lo)).take (HT.sIx xs.length xs.length hi-HT.sIx xs.length 0 lo),YT _ rfl⟩
def nM:V->Bool
 | .non=>true
 | .bl _=>true
 | .int _=>true
 | .str _=>true
 | _=>false
theorem Bp:jx X (.type "list") (λxs H Q=>∃p ys,xs=[.ref p]/\(bJ X.K H p ys\/cg X.K H p ys)/\∀l,H l=none->Q (.ref l) (upd H l (.lst ys))):=by
 intro abQ s Y H xs us Q I r h;obtain⟨p,ys,rfl,hq,q⟩:=h;obtain⟨u,rfl,rx⟩:=vals1 r;cases rx;have fin:∀(its:List Value),Vals ys its->ys.length<=sizeLine->∀(h':Heap) (c':Nat),(∀b o',s.heap.get? b=some o'->h'.get? b=some o')->
  h'.get? s.heap.objs.size=some { cls:=.type "list",dict:=none,data:=.seq its.toArray c',slots:=#[] }->EP X abQ Y Q (.ref s.heap.objs.size) { s with heap:=h' }:=λits r' hz h' c' kp e=>
  ⟨.ref s.heap.objs.size,_,I.laid (t':=s.toks) kp (YC _) (show cU X.prog X.w _ h' _ (.lst ys) from ⟨hz,its,c',r',e⟩),rfl,q _ (I.hok.fresh (YC _))⟩
 rcases hq with hq | hq
 . obtain⟨its,r',pl,hz⟩:=I.list hq;have hlen:=r'.length;obtain⟨o,ho,hc,n,hd⟩:=pl.isList;exact call_list_seq p (.inl rfl) ho hc hd (λh' c' kp e=>fin its r' hz h' c' kp e) (by simp only[YM]<;>omega)
 . obtain⟨its,r',pl,hz⟩:=I.tuple hq;have hlen:=r'.length;obtain⟨o,ho,hc,n,hd⟩:=pl;exact call_list_seq p (.inr rfl) ho hc hd (λh' c' kp e=>fin its r' hz h' c' kp e) (by simp only[YM]<;>omega)
def Uc (K:FG) (T:String) (x:V) (H:Hp):Prop:=match x with
 | .str _=>T = "str"
 | .int _=>T = "int"
 | .ref p=>(T = "list" /\ ∃xs,bJ K H p xs)\/(T = "tuple" /\ ∃o,K.lookup p=some o/\o.cls=.type "tuple" /\ o.dict=none)\/
  (T = "dict" /\ ((∃kvs,H p=some (.dK kvs))\/∃kvs,H p=some (.dT kvs)))\/(T = "set" /\ ∃S n,H p=some (.set S n))
 | _=>False
theorem JH {Y:St} {H:Hp} {T:String} {x:V} {v:Value} (I:Inv X abQ Y H s) (r:RelV x v) (ty:Uc X.K T x H):
 s.TypeIs v T/\∀a,v=.ref a->∃ob,s.heap.get? a=some ob/\ob.dict=none:=by
 cases x with
 | str z=>
  obtain⟨t,rfl⟩:=r;cases (show T = "str" from ty);exact⟨typeIs_str s z t,λ_ e=>nomatch e⟩
 | int i=>
  obtain⟨t,rfl⟩:=r;cases (show T = "int" from ty);exact⟨typeIs_int s i t,λ_ e=>nomatch e⟩
 | ref p=>
  cases r;rcases ty with ⟨rfl,xs,hq⟩ | ⟨rfl,o,hk,hc,hd⟩ | ⟨rfl,hk⟩ | ⟨rfl,S,n,hk⟩
  . obtain⟨its,_,pl,_⟩:=I.list hq;refine⟨pl.isList.typeIs,λa e=>?_⟩;cases e;obtain⟨o,n,e,c,hd,_⟩:=pl;exact⟨o,e,hd⟩
  . refine⟨⟨o,I.kIn p o hk,hc⟩,λa e=>?_⟩;cases e;exact⟨o,I.kIn _ o hk,hd⟩
  . have z:∃o,s.heap.get? p=some o/\o.ExactDict:=by
     rcases hk with ⟨kvs,hk⟩ | ⟨kvs,hk⟩
     . obtain⟨_,_,_,_,o,_,_,e,ex,_⟩:=I.hok p _ hk;exact⟨o,e,ex⟩
     . obtain⟨_,_,_,_,o,_,_,e,ex,_⟩:=I.hok p _ hk;exact⟨o,e,ex⟩
    obtain⟨o,e,ex⟩:=z;refine⟨⟨o,e,ex.1⟩,λa e2=>?_⟩;cases e2;exact⟨o,e,ex.2.1⟩
  . obtain⟨o,_,_,_,e,ex,_⟩:=I.hok p _ hk;refine⟨⟨o,e,ex.1⟩,λa e2=>?_⟩;cases e2;exact⟨o,e,ex.2.1⟩
 | _=>exact False.elim ty
def Mz (K:FG) (T:String) (r:V->List V->Hp->VK->Prop) (to:TE):TE:=λY H Q=>to Y H λx H1=>Uc K T x H1/\r x [] H1 Q
def Fv (K:FG) (T:String) (r:V->List V->Hp->VK->Prop) (to:TE) (t:TA):TE:=λY H Q=>to Y H λx H1=>Uc K T x H1/\t Y H1 λxs H2=>r x xs H2 Q
variable {o e:Expr} {es:List Expr} {to:TE} {t:TA} {name:Str} {apos cpos:Pos} {T id:String} {r:V->List V->Hp->VK->Prop}
theorem JK (pa:PlainAttrs T) (slot:Slot T name id) (hty:typeOf (.builtin id)=pure (.type "method_descriptor")) (hm:Pr X id r) (ho:PE X o to)
 (hbase:attributeBase o name X.env (eval o X.env)=eval o X.env:=by rfl) (hline:(apos.endLine==cpos.line)=true:=by rfl):PE X (.Call (.Attribute o name apos) [] [] cpos) (Mz X.K T r to):=by
 intro abQ s Y H Q I h;refine wpAny_Call_method0_late hbase hline (bI (ho abQ s Y H _ I h) λv s1 zqz=>?_);obtain⟨x,H1,I1,r1,ty,q1⟩:=zqz;obtain⟨h1,h2⟩:=JH I1 r1 ty;exact⟨T,id,pa,slot,hty,h1,h2,Calls.callWith_builtin rfl (PySem.evalArgs_none (hm abQ s1 Y H1 x [] v [] Q I1 r1 .nil q1))⟩
theorem pI (pa:PlainAttrs T) (slot:Slot T name id) (hty:typeOf (.builtin id)=pure (.type "method_descriptor")) (hm:Pr X id r) (ho:PE X o to) (ha:PA X (e::es) t)
 (hbase:attributeBase o name X.env (eval o X.env)=eval o X.env:=by rfl)
 (hfew:((backTo cpos (starEach (e::es) X.env)).all (λx=>!x.1)&&(backToKw cpos (keywordEach [] X.env)).all (λx=>x.1.isSome)
   && decide ((e::es).length+([]:List Keyword).length+(if ([]:List Keyword).isEmpty then 0 else 1)<30))=true:=by rfl)
 (hline:(apos.endLine==cpos.line)=true:=by rfl) (hs:starEach (e::es) X.env=(false,eval e X.env)::starEach es X.env:=by rfl) (hplain:(backTo cpos (starEach es X.env)).any (·.1)=false:=by rfl):
 PE X (.Call (.Attribute o name apos) (e::es) [] cpos) (Fv X.K T r to t):=by
 intro abQ s Y H Q I h;refine wpAny_Call_method_late hbase hfew hline rfl (bI (ho abQ s Y H _ I h) λv s1 zqz=>?_);obtain⟨x,H1,I1,r1,ty,q1⟩:=zqz;obtain⟨h1,h2⟩:=JH I1 r1 ty;refine⟨T,id,pa,slot,hty,h1,h2,?_⟩;have hA:=ha cpos abQ s1 Y H1 _ I1 q1;rw[hs]at hA ⊢;refine Calls.callWith_builtin (by show (false||(backTo cpos (starEach es X.env)).any (·.1))=false; rw[hplain]<;>rfl) (Calls.evalArgs_plain ?_);exact bI hA λus s2 ⟨vs,H2,I2,r2,q2⟩=>hm abQ s2 Y H2 x vs v us Q I2 r1 r2 q2
end
def Fw (X:Cx) (id:String) (r:V->List V->Hp->VK->Prop):Prop:=
 ∀(abQ:List (Addr×Obj)) (s:Shared) (Y:St) (H:Hp) (x:V) (xs:List V) (v:Value) (us:List Value) (Q:VK),Inv X abQ Y H s->RelV x v->Vals xs us->r x xs H Q->
  wpAny (model X.prog X.w) X.A (call (.builtin id) (v::us)) (EP X abQ Y Q) X.xe s
theorem Vals.ci {x:V} {xs:List V} {us:List Value} (h:Vals (x::xs) us):∃u r,us=u::r/\RelV x u/\Vals xs r:=by cases h with
 | cons r t=>exact⟨_,_,rfl,r,t⟩
theorem Vals.one {x:V} {us:List Value} (h:Vals [x] us):∃u,us=[u]/\RelV x u:=by obtain⟨u,r,rfl,a,t⟩:=h.ci;cases t;exact⟨u,rfl,a⟩
theorem Vals.two {x y:V} {us:List Value} (h:Vals [x,y] us):∃u v,us=[u,v]/\RelV x u/\RelV y v:=by obtain⟨u,r,rfl,a,t⟩:=h.ci;obtain⟨v,e,b⟩:=t.one;exact⟨u,v,by rw[e],a,b⟩
theorem Vals.zero:∀{us:List Value},Vals [] us->us=[]
 | _,.nil=>rfl
theorem Vals.dropLast {xs:List V} {us:List Value} (h:Vals xs us):Vals xs.dropLast us.dropLast:=by
 induction h with
 | nil=>exact .nil
 | cons r t ih=>
  cases t with
  | nil=>exact .nil
  | cons q t'=>exact .cons r ih
theorem Vals.eraseIdx:∀{xs:List V} {us:List Value} (i:Nat),Vals xs us->Vals (xs.eraseIdx i) (us.eraseIdx i)
 | _,_,_,.nil=>.nil
 | _,_,0,.cons _ t=>t
 | _,_,i+1,.cons r t=>.cons r (Vals.eraseIdx i t)
theorem Vals.reverse {xs:List V} {us:List Value} (h:Vals xs us):Vals xs.reverse us.reverse:=by
 induction h with
 | nil=>exact .nil
 | cons r t ih=>rw[List.reverse_cons,List.reverse_cons]; exact Vals.append ih (.cons r .nil)
theorem Ii {α:Type} (l:List α):l.eraseIdx (l.length-1)=l.dropLast:=by
 induction l with
 | nil=>rfl
 | cons a r ih=>
  cases r with
  | nil=>rfl
  | cons b r=>
   have e:(a::b::r).length-1=((b::r).length-1)+1:=by have h1:(a::b::r).length=r.length+2:=rfl;have h2:(b::r).length=r.length+1:=rfl;omega
   rw[e,List.eraseIdx_cons_succ,ih]
   all_goals rfl
theorem zc {α:Type}:∀(l:List α) (i:Nat),(l.eraseIdx i).length<=l.length
 | [],_=>YC _
 | _::_,0=>Z8 _
 | _::r,i+1=>Nat.succ_le_succ (zc r i)
section
variable {X:Cx} {abQ:List (Addr×Obj)} {Y:St} {H:Hp} {s:Shared} {l b:Addr} {xs ys zs:List V}
theorem Inv.lset {its its':List Value} {n:Nat} {f:Array Value->Array Value} {t':Nat} (I:Inv X abQ Y H s) (hH:H l=some (.lst xs))
 (e:s.heap.get? l=some { cls:=.type "list",data:=.seq its.toArray n }) (hf:f its.toArray=its'.toArray) (hv:Vals ys its') (hz:ys.length<=sizeLine):
 Inv X abQ Y (upd H l (.lst ys)) { s with heap:=s.heap.update l (Obj.mapSeq f),toks:=t' }:=by
 have q:=PySem.IsL.update e f;rw[hf]at q;refine I.write (x:=l) (e:=l) (by rw[hH]; exact trivial) (.inl rfl) (λb' u hb hu=>(Zx s.heap (Obj.mapSeq f) (Ne.symm hb)).trans hu) ⟨_,q⟩ ?_;exact⟨hz,its',_,hv,q⟩
theorem Inv.lnew {its:List Value} {t':Nat} (I:Inv X abQ Y H s) (hv:Vals ys its) (hz:ys.length<=sizeLine):
 Inv X abQ Y (upd H s.heap.objs.size (.lst ys)) { s with heap:=s.heap.push { cls:=.type "list",data:=.seq its.toArray },toks:=t' }:=
 I.laid (λ_ _ q=>YD _ q) (YC _) ⟨hz,its,0,hv,YT _ rfl⟩
theorem Inv.fresh (I:Inv X abQ Y H s):H s.heap.objs.size=none:=I.hok.fresh (YC _)
theorem Inv.lstM (I:Inv X abQ Y H s) (hH:H l=some (.lst xs)):xs.length<=sizeLine/\∃(its:List Value) (n:Nat),Vals xs its/\xs.length=its.length/\s.heap.get? l=some { cls:=.type "list",data:=.seq its.toArray n }:=by obtain⟨z,its,n,r,e⟩:=I.hok l _ hH;exact⟨z,its,n,r,r.length,e⟩
theorem MF {n:Nat} (h:n<=sizeLine):Builtin.List.listTooLong n=false:=by unfold Builtin.List.listTooLong;exact aaQ (by omega)
end
section
variable {X:Cx}
def yj:V->List V->Hp->VK->Prop:=λx vs H Q=>∃l xs y,x=.ref l/\vs=[y]/\H l=some (.lst xs)/\xs.length<sizeLine/\Q .non (upd H l (.lst (xs++[y])))
theorem mO:Fw X "list.append" yj:=by intro abQ s Y H x vs v us Q I rx rv h;obtain⟨l,xs,y,rfl,rfl,hH,hz,q⟩:=h;cases rx;obtain⟨u,rfl,ru⟩:=rv.one;obtain⟨z,its,n,r,hl,e⟩:=I.lstM hH;refine call_meets F.slot_list_append ⟨_,e,rfl⟩ F.entry_list_append (F.args_list_append_2 _ _) (PySem.list_append l its.toArray n u (by rw[YM]; omega)) ⟨e,?_⟩;refine⟨.non,_,I.lset (its':=its++[u]) hH e (by simp) (r.append (.cons ru .nil)) ?_,rfl,q⟩;rw[YJ,List.length_singleton];omega
def Ud:V->List V->Hp->VK->Prop:=λx vs H Q=>∃l xs y,x=.ref l/\vs=[]/\H l=some (.lst xs)/\xs[xs.length-1]?=some y/\Q y (upd H l (.lst xs.dropLast))
theorem Ue:Fw X "list.pop" Ud:=by
 intro abQ s Y H x vs v us Q I rx rv h;obtain⟨l,xs,y,rfl,rfl,hH,hy,q⟩:=h;cases rx;have hus:=rv.zero;subst hus;obtain⟨z,its,n,r,hl,e⟩:=I.lstM hH;obtain⟨u,hu,ru⟩:=r.get hy;have hy':its.toArray[its.toArray.size-1]?=some u:=by show its.toArray[its.length-1]?=some u;rw[<-Array.getElem?_toList,<-hl];exact hu
 refine call_meets F.slot_list_pop ⟨_,e,rfl⟩ F.entry_list_pop (F.args_list_pop_1 _) (MeetsSeq.list_pop_last l its.toArray n u hy' (by rw[YM]; omega)) ⟨e,?_⟩;refine⟨y,_,I.lset (its':=its.dropLast) hH e ?_ r.dropLast ?_,ru,q⟩
 . show its.toArray.eraseIdxIfInBounds (its.toArray.size-1)=its.dropLast.toArray;rw[YM,List.eraseIdxIfInBounds_toArray,Ii]
 . rw[List.length_dropLast];omega
def JL:V->List V->Hp->VK->Prop:=λx vs H Q=>∃l xs i k y,x=.ref l/\vs=[.int i]/\H l=some (.lst xs)/\-(2 ^ 63)<=i/\i<2 ^ 63/\seqIndex? i xs.length=some k/\xs[k]?=some y/\Q y (upd H l (.lst (xs.eraseIdx k)))
theorem MJ:Fw X "list.pop" JL:=by
 intro abQ s Y H x vs v us Q I rx rv h;obtain⟨l,xs,i,k,y,rfl,rfl,hH,h1,h2,hk,hy,q⟩:=h;cases rx;obtain⟨u,rfl,ru⟩:=rv.one;obtain⟨t,rfl⟩:=ru;obtain⟨z,its,n,r,hl,e⟩:=I.lstM hH;obtain⟨w,hw,rw'⟩:=r.get hy;refine call_meets F.slot_list_pop ⟨_,e,rfl⟩ F.entry_list_pop (F.args_list_pop_2 _ _)
  (MeetsSeq.list_pop_at l its.toArray n i t k w (fitsIndex_both h1 h2) (by rw[YM,<-hl]; exact hk) (by rw[<-Array.getElem?_toList]; exact hw) (by rw[YM]; omega)) ⟨e,?_⟩
 refine⟨y,_,I.lset (its':=its.eraseIdx k) hH e ?_ (r.eraseIdx k) ?_,rw',q⟩
 . show its.toArray.eraseIdxIfInBounds k=(its.eraseIdx k).toArray;rw[List.eraseIdxIfInBounds_toArray]
 . have:=zc xs k;omega
def Bq:V->List V->Hp->VK->Prop:=λx vs H Q=>∃l xs,x=.ref l/\vs=[]/\H l=some (.lst xs)/\Q .non (upd H l (.lst xs.reverse))
theorem Ij:Fw X "list.reverse" Bq:=by intro abQ s Y H x vs v us Q I rx rv h;obtain⟨l,xs,rfl,rfl,hH,q⟩:=h;cases rx;have hus:=rv.zero;subst hus;obtain⟨z,its,n,r,hl,e⟩:=I.lstM hH;refine call_meets F.slot_list_reverse ⟨_,e,rfl⟩ F.entry_list_reverse (F.args_list_reverse_1 _) (AutoSeq1.list_reverse_list_0 l its.toArray n (by rw[YM]; omega)) ⟨e,?_⟩;refine⟨.non,_,I.lset (its':=its.reverse) hH e (by simp) r.reverse ?_,rfl,q⟩;rw[List.length_reverse];omega
end
section
variable {prog:Program}
end
section
variable {X:Cx}
end
end L2
namespace Att
open PySem PySem.W PySem.Calls PyProof.Rows
theorem wN {P:Params} {h:Heap}:∀(ns:List Int) (vs:List Value),WellAll P h vs (ns.map WData.int)->IntsAre vs ns:=by
 intro ns;induction ns with
 | nil=>
  intro vs w;rw[aao]at w;cases w;exact .nil
 | cons n ns ih=>
  intro vs w;rw[YW]at w;cases w with
  | cons a b=>
   cases a;exact .cons _ _ (ih _ b)
theorem JM {l:OpenLaw} {n:Nat} (hn:l.most=some n) {P:Params} {h:Heap} {args:List WData} {vals:List Value}
 (hpre:l.row.toRowW.claim.pre args=true) (hwl:WellAll P h vals args):
 ∃a vs ns,vals=[Value.ref a]/\args=[WData.list (ns.map WData.int)]/\h.get? a=some { cls:=.type "list",data:=.seq vs.toArray }/\IntsAre vs ns/\ns.length<=n:=by
 have hsh:WShape.hasAll [] args [.list .int]=true:=(pre_splitW hpre).1;have hc:l.pre.holds [] { args:=args }=true:=(pre_splitW hpre).2;obtain⟨d,r,rfl,h1,h2⟩:=hasAllW_cons hsh;obtain rfl:=hasAllW_nil h2;obtain⟨xs,rfl,h3⟩:=hasW_list h1;obtain⟨ns,rfl⟩:=items_int h3;have hlen:ns.length<=n:=by
  unfold OpenLaw.pre at hc;have h4:(WTm.not (.lt (.lit (.int (n:Int))) (.len (.arg 0)))).holds [] { args:=[.list (ns.map .int)] }=true:=by have h4:=(holds_andW hc).1;rw[hn]at h4;exact h4
  have h5:=condW_of h4 (w_not (w_lt w_lit (w_len_list (w_arg rfl))));rw[YH]at h5;refine aaw λq=>?_;have q':(n:Int)<((ns.length:Nat):Int):=by omega
  first
   | (rw[aaR q']at h5; exact absurd h5 (by decide))
   | (simp at h5; omega)
 cases hwl with
 | cons w1 w2=>
  cases w2;cases w1 with
  | list ho hall=>exact⟨_,_,ns,rfl,rfl,ho,wN ns _ hall,hlen⟩
theorem JN (l:OpenLaw) (args:List WData):l.row.toRowW.claim.post args (.bool true) args=true:=
 postW_of (r:=l.row.toRowW) (X:=(true==true))
  (show WShape.has [] (.bool true) .bool=true by first | rfl | decide | simp[WShape.has,WShape.arms,WShape.armsAll])
  (show (WTm.eq .res (.lit (.bool true))).value [] { args:=args,res:=some (.bool true),after:=args }=some (.bool (true==true)) from w_eq_bool (w_res rfl) w_lit) rfl
theorem attach_call {l:OpenLaw} {n:Nat} {q:Program} {loose:List Str} {XP:(Str->Option Value)->Heap->Prop} {YP:World->Heap->Prop} {d:DefRec}
 (hn:l.most=some n) (hdf:d.params.defaults=[])
 (call:∀(w:World) (s₀ s₁:Shared) (mg mb:Str->Option Value) (fa:Addr) (o:Obj) (pm cd doc:Value) (a:Addr) (vs:List Value) (ns:List Int),
   Ground q loose [] XP w s₀ mg mb s₁.heap->YP w s₁.heap->
   s₁.heap.get? fa=some o->o.data=.func (docDef d.name d.params d.body d.scope pm cd doc)->s₁.heap.CodeRec cd d.name->mg d.name=some (.ref fa)->
   s₁.heap.get? a=some { cls:=.type "list",data:=.seq vs.toArray }->IntsAre vs ns->ns.length<=n->s₁.gens=#[]->
   codeAny (model l.prog w) callerA (.call (.ref fa) ⟨[.ref a],[]⟩) (λr s'=>r=.ok (.ret (.bool true))/\OldK s₁.heap s'.heap/\s'.os=s₁.os/\AllBare s'.gens) s₁):
 WalkO q loose XP YP l.row.toRowW d [] (λf vs=>PySem.call f vs):=by
 intro w s₀ s₁ mg mb G Y_ fa o pm cd doc dV kV ho hd hcd hD hmg hg args vals as hpre hlay hrd hwl hlo;obtain rfl:dV=.none:=Dflts.none hD hdf;obtain rfl:kV=.none:=Dflts.noKw hD;obtain⟨a,vs,ns,rfl,rfl,hobj,hints,hlen⟩:=JM hn hpre hwl;refine enter_call (codeAny_mono (call w s₀ s₁ mg mb fa o pm cd doc a vs ns G Y_ ho (fd_plain hd) hcd hmg hobj hints hlen hg) λr s' hq=>?_);obtain⟨rfl,h2,h3,h4⟩:=hq;exact⟨.inl ⟨.bool true,.bool true,[],rfl,λ_=>rfl,.bool true,JN l _,λ_=>⟨List.Pairwise.nil,λ_ hm=>(nomatch hm)⟩⟩,h2,h3,h4⟩
section
variable {prog:Program} {w:World} {A:Around} {E:Value->Shared->Prop} {s:Shared} {K:Frag}
end
end Att
namespace L2
open PySem PySem.Spec PyProof.Rows
variable {abQ:List (Addr×Obj)} {E:Value->Shared->Prop} {s:Shared} {A:Around} {w:World} {P:Program}
theorem zf:∀{vs:List Value} {ns:List Int},IntsAre vs ns->Vals (ns.map V.int) vs
 | _,_,.nil=>.nil
 | _,_,.cons n t h=>.cons ⟨t,rfl⟩ (zf h)
def Only (H:Hp):Prop:=∀b,H b=none\/∃o xs,H b=some (.frz o (.lst xs))
theorem MK {K:FG} {mg mb:Str->Option Value} {CX:sJ} {k:Nat} {fa a:Addr} {fd:FuncData} {x:Str} {sp:Sp} {s₁:Shared} {vs:List Value} {ns:List Int}
 (KX:K.In s₁.heap) (hns:s₁.heap.Ns mainGlobals mg) (hb:s₁.heap.Ns builtinsNs mb) (hbb:∀x:Str,x ≠ "__name__" -> mb x=bootBuiltins x) (hlim:s₁.heap.NoLimit) (hg:s₁.gens=#[])
 (ha:s₁.heap.get? a=some { cls:=.type "list",data:=.seq vs.toArray }) (hi:IntsAre vs ns) (hl:ns.length<=sizeLine) (hr:ni k callerA)
 (F:∀base:Heap,K.In base->base.Ns mainGlobals mg->j4 P w K mg base CX k fa fd [x] sp) (hbind:∀(s:Shared) (u:Value),BindsTo s fd ⟨[u],[]⟩ [(x,u)])
 (hsp:∀H:Hp,Only H->bJ K H a (ns.map V.int)->sp [.ref a] H (λv _=>v=.bl true) λ_ _ _=>False)
 (hCX:∀H e s',CX [] H s₁ (λ_ _ _=>False) e s'->False):
 codeAny (model P w) callerA (.call (.ref fa) ⟨[.ref a],[]⟩) (λr s'=>r=.ok (.ret (.bool true))/\OldK s₁.heap s'.heap/\s'.os=s₁.os/\AllBare s'.gens) s₁:=by
 have rv:=zf hi;have lenV:=hi.length;have core:∀H:Hp,Only H->bJ K H a (ns.map V.int)->gF P w H s₁.heap->(∀b,H b≠none->b=a)->(H a≠none->K.lookup a=none)->
  codeAny (model P w) callerA (.call (.ref fa) ⟨[.ref a],[]⟩) (λr s'=>r=.ok (.ret (.bool true))/\OldK s₁.heap s'.heap/\s'.os=s₁.os/\AllBare s'.gens) s₁:=by
  intro H hO hS hok hA hK;have base_of:∀{b:Addr} {o:Obj},s₁.heap.get? b=some o->H b=none->(qX s₁.heap H).get? b=some o:=λe n=>Ma e n;have noA:∀{b:Addr} {o:Obj} {es:Array DictEntry} {ep:Nat},s₁.heap.get? b=some o->o.data=.dict es ep->H b=none:=λ{b o es ep} e d=>by
   cases q:H b with
   | none=>rfl
   | some u=>
    have e':b=a:=hA b (by rw[q]; simp);subst e';rw[ha]at e; cases e;have d':Data.seq vs.toArray _=Data.dict es ep:=d;cases d'
  have nsK:∀{b:Addr} {m:Str->Option Value},s₁.heap.Ns b m->(qX s₁.heap H).Ns b m:=λ{b m} ⟨o,es,ep,e,d,r⟩=>⟨o,es,ep,base_of e (noA e d),d,r⟩;have hKb:K.In (qX s₁.heap H):=λb o e=>base_of (KX b o e) (by
   cases q:H b with
   | none=>rfl
   | some u=>
    have e':b=a:=hA b (by rw[q]; simp);subst e';rw[hK (by rw[q]; simp)]at e; cases e)
  have hM:Mod K mg (qX s₁.heap H):=⟨hKb,nsK hns,⟨mb,nsK hb,hbb⟩,let ⟨mc,h1,h2⟩:=hlim; ⟨mc,nsK h1,h2⟩⟩;have e0:vO P w K mg (qX s₁.heap H) callerA [] s₁ H:=⟨rfl,hM,λb o e=>Qs e,Nat.le_of_eq (Jt _ _),trivial,λb hb=>absurd (show b∈([]:List Addr) from hb) (by simp),hok,.of_eq hg⟩;refine codeAny_mono ((F _ hKb (nsK hns)).run callerA [] s₁ H ⟨[.ref a],[]⟩ [.ref a] [.ref a] _ _ hr e0 (hbind s₁ (.ref a)) (.cons rfl .nil) (hsp H hO hS)) λr s' h=>?_;cases r with
  | error e=>exact(hCX H e s' h).elim
  | ok fl=>
   cases fl with
   | next=>exact False.elim h
   | brk=>exact False.elim h
   | cont=>exact False.elim h
   | ret u=>
    obtain⟨v,H',os,bare,un,hok',r',q⟩:=h;have q':v=.bl true:=q;subst q';obtain rfl:u=Value.bool true:=r';refine⟨rfl,OldK.of_keep λb o e=>?_,os,bare⟩;cases q:H b with
    | none=>exact un.keep b o e q (by intro z; exact absurd (show b∈([]:List Addr) from z) (by simp)) (by simp)
    | some u=>
     rcases hO b with z | ⟨ob,xs,z⟩
     . rw[q]at z; cases z
     . have z2:=un.frzs b ob _ z;obtain⟨e1,_⟩:=hok b _ z;obtain⟨e2,_⟩:=hok' b _ z2;rw[e]at e1; cases e1;exact e2
 cases hk:K.lookup a with
 | some o=>
  have e:=KX a o hk;rw[ha]at e;cases e;refine core (λ_=>none) (λ_=>.inl rfl) (.inr ⟨_,vs.toArray,_,hk,rfl,rfl,rfl,by rw[YM,lenV]; exact hl,by simpa using rv⟩) (λb u z=>by have z':(none:Option HO)=some u:=z; cases z') (λb z=>absurd rfl z) λz=>absurd rfl z
 | none=>
  refine core (λb=>if b=a then some (.frz { cls:=.type "list",data:=.seq vs.toArray } (.lst (ns.map V.int))) else none) (λb=>?_) (.inl (.inr ⟨{ cls:=.type "list",data:=.seq vs.toArray },aaN rfl⟩)) (λb u z=>?_) (λb z=>?_) λ_=>hk
  . by_cases hb:b=a
    . exact .inr ⟨_,_,aaN hb⟩
    . exact .inl (aaO hb)
  . by_cases hb:b=a
    . have z':=(aaN hb).symm.trans z;cases z';subst hb;exact⟨ha,by rw[YH]; exact hl,vs,_,rv,ha⟩
    . have z':=(aaO hb).symm.trans z;cases z'
  . by_cases hb:b=a
    . exact hb
    . exact absurd (aaO hb) z
theorem walk_of {l:W.OpenLaw} {n k:Nat} {q:Program} {loose:List Str} {XP:(Str->Option Value)->Heap->Prop} {YP:World->Heap->Prop} {d:DefRec} {K:Params->FG} {CX:World->sJ} {sp:World->Sp} {x:Str}
 (hn:l.most=some n) (hn2:n<=sizeLine) (hdf:d.params.defaults=[]) (hr:ni k callerA)
 (hY_:∀(w:World) (h:Heap),YP w h->(K w.params).In h)
 (F:∀(w:World) (mg:Str->Option Value) (fa:Addr) (h:Heap),(K w.params).In h->h.Ns mainGlobals mg->mg d.name=some (.ref fa)->
   ∃fd:FuncData,(∀(s:Shared) (u:Value),BindsTo s fd ⟨[u],[]⟩ [(x,u)])/\
    ∀base:Heap,(K w.params).In base->base.Ns mainGlobals mg->j4 l.prog w (K w.params) mg base (CX w) k fa fd [x] (sp w))
 (hsp:∀(w:World) (H:Hp) (a:Addr) (ns:List Int),ns.length<=n->Only H->bJ (K w.params) H a (ns.map V.int)->sp w [.ref a] H (λv _=>v=.bl true) λ_ _ _=>False)
 (hCX:∀(w:World) (H:Hp) (s:Shared) (e:Value) (s':Shared),CX w [] H s (λ_ _ _=>False) e s'->False):
 W.WalkO q loose XP YP l.row.toRowW d [] (λf vs=>PySem.call f vs):=by
 refine Att.attach_call hn hdf λw s₀ s₁ mg mb fa o pm cd doc a vs ns G Y_ ho hd hcd hmg hobj hints hlen hg=>?_;have KX:=hY_ w _ Y_;obtain⟨fd,hb,hF⟩:=F w mg fa _ KX G.T.g hmg;exact MK KX G.T.g G.T.b G.T.builtins G.T.nolimit hg hobj hints (Zc hlen hn2) hr hF hb (λH hO hS=>hsp w H a ns hlen hO hS) λH e s'=>hCX w H s₁ e s'
def inClass (s:Stmt) (j:Nat):Stmt:=match s with
 | .ClassDef _ _ _ body _ _ _ _ _ _ _=>body.getD j (.Pass ⟨0,0,0,0⟩)
 | _=>.Pass ⟨0,0,0,0⟩
def lM (s:Stmt):Arguments:=match s with
 | .FunctionDef _ a _ _ _ _ _ _ _ _=>a
 | _=>{ posonlyargs:=[],args:=[],vararg:=none,kwonlyargs:=[],kw_defaults:=[],kwarg:=none,defaults:=[] }
def gM (s:Stmt):List Stmt:=match s with
 | .FunctionDef _ _ b _ _ _ _ _ _ _=>b
 | _=>[]
def aJ (s:Stmt):Scope:=match s with
 | .FunctionDef _ _ _ _ _ _ sc _ _ _=>sc
 | _=>{ kind:=.function,names:=[],isGenerator:=false,isCoroutine:=false }
abbrev lG:sJ:=λ_ _ _ _ _ _=>False
abbrev E0:XK:=λ_ _ _=>False
theorem Aq {X:Cx}:tO lG X E0:=λ_ _ _ _ _ _ _ h=>h.elim
structure pJ (K:FG) (x qual:Str) (st:Stmt) (f:Addr) (fd:FuncData):Prop where
 ex:∃(oc:Value) (od:Option Addr) (kV doc pm:Value) (an:Option Addr) (cdv ct:Value) (osl:Array (Option Value)),
  fd=W.fnOf x qual (lM st) (gM st) (aJ st) .none kV doc pm an cdv ct/\K.lookup f=some ⟨oc,od,.func fd,osl⟩/\W.codeIn K cdv qual=true
 kp:W.keepIn K (.ref f)=true
section
variable {P:Program} {w:World} {K:FG} {mg:Str->Option Value} {base:Heap}
theorem pJ.ok {b:Bool} {x qual:Str} {st:Stmt} {f:Addr} {fd:FuncData} {N ps:List Str} {k:Nat} {sp:Sp} (F:pJ K x qual st f fd) (S:bO N ps (aJ st)) (len:∀vs H Q E,sp vs H Q E->vs.length=ps.length)
 (hbody:∀(cdv:Value) (A:Around) (outer:List Env) (s:Shared) (H:Hp) (vs:List V) (Q:VK) (E:XK),dO b k (A.deeper (envOfC qual (aJ st) s.heap.objs.size f cdv))->sp vs H Q E->
   ∃t,ir (pH b lG P w K mg base N qual (aJ st) f cdv A outer s H E).nox (gM st) t/\t { nx:=λ_ H'=>Q .non H',rt:=Q } (start N vs) H):nJ b P w K mg base lG (k+1) f fd ps sp:=by
 obtain⟨oc,od,kV,doc,pm,an,cdv,ct,osl,rfl,lk,hcd⟩:=F.ex;refine Wl lk hcd S len λA outer s H vs Q E hr hsp=>?_;obtain⟨t,h,q⟩:=hbody cdv A outer s H vs Q E hr hsp;exact⟨t,h.nox,q⟩
theorem pJ.binds {x qual:Str} {st:Stmt} {f:Addr} {fd:FuncData} {ps:List Str} (F:pJ K x qual st f fd)
 (h:∀(kV doc pm:Value) (an:Option Addr) (cdv ct:Value) (us:List Value),us.length=ps.length->bindArgs (W.fnOf x qual (lM st) (gM st) (aJ st) .none kV doc pm an cdv ct) ⟨us,[]⟩=pure (ps.zip us)):Binds K fd ps []:=by
 obtain⟨oc,od,kV,doc,pm,an,cdv,ct,osl,rfl,lk,hcd⟩:=F.ex;exact .all (h kV doc pm an cdv ct)
theorem tQ {x qual:Str} {st:Stmt} {f:Addr} {oc:Value} {od an:Option Addr} {osl:Array (Option Value)} {kV doc pm cdv ct:Value} (l:K.lookup f=some ⟨oc,od,.func (W.fnOf x qual (lM st) (gM st) (aJ st) .none kV doc pm an cdv ct),osl⟩)
 (c:W.codeIn K cdv qual=true) (k:W.keepIn K (.ref f)=true):pJ K x qual st f (W.fnOf x qual (lM st) (gM st) (aJ st) .none kV doc pm an cdv ct):=⟨⟨oc,od,kV,doc,pm,an,cdv,ct,osl,rfl,l,c⟩,k⟩
end
theorem pK {b:Bool} {k:Nat} (hr:dO b k A):A.units+1<cLine:=aaD (Nat.add_le_add_left (by decide:1<=64) _) hr.units
section
variable {X:Cx}
theorem pv (i:Nat) {x:Str} {pos:Pos} (hN:X.N[i]?=some x:=by rfl) (hv:Ju X.env.scope x:=by first | exact Or.inl rfl | exact Or.inr (Or.inl rfl) | exact Or.inr (Or.inr rfl)) (hd:(x==("__debug__" : Str))=false:=by decide)
 (hcd:(x==("__classdict__" : Str))=false:=by decide):PE X (.Name x pos) (mZ i):=SQ hN hv hd hcd
end
def cR (H H':Hp):Prop:=∀b o,H b=some o->H' b=some o
theorem cR.refl (H:Hp):cR H H:=λ_ _ h=>h
theorem cR.trans {H H1 H2:Hp} (a:cR H H1) (b:cR H1 H2):cR H H2:=λc o h=>b c o (a c o h)
theorem cR.free {H H':Hp} (e:cR H H') {l:Addr} (h:H' l=Option.none):H l=Option.none:=by
 cases q:H l with
 | none=>rfl
 | some o=>
  rw[e l o q]at h;cases h
theorem cR.seq {K:FG} {H H':Hp} {a:Addr} {xs:List V} (e:cR H H') (h:bJ K H a xs):bJ K H' a xs:=by
 rcases h with (h | ⟨o,h⟩) | h
 . exact .inl (.inl (e _ _ h))
 . exact .inl (.inr ⟨o,e _ _ h⟩)
 . exact .inr h
section
variable {κ:Type} [DecidableEq κ]
def qg (kvs:List (κ×V)) (k:κ):Option V:=(kvs.find? λkv=>decide (kv.1=k)).map (·.2)
def putK (kvs:List (κ×V)) (k:κ) (v:V):List (κ×V):=
 if (kvs.any λkv=>decide (kv.1=k))=true then kvs.map (λkv=>if kv.1=k then (kv.1,v) else kv) else kvs++[(k,v)]
theorem vQ {p:κ×V} {r:List (κ×V)} {k:κ} (e:p.1=k):qg (p::r) k=some p.2:=by simp[qg,aaz,e]
theorem vR {p:κ×V} {r:List (κ×V)} {k:κ} (e:¬ p.1=k):qg (p::r) k=qg r k:=by simp[qg,aaz,e]
theorem rm (k:κ):∀kvs:List (κ×V),(kvs.any λkv=>decide (kv.1=k))=(qg kvs k).isSome
 | []=>rfl
 | p::r=>by
  rw[aaF];by_cases e:p.1=k
  . simp only[vQ e,aaR e,Bool.true_or,Option.isSome_some]
  . rw[vR e,aaQ e,Bool.false_or]; exact rm k r
theorem qi (kvs:List (κ×V)) (k:κ) (v:V):(putK kvs k v).length<=kvs.length+1:=by
 unfold putK;split
 . rw[YH]; omega
 . rw[YJ,Yy,YK]; omega
theorem MN {kvs:List (κ×V)} {k:κ} (v:V) (h:qg kvs k=none):putK kvs k v=kvs++[(k,v)]:=by unfold putK;rw[rm,h];exact aaO (by decide)
theorem lJ.isSome_eq {o:Option V} {u:Option Value} (r:lJ o u):o.isSome=u.isSome:=by
 cases o with
 | none=>cases u with
  | none=>rfl
  | some _=>exact(show False from r).elim
 | some _=>cases u with
  | none=>exact(show False from r).elim
  | some _=>rfl
theorem KV.any {kvs:List (κ×V)} {vs:List (κ×Value)} (r:KV kvs vs) (k:κ):(kvs.any λkv=>decide (kv.1=k))=vs.any λkv=>decide (kv.1=k):=by
 unfold KV at r;induction r with
 | nil=>rfl
 | cons h t ih=>rw[aaF,aaF,ih,h.1]
theorem KV.repl {kvs:List (κ×V)} {vs:List (κ×Value)} (r:KV kvs vs) (k:κ) {y:V} {u:Value} (ry:RelV y u):
 KV (kvs.map λkv=>if kv.1=k then (kv.1,y) else kv) (vs.map λkv=>if kv.1=k then (kv.1,u) else kv):=by
 unfold KV at r ⊢;induction r with
 | nil=>exact .nil
 | @cons p q ps qs h t ih=>
  rw[YW,YW];refine .cons ?_ ih;obtain⟨h1,h2⟩:=h;by_cases e:p.1=k
  . rw[aaN e,aaN (h1.symm.trans e)]; exact⟨h1,ry⟩
  . rw[aaO e,aaO (λz=>e (h1.trans z))]; exact⟨h1,h2⟩
theorem KV.put {kvs:List (κ×V)} {vs:List (κ×Value)} (r:KV kvs vs) (k:κ) {y:V} {u:Value} (ry:RelV y u):KV (putK kvs k y) (stored vs k u):=by
 unfold putK stored;rw[r.any k];by_cases e:(vs.any λkv=>decide (kv.1=k))=true
 . rw[aaN e,aaN e]; exact r.repl k ry
 . rw[aaO e,aaO e]; exact Paired.snoc r ⟨rfl,ry⟩
theorem KV.keys {kvs:List (κ×V)} {vs:List (κ×Value)} (r:KV kvs vs):kvs.map (·.1)=vs.map (·.1):=by
 unfold KV at r;induction r with
 | nil=>rfl
 | cons h t ih=>rw[YW,YW,ih,h.1]
theorem KV.length {kvs:List (κ×V)} {vs:List (κ×Value)} (r:KV kvs vs):kvs.length=vs.length:=Paired.length r
end
theorem Ar {k:Key} {u:Value} (r:RelV (kV k) u):(bT P w).is k u=true:=by
 cases k with
 | inl i=>obtain⟨t,e⟩:=(show ∃t,u=Value.int i t from r); subst e; exact Eu P w i t
 | inr x=>obtain⟨t,e⟩:=(show ∃t,u=Value.str x t from r); subst e; exact Ew P w x t
theorem zg:∀{ks:List Key} {us:List Value},Vals (ks.map kV) us->ItemsAre (bT P w) ks us
 | [],_,r=>by rw[aao]at r; cases r; exact .nil
 | k::ks,_,r=>by
  rw[YW]at r;cases r with
  | cons h t=>exact .cons (Ar h) (zg t)
abbrev KT (H:Hp):List (List Key×V)->List (List Key×Addr×Value)->Prop:=Paired λp q=>p.1=q.1/\H q.2.1=some (.tup (p.1.map kV))/\RelV p.2 q.2.2
theorem KT.val {H:Hp} {kvs:List (List Key×V)} {xs:List (List Key×Addr×Value)} (r:KT H kvs xs) (k:List Key):lJ (qg kvs k) ((atKey xs k).map (·.2)):=by
 induction r with
 | nil=>exact True.intro
 | @cons p q ps qs h t ih=>
  obtain⟨h1,_,h2⟩:=h;by_cases e:p.1=k
  . have e':q.1=k:=h1.symm.trans e;have b:atKey (q::qs) k=some q.2:=by simp[atKey,aaz,e']
    rw[vQ e,b]; exact h2
  . have e':¬ q.1=k:=λz=>e (h1.trans z);have b:atKey (q::qs) k=atKey qs k:=by simp[atKey,aaz,e']
    rw[vR e,b]; exact ih
theorem KT.repl {H:Hp} {kvs:List (List Key×V)} {xs:List (List Key×Addr×Value)} (r:KT H kvs xs) (k:List Key) {y:V} {u:Value} (ry:RelV y u):
 KT H (kvs.map λkv=>if kv.1=k then (kv.1,y) else kv) (xs.map (putAt k u)):=by
 induction r with
 | nil=>exact .nil
 | @cons p q ps qs h t ih=>
  rw[YW,YW];refine .cons ?_ ih;obtain⟨h1,h2,h3⟩:=h;unfold putAt;by_cases e:p.1=k
  . rw[aaN e,aaN (h1.symm.trans e)]; exact⟨h1,h2,ry⟩
  . rw[aaO e,aaO (λz=>e (h1.trans z))]; exact⟨h1,h2,h3⟩
theorem KT.put {H:Hp} {kvs:List (List Key×V)} {xs:List (List Key×Addr×Value)} (r:KT H kvs xs) (k:List Key) {b:Addr} {y:V} {u:Value} (hb:H b=some (.tup (k.map kV))) (ry:RelV y u):
 KT H (putK kvs k y) (storedH xs k b u):=by
 have e:(kvs.any λkv=>decide (kv.1=k))=(atKey xs k).isSome:=by rw[rm,(r.val k).isSome_eq,Option.isSome_map]
 unfold putK storedH;rw[e];by_cases q:(atKey xs k).isSome=true
 . rw[aaN q,aaN q]; exact r.repl k ry
 . rw[aaO q,aaO q]; exact Paired.snoc r ⟨rfl,hb,ry⟩
theorem KT.keeps {H H':Hp} {kvs:List (List Key×V)} {xs:List (List Key×Addr×Value)} (r:KT H kvs xs) (ht:∀b ys,H b=some (.tup ys)->H' b=some (.tup ys)):KT H' kvs xs:=
 Paired.mapP r λ_ _ z=>⟨z.1,ht _ _ z.2.1,z.2.2⟩
section
variable {P:Program} {w:World} {H:Hp} {h:Heap} {a:Addr}
theorem Px {u:HO} (ok:gF P w H h) (e:Rd H a u):cU P w H h a u:=e.ok ok
theorem Wo {kvs:List (Key×V)} (ok:gF P w H h) (e:Rd H a (.dK kvs)):kvs.length<=sizeLine/\(a==sysModules)=false/\∃vs,KV kvs vs/\h.DictOf (bT P w) a vs:=
 show cU P w H h a (.dK kvs) from Px ok e
theorem Py {kvs:List (Key×V)} (ok:gF P w H h) (e:H a=some (.dK kvs)):kvs.length<=sizeLine/\(a==sysModules)=false/\∃vs,KV kvs vs/\h.DictOf (bT P w) a vs:=Wo ok (.inl e)
theorem JP {ks:List Key} (ok:gF P w H h) (e:H a=some (.tup (ks.map kV))):(tupleKind (bT P w)).is h ks a:=by obtain⟨_,its,r,o,h1,h2,n,h3⟩:=(show cU P w H h a (.tup (ks.map kV)) from ok a _ e);exact⟨o,its.toArray,n,h1,h2,h3,by simpa using zg r⟩
theorem Wq {kvs:List (List Key×V)} (ok:gF P w H h) (e:Rd H a (.dT kvs)):kvs.length<=sizeLine/\(a==sysModules)=false/\
 ∃xs,KT H kvs xs/\h.DictOfH (tupleKind (bT P w)) a xs:=by
 obtain⟨z,y,xs,r,o,es,ep,h1,h2,h3,h4,h5⟩:=(show cU P w H h a (.dT kvs) from Px ok e);refine⟨z,y,xs,r,o,es,ep,h1,h2,h3,h4,λx hx=>?_,h5⟩;have all:∀{l:List (List Key×V)} {m:List (List Key×Addr×Value)},KT H l m->∀x∈m,(tupleKind (bT P w)).is h x.1 x.2.1:=by
  intro l m q;induction q with
  | nil=>intro x hx; exact nomatch hx
  | @cons p q ps qs hq t ih=>
   intro x hx;rcases YF.mp hx with e | hx
   . subst e;exact JP ok (by rw[<-hq.1]; exact hq.2.1)
   . exact ih x hx
 exact all r x hx
theorem Wr {kvs:List (List Key×V)} (ok:gF P w H h) (e:H a=some (.dT kvs)):kvs.length<=sizeLine/\(a==sysModules)=false/\
 ∃xs,KT H kvs xs/\h.DictOfH (tupleKind (bT P w)) a xs:=Wq ok (.inl e)
end
def Ug (H:Hp) (a:Addr) (y v:V) (H':Hp):Prop:=
 (∃kvs k,H a=some (.dK kvs)/\y=kV k/\kvs.length<sizeLine/\H'=upd H a (.dK (putK kvs k v)))\/
 ∃kvs k b,H a=some (.dT kvs)/\y=.ref b/\H b=some (.tup (k.map kV))/\kvs.length<sizeLine/\H'=upd H a (.dT (putK kvs k v))
section
variable {X:Cx} {abQ:List (Addr×Obj)} {Y:St} {H:Hp} {s:Shared} {a:Addr} {y v:V} {u r:Value} {o:Option V} {A:Around} {E:Value->Shared->Prop}
theorem Inv.big (I:Inv X abQ Y H s):sysModules<s.heap.objs.size:=by have h:mainGlobals<s.heap.objs.size:=(I.mod.glob.keeps I.bk).lt;exact Nat.lt_trans (by decide) h
theorem uH {h':Heap} {t':Nat} {ob:HO} (I:Inv X abQ Y H s) (mu:Js (H a)) (hs:Heap.SameBut a s.heap h') (he:∃q,h'.get? a=some q) (new:cU X.prog X.w (upd H a ob) h' a ob):
 Inv X abQ Y (upd H a ob) { s with heap:=h',toks:=t' }:=
 I.write (x:=a) (e:=a) mu (.inl rfl) (λb q hb z=>(hs.2 b hb).trans z) he new
theorem JQ {H':Hp} {h':Heap} {kvs:List (Key×V)} {vs:List (Key×Value)} (z:kvs.length<=sizeLine) (hd:(a==sysModules)=false) (rel:KV kvs vs) (dd:h'.DictOf (bT P w) a vs):
 cU P w H' h' a (.dK kvs):=⟨z,hd,vs,rel,dd⟩
theorem JR {H':Hp} {Q:Unit->Shared->Prop} (hu:A.units+1<cLine) (I:Inv X abQ Y H s) (g:Ug H a y v H') (ry:RelV y u) (rv:RelV v r) (h:∀s',Inv X abQ Y H' s'->Q () s'):
 wpAny (model X.prog X.w) A (setItem (.ref a) u r) Q E s:=by
 rcases g with ⟨kvs,k,e,ey,l,eH⟩ | ⟨kvs,k,b,e,ey,eb,l,eH⟩
 . subst ey eH;obtain⟨z,hd,vs,rel,dd⟩:=Py I.hok e;have hz:vs.length<=sizeLine:=by rw[<-rel.length]; exact z
   have hl:(putK kvs k v).length<=sizeLine:=by have:=qi kvs k v; omega
   refine wpAny_setItem_pairs (hsz:=hz) (Ar ry) dd λh' dd' hs=>h _ ?_;have he:∃q,h'.get? a=some q:=let ⟨q,_,_,hq,_⟩:=dd'; ⟨q,hq⟩;exact uH I (by rw[e]; exact True.intro) hs he (JQ hl hd (rel.put k rv) dd')
 . subst ey eH;cases (show u=Value.ref b from ry);obtain⟨z,hd,xs,rel,dd⟩:=Wr I.hok e;have hz:xs.length<=sizeLine:=by rw[<-Paired.length rel]; exact z
   have hl:(putK kvs k v).length<=sizeLine:=by have:=qi kvs k v; omega
   refine wpAny_setItem_heap (hsz:=hz) (tupleKind_room_in1 hu) (JP I.hok eb) dd λh' dd' hs=>h _ ?_;obtain⟨q,es,ep,hq,h2,h3,h4,_,h5⟩:=dd';refine uH I (by rw[e]; exact True.intro) hs ⟨q,hq⟩ ⟨hl,hd,_,(rel.put k eb rv).keeps λc ys ec=>?_,q,es,ep,hq,h2,h3,h4,h5⟩;rw[bM (Wd ec e (λz=>nomatch z))];exact ec
end
section
variable {X:Cx} {abQ:List (Addr×Obj)} {Y:St} {H:Hp} {s:Shared} {a:Addr} {kvs:List (Key×V)} {k:Key} {u:Value} {A:Around} {E:Value->Shared->Prop}
end
section
variable {X:Cx} {o i e value:Expr} {pos pos' tpos:Pos} {td ty tv:TE}
end
theorem Br {H:Hp} (h:Heap) (hb:sysModules<h.objs.size):cU P w H (h.push { cls:=.type "dict",data:=.dict #[] }) h.objs.size (.dK []):=
 ⟨Zj _,aaS.mpr (Ne.symm (Zb hb)),[],.nil,Heap.DictOf.new h⟩
def Uh:TE:=λ_ H Q=>∀p,H p=none->Q (.ref p) (upd H p (.dK []))
section
variable {X:Cx} {pos:Pos}
theorem MP:PE X (.Dict [] [] pos) Uh:=λabQ s Y H Q I h=>
 wpAny_Dict_empty ⟨.ref s.heap.objs.size,_,I.laid (a:=s.heap.objs.size) (o:=.dK []) (t':=s.toks) (λ_ _ q=>YD _ q) (YC _) (Br s.heap I.big),rfl,h _ (I.hok.fresh (YC _))⟩
end
def wO:List (TE×TE)->St->Hp->(List (V×V)->Hp->Prop)->Prop
 | [],_,H,Q=>Q [] H
 | (tk,tv)::r,Y,H,Q=>tk Y H λx H1=>tv Y H1 λy H2=>wO r Y H2 λps H3=>Q ((x,y)::ps) H3
abbrev VV:List (V×V)->List (Value×Value)->Prop:=Paired λp q=>RelV p.1 q.1/\RelV p.2 q.2
def JS (X:Cx) (pos:Pos) (keys:List (Option Expr)) (values:List Expr) (trs:List (TE×TE)):Prop:=
 ∀(abQ:List (Addr×Obj)) (s:Shared) (Y:St) (H:Hp) (Q:List (V×V)->Hp->Prop),Inv X abQ Y H s->wO trs Y H Q->
  wpAny (model X.prog X.w) X.A (evalPairs (pairTrees keys values X.env pos)) (λvs s'=>∃ps H',Inv X abQ Y H' s'/\VV ps vs/\Q ps H') X.xe s
theorem QV {X:Cx} {pos:Pos}:JS X pos [] [] []:=λabQ s Y H Q I h=>pairTrees_nil_walk ⟨[],H,I,.nil,h⟩
theorem MT {X:Cx} {pos:Pos} {k v:Expr} {ks:List (Option Expr)} {vs:List Expr} {tk tv:TE} {trs:List (TE×TE)} (hk:PE X k tk) (hv:PE X v tv) (hr:JS X pos ks vs trs):
 JS X pos (some k::ks) (v::vs) ((tk,tv)::trs):=λabQ s Y H Q I h=>
 pairTrees_cons_walk (bI (hk abQ s Y H _ I h) λu s1 ⟨x,H1,I1,rx,q1⟩=>bI (hv abQ s1 Y H1 _ I1 q1) λw2 s2 ⟨y,H2,I2,ry,q2⟩=>
  bI (hr abQ s2 Y H2 _ I2 q2) λws s3 ⟨ps,H3,I3,rel,q3⟩=>⟨(x,y)::ps,H3,I3,.cons ⟨rx,ry⟩ rel,q3⟩)
def oJ (kvs more:List (Key×V)):List (Key×V):=more.foldl (λacc kv=>putK acc kv.1 kv.2) kvs
theorem KV.merge:∀{more:List (Key×V)} {rs:List (Key×Value)} {kvs:List (Key×V)} {vs:List (Key×Value)},KV more rs->KV kvs vs->KV (oJ kvs more) (merged vs rs):=by
 intro more rs kvs vs r;unfold KV at r;induction r generalizing kvs vs with
 | nil=>intro q; exact q
 | @cons p q ps qs h t ih=>
  intro r0;have e:KV (putK kvs p.1 p.2) (stored vs q.1 q.2):=by have:=r0.put p.1 h.2;rw[<-h.1]; exact this
  exact ih e
theorem sO:∀(more kvs:List (Key×V)),(oJ kvs more).length<=kvs.length+more.length
 | [],kvs=>by show kvs.length<=kvs.length+0; omega
 | p::r,kvs=>by have h1:=sO r (putK kvs p.1 p.2);have h2:=qi kvs p.1 p.2;show (oJ (putK kvs p.1 p.2) r).length<=_;rw[Yy]; omega
theorem wQ:∀{kvs:List (Key×V)} {ws:List (Value×Value)},VV (kvs.map λkv=>(kV kv.1,kv.2)) ws->∃rs,Carries (bT P w) ws rs/\KV kvs rs
 | [],_,r=>by rw[aao]at r; cases r; exact⟨[],True.intro,.nil⟩
 | p::kvs,_,r=>by
  rw[YW]at r;cases r with
  | @cons a b as bs h t=>
   obtain⟨rs,c,q⟩:=wQ t;obtain⟨b1,b2⟩:=b;exact⟨(p.1,b2)::rs,⟨Ar h.1,rfl,c⟩,.cons ⟨rfl,h.2⟩ q⟩
def Ws (trs:List (TE×TE)):TE:=λY H Q=>∀p,H p=none->wO trs Y (upd H p (.dK [])) λps H2=>H2 p=some (.dK [])/\∃kvs:List (Key×V),ps=kvs.map (λkv=>(kV kv.1,kv.2))/\kvs.length<=15/\Q (.ref p) (upd H2 p (.dK (oJ [] kvs)))
theorem QW {X:Cx} {pos:Pos} {keys:List (Option Expr)} {values:List Expr} {trs:List (TE×TE)} (h:JS X pos keys values trs) (hall:keys.all (·.isSome)=true) (hl:keys.length=values.length) (h0:keys≠[])
 (h15:keys.length<=15):PE X (.Dict keys values pos) (Ws trs):=by
 intro abQ s Y H Q I q;have hn:=I.hok.fresh (YC s.heap.objs.size);have I1:=I.laid (a:=s.heap.objs.size) (o:=.dK []) (h':=s.heap.push { cls:=.type "dict",data:=.dict #[] }) (t':=s.toks) (λ_ _ q=>YD _ q) (YC _) (Br s.heap I.big);refine wpAny_Dict_walk (knd:=bT X.prog X.w) hall hl h0 h15 (bI (h abQ _ Y _ _ I1 (q _ hn)) λws s2 zqz=>?_);obtain⟨ps,H2,I2,rel,e,kvs,ep,lk,q2⟩:=zqz;subst ep;obtain⟨rs,c,rk⟩:=wQ (P:=X.prog) (w:=X.w) rel;obtain⟨z,hd,vs0,r0,dd⟩:=Py I2.hok e;cases r0;refine⟨rs,c,dd,λh' dd' hs=>⟨.ref s.heap.objs.size,_,?_,rfl,q2⟩⟩;have hz:(oJ [] kvs).length<=sizeLine:=by have h1:=sO kvs [];rw[YK]at h1;rw[sizeLine_eq]; omega
 have he:∃q,h'.get? s.heap.objs.size=some q:=let ⟨q,_,_,hq,_⟩:=dd'; ⟨q,hq⟩;exact uH I2 (by rw[e]; exact True.intro) hs he (JQ hz hd (rk.merge .nil) dd')
section
variable {X:Cx} {abQ:List (Addr×Obj)} {Y:St} {H:Hp} {s:Shared} {a:Addr} {y d:V} {u r:Value} {o:Option V} {A:Around} {E:Value->Shared->Prop}
end
section
variable {X:Cx} {o e f:Expr} {apos cpos:Pos} {td ty tx:TE}
end
section
variable {X:Cx} {abQ:List (Addr×Obj)} {Y:St} {H:Hp} {s:Shared} {a:Addr} {kvs:List (Key×V)} {A:Around} {E:Value->Shared->Prop}
end
section
variable {X:Cx} {abQ:List (Addr×Obj)} {Y:St} {H:Hp} {s:Shared} {a:Addr} {y:V} {u:Value} {A:Around} {E:Value->Shared->Prop}
end
section
variable {X:Cx}
end
section
variable {κ:Type} [DecidableEq κ]
end
def pL (names:List (Str×NameKind)) (env:Env):List (Str×Addr):=names.foldl (λcs p=>if (p.2==NameKind.free)=true then (p.1,(env.cells.lookup p.1).getD 0)::cs else cs) []
theorem tR {env:Env}:∀(names:List (Str×NameKind)) (cs:List (Str×Addr)) (x:Str) (c:Addr),
 (∀y d,cs.lookup y=some d->d=(env.cells.lookup y).getD 0)->
 (names.foldl (λcs p=>if (p.2==NameKind.free)=true then (p.1,(env.cells.lookup p.1).getD 0)::cs else cs) cs).lookup x=some c->c=(env.cells.lookup x).getD 0
 | [],cs,x,c,h,e=>h x c e
 | (n,k)::r,cs,x,c,h,e=>by
  simp only[ZX]at e;refine tR r _ x c ?_ e;intro y d q;split at q
  . simp only[Zq]at q;split at q
    . rename_i z;have z':y=n:=by simpa using z
      rw[z']; exact(Y5 q).symm
    . exact h y d q
  . exact h y d q
theorem wR {env:Env}:∀(names:List (Str×NameKind)) (cs:List (Str×Addr)) (x:Str) (c:Addr),
 (names.foldl (λcs p=>if (p.2==NameKind.free)=true then (p.1,(env.cells.lookup p.1).getD 0)::cs else cs) cs).lookup x=some c->(∃d,cs.lookup x=some d)\/(x,NameKind.free)∈names
 | [],cs,x,c,e=>.inl ⟨c,e⟩
 | (n,k)::r,cs,x,c,e=>by
  simp only[ZX]at e;rcases wR r _ x c e with ⟨d,q⟩ | q
  . split at q
    . rename_i hk;simp only[Zq]at q;split at q
      . rename_i z;have z':x=n:=by simpa using z
        have k':k=NameKind.free:=by simpa using hk
        right; rw[z',k']; exact Yz
      . exact .inl ⟨d,q⟩
    . exact .inl ⟨d,q⟩
  . exact .inr (YG _ q)
theorem tU {env:Env}:∀(names:List (Str×NameKind)) (cs:List (Str×Addr)) (x:Str),
 ((∃d,cs.lookup x=some d)\/(x,NameKind.free)∈names)->∃c,(names.foldl (λcs p=>if (p.2==NameKind.free)=true then (p.1,(env.cells.lookup p.1).getD 0)::cs else cs) cs).lookup x=some c
 | [],cs,x,h=>by
  rcases h with h | h
  . exact h
  . cases h
 | (n,k)::r,cs,x,h=>by
  simp only[ZX];refine tU r _ x ?_;rcases h with ⟨d,h⟩ | h
  . left;split
    . simp only[Zq];split
      . exact⟨_,rfl⟩
      . exact⟨d,h⟩
    . exact⟨d,h⟩
  . rcases YF.mp h with e | h
    . left;cases e;simp
    . exact .inr h
theorem nj {env:Env}:∀(names:List (Str×NameKind)) (cs:List (Str×Addr)),(∀p∈names,p.2=NameKind.free->∃c,env.cells.lookup p.1=some c)->
 (forIn names cs λp r=>if (p.2==NameKind.free)=true then do let a <-cellOf env p.1; pure (ForInStep.yield ((p.1,a)::r)) else pure (ForInStep.yield r):Sem (List (Str×Addr)))=
  pure (names.foldl (λcs p=>if (p.2==NameKind.free)=true then (p.1,(env.cells.lookup p.1).getD 0)::cs else cs) cs)
 | [],cs,_=>by simp
 | (n,k)::r,cs,h=>by
  rw[List.forIn_cons,ZX];by_cases hk:(k==NameKind.free)=true
  . obtain⟨c,hc⟩:=h (n,k) Yz (by simpa using hk);have hc':List.lookup n env.cells=some c:=hc;simp only[hk,if_true,cellOf,hc',pure_bind,aaI];exact nj r _ λp hp=>h p (YG _ hp)
  . simp only[hk,pure_bind];exact nj r _ λp hp=>h p (YG _ hp)
theorem sS {sc:Scope} {env:Env} (h:∀p∈sc.names,p.2=NameKind.free->∃c,env.cells.lookup p.1=some c):closureFor sc env=pure (pL sc.names env):=by have:=nj (env:=env) sc.names [] h;unfold closureFor pL;rw[<-this];simp only[bind_pure]
theorem lN {env:Env}:∀(names:List (Str×NameKind)) (x:Str),
 (names.map λ(n,k)=>if (k==NameKind.free&&env.scope.kind==.function&&env.kindOf n==some .cell) then (n,NameKind.cell) else (n,k)).lookup x=
  (names.lookup x).map λk=>if (k==NameKind.free&&env.scope.kind==.function&&env.kindOf x==some .cell) then NameKind.cell else k
 | [],x=>rfl
 | (n,k)::r,x=>by
  have ih:=lN (env:=env) r x;simp only[YW];by_cases hx:x=n
  . subst hx;split<;>simp_all
  . have hb:(x==n)=false:=aaS.mpr hx;split<;>simp only[Zq,hb,ih]
theorem ie {x:Str} {a:Addr}:∀(names:List (Str×NameKind)) (n:Nat) (acc:List (Str×Addr)),(cellsFrom n names acc).lookup x=some a->n<=a\/acc.lookup x=some a
 | [],_,_,h=>.inr h
 | (y,k)::r,n,acc,h=>by
  unfold cellsFrom at h;split at h
  . rcases ie r _ _ h with q | q
    . exact .inl (aab q)
    . rw[Zq]at q;split at q
      . cases q; exact .inl (YC _)
      . exact .inr q
  . exact ie r _ _ h
theorem tV {x y:Str} {a:Addr}:∀(names:List (Str×NameKind)) (n:Nat) (acc:List (Str×Addr)),(∀z b,acc.lookup z=some b->b<n)->(cellsFrom n names acc).lookup x=some a->(cellsFrom n names acc).lookup y=some a->n<=a->x=y
 | [],_,_,h,h1,h2,h3=>absurd (h _ _ h1) (Nat.not_lt.mpr h3)
 | (z,k)::r,n,acc,h,h1,h2,h3=>by
  unfold cellsFrom at h1 h2;split at h1
  . rename_i hk;rw[aaN hk]at h2;have one:∀{w:Str},(cellsFrom (n+1) r ((z,n)::acc)).lookup w=some a->a=n->w=z:=λ{w} e e'=>by
     rcases ie r _ _ e with q | q
     . exact absurd q (by rw[e']; exact Nat.not_succ_le_self n)
     . rw[Zq]at q;split at q
       . rename_i hw; exact beq_iff_eq.mp hw
       . exact absurd (h _ _ q) (by rw[e']; exact ZV _)
    by_cases e:a=n
    . exact(one h1 e).trans (one h2 e).symm
    . refine tV r (n+1) _ (λw b q=>?_) h1 h2 (Nat.lt_of_le_of_ne h3 (Ne.symm e));rw[Zq]at q;split at q
      . cases q; exact Z4 _
      . exact ZJ (h _ _ q)
  . rename_i hk;rw[aaO hk]at h2;exact tV r n acc h h1 h2 h3
theorem tW {x:Str} {a:Addr}:∀(names:List (Str×NameKind)) (n:Nat) (acc:List (Str×Addr)),names.lookup x=some .cell->(cellsFrom n names acc).lookup x=some a->n<=a
 | [],_,_,h,_=>by cases h
 | (y,k)::r,n,acc,h,h1=>by
  rw[Zq]at h;unfold cellsFrom at h1;split at h
  . rename_i hy;cases h;rw[aaN (by decide)]at h1;rcases ie r _ _ h1 with q | q
    . exact aab q
    . rw[Zq,hy]at q; cases q; exact YC _
  . split at h1
    . exact aab (tW r _ _ h h1)
    . exact tW r _ _ h h1
theorem tX {x:Str}:∀(names:List (Str×NameKind)) (n:Nat) (acc:List (Str×Addr)),(∀p∈names,p.2=.cell->p.1≠x)->(cellsFrom n names acc).lookup x=acc.lookup x
 | [],_,_,_=>rfl
 | (y,k)::r,n,acc,h=>by
  unfold cellsFrom;split
  . rename_i hk;rw[tX r _ _ λp hp=>h p (YG _ hp),Zq,show (x==y)=false from aaS.mpr λe=>h _ Yz (by simpa using hk) e.symm]
  . exact tX r _ _ λp hp=>h p (YG _ hp)
theorem rA:∀(names:List (Str×NameKind)) (h:Heap) (acc:List (Str×Addr)) (x:Str) (a:Addr),(cellsFrom h.objs.size names acc).lookup x=some a->h.objs.size<=a->(∀z b,acc.lookup z=some b->b<h.objs.size)->(pushCells h names).IsCell a none
 | [],h,acc,x,a,e,hl,hb=>absurd (hb _ _ e) (Nat.not_lt.mpr hl)
 | (y,k)::r,h,acc,x,a,e,hl,hb=>by
  unfold cellsFrom at e;unfold pushCells;split at e
  . rename_i hk;rw[aaN hk];have hz:=Z7 h ({ cls:=.type "cell",data:=.cell none }:Obj);by_cases q:a=h.objs.size
    . subst q;exact⟨_,pushCells_keeps r _ _ _ (YT _ rfl),rfl⟩
    . refine rA r _ ((y,h.objs.size)::acc) x a (by rw[hz]; exact e) (by rw[hz]; exact Nat.lt_of_le_of_ne hl (Ne.symm q)) λz b q'=>?_;rw[hz];rw[Zq]at q';split at q'
      . cases q'; exact Z4 _
      . exact ZJ (hb _ _ q')
  . rename_i hk;rw[aaO hk];exact rA r h acc x a e hl hb
abbrev j5 (sc:Scope) (C:Addr) (env:Env):List (Str×Addr):=cellsFrom (C+1) sc.names (pL sc.names env)
structure gQ (X:Cx) (M F:List Str) (ixs:List Nat) (sc:Scope):Prop where
 kind:sc.kind=.function
 locs:∀y∈sc.names,y.2=.local->sc.names.lookup y.1=some .local
 cel:∀y∈sc.names,y.2=.cell->sc.names.lookup y.1=some .cell
 own:∀p∈sc.names,p.2=.free->X.env.scope.names.lookup p.1=some .cell\/X.env.scope.names.lookup p.1=some .free
 frs:∀x∈F,sc.names.lookup x=some .free
 ixl:ixs.length=F.length
 ixn:∀(j i:Nat),ixs[j]?=some i->X.N[i]?=F[j]?
abbrev tY (m:Nat) (ixs:List Nat) (Y:St):St:=List.replicate m none++ixs.map λi=>(Y[i]?).join
def dY (X:Cx) (M F:List Str) (sc:Scope) (C:Addr) (fp:List Addr) (s:Shared) (H:Hp):Cx where
 prog:=X.prog
 w:=X.w
 K:=X.K
 mg:=X.mg
 base:=X.base
 A:=X.A
 N:=M++F
 s₀:=s
 H0:=H
 env:=compEnvC sc (j5 sc C X.env) C X.env
 outer:=X.stack
 stack:=X.stack
 ex:=fp
 fn:=λx=>sc.names.lookup x==some .cell
 calm:=X.calm
 pn:=[]
 xe:=λ_ _=>False
section
variable {X:Cx} {abQ:List (Addr×Obj)} {Y:St} {H:Hp} {s:Shared}
theorem gQ.free_of {M F:List Str} {ixs:List Nat} {sc:Scope} (c:gQ X M F ixs sc) {x:Str} {k:NameKind} (h:sc.names.lookup x=some k):(x,k)∈sc.names:=by
 generalize sc.names=l at h;induction l with
 | nil=>cases h
 | cons p r ih=>
  rw[Zq]at h;split at h
  . rename_i z;have z':x=p.1:=by simpa using z
    have e:p.2=k:=Y5 h;subst e;rw[z'];exact Yz
  . exact YG _ (ih h)
theorem vU (I:Inv X abQ Y H s) {M F:List Str} {ixs:List Nat} {sc:Scope} (c:gQ X M F ixs sc):∀p∈sc.names,p.2=NameKind.free->∃a,X.env.cells.lookup p.1=some a:=λp hp e=>
 I.ok.has p.1 (by rcases c.own p hp e with h | h; exact .inl h; exact .inr h)
theorem gw (I:Inv X abQ Y H s) {M F:List Str} {ixs:List Nat} {sc:Scope} (c:gQ X M F ixs sc) {x:Str} {a:Addr} (h:(pL sc.names X.env).lookup x=some a):X.env.cells.lookup x=some a:=by
 have e:=tR (env:=X.env) sc.names [] x a (λy d q=>by cases q) h;rcases wR sc.names [] x a h with ⟨d,q⟩ | q
 . cases q
 . obtain⟨b,hb⟩:=vU I c _ q rfl;have hb':X.env.cells.lookup x=some b:=hb;rw[hb',aaI]at e;rw[hb',e]
theorem JT (I:Inv X abQ Y H s) {M F:List Str} {ixs:List Nat} {sc:Scope} (c:gQ X M F ixs sc) {x:Str} {a:Addr} (h:(pL sc.names X.env).lookup x=some a):a<s.heap.objs.size:=by obtain⟨v,o,ho,_⟩:=I.cell x a (gw I c h);exact YS ho
theorem QX (I:Inv X abQ Y H s) {M F:List Str} {ixs:List Nat} {sc:Scope} (c:gQ X M F ixs sc) {C:Addr} {fp:List Addr} (hC:s.heap.objs.size<=C) (hf:∀b∈fp,kY X abQ H b) (ho:∀b∈fp,∃o,s.heap.get? b=some o):(dY X M F sc C fp s H).Ok where
 mod:=I.ok.mod
 kind:=c.kind
 glob:=I.ok.glob
 blt:=I.ok.blt
 above:=hC
 inj:=λx y a e1 e2=>by
  have e1':(j5 sc C X.env).lookup x=some a:=e1;have e2':(j5 sc C X.env).lookup y=some a:=e2;have lt:∀z b,(pL sc.names X.env).lookup z=some b->b<C+1:=λz b q=>ZJ (Y9 (JT I c q) hC);rcases ie _ _ _ e1' with q | q
  . exact tV _ _ _ lt e1' e2' q
  . rcases ie _ _ _ e2' with q' | q'
    . exact absurd (lt _ _ q) (Nat.not_lt.mpr q')
    . exact I.ok.inj x y a (gw I c q) (gw I c q')
 has:=λx h=>by
  have h':((sc.names.lookup x).map λk=>if (k==NameKind.free&&X.env.scope.kind==.function&&X.env.kindOf x==some .cell) then NameKind.cell else k)=some .cell\/((sc.names.lookup x).map λk=>if (k==NameKind.free&&X.env.scope.kind==.function&&X.env.kindOf x==some .cell) then NameKind.cell else k)=some .free:=by rw[<-lN]; exact h
  refine aan.mp (aaH _ _ _ ?_);cases e:sc.names.lookup x with
  | none=>rw[e]at h'; rcases h' with h' | h'<;>cases h'
  | some k=>
   rw[e]at h';have m:=c.free_of e;cases k with
   | free=>exact .inr (aan.mpr (tU sc.names [] x (.inr m)))
   | cell=>exact .inl rfl
   | _=>rcases h' with h' | h'<;>simp at h'
 cab:=λx a h e=>Zc hC (aab (tW _ _ _ (beq_iff_eq.mp h) e))
 hd:=I.ok.hd
 frames:=I.ok.frames
 stk:=.inl rfl
 exf:=λb hb=>⟨by
  obtain⟨o,e⟩:=ho b hb;exact Zb (Y9 (YS e) hC),λx a e=>by
  obtain⟨o,eo⟩:=ho b hb;rcases ie _ _ _ (show (j5 sc C X.env).lookup x=some a from e) with q | q
  . exact ZZ (Y9 (YS eo) (Zc hC (aab q)))
  . exact(hf b hb).2.2.2.2.1 x a (gw I c q)⟩
 bs:=I.bs
 bsz:=Zc I.ok.bsz I.sz
 noex:=λb o e hb=>by
  obtain⟨_,_,_,h,_⟩:=hf b hb;rcases h with h | h
  . exact I.ok.noex b o e h
  . exact absurd (Y9 (YS (I.ok.bs b o e).1) h) (ZV _)
 exfs:=λb hb z=>by
  obtain⟨_,h1,h2,_⟩:=hf b hb;rcases YF.mp (I.stkSub b z) with z | z
  . exact h1 z
  . exact h2 z
 funs:=I.stack
 frf:=I.stkFree
theorem M3 (I:Inv X abQ Y H s) {M F:List Str} {ixs:List Nat} {sc:Scope} (c:gQ X M F ixs sc) {fp:List Addr} (hf:∀b∈fp,kY X abQ H b) (ho:∀b∈fp,∃o,s.heap.get? b=some o)
 {h₁:Heap} {tk:Nat} {C:Addr} {m1:Str->Option Value} (hC:C=s.heap.objs.size+1) (hns:h₁.Ns C m1) (old:∀b o,s.heap.get? b=some o->h₁.get? b=some o)
 (hD:h₁.get? s.heap.objs.size=some { cls:=.type "list",data:=.seq #[] 0 }) (hce:∀x a,(j5 sc C X.env).lookup x=some a->C+1<=a->h₁.IsCell a none):
 Inv (dY X M F sc C fp s H) [] (tY M.length ixs Y) (upd H s.heap.objs.size (.lst [])) { s with heap:=h₁,toks:=tk }:=by
 have hDn:H s.heap.objs.size=none:=I.hok.fresh (YC _);have hCle:s.heap.objs.size<=C:=by rw[hC]; exact Z8 _
 have hCn:H C=none:=I.hok.fresh hCle;have hok:=QX (X:=X) I c (C:=C) (fp:=fp) hCle hf ho;refine⟨hok,rfl,I.bare,Un.laid old (YC _) hDn,⟨m1,hns,?_⟩,?_,?_,?_,?_,?_,?_⟩
 . intro i x v e1 e2 hv;have e1':(M++F)[i]?=some x:=e1;by_cases hi:i<M.length
   . rw[Zv (by simpa using hi)]at e2;rw[List.getElem?_replicate]at e2;simp[hi]at e2
   . rw[Y8 (by omega)]at e1';rw[Y8 (by simpa using aaw hi)]at e2;simp only[List.length_replicate,Y4]at e2;cases q:ixs[i-M.length]? with
     | none=>rw[q]at e2; cases e2
     | some i'=>
      rw[q]at e2;have e2':(Y[i']?).join=some v:=by simpa using e2
      have e3:Y[i']?=some (some v):=by
       cases z:Y[i']? with
       | none=>rw[z]at e2'; cases e2'
       | some y=>rw[z]at e2'; simp at e2'; rw[e2']
      have xF:x∈F:=Zn e1';have hlk:=c.frs x xF;have hm:=c.free_of hlk;have hX:=c.own _ hm rfl;have hN:X.N[i']?=some x:=by rw[c.ixn _ _ q]; exact e1'
      obtain⟨m,hn,hl⟩:=I.loc;have vis:Ju X.env.scope x:=by
       rcases hX with h | h
       . exact .inr (.inl h)
       . exact .inr (.inr h)
      obtain⟨u,r,l⟩:=hl i' x v hN e3 vis;refine⟨u,r,.inr ⟨?_,?_⟩⟩
      . show (Env.kindOf (compEnvC sc (j5 sc C X.env) C X.env) x=_)\/(Env.kindOf (compEnvC sc (j5 sc C X.env) C X.env) x=_);have:Env.kindOf (compEnvC sc (j5 sc C X.env) C X.env) x=(sc.names.lookup x).map λk=>if (k==NameKind.free&&X.env.scope.kind==.function&&X.env.kindOf x==some .cell) then NameKind.cell else k:=lN sc.names x
        rw[this,hlk];simp only[aam];split
        . exact .inl rfl
        . exact .inr rfl
      . rcases l with ⟨hk,_⟩ | ⟨_,cc,hcc,hcell⟩
        . rcases hX with h | h
          . have hk':X.env.scope.names.lookup x=some .local:=hk;have h':X.env.scope.names.lookup x=some .cell:=h;rw[h']at hk'; cases hk'
          . have hk':X.env.scope.names.lookup x=some .local:=hk;have h':X.env.scope.names.lookup x=some .free:=h;rw[h']at hk'; cases hk'
        . obtain⟨a,ha⟩:=tU (env:=X.env) sc.names [] x (.inr hm);have ha':=gw I c (x:=x) (a:=a) ha;rw[hcc]at ha'; cases ha';obtain⟨oc,hoc,hd⟩:=hcell;exact⟨cc,(tX _ _ _ λp hp e z=>by have:=c.cel p hp e; rw[z,hlk]at this; cases this).trans ha,oc,old _ _ hoc,hd⟩
 . intro x a e;have e':(j5 sc C X.env).lookup x=some a:=e;rcases ie _ _ _ e' with q | q
   . exact⟨none,hce x a e' q⟩
   . obtain⟨v,oc,hoc,hd⟩:=I.cell x a (gw I c q);exact⟨v,oc,old _ _ hoc,hd⟩
 . show upd H s.heap.objs.size (.lst []) C=none;rw[bM (by rw[hC]; exact Nat.succ_ne_self _)]; exact hCn
 . intro x a e;rcases ie _ _ _ (show (j5 sc C X.env).lookup x=some a from e) with q | q
   . have q':s.heap.objs.size<a:=aaD hCle q;rw[bM (ZZ q')];exact I.hok.fresh (aay q')
   . obtain⟨v,oc,hoc,hd⟩:=I.cell x a (gw I c q);rw[bM (Zb (YS hoc))];exact I.freeC x a (gw I c q)
 . intro p hp; cases hp
 . exact I.hok.laid old (YC _) ⟨Zj _,[],0,.nil,hD⟩
 . show (List.replicate M.length none++_).length=(M++F).length;simp[c.ixl]
def tZ (X:Cx) (ifs:List Expr) (t:TT):Prop:=
 ∀(abQ:List (Addr×Obj)) (s:Shared) (Y:St) (H:Hp) (Q:Bool->Hp->Prop),Inv X abQ Y H s->t Y H Q->
  wpAny (model X.prog X.w) X.A (forIn ifs true λc r=>if r=true then do let ok <-isTrue c X.env (eval c X.env); pure (ForInStep.yield ok) else pure (ForInStep.yield r)) (TP X abQ Y Q) X.xe s
theorem M4 {X:Cx}:tZ X [] (λ_ H Q=>Q true H):=λ_ s Y H Q I h=>wpAny_tests_nil ⟨H,I,h⟩
def Ik (wi:TI) (m:Nat) (ixs:List Nat) (g:TG) (tc:TT) (te:TE):TE:=λY H Q=>wi Y H λJ H1=>∀p,H1 p=none->
 ∃W:Nat->Nat->St->Hp->Prop,(∃n,W 0 n (tY m ixs Y) (upd H1 p (.lst [])))/\∀i n Y' H',W i n Y' H'->
  ((J.stop i H'/\Q (.ref p) H')\/(J.go i H'/\∀x H2,J.yld i H' x H2->g x Y' H2 λY3 H3=>tc Y3 H3 λb H4=>
    if b=true then te Y3 H4 λv H5=>∃ys,H5 p=some (.lst ys)/\ys.length<sizeLine/\∃n',n'<n/\W (i+1) n' Y3 (upd H5 p (.lst (ys++[v])))
    else ∃n',n'<n/\W (i+1) n' Y3 H4))
def CI (X:Cx) (fp:List Addr) (tn:Nat->Heap->Prop) (W:Nat->Nat->St->Hp->Prop) (n:Nat) (s:Shared):Prop:=∃i Y H,Inv X [] Y H s/\tn i s.heap/\(∀b∈fp,H b=none)/\W i n Y H
theorem Bs {P:Prop} (h:∀G:Prop,(P->G)->G):P:=h P id
theorem JV {D it:Addr} {fp:List Addr} {tn:Nat->Heap->Prop} {J:It} {tg iter elt:Expr} {ifs:List Expr} {sc:Scope} {pos:Pos} {g:TG} {tc:TT} {te:TE} {W:Nat->Nat->St->Hp->Prop} {F:Hp->Prop} (hcalm:X.calm=true) (T:Turn X.prog X.w X.K tg J fp it tn) (hg:PG X tg g) (hc:tZ X ifs tc) (he:PE X elt te) (hx:∀u s,X.xe u s->False)
 (stat:∀{H':Hp},(∀b∈fp,H' b=none)->∀b∈fp,kY X [] H' b)
 (turn:∀i n Y' H',W i n Y' H'->((J.stop i H'/\F H')\/(J.go i H'/\∀x H2,J.yld i H' x H2->g x Y' H2 λY3 H3=>tc Y3 H3 λb H4=>
   if b=true then te Y3 H4 λv H5=>∃ys,H5 D=some (.lst ys)/\ys.length<sizeLine/\∃n',n'<n/\W (i+1) n' Y3 (upd H5 D (.lst (ys++[v])))
   else ∃n',n'<n/\W (i+1) n' Y3 H4)))
 {R:Result->Shared->Prop} (hR:∀Y' H' s',Inv X [] Y' H' s'->F H'->R (.ok .next) s') (n:Nat) (s':Shared) (hI:CI X fp tn W n s'):
 wpAny (model X.prog X.w) X.A (compTurn (.ListComp elt [⟨tg,iter,ifs,0⟩] sc pos) 0 (.ref it) (.ref D) X.env)
  (λfin s'=>match fin with | .done f=>R (.ok f) s' | .again c'=>c'=.compLoop (.ListComp elt [⟨tg,iter,ifs,0⟩] sc pos) 0 (.ref it) (.ref D) X.env/\∃m,m<n/\CI X fp tn W m s') (λ_ _=>False) s':=by
 refine Bs λG kG=>?_;obtain⟨i,Y',H',I',st',fr',w'⟩:=hI;rw[compTurn_list]at kG;rcases turn i n Y' H' w' with ⟨stop,qn⟩ | ⟨go,step⟩
 . refine kG (aaM (wpAny_standAt (aaM (wpAny_mono (T.done X rfl rfl rfl hcalm i [] s' Y' H' (λ_ _=>False) I' (stat fr') st' stop) (λr s4 h4=>?_) λ_ _ f=>f))));obtain⟨hr,I4⟩:=h4;subst hr;exact aaP (hR Y' H' _ I4 qn)
 . refine kG (aaM (wpAny_standAt (aaM (wpAny_mono (T.item X rfl rfl rfl hcalm i [] s' Y' H' (λ_ _=>False) I' (stat fr') st' go) (λr s4 h4=>?_) λ_ _ f=>f))));obtain⟨u,hr,h4⟩:=h4;subst hr;refine aaM (wpAny_mono h4 (λ_ s5 h5=>?_) λ_ _ f=>f);refine Bs λG kG=>?_;obtain⟨x,H5,I5,r5,y5,st5,fr5⟩:=h5;have again:∀{s7:Shared} {Y7:St} {H7:Hp} {n':Nat},Inv X ([]++tH fp s5.heap) Y7 H7 s7->W (i+1) n' Y7 H7->CI X fp tn W n' s7:=λ{s7 Y7 H7 n'} I7 w7=>by
    have pn:∀b∈fp,∀o,s5.heap.get? b=some o->s7.heap.get? b=some o/\H7 b=none:=λb hb o e=>by have:=I7.pin (b,o) (Zm _ (Zm _ (qY hb e)));exact⟨this.1,this.2.1⟩
    refine⟨i+1,Y7,H7,I7.unpinned,T.keep _ _ _ st5 λb hb o e=>(pn b hb o e).1,λb hb=>?_,w7⟩;obtain⟨o,e,d⟩:=T.obj _ _ st5 b hb;exact(pn b hb o e).2
   refine kG (aaM (wpAny_mono (hg _ s5 Y' H5 x u _ (I5.pinned (stat fr5) (T.obj _ _ st5)) r5 (step x H5 y5)) (λ_ s6 h6=>?_) hx));refine Bs λG kG=>?_;obtain⟨Y6,H6,I6,q6⟩:=h6;refine kG (aaM (wpAny_mono (hc _ s6 Y6 H6 _ I6 q6) (λok s7 h7=>?_) hx));refine Bs λG kG=>?_;obtain⟨H7,I7,q7⟩:=h7;cases ok with
   | false=>
    rw[aaO ZD]at q7;obtain⟨n',hn',w7⟩:=q7;exact kG (aaP ⟨rfl,n',hn',again I7 w7⟩)
   | true=>
    rw[aaN rfl]at q7;refine kG (aaM (aaM (wpAny_mono (he _ s7 Y6 H7 _ I7 q7) (λv s8 h8=>?_) hx)));refine Bs λG kG=>?_;obtain⟨y,H8,I8,r8,ys,hp8,hz,n',hn',w8⟩:=h8;refine kG (aaM (wpAny_mono (mO (X:=X) _ s8 Y6 H8 (.ref D) [y] (.ref D) [v] (λ_ H9=>W (i+1) n' Y6 H9) I8 rfl (.cons r8 .nil) ⟨_,ys,y,rfl,rfl,hp8,hz,w8⟩) (λ_ s9 h9=>?_) hx));obtain⟨_,H9,I9,_,w9⟩:=h9;exact aaP (aaP ⟨rfl,n',hn',again I9 w9⟩)
theorem QZ {Md:Model} {sc:Scope} {gl:Addr} {clo:List (Str×Addr)} {qual:Str} {env:Env} {Q:Env->Shared->Prop}
 (h:Q (newEnv sc s.heap.objs.size gl (cellsFrom (s.heap.objs.size+1) sc.names clo) qual none .none (some env) builtinsNs) { s with heap:=pushCells (s.heap.push { cls:=.type "dict",data:=.dict #[] }) sc.names }):
 wpAny Md A (newFunctionEnv sc gl clo [] qual none .none (some env)) Q E s:=by
 simp only[newFunctionEnv,Option.isSome_some,if_true];refine aaM (wpAny_alloc ?_);refine aaM (wpAny_layCells _ (λname kind cells=>by cases hkc:kind==NameKind.cell<;>simp[hkc]) _ _ _ _ ?_);rw[show ({ s with heap:=s.heap.push { cls:=.type "dict",data:=.dict #[] } }:Shared).heap.objs.size=s.heap.objs.size+1 from Z7 ..];exact aaM (aaP (aaP h))
theorem wU {M F:List Str} {ixs:List Nat} {sc:Scope} {tg iter elt:Expr} {ifs:List Expr} {g:TG} {tc:TT} {te:TE} {pos:Pos} (hcalm:X.calm=true) (c:gQ X M F ixs sc)
 (hg:∀C fp s H,PG (dY X M F sc C fp s H) tg g) (hc:∀C fp s H,tZ (dY X M F sc C fp s H) ifs tc) (he:∀C fp s H,PE (dY X M F sc C fp s H) elt te)
 {fp:List Addr} {it:Addr} {tn:Nat->Heap->Prop} {J:It} {Q:VK} (I:Inv X abQ Y H s) (T:Turn X.prog X.w X.K tg J fp it tn) (st:tn 0 s.heap) (hf:∀b∈fp,kY X abQ H b)
 (h:∀p,H p=none->∃W:Nat->Nat->St->Hp->Prop,(∃n,W 0 n (tY M.length ixs Y) (upd H p (.lst [])))/\∀i n Y' H',W i n Y' H'->
   ((J.stop i H'/\Q (.ref p) H')\/(J.go i H'/\∀x H2,J.yld i H' x H2->g x Y' H2 λY3 H3=>tc Y3 H3 λb H4=>
     if b=true then te Y3 H4 λv H5=>∃ys,H5 p=some (.lst ys)/\ys.length<sizeLine/\∃n',n'<n/\W (i+1) n' Y3 (upd H5 p (.lst (ys++[v])))
     else ∃n',n'<n/\W (i+1) n' Y3 H4)))
 {RR:Value->Addr->Result->Shared->Prop} {E:Value->Shared->Prop}
 (hR:∀D C s' H' m,s.heap.get? D=none->s.heap.get? C=none->s.heap.objs.size<=C->H D=none->D≠C->H' C=none->s'.heap.Ns C m->s'.os=s.os->AllBare s'.gens->Un (frs X.stack) fp H H' s.heap s'.heap->gF X.prog X.w H' s'.heap->Q (.ref D) H'->RR (.ref D) C (.ok .next) s'):
 wpAny (model X.prog X.w) X.A (newList []) (λacc s₃=>wpAny (model X.prog X.w) X.A (newFunctionEnv sc X.env.globals (pL sc.names X.env) [] X.env.qual none .none (some X.env)) (λcenv s₄=>
  codeAny (model X.prog X.w) X.A (.compStart (.ListComp elt [⟨tg,iter,ifs,0⟩] sc pos) 0 (.ref it) acc { cenv with scope:=relabel sc X.env }) (RR acc cenv.locals) s₄) E s₃) E s:=by
 refine wpAny_newObj_type (QZ ?_);dsimp only;generalize hH2:s.heap.push { cls:=.type "list",dict:=none,data:=.seq ([]:List Value).toArray }=H2;generalize hh1:pushCells (H2.push { cls:=.type "dict",data:=.dict #[] }) sc.names=h₁;have kp:∀b o,H2.get? b=some o->h₁.get? b=some o:=λb o e=>by rw[<-hh1]; exact pushCells_keeps _ _ _ _ (YD _ e)
 have hns₁:h₁.Ns H2.objs.size (λ_=>none):=by rw[<-hh1]; exact(Heap.Ns.new H2 (.type "dict")).keeps (pushCells_keeps _ _)
 have hC:H2.objs.size=s.heap.objs.size+1:=by rw[<-hH2,Z7]
 have hDC:s.heap.objs.size≠H2.objs.size:=by rw[hC]; exact Zb (Z4 _)
 have below:∀b,b<s.heap.objs.size->b≠H2.objs.size:=λb hb=>by rw[hC]; exact Zb (ZJ hb)
 have old:∀b o,s.heap.get? b=some o->h₁.get? b=some o:=λb o e=>kp b o (hH2▸YD _ e);have hD:h₁.get? s.heap.objs.size=some { cls:=.type "list",data:=.seq #[] 0 }:=kp _ _ (hH2▸YT _ rfl);have fresh:∀a,s.heap.objs.size<=a->s.heap.get? a=none:=λa ha=>by
  cases e:s.heap.get? a with
  | none=>rfl
  | some o'=>exact absurd (YS e) (Nat.not_lt.mpr ha)
 have hDn:H s.heap.objs.size=none:=I.hok.fresh (YC _);have hfo:∀b∈fp,∃o,s.heap.get? b=some o:=λb hb=>let ⟨o,e,_⟩:=T.obj 0 _ st b hb; ⟨o,e⟩;have hz2:(H2.push { cls:=.type "dict",data:=.dict #[] }).objs.size=H2.objs.size+1:=Z7 ..;have hce:∀x a,(j5 sc H2.objs.size X.env).lookup x=some a->H2.objs.size+1<=a->h₁.IsCell a none:=λx a e q=>by rw[<-hh1];exact rA _ _ (pL sc.names X.env) x a (by rw[hz2]; exact e) (by rw[hz2]; exact q) λz b q'=>by rw[hz2,hC]; exact ZJ (ZJ (JT I c q'))
 have I0:=M3 I c hf hfo (tk:=s.toks) hC hns₁ old hD hce;obtain⟨W,⟨n0,w0⟩,turn⟩:=h _ hDn;have nf:∀b∈fp,b≠s.heap.objs.size:=λb hb=>by obtain⟨o,e⟩:=hfo b hb; exact Zb (YS e)
 have stat:∀{H':Hp},(∀b∈fp,H' b=none)->∀b∈fp,kY (dY X M F sc H2.objs.size fp s H) [] H' b:=λ{H'} hn b hb=>by
  obtain⟨f0,f1,f2,f3,f4,f5⟩:=hf b hb;obtain⟨o,e⟩:=hfo b hb;refine⟨hn b hb,below b (YS e),λz=>?_,.inl hb,λx a e'=>by
   rcases ie _ _ _ (show (j5 sc H2.objs.size X.env).lookup x=some a from e') with q | q
   . exact ZZ (Y9 (YS e) (Zc (by rw[hC]; exact Z8 _) (aab q)))
   . exact f4 x a (gw I c q),λp hp=>by cases hp⟩
  rcases YF.mp (I.stkSub b z) with z | z
  . exact f1 z
  . exact f2 z
 have st1:tn 0 h₁:=T.keep 0 _ _ st λb hb o e=>old b o e;have loop:codeAny (model X.prog X.w) X.A (.compLoop (.ListComp elt [⟨tg,iter,ifs,0⟩] sc pos) 0 (.ref it) (.ref s.heap.objs.size) (compEnvC sc (j5 sc H2.objs.size X.env) H2.objs.size X.env))
  (RR (.ref s.heap.objs.size) H2.objs.size) { s with heap:=h₁ }:=by
  refine codeAny_loop rfl (CI (dY X M F sc H2.objs.size fp s H) fp tn W) (λn s' hI=>?_) n0 ⟨0,_,_,I0,st1,λb hb=>by rw[bM (nf b hb)]; exact(hf b hb).1,w0⟩;show wpAny _ X.A ((compTurn (.ListComp elt [⟨tg,iter,ifs,0⟩] sc pos) 0 (.ref it) (.ref s.heap.objs.size) (compEnvC sc (j5 sc H2.objs.size X.env) H2.objs.size X.env)).onRaise (λx=>do noteFrame x (compEnvC sc (j5 sc H2.objs.size X.env) H2.objs.size X.env); theTreesLotGoes x)) _ _ s';refine wpAny_noted (wpAny_mono (JV (X:=dY X M F sc H2.objs.size fp s H) hcalm T (hg _ fp s H) (hc _ fp s H) (he _ fp s H) (λ_ _ f=>f) stat turn (λY' H' s4 I4 qn=>?_) n s' hI) (λ_ _ h=>h) λ_ _ f=>f.elim);obtain⟨m4,hn4,_⟩:=I4.loc;exact hR _ _ _ H' m4 (fresh _ (YC _)) (fresh _ (by rw[hC]; exact Z8 _)) (by rw[hC]; exact Z8 _) hDn hDC I4.free hn4 I4.os I4.bare I4.base I4.hok qn
 exact codeAny_compStart_list loop (T.self _ 0 _ _ _ st1 loop)
end
section
variable {X:Cx}
theorem Fx {Y Y':St} {H H':Hp} {s s':Shared} {C:Addr} (I:Inv X abQ Y H s) (hC:s.heap.get? C=none) (I':Inv X abQ Y' H' s') (hn:H' C=none) {h':Heap} {m:Str->Option Value} (hs:Heap.SameBut C s'.heap h')
 (hsz:s.heap.objs.size<=C):Inv X abQ Y' H' { s' with heap:=h' }:=by
 have ne:∀a o,s.heap.get? a=some o->C≠a:=λa o e z=>by rw[z,e]at hC; cases hC
 refine I'.turned (t':=s'.toks) (it:=C) (λb o hb e=>(hs.2 b hb).trans e) hn ?_ (.inr (Zc I.sz hsz)) (λx c e=>?_) (λp hp=>?_)
 . exact ZZ (Y9 I.lt hsz)
 . obtain⟨v,o,ho,_⟩:=I.cell x c e;exact Ne.symm (ne _ _ ho)
 . exact Ne.symm (ne _ _ (I.pin p hp).1)
theorem Q0 (M F:List Str) (ixs:List Nat) {sc:Scope} {tg iter elt:Expr} {ifs:List Expr} {wi:TI} {g:TG} {tc:TT} {te:TE} {pos:Pos} (hcalm:X.calm=true) (c:gQ X M F ixs sc) (hi:PI X tg iter wi)
 (hg:∀C fp s H,PG (dY X M F sc C fp s H) tg g) (hc:∀C fp s H,tZ (dY X M F sc C fp s H) ifs tc) (he:∀C fp s H,PE (dY X M F sc C fp s H) elt te)
 (hs:∀x,foldedSetIterable iter X.env x=pure x:=by intro _; rfl):PE X (.ListComp elt [⟨tg,iter,ifs,0⟩] sc pos) (Ik wi M.length ixs g tc te):=by
 intro abQ s Y H Q I h;rw[eval_ListComp];refine wpAny_comprehension_free (use:=none) rfl hs (sS (vU I c)) c.kind c.locs (bI (hi abQ s Y H _ I h) λv s1 h1=>bI h1 λitv s2 h2=>?_);obtain⟨it,fp,tn,J,H2,e,I2,T,st2,f2,q⟩:=h2;subst e;refine wU (Q:=Q) hcalm c hg hc he I2 T st2 f2 q (RR:=λacc C=>compPost (model X.prog X.w) X.A X.xe none (EP X abQ Y Q) acc C) ?_;intro D C s' H' m hD hC hsz hDn hDC hCn hns hos hbare hun hok q';have I3:Inv X abQ Y H' s':=I2.call' hos hun hok hbare λb hb=>by obtain⟨_,g1,g2,g3,g4,g5⟩:=f2 b hb;exact⟨g3,g1,g4,g5⟩
 exact⟨m,hns,λh' hs'=>⟨.ref D,H',Fx (m:=m) I2 hC I3 hCn hs' hsz,rfl,q'⟩⟩
theorem Q4 {i:Nat} (M F:List Str) (ixs:List Nat) {x:Str} {sc:Scope} {tg iter elt:Expr} {ifs:List Expr} {wi:TI} {g:TG} {tc:TT} {te:TE} {pos pos' pos2:Pos} (hN:X.N.Nodup) (hix:X.N[i]?=some x) (hx:X.env.scope.names.lookup x=some .local)
 (hcalm:X.calm=true) (c:gQ X M F ixs sc) (hi:PI X tg iter wi)
 (hg:∀C fp s H,PG (dY X M F sc C fp s H) tg g) (hc:∀C fp s H,tZ (dY X M F sc C fp s H) ifs tc) (he:∀C fp s H,PE (dY X M F sc C fp s H) elt te)
 (hsw:swapsWith (.ListComp elt [⟨tg,iter,ifs,0⟩] sc pos) (some (.Name x pos')) pos2.line X.env=pure true:=by rfl)
 (hs:∀x,foldedSetIterable iter X.env x=pure x:=by intro _; rfl):PS X (.Assign [.Name x pos'] (.ListComp elt [⟨tg,iter,ifs,0⟩] sc pos) pos2) (λD Y H=>Ik wi M.length ixs g tc te Y H λv H1=>D.nx (Y.set i (some v)) H1):=by
 intro abQ s Y H D I h;rw[exec_Assign_Name_used _ _ _ _ hsw];refine aaM (wpAny_standAt (aaM ?_));show wpAny _ X.A (do let _ <-comprehension (.ListComp elt [⟨tg,iter,ifs,0⟩] sc pos) sc X.env _ (newList []) false (eval iter X.env) (some (assign (.Name x pos') X.env))) _ _ s;refine aaM (wpAny_mono (wpAny_comprehension_free (use:=some (assign (.Name x pos') X.env)) (Q:=λ_ s'=>SP X abQ D .next s') rfl hs (sS (vU I c)) c.kind c.locs
  (bI (hi abQ s Y H _ I h) λv s1 h1=>bI h1 λitv s2 h2=>?_)) (λ_ s' hq=>aaP (aaP hq)) λ_ _ e=>e)
 obtain⟨it,fp,tn,J,H2,e,I2,T,st2,f2,q⟩:=h2;subst e;refine wU (Q:=λv H1=>D.nx (Y.set i (some v)) H1) hcalm c hg hc he I2 T st2 f2 q (RR:=λacc C=>compPost (model X.prog X.w) X.A X.xe (some (assign (.Name x pos') X.env)) (λ_ s'=>SP X abQ D .next s') acc C) ?_;intro D' C s' H' m hD hC hsz hDn hDC hCn hns hos hbare hun hok q';have I3:Inv X abQ Y H' s':=I2.call' hos hun hok hbare λb hb=>by obtain⟨_,g1,g2,g3,g4,g5⟩:=f2 b hb;exact⟨g3,g1,g4,g5⟩
 have hLC:C≠X.env.locals:=ZZ (Y9 I2.lt hsz);show wpAny _ X.A (assign (.Name x pos') X.env (.ref D')) _ _ _;refine wpAny_assign_Name (yS (v:=.ref D') I3 hN hix (.inl hx) rfl (λs'' I4 ⟨a,hsb,ha⟩=>?_) (.inr hx));have hCa:C≠a:=by
  rcases ha with ha | ha
  . rw[ha]; exact hLC
  . obtain⟨v,o,ho,_⟩:=I2.cell x a ha;intro z; rw[z,ho]at hC; cases hC
 exact⟨m,hns.sameBut hsb hCa,λh' hs'=>⟨_,H',Fx (m:=m) I2 hC I4 hCn hs' hsz,q'⟩⟩
end
theorem Bt (l:Addr) (items:Array Value) (n:Nat) (b:Addr) (items2:Array Value) (n2:Nat) (dd2:Option Addr) (sl2:Array (Option Value)) (hc0:¬(!items.isEmpty&&Builtin.List.listTooLong (items.size+items2.size))=true) (hc1:items.size<=sizeLine) (hs2:items.size+items2.size<=sizeLine+1):
 Meets (Builtin.«list.extend» ⟨[.ref l,.ref b],[]⟩) (λ_ R s=>s.heap.get? l=some { cls:=.type "list",dict:=none,data:=.seq items n,slots:=#[] }/\s.heap.get? b=some { cls:=.type "list",dict:=dd2,data:=.seq items2 n2,slots:=sl2 }/\R (.ok (.ret Value.none)) { s with heap:=s.heap.update l (Obj.mapSeq λx=>x++items2),toks:=s.toks }):=
 .of_wp λprog w A R s h=>by
  obtain⟨hp,g,d,tk,os⟩:=s; obtain⟨hl,hb,h⟩:=h; have f1:=AutoSeq1.idx_int; have f2:=AutoSeq1.sub_tuple_tuple; have f3:=AutoSeq1.sub_list_list; have f4:=AutoSeq1.sub_tuple_list; have f5:=AutoSeq1.sub_list_tuple;have hz':(items++items2).size<=sizeLine+1:=by rw[Array.size_append]; exact hs2
  wp_walk using (wpAny_updateSeq hl rfl (hz:=hc1) (_hz':=hz')),AutoSeq1.wpAny_loadPart' hl,AutoSeq1.wpAny_loadPart' hb; exact⟨_,rfl,h⟩
section
variable {X:Cx}
theorem Q5:gP X (binaryOp .Add) (λx y H Q=>∃a b xs ys,x=.ref a/\y=.ref b/\bJ X.K H a xs/\bJ X.K H b ys/\xs.length+ys.length<=sizeLine/\∀p,H p=none->Q (.ref p) (upd H p (.lst (xs++ys)))):=by
 intro abQ s Y H x y v u Q I rx ry h;obtain⟨a,b,xs,ys,rfl,rfl,ha,hb,hz,q⟩:=h;cases rx;cases ry;obtain⟨its,r1,⟨⟨c1,d1,dt1,s1⟩,n1,g1,e1,e2,e3⟩,_⟩:=I.list ha;obtain⟨its2,r2,⟨⟨c2,d2,dt2,s2⟩,n2,g2,f1,f2,f3⟩,_⟩:=I.list hb;simp only at e1 e2 e3 f1 f2 f3;subst e1 e2 e3 f1 f2 f3;have hl1:=r1.length;have hl2:=r2.length;refine concat_meets ⟨_,g1,rfl⟩ ⟨_,g2,rfl⟩ noFill_list_add seq_list_add F.slot_list_add F.entry_list_add (F.args_list_add_2 _ _) (list_addW a b its.toArray its2.toArray n1 n2 none none s1 s2 (by rw[YM,YM]; omega)) ⟨g1,g2,?_⟩;have ea:its.toArray++its2.toArray=(its++its2).toArray:=by simp
 rw[ea];exact⟨.ref _,_,I.lnew (t':=s.toks) (r1.append r2) (by rw[YJ]; omega),rfl,q _ I.fresh⟩
def Bu (K:FG):V->List V->Hp->VK->Prop:=λx vs H Q=>∃l b xs zs,x=.ref l/\vs=[.ref b]/\H l=some (.lst xs)/\bJ K H b zs/\xs.length+zs.length<=sizeLine/\Q .non (upd H l (.lst (xs++zs)))
theorem Il:Fw X "list.extend" (Bu X.K):=by
 intro abQ s Y H x vs v us Q I rx rv h;obtain⟨l,b,xs,zs,rfl,rfl,hH,hB,hz,q⟩:=h;cases rx;obtain⟨u,rfl,ru⟩:=rv.one;cases ru;obtain⟨z,its,n,r,hl,e⟩:=I.lstM hH;obtain⟨its2,r2,⟨⟨c2,d2,dt2,s2⟩,n2,g2,f1,f2,f3⟩,_⟩:=I.list hB;simp only at f1 f2 f3;subst f1 f2 f3;have hl2:=r2.length;have hsz:its.toArray.size+its2.toArray.size<=sizeLine:=by rw[YM,YM]; omega
 have hlong:¬ (!its.toArray.isEmpty&&Builtin.List.listTooLong (its.toArray.size+its2.toArray.size))=true:=by rw[MF hsz,Bool.and_false];exact ZD
 refine call_meets F.slot_list_extend ⟨_,e,rfl⟩ F.entry_list_extend (F.args_list_extend_2 _ _)
  (Bt l its.toArray n b its2.toArray n2 none s2 hlong (by rw[YM]; omega) (by omega)) ⟨e,g2,?_⟩
 refine⟨.non,_,I.lset (its':=its++its2) hH e (by simp) (r.append r2) ?_,rfl,q⟩;rw[YJ];omega
end
def ji (z:Str) (lo hi:Option Int):Str:=⟨((z.cps.toList.drop (HT.sIx z.length 0 lo)).take (HT.sIx z.length z.length hi-HT.sIx z.length 0 lo)).toArray⟩
theorem Wt (lo hi:Option Int) (n:Nat):Builtin.Str.strSliceIndices lo hi 1 n=(List.range (HT.sIx n n hi-HT.sIx n 0 lo)).map (HT.sIx n 0 lo+·):=by
 have e1:∀(o:Option Int) (d:Nat),d<=n->(match o with | none=>(d:Int) | some i=>max 0 (min (if i<0 then i+(n:Int) else i) (n:Int)))=((HT.sIx n d o:Nat):Int):=λo d hd=>by
  cases o with
  | none=>rfl
  | some i=>
   simp only[HT.sIx];by_cases h:i<0
   . simp only[h,if_true]<;>omega
   . simp only[h,if_false]<;>omega
 rw[<-sliceRange_one];have a1:=e1 lo 0 (Zj _);have a2:=e1 hi n (YC _);unfold Builtin.Str.strSliceIndices;rw[<-a1,<-a2];cases lo<;>cases hi<;>simp
theorem JW (z:Str) (lo hi:Option Int):Txt.slice z lo hi=ji z lo hi:=by
 unfold Txt.slice ji;rw[Wt];have hp:=pick_run z.cps (HT.sIx z.length 0 lo) (HT.sIx z.length z.length hi-HT.sIx z.length 0 lo);split
 . rename_i h;have h2:(List.map (HT.sIx z.length 0 lo+·) (List.range (HT.sIx z.length z.length hi-HT.sIx z.length 0 lo))).length=z.length:=by simpa using h
   rw[YH,ZK]at h2;have hh:HT.sIx z.length z.length hi<=z.length:=HT.sIx_le _ _ (YC _) hi;have hl0:HT.sIx z.length 0 lo<=z.length:=HT.sIx_le _ _ (Zj _) lo;have hl:HT.sIx z.length 0 lo=0:=by omega
   rw[h2,hl,List.drop_zero,aat (by rw[Zu]; exact YC _)]
 . rw[hp]
def XC:V->Option Int->Option Int->Hp->VK->Prop:=λx lo hi H Q=>∃z,x=.str z/\z.length<=sizeLine/\Q (.str (ji z lo hi)) H
section
variable {X:Cx}
theorem Ui_:yZ X XC:=by
 intro abQ s Y H x v vl vu lo hi sl Q I rx hs pl pu h;obtain⟨z,rfl,hz,q⟩:=h;obtain⟨t,rfl⟩:=rx;refine⟨"str",_,F.slot_str_getitem.lookup,typeIs_str _ _ _,?_⟩;have go:∀(l u:Option (Int×Tok)),vl=partValue l->vu=partValue u->l.map (·.1)=lo->u.map (·.1)=hi->wpAny (model X.prog X.w) X.A (getItem (.str z t) (.ref sl)) (EP X abQ Y Q) X.xe s:=λl u e1 e2 e3 e4=>by subst e1 e2 e3 e4;refine wpAny_getItem_str_slice (l:=l) (u:=u) (st:=none) hs rfl (post_val_or_str ⟨Zc (Txt.slice_le z _ _) hz,λt' k=>?_⟩);refine⟨.str (ji z (l.map (·.1)) (u.map (·.1))),H,I.tok _,⟨t',?_⟩,q⟩;rw[<-JW];rfl
 cases pl with
 | none=>cases pu with
  | none=>exact go none none rfl rfl rfl rfl
  | int j tj=>exact go none (some (j,tj)) rfl rfl rfl rfl
 | int i ti=>cases pu with
  | none=>exact go (some (i,ti)) none rfl rfl rfl rfl
  | int j tj=>exact go (some (i,ti)) (some (j,tj)) rfl rfl rfl rfl
end
section
variable {X:Cx} {abQ:List (Addr×Obj)} {Y:St} {H:Hp} {s:Shared} {h':Heap}
theorem M5 {h:Heap} {a:Addr} {o:Obj} (e:h.get? a=some o):o.isFreed=false:=by
 unfold Heap.get? at e;split at e
 . cases e
 . rename_i hne;obtain⟨c,d,dt,sl⟩:=o;cases dt<;>first | rfl | exact(hne _ _ _ e).elim
theorem Inv.turned2 {t':Nat} {e it:Addr} (I:Inv X abQ Y H s) (hei:e≠it) (k:∀b o,b≠e->b≠it->s.heap.get? b=some o->h'.get? b=some o) (fe:kY X abQ H e) (fi:kY X abQ H it) (he:∃o,h'.get? e=some o) (hes:∃o,s.heap.get? e=some o):Inv X abQ Y H { s with heap:=h',toks:=t' }:=by
 obtain⟨o,ho⟩:=he;obtain⟨o0,ho0⟩:=hes;obtain⟨a0,a1,a2,a3,a4,a5⟩:=fe;obtain⟨b0,b1,b2,b3,b4,b5⟩:=fi;have I1:Inv X abQ Y H { s with heap:=s.heap.update e (λ_=>o),toks:=s.toks }:=I.turned (it:=e) (λb u hb q=>(Zx s.heap (λ_=>o) (Ne.symm hb)).trans q) a0 a1 a3 a4 a5;refine Inv.turned (s:={ s with heap:=s.heap.update e (λ_=>o),toks:=s.toks }) (it:=it) (h':=h') (t':=t') I1 (λb u hb q=>?_) b0 b1 b3 b4 b5;by_cases hbe:b=e
 . subst hbe;have q':(s.heap.update b (λ_=>o)).get? b=some u:=q;rw[Zz (λ_=>o) ho0 (M5 ho)]at q';cases q';exact ho
 . have q':(s.heap.update e (λ_=>o)).get? b=some u:=q;rw[Zx s.heap (λ_=>o) (Ne.symm hbe)]at q';exact k b u hbe hb q'
end
def Uj (K:FG) (a:Addr):It:=
 ⟨λi H=>∃xs x,bJ K H a xs/\xs[i]?=some x,λi H x H'=>∃T y,H T=none/\x=.ref T/\H'=upd H T (.tup [.int i,y])/\∀xs,bJ K H a xs->xs[i]?=some y,λi H=>∃xs,bJ K H a xs/\xs.length<=i⟩
theorem JX {K:FG} {elts:List Expr} {x1} {pos:Pos} (a e it:Addr) (hei:e≠it):Turn P w K (.Tuple elts x1 pos) (Uj K a) [e,it] e (λi h=>(∃old,IsEnum h e it i old)/\h.IsListIter it a i) where
 mem:=by simp
 obj:=λi h st b hb=>by
  obtain⟨⟨old,he⟩,hit⟩:=st;rcases YF.mp hb with rfl | hb
  . exact⟨_,he,λv z=>by have z':Data.fields _=Data.cell v:=z;cases z'⟩
  . have eb:b=it:=by simpa using hb
    subst eb;obtain⟨o,ho,c,d⟩:=hit;exact⟨o,ho,λv z=>by rw[d]at z; cases z⟩
 keep:=λi h h' st k=>by obtain⟨⟨old,he⟩,hit⟩:=st;exact⟨⟨old,k e (by simp) _ he⟩,hit.at λo q=>k it (by simp) o q⟩
 item:=by
  intro X hP hw hK hc i abQ s Y H E I hf st hg;subst hP hw hK;obtain⟨⟨old,he⟩,hit⟩:=st;obtain⟨xs,x,hq,hx⟩:=hg;obtain⟨its,rv,p,hz⟩:=I.list hq;obtain⟨u,hu,ru⟩:=rv.get hx;have fe:=hf e (by simp);have fi:=hf it (by simp);have helt:e<s.heap.objs.size:=YS he;have hilt:it<s.heap.objs.size:=by obtain⟨_,q,_⟩:=hit; exact YS q
  have hTn:H s.heap.objs.size=none:=I.hok.fresh (YC _);refine wpAny_pyNext_enum_item he hit p.isList (x:=u) (by simpa using hu) hei λh1 ho hit' hT hsz hk=>?_;refine⟨_,rfl,wpAny_letOwnedTupleGo_enum ho λh2 he' hs'=>?_⟩;have ne1:s.heap.objs.size≠e:=ZZ helt;have ne2:s.heap.objs.size≠it:=ZZ hilt;have I1:Inv X abQ Y (upd H s.heap.objs.size (.tup [.int i,x])) { s with heap:=s.heap.push { cls:=.type "tuple",data:=.seq #[.int i s.toks,u] },toks:=s.toks+1 }:=by refine I.laid (λb o q=>YD _ q) (YC _) ⟨by simp only[Yy,YK]; rw[sizeLine_eq]; decide,[.int i s.toks,u],.cons ⟨_,rfl⟩ (.cons ru .nil),?_⟩;exact⟨_,YT s.heap rfl,rfl,0,rfl⟩
  have up:∀b,b≠s.heap.objs.size->H b=none->upd H s.heap.objs.size (.tup [.int i,x]) b=none:=λb hb q=>by rw[bM hb]; exact q
  have I2:Inv X abQ Y (upd H s.heap.objs.size (.tup [.int i,x])) { s with heap:=h2,toks:=s.toks+1 }:=by
   refine I1.turned2 (h':=h2) (t':=s.toks+1) hei (λb o hb1 hb2 q=>?_) ⟨up e ne1.symm fe.1,fe.2⟩ ⟨up it ne2.symm fi.1,fi.2⟩ ⟨_,he'⟩ ⟨_,YD _ he⟩;rw[hs'.2 b hb1];by_cases hbT:b=s.heap.objs.size
   . subst hbT;have q':(s.heap.push { cls:=.type "tuple",data:=.seq #[.int i s.toks,u] }).get? s.heap.objs.size=some o:=q;rw[YT s.heap rfl]at q';cases q';exact hT
   . refine hk b o hb1 hb2 ?_;have q':(s.heap.push { cls:=.type "tuple",data:=.seq #[.int i s.toks,u] }).get? b=some o:=q;rw[Heap.get?_push_ne s.heap b _ hbT]at q';exact q'
  refine⟨.ref s.heap.objs.size,_,I2,rfl,⟨s.heap.objs.size,x,hTn,rfl,rfl,λys hy=>by rw[I.list_inj hy hq]; exact hx⟩,⟨⟨u,by simpa using he'⟩,hit'.at λo y=>(hs'.2 it hei.symm).trans y⟩,λb hb=>?_⟩;rcases YF.mp hb with rfl | hb
  . exact up _ ne1.symm fe.1
  . have eb:b=it:=by simpa using hb
    subst eb;exact up _ ne2.symm fi.1
 done:=by intro X hP hw hK hc i abQ s Y H E I hf st hg;subst hP hw hK;obtain⟨⟨old,he⟩,hit⟩:=st;obtain⟨xs,hq,hx⟩:=hg;obtain⟨its,rv,p,hz⟩:=I.list hq;obtain⟨f0,f1,f2,f3,f4,f5⟩:=hf it (by simp);have hl:=rv.length;exact wpAny_pyNext_enum_end (I.ok.hd hc) he hit p.isList (Array.getElem?_eq_none (by simp; omega)) λh' eb=>⟨rfl,I.turned (t':=s.toks) (λb o hb q=>eb b o hb q) f0 f1 f3 f4 f5⟩
 self:=λ_ _ _ _ _ st h=>by obtain⟨⟨old,he⟩,_⟩:=st;exact wpAny_pyIter_enum he h
section
variable {X:Cx}
def Wu (K:FG) (ta:TA):TI:=λY H R=>ta Y H λvs H1=>∃a,vs=[.ref a]/\(∃xs,bJ K H1 a xs)/\R (Uj K a) H1
theorem Q6 {a:Expr} {ta:TA} {p pos:Pos} {elts:List Expr} {x1} {tpos:Pos} (hg:Gl X "enumerate") (hm:X.mg "enumerate" = none) (ha:PA X [a] ta) (hs:starEach [a] X.env=[(false,eval a X.env)]:=by rfl):PI X (.Tuple elts x1 tpos) (.Call (.Name "enumerate" p) [a] [] pos) (Wu X.K ta):=by
 intro abQ s Y H R I h;refine Call_ (tG (u:=.type "enumerate") I hg hm (by kernel_rfl) (PyProof.Rows.callWith_type1 (bI (ha pos abQ s Y H _ I h) λus s1 ⟨vs,H1,I1,r1,q1⟩=>?_) hs rfl));obtain⟨b,e,⟨xs,hq⟩,q⟩:=q1;subst e;cases r1 with
 | cons r rr=>
  cases rr;cases r;obtain⟨its,rv,pl,hz⟩:=I1.list hq;refine call_enumerate_list pl.isList λh' he hit hsz hk=>?_;have I2:Inv X abQ Y H1 { s1 with heap:=h' }:=I1.kept (t':=s1.toks) hk;refine wpAny_pyIter_enum he ?_;refine⟨s1.heap.objs.size+1,[s1.heap.objs.size+1,s1.heap.objs.size],_,_,H1,rfl,I2,JX b (s1.heap.objs.size+1) s1.heap.objs.size (Nat.succ_ne_self _),⟨⟨_,he⟩,hit⟩,λc hc=>?_,q⟩;have hc':s1.heap.objs.size<=c:=by
   rcases YF.mp hc with rfl | hc
   . exact Z8 _
   . have ec:c=s1.heap.objs.size:=by simpa using hc
     exact Nat.le_of_eq ec.symm
  exact I1.fpOk hc' (I1.hok.fresh hc')
def Im:V->V->V->Hp->(Hp->Prop)->Prop:=λo i v H Q=>∃a H',o=.ref a/\Ug H a i v H'/\Q H'
theorem set_dict (hu:X.A.units+1<cLine):Mh X Im:=by intro abQ s Y H o i v ov iv u Q I ro ri rv h;obtain⟨a,H',rfl,g,q⟩:=h;cases ro;exact JR hu I g ri rv λs4 I4=>⟨H',I4,q⟩
end
section
variable {X:Cx} {abQ:List (Addr×Obj)} {Y:St} {H:Hp} {s:Shared} {h':Heap}
end
theorem Uk {h:Heap} {a b:Addr} {o o':Obj} (e:h.get? a=some o) (e':h.get? b=some o') (n:o.cls≠o'.cls):a≠b:=λz=>by subst z;rw[e]at e';cases e';exact n rfl
section
variable {X:Cx}
end
def d8 (es:Array (Int×Value)):List Str:=es.toList.map λe=>strOf e.2
structure j6 (h:Heap) (a:Addr) (es:Array (Int×Value)) (ep:Nat) (t:SetTable) (led:Bool):Prop where
 at_:h.get? a=some { cls:=.type "set",dict:=none,data:=.set es ep t,slots:=#[] }
 bd:es.size<scanBound
 fits:t.fits es.size=true
 led:t.led=led
 plain:0<es.size->t.plain=false
structure nq (prog:Program) (w:World) (h:Heap) (a:Addr) (es:Array (Int×Value)) (ep:Nat) (t:SetTable) (led:Bool):Prop extends j6 h a es ep t led where
 el:ElemsOf (PySem.strKind prog w) es.toList
 nd:(d8 es).Nodup
theorem Io {t:SetTable} {es:Array (Int×Value)} {h:Int} {x:Value}:(layNew t es h x).2.1.led=t.led:=by
 unfold layNew;split
 . show (SetTable.orStandIn _ _).led=_;unfold SetTable.orStandIn;split<;>rfl
 . rfl
theorem wV {t t':SetTable} {hs:Array Int} {n:Nat} {o:Array Nat} (e:t.relaid hs n=some (t',o)):t'.led=t.led/\t'.plain=t.plain:=by unfold SetTable.relaid SetTable.laid at e;obtain⟨ow,h1,h2⟩:=Option.bind_eq_some_iff.mp e;cases h2;exact⟨rfl,rfl⟩
theorem Bv {t:SetTable} {es:Array (Int×Value)} {n:Nat}:(relayAll t es n).2.1.led=t.led:=by
 unfold relayAll;split
 . rename_i e;dsimp only;split
   . exact(wV e).1
   . rfl
 . rfl
theorem ym {t:SetTable} {es:Array (Int×Value)} {n:Nat} (hp:t.plain=false):(relayAll t es n).2.1.plain=false:=by
 unfold relayAll;split
 . rename_i e;dsimp only;split
   . exact(wV e).2.trans hp
   . rfl
 . rfl
theorem JZ {h:Heap} {a:Addr} {es es':Array (Int×Value)} {ep:Nat} {t t':SetTable} (e:h.get? a=some { cls:=.type "set",dict:=none,data:=.set es ep t,slots:=#[] }):(h.update a (Obj.putSet es' t')).get? a=some { cls:=.type "set",dict:=none,data:=.set es' (ep+1) t',slots:=#[] }:=
 Zz (Obj.putSet es' t') e rfl
section
variable {prog:Program}
theorem add_str {a:Addr} {x:Str} {tk:Tok} {es:Array (Int×Value)} {ep:Nat} {t:SetTable} {led:Bool} {Q:Bool->Shared->Prop} (S:nq prog w s.heap a es ep t led) (room:es.size+1<scanBound)
 (h:∀b h' es' ep' t',Heap.SameBut a s.heap h'->nq prog w h' a es' ep' t' led->(∀y,y∈d8 es' ↔ y∈d8 es\/y=x)->es'.size<=es.size+1->Q b { s with heap:=h' }):
 wpAny (model prog w) A (setAddHashed a (.str x tk) (hashStr w x)) Q E s:=by
 have hk:(PySem.strKind prog w).is x (.str x tk)=true:=by show Value.isStrOf x (.str x tk)=true; simp[Value.isStrOf]
 unfold setAddHashed setAddHashedIn
 refine wpAny_holding (aaM (wpAny_setState_of S.at_ rfl S.fits ?_))
 dsimp only
 rw[byScan_of (knd:=PySem.strKind prog w) (x:=.str x tk) rfl S.bd S.el]
 simp only[↓reduceIte]
 unfold setAddByScan
 refine aaM (aaM (wpAny_rule (aaM ?_)))
 refine wpAny_setScan_of (knd:=PySem.strKind prog w) (k:=x) hk S.at_ rfl S.fits S.el ?_
 have key:∀e∈es.toList,(PySem.strKind prog w).is x e.2=true ↔ strOf e.2=x:=λe he=>by
  obtain⟨⟨k,h1,_⟩,_⟩:=S.el e he
  obtain⟨u,hu⟩:=Value.isStrOf_shape (x:=k) (v:=e.2) h1
  rw[hu]
  show Value.isStrOf x (.str k u)=true ↔ k=x
  simp[Value.isStrOf]
 cases hr:List.findIdx? (λe=>(PySem.strKind prog w).is x e.2) es.toList with
 | some j=>
  dsimp only
  obtain⟨hj,hpj,_⟩:=List.findIdx?_eq_some_iff_getElem.mp hr
  have hm:x∈d8 es:=Za.mpr ⟨es.toList[j],List.getElem_mem hj,(key _ (List.getElem_mem hj)).mp hpj⟩
  refine aaP (aaP ?_)
  exact h false s.heap es ep t (Heap.SameBut.refl a s.heap) S (λy=>⟨.inl,λq=>q.elim id λq=>q▸hm⟩) (Z8 _)
 | none=>
  dsimp only
  have hm:x∉d8 es:=λq=>by
   obtain⟨e,he,q⟩:=Za.mp q
   have:=List.findIdx?_eq_none_iff.mp hr e he
   rw[(key e he).mpr q]at this
   cases this
  have way:∀(b:Bool) {s₁:Shared} {Q':Unit->Shared->Prop},Q' () s₁->wpAny (model prog w) A (match b with | true=>rule "set.scan.the-table-gave-way" | false=>pure ()) Q' E s₁:=λb s₁ Q' q=>by
   cases b
   . exact aaP q
   . exact wpAny_rule q
  have hp:=layNew_perm t es (hashStr w x) (.str x tk)
  have hf:=layNew_fits t es (hashStr w x) (.str x tk)
  have hl:(layNew t es (hashStr w x) (.str x tk)).2.1.led=led:=Io.trans S.led
  have k1:∀es1:Array (Int×Value),List.Perm es1.toList (es.push (hashStr w x,.str x tk)).toList->ElemsOf (PySem.strKind prog w) es1.toList/\(d8 es1).Nodup/\es1.size=es.size+1/\∀y,y∈d8 es1 ↔ y∈d8 es\/y=x:=λes1 q=>by
   rw[Array.toList_push]at q
   have q2:List.Perm (d8 es1) (d8 es++[x]):=by
    have:=q.map λe=>strOf e.2
    simpa [d8,strOf] using this
   refine⟨(S.el.push (k:=x) hk rfl).perm q,q2.nodup_iff.mpr (aaj.mpr ⟨S.nd,by simp,λa ha b hb=>?_⟩),?_,λy=>?_⟩
   . rw[Ze.mp hb]
     exact λz=>hm (z▸ha)
   . have:=q.length_eq
     simpa using this
   . rw[q2.mem_iff]
     simp
  generalize layNew t es (hashStr w x) (.str x tk)=L at hp hf hl ⊢
  obtain⟨es1,t1,wd,gv⟩:=L
  obtain⟨k11,k12,k13,k14⟩:=k1 es1 hp
  dsimp only at hp hf hl ⊢
  refine aaM (way gv ?_)
  have fin:∀t2:SetTable,t2.fits es1.size=true->t2.led=led->t2.plain=false->wpAny (model prog w) A (do
   storeSet a es1 t2
   if (!wd&&t2.tooFull)=true then do
    (match (relayAll t2 es1 (SetTable.grown es1.size)).2.2 with | true=>rule "set.scan.the-table-gave-way" | false=>pure ())
    storeSet a (relayAll t2 es1 (SetTable.grown es1.size)).1 (relayAll t2 es1 (SetTable.grown es1.size)).2.1
    pure (some true)
    else pure (some true)) (λr s'=>∃h',s'={ s with heap:=h' }/\r=some true/\∃es' ep' t',Heap.SameBut a s.heap h'/\nq prog w h' a es' ep' t' led/\(∀y,y∈d8 es' ↔ y∈d8 es\/y=x)/\es'.size<=es.size+1) E s:=by
   intro t2 f2 l2 p2
   have b1:es1.size<scanBound:=by omega
   refine aaM (wpAny_storeSet_of S.at_ rfl ?_ (fits_of_scanBound b1))
   have g1:=JZ (es':=es1) (t':=t2) S.at_
   have sb1:=aah s.heap a (Obj.putSet es1 t2)
   split
   . refine aaM (way _ ?_)
     have q:=relayAll_perm t2 es1 (SetTable.grown es1.size)
     have qf:=relayAll_fits t2 es1 (SetTable.grown es1.size)
     have ql:(relayAll t2 es1 (SetTable.grown es1.size)).2.1.led=led:=Bv.trans l2
     have qp:=ym (es:=es1) (n:=SetTable.grown es1.size) p2
     generalize relayAll t2 es1 (SetTable.grown es1.size)=R at q qf ql qp ⊢
     obtain⟨es2,t3,g3⟩:=R
     dsimp only at q qf ql qp ⊢
     obtain⟨m1,m2,m3,m4⟩:=k1 es2 (q.trans hp)
     refine aaM (wpAny_storeSet_of g1 rfl ?_ (fits_of_scanBound (by omega)))
     exact aaP ⟨_,rfl,rfl,es2,_,t3,sb1.trans (aah _ a _),⟨⟨JZ g1,by omega,qf,ql,λ_=>qp⟩,m1,m2⟩,m4,by omega⟩
   . exact aaP ⟨_,rfl,rfl,es1,_,t2,sb1,⟨⟨g1,b1,f2,l2,λ_=>p2⟩,k11,k12⟩,k14,by omega⟩
  have out:∀r s',(∃h',s'={ s with heap:=h' }/\r=some true/\∃es' ep' t',Heap.SameBut a s.heap h'/\nq prog w h' a es' ep' t' led/\(∀y,y∈d8 es' ↔ y∈d8 es\/y=x)/\es'.size<=es.size+1)->r=some true/\Q true s':=λr s' q=>by
   obtain⟨h',rfl,rfl,es',ep',t',q1,q2,q3,q4⟩:=q
   exact⟨rfl,h true h' es' ep' t' q1 q2 q3 q4⟩
  split
  . refine aaM ?_
    rw[hashByValue_scannable 8 (x:=.str x tk) rfl]
    refine aaP ?_
    refine wpAny_mono (fin { t1 with plain:=false } (SetTable.fits_plain_off hf) hl rfl) (λr s' q=>?_) λ_ _ e=>e
    obtain⟨rfl,q'⟩:=out r s' q
    exact aaP q'
  . rename_i np
    refine aaM (aaP ?_)
    simp only[↓reduceIte]
    refine wpAny_mono (fin t1 hf hl (by simpa using np)) (λr s' q=>?_) λ_ _ e=>e
    obtain⟨rfl,q'⟩:=out r s' q
    exact aaP q'
theorem j6.moved {h h':Heap} {a:Addr} {es:Array (Int×Value)} {ep:Nat} {t:SetTable} {led:Bool} (S:j6 h a es ep t led) (k:∀o,h.get? a=some o->h'.get? a=some o):j6 h' a es ep t led:=⟨k _ S.at_,S.bd,S.fits,S.led,S.plain⟩
theorem nq.moved {h h':Heap} {a:Addr} {es:Array (Int×Value)} {ep:Nat} {t:SetTable} {led:Bool} (S:nq prog w h a es ep t led) (k:∀o,h.get? a=some o->h'.get? a=some o):nq prog w h' a es ep t led:=⟨S.1.moved k,S.el,S.nd⟩
end
section
variable {prog:Program} {w:World} {A:Around} {R:Result->Shared->Prop} {I:Addr} {fp wr:List Addr} {G:Array GenState->Array GenState->Prop} {n:Nat} {P:Nat->Value->Prop} {St:Nat->Shared->Prop}
theorem J0 (W:WalksS prog w A.in1 I fp wr G n P St) (D:Addr) (hD:D∉fp) (val:Nat->Str) (hv:∀i v,P i v->∃t,v=.str (val i) t) (hb:n+1<scanBound) (led:Bool):
 ∀(k i:Nat) (s:Shared) (es:Array (Int×Value)) (ep:Nat) (t:SetTable),n-i=k->i<=n->St i s->nq prog w s.heap D es ep t led->es.size<=i->(∀y,y∈d8 es ↔ ∃j,j<i/\val j=y)->
  (∀s' es' ep' t',Moved (D::wr) G s s'->nq prog w s'.heap D es' ep' t' led->(∀y,y∈d8 es' ↔ ∃j,j<n/\val j=y)->es'.size<=n->R (.ok (.ret .none)) s')->
  codeAny (model prog w) A (.builtin "set.update.loop" ⟨[.ref D,.ref I],[]⟩) R s:=by
 have nw:D∉wr:=λq=>hD (W.sub _ q);have mw:∀b∈wr,b∈D::wr:=λb q=>YG _ q;intro k;induction k with
 | zero=>
  intro i s es ep t hk hi st S sz mem hR;obtain rfl:i=n:=by omega
  refine codeAny_builtin F.entry_set_update_loop ?_;rw[Around.under_plainId F.plain_set_update_loop _];refine aaM (m:=pyNext (.ref I)) (W.done s _ _ st λs' m=>?_);exact aaP (hR s' es ep t (m.mono mw) (S.moved λo q=>m.heap D o nw q) mem sz)
 | succ k ih=>
  intro i s es ep t hk hi st S sz mem hR;have lt:i<n:=by omega
  refine codeAny_builtin F.entry_set_update_loop ?_;rw[Around.under_plainId F.plain_set_update_loop _];refine aaM (m:=pyNext (.ref I)) (W.item i s _ _ lt st λv s' hP st' m=>?_);obtain⟨u,rfl⟩:=hv i v hP;have S':=S.moved λo q=>m.heap D o nw q;refine aaM (m:=holding [Value.str (val i) u] (setAdd D (.str (val i) u))) (wpAny_holding ?_);unfold setAdd;refine wpAny_holding (aaM (wpAny_pyHash_str ?_));refine add_str (s:={ s' with toks:=s'.toks+1 }) S' (by omega) λb h' es' ep' t' sb S2 mem2 sz2=>?_;refine aaP ⟨plainId_quiet F.plain_set_update_loop _,ih (i+1) _ es' ep' t' (by omega) lt (W.frame _ s' _ _ st' (Z8 _) λc hc o q=>?_) S2 (by omega) (λy=>?_) λs'' es'' ep'' t'' m2 S3 mem3 sz3=>?_⟩
  . rw[sb.2 c (λz=>hD (z▸hc))];exact q
  . rw[mem2 y,mem y];constructor
    . rintro (⟨j,hj,q⟩ | q)
      . exact⟨j,by omega,q⟩
      . exact⟨i,by omega,q.symm⟩
    . rintro⟨j,hj,q⟩;rcases Nat.lt_or_ge j i with g | g
      . exact .inl ⟨j,g,q⟩
      . obtain rfl:j=i:=by omega
        exact .inr q.symm
  . refine hR s'' es'' ep'' t'' (Moved.trans W.gtrans ((m.mono mw).then_heap (Z8 _) λc o hc q=>?_) m2) S3 mem3 sz3;rw[sb.2 c (λz=>hc (z▸Yz))];exact q
end
def byText (w:World):Bool:=w.params.followText "set-order"
abbrev qj (w:World):Obj:={ cls:=.type "set",dict:=none,data:=.set #[] 0 (.fresh 0 0 (!byText w)),slots:=#[] }
section
variable {prog:Program}
theorem Q7 (a:Value) {Q:Value->Shared->Prop} (h:Q (.ref s.heap.objs.size) { s with heap:=s.heap.push (qj w) }):
 codeAny (model prog w) A (.call (.builtin "set.__new__") ⟨[.type "set",a],[]⟩) (wants Q E) s:=by
 refine codeAny_of_tree (show wpAny _ A.in1 (do checkBuiltinCall "set.__new__" ⟨[.type "set",a],[]⟩; again (.builtin "set.__new__" ⟨[.type "set",a],[]⟩)) _ _ s from ?_);refine aaM (wpAny_of_eq (F.newCall_set_1 a) (aaP ⟨plainId_quiet F.plain_set_new _,codeAny_builtin F.entry_set_new (?_:wpAny _ _ _ _ _ _)⟩));rw[Around.under_plainId F.plain_set_new _];unfold Builtin.«set.__new__»; unfold Builtin.Frozenset.newClass;have hs:=sub_set_self;obtain⟨x1,x2,x3,x4,x5⟩:=s;dsimp only
 wp_walk
 refine wpAny_askSetting (aaP ?_); dsimp only; simp only[newObj];refine aaM (wpAny_alloc (aaP (aaP ?_)));exact h
theorem Fy:∀{vs:List Value} {ss:List Str},StrsAre vs ss->∀(i:Nat) (v:Value),vs[i]?=some v->∃t,v=.str (ss.getD i ⟨#[]⟩) t
 | _,_,.nil,i,v,h=>by simp at h
 | _,_,.cons y t r,0,v,h=>by cases h; exact⟨t,rfl⟩
 | _,_,.cons y t r,i+1,v,h=>by obtain⟨u,e⟩:=Fy r i v (by simpa using h);exact⟨u,by simpa using e⟩
theorem vV:∀{vs:List Value} {ss:List Str},StrsAre vs ss->vs.length=ss.length
 | _,_,.nil=>rfl
 | _,_,.cons y t r=>by simp[vV r]
theorem Ex {l:Addr} {items:Array Value} {ss:List Str} {Q:Value->Shared->Prop} (hh:A.handled=none) (hl:s.heap.IsList l items) (hi:StrsAre items.toList ss) (hb:items.size+1<scanBound)
 (h:∀(h':Heap) (tk:Nat) es ep t,nq prog w h' s.heap.objs.size es ep t (!byText w)->(∀y,y∈d8 es ↔ y∈ss)->es.size<=items.size->(∀b o,b<s.heap.objs.size->s.heap.get? b=some o->h'.get? b=some o)->Q (.ref s.heap.objs.size) { s with heap:=h',toks:=tk }):
 wpAny (model prog w) A (call (.type "set") [.ref l]) Q E s:=by
 obtain⟨c,tl,hmro⟩:=F.called_set.mro;have m1:=F.called_set.made; have m2:=F.called_set.sub;refine wpAny_call (codeAny_of_tree (show wpAny _ _ (callAny (.type "set") _) _ _ _ from aaP ⟨Code.quiet_builtin _ (by decide +kernel),codeAny_builtin F.entry_type_call (?_:wpAny _ _ _ _ _ _)⟩));rw[Around.under_plain (weight_type_call_type "set" [.ref l] []) rfl];have m3:=F.called_set.notType; have m4:=F.called_set.canCreate;have m5:=F.typeCall_set_1 (.ref l)
 repeat any_goals first | assumption | wp_step
 refine codeAny_mono (Q7 (.ref l) (E:=E) (Q:=λo s₁=>o=.ref s.heap.objs.size/\s₁={ s with heap:=s.heap.push (qj w) }) ⟨rfl,rfl⟩) λr s₁ hr=>?_;cases r with
 | error e=>exact hr
 | ok fl=>
  cases fl with
  | ret obj=>
   obtain⟨rfl,rfl⟩:=hr;have g0:(s.heap.push (qj w)).get? s.heap.objs.size=some (qj w):=YT _ rfl;have hT:Shared.TypeIs { s with heap:=s.heap.push (qj w) } (.ref s.heap.objs.size) "set" := ⟨_,g0,rfl⟩;have m6:=F.called_set.init.lookup; have m7:=F.called_set.init.bind (.ref s.heap.objs.size)
   repeat any_goals first | assumption | wp_step
   refine codeAny_mono (codeAny_call_builtin (R:=wants (λr s₂=>r=.none/\∃h' tk es ep t,s₂={ s with heap:=h',toks:=tk }/\nq prog w h' s.heap.objs.size es ep t (!byText w)/\(∀y,y∈d8 es ↔ y∈ss)/\es.size<=items.size/\(∀b o,b<s.heap.objs.size->s.heap.get? b=some o->h'.get? b=some o)) E) F.called_set.init.plain F.entry_set_init (check_set_init_1 hT ?_)) λr₂ s₂ hr₂=>?_
   . obtain⟨⟨c1,c2,c3,c4⟩,ho,hc,nl,hd⟩:=hl;simp only at hc hd;subst hc; subst hd;have ho':(s.heap.push (qj w)).get? l=some { cls:=.type "list",dict:=c2,data:=.seq items nl,slots:=c4 }:=YD _ ho;have n1:=F.sub_list_set; have n2:=F.sub_list_frozenset;have n3:(Value.type "list" == Value.type "dict")=false:=by decide
     have hl1:(s.heap.push (qj w)).IsList l items:=⟨_,ho',rfl,nl,rfl⟩;unfold Builtin.«set.__init__»; unfold noKeywords; unfold Builtin.Frozenset.updateFrom;generalize hPI:pyIter=PI
     wp_walk
     subst hPI;refine wpAny_pyIter_list hl1 (aaM (wpAny_runValue ?_));have lS:l<s.heap.objs.size:=YS ho;have h3:A.in1.in1.in1.handled=none:=by simp[hh]
     have nI:l≠(s.heap.push (qj w)).objs.size:=by rw[Z7]; exact Zb (ZJ lS)
     have nS:s.heap.objs.size∉[(s.heap.push (qj w)).objs.size,l]:=by rw[Z7]; simp only[YF,ZR,or_false,not_or];exact⟨Zb (Z4 _),ZZ lS⟩
     refine J0 ((Walks.list h3 _ l nI items).toS) s.heap.objs.size nS (λi=>ss.getD i ⟨#[]⟩) (λi v q=>Fy hi i v (by rw[Array.getElem?_toList]; exact q)) hb (!byText w) (items.size-0) 0 _ #[] 0 (.fresh 0 0 (!byText w)) (by omega) (Zj _) ⟨⟨_,YT _ rfl,rfl,rfl⟩,(hl1.push _)⟩ ?S0 (Zj _) (λy=>?M0) ?hR
     case S0=>exact⟨⟨YD _ g0,by decide,rfl,rfl,λq=>by simp at q⟩,λe q=>by simp at q,by simp[d8]⟩
     case M0=>simp[d8]
     case hR=>
      intro s' es ep t m S' mem sz;obtain⟨h',g',d',tk',os'⟩:=s';obtain rfl:g'=s.gens:=m.gens;obtain rfl:d'=s.drawn:=m.drawn;obtain rfl:os'=s.os:=m.os;refine aaP (show wpAny _ _ (ret Value.none) _ _ _ from aaP ⟨rfl,h',tk',es,ep,t,rfl,S',λy=>?_,sz,λb o hb q=>?_⟩)
      . rw[mem y];have e0:=vV hi;rw[Zu]at e0;have gd:∀j (hj:j<ss.length),ss.getD j ⟨#[]⟩=ss[j]:=λj hj=>by simp[hj]
        constructor
        . rintro⟨j,hj,rfl⟩;rw[gd j (by omega)];exact List.getElem_mem _
        . intro q;obtain⟨j,hj,rfl⟩:=List.mem_iff_getElem.mp q;exact⟨j,by omega,gd j hj⟩
      . have b1:b≠s.heap.objs.size:=Zb hb;have b2:b≠(s.heap.push (qj w)).objs.size:=by rw[Z7]; exact Zb (ZJ hb)
        exact m.heap b o (by simp only[YF,ZR,or_false,not_or]; exact⟨b1,b2⟩) (YD _ (YD _ q))
   . cases r₂ with
     | error e=>exact hr₂
     | ok fl₂=>
      cases fl₂ with
      | ret r=>
       obtain⟨rfl,h',tk,es,ep,t,rfl,q1,q2,q3,q4⟩:=hr₂
       repeat any_goals first | assumption | wp_step
       exact h _ _ _ _ _ q1 q2 q3 q4
      | _=>exact hr₂.elim
  | _=>exact hr.elim
end
theorem Fz:Manifest.owners.lookup (String.ofList ['r','o','t','a','r','e','t','i','_','t','e','s'].reverse)=some Manifest.sig_set_iterator:=by kernel_rfl
theorem j7:Slot "set_iterator" "__next__" "set_iterator.__next__" := .of (owner := "set_iterator") (n := "__next__") (by rw[typeLookup_type,builtinLookup_eq_fast]; kernel_rfl) (by decide +kernel) (by decide +kernel) (by decide +kernel) (by first | exact .inl (by decide +kernel) | exact .inr (by decide +kernel)) (by rw[isSubtype_type]; kernel_rfl)
theorem Bw:Slot "set_iterator" "__iter__" "set_iterator.__iter__" := .of (owner := "set_iterator") (n := "__iter__") (by rw[typeLookup_type,builtinLookup_eq_fast]; kernel_rfl) (by decide +kernel) (by decide +kernel) (by decide +kernel) (by first | exact .inl (by decide +kernel) | exact .inr (by decide +kernel)) (by rw[isSubtype_type]; kernel_rfl)
theorem FJ:entryFor table "set_iterator.__next__" = some Builtin.«set_iterator.__next__»:=entryFor_of_tree (by kernel_rfl)
theorem Bx (a:Value):argsOk "set_iterator.__next__" ⟨[a],[]⟩:=by unfold argsOk; rw[signature?_of (id := "set_iterator.__next__") (n:=['_','_','t','x','e','n','_','_']) (o:=['r','o','t','a','r','e','t','i','_','t','e','s']) (by kernel_rfl) Fz]; kernel_rfl
theorem J1:entryFor table "set.__iter__" = some Builtin.«frozenset.__iter__»:=entryFor_alias (id' := "frozenset.__iter__") (by kernel_rfl) rfl (by decide +kernel) (by kernel_rfl)
theorem rB {α:Type}:∀{l:List α} {i:Nat} (h:i<l.length),(l[i]::l.eraseIdx i).Perm l
 | a::l,0,h=>.rfl
 | a::l,i+1,h=>(List.Perm.swap _ _ _).trans ((rB (l:=l) (i:=i) (by simpa using h)).cons a)
theorem zj {α:Type} (f:Nat->Nat):∀(n k:Nat) (l:List α) (o:Array α),l.length<=n->(pickOrder.go f n k l o).toList.Perm (o.toList++l)
 | 0,k,l,o,h=>by have:l=[]:=List.length_eq_zero_iff.mp (by omega);subst this;simp[pickOrder.go]
 | n+1,k,l,o,h=>by
  unfold pickOrder.go;cases l with
  | nil=>simp
  | cons a l=>
   have hlt:f k%(a::l).length<(a::l).length:=Nat.mod_lt _ (by simp);rw[Y0 hlt];dsimp only;refine(zj f n (k+1) _ _ (by rw[List.length_eraseIdx_of_lt hlt]; omega)).trans ?_;rw[Array.toList_push,YQ];exact List.Perm.append_left _ (rB hlt)
theorem M6 {α:Type} (f:Nat->Nat) (o:Array α):(pickOrder f o).toList.Perm o.toList:=by have:=zj f o.size 0 o.toList #[] (by simp);simpa [pickOrder] using this
section
variable {prog:Program}
theorem By {M:Model} {src:Source} {n:Nat} {Q:Nat->Shared->Prop} (hn:0<n) (h:∀i d,i<n->Q i { s with drawn:=d }):wpAny M A (choose src n) Q E s:=λΓ p hΓ=>by show Sem.wp M Γ (.choose src n .pure) _ _ p s;rw[Sem.wp_choose];exact⟨by omega,h _ _ (Nat.mod_lt _ hn)⟩
theorem pM {M:Model} {α:Type}:∀(n:Nat) (xs:List α) {Q:List α->Shared->Prop} {s:Shared},xs.length<=n->(∀ys d,ys.Perm xs->Q ys { s with drawn:=d })->wpAny M A (drawOrder n xs) Q E s
 | 0,xs,Q,s,h,q=>by have:xs=[]:=List.length_eq_zero_iff.mp (by omega);subst this;exact aaP (q [] s.drawn .rfl)
 | n+1,[],Q,s,h,q=>aaP (q [] s.drawn .rfl)
 | n+1,x::xs,Q,s,h,q=>by show wpAny M A (choose .order (x::xs).length >>= _) Q E s;refine aaM (By (by simp) λi d hi=>?_);rw[Y0 hi];refine aaM (pM n _ (by rw[List.length_eraseIdx_of_lt hi]; simp only[Yy]at h ⊢; omega) λys d' p=>aaP (q _ d' ((p.cons _).trans (rB hi))))
abbrev nO (h:Heap) (it a:Addr) (f:Value) (i n ep:Nat):Prop:=h.get? it=some { cls:=.type "set_iterator",dict:=none,data:=.fields #[f,rawInt i,.ref a,rawInt n,rawInt ep],slots:=#[] }
def pN (w:World) (h:Heap) (it P a:Addr) (es:Array (Int×Value)) (ep:Nat) (t:SetTable) (vs:List Value) (i:Nat):Prop:=
 (byText w=true/\nO h it a (rawInt 0) i es.size ep/\vs=(pickOrder (w.params.setOrder a ep) es).toList.map (·.2))
 \/ (byText w=false/\1<es.size/\∃(pl:List Nat) (k:Nat),nO h it a (.ref P) i es.size ep/\h.get? P=some (seqObj "tuple" (pl.map λj:Nat=>rawInt j).toArray k)/\P≠it/\pl.Perm (List.range es.size)/\vs=pl.map λj=>(es.getD j (0,.none)).2)
 \/ (byText w=false/\es.size<=1/\∃sl:Nat,nO h it a (rawInt sl) i es.size ep/\vs=es.toList.map (·.2)/\((i=0/\sl=0)\/∃p,t.place=#[p]/\i=1/\sl=p+1))
theorem M7 {a:Addr} {es:Array (Int×Value)} {ep:Nat} {t:SetTable} {Q:Value->Shared->Prop} (S:j6 s.heap a es ep t (!byText w))
 (h:∀h' d it P vs,(∀b o,s.heap.get? b=some o->h'.get? b=some o)->pN w h' it P a es ep t vs 0->vs.Perm (es.toList.map (·.2))->s.heap.objs.size<=it->s.heap.objs.size<=P->it<h'.objs.size->P<h'.objs.size->Q (.ref it) { s with heap:=h',drawn:=d }):
 wpAny (model prog w) A (pyIter (.ref a)) Q E s:=by
 have hT:s.TypeIs (.ref a) "set" := ⟨_,S.at_,rfl⟩;refine wpAny_pyIter_slot hT F.slot_set_iter (wpAny_call_entry F.slot_set_iter hT J1 ?_ (F.args_set_iter_1 _));unfold Builtin.«frozenset.__iter__» Builtin.Frozenset.slot0 slotArgs;simp only[List.isEmpty_nil,Bool.not_true,Zg,↓reduceIte,bind_assoc,YK,bne_self_eq_false];unfold Builtin.Frozenset.addrOf Builtin.Frozenset.sizeOf;refine aaM (aaP ?_)
 try dsimp only
 refine aaM (aaP ?_);refine aaM (aaM (wpAny_setEntries_of S.at_ rfl S.fits (aaP ?_)));unfold setDrawn setsByText;refine aaM (aaM (wpAny_setState_of S.at_ rfl S.fits (aaM (aaM (wpAny_askSetting (aaP (aaP ?_)))))));show wpAny _ _ (if (!byText w&&(!t.plain&&decide (es.size>1)))=true then _ else _) _ _ _;split
 . rename_i hc;simp only[Zy,Bool.not_eq_true',decide_eq_true_eq]at hc;refine aaM (pM es.size (List.range es.size) (by simp) λpl d hp=>?_);have hl:pl.length=es.size:=by rw[hp.length_eq,ZK]
   refine aaM (wpAny_newTuple ?_ (by have:=fits_of_scanBound S.bd; simp; omega));have g1:(s.heap.push (seqObj "tuple" (pl.map λj:Nat=>rawInt j).toArray 0)).get? s.heap.objs.size=some (seqObj "tuple" (pl.map λj:Nat=>rawInt j).toArray 0):=YT _ rfl;refine aaM (wpAny_setEpoch_of (YD _ S.at_) rfl S.fits ?_);refine aaM (wpAny_newObj_type (aaP ⟨_,rfl, "set_iterator",_,⟨_,YT _ rfl,rfl⟩,j7.lookup,?_⟩));have z1:(s.heap.push (seqObj "tuple" (pl.map λj:Nat=>rawInt j).toArray 0)).objs.size=s.heap.objs.size+1:=size_push' ..;refine h _ d _ s.heap.objs.size (pl.map λj=>(es.getD j (0,.none)).2) (λb o q=>YD _ (YD _ q)) (.inr (.inl ⟨hc.1,hc.2.2,pl,0,YT _ rfl,YD _ g1,?_,hp,rfl⟩)) ?_ ?_ (YC _) ?_ ?_
   . exact Zb (by show s.heap.objs.size<(s.heap.push _).objs.size; rw[z1]; exact Z4 _)
   . refine(hp.map _).trans (.of_eq ?_);refine List.ext_getElem (by simp) λi h1 h2=>?_;have h3:i<es.size:=by simpa using h1
     simp[h3]
   . show s.heap.objs.size<=(s.heap.push _).objs.size; rw[z1]; exact Z8 _
   . exact YS (YT _ rfl)
   . exact YS (YD _ g1)
 . rename_i hc;refine aaM (aaP (aaM (wpAny_setEpoch_of S.at_ rfl S.fits ?_)));refine aaM (wpAny_newObj_type (aaP ⟨_,rfl, "set_iterator",_,⟨_,YT _ rfl,rfl⟩,j7.lookup,?_⟩));have z1:∀o:Obj,s.heap.objs.size<(s.heap.push o).objs.size:=λo=>by rw[size_push']; exact Z4 _
   by_cases hb:byText w=true
   . exact h _ s.drawn _ s.heap.objs.size _ (λb o q=>YD _ q) (.inl ⟨hb,YT _ rfl,rfl⟩) ((M6 _ es).map _) (YC _) (YC _) (z1 _) (z1 _)
   . have hb':byText w=false:=by simpa using hb
     have hz:es.size<=1:=by
      rw[hb']at hc;rcases Nat.lt_or_ge 1 es.size with g | g
      . exact absurd (by rw[S.plain (by omega)]; simp; omega) hc
      . exact g
     exact h _ s.drawn _ s.heap.objs.size _ (λb o q=>YD _ q) (.inr (.inr ⟨hb',hz,0,YT _ rfl,rfl,.inl ⟨rfl,rfl⟩⟩)) .rfl (YC _) (YC _) (z1 _) (z1 _)
theorem zm {a:Addr} {es:Array (Int×Value)} {ep i sl:Nat} {t:SetTable} {Q:Option (Value×Nat)->Shared->Prop} (S:j6 s.heap a es ep t (!byText w)) (hb:byText w=true)
 (h:Q (((pickOrder (w.params.setOrder a ep) es)[i]?).map λe=>(e.2,sl)) s):wpAny (model prog w) A (setNext a sl i ep) Q E s:=by
 unfold setNext setsByText;refine aaM (wpAny_setState_of S.at_ rfl S.fits (aaM (aaM (wpAny_askSetting (aaP ?_)))));show wpAny _ _ (if byText w=true then _ else _) _ _ _;rw[aaN hb,aaO (by simp)];refine aaM ?_;unfold setWalk setsByText;refine aaM (wpAny_setState_of S.at_ rfl S.fits (aaM (aaM (wpAny_askSetting (aaP ?_)))));show wpAny _ _ (if byText w=true then _ else _) _ _ _;rw[aaN hb];exact aaM (wpAny_askSetting (aaP (aaP h)))
theorem zp {a:Addr} {es:Array (Int×Value)} {ep i sl:Nat} {t:SetTable} {Q:Option (Value×Nat)->Shared->Prop} (S:j6 s.heap a es ep t (!byText w)) (hb:byText w=false) (hz:es.size<=1)
 (h:Q (match es[SetTable.below t.place sl]?,t.place[SetTable.below t.place sl]? with | some (_,x),some j=>some (x,j+1) | _,_=>none) s):wpAny (model prog w) A (setNext a sl i ep) Q E s:=by
 unfold setNext setsByText;refine aaM (wpAny_setState_of S.at_ rfl S.fits (aaM (aaM (wpAny_askSetting (aaP ?_)))));show wpAny _ _ (if byText w=true then _ else if (!t.plain&&decide (es.size>1))=true then _ else _) _ _ _;have n1:¬ es.size>1:=by omega
 rw[aaO (by rw[hb]; simp),aaO (by simp[n1])];refine aaM (show wpAny _ _ (if (!t.led&&!es.isEmpty)=true then unsupported "set:maker-not-led" else pure ()) _ _ _ from ?_);rw[aaO (by rw[S.led,hb]; simp)];exact aaP (aaP h)
theorem Ul {a it:Addr} {es:Array (Int×Value)} {ep i:Nat} {t:SetTable} {f:Value} {b:Bool} (S:j6 s.heap a es ep t b) (q:nO s.heap it a f i es.size ep):a≠it:=Uk S.at_ q (by simp)
theorem BJ {α:Type} {Q':α->Shared->Prop} (hh:A.handled=none) (h:∀h' e,(∀b o,s.heap.get? b=some o->h'.get? b=some o)->(∃o,h'.get? e=some o/\o.cls=.type "StopIteration")->E (.ref e) { s with heap:=h' }):
 wpAny (model prog w) A (newExc (.type "StopIteration") [] >>= λe=>(raiseNew e:Sem α)) Q' E s:=by
 refine aaM ?_;simp only[newExc,newTuple];refine aaM (wpAny_newObj_type (aaM (m:=firstArgMember _ _) (wpAny_of_eq (a:=Value.none) (by first | rfl | (simp only[firstArgMember]; rfl)) (wpAny_newObj_type ?_ (by size_fits)))) (by size_fits));simp only[raiseNew];refine aaM (wpAny_handled ?_);rw[hh];exact aaM (aaP (wpAny_throw (h _ _ (λb o q=>YD _ (YD _ q)) ⟨_,YT _ rfl,rfl⟩)))
theorem yo {P:Addr} {xs:Array Value} {k:Nat} {Q:Option (Array Value)->Shared->Prop} (hP:s.heap.get? P=some (seqObj "tuple" xs k)) (h:Q (some xs) s):wpAny (model prog w) A (seqItems? (.ref P)) Q E s:=by unfold seqItems?;refine aaM (wpAny_load hP ?_);exact aaP h
theorem rC {it a:Addr} {es:Array (Int×Value)} {ep i:Nat} {sl:Nat} {t:SetTable} {Q:Option Value->Shared->Prop} (hh:A.handled=none) (S:j6 s.heap a es ep t (!byText w)) (q:nO s.heap it a (rawInt sl) i es.size ep) (r:Option (Value×Nat))
 (hn:∀{A':Around} {Q':Option (Value×Nat)->Shared->Prop} {E':Value->Shared->Prop},Q' r s->wpAny (model prog w) A' (setNext a sl i ep) Q' E' s)
 (h1:∀x n h',r=some (x,n)->Heap.SameBut it s.heap h'->nO h' it a (rawInt n) (i+1) es.size ep->Q (some x) { s with heap:=h' })
 (h2:r=none->∀h',Heap.ExtBut it s.heap h'->Q none { s with heap:=h' }):wpAny (model prog w) A (pyNext (.ref it)) Q E s:=by
 have hT:s.TypeIs (.ref it) "set_iterator" := ⟨_,q,rfl⟩;unfold pyNext;refine aaM (wpAny_attempt (wpAny_callSpecial?_slot (name:=Str.ofString "__next__") hT j7 (wpAny_call_entry j7 hT FJ ?_ (Bx _))));unfold Builtin.«set_iterator.__next__»;refine aaM (m:=slotArgs "__next__" 0 _) (aaP ?_);refine aaM (wpAny_fieldsOf q rfl (show wpAny _ _ (setEntries a >>= _) _ _ _ from aaM (wpAny_setEntries_of S.at_ rfl S.fits ?_)));rw[aaO (by simp)];show wpAny _ _ (setNext a sl i ep >>= _) _ _ _;refine aaM (hn ?_);cases r with
 | some x=>
  obtain⟨x,n⟩:=x;show wpAny _ _ (setField (.ref it) 0 (rawInt n) >>= λ_=>setField (.ref it) 1 (rawInt ((i:Int)+1)) >>= λ_=>ret x) _ _ _;refine aaM (wpAny_setField_rec q (by simp) λg1 q1 b1=>aaM (wpAny_setField_rec (s:={ s with heap:=g1 }) q1 (by simp) λg2 q2 b2=>aaP ⟨_,rfl,aaP (h1 x n g2 rfl (b1.trans b2) ?_)⟩));exact q2
 | none=>
  show wpAny _ _ (setField (.ref it) 2 .none >>= λ_=>newExc (.type "StopIteration") [] >>= λe=>raiseNew e) _ _ _;refine aaM (wpAny_setField_rec q (by simp) λg1 q1 b1=>BJ (s:={ s with heap:=g1 }) hh λg2 e k zqz=>?_);obtain⟨o,ho,hc⟩:=zqz;refine aaM (wpAny_isInstance (T := "StopIteration") (b:=true) (show Shared.TypeIs { s with heap:=g2 } (.ref e) "StopIteration" from ⟨o,ho,hc⟩) isSubtype_stop (?_:wpAny _ _ _ _ _ _));exact aaP (h2 rfl _ λb o hb z=>k b o (b1.extBut b o hb z))
theorem zq {it P a:Addr} {es:Array (Int×Value)} {ep i k:Nat} {pl:List Nat} {t:SetTable} {Q:Option Value->Shared->Prop} (hh:A.handled=none) (S:j6 s.heap a es ep t (!byText w)) (q:nO s.heap it a (.ref P) i es.size ep)
 (hP:s.heap.get? P=some (seqObj "tuple" (pl.map λj:Nat=>rawInt j).toArray k)) (hp:∀j∈pl,j<es.size)
 (h1:∀j h',pl[i]?=some j->Heap.SameBut it s.heap h'->nO h' it a (.ref P) (i+1) es.size ep->Q (some (es.getD j (0,.none)).2) { s with heap:=h' })
 (h2:pl[i]?=none->∀h',Heap.ExtBut it s.heap h'->Q none { s with heap:=h' }):wpAny (model prog w) A (pyNext (.ref it)) Q E s:=by
 have hT:s.TypeIs (.ref it) "set_iterator" := ⟨_,q,rfl⟩;unfold pyNext;refine aaM (wpAny_attempt (wpAny_callSpecial?_slot (name:=Str.ofString "__next__") hT j7 (wpAny_call_entry j7 hT FJ ?_ (Bx _))));unfold Builtin.«set_iterator.__next__»;refine aaM (m:=slotArgs "__next__" 0 _) (aaP ?_);refine aaM (wpAny_fieldsOf q rfl (show wpAny _ _ (setEntries a >>= _) _ _ _ from aaM (wpAny_setEntries_of S.at_ rfl S.fits ?_)));rw[aaO (by simp)];show wpAny _ _ (seqItems? (.ref P) >>= _) _ _ _;refine aaM (yo hP ?_);show wpAny _ _ (match (pl.map λj:Nat=>rawInt j).toArray[i]? with | some (.int place _)=>_ | some _=>_ | none=>_) _ _ _;cases hj:pl[i]? with
 | some j=>
  rw[show (pl.map λj:Nat=>rawInt j).toArray[i]?=some (rawInt j) from by simp[hj]];have hlt:=hp j (Zn hj);show wpAny _ _ (setNextDrawn a j ep >>= λx=>setField (.ref it) 1 (rawInt ((i:Int)+1)) >>= λ_=>ret x) _ _ _;refine aaM ?_;unfold setNextDrawn;refine aaM (wpAny_setState_of S.at_ rfl S.fits ?_);dsimp only;rw[aaO (by simp),Array.getElem?_eq_getElem hlt];have e0:(es.getD j (0,.none)).2=es[j].2:=by simp[hlt]
  have h1':=h1 j;rw[e0]at h1';refine aaP (aaM (wpAny_setField_rec q (by simp) λg1 q1 b1=>aaP ⟨_,rfl,aaP (h1' g1 hj b1 ?_)⟩));exact q1
 | none=>
  rw[show (pl.map λj:Nat=>rawInt j).toArray[i]?=none from by simp at hj ⊢; exact hj];show wpAny _ _ (setField (.ref it) 0 (rawInt 0) >>= λ_=>setField (.ref it) 2 .none >>= λ_=>newExc (.type "StopIteration") [] >>= λe=>raiseNew e) _ _ _;refine aaM (wpAny_setField_rec q (by simp) λg0 q0 b0=>aaM (wpAny_setField_rec (s:={ s with heap:=g0 }) q0 (by simp) λg1 q1 b1=>BJ (s:={ s with heap:=g1 }) hh λg2 e k zqz=>?_));obtain⟨o,ho,hc⟩:=zqz;refine aaM (wpAny_isInstance (T := "StopIteration") (b:=true) (show Shared.TypeIs { s with heap:=g2 } (.ref e) "StopIteration" from ⟨o,ho,hc⟩) isSubtype_stop (?_:wpAny _ _ _ _ _ _));exact aaP (h2 hj _ λb o hb z=>k b o (b1.extBut b o hb (b0.extBut b o hb z)))
theorem pN.keep {h h':Heap} {it P a:Addr} {es:Array (Int×Value)} {ep i:Nat} {t:SetTable} {vs:List Value} (W:pN w h it P a es ep t vs i) (k1:∀o,h.get? it=some o->h'.get? it=some o) (k2:∀o,h.get? P=some o->h'.get? P=some o):pN w h' it P a es ep t vs i:=by
 rcases W with ⟨hb,q,e⟩ | ⟨hb,hz,pl,k,q,hP,hPi,hp,e⟩ | ⟨hb,hz,sl,q,e,hs⟩
 . exact .inl ⟨hb,k1 _ q,e⟩
 . exact .inr (.inl ⟨hb,hz,pl,k,k1 _ q,k2 _ hP,hPi,hp,e⟩)
 . exact .inr (.inr ⟨hb,hz,sl,k1 _ q,e,hs⟩)
theorem zr {p:Nat}:SetTable.below #[p] 0=0/\SetTable.below #[p] (p+1)=1:=by
 constructor
 . simp[SetTable.below,SetTable.below.go]
 . simp[SetTable.below,SetTable.below.go]
theorem j6.place {h:Heap} {a:Addr} {es:Array (Int×Value)} {ep:Nat} {t:SetTable} {b:Bool} (S:j6 h a es ep t b):t.place.size=es.size:=by have:=S.fits;simp only[SetTable.fits,Zy,beq_iff_eq]at this;exact this.1
theorem pN.ne {it P a:Addr} {es:Array (Int×Value)} {ep i:Nat} {t:SetTable} {vs:List Value} {b:Bool} (S:j6 s.heap a es ep t b) (W:pN w s.heap it P a es ep t vs i):a≠it:=by rcases W with ⟨hb,q,e⟩ | ⟨hb,hz,pl,k,q,hP,hPi,hp,e⟩ | ⟨hb,hz,sl,q,e,hs⟩<;>exact Ul S q
theorem BK:entryFor table "set_iterator.__iter__" = some Builtin.«dict_keyiterator.__iter__»:=entryFor_alias (id' := "dict_keyiterator.__iter__") (by kernel_rfl) (by first | rfl | decide +kernel | (unfold String.splitOn; simp +decide [String.splitOnAux])) (by decide +kernel) (by kernel_rfl)
theorem Ae (a:Value):argsOk "set_iterator.__iter__" ⟨[a],[]⟩:=by unfold argsOk; rw[signature?_of (id := "set_iterator.__iter__") (n:=['_','_','r','e','t','i','_','_']) (o:=['r','o','t','a','r','e','t','i','_','t','e','s']) (by kernel_rfl) Fz]; kernel_rfl
theorem M8 {it a:Addr} {f:Value} {i n ep:Nat} {Q:Value->Shared->Prop} (q:nO s.heap it a f i n ep) (h:Q (.ref it) s):wpAny (model prog w) A (pyIter (.ref it)) Q E s:=by have hT:s.TypeIs (.ref it) "set_iterator" := ⟨_,q,rfl⟩;refine wpAny_pyIter_slot hT Bw (wpAny_call_entry Bw hT BK ?_ (Ae _));exact show wpAny _ _ (ret (.ref it)) _ _ s from aaP ⟨_,rfl, "set_iterator",_,hT,j7.lookup,h⟩
theorem J2 (hh:A.handled=none) (it P a:Addr) (es:Array (Int×Value)) (ep:Nat) (t:SetTable) (vs:List Value):
 Walks prog w A it [it,P,a] [it] vs.length (λi v=>vs[i]?=some v) (λi h=>pN w h it P a es ep t vs i/\j6 h a es ep t (!byText w)) where
 sub:=λb hb=>by
  have:b=it:=by simpa using hb
  simp[this]
 frame:=λi h h' st k=>⟨st.1.keep (λo q=>k it (by simp) o q) λo q=>k P (by simp) o q,st.2.moved λo q=>k a (by simp) o q⟩
 item:=λi s Q E hi st hQ=>by
  obtain⟨W,S⟩:=st;obtain⟨v,hv⟩:∃v,vs[i]?=some v:=⟨_,Y0 hi⟩;have na:=W.ne S;have fin:∀h',Heap.SameBut it s.heap h'->pN w h' it P a es ep t vs (i+1)->Q (some v) { s with heap:=h' }:=λh' b W'=>hQ _ h' s.toks hv ⟨W',S.moved λo q=>(b.2 a na).trans q⟩ λc o hc q=>b.extBut c o (λz=>hc (by simp[z])) q;rcases W with ⟨hb,q,e⟩ | ⟨hb,hz,pl,k,q,hP,hPi,hp,e⟩ | ⟨hb,hz,sl,q,e,hs⟩
  . have hx:∃z,(pickOrder (w.params.setOrder a ep) es)[i]?=some z/\z.2=v:=by
     have h0:=hv;rw[e,Y4,Array.getElem?_toList]at h0;cases hz:(pickOrder (w.params.setOrder a ep) es)[i]? with
     | none=>rw[hz]at h0; cases h0
     | some z=>rw[hz]at h0; exact⟨z,rfl,by simpa using h0⟩
    obtain⟨z,hz,ez⟩:=hx;refine rC (sl:=0) hh S q (some (z.2,0)) (λ{A'} {Q'} {E'} hq=>zm S hb (by rw[hz]; exact hq)) (λx n h' er b q'=>?_) (λer=>by cases er);cases er;rw[ez];exact fin h' b (.inl ⟨hb,q',e⟩)
  . refine zq hh S q hP (λj hj=>by simpa using hp.mem_iff.mp hj) (λj h' hj b q'=>?_) (λhn=>?_)
    . have:(es.getD j (0,.none)).2=v:=by have h0:=hv;rw[e,Y4,hj]at h0;simpa using h0
      rw[this];exact fin h' b (.inr (.inl ⟨hb,hz,pl,k,q',(b.2 P hPi).trans hP,hPi,hp,e⟩))
    . have h0:=hv;rw[e,Y4,hn]at h0;cases h0
  . have hl:vs.length=es.size:=by rw[e]; simp
    have hi0:i=0:=by omega
    have hs0:sl=0:=by
     rcases hs with ⟨_,g⟩ | ⟨p,_,g,_⟩
     . exact g
     . omega
    have hz1:es.size=1:=by omega
    obtain⟨p,hp⟩:∃p,t.place=#[p]:=by have:=S.place;rw[hz1]at this;exact Array.size_eq_one_iff.mp this
    have hb0:SetTable.below t.place sl=0:=by rw[hp,hs0]; exact zr.1
    have he:es[0]?=some es[0]:=Array.getElem?_eq_getElem (by omega);have ev:v=es[0].2:=by subst hi0;have h0:=hv;rw[e,Y4,Array.getElem?_toList,he]at h0;simpa using h0.symm
    refine rC (sl:=sl) hh S q (some (es[0].2,p+1)) (λ{A'} {Q'} {E'} hq=>zp S hb hz (by rw[hb0,he,hp]; exact hq)) (λx n h' er b q'=>?_) (λer=>by cases er);cases er;rw[<-ev];exact fin h' b (.inr (.inr ⟨hb,hz,p+1,q',e,.inr ⟨p,hp,by omega,rfl⟩⟩))
 done:=λs Q E st hQ=>by
  obtain⟨W,S⟩:=st;have fin:∀h',Heap.ExtBut it s.heap h'->Q none { s with heap:=h' }:=λh' b=>hQ h' s.toks λc o hc q=>b c o (λz=>hc (by simp[z])) q;rcases W with ⟨hb,q,e⟩ | ⟨hb,hz,pl,k,q,hP,hPi,hp,e⟩ | ⟨hb,hz,sl,q,e,hs⟩
  . have hn:(pickOrder (w.params.setOrder a ep) es)[vs.length]?=none:=by rw[e];simp
    exact rC (sl:=0) hh S q none (λ{A'} {Q'} {E'} hq=>zm S hb (by rw[hn]; exact hq)) (λx n h' er b q'=>by cases er) (λ_=>fin)
  . exact zq hh S q hP (λj hj=>by simpa using hp.mem_iff.mp hj) (λj h' hj b q'=>by rw[e]at hj; simp at hj) (λ_=>fin)
  . have hl:vs.length=es.size:=by rw[e]; simp
    refine rC (sl:=sl) hh S q none (λ{A'} {Q'} {E'} hq=>zp S hb hz ?_) (λx n h' er b q'=>by cases er) (λ_=>fin);rcases hs with ⟨g,g'⟩ | ⟨p,hp,g,g'⟩
    . have:es=#[]:=by apply Array.eq_empty_of_size_eq_zero; omega
      subst this;simpa using hq
    . rw[hp,g',zr.2];have:es.size=1:=by omega
      have hn:es[1]?=none:=Array.getElem?_eq_none (by omega);rw[hn];exact hq
 self:=λi s Q E st hQ=>by rcases st.1 with ⟨hb,q,e⟩ | ⟨hb,hz,pl,k,q,hP,hPi,hp,e⟩ | ⟨hb,hz,sl,q,e,hs⟩<;>exact M8 q hQ
def qD (prog:Program) (w:World) (A:Around) (d:Addr) (ok:List Value->Prop) (s1:Shared):Prop:=∀(Q':Value->Shared->Prop) (E':Value->Shared->Prop),
 (∀h' dr I fp wr n P St,(∀b o,s1.heap.get? b=some o->h'.get? b=some o)->Walks prog w A I fp wr n P St->St 0 h'->(∀acc,ItemsOf P acc n->ok acc.toList)->(∀b∈fp,b=d\/s1.heap.objs.size<=b)->(∀b∈wr,s1.heap.objs.size<=b)->n<=sizeLine->Q' (.ref I) { s1 with heap:=h',drawn:=dr })->
 wpAny (model prog w) A (pyIter (.ref d)) Q' E' s1
abbrev rD:Obj:={ cls:=.type "list",data:=.seq ([]:List Value).toArray }
theorem Ip {vs:List Value} {acc:Array Value} (h:ItemsOf (λi v=>vs[i]?=some v) acc vs.length):acc.toList=vs:=by
 refine List.ext_getElem? λi=>?_;rw[Array.getElem?_toList];cases hi:acc[i]? with
 | some v=>exact(h.2 i v hi).symm
 | none=>
  have:vs.length<=i:=by rw[<-h.1]; exact Array.getElem?_eq_none_iff.mp hi
  exact(aax this).symm
theorem Ir {d:Addr} {T:String} {ok:List Value->Prop} {Q:List Value->Shared->Prop} (hTm:T = "set" \/ T = "dict") (hT:s.TypeIs (.ref d) T) (hI:qD prog w A.in1 d ok { s with heap:=s.heap.push rD })
 (hQ:∀h' dr tk vs,ok vs->(∀b o,s.heap.get? b=some o->h'.get? b=some o)->s.heap.objs.size<=h'.objs.size->Q vs { s with heap:=h',drawn:=dr,toks:=tk }):wpAny (model prog w) A (collect (.ref d)) Q E s:=by
 have hd:d<s.heap.objs.size:=by obtain⟨o,ho,_⟩:=hT; exact YS ho
 unfold collect;refine aaM (wpAny_runValue (codeAny_builtin F.entry_proto_collect (?_:wpAny _ _ _ _ _ _)));rw[Around.under_plainId F.plain_proto_collect _];refine(show wpAny _ A.in1 (newList [] >>= λl=>again (.builtin "list.__iadd__" ⟨[l,.ref d],[]⟩)) _ _ s from aaM (wpAny_newObj_type (aaP ⟨plainId_quiet F.plain_list_iadd _,codeAny_builtin F.entry_list_iadd (?_:wpAny _ _ _ _ _ _)⟩)));rw[Around.under_plainId F.plain_list_iadd _];have hT1:Shared.TypeIs { s with heap:=s.heap.push rD } (.ref d) T:=by obtain⟨o,ho,hc⟩:=hT;exact⟨o,YD _ ho,hc⟩
 refine(show wpAny _ A.in1 (Builtin.List.listExtendWith (.ref s.heap.objs.size) (.ref d) (.ref s.heap.objs.size)) _ _ { s with heap:=s.heap.push rD } from ?_);unfold Builtin.List.listExtendWith;refine aaM (wpAny_typeOf hT1 ?_);have h1:Builtin.List.listSameRef (.ref s.heap.objs.size) (.ref d)=false:=by have:s.heap.objs.size≠d:=ZZ hd;simp[Builtin.List.listSameRef,this]
 have g0:(s.heap.push rD).get? s.heap.objs.size=some rD:=YT _ rfl;have z0:(s.heap.push rD).objs.size=s.heap.objs.size+1:=size_push' ..;rw[aaO (by rcases hTm with rfl | rfl<;>(rw[h1]; decide))];refine aaM (hI _ _ λh' dr I fp wr n P St k W st hok hfp hwr hsz=>?_);have hT2:Shared.TypeIs { s with heap:=h',drawn:=dr } (.ref d) T:=by obtain⟨o,ho,hc⟩:=hT1;exact⟨o,k _ _ ho,hc⟩
 have g1:=k _ _ g0;have nf:s.heap.objs.size∉fp:=λq=>by
  rcases hfp _ q with z | z
  . exact absurd z (ZZ hd)
  . rw[z0]at z;exact absurd z (Nat.not_succ_le_self _)
 have hint:∀{Q':Bool->Shared->Prop} {E':Value->Shared->Prop},Q' false { s with heap:=h',drawn:=dr }->wpAny (model prog w) A.in1 (Builtin.List.listLengthHint (.ref d)) Q' E' { s with heap:=h',drawn:=dr }:=by
  intro Q' E' q;unfold Builtin.List.listLengthHint;rcases hTm with rfl | rfl
  . refine aaM (wpAny_specialOf hT2 F.slot_set_len.lookup ?_);generalize hid:("set.__len__" : String)=id0
    wp_delta
    rw[show splitId id0=some ("set", "__len__") from by subst hid; decide +kernel];subst hid;refine aaM (wpAny_isInstance (b:=true) hT2 (by rw[isSubtype_type]; kernel_rfl) ?_);rw[aaO (by simp)];dsimp only;rw[aaN (by decide +kernel)];exact aaM (wpAny_typeOf hT2 (aaP q))
  . refine aaM (wpAny_specialOf hT2 F.slot_dict_len.lookup ?_);generalize hid:("dict.__len__" : String)=id0
    wp_delta
    rw[show splitId id0=some ("dict", "__len__") from by subst hid; decide +kernel];subst hid;refine aaM (wpAny_isInstance (b:=true) hT2 (by rw[isSubtype_type]; kernel_rfl) ?_);rw[aaO (by simp)];dsimp only;rw[aaN (by decide +kernel)];exact aaM (wpAny_typeOf hT2 (aaP q))
 refine aaM (wpAny_holding (hint ?_));rw[aaN (by rcases hTm with rfl | rfl<;>decide +kernel)];refine aaM (wpAny_rule (aaM ?_));refine(show wpAny _ A.in1 (updateSeq s.heap.objs.size (·.push .none) >>= λ_=>updateSeq s.heap.objs.size (·.pop)) _ _ { s with heap:=h',drawn:=dr } from aaM (wpAny_updateSeq g1 rfl ?_));have g2:=Zz (Obj.mapSeq (·.push Value.none)) g1 rfl;refine wpAny_updateSeq g2 rfl ?_;have g3:=Zz (Obj.mapSeq (·.pop)) g2 rfl;have oth:∀b o,b≠s.heap.objs.size->h'.get? b=some o->((h'.update s.heap.objs.size (Obj.mapSeq (·.push Value.none))).update s.heap.objs.size (Obj.mapSeq (·.pop))).get? b=some o:=λb o hb q=>(Zx _ _ (Ne.symm hb)).trans ((Zx _ _ (Ne.symm hb)).trans q);refine aaP ⟨plainId_quiet F.plain_extend_loop _,codeAny_extend_loopS W.toS hsz s.heap.objs.size nf (.ref s.heap.objs.size) n 0 _ _ _ rfl (Zj _) (W.frame 0 h' _ st λb hb o q=>oth b o (λz=>nf (z▸hb)) q) g3 (ItemsOf.nil _) λs' acc c m g4 it=>?_⟩;refine(show wpAny _ A (load s.heap.objs.size >>= _) _ _ s' from aaM (wpAny_load g4 (aaP ?_)));obtain⟨x1,x2,x3,x4,x5⟩:=s';obtain rfl:x2=s.gens:=m.gens;obtain rfl:x3=dr:=m.drawn;obtain rfl:x5=s.os:=m.os;refine hQ x1 x3 x4 acc.toList (hok acc it) (λb o q=>m.heap b o (λz=>?_) (oth b o (Zb (YS q)) (k _ _ (YD _ q)))) (aay (YS g4));rcases YF.mp z with z | z
 . exact absurd z (Zb (YS q))
 . have:=hwr b z;rw[z0]at this;exact absurd (Y9 (YS q) (aab this)) (ZV _)
theorem Iu {a:Addr} {es:Array (Int×Value)} {ep:Nat} {t:SetTable} (hh:A.handled=none) (S:j6 s.heap a es ep t (!byText w)):qD prog w A a (λvs=>vs.Perm (es.toList.map (·.2))) s:=λQ' E' k=>M7 S λh' d it P vs ext W pm l1 l2 _ _=>by
 have hl:vs.length=es.size:=by rw[pm.length_eq]; simp
 refine k h' d it [it,P,a] [it] _ _ _ ext (J2 hh it P a es ep t vs) ⟨W,S.moved λo q=>ext _ _ q⟩ (λacc q=>by rw[Ip q]; exact pm) (λb hb=>?_) (λb hb=>?_) (by rw[hl]; exact fits_of_scanBound S.bd)
 . simp only[YF,ZR,or_false]at hb;rcases hb with rfl | rfl | rfl
   . exact .inr l1
   . exact .inr l2
   . exact .inl rfl
 . simp only[YF,ZR,or_false]at hb;subst hb;exact l1
end
section
variable {X:Cx} {abQ:List (Addr×Obj)} {Y:St} {H:Hp} {s:Shared}
theorem Inv.drew (I:Inv X abQ Y H s) (d:Drawn):Inv X abQ Y H { s with drawn:=d }:=
 I.step (g':=s.gens) (d':=d) (t':=s.toks) (h':=s.heap) (H':=H) (ch:=[]) (λb hb=>by cases hb) (λb o _ _ _ e _=>e) (λb o _ _ _ e _=>⟨o.slots,e⟩) (λ_ _ _ _ n=>n) (λb o _ e=>⟨o,e⟩) (λ_ _ e=>e) (λ_ _ _ e=>e) (λb ps e=>⟨#[],by rw[e]; simp⟩) (λm hm=>hm) I.hok I.bare
theorem zu:∀{ss:List Str} {its:List Value},Vals (ss.map V.str) its->StrsAre its ss
 | [],its,r=>by cases r; exact .nil
 | x::ss,its,r=>by
  cases r with
  | cons a b=>
   obtain⟨t,rfl⟩:=a;exact .cons x t (zu b)
theorem pO:∀{its:List Value} {ss:List Str},StrsAre its ss->Vals (ss.map V.str) its
 | _,_,.nil=>.nil
 | _,_,.cons y t r=>.cons ⟨t,rfl⟩ (pO r)
def BP (P:Program) (w:World) (a:Addr) (ss:List Str):Heap->Prop:=λh=>∃es ep t,nq P w h a es ep t (!byText w)/\(∀y,y∈d8 es ↔ y∈ss)/\es.size<=ss.length
def Um (X:Cx):List V->Hp->VK->Prop:=λxs H Q=>∃a ss,xs=[.ref a]/\bJ X.K H a (ss.map V.str)/\ss.length<4000/\∀l,H l=none->Q (.ref l) (upd H l (.ext (BP X.prog X.w l ss)))
theorem M9 (hc:X.calm=true):jx X (.type "set") (Um X):=by
 intro abQ s Y H xs us Q I r h;obtain⟨a,ss,rfl,hq,hl,q⟩:=h;obtain⟨u,rfl,rx⟩:=vals1 r;cases rx;obtain⟨its,rv,pl,hz⟩:=I.list hq;have hs:=zu rv;have e0:=vV hs;refine Ex (ss:=ss) (I.ok.hd hc) pl.isList (by simpa using hs) (by show its.toArray.size+1<4096; rw[YM]; omega) λh' tk es ep t S mem sz kp=>?_;have sz':es.size<=ss.length:=by
  have e9:its.toArray.size=its.length:=by simp
  omega
 refine⟨.ref s.heap.objs.size,_,I.laid (t':=tk) (λb o e=>kp b o (YS e) e) (YC _) (show cU X.prog X.w _ h' _ (.ext (BP X.prog X.w s.heap.objs.size ss)) from ⟨⟨es,ep,t,S,mem,sz'⟩,⟨_,S.at_⟩,λh1 h2 ⟨es,ep,t,S,r⟩ k=>⟨es,ep,t,S.moved k,r⟩⟩),rfl,q _ (I.hok.fresh (YC _))⟩
theorem zA {es:Array (Int×Value)} {vs:List Value} {ss:List Str} (p:vs.Perm (es.toList.map (·.2))) (h:StrsAre vs ss):ss.Perm (d8 es):=by
 rw[<-h.strs];have:=p.map strOf
 rwa [ZL]at this
theorem vB {prog:Program} {d:Addr} {vs:List (Key×Value)} {ep:Nat} (hh:A.handled=none) (hd:(d==sysModules)=false) (dd:s.heap.DictAt (bT prog w) d vs ep) (hz:vs.length<=sizeLine):
 qD prog w A d (λus=>us.length=vs.length/\∀(i:Nat) u,us[i]?=some u->∃k x,vs[i]?=some (k,x)/\(bT prog w).is k u=true) s:=λQ' E' k=>by
 have hlt:d<s.heap.objs.size:=by obtain⟨o,es,ho,_⟩:=dd; exact YS ho
 refine wpAny_pyIter_dict hd dd ?_;refine k _ s.drawn s.heap.objs.size [s.heap.objs.size,d] [s.heap.objs.size] vs.length _ _ (λb o q=>YD _ q) (Walks.dictKeys (knd:=bT prog w) hh _ d (Zb hlt) vs ep) ⟨⟨_,YT _ rfl,rfl,rfl⟩,dd.at' λo q=>YD _ q⟩ (λacc q=>⟨by rw[Zu]; exact q.1,λi u hu=>q.2 i u (by rw[Array.getElem?_toList]at hu; exact hu)⟩) (λb hb=>?_) (λb hb=>?_) hz
 . simp only[YF,ZR,or_false]at hb;rcases hb with rfl | rfl
   . exact .inr (YC _)
   . exact .inl rfl
 . simp only[YF,ZR,or_false]at hb;subst hb;exact YC _
theorem t6 {vs:List (Key×Value)} {ss:List Str} (e:vs.map (·.1)=ss.map Sum.inr):∀{us:List Value},us.length=vs.length->(∀(i:Nat) u,us[i]?=some u->∃k x,vs[i]?=some (k,x)/\(bT P w).is k u=true)->StrsAre us ss:=by
 induction ss generalizing vs with
 | nil=>
  intro us hl h;have:vs=[]:=List.map_eq_nil_iff.mp e;subst this;have:us=[]:=List.length_eq_zero_iff.mp hl;subst this;exact .nil
 | cons x ss ih=>
  intro us hl h;cases vs with
  | nil=>cases e
  | cons v vs=>
   cases us with
   | nil=>cases hl
   | cons u us=>
    simp only[YW,List.cons.injEq]at e;obtain⟨k,y,hk,hu⟩:=h 0 u rfl;cases hk;have ek:k=Sum.inr x:=e.1;subst ek;rcases cG (k:=(Sum.inr x:Key)) (v:=u) hu with ⟨i,t,e1,_⟩ | ⟨z,t,e1,rfl⟩
    . cases e1
    . cases e1;exact .cons x t (ih e.2 (by simpa using hl) λi u hi=>h (i+1) u (by simpa using hi))
end
section
variable {X:Cx}
end
section
variable {prog:Program}
end
section
variable {X:Cx}
end
section
variable {prog:Program}
end
section
variable {X:Cx} {abQ:List (Addr×Obj)} {Y:St} {H:Hp} {s:Shared}
end
section
variable {X:Cx}
end
def XF:V->Option Str
 | .str z=>some z
 | .int i=>if i.natAbs.log2<1920 then some (toString i) else none
 | _=>none
theorem FN (c:Str):Str.empty++c=c:=by show (⟨#[]++c.cps⟩:Str)=c;rw[Array.empty_append]
def Yc (c:Str) (t:TE):TE:=λY H Q=>t Y H λv H'=>∃z,XF v=some z/\(c++z).length<=sizeLine/\z.length<=sizeLine/\Q (.str (c++z)) H'
section
variable {X:Cx}
theorem Q8 {c:Str} {j:Nat} {e:Expr} {p1 p2 p3:Pos} {t:TE} (hc:c.length<=sizeLine) (he:PE X e t):PE X (.JoinedStr [.Constant (.str c) j p1,.FormattedValue e (-1) none p2] p3) (Yc c t):=λabQ s Y H Q I h=>by
 refine JoinedStr_many (joinParts_cons (Calls.Constant_str ⟨by rw[FN]; exact hc,?_⟩));rw[FN];refine joinParts_cons (FormattedValue_plain (wpAny_mono (he abQ _ Y H _ (I.tok _) h) (λu s1 q=>?_) λ_ _ x=>x));obtain⟨v,H',I1,rv,z,hz,hl,hl2,q⟩:=q;cases v with
 | str x=>
  cases hz;obtain⟨tk,rfl⟩:=rv;exact formatField_str (λt' tk=>⟨hl,joinParts_nilE (joinParts_nil ⟨.str (c++z),H',(I1.tok _).tok _,⟨_,rfl⟩,q⟩ hl)⟩) hl2
 | int i=>
  have hz':(if i.natAbs.log2<1920 then some (toString i) else none:Option Str)=some z:=hz;split at hz'
  . rename_i hi;cases hz';obtain⟨tk,rfl⟩:=rv;exact formatField_int_small hi ⟨hl,joinParts_nilE (joinParts_nil ⟨.str (c++toString i),H',((I1.tok _).tok _),⟨_,rfl⟩,q⟩ hl)⟩
  . cases hz'
 | _=>cases hz
end
abbrev b8:=Option Key
def sU:b8->V
 | none=>.non
 | some k=>kV k
def Nb:b8->Value->Bool
 | none,v=>v==.none
 | some k,v=>pG k v
def Yd (w:World):b8->Int
 | none=>0xFCA86420
 | some k=>Sx w k
theorem gA:∀{k:b8} {v:Value},Nb k v=true->(k=none/\v=.none)\/∃x,k=some x/\pG x v=true
 | none,v,h=>.inl ⟨rfl,by
  cases v<;>first | rfl | (exfalso; revert h; unfold Nb; simp)⟩
 | some x,v,h=>.inr ⟨x,rfl,h⟩
section
variable {prog:Program}
theorem J3 {Q:Int->Shared->Prop} (h:Q 0xFCA86420 { s with toks:=s.toks+1 }):wpAny (model prog w) A (pyHash .none) Q E s:=by have hT:s.TypeIs .none "NoneType" := rfl;unfold pyHash;refine aaM ?_;rw[cRoomFor,aaO (by simp[Value.onHeap])];refine aaP (aaM (wpAny_specialOf hT F.slot_NoneType_hash.lookup ?_));dsimp only;rw[aaO (by rw[beq_builtin_none]; exact ZD)];refine aaM (wpAny_specialOf hT F.slot_NoneType_hash.lookup (aaM (wpAny_callSpecialIfBoundUnlessNone?_slot hT F.slot_NoneType_hash (wpAny_call_entry F.slot_NoneType_hash hT F.entry_NoneType_hash ?_ (F.args_NoneType_hash_1 _)))));refine aaM (aaP ?_);refine wpAny_ret_mkInt ?_;exact aaP h
end
def qF (prog:Program) (w:World):PySem.KeyKind prog w b8 where
 is:=Nb
 hash:=Yd w
 inj:=λv a b ha hb=>by
  rcases gA ha with ⟨rfl,rfl⟩ | ⟨x,rfl,hx⟩
  . rcases gA hb with ⟨rfl,_⟩ | ⟨y,rfl,hy⟩
    . rfl
    . rcases cG hy with ⟨i,t,_,e⟩ | ⟨i,t,_,e⟩<;>cases e
  . rcases gA hb with ⟨rfl,e⟩ | ⟨y,rfl,hy⟩
    . subst e;rcases cG hx with ⟨i,t,_,e⟩ | ⟨i,t,_,e⟩<;>cases e
    . exact congrArg some ((bT prog w).inj v x y hx hy)
 byValue:=λk v h=>by
  rcases gA h with ⟨rfl,rfl⟩ | ⟨x,rfl,hx⟩
  . rfl
  . exact(bT prog w).byValue x v hx
 pyHash:=λhv h=>by
  rcases gA hv with ⟨rfl,rfl⟩ | ⟨x,rfl,hx⟩
  . exact J3 h
  . exact(bT prog w).pyHash hx h
 eqBool:=λhu hv h=>by
  rcases gA hu with ⟨rfl,rfl⟩ | ⟨x,rfl,hx⟩
  . rcases gA hv with ⟨rfl,rfl⟩ | ⟨y,rfl,hy⟩
    . exact SeqAt.EqAt.same _ _ _ _ _ h
    . rcases cG hy with ⟨i,t,rfl,rfl⟩ | ⟨i,t,rfl,rfl⟩
      . exact SeqAt.EqAt.none_int i t _ _ _ _ h
      . exact SeqAt.EqAt.none_str i t _ _ _ _ h
  . rcases gA hv with ⟨rfl,rfl⟩ | ⟨y,rfl,hy⟩
    . rcases cG hx with ⟨i,t,rfl,rfl⟩ | ⟨i,t,rfl,rfl⟩
      . exact SeqAt.EqAt.int_none i t _ _ _ _ h
      . exact SeqAt.EqAt.str_none i t _ _ _ _ h
    . refine(bT prog w).eqBool hx hy ?_;have e:decide ((some x:b8)=some y)=decide (x=y):=by simp
      rw[e]at h;exact h
 «strs»:=λk x t v h=>by
  rcases gA h with ⟨rfl,e⟩ | ⟨y,rfl,hy⟩
  . cases e
  . exact(bT prog w).strs y x t v hy
theorem Uo:∀{k:b8} {u:Value},RelV (sU k) u->(qF P w).is k u=true
 | none,u,r=>by have e:u=.none:=r;subst e;rfl
 | some k,u,r=>Ar (P:=P) (w:=w) r
theorem FP:∀{ks:List b8} {us:List Value},Vals (ks.map sU) us->ItemsAre (qF P w) ks us
 | [],us,h=>by have e:=h.zero;subst e;exact .nil
 | k::ks,us,h=>by
  cases h with
  | cons r t=>exact .cons (Uo r) (FP t)
def zB (P:Program) (w:World):List b8->Int:=(tupleKind (qF P w)).hash
abbrev XD:=List (List b8×Addr×V)
abbrev XV:=List (List b8×Addr×Value)
def XR:XD->XV->Prop:=Paired λx y=>x.1=y.1/\x.2.1=y.2.1/\RelV x.2.2 y.2.2
def sV (hk:List b8->Int) (a:Addr) (xs:XD):Heap->Prop:=λh=>xs.length<=sizeLine/\(a==sysModules)=false/\∃ys:XV,XR xs ys/\(ys.map (·.1)).Nodup/\
 ∃o es ep,h.get? a=some o/\o.ExactDict/\o.data=.dict es ep/\es.toList=ys.map λy=>⟨hk y.1,.ref y.2.1,y.2.2⟩
def dX (P:Program) (w:World) (a:Addr) (xs:XD):HO:=.ext (sV (zB P w) a xs)
theorem Up {H:Hp} {h:Heap} {hk:List b8->Int} {a:Addr} {xs:XD} (p:sV hk a xs h):cU P w H h a (.ext (sV hk a xs)):=by have q:=p;obtain⟨_,_,ys,_,_,o,es,ep,e,_⟩:=q;refine⟨p,⟨o,e⟩,λh1 h2 ⟨z,m,ys,r,n,o,es,ep,e,g⟩ k=>⟨z,m,ys,r,n,o,es,ep,k _ e,g⟩⟩
def jy (xs:XD) (k:List b8):Option V:=(xs.find? λx=>decide (x.1=k)).map (·.2.2)
theorem XR.at {k:List b8}:∀{xs:XD} {ys:XV},XR xs ys->(∀v,jy xs k=some v->∃p,atKey ys k=some p/\RelV v p.2)/\(jy xs k=none->atKey ys k=none)
 | _,_,.nil=>⟨λv h=>(by cases h),λ_=>rfl⟩
 | x::xs,y::ys,.cons ⟨h1,h2,h3⟩ t=>by
  have ih:=XR.at (k:=k) t;unfold jy atKey at ih ⊢;by_cases e:x.1=k
  . have e':y.1=k:=h1▸e;rw[aau (by simpa using e),aau (by simpa using e')];exact⟨λv h=>by cases h; exact⟨_,rfl,h3⟩,λh=>by cases h⟩
  . have e':¬ y.1=k:=h1▸e;rw[aav (by simpa using e),aav (by simpa using e')];exact ih
theorem XR.snoc {x:List b8×Addr×V} {y:List b8×Addr×Value} (h:x.1=y.1/\x.2.1=y.2.1/\RelV x.2.2 y.2.2):∀{xs:XD} {ys:XV},XR xs ys->XR (xs++[x]) (ys++[y])
 | _,_,.nil=>.cons h .nil
 | _,_,.cons a t=>.cons a (XR.snoc h t)
theorem XR.mem:∀{xs:XD} {ys:XV},XR xs ys->∀y∈ys,∃x∈xs,x.1=y.1/\x.2.1=y.2.1
 | _,_,.nil,y,h=>by cases h
 | x::xs,z::ys,.cons ⟨h1,h2,_⟩ t,y,h=>by
  rcases YF.mp h with rfl | h
  . exact⟨x,Yz,h1,h2⟩
  . obtain⟨x',m,e⟩:=XR.mem t y h;exact⟨x',YG _ m,e⟩
section
variable {prog:Program} {w:World} {A:Around} {E:Value->Shared->Prop} {s:Shared} {K:Type} [DecidableEq K] {knd:HeapKind prog w K}
theorem Ey {d a:Addr} {xs:List (K×Addr×Value)} {k:K} {v:Value} {Q:Value->Shared->Prop} (hu:knd.room A) (hkey:knd.is s.heap k a) (hm:s.heap.DictOfH knd d xs)
 (q1:∀p,atKey xs k=some p->Q p.2 { s with toks:=s.toks+knd.draws k })
 (q2:atKey xs k=none->∀h',h'.DictOfH knd d (xs++[(k,a,v)])->Heap.SameBut d s.heap h'->Q v { s with heap:=h',toks:=s.toks+knd.draws k })
 (hsz:xs.length<=sizeLine):wpAny (model prog w) A (dictSetDefault d (.ref a) v) Q E s:=by
 obtain⟨o,es,ep,ho,hc,hd,he,his,hn⟩:=hm;have hsz':=size_of_entries he;unfold dictSetDefault;refine wpAny_holding ?_;refine aaM (knd.pyHash hu hkey (aaM (wpAny_dictFind_heap (s:={ s with toks:=s.toks+knd.draws k }) hu hkey ho hd he his hn (λhno=>?_) λj p hj=>?_)))
 . have hq:=atKey_none_of_get hno;refine aaM (wpAny_rule (aaM (wpAny_updateDictKeys (hz:=by omega) (s:={ s with toks:=s.toks+knd.draws k }) ho hd (aaP (q2 hq _ ?_ (aah ..))))));refine⟨_,_,ep+1,Zz _ ho (Obj.isFreed_of_dict (Obj.data_mapDictKeys hd _)),hc.mapDictKeys _,Obj.data_mapDictKeys hd _,by simp[he,entryOfKey],λx hx=>?_,?_⟩
   . rcases Y6_.mp hx with hx | hx
     . exact knd.keeps (his x hx) ho hd (aah ..)
     . rw[Ze.mp hx];exact knd.keeps hkey ho hd (aah ..)
   . rw[YZ];refine aaj.mpr ⟨hn,Zo.mpr ⟨ZR,aas⟩,λx hx y hy e=>not_mem_keys_of_get hno ?_⟩;rw[YW,aao,Ze]at hy;have q:x=k:=e.trans hy;rw[<-q];exact hx
 . refine aaM (wpAny_dictEntries (s:={ s with toks:=s.toks+knd.draws k }) ho hd ?_);rw[entry_at he j,hj];exact aaM (wpAny_rule (aaP (q1 p (atKey_of_get hn hj))))
end
section
variable {X:Cx}
theorem FQ {Y:St} {H:Hp} {b:Addr} {k:List b8} (I:Inv X abQ Y H s) (e:cg X.K H b (k.map sU)):(tupleKind (qF P w)).is s.heap k b:=by obtain⟨its,r,⟨o,h1,h2,n,h3⟩,_⟩:=I.tuple e;exact⟨o,its.toArray,n,h1,h2,h3,by simpa using FP r⟩
theorem Inv.dx {Y:St} {H:Hp} {a:Addr} {xs:XD} (I:Inv X abQ Y H s) (e:H a=some (dX X.prog X.w a xs)) (hk:∀x∈xs,cg X.K H x.2.1 (x.1.map sU)):
 xs.length<=sizeLine/\(a==sysModules)=false/\∃ys:XV,XR xs ys/\s.heap.DictOfH (tupleKind (qF X.prog X.w)) a ys:=by
 obtain⟨⟨z,m,ys,r,n,o,es,ep,h1,h2,h3,h4⟩,_⟩:=I.hok a _ e;refine⟨z,m,ys,r,o,es,ep,h1,h2,h3,h4,λy hy=>?_,n⟩;obtain⟨x,hx,e1,e2⟩:=r.mem y hy;rw[<-e1,<-e2];exact FQ I (hk x hx)
theorem XR.len:∀{xs:XD} {ys:XV},XR xs ys->ys.length=xs.length
 | _,_,.nil=>rfl
 | _,_,.cons _ t=>by rw[Yy,Yy,XR.len t]
def J4 (P:Program) (w:World) (K:FG):V->List V->Hp->VK->Prop:=λx vs H Q=>∃a b xs k v,x=.ref a/\vs=[.ref b,v]/\H a=some (dX P w a xs)/\(∀x∈xs,cg K H x.2.1 (x.1.map sU))/\cg K H b (k.map sU)/\xs.length<sizeLine/\
 match jy xs k with
 | some u=>Q u H
 | none=>Q v (upd H a (dX P w a (xs++[(k,b,v)])))
theorem J5 (hu:X.A.units+1<cLine):Pr X "dict.setdefault" (J4 X.prog X.w X.K):=by
 intro abQ s Y H x vs v us Q I rx rv h;obtain⟨a,b,xs,k,y,rfl,rfl,hH,hks,hb,hl,q⟩:=h;cases rx;obtain⟨u,r,rfl,rb,ry⟩:=rv.two;cases (show u=Value.ref b from rb);obtain⟨z,m,ys,xr,dd⟩:=I.dx hH hks;have hl':=xr.len;refine call_meetsIn F.slot_dict_setdefault dd.typeIs F.entry_dict_setdefault (F.args_dict_setdefault_3 _ _ _) (S:=λA R s'=>A=X.A/\R=wants (EP X abQ Y Q) X.xe/\s'=s) (.of_wp λA R s' ⟨e1,e2,e3⟩=>?_) ⟨rfl,rfl,rfl⟩;subst e1 e2 e3;unfold Builtin.«dict.setdefault»;refine aaM ?_;unfold Builtin.Dict.keyAndDefault;refine aaM (wpAny_notOrdered_dict dd.typeIs ?_);refine(show wpAny _ _ (pure (a,Value.ref b,some r)) _ _ _ from aaP ?_);dsimp only;rw[aaO (by rw[m]; exact ZD)];refine aaM (Ey (tupleKind_room_in1 hu) (FQ I hb) dd (λp hp=>aaP ⟨p.2,rfl,?_⟩) (λhn h' dd' hs=>aaP ⟨r,rfl,?_⟩) (by omega))
 . cases e:jy xs k with
   | none=>rw[(xr.at).2 e]at hp; cases hp
   | some w'=>
    rw[e]at q;obtain⟨p',hp',rp⟩:=(xr.at).1 w' e;rw[hp]at hp';cases hp';exact⟨_,_,I.tok _,rp,q⟩
 . cases e:jy xs k with
   | some w'=>
    obtain⟨p',hp',_⟩:=(xr.at).1 w' e;rw[hn]at hp';cases hp'
   | none=>
    rw[e]at q;obtain⟨o,es,ep,h1,h2,h3,h4,h5,h6⟩:=dd';refine⟨_,_,uH I (by rw[hH]; exact True.intro) hs ⟨o,h1⟩ (Up ⟨?_,m,ys++[(k,b,r)],xr.snoc ⟨rfl,rfl,ry⟩,h6,o,es,ep,h1,h2,h3,h4⟩),ry,q⟩;rw[YJ];exact hl
theorem Uq {o e1 e2:Expr} {to:TE} {t:TA} {apos cpos:Pos} {name:Str} {id:String} {r:V->List V->Hp->VK->Prop} (slot:Slot "dict" name id) (hty:typeOf (.builtin id)=pure (.type "method_descriptor")) (hm:Pr X id r) (ho:PE X o to) (ha:PA X [e1,e2] t)
 (hbase:attributeBase o name X.env (eval o X.env)=eval o X.env:=by rfl)
 (hfew:((backTo cpos (starEach [e1,e2] X.env)).all (λx=>!x.1)&&(backToKw cpos (keywordEach [] X.env)).all (λx=>x.1.isSome)
   && decide ([e1,e2].length+([]:List Keyword).length+(if ([]:List Keyword).isEmpty then 0 else 1)<30))=true:=by rfl)
 (hline:(apos.endLine==cpos.line)=true:=by rfl) (hs:starEach [e1,e2] X.env=(false,eval e1 X.env)::starEach [e2] X.env:=by rfl) (hplain:(backTo cpos (starEach [e2] X.env)).any (·.1)=false:=by rfl):
 PE X (.Call (.Attribute o name apos) [e1,e2] [] cpos) (λY H Q=>to Y H λx H1=>(∃a hk xs,x=.ref a/\H1 a=some (.ext (sV hk a xs)))/\t Y H1 λvs H2=>r x vs H2 Q):=by
 intro abQ s Y H Q I h;refine wpAny_Call_method_late hbase hfew hline rfl (bI (ho abQ s Y H _ I h) λv s1 zqz=>?_);obtain⟨x,H1,I1,r1,⟨a,hk,xs,ea,hH⟩,q1⟩:=zqz;subst ea;cases r1;obtain⟨⟨_,_,ys,_,_,o,es,ep,h1,h2,_⟩,_⟩:=I1.hok a _ hH;refine⟨"dict",id,F.plainAttrs_dict,slot,hty,⟨o,h1,h2.1⟩,λb e=>(by cases e; exact⟨o,h1,h2.2.1⟩),?_⟩;have hA:=ha cpos abQ s1 Y H1 _ I1 q1;rw[hs]at hA ⊢;refine Calls.callWith_builtin (by show (false||(backTo cpos (starEach [e2] X.env)).any (·.1))=false; rw[hplain]<;>rfl) (Calls.evalArgs_plain ?_);exact bI hA λus s2 ⟨vs,H2,I2,r2,q2⟩=>hm abQ s2 Y H2 (.ref a) vs (.ref a) us Q I2 rfl r2 q2
theorem Nf {pos:Pos}:PE X (.Dict [] [] pos) (λ_ H Q=>∀p,H p=none->Q (.ref p) (upd H p (dX X.prog X.w p []))):=λabQ s Y H Q I h=>
 wpAny_Dict_empty ⟨.ref s.heap.objs.size,_,I.laid (a:=s.heap.objs.size) (t':=s.toks) (λ_ _ q=>YD _ q) (YC _) (Up (hk:=zB X.prog X.w) (xs:=[]) ⟨Zj _,aaS.mpr (Ne.symm (Zb I.big)),[],.nil,aas,_,#[],0,YT _ rfl,⟨rfl,rfl,rfl⟩,rfl,rfl⟩),rfl,h _ (I.hok.fresh (YC _))⟩
end
def Ur (a c:Addr):Heap->Prop:=λh=>∃o,W.InstAt h a o c none
section
variable {M:Model} {A:Around} {E:Value->Shared->Prop} {s:Shared} {base:Heap} {env:Env} {outer:List Env} {L e:Addr} {G:Addr->Prop} {Q:Unit->Shared->Prop}
end
section
variable {X:Cx} {abQ:List (Addr×Obj)} {Y:St} {H:Hp} {s:Shared}
end
abbrev TJ:=St->Hp->(Hp->Prop)->Prop
section
variable {X:Cx} {es:List Expr} {n:Nat} {t:TJ}
end
section
variable {X:Cx}
end
section
variable {X:Cx} {abQ:List (Addr×Obj)} {Y:St} {H H':Hp} {s s':Shared} {e C:Addr}
end
section
variable {X:Cx} {abQ:List (Addr×Obj)} {Y:St} {H:Hp} {s:Shared} {e:Addr}
end
section
variable {X:Cx}
section
variable {abQ:List (Addr×Obj)} {Y:St} {E:XK} {k:Nat} {f C:Addr} {fd:FuncData} {ps:List Str} {sp:Sp} {x:Str} {p pos:Pos} {e:Expr} {es:List Expr} {t:TA} {te:TE}
end
end
end L2
namespace L2
open PySem PySem.Spec PyProof.Rows PySem.W
section
variable {prog:Program} {w:World} {A:Around} {E:Value->Shared->Prop} {s:Shared} {K:FG} {e C:Addr} {oe:Obj}
end
section
variable {X:Cx} {abQ:List (Addr×Obj)} {Y:St} {H H':Hp} {s s':Shared} {e C:Addr}
end
def Ends.un (i:Nat) (D:Ends):Ends:={ nx:=λY H=>D.nx (Y.set i none) H,rt:=D.rt,bk:=λY H=>D.bk (Y.set i none) H,ct:=λY H=>D.ct (Y.set i none) H }
section
variable {X:Cx}
end
section
variable {X:Cx} {abQ:List (Addr×Obj)} {Y:St} {H:Hp} {s:Shared} {a b:Addr} {kvs more:List (Key×V)} {A:Around} {E:Value->Shared->Prop}
end
section
variable {X:Cx} {o e:Expr} {apos cpos:Pos} {td ty:TE}
end
theorem zE {α β:Type} {F:α->β->Prop}:∀(l:List α) (m:List β),l.length=m.length->(∀(i:Nat) a b,l[i]?=some a->m[i]?=some b->F a b)->Paired F l m
 | [],[],_,_=>.nil
 | a::l,b::m,h,g=>.cons (g 0 a b rfl rfl) (zE l m (by simpa using h) λi x y h1 h2=>g (i+1) x y h1 h2)
section
variable {X:Cx}
theorem Ng:jx X (.type "range") (λxs H Q=>∃j,xs=[.int j]/\∀r,H r=none->Q (.ref r) (upd H r (.rng 0 j))):=by intro abQ s Y H xs us Q I r h;obtain⟨j,rfl,q⟩:=h;obtain⟨u,rfl,t,rfl⟩:=vals1 r;exact call_range_1 ⟨.ref s.heap.objs.size,_,I.laid (o:=.rng 0 j) (λb o e=>YD _ e) (YC _) (show cU X.prog X.w _ _ _ (.rng 0 j) from ⟨_,_,_,YT _ rfl⟩),rfl,q _ (I.hok.fresh (YC _))⟩
theorem Af (hc:X.calm=true):jx X (.type "list") (λxs H Q=>∃p j,xs=[.ref p]/\H p=some (.rng 0 j)/\0<=j/\j<=100000/\∀l,H l=none->Q (.ref l) (upd H l (.lst ((List.range j.toNat).map λi=>.int (i:Nat))))):=by
 intro abQ s Y H xs us Q I r h;obtain⟨p,j,rfl,e,h0,h1,q⟩:=h;obtain⟨u,rfl,rx⟩:=vals1 r;cases rx;obtain⟨t,u,v,hr⟩:=(show cU X.prog X.w H s.heap p (.rng 0 j) from I.hok p _ e);refine call_list_range (n:=j.toNat) (I.ok.hd hc) hr (small_one (by decide) (by decide) (by omega) (by omega)) ?_ (by omega) λh' tk acc' c' hk hS' hacc=>?_
 . rw[rangeSize_one];split<;>omega
 . refine⟨.ref s.heap.objs.size,_,I.laid (t':=tk) hk (YC _) (show cU X.prog X.w _ h' _ (.lst _) from ⟨?_,acc'.toList,c',?_,by simpa using hS'⟩),rfl,q _ (I.hok.fresh (YC _))⟩
   . rw[YH,ZK,sizeLine_eq];omega
   . refine zE _ _ (by simp[hacc.1]) λi a b ha hb=>?_;rw[Array.getElem?_toList]at hb;obtain⟨tk,rfl⟩:=hacc.2 i b hb;rw[Y4]at ha;cases hi:(List.range j.toNat)[i]? with
     | none=>rw[hi]at ha; cases ha
     | some k=>
      rw[hi]at ha;cases ha;have lt:=(YL.mp hi).1;rw[ZK]at lt;rw[List.getElem?_range lt]at hi;cases hi;exact⟨tk,by simp⟩
end
section
variable {prog:Program}
theorem Nh {R:Result->Shared->Prop} {d S:Addr} {ok:List Value->Prop} (hT1:s.TypeIs (.ref d) "dict") (hI:qD prog w A.in1 d ok s) (res:Value) {c₀:Nat} (hS:s.heap.get? S=some { cls:=.type "list",data:=.seq #[] c₀ })
 (hR:∀h' dr tk acc c,(∀b o,b≠S->s.heap.get? b=some o->h'.get? b=some o)->h'.get? S=some { cls:=.type "list",dict:=none,data:=.seq acc c,slots:=#[] }->ok acc.toList->R (.ok (.ret res)) { s with heap:=h',drawn:=dr,toks:=tk }):
 wpAny (model prog w) A.in1 (Builtin.List.listExtendWith (.ref S) (.ref d) res) (λfin s'=>match fin with | .done f=>R (.ok f) s' | .again c'=>c'.quiet=true/\codeAny (model prog w) A c' R s') (λe s'=>R (.error e) s') s:=by
 have hSd:S≠d:=λe=>by obtain⟨o,ho,hc⟩:=hT1;rw[<-e,hS]at ho;cases ho;have hc:Value.type "list" = Value.type "dict" := hc;exact absurd hc (by decide)
 unfold Builtin.List.listExtendWith;refine aaM (wpAny_typeOf hT1 ?_);have h1:Builtin.List.listSameRef (.ref S) (.ref d)=false:=by simp[Builtin.List.listSameRef,hSd]
 rw[aaO (by rw[h1]; decide)];refine aaM (hI _ _ λh' dr I fp wr n P St k W st hok hfp hwr hsz=>?_);have hT2:Shared.TypeIs { s with heap:=h',drawn:=dr } (.ref d) "dict" := by obtain⟨o,ho,hc⟩:=hT1;exact⟨o,k _ _ ho,hc⟩
 have g1:=k _ _ hS;have hlt:=YS hS;have nf:S∉fp:=λq=>by
  rcases hfp _ q with z | z
  . exact hSd z
  . exact absurd hlt (Nat.not_lt.mpr z)
 have hint:∀{Q':Bool->Shared->Prop} {E':Value->Shared->Prop},Q' false { s with heap:=h',drawn:=dr }->wpAny (model prog w) A.in1 (Builtin.List.listLengthHint (.ref d)) Q' E' { s with heap:=h',drawn:=dr }:=by
  intro Q' E' q;unfold Builtin.List.listLengthHint;refine aaM (wpAny_specialOf hT2 F.slot_dict_len.lookup ?_);generalize hid:("dict.__len__" : String)=id0
  wp_delta
  rw[show splitId id0=some ("dict", "__len__") from by subst hid; decide +kernel];subst hid;refine aaM (wpAny_isInstance (b:=true) hT2 (by rw[isSubtype_type]; kernel_rfl) ?_);rw[aaO (by simp)];dsimp only;rw[aaN (by decide +kernel)];exact aaM (wpAny_typeOf hT2 (aaP q))
 refine aaM (wpAny_holding (hint ?_));rw[aaN (by decide +kernel)];refine aaM (wpAny_rule (aaM ?_));refine(show wpAny _ A.in1 (updateSeq S (·.push .none) >>= λ_=>updateSeq S (·.pop)) _ _ { s with heap:=h',drawn:=dr } from aaM (wpAny_updateSeq g1 rfl ?_));have g2:=Zz (Obj.mapSeq (·.push Value.none)) g1 rfl;refine wpAny_updateSeq g2 rfl ?_;have g3:=Zz (Obj.mapSeq (·.pop)) g2 rfl;have oth:∀b o,b≠S->h'.get? b=some o->((h'.update S (Obj.mapSeq (·.push Value.none))).update S (Obj.mapSeq (·.pop))).get? b=some o:=λb o hb q=>(Zx _ _ (Ne.symm hb)).trans ((Zx _ _ (Ne.symm hb)).trans q);refine aaP ⟨plainId_quiet F.plain_extend_loop _,codeAny_extend_loopS W.toS hsz S nf res n 0 _ _ _ rfl (Zj _) (W.frame 0 h' _ st λb hb o q=>oth b o (λz=>nf (z▸hb)) q) g3 (ItemsOf.nil _) λs' acc c m g4 it=>?_⟩;obtain⟨x1,x2,x3,x4,x5⟩:=s';obtain rfl:x2=s.gens:=m.gens;obtain rfl:x3=dr:=m.drawn;obtain rfl:x5=s.os:=m.os;refine hR x1 x3 x4 acc c (λb o hb q=>m.heap b o (λz=>?_) (oth b o hb (k _ _ q))) g4 (hok acc it);rcases YF.mp z with z | z
 . exact hb z
 . exact absurd (Y9 (YS q) (hwr b z)) (ZV _)
theorem wW {Q:Value->Shared->Prop} {d:Addr} {ok:List Value->Prop} (hT:s.TypeIs (.ref d) "dict") (hI:∀h',(∀b o,s.heap.get? b=some o->h'.get? b=some o)->qD prog w A.in1.in1 d ok { s with heap:=h' })
 (hQ:∀h' dr tk acc c,(∀b o,s.heap.get? b=some o->h'.get? b=some o)->h'.get? s.heap.objs.size=some { cls:=.type "list",dict:=none,data:=.seq acc c,slots:=#[] }->ok acc.toList->Q (.ref s.heap.objs.size) { s with heap:=h',drawn:=dr,toks:=tk }):
 wpAny (model prog w) A (call (.type "list") [.ref d]) Q E s:=by
 refine callType_codes (Q₁:=λobj s₁=>obj=.ref s.heap.objs.size/\s₁={ s with heap:=s.heap.push { cls:=.type "list",data:=.seq #[] } }) F.called_list (F.typeCall_list_1 _) F.entry_list_init
  (code_list_new _ ⟨rfl,rfl⟩) λobj s₁ h₁=>?_
 obtain⟨rfl,rfl⟩:=h₁;have hS:(s.heap.push { cls:=.type "list",data:=.seq #[] }).get? s.heap.objs.size=some { cls:=.type "list",data:=.seq #[] }:=YT _ rfl;refine⟨⟨_,hS,rfl⟩,F.args_list_init_2 _ _,?_⟩;generalize hSe:s.heap.objs.size=S at *;show wpAny _ _ (do let old <-Builtin.List.listItems (.ref S); Builtin.List.listUpdate (.ref S) (λ_=>#[]); letGo old.toList.reverse; Builtin.List.listExtendWith (.ref S) (.ref d) .none) _ _ _;refine aaM ?_;unfold Builtin.List.listItems;refine aaM (wpAny_seqItems hS rfl (aaP ?_));show wpAny _ _ (updateSeq S (λ_=>#[]) >>= λ_=>letGo (#[]:Array Value).toList.reverse >>= λ_=>Builtin.List.listExtendWith (.ref S) (.ref d) .none) _ _ _;refine aaM (wpAny_updateSeq hS rfl ?_);have hS₂:=Zz (Obj.mapSeq (λ_=>(#[]:Array Value))) hS rfl;have nS:∀b o,s.heap.get? b=some o->b≠S:=λb o e=>by rw[<-hSe]; exact Zb (YS e)
 have oth:∀b o,s.heap.get? b=some o->((s.heap.push { cls:=.type "list",data:=.seq #[] }).update S (Obj.mapSeq (λ_=>(#[]:Array Value)))).get? b=some o:=
  λb o e=>(Zx _ _ (Ne.symm (nS b o e))).trans (YD _ e)
 refine aaM (wpAny_letGo ?_);refine Nh (A:=A.in1) (by obtain⟨o,ho,hc⟩:=hT; exact⟨o,oth _ _ ho,hc⟩) (hI _ oth) .none hS₂ λh' dr tk acc c hk hS' hacc=>?_;exact⟨rfl,hQ h' dr tk acc c (λb o e=>hk b o (nS b o e) (oth b o e)) hS' hacc⟩
end
section
variable {X:Cx}
def J6:List V->Hp->VK->Prop:=λxs H Q=>∃(a:Addr) (kvs:_) (ss:List Str),xs=[.ref a]/\H a=some (.dK kvs)/\kvs.map (·.1)=ss.map Sum.inr/\ss.length<4000/\∀l,H l=none->Q (.ref l) (upd H l (.lst (ss.map V.str)))
theorem yp (hc:X.calm=true):jx X (.type "list") J6:=by
 intro abQ s Y H xs us Q I r h;obtain⟨a,kvs,ss,rfl,hq,hk,hl,q⟩:=h;obtain⟨u,rfl,rx⟩:=vals1 r;cases rx;obtain⟨z,hd,vs,rr,ob,es,ep,h1,h2,h3,h4⟩:=I.hok a _ hq;have dd:s.heap.DictAt (bT X.prog X.w) a vs ep:=⟨ob,es,h1,h2,h3,h4⟩;have ek:vs.map (·.1)=ss.map Sum.inr:=by rw[<-rr.keys]; exact hk
 have hv:vs.length=ss.length:=by simpa using congrArg List.length ek
 refine wW dd.dictOf.typeIs (λh' k=>vB (s:={ s with heap:=h' }) (by simpa using I.ok.hd hc) hd (dd.at' λo e=>k _ _ e) (by rw[sizeLine_eq]; omega)) λh' dr tk acc c kp g hok=>?_;have hs:StrsAre acc.toList ss:=t6 ek hok.1 hok.2;have I1:Inv X abQ Y (upd H s.heap.objs.size (.lst (ss.map V.str))) { s with heap:=h',toks:=tk }:=I.laid (t':=tk) kp (YC _) (show cU X.prog X.w _ h' _ (.lst (ss.map V.str)) from ⟨by rw[YH,sizeLine_eq]; omega,acc.toList,c,pO hs,g⟩);exact⟨.ref s.heap.objs.size,_,I1.drew dr,rfl,q _ (I.hok.fresh (YC _))⟩
end
def nu:Bool->Keyed->Array Keyed->Nat->Nat->Nat->StateT SortSt Sem (Option Nat):=sortPriv% PySem.Builtin.gallop
abbrev BR (lf:Bool) (key:Keyed) (arr:Array Keyed) (base i:Nat):StateT SortSt Sem (Option Bool):=do
 let x <-elem' arr (base+i)
 if lf then lt' x key else return (<-lt' key x).map (!·)
def BV (lf:Bool) (key:Keyed) (arr:Array Keyed) (base n lo hi:Nat):StateT SortSt Sem (Option Nat):=do
 let mut lo:=lo
 let mut hi:=hi
 for _ in [0:n] do
  if lo ≥ hi then break
  let m:=lo+(hi-lo)/2
  let some more <-BR lf key arr base m | return none
  if more then lo:=m+1 else hi:=m
 return some hi
theorem Us (lf:Bool) (key:Keyed) (arr:Array Keyed) (base n hint:Nat):nu lf key arr base n hint=(do
 let mut lastofs:=0
 let mut ofs:=1
 let mut lo:=0
 let mut hi:=0
 let some right <-BR lf key arr base hint | return none
 if right then
  let m:=n-hint
  for _ in [0:n] do
   if ofs ≥ m then break
   let some more <-BR lf key arr base (hint+ofs) | return none
   if !more then break
   lastofs:=ofs
   ofs:=2*ofs+1
  lo:=hint+lastofs+1
  hi:=hint+min ofs m
 else
  let m:=hint+1
  for _ in [0:n] do
   if ofs ≥ m then break
   let some found <-BR lf key arr base (hint-ofs) | return none
   if found then break
   lastofs:=ofs
   ofs:=2*ofs+1
  lo:=hint+1-min ofs m
  hi:=hint-lastofs
 BV lf key arr base n lo hi):=rfl
section
variable {prog:Program} {w:World} {A:Around} {E:Value->Shared->Prop} {s:Shared} {κ:KeyKind}
theorem uI (hO:κ.OneLt) {st:SortSt} {x y:Keyed} {a b:κ.α} {Q:Option Bool->SortSt->Prop} (hk:kindOf st=oneType') (ha:κ.keyOf x.1=some a) (hb:κ.keyOf y.1=some b) (h:Q (some (κ.blt a b)) st):wpS (model prog w) A E s (lt' x y) Q st:=by rw[lt'_eq];refine wpS_bind (wpS_get ?_);rw[hk,keyLt'_oneType];refine wpS_bind (wpS_lift (wpAny_attempt (hO prog w A _ s x.1 y.1 a b ha hb ⟨rfl,?_⟩)));exact wpS_pure h
theorem BW {st:SortSt} {arr:Array Keyed} {i:Nat} {p:Keyed} {Q:Keyed->SortSt->Prop} (hi:arr[i]?=some p) (h:Q p st):wpS (model prog w) A E s (elem' arr i) Q st:=by rw[elem'_eq,hi];exact wpS_pure h
def fZ (κ:KeyKind) (lf:Bool) (a c:κ.α):Bool:=if lf=true then κ.blt c a else !(κ.blt a c)
theorem Ni {lf:Bool} {a c d:κ.α} (h:κ.kle c d) (hd:fZ κ lf a d=true):fZ κ lf a c=true:=by
 unfold fZ at *;cases lf
 . simp only[Zg,if_false,Bool.not_eq_true']at *;exact KeyOrd.kle_trans h hd
 . simp only[if_true]at *;exact KeyOrd.klt_of_kle_of_klt h hd
def El (κ:KeyKind) (arr:Array Keyed) (base n:Nat) (f:Nat->κ.α):Prop:=∀i,i<n->∃p,arr[base+i]?=some p/\κ.keyOf p.1=some (f i)
theorem rE (hO:κ.OneLt) {st:SortSt} {lf:Bool} {key:Keyed} {a:κ.α} {arr:Array Keyed} {base n i:Nat} {f:Nat->κ.α} {Q:Option Bool->SortSt->Prop} (hk:kindOf st=oneType') (ha:κ.keyOf key.1=some a) (he:El κ arr base n f) (hi:i<n) (h:Q (some (fZ κ lf a (f i))) st):wpS (model prog w) A E s (BR lf key arr base i) Q st:=by
 obtain⟨p,e,hp⟩:=he i hi;refine wpS_bind (BW e ?_);unfold fZ at h;cases lf
 . simp only[Zg,if_false]at h ⊢;exact wpS_bind (uI hO hk ha hp (wpS_pure h))
 . simp only[if_true]at h ⊢;exact uI hO hk hp ha h
theorem nZ (hO:κ.OneLt) {st:SortSt} {lf:Bool} {key:Keyed} {a:κ.α} {arr:Array Keyed} {base n hint:Nat} {f:Nat->κ.α} {Q:Option Nat->SortSt->Prop} (hk:kindOf st=oneType') (ha:κ.keyOf key.1=some a) (he:El κ arr base n f) (hs:∀i j,i<=j->j<n->κ.kle (f i) (f j)) (hh:hint<n) (h:∀k,k<=n->(∀i,i<k->fZ κ lf a (f i)=true)->(∀i,k<=i->i<n->fZ κ lf a (f i)=false)->Q (some k) st):wpS (model prog w) A E s (nu lf key arr base n hint) Q st:=by
 have dn:∀i j,i<=j->j<n->fZ κ lf a (f j)=true->fZ κ lf a (f i)=true:=λi j h1 h2=>Ni (hs i j h1 h2);have up:∀i j,i<=j->j<n->fZ κ lf a (f i)=false->fZ κ lf a (f j)=false:=λi j h1 h2 h3=>by
  cases hb:fZ κ lf a (f j)
  . rfl
  . rw[dn i j h1 h2 hb]at h3; cases h3
 rw[Us];refine wpS_bind (rE hO hk ha he hh ?_);dsimp only;have bin:∀lo hi:Nat,lo<=hi->hi<=n->(∀i,i<lo->fZ κ lf a (f i)=true)->(∀i,hi<=i->i<n->fZ κ lf a (f i)=false)->
  wpS (model prog w) A E s (BV lf key arr base n lo hi) Q st:=λlo hi h1 h2 h3 h4=>by
  have fin:∀lo hi:Nat,lo=hi->hi<=n->(∀i,i<lo->fZ κ lf a (f i)=true)->(∀i,hi<=i->i<n->fZ κ lf a (f i)=false)->wpS (model prog w) A E s (match ((none,lo,hi):Option (Option Nat)×Nat×Nat).1 with | some r=>pure r | none=>pure (some hi)) Q st:=λlo hi e h2 h3 h4=>by subst e;exact wpS_pure (h lo h2 h3 h4)
  unfold BV;refine wpS_bind (wpS_forRange (I:=λx c st'=>st'=st/\∃lo hi,c=(none,lo,hi)/\lo<=hi/\hi<=n/\hi-lo<=n-x/\(∀i,i<lo->fZ κ lf a (f i)=true)/\(∀i,hi<=i->i<n->fZ κ lf a (f i)=false)) ?_ ?_ ⟨rfl,lo,hi,rfl,h1,h2,by omega,h3,h4⟩)
  . rintro x c st' _ hx ⟨rfl,lo,hi,rfl,h1,h2,hm,h3,h4⟩;dsimp only;by_cases hge:lo ≥ hi
    . rw[aaN hge];exact wpS_pure (fin lo hi (by omega) h2 h3 h4)
    . rw[aaO hge];refine wpS_bind (rE hO hk ha he (by omega) ?_);cases hb:fZ κ lf a (f (lo+(hi-lo)/2))
      . simp only[Zg,if_false];exact wpS_pure ⟨rfl,_,_,rfl,by omega,by omega,by omega,h3,λi h5 h6=>up _ i h5 h6 hb⟩
      . simp only[if_true];exact wpS_pure ⟨rfl,_,_,rfl,by omega,by omega,by omega,λi h5=>dn i _ (by omega) (by omega) hb,h4⟩
  . rintro c st' ⟨rfl,lo,hi,rfl,h1,h2,hm,h3,h4⟩;exact fin lo hi (by omega) h2 h3 h4
 cases hr:fZ κ lf a (f hint)
 . simp only[Zg,if_false];refine wpS_bind (wpS_mono (wpS_forRange (Q:=λc st'=>st'=st/\∃last ofs,c=(none,last,ofs)/\last<=hint/\last<ofs/\fZ κ lf a (f (hint-last))=false/\(ofs ≥ hint+1\/fZ κ lf a (f (hint-ofs))=true)) (I:=λx c st'=>st'=st/\∃last ofs,c=(none,last,ofs)/\last<=hint/\last<ofs/\x<ofs/\fZ κ lf a (f (hint-last))=false) ?_ ?_ ⟨rfl,0,1,rfl,by omega,by omega,by omega,hr⟩) ?_)
   . rintro x c st' _ hx ⟨rfl,last,ofs,rfl,h1,h2,h3,h4⟩;dsimp only;by_cases hge:ofs ≥ hint+1
     . rw[aaN hge];exact wpS_pure ⟨rfl,last,ofs,rfl,h1,h2,h4,.inl hge⟩
     . rw[aaO hge];refine wpS_bind (rE hO hk ha he (by omega) ?_);cases hb:fZ κ lf a (f (hint-ofs))
       . simp only[Zg,if_false];exact wpS_pure ⟨rfl,_,_,rfl,by omega,by omega,by omega,hb⟩
       . simp only[if_true];exact wpS_pure ⟨rfl,last,ofs,rfl,h1,h2,h4,.inr hb⟩
   . rintro c st' ⟨rfl,last,ofs,rfl,h1,h2,h3,h4⟩;exact⟨rfl,last,ofs,rfl,h1,h2,h4,.inl (by omega)⟩
   . rintro c st' ⟨rfl,last,ofs,rfl,h1,h2,h4,h5⟩;dsimp only;refine(bin (hint+1-min ofs (hint+1)) (hint-last) ?_ (by omega) (λi hi=>?_) λi h6 h7=>up _ i h6 h7 h4)
     . rcases h5 with h5 | h5
       . omega
       . by_cases hl:ofs ≥ hint+1
         . omega
         . rcases Nat.lt_or_ge (hint-last) (hint+1-ofs) with h8 | h8
           . rw[dn (hint-last) (hint-ofs) (by omega) (by omega) h5]at h4; cases h4
           . omega
     . rcases h5 with h5 | h5
       . omega
       . exact dn i (hint-ofs) (by omega) (by omega) h5
 . simp only[if_true];refine wpS_bind (wpS_mono (wpS_forRange (Q:=λc st'=>st'=st/\∃last ofs,c=(none,last,ofs)/\hint+last<n/\last<ofs/\fZ κ lf a (f (hint+last))=true/\(ofs ≥ n-hint\/(ofs<n-hint/\fZ κ lf a (f (hint+ofs))=false))) (I:=λx c st'=>st'=st/\∃last ofs,c=(none,last,ofs)/\hint+last<n/\last<ofs/\x<ofs/\fZ κ lf a (f (hint+last))=true) ?_ ?_ ⟨rfl,0,1,rfl,by omega,by omega,by omega,hr⟩) ?_)
   . rintro x c st' _ hx ⟨rfl,last,ofs,rfl,h1,h2,h3,h4⟩;dsimp only;by_cases hge:ofs ≥ n-hint
     . rw[aaN hge];exact wpS_pure ⟨rfl,last,ofs,rfl,h1,h2,h4,.inl hge⟩
     . rw[aaO hge];refine wpS_bind (rE hO hk ha he (by omega) ?_);cases hb:fZ κ lf a (f (hint+ofs))
       . simp only[Bool.not_false,if_true];exact wpS_pure ⟨rfl,last,ofs,rfl,h1,h2,h4,.inr ⟨by omega,hb⟩⟩
       . simp only[Bool.not_true,Zg,if_false];exact wpS_pure ⟨rfl,_,_,rfl,by omega,by omega,by omega,hb⟩
   . rintro c st' ⟨rfl,last,ofs,rfl,h1,h2,h3,h4⟩;exact⟨rfl,last,ofs,rfl,h1,h2,h4,.inl (by omega)⟩
   . rintro c st' ⟨rfl,last,ofs,rfl,h1,h2,h4,h5⟩;dsimp only;refine(bin (hint+last+1) (hint+min ofs (n-hint)) (by omega) (by omega) (λi hi=>dn i _ (by omega) h1 h4) λi h6 h7=>?_);rcases h5 with h5 | ⟨h5,h8⟩
     . omega
     . exact up _ i (by omega) h7 h8
end
def DK (κ:KeyKind) (a:Array Keyed):Prop:=(a.toList.map λp=>κ.keyOf p.1).Nodup
structure SB (a₀:Array Keyed) (p:Array (Nat×Nat×Nat)) (lo:Nat) (xs:Array Keyed) (st:SortSt):Prop where
 perm:(arrOf st).Perm a₀
 kind:kindOf st=oneType'
 failed:failedOf st=none
 pend:pendingOf st=p
 low:∀i,i<lo->(arrOf st)[i]?=xs[i]?
def Sg (κ:KeyKind) (xs:Array Keyed) (lo n:Nat):Prop:=∀i j,i<=j->j<n->κ.kle (KK κ xs (lo+i)) (KK κ xs (lo+j))
section
variable {prog:Program} {w:World} {A:Around} {E:Value->Shared->Prop} {s:Shared} {κ:KeyKind} {a₀ xs:Array Keyed} {p:Array (Nat×Nat×Nat)} {lo:Nat} {st:SortSt}
theorem SB.base (h:SB a₀ p lo xs st):SBase a₀ (setPending st #[]):=⟨h.perm,h.kind,h.failed,rfl⟩
theorem SB.size (h:SB a₀ p lo xs st):(arrOf st).size=a₀.size:=h.perm.size_eq
theorem SB.setA (h:SB a₀ p lo xs st) {ys:Array Keyed} (hp:ys.Perm (arrOf st)) (hl:∀i,i<lo->ys[i]?=(arrOf st)[i]?):SB a₀ p lo xs (setArr st ys):=⟨hp.trans h.perm,h.kind,h.failed,h.pend,λi hi=>(hl i hi).trans (h.low i hi)⟩
theorem SB.ne (h:SB a₀ p lo xs st) (h0:KeysOf κ a₀) (hd:DK κ a₀) {i j:Nat} (hij:i<j) (hj:j<a₀.size):KK κ (arrOf st) i≠KK κ (arrOf st) j:=by
 have hd':DK κ (arrOf st):=((Array.perm_iff_toList_perm.mp h.perm).map _).nodup_iff.mpr hd;obtain⟨x,q,a,e1,h1,h2⟩:=h.base.atK h0 (Nat.lt_trans hij hj);obtain⟨y,r,b,e3,h3,h4⟩:=h.base.atK h0 hj;have h2:KK κ (arrOf st) i=a:=h2;have h4:KK κ (arrOf st) j=b:=h4;have e1:(arrOf st)[i]?=some (x,q):=e1;have e3:(arrOf st)[j]?=some (y,r):=e3;rw[h2,h4];rintro rfl;have g1:((arrOf st).toList.map λp=>κ.keyOf p.1)[i]?=some (some a):=by rw[Y4,Array.getElem?_toList,e1]; simp[h1]
 have g2:((arrOf st).toList.map λp=>κ.keyOf p.1)[j]?=some (some a):=by rw[Y4,Array.getElem?_toList,e3]; simp[h3]
 have:=(List.getElem?_inj (YL.mp g1).1 hd').mp (g1.trans g2.symm);omega
theorem n6 (hO:κ.OneLt) (h0:KeysOf κ a₀) {i j:Nat} {Q:Option Bool->SortSt->Prop} (hB:SB a₀ p lo xs st) (hi:i<a₀.size) (hj:j<a₀.size)
 (h:Q (some (κ.blt (KK κ (arrOf st) i) (KK κ (arrOf st) j))) st):wpS (model prog w) A E s (ltAt' i j) Q st:=by
 obtain⟨x,q,a,e1,ha,ka⟩:=hB.base.atK h0 hi;obtain⟨y,r,b,e2,hb,kb⟩:=hB.base.atK h0 hj;have ka:KK κ (arrOf st) i=a:=ka;have kb:KK κ (arrOf st) j=b:=kb;rw[ka,kb]at h;exact wpS_ltAtK hO hB.kind e1 e2 ha hb h
theorem Sg.snoc {n:Nat} (h:Sg κ xs lo n) (h1:1<=n) (hl:κ.kle (KK κ xs (lo+n-1)) (KK κ xs (lo+n))):Sg κ xs lo (n+1):=λi j hij hj=>by
 by_cases hjx:j<n
 . exact h i j hij hjx
 . have hj':j=n:=by omega
   subst hj';by_cases hi':i=j
   . subst hi'; exact KeyOrd.kle_refl _
   . have:=h i (j-1) (by omega) (by omega);rw[show lo+(j-1)=lo+j-1 by omega]at this;exact KeyOrd.kle_trans this hl
theorem Iv (hO:κ.OneLt) (h0:KeysOf κ a₀) (hd:DK κ a₀) {nrem:Nat} {Q:Option Nat->SortSt->Prop} (hn:lo+nrem<=a₀.size) (h1:1<=nrem) (hB:SB a₀ p lo xs st)
 (h:∀m st',SB a₀ p lo xs st'->1<=m->m<=nrem->Sg κ (arrOf st') lo m->Q (some m) st'):wpS (model prog w) A E s (countRun' lo nrem) Q st:=by
 rw[countRun'_eq];refine wpS_bind (wpS_mono (wpS_forRange (I:=λx c st'=>st'=st/\c=(none,x)/\Sg κ (arrOf st) lo x)
  (Q:=λc st'=>st'=st/\∃n,c=(none,n)/\1<=n/\n<=nrem/\Sg κ (arrOf st) lo n/\(n=nrem\/κ.klt (KK κ (arrOf st) (lo+n)) (KK κ (arrOf st) (lo+n-1)))) ?_ ?_
  ⟨rfl,rfl,λi j hij hj=>by have:i=j:=(by omega); subst this; exact KeyOrd.kle_refl _⟩) ?_)
 . rintro x c st' hax hxn ⟨rfl,rfl,hs⟩;dsimp only;refine wpS_bind (n6 hO h0 hB (by omega) (by omega) ?_);cases hb:κ.blt (KK κ (arrOf st') (lo+x)) (KK κ (arrOf st') (lo+x-1))
   . simp only[Zg,if_false];exact wpS_pure ⟨rfl,rfl,hs.snoc hax hb⟩
   . simp only[if_true];exact wpS_pure ⟨rfl,x,rfl,hax,by omega,hs,.inr hb⟩
 . rintro c st' ⟨rfl,rfl,hs⟩;rw[show max 1 nrem=nrem by omega]at hs ⊢;exact⟨rfl,nrem,rfl,h1,YC _,hs,.inl rfl⟩
 rintro c st' ⟨rfl,n,rfl,hn1,hn2,hs,hor⟩;dsimp only;by_cases hnn:n=nrem
 . rw[aaN (by simpa using hnn)];exact wpS_pure (h n _ hB hn1 hn2 hs)
 rw[aaO (by simpa using hnn)];have hlt:=hor.resolve_left hnn;by_cases hgt:n>1
 . rw[aaN hgt];refine wpS_bind (n6 hO h0 hB (by omega) (by omega) ?_);have:κ.blt (KK κ (arrOf st') lo) (KK κ (arrOf st') (lo+n-1))=true:=by
    cases hb:κ.blt (KK κ (arrOf st') lo) (KK κ (arrOf st') (lo+n-1))
    . have:=hs 0 (n-1) (by omega) (by omega);rw[show lo+(n-1)=lo+n-1 by omega]at this;exact absurd (KeyOrd.kle_antisymm this hb) (hB.ne h0 hd (by omega) (by omega))
    . rfl
   rw[this];simp only[if_true];exact wpS_pure (h n _ hB hn1 hn2 hs)
 rw[aaO hgt];obtain rfl:n=1:=by omega
 refine wpS_bind (wpS_lift (wpAny_rule ⟨rfl,?_⟩));refine wpS_bind (wpS_mono (wpS_forRange (I:=λx c st''=>st''=st'/\c=(none,x,0)/\∀i j,i<=j->j<x->κ.kle (KK κ (arrOf st') (lo+j)) (KK κ (arrOf st') (lo+i)))
  (Q:=λc st''=>st''=st'/\∃n,c=(none,n,0)/\1<=n/\n<=nrem/\∀i j,i<=j->j<n->κ.kle (KK κ (arrOf st') (lo+j)) (KK κ (arrOf st') (lo+i))) ?_ ?_ ⟨rfl,rfl,?_⟩) ?_)
 . rintro x c st'' hax hxn ⟨rfl,rfl,hs⟩;dsimp only;refine wpS_bind (n6 hO h0 hB (by omega) (by omega) ?_);cases hb:κ.blt (KK κ (arrOf st'') (lo+x)) (KK κ (arrOf st'') (lo+x-1))
   . simp only[Zg,if_false];refine wpS_bind (n6 hO h0 hB (by omega) (by omega) ?_);have:κ.blt (KK κ (arrOf st'') (lo+x-1)) (KK κ (arrOf st'') (lo+x))=true:=by
      cases hc:κ.blt (KK κ (arrOf st'') (lo+x-1)) (KK κ (arrOf st'') (lo+x))
      . exact absurd (KeyOrd.kle_antisymm hb hc) (hB.ne h0 hd (by omega) (by omega))
      . rfl
     rw[this];simp only[if_true];exact wpS_pure ⟨rfl,x,rfl,by omega,by omega,hs⟩
   . simp only[if_true];rw[aaO (by omega)];refine wpS_pure ⟨rfl,rfl,λi j hij hj=>?_⟩;by_cases hjx:j<x
     . exact hs i j hij hjx
     . have hj':j=x:=by omega
       subst hj';by_cases hi':i=j
       . subst hi'; exact KeyOrd.kle_refl _
       . have:=hs i (j-1) (by omega) (by omega);rw[show lo+(j-1)=lo+j-1 by omega]at this;exact KeyOrd.kle_trans (KeyOrd.kle_of_klt hb) this
 . rintro c st'' ⟨rfl,rfl,hs⟩;rw[show max (1+1) nrem=nrem by omega]at hs ⊢;exact⟨rfl,nrem,rfl,h1,YC _,hs⟩
 . intro i j hij hj;by_cases hi':i=j
   . subst hi'; exact KeyOrd.kle_refl _
   . obtain rfl:i=0:=by omega
     obtain rfl:j=1:=by omega
     exact KeyOrd.kle_of_klt hlt
 rintro c st'' ⟨rfl,n,rfl,hn1,hn2,hs⟩;dsimp only;rw[aaO (by omega)];have hsz:lo+n<=(arrOf st'').size:=by rw[hB.size]; omega
 refine wpS_bind (wpS_reverse ?_);have hB':SB a₀ p lo xs (setArr st'' (mirror (arrOf st'') lo (lo+n) ((lo+n-lo)/2))):=hB.setA (mirror_perm _ _ _ _) λi hi=>by rw[getElem?_mirror_all hsz,aaO (by omega)]
 have hs':Sg κ (arrOf (setArr st'' (mirror (arrOf st'') lo (lo+n) ((lo+n-lo)/2)))) lo n:=λi j hij hj=>by show κ.kle (KK κ (mirror (arrOf st'') lo (lo+n) ((lo+n-lo)/2)) _) (KK κ (mirror (arrOf st'') lo (lo+n) ((lo+n-lo)/2)) _);rw[KK_mirror hsz,KK_mirror hsz,aaN (by omega),aaN (by omega)];have:=hs (n-1-j) (n-1-i) (by omega) (by omega);rw[show lo+(lo+n)-1-(lo+i)=lo+(n-1-i) by omega,show lo+(lo+n)-1-(lo+j)=lo+(n-1-j) by omega];exact this
 generalize setArr st'' (mirror (arrOf st'') lo (lo+n) ((lo+n-lo)/2))=st3 at *;refine wpS_bind (wpS_mono (wpS_forRange (I:=λx c st'=>st'=st3/\c=(none,x)/\Sg κ (arrOf st3) lo x)
  (Q:=λc st'=>st'=st3/\∃n,c=(none,n)/\1<=n/\n<=nrem/\Sg κ (arrOf st3) lo n) ?_ ?_
  ⟨rfl,rfl,hs'⟩) ?_)
 . rintro x c st' hax hxn ⟨rfl,rfl,hs⟩;dsimp only;refine wpS_bind (n6 hO h0 hB' (by omega) (by omega) ?_);cases hb:κ.blt (KK κ (arrOf st') (lo+x)) (KK κ (arrOf st') (lo+x-1))
   . simp only[Zg,if_false];exact wpS_pure ⟨rfl,rfl,hs.snoc (by omega) hb⟩
   . simp only[if_true];exact wpS_pure ⟨rfl,x,rfl,by omega,by omega,hs⟩
 . rintro c st' ⟨rfl,rfl,hs⟩;rw[show max n nrem=nrem by omega]at hs ⊢;exact⟨rfl,nrem,rfl,h1,YC _,hs⟩
 rintro c st' ⟨rfl,m,rfl,hm1,hm2,hs⟩;exact wpS_pure (h m _ hB' hm1 hm2 hs)
theorem Nj (hO:κ.OneLt) (h0:KeysOf κ a₀) {n ok:Nat} {Q:Bool->SortSt->Prop} (hn:lo+n<=a₀.size) (hok:ok<=n) (hB:SB a₀ p lo xs st) (hs:Sg κ (arrOf st) lo ok)
 (h:∀st',SB a₀ p lo xs st'->Sg κ (arrOf st') lo n->Q true st'):wpS (model prog w) A E s (binarySort' lo n ok) Q st:=by
 rw[binarySort'_eq];refine wpS_bind (wpS_mono (wpS_forRange (I:=λk c st'=>c=(none,())/\SB a₀ p lo xs st'/\Sg κ (arrOf st') lo (min k n))
  (Q:=λc st'=>c=(none,())/\SB a₀ p lo xs st'/\Sg κ (arrOf st') lo n) ?step ?fin ?init) ?post)
 case post=>
  rintro c st' ⟨rfl,hB',hs'⟩;exact wpS_pure (h st' hB' hs')
 case init=>
  refine⟨rfl,hB,λi j hij hj=>?_⟩;by_cases h1:ok=0
  . have:i=j:=by omega
    subst this; exact KeyOrd.kle_refl _
  . exact hs i j hij (by omega)
 case fin=>
  rintro c st' ⟨hc,hB',hs'⟩;refine⟨hc,hB',?_⟩
  rwa [show min (max (max ok 1) n) n=n by omega]at hs'
 case step=>
  rintro k c st' hak hkn ⟨rfl,hB',hs'⟩;rw[show min k n=k by omega]at hs';refine wpS_bind (wpS_mono (wpS_forRange (I:=λx c st''=>st''=st'/\∃l r,c=(none,l,r)/\l<=r/\r<=k/\r-l<=k-x/\
   (∀i,i<l->κ.kle (KK κ (arrOf st') (lo+i)) (KK κ (arrOf st') (lo+k)))/\(∀i,r<=i->i<k->κ.klt (KK κ (arrOf st') (lo+k)) (KK κ (arrOf st') (lo+i))))
   (Q:=λc st''=>st''=st'/\∃l r,c=(none,l,r)/\l<=k/\
     (∀i,i<l->κ.kle (KK κ (arrOf st') (lo+i)) (KK κ (arrOf st') (lo+k)))/\(∀i,l<=i->i<k->κ.klt (KK κ (arrOf st') (lo+k)) (KK κ (arrOf st') (lo+i)))) ?istep ?ifin ?iinit) ?ipost)
  case iinit=>exact⟨rfl,0,k,rfl,by omega,by omega,by omega,λi hi=>by omega,λi h1 h2=>by omega⟩
  case ifin=>
   rintro c st'' ⟨rfl,l,r,rfl,hlr,hrk,hm,hlo,hhi⟩;obtain rfl:l=r:=by omega
   exact⟨rfl,l,l,rfl,hrk,hlo,hhi⟩
  case istep=>
   rintro x c st'' _ hxk ⟨rfl,l,r,rfl,hlr,hrk,hm,hlo,hhi⟩;dsimp only;by_cases hge:l ≥ r
   . rw[aaN hge];obtain rfl:l=r:=by omega
     exact wpS_pure ⟨rfl,l,l,rfl,hrk,hlo,hhi⟩
   . rw[aaO hge];refine wpS_bind (n6 hO h0 hB' (by omega) (by omega) ?_);cases hless:κ.blt (KK κ (arrOf st'') (lo+k)) (KK κ (arrOf st'') (lo+(l+r)/2))
     . simp only[Zg,if_false];exact wpS_pure ⟨rfl,(l+r)/2+1,r,rfl,by omega,by omega,by omega,λi h1=>KeyOrd.kle_trans (hs' i ((l+r)/2) (by omega) (by omega)) hless,hhi⟩
     . simp only[if_true];exact wpS_pure ⟨rfl,l,(l+r)/2,rfl,by omega,by omega,by omega,hlo,λi h1 h2=>KeyOrd.klt_of_klt_of_kle hless (hs' _ _ h1 h2)⟩
  case ipost=>
   rintro c st'' ⟨rfl,l,r,rfl,hlk,hlo,hhi⟩;show wpS _ _ _ _ (do moveDown' (lo+k) (lo+l); pure (ForInStep.yield (none,()))) _ _;rw[moveDown'_eq];have hks:lo+k<(arrOf st'').size:=by rw[hB'.size]; omega
   refine wpS_bind (wpS_modify (wpS_pure ⟨rfl,hB'.setA (bubble_perm _ _ _) λi hi=>?_,?_⟩))
   . rw[getElem?_bubble hks _ (by omega),aaO (by omega),aaO (by omega)]
   rw[show min (k+1) n=k+1 by omega];intro i j hij hj;show κ.kle (KK κ (bubble (arrOf st'') (lo+k) (lo+k-(lo+l))) (lo+i)) (KK κ (bubble (arrOf st'') (lo+k) (lo+k-(lo+l))) (lo+j));rw[KK_bubble hks (by omega),KK_bubble hks (by omega),show lo+k-(lo+k-(lo+l))=lo+l by omega];have sb:∀i,1<=i->lo+i-1=lo+(i-1):=λi h=>by omega
   repeat' split
   all_goals first
    | (exfalso; omega)
    | exact KeyOrd.kle_refl _
    | exact hlo _ (by omega)
    | (rw[sb _ (by omega),sb _ (by omega)]; exact hs' _ _ (by omega) (by omega))
    | (rw[sb _ (by omega)]; exact KeyOrd.kle_of_klt (hhi _ (by omega) (by omega)))
    | (rw[sb _ (by omega)]; exact hs' _ _ (by omega) (by omega))
    | exact hs' _ _ (by omega) (by omega)
end
def Ut:Array Keyed->Array Keyed->StateT SortSt Sem (Array Keyed):=sortPriv% PySem.Builtin.mergeLo
def Uu:Array Keyed->Array Keyed->StateT SortSt Sem (Array Keyed):=sortPriv% PySem.Builtin.mergeHi
theorem dI {Y:Type} {M:Model} {c:Prop} [Decidable c] {α:Type} {f g:StateT Y Sem α} {Q:α->Y->Prop} {st:Y} (h:c) (k:wpS M A E s f Q st):wpS M A E s (if c then f else g) Q st:=by rw[aaN h]; exact k
theorem cV {Y:Type} {M:Model} {c:Prop} [Decidable c] {α:Type} {f g:StateT Y Sem α} {Q:α->Y->Prop} {st:Y} (h:¬ c) (k:wpS M A E s g Q st):wpS M A E s (if c then f else g) Q st:=by rw[aaO h]; exact k
theorem km {Y:Type} {M:Model} {β γ:Type} {a b:Nat} {f:Nat->β->StateT Y Sem (ForInStep β)} {k:β->StateT Y Sem γ} (I:Nat->β->Y->Prop) (P:β->Y->Prop) {Q:γ->Y->Prop}
 (hstep:∀B,B=f->∀i c st,a<=i->i<b->I i c st->wpS M A E s (B i c) (λr st'=>match r with | .done c'=>P c' st' | .yield c'=>I (i+1) c' st') st)
 (hend:∀c st,I (max a b) c st->P c st) {c:β} {st:Y} (h:I a c st) (hpost:∀K,K=k->∀c st,P c st->wpS M A E s (K c) Q st):wpS M A E s (forIn [a:b] c f >>= k) Q st:=
 wpS_bind (wpS_mono (wpS_forRange I (hstep f rfl) hend h) (hpost k rfl))
theorem o1 {n m:Nat} (h:0<n) (g:n<=m):n-1<m:=by omega
theorem o2 {n m:Nat} (h:1<n) (g:n<=m):n-1<m:=by omega
theorem o3 {n m:Nat} (g:n<=m):n-1<=m:=by omega
theorem o4 {n:Nat} (h:1<n) (e:¬ n-1=1):1<n-1:=by omega
theorem o5 {n:Nat} (e:¬ n-1=0):0<n-1:=by omega
abbrev bB (st:SortSt) (g:Nat):SortSt:=SortSt.mk' (kindOf st) (arrOf st) (pendingOf st) g (failedOf st)
abbrev L7:=Option (Array Keyed)×Array Keyed×Nat×Nat×Nat×Nat×Nat
def loT (a b:Array Keyed) (m ac bc ia:Nat) (out:Array Keyed) (ib:Nat):StateT SortSt Sem (ForInStep L7):=
 elem' a ia >>= λx=>
 if ia+1+1==a.size then pure (.done (some (out.push x++b.extract ib b.size++a.extract (ia+1) a.size),out.push x,ia+1,ib,m,ac,bc))
 else if decide (ac<7)&&decide (bc<7) then pure (.done (none,out.push x,ia+1,ib,m,ac,bc)) else pure (.yield (none,out.push x,ia+1,ib,m,ac,bc))
def Uv (a b:Array Keyed) (m ac bc ib:Nat) (out:Array Keyed) (ia:Nat):StateT SortSt Sem (ForInStep L7):=
 elem' b ib >>= λx=>
 if ib+1==b.size then pure (.done (some (out.push x++a.extract ia a.size++b.extract (ib+1) b.size),out.push x,ia,ib+1,m,ac,bc))
 else
  elem' a ia >>= λy=>
  nu true y b (ib+1) (b.size-(ib+1)) 0 >>= λk=>
  match k with
  | some k=>if k>0 then (
   if ib+1+k==b.size then pure (.done (some (out.push x++b.extract (ib+1) (ib+1+k)++a.extract ia a.size++b.extract (ib+1+k) b.size),out.push x++b.extract (ib+1) (ib+1+k),ia,ib+1+k,m,ac,k))
   else loT a b m ac k ia (out.push x++b.extract (ib+1) (ib+1+k)) (ib+1+k))
   else loT a b m ac k ia (out.push x) (ib+1)
  | _=>pure (.done (some (out.push x++a.extract ia a.size++b.extract (ib+1) b.size),out.push x,ia,ib+1,m,ac,bc))
def loV (a b out:Array Keyed) (ia ib ac bc m:Nat):StateT SortSt Sem (ForInStep L7):=
 (modify λst=>bB st m) >>= λ_=>
 elem' b ib >>= λx=>
 nu false x a ia (a.size-ia) 0 >>= λk=>
 match k with
 | some k=>if k>0 then (
  if ia+k+1==a.size then pure (.done (some (out++a.extract ia (ia+k)++b.extract ib b.size++a.extract (ia+k) a.size),out++a.extract ia (ia+k),ia+k,ib,m,k,bc))
  else if ia+k==a.size then pure (.done (some (out++a.extract ia (ia+k)++a.extract (ia+k) a.size++b.extract ib b.size),out++a.extract ia (ia+k),ia+k,ib,m,k,bc))
  else Uv a b m k bc ib (out++a.extract ia (ia+k)) (ia+k))
  else Uv a b m k bc ib out ia
 | _=>pure (.done (some (out++a.extract ia a.size++b.extract ib b.size),out,ia,ib,m,ac,bc))
theorem Uw (a b:Array Keyed):Ut a b=(do
 rule "list.sort.merge-lo"
 let total:=a.size+b.size
 let done (out:Array Keyed) (ia ib:Nat):=out++a.extract ia a.size++b.extract ib b.size
 let lastOfA (out:Array Keyed) (ia ib:Nat):=out++b.extract ib b.size++a.extract ia a.size
 let mut out:Array Keyed:=#[<-elem' b 0]
 let mut ia:=0
 let mut ib:=1
 if ib==b.size then return done out ia ib
 if ia+1==a.size then return lastOfA out ia ib
 let mut minGallop:=gallopOf (<-get)
 for _ in [0:total] do
  let mut acount:=0
  let mut bcount:=0
  for _ in [0:total] do
   let some bWins <-lt' (<-elem' b ib) (<-elem' a ia) | return done out ia ib
   if bWins then
    out:=out.push (<-elem' b ib); ib:=ib+1; bcount:=bcount+1; acount:=0
    if ib==b.size then return done out ia ib
    if bcount ≥ minGallop then break
   else
    out:=out.push (<-elem' a ia); ia:=ia+1; acount:=acount+1; bcount:=0
    if ia+1==a.size then return lastOfA out ia ib
    if acount ≥ minGallop then break
  rule "list.sort.gallop"
  minGallop:=minGallop+1
  for _ in [0:total] do
   if minGallop>1 then minGallop:=minGallop-1
   modify (λst=>bB st minGallop)
   let some k <-nu false (<-elem' b ib) a ia (a.size-ia) 0 | return done out ia ib
   acount:=k
   if k>0 then
    out:=out++a.extract ia (ia+k); ia:=ia+k
    if ia+1==a.size then return lastOfA out ia ib
    if ia==a.size then return done out ia ib
   out:=out.push (<-elem' b ib); ib:=ib+1
   if ib==b.size then return done out ia ib
   let some k <-nu true (<-elem' a ia) b ib (b.size-ib) 0 | return done out ia ib
   bcount:=k
   if k>0 then
    out:=out++b.extract ib (ib+k); ib:=ib+k
    if ib==b.size then return done out ia ib
   out:=out.push (<-elem' a ia); ia:=ia+1
   if ia+1==a.size then return lastOfA out ia ib
   if acount<7&&bcount<7 then break
  minGallop:=minGallop+1
  modify (λst=>bB st minGallop)
 unsupported "internal:list.sort.merge-bound"):=rfl
theorem Ux (a b:Array Keyed):Uu a b=(do
 rule "list.sort.merge-hi"
 let total:=a.size+b.size
 let done (out:Array Keyed) (na nb:Nat):=a.extract 0 na++b.extract 0 nb++out.reverse
 let firstOfB (out:Array Keyed) (na nb:Nat):=b.extract 0 nb++a.extract 0 na++out.reverse
 let mut na:=a.size-1
 let mut nb:=b.size
 let mut out:Array Keyed:=#[<-elem' a na]
 if na==0 then return done out na nb
 if nb==1 then return firstOfB out na nb
 let mut minGallop:=gallopOf (<-get)
 for _ in [0:total] do
  let mut acount:=0
  let mut bcount:=0
  for _ in [0:total] do
   let some aWins <-lt' (<-elem' b (nb-1)) (<-elem' a (na-1)) | return done out na nb
   if aWins then
    na:=na-1; out:=out.push (<-elem' a na); acount:=acount+1; bcount:=0
    if na==0 then return done out na nb
    if acount ≥ minGallop then break
   else
    nb:=nb-1; out:=out.push (<-elem' b nb); bcount:=bcount+1; acount:=0
    if nb==1 then return firstOfB out na nb
    if bcount ≥ minGallop then break
  rule "list.sort.gallop"
  minGallop:=minGallop+1
  for _ in [0:total] do
   if minGallop>1 then minGallop:=minGallop-1
   modify (λst=>bB st minGallop)
   let some at_ <-nu false (<-elem' b (nb-1)) a 0 na (na-1) | return done out na nb
   let k:=na-at_
   acount:=k
   if k>0 then
    out:=out++(a.extract at_ na).reverse; na:=at_
    if na==0 then return done out na nb
   nb:=nb-1; out:=out.push (<-elem' b nb)
   if nb==1 then return firstOfB out na nb
   let some at_ <-nu true (<-elem' a (na-1)) b 0 nb (nb-1) | return done out na nb
   let k:=nb-at_
   bcount:=k
   if k>0 then
    out:=out++(b.extract at_ nb).reverse; nb:=at_
    if nb==1 then return firstOfB out na nb
    if nb==0 then return done out na nb
   na:=na-1; out:=out.push (<-elem' a na)
   if na==0 then return done out na nb
   if acount<7&&bcount<7 then break
  minGallop:=minGallop+1
  modify (λst=>bB st minGallop)
 unsupported "internal:list.sort.merge-bound"):=rfl
section
variable {κ:KeyKind}
def KA (κ:KeyKind) (x:Keyed):κ.α:=(κ.keyOf x.1).getD κ.dflt
theorem jz {a:Array Keyed} {i:Nat} {x:Keyed} (h:a[i]?=some x):KK κ a i=KA κ x:=by unfold KK KA; rw[h]
def SL (κ:KeyKind) (l:List Keyed):Prop:=l.Pairwise λx y=>κ.kle (KA κ x) (KA κ y)
structure MR (κ:KeyKind) (T l1 l2 o:List Keyed):Prop where
 perm:(o++(l1++l2)).Perm T
 s1:SL κ (o++l1)
 s2:SL κ (o++l2)
variable {T l1 l2 o:List Keyed}
theorem MR.swap (h:MR κ T l1 l2 o):MR κ T l2 l1 o:=⟨((List.Perm.append_left o ZC)).trans h.perm,h.s2,h.s1⟩
theorem MR.take {x y:List Keyed} (h:MR κ T (x++y) l2 o) (hx:∀u∈x,∀v∈l2,κ.kle (KA κ u) (KA κ v)):MR κ T y l2 (o++x):=by
 obtain⟨h1,h2,h3⟩:=h;refine⟨by simpa using h1,by simpa [SL] using h2,?_⟩;unfold SL at *;rw[<-YQ]at h2;rw[List.pairwise_append]at *;refine⟨h2.1,h3.2.1,λu hu v hv=>?_⟩;rcases Y6_.mp hu with hu | hu
 . exact h3.2.2 u hu v hv
 . exact hx u hu v hv
theorem MR.fin (h:MR κ T l1 [] o):(o++l1).Perm T/\SL κ (o++l1):=⟨by simpa using h.perm,h.s1⟩
theorem uJ {a:Array Keyed} {i k:Nat} {u:Keyed} (h:u∈(a.extract i k).toList):∃j,i<=j/\j<k/\j<a.size/\KK κ a j=KA κ u:=by
 rw[Array.toList_extract,List.extract_eq_take_drop]at h;obtain⟨j,hj⟩:=List.mem_iff_getElem?.mp h;rw[List.getElem?_take]at hj;split at hj
 . rw[List.getElem?_drop,Array.getElem?_toList]at hj;have:=(Array.getElem?_eq_some_iff.mp hj).1;exact⟨i+j,by omega,by omega,this,jz hj⟩
 . cases hj
theorem Q9 {a:Array Keyed} {i:Nat} {u:Keyed} (h:u∈a.toList.drop i):∃j,i<=j/\j<a.size/\KK κ a j=KA κ u:=by obtain⟨j,hj⟩:=List.mem_iff_getElem?.mp h;rw[List.getElem?_drop,Array.getElem?_toList]at hj;exact⟨i+j,by omega,(Array.getElem?_eq_some_iff.mp hj).1,jz hj⟩
theorem t7 {a:Array Keyed} {i k:Nat} (h:i<=k):a.toList.drop i=(a.extract i k).toList++a.toList.drop k:=by
 rw[Array.toList_extract,List.extract_eq_take_drop]
 conv=>lhs; rw[<-List.take_append_drop (k-i) (a.toList.drop i)]
 rw[List.drop_drop,show i+(k-i)=k by omega]
theorem Uy {a:Array Keyed} {i:Nat} (h:i<a.size):(a.extract i (i+1)).toList=[a[i]]:=by rw[Array.toList_extract,List.extract_eq_take_drop,ZP (by simpa using h),show i+1-i=1 by omega];simp
abbrev RL (κ:KeyKind) (T:List Keyed) (a b out:Array Keyed) (ia ib:Nat):Prop:=MR κ T (a.toList.drop ia) (b.toList.drop ib) out.toList
variable {a b out:Array Keyed} {ia ib:Nat}
theorem RL.takeA {k:Nat} (h:RL κ T a b out ia ib) (hk:ia<=k) (hx:∀i,ia<=i->i<k->i<a.size->∀j,ib<=j->j<b.size->κ.kle (KK κ a i) (KK κ b j)):RL κ T a b (out++a.extract ia k) k ib:=by unfold RL at *;rw[t7 hk]at h;rw[Array.toList_append];refine h.take λu hu v hv=>?_;obtain⟨i,h1,h2,h3,e⟩:=uJ (κ:=κ) hu;obtain⟨j,h4,h5,e'⟩:=Q9 (κ:=κ) hv;rw[<-e,<-e'];exact hx i h1 h2 h3 j h4 h5
theorem RL.pushA (h:RL κ T a b out ia ib) (hk:ia<a.size) (hx:∀j,ib<=j->j<b.size->κ.kle (KK κ a ia) (KK κ b j)):RL κ T a b (out.push a[ia]) (ia+1) ib:=by
 have:=h.takeA (k:=ia+1) (by omega) λi h1 h2 h3 j h4 h5=>(show i=ia by omega)▸hx j h4 h5;unfold RL at *;rw[Array.toList_append,Uy hk]at this
 rwa [Array.toList_push]
theorem RL.swap (h:RL κ T a b out ia ib):RL κ T b a out ib ia:=MR.swap h
def Rs (κ:KeyKind) (T:List Keyed) (r:Array Keyed):Prop:=r.toList.Perm T/\SL κ r.toList
theorem RL.done (h:RL κ T a b out ia ib) (hb:ib=b.size) (ha:ia<=a.size):Rs κ T (out++a.extract ia a.size++b.extract ib b.size):=by
 subst hb;have:=h.takeA ha λi h1 h2 h3 j h4 h5=>by omega
 unfold RL at this;have e:b.toList.drop b.size=[]:=by simp
 rw[e]at this;have:=this.swap.swap.fin;have e2:a.toList.drop a.size=[]:=by simp
 rw[e2]at this;have e3:(out++a.extract ia a.size++b.extract b.size b.size).toList=(out++a.extract ia a.size).toList++[]:=by simp
 unfold Rs;rw[e3];exact this
theorem RL.last (h:RL κ T a b out ia ib) (hb:ib<=b.size) (ha:ia<=a.size) (hx:∀i,ia<=i->i<a.size->∀j,ib<=j->j<b.size->κ.kle (KK κ b j) (KK κ a i)):Rs κ T (out++b.extract ib b.size++a.extract ia a.size):=by
 have h1:=(h.swap.takeA hb λi h1 h2 h3 j h4 h5=>hx j h4 h5 i h1 h3);have:=RL.takeA (RL.swap h1) ha λi h1 h2 h3 j h4 h5=>by omega
 unfold RL at this;have e:b.toList.drop b.size=[]:=by simp
 have e2:a.toList.drop a.size=[]:=by simp
 rw[e,e2]at this;have:=this.fin;rw[Y7_]at this;exact this
variable {prog:Program} {w:World} {A:Around} {E:Value->Shared->Prop} {s:Shared} {st:SortSt}
theorem dZ {i:Nat} {Q:Keyed->SortSt->Prop} (hi:i<a.size) (h:Q a[i] st):wpS (model prog w) A E s (elem' a i) Q st:=BW (getElem?_pos a i hi) h
theorem iW (ka:KeysOf κ a) {i:Nat} (hi:i<a.size):κ.keyOf (a[i]).1=some (KK κ a i):=by obtain⟨x,hx⟩:=ka a[i] (by simp);rw[jz (getElem?_pos a i hi)];unfold KA;rw[hx]; rfl
theorem Av (ka:KeysOf κ a) (i n:Nat) (h:i+n<=a.size):El κ a i n λj=>KK κ a (i+j):=λj hj=>⟨a[i+j],getElem?_pos a _ (by omega),iW ka (by omega)⟩
section
theorem RL.lst (sb:∀i j,i<=j->j<b.size->κ.kle (KK κ b i) (KK κ b j)) (h2:κ.klt (KK κ b (b.size-1)) (KK κ a (a.size-1))) (r:RL κ T a b out ia ib) (e1:ia+1=a.size) (e2:ib<=b.size):Rs κ T (out++b.extract ib b.size++a.extract ia a.size):=r.last e2 (by omega) λi h3 h4 j h5 h6=>by
 obtain rfl:i=a.size-1:=by omega
 exact KeyOrd.kle_trans (sb j (b.size-1) (by omega) (by omega)) (KeyOrd.kle_of_klt h2)
theorem RL.psA (sb:∀i j,i<=j->j<b.size->κ.kle (KK κ b i) (KK κ b j)) (r:RL κ T a b out ia ib) (hi:ia<a.size) (l:ib<b.size->κ.kle (KK κ a ia) (KK κ b ib)):RL κ T a b (out.push a[ia]) (ia+1) ib:=r.pushA hi λj h3 h4=>KeyOrd.kle_trans (l (by omega)) (sb _ _ h3 h4)
theorem RL.psB (sa:∀i j,i<=j->j<a.size->κ.kle (KK κ a i) (KK κ a j)) (r:RL κ T a b out ia ib) (hi:ib<b.size) (l:ia<a.size->κ.kle (KK κ b ib) (KK κ a ia)):RL κ T a b (out.push b[ib]) ia (ib+1):=(r.swap.pushA hi λj h3 h4=>KeyOrd.kle_trans (l (by omega)) (sa _ _ h3 h4)).swap
def LQ (κ:KeyKind) (T:List Keyed) (a b:Array Keyed) (st:SortSt) (x:Nat):ForInStep L7->SortSt->Prop
 | .done c,st'=>(∃g,st'=bB st g)/\((∃r d,c=(some r,d)/\Rs κ T r)\/∃out ia ib m ac bc,c=(none,out,ia,ib,m,ac,bc)/\RL κ T a b out ia ib/\ia+1<a.size/\ib<b.size/\x<=ia+ib)
 | .yield c,st'=>(∃g,st'=bB st g)/\∃out ia ib m ac bc,c=(none,out,ia,ib,m,ac,bc)/\RL κ T a b out ia ib/\ia+1<a.size/\ib<b.size/\x<=ia+ib
theorem FT (sb:∀i j,i<=j->j<b.size->κ.kle (KK κ b i) (KK κ b j)) (h2:κ.klt (KK κ b (b.size-1)) (KK κ a (a.size-1))) {x:Nat} {st':SortSt} (hg:∃g,st'=bB st g) {m ac bc:Nat} (r:RL κ T a b out ia ib) (hi:ia+1<a.size) (hb:ib<b.size) (l:κ.kle (KK κ a ia) (KK κ b ib)) (hx:x<=ia+1+ib):wpS (model prog w) A E s (loT a b m ac bc ia out ib) (LQ κ T a b st x) st':=by
 refine wpS_bind (dZ (show ia<a.size by omega) ?_);have r2:=r.psA sb (by omega) λ_=>l;by_cases e:ia+1+1=a.size
 . refine dI (by simpa using e) ?_;exact wpS_pure ⟨hg,.inl ⟨_,_,rfl,r2.lst sb h2 e (by omega)⟩⟩
 refine cV (by simpa using e) ?_;split
 . exact wpS_pure ⟨hg,.inr ⟨_,_,_,_,_,_,rfl,r2,by omega,by omega,by omega⟩⟩
 . exact wpS_pure ⟨hg,_,_,_,_,_,_,rfl,r2,by omega,by omega,by omega⟩
theorem FZ (sa:∀i j,i<=j->j<a.size->κ.kle (KK κ a i) (KK κ a j)) (sb:∀i j,i<=j->j<b.size->κ.kle (KK κ b i) (KK κ b j)) (h2:κ.klt (KK κ b (b.size-1)) (KK κ a (a.size-1))) {x:Nat} {st':SortSt} (hg:∃g,st'=bB st g) (hO:κ.OneLt) (hk:kindOf st'=oneType') (ka:KeysOf κ a) (kb:KeysOf κ b) {m ac bc:Nat} (r:RL κ T a b out ia ib) (hi:ia+1<a.size) (hb:ib<b.size) (l:κ.kle (KK κ b ib) (KK κ a ia)) (hx:x<=ia+1+ib):wpS (model prog w) A E s (Uv a b m ac bc ib out ia) (LQ κ T a b st x) st':=by
 refine wpS_bind (dZ hb ?_);have r2:=r.psB sa hb λ_=>l;by_cases e:ib+1=b.size
 . refine dI (by simpa using e) ?_;exact wpS_pure ⟨hg,.inl ⟨_,_,rfl,r2.done e (by omega)⟩⟩
 refine cV (by simpa using e) ?_;refine wpS_bind (dZ (show ia<a.size by omega) (wpS_bind (nZ hO hk (iW ka (by omega)) (Av kb (ib+1) (b.size-(ib+1)) (by omega)) (λi j h5 h6=>sb _ _ (by omega) (by omega)) (by omega) λk hkn h5 h6=>?_)));dsimp only;have h5':∀j,ib+1<=j->j<ib+1+k->κ.klt (KK κ b j) (KK κ a ia):=λj h7 h8=>by have:=h5 (j-(ib+1)) (by omega);rw[show ib+1+(j-(ib+1))=j by omega]at this;exact this
 have h6':ib+1+k<b.size->κ.kle (KK κ a ia) (KK κ b (ib+1+k)):=λh7=>h6 k (by omega) (by omega);by_cases h0:k>0
 . refine dI h0 ?_;have r3:=(r2.swap.takeA (k:=ib+1+k) (by omega) λi h7 h8 h9 j h10 h11=>KeyOrd.kle_trans (KeyOrd.kle_of_klt (h5' i h7 h8)) (sa _ _ h10 h11)).swap;by_cases e:ib+1+k=b.size
   . refine dI (by simpa using e) ?_;exact wpS_pure ⟨hg,.inl ⟨_,_,rfl,r3.done e (by omega)⟩⟩
   refine cV (by simpa using e) ?_;exact FT sb h2 hg r3 hi (by omega) (h6' (by omega)) (by omega)
 . refine cV h0 ?_;obtain rfl:k=0:=by omega
   exact FT sb h2 hg r2 hi (by omega) (h6' (by omega)) (by omega)
theorem Ra (sa:∀i j,i<=j->j<a.size->κ.kle (KK κ a i) (KK κ a j)) (sb:∀i j,i<=j->j<b.size->κ.kle (KK κ b i) (KK κ b j)) (h2:κ.klt (KK κ b (b.size-1)) (KK κ a (a.size-1))) {x:Nat} {st':SortSt} (hg:∃g,st'=bB st g) (hO:κ.OneLt) (hk:kindOf st'=oneType') (ka:KeysOf κ a) (kb:KeysOf κ b) {m ac bc:Nat} (r:RL κ T a b out ia ib) (hi:ia+1<a.size) (hb:ib<b.size) (hx:x<=ia+1+ib):wpS (model prog w) A E s (loV a b out ia ib ac bc m) (LQ κ T a b st x) st':=by
 refine wpS_bind (wpS_modify ?_);have hg':∃g,bB st' m=bB st g:=by obtain⟨g,rfl⟩:=hg; exact⟨m,rfl⟩
 refine wpS_bind (dZ hb (wpS_bind (nZ hO hk (iW kb hb) (Av ka ia (a.size-ia) (by omega)) (λi j h5 h6=>sa _ _ (by omega) (by omega)) (by omega) λk hkn h5 h6=>?_)));dsimp only;have h5':∀j,ia<=j->j<ia+k->κ.kle (KK κ a j) (KK κ b ib):=λj h7 h8=>by have:=h5 (j-ia) (by omega);rw[show ia+(j-ia)=j by omega]at this;unfold fZ at this;exact(by simpa using this:κ.blt (KK κ b ib) (KK κ a j)=false)
 have hlt:ia+k<a.size:=by
  rcases Nat.lt_or_ge (ia+k) a.size with h7 | h7
  . exact h7
  . have:=KeyOrd.klt_of_kle_of_klt (KeyOrd.kle_trans (h5' (a.size-1) (by omega) (by omega)) (sb ib (b.size-1) (by omega) (by omega))) h2;unfold KeyOrd.klt at this;rw[KeyOrd.irrefl]at this;cases this
 have h6':κ.kle (KK κ b ib) (KK κ a (ia+k)):=by have:=h6 k (by omega) (by omega);unfold fZ at this;exact KeyOrd.kle_of_klt (by simpa using this:κ.blt (KK κ b ib) (KK κ a (ia+k))=true)
 by_cases h0:k>0
 . refine dI h0 ?_;have r3:=r.takeA (k:=ia+k) (by omega) λi h7 h8 h9 j h10 h11=>KeyOrd.kle_trans (h5' i h7 h8) (sb _ _ h10 h11);by_cases e:ia+k+1=a.size
   . refine dI (by simpa using e) ?_;exact wpS_pure ⟨hg',.inl ⟨_,_,rfl,r3.lst sb h2 e (by omega)⟩⟩
   refine cV (by simpa using e) (cV (by simp; omega) ?_);exact FZ sa sb h2 hg' hO hk ka kb r3 (by omega) hb h6' (by omega)
 . refine cV h0 ?_;obtain rfl:k=0:=by omega
   exact FZ sa sb h2 hg' hO hk ka kb r hi hb h6' (by omega)
end
theorem Rb (hO:κ.OneLt) {Q:Array Keyed->SortSt->Prop} (hk:kindOf st=oneType') (ka:KeysOf κ a) (kb:KeysOf κ b) (sa:∀i j,i<=j->j<a.size->κ.kle (KK κ a i) (KK κ a j)) (sb:∀i j,i<=j->j<b.size->κ.kle (KK κ b i) (KK κ b j)) (ha:1<=a.size) (hb:1<=b.size) (h1:κ.klt (KK κ b 0) (KK κ a 0)) (h2:κ.klt (KK κ b (b.size-1)) (KK κ a (a.size-1))) (h:∀r g,Rs κ (a.toList++b.toList) r->Q r (bB st g)):wpS (model prog w) A E s (Ut a b) Q st:=by
 rw[Uw];refine wpS_bind (wpS_lift (wpAny_rule ⟨rfl,?_⟩));dsimp only;refine wpS_bind (dZ hb ?_);have r0:RL κ (a.toList++b.toList) a b #[b[0]] 0 1:=RL.psB (out:=#[]) (ia:=0) sa ⟨List.Perm.refl _,by
  show SL κ a.toList;refine List.pairwise_iff_getElem.mpr λi j h3 h4 h5=>?_;have:=sa i j (by omega) (by simpa using h4)
  rwa [jz (getElem?_pos a i (by simpa using h3)),jz (getElem?_pos a j (by simpa using h4))]at this,by
  show SL κ b.toList;refine List.pairwise_iff_getElem.mpr λi j h3 h4 h5=>?_;have:=sb i j (by omega) (by simpa using h4)
  rwa [jz (getElem?_pos b i (by simpa using h3)),jz (getElem?_pos b j (by simpa using h4))]at this⟩ hb λ_=>KeyOrd.kle_of_klt h1
 by_cases hb1:1=b.size
 . refine dI (by simpa using hb1) ?_;exact wpS_pure (h _ (gallopOf st) (r0.done hb1 (by omega)))
 refine cV (by simpa using hb1) ?_;by_cases ha1:0+1=a.size
 . refine dI (by simpa using ha1) ?_;exact wpS_pure (h _ (gallopOf st) (r0.lst sb h2 ha1 hb))
 refine cV (by simpa using ha1) ?_;refine wpS_bind (wpS_get ?_);refine km (I:=λx c st'=>(∃g,st'=bB st g)/\∃out ia ib m,c=(none,out,ia,ib,m)/\RL κ (a.toList++b.toList) a b out ia ib/\ia+1<a.size/\ib<b.size/\x<=ia+ib)
  (P:=λc st'=>(∃g,st'=bB st g)/\∃r d,c=(some r,d)/\Rs κ (a.toList++b.toList) r) ?step ?fin ⟨⟨gallopOf st,rfl⟩,_,0,1,_,rfl,r0,by omega,by omega,by omega⟩ ?post
 case post=>
  intro K hK;rintro c st' ⟨⟨g,rfl⟩,r,d,rfl,hr⟩;subst hK;exact wpS_pure (h r g hr)
 case fin=>
  rintro c st' ⟨_,out,ia,ib,m,rfl,_,h3,h4,h5⟩;exfalso;simp only[Nat.zero_max,Nat.max_eq_right (Zj _)]at h5;omega
 intro B hB;rintro x c st' _ hx ⟨⟨g,rfl⟩,out,ia,ib,m,rfl,r1,h3,h4,h5⟩;subst hB;dsimp only;refine km (I:=λy c st'=>st'=bB st g/\∃out ia ib ac bc,c=(none,out,ia,ib,ac,bc)/\RL κ (a.toList++b.toList) a b out ia ib/\ia+1<a.size/\ib<b.size/\x+y<=ia+ib)
  (P:=λc st'=>st'=bB st g/\((∃r d,c=(some r,d)/\Rs κ (a.toList++b.toList) r)\/∃out ia ib ac bc,c=(none,out,ia,ib,ac,bc)/\RL κ (a.toList++b.toList) a b out ia ib/\ia+1<a.size/\ib<b.size/\x+1<=ia+ib)) ?_ ?_ ⟨rfl,_,ia,ib,_,_,rfl,r1,h3,h4,by omega⟩ ?_
 . clear h3 h4 h5 r1;intro B hB;rintro y c st' _ hy ⟨rfl,out,ia,ib,ac,bc,rfl,r1,h3,h4,h5⟩;subst hB;dsimp only;refine wpS_bind (dZ h4 (wpS_bind (dZ (show ia<a.size by omega) ?_)));refine wpS_bind (uI hO hk (iW kb h4) (iW ka (by omega)) ?_);dsimp only;cases hl:κ.blt (KK κ b ib) (KK κ a ia)
   . refine cV ZD ?_;refine wpS_bind (dZ (show ia<a.size by omega) ?_);have r2:=r1.psA sb (by omega) λ_=>hl;by_cases e:ia+1+1=a.size
     . refine dI (by simpa using e) ?_;exact wpS_pure ⟨rfl,.inl ⟨_,_,rfl,r2.lst sb h2 e (by omega)⟩⟩
     refine cV (by simpa using e) ?_;split
     . exact wpS_pure ⟨rfl,.inr ⟨_,_,_,_,_,rfl,r2,by omega,by omega,by omega⟩⟩
     . exact wpS_pure ⟨rfl,_,_,_,_,_,rfl,r2,by omega,by omega,by omega⟩
   . refine dI rfl ?_;refine wpS_bind (dZ h4 ?_);have r2:=r1.psB sa h4 λ_=>KeyOrd.kle_of_klt hl;by_cases e:ib+1=b.size
     . refine dI (by simpa using e) ?_;exact wpS_pure ⟨rfl,.inl ⟨_,_,rfl,r2.done e (by omega)⟩⟩
     refine cV (by simpa using e) ?_;split
     . exact wpS_pure ⟨rfl,.inr ⟨_,_,_,_,_,rfl,r2,by omega,by omega,by omega⟩⟩
     . exact wpS_pure ⟨rfl,_,_,_,_,_,rfl,r2,by omega,by omega,by omega⟩
 . rintro c st' ⟨_,out,ia,ib,ac,bc,rfl,_,h3,h4,h5⟩;exfalso;simp only[Nat.max_eq_right (Zj _)]at h5;omega
 clear h3 h4 h5 r1;intro K hK;rintro c st' ⟨rfl,⟨r,d,rfl,hr⟩ | ⟨out,ia,ib,ac,bc,rfl,r1,h3,h4,h5⟩⟩
 . subst hK;exact wpS_pure ⟨⟨g,rfl⟩,r,_,rfl,hr⟩
 subst hK;dsimp only;refine wpS_bind (wpS_lift (wpAny_rule ⟨rfl,?_⟩));refine km (I:=λy c st'=>(∃g,st'=bB st g)/\∃out ia ib m ac bc,c=(none,out,ia,ib,m,ac,bc)/\RL κ (a.toList++b.toList) a b out ia ib/\ia+1<a.size/\ib<b.size/\x+1+y<=ia+ib)
  (P:=λc st'=>(∃g,st'=bB st g)/\((∃r d,c=(some r,d)/\Rs κ (a.toList++b.toList) r)\/∃out ia ib m ac bc,c=(none,out,ia,ib,m,ac,bc)/\RL κ (a.toList++b.toList) a b out ia ib/\ia+1<a.size/\ib<b.size/\x+1<=ia+ib)) ?step2 ?fin2 ⟨⟨g,rfl⟩,_,ia,ib,_,_,_,rfl,r1,h3,h4,by omega⟩ ?post2
 case post2=>
  intro K hK;rintro c st' ⟨⟨g,rfl⟩,⟨r,d,rfl,hr⟩ | ⟨out,ia,ib,m,ac,bc,rfl,r1,h3,h4,h5⟩⟩
  . subst hK;exact wpS_pure ⟨⟨g,rfl⟩,r,_,rfl,hr⟩
  . subst hK;exact wpS_bind (wpS_modify (wpS_pure ⟨⟨_,rfl⟩,_,ia,ib,_,rfl,r1,h3,h4,h5⟩))
 case fin2=>
  rintro c st' ⟨_,out,ia,ib,m,ac,bc,rfl,_,h3,h4,h5⟩;exfalso;simp only[Nat.max_eq_right (Zj _)]at h5;omega
 clear h3 h4 h5 r1;intro B hB;rintro y c st' _ hy ⟨⟨g,rfl⟩,out,ia,ib,m,ac,bc,rfl,r1,h3,h4,h5⟩;subst hB;show wpS (model prog w) A E s (if m>1 then loV a b out ia ib ac bc (m-1) else loV a b out ia ib ac bc m) _ (bB st g);have fin:∀m',wpS (model prog w) A E s (loV a b out ia ib ac bc m') (LQ κ (a.toList++b.toList) a b st (x+1+(y+1))) (bB st g):=λm'=>Ra sa sb h2 ⟨g,rfl⟩ hO hk ka kb r1 h3 h4 (by omega);split<;>refine wpS_mono (fin _) λr st' hq=>?_
 all_goals
  cases r with
  | done c=>
   obtain⟨hg,hq | ⟨out,ia,ib,m,ac,bc,e,q1,q2,q3,q4⟩⟩:=hq
   . exact⟨hg,.inl hq⟩
   . exact⟨hg,.inr ⟨out,ia,ib,m,ac,bc,e,q1,q2,q3,by omega⟩⟩
  | yield c=>exact hq
end
abbrev H7:=Option (Array Keyed)×Nat×Nat×Array Keyed×Nat×Nat×Nat
def hiT (a b:Array Keyed) (m ac bc na nb:Nat) (out:Array Keyed):StateT SortSt Sem (ForInStep H7):=
 elem' a (na-1) >>= λx=>
 if na-1==0 then pure (.done (some (a.extract 0 (na-1)++b.extract 0 nb++(out.push x).reverse),na-1,nb,out.push x,m,ac,bc))
 else if decide (ac<7)&&decide (bc<7) then pure (.done (none,na-1,nb,out.push x,m,ac,bc)) else pure (.yield (none,na-1,nb,out.push x,m,ac,bc))
def J7 (a b:Array Keyed) (m ac bc nb na:Nat) (out:Array Keyed):StateT SortSt Sem (ForInStep H7):=
 elem' b (nb-1) >>= λx=>
 if nb-1==1 then pure (.done (some (b.extract 0 (nb-1)++a.extract 0 na++(out.push x).reverse),na,nb-1,out.push x,m,ac,bc))
 else
  elem' a (na-1) >>= λy=>
  nu true y b 0 (nb-1) (nb-1-1) >>= λk=>
  match k with
  | some k=>if nb-1-k>0 then (
   if k==1 then pure (.done (some (b.extract 0 k++a.extract 0 na++(out.push x++(b.extract k (nb-1)).reverse).reverse),na,k,out.push x++(b.extract k (nb-1)).reverse,m,ac,nb-1-k))
   else if k==0 then pure (.done (some (a.extract 0 na++b.extract 0 k++(out.push x++(b.extract k (nb-1)).reverse).reverse),na,k,out.push x++(b.extract k (nb-1)).reverse,m,ac,nb-1-k))
   else hiT a b m ac (nb-1-k) na k (out.push x++(b.extract k (nb-1)).reverse))
   else hiT a b m ac (nb-1-k) na (nb-1) (out.push x)
  | _=>pure (.done (some (a.extract 0 na++b.extract 0 (nb-1)++(out.push x).reverse),na,nb-1,out.push x,m,ac,bc))
def hiV (a b out:Array Keyed) (na nb ac bc m:Nat):StateT SortSt Sem (ForInStep H7):=
 (modify λst=>bB st m) >>= λ_=>
 elem' b (nb-1) >>= λx=>
 nu false x a 0 na (na-1) >>= λk=>
 match k with
 | some k=>if na-k>0 then (
  if k==0 then pure (.done (some (a.extract 0 k++b.extract 0 nb++(out++(a.extract k na).reverse).reverse),k,nb,out++(a.extract k na).reverse,m,na-k,bc))
  else J7 a b m (na-k) bc nb k (out++(a.extract k na).reverse))
  else J7 a b m (na-k) bc nb na out
 | _=>pure (.done (some (a.extract 0 na++b.extract 0 nb++out.reverse),na,nb,out,m,ac,bc))
section
variable {κ:KeyKind}
structure MH (κ:KeyKind) (T l1 l2 o:List Keyed):Prop where
 perm:(l1++l2++o).Perm T
 s1:SL κ (l1++o)
 s2:SL κ (l2++o)
variable {T l1 l2 o:List Keyed}
theorem MH.swap (h:MH κ T l1 l2 o):MH κ T l2 l1 o:=⟨((List.Perm.append_right o ZC)).trans h.perm,h.s2,h.s1⟩
theorem MH.take {x y:List Keyed} (h:MH κ T (y++x) l2 o) (hx:∀u∈x,∀v∈l2,κ.kle (KA κ v) (KA κ u)):MH κ T y l2 (x++o):=by
 obtain⟨h1,h2,h3⟩:=h;refine⟨?_,by simpa [SL] using h2,?_⟩
 . refine List.Perm.trans ?_ h1;rw[<-YQ];refine List.Perm.append_right o ?_;rw[YQ,YQ];exact List.Perm.append_left y ZC
 unfold SL at *;rw[YQ]at h2;rw[List.pairwise_append]at *;refine⟨h3.1,h2.2.1,λu hu v hv=>?_⟩;rcases Y6_.mp hv with hv | hv
 . exact hx v hv u hu
 . exact h3.2.2 u hu v hv
theorem Uz {a:Array Keyed} {n:Nat} {u:Keyed} (h:u∈a.toList.take n):∃j,j<n/\j<a.size/\KK κ a j=KA κ u:=by
 obtain⟨j,hj⟩:=List.mem_iff_getElem?.mp h;rw[List.getElem?_take]at hj;split at hj
 . rw[Array.getElem?_toList]at hj;exact⟨j,by omega,(Array.getElem?_eq_some_iff.mp hj).1,jz hj⟩
 . cases hj
theorem Nk {a:Array Keyed} {n k:Nat} (h:k<=n):a.toList.take n=a.toList.take k++(a.extract k n).toList:=by
 rw[Array.toList_extract,List.extract_eq_take_drop]
 conv=>lhs; rw[show n=k+(n-k) by omega]
 exact List.take_add ..
abbrev RH (κ:KeyKind) (T:List Keyed) (a b out:Array Keyed) (na nb:Nat):Prop:=MH κ T (a.toList.take na) (b.toList.take nb) out.reverse.toList
variable {a b out:Array Keyed} {na nb:Nat}
theorem RH.swap (h:RH κ T a b out na nb):RH κ T b a out nb na:=MH.swap h
theorem RH.takeA {k:Nat} (h:RH κ T a b out na nb) (hk:k<=na) (hx:∀i,k<=i->i<na->i<a.size->∀j,j<nb->j<b.size->κ.kle (KK κ b j) (KK κ a i)):RH κ T a b (out++(a.extract k na).reverse) k nb:=by
 unfold RH at *;rw[Nk hk]at h;have e:(out++(a.extract k na).reverse).reverse.toList=(a.extract k na).toList++out.reverse.toList:=by simp
 rw[e];refine h.take λu hu v hv=>?_;obtain⟨i,h1,h2,h3,e⟩:=uJ (κ:=κ) hu;obtain⟨j,h4,h5,e'⟩:=Uz (κ:=κ) hv;rw[<-e,<-e'];exact hx i h1 h2 h3 j h4 h5
theorem RH.pushA (h:RH κ T a b out na nb) (h0:0<na) (hk:na-1<a.size) (hx:∀j,j<nb->j<b.size->κ.kle (KK κ b j) (KK κ a (na-1))):RH κ T a b (out.push a[na-1]) (na-1) nb:=by
 have:=h.takeA (k:=na-1) (by omega) λi h1 h2 h3 j h4 h5=>(show i=na-1 by omega)▸hx j h4 h5;have e:(out++(a.extract (na-1) na).reverse).reverse.toList=(out.push a[na-1]).reverse.toList:=by have e2:=Uy hk;rw[show na-1+1=na by omega]at e2;simp only[Array.reverse_append,Array.reverse_reverse,Array.toList_append,e2,Array.toList_reverse,Array.toList_push,List.reverse_append,List.reverse_cons,List.reverse_nil,Zr,List.singleton_append]
 unfold RH at *
 rwa [e]at this
theorem J8 (ka:KeysOf κ a) {n:Nat} (h:n<=a.size):El κ a 0 n λj=>KK κ a j:=λj hj=>⟨a[j],by rw[aaJ]; exact getElem?_pos a _ (by omega),iW ka (by omega)⟩
theorem BX (a:Array Keyed):a.toList.take a.size=a.toList:=aat (by simp)
theorem J9 (a:Array Keyed) (n:Nat):(a.extract 0 n).toList=a.toList.take n:=by rw[Array.toList_extract,List.extract_eq_take_drop];simp
theorem RH.done (h:RH κ T a b out na nb) (hb:na=0):Rs κ T (a.extract 0 na++b.extract 0 nb++out.reverse):=by subst hb;unfold Rs;rw[Array.toList_append,Array.toList_append,J9,J9,List.take_zero,Zr];exact⟨by simpa using h.perm,h.s2⟩
theorem RH.first (h:RH κ T a b out na nb) (hx:∀i,i<nb->i<b.size->∀j,j<na->j<a.size->κ.kle (KK κ b i) (KK κ a j)):Rs κ T (b.extract 0 nb++a.extract 0 na++out.reverse):=by
 have h1:=h.takeA (k:=0) (by omega) λi h1 h2 h3 j h4 h5=>hx j h4 h5 i h2 h3;have:=h1.done rfl;have e:(a.extract 0 0++b.extract 0 nb++(out++(a.extract 0 na).reverse).reverse).toList=(b.extract 0 nb++a.extract 0 na++out.reverse).toList:=by simp
 unfold Rs at *
 rwa [e]at this
variable {prog:Program} {w:World} {A:Around} {E:Value->Shared->Prop} {s:Shared} {st:SortSt}
section
theorem RH.fst (sa:∀i j,i<=j->j<a.size->κ.kle (KK κ a i) (KK κ a j)) (h1:κ.klt (KK κ b 0) (KK κ a 0)) (r:RH κ T a b out na nb) (e1:nb<=1):Rs κ T (b.extract 0 nb++a.extract 0 na++out.reverse):=r.first λi h3 h4 j h5 h6=>by
 obtain rfl:i=0:=by omega
 exact KeyOrd.kle_trans (KeyOrd.kle_of_klt h1) (sa 0 j (by omega) h6)
theorem RH.psA (sb:∀i j,i<=j->j<b.size->κ.kle (KK κ b i) (KK κ b j)) (r:RH κ T a b out na nb) (h0:0<na) (hi:na-1<a.size) (hn:nb<=b.size) (l:0<nb->κ.kle (KK κ b (nb-1)) (KK κ a (na-1))):RH κ T a b (out.push a[na-1]) (na-1) nb:=r.pushA h0 hi λj h3 h4=>KeyOrd.kle_trans (sb j (nb-1) (by omega) (by omega)) (l (by omega))
theorem RH.psB (sa:∀i j,i<=j->j<a.size->κ.kle (KK κ a i) (KK κ a j)) (r:RH κ T a b out na nb) (h0:0<nb) (hi:nb-1<b.size) (hn:na<=a.size) (l:0<na->κ.kle (KK κ a (na-1)) (KK κ b (nb-1))):RH κ T a b (out.push b[nb-1]) na (nb-1):=(r.swap.pushA h0 hi λj h3 h4=>KeyOrd.kle_trans (sa j (na-1) (by omega) (by omega)) (l (by omega))).swap
def HQ (κ:KeyKind) (T:List Keyed) (a b:Array Keyed) (st:SortSt) (x:Nat):ForInStep H7->SortSt->Prop
 | .done c,st'=>(∃g,st'=bB st g)/\((∃r d,c=(some r,d)/\Rs κ T r)\/∃na nb out m ac bc,c=(none,na,nb,out,m,ac,bc)/\RH κ T a b out na nb/\0<na/\na<=a.size/\1<nb/\nb<=b.size/\na+nb+x<=a.size+b.size)
 | .yield c,st'=>(∃g,st'=bB st g)/\∃na nb out m ac bc,c=(none,na,nb,out,m,ac,bc)/\RH κ T a b out na nb/\0<na/\na<=a.size/\1<nb/\nb<=b.size/\na+nb+x<=a.size+b.size
theorem Ga (sb:∀i j,i<=j->j<b.size->κ.kle (KK κ b i) (KK κ b j)) {x:Nat} {st':SortSt} (hg:∃g,st'=bB st g) {m ac bc:Nat} (r:RH κ T a b out na nb) (hi:0<na) (hi':na<=a.size) (hb:1<nb) (hb':nb<=b.size) (l:κ.kle (KK κ b (nb-1)) (KK κ a (na-1))) (hx:na-1+nb+x<=a.size+b.size):wpS (model prog w) A E s (hiT a b m ac bc na nb out) (HQ κ T a b st x) st':=by
 refine wpS_bind (dZ (show na-1<a.size from o1 hi hi') ?_);have r2:=r.psA sb hi (o1 hi hi') hb' λ_=>l;by_cases e:na-1=0
 . refine dI (by simpa using e) ?_;exact wpS_pure ⟨hg,.inl ⟨_,_,rfl,r2.done e⟩⟩
 refine cV (by simpa using e) ?_;split
 . exact wpS_pure ⟨hg,.inr ⟨_,_,_,_,_,_,rfl,r2,o5 e,o3 hi',hb,hb',hx⟩⟩
 . exact wpS_pure ⟨hg,_,_,_,_,_,_,rfl,r2,o5 e,o3 hi',hb,hb',hx⟩
theorem Gb (sa:∀i j,i<=j->j<a.size->κ.kle (KK κ a i) (KK κ a j)) (sb:∀i j,i<=j->j<b.size->κ.kle (KK κ b i) (KK κ b j)) (h1:κ.klt (KK κ b 0) (KK κ a 0)) {x:Nat} {st':SortSt} (hg:∃g,st'=bB st g) (hO:κ.OneLt) (hk:kindOf st'=oneType') (ka:KeysOf κ a) (kb:KeysOf κ b) {m ac bc:Nat} (r:RH κ T a b out na nb) (hi:0<na) (hi':na<=a.size) (hb:1<nb) (hb':nb<=b.size) (l:κ.kle (KK κ a (na-1)) (KK κ b (nb-1))) (hx:na-1+nb+x<=a.size+b.size):wpS (model prog w) A E s (J7 a b m ac bc nb na out) (HQ κ T a b st x) st':=by
 refine wpS_bind (dZ (show nb-1<b.size from o2 hb hb') ?_);have r2:=r.psB sa (Nat.lt_trans Nat.zero_lt_one hb) (o2 hb hb') hi' λ_=>l;by_cases e:nb-1=1
 . refine dI (by simpa using e) ?_;exact wpS_pure ⟨hg,.inl ⟨_,_,rfl,r2.fst sa h1 (by omega)⟩⟩
 refine cV (by simpa using e) ?_;refine wpS_bind (dZ (show na-1<a.size from o1 hi hi') (wpS_bind (nZ hO hk (iW ka (o1 hi hi')) (J8 kb (by omega)) (λi j h5 h6=>sb _ _ (by omega) (by omega)) (by omega) λk hkn h5 h6=>?_)));dsimp only;have h5':∀j,j<k->κ.klt (KK κ b j) (KK κ a (na-1)):=λj h7=>h5 j h7;have h6':∀j,k<=j->j<nb-1->κ.kle (KK κ a (na-1)) (KK κ b j):=λj h7 h8=>h6 j h7 h8;have hk0:0<k:=by
  rcases Nat.eq_zero_or_pos k with h7 | h7
  . have q:=h6' 0 (by omega) (by omega);have:=KeyOrd.klt_of_klt_of_kle h1 (KeyOrd.kle_trans (sa 0 (na-1) (by omega) (by omega)) q);unfold KeyOrd.klt at this;rw[KeyOrd.irrefl]at this;cases this
  . exact h7
 by_cases h0:nb-1-k>0
 . refine dI h0 ?_;have r3:=(r2.swap.takeA (k:=k) (by omega) λi h7 h8 h9 j h10 h11=>KeyOrd.kle_trans (sa j (na-1) (by omega) (by omega)) (h6' i h7 h8)).swap;by_cases e:k=1
   . refine dI (by simpa using e) ?_;exact wpS_pure ⟨hg,.inl ⟨_,_,rfl,r3.fst sa h1 (by omega)⟩⟩
   refine cV (by simpa using e) (cV (by simp; omega) ?_);exact Ga sb hg r3 hi hi' (by omega) (by omega) (KeyOrd.kle_of_klt (h5' (k-1) (by omega))) (by omega)
 . refine cV h0 ?_;exact Ga sb hg r2 hi hi' (by omega) (by omega) (KeyOrd.kle_of_klt (h5' (nb-1-1) (by omega))) (by omega)
theorem Rc (sa:∀i j,i<=j->j<a.size->κ.kle (KK κ a i) (KK κ a j)) (sb:∀i j,i<=j->j<b.size->κ.kle (KK κ b i) (KK κ b j)) (h1:κ.klt (KK κ b 0) (KK κ a 0)) {x:Nat} {st':SortSt} (hg:∃g,st'=bB st g) (hO:κ.OneLt) (hk:kindOf st'=oneType') (ka:KeysOf κ a) (kb:KeysOf κ b) {m ac bc:Nat} (r:RH κ T a b out na nb) (hi:0<na) (hi':na<=a.size) (hb:1<nb) (hb':nb<=b.size) (hx:na-1+nb+x<=a.size+b.size):wpS (model prog w) A E s (hiV a b out na nb ac bc m) (HQ κ T a b st x) st':=by
 refine wpS_bind (wpS_modify ?_);have hg':∃g,bB st' m=bB st g:=by obtain⟨g,rfl⟩:=hg; exact⟨m,rfl⟩
 refine wpS_bind (dZ (show nb-1<b.size from o2 hb hb') (wpS_bind (nZ hO hk (iW kb (o2 hb hb')) (J8 ka (by omega)) (λi j h5 h6=>sa _ _ (by omega) (by omega)) (by omega) λk hkn h5 h6=>?_)));dsimp only;have h5':∀j,j<k->κ.kle (KK κ a j) (KK κ b (nb-1)):=λj h7=>by have:=h5 j h7;unfold fZ at this;exact(by simpa using this:κ.blt (KK κ b (nb-1)) (KK κ a j)=false)
 have h6':∀j,k<=j->j<na->κ.kle (KK κ b (nb-1)) (KK κ a j):=λj h7 h8=>by have:=h6 j h7 h8;unfold fZ at this;exact KeyOrd.kle_of_klt (by simpa using this:κ.blt (KK κ b (nb-1)) (KK κ a j)=true)
 by_cases h0:na-k>0
 . refine dI h0 ?_;have r3:=r.takeA (k:=k) (by omega) λi h7 h8 h9 j h10 h11=>KeyOrd.kle_trans (sb j (nb-1) (by omega) (by omega)) (h6' i h7 h8);by_cases e:k=0
   . refine dI (by simpa using e) ?_;exact wpS_pure ⟨hg',.inl ⟨_,_,rfl,r3.done e⟩⟩
   refine cV (by simpa using e) ?_;exact Gb sa sb h1 hg' hO hk ka kb r3 (by omega) (by omega) hb hb' (h5' (k-1) (by omega)) (by omega)
 . refine cV h0 ?_;exact Gb sa sb h1 hg' hO hk ka kb r hi hi' hb hb' (h5' (na-1) (by omega)) (by omega)
end
theorem Rf (hO:κ.OneLt) {Q:Array Keyed->SortSt->Prop} (hk:kindOf st=oneType') (ka:KeysOf κ a) (kb:KeysOf κ b) (sa:∀i j,i<=j->j<a.size->κ.kle (KK κ a i) (KK κ a j)) (sb:∀i j,i<=j->j<b.size->κ.kle (KK κ b i) (KK κ b j)) (ha:1<=a.size) (hb:1<=b.size) (h1:κ.klt (KK κ b 0) (KK κ a 0)) (h2:κ.klt (KK κ b (b.size-1)) (KK κ a (a.size-1))) (h:∀r g,Rs κ (a.toList++b.toList) r->Q r (bB st g)):wpS (model prog w) A E s (Uu a b) Q st:=by
 rw[Ux];refine wpS_bind (wpS_lift (wpAny_rule ⟨rfl,?_⟩));dsimp only;refine wpS_bind (dZ (show a.size-1<a.size by omega) ?_);have st0:∀{a:Array Keyed},(∀i j,i<=j->j<a.size->κ.kle (KK κ a i) (KK κ a j))->SL κ (a.toList.take a.size++(#[]:Array Keyed).reverse.toList):=λ{a} sa=>by
  rw[BX,show (#[]:Array Keyed).reverse.toList=[] by simp,Y7_];refine List.pairwise_iff_getElem.mpr λi j h3 h4 h5=>?_;have:=sa i j (by omega) (by simpa using h4)
  rwa [jz (getElem?_pos a i (by simpa using h3)),jz (getElem?_pos a j (by simpa using h4))]at this
 have r0:RH κ (a.toList++b.toList) a b #[a[a.size-1]] (a.size-1) b.size:=RH.psA (out:=#[]) (na:=a.size) sb ⟨by rw[BX,BX,show (#[]:Array Keyed).reverse.toList=[] by simp,Y7_],st0 sa,st0 sb⟩ ha (by omega) (YC _) λ_=>KeyOrd.kle_of_klt h2;by_cases ha1:a.size-1=0
 . refine dI (by simpa using ha1) ?_;exact wpS_pure (h _ (gallopOf st) (r0.done ha1))
 refine cV (by simpa using ha1) ?_;by_cases hb1:b.size=1
 . refine dI (by simpa using hb1) ?_;exact wpS_pure (h _ (gallopOf st) (r0.fst sa h1 (by omega)))
 refine cV (by simpa using hb1) ?_;refine wpS_bind (wpS_get ?_);refine km (I:=λx c st'=>(∃g,st'=bB st g)/\∃na nb out m,c=(none,na,nb,out,m)/\RH κ (a.toList++b.toList) a b out na nb/\0<na/\na<=a.size/\1<nb/\nb<=b.size/\na+nb+x<=a.size+b.size)
  (P:=λc st'=>(∃g,st'=bB st g)/\∃r d,c=(some r,d)/\Rs κ (a.toList++b.toList) r) ?step ?fin ⟨⟨gallopOf st,rfl⟩,_,_,_,_,rfl,r0,by omega,by omega,by omega,by omega,by omega⟩ ?post
 case post=>
  intro K hK;rintro c st' ⟨⟨g,rfl⟩,r,d,rfl,hr⟩;subst hK;exact wpS_pure (h r g hr)
 case fin=>
  rintro c st' ⟨_,na,nb,out,m,rfl,_,h3,h4,h5,h6,h7⟩;exfalso;simp only[Nat.max_eq_right (Zj _)]at h7;omega
 intro B hB;rintro x c st' _ hx ⟨⟨g,rfl⟩,na,nb,out,m,rfl,r1,h3,h4,h5,h6,h7⟩;subst hB;dsimp only;refine km (I:=λy c st'=>st'=bB st g/\∃na nb out ac bc,c=(none,na,nb,out,ac,bc)/\RH κ (a.toList++b.toList) a b out na nb/\0<na/\na<=a.size/\1<nb/\nb<=b.size/\na+nb+(x+y)<=a.size+b.size)
  (P:=λc st'=>st'=bB st g/\((∃r d,c=(some r,d)/\Rs κ (a.toList++b.toList) r)\/∃na nb out ac bc,c=(none,na,nb,out,ac,bc)/\RH κ (a.toList++b.toList) a b out na nb/\0<na/\na<=a.size/\1<nb/\nb<=b.size/\na+nb+(x+1)<=a.size+b.size)) ?_ ?_ ⟨rfl,_,_,_,_,_,rfl,r1,h3,h4,h5,h6,by omega⟩ ?_
 . clear h3 h4 h5 h6 h7 r1;intro B hB;rintro y c st' _ hy ⟨rfl,na,nb,out,ac,bc,rfl,r1,h3,h4,h5,h6,h7⟩;subst hB;dsimp only;refine wpS_bind (dZ (show nb-1<b.size from o2 h5 h6) (wpS_bind (dZ (show na-1<a.size from o1 h3 h4) ?_)));refine wpS_bind (uI hO hk (iW kb (o2 h5 h6)) (iW ka (o1 h3 h4)) ?_);dsimp only;cases hl:κ.blt (KK κ b (nb-1)) (KK κ a (na-1))
   . refine cV ZD ?_;refine wpS_bind (dZ (show nb-1<b.size from o2 h5 h6) ?_);have r2:=r1.psB sa (Nat.lt_trans Nat.zero_lt_one h5) (o2 h5 h6) h4 λ_=>hl;by_cases e:nb-1=1
     . refine dI (by simpa using e) ?_;exact wpS_pure ⟨rfl,.inl ⟨_,_,rfl,r2.fst sa h1 (by omega)⟩⟩
     refine cV (by simpa using e) ?_;split
     . exact wpS_pure ⟨rfl,.inr ⟨_,_,_,_,_,rfl,r2,h3,h4,o4 h5 e,o3 h6,by omega⟩⟩
     . exact wpS_pure ⟨rfl,_,_,_,_,_,rfl,r2,h3,h4,o4 h5 e,o3 h6,by omega⟩
   . refine dI rfl ?_;refine wpS_bind (dZ (show na-1<a.size from o1 h3 h4) ?_);have r2:=r1.psA sb h3 (o1 h3 h4) h6 λ_=>KeyOrd.kle_of_klt hl;by_cases e:na-1=0
     . refine dI (by simpa using e) ?_;exact wpS_pure ⟨rfl,.inl ⟨_,_,rfl,r2.done e⟩⟩
     refine cV (by simpa using e) ?_;split
     . exact wpS_pure ⟨rfl,.inr ⟨_,_,_,_,_,rfl,r2,o5 e,o3 h4,h5,h6,by omega⟩⟩
     . exact wpS_pure ⟨rfl,_,_,_,_,_,rfl,r2,o5 e,o3 h4,h5,h6,by omega⟩
 . rintro c st' ⟨_,na,nb,out,ac,bc,rfl,_,h3,h4,h5,h6,h7⟩;exfalso;simp only[Nat.max_eq_right (Zj _)]at h7;omega
 clear h3 h4 h5 h6 h7 r1;intro K hK;rintro c st' ⟨rfl,⟨r,d,rfl,hr⟩ | ⟨na,nb,out,ac,bc,rfl,r1,h3,h4,h5,h6,h7⟩⟩
 . subst hK;exact wpS_pure ⟨⟨g,rfl⟩,r,_,rfl,hr⟩
 subst hK;dsimp only;refine wpS_bind (wpS_lift (wpAny_rule ⟨rfl,?_⟩));refine km (I:=λy c st'=>(∃g,st'=bB st g)/\∃na nb out m ac bc,c=(none,na,nb,out,m,ac,bc)/\RH κ (a.toList++b.toList) a b out na nb/\0<na/\na<=a.size/\1<nb/\nb<=b.size/\na+nb+(x+1+y)<=a.size+b.size)
  (P:=λc st'=>(∃g,st'=bB st g)/\((∃r d,c=(some r,d)/\Rs κ (a.toList++b.toList) r)\/∃na nb out m ac bc,c=(none,na,nb,out,m,ac,bc)/\RH κ (a.toList++b.toList) a b out na nb/\0<na/\na<=a.size/\1<nb/\nb<=b.size/\na+nb+(x+1)<=a.size+b.size)) ?step2 ?fin2 ⟨⟨g,rfl⟩,_,_,_,_,_,_,rfl,r1,h3,h4,h5,h6,by omega⟩ ?post2
 case post2=>
  intro K hK;rintro c st' ⟨⟨g,rfl⟩,⟨r,d,rfl,hr⟩ | ⟨na,nb,out,m,ac,bc,rfl,r1,h3,h4,h5,h6,h7⟩⟩
  . subst hK;exact wpS_pure ⟨⟨g,rfl⟩,r,_,rfl,hr⟩
  . subst hK;exact wpS_bind (wpS_modify (wpS_pure ⟨⟨_,rfl⟩,_,_,_,_,rfl,r1,h3,h4,h5,h6,h7⟩))
 case fin2=>
  rintro c st' ⟨_,na,nb,out,m,ac,bc,rfl,_,h3,h4,h5,h6,h7⟩;exfalso;simp only[Nat.max_eq_right (Zj _)]at h7;omega
 clear h3 h4 h5 h6 h7 r1;intro B hB;rintro y c st' _ hy ⟨⟨g,rfl⟩,na,nb,out,m,ac,bc,rfl,r1,h3,h4,h5,h6,h7⟩;subst hB;show wpS (model prog w) A E s (if m>1 then hiV a b out na nb ac bc (m-1) else hiV a b out na nb ac bc m) _ (bB st g);have fin:∀m',wpS (model prog w) A E s (hiV a b out na nb ac bc m') (HQ κ (a.toList++b.toList) a b st (x+1+(y+1))) (bB st g):=λm'=>Rc sa sb h1 ⟨g,rfl⟩ hO hk ka kb r1 h3 h4 h5 h6 (by omega);split<;>refine wpS_mono (fin _) λr st' hq=>?_
 all_goals
  cases r with
  | done c=>
   obtain⟨hg,hq | ⟨na,nb,out,m,ac,bc,e,q1,q2,q3,q4,q5,q6⟩⟩:=hq
   . exact⟨hg,.inl hq⟩
   . exact⟨hg,.inr ⟨na,nb,out,m,ac,bc,e,q1,q2,q3,q4,q5,by omega⟩⟩
  | yield c=>exact hq
end
theorem UG (i:Nat):mergeAt' i=(do
 let s <-get
 let (some (sa,na,power),some (sb,nb,_)):=((pendingOf s)[i]?,(pendingOf s)[i+1]?) | unsupported "internal:list.sort.pending"
 set (setPending s (((pendingOf s).setIfInBounds i (sa,na+nb,power)).eraseIdxIfInBounds (i+1)))
 let some k <-nu false (<-elem' (arrOf s) sb) (arrOf s) sa na 0 | return false
 let (sa,na):=(sa+k,na-k)
 if na==0 then return true
 let some nb <-nu true (<-elem' (arrOf s) (sa+na-1)) (arrOf s) sb nb (nb-1) | return false
 if nb==0 then return true
 let x:=(arrOf s).extract sa sb
 let y:=(arrOf s).extract sb (sb+nb)
 let merged <-if na<=nb then Ut x y else Uu x y
 modify λs=>setArr s (merged.toList.zipIdx.foldl (λa (p,j)=>a.setIfInBounds (sa+j) p) (arrOf s))
 return (failedOf (<-get)).isNone):=rfl
def ow (xs:Array Keyed) (q n:Nat) (l:List Keyed):Array Keyed:=(l.zipIdx n).foldl (λa (p,j)=>a.setIfInBounds (q+j) p) xs
theorem Iw:∀(l:List Keyed) (xs:Array Keyed) (q n i:Nat),q+n+l.length<=xs.size->(ow xs q n l)[i]?=if q+n<=i/\i<q+n+l.length then l[i-(q+n)]? else xs[i]?
 | [],xs,q,n,i,_=>by rw[aaO (by simp only[YK]; omega)]; rfl
 | x::l,xs,q,n,i,h=>by
  have e:ow xs q n (x::l)=ow (xs.setIfInBounds (q+n) x) q (n+1) l:=rfl;rw[Yy]at h ⊢;rw[e,Iw l _ q (n+1) i (by rw[Array.size_setIfInBounds]; omega)];by_cases h1:q+(n+1)<=i/\i<q+(n+1)+l.length
  . rw[aaN h1,aaN (by omega),show i-(q+n)=i-(q+(n+1))+1 by omega,List.getElem?_cons_succ]
  . rw[aaO h1,Array.getElem?_setIfInBounds];by_cases h2:q+n=i
    . subst h2;rw[aaN rfl,aaN (by omega),aaN (by omega),aaa,List.getElem?_cons_zero]
    . rw[aaO h2,aaO (by omega)]
theorem Rg (l:List Keyed) (xs:Array Keyed) (q:Nat) (h:q+l.length<=xs.size):(ow xs q 0 l).toList=xs.toList.take q++(l++xs.toList.drop (q+l.length)):=by
 refine List.ext_getElem? λi=>?_;rw[Array.getElem?_toList,Iw l xs q 0 i (by omega),Nat.add_zero];rcases Nat.lt_or_ge i q with h1 | h1
 . rw[aaO (by omega),Zv (by simp; omega),List.getElem?_take_of_lt h1,Array.getElem?_toList]
 rw[Y8 (by simp; omega)];have e:(xs.toList.take q).length=q:=by simp; omega
 rw[e];rcases Nat.lt_or_ge (i-q) l.length with h2 | h2
 . rw[aaN (by omega),Zv h2]
 . rw[aaO (by omega),Y8 h2,List.getElem?_drop,show q+l.length+(i-q-l.length)=i by omega,Array.getElem?_toList]
def Sq (κ:KeyKind) (xs:Array Keyed) (lo hi:Nat):Prop:=∀i j,lo<=i->i<=j->j<hi->κ.kle (KK κ xs i) (KK κ xs j)
section
variable {prog:Program} {w:World} {A:Around} {E:Value->Shared->Prop} {s:Shared} {κ:KeyKind} {a₀ xs₀:Array Keyed} {p:Array (Nat×Nat×Nat)} {lo:Nat} {st:SortSt}
theorem Sg.sq {xs:Array Keyed} {n:Nat} (h:Sg κ xs lo n):Sq κ xs lo (lo+n):=λi j h1 h2 h3=>by
 have:=h (i-lo) (j-lo) (by omega) (by omega)
 rwa [show lo+(i-lo)=i by omega,show lo+(j-lo)=j by omega]at this
theorem Sq.congr {xs ys:Array Keyed} {lo hi:Nat} (h:Sq κ xs lo hi) (e:∀i,lo<=i->i<hi->ys[i]?=xs[i]?):Sq κ ys lo hi:=λi j h1 h2 h3=>by rw[KK_congr (e i h1 (by omega)),KK_congr (e j (by omega) h3)];exact h i j h1 h2 h3
theorem Rh {x:SortSt} {Q:PUnit->SortSt->Prop} (h:Q ⟨⟩ x):wpS (model prog w) A E s (set x:StateT SortSt Sem PUnit) Q st:=by unfold wpS; rw[StateT.run_set]; exact aaP ⟨rfl,h⟩
theorem mQ {xs:Array Keyed} {i k j:Nat} (h:i+j<k) (hk:k<=xs.size):KK κ (xs.extract i k) j=KK κ xs (i+j):=KK_congr (by rw[Array.getElem?_extract,aaN (by omega)])
theorem Ri (hO:κ.OneLt) (h0:KeysOf κ a₀) {i sa na nb pw pw':Nat} {Q:Bool->SortSt->Prop} (hB:SB a₀ p 0 xs₀ st) (e1:p[i]?=some (sa,na,pw)) (e2:p[i+1]?=some (sa+na,nb,pw')) (hna:1<=na) (hnb:1<=nb) (hsz:sa+na+nb<=a₀.size) (s1:Sq κ (arrOf st) sa (sa+na)) (s2:Sq κ (arrOf st) (sa+na) (sa+na+nb))
 (h:∀st',SB a₀ ((p.setIfInBounds i (sa,na+nb,pw)).eraseIdxIfInBounds (i+1)) 0 xs₀ st'->(∀j,j<sa\/sa+na+nb<=j->(arrOf st')[j]?=(arrOf st)[j]?)->Sq κ (arrOf st') sa (sa+na+nb)->Q true st'):wpS (model prog w) A E s (mergeAt' i) Q st:=by
 rw[UG]
 refine wpS_bind (wpS_get ?_)
 rw[hB.pend,e1,e2]
 dsimp only
 refine wpS_bind (Rh ?_)
 have hS:SB a₀ ((p.setIfInBounds i (sa,na+nb,pw)).eraseIdxIfInBounds (i+1)) 0 xs₀ (setPending st ((p.setIfInBounds i (sa,na+nb,pw)).eraseIdxIfInBounds (i+1))):=⟨hB.perm,hB.kind,hB.failed,rfl,λ_ hi=>absurd hi (Nat.not_lt_zero _)⟩
 have hsiz:(arrOf st).size=a₀.size:=hB.size
 have kx:KeysOf κ (arrOf st):=λq hq=>h0 q ((Array.perm_iff_toList_perm.mp hB.perm).mem_iff.mp hq)
 generalize hp:(p.setIfInBounds i (sa,na+nb,pw)).eraseIdxIfInBounds (i+1)=p' at *
 have fin:κ.kle (KK κ (arrOf st) (sa+na-1)) (KK κ (arrOf st) (sa+na))->Sq κ (arrOf st) sa (sa+na+nb):=λhl i j h1 h2 h3=>by
  rcases Nat.lt_or_ge j (sa+na) with h4 | h4
  . exact s1 i j h1 h2 h4
  rcases Nat.lt_or_ge i (sa+na) with h5 | h5
  . exact KeyOrd.kle_trans (s1 i (sa+na-1) h1 (by omega) (by omega)) (KeyOrd.kle_trans hl (s2 _ j (by omega) h4 h3))
  . exact s2 i j h5 h2 h3
 generalize hxs:arrOf st=xs at *
 have ea:arrOf (setPending st p')=xs:=hxs
 have hQ:Sq κ xs sa (sa+na+nb)->Q true (setPending st p'):=λq=>h _ hS (λj _=>by rw[ea]) (by rw[ea]; exact q)
 refine wpS_bind (dZ (show sa+na<xs.size by omega) ?_)
 refine wpS_bind (nZ hO hB.kind (iW kx (by omega)) (Av kx sa na (by omega)) (λi j h5 h6=>s1 _ _ (by omega) (by omega) (by omega)) (by omega) λk hkn h5 h6=>?_)
 dsimp only
 have h5':∀j,sa<=j->j<sa+k->κ.kle (KK κ xs j) (KK κ xs (sa+na)):=λj h7 h8=>by
  have:=h5 (j-sa) (by omega)
  rw[show sa+(j-sa)=j by omega]at this
  unfold fZ at this
  exact(by simpa using this:κ.blt (KK κ xs (sa+na)) (KK κ xs j)=false)
 have h6':∀j,sa+k<=j->j<sa+na->κ.klt (KK κ xs (sa+na)) (KK κ xs j):=λj h7 h8=>by
  have:=h6 (j-sa) (by omega) (by omega)
  rw[show sa+(j-sa)=j by omega]at this
  unfold fZ at this
  exact(by simpa using this:κ.blt (KK κ xs (sa+na)) (KK κ xs j)=true)
 by_cases hk0:na-k=0
 . rw[aaN (by simpa using hk0)]
   exact wpS_pure (hQ (fin (h5' _ (by omega) (by omega))))
 rw[aaO (by simpa using hk0)]
 rw[show sa+k+(na-k)-1=sa+na-1 by omega]
 refine wpS_bind (dZ (show sa+na-1<xs.size by omega) ?_)
 refine wpS_bind (nZ hO hB.kind (iW kx (by omega)) (Av kx (sa+na) nb (by omega)) (λi j h5 h6=>s2 _ _ (by omega) (by omega) (by omega)) (by omega) λm hmn h7 h8=>?_)
 dsimp only
 have h7':∀j,sa+na<=j->j<sa+na+m->κ.klt (KK κ xs j) (KK κ xs (sa+na-1)):=λj h9 h10=>by
  have:=h7 (j-(sa+na)) (by omega)
  rwa [show sa+na+(j-(sa+na))=j by omega]at this
 have h8':∀j,sa+na+m<=j->j<sa+na+nb->κ.kle (KK κ xs (sa+na-1)) (KK κ xs j):=λj h9 h10=>by
  have:=h8 (j-(sa+na)) (by omega) (by omega)
  rwa [show sa+na+(j-(sa+na))=j by omega]at this
 by_cases hm0:m=0
 . rw[aaN (by simpa using hm0)]
   exact wpS_pure (hQ (fin (h8' _ (by omega) (by omega))))
 rw[aaO (by simpa using hm0)]
 have zx:(xs.extract (sa+k) (sa+na)).size=na-k:=by rw[Array.size_extract]; omega
 have zy:(xs.extract (sa+na) (sa+na+m)).size=m:=by rw[Array.size_extract]; omega
 have key:∀r g,Rs κ ((xs.extract (sa+k) (sa+na)).toList++(xs.extract (sa+na) (sa+na+m)).toList) r->wpS (model prog w) A E s (do
  modify λs=>setArr s (r.toList.zipIdx.foldl (λa (p,j)=>a.setIfInBounds (sa+k+j) p) (arrOf s))
  return (failedOf (<-get)).isNone) Q (bB (setPending st p') g):=λr g hr=>by
  refine wpS_bind (wpS_modify (wpS_bind (wpS_get (wpS_pure ?_))))
  have hl:r.toList.length=na-k+m:=by rw[hr.1.length_eq,YJ,Zu,Zu,zx,zy]
  have hl':sa+k+r.toList.length=sa+na+m:=by omega
  have eo:r.toList.zipIdx.foldl (λa (p,j)=>a.setIfInBounds (sa+k+j) p) xs=ow xs (sa+k) 0 r.toList:=rfl
  show Q (failedOf st).isNone (setArr (bB (setPending st p') g) (r.toList.zipIdx.foldl (λa (p,j)=>a.setIfInBounds (sa+k+j) p) (arrOf st)))
  rw[hxs,eo,hB.failed]
  have oa:∀j,(ow xs (sa+k) 0 r.toList)[j]?=if sa+k<=j/\j<sa+na+m then r.toList[j-(sa+k)]? else xs[j]?:=λj=>by rw[Iw _ _ _ _ _ (by omega),Nat.add_zero,hl']
  refine h _ ⟨?_,hB.kind,hB.failed,rfl,λ_ hi=>absurd hi (Nat.not_lt_zero _)⟩ (λj hj=>?_) ?_
  . show (ow xs (sa+k) 0 r.toList).Perm a₀
    refine Array.Perm.trans (Array.perm_iff_toList_perm.mpr ?_) hB.perm
    rw[hxs,Rg _ _ _ (by omega),hl']
    have e3:xs.toList=xs.toList.take (sa+k)++((xs.extract (sa+k) (sa+na)).toList++(xs.extract (sa+na) (sa+na+m)).toList++xs.toList.drop (sa+na+m)):=by
     conv=>lhs; rw[<-List.take_append_drop (sa+k) xs.toList,t7 (show sa+k<=sa+na by omega),t7 (show sa+na<=sa+na+m by omega)]
     rw[YQ]
    conv=>rhs; rw[e3]
    exact List.Perm.append_left _ (List.Perm.append_right _ hr.1)
  . show (ow xs (sa+k) 0 r.toList)[j]?=_
    rw[oa,aaO (by omega)]
  . show Sq κ (ow xs (sa+k) 0 r.toList) sa (sa+na+nb)
    have ko:∀j,sa<=j->j<sa+k\/sa+na+m<=j->KK κ (ow xs (sa+k) 0 r.toList) j=KK κ xs j:=λj _ hj=>KK_congr (by rw[oa,aaO (by omega)])
    have ki:∀j,sa+k<=j->j<sa+na+m->∃q,sa+k<=q/\q<sa+na+m/\KK κ (ow xs (sa+k) 0 r.toList) j=KK κ xs q:=λj h9 h10=>by
     have hj:j-(sa+k)<r.toList.length:=by omega
     have e4:(ow xs (sa+k) 0 r.toList)[j]?=some (r.toList[j-(sa+k)]):=by rw[oa,aaN ⟨h9,h10⟩,Y0 hj]
     rw[jz e4]
     rcases Y6_.mp (hr.1.mem_iff.mp (List.getElem_mem hj)) with q | q
     . obtain⟨z,z1,z2,z3,z4⟩:=uJ (κ:=κ) q
       exact⟨z,z1,by omega,z4.symm⟩
     . obtain⟨z,z1,z2,z3,z4⟩:=uJ (κ:=κ) q
       exact⟨z,by omega,z2,z4.symm⟩
    have lowU:∀i q,sa<=i->i<sa+k->sa+k<=q->q<sa+na+nb->κ.kle (KK κ xs i) (KK κ xs q):=λi q q1 q2 q3 q4=>by
     rcases Nat.lt_or_ge q (sa+na) with q5 | q5
     . exact s1 i q q1 (by omega) q5
     . exact KeyOrd.kle_trans (h5' i q1 q2) (s2 _ q (YC _) q5 q4)
    have J7:∀q j,sa<=q->q<sa+na+m->sa+na+m<=j->j<sa+na+nb->κ.kle (KK κ xs q) (KK κ xs j):=λq j q1 q2 q3 q4=>by
     rcases Nat.lt_or_ge q (sa+na) with q5 | q5
     . exact KeyOrd.kle_trans (s1 q (sa+na-1) q1 (by omega) (by omega)) (h8' j q3 q4)
     . exact s2 q j q5 (by omega) q4
    intro i j q1 q2 q3
    by_cases ci:i<sa+k
    . rw[ko i q1 (.inl ci)]
      by_cases cj:j<sa+k
      . rw[ko j (by omega) (.inl cj)]; exact s1 i j q1 q2 (by omega)
      by_cases cj2:j<sa+na+m
      . obtain⟨q,q5,q6,q7⟩:=ki j (by omega) cj2
        rw[q7]; exact lowU i q q1 ci q5 (by omega)
      . rw[ko j (by omega) (.inr (by omega))]; exact lowU i j q1 ci (by omega) q3
    by_cases ci2:i<sa+na+m
    . by_cases cj2:j<sa+na+m
      . by_cases cc:i=j
        . subst cc; exact KeyOrd.kle_refl _
        have hi:i-(sa+k)<r.toList.length:=by omega
        have hj:j-(sa+k)<r.toList.length:=by omega
        rw[jz (show (ow xs (sa+k) 0 r.toList)[i]?=some (r.toList[i-(sa+k)]) by rw[oa,aaN (by omega),Y0 hi]),jz (show (ow xs (sa+k) 0 r.toList)[j]?=some (r.toList[j-(sa+k)]) by rw[oa,aaN (by omega),Y0 hj])]
        exact List.pairwise_iff_getElem.mp hr.2 _ _ hi hj (by omega)
      . obtain⟨q,q5,q6,q7⟩:=ki i (by omega) ci2
        rw[q7,ko j (by omega) (.inr (by omega))]; exact J7 q j (by omega) q6 (by omega) q3
    . rw[ko i q1 (.inr (by omega)),ko j (by omega) (.inr (by omega))]
      exact s2 i j (by omega) q2 q3
 have xk:KeysOf κ (xs.extract (sa+k) (sa+na)):=λq hq=>kx q (by
  rw[Array.toList_extract,List.extract_eq_take_drop]at hq
  exact List.mem_of_mem_drop (List.mem_of_mem_take hq))
 have yk:KeysOf κ (xs.extract (sa+na) (sa+na+m)):=λq hq=>kx q (by
  rw[Array.toList_extract,List.extract_eq_take_drop]at hq
  exact List.mem_of_mem_drop (List.mem_of_mem_take hq))
 have sx:∀i j,i<=j->j<(xs.extract (sa+k) (sa+na)).size->κ.kle (KK κ (xs.extract (sa+k) (sa+na)) i) (KK κ (xs.extract (sa+k) (sa+na)) j):=λi j q1 q2=>by
  rw[zx]at q2
  rw[mQ (by omega) (by omega),mQ (by omega) (by omega)]
  exact s1 _ _ (by omega) (by omega) (by omega)
 have sy:∀i j,i<=j->j<(xs.extract (sa+na) (sa+na+m)).size->κ.kle (KK κ (xs.extract (sa+na) (sa+na+m)) i) (KK κ (xs.extract (sa+na) (sa+na+m)) j):=λi j q1 q2=>by
  rw[zy]at q2
  rw[mQ (by omega) (by omega),mQ (by omega) (by omega)]
  exact s2 _ _ (by omega) (by omega) (by omega)
 have c1:κ.klt (KK κ (xs.extract (sa+na) (sa+na+m)) 0) (KK κ (xs.extract (sa+k) (sa+na)) 0):=by
  rw[mQ (by omega) (by omega),mQ (by omega) (by omega)]
  exact h6' _ (by omega) (by omega)
 have c2:κ.klt (KK κ (xs.extract (sa+na) (sa+na+m)) ((xs.extract (sa+na) (sa+na+m)).size-1)) (KK κ (xs.extract (sa+k) (sa+na)) ((xs.extract (sa+k) (sa+na)).size-1)):=by
  rw[zx,zy,mQ (by omega) (by omega),mQ (by omega) (by omega),show sa+k+(na-k-1)=sa+na-1 by omega]
  exact h7' _ (by omega) (by omega)
 split
 . exact wpS_bind (Rb hO hB.kind xk yk sx sy (by omega) (by omega) c1 c2 key)
 . exact wpS_bind (Rf hO hB.kind xk yk sx sy (by omega) (by omega) c1 c2 key)
end
def rs (p:Array (Nat×Nat×Nat)):List (Nat×Nat):=p.toList.map λr=>(r.1,r.2.1)
def Runs (κ:KeyKind) (xs:Array Keyed):Nat->List (Nat×Nat)->Nat->Prop
 | a,[],c=>a=c
 | a,r::l,c=>r.1=a/\1<=r.2/\Sq κ xs a (a+r.2)/\Runs κ xs (a+r.2) l c
section
variable {κ:KeyKind} {xs ys:Array Keyed}
theorem Runs.le:∀{l:List (Nat×Nat)} {a c:Nat},Runs κ xs a l c->a+l.length<=c
 | [],_,_,h=>Nat.le_of_eq h
 | r::l,a,c,⟨_,h1,_,h2⟩=>by have:=h2.le; rw[Yy]; omega
theorem Runs.congr:∀{l:List (Nat×Nat)} {a c:Nat},Runs κ xs a l c->(∀i,a<=i->i<c->ys[i]?=xs[i]?)->Runs κ ys a l c
 | [],_,_,h,_=>h
 | r::l,a,c,⟨h0,h1,h2,h3⟩,e=>⟨h0,h1,h2.congr λi h4 h5=>e i h4 (by have:=h3.le; omega),h3.congr λi h4 h5=>e i (by omega) h5⟩
theorem Runs.app:∀{l m:List (Nat×Nat)} {a c:Nat},Runs κ xs a (l++m) c ↔ ∃b,Runs κ xs a l b/\Runs κ xs b m c
 | [],m,a,c=>⟨λh=>⟨a,rfl,h⟩,λ⟨b,h1,h2⟩=>by obtain rfl:a=b:=h1; exact h2⟩
 | r::l,m,a,c=>⟨λ⟨h0,h1,h2,h3⟩=>by obtain⟨b,h4,h5⟩:=Runs.app.mp h3; exact⟨b,⟨h0,h1,h2,h4⟩,h5⟩,λ⟨b,⟨h0,h1,h2,h3⟩,h4⟩=>⟨h0,h1,h2,Runs.app.mpr ⟨b,h3,h4⟩⟩⟩
theorem Rj {p:Array (Nat×Nat×Nat)} {i:Nat} (h:i+1<p.size):∃l x y m,p.toList=l++x::y::m/\l.length=i/\p[i]?=some x/\p[i+1]?=some y/\∀z,((p.setIfInBounds i z).eraseIdxIfInBounds (i+1)).toList=l++z::m:=by
 have hl:p.toList.length=p.size:=by simp
 have e:p.toList=p.toList.take i++p[i]::p[i+1]::p.toList.drop (i+2):=by
  conv=>lhs; rw[<-List.take_append_drop i p.toList,ZP (by omega),ZP (show i+1<p.toList.length by omega)]
  rfl
 have ht:(p.toList.take i).length=i:=by rw[aac]; omega
 refine⟨p.toList.take i,p[i],p[i+1],p.toList.drop (i+2),e,ht,getElem?_pos p i (by omega),getElem?_pos p (i+1) h,λz=>?_⟩;rw[Array.toList_eraseIdxIfInBounds,Array.toList_setIfInBounds]
 conv=>lhs; rw[e]
 rw[List.set_append_right _ _ (by omega),ht,aaa,List.set_cons_zero,List.eraseIdx_append_of_length_le (by omega),ht,show i+1-i=1 by omega];rfl
theorem Ka (p:Array (Nat×Nat×Nat)) (i pw:Nat):rs (p.modify i λx=>(x.1,x.2.1,pw))=rs p:=by
 unfold rs;refine List.ext_getElem? λj=>?_;rw[Y4,Y4,Array.getElem?_toList,Array.getElem?_toList,Array.getElem?_modify];split
 . subst_vars; cases p[j]?<;>rfl
 . rfl
theorem Rk (p:Array (Nat×Nat×Nat)) (x:Nat×Nat×Nat):rs (p.push x)=rs p++[(x.1,x.2.1)]:=by unfold rs;rw[Array.toList_push,YZ];rfl
theorem Kc (p:Array (Nat×Nat×Nat)):(rs p).length=p.size:=by simp[rs]
variable {prog:Program} {w:World} {A:Around} {E:Value->Shared->Prop} {s:Shared} {a₀:Array Keyed} {st:SortSt}
structure SR (κ:KeyKind) (a₀:Array Keyed) (lo n:Nat) (st:SortSt):Prop where
 perm:(arrOf st).Perm a₀
 kind:kindOf st=oneType'
 failed:failedOf st=none
 runs:Runs κ (arrOf st) 0 (rs (pendingOf st)) lo
 hi:lo+n<=a₀.size
 nxt:Sq κ (arrOf st) lo (lo+n)
theorem Ke (hO:κ.OneLt) (h0:KeysOf κ a₀) {i lo n:Nat} {Q:Bool->SortSt->Prop} (hS:SR κ a₀ lo n st) (hi:i+1<(pendingOf st).size) (h:∀st',SR κ a₀ lo n st'->(pendingOf st').size+1=(pendingOf st).size->Q true st'):wpS (model prog w) A E s (mergeAt' i) Q st:=by
 obtain⟨l,⟨sa,na,pw⟩,⟨sb,nb,pw'⟩,m,ep,el,e1,e2,ez⟩:=Rj hi;have hr:=hS.runs;unfold rs at hr;rw[ep,YZ]at hr;obtain⟨b,q1,q2⟩:=Runs.app.mp hr;obtain⟨h1,h2,h3,h4,h5,h6,h7⟩:sa=b/\1<=na/\Sq κ (arrOf st) b (b+na)/\sb=b+na/\1<=nb/\Sq κ (arrOf st) (b+na) (b+na+nb)/\Runs κ (arrOf st) (b+na+nb) (m.map λ(r:Nat×Nat×Nat)=>(r.1,r.2.1)) lo:=q2;subst h1;subst h4;have hle:=h7.le;have:=hS.hi;refine Ri (xs₀:=#[]) hO h0 ⟨hS.perm,hS.kind,hS.failed,rfl,λ_ hi=>absurd hi (Nat.not_lt_zero _)⟩ e1 e2 h2 h5 (by omega) h3 h6 λst' hB hk hq=>h st' ⟨hB.perm,hB.kind,hB.failed,?_,hS.hi,hS.nxt.congr λi h8 h9=>hk i (.inr (by omega))⟩ ?_
 . unfold rs;rw[hB.pend,ez,YZ];exact Runs.app.mpr ⟨sa,q1.congr λi h8 h9=>hk i (.inl h9),rfl,(by omega:1<=na+nb),(show sa+(na+nb)=sa+na+nb by omega)▸hq,(show sa+(na+nb)=sa+na+nb by omega)▸h7.congr λi h8 h9=>hk i (.inr h8)⟩
 . have z1:(pendingOf st').toList.length=l.length+(m.length+1):=by rw[hB.pend,ez]; simp
   have z2:(pendingOf st).toList.length=l.length+(m.length+2):=by rw[ep]; simp
   rw[Zu]at z1 z2;omega
theorem wX:∀(f n r:Nat),1<=n->1<=minRun' f n r
 | 0,n,r,h=>show 1<=n+r by omega
 | f+1,n,r,h=>by
  rw[minRun'_succ];split
  . omega
  . exact wX f _ _ (by omega)
theorem SR.push {lo n:Nat} (h:SR κ a₀ lo n st) (hn:1<=n):SR κ a₀ (lo+n) 0 (setPending st ((pendingOf st).push (lo,n,0))):=⟨h.perm,h.kind,h.failed,by
 show Runs κ (arrOf st) 0 (rs ((pendingOf st).push (lo,n,0))) (lo+n);rw[Rk];exact Runs.app.mpr ⟨lo,h.runs,rfl,hn,h.nxt,rfl⟩,h.hi,λi j h1 h2 h3=>by omega⟩
theorem SR.mod {lo n i pw:Nat} (h:SR κ a₀ lo n st):SR κ a₀ lo n (setPending st ((pendingOf st).modify i λx=>(x.1,x.2.1,pw))):=⟨h.perm,h.kind,h.failed,by
 show Runs κ (arrOf st) 0 (rs ((pendingOf st).modify i _)) lo;rw[Ka];exact h.runs,h.hi,h.nxt⟩
theorem Ez {Q:Unit->SortSt->Prop} (hO:κ.OneLt) (h0:KeysOf κ a₀) (hd:DK κ a₀) (hB:SBase a₀ st) (h2:2<=a₀.size)
 (h:∀st',(arrOf st').Perm a₀->failedOf st'=none->SortedToK κ (arrOf st') a₀.size->Q () st'):wpS (model prog w) A E s sortRuns' Q st:=by
 rw[sortRuns'_eq];refine wpS_bind (wpS_get ?_);dsimp only;rw[hB.size];have hmr:=wX a₀.size a₀.size 0 (by omega);generalize minRun' a₀.size a₀.size 0=mr at *;refine wpS_bind (wpS_mono (wpS_forRange
  (I:=λx c st'=>∃lo,c=(none,lo)/\x<=lo/\SR κ a₀ lo 0 st')
  (Q:=λc st'=>c=(none,a₀.size)/\SR κ a₀ a₀.size 0 st') ?step ?fin ⟨0,rfl,YC _,hB.perm,hB.kind,hB.failed,by rw[hB.pend]; exact rfl,by omega,λi j _ _ h5=>by omega⟩) ?post)
 case fin=>
  rintro c st' ⟨lo,rfl,hx,hS⟩;rw[Nat.max_eq_right (Zj _)]at hx;have:=hS.hi;obtain rfl:lo=a₀.size:=by omega
  exact⟨rfl,hS⟩
 case post=>
  rintro c st' ⟨rfl,hS⟩;dsimp only;refine wpS_bind (wpS_mono (wpS_forRange (I:=λx c st'=>c=(none,())/\SR κ a₀ a₀.size 0 st'/\((pendingOf st').size+x<=a₀.size\/(pendingOf st').size<=1)) (Q:=λc st'=>c=(none,())/\SR κ a₀ a₀.size 0 st'/\(pendingOf st').size<=1) ?_ ?_ ⟨rfl,hS,.inl ?_⟩) ?_)
  . rintro x c st' _ _ ⟨rfl,hS,hn⟩;refine wpS_bind (wpS_get ?_);by_cases hc:(pendingOf st').size<=1
    . rw[aaN hc];exact wpS_pure ⟨rfl,hS,hc⟩
    rw[aaO hc];refine wpS_bind (Ke hO h0 hS ?_ λst2 hS2 hz=>?_)
    . split
      all_goals
       split
       all_goals omega
    . simp only[Bool.not_true,Zg,if_false];exact wpS_pure ⟨rfl,hS2,by omega⟩
  . rintro c st' ⟨rfl,hS,hn⟩;rw[Nat.max_eq_right (Zj _)]at hn;exact⟨rfl,hS,by omega⟩
  . have:=hS.runs.le;rw[Kc]at this;omega
  . rintro c st' ⟨rfl,hS,hn⟩;refine wpS_pure (h _ hS.perm hS.failed λi j h3 h4=>?_);have hr:=hS.runs;have hl:=Kc (pendingOf st')
    match hq:rs (pendingOf st'),hr,hl with
    | [],hr,_=>have:0=a₀.size:=hr; omega
    | [r],hr,_=>
     obtain⟨_,_,q1,q2⟩:=hr;have q2:0+r.2=a₀.size:=q2;rw[q2]at q1;exact q1 i j (by omega) h3 h4
    | r::r'::l,_,hl=>rw[Yy,Yy]at hl; omega
 case step=>
  rintro x c st' _ hx ⟨lo,rfl,hxl,hS⟩;dsimp only;by_cases hge:lo ≥ a₀.size
  . rw[aaN hge];have:=hS.hi;obtain rfl:lo=a₀.size:=by omega
    exact wpS_pure ⟨rfl,hS⟩
  rw[aaO hge];have hSB:SB a₀ (pendingOf st') lo (arrOf st') st':=⟨hS.perm,hS.kind,hS.failed,rfl,λ_ _=>rfl⟩;refine wpS_bind (Iv hO h0 hd (by omega) (by omega) hSB λm st2 hB2 hm1 hm2 hs2=>?_);dsimp only;have mk:∀n st3,lo+n<=a₀.size->SB a₀ (pendingOf st') lo (arrOf st') st3->Sg κ (arrOf st3) lo n->SR κ a₀ lo n st3:=λn st3 hn hB hs=>⟨hB.perm,hB.kind,hB.failed,hB.pend▸hS.runs.congr λi _ hi=>hB.low i hi,hn,hs.sq⟩;split
  case' isTrue=>
   refine wpS_bind (wpS_lift (wpAny_rule ⟨rfl,?_⟩));refine wpS_bind (Nj hO h0 (by omega) (by omega) hB2 hs2 λst3 hB3 hs3=>?_);simp only[Bool.not_true,Zg,if_false];have hR:=mk _ _ (by omega) hB3 hs3;have hn:1<=min (a₀.size-lo) mr:=by omega
  case' isFalse=>
   have hR:=mk _ _ (by omega) hB2 hs2;have hn:=hm1
  all_goals
   refine wpS_bind (wpS_get ?_);split
   . refine wpS_bind (wpS_mono (wpS_forRange (I:=λ_ c st'=>c=(none,())/\SR κ a₀ lo _ st') (Q:=λc st'=>c=(none,())/\SR κ a₀ lo _ st') ?_ (λ_ _ q=>q) ⟨rfl,hR⟩) ?_)
     . rintro x c st' _ _ ⟨rfl,hS⟩;refine wpS_bind (wpS_get ?_);by_cases hz:(pendingOf st').size>1
       . rw[aaN hz,getElem?_pos (pendingOf st') ((pendingOf st').size-2) (by omega)];dsimp only;split
         . exact wpS_pure ⟨rfl,hS⟩
         . refine wpS_bind (Ke hO h0 hS (by omega) λst2 hS2 _=>?_);exact wpS_pure ⟨rfl,hS2⟩
       . rw[aaO hz];exact wpS_pure ⟨rfl,hS⟩
     . rintro c st' ⟨rfl,hS⟩;exact wpS_bind (wpS_modify (wpS_bind (wpS_modify (wpS_pure ⟨_,rfl,by omega,hS.mod.push hn⟩))))
   . exact wpS_bind (wpS_modify (wpS_pure ⟨_,rfl,by omega,hR.push hn⟩))
end
section
variable {prog:Program}
theorem Ag {κ:KeyKind} (hO:κ.OneLt) {a:Addr} {vs:List Value} {n:Nat} {P:Fin->Shared->Prop} (ho:s.heap.get? a=some (seqObj "list" vs.toArray n))
 (h0:KeysOf κ (pairsOf vs)) (hkk:∀v₁ v₂ rest,vs=v₁::v₂::rest->keyKind' (v₁::v₂::rest).toArray=pure oneType') (hd:DK κ (pairsOf vs)) (h64:vs.length<100000)
 (h:∀st':SortSt,(arrOf st').Perm (pairsOf vs)->SortedToK κ (arrOf st') (pairsOf vs).size->P (.done (.ret .none)) { s with heap:=sortedHeap s.heap a vs ((arrOf st').map (·.2)) }):
 wpAny (model prog w) A (Builtin.«list.sort» ⟨[.ref a],[]⟩) P E s:=by
 rw[list_sort_plain];have ha:a<s.heap.objs.size:=YS ho;refine aaM (listItems_at ho rfl ?_);refine aaM (listUpdate_at ho rfl ?_);obtain⟨e1,ho1⟩:∃e1,(s.heap.update a (Obj.mapSeq λ_=>#[])).get? a=some (seqObj "list" #[] e1):=⟨_,get?_update_seq ho (λ_=>#[])⟩;refine aaM (seqEpoch_at ho1 rfl ?_);refine aaM (wpAny_newTuple ?_);refine aaM (wpAny_newList ?_);refine wpAny_holding ?_;have ho6:(((s.heap.update a (Obj.mapSeq λ_=>#[])).push (seqObj "tuple" vs.toArray 0)).push (seqObj "list" #[] 0)).get? a=some (seqObj "list" #[] e1):=by rw[Heap.get?_push_ne _ _ _ (by rw[size_push',Heap.size_update]; exact Zb (ZJ ha)),Heap.get?_push_ne _ _ _ (by rw[Heap.size_update]; exact Zb ha)];exact ho1
 show wpAny (model prog w) A _ P E { s with heap:=((s.heap.update a (Obj.mapSeq λ_=>#[])).push (seqObj "tuple" vs.toArray 0)).push (seqObj "list" #[] 0) };dsimp only;have hsz:vs.toArray.size=vs.length:=by simp
 have fin:=h;by_cases h2:vs.toArray.size<2
 . rw[aaN h2,aaN h2];refine aaM (aaP ?_);rw[StateT.run_pure];refine aaM (aaP ?_);dsimp only;refine aaM (seqEpoch_at ho6 rfl ?_);refine aaM (listUpdate_at ho6 rfl ?_ (hsz2:=by rw[Array.size_map]; show (pairsOf vs).size<=_; rw[pairsOf_size,sizeLine_eq]; omega));simp only[bne_self_eq_false,Zg,if_false];refine aaP (fin (SortSt.mk' general' (vs.toArray.zip vs.toArray) #[] 7 none) (Array.Perm.refl _) ?_);intro i j hij hj;have:i=j:=by rw[pairsOf_size]at hj; omega
   subst this; exact KeyOrd.kle_refl _
 . rw[aaO h2,aaO h2];obtain⟨v₁,v₂,rest,rfl⟩:∃v₁ v₂ rest,vs=v₁::v₂::rest:=by
    match vs,hsz,h2 with
    | [],_,h2=>simp at h2
    | [_],_,h2=>simp at h2
    | v₁::v₂::rest,_,_=>exact⟨v₁,v₂,rest,rfl⟩
   rw[hkk _ _ _ rfl];refine aaM (aaP ?_);refine aaM (wpAny_mono (Ez (κ:=κ) hO (a₀:=pairsOf (v₁::v₂::rest)) (st:=SortSt.mk' oneType' ((v₁::v₂::rest).toArray.zip (v₁::v₂::rest).toArray) #[] 7 none)
    (Q:=λ_ st'=>(arrOf st').Perm (pairsOf (v₁::v₂::rest))/\failedOf st'=none/\SortedToK κ (arrOf st') (pairsOf (v₁::v₂::rest)).size)
    h0 hd ⟨Array.Perm.refl _,rfl,rfl,rfl⟩ (by rw[pairsOf_size]; simp) λst' a1 a2 a3=>⟨a1,a2,a3⟩) ?_ λ_ _ e=>e)
   rintro⟨⟨⟩,st'⟩ s' ⟨rfl,hp,hf,hs⟩;dsimp only;refine aaM (seqEpoch_at ho6 rfl ?_);refine aaM (listUpdate_at ho6 rfl ?_ (hsz2:=by refine Zc (Nat.le_of_eq ((Array.size_map ..).trans (hp.size_eq.trans (pairsOf_size _)))) ?_; rw[sizeLine_eq]; omega));rw[hf];simp only[bne_self_eq_false,Zg,if_false];exact aaP (fin st' hp hs)
theorem zF:∀{vs:List Value} {ss:List Str},StrsAre vs ss->vs.map strKind.keyOf=ss.map λx=>some x.cps.toList
 | _,_,.nil=>rfl
 | _,_,.cons x t h=>by rw[YW,YW,zF h]
theorem Rm {vs:List Value} {ss:List Str} (h:StrsAre vs ss) (n:ss.Nodup):DK strKind (pairsOf vs):=by
 unfold DK;rw[pairsOf_toList];have e:(vs.zip vs).map (λp=>strKind.keyOf p.1)=((vs.zip vs).map Prod.fst).map strKind.keyOf:=by rw[ZL]; rfl
 rw[e,List.map_fst_zip (YC _),zF h];refine List.pairwise_map.mpr (List.Pairwise.imp (λ{a b} q e=>q ?_) n);obtain⟨⟨a⟩⟩:=a;obtain⟨⟨b⟩⟩:=b;cases e;rfl
theorem wY {d:Addr} {T:String} {ok:List Value->Prop} {Q:Value->Shared->Prop} (hTm:T = "set" \/ T = "dict") (hT:s.TypeIs (.ref d) T) (hI:qD prog w A.in1.in1 d ok { s with heap:=s.heap.push rD }) (hok:∀vs,ok vs->(∃ss,StrsAre vs ss/\ss.Nodup)/\vs.length<100000)
 (h:∀h' dr tk L out c vs ss ss',ok vs->StrsAre vs ss->StrsAre out.toList ss'->ss'.Perm ss->sortedS ss'=true->(∀b o,s.heap.get? b=some o->h'.get? b=some o)->h'.get? L=some (seqObj "list" out c)->s.heap.objs.size<=L->Q (.ref L) { s with heap:=h',drawn:=dr,toks:=tk }):
 wpAny (model prog w) A (call (.builtin "sorted") [.ref d]) Q E s:=by
 refine Calls.call_function_entry kind_sorted plain_sorted entry_sorted (args_sorted1 _) ?_;unfold Builtin.«sorted»;refine aaM (m:=checkCount "sorted" 1 1 _) (aaP (aaM (Ir hTm hT hI λh1 dr tk vs hv k hz=>?_)));obtain⟨⟨ss,hs,hn⟩,hl⟩:=hok vs hv;refine aaM (wpAny_newList ?_ (by rw[sizeLine_eq]; omega));have g0:(h1.push (seqObj "list" vs.toArray 0)).get? h1.objs.size=some (seqObj "list" vs.toArray 0):=YT _ rfl;refine aaM (wpAny_holding (wpAny_call_entry slot_list_sort ⟨_,g0,rfl⟩ entry_list_sort (Ag strKind_oneLt g0 hs.keysOf (λv₁ v₂ rest e=>keyKind_strs (by rw[<-e]; exact hs)) (Rm hs hn) hl λst' p1 p2=>⟨_,rfl,?_⟩) (args_list_sort _)));obtain⟨ss',r1,r2,r3⟩:=sorted_out_str hs p1 p2;obtain⟨e,he⟩:=sortedHeap_at (out:=(arrOf st').map (·.2)) g0;refine aaP ⟨_,rfl,h _ dr tk _ _ e vs ss ss' hv hs r1 r2 r3 (λb o q=>?_) he ?_⟩
 . exact(sortedHeap_old (Zb (YS (k b o q))) (by rw[size_push']; exact ZJ (YS (k b o q)))).trans (YD _ (k b o q))
 . exact hz
end
section
variable {X:Cx}
def Kf (X:Cx):List V->Hp->VK->Prop:=λxs H Q=>∃a ss,xs=[.ref a]/\H a=some (.ext (BP X.prog X.w a ss))/\ss.length<4000/\∀l ss',H l=none->ss'.Nodup->(∀y,y∈ss' ↔ y∈ss)->sortedS ss'=true->Q (.ref l) (upd H l (.lst (ss'.map V.str)))
theorem vW (hc:X.calm=true):jx X (.builtin "sorted") (Kf X):=by
 intro abQ s Y H xs us Q I r h;obtain⟨a,ss,rfl,hq,hl,q⟩:=h;obtain⟨u,rfl,rx⟩:=vals1 r;cases rx;obtain⟨⟨es,ep,t,S,mem,sz⟩,_⟩:=I.hok a _ hq;refine wY (T := "set") (.inl rfl) ⟨_,S.at_,rfl⟩ (Iu (s:={ s with heap:=s.heap.push rD }) (by simpa using I.ok.hd hc) (S.1.moved λo e=>YD _ e)) (λvs p=>?_) λh' dr tk L out c vs s1 s2 p t1 t2 p2 so kp g hL=>?_
 . have hs:StrsAre vs (vs.map strOf):=strsAre_map vs λv hv=>by obtain⟨e,he,rfl⟩:=Za.mp (p.mem_iff.mp hv);obtain⟨⟨k,h1,_⟩,_⟩:=S.el e he;obtain⟨u,hu⟩:=Value.isStrOf_shape (x:=k) (v:=e.2) h1;exact⟨k,u,hu⟩
   refine⟨⟨_,hs,(zA p hs).nodup_iff.mpr S.nd⟩,?_⟩;have:=p.length_eq;simp only[YH,Zu]at this;omega
 . have pk:=p2.trans (zA p t1);have hl2:s2.length<=4000:=by have:=pk.length_eq;unfold d8 at this;simp only[YH,Zu]at this;omega
   have I1:Inv X abQ Y (upd H L (.lst (s2.map V.str))) { s with heap:=h',toks:=tk }:=I.laid (t':=tk) kp hL (show cU X.prog X.w _ h' L (.lst (s2.map V.str)) from ⟨by rw[YH,sizeLine_eq]; omega,out.toList,c,pO t2,g⟩);exact⟨.ref L,_,I1.drew dr,rfl,q L s2 (I.hok.fresh hL) (pk.nodup_iff.mpr S.nd) (λy=>(pk.mem_iff).trans (mem y)) so⟩
def Gd:List V->Hp->VK->Prop:=λxs H Q=>∃a kvs ss,xs=[.ref a]/\H a=some (.dK kvs)/\kvs.map (·.1)=ss.map Sum.inr/\ss.Nodup/\ss.length<4000/\∀l ss',H l=none->ss'.Perm ss->sortedS ss'=true->Q (.ref l) (upd H l (.lst (ss'.map V.str)))
theorem iu (hc:X.calm=true):jx X (.builtin "sorted") Gd:=by
 intro abQ s Y H xs us Q I r h;obtain⟨a,kvs,ss,rfl,hq,hk,hn,hl,q⟩:=h;obtain⟨u,rfl,rx⟩:=vals1 r;cases rx;obtain⟨z,hd,vs,rr,ob,es,ep,h1,h2,h3,h4⟩:=I.hok a _ hq;have dd:s.heap.DictAt (bT X.prog X.w) a vs ep:=⟨ob,es,h1,h2,h3,h4⟩;have ek:vs.map (·.1)=ss.map Sum.inr:=by rw[<-rr.keys]; exact hk
 have hv:vs.length=ss.length:=by simpa using congrArg List.length ek
 refine wY (T := "dict") (.inr rfl) dd.dictOf.typeIs (vB (s:={ s with heap:=s.heap.push rD }) (by simpa using I.ok.hd hc) hd (dd.at' λo e=>YD _ e) (by rw[sizeLine_eq]; omega)) (λvs' p=>⟨⟨ss,t6 ek p.1 p.2,hn⟩,by omega⟩) λh' dr tk L out c vs' s1 s2 p t1 t2 p2 so kp g hL=>?_;have e1:s1=ss:=by rw[<-t1.strs,(t6 ek p.1 p.2).strs]
 subst e1;have hl2:=p2.length_eq;have I1:Inv X abQ Y (upd H L (.lst (s2.map V.str))) { s with heap:=h',toks:=tk }:=I.laid (t':=tk) kp hL (show cU X.prog X.w _ h' L (.lst (s2.map V.str)) from ⟨by rw[YH,sizeLine_eq]; omega,out.toList,c,pO t2,g⟩);exact⟨.ref L,_,I1.drew dr,rfl,q L s2 (I.hok.fresh hL) p2 so⟩
end
end L2
namespace PL
open PySem PySem.Spec PyProof.Rows L2
inductive PV where
 | non
 | bl (b:Bool)
 | int (i:Int)
 | str (x:Str)
 | tup (ps:List PV)
 | lst (ps:List PV)
 | dk (ks:List Key) (ps:List PV)
 | dt (ks:List (List Key)) (ps:List PV)
 | obj (C:Str) (ks:List Str) (ps:List PV)
 | df (ks:List Key) (ps:List PV)
 | dtf (ks:List (List Key)) (ps:List PV)
 | dx (hk:List b8->Int) (ks:List (List b8)) (ps:List PV)
 | exc (C:Str)
 | ptr (n:Nat)
structure ZG where
 z:Hp
 g:List Addr
def fV (Z Z':ZG):Prop:=cR Z.z Z'.z/\Z.g <+: Z'.g
theorem fV.refl (Z:ZG):fV Z Z:=⟨cR.refl _,Z5 _⟩
theorem fV.trans {Z Z1 Z2:ZG} (a:fV Z Z1) (b:fV Z1 Z2):fV Z Z2:=⟨a.1.trans b.1,a.2.trans b.2⟩
theorem Rn {α:Type} {l r:List α} {n:Nat} {a:α} (h:l <+: r) (e:l[n]?=some a):r[n]?=some a:=by obtain⟨t,rfl⟩:=h;rw[Zv (YL.mp e).1]; exact e
def CN (K:FG) (C:Str) (c:Addr):Prop:=W.nsIn K mainGlobals C=some (some (.ref c))
mutual
def Rep (K:FG) (Z:ZG):PV->V->Prop
 | .non,v=>v=.non
 | .bl b,v=>v=.bl b
 | .int i,v=>v=.int i
 | .str x,v=>v=.str x
 | .tup ps,v=>∃a vs,v=.ref a/\cg K Z.z a vs/\aB K Z ps vs
 | .lst ps,v=>∃a vs,v=.ref a/\bJ K Z.z a vs/\aB K Z ps vs
 | .dk ks ps,v=>∃a kvs,v=.ref a/\Z.z a=some (.dK kvs)/\kvs.map (·.1)=ks/\aB K Z ps (kvs.map (·.2))
 | .dt ks ps,v=>∃a kvs,v=.ref a/\Z.z a=some (.dT kvs)/\kvs.map (·.1)=ks/\aB K Z ps (kvs.map (·.2))
 | .obj C ks ps,v=>∃a c dx fs,v=.ref a/\CN K C c/\Z.z a=some (.ins c dx fs)/\fs.map (·.1)=ks/\aB K Z ps (fs.map (·.2))
 | .df ks ps,v=>∃a o kvs,v=.ref a/\Z.z a=some (.frz o (.dK kvs))/\kvs.map (·.1)=ks/\aB K Z ps (kvs.map (·.2))
 | .dtf ks ps,v=>∃a o kvs,v=.ref a/\Z.z a=some (.frz o (.dT kvs))/\kvs.map (·.1)=ks/\aB K Z ps (kvs.map (·.2))
 | .dx hk ks ps,v=>∃a xs,v=.ref a/\Z.z a=some (.ext (sV hk a xs))/\xs.map (·.1)=ks/\(∀x∈xs,cg K Z.z x.2.1 (x.1.map sU))/\aB K Z ps (xs.map (·.2.2))
 | .exc C,v=>∃a c,v=.ref a/\CN K C c/\Z.z a=some (.ext (Ur a c))
 | .ptr n,v=>∃a,v=.ref a/\Z.g[n]?=some a
def aB (K:FG) (Z:ZG):List PV->List V->Prop
 | [],vs=>vs=[]
 | p::ps,vs=>∃v r,vs=v::r/\Rep K Z p v/\aB K Z ps r
end
theorem bJ.same {K:FG} {Z Z':Hp} {a:Addr} {vs:List V} (s:cR Z Z') (h:bJ K Z a vs):bJ K Z' a vs:=s.seq h
theorem cg.same {K:FG} {Z Z':Hp} {a:Addr} {vs:List V} (s:cR Z Z') (h:cg K Z a vs):cg K Z' a vs:=by
 rcases h with (h | ⟨o,h⟩) | h
 . exact .inl (.inl (s _ _ h))
 . exact .inl (.inr ⟨o,s _ _ h⟩)
 . exact .inr h
mutual
theorem Rep.mono {K:FG} {Z Z':ZG} (s:fV Z Z'):∀{p:PV} {v:V},Rep K Z p v->Rep K Z' p v
 | .non,v,h=>h
 | .bl _,v,h=>h
 | .int _,v,h=>h
 | .str _,v,h=>h
 | .tup ps,v,h=>by unfold Rep at h ⊢;obtain⟨a,vs,e,h1,h2⟩:=h;exact⟨a,vs,e,cg.same s.1 h1,aB.mono s h2⟩
 | .lst ps,v,h=>by unfold Rep at h ⊢;obtain⟨a,vs,e,h1,h2⟩:=h;exact⟨a,vs,e,bJ.same s.1 h1,aB.mono s h2⟩
 | .dk ks ps,v,h=>by unfold Rep at h ⊢;obtain⟨a,kvs,e,h1,h2,h3⟩:=h;exact⟨a,kvs,e,s.1 _ _ h1,h2,aB.mono s h3⟩
 | .dt ks ps,v,h=>by unfold Rep at h ⊢;obtain⟨a,kvs,e,h1,h2,h3⟩:=h;exact⟨a,kvs,e,s.1 _ _ h1,h2,aB.mono s h3⟩
 | .obj C ks ps,v,h=>by unfold Rep at h ⊢;obtain⟨a,c,dx,fs,e,cn,h1,h2,h3⟩:=h;exact⟨a,c,dx,fs,e,cn,s.1 _ _ h1,h2,aB.mono s h3⟩
 | .df ks ps,v,h=>by unfold Rep at h ⊢;obtain⟨a,o,kvs,e,h1,h2,h3⟩:=h;exact⟨a,o,kvs,e,s.1 _ _ h1,h2,aB.mono s h3⟩
 | .dtf ks ps,v,h=>by unfold Rep at h ⊢;obtain⟨a,o,kvs,e,h1,h2,h3⟩:=h;exact⟨a,o,kvs,e,s.1 _ _ h1,h2,aB.mono s h3⟩
 | .dx hk ks ps,v,h=>by unfold Rep at h ⊢;obtain⟨a,xs,e,h1,h2,h4,h3⟩:=h;exact⟨a,xs,e,s.1 _ _ h1,h2,λx hx=>cg.same s.1 (h4 x hx),aB.mono s h3⟩
 | .exc C,v,h=>by unfold Rep at h ⊢;obtain⟨a,c,e,cn,h1⟩:=h;exact⟨a,c,e,cn,s.1 _ _ h1⟩
 | .ptr n,v,h=>by unfold Rep at h ⊢;obtain⟨a,e,h1⟩:=h;exact⟨a,e,Rn s.2 h1⟩
theorem aB.mono {K:FG} {Z Z':ZG} (s:fV Z Z'):∀{ps:List PV} {vs:List V},aB K Z ps vs->aB K Z' ps vs
 | [],vs,h=>by unfold aB at h ⊢; exact h
 | p::ps,vs,h=>by unfold aB at h ⊢;obtain⟨v,r,e,h1,h2⟩:=h;exact⟨v,r,e,Rep.mono s h1,aB.mono s h2⟩
end
section
variable {K:FG} {Z:ZG}
theorem aB.length:∀{ps:List PV} {vs:List V},aB K Z ps vs->vs.length=ps.length
 | [],vs,h=>by unfold aB at h; subst h; rfl
 | p::ps,vs,h=>by unfold aB at h;obtain⟨v,r,rfl,_,h2⟩:=h;simp[aB.length h2]
theorem aB.nil:aB K Z [] []:=by unfold aB; rfl
theorem aB.cons {p:PV} {ps:List PV} {v:V} {vs:List V} (h:Rep K Z p v) (t:aB K Z ps vs):aB K Z (p::ps) (v::vs):=by unfold aB; exact⟨v,vs,rfl,h,t⟩
theorem aB.inv {p:PV} {ps:List PV} {vs:List V} (h:aB K Z (p::ps) vs):∃v r,vs=v::r/\Rep K Z p v/\aB K Z ps r:=by unfold aB at h; exact h
theorem aB.inv0 {vs:List V} (h:aB K Z [] vs):vs=[]:=by unfold aB at h; exact h
theorem aB.append:∀{ps qs:List PV} {vs ws:List V},aB K Z ps vs->aB K Z qs ws->aB K Z (ps++qs) (vs++ws)
 | [],qs,vs,ws,h,g=>by have:=h.inv0; subst this; exact g
 | p::ps,qs,vs,ws,h,g=>by obtain⟨v,r,rfl,h1,h2⟩:=h.inv;exact aB.cons h1 (aB.append h2 g)
theorem aB.get:∀{ps:List PV} {vs:List V} {i:Nat} {p:PV},aB K Z ps vs->ps[i]?=some p->∃v,vs[i]?=some v/\Rep K Z p v
 | [],vs,i,p,h,e=>by simp at e
 | q::ps,vs,0,p,h,e=>by obtain⟨v,r,rfl,h1,h2⟩:=h.inv;simp at e; subst e;exact⟨v,rfl,h1⟩
 | q::ps,vs,i+1,p,h,e=>by obtain⟨v,r,rfl,h1,h2⟩:=h.inv;obtain⟨u,h3,h4⟩:=aB.get (i:=i) (p:=p) h2 (by simpa using e);exact⟨u,by simpa using h3,h4⟩
theorem aB.getV {ps:List PV} {vs:List V} {i:Nat} {v:V} (h:aB K Z ps vs) (e:vs[i]?=some v):∃p,ps[i]?=some p/\Rep K Z p v:=by
 have hi:i<ps.length:=by rw[<-h.length]; exact(YL.mp e).1
 obtain⟨u,h1,h2⟩:=h.get (i:=i) (p:=ps[i]) (Y0 hi);rw[e]at h1; cases h1;exact⟨_,Y0 hi,h2⟩
theorem aB.set {q:PV} {u:V} (hq:Rep K Z q u):∀{ps:List PV} {vs:List V} (i:Nat),aB K Z ps vs->aB K Z (ps.set i q) (vs.set i u)
 | [],vs,i,h=>by have:=h.inv0; subst this; exact h
 | p::ps,vs,0,h=>by obtain⟨v,r,rfl,h1,h2⟩:=h.inv;exact aB.cons hq h2
 | p::ps,vs,i+1,h=>by obtain⟨v,r,rfl,h1,h2⟩:=h.inv;exact aB.cons h1 (aB.set hq i h2)
theorem aB.take:∀{ps:List PV} {vs:List V} (n:Nat),aB K Z ps vs->aB K Z (ps.take n) (vs.take n)
 | [],vs,n,h=>by have:=h.inv0; subst this; simp; exact .nil
 | p::ps,vs,0,h=>by simp; exact .nil
 | p::ps,vs,n+1,h=>by obtain⟨v,r,rfl,h1,h2⟩:=h.inv;exact aB.cons h1 (aB.take n h2)
theorem aB.drop:∀{ps:List PV} {vs:List V} (n:Nat),aB K Z ps vs->aB K Z (ps.drop n) (vs.drop n)
 | [],vs,n,h=>by have:=h.inv0; subst this; simp; exact .nil
 | p::ps,vs,0,h=>h
 | p::ps,vs,n+1,h=>by obtain⟨v,r,rfl,h1,h2⟩:=h.inv;exact aB.drop n h2
end
inductive Lc where
 | sh (p:PV)
 | own (p:PV)
def Lc.pv:Lc->PV
 | .sh p=>p
 | .own p=>p
abbrev Mu:=List (Option PV)
structure Ev where
 vs:List (Option Lc)
 mu:Mu
abbrev Pd:=List (V×Lc)
def oK (K:FG) (Z:ZG) (H:Hp) (a:Addr):PV->Prop
 | .lst ps=>∃vs,H a=some (.lst vs)/\aB K Z ps vs
 | .dk ks ps=>∃kvs,H a=some (.dK kvs)/\kvs.map (·.1)=ks/\aB K Z ps (kvs.map (·.2))
 | .dt ks ps=>∃kvs,H a=some (.dT kvs)/\kvs.map (·.1)=ks/\aB K Z ps (kvs.map (·.2))
 | .dx hk ks ps=>∃xs,H a=some (.ext (sV hk a xs))/\xs.map (·.1)=ks/\(∀x∈xs,cg K Z.z x.2.1 (x.1.map sU))/\aB K Z ps (xs.map (·.2.2))
 | .exc C=>∃c,CN K C c/\H a=some (.ext (Ur a c))
 | .obj C ks ps=>∃c dx fs,CN K C c/\H a=some (.ins c dx fs)/\fs.map (·.1)=ks/\aB K Z ps (fs.map (·.2))
 | _=>False
def VR (K:FG) (H0:Hp) (Z:ZG) (H:Hp) (v:Option V):Option Lc->Prop
 | none=>True
 | some (.sh p)=>∃x,v=some x/\Rep K Z p x
 | some (.own p)=>∃a,v=some (.ref a)/\oK K Z H a p/\Z.z a=none/\H0 a=none
def jj:Option V×Option Lc->Option Addr
 | (some (.ref a),some (.own _))=>some a
 | _=>none
abbrev Sl:=List (Option V×Option Lc)
def Slots (K:FG) (H0:Hp) (Z:ZG) (H:Hp) (L:Sl):Prop:=(∀e∈L,VR K H0 Z H e.1 e.2)/\(L.filterMap jj).Nodup
def cel (g:List Addr) (mu:Mu):Sl:=(g.map λa=>some (V.ref a)).zip (mu.map λo=>o.map Lc.own)
def oM (g:List Addr) (mu:Mu):List Addr:=(cel g mu).filterMap jj
def sl (g:List Addr) (Y:L2.St) (U:Ev) (pd:Pd):Sl:=cel g U.mu++(Y.zip U.vs++pd.map λe=>(some e.1,some e.2))
def Aw:HO->Prop
 | .tup _=>True
 | .frz _ _=>True
 | _=>False
structure iB (H0:Hp) (Z0 Z:ZG) (H:Hp):Prop where
 zh:cR Z.z H
 h0:cR H0 H
 z0:fV Z0 Z
 new:∀b o,Z.z b=some o->Z0.z b=some o\/H0 b=none\/Aw o
def SR (K:FG) (H0:Hp) (Z0:ZG) (Y:L2.St) (H:Hp) (U:Ev) (pd:Pd):Prop:=Y.length=U.vs.length/\∃Z,U.mu.length=Z.g.length/\iB H0 Z0 Z H/\Slots K H0 Z H (sl Z.g Y U pd)
section
variable {K:FG} {H0 H H':Hp} {Z0 Z Z':ZG} {L L':Sl} {Y:L2.St} {U:Ev} {pd:Pd}
theorem Slots.sub (h:Slots K H0 Z H L) (s:List.Sublist L' L):Slots K H0 Z H L':=⟨λe he=>h.1 e (s.subset he),h.2.sublist (s.filterMap jj)⟩
theorem Slots.perm (h:Slots K H0 Z H L) (s:List.Perm L' L):Slots K H0 Z H L':=⟨λe he=>h.1 e (s.subset he),(s.filterMap jj).nodup_iff.mpr h.2⟩
theorem oK.keep {a:Addr} {p:PV} (h:oK K Z H a p) (z:fV Z Z') (e:H' a=H a):oK K Z' H' a p:=by
 cases p with
 | lst ps=>obtain⟨vs,h1,h2⟩:=h; exact⟨vs,by rw[e]; exact h1,h2.mono z⟩
 | dk ks ps=>obtain⟨vs,h1,h2,h3⟩:=h; exact⟨vs,by rw[e]; exact h1,h2,h3.mono z⟩
 | dt ks ps=>obtain⟨vs,h1,h2,h3⟩:=h; exact⟨vs,by rw[e]; exact h1,h2,h3.mono z⟩
 | dx hk ks ps=>obtain⟨vs,h1,h2,h4,h3⟩:=h; exact⟨vs,by rw[e]; exact h1,h2,λx hx=>cg.same z.1 (h4 x hx),h3.mono z⟩
 | exc C=>obtain⟨c,cn,h1⟩:=h; exact⟨c,cn,by rw[e]; exact h1⟩
 | obj C ks ps=>obtain⟨c,dx,fs,cn,h1,h2,h3⟩:=h; exact⟨c,dx,fs,cn,by rw[e]; exact h1,h2,h3.mono z⟩
 | _=>exact h
theorem oK.some {a:Addr} {p:PV} (h:oK K Z H a p):∃o,H a=some o/\¬ Aw o:=by
 cases p with
 | lst ps=>obtain⟨vs,h1,h2⟩:=h; exact⟨_,h1,λz=>z⟩
 | dk ks ps=>obtain⟨vs,h1,h2,h3⟩:=h; exact⟨_,h1,λz=>z⟩
 | dt ks ps=>obtain⟨vs,h1,h2,h3⟩:=h; exact⟨_,h1,λz=>z⟩
 | dx hk ks ps=>obtain⟨vs,h1,h2,h3⟩:=h; exact⟨_,h1,λz=>z⟩
 | exc C=>obtain⟨c,cn,h1⟩:=h; exact⟨_,h1,λz=>z⟩
 | obj C ks ps=>obtain⟨c,dx,fs,cn,h1,h2,h3⟩:=h; exact⟨_,h1,λz=>z⟩
 | _=>exact h.elim
theorem oK.rep {a:Addr} {p:PV} (h:oK K Z H a p) (z:fV Z Z') (e:Z'.z a=H a):Rep K Z' p (.ref a):=by
 cases p with
 | lst ps=>obtain⟨vs,h1,h2⟩:=h; unfold Rep; exact⟨a,vs,rfl,bJ.of (by rw[e]; exact h1),h2.mono z⟩
 | dk ks ps=>obtain⟨vs,h1,h2,h3⟩:=h; unfold Rep; exact⟨a,vs,rfl,by rw[e]; exact h1,h2,h3.mono z⟩
 | dt ks ps=>obtain⟨vs,h1,h2,h3⟩:=h; unfold Rep; exact⟨a,vs,rfl,by rw[e]; exact h1,h2,h3.mono z⟩
 | dx hk ks ps=>obtain⟨vs,h1,h2,h4,h3⟩:=h; unfold Rep; exact⟨a,vs,rfl,by rw[e]; exact h1,h2,λx hx=>cg.same z.1 (h4 x hx),h3.mono z⟩
 | exc C=>obtain⟨c,cn,h1⟩:=h; unfold Rep; exact⟨a,c,rfl,cn,by rw[e]; exact h1⟩
 | obj C ks ps=>obtain⟨c,dx,fs,cn,h1,h2,h3⟩:=h; unfold Rep; exact⟨a,c,dx,fs,rfl,cn,by rw[e]; exact h1,h2,h3.mono z⟩
 | _=>exact h.elim
theorem Slots.step (h:Slots K H0 Z H L) (z:fV Z Z') (hk:∀e∈L,∀a,jj e=some a->H' a=H a/\Z'.z a=none):Slots K H0 Z' H' L:=by
 refine⟨λe he=>?_,h.2⟩;have q:=h.1 e he;obtain⟨v,l⟩:=e;cases l with
 | none=>trivial
 | some l=>
  cases l with
  | sh p=>obtain⟨x,e1,e2⟩:=q; exact⟨x,e1,e2.mono z⟩
  | own p=>
   obtain⟨a,e1,e2,e3,e4⟩:=q;have e1':v=some (.ref a):=e1;subst e1';obtain⟨k1,k2⟩:=hk _ he a rfl;exact⟨a,rfl,e2.keep z k1,k2,e4⟩
theorem gG (h:Slots K H0 Z H L) {e:Option V×Option Lc} (he:e∈L) {a:Addr} (ha:jj e=some a):Z.z a=none/\H0 a=none/\∃o,H a=some o/\¬ Aw o:=by
 obtain⟨v,l⟩:=e;have q:=h.1 _ he;cases l with
 | none=>cases v with
  | none=>cases ha
  | some x=>cases x<;>cases ha
 | some l=>
  cases l with
  | sh p=>cases v with
   | none=>cases ha
   | some x=>cases x<;>cases ha
  | own p=>
   obtain⟨b,e1,e2,e3,e4⟩:=q;have e1':v=some (.ref b):=e1;subst e1';cases ha;exact⟨e3,e4,e2.some⟩
theorem Slots.new (h:Slots K H0 Z H L) (zo:iB H0 Z0 Z H) {a:Addr} {o:HO} {p:PV} (ha:H a=none) (hp:oK K Z (upd H a o) a p):iB H0 Z0 Z (upd H a o)/\Slots K H0 Z (upd H a o) ((some (.ref a),some (.own p))::L):=by
 have hz:Z.z a=none:=zo.zh.free ha;have h0:H0 a=none:=zo.h0.free ha;refine⟨⟨λb u e=>by rw[bM (cT e hz)]; exact zo.zh b u e,λb u e=>by rw[bM (cT e h0)]; exact zo.h0 b u e,zo.z0,zo.new⟩,?_⟩;have hne:∀e∈L,∀b,jj e=some b->b≠a:=λe he b hb=>by obtain⟨_,_,o',h3,_⟩:=gG h he hb;exact cT h3 ha
 have st:=h.step (Z':=Z) (H':=upd H a o) (fV.refl Z) λe he b hb=>⟨bM (hne e he b hb),(gG h he hb).1⟩;refine⟨λe he=>?_,?_⟩
 . rcases YF.mp he with rfl | he
   . exact⟨a,rfl,hp,hz,h0⟩
   . exact st.1 e he
 . show (a::L.filterMap jj).Nodup;refine Zo.mpr ⟨λhm=>?_,st.2⟩;obtain⟨e,he,hb⟩:=Zw.mp hm;exact hne e he a hb rfl
abbrev ZG.put (Z:ZG) (a:Addr) (o:HO):ZG:=⟨upd Z.z a o,Z.g⟩
theorem Slots.newF (h:Slots K H0 Z H L) (zo:iB H0 Z0 Z H) {a:Addr} {o:HO} (ha:H a=none):iB H0 Z0 (Z.put a o) (upd H a o)/\fV Z (Z.put a o)/\Slots K H0 (Z.put a o) (upd H a o) L:=by
 have hz:Z.z a=none:=zo.zh.free ha;have h0:H0 a=none:=zo.h0.free ha;have sz:cR Z.z (upd Z.z a o):=λb u e=>by rw[bM (cT e hz)]; exact e
 have lz:fV Z (Z.put a o):=⟨sz,Z5 _⟩;refine⟨⟨λb u e=>?_,λb u e=>by rw[bM (cT e h0)]; exact zo.h0 b u e,zo.z0.trans lz,λb u e=>?_⟩,lz,?_⟩
 . have e:upd Z.z a o b=some u:=e;unfold upd at e ⊢;split
   . rename_i q; rw[aaN q]at e; exact e
   . rename_i q; rw[aaO q]at e; exact zo.zh b u e
 . have e:upd Z.z a o b=some u:=e;unfold upd at e;split at e
   . rename_i q; rw[q]; exact .inr (.inl h0)
   . exact zo.new b u e
 . refine h.step lz λe he b hb=>?_;obtain⟨h1,h2,o',h3,_⟩:=gG h he hb;have hba:=cT h3 ha;exact⟨bM hba,by show upd Z.z a o b=none; rw[bM hba]; exact h1⟩
theorem Slots.freeze {v:Option V} {p:PV} (h:Slots K H0 Z H ((v,some (.own p))::L)) (zo:iB H0 Z0 Z H):∃Z',fV Z Z'/\Z'.g=Z.g/\iB H0 Z0 Z' H/\Slots K H0 Z' H ((v,some (.sh p))::L):=by
 obtain⟨a,e1,e2,e3,e4⟩:=h.1 _ Yz;have e1':v=some (.ref a):=e1;subst e1';obtain⟨o,ho,_⟩:=e2.some;have sz:cR Z.z (upd Z.z a o):=λb u e=>by rw[bM (cT e e3)]; exact e
 have lz:fV Z (Z.put a o):=⟨sz,Z5 _⟩;have nd:(a::L.filterMap jj).Nodup:=h.2;have hL:Slots K H0 Z H L:=h.sub (YX _ _);refine⟨Z.put a o,lz,rfl,⟨λb u e=>?_,zo.h0,zo.z0.trans lz,λb u e=>?_⟩,λe he=>?_,(Zo.mp nd).2⟩
 . have e:upd Z.z a o b=some u:=e;unfold upd at e;split at e
   . rename_i q; cases e; rw[q]; exact ho
   . exact zo.zh b u e
 . have e:upd Z.z a o b=some u:=e;unfold upd at e;split at e
   . rename_i q; rw[q]; exact .inr (.inl e4)
   . exact zo.new b u e
 . rcases YF.mp he with rfl | he
   . exact⟨.ref a,rfl,e2.rep lz (by show upd Z.z a o a=_; rw[aW,ho])⟩
   . refine(hL.step (Z':=Z.put a o) (H':=H) lz λe' he' b hb=>⟨rfl,?_⟩).1 e he;have:b≠a:=λq=>by rw[q]at hb;exact(Zo.mp nd).1 (Zw.mpr ⟨e',he',hb⟩)
     show upd Z.z a o b=none;rw[bM this];exact(gG hL he' hb).1
theorem Slots.write {a:Addr} {p q:PV} {o:HO} (h:Slots K H0 Z H ((some (.ref a),some (.own p))::L)) (zo:iB H0 Z0 Z H) (hq:oK K Z (upd H a o) a q):iB H0 Z0 Z (upd H a o)/\Slots K H0 Z (upd H a o) ((some (.ref a),some (.own q))::L):=by
 obtain⟨b,e1,e2,e3,e4⟩:=h.1 _ Yz;cases e1;have nd:(a::L.filterMap jj).Nodup:=h.2;have hL:Slots K H0 Z H L:=h.sub (YX _ _);refine⟨⟨λb u e=>by rw[bM (cT e e3)]; exact zo.zh b u e,λb u e=>by rw[bM (cT e e4)]; exact zo.h0 b u e,zo.z0,zo.new⟩,λe he=>?_,nd⟩;rcases YF.mp he with rfl | he
 . exact⟨a,rfl,hq,e3,e4⟩
 . refine(hL.step (Z':=Z) (H':=upd H a o) (fV.refl Z) λe' he' b hb=>⟨bM λq=>?_,(gG hL he' hb).1⟩).1 e he;rw[q]at hb;exact(Zo.mp nd).1 (Zw.mpr ⟨e',he',hb⟩)
end
variable {K:FG} {H0 H:Hp} {Z0:ZG} {Y:L2.St} {U:Ev} {pd:Pd}
theorem t8 {α:Type}:∀{l:List α} {i:Nat} {a:α},l[i]?=some a->∃R,List.Perm l (a::R)/\∀b,List.Perm (l.set i b) (b::R)
 | [],i,a,h=>by simp at h
 | x::r,0,a,h=>by simp at h; subst h;exact⟨r,List.Perm.refl _,λb=>List.Perm.refl _⟩
 | x::r,i+1,a,h=>by obtain⟨R,h1,h2⟩:=t8 (l:=r) (i:=i) (a:=a) (by simpa using h);refine⟨x::R,(h1.cons x).trans (List.Perm.swap _ _ _),λb=>?_⟩;simp only[List.set_cons_succ];exact((h2 b).cons x).trans (List.Perm.swap _ _ _)
theorem yq {α β:Type}:∀(l:List α) (r:List β) (i:Nat) (a:α) (b:β),(l.set i a).zip (r.set i b)=(l.zip r).set i (a,b)
 | [],r,i,a,b=>by simp
 | x::l,[],i,a,b=>by simp
 | x::l,y::r,0,a,b=>by simp
 | x::l,y::r,i+1,a,b=>by simp[yq l r i a b]
theorem zip_get {α β:Type}:∀{l:List α} {r:List β} {i:Nat} {a:α} {b:β},l[i]?=some a->r[i]?=some b->(l.zip r)[i]?=some (a,b)
 | [],r,i,a,b,h,g=>by simp at h
 | x::l,[],i,a,b,h,g=>by simp at g
 | x::l,y::r,0,a,b,h,g=>by simp at h g; simp[h,g]
 | x::l,y::r,i+1,a,b,h,g=>by have:=zip_get (l:=l) (r:=r) (i:=i) (by simpa using h) (by simpa using g);simpa using this
theorem aaW {α:Type}:∀{l:List α} {i:Nat} {a:α},l[i]?=some a->l.set i a=l
 | [],i,a,h=>by simp at h
 | x::r,0,a,h=>by simp at h; subst h; simp
 | x::r,i+1,a,h=>by simp[aaW (l:=r) (i:=i) (a:=a) (by simpa using h)]
def Ev.set (U:Ev) (i:Nat) (x:Option Lc):Ev:=⟨U.vs.set i x,U.mu⟩
section
variable {K:FG} {H0 H H':Hp} {Z0 Z:ZG} {Y:L2.St} {U:Ev} {pd pd':Pd} {v w:V} {l:Lc} {p:PV} {L:Sl} {g:List Addr}
theorem cD:List.Perm (sl g Y U ((v,l)::pd)) ((some v,some l)::sl g Y U pd):=by unfold sl;exact(List.perm_middle.append_left _).trans Zd
theorem SR.top (h:SR K H0 Z0 Y H U ((v,l)::pd)):Y.length=U.vs.length/\∃Z,U.mu.length=Z.g.length/\iB H0 Z0 Z H/\Slots K H0 Z H ((some v,some l)::sl Z.g Y U pd):=
 let ⟨e,Z,hg,z,s⟩:=h
 ⟨e,Z,hg,z,s.perm cD.symm⟩
theorem SR.mk (e:Y.length=U.vs.length) (hg:U.mu.length=Z.g.length) (z:iB H0 Z0 Z H) (s:Slots K H0 Z H ((some v,some l)::sl Z.g Y U pd)):SR K H0 Z0 Y H U ((v,l)::pd):=⟨e,Z,hg,z,s.perm cD⟩
theorem SR.pop (h:SR K H0 Z0 Y H U ((v,l)::pd)):SR K H0 Z0 Y H U pd:=
 let ⟨e,Z,hg,z,s⟩:=h.top
 ⟨e,Z,hg,z,s.sub (YX _ _)⟩
theorem SR.perm (h:SR K H0 Z0 Y H U pd) (q:List.Perm pd' pd):SR K H0 Z0 Y H U pd':=
 let ⟨e,Z,hg,z,s⟩:=h
 ⟨e,Z,hg,z,s.perm (((q.map _).append_left _).append_left _)⟩
theorem SR.swap {l2:Lc} (h:SR K H0 Z0 Y H U ((v,l)::(w,l2)::pd)):SR K H0 Z0 Y H U ((w,l2)::(v,l)::pd):=h.perm (List.Perm.swap _ _ _)
theorem SR.freeze (h:SR K H0 Z0 Y H U ((v,l)::pd)):SR K H0 Z0 Y H U ((v,.sh l.pv)::pd):=by
 cases l with
 | sh p=>exact h
 | own p=>
  obtain⟨e,Z,hg,z,s⟩:=h.top;obtain⟨Z',_,eg,z',s'⟩:=s.freeze z;refine .mk (Z:=Z') e (by rw[eg]; exact hg) z' ?_;rw[eg]; exact s'
theorem SR.sh (h:SR K H0 Z0 Y H U ((v,.sh p)::pd)):Y.length=U.vs.length/\∃Z,U.mu.length=Z.g.length/\iB H0 Z0 Z H/\Rep K Z p v/\Slots K H0 Z H (sl Z.g Y U pd):=by obtain⟨e,Z,hg,z,s⟩:=h.top;obtain⟨x,e1,e2⟩:=s.1 _ Yz;cases e1;exact⟨e,Z,hg,z,e2,s.sub (YX _ _)⟩
theorem SR.rep (h:SR K H0 Z0 Y H U ((v,.sh p)::pd)):∃Z:ZG,cR Z.z H/\Rep K Z p v:=let ⟨_,Z,_,z,r,_⟩:=h.sh; ⟨Z,z.zh,r⟩
theorem SR.repH (h:SR K H0 Z0 Y H U ((v,.sh p)::pd)):∃g,Rep K ⟨H,g⟩ p v:=let ⟨_,Z,_,z,r,_⟩:=h.sh; ⟨Z.g,r.mono (Z':=⟨H,Z.g⟩) ⟨z.zh,Z5 _⟩⟩
theorem Slots.consS (s:Slots K H0 Z H L) (r:Rep K Z p v):Slots K H0 Z H ((some v,some (.sh p))::L):=by
 refine⟨λe he=>?_,?_⟩
 . rcases YF.mp he with rfl | he
   . exact⟨v,rfl,r⟩
   . exact s.1 e he
 . have:jj (some v,some (Lc.sh p))=none:=by cases v<;>rfl
   rw[Zf this];exact s.2
theorem SR.scal (h:SR K H0 Z0 Y H U pd) (r:∀Z,Rep K Z p v):SR K H0 Z0 Y H U ((v,.sh p)::pd):=
 let ⟨e,Z,hg,z,s⟩:=h
 .mk e hg z (s.consS (r Z))
theorem BZ {i:Nat} {o:Option Lc} (el:Y.length=U.vs.length) (e:U.vs[i]?=some o):∃R:Sl,∃x,Y[i]?=some x/\(∀g pd,List.Perm (sl g Y U pd) ((x,o)::(cel g U.mu++(R++pd.map λe=>(some e.1,some e.2)))))/\
 ∀g pd y o',List.Perm (sl g (Y.set i y) (U.set i o') pd) ((y,o')::(cel g U.mu++(R++pd.map λe=>(some e.1,some e.2)))):=by
 have hi:i<Y.length:=by rw[el]; exact(YL.mp e).1
 have hY:Y[i]?=some Y[i]:=Y0 hi;obtain⟨R,h1,h2⟩:=t8 (zip_get hY e);refine⟨R,Y[i],hY,λg pd=>?_,λg pd y o'=>?_⟩
 . unfold sl;exact((h1.append_right _).append_left _).trans Zd
 . unfold sl;show List.Perm (cel g U.mu++((Y.set i y).zip (U.vs.set i o')++_)) _;rw[yq];exact(((h2 _).append_right _).append_left _).trans Zd
theorem Ev.set_mu {i:Nat} {x:Option Lc}:(U.set i x).mu=U.mu:=rfl
theorem Ev.set_len {i:Nat} {x:Option Lc}:(U.set i x).vs.length=U.vs.length:=by show (U.vs.set i x).length=_; rw[aad]
theorem SR.var {i:Nat} (h:SR K H0 Z0 Y H U pd) (e:U.vs[i]?=some (some l)):∃v,Y[i]?=some (some v)/\SR K H0 Z0 Y H (U.set i (some (.sh l.pv))) ((v,.sh l.pv)::pd):=by
 obtain⟨el,Z,hg,z,s⟩:=h;obtain⟨R,x,hY,h1,h2⟩:=BZ el e;have s1:=s.perm (h1 Z.g pd).symm;have el':Y.length=(U.set i (some (.sh l.pv))).vs.length:=by rw[Ev.set_len]; exact el
 have fin:∀{Z':ZG} {v:V},Z'.g=Z.g->iB H0 Z0 Z' H->x=some v->Slots K H0 Z' H ((x,some (.sh l.pv))::(cel Z.g U.mu++(R++pd.map λe=>(some e.1,some e.2))))->Rep K Z' l.pv v->SR K H0 Z0 Y H (U.set i (some (.sh l.pv))) ((v,.sh l.pv)::pd):=
  λ{Z' v} eg z ev s2 r=>by have p2:=h2 Z.g pd x (some (.sh l.pv));rw[aaW hY]at p2;refine .mk (Z:=Z') el' (by rw[eg,Ev.set_mu]; exact hg) z ?_;rw[eg];exact(s2.perm p2).consS r
 cases l with
 | sh p=>
  obtain⟨v,e1,e2⟩:=s1.1 _ Yz;exact⟨v,hY.trans (congrArg some e1),fin rfl z e1 s1 e2⟩
 | own p=>
  obtain⟨Z',sz,eg,z',s'⟩:=s1.freeze z;obtain⟨v,e1,e2⟩:=s'.1 _ Yz;exact⟨v,hY.trans (congrArg some e1),fin eg z' e1 s' e2⟩
theorem SR.store {i:Nat} (h:SR K H0 Z0 Y H U ((v,l)::pd)) (hi:i<U.vs.length):SR K H0 Z0 (Y.set i (some v)) H (U.set i (some l)) pd:=by obtain⟨el,Z,hg,z,s⟩:=h.top;have hU:U.vs[i]?=some U.vs[i]:=Y0 hi;obtain⟨R,x,hY,h1,h2⟩:=BZ el hU;refine⟨by rw[aad,Ev.set_len]; exact el,Z,hg,z,?_⟩;refine(Slots.sub (L:=(some v,some l)::((x,U.vs[i])::(cel Z.g U.mu++(R++pd.map λe=>(some e.1,some e.2))))) (s.perm ((h1 Z.g pd).symm.cons _)) ?_).perm (h2 Z.g pd (some v) (some l));exact(YX _ _).cons_cons _
theorem SR.take {i:Nat} (h:SR K H0 Z0 Y H U pd) (e:U.vs[i]?=some (some l)):∃v,Y[i]?=some (some v)/\SR K H0 Z0 Y H (U.set i none) ((v,l)::pd):=by
 obtain⟨el,Z,hg,z,s⟩:=h;obtain⟨R,x,hY,h1,h2⟩:=BZ el e;have s1:=s.perm (h1 Z.g pd).symm;obtain⟨v,hv⟩:∃v,x=some v:=by
  have q:=s1.1 _ Yz;cases l with
  | sh p=>obtain⟨x,e1,_⟩:=q; exact⟨x,e1⟩
  | own p=>obtain⟨a,e1,_⟩:=q; exact⟨_,e1⟩
 subst hv;refine⟨v,hY,.mk (Z:=Z) (by rw[Ev.set_len]; exact el) hg z ?_⟩;have p2:=h2 Z.g pd (some v) none;rw[aaW hY]at p2;refine Slots.perm ?_ (p2.cons _);have ht:Slots K H0 Z H ((some v,none)::(some v,some l)::(cel Z.g U.mu++(R++pd.map λe=>(some e.1,some e.2)))):=by
  refine⟨λe he=>?_,?_⟩
  . rcases YF.mp he with rfl | he
    . trivial
    . exact s1.1 e he
  . have:jj (some v,none)=none:=by cases v<;>rfl
    rw[Zf this];exact s1.2
 exact ht.perm (List.Perm.swap _ _ _)
theorem SR.put {i:Nat} (h:SR K H0 Z0 Y H U ((v,l)::pd)) (e:Y[i]?=some (some v)):SR K H0 Z0 Y H (U.set i (some l)) pd:=by
 have hi:i<U.vs.length:=by rw[<-h.1]; exact(YL.mp e).1
 have:=h.store hi;rw[aaW e]at this;exact this
end
abbrev EF:=Ev->Option (Lc×Ev)
abbrev TF:=Ev->Option (Bool×Ev)
abbrev AF:=Ev->Option (List Lc×Ev)
inductive Fl where
 | nx (U:Ev)
 | rt (r:Lc) (U:Ev)
 | bk (U:Ev)
 | ct (U:Ev)
abbrev SF:=Ev->Option Fl
def tP (K:FG) (f:EF):TE:=λY H Q=>∃H0 Z0 U pd r U',SR K H0 Z0 Y H U pd/\f U=some (r,U')/\∀v H',SR K H0 Z0 Y H' U' ((v,r)::pd)->Q v H'
def gR (K:FG) (f:TF):TT:=λY H Q=>∃H0 Z0 U pd b U',SR K H0 Z0 Y H U pd/\f U=some (b,U')/\∀H',SR K H0 Z0 Y H' U' pd->Q b H'
def jf (K:FG) (f:AF):TA:=λY H Q=>∃H0 Z0 U pd ls U',SR K H0 Z0 Y H U pd/\f U=some (ls,U')/\∀vs H',vs.length=ls.length->SR K H0 Z0 Y H' U' (vs.zip ls++pd)->Q vs H'
def Ca (K:FG) (H0:Hp) (Z0:ZG) (pd:Pd) (D:Ends):Fl->Prop
 | .nx U'=>∀Y' H',SR K H0 Z0 Y' H' U' pd->D.nx Y' H'
 | .rt r U'=>∀v Y' H',SR K H0 Z0 Y' H' U' ((v,r)::pd)->D.rt v H'
 | .bk U'=>∀Y' H',SR K H0 Z0 Y' H' U' pd->D.bk Y' H'
 | .ct U'=>∀Y' H',SR K H0 Z0 Y' H' U' pd->D.ct Y' H'
def fC (K:FG) (g:SF):TS:=λD Y H=>∃H0 Z0 U pd fl,SR K H0 Z0 Y H U pd/\g U=some fl/\Ca K H0 Z0 pd D fl
section
variable {X:Cx} {e:Expr} {es:List Expr} {st:Stmt} {sts:List Stmt}
theorem PE.imp {t t':TE} (h:PE X e t) (i:∀Y H Q,t' Y H Q->t Y H Q):PE X e t':=λabQ s Y H Q I q=>h abQ s Y H Q I (i Y H Q q)
theorem PT.imp {t t':TT} (h:PT X e t) (i:∀Y H Q,t' Y H Q->t Y H Q):PT X e t':=λabQ s Y H Q I q=>h abQ s Y H Q I (i Y H Q q)
theorem PW.imp {t t':TT} (h:PW X e t) (i:∀Y H Q,t' Y H Q->t Y H Q):PW X e t':=λwh abQ s Y H Q I q=>h wh abQ s Y H Q I (i Y H Q q)
theorem PA.imp {t t':TA} (h:PA X es t) (i:∀Y H Q,t' Y H Q->t Y H Q):PA X es t':=λpos abQ s Y H Q I q=>h pos abQ s Y H Q I (i Y H Q q)
theorem PS.imp {t t':TS} (h:PS X st t) (i:∀D Y H,t' D Y H->t D Y H):PS X st t':=λabQ s Y H D I q=>h abQ s Y H D I (i D Y H q)
theorem ir.imp {t t':TS} (h:ir X sts t) (i:∀D Y H,t' D Y H->t D Y H):ir X sts t':=λabQ s Y H D I q=>h abQ s Y H D I (i D Y H q)
def aa (i:Nat):EF:=λU=>match U.vs[i]? with
 | some (some l)=>some (.sh l.pv,U.set i (some (.sh l.pv)))
 | _=>none
def eC (p:PV):EF:=λU=>some (.sh p,U)
abbrev abO (i:Int):=eC (.int i)
abbrev abP (s:Str):=eC (.str s)
theorem qv {i:Nat} (h:PE X e (mZ i)):PE X e (tP X.K (aa i)):=PE.imp h λY H Q q=>by
 obtain⟨H0,Z0,U,pd,r,U',s,f,k⟩:=q;unfold aa at f;split at f
 . rename_i l e1;cases f;obtain⟨v,h1,h2⟩:=s.var e1;exact⟨v,h1,k v H h2⟩
 . cases f
theorem qc {p:PV} {v:V} (h:PE X e (tC v)) (r:∀Z,Rep X.K Z p v):PE X e (tP X.K (eC p)):=PE.imp h λY H Q q=>by obtain⟨H0,Z0,U,pd,l,U',s,f,k⟩:=q;cases f;exact k v H (s.scal r)
theorem fL {i:Int}:∀Z,Rep K Z (.int i) (.int i):=λZ=>by unfold Rep; rfl
theorem kE {i:Str}:∀Z,Rep K Z (.str i) (.str i):=λZ=>by unfold Rep; rfl
theorem fW {i:Bool}:∀Z,Rep K Z (.bl i) (.bl i):=λZ=>by unfold Rep; rfl
theorem uK:∀Z,Rep K Z .non .non:=λZ=>by unfold Rep; rfl
def kZ (K:FG) (r:R2) (g:PV->PV->Option Lc):Prop:=∀H0 Z0 Y U pd H v w x y l Q,SR K H0 Z0 Y H U ((w,.sh y)::(v,.sh x)::pd)->g x y=some l->(∀u H',SR K H0 Z0 Y H' U ((u,l)::pd)->Q u H')->r v w H Q
def aq (g:PV->PV->Option Lc) (fa fb:EF):EF:=λU=>(fa U).bind λx=>(fb x.2).bind λy=>(g x.1.pv y.1.pv).map λl=>(l,y.2)
theorem Nm {g:PV->PV->Option Lc} {fa fb:EF} {U U':Ev} {l:Lc} (h:aq g fa fb U=some (l,U')):∃x U1 y,fa U=some (x,U1)/\fb U1=some (y,U')/\g x.pv y.pv=some l:=by
 unfold aq at h;cases h1:fa U with
 | none=>rw[h1]at h; cases h
 | some x=>
  rw[h1,YB]at h;cases h2:fb x.2 with
  | none=>rw[h2]at h; cases h
  | some y=>
   rw[h2,YB]at h;cases h3:g x.1.pv y.1.pv with
   | none=>rw[h3]at h; cases h
   | some z=>
    rw[h3]at h;cases h;exact⟨x.1,x.2,y.1,rfl,h2,h3⟩
theorem Cd {r:R2} {g:PV->PV->Option Lc} (hs:kZ X.K r g) {fa fb:EF}:∀Y H Q,tP X.K (aq g fa fb) Y H Q->JB r (tP X.K fa) (tP X.K fb) Y H Q:=λY H Q q=>by obtain⟨H0,Z0,U,pd,l,U',s,f,k⟩:=q;obtain⟨x,U1,y,h1,h2,h3⟩:=Nm f;refine⟨H0,Z0,U,pd,x,U1,s,h1,λv H1 s1=>⟨H0,Z0,U1,_,y,U',s1,h2,λw H2 s2=>?_⟩⟩;exact hs H0 Z0 Y U' pd H2 v w x.pv y.pv l Q (s2.freeze.swap.freeze.swap) h3 λu H' s3=>k u H' s3
theorem aQ {op:Operator} {a b:Expr} {pos:Pos} {r:R2} {g:PV->PV->Option Lc} {fa fb:EF} (ho:gP X (binaryOp op) r) (hs:kZ X.K r g) (ha:PE X a (tP X.K fa)) (hb:PE X b (tP X.K fb)):PE X (.BinOp a op b pos) (tP X.K (aq g fa fb)):=
 PE.imp (Wj ho ha hb) (Cd hs)
theorem UJ {op:CmpOp} {a b:Expr} {pos:Pos} {r:R2} {g:PV->PV->Option Lc} {fa fb:EF} (ho:gP X (compareOp op) r) (hs:kZ X.K r g) (ha:PE X a (tP X.K fa)) (hb:PE X b (tP X.K fb)) (hm:behindInMarks op b=false):PE X (.Compare a [op] [b] pos) (tP X.K (aq g fa fb)):=
 PE.imp (Qz ho ha hb hm) (Cd hs)
def vC (C:Int->Int->Bool) (g:Int->Int->PV):PV->PV->Option Lc
 | .int i,.int j=>if C i j=true then some (.sh (g i j)) else none
 | _,_=>none
theorem Ce {C:Int->Int->Bool} {g:Int->Int->PV} {x y:PV} {l:Lc} (h:vC C g x y=some l):∃i j,x=.int i/\y=.int j/\C i j=true/\l=.sh (g i j):=by
 cases x with
 | int i=>
  cases y with
  | int j=>
   have h':(if C i j=true then some (Lc.sh (g i j)) else none)=some l:=h;split at h'
   . rename_i c; cases h'; exact⟨i,j,rfl,rfl,c,rfl⟩
   . cases h'
  | _=>cases h
 | _=>cases h
theorem bC {Z:ZG} {i:Int} {v:V} (h:Rep K Z (.int i) v):v=.int i:=by unfold Rep at h; exact h
theorem bW {Z:ZG} {i:Str} {v:V} (h:Rep K Z (.str i) v):v=.str i:=by unfold Rep at h; exact h
theorem gU {Z:ZG} {i:Bool} {v:V} (h:Rep K Z (.bl i) v):v=.bl i:=by unfold Rep at h; exact h
theorem iZ {Z:ZG} {v:V} (h:Rep K Z .non v):v=.non:=by unfold Rep at h; exact h
theorem Ax {C':Int->Int->Prop} {C:Int->Int->Bool} {gV:Int->Int->V} {g:Int->Int->PV} (hc:∀i j,C i j=true->C' i j) (hg:∀i j Z,Rep K Z (g i j) (gV i j)):kZ K (rI C' gV) (vC C g):=by intro H0 Z0 Y U pd H v w x y l Q s e k;obtain⟨i,j,rfl,rfl,c,rfl⟩:=Ce e;obtain⟨_,rw'⟩:=s.repH;obtain⟨_,rv'⟩:=s.pop.repH;have hw:=bC rw';have hv:=bC rv';exact⟨i,j,hv,hw,hc i j c,k _ H (s.pop.pop.scal (hg i j))⟩
theorem Cg {gV:Int->Int->V} {g:Int->Int->PV} (hg:∀i j Z,Rep K Z (g i j) (gV i j)):kZ K (tK gV) (vC (λ_ _=>true) g):=by intro H0 Z0 Y U pd H v w x y l Q s e k;obtain⟨i,j,rfl,rfl,c,rfl⟩:=Ce e;obtain⟨_,rw'⟩:=s.repH;obtain⟨_,rv'⟩:=s.pop.repH;exact⟨i,j,bC rv',bC rw',k _ H (s.pop.pop.scal (hg i j))⟩
end
section
variable {X:Cx}
section
variable {K:FG} {H0 H H':Hp} {Z0 Z:ZG} {Y:L2.St} {U:Ev} {pd pd':Pd} {v w:V} {l:Lc} {p:PV} {g:List Addr}
theorem SR.newO (h:SR K H0 Z0 Y H U pd) {a:Addr} {o:HO} (ha:H a=none) (hp:∀Z,iB H0 Z0 Z H->Slots K H0 Z H (sl Z.g Y U pd)->oK K Z (upd H a o) a p):SR K H0 Z0 Y (upd H a o) U ((.ref a,.own p)::pd):=by obtain⟨e,Z,hg,z,s⟩:=h;obtain⟨z',s'⟩:=s.new z ha (hp Z z s);exact .mk e hg z' s'
theorem Ay {α:Type} (A B C:List α):List.Perm (A++(B++C)) (B++(A++C)):=by rw[<-YQ A B C,<-YQ B A C];exact List.perm_append_comm.append_right _
theorem Kg {pe:Pd}:List.Perm (sl g Y U (pe++pd)) (pe.map (λe=>((some e.1:Option V),(some e.2:Option Lc)))++sl g Y U pd):=by unfold sl;rw[YZ];exact((Ay _ _ _).append_left _).trans (Ay _ _ _)
theorem SR.freezeAll:∀{vs:List V} {ls:List Lc} {pd:Pd},SR K H0 Z0 Y H U (vs.zip ls++pd)->SR K H0 Z0 Y H U (vs.zip (ls.map λl=>.sh l.pv)++pd)
 | [],ls,pd,h=>by simpa using h
 | v::vs,[],pd,h=>by simpa using h
 | v::vs,l::ls,pd,h=>by have h1:SR K H0 Z0 Y H U ((v,l)::(vs.zip ls++pd)):=h;have h2:=h1.freeze.perm (pd':=vs.zip ls++((v,.sh l.pv)::pd)) Zd;have h3:=SR.freezeAll h2;exact h3.perm (pd':=(v,.sh l.pv)::(vs.zip (ls.map λl=>.sh l.pv)++pd)) Zd.symm
theorem Slots.repl {L:Sl}:∀{vs:List V} {ps:List PV},vs.length=ps.length->Slots K H0 Z H ((vs.zip (ps.map λp=>Lc.sh p)).map (λe=>(some e.1,some e.2))++L)->aB K Z ps vs
 | [],[],_,_=>.nil
 | v::vs,p::ps,e,h=>by have h1:Slots K H0 Z H ((some v,some (.sh p))::((vs.zip (ps.map λp=>Lc.sh p)).map (λe=>(some e.1,some e.2))++L)):=h;obtain⟨x,e1,e2⟩:=h1.1 _ Yz;cases e1;exact aB.cons e2 (Slots.repl (by simpa using e) (h1.sub (YX _ _)))
 | [],p::ps,e,_=>by simp at e
 | v::vs,[],e,_=>by simp at e
theorem SR.repl {vs:List V} {ls:List Lc} (h:SR K H0 Z0 Y H U (vs.zip ls++pd)) (e:vs.length=ls.length):Y.length=U.vs.length/\∃Z,U.mu.length=Z.g.length/\iB H0 Z0 Z H/\aB K Z (ls.map Lc.pv) vs/\Slots K H0 Z H (sl Z.g Y U pd):=by
 obtain⟨el,Z,hg,z,s⟩:=h.freezeAll;have hm:(ls.map λl=>Lc.sh l.pv)=(ls.map Lc.pv).map λp=>Lc.sh p:=by rw[ZL]; rfl
 rw[hm]at s;have pm:List.Perm (sl Z.g Y U (vs.zip ((ls.map Lc.pv).map λp=>Lc.sh p)++pd)) ((vs.zip ((ls.map Lc.pv).map λp=>Lc.sh p)).map (λe=>(some e.1,some e.2))++sl Z.g Y U pd):=Kg;have s':=s.perm pm.symm;exact⟨el,Z,hg,z,Slots.repl (by simpa using e) s',s'.sub (ZQ _ _)⟩
end
theorem vD {α:Type} {l:List α} (h:l.length=1):∃a,l=[a]:=List.length_eq_one_iff.mp h
theorem ln2 {α:Type} {l:List α} (h:l.length=2):∃a b,l=[a,b]:=by
 cases l with
 | nil=>cases h
 | cons a l=>obtain⟨b,rfl⟩:=vD (aaK h); exact⟨a,b,rfl⟩
theorem W6 {α:Type} {l:List α} (h:l.length=3):∃a b c,l=[a,b,c]:=by
 cases l with
 | nil=>cases h
 | cons a l=>obtain⟨b,c,rfl⟩:=ln2 (aaK h); exact⟨a,b,c,rfl⟩
theorem Ye {α:Type} {l:List α} (h:l.length=4):∃a b c d,l=[a,b,c,d]:=by
 cases l with
 | nil=>cases h
 | cons a l=>obtain⟨b,c,d,rfl⟩:=W6 (aaK h); exact⟨a,b,c,d,rfl⟩
theorem Yg {α:Type} {l:List α} (h:l.length=5):∃a b c d e,l=[a,b,c,d,e]:=by
 cases l with
 | nil=>cases h
 | cons a l=>obtain⟨b,c,d,e,rfl⟩:=Ye (aaK h); exact⟨a,b,c,d,e,rfl⟩
def ao:AF:=λU=>some ([],U)
def aj (f:EF) (g:AF):AF:=λU=>(f U).bind λx=>(g x.2).map λy=>(x.1::y.1,y.2)
theorem az:PA X [] (jf X.K ao):=PA.imp wK λY H Q q=>by obtain⟨H0,Z0,U,pd,l,U',s,f,k⟩:=q;cases f;exact k [] H rfl s
theorem ak {e:Expr} {es:List Expr} {f:EF} {g:AF} (ha:PE X e (tP X.K f)) (hr:PA X es (jf X.K g)) (hs:starEach (e::es) X.env=(false,eval e X.env)::starEach es X.env:=by rfl):PA X (e::es) (jf X.K (aj f g)):=PA.imp (qC ha hr hs) λY H Q q=>by
 obtain⟨H0,Z0,U,pd,l,U',s,h,k⟩:=q;unfold aj at h;cases h1:f U with
 | none=>rw[h1]at h; cases h
 | some x=>
  rw[h1,YB]at h;cases h2:g x.2 with
  | none=>rw[h2]at h; cases h
  | some y=>
   rw[h2]at h;cases h;refine⟨H0,Z0,U,pd,x.1,x.2,s,h1,λv H1 s1=>⟨H0,Z0,x.2,_,y.1,y.2,s1,h2,λvs H2 e2 s2=>?_⟩⟩;refine k (v::vs) H2 (by simp[e2]) (s2.perm (pd':=(v,x.1)::(vs.zip y.1++pd)) Zd.symm)
def cM (g:AF):EF:=λU=>(g U).bind λy=>if y.1.length<=1000 then some (.own (.lst (y.1.map Lc.pv)),y.2) else none
def aZ (g:AF):EF:=λU=>(g U).bind λy=>if y.1.length<=1000 then some (.sh (.tup (y.1.map Lc.pv)),y.2) else none
theorem small {n:Nat} (h:n<=100000):n<=sizeLine:=by rw[sizeLine_eq]; omega
theorem gj {es:List Expr} {g:AF} {pos:Pos} (h:PA X es (jf X.K g)):PE X (.List es pos) (tP X.K (cM g)):=PE.imp (T4 h) λY H Q q=>by
 obtain⟨H0,Z0,U,pd,l,U',s,f,k⟩:=q;unfold cM at f;cases h2:g U with
 | none=>rw[h2]at f; cases f
 | some y=>
  rw[h2,YB]at f;split at f
  . rename_i hl;cases f;refine⟨H0,Z0,U,pd,y.1,y.2,s,h2,λvs H2 e2 s2=>⟨small (by omega),λp hp=>k _ _ ?_⟩⟩;obtain⟨el,Z,hg,z,r,sl'⟩:=s2.repl e2;obtain⟨z',s'⟩:=sl'.new (o:=.lst vs) (p:=.lst (y.1.map Lc.pv)) z hp ⟨vs,aW,r⟩;exact .mk el hg z' s'
  . cases f
theorem dJ {es:List Expr} {g:AF} {x1} {pos:Pos} (h:PA X es (jf X.K g)):PE X (.Tuple es x1 pos) (tP X.K (aZ g)):=PE.imp (T3 h) λY H Q q=>by
 obtain⟨H0,Z0,U,pd,l,U',s,f,k⟩:=q;unfold aZ at f;cases h2:g U with
 | none=>rw[h2]at f; cases f
 | some y=>
  rw[h2,YB]at f;split at f
  . rename_i hl;cases f;refine⟨H0,Z0,U,pd,y.1,y.2,s,h2,λvs H2 e2 s2=>⟨small (by omega),λp hp=>k _ _ ?_⟩⟩;obtain⟨el,Z,hg,z,r,sl'⟩:=s2.repl e2;obtain⟨z',sz,s'⟩:=sl'.newF (o:=.tup vs) z hp;refine .mk (Z:=Z.put p (.tup vs)) el hg z' (s'.consS ?_);unfold Rep;exact⟨p,vs,rfl,cg.of aW,r.mono sz⟩
  . cases f
def tT (f:EF) (tr:PV->Option Bool):TF:=λU=>(f U).bind λx=>(tr x.1.pv).map λb=>(b,x.2)
def Iz:PV->Option Bool
 | .non=>some false
 | .bl b=>some b
 | .int i=>some (i != 0)
 | .str x=>if x.length<=100000 then some ((x.length:Int) != 0) else none
 | .tup ps=>some (!ps.isEmpty)
 | .lst ps=>some (!ps.isEmpty)
 | .dk ks ps=>some (!ps.isEmpty)
 | _=>none
theorem XH {H:Hp} {g:List Addr} {p:PV} {v:V} {b:Bool} (r:Rep K ⟨H,g⟩ p v) (h:Iz p=some b):Ml K v H b:=by
 cases p with
 | non=>have:=iZ r; subst this; cases h; exact rfl
 | bl c=>have:=gU r; subst this; cases h; exact rfl
 | int i=>have:=bC r; subst this; cases h; exact rfl
 | str x=>
  have:=bW r; subst this;have h:(if x.length<=100000 then some ((x.length:Int) != 0) else none)=some b:=h;split at h
  . rename_i hl; cases h; exact⟨small hl,rfl⟩
  . cases h
 | tup ps=>
  unfold Rep at r;obtain⟨a,vs,rfl,h1,h2⟩:=r;cases h;refine .inr (.inl ⟨vs,h1,?_⟩);have:=h2.length;cases ps<;>cases vs<;>simp at this<;>rfl
 | lst ps=>
  unfold Rep at r;obtain⟨a,vs,rfl,h1,h2⟩:=r;cases h;refine .inl ⟨vs,h1,?_⟩;have:=h2.length;cases ps<;>cases vs<;>simp at this<;>rfl
 | dk ks ps=>
  unfold Rep at r;obtain⟨a,kvs,rfl,h1,h3,h2⟩:=r;cases h;refine .inr (.inr ⟨kvs,h1,?_⟩);have:=h2.length;cases ps<;>cases kvs<;>simp at this<;>rfl
 | _=>cases h
theorem Ge {f:EF} {tr:PV->Option Bool} {U U':Ev} {b:Bool} (h:tT f tr U=some (b,U')):∃x,f U=some (x,U')/\tr x.pv=some b:=by
 unfold tT at h;cases h1:f U with
 | none=>rw[h1]at h; cases h
 | some x=>
  rw[h1,YB]at h;cases h2:tr x.1.pv with
  | none=>rw[h2]at h; cases h
  | some y=>rw[h2]at h; cases h; exact⟨x.1,rfl,h2⟩
theorem UL {a:Expr} {f:EF} (ha:PE X a (tP X.K f)) (he:∀whole,isTrue a X.env whole=(do let v <-whole; standAt a.pos; holding [v] (truthy v))):PT X a (gR X.K (tT f Iz)):=PT.imp (Mm ha he) λY H Q q=>by obtain⟨H0,Z0,U,pd,b,U',s,f',k⟩:=q;obtain⟨x,h1,h2⟩:=Ge f';refine⟨H0,Z0,U,pd,x,U',s,h1,λv H1 s1=>⟨b,XH s1.freeze.repH.choose_spec h2,k H1 s1.pop⟩⟩
def aY:PV->Option Bool
 | .bl b=>some b
 | _=>none
theorem Wv {a:Expr} {f:EF} (ha:PT X a (Pj (tP X.K f))):PT X a (gR X.K (tT f aY)):=PT.imp ha λY H Q q=>by
 obtain⟨H0,Z0,U,pd,b,U',s,f',k⟩:=q;obtain⟨x,h1,h2⟩:=Ge f';refine⟨H0,Z0,U,pd,x,U',s,h1,λv H1 s1=>⟨b,?_,k H1 s1.pop⟩⟩;obtain⟨_,r⟩:=s1.freeze.repH;cases e:x.pv with
 | bl c=>rw[e]at h2 r; cases h2; exact gU r
 | _=>rw[e]at h2; cases h2
theorem cu {op:CmpOp} {a b:Expr} {pos:Pos} {r:R2} {g:PV->PV->Option Lc} {fa fb:EF} (ho:gP X (compareOp op) r) (hs:kZ X.K r g) (ha:PE X a (tP X.K fa)) (hb:PE X b (tP X.K fb)) (hm:behindInMarks op b=false):PT X (.Compare a [op] [b] pos) (gR X.K (tT (aq g fa fb) aY)):=
 Wv (PT.imp (QB ho ha hb hm) λY H Q q=>Cd hs Y H _ q)
def cL (f g:TF):TF:=λU=>(f U).bind λx=>if x.1=true then g x.2 else some (false,x.2)
def qm (f g:TF):TF:=λU=>(f U).bind λx=>if x.1=true then some (true,x.2) else g x.2
def uL (f:TF):TF:=λU=>(f U).map λx=>(!x.1,x.2)
theorem Ro {f g:TF}:∀Y H Q,gR X.K (cL f g) Y H Q->S7 (gR X.K f) (gR X.K g) Y H Q:=λY H Q q=>by
 obtain⟨H0,Z0,U,pd,b,U',s,h,k⟩:=q;unfold cL at h;cases h1:f U with
 | none=>rw[h1]at h; cases h
 | some x=>
  rw[h1,YB]at h;refine⟨H0,Z0,U,pd,x.1,x.2,s,h1,λH1 s1=>?_⟩;dsimp only;split
  . rename_i c; rw[aaN c]at h; exact⟨H0,Z0,x.2,pd,b,U',s1,h,k⟩
  . rename_i c; rw[aaO c]at h; cases h; exact k H1 s1
theorem UT {f g:TF}:∀Y H Q,gR X.K (qm f g) Y H Q->W4 (gR X.K f) (gR X.K g) Y H Q:=λY H Q q=>by
 obtain⟨H0,Z0,U,pd,b,U',s,h,k⟩:=q;unfold qm at h;cases h1:f U with
 | none=>rw[h1]at h; cases h
 | some x=>
  rw[h1,YB]at h;refine⟨H0,Z0,U,pd,x.1,x.2,s,h1,λH1 s1=>?_⟩;dsimp only;split
  . rename_i c; rw[aaN c]at h; cases h; exact k H1 s1
  . rename_i c; rw[aaO c]at h; exact⟨H0,Z0,x.2,pd,b,U',s1,h,k⟩
theorem jA {a:Expr} {f:TF} {pos:Pos} (ha:PT X a (gR X.K f)):PW X (.BoolOp .And [a] pos) (gR X.K f):=Qv ha
theorem Kh {a:Expr} {f:TF} {pos:Pos} (ha:PT X a (gR X.K f)):PW X (.BoolOp .Or [a] pos) (gR X.K f):=S8 ha
theorem lg {a b:Expr} {rest:List Expr} {f g:TF} {pos:Pos} (ha:PT X a (gR X.K f)) (hb:PW X (.BoolOp .And (b::rest) pos) (gR X.K g)):PW X (.BoolOp .And (a::b::rest) pos) (gR X.K (cL f g)):=PW.imp (S9 ha hb) Ro
theorem Pz {a b:Expr} {rest:List Expr} {f g:TF} {pos:Pos} (ha:PT X a (gR X.K f)) (hb:PW X (.BoolOp .Or (b::rest) pos) (gR X.K g)):PW X (.BoolOp .Or (a::b::rest) pos) (gR X.K (qm f g)):=PW.imp (We ha hb) UT
theorem UV {a:Expr} {f:TF} {pos:Pos} (ha:PT X a (gR X.K f)):PT X (.UnaryOp .Not a pos) (gR X.K (uL f)):=PT.imp (Tc ha) λY H Q q=>by
 obtain⟨H0,Z0,U,pd,b,U',s,h,k⟩:=q;unfold uL at h;cases h1:f U with
 | none=>rw[h1]at h; cases h
 | some x=>
  rw[h1]at h;cases h;exact⟨H0,Z0,U,pd,x.1,x.2,s,h1,λH1 s1=>k H1 s1⟩
def IK (f g:EF):EF:=λU=>(f U).bind λx=>match x.1.pv with
 | .bl true=>g x.2
 | .bl false=>some (.sh (.bl false),x.2)
 | _=>none
theorem XJ {op} {a:Expr} {f:EF} {pos:Pos} (h:PE X a (tP X.K f)):PE X (.BoolOp op [a] pos) (tP X.K f):=Td h
theorem XM {a b:Expr} {rest:List Expr} {f g:EF} {pos:Pos} (ha:PE X a (tP X.K f)) (hb:PE X (.BoolOp .And (b::rest) pos) (tP X.K g)):PE X (.BoolOp .And (a::b::rest) pos) (tP X.K (IK f g)):=PE.imp (Te ha hb) λY H Q q=>by
 obtain⟨H0,Z0,U,pd,b,U',s,h,k⟩:=q;unfold IK at h;cases h1:f U with
 | none=>rw[h1]at h; cases h
 | some x=>
  rw[h1,YB]at h;refine⟨H0,Z0,U,pd,x.1,x.2,s,h1,λv H1 s1=>?_⟩;obtain⟨_,r⟩:=s1.freeze.repH;split at h
  . rename_i e;rw[e]at r;refine⟨true,gU r,?_⟩;rw[aaN rfl];exact⟨H0,Z0,x.2,pd,b,U',s1.pop,h,k⟩
  . rename_i e;rw[e]at r;refine⟨false,gU r,?_⟩;rw[aaO ZD];cases h;exact k _ H1 (s1.pop.scal fW)
  . cases h
def cN:SF:=λU=>some (.nx U)
def aD (f g:SF):SF:=λU=>(f U).bind λx=>match x with
 | .nx U'=>g U'
 | y=>some y
theorem cQ:ir X [] (fC X.K cN):=ir.imp Qw λD Y H q=>by obtain⟨H0,Z0,U,pd,fl,s,h,k⟩:=q;cases h;exact k Y H s
theorem au {st:Stmt} {rest:List Stmt} {f g:SF} (h1:PS X st (fC X.K f)) (h2:ir X rest (fC X.K g)):ir X (st::rest) (fC X.K (aD f g)):=ir.imp (Mf h1 h2) λD Y H q=>by
 obtain⟨H0,Z0,U,pd,fl,s,h,k⟩:=q;unfold aD at h;cases e:f U with
 | none=>rw[e]at h; cases h
 | some x=>
  rw[e,YB]at h;refine⟨H0,Z0,U,pd,x,s,e,?_⟩;cases x with
  | nx U'=>exact λY' H' s'=>⟨H0,Z0,U',pd,fl,s',h,k⟩
  | rt r U'=>cases h; exact k
  | bk U'=>cases h; exact k
  | ct U'=>cases h; exact k
theorem aH {st:Stmt} {f:SF} (h1:PS X st (fC X.K f)):ir X [st] (fC X.K f):=Qx h1
def lZ (f:EF):SF:=λU=>(f U).map λx=>.nx x.2
theorem aaV {α β:Type} {o:Option α} {f:α->β} {b:β} (h:o.map f=some b):∃a,o=some a/\f a=b:=by
 cases o with
 | none=>cases h
 | some a=>exact⟨a,rfl,Y5 h⟩
theorem aaU {α β:Type} {o:Option α} {f:α->Option β} {b:β} (h:o.bind f=some b):∃a,o=some a/\f a=some b:=by
 cases o with
 | none=>cases h
 | some a=>exact⟨a,rfl,h⟩
theorem yr {e:Expr} {pos:Pos} {f:EF} (he:PE X e (tP X.K f)) (hs:swapsWith e none pos.line X.env=pure false:=by rfl):PS X (.Expr e pos) (fC X.K (lZ f)):=PS.imp (lK he hs) λD Y H q=>by obtain⟨H0,Z0,U,pd,fl,s,h,k⟩:=q;obtain⟨x,h1,rfl⟩:=aaV h;exact⟨H0,Z0,U,pd,x.1,x.2,s,h1,λv H' s'=>k Y H' s'.pop⟩
def dU (f:EF):SF:=λU=>(f U).map λx=>.rt x.1 x.2
theorem cW {e:Expr} {pos:Pos} {f:EF} (he:PE X e (tP X.K f)):PS X (.Return (some e) pos) (fC X.K (dU f)):=PS.imp (Jv he) λD Y H q=>by obtain⟨H0,Z0,U,pd,fl,s,h,k⟩:=q;obtain⟨x,h1,rfl⟩:=aaV h;exact⟨H0,Z0,U,pd,x.1,x.2,s,h1,λv H' s'=>k v Y H' s'⟩
def lq (i:Nat):SF:=λU=>match U.vs[i]? with
 | some (some l)=>some (.rt l (U.set i none))
 | _=>none
theorem jB {i:Nat} {e:Expr} {pos:Pos} (he:PE X e (mZ i)):PS X (.Return (some e) pos) (fC X.K (lq i)):=PS.imp (Jv he) λD Y H q=>by
 obtain⟨H0,Z0,U,pd,fl,s,h,k⟩:=q;unfold lq at h;split at h
 . rename_i l e1;cases h;obtain⟨v,h1,h2⟩:=s.take e1;exact⟨v,h1,k v Y H h2⟩
 . cases h
def dj (c:TF) (f g:SF):SF:=λU=>(c U).bind λx=>if x.1=true then f x.2 else g x.2
theorem d9 {c:Expr} {a b:List Stmt} {fc:TF} {f g:SF} {pos:Pos} (hc:PT X c (gR X.K fc)) (ha:ir X a (fC X.K f)) (hb:ir X b (fC X.K g)):PS X (.If c a b pos) (fC X.K (dj fc f g)):=PS.imp (Wh hc ha hb) λD Y H q=>by
 obtain⟨H0,Z0,U,pd,fl,s,h,k⟩:=q;obtain⟨x,h1,h2⟩:=aaU h;refine⟨H0,Z0,U,pd,x.1,x.2,s,h1,λH1 s1=>?_⟩;dsimp only;split
 . rename_i c; rw[aaN c]at h2; exact⟨H0,Z0,x.2,pd,fl,s1,h2,k⟩
 . rename_i c; rw[aaO c]at h2; exact⟨H0,Z0,x.2,pd,fl,s1,h2,k⟩
def aP (i:Nat) (f:EF):SF:=λU=>(f U).bind λx=>if i<x.2.vs.length then some (.nx (x.2.set i (some x.1))) else none
theorem Gf {i:Nat} {f:EF} {t:TS} (h:∀D Y H,(tP X.K f Y H λv H1=>D.nx (Y.set i (some v)) H1)->t D Y H):∀D Y H,fC X.K (aP i f) D Y H->t D Y H:=λD Y H q=>by
 obtain⟨H0,Z0,U,pd,fl,s,h',k⟩:=q;obtain⟨x,h1,h2⟩:=aaU h';split at h2
 . rename_i hl;cases h2;exact h D Y H ⟨H0,Z0,U,pd,x.1,x.2,s,h1,λv H1 s1=>k _ _ (s1.store hl)⟩
 . cases h2
theorem w5 {i:Nat} {x:Str} {e:Expr} {pos pos':Pos} {f:EF} (hN:X.N.Nodup) (hi:X.N[i]?=some x) (hx:L2.Loc X.env.scope x) (he:PE X e (tP X.K f)) (hs:swapsWith e (some (.Name x pos')) pos.line X.env=pure false:=by rfl) (hf:X.fn x=true\/X.env.scope.names.lookup x=some .local:=by first | exact .inl rfl | exact .inr rfl | assumption):
 PS X (.Assign [.Name x pos'] e pos) (fC X.K (aP i f)):=PS.imp (Th hN hi hx he hs hf) (Gf λD Y H q=>q)
abbrev GF:=List PV->Mu->Option (Lc×Mu)
def jk (H:Hp) (g:List Addr):Hp:=λb=>if b∈g then none else H b
theorem Rp {H:Hp} {g:List Addr} {b:Addr} {o:HO} (h:jk H g b=some o):H b=some o/\b∉g:=by
 unfold jk at h;split at h
 . cases h
 . rename_i q; exact⟨h,q⟩
theorem Np {H:Hp} {g:List Addr} {b:Addr} (h:b∈g):jk H g b=none:=by unfold jk; rw[aaN h]
theorem Ci {H:Hp} {g:List Addr} {b:Addr} (h:b∉g):jk H g b=H b:=by unfold jk; rw[aaO h]
def UW (K:FG) (H:Hp) (Z:ZG) (g:List Addr) (H':Hp) (mu':Mu) (v:V) (r:Lc):Prop:=∃Z',mu'.length=Z'.g.length/\iB (jk H g) Z Z' H'/\Slots K (jk H g) Z' H' ((some v,some r)::cel Z'.g mu')
def di (K:FG) (n:Nat) (g:GF):Sp:=λvs H Q _=>∃(Z:ZG) (ps:List PV) (mu:Mu) (r:Lc) (mu':Mu),vs.length=n/\mu.length=Z.g.length/\cR Z.z H/\aB K Z ps vs/\Slots K (jk H (oM Z.g mu)) Z H (cel Z.g mu)/\g ps mu=some (r,mu')/\∀v H',UW K H Z (oM Z.g mu) H' mu' v r->Q v H'
def bh (g:GF) (a:AF):EF:=λU=>(a U).bind λy=>(g (y.1.map Lc.pv) y.2.mu).map λr=>(r.1,⟨y.2.vs,r.2⟩)
theorem Rq {g:List Addr} {mu:Mu} {e:Option V×Option Lc} (he:e∈cel g mu):∃a,e.1=some (.ref a)/\(e.2=none\/∃p,e.2=some (.own p)):=by
 unfold cel at he;obtain⟨v,l⟩:=e;obtain⟨h1,h2⟩:=aai he;obtain⟨a,_,e1⟩:=Za.mp h1;obtain⟨o,_,e2⟩:=Za.mp h2;refine⟨a,e1.symm,?_⟩;cases o with
 | none=>exact .inl e2.symm
 | some p=>exact .inr ⟨p,e2.symm⟩
theorem Slots.cells {Z:ZG} (hg:U.mu.length=Z.g.length) (s:Slots K H0 Z H (sl Z.g Y U pd)):Slots K (jk H (oM Z.g U.mu)) Z H (cel Z.g U.mu):=by
 have s1:Slots K H0 Z H (cel Z.g U.mu):=s.sub (Zk _ _);refine⟨λe he=>?_,s1.2⟩;obtain⟨a,h1,h2⟩:=Rq he;obtain⟨v,l⟩:=e;have h1':v=some (.ref a):=h1;subst h1';rcases h2 with h2 | ⟨p,h2⟩
 . have h2':l=none:=h2;subst h2'; trivial
 . have h2':l=some (.own p):=h2;subst h2';obtain⟨b,e1,e2,e3,e4⟩:=s1.1 _ he;cases e1;exact⟨a,rfl,e2,e3,Np (Zw.mpr ⟨_,he,rfl⟩)⟩
theorem SR.called {H0 H H':Hp} {Z0 Z:ZG} {v:V} {r:Lc} {mu':Mu} (el:Y.length=U.vs.length) (hg:U.mu.length=Z.g.length) (z:iB H0 Z0 Z H) (s:Slots K H0 Z H (sl Z.g Y U pd)) (h:UW K H Z (oM Z.g U.mu) H' mu' v r):SR K H0 Z0 Y H' ⟨U.vs,mu'⟩ ((v,r)::pd):=by
 obtain⟨Z',hg',z',q⟩:=h;have s1:Slots K H0 Z H (cel Z.g U.mu):=s.sub (Zk _ _);have s0:Slots K H0 Z H (Y.zip U.vs++pd.map λe=>(some e.1,some e.2)):=s.sub (ZQ _ _);have nd:(oM Z.g U.mu++(Y.zip U.vs++pd.map λe=>(some e.1,some e.2)).filterMap jj).Nodup:=by have:=s.2;unfold sl at this;rw[List.filterMap_append]at this;exact this
 have hc0:∀a∈oM Z.g U.mu,H0 a=none:=λa ha=>by obtain⟨e,he,hb⟩:=Zw.mp ha;exact(gG s1 he hb).2.1
 have h0:cR H0 (jk H (oM Z.g U.mu)):=λb o e=>by rw[Ci λhm=>by rw[hc0 b hm]at e; cases e];exact z.h0 b o e
 have z2:iB H0 Z0 Z' H':=⟨z'.zh,h0.trans z'.h0,z.z0.trans z'.z0,λb o e=>by
  rcases z'.new b o e with e | e | e
  . exact z.new b o e
  . exact .inr (.inl (h0.free e))
  . exact .inr (.inr e)⟩
 have nog:∀e∈(Y.zip U.vs++pd.map λe=>((some e.1:Option V),(some e.2:Option Lc))),∀a,jj e=some a->a∉oM Z.g U.mu/\jk H (oM Z.g U.mu) a=H a:=λe he a ha=>by have hn:a∉oM Z.g U.mu:=λhm=>(aaj.mp nd).2.2 a hm a (Zw.mpr ⟨e,he,ha⟩) rfl;exact⟨hn,Ci hn⟩
 have hk:∀e∈(Y.zip U.vs++pd.map λe=>((some e.1:Option V),(some e.2:Option Lc))),∀a,jj e=some a->H' a=H a/\Z'.z a=none:=λe he a ha=>by
  obtain⟨h1,h2,o,h3,h4⟩:=gG s0 he ha;obtain⟨hn,ho⟩:=nog e he a ha;have h5:=z'.h0 a o (by rw[ho]; exact h3);refine⟨by rw[h3]; exact h5,?_⟩;cases q:Z'.z a with
  | none=>rfl
  | some u=>
   rcases z'.new a u q with e | e | e
   . rw[h1]at e; cases e
   . rw[ho,h3]at e; cases e
   . have:=z'.zh a u q;rw[h5]at this; cases this;exact(h4 e).elim
 have s2:=s0.step z'.z0 hk;have q':Slots K H0 Z' H' ((some v,some r)::cel Z'.g mu'):=by
  refine⟨λe he=>?_,q.2⟩;have:=q.1 e he;obtain⟨w,l⟩:=e;cases l with
  | none=>trivial
  | some l=>
   cases l with
   | sh p=>exact this
   | own p=>obtain⟨a,e1,e2,e3,e4⟩:=this; exact⟨a,e1,e2,e3,h0.free e4⟩
 have dis:∀e∈((some v,some r)::cel Z'.g mu'),∀a,jj e=some a->∀e'∈(Y.zip U.vs++pd.map λe=>((some e.1:Option V),(some e.2:Option Lc))),jj e'≠some a:=λe he a ha e' he' ha'=>by obtain⟨_,h2,_⟩:=gG q he ha;obtain⟨_,_,o,h3,_⟩:=gG s0 he' ha';rw[(nog e' he' a ha').2,h3]at h2; cases h2
 refine .mk (Z:=Z') el hg' z2 ?_;refine⟨λe he=>?_,?_⟩
 . rcases YF.mp he with rfl | he
   . exact q'.1 _ Yz
   . rcases Y6_.mp he with he | he
     . exact q'.1 _ (YG _ he)
     . exact s2.1 e he
 . show (((some v,some r)::(cel Z'.g mu'++(Y.zip U.vs++pd.map λe=>(some e.1,some e.2)))).filterMap jj).Nodup;rw[<-Z6,List.filterMap_append];refine aaj.mpr ⟨q'.2,s2.2,λa ha b hb e=>?_⟩;subst e;obtain⟨e1,he1,h1⟩:=Zw.mp ha;obtain⟨e2,he2,h2⟩:=Zw.mp hb;exact dis e1 he1 a h1 e2 he2 h2
theorem Nq {n:Nat} {g:GF} {a:AF} {E:XK}:∀Y H Q,(∃H0 Z0 U pd r U',SR X.K H0 Z0 Y H U pd/\bh g a U=some (r,U')/\(∀ls U1,a U=some (ls,U1)->ls.length=n)/\∀v H',SR X.K H0 Z0 Y H' U' ((v,r)::pd)->Q v H')->Pk (di X.K n g) [] E (jf X.K a) Y H Q:=λY H Q q=>by
 obtain⟨H0,Z0,U,pd,r,U',s,h,hn,k⟩:=q;obtain⟨y,h1,h2⟩:=aaU h;obtain⟨r',h3,h4⟩:=aaV h2;cases h4;refine⟨H0,Z0,U,pd,y.1,y.2,s,h1,λvs H2 e2 s2=>?_⟩;obtain⟨el,Z,hg,z,rl,sl'⟩:=s2.repl e2;refine⟨Z,y.1.map Lc.pv,y.2.mu,_,_,?_,hg,z.zh,?_,sl'.cells hg,h3,λv H' rr=>k v H' (SR.called el hg z sl' rr)⟩
 . rw[Y7_,e2]; exact hn _ _ h1
 . rw[Y7_]; exact rl
end
section
variable {P:Program} {w:World} {K:FG} {mg:Str->Option Value} {base:Heap}
def eE (K:FG) (mg:Str->Option Value) (x:Str) (st:Stmt) (ps:List Str):Prop:=∃f fd,pJ K x x st f fd/\mg x=some (.ref f)/\Binds K fd ps []
def Cj (b:Bool) (P:Program) (w:World) (K:FG) (mg:Str->Option Value) (base:Heap) (x:Str) (k:Nat) (ps:List Str) (sp:Sp):Prop:=∃f fd,nJ b P w K mg base lG k f fd ps sp/\mg x=some (.ref f)/\W.keepIn K (.ref f)=true/\Binds K fd ps []
abbrev cX:=Cj true
def env0 (n:Nat) (ps:List PV) (mu:Mu):Ev:=⟨ps.map (λp=>some (Lc.sh p))++List.replicate (n-ps.length) none,mu⟩
def eF (n:Nat) (g:SF):GF:=λps mu=>(g (env0 n ps mu)).bind λx=>match x with
 | .rt r U=>some (r,U.mu)
 | .nx U=>some (.sh .non,U.mu)
 | _=>none
theorem Gg {Z:ZG} {L:Sl} (s:Slots K H0 Z H L):∀{ps:List PV} {vs:List V},aB K Z ps vs->Slots K H0 Z H ((vs.map some).zip (ps.map λp=>some (Lc.sh p))++L)
 | [],vs,h=>by have:=h.inv0; subst this; simpa using s
 | p::ps,vs,h=>by obtain⟨v,r,rfl,h1,h2⟩:=h.inv;exact(Gg s h2).consS h1
theorem nones {Z:ZG} {L:Sl} (s:Slots K H0 Z H L):∀n:Nat,Slots K H0 Z H ((List.replicate n (none:Option V)).zip (List.replicate n (none:Option Lc))++L)
 | 0=>s
 | n+1=>by
  rw[List.replicate_succ,List.replicate_succ,ZS,Z6];have ih:=nones s n;refine⟨λe he=>?_,?_⟩
  . rcases YF.mp he with rfl | he
    . trivial
    . exact ih.1 e he
  . rw[Zf rfl]; exact ih.2
theorem vX {H:Hp} {Z:ZG} {ps:List PV} {mu:Mu} {vs:List V} {N:List Str} (hg:mu.length=Z.g.length) (z:cR Z.z H) (r:aB K Z ps vs) (c:Slots K (jk H (oM Z.g mu)) Z H (cel Z.g mu)):SR K (jk H (oM Z.g mu)) Z (L2.start N vs) H (env0 N.length ps mu) []:=by have hl:=r.length;refine⟨by simp[L2.start,env0,hl],Z,hg,⟨z,λb o e=>(Rp e).1,fV.refl _,λb o e=>.inl e⟩,?_⟩;unfold sl L2.start env0;rw[aae (by simp[hl]),aao,Y7_,hl];exact(Gg (nones c _) r).perm ((ZC).trans (by rw[YQ]))
theorem eE.ok {b:Bool} {x:Str} {st:Stmt} {N ps:List Str} {k:Nat} {g:GF} (F:eE K mg x st ps) (S:bO N ps (aJ st))
 (h:∀(f:Addr) (cdv:Value) (A:Around) (outer:List PySem.Env) (s:Shared) (H:Hp) (E:XK),dO b k (A.deeper (envOfC x (aJ st) s.heap.objs.size f cdv))->
   ∃g':SF,(∀a mu,g a mu=eF N.length g' a mu)/\ir (pH b lG P w K mg base N x (aJ st) f cdv A outer s H E).nox (gM st) (fC K g')):Cj b P w K mg base x (k+1) ps (di K ps.length g):=by
 obtain⟨f,fd,F,hm,hb⟩:=F;refine⟨f,fd,F.ok S (λvs H Q E q=>?_) (λcdv A outer s H vs Q E hr q=>?_),hm,F.kp,hb⟩
 . obtain⟨Z,qs,mu,r,mu',e,_⟩:=q; exact e
 . obtain⟨g',eg,b⟩:=h f cdv A outer s H E hr;obtain⟨Z,qs,mu,r,mu',e,hg,z,rl,c,hr',kk⟩:=q;rw[eg]at hr';obtain⟨fl,h1,h2⟩:=aaU hr';refine⟨_,b,jk H (oM Z.g mu),Z,_,[],fl,vX hg z rl c,h1,?_⟩;cases fl with
   | rt r' U'=>
    cases h2;intro v Y' H' s';obtain⟨el,Z',hg',z',s''⟩:=s'.top;refine kk v H' ⟨Z',hg',z',s''.sub ?_⟩;exact(Zk _ _).cons_cons _
   | nx U'=>
    cases h2;intro Y' H' s';obtain⟨el,Z',hg',z',s''⟩:=s';exact kk .non H' ⟨Z',hg',z',(s''.sub (Zk _ _)).consS (uK _)⟩
   | bk U'=>cases h2
   | ct U'=>cases h2
end
section
variable {X:Cx}
theorem cY {b:Bool} {x:Str} {k:Nat} {ps:List Str} {g:GF} {e:Expr} {es:List Expr} {a:AF} {p pos:Pos} (D:Cj b X.prog X.w X.K X.mg X.base x k ps (di X.K ps.length g)) (hr:dO b k X.A) (hg:Gl X x)
 (ha:PA X (e::es) (jf X.K a)) (hn:∀U ls U1,a U=some (ls,U1)->ls.length=ps.length) (hdb:(x==("__debug__" : Str))=false:=by decide) (he:starEach (e::es) X.env=(false,eval e X.env)::starEach es X.env:=by rfl) (hpl:(backTo pos (starEach es X.env)).any (·.1)=false:=by rfl):PE X (.Call (.Name x p) (e::es) [] pos) (tP X.K (bh g a)):=by
 obtain⟨f,fd,F,hm,hk,hb⟩:=D;refine PE.imp (QG (E:=E0) F hr hg hm hk hb .nil Aq ha hdb he hpl) λY H Q q=>?_;obtain⟨H0,Z0,U,pd,r,U',s,h,kk⟩:=q;exact Nq Y H Q ⟨H0,Z0,U,pd,r,U',s,h,λls U1 e=>hn U ls U1 e,kk⟩
section
variable {K:FG} {H0 H H':Hp} {Z0 Z:ZG} {Y:L2.St} {U:Ev} {pd pd':Pd} {v w:V} {l:Lc} {p:PV}
theorem SR.sub (h:SR K H0 Z0 Y H U pd') (q:List.Sublist pd pd'):SR K H0 Z0 Y H U pd:=
 let ⟨e,Z,hg,z,s⟩:=h
 ⟨e,Z,hg,z,s.sub ((aak _).append ((aak _).append (q.map _)))⟩
theorem SR.part {u:V} {q:PV} (h:SR K H0 Z0 Y H U ((v,.sh p)::pd)) (k:∀Z:ZG,cR Z.z H->Rep K Z p v->Rep K Z q u):SR K H0 Z0 Y H U ((u,.sh q)::(v,.sh p)::pd):=by obtain⟨e,Z,hg,z,s⟩:=h.top;obtain⟨x,e1,e2⟩:=s.1 _ Yz;cases e1;exact .mk e hg z ((s.perm cD).consS (k Z z.zh e2))
end
abbrev BF:=PV->Ev->Option Ev
def GS (K:FG) (g:TG) (b:BF):Prop:=∀H0 Z0 Y H U pd v p U' Q,SR K H0 Z0 Y H U ((v,.sh p)::pd)->b p U=some U'->(∀Y',SR K H0 Z0 Y' H U' pd->Q Y' H)->g v Y H Q
abbrev Ck:=List PV->Ev->Option Ev
def PB (K:FG) (g:sI) (b:Ck):Prop:=∀H0 Z0 Y H U pd vs ps U' Q,vs.length=ps.length->SR K H0 Z0 Y H U (vs.zip (ps.map Lc.sh)++pd)->b ps U=some U'->(∀Y',SR K H0 Z0 Y' H U' pd->Q Y' H)->g vs Y H Q
def aA (i:Nat):BF:=λp U=>if i<U.vs.length then some (U.set i (some (.sh p))) else none
theorem aL {i:Nat}:GS K (Ao i) (aA i):=by
 intro H0 Z0 Y H U pd v p U' Q s h k;unfold aA at h;split at h
 . rename_i hl; cases h; exact k _ (s.store hl)
 . cases h
def eG:Ck:=λps U=>match ps with
 | []=>some U
 | _=>none
def aM (b:BF) (bs:Ck):Ck:=λps U=>match ps with
 | p::r=>(b p U).bind λU1=>bs r U1
 | []=>none
theorem iC:PB K Tf eG:=by
 intro H0 Z0 Y H U pd vs ps U' Q e s h k;cases ps with
 | nil=>
  cases h;have:vs=[]:=aaA (by simpa using e);subst this;exact⟨rfl,k Y s⟩
 | cons p r=>cases h
theorem bw {t:TG} {u:sI} {b:BF} {bs:Ck} (h1:GS K t b) (h2:PB K u bs):PB K (O7 t u) (aM b bs):=by
 intro H0 Z0 Y H U pd vs ps U' Q e s h k;cases ps with
 | nil=>cases h
 | cons p r=>
  cases vs with
  | nil=>simp at e
  | cons v ws=>
   obtain⟨U1,e1,e2⟩:=aaU h;refine⟨v,ws,rfl,h1 H0 Z0 Y H U _ v p U1 _ s e1 λY' s'=>?_⟩;exact h2 H0 Z0 Y' H U1 pd ws r U' Q (by simpa using e) s' e2 k
theorem Kl {Z:ZG} {L:Sl} (s:Slots K H0 Z H L):∀{ps:List PV} {vs:List V},aB K Z ps vs->Slots K H0 Z H ((vs.zip (ps.map Lc.sh)).map (λe=>(some e.1,some e.2))++L)
 | [],vs,h=>by have:=h.inv0; subst this; simpa using s
 | p::ps,vs,h=>by obtain⟨v,r,rfl,h1,h2⟩:=h.inv;exact(Kl s h2).consS h1
theorem SR.items {Z0 Z:ZG} {vs:List V} {ps:List PV} (e:Y.length=U.vs.length) (hg:U.mu.length=Z.g.length) (z:iB H0 Z0 Z H) (r:aB K Z ps vs) (s:Slots K H0 Z H (sl Z.g Y U pd)):SR K H0 Z0 Y H U (vs.zip (ps.map Lc.sh)++pd):=
 ⟨e,Z,hg,z,(Kl s r).perm Kg⟩
def Nr (f:EF) (b:BF):SF:=λU=>(f U).bind λx=>(b x.1.pv x.2).map Fl.nx
theorem U0 {tg e:Expr} {f:EF} {g:TG} {b:BF} {pos:Pos} (he:PE X e (tP X.K f)) (hg:PG X tg g) (hb:GS X.K g b) (hs:swapsWithSole [tg] e pos.line X.env=pure false:=by rfl) (hw:swappedStores [tg] e X.env=pure none:=by rfl)
 (h1:(assignEach [tg] X.env).map (·.2)=[assign tg X.env]:=by rfl):PS X (.Assign [tg] e pos) (fC X.K (Nr f b)):=PS.imp (kW he hg hs hw h1) λD Y H q=>by
 obtain⟨H0,Z0,U,pd,fl,s,h,k⟩:=q;obtain⟨x,h1,h2⟩:=aaU h;obtain⟨U',h3,rfl⟩:=aaV h2;exact⟨H0,Z0,U,pd,x.1,x.2,s,h1,λv H1 s1=>hb H0 Z0 Y H1 x.2 pd v _ U' D.nx s1.freeze h3 λY' s'=>k Y' H1 s'⟩
def Yv (i j:Nat) (a:AF):SF:=λU=>(a U).bind λy=>match y.1 with
 | [l,m]=>if i<y.2.vs.length/\j<y.2.vs.length then some (.nx ((y.2.set i (some l)).set j (some m))) else none
 | _=>none
def nA (K:FG) (H0:Hp) (Z0:ZG) (pd:Pd) (J:It) (xs:List PV):Prop:=∀Y H U (i:Nat),SR K H0 Z0 Y H U pd->
 (∀x,xs[i]?=some x->J.go i H/\∀v H',J.yld i H v H'->SR K H0 Z0 Y H' U ((v,.sh x)::pd))/\(i=xs.length->J.stop i H)
abbrev IF:=Ev->Option (List PV×Ev)
def Cm (K:FG) (f:IF):TI:=λY H R=>∃H0 Z0 U pd xs U',SR K H0 Z0 Y H U pd/\f U=some (xs,U')/\∀J H' pd',SR K H0 Z0 Y H' U' pd'->nA K H0 Z0 pd' J xs->List.Sublist pd pd'->R J H'
theorem PI.imp {tg iter:Expr} {t t':TI} (h:PI X tg iter t) (i:∀Y H R,t' Y H R->t Y H R):PI X tg iter t':=λabQ s Y H R I q=>h abQ s Y H R I (i Y H R q)
def fX (f:EF) (g:PV->Option (List PV)):IF:=λU=>(f U).bind λx=>(g x.1.pv).map λxs=>(xs,x.2)
theorem Km {H0:Hp} {a:Addr} {ps:List PV}:nA K H0 Z0 ((.ref a,.sh (.lst ps))::pd) (O8 K a) ps:=by intro Y H U i s;obtain⟨Z,z,r⟩:=s.rep;unfold Rep at r;obtain⟨b,vs,e,h1,h2⟩:=r;cases e;have hq:=bJ.same z h1;refine⟨λx hx=>?_,λhl=>⟨vs,hq,by rw[h2.length]; omega⟩⟩;obtain⟨v,hv,rv⟩:=h2.get hx;refine⟨⟨vs,v,hq,hv⟩,λv' H' y=>?_⟩;obtain⟨e',y⟩:=y;subst e';have:=y vs hq;rw[hv]at this; cases this;refine s.part λZ' z' r'=>?_;unfold Rep at r';obtain⟨b',vs',e',h1',h2'⟩:=r';cases e';have:vs'[i]?=some v:=y vs' (bJ.same z' h1');obtain⟨p',hp',rp'⟩:=h2'.getV this;rw[hx]at hp'; cases hp';exact rp'
theorem Nt {H0:Hp} {a:Addr} {ps:List PV}:nA K H0 Z0 ((.ref a,.sh (.tup ps))::pd) (O9 K a) ps:=by intro Y H U i s;obtain⟨Z,z,r⟩:=s.rep;unfold Rep at r;obtain⟨b,vs,e,h1,h2⟩:=r;cases e;have hq:=cg.same z h1;refine⟨λx hx=>?_,λhl=>⟨vs,hq,by rw[h2.length]; omega⟩⟩;obtain⟨v,hv,rv⟩:=h2.get hx;refine⟨⟨vs,v,hq,hv⟩,λv' H' y=>?_⟩;obtain⟨e',y⟩:=y;subst e';have:=y vs hq;rw[hv]at this; cases this;refine s.part λZ' z' r'=>?_;unfold Rep at r';obtain⟨b',vs',e',h1',h2'⟩:=r';cases e';have:vs'[i]?=some v:=y vs' (cg.same z' h1');obtain⟨p',hp',rp'⟩:=h2'.getV this;rw[hx]at hp'; cases hp';exact rp'
def gH (lo:Int) (n:Nat):List PV:=(List.range n).map λi=>.int (lo+(i:Nat))
def f9 (a:AF):IF:=λU=>(a U).bind λy=>match y.1.map Lc.pv with
 | [.int j]=>if -(2 ^ 62)<=j/\j<2 ^ 62 then some (gH 0 j.toNat,y.2) else none
 | _=>none
theorem Nu {H0:Hp} {lo:Int} {n:Nat}:nA K H0 Z0 pd (Pa lo n) (gH lo n):=by
 intro Y H U i s;refine⟨λx hx=>?_,λhl=>?_⟩
 . have hi:i<n:=by have:=(YL.mp hx).1;simpa [gH] using this
   refine⟨hi,λv H' y=>?_⟩;obtain⟨rfl,rfl⟩:=y;unfold gH at hx;rw[Y4,List.getElem?_range hi]at hx;cases hx;exact s.scal fL
 . show n<=i;simp[gH]at hl;omega
theorem SR.ints {vs:List V} {ls:List Lc} {ns:List Int} (s:SR K H0 Z0 Y H U (vs.zip ls++pd)) (e:vs.length=ls.length) (h:ls.map Lc.pv=ns.map PV.int):vs=ns.map V.int/\SR K H0 Z0 Y H U pd:=by
 obtain⟨el,Z,hg,z,r,sl'⟩:=s.repl e;refine⟨?_,el,Z,hg,z,sl'⟩;rw[h]at r;clear h e s sl';induction ns generalizing vs with
 | nil=>exact r.inv0
 | cons n ns ih=>
  obtain⟨v,w,rfl,h1,h2⟩:=r.inv;rw[bC h1,ih h2];rfl
theorem jl {tg a:Expr} {f:AF} {p pos:Pos} (hg:Gl X "range") (hm:X.mg "range" = none) (ha:PA X [a] (jf X.K f)) (hs:starEach [a] X.env=[(false,eval a X.env)]:=by rfl):PI X tg (.Call (.Name "range" p) [a] [] pos) (Cm X.K (f9 f)):=PI.imp (Jy hg hm ha hs) λY H R q=>by
 obtain⟨H0,Z0,U,pd,xs,U',s,h,k⟩:=q;obtain⟨y,h1,h2⟩:=aaU h;refine⟨H0,Z0,U,pd,y.1,y.2,s,h1,λvs H1 e1 s1=>?_⟩;split at h2
 . rename_i j e;split at h2
   . rename_i hj;cases h2;obtain⟨rfl,s2⟩:=s1.ints (ns:=[j]) e1 e;exact⟨j,rfl,hj.1,hj.2,k _ _ _ s2 Nu (aak _)⟩
   . cases h2
 . cases h2
def cP (b:BF) (body:SF):List PV->SF
 | [],U=>some (.nx U)
 | x::xs,U=>(b x U).bind λU1=>(body U1).bind λfl=>match fl with
  | .nx U'=>cP b body xs U'
  | .ct U'=>cP b body xs U'
  | .bk U'=>some (.nx U')
  | .rt r U'=>some (.rt r U')
def eQ (f:IF) (b:BF) (body:SF):SF:=λU=>(f U).bind λy=>cP b body y.1 y.2
theorem yt {P:Prop} (h:∀G:Prop,(P->G)->G):P:=h P id
def FW (K:FG) (H0:Hp) (Z0:ZG) (pd:Pd) (b:BF) (fb:SF) (xs:List PV) (fl:Fl) (i m:Nat) (Y:L2.St) (H:Hp):Prop:=m=xs.length-i/\i<=xs.length/\∃U,SR K H0 Z0 Y H U pd/\cP b fb (xs.drop i) U=some fl
theorem Nv {g:TG} {b:BF} {fb:SF} (hb:GS K g b) {J:It} {xs:List PV} {fl:Fl} {D:Ends} (it:nA K H0 Z0 pd J xs) (k:Ca K H0 Z0 pd D fl) (s:SR K H0 Z0 Y H U pd) (h:cP b fb xs U=some fl):
 ∃W:Nat->Nat->L2.St->Hp->Prop,(∃m,W 0 m Y H)/\∀i m Y H,W i m Y H->
  (J.stop i H/\D.nx Y H)\/(J.go i H/\∃N:L2.St->Hp->Prop,(∀Y' H',N Y' H'->∃m',m'<m/\W (i+1) m' Y' H')/\∀x H',J.yld i H x H'->g x Y H' λY2 H2=>fC K fb { D with nx:=N,ct:=N,bk:=D.nx } Y2 H2):=by
 refine⟨FW K H0 Z0 pd b fb xs fl,⟨_,rfl,Zj _,U,s,h⟩,λi m Y' H' w=>?_⟩;refine yt λG kG=>?_;obtain⟨rfl,hi,U',s',h'⟩:=w;obtain⟨i1,i2⟩:=it Y' H' U' i s';by_cases hlt:i<xs.length
 . obtain⟨go,yl⟩:=i1 _ (Y0 hlt);rw[ZP hlt]at h';obtain⟨U1,e1,e2⟩:=aaU h';obtain⟨fl1,e3,e4⟩:=aaU e2;refine kG (.inr ⟨go,λY'' H''=>FW K H0 Z0 pd b fb xs fl (i+1) (xs.length-(i+1)) Y'' H'',λY'' H'' w=>⟨_,by omega,w⟩,λx H2 hy=>hb H0 Z0 Y' H2 U' pd x _ U1 _ (yl x H2 hy) e1 λY2 s2=>⟨H0,Z0,U1,pd,fl1,s2,e3,?_⟩⟩);cases fl1 with
   | nx U2=>exact λY3 H3 s3=>⟨rfl,hlt,U2,s3,e4⟩
   | ct U2=>exact λY3 H3 s3=>⟨rfl,hlt,U2,s3,e4⟩
   | bk U2=>cases e4; exact k
   | rt r U2=>cases e4; exact k
 . have e:i=xs.length:=Nat.le_antisymm hi (aaw hlt);subst e;rw[List.drop_length]at h';cases h';exact kG (.inl ⟨i2 rfl,k Y' H' s'⟩)
theorem Ca.imp {H0:Hp} {Z0 Z₁:ZG} {pd pd':Pd} {D:Ends} {fl:Fl} (k:Ca K H0 Z0 pd D fl) (w:∀{τ:L2.St} {J:Hp} {q:Ev},SR K H0 Z₁ τ J q pd'->SR K H0 Z0 τ J q pd) (w':∀{τ:L2.St} {J:Hp} {q:Ev} {e:V×Lc},SR K H0 Z₁ τ J q (e::pd')->SR K H0 Z0 τ J q (e::pd)):Ca K H0 Z₁ pd' D fl:=by
 cases fl with
 | rt r U=>exact λv Y H s=>k v Y H (w' s)
 | _=>exact λY H s=>k Y H (w s)
theorem d7 {tg iter:Expr} {body:List Stmt} {f:IF} {g:TG} {b:BF} {fb:SF} {pos:Pos} (hp:PassesOwn (model X.prog X.w) X.A X.env X.xe) (hc:X.calm=true) (hi:PI X tg iter (Cm X.K f)) (hg:PG X tg g) (hb':GS X.K g b) (hb:ir X body (fC X.K fb))
 (hs:∀x,foldedSetIterable iter X.env x=pure x:=by intro _; rfl):PS X (.For tg iter body [] pos) (fC X.K (eQ f b fb)):=PS.imp (Ti hp hc hi hg hb hs) λD Y H q=>by
 refine yt λG kG=>?_;obtain⟨H0,Z0,U,pd,fl,s,h,k⟩:=q;obtain⟨y,h1,h2⟩:=aaU h;exact kG ⟨H0,Z0,U,pd,y.1,y.2,s,h1,λJ H1 pd' s1 it sub=>Nv hb' it (k.imp (λs=>s.sub sub) λs=>s.sub (sub.cons_cons _)) s1 h2⟩
end
section
variable {K:FG} {H0 H H':Hp} {Z0 Z:ZG} {Y:L2.St} {U:Ev} {pd pe:Pd} {v w:V} {l:Lc} {p:PV} {g:List Addr}
def Ev.app (U:Ev) (pe:Pd):Ev:=⟨U.vs++pe.map (λx=>some x.2),U.mu⟩
theorem Cp (e:Y.length=U.vs.length):sl g (Y++pe.map λx=>some x.1) (U.app pe) pd=sl g Y U (pe++pd):=by
 unfold sl Ev.app;rw[aae e,YZ,YQ];congr 3;induction pe with
 | nil=>rfl
 | cons a r ih=>simp[ih]
theorem SR.shift (h:SR K H0 Z0 Y H U (pe++pd)):SR K H0 Z0 (Y++pe.map λx=>some x.1) H (U.app pe) pd:=by obtain⟨e,Z,hg,z,s⟩:=h;refine⟨by simp[Ev.app,e],Z,hg,z,?_⟩;rw[Cp e];exact s
theorem SR.unshift (e:Y.length=U.vs.length) (h:SR K H0 Z0 (Y++pe.map λx=>some x.1) H (U.app pe) pd):SR K H0 Z0 Y H U (pe++pd):=by obtain⟨_,Z,hg,z,s⟩:=h;refine⟨e,Z,hg,z,?_⟩;rw[Cp e]at s;exact s
theorem nA.more {J:It} {xs:List PV} (h:nA K H0 Z0 pd J xs):nA K H0 Z0 (pe++pd) J xs:=by intro Y H U i s;obtain⟨h1,h2⟩:=h _ H _ i s.shift;refine⟨λx hx=>?_,h2⟩;obtain⟨g,y⟩:=h1 x hx;refine⟨g,λv H' q=>?_⟩;have s':=y v H' q;have e:Y.length=U.vs.length:=s.1;have s2:SR K H0 Z0 (Y++pe.map λx=>some x.1) H' (U.app pe) ((v,.sh x)::pd):=s';exact(SR.unshift e s2).perm (pd':=(v,.sh x)::(pe++pd)) Zd.symm
def nC (Y:L2.St) (U:Ev):Pd:=(Y.zip U.vs).filterMap λe=>match e with
 | (some v,some l)=>some (v,l)
 | _=>none
theorem rF:∀{L:Sl},(∀e∈L,e.2=none\/∃v l,e=(some v,some l))->∀{T:Sl},
 (Slots K H0 Z H (L++T) ↔ Slots K H0 Z H ((L.filterMap λe=>match e with | (some v,some l)=>some (v,l) | _=>none).map (λe=>((some e.1:Option V),(some e.2:Option Lc)))++T))
 | [],_,T=>by simp
 | (v,l)::L,h,T=>by
  have h':∀e∈L,e.2=none\/∃v l,e=(some v,some l):=λe he=>h e (YG _ he);rcases h (v,l) Yz with e | ⟨v',l',e⟩
  . have e':l=none:=e;subst e';have e1:((v,(none:Option Lc))::L).filterMap (λe=>match e with | (some v,some l)=>some (v,l) | _=>none)=L.filterMap (λe=>match e with | (some v,some l)=>some (v,l) | _=>none):=by rw[Zf];cases v<;>rfl
    rw[e1,<-rF h' (T:=T)];have o1:jj (v,none)=none:=by
     cases v with
     | none=>rfl
     | some x=>cases x<;>rfl
    constructor
    . exact λs=>s.sub (YX _ _)
    . intro s;refine⟨λe he=>?_,?_⟩
      . rcases YF.mp he with rfl | he
        . trivial
        . exact s.1 e he
      . rw[Z6,Zf o1];exact s.2
  . cases e;have e1:((some v',some l')::L).filterMap (λe=>match e with | (some v,some l)=>some (v,l) | _=>none)=(v',l')::L.filterMap (λe=>match e with | (some v,some l)=>some (v,l) | _=>none):=by rfl
    rw[e1];have ih1:=rF h' (T:=T++[(some v',some l')]);have perm1:∀A:Sl,List.Perm ((some v',some l')::(A++T)) (A++(T++[(some v',some l')])):=λA=>by rw[<-YQ];exact(List.perm_append_singleton _ _).symm
    constructor
    . intro s;exact(ih1.mp (s.perm (perm1 L).symm)).perm (perm1 _)
    . intro s;exact(ih1.mpr (s.perm (perm1 _).symm)).perm (perm1 L)
theorem SR.both (s:SR K H0 Z0 Y H U pd):∀e∈Y.zip U.vs,e.2=none\/∃v l,e=(some v,some l):=by
 obtain⟨_,Z,_,z,s⟩:=s;intro e he;have q:=s.1 e (Zm _ (Z9 _ he));obtain⟨v,l⟩:=e;cases l with
 | none=>exact .inl rfl
 | some l=>
  cases l with
  | sh p=>obtain⟨x,e1,_⟩:=q; have e1':v=some x:=e1; subst e1'; exact .inr ⟨_,_,rfl⟩
  | own p=>obtain⟨x,e1,_⟩:=q; have e1':v=some (.ref x):=e1; subst e1'; exact .inr ⟨_,_,rfl⟩
theorem zG (hb:∀e∈Y.zip U.vs,e.2=none\/∃v l,e=(some v,some l)):Slots K H0 Z H (sl g Y U pd) ↔ Slots K H0 Z H (cel g U.mu++(nC Y U++pd).map λe=>(some e.1,some e.2)):=by
 have h1:=rF (K:=K) (H0:=H0) (Z:=Z) (H:=H) hb (T:=(pd.map λe=>(some e.1,some e.2))++cel g U.mu);have c1:List.Perm (sl g Y U pd) (Y.zip U.vs++((pd.map λe=>(some e.1,some e.2))++cel g U.mu)):=by unfold sl;rw[<-YQ (Y.zip U.vs)];exact ZC
 have c2:List.Perm (cel g U.mu++(nC Y U++pd).map λe=>((some e.1:Option V),(some e.2:Option Lc))) ((nC Y U).map (λe=>(some e.1,some e.2))++((pd.map λe=>(some e.1,some e.2))++cel g U.mu)):=by rw[YZ,<-YQ ((nC Y U).map _)];exact ZC
 exact⟨λs=>(h1.mp (s.perm c1.symm)).perm c2,λs=>(h1.mpr (s.perm c2.symm)).perm c1⟩
theorem SR.back {Y':L2.St} {U':Ev} (el:Y.length=U.vs.length) (hb:∀e∈Y.zip U.vs,e.2=none\/∃v l,e=(some v,some l)) (s:SR K H0 Z0 Y' H U' (nC Y U++pd)):SR K H0 Z0 Y H ⟨U.vs,U'.mu⟩ pd:=by obtain⟨_,Z,hg,z,s⟩:=s;refine⟨el,Z,hg,z,(zG (U:=⟨U.vs,U'.mu⟩) hb).mpr ?_⟩;exact s.sub ((aak _).append (ZQ _ _))
def iw (ixs:List Nat) (U:Ev):Ev:=ixs.foldl (λU i=>match U.vs[i]? with
 | some (some l)=>U.set i (some (.sh l.pv))
 | _=>U) U
theorem SR.frz:∀{ixs:List Nat} {U:Ev},SR K H0 Z0 Y H U pd->SR K H0 Z0 Y H (iw ixs U) pd
 | [],U,s=>s
 | i::r,U,s=>by
  unfold iw;rw[ZX];refine SR.frz (ixs:=r) ?_;split
  . rename_i l e;obtain⟨v,_,h2⟩:=s.var e;exact h2.pop
  . exact s
def vY:Option Lc->Bool
 | some (.own _)=>false
 | _=>true
theorem Cq {j:Nat}:∀{ixs:List Nat} {U:Ev},vY (U.vs[j]?).join=true->vY ((iw ixs U).vs[j]?).join=true
 | [],U,h=>h
 | i::r,U,h=>by
  unfold iw;rw[ZX];refine Cq (ixs:=r) ?_;split
  . rename_i l e;by_cases hij:i=j
    . subst hij;have hi:=(YL.mp e).1;show vY ((U.vs.set i _)[i]?).join=true;rw[Zi hi];rfl
    . show vY ((U.vs.set i _)[j]?).join=true;rw[aaf hij]; exact h
  . exact h
theorem Ko {j:Nat}:∀{ixs:List Nat} {U:Ev},j∈ixs->vY ((iw ixs U).vs[j]?).join=true
 | [],U,h=>by cases h
 | i::r,U,h=>by
  unfold iw;rw[ZX];rcases YF.mp h with e | h
  . subst e;refine Cq (ixs:=r) ?_;split
    . rename_i l e;have hi:=(YL.mp e).1;show vY ((U.vs.set j _)[j]?).join=true;rw[Zi hi];rfl
    . rename_i hn;cases q:U.vs[j]? with
      | none=>rfl
      | some o=>
       cases o with
       | none=>rfl
       | some l=>exact(hn l q).elim
  . exact Ko h
def oN (m:Nat) (ixs:List Nat) (U:Ev):Ev:=⟨List.replicate m none++ixs.map λi=>(U.vs[i]?).join,U.mu⟩
theorem SR.block {m:Nat} {ixs:List Nat} (s:SR K H0 Z0 Y H U pd) (hs:∀j∈ixs,vY (U.vs[j]?).join=true):SR K H0 Z0 (tY m ixs Y) H (oN m ixs U) (nC Y U++pd):=by
 have hb:=s.both;obtain⟨el,Z,hg,z,so⟩:=s;refine⟨by simp[tY,oN],Z,hg,z,?_⟩;have s3:=(zG hb).mp so;have fin:Slots K H0 Z H ((ixs.map λi=>(Y[i]?).join).zip (ixs.map λi=>(U.vs[i]?).join)++(cel Z.g U.mu++(nC Y U++pd).map λe=>(some e.1,some e.2)))->Slots K H0 Z H (sl Z.g (tY m ixs Y) (oN m ixs U) (nC Y U++pd)):=λh=>by unfold sl tY oN;rw[aae (by simp),YQ];refine(nones h m).perm ?_;exact(Ay _ _ _).trans ((Ay _ _ _).append_left _)
 refine fin ?_;clear fin;induction ixs with
 | nil=>simpa using s3
 | cons i r ih=>
  have ih':=ih λj hj=>hs j (YG _ hj);rw[YW,YW,ZS,Z6];have h1:=hs i Yz;cases q:U.vs[i]? with
  | none=>
   refine⟨λe he=>?_,?_⟩
   . rcases YF.mp he with rfl | he
     . trivial
     . exact ih'.1 e he
   . rw[Zf]
     . exact ih'.2
     . cases (Y[i]?).join with
       | none=>rfl
       | some x=>cases x<;>rfl
  | some o=>
   cases o with
   | none=>
    refine⟨λe he=>?_,?_⟩
    . rcases YF.mp he with rfl | he
      . trivial
      . exact ih'.1 e he
    . rw[Zf]
      . exact ih'.2
      . cases (Y[i]?).join with
        | none=>rfl
        | some x=>cases x<;>rfl
   | some l=>
    rw[q]at h1;cases l with
    | own p=>cases h1
    | sh p=>
     have hi:i<Y.length:=by rw[el]; exact(YL.mp q).1
     have hY:Y[i]?=some Y[i]:=Y0 hi;have hm:=Zn (zip_get hY q);obtain⟨x,e1,e2⟩:=so.1 _ (Zm _ (Z9 _ hm));have e1':Y[i]=some x:=e1;have ej:(Y[i]?).join=some x:=by rw[hY,e1']; rfl
     rw[ej];exact ih'.consS e2
end
theorem SR.pushO {v:V} {l:Lc} {a:Addr} {ws:List PV} (s:SR K H0 Z0 Y H U ((v,l)::(.ref a,.own (.lst ws))::pd)):
 ∃us,H a=some (.lst us)/\us.length=ws.length/\SR K H0 Z0 Y (upd H a (.lst (us++[v]))) U ((.ref a,.own (.lst (ws++[l.pv])))::pd):=by
 obtain⟨el,Z,hg,z,r,so⟩:=s.freeze.sh;have so2:=so.perm cD.symm;obtain⟨b,eb,⟨us,hu,hr⟩,_⟩:=so2.1 _ Yz;cases eb;refine⟨us,hu,hr.length,?_⟩;obtain⟨z',s'⟩:=so2.write (o:=.lst (us++[v])) (q:=.lst (ws++[l.pv])) z ⟨us++[v],aW,hr.append (aB.cons r .nil)⟩;exact .mk el hg z' s'
def cz (b:BF) (tc:TF) (te:EF):List PV->Ev->List PV->Option (List PV×Mu)
 | [],U,acc=>some (acc,U.mu)
 | x::xs,U,acc=>(b x U).bind λU1=>(tc U1).bind λc=>if c.1=true then (te c.2).bind λv=>if acc.length<100000 then cz b tc te xs v.2 (acc++[v.1.pv]) else none else cz b tc te xs c.2 acc
def dF (f:IF) (m:Nat) (ixs:List Nat) (b:BF) (tc:TF) (te:EF):EF:=λU=>(f U).bind λy=>(cz b tc te y.1 (oN m ixs (iw ixs y.2)) []).map λys=>(.own (.lst ys.1),⟨(iw ixs y.2).vs,ys.2⟩)
def CW (K:FG) (H0:Hp) (Z0:ZG) (b:BF) (tc:TF) (te:EF) (p:Addr) (PD:Pd) (xs:List PV) (zs:List PV×Mu) (i n:Nat) (Y':L2.St) (H':Hp):Prop:=
 n=xs.length-i/\i<=xs.length/\∃Ui ws,SR K H0 Z0 Y' H' Ui ((.ref p,.own (.lst ws))::PD)/\cz b tc te (xs.drop i) Ui ws=some zs
theorem Kp {g:TG} {b:BF} {tc:TF} {te:EF} (hb:GS K g b) {H0:Hp} {p:Addr} {PD:Pd} {J:It} {xs:List PV} {zs:List PV×Mu} {Q:VK}
 (it:∀ws,nA K H0 Z0 ((.ref p,.own (.lst ws))::PD) J xs) (fin:∀Y' H' Ui ws,SR K H0 Z0 Y' H' Ui ((.ref p,.own (.lst ws))::PD)->cz b tc te [] Ui ws=some zs->Q (.ref p) H') (i n:Nat) (Y':L2.St) (H':Hp) (w:CW K H0 Z0 b tc te p PD xs zs i n Y' H'):
 (J.stop i H'/\Q (.ref p) H')\/(J.go i H'/\∀x H2,J.yld i H' x H2->g x Y' H2 λY3 H3=>gR K tc Y3 H3 λb' H4=>
   if b'=true then tP K te Y3 H4 λv H5=>∃ys,H5 p=some (.lst ys)/\ys.length<sizeLine/\∃n',n'<n/\CW K H0 Z0 b tc te p PD xs zs (i+1) n' Y3 (upd H5 p (.lst (ys++[v])))
   else ∃n',n'<n/\CW K H0 Z0 b tc te p PD xs zs (i+1) n' Y3 H4):=by
 refine yt λG kG=>?_;obtain⟨rfl,hi,Ui,ws,s',h'⟩:=w;obtain⟨i1,i2⟩:=it ws Y' H' Ui i s';by_cases hlt:i<xs.length
 . obtain⟨go,yl⟩:=i1 _ (Y0 hlt);rw[ZP hlt]at h';obtain⟨U1,e1,e2⟩:=aaU h';obtain⟨c,e3,e4⟩:=aaU e2;have hn:xs.length-(i+1)<xs.length-i:=by omega
   refine kG (.inr ⟨go,λx H2 hy=>hb H0 Z0 Y' H2 Ui _ x _ U1 _ (yl x H2 hy) e1 λY2 s5=>⟨H0,Z0,U1,_,c.1,c.2,s5,e3,λH4 s6=>?_⟩⟩);dsimp only;split
   . rename_i hc;refine yt λG kG=>?_;rw[aaN hc]at e4;obtain⟨v,e5,e6⟩:=aaU e4;split at e6
     . rename_i hz;refine kG ⟨H0,Z0,c.2,_,v.1,v.2,s6,e5,λvv H5 s7=>?_⟩;refine yt λG kG=>?_;obtain⟨us,hu,hl,s8⟩:=s7.pushO;exact kG ⟨us,hu,by rw[hl,sizeLine_eq]; omega,_,hn,rfl,hlt,v.2,_,s8,e6⟩
     . cases e6
   . rename_i hc;rw[aaO hc]at e4;exact⟨_,hn,rfl,hlt,c.2,ws,s6,e4⟩
 . have e:i=xs.length:=Nat.le_antisymm hi (aaw hlt);subst e;rw[List.drop_length]at h';exact kG (.inl ⟨i2 rfl,fin _ _ _ _ s' h'⟩)
theorem Cr {f:IF} {m:Nat} {ixs:List Nat} {g:TG} {b:BF} {tc:TF} {te:EF} (hb:GS K g b):∀Y H Q,tP K (dF f m ixs b tc te) Y H Q->Ik (Cm K f) m ixs g (gR K tc) (tP K te) Y H Q:=λY H Q q=>by refine yt λG kG=>?_;obtain⟨H0,Z0,U,pd,r,U',s,h,k⟩:=q;obtain⟨y,h1,h2⟩:=aaU h;obtain⟨zs,h3,h4⟩:=aaV h2;cases h4;refine kG ⟨H0,Z0,U,pd,y.1,y.2,s,h1,λJ H1 pd' s1 it sub p hp=>?_⟩;have s2:SR K H0 Z0 Y H1 (iw ixs y.2) pd':=s1.frz;have s3:=s2.block (m:=m) (ixs:=ixs) λj hj=>Ko hj;have s4:SR K H0 Z0 (tY m ixs Y) (upd H1 p (.lst [])) (oN m ixs (iw ixs y.2)) ((.ref p,.own (.lst []))::(nC Y (iw ixs y.2)++pd')):=s3.newO hp λZ _ _=>⟨[],aW,.nil⟩;refine⟨CW K H0 Z0 b tc te p (nC Y (iw ixs y.2)++pd') y.1 zs,⟨_,rfl,Zj _,_,[],s4,h3⟩,Kp hb (λws=>nA.more (pe:=(.ref p,.own (.lst ws))::nC Y (iw ixs y.2)) it) λY' H' Ui ws s' h'=>?_⟩;cases h';have s5:SR K H0 Z0 Y' H' Ui (nC Y (iw ixs y.2)++((.ref p,.own (.lst ws))::pd')):=s'.perm Zd;exact k _ _ ((SR.back s2.1 s2.both s5).sub (sub.cons_cons _))
section
variable {X:Cx}
theorem pP (M F:List Str) (ixs:List Nat) {sc:Scope} {tg iter elt:Expr} {ifs:List Expr} {f:IF} {g:TG} {b:BF} {tc:TF} {te:EF} {pos:Pos} (hcalm:X.calm=true) (c:gQ X M F ixs sc) (hi:PI X tg iter (Cm X.K f))
 (hg:∀C fp s H,PG (dY X M F sc C fp s H) tg g) (hb:GS X.K g b) (hc:∀C fp s H,tZ (dY X M F sc C fp s H) ifs (gR X.K tc)) (he:∀C fp s H,PE (dY X M F sc C fp s H) elt (tP X.K te))
 (hs:∀x,foldedSetIterable iter X.env x=pure x:=by intro _; rfl):PE X (.ListComp elt [⟨tg,iter,ifs,0⟩] sc pos) (tP X.K (dF f M.length ixs b tc te)):=PE.imp (Q0 M F ixs hcalm c hi hg hc he hs) (Cr hb)
theorem n8 {i:Nat} (M F:List Str) (ixs:List Nat) {x:Str} {sc:Scope} {tg iter elt:Expr} {ifs:List Expr} {f:IF} {g:TG} {b:BF} {tc:TF} {te:EF} {pos pos' pos2:Pos} (hN:X.N.Nodup) (hix:X.N[i]?=some x) (hx:X.env.scope.names.lookup x=some .local)
 (hcalm:X.calm=true) (c:gQ X M F ixs sc) (hi:PI X tg iter (Cm X.K f))
 (hg:∀C fp s H,PG (dY X M F sc C fp s H) tg g) (hb:GS X.K g b) (hc:∀C fp s H,tZ (dY X M F sc C fp s H) ifs (gR X.K tc)) (he:∀C fp s H,PE (dY X M F sc C fp s H) elt (tP X.K te))
 (hsw:swapsWith (.ListComp elt [⟨tg,iter,ifs,0⟩] sc pos) (some (.Name x pos')) pos2.line X.env=pure true:=by rfl)
 (hs:∀x,foldedSetIterable iter X.env x=pure x:=by intro _; rfl):PS X (.Assign [.Name x pos'] (.ListComp elt [⟨tg,iter,ifs,0⟩] sc pos) pos2) (fC X.K (aP i (dF f M.length ixs b tc te))):=
 PS.imp (Q4 M F ixs hN hix hx hcalm c hi hg hc he hsw hs) (Gf λD Y H q=>Cr hb Y H _ q)
def bQ:TF:=λU=>some (true,U)
theorem eU:tZ X [] (gR X.K bQ):=λabQ s Y H Q I q=>M4 abQ s Y H Q I (by obtain⟨H0,Z0,U,pd,b,U',s,h,k⟩:=q;cases h;exact k H s)
end
def oO (f:PV->PV->Option Bool):List PV->List PV->Option Bool
 | p::ps,q::qs=>(f p q).bind λb=>(oO f ps qs).map λc=>b&&c
 | _,_=>some true
def cZ:Nat->PV->PV->Option Bool
 | 0,_,_=>none
 | n+1,p,q=>match p,q with
  | .tup ps,.tup qs=>(oO (cZ n) ps qs).map λb=>b&&(ps.length==qs.length)
  | .lst ps,.lst qs=>if ps.length=qs.length then oO (cZ n) ps qs else some false
  | .non,.non=>some true
  | .bl a,.bl b=>some (a==b)
  | .int a,.int b=>some (a==b)
  | .str a,.str b=>some (a==b)
  | .bl a,.int b=>some ((if a then 1 else 0)==b)
  | .int a,.bl b=>some (a==(if b then 1 else 0))
  | .non,.bl _=>some false
  | .non,.int _=>some false
  | .non,.str _=>some false
  | .non,.tup _=>some false
  | .non,.lst _=>some false
  | .bl _,.non=>some false
  | .bl _,.str _=>some false
  | .bl _,.tup _=>some false
  | .bl _,.lst _=>some false
  | .int _,.non=>some false
  | .int _,.str _=>some false
  | .int _,.tup _=>some false
  | .int _,.lst _=>some false
  | .str _,.non=>some false
  | .str _,.bl _=>some false
  | .str _,.int _=>some false
  | .str _,.tup _=>some false
  | .str _,.lst _=>some false
  | .tup _,.non=>some false
  | .tup _,.bl _=>some false
  | .tup _,.int _=>some false
  | .tup _,.str _=>some false
  | .tup _,.lst _=>some false
  | .lst _,.non=>some false
  | .lst _,.bl _=>some false
  | .lst _,.int _=>some false
  | .lst _,.str _=>some false
  | .lst _,.tup _=>some false
  | _,_=>none
theorem uM {f:PV->PV->Option Bool}:∀{ps qs:List PV} {b:Bool},oO f ps qs=some b->(∀(j:Nat) p q,ps[j]?=some p->qs[j]?=some q->f p q=some ((f (ps.getD j .non) (qs.getD j .non)).getD false))/\
 b=(List.range (min ps.length qs.length)).all λj=>(f (ps.getD j .non) (qs.getD j .non)).getD false
 | [],qs,b,h=>by cases h;exact⟨λj p q e=>by simp at e,by simp⟩
 | p::ps,[],b,h=>by cases h;exact⟨λj p q _ e=>by simp at e,by simp⟩
 | p::ps,q::qs,b,h=>by
  obtain⟨c,h1,h2⟩:=aaU h;obtain⟨d,h3,rfl⟩:=aaV h2;obtain⟨i1,i2⟩:=uM h3;refine⟨λj p' q' e1 e2=>?_,?_⟩
  . cases j with
    | zero=>
     simp at e1 e2;subst e1 e2;simp[h1]
    | succ j=>
     have:=i1 j p' q' (by simpa using e1) (by simpa using e2);simpa using this
  . have e:min (p::ps).length (q::qs).length=min ps.length qs.length+1:=by simp only[Yy]; omega
    rw[e,List.range_succ_eq_map,List.all_cons,List.all_map];have e0:(f ((p::ps).getD 0 .non) ((q::qs).getD 0 .non)).getD false=c:=by simp[h1]
    rw[e0,i2];rfl
theorem elts {Z:ZG} {ps:List PV} {vs:List V} {its:List Value} (r:aB K Z ps vs) (rv:Vals vs its) {j:Nat} (h:j<its.length):∃p v,ps[j]?=some p/\Rep K Z p v/\RelV v its[j]:=by have hl:=rv.length;have hv:vs[j]?=some vs[j]:=Y0 (by omega);obtain⟨u,e1,e2⟩:=rv.get hv;rw[Y0 h]at e1;cases e1;obtain⟨p,e3,e4⟩:=r.getV hv;exact⟨p,vs[j],e3,e4,e2⟩
section
open PySem.SeqAt
variable {X:Cx} {abQ:List (Addr×Obj)} {Y:L2.St} {H:Hp} {s:Shared} {g:List Addr}
theorem uc (I:Inv X abQ Y H s) {ps:List PV} {v:V} {u:Value} (r:Rep X.K ⟨H,g⟩ (.tup ps) v) (ru:RelV v u):∃a vs its,u=.ref a/\cg X.K H a vs/\aB X.K ⟨H,g⟩ ps vs/\Vals vs its/\s.heap.IsTuple a its.toArray:=by unfold Rep at r;obtain⟨a,vs,rfl,h1,h2⟩:=r;obtain⟨its,r1,t1,_⟩:=I.tuple h1;exact⟨a,vs,its,ru,h1,h2,r1,t1⟩
theorem ud (I:Inv X abQ Y H s) {ps:List PV} {v:V} {u:Value} (r:Rep X.K ⟨H,g⟩ (.lst ps) v) (ru:RelV v u):∃a vs its,u=.ref a/\bJ X.K H a vs/\aB X.K ⟨H,g⟩ ps vs/\Vals vs its/\s.heap.IsList a its.toArray:=by unfold Rep at r;obtain⟨a,vs,rfl,h1,h2⟩:=r;obtain⟨its,r1,t1,_⟩:=I.list h1;exact⟨a,vs,its,ru,h1,h2,r1,t1.isList⟩
def kn:PV->Nat
 | .non=>0 | .bl _=>1 | .int _=>2 | .str _=>3 | .tup _=>4 | .lst _=>5 | _=>6
theorem W7 {p:PV} (h:kn p=4):∃ps,p=.tup ps:=by cases p<;>first | exact⟨_,rfl⟩ | cases h
theorem W8 {p:PV} (h:kn p=5):∃ps,p=.lst ps:=by cases p<;>first | exact⟨_,rfl⟩ | cases h
theorem w6 {n:Nat} {p q:PV} {b:Bool} (h:cZ (n+1) p q=some b):kn p<6:=by cases p<;>first | cases h; done | exact Nat.le.step (Nat.le.step (Nat.le.step (Nat.le.step (Nat.le.step .refl)))) | exact Nat.le.step (Nat.le.step (Nat.le.step (Nat.le.step .refl))) | exact Nat.le.step (Nat.le.step (Nat.le.step .refl)) | exact Nat.le.step (Nat.le.step .refl) | exact Nat.le.step .refl | exact Nat.le.refl
theorem PJ {n:Nat} {p q:PV} {b:Bool} (h:cZ (n+1) p q=some b):kn q<6:=by
 have no:cZ (n+1) p q=none->kn q<6:=λe=>absurd (h.symm.trans e) (Option.some_ne_none b);cases q with
 | dk _ _=>exact no (by cases p<;>rfl)
 | dt _ _=>exact no (by cases p<;>rfl)
 | obj _ _ _=>exact no (by cases p<;>rfl)
 | df _ _=>exact no (by cases p<;>rfl)
 | dtf _ _=>exact no (by cases p<;>rfl)
 | dx _ _ _=>exact no (by cases p<;>rfl)
 | exc _=>exact no (by cases p<;>rfl)
 | ptr _=>exact no (by cases p<;>rfl)
 | _=>first | exact Nat.le.step (Nat.le.step (Nat.le.step (Nat.le.step (Nat.le.step .refl)))) | exact Nat.le.step (Nat.le.step (Nat.le.step (Nat.le.step .refl))) | exact Nat.le.step (Nat.le.step (Nat.le.step .refl)) | exact Nat.le.step (Nat.le.step .refl) | exact Nat.le.step .refl | exact Nat.le.refl
def back:V->Option PV
 | .non=>some .non | .bl b=>some (.bl b) | .int i=>some (.int i) | .str x=>some (.str x) | _=>none
inductive Sh (K:FG) (Z:ZG) (v:V):PV->Prop
 | at {p:PV}:back v=some p->Sh K Z v p
 | tup {a:Addr} {ps:List PV} {vs:List V}:v=.ref a->cg K Z.z a vs->aB K Z ps vs->Sh K Z v (.tup ps)
 | lst {a:Addr} {ps:List PV} {vs:List V}:v=.ref a->bJ K Z.z a vs->aB K Z ps vs->Sh K Z v (.lst ps)
theorem Az {Z:ZG} {v:V} {p:PV} (r:Rep K Z p v) (h:kn p<6):Sh K Z v p:=by
 cases p with
 | non=>exact .at (congrArg back (iZ r))
 | bl b=>exact .at (congrArg back (gU r))
 | int b=>exact .at (congrArg back (bC r))
 | str b=>exact .at (congrArg back (bW r))
 | tup ps=>unfold Rep at r; obtain⟨a,vs,e,h1,h2⟩:=r; exact .tup e h1 h2
 | lst ps=>unfold Rep at r; obtain⟨a,vs,e,h1,h2⟩:=r; exact .lst e h1 h2
 | _=>exact absurd h (ZV 6)
inductive Tw (K:FG) (Z:ZG):PV->PV->Prop
 | at {v:V} {p:PV}:back v=some p->Tw K Z p p
 | tup {ps qs:List PV} {vs:List V}:aB K Z ps vs->aB K Z qs vs->Tw K Z (.tup ps) (.tup qs)
 | lst {ps qs:List PV} {vs:List V}:aB K Z ps vs->aB K Z qs vs->Tw K Z (.lst ps) (.lst qs)
theorem PK (I:Inv X abQ Y H s) {a:Addr} {vs ws:List V} (h1:cg X.K H a vs) (h3:bJ X.K H a ws):False:=by obtain⟨its,r1,⟨o1,n1,g1,c1,_⟩,_⟩:=I.list h3;obtain⟨its2,r2,⟨o2,g2,c2,_⟩,_⟩:=I.tuple h1;rw[g1]at g2;cases g2;rw[c1]at c2;exact absurd c2 (by decide)
theorem rG {v:V} {a:Addr} {p:PV} (e:v=.ref a) (h:back v=some p):False:=by subst e; cases h
theorem Sh.two (I:Inv X abQ Y H s) {p q:PV} {v:V} (h1:Sh X.K ⟨H,g⟩ v p) (h2:Sh X.K ⟨H,g⟩ v q):Tw X.K ⟨H,g⟩ p q:=by
 cases h1 with
 | «at» e=>
  cases h2 with
  | «at» e'=>exact(Y5 (e.symm.trans e'))▸.at e
  | tup e'=>exact(rG e' e).elim
  | lst e'=>exact(rG e' e).elim
 | tup e k1 k2=>
  cases h2 with
  | «at» e'=>exact(rG e e').elim
  | tup e' m1 m2=>exact .tup k2 (I.tuple_inj k1 (V.ref.inj (e'.symm.trans e)▸m1)▸m2)
  | lst e' m1=>exact(PK I k1 (V.ref.inj (e'.symm.trans e)▸m1)).elim
 | lst e k1 k2=>
  cases h2 with
  | «at» e'=>exact(rG e e').elim
  | tup e' m1=>exact(PK I m1 (V.ref.inj (e.symm.trans e')▸k1)).elim
  | lst e' m1 m2=>exact .lst k2 (I.list_inj k1 (V.ref.inj (e'.symm.trans e)▸m1)▸m2)
theorem U3_ {n:Nat} {v:V} {p:PV} {b:Bool} (e:back v=some p) (h:cZ (n+1) p p=some b):b=true:=by
 cases v with
 | non=>cases e; cases h; rfl
 | bl z=>cases e; cases h; exact aaT z
 | int z=>cases e; cases h; exact aaT z
 | str z=>cases e; cases h; exact aaT z
 | _=>cases e
theorem ue {f:PV->PV->Option Bool} {Z:ZG} (ih:∀(p q:PV) (v:V) (b:Bool),Rep K Z p v->Rep K Z q v->f p q=some b->b=true):∀{ps qs:List PV} {vs:List V} {c:Bool},aB K Z ps vs->aB K Z qs vs->oO f ps qs=some c->c=true
 | [],qs,vs,c,a,b,h=>by cases h; rfl
 | p::ps,[],vs,c,a,b,h=>by cases h; rfl
 | p::ps,q::qs,vs,c,a,b,h=>by obtain⟨w1,r1,e1,e2,e3⟩:=a.inv;obtain⟨w2,r2,f1,f2,f3⟩:=b.inv;obtain⟨g1,g2⟩:=List.cons.inj (e1.symm.trans f1);subst g1 g2;obtain⟨c,h1,h2⟩:=aaU h;obtain⟨d,h3,rfl⟩:=aaV h2;rw[ih _ _ _ _ e2 f2 h1,ue ih e3 f3 h3];rfl
theorem rH {f:PV->PV->Option Bool} {Z:ZG} (ih:∀(p q r:PV) (v:V) (b c:Bool),Rep K Z p v->Rep K Z q v->f p r=some b->f q r=some c->b=c):∀{ps qs rs:List PV} {vs:List V} {b c:Bool},aB K Z ps vs->aB K Z qs vs->oO f ps rs=some b->oO f qs rs=some c->b=c
 | [],[],rs,vs,b,c,_,_,h,k=>Y5 (h.symm.trans k)
 | [],q::qs,rs,vs,b,c,a,b',h,k=>by obtain⟨_,_,e,_⟩:=b'.inv;exact absurd (a.inv0.symm.trans e) (by simp)
 | p::ps,[],rs,vs,b,c,a,b',h,k=>by obtain⟨_,_,e,_⟩:=a.inv;exact absurd (b'.inv0.symm.trans e) (by simp)
 | p::ps,q::qs,[],vs,b,c,a,b',h,k=>Y5 (h.symm.trans k)
 | p::ps,q::qs,r::rs,vs,b,c,a,b',h,k=>by obtain⟨w1,r1,e1,e2,e3⟩:=a.inv;obtain⟨w2,r2,f1,f2,f3⟩:=b'.inv;obtain⟨g1,g2⟩:=List.cons.inj (e1.symm.trans f1);subst g1 g2;obtain⟨x1,h1,h2⟩:=aaU h;obtain⟨d1,h3,rfl⟩:=aaV h2;obtain⟨x2,k1,k2⟩:=aaU k;obtain⟨d2,k3,rfl⟩:=aaV k2;rw[ih _ _ _ _ _ _ e2 f2 h1 k1,rH ih e3 f3 h3 k3]
theorem eq_self (I:Inv X abQ Y H s):∀(n:Nat) {p q:PV} {v:V} {b:Bool},Rep X.K ⟨H,g⟩ p v->Rep X.K ⟨H,g⟩ q v->cZ n p q=some b->b=true
 | 0,p,q,v,b,_,_,h=>by cases h
 | n+1,p,q,v,b,rp,rq,h=>by
  cases Sh.two I (Az rp (w6 h)) (Az rq (PJ h)) with
  | «at» e=>exact U3_ e h
  | tup h2 h4=>
   obtain⟨c,h5,rfl⟩:=aaV h;rw[ue (λ_ _ _ _=>eq_self I n) h2 h4 h5,h2.length.symm.trans h4.length,aaT];rfl
  | lst h2 h4=>exact ue (λ_ _ _ _=>eq_self I n) h2 h4 ((aaN (h2.length.symm.trans h4.length)).symm.trans h)
inductive U_ (s:Shared):PV->Value->Prop
 | non:U_ s .non .none
 | bl {b:Bool}:U_ s (.bl b) (.bool b)
 | int {i:Int} {t}:U_ s (.int i) (.int i t)
 | str {x:Str} {t}:U_ s (.str x) (.str x t)
 | tup {ps:List PV} {a:Addr} {its}:s.heap.IsTuple a its->U_ s (.tup ps) (.ref a)
 | lst {ps:List PV} {a:Addr} {its}:s.heap.IsList a its->U_ s (.lst ps) (.ref a)
theorem U4_ (I:Inv X abQ Y H s) {p:PV} {v:V} {u:Value} (r:Rep X.K ⟨H,g⟩ p v) (ru:RelV v u) (h:kn p<6):U_ s p u:=by
 cases p with
 | non=>cases iZ r; cases ru; exact .non
 | bl b=>cases gU r; cases ru; exact .bl
 | int b=>cases bC r; obtain⟨t,rfl⟩:=ru; exact .int
 | str b=>cases bW r; obtain⟨t,rfl⟩:=ru; exact .str
 | tup ps=>obtain⟨a,vs,its,rfl,_,_,_,x⟩:=uc I r ru; exact .tup x
 | lst ps=>obtain⟨a,vs,its,rfl,_,_,_,x⟩:=ud I r ru; exact .lst x
 | _=>exact absurd h (ZV 6)
def E3 (A:Around) (s:Shared) (x y:Value) (b:Bool):Prop:=EqAt A s x y b/\RcAt A s x y b/\RcNeAt A s x y (!b)
theorem E3.of {A:Around} {s:Shared} {x y:Value} {b c:Bool} (h:some c=some b) (e:EqAt A s x y c) (r:RcAt A s x y c) (q:RcNeAt A s x y (!c)):E3 A s x y b:=Y5 h▸⟨e,r,q⟩
def two (p q:PV):Bool:=kn p==kn q&&Nat.ble 4 (kn p)
theorem Rr {A:Around} {p q:PV} {u1 u2:Value} {n:Nat} {b:Bool} (hu:A.units<cLine) (h1:U_ s p u1) (h2:U_ s q u2) (e:two p q=false) (h:cZ (n+1) p q=some b):E3 A s u1 u2 b:=by
 cases h1 with
 | non=>
  cases h2 with
  | non=>exact E3.of h (EqAt.same .none) RcAt.none_none RcNeAt.none_none
  | bl=>exact E3.of h (EqAt.none_bool _) (RcAt.none_bool _) (RcNeAt.none_bool _)
  | int=>exact E3.of h (EqAt.none_int _ _) (RcAt.none_int _ _) (RcNeAt.none_int _ _)
  | str=>exact E3.of h (EqAt.none_str _ _) (RcAt.none_str _ _) (RcNeAt.none_str _ _)
  | tup x2=>exact E3.of h (EqAt.none_tuple x2 hu) (RcAt.none_tuple x2 hu) (RcNeAt.none_tuple x2 hu)
  | lst x2=>exact E3.of h (EqAt.none_list x2 hu) (RcAt.none_list x2 hu) (RcNeAt.none_list x2 hu)
 | bl=>
  cases h2 with
  | non=>exact E3.of h (EqAt.bool_none _) (RcAt.bool_none _) (RcNeAt.bool_none _)
  | bl=>exact E3.of h (EqAt.bool_bool _ _) (RcAt.bool_bool _ _) (RcNeAt.bool_bool _ _)
  | int=>exact E3.of h (EqAt.bool_int _ _ _) (RcAt.bool_int _ _ _) (RcNeAt.bool_int _ _ _)
  | str=>exact E3.of h (EqAt.bool_str _ _ _) (RcAt.bool_str _ _ _) (RcNeAt.bool_str _ _ _)
  | tup x2=>exact E3.of h (EqAt.bool_tuple _ x2 hu) (RcAt.bool_tuple _ x2 hu) (RcNeAt.bool_tuple _ x2 hu)
  | lst x2=>exact E3.of h (EqAt.bool_list _ x2 hu) (RcAt.bool_list _ x2 hu) (RcNeAt.bool_list _ x2 hu)
 | int=>
  cases h2 with
  | non=>exact E3.of h (EqAt.int_none _ _) (RcAt.int_none _ _) (RcNeAt.int_none _ _)
  | bl=>exact E3.of h (EqAt.int_bool _ _ _) (RcAt.int_bool _ _ _) (RcNeAt.int_bool _ _ _)
  | int=>exact E3.of h (EqAt.int_int _ _ _ _) (RcAt.int_int _ _ _ _) (RcNeAt.int_int _ _ _ _)
  | str=>exact E3.of h (EqAt.int_str _ _ _ _) (RcAt.int_str _ _ _ _) (RcNeAt.int_str _ _ _ _)
  | tup x2=>exact E3.of h (EqAt.int_tuple _ _ x2 hu) (RcAt.int_tuple _ _ x2 hu) (RcNeAt.int_tuple _ _ x2 hu)
  | lst x2=>exact E3.of h (EqAt.int_list _ _ x2 hu) (RcAt.int_list _ _ x2 hu) (RcNeAt.int_list _ _ x2 hu)
 | str=>
  cases h2 with
  | non=>exact E3.of h (EqAt.str_none _ _) (RcAt.str_none _ _) (RcNeAt.str_none _ _)
  | bl=>exact E3.of h (EqAt.str_bool _ _ _) (RcAt.str_bool _ _ _) (RcNeAt.str_bool _ _ _)
  | int=>exact E3.of h (EqAt.str_int _ _ _ _) (RcAt.str_int _ _ _ _) (RcNeAt.str_int _ _ _ _)
  | str=>exact E3.of h (EqAt.str_str _ _ _ _) (RcAt.str_str _ _ _ _) (RcNeAt.str_str _ _ _ _)
  | tup x2=>exact E3.of h (EqAt.str_tuple _ _ x2 hu) (RcAt.str_tuple _ _ x2 hu) (RcNeAt.str_tuple _ _ x2 hu)
  | lst x2=>exact E3.of h (EqAt.str_list _ _ x2 hu) (RcAt.str_list _ _ x2 hu) (RcNeAt.str_list _ _ x2 hu)
 | tup x1=>
  cases h2 with
  | non=>exact E3.of h (EqAt.tuple_none x1 hu) (RcAt.tuple_none x1 hu) (RcNeAt.tuple_none x1 hu)
  | bl=>exact E3.of h (EqAt.tuple_bool _ x1 hu) (RcAt.tuple_bool _ x1 hu) (RcNeAt.tuple_bool _ x1 hu)
  | int=>exact E3.of h (EqAt.tuple_int _ _ x1 hu) (RcAt.tuple_int _ _ x1 hu) (RcNeAt.tuple_int _ _ x1 hu)
  | str=>exact E3.of h (EqAt.tuple_str _ _ x1 hu) (RcAt.tuple_str _ _ x1 hu) (RcNeAt.tuple_str _ _ x1 hu)
  | tup x2=>cases e
  | lst x2=>exact E3.of h (EqAt.tuple_list x1 x2 hu) (RcAt.tuple_list x1 x2 hu) (RcNeAt.tuple_list x1 x2 hu)
 | lst x1=>
  cases h2 with
  | non=>exact E3.of h (EqAt.list_none x1 hu) (RcAt.list_none x1 hu) (RcNeAt.list_none x1 hu)
  | bl=>exact E3.of h (EqAt.list_bool _ x1 hu) (RcAt.list_bool _ x1 hu) (RcNeAt.list_bool _ x1 hu)
  | int=>exact E3.of h (EqAt.list_int _ _ x1 hu) (RcAt.list_int _ _ x1 hu) (RcNeAt.list_int _ _ x1 hu)
  | str=>exact E3.of h (EqAt.list_str _ _ x1 hu) (RcAt.list_str _ _ x1 hu) (RcNeAt.list_str _ _ x1 hu)
  | tup x2=>exact E3.of h (EqAt.list_tuple x1 x2 hu) (RcAt.list_tuple x1 x2 hu) (RcNeAt.list_tuple x1 x2 hu)
  | lst x2=>cases e
theorem rJ {v:V} {a:Addr} (r:RelV v (.ref a)):v=.ref a:=by
 cases v with
 | ref b=>cases r; rfl
 | non=>cases r
 | bl _=>cases r
 | ty _=>cases r
 | _=>obtain⟨t,e⟩:=r; cases e
theorem Cu (I:Inv X abQ Y H s) {n:Nat} {p q:PV} {a1 a2:Addr} {b:Bool} {A:Around} (rp:Rep X.K ⟨H,g⟩ p (.ref a1)) (rq:Rep X.K ⟨H,g⟩ q (.ref a2)) (h:cZ n p q=some b) (rc:RcAt A s (.ref a1) (.ref a2) b):EqAt A s (.ref a1) (.ref a2) b:=by
 by_cases ea:a1=a2
 . subst ea;exact eq_self I n rp rq h▸EqAt.same _
 . exact EqAt.of_refs ea rc
theorem Ba (I:Inv X abQ Y H s):∀(n:Nat) {p q:PV} {v w:V} {u1 u2:Value} {b:Bool},Rep X.K ⟨H,g⟩ p v->Rep X.K ⟨H,g⟩ q w->RelV v u1->RelV w u2->cZ n p q=some b->∀A:Around,A.units+n<cLine->
 EqAt A s u1 u2 b/\RcAt A s u1 u2 b/\RcNeAt A s u1 u2 (!b)
 | 0,p,q,v,w,u1,u2,b,_,_,_,_,h,_,_=>by cases h
 | n+1,p,q,v,w,u1,u2,b,rp,rq,r1,r2,h,A,hA=>by
  have hu:A.units<cLine:=aaD (Nat.le_add_right _ _) hA;have hin:A.in1.units+n<cLine:=by show A.units+1+n<cLine; omega
  have item:∀{ps qs:List PV} {vs ws:List V} {its its2:List Value} {c:Bool},aB X.K ⟨H,g⟩ ps vs->Vals vs its->aB X.K ⟨H,g⟩ qs ws->Vals ws its2->oO (cZ n) ps qs=some c->
   ∀j (h1:j<its.toArray.size) (h2:j<its2.toArray.size),EqAt A.in1 s its.toArray[j] its2.toArray[j] ((cZ n (ps.getD j .non) (qs.getD j .non)).getD false):=λ{ps qs vs ws its its2 c} a b c' d e j h1 h2=>by
   obtain⟨p,v,e1,e2,e3⟩:=elts a b (j:=j) (by simpa using h1);obtain⟨q,w,f1,f2,f3⟩:=elts c' d (j:=j) (by simpa using h2);have:=(uM e).1 j p q e1 f1;exact(Ba I n e2 f2 e3 f3 this A.in1 hin).1
  cases e:two p q with
  | false=>exact Rr hu (U4_ I rp r1 (w6 h)) (U4_ I rq r2 (PJ h)) e h
  | true=>
   have e':kn p=kn q/\4<=kn p:=by unfold two at e; simpa using e
   have hk:=w6 h;rcases (by omega:kn p=4\/kn p=5) with hp | hp
   . obtain⟨ps,rfl⟩:=W7 hp;obtain⟨qs,rfl⟩:=W7 (e'.1.symm.trans hp);clear e e' hk hp;obtain⟨a1,vs1,its1,rfl,q1,l1,rv1,x1⟩:=uc I rp r1;obtain⟨a2,vs2,its2,rfl,q2,l2,rv2,x2⟩:=uc I rq r2;have e1:=rJ r1;have e2:=rJ r2;subst e1 e2;obtain⟨c,h5,rfl⟩:=aaV h;have it:=item l1 rv1 l2 rv2 h5;have z1:its1.toArray.size=ps.length:=by rw[YM,<-rv1.length,l1.length]
     have z2:its2.toArray.size=qs.length:=by rw[YM,<-rv2.length,l2.length]
     have rc:=RcAt.tuples x1 x2 hu it;have rn:=RcNeAt.tuples x1 x2 hu it;rw[z1,z2,<-(uM h5).2]at rc rn;exact⟨Cu I rp rq h rc,rc,rn⟩
   . obtain⟨ps,rfl⟩:=W8 hp;obtain⟨qs,rfl⟩:=W8 (e'.1.symm.trans hp);clear e e' hk hp;obtain⟨a1,vs1,its1,rfl,q1,l1,rv1,x1⟩:=ud I rp r1;obtain⟨a2,vs2,its2,rfl,q2,l2,rv2,x2⟩:=ud I rq r2;have e1:=rJ r1;have e2:=rJ r2;subst e1 e2;have z1:its1.toArray.size=ps.length:=by rw[YM,<-rv1.length,l1.length]
     have z2:its2.toArray.size=qs.length:=by rw[YM,<-rv2.length,l2.length]
     by_cases hl:ps.length=qs.length
     . have h':=(aaN hl).symm.trans h;have it:=item l1 rv1 l2 rv2 h';have hz:=(z1.trans hl).trans z2.symm;have rc:=RcAt.lists x1 x2 hz hu it;have rn:=RcNeAt.lists x1 x2 hz hu it;rw[z1,<-(show min ps.length qs.length=ps.length by rw[<-hl,Nat.min_self]),<-(uM h').2]at rc rn;exact⟨Cu I rp rq h rc,rc,rn⟩
     . have h':=Y5 ((aaO hl).symm.trans h);subst h';have hz:(its1.toArray.size != its2.toArray.size)=true:=by rw[z1,z2]; exact bne_iff_ne.mpr hl
       have rc:=RcAt.lists_lengths x1 x2 hz hu;exact⟨Cu I rp rq h rc,rc,RcNeAt.lists_lengths x1 x2 hz hu⟩
end
section
open PySem.SeqAt
variable {X:Cx} {abQ:List (Addr×Obj)} {Y:L2.St} {H:Hp} {s:Shared} {g:List Addr}
theorem Gh {n:Nat} {ps:List PV} {r:PV} {b:Bool} (h:cZ (n+1) (.tup ps) r=some b):b=false\/∃rs,r=.tup rs:=by
 cases r with
 | tup rs=>exact .inr ⟨rs,rfl⟩
 | _=>cases h<;>exact .inl rfl
theorem Gi {n:Nat} {ps:List PV} {r:PV} {b:Bool} (h:cZ (n+1) (.lst ps) r=some b):b=false\/∃rs,r=.lst rs:=by
 cases r with
 | lst rs=>exact .inr ⟨rs,rfl⟩
 | _=>cases h<;>exact .inl rfl
theorem xf (I:Inv X abQ Y H s):∀(n:Nat) {p q r:PV} {v:V} {b c:Bool},Rep X.K ⟨H,g⟩ p v->Rep X.K ⟨H,g⟩ q v->cZ n p r=some b->cZ n q r=some c->b=c
 | 0,p,q,r,v,b,c,_,_,h,_=>by cases h
 | n+1,p,q,r,v,b,c,rp,rq,h,k=>by
  cases Sh.two I (Az rp (w6 h)) (Az rq (w6 k)) with
  | «at» e=>exact Y5 (h.symm.trans k)
  | @tup ps qs _ h2 h4=>
   have el:ps.length=qs.length:=h2.length.symm.trans h4.length;rcases Gh h with rfl | ⟨rs,rfl⟩
   . rcases Gh k with rfl | ⟨rs,rfl⟩
     . rfl
     . obtain⟨c1,h5,e1⟩:=aaV h;obtain⟨c2,k5,rfl⟩:=aaV k;rw[<-rH (f:=cZ n) (λ_ _ _ _ _ _=>xf I n) h2 h4 h5 k5,<-el,e1]
   . obtain⟨c1,h5,rfl⟩:=aaV h;obtain⟨c2,k5,rfl⟩:=aaV k;rw[rH (f:=cZ n) (λ_ _ _ _ _ _=>xf I n) h2 h4 h5 k5,el]
  | @lst ps qs _ h2 h4=>
   have el:ps.length=qs.length:=h2.length.symm.trans h4.length;have main:∀rs,r=.lst rs->b=c:=λrs e=>by
    subst e;by_cases hl:qs.length=rs.length
    . exact rH (f:=cZ n) (λ_ _ _ _ _ _=>xf I n) h2 h4 ((aaN (el.trans hl)).symm.trans h) ((aaN hl).symm.trans k)
    . exact Y5 ((((aaO λe=>hl (el.symm.trans e)).symm.trans h).symm.trans ((aaO hl).symm.trans k)))
   rcases Gi h with e1 | ⟨rs,e⟩
   . rcases Gi k with e2 | ⟨rs,e⟩
     . exact e1.trans e2.symm
     . exact main rs e
   . exact main rs e
def Cv (f:PV->PV->Option Bool) (x:PV):List PV->Option Bool
 | []=>some false
 | q::qs=>(f q x).bind λb=>(Cv f x qs).map λc=>b||c
theorem Gj {f:PV->PV->Option Bool} {x:PV}:∀{qs:List PV} {b:Bool},Cv f x qs=some b->(∀q∈qs,∃c,f q x=some c)/\b=qs.any λq=>(f q x).getD false
 | [],b,h=>by cases h; exact⟨λq hq=>by simp at hq,rfl⟩
 | q::qs,b,h=>by
  obtain⟨c,h1,h2⟩:=aaU h;obtain⟨d,h3,rfl⟩:=aaV h2;obtain⟨i1,i2⟩:=Gj h3;refine⟨λq' hq=>?_,?_⟩
  . rcases YF.mp hq with rfl | hq
    . exact⟨c,h1⟩
    . exact i1 q' hq
  . rw[aaF,h1,aaI,<-i2]
open Classical in
def worth (K:FG) (Z:ZG) (x:PV) (qs:List PV) (vs:List V) (its:List Value) (u:Value):Bool:=
 if h:∃(j:Nat) (q:PV),qs[j]?=some q/\its[j]?=some u then (cZ 150 h.choose_spec.choose x).getD false else false
theorem Cw (I:Inv X abQ Y H s) {x:PV} {xv:V} {xu:Value} {qs:List PV} {vs:List V} {its:List Value} (r:aB X.K ⟨H,g⟩ qs vs) (rv:Vals vs its) (hx:∀q∈qs,∃c,cZ 150 q x=some c) {j:Nat} {q:PV} {u:Value} (e1:qs[j]?=some q) (e2:its[j]?=some u):
 worth X.K ⟨H,g⟩ x qs vs its u=(cZ 150 q x).getD false:=by
 have h:∃(j:Nat) (q:PV),qs[j]?=some q/\its[j]?=some u:=⟨j,q,e1,e2⟩;unfold worth;rw[dif_pos h];obtain⟨f1,f2⟩:=h.choose_spec.choose_spec;generalize h.choose_spec.choose=q' at f1 f2;generalize h.choose=j' at f1 f2;obtain⟨v1,g1,g2⟩:=r.get e1;obtain⟨v2,k1,k2⟩:=r.get f1;obtain⟨u1,m1,m2⟩:=rv.get g1;obtain⟨u2,n1,n2⟩:=rv.get k1;rw[e2]at m1; cases m1;rw[f2]at n1; cases n1;have ev:=RelV.inj m2 n2;subst ev;obtain⟨c1,h1⟩:=hx q (Zn e1);obtain⟨c2,h2⟩:=hx q' (Zn f1);rw[h1,h2,xf I 150 k2 g2 h2 h1]
theorem Cy (I:Inv X abQ Y H s) {x:PV} {xv:V} {xu:Value} {qs:List PV} {vs:List V} {its:List Value} (rx:Rep X.K ⟨H,g⟩ x xv) (ru:RelV xv xu) (r:aB X.K ⟨H,g⟩ qs vs) (rv:Vals vs its) (hx:∀q∈qs,∃c,cZ 150 q x=some c) {A:Around} (hA:A.units+150<cLine):
 ∀u,u∈its.toArray->EqAt A s u xu (worth X.K ⟨H,g⟩ x qs vs its u):=λu hu=>by
 have hu':u∈its:=by simpa using hu
 obtain⟨j,hj,e⟩:=List.getElem_of_mem hu';have e2:its[j]?=some u:=by rw[Y0 hj,e]
 have hl:=rv.length;have hlr:=r.length;have e1:qs[j]?=some (qs[j]'(by omega)):=Y0 _;rw[Cw (xv:=xv) (xu:=xu) I r rv hx e1 e2];obtain⟨v1,g1,g2⟩:=r.get e1;obtain⟨u1,m1,m2⟩:=rv.get g1;rw[e2]at m1; cases m1;obtain⟨c1,h1⟩:=hx _ (Zn e1);rw[h1];exact(Ba I 150 g2 rx m2 ru h1 A hA).1
theorem zH (I:Inv X abQ Y H s) {x:PV} {xv:V} {xu:Value} {qs:List PV} {vs:List V} {its:List Value} (r:aB X.K ⟨H,g⟩ qs vs) (rv:Vals vs its) (hx:∀q∈qs,∃c,cZ 150 q x=some c):
 its.toArray.any (worth X.K ⟨H,g⟩ x qs vs its)=qs.any λq=>(cZ 150 q x).getD false:=by
 have hl:its.length=qs.length:=by rw[<-rv.length,r.length]
 have key:its.map (worth X.K ⟨H,g⟩ x qs vs its)=qs.map λq=>(cZ 150 q x).getD false:=by
  apply List.ext_getElem?;intro j;rw[Y4,Y4];by_cases hj:j<its.length
  . have e2:=Y0 hj;have e1:qs[j]?=some (qs[j]'(by omega)):=Y0 _;rw[e2,e1,aam,aam,Cw (xv:=xv) (xu:=xu) I r rv hx e1 e2]
  . rw[aax (by omega),aax (by omega)];rfl
 rw[show its.toArray.any (worth X.K ⟨H,g⟩ x qs vs its)=its.any (worth X.K ⟨H,g⟩ x qs vs its) by simp];have a1:its.any (worth X.K ⟨H,g⟩ x qs vs its)=(its.map (worth X.K ⟨H,g⟩ x qs vs its)).any id:=by simp[List.any_map]
 have a2:(qs.any λq=>(cZ 150 q x).getD false)=(qs.map λq=>(cZ 150 q x).getD false).any id:=by simp[List.any_map]
 rw[a1,a2,key]
end
section
variable {X:Cx}
theorem SR.rep2 {v w:V} {p q:PV} (h:SR K H0 Z0 Y H U ((w,.sh q)::(v,.sh p)::pd)):∃Z:ZG,cR Z.z H/\Rep K Z p v/\Rep K Z q w:=by obtain⟨_,Z,_,z,r,s⟩:=h.sh;obtain⟨x,e1,e2⟩:=(s.perm cD.symm).1 _ Yz;cases e1;exact⟨Z,z.zh,e2,r⟩
theorem SR.rep2H {v w:V} {p q:PV} (h:SR K H0 Z0 Y H U ((w,.sh q)::(v,.sh p)::pd)):∃g,Rep K ⟨H,g⟩ p v/\Rep K ⟨H,g⟩ q w:=by obtain⟨Z,z,a,b⟩:=h.rep2;exact⟨Z.g,a.mono (Z':=⟨H,Z.g⟩) ⟨z,Z5 _⟩,b.mono (Z':=⟨H,Z.g⟩) ⟨z,Z5 _⟩⟩
def IV (K:FG) (neg:Bool):R2:=λx y H Q=>∃g p q b,Rep K ⟨H,g⟩ p x/\Rep K ⟨H,g⟩ q y/\cZ 150 p q=some b/\Q (.bl (if neg then !b else b)) H
theorem eV {b:Bool} {k:Nat} (hr:dO b k X.A):gP X (compareOp .Eq) (IV X.K false):=by
 intro abQ s Y H x y v u Q I rx ry h;obtain⟨g,p,q,b,rp,rq,e,k'⟩:=h;have hA:X.A.units+150<cLine:=by have:=hr.un; omega
 obtain⟨_,rc,_⟩:=Ba I 150 rp rq rx ry e X.A hA;exact rc _ _ _ _ ⟨.bl b,H,I,rfl,k'⟩
theorem U5 {b:Bool} {k:Nat} (hr:dO b k X.A):gP X (compareOp .NotEq) (IV X.K true):=by
 intro abQ s Y H x y v u Q I rx ry h;obtain⟨g,p,q,b,rp,rq,e,k'⟩:=h;have hA:X.A.units+150<cLine:=by have:=hr.un; omega
 obtain⟨_,_,rn⟩:=Ba I 150 rp rq rx ry e X.A hA;exact rn _ _ _ _ ⟨.bl (!b),H,I,rfl,k'⟩
def eqP (p q:PV):Option Lc:=(cZ 150 p q).map λb=>.sh (.bl b)
def PN (p q:PV):Option Lc:=(cZ 150 p q).map λb=>.sh (.bl (!b))
theorem eX:kZ K (IV K false) eqP:=by intro H0 Z0 Y U pd H v w x y l Q s e k;obtain⟨b,e1,rfl⟩:=aaV e;obtain⟨g,r1,r2⟩:=s.rep2H;exact⟨g,x,y,b,r1,r2,e1,k _ H (s.pop.pop.scal fW)⟩
theorem U6:kZ K (IV K true) PN:=by intro H0 Z0 Y U pd H v w x y l Q s e k;obtain⟨b,e1,rfl⟩:=aaV e;obtain⟨g,r1,r2⟩:=s.rep2H;exact⟨g,x,y,b,r1,r2,e1,k _ H (s.pop.pop.scal fW)⟩
def Nx (K:FG) (neg:Bool):R2:=λx y H Q=>(∃g p qs b,Rep K ⟨H,g⟩ p x/\(Rep K ⟨H,g⟩ (.lst qs) y\/Rep K ⟨H,g⟩ (.tup qs) y)/\Cv (cZ 150) p qs=some b/\Q (.bl (if neg then !b else b)) H)\/
 ∃i j,x=.str i/\y=.str j/\Q (.bl (if neg then (Builtin.Str.occurrences j i 0 j.length 1).isEmpty else !(Builtin.Str.occurrences j i 0 j.length 1).isEmpty)) H
theorem xg {b:Bool} {k:Nat} (hr:dO b k X.A):gP X (compareOp .In) (Nx X.K false):=by
 intro abQ s Y H x y v u Q I rx ry h;have hA:X.A.in1.units+150<cLine:=by have:=hr.un; show X.A.units+1+150<cLine; omega
 rcases h with ⟨g,p,qs,b,rp,rq,e,k'⟩ | ⟨i,j,rfl,rfl,k'⟩
 . obtain⟨i1,i2⟩:=Gj e;rcases rq with rq | rq
   . obtain⟨a,vs,its,rfl,q1,l1,rv1,t1⟩:=ud I rq ry;refine SeqAt.in_listAt (worth X.K ⟨H,g⟩ p qs vs its) t1 (Cy I rp rx l1 rv1 i1 hA) ⟨.bl b,H,I,?_,k'⟩;rw[zH (xv:=x) (xu:=v) I l1 rv1 i1,<-i2];rfl
   . obtain⟨a,vs,its,rfl,q1,l1,rv1,t1⟩:=uc I rq ry;refine SeqAt.in_tupleAt (worth X.K ⟨H,g⟩ p qs vs its) t1 (Cy I rp rx l1 rv1 i1 hA) ⟨.bl b,H,I,?_,k'⟩;rw[zH (xv:=x) (xu:=v) I l1 rv1 i1,<-i2];rfl
 . exact JC abQ s Y H (.str i) (.str j) v u Q I rx ry ⟨i,j,rfl,rfl,k'⟩
def isIn (x y:PV):Option Bool:=match y with
 | .lst qs=>Cv (cZ 150) x qs
 | .tup qs=>Cv (cZ 150) x qs
 | .str j=>match x with
  | .str i=>some (!(Builtin.Str.occurrences j i 0 j.length 1).isEmpty)
  | _=>none
 | _=>none
def pQ (p q:PV):Option Lc:=(isIn p q).map λb=>.sh (.bl b)
theorem U7 {neg:Bool}:kZ K (Nx K neg) (λp q=>(isIn p q).map λb=>.sh (.bl (if neg then !b else b))):=by
 intro H0 Z0 Y U pd H v w x y l Q s e k;obtain⟨b,e1,rfl⟩:=aaV e;obtain⟨g,r1,r2⟩:=s.rep2H;cases y with
 | lst qs=>exact .inl ⟨g,x,qs,b,r1,.inl r2,e1,k _ H (s.pop.pop.scal fW)⟩
 | tup qs=>exact .inl ⟨g,x,qs,b,r1,.inr r2,e1,k _ H (s.pop.pop.scal fW)⟩
 | str j=>
  cases x with
  | str i=>
   have e1':=Y5 e1;subst e1';refine .inr ⟨i,j,bW r1,bW r2,?_⟩;have:=k (.bl (if neg then (Builtin.Str.occurrences j i 0 j.length 1).isEmpty else !(Builtin.Str.occurrences j i 0 j.length 1).isEmpty)) H;refine this (s.pop.pop.scal λZ=>?_);cases neg<;>simp[Rep]
  | _=>cases e1
 | _=>cases e1
theorem uN:kZ K (Nx K false) pQ:=U7
def Cz:=vC (λ_ _=>true) λi j=>.bl (decide (i<j))
def gJ:=vC (λ_ _=>true) λi j=>.bl (decide (j<i))
theorem Kq:kZ K (tK λi j=>.bl (decide (i<j))) Cz:=Cg λ_ _ _=>fW _
theorem jP:kZ K (tK λi j=>.bl (decide (j<i))) gJ:=Cg λ_ _ _=>fW _
def Ny:=vC (λ_ _=>true) λi j=>.int (i-j)
def aO:=vC (λ_ j=>decide (0<j)) λi j=>.int (i%j)
def aV:=vC (λ_ j=>decide (0<j/\j<1073741824)) λi j=>.int (i/j)
def eY:=vC (λi j=>decide ((-(2 ^ 64)<i/\i<2 ^ 64)\/(-(2 ^ 64)<j/\j<2 ^ 64))) λi j=>.int (i*j)
def Nz:=vC (λi j=>decide (0<=j/\j<=1000000/\i.natAbs<2 ^ 64)) λi j=>.int (i ^ j.toNat)
theorem Rt:kZ K (tK λi j=>.int (i-j)) Ny:=Cg λ_ _ _=>fL _
theorem aU:kZ K (rI (λ_ j=>0<j) λi j=>.int (i%j)) aO:=Ax (λ_ _ h=>of_decide_eq_true h) λ_ _ _=>fL _
theorem bN:kZ K (rI Tq λi j=>.int (i/j)) aV:=Ax (λi j h=>(of_decide_eq_true h:0<j/\j<1073741824)) λ_ _ _=>fL _
theorem jb:kZ K (rI HN λi j=>.int (i*j)) eY:=Ax (λi j h=>(of_decide_eq_true h:(-(2 ^ 64)<i/\i<2 ^ 64)\/(-(2 ^ 64)<j/\j<2 ^ 64))) λ_ _ _=>fL _
theorem Ru:kZ K (rI Tr λi j=>.int (i ^ j.toNat)) Nz:=Ax (λi j h=>(of_decide_eq_true h:0<=j/\j<=1000000/\i.natAbs<2 ^ 64)) λ_ _ _=>fL _
def Ms (K:FG):R2:=λx y H Q=>tK (λi j=>.int (i+j)) x y H Q\/(∃i j,x=.str i/\y=.str j/\i.length+j.length<=sizeLine/\Q (.str (i++j)) H)\/
 (∃a b xs ys,x=.ref a/\y=.ref b/\bJ K H a xs/\bJ K H b ys/\xs.length+ys.length<=sizeLine/\∀p,H p=none->Q (.ref p) (upd H p (.lst (xs++ys))))\/Pq K x y H Q
theorem bK:gP X (binaryOp .Add) (Ms X.K):=Tt.or (HS.or (Q5.or QQ))
def bf:PV->PV->Option Lc
 | .int i,.int j=>some (.sh (.int (i+j)))
 | .str i,.str j=>if i.length+j.length<=100000 then some (.sh (.str (i++j))) else none
 | .lst ps,.lst qs=>if ps.length+qs.length<=100000 then some (.own (.lst (ps++qs))) else none
 | .tup (p::ps),.tup qs=>if ps.length+qs.length<=10000 then some (.sh (.tup (p::ps++qs))) else none
 | _,_=>none
theorem lO {α:Type} {c:Prop} [Decidable c] {a b:α} (e:(if c then some a else none)=some b):c/\a=b:=by
 split at e
 . rename_i h;exact⟨h,Y5 e⟩
 . cases e
theorem Rv {x y:PV} {l:Lc} (e:bf x y=some l):(∃i j,x=.int i/\y=.int j/\l=.sh (.int (i+j)))\/(∃i j,x=.str i/\y=.str j/\i.length+j.length<=100000/\l=.sh (.str (i++j)))
 \/ (∃ps qs,x=.lst ps/\y=.lst qs/\ps.length+qs.length<=100000/\l=.own (.lst (ps++qs)))\/∃p ps qs,x=.tup (p::ps)/\y=.tup qs/\ps.length+qs.length<=10000/\l=.sh (.tup (p::ps++qs)):=by
 unfold bf at e;split at e
 . cases e;exact .inl ⟨_,_,rfl,rfl,rfl⟩
 . obtain⟨h,e⟩:=lO e;exact .inr (.inl ⟨_,_,rfl,rfl,h,e.symm⟩)
 . obtain⟨h,e⟩:=lO e;exact .inr (.inr (.inl ⟨_,_,rfl,rfl,h,e.symm⟩))
 . obtain⟨h,e⟩:=lO e;exact .inr (.inr (.inr ⟨_,_,_,rfl,rfl,h,e.symm⟩))
 . cases e
theorem bL:kZ K (Ms K) bf:=by
 intro H0 Z0 Y U pd H v w x y l Q s e k;obtain⟨g,r1,r2⟩:=s.rep2H;rcases Rv e with ⟨i,j,rfl,rfl,rfl⟩ | ⟨i,j,rfl,rfl,hl,rfl⟩ | ⟨ps,qs,rfl,rfl,hl,rfl⟩ | ⟨p,ps,qs,rfl,rfl,hl,rfl⟩
 . exact .inl ⟨i,j,bC r1,bC r2,k _ H (s.pop.pop.scal fL)⟩
 . exact .inr (.inl ⟨i,j,bW r1,bW r2,small hl,k _ H (s.pop.pop.scal kE)⟩)
 . obtain⟨el,Z,hg,z,rq,s1⟩:=s.sh;have s2:=s1.perm cD.symm;obtain⟨_,e1,rp⟩:=s2.1 _ Yz;cases e1;unfold Rep at rp rq;obtain⟨a,xs,rfl,h1,h2⟩:=rp;obtain⟨b,ys,rfl,h3,h4⟩:=rq;refine .inr (.inr (.inl ⟨a,b,xs,ys,rfl,rfl,bJ.same z.zh h1,bJ.same z.zh h3,by rw[h2.length,h4.length]; exact small hl,λp hp=>k _ _ ?_⟩));obtain⟨z',s'⟩:=(s2.sub (YX _ _)).new (o:=.lst (xs++ys)) (p:=.lst (ps++qs)) z hp ⟨xs++ys,aW,h2.append h4⟩;exact .mk el hg z' s'
 . obtain⟨el,Z,hg,z,rq,s1⟩:=s.sh;have s2:=s1.perm cD.symm;obtain⟨_,e1,rp⟩:=s2.1 _ Yz;cases e1;unfold Rep at rp rq;obtain⟨a,xs,rfl,h1,h2⟩:=rp;obtain⟨b,ys,rfl,h3,h4⟩:=rq;have hx:xs≠[]:=λh=>by have:=h2.length; rw[h]at this; simp at this
   have hz:=h2.length;have hz':=h4.length;rw[Yy]at hz;refine .inr (.inr (.inr ⟨a,b,xs,ys,rfl,rfl,cg.same z.zh h1,cg.same z.zh h3,hx,small (by omega),λh=>?_,λh q hq=>?_⟩))
   . subst h;have:qs=[]:=aaA hz'.symm;subst this;rw[Y7_]at k;exact k _ H s.pop
   . have s3:=s2.sub (YX _ _);obtain⟨z',sz,s'⟩:=s3.newF (o:=.tup (xs++ys)) z hq;refine k _ _ (.mk (Z:=Z.put q (.tup (xs++ys))) el hg z' (s'.consS ?_));unfold Rep;exact⟨q,xs++ys,rfl,cg.of aW,(h2.append h4).mono sz⟩
def mR:PV->PV->Option Lc
 | .lst ps,.int i=>(gq ps i).map .sh
 | .tup ps,.int i=>(gq ps i).map .sh
 | .str x,.int i=>if x.length<=100000 then (gq x.cps.toList i).map λc=>.sh (.str ⟨#[c]⟩) else none
 | _,_=>none
theorem yu {α β:Type} {l:List α} {r:List β} {i:Int} {x:α} (h:gq l i=some x) (e:r.length=l.length):∃(j:Nat),l[j]?=some x/\∀y,r[j]?=some y->gq r i=some y:=by unfold gq at h;obtain⟨j,h1,h2⟩:=aaU h;refine⟨j,h2,λy hy=>?_⟩;unfold gq;rw[e,h1];exact hy
theorem U8 {x y:PV} {l:Lc} (e:mR x y=some l):∃i,y=.int i/\((∃ps,(x=.lst ps\/x=.tup ps)/\(gq ps i).map Lc.sh=some l)\/∃t c,x=.str t/\t.length<=100000/\gq t.cps.toList i=some c/\l=.sh (.str ⟨#[c]⟩)):=by
 unfold mR at e;split at e
 . exact⟨_,rfl,.inl ⟨_,.inl rfl,e⟩⟩
 . exact⟨_,rfl,.inl ⟨_,.inr rfl,e⟩⟩
 . split at e
   . rename_i h;obtain⟨c,h1,rfl⟩:=aaV e;exact⟨_,rfl,.inr ⟨_,c,rfl,h,h1,rfl⟩⟩
   . cases e
 . cases e
theorem U9:kZ K (W5 K) mR:=by
 intro H0 Z0 Y U pd H v w x y l Q s e k;obtain⟨i,rfl,hx⟩:=U8 e;obtain⟨el,Z,hg,z,r2,s1⟩:=s.sh;have s2:=s1.perm cD.symm;obtain⟨_,e1,r1⟩:=s2.1 _ Yz;cases e1;have s3:=s2.sub (YX _ _);have ew:=bC r2;rcases hx with ⟨ps,hx,h0⟩ | ⟨x,c,rfl,hl,h1,rfl⟩
 . obtain⟨p,h1,rfl⟩:=aaV h0;rcases hx with rfl | rfl
   . unfold Rep at r1;obtain⟨a,vs,rfl,h2,h3⟩:=r1;obtain⟨j,e1,e2⟩:=yu h1 h3.length;obtain⟨u,e3,e4⟩:=h3.get e1;exact .inl ⟨a,vs,i,u,rfl,ew,bJ.same z.zh h2,e2 u e3,k _ H (.mk el hg z (s3.consS e4))⟩
   . unfold Rep at r1;obtain⟨a,vs,rfl,h2,h3⟩:=r1;obtain⟨j,e1,e2⟩:=yu h1 h3.length;obtain⟨u,e3,e4⟩:=h3.get e1;exact .inr (.inl ⟨a,vs,i,u,rfl,ew,cg.same z.zh h2,e2 u e3,k _ H (.mk el hg z (s3.consS e4))⟩)
 . exact .inr (.inr ⟨x,i,c,bW r1,ew,small hl,h1,k _ H (s.pop.pop.scal kE)⟩)
def rK (ps:List PV) (lo hi:Option Int):List PV:=(ps.drop (HT.sIx ps.length 0 lo)).take (HT.sIx ps.length ps.length hi-HT.sIx ps.length 0 lo)
abbrev OF:=Ev->Option (Option Int×Ev)
def xj (K:FG) (f:OF):TO:=λY H Q=>∃H0 Z0 U pd r U',SR K H0 Z0 Y H U pd/\f U=some (r,U')/\∀H',SR K H0 Z0 Y H' U' pd->Q r H'
theorem PO.imp {e:Option Expr} {t t':TO} (h:PO X e t) (i:∀Y H Q,t' Y H Q->t Y H Q):PO X e t':=λabQ s Y H Q I q=>h abQ s Y H Q I (i Y H Q q)
def iy:OF:=λU=>some (none,U)
def cA (f:EF):OF:=λU=>(f U).bind λx=>match x.1.pv with
 | .int i=>some (some i,x.2)
 | _=>none
theorem oh:PO X none (xj X.K iy):=PO.imp QL λY H Q q=>by obtain⟨H0,Z0,U,pd,r,U',s,h,k⟩:=q;cases h;exact k H s
theorem fB {e:Expr} {f:EF} (h:PE X e (tP X.K f)):PO X (some e) (xj X.K (cA f)):=PO.imp (QM h) λY H Q q=>by
 obtain⟨H0,Z0,U,pd,r,U',s,h,k⟩:=q;obtain⟨x,h1,h2⟩:=aaU h;refine⟨H0,Z0,U,pd,x.1,x.2,s,h1,λv H1 s1=>?_⟩;obtain⟨_,r1⟩:=s1.freeze.repH;cases e:x.1.pv with
 | int i=>
  rw[e]at h2 r1;cases h2;exact⟨i,bC r1,k H1 s1.pop⟩
 | _=>rw[e]at h2; cases h2
theorem aB.cut {Z:ZG} {ps:List PV} {vs:List V} {lo hi:Option Int} (h:aB K Z ps vs):aB K Z (rK ps lo hi) (oG vs lo hi):=by unfold rK oG;rw[h.length];exact(h.drop _).take _
def jg (K:FG) (r:List V->Hp->VK->Prop) (g:List PV->Option Lc):Prop:=∀H0 Z0 Y U pd H vs ps l Q,vs.length=ps.length->SR K H0 Z0 Y H U (vs.zip (ps.map Lc.sh)++pd)->g ps=some l->(∀u H',SR K H0 Z0 Y H' U ((u,l)::pd)->Q u H')->r vs H Q
def eB (g:List PV->Option Lc) (a:AF):EF:=λU=>(a U).bind λy=>(g (y.1.map Lc.pv)).map λl=>(l,y.2)
theorem qG {r:List V->Hp->VK->Prop} {g:List PV->Option Lc} (hs:jg X.K r g) {a:AF}:∀Y H Q,tP X.K (eB g a) Y H Q->vz r (jf X.K a) Y H Q:=λY H Q q=>by
 obtain⟨H0,Z0,U,pd,l,U',s,f,k⟩:=q;obtain⟨y,h1,h2⟩:=aaU f;obtain⟨l',h3,h4⟩:=aaV h2;cases h4;refine⟨H0,Z0,U,pd,y.1,y.2,s,h1,λvs H2 e2 s2=>?_⟩;have s3:=s2.freezeAll;have hm:(y.1.map λl=>Lc.sh l.pv)=(y.1.map Lc.pv).map Lc.sh:=by rw[ZL]; rfl
 rw[hm]at s3;exact hs H0 Z0 Y y.2 pd H2 vs (y.1.map Lc.pv) _ Q (by simpa using e2) s3 h3 k
theorem CG {x:Str} {id:String} {r:List V->Hp->VK->Prop} {g:List PV->Option Lc} {e:Expr} {es:List Expr} {a:AF} {p pos:Pos} (hc:jx X (.builtin id) r) (hs:jg X.K r g) (h:PE X (.Call (.Name x p) (e::es) [] pos) (vz r (jf X.K a))):PE X (.Call (.Name x p) (e::es) [] pos) (tP X.K (eB g a)):=PE.imp h (qG hs)
theorem jg.one {r:List V->Hp->VK->Prop} {g:PV->Option Lc} (h:∀H0 Z0 Y U pd H v p l Q,SR K H0 Z0 Y H U ((v,.sh p)::pd)->g p=some l->(∀u H',SR K H0 Z0 Y H' U ((u,l)::pd)->Q u H')->r [v] H Q):
 jg K r (λps=>match ps with | [p]=>g p | _=>none):=by
 intro H0 Z0 Y U pd H vs ps l Q e s hg k
 match ps,vs,e,s,hg with
 | [p],[v],_,s,hg=>exact h H0 Z0 Y U pd H v p l Q s hg k
 | [p],[],e,_,_=>simp at e
 | [p],_::_::_,e,_,_=>simp at e
 | [],_,_,_,hg=>cases hg
 | _::_::_,_,_,_,hg=>cases hg
def Va:PV->Option Lc
 | .str x=>if x.length<=100000 then some (.sh (.int x.length)) else none
 | .lst ps=>some (.sh (.int ps.length))
 | .tup ps=>some (.sh (.int ps.length))
 | _=>none
abbrev bz:List PV->Option Lc:=λps=>match ps with | [p]=>Va p | _=>none
theorem Kr:jg K (λxs H Q=>∃x n,xs=[x]/\Mp K x H n/\Q (.int n) H) bz:=jg.one λH0 Z0 Y U pd H v p l Q s e k=>by
 obtain⟨_,r⟩:=s.repH;cases p with
 | str x=>
  have e':(if x.length<=100000 then some (Lc.sh (.int x.length)) else none)=some l:=e;split at e'
  . rename_i hl;cases e';have:=bW r;subst this;exact⟨_,x.length,rfl,⟨small hl,rfl⟩,k _ H (s.pop.scal fL)⟩
  . cases e'
 | lst ps=>
  cases e;unfold Rep at r;obtain⟨a,vs,rfl,h1,h2⟩:=r;exact⟨_,ps.length,rfl,.inl ⟨vs,h1,h2.length.symm⟩,k _ H (s.pop.scal fL)⟩
 | tup ps=>
  cases e;unfold Rep at r;obtain⟨a,vs,rfl,h1,h2⟩:=r;exact⟨_,ps.length,rfl,.inr ⟨vs,h1,h2.length.symm⟩,k _ H (s.pop.scal fL)⟩
 | _=>cases e
def Ww:PV->Option Lc
 | .lst ps=>some (.own (.lst ps))
 | .tup ps=>some (.own (.lst ps))
 | _=>none
abbrev list1:List PV->Option Lc:=λps=>match ps with | [p]=>Ww p | _=>none
theorem Rw:jg K (λxs H Q=>∃p ys,xs=[.ref p]/\(bJ K H p ys\/cg K H p ys)/\∀l,H l=none->Q (.ref l) (upd H l (.lst ys))) list1:=jg.one λH0 Z0 Y U pd H v p l Q s e k=>by
 obtain⟨el,Z,hg,z,r,s1⟩:=s.sh;cases p with
 | lst ps=>
  cases e;unfold Rep at r;obtain⟨a,vs,rfl,h1,h2⟩:=r;refine⟨a,vs,rfl,.inl (bJ.same z.zh h1),λq hq=>k _ _ ?_⟩;obtain⟨z',s'⟩:=s1.new (o:=.lst vs) (p:=.lst ps) z hq ⟨_,aW,h2⟩;exact .mk el hg z' s'
 | tup ps=>
  cases e;unfold Rep at r;obtain⟨a,vs,rfl,h1,h2⟩:=r;refine⟨a,vs,rfl,.inr (cg.same z.zh h1),λq hq=>k _ _ ?_⟩;obtain⟨z',s'⟩:=s1.new (o:=.lst vs) (p:=.lst ps) z hq ⟨_,aW,h2⟩;exact .mk el hg z' s'
 | _=>cases e
theorem Ev.set_set {i:Nat} {x y:Option Lc}:(U.set i x).set i y=U.set i y:=by show Ev.mk ((U.vs.set i x).set i y) U.mu=_;rw[Z3];rfl
theorem SR.takeO {i:Nat} {ws:List PV} (s:SR K H0 Z0 Y H U pd) (e:U.vs[i]?=some (some (.own (.lst ws)))):
 ∃a,Y[i]?=some (some (.ref a))/\(∃us,H a=some (.lst us))/\SR K H0 Z0 Y H (U.set i none) ((.ref a,.own (.lst ws))::pd):=by
 obtain⟨v,e1,s1⟩:=s.take e;obtain⟨_,Z,_,z,so⟩:=s1.top;obtain⟨a,ea,⟨us,hu,_⟩,_⟩:=so.1 _ Yz;have ea':v=.ref a:=Y5 ea;subst ea';exact⟨a,e1,⟨us,hu⟩,s1⟩
def iK (i:Nat) (f:EF):SF:=λU=>match U.vs[i]? with
 | some (some (.own (.lst _)))=>(f U).bind λy=>match y.2.vs[i]? with
  | some (some (.own (.lst ws)))=>if ws.length<100000 then some (.nx (y.2.set i (some (.own (.lst (ws++[y.1.pv])))))) else none
  | _=>none
 | _=>none
theorem Vb {i:Nat} {o e:Expr} {f:EF} {apos cpos pos:Pos} (h:PS X (.Expr (.Call (.Attribute o "append" apos) [e] [] cpos) pos) (wH (Fv X.K "list" yj (mZ i) (jf X.K (aj f ao))))):
 PS X (.Expr (.Call (.Attribute o "append" apos) [e] [] cpos) pos) (fC X.K (iK i f)):=PS.imp h λD Y H q=>by
 obtain⟨H0,Z0,U,pd,fl,s,h,k⟩:=q;unfold iK at h;split at h
 . rename_i ws0 e0;obtain⟨y,h1,h2⟩:=aaU h;obtain⟨a,ea,⟨us,hu⟩,_⟩:=s.takeO e0;refine⟨.ref a,ea,.inl ⟨rfl,us,bJ.of hu⟩,H0,Z0,U,pd,[y.1],y.2,s,?_,λvs H2 e2 s2=>?_⟩
   . unfold aj ao;rw[h1];rfl
   . obtain⟨v1,rfl⟩:=vD e2;split at h2
     . rename_i ws e3;split at h2
       . rename_i hz;cases h2;obtain⟨a',ea',_,s3⟩:=SR.takeO s2 e3;rw[ea]at ea'; cases ea';have s4:SR X.K H0 Z0 Y H2 (y.2.set i none) ((v1,y.1)::(.ref a,.own (.lst ws))::pd):=s3.swap;obtain⟨us2,hu2,hl,s5⟩:=s4.pushO;refine⟨a,us2,v1,rfl,rfl,hu2,by rw[hl,sizeLine_eq]; omega,k Y _ ?_⟩;have s6:=s5.put ea;rw[Ev.set_set]at s6;exact s6
       . cases h2
     . cases h2
 . cases h
theorem SR.extO {v:V} {ps:List PV} {a:Addr} {ws:List PV} (s:SR K H0 Z0 Y H U ((v,.sh (.lst ps))::(.ref a,.own (.lst ws))::pd)):
 ∃b us zs,v=.ref b/\bJ K H b zs/\H a=some (.lst us)/\us.length=ws.length/\zs.length=ps.length/\SR K H0 Z0 Y (upd H a (.lst (us++zs))) U ((.ref a,.own (.lst (ws++ps)))::pd):=by
 obtain⟨el,Z,hg,z,r,so⟩:=s.sh;unfold Rep at r;obtain⟨b,zs,rfl,h1,h2⟩:=r;have so2:=so.perm cD.symm;obtain⟨_,eb,⟨us,hu,hr⟩,_⟩:=so2.1 _ Yz;cases eb;refine⟨b,us,zs,rfl,bJ.same z.zh h1,hu,hr.length,h2.length,?_⟩;obtain⟨z',s'⟩:=so2.write (o:=.lst (us++zs)) (q:=.lst (ws++ps)) z ⟨us++zs,aW,hr.append h2⟩;exact .mk el hg z' s'
def j8 (i:Nat) (f:EF):SF:=λU=>match U.vs[i]? with
 | some (some (.own (.lst _)))=>(f U).bind λy=>match y.1.pv,y.2.vs[i]? with
  | .lst ps,some (some (.own (.lst ws)))=>if ws.length+ps.length<=100000 then some (.nx (y.2.set i (some (.own (.lst (ws++ps)))))) else none
  | _,_=>none
 | _=>none
theorem Vc {i:Nat} {o e:Expr} {f:EF} {apos cpos pos:Pos} (h:PS X (.Expr (.Call (.Attribute o "extend" apos) [e] [] cpos) pos) (wH (Fv X.K "list" (Bu X.K) (mZ i) (jf X.K (aj f ao))))):
 PS X (.Expr (.Call (.Attribute o "extend" apos) [e] [] cpos) pos) (fC X.K (j8 i f)):=PS.imp h λD Y H q=>by
 obtain⟨H0,Z0,U,pd,fl,s,h,k⟩:=q;unfold j8 at h;split at h
 . rename_i ws0 e0;obtain⟨y,h1,h2⟩:=aaU h;obtain⟨a,ea,⟨us,hu⟩,_⟩:=s.takeO e0;refine⟨.ref a,ea,.inl ⟨rfl,us,bJ.of hu⟩,H0,Z0,U,pd,[y.1],y.2,s,?_,λvs H2 e2 s2=>?_⟩
   . unfold aj ao;rw[h1];rfl
   . obtain⟨v1,rfl⟩:=vD e2;split at h2
     . rename_i ps ws ep e3;split at h2
       . rename_i hz;cases h2;obtain⟨a',ea',_,s3⟩:=SR.takeO s2 e3;rw[ea]at ea'; cases ea';have s4:SR X.K H0 Z0 Y H2 (y.2.set i none) ((v1,.sh y.1.pv)::(.ref a,.own (.lst ws))::pd):=s3.swap.freeze;rw[ep]at s4;obtain⟨b,us2,zs,rfl,hb,hu2,hl,hl2,s5⟩:=s4.extO;refine⟨a,b,us2,zs,rfl,rfl,hu2,hb,by rw[hl,hl2]; exact small hz,k Y _ ?_⟩;have s6:=s5.put ea;rw[Ev.set_set]at s6;exact s6
       . cases h2
     . cases h2
 . cases h
theorem SR.setO {v:V} {p:PV} {a:Addr} {ws:List PV} {j:Nat} (s:SR K H0 Z0 Y H U ((v,.sh p)::(.ref a,.own (.lst ws))::pd)):
 ∃us,H a=some (.lst us)/\us.length=ws.length/\SR K H0 Z0 Y (upd H a (.lst (us.set j v))) U ((.ref a,.own (.lst (ws.set j p)))::pd):=by
 obtain⟨el,Z,hg,z,r,so⟩:=s.sh;have so2:=so.perm cD.symm;obtain⟨_,eb,⟨us,hu,hr⟩,_⟩:=so2.1 _ Yz;cases eb;refine⟨us,hu,hr.length,?_⟩;obtain⟨z',s'⟩:=so2.write (o:=.lst (us.set j v)) (q:=.lst (ws.set j p)) z ⟨us.set j v,aW,hr.set r j⟩;exact .mk el hg z' s'
def uO (i:Nat) (fi fv:EF):SF:=λU=>(fv U).bind λx=>match x.2.vs[i]? with
 | some (some (.own (.lst _)))=>(fi x.2).bind λy=>match y.1.pv,y.2.vs[i]? with
  | .int k,some (some (.own (.lst ws)))=>(oH ws.length k).map λj=>.nx (y.2.set i (some (.own (.lst (ws.set j x.1.pv)))))
  | _,_=>none
 | _=>none
theorem Rx {i:Nat} {o ix e:Expr} {fi fv:EF} {tpos pos:Pos} (h:PS X (.Assign [.Subscript o ix tpos] e pos) (Bh (tP X.K fv) (HD (mZ i) (tP X.K fi) Pu))):PS X (.Assign [.Subscript o ix tpos] e pos) (fC X.K (uO i fi fv)):=PS.imp h λD Y H q=>by
 obtain⟨H0,Z0,U,pd,fl,s,h,k⟩:=q;obtain⟨x,h1,h2⟩:=aaU h;refine⟨H0,Z0,U,pd,x.1,x.2,s,h1,λv H1 s1=>?_⟩;split at h2
 . rename_i ws0 e0;obtain⟨y,h3,h4⟩:=aaU h2;obtain⟨a,ea,_,_⟩:=s1.takeO e0;refine⟨.ref a,ea,H0,Z0,x.2,_,y.1,y.2,s1.freeze,h3,λw H2 s2=>?_⟩;split at h4
   . rename_i kk ws ek e3;obtain⟨j,h5,rfl⟩:=aaV h4;obtain⟨_,rw'⟩:=s2.freeze.repH;rw[ek]at rw';have ew:=bC rw';obtain⟨a',ea',_,s3⟩:=s2.pop.takeO e3;rw[ea]at ea'; cases ea';obtain⟨us,hu,hl,s4⟩:=s3.swap.setO (j:=j);refine⟨a,us,kk,j,rfl,ew,hu,by rw[hl]; exact h5,k Y _ ?_⟩;have s5:=s4.put ea;rw[Ev.set_set]at s5;exact s5
   . cases h4
 . cases h2
theorem uf {g:List Addr} {mu:Mu} {n:Nat} {a:Addr} {o:Option PV} (hg:g[n]?=some a) (hm:mu[n]?=some o):∃R:Sl,List.Perm (cel g mu) ((some (.ref a),o.map Lc.own)::R)/\∀o',List.Perm (cel g (mu.set n o')) ((some (.ref a),o'.map Lc.own)::R):=by
 have h1:(g.map λa=>some (V.ref a))[n]?=some (some (.ref a)):=by rw[Y4,hg]; rfl
 have h2:(mu.map λo=>o.map Lc.own)[n]?=some (o.map Lc.own):=by rw[Y4,hm]; rfl
 obtain⟨R,p1,p2⟩:=t8 (zip_get h1 h2);refine⟨R,p1,λo'=>?_⟩;have:=p2 (some (.ref a),o'.map Lc.own);rw[<-yq,aaW h1]at this;unfold cel;rw[List.map_set];exact this
theorem SR.cellO {v:V} {n:Nat} {p:PV} (s:SR K H0 Z0 Y H U ((v,.sh (.ptr n))::pd)) (hm:U.mu[n]?=some (some p)):
 ∃a,v=.ref a/\SR K H0 Z0 Y H ⟨U.vs,U.mu.set n none⟩ ((.ref a,.own p)::(.ref a,.sh (.ptr n))::pd):=by
 obtain⟨el,Z,hg,z,r,so⟩:=s.sh;have r0:=r;unfold Rep at r;obtain⟨a,rfl,ha⟩:=r;obtain⟨R,p1,p2⟩:=uf ha hm;refine⟨a,rfl,.mk (Z:=Z) el (by simpa using hg) z ?_⟩;have so2:Slots K H0 Z H ((some (.ref a),some (.own p))::(R++(Y.zip U.vs++pd.map λe=>(some e.1,some e.2)))):=so.perm (p1.append_right _).symm;have so3:Slots K H0 Z H ((some (.ref a),none)::(some (.ref a),some (.own p))::(R++(Y.zip U.vs++pd.map λe=>(some e.1,some e.2)))):=by
  refine⟨λe he=>?_,?_⟩
  . rcases YF.mp he with rfl | he
    . trivial
    . exact so2.1 e he
  . rw[Zf rfl]; exact so2.2
 have so4:Slots K H0 Z H ((some (.ref a),some (.own p))::sl Z.g Y ⟨U.vs,U.mu.set n none⟩ pd):=(so3.perm (List.Perm.swap _ _ _)).perm (List.Perm.cons _ ((p2 none).append_right _));exact((so4.consS r0).perm (List.Perm.swap _ _ _)).perm (List.Perm.cons _ cD)
theorem SR.cellP {a:Addr} {n:Nat} {q:PV} (s:SR K H0 Z0 Y H U ((.ref a,.own q)::(.ref a,.sh (.ptr n))::pd)) (hm:U.mu[n]?=some none):SR K H0 Z0 Y H ⟨U.vs,U.mu.set n (some q)⟩ pd:=by obtain⟨el,Z,hg,z,r,so⟩:=s.swap.sh;unfold Rep at r;obtain⟨b,eb,ha⟩:=r;cases eb;obtain⟨R,p1,p2⟩:=uf ha hm;have so2:=so.perm cD.symm;refine⟨el,Z,by simpa using hg,z,?_⟩;have p3:List.Perm (sl Z.g Y U pd) ((some (.ref a),none)::(R++(Y.zip U.vs++pd.map λe=>(some e.1,some e.2)))):=p1.append_right _;have so3:=so2.perm (p3.symm.cons _);have so4:=so3.sub (L':=(some (.ref a),some (.own q))::(R++(Y.zip U.vs++pd.map λe=>(some e.1,some e.2)))) ((YX _ _).cons_cons _);exact so4.perm ((p2 (some q)).append_right _)
def Yr (fo fi fv:EF):SF:=λU=>(fv U).bind λx=>(fo x.2).bind λo=>(fi o.2).bind λy=>match o.1.pv,y.1.pv with
 | .ptr n,.int k=>match y.2.mu[n]? with
  | some (some (.lst ws))=>(oH ws.length k).map λj=>.nx ⟨y.2.vs,y.2.mu.set n (some (.lst (ws.set j x.1.pv)))⟩
  | _=>none
 | _,_=>none
def aR (fa fb:EF):EF:=λU=>(fa U).bind λx=>(fb x.2).bind λy=>match x.1.pv,y.1.pv with
 | .ptr n,.int k=>match y.2.mu[n]? with
  | some (some (.lst ws))=>(gq ws k).map λp=>(.sh p,y.2)
  | _=>none
 | p,q=>(mR p q).map λl=>(l,y.2)
theorem gk {a b:Expr} {pos:Pos} {fa fb:EF} (ha:PE X a (tP X.K fa)) (hb:PE X b (tP X.K fb)) (hm:Ft b):PE X (.Subscript a b pos) (tP X.K (aR fa fb)):=PE.imp (Wn Ub ha hb hm) λY H Q q=>by
 obtain⟨H0,Z0,U,pd,l,U',s,f,k⟩:=q;obtain⟨x,h1,h2⟩:=aaU f;obtain⟨y,h3,h4⟩:=aaU h2;refine⟨H0,Z0,U,pd,x.1,x.2,s,h1,λv H1 s1=>⟨H0,Z0,x.2,_,y.1,y.2,s1,h3,λw H2 s2=>?_⟩⟩;have s3:=s2.freeze.swap.freeze.swap;split at h4
 . rename_i n kk en ek;split at h4
   . rename_i ws em;obtain⟨p,h5,h6⟩:=aaV h4;cases h6;rw[en,ek]at s3;obtain⟨_,rw'⟩:=s3.repH;have ew:=bC rw';obtain⟨a,rfl,s5⟩:=s3.pop.cellO em;obtain⟨el,Z,hg,z,so⟩:=s5.top;obtain⟨_,ea,⟨us,hu,hr⟩,_⟩:=so.1 _ Yz;cases ea;obtain⟨j,e1,e2⟩:=yu h5 hr.length;obtain⟨u,e3,e4⟩:=hr.get e1;refine .inl ⟨a,us,kk,u,rfl,ew,bJ.of hu,e2 u e3,k u H2 ?_⟩;have s6:SR X.K H0 Z0 Y H2 ⟨y.2.vs,y.2.mu.set n none⟩ ((u,.sh p)::(.ref a,.own (.lst ws))::(.ref a,.sh (.ptr n))::pd):=.mk (Z:=Z) el hg z ((so.perm cD).consS e4);have hn:n<y.2.mu.length:=(YL.mp em).1;have s7:SR X.K H0 Z0 Y H2 ⟨y.2.vs,y.2.mu.set n none⟩ ((.ref a,.own (.lst ws))::(.ref a,.sh (.ptr n))::(u,.sh p)::pd):=s6.perm (((List.Perm.swap _ _ _).cons _).trans (List.Perm.swap _ _ _));have s8:=s7.cellP (by show (y.2.mu.set n none)[n]?=_; rw[Zi hn]);have e8:(y.2.mu.set n none).set n (some (.lst ws))=y.2.mu:=by rw[Z3]; exact aaW em
     have s9:SR X.K H0 Z0 Y H2 ⟨y.2.vs,(y.2.mu.set n none).set n (some (.lst ws))⟩ ((u,.sh p)::pd):=s8;rw[e8]at s9;exact s9
   . cases h4
 . obtain⟨l',h5,h6⟩:=aaV h4;cases h6;exact U9 H0 Z0 Y y.2 pd H2 v w x.1.pv y.1.pv _ Q s3 h5 k
def IW (g:AF):EF:=λU=>(cM g U).bind λx=>match x.1 with
 | .own p=>some (.sh (.ptr x.2.mu.length),⟨x.2.vs,x.2.mu++[some p]⟩)
 | _=>none
theorem Ks {es:List Expr} {g:AF} {pos:Pos} (h:PE X (.List es pos) (tP X.K (cM g))):PE X (.List es pos) (tP X.K (IW g)):=PE.imp h λY H Q q=>by
 obtain⟨H0,Z0,U,pd,l,U',s,f,k⟩:=q;obtain⟨x,h1,h2⟩:=aaU f;refine⟨H0,Z0,U,pd,x.1,x.2,s,h1,λv H1 s1=>?_⟩;split at h2
 . rename_i p ep;cases h2;rw[ep]at s1;obtain⟨el,Z,hg,z,so⟩:=s1.top;obtain⟨a,ea,ra,za,ha0⟩:=so.1 _ Yz;have ea':v=.ref a:=Y5 ea;subst ea';have lz:fV Z ⟨Z.z,Z.g++[a]⟩:=⟨cR.refl _,aap _ _⟩;have so2:=so.step (Z':=⟨Z.z,Z.g++[a]⟩) (H':=H1) lz λe he b hb=>⟨rfl,(gG so he hb).1⟩;refine k _ H1 (.mk (Z:=⟨Z.z,Z.g++[a]⟩) el (by simp[hg]) ⟨z.zh,z.h0,z.z0.trans lz,z.new⟩ (Slots.consS ?_ ?_))
   . refine so2.perm ?_;have ec:cel (Z.g++[a]) (x.2.mu++[some p])=cel Z.g x.2.mu++[(some (.ref a),some (.own p))]:=by unfold cel;rw[YZ,YZ,aae (by simp[hg])];rfl
     unfold sl;show List.Perm (cel (Z.g++[a]) (x.2.mu++[some p])++_) _;rw[ec,YQ];exact Zd
   . unfold Rep;exact⟨a,rfl,by show (Z.g++[a])[x.2.mu.length]?=some a; rw[hg,Y8 (YC _)]; simp⟩
 . cases h2
mutual
def bA:PV->Bool
 | .non=>true
 | .bl _=>true
 | .int _=>true
 | .str _=>true
 | .tup ps=>eZ ps
 | _=>false
def eZ:List PV->Bool
 | []=>true
 | p::ps=>bA p&&eZ ps
end
def xm:Lc->Bool
 | .sh p=>bA p
 | .own (.lst ps)=>eZ ps
 | _=>false
def PP:Option Lc->Option Lc
 | some l=>some (.sh l.pv)
 | none=>none
def Ev.peek (U:Ev):Ev:=⟨U.vs.map PP,U.mu.map λ_=>none⟩
def jV (f:EF):EF:=λU=>(f U.peek).bind λx=>if xm x.1=true then some (x.1,U) else none
def uP (f:TF):TF:=λU=>(f U.peek).map λx=>(x.1,U)
def zb:Option HO->Option HO->Option HO->Option HO
 | some (.tup vs),_,_=>some (.tup vs)
 | some (.frz o u),_,_=>some (.frz o u)
 | some _,z,_=>z
 | none,_,z=>z
def nP (H:Hp) (Z Z':ZG):ZG:=⟨λb=>zb (H b) (Z.z b) (Z'.z b),Z.g⟩
theorem Ku {H H':Hp} {Z Z':ZG} (hh:cR H H') (zh:cR Z'.z H') {a:Addr} {vs:List V} (h:cg K Z'.z a vs):cg K (nP H Z Z').z a vs:=by
 rcases h with (h | ⟨o,h⟩) | h
 . refine .inl (.inl ?_);show zb (H a) (Z.z a) (Z'.z a)=_;cases q:H a with
   | none=>exact h
   | some o=>
    have e1:=hh a o q;rw[zh a _ h]at e1;cases e1;rfl
 . refine .inl (.inr ⟨o,?_⟩);show zb (H a) (Z.z a) (Z'.z a)=_;cases q:H a with
   | none=>exact h
   | some o'=>
    have e1:=hh a o' q;rw[zh a _ h]at e1;cases e1;rfl
 . exact .inr h
mutual
theorem CJ {H H':Hp} {Z Z':ZG} (hh:cR H H') (zh:cR Z'.z H'):∀{p:PV} {v:V},bA p=true->Rep K Z' p v->Rep K (nP H Z Z') p v
 | .non,v,_,h=>by unfold Rep at h ⊢; exact h
 | .bl _,v,_,h=>by unfold Rep at h ⊢; exact h
 | .int _,v,_,h=>by unfold Rep at h ⊢; exact h
 | .str _,v,_,h=>by unfold Rep at h ⊢; exact h
 | .tup ps,v,f,h=>by unfold Rep at h ⊢;obtain⟨a,vs,e,h1,h2⟩:=h;unfold bA at f;exact⟨a,vs,e,Ku hh zh h1,ug hh zh f h2⟩
 | .lst _,v,f,_=>by unfold bA at f; cases f
 | .dk _ _,v,f,_=>by unfold bA at f; cases f
 | .dt _ _,v,f,_=>by unfold bA at f; cases f
 | .obj _ _ _,v,f,_=>by unfold bA at f; cases f
 | .df _ _,v,f,_=>by unfold bA at f; cases f
 | .dtf _ _,v,f,_=>by unfold bA at f; cases f
 | .dx _ _ _,v,f,_=>by unfold bA at f; cases f
 | .exc _,v,f,_=>by unfold bA at f; cases f
 | .ptr _,v,f,_=>by unfold bA at f; cases f
theorem ug {H H':Hp} {Z Z':ZG} (hh:cR H H') (zh:cR Z'.z H'):∀{ps:List PV} {vs:List V},eZ ps=true->aB K Z' ps vs->aB K (nP H Z Z') ps vs
 | [],vs,_,h=>by unfold aB at h ⊢; exact h
 | p::ps,vs,f,h=>by obtain⟨v,r,rfl,h1,h2⟩:=h.inv;unfold eZ at f;rw[Zy]at f;exact aB.cons (CJ hh zh f.1 h1) (ug hh zh f.2 h2)
end
theorem SR.lookB (s:SR K H0 Z0 Y H U pd):
 ∃Z,(Y.length=U.vs.length/\U.mu.length=Z.g.length/\fV Z ⟨H,Z.g⟩/\Slots K H0 Z H (sl Z.g Y U pd))/\(∀H' v r U1,SR K H ⟨H,Z.g⟩ Y H' U1 [(v,r)]->xm r=true->SR K H0 Z0 Y H' U ((v,r)::pd))/\∀H' U1,SR K H ⟨H,Z.g⟩ Y H' U1 []->SR K H0 Z0 Y H' U pd:=by
 obtain⟨el,Z,hg,z,so⟩:=s;have lz:fV Z ⟨H,Z.g⟩:=⟨z.zh,Z5 _⟩;have back:∀{H':Hp} {Z':ZG},iB H ⟨H,Z.g⟩ Z' H'->iB H0 Z0 (nP H Z Z') H'/\Slots K H0 (nP H Z Z') H' (sl Z.g Y U pd):=λ{H' Z'} z'=>by
  have zz:fV Z (nP H Z Z'):=⟨λb o e=>by show zb (H b) (Z.z b) (Z'.z b)=_;have hb:=z.zh b o e;rw[hb];cases o<;>first | rfl | exact e,Z5 _⟩
  have cas:∀b o,(nP H Z Z').z b=some o->(∃u,H b=some u/\((Aw u/\o=u)\/Z.z b=some o))\/(H b=none/\Z'.z b=some o):=λb o e=>by
   have e:zb (H b) (Z.z b) (Z'.z b)=some o:=e;cases q:H b with
   | none=>rw[q]at e; exact .inr ⟨rfl,e⟩
   | some u=>
    rw[q]at e;refine .inl ⟨u,rfl,?_⟩;cases u with
    | tup vs=>cases e; exact .inl ⟨trivial,rfl⟩
    | frz o' u=>cases e; exact .inl ⟨trivial,rfl⟩
    | _=>exact .inr e
  refine⟨⟨λb o e=>?_,z.h0.trans z'.h0,z.z0.trans zz,λb o e=>?_⟩,?_⟩
  . rcases cas b o e with ⟨u,hu,⟨_,rfl⟩ | hz⟩ | ⟨_,hz⟩
    . exact z'.h0 b _ hu
    . exact z'.h0 b o (z.zh b o hz)
    . exact z'.zh b o hz
  . rcases cas b o e with ⟨u,hu,⟨hi,rfl⟩ | hz⟩ | ⟨hn,hz⟩
    . exact .inr (.inr hi)
    . exact z.new b o hz
    . exact .inr (.inl (z.h0.free hn))
  . refine so.step zz λe he a ha=>?_;obtain⟨h1,h2,o,h3,h4⟩:=gG so he ha;refine⟨by rw[h3]; exact z'.h0 a o h3,?_⟩;show zb (H a) (Z.z a) (Z'.z a)=_;rw[h3];cases o with
    | tup vs=>exact(h4 trivial).elim
    | frz o u=>exact(h4 trivial).elim
    | _=>exact h1
 refine⟨Z,⟨el,hg,lz,so⟩,λH' v r U1 s1 hf=>?_,λH' U1 s1=>?_⟩
 . obtain⟨_,Z',hg',z',s2⟩:=s1.top;obtain⟨zo,ss⟩:=back z';have q:=s2.1 _ Yz;refine .mk (Z:=nP H Z Z') el hg zo ?_;cases r with
   | sh p=>
    obtain⟨x,e1,e2⟩:=q;cases e1;exact ss.consS (CJ z'.h0 z'.zh hf e2)
   | own p=>
    obtain⟨a,e1,e2,e3,e4⟩:=q;have e1':v=.ref a:=Y5 e1;subst e1';cases p with
    | lst ps=>
     obtain⟨vs,g1,g2⟩:=e2;refine⟨λe he=>?_,?_⟩
     . rcases YF.mp he with rfl | he
       . refine⟨a,rfl,⟨vs,g1,ug z'.h0 z'.zh hf g2⟩,?_,z.h0.free e4⟩;show zb (H a) (Z.z a) (Z'.z a)=_;rw[e4];exact e3
       . exact ss.1 e he
     . show (a::(sl Z.g Y U pd).filterMap jj).Nodup;refine Zo.mpr ⟨λhm=>?_,ss.2⟩;obtain⟨e,he,hb⟩:=Zw.mp hm;obtain⟨_,_,o,h3,_⟩:=gG so he hb;rw[h3]at e4; cases e4
    | _=>cases hf
 . obtain⟨_,Z',hg',z',s2⟩:=s1;obtain⟨zo,ss⟩:=back z';exact⟨el,nP H Z Z',hg,zo,ss⟩
theorem SR.peeked {H:Hp} {Z:ZG} {pk:Option Lc->Option Lc} (el:Y.length=U.vs.length) (hg:U.mu.length=Z.g.length)
 (hs:∀v o,(v,o)∈Y.zip U.vs->pk o=none\/∃x p,pk o=some (.sh p)/\v=some x/\Rep K ⟨H,Z.g⟩ p x):SR K H ⟨H,Z.g⟩ Y H ⟨U.vs.map pk,U.mu.map λ_=>none⟩ []:=by
 have key:∀v l,(v,l)∈sl Z.g Y ⟨U.vs.map pk,U.mu.map λ_=>none⟩ []->l=none\/∃x p,l=some (.sh p)/\v=some x/\Rep K ⟨H,Z.g⟩ p x:=λv l he=>by
  rcases Y6_.mp he with he | he
  . obtain⟨_,h2⟩:=aai he;obtain⟨o,ho,e2⟩:=Za.mp h2;obtain⟨o',_,e3⟩:=Za.mp ho;subst e3;exact .inl e2.symm
  . rw[aao,Y7_]at he;have he:(v,l)∈Y.zip (U.vs.map pk):=he;rw[List.zip_map_right]at he;obtain⟨e,he2,e1⟩:=Za.mp he;cases e1;exact hs _ _ he2
 refine⟨by simp[el],⟨H,Z.g⟩,by simp[hg],⟨cR.refl _,cR.refl _,fV.refl _,λb o e=>.inl e⟩,λe he=>?_,?_⟩
 . obtain⟨v,l⟩:=e;rcases key v l he with rfl | ⟨x,p,rfl,rfl,r⟩
   . trivial
   . exact⟨x,rfl,r⟩
 . have:(sl Z.g Y ⟨U.vs.map pk,U.mu.map λ_=>none⟩ []).filterMap jj=[]:=by
    rw[List.filterMap_eq_nil_iff];intro e he;obtain⟨v,l⟩:=e;rcases key v l he with rfl | ⟨x,p,rfl,rfl,_⟩
    . cases v with
      | none=>rfl
      | some x=>cases x<;>rfl
    . cases x<;>rfl
   show ((sl Z.g Y ⟨U.vs.map pk,U.mu.map λ_=>none⟩ []).filterMap jj).Nodup;rw[this];exact aas
theorem SR.look (s:SR K H0 Z0 Y H U pd):
 ∃Zt,SR K H Zt Y H U.peek []/\(∀H' v r U1,SR K H Zt Y H' U1 [(v,r)]->xm r=true->SR K H0 Z0 Y H' U ((v,r)::pd))/\∀H' U1,SR K H Zt Y H' U1 []->SR K H0 Z0 Y H' U pd:=by
 obtain⟨Z,⟨el,hg,lz,so⟩,b1,b2⟩:=s.lookB;refine⟨_,SR.peeked (pk:=PP) el hg λv o he=>?_,b1,b2⟩;have q:=so.1 _ (Zm _ (Z9 _ he))
 match o,q with
 | none,_=>exact .inl rfl
 | some (.sh p),⟨x,e1,e2⟩=>exact .inr ⟨x,p,rfl,e1,e2.mono lz⟩
 | some (.own p),⟨a,e1,e2,_,_⟩=>exact .inr ⟨.ref a,p,rfl,e1,e2.rep lz rfl⟩
def XN (mu:Mu):PV->PV
 | .ptr n=>match mu[n]? with
  | some (some p)=>p
  | _=>.ptr n
 | p=>p
def peekC (mu:Mu):Option Lc->Option Lc
 | some l=>some (.sh (XN mu l.pv))
 | none=>none
def Ev.peekC (U:Ev):Ev:=⟨U.vs.map (PL.peekC U.mu),U.mu.map λ_=>none⟩
theorem NB {f:EF}:∀Y H Q,tP K (jV f) Y H Q->tP K f Y H Q:=λY H Q q=>by
 obtain⟨H0,Z0,U,pd,r,U',s,h,k⟩:=q;obtain⟨x,h1,h2⟩:=aaU h;obtain⟨Zt,s1,b1,_⟩:=s.look;split at h2
 . rename_i hf;cases h2;exact⟨H,Zt,U.peek,[],x.1,x.2,s1,h1,λv H' s2=>k v H' (b1 H' v x.1 x.2 s2 hf)⟩
 . cases h2
theorem xn {e:Expr} {f:EF} (h:PE X e (tP X.K f)):PE X e (tP X.K (jV f)):=PE.imp h NB
theorem Vd {e:Expr} {f:TF} (h:PT X e (gR X.K f)):PT X e (gR X.K (uP f)):=PT.imp h λY H Q q=>by obtain⟨H0,Z0,U,pd,r,U',s,h,k⟩:=q;obtain⟨x,h1,h2⟩:=aaV h;cases h2;obtain⟨Zt,s1,_,b2⟩:=s.look;exact⟨H,Zt,U.peek,[],x.1,x.2,s1,h1,λH' s2=>k H' (b2 H' x.2 s2)⟩
end
def rM (x:Str):It:=⟨λi _=>i<x.cps.size,λi H v H'=>H'=H/\∃c,x.cps[i]?=some c/\v=.str ⟨#[c]⟩,λi _=>i=x.cps.size⟩
theorem CK {P:Program} {w:World} {tg:Expr} (it:Addr) (x:Str) {St:Nat->Heap->Prop} (W:∀A':Around,A'.handled=none->Walks P w A' it [it] [it] x.cps.size (SignAt x) St)
 (hob:∀i h,St i h->∃o,h.get? it=some o/\∀v,o.data≠.cell v) (slf:∀(A:Around) (i:Nat) (s:Shared) (Q:Value->Shared->Prop) (E:Value->Shared->Prop),St i s.heap->Q (.ref it) s->wpAny (model P w) A (pyIter (.ref it)) Q E s):Turn P w K tg (rM x) [it] it St where
 mem:=by simp
 obj:=λi h st b hb=>by
  have e:b=it:=by simpa using hb
  subst e;exact hob i h st
 keep:=λi h h' st k=>(W {} rfl).frame i h h' st k
 item:=by intro X hP hw hK hc i abQ s Y H E I hf st hg;subst hP hw hK;obtain⟨f0,f1,f2,f3,f4,f5⟩:=hf it (by simp);refine(W X.A (I.ok.hd hc)).item i s _ E hg st λv h' tk hv st' hk=>?_;obtain⟨c,u,e1,rfl⟩:=hv;have I1:Inv X abQ Y H { s with heap:=h',toks:=tk }:=I.turned (λb o hb e=>hk b o (by simpa using hb) e) f0 f1 f3 f4 f5;refine⟨_,rfl,?_⟩;have fin:∃x_1 H',Inv X abQ Y H' { s with heap:=h',toks:=tk }/\RelV x_1 (.str ⟨#[c]⟩ u)/\(rM x).yld i H x_1 H'/\St (i+1) h'/\∀b∈[it],H' b=none:=⟨.str ⟨#[c]⟩,H,I1,⟨u,rfl⟩,⟨rfl,c,e1,rfl⟩,st',λb hb=>(hf b hb).1⟩;unfold letOwnedTupleGo;cases tg<;>exact aaP fin
 done:=by intro X hP hw hK hc i abQ s Y H E I hf st hg;subst hP hw hK;obtain⟨f0,f1,f2,f3,f4,f5⟩:=hf it (by simp);have hg:i=x.cps.size:=hg;subst hg;exact(W X.A (I.ok.hd hc)).done s _ E st λh' tk hk=>⟨rfl,I.turned (λb o hb e=>hk b o (by simpa using hb) e) f0 f1 f3 f4 f5⟩
 self:=λA i s Q E st h=>slf A i s Q E st h
section
variable {X:Cx}
def signs (x:Str):List PV:=x.cps.toList.map λc=>.str ⟨#[c]⟩
def Yw:PV->Option (List PV)
 | .str x=>some (signs x)
 | _=>none
theorem NK {H0:Hp} {x:Str}:nA K H0 Z0 pd (rM x) (signs x):=by
 intro Y H U i s;refine⟨λp hp=>?_,λhl=>?_⟩
 . unfold signs at hp;rw[Y4]at hp;obtain⟨c,hc,rfl⟩:=aaV hp;have hi:=(YL.mp hc).1;refine⟨(show i<x.cps.size by simpa using hi),λv H' y=>?_⟩;obtain⟨rfl,c',hc',rfl⟩:=y;have:c'=c:=by rw[Array.getElem?_toList]at hc;rw[hc]at hc';exact(Y5 hc').symm
   subst this;exact s.scal kE
 . show i=x.cps.size;simpa [signs] using hl
def boolsOf:List PV->Option (List Bool)
 | []=>some []
 | .bl b::r=>(boolsOf r).map (b::·)
 | _=>none
def XQ:PV->Option Lc
 | .lst ps=>(boolsOf ps).map λbs=>.sh (.bl (bs.all id))
 | _=>none
abbrev all1:List PV->Option Lc:=λps=>match ps with | [p]=>XQ p | _=>none
def W9:PV->Option String
 | .non=>some "NoneType"
 | .bl _=>some "bool"
 | .int _=>some "int"
 | .str _=>some "str"
 | .tup _=>some "tuple"
 | .lst _=>some "list"
 | _=>none
def yw (p:PV) (C:String):Option Bool:=(W9 p).bind λT=>if (Value.type T==Value.type C)=true then some true else if W.kitMeta C=true then (fastBuiltinMro T).map λx=>x.contains (.type C) else none
theorem lQ {p:PV} {T C:String} {b:Bool} (h1:W9 p=some T) (h:yw p C=some b):W.kitOne K (.type T) (.type C)=some b:=by unfold yw at h;rw[h1,YB]at h;exact h
theorem EY:jx X (.builtin "isinstance") (λxs H Q=>∃x C g p b,xs=[x,.ty C]/\Rep X.K ⟨H,g⟩ p x/\yw p C=some b/\Q (.bl b) H):=by
 intro abQ s Y H xs us Q I r h;obtain⟨x,C,g,p,b,rfl,rp,e,q⟩:=h;obtain⟨u,w',rfl,ru,rw'⟩:=vals2 r;cases rw';have fin:∀tk,EP X abQ Y Q (.bool b) { s with toks:=tk }:=λtk=>⟨.bl b,H,I.tok tk,rfl,q⟩;cases p with
 | non=>have:=iZ rp; subst this; cases ru; exact aaE W.kitx_none I.kIn trivial (lQ rfl e) (by intro z; cases z) fin
 | bl c=>have:=gU rp; subst this; cases ru; exact aaE W.kitx_bool I.kIn trivial (lQ rfl e) (by intro z; cases z) fin
 | int i=>have:=bC rp; subst this; obtain⟨t,rfl⟩:=ru; exact aaE W.kitx_int I.kIn trivial (lQ rfl e) (by intro z; cases z) fin
 | str i=>have:=bW rp; subst this; obtain⟨t,rfl⟩:=ru; exact aaE W.kitx_str I.kIn trivial (lQ rfl e) (by intro z; cases z) fin
 | tup ps=>
  obtain⟨a,vs,its,rfl,_,_,_,o,t1,t2,_⟩:=uc I rp ru;exact aaE (t:=.type "tuple") W.kitx_tuple I.kIn ⟨o,t1,t2⟩ (lQ rfl e) (by intro z; cases z) fin
 | lst ps=>
  obtain⟨a,vs,its,rfl,_,_,_,o,t1,t2,_⟩:=ud I rp ru;exact aaE (t:=.type "list") W.kitx_list I.kIn ⟨o,t1,t2⟩ (lQ rfl e) (by intro z; cases z) fin
 | _=>cases e
def Kv (C:String) (f:EF):EF:=λU=>(f U).bind λx=>(yw x.1.pv C).map λb=>(.sh (.bl b),x.2)
theorem Yh {C:String} {f:EF} {e c:Expr} {pp pos:Pos} (h:PE X (.Call (.Name "isinstance" pp) [e,c] [] pos) (vz (λxs H Q=>∃x C g p b,xs=[x,.ty C]/\Rep X.K ⟨H,g⟩ p x/\yw p C=some b/\Q (.bl b) H) (wJ (tP X.K f) (wJ (tC (.ty C)) Bj)))):
 PE X (.Call (.Name "isinstance" pp) [e,c] [] pos) (tP X.K (Kv C f)):=PE.imp h λY H Q q=>by
 obtain⟨H0,Z0,U,pd,r,U',s,h,k⟩:=q;obtain⟨x,h1,h2⟩:=aaU h;obtain⟨b,h3,h4⟩:=aaV h2;cases h4;refine⟨H0,Z0,U,pd,x.1,x.2,s,h1,λv H1 s1=>?_⟩;obtain⟨g,r1⟩:=s1.freeze.repH;exact⟨v,C,g,_,b,rfl,r1,h3,k _ H1 (s1.pop.scal fW)⟩
def strsOf:List PV->Option (List Str)
 | []=>some []
 | .str x::r=>(strsOf r).map (x::·)
 | _=>none
theorem CP {Z:ZG}:∀{ps:List PV} {xs:List Str} {vs:List V},strsOf ps=some xs->aB K Z ps vs->vs=xs.map V.str
 | [],xs,vs,h,r=>by cases h; exact r.inv0
 | p::ps,xs,vs,h,r=>by
  cases p with
  | str b=>
   obtain⟨cs,h1,rfl⟩:=aaV h;obtain⟨v,w,rfl,r1,r2⟩:=r.inv;rw[bW r1,CP h1 r2];rfl
  | _=>cases h
theorem xq:∀{xs:List Str} {its:List Value},Vals (xs.map V.str) its->StrsAre its xs
 | [],_,.nil=>.nil
 | x::xs,_,.cons r t=>by obtain⟨tk,rfl⟩:=r;exact .cons _ _ (xq t)
theorem Gk:Fw X "str.join" (λx xs H Q=>∃(z:Str) (p:Addr) (ys:List Str),x=.str z/\xs=[.ref p]/\bJ X.K H p (ys.map V.str)/\(ys.map (·.length)).sum+ys.length*z.length<=16777216/\Q (.str (Txt.join z ys)) H):=by intro abQ s Y H x vs v us Q I rx rv h;obtain⟨z,p,ys,rfl,rfl,hq,hz,q⟩:=h;obtain⟨t,rfl⟩:=rx;obtain⟨u,rfl,ru⟩:=rv.one;cases ru;obtain⟨its,rvs,pl,_⟩:=I.list hq;exact join_list pl.isList (by simpa using xq rvs) hz λt' k=>⟨.str _,H,I.tok k,⟨t',rfl⟩,q⟩
def mj (f:EF) (a:AF):EF:=λU=>(f U).bind λx=>(a x.2).bind λy=>match x.1.pv,y.1.map Lc.pv with
 | .str z,[.lst ps]=>(strsOf ps).bind λxs=>if (xs.map (·.length)).sum+xs.length*z.length<=100000 then some (.sh (.str (Txt.join z xs)),y.2) else none
 | _,_=>none
theorem PQ {o e:Expr} {f:EF} {a:AF} {apos cpos:Pos} (h:PE X (.Call (.Attribute o "join" apos) [e] [] cpos) (Fv X.K "str" (λx xs H Q=>∃(z:Str) (p:Addr) (ys:List Str),x=.str z/\xs=[.ref p]/\bJ X.K H p (ys.map V.str)/\(ys.map (·.length)).sum+ys.length*z.length<=16777216/\Q (.str (Txt.join z ys)) H) (tP X.K f) (jf X.K a))):
 PE X (.Call (.Attribute o "join" apos) [e] [] cpos) (tP X.K (mj f a)):=PE.imp h λY H Q q=>by
 obtain⟨H0,Z0,U,pd,r,U',s,h,k⟩:=q;obtain⟨x,h1,h2⟩:=aaU h;obtain⟨y,h3,h4⟩:=aaU h2;refine⟨H0,Z0,U,pd,x.1,x.2,s,h1,λv H1 s1=>?_⟩;split at h4
 . rename_i z ps ez ep;obtain⟨xs,h5,h6⟩:=aaU h4;split at h6
   . rename_i hz;cases h6;obtain⟨_,rz⟩:=s1.freeze.repH;rw[ez]at rz;have:=bW rz;subst this;refine⟨rfl,H0,Z0,x.2,pd,y.1,y.2,s1.pop,h3,λvs H2 e2 s2=>?_⟩;obtain⟨el,Z,hg,zz,rl,ss⟩:=s2.repl e2;rw[ep]at rl;obtain⟨w,rr,rfl,r1,r2⟩:=rl.inv;have:=r2.inv0;subst this;unfold Rep at r1;obtain⟨b,ws,rfl,g1,g2⟩:=r1;have:=CP h5 g2;subst this;exact⟨z,b,xs,rfl,rfl,bJ.same zz.zh g1,by omega,k _ H2 (.mk (Z:=Z) el hg zz (ss.consS (kE _)))⟩
   . cases h6
 . cases h4
def XS:PV->Option Lc
 | .int i=>if i.natAbs.log2<1920 then some (.sh (.str (toString i))) else none
 | _=>none
abbrev str1:List PV->Option Lc:=λps=>match ps with | [p]=>XS p | _=>none
theorem CQ:jg K (λxs H Q=>∃i,xs=[.int i]/\i.natAbs.log2<1920/\Q (.str (toString i)) H) str1:=jg.one λH0 Z0 Y U pd H v p l Q s e k=>by
 obtain⟨_,r⟩:=s.repH;cases p with
 | int i=>
  have e':(if i.natAbs.log2<1920 then some (Lc.sh (.str (toString i))) else none)=some l:=e;split at e'
  . rename_i hl;cases e';have:=bC r;subst this;exact⟨i,rfl,hl,k _ H (s.pop.scal kE)⟩
  . cases e'
 | _=>cases e
end
section
variable {prog:Program} {w:World} {A:Around} {E:Value->Shared->Prop} {s:Shared}
theorem zJ {it t:Addr} {items:Array Value} (hne:t≠it):∀(n i:Nat) (s:Shared) (Q:List Value->Shared->Prop),s.heap.IsListIter it t i->s.heap.IsList t items->i+n<=items.size->
 (∀h',h'.IsListIter it t (i+n)->Heap.SameBut it s.heap h'->Q ((items.toList.drop i).take n) { s with heap:=h' })->wpAny (model prog w) A (draw (.ref it) n) Q E s
 | 0,i,s,Q,hit,_,_,hQ=>by show wpAny _ _ (pure []) Q E s;exact aaP (by simpa using hQ s.heap hit (Heap.SameBut.refl ..))
 | n+1,i,s,Q,hit,ht,hle,hQ=>by
  have hlt:i<items.size:=by omega
  show wpAny _ _ (pyNext (.ref it) >>= _) Q E s;refine aaM (wpAny_pyNext_list_item hit ht (x:=items[i]) (by simp[hlt]) λh₁ hit₁ hs₁=>?_);refine aaM (wpAny_holding (zJ hne n (i+1) _ _ hit₁ (ht.extBut hs₁.extBut hne) (by omega) λh₂ hit₂ hs₂=>aaP ?_));have hd:items.toList.drop i=items[i]::items.toList.drop (i+1):=by simp[ZP,hlt]
  have:=hQ h₂ (by rw[show i+(n+1)=i+1+n by omega]; exact hit₂) (hs₁.trans hs₂);rw[hd,List.take_succ_cons]at this;exact this
theorem vZ {t:Addr} {items:Array Value} {Q:List Value->Shared->Prop} (hh:A.handled=none) (ht:s.heap.IsList t items)
 (hQ:∀h',Heap.ExtBut s.heap.objs.size s.heap h'->Q items.toList { s with heap:=h' }):wpAny (model prog w) A (unpackItems (.ref t) items.size none) Q E s:=by
 have hlt:t≠s.heap.objs.size:=by obtain⟨o,ho,_⟩:=ht; exact Zb (YS ho)
 unfold unpackItems;refine aaM ?_
 . unfold notIterableAtAll;refine aaM (wpAny_specialOf ht.typeIs slot_list_iter.lookup ?_);refine aaP ?_;simp only[Zg,if_false];refine aaM (wpAny_holding (wpAny_pyIter_list ht ?_));refine aaM (wpAny_holding (zJ hlt items.size 0 _ _ ⟨_,YT _ rfl,rfl,rfl⟩ (by obtain⟨o,g1,g2⟩:=ht; exact⟨o,YD _ g1,g2⟩) (by omega) λh₁ hit₁ hs₁=>?_));have hall:List.take items.size (List.drop 0 items.toList)=items.toList:=by rw[List.drop_zero]; exact aat (by simp)
   rw[hall];rw[aaO (by simp)];have ht₁:h₁.IsList t items:=Heap.IsList.extBut (by obtain⟨o,g1,g2⟩:=ht; exact⟨o,YD _ g1,g2⟩) hs₁.extBut hlt;refine aaM (wpAny_holding (wpAny_pyNext_list_end hh hit₁ ht₁ (by simp) λh₂ he₂=>?_));simp only[Option.isSome_none,Zg,if_false];refine aaP (hQ h₂ λb o hb e=>he₂ b o hb (hs₁.extBut b o hb (YD _ e)))
end
section
variable {X:Cx} {pos:Pos}
def Ve (K:FG) (n:Nat) (t:sI):TG:=λv Y H Q=>∃a xs,v=.ref a/\(cg K H a xs\/bJ K H a xs)/\xs.length=n/\t xs Y H Q
theorem iD {es:List Expr} {k:Nat} {t:sI} {n:Nat} (hc:X.calm=true) (h:Jw X es t)
 (hn:(assignEach es X.env).length=n:=by rfl) (hst:(assignEach es X.env).findIdx? (·.1)=none:=by rfl):PG X (.Tuple es k pos) (Ve X.K n t):=by
 intro abQ s Y H v u Q I r hw;obtain⟨a,xs,e1,hq,hl,hw⟩:=hw;rcases hq with hq | hq
 . exact Tg hc h hn hst abQ s Y H v u Q I r ⟨a,xs,e1,hq,hl,hw⟩
 . subst e1;cases r;obtain⟨its,rv,ht,hz⟩:=I.list hq;rw[assign_Tuple];refine aaM (wpAny_standAt ?_);unfold unpack;have hsz:(assignEach es X.env).length=its.toArray.size:=by simp[hn,<-hl,rv.length]
   rw[hsz,hst];refine aaM (wpAny_holding (vZ (I.ok.hd hc) ht.isList λh' hx=>?_));have I1:Inv X abQ Y H { s with heap:=h' }:=I.kept (t':=s.toks) λb o e=>hx b o (Zb (YS e)) e;exact h abQ _ Y H xs _ Q I1 (by simpa using rv) hw
def eN (n:Nat) (bs:Ck):BF:=λp U=>match p with
 | .tup ps=>if ps.length=n then bs ps U else none
 | .lst ps=>if ps.length=n then bs ps U else none
 | _=>none
theorem iG {n:Nat} {t:sI} {bs:Ck} (h1:PB K t bs):GS K (Ve K n t) (eN n bs):=by
 intro H0 Z0 Y H U pd v p U' Q s h k;cases p with
 | tup ps=>
  have h':(if ps.length=n then bs ps U else none)=some U':=h;split at h'
  . rename_i hn;obtain⟨e,Z,hg,z,r,sl'⟩:=s.sh;unfold Rep at r;obtain⟨a,vs,rfl,h2,h3⟩:=r;exact⟨a,vs,rfl,.inl (cg.same z.zh h2),by rw[h3.length]; exact hn,h1 H0 Z0 Y H U pd vs ps U' Q h3.length (SR.items e hg z h3 sl') h' k⟩
  . cases h'
 | lst ps=>
  have h':(if ps.length=n then bs ps U else none)=some U':=h;split at h'
  . rename_i hn;obtain⟨e,Z,hg,z,r,sl'⟩:=s.sh;unfold Rep at r;obtain⟨a,vs,rfl,h2,h3⟩:=r;exact⟨a,vs,rfl,.inr (bJ.same z.zh h2),by rw[h3.length]; exact hn,h1 H0 Z0 Y H U pd vs ps U' Q h3.length (SR.items e hg z h3 sl') h' k⟩
  . cases h'
 | _=>cases h
def XX (K:FG) (tl:TE):TI:=λY H R=>tl Y H λx H1=>(∃a,x=.ref a/\(∃xs,bJ K H1 a xs)/\R (O8 K a) H1)\/(∃a,x=.ref a/\(∃xs,cg K H1 a xs)/\R (O9 K a) H1)\/∃z,x=.str z/\R (rM z) H1
theorem Vf {tg l:Expr} {tl:TE} (hl:PE X l tl):PI X tg l (XX X.K tl):=by
 intro abQ s Y H R I h;have at':∀(v:Value) (s1:Shared) (x:V) (H1:Hp),Inv X abQ Y H1 s1->RelV x v->((∃a,x=.ref a/\(∃xs,bJ X.K H1 a xs)/\R (O8 X.K a) H1)\/(∃a,x=.ref a/\(∃xs,cg X.K H1 a xs)/\R (O9 X.K a) H1)\/∃z,x=.str z/\R (rM z) H1)->
  wpAny (model X.prog X.w) X.A (pyIter v) (PIE X abQ Y tg R) X.xe s1:=λv s1 x H1 I1 r1 q=>by
  have fp:∀b,b∈[s1.heap.objs.size]->kY X abQ H1 b:=λb hb=>by
   have e:b=s1.heap.objs.size:=by simpa using hb
   subst e;exact I1.fpOk (YC _) (I1.hok.fresh (YC _))
  rcases q with ⟨a,rfl,⟨xs,hq⟩,q⟩ | ⟨a,rfl,⟨xs,hq⟩,q⟩ | ⟨z,rfl,q⟩
  . cases r1;obtain⟨its,rv,p,hz⟩:=I1.list hq;exact wpAny_pyIter_list p.isList ⟨s1.heap.objs.size,[s1.heap.objs.size],_,_,H1,rfl,I1.kept (t':=s1.toks) λb o e=>YD _ e,Jx a _,⟨_,YT _ rfl,rfl,rfl⟩,fp,q⟩
  . cases r1;obtain⟨its,rv,p,hz⟩:=I1.tuple hq;exact wpAny_pyIter_tuple p ⟨s1.heap.objs.size,[s1.heap.objs.size],_,_,H1,rfl,I1.kept (t':=s1.toks) λb o e=>YD _ e,HH a _,⟨_,YT _ rfl,rfl,rfl⟩,fp,q⟩
  . obtain⟨t,rfl⟩:=r1;have kp:∀(o:Obj),Inv X abQ Y H1 { s1 with heap:=s1.heap.push o }:=λo=>I1.kept (t':=s1.toks) λb u e=>YD _ e;have ob:∀{n:String} (i:Nat) (h:Heap),h.IsStrIter s1.heap.objs.size n z t i->∃o,h.get? s1.heap.objs.size=some o/\∀v,o.data≠.cell v:=λi h st=>by obtain⟨o,ho,_,hd⟩:=st;exact⟨o,ho,λv e=>by rw[hd]at e; cases e⟩
    cases ha:z.cps.all (·<128)
    . exact wpAny_pyIter_wide ha ⟨s1.heap.objs.size,[s1.heap.objs.size],_,rM z,H1,rfl,kp _,CK _ z (λA' hA=>Walks.strWide hA _ z t) ob (λA i s Q E st h=>wpAny_pyIter_striter_wide st h),⟨_,YT _ rfl,rfl,rfl⟩,fp,q⟩
    . exact wpAny_pyIter_ascii ha ⟨s1.heap.objs.size,[s1.heap.objs.size],_,rM z,H1,rfl,kp _,CK _ z (λA' hA=>Walks.strAscii hA _ z t) ob (λA i s Q E st h=>wpAny_pyIter_striter_ascii st h),⟨_,YT _ rfl,rfl,rfl⟩,fp,q⟩
 exact bI (hl abQ s Y H _ I h) λv s1 ⟨x,H1,I1,r1,q⟩=>at' v s1 x H1 I1 r1 q
def cC:PV->Option (List PV)
 | .lst ps=>some ps
 | .tup ps=>some ps
 | .str x=>some (signs x)
 | _=>none
theorem du {tg l:Expr} {f:EF} (hl:PE X l (tP X.K f)):PI X tg l (Cm X.K (fX f cC)):=PI.imp (Vf hl) λY H R q=>by
 obtain⟨H0,Z0,U,pd,xs,U',s,h,k⟩:=q;obtain⟨x,h1,h2⟩:=aaU h;obtain⟨ys,h3,h4⟩:=aaV h2;cases h4;refine⟨H0,Z0,U,pd,x.1,x.2,s,h1,λv H1 s1=>?_⟩;have s2:=s1.freeze;cases e:x.1.pv with
 | lst ps=>
  rw[e]at h3 s2;cases h3;obtain⟨Z,z,r⟩:=s2.rep;unfold Rep at r;obtain⟨b,vs,rfl,h1',h2'⟩:=r;exact .inl ⟨b,rfl,⟨vs,bJ.same z h1'⟩,k _ _ _ s2 Km (YX _ _)⟩
 | tup ps=>
  rw[e]at h3 s2;cases h3;obtain⟨Z,z,r⟩:=s2.rep;unfold Rep at r;obtain⟨b,vs,rfl,h1',h2'⟩:=r;exact .inr (.inl ⟨b,rfl,⟨vs,cg.same z h1'⟩,k _ _ _ s2 Nt (YX _ _)⟩)
 | str z=>
  rw[e]at h3 s2;cases h3;obtain⟨_,r⟩:=s2.repH;exact .inr (.inr ⟨z,bW r,k _ _ _ s2.pop NK (aak _)⟩)
 | _=>rw[e]at h3; cases h3
end
section
variable {P:Program} {w:World} {K:FG} {mg:Str->Option Value} {base:Heap}
def Gm (mg:Str->Option Value) (L:List Str):Prop:=∀x∈L,mg x=none
theorem uQ {x:Str} {st:Stmt} {ps:List Str} {k:Nat} (F:eE K mg x st ps):cX P w K mg base x k ps (di K ps.length λ_ _=>none):=by
 obtain⟨f,fd,F,hm,hb⟩:=F;have no:∀vs H Q E,¬ di K ps.length (λ_ _=>none) vs H Q E:=λvs H Q E h=>by obtain⟨_,_,_,_,_,_,_,_,_,_,h,_⟩:=h;cases h
 exact⟨f,fd,⟨λvs H Q E h=>absurd h (no vs H Q E),λA outer s H args us vs Q E _ _ _ _ h=>absurd h (no vs H Q E)⟩,hm,F.kp,hb⟩
def Bb (K:FG):Sp:=λvs H Q _=>∃(a:Addr) (ns:List Int),vs=[.ref a]/\bJ K H a (ns.map V.int)/\ns.length<=63/\∀H',Q (.bl true) H'
theorem Vg {f:Addr} {fd:FuncData} {k:Nat} {g:GF} (F:j4 P w K mg base lG k f fd ["_law_script"] (di K 1 g)) (h:∀ns:List Int,ns.length<=63->∃mu',g [.lst (ns.map PV.int)] []=some (.sh (.bl true),mu')):j4 P w K mg base lG k f fd ["_law_script"] (Bb K):=
 F.imp λvs H Q E q=>by
  obtain⟨a,ns,rfl,hs,hl,k⟩:=q;obtain⟨mu',e⟩:=h ns hl;refine⟨⟨H,[]⟩,[.lst (ns.map PV.int)],[],_,mu',rfl,rfl,cR.refl _,aB.cons ?_ .nil,⟨λe he=>(by cases he),aas⟩,e,λv H' r=>?_⟩
  . unfold Rep;refine⟨a,ns.map V.int,rfl,hs,?_⟩;clear hs e hl;induction ns with
    | nil=>exact .nil
    | cons n r ih=>exact aB.cons (fL _) ih
  . obtain⟨Z',_,_,s⟩:=r;obtain⟨x,e1,e2⟩:=s.1 _ Yz;cases e1;rw[gU e2];exact k H'
end
theorem bU:∀U ls U1,ao U=some (ls,U1)->ls.length=0:=λU ls U1 h=>by cases h; rfl
theorem aG {f:EF} {g:AF} {n:Nat} (h:∀U ls U1,g U=some (ls,U1)->ls.length=n):∀U ls U1,aj f g U=some (ls,U1)->ls.length=n+1:=λU ls U1 e=>by obtain⟨x,h1,h2⟩:=aaU e;obtain⟨y,h3,h4⟩:=aaV h2;cases h4;rw[Yy,h _ _ _ h3]
theorem Wx {X:Cx} {M F:List Str} {ixs:List Nat} {sc:Scope} (S:Scope) (hS:X.env.scope=S) (kind:sc.kind=.function) (locs:∀y∈sc.names,y.2=.local->sc.names.lookup y.1=some .local) (cel:∀y∈sc.names,y.2=.cell->sc.names.lookup y.1=some .cell)
 (own:∀p∈sc.names,p.2=.free->S.names.lookup p.1=some .cell\/S.names.lookup p.1=some .free) (frs:∀x∈F,sc.names.lookup x=some .free) (ix:ixs.map (λi=>X.N[i]?)=F.map some):gQ X M F ixs sc:=by
 refine⟨kind,locs,cel,λp hp e=>by rw[hS]; exact own p hp e,frs,?_,λj i h=>?_⟩
 . have:=congrArg List.length ix;simpa using this
 . have h2:(ixs.map (λi=>X.N[i]?))[j]?=some X.N[i]?:=by rw[Y4,h]; rfl
   rw[ix,Y4]at h2;cases q:F[j]? with
   | none=>rw[q]at h2; cases h2
   | some x=>rw[q]at h2; exact(Y5 h2).symm
section
variable {P:Program} {w:World} {K:FG} {mg:Str->Option Value} {base:Heap}
theorem pJ.okP {x:Str} {st:Stmt} {N ps:List Str} {k:Nat} {g:GF} {f:Addr} {fd:FuncData} (F:pJ K x x st f fd) (S:bO N ps (aJ st))
 (h:∀(cdv:Value) (A:Around) (outer:List PySem.Env) (s:Shared) (H:Hp) (E:XK),ni k (A.deeper (envOfC x (aJ st) s.heap.objs.size f cdv))->
   ∃g':SF,(∀a mu,g a mu=eF N.length g' a mu)/\ir (Mw lG P w K mg base N x (aJ st) f cdv A outer s H E).nox (gM st) (fC K g')):j4 P w K mg base lG (k+1) f fd ps (di K ps.length g):=by
 refine F.ok S (λvs H Q E q=>?_) (λcdv A outer s H vs Q E hr q=>?_)
 . obtain⟨Z,qs,mu,r,mu',e,_⟩:=q; exact e
 . obtain⟨g',eg,b⟩:=h cdv A outer s H E hr;obtain⟨Z,qs,mu,r,mu',e,hg,z,rl,c,hr',kk⟩:=q;rw[eg]at hr';obtain⟨fl,h1,h2⟩:=aaU hr';refine⟨_,b,jk H (oM Z.g mu),Z,_,[],fl,vX hg z rl c,h1,?_⟩;cases fl with
   | rt r' U'=>
    cases h2;intro v Y' H' s';obtain⟨el,Z',hg',z',s''⟩:=s'.top;refine kk v H' ⟨Z',hg',z',s''.sub ?_⟩;exact(Zk _ _).cons_cons _
   | nx U'=>
    cases h2;intro Y' H' s';obtain⟨el,Z',hg',z',s''⟩:=s';exact kk .non H' ⟨Z',hg',z',(s''.sub (Zk _ _)).consS (uK _)⟩
   | bk U'=>cases h2
   | ct U'=>cases h2
end
section
variable {X:Cx}
def X3:PV->Option PV
 | .int i=>some (.int (-i))
 | _=>none
def CT (f:EF):EF:=λU=>(f U).bind λx=>(X3 x.1.pv).map λp=>(.sh p,x.2)
theorem NP {a:Expr} {f:EF} {pos:Pos} (ha:PE X a (tP X.K f)):PE X (.UnaryOp .USub a pos) (tP X.K (CT f)):=PE.imp (Wk Tz ha) λY H Q q=>by
 obtain⟨H0,Z0,U,pd,r,U',s,h,k⟩:=q;obtain⟨x,h1,h2⟩:=aaU h;obtain⟨p,h3,h4⟩:=aaV h2;cases h4;refine⟨H0,Z0,U,pd,x.1,x.2,s,h1,λv H1 s1=>?_⟩;obtain⟨_,r1⟩:=s1.freeze.repH;cases e:x.1.pv with
 | int i=>
  rw[e]at h3 r1;cases h3;exact⟨i,bC r1,k _ H1 (s1.pop.scal fL)⟩
 | _=>rw[e]at h3; cases h3
end
theorem Gn {b:BF} {body:SF} {xs:List PV} (I:Nat->Ev->Prop) (h0:I 0 U) (hs:∀(i:Nat) x U,xs[i]?=some x->I i U->∃U1,b x U=some U1/\∃U2,(body U1=some (.nx U2)\/body U1=some (.ct U2))/\I (i+1) U2):∃U',cP b body xs U=some (.nx U')/\I xs.length U':=by
 induction xs generalizing U I with
 | nil=>exact⟨U,rfl,h0⟩
 | cons x xs ih=>
  obtain⟨U1,e1,U2,e2,h2⟩:=hs 0 x U rfl h0;obtain⟨U',e3,h3⟩:=ih (U:=U2) (λi U=>I (i+1) U) h2 (λi y U h=>hs (i+1) y U (by simpa using h));refine⟨U',?_,h3⟩;show (b x U).bind _=_;rw[e1,YB];rcases e2 with e2 | e2<;>rw[e2,YB]<;>exact e3
theorem v4 {b:BF} {tc:TF} {te:EF} {mu:Mu} (J:Ev->Prop) (hJ:∀U,J U->U.mu=mu) (c:PV->Bool) (f:PV->PV):∀{xs:List PV} {U:Ev} {acc:List PV},J U->acc.length+xs.length<=100000->
 (∀x∈xs,∀U,J U->∃U1,b x U=some U1/\∃U2,tc U1=some (c x,U2)/\J U2/\(c x=true->∃l U3,te U2=some (l,U3)/\l.pv=f x/\J U3))->cz b tc te xs U acc=some (acc++(xs.filter c).map f,mu)
 | [],U,acc,h,_,_=>by show some (acc,U.mu)=_;rw[hJ U h];simp
 | x::xs,U,acc,h,hl,hs=>by
  obtain⟨U1,e1,U2,e2,h2,h3⟩:=hs x Yz U h;have hs':∀y∈xs,∀U,J U->∃U1,b y U=some U1/\∃U2,tc U1=some (c y,U2)/\J U2/\(c y=true->∃l U3,te U2=some (l,U3)/\l.pv=f y/\J U3):=λy hy=>hs y (YG _ hy);rw[Yy]at hl;show (b x U).bind _=_;rw[e1,YB,e2,YB];cases hc:c x with
  | false=>
   simp only[Zg,if_false];rw[v4 J hJ c f h2 (by omega) hs',List.filter_cons_of_neg (by simp[hc])]
  | true=>
   obtain⟨l,U3,e3,ef,h4⟩:=h3 hc;simp only[if_true];rw[e3,YB,aaN (by omega),v4 J hJ c f h4 (by rw[YJ,List.length_singleton]; omega) hs',List.filter_cons_of_pos (by simp[hc]),ef];simp
theorem Kw {b:BF} {te:EF} {mu:Mu} (J:Ev->Prop) (hJ:∀U,J U->U.mu=mu) (f:PV->PV) {xs:List PV} (h:J U) (hl:xs.length<=100000)
 (hs:∀x∈xs,∀U,J U->∃U1,b x U=some U1/\∃l U3,te U1=some (l,U3)/\l.pv=f x/\J U3) (hb:∀x∈xs,∀U U1,J U->b x U=some U1->J U1):cz b bQ te xs U []=some (xs.map f,mu):=by
 rw[v4 J hJ (λ_=>true) f h (by simpa using hl) λx hx U hU=>?_]
 . rw[Zr,List.filter_eq_self.mpr (λ_ _=>rfl)]
 . obtain⟨U1,e1,l,U3,e3⟩:=hs x hx U hU;exact⟨U1,e1,U1,rfl,hb x hx U U1 hU e1,λ_=>⟨l,U3,e3⟩⟩
theorem bV {a b:Int} (h:0<b):aO (.int a) (.int b)=some (.sh (.int (a%b))):=by show (if decide (0<b)=true then _ else _)=_;rw[aaN (aaR h)]
theorem fD {a b:Int} (h:0<b) (h2:b<1073741824):aV (.int a) (.int b)=some (.sh (.int (a/b))):=by show (if decide (0<b/\b<1073741824)=true then _ else _)=_;rw[aaN (aaR ⟨h,h2⟩)]
theorem CV {a b:Int} (h:-18446744073709551616<a) (h2:a<18446744073709551616):eY (.int a) (.int b)=some (.sh (.int (a*b))):=by show (if decide ((-(2 ^ 64)<a/\a<2 ^ 64)\/(-(2 ^ 64)<b/\b<2 ^ 64))=true then _ else _)=_;rw[aaN (aaR (.inl ⟨by omega,by omega⟩))]
theorem qH {a b:Int} (h:-18446744073709551616<b) (h2:b<18446744073709551616):eY (.int a) (.int b)=some (.sh (.int (a*b))):=by show (if decide ((-(2 ^ 64)<a/\a<2 ^ 64)\/(-(2 ^ 64)<b/\b<2 ^ 64))=true then _ else _)=_;rw[aaN (aaR (.inr ⟨by omega,by omega⟩))]
theorem aN {g:PV->PV->Option Lc} {fa fb:EF} {U U1 U2:Ev} {x y l:Lc} (h1:fa U=some (x,U1)) (h2:fb U1=some (y,U2)) (h3:g x.pv y.pv=some l):aq g fa fb U=some (l,U2):=by unfold aq;rw[h1,YB,h2,YB,h3];rfl
theorem rN {α:Type} {l:List α} {i:Int} (h0:0<=i) (h1:i<l.length):∃x,gq l i=some x/\l[i.toNat]?=some x:=by
 have hi:i.toNat<l.length:=by omega
 refine⟨l[i.toNat],?_,Y0 hi⟩;unfold gq oH;rw[aaN h0,aaN h1,YB,Y0 hi]
theorem qJ {lo:Int} {n:Nat}:(gH lo n).length=n:=by simp[gH]
theorem Ry {lo:Int} {n:Nat} {p:PV} (h:p∈gH lo n):∃i:Nat,i<n/\p=.int (lo+i):=by unfold gH at h;obtain⟨i,hi,rfl⟩:=Za.mp h;exact⟨i,List.mem_range.mp hi,rfl⟩
theorem yx {f g:SF} {U U':Ev} (h:f U=some (.nx U')):aD f g U=g U':=by unfold aD; rw[h,YB]
theorem yz {f g:SF} {U U':Ev} {r:Lc} (h:f U=some (.rt r U')):aD f g U=some (.rt r U'):=by unfold aD; rw[h,YB]
theorem Rz {i:Nat} {f:EF} {U U1:Ev} {l:Lc} (h:f U=some (l,U1)) (hi:i<U1.vs.length):aP i f U=some (.nx (U1.set i (some l))):=by unfold aP; rw[h,YB,aaN hi]
theorem jW {c:TF} {f g:SF} {U U1:Ev} (h:c U=some (true,U1)):dj c f g U=f U1:=by unfold dj; rw[h,YB,aaN rfl]
theorem jX {c:TF} {f g:SF} {U U1:Ev} (h:c U=some (false,U1)):dj c f g U=g U1:=by unfold dj; rw[h,YB,aaO ZD]
theorem RB {f:EF} {U U1:Ev} {l:Lc} (h:f U=some (l,U1)):dU f U=some (.rt l U1):=by unfold dU; rw[h]; rfl
theorem RC {f:IF} {b:BF} {body:SF} {U U1:Ev} {xs:List PV} (h:f U=some (xs,U1)):eQ f b body U=cP b body xs U1:=by unfold eQ; rw[h,YB]
theorem bG {n:Nat} {g:SF} {ps:List PV} {mu:Mu} {r:Lc} (h:g (env0 n ps mu)=some (.rt r U)):eF n g ps mu=some (r,U.mu):=by unfold eF; rw[h,YB]
theorem RD {n:Nat} {g:SF} {ps:List PV} {mu:Mu} (h:g (env0 n ps mu)=some (.nx U)):eF n g ps mu=some (.sh .non,U.mu):=by unfold eF; rw[h,YB]
theorem NQ {g:GF} {a:AF} {U U1:Ev} {ls:List Lc} {r:Lc} {mu:Mu} (h:a U=some (ls,U1)) (h2:g (ls.map Lc.pv) U1.mu=some (r,mu)):bh g a U=some (r,⟨U1.vs,mu⟩):=by unfold bh; rw[h,YB,h2]; rfl
theorem NT {f:EF} {a:AF} {U U1 U2:Ev} {l:Lc} {ls:List Lc} (h:f U=some (l,U1)) (h2:a U1=some (ls,U2)):aj f a U=some (l::ls,U2):=by unfold aj; rw[h,YB,h2]; rfl
theorem Wy {g:List PV->Option Lc} {a:AF} {U U1:Ev} {ls:List Lc} {r:Lc} (h:a U=some (ls,U1)) (h2:g (ls.map Lc.pv)=some r):eB g a U=some (r,U1):=by unfold eB; rw[h,YB,h2]; rfl
theorem fM {f:IF} {m:Nat} {ixs:List Nat} {b:BF} {tc:TF} {te:EF} {U U1:Ev} {xs ys:List PV} {mu:Mu} (h:f U=some (xs,U1)) (h2:cz b tc te xs (oN m ixs (iw ixs U1)) []=some (ys,mu)):dF f m ixs b tc te U=some (.own (.lst ys),⟨(iw ixs U1).vs,mu⟩):=by unfold dF; rw[h,YB,h2]; rfl
theorem dw {f:EF} {g:PV->Option (List PV)} {U U1:Ev} {l:Lc} {xs:List PV} (h:f U=some (l,U1)) (h2:g l.pv=some xs):fX f g U=some (xs,U1):=by unfold fX; rw[h,YB,h2]; rfl
theorem jC {a:AF} {U U1:Ev} {l:Lc} {n:Int} (h:a U=some ([l],U1)) (hl:l.pv=.int n) (h1:-4611686018427387904<=n) (h2:n<4611686018427387904):f9 a U=some (gH 0 n.toNat,U1):=by unfold f9;rw[h,YB];show (match [l.pv] with | [.int j]=>_ | _=>_)=_;rw[hl];show (if -(2 ^ 62)<=n/\n<2 ^ 62 then _ else _)=_;rw[aaN ⟨by omega,by omega⟩]
theorem NZ {f:TF} {U U1:Ev} {b:Bool} (h:f U.peek=some (b,U1)):uP f U=some (b,U):=by unfold uP; rw[h]; rfl
theorem N5 {f:EF} {U U1:Ev} {l:Lc} (h:f U.peek=some (l,U1)) (hf:xm l=true):jV f U=some (l,U):=by unfold jV; rw[h,YB,aaN hf]
theorem jY {f:EF} {tr:PV->Option Bool} {U U1:Ev} {l:Lc} {b:Bool} (h:f U=some (l,U1)) (h2:tr l.pv=some b):tT f tr U=some (b,U1):=by unfold tT; rw[h,YB,h2]; rfl
theorem N6 {f:EF} {a:AF} {U U1 U2:Ev} {l m:Lc} {z:Str} {ps:List PV} {xs:List Str} (h:f U=some (l,U1)) (h2:a U1=some ([m],U2)) (hl:l.pv=.str z) (hm:m.pv=.lst ps) (hx:strsOf ps=some xs) (hs:(xs.map (·.length)).sum+xs.length*z.length<=100000):mj f a U=some (.sh (.str (Txt.join z xs)),U2):=by unfold mj;rw[h,YB,h2,YB,hl];show (match PV.str z,[m.pv] with | .str z,[.lst ps]=>_ | _,_=>_)=_;rw[hm];show (strsOf ps).bind _=_;rw[hx,YB,aaN hs]
section
variable {f g:SF} {U U1 U2 U':Ev} {R:Option Fl} {l m r:Lc} {fa fb fc:EF} {c d:TF} {a:AF} {b:Bool}
theorem aF (h:f U=some (.nx U')) (h2:g U'=R):aD f g U=R:=(yx h).trans h2
theorem bD {i:Nat} (h:fa U=some (l,U1)) (hi:Nat.blt i U1.vs.length=true) (e:U1.set i (some l)=U'):aP i fa U=some (.nx U'):=by rw[Rz h (by simpa using hi),e]
theorem fY (h:fa U=some (l,U1)):dU fa U=some (.rt l U1):=RB h
theorem mq {o:PV->PV->Option Lc} {p q:PV} (h1:fa U=some (l,U1)) (hx:l.pv=p) (h2:fb U1=some (m,U2)) (hy:m.pv=q) (h3:o p q=some r):aq o fa fb U=some (r,U2):=aN h1 h2 (by rw[hx,hy]; exact h3)
theorem bH {G:GF} {ls:List Lc} {ps:List PV} {mu:Mu} {v:List (Option Lc)} {mu1:Mu} (h:a U=some (ls,U1)) (hp:ls.map Lc.pv=ps) (hv:U1.vs=v) (hm:U1.mu=mu1) (h2:G ps mu1=some (r,mu)):bh G a U=some (r,⟨v,mu⟩):=by subst hp hv hm;exact NQ h h2
theorem lR {G:List PV->Option Lc} {ls:List Lc} {ps:List PV} (h:a U=some (ls,U1)) (hp:ls.map Lc.pv=ps) (h2:G ps=some r):eB G a U=some (r,U1):=by subst hp;exact Wy h h2
theorem aC {ls:List Lc} (h:fa U=some (l,U1)) (h2:a U1=some (ls,U2)):aj fa a U=some (l::ls,U2):=NT h h2
theorem Ky (h:c U=some (b,U1)):uL c U=some (!b,U1):=by unfold uL; rw[h]; rfl
theorem jQ {b2:Bool} (h:c U=some (b,U1)) (h2:d U1=some (b2,U1)):cL c d U=some (b&&b2,U1):=by
 unfold cL;rw[h,YB];cases b with
 | true=>rw[aaN rfl,h2]; rfl
 | false=>rfl
theorem Ja {b2:Bool} (h:c U=some (b,U1)) (h2:d U1=some (b2,U1)):qm c d U=some (b||b2,U1):=by
 unfold qm;rw[h,YB];cases b with
 | true=>rfl
 | false=>rw[aaO ZD,h2]; rfl
theorem CZ (h:c U.peek=some (b,U1)):uP c U=some (b,U):=NZ h
theorem Dc (h:fa U.peek=some (l,U1)) (hf:xm l=true):jV fa U=some (l,U):=N5 h hf
theorem Dd {ls:List Lc} {ps:List PV} (h:a U=some (ls,U1)) (hl:Nat.ble ls.length 1000=true) (hp:ls.map Lc.pv=ps):cM a U=some (.own (.lst ps),U1):=by subst hp;unfold cM;rw[h,YB,aaN (by simpa using hl)]
theorem fJ {ls:List Lc} {ps:List PV} (h:a U=some (ls,U1)) (hl:Nat.ble ls.length 1000=true) (hp:ls.map Lc.pv=ps):aZ a U=some (.sh (.tup ps),U1):=by subst hp;unfold aZ;rw[h,YB,aaN (by simpa using hl)]
theorem gb {p q:PV} (h1:fa U=some (l,U1)) (hx:l.pv=p) (h2:fb U1=some (m,U2)) (hy:m.pv=q) (hn:∀n,p≠.ptr n) (h3:mR p q=some r):aR fa fb U=some (r,U2):=by
 subst hx hy;unfold aR;rw[h1,YB,h2,YB];split
 . rename_i n k e1 e2;exact(hn n e1).elim
 . rw[h3]; rfl
theorem Kz {n:Nat} {k:Int} {ws:List PV} {p:PV} (h1:fa U=some (l,U1)) (hx:l.pv=.ptr n) (h2:fb U1=some (m,U2)) (hy:m.pv=.int k) (hm:U2.mu[n]?=some (some (.lst ws))) (h3:gq ws k=some p):aR fa fb U=some (.sh p,U2):=by unfold aR;rw[h1,YB,h2,YB,hx,hy];show (match U2.mu[n]? with | some (some (.lst ws))=>_ | _=>_)=_;rw[hm];show (gq ws k).map _=_;rw[h3];rfl
theorem mU {i:Nat} {ws0 ws:List PV} {p:PV} (h0:U.vs[i]?=some (some (.own (.lst ws0)))) (h:fa U=some (l,U1)) (hp:l.pv=p) (h1:U1.vs[i]?=some (some (.own (.lst ws)))) (hz:ws.length<100000) (e:U1.set i (some (.own (.lst (ws++[p]))))=U'):iK i fa U=some (.nx U'):=by subst hp;unfold iK;rw[h0];show (fa U).bind _=_;rw[h,YB];show (match U1.vs[i]? with | some (some (.own (.lst ws)))=>_ | _=>_)=_;rw[h1];show (if ws.length<100000 then _ else _)=_;rw[aaN hz,e]
theorem qK {i:Nat} {ws0 ws ps:List PV} (h0:U.vs[i]?=some (some (.own (.lst ws0)))) (h:fa U=some (l,U1)) (hp:l.pv=.lst ps) (h1:U1.vs[i]?=some (some (.own (.lst ws)))) (hz:ws.length+ps.length<=100000) (e:U1.set i (some (.own (.lst (ws++ps))))=U'):j8 i fa U=some (.nx U'):=by unfold j8;rw[h0];show (fa U).bind _=_;rw[h,YB,hp];show (match PV.lst ps,U1.vs[i]? with | .lst ps,some (some (.own (.lst ws)))=>_ | _,_=>_)=_;rw[h1];show (if ws.length+ps.length<=100000 then _ else _)=_;rw[aaN hz,e]
theorem RG {i:Nat} {fi fv:EF} {ws0 ws:List PV} {k:Int} {j:Nat} {x y:Lc} {p:PV} (h:fv U=some (x,U1)) (hxp:x.pv=p) (h0:U1.vs[i]?=some (some (.own (.lst ws0)))) (h2:fi U1=some (y,U2)) (hy:y.pv=.int k) (h1:U2.vs[i]?=some (some (.own (.lst ws)))) (hj:oH ws.length k=some j) (e:U2.set i (some (.own (.lst (ws.set j p))))=U'):uO i fi fv U=some (.nx U'):=by subst hxp;unfold uO;rw[h,YB];show (match U1.vs[i]? with | some (some (.own (.lst _)))=>_ | _=>_)=_;rw[h0];show (fi U1).bind _=_;rw[h2,YB,hy];show (match PV.int k,U2.vs[i]? with | .int k,some (some (.own (.lst ws)))=>_ | _,_=>_)=_;rw[h1];show (oH ws.length k).map _=_;rw[hj,aam,e]
theorem PX {C:String} {p:PV} (h:fa U=some (l,U1)) (hp:l.pv=p) (h2:yw p C=some b):Kv C fa U=some (.sh (.bl b),U1):=by subst hp;unfold Kv;rw[h,YB,h2];rfl
theorem dN {F:IF} {B:BF} {body:SF} {xs:List PV} (h:F U=some (xs,U1)) (h2:cP B body xs U1=R):eQ F B body U=R:=(RC h).trans h2
end
section
variable {X:Cx}
def jZ (f:EF):EF:=λU=>(f U).bind λx=>match x.1 with
 | .own p=>some (.sh (.ptr x.2.mu.length),⟨x.2.vs,x.2.mu++[some p]⟩)
 | _=>none
theorem xx {e:Expr} {f:EF} (h:PE X e (tP X.K f)):PE X e (tP X.K (jZ f)):=PE.imp h λY H Q q=>by
 obtain⟨H0,Z0,U,pd,l,U',s,f,k⟩:=q;obtain⟨x,h1,h2⟩:=aaU f;refine⟨H0,Z0,U,pd,x.1,x.2,s,h1,λv H1 s1=>?_⟩;split at h2
 . rename_i p ep;cases h2;rw[ep]at s1;obtain⟨el,Z,hg,z,so⟩:=s1.top;obtain⟨a,ea,ra,za,ha0⟩:=so.1 _ Yz;have ea':v=.ref a:=Y5 ea;subst ea';have lz:fV Z ⟨Z.z,Z.g++[a]⟩:=⟨cR.refl _,aap _ _⟩;have so2:=so.step (Z':=⟨Z.z,Z.g++[a]⟩) (H':=H1) lz λe he b hb=>⟨rfl,(gG so he hb).1⟩;refine k _ H1 (.mk (Z:=⟨Z.z,Z.g++[a]⟩) el (by simp[hg]) ⟨z.zh,z.h0,z.z0.trans lz,z.new⟩ (Slots.consS ?_ ?_))
   . refine so2.perm ?_;have ec:cel (Z.g++[a]) (x.2.mu++[some p])=cel Z.g x.2.mu++[(some (.ref a),some (.own p))]:=by unfold cel;rw[YZ,YZ,aae (by simp[hg])];rfl
     unfold sl;show List.Perm (cel (Z.g++[a]) (x.2.mu++[some p])++_) _;rw[ec,YQ];exact Zd
   . unfold Rep;exact⟨a,rfl,by show (Z.g++[a])[x.2.mu.length]?=some a; rw[hg,Y8 (YC _)]; simp⟩
 . cases h2
def Ys (f:EF):EF:=λU=>(f U).bind λx=>match x.1 with
 | .sh (.ptr n)=>match x.2.mu[n]? with
  | some (some p)=>some (.own p,⟨x.2.vs,x.2.mu.set n none⟩)
  | _=>none
 | _=>none
def openV (i:Nat) (U:Ev):Option Ev:=match U.vs[i]? with
 | some (some (.sh (.ptr n)))=>match U.mu[n]? with
  | some (some p)=>some ⟨U.vs.set i (some (.own p)),U.mu.set n none⟩
  | _=>none
 | _=>none
def uR (i:Nat) (f:SF):SF:=λU=>(f U).bind λfl=>match fl with
 | .nx U'=>(openV i U').map .nx
 | _=>none
theorem SR.openV {U U':Ev} {i:Nat} (s:SR K H0 Z0 Y H U pd) (h:PL.openV i U=some U'):SR K H0 Z0 Y H U' pd:=by
 unfold PL.openV at h;split at h
 . rename_i n en;split at h
   . rename_i p em;cases h;obtain⟨v,ev,s1⟩:=s.var en;obtain⟨a,rfl,s2⟩:=s1.cellO (p:=p) em;have s3:=SR.sub s2 (pd:=(.ref a,.own p)::pd) ((YX _ _).cons_cons _);have hi:i<U.vs.length:=(YL.mp en).1;have s4:=s3.store (i:=i) (by show i<(U.vs.set i _).length; rw[aad]; exact hi);rw[aaW ev]at s4;have e:(⟨(U.vs.set i (some (.sh (.ptr n)))).set i (some (.own p)),U.mu.set n none⟩:Ev)=⟨U.vs.set i (some (.own p)),U.mu.set n none⟩:=by rw[Z3]
     have s5:SR K H0 Z0 Y H ⟨(U.vs.set i (some (.sh (.ptr n)))).set i (some (.own p)),U.mu.set n none⟩ pd:=s4;rw[e]at s5;exact s5
   . cases h
 . cases h
theorem Gp {i:Nat} {st:Stmt} {f:SF} (h:PS X st (fC X.K f)):PS X st (fC X.K (uR i f)):=PS.imp h λD Y H q=>by
 obtain⟨H0,Z0,U,pd,fl,s,h,k⟩:=q;obtain⟨y,h1,h2⟩:=aaU h;cases y with
 | nx U'=>
  obtain⟨U2,h3,rfl⟩:=aaV h2;exact⟨H0,Z0,U,pd,.nx U',s,h1,λY' H' s'=>k Y' H' (s'.openV h3)⟩
 | rt r U'=>cases h2
 | bk U'=>cases h2
 | ct U'=>cases h2
def qt (f:EF) (lo hi:OF):EF:=λU=>(f U).bind λx=>(lo x.2).bind λy=>(hi y.2).bind λz=>match x.1.pv with
 | .lst ps=>some (.own (.lst (rK ps y.1 z.1)),z.2)
 | .str t=>if t.length<=100000 then some (.sh (.str (ji t y.1 z.1)),z.2) else none
 | _=>none
theorem qM {e:Expr} {lo hi:Option Expr} {p2 pos:Pos} {f:EF} {fl fh:OF} (he:PE X e (tP X.K f)) (hl:PO X lo (xj X.K fl)) (hu:PO X hi (xj X.K fh)):PE X (.Subscript e (.Slice lo hi none p2) pos) (tP X.K (qt f fl fh)):=PE.imp (Bm (QT.or Ui_) he hl hu) λY H Q q=>by
 obtain⟨H0,Z0,U,pd,r,U',s,h,k⟩:=q;obtain⟨x,h1,h2⟩:=aaU h;obtain⟨y,h3,h4⟩:=aaU h2;obtain⟨z,h5,h6⟩:=aaU h4;refine⟨H0,Z0,U,pd,x.1,x.2,s,h1,λv H1 s1=>⟨H0,Z0,x.2,_,y.1,y.2,s1.freeze,h3,λH2 s2=>⟨H0,Z0,y.2,_,z.1,z.2,s2,h5,λH3 s3=>?_⟩⟩⟩;cases e:x.1.pv with
 | lst ps=>
  rw[e]at h6 s3;cases h6;obtain⟨el,Z,hg,zz,r1,s4⟩:=s3.sh;unfold Rep at r1;obtain⟨a,vs,rfl,g1,g2⟩:=r1;refine .inl ⟨a,vs,rfl,bJ.same zz.zh g1,λp hp=>k _ _ ?_⟩;obtain⟨z',s'⟩:=s4.new (o:=.lst (oG vs y.1 z.1)) (p:=.lst (rK ps y.1 z.1)) zz hp ⟨_,aW,g2.cut⟩;exact .mk el hg z' s'
 | str t=>
  rw[e]at h6 s3;have h6':(if t.length<=100000 then some (Lc.sh (.str (ji t y.1 z.1)),z.2) else none)=some (r,U'):=h6;split at h6'
  . rename_i hz;cases h6';obtain⟨_,r1⟩:=s3.repH;unfold Rep at r1;exact .inr ⟨t,r1,small hz,k _ H3 (s3.pop.scal kE)⟩
  . cases h6'
 | _=>rw[e]at h6; cases h6
theorem SR.popO {a:Addr} {ws:List PV} {p:PV} (s:SR K H0 Z0 Y H U ((.ref a,.own (.lst ws))::pd)) (hp:ws[ws.length-1]?=some p):
 ∃us y,H a=some (.lst us)/\us[us.length-1]?=some y/\SR K H0 Z0 Y (upd H a (.lst us.dropLast)) U ((.ref a,.own (.lst ws.dropLast))::(y,.sh p)::pd):=by
 obtain⟨el,Z,hg,z,so⟩:=s.top;obtain⟨b,eb,⟨us,hu,hr⟩,_⟩:=so.1 _ Yz;cases eb;obtain⟨y,hy,ry⟩:=hr.get hp;have hl:=hr.length;refine⟨us,y,hu,by rw[hl]; exact hy,?_⟩;have hd:aB K Z ws.dropLast us.dropLast:=by rw[List.dropLast_eq_take,List.dropLast_eq_take,hl];exact hr.take _
 obtain⟨z',s'⟩:=so.write (o:=.lst us.dropLast) (q:=.lst ws.dropLast) z ⟨us.dropLast,aW,hd⟩;have s2:=(s'.consS (v:=y) (p:=p) ry).perm (List.Perm.swap (some y,some (Lc.sh p)) (some (V.ref a),some (Lc.own (.lst ws.dropLast))) _);exact .mk (Z:=Z) el hg z' (s2.perm (cD.cons _))
def nQ (ps:List PV):List PV:=ps.zipIdx.map λx=>.tup [.int (x.2:Nat),x.1]
theorem KH {ps:List PV} {i:Nat}:(nQ ps)[i]?=ps[i]?.map λp=>.tup [.int (i:Nat),p]:=by unfold nQ;rw[Y4,List.getElem?_zipIdx];cases ps[i]?<;>simp
theorem KJ {ps:List PV}:(nQ ps).length=ps.length:=by unfold nQ; simp
theorem KN {H0:Hp} {a:Addr} {ps:List PV}:nA K H0 Z0 ((.ref a,.sh (.lst ps))::pd) (Uj K a) (nQ ps):=by intro Y H U i s;obtain⟨el,Z,hg,z,r,so⟩:=s.sh;have r0:=r;unfold Rep at r;obtain⟨b,vs,e,h1,h2⟩:=r;cases e;have hq:=bJ.same z.zh h1;refine⟨λx hx=>?_,λhl=>⟨vs,hq,by rw[h2.length]; rw[KJ]at hl; omega⟩⟩;rw[KH]at hx;obtain⟨p,hp,rfl⟩:=aaV hx;obtain⟨v,hv,rv⟩:=h2.get hp;refine⟨⟨vs,v,hq,hv⟩,λv' H' y=>?_⟩;obtain⟨T,y,hT,rfl,rfl,hy⟩:=y;have e1:=hy vs hq;rw[hv]at e1;cases e1;obtain⟨z',lz,so'⟩:=(so.consS r0).newF z (a:=T) (o:=.tup [.int (i:Nat),v]) hT;refine .mk (Z:=Z.put T (.tup [.int (i:Nat),v])) el hg z' (Slots.perm (Slots.consS so' ?_) (cD.cons _));unfold Rep;exact⟨T,[.int (i:Nat),v],rfl,.inl (.inl (by show upd Z.z T _ T=_; rw[aW])),aB.cons (fL _) (aB.cons (rv.mono lz) .nil)⟩
def oR (f:EF):IF:=λU=>(f U).bind λx=>match x.1.pv with
 | .lst ps=>some (nQ ps,x.2)
 | _=>none
theorem uT {a:Expr} {f:EF} {p pos:Pos} {elts:List Expr} {x1} {tpos:Pos} (hg:Gl X "enumerate") (hm:X.mg "enumerate" = none) (ha:PA X [a] (jf X.K (aj f ao))) (hs:starEach [a] X.env=[(false,eval a X.env)]:=by rfl):PI X (.Tuple elts x1 tpos) (.Call (.Name "enumerate" p) [a] [] pos) (Cm X.K (oR f)):=PI.imp (Q6 hg hm ha hs) λY H R q=>by
 obtain⟨H0,Z0,U,pd,xs,U',s,h,k⟩:=q;obtain⟨x,h1,h2⟩:=aaU h;refine⟨H0,Z0,U,pd,[x.1],x.2,s,?_,λvs H1 e1 s1=>?_⟩
 . unfold aj ao;rw[h1];rfl
 . obtain⟨v,rfl⟩:=vD e1;have s2:SR X.K H0 Z0 Y H1 x.2 ((v,.sh x.1.pv)::pd):=SR.freeze s1;cases e:x.1.pv with
   | lst ps=>
    rw[e]at h2 s2;cases h2;obtain⟨Z,z,r⟩:=s2.rep;unfold Rep at r;obtain⟨b,us,rfl,h1',h2'⟩:=r;exact⟨b,rfl,⟨us,bJ.same z h1'⟩,k _ _ _ s2 KN (YX _ _)⟩
   | _=>rw[e]at h2; cases h2
abbrev PD:=List (Key×PV)
def jK:PD->Key->Option PV
 | [],_=>none
 | kv::r,k=>if kv.1=k then some kv.2 else jK r k
def my (k:Key) (v:PV):PD->PD
 | []=>[]
 | kv::r=>(if kv.1=k then (kv.1,v) else kv)::my k v r
def ig (l:PD) (k:Key) (v:PV):PD:=match jK l k with
 | some _=>my k v l
 | none=>l++[(k,v)]
def De:PV->Option Key
 | .int i=>some (.inl i)
 | .str x=>some (.inr x)
 | _=>none
def dz (l:PD):PV:=.dk (l.map (·.1)) (l.map (·.2))
def dW (K:FG) (Z:ZG):PD->List (Key×V)->Prop:=Paired λp q=>p.1=q.1/\Rep K Z p.2 q.2
section
variable {K:FG} {Z Z':ZG}
theorem Gq:∀{kvs:List (Key×V)} {ks:List Key} {ps:List PV},kvs.map (·.1)=ks->aB K Z ps (kvs.map (·.2))->dW K Z (ks.zip ps) kvs
 | [],ks,ps,h1,h2=>by subst h1;exact .nil
 | kv::r,ks,ps,h1,h2=>by
  subst h1;cases ps with
  | nil=>have:=h2.inv0; simp at this
  | cons p ps=>
   obtain⟨v,r',e,h3,h4⟩:=h2.inv;rw[YW]at e;injection e with e1 e2;subst e1 e2;rw[YW,ZS];exact .cons ⟨rfl,h3⟩ (Gq rfl h4)
theorem dW.keys:∀{l:PD} {kvs:List (Key×V)},dW K Z l kvs->kvs.map (·.1)=l.map (·.1)
 | _,_,.nil=>rfl
 | _,_,.cons h t=>by rw[YW,YW,h.1,dW.keys t]
theorem dW.vals:∀{l:PD} {kvs:List (Key×V)},dW K Z l kvs->aB K Z (l.map (·.2)) (kvs.map (·.2))
 | _,_,.nil=>.nil
 | _,_,.cons h t=>aB.cons h.2 (dW.vals t)
theorem dW.len:∀{l:PD} {kvs:List (Key×V)},dW K Z l kvs->kvs.length=l.length
 | _,_,.nil=>rfl
 | _,_,.cons h t=>by rw[Yy,Yy,dW.len t]
theorem dW.val {k:Key}:∀{l:PD} {kvs:List (Key×V)},dW K Z l kvs->(∀p,jK l k=some p->∃v,qg kvs k=some v/\Rep K Z p v)/\(jK l k=none->qg kvs k=none)
 | _,_,.nil=>⟨λp h=>(by cases h),λ_=>rfl⟩
 | p::l,q::kvs,.cons h t=>by
  have ih:=dW.val (k:=k) t;by_cases e:p.1=k
  . have e':q.1=k:=by rw[<-h.1]; exact e
    refine⟨λx hx=>⟨q.2,vQ e',?_⟩,λhx=>?_⟩
    . unfold jK at hx; rw[aaN e]at hx; cases hx; exact h.2
    . unfold jK at hx; rw[aaN e]at hx; cases hx
  . have e':¬ q.1=k:=by rw[<-h.1]; exact e
    rw[vR e'];unfold jK;rw[aaO e];exact ih
theorem dW.repl {k:Key} {p:PV} {v:V} (r:Rep K Z p v):∀{l:PD} {kvs:List (Key×V)},dW K Z l kvs->dW K Z (my k p l) (kvs.map λkv=>if kv.1=k then (kv.1,v) else kv)
 | _,_,.nil=>.nil
 | a::l,b::kvs,.cons h t=>by
  refine .cons ?_ (dW.repl r t);by_cases e:a.1=k
  . have e':b.1=k:=by rw[<-h.1]; exact e
    rw[aaN e];dsimp only;rw[aaN e'];exact⟨h.1,r⟩
  . have e':¬ b.1=k:=by rw[<-h.1]; exact e
    rw[aaO e];dsimp only;rw[aaO e'];exact h
theorem dW.app:∀{l l':PD} {kvs kvs':List (Key×V)},dW K Z l kvs->dW K Z l' kvs'->dW K Z (l++l') (kvs++kvs')
 | _,_,_,_,.nil,h=>h
 | _,_,_,_,.cons a t,h=>.cons a (dW.app t h)
theorem dW.put {k:Key} {p:PV} {v:V} {l:PD} {kvs:List (Key×V)} (h:dW K Z l kvs) (r:Rep K Z p v):dW K Z (ig l k p) (putK kvs k v):=by
 have hv:=h.val (k:=k);unfold ig;cases e:jK l k with
 | none=>
  rw[MN v (hv.2 e)];exact h.app (.cons ⟨rfl,r⟩ .nil)
 | some q=>
  obtain⟨u,hu,_⟩:=hv.1 q e;have e2:putK kvs k v=kvs.map λkv=>if kv.1=k then (kv.1,v) else kv:=by unfold putK;rw[rm,hu];rfl
  rw[e2];exact h.repl r
theorem yC {p:PV} {k:Key} {v:V} (h:De p=some k) (r:Rep K Z p v):v=kV k:=by
 cases p with
 | int i=>cases h; exact bC r
 | str x=>cases h; exact bW r
 | _=>cases h
end
theorem SR.takeD {i:Nat} {ks:List Key} {ps:List PV} (s:SR K H0 Z0 Y H U pd) (e:U.vs[i]?=some (some (.own (.dk ks ps)))):
 ∃a,Y[i]?=some (some (.ref a))/\SR K H0 Z0 Y H (U.set i none) ((.ref a,.own (.dk ks ps))::pd):=by
 obtain⟨v,e1,s1⟩:=s.take e;obtain⟨_,Z,_,z,so⟩:=s1.top;obtain⟨a,ea,_⟩:=so.1 _ Yz;have ea':v=.ref a:=Y5 ea;subst ea';exact⟨a,e1,s1⟩
theorem SR.setD {v:V} {p:PV} {a:Addr} {ks:List Key} {ps:List PV} {k:Key} (s:SR K H0 Z0 Y H U ((v,.sh p)::(.ref a,.own (.dk ks ps))::pd)):
 ∃kvs,H a=some (.dK kvs)/\kvs.length=ks.length/\SR K H0 Z0 Y (upd H a (.dK (putK kvs k v))) U ((.ref a,.own (dz (ig (ks.zip ps) k p)))::pd):=by
 obtain⟨el,Z,hg,z,r,so⟩:=s.sh;have so2:=so.perm cD.symm;obtain⟨_,eb,⟨kvs,hu,hk,hr⟩,_⟩:=so2.1 _ Yz;cases eb;refine⟨kvs,hu,by rw[<-hk,YH],?_⟩;have d:=(Gq hk hr).put (k:=k) r;obtain⟨z',s'⟩:=so2.write (o:=.dK (putK kvs k v)) (q:=dz (ig (ks.zip ps) k p)) z ⟨putK kvs k v,aW,d.keys,d.vals⟩;exact .mk el hg z' s'
def jD (i:Nat) (fi fv:EF):SF:=λU=>(fv U).bind λx=>match x.2.vs[i]? with
 | some (some (.own (.dk _ _)))=>(fi x.2).bind λy=>match De y.1.pv,y.2.vs[i]? with
  | some k,some (some (.own (.dk ks ps)))=>if ks.length<100000 then some (.nx (y.2.set i (some (.own (dz (ig (ks.zip ps) k x.1.pv)))))) else none
  | _,_=>none
 | _=>none
theorem uU {i:Nat} {o ix e:Expr} {fi fv:EF} {tpos pos:Pos} (h:PS X (.Assign [.Subscript o ix tpos] e pos) (Bh (tP X.K fv) (HD (mZ i) (tP X.K fi) Im))):PS X (.Assign [.Subscript o ix tpos] e pos) (fC X.K (jD i fi fv)):=PS.imp h λD Y H q=>by
 obtain⟨H0,Z0,U,pd,fl,s,h,k⟩:=q;obtain⟨x,h1,h2⟩:=aaU h;refine⟨H0,Z0,U,pd,x.1,x.2,s,h1,λv H1 s1=>?_⟩;split at h2
 . rename_i ks0 ps0 e0;obtain⟨y,h3,h4⟩:=aaU h2;obtain⟨a,ea,_⟩:=s1.takeD e0;refine⟨.ref a,ea,H0,Z0,x.2,_,y.1,y.2,s1.freeze,h3,λw H2 s2=>?_⟩;split at h4
   . rename_i kk ks ps ek e3;split at h4
     . rename_i hlen;cases h4;obtain⟨_,rw'⟩:=s2.freeze.repH;have ew:=yC ek rw';obtain⟨a',ea',s3⟩:=s2.pop.takeD e3;rw[ea]at ea'; cases ea';obtain⟨kvs,hu,hl,s4⟩:=s3.swap.setD (k:=kk);refine⟨a,_,rfl,.inl ⟨kvs,kk,hu,ew,by rw[hl,sizeLine_eq]; omega,rfl⟩,k Y _ ?_⟩;have s5:=s4.put ea;rw[Ev.set_set]at s5;exact s5
     . cases h4
   . cases h4
 . cases h2
def mz (fo fv:EF):SF:=λU=>(fo U).bind λo=>match o.1.pv with
 | .ptr n=>match o.2.mu[n]? with
  | some (some (.lst _))=>(fv o.2).bind λy=>match y.2.mu[n]? with
   | some (some (.lst ws))=>if ws.length<100000 then some (.nx ⟨y.2.vs,y.2.mu.set n (some (.lst (ws++[y.1.pv])))⟩) else none
   | _=>none
  | _=>none
 | _=>none
theorem yD {o e:Expr} {fo fv:EF} {apos cpos pos:Pos} (h:PS X (.Expr (.Call (.Attribute o "append" apos) [e] [] cpos) pos) (wH (Fv X.K "list" yj (tP X.K fo) (jf X.K (aj fv ao))))):
 PS X (.Expr (.Call (.Attribute o "append" apos) [e] [] cpos) pos) (fC X.K (mz fo fv)):=PS.imp h λD Y H q=>by
 obtain⟨H0,Z0,U,pd,fl,s,h,k⟩:=q;obtain⟨o',h1,h2⟩:=aaU h;refine⟨H0,Z0,U,pd,o'.1,o'.2,s,h1,λv H1 s1=>?_⟩;split at h2
 . rename_i n en;split at h2
   . rename_i ws0 em0;obtain⟨y,h3,h4⟩:=aaU h2;have s2:=s1.freeze;rw[en]at s2;obtain⟨a,rfl,s5⟩:=s2.cellO em0;obtain⟨_,Z,_,z,so⟩:=s5.top;obtain⟨_,ea,⟨us,hu,_⟩,_⟩:=so.1 _ Yz;cases ea;refine⟨.inl ⟨rfl,us,bJ.of hu⟩,H0,Z0,o'.2,_,[y.1],y.2,s2,?_,λvs H2 e2 sv=>?_⟩
     . unfold aj ao;rw[h3];rfl
     . obtain⟨v1,rfl⟩:=vD e2;split at h4
       . rename_i ws em;split at h4
         . rename_i hz;cases h4;have s3:SR X.K H0 Z0 Y H2 y.2 ((v1,.sh y.1.pv)::(.ref a,.sh (.ptr n))::pd):=SR.freeze sv;obtain⟨a',ea',s6⟩:=s3.swap.cellO em;cases ea';have s7:SR X.K H0 Z0 Y H2 ⟨y.2.vs,y.2.mu.set n none⟩ ((v1,.sh y.1.pv)::(.ref a,.own (.lst ws))::(.ref a,.sh (.ptr n))::pd):=s6.perm ((List.Perm.swap _ _ _).trans ((List.Perm.swap _ _ _).cons _));obtain⟨us2,hu2,hl,s8⟩:=s7.pushO;have hn:n<y.2.mu.length:=(YL.mp em).1;have s9:=s8.cellP (by show (y.2.mu.set n none)[n]?=_; rw[Zi hn]);refine⟨a,us2,v1,rfl,rfl,hu2,by rw[hl,sizeLine_eq]; omega,k Y _ ?_⟩;have e8:(y.2.mu.set n none).set n (some (.lst (ws++[y.1.pv])))=y.2.mu.set n (some (.lst (ws++[y.1.pv]))):=Z3 ..;have s10:SR X.K H0 Z0 Y (upd H2 a (.lst (us2++[v1]))) ⟨y.2.vs,(y.2.mu.set n none).set n (some (.lst (ws++[y.1.pv])))⟩ pd:=s9;rw[e8]at s10;exact s10
         . cases h4
       . cases h4
   . cases h2
 . cases h2
abbrev DF:=Ev->Option (List (Lc×Lc)×Ev)
def Vh:DF:=λU=>some ([],U)
def Jb (f g:EF) (d:DF):DF:=λU=>(f U).bind λx=>(g x.2).bind λy=>(d y.2).map λz=>((x.1,y.1)::z.1,z.2)
def nM:List (V×V)->List V
 | []=>[]
 | p::r=>p.1::p.2::nM r
def pR:List (Lc×Lc)->List Lc
 | []=>[]
 | p::r=>p.1::p.2::pR r
theorem zK:∀{ps:List (V×V)},(nM ps).length=2*ps.length
 | []=>rfl
 | p::r=>by show (nM r).length+1+1=_; rw[zK,Yy]; omega
theorem zM:∀{ps:List (Lc×Lc)},(pR ps).length=2*ps.length
 | []=>rfl
 | p::r=>by show (pR r).length+1+1=_; rw[zM,Yy]; omega
def Yi (K:FG) (d:DF) (Y:L2.St) (H:Hp) (Q:List (V×V)->Hp->Prop):Prop:=∃H0 Z0 U pd zs U',SR K H0 Z0 Y H U pd/\d U=some (zs,U')/\∀ps H',ps.length=zs.length->SR K H0 Z0 Y H' U' ((nM ps).zip (pR zs)++pd)->Q ps H'
def P0 (X:Cx) (pos:Pos) (keys:List (Option Expr)) (values:List Expr) (d:DF):Prop:=∃trs,JS X pos keys values trs/\∀Y H Q,Yi X.K d Y H Q->wO trs Y H Q
theorem Vi {pos:Pos}:P0 X pos [] [] Vh:=⟨[],QV,λY H Q q=>by obtain⟨H0,Z0,U,pd,zs,U',s,h,k⟩:=q;cases h;exact k [] H rfl s⟩
theorem Gr {pos:Pos} {ke ve:Expr} {ks:List (Option Expr)} {vs:List Expr} {f g:EF} {d:DF} (hk:PE X ke (tP X.K f)) (hv:PE X ve (tP X.K g)) (hr:P0 X pos ks vs d):P0 X pos (some ke::ks) (ve::vs) (Jb f g d):=by obtain⟨trs,h1,h2⟩:=hr;refine⟨_,MT hk hv h1,λY H Q q=>?_⟩;obtain⟨H0,Z0,U,pd,zs,U',s,h,k⟩:=q;obtain⟨x,e1,e2⟩:=aaU h;obtain⟨y,e3,e4⟩:=aaU e2;obtain⟨z,e5,e6⟩:=aaV e4;cases e6;refine⟨H0,Z0,U,pd,x.1,x.2,s,e1,λv H1 s1=>⟨H0,Z0,x.2,_,y.1,y.2,s1,e3,λw H2 s2=>h2 Y H2 _ ⟨H0,Z0,y.2,_,z.1,z.2,s2,e5,λps H3 hl s3=>?_⟩⟩⟩;refine k ((v,w)::ps) H3 (by rw[Yy,Yy,hl]) (s3.perm ?_);show List.Perm ((v,x.1)::(w,y.1)::((nM ps).zip (pR z.1)++pd)) ((nM ps).zip (pR z.1)++((w,y.1)::(v,x.1)::pd));exact(List.Perm.swap _ _ _).trans ((List.perm_middle.symm.cons _).trans Zd.symm)
def keysOf:List (Lc×Lc)->Option PD
 | []=>some []
 | p::r=>(De p.1.pv).bind λk=>(keysOf r).map λl=>(k,p.2.pv)::l
def uh (l:PD) (acc:PD):PD:=match l with
 | []=>acc
 | kv::r=>uh r (ig acc kv.1 kv.2)
def Qd (d:DF):EF:=λU=>(d U).bind λz=>(keysOf z.1).bind λl=>if l.length<=15 then some (.own (dz (uh l [])),z.2) else none
theorem zN {Z:ZG}:∀{zs:List (Lc×Lc)} {ps:List (V×V)} {l:PD},aB K Z ((pR zs).map Lc.pv) (nM ps)->ps.length=zs.length->keysOf zs=some l->∃kvs:List (Key×V),ps=kvs.map (λkv=>(kV kv.1,kv.2))/\dW K Z l kvs
 | [],[],l,_,_,h=>by cases h; exact⟨[],rfl,.nil⟩
 | [],_::_,l,_,e,_=>by simp at e
 | _::_,[],l,_,e,_=>by simp at e
 | z::zs,p::ps,l,r,e,h=>by obtain⟨k,h1,h2⟩:=aaU h;obtain⟨l',h3,h4⟩:=aaV h2;subst h4;obtain⟨v,r1,e1,g1,g2⟩:=aB.inv (show aB K Z (z.1.pv::z.2.pv::(pR zs).map Lc.pv) (p.1::p.2::nM ps) from r);injection e1 with e1 e2;subst e1 e2;obtain⟨v',r2,e3,g3,g4⟩:=g2.inv;injection e3 with e3 e4;subst e3 e4;obtain⟨kvs,e5,d⟩:=zN (zs:=zs) (ps:=ps) g4 (by simpa using e) h3;have ek:=yC h1 g1;refine⟨(k,p.2)::kvs,?_,.cons ⟨rfl,g3⟩ d⟩;rw[YW,<-e5,<-ek]
theorem dW.merge {Z:ZG}:∀{l:PD} {kvs:List (Key×V)} {a:PD} {b:List (Key×V)},dW K Z l kvs->dW K Z a b->dW K Z (uh l a) (oJ b kvs)
 | _,_,_,_,.nil,h=>h
 | p::l,q::kvs,a,b,.cons h t,g=>by have:=dW.merge t (g.put (k:=p.1) h.2);rw[h.1]at this;unfold uh;rw[h.1];exact this
theorem Wz {pos:Pos} {keys:List (Option Expr)} {values:List Expr} {d:DF} (h:P0 X pos keys values d) (hall:keys.all (·.isSome)=true) (hl:keys.length=values.length) (h0:keys≠[]) (h15:keys.length<=15):PE X (.Dict keys values pos) (tP X.K (Qd d)):=by
 obtain⟨trs,h1,h2⟩:=h;refine PE.imp (QW h1 hall hl h0 h15) λY H Q q=>?_;obtain⟨H0,Z0,U,pd,l,U',s,f,k⟩:=q;obtain⟨z,e1,e2⟩:=aaU f;obtain⟨ll,e3,e4⟩:=aaU e2;split at e4
 . rename_i hlen;cases e4;intro p hp;have s1:SR X.K H0 Z0 Y (upd H p (.dK [])) U ((.ref p,.own (.dk [] []))::pd):=s.newO hp λZ _ _=>⟨[],aW,rfl,.nil⟩;refine h2 Y _ _ ⟨H0,Z0,U,_,z.1,z.2,s1,e1,λps H2 hps s2=>?_⟩;obtain⟨el,Z,hg,zz,r,so⟩:=s2.repl (by rw[zK,zM,hps]);obtain⟨kvs,ek,dd⟩:=zN r hps e3;have so2:=so.perm cD.symm;obtain⟨_,eb,⟨kvs0,hu,hk0,hr⟩,_⟩:=so2.1 _ Yz;cases eb;have hn:kvs0=[]:=by cases kvs0 with
    | nil=>rfl
    | cons a b=>simp at hk0
   subst hn;refine⟨hu,kvs,ek,by rw[dd.len]; exact hlen,k _ _ ?_⟩;have dm:=dd.merge (a:=[]) (b:=[]) .nil;obtain⟨z',s'⟩:=so2.write (o:=.dK (oJ [] kvs)) (q:=dz (uh ll [])) zz ⟨_,aW,dm.keys,dm.vals⟩;exact .mk el hg z' s'
 . cases e4
def KQ:EF:=λU=>some (.own (.dk [] []),U)
theorem Vj {pos:Pos}:PE X (.Dict [] [] pos) (tP X.K KQ):=PE.imp MP λY H Q q=>by obtain⟨H0,Z0,U,pd,l,U',s,f,k⟩:=q;cases f;exact λp hp=>k _ _ (s.newO hp λZ _ _=>⟨[],aW,rfl,.nil⟩)
def j9 (f:EF):EF:=λU=>(f U).bind λx=>match x.1.pv with
 | .ptr n=>match x.2.mu[n]? with
  | some (some (.lst ws))=>some (.sh (.int (ws.length:Nat)),x.2)
  | _=>none
 | p=>(Va p).map λl=>(l,x.2)
theorem N7 {x:Str} {e:Expr} {f:EF} {p pos:Pos} (h:PE X (.Call (.Name x p) [e] [] pos) (vz (λxs H Q=>∃x n,xs=[x]/\Mp X.K x H n/\Q (.int n) H) (jf X.K (aj f ao)))):PE X (.Call (.Name x p) [e] [] pos) (tP X.K (j9 f)):=PE.imp h λY H Q q=>by
 obtain⟨H0,Z0,U,pd,l,U',s,ff,k⟩:=q;obtain⟨y,h1,h2⟩:=aaU ff;refine⟨H0,Z0,U,pd,[y.1],y.2,s,?_,λvs H1 e1 s1=>?_⟩
 . unfold aj ao;rw[h1];rfl
 . obtain⟨v,rfl⟩:=vD e1;have s2:SR X.K H0 Z0 Y H1 y.2 ((v,.sh y.1.pv)::pd):=SR.freeze s1;split at h2
   . rename_i n en;split at h2
     . rename_i ws em;cases h2;rw[en]at s2;obtain⟨a,rfl,s5⟩:=s2.cellO em;obtain⟨_,Z,_,z,so⟩:=s5.top;obtain⟨_,ea,⟨us,hu,hr⟩,_⟩:=so.1 _ Yz;cases ea;exact⟨.ref a,ws.length,rfl,.inl ⟨us,bJ.of hu,hr.length.symm⟩,k _ H1 (s2.pop.scal fL)⟩
     . cases h2
   . obtain⟨l',h3,h4⟩:=aaV h2;cases h4;exact Kr H0 Z0 Y y.2 pd H1 [v] [y.1.pv] _ Q rfl s2 h3 k
end
open PySem.SeqAt
section
variable {X:Cx}
end
end PL
namespace L2
open PySem PySem.Spec PyProof.Rows
variable {abQ:List (Addr×Obj)} {E:Value->Shared->Prop} {s:Shared} {A:Around} {w:World} {P:Program}
section
variable {X:Cx}
end
end L2
namespace PL
open PySem PySem.Spec PyProof.Rows L2
variable {K:FG} {H0 H:Hp} {Z0:ZG} {Y:L2.St} {U:Ev} {pd:Pd}
def qN (a b:Str):Prop:=ltCps b.cps.toList a.cps.toList=false
theorem jE {a b:Str}:qN a b ↔ a.cps.toList<=b.cps.toList:=by unfold qN;rw[ltCps_eq,decide_eq_false_iff_not];exact Iff.rfl
theorem ul:∀(p:Str) (l:List Str),risingS p l=true->(p::l).Pairwise qN
 | p,[],_=>by simp
 | p,x::r,h=>by
  have h':(!ltCps x.cps.toList p.cps.toList&&risingS x r)=true:=h;simp only[Zy,Bool.not_eq_true']at h';have ih:=ul x r h'.2;have hx:qN p x:=h'.1;refine List.pairwise_cons.mpr ⟨λy hy=>?_,ih⟩;rcases YF.mp hy with rfl | hy
  . exact hx
  . exact jE.mpr (List.le_trans (jE.mp hx) (jE.mp (List.rel_of_pairwise_cons ih hy)))
theorem KR:∀{l:List Str},sortedS l=true->l.Pairwise qN
 | [],_=>.nil
 | x::r,h=>ul x r h
theorem RJ {a b:Str} (h:a.cps.toList=b.cps.toList):a=b:=by obtain⟨⟨a⟩⟩:=a;obtain⟨⟨b⟩⟩:=b;cases h;rfl
theorem zP {a b:List Str} (p:a.Perm b) (ha:a.Pairwise qN) (hb:b.Pairwise qN):a=b:=
 List.Perm.eq_of_pairwise (le:=qN) (λx y _ _ h1 h2=>RJ (List.le_antisymm (jE.mp h1) (jE.mp h2))) ha hb p
def v5 (x:Str):List Str->List Str
 | []=>[x]
 | y::l=>if ltCps x.cps.toList y.cps.toList then x::y::l else y::v5 x l
def gW:List Str->List Str
 | []=>[]
 | x::l=>v5 x (gW l)
theorem um {x:Str}:∀{l:List Str},(v5 x l).Perm (x::l)
 | []=>.rfl
 | y::l=>by
  unfold v5;split
  . exact .rfl
  . exact(um.cons y).trans (.swap _ _ _)
theorem Gs {x:Str}:∀{l:List Str},l.Pairwise qN->(v5 x l).Pairwise qN
 | [],_=>by simp[v5]
 | y::l,h=>by
  obtain⟨h1,h2⟩:=List.pairwise_cons.mp h;unfold v5;split
  . rename_i g;rw[ltCps_eq,decide_eq_true_eq]at g;have xy:qN x y:=jE.mpr (List.le_of_lt g);refine List.pairwise_cons.mpr ⟨λz hz=>?_,h⟩;rcases YF.mp hz with rfl | hz
    . exact xy
    . exact jE.mpr (List.le_trans (jE.mp xy) (jE.mp (h1 z hz)))
  . rename_i g;refine List.pairwise_cons.mpr ⟨λz hz=>?_,Gs h2⟩;rcases YF.mp (um.mem_iff.mp hz) with rfl | hz
    . simpa [qN] using g
    . exact h1 z hz
theorem lr:∀{l:List Str},(gW l).Perm l
 | []=>.rfl
 | x::l=>um.trans (lr.cons x)
theorem rO:∀{l:List Str},(gW l).Pairwise qN
 | []=>.nil
 | x::l=>Gs rO
theorem Df {t ss:List Str} (p:t.Perm ss) (h:sortedS t=true):t=gW ss:=zP (p.trans lr.symm) (KR h) rO
theorem Fb {a b:List Str} (p:a.Perm b):gW a=gW b:=zP (lr.trans (p.trans lr.symm)) rO rO
def sW:List Str->List Str
 | []=>[]
 | x::l=>if x∈l then sW l else x::sW l
theorem uo {y:Str}:∀{l:List Str},y∈sW l ↔ y∈l
 | []=>Iff.rfl
 | x::l=>by
  unfold sW;split
  . rename_i h;rw[uo,YF];exact⟨.inr,λq=>q.elim (λe=>e▸h) id⟩
  . rw[YF,YF,uo]
theorem rP:∀{l:List Str},(sW l).Nodup
 | []=>.nil
 | x::l=>by
  unfold sW;split
  . exact rP
  . rename_i h;exact Zo.mpr ⟨λq=>h (uo.mp q),rP⟩
theorem rQ:∀{a b:List Str},a.Nodup->b.Nodup->(∀y,y∈a ↔ y∈b)->a.Perm b
 | [],b,_,_,h=>by
  have:b=[]:=List.eq_nil_iff_forall_not_mem.mpr λy hy=>by have:=(h y).mpr hy; cases this
  rw[this]
 | x::a,b,ha,hb,h=>by
  obtain⟨h1,h2⟩:=Zo.mp ha;have hx:x∈b:=(h x).mp Yz;have p:=List.perm_cons_erase hx;refine((rQ h2 (hb.erase x) λy=>?_).cons x).trans p.symm;rw[hb.mem_erase_iff];constructor
  . intro hy;exact⟨λe=>h1 (e▸hy),(h y).mp (YG _ hy)⟩
  . rintro⟨n,hy⟩;rcases YF.mp ((h y).mpr hy) with e | q
    . exact absurd e n
    . exact q
theorem N8 {t ss:List Str} (n:t.Nodup) (m:∀y,y∈t ↔ y∈ss) (h:sortedS t=true):t=gW (sW ss):=Df (rQ n rP λy=>(m y).trans uo.symm) h
def uV:List PV->Option (List Str)
 | []=>some []
 | .str x::ps=>(uV ps).map (x::·)
 | _::_=>none
def pU:List Key->Option (List Str)
 | []=>some []
 | .inr x::ks=>(pU ks).map (x::·)
 | .inl _::_=>none
theorem v6:∀{ks:List Key} {ss:List Str},pU ks=some ss->ks=ss.map Sum.inr
 | [],ss,h=>by cases h; rfl
 | .inr x::ks,ss,h=>by obtain⟨t,h1,h2⟩:=aaV h;cases h2;rw[v6 h1];rfl
 | .inl _::ks,ss,h=>by cases h
theorem zQ {Z:ZG}:∀{ps:List PV} {vs:List V} {ss:List Str},uV ps=some ss->aB K Z ps vs->vs=ss.map V.str
 | [],vs,ss,h,r=>by cases h;exact r
 | p::ps,vs,ss,h,r=>by
  obtain⟨v,r',rfl,h1,h2⟩:=r;cases p with
  | str x=>
   obtain⟨t,g1,g2⟩:=aaV h;cases g2;rw[zQ g1 h2];unfold Rep at h1;rw[h1];rfl
  | _=>cases h
theorem rR {Z:ZG}:∀{ss:List Str},aB K Z (ss.map PV.str) (ss.map V.str)
 | []=>by show _=_; rfl
 | x::ss=>⟨.str x,ss.map V.str,rfl,by unfold Rep; rfl,rR⟩
section
variable {X:Cx}
section
variable {K:FG} {Z Z':ZG}
end
theorem SR.ext {l:Addr} {o:HO} (s:SR K H0 Z0 Y H U pd) (hl:H l=none):SR K H0 Z0 Y (upd H l o) U pd:=by obtain⟨el,Z,hg,z,so⟩:=s;obtain⟨z',lz,so'⟩:=so.newF z (o:=o) hl;exact⟨el,Z.put l o,hg,z',so'⟩
abbrev FD:=List (Str×PV)
def mC:FD->Str->Option PV
 | [],_=>none
 | kv::r,k=>if kv.1=k then some kv.2 else mC r k
def mD (f:Str) (p:PV):FD->FD
 | []=>[(f,p)]
 | kv::r=>if kv.1=f then (kv.1,p)::r else kv::mD f p r
def dG (C:Str) (l:FD):PV:=.obj C (l.map (·.1)) (l.map (·.2))
def lu (K:FG) (Z:ZG):FD->List (Str×V)->Prop:=Paired λp q=>p.1=q.1/\Rep K Z p.2 q.2
section
variable {K:FG} {Z Z':ZG}
theorem yE:∀{kvs:List (Str×V)} {ks:List Str} {ps:List PV},kvs.map (·.1)=ks->aB K Z ps (kvs.map (·.2))->lu K Z (ks.zip ps) kvs
 | [],ks,ps,h1,h2=>by subst h1;exact .nil
 | kv::r,ks,ps,h1,h2=>by
  subst h1;cases ps with
  | nil=>have:=h2.inv0; simp at this
  | cons p ps=>
   obtain⟨v,r',e,h3,h4⟩:=h2.inv;rw[YW]at e;injection e with e1 e2;subst e1 e2;rw[YW,ZS];exact .cons ⟨rfl,h3⟩ (yE rfl h4)
theorem lu.keys:∀{l:FD} {kvs:List (Str×V)},lu K Z l kvs->kvs.map (·.1)=l.map (·.1)
 | _,_,.nil=>rfl
 | _,_,.cons h t=>by rw[YW,YW,h.1,lu.keys t]
theorem lu.vals:∀{l:FD} {kvs:List (Str×V)},lu K Z l kvs->aB K Z (l.map (·.2)) (kvs.map (·.2))
 | _,_,.nil=>.nil
 | _,_,.cons h t=>aB.cons h.2 (lu.vals t)
theorem lu.look {f:Str}:∀{l:FD} {kvs:List (Str×V)},lu K Z l kvs->(∀p,mC l f=some p->∃v,kvs.lookup f=some v/\Rep K Z p v)/\(mC l f=none->kvs.lookup f=none)
 | _,_,.nil=>⟨λp h=>(by cases h),λ_=>rfl⟩
 | p::l,q::kvs,.cons h t=>by
  have ih:=lu.look (f:=f) t;have e0:(q::kvs).lookup f=if f=q.1 then some q.2 else kvs.lookup f:=by
   obtain⟨q1,q2⟩:=q;rw[Zq];by_cases e:f=q1
   . subst e; simp
   . rw[aaO e,show (f==q1)=false from aaS.mpr e]
  rw[e0];by_cases e:p.1=f
  . have e':f=q.1:=by rw[<-h.1]; exact e.symm
    rw[aaN e'];refine⟨λx hx=>⟨q.2,rfl,?_⟩,λhx=>?_⟩
    . unfold mC at hx; rw[aaN e]at hx; cases hx; exact h.2
    . unfold mC at hx; rw[aaN e]at hx; cases hx
  . have e':¬ f=q.1:=by rw[<-h.1]; exact λz=>e z.symm
    rw[aaO e'];unfold mC;rw[aaO e];exact ih
theorem lu.put {f:Str} {p:PV} {v:V} (r:Rep K Z p v):∀{l:FD} {kvs:List (Str×V)},lu K Z l kvs->lu K Z (mD f p l) (gK f v kvs)
 | _,_,.nil=>.cons ⟨rfl,r⟩ .nil
 | a::l,b::kvs,.cons h t=>by
  obtain⟨b1,b2⟩:=b;unfold mD gK;have h1:a.1=b1:=h.1;by_cases e:a.1=f
  . rw[aaN e,aaN (by rw[<-h1]; exact e)];exact .cons ⟨h1,r⟩ t
  . rw[aaO e,aaO (by rw[<-h1]; exact e)];exact .cons h (lu.put r t)
end
structure rT (K:FG) (mg:Str->Option Value) (C:Str) (c:Addr):Prop where
 cn:CN K C c
 cl:tM K c
 mgC:mg C=some (.ref c)
theorem Jc {C:Str} {c d:Addr} (h:CN K C c) (g:CN K C d):c=d:=by have:(some (some (Value.ref c)))=some (some (.ref d)):=h.symm.trans g;cases this;rfl
def v7 (C f:Str) (fo:EF):EF:=λU=>(fo U).bind λx=>match x.1.pv with
 | .ptr n=>match x.2.mu[n]? with
  | some (some (.obj D ks ps))=>if D=C then (mC (ks.zip ps) f).map λp=>(.sh p,x.2) else none
  | _=>none
 | _=>none
theorem SR.cellB {pd pe:Pd} {a:Addr} {n:Nat} {p:PV} (hm:U.mu[n]?=some (some p)) (s:SR K H0 Z0 Y H ⟨U.vs,U.mu.set n none⟩ ((.ref a,.own p)::(.ref a,.sh (.ptr n))::pd)):SR K H0 Z0 Y H U pd:=by
 have hn:n<U.mu.length:=(YL.mp hm).1;have s8:=s.cellP (by show (U.mu.set n none)[n]?=_; rw[Zi hn]);have e8:(U.mu.set n none).set n (some p)=U.mu:=by rw[Z3]; exact aaW hm
 have s9:SR K H0 Z0 Y H ⟨U.vs,(U.mu.set n none).set n (some p)⟩ pd:=s8;rw[e8]at s9;exact s9
theorem SR.objAt {v:V} {n:Nat} {C:Str} {ks:List Str} {ps:List PV} (s:SR K H0 Z0 Y H U ((v,.sh (.ptr n))::pd)) (hm:U.mu[n]?=some (some (.obj C ks ps))):
 ∃a c dx fs,v=.ref a/\CN K C c/\H a=some (.ins c dx fs)/\fs.map (·.1)=ks/\(∀f p,mC (ks.zip ps) f=some p->∃u,fs.lookup f=some u/\SR K H0 Z0 Y H U ((u,.sh p)::(v,.sh (.ptr n))::pd))/\∀f,mC (ks.zip ps) f=none->fs.lookup f=none:=by
 have sdup:SR K H0 Z0 Y H U ((v,.sh (.ptr n))::(v,.sh (.ptr n))::pd):=s.part λZ _ r=>r;obtain⟨a,rfl,s5⟩:=sdup.cellO hm;obtain⟨el,Z,hg,z,so⟩:=s5.top;obtain⟨_,ea,⟨c,dx,fs,cn,hu,hk,hr⟩,_⟩:=so.1 _ Yz;cases ea;have rf:=yE hk hr;refine⟨a,c,dx,fs,rfl,cn,hu,hk,λf p hl=>?_,λf hl=>rf.look.2 hl⟩;obtain⟨u,h1,h2⟩:=rf.look.1 p hl;refine⟨u,h1,?_⟩;have s6:SR K H0 Z0 Y H ⟨U.vs,U.mu.set n none⟩ ((u,.sh p)::(.ref a,.own (.obj C ks ps))::(.ref a,.sh (.ptr n))::(.ref a,.sh (.ptr n))::pd):=.mk (Z:=Z) el hg z ((so.perm cD).consS h2);have s7:SR K H0 Z0 Y H ⟨U.vs,U.mu.set n none⟩ ((.ref a,.own (.obj C ks ps))::(.ref a,.sh (.ptr n))::(u,.sh p)::(.ref a,.sh (.ptr n))::pd):=s6.perm (((List.Perm.swap _ _ _).cons _).trans (List.Perm.swap _ _ _));exact SR.cellB (pe:=pd) hm s7
theorem Oa {C f:Str} {c:Addr} {o:Expr} {fo:EF} {pos:Pos} (T:rT X.K X.mg C c) (na:iV X.K c f) (ho:PE X o (tP X.K fo)) (hb:attributeBase o f X.env (eval o X.env)=eval o X.env:=by rfl):PE X (.Attribute o f pos) (tP X.K (v7 C f fo)):=PE.imp (TX ho hb) λY H Q q=>by
 obtain⟨H0,Z0,U,pd,l,U',s,h,k⟩:=q;obtain⟨x,h1,h2⟩:=aaU h;refine⟨H0,Z0,U,pd,x.1,x.2,s,h1,λv H1 s1=>?_⟩;split at h2
 . rename_i n en;split at h2
   . rename_i D ks ps em;split at h2
     . rename_i eD;subst eD;obtain⟨p,h3,h4⟩:=aaV h2;cases h4;have s2:=s1.freeze;rw[en]at s2;obtain⟨a,c',dx,fs,rfl,cn,hH,hk,hl,_⟩:=s2.objAt em;have:=Jc T.cn cn;subst this;obtain⟨u,h5,s6⟩:=hl f p h3;exact⟨a,c,dx,fs,u,rfl,hH,T.cl,na,h5,k u H1 (s6.sub ((YX _ _).cons_cons _))⟩
     . cases h2
   . cases h2
 . cases h2
def uW (C f:Str) (fo fv:EF):SF:=λU=>(fv U).bind λy=>(fo y.2).bind λx=>match x.1.pv with
 | .ptr n=>match x.2.mu[n]? with
  | some (some (.obj D ks ps))=>if D=C/\ks.length<1000 then some (.nx ⟨x.2.vs,x.2.mu.set n (some (dG C (mD f y.1.pv (ks.zip ps))))⟩) else none
  | _=>none
 | _=>none
theorem yF {C f:Str} {c:Addr} {o value:Expr} {fo fv:EF} {pos' pos:Pos} (T:rT X.K X.mg C c) (na:iV X.K c f) (ho:PE X o (tP X.K fo)) (hv:PE X value (tP X.K fv)) (hs:swapsWith value (some (.Attribute o f pos')) pos.line X.env=pure false:=by rfl):PS X (.Assign [.Attribute o f pos'] value pos) (fC X.K (uW C f fo fv)):=PS.imp (TY ho hv hs) λD Y H q=>by
 obtain⟨H0,Z0,U,pd,fl,s,h,k⟩:=q;obtain⟨y,h1,h2⟩:=aaU h;obtain⟨x,h3,h4⟩:=aaU h2;refine⟨H0,Z0,U,pd,y.1,y.2,s,h1,λv H1 s1=>⟨H0,Z0,y.2,_,x.1,x.2,s1.freeze,h3,λw H2 s2=>?_⟩⟩;split at h4
 . rename_i n en;split at h4
   . rename_i D' ks ps em;split at h4
     . rename_i eD;obtain⟨eD,hz⟩:=eD;subst eD;cases h4;have s3:=s2.freeze;rw[en]at s3;obtain⟨a,rfl,s5⟩:=s3.cellO em;have s6:SR X.K H0 Z0 Y H2 ⟨x.2.vs,x.2.mu.set n none⟩ ((v,.sh y.1.pv)::(.ref a,.own (.obj D' ks ps))::(.ref a,.sh (.ptr n))::pd):=s5.perm ((List.Perm.swap _ _ _).trans ((List.Perm.swap _ _ _).cons _));obtain⟨el,Z,hg,z,r,so⟩:=s6.sh;have so2:=so.perm cD.symm;obtain⟨_,eb,⟨c',dx,fs,cn,hu,hk,hr⟩,_⟩:=so2.1 _ Yz;cases eb;have:=Jc T.cn cn;subst this;have rf:=yE hk hr;have rp:=rf.put (f:=f) r;have hlen:fs.length=ks.length:=by rw[<-hk,YH]
       refine⟨a,c,dx,fs,rfl,hu,T.cl,na,by omega,k Y _ ?_⟩;obtain⟨z',s'⟩:=so2.write (o:=.ins c dx (gK f v fs)) (q:=dG D' (mD f y.1.pv (ks.zip ps))) z ⟨c,dx,gK f v fs,cn,aW,rp.keys,rp.vals⟩;have s7:SR X.K H0 Z0 Y (upd H2 a (.ins c dx (gK f v fs))) ⟨x.2.vs,x.2.mu.set n none⟩ ((.ref a,.own (dG D' (mD f y.1.pv (ks.zip ps))))::(.ref a,.sh (.ptr n))::pd):=.mk el hg z' s';have hn:n<x.2.mu.length:=(YL.mp em).1;have s8:=s7.cellP (by show (x.2.mu.set n none)[n]?=_; rw[Zi hn]);have e8:(x.2.mu.set n none).set n (some (dG D' (mD f y.1.pv (ks.zip ps))))=x.2.mu.set n (some (dG D' (mD f y.1.pv (ks.zip ps)))):=Z3 ..;have s9:SR X.K H0 Z0 Y (upd H2 a (.ins c dx (gK f v fs))) ⟨x.2.vs,(x.2.mu.set n none).set n (some (dG D' (mD f y.1.pv (ks.zip ps))))⟩ pd:=s8;rw[e8]at s9;exact s9
     . cases h4
   . cases h4
 . cases h4
end
section
variable {P:Program} {w:World} {K:FG} {mg:Str->Option Value} {base:Heap}
def Dg (K:FG) (c:Addr) (m qual:Str) (st:Stmt) (ps:List Str):Prop:=∃f fd,pJ K m qual st f fd/\W.findIn K (.ref c) m=some (some (.ref f))/\W.isFn K (.ref f)=true/\Binds K fd ps []
def zR (P:Program) (w:World) (K:FG) (mg:Str->Option Value) (base:Heap) (c:Addr) (m:Str) (k:Nat) (ps:List Str) (sp:Sp):Prop:=∃f fd,j4 P w K mg base lG k f fd ps sp/\Meth K c m f/\Binds K fd ps []
theorem pJ.okQ {x qual:Str} {st:Stmt} {N ps:List Str} {k:Nat} {g:GF} {f:Addr} {fd:FuncData} (F:pJ K x qual st f fd) (S:bO N ps (aJ st))
 (h:∀(cdv:Value) (A:Around) (outer:List PySem.Env) (s:Shared) (H:Hp) (E:XK),ni k (A.deeper (envOfC qual (aJ st) s.heap.objs.size f cdv))->
   ∃g':SF,(∀a mu,g a mu=eF N.length g' a mu)/\ir (Mw lG P w K mg base N qual (aJ st) f cdv A outer s H E).nox (gM st) (fC K g')):j4 P w K mg base lG (k+1) f fd ps (di K ps.length g):=by
 refine F.ok S (λvs H Q E q=>?_) (λcdv A outer s H vs Q E hr q=>?_)
 . obtain⟨Z,qs,mu,r,mu',e,_⟩:=q; exact e
 . obtain⟨g',eg,b⟩:=h cdv A outer s H E hr;obtain⟨Z,qs,mu,r,mu',e,hg,z,rl,c,hr',kk⟩:=q;rw[eg]at hr';obtain⟨fl,h1,h2⟩:=aaU hr';refine⟨_,b,jk H (oM Z.g mu),Z,_,[],fl,vX hg z rl c,h1,?_⟩;cases fl with
   | rt r' U'=>
    cases h2;intro v Y' H' s';obtain⟨el,Z',hg',z',s''⟩:=s'.top;refine kk v H' ⟨Z',hg',z',s''.sub ?_⟩;exact(Zk _ _).cons_cons _
   | nx U'=>
    cases h2;intro Y' H' s';obtain⟨el,Z',hg',z',s''⟩:=s';exact kk .non H' ⟨Z',hg',z',(s''.sub (Zk _ _)).consS (uK _)⟩
   | bk U'=>cases h2
   | ct U'=>cases h2
theorem Dg.ok {c:Addr} {m qual:Str} {st:Stmt} {N ps:List Str} {k:Nat} {g:GF} (F:Dg K c m qual st ps) (S:bO N ps (aJ st))
 (h:∀(f:Addr) (cdv:Value) (A:Around) (outer:List PySem.Env) (s:Shared) (H:Hp) (E:XK),ni k (A.deeper (envOfC qual (aJ st) s.heap.objs.size f cdv))->
   ∃g':SF,(∀a mu,g a mu=eF N.length g' a mu)/\ir (Mw lG P w K mg base N qual (aJ st) f cdv A outer s H E).nox (gM st) (fC K g')):zR P w K mg base c m (k+1) ps (di K ps.length g):=by
 obtain⟨f,fd,F,h1,h2,hb⟩:=F;exact⟨f,fd,pJ.okQ F S (h f),⟨h1,h2,F.kp⟩,hb⟩
end
section
variable {X:Cx}
def mF (C m:Str) (g:GF) (fo:EF) (a:AF):EF:=λU=>(fo U).bind λx=>match x.1.pv with
 | .ptr n=>match x.2.mu[n]? with
  | some (some (.obj D ks _))=>if D=C/\ks.contains m=false then (a x.2).bind λy=>(g (.ptr n::y.1.map Lc.pv) y.2.mu).map λr=>(r.1,⟨y.2.vs,r.2⟩) else none
  | _=>none
 | _=>none
theorem zU {m:Str}:∀{fs:List (Str×V)},(fs.map (·.1)).contains m=false->fs.lookup m=none
 | [],_=>rfl
 | (g,x)::r,h=>by rw[YW,List.contains_cons,Bool.or_eq_false_iff]at h;rw[Zq,h.1];exact zU h.2
theorem Dh {C m:Str} {c:Addr} {g:GF} {fo:EF} {a:AF} {n':Nat} {E:XK} (T:rT X.K X.mg C c) (hn:∀U ls U1,a U=some (ls,U1)->ls.length+1=n'):∀Y H Q,tP X.K (mF C m g fo a) Y H Q->Ib c m (di X.K n' g) [] E (tP X.K fo) (jf X.K a) Y H Q:=λY H Q q=>by
 obtain⟨H0,Z0,U,pd,l,U',s,h,k⟩:=q;obtain⟨x,h1,h2⟩:=aaU h;refine⟨H0,Z0,U,pd,x.1,x.2,s,h1,λv H1 s1=>?_⟩;split at h2
 . rename_i n en;split at h2
   . rename_i D ks ps em;split at h2
     . rename_i eD;obtain⟨eD,hk⟩:=eD;subst eD;obtain⟨y,h3,h4⟩:=aaU h2;obtain⟨r,h5,h6⟩:=aaV h4;cases h6;have s2:=s1.freeze;rw[en]at s2;obtain⟨a',c',dx,fs,rfl,cn,hH,hks,_,_⟩:=s2.objAt em;have:=Jc T.cn cn;subst this;refine⟨a',dx,fs,rfl,hH,zU (by rw[hks]; exact hk),H0,Z0,x.2,_,y.1,y.2,s2,h3,λvs H2 e2 s3=>?_⟩;have s4:SR X.K H0 Z0 Y H2 y.2 ((V.ref a'::vs).zip (Lc.sh (.ptr n)::y.1)++pd):=s3.perm (by rw[ZS,Z6];exact Zd.symm)
       obtain⟨el,Z,hg,z,rl,sl'⟩:=s4.repl (by rw[Yy,Yy,e2]);refine⟨Z,.ptr n::y.1.map Lc.pv,y.2.mu,r.1,r.2,?_,hg,z.zh,?_,sl'.cells hg,h5,λv H' rr=>k v H' (SR.called el hg z sl' rr)⟩
       . rw[Y7_,Yy,e2]; exact hn _ _ _ h3
       . rw[Y7_]; exact rl
     . cases h2
   . cases h2
 . cases h2
theorem WD {C m:Str} {c:Addr} {k:Nat} {ps:List Str} {g:GF} {fo:EF} {e o:Expr} {es:List Expr} {a:AF} {apos pos:Pos} {pl:Sem Bool} (T:rT X.K X.mg C c) (M:zR X.prog X.w X.K X.mg X.base c m k ps (di X.K ps.length g)) (hr:ni k X.A) (ho:PE X o (tP X.K fo)) (ha:PA X (e::es) (jf X.K a)) (hn:∀U ls U1,a U=some (ls,U1)->ls.length+1=ps.length)
 (hst:starEach (e::es) X.env=(false,eval e X.env)::starEach es X.env:=by rfl) (hpl:(backTo pos (starEach es X.env)).any (·.1)=false:=by rfl)
 (ht:eval (.Call (.Attribute o m apos) (e::es) [] pos) X.env=(do
   let ov <-eval o X.env
   standAt apos.atName
   let (f,first) <-holding [ov] (getMethod ov m pl)
   callWith pos f first (backTo pos (starEach (e::es) X.env)) (backToKw pos (keywordEach [] X.env))):=by rfl):PE X (.Call (.Attribute o m apos) (e::es) [] pos) (tP X.K (mF C m g fo a)):=by
 obtain⟨f,fd,F,hm,hb⟩:=M
 exact PE.imp (QH (pl:=pl) (E:=E0) ho T.cl hm F hr hb .nil Aq ha hst hpl ht) (Dh T hn)
theorem KY {C m:Str} {c:Addr} {k:Nat} {ps:List Str} {g:GF} {fo:EF} {o:Expr} {apos pos:Pos} {pl:Sem Bool} (T:rT X.K X.mg C c) (M:zR X.prog X.w X.K X.mg X.base c m k ps (di X.K ps.length g)) (hr:ni k X.A) (ho:PE X o (tP X.K fo)) (hn:1=ps.length)
 (ht:eval (.Call (.Attribute o m apos) [] [] pos) X.env=(do
   let ov <-eval o X.env
   standAt apos.atName
   let (f,first) <-holding [ov] (getMethod ov m pl)
   callWith pos f first (backTo pos (starEach [] X.env)) (backToKw pos (keywordEach [] X.env))):=by rfl):PE X (.Call (.Attribute o m apos) [] [] pos) (tP X.K (mF C m g fo ao)):=by
 obtain⟨f,fd,F,hm,hb⟩:=M
 refine PE.imp (Mt (pl:=pl) (E:=E0) ho T.cl hm F hr hb .nil Aq ht) λY H Q q=>?_
 have:=Dh (X:=X) (E:=E0) (a:=ao) (n':=ps.length) T (λU ls U1 h=>by cases h; rw[<-hn]; rfl) Y H Q q
 obtain⟨H0,Z0,U,pd,l,U',s,h,k⟩:=this
 refine⟨H0,Z0,U,pd,l,U',s,h,λv H1 s1=>?_⟩
 obtain⟨a,dx,fs,e1,e2,e3,H0',Z0',U2,pd2,ls,U3,s2,h2,k2⟩:=k v H1 s1
 cases h2
 exact⟨a,dx,fs,e1,e2,e3,k2 [] H1 rfl s2⟩
theorem SR.toCell {a:Addr} {p:PV} (s:SR K H0 Z0 Y H U ((.ref a,.own p)::pd)):SR K H0 Z0 Y H ⟨U.vs,U.mu++[some p]⟩ ((.ref a,.sh (.ptr U.mu.length))::pd):=by
 obtain⟨el,Z,hg,z,so⟩:=s.top;have lz:fV Z ⟨Z.z,Z.g++[a]⟩:=⟨cR.refl _,aap _ _⟩;have so2:=so.step (Z':=⟨Z.z,Z.g++[a]⟩) (H':=H) lz λe he b hb=>⟨rfl,(gG so he hb).1⟩;refine .mk (Z:=⟨Z.z,Z.g++[a]⟩) el (by simp[hg]) ⟨z.zh,z.h0,z.z0.trans lz,z.new⟩ (Slots.consS ?_ ?_)
 . refine so2.perm ?_;have ec:cel (Z.g++[a]) (U.mu++[some p])=cel Z.g U.mu++[(some (.ref a),some (.own p))]:=by unfold cel;rw[YZ,YZ,aae (by simp[hg])];rfl
   unfold sl;show List.Perm (cel (Z.g++[a]) (U.mu++[some p])++_) _;rw[ec,YQ];exact Zd
 . unfold Rep;exact⟨a,rfl,by show (Z.g++[a])[U.mu.length]?=some a; rw[hg,Y8 (YC _)]; simp⟩
def xG (C:Str) (g:GF) (a:AF):EF:=λU=>(a U).bind λy=>(g (.ptr y.2.mu.length::y.1.map Lc.pv) (y.2.mu++[some (.obj C [] [])])).bind λr=>match r.1 with
 | .sh .non=>some (.sh (.ptr y.2.mu.length),⟨y.2.vs,r.2⟩)
 | _=>none
def Ob (P:Program) (w:World) (K:FG) (mg:Str->Option Value) (base:Heap) (c:Addr) (k:Nat) (ps:List Str) (sp:Sp):Prop:=∃f fd,j4 P w K mg base lG k f fd ps sp/\Mk K c f/\Binds K fd ps []
theorem Oc {C:Str} {c:Addr} {g:GF} {a:AF} {n':Nat} {E:XK} (T:rT X.K X.mg C c) (hn:∀U ls U1,a U=some (ls,U1)->ls.length+1=n'):∀Y H Q,tP X.K (xG C g a) Y H Q->Pn c (di X.K n' g) [] E (jf X.K a) Y H Q:=λY H Q q=>by
 obtain⟨H0,Z0,U,pd,l,U',s,h,k⟩:=q;obtain⟨y,h1,h2⟩:=aaU h;obtain⟨r,h3,h4⟩:=aaU h2;split at h4
 . rename_i er;cases h4;refine⟨H0,Z0,U,pd,y.1,y.2,s,h1,λvs H1 e1 s1 x dx hx hdx hne=>?_⟩;have s2:SR X.K H0 Z0 Y (upd H1 dx (.own x)) y.2 (vs.zip y.1++pd):=s1.ext hdx;have s3:SR X.K H0 Z0 Y (upd (upd H1 dx (.own x)) x (.ins c dx [])) y.2 ((.ref x,.own (.obj C [] []))::(vs.zip y.1++pd)):=s2.newO (by rw[bM hne.symm]; exact hx) λZ _ _=>⟨c,dx,[],T.cn,aW,rfl,.nil⟩;have s4:=s3.toCell;have s5:SR X.K H0 Z0 Y (upd (upd H1 dx (.own x)) x (.ins c dx [])) ⟨y.2.vs,y.2.mu++[some (.obj C [] [])]⟩ ((.ref x,.sh (.ptr y.2.mu.length))::(.ref x,.sh (.ptr y.2.mu.length))::(vs.zip y.1++pd)):=s4.part λZ _ r=>r;have s6:SR X.K H0 Z0 Y (upd (upd H1 dx (.own x)) x (.ins c dx [])) ⟨y.2.vs,y.2.mu++[some (.obj C [] [])]⟩ ((V.ref x::vs).zip (Lc.sh (.ptr y.2.mu.length)::y.1)++(.ref x,.sh (.ptr y.2.mu.length))::pd):=s5.perm (by rw[ZS,Z6];exact List.perm_middle.cons _)
   obtain⟨el,Z,hg,z,rl,sl'⟩:=s6.repl (by rw[Yy,Yy,e1]);refine⟨Z,.ptr y.2.mu.length::y.1.map Lc.pv,y.2.mu++[some (.obj C [] [])],r.1,r.2,?_,hg,z.zh,?_,sl'.cells hg,h3,λv H' rr=>?_⟩
   . rw[Y7_,Yy,e1]; exact hn _ _ _ h1
   . rw[Y7_]; exact rl
   . have s7:=SR.called el hg z sl' rr;rw[er]at s7;obtain⟨_,r0⟩:=s7.repH;exact⟨iZ r0,k _ _ s7.pop⟩
 . cases h4
theorem WF {C:Str} {c:Addr} {k:Nat} {ps:List Str} {g:GF} {e:Expr} {es:List Expr} {a:AF} {p pos:Pos} (T:rT X.K X.mg C c) (M:Ob X.prog X.w X.K X.mg X.base c k ps (di X.K ps.length g)) (hr:ni (k+1) X.A) (hg:Gl X C) (ha:PA X (e::es) (jf X.K a)) (hn:∀U ls U1,a U=some (ls,U1)->ls.length+1=ps.length)
 (hdb:(C==("__debug__" : Str))=false:=by decide) (he:starEach (e::es) X.env=(false,eval e X.env)::starEach es X.env:=by rfl) (hpl:(backTo pos (starEach es X.env)).any (·.1)=false:=by rfl):PE X (.Call (.Name C p) (e::es) [] pos) (tP X.K (xG C g a)):=by
 obtain⟨f,fd,F,hm,hb⟩:=M;exact PE.imp (QJ (E:=E0) hm F hr hg T.mgC hb .nil Aq ha hdb he hpl) (Oc T hn)
end
theorem KZ {a:AF} {n m:Nat} (h:∀U ls U1,a U=some (ls,U1)->ls.length=n) (e:n+1=m:=by rfl):∀U ls U1,a U=some (ls,U1)->ls.length+1=m:=λU ls U1 g=>by rw[h _ _ _ g,e]
theorem WK {P:Program} {w:World} {mg:Str->Option Value} {base:Heap} {c:Addr} {k:Nat} {ps:List Str} {sp:Sp} (h:zR P w K mg base c "__init__" k ps sp) (mk:W.makesIn K c=true) (kc:W.keepIn K (.ref c)=true):Ob P w K mg base c k ps sp:=by obtain⟨f,fd,F,m,b⟩:=h;exact⟨f,fd,F,⟨mk,m.at_,m.fn,kc⟩,b⟩
end PL
namespace L2
open PySem PySem.Spec PyProof.Rows
variable {abQ:List (Addr×Obj)} {E:Value->Shared->Prop} {s:Shared} {A:Around} {w:World} {P:Program}
section
variable {X:Cx}
end
end L2
namespace PL
open PySem PySem.Spec PyProof.Rows L2
variable {K:FG} {H0 H:Hp} {Z0:ZG} {Y:L2.St} {U:Ev} {pd:Pd}
section
variable {X:Cx}
theorem aB.rev {Z:ZG}:∀{ps:List PV} {vs:List V},aB K Z ps vs->aB K Z ps.reverse vs.reverse
 | [],vs,h=>by have e:=h.inv0;subst e;exact h
 | p::ps,vs,h=>by obtain⟨w,r,rfl,e2,e3⟩:=h.inv;rw[List.reverse_cons,List.reverse_cons];exact(aB.rev e3).append (aB.cons e2 aB.nil)
theorem SR.wrO {a:Addr} {ws ws':List PV} {f:List V->List V} (hf:∀{Z us},aB K Z ws us->aB K Z ws' (f us))
 (s:SR K H0 Z0 Y H U ((.ref a,.own (.lst ws))::pd)):∃us,H a=some (.lst us)/\SR K H0 Z0 Y (upd H a (.lst (f us))) U ((.ref a,.own (.lst ws'))::pd):=by
 obtain⟨el,Z,hg,z,so⟩:=s.top;obtain⟨b,eb,⟨us,hu,hr⟩,_⟩:=so.1 _ Yz;cases eb;refine⟨us,hu,?_⟩;obtain⟨z',s'⟩:=so.write (o:=.lst (f us)) (q:=.lst ws') z ⟨f us,aW,hf hr⟩;exact .mk (Z:=Z) el hg z' s'
def Od (i:Nat):SF:=λU=>match U.vs[i]? with
 | some (some (.own (.lst ws)))=>some (.nx (U.set i (some (.own (.lst ws.reverse)))))
 | _=>none
theorem Vk {i:Nat} {o:Expr} {apos cpos pos:Pos} (h:PS X (.Expr (.Call (.Attribute o "reverse" apos) [] [] cpos) pos) (wH (Mz X.K "list" Bq (mZ i)))):
 PS X (.Expr (.Call (.Attribute o "reverse" apos) [] [] cpos) pos) (fC X.K (Od i)):=PS.imp h λD Y H q=>by
 obtain⟨H0,Z0,U,pd,fl,s,h,k⟩:=q;unfold Od at h;split at h
 . rename_i ws e0;cases h;obtain⟨a,ea,⟨us,hu⟩,s1⟩:=s.takeO e0;obtain⟨us2,hu2,s2⟩:=s1.wrO (f:=List.reverse) (ws':=ws.reverse) λh=>h.rev;refine⟨.ref a,ea,.inl ⟨rfl,us,bJ.of hu⟩,a,us2,rfl,rfl,hu2,k Y _ ?_⟩;have s3:=s2.put ea;rw[Ev.set_set]at s3;exact s3
 . cases h
end
end PL
namespace L2
open PySem PySem.Spec PyProof.Rows
variable {abQ:List (Addr×Obj)} {E:Value->Shared->Prop} {s:Shared} {A:Around} {w:World} {P:Program}
section
variable {X:Cx}
def pk {α:Type} (xs:List α) (lo hi st:Option Int):List α:=
 (sliceRange (sliceBounds lo hi st xs.length).1 (sliceBounds lo hi st xs.length).2.1 (sliceBounds lo hi st xs.length).2.2).filterMap λi=>xs[i]?
theorem Di {its:List Value} {lo hi st:Option Int}:slicePick its.toArray lo hi st=(pk its lo hi st).toArray:=by unfold slicePick pk;simp
theorem Vals.pick {xs:List V} {its:List Value} (r:Vals xs its):∀{l:List Nat},Vals (l.filterMap λi=>xs[i]?) (l.filterMap λi=>its[i]?)
 | []=>.nil
 | i::l=>by
  have hl:=r.length;cases h:xs[i]? with
  | none=>
   have h':its[i]?=none:=by rw[List.getElem?_eq_none_iff]at h ⊢; omega
   rw[Zf h,Zf h'];exact r.pick
  | some x=>
   obtain⟨u,h',ru⟩:=r.get h;rw[List.filterMap_cons_some h,List.filterMap_cons_some h'];exact .cons ru r.pick
theorem Vals.pk {xs:List V} {its:List Value} {lo hi st:Option Int} (r:Vals xs its):Vals (pk xs lo hi st) (L2.pk its lo hi st):=by unfold L2.pk;rw[r.length];exact r.pick
def X4 (K:FG) (te:TE) (tl th tt:TO):TE:=λY H Q=>te Y H λx H1=>tl Y H1 λl H2=>th Y H2 λu H3=>tt Y H3 λk H4=>∃a xs,x=.ref a/\bJ K H4 a xs/\k≠some 0/\∀p,H4 p=none->Q (.ref p) (upd H4 p (.lst (pk xs l u k)))
theorem K1 {e:Expr} {lo hi:Option Expr} {st:Expr} {p2 pos:Pos} {te:TE} {tl th tt:TO} (he:PE X e te) (hl:PO X lo tl) (hu:PO X hi th) (ht:PO X (some st) tt):PE X (.Subscript e (.Slice lo hi (some st) p2) pos) (X4 X.K te tl th tt):=by
 intro abQ s Y H Q I h;refine Subscript_ (bI (he abQ s Y H _ I h) λv s1 zqz=>?_);obtain⟨x,H1,I1,r1,q1⟩:=zqz;refine wpAny_Slice (bI (hl abQ s1 Y H1 _ I1 q1) λvl s2 ⟨l,H2,I2,pl,q2⟩=>bI (hu abQ s2 Y H2 _ I2 q2) λvu s3 ⟨u,H3,I3,pu,q3⟩=>bI (ht abQ s3 Y H3 _ I3 q3) λvs s4 zqz=>?_);obtain⟨k,H4,I4,pk',q4⟩:=zqz;obtain⟨a,xs,rfl,hx,hk,q⟩:=q4;cases r1;have I5:Inv X abQ Y H4 { s4 with heap:=s4.heap.push { cls:=.type "slice",data:=.fields #[vl,vu,vs] } }:=I4.kept (t':=s4.toks) λb ob q=>YD _ q;obtain⟨its,r,ht,hz⟩:=I5.list hx;have hlen:=r.length;have hg:wpAny (model X.prog X.w) X.A (getItem (.ref a) (.ref s4.heap.objs.size)) (EP X abQ Y Q) X.xe { s4 with heap:=s4.heap.push { cls:=.type "slice",data:=.fields #[vl,vu,vs] } }:=by refine wpAny_getItem_list_slice ht.isList (Heap.IsSliceOf.new ..) pl pu pk' hk ?_ (by rw[YM]<;>omega);have hsz:=slicePick_size_le its.toArray l u k;rw[Di]at hsz ⊢;refine⟨.ref (s4.heap.push { cls:=.type "slice",data:=.fields #[vl,vu,vs] }).objs.size,_,I5.laid (t':=s4.toks) (o:=.lst (pk xs l u k)) (λb ob q=>YD _ q) (YC _) ?_,rfl,q _ (I5.hok.fresh (YC _))⟩;refine⟨?_,_,0,r.pk,YT _ rfl⟩;have e:=(r.pk (lo:=l) (hi:=u) (st:=k)).length;rw[YM,YM]at hsz;omega
 show wpAny (model X.prog X.w) X.A (subscriptTail e (.Slice lo hi (some st) p2) (.ref a) (.ref s4.heap.objs.size)) (EP X abQ Y Q) X.xe { s4 with heap:=s4.heap.push { cls:=.type "slice",data:=.fields #[vl,vu,vs] } };exact tail_any (ops:=[.ref a,.ref s4.heap.objs.size]) ht.isList.typeIs slot_list_getitem.lookup hg (by with_unfolding_all rfl)
end
end L2
namespace PL
open PySem PySem.Spec PyProof.Rows L2
variable {K:FG} {H0 H:Hp} {Z0:ZG} {Y:L2.St} {U:Ev} {pd:Pd}
section
variable {X:Cx}
theorem aB.pick {Z:ZG} {ps:List PV} {vs:List V} (r:aB K Z ps vs):∀{l:List Nat},aB K Z (l.filterMap λi=>ps[i]?) (l.filterMap λi=>vs[i]?)
 | []=>aB.nil
 | i::l=>by
  have hl:=r.length;cases h:ps[i]? with
  | none=>
   have h':vs[i]?=none:=by rw[List.getElem?_eq_none_iff]at h ⊢; omega
   rw[Zf h,Zf h'];exact r.pick
  | some x=>
   obtain⟨u,h',ru⟩:=r.get h;rw[List.filterMap_cons_some h,List.filterMap_cons_some h'];exact aB.cons ru r.pick
theorem aB.pk {Z:ZG} {ps:List PV} {vs:List V} {lo hi st:Option Int} (r:aB K Z ps vs):aB K Z (L2.pk ps lo hi st) (L2.pk vs lo hi st):=by unfold L2.pk;rw[r.length];exact r.pick
def wg (f:EF) (lo hi st:OF):EF:=λU=>(f U).bind λx=>(lo x.2).bind λy=>(hi y.2).bind λz=>(st z.2).bind λt=>match x.1.pv with
 | .lst ps=>if t.1≠some 0 then some (.own (.lst (pk ps y.1 z.1 t.1)),t.2) else none
 | _=>none
theorem Gu {e:Expr} {lo hi:Option Expr} {st:Expr} {p2 pos:Pos} {f:EF} {fl fh fs:OF} (he:PE X e (tP X.K f)) (hl:PO X lo (xj X.K fl)) (hu:PO X hi (xj X.K fh)) (ht:PO X (some st) (xj X.K fs)):
 PE X (.Subscript e (.Slice lo hi (some st) p2) pos) (tP X.K (wg f fl fh fs)):=PE.imp (K1 he hl hu ht) λY H Q q=>by
 obtain⟨H0,Z0,U,pd,r,U',s,h,k⟩:=q;obtain⟨x,h1,h2⟩:=aaU h;obtain⟨y,h3,h4⟩:=aaU h2;obtain⟨z,h5,h6⟩:=aaU h4;obtain⟨t,h7,h8⟩:=aaU h6;refine⟨H0,Z0,U,pd,x.1,x.2,s,h1,λv H1 s1=>⟨H0,Z0,x.2,_,y.1,y.2,s1.freeze,h3,λH2 s2=>⟨H0,Z0,y.2,_,z.1,z.2,s2,h5,λH3 s3=>⟨H0,Z0,z.2,_,t.1,t.2,s3,h7,λH4 s4=>?_⟩⟩⟩⟩;split at h8
 . rename_i ps e;split at h8
   . rename_i hk;cases h8;rw[e]at s4;obtain⟨el,Z,hg,zz,r1,s5⟩:=s4.sh;unfold Rep at r1;obtain⟨a,vs,rfl,g1,g2⟩:=r1;refine⟨a,vs,rfl,bJ.same zz.zh g1,hk,λp hp=>k _ _ ?_⟩;obtain⟨z',s'⟩:=s5.new (o:=.lst (pk vs y.1 z.1 t.1)) (p:=.lst (pk ps y.1 z.1 t.1)) zz hp ⟨_,aW,g2.pk⟩;exact .mk el hg z' s'
   . cases h8
 . cases h8
def Holds (o:Option Nat) (ps:List PV) (U:Ev):Prop:=∀n,o=some n->U.mu[n]?=some (some (.lst ps))
abbrev Yj:=Ev->Option (Option Nat×List PV×Ev)
def Yt (f:EF):Yj:=λU=>(f U).bind λx=>match x.1.pv with
 | .lst ps=>some (none,ps,x.2)
 | .ptr n=>match x.2.mu[n]? with
  | some (some (.lst ps))=>some (some n,ps,x.2)
  | _=>none
 | _=>none
def sealV (i:Nat) (U:Ev):Option Ev:=match U.vs[i]? with
 | some (some (.own p))=>some ⟨U.vs.set i (some (.sh (.ptr U.mu.length))),U.mu++[some p]⟩
 | _=>none
def qO (i:Nat) (f:SF):SF:=λU=>(sealV i U).bind f
theorem SR.sealV {U U':Ev} {i:Nat} (s:SR K H0 Z0 Y H U pd) (h:PL.sealV i U=some U'):SR K H0 Z0 Y H U' pd:=by
 unfold PL.sealV at h;split at h
 . rename_i p e0;cases h;obtain⟨v,ea,s1⟩:=s.take e0;obtain⟨_,Z,_,z,so⟩:=s1.top;obtain⟨a,eb,_⟩:=so.1 _ Yz;have eb':v=.ref a:=Y5 eb;subst eb';have s2:=s1.toCell.put ea;have e:(U.vs.set i none).set i (some (Lc.sh (.ptr U.mu.length)))=U.vs.set i (some (.sh (.ptr U.mu.length))):=Z3 _;have s3:SR K H0 Z0 Y H ⟨(U.vs.set i none).set i (some (Lc.sh (.ptr U.mu.length))),U.mu++[some p]⟩ pd:=s2;rw[e]at s3;exact s3
 . cases h
theorem Gv {i:Nat} {st:Stmt} {f:SF} (h:PS X st (fC X.K f)):PS X st (fC X.K (qO i f)):=PS.imp h λD Y H q=>by obtain⟨H0,Z0,U,pd,fl,s,h,k⟩:=q;obtain⟨U1,h1,h2⟩:=aaU h;exact⟨H0,Z0,U1,pd,fl,s.sealV h1,h2,k⟩
end
def dB (mu:Mu):Nat->PV->PV
 | 0,p=>p
 | k+1,.ptr n=>match mu[n]? with
  | some (some p)=>dB mu k p
  | _=>.ptr n
 | k+1,.tup ps=>.tup (ps.map (dB mu k))
 | k+1,.lst ps=>.lst (ps.map (dB mu k))
 | k+1,.dk ks ps=>.dk ks (ps.map (dB mu k))
 | _+1,p=>p
theorem rW {Z:ZG} {f:PV->PV} (hf:∀p x,Rep K Z p x->Rep K Z (f p) x):∀{ps:List PV} {vs:List V},aB K Z ps vs->aB K Z (ps.map f) vs
 | [],vs,h=>h
 | p::ps,vs,h=>by obtain⟨v,r,rfl,h1,h2⟩:=h.inv;exact aB.cons (hf p v h1) (rW hf h2)
def peekD (mu:Mu):Option Lc->Option Lc
 | some l=>some (.sh (dB mu 40 l.pv))
 | none=>none
def Ev.peekD (U:Ev):Ev:=⟨U.vs.map (PL.peekD U.mu),U.mu.map λ_=>none⟩
section
variable {X:Cx}
def xH (fo:EF):EF:=λU=>(fo U).bind λo=>match o.1.pv with
 | .ptr n=>match o.2.mu[n]? with
  | some (some (.lst ws))=>(ws[ws.length-1]?).map λp=>(.sh p,⟨o.2.vs,o.2.mu.set n (some (.lst ws.dropLast))⟩)
  | _=>none
 | _=>none
theorem WL {o:Expr} {fo:EF} {apos cpos:Pos} (h:PE X (.Call (.Attribute o "pop" apos) [] [] cpos) (Mz X.K "list" Ud (tP X.K fo))):PE X (.Call (.Attribute o "pop" apos) [] [] cpos) (tP X.K (xH fo)):=PE.imp h λY H Q q=>by
 obtain⟨H0,Z0,U,pd,r,U',s,h,k⟩:=q;obtain⟨o',h1,h2⟩:=aaU h;refine⟨H0,Z0,U,pd,o'.1,o'.2,s,h1,λv H1 s1=>?_⟩;split at h2
 . rename_i n en;split at h2
   . rename_i ws em;obtain⟨p,h3,h4⟩:=aaV h2;cases h4;have s2:=s1.freeze;rw[en]at s2;obtain⟨a,rfl,s5⟩:=s2.cellO em;obtain⟨_,Z,_,z,so⟩:=s5.top;obtain⟨_,ea,⟨us,hu,_⟩,_⟩:=so.1 _ Yz;cases ea;obtain⟨us2,y,hu2,hy,s6⟩:=s5.popO h3;have hn:n<o'.2.mu.length:=(YL.mp em).1;have s7:=(s6.perm (pd':=(.ref a,.own (.lst ws.dropLast))::(.ref a,.sh (.ptr n))::(y,.sh p)::pd) ((List.Perm.swap _ _ _).cons _)).cellP (by show (o'.2.mu.set n none)[n]?=_; rw[Zi hn]);refine⟨.inl ⟨rfl,us,bJ.of hu⟩,a,us2,y,rfl,rfl,hu2,hy,k _ _ ?_⟩;have e8:(o'.2.mu.set n none).set n (some (.lst ws.dropLast))=o'.2.mu.set n (some (.lst ws.dropLast)):=Z3 ..;rw[show (⟨o'.2.vs,o'.2.mu.set n (some (.lst ws.dropLast))⟩:Ev)=⟨o'.2.vs,(o'.2.mu.set n none).set n (some (.lst ws.dropLast))⟩ by rw[e8]];exact s7
   . cases h2
 . cases h2
def oU (f:EF) (fl fh:OF):EF:=λU=>(f U).bind λx=>(fl x.2).bind λy=>(fh y.2).bind λz=>match x.1.pv with
 | .tup ps=>if HT.sIx ps.length 0 y.1=0/\HT.sIx ps.length ps.length z.1=ps.length then none else some (.sh (.tup (rK ps y.1 z.1)),z.2)
 | _=>none
theorem yG {e:Expr} {lo hi:Option Expr} {p2 pos:Pos} {f:EF} {fl fh:OF} (he:PE X e (tP X.K f)) (hl:PO X lo (xj X.K fl)) (hu:PO X hi (xj X.K fh)):PE X (.Subscript e (.Slice lo hi none p2) pos) (tP X.K (oU f fl fh)):=PE.imp (Bm T5 he hl hu) λY H Q q=>by
 obtain⟨H0,Z0,U,pd,r,U',s,h,k⟩:=q;obtain⟨x,h1,h2⟩:=aaU h;obtain⟨y,h3,h4⟩:=aaU h2;obtain⟨z,h5,h6⟩:=aaU h4;refine⟨H0,Z0,U,pd,x.1,x.2,s,h1,λv H1 s1=>⟨H0,Z0,x.2,_,y.1,y.2,s1.freeze,h3,λH2 s2=>⟨H0,Z0,y.2,_,z.1,z.2,s2,h5,λH3 s3=>?_⟩⟩⟩;cases e:x.1.pv with
 | tup ps=>
  rw[e]at h6 s3;have h6:(if HT.sIx ps.length 0 y.1=0/\HT.sIx ps.length ps.length z.1=ps.length then none else some (Lc.sh (.tup (rK ps y.1 z.1)),z.2))=some (r,U'):=h6;split at h6
  . cases h6
  . rename_i hw;cases h6;obtain⟨el,Z,hg,zz,r1,s4⟩:=s3.sh;unfold Rep at r1;obtain⟨a,vs,rfl,g1,g2⟩:=r1;refine⟨a,vs,rfl,cg.same zz.zh g1,by rw[g2.length]; exact hw,λp hp=>k _ _ ?_⟩;obtain⟨z',lz,s'⟩:=s4.newF zz (a:=p) (o:=.tup (oG vs y.1 z.1)) hp;refine .mk (Z:=Z.put p (.tup (oG vs y.1 z.1))) el hg z' (s'.consS ?_);unfold Rep;exact⟨p,_,rfl,cg.of aW,g2.cut.mono lz⟩
 | _=>rw[e]at h6; cases h6
theorem Oe {g:List Addr} {mu:Mu}:∀e∈cel g (mu.map λ_=>none),e.2=none:=λe he=>by obtain⟨v,l⟩:=e;obtain⟨_,h2⟩:=aai he;obtain⟨o,ho,e2⟩:=Za.mp h2;obtain⟨o',_,e3⟩:=Za.mp ho;subst e3;exact e2.symm
def Og:PV->Option Str
 | .str z=>if z.length<=100000 then some z else none
 | .int i=>if i.natAbs.log2<1920 then (if (toString i:Str).length<=100000 then some (toString i) else none) else none
 | _=>none
def lH (c:Str) (f:EF):EF:=λU=>(f U).bind λx=>(Og x.1.pv).bind λz=>if c.length+z.length<=100000 then some (.sh (.str (c++z)),x.2) else none
theorem Gw {c:Str} {j:Nat} {e:Expr} {p1 p2 p3:Pos} {f:EF} (hc:c.length<=100000) (he:PE X e (tP X.K f)):PE X (.JoinedStr [.Constant (.str c) j p1,.FormattedValue e (-1) none p2] p3) (tP X.K (lH c f)):=PE.imp (Q8 (Zc hc (by decide)) he) λY H Q q=>by
 obtain⟨H0,Z0,U,pd,r,U',s,h,k⟩:=q;obtain⟨x,h1,h2⟩:=aaU h;obtain⟨z,h3,h4⟩:=aaU h2;obtain⟨hl,h5⟩:=lO h4;cases h5;refine⟨H0,Z0,U,pd,x.1,x.2,s,h1,λv H1 s1=>?_⟩;have s2:=SR.freeze s1;have hcz:(c++z).length<=sizeLine:=by rw[PySem.Str.length_append]; exact Zc hl (by decide)
 have hz:z.length<=sizeLine:=Zc (Zc (Nat.le_add_left _ _) hl) (by decide);refine⟨z,?_,hcz,hz,k _ H1 (s2.pop.scal kE)⟩;obtain⟨_,r⟩:=s2.repH;cases e:x.1.pv with
 | str y=>
  rw[e]at h3 r;obtain⟨_,rfl⟩:=lO h3;have:=bW r;subst this;rfl
 | int i=>
  rw[e]at h3 r;obtain⟨hi,h4⟩:i.natAbs.log2<1920/\(if (toString i:Str).length<=100000 then some (toString i) else none:Option Str)=some z:=by
   have h3':(if i.natAbs.log2<1920 then (if (toString i:Str).length<=100000 then some (toString i) else none) else none:Option Str)=some z:=h3;split at h3'
   . rename_i h;exact⟨h,h3'⟩
   . cases h3'
  obtain⟨_,rfl⟩:=lO h4;have:=bC r;subst this;exact aaN hi
 | _=>rw[e]at h3; cases h3
theorem Qe {c:Str} {f:EF} {U U1:Ev} {l:Lc} {z:Str} (h:f U=some (l,U1)) (hp:Og l.pv=some z) (hl:c.length+z.length<=100000):lH c f U=some (.sh (.str (c++z)),U1):=by unfold lH;rw[h,YB,hp,YB,aaN hl]
theorem SR.pop0O {a:Addr} {ws:List PV} {p:PV} (s:SR K H0 Z0 Y H U ((.ref a,.own (.lst (p::ws)))::pd)):
 ∃us y,H a=some (.lst (y::us))/\SR K H0 Z0 Y (upd H a (.lst us)) U ((.ref a,.own (.lst ws))::(y,.sh p)::pd):=by
 obtain⟨el,Z,hg,z,so⟩:=s.top;obtain⟨b,eb,⟨us,hu,hr⟩,_⟩:=so.1 _ Yz;cases eb;obtain⟨y,us',rfl,ry,hd⟩:=aB.inv hr;refine⟨us',y,hu,?_⟩;obtain⟨z',s'⟩:=so.write (o:=.lst us') (q:=.lst ws) z ⟨us',aW,hd⟩;have s2:=(s'.consS (v:=y) (p:=p) ry).perm (List.Perm.swap (some y,some (Lc.sh p)) (some (V.ref a),some (Lc.own (.lst ws))) _);exact .mk (Z:=Z) el hg z' (s2.perm (cD.cons _))
def uq (fo:EF):EF:=λU=>(fo U).bind λo=>match o.1.pv with
 | .ptr n=>match o.2.mu[n]? with
  | some (some (.lst (p::ws)))=>some (.sh p,⟨o.2.vs,o.2.mu.set n (some (.lst ws))⟩)
  | _=>none
 | _=>none
theorem Vl {o z:Expr} {fo:EF} {apos cpos:Pos} (h:PE X (.Call (.Attribute o "pop" apos) [z] [] cpos) (Fv X.K "list" JL (tP X.K fo) (jf X.K (aj (abO 0) ao)))):PE X (.Call (.Attribute o "pop" apos) [z] [] cpos) (tP X.K (uq fo)):=PE.imp h λY H Q q=>by
 obtain⟨H0,Z0,U,pd,r,U',s,h,k⟩:=q;obtain⟨o',h1,h2⟩:=aaU h;refine⟨H0,Z0,U,pd,o'.1,o'.2,s,h1,λv H1 s1=>?_⟩;split at h2
 . rename_i n en;split at h2
   . rename_i p ws em;cases h2;have s2:=s1.freeze;rw[en]at s2;obtain⟨a,rfl,s5⟩:=s2.cellO em;obtain⟨_,Z,_,z,so⟩:=s5.top;obtain⟨_,ea,⟨us,hu,_⟩,_⟩:=so.1 _ Yz;cases ea;refine⟨.inl ⟨rfl,us,bJ.of hu⟩,H0,Z0,o'.2,_,[.sh (.int 0)],o'.2,s2,rfl,λvs H2 e2 sv=>?_⟩;obtain⟨v1,rfl⟩:=vD e2;have s3:SR X.K H0 Z0 Y H2 o'.2 ((v1,.sh (.int 0))::(.ref a,.sh (.ptr n))::pd):=sv;obtain⟨_,r⟩:=s3.repH;have:=bC r;subst this;have s4:=s3.pop;obtain⟨a',ea',s6⟩:=s4.cellO em;cases ea';obtain⟨us2,y,hu2,s6⟩:=s6.pop0O;have hn:n<o'.2.mu.length:=(YL.mp em).1;have s7:=(s6.perm (pd':=(.ref a,.own (.lst ws))::(.ref a,.sh (.ptr n))::(y,.sh p)::pd) ((List.Perm.swap _ _ _).cons _)).cellP (by show (o'.2.mu.set n none)[n]?=_; rw[Zi hn]);refine⟨a,y::us2,0,0,y,rfl,rfl,hu2,by decide,by decide,?_,rfl,?_⟩
     . unfold seqIndex?;simp
     . rw[List.eraseIdx_zero];refine k _ _ ?_;have e8:(o'.2.mu.set n none).set n (some (.lst ws))=o'.2.mu.set n (some (.lst ws)):=Z3 ..;rw[show (⟨o'.2.vs,o'.2.mu.set n (some (.lst ws))⟩:Ev)=⟨o'.2.vs,(o'.2.mu.set n none).set n (some (.lst ws))⟩ by rw[e8]];exact s7
   . cases h2
 . cases h2
theorem Dj {fo:EF} {U U1:Ev} {o:Lc} {n:Nat} {ws:List PV} {p:PV} {mu:Mu} (h1:fo U=some (o,U1)) (ho:o.pv=.ptr n) (hm:U1.mu[n]?=some (some (.lst (p::ws)))) (e:U1.mu.set n (some (.lst ws))=mu):uq fo U=some (.sh p,⟨U1.vs,mu⟩):=by unfold uq;rw[h1,YB,ho];dsimp only;rw[hm];dsimp only;rw[e]
end
theorem Slots.freezeC {R:Sl}:∀(C:Sl) {Z:ZG},Slots K H0 Z H (C++R)->iB H0 Z0 Z H->∃Z',fV Z Z'/\Z'.g=Z.g/\iB H0 Z0 Z' H/\Slots K H0 Z' H R/\∀e∈C,∀q,e.2=some (.own q)->∃x,e.1=some x/\Rep K Z' q x
 | [],Z,so,z=>⟨Z,fV.refl Z,rfl,z,so,λe he=>by cases he⟩
 | (v,l)::C,Z,so,z=>by
  have rest:∀{Z1:ZG},fV Z Z1->Z1.g=Z.g->iB H0 Z0 Z1 H->Slots K H0 Z1 H (C++R)->(∀q,l=some (.own q)->∃x,v=some x/\Rep K Z1 q x)->∃Z',fV Z Z'/\Z'.g=Z.g/\iB H0 Z0 Z' H/\Slots K H0 Z' H R/\∀e∈(v,l)::C,∀q,e.2=some (.own q)->∃x,e.1=some x/\Rep K Z' q x:=λ{Z1} lz eg z1 so1 hv=>by
   obtain⟨Z',lz',eg',z',so',hc⟩:=Slots.freezeC C so1 z1;refine⟨Z',lz.trans lz',eg'.trans eg,z',so',λe he q hq=>?_⟩;rcases YF.mp he with rfl | he
   . obtain⟨x,ex,rx⟩:=hv q hq;exact⟨x,ex,rx.mono lz'⟩
   . exact hc e he q hq
  have so1:Slots K H0 Z H ((v,l)::(C++R)):=so;cases l with
  | none=>exact rest (fV.refl Z) rfl z (so1.sub (YX _ _)) λq h=>by cases h
  | some l=>
   cases l with
   | sh p=>exact rest (fV.refl Z) rfl z (so1.sub (YX _ _)) λq h=>by cases h
   | own p=>
    obtain⟨Z1,lz,eg,z1,so2⟩:=so1.freeze z;obtain⟨x,ex,rx⟩:=so2.1 _ Yz;exact rest lz eg z1 (so2.sub (YX _ _)) λq h=>by cases h;exact⟨x,ex,rx⟩
theorem mV {Z:ZG} {mu:Mu} (hc:∀(n:Nat) (a:Addr) (q:PV),Z.g[n]?=some a->mu[n]?=some (some q)->Rep K Z q (.ref a)):∀(k:Nat) (p:PV) (x:V),Rep K Z p x->Rep K Z (dB mu k p) x
 | 0,p,x,r=>r
 | k+1,p,x,r=>by
  cases p with
  | ptr n=>
   show Rep K Z (match mu[n]? with | some (some p)=>dB mu k p | _=>.ptr n) x;split
   . rename_i q hq;unfold Rep at r;obtain⟨a,rfl,ha⟩:=r;exact mV hc k q _ (hc n a q ha hq)
   . exact r
  | tup ps=>
   show Rep K Z (.tup (ps.map (dB mu k))) x;unfold Rep at r ⊢;obtain⟨a,vs,e,h1,h2⟩:=r;exact⟨a,vs,e,h1,rW (mV hc k) h2⟩
  | lst ps=>
   show Rep K Z (.lst (ps.map (dB mu k))) x;unfold Rep at r ⊢;obtain⟨a,vs,e,h1,h2⟩:=r;exact⟨a,vs,e,h1,rW (mV hc k) h2⟩
  | dk ks ps=>
   show Rep K Z (.dk ks (ps.map (dB mu k))) x;unfold Rep at r ⊢;obtain⟨a,vs,e,h1,h3,h2⟩:=r;exact⟨a,vs,e,h1,h3,rW (mV hc k) h2⟩
  | _=>exact r
theorem Slots.nones {Z:ZG} {R:Sl}:∀(C:Sl),(∀e∈C,e.2=none)->Slots K H0 Z H R->Slots K H0 Z H (C++R)
 | [],_,so=>so
 | (v,l)::C,h,so=>by
  have e:l=none:=h _ Yz;subst e;have s:=Slots.nones C (λe he=>h e (YG _ he)) so;refine⟨λe he=>?_,?_⟩
  . rcases YF.mp he with rfl | he
    . trivial
    . exact s.1 e he
  . show ((((v,none):Option V×Option Lc)::(C++R)).filterMap jj).Nodup;rw[Zf (by cases v with | none=>rfl | some x=>cases x<;>rfl)];exact s.2
theorem SR.meltD {v:V} {p:PV} (k:Nat) (s:SR K H0 Z0 Y H U ((v,.sh p)::pd)):
 SR K H0 Z0 Y H ⟨U.vs,U.mu.map λ_=>none⟩ ((v,.sh (dB U.mu k p))::pd):=by
 obtain⟨el,Z,hg,z,r,so⟩:=s.sh;obtain⟨Z',lz,eg,z',so2,hc⟩:=Slots.freezeC (cel Z.g U.mu) so z;have so3:Slots K H0 Z' H (sl Z'.g Y ⟨U.vs,U.mu.map λ_=>none⟩ pd):=Slots.nones (cel Z'.g (U.mu.map λ_=>none)) Oe so2;refine .mk (Z:=Z') el (by rw[eg]; simpa using hg) z' (so3.consS ?_);refine mV (λn a q ha hq=>?_) k p v (r.mono lz);rw[eg]at ha;have hm:(some (V.ref a),some (Lc.own q))∈cel Z.g U.mu:=Zn (zip_get (i:=n) (by rw[Y4,ha]; rfl) (by rw[Y4,hq]; rfl));obtain⟨x,ex,rx⟩:=hc _ hm q rfl;cases ex;exact rx
section
variable {X:Cx}
def xJ (f:EF):EF:=λU=>(f U).map λx=>(.sh (dB x.2.mu 40 x.1.pv),⟨x.2.vs,x.2.mu.map λ_=>none⟩)
theorem Vm {e:Expr} {f:EF} (h:PE X e (tP X.K f)):PE X e (tP X.K (xJ f)):=PE.imp h λY H Q q=>by obtain⟨H0,Z0,U,pd,l,U',s,f,k⟩:=q;obtain⟨x,h1,h2⟩:=aaV f;cases h2;exact⟨H0,Z0,U,pd,x.1,x.2,s,h1,λv H1 s1=>k v H1 (s1.freeze.meltD 40)⟩
theorem Oh {f:EF} {U U1:Ev} {l:Lc} {p:PV} (h:f U=some (l,U1)) (hp:dB U1.mu 40 l.pv=p):xJ f U=some (.sh p,⟨U1.vs,U1.mu.map λ_=>none⟩):=by unfold xJ;rw[h];show some (Lc.sh (dB U1.mu 40 l.pv),_)=_;rw[hp]
end
class HK where
 hk:List b8->Int
def okP:PV->Option b8
 | .non=>some none
 | .int i=>some (some (.inl i))
 | .str x=>some (some (.inr x))
 | _=>none
def oV:List PV->Option (List b8)
 | []=>some []
 | p::ps=>(okP p).bind λk=>(oV ps).map (k::·)
theorem Vn {Z:ZG} {p:PV} {v:V} {k:b8} (h:okP p=some k) (r:Rep K Z p v):v=sU k:=by
 cases p with
 | non=>cases h; exact iZ r
 | int i=>cases h; exact bC r
 | str x=>cases h; exact bW r
 | _=>cases h
theorem xK {Z:ZG}:∀{ps:List PV} {vs:List V} {ks:List b8},oV ps=some ks->aB K Z ps vs->vs=ks.map sU
 | [],vs,ks,h,r=>by cases h;exact r.inv0
 | p::ps,vs,ks,h,r=>by obtain⟨v,r',rfl,h1,h2⟩:=r.inv;obtain⟨k,g1,g2⟩:=aaU h;obtain⟨t,g3,g4⟩:=aaV g2;cases g4;rw[Vn g1 h1,xK g3 h2];rfl
abbrev Vo:=List (List b8×PV)
def lw:Vo->List b8->Option PV
 | [],_=>none
 | kv::r,k=>if kv.1=k then some kv.2 else lw r k
theorem Jd {x:List b8×Addr×V} {xs:XD} {k:List b8}:jy (x::xs) k=if x.1=k then some x.2.2 else jy xs k:=by
 unfold jy;by_cases e:x.1=k
 . rw[aau (by simpa using e),aaN e]; rfl
 . rw[aav (by simpa using e),aaO e]
theorem Dk {Z:ZG} {k:List b8}:∀{xs:XD} {ps:List PV},aB K Z ps (xs.map (·.2.2))->(∀p,lw ((xs.map (·.1)).zip ps) k=some p->∃v,jy xs k=some v/\Rep K Z p v)/\(lw ((xs.map (·.1)).zip ps) k=none->jy xs k=none)
 | [],ps,h=>⟨λp e=>(by cases e),λ_=>rfl⟩
 | x::xs,[],h=>by have:=h.inv0; cases this
 | x::xs,p::ps,h=>by
  obtain⟨v,r,e,h1,h2⟩:=h.inv;rw[YW]at e;injection e with e1 e2;subst e1 e2;have ih:=Dk (k:=k) h2;rw[Jd];show (∀q,(if x.1=k then some p else lw ((xs.map (·.1)).zip ps) k)=some q->_)/\((if x.1=k then some p else lw ((xs.map (·.1)).zip ps) k)=none->_);by_cases e:x.1=k
  . rw[aaN e,aaN e];exact⟨λq hq=>by cases hq; exact⟨_,rfl,h1⟩,λhq=>by cases hq⟩
  . rw[aaO e,aaO e];exact ih
theorem SR.setX {v kb:V} {p:PV} {kp:List PV} {a:Addr} {hk:List b8->Int} {ks:List (List b8)} {ps:List PV} {k:List b8} (s:SR K H0 Z0 Y H U ((v,.sh p)::(kb,.sh (.tup kp))::(.ref a,.own (.dx hk ks ps))::pd)) (ek:oV kp=some k):
 ∃b xs,kb=.ref b/\H a=some (.ext (sV hk a xs))/\(∀x∈xs,cg K H x.2.1 (x.1.map sU))/\cg K H b (k.map sU)/\xs.length=ks.length/\
  (lw (ks.zip ps) k=none->jy xs k=none/\SR K H0 Z0 Y (upd H a (.ext (sV hk a (xs++[(k,b,v)])))) U ((.ref a,.own (.dx hk (ks++[k]) (ps++[p])))::(v,.sh p)::pd))/\
  (∀q,lw (ks.zip ps) k=some q->∃u,jy xs k=some u/\SR K H0 Z0 Y H U ((u,.sh q)::(.ref a,.own (.dx hk ks ps))::pd)):=by
 obtain⟨el,Z,hg,z,r,so⟩:=s.sh;have so1:=so.perm cD.symm;obtain⟨x,e1,rk⟩:=so1.1 _ Yz;cases e1;unfold Rep at rk;obtain⟨b,ws,rfl,hb,rw'⟩:=rk;have ew:=xK ek rw';subst ew;have so2:Slots K H0 Z H (sl Z.g Y U ((.ref a,.own (.dx hk ks ps))::pd)):=so1.sub (YX _ _);have so3:=so2.perm cD.symm;obtain⟨_,eb,⟨xs,hu,hk1,hk2,hr⟩,_⟩:=so3.1 _ Yz;cases eb;subst hk1;have hv:=Dk (k:=k) hr;refine⟨b,xs,rfl,hu,λx hx=>cg.same z.zh (hk2 x hx),cg.same z.zh hb,by rw[YH],λhn=>⟨hv.2 hn,?_⟩,λq hq=>?_⟩
 . have so4:Slots K H0 Z H ((some (.ref a),some (.own (.dx hk (xs.map (·.1)) ps)))::(some v,some (.sh p))::sl Z.g Y U pd):=(so3.consS r).perm (List.Perm.swap _ _ _);obtain⟨z',s'⟩:=so4.write (o:=.ext (sV hk a (xs++[(k,b,v)]))) (q:=.dx hk (xs.map (·.1)++[k]) (ps++[p])) z ⟨xs++[(k,b,v)],aW,by rw[YZ]; rfl,(λx hx=>(by
    rcases Y6_.mp hx with hx | hx
    . exact hk2 x hx
    . rw[Ze.mp hx];exact hb)),by rw[YZ]; exact hr.append (aB.cons r .nil)⟩
   exact .mk el hg z' (s'.perm (cD.symm.cons _).symm)
 . obtain⟨u,e,ru⟩:=hv.1 q hq;exact⟨u,e,.mk el hg z (so2.consS ru)⟩
theorem SR.takeX {i:Nat} {hk:List b8->Int} {ks:List (List b8)} {ps:List PV} (s:SR K H0 Z0 Y H U pd) (e:U.vs[i]?=some (some (.own (.dx hk ks ps)))):
 ∃a xs,Y[i]?=some (some (.ref a))/\H a=some (.ext (sV hk a xs))/\SR K H0 Z0 Y H (U.set i none) ((.ref a,.own (.dx hk ks ps))::pd):=by
 obtain⟨v,e1,s1⟩:=s.take e;obtain⟨_,Z,_,z,so⟩:=s1.top;obtain⟨a,ea,⟨xs,hu,_⟩,_⟩:=so.1 _ Yz;have ea':v=.ref a:=Y5 ea;subst ea';exact⟨a,xs,e1,hu,s1⟩
theorem SR.seal {v:V} {p:PV} (s1:SR K H0 Z0 Y H U ((v,.own p)::pd)):SR K H0 Z0 Y H ⟨U.vs,U.mu++[some p]⟩ ((v,.sh (.ptr U.mu.length))::pd):=by
 obtain⟨el,Z,hg,z,so⟩:=s1.top;obtain⟨a,ea,ra,za,ha0⟩:=so.1 _ Yz;have ea':v=.ref a:=Y5 ea;subst ea';have lz:fV Z ⟨Z.z,Z.g++[a]⟩:=⟨cR.refl _,aap _ _⟩;have so2:=so.step (Z':=⟨Z.z,Z.g++[a]⟩) (H':=H) lz λe he b hb=>⟨rfl,(gG so he hb).1⟩;refine .mk (Z:=⟨Z.z,Z.g++[a]⟩) el (by simp[hg]) ⟨z.zh,z.h0,z.z0.trans lz,z.new⟩ (Slots.consS ?_ ?_)
 . refine so2.perm ?_;have ec:cel (Z.g++[a]) (U.mu++[some p])=cel Z.g U.mu++[(some (.ref a),some (.own p))]:=by unfold cel;rw[YZ,YZ,aae (by simp[hg])];rfl
   unfold sl;show List.Perm (cel (Z.g++[a]) (U.mu++[some p])++_) _;rw[ec,YQ];exact Zd
 . unfold Rep;exact⟨a,rfl,by show (Z.g++[a])[U.mu.length]?=some a; rw[hg,Y8 (YC _)]; simp⟩
theorem Ev.set_self {i:Nat} {l:Option Lc} (e:U.vs[i]?=some l):U.set i l=U:=by show Ev.mk (U.vs.set i l) U.mu=U;obtain⟨hi,he⟩:=YL.mp e;rw[<-he,List.set_getElem_self]
section
variable {X:Cx} [HK]
def K3:EF:=λU=>some (.own (.dx HK.hk [] []),U)
theorem Vp (hx:HK.hk=zB X.prog X.w) {pos:Pos}:PE X (.Dict [] [] pos) (tP X.K K3):=PE.imp Nf λY H Q q=>by obtain⟨H0,Z0,U,pd,l,U',s,f,k⟩:=q;cases f;exact λp hp=>k _ _ (s.newO hp λZ _ _=>⟨[],by rw[aW,hx]; rfl,rfl,(λx hx=>(by cases hx)),aB.nil⟩)
open Classical in
def uX (i:Nat) (fk:EF):EF:=λU=>match U.vs[i]? with
 | some (some (.own (.dx _ _ _)))=>(fk U).bind λy=>match y.1.pv,y.2.vs[i]? with
  | .tup kp,some (some (.own (.dx hk ks ps)))=>(oV kp).bind λk=>if hk=HK.hk/\ks.length<100000 then
   (match lw (ks.zip ps) k with
   | some p=>some (.sh p,y.2)
   | none=>some (.sh (.ptr y.2.mu.length),⟨y.2.vs.set i (some (.own (.dx hk (ks++[k]) (ps++[.ptr y.2.mu.length])))),y.2.mu++[some (.lst [])]⟩))
   else none
  | _,_=>none
 | _=>none
theorem WM {i:Nat} {o e1 e2:Expr} {fk:EF} {apos cpos:Pos} (hx:HK.hk=zB X.prog X.w) (h:PE X (.Call (.Attribute o "setdefault" apos) [e1,e2] [] cpos) (λY H Q=>mZ i Y H λx H1=>(∃a hk xs,x=.ref a/\H1 a=some (.ext (sV hk a xs)))/\jf X.K (aj fk (aj (cM ao) ao)) Y H1 λvs H2=>J4 X.prog X.w X.K x vs H2 Q)):
 PE X (.Call (.Attribute o "setdefault" apos) [e1,e2] [] cpos) (tP X.K (uX i fk)):=PE.imp h λY H Q q=>by
 obtain⟨H0,Z0,U,pd,r,U',s,h,k⟩:=q;unfold uX at h;split at h
 . rename_i hk0 ks0 ps0 e0;obtain⟨y,h1,h2⟩:=aaU h;obtain⟨a,xs,ea,hu,_⟩:=s.takeX e0;refine⟨.ref a,ea,⟨a,hk0,xs,rfl,hu⟩,H0,Z0,U,pd,[y.1,.own (.lst [])],y.2,s,?_,λvs H2 e2 s2=>?_⟩
   . unfold aj ao cM;simp[h1]
   . obtain⟨v1,v2,rfl⟩:=ln2 e2;have s2':SR X.K H0 Z0 Y H2 y.2 ((v1,y.1)::(v2,.own (.lst []))::pd):=s2;split at h2
     . rename_i kp hk ks ps e3 e4;obtain⟨kk,ek,h3⟩:=aaU h2;split at h3
       . rename_i hc;obtain⟨hc1,hc2⟩:=hc;subst hc1;have s3:=s2'.freeze;rw[e3]at s3;cases hv:lw (ks.zip ps) kk with
         | some p=>
          rw[hv]at h3;cases h3;obtain⟨a',xs',ea',hu',s4⟩:=s3.swap.freeze.takeX e4;rw[ea]at ea'; cases ea';have s5:=s4.perm (pd':=(v2,.sh (.lst []))::(v1,.sh (.tup kp))::(.ref a,.own (.dx HK.hk ks ps))::pd) (ZC (l₁:=[(v2,Lc.sh (.lst [])),(v1,.sh (.tup kp))]) (l₂:=[(.ref a,.own (.dx HK.hk ks ps))]) |>.append_right pd);obtain⟨b,xs2,rfl,g1,g2,g3,g4,_,g6⟩:=s5.setX ek;obtain⟨u,eu,s6⟩:=g6 p hv;refine⟨a,b,xs2,kk,v2,rfl,rfl,by rw[g1]; unfold dX; rw[hx],g2,g3,by rw[g4,sizeLine_eq]; omega,?_⟩;rw[eu];have s7:=s6.swap.put ea;rw[Ev.set_set,Ev.set_self e4]at s7;exact k _ _ s7
         | none=>
          rw[hv]at h3;cases h3;have s3a:=s3.swap.seal;obtain⟨a',xs',ea',hu',s4⟩:=s3a.takeX (i:=i) (hk:=HK.hk) (ks:=ks) (ps:=ps) e4;rw[ea]at ea'; cases ea';have s5:=s4.perm (pd':=(v2,.sh (.ptr y.2.mu.length))::(v1,.sh (.tup kp))::(.ref a,.own (.dx HK.hk ks ps))::pd) (ZC (l₁:=[(v2,Lc.sh (.ptr y.2.mu.length)),(v1,.sh (.tup kp))]) (l₂:=[(.ref a,.own (.dx HK.hk ks ps))]) |>.append_right pd);obtain⟨b,xs2,rfl,g1,g2,g3,g4,g5,_⟩:=s5.setX ek;obtain⟨eu,s6⟩:=g5 hv;refine⟨a,b,xs2,kk,v2,rfl,rfl,by rw[g1]; unfold dX; rw[hx],g2,g3,by rw[g4,sizeLine_eq]; omega,?_⟩;rw[eu];have s7:=s6.put ea;rw[Ev.set_set]at s7;have e9:(.ext (sV (zB X.prog X.w) a (xs2++[(kk,b,v2)])):HO)=dX X.prog X.w a (xs2++[(kk,b,v2)]):=rfl;rw[<-e9,<-hx];exact k _ _ s7
       . cases h3
     . cases h2
 . cases h
open Classical in
def Yu (fo fk:EF):EF:=λU=>(fo U).bind λx=>match x.1.pv with
 | .dx hk ks ps=>(fk x.2).bind λy=>match y.1.pv with
  | .tup kp=>(oV kp).bind λk=>if hk=HK.hk then some (match lw (ks.zip ps) k with | some p=>.sh p | none=>.own (.lst []),y.2) else none
  | _=>none
 | _=>none
def meltL:Mu->List PV->Option (List PV×Mu)
 | mu,[]=>some ([],mu)
 | mu,.ptr n::ps=>match mu[n]? with
  | some (some q)=>(meltL (mu.set n none) ps).map λr=>(q::r.1,r.2)
  | _=>none
 | _,_=>none
theorem Slots.meltL {R:Sl}:∀{ps qs:List PV} {mu mu':Mu} {vs:List V} {Z:ZG},PL.meltL mu ps=some (qs,mu')->aB K Z ps vs->mu.length=Z.g.length->iB H0 Z0 Z H->Slots K H0 Z H (cel Z.g mu++R)->
 ∃Z',fV Z Z'/\Z'.g=Z.g/\iB H0 Z0 Z' H/\Slots K H0 Z' H (cel Z'.g mu'++R)/\aB K Z' qs vs/\mu'.length=mu.length
 | [],qs,mu,mu',vs,Z,h,r,hg,z,so=>by cases h;exact⟨Z,fV.refl Z,rfl,z,so,r,rfl⟩
 | p::ps,qs,mu,mu',vs,Z,h,r,hg,z,so=>by
  cases p with
  | ptr n=>
   unfold PL.meltL at h;split at h
   . rename_i q hm;obtain⟨t,h1,h2⟩:=aaV h;cases h2;obtain⟨v,vr,rfl,r1,r2⟩:=r.inv;unfold Rep at r1;obtain⟨a,rfl,ha⟩:=r1;obtain⟨C,p1,p2⟩:=uf ha hm;have so2:Slots K H0 Z H ((some (.ref a),some (.own q))::(C++R)):=so.perm (p1.append_right _).symm;obtain⟨Z1,lz,eg,z1,so3⟩:=so2.freeze z;obtain⟨x,ex,rx⟩:=so3.1 _ Yz;cases ex;have so4:Slots K H0 Z1 H (C++R):=so3.sub (YX _ _);have so5:Slots K H0 Z1 H ((some (.ref a),none)::(C++R)):=by
      refine⟨λe he=>?_,?_⟩
      . rcases YF.mp he with rfl | he
        . trivial
        . exact so4.1 e he
      . rw[Zf rfl]; exact so4.2
     have so6:Slots K H0 Z1 H (cel Z1.g (mu.set n none)++R):=by rw[eg];exact so5.perm ((p2 none).append_right _)
     obtain⟨Z2,lz2,eg2,z2,so7,r7,l7⟩:=Slots.meltL h1 (r2.mono lz) (by rw[eg]; simpa using hg) z1 so6;exact⟨Z2,lz.trans lz2,eg2.trans eg,z2,so7,aB.cons (rx.mono lz2) r7,by simpa using l7⟩
   . cases h
  | _=>cases h
def Dl (f:EF):EF:=λU=>(f U).bind λx=>match x.1.pv with
 | .dx hk ks ps=>(meltL x.2.mu ps).map λr=>(.sh (.dx hk ks r.1),⟨x.2.vs,r.2⟩)
 | _=>none
theorem Vq {e:Expr} {f:EF} (h:PE X e (tP X.K f)):PE X e (tP X.K (Dl f)):=PE.imp h λY H Q q=>by
 obtain⟨H0,Z0,U,pd,l,U',s,f,k⟩:=q;obtain⟨x,h1,h2⟩:=aaU f;refine⟨H0,Z0,U,pd,x.1,x.2,s,h1,λv H1 s1=>?_⟩;split at h2
 . rename_i hk ks ps e0;obtain⟨r,h3,h4⟩:=aaV h2;cases h4;have s2:=s1.freeze;rw[e0]at s2;obtain⟨el,Z,hg,z,rd,so⟩:=s2.sh;unfold Rep at rd;obtain⟨a,xs,rfl,g1,g2,g3,g4⟩:=rd;obtain⟨Z2,lz,eg,z2,so2,r2,l2⟩:=Slots.meltL (R:=Y.zip x.2.vs++pd.map λe=>(some e.1,some e.2)) h3 g4 hg z so;refine k _ H1 (.mk (Z:=Z2) el (by rw[eg]; simpa [l2] using hg) z2 (Slots.consS so2 ?_));unfold Rep;exact⟨a,xs,rfl,lz.1 _ _ g1,g2,λx hx=>cg.same lz.1 (g3 x hx),r2⟩
 . cases h2
end
section
variable {X:Cx}
theorem qw (i:Nat) {x:Str} {pos:Pos} (hN:X.N[i]?=some x:=by rfl) (hv:Ju X.env.scope x:=by first | exact Or.inl rfl | exact Or.inr (Or.inl rfl) | exact Or.inr (Or.inr rfl)) (hd:(x==("__debug__" : Str))=false:=by decide) (hcd:(x==("__classdict__" : Str))=false:=by decide):PE X (.Name x pos) (tP X.K (aa i)):=qv (pv i hN hv hd hcd)
theorem aK {i:Int} {j} {pos:Pos}:PE X (.Constant (.int i) j pos) (tP X.K (abO i)):=qc SX fL
theorem c7 {i:Str} {j} {pos:Pos}:PE X (.Constant (.str i) j pos) (tP X.K (abP i)):=qc S6 kE
theorem Qf {j} {pos:Pos}:PE X (.Constant .none j pos) (tP X.K (eC .non)):=qc S5 uK
theorem qI {a:Expr} {i:Int} {j} {p pos:Pos} {fa:EF} (ha:PE X a (tP X.K fa)):PE X (.Subscript a (.Constant (.int i) j p) pos) (tP X.K (aR fa (abO i))):=gk ha aK (λ_ _=>rfl)
theorem qL {e:Expr} {f:EF} {p pos:Pos} (b:X.mg "len" = none) (h:PE X e (tP X.K f)) (hg:Gl X "len" := by rfl) (h0:starEach [e] X.env=(false,eval e X.env)::starEach [] X.env:=by rfl):PE X (.Call (.Name "len" p) [e] [] pos) (tP X.K (eB bz (aj f ao))):=CG oF Kr (jh oF hg b aaC (ak h az h0) (he:=h0))
theorem dC (i:Nat) {x:Str} {e:Expr} {pos pos':Pos} {f:EF} (hN:X.N.Nodup) (he:PE X e (tP X.K f)) (hi:X.N[i]?=some x:=by rfl) (hx:L2.Loc X.env.scope x:=by exact Or.inl rfl) (hs:swapsWith e (some (.Name x pos')) pos.line X.env=pure false:=by rfl) (hf:X.fn x=true\/X.env.scope.names.lookup x=some .local:=by first | exact .inl rfl | exact .inr rfl | assumption):
 PS X (.Assign [.Name x pos'] e pos) (fC X.K (aP i f)):=w5 hN hi hx he hs hf
theorem cB (i:Nat) {x:Str} {pos:Pos} (hN:X.N.Nodup) (hi:X.N[i]?=some x:=by rfl) (hx:L2.Loc X.env.scope x:=by exact Or.inl rfl) (hf:X.fn x=true\/X.env.scope.names.lookup x=some .local:=by first | exact .inl rfl | exact .inr rfl | assumption):PG X (.Name x pos) (Ao i):=Qy hN hi hx hf
theorem pW {M F:List Str} {ixs:List Nat} {sc:Scope} (S:Scope) (hS:X.env.scope=S:=by rfl) (kind:sc.kind=.function:=by rfl) (locs:∀y∈sc.names,y.2=.local->sc.names.lookup y.1=some .local:=by decide +kernel) (cel:∀y∈sc.names,y.2=.cell->sc.names.lookup y.1=some .cell:=by decide +kernel)
 (own:∀p∈sc.names,p.2=.free->S.names.lookup p.1=some .cell\/S.names.lookup p.1=some .free:=by decide +kernel) (frs:∀x∈F,sc.names.lookup x=some .free:=by decide +kernel) (ix:ixs.map (λi=>X.N[i]?)=F.map some:=by rfl):gQ X M F ixs sc:=Wx S hS kind locs cel own frs ix
theorem ur {i:Nat} {o e:Expr} {f:EF} {apos cpos pos:Pos} (ho:PE X o (mZ i)) (he:PE X e (tP X.K f)) (h0:starEach [e] X.env=(false,eval e X.env)::starEach [] X.env:=by rfl) (h1:attributeBase o "append" X.env (eval o X.env)=eval o X.env:=by rfl)
 (h2:((backTo cpos (starEach [e] X.env)).all (λx=>!x.1)&&(backToKw cpos (keywordEach [] X.env)).all (λx=>x.1.isSome)
   && decide (([e]:List Expr).length+([]:List Keyword).length+(if ([]:List Keyword).isEmpty then 0 else 1)<30))=true:=by rfl) (h3:(apos.endLine==cpos.line)=true:=by rfl) (hs:swapsWith (.Call (.Attribute o "append" apos) [e] [] cpos) none pos.line X.env=pure false:=by rfl):
 PS X (.Expr (.Call (.Attribute o "append" apos) [e] [] cpos) pos) (fC X.K (iK i f)):=Vb (lK (pI F.plainAttrs_list F.slot_list_append F.type_list_append mO ho (ak he az h0) h1 h2 h3 h0) hs)
theorem yH {i:Nat} {o e:Expr} {f:EF} {apos cpos pos:Pos} (ho:PE X o (mZ i)) (he:PE X e (tP X.K f)) (h0:starEach [e] X.env=(false,eval e X.env)::starEach [] X.env:=by rfl) (h1:attributeBase o "extend" X.env (eval o X.env)=eval o X.env:=by rfl)
 (h2:((backTo cpos (starEach [e] X.env)).all (λx=>!x.1)&&(backToKw cpos (keywordEach [] X.env)).all (λx=>x.1.isSome)
   && decide (([e]:List Expr).length+([]:List Keyword).length+(if ([]:List Keyword).isEmpty then 0 else 1)<30))=true:=by rfl) (h3:(apos.endLine==cpos.line)=true:=by rfl) (hs:swapsWith (.Call (.Attribute o "extend" apos) [e] [] cpos) none pos.line X.env=pure false:=by rfl):
 PS X (.Expr (.Call (.Attribute o "extend" apos) [e] [] cpos) pos) (fC X.K (j8 i f)):=Vc (lK (pI F.plainAttrs_list F.slot_list_extend F.type_list_extend Il ho (ak he az h0) h1 h2 h3 h0) hs)
end
inductive XR (α:Type) where
 | ok (a:α)
 | xc (C:Str) (U:Ev)
section
variable {X:Cx} {E:XK}
end
section
variable {P:Program} {w:World} {K:FG} {mg:Str->Option Value} {base:Heap}
end
section
variable {X:Cx} {E:XK}
end
section
variable {X:Cx}
end
section
variable {P:Program} {w:World} {K:FG} {mg:Str->Option Value} {base:Heap}
end
section
variable {X:Cx} {E:XK}
end
section
variable {K:FG} {H0 H:Hp} {Z0:ZG} {Y:L2.St} {U:Ev} {pd:Pd}
end
section
variable {X:Cx} {E:XK}
end
section
variable {X:Cx}
def Yx (fa fb:EF):EF:=λU=>(fa U).bind λx=>(fb x.2).bind λy=>match x.1.pv,De y.1.pv with
 | .ptr n,some k=>match y.2.mu[n]? with
  | some (some (.dk ks ps))=>(jK (ks.zip ps) k).map λp=>(.sh p,y.2)
  | _=>none
 | _,_=>none
def uY (fo fi fv:EF):SF:=λU=>(fv U).bind λx=>(fo x.2).bind λo=>(fi o.2).bind λy=>match o.1.pv,De y.1.pv with
 | .ptr n,some k=>match y.2.mu[n]? with
  | some (some (.dk ks ps))=>if ks.length<100000 then some (.nx ⟨y.2.vs,y.2.mu.set n (some (dz (ig (ks.zip ps) k x.1.pv)))⟩) else none
  | _=>none
 | _,_=>none
theorem yI {o ix e:Expr} {fo fi fv:EF} {tpos pos:Pos} (h:PS X (.Assign [.Subscript o ix tpos] e pos) (Bh (tP X.K fv) (HD (tP X.K fo) (tP X.K fi) Im))):PS X (.Assign [.Subscript o ix tpos] e pos) (fC X.K (uY fo fi fv)):=PS.imp h λD Y H q=>by
 obtain⟨H0,Z0,U,pd,fl,s,h,k⟩:=q;obtain⟨x,h1,h2⟩:=aaU h;obtain⟨o,h3,h4⟩:=aaU h2;obtain⟨y,h5,h6⟩:=aaU h4;refine⟨H0,Z0,U,pd,x.1,x.2,s,h1,λv H1 s1=>⟨H0,Z0,x.2,_,o.1,o.2,s1.freeze,h3,λw H2 s2=>⟨H0,Z0,o.2,_,y.1,y.2,s2.freeze,h5,λt H3 s3=>?_⟩⟩⟩;split at h6
 . rename_i n kk en ek;split at h6
   . rename_i ks ps em;split at h6
     . rename_i hlen;cases h6;obtain⟨_,rt'⟩:=s3.freeze.repH;have et:=yC ek rt';have s4:=s3.pop;rw[en]at s4;obtain⟨a,rfl,s5⟩:=s4.cellO em;have s6:SR X.K H0 Z0 Y H3 ⟨y.2.vs,y.2.mu.set n none⟩ ((v,.sh x.1.pv)::(.ref a,.own (.dk ks ps))::(.ref a,.sh (.ptr n))::pd):=s5.perm ((List.Perm.swap _ _ _).trans ((List.Perm.swap _ _ _).cons _));obtain⟨kvs,hu,hl,s7⟩:=s6.setD (k:=kk);have hn:n<y.2.mu.length:=(YL.mp em).1;have s8:=s7.cellP (by show (y.2.mu.set n none)[n]?=_; rw[Zi hn]);refine⟨a,_,rfl,.inl ⟨kvs,kk,hu,et,by rw[hl,sizeLine_eq]; omega,rfl⟩,k Y _ ?_⟩;have e8:(y.2.mu.set n none).set n (some (dz (ig (ks.zip ps) kk x.1.pv)))=y.2.mu.set n (some (dz (ig (ks.zip ps) kk x.1.pv))):=Z3 ..;have s9:SR X.K H0 Z0 Y (upd H3 a (.dK (putK kvs kk v))) ⟨y.2.vs,(y.2.mu.set n none).set n (some (dz (ig (ks.zip ps) kk x.1.pv)))⟩ pd:=s8;rw[e8]at s9;exact s9
     . cases h6
   . cases h6
 . cases h6
def Vr:PV->Option Lc
 | .dk ks _=>(pU ks).bind λss=>if ss.Nodup/\ss.length<4000 then some (.own (.lst ((gW ss).map PV.str))) else none
 | _=>none
abbrev ou:List PV->Option Lc:=λps=>match ps with | [p]=>Vr p | _=>none
theorem zV:jg K Gd ou:=jg.one λH0 Z0 Y U pd H v p l Q s e k=>by
 obtain⟨el,Z,hg,z,r,s1⟩:=s.sh;cases p with
 | dk ks ps=>
  obtain⟨ss,h1,h2⟩:=aaU e;split at h2
  . rename_i hl;cases h2;unfold Rep at r;obtain⟨a,kvs,rfl,h3,h4,h5⟩:=r;refine⟨a,kvs,ss,rfl,z.zh _ _ h3,by rw[h4]; exact v6 h1,hl.1,hl.2,λq ss' hq p so=>k _ _ ?_⟩;rw[Df p so];obtain⟨z',s'⟩:=s1.new (o:=.lst ((gW ss).map V.str)) (p:=.lst ((gW ss).map PV.str)) z hq ⟨_,aW,rR⟩;exact .mk el hg z' s'
  . cases h2
 | _=>cases e
def ut (f:EF):EF:=λU=>(f U).bind λx=>match x.1.pv with
 | .lst ps=>(uV ps).bind λss=>if ss.length<4000 then some (.own (.lst ((gW (sW ss)).map PV.str)),x.2) else none
 | _=>none
theorem Je {e:Expr} {f:EF} {p p' pos pos':Pos} (h:PE X (.Call (.Name "sorted" p) [.Call (.Name "set" p') [e] [] pos'] [] pos) (vz (Kf X) (wJ (vz (Um X) (jf X.K (aj f ao))) Bj))):PE X (.Call (.Name "sorted" p) [.Call (.Name "set" p') [e] [] pos'] [] pos) (tP X.K (ut f)):=PE.imp h λY H Q q=>by
 obtain⟨H0,Z0,U,pd,l,U',s,h,k⟩:=q;obtain⟨x,h1,h2⟩:=aaU h;refine⟨H0,Z0,U,pd,[x.1],x.2,s,?_,λvs H1 e1 s1=>?_⟩
 . unfold aj ao;rw[h1];rfl
 . obtain⟨v,rfl⟩:=vD e1;have s2:SR X.K H0 Z0 Y H1 x.2 ((v,.sh x.1.pv)::pd):=SR.freeze s1;cases e:x.1.pv with
   | lst ps=>
    rw[e]at h2 s2;obtain⟨ss,g1,g2⟩:=aaU h2;split at g2
    . rename_i hl;cases g2;obtain⟨el,Z,hg,z,r,so⟩:=s2.sh;unfold Rep at r;obtain⟨a,us,rfl,r1,r2⟩:=r;have eu:=zQ g1 r2;subst eu;refine⟨a,ss,rfl,bJ.same z.zh r1,hl,λb hb=>?_⟩;obtain⟨z',lz,so'⟩:=so.newF z (a:=b) (o:=.ext (BP X.prog X.w b ss)) hb;refine⟨b,ss,rfl,aW,hl,λc ss' hc n m so1=>k _ _ ?_⟩;rw[N8 n m so1];obtain⟨z2,s3⟩:=so'.new (o:=.lst ((gW (sW ss)).map V.str)) (p:=.lst ((gW (sW ss)).map PV.str)) z' hc ⟨_,aW,rR⟩;exact .mk (Z:=Z.put b (.ext (BP X.prog X.w b ss))) el hg z2 s3
    . cases g2
   | _=>rw[e]at h2; cases h2
def WN:PV->Option Lc
 | .dk ks _=>(pU ks).bind λss=>if ss.length<4000 then some (.own (.lst (ss.map PV.str))) else none
 | _=>none
abbrev K4:List PV->Option Lc:=λps=>match ps with | [p]=>WN p | _=>none
theorem Oi:jg K J6 K4:=jg.one λH0 Z0 Y U pd H v p l Q s e k=>by
 obtain⟨el,Z,hg,z,r,s1⟩:=s.sh;cases p with
 | dk ks ps=>
  obtain⟨ss,h1,h2⟩:=aaU e;split at h2
  . rename_i hl;cases h2;unfold Rep at r;obtain⟨a,kvs,rfl,h3,h4,h5⟩:=r;refine⟨a,kvs,ss,rfl,z.zh _ _ h3,by rw[h4]; exact v6 h1,hl,λq hq=>k _ _ ?_⟩;obtain⟨z',s'⟩:=s1.new (o:=.lst (ss.map V.str)) (p:=.lst (ss.map PV.str)) z hq ⟨_,aW,rR⟩;exact .mk el hg z' s'
  . cases h2
 | _=>cases e
theorem Dm {Z:ZG}:∀{l:List Nat},aB K Z (l.map λi=>PV.int (i:Nat)) (l.map λi=>V.int (i:Nat))
 | []=>by show _=_; rfl
 | x::l=>⟨.int x,l.map λi=>V.int (i:Nat),rfl,by unfold Rep; rfl,Dm⟩
def Bc (f:EF):EF:=λU=>(f U).bind λx=>match x.1.pv with
 | .int j=>if 0<=j/\j<=100000 then some (.own (.lst ((List.range j.toNat).map λi=>PV.int (i:Nat))),x.2) else none
 | _=>none
theorem Vs {e:Expr} {f:EF} {p p' pos pos':Pos} (h:PE X (.Call (.Name "list" p) [.Call (.Name "range" p') [e] [] pos'] [] pos) (vz (λxs H Q=>∃p j,xs=[.ref p]/\H p=some (.rng 0 j)/\0<=j/\j<=100000/\∀l,H l=none->Q (.ref l) (upd H l (.lst ((List.range j.toNat).map λi=>.int (i:Nat))))) (wJ (vz (λxs H Q=>∃j,xs=[.int j]/\∀r,H r=none->Q (.ref r) (upd H r (.rng 0 j))) (jf X.K (aj f ao))) Bj))):PE X (.Call (.Name "list" p) [.Call (.Name "range" p') [e] [] pos'] [] pos) (tP X.K (Bc f)):=PE.imp h λY H Q q=>by
 obtain⟨H0,Z0,U,pd,l,U',s,h,k⟩:=q;obtain⟨x,h1,h2⟩:=aaU h;refine⟨H0,Z0,U,pd,[x.1],x.2,s,?_,λvs H1 e1 s1=>?_⟩
 . unfold aj ao;rw[h1];rfl
 . obtain⟨v,rfl⟩:=vD e1;have s2:SR X.K H0 Z0 Y H1 x.2 ((v,.sh x.1.pv)::pd):=SR.freeze s1;cases e:x.1.pv with
   | int j=>
    rw[e]at h2 s2;have h2:(if 0<=j/\j<=100000 then some (Lc.own (.lst ((List.range j.toNat).map λi=>PV.int (i:Nat))),x.2) else none)=some (l,U'):=h2;split at h2
    . rename_i hl;cases h2;obtain⟨el,Z,hg,z,r,so⟩:=s2.sh;unfold Rep at r;subst r;refine⟨j,rfl,λb hb=>?_⟩;obtain⟨z',lz,so'⟩:=so.newF z (a:=b) (o:=.rng 0 j) hb;refine⟨b,j,rfl,aW,hl.1,hl.2,λc hc=>k _ _ ?_⟩;obtain⟨z2,s3⟩:=so'.new (o:=.lst ((List.range j.toNat).map λi=>V.int (i:Nat))) (p:=.lst ((List.range j.toNat).map λi=>PV.int (i:Nat))) z' hc ⟨_,aW,Dm⟩;exact .mk (Z:=Z.put b (.rng 0 j)) el hg z2 s3
    . cases h2
   | _=>rw[e]at h2; cases h2
end
end PL
namespace Law
open PySem PySem.Spec PyProof.Rows L2 PL
local macro_rules | `(tactic| walk_at "sc")=>`(tactic| exact⟨rfl,rfl,rfl,by decide +kernel,rfl,by decide +kernel,by decide +kernel⟩)
theorem mI {l:List Str} {a:Str} (i:Nat) (h:l[i]?=some a):a∈l:=Zn h
def top (i:Nat):Stmt:=PySem.Challenge.pw_hushwise_k30_nodes.main.body.getD i (.Pass ⟨0,0,0,0⟩)
abbrev qu:Stmt:=top 2
abbrev rY:Stmt:=top 3
abbrev jm:Stmt:=top 4
abbrev nR:Stmt:=top 5
abbrev rZ:Stmt:=top 6
abbrev jn:Stmt:=top 7
abbrev lA:Stmt:=top 8
abbrev uZ:Stmt:=top 12
abbrev lU:Stmt:=top 14
abbrev jo:Stmt:=top 15
abbrev jL:Stmt:=top 16
abbrev nT:Stmt:=top 17
abbrev mG:Stmt:=top 18
abbrev oW:Stmt:=top 19
abbrev fO:Stmt:=top 20
abbrev mH:Stmt:=top 21
abbrev sr:Stmt:=top 22
abbrev iM:Stmt:=inClass (top 10) 0
abbrev lB:Stmt:=inClass (top 10) 1
abbrev lV:Stmt:=inClass (top 10) 2
abbrev qx:Stmt:=inClass (top 10) 4
theorem Dn:bO ["row"] ["row"] (aJ qu):=by walk_at "sc"
theorem K5:bO ["row"] ["row"] (aJ rY):=by walk_at "sc"
theorem Ah:bO ["rows"] ["rows"] (aJ jm):=by walk_at "sc"
theorem jc:bO ["where", "above", "block", "rows", "start", "told", "row", "number", "place", "inner"] ["where", "above", "block", "rows", "start"] (aJ nR):=by walk_at "sc"
theorem jd:bO ["program", "told", "name", "rank", "params", "rows"] ["program"] (aJ rZ):=by walk_at "sc"
theorem gO:bO ["program", "told", "name", "rank", "params", "rows"] ["program"] (aJ jn):=by walk_at "sc"
theorem Ai:bO ["program"] ["program"] (aJ lA):=by walk_at "sc"
theorem oX:bO ["program", "plan", "told", "name", "k"] ["program"] (aJ uZ):=by walk_at "sc"
theorem xM:bO ["_law_script", "_law_k"] ["_law_script", "_law_k"] (aJ lU):=by walk_at "sc"
theorem dR:bO ["_law_cell", "_law_count", "_law_letters", "_law_names_here", "_law_text", "_law_k", "_law_size", "_law_at", "_law_signs"] ["_law_cell", "_law_count"] (aJ jo):=by walk_at "sc"
theorem bF:bO ["_law_cell", "_law_own", "_law_lists", "_law_made", "_law_k", "_law_step", "_law_other", "_law_sign"] ["_law_cell", "_law_own", "_law_lists"] (aJ jL):=by walk_at "sc"
theorem gC:bO ["_law_cell", "_law_own", "_law_lists", "_law_heads_here", "_law_whos", "_law_one", "_law_other", "_law_kind", "_law_goal", "_law_name", "_law_params", "_law_some"] ["_law_cell", "_law_own", "_law_lists", "_law_heads_here", "_law_whos"] (aJ nT):=by walk_at "sc"
theorem jq:bO ["_law_cells", "_law_own", "_law_lists", "_law_heads_here", "_law_whos", "_law_body", "_law_stack", "_law_cell", "_law_row_here"] ["_law_cells", "_law_own", "_law_lists", "_law_heads_here", "_law_whos"] (aJ mG):=by walk_at "sc"
theorem j0:bO ["_law_cell", "_law_names_here", "_law_heads_here", "_law_j", "_law_size"] ["_law_cell", "_law_names_here"] (aJ oW):=by walk_at "sc"
theorem bu:bO ["_law_script", "_law_cell", "_law_names_here", "_law_ranks", "_law_numbers", "_law_lists", "_law_heads_here", "_law_boxes", "_law_cells", "_law_whos", "_law_functions", "_law_j", "_law_head", "_law_rows_here"] ["_law_script"] (aJ fO):=by walk_at "sc"
theorem iH:bO ["_law_rows_here", "_law_first", "_law_told_here", "_law_k", "_law_row_here", "_law_block"] ["_law_rows_here", "_law_first", "_law_told_here"] (aJ mH):=by walk_at "sc"
theorem iI:bO ["_law_script", "_law_program_here", "_law_due", "_law_k", "_law_name", "_law_rank", "_law_params", "_law_rows_here", "_law_word", "_law_param", "_law_box", "_law_got"] ["_law_script"] (aJ sr):=by walk_at "sc"
theorem bY:bO ["self", "program", "told", "lists", "number", "one", "heads", "name", "rank", "params", "rows"] ["self", "program"] (aJ iM):=by walk_at "sc"
theorem wj:bO ["self"] ["self"] (aJ lB):=by walk_at "sc"
theorem xN:bO ["self"] ["self"] (aJ lV):=by walk_at "sc"
theorem Do:bO ["self", "k"] ["self", "k"] (aJ qx):=by walk_at "sc"
section
variable [HK]
def ik:GF:=eF 1 (aD (dj (tT (aq eqP (aR (aa 0) (abO 0)) (abP "if")) aY)
 (dU (cM (aj (aR (aa 0) (abO 2)) (aj (aR (aa 0) (abO 3)) ao))))
 cN)
 (aD (dj (tT (aq eqP (aR (aa 0) (abO 0)) (abP "while")) aY)
 (dU (cM (aj (aR (aa 0) (abO 2)) ao)))
 cN)
 (dU (cM ao))))
mutual
def iQ:Nat->GF
 | 0=>λ_ _=>none
 | n+1=>eF 1 (aD (dj (tT (aq eqP (aR (aa 0) (abO 0)) (abP "if")) aY)
  (dU (aZ (aj (abP "if") (aj (aR (aa 0) (abO 1)) (aj (bh (dD n) (aj (aR (aa 0) (abO 2)) ao)) (aj (bh (dD n) (aj (aR (aa 0) (abO 3)) ao)) ao))))))
  cN)
  (aD (dj (tT (aq eqP (aR (aa 0) (abO 0)) (abP "while")) aY)
  (dU (aZ (aj (abP "while") (aj (aR (aa 0) (abO 1)) (aj (bh (dD n) (aj (aR (aa 0) (abO 2)) ao)) ao)))))
  cN)
  (aD (dj (tT (aq eqP (aR (aa 0) (abO 0)) (abP "call")) aY)
  (dU (aZ (aj (abP "call") (aj (aR (aa 0) (abO 1)) (aj (aR (aa 0) (abO 2)) (aj (eB list1 (aj (aR (aa 0) (abO 3)) ao)) ao))))))
  cN)
  (lq 0))))
def dD:Nat->GF
 | 0=>λ_ _=>none
 | n+1=>eF 1 (dU (dF (fX (aa 0) cC) 1 [] (aA 0) bQ (bh (iQ n) (aj (aa 0) ao))))
end
def fj:Nat->GF
 | 0=>λ_ _=>none
 | n+1=>eF 10 (aD (aP 5 (cM ao))
  (aD (eQ (fX (aa 3) cC) (aA 6)
  (aD (aP 7 (jV (aq bf (aa 4) (eB bz (aj (aa 5) ao)))))
  (aD (iK 5 (aZ (aj (aa 0) (aj (aa 1) (aj (aa 2) (aj (bh (iQ 40) (aj (aa 6) ao)) ao))))))
  (eQ (oR (bh ik (aj (aa 6) ao))) (eN 2 (aM (aA 8) (aM (aA 9) eG)))
  (j8 5 (bh (fj n) (aj (aa 0) (aj (aa 7) (aj (aa 8) (aj (aa 9) (aj (jV (aq bf (aa 4) (eB bz (aj (aa 5) ao)))) ao)))))))))))
  (lq 5)))
abbrev Vt:SF:=(j8 1 (bh (fj 40) (aj (aa 2) (aj (eC .non) (aj (abO 0) (aj (aa 5) (aj (jV (eB bz (aj (aa 1) ao))) ao)))))))
def su:GF:=eF 6 (aD (aP 1 (cM ao))
 (aD (eQ (fX (aR (aa 0) (abO 2)) cC) (eN 4 (aM (aA 2) (aM (aA 3) (aM (aA 4) (aM (aA 5) eG)))))
 Vt)
 (aD (j8 1 (bh (fj 40) (aj (abP "main") (aj (eC .non) (aj (abO 0) (aj (aR (aa 0) (abO 3)) (aj (jV (eB bz (aj (aa 1) ao))) ao)))))))
 (lq 1))))
def oY:GF:=eF 6 (aD (aP 1 (dF (fX (aR (aa 0) (abO 0)) cC) 3 [] (eN 3 (aM (aA 0) (aM (aA 1) (aM (aA 2) eG)))) bQ (aZ (aj (aa 0) (aj (aa 2) ao)))))
 (aD (eQ (fX (aR (aa 0) (abO 2)) cC) (eN 4 (aM (aA 2) (aM (aA 3) (aM (aA 4) (aM (aA 5) eG)))))
 (aD (iK 1 (aZ (aj (aa 2) (aj (aa 3) ao))))
 (j8 1 (dF (fX (aa 4) cC) 2 [] (eN 2 (aM (aA 0) (aM (aA 1) eG))) bQ (aZ (aj (aa 0) (aj (aa 1) ao)))))))
 (lq 1)))
def oZ:GF:=eF 1 (dU (dF (fX (bh oY (aj (aa 0) ao)) cC) 2 [] (eN 2 (aM (aA 0) (aM (aA 1) eG))) bQ (aa 0)))
def iR:GF:=eF 11 (aD (aP 2 (bh su (aj (aa 1) ao)))
 (aD (aP 3 K3)
 (aD (eQ (oR (aa 2)) (eN 2 (aM (aA 4) (aM (aA 5) eG)))
 (mz (uX 3 (oU (aa 5) iy (cA (abO 3)))) (aa 4)))
 (aD (aP 6 KQ)
 (aD (eQ (fX (aR (aa 1) (abO 2)) cC) (eN 4 (aM (aA 7) (aM (aA 8) (aM (aA 9) (aM (aA 10) eG)))))
 (jD 6 (aa 7) (dF (fX (aa 9) cC) 2 [] (eN 2 (aM (aA 0) (aM (aA 1) eG))) bQ (aa 0))))
 (aD (uW "Plan" "told" (aa 0) (aa 2))
 (aD (uW "Plan" "lists" (aa 0) (Dl (aa 3)))
 (uW "Plan" "heads" (aa 0) (aa 6)))))))))
def lW:GF:=eF 1 (dU (aq bf (eB K4 (aj (v7 "Plan" "heads" (aa 0)) ao)) (cM (aj (abP "main") ao))))
def lC:GF:=eF 1 (dU (Bc (eB bz (aj (v7 "Plan" "told" (aa 0)) ao))))
def jR:GF:=eF 2 (dU (aR (aR (v7 "Plan" "told" (aa 0)) (aa 1)) (abO 3)))
def qP:GF:=eF 5 (aD (aP 1 (xG "Plan" iR (aj (aa 0) ao)))
 (aD (aP 2 (dF (fX (bh oZ (aj (aa 0) ao)) cC) 1 [] (aA 0) bQ (lH "box " (aa 0))))
 (aD (eQ (fX (mF "Plan" "bodies" lW (aa 1) ao) cC) (aA 3)
 (j8 2 (cM (aj (lH "enter " (aa 3)) (aj (lH "leave " (aa 3)) ao)))))
 (aD (eQ (fX (mF "Plan" "numbers" lC (aa 1) ao) cC) (aA 4)
 (aD (iK 2 (lH "at " (aa 4)))
 (dj (tT (aq eqP (aR (mF "Plan" "row" jR (aa 1) (aj (aa 4) ao)) (abO 0)) (abP "out")) aY)
 (j8 2 (cM (aj (lH "let " (aa 4)) (aj (lH "out " (aa 4)) ao))))
 cN)))
 (dU (ut (aa 2)))))))
def jF:GF:=eF 2 (aD (dj (tT (aq Cz (aa 1) (eB bz (aj (aa 0) ao))) aY)
 (dU (aq aO (aR (aa 0) (aa 1)) (abO 1000000007)))
 cN)
 (dU (abO 0)))
def ph:GF:=eF 9 (aD (aP 2 (abP "abcdefghijklmnopqrstuvwxyz"))
 (aD (aP 3 (cM ao))
 (aD (dj (tT (aq eqP (aq aO (aa 0) (abO 2)) (abO 1)) aY)
 (aD (aP 4 (mj (abP "") (aj (dF (f9 (aj (abO 10) ao)) 1 [2,0] (aA 0) bQ (aR (aa 1) (aq aO (aq bf (aq aV (aa 2) (abO 2)) (aq eY (abO 3) (aa 0))) (abO 26)))) ao)))
 (aD (eQ (f9 (aj (aa 1) ao)) (aA 5)
 (iK 3 (qt (aa 4) (cA (aq aO (aa 5) (abO 5))) (cA (aq bf (aq bf (aq aO (aa 5) (abO 5)) (abO 1)) (aq aV (aa 5) (abO 5)))))))
 (lq 3)))
 cN)
 (aD (aP 6 (aR (cM (aj (abO 1) (aj (abO 2) (aj (abO 3) (aj (abO 5) (aj (abO 6) (aj (abO 7) (aj (abO 8) ao)))))))) (aq aO (aq aV (aa 0) (abO 2)) (abO 7))))
 (aD (aP 7 (aq aO (aq aV (aa 0) (abO 14)) (aa 6)))
 (aD (eQ (f9 (aj (aa 1) ao)) (aA 5)
 (aD (aP 8 (dF (f9 (aj (aa 6) ao)) 1 [2,0] (aA 0) bQ (aR (aa 1) (aq aO (aq bf (aq aV (aa 2) (aq bf (aa 0) (abO 1))) (aq eY (aa 0) (aa 0))) (abO 26)))))
 (aD (uO 8 (aa 7) (aR (aa 2) (aq aO (aq bf (aq aV (aa 0) (abO 112)) (aa 5)) (abO 26))))
 (iK 3 (mj (abP "") (aj (aa 8) ao))))))
 (lq 3)))))))
abbrev Vu:SF:=(aD (aP 5 (aq aO (aq eY (aq aO (aq eY (aa 0) (aq bf (aa 4) (abO 2))) (abO 2147483647)) (abO 16807)) (abO 2147483647)))
 (aD (aP 6 (aZ (aj (abP "num") (aj (aq aO (aa 5) (abO 1000)) ao))))
 (aD (dj (cL (tT (aq gJ (eB bz (aj (aa 1) ao)) (abO 0)) aY) (tT (aq gJ (aq aO (aa 5) (abO 6)) (abO 0)) aY))
 (aP 6 (aZ (aj (abP "box") (aj (aR (aa 1) (aq aO (aq aV (aa 5) (abO 6)) (eB bz (aj (aa 1) ao)))) ao))))
 cN)
 (aD (dj (cL (tT (aq gJ (eB bz (aj (aa 2) ao)) (abO 0)) aY) (tT (aq eqP (aq aO (aa 5) (abO 7)) (abO 5)) aY))
 (aP 6 (aZ (aj (abP "@") (aj (aR (aa 2) (aq aO (aq aV (aa 5) (abO 42)) (eB bz (aj (aa 2) ao)))) (aj (aa 6) ao)))))
 cN)
 (aD (aP 7 (aR (abP "+-*<=") (aq aO (aq aV (aa 5) (abO 77)) (abO 5))))
 (dj (cL (tT (aq gJ (eB bz (aj (aa 2) ao)) (abO 0)) aY) (tT (aq eqP (aq aO (aq aV (aa 5) (abO 5)) (abO 3)) (abO 0)) aY))
 (aP 3 (aZ (aj (abP "@") (aj (aR (aa 2) (aq aO (aq aV (aa 5) (abO 15)) (eB bz (aj (aa 2) ao)))) (aj (aa 3) ao)))))
 (dj (tT (aq eqP (aq aO (aq aV (aa 5) (abO 5)) (abO 3)) (abO 1)) aY)
 (aP 3 (aZ (aj (aa 7) (aj (aa 3) (aj (aa 6) ao)))))
 (aP 3 (aZ (aj (aa 7) (aj (aa 6) (aj (aa 3) ao))))))))))))
def bZ:GF:=eF 8 (aD (aP 3 (aZ (aj (abP "num") (aj (aq aO (aq eY (aa 0) (abO 7919)) (aq Nz (abO 10) (abO 12))) ao))))
 (aD (dj (cL (tT (aq gJ (eB bz (aj (aa 1) ao)) (abO 0)) aY) (tT (aq gJ (aq aO (aa 0) (abO 5)) (abO 0)) aY))
 (aP 3 (aZ (aj (abP "box") (aj (aR (aa 1) (aq aO (aq aV (aa 0) (abO 5)) (eB bz (aj (aa 1) ao)))) ao))))
 cN)
 (aD (eQ (f9 (aj (aR (cM (aj (abO 0) (aj (abO 0) (aj (abO 1) (aj (abO 1) (aj (abO 2) (aj (abO 2) (aj (abO 3) (aj (abO 4) ao))))))))) (aq aO (aq aV (aa 0) (abO 60)) (abO 8))) ao)) (aA 4)
 Vu)
 (lq 3))))
def fU:GF:=eF 12 (aD (aP 5 (bh bZ (aj (aq aO (aq eY (aa 0) (abO 48271)) (abO 2147483647)) (aj (aa 1) (aj (aa 2) ao)))))
 (aD (aP 6 (bh bZ (aj (aq aO (aq eY (aa 0) (abO 69621)) (abO 2147483647)) (aj (aa 1) (aj (aa 2) ao)))))
 (aD (aP 7 (aq aO (aq aV (aa 0) (abO 8)) (abO 9)))
 (aD (dj (cL (tT (aq eqP (aa 7) (abO 1)) aY) (tT (aq gJ (eB bz (aj (aa 2) ao)) (abO 0)) aY))
 (dU (aZ (aj (abP "put") (aj (aR (aa 2) (aq aO (aq aV (aa 0) (abO 72)) (eB bz (aj (aa 2) ao)))) (aj (aa 5) (aj (aa 6) ao))))))
 cN)
 (aD (dj (tT (aq eqP (aa 7) (abO 6)) aY)
 (dU (aZ (aj (abP "while") (aj (aa 6) (aj (jZ (cM ao)) ao)))))
 cN)
 (aD (dj (qm (tT (aq pQ (aa 7) (aZ (aj (abO 4) (aj (abO 5) ao)))) aY) (tT (aq eqP (eB bz (aj (aa 1) ao)) (abO 0)) aY))
 (dU (aZ (aj (abP "if") (aj (aa 5) (aj (jZ (cM ao)) (aj (jZ (cM ao)) ao))))))
 cN)
 (aD (aP 8 (aR (aa 1) (aq aO (aq aV (aa 0) (abO 72)) (eB bz (aj (aa 1) ao)))))
 (aD (dj (cL (tT (aq eqP (aa 7) (abO 2)) aY) (tT (aq gJ (eB bz (aj (aa 4) ao)) (abO 0)) aY))
 (dU (aZ (aj (abP "out") (aj (aa 8) (aj (aa 5) (aj (aR (aa 4) (aq aO (aq aV (aa 0) (abO 7)) (eB bz (aj (aa 4) ao)))) ao))))))
 cN)
 (aD (dj (cL (tT (aq pQ (aa 7) (aZ (aj (abO 3) (aj (abO 8) ao)))) aY) (tT (aq gJ (eB bz (aj (aa 3) ao)) (abO 0)) aY))
 (aD (Nr (aR (aa 3) (aq aO (aq aV (aa 0) (abO 792)) (eB bz (aj (aa 3) ao)))) (eN 2 (aM (aA 9) (aM (aA 10) eG))))
 (aD (aP 11 (dF (f9 (aj (eB bz (aj (aa 10) ao)) ao)) 1 [0,1,2] (aA 0) bQ (bh bZ (aj (aq aO (aq eY (aa 1) (abO 40692)) (aq Ny (abO 2147483399) (aa 0))) (aj (aa 2) (aj (aa 3) ao))))))
 (dU (aZ (aj (abP "call") (aj (aa 8) (aj (aa 9) (aj (aa 11) ao))))))))
 cN)
 (dU (aZ (aj (abP "set") (aj (aa 8) (aj (aa 6) ao))))))))))))))
def mJ:GF:=eF 9 (aD (aP 5 (IW ao))
 (aD (aP 6 (IW (aj (jZ (cM (aj (aa 5) ao))) ao)))
 (aD (eQ (fX (aa 0) cC) (aA 7)
 (dj (cL (tT (aq eqP (aq aO (aa 7) (abO 8)) (abO 0)) aY) (tT (aq gJ (j9 (aa 6)) (abO 1)) aY))
 (aD (lZ (uq (aR (aa 6) (CT (abO 1)))))
 (dj (tT (aq eqP (j9 (aR (aa 6) (CT (abO 1)))) (abO 0)) aY)
 (lZ (xH (aa 6)))
 cN))
 (aD (aP 8 (bh fU (aj (aa 7) (aj (aa 1) (aj (aa 2) (aj (aa 3) (aj (aa 4) ao)))))))
 (aD (mz (aR (aR (aa 6) (CT (abO 1))) (abO 0)) (aa 8))
 (dj (cL (tT (aq pQ (aR (aa 8) (abO 0)) (aZ (aj (abP "if") (aj (abP "while") ao)))) aY) (tT (aq Cz (j9 (aa 6)) (abO 5)) aY))
 (mz (aa 6) (jZ (dF (fX (oU (aa 8) (cA (abO 2)) iy) cC) 1 [] (aA 0) bQ (aa 0))))
 cN)))))
 (dU (xJ (aa 5))))))
abbrev Vv:SF:=(aD (aP 4 (aq aO (aq aV (aa 0) (aR (cM (aj (abO 75) (aj (abO 375) (aj (abO 1875) (aj (abO 9375) ao))))) (aa 3))) (abO 5)))
 (iK 2 (aZ (aj (aR (aa 1) (aq bf (abO 6) (aa 3))) (aj (qt (aa 1) (cA (aq bf (abO 10) (aq eY (abO 4) (aa 3)))) (cA (aq bf (aq bf (abO 10) (aq eY (abO 4) (aa 3))) (aa 4)))) ao)))))
def pq:GF:=eF 5 (aD (aP 2 (cM ao))
 (aD (eQ (f9 (aj (aq aO (aq aV (aa 0) (abO 15)) (abO 5)) ao)) (aA 3)
 Vv)
 (lq 2)))
abbrev Vw:SF:=(aD (aP 13 (bh mJ (aj (wg (aa 8) (cA (aa 11)) iy (cA (aq bf (eB bz (aj (aa 6) ao)) (abO 1)))) (aj (aq bf (aq bf (aa 4) (cM (aj (aR (aa 12) (abO 0)) ao))) (aR (aa 12) (abO 1))) (aj (aa 5) (aj (aa 6) (aj (aa 9) ao)))))))
 (iK 10 (aZ (aj (aR (aa 12) (abO 0)) (aj (aR (aa 3) (aq aO (aq bf (aa 1) (aa 11)) (abO 3))) (aj (dF (fX (aR (aa 12) (abO 1)) cC) 1 [] (aA 0) bQ (aZ (aj (aa 0) (aj (eC .non) ao)))) (aj (aa 13) ao)))))))
def jG:GF:=eF 14 (aD (aP 1 (bh jF (aj (aa 0) (aj (abO 0) ao))))
 (aD (aP 2 (bh ph (aj (bh jF (aj (aa 0) (aj (abO 1) ao))) (aj (abO 26) ao))))
 (aD (aP 3 (cM (aj (eC .non) (aj (abP "low") (aj (abP "high") ao)))))
 (aD (aP 4 (qt (aa 2) iy (cA (aq aO (aa 1) (abO 5)))))
 (aD (aP 5 (qt (aa 2) (cA (abO 4)) (cA (aq bf (abO 4) (aq aO (aq aV (aa 1) (abO 5)) (abO 3))))))
 (aD (aP 6 (bh pq (aj (aa 1) (aj (aa 2) ao))))
 (aD (aP 7 (dF (oR (aa 4)) 2 [3,1] (eN 2 (aM (aA 0) (aM (aA 1) eG))) bQ (aZ (aj (aa 1) (aj (abO 0) (aj (aR (aa 2) (aq aO (aq bf (aq aV (aa 3) (abO 3072)) (aa 0)) (abO 3))) ao))))))
 (aD (aP 7 (aq bf (aa 7) (dF (fX (aa 5) cC) 1 [1,3] (aA 0) bQ (aZ (aj (aa 0) (aj (aq bf (abO 1) (aq aO (aq aV (aa 1) (abO 48)) (abO 8))) (aj (aR (aa 2) (aq aO (aq aV (aa 1) (abO 9216)) (abO 3))) ao)))))))
 (aD (aP 8 (dF (fX (qt (aa 0) (cA (abO 2)) (cA (abO 42))) cC) 1 [] (aA 0) bQ (aq aO (aa 0) (abO 1000000007))))
 (aD (aP 9 (cM (aj (abP "somebody") ao)))
 (aD (aP 10 (cM ao))
 (aD (eQ (oR (aa 6)) (eN 2 (aM (aA 11) (aM (aA 12) eG)))
 Vw)
 (aD (aP 13 (bh mJ (aj (wg (aa 8) (cA (eB bz (aj (aa 6) ao))) iy (cA (aq bf (eB bz (aj (aa 6) ao)) (abO 1)))) (aj (aa 4) (aj (aa 5) (aj (aa 6) (aj (aa 9) ao)))))))
 (dU (aZ (aj (aa 7) (aj (cM (aj (aZ (aj (abP "somebody") (aj (abP "high") (aj (abP "low") ao)))) ao)) (aj (aa 10) (aj (aa 13) ao)))))))))))))))))))
def cH:Nat->GF
 | 0=>λ_ _=>none
 | n+1=>eF 6 (aD (aP 3 (aa 1))
  (aD (eQ (fX (aa 0) cC) (aA 4)
  (aD (uY (aa 2) (aq bf (abP "at ") (eB str1 (aj (aa 3) ao))) (eC (.bl true)))
  (aD (dj (tT (aq eqP (aR (aa 4) (abO 0)) (abP "out")) aY)
  (aD (uY (aa 2) (aq bf (abP "let ") (eB str1 (aj (aa 3) ao))) (eC (.bl true)))
  (uY (aa 2) (aq bf (abP "out ") (eB str1 (aj (aa 3) ao))) (eC (.bl true))))
  cN)
  (aD (aP 3 (aq bf (aa 3) (abO 1)))
  (dj (tT (aq pQ (aR (aa 4) (abO 0)) (aZ (aj (abP "if") (aj (abP "while") ao)))) aY)
  (eQ (fX (oU (aa 4) (cA (abO 2)) iy) cC) (aA 5)
  (aP 3 (bh (cH n) (aj (aa 5) (aj (aa 3) (aj (aa 2) ao))))))
  cN)))))
  (lq 3)))
def Jf:GF:=eF 12 (aD (aP 1 (bh jG (aj (aa 0) ao)))
 (aD (aP 2 (Qd (Jb (abP "enter main") (eC (.bl true)) (Jb (abP "leave main") (eC (.bl true)) Vh))))
 (aD (aP 3 (abO 0))
 (aD (eQ (fX (aR (aa 1) (abO 2)) cC) (eN 4 (aM (aA 4) (aM (aA 5) (aM (aA 6) (aM (aA 7) eG)))))
 (aD (eQ (fX (aZ (aj (abP "box ") (aj (abP "enter ") (aj (abP "leave ") ao)))) cC) (aA 8)
 (jD 2 (aq bf (aa 8) (aa 4)) (eC (.bl true))))
 (aD (eQ (fX (aa 6) cC) (aA 9)
 (jD 2 (aq bf (abP "box ") (aR (aa 9) (abO 0))) (eC (.bl true))))
 (uR 2 (qO 2 (aP 3 (bh (cH 40) (aj (aa 7) (aj (aa 3) (aj (aa 2) ao))))))))))
 (aD (uR 2 (qO 2 (lZ (bh (cH 40) (aj (aR (aa 1) (abO 3)) (aj (aa 3) (aj (aa 2) ao)))))))
 (aD (eQ (fX (aR (aa 1) (abO 0)) cC) (aA 10)
 (jD 2 (aq bf (abP "box ") (aR (aa 10) (abO 0))) (eC (.bl true))))
 (aD (aP 11 (bh qP (aj (aa 1) ao)))
 (aD (dj (uP (qm (uL (tT (Kv "list" (aa 11)) Iz)) (tT (aq PN (aa 11) (eB ou (aj (aa 2) ao))) aY)))
 (dU (eC (.bl false)))
 cN)
 (aD (Od 11)
 (aD (iK 11 (abP "at 0"))
 (dU (jV (IK (aq eqP (bh qP (aj (aa 1) ao)) (eB ou (aj (aa 2) ao))) (aq eqP (aa 1) (bh jG (aj (aa 0) ao))))))))))))))))
variable {P:Program} {w:World} {K:FG} {mg:Str->Option Value} {base:Heap}
abbrev BL:List Str:=["enumerate", "isinstance", "len", "list", "range", "set", "sorted", "str"]
section
variable {mg:Str->Option Value} (B:Gm mg BL)
include B
theorem mK:mg "enumerate" = none:=B _ (.head _)
theorem Dp:mg "isinstance" = none:=B _ (mI 1 rfl)
theorem dg:mg "len" = none:=B _ (mI 2 rfl)
theorem xO:mg "list" = none:=B _ (mI 3 rfl)
theorem kI:mg "range" = none:=B _ (mI 4 rfl)
theorem WP:mg "set" = none:=B _ (mI 5 rfl)
theorem wk:mg "sorted" = none:=B _ (mI 6 rfl)
theorem Jg:mg "str" = none:=B _ (mI 7 rfl)
end
section
variable (P:Program) (w:World) (K:FG) (mg:Str->Option Value) (base:Heap) (c:Addr)
abbrev pA:=cX P w K mg base "blocks_of" 1 ["row"] (di K 1 ik)
abbrev zW:=cX P w K mg base "copied" 40 ["row"] (di K 1 (iQ 40))
abbrev Sw:=cX P w K mg base "all_copied" 40 ["rows"] (di K 1 (dD 40))
abbrev Fd:=cX P w K mg base "laid_out" 80 ["where", "above", "block", "rows", "start"] (di K 5 (fj 40))
abbrev vG:=cX P w K mg base "numbered" 81 ["program"] (di K 1 su)
abbrev sX:=cX P w K mg base "head_pairs" 1 ["program"] (di K 1 oY)
abbrev sY:=cX P w K mg base "head_names" 2 ["program"] (di K 1 oZ)
abbrev vo:=Ob P w K mg base c 82 ["self", "program"] (di K 2 iR)
abbrev pX:=zR P w K mg base c "bodies" 1 ["self"] (di K 1 lW)
abbrev pB:=zR P w K mg base c "numbers" 1 ["self"] (di K 1 lC)
abbrev uv:=zR P w K mg base c "row" 1 ["self", "k"] (di K 2 jR)
abbrev Dq:=cX P w K mg base "nodes" 84 ["program"] (di K 1 qP)
abbrev pY:=cX P w K mg base "_law_cell_at" 1 ["_law_script", "_law_k"] (di K 2 jF)
abbrev sZ:=cX P w K mg base "_law_names" 1 ["_law_cell", "_law_count"] (di K 2 ph)
abbrev mW:=cX P w K mg base "_law_expression" 1 ["_law_cell", "_law_own", "_law_lists"] (di K 3 bZ)
abbrev vH:=cX P w K mg base "_law_row" 2 ["_law_cell", "_law_own", "_law_lists", "_law_heads_here", "_law_whos"] (di K 5 fU)
abbrev uw:=cX P w K mg base "_law_rows" 3 ["_law_cells", "_law_own", "_law_lists", "_law_heads_here", "_law_whos"] (di K 5 mJ)
abbrev tu:=cX P w K mg base "_law_heads" 1 ["_law_cell", "_law_names_here"] (di K 2 pq)
abbrev pZ:=cX P w K mg base "_law_program" 4 ["_law_script"] (di K 1 jG)
abbrev Ds:=cX P w K mg base "_law_told" 40 ["_law_rows_here", "_law_first", "_law_told_here"] (di K 3 (cH 40))
end
variable (B:Gm mg BL) {aa0:Addr} (aaX:rT K mg "Plan" aa0) (aaY:∀f∈(["told", "lists", "heads"]:List Str),iV K aa0 f) (hkx:HK.hk=zB P w)
include B aaX aaY hkx
theorem Dt (F:eE K mg "blocks_of" qu ["row"]):pA P w K mg base:=
 F.ok (k:=0) Dn λf cdv A outer s H E hr=>⟨_,λ_ _=>rfl,(au (d9 (cu (eV hr) eX (qI (qw 0)) c7 (bR _))
  (aH (cW (gj (ak (qI (qw 0)) (ak (qI (qw 0)) az)))))
  cQ)
  (au (d9 (cu (eV hr) eX (qI (qw 0)) c7 (bR _))
  (aH (cW (gj (ak (qI (qw 0)) az))))
  cQ)
  (aH (cW (gj az)))))⟩
theorem K6 {n:Nat} (F:eE K mg "copied" rY ["row"]) (aa8:cX P w K mg base "all_copied" (0+n) ["rows"] (di K 1 (dD n))):cX P w K mg base "copied" (0+n+1) ["row"] (di K 1 (iQ (n+1))):=
 F.ok (k:=0+n) K5 λf cdv A outer s H E hr=>⟨_,λ_ _=>rfl,(au (d9 (cu (eV hr) eX (qI (qw 0)) c7 (bR _))
  (aH (cW (dJ (ak c7 (ak (qI (qw 0)) (ak (cY aa8 (hr.mono (by omega)) rfl (ak (qI (qw 0)) az) (aG bU)) (ak (cY aa8 (hr.mono (by omega)) rfl (ak (qI (qw 0)) az) (aG bU)) az)))))))
  cQ)
  (au (d9 (cu (eV hr) eX (qI (qw 0)) c7 (bR _))
  (aH (cW (dJ (ak c7 (ak (qI (qw 0)) (ak (cY aa8 (hr.mono (by omega)) rfl (ak (qI (qw 0)) az) (aG bU)) az))))))
  cQ)
  (au (d9 (cu (eV hr) eX (qI (qw 0)) c7 (bR _))
  (aH (cW (dJ (ak c7 (ak (qI (qw 0)) (ak (qI (qw 0)) (ak (PE.imp (iJ Bp (by rfl) (xO B) (by kernel_rfl) (ak (qI (qw 0)) az)) (qG Rw)) az)))))))
  cQ)
  (aH (jB (pv 0))))))⟩
theorem Aj {n:Nat} (F:eE K mg "all_copied" jm ["rows"]) (aa3:cX P w K mg base "copied" (0+n) ["row"] (di K 1 (iQ n))):cX P w K mg base "all_copied" (0+n+1) ["rows"] (di K 1 (dD (n+1))):=
 F.ok (k:=0+n) Ah λf cdv A outer s H E hr=>⟨_,λ_ _=>rfl,(aH (cW (pP ["row"] [] [] rfl (pW (aJ jm)) (du (qw 0)) (λ_ _ _ _=>(cB 0 (show (["row"]:List Str).Nodup from by decide +kernel))) aL (λ_ _ _ _=>eU) (λ_ _ _ _=>(cY aa3 (hr.mono (by omega)) rfl (ak (qw 0) az) (aG bU))))))⟩
theorem xP (abp:eE K mg "copied" rY ["row"]) (abd:eE K mg "all_copied" jm ["rows"]):∀n:Nat,cX P w K mg base "copied" (0+n) ["row"] (di K 1 (iQ n))/\cX P w K mg base "all_copied" (0+n) ["rows"] (di K 1 (dD n))
 | 0=>⟨uQ abp,uQ abd⟩
 | n+1=>by have ih:=xP abp abd n;exact⟨K6 B aaX aaY hkx abp ih.2,Aj B aaX aaY hkx abd ih.1⟩
theorem Fe {n:Nat} (F:eE K mg "laid_out" nR ["where", "above", "block", "rows", "start"]) (aa1:pA P w K mg base) (aa3:zW P w K mg base) (aa4:cX P w K mg base "laid_out" (40+n) ["where", "above", "block", "rows", "start"] (di K 5 (fj n))):cX P w K mg base "laid_out" (40+n+1) ["where", "above", "block", "rows", "start"] (di K 5 (fj (n+1))):=
 F.ok (k:=40+n) jc λf cdv A outer s H E hr=>⟨_,λ_ _=>rfl,(au (dC 5 jc.nd (gj az))
  (au (d7 Zh rfl (du (qw 3)) (cB 6 jc.nd) aL
  (au (dC 7 jc.nd (xn (aQ bK bL (qw 4) (qL (dg B) (qw 5)))))
  (au (ur (pv 5) (dJ (ak (qw 0) (ak (qw 1) (ak (qw 2) (ak (cY aa3 (hr.mono (by omega)) rfl (ak (qw 6) az) (aG bU)) az))))))
  (aH (d7 Zh rfl (uT rfl (mK B) (ak (cY aa1 (hr.mono (by omega)) rfl (ak (qw 6) az) (aG bU)) az)) (iD rfl (aX (cB 8 jc.nd) (aX (cB 9 jc.nd) gD))) (iG (bw aL (bw aL iC)))
  (aH (yH (pv 5) (cY aa4 (hr.mono (by omega)) rfl (ak (qw 0) (ak (qw 7) (ak (qw 8) (ak (qw 9) (ak (xn (aQ bK bL (qw 4) (qL (dg B) (qw 5)))) az))))) (aG (aG (aG (aG (aG bU)))))))))))))
  (aH (jB (pv 5)))))⟩
theorem ux (abk:eE K mg "laid_out" nR ["where", "above", "block", "rows", "start"]) (aa1:pA P w K mg base) (aa3:zW P w K mg base):∀n:Nat,cX P w K mg base "laid_out" (40+n) ["where", "above", "block", "rows", "start"] (di K 5 (fj n))
 | 0=>uQ abk
 | n+1=>by have ih:=ux abk aa1 aa3 n;exact Fe B aaX aaY hkx abk aa1 aa3 ih
theorem Ff (F:eE K mg "numbered" rZ ["program"]) (aa4:Fd P w K mg base):vG P w K mg base:=
 F.ok (k:=80) jd λf cdv A outer s H E hr=>⟨_,λ_ _=>rfl,(au (dC 1 jd.nd (gj az))
  (au (d7 Zh rfl (du (qI (qw 0))) (iD rfl (aX (cB 2 jd.nd) (aX (cB 3 jd.nd) (aX (cB 4 jd.nd) (aX (cB 5 jd.nd) gD))))) (iG (bw aL (bw aL (bw aL (bw aL iC)))))
  (aH (yH (pv 1) (cY aa4 (hr.mono (by omega)) rfl (ak (qw 2) (ak Qf (ak aK (ak (qw 5) (ak (xn (qL (dg B) (qw 1))) az))))) (aG (aG (aG (aG (aG bU)))))))))
  (au (yH (pv 1) (cY aa4 (hr.mono (by omega)) rfl (ak c7 (ak Qf (ak aK (ak (qI (qw 0)) (ak (xn (qL (dg B) (qw 1))) az))))) (aG (aG (aG (aG (aG bU)))))))
  (aH (jB (pv 1))))))⟩
theorem Ak (F:eE K mg "head_pairs" jn ["program"]):sX P w K mg base:=
 F.ok (k:=0) gO λf cdv A outer s H E hr=>⟨_,λ_ _=>rfl,(au (n8 (i:=1) ["name", "size", "rank"] [] [] gO.nd rfl rfl rfl (pW (aJ jn)) (du (qI (qw 0))) (λ_ _ _ _=>(iD rfl (aX (cB 0 (show (["name", "size", "rank"]:List Str).Nodup from by decide +kernel)) (aX (cB 1 (show (["name", "size", "rank"]:List Str).Nodup from by decide +kernel)) (aX (cB 2 (show (["name", "size", "rank"]:List Str).Nodup from by decide +kernel)) gD))))) (iG (bw aL (bw aL (bw aL iC)))) (λ_ _ _ _=>eU) (λ_ _ _ _=>(dJ (ak (qw 0) (ak (qw 2) az)))))
  (au (d7 Zh rfl (du (qI (qw 0))) (iD rfl (aX (cB 2 gO.nd) (aX (cB 3 gO.nd) (aX (cB 4 gO.nd) (aX (cB 5 gO.nd) gD))))) (iG (bw aL (bw aL (bw aL (bw aL iC)))))
  (au (ur (pv 1) (dJ (ak (qw 2) (ak (qw 3) az))))
  (aH (yH (pv 1) (pP ["param", "known"] [] [] rfl (pW (aJ jn)) (du (qw 4)) (λ_ _ _ _=>(iD rfl (aX (cB 0 (show (["param", "known"]:List Str).Nodup from by decide +kernel)) (aX (cB 1 (show (["param", "known"]:List Str).Nodup from by decide +kernel)) gD)))) (iG (bw aL (bw aL iC))) (λ_ _ _ _=>eU) (λ_ _ _ _=>(dJ (ak (qw 0) (ak (qw 1) az)))))))))
  (aH (jB (pv 1)))))⟩
theorem Al (F:eE K mg "head_names" lA ["program"]) (abe:sX P w K mg base):sY P w K mg base:=
 F.ok (k:=1) Ai λf cdv A outer s H E hr=>⟨_,λ_ _=>rfl,(aH (cW (pP ["name", "rank"] [] [] rfl (pW (aJ lA)) (du (cY abe (hr.mono (by omega)) rfl (ak (qw 0) az) (aG bU))) (λ_ _ _ _=>(iD rfl (aX (cB 0 (show (["name", "rank"]:List Str).Nodup from by decide +kernel)) (aX (cB 1 (show (["name", "rank"]:List Str).Nodup from by decide +kernel)) gD)))) (iG (bw aL (bw aL iC))) (λ_ _ _ _=>eU) (λ_ _ _ _=>(qw 0)))))⟩
theorem vp (F:Dg K aa0 "__init__" "Plan.__init__" iM ["self", "program"]) (abl:vG P w K mg base):zR P w K mg base aa0 "__init__" 82 ["self", "program"] (di K 2 iR):=
 F.ok (k:=81) bY λf cdv A outer s H E hr=>⟨_,λ_ _=>rfl,(au (dC 2 bY.nd (cY abl (hr.mono (by omega)) rfl (ak (qw 1) az) (aG bU)))
  (au (dC 3 bY.nd (Vp (by exact hkx)))
  (au (d7 Zh rfl (uT rfl (mK B) (ak (qw 2) az)) (iD rfl (aX (cB 4 bY.nd) (aX (cB 5 bY.nd) gD))) (iG (bw aL (bw aL iC)))
  (aH (yD (lK (pI ZW aaq aar mO (WM (by exact hkx) (Uq PySem.F.slot_dict_setdefault PySem.F.type_dict_setdefault (J5 (pK hr)) (pv 3) (ak (yG (qw 5) oh (fB aK)) (ak (gj az) az)))) (ak (qw 4) az))))))
  (au (dC 6 bY.nd Vj)
  (au (d7 Zh rfl (du (qI (qw 1))) (iD rfl (aX (cB 7 bY.nd) (aX (cB 8 bY.nd) (aX (cB 9 bY.nd) (aX (cB 10 bY.nd) gD))))) (iG (bw aL (bw aL (bw aL (bw aL iC)))))
  (aH (uU (kW (pP ["param", "known"] [] [] rfl (pW (aJ iM)) (du (qw 9)) (λ_ _ _ _=>(iD rfl (aX (cB 0 (show (["param", "known"]:List Str).Nodup from by decide +kernel)) (aX (cB 1 (show (["param", "known"]:List Str).Nodup from by decide +kernel)) gD)))) (iG (bw aL (bw aL iC))) (λ_ _ _ _=>eU) (λ_ _ _ _=>(qw 0))) (mL (pv 6) (qw 7) (set_dict (pK hr)))))))
  (au (yF aaX (aaY _ (.head _)) (qw 0) (qw 2))
  (au (yF aaX (aaY _ (mI 1 rfl)) (qw 0) (Vq (qw 3)))
  (aH (yF aaX (aaY _ (mI 2 rfl)) (qw 0) (qw 6))))))))))⟩
theorem xQ (F:Dg K aa0 "bodies" "Plan.bodies" lV ["self"]):pX P w K mg base aa0:=
 F.ok (k:=0) xN λf cdv A outer s H E hr=>⟨_,λ_ _=>rfl,(aH (cW (aQ bK bL (PE.imp (iJ (yp rfl) (by rfl) (xO B) (by kernel_rfl) (ak (Oa aaX (aaY _ (mI 2 rfl)) (qw 0)) az)) (qG Oi)) (gj (ak c7 az)))))⟩
theorem wu (F:Dg K aa0 "numbers" "Plan.numbers" lB ["self"]):pB P w K mg base aa0:=
 F.ok (k:=0) wj λf cdv A outer s H E hr=>⟨_,λ_ _=>rfl,(aH (cW (Vs (iJ (Af rfl) (by rfl) (xO B) (by kernel_rfl) (qC (iJ Ng (by rfl) (kI B) (by kernel_rfl) (ak (qL (dg B) (Oa aaX (aaY _ (.head _)) (qw 0))) az)) wK)))))⟩
theorem Du (F:Dg K aa0 "row" "Plan.row" qx ["self", "k"]):uv P w K mg base aa0:=
 F.ok (k:=0) Do λf cdv A outer s H E hr=>⟨_,λ_ _=>rfl,(aH (cW (qI (gk (Oa aaX (aaY _ (.head _)) (qw 0)) (qw 1) (λ_ _=>rfl)))))⟩
theorem Oj (F:eE K mg "nodes" uZ ["program"]) (aa7:vo P w K mg base aa0) (aba:pX P w K mg base aa0) (aa9:pB P w K mg base aa0) (abi:uv P w K mg base aa0) (abf:sY P w K mg base):Dq P w K mg base:=
 F.ok (k:=83) oX λf cdv A outer s H E hr=>⟨_,λ_ _=>rfl,(au (dC 1 oX.nd (WF aaX aa7 (hr.mono (by omega)) rfl (ak (qw 0) az) (KZ (aG bU))))
  (au (n8 (i:=2) ["name"] [] [] oX.nd rfl rfl rfl (pW (aJ uZ)) (du (cY abf (hr.mono (by omega)) rfl (ak (qw 0) az) (aG bU))) (λ_ _ _ _=>(cB 0 (show (["name"]:List Str).Nodup from by decide +kernel))) aL (λ_ _ _ _=>eU) (λ_ _ _ _=>(Gw (by decide +kernel) (qw 0))))
  (au (d7 Zh rfl (du (KY aaX aba (hr.mono (by omega)) (qw 1) rfl)) (cB 3 oX.nd) aL
  (aH (yH (pv 2) (gj (ak (Gw (by decide +kernel) (qw 3)) (ak (Gw (by decide +kernel) (qw 3)) az))))))
  (au (d7 Zh rfl (du (KY aaX aa9 (hr.mono (by omega)) (qw 1) rfl)) (cB 4 oX.nd) aL
  (au (ur (pv 2) (Gw (by decide +kernel) (qw 4)))
  (aH (d9 (cu (eV hr) eX (qI (WD aaX abi (hr.mono (by omega)) (qw 1) (ak (qw 4) az) (KZ (aG bU)))) c7 (bR _))
  (aH (yH (pv 2) (gj (ak (Gw (by decide +kernel) (qw 4)) (ak (Gw (by decide +kernel) (qw 4)) az)))))
  cQ))))
  (aH (cW (Je (jh (vW rfl) (by rfl) (wk B) (by kernel_rfl) (qC (iJ (M9 rfl) (by rfl) (WP B) (by kernel_rfl) (ak (qw 2) az)) wK)))))))))⟩
theorem xR (F:eE K mg "_law_cell_at" lU ["_law_script", "_law_k"]):pY P w K mg base:=
 F.ok (k:=0) xM λf cdv A outer s H E hr=>⟨_,λ_ _=>rfl,(au (d9 (cu Ph Kq (qw 1) (qL (dg B) (qw 0)) (bR _))
  (aH (cW (aQ bj aU (gk (qw 0) (qw 1) (λ_ _=>rfl)) aK)))
  cQ)
  (aH (cW aK)))⟩
theorem Am (F:eE K mg "_law_names" jo ["_law_cell", "_law_count"]):sZ P w K mg base:=
 F.ok (k:=0) dR λf cdv A outer s H E hr=>⟨_,λ_ _=>rfl,(au (w5 (i:=2) dR.nd rfl (Or.inr rfl) c7)
  (au (dC 3 dR.nd (gj az))
  (au (d9 (cu (eV hr) eX (aQ bj aU (qw 0) aK) aK (bR _))
  (au (dC 4 dR.nd (PQ (pI PySem.F.plainAttrs_str PySem.F.slot_str_join PySem.F.type_str_join Gk c7 (ak (pP ["_law_j"] ["_law_letters", "_law_cell"] [2,0] rfl (pW (aJ jo)) (jl rfl (kI B) (ak aK az)) (λ_ _ _ _=>(cB 0 (show (["_law_j", "_law_letters", "_law_cell"]:List Str).Nodup from by decide +kernel))) aL (λ_ _ _ _=>eU) (λ_ _ _ _=>(gk (qw 1) (aQ bj aU (aQ bK bL (aQ b7 bN (qw 2) aK) (aQ jO jb aK (qw 0))) aK) (λ_ _=>rfl)))) az))))
  (au (d7 Zh rfl (jl rfl (kI B) (ak (qw 1) az)) (cB 5 dR.nd) aL
  (aH (ur (pv 3) (qM (qw 4) (fB (aQ bj aU (qw 5) aK)) (fB (aQ bK bL (aQ bK bL (aQ bj aU (qw 5) aK) aK) (aQ b7 bN (qw 5) aK)))))))
  (aH (jB (pv 3)))))
  cQ)
  (au (dC 6 dR.nd (gk (gj (ak aK (ak aK (ak aK (ak aK (ak aK (ak aK (ak aK az)))))))) (aQ bj aU (aQ b7 bN (qw 0) aK) aK) (λ_ _=>rfl)))
  (au (dC 7 dR.nd (aQ bj aU (aQ b7 bN (qw 0) aK) (qw 6)))
  (au (d7 Zh rfl (jl rfl (kI B) (ak (qw 1) az)) (cB 5 dR.nd) aL
  (au (n8 (i:=8) ["_law_j"] ["_law_letters", "_law_cell"] [2,0] dR.nd rfl rfl rfl (pW (aJ jo)) (jl rfl (kI B) (ak (qw 6) az)) (λ_ _ _ _=>(cB 0 (show (["_law_j", "_law_letters", "_law_cell"]:List Str).Nodup from by decide +kernel))) aL (λ_ _ _ _=>eU) (λ_ _ _ _=>(gk (qw 1) (aQ bj aU (aQ bK bL (aQ b7 bN (qw 2) (aQ bK bL (qw 0) aK)) (aQ jO jb (qw 0) (qw 0))) aK) (λ_ _=>rfl))))
  (au (Rx (kW (gk (qw 2) (aQ bj aU (aQ bK bL (aQ b7 bN (qw 0) aK) (qw 5)) aK) (λ_ _=>rfl)) (mL (pv 8) (qw 7) set_list)))
  (aH (ur (pv 3) (PQ (pI PySem.F.plainAttrs_str PySem.F.slot_str_join PySem.F.type_str_join Gk c7 (ak (qw 8) az))))))))
  (aH (jB (pv 3)))))))))⟩
theorem uy (F:eE K mg "_law_expression" jL ["_law_cell", "_law_own", "_law_lists"]):mW P w K mg base:=
 F.ok (k:=0) bF λf cdv A outer s H E hr=>⟨_,λ_ _=>rfl,(au (dC 3 bF.nd (dJ (ak c7 (ak (aQ bj aU (aQ jO jb (qw 0) aK) (aQ Tv Ru aK aK)) az))))
  (au (d9 (PW.pt (lg (cu lY jP (qL (dg B) (qw 1)) aK (bR _)) (jA (cu lY jP (aQ bj aU (qw 0) aK) aK (bR _)))))
  (aH (dC 3 bF.nd (dJ (ak c7 (ak (gk (qw 1) (aQ bj aU (aQ b7 bN (qw 0) aK) (qL (dg B) (qw 1))) (λ_ _=>rfl)) az)))))
  cQ)
  (au (d7 Zh rfl (jl rfl (kI B) (ak (gk (gj (ak aK (ak aK (ak aK (ak aK (ak aK (ak aK (ak aK (ak aK az))))))))) (aQ bj aU (aQ b7 bN (qw 0) aK) aK) (λ_ _=>rfl)) az)) (cB 4 bF.nd) aL
  (au (dC 5 bF.nd (aQ bj aU (aQ jO jb (aQ bj aU (aQ jO jb (qw 0) (aQ bK bL (qw 4) aK)) aK) aK) aK))
  (au (dC 6 bF.nd (dJ (ak c7 (ak (aQ bj aU (qw 5) aK) az))))
  (au (d9 (PW.pt (lg (cu lY jP (qL (dg B) (qw 1)) aK (bR _)) (jA (cu lY jP (aQ bj aU (qw 5) aK) aK (bR _)))))
  (aH (dC 6 bF.nd (dJ (ak c7 (ak (gk (qw 1) (aQ bj aU (aQ b7 bN (qw 5) aK) (qL (dg B) (qw 1))) (λ_ _=>rfl)) az)))))
  cQ)
  (au (d9 (PW.pt (lg (cu lY jP (qL (dg B) (qw 2)) aK (bR _)) (jA (cu (eV hr) eX (aQ bj aU (qw 5) aK) aK (bR _)))))
  (aH (dC 6 bF.nd (dJ (ak c7 (ak (gk (qw 2) (aQ bj aU (aQ b7 bN (qw 5) aK) (qL (dg B) (qw 2))) (λ_ _=>rfl)) (ak (qw 6) az))))))
  cQ)
  (au (dC 7 bF.nd (gk c7 (aQ bj aU (aQ b7 bN (qw 5) aK) aK) (λ_ _=>rfl)))
  (aH (d9 (PW.pt (lg (cu lY jP (qL (dg B) (qw 2)) aK (bR _)) (jA (cu (eV hr) eX (aQ bj aU (aQ b7 bN (qw 5) aK) aK) aK (bR _)))))
  (aH (dC 3 bF.nd (dJ (ak c7 (ak (gk (qw 2) (aQ bj aU (aQ b7 bN (qw 5) aK) (qL (dg B) (qw 2))) (λ_ _=>rfl)) (ak (qw 3) az))))))
  (aH (d9 (cu (eV hr) eX (aQ bj aU (aQ b7 bN (qw 5) aK) aK) aK (bR _))
  (aH (dC 3 bF.nd (dJ (ak (qw 7) (ak (qw 3) (ak (qw 6) az))))))
  (aH (dC 3 bF.nd (dJ (ak (qw 7) (ak (qw 6) (ak (qw 3) az))))))))))))))))
  (aH (jB (pv 3))))))⟩
theorem Fg (F:eE K mg "_law_row" nT ["_law_cell", "_law_own", "_law_lists", "_law_heads_here", "_law_whos"]) (aaZ:mW P w K mg base):vH P w K mg base:=
 F.ok (k:=1) gC λf cdv A outer s H E hr=>⟨_,λ_ _=>rfl,(au (dC 5 gC.nd (cY aaZ (hr.mono (by omega)) rfl (ak (aQ bj aU (aQ jO jb (qw 0) aK) aK) (ak (qw 1) (ak (qw 2) az))) (aG (aG (aG bU)))))
  (au (dC 6 gC.nd (cY aaZ (hr.mono (by omega)) rfl (ak (aQ bj aU (aQ jO jb (qw 0) aK) aK) (ak (qw 1) (ak (qw 2) az))) (aG (aG (aG bU)))))
  (au (dC 7 gC.nd (aQ bj aU (aQ b7 bN (qw 0) aK) aK))
  (au (d9 (PW.pt (lg (cu (eV hr) eX (qw 7) aK (bR _)) (jA (cu lY jP (qL (dg B) (qw 2)) aK (bR _)))))
  (aH (cW (dJ (ak c7 (ak (gk (qw 2) (aQ bj aU (aQ b7 bN (qw 0) aK) (qL (dg B) (qw 2))) (λ_ _=>rfl)) (ak (qw 5) (ak (qw 6) az)))))))
  cQ)
  (au (d9 (cu (eV hr) eX (qw 7) aK (bR _))
  (aH (cW (dJ (ak c7 (ak (qw 6) (ak (xx (gj az)) az))))))
  cQ)
  (au (d9 (PW.pt (Pz (cu (xg hr) uN (qw 7) (dJ (ak aK (ak aK az))) (by with_unfolding_all rfl)) (Kh (cu (eV hr) eX (qL (dg B) (qw 1)) aK (bR _)))))
  (aH (cW (dJ (ak c7 (ak (qw 5) (ak (xx (gj az)) (ak (xx (gj az)) az)))))))
  cQ)
  (au (dC 8 gC.nd (gk (qw 1) (aQ bj aU (aQ b7 bN (qw 0) aK) (qL (dg B) (qw 1))) (λ_ _=>rfl)))
  (au (d9 (PW.pt (lg (cu (eV hr) eX (qw 7) aK (bR _)) (jA (cu lY jP (qL (dg B) (qw 4)) aK (bR _)))))
  (aH (cW (dJ (ak c7 (ak (qw 8) (ak (qw 5) (ak (gk (qw 4) (aQ bj aU (aQ b7 bN (qw 0) aK) (qL (dg B) (qw 4))) (λ_ _=>rfl)) az)))))))
  cQ)
  (au (d9 (PW.pt (lg (cu (xg hr) uN (qw 7) (dJ (ak aK (ak aK az))) (by with_unfolding_all rfl)) (jA (cu lY jP (qL (dg B) (qw 3)) aK (bR _)))))
  (au (U0 (gk (qw 3) (aQ bj aU (aQ b7 bN (qw 0) aK) (qL (dg B) (qw 3))) (λ_ _=>rfl)) (iD rfl (aX (cB 9 gC.nd) (aX (cB 10 gC.nd) gD))) (iG (bw aL (bw aL iC))))
  (au (n8 (i:=11) ["_law_k"] ["_law_cell", "_law_own", "_law_lists"] [0,1,2] gC.nd rfl rfl rfl (pW (aJ nT)) (jl rfl (kI B) (ak (qL (dg B) (qw 10)) az)) (λ_ _ _ _=>(cB 0 (show (["_law_k", "_law_cell", "_law_own", "_law_lists"]:List Str).Nodup from by decide +kernel))) aL (λ_ _ _ _=>eU) (λ_ _ _ _=>(cY aaZ (hr.mono (by omega)) rfl (ak (aQ bj aU (aQ jO jb (qw 1) aK) (aQ Tu Rt aK (qw 0))) (ak (qw 2) (ak (qw 3) az))) (aG (aG (aG bU))))))
  (aH (cW (dJ (ak c7 (ak (qw 8) (ak (qw 9) (ak (qw 11) az)))))))))
  cQ)
  (aH (cW (dJ (ak c7 (ak (qw 8) (ak (qw 6) az)))))))))))))))⟩
theorem Dv (F:eE K mg "_law_rows" mG ["_law_cells", "_law_own", "_law_lists", "_law_heads_here", "_law_whos"]) (abm:vH P w K mg base):uw P w K mg base:=
 F.ok (k:=2) jq λf cdv A outer s H E hr=>⟨_,λ_ _=>rfl,(au (dC 5 jq.nd (Ks (gj az)))
  (au (dC 6 jq.nd (Ks (gj (ak (xx (gj (ak (qw 5) az))) az))))
  (au (d7 Zh rfl (du (qw 0)) (cB 7 jq.nd) aL
  (aH (d9 (PW.pt (lg (cu (eV hr) eX (aQ bj aU (qw 7) aK) aK (bR _)) (jA (cu lY jP (N7 (jh oF (by rfl) (dg B) aaC (ak (qw 6) az))) aK (bR _)))))
  (au (yr (Vl (pI ZW PySem.F.slot_list_pop PySem.F.type_list_pop MJ (gk (qw 6) (NP aK) (λ_ _=>rfl)) (ak aK az))))
  (aH (d9 (cu (eV hr) eX (N7 (jh oF (by rfl) (dg B) aaC (ak (gk (qw 6) (NP aK) (λ_ _=>rfl)) az))) aK (bR _))
  (aH (yr (WL (JK ZW PySem.F.slot_list_pop PySem.F.type_list_pop Ue (qw 6)))))
  cQ)))
  (au (dC 8 jq.nd (cY abm (hr.mono (by omega)) rfl (ak (qw 7) (ak (qw 1) (ak (qw 2) (ak (qw 3) (ak (qw 4) az))))) (aG (aG (aG (aG (aG bU)))))))
  (au (yD (lK (pI ZW aaq aar mO (qI (gk (qw 6) (NP aK) (λ_ _=>rfl))) (ak (qw 8) az))))
  (aH (d9 (PW.pt (lg (cu (xg hr) uN (qI (qw 8)) (dJ (ak c7 (ak c7 az))) (by with_unfolding_all rfl)) (jA (cu Ph Kq (N7 (jh oF (by rfl) (dg B) aaC (ak (qw 6) az))) aK (bR _)))))
  (aH (yD (lK (pI ZW aaq aar mO (qw 6) (ak (xx (pP ["_law_inner"] [] [] rfl (pW (aJ mG)) (du (yG (qw 8) (fB aK) oh)) (λ_ _ _ _=>(cB 0 (show (["_law_inner"]:List Str).Nodup from by decide +kernel))) aL (λ_ _ _ _=>eU) (λ_ _ _ _=>(qw 0)))) az)))))
  cQ)))))))
  (aH (cW (Vm (qw 5)))))))⟩
theorem An (F:eE K mg "_law_heads" oW ["_law_cell", "_law_names_here"]):tu P w K mg base:=
 F.ok (k:=0) j0 λf cdv A outer s H E hr=>⟨_,λ_ _=>rfl,(au (dC 2 j0.nd (gj az))
  (au (d7 Zh rfl (jl rfl (kI B) (ak (aQ bj aU (aQ b7 bN (qw 0) aK) aK) az)) (cB 3 j0.nd) aL
  (au (dC 4 j0.nd (aQ bj aU (aQ b7 bN (qw 0) (gk (gj (ak aK (ak aK (ak aK (ak aK az))))) (qw 3) (λ_ _=>rfl))) aK))
  (aH (ur (pv 2) (dJ (ak (gk (qw 1) (aQ bK bL aK (qw 3)) (λ_ _=>rfl)) (ak (qM (qw 1) (fB (aQ bK bL aK (aQ jO jb aK (qw 3)))) (fB (aQ bK bL (aQ bK bL aK (aQ jO jb aK (qw 3))) (qw 4)))) az)))))))
  (aH (jB (pv 2)))))⟩
theorem xT (F:eE K mg "_law_program" fO ["_law_script"]) (aa5:pY P w K mg base) (abg:tu P w K mg base) (abh:sZ P w K mg base) (abb:uw P w K mg base):pZ P w K mg base:=
 F.ok (k:=3) bu λf cdv A outer s H E hr=>⟨_,λ_ _=>rfl,(au (w5 (i:=1) bu.nd rfl (Or.inr rfl) (cY aa5 (hr.mono (by omega)) rfl (ak (qw 0) (ak aK az)) (aG (aG bU))))
  (au (dC 2 bu.nd (cY abh (hr.mono (by omega)) rfl (ak (cY aa5 (hr.mono (by omega)) rfl (ak (qw 0) (ak aK az)) (aG (aG bU))) (ak aK az)) (aG (aG bU))))
  (au (w5 (i:=3) bu.nd rfl (Or.inr rfl) (gj (ak Qf (ak c7 (ak c7 az)))))
  (au (dC 4 bu.nd (qM (qw 2) oh (fB (aQ bj aU (qw 1) aK))))
  (au (dC 5 bu.nd (qM (qw 2) (fB aK) (fB (aQ bK bL aK (aQ bj aU (aQ b7 bN (qw 1) aK) aK)))))
  (au (dC 6 bu.nd (cY abg (hr.mono (by omega)) rfl (ak (qw 1) (ak (qw 2) az)) (aG (aG bU))))
  (au (n8 (i:=7) ["_law_k", "_law_name"] ["_law_ranks", "_law_cell"] [3,1] bu.nd rfl rfl rfl (pW (aJ fO)) (uT rfl (mK B) (ak (qw 4) az)) (λ_ _ _ _=>(iD rfl (aX (cB 0 (show (["_law_k", "_law_name", "_law_ranks", "_law_cell"]:List Str).Nodup from by decide +kernel)) (aX (cB 1 (show (["_law_k", "_law_name", "_law_ranks", "_law_cell"]:List Str).Nodup from by decide +kernel)) gD)))) (iG (bw aL (bw aL iC))) (λ_ _ _ _=>eU) (λ_ _ _ _=>(dJ (ak (qw 1) (ak aK (ak (gk (qw 2) (aQ bj aU (aQ bK bL (aQ b7 bN (qw 3) aK) (qw 0)) aK) (λ_ _=>rfl)) az))))))
  (au (dC 7 bu.nd (aQ bK bL (qw 7) (pP ["_law_name"] ["_law_cell", "_law_ranks"] [1,3] rfl (pW (aJ fO)) (du (qw 5)) (λ_ _ _ _=>(cB 0 (show (["_law_name", "_law_cell", "_law_ranks"]:List Str).Nodup from by decide +kernel))) aL (λ_ _ _ _=>eU) (λ_ _ _ _=>(dJ (ak (qw 0) (ak (aQ bK bL aK (aQ bj aU (aQ b7 bN (qw 1) aK) aK)) (ak (gk (qw 2) (aQ bj aU (aQ b7 bN (qw 1) aK) aK) (λ_ _=>rfl)) az))))))))
  (au (n8 (i:=8) ["_law_number"] [] [] bu.nd rfl rfl rfl (pW (aJ fO)) (du (qM (qw 0) (fB aK) (fB aK))) (λ_ _ _ _=>(cB 0 (show (["_law_number"]:List Str).Nodup from by decide +kernel))) aL (λ_ _ _ _=>eU) (λ_ _ _ _=>(aQ bj aU (qw 0) aK)))
  (au (dC 9 bu.nd (gj (ak c7 az)))
  (au (dC 10 bu.nd (gj az))
  (au (d7 Zh rfl (uT rfl (mK B) (ak (qw 6) az)) (iD rfl (aX (cB 11 bu.nd) (aX (cB 12 bu.nd) gD))) (iG (bw aL (bw aL iC)))
  (au (dC 13 bu.nd (cY abb (hr.mono (by omega)) rfl (ak (Gu (qw 8) (fB (qw 11)) oh (fB (aQ bK bL (qL (dg B) (qw 6)) aK))) (ak (aQ bK bL (aQ bK bL (qw 4) (gj (ak (qI (qw 12)) az))) (qI (qw 12))) (ak (qw 5) (ak (qw 6) (ak (qw 9) az))))) (aG (aG (aG (aG (aG bU)))))))
  (aH (ur (pv 10) (dJ (ak (qI (qw 12)) (ak (gk (qw 3) (aQ bj aU (aQ bK bL (qw 1) (qw 11)) aK) (λ_ _=>rfl)) (ak (pP ["_law_name"] [] [] rfl (pW (aJ fO)) (du (qI (qw 12))) (λ_ _ _ _=>(cB 0 (show (["_law_name"]:List Str).Nodup from by decide +kernel))) aL (λ_ _ _ _=>eU) (λ_ _ _ _=>(dJ (ak (qw 0) (ak Qf az))))) (ak (qw 13) az)))))))))
  (au (dC 13 bu.nd (cY abb (hr.mono (by omega)) rfl (ak (Gu (qw 8) (fB (qL (dg B) (qw 6))) oh (fB (aQ bK bL (qL (dg B) (qw 6)) aK))) (ak (qw 4) (ak (qw 5) (ak (qw 6) (ak (qw 9) az))))) (aG (aG (aG (aG (aG bU)))))))
  (aH (cW (dJ (ak (qw 7) (ak (gj (ak (dJ (ak c7 (ak c7 (ak c7 az)))) az)) (ak (qw 10) (ak (qw 13) az))))))))))))))))))))⟩
theorem Dw {n:Nat} (F:eE K mg "_law_told" mH ["_law_rows_here", "_law_first", "_law_told_here"]) (aa2:cX P w K mg base "_law_told" (0+n) ["_law_rows_here", "_law_first", "_law_told_here"] (di K 3 (cH n))):cX P w K mg base "_law_told" (0+n+1) ["_law_rows_here", "_law_first", "_law_told_here"] (di K 3 (cH (n+1))):=
 F.ok (k:=0+n) iH λf cdv A outer s H E hr=>⟨_,λ_ _=>rfl,(au (dC 3 iH.nd (qw 1))
  (au (d7 Zh rfl (du (qw 0)) (cB 4 iH.nd) aL
  (au (yI (kW (qc nH fW) (mL (qw 2) (aQ bK bL c7 (PE.imp (iJ oE (by rfl) (Jg B) (by kernel_rfl) (ak (qw 3) az)) (qG CQ))) (set_dict (pK hr)))))
  (au (d9 (cu (eV hr) eX (qI (qw 4)) c7 (bR _))
  (au (yI (kW (qc nH fW) (mL (qw 2) (aQ bK bL c7 (PE.imp (iJ oE (by rfl) (Jg B) (by kernel_rfl) (ak (qw 3) az)) (qG CQ))) (set_dict (pK hr)))))
  (aH (yI (kW (qc nH fW) (mL (qw 2) (aQ bK bL c7 (PE.imp (iJ oE (by rfl) (Jg B) (by kernel_rfl) (ak (qw 3) az)) (qG CQ))) (set_dict (pK hr)))))))
  cQ)
  (au (dC 3 iH.nd (aQ bK bL (qw 3) aK))
  (aH (d9 (cu (xg hr) uN (qI (qw 4)) (dJ (ak c7 (ak c7 az))) (by with_unfolding_all rfl))
  (aH (d7 Zh rfl (du (yG (qw 4) (fB aK) oh)) (cB 5 iH.nd) aL
  (aH (dC 3 iH.nd (cY aa2 (hr.mono (by omega)) rfl (ak (qw 5) (ak (qw 3) (ak (qw 2) az))) (aG (aG (aG bU))))))))
  cQ))))))
  (aH (jB (pv 3)))))⟩
theorem tB (abj:eE K mg "_law_told" mH ["_law_rows_here", "_law_first", "_law_told_here"]):∀n:Nat,cX P w K mg base "_law_told" (0+n) ["_law_rows_here", "_law_first", "_law_told_here"] (di K 3 (cH n))
 | 0=>uQ abj
 | n+1=>by have ih:=tB abj n;exact Dw B aaX aaY hkx abj ih
theorem Vx {f:Addr} {fd:FuncData} (F:pJ K "law" "law" sr f fd) (aa6:pZ P w K mg base) (aa2:Ds P w K mg base) (abn:Dq P w K mg base):j4 P w K mg base lG 85 f fd ["_law_script"] (di K 1 Jf):=
 pJ.okP (k:=84) F iI λcdv A outer s H E hr=>⟨_,λ_ _=>rfl,(au (dC 1 iI.nd (cY aa6 (hr.mono (by omega)) rfl (ak (qw 0) az) (aG bU)))
  (au (dC 2 iI.nd (Wz (Gr c7 (qc nH fW) (Gr c7 (qc nH fW) Vi)) rfl rfl (by intro h; cases h) (by decide)))
  (au (dC 3 iI.nd aK)
  (au (d7 Zh rfl (du (qI (qw 1))) (iD rfl (aX (cB 4 iI.nd) (aX (cB 5 iI.nd) (aX (cB 6 iI.nd) (aX (cB 7 iI.nd) gD))))) (iG (bw aL (bw aL (bw aL (bw aL iC)))))
  (au (d7 Zh rfl (du (dJ (ak c7 (ak c7 (ak c7 az))))) (cB 8 iI.nd) aL
  (aH (uU (kW (qc nH fW) (mL (pv 2) (aQ bK bL (qw 8) (qw 4)) (set_dict (pK hr)))))))
  (au (d7 Zh rfl (du (qw 6)) (cB 9 iI.nd) aL
  (aH (uU (kW (qc nH fW) (mL (pv 2) (aQ bK bL c7 (qI (qw 9))) (set_dict (pK hr)))))))
  (aH (Gp (i:=2) (Gv (i:=2) (dC 3 iI.nd (cY aa2 (hr.mono (by omega)) rfl (ak (qw 7) (ak (qw 3) (ak (qw 2) az))) (aG (aG (aG bU)))))))))))
  (au (Gp (i:=2) (Gv (i:=2) (yr (cY aa2 (hr.mono (by omega)) rfl (ak (qI (qw 1)) (ak (qw 3) (ak (qw 2) az))) (aG (aG (aG bU)))))))
  (au (d7 Zh rfl (du (qI (qw 1))) (cB 10 iI.nd) aL
  (aH (uU (kW (qc nH fW) (mL (pv 2) (aQ bK bL c7 (qI (qw 10))) (set_dict (pK hr)))))))
  (au (dC 11 iI.nd (cY abn (hr.mono (by omega)) rfl (ak (qw 1) az) (aG bU)))
  (au (d9 (Vd (PW.pt (Pz (UV (UL (Yh (jh EY (by rfl) (Dp B) (by kernel_rfl) (qC (qw 11) (qC (Qu (v:=.ty "list") (u:=.type "list") rfl (xO B) (by kernel_rfl) rfl) wK)))) (λ_=>rfl))) (Kh (cu (U5 hr) U6 (qw 11) (CG (iu rfl) zV (jh (iu rfl) (by rfl) (wk B) (by kernel_rfl) (ak (qw 2) az))) (bR _))))))
  (aH (cW (qc nH fW)))
  cQ)
  (au (Vk (lK (JK ZW PySem.F.slot_list_reverse PySem.F.type_list_reverse Ij (pv 11))))
  (au (ur (pv 11) c7)
  (aH (cW (xn (XM (UJ (eV hr) eX (cY abn (hr.mono (by omega)) rfl (ak (qw 1) az) (aG bU)) (CG (iu rfl) zV (jh (iu rfl) (by rfl) (wk B) (by kernel_rfl) (ak (qw 2) az))) (bR _)) (XJ (UJ (eV hr) eX (qw 1) (cY aa6 (hr.mono (by omega)) rfl (ak (qw 0) az) (aG bU)) (bR _)))))))))))))))))⟩
end
local macro_rules | `(tactic| walk_at "op")=>`(tactic| first | exact rfl | exact modP_go rfl rfl (by omega) | exact fdivP_go rfl rfl (by omega) (by omega) | exact mulP_gor rfl rfl (by omega) (by omega) | exact mulP_gol rfl rfl (by omega) (by omega) | assumption)
local macro_rules | `(tactic| walk_at "ev")=>`(tactic| first
 | ((with_reducible refine' mq ?h1 ?h2 ?h3 ?h4 ?h5); (case h1=>walk_at "ev"); (case h2=>exact rfl); (case h3=>walk_at "ev"); (case h4=>exact rfl); (case h5=>walk_at "op"))
 | ((with_reducible refine' aF ?h1 ?h2); (case h1=>walk_at "ev"); (case h2=>walk_at "ev"))
 | ((with_reducible refine' bD ?h1 ?h2 ?h3); (case h1=>walk_at "ev"); (case h2=>exact rfl); (case h3=>exact rfl))
 | ((with_reducible refine' fY ?h1); (case h1=>walk_at "ev"))
 | ((with_reducible refine' aC ?h1 ?h2); (case h1=>walk_at "ev"); (case h2=>walk_at "ev"))
 | ((with_reducible refine' bH ?h1 ?h2 ?h3 ?h4 ?h5); (case h1=>walk_at "ev"); (case h2=>exact rfl); (case h3=>exact rfl); (case h4=>exact rfl); (case h5=>walk_at "call"))
 | ((with_reducible refine' lR ?h1 ?h2 ?h3); (case h1=>walk_at "ev"); (case h2=>exact rfl); (case h3=>walk_at "op"))
 | ((with_reducible refine' tT_go ?h1 ?h2 ?h3); (case h1=>walk_at "ev"); (case h2=>exact rfl); (case h3=>exact rfl))
 | ((with_reducible refine' Ky ?h1); (case h1=>walk_at "ev"))
 | ((with_reducible refine' jQ ?h1 ?h2); (case h1=>walk_at "ev"); (case h2=>walk_at "ev"))
 | ((with_reducible refine' Ja ?h1 ?h2); (case h1=>walk_at "ev"); (case h2=>walk_at "ev"))
 | ((with_reducible refine' CZ ?h1); (case h1=>walk_at "ev"))
 | ((with_reducible refine' Dc ?h1 ?h2); (case h1=>walk_at "ev"); (case h2=>exact rfl))
 | ((with_reducible refine' Dd ?h1 ?h2 ?h3); (case h1=>walk_at "ev"); (case h2=>exact rfl); (case h3=>exact rfl))
 | ((with_reducible refine' fJ ?h1 ?h2 ?h3); (case h1=>walk_at "ev"); (case h2=>exact rfl); (case h3=>exact rfl))
 | ((with_reducible refine' newc_go ?h1 ?h2 ?h3 ?h4); (case h1=>walk_at "ev"); (case h2=>exact rfl); (case h3=>exact rfl); (case h4=>exact rfl))
 | ((with_reducible refine' PX ?h1 ?h2 ?h3); (case h1=>walk_at "ev"); (case h2=>exact rfl); (case h3=>exact rfl))
 | ((with_reducible refine' iof_go ?h1 ?h2 ?h3); (case h1=>walk_at "ev"); (case h2=>exact rfl); (case h3=>exact rfl))
 | exact rfl
 | assumption)
local macro_rules | `(tactic| walk_at "call")=>`(tactic| first | assumption | exact rfl)
mutual
def iY:PV->Nat
 | .tup ps=>nD ps+1
 | _=>1
def nD:List PV->Nat
 | []=>0
 | p::ps=>max (iY p) (nD ps)
end
def fl (p:PV):Prop:=bA p=true/\iY p<=20
def qQ (ps:List PV):Prop:=eZ ps=true/\nD ps<=20
theorem gm {p:PV} {ps:List PV} (h:fl p) (t:qQ ps):qQ (p::ps):=by
 obtain⟨h1,h2⟩:=h;obtain⟨t1,t2⟩:=t;refine⟨?_,?_⟩
 . show (bA p&&eZ ps)=true;rw[h1,t1]; rfl
 . show max (iY p) (nD ps)<=20;omega
theorem oA:qQ []:=⟨rfl,Zj _⟩
theorem fK {x:Str}:fl (.str x):=⟨rfl,by show 1<=20; decide⟩
theorem Dy:fl .non:=⟨rfl,by show 1<=20; decide⟩
abbrev zI (x:Int):Option Lc:=some (.sh (.int x))
abbrev zT (x:Str):Option Lc:=some (.sh (.str x))
abbrev zL (x:List PV):Option Lc:=some (.sh (.lst x))
abbrev zO (x:List PV):Option Lc:=some (.own (.lst x))
abbrev zS (x:PV):Option Lc:=some (.sh x)
mutual
inductive Row where
 | leaf (w:Str) (ps:List PV)
 | call (b:PV) (n:Str) (as:List PV)
 | wh (e:PV) (b:Rows)
 | iff (e:PV) (b c:Rows)
inductive Rows where
 | nil
 | cons (r:Row) (rs:Rows)
end
mutual
def Row.pv:Row->PV
 | .leaf w ps=>.tup (.str w::ps)
 | .call b n as=>.tup [.str "call",b,.str n,.lst as]
 | .wh e b=>.tup [.str "while",e,.lst b.pvs]
 | .iff e b c=>.tup [.str "if",e,.lst b.pvs,.lst c.pvs]
def Rows.pvs:Rows->List PV
 | .nil=>[]
 | .cons r rs=>r.pv::rs.pvs
end
mutual
def Row.dep:Row->Nat
 | .leaf _ _=>1
 | .call _ _ _=>1
 | .wh _ b=>b.dep+1
 | .iff _ b c=>max b.dep c.dep+1
def Rows.dep:Rows->Nat
 | .nil=>1
 | .cons r rs=>max (r.dep+1) rs.dep
end
theorem Rows.dep_pos:∀b:Rows,1<=b.dep
 | .nil=>YC _
 | .cons r rs=>Zc (Rows.dep_pos rs) (Nat.le_max_right _ _)
def Plain (w:Str):Prop:=(w == "if")=false/\(w == "while")=false/\(w == "call")=false
mutual
def Row.ok:Row->Prop
 | .leaf w ps=>Plain w/\qQ ps
 | .call b n as=>fl b/\n.length<=1000/\qQ as/\as.length<=50
 | .wh e b=>fl e/\b.ok
 | .iff e b c=>fl e/\b.ok/\c.ok
def Rows.ok:Rows->Prop
 | .nil=>True
 | .cons r rs=>r.ok/\rs.ok
end
mutual
def Row.cnt:Row->Nat
 | .leaf _ _=>1
 | .call _ _ _=>1
 | .wh _ b=>b.cnt+1
 | .iff _ b c=>b.cnt+c.cnt+1
def Rows.cnt:Rows->Nat
 | .nil=>0
 | .cons r rs=>r.cnt+rs.cnt
end
theorem Row.cnt_pos:∀r:Row,1<=r.cnt:=λr=>by cases r<;>simp[Row.cnt]
theorem iz {f:EF} {a b:Str} {U U1:Ev} (h:f U=some (.sh (.str a),U1)):tT (aq eqP f (abP b)) aY U=some (a==b,U1):=jY (l:=.sh (.bl (a==b))) (aN h rfl rfl) rfl
theorem fG {c:TF} {f g:SF} {U U1:Ev} {b:Bool} (h:c U=some (b,U1)) (hb:b=false):aD (dj c f cN) g U=g U1:=by subst hb; exact yx ((jX h).trans rfl)
theorem jT {c:TF} {f g:SF} {U U1 U2:Ev} {b:Bool} {r:Lc} (h:c U=some (b,U1)) (hb:b=true) (h2:f U1=some (.rt r U2)):aD (dj c f cN) g U=some (.rt r U2):=by subst hb; exact yz ((jW h).trans h2)
theorem Jh {c:TF} {f g:SF} {U U1 U2:Ev} {b:Bool} (h:c U=some (b,U1)) (hb:b=true) (h2:f U1=some (.nx U2)):aD (dj c f cN) g U=g U2:=by subst hb; exact yx ((jW h).trans h2)
theorem at0 {p:PV} {t:List PV}:gq (p::t) 0=some p:=by obtain⟨x,h,h2⟩:=rN (l:=p::t) (i:=0) (by decide) (by simp only[Yy]; omega);rw[h,<-h2]; rfl
abbrev E1 (p:PV) (mu:Mu):Ev:=⟨[zS p],mu⟩
theorem w0 {w:Str} {ps:List PV} {mu:Mu}:aR (aa 0) (abO 0) (E1 (.tup (.str w::ps)) mu)=some (.sh (.str w),E1 (.tup (.str w::ps)) mu):=
 gb (p:=.tup (.str w::ps)) (q:=.int 0) (l:=.sh (.tup (.str w::ps))) (m:=.sh (.int 0)) rfl rfl rfl rfl (λn h=>by cases h) (by show (gq (PV.str w::ps) 0).map _=_; rw[at0]; rfl)
theorem fu {b:BF} {te:EF} {x:PV} {xs:List PV} {U U1 U2:Ev} {acc:List PV} {l:Lc} {R:Option (List PV×Mu)} (h1:b x U=some U1) (h2:te U1=some (l,U2)) (hz:acc.length<100000) (h3:cz b bQ te xs U2 (acc++[l.pv])=R):cz b bQ te (x::xs) U acc=R:=by show (b x U).bind _=R;rw[h1,YB];show (te U1).bind _=R;rw[h2,YB,aaN hz];exact h3
abbrev Xa (n:Nat):EF:=bh (iQ n) (aj (aa 0) ao)
theorem Dz {rs:Rows} {n:Nat} {mu:Mu} (h:cz (aA 0) bQ (Xa n) rs.pvs ⟨[none],mu⟩ []=some ([]++rs.pvs,mu)):dD (n+1) [.lst rs.pvs] mu=some (.own (.lst rs.pvs),mu):=
 bG (U:=⟨[zL rs.pvs],mu⟩) (fY (fM (m:=1) (ixs:=[]) (U1:=E1 (.lst rs.pvs) mu) (xs:=rs.pvs) (dw (l:=.sh (.lst rs.pvs)) rfl rfl) h))
mutual
theorem zX:∀(r:Row) (f:Nat) (mu:Mu),r.ok->r.dep<=f->r.cnt<=1000->iQ f [r.pv] mu=some (.sh r.pv,mu)
 | .leaf w ps,f,mu,ok,hd,hc=>by obtain⟨m,rfl⟩:∃m,f=m+1:=⟨f-1,by simp only[Row.dep]at hd; omega⟩;obtain⟨⟨h1,h2,h3⟩,_⟩:=ok;refine bG (U:=⟨[none],mu⟩) ?_;exact(fG (iz w0) h1).trans ((fG (iz w0) h2).trans ((fG (iz w0) h3).trans rfl))
 | .call b n as,f,mu,ok,hd,hc=>by obtain⟨m,rfl⟩:∃m,f=m+1:=⟨f-1,by simp only[Row.dep]at hd; omega⟩;refine bG (U:=E1 (Row.call b n as).pv mu) ?_;refine(fG (iz w0) (by decide +kernel)).trans ((fG (iz w0) (by decide +kernel)).trans (jT (iz w0) (by decide +kernel) (fY (fJ (ls:=[.sh (.str "call"),.sh b,.sh (.str n),.own (.lst as)]) ?_ rfl rfl))));exact aC (U1:=E1 (Row.call b n as).pv mu) rfl (aC (U1:=E1 (Row.call b n as).pv mu) rfl (aC (U1:=E1 (Row.call b n as).pv mu) rfl (aC (U1:=E1 (Row.call b n as).pv mu) (lR (ls:=[.sh (.lst as)]) (U1:=E1 (Row.call b n as).pv mu) (aC (U1:=E1 (Row.call b n as).pv mu) rfl rfl) rfl rfl) rfl)))
 | .wh e b,f,mu,ok,hd,hc=>by
  simp only[Row.dep]at hd;simp only[Row.cnt]at hc;obtain⟨m,rfl⟩:∃m,f=m+1:=⟨f-1,by omega⟩;have hb:1<=b.dep:=Rows.dep_pos b;obtain⟨m,rfl⟩:∃k,m=k+1:=⟨m-1,by omega⟩;have ih:=Dz (qb b m mu none [] ok.2 (by omega) (by simp only[YK]; omega));let P:=(Row.wh e b).pv;have s1:bh (dD (m+1)) (aj (aR (aa 0) (abO 2)) ao) (E1 P mu)=some (.own (.lst b.pvs),E1 P mu):=
   bH (ls:=[.sh (.lst b.pvs)]) (ps:=[.lst b.pvs]) (U1:=E1 P mu) rfl rfl rfl rfl ih
  refine bG (U:=E1 P mu) ?_;exact(fG (iz w0) (by decide +kernel)).trans (jT (iz w0) (by decide +kernel) (fY (fJ (ls:=[.sh (.str "while"),.sh e,.own (.lst b.pvs)]) (U1:=E1 P mu) (aC (U1:=E1 P mu) rfl (aC (U1:=E1 P mu) rfl (aC s1 rfl))) rfl rfl)))
 | .iff e b c,f,mu,ok,hd,hc=>by
  simp only[Row.dep]at hd;simp only[Row.cnt]at hc;obtain⟨m,rfl⟩:∃m,f=m+1:=⟨f-1,by omega⟩;have hb:1<=b.dep:=Rows.dep_pos b;obtain⟨m,rfl⟩:∃k,m=k+1:=⟨m-1,by omega⟩;have ih:=Dz (qb b m mu none [] ok.2.1 (by omega) (by simp only[YK]; omega));have ih2:=Dz (qb c m mu none [] ok.2.2 (by omega) (by simp only[YK]; omega));let P:=(Row.iff e b c).pv;have s1:bh (dD (m+1)) (aj (aR (aa 0) (abO 2)) ao) (E1 P mu)=some (.own (.lst b.pvs),E1 P mu):=
   bH (ls:=[.sh (.lst b.pvs)]) (ps:=[.lst b.pvs]) (U1:=E1 P mu) rfl rfl rfl rfl ih
  have s2:bh (dD (m+1)) (aj (aR (aa 0) (abO 3)) ao) (E1 P mu)=some (.own (.lst c.pvs),E1 P mu):=
   bH (ls:=[.sh (.lst c.pvs)]) (ps:=[.lst c.pvs]) (U1:=E1 P mu) rfl rfl rfl rfl ih2
  refine bG (U:=E1 P mu) ?_;exact jT (iz w0) (by decide +kernel) (fY (fJ (ls:=[.sh (.str "if"),.sh e,.own (.lst b.pvs),.own (.lst c.pvs)]) (aC (U1:=E1 P mu) rfl (aC (U1:=E1 P mu) rfl (aC s1 (aC s2 rfl)))) rfl rfl))
theorem qb:∀(rs:Rows) (n:Nat) (mu:Mu) (o:Option Lc) (acc:List PV),rs.ok->rs.dep<=n+1->acc.length+rs.cnt<=1000->cz (aA 0) bQ (Xa n) rs.pvs ⟨[o],mu⟩ acc=some (acc++rs.pvs,mu)
 | .nil,n,mu,o,acc,_,_,_=>by simp[Rows.pvs,cz]
 | .cons r rs,n,mu,o,acc,ok,hd,hc=>by simp only[Rows.dep]at hd;simp only[Rows.cnt]at hc;have h1:=r.cnt_pos;have e1:=zX r n mu ok.1 (by omega) (by omega);have e2:=qb rs n mu (zS r.pv) (acc++[r.pv]) ok.2 (by omega) (by rw[YJ]; simp only[Yy,YK]; omega);refine fu (U1:=E1 r.pv mu) (U2:=E1 r.pv mu) (l:=.sh r.pv) rfl (bH (ls:=[.sh r.pv]) (ps:=[r.pv]) (U1:=E1 r.pv mu) rfl rfl rfl rfl e1) (by omega) (e2.trans ?_);simp only[Rows.pvs,YQ];rfl
end
structure Ent where
 w:Str
 ab:PV
 bl:Int
 r:Row
def Ent.pv (e:Ent):PV:=.tup [.str e.w,e.ab,.int e.bl,e.r.pv]
mutual
def Row.es:Row->Str->PV->Int->Nat->List Ent
 | .leaf x ps,w,ab,bl,_=>[⟨w,ab,bl,.leaf x ps⟩]
 | .call b n as,w,ab,bl,_=>[⟨w,ab,bl,.call b n as⟩]
 | .wh e b,w,ab,bl,k=>⟨w,ab,bl,.wh e b⟩::b.es w (.int k) 0 (k+1)
 | .iff e b c,w,ab,bl,k=>⟨w,ab,bl,.iff e b c⟩::(b.es w (.int k) 0 (k+1)++c.es w (.int k) 1 (k+1+b.cnt))
def Rows.es:Rows->Str->PV->Int->Nat->List Ent
 | .nil,_,_,_,_=>[]
 | .cons r rs,w,ab,bl,k=>r.es w ab bl k++rs.es w ab bl (k+r.cnt)
end
mutual
theorem Row.es_len:∀(r:Row) (w:Str) (ab:PV) (bl:Int) (k:Nat),(r.es w ab bl k).length=r.cnt
 | .leaf _ _,w,ab,bl,k=>rfl
 | .call _ _ _,w,ab,bl,k=>rfl
 | .wh e b,w,ab,bl,k=>by simp[Row.es,Row.cnt,Rows.es_len b]
 | .iff e b c,w,ab,bl,k=>by simp[Row.es,Row.cnt,Rows.es_len b,Rows.es_len c]
theorem Rows.es_len:∀(rs:Rows) (w:Str) (ab:PV) (bl:Int) (k:Nat),(rs.es w ab bl k).length=rs.cnt
 | .nil,w,ab,bl,k=>rfl
 | .cons r rs,w,ab,bl,k=>by simp[Rows.es,Rows.cnt,Row.es_len r,Rows.es_len rs]
end
abbrev evs (l:List Ent):List PV:=l.map Ent.pv
theorem yJ (a b:List Ent):evs (a++b)=evs a++evs b:=YZ
theorem je (a:List Ent):(evs a).length=a.length:=YH _
theorem u0 {fo fv:EF} {U U1 U2:Ev} {o y:Lc} {n:Nat} {ws0 ws:List PV} {p:PV} {mu:Mu} (h1:fo U=some (o,U1)) (ho:o.pv=.ptr n) (hm:U1.mu[n]?=some (some (.lst ws0))) (h2:fv U1=some (y,U2)) (hy:y.pv=p) (hm2:U2.mu[n]?=some (some (.lst ws))) (hz:ws.length<100000) (e:U2.mu.set n (some (.lst (ws++[p])))=mu):mz fo fv U=some (.nx ⟨U2.vs,mu⟩):=by unfold mz;rw[h1,YB,ho];dsimp only;rw[hm];dsimp only;rw[h2,YB,hm2];dsimp only;rw[aaN hz,hy,e]
theorem cF {b:BF} {body:SF} {x:PV} {xs:List PV} {U U1 U2:Ev} {R:Option Fl} (h1:b x U=some U1) (h2:body U1=some (.nx U2)) (h3:cP b body xs U2=R):cP b body (x::xs) U=R:=by show (b x U).bind _=_;rw[h1,YB,h2,YB];exact h3
theorem Ol {b:BF} {body:SF} {x:PV} {U U1 U2:Ev} (h1:b x U=some U1) (h2:body U1=some (.nx U2)):cP b body [x] U=some (.nx U2):=cF h1 h2 rfl
theorem Vy {b:BF} {body:SF} {x y:PV} {U U1 U2 U3 U4:Ev} (h1:b x U=some U1) (h2:body U1=some (.nx U2)) (h3:b y U2=some U3) (h4:body U3=some (.nx U4)):cP b body [x,y] U=some (.nx U4):=cF h1 h2 (Ol h3 h4)
theorem vI {w:Str} {ps:List PV} {mu:Mu} (h1:(w == "if")=false) (h2:(w == "while")=false):ik [.tup (.str w::ps)] mu=some (.own (.lst []),mu):=
 bG (U:=E1 (.tup (.str w::ps)) mu) ((fG (iz w0) h1).trans ((fG (iz w0) h2).trans rfl))
theorem K7 {e p:PV} {mu:Mu}:ik [.tup [.str "while",e,p]] mu=some (.own (.lst [p]),mu):=
 bG (U:=E1 (.tup [.str "while",e,p]) mu) ((fG (iz w0) (by decide +kernel)).trans (jT (iz w0) (by decide +kernel) rfl))
theorem K8 {e p q:PV} {mu:Mu}:ik [.tup [.str "if",e,p,q]] mu=some (.own (.lst [p,q]),mu):=
 bG (U:=E1 (.tup [.str "if",e,p,q]) mu) (jT (iz w0) (by decide +kernel) rfl)
abbrev LE (w:Str) (ab:PV) (bl:Int) (X:PV) (st:Nat) (acc:List PV) (o6 o7 o8 o9:Option Lc) (mu:Mu):Ev:=⟨[zT w,zS ab,zI bl,zS X,zI st,zO acc,o6,o7,o8,o9],mu⟩
abbrev Vz (n:Nat):SF:=j8 5 (bh (fj n) (aj (aa 0) (aj (aa 7) (aj (aa 8) (aj (aa 9) (aj (jV (aq bf (aa 4) (eB bz (aj (aa 5) ao)))) ao))))))
abbrev Qg (n:Nat):SF:=aD (aP 7 (jV (aq bf (aa 4) (eB bz (aj (aa 5) ao)))))
 (aD (iK 5 (aZ (aj (aa 0) (aj (aa 1) (aj (aa 2) (aj (bh (iQ 40) (aj (aa 6) ao)) ao))))))
 (eQ (oR (bh ik (aj (aa 6) ao))) (eN 2 (aM (aA 8) (aM (aA 9) eG))) (Vz n)))
theorem DG {n:Nat} {w:Str} {ab X:PV} {bl pl:Int} {st k:Nat} {acc qs:List PV} {o6:Option Lc} {p:PV} {mu:Mu} (h:fj n [.str w,.int k,.int pl,p,.int ((st+acc.length:Nat):Int)] mu=some (.own (.lst qs),mu)) (hz:acc.length+qs.length<=100000):
 Vz n (LE w ab bl X st acc o6 (zI k) (zI pl) (zS p) mu)=some (.nx (LE w ab bl X st (acc++qs) o6 (zI k) (zI pl) (zS p) mu)):=
 qK (i:=5) (ws0:=acc) (ws:=acc) (ps:=qs) (l:=.own (.lst qs)) (U1:=LE w ab bl X st acc o6 (zI k) (zI pl) (zS p) mu) rfl
  (bH (ls:=[.sh (.str w),.sh (.int k),.sh (.int pl),.sh p,.sh (.int ((st:Int)+acc.length))]) (ps:=[.str w,.int k,.int pl,p,.int ((st+acc.length:Nat):Int)]) (U1:=LE w ab bl X st acc o6 (zI k) (zI pl) (zS p) mu) rfl (by simp[Lc.pv]) rfl rfl h) rfl rfl hz rfl
abbrev en (w:Str) (ab:PV) (bl:Int) (r:Row):PV:=.tup [.str w,ab,.int bl,r.pv]
theorem xU {n:Nat} {w:Str} {ab X:PV} {bl:Int} {st:Nat} {acc:List PV} {o7 o8 o9:Option Lc} {mu:Mu} {r:Row} {R:Option Fl} {bs:List PV} (ok:r.ok) (hd:r.dep<=40) (hc:r.cnt<=1000) (hz:acc.length<1000) (hb:∀mu,ik [r.pv] mu=some (.own (.lst bs),mu))
 (h:cP (eN 2 (aM (aA 8) (aM (aA 9) eG))) (Vz n) (nQ bs) (LE w ab bl X st (acc++[en w ab bl r]) (zS r.pv) (zI ((st+acc.length:Nat):Int)) o8 o9 mu)=R):
 Qg n (LE w ab bl X st acc (zS r.pv) o7 o8 o9 mu)=R:=by
 have e1:=zX r 40 mu ok hd hc;let E:=LE w ab bl X st acc (zS r.pv) (zI ((st+acc.length:Nat):Int)) o8 o9 mu;refine aF (U':=E) (bD (l:=.sh (.int ((st:Int)+acc.length))) (U1:=LE w ab bl X st acc (zS r.pv) o7 o8 o9 mu) rfl rfl (by show _=LE w ab bl X st acc (zS r.pv) (zI ((st+acc.length:Nat):Int)) o8 o9 mu; rw[Int.natCast_add]; rfl)) ?_;refine aF (U':=LE w ab bl X st (acc++[en w ab bl r]) (zS r.pv) (zI ((st+acc.length:Nat):Int)) o8 o9 mu) ?_ ?_
 . exact mU (i:=5) (ws0:=acc) (ws:=acc) (p:=en w ab bl r) (l:=.sh (en w ab bl r)) (U1:=E) rfl
    (fJ (ls:=[.sh (.str w),.sh ab,.sh (.int bl),.sh r.pv]) (aC (U1:=E) rfl (aC (U1:=E) rfl (aC (U1:=E) rfl (aC (bH (ls:=[.sh r.pv]) (ps:=[r.pv]) (U1:=E) rfl rfl rfl rfl e1) rfl)))) rfl rfl) rfl rfl (by omega) rfl
 . refine dN (xs:=nQ bs) (U1:=LE w ab bl X st (acc++[en w ab bl r]) (zS r.pv) (zI ((st+acc.length:Nat):Int)) o8 o9 mu) ?_ h;unfold oR;rw[bH (ls:=[.sh r.pv]) (ps:=[r.pv]) (U1:=LE w ab bl X st (acc++[en w ab bl r]) (zS r.pv) (zI ((st+acc.length:Nat):Int)) o8 o9 mu) rfl rfl rfl rfl (hb _),YB];rfl
theorem Bd {rs:Rows} {n:Nat} {w:Str} {ab:PV} {bl:Int} {st:Nat} {mu:Mu}
 (h:∃o6 o7 o8 o9,cP (aA 6) (Qg n) rs.pvs (LE w ab bl (.lst rs.pvs) st [] none none none none mu)=some (.nx (LE w ab bl (.lst rs.pvs) st ([]++evs (rs.es w ab bl (st+0))) o6 o7 o8 o9 mu))):
 fj (n+1) [.str w,ab,.int bl,.lst rs.pvs,.int st] mu=some (.own (.lst (evs (rs.es w ab bl st))),mu):=by
 obtain⟨o6,o7,o8,o9,h⟩:=h;refine bG (U:=⟨[zT w,zS ab,zI bl,zL rs.pvs,zI st,none,o6,o7,o8,o9],mu⟩) ?_;exact aF (U':=LE w ab bl (.lst rs.pvs) st [] none none none none mu) rfl (aF (dN (xs:=rs.pvs) (U1:=LE w ab bl (.lst rs.pvs) st [] none none none none mu) (dw (l:=.sh (.lst rs.pvs)) rfl rfl) h) rfl)
mutual
theorem VB:∀(r:Row) (n:Nat) (w:Str) (ab:PV) (bl:Int) (X:PV) (st:Nat) (acc:List PV) (o7 o8 o9:Option Lc) (mu:Mu),r.ok->r.dep<=n->r.dep<=40->acc.length+r.cnt<=1000->
 ∃p7 p8 p9,Qg n (LE w ab bl X st acc (zS r.pv) o7 o8 o9 mu)=some (.nx (LE w ab bl X st (acc++evs (r.es w ab bl (st+acc.length))) (zS r.pv) p7 p8 p9 mu))
 | .leaf x ps,n,w,ab,bl,X,st,acc,o7,o8,o9,mu,ok,hd,h40,hc=>by simp only[Row.cnt]at hc;exact⟨zI ((st+acc.length:Nat):Int),o8,o9,xU (r:=.leaf x ps) ok h40 (by simp only[Row.cnt]; omega) (by omega) (λmu=>vI ok.1.1 ok.1.2.1) rfl⟩
 | .call b m as,n,w,ab,bl,X,st,acc,o7,o8,o9,mu,ok,hd,h40,hc=>by simp only[Row.cnt]at hc;exact⟨zI ((st+acc.length:Nat):Int),o8,o9,xU (r:=.call b m as) ok h40 (by simp only[Row.cnt]; omega) (by omega) (λmu=>vI (by decide +kernel) (by decide +kernel)) rfl⟩
 | .wh e b,n,w,ab,bl,X,st,acc,o7,o8,o9,mu,ok,hd,h40,hc=>by
  simp only[Row.cnt]at hc;simp only[Row.dep]at hd h40;have hb:=Rows.dep_pos b;obtain⟨m,rfl⟩:∃m,n=m+1:=⟨n-1,by omega⟩;let r:Row:=.wh e b;let k:=st+acc.length;let acc1:=acc++[en w ab bl r];have hl1:acc1.length=acc.length+1:=by simp[acc1]
  have ih:=Bd (n:=m) (w:=w) (ab:=.int (k:Nat)) (bl:=0) (st:=st+acc1.length) (mu:=mu) (rs:=b) (qR b m w (.int (k:Nat)) 0 (.lst b.pvs) (st+acc1.length) [] none none none none mu ok.2 (by omega) (by omega) (by simp only[YK]; omega));have he:(evs (b.es w (.int (k:Nat)) 0 (st+acc1.length))).length=b.cnt:=by rw[je,Rows.es_len]
  have st1:=DG (n:=m+1) (w:=w) (ab:=ab) (X:=X) (bl:=bl) (pl:=0) (st:=st) (k:=k) (acc:=acc1) (o6:=zS r.pv) (p:=.lst b.pvs) ih (by rw[he,hl1]; omega);refine⟨zI (k:Nat),zI 0,zL b.pvs,xU (r:=.wh e b) ok (by simp only[Row.dep]; omega) (by simp only[Row.cnt]; omega) (by omega) (λmu=>K7) ((Ol (U1:=LE w ab bl X st acc1 (zS r.pv) (zI (k:Nat)) (zI 0) (zL b.pvs) mu) rfl st1).trans ?_)⟩;have ek:st+acc1.length=k+1:=by rw[hl1]; omega
  rw[ek];simp only[Row.es,acc1,YQ,Z6,Zr,evs,YW];rfl
 | .iff e b c,n,w,ab,bl,X,st,acc,o7,o8,o9,mu,ok,hd,h40,hc=>by
  simp only[Row.cnt]at hc;simp only[Row.dep]at hd h40;have hb:=Rows.dep_pos b;obtain⟨m,rfl⟩:∃m,n=m+1:=⟨n-1,by omega⟩;let r:Row:=.iff e b c;let k:=st+acc.length;let acc1:=acc++[en w ab bl r];have hl1:acc1.length=acc.length+1:=by simp[acc1]
  have ih:=Bd (n:=m) (w:=w) (ab:=.int (k:Nat)) (bl:=0) (st:=st+acc1.length) (mu:=mu) (rs:=b) (qR b m w (.int (k:Nat)) 0 (.lst b.pvs) (st+acc1.length) [] none none none none mu ok.2.1 (by omega) (by omega) (by simp only[YK]; omega));have he:(evs (b.es w (.int (k:Nat)) 0 (st+acc1.length))).length=b.cnt:=by rw[je,Rows.es_len]
  have st1:=DG (n:=m+1) (w:=w) (ab:=ab) (X:=X) (bl:=bl) (pl:=0) (st:=st) (k:=k) (acc:=acc1) (o6:=zS r.pv) (p:=.lst b.pvs) ih (by rw[he,hl1]; omega);let acc2:=acc1++evs (b.es w (.int (k:Nat)) 0 (st+acc1.length));have hl2:acc2.length=acc.length+1+b.cnt:=by show (acc1++_).length=_; rw[YJ,he,hl1]
  have ih2:=Bd (n:=m) (w:=w) (ab:=.int (k:Nat)) (bl:=1) (st:=st+acc2.length) (mu:=mu) (rs:=c) (qR c m w (.int (k:Nat)) 1 (.lst c.pvs) (st+acc2.length) [] none none none none mu ok.2.2 (by omega) (by omega) (by simp only[YK]; omega));have he2:(evs (c.es w (.int (k:Nat)) 1 (st+acc2.length))).length=c.cnt:=by rw[je,Rows.es_len]
  have st2:=DG (n:=m+1) (w:=w) (ab:=ab) (X:=X) (bl:=bl) (pl:=1) (st:=st) (k:=k) (acc:=acc2) (o6:=zS r.pv) (p:=.lst c.pvs) ih2 (by rw[he2,hl2]; omega);refine⟨zI (k:Nat),zI 1,zL c.pvs,xU (r:=.iff e b c) ok (by simp only[Row.dep]; omega) (by simp only[Row.cnt]; omega) (by omega) (λmu=>K8) ((Vy (U1:=LE w ab bl X st acc1 (zS r.pv) (zI (k:Nat)) (zI 0) (zL b.pvs) mu) (U3:=LE w ab bl X st acc2 (zS r.pv) (zI (k:Nat)) (zI 1) (zL c.pvs) mu) rfl st1 rfl st2).trans ?_)⟩;have ek:st+acc1.length=k+1:=by rw[hl1]; omega
  have ek2:st+acc2.length=k+1+b.cnt:=by rw[hl2]; omega
  rw[ek2];simp only[acc2,ek];simp only[Row.es,evs,YW,YZ,acc1,YQ,Z6,Zr];rfl
theorem qR:∀(rs:Rows) (n:Nat) (w:Str) (ab:PV) (bl:Int) (X:PV) (st:Nat) (acc:List PV) (o6 o7 o8 o9:Option Lc) (mu:Mu),rs.ok->rs.dep<=n+1->rs.dep<=41->acc.length+rs.cnt<=1000->
 ∃p6 p7 p8 p9,cP (aA 6) (Qg n) rs.pvs (LE w ab bl X st acc o6 o7 o8 o9 mu)=some (.nx (LE w ab bl X st (acc++evs (rs.es w ab bl (st+acc.length))) p6 p7 p8 p9 mu))
 | .nil,n,w,ab,bl,X,st,acc,o6,o7,o8,o9,mu,ok,hd,h41,hc=>⟨o6,o7,o8,o9,by simp[Rows.pvs,cP,Rows.es,evs]⟩
 | .cons r rs,n,w,ab,bl,X,st,acc,o6,o7,o8,o9,mu,ok,hd,h41,hc=>by
  simp only[Rows.dep]at hd h41;simp only[Rows.cnt]at hc;obtain⟨q7,q8,q9,e1⟩:=VB r n w ab bl X st acc o7 o8 o9 mu ok.1 (by omega) (by omega) (by omega);have hl:(acc++evs (r.es w ab bl (st+acc.length))).length=acc.length+r.cnt:=by rw[YJ,je,Row.es_len]
  obtain⟨p6,p7,p8,p9,e2⟩:=qR rs n w ab bl X st (acc++evs (r.es w ab bl (st+acc.length))) (zS r.pv) q7 q8 q9 mu ok.2 (by omega) (by omega) (by rw[hl]; omega);refine⟨p6,p7,p8,p9,cF (U1:=LE w ab bl X st acc (zS r.pv) o7 o8 o9 mu) rfl e1 (e2.trans ?_)⟩;rw[hl,<-Nat.add_assoc];simp only[Rows.es,yJ,YQ]
end
theorem vJ {rs:Rows} {w:Str} {ab:PV} {bl:Int} {st:Nat} {mu:Mu} (ok:rs.ok) (hd:rs.dep<=40) (hc:rs.cnt<=1000):
 fj 40 [.str w,ab,.int bl,.lst rs.pvs,.int st] mu=some (.own (.lst (evs (rs.es w ab bl st))),mu):=
 Bd (n:=39) (qR rs 39 w ab bl _ st [] none none none none mu ok (by omega) (by omega) (by simp only[YK]; omega))
structure Fn where
 name:Str
 rank:PV
 params:List PV
 rows:Rows
def Fn.pv (f:Fn):PV:=.tup [.str f.name,f.rank,.lst f.params,.lst f.rows.pvs]
structure Pg where
 boxes:List PV
 grants:List PV
 fns:List Fn
 rows:Rows
def Pg.pv (P:Pg):PV:=.tup [.lst P.boxes,.lst P.grants,.lst (P.fns.map Fn.pv),.lst P.rows.pvs]
def dM:List Fn->Nat
 | []=>0
 | f::fs=>f.rows.cnt+dM fs
def uz:List Fn->Nat->List Ent
 | [],_=>[]
 | f::fs,k=>f.rows.es f.name .non 0 k++uz fs (k+f.rows.cnt)
theorem yK:∀(fs:List Fn) (k:Nat),(uz fs k).length=dM fs
 | [],k=>rfl
 | f::fs,k=>by simp[uz,dM,Rows.es_len,yK fs]
def Pg.es (P:Pg):List Ent:=uz P.fns 0++P.rows.es "main" .non 0 (dM P.fns)
structure Pg.ok (P:Pg):Prop where
 fn:∀f∈P.fns,f.rows.ok/\f.rows.dep<=30
 rw:P.rows.ok
 dp:P.rows.dep<=30
 ct:dM P.fns+P.rows.cnt<=250
 pm:∀f∈P.fns,∃xs:List Str,f.params=xs.map (λx=>.tup [.str x,.non])/\xs.length<=100
 fl:P.fns.length<=20
abbrev NE (p:PV) (acc:List PV) (o2 o3 o4 o5:Option Lc) (mu:Mu):Ev:=⟨[zS p,zO acc,o2,o3,o4,o5],mu⟩
theorem Gx {p:PV}:∀(fs:List Fn) (acc:List PV) (o2 o3 o4 o5:Option Lc) (mu:Mu),(∀f∈fs,f.rows.ok/\f.rows.dep<=30)->acc.length+dM fs<=1000->
 ∃p2 p3 p4 p5,cP (eN 4 (aM (aA 2) (aM (aA 3) (aM (aA 4) (aM (aA 5) eG))))) Vt (fs.map Fn.pv) (NE p acc o2 o3 o4 o5 mu)=some (.nx (NE p (acc++evs (uz fs acc.length)) p2 p3 p4 p5 mu))
 | [],acc,o2,o3,o4,o5,mu,_,_=>⟨o2,o3,o4,o5,by simp[cP,uz,evs]⟩
 | f::fs,acc,o2,o3,o4,o5,mu,h,hl=>by
  simp only[dM]at hl;obtain⟨ok,hd⟩:=h f Yz;have e:=vJ (w:=f.name) (ab:=.non) (bl:=0) (st:=acc.length) (mu:=mu) ok (by omega) (by omega);have hl1:(acc++evs (f.rows.es f.name .non 0 acc.length)).length=acc.length+f.rows.cnt:=by rw[YJ,je,Rows.es_len]
  let E:=NE p acc (zT f.name) (zS f.rank) (zL f.params) (zL f.rows.pvs) mu;obtain⟨p2,p3,p4,p5,ih⟩:=Gx (p:=p) fs (acc++evs (f.rows.es f.name .non 0 acc.length)) (zT f.name) (zS f.rank) (zL f.params) (zL f.rows.pvs) mu (λx hx=>h x (YG _ hx)) (by rw[hl1]; omega);have st:Vt E=some (.nx (NE p (acc++evs (f.rows.es f.name .non 0 acc.length)) (zT f.name) (zS f.rank) (zL f.params) (zL f.rows.pvs) mu)):=
   qK (i:=1) (ws0:=acc) (ws:=acc) (ps:=evs (f.rows.es f.name .non 0 acc.length)) (l:=.own (.lst (evs (f.rows.es f.name .non 0 acc.length)))) (U1:=E) rfl
    (bH (ls:=[.sh (.str f.name),.sh .non,.sh (.int 0),.sh (.lst f.rows.pvs),.sh (.int acc.length)]) (ps:=[.str f.name,.non,.int 0,.lst f.rows.pvs,.int acc.length]) (U1:=E) rfl rfl rfl rfl e) rfl rfl (by rw[je,Rows.es_len]; omega) rfl
  refine⟨p2,p3,p4,p5,(cF (U1:=E) rfl st (ih.trans ?_))⟩;rw[hl1];simp only[uz,yJ,YQ]
theorem Fi {P:Pg} {mu:Mu} (ok:P.ok):su [P.pv] mu=some (.own (.lst (evs P.es)),mu):=by
 have hc:=ok.ct;obtain⟨p2,p3,p4,p5,e1⟩:=Gx (p:=P.pv) P.fns [] none none none none mu ok.fn (by simp only[YK]; omega);simp only[Zr,YK]at e1;let a1:=evs (uz P.fns 0);have ha:a1.length=dM P.fns:=by simp only[a1,je,yK]
 have e2:=vJ (w := "main") (ab:=.non) (bl:=0) (st:=a1.length) (mu:=mu) ok.rw (by have:=ok.dp; omega) (by omega);rw[ha]at e2;let b:=evs (P.rows.es "main" .non 0 (dM P.fns));refine(bG (U:=⟨[zS P.pv,none,p2,p3,p4,p5],mu⟩) (r:=.own (.lst (a1++b))) ?_).trans ?_
 . refine aF (U':=NE P.pv [] none none none none mu) rfl (aF (U':=NE P.pv a1 p2 p3 p4 p5 mu) (dN (xs:=P.fns.map Fn.pv) (U1:=NE P.pv [] none none none none mu) (dw (l:=.sh (.lst (P.fns.map Fn.pv))) rfl rfl) e1) (aF (U':=NE P.pv (a1++b) p2 p3 p4 p5 mu) ?_ rfl));exact qK (i:=1) (ws0:=a1) (ws:=a1) (ps:=b) (l:=.own (.lst b)) (U1:=NE P.pv a1 p2 p3 p4 p5 mu) rfl
    (bH (ls:=[.sh (.str "main"),.sh .non,.sh (.int 0),.sh (.lst P.rows.pvs),.sh (.int a1.length)]) (ps:=[.str "main",.non,.int 0,.lst P.rows.pvs,.int a1.length]) (U1:=NE P.pv a1 p2 p3 p4 p5 mu) rfl rfl rfl rfl (by rw[ha]; exact e2)) rfl rfl (by simp only[b]; rw[ha,je,Rows.es_len]; omega) rfl
 . simp only[a1,b,Pg.es,yJ]
def Ent.key (e:Ent):List b8:=[some (.inr e.w),(okP e.ab).getD none,some (.inl e.bl)]
def qy (ab:PV) (s t:Nat) (e:Ent):Prop:=e.ab=ab\/∃m:Nat,e.ab=.int m/\s<=m/\m<t
theorem qy.mono {ab:PV} {s t s' t':Nat} {e:Ent} (h:qy ab s t e) (h1:s'<=s) (h2:t<=t'):qy ab s' t' e:=by
 rcases h with h | ⟨m,h,g1,g2⟩
 . exact .inl h
 . exact .inr ⟨m,h,by omega,by omega⟩
theorem qy.up {k s t:Nat} {ab:PV} {e:Ent} (h:qy (.int (k:Nat)) s t e) (h1:k<s) (h2:k<t):qy ab k t e:=by
 rcases h with h | ⟨m,h,g1,g2⟩
 . exact .inr ⟨k,h,YC _,h2⟩
 . exact .inr ⟨m,h,by omega,g2⟩
mutual
theorem Row.abs:∀(r:Row) (w:Str) (ab:PV) (bl:Int) (k:Nat),∀e∈r.es w ab bl k,qy ab k (k+r.cnt) e
 | .leaf _ _,w,ab,bl,k,e,he=>by rw[Ze.mp he];exact .inl rfl
 | .call _ _ _,w,ab,bl,k,e,he=>by rw[Ze.mp he];exact .inl rfl
 | .wh x b,w,ab,bl,k,e,he=>by
  rcases YF.mp he with rfl | he
  . exact .inl rfl
  . have h:=Rows.abs b w (.int (k:Nat)) 0 (k+1) e he;simp only[Row.cnt];exact(h.up (by omega) (by omega)).mono (YC _) (by omega)
 | .iff x b c,w,ab,bl,k,e,he=>by
  simp only[Row.cnt];rcases YF.mp he with rfl | he
  . exact .inl rfl
  . rcases Y6_.mp he with he | he
    . have h:=Rows.abs b w (.int (k:Nat)) 0 (k+1) e he;exact(h.up (by omega) (by omega)).mono (YC _) (by omega)
    . have h:=Rows.abs c w (.int (k:Nat)) 1 (k+1+b.cnt) e he;exact(h.up (by omega) (by omega)).mono (YC _) (by omega)
theorem Rows.abs:∀(rs:Rows) (w:Str) (ab:PV) (bl:Int) (k:Nat),∀e∈rs.es w ab bl k,qy ab k (k+rs.cnt) e
 | .nil,w,ab,bl,k,e,he=>by cases he
 | .cons r rs,w,ab,bl,k,e,he=>by
  simp only[Rows.cnt];rcases Y6_.mp he with he | he
  . exact(Row.abs r w ab bl k e he).mono (YC _) (by omega)
  . exact(Rows.abs rs w ab bl (k+r.cnt) e he).mono (by omega) (by omega)
end
def X5 (ab:PV) (k:Nat):Prop:=ab=.non\/∃j:Nat,ab=.int j/\j<k
theorem qy.num {ab:PV} {s t k:Nat} {e:Ent} (h:qy ab s t e) (a:X5 ab k):e.ab=.non\/∃j:Nat,e.ab=.int j:=by
 rcases h with h | ⟨m,h,_⟩
 . rcases a with a | ⟨j,a,_⟩
   . exact .inl (h.trans a)
   . exact .inr ⟨j,h.trans a⟩
 . exact .inr ⟨m,h⟩
mutual
def Row.sp:Row->Bool
 | .leaf _ _=>false
 | .call _ _ _=>true
 | .wh _ _=>true
 | .iff _ b c=>b.sp||c.sp
def Rows.sp:Rows->Bool
 | .nil=>false
 | .cons r rs=>r.sp||rs.sp
end
mutual
def Row.bl:Row->Nat
 | .leaf _ _=>1
 | .call _ _ _=>2
 | .wh _ _=>1
 | .iff _ b c=>1+b.bl+c.bl
def Rows.bl:Rows->Nat
 | .nil=>0
 | .cons r rs=>max r.bl rs.bl
end
mutual
def Row.rws:Row->List Row
 | .leaf w ps=>[.leaf w ps]
 | .call b n as=>[.call b n as]
 | .wh e b=>.wh e b::b.rws
 | .iff e b c=>.iff e b c::(b.rws++c.rws)
def Rows.rws:Rows->List Row
 | .nil=>[]
 | .cons r rs=>r.rws++rs.rws
end
mutual
theorem Row.rws_len:∀r:Row,r.rws.length=r.cnt
 | .leaf _ _=>rfl
 | .call _ _ _=>rfl
 | .wh _ b=>by simp[Row.rws,Row.cnt,Rows.rws_len b]
 | .iff _ b c=>by simp[Row.rws,Row.cnt,Rows.rws_len b,Rows.rws_len c]
theorem Rows.rws_len:∀rs:Rows,rs.rws.length=rs.cnt
 | .nil=>rfl
 | .cons r rs=>by simp[Rows.rws,Rows.cnt,Row.rws_len r,Rows.rws_len rs]
end
abbrev rvs (l:List Row):List PV:=l.map Row.pv
theorem Row.head (r:Row):∃w t,r.pv=.tup (.str w::t):=by cases r<;>exact⟨_,_,rfl⟩
abbrev jH (l:List Nat):List PV:=l.map λ(i:Nat)=>PV.int (i:Nat)
abbrev SD:=List (List b8×List Nat)
def il (K:List b8) (i:Nat):SD->SD
 | []=>[(K,[i])]
 | x::r=>if x.1=K then (x.1,x.2++[i])::r else x::il K i r
def zY:SD->List b8->Option (List Nat)
 | [],_=>none
 | x::r,K=>if x.1=K then some x.2 else zY r K
def pz:Nat->SD->Vo
 | _,[]=>[]
 | N,x::r=>(x.1,.ptr N)::pz (N+1) r
abbrev dh (S:SD):Mu:=S.map λx=>some (.lst (jH x.2))
theorem K9:∀(N:Nat) (S:SD),(pz N S).length=S.length
 | _,[]=>rfl
 | N,x::r=>by simp[pz,K9]
theorem VD:∀l:Vo,(l.map (·.1)).zip (l.map (·.2))=l
 | []=>rfl
 | x::r=>by rw[YW,YW,ZS,VD r]
theorem La:∀{S:SD} {N i:Nat} {K:List b8},zY S K=none->lw (pz N S) K=none/\il K i S=S++[(K,[i])]/\pz N (il K i S)=pz N S++[(K,.ptr (N+S.length))]
 | [],N,i,K,_=>⟨rfl,rfl,rfl⟩
 | x::r,N,i,K,h=>by
  unfold zY at h;split at h
  . cases h
  . rename_i hx;obtain⟨h1,h2,h3⟩:=La (N:=N+1) (i:=i) h;refine⟨?_,?_,?_⟩
    . show (if x.1=K then _ else _)=_;rw[aaO hx]; exact h1
    . show (if x.1=K then _ else _)=_;rw[aaO hx,h2]; rfl
    . unfold il;rw[aaO hx];show (x.1,PV.ptr N)::pz (N+1) (il K i r)=_;rw[h3,show N+1+r.length=N+(x::r).length by simp only[Yy]; omega];rfl
theorem Lb:∀{S:SD} {N i:Nat} {K:List b8} {l:List Nat},zY S K=some l->∃j,lw (pz N S) K=some (.ptr (N+j))/\(dh S)[j]?=some (some (.lst (jH l)))/\(dh S).set j (some (.lst (jH (l++[i]))))=dh (il K i S)/\pz N (il K i S)=pz N S
 | [],N,i,K,l,h=>by cases h
 | x::r,N,i,K,l,h=>by
  unfold zY at h;split at h
  . rename_i hx;cases h;refine⟨0,?_,rfl,?_,?_⟩
    . show (if x.1=K then _ else _)=_;rw[aaN hx]; rfl
    . unfold il;rw[aaN hx]; rfl
    . unfold il;rw[aaN hx]; rfl
  . rename_i hx;obtain⟨j,h1,h2,h3,h4⟩:=Lb (N:=N+1) (i:=i) h;refine⟨j+1,?_,?_,?_,?_⟩
    . show (if x.1=K then _ else _)=_;rw[aaO hx,h1,show N+1+j=N+(j+1) by omega]
    . simpa using h2
    . unfold il;rw[aaO hx];show _::(dh r).set j _=_::dh (il K i r);rw[h3]
    . unfold il;rw[aaO hx];show (x.1,PV.ptr N)::pz (N+1) (il K i r)=_;rw[h4];rfl
def xV:Nat->List Ent->SD->SD
 | _,[],S=>S
 | i,e::es,S=>xV (i+1) es (il e.key i S)
theorem DN {K:List b8} {i:Nat}:∀S:SD,(il K i S).length<=S.length+1
 | []=>YC _
 | x::r=>by
  unfold il;split
  . simp
  . have:=DN (K:=K) (i:=i) r;simp only[Yy];omega
def Short (m:Nat) (S:SD):Prop:=∀x∈S,x.2.length<=m
theorem Short.put {m i:Nat} {K:List b8}:∀{S:SD},Short m S->Short (m+1) (il K i S)
 | [],_,x,hx=>by rw[Ze.mp hx];simp
 | y::r,h,x,hx=>by
  unfold il at hx;split at hx
  . rcases YF.mp hx with rfl | hx
    . have:=h y Yz;simp only[YJ,Yy,YK];omega
    . have:=h x (YG _ hx);omega
  . rcases YF.mp hx with rfl | hx
    . have:=h x Yz;omega
    . exact Short.put (λz hz=>h z (YG _ hz)) x hx
theorem Ld:∀{S:SD} {K:List b8} {l:List Nat},zY S K=some l->∃x∈S,x.2=l
 | [],K,l,h=>by cases h
 | y::r,K,l,h=>by
  unfold zY at h;split at h
  . cases h; exact⟨y,Yz,rfl⟩
  . obtain⟨x,hx,e⟩:=Ld h;exact⟨x,YG _ hx,e⟩
theorem Gy:∀(S:SD) (A:Mu),meltL (A++dh S) ((pz A.length S).map (·.2))=some (S.map λx=>.lst (jH x.2),A++S.map λ_=>none)
 | [],A=>by simp[pz,meltL]
 | x::r,A=>by
  have ih:=Gy r (A++[none]);rw[YJ]at ih;have e1:(A++dh (x::r))[A.length]?=some (some (.lst (jH x.2))):=by rw[Y8 (YC _),aaa]; rfl
  have e2:(A++dh (x::r)).set A.length none=(A++[none])++dh r:=by rw[List.set_append_right _ _ (YC _),aaa,YQ]; rfl
  show meltL (A++dh (x::r)) (.ptr A.length::(pz (A.length+1) r).map (·.2))=_;unfold meltL;rw[e1];dsimp only;rw[e2,show A.length+1=A.length+[(none:Option PV)].length from rfl,ih,aam];simp
def uA:Nat->List PV->List PV
 | _,[]=>[]
 | i,p::ps=>.tup [.int (i:Nat),p]::uA (i+1) ps
theorem Le:∀(ps:List PV) (i:Nat),(ps.zipIdx i).map (λx=>PV.tup [.int (x.2:Nat),x.1])=uA i ps
 | [],i=>rfl
 | p::ps,i=>by rw[List.zipIdx_cons,YW,Le ps (i+1)];rfl
theorem ww (ps:List PV):nQ ps=uA 0 ps:=Le ps 0
section
variable [HK]
abbrev lD (N:Nat) (S:SD):PV:=.dx HK.hk ((pz N S).map (·.1)) ((pz N S).map (·.2))
abbrev AE (o0 o1 o2 o3 o4 o5 o6 o7 o8 o9 o10:Option Lc) (mu:Mu):Ev:=⟨[o0,o1,o2,o3,o4,o5,o6,o7,o8,o9,o10],mu⟩
abbrev Xb:SF:=mz (uX 3 (oU (aa 5) iy (cA (abO 3)))) (aa 4)
theorem Lf {e:Ent} (ha:e.ab=.non\/∃j:Nat,e.ab=.int j):oV [.str e.w,e.ab,.int e.bl]=some e.key:=by unfold Ent.key;rcases ha with h | ⟨j,h⟩<;>rw[h]<;>rfl
open Classical in
theorem RK {e:Ent} {i:Nat} {S:SD} {A:Mu} {o0 o1 o2 o6 o7 o8 o9 o10:Option Lc} (ha:e.ab=.non\/∃j:Nat,e.ab=.int j) (hS:S.length<=1000) (hs:Short 1000 S):
 Xb (AE o0 o1 o2 (some (.own (lD A.length S))) (zI (i:Nat)) (zS e.pv) o6 o7 o8 o9 o10 (A++dh S))=some (.nx (AE o0 o1 o2 (some (.own (lD A.length (il e.key i S)))) (zI (i:Nat)) (zS e.pv) o6 o7 o8 o9 o10 (A++dh (il e.key i S)))):=by
 let E:=AE o0 o1 o2 (some (.own (lD A.length S))) (zI (i:Nat)) (zS e.pv) o6 o7 o8 o9 o10 (A++dh S);have hk:oU (aa 5) iy (cA (abO 3)) E=some (.sh (.tup [.str e.w,e.ab,.int e.bl]),E):=rfl;have set:uX 3 (oU (aa 5) iy (cA (abO 3))) E=(match lw (pz A.length S) e.key with
  | some p=>some (.sh p,E)
  | none=>some (.sh (.ptr (A++dh S).length),⟨E.vs.set 3 (some (.own (.dx HK.hk ((pz A.length S).map (·.1)++[e.key]) ((pz A.length S).map (·.2)++[.ptr (A++dh S).length])))),(A++dh S)++[some (.lst [])]⟩)):=by
  unfold uX;rw[show E.vs[3]?=some (some (.own (lD A.length S))) from rfl];dsimp only;rw[hk,YB];show ((oV [.str e.w,e.ab,.int e.bl]).bind _)=_;rw[Lf ha,YB,aaN ⟨rfl,by rw[YH,K9]; omega⟩,VD]
  all_goals (cases lw (pz A.length S) e.key<;>rfl)
 cases h:zY S e.key with
 | none=>
  obtain⟨h1,h2,h3⟩:=La (N:=A.length) (i:=i) h;rw[h1]at set;have hl:(A++dh S).length=A.length+S.length:=by rw[YJ,YH]
  refine(u0 set rfl (n:=(A++dh S).length) (ws0:=[]) (ws:=[]) (p:=.int (i:Nat)) ?_ (y:=.sh (.int (i:Nat))) (U2:=⟨E.vs.set 3 (some (.own (.dx HK.hk ((pz A.length S).map (·.1)++[e.key]) ((pz A.length S).map (·.2)++[.ptr (A++dh S).length])))),(A++dh S)++[some (.lst [])]⟩) rfl rfl ?_ (by simp) rfl).trans ?_
  . show ((A++dh S)++[some (PV.lst [])])[(A++dh S).length]?=_;rw[Y8 (YC _),aaa]; rfl
  . show ((A++dh S)++[some (PV.lst [])])[(A++dh S).length]?=_;rw[Y8 (YC _),aaa]; rfl
  . show some (Fl.nx ⟨_,((A++dh S)++[some (PV.lst [])]).set (A++dh S).length _⟩)=_;rw[List.set_append_right _ _ (YC _),aaa,lD,h3,h2,YZ,YZ,hl,show dh (S++[(e.key,[i])])=dh S++[some (.lst (jH [i]))] from YZ,<-YQ];rfl
 | some l=>
  obtain⟨j,h1,h2,h3,h4⟩:=Lb (N:=A.length) (i:=i) h;rw[h1]at set;obtain⟨x,hx,ex⟩:=Ld h;have hl:=hs x hx;have g:(A++dh S)[A.length+j]?=some (some (.lst (jH l))):=by rw[Y8 (by omega),show A.length+j-A.length=j by omega]; exact h2
  refine(u0 set rfl (n:=A.length+j) (ws0:=jH l) (ws:=jH l) (p:=.int (i:Nat)) g (y:=.sh (.int (i:Nat))) (U2:=E) rfl rfl g (by rw[YH,<-ex]; omega) rfl).trans ?_;show some (Fl.nx ⟨_,(A++dh S).set (A.length+j) _⟩)=_;rw[List.set_append_right _ _ (by omega),show A.length+j-A.length=j by omega,show jH l++[PV.int (i:Nat)]=jH (l++[i]) by simp[jH],h3,lD,h4]
theorem Gz {A:Mu} {o0 o1 o2 o6 o7 o8 o9 o10:Option Lc}:∀(es:List Ent) (i:Nat) (S:SD) (o4 o5:Option Lc),(∀e∈es,e.ab=.non\/∃j:Nat,e.ab=.int j)->S.length+es.length<=1000->∀m,Short m S->m+es.length<=1000->
 ∃p4 p5,cP (eN 2 (aM (aA 4) (aM (aA 5) eG))) Xb (uA i (evs es)) (AE o0 o1 o2 (some (.own (lD A.length S))) o4 o5 o6 o7 o8 o9 o10 (A++dh S))=some (.nx (AE o0 o1 o2 (some (.own (lD A.length (xV i es S)))) p4 p5 o6 o7 o8 o9 o10 (A++dh (xV i es S))))
 | [],i,S,o4,o5,_,_,m,_,_=>⟨o4,o5,rfl⟩
 | e::es,i,S,o4,o5,ha,hl,m,hs,hm=>by simp only[Yy]at hl hm;have hp:=DN (K:=e.key) (i:=i) S;obtain⟨p4,p5,ih⟩:=Gz (A:=A) (o0:=o0) (o1:=o1) (o2:=o2) (o6:=o6) (o7:=o7) (o8:=o8) (o9:=o9) (o10:=o10) es (i+1) (il e.key i S) (zI (i:Nat)) (zS e.pv) (λx hx=>ha x (YG _ hx)) (by omega) (m+1) hs.put (by omega);exact⟨p4,p5,cF (U1:=AE o0 o1 o2 (some (.own (lD A.length S))) (zI (i:Nat)) (zS e.pv) o6 o7 o8 o9 o10 (A++dh S)) rfl (RK (ha e Yz) (by omega) λx hx=>by have:=hs x hx; omega) ih⟩
end
theorem GC {α β:Type}:∀l:List (α×β),(l.map (·.1)).zip (l.map (·.2))=l
 | []=>rfl
 | x::r=>by rw[YW,YW,ZS,GC r]
theorem yL {C f:Str} {fo fv:EF} {U U1 U2:Ev} {y x:Lc} {p:PV} {n:Nat} {l:FD} (h1:fv U=some (y,U1)) (hy:y.pv=p) (h2:fo U1=some (x,U2)) (hx:x.pv=.ptr n) (hm:U2.mu[n]?=some (some (dG C l))) (hl:l.length<1000):uW C f fo fv U=some (.nx ⟨U2.vs,U2.mu.set n (some (dG C (mD f p l)))⟩):=by unfold uW;rw[h1,YB,h2,YB,hx];dsimp only;rw[hm];unfold dG;dsimp only;rw[aaN ⟨rfl,by rw[YH]; exact hl⟩,GC,hy]
theorem DP {C f:Str} {fo:EF} {U U1:Ev} {x:Lc} {p:PV} {n:Nat} {l:FD} (h2:fo U=some (x,U1)) (hx:x.pv=.ptr n) (hm:U1.mu[n]?=some (some (dG C l))) (hp:mC l f=some p):v7 C f fo U=some (.sh p,U1):=by unfold v7;rw[h2,YB,hx];dsimp only;rw[hm];unfold dG;dsimp only;rw[aaN rfl,GC,hp];rfl
theorem yM {C m:Str} {g:GF} {fo:EF} {a:AF} {U U1 U2:Ev} {x:Lc} {ls:List Lc} {n:Nat} {l:FD} {r:Lc} {mu2:Mu} {ps:List PV} (h1:fo U=some (x,U1)) (hx:x.pv=.ptr n) (hm:U1.mu[n]?=some (some (dG C l))) (hc:(l.map (·.1)).contains m=false) (h2:a U1=some (ls,U2)) (hps:ls.map Lc.pv=ps) (h3:g (.ptr n::ps) U2.mu=some (r,mu2)):mF C m g fo a U=some (r,⟨U2.vs,mu2⟩):=by unfold mF;rw[h1,YB,hx];dsimp only;rw[hm];unfold dG;dsimp only;rw[aaN ⟨rfl,hc⟩,h2,YB,hps,h3];rfl
theorem RM {C:Str} {g:GF} {a:AF} {U U1:Ev} {ls:List Lc} {ps:List PV} {mu2:Mu} (h:a U=some (ls,U1)) (hps:ls.map Lc.pv=ps) (h2:g (.ptr U1.mu.length::ps) (U1.mu++[some (dG C [])])=some (.sh .non,mu2)):xG C g a U=some (.sh (.ptr U1.mu.length),⟨U1.vs,mu2⟩):=by unfold xG;rw[h,YB,hps];rw[show g (.ptr U1.mu.length::ps) (U1.mu++[some (.obj C [] [])])=_ from h2];rfl
theorem zZ {k:Key} {v:PV}:∀l:PD,(my k v l).length=l.length
 | []=>rfl
 | x::r=>by simp[my,zZ r]
theorem Om {k:Key} {v:PV} {l:PD}:(ig l k v).length<=l.length+1:=by
 unfold ig;split
 . rw[zZ]; omega
 . simp
def eO (ss:List Str) (x:Str):List Str:=if x∈ss then ss else ss++[x]
theorem DQ {ss:List Str} {x y:Str}:y∈eO ss x ↔ y∈ss\/y=x:=by
 unfold eO;split
 . rename_i h;exact⟨.inl,λq=>q.elim id λe=>e▸h⟩
 . rw[Y6_,Ze]
theorem Ji {ss:List Str} {x:Str} (h:ss.Nodup):(eO ss x).Nodup:=by
 unfold eO;split
 . exact h
 . rename_i q;exact aaj.mpr ⟨h,by simp,λa ha b hb e=>q (by rw[Ze]at hb; rw[<-hb,<-e]; exact ha)⟩
theorem jr {ss:List Str} {x:Str}:(eO ss x).length<=ss.length+1:=by
 unfold eO;split
 . omega
 . simp
def KS (d:PD) (ss:List Str):Prop:=d.map (·.1)=ss.map Sum.inr
theorem xW {k:Key} {v:PV}:∀l:PD,(my k v l).map (·.1)=l.map (·.1)
 | []=>rfl
 | x::r=>by simp only[my,YW,xW r];split<;>simp_all
theorem KS.put {d:PD} {ss:List Str} {x:Str} {v:PV} (h:KS d ss):KS (ig d (.inr x) v) (eO ss x):=by
 unfold KS at *;unfold ig eO;have v:∀(l:PD) (k:Key),(jK l k=none ↔ k∉l.map (·.1)):=λl k=>by
  induction l with
  | nil=>simp[jK]
  | cons a l ih=>
   by_cases e:a.1=k
   . simp[jK,e]
   . simp only[jK,aaO e,ih,YW,YF,not_or];exact⟨λq=>⟨λz=>e z.symm,q⟩,λq=>q.2⟩
 have m:(Sum.inr x:Key)∈d.map (·.1) ↔ x∈ss:=by rw[h,Za];exact⟨λ⟨y,hy,e⟩=>by cases e; exact hy,λhy=>⟨x,hy,rfl⟩⟩
 cases hv:jK d (.inr x) with
 | none=>
  rw[aaO λq=>(v _ _).mp hv (m.mpr q)];simp[h]
 | some p=>
  rw[aaN (Classical.byContradiction λq=>by rw[(v d (.inr x)).mpr λz=>q (m.mp z)]at hv; cases hv)];show (my _ _ d).map _=_;rw[xW,h]
section
variable [HK]
abbrev VF:EF:=dF (fX (aa 9) cC) 2 [] (eN 2 (aM (aA 0) (aM (aA 1) eG))) bQ (aa 0)
theorem GD {mu:Mu}:∀(xs:List Str) (o0 o1:Option Lc) (acc:List PV),acc.length+xs.length<=1000->cz (eN 2 (aM (aA 0) (aM (aA 1) eG))) bQ (aa 0) (xs.map λx=>.tup [.str x,.non]) ⟨[o0,o1],mu⟩ acc=some (acc++xs.map PV.str,mu)
 | [],o0,o1,acc,_=>by simp[cz]
 | x::xs,o0,o1,acc,h=>by simp only[Yy]at h;refine fu (U1:=⟨[zT x,some (.sh .non)],mu⟩) (l:=.sh (.str x)) (U2:=⟨[zT x,some (.sh .non)],mu⟩) rfl rfl (by omega) ((GD xs _ _ (acc++[.str x]) (by rw[YJ]; simp only[Yy,YK]; omega)).trans ?_);simp
theorem RN {f:Fn} {d:PD} {o0 o1 o2 o3 o4 o5 o8 o10:Option Lc} {mu:Mu} (hp:∃xs:List Str,f.params=xs.map (λx=>.tup [.str x,.non])/\xs.length<=100) (hd:d.length<=1000):∃p,
 jD 6 (aa 7) VF (AE o0 o1 o2 o3 o4 o5 (some (.own (dz d))) (zT f.name) o8 (zL f.params) o10 mu)=some (.nx (AE o0 o1 o2 o3 o4 o5 (some (.own (dz (ig d (.inr f.name) p)))) (zT f.name) o8 (zL f.params) o10 mu)):=by
 obtain⟨xs,e,hl⟩:=hp;let E:=AE o0 o1 o2 o3 o4 o5 (some (.own (dz d))) (zT f.name) o8 (zL f.params) o10 mu;refine⟨.lst (xs.map PV.str),?_⟩;have c:VF E=some (.own (.lst (xs.map PV.str)),E):=fM (U1:=E) (xs:=f.params) (dw (l:=.sh (.lst f.params)) rfl rfl) (by rw[e]; exact GD xs none none [] (by simp only[YK]; omega));unfold jD;rw[c,YB];show (if (d.map (·.1)).length<100000 then _ else _)=_;rw[aaN (by rw[YH]; omega),GC];rfl
theorem GJ {o0 o1 o2 o3 o4 o5:Option Lc} {mu:Mu}:∀(fs:List Fn) (d:PD) (o7 o8 o9 o10:Option Lc),(∀f∈fs,∃xs:List Str,f.params=xs.map (λx=>.tup [.str x,.non])/\xs.length<=100)->d.length+fs.length<=1000->
 ∃d' p7 p8 p9 p10,(∀ss,KS d ss->KS d' (fs.foldl (λss f=>eO ss f.name) ss))/\cP (eN 4 (aM (aA 7) (aM (aA 8) (aM (aA 9) (aM (aA 10) eG))))) (jD 6 (aa 7) VF) (fs.map Fn.pv) (AE o0 o1 o2 o3 o4 o5 (some (.own (dz d))) o7 o8 o9 o10 mu)=some (.nx (AE o0 o1 o2 o3 o4 o5 (some (.own (dz d'))) p7 p8 p9 p10 mu))
 | [],d,o7,o8,o9,o10,_,_=>⟨d,o7,o8,o9,o10,λss h=>h,rfl⟩
 | f::fs,d,o7,o8,o9,o10,h,hl=>by simp only[Yy]at hl;obtain⟨p,st⟩:=RN (f:=f) (d:=d) (o0:=o0) (o1:=o1) (o2:=o2) (o3:=o3) (o4:=o4) (o5:=o5) (o8:=zS f.rank) (o10:=zL f.rows.pvs) (mu:=mu) (h f Yz) (by omega);have hp:=Om (k:=.inr f.name) (v:=p) (l:=d);obtain⟨d',p7,p8,p9,p10,hk,ih⟩:=GJ (o0:=o0) (o1:=o1) (o2:=o2) (o3:=o3) (o4:=o4) (o5:=o5) (mu:=mu) fs (ig d (.inr f.name) p) (zT f.name) (zS f.rank) (zL f.params) (zL f.rows.pvs) (λx hx=>h x (YG _ hx)) (by omega);exact⟨d',p7,p8,p9,p10,λss g=>hk _ g.put,cF (U1:=AE o0 o1 o2 o3 o4 o5 (some (.own (dz d))) (zT f.name) (zS f.rank) (zL f.params) (zL f.rows.pvs) mu) rfl st ih⟩
abbrev LX (N:Nat) (S:SD):PV:=.dx HK.hk ((pz N S).map (·.1)) (S.map λx=>.lst (jH x.2))
abbrev DR (es:List Ent) (N:Nat) (hd:PV):FD:=[("told",.lst (evs es)),("lists",LX N (xV 0 es [])),("heads",hd)]
theorem WQ (P:Pg):∀e∈P.es,e.ab=.non\/∃j:Nat,e.ab=.int j:=by
 have f:∀(fs:List Fn) (k:Nat),∀e∈uz fs k,e.ab=.non\/∃j:Nat,e.ab=.int j:=by
  intro fs;induction fs with
  | nil=>intro k e he; cases he
  | cons f fs ih=>
   intro k e he;rcases Y6_.mp he with he | he
   . exact(Rows.abs f.rows f.name .non 0 k e he).num (k:=0) (.inl rfl)
   . exact ih _ e he
 intro e he;rcases Y6_.mp he with he | he
 . exact f _ _ e he
 . exact(Rows.abs P.rows "main" .non 0 _ e he).num (k:=0) (.inl rfl)
theorem es_len (P:Pg):P.es.length=dM P.fns+P.rows.cnt:=by unfold Pg.es;rw[YJ,yK,Rows.es_len]
theorem Jj {α:Type} {A B:List α} {x:α}:(A++x::B)[A.length]?=some x:=by rw[Y8 (YC _),aaa]; rfl
theorem Jk {α:Type} {A B:List α} {x y:α}:(A++x::B).set A.length y=A++y::B:=by rw[List.set_append_right _ _ (YC _),aaa]; rfl
theorem RP {P:Pg} (ok:P.ok) (A:Mu):∃d B,KS d (P.fns.foldl (λss f=>eO ss f.name) [])/\iR [.ptr A.length,P.pv] (A++[some (dG "Plan" [])])=some (.sh .non,A++some (dG "Plan" (DR P.es (A.length+1) (dz d)))::B):=by
 have hc:=ok.ct;have hlen:=es_len P;let A1:Mu:=A++[some (dG "Plan" [])];have hA1:A1.length=A.length+1:=by simp[A1]
 let S:=xV 0 P.es [];let o0:Option Lc:=zS (.ptr A.length);let o1:Option Lc:=zS P.pv;let o2:Option Lc:=zL (evs P.es);obtain⟨p4,p5,e1⟩:=Gz (A:=A1) (o0:=o0) (o1:=o1) (o2:=o2) (o6:=none) (o7:=none) (o8:=none) (o9:=none) (o10:=none) P.es 0 [] none none (WQ P) (by simp only[YK]; omega) 0 (λx hx=>by cases hx) (by omega);obtain⟨d,p7,p8,p9,p10,hk,e2⟩:=GJ (o0:=o0) (o1:=o1) (o2:=o2) (o3:=some (.own (lD A1.length S))) (o4:=p4) (o5:=p5) (mu:=A1++dh S) P.fns [] none none none none ok.pm (by have:=ok.fl; simp only[YK]; omega);have n1:=Fi (mu:=A1) ok;let T:PV:=.lst (evs P.es);let A2:Mu:=A++[some (dG "Plan" [("told",T)])];let B:Mu:=S.map λ_=>none;have hA2:A2.length=A1.length:=by simp[A1,A2]
 have hm:=Gy S A2;rw[hA2]at hm;let Q:=AE o0 o1 o2 (some (.own (lD A1.length S))) p4 p5 (some (.own (dz d))) p7 p8 p9 p10;let Q2:=AE o0 o1 o2 (zS (lD A1.length S)) p4 p5 (some (.own (dz d))) p7 p8 p9 p10;let Q3:=AE o0 o1 o2 (zS (lD A1.length S)) p4 p5 (zS (dz d)) p7 p8 p9 p10;refine⟨d,B,hk [] rfl,?_⟩;have run:∀{g:SF} {U1:Ev},g (env0 11 [.ptr A.length,P.pv] A1)=some (.nx U1)->eF 11 g [.ptr A.length,P.pv] A1=some (.sh .non,U1.mu):=λh=>RD h;refine run (U1:=Q3 (A++some (dG "Plan" (DR P.es (A.length+1) (dz d)))::B)) ?_;refine aF (U':=AE o0 o1 (some (.own T)) none none none none none none none none A1) (bD (l:=.own T) (U1:=AE o0 o1 none none none none none none none none none A1) (bH (ls:=[.sh P.pv]) (ps:=[P.pv]) (U1:=AE o0 o1 none none none none none none none none none A1) rfl rfl rfl rfl n1) rfl rfl) ?_;refine aF (U':=AE o0 o1 (some (.own T)) (some (.own (lD A1.length []))) none none none none none none none A1) rfl ?_;refine aF (U':=AE o0 o1 o2 (some (.own (lD A1.length S))) p4 p5 none none none none none (A1++dh S)) (dN (xs:=uA 0 (evs P.es)) (U1:=AE o0 o1 o2 (some (.own (lD A1.length []))) none none none none none none none (A1++dh [])) ?_ e1) ?_
 . rw[<-ww,show A1++dh []=A1 from Y7_ _];rfl
 refine aF (U':=AE o0 o1 o2 (some (.own (lD A1.length S))) p4 p5 (some (.own (dz []))) none none none none (A1++dh S)) rfl ?_;refine aF (U':=Q (A1++dh S)) (dN (xs:=P.fns.map Fn.pv) (U1:=AE o0 o1 o2 (some (.own (lD A1.length S))) p4 p5 (some (.own (dz []))) none none none none (A1++dh S)) (dw (l:=.sh (.lst (P.fns.map Fn.pv))) rfl rfl) e2) ?_;refine aF (U':=Q (A2++dh S)) ((yL (C := "Plan") (f := "told") (p:=T) (n:=A.length) (l:=[]) (y:=.sh T) (x:=.sh (.ptr A.length)) (U1:=Q (A1++dh S)) (U2:=Q (A1++dh S)) rfl rfl rfl rfl ?_ (by decide)).trans ?_) ?_
 . show (A++[some (dG "Plan" [])]++dh S)[A.length]?=_;rw[YQ];exact Jj
 . show some (Fl.nx ⟨_,(A++[some (dG "Plan" [])]++dh S).set A.length _⟩)=some (Fl.nx ⟨_,A++[some (dG "Plan" [("told",T)])]++dh S⟩);rw[YQ,YQ,List.singleton_append,Jk];rfl
 refine aF (U':=Q2 (A++some (dG "Plan" [("told",T),("lists",LX A1.length S)])::B)) ((yL (C := "Plan") (f := "lists") (p:=LX A1.length S) (n:=A.length) (l:=[("told",T)]) (y:=.sh (LX A1.length S)) (x:=.sh (.ptr A.length)) (U1:=Q2 (A2++B)) (U2:=Q2 (A2++B)) ?_ rfl rfl rfl ?_ (by simp only[Yy,YK]; omega)).trans ?_) ?_
 . unfold Dl;rw[show aa 3 (Q (A2++dh S))=some (.sh (lD A1.length S),Q2 (A2++dh S)) from rfl,YB];show ((meltL (A2++dh S) ((pz A1.length S).map (·.2))).map _)=_;rw[hm];rfl
 . show (A++[some (dG "Plan" [("told",T)])]++B)[A.length]?=_;rw[YQ];exact Jj
 . show some (Fl.nx ⟨_,(A++[some (dG "Plan" [("told",T)])]++B).set A.length _⟩)=some (Fl.nx ⟨_,A++some (dG "Plan" [("told",T),("lists",LX A1.length S)])::B⟩);rw[YQ,List.singleton_append,Jk];rfl
 refine(yL (C := "Plan") (f := "heads") (p:=dz d) (n:=A.length) (l:=[("told",T),("lists",LX A1.length S)]) (y:=.sh (dz d)) (x:=.sh (.ptr A.length)) (U1:=Q3 (A++some (dG "Plan" [("told",T),("lists",LX A1.length S)])::B)) (U2:=Q3 (A++some (dG "Plan" [("told",T),("lists",LX A1.length S)])::B)) rfl rfl rfl rfl Jj (by simp only[Yy,YK]; omega)).trans ?_;show some (Fl.nx ⟨_,(A++some (dG "Plan" [("told",T),("lists",LX A1.length S)])::B).set A.length _⟩)=some (Fl.nx ⟨_,A++some (dG "Plan" (DR P.es (A.length+1) (dz d)))::B⟩);rw[Jk,<-hA1];rfl
end
abbrev gB (l:List Str):List PV:=l.map PV.str
abbrev gY (k:Nat):Str:=(toString ((k:Nat):Int):Str)
theorem Lg:∀k<256,Og (.int ((k:Nat):Int))=some (gY k)/\("at " : Str).length+(gY k).length<=1000/\str1 [.int ((k:Nat):Int)]=zT (gY k):=by
 have g:∀k<256,("at " : Str).length+(gY k).length<=1000/\((k:Nat):Int).natAbs.log2<1920:=by decide +kernel
 intro k hk;obtain⟨g2,g3⟩:=g k hk;refine⟨?_,g2,?_⟩
 . show (if ((k:Nat):Int).natAbs.log2<1920 then (if (gY k).length<=100000 then some (gY k) else none) else none)=_;rw[aaN g3,aaN (by omega)]
 . show (if ((k:Nat):Int).natAbs.log2<1920 then some (Lc.sh (.str (gY k))) else none)=_;rw[aaN g3]
section
variable [HK]
structure VG (mu:Mu) (n:Nat) (es:List Ent):Prop where
 ex:∃N hd,mu[n]?=some (some (dG "Plan" (DR es N hd)))
theorem RQ {es:List Ent} {k:Nat} {e:Ent} (h:es[k]?=some e):gq (evs es) ((k:Nat):Int)=some e.pv:=QR (by rw[Y4,h]; rfl)
theorem VH {mu:Mu} {n k:Nat} {es:List Ent} {e:Ent} (h:VG mu n es) (he:es[k]?=some e):jR [.ptr n,.int (k:Nat)] mu=some (.sh e.r.pv,mu):=by obtain⟨N,hd,hm⟩:=h;let E:Ev:=⟨[zS (.ptr n),zI (k:Nat)],mu⟩;refine bG (U:=E) (fY (gb (p:=e.pv) (q:=.int 3) (U1:=E) (U2:=E) (l:=.sh e.pv) (m:=.sh (.int 3)) (gb (p:=.lst (evs es)) (q:=.int (k:Nat)) (U1:=E) (U2:=E) (l:=.sh (.lst (evs es))) (m:=.sh (.int (k:Nat))) (DP (U1:=E) (x:=.sh (.ptr n)) (n:=n) rfl rfl hm rfl) rfl rfl rfl (λn h=>by cases h) ?_) rfl rfl rfl (λn h=>by cases h) rfl));show (gq (evs es) ((k:Nat):Int)).map _=_;rw[RQ he];rfl
end
theorem Lh {a b:Str} (h:(a==b)=false):(b==a)=false:=by rw[aaS]at h ⊢;exact λq=>h q.symm
def jM (w:Str):Bool:=("if" == w)||(("while" == w)||false)
theorem GK {w:Str} (h:Plain w):jM w=false:=by unfold jM;rw[Lh h.1,Lh h.2.1];rfl
mutual
theorem Row.es_rws:∀(r:Row) (w:Str) (ab:PV) (bl:Int) (k:Nat),(r.es w ab bl k).map Ent.r=r.rws
 | .leaf _ _,w,ab,bl,k=>rfl
 | .call _ _ _,w,ab,bl,k=>rfl
 | .wh e b,w,ab,bl,k=>by simp[Row.es,Row.rws,Rows.es_rws b]
 | .iff e b c,w,ab,bl,k=>by simp[Row.es,Row.rws,Rows.es_rws b,Rows.es_rws c]
theorem Rows.es_rws:∀(rs:Rows) (w:Str) (ab:PV) (bl:Int) (k:Nat),(rs.es w ab bl k).map Ent.r=rs.rws
 | .nil,w,ab,bl,k=>rfl
 | .cons r rs,w,ab,bl,k=>by simp[Rows.es,Rows.rws,Row.es_rws r,Rows.es_rws rs]
end
def nF:List Fn->List Row
 | []=>[]
 | f::fs=>f.rows.rws++nF fs
theorem DW:∀fs:List Fn,(nF fs).length=dM fs
 | []=>rfl
 | f::fs=>by simp[nF,dM,Rows.rws_len,DW fs]
def Pg.rws (P:Pg):List Row:=nF P.fns++P.rows.rws
abbrev SS (xs:List Str):List PV:=xs.map .str
theorem VJ {ns:List Int} {i:Int} (h0:0<=i) (h1:i<ns.length):∃c∈ns,mR (.lst (ns.map .int)) (.int i)=zI c:=by obtain⟨x,e,e2⟩:=rN (l:=ns.map PV.int) (i:=i) h0 (by rw[YH]; exact h1);rw[Y4]at e2;obtain⟨c,hc,rfl⟩:=aaV e2;exact⟨c,Zn hc,by show (gq (ns.map PV.int) i).map _=_; rw[e]; rfl⟩
theorem Li {ns:List Str} {i:Int} (h0:0<=i) (h1:i<ns.length):∃c∈ns,mR (.lst (SS ns)) (.int i)=zT c:=by obtain⟨x,e,e2⟩:=rN (l:=SS ns) (i:=i) h0 (by rw[YH]; exact h1);rw[Y4]at e2;obtain⟨c,hc,rfl⟩:=aaV e2;exact⟨c,Zn hc,by show (gq (SS ns) i).map _=_; rw[e]; rfl⟩
theorem cell_eq {ns:List Int} {k:Int} (h0:0<=k):∃c,0<=c/\∀mu,jF [.lst (ns.map .int),.int k] mu=some (.sh (.int c),mu):=by
 have t:∀mu,tT (aq Cz (aa 1) (eB bz (aj (aa 0) ao))) aY (env0 2 [.lst (ns.map .int),.int k] mu)=some (decide (k<(ns.map PV.int).length),⟨[zL (ns.map .int),zI k],mu⟩):=λmu=>rfl;by_cases h:k<(ns.map PV.int).length
 . obtain⟨c,_,e⟩:=VJ (ns:=ns) h0 (by rw[YH]at h; exact h);exact⟨c%1000000007,ZM _ (by decide),λmu=>bG (U:=⟨[zL (ns.map .int),zI k],mu⟩) (yz ((jW ((t mu).trans (by rw[aaR h]))).trans (fY (mq (gb (l:=.sh (.lst (ns.map .int))) (m:=.sh (.int k)) rfl rfl rfl rfl (λn h=>by cases h) e) rfl rfl rfl (bV (by decide))))))⟩
 . exact⟨0,by decide,λmu=>bG (U:=⟨[zL (ns.map .int),zI k],mu⟩) (aF ((jX ((t mu).trans (by rw[aaQ h]))).trans rfl) rfl)⟩
abbrev LET:Str := "abcdefghijklmnopqrstuvwxyz"
def xX (i:Int):Nat:=97+(i%26).toNat
abbrev one (c:Nat):Str:=⟨#[c]⟩
theorem DX (i:Int):mR (.str LET) (.int (i%26))=zT (one (xX i)):=by
 unfold xX;have h0:=ZM i (b:=26) (by decide);have h1:=ZF i (b:=26) (by decide);generalize i%26=r at h0 h1;obtain⟨n,rfl⟩:=Int.eq_ofNat_of_zero_le h0;have h2:n<26:=by omega
 have:∀n:Nat,n<26->(match mR (.str LET) (.int (n:Int)) with | some (.sh (.str x))=>x.cps.toList==[97+n] | _=>false)=true:=by decide +kernel
 have h3:=this n h2;split at h3
 . rename_i x e;rw[e];have h4:x.cps.toList=[97+n]:=by simpa using h3
   have h5:x=one (97+n):=by
    cases x with | mk cps=>
    show Str.mk cps=Str.mk #[97+n];congr 1;exact Array.toList_inj.mp h4
   rw[h5];rfl
 . cases h3
theorem Jl:∀cs:List Nat,Txt.join "" (cs.map one)=⟨cs.toArray⟩:=by
 intro cs;unfold Txt.join;rw[StrLaws.glued_eq_join];induction cs with
 | nil=>rfl
 | cons c cs ih=>
  cases cs with
  | nil=>rfl
  | cons d cs=>
   show (one c ++ "" ++ Str.join "" ((d::cs).map one):Str)=_;rw[ih];show Str.mk ((#[c]++#[])++(d::cs).toArray)=_;simp
theorem strs_map:∀xs:List Str,strsOf (SS xs)=some xs
 | []=>rfl
 | x::xs=>by show (strsOf (SS xs)).map _=_;rw[strs_map xs];rfl
theorem DY:∀cs:List Nat,((cs.map one).map (·.length)).sum=cs.length
 | []=>rfl
 | c::cs=>by rw[YW,YW,List.sum_cons,DY cs,Yy]; show 1+_=_; omega
theorem GP {fa:EF} {U U1:Ev} {m:Lc} {cs:List Nat} (h:fa U=some (m,U1)) (hm:m.pv=.lst (SS (cs.map one))) (hl:cs.length<=100):mj (abP "") (aj fa ao) U=some (.sh (.str ⟨cs.toArray⟩),U1):=by rw[<-Jl];refine N6 rfl (aC h rfl) rfl hm (strs_map _) ?_;rw[DY,YH,show ("" : Str).length=0 from rfl];omega
theorem letters {elt:EF} {c k:Int} {mu:Mu} {g:Nat->Nat} (hk0:0<=k) (hk:k<100) (he:∀i:Nat,(i:Int)<k->elt ⟨[zI (0+i),zT LET,zI c],mu⟩=some (.sh (.str (one (g i))),⟨[zI (0+i),zT LET,zI c],mu⟩)):
 cz (aA 0) bQ elt (gH 0 k.toNat) ⟨[none,zT LET,zI c],mu⟩ []=some (SS (((List.range k.toNat).map g).map one),mu):=by
 have:=Kw (b:=aA 0) (te:=elt) (mu:=mu) (λU=>∃o,U=⟨[o,zT LET,zI c],mu⟩) (λU ⟨o,e⟩=>by rw[e]) (λp=>match p with | .int i=>.str (one (g i.toNat)) | _=>.non)
  (xs:=gH 0 k.toNat) (U:=⟨[none,zT LET,zI c],mu⟩) ⟨none,rfl⟩ (by rw[qJ]; omega) (by
    rintro x hx U ⟨o,rfl⟩;obtain⟨i,hi,rfl⟩:=Ry hx;refine⟨_,rfl,_,_,he i (by omega),?_,_,rfl⟩;show PV.str _=PV.str (one (g (0+(i:Int)).toNat));rw[Int.zero_add,aaG]) (by
    rintro x hx U U1 ⟨o,rfl⟩ e;cases e;exact⟨_,rfl⟩)
 rw[this];congr 2;unfold gH SS;rw[ZL,ZL,ZL];refine List.map_congr_left λi _=>?_;show PV.str (one (g (0+(i:Int)).toNat))=PV.str (one (g i));rw[Int.zero_add,aaG]
theorem WR {c:Int}:∃m:Int,0<m/\m<=8/\mR (.lst [.int 1,.int 2,.int 3,.int 5,.int 6,.int 7,.int 8]) (.int (c%7))=zI m:=by
 have h0:=ZM c (b:=7) (by decide);have h1:=ZF c (b:=7) (by decide);generalize c%7=r at h0 h1;rcases (by omega:r=0\/r=1\/r=2\/r=3\/r=4\/r=5\/r=6) with rfl | rfl | rfl | rfl | rfl | rfl | rfl
 . exact⟨1,by decide,by decide,rfl⟩
 . exact⟨2,by decide,by decide,rfl⟩
 . exact⟨3,by decide,by decide,rfl⟩
 . exact⟨5,by decide,by decide,rfl⟩
 . exact⟨6,by decide,by decide,rfl⟩
 . exact⟨7,by decide,by decide,rfl⟩
 . exact⟨8,by decide,by decide,rfl⟩
theorem Lj {xs:List Str} {x:Str}:SS xs++[.str x]=SS (xs++[x]):=by show _=List.map PV.str (xs++[x]); rw[YZ]; rfl
abbrev gZ (c n:Int) (l3 o4 o5 o6 o7 o8:Option Lc) (mu:Mu):Ev:=⟨[zI c,zI n,zT LET,l3,o4,o5,o6,o7,o8],mu⟩
def cO (d:Int):List Nat:=(List.range 10).map λi:Nat=>xX (d/2+3*(0+i))
def Lk (d:Int) (k:Nat):Str:=ji ⟨(cO d).toArray⟩ (some ((0+k:Int)%5)) (some ((0+k:Int)%5+1+(0+k:Int)/5))
def nmE (l:List Nat) (d:Int) (a:Nat) (k:Nat):Str:=⟨(l.set a (xX (d/112+(0+k)))).toArray⟩
theorem RT {l:List Nat} {a c:Nat}:(SS (l.map one)).set a (.str (one c))=SS ((l.set a c).map one):=by show (List.map PV.str (l.map one)).set a _=List.map PV.str (List.map one (l.set a c));rw[List.map_set,List.map_set]
theorem RV {d:Int} (k:Nat):(Lk d k).length<=100:=by
 have h:(cO d).length=10:=by unfold cO; simp
 unfold Lk ji Str.length;simp only[YM,aac,aal];omega
theorem Oo {c n:Int} (hn0:0<=n) (hn:n<=30):∃xs:List Str,xs.length=n.toNat/\(∀x∈xs,x.length<=100)/\∀mu,ph [.int c,.int n] mu=some (.own (.lst (SS xs)),mu):=by
 obtain⟨d,hcc⟩:∃d,c=d:=⟨c,rfl⟩;have head:∀(mu:Mu) (g:SF) R,g (gZ d n (zO (SS [])) none none none none none mu)=R->(aD (aP 2 (abP "abcdefghijklmnopqrstuvwxyz")) (aD (aP 3 (cM ao)) g)) (env0 9 [.int c,.int n] mu)=R:=λmu g R hg=>by subst hcc;exact aF rfl (aF rfl hg)
 have t1:∀mu:Mu,tT (aq eqP (aq aO (aa 0) (abO 2)) (abO 1)) aY (gZ d n (zO (SS [])) none none none none none mu)=some (d%2==1,gZ d n (zO (SS [])) none none none none none mu):=λmu=>rfl;have rg:∀(mu:Mu) l3 o4 o6 o7 o8,f9 (aj (aa 1) ao) (gZ d n l3 o4 none o6 o7 o8 mu)=some (gH 0 n.toNat,gZ d n l3 o4 none o6 o7 o8 mu):=λmu l3 o4 o6 o7 o8=>jC (l:=.sh (.int n)) rfl rfl (by omega) (by omega);cases h2:(d%2==1) with
 | true=>
  refine⟨(List.range n.toNat).map (Lk d),by simp,λx hx=>?_,λmu=>?_⟩
  . obtain⟨k,_,rfl⟩:=Za.mp hx;exact RV k
  have ec:=letters (elt:=aR (aa 1) (aq aO (aq bf (aq aV (aa 2) (abO 2)) (aq eY (abO 3) (aa 0))) (abO 26))) (c:=d) (k:=10) (mu:=mu) (g:=λi:Nat=>xX (d/2+3*(0+i))) (by decide) (by decide) (λi _=>gb (q:=.int ((d/2+3*(0+i))%26)) rfl rfl (aN (aN (aN rfl rfl (fD (by decide) (by decide))) (aN rfl rfl (CV (by decide) (by decide))) rfl) rfl (bV (by decide))) rfl (λn h=>by cases h) (DX (d/2+3*(0+i))));obtain⟨t,rt,lt⟩:∃t:Str,t=⟨(cO d).toArray⟩/\t.length<=100000:=⟨_,rfl,by show (cO d).toArray.size<=_; unfold cO; simp⟩;have ej:∀(fa:EF) (U U1:Ev) (m:Lc),fa U=some (m,U1)->m.pv=.lst (SS ((cO d).map one))->mj (abP "") (aj fa ao) U=some (.sh (.str t),U1):=λfa U U1 m h hm=>by rw[rt]; exact GP h hm (by unfold cO; simp)
  have hnm:∀j:Nat,ji t (some ((0+j:Int)%5)) (some ((0+j:Int)%5+1+(0+j:Int)/5))=Lk d j:=λj=>by rw[rt]; rfl
  clear rt;have s4:aP 4 (mj (abP "") (aj (dF (f9 (aj (abO 10) ao)) 1 [2,0] (aA 0) bQ (aR (aa 1) (aq aO (aq bf (aq aV (aa 2) (abO 2)) (aq eY (abO 3) (aa 0))) (abO 26)))) ao)) (gZ d n (zO (SS [])) none none none none none mu)=some (.nx (gZ d n (zO (SS [])) (zT t) none none none none mu)):=
   bD (ej _ _ (gZ d n (zO (SS [])) none none none none none mu) (.own (.lst (SS ((cO d).map one)))) ((fM (U1:=gZ d n (zO (SS [])) none none none none none mu) (jC (l:=.sh (.int 10)) (n:=10) rfl rfl (by decide) (by decide)) ec).trans rfl) rfl) rfl rfl
  obtain⟨U',ef,xs,o5,rfl,hx⟩:=Gn (b:=aA 5) (body:=iK 3 (qt (aa 4) (cA (aq aO (aa 5) (abO 5))) (cA (aq bf (aq bf (aq aO (aa 5) (abO 5)) (abO 1)) (aq aV (aa 5) (abO 5)))))) (xs:=gH 0 n.toNat) (U:=gZ d n (zO (SS [])) (zT t) none none none none mu)
   (λi U=>∃xs o5,U=gZ d n (zO (SS xs)) (zT t) o5 none none none mu/\xs=(List.range i).map (Lk d)) ⟨[],none,rfl,rfl⟩ (by
     rintro i x U hx ⟨xs,o5,rfl,hl⟩;have hi:i<n.toNat:=by have:=(YL.mp hx).1; rw[qJ]at this; exact this
     obtain⟨j,rfl,rfl⟩:∃j:Nat,j=i/\x=.int (0+(j:Int)):=⟨i,rfl,by unfold gH at hx; rw[Y4,List.getElem?_range hi]at hx; cases hx; rfl⟩;have hlx:xs.length=j:=by rw[hl]; simp
     have es:qt (aa 4) (cA (aq aO (aa 5) (abO 5))) (cA (aq bf (aq bf (aq aO (aa 5) (abO 5)) (abO 1)) (aq aV (aa 5) (abO 5)))) (gZ d n (zO (SS xs)) (zT t) (zI (0+j)) none none none mu)=some (.sh (.str (ji t (some ((0+j:Int)%5)) (some ((0+j:Int)%5+1+(0+j:Int)/5)))),gZ d n (zO (SS xs)) (zT t) (zI (0+j)) none none none mu):=by show (if t.length<=100000 then _ else none)=_;rw[aaN lt];rfl
     refine⟨_,rfl,gZ d n (some (.own (.lst (SS (xs++[ji t (some ((0+j:Int)%5)) (some ((0+j:Int)%5+1+(0+j:Int)/5))]))))) (zT t) (zI (0+j)) none none none mu,.inl ((mU rfl es rfl rfl (by rw[YH]; omega) rfl).trans ?_),_,_,rfl,by rw[hnm,hl,List.range_succ,YZ]; rfl⟩;rw[<-Lj];rfl)
  rw[qJ]at hx;subst hx;exact bG (U:=gZ d n none (zT t) o5 none none none mu) (head mu _ _ (yz ((jW ((t1 mu).trans (by rw[h2]))).trans (aF s4 (aF (dN (rg mu _ _ _ _ _) ef) rfl)))))
 | false=>
  obtain⟨m,hm0,hm8,em⟩:=WR (c:=d/2);have ha0:=ZM (d/14) (b:=m) (by omega);have ha1:=ZF (d/14) (b:=m) hm0;refine⟨(List.range n.toNat).map (nmE ((List.range m.toNat).map λi:Nat=>xX (d/((0+i:Int)+1)+(0+i)*(0+i))) d (d/14%m).toNat),by simp,λx hx=>?_,λmu=>?_⟩
  . obtain⟨k,_,rfl⟩:=Za.mp hx;unfold nmE Str.length;simp;omega
  have s6:aP 6 (aR (cM (aj (abO 1) (aj (abO 2) (aj (abO 3) (aj (abO 5) (aj (abO 6) (aj (abO 7) (aj (abO 8) ao)))))))) (aq aO (aq aV (aa 0) (abO 2)) (abO 7))) (gZ d n (zO (SS [])) none none none none none mu)=some (.nx (gZ d n (zO (SS [])) none none (zI m) none none mu)):=
   bD (gb (l:=.own (.lst [.int 1,.int 2,.int 3,.int 5,.int 6,.int 7,.int 8])) (q:=.int (d/2%7)) rfl rfl rfl rfl (λn h=>by cases h) em) rfl rfl
  have s7:aP 7 (aq aO (aq aV (aa 0) (abO 14)) (aa 6)) (gZ d n (zO (SS [])) none none (zI m) none none mu)=some (.nx (gZ d n (zO (SS [])) none none (zI m) (zI (d/14%m)) none mu)):=
   bD (mq rfl rfl rfl rfl (bV hm0)) rfl rfl
  generalize d/14%m=at_ at s7 ha0 ha1;have ec0:=letters (elt:=aR (aa 1) (aq aO (aq bf (aq aV (aa 2) (aq bf (aa 0) (abO 1))) (aq eY (aa 0) (aa 0))) (abO 26))) (c:=d) (k:=m) (mu:=mu) (g:=λi:Nat=>xX (d/((0+i:Int)+1)+(0+i)*(0+i))) (by omega) (by omega) (λi hi=>gb (q:=.int ((d/((0+i:Int)+1)+(0+i)*(0+i))%26)) rfl rfl (aN (aN (aN rfl rfl (fD (by omega) (by omega))) (aN rfl rfl (CV (by omega) (by omega))) rfl) rfl (bV (by decide))) rfl (λn h=>by cases h) (DX (d/((0+i:Int)+1)+(0+i)*(0+i))));obtain⟨l,rl⟩:∃l,l=(List.range m.toNat).map λi:Nat=>xX (d/((0+i:Int)+1)+(0+i)*(0+i)):=⟨_,rfl⟩;rw[<-rl]at ec0;have l1:l.length=m.toNat:=by rw[rl]; simp
  obtain⟨ps,hps⟩:∃ps,ps=SS (l.map one):=⟨_,rfl⟩;have ec:=ec0;rw[<-hps]at ec;have lps:ps.length=m.toNat:=by rw[hps,YH,YH,l1]
  obtain⟨U',ef,xs,o5,o8,rfl,hx⟩:=Gn (b:=aA 5) (body:=aD (aP 8 (dF (f9 (aj (aa 6) ao)) 1 [2,0] (aA 0) bQ (aR (aa 1) (aq aO (aq bf (aq aV (aa 2) (aq bf (aa 0) (abO 1))) (aq eY (aa 0) (aa 0))) (abO 26)))))
   (aD (uO 8 (aa 7) (aR (aa 2) (aq aO (aq bf (aq aV (aa 0) (abO 112)) (aa 5)) (abO 26))))
   (iK 3 (mj (abP "") (aj (aa 8) ao))))) (xs:=gH 0 n.toNat) (U:=gZ d n (zO (SS [])) none none (zI m) (zI at_) none mu)
   (λi U=>∃xs o5 o8,U=gZ d n (zO (SS xs)) none o5 (zI m) (zI at_) o8 mu/\xs=(List.range i).map (nmE l d at_.toNat)) ⟨[],none,none,rfl,rfl⟩ (by
     rintro i x U hx ⟨xs,o5,o8,rfl,hl⟩;have hi:i<n.toNat:=by have:=(YL.mp hx).1; rw[qJ]at this; exact this
     obtain⟨j,rfl,rfl⟩:∃j:Nat,j=i/\x=.int (0+(j:Int)):=⟨i,rfl,by unfold gH at hx; rw[Y4,List.getElem?_range hi]at hx; cases hx; rfl⟩;have hlx:xs.length=j:=by rw[hl]; simp
     obtain⟨ch,hch,e⟩:∃ch,ch=xX (d/112+(0+j))/\mR (.str LET) (.int ((d/112+(0+j))%26))=zS (.str ⟨#[ch]⟩):=⟨_,rfl,DX _⟩;obtain⟨t,rt⟩:∃t:Str,t=nmE l d at_.toNat j:=⟨_,rfl⟩;have ej:∀(fa:EF) (U U1:Ev) (m:Lc),fa U=some (m,U1)->m.pv=.lst (ps.set at_.toNat (.str ⟨#[ch]⟩))->mj (abP "") (aj fa ao) U=some (.sh (.str t),U1):=λfa U U1 m h hm=>by rw[rt];rw[hps,RT,hch]at hm;exact GP h hm (by rw[aad,l1]; omega)
     have g1:aP 8 (dF (f9 (aj (aa 6) ao)) 1 [2,0] (aA 0) bQ (aR (aa 1) (aq aO (aq bf (aq aV (aa 2) (aq bf (aa 0) (abO 1))) (aq eY (aa 0) (aa 0))) (abO 26)))) (gZ d n (zO (SS xs)) none (zI (0+j)) (zI m) (zI at_) o8 mu)=some (.nx (gZ d n (zO (SS xs)) none (zI (0+j)) (zI m) (zI at_) (zO ps) mu)):=
      bD ((fM (U1:=gZ d n (zO (SS xs)) none (zI (0+j)) (zI m) (zI at_) o8 mu) (jC (l:=.sh (.int m)) (n:=m) rfl rfl (by omega) (by omega)) ec).trans rfl) rfl rfl
     have g2:uO 8 (aa 7) (aR (aa 2) (aq aO (aq bf (aq aV (aa 0) (abO 112)) (aa 5)) (abO 26))) (gZ d n (zO (SS xs)) none (zI (0+j)) (zI m) (zI at_) (zO ps) mu)=some (.nx (gZ d n (zO (SS xs)) none (zI (0+j)) (zI m) (zI at_) (zO (ps.set at_.toNat (.str ⟨#[ch]⟩))) mu)):=by refine RG (k:=at_) (j:=at_.toNat) (gb (q:=.int ((d/112+(0+j))%26)) rfl rfl rfl rfl (λn h=>by cases h) e) rfl rfl rfl rfl rfl ?_ rfl;unfold oH;rw[aaN ha0,aaN (by omega)]
     refine⟨_,rfl,gZ d n (zO (SS (xs++[t]))) none (zI (0+j)) (zI m) (zI at_) (zL (ps.set at_.toNat (.str ⟨#[ch]⟩))) mu,.inl (aF g1 (aF g2 ((mU rfl (ej (aa 8) _ (gZ d n (zO (SS xs)) none (zI (0+j)) (zI m) (zI at_) (zL (ps.set at_.toNat (.str ⟨#[ch]⟩))) mu) (.sh (.lst (ps.set at_.toNat (.str ⟨#[ch]⟩)))) rfl rfl) rfl rfl (by rw[YH]; omega) rfl).trans ?_))),_,_,_,rfl,by rw[rt,hl,List.range_succ,YZ]; rfl⟩;rw[<-Lj];rfl)
  rw[qJ]at hx;subst hx;rw[rl]at *;exact bG (U:=gZ d n none none o5 (zI m) (zI at_) o8 mu) (head mu _ _ (aF ((jX ((t1 mu).trans (by rw[h2]))).trans rfl) (aF s6 (aF s7 (aF (dN (rg mu _ _ _ _ _) ef) rfl)))))
theorem pC (xs:List Str):(SS xs).length=xs.length:=YH _
theorem qT {i:Nat} {U:Ev} {xs:List Str} (hv:aa i U=some (.sh (.lst (SS xs)),U)):tT (aq gJ (eB bz (aj (aa i) ao)) (abO 0)) aY U=some (!xs.isEmpty,U):=by
 refine jY (l:=.sh (.bl (!xs.isEmpty))) (mq (p:=.int ((SS xs).length:Nat)) (q:=.int 0) (U1:=U) (l:=.sh (.int ((SS xs).length:Nat))) (m:=.sh (.int 0)) (lR (ls:=[.sh (.lst (SS xs))]) (ps:=[.lst (SS xs)]) (U1:=U) (aC hv rfl) rfl rfl) rfl rfl rfl ?_) rfl;show some (Lc.sh (.bl (decide (((SS xs).length:Int)>0))))=_;rw[pC];cases xs with
 | nil=>rfl
 | cons x xs=>simp
theorem RW {i:Nat} {U:Ev} {xs:List Str} (hv:aa i U=some (.sh (.lst (SS xs)),U)):tT (aq eqP (eB bz (aj (aa i) ao)) (abO 0)) aY U=some (xs.isEmpty,U):=by
 refine jY (l:=.sh (.bl xs.isEmpty)) (mq (p:=.int ((SS xs).length:Nat)) (q:=.int 0) (U1:=U) (l:=.sh (.int ((SS xs).length:Nat))) (m:=.sh (.int 0)) (lR (ls:=[.sh (.lst (SS xs))]) (ps:=[.lst (SS xs)]) (U1:=U) (aC hv rfl) rfl rfl) rfl rfl rfl ?_) rfl;show some (Lc.sh (.bl (((SS xs).length:Int)==0)))=_;rw[pC];cases xs with
 | nil=>rfl
 | cons x xs=>simp; omega
theorem pick {xs:List Str} (h:xs≠[]) (a d:Int) (hd:0<d) (hd2:d<1073741824):∃x∈xs,∀(i:Nat) (fa:EF) (U:Ev),aa i U=some (.sh (.lst (SS xs)),U)->fa U=some (.sh (.int a),U)->aR (aa i) (aq aO (aq aV fa (abO d)) (eB bz (aj (aa i) ao))) U=some (.sh (.str x),U):=by
 have hl:(0:Int)<xs.length:=by have:=List.length_pos_iff.mpr h; omega
 obtain⟨x,hx,e⟩:=Li (ns:=xs) (i:=a/d%xs.length) (ZM _ (by omega)) (ZF _ hl);refine⟨x,hx,λi fa U hv ha=>gb (p:=.lst (SS xs)) (q:=.int (a/d%xs.length)) (U1:=U) (U2:=U) (l:=.sh (.lst (SS xs))) (m:=.sh (.int (a/d%xs.length))) hv rfl (aN (U1:=U) (x:=.sh (.int (a/d))) (y:=.sh (.int ((SS xs).length:Nat))) (aN (U1:=U) (x:=.sh (.int a)) (y:=.sh (.int d)) ha rfl (fD hd hd2)) (lR (ls:=[.sh (.lst (SS xs))]) (ps:=[.lst (SS xs)]) (U1:=U) (aC hv rfl) rfl rfl) ?_) rfl (λn h=>by cases h) e⟩;show aO (.int (a/d)) (.int ((SS xs).length:Nat))=_;rw[pC];exact bV hl
abbrev XE (c:Int) (own ls:List Str) (p:PV) (o4 o5 o6 o7:Option Lc) (mu:Mu):Ev:=⟨[zI c,zL (SS own),zL (SS ls),zS p,o4,o5,o6,o7],mu⟩
theorem VL (a:Int):∃s,mR (.str "+-*<=") (.int (a%5))=zT s:=by
 have h0:=ZM a (b:=5) (by decide);have h1:=ZF a (b:=5) (by decide);generalize a%5=r at h0 h1;have h:∀n:Nat,n<5->(match mR (.str "+-*<=") (.int (n:Int)) with | some (.sh (.str _))=>true | _=>false)=true:=by decide +kernel
 have g:=h r.toNat (by omega);rw[Int.toNat_of_nonneg h0]at g;split at g
 . rename_i x e;exact⟨x,e⟩
 . cases g
theorem u5 {xs:List Str} {b:Bool} (h:(!xs.isEmpty&&b)=true):xs≠[]:=by intro e;rw[e]at h;simp at h
theorem RX {c k:Int} {own ls:List Str} {p:PV} (hk0:0<=k) (hk:k<100) (hp:bA p=true):∃q p5 p6 p7,(bA q=true/\iY q<=max (iY p) 4+1)/\∀(mu:Mu) (o5 o6 o7:Option Lc),Vu (XE c own ls p (zI k) o5 o6 o7 mu)=some (.nx (XE c own ls q (zI k) (some p5) (some p6) (some p7) mu)):=by
 let z:Int:=c*(k+2)%2147483647*16807%2147483647;let K:Option Lc:=zI k;let Z:Option Lc:=zI z;have s1:∀(mu:Mu) (o5 o6 o7:Option Lc),aP 5 (aq aO (aq eY (aq aO (aq eY (aa 0) (aq bf (aa 4) (abO 2))) (abO 2147483647)) (abO 16807)) (abO 2147483647)) (XE c own ls p K o5 o6 o7 mu)=some (.nx (XE c own ls p K Z o6 o7 mu)):=λmu o5 o6 o7=>
  bD (l:=.sh (.int z)) (U1:=XE c own ls p K o5 o6 o7 mu) (aN (x:=.sh (.int (c*(k+2)%2147483647*16807))) (aN (x:=.sh (.int (c*(k+2)%2147483647))) (aN (x:=.sh (.int (c*(k+2)))) (aN (x:=.sh (.int c)) (y:=.sh (.int (k+2))) rfl rfl (qH (by omega) (by omega))) rfl (bV (by decide))) rfl (qH (by decide) (by decide))) rfl (bV (by decide))) rfl rfl
 let n0:PV:=.tup [.str "num",.int (z%1000)];have s2:∀(mu:Mu) (o6 o7:Option Lc),aP 6 (aZ (aj (abP "num") (aj (aq aO (aa 5) (abO 1000)) ao))) (XE c own ls p K Z o6 o7 mu)=some (.nx (XE c own ls p K Z (zS n0) o7 mu)):=λmu o6 o7=>rfl;have g3:∃n1,(bA n1=true/\iY n1<=2)/\∀(g:SF) (mu:Mu) (o7:Option Lc),aD (dj (cL (tT (aq gJ (eB bz (aj (aa 1) ao)) (abO 0)) aY) (tT (aq gJ (aq aO (aa 5) (abO 6)) (abO 0)) aY))
  (aP 6 (aZ (aj (abP "box") (aj (aR (aa 1) (aq aO (aq aV (aa 5) (abO 6)) (eB bz (aj (aa 1) ao)))) ao))))
  cN) g (XE c own ls p K Z (zS n0) o7 mu)=g (XE c own ls p K Z (zS n1) o7 mu):=by
  have t:∀(mu:Mu) (o7:Option Lc),cL (tT (aq gJ (eB bz (aj (aa 1) ao)) (abO 0)) aY) (tT (aq gJ (aq aO (aa 5) (abO 6)) (abO 0)) aY) (XE c own ls p K Z (zS n0) o7 mu)=some (!own.isEmpty&&decide (z%6>0),XE c own ls p K Z (zS n0) o7 mu):=λmu o7=>jQ (qT rfl) rfl;cases hb:(!own.isEmpty&&decide (z%6>0)) with
  | false=>exact⟨n0,⟨rfl,YC _⟩,λg mu o7=>fG (t mu o7) hb⟩
  | true=>
   obtain⟨x,_,hx⟩:=pick (u5 hb) z 6 (by decide) (by decide);exact⟨.tup [.str "box",.str x],⟨rfl,YC _⟩,λg mu o7=>Jh (t mu o7) hb (bD (l:=.sh (.tup [.str "box",.str x])) (U1:=XE c own ls p K Z (zS n0) o7 mu) (fJ (ls:=[.sh (.str "box"),.sh (.str x)]) (aC (U1:=XE c own ls p K Z (zS n0) o7 mu) rfl (aC (hx 1 (aa 5) _ rfl rfl) rfl)) rfl rfl) rfl rfl)⟩
 obtain⟨n1,⟨f1,d1⟩,g3⟩:=g3;have g4:∃n2,(bA n2=true/\iY n2<=3)/\∀(g:SF) (mu:Mu) (o7:Option Lc),aD (dj (cL (tT (aq gJ (eB bz (aj (aa 2) ao)) (abO 0)) aY) (tT (aq eqP (aq aO (aa 5) (abO 7)) (abO 5)) aY))
  (aP 6 (aZ (aj (abP "@") (aj (aR (aa 2) (aq aO (aq aV (aa 5) (abO 42)) (eB bz (aj (aa 2) ao)))) (aj (aa 6) ao)))))
  cN) g (XE c own ls p K Z (zS n1) o7 mu)=g (XE c own ls p K Z (zS n2) o7 mu):=by
  have t:∀(mu:Mu) (o7:Option Lc),cL (tT (aq gJ (eB bz (aj (aa 2) ao)) (abO 0)) aY) (tT (aq eqP (aq aO (aa 5) (abO 7)) (abO 5)) aY) (XE c own ls p K Z (zS n1) o7 mu)=some (!ls.isEmpty&&(z%7==5),XE c own ls p K Z (zS n1) o7 mu):=λmu o7=>jQ (qT rfl) rfl;cases hb:(!ls.isEmpty&&(z%7==5)) with
  | false=>exact⟨n1,⟨f1,by omega⟩,λg mu o7=>fG (t mu o7) hb⟩
  | true=>
   obtain⟨x,_,hx⟩:=pick (u5 hb) z 42 (by decide) (by decide);exact⟨.tup [.str "@",.str x,n1],⟨by simp[bA,eZ,f1],by simp only[iY,nD]; omega⟩,λg mu o7=>Jh (t mu o7) hb (bD (l:=.sh (.tup [.str "@",.str x,n1])) (U1:=XE c own ls p K Z (zS n1) o7 mu) (fJ (ls:=[.sh (.str "@"),.sh (.str x),.sh n1]) (aC (U1:=XE c own ls p K Z (zS n1) o7 mu) rfl (aC (hx 2 (aa 5) _ rfl rfl) rfl)) rfl rfl) rfl rfl)⟩
 obtain⟨n2,⟨f2,d2⟩,g4⟩:=g4;obtain⟨s,es⟩:=VL (z/77);let N2:Option Lc:=zS n2;let G:Option Lc:=zT s;have s7:∀(mu:Mu) (o7:Option Lc),aP 7 (aR (abP "+-*<=") (aq aO (aq aV (aa 5) (abO 77)) (abO 5))) (XE c own ls p K Z N2 o7 mu)=some (.nx (XE c own ls p K Z N2 G mu)):=λmu o7=>
  bD (l:=.sh (.str s)) (U1:=XE c own ls p K Z N2 o7 mu) (gb (p:=.str "+-*<=") (q:=.int (z/77%5)) (U1:=XE c own ls p K Z N2 o7 mu) (U2:=XE c own ls p K Z N2 o7 mu) (l:=.sh (.str "+-*<=")) (m:=.sh (.int (z/77%5))) rfl rfl (aN (x:=.sh (.int (z/77))) (aN (x:=.sh (.int z)) rfl rfl (fD (by decide) (by decide))) rfl (bV (by decide))) rfl (λn h=>by cases h) es) rfl rfl
 have g8:∃q,(bA q=true/\iY q<=max (iY p) 4+1)/\∀(mu:Mu),dj (cL (tT (aq gJ (eB bz (aj (aa 2) ao)) (abO 0)) aY) (tT (aq eqP (aq aO (aq aV (aa 5) (abO 5)) (abO 3)) (abO 0)) aY))
  (aP 3 (aZ (aj (abP "@") (aj (aR (aa 2) (aq aO (aq aV (aa 5) (abO 15)) (eB bz (aj (aa 2) ao)))) (aj (aa 3) ao)))))
  (dj (tT (aq eqP (aq aO (aq aV (aa 5) (abO 5)) (abO 3)) (abO 1)) aY)
  (aP 3 (aZ (aj (aa 7) (aj (aa 3) (aj (aa 6) ao)))))
  (aP 3 (aZ (aj (aa 7) (aj (aa 6) (aj (aa 3) ao)))))) (XE c own ls p K Z N2 G mu)=some (.nx (XE c own ls q K Z N2 G mu)):=by
  have t:∀(mu:Mu),cL (tT (aq gJ (eB bz (aj (aa 2) ao)) (abO 0)) aY) (tT (aq eqP (aq aO (aq aV (aa 5) (abO 5)) (abO 3)) (abO 0)) aY) (XE c own ls p K Z N2 G mu)=some (!ls.isEmpty&&(z/5%3==0),XE c own ls p K Z N2 G mu):=λmu=>jQ (qT rfl) rfl;have t2:∀(mu:Mu),tT (aq eqP (aq aO (aq aV (aa 5) (abO 5)) (abO 3)) (abO 1)) aY (XE c own ls p K Z N2 G mu)=some (z/5%3==1,XE c own ls p K Z N2 G mu):=λmu=>rfl;cases hb:(!ls.isEmpty&&(z/5%3==0)) with
  | true=>
   obtain⟨x,_,hx⟩:=pick (u5 hb) z 15 (by decide) (by decide);exact⟨.tup [.str "@",.str x,p],⟨by simp[bA,eZ,hp],by simp only[iY,nD]; omega⟩,λmu=>(jW ((t mu).trans (by rw[hb]))).trans (bD (l:=.sh (.tup [.str "@",.str x,p])) (U1:=XE c own ls p K Z N2 G mu) (fJ (ls:=[.sh (.str "@"),.sh (.str x),.sh p]) (aC (U1:=XE c own ls p K Z N2 G mu) rfl (aC (hx 2 (aa 5) _ rfl rfl) rfl)) rfl rfl) rfl rfl)⟩
  | false=>
   cases hc:(z/5%3==1) with
   | true=>exact⟨.tup [.str s,p,n2],⟨by simp[bA,eZ,hp,f2],by simp only[iY,nD]; omega⟩,λmu=>(jX ((t mu).trans (by rw[hb]))).trans ((jW ((t2 mu).trans (by rw[hc]))).trans rfl)⟩
   | false=>exact⟨.tup [.str s,n2,p],⟨by simp[bA,eZ,hp,f2],by simp only[iY,nD]; omega⟩,λmu=>(jX ((t mu).trans (by rw[hb]))).trans ((jX ((t2 mu).trans (by rw[hc]))).trans rfl)⟩
 obtain⟨q,fq,g8⟩:=g8;exact⟨q,.sh (.int z),.sh n2,.sh (.str s),fq,λmu o5 o6 o7=>aF (s1 mu o5 o6 o7) (aF (s2 mu o6 o7) ((g3 _ mu o7).trans ((g4 _ mu o7).trans (aF (s7 mu o7) (g8 mu)))))⟩
theorem GQ {c:Int} {own ls:List Str}:∀(ks:List Int) (p:PV),(∀k∈ks,0<=k/\k<100)->bA p=true->∃q,(bA q=true/\iY q<=max (iY p) 4+ks.length)/\∀(mu:Mu) (o4 o5 o6 o7:Option Lc),∃p4 p5 p6 p7,cP (aA 4) Vu (ks.map PV.int) (XE c own ls p o4 o5 o6 o7 mu)=some (.nx (XE c own ls q p4 p5 p6 p7 mu))
 | [],p,_,hp=>⟨p,⟨hp,by omega⟩,λmu o4 o5 o6 o7=>⟨o4,o5,o6,o7,rfl⟩⟩
 | k::ks,p,h,hp=>by obtain⟨h0,h1⟩:=h k Yz;obtain⟨q1,p5,p6,p7,⟨f1,d1⟩,e1⟩:=RX (c:=c) (own:=own) (ls:=ls) (p:=p) h0 h1 hp;obtain⟨q,⟨fq,dq⟩,ih⟩:=GQ (c:=c) (own:=own) (ls:=ls) ks q1 (λx hx=>h x (YG _ hx)) f1;refine⟨q,⟨fq,by simp only[Yy]; omega⟩,λmu o4 o5 o6 o7=>?_⟩;obtain⟨r4,r5,r6,r7,e2⟩:=ih mu (zI k) (some p5) (some p6) (some p7);exact⟨r4,r5,r6,r7,cF (U1:=XE c own ls p (zI k) o5 o6 o7 mu) rfl (e1 mu o5 o6 o7) e2⟩
theorem eight (c:Int):∃m:Nat,m<=4/\mR (.lst [.int 0,.int 0,.int 1,.int 1,.int 2,.int 2,.int 3,.int 4]) (.int (c%8))=zI (m:Nat):=by
 have h0:=ZM c (b:=8) (by decide);have h1:=ZF c (b:=8) (by decide);generalize c%8=r at h0 h1;rcases (by omega:r=0\/r=1\/r=2\/r=3\/r=4\/r=5\/r=6\/r=7) with rfl | rfl | rfl | rfl | rfl | rfl | rfl | rfl
 . exact⟨0,by decide,rfl⟩
 . exact⟨0,by decide,rfl⟩
 . exact⟨1,by decide,rfl⟩
 . exact⟨1,by decide,rfl⟩
 . exact⟨2,by decide,rfl⟩
 . exact⟨2,by decide,rfl⟩
 . exact⟨3,by decide,rfl⟩
 . exact⟨4,by decide,rfl⟩
theorem wy (n:Nat):gH 0 n=((List.range n).map λi:Nat=>(0+(i:Int))).map PV.int:=by unfold gH;rw[ZL];rfl
theorem yN (c:Int) (own ls:List Str):∃p,fl p/\∀mu,bZ [.int c,.lst (SS own),.lst (SS ls)] mu=some (.sh p,mu):=by
 let n0:PV:=.tup [.str "num",.int (c*7919%10 ^ 12)];let E0:Mu->Ev:=λmu=>⟨[zI c,zL (SS own),zL (SS ls),none,none,none,none,none],mu⟩;have s1:∀mu,aP 3 (aZ (aj (abP "num") (aj (aq aO (aq eY (aa 0) (abO 7919)) (aq Nz (abO 10) (abO 12))) ao))) (E0 mu)=some (.nx (XE c own ls n0 none none none none mu)):=λmu=>
  bD (l:=.sh n0) (U1:=E0 mu) (fJ (ls:=[.sh (.str "num"),.sh (.int (c*7919%10 ^ 12))]) (aC (U1:=E0 mu) rfl (aC (U1:=E0 mu) (aN (x:=.sh (.int (c*7919))) (y:=.sh (.int (10 ^ 12))) (aN (x:=.sh (.int c)) rfl rfl (qH (by decide) (by decide))) rfl (bV (by decide))) rfl)) rfl rfl) rfl rfl
 have g2:∃n1,(bA n1=true/\iY n1<=2)/\∀(g:SF) (mu:Mu),aD (dj (cL (tT (aq gJ (eB bz (aj (aa 1) ao)) (abO 0)) aY) (tT (aq gJ (aq aO (aa 0) (abO 5)) (abO 0)) aY))
  (aP 3 (aZ (aj (abP "box") (aj (aR (aa 1) (aq aO (aq aV (aa 0) (abO 5)) (eB bz (aj (aa 1) ao)))) ao))))
  cN) g (XE c own ls n0 none none none none mu)=g (XE c own ls n1 none none none none mu):=by
  have t:∀(mu:Mu),cL (tT (aq gJ (eB bz (aj (aa 1) ao)) (abO 0)) aY) (tT (aq gJ (aq aO (aa 0) (abO 5)) (abO 0)) aY) (XE c own ls n0 none none none none mu)=some (!own.isEmpty&&decide (c%5>0),XE c own ls n0 none none none none mu):=λmu=>jQ (qT rfl) rfl;cases hb:(!own.isEmpty&&decide (c%5>0)) with
  | false=>exact⟨n0,⟨rfl,YC _⟩,λg mu=>fG (t mu) hb⟩
  | true=>
   obtain⟨x,_,hx⟩:=pick (u5 hb) c 5 (by decide) (by decide);exact⟨.tup [.str "box",.str x],⟨rfl,YC _⟩,λg mu=>Jh (t mu) hb (bD (l:=.sh (.tup [.str "box",.str x])) (U1:=XE c own ls n0 none none none none mu) (fJ (ls:=[.sh (.str "box"),.sh (.str x)]) (aC (U1:=XE c own ls n0 none none none none mu) rfl (aC (hx 1 (aa 0) _ rfl rfl) rfl)) rfl rfl) rfl rfl)⟩
 obtain⟨n1,⟨f1,d1⟩,g2⟩:=g2;obtain⟨m,hm,em⟩:=eight (c/60);obtain⟨q,⟨fq,dq⟩,e3⟩:=GQ (c:=c) (own:=own) (ls:=ls) ((List.range m).map λi:Nat=>(0+(i:Int))) n1 (λk hk=>by obtain⟨i,hi,rfl⟩:=Za.mp hk;have:=List.mem_range.mp hi;omega) f1
 rw[YH,ZK]at dq;refine⟨q,⟨fq,by omega⟩,λmu=>?_⟩;obtain⟨p4,p5,p6,p7,e3⟩:=e3 mu none none none none;refine bG (U:=⟨[zI c,zL (SS own),zL (SS ls),none,p4,p5,p6,p7],mu⟩) (aF (s1 mu) ((g2 _ mu).trans (aF (U':=XE c own ls q p4 p5 p6 p7 mu) (dN (xs:=gH 0 m) (U1:=XE c own ls n1 none none none none mu) ?_ (by rw[wy]; exact e3)) rfl)));exact jC (U1:=XE c own ls n1 none none none none mu) (l:=.sh (.int (m:Nat))) (n:=(m:Nat)) (aC (gb (p:=.lst [.int 0,.int 0,.int 1,.int 1,.int 2,.int 2,.int 3,.int 4]) (q:=.int (c/60%8)) (l:=.own (.lst [.int 0,.int 0,.int 1,.int 1,.int 2,.int 2,.int 3,.int 4])) rfl rfl rfl rfl (λn h=>by cases h) em) rfl) rfl (by omega) (by omega)
inductive Dr where
 | row (r:Row)
 | wh (e:PV)
 | iff (e:PV)
def Dr.pv:Dr->Nat->PV
 | .row r,_=>r.pv
 | .wh e,n=>.tup [.str "while",e,.ptr n]
 | .iff e,n=>.tup [.str "if",e,.ptr n,.ptr (n+1)]
def Dr.cl:Dr->Mu
 | .row _=>[]
 | .wh _=>[some (.lst [])]
 | .iff _=>[some (.lst []),some (.lst [])]
def Row.low:Row->Prop
 | .leaf w ps=>(Row.leaf w ps).ok
 | .call b n as=>(Row.call b n as).ok
 | _=>False
def Dr.ok:Dr->Prop
 | .row r=>r.low
 | .wh e=>fl e
 | .iff e=>fl e
theorem RZ {i:Nat} {U:Ev} {ps:List PV} (hv:aa i U=some (.sh (.lst ps),U)):tT (aq gJ (eB bz (aj (aa i) ao)) (abO 0)) aY U=some (!ps.isEmpty,U):=by
 refine jY (l:=.sh (.bl (!ps.isEmpty))) (mq (p:=.int (ps.length:Nat)) (q:=.int 0) (U1:=U) (l:=.sh (.int (ps.length:Nat))) (m:=.sh (.int 0)) (lR (ls:=[.sh (.lst ps)]) (ps:=[.lst ps]) (U1:=U) (aC hv rfl) rfl rfl) rfl rfl rfl ?_) rfl;show some (Lc.sh (.bl (decide ((ps.length:Int)>0))))=_;cases ps with
 | nil=>rfl
 | cons x xs=>simp
theorem WT {ps:List PV} (h:ps≠[]) (a d:Int) (hd:0<d) (hd2:d<1073741824):∃x∈ps,∀(i:Nat) (fa:EF) (U:Ev),aa i U=some (.sh (.lst ps),U)->fa U=some (.sh (.int a),U)->aR (aa i) (aq aO (aq aV fa (abO d)) (eB bz (aj (aa i) ao))) U=some (.sh x,U):=by
 have hl:(0:Int)<ps.length:=by have:=List.length_pos_iff.mpr h; omega
 obtain⟨x,e,e2⟩:=rN (l:=ps) (i:=a/d%ps.length) (ZM _ (by omega)) (ZF _ hl);refine⟨x,Zn e2,λi fa U hv ha=>gb (p:=.lst ps) (q:=.int (a/d%ps.length)) (U1:=U) (U2:=U) (l:=.sh (.lst ps)) (m:=.sh (.int (a/d%ps.length))) hv rfl (aN (U1:=U) (x:=.sh (.int (a/d))) (y:=.sh (.int (ps.length:Nat))) (aN (U1:=U) (x:=.sh (.int a)) (y:=.sh (.int d)) ha rfl (fD hd hd2)) (lR (ls:=[.sh (.lst ps)]) (ps:=[.lst ps]) (U1:=U) (aC hv rfl) rfl rfl) (bV hl)) rfl (λn h=>by cases h) ?_⟩;show (gq ps (a/d%ps.length)).map _=_;rw[e];rfl
abbrev Hd:=List (Str×List Str)
abbrev fQ (hs:Hd):List PV:=hs.map λh=>.tup [.str h.1,.lst (SS h.2)]
abbrev RE (c:Int) (own ls:List Str) (hs:Hd) (ws:List Str) (o5 o6 o7 o8 o9 o10 o11:Option Lc) (mu:Mu):Ev:=⟨[zI c,zL (SS own),zL (SS ls),zL (fQ hs),zL (SS ws),o5,o6,o7,o8,o9,o10,o11],mu⟩
abbrev Yk:EF:=bh bZ (aj (aq aO (aq eY (aa 1) (abO 40692)) (aq Ny (abO 2147483399) (aa 0))) (aj (aa 2) (aj (aa 3) ao)))
theorem GR (c:Int) (own ls:List Str):∀(ks:List Int),(∀k∈ks,0<=k/\k<100)->∃as:List PV,qQ as/\as.length=ks.length/\∀(mu:Mu) (o:Option Lc) (acc:List PV),acc.length+ks.length<=1000->
 cz (aA 0) bQ Yk (ks.map PV.int) ⟨[o,zI c,zL (SS own),zL (SS ls)],mu⟩ acc=some (acc++as,mu)
 | [],_=>⟨[],oA,rfl,λmu o acc _=>by simp[cz]⟩
 | k::ks,h=>by obtain⟨h0,h1⟩:=h k Yz;obtain⟨p,fp,ep⟩:=yN (c*40692%(2147483399-k)) own ls;obtain⟨as,fa,la,ih⟩:=GR c own ls ks λx hx=>h x (YG _ hx);refine⟨p::as,gm fp fa,by simp[la],λmu o acc hl=>?_⟩;simp only[Yy]at hl;let E:Ev:=⟨[zI k,zI c,zL (SS own),zL (SS ls)],mu⟩;refine fu (U1:=E) (U2:=E) (l:=.sh p) rfl (bH (ls:=[.sh (.int (c*40692%(2147483399-k))),.sh (.lst (SS own)),.sh (.lst (SS ls))]) (ps:=[.int (c*40692%(2147483399-k)),.lst (SS own),.lst (SS ls)]) (U1:=E) (aC (U1:=E) (aN (x:=.sh (.int (c*40692))) (y:=.sh (.int (2147483399-k))) (aN (x:=.sh (.int c)) rfl rfl (qH (by decide) (by decide))) rfl (bV (by omega))) rfl) rfl rfl rfl (ep mu)) (by omega) ((ih mu _ (acc++[p]) (by rw[YJ]; simp only[Yy,YK]; omega)).trans ?_);simp
theorem Oq {ps:List PV} {b:Bool} (h:(b&&!ps.isEmpty)=true):ps≠[]:=by intro e;rw[e]at h;simp at h
theorem Ed {xs:List Str} {b:Bool} (h:(b&&!xs.isEmpty)=true):xs≠[]:=by intro e;rw[e]at h;simp at h
theorem Ln:Plain "put" := ⟨by decide +kernel,by decide +kernel,by decide +kernel⟩
theorem Lp:Plain "out" := ⟨by decide +kernel,by decide +kernel,by decide +kernel⟩
theorem Lq:Plain "set" := ⟨by decide +kernel,by decide +kernel,by decide +kernel⟩
theorem VM (c:Int) (own ls:List Str) (hs:Hd) (ws:List Str) (hh:∀h∈hs,h.1.length<=1000/\h.2.length<=50):∃d:Dr,d.ok/\∀mu,fU [.int c,.lst (SS own),.lst (SS ls),.lst (fQ hs),.lst (SS ws)] mu=some (.sh (d.pv mu.length),mu++d.cl):=by
 obtain⟨p1,f1,e1⟩:=yN (c*48271%2147483647) own ls;obtain⟨p2,f2,e2⟩:=yN (c*69621%2147483647) own ls;let kd:Int:=c/8%9;let P1:Option Lc:=zS p1;let P2:Option Lc:=zS p2;let KD:Option Lc:=zI kd;let E0:Mu->Ev:=λmu=>RE c own ls hs ws none none none none none none none mu;let E1':Mu->Ev:=λmu=>RE c own ls hs ws P1 none none none none none none mu;let E2:Mu->Ev:=λmu=>RE c own ls hs ws P1 P2 none none none none none mu;let E3:Mu->Ev:=λmu=>RE c own ls hs ws P1 P2 KD none none none none mu;have s5:∀mu,aP 5 (bh bZ (aj (aq aO (aq eY (aa 0) (abO 48271)) (abO 2147483647)) (aj (aa 1) (aj (aa 2) ao)))) (E0 mu)=some (.nx (E1' mu)):=λmu=>
  bD (l:=.sh p1) (U1:=E0 mu) (bH (ls:=[.sh (.int (c*48271%2147483647)),.sh (.lst (SS own)),.sh (.lst (SS ls))]) (ps:=[.int (c*48271%2147483647),.lst (SS own),.lst (SS ls)]) (U1:=E0 mu) (aC (U1:=E0 mu) (aN (x:=.sh (.int (c*48271))) (aN (x:=.sh (.int c)) rfl rfl (qH (by decide) (by decide))) rfl (bV (by decide))) rfl) rfl rfl rfl (e1 mu)) rfl rfl
 have s6:∀mu,aP 6 (bh bZ (aj (aq aO (aq eY (aa 0) (abO 69621)) (abO 2147483647)) (aj (aa 1) (aj (aa 2) ao)))) (E1' mu)=some (.nx (E2 mu)):=λmu=>
  bD (l:=.sh p2) (U1:=E1' mu) (bH (ls:=[.sh (.int (c*69621%2147483647)),.sh (.lst (SS own)),.sh (.lst (SS ls))]) (ps:=[.int (c*69621%2147483647),.lst (SS own),.lst (SS ls)]) (U1:=E1' mu) (aC (U1:=E1' mu) (aN (x:=.sh (.int (c*69621))) (aN (x:=.sh (.int c)) rfl rfl (qH (by decide) (by decide))) rfl (bV (by decide))) rfl) rfl rfl rfl (e2 mu)) rfl rfl
 have s7:∀mu,aP 7 (aq aO (aq aV (aa 0) (abO 8)) (abO 9)) (E2 mu)=some (.nx (E3 mu)):=λmu=>bD (l:=.sh (.int kd)) (U1:=E2 mu) (aN (x:=.sh (.int (c/8))) (aN (x:=.sh (.int c)) rfl rfl (fD (by decide) (by decide))) rfl (bV (by decide))) rfl rfl;have head:∀(mu:Mu) (g:SF) R,g (E3 mu)=R->(aD (aP 5 (bh bZ (aj (aq aO (aq eY (aa 0) (abO 48271)) (abO 2147483647)) (aj (aa 1) (aj (aa 2) ao))))) (aD (aP 6 (bh bZ (aj (aq aO (aq eY (aa 0) (abO 69621)) (abO 2147483647)) (aj (aa 1) (aj (aa 2) ao))))) (aD (aP 7 (aq aO (aq aV (aa 0) (abO 8)) (abO 9))) g))) (E0 mu)=R:=λmu g R hg=>aF (s5 mu) (aF (s6 mu) (aF (s7 mu) hg));have t1:∀mu,cL (tT (aq eqP (aa 7) (abO 1)) aY) (tT (aq gJ (eB bz (aj (aa 2) ao)) (abO 0)) aY) (E3 mu)=some ((kd==1)&&!ls.isEmpty,E3 mu):=λmu=>jQ rfl (qT rfl);cases b1:((kd==1)&&!ls.isEmpty) with
 | true=>
  obtain⟨x,_,hx⟩:=pick (Ed b1) c 72 (by decide) (by decide);refine⟨.row (.leaf "put" [.str x,p1,p2]),⟨Ln,gm fK (gm f1 (gm f2 oA))⟩,λmu=>?_⟩;rw[show mu++Dr.cl (.row (.leaf "put" [.str x,p1,p2]))=mu from Y7_ _];exact bG (U:=E3 mu) (head mu _ _ (jT (t1 mu) b1 (fY (fJ (ls:=[.sh (.str "put"),.sh (.str x),.sh p1,.sh p2]) (aC (U1:=E3 mu) rfl (aC (hx 2 (aa 0) _ rfl rfl) rfl)) rfl rfl))))
 | false=>
 have t2:∀mu,tT (aq eqP (aa 7) (abO 6)) aY (E3 mu)=some (kd==6,E3 mu):=λmu=>rfl;cases b2:(kd==6) with
 | true=>
  refine⟨.wh p2,f2,λmu=>?_⟩;show fU _ mu=some (.sh (.tup [.str "while",p2,.ptr mu.length]),mu++[some (.lst [])]);refine bG (U:=RE c own ls hs ws P1 P2 KD none none none none (mu++[some (.lst [])])) (r:=.sh (.tup [.str "while",p2,.ptr mu.length])) ?_;refine head mu _ _ ?_;refine(fG (t1 mu) b1).trans ?_;refine jT (t2 mu) b2 ?_;exact fY (fJ (ls:=[.sh (.str "while"),.sh p2,.sh (.ptr mu.length)]) (aC (U1:=E3 mu) rfl (aC (U1:=E3 mu) rfl (aC (U1:=RE c own ls hs ws P1 P2 KD none none none none (mu++[some (.lst [])])) rfl rfl))) rfl rfl)
 | false=>
 have t3:∃b,∀mu,tT (aq pQ (aa 7) (aZ (aj (abO 4) (aj (abO 5) ao)))) aY (E3 mu)=some (b,E3 mu):=⟨_,λmu=>rfl⟩;obtain⟨b3,t3⟩:=t3;have t3':∀mu,qm (tT (aq pQ (aa 7) (aZ (aj (abO 4) (aj (abO 5) ao)))) aY) (tT (aq eqP (eB bz (aj (aa 1) ao)) (abO 0)) aY) (E3 mu)=some (b3||own.isEmpty,E3 mu):=λmu=>Ja (t3 mu) (RW rfl);cases hb3:(b3||own.isEmpty) with
 | true=>
  refine⟨.iff p1,f1,λmu=>?_⟩;show fU _ mu=some (.sh (.tup [.str "if",p1,.ptr mu.length,.ptr (mu.length+1)]),mu++[some (.lst []),some (.lst [])]);refine bG (U:=RE c own ls hs ws P1 P2 KD none none none none (mu++[some (.lst []),some (.lst [])])) (r:=.sh (.tup [.str "if",p1,.ptr mu.length,.ptr (mu.length+1)])) ?_;refine head mu _ _ ?_;refine(fG (t1 mu) b1).trans ?_;refine(fG (t2 mu) b2).trans ?_;refine jT (t3' mu) hb3 ?_;refine fY (fJ (ls:=[.sh (.str "if"),.sh p1,.sh (.ptr mu.length),.sh (.ptr (mu.length+1))]) (aC (U1:=E3 mu) rfl (aC (U1:=E3 mu) rfl (aC (U1:=RE c own ls hs ws P1 P2 KD none none none none (mu++[some (.lst [])])) rfl (aC (U1:=RE c own ls hs ws P1 P2 KD none none none none (mu++[some (.lst []),some (.lst [])])) ?_ rfl)))) rfl rfl);show some (Lc.sh (.ptr (mu++[some (PV.lst [])]).length),RE c own ls hs ws P1 P2 KD none none none none ((mu++[some (PV.lst [])])++[some (PV.lst [])]))=_;rw[YJ,YQ];rfl
 | false=>
 have hown:own≠[]:=by intro e;rw[e]at hb3;simp at hb3
 obtain⟨gl,hgl,hx⟩:=pick hown c 72 (by decide) (by decide);let GL:Option Lc:=zT gl;let E4:Mu->Ev:=λmu=>RE c own ls hs ws P1 P2 KD GL none none none mu;have s8:∀mu,aP 8 (aR (aa 1) (aq aO (aq aV (aa 0) (abO 72)) (eB bz (aj (aa 1) ao)))) (E3 mu)=some (.nx (E4 mu)):=λmu=>bD (l:=.sh (.str gl)) (U1:=E3 mu) (hx 1 (aa 0) _ rfl rfl) rfl rfl;have head2:∀(mu:Mu) (g:SF) R,g (E4 mu)=R->(aD (dj (cL (tT (aq eqP (aa 7) (abO 1)) aY) (tT (aq gJ (eB bz (aj (aa 2) ao)) (abO 0)) aY))
  (dU (aZ (aj (abP "put") (aj (aR (aa 2) (aq aO (aq aV (aa 0) (abO 72)) (eB bz (aj (aa 2) ao)))) (aj (aa 5) (aj (aa 6) ao))))))
  cN)
  (aD (dj (tT (aq eqP (aa 7) (abO 6)) aY)
  (dU (aZ (aj (abP "while") (aj (aa 6) (aj (jZ (cM ao)) ao)))))
  cN)
  (aD (dj (qm (tT (aq pQ (aa 7) (aZ (aj (abO 4) (aj (abO 5) ao)))) aY) (tT (aq eqP (eB bz (aj (aa 1) ao)) (abO 0)) aY))
  (dU (aZ (aj (abP "if") (aj (aa 5) (aj (jZ (cM ao)) (aj (jZ (cM ao)) ao))))))
  cN)
  (aD (aP 8 (aR (aa 1) (aq aO (aq aV (aa 0) (abO 72)) (eB bz (aj (aa 1) ao))))) g)))) (E3 mu)=R:=λmu g R hg=>(fG (t1 mu) b1).trans ((fG (t2 mu) b2).trans ((fG (t3' mu) hb3).trans (aF (s8 mu) hg)))
 have t4:∀mu,cL (tT (aq eqP (aa 7) (abO 2)) aY) (tT (aq gJ (eB bz (aj (aa 4) ao)) (abO 0)) aY) (E4 mu)=some ((kd==2)&&!ws.isEmpty,E4 mu):=λmu=>jQ rfl (qT rfl);cases b4:((kd==2)&&!ws.isEmpty) with
 | true=>
  obtain⟨wh,_,hw⟩:=pick (Ed b4) c 7 (by decide) (by decide);refine⟨.row (.leaf "out" [.str gl,p1,.str wh]),⟨Lp,gm fK (gm f1 (gm fK oA))⟩,λmu=>?_⟩;rw[show mu++Dr.cl (.row (.leaf "out" [.str gl,p1,.str wh]))=mu from Y7_ _];exact bG (U:=E4 mu) (head mu _ _ (head2 mu _ _ (jT (t4 mu) b4 (fY (fJ (ls:=[.sh (.str "out"),.sh (.str gl),.sh p1,.sh (.str wh)]) (aC (U1:=E4 mu) rfl (aC (U1:=E4 mu) rfl (aC (U1:=E4 mu) rfl (aC (hw 4 (aa 0) _ rfl rfl) rfl)))) rfl rfl)))))
 | false=>
 have t5:∃b,∀mu,tT (aq pQ (aa 7) (aZ (aj (abO 3) (aj (abO 8) ao)))) aY (E4 mu)=some (b,E4 mu):=⟨_,λmu=>rfl⟩;obtain⟨b5,t5⟩:=t5;have t5':∀mu,cL (tT (aq pQ (aa 7) (aZ (aj (abO 3) (aj (abO 8) ao)))) aY) (tT (aq gJ (eB bz (aj (aa 3) ao)) (abO 0)) aY) (E4 mu)=some (b5&&!(fQ hs).isEmpty,E4 mu):=λmu=>jQ (t5 mu) (RZ rfl);cases hb5:(b5&&!(fQ hs).isEmpty) with
 | true=>
  obtain⟨q,hq,hx3⟩:=WT (Oq hb5) c 792 (by decide) (by decide);obtain⟨h,hm,rfl⟩:=Za.mp hq;obtain⟨hl1,hl2⟩:=hh h hm;obtain⟨as,fa,la,ea⟩:=GR c own ls ((List.range h.2.length).map λi:Nat=>(0+(i:Int))) λk hk=>by obtain⟨i,hi,rfl⟩:=Za.mp hk;have:=List.mem_range.mp hi;omega
  rw[YH,ZK]at la;refine⟨.row (.call (.str gl) h.1 as),⟨fK,hl1,fa,by omega⟩,λmu=>?_⟩;rw[show mu++Dr.cl (.row (.call (.str gl) h.1 as))=mu from Y7_ _];let E5:=RE c own ls hs ws P1 P2 KD GL (zT h.1) (zL (SS h.2)) none mu;let E6:=RE c own ls hs ws P1 P2 KD GL (zT h.1) (zL (SS h.2)) (zO as) mu;let E7:=RE c own ls hs ws P1 P2 KD GL (zT h.1) (zL (SS h.2)) (zL as) mu;have ec:=ea mu none [] (by rw[YH,ZK]; simp only[YK]; omega);rw[<-wy,Zr]at ec;refine bG (U:=E7) (head mu _ _ (head2 mu _ _ ((fG (t4 mu) b4).trans (jT (t5' mu) hb5 ?_))));refine aF (U':=E5) ?_ (aF (U':=E6) (bD (l:=.own (.lst as)) (U1:=E5) ((fM (U1:=E5) (xs:=gH 0 h.2.length) (jC (U1:=E5) (l:=.sh (.int ((SS h.2).length:Nat))) (n:=((h.2.length:Nat):Int)) (aC (lR (ls:=[.sh (.lst (SS h.2))]) (ps:=[.lst (SS h.2)]) (U1:=E5) rfl rfl rfl) rfl) (by rw[pC]; rfl) (by omega) (by omega)) ec).trans rfl) rfl rfl) rfl);unfold Nr;rw[hx3 3 (aa 0) _ rfl rfl];rfl
 | false=>
  refine⟨.row (.leaf "set" [.str gl,p2]),⟨Lq,gm fK (gm f2 oA)⟩,λmu=>?_⟩;rw[show mu++Dr.cl (.row (.leaf "set" [.str gl,p2]))=mu from Y7_ _];exact bG (U:=E4 mu) (head mu _ _ (head2 mu _ _ ((fG (t4 mu) b4).trans ((fG (t5' mu) hb5).trans rfl))))
mutual
theorem jt {mu:Mu}:∀(p:PV) (k:Nat),bA p=true->dB mu k p=p
 | .non,k,_=>by cases k<;>rfl
 | .bl _,k,_=>by cases k<;>rfl
 | .int _,k,_=>by cases k<;>rfl
 | .str _,k,_=>by cases k<;>rfl
 | .tup ps,k,h=>by
  cases k with
  | zero=>rfl
  | succ k=>
   show PV.tup (ps.map (dB mu k))=_;rw[sE ps k (by simpa [bA] using h)]
 | .lst _,k,h=>by simp[bA]at h
 | .dk _ _,k,h=>by simp[bA]at h
 | .dt _ _,k,h=>by simp[bA]at h
 | .obj _ _ _,k,h=>by simp[bA]at h
 | .df _ _,k,h=>by simp[bA]at h
 | .dtf _ _,k,h=>by simp[bA]at h
 | .dx _ _ _,k,h=>by simp[bA]at h
 | .ptr _,k,h=>by simp[bA]at h
theorem sE {mu:Mu}:∀(ps:List PV) (k:Nat),eZ ps=true->ps.map (dB mu k)=ps
 | [],k,_=>rfl
 | p::ps,k,h=>by simp only[eZ,Zy]at h;rw[YW,jt p k h.1,sE ps k h.2]
end
theorem Ot {mu:Mu} {ps:List PV} {k:Nat} (h:eZ ps=true):dB mu k (.lst ps)=.lst ps:=by
 cases k with
 | zero=>rfl
 | succ k=>
  show PV.lst (ps.map (dB mu k))=_;rw[sE ps k h]
abbrev qd:=List (Nat×PV)
def Holds (mu:Mu) (L:qd):Prop:=(L.map (·.1)).Nodup/\∀x∈L,mu[x.1]?=some (some x.2)
theorem Holds.perm {mu:Mu} {L L':qd} (h:Holds mu L) (p:L'.Perm L):Holds mu L':=⟨(p.map _).nodup_iff.mpr h.1,λx hx=>h.2 x (p.mem_iff.mp hx)⟩
theorem Holds.sub {mu:Mu} {L L':qd} (h:Holds mu L) (p:L'.Sublist L):Holds mu L':=⟨h.1.sublist (p.map _),λx hx=>h.2 x (p.subset hx)⟩
theorem Holds.tail {mu:Mu} {L:qd} {x:Nat×PV} (h:Holds mu (x::L)):Holds mu L:=h.sub (YX _ _)
theorem Holds.head {mu:Mu} {L:qd} {n:Nat} {p:PV} (h:Holds mu ((n,p)::L)):mu[n]?=some (some p):=h.2 _ Yz
theorem Holds.set {mu:Mu} {L:qd} {n:Nat} {p q:PV} (h:Holds mu ((n,p)::L)):Holds (mu.set n (some q)) ((n,q)::L):=by
 have hn:n<mu.length:=(YL.mp h.head).1;refine⟨h.1,λx hx=>?_⟩;rcases YF.mp hx with rfl | hx
 . exact Zi hn
 . have ne:x.1≠n:=λe=>(Zo.mp h.1).1 (Za.mpr ⟨x,hx,e⟩);rw[aaf (λe=>ne e.symm)];exact h.2 x (YG _ hx)
theorem Holds.lt {mu:Mu} {L:qd} (h:Holds mu L):∀x∈L,x.1<mu.length:=λx hx=>(YL.mp (h.2 x hx)).1
theorem Holds.push {mu:Mu} {L:qd} (h:Holds mu L) (p:PV):Holds (mu++[some p]) ((mu.length,p)::L):=by
 refine⟨Zo.mpr ⟨λhm=>?_,h.1⟩,λx hx=>?_⟩
 . obtain⟨x,hx,e⟩:=Za.mp hm;have:=h.lt x hx;have e':x.1=mu.length:=e;omega
 . rcases YF.mp hx with rfl | hx
   . rw[Y8 (YC _),aaa]; rfl
   . rw[Zv (h.lt x hx)];exact h.2 x hx
structure Done where
 p:PV
 r:Row
 L:qd
def Done.fit (d:Done):Prop:=d.r.ok/\∀mu k,Holds mu d.L->3*d.r.dep<=k->dB mu k d.p=d.r.pv
def rowsOf:List Row->Rows
 | []=>.nil
 | r::l=>.cons r (rowsOf l)
theorem xY:∀l:List Row,(rowsOf l).pvs=l.map Row.pv
 | []=>rfl
 | r::l=>by simp[rowsOf,Rows.pvs,xY l]
theorem mX:∀l:List Row,(∀r∈l,r.ok)->(rowsOf l).ok
 | [],_=>True.intro
 | r::l,h=>⟨h r Yz,mX l λx hx=>h x (YG _ hx)⟩
theorem nU:∀l:List Row,∀r∈l,r.dep+1<=(rowsOf l).dep
 | [],r,h=>by cases h
 | x::l,r,h=>by
  simp only[rowsOf,Rows.dep];rcases YF.mp h with rfl | h
  . omega
  . have:=nU l r h;omega
theorem tD {n:Nat} (hn:1<=n):∀l:List Row,(∀r∈l,r.dep+1<=n)->(rowsOf l).dep<=n
 | [],_=>hn
 | x::l,h=>by have h1:=h x Yz;have h2:=tD hn l λr hr=>h r (YG _ hr);simp only[rowsOf,Rows.dep];omega
theorem uB {n:Nat}:∀l:List Row,(∀r∈l,r.bl<=n)->(rowsOf l).bl<=n
 | [],_=>Zj _
 | x::l,h=>by have h1:=h x Yz;have h2:=uB l λr hr=>h r (YG _ hr);simp only[rowsOf,Rows.bl];omega
def dH (l:List Row):Nat:=(l.map Row.cnt).sum
theorem jJ:∀l:List Row,(rowsOf l).cnt=dH l
 | []=>rfl
 | r::l=>by simp[rowsOf,Rows.cnt,dH,jJ l]
theorem wz (a b:List Row):dH (a++b)=dH a+dH b:=by simp[dH]
abbrev cI (ds:List Done):List PV:=ds.map (·.p)
abbrev gf (ds:List Done):List Row:=ds.map (·.r)
def dL:List Done->qd
 | []=>[]
 | d::ds=>d.L++dL ds
theorem Ef:∀a b:List Done,dL (a++b)=dL a++dL b
 | [],b=>rfl
 | d::a,b=>by simp[dL,Ef a]
theorem Lr:∀{ds:List Done} {d:Done},d∈ds->d.L.Sublist (dL ds)
 | [],d,h=>by cases h
 | x::ds,d,h=>by
  rcases YF.mp h with rfl | h
  . exact Zk _ _
  . exact(Lr h).trans (ZQ _ _)
theorem u6 {mu:Mu} {ds:List Done} {n k:Nat} (hf:∀d∈ds,d.fit) (hn:mu[n]?=some (some (.lst (cI ds)))) (H:Holds mu (dL ds)) (hk:∀d∈ds,3*d.r.dep<=k):dB mu (k+2) (.ptr n)=.lst (rowsOf (gf ds)).pvs:=by show (match mu[n]? with | some (some p)=>dB mu (k+1) p | _=>.ptr n)=_;rw[hn];show PV.lst ((cI ds).map (dB mu k))=_;rw[xY,cI,gf,ZL,ZL];congr 1;refine List.map_congr_left λd hd=>?_;exact(hf d hd).2 mu k (H.sub (Lr hd)) (hk d hd)
theorem Ls {e:PV} {n:Nat} {ds:List Done} (he:fl e) (hf:∀d∈ds,d.fit):Done.fit ⟨.tup [.str "while",e,.ptr n],.wh e (rowsOf (gf ds)),(n,.lst (cI ds))::dL ds⟩:=by
 refine⟨⟨he,mX _ λr hr=>?_⟩,λmu k H hk=>?_⟩
 . obtain⟨d,hd,rfl⟩:=Za.mp hr;exact(hf d hd).1
 . have hp:=Rows.dep_pos (rowsOf (gf ds));simp only[Row.dep]at hk;obtain⟨k,rfl⟩:∃j,k=j+3:=⟨k-3,by omega⟩;have e1:=u6 (k:=k) hf H.head H.tail λd hd=>by have:=nU (gf ds) d.r (Za.mpr ⟨d,hd,rfl⟩);omega
   show PV.tup [dB mu (k+2) (.str "while"),dB mu (k+2) e,dB mu (k+2) (.ptr n)]=_;rw[e1,jt e _ he.1];rfl
theorem yO {e:PV} {n m:Nat} {bs ds:List Done} (he:fl e) (hb:∀d∈bs,d.fit) (hf:∀d∈ds,d.fit):Done.fit ⟨.tup [.str "if",e,.ptr m,.ptr n],.iff e (rowsOf (gf bs)) (rowsOf (gf ds)),(m,.lst (cI bs))::(n,.lst (cI ds))::(dL bs++dL ds)⟩:=by
 refine⟨⟨he,mX _ λr hr=>?_,mX _ λr hr=>?_⟩,λmu k H hk=>?_⟩
 . obtain⟨d,hd,rfl⟩:=Za.mp hr;exact(hb d hd).1
 . obtain⟨d,hd,rfl⟩:=Za.mp hr;exact(hf d hd).1
 . have hp:=Rows.dep_pos (rowsOf (gf ds));simp only[Row.dep]at hk;obtain⟨k,rfl⟩:∃j,k=j+3:=⟨k-3,by omega⟩;have e1:=u6 (k:=k) hb H.head (H.tail.tail.sub (Zk _ _)) λd hd=>by have:=nU (gf bs) d.r (Za.mpr ⟨d,hd,rfl⟩);omega
   have e2:=u6 (k:=k) hf H.tail.head (H.tail.tail.sub (ZQ _ _)) λd hd=>by have:=nU (gf ds) d.r (Za.mpr ⟨d,hd,rfl⟩);omega
   show PV.tup [dB mu (k+2) (.str "if"),dB mu (k+2) e,dB mu (k+2) (.ptr m),dB mu (k+2) (.ptr n)]=_;rw[e1,e2,jt e _ he.1];rfl
theorem R0 {r:Row} (h:r.low):Done.fit ⟨r.pv,r,[]⟩:=by
 cases r with
 | leaf w ps=>
  obtain⟨h1,h2⟩:=h;refine⟨⟨h1,h2⟩,λmu k _ _=>?_⟩;exact jt _ k (by simp[Row.pv,bA,eZ,h2.1])
 | call b n as=>
  obtain⟨h1,h2,h3,h4⟩:=h;refine⟨⟨h1,h2,h3,h4⟩,λmu k _ hk=>?_⟩;simp only[Row.dep]at hk;obtain⟨k,rfl⟩:∃j,k=j+1:=⟨k-1,by omega⟩;show PV.tup [dB mu k (.str "call"),dB mu k b,dB mu k (.str n),dB mu k (.lst as)]=_;rw[jt b _ h1.1,jt (.str "call") k rfl,jt (.str n) k rfl,Ot h3.1];rfl
 | wh e b=>cases h
 | iff e b c=>cases h
inductive Kd where
 | root
 | W (e:PV)
 | I1 (e:PV) (m:Nat)
 | I2 (e:PV) (m:Nat) (bs:List Done)
structure Fr where
 n:Nat
 s:Nat
 ds:List Done
 kd:Kd
def Fr.op (f:Fr):PV:=match f.kd with
 | .root=>.non
 | .W e=>.tup [.str "while",e,.ptr f.n]
 | .I1 e m=>.tup [.str "if",e,.ptr f.n,.ptr m]
 | .I2 e m _=>.tup [.str "if",e,.ptr m,.ptr f.n]
def Kd.st:Kd->qd
 | .I1 _ m=>[(m,.lst [])]
 | .I2 _ m bs=>(m,.lst (cI bs))::dL bs
 | _=>[]
def Fr.sc (f:Fr):List PV:=match f.kd with
 | .I1 _ m=>[.ptr f.n,.ptr m]
 | _=>[.ptr f.n]
def Fr.cls (f:Fr):Done:=match f.kd with
 | .root=>⟨.non,.leaf "" [],[]⟩
 | .W e=>⟨f.op,.wh e (rowsOf (gf f.ds)),(f.n,.lst (cI f.ds))::dL f.ds⟩
 | .I1 e m=>⟨f.op,.iff e (rowsOf (gf f.ds)) .nil,(f.n,.lst (cI f.ds))::(m,.lst [])::(dL f.ds++[])⟩
 | .I2 e m bs=>⟨f.op,.iff e (rowsOf (gf bs)) (rowsOf (gf f.ds)),(m,.lst (cI bs))::(f.n,.lst (cI f.ds))::(dL bs++dL f.ds)⟩
def Kd.fit:Kd->Prop
 | .root=>True
 | .W e=>fl e
 | .I1 e _=>fl e
 | .I2 e _ bs=>fl e/\∀d∈bs,d.fit
def Fr.fit (f:Fr):Prop:=(∀d∈f.ds,d.fit)/\f.kd.fit
theorem GX {f:Fr} (h:f.fit) (hr:f.kd≠.root):f.cls.fit:=by
 obtain⟨n,s,ds,kd⟩:=f;obtain⟨h1,h2⟩:=h;cases kd with
 | root=>exact absurd rfl hr
 | W e=>exact Ls h2 h1
 | I1 e m=>exact yO (bs:=ds) (ds:=[]) h2 h1 (λd hd=>by cases hd)
 | I2 e m bs=>exact yO h2.1 h2.2 h1
theorem WW {f:Fr} (hr:f.kd≠.root):f.cls.p=f.op:=by obtain⟨n,s,ds,kd⟩:=f;cases kd<;>first | exact absurd rfl hr | rfl
theorem WX {f:Fr} (hr:f.kd≠.root):f.cls.L.Perm ((f.n,.lst (cI f.ds))::(f.kd.st++dL f.ds)):=by
 obtain⟨n,s,ds,kd⟩:=f;cases kd with
 | root=>exact absurd rfl hr
 | W e=>exact List.Perm.refl _
 | I1 e m=>
  show List.Perm ((n,PV.lst (cI ds))::(m,.lst [])::(dL ds++[])) ((n,.lst (cI ds))::([(m,.lst [])]++dL ds));rw[Y7_];exact List.Perm.refl _
 | I2 e m bs=>exact List.Perm.swap _ _ _
def FS:List Fr->List PV->qd
 | [],_=>[]
 | f::fs,o=>(f.n,.lst (cI f.ds++o))::(f.s,.lst f.sc)::((f.kd.st++dL f.ds)++FS fs [f.op])
theorem xZ {f g:Fr} {fs:List Fr} (hr:f.kd≠.root):List.Perm (FS (⟨g.n,g.s,g.ds++[f.cls],g.kd⟩::fs) []) ((f.n,.lst (cI f.ds))::((f.kd.st++dL f.ds)++FS (g::fs) [f.op])):=by
 have eo:(⟨g.n,g.s,g.ds++[f.cls],g.kd⟩:Fr).op=g.op:=by cases g with | mk n s ds kd=>cases kd<;>rfl
 have es:(⟨g.n,g.s,g.ds++[f.cls],g.kd⟩:Fr).sc=g.sc:=by cases g with | mk n s ds kd=>cases kd<;>rfl
 show List.Perm ((g.n,PV.lst (cI (g.ds++[f.cls])++[]))::(g.s,.lst (⟨g.n,g.s,g.ds++[f.cls],g.kd⟩:Fr).sc)::((g.kd.st++dL (g.ds++[f.cls]))++FS fs [(⟨g.n,g.s,g.ds++[f.cls],g.kd⟩:Fr).op])) _;rw[eo,es,Y7_,Ef,show cI (g.ds++[f.cls])=cI g.ds++[f.op] by rw[cI,YZ,List.map_singleton,WW hr],show dL [f.cls]=f.cls.L from Y7_ _];have p1:=WX hr;have p2:List.Perm ((f.n,PV.lst (cI f.ds))::((f.kd.st++dL f.ds)++FS (g::fs) [f.op])) (f.cls.L++FS (g::fs) [f.op]):=p1.symm.append_right _;refine List.Perm.trans ?_ p2.symm;show List.Perm ((g.n,PV.lst (cI g.ds++[f.op]))::(g.s,.lst g.sc)::((g.kd.st++(dL g.ds++f.cls.L))++FS fs [g.op])) (f.cls.L++((g.n,.lst (cI g.ds++[f.op]))::(g.s,.lst g.sc)::((g.kd.st++dL g.ds)++FS fs [g.op])));have q:List.Perm ((g.kd.st++(dL g.ds++f.cls.L))++FS fs [g.op]) (f.cls.L++((g.kd.st++dL g.ds)++FS fs [g.op])):=by rw[<-YQ,YQ (g.kd.st++dL g.ds),<-YQ f.cls.L];rw[<-YQ];exact(ZC).append_right _
 exact((q.cons _).cons _).trans ((List.perm_middle.symm.cons _).trans Zd.symm)
theorem ju {f:Fr} {fs:List Fr}:FS (f::fs) []=(f.n,.lst (cI f.ds))::(f.s,.lst f.sc)::((f.kd.st++dL f.ds)++FS fs [f.op]):=by show (f.n,PV.lst (cI f.ds++[]))::_=_;rw[Y7_]
theorem Fj {mu:Mu} {f g:Fr} {fs:List Fr} (hr:f.kd≠.root) (h:Holds mu (FS (f::g::fs) [])):Holds mu (FS (⟨g.n,g.s,g.ds++[f.cls],g.kd⟩::fs) []):=by rw[ju]at h;exact(h.sub ((YX _ _).cons₂ _)).perm (xZ hr)
theorem Holds.grow {mu:Mu} {L:qd} (h:Holds mu L) (X:Mu):Holds (mu++X) L:=⟨h.1,λx hx=>by rw[Zv (h.lt x hx)]; exact h.2 x hx⟩
inductive UK where
 | root
 | W (e:PV)
 | I1 (e:PV)
 | I2 (e:PV) (b:List Row)
abbrev U_:=List Row×UK
def Kd.u:Kd->UK
 | .root=>.root
 | .W e=>.W e
 | .I1 e _=>.I1 e
 | .I2 e _ bs=>.I2 e (gf bs)
def Fr.u (f:Fr):U_:=(gf f.ds,f.kd.u)
def UK.close:UK->List Row->Row
 | .root,_=>.leaf "" []
 | .W e,rs=>.wh e (rowsOf rs)
 | .I1 e,rs=>.iff e (rowsOf rs) .nil
 | .I2 e b,rs=>.iff e (rowsOf b) (rowsOf rs)
theorem Qh {f:Fr}:f.cls.r=f.kd.u.close (gf f.ds):=by obtain⟨n,s,ds,kd⟩:=f;cases kd<;>rfl
def sG:List U_->List U_
 | (rs,.I1 e)::us=>([],.I2 e rs)::us
 | (rs,k)::(rs',k')::us=>(rs'++[k.close rs],k')::us
 | us=>us
def pD (d:Dr):List U_->List U_
 | []=>[]
 | (rs,k)::us=>match d with
  | .row r=>(rs++[r],k)::us
  | .wh e=>if us.length+1<5 then ([],.W e)::(rs,k)::us else (rs++[.wh e .nil],k)::us
  | .iff e=>if us.length+1<5 then ([],.I1 e)::(rs,k)::us else (rs++[.iff e .nil .nil],k)::us
def lE (us:List U_) (c:Int) (d:Dr):List U_:=if ((c%8==0)&&decide ((us.length:Int)>1))=true then sG us else pD d us
def Shape (b:Nat):List Fr->Prop
 | []=>False
 | [f]=>f.kd=.root/\f.n=b
 | f::g::r=>f.kd≠.root/\Shape b (g::r)
abbrev stk (fs:List Fr):List PV:=fs.reverse.map λf=>.ptr f.s
theorem iT {f:Fr} {fs:List Fr}:stk (f::fs)=stk fs++[.ptr f.s]:=by simp[stk]
theorem GZ {fs:List Fr}:(stk fs).length=fs.length:=by simp[stk]
structure St (mu:Mu) (b S t:Nat) (fs:List Fr):Prop where
 h:Holds mu ((S,.lst (stk fs))::FS fs [])
 fit:∀f∈fs,f.fit
 sh:Shape b fs
 ln:fs.length<=5
 sz:∀f∈fs,f.ds.length<=t
theorem yP {f:EF} {U U1:Ev} {l:Lc} {n:Nat} {ws:List PV} (h:f U=some (l,U1)) (hl:l.pv=.ptr n) (hm:U1.mu[n]?=some (some (.lst ws))):j9 f U=some (.sh (.int (ws.length:Nat)),U1):=by unfold j9;rw[h,YB,hl];dsimp only;rw[hm]
theorem R1 {fo:EF} {U U1:Ev} {o:Lc} {n:Nat} {ws:List PV} {p:PV} {mu:Mu} (h1:fo U=some (o,U1)) (ho:o.pv=.ptr n) (hm:U1.mu[n]?=some (some (.lst (ws++[p])))) (e:U1.mu.set n (some (.lst ws))=mu):xH fo U=some (.sh p,⟨U1.vs,mu⟩):=by unfold xH;rw[h1,YB,ho];dsimp only;rw[hm];dsimp only;rw[YJ,Yy,YK,Y8 (by omega),List.dropLast_concat,e];simp
theorem R3 {f:EF} {p:PV} {U U1:Ev} {n:Nat} (h:f U=some (.own p,U1)) (hn:U1.mu.length=n):jZ f U=some (.sh (.ptr n),⟨U1.vs,U1.mu++[some p]⟩):=by unfold jZ;rw[h,YB,hn]
abbrev ZE (X:PV) (own ls:List Str) (hs:Hd) (ws:List Str) (b S:Nat) (o7 o8:Option Lc) (mu:Mu):Ev:=⟨[zS X,zL (SS own),zL (SS ls),zL (fQ hs),zL (SS ws),zS (.ptr b),zS (.ptr S),o7,o8],mu⟩
abbrev uC:EF:=aR (aa 6) (CT (abO 1))
abbrev VN:SF:=aD (lZ (uq uC))
 (dj (tT (aq eqP (j9 uC) (abO 0)) aY)
 (lZ (xH (aa 6)))
 cN)
abbrev Xc:SF:=dj (cL (tT (aq pQ (aR (aa 8) (abO 0)) (aZ (aj (abP "if") (aj (abP "while") ao)))) aY) (tT (aq Cz (j9 (aa 6)) (abO 5)) aY))
 (mz (aa 6) (jZ (dF (fX (oU (aa 8) (cA (abO 2)) iy) cC) 1 [] (aA 0) bQ (aa 0))))
 cN
abbrev Qi:SF:=aD (aP 8 (bh fU (aj (aa 7) (aj (aa 1) (aj (aa 2) (aj (aa 3) (aj (aa 4) ao)))))))
 (aD (mz (aR uC (abO 0)) (aa 8))
 Xc)
abbrev Xd:SF:=dj (cL (tT (aq eqP (aq aO (aa 7) (abO 8)) (abO 0)) aY) (tT (aq gJ (j9 (aa 6)) (abO 1)) aY)) VN Qi
section
variable {X:PV} {own ls:List Str} {hs:Hd} {ws:List Str} {b S:Nat} {o7 o8:Option Lc} {mu:Mu}
theorem yc {f:Fr} {fs:List Fr} (h:mu[S]?=some (some (.lst (stk (f::fs))))):uC (ZE X own ls hs ws b S o7 o8 mu)=some (.sh (.ptr f.s),ZE X own ls hs ws b S o7 o8 mu):=
 Kz (n:=S) (k:=-1) (ws:=stk (f::fs)) (l:=.sh (.ptr S)) (m:=.sh (.int (-1))) rfl rfl rfl rfl h (by rw[iT]; exact My _ _)
theorem Fr.sc_head (f:Fr):∃t,f.sc=.ptr f.n::t:=by obtain⟨n,s,ds,kd⟩:=f;cases kd<;>exact⟨_,rfl⟩
theorem WY {f:Fr} {fs:List Fr} (h:mu[S]?=some (some (.lst (stk (f::fs))))) (h2:mu[f.s]?=some (some (.lst f.sc))):aR uC (abO 0) (ZE X own ls hs ws b S o7 o8 mu)=some (.sh (.ptr f.n),ZE X own ls hs ws b S o7 o8 mu):=by obtain⟨t,et⟩:=f.sc_head;exact Kz (n:=f.s) (k:=0) (ws:=f.sc) (l:=.sh (.ptr f.s)) (m:=.sh (.int 0)) (yc h) rfl rfl rfl h2 (by rw[et]; exact at0)
theorem Qj {fs:List Fr} (h:mu[S]?=some (some (.lst (stk fs)))):j9 (aa 6) (ZE X own ls hs ws b S o7 o8 mu)=some (.sh (.int (fs.length:Nat)),ZE X own ls hs ws b S o7 o8 mu):=by have:=yP (f:=aa 6) (U:=ZE X own ls hs ws b S o7 o8 mu) (U1:=ZE X own ls hs ws b S o7 o8 mu) (l:=.sh (.ptr S)) (n:=S) rfl rfl h;rw[GZ]at this;exact this
theorem Qk {f:Fr} {fs:List Fr} {p:PV} {t:Nat} (h:Holds mu ((S,.lst (stk (f::fs)))::FS (f::fs) [])) (hz:f.ds.length<=1000):mz (aR uC (abO 0)) (aa 8) (ZE X own ls hs ws b S o7 (zS p) mu)=some (.nx (ZE X own ls hs ws b S o7 (zS p) (mu.set f.n (some (.lst (cI f.ds++[p])))))):=by have h1:=h.head;have h2:=h.tail;rw[ju]at h2;exact u0 (n:=f.n) (ws0:=cI f.ds) (ws:=cI f.ds) (p:=p) (o:=.sh (.ptr f.n)) (y:=.sh p) (U1:=ZE X own ls hs ws b S o7 (zS p) mu) (U2:=ZE X own ls hs ws b S o7 (zS p) mu) (WY h1 h2.tail.head) rfl h2.head rfl rfl h2.head (by rw[YH]; omega) rfl
end
theorem yd {f:EF} {U U1:Ev} {l:Lc} (h:f U=some (l,U1)):lZ f U=some (.nx U1):=by unfold lZ;rw[h];rfl
section
variable {X:PV} {own ls:List Str} {hs:Hd} {ws:List Str} {b S t:Nat} {o7 o8:Option Lc} {mu:Mu}
theorem R4 {c:Int} {fs:List Fr} (h:mu[S]?=some (some (.lst (stk fs)))):cL (tT (aq eqP (aq aO (aa 7) (abO 8)) (abO 0)) aY) (tT (aq gJ (j9 (aa 6)) (abO 1)) aY) (ZE X own ls hs ws b S (zI c) o8 mu)=some ((c%8==0)&&decide ((fs.length:Int)>1),ZE X own ls hs ws b S (zI c) o8 mu):=
 jQ rfl (jY (l:=.sh (.bl (decide ((fs.length:Int)>1)))) (mq (p:=.int (fs.length:Nat)) (q:=.int 1) (l:=.sh (.int (fs.length:Nat))) (m:=.sh (.int 1)) (Qj h) rfl rfl rfl rfl) rfl)
theorem uD {b:Nat} {g:Fr} {fs:List Fr} {d:List Done} (h:Shape b (g::fs)):Shape b (⟨g.n,g.s,d,g.kd⟩::fs):=by
 cases fs with
 | nil=>exact h
 | cons x fs=>exact h
theorem G3 {f g:Fr} {fs:List Fr} (h:St mu b S t (f::g::fs)) (hsc:f.sc=[.ptr f.n]) (hu:sG ((f::g::fs).map Fr.u)=((g::fs).map Fr.u).modifyHead λu=>(u.1++[f.kd.u.close (gf f.ds)],u.2)):∃mu' fs',VN (ZE X own ls hs ws b S o7 o8 mu)=some (.nx (ZE X own ls hs ws b S o7 o8 mu'))/\St mu' b S (t+1) fs'/\fs'.map Fr.u=sG ((f::g::fs).map Fr.u):=by
 obtain⟨H,fit,sh,ln,sz⟩:=h;have hr:f.kd≠.root:=sh.1;have Hq0:=H;rw[ju,hsc]at H;have H1:Holds mu ((f.s,.lst [.ptr f.n])::(S,.lst (stk (f::g::fs)))::(f.n,.lst (cI f.ds))::((f.kd.st++dL f.ds)++FS (g::fs) [f.op])):=H.perm (Zd (l₁:=[(S,PV.lst (stk (f::g::fs))),(f.n,.lst (cI f.ds))])).symm;have H2:=H1.set (q:=.lst []);have H3:Holds ((mu.set f.s (some (.lst []))).set S (some (.lst (stk (g::fs))))) ((S,.lst (stk (g::fs)))::(f.s,.lst [])::(f.n,.lst (cI f.ds))::((f.kd.st++dL f.ds)++FS (g::fs) [f.op])):=(H2.perm (List.Perm.swap _ _ _)).set;have H4:=H3.sub ((YX _ _).cons₂ _);have H5:=H4.perm ((xZ (g:=g) (fs:=fs) hr).cons _);refine⟨(mu.set f.s (some (.lst []))).set S (some (.lst (stk (g::fs)))),⟨g.n,g.s,g.ds++[f.cls],g.kd⟩::fs,?_,⟨?_,λx hx=>?_,uD sh.2,?_,λx hx=>?_⟩,?_⟩
 . let mu1:=mu.set f.s (some (.lst []));refine aF (U':=ZE X own ls hs ws b S o7 o8 mu1) (yd (Dj (U1:=ZE X own ls hs ws b S o7 o8 mu) (o:=.sh (.ptr f.s)) (n:=f.s) (ws:=[]) (p:=.ptr f.n) (yc H.head) rfl H1.head rfl)) ?_;have tt:tT (aq eqP (j9 uC) (abO 0)) aY (ZE X own ls hs ws b S o7 o8 mu1)=some (true,ZE X own ls hs ws b S o7 o8 mu1):=jY (l:=.sh (.bl true)) (mq (p:=.int 0) (q:=.int 0) (l:=.sh (.int 0)) (m:=.sh (.int 0)) (yP (n:=f.s) (ws:=[]) (l:=.sh (.ptr f.s)) (yc H2.tail.head) rfl H2.head) rfl rfl rfl rfl) rfl;refine(jW tt).trans (yd (R1 (U1:=ZE X own ls hs ws b S o7 o8 mu1) (o:=.sh (.ptr S)) (n:=S) (ws:=stk (g::fs)) (p:=.ptr f.s) rfl rfl ?_ rfl));rw[<-iT];exact H2.tail.head
 . have e:stk (⟨g.n,g.s,g.ds++[f.cls],g.kd⟩::fs)=stk (g::fs):=by rw[iT,iT]
   rw[e];exact H5
 . rcases YF.mp hx with rfl | hx
   . obtain⟨g1,g2⟩:=fit g (by simp);refine⟨λd hd=>?_,g2⟩;rcases Y6_.mp hd with hd | hd
     . exact g1 d hd
     . rw[Ze.mp hd];exact GX (fit f (by simp)) hr
   . exact fit x (by simp[hx])
 . simp only[Yy]at ln ⊢;omega
 . rcases YF.mp hx with rfl | hx
   . have:=sz g (by simp);simp only[YJ,Yy,YK];omega
   . have:=sz x (by simp[hx]);omega
 . rw[hu];show (gf (g.ds++[f.cls]),g.kd.u)::fs.map Fr.u=(gf g.ds++[f.kd.u.close (gf f.ds)],g.kd.u)::fs.map Fr.u;rw[gf,YZ,List.map_singleton,Qh]
theorem Ou {f g:Fr} {fs:List Fr} (h:St mu b S t (f::g::fs)):∃mu' fs',VN (ZE X own ls hs ws b S o7 o8 mu)=some (.nx (ZE X own ls hs ws b S o7 o8 mu'))/\St mu' b S (t+1) fs'/\fs'.map Fr.u=sG ((f::g::fs).map Fr.u):=by
 obtain⟨n,s,ds,kd⟩:=f;cases kd with
 | root=>exact absurd rfl h.sh.1
 | W e=>exact G3 h rfl rfl
 | I2 e m bs=>exact G3 h rfl rfl
 | I1 e m=>
  obtain⟨H,fit,sh,ln,sz⟩:=h;let f:Fr:=⟨n,s,ds,.I1 e m⟩;let f':Fr:=⟨m,s,[],.I2 e n ds⟩;rw[ju]at H;have Hq0:Holds mu ((S,.lst (stk (f::g::fs)))::(n,.lst (cI ds))::(s,.lst [.ptr n,.ptr m])::(m,.lst [])::(dL ds++FS (g::fs) [f.op])):=H;have H1:Holds mu ((s,.lst [.ptr n,.ptr m])::(S,.lst (stk (f::g::fs)))::(n,.lst (cI ds))::(m,.lst [])::(dL ds++FS (g::fs) [f.op])):=Hq0.perm (Zd (l₁:=[(S,PV.lst (stk (f::g::fs))),(n,.lst (cI ds))])).symm;have H2:=H1.set (q:=.lst [.ptr m]);refine⟨mu.set s (some (.lst [.ptr m])),f'::g::fs,?_,⟨?_,λx hx=>?_,⟨(by intro q; cases q),sh.2⟩,ln,λx hx=>?_⟩,?_⟩
  . let mu1:=mu.set s (some (.lst [.ptr m]));refine aF (U':=ZE X own ls hs ws b S o7 o8 mu1) (yd (Dj (U1:=ZE X own ls hs ws b S o7 o8 mu) (o:=.sh (.ptr s)) (n:=s) (ws:=[.ptr m]) (p:=.ptr n) (yc (f:=f) (fs:=g::fs) Hq0.head) rfl H1.head rfl)) ?_;have tt:tT (aq eqP (j9 uC) (abO 0)) aY (ZE X own ls hs ws b S o7 o8 mu1)=some (false,ZE X own ls hs ws b S o7 o8 mu1):=jY (l:=.sh (.bl false)) (mq (p:=.int 1) (q:=.int 0) (l:=.sh (.int 1)) (m:=.sh (.int 0)) (yP (n:=s) (ws:=[.ptr m]) (l:=.sh (.ptr s)) (yc (f:=f) (fs:=g::fs) H2.tail.head) rfl H2.head) rfl rfl rfl rfl) rfl;exact(jX tt).trans rfl
  . have e:stk (f'::g::fs)=stk (f::g::fs):=(iT (f:=f') (fs:=g::fs)).trans (iT (f:=f) (fs:=g::fs)).symm;rw[ju,e];show Holds _ ((S,.lst (stk (f::g::fs)))::(m,.lst [])::(s,.lst [.ptr m])::(n,.lst (cI ds))::((dL ds++[])++FS (g::fs) [f.op]));rw[Y7_];refine H2.perm ?_;exact(Zd (l₁:=[(S,PV.lst (stk (f::g::fs))),(m,.lst [])])).trans (((List.Perm.swap _ _ _).cons _).cons _)
  . rcases YF.mp hx with rfl | hx
    . obtain⟨g1,g2⟩:=fit f (by simp[f]);exact⟨(λd hd=>(by cases hd)),g2,g1⟩
    . exact fit x (by simp[hx])
  . rcases YF.mp hx with rfl | hx
    . exact Zj _
    . have:=sz x (by simp[hx]);omega
  . rfl
theorem R5 {f:Fr} {fs:List Fr} {d:Done} {L:qd} (h:Holds mu ((S,.lst (stk (f::fs)))::FS (f::fs) [])) (h2:Holds mu (L++((S,.lst (stk (f::fs)))::FS (f::fs) []))) (hL:d.L=L):Holds (mu.set f.n (some (.lst (cI f.ds++[d.p])))) ((S,.lst (stk (f::fs)))::FS (⟨f.n,f.s,f.ds++[d],f.kd⟩::fs) []):=by
 rw[ju]at h2;have p1:List.Perm ((f.n,PV.lst (cI f.ds))::(L++((S,.lst (stk (f::fs)))::(f.s,.lst f.sc)::((f.kd.st++dL f.ds)++FS fs [f.op])))) (L++((S,.lst (stk (f::fs)))::(f.n,.lst (cI f.ds))::(f.s,.lst f.sc)::((f.kd.st++dL f.ds)++FS fs [f.op]))):=by have:=(Zd (l₁:=L++[(S,PV.lst (stk (f::fs)))]) (a:=(f.n,PV.lst (cI f.ds))) (l₂:=(f.s,.lst f.sc)::((f.kd.st++dL f.ds)++FS fs [f.op]))).symm;simpa using this
 have H1:=(h2.perm p1).set (q:=.lst (cI f.ds++[d.p]));have eo:(⟨f.n,f.s,f.ds++[d],f.kd⟩:Fr).op=f.op:=by cases f with | mk n s ds kd=>cases kd<;>rfl
 have es:(⟨f.n,f.s,f.ds++[d],f.kd⟩:Fr).sc=f.sc:=by cases f with | mk n s ds kd=>cases kd<;>rfl
 rw[ju,eo,es];show Holds _ ((S,.lst (stk (f::fs)))::(f.n,.lst (cI (f.ds++[d])))::(f.s,.lst f.sc)::((f.kd.st++dL (f.ds++[d]))++FS fs [f.op]));rw[show cI (f.ds++[d])=cI f.ds++[d.p] by simp[cI],Ef,show dL [d]=L by rw[<-hL]; exact Y7_ _];refine H1.perm ?_;have q:List.Perm ((f.kd.st++(dL f.ds++L))++FS fs [f.op]) (L++((f.kd.st++dL f.ds)++FS fs [f.op])):=by rw[<-YQ (f.kd.st),<-YQ L];exact List.perm_append_comm.append_right _
 have q2:=((q.cons (f.s,PV.lst f.sc)).cons (S,PV.lst (stk (f::fs)))).trans ((List.perm_middle.symm.cons _).trans Zd.symm);exact(List.Perm.swap _ _ _).trans (q2.cons _)
theorem VP {f:Fr} {fs:List Fr} {d:Done} {mu':Mu} (h:St mu b S t (f::fs)) (hd:d.fit) (H:Holds mu' ((S,.lst (stk (f::fs)))::FS (⟨f.n,f.s,f.ds++[d],f.kd⟩::fs) [])):St mu' b S (t+1) (⟨f.n,f.s,f.ds++[d],f.kd⟩::fs):=by
 obtain⟨_,fit,sh,ln,sz⟩:=h;refine⟨?_,λx hx=>?_,uD sh,by simpa using ln,λx hx=>?_⟩
 . have e:stk (⟨f.n,f.s,f.ds++[d],f.kd⟩::fs)=stk (f::fs):=by rw[iT,iT]
   rw[e];exact H
 . rcases YF.mp hx with rfl | hx
   . obtain⟨g1,g2⟩:=fit f (by simp);refine⟨λy hy=>?_,g2⟩;rcases Y6_.mp hy with hy | hy
     . exact g1 y hy
     . rw[Ze.mp hy];exact hd
   . exact fit x (by simp[hx])
 . rcases YF.mp hx with rfl | hx
   . have:=sz f (by simp);simp only[YJ,Yy,YK];omega
   . have:=sz x (by simp[hx]);omega
end
section
variable [HK]
variable {X:PV} {own ls:List Str} {hs:Hd} {ws:List Str} {b S t:Nat} {o7 o8:Option Lc} {mu:Mu}
theorem Ov {f F:Fr} {fs:List Fr} (hF:F.ds=[]) (hC:Holds mu (((F.n,.lst [])::F.kd.st)++((S,.lst (stk (f::fs)))::FS (f::fs) []))) (hs:F.s=mu.length):
 Holds ((mu.set f.n (some (PV.lst (cI f.ds++[F.op])))++[some (PV.lst F.sc)]).set S (some (PV.lst (stk (F::f::fs))))) ((S,.lst (stk (F::f::fs)))::FS (F::f::fs) []):=by
 rw[ju]at hC;let K:=F.kd.st;let A:Nat×PV:=(F.n,.lst []);let E:Nat×PV:=(f.s,.lst f.sc);let R:=(f.kd.st++dL f.ds)++FS fs [f.op];have p1:List.Perm ((f.n,PV.lst (cI f.ds))::((S,.lst (stk (f::fs)))::((A::K)++(E::R)))) (((F.n,.lst [])::F.kd.st)++((S,.lst (stk (f::fs)))::(f.n,.lst (cI f.ds))::E::R)):=by refine List.Perm.trans ?_ (Zd (l₁:=A::K) (a:=(S,PV.lst (stk (f::fs)))) (l₂:=(f.n,.lst (cI f.ds))::E::R)).symm;refine(List.Perm.swap _ _ _).trans ((Zd (l₁:=A::K) (a:=(f.n,PV.lst (cI f.ds))) (l₂:=E::R)).symm.cons _)
 have H1:=(hC.perm p1).set (q:=.lst (cI f.ds++[F.op]));have H2:=H1.push (.lst F.sc);rw[aad,<-hs]at H2;let B:Nat×PV:=(F.s,.lst F.sc);let D:Nat×PV:=(f.n,.lst (cI f.ds++[F.op]));have H3:=H2.perm (Zd (l₁:=[B,D]) (a:=(S,PV.lst (stk (f::fs)))) (l₂:=(A::K)++(E::R))).symm;have H4:=H3.set (q:=.lst (stk (F::f::fs)));refine H4.perm (List.Perm.cons _ ?_);rw[ju,hF];show List.Perm (A::B::((K++[])++(D::E::R))) (B::D::((A::K)++(E::R)));rw[Y7_];exact(List.Perm.swap _ _ _).trans ((((Zd (l₁:=K) (a:=D) (l₂:=E::R)).cons A).trans (List.Perm.swap _ _ _)).cons B)
theorem wZ {w:Str} {ps:List PV}:aR (aa 8) (abO 0) (ZE X own ls hs ws b S o7 (zS (.tup (.str w::ps))) mu)=some (.sh (.str w),ZE X own ls hs ws b S o7 (zS (.tup (.str w::ps))) mu):=
 gb (p:=.tup (.str w::ps)) (q:=.int 0) (l:=.sh (.tup (.str w::ps))) (m:=.sh (.int 0)) rfl rfl rfl rfl (λn h=>by cases h) (by show (gq (PV.str w::ps) 0).map _=_; rw[at0]; rfl)
theorem Eg {w:Str} {ps:List PV} {fs:List Fr} (h:mu[S]?=some (some (.lst (stk fs)))):cL (tT (aq pQ (aR (aa 8) (abO 0)) (aZ (aj (abP "if") (aj (abP "while") ao)))) aY) (tT (aq Cz (j9 (aa 6)) (abO 5)) aY) (ZE X own ls hs ws b S o7 (zS (.tup (.str w::ps))) mu)=some (jM w&&decide ((fs.length:Int)<5),ZE X own ls hs ws b S o7 (zS (.tup (.str w::ps))) mu):=
 jQ (jY (l:=.sh (.bl (jM w))) (aN wZ rfl rfl) rfl) (jY (l:=.sh (.bl (decide ((fs.length:Int)<5)))) (mq (p:=.int (fs.length:Nat)) (q:=.int 5) (l:=.sh (.int (fs.length:Nat))) (m:=.sh (.int 5)) (Qj h) rfl rfl rfl rfl) rfl)
theorem wA {c:Int} {f:Fr} {fs:List Fr} {d:Dr} {D:Done} {w:Str} {ps:List PV} (er:fU [.int c,.lst (SS own),.lst (SS ls),.lst (fQ hs),.lst (SS ws)] mu=some (.sh (d.pv mu.length),mu++d.cl)) (h:St mu b S t (f::fs)) (ht:t<=1000)
 (hp:d.pv mu.length=.tup (.str w::ps)) (hD:D.p=d.pv mu.length) (hf:D.fit) (hL:Holds (mu++d.cl) (D.L++((S,.lst (stk (f::fs)))::FS (f::fs) []))) (hb:(jM w&&decide (((f::fs).length:Int)<5))=false):
 ∃mu' p8,Qi (ZE X own ls hs ws b S (zI c) o8 mu)=some (.nx (ZE X own ls hs ws b S (zI c) p8 mu'))/\St mu' b S (t+1) (⟨f.n,f.s,f.ds++[D],f.kd⟩::fs):=by
 have Hg:=h.h.grow d.cl;have hz:=h.sz f Yz;let C:Option Lc:=zI c;let P:Option Lc:=zS (d.pv mu.length);have H5:=R5 Hg hL rfl;rw[hD]at H5;refine⟨(mu++d.cl).set f.n (some (PV.lst (cI f.ds++[d.pv mu.length]))),P,?_,VP h hf H5⟩;refine aF (U':=ZE X own ls hs ws b S C P (mu++d.cl)) (bD (l:=.sh (d.pv mu.length)) (U1:=ZE X own ls hs ws b S C o8 (mu++d.cl)) (bH (ls:=[.sh (.int c),.sh (.lst (SS own)),.sh (.lst (SS ls)),.sh (.lst (fQ hs)),.sh (.lst (SS ws))]) (ps:=[.int c,.lst (SS own),.lst (SS ls),.lst (fQ hs),.lst (SS ws)]) (U1:=ZE X own ls hs ws b S C o8 mu) rfl rfl rfl rfl er) rfl rfl) ?_;refine aF (Qk (t:=t) Hg (by omega)) ?_;have tt:=Eg (X:=X) (own:=own) (ls:=ls) (hs:=hs) (ws:=ws) (b:=b) (o7:=C) (w:=w) (ps:=ps) (fs:=f::fs) H5.head;rw[hb]at tt;show Xc (ZE X own ls hs ws b S C (zS (d.pv mu.length)) _)=_;rw[show P=zS (.tup (.str w::ps)) from congrArg (λx=>some (Lc.sh x)) hp,hp];rw[hp]at tt;exact(jX tt).trans rfl
theorem Eh {c:Int} {f F:Fr} {fs:List Fr} {d:Dr} {w:Str} {ps:List PV} (er:fU [.int c,.lst (SS own),.lst (SS ls),.lst (fQ hs),.lst (SS ws)] mu=some (.sh (d.pv mu.length),mu++d.cl)) (h:St mu b S t (f::fs)) (ht:t<=1000)
 (hp:d.pv mu.length=.tup (.str w::ps)) (hF:F.ds=[]) (hop:F.op=d.pv mu.length) (hk:F.fit) (hr:F.kd≠.root) (hs':F.s=(mu++d.cl).length) (hL:Holds (mu++d.cl) (((F.n,.lst [])::F.kd.st)++((S,.lst (stk (f::fs)))::FS (f::fs) []))) (hb:(jM w&&decide (((f::fs).length:Int)<5))=true)
 (hc:∀mu:Mu,dF (fX (oU (aa 8) (cA (abO 2)) iy) cC) 1 [] (aA 0) bQ (aa 0) (ZE X own ls hs ws b S (zI c) (zS F.op) mu)=some (.own (.lst F.sc),ZE X own ls hs ws b S (zI c) (zS F.op) mu)):
 ∃mu' p8,Qi (ZE X own ls hs ws b S (zI c) o8 mu)=some (.nx (ZE X own ls hs ws b S (zI c) p8 mu'))/\St mu' b S (t+1) (F::f::fs):=by
 have Hg:=h.h.grow d.cl;have hz:=h.sz f Yz;let C:Option Lc:=zI c;let P:Option Lc:=zS F.op;have H5:=Ov hF hL hs';obtain⟨_,fit,sh,ln,sz⟩:=h;have hlen:(f::fs).length<5:=by have h2:decide (((f::fs).length:Int)<5)=true:=(Zy _ _▸hb).2;have h3:=of_decide_eq_true h2;omega
 let mu2:=(mu++d.cl).set f.n (some (PV.lst (cI f.ds++[F.op])));have hS2:mu2[S]?=some (some (.lst (stk (f::fs)))):=by
  have h2:=hL;have ne:f.n≠S:=by have nd:=Hg.1;rw[ju]at nd;exact λq=>(Zo.mp nd).1 (by rw[<-q]; exact Yz)
  show ((mu++d.cl).set f.n _)[S]?=_;rw[aaf ne];exact Hg.head
 refine⟨(mu2++[some (PV.lst F.sc)]).set S (some (PV.lst (stk (F::f::fs)))),P,?_,⟨H5,λx hx=>?_,⟨hr,sh⟩,by simp only[Yy]at hlen ⊢; omega,λx hx=>?_⟩⟩
 . refine aF (U':=ZE X own ls hs ws b S C P (mu++d.cl)) (bD (l:=.sh F.op) (U1:=ZE X own ls hs ws b S C o8 (mu++d.cl)) (bH (ls:=[.sh (.int c),.sh (.lst (SS own)),.sh (.lst (SS ls)),.sh (.lst (fQ hs)),.sh (.lst (SS ws))]) (ps:=[.int c,.lst (SS own),.lst (SS ls),.lst (fQ hs),.lst (SS ws)]) (U1:=ZE X own ls hs ws b S C o8 mu) rfl rfl rfl rfl (by rw[hop]; exact er)) rfl rfl) ?_;refine aF (Qk (t:=t) Hg (by omega)) ?_;have tt:=Eg (X:=X) (own:=own) (ls:=ls) (hs:=hs) (ws:=ws) (b:=b) (o7:=C) (w:=w) (ps:=ps) (fs:=f::fs) hS2;rw[hb]at tt;have e9:P=zS (.tup (.str w::ps)):=congrArg (λx=>some (Lc.sh x)) (hop.trans hp);have tt2:cL (tT (aq pQ (aR (aa 8) (abO 0)) (aZ (aj (abP "if") (aj (abP "while") ao)))) aY) (tT (aq Cz (j9 (aa 6)) (abO 5)) aY) (ZE X own ls hs ws b S C P mu2)=some (true,ZE X own ls hs ws b S C P mu2):=by rw[e9];exact tt
   refine(jW tt2).trans ?_;have lt:S<mu2.length:=(YL.mp hS2).1;refine u0 (n:=S) (ws0:=stk (f::fs)) (ws:=stk (f::fs)) (p:=.ptr F.s) (o:=.sh (.ptr S)) (U1:=ZE X own ls hs ws b S C P mu2) (y:=.sh (.ptr F.s)) (U2:=ZE X own ls hs ws b S C P (mu2++[some (PV.lst F.sc)])) rfl rfl hS2 (R3 (hc mu2) (by rw[hs']; exact aad ..)) rfl ?_ (by rw[GZ]; omega) ?_
   . show (mu2++[some (PV.lst F.sc)])[S]?=_;rw[Zv lt];exact hS2
   . rw[<-iT]
 . rcases YF.mp hx with rfl | hx
   . exact hk
   . exact fit x hx
 . rcases YF.mp hx with rfl | hx
   . rw[hF]; exact Zj _
   . have:=sz x hx;omega
theorem Ow {c:Int} {f:Fr} {fs:List Fr} {d:Dr} (hd:d.ok) (er:∀mu,fU [.int c,.lst (SS own),.lst (SS ls),.lst (fQ hs),.lst (SS ws)] mu=some (.sh (d.pv mu.length),mu++d.cl)) (h:St mu b S t (f::fs)) (ht:t<=1000):
 ∃mu' fs' p8,Qi (ZE X own ls hs ws b S (zI c) o8 mu)=some (.nx (ZE X own ls hs ws b S (zI c) p8 mu'))/\St mu' b S (t+1) fs'/\fs'.map Fr.u=pD d ((f::fs).map Fr.u):=by
 have hl:(fs.map Fr.u).length=fs.length:=YH _;cases d with
 | row r=>
  have hr:r.low:=hd;obtain⟨w,ps,e,hw⟩:∃w ps,r.pv=.tup (.str w::ps)/\jM w=false:=by
   cases r with
   | leaf w ps=>exact⟨w,ps,rfl,GK hr.1⟩
   | call x n as=>exact⟨"call",_,rfl,by decide +kernel⟩
   | wh x c=>cases hr
   | iff x c d=>cases hr
  obtain⟨mu',p8,e1,e2⟩:=wA (X:=X) (o8:=o8) (D:=⟨r.pv,r,[]⟩) (er mu) h ht e rfl (R0 hr) (by rw[show mu++Dr.cl (.row r)=mu from Y7_ _]; exact h.h) (by rw[hw]; rfl);refine⟨mu',_,p8,e1,e2,?_⟩;show (gf (f.ds++[⟨r.pv,r,[]⟩]),f.kd.u)::fs.map Fr.u=(gf f.ds++[r],f.kd.u)::fs.map Fr.u;rw[gf,YZ];rfl
 | wh e=>
  have he:fl e:=hd;have H1:=h.h.push (.lst []);by_cases hb:fs.length+1<5
  . obtain⟨mu',p8,e1,e2⟩:=Eh (X:=X) (o8:=o8) (F:=⟨mu.length,mu.length+1,[],.W e⟩) (er mu) h ht (w := "while") (ps:=[e,.ptr mu.length]) rfl rfl rfl ⟨(λd hd=>(by cases hd)),he⟩ (by intro q; cases q) (by simp[Dr.cl]) H1 (by rw[show jM "while" = true by decide +kernel,Bool.true_and];exact aaR (by simp only[Yy]; omega)) (λmu=>rfl)
    refine⟨mu',_,p8,e1,e2,?_⟩;show _=if (fs.map Fr.u).length+1<5 then _ else _
    rw[hl,aaN hb];rfl
  . obtain⟨mu',p8,e1,e2⟩:=wA (X:=X) (o8:=o8) (D:=⟨.tup [.str "while",e,.ptr mu.length],.wh e .nil,[(mu.length,.lst [])]⟩) (er mu) h ht (w := "while") (ps:=[e,.ptr mu.length]) rfl rfl (Ls (ds:=[]) he λd hd=>by cases hd) H1 (by rw[show jM "while" = true by decide +kernel,Bool.true_and];exact aaQ (by simp only[Yy]; omega))
    refine⟨mu',_,p8,e1,e2,?_⟩;show _=if (fs.map Fr.u).length+1<5 then _ else _
    rw[hl,aaO hb];show (gf (f.ds++[_]),f.kd.u)::fs.map Fr.u=_;rw[gf,YZ];rfl
 | iff e=>
  have he:fl e:=hd;have Hq0:=(h.h.push (.lst [])).push (.lst []);have e2:(mu++[some (PV.lst [])])++[some (PV.lst [])]=mu++Dr.cl (.iff e):=by simp[Dr.cl]
  rw[e2,show (mu++[some (PV.lst [])]).length=mu.length+1 by simp]at Hq0;have H1:Holds (mu++Dr.cl (.iff e)) ((mu.length,.lst [])::(mu.length+1,.lst [])::((S,.lst (stk (f::fs)))::FS (f::fs) [])):=Hq0.perm (List.Perm.swap _ _ _);by_cases hb:fs.length+1<5
  . obtain⟨mu',p8,e1,e2⟩:=Eh (X:=X) (o8:=o8) (F:=⟨mu.length,mu.length+2,[],.I1 e (mu.length+1)⟩) (er mu) h ht (w := "if") (ps:=[e,.ptr mu.length,.ptr (mu.length+1)]) rfl rfl rfl ⟨(λd hd=>(by cases hd)),he⟩ (by intro q; cases q) (by simp[Dr.cl]) H1 (by rw[show jM "if" = true by decide +kernel,Bool.true_and];exact aaR (by simp only[Yy]; omega)) (λmu=>rfl)
    refine⟨mu',_,p8,e1,e2,?_⟩;show _=if (fs.map Fr.u).length+1<5 then _ else _
    rw[hl,aaN hb];rfl
  . obtain⟨mu',p8,e1,e2⟩:=wA (X:=X) (o8:=o8) (D:=⟨.tup [.str "if",e,.ptr mu.length,.ptr (mu.length+1)],.iff e .nil .nil,[(mu.length,.lst []),(mu.length+1,.lst [])]⟩) (er mu) h ht (w := "if") (ps:=[e,.ptr mu.length,.ptr (mu.length+1)]) rfl rfl (yO (bs:=[]) (ds:=[]) he (λd hd=>by cases hd) λd hd=>by cases hd) H1 (by rw[show jM "if" = true by decide +kernel,Bool.true_and];exact aaQ (by simp only[Yy]; omega))
    refine⟨mu',_,p8,e1,e2,?_⟩;show _=if (fs.map Fr.u).length+1<5 then _ else _
    rw[hl,aaO hb];show (gf (f.ds++[_]),f.kd.u)::fs.map Fr.u=_;rw[gf,YZ];rfl
end
def Ei (lev:Nat) (r:Row):Prop:=r.ok/\r.dep<=10-2*lev/\r.bl+1<=3*2 ^ (4-lev)
def UK.ok (lev:Nat):UK->Prop
 | .root=>lev=0
 | .W e=>0<lev/\fl e
 | .I1 e=>0<lev/\fl e
 | .I2 e b=>0<lev/\fl e/\∀r∈b,Ei lev r
def pF:List U_->Prop
 | []=>True
 | u::us=>(∀r∈u.1,Ei us.length r)/\u.2.ok us.length/\pF us
def UK.cnt:UK->Nat
 | .root=>0
 | .W _=>1
 | .I1 _=>1
 | .I2 _ b=>dH b+1
def fP:List U_->Nat
 | []=>0
 | u::us=>dH u.1+u.2.cnt+fP us
theorem wB {lev:Nat} {rs:List Row} (hl:lev<=4) (h:∀r∈rs,Ei lev r):(rowsOf rs).ok/\(rowsOf rs).dep<=11-2*lev/\(rowsOf rs).bl+1<=3*2 ^ (4-lev):=by
 have hp:1<=2 ^ (4-lev):=Nat.one_le_two_pow;refine⟨mX _ λr hr=>(h r hr).1,tD (by omega) _ λr hr=>?_,?_⟩
 . have:=(h r hr).2.1;omega
 . have:=uB (n:=3*2 ^ (4-lev)-1) rs λr hr=>by have:=(h r hr).2.2;omega
   omega
theorem z8 {lev:Nat} {k:UK} {rs:List Row} (hl:lev+1<=4) (hk:k.ok (lev+1)) (h:∀r∈rs,Ei (lev+1) r):Ei lev (k.close rs)/\(k.close rs).cnt=dH rs+k.cnt:=by
 obtain⟨g1,g2,g3⟩:=wB hl h;have e:2 ^ (4-lev)=2*2 ^ (4-(lev+1)):=by rw[show 4-lev=(4-(lev+1))+1 by omega,Nat.pow_succ,Nat.mul_comm]
 have hp:1<=2 ^ (4-(lev+1)):=Nat.one_le_two_pow;have hnd:Rows.dep .nil=1:=rfl;cases k with
 | root=>cases hk
 | W e=>
  refine⟨⟨⟨hk.2,g1⟩,?_,?_⟩,?_⟩
  . show (rowsOf rs).dep+1<=_;omega
  . show 1+1<=_;omega
  . show (rowsOf rs).cnt+1=_;rw[jJ]; rfl
 | I1 e=>
  refine⟨⟨⟨hk.2,g1,True.intro⟩,?_,?_⟩,?_⟩
  . show max (rowsOf rs).dep (Rows.dep .nil)+1<=_;omega
  . show 1+(rowsOf rs).bl+0+1<=_;omega
  . show (rowsOf rs).cnt+0+1=_;rw[jJ]; rfl
 | I2 e b=>
  obtain⟨b1,b2,b3⟩:=wB hl hk.2.2;refine⟨⟨⟨hk.2.1,b1,g1⟩,?_,?_⟩,?_⟩
  . show max (rowsOf b).dep (rowsOf rs).dep+1<=_;omega
  . show 1+(rowsOf b).bl+(rowsOf rs).bl+1<=_;omega
  . show (rowsOf b).cnt+(rowsOf rs).cnt+1=dH rs+(dH b+1);rw[jJ,jJ];omega
theorem R6 {us:List U_} {d:Dr} (hd:d.ok) (h:pF us) (hl:us.length<=5) (hn:us≠[]):pF (pD d us)/\(pD d us).length<=5/\pD d us≠[]/\fP (pD d us)<=fP us+1:=by
 cases us with
 | nil=>exact absurd rfl hn
 | cons u us=>
  obtain⟨rs,k⟩:=u;obtain⟨h1,h2,h3⟩:=h;simp only[Yy]at hl;have hp:1<=2 ^ (4-us.length):=Nat.one_le_two_pow;have put:∀r:Row,Ei us.length r->r.cnt=1->pF ((rs++[r],k)::us)/\((rs++[r],k)::us).length<=5/\((rs++[r],k)::us)≠[]/\fP ((rs++[r],k)::us)<=fP ((rs,k)::us)+1:=λr hr hc=>by
   refine⟨⟨λx hx=>?_,h2,h3⟩,(by simp only[Yy]; omega),(by intro q; cases q),?_⟩
   . rcases Y6_.mp hx with hx | hx
     . exact h1 x hx
     . rw[Ze.mp hx]; exact hr
   . show dH (rs++[r])+k.cnt+fP us<=dH rs+k.cnt+fP us+1;rw[wz];have:dH [r]=r.cnt:=by simp[dH]
     omega
  have push:∀k':UK,k'.ok (us.length+1)->k'.cnt=1->us.length+1<5->pF (([],k')::(rs,k)::us)/\(([],k')::(rs,k)::us).length<=5/\(([],k')::(rs,k)::us)≠[]/\fP (([],k')::(rs,k)::us)<=fP ((rs,k)::us)+1:=λk' hk hc hb=>by refine⟨⟨λx hx=>(by cases hx),hk,h1,h2,h3⟩,(by simp only[Yy]; omega),(by intro q; cases q),?_⟩;show dH []+k'.cnt+fP ((rs,k)::us)<=_;have:dH []=0:=rfl;omega
  cases d with
  | row r=>
   have hr:r.low:=hd;refine put r ?_ ?_
   . cases r with
     | leaf w ps=>exact⟨hr,by show 1<=_; omega,by show 1+1<=_; omega⟩
     | call x n as=>exact⟨hr,by show 1<=_; omega,by show 2+1<=_; omega⟩
     | wh x c=>cases hr
     | iff x c d=>cases hr
   . cases r with
     | leaf w ps=>rfl
     | call x n as=>rfl
     | wh x c=>cases hr
     | iff x c d=>cases hr
  | wh e=>
   show pF (if us.length+1<5 then _ else _)/\_;by_cases hb:us.length+1<5
   . rw[pD,aaN hb];exact push (.W e) ⟨by omega,hd⟩ rfl hb
   . rw[pD,aaO hb];exact put (.wh e .nil) ⟨⟨hd,True.intro⟩,by show 1+1<=_; omega,by show 1+1<=_; omega⟩ rfl
  | iff e=>
   show pF (if us.length+1<5 then _ else _)/\_;by_cases hb:us.length+1<5
   . rw[pD,aaN hb];exact push (.I1 e) ⟨by omega,hd⟩ rfl hb
   . rw[pD,aaO hb];exact put (.iff e .nil .nil) ⟨⟨hd,True.intro,True.intro⟩,by show max 1 1+1<=_; omega,by show 1+0+0+1<=_; omega⟩ rfl
theorem R7 {us:List U_} (h:pF us) (hl:us.length<=5) (hn:us.length>1):pF (sG us)/\(sG us).length<=5/\sG us≠[]/\fP (sG us)<=fP us+1:=by
 match us,h,hl,hn with
 | (rs,k)::(rs',k')::us,h,hl,hn=>
  obtain⟨h1,h2,h3,h4,h5⟩:=h;simp only[Yy]at hl h1 h2;have low:pF ((rs'++[k.close rs],k')::us)/\((rs'++[k.close rs],k')::us).length<=5/\((rs'++[k.close rs],k')::us)≠[]/\fP ((rs'++[k.close rs],k')::us)<=fP ((rs,k)::(rs',k')::us)+1:=by
   obtain⟨c1,c2⟩:=z8 (lev:=us.length) (by omega) h2 h1;refine⟨⟨λx hx=>?_,h4,h5⟩,(by simp only[Yy]; omega),(by intro q; cases q),?_⟩
   . rcases Y6_.mp hx with hx | hx
     . exact h3 x hx
     . rw[Ze.mp hx]; exact c1
   . show dH (rs'++[k.close rs])+k'.cnt+fP us<=dH rs+k.cnt+(dH rs'+k'.cnt+fP us)+1;rw[wz];have:dH [k.close rs]=(k.close rs).cnt:=by simp[dH]
     omega
  cases k with
  | root=>cases h2
  | W e=>exact low
  | I2 e b=>exact low
  | I1 e=>
   refine⟨⟨λx hx=>(by cases hx),⟨h2.1,h2.2,h1⟩,h3,h4,h5⟩,hl,(by intro q; cases q),?_⟩;show dH []+(dH rs+1)+fP ((rs',k')::us)<=dH rs+1+fP ((rs',k')::us)+1;have:dH []=0:=rfl;omega
def nW:List U_->List Int->List Dr->List U_
 | us,c::cs,d::ds=>nW (lE us c d) cs ds
 | us,_,_=>us
theorem Ox {us:List U_} {c:Int} {d:Dr} (hd:d.ok) (h:pF us) (hl:us.length<=5) (hn:us≠[]):pF (lE us c d)/\(lE us c d).length<=5/\lE us c d≠[]/\fP (lE us c d)<=fP us+1:=by
 unfold lE;split
 . rename_i hb;have h2:decide ((us.length:Int)>1)=true:=(Zy _ _▸hb).2;have h3:=of_decide_eq_true h2;exact R7 h hl (by omega)
 . exact R6 hd h hl hn
theorem Ej:∀(cs:List Int) (ds:List Dr) (us:List U_),(∀d∈ds,d.ok)->pF us->us.length<=5->us≠[]->pF (nW us cs ds)/\(nW us cs ds).length<=5/\nW us cs ds≠[]/\fP (nW us cs ds)<=fP us+cs.length
 | [],ds,us,_,h,hl,hn=>⟨h,hl,hn,YC _⟩
 | c::cs,[],us,_,h,hl,hn=>⟨h,hl,hn,Nat.le_add_right _ _⟩
 | c::cs,d::ds,us,hd,h,hl,hn=>by obtain⟨g1,g2,g3,g4⟩:=Ox (c:=c) (hd d Yz) h hl hn;obtain⟨k1,k2,k3,k4⟩:=Ej cs ds (lE us c d) (λx hx=>hd x (YG _ hx)) g1 g2 g3;refine⟨k1,k2,k3,?_⟩;simp only[Yy];show fP (nW (lE us c d) cs ds)<=_;omega
def u9 (u v:U_):U_:=(v.1++[u.2.close u.1],v.2)
def uE:List U_->List Row
 | []=>[]
 | u::us=>(us.foldl u9 u).1
theorem z9:∀(us:List U_) (u:U_),pF (u::us)->(u::us).length<=5->(∀r∈uE (u::us),Ei 0 r)/\dH (uE (u::us))<=fP (u::us)
 | [],u,h,_=>⟨h.1,by show dH u.1<=dH u.1+u.2.cnt+0; omega⟩
 | v::us,u,h,hl=>by
  obtain⟨h1,h2,h3,h4,h5⟩:=h;simp only[Yy]at hl h1 h2;obtain⟨c1,c2⟩:=z8 (lev:=us.length) (by omega) h2 h1;have ih:=z9 us (u9 u v) ⟨λx hx=>by
   rcases Y6_.mp hx with hx | hx
   . exact h3 x hx
   . rw[Ze.mp hx]; exact c1,h4,h5⟩ (by simp only[Yy]; omega)
  refine⟨ih.1,Zc ih.2 ?_⟩;show dH (v.1++[u.2.close u.1])+v.2.cnt+fP us<=dH u.1+u.2.cnt+(dH v.1+v.2.cnt+fP us);rw[wz];have:dH [u.2.close u.1]=(u.2.close u.1).cnt:=by simp[dH]
  omega
theorem Aa {mu:Mu} {b:Nat}:∀(fs:List Fr) (f:Fr),Holds mu (FS (f::fs) [])->(∀x∈f::fs,x.fit)->Shape b (f::fs)->∃F:Fr,Holds mu (FS [F] [])/\F.fit/\F.n=b/\gf F.ds=uE ((f::fs).map Fr.u)
 | [],f,h,hf,hs=>⟨f,h,hf f Yz,hs.2,rfl⟩
 | g::fs,f,h,hf,hs=>by
  have hr:f.kd≠.root:=hs.1;have H:=Fj hr h;obtain⟨F,k1,k2,k3,k4⟩:=Aa (b:=b) fs ⟨g.n,g.s,g.ds++[f.cls],g.kd⟩ H (λx hx=>by
   rcases YF.mp hx with rfl | hx
   . obtain⟨g1,g2⟩:=hf g (by simp);refine⟨λd hd=>?_,g2⟩;rcases Y6_.mp hd with hd | hd
     . exact g1 d hd
     . rw[Ze.mp hd];exact GX (hf f Yz) hr
   . exact hf x (by simp[hx])) (uD hs.2)
  refine⟨F,k1,k2,k3,k4.trans ?_⟩;show ((fs.map Fr.u).foldl u9 (Fr.u ⟨g.n,g.s,g.ds++[f.cls],g.kd⟩)).1=((fs.map Fr.u).foldl u9 (u9 f.u g.u)).1;have e:Fr.u ⟨g.n,g.s,g.ds++[f.cls],g.kd⟩=u9 f.u g.u:=by show (gf (g.ds++[f.cls]),g.kd.u)=(gf g.ds++[f.kd.u.close (gf f.ds)],g.kd.u);rw[gf,YZ,List.map_singleton,Qh]
  rw[e]
section
variable [HK]
variable {X:PV} {own ls:List Str} {hs:Hd} {ws:List Str}
theorem R8 {c:Int} {d:Dr} {b S t:Nat} {o8:Option Lc} {mu:Mu} {fs:List Fr} (hd:d.ok) (er:∀mu,fU [.int c,.lst (SS own),.lst (SS ls),.lst (fQ hs),.lst (SS ws)] mu=some (.sh (d.pv mu.length),mu++d.cl)) (h:St mu b S t fs) (ht:t<=1000):
 ∃mu' fs' p8,Xd (ZE X own ls hs ws b S (zI c) o8 mu)=some (.nx (ZE X own ls hs ws b S (zI c) p8 mu'))/\St mu' b S (t+1) fs'/\fs'.map Fr.u=lE (fs.map Fr.u) c d:=by
 have tt:=R4 (X:=X) (own:=own) (ls:=ls) (hs:=hs) (ws:=ws) (b:=b) (o8:=o8) (c:=c) (fs:=fs) h.h.head;have eu:lE (fs.map Fr.u) c d=if ((c%8==0)&&decide ((fs.length:Int)>1))=true then sG (fs.map Fr.u) else pD d (fs.map Fr.u):=by unfold lE;rw[YH]
 cases hb:((c%8==0)&&decide ((fs.length:Int)>1)) with
 | true=>
  rw[hb]at tt eu;have h2:decide ((fs.length:Int)>1)=true:=(Zy _ _▸hb).2;have h3:=of_decide_eq_true h2
  match fs,h,h3,tt,eu with
  | f::g::fs,h,h3,tt,eu=>
   obtain⟨mu',fs',e1,e2,e3⟩:=Ou (X:=X) (own:=own) (ls:=ls) (hs:=hs) (ws:=ws) (o7:=zI c) (o8:=o8) h;exact⟨mu',fs',o8,(jW tt).trans e1,e2,e3.trans (by rw[eu,aaN rfl])⟩
  | [f],h,h3,tt,eu=>simp at h3
  | [],h,h3,tt,eu=>simp at h3
 | false=>
  rw[hb]at tt eu
  match fs,h,tt,eu with
  | f::fs,h,tt,eu=>
   obtain⟨mu',fs',p8,e1,e2,e3⟩:=Ow (X:=X) (o8:=o8) hd er h ht;exact⟨mu',fs',p8,(jX tt).trans e1,e2,e3.trans (by rw[eu,aaO (by simp)])⟩
  | [],h,tt,eu=>exact h.sh.elim
theorem G4 (hh:∀h∈hs,h.1.length<=1000/\h.2.length<=50):∀(cs:List Int),∃ds:List Dr,(∀d∈ds,d.ok)/\∀(X:PV) (b S t:Nat) (o7 o8:Option Lc) (mu:Mu) (fs:List Fr),St mu b S t fs->t+cs.length<=1000->
 ∃mu' fs' p7 p8,cP (aA 7) Xd (cs.map PV.int) (ZE X own ls hs ws b S o7 o8 mu)=some (.nx (ZE X own ls hs ws b S p7 p8 mu'))/\St mu' b S (t+cs.length) fs'/\fs'.map Fr.u=nW (fs.map Fr.u) cs ds
 | []=>⟨[],λd hd=>(by cases hd),λX b S t o7 o8 mu fs h _=>⟨mu,fs,o7,o8,rfl,h,rfl⟩⟩
 | c::cs=>by
  obtain⟨d,hd,er⟩:=VM c own ls hs ws hh;obtain⟨ds,hds,ih⟩:=G4 hh cs;refine⟨d::ds,λx hx=>?_,λX b S t o7 o8 mu fs h hl=>?_⟩
  . rcases YF.mp hx with rfl | hx
    . exact hd
    . exact hds x hx
  . simp only[Yy]at hl;obtain⟨mu1,fs1,q8,e1,e2,e3⟩:=R8 (X:=X) (o8:=o8) hd er h (by omega);obtain⟨mu2,fs2,p7,p8,k1,k2,k3⟩:=ih X b S (t+1) (zI c) q8 mu1 fs1 e2 (by omega);refine⟨mu2,fs2,p7,p8,cF (U1:=ZE X own ls hs ws b S (zI c) o8 mu) rfl e1 k1,?_,k3.trans (by rw[e3]; rfl)⟩;rw[show t+(c::cs).length=t+1+cs.length by simp only[Yy]; omega];exact k2
theorem G5 (hh:∀h∈hs,h.1.length<=1000/\h.2.length<=50) (cs:List Int) (hc:cs.length<=900):∃rs:Rows,rs.ok/\rs.dep<=11/\rs.bl<=47/\rs.cnt<=cs.length/\∀mu,∃mu',mJ [.lst (cs.map PV.int),.lst (SS own),.lst (SS ls),.lst (fQ hs),.lst (SS ws)] mu=some (.sh (.lst rs.pvs),mu'):=by
 obtain⟨ds,hds,lp⟩:=G4 (own:=own) (ls:=ls) (ws:=ws) hh cs;obtain⟨g1,g2,g3,g4⟩:=Ej cs ds [([],.root)] hds ⟨λx hx=>(by cases hx),rfl,True.intro⟩ (by decide) (by intro q; cases q);obtain⟨u,us,eu⟩:∃u us,nW [([],.root)] cs ds=u::us:=by
  cases h:nW [([],.root)] cs ds with
  | nil=>exact absurd h g3
  | cons u us=>exact⟨u,us,rfl⟩
 rw[eu]at g1 g2 g4;obtain⟨k1,k2⟩:=z9 us u g1 g2;obtain⟨r1,r2,r3⟩:=wB (lev:=0) (by decide) k1;refine⟨rowsOf (uE (u::us)),r1,r2,?_,?_,λmu=>?_⟩
 . have:3*2 ^ (4-0)=48:=by decide
   omega
 . rw[jJ];have:fP [(([],.root):U_)]=0:=rfl;omega
 . let b:=mu.length;let mu1:Mu:=mu++[some (.lst [])];let mu2:Mu:=mu1++[some (.lst [.ptr b])];let mu3:Mu:=mu2++[some (.lst [.ptr mu1.length])];let f0:Fr:=⟨b,mu1.length,[],.root⟩;let X:PV:=.lst (cs.map PV.int);have H:Holds mu3 ((mu2.length,.lst [.ptr mu1.length])::(mu1.length,.lst [.ptr b])::(b,.lst [])::[]):=((Holds.push (L:=[]) ⟨aas,λx hx=>(by cases hx)⟩ _).push _).push _;have st:St mu3 b mu2.length 0 [f0]:=⟨H.perm ((List.Perm.swap _ _ _).cons _),λx hx=>(by
    rw[Ze.mp hx];exact⟨λd hd=>(by cases hd),True.intro⟩),⟨rfl,rfl⟩,(by simp),λx hx=>(by
    rw[Ze.mp hx];exact YC _)⟩
   obtain⟨mu',fs',p7,p8,e1,e2,e3⟩:=lp X b mu2.length 0 none none mu3 [f0] st (by omega);obtain⟨f,fs,ef⟩:∃f fs,fs'=f::fs:=by
    cases fs' with
    | nil=>exact e2.sh.elim
    | cons f fs=>exact⟨f,fs,rfl⟩
   subst ef;obtain⟨F,c1,c2,c3,c4⟩:=Aa fs f e2.h.tail e2.fit e2.sh;have e4:(f::fs).map Fr.u=u::us:=e3.trans eu;rw[e4]at c4;rw[ju]at c1;have res:dB mu' 40 (.ptr b)=.lst (rowsOf (uE (u::us))).pvs:=by
    rw[<-c4,<-c3];refine u6 (k:=38) c2.1 c1.head (c1.tail.tail.sub ?_) λd hd=>?_
    . exact(ZQ _ _).trans (Zk _ _)
    . have:=(k1 d.r (by rw[<-c4]; exact Za.mpr ⟨d,hd,rfl⟩)).2.1;omega
   refine⟨mu'.map λ_=>none,?_⟩;let A:Mu->Option Lc->Option Lc->Option Lc->Option Lc->Ev:=λm o5 o6 o7 o8=>⟨[zS X,zL (SS own),zL (SS ls),zL (fQ hs),zL (SS ws),o5,o6,o7,o8],m⟩;refine bG (U:=A (mu'.map λ_=>none) (zS (.ptr b)) (zS (.ptr mu2.length)) p7 p8) ?_;refine aF (U':=A mu1 (zS (.ptr b)) none none none) rfl (aF (U':=ZE X own ls hs ws b mu2.length none none mu3) rfl (aF (U':=ZE X own ls hs ws b mu2.length p7 p8 mu') (dN (xs:=cs.map PV.int) (U1:=ZE X own ls hs ws b mu2.length none none mu3) (dw (l:=.sh X) rfl rfl) e1) (fY (Oh (l:=.sh (.ptr b)) (U1:=ZE X own ls hs ws b mu2.length p7 p8 mu') rfl res))))
end
theorem uF {f:PV->PV->Option Bool}:∀ps:List PV,(∀p∈ps,f p p=some true)->oO f ps ps=some true
 | [],_=>rfl
 | p::ps,h=>by show (f p p).bind _=_;rw[h p Yz,YB,uF ps λq hq=>h q (YG _ hq)];rfl
theorem jw {n:Nat} {ps:List PV} (h:∀p∈ps,cZ n p p=some true):cZ (n+1) (.tup ps) (.tup ps)=some true:=by show (oO (cZ n) ps ps).map _=_;rw[uF ps h];show some (true&&(ps.length==ps.length))=_;rw[aaT];rfl
theorem gn {n:Nat} {ps:List PV} (h:∀p∈ps,cZ n p p=some true):cZ (n+1) (.lst ps) (.lst ps)=some true:=by show (if ps.length=ps.length then oO (cZ n) ps ps else some false)=_;rw[aaN rfl,uF ps h]
mutual
theorem G6:∀(p:PV) (n:Nat),bA p=true->iY p<=n->cZ n p p=some true
 | .non,n,_,h=>by obtain⟨m,rfl⟩:∃m,n=m+1:=⟨n-1,by simp only[iY]at h; omega⟩;rfl
 | .bl x,n,_,h=>by obtain⟨m,rfl⟩:∃m,n=m+1:=⟨n-1,by simp only[iY]at h; omega⟩;show some (x==x)=_;rw[aaT]
 | .int x,n,_,h=>by obtain⟨m,rfl⟩:∃m,n=m+1:=⟨n-1,by simp only[iY]at h; omega⟩;show some (x==x)=_;rw[aaT]
 | .str x,n,_,h=>by obtain⟨m,rfl⟩:∃m,n=m+1:=⟨n-1,by simp only[iY]at h; omega⟩;show some (x==x)=_;rw[aaT]
 | .tup ps,n,f,h=>by simp only[iY]at h;obtain⟨m,rfl⟩:∃m,n=m+1:=⟨n-1,by omega⟩;exact jw (lX ps m (by simpa [bA] using f) (by omega))
 | .lst _,n,f,_=>by simp[bA]at f
 | .dk _ _,n,f,_=>by simp[bA]at f
 | .dt _ _,n,f,_=>by simp[bA]at f
 | .obj _ _ _,n,f,_=>by simp[bA]at f
 | .df _ _,n,f,_=>by simp[bA]at f
 | .dtf _ _,n,f,_=>by simp[bA]at f
 | .dx _ _ _,n,f,_=>by simp[bA]at f
 | .ptr _,n,f,_=>by simp[bA]at f
theorem lX:∀(ps:List PV) (n:Nat),eZ ps=true->nD ps<=n->∀p∈ps,cZ n p p=some true
 | [],n,_,_,p,hp=>by cases hp
 | q::ps,n,f,h,p,hp=>by
  simp only[eZ,Zy]at f;simp only[nD]at h;rcases YF.mp hp with e | hp
  . rw[e];exact G6 q n f.1 (by omega)
  . exact lX ps n f.2 (by omega) p hp
end
theorem fH {f:PV->Prop} {p:PV} {ps:List PV} (h:f p) (t:∀q∈ps,f q):∀q∈p::ps,f q:=λq hq=>by
 rcases YF.mp hq with rfl | hq
 . exact h
 . exact t q hq
theorem vd {f:PV->Prop}:∀q∈([]:List PV),f q:=λq hq=>by cases hq
theorem gh {n:Nat} {p:PV} (h:fl p) (hn:20<=n):cZ n p p=some true:=G6 p n h.1 (Zc h.2 hn)
mutual
theorem Oz:∀(r:Row) (n:Nat),r.ok->2*r.dep+22<=n->cZ n r.pv r.pv=some true
 | .leaf w ps,n,ok,h=>by simp only[Row.dep]at h;obtain⟨m,rfl⟩:∃m,n=m+1:=⟨n-1,by omega⟩;exact jw (fH (gh fK (by omega)) (lX ps m ok.2.1 (by have:=ok.2.2; omega)))
 | .call b x as,n,ok,h=>by simp only[Row.dep]at h;obtain⟨m,rfl⟩:∃m,n=m+2:=⟨n-2,by omega⟩;exact jw (fH (gh fK (by omega)) (fH (gh ok.1 (by omega)) (fH (gh fK (by omega)) (fH (gn (lX as m ok.2.2.1.1 (by have:=ok.2.2.1.2; omega))) vd))))
 | .wh e b,n,ok,h=>by simp only[Row.dep]at h;obtain⟨m,rfl⟩:∃m,n=m+2:=⟨n-2,by omega⟩;exact jw (fH (gh fK (by omega)) (fH (gh ok.1 (by omega)) (fH (gn (kJ b m ok.2 (by omega))) vd)))
 | .iff e b c,n,ok,h=>by simp only[Row.dep]at h;obtain⟨m,rfl⟩:∃m,n=m+2:=⟨n-2,by omega⟩;exact jw (fH (gh fK (by omega)) (fH (gh ok.1 (by omega)) (fH (gn (kJ b m ok.2.1 (by omega))) (fH (gn (kJ c m ok.2.2 (by omega))) vd))))
theorem kJ:∀(rs:Rows) (n:Nat),rs.ok->2*rs.dep+20<=n->∀p∈rs.pvs,cZ n p p=some true
 | .nil,n,_,_,p,hp=>by cases hp
 | .cons r rs,n,ok,h,p,hp=>by
  simp only[Rows.dep]at h;rcases YF.mp hp with e | hp
  . rw[e];exact Oz r n ok.1 (by omega)
  . exact kJ rs n ok.2 (by omega) p hp
end
structure Pg.fine (P:Pg):Prop where
 ok:P.ok
 bx:qQ P.boxes
 gr:qQ P.grants
 rk:∀f∈P.fns,fl f.rank
 dd:P.rows.dep<=11
 fd:∀f∈P.fns,f.rows.dep<=11
 bn:∃ts:List (Str×PV×PV),P.boxes=ts.map (λt=>.tup [.str t.1,t.2.1,t.2.2])/\ts.length<=60/\∀t∈ts,t.1.length<=1000
 nl:∀f∈P.fns,f.name.length<=1000/\∃xs:List Str,f.params=xs.map (λx=>.tup [.str x,.non])/\xs.length<=100/\∀x∈xs,x.length<=1000
theorem R9 {P:Pg} (h:P.fine):eqP P.pv P.pv=zS (.bl true):=by
 have e:cZ 150 P.pv P.pv=some true:=by refine jw (n:=149) (fH (gn (lX _ 148 h.bx.1 (by have:=h.bx.2; omega))) (fH (gn (lX _ 148 h.gr.1 (by have:=h.gr.2; omega))) (fH (gn λp hp=>?_) (fH (gn (kJ P.rows 148 h.ok.rw (by have:=h.ok.dp; omega))) vd))));obtain⟨f,hf,rfl⟩:=Za.mp hp;obtain⟨xs,ex,_⟩:=h.ok.pm f hf;obtain⟨k1,k2⟩:=h.ok.fn f hf;refine jw (n:=147) (fH (gh fK (by omega)) (fH (gh (h.rk f hf) (by omega)) (fH (gn λq hq=>?_) (fH (gn (kJ f.rows 146 k1 (by omega))) vd))));rw[ex]at hq;obtain⟨x,_,rfl⟩:=Za.mp hq;exact jw (n:=145) (fH (gh fK (by omega)) (fH (gh Dy (by omega)) vd))
 show (cZ 150 P.pv P.pv).map _=_;rw[e];rfl
theorem Lw {α β:Type} (f:α->β) (xs:List α) (lo hi st:Option Int):pk (xs.map f) lo hi st=(pk xs lo hi st).map f:=by unfold pk;rw[YH,List.map_filterMap];congr 1;funext i;rw[Y4]
theorem Lx {α:Type} (xs:List α) {a n:Int} (ha:0<=a) (hn:0<n):(pk xs (some a) none (some n)).length<=xs.length:=by
 unfold pk;refine Zc (List.length_filterMap_le _ _) ?_;unfold sliceRange;rw[YH,ZK];have e1:(sliceBounds (some a) none (some n) xs.length).2.1=(xs.length:Int):=by show (if n>0 then (xs.length:Int) else -1)=_;rw[aaN hn]
 have e2:(sliceBounds (some a) none (some n) xs.length).2.2=n:=rfl;have e3:0<=(sliceBounds (some a) none (some n) xs.length).1:=by show 0<=(let i:=if a<0 then a+xs.length else a; if n>0 then max 0 (min i xs.length) else max (-1) (min i ((xs.length:Int)-1)));rw[aaN hn];omega
 rw[e1,e2,aaN hn];generalize (sliceBounds (some a) none (some n) xs.length).1=s at e3;split
 . have h1:((xs.length:Int)-s+n-1)/n<(xs.length:Int)-s+1:=by
    refine Int.ediv_lt_of_lt_mul hn ?_;have h2:(xs.length:Int)-s<=((xs.length:Int)-s)*n:=by
     have:=Int.mul_le_mul_of_nonneg_left (a:=1) (b:=n) (c:=(xs.length:Int)-s) (by omega) (by omega)
     rwa [Int.mul_one]at this
    rw[Int.add_mul,Int.one_mul];omega
   omega
 . omega
def lF {α:Type} (xs:List α) (lo hi:Option Int):List α:=(xs.drop (HT.sIx xs.length 0 lo)).take (HT.sIx xs.length xs.length hi-HT.sIx xs.length 0 lo)
theorem vf {α:Type} (f:α->PV) (xs:List α) (lo hi:Option Int):rK (xs.map f) lo hi=(lF xs lo hi).map f:=by unfold rK lF;rw[YH,List.map_take,List.map_drop]
theorem wC {α:Type} (xs:List α) (lo hi:Option Int):(lF xs lo hi).length<=xs.length:=by unfold lF;rw[aac,aal];omega
theorem wD {α:Type} {xs:List α} {lo hi:Option Int} {x:α} (h:x∈lF xs lo hi):x∈xs:=List.mem_of_mem_drop (List.mem_of_mem_take h)
abbrev HE (c:Int) (nm:List Str) (acc:List PV) (o3 o4:Option Lc) (mu:Mu):Ev:=⟨[zI c,zL (SS nm),zO acc,o3,o4],mu⟩
theorem four (j:Int) (h0:0<=j) (h:j<4):∃q:Int,0<q/\q<10000/\mR (.lst [.int 75,.int 375,.int 1875,.int 9375]) (.int j)=zI q:=by
 rcases (by omega:j=0\/j=1\/j=2\/j=3) with rfl | rfl | rfl | rfl
 . exact⟨75,by decide,by decide,rfl⟩
 . exact⟨375,by decide,by decide,rfl⟩
 . exact⟨1875,by decide,by decide,rfl⟩
 . exact⟨9375,by decide,by decide,rfl⟩
theorem nl {ps:List PV}:∀n,PV.lst ps≠.ptr n:=λn h=>by cases h
theorem vg {f:EF} {lo hi:OF} {U U1 U2 U3:Ev} {l:Lc} {ps:List PV} {a b:Option Int} (h1:f U=some (l,U1)) (hl:l.pv=.lst ps) (h2:lo U1=some (a,U2)) (h3:hi U2=some (b,U3)):qt f lo hi U=some (.own (.lst (rK ps a b)),U3):=by unfold qt;rw[h1,YB,h2,YB,h3,YB,hl]
theorem kh {f:EF} {U U1:Ev} {l:Lc} {i:Int} (h:f U=some (l,U1)) (hl:l.pv=.int i):cA f U=some (some i,U1):=by unfold cA;rw[h,YB,hl]
theorem OD {c j:Int} {nm:List Str} (h0:0<=j) (h1:j<4) (hl:nm.length=26):∃h:Str×List Str,h.1∈nm/\(h.2.length<=26/\∀x∈h.2,x∈nm)/\∃z:Int,∀(acc:List PV) (o4:Option Lc) (mu:Mu),acc.length<=100->Vv (HE c nm acc (zI j) o4 mu)=some (.nx (HE c nm (acc++[.tup [.str h.1,.lst (SS h.2)]]) (zI j) (zI z) mu)):=by
 obtain⟨q,hq0,hq1,eq⟩:=four j h0 h1;obtain⟨x,hx,ex⟩:=Li (ns:=nm) (i:=6+j) (by omega) (by omega);let z:Int:=c/q%5;let xs:=lF nm (some (10+4*j)) (some (10+4*j+z));refine⟨(x,xs),hx,⟨(by have:=wC nm (some (10+4*j)) (some (10+4*j+z));show (lF nm (some (10+4*j)) (some (10+4*j+z))).length<=26;omega),λy hy=>wD hy⟩,z,λacc o4 mu ha=>?_⟩
 let E:=HE c nm acc (zI j) o4 mu;let E2:=HE c nm acc (zI j) (zI z) mu;refine aF (U':=E2) (bD (l:=.sh (.int z)) (U1:=E) (aN (x:=.sh (.int (c/q))) (aN (U1:=E) (x:=.sh (.int c)) (y:=.sh (.int q)) rfl (gb (p:=.lst [.int 75,.int 375,.int 1875,.int 9375]) (q:=.int j) (l:=.own (.lst [.int 75,.int 375,.int 1875,.int 9375])) (m:=.sh (.int j)) rfl rfl rfl rfl nl eq) (fD hq0 (by omega))) rfl (bV (by decide))) rfl rfl) ?_;refine mU (i:=2) (ws0:=acc) (ws:=acc) (p:=.tup [.str x,.lst (SS xs)]) (l:=.sh (.tup [.str x,.lst (SS xs)])) (U1:=E2) rfl (fJ (ls:=[.sh (.str x),.own (.lst (SS xs))]) (aC (U1:=E2) (gb (p:=.lst (SS nm)) (q:=.int (6+j)) (l:=.sh (.lst (SS nm))) (m:=.sh (.int (6+j))) rfl rfl rfl rfl nl ex) (aC (U1:=E2) ?_ rfl)) rfl rfl) rfl rfl (by omega) rfl;have em:eY (.int 4) (.int j)=zI (4*j):=CV (by decide) (by decide);have e1:aq bf (abO 10) (aq eY (abO 4) (aa 3)) E2=some (.sh (.int (10+4*j)),E2):=aN (x:=.sh (.int 10)) (y:=.sh (.int (4*j))) rfl (aN (x:=.sh (.int 4)) (y:=.sh (.int j)) rfl rfl em) rfl;have e2:aq bf (aq bf (abO 10) (aq eY (abO 4) (aa 3))) (aa 4) E2=some (.sh (.int (10+4*j+z)),E2):=aN (x:=.sh (.int (10+4*j))) (y:=.sh (.int z)) e1 rfl rfl;refine(vg (U1:=E2) (U2:=E2) (U3:=E2) (l:=.sh (.lst (SS nm))) (ps:=SS nm) (a:=some (10+4*j)) (b:=some (10+4*j+z)) rfl rfl (kh e1 rfl) (kh e2 rfl)).trans ?_;rw[vf]
theorem Ek {c:Int} {nm:List Str} (hl:nm.length=26):∀(js:List Int),(∀j∈js,0<=j/\j<4)->∃hs:Hd,hs.length=js.length/\(∀h∈hs,h.1∈nm/\(h.2.length<=26/\∀x∈h.2,x∈nm))/\∀(acc:List PV) (o3 o4:Option Lc) (mu:Mu),acc.length+js.length<=100->∃p3 p4,cP (aA 3) Vv (js.map PV.int) (HE c nm acc o3 o4 mu)=some (.nx (HE c nm (acc++fQ hs) p3 p4 mu))
 | [],_=>⟨[],rfl,λh hh=>(by cases hh),λacc o3 o4 mu _=>⟨o3,o4,by simp[cP,fQ]⟩⟩
 | j::js,h=>by
  obtain⟨h0,h1⟩:=h j Yz;obtain⟨d,hd1,hd2,z,e1⟩:=OD (c:=c) h0 h1 hl;obtain⟨hs,hl2,hh,ih⟩:=Ek (c:=c) hl js λx hx=>h x (YG _ hx);refine⟨d::hs,by simp[hl2],λx hx=>?_,λacc o3 o4 mu ha=>?_⟩
  . rcases YF.mp hx with rfl | hx
    . exact⟨hd1,hd2⟩
    . exact hh x hx
  . simp only[Yy]at ha;obtain⟨p3,p4,e2⟩:=ih (acc++[.tup [.str d.1,.lst (SS d.2)]]) (zI j) (zI z) mu (by rw[YJ]; simp only[Yy,YK]; omega);refine⟨p3,p4,cF (U1:=HE c nm acc (zI j) o4 mu) rfl (e1 acc o4 mu (by omega)) (e2.trans ?_)⟩;simp[fQ]
theorem OJ (c:Int) {nm:List Str} (hl:nm.length=26):∃hs:Hd,hs.length<=4/\(∀h∈hs,h.1∈nm/\(h.2.length<=26/\∀x∈h.2,x∈nm))/\∀mu,pq [.int c,.lst (SS nm)] mu=some (.own (.lst (fQ hs)),mu):=by
 have h0:=ZM (c/15) (b:=5) (by decide);have h1:=ZF (c/15) (b:=5) (by decide);obtain⟨hs,l1,hh,lp⟩:=Ek (c:=c) hl ((List.range (c/15%5).toNat).map λi:Nat=>(0+(i:Int))) λj hj=>by obtain⟨i,hi,rfl⟩:=Za.mp hj;have:=List.mem_range.mp hi;omega
 rw[YH,ZK]at l1;refine⟨hs,by omega,hh,λmu=>?_⟩;obtain⟨p3,p4,e⟩:=lp [] none none mu (by rw[YH,ZK]; simp only[YK]; omega);rw[<-wy,Zr]at e;refine bG (U:=⟨[zI c,zL (SS nm),none,p3,p4],mu⟩) ?_;refine aF (U':=HE c nm [] none none mu) rfl (aF (U':=HE c nm (fQ hs) p3 p4 mu) (dN (xs:=gH 0 (c/15%5).toNat) (U1:=HE c nm [] none none mu) ?_ e) rfl);exact jC (U1:=HE c nm [] none none mu) (l:=.sh (.int (c/15%5))) (aC (aN (x:=.sh (.int (c/15))) (aN (x:=.sh (.int c)) rfl rfl (fD (by decide) (by decide))) rfl (bV (by decide))) rfl) rfl (by omega) (by omega)
abbrev rk:List PV:=[.non,.str "low",.str "high"]
theorem W0 (a:Int):∃r,fl r/\mR (.lst rk) (.int (a%3))=zS r:=by
 have h0:=ZM a (b:=3) (by decide);have h1:=ZF a (b:=3) (by decide);generalize a%3=r at h0 h1;rcases (by omega:r=0\/r=1\/r=2) with rfl | rfl | rfl
 . exact⟨.non,Dy,rfl⟩
 . exact⟨.str "low",fK,rfl⟩
 . exact⟨.str "high",fK,rfl⟩
theorem Ly {x:Str} {i:Int} {r:PV} (h:fl r) (hd:iY r<=1):fl (.tup [.str x,.int i,r]):=by
 refine⟨?_,?_⟩
 . simp[bA,eZ,h.1]
 . simp only[iY,nD];omega
theorem Lz (a:Int):∃r,(fl r/\iY r<=1)/\mR (.lst rk) (.int (a%3))=zS r:=by
 have h0:=ZM a (b:=3) (by decide);have h1:=ZF a (b:=3) (by decide);generalize a%3=r at h0 h1;rcases (by omega:r=0\/r=1\/r=2) with rfl | rfl | rfl
 . exact⟨.non,⟨Dy,YC _⟩,rfl⟩
 . exact⟨.str "low",⟨fK,YC _⟩,rfl⟩
 . exact⟨.str "high",⟨fK,YC _⟩,rfl⟩
abbrev Yl:EF:=aZ (aj (aa 1) (aj (abO 0) (aj (aR (aa 2) (aq aO (aq bf (aq aV (aa 3) (abO 3072)) (aa 0)) (abO 3))) ao)))
theorem G7 (c:Int):∀(xs:List Str) (i:Nat),∃bs:List PV,qQ bs/\bs.length=xs.length/\(∃ts:List (Str×PV×PV),bs=ts.map (λt=>.tup [.str t.1,t.2.1,t.2.2])/\∀t∈ts,t.1∈xs)/\∀(o0 o1:Option Lc) (mu:Mu) (acc:List PV),acc.length+xs.length<=1000->
 cz (eN 2 (aM (aA 0) (aM (aA 1) eG))) bQ Yl (uA i (SS xs)) ⟨[o0,o1,zL rk,zI c],mu⟩ acc=some (acc++bs,mu)
 | [],i=>⟨[],oA,rfl,⟨[],rfl,λt ht=>(by cases ht)⟩,λo0 o1 mu acc _=>by simp[uA,cz]⟩
 | x::xs,i=>by obtain⟨r,⟨fr,dr⟩,er⟩:=Lz (c/3072+(i:Nat));obtain⟨bs,fb,lb,⟨ts,et,mt⟩,ih⟩:=G7 c xs (i+1);refine⟨.tup [.str x,.int 0,r]::bs,gm (Ly fr dr) fb,by simp[lb],⟨(x,.int 0,r)::ts,by rw[et]; rfl,λt ht=>by rcases YF.mp ht with rfl | h; exact Yz; exact YG _ (mt t h)⟩,λo0 o1 mu acc ha=>?_⟩;simp only[Yy]at ha;let E:Ev:=⟨[zI (i:Nat),zT x,zL rk,zI c],mu⟩;refine fu (U1:=E) (U2:=E) (l:=.sh (.tup [.str x,.int 0,r])) rfl (fJ (ls:=[.sh (.str x),.sh (.int 0),.sh r]) (aC (U1:=E) rfl (aC (U1:=E) rfl (aC (U1:=E) (gb (p:=.lst rk) (q:=.int ((c/3072+(i:Nat))%3)) (l:=.sh (.lst rk)) (m:=.sh (.int ((c/3072+(i:Nat))%3))) rfl rfl (aN (x:=.sh (.int (c/3072+(i:Nat)))) (aN (x:=.sh (.int (c/3072))) (aN (x:=.sh (.int c)) rfl rfl (fD (by decide) (by decide))) rfl rfl) rfl (bV (by decide))) rfl nl er) rfl))) rfl rfl) (by omega) ((ih _ _ mu (acc++[.tup [.str x,.int 0,r]]) (by rw[YJ]; simp only[Yy,YK]; omega)).trans ?_);simp
abbrev Ym:EF:=aZ (aj (aa 0) (aj (aq bf (abO 1) (aq aO (aq aV (aa 1) (abO 48)) (abO 8))) (aj (aR (aa 2) (aq aO (aq aV (aa 1) (abO 9216)) (abO 3))) ao)))
theorem G8 (c:Int):∀(xs:List Str),∃bs:List PV,qQ bs/\bs.length=xs.length/\(∃ts:List (Str×PV×PV),bs=ts.map (λt=>.tup [.str t.1,t.2.1,t.2.2])/\∀t∈ts,t.1∈xs)/\∀(o0:Option Lc) (mu:Mu) (acc:List PV),acc.length+xs.length<=1000->
 cz (aA 0) bQ Ym (SS xs) ⟨[o0,zI c,zL rk],mu⟩ acc=some (acc++bs,mu)
 | []=>⟨[],oA,rfl,⟨[],rfl,λt ht=>(by cases ht)⟩,λo0 mu acc _=>by simp[cz]⟩
 | x::xs=>by obtain⟨r,⟨fr,dr⟩,er⟩:=Lz (c/9216);obtain⟨bs,fb,lb,⟨ts,et,mt⟩,ih⟩:=G8 c xs;refine⟨.tup [.str x,.int (1+c/48%8),r]::bs,gm (Ly fr dr) fb,by simp[lb],⟨(x,.int (1+c/48%8),r)::ts,by rw[et]; rfl,λt ht=>by rcases YF.mp ht with rfl | h; exact Yz; exact YG _ (mt t h)⟩,λo0 mu acc ha=>?_⟩;simp only[Yy]at ha;let E:Ev:=⟨[zT x,zI c,zL rk],mu⟩;refine fu (U1:=E) (U2:=E) (l:=.sh (.tup [.str x,.int (1+c/48%8),r])) rfl (fJ (ls:=[.sh (.str x),.sh (.int (1+c/48%8)),.sh r]) (aC (U1:=E) rfl (aC (U1:=E) (aN (x:=.sh (.int 1)) (y:=.sh (.int (c/48%8))) rfl (aN (x:=.sh (.int (c/48))) (aN (x:=.sh (.int c)) rfl rfl (fD (by decide) (by decide))) rfl (bV (by decide))) rfl) (aC (U1:=E) (gb (p:=.lst rk) (q:=.int (c/9216%3)) (l:=.sh (.lst rk)) (m:=.sh (.int (c/9216%3))) rfl rfl (aN (x:=.sh (.int (c/9216))) (aN (x:=.sh (.int c)) rfl rfl (fD (by decide) (by decide))) rfl (bV (by decide))) rfl nl er) rfl))) rfl rfl) (by omega) ((ih _ mu (acc++[.tup [.str x,.int (1+c/48%8),r]]) (by rw[YJ]; simp only[Yy,YK]; omega)).trans ?_);simp
theorem G9:∀(xs:List Int) (o:Option Lc) (mu:Mu) (acc:List PV),acc.length+xs.length<=1000->cz (aA 0) bQ (aq aO (aa 0) (abO 1000000007)) (xs.map PV.int) ⟨[o],mu⟩ acc=some (acc++(xs.map λx=>x%1000000007).map PV.int,mu)
 | [],o,mu,acc,_=>by simp[cz]
 | x::xs,o,mu,acc,ha=>by simp only[Yy]at ha;refine fu (U1:=⟨[zI x],mu⟩) (U2:=⟨[zI x],mu⟩) (l:=.sh (.int (x%1000000007))) rfl (aN (x:=.sh (.int x)) rfl rfl (bV (by decide))) (by omega) ((G9 xs _ mu (acc++[.int (x%1000000007)]) (by rw[YJ]; simp only[Yy,YK]; omega)).trans ?_);simp
theorem Ha {mu:Mu}:∀(xs:List Str) (o:Option Lc) (acc:List PV),acc.length+xs.length<=1000->cz (aA 0) bQ (aZ (aj (aa 0) (aj (eC .non) ao))) (SS xs) ⟨[o],mu⟩ acc=some (acc++xs.map (λx=>.tup [.str x,.non]),mu)
 | [],o,acc,_=>by simp[cz]
 | x::xs,o,acc,ha=>by simp only[Yy]at ha;refine fu (U1:=⟨[zT x],mu⟩) (U2:=⟨[zT x],mu⟩) (l:=.sh (.tup [.str x,.non])) rfl rfl (by omega) ((Ha xs _ (acc++[.tup [.str x,.non]]) (by rw[YJ]; simp only[Yy,YK]; omega)).trans ?_);simp
abbrev QE (S:PV) (c:Int) (nm nb ls:List Str) (hs:Hd) (bx:List PV) (l8 l9:Lc) (fns:List PV) (o11 o12 o13:Option Lc) (mu:Mu):Ev:=⟨[zS S,zI c,zL (SS nm),zL rk,zL (SS nb),zL (SS ls),zL (fQ hs),zO bx,some l8,some l9,zO fns,o11,o12,o13],mu⟩
abbrev qe:List Str:=["somebody"]
section
variable [HK]
variable {S:PV} {c:Int} {nm nb ls:List Str} {hs:Hd} {bx:List PV} {cs:List Int}
theorem LC {f:EF} {lo hi st:OF} {U U1 U2 U3 U4:Ev} {l:Lc} {ps:List PV} {a b:Option Int} {n:Int} (h1:f U=some (l,U1)) (hl:l.pv=.lst ps) (h2:lo U1=some (a,U2)) (h3:hi U2=some (b,U3)) (h4:st U3=some (some n,U4)) (hn:0<n):wg f lo hi st U=some (.own (.lst (pk ps a b (some n))),U4):=by unfold wg;rw[h1,YB,h2,YB,h3,YB,h4,YB,hl];show (if some n≠some 0 then _ else _)=_;rw[aaN (by intro q; injection q with q; omega)]
structure Ql (f:Fn):Prop where
 ok:f.rows.ok
 dp:f.rows.dep<=11
 bl:f.rows.bl<=47
 ct:f.rows.cnt<=40
 pm:∃xs:List Str,f.params=xs.map (λx=>.tup [.str x,.non])/\xs.length<=100
 rk:fl f.rank
 nl:f.name.length<=1000/\∃xs:List Str,f.params=xs.map (λx=>.tup [.str x,.non])/\xs.length<=100/\∀x∈xs,x.length<=1000
theorem v8 {l8 l9:Lc} {fns:List PV} {o11 o12 o13:Option Lc} {mu:Mu} {p:PV} (h:l8.pv=p):aa 8 (QE S c nm nb ls hs bx l8 l9 fns o11 o12 o13 mu)=some (.sh p,QE S c nm nb ls hs bx (.sh p) l9 fns o11 o12 o13 mu):=by subst h;cases l8<;>rfl
theorem v9 {l8 l9:Lc} {fns:List PV} {o11 o12 o13:Option Lc} {mu:Mu} {p:PV} (h:l9.pv=p):aa 9 (QE S c nm nb ls hs bx l8 l9 fns o11 o12 o13 mu)=some (.sh p,QE S c nm nb ls hs bx l8 (.sh p) fns o11 o12 o13 mu):=by subst h;cases l9<;>rfl
theorem V0 {l8 l9:Lc} {fns:List PV} {o11 o12 o13:Option Lc} {mu:Mu}:aq bf (eB bz (aj (aa 6) ao)) (abO 1) (QE S c nm nb ls hs bx l8 l9 fns o11 o12 o13 mu)=some (.sh (.int ((fQ hs).length+1)),QE S c nm nb ls hs bx l8 l9 fns o11 o12 o13 mu):=rfl
theorem Sd {j:Nat} {h:Str×List Str} (hh:∀h∈hs,h.1.length<=1000/\h.2.length<=50) (hm:h∈hs) (h26:h.2.length<=26) (hx:∀x∈h.2,x.length<=1000) (hnb:nb.length<=26) (hc:cs.length<=40):∃f:Fn,Ql f/\∀(l8 l9:Lc) (fns:List PV) (o13:Option Lc) (mu:Mu),l8.pv=.lst (cs.map PV.int)->l9.pv=.lst (SS qe)->fns.length<=100->
 ∃mu' p13,Vw (QE S c nm nb ls hs bx l8 l9 fns (zI (j:Nat)) (zS (.tup [.str h.1,.lst (SS h.2)])) o13 mu)=some (.nx (QE S c nm nb ls hs bx (.sh (.lst (cs.map PV.int))) (.sh (.lst (SS qe))) (fns++[f.pv]) (zI (j:Nat)) (zS (.tup [.str h.1,.lst (SS h.2)])) p13 mu')):=by
 let n:Int:=(fQ hs).length+1;let c2:=pk cs (some (j:Int)) none (some n);have hn:0<n:=by show (0:Int)<(fQ hs).length+1; omega
 have hl2:=Lx cs (a:=(j:Int)) (n:=n) (by omega) hn;let own:=nb++[h.1]++h.2;obtain⟨rs,r1,r2,r3,r4,er⟩:=G5 (own:=own) (ls:=ls) (ws:=qe) hh c2 (by show (pk cs (some (j:Int)) none (some n)).length<=900; omega);obtain⟨r,fr,err⟩:=W0 (c+(j:Nat));let f:Fn:=⟨h.1,r,h.2.map (λx=>.tup [.str x,.non]),rs⟩;refine⟨f,⟨r1,r2,r3,Zc r4 (Zc hl2 hc),⟨h.2,rfl,by omega⟩,fr,(hh h hm).1,h.2,rfl,by omega,hx⟩,λl8 l9 fns o13 mu h8 h9 hf=>?_⟩;obtain⟨mu',er⟩:=er mu;let J:Option Lc:=zI (j:Nat);let T:PV:=.tup [.str h.1,.lst (SS h.2)];let C8:Lc:=.sh (.lst (cs.map PV.int));let C9:Lc:=.sh (.lst (SS qe));let Ea:=QE S c nm nb ls hs bx C8 l9 fns J (zS T) o13 mu;let Eb:=QE S c nm nb ls hs bx C8 C9 fns J (zS T) o13 mu;let Ec:=QE S c nm nb ls hs bx C8 C9 fns J (zS T) (zL rs.pvs) mu';have sl:wg (aa 8) (cA (aa 11)) iy (cA (aq bf (eB bz (aj (aa 6) ao)) (abO 1))) (QE S c nm nb ls hs bx l8 l9 fns J (zS T) o13 mu)=some (.own (.lst (c2.map PV.int)),Ea):=by refine(LC (U1:=Ea) (U2:=Ea) (U3:=Ea) (U4:=Ea) (l:=C8) (ps:=cs.map PV.int) (a:=some (j:Int)) (b:=none) (n:=n) (v8 h8) rfl rfl rfl (kh V0 rfl) hn).trans ?_;rw[Lw]
 have ow:aq bf (aq bf (aa 4) (cM (aj (aR (aa 12) (abO 0)) ao))) (aR (aa 12) (abO 1)) Ea=some (.own (.lst (SS own)),Ea):=by
  refine aN (U1:=Ea) (x:=.own (.lst (SS nb++[.str h.1]))) (y:=.sh (.lst (SS h.2))) (aN (U1:=Ea) (x:=.sh (.lst (SS nb))) (y:=.own (.lst [.str h.1])) rfl rfl ?_) rfl ?_
  . show (if (SS nb).length+1<=100000 then _ else _)=_;rw[aaN (by rw[pC]; omega)]
  . show (if (SS nb++[PV.str h.1]).length+(SS h.2).length<=100000 then _ else _)=_;rw[aaN (by rw[YJ,pC,pC]; simp only[Yy,YK]; omega)];simp[own]
 refine⟨mu',zL rs.pvs,?_⟩;refine aF (U':=Ec) (bD (l:=.sh (.lst rs.pvs)) (U1:=QE S c nm nb ls hs bx C8 C9 fns J (zS T) o13 mu') (bH (ls:=[.own (.lst (c2.map PV.int)),.own (.lst (SS own)),.sh (.lst (SS ls)),.sh (.lst (fQ hs)),.sh (.lst (SS qe))]) (ps:=[.lst (c2.map PV.int),.lst (SS own),.lst (SS ls),.lst (fQ hs),.lst (SS qe)]) (U1:=Eb) (aC sl (aC ow (aC (U1:=Ea) rfl (aC (U1:=Ea) rfl (aC (v9 h9) rfl))))) rfl rfl rfl er) rfl rfl) ?_;have ec:=Ha (mu:=mu') h.2 none [] (by simp only[YK]; omega);rw[Zr]at ec;refine mU (i:=10) (ws0:=fns) (ws:=fns) (p:=f.pv) (l:=.sh f.pv) (U1:=Ec) rfl (fJ (ls:=[.sh (.str h.1),.sh r,.own (.lst (h.2.map λx=>.tup [.str x,.non])),.sh (.lst rs.pvs)]) (aC (U1:=Ec) rfl (aC (U1:=Ec) (gb (p:=.lst rk) (q:=.int ((c+(j:Nat))%3)) (l:=.sh (.lst rk)) (m:=.sh (.int ((c+(j:Nat))%3))) rfl rfl (aN (x:=.sh (.int (c+(j:Nat)))) rfl rfl (bV (by decide))) rfl nl err) (aC (U1:=Ec) ((fM (U1:=Ec) (xs:=SS h.2) (dw (l:=.sh (.lst (SS h.2))) rfl rfl) ec).trans rfl) (aC (U1:=Ec) rfl rfl)))) rfl rfl) rfl rfl (by omega) rfl
theorem Hb (hh:∀h∈hs,h.1.length<=1000/\h.2.length<=26) (hx:∀h∈hs,∀x∈h.2,x.length<=1000) (hnb:nb.length<=26) (hc:cs.length<=40):∀(gs:Hd) (i:Nat),(∀h∈gs,h∈hs)->∃fs:List Fn,fs.length=gs.length/\(∀f∈fs,Ql f)/\∀(l8 l9:Lc) (fns:List PV) (o11 o12 o13:Option Lc) (mu:Mu),l8.pv=.lst (cs.map PV.int)->l9.pv=.lst (SS qe)->fns.length+gs.length<=100->
 ∃m8 m9 mu' p11 p12 p13,m8.pv=.lst (cs.map PV.int)/\m9.pv=.lst (SS qe)/\cP (eN 2 (aM (aA 11) (aM (aA 12) eG))) Vw (uA i (fQ gs)) (QE S c nm nb ls hs bx l8 l9 fns o11 o12 o13 mu)=some (.nx (QE S c nm nb ls hs bx m8 m9 (fns++fs.map Fn.pv) p11 p12 p13 mu'))
 | [],i,_=>⟨[],rfl,λf hf=>(by cases hf),λl8 l9 fns o11 o12 o13 mu h8 h9 _=>⟨l8,l9,mu,o11,o12,o13,h8,h9,by simp[fQ,uA,cP]⟩⟩
 | h::gs,i,hg=>by
  obtain⟨f,ff,st⟩:=Sd (S:=S) (c:=c) (nm:=nm) (ls:=ls) (bx:=bx) (j:=i) (λx hx=>⟨(hh x hx).1,by have:=(hh x hx).2; omega⟩) (hg h Yz) (hh h (hg h Yz)).2 (hx h (hg h Yz)) hnb hc;obtain⟨fs,lf,ffs,ih⟩:=Hb hh hx hnb hc gs (i+1) λx hx=>hg x (YG _ hx);refine⟨f::fs,by simp[lf],λx hx=>?_,λl8 l9 fns o11 o12 o13 mu h8 h9 hl=>?_⟩
  . rcases YF.mp hx with rfl | hx
    . exact ff
    . exact ffs x hx
  . simp only[Yy]at hl;obtain⟨mu1,p13,e1⟩:=st l8 l9 fns o13 mu h8 h9 (by omega);obtain⟨m8,m9,mu',q11,q12,q13,k8,k9,e2⟩:=ih (.sh (.lst (cs.map PV.int))) (.sh (.lst (SS qe))) (fns++[f.pv]) (zI (i:Nat)) (zS (.tup [.str h.1,.lst (SS h.2)])) p13 mu1 rfl rfl (by rw[YJ]; simp only[Yy,YK]; omega);refine⟨m8,m9,mu',q11,q12,q13,k8,k9,cF (U1:=QE S c nm nb ls hs bx l8 l9 fns (zI (i:Nat)) (zS (.tup [.str h.1,.lst (SS h.2)])) o13 mu) rfl e1 (e2.trans ?_)⟩;simp
end
theorem Hc:∀{a b:List PV},qQ a->qQ b->qQ (a++b)
 | [],b,_,h=>h
 | p::a,b,h,g=>by obtain⟨h1,h2⟩:=h;simp only[eZ,Zy]at h1;simp only[nD]at h2;exact gm ⟨h1.1,by omega⟩ (Hc ⟨h1.2,by omega⟩ g)
theorem W2 {α:Type} (xs:List α):(lF xs (some 2) (some 42)).length<=40:=by unfold lF;rw[aac,aal];have e1:HT.sIx xs.length 0 (some 2)=min 2 xs.length:=HT.sIx_nat xs.length 0 2;have e2:HT.sIx xs.length xs.length (some 42)=min 42 xs.length:=HT.sIx_nat xs.length xs.length 42;rw[e1,e2];omega
theorem Hf:∀fs:List Fn,(∀f∈fs,f.rows.cnt<=40)->dM fs<=40*fs.length
 | [],_=>YC _
 | f::fs,h=>by have h1:=h f Yz;have h2:=Hf fs λg hg=>h g (YG _ hg);simp only[dM,Yy];omega
abbrev kO (S:PV) (a1 a2 a3 a4 a5 a6 a7 a8 a9 a10 a11 a12 a13:Option Lc) (mu:Mu):Ev:=⟨[zS S,a1,a2,a3,a4,a5,a6,a7,a8,a9,a10,a11,a12,a13],mu⟩
section
variable [HK]
theorem Jm (ns:List Int) (hl:ns.length<=63):∃P:Pg,P.fine/\∀mu,∃mu',jG [.lst (ns.map PV.int)] mu=some (.sh P.pv,mu'):=by
 obtain⟨c,_,ec⟩:=cell_eq (ns:=ns) (k:=0) (by decide);obtain⟨c1,_,ec1⟩:=cell_eq (ns:=ns) (k:=1) (by decide);obtain⟨nm,lnm,hnm,en⟩:=Oo (c:=c1) (n:=26) (by decide) (by decide);have lnm:nm.length=26:=lnm;let nb:=lF nm none (some (c%5));let ls:=lF nm (some 4) (some (4+c/5%3));have lnb:nb.length<=26:=by have:=wC nm none (some (c%5)); show (lF nm none (some (c%5))).length<=26; omega
 have lls:ls.length<=26:=by have:=wC nm (some 4) (some (4+c/5%3)); show (lF nm (some 4) (some (4+c/5%3))).length<=26; omega
 obtain⟨hs,lhs,hhs,eh⟩:=OJ c lnm;have hh:∀h∈hs,h.1.length<=1000/\h.2.length<=26:=λh hm=>⟨by have:=hnm h.1 (hhs h hm).1; omega,(hhs h hm).2.1⟩;have hx:∀h∈hs,∀x∈h.2,x.length<=1000:=λh hm x hx=>by have:=hnm x ((hhs h hm).2.2 x hx); omega
 obtain⟨bs1,f1,l1,⟨ts1,n1,t1⟩,e7⟩:=G7 c nb 0;obtain⟨bs2,f2,l2,⟨ts2,n2,t2⟩,e8⟩:=G8 c ls;let xs:=lF ns (some 2) (some 42);have lxs:xs.length<=40:=W2 ns;let cs:=xs.map λx=>x%1000000007;have lcs:cs.length<=40:=by show (xs.map _).length<=40; rw[YH]; exact lxs
 let S:PV:=.lst (ns.map PV.int);let bx:=bs1++bs2;obtain⟨fs,lf,ffs,elp⟩:=Hb (S:=S) (c:=c) (nm:=nm) (nb:=nb) (ls:=ls) (hs:=hs) (bx:=bx) (cs:=cs) hh hx lnb lcs hs 0 λh hm=>hm;let n:Int:=(fQ hs).length;have hn0:0<=n:=by show (0:Int)<=(fQ hs).length; omega
 let c2:=pk cs (some n) none (some (n+1));have lc2:=Lx cs (a:=n) (n:=n+1) hn0 (by omega);obtain⟨rs,r1,r2,r3,r4,er⟩:=G5 (own:=nb) (ls:=ls) (ws:=qe) (λh hm=>⟨(hh h hm).1,by have:=(hh h hm).2; omega⟩) c2 (by show (pk cs (some n) none (some (n+1))).length<=900; omega);let gr:List PV:=[.tup [.str "somebody",.str "high",.str "low"]];let P:Pg:=⟨bx,gr,fs,rs⟩;have hfc:=Hf fs λf hf=>(ffs f hf).ct;have hrc:rs.cnt<=40:=Zc r4 (Zc lc2 lcs);refine⟨P,⟨⟨λf hf=>⟨(ffs f hf).ok,by have:=(ffs f hf).dp; omega⟩,r1,by show rs.dep<=30; omega,by show dM fs+rs.cnt<=250; omega,λf hf=>(ffs f hf).pm,by show fs.length<=20; omega⟩,Hc f1 f2,⟨rfl,by show (2:Nat)<=20; decide⟩,λf hf=>(ffs f hf).rk,r2,λf hf=>(ffs f hf).dp,⟨ts1++ts2,by show bs1++bs2=_; rw[n1,n2,YZ],?_,λt ht=>?_⟩,λf hf=>(ffs f hf).nl⟩,λmu=>?_⟩
 . have e1:=congrArg List.length n1;have e2:=congrArg List.length n2;rw[YH]at e1 e2;rw[YJ];omega
 . rcases Y6_.mp ht with h | h
   . have:=hnm t.1 (wD (t1 t h));omega
   . have:=hnm t.1 (wD (t2 t h));omega
 let C:Option Lc:=zI c;let N:Option Lc:=zL (SS nm);let R:Option Lc:=zL rk;let B4:Option Lc:=zL (SS nb);let B5:Option Lc:=zL (SS ls);let O4:Option Lc:=zO (SS nb);let O5:Option Lc:=zO (SS ls);let O6:Option Lc:=zO (fQ hs);let OR:Option Lc:=zO rk;let L8:Lc:=.own (.lst (cs.map PV.int));let L9:Lc:=.own (.lst (SS qe));let E0:=kO S none none none none none none none none none none none none none mu;let E1':=kO S C none none none none none none none none none none none none mu;let E2:=kO S C (zO (SS nm)) none none none none none none none none none none none mu;let E3:=kO S C (zO (SS nm)) OR none none none none none none none none none none mu;let E4:=kO S C N OR O4 none none none none none none none none none mu;let E5:=kO S C N OR O4 O5 none none none none none none none none mu;let E6:=kO S C N OR O4 O5 O6 none none none none none none none mu;let E7:=kO S C N R B4 O5 O6 (zO bs1) none none none none none none mu;let E8:=kO S C N R B4 B5 O6 (zO bx) none none none none none none mu;let E9:=kO S C N R B4 B5 O6 (zO bx) (some L8) none none none none none mu;let E10:=kO S C N R B4 B5 O6 (zO bx) (some L8) (some L9) none none none none mu;let E11:=kO S C N R B4 B5 O6 (zO bx) (some L8) (some L9) (zO []) none none none mu;obtain⟨m8,m9,mu1,p11,p12,p13,k8,k9,elp⟩:=elp L8 L9 [] none none none mu rfl rfl (by simp only[YK]; omega);rw[Zr]at elp;obtain⟨mu2,er⟩:=er mu1;let Q1:=QE S c nm nb ls hs bx m8 m9 (fs.map Fn.pv) p11 p12 p13 mu1;let C8:Lc:=.sh (.lst (cs.map PV.int));let C9:Lc:=.sh (.lst (SS qe));let Qa:=QE S c nm nb ls hs bx C8 m9 (fs.map Fn.pv) p11 p12 p13 mu1;let Qb:=QE S c nm nb ls hs bx C8 C9 (fs.map Fn.pv) p11 p12 p13 mu1;let Qc:=QE S c nm nb ls hs bx C8 C9 (fs.map Fn.pv) p11 p12 (zL rs.pvs) mu2;refine⟨mu2,?_⟩;refine bG (r:=.sh P.pv) (U:=kO S C N R B4 B5 (zL (fQ hs)) (zL bx) (some C8) (some C9) (zL (fs.map Fn.pv)) p11 p12 (zL rs.pvs) mu2) ?_;refine aF (U':=E1') (bD (l:=.sh (.int c)) (U1:=E0) (bH (ls:=[.sh S,.sh (.int 0)]) (ps:=[S,.int 0]) (U1:=E0) rfl rfl rfl rfl (ec mu)) rfl rfl) ?_;refine aF (U':=E2) (bD (l:=.own (.lst (SS nm))) (U1:=E1') (bH (ls:=[.sh (.int c1),.sh (.int 26)]) (ps:=[.int c1,.int 26]) (U1:=E1') (aC (U1:=E1') (bH (ls:=[.sh S,.sh (.int 1)]) (ps:=[S,.int 1]) (U1:=E1') rfl rfl rfl rfl (ec1 mu)) rfl) rfl rfl rfl (en mu)) rfl rfl) ?_;refine aF (U':=E3) rfl ?_;refine aF (U':=E4) (bD (l:=.own (.lst (SS nb))) (U1:=kO S C N OR none none none none none none none none none none mu) ((vg (ps:=SS nm) (l:=.sh (.lst (SS nm))) (U1:=kO S C N OR none none none none none none none none none none mu) (a:=none) (b:=some (c%5)) rfl rfl rfl (kh (l:=.sh (.int (c%5))) (aN (x:=.sh (.int c)) rfl rfl (bV (by decide))) rfl)).trans (by rw[vf]<;>rfl)) rfl rfl) ?_;refine aF (U':=E5) (bD (l:=.own (.lst (SS ls))) (U1:=E4) ((vg (ps:=SS nm) (l:=.sh (.lst (SS nm))) (U1:=E4) (a:=some 4) (b:=some (4+c/5%3)) rfl rfl rfl (kh (l:=.sh (.int (4+c/5%3))) (aN (x:=.sh (.int 4)) (y:=.sh (.int (c/5%3))) rfl (aN (x:=.sh (.int (c/5))) (aN (x:=.sh (.int c)) rfl rfl (fD (by decide) (by decide))) rfl (bV (by decide))) rfl) rfl)).trans (by rw[vf]<;>rfl)) rfl rfl) ?_;refine aF (U':=E6) (bD (l:=.own (.lst (fQ hs))) (U1:=E5) (bH (ls:=[.sh (.int c),.sh (.lst (SS nm))]) (ps:=[.int c,.lst (SS nm)]) (U1:=E5) rfl rfl rfl rfl (eh mu)) rfl rfl) ?_;refine aF (U':=E7) (bD (l:=.own (.lst bs1)) (U1:=kO S C N R B4 O5 O6 none none none none none none none mu) ((fM (U1:=kO S C N OR B4 O5 O6 none none none none none none none mu) (xs:=uA 0 (SS nb)) (by rw[<-ww]; rfl) (e7 none none mu [] (by simp only[YK]; omega))).trans rfl) rfl rfl) ?_;refine aF (U':=E8) (bD (l:=.own (.lst bx)) (U1:=kO S C N R B4 B5 O6 (zL bs1) none none none none none none mu) (aN (x:=.sh (.lst bs1)) (y:=.own (.lst bs2)) (U1:=kO S C N R B4 O5 O6 (zL bs1) none none none none none none mu) rfl ((fM (U1:=kO S C N R B4 B5 O6 (zL bs1) none none none none none none mu) (xs:=SS ls) (dw (l:=.sh (.lst (SS ls))) rfl rfl) (e8 none mu [] (by simp only[YK]; omega))).trans rfl) ?_) rfl rfl) ?_
 . show (if bs1.length+bs2.length<=100000 then _ else _)=_;rw[aaN (by omega)]
 have ecl:=G9 xs none mu [] (by simp only[YK]; omega);rw[Zr]at ecl;refine aF (U':=E9) (bD (l:=L8) (U1:=E8) ((fM (U1:=E8) (xs:=xs.map PV.int) (dw (l:=.own (.lst (xs.map PV.int))) ((vg (ps:=ns.map PV.int) (l:=.sh S) (U1:=E8) (a:=some 2) (b:=some 42) rfl rfl rfl rfl).trans (by rw[vf]<;>rfl)) rfl) ecl).trans rfl) rfl rfl) ?_;refine aF (U':=E10) rfl ?_;refine aF (U':=E11) rfl ?_;refine aF (U':=Q1) (dN (xs:=uA 0 (fQ hs)) (U1:=QE S c nm nb ls hs bx L8 L9 [] none none none mu) (by rw[<-ww]; rfl) elp) ?_;have sl:wg (aa 8) (cA (eB bz (aj (aa 6) ao))) iy (cA (aq bf (eB bz (aj (aa 6) ao)) (abO 1))) Q1=some (.own (.lst (c2.map PV.int)),Qa):=by refine(LC (U1:=Qa) (U2:=Qa) (U3:=Qa) (U4:=Qa) (l:=C8) (ps:=cs.map PV.int) (a:=some n) (b:=none) (n:=n+1) (v8 k8) rfl (kh (l:=.sh (.int n)) rfl rfl) rfl (kh V0 rfl) (by omega)).trans ?_;rw[Lw]
 refine aF (U':=Qc) (bD (l:=.sh (.lst rs.pvs)) (U1:=QE S c nm nb ls hs bx C8 C9 (fs.map Fn.pv) p11 p12 p13 mu2) (bH (ls:=[.own (.lst (c2.map PV.int)),.sh (.lst (SS nb)),.sh (.lst (SS ls)),.sh (.lst (fQ hs)),.sh (.lst (SS qe))]) (ps:=[.lst (c2.map PV.int),.lst (SS nb),.lst (SS ls),.lst (fQ hs),.lst (SS qe)]) (U1:=Qb) (aC sl (aC (U1:=Qa) rfl (aC (U1:=Qa) rfl (aC (U1:=Qa) rfl (aC (v9 k9) rfl))))) rfl rfl rfl er) rfl rfl) ?_;rfl
end
def LK:PV->Str
 | .tup (.str x::_)=>x
 | _ => ""
abbrev Hh (t:Str×PV×PV):PV:=.tup [.str t.1,t.2.1,t.2.2]
abbrev Qm (x:Str):PV:=.tup [.str x,.non]
abbrev mY (q:Str×PV):PV:=.tup [.str q.1,q.2]
def jN:List Fn->List (Str×PV)
 | []=>[]
 | f::fs=>(f.name,f.rank)::(f.params.map λp=>(LK p,PV.non))++jN fs
theorem V1 (xs:List Str):(xs.map Qm).map LK=xs:=by rw[ZL];exact List.map_id' xs
section
variable [HK]
theorem Hi {mu:Mu}:∀(ts:List (Str×PV×PV)) (o0 o1 o2:Option Lc) (acc:List PV),acc.length+ts.length<=1000->cz (eN 3 (aM (aA 0) (aM (aA 1) (aM (aA 2) eG)))) bQ (aZ (aj (aa 0) (aj (aa 2) ao))) (ts.map Hh) ⟨[o0,o1,o2],mu⟩ acc=some (acc++(ts.map λt=>(t.1,t.2.2)).map mY,mu)
 | [],o0,o1,o2,acc,_=>by simp[cz]
 | t::ts,o0,o1,o2,acc,h=>by simp only[Yy]at h;refine fu (U1:=⟨[zT t.1,zS t.2.1,zS t.2.2],mu⟩) (l:=.sh (.tup [.str t.1,t.2.2])) (U2:=⟨[zT t.1,zS t.2.1,zS t.2.2],mu⟩) rfl rfl (by omega) ((Hi ts _ _ _ (acc++[.tup [.str t.1,t.2.2]]) (by rw[YJ]; simp only[Yy,YK]; omega)).trans ?_);simp
theorem Hj {mu:Mu}:∀(xs:List Str) (o0 o1:Option Lc) (acc:List PV),acc.length+xs.length<=1000->cz (eN 2 (aM (aA 0) (aM (aA 1) eG))) bQ (aZ (aj (aa 0) (aj (aa 1) ao))) (xs.map Qm) ⟨[o0,o1],mu⟩ acc=some (acc++(xs.map λx=>(x,PV.non)).map mY,mu)
 | [],o0,o1,acc,_=>by simp[cz]
 | x::xs,o0,o1,acc,h=>by simp only[Yy]at h;refine fu (U1:=⟨[zT x,some (.sh .non)],mu⟩) (l:=.sh (Qm x)) (U2:=⟨[zT x,some (.sh .non)],mu⟩) rfl rfl (by omega) ((Hj xs _ _ (acc++[Qm x]) (by rw[YJ]; simp only[Yy,YK]; omega)).trans ?_);simp
theorem Hk {mu:Mu}:∀(qs:List (Str×PV)) (o0 o1:Option Lc) (acc:List PV),acc.length+qs.length<=10000->cz (eN 2 (aM (aA 0) (aM (aA 1) eG))) bQ (aa 0) (qs.map mY) ⟨[o0,o1],mu⟩ acc=some (acc++gB (qs.map (·.1)),mu)
 | [],o0,o1,acc,_=>by simp[cz]
 | q::qs,o0,o1,acc,h=>by simp only[Yy]at h;refine fu (U1:=⟨[zT q.1,zS q.2],mu⟩) (l:=.sh (.str q.1)) (U2:=⟨[zT q.1,zS q.2],mu⟩) rfl rfl (by omega) ((Hk qs _ _ (acc++[.str q.1]) (by rw[YJ]; simp only[Yy,YK]; omega)).trans ?_);simp
def vK (f:Fn):Prop:=f.name.length<=1000/\∃xs:List Str,f.params=xs.map (λx=>.tup [.str x,.non])/\xs.length<=100/\∀x∈xs,x.length<=1000
theorem wF:∀fs:List Fn,(∀f∈fs,vK f)->(jN fs).length<=101*fs.length
 | [],_=>YC _
 | f::fs,h=>by have ih:=wF fs λg hg=>h g (YG _ hg);obtain⟨_,xs,e,hl,_⟩:=h f Yz;simp only[jN,YJ,Yy,YH,e];omega
abbrev Xe:SF:=aD (iK 1 (aZ (aj (aa 2) (aj (aa 3) ao)))) (j8 1 (dF (fX (aa 4) cC) 2 [] (eN 2 (aM (aA 0) (aM (aA 1) eG))) bQ (aZ (aj (aa 0) (aj (aa 1) ao)))))
theorem Hl {p:PV} {mu:Mu}:∀(fs:List Fn) (acc:List PV) (o2 o3 o4 o5:Option Lc),(∀f∈fs,vK f)->acc.length+101*fs.length<=5000->∃p2 p3 p4 p5,cP (eN 4 (aM (aA 2) (aM (aA 3) (aM (aA 4) (aM (aA 5) eG))))) Xe (fs.map Fn.pv) (NE p acc o2 o3 o4 o5 mu)=some (.nx (NE p (acc++(jN fs).map mY) p2 p3 p4 p5 mu))
 | [],acc,o2,o3,o4,o5,_,_=>⟨o2,o3,o4,o5,by simp[cP,jN]⟩
 | f::fs,acc,o2,o3,o4,o5,h,hl=>by
  simp only[Yy]at hl;obtain⟨_,xs,e,hx,_⟩:=h f Yz;let N:Option Lc:=zT f.name;let R:Option Lc:=zS f.rank;let M:Option Lc:=zL f.params;let W:Option Lc:=zL f.rows.pvs;let a1:=acc++[mY (f.name,f.rank)];have l1:a1.length=acc.length+1:=by simp[a1]
  let a2:=a1++(xs.map λx=>(x,PV.non)).map mY;have l2:a2.length=acc.length+1+xs.length:=by simp[a2,a1]; omega
  obtain⟨p2,p3,p4,p5,ih⟩:=Hl (p:=p) (mu:=mu) fs a2 N R M W (λg hg=>h g (YG _ hg)) (by omega);have ep:f.params.map (λp=>(LK p,PV.non))=xs.map λx=>(x,PV.non):=by rw[e,ZL];rfl
  have ec:dF (fX (aa 4) cC) 2 [] (eN 2 (aM (aA 0) (aM (aA 1) eG))) bQ (aZ (aj (aa 0) (aj (aa 1) ao))) (NE p a1 N R M W mu)=some (.own (.lst ((xs.map λx=>(x,PV.non)).map mY)),NE p a1 N R M W mu):=by refine fM (U1:=NE p a1 N R M W mu) (xs:=f.params) (dw (l:=.sh (.lst f.params)) rfl rfl) ?_;rw[e];exact Hj xs none none [] (by simp only[YK]; omega)
  have st:Xe (NE p acc N R M W mu)=some (.nx (NE p a2 N R M W mu)):=
   aF (U':=NE p a1 N R M W mu) (mU (i:=1) (ws0:=acc) (ws:=acc) (p:=mY (f.name,f.rank)) (l:=.sh (mY (f.name,f.rank))) (U1:=NE p acc N R M W mu) rfl rfl rfl rfl (by omega) rfl)
    (qK (i:=1) (ws0:=a1) (ws:=a1) (ps:=(xs.map λx=>(x,PV.non)).map mY) (l:=.own (.lst ((xs.map λx=>(x,PV.non)).map mY))) (U1:=NE p a1 N R M W mu) rfl ec rfl rfl (by rw[YH,YH]; omega) rfl)
  refine⟨p2,p3,p4,p5,cF (U1:=NE p acc N R M W mu) rfl st (ih.trans ?_)⟩;simp[a2,a1,jN,ep]
def hps (ts:List (Str×PV×PV)) (fs:List Fn):List (Str×PV):=(ts.map λt=>(t.1,t.2.2))++jN fs
theorem O1 {P:Pg} {ts:List (Str×PV×PV)} (eb:P.boxes=ts.map Hh) (hb:ts.length<=60) (hf:∀f∈P.fns,vK f) (hn:P.fns.length<=20) (mu:Mu):oZ [P.pv] mu=some (.own (.lst (gB ((hps ts P.fns).map (·.1)))),mu):=by
 let a1:=(ts.map λt=>(t.1,t.2.2)).map mY;have l1:a1.length=ts.length:=by simp[a1]
 have fl:=wF P.fns hf;obtain⟨p2,p3,p4,p5,e1⟩:=Hl (p:=P.pv) (mu:=mu) P.fns a1 none none none none hf (by omega);have e0:=Hi (mu:=mu) ts none none none [] (by simp only[YK]; omega);rw[Zr,<-eb]at e0;have hl:(hps ts P.fns).length<=60+101*20:=by unfold hps;rw[YJ,YH];omega
 have hp:oY [P.pv] mu=some (.own (.lst ((hps ts P.fns).map mY)),mu):=by refine(bG (U:=⟨[zS P.pv,none,p2,p3,p4,p5],mu⟩) (r:=.own (.lst (a1++(jN P.fns).map mY))) ?_).trans (by simp[hps,a1]);refine aF (U':=NE P.pv a1 none none none none mu) (bD (l:=.own (.lst a1)) (U1:=⟨[zS P.pv,none,none,none,none,none],mu⟩) ((fM (U1:=⟨[zS P.pv,none,none,none,none,none],mu⟩) (xs:=P.boxes) (dw (l:=.sh (.lst P.boxes)) rfl rfl) e0).trans rfl) rfl rfl) ?_;exact aF (U':=NE P.pv (a1++(jN P.fns).map mY) p2 p3 p4 p5 mu) (dN (xs:=P.fns.map Fn.pv) (U1:=NE P.pv a1 none none none none mu) (dw (l:=.sh (.lst (P.fns.map Fn.pv))) rfl rfl) e1) rfl
 have e3:=Hk (mu:=mu) (hps ts P.fns) none none [] (by simp only[YK]; omega);rw[Zr]at e3;refine bG (U:=E1 P.pv mu) (fY ((fM (U1:=E1 P.pv mu) (xs:=(hps ts P.fns).map mY) (dw (l:=.own (.lst ((hps ts P.fns).map mY))) (bH (ls:=[.sh P.pv]) (ps:=[P.pv]) (U1:=E1 P.pv mu) rfl rfl rfl rfl hp) rfl) e3).trans rfl))
end
def Row.out:Row->Bool
 | .leaf w _=>w == "out"
 | _=>false
theorem Row.wd (r:Row):∃w t,r.pv=.tup (.str w::t)/\(w==("out" : Str))=r.out:=by
 cases r with
 | leaf w ps=>exact⟨_,_,rfl,rfl⟩
 | call b n as=>exact⟨_,_,rfl,by show (("call" : Str) == "out")=false; decide +kernel⟩
 | wh e b=>exact⟨_,_,rfl,by show (("while" : Str) == "out")=false; decide +kernel⟩
 | iff e b c=>exact⟨_,_,rfl,by show (("if" : Str) == "out")=false; decide +kernel⟩
def nd (k:Nat) (r:Row):List Str:=("at " ++ gY k)::if r.out then ["let " ++ gY k, "out " ++ gY k] else []
def cJ:Nat->List Row->List Str
 | _,[]=>[]
 | k,r::l=>nd k r++cJ (k+1) l
theorem qU:∀(k:Nat) (a b:List Row),cJ k (a++b)=cJ k a++cJ (k+a.length) b
 | k,[],b=>rfl
 | k,r::a,b=>by show nd k r++cJ (k+1) (a++b)=(nd k r++cJ (k+1) a)++_;rw[qU (k+1) a b,YQ,show k+(r::a).length=k+1+a.length by simp only[Yy]; omega]
theorem ye (k:Nat) (r:Row):(nd k r).length<=3:=by unfold nd;split<;>simp
theorem vh:∀(k:Nat) (l:List Row),(cJ k l).length<=3*l.length
 | k,[]=>YC _
 | k,r::l=>by have h1:=ye k r;have h2:=vh (k+1) l;simp only[cJ,YJ,Yy];omega
abbrev mn:List Str:=["main"]
def ent (xs:List Str):List Str:=xs.flatMap λx=>["enter " ++ x, "leave " ++ x]
theorem Hm:∀xs:List Str,(ent xs).length=2*xs.length
 | []=>rfl
 | x::xs=>by have:=Hm xs;show (ent xs).length+1+1=_;rw[Yy];omega
def Qn (fs:List Fn):List Str:=fs.foldl (λss f=>eO ss f.name) []
theorem vm {y:Str}:∀(fs:List Fn) (ss:List Str),y∈fs.foldl (λss f=>eO ss f.name) ss ↔ y∈ss\/∃f∈fs,f.name=y
 | [],ss=>by simp
 | f::fs,ss=>by rw[ZX,vm fs,DQ];simp only[YF,exists_eq_or_imp,or_assoc];exact or_congr Iff.rfl (or_congr ⟨Eq.symm,Eq.symm⟩ Iff.rfl)
theorem Hn:∀(fs:List Fn) (ss:List Str),(fs.foldl (λss f=>eO ss f.name) ss).length<=ss.length+fs.length
 | [],ss=>YC _
 | f::fs,ss=>by have h1:=Hn fs (eO ss f.name);have h2:=jr (ss:=ss) (x:=f.name);rw[ZX,Yy];omega
theorem uG:∀ss:List Str,pU (ss.map Sum.inr)=some ss
 | []=>rfl
 | x::ss=>by show (pU (ss.map Sum.inr)).map _=_;rw[uG ss];rfl
theorem X6:("box " : Str).length=4/\("enter " : Str).length=6/\("leave " : Str).length=6/\("let " : Str).length=4/\("out " : Str).length=4/\("at " : Str).length=3/\("main" : Str).length=4:=by decide +kernel
abbrev tE (ss:List Str):List PV:=(gW (sW ss)).map PV.str
theorem Ab:∀ss:List Str,uV (ss.map PV.str)=some ss
 | []=>rfl
 | x::ss=>by show (uV (ss.map PV.str)).map _=_;rw[Ab ss];rfl
theorem Em {c:Str} {f:EF} {U U1:Ev} {x:Str} (h:f U=some (.sh (.str x),U1)) (hl:c.length<=10) (hx:x.length<=1000):lH c f U=some (.sh (.str (c++x)),U1):=Qe h (by show (if x.length<=100000 then some x else none)=_; rw[aaN (by omega)]) (by omega)
theorem En {c:Str} {f:EF} {U U1:Ev} {k:Nat} (h:f U=some (.sh (.int (k:Nat)),U1)) (hl:c.length<=10) (hk:k<256):lH c f U=some (.sh (.str (c++gY k)),U1):=by obtain⟨g1,g2,g3⟩:=Lg k hk;exact Qe h g1 (by omega)
section
variable [HK]
abbrev NV (p:PV) (n:Nat) (acc:List PV) (o3 o4:Option Lc) (mu:Mu):Ev:=⟨[zS p,zS (.ptr n),zO acc,o3,o4],mu⟩
theorem Ho {mu:Mu}:∀(xs:List Str) (o:Option Lc) (acc:List PV),(∀x∈xs,x.length<=1000)->acc.length+xs.length<=5000->cz (aA 0) bQ (lH "box " (aa 0)) (gB xs) ⟨[o],mu⟩ acc=some (acc++gB (xs.map λx => "box " ++ x),mu)
 | [],o,acc,_,_=>by simp[cz]
 | x::xs,o,acc,hx,h=>by simp only[Yy]at h;refine fu (U1:=E1 (.str x) mu) (l:=.sh (.str ("box " ++ x))) (U2:=E1 (.str x) mu) rfl (Em rfl (by decide +kernel) (hx x Yz)) (by omega) ((Ho xs _ (acc++[.str ("box " ++ x)]) (λy hy=>hx y (YG _ hy)) (by rw[YJ]; simp only[Yy,YK]; omega)).trans ?_);simp
abbrev Xf:SF:=j8 2 (cM (aj (lH "enter " (aa 3)) (aj (lH "leave " (aa 3)) ao)))
theorem Hq {p:PV} {n:Nat} {o4:Option Lc} {mu:Mu}:∀(xs:List Str) (acc:List PV) (o3:Option Lc),(∀x∈xs,x.length<=1000)->acc.length+2*xs.length<=5000->∃p3,cP (aA 3) Xf (gB xs) (NV p n acc o3 o4 mu)=some (.nx (NV p n (acc++gB (ent xs)) p3 o4 mu))
 | [],acc,o3,_,_=>⟨o3,by simp[cP,ent]⟩
 | x::xs,acc,o3,hx,h=>by simp only[Yy]at h;have hx1:=hx x Yz;let X:Option Lc:=zT x;let ws:List PV:=[.str ("enter " ++ x),.str ("leave " ++ x)];obtain⟨p3,ih⟩:=Hq (p:=p) (n:=n) (o4:=o4) (mu:=mu) xs (acc++ws) X (λy hy=>hx y (YG _ hy)) (by rw[YJ]; simp only[ws,Yy,YK]; omega);have st:Xf (NV p n acc X o4 mu)=some (.nx (NV p n (acc++ws) X o4 mu)):=qK (i:=2) (ws0:=acc) (ws:=acc) (ps:=ws) (l:=.own (.lst ws)) (U1:=NV p n acc X o4 mu) rfl (Dd (ls:=[.sh (.str ("enter " ++ x)),.sh (.str ("leave " ++ x))]) (aC (U1:=NV p n acc X o4 mu) (Em rfl (by decide +kernel) hx1) (aC (U1:=NV p n acc X o4 mu) (Em rfl (by decide +kernel) hx1) rfl)) rfl rfl) rfl rfl (by simp only[ws,Yy,YK]; omega) rfl;refine⟨p3,cF (U1:=NV p n acc X o4 mu) rfl st (ih.trans ?_)⟩;simp[ws,ent]
abbrev nwB:SF:=aD (iK 2 (lH "at " (aa 4)))
 (dj (tT (aq eqP (aR (mF "Plan" "row" jR (aa 1) (aj (aa 4) ao)) (abO 0)) (abP "out")) aY)
 (j8 2 (cM (aj (lH "let " (aa 4)) (aj (lH "out " (aa 4)) ao))))
 cN)
theorem Hr {p:PV} {n N:Nat} {hd:PV} {o3:Option Lc} {mu:Mu} {es:List Ent} (hm:mu[n]?=some (some (dG "Plan" (DR es N hd)))):∀(l:List Row) (i:Nat) (acc:List PV) (o4:Option Lc),(∀(j:Nat) x,l[j]?=some x->∃e,es[i+j]?=some e/\e.r=x)->i+l.length<=256->acc.length+3*l.length<=5000->∃p4,cP (aA 4) nwB ((List.range' i l.length).map λ(k:Nat)=>PV.int (k:Nat)) (NV p n acc o3 o4 mu)=some (.nx (NV p n (acc++gB (cJ i l)) o3 p4 mu))
 | [],i,acc,o4,_,_,_=>⟨o4,by simp[cP,cJ]⟩
 | r::l,i,acc,o4,he,hi,h=>by
  simp only[Yy]at h hi;obtain⟨e,e1,er⟩:=he 0 r rfl;rw[Nat.add_zero]at e1;have hr:=VH (mu:=mu) (n:=n) ⟨N,hd,hm⟩ e1;rw[er]at hr;let K:Option Lc:=zI (i:Nat);have hn:=ye i r;obtain⟨p4,ih⟩:=Hr (p:=p) (o3:=o3) hm l (i+1) (acc++gB (nd i r)) K (λj x hx=>by obtain⟨e,h1,h2⟩:=he (j+1) x (by simpa using hx);exact⟨e,by rwa [show i+(j+1)=i+1+j by omega]at h1,h2⟩) (by omega) (by rw[YJ,YH]; omega)
  let A1:=acc++[PV.str ("at " ++ gY i)];have l1:A1.length=acc.length+1:=by simp[A1]
  let E:=NV p n A1 o3 K mu;have hc:(["told", "lists", "heads"]:List Str).contains "row" = false:=by decide +kernel
  have s1:iK 2 (lH "at " (aa 4)) (NV p n acc o3 K mu)=some (.nx E):=mU (i:=2) (ws0:=acc) (ws:=acc) (p:=.str ("at " ++ gY i)) (l:=.sh (.str ("at " ++ gY i))) (U1:=NV p n acc o3 K mu) rfl (En rfl (by decide +kernel) (by omega)) rfl rfl (by omega) rfl;obtain⟨w,t,ew,eo⟩:=r.wd;have t2:tT (aq eqP (aR (mF "Plan" "row" jR (aa 1) (aj (aa 4) ao)) (abO 0)) (abP "out")) aY E=some (r.out,E):=by rw[<-eo];refine iz (gb (p:=.tup (.str w::t)) (q:=.int 0) (l:=.sh r.pv) (m:=.sh (.int 0)) (U1:=E) (U2:=E) (yM (n:=n) (x:=.sh (.ptr n)) (U1:=E) (U2:=E) (ls:=[.sh (.int (i:Nat))]) rfl rfl hm hc rfl rfl hr) ew rfl rfl (λn h=>by cases h) (by show (gq (PV.str w::t) 0).map _=_; rw[at0]; rfl))
  have st:nwB (NV p n acc o3 K mu)=some (.nx (NV p n (acc++gB (nd i r)) o3 K mu)):=by
   refine aF s1 ?_;unfold nd;cases ho:r.out with
   | false=>
    rw[ho]at t2;exact jX t2
   | true=>
    rw[ho]at t2;refine(jW t2).trans ?_;let ws:List PV:=[.str ("let " ++ gY i),.str ("out " ++ gY i)];refine(qK (i:=2) (ws0:=A1) (ws:=A1) (ps:=ws) (l:=.own (.lst ws)) (U1:=E) rfl (Dd (ls:=[.sh (.str ("let " ++ gY i)),.sh (.str ("out " ++ gY i))]) (aC (U1:=E) (En rfl (by decide +kernel) (by omega)) (aC (U1:=E) (En rfl (by decide +kernel) (by omega)) rfl)) rfl rfl) rfl rfl (by simp only[ws,Yy,YK]; omega) rfl).trans ?_;show some (Fl.nx (NV p n (A1++ws) o3 K mu))=_;simp[A1,ws]
  refine⟨p4,cF (U1:=NV p n acc o3 K mu) rfl st (ih.trans ?_)⟩;simp[cJ]
def tl (ts:List (Str×PV×PV)) (P:Pg):List Str:=((hps ts P.fns).map (·.1)).map (λ(x:Str)=>("box " ++ x:Str))++(ent (Qn P.fns++mn)++cJ 0 P.rws)
theorem es_rws (P:Pg):P.es.map Ent.r=P.rws:=by
 have f:∀(fs:List Fn) (k:Nat),(uz fs k).map Ent.r=nF fs:=by
  intro fs;induction fs with
  | nil=>intro k; rfl
  | cons f fs ih=>intro k; simp[uz,nF,Rows.es_rws,ih]
 unfold Pg.es Pg.rws;rw[YZ,f,Rows.es_rws]
theorem Hs:∀fs:List Fn,(∀f∈fs,vK f)->∀q∈jN fs,q.1.length<=1000
 | [],_,q,hq=>by cases hq
 | f::fs,h,q,hq=>by
  obtain⟨h1,xs,e,_,h2⟩:=h f Yz;rcases Y6_.mp hq with hq | hq
  . rcases YF.mp hq with rfl | hq
    . exact h1
    . rw[e,ZL]at hq;obtain⟨x,hx,rfl⟩:=Za.mp hq;exact h2 x hx
  . exact Hs fs (λg hg=>h g (YG _ hg)) q hq
theorem Eo {P:Pg} (h:P.fine) {ts:List (Str×PV×PV)} (eb:P.boxes=ts.map Hh) (hb:ts.length<=60) (hbn:∀t∈ts,t.1.length<=1000) (mu:Mu):∃mu',qP [P.pv] mu=some (.own (.lst (tE (tl ts P))),mu'):=by
 obtain⟨d,B,kd,ei⟩:=RP h.ok mu;let mu1:=mu++some (dG "Plan" (DR P.es (mu.length+1) (dz d)))::B;have hm:mu1[mu.length]?=some (some (dG "Plan" (DR P.es (mu.length+1) (dz d)))):=Jj;have hfn:∀f∈P.fns,vK f:=h.nl;have hfl:=h.ok.fl;have hct:=h.ok.ct;have hes:=es_len P;have hrw:P.rws.length=P.es.length:=by rw[<-es_rws,YH]
 let n:=mu.length;let ns:=(hps ts P.fns).map (·.1);have nsl:ns.length<=60+101*20:=by have:=wF P.fns hfn;show ((hps ts P.fns).map (·.1)).length<=_;unfold hps;rw[YH,YJ,YH];omega
 have nsx:∀x∈ns,x.length<=1000:=λx hx=>by
  obtain⟨q,hq,rfl⟩:=Za.mp hx;rcases Y6_.mp hq with hq | hq
  . obtain⟨t,ht,rfl⟩:=Za.mp hq;exact hbn t ht
  . exact Hs P.fns hfn q hq
 let ss:=Qn P.fns;have ssl:ss.length<=20:=by have:=Hn P.fns [];show (P.fns.foldl (λss f=>eO ss f.name) []).length<=20;simp only[YK]at this;omega
 have ssx:∀x∈ss++mn,x.length<=1000:=λx hx=>by
  rcases Y6_.mp hx with hx | hx
  . obtain⟨f,hf,rfl⟩:=((vm P.fns []).mp hx).resolve_left (by simp);exact(hfn f hf).1
  . rw[Ze.mp hx];have:=X6;omega
 let A1:=gB (ns.map λx => "box " ++ x);have l1:A1.length=ns.length:=by simp[A1]
 let A2:=A1++gB (ent (ss++mn));have l2:A2.length=ns.length+2*(ss.length+1):=by show (A1++gB (ent (ss++mn))).length=_;have e:=Hm (ss++mn);rw[YJ]at e;rw[YJ,l1,show (gB (ent (ss++mn))).length=(ent (ss++mn)).length from YH _,e];rfl
 obtain⟨p3,e3⟩:=Hq (p:=P.pv) (n:=n) (o4:=none) (mu:=mu1) (ss++mn) A1 none ssx (by rw[YJ]; simp only[Yy,YK]; omega);obtain⟨p4,e4⟩:=Hr (p:=P.pv) (n:=n) (o3:=p3) (mu:=mu1) hm P.rws 0 A2 none (λj x hx=>by
  rw[<-es_rws,Y4]at hx;cases hj:P.es[j]? with
  | none=>rw[hj]at hx; cases hx
  | some e=>
   rw[hj]at hx;cases hx;exact⟨e,by rw[aaJ]; exact hj,rfl⟩) (by omega) (by omega)
 have e2:=Ho (mu:=mu1) ns none [] nsx (by simp only[YK]; omega);rw[Zr]at e2;have en:=O1 eb hb hfn hfl mu1;have ebd:lW [.ptr n] mu1=some (.own (.lst (gB (ss++mn))),mu1):=by
  refine bG (U:=E1 (.ptr n) mu1) (fY (aN (x:=.own (.lst (gB ss))) (y:=.own (.lst [.str "main"])) (U1:=E1 (.ptr n) mu1) (lR (ls:=[.sh (dz d)]) (ps:=[dz d]) (U1:=E1 (.ptr n) mu1) (aC (U1:=E1 (.ptr n) mu1) (DP (U1:=E1 (.ptr n) mu1) (x:=.sh (.ptr n)) (n:=n) rfl rfl hm rfl) rfl) rfl ?_) rfl ?_))
  . show ((pU (d.map (·.1))).bind _)=_;rw[show d.map (·.1)=ss.map Sum.inr from kd,uG,YB,aaN (by omega)]
  . show (if (gB ss).length+1<=100000 then _ else _)=_;rw[aaN (by rw[YH]; omega)];simp
 have enm:lC [.ptr n] mu1=some (.own (.lst ((List.range' 0 P.rws.length).map λ(k:Nat)=>PV.int (k:Nat))),mu1):=by refine bG (U:=E1 (.ptr n) mu1) (fY ?_);have hf:eB bz (aj (v7 "Plan" "told" (aa 0)) ao) (E1 (.ptr n) mu1)=some (.sh (.int ((evs P.es).length:Nat)),E1 (.ptr n) mu1):=lR (ls:=[.sh (.lst (evs P.es))]) (ps:=[.lst (evs P.es)]) (U1:=E1 (.ptr n) mu1) (aC (U1:=E1 (.ptr n) mu1) (DP (U1:=E1 (.ptr n) mu1) (x:=.sh (.ptr n)) (n:=n) rfl rfl hm rfl) rfl) rfl rfl;show Bc _ (E1 (.ptr n) mu1)=_;unfold Bc;rw[hf,YB];show (if (0:Int)<=((evs P.es).length:Nat)/\(((evs P.es).length:Nat):Int)<=100000 then _ else _)=_;rw[aaN (by rw[je]; omega),<-List.range_eq_range',hrw,je];rfl
 have c1:(["told", "lists", "heads"]:List Str).contains "bodies" = false:=by decide +kernel
 have c2:(["told", "lists", "heads"]:List Str).contains "numbers" = false:=by decide +kernel
 let E0:Ev:=⟨[zS P.pv,none,none,none,none],mu⟩;let Ea:Ev:=⟨[zS P.pv,zS (.ptr n),none,none,none],mu1⟩;let T:=A2++gB (cJ 0 P.rws);have eT:T=gB (tl ts P):=by show A1++gB (ent (ss++mn))++gB (cJ 0 P.rws)=_;simp[tl,A1,ns,ss]
 have lT:(tl ts P).length<4000:=by have h1:=congrArg List.length eT;have h2:=vh 0 P.rws;rw[YH,YJ,YH,l2]at h1;omega
 refine⟨mu1,bG (U:=⟨[zS P.pv,zS (.ptr n),zL T,p3,p4],mu1⟩) ?_⟩;refine aF (U':=Ea) (bD (l:=.sh (.ptr n)) (U1:=⟨[zS P.pv,none,none,none,none],mu1⟩) (RM (U1:=E0) (ls:=[.sh P.pv]) rfl rfl ei) rfl rfl) ?_;refine aF (U':=NV P.pv n A1 none none mu1) (bD (l:=.own (.lst A1)) (U1:=Ea) ((fM (U1:=Ea) (xs:=gB ns) (dw (l:=.own (.lst (gB ns))) (bH (ls:=[.sh P.pv]) (ps:=[P.pv]) (U1:=Ea) rfl rfl rfl rfl en) rfl) e2).trans rfl) rfl rfl) ?_;refine aF (U':=NV P.pv n A2 p3 none mu1) (dN (xs:=gB (ss++mn)) (U1:=NV P.pv n A1 none none mu1) (dw (l:=.own (.lst (gB (ss++mn)))) (yM (n:=n) (x:=.sh (.ptr n)) (U1:=NV P.pv n A1 none none mu1) (U2:=NV P.pv n A1 none none mu1) (ls:=[]) rfl rfl hm c1 rfl rfl ebd) rfl) e3) ?_;refine aF (U':=NV P.pv n T p3 p4 mu1) (dN (xs:=(List.range' 0 P.rws.length).map λ(k:Nat)=>PV.int (k:Nat)) (U1:=NV P.pv n A2 p3 none mu1) (dw (l:=.own (.lst ((List.range' 0 P.rws.length).map λ(k:Nat)=>PV.int (k:Nat)))) (yM (n:=n) (x:=.sh (.ptr n)) (U1:=NV P.pv n A2 p3 none mu1) (U2:=NV P.pv n A2 p3 none mu1) (ls:=[]) rfl rfl hm c2 rfl rfl enm) rfl) e4) ?_;refine fY ?_;unfold ut;rw[show aa 2 (NV P.pv n T p3 p4 mu1)=some (.sh (.lst T),⟨[zS P.pv,zS (.ptr n),zL T,p3,p4],mu1⟩) from rfl,YB];show ((uV T).bind _)=_;rw[eT,Ab,YB,aaN lT]
end
def adds (acc l:List Str):List Str:=l.foldl eO acc
theorem kj (acc a b:List Str):adds acc (a++b)=adds (adds acc a) b:=List.foldl_append ..
theorem iU:∀(l acc:List Str),(adds acc l).length<=acc.length+l.length
 | [],acc=>YC _
 | x::l,acc=>by have h1:=iU l (eO acc x);have h2:=jr (ss:=acc) (x:=x);show (adds (eO acc x) l).length<=_;rw[Yy];omega
theorem sH {y:Str}:∀(l acc:List Str),y∈adds acc l ↔ y∈acc\/y∈l
 | [],acc=>by simp[adds]
 | x::l,acc=>by show y∈adds (eO acc x) l ↔ _;rw[sH l,DQ,YF,or_assoc]
theorem nY:∀(l:List Str) {acc:List Str},acc.Nodup->(adds acc l).Nodup
 | [],_,h=>h
 | x::l,_,h=>nY l (Ji h)
theorem yQ (acc:List Str) (k:Nat) (l:List Row):(adds acc (cJ k l)).length<=acc.length+3*l.length:=by have h1:=iU (cJ k l) acc;have h2:=vh k l;omega
def dT (ss:List Str):PD:=ss.map λx=>(Sum.inr x,PV.bl true)
theorem LR (ss:List Str) (x:Str):ig (dT ss) (.inr x) (.bl true)=dT (eO ss x):=by
 have r:∀l:List Str,my (.inr x) (.bl true) (dT l)=dT l:=λl=>by
  induction l with
  | nil=>rfl
  | cons a l ih=>
   show (if (Sum.inr a:Key)=.inr x then ((Sum.inr a:Key),PV.bl true) else (Sum.inr a,.bl true))::my _ _ (dT l)=_;rw[ih];split<;>rfl
 have v:∀l:List Str,jK (dT l) (.inr x)=if x∈l then some (.bl true) else none:=λl=>by
  induction l with
  | nil=>rfl
  | cons a l ih=>
   show (if (Sum.inr a:Key)=.inr x then some (PV.bl true) else jK (dT l) (.inr x))=_;rw[ih];by_cases h:a=x
   . subst h;simp
   . rw[aaO (λq=>h (by cases q; rfl))];simp[YF,Ne.symm h]
 unfold ig eO;rw[v];by_cases h:x∈ss
 . rw[aaN h,aaN h];exact r ss
 . rw[aaO h,aaO h];show _=dT (ss++[x]);unfold dT;rw[YZ];rfl
section
variable [HK]
abbrev MD (mu:Mu) (t:Nat) (ss:List Str):Mu:=mu.set t (some (dz (dT ss)))
theorem Ep {mu:Mu} {t:Nat} {ss:List Str} (h:t<mu.length):(MD mu t ss)[t]?=some (some (dz (dT ss))):=Zi h
theorem V2 {mu:Mu} {t:Nat} {ss ss':List Str}:(MD mu t ss).set t (some (dz (dT ss')))=MD mu t ss':=Z3 ..
abbrev GE (X:PV) (f0 t k:Nat) (o4 o5:Option Lc) (mu:Mu):Ev:=⟨[zS X,zI (f0:Nat),zS (.ptr t),zI (k:Nat),o4,o5],mu⟩
abbrev O2:TF:=tT (aq pQ (aR (aa 4) (abO 0)) (aZ (aj (abP "if") (aj (abP "while") ao)))) aY
theorem wG {X:PV} {f0 t k:Nat} {w:Str} {ps:List PV} {o5:Option Lc} {mu:Mu}:aR (aa 4) (abO 0) (GE X f0 t k (zS (.tup (.str w::ps))) o5 mu)=some (.sh (.str w),GE X f0 t k (zS (.tup (.str w::ps))) o5 mu):=
 gb (p:=.tup (.str w::ps)) (q:=.int 0) (l:=.sh (.tup (.str w::ps))) (m:=.sh (.int 0)) rfl rfl rfl rfl (λn h=>by cases h) (by show (gq (PV.str w::ps) 0).map _=_; rw[at0]; rfl)
theorem Qo {X:PV} {f0 t k:Nat} {w:Str} {ps:List PV} {o5:Option Lc} {mu:Mu}:O2 (GE X f0 t k (zS (.tup (.str w::ps))) o5 mu)=some (jM w,GE X f0 t k (zS (.tup (.str w::ps))) o5 mu):=
 jY (l:=.sh (.bl (jM w))) (aN wG rfl rfl) rfl
abbrev V3 (n:Nat):SF:=aP 3 (bh (cH n) (aj (aa 5) (aj (aa 3) (aj (aa 2) ao))))
abbrev Xg (w:Str):EF:=aq bf (abP w) (eB str1 (aj (aa 3) ao))
abbrev stE (w:Str):SF:=uY (aa 2) (Xg w) (eC (.bl true))
abbrev V4:TF:=tT (aq eqP (aR (aa 4) (abO 0)) (abP "out")) aY
abbrev Qp (n:Nat):SF:=aD (stE "at ")
 (aD (dj V4 (aD (stE "let ") (stE "out ")) cN)
 (aD (aP 3 (aq bf (aa 3) (abO 1)))
 (dj O2
 (eQ (fX (oU (aa 4) (cA (abO 2)) iy) cC) (aA 5)
 (V3 n))
 cN)))
theorem Jo {w:Str} {X:PV} {f0 t k:Nat} {o4 o5:Option Lc} {mu:Mu} {ss:List Str} (ht:t<mu.length) (hw:w.length<=10) (hk:k<256) (hz:ss.length<5000):stE w (GE X f0 t k o4 o5 (MD mu t ss))=some (.nx (GE X f0 t k o4 o5 (MD mu t (eO ss (w++gY k))))):=by
 obtain⟨g1,g2,g3⟩:=Lg k hk;let E:=GE X f0 t k o4 o5 (MD mu t ss);have ek:Xg w E=some (.sh (.str (w++gY k)),E):=by refine aN (x:=.sh (.str w)) (y:=.sh (.str (gY k))) (U1:=E) rfl (lR (ls:=[.sh (.int (k:Nat))]) (ps:=[.int (k:Nat)]) (U1:=E) rfl rfl g3) ?_;show (if w.length+(gY k).length<=100000 then _ else _)=_;rw[aaN (by omega)]
 unfold stE uY;rw[show eC (.bl true) E=some (.sh (.bl true),E) from rfl,YB];dsimp only;rw[show aa 2 E=some (.sh (.ptr t),E) from rfl,YB];dsimp only;rw[ek,YB];have hl:((dT ss).map (·.1)).length<100000:=by simp only[dT,YH]; omega
 show (match (MD mu t ss)[t]? with | some (some (.dk ks ps))=>if ks.length<100000 then some (Fl.nx ⟨E.vs,(MD mu t ss).set t (some (dz (ig (ks.zip ps) (.inr (w++gY k)) (.bl true))))⟩) else none | _=>none)=_;rw[Ep ht];show (if ((dT ss).map (·.1)).length<100000 then some (Fl.nx ⟨E.vs,(MD mu t ss).set t (some (dz (ig (((dT ss).map (·.1)).zip ((dT ss).map (·.2))) (.inr (w++gY k)) (.bl true))))⟩) else none)=_;rw[aaN hl,GC,LR,V2]
theorem Yn {X:PV} {f0 t k:Nat} {r:Row} {o5:Option Lc} {mu:Mu}:V4 (GE X f0 t k (zS r.pv) o5 mu)=some (r.out,GE X f0 t k (zS r.pv) o5 mu):=by obtain⟨w,ps,e,eo⟩:=r.wd;rw[e,<-eo];exact iz wG
theorem yf {mu:Mu} {n f0 t k:Nat} {X:PV} {acc:List Str} {r:Row} {o5:Option Lc} {b:Bool} {R:Option Fl} (ht:t<mu.length) (hz:acc.length<4900) (hk:k<256) (hb:∀mu,O2 (GE X f0 t (k+1) (zS r.pv) o5 mu)=some (b,GE X f0 t (k+1) (zS r.pv) o5 mu))
 (h:(if b then eQ (fX (oU (aa 4) (cA (abO 2)) iy) cC) (aA 5) (V3 n) else cN) (GE X f0 t (k+1) (zS r.pv) o5 (MD mu t (adds acc (nd k r))))=R):
 Qp n (GE X f0 t k (zS r.pv) o5 (MD mu t acc))=R:=by
 have q1:=jr (ss:=acc) (x := "at " ++ gY k);have q2:=jr (ss:=eO acc ("at " ++ gY k)) (x := "let " ++ gY k);refine aF (Jo (o4:=zS r.pv) (o5:=o5) ht (by decide +kernel) hk (by omega)) ?_;have s2:dj V4 (aD (stE "let ") (stE "out ")) cN (GE X f0 t k (zS r.pv) o5 (MD mu t (eO acc ("at " ++ gY k))))=some (.nx (GE X f0 t k (zS r.pv) o5 (MD mu t (adds acc (nd k r))))):=by
  have o:=Yn (X:=X) (f0:=f0) (t:=t) (k:=k) (r:=r) (o5:=o5) (mu:=MD mu t (eO acc ("at " ++ gY k)));unfold nd;cases ho:r.out with
  | false=>
   rw[ho]at o;exact jX o
  | true=>
   rw[ho]at o;exact(jW o).trans (aF (Jo ht (by decide +kernel) hk (by omega)) (Jo ht (by decide +kernel) hk (by omega)))
 refine aF s2 (aF (U':=GE X f0 t (k+1) (zS r.pv) o5 (MD mu t (adds acc (nd k r)))) rfl ?_);cases b with
 | true=>exact(jW (hb _)).trans h
 | false=>exact(jX (hb _)).trans h
theorem Er {mu mu':Mu} {n f0 t k k':Nat} {X p:PV} {o4:Option Lc} (h:cH n [p,.int (k:Nat),.ptr t] mu=some (.sh (.int (k':Nat)),mu')):V3 n (GE X f0 t k o4 (zS p) mu)=some (.nx (GE X f0 t k' o4 (zS p) mu')):=
 bD (l:=.sh (.int (k':Nat))) (U1:=GE X f0 t k o4 (zS p) mu') (bH (ls:=[.sh p,.sh (.int (k:Nat)),.sh (.ptr t)]) (ps:=[p,.int (k:Nat),.ptr t]) (U1:=GE X f0 t k o4 (zS p) mu) rfl rfl rfl rfl h) rfl rfl
theorem Be {mu:Mu} {n t k:Nat} {acc:List Str} {rs:Rows} (h:∃o4 o5,cP (aA 4) (Qp n) rs.pvs (GE (.lst rs.pvs) k t k none none (MD mu t acc))=some (.nx (GE (.lst rs.pvs) k t (k+rs.cnt) o4 o5 (MD mu t (adds acc (cJ k rs.rws)))))):cH (n+1) [.lst rs.pvs,.int (k:Nat),.ptr t] (MD mu t acc)=some (.sh (.int ((k+rs.cnt:Nat):Int)),MD mu t (adds acc (cJ k rs.rws))):=by obtain⟨o4,o5,h⟩:=h;refine bG (U:=⟨[zL rs.pvs,zI (k:Nat),zS (.ptr t),none,o4,o5],MD mu t (adds acc (cJ k rs.rws))⟩) ?_;exact aF (U':=GE (.lst rs.pvs) k t k none none (MD mu t acc)) rfl (aF (dN (xs:=rs.pvs) (U1:=GE (.lst rs.pvs) k t k none none (MD mu t acc)) (dw (l:=.sh (.lst rs.pvs)) rfl rfl) h) rfl)
mutual
theorem V5 {mu:Mu} {t:Nat} (ht:t<mu.length):∀(r:Row) (n:Nat) (X:PV) (f0 k:Nat) (acc:List Str) (o5:Option Lc),r.ok->r.dep<=n->k+r.cnt<=256->acc.length+3*r.cnt<=4500->∃p5,Qp n (GE X f0 t k (zS r.pv) o5 (MD mu t acc))=some (.nx (GE X f0 t (k+r.cnt) (zS r.pv) p5 (MD mu t (adds acc (cJ k r.rws)))))
 | .leaf x ps,n,X,f0,k,acc,o5,ok,hd,hk,hc=>by simp only[Row.cnt]at hc hk;refine⟨o5,yf (r:=.leaf x ps) (b:=false) ht (by omega) (by omega) (λmu=>by rw[<-GK ok.1]; exact Qo) ?_⟩;show some (Fl.nx _)=_;rw[show cJ k (Row.leaf x ps).rws=nd k (.leaf x ps)++[] from rfl,Y7_];rfl
 | .call b m as,n,X,f0,k,acc,o5,ok,hd,hk,hc=>by simp only[Row.cnt]at hc hk;refine⟨o5,yf (r:=.call b m as) (b:=false) ht (by omega) (by omega) (λmu=>by rw[show false=jM "call" by decide +kernel]; exact Qo) ?_⟩;show some (Fl.nx _)=_;rw[show cJ k (Row.call b m as).rws=nd k (.call b m as)++[] from rfl,Y7_];rfl
 | .wh e b,n,X,f0,k,acc,o5,ok,hd,hk,hc=>by
  simp only[Row.cnt]at hc hk;simp only[Row.dep]at hd;have hb:=Rows.dep_pos b;obtain⟨m,rfl⟩:∃m,n=m+1:=⟨n-1,by omega⟩;let P:=(Row.wh e b).pv;let A1:=adds acc (nd k (.wh e b));have hA:A1.length<=acc.length+3:=Zc (iU _ _) (Nat.add_le_add_left (ye _ _) _);have ih:=Be (n:=m) (mu:=mu) (t:=t) (k:=k+1) (acc:=A1) (rs:=b) (qW ht b m (.lst b.pvs) (k+1) (k+1) A1 none none ok.2 (by omega) (by omega) (by omega));refine⟨zL b.pvs,yf (r:=.wh e b) (b:=true) ht (by omega) (by omega) (λmu=>by rw[show true=jM "while" by decide +kernel]; exact Qo) ?_⟩;refine dN (xs:=[.lst b.pvs]) (U1:=GE X f0 t (k+1) (zS P) o5 (MD mu t A1)) (dw (l:=.sh (.tup [.lst b.pvs])) rfl rfl) ((Ol (U1:=GE X f0 t (k+1) (zS P) (zL b.pvs) (MD mu t A1)) rfl (Er ih)).trans ?_);have e1:k+1+b.cnt=k+(Row.wh e b).cnt:=by simp only[Row.cnt]; omega
  have e2:adds A1 (cJ (k+1) b.rws)=adds acc (cJ k (Row.wh e b).rws):=(kj ..).symm;rw[e1,e2]
 | .iff e b c,n,X,f0,k,acc,o5,ok,hd,hk,hc=>by
  simp only[Row.cnt]at hc hk;simp only[Row.dep]at hd;have hb:=Rows.dep_pos b;obtain⟨m,rfl⟩:∃m,n=m+1:=⟨n-1,by omega⟩;let P:=(Row.iff e b c).pv;let A1:=adds acc (nd k (.iff e b c));have hA:A1.length<=acc.length+3:=Zc (iU _ _) (Nat.add_le_add_left (ye _ _) _);have ih:=Be (n:=m) (mu:=mu) (t:=t) (k:=k+1) (acc:=A1) (rs:=b) (qW ht b m (.lst b.pvs) (k+1) (k+1) A1 none none ok.2.1 (by omega) (by omega) (by omega));let A2:=adds A1 (cJ (k+1) b.rws);have hA2:A2.length<=acc.length+3+3*b.cnt:=by have:=yQ A1 (k+1) b.rws;rw[Rows.rws_len]at this;show (adds A1 (cJ (k+1) b.rws)).length<=_;omega
  have ih2:=Be (n:=m) (mu:=mu) (t:=t) (k:=k+1+b.cnt) (acc:=A2) (rs:=c) (qW ht c m (.lst c.pvs) (k+1+b.cnt) (k+1+b.cnt) A2 none none ok.2.2 (by omega) (by omega) (by omega));refine⟨zL c.pvs,yf (r:=.iff e b c) (b:=true) ht (by omega) (by omega) (λmu=>by rw[show true=jM "if" by decide +kernel]; exact Qo) ?_⟩;refine dN (xs:=[.lst b.pvs,.lst c.pvs]) (U1:=GE X f0 t (k+1) (zS P) o5 (MD mu t A1)) (dw (l:=.sh (.tup [.lst b.pvs,.lst c.pvs])) rfl rfl) ((Vy (U1:=GE X f0 t (k+1) (zS P) (zL b.pvs) (MD mu t A1)) (U3:=GE X f0 t (k+1+b.cnt) (zS P) (zL c.pvs) (MD mu t A2)) rfl (Er ih) rfl (Er ih2)).trans ?_);have e1:k+1+b.cnt+c.cnt=k+(Row.iff e b c).cnt:=by simp only[Row.cnt]; omega
  have e2:adds A2 (cJ (k+1+b.cnt) c.rws)=adds acc (cJ k (Row.iff e b c).rws):=by show _=adds acc (nd k (.iff e b c)++cJ (k+1) (b.rws++c.rws));rw[qU,kj,kj,Rows.rws_len]
  rw[e1,e2]
theorem qW {mu:Mu} {t:Nat} (ht:t<mu.length):∀(rs:Rows) (n:Nat) (X:PV) (f0 k:Nat) (acc:List Str) (o4 o5:Option Lc),rs.ok->rs.dep<=n+1->k+rs.cnt<=256->acc.length+3*rs.cnt<=4500->∃p4 p5,cP (aA 4) (Qp n) rs.pvs (GE X f0 t k o4 o5 (MD mu t acc))=some (.nx (GE X f0 t (k+rs.cnt) p4 p5 (MD mu t (adds acc (cJ k rs.rws)))))
 | .nil,n,X,f0,k,acc,o4,o5,ok,hd,hk,hc=>⟨o4,o5,rfl⟩
 | .cons r rs,n,X,f0,k,acc,o4,o5,ok,hd,hk,hc=>by
  simp only[Rows.dep]at hd;simp only[Rows.cnt]at hc hk;obtain⟨q5,e1⟩:=V5 ht r n X f0 k acc o5 ok.1 (by omega) (by omega) (by omega);have hl:=yQ acc k r.rws;rw[Row.rws_len]at hl;obtain⟨p4,p5,e2⟩:=qW ht rs n X f0 (k+r.cnt) (adds acc (cJ k r.rws)) (zS r.pv) q5 ok.2 (by omega) (by omega) (by omega);refine⟨p4,p5,cF (U1:=GE X f0 t k (zS r.pv) o5 (MD mu t acc)) rfl e1 (e2.trans ?_)⟩;have e3:k+r.cnt+rs.cnt=k+(Rows.cons r rs).cnt:=by simp only[Rows.cnt]; omega
  have e4:adds (adds acc (cJ k r.rws)) (cJ (k+r.cnt) rs.rws)=adds acc (cJ k (Rows.cons r rs).rws):=by show _=adds acc (cJ k (r.rws++rs.rws));rw[qU,kj,Row.rws_len]
  rw[e3,e4]
end
theorem Ht {mu:Mu} {t k:Nat} {acc:List Str} {rs:Rows} (ht:t<mu.length) (ok:rs.ok) (hd:rs.dep<=40) (hk:k+rs.cnt<=256) (hc:acc.length+3*rs.cnt<=4500):cH 40 [.lst rs.pvs,.int (k:Nat),.ptr t] (MD mu t acc)=some (.sh (.int ((k+rs.cnt:Nat):Int)),MD mu t (adds acc (cJ k rs.rws))):=
 Be (n:=39) (qW ht rs 39 _ k k acc none none ok (by omega) hk hc)
end
def jU (l:List Str):List Str:=l.map λ(x:Str)=>("box " ++ x:Str)
def vL (k:Nat) (f:Fn):List Str:=["box " ++ f.name, "enter " ++ f.name, "leave " ++ f.name]++(jU (f.params.map LK)++cJ k f.rows.rws)
def vM:Nat->List Fn->List Str
 | _,[]=>[]
 | k,f::fs=>vL k f++vM (k+f.rows.cnt) fs
theorem Ss {y:Str}:∀(xs:List Str),y∈ent xs ↔ ∃x∈xs,y = "enter " ++ x\/y = "leave " ++ x:=λxs=>by unfold ent;simp only[List.mem_flatMap,YF,ZR,or_false]
theorem Hu {y:Str}:∀(fs:List Fn) (k:Nat),y∈vM k fs ↔ y∈jU ((jN fs).map (·.1))\/(∃f∈fs,y = "enter " ++ f.name\/y = "leave " ++ f.name)\/y∈cJ k (nF fs)
 | [],k=>by simp[vM,jN,jU,nF,cJ]
 | f::fs,k=>by
  have e1:vM k (f::fs)=vL k f++vM (k+f.rows.cnt) fs:=rfl;have e2:jU ((jN (f::fs)).map (·.1))=["box " ++ f.name]++(jU (f.params.map LK)++jU ((jN fs).map (·.1))):=by simp[jN,jU]
  have e3:cJ k (nF (f::fs))=cJ k f.rows.rws++cJ (k+f.rows.cnt) (nF fs):=by show cJ k (f.rows.rws++nF fs)=_;rw[qU,Rows.rws_len]
  rw[e1,e2,e3,Y6_,Hu fs,vL];simp only[Y6_,YF,ZR,or_false,exists_eq_or_imp];constructor
  . rintro (((h | h | h) | h | h) | h | h | h)
    . exact .inl (.inl h)
    . exact .inr (.inl (.inl (.inl h)))
    . exact .inr (.inl (.inl (.inr h)))
    . exact .inl (.inr (.inl h))
    . exact .inr (.inr (.inl h))
    . exact .inl (.inr (.inr h))
    . exact .inr (.inl (.inr h))
    . exact .inr (.inr (.inr h))
  . rintro ((h | h | h) | ((h | h) | h) | h | h)
    . exact .inl (.inl (.inl h))
    . exact .inl (.inr (.inl h))
    . exact .inr (.inl h)
    . exact .inl (.inl (.inr (.inl h)))
    . exact .inl (.inl (.inr (.inr h)))
    . exact .inr (.inr (.inl h))
    . exact .inl (.inr (.inr h))
    . exact .inr (.inr (.inr h))
abbrev D0:List Str:=["enter main", "leave main"]
def yR (ts:List (Str×PV×PV)) (P:Pg):List Str:=adds (adds (adds D0 (vM 0 P.fns)) (cJ (dM P.fns) P.rows.rws)) (jU (ts.map (·.1)))
theorem Su {y:Str} (ts:List (Str×PV×PV)) (P:Pg):y∈yR ts P ↔ y∈tl ts P:=by
 have em:("enter main" : Str) = "enter " ++ "main" := by decide +kernel
 have lm:("leave main" : Str) = "leave " ++ "main" := by decide +kernel
 have e1:tl ts P=jU (ts.map (·.1))++jU ((jN P.fns).map (·.1))++(ent (Qn P.fns++mn)++cJ 0 P.rws):=by unfold tl hps jU;simp
 have e2:cJ 0 P.rws=cJ 0 (nF P.fns)++cJ (dM P.fns) P.rows.rws:=by unfold Pg.rws;rw[qU,DW,aaJ]
 have e3:(∃x∈Qn P.fns++mn,y = "enter " ++ x\/y = "leave " ++ x) ↔ (∃f∈P.fns,y = "enter " ++ f.name\/y = "leave " ++ f.name)\/y∈D0:=by
  constructor
  . rintro⟨x,hx,h⟩;rcases Y6_.mp hx with hx | hx
    . obtain⟨f,hf,rfl⟩:=((vm P.fns []).mp hx).resolve_left (by simp);exact .inl ⟨f,hf,h⟩
    . rw[Ze.mp hx,<-em,<-lm]at h;exact .inr (by simpa using h)
  . rintro (⟨f,hf,h⟩ | h)
    . exact⟨f.name,Z9 _ ((vm P.fns []).mpr (.inr ⟨f,hf,rfl⟩)),h⟩
    . refine⟨"main",Zm _ (Ze.mpr rfl),?_⟩;rw[<-em,<-lm];simpa using h
 unfold yR;rw[e1,sH,sH,sH,Hu,Y6_,Y6_,Y6_,e2,Y6_,Ss,e3];constructor
 . rintro (((h | h | h | h) | h) | h)
   . exact .inr (.inl (.inr h))
   . exact .inl (.inr h)
   . exact .inr (.inl (.inl h))
   . exact .inr (.inr (.inl h))
   . exact .inr (.inr (.inr h))
   . exact .inl (.inl h)
 . rintro ((h | h) | (h | h) | h | h)
   . exact .inr h
   . exact .inl (.inl (.inr (.inl h)))
   . exact .inl (.inl (.inr (.inr (.inl h))))
   . exact .inl (.inl (.inl h))
   . exact .inl (.inl (.inr (.inr (.inr h))))
   . exact .inl (.inr h)
theorem Ac (ts:List (Str×PV×PV)) (P:Pg):(yR ts P).Nodup:=nY _ (nY _ (nY _ (by decide +kernel)))
theorem Es (ts:List (Str×PV×PV)) (P:Pg):(gW (yR ts P)).map PV.str=tE (tl ts P):=by show _=(gW (sW (tl ts P))).map PV.str;rw[Fb (rQ (Ac ts P) rP λy=>(Su ts P).trans uo.symm)]
theorem Hv {k:Nat} {f:Fn} (h:vK f):(vL k f).length<=103+3*f.rows.cnt:=by obtain⟨_,xs,e,hl,_⟩:=h;have h2:=vh k f.rows.rws;rw[Rows.rws_len]at h2;simp only[vL,jU,YJ,Yy,YK,YH,e];omega
theorem V6 {ss:List Str}:PN (.lst (tE ss)) (.lst (tE ss))=zS (.bl false):=by
 show (cZ 150 (.lst (tE ss)) (.lst (tE ss))).map _=_;rw[gn (n:=149) λp hp=>by obtain⟨x,_,rfl⟩:=Za.mp hp;exact gh fK (by omega)]
 rfl
theorem V7 {ss:List Str}:eqP (.lst (tE ss)) (.lst (tE ss))=zS (.bl true):=by
 show (cZ 150 (.lst (tE ss)) (.lst (tE ss))).map _=_;rw[gn (n:=149) λp hp=>by obtain⟨x,_,rfl⟩:=Za.mp hp;exact gh fK (by omega)]
 rfl
section
variable [HK]
abbrev DO (ss:List Str):Option Lc:=some (.own (dz (dT ss)))
abbrev LW (S P:PV) (a2 a3 a4 a5 a6 a7 a8 a9 a10 a11:Option Lc) (mu:Mu):Ev:=⟨[zS S,zS P,a2,a3,a4,a5,a6,a7,a8,a9,a10,a11],mu⟩
variable {S P:PV} {a3 a4 a5 a6 a7 a8 a9 a10 a11:Option Lc} {mu:Mu}
theorem Jp {ss:List Str} {f:EF} {x:Str} (h:f (LW S P (DO ss) a3 a4 a5 a6 a7 a8 a9 a10 a11 mu)=some (.sh (.str x),LW S P (DO ss) a3 a4 a5 a6 a7 a8 a9 a10 a11 mu)) (hz:ss.length<5000):jD 2 f (eC (.bl true)) (LW S P (DO ss) a3 a4 a5 a6 a7 a8 a9 a10 a11 mu)=some (.nx (LW S P (DO (eO ss x)) a3 a4 a5 a6 a7 a8 a9 a10 a11 mu)):=by unfold jD;rw[show eC (.bl true) (LW S P (DO ss) a3 a4 a5 a6 a7 a8 a9 a10 a11 mu)=some (.sh (.bl true),LW S P (DO ss) a3 a4 a5 a6 a7 a8 a9 a10 a11 mu) from rfl,YB];show ((f (LW S P (DO ss) a3 a4 a5 a6 a7 a8 a9 a10 a11 mu)).bind _)=_;rw[h,YB];show (if ((dT ss).map (·.1)).length<100000 then some (Fl.nx (Ev.set _ 2 (some (.own (dz (ig (((dT ss).map (·.1)).zip ((dT ss).map (·.2))) (.inr x) (.bl true))))))) else _)=_;rw[aaN (by simp only[dT,YH]; omega),GC,LR];rfl
theorem cat {w x:Str} (hw:w.length<=10) (hx:x.length<=1000):bf (.str w) (.str x)=zT (w++x):=by show (if w.length+x.length<=100000 then _ else _)=_;rw[aaN (by omega)]
abbrev V8:SF:=jD 2 (aq bf (aa 8) (aa 4)) (eC (.bl true))
theorem Sv {ss:List Str} {n:Str} (hn:n.length<=1000) (hz:ss.length<4900):cP (aA 8) V8 [.str "box ",.str "enter ",.str "leave "] (LW S P (DO ss) a3 (zT n) a5 a6 a7 a8 a9 a10 a11 mu)=some (.nx (LW S P (DO (adds ss ["box " ++ n, "enter " ++ n, "leave " ++ n])) a3 (zT n) a5 a6 a7 (some (.sh (.str "leave "))) a9 a10 a11 mu)):=by let N:Option Lc:=zT n;have k:∀(ss:List Str) (w:Str),w.length<=10->ss.length<5000->V8 (LW S P (DO ss) a3 N a5 a6 a7 (zT w) a9 a10 a11 mu)=some (.nx (LW S P (DO (eO ss (w++n))) a3 N a5 a6 a7 (zT w) a9 a10 a11 mu)):=λss w hw hz=>Jp (aN (x:=.sh (.str w)) (y:=.sh (.str n)) rfl rfl (cat hw hn)) hz;have q1:=jr (ss:=ss) (x := "box " ++ n);have q2:=jr (ss:=eO ss ("box " ++ n)) (x := "enter " ++ n);exact cF rfl (k ss "box " (by decide +kernel) (by omega)) (cF rfl (k _ "enter " (by decide +kernel) (by omega)) (cF rfl (k _ "leave " (by decide +kernel) (by omega)) rfl))
abbrev Xh:SF:=jD 2 (aq bf (abP "box ") (aR (aa 9) (abO 0))) (eC (.bl true))
theorem Hw:∀(xs:List Str) (ss:List Str) (a9:Option Lc),(∀x∈xs,x.length<=1000)->ss.length+xs.length<5000->∃p9,cP (aA 9) Xh (xs.map λx=>.tup [.str x,.non]) (LW S P (DO ss) a3 a4 a5 a6 a7 a8 a9 a10 a11 mu)=some (.nx (LW S P (DO (adds ss (jU xs))) a3 a4 a5 a6 a7 a8 p9 a10 a11 mu))
 | [],ss,a9,_,_=>⟨a9,rfl⟩
 | x::xs,ss,a9,hx,hz=>by simp only[Yy]at hz;have q1:=jr (ss:=ss) (x := "box " ++ x);obtain⟨p9,ih⟩:=Hw xs (eO ss ("box " ++ x)) (zS (.tup [.str x,.non])) (λy hy=>hx y (YG _ hy)) (by omega);exact⟨p9,cF rfl (Jp (aN (x:=.sh (.str "box ")) (y:=.sh (.str x)) rfl rfl (cat (by decide +kernel) (hx x Yz))) (by omega)) ih⟩
abbrev Yo:SF:=jD 2 (aq bf (abP "box ") (aR (aa 10) (abO 0))) (eC (.bl true))
theorem Hx:∀(ts:List (Str×PV×PV)) (ss:List Str) (a10:Option Lc),(∀t∈ts,t.1.length<=1000)->ss.length+ts.length<5000->∃p10,cP (aA 10) Yo (ts.map Hh) (LW S P (DO ss) a3 a4 a5 a6 a7 a8 a9 a10 a11 mu)=some (.nx (LW S P (DO (adds ss (jU (ts.map (·.1))))) a3 a4 a5 a6 a7 a8 a9 p10 a11 mu))
 | [],ss,a10,_,_=>⟨a10,rfl⟩
 | t::ts,ss,a10,hx,hz=>by simp only[Yy]at hz;have q1:=jr (ss:=ss) (x := "box " ++ t.1);obtain⟨p10,ih⟩:=Hx ts (eO ss ("box " ++ t.1)) (zS (Hh t)) (λy hy=>hx y (YG _ hy)) (by omega);exact⟨p10,cF rfl (Jp (aN (x:=.sh (.str "box ")) (y:=.sh (.str t.1)) rfl rfl (cat (by decide +kernel) (hx t Yz))) (by omega)) ih⟩
theorem Hy {ss:List Str}:MD (mu++[some (dz (dT ss))]) mu.length ss=mu++[some (dz (dT ss))]:=Jk
abbrev V9:SF:=uR 2 (qO 2 (aP 3 (bh (cH 40) (aj (aa 7) (aj (aa 3) (aj (aa 2) ao))))))
theorem Wa {ss:List Str} {k:Nat} {rs:Rows} (ok:rs.ok) (hd:rs.dep<=40) (hk:k+rs.cnt<=256) (hc:ss.length+3*rs.cnt<=4500):∃mu',V9 (LW S P (DO ss) (zI (k:Nat)) a4 a5 a6 (zL rs.pvs) a8 a9 a10 a11 mu)=some (.nx (LW S P (DO (adds ss (cJ k rs.rws))) (zI ((k+rs.cnt:Nat):Int)) a4 a5 a6 (zL rs.pvs) a8 a9 a10 a11 mu')):=by
 let mu1:Mu:=mu++[some (dz (dT ss))];have lt:mu.length<mu1.length:=by simp[mu1]
 have e:=Ht (mu:=mu1) (t:=mu.length) (k:=k) (acc:=ss) (rs:=rs) lt ok hd hk hc;rw[Hy]at e;let mu2:=MD mu1 mu.length (adds ss (cJ k rs.rws));refine⟨mu2.set mu.length none,?_⟩;have st:qO 2 (aP 3 (bh (cH 40) (aj (aa 7) (aj (aa 3) (aj (aa 2) ao))))) (LW S P (DO ss) (zI (k:Nat)) a4 a5 a6 (zL rs.pvs) a8 a9 a10 a11 mu)=some (.nx (LW S P (zS (.ptr mu.length)) (zI ((k+rs.cnt:Nat):Int)) a4 a5 a6 (zL rs.pvs) a8 a9 a10 a11 mu2)):=by show aP 3 _ (LW S P (zS (.ptr mu.length)) (zI (k:Nat)) a4 a5 a6 (zL rs.pvs) a8 a9 a10 a11 mu1)=_;exact bD (l:=.sh (.int ((k+rs.cnt:Nat):Int))) (U1:=LW S P (zS (.ptr mu.length)) (zI (k:Nat)) a4 a5 a6 (zL rs.pvs) a8 a9 a10 a11 mu2) (bH (ls:=[.sh (.lst rs.pvs),.sh (.int (k:Nat)),.sh (.ptr mu.length)]) (ps:=[.lst rs.pvs,.int (k:Nat),.ptr mu.length]) (U1:=LW S P (zS (.ptr mu.length)) (zI (k:Nat)) a4 a5 a6 (zL rs.pvs) a8 a9 a10 a11 mu1) rfl rfl rfl rfl e) rfl rfl
 unfold V9 uR;rw[st,YB];show (match mu2[mu.length]? with | some (some p)=>some (Ev.mk _ _) | _=>none).map _=_;rw[show mu2[mu.length]?=some (some (dz (dT (adds ss (cJ k rs.rws))))) from Ep lt];rfl
abbrev Xi:SF:=aD (eQ (fX (aZ (aj (abP "box ") (aj (abP "enter ") (aj (abP "leave ") ao)))) cC) (aA 8) V8)
 (aD (eQ (fX (aa 6) cC) (aA 9) Xh) V9)
theorem W3 {f:Fn} {ss:List Str} {k:Nat} (hf:vK f) (ok:f.rows.ok) (hd:f.rows.dep<=40) (hk:k+f.rows.cnt<=256) (hc:ss.length+(103+3*f.rows.cnt)<=4400):∃p8 p9 mu',Xi (LW S P (DO ss) (zI (k:Nat)) (zT f.name) (zS f.rank) (zL f.params) (zL f.rows.pvs) a8 a9 a10 a11 mu)=some (.nx (LW S P (DO (adds ss (vL k f))) (zI ((k+f.rows.cnt:Nat):Int)) (zT f.name) (zS f.rank) (zL f.params) (zL f.rows.pvs) p8 p9 a10 a11 mu')):=by
 obtain⟨hn,xs,e,hl,hx⟩:=hf;let K:Option Lc:=zI (k:Nat);let N:Option Lc:=zT f.name;let R:Option Lc:=zS f.rank;let M:Option Lc:=zL f.params;let W:Option Lc:=zL f.rows.pvs;let s1:=adds ss ["box " ++ f.name, "enter " ++ f.name, "leave " ++ f.name];have l1:s1.length<=ss.length+3:=iU _ _;have w:=Sv (S:=S) (P:=P) (ss:=ss) (n:=f.name) (a3:=K) (a5:=R) (a6:=M) (a7:=W) (a8:=a8) (a9:=a9) (a10:=a10) (a11:=a11) (mu:=mu) hn (by omega);obtain⟨p9,e2⟩:=Hw (S:=S) (P:=P) (a3:=K) (a4:=N) (a5:=R) (a6:=M) (a7:=W) (a8:=some (.sh (.str "leave "))) (a10:=a10) (a11:=a11) (mu:=mu) xs s1 a9 hx (by omega);let s2:=adds s1 (jU xs);have l2:s2.length<=s1.length+xs.length:=by
  have:=iU (jU xs) s1
  rwa [show (jU xs).length=xs.length from YH _]at this
 obtain⟨mu',e3⟩:=Wa (S:=S) (P:=P) (ss:=s2) (k:=k) (rs:=f.rows) (a4:=N) (a5:=R) (a6:=M) (a8:=some (.sh (.str "leave "))) (a9:=p9) (a10:=a10) (a11:=a11) (mu:=mu) ok hd hk (by omega);refine⟨some (.sh (.str "leave ")),p9,mu',?_⟩;have e4:adds s2 (cJ k f.rows.rws)=adds ss (vL k f):=by unfold vL;rw[kj,kj,e,V1]
 rw[e4]at e3;refine aF (dN (xs:=[.str "box ",.str "enter ",.str "leave "]) (U1:=LW S P (DO ss) K N R M W a8 a9 a10 a11 mu) (dw (l:=.sh (.tup [.str "box ",.str "enter ",.str "leave "])) rfl rfl) w) ?_;refine aF (dN (xs:=xs.map λx=>.tup [.str x,.non]) (U1:=LW S P (DO s1) K N R M W (some (.sh (.str "leave "))) a9 a10 a11 mu) (dw (l:=.sh (.lst f.params)) rfl (by show some f.params=_; rw[e])) e2) e3
theorem Et:∀(fs:List Fn) (ss:List Str) (k:Nat) (a4 a5 a6 a7 a8 a9:Option Lc) (mu:Mu),(∀f∈fs,vK f/\f.rows.ok/\f.rows.dep<=11)->k+dM fs<=256->ss.length+(103*fs.length+3*dM fs)<=4400->∃p4 p5 p6 p7 p8 p9 mu',cP (eN 4 (aM (aA 4) (aM (aA 5) (aM (aA 6) (aM (aA 7) eG))))) Xi (fs.map Fn.pv) (LW S P (DO ss) (zI (k:Nat)) a4 a5 a6 a7 a8 a9 a10 a11 mu)=some (.nx (LW S P (DO (adds ss (vM k fs))) (zI ((k+dM fs:Nat):Int)) p4 p5 p6 p7 p8 p9 a10 a11 mu'))
 | [],ss,k,a4,a5,a6,a7,a8,a9,mu,_,_,_=>⟨a4,a5,a6,a7,a8,a9,mu,rfl⟩
 | f::fs,ss,k,a4,a5,a6,a7,a8,a9,mu,h,hk,hl=>by
  simp only[dM,Yy]at hl hk;obtain⟨h1,h2,h3⟩:=h f Yz;obtain⟨q8,q9,mu1,e1⟩:=W3 (S:=S) (P:=P) (a8:=a8) (a9:=a9) (a10:=a10) (a11:=a11) (mu:=mu) (f:=f) (ss:=ss) (k:=k) h1 h2 (by omega) (by omega) (by omega);have l1:=Zc (iU (vL k f) ss) (Nat.add_le_add_left (Hv h1) _);obtain⟨p4,p5,p6,p7,p8,p9,mu',e2⟩:=Et fs (adds ss (vL k f)) (k+f.rows.cnt) (zT f.name) (zS f.rank) (zL f.params) (zL f.rows.pvs) q8 q9 mu1 (λg hg=>h g (YG _ hg)) (by omega) (by omega);refine⟨p4,p5,p6,p7,p8,p9,mu',cF rfl e1 (e2.trans ?_)⟩;have e3:k+f.rows.cnt+dM fs=k+dM (f::fs):=by simp only[dM]; omega
  rw[e3,<-kj];rfl
theorem Yp {ss:List Str} (hn:ss.Nodup) (hl:ss.length<4000):ou [dz (dT ss)]=zO ((gW ss).map PV.str):=by show ((pU ((dT ss).map (·.1))).bind _)=_;rw[show (dT ss).map (·.1)=ss.map Sum.inr by unfold dT; rw[ZL]; rfl,uG,YB,aaN ⟨hn,hl⟩]
theorem Hz:∀(fs:List Fn) (k:Nat),(∀f∈fs,vK f)->(vM k fs).length<=103*fs.length+3*dM fs
 | [],k,_=>YC _
 | f::fs,k,h=>by have h1:=Hv (k:=k) (h f Yz);have h2:=Hz fs (k+f.rows.cnt) λg hg=>h g (YG _ hg);simp only[vM,dM,YJ,Yy];omega
end
section
variable [HK]
theorem law_true (ns:List Int) (hl:ns.length<=63):∃mu,Jf [.lst (ns.map PV.int)] []=some (.sh (.bl true),mu):=by
 obtain⟨P,h,ep⟩:=Jm ns hl;obtain⟨mu1,e1⟩:=ep [];obtain⟨ts,eb,hb,hbn⟩:=h.bn;let S:PV:=.lst (ns.map PV.int);have hct:=h.ok.ct;have hfl:=h.ok.fl;have hfn:∀f∈P.fns,vK f:=h.nl;obtain⟨p4,p5,p6,p7,p8,p9,mu2,e4⟩:=Et (S:=S) (P:=P.pv) (a10:=none) (a11:=none) P.fns D0 0 none none none none none none mu1 (λf hf=>⟨hfn f hf,(h.ok.fn f hf).1,h.fd f hf⟩) (by omega) (by simp only[Yy,YK]; omega);rw[aaJ]at e4;let s1:=adds D0 (vM 0 P.fns);have l1:s1.length<=2+(103*P.fns.length+3*dM P.fns):=Zc (iU _ _) (Nat.add_le_add_left (Hz P.fns 0 hfn) _);let mu3:Mu:=mu2++[some (dz (dT s1))];have lt:mu2.length<mu3.length:=by simp[mu3]
 have e5:=Ht (mu:=mu3) (t:=mu2.length) (k:=dM P.fns) (acc:=s1) (rs:=P.rows) lt h.ok.rw (by have:=h.dd; omega) (by omega) (by omega);rw[Hy]at e5;let s2:=adds s1 (cJ (dM P.fns) P.rows.rws);have l2:s2.length<=s1.length+3*P.rows.cnt:=by
  have:=yQ s1 (dM P.fns) P.rows.rws
  rwa [Rows.rws_len]at this
 let mu4:=MD mu3 mu2.length s2;let K:Option Lc:=zI (dM P.fns:Nat);let mu5:=mu4.set mu2.length none;obtain⟨p10,e6⟩:=Hx (S:=S) (P:=P.pv) (a3:=K) (a4:=p4) (a5:=p5) (a6:=p6) (a7:=p7) (a8:=p8) (a9:=p9) (a11:=none) (mu:=mu5) ts s2 none hbn (by omega);let ss:=yR ts P;have l3:ss.length<4000:=by have:=iU (jU (ts.map (·.1))) s2;rw[show (jU (ts.map (·.1))).length=ts.length by simp[jU]]at this;show (adds s2 (jU (ts.map (·.1)))).length<4000;omega
 have so:=Yp (Ac ts P) l3;rw[Es]at so;let L:=tE (tl ts P);obtain⟨mu6,e7⟩:=Eo h eb hb hbn mu5;let O:Option Lc:=zO L;let Ea:=LW S P.pv (DO ss) K p4 p5 p6 p7 p8 p9 p10 O mu6;let V:=L.reverse++[.str "at 0"];let Eb:=LW S P.pv (DO ss) K p4 p5 p6 p7 p8 p9 p10 (zO V) mu6;obtain⟨mu7,e8⟩:=Eo h eb hb hbn Eb.peek.mu;obtain⟨mu8,e9⟩:=ep mu7;have lL:L.length<5000:=by
  have e:L.length=ss.length:=by show (tE (tl ts P)).length=(yR ts P).length;rw[<-Es ts P,YH,lr.length_eq]
  omega
 refine⟨mu6,?_⟩;refine bG (U:=Eb) ?_;refine aF (U':=⟨[zS S,zS P.pv,none,none,none,none,none,none,none,none,none,none],mu1⟩) (bD (l:=.sh P.pv) (U1:=⟨[zS S,none,none,none,none,none,none,none,none,none,none,none],mu1⟩) (bH (ls:=[.sh S]) (ps:=[S]) (U1:=⟨[zS S,none,none,none,none,none,none,none,none,none,none,none],[]⟩) rfl rfl rfl rfl e1) rfl rfl) ?_;refine aF (U':=LW S P.pv (DO D0) none none none none none none none none none mu1) rfl ?_;refine aF (U':=LW S P.pv (DO D0) (zI ((0:Nat):Int)) none none none none none none none none mu1) rfl ?_;refine aF (U':=LW S P.pv (DO s1) K p4 p5 p6 p7 p8 p9 none none mu2) (dN (xs:=P.fns.map Fn.pv) (U1:=LW S P.pv (DO D0) (zI ((0:Nat):Int)) none none none none none none none none mu1) (dw (l:=.sh (.lst (P.fns.map Fn.pv))) rfl rfl) e4) ?_;refine aF (U':=LW S P.pv (DO s2) K p4 p5 p6 p7 p8 p9 none none mu5) ?_ ?_
 . have st:qO 2 (lZ (bh (cH 40) (aj (aR (aa 1) (abO 3)) (aj (aa 3) (aj (aa 2) ao))))) (LW S P.pv (DO s1) K p4 p5 p6 p7 p8 p9 none none mu2)=some (.nx (LW S P.pv (zS (.ptr mu2.length)) K p4 p5 p6 p7 p8 p9 none none mu4)):=by show lZ _ (LW S P.pv (zS (.ptr mu2.length)) K p4 p5 p6 p7 p8 p9 none none mu3)=_;exact yd (bH (ls:=[.sh (.lst P.rows.pvs),.sh (.int (dM P.fns:Nat)),.sh (.ptr mu2.length)]) (ps:=[.lst P.rows.pvs,.int (dM P.fns:Nat),.ptr mu2.length]) (U1:=LW S P.pv (zS (.ptr mu2.length)) K p4 p5 p6 p7 p8 p9 none none mu3) rfl rfl rfl rfl e5)
   unfold uR;rw[st,YB];show (match mu4[mu2.length]? with | some (some p)=>some (Ev.mk _ _) | _=>none).map _=_;rw[show mu4[mu2.length]?=some (some (dz (dT s2))) from Ep lt];rfl
 refine aF (U':=LW S P.pv (DO ss) K p4 p5 p6 p7 p8 p9 p10 none mu5) (dN (xs:=ts.map Hh) (U1:=LW S P.pv (DO s2) K p4 p5 p6 p7 p8 p9 none none mu5) (dw (l:=.sh (.lst P.boxes)) rfl (by show some P.boxes=_; rw[eb])) e6) ?_;refine aF (U':=Ea) (bD (l:=.own (.lst L)) (U1:=LW S P.pv (DO ss) K p4 p5 p6 p7 p8 p9 p10 none mu6) (bH (ls:=[.sh P.pv]) (ps:=[P.pv]) (U1:=LW S P.pv (DO ss) K p4 p5 p6 p7 p8 p9 p10 none mu5) rfl rfl rfl rfl e7) rfl rfl) ?_;have t3:uP (qm (uL (tT (Kv "list" (aa 11)) Iz)) (tT (aq PN (aa 11) (eB ou (aj (aa 2) ao))) aY)) Ea=some (false,Ea):=
  CZ (U1:=Ea.peek) (Ja (b:=false) (b2:=false) (U1:=Ea.peek) (Ky (b:=true) (jY (l:=.sh (.bl true)) (PX (l:=.sh (.lst L)) (U1:=Ea.peek) rfl rfl rfl) rfl)) (jY (l:=.sh (.bl false)) (aN (x:=.sh (.lst L)) (y:=.own (.lst L)) (U1:=Ea.peek) rfl (lR (ls:=[.sh (dz (dT ss))]) (ps:=[dz (dT ss)]) (U1:=Ea.peek) rfl rfl so) V6) rfl))
 refine(fG t3 rfl).trans ?_;refine aF (U':=LW S P.pv (DO ss) K p4 p5 p6 p7 p8 p9 p10 (zO L.reverse) mu6) rfl ?_;refine aF (U':=Eb) (mU (i:=11) (ws0:=L.reverse) (ws:=L.reverse) (p:=.str "at 0") (l:=.sh (.str "at 0")) (U1:=LW S P.pv (DO ss) K p4 p5 p6 p7 p8 p9 p10 (zO L.reverse) mu6) rfl rfl rfl rfl (by rw[List.length_reverse]; omega) rfl) ?_;refine fY (Dc (l:=.sh (.bl true)) (U1:=⟨Eb.peek.vs,mu8⟩) ?_ rfl);have q1:aq eqP (bh qP (aj (aa 1) ao)) (eB ou (aj (aa 2) ao)) Eb.peek=some (.sh (.bl true),⟨Eb.peek.vs,mu7⟩):=aN (x:=.own (.lst L)) (y:=.own (.lst L)) (U1:=⟨Eb.peek.vs,mu7⟩) (bH (ls:=[.sh P.pv]) (ps:=[P.pv]) (U1:=Eb.peek) rfl rfl rfl rfl e8) (lR (ls:=[.sh (dz (dT ss))]) (ps:=[dz (dT ss)]) (U1:=⟨Eb.peek.vs,mu7⟩) rfl rfl so) V7;unfold IK;rw[q1,YB];exact aN (x:=.sh P.pv) (y:=.sh P.pv) (U1:=⟨Eb.peek.vs,mu7⟩) rfl (bH (ls:=[.sh S]) (ps:=[S]) (U1:=⟨Eb.peek.vs,mu7⟩) rfl rfl rfl rfl e9) (R9 h)
end
section
variable (K:FG) (x qq:Str) (st:Stmt) (f c:Addr)
abbrev Xj:Prop:=∃(oc kV dc pm cd ct:Value) (od an:Option Addr) (sl:Array (Option Value)),K.lookup f=some ⟨oc,od,.func (W.fnOf x qq (lM st) (gM st) (aJ st) .none kV dc pm an cd ct),sl⟩/\W.codeIn K cd qq=true/\W.keepIn K (.ref f)=true
abbrev FD:Prop:=∃f,W.nsIn K mainGlobals x=some (some (.ref f))/\Xj K x x st f
abbrev FM:Prop:=∃f,W.findIn K (.ref c) x=some (some (.ref f))/\W.isFn K (.ref f)=true/\Xj K x qq st f
abbrev KC:Prop:=W.nsIn K mainGlobals x=some (some (.ref c))/\W.plainGet K c Str.empty=true/\W.hasDictIn K c=true/\W.plainOver K c=true/\W.findIn K (.ref c) "__setattr__" = some (some (.builtin "object.__setattr__"))/\W.makesIn K c=true/\W.keepIn K (.ref c)=true
abbrev HB (ps:List Str):Prop:=∀(kV doc pm:Value) (an:Option Addr) (cdv ct:Value) (us:List Value),us.length=ps.length->bindArgs (W.fnOf x qq (lM st) (gM st) (aJ st) .none kV doc pm an cdv ct) ⟨us,[]⟩=pure (ps.zip us)
end
section
variable {K:FG} {h:Heap} {mg:Str->Option Value} {x qq:Str} {st:Stmt} {c:Addr} {ps:List Str}
theorem nG (X:K.In h) (G:h.Ns mainGlobals mg) (d:FD K x st) (hb:HB x x st ps):eE K mg x st ps:=by obtain⟨f,a,_,_,_,_,_,_,_,_,_,l,e,k⟩:=d;exact⟨_,_,tQ l e k,W.mg_of X G a,(tQ l e k).binds hb⟩
theorem Qq (d:FM K x qq st c) (hb:HB x qq st ps):Dg K c x qq st ps:=by obtain⟨f,a,i,_,_,_,_,_,_,_,_,_,l,e,k⟩:=d;exact⟨_,_,tQ l e k,a,i,(tQ l e k).binds hb⟩
theorem Yq (X:K.In h) (G:h.Ns mainGlobals mg) (d:KC K x c):rT K mg x c:=⟨d.1,⟨d.2.1,d.2.2.1,d.2.2.2.1,d.2.2.2.2.1⟩,W.mg_of X G d.1⟩
theorem Wb {l:List Str} (n:W.findIn K (.ref c) x=some none) (t:∀f∈l,iV K c f):∀f∈x::l,iV K c f:=by
 intro g hg;rcases YF.mp hg with e | hg
 . rw[e]; exact n
 . exact t g hg
theorem nan:∀f∈([]:List Str),iV K c f:=λ_ h=>nomatch h
theorem bc {l:List Str} (X:K.In h) (G:h.Ns mainGlobals mg) (n:W.nsIn K mainGlobals x=some none) (t:Gm mg l):Gm mg (x::l):=by
 intro g hg;rcases YF.mp hg with e | hg
 . rw[e]; exact W.mg_none_of X G n
 . exact t g hg
theorem bn:Gm mg []:=λ_ h=>nomatch h
end
local macro_rules | `(tactic| walk_at "b")=>`(tactic| (intro _ _ _ _ _ _ us hl; first | (obtain⟨_,e⟩:=vD hl; subst e; rfl) | (obtain⟨_,_,e⟩:=ln2 hl; subst e; rfl) | (obtain⟨_,_,_,e⟩:=W6 hl; subst e; rfl) | (obtain⟨_,_,_,_,_,e⟩:=Yg hl; subst e; rfl)))
theorem all_mk {l:W.OpenLaw} {w:World} {K:FG} {h:Heap} {mg:Str->Option Value} {fa:Addr} (X:K.In h) (G:h.Ns mainGlobals mg) (hfa:mg "law" = some (.ref fa))
 (abM:∃c,KC K "Plan" c/\(W.findIn K (.ref c) "told" = some none/\W.findIn K (.ref c) "lists" = some none/\W.findIn K (.ref c) "heads" = some none)/\FM K "__init__" "Plan.__init__" iM c/\FM K "numbers" "Plan.numbers" lB c/\FM K "bodies" "Plan.bodies" lV c/\FM K "row" "Plan.row" qx c)
 (abD:FD K "blocks_of" qu)
 (abK:FD K "copied" rY)
 (abw:FD K "all_copied" jm)
 (abH:FD K "laid_out" nR)
 (abI:FD K "numbered" rZ)
 (abx:FD K "head_pairs" jn)
 (aby:FD K "head_names" lA)
 (abL:FD K "nodes" uZ)
 (abt:FD K "_law_cell_at" lU)
 (abz:FD K "_law_names" jo)
 (abo:FD K "_law_expression" jL)
 (abJ:FD K "_law_row" nT)
 (abE:FD K "_law_rows" mG)
 (abA:FD K "_law_heads" oW)
 (abu:FD K "_law_program" fO)
 (abF:FD K "_law_told" mH)
 (abN:FD K "law" sr)
 (z0:W.nsIn K mainGlobals "enumerate" = some none)
 (z1:W.nsIn K mainGlobals "isinstance" = some none)
 (z2:W.nsIn K mainGlobals "len" = some none)
 (z3:W.nsIn K mainGlobals "list" = some none)
 (z4:W.nsIn K mainGlobals "range" = some none)
 (z5:W.nsIn K mainGlobals "set" = some none)
 (z6:W.nsIn K mainGlobals "sorted" = some none)
 (z7:W.nsIn K mainGlobals "str" = some none)
 (HL:∀[HK] (ns:List Int),ns.length<=63->∃mu,Jf [.lst (ns.map PV.int)] []=some (.sh (.bl true),mu))
 : ∃fd:FuncData,(∀(s:Shared) (v:Value),BindsTo s fd ⟨[v],[]⟩ [("_law_script",v)])/\∀base:Heap,K.In base->base.Ns mainGlobals mg->j4 l.prog w K mg base lG 85 fa fd ["_law_script"] (Bb K):=by
 letI:HK:=⟨zB l.prog w⟩
 have hkx:HK.hk=zB l.prog w:=rfl;obtain⟨aa0,abB,⟨n0,n1,n2⟩,abq,abr,abv,abG⟩:=abM;have aaX:=Yq X G abB;have aaY:=Wb n0 (Wb n1 (Wb n2 (nan)));have B:Gm mg BL:=bc X G z0 (bc X G z1 (bc X G z2 (bc X G z3 (bc X G z4 (bc X G z5 (bc X G z6 (bc X G z7 (bn))))))));obtain⟨_,a,_,kV,dc,pm,cd,ct,_,an,_,lk,ce,kp⟩:=abN;have e:=hfa.symm.trans (W.mg_of X G a);cases e;refine⟨W.fnOf "law" "law" (lM sr) (gM sr) (aJ sr) .none kV dc pm an cd ct,λs v=>.of_eq rfl,λbase _ _=>?_⟩;have aa1:=Dt (base:=base) B aaX aaY hkx (nG X G abD (by walk_at "b"));have abC:=xP (base:=base) B aaX aaY hkx (nG X G abK (by walk_at "b")) (nG X G abw (by walk_at "b")) 40;have aa3:=abC.1;have aa8:=abC.2;have aa4:=ux (base:=base) B aaX aaY hkx (nG X G abH (by walk_at "b")) aa1 aa3 40;have abl:=Ff (base:=base) B aaX aaY hkx (nG X G abI (by walk_at "b")) aa4;have abe:=Ak (base:=base) B aaX aaY hkx (nG X G abx (by walk_at "b"));have abf:=Al (base:=base) B aaX aaY hkx (nG X G aby (by walk_at "b")) abe;have aa7:=WK (vp (base:=base) B aaX aaY hkx (Qq abq (by walk_at "b")) abl) abB.2.2.2.2.2.1 abB.2.2.2.2.2.2;have aba:=xQ (base:=base) B aaX aaY hkx (Qq abv (by walk_at "b"));have aa9:=wu (base:=base) B aaX aaY hkx (Qq abr (by walk_at "b"));have abi:=Du (base:=base) B aaX aaY hkx (Qq abG (by walk_at "b"));have abn:=Oj (base:=base) B aaX aaY hkx (nG X G abL (by walk_at "b")) aa7 aba aa9 abi abf;have aa5:=xR (base:=base) B aaX aaY hkx (nG X G abt (by walk_at "b"));have abh:=Am (base:=base) B aaX aaY hkx (nG X G abz (by walk_at "b"));have aaZ:=uy (base:=base) B aaX aaY hkx (nG X G abo (by walk_at "b"));have abm:=Fg (base:=base) B aaX aaY hkx (nG X G abJ (by walk_at "b")) aaZ;have abb:=Dv (base:=base) B aaX aaY hkx (nG X G abE (by walk_at "b")) abm;have abg:=An (base:=base) B aaX aaY hkx (nG X G abA (by walk_at "b"));have aa6:=xT (base:=base) B aaX aaY hkx (nG X G abu (by walk_at "b")) aa5 abg abh abb;have aa2:=tB (base:=base) B aaX aaY hkx (nG X G abF (by walk_at "b")) 40;exact Vg (Vx (base:=base) B aaX aaY hkx (tQ (st:=sr) lk ce kp) aa6 aa2 abn) HL
theorem walk {l:W.OpenLaw} {q:Program} {loose:List Str} {XP:(Str->Option Value)->Heap->Prop} {YP:World->Heap->Prop} {d:DefRec} {K:Params->FG} (hn:l.most=some 63) (hdf:d.params.defaults=[])
 (hY_:∀(w:World) (h:Heap),YP w h->(K w.params).In h)
 (F:∀(w:World) (mg:Str->Option Value) (fa:Addr) (h:Heap),(K w.params).In h->h.Ns mainGlobals mg->mg d.name=some (.ref fa)->
   ∃fd:FuncData,(∀(s:Shared) (u:Value),BindsTo s fd ⟨[u],[]⟩ [("_law_script",u)])/\∀base:Heap,(K w.params).In base->base.Ns mainGlobals mg->j4 l.prog w (K w.params) mg base lG 85 fa fd ["_law_script"] (Bb (K w.params))):
 W.WalkO q loose XP YP l.row.toRowW d [] (λf vs=>PySem.call f vs):=
 L2.walk_of (n:=63) (k:=85) (x := "_law_script") (CX:=λ_=>lG) (sp:=λw=>Bb (K w.params)) hn (by decide) hdf ⟨λ_=>rfl,by decide,by decide,rfl⟩ hY_ F (λ_ _ a ns hl _ hS=>⟨a,ns,rfl,hS,hl,λ_=>rfl⟩) λ_ _ _ _ _ z=>z
end Law
end
namespace PySem.W.Fast
def tw14334592575535213430:=0
def tw13837618071716158926:=0
def tw12388540548979025896:=0
def tw12484252468516976987:=0
def tw11287659203074058964:=0
def tw6699851530160066051:=0
def tw12419376641084408859:=0
def tw2988382197749122999:=0
def tw12584893021437500083:=0
def tw1089821694671082731:=0
def tw2858996203692473191:=0
def tw657148453706191828:=0
def tw8074351136569272771:=0
def tw11828687719978615337:=0
def tw9366402068026978373:=0
def tw12451501452698191800:=0
def tw7929054157593055306:=0
def tw9640610551466816933:=0
def tw12223450892800367164:=0
def tw12853777923324259583:=0
def tw7868635574054374445:=0
def tw12543190008925905125:=0
def tw6617803154220304789:=0
end PySem.W.Fast
open PySem PySem.W PyProof.Rows
local macro_rules | `(tactic| walk_at "m")=>`(tactic| exact ⟨_,by k_is,by k_is,_,_,_,_,_,_,_,_,_,by k_is,by k_is,by k_is⟩)
local macro_rules | `(tactic| walk_at "d")=>`(tactic| exact ⟨_,by k_is,_,_,_,_,_,_,_,_,_,by k_is,by k_is,by k_is⟩)
set_option maxRecDepth 100000 in
set_option maxHeartbeats 0 in
theorem PySem.Challenge.cw_hushwise_k30_nodes_holds : PySem.Challenge.rw_hushwise_k30_nodes.Holds := by
 w_on; o_law; k_head; (case hw=>w_witness2)
 k_fill
 refine Law.walk (l:=PySem.Challenge.rw_hushwise_k30_nodes) rfl rfl (fun w h Y=>W.kIn_of Y) ?F
 case F=>
  intro w mg fa h KX G hmg
  refine' Law.all_mk KX G hmg ?_ ?_ ?_ ?_ ?_ ?_ ?_ ?_ ?_ ?_ ?_ ?_ ?_ ?_ ?_ ?_ ?_ ?_ ?_ ?_ ?_ ?_ ?_ ?_ ?_ ?_ Law.law_true
  exact ⟨_,⟨by k_is,by k_is,by k_is,by k_is,by k_is,by k_is,by k_is⟩,⟨by k_is,by k_is,by k_is⟩,by walk_at "m",by walk_at "m",by walk_at "m",by walk_at "m"⟩
  iterate 17 walk_at "d"
  iterate 8 k_is
