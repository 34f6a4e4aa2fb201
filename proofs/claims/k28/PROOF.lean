import PyProof.Rows.All
import Wide.All
import OpenK.AllK
import Wide.FinOn
import Lean
import PyProof.EqAt
import PyProof.EqKinds
import PyProof.TupleCall
import PyProof.NeKinds
import PyProof.StrBlockI
import PyProof.WalksEnum
import PyProof.EnumMake
import PyProof.ZipIter
import PyProof.Rows.SortStr
import PyProof.Rows.SetFrom
import PyProof.CollectWalk
import PyProof.SetRoads
import PyProof.DictWalks
import PyProof.SumWalk
import PyProof.Rows.SumGenD
import PyProof.DictItems
import KE.KRevIter
import PyProof.Rows.FStrParts
import PyProof.StationsW
import PyProof.ReprRoads
import PyProof.ReprLen
import PyProof.ReprStr
import PyProof.StrLawsRepr
import PyProof.FString
import KE.KIsAll
import PyProof.ListRange
import PyProof.Rows.StrSplitAre
import KE.KIntText
import OpenK.KTop
import KE.KEqDict
import PyProof.AutoSeq1
import PyProof.StrCalls
import PySem.Challenge.RW_hushwise_k28_budgets
set_option Elab.async false
set_option linter.all false
set_option bootstrap.genMatcherCode false
set_option genSizeOf false
set_option compiler.extract_closed false
set_option maxRecDepth 100000
set_option maxHeartbeats 8000000
noncomputable section
local macro_rules | `(tactic| let $p:term:=$e)=>do
  let rec f (n:Nat)(p:Lean.Term):Lean.MacroM (Lean.TSyntax `rcasesPat):=do
   match n with
   | 0=>`(rcasesPat| _)
   | n+1=>
    let g q:=do
     let l<-q.mapM λx=>do `(Lean.Parser.Tactic.rcasesPatLo| $(<-f n x):rcasesPat)
     `(rcasesPat| ⟨$l,*⟩)
    match p with
    | `(⟨$q⟩)=>g #[q]
    | `(($a,$q,*))=>g (#[a]++q.getElems)
    | `($i:ident)=>`(rcasesPat| $i:ident)
    | _=>`(rcasesPat| _)
  match p with | `($_:ident)=>Lean.Macro.throwUnsupported | _=>`(tactic| obtain $(<-f 9 p):rcasesPat:=$e)
local macro_rules | `(tactic| show $e)=>`(tactic| first | refine $e | fail)
local macro_rules | `(tactic| lia)=>`(tactic| first | omega | grind)
local macro_rules | `(#[$p,*])=>`(⟨$p,*⟩)
local macro_rules | `(!$x)=>`(some $x)
local macro_rules | `(tactic| omega)=>`(tactic| first | with_reducible assumption | with_reducible exact Nat.le_trans (by assumption) (by decide) | with_reducible exact Nat.lt_of_le_of_lt (by assumption) (by decide) | lia -verbose)
local macro_rules | `(())=>`(by first | omega | assumption | decide | rfl | exact .inl rfl | exact .inr rfl | decide +kernel)
local macro_rules | `(∅)=>`(by grind)
abbrev FG:=PySem.W.Frag
section
open PySem PySem.Spec PyProof.Rows
abbrev ah6:=@Option.getD_some
abbrev ahS:=@List.find?_cons_of_pos
abbrev ahT:=@List.find?_cons_of_neg
abbrev aaS:=@Option.bind_some
abbrev aaU:=@List.length_append
abbrev aaV:=@List.mem_cons_self
abbrev aaW:=@List.length_map
abbrev aa0:=@Nat.le_refl
abbrev aa9:=@List.length_cons
abbrev aba:=@List.append_assoc
abbrev abj:=@Heap.get?_push_of_some
abbrev abl:=@List.mem_cons_of_mem
abbrev abv:=@List.append_nil
abbrev abw:=@List.mem_cons
abbrev aby:=@List.getElem?_append_right
abbrev abz:=@List.mem_map
abbrev ady:=@List.map_append
abbrev adP:=@List.getElem?_eq_some_iff
abbrev adQ:=@List.sublist_cons_self
abbrev adW:=@List.size_toArray
abbrev adY:=@List.mem_append
abbrev aeq:=@Heap.lt_size
abbrev aeI:=@List.getElem?_set_self
abbrev aeM:=@List.getElem?_eq_getElem
abbrev af7:=@Option.some.inj
abbrev af8:=@List.map_cons
abbrev af9:=@List.getElem?_map
abbrev aga:=@Heap.get?_push_size
abbrev agb:=@List.map_map
abbrev agc:=@List.getElem?_set_ne
abbrev agd:=@List.length_set
abbrev age:=@Nat.lt_of_lt_of_le
abbrev agf:=@Nat.le_trans
abbrev agg:=@PySem.F.plainAttrs_list
abbrev agh:=@Int.emod_lt_of_pos
abbrev agi:=@List.mem_append_right
abbrev agj:=@PySem.boot_len
abbrev agk:=@List.mem_singleton
abbrev agl:=@Int.emod_nonneg
abbrev agm:=@List.getElem?_append_left
abbrev agO:=@List.length_nil
abbrev agP:=@List.map_congr_left
abbrev agQ:=@Nat.ne_of_lt
abbrev agR:=@PySem.F.slot_list_append
abbrev agS:=@PySem.F.type_list_append
abbrev agT:=@List.nodup_cons
abbrev agU:=@PassesOwn.never
abbrev agV:=@Bool.false_ne_true
abbrev agW:=@List.mem_append_left
abbrev agX:=@List.length_range
abbrev agY:=@Nat.zero_le
abbrev agZ:=@List.filterMap_cons_none
abbrev ag0:=@List.lookup_cons
abbrev ag1:=@List.perm_middle
abbrev ag2:=@List.mem_of_getElem?
abbrev ag3:=@Nat.sub_self
abbrev ag8:=@List.mem_filterMap
abbrev ag9:=@List.sublist_append_left
abbrev aha:=@List.nodup_append
abbrev ahb:=@List.getD_eq_getElem?_getD
abbrev ahc:=@Nat.ne_of_gt
abbrev ahd:=@List.set_set
abbrev ahe:=@List.nil_append
abbrev ahf:=@Nat.lt_succ_self
abbrev ahg:=@List.zip_cons_cons
abbrev ahh:=@List.of_mem_zip
abbrev ahi:=@Nat.le_succ
abbrev ahj:=@Nat.lt_irrefl
abbrev ahk:=@List.not_mem_nil
abbrev ahl:=@List.prefix_refl
abbrev ahm:=@List.cons_append
abbrev ahn:=@List.zip_append
abbrev aho:=@List.foldl_cons
abbrev ahp:=@Option.map_some
abbrev ahq:=@List.perm_append_comm
abbrev ahr:=@F.slot_tuple_iterator_next
abbrev ahs:=@Nat.le_of_succ_le
abbrev aht:=@Nat.lt_succ_of_lt
abbrev ahu:=@Int.toNat_natCast
abbrev ahv:=@List.sublist_append_right
abbrev ahw:=@Heap.size_push
abbrev ahx:=@Nat.le_of_lt
abbrev ahy:=@Option.isSome_iff_exists
abbrev ahz:=@Bool.and_eq_true
abbrev ahA:=@List.map_nil
abbrev ahB:=@Nat.le_add_right
abbrev ahC:=@PySem.mem_of_lookup
abbrev ahD:=@Heap.SameBut.update
abbrev ahE:=@List.length_reverse
abbrev ahG:=@Bool.false_eq_true
abbrev ahH:=@Heap.get?_update_other
abbrev ahI:=@List.Sublist.refl
abbrev ahJ:=@Heap.get?_update_self
abbrev ahK:=@List.nodup_nil
abbrev ahL:=@List.getElem?_eq_none
abbrev ahM:=@Array.length_toList
abbrev ahN:=@List.drop_eq_getElem_cons
abbrev ahO:=@Nat.lt_of_le_of_lt
abbrev ahP:=@List.prefix_append
abbrev ahQ:=@Nat.zero_add
abbrev ahU:=@Nat.le_of_not_lt
abbrev ahV:=@F.slot_zip_next
abbrev ahW:=@List.eq_nil_of_length_eq_zero
abbrev ahX:=@List.filterMap_cons
abbrev ahY:=@F.args_tuple_iterator_next_1
abbrev ahZ:=@F.entry_tuple_iterator_next
abbrev ah0:=@W.kia_one
abbrev ah1:=@W.kia_tup
abbrev ah2:=@List.any_cons
abbrev ah3:=@Nat.add_assoc
abbrev ah4:=@W.cellsFrom_some
abbrev ah5:=@List.length_take
abbrev ah7:=@List.zipIdx_cons
abbrev ah8:=@Nat.succ.inj
abbrev ah9:=@W.methodCall_KW
abbrev aia:=@List.forIn_cons
abbrev aib:=@wpAny_bind
abbrev aic:=@if_pos
abbrev aid:=@if_neg
abbrev aie:=@wpAny_pure
abbrev aif:=@decide_eq_false
abbrev aig:=@decide_eq_true
abbrev aih:=@beq_eq_false_iff_ne
abbrev aii:=@beq_self_eq_true
end
namespace L2
open PySem PySem.Spec PyProof.Rows
variable {aki:List (Addr×Obj)}{E:Value->Shared->Prop}{s:Shared}{A:Around}{w:World}{P:Program}
abbrev Key:=Sum Int Str
def xZ:Key->Value->Bool
 |.inl k,v=>Value.isInt k v
 |.inr x,v=>Value.isStrOf x v
def ac9(w:World):Key->Int
 |.inl k=>hashInt k
 |.inr x=>hashStr w x
def gb:∀{k:Key}{v:Value},xZ k v=true->(∃i t,k=Sum.inl i/\v=Value.int i t)\/(∃x t,k=Sum.inr x/\v=Value.str x t)
 |.inl i,v,h=>by let(t,e):=Value.isInt_shape (k:=i) (v:=v) h;show .inl #[i,t,rfl,e]
 |.inr x,v,h=>by let(t,e):=Value.isStrOf_shape (x:=x) (v:=v) h;show .inr #[x,t,rfl,e]
def Wq(i:Int)(t:Tok):xZ (.inl i) (.int i t)=true:=by simp[xZ,Value.isInt]
def Wr(x:Str)(t:Tok):xZ (.inr x) (.str x t)=true:=by simp[xZ,Value.isStrOf]
def ada(a b:Int):decide ((Sum.inl a:Key)=Sum.inl b)=(a==b):=by
 by_cases e:a=b
 . lia
 . lia
def adb(a b:Str):decide ((Sum.inr a:Key)=Sum.inr b)=decide (a=b):=by
 by_cases e:a=b
 .  simp
 . lia
def adc(a:Int)(b:Str):decide ((Sum.inl a:Key)=Sum.inr b)=false:=aif (λq=>nomatch q)
def ade(a:Str)(b:Int):decide ((Sum.inr a:Key)=Sum.inl b)=false:=aif (λq=>nomatch q)
def fH(prog:Program)(w:World):PySem.KeyKind prog w Key where
 is:=xZ
 hash:=ac9 w
 inj:=λv a b ha hb=>by
  obtain⟨i,t,rfl,rfl⟩|⟨x,t,rfl,rfl⟩:=gb ha
  . obtain⟨j,u,rfl,e⟩|⟨y,u,rfl,e⟩:=gb hb
    . injection e with e1 _;rw[e1]
    . show nomatch e
  . obtain⟨j,u,rfl,e⟩|⟨y,u,rfl,e⟩:=gb hb
    . show nomatch e
    . injection e with e1 _;rw[e1]
 byValue:=λk v h=>by rcases gb h with ⟨i,t,rfl,rfl⟩|⟨x,t,rfl,rfl⟩<;>rfl
 pyHash:=λhv h=>by
  obtain⟨i,t,rfl,rfl⟩|⟨x,t,rfl,rfl⟩:=gb hv
  . show wpAny_pyHash_int h
  . show wpAny_pyHash_str h
 eqBool:=λhu hv h=>by
  obtain⟨i,t,rfl,rfl⟩|⟨x,t,rfl,rfl⟩:=gb hu
  . obtain⟨j,u,rfl,rfl⟩|⟨y,u,rfl,rfl⟩:=gb hv
    . rw[ada]at h;show wpAny_eqBool_int h
    . rw[adc]at h;show SeqAt.EqAt.int_str i t y u _ _ _ _ h
  . obtain⟨j,u,rfl,rfl⟩|⟨y,u,rfl,rfl⟩:=gb hv
    . rw[ade]at h;show SeqAt.EqAt.str_int x t j u _ _ _ _ h
    . rw[adb]at h;show wpAny_eqBool_str h
 «strs»:=λk x t v h=>by
  obtain⟨i,u,rfl,e⟩|⟨y,u,rfl,e⟩:=gb h
  . show nomatch e
  . injection e with e1 _;subst e1;cases v<;>rfl
def RD(prog:Program)(w:World)(i:Int)(t:Tok):(fH prog w).is (.inl i) (.int i t)=true:=Wq i t
def RG(prog:Program)(w:World)(x:Str)(t:Tok):(fH prog w).is (.inr x) (.str x t)=true:=Wr x t
inductive V where
 |non |bl (b:Bool) |int (i:Int) |str (x:Str) |byt (b:Array UInt8) |flt (b:UInt64) |ref (a:Addr) |ty (n:String)
 deriving DecidableEq
def RelV:V->Value->Prop
 |.non,u=>u=Value.none
 |.bl b,u=>u=Value.bool b
 |.int i,u=>∃t,u=Value.int i t
 |.str x,u=>∃t,u=Value.str x t
 |.byt b,u=>∃t,u=Value.bytes b t
 |.flt b,u=>∃t,u=Value.float b t
 |.ref a,u=>u=Value.ref a
 |.ty n,u=>u=Value.type n
abbrev Vals:List V->List Value->Prop:=Paired RelV
def Vals.length(r:Vals xs us):xs.length=us.length:=Paired.length r
theorem Vals.get:∀{xs:List V}{us:List Value}{i:Nat}{x:V},Vals xs us->xs[i]?=!x->∃u,us[i]?=!u/\RelV x u
 |_,_,_,_,.nil=>λe=>by simp at e
 |_,_,0,_,.cons r _=>λe=>by simp at e;subst e;show#[_,rfl,r]
 |_,_,i+1,x,.cons _ t=>λe=>by let(u,h1,h2):=Vals.get (i:=i) (x:=x) t (by simpa using e);show#[u,by simpa using h1,h2]
theorem Vals.set(r:RelV x u):∀{xs:List V}{us:List Value}(i:Nat),Vals xs us->Vals (xs.set i x) (us.set i u)
 |_,_,_,.nil=>.nil
 |_,_,0,.cons _ t=>.cons r t
 |_,_,i+1,.cons q t=>.cons q (Vals.set r i t)
theorem Vals.append:∀{xs ys:List V}{us ws:List Value},Vals xs us->Vals ys ws->Vals (xs++ys) (us++ws)
 |_,_,_,_,.nil=>λs=>s
 |_,_,_,_,.cons r t=>λs=>.cons r (Vals.append t s)
theorem Vals.take:∀{xs:List V}{us:List Value}(n:Nat),Vals xs us->Vals (xs.take n) (us.take n)
 |_,_,0,_=>.nil
 |_,_,_+1,.nil=>.nil
 |_,_,n+1,.cons r t=>.cons r (Vals.take n t)
theorem Vals.drop:∀{xs:List V}{us:List Value}(n:Nat),Vals xs us->Vals (xs.drop n) (us.drop n)
 |_,_,0,r=>r
 |_,_,_+1,.nil=>.nil
 |_,_,n+1,.cons _ t=>Vals.drop n t
def qD:Option V->Option Value->Prop
 |some v,!u=>RelV v u
 |none,none=>True
 |_,_=>False
def KV{κ:Type}:List (κ×V)->List (κ×Value)->Prop:=Paired λ(p:κ×V)(q:κ×Value)=>p.1=q.1/\RelV p.2 q.2
def kV:Key->V
 |.inl i=>.int i
 |.inr x=>.str x
inductive HO where
 |lst (xs:List V)
 |tup (xs:List V)
 |dK (kvs:List (Key×V)) |dT (kvs:List (List Key×V))
 |set (S:Int->Bool) (n:Nat)
 |ins (C dx:Addr) (fs:List (Str×V))
 |own (x:Addr)
 |xd (fs:List (Str×V))
 |met (f x:Addr)
 |rng (lo hi:Int)
 |frz (o:Obj) (u:HO)
 |tbl (ps:Array Value)
 |ext (φ:Heap->Prop)
abbrev Hp:=Addr->Option HO
def upd(H:Hp)(a:Addr)(o:HO):Hp:=λb=>if b=a then !o else H b
def cQ:upd H a o a=!o:=by unfold upd;lia
def dC(h:b≠a):upd H a o b=H b:=by unfold upd;rw[aid h]
def afj{H:Hp}(h:H a=!o)(h':H b=!u)(d:o≠u):a≠b:=by lia
def gq{H:Hp}(h:H a=!o)(h':H b=none):a≠b:=by lia
section
variable (P:Program)(w:World)
noncomputable def jw(H:Hp)(h:Heap)(a:Addr):HO->Prop
 |.lst xs=>xs.length<=sizeLine/\∃(its:List Value)(n:Nat),Vals xs its/\h.get? a=some { cls:=.type "list",data:=.seq its.toArray n }
 |.tup xs=>xs.length<=sizeLine/\∃its:List Value,Vals xs its/\IsTup h a its.toArray
 |.dK kvs=>kvs.length<=sizeLine/\(a==sysModules)=false/\∃vs,KV kvs vs/\h.DictOf (fH P w) a vs
 |.dT kvs=>kvs.length<=sizeLine/\(a==sysModules)=false/\∃xs:List (List Key×Addr×Value),
  Paired (λ(p:List Key×V)(q:List Key×Addr×Value)=>p.1=q.1/\H q.2.1=!(.tup (p.1.map kV))/\RelV p.2 q.2.2) kvs xs/\
  ∃o es ep,h.get? a=!o/\o.ExactDict/\o.data=.dict es ep/\es.toList=xs.map (entryOfKey (tupleKind (fH P w)))/\(xs.map (·.1)).Nodup
 |.set S n=>h.SetOf (intKind P w) a S n
 |.ins C dx fs=>H dx=!(.own a)/\fs.length<=1000/\dx≠a/\h.get? a=!(W.instObj C dx)/\
  ∃mA,h.Ns1 dx mA/\(∀f,qD (fs.lookup f) (mA f))/\PySem.Within mA (fs.map (·.1))
 |.own _=>∃o,h.get? a=!o
 |.xd fs=>∃mA,h.Ns1 a mA/\∀f,qD (fs.lookup f) (mA f)
 |.rng lo hi=>∃t u v,h.get? a=some { cls:=.type "range",data:=.fields (List.toArray [.int lo t,.int hi u,.int 1 v]) }
 |.frz o u=>h.get? a=!o/\jw H h a u
 |.tbl ps=>h.get? a=some { cls:=.none,data:=.fields ps }
 |.met f x=>h.get? a=!(W.methodObj (.ref f) (.ref x))
 |.ext φ=>φ h/\(∃o,h.get? a=!o)/\∀h1 h2:Heap,φ h1->(∀o,h1.get? a=!o->h2.get? a=!o)->φ h2
def kj(H:Hp)(h:Heap):Prop:=∀a o,H a=!o->jw P w H h a o
end
section
variable {P:Program}{w:World}{H H':Hp}{h h':Heap}{a:Addr}{o:HO}
def jw.lt(x:jw P w H h a o):a<h.objs.size:=by
 cases o with
 |lst xs=>let(_,_,_,_,e):=x;show aeq e
 |tup xs=>let(_,_,_,p):=x;show p.lt
 |dK kvs=>let(_,_,_,_,o,_,_,e,_):=x;show aeq e
 |dT kvs=>let(_,_,_,_,o,_,_,e,_):=x;show aeq e
 |set S n=>let(o,_,_,_,e,_):=x;show aeq e
 |ins C dx fs=>let(_,_,_,e,_):=x;show aeq e
 |own y=>let(_,e):=x;show aeq e
 |xd fs=>let(_,(_,_,_,e,_),_):=x;show aeq e
 |rng lo hi=>let(_,_,_,e):=x;show aeq e
 |frz ob u=>let(e,_):=x;show aeq e
 |tbl ps=>show aeq (x)
 |met f y=>show aeq (x)
 |ext φ=>let(_,(_,e),_):=x;show aeq e
theorem Paired.mapP:∀{l₁:List α}{l₂:List β},Paired F l₁ l₂->(∀a b,F a b->G a b)->Paired G l₁ l₂
 |_,_,.nil=>λ_=>.nil
 |_,_,.cons r t=>λf=>.cons (f _ _ r) (Paired.mapP t f)
def jw.stay(x:jw P w H h a o)(k:∀b u,(b=a\/H b=!(.own a))->h.get? b=!u->h'.get? b=!u)
 (ho:∀b,H b=!(.own a)->H' b=!(.own a)) (ht:∀b xs,H b=!(.tup xs)->H' b=!(.tup xs)):jw P w H' h' a o:=by
 induction o with
 |lst xs=>let(z,its,n,r,e):=x;show#[z,its,n,r,k _ _ (.inl rfl) e]
 |tup xs=>let(z,its,r,ob,e,c):=x;show#[z,its,r,ob,k _ _ (.inl rfl) e,c]
 |dK kvs=>let(z,y,vs,r,ob,es,ep,e,c):=x;show#[z,y,vs,r,ob,es,ep,k _ _ (.inl rfl) e,c]
 |dT kvs=>
  let(z,y,xs,r,ob,es,ep,e,c):=x;show#[z,y,xs,Paired.mapP r λp q z=>#[z.1,ht _ _ z.2.1,z.2.2],ob,es,ep,k _ _ (.inl rfl) e,c]
 |set S n=>let(ob,es,ep,t,e,c):=x;show#[ob,es,ep,t,k _ _ (.inl rfl) e,c]
 |ins C dx fs=>
  let(d,z,ne,e,mA,(od,es,ep,e2,c),r):=x;show#[ho _ d,z,ne,k _ _ (.inl rfl) e,mA,#[od,es,ep,k _ _ (.inr d) e2,c],r]
 |own y=>let(ob,e):=x;show#[ob,k _ _ (.inl rfl) e]
 |xd fs=>let(mA,(od,es,ep,e,c),r):=x;show#[mA,#[od,es,ep,k _ _ (.inl rfl) e,c],r]
 |rng lo hi=>let(t,u,v,e):=x;show#[t,u,v,k _ _ (.inl rfl) e]
 |frz ob u ih=>let(e,q):=x;show#[k _ _ (.inl rfl) e,ih q]
 |tbl ps=>
  have e:=x;show k a _ (.inl rfl) e
 |met f y=>
  have e:=x;show k a _ (.inl rfl) e
 |ext φ=>let(p,(o,e),st):=x;show#[st _ _ p λo q=>k _ _ (.inl rfl) q,#[o,k _ _ (.inl rfl) e],st]
def kj.lt(x:kj P w H h)(e:H a=!o):a<h.objs.size:=(x a o e).lt
def kj.fresh(x:kj P w H h)(e:h.objs.size<=a):H a=none:=by
 cases q:H a with
 |none=>rfl
 |some u=>show absurd (age (x.lt q) e) ()
def kj.kept(x:kj P w H h)(k:∀b u,h.get? b=!u->h'.get? b=!u):kj P w H h':=λa o e=>
 (x a o e).stay (λb u _ q=>k b u q) (λ_ q=>q) λ_ _ q=>q
def kj.laid(x:kj P w H h)(k:∀b u,h.get? b=!u->h'.get? b=!u)(hp:h.objs.size<=a)(new:jw P w (upd H a o) h' a o):kj P w (upd H a o) h':=λb u e=>by
 have hn:=x.fresh hp;by_cases hb:b=a
 . subst hb;rw[cQ]at e;lia
 . rw[dC hb]at e;show(x b u e).stay (λc v _ q=>k c v q) (λc q=>by rw[dC (gq q hn)];show q) λc xs q=>by rw[dC (gq q hn)];show q
end
def Rd(H:Hp)(a:Addr)(u:HO):Prop:=H a=!u\/∃o,H a=!(.frz o u)
def Rd.ok(r:Rd H a u)(x:kj P w H h):jw P w H h a u:=by
 obtain r|⟨o,r⟩:=r
 . show x a u r
 . let(_,q):=x a _ r;show q
def Ws:Option HO->Prop
 |some (.lst _)=>True
 |some (.dK _)=>True
 |some (.dT _)=>True
 |some (.set _ _)=>True
 |some (.ins _ _ _)=>True
 |some (.ext _)=>True
 |_=>False
section
variable {P:Program}{w:World}{H:Hp}{h h':Heap}{x e:Addr}{o':HO}
def kj.write(ok:kj P w H h)(mu:Ws (H x))(he:e=x\/H e=!(.own x))(k:∀b u,b≠e->h.get? b=!u->h'.get? b=!u)(heo:∃u,h'.get? e=!u)
 (new:jw P w (upd H x o') h' x o'):kj P w (upd H x o') h':=λb u q=>by
 have nown:∀c y,H c=!(.own y)->c≠x:=λc y r z=>by subst z;rw[r]at mu;show mu
 have ntup:∀c xs,H c=!(.tup xs)->c≠x:=λc xs r z=>by subst z;rw[r]at mu;show mu
 by_cases hb:b=x
 . subst hb;rw[cQ]at q;lia
 . rw[dC hb]at q;by_cases hbe:b=e
   . have q':H b=!(.own x):=by
      obtain z|z:=he
      . lia
      . lia
     rw[q]at q';cases q';let(v,hv):=heo;show#[v,by rw[hbe];show hv]
   . show(ok b u q).stay (λc v hc r=>k c v ?_ r) (λc r=>by rw[dC (nown c b r)];show r) λc xs r=>by rw[dC (ntup c xs r)];show r
     obtain rfl|hc:=hc
     . lia
     . rintro rfl;obtain z|z:=he
       . lia
       . lia
end
structure Un(fs ex:List Addr)(H H':Hp)(h h':Heap):Prop where
 keep:∀b o,h.get? b=!o->H b=none->b∉fs->b∉ex->h'.get? b=!o
 slot:∀b o,h.get? b=!o->H b=none->b∈fs->b∉ex->∃sl,h'.get? b=some { o with slots:=sl }
 free:∀b o,h.get? b=!o->H b=none->b∉ex->H' b=none
 there:∀b o,h.get? b=!o->b∉ex->∃o',h'.get? b=!o'
 tups:∀b xs,H b=!(.tup xs)->H' b=!(.tup xs)
 frzs:∀b o u,H b=!(.frz o u)->H' b=!(.frz o u)
 tbls:∀b ps,H b=!(.tbl ps)->∃more,H' b=!(.tbl (ps++more))
section
variable {fs fs' ex ex':List Addr}{H H1 H2:Hp}{h h1 h2 h':Heap}{a x e:Addr}{o:HO}
def Un.any(u:Un fs ex H H1 h h1)(q:h.get? b=!ob)(n:H b=none)(hx:b∉ex):∃sl,h1.get? b=some { ob with slots:=sl }:=by
 by_cases hb:b∈fs
 . show u.slot b ob q n hb hx
 . show#[ob.slots,u.keep b ob q n hb hx]
def Un.kept(k:∀b u,h.get? b=!u->h'.get? b=!u):Un fs ex H H h h':=
 #[λb ob q _ _ _=>k b ob q,λb ob q _ _ _=>#[ob.slots,k b ob q],λ_ _ _ n _=>n,λb ob q _=>#[ob,k b ob q],λ_ _ q=>q,λ_ _ _ q=>q,λ_ ps q=>#[(List.toArray []),by rw[q];simp]]
def Un.refl:Un fs ex H H h h:=Un.kept λ_ _ q=>q
def Un.laid(k:∀b u,h.get? b=!u->h'.get? b=!u)(hp:h.objs.size<=a)(hn:H a=none):Un fs ex H (upd H a o) h h' where
 keep:=λb u q _ _ _=>k b u q
 slot:=λb u q _ _ _=>#[u.slots,k b u q]
 free:=λb u q n _=>by rw[dC (agQ (age (aeq q) hp))];show n
 there:=λb u q _=>#[u,k b u q]
 tups:=λb xs q=>by rw[dC (gq q hn)];show q
 frzs:=λb u xs q=>by rw[dC (gq q hn)];show q
 tbls:=λb ps q=>#[(List.toArray []),by rw[dC (gq q hn),q];simp]
def Un.write(mu:Ws (H x))(he:e=x\/H e=!(.own x))(k:∀b u,b≠e->h.get? b=!u->h'.get? b=!u)(heo:∃u,h'.get? e=!u):Un fs ex H (upd H x o) h h':=by
 have hx:∀b,H b=none->b≠x:=λb n z=>by subst z;rw[n]at mu;show mu
 have hb:∀b,H b=none->b≠e:=λb n z=>by
  subst z;obtain r|r:=he
  . lia
  . lia
 have hm:∀b u,H b=!u->¬ Ws (!u)->b≠x:=λb u q nm z=>by subst z;rw[q]at mu;show nm mu
 show#[λb u q n _ _=>k b u (hb b n) q,λb u q n _ _=>#[u.slots,k b u (hb b n) q],λb u q n _=>by rw[dC (hx b n)];show n,λb u q _=>?_,
  λb xs q=>by rw[dC (hm b _ q λz=>z)];show q,λb u xs q=>by rw[dC (hm b _ q λz=>z)];show q,λb ps q=>#[(List.toArray []),by rw[dC (hm b _ q λz=>z),q];simp]]
 by_cases hbe:b=e
 . lia
 . lia
end
def trk(h:Heap)(H:Hp):List Addr:=(List.range h.objs.size).filter λa=>(H a).isSome
def Bh(h:Heap)(H:Hp):Heap:=W.hideAll h (trk h H)
def Wt(h:Heap)(H:Hp):(Bh h H).objs.size=h.objs.size:=W.hideAll_size _ _
def Y4_(e:h.get? b=!o)(n:H b=none):(Bh h H).get? b=!o:=
 W.hideAll_get _ e λhm=>by have q:=(List.mem_filter.mp hm).2;lia
def abJ(e:(Bh h H).get? b=!o):h.get? b=!o/\H b=none:=by
 have e':=W.of_hideAll (trk h H) e;show#[e',?_];cases q:H b with
 |none=>rfl
 |some x=>
  have z:(Bh h H).get? b=none:=W.hideAll_none (trk h H) (List.mem_filter.mpr #[List.mem_range.mpr (aeq e'),by simp[q]]);lia
def abK(g h:Heap)(L:Addr):List (Addr×Obj):=(List.range h.objs.size).filterMap λa=>if a=L\/(g.get? a).isSome=true then none else (h.get? a).map λo=>(a,o)
def rest(g h:Heap)(L d:Addr):List (Addr×Obj):=(abK g h L).filter λp=>decide (p.1≠d)
structure Mod(K:FG)(mg:Str->Option Value)(base:Heap):Prop where
 kin:K.In base
 glob:base.Ns mainGlobals mg
 blt:∃mb,base.Ns builtinsNs mb/\∀x:Str,x ≠ "__name__"->mb x=bootBuiltins x
 nolimit:base.NoLimit
structure Cx where
 prog:Program
 w:World
 K:FG
 mg:Str->Option Value
 base:Heap
 A:Around
 N:List Str
 s₀:Shared
 H0:Hp
 env:Env
 outer:List Env
 stack:List Env
 ex:List Addr
 fn:Str->Bool
 calm:Bool
 pn:List (Addr×Obj)
 xe:Value->Shared->Prop
noncomputable def frs(l:List Env):List Addr:=l.filterMap (·.frame)
abbrev Cx.fs(X:Cx):List Addr:=frs X.outer
def Wu(sc:Scope)(x:Str):Prop:=sc.names.lookup x=!.local\/sc.names.lookup x=!.cell\/sc.names.lookup x=!.free
def Loc(sc:Scope)(x:Str):Prop:=sc.names.lookup x=!.local\/sc.names.lookup x=!.cell
def Look(env:Env)(h:Heap)(m:Str->Option Value)(x:Str)(u:Value):Prop:=
 (env.kindOf x=!.local/\m x=!u)\/((env.kindOf x=!.cell\/env.kindOf x=!.free)/\∃c,env.cells.lookup x=!c/\h.IsCell c (!u))
structure Cx.Ok(X:Cx):Prop where
 mod:Mod X.K X.mg X.base
 kind:X.env.scope.kind=.function
 glob:X.env.globals=mainGlobals
 blt:X.env.builtins=builtinsNs
 above:X.s₀.heap.objs.size<=X.env.locals
 inj:∀x y c,X.env.cells.lookup x=!c->X.env.cells.lookup y=!c->x=y
 has:∀x,(X.env.kindOf x=!.cell\/X.env.kindOf x=!.free)->∃c,X.env.cells.lookup x=!c
 cab:∀x c,X.fn x=true->X.env.cells.lookup x=!c->X.s₀.heap.objs.size<=c
 hd:X.calm=true->X.A.handled=none
 frames:X.A.frames=!X.stack
 stk:X.stack=X.outer\/(X.stack=X.env::X.outer/\X.env.frame=!X.env.locals)
 exf:∀b∈X.ex,b≠X.env.locals/\∀x c,X.env.cells.lookup x=!c->c≠b
 bs:∀b o,X.base.get? b=!o->X.s₀.heap.get? b=!o/\X.H0 b=none
 bsz:X.base.objs.size<=X.s₀.heap.objs.size
 noex:∀b o,X.base.get? b=!o->b∉X.ex
 exfs:∀b∈X.ex,b∉X.fs
 funs:X.s₀.heap.FunFrames X.base X.outer
 frf:∀b∈X.fs,X.H0 b=none
structure Inv(X:Cx)(aki:List (Addr×Obj))(U:List (Option V))(H:Hp)(s:Shared):Prop where
 ok:X.Ok
 os:s.os=X.s₀.os
 bare:AllBare s.gens
 base:Un X.fs X.ex X.H0 H X.s₀.heap s.heap
 loc:∃m,s.heap.Ns X.env.locals m/\∀(i:Nat)(x:Str)(v:V),X.N[i]?=!x->U[i]?=!(!v)->Wu X.env.scope x->∃u,RelV v u/\Look X.env s.heap m x u
 cell:∀x c,X.env.cells.lookup x=!c->∃v,s.heap.IsCell c v
 free:H X.env.locals=none
 freeC:∀x c,X.env.cells.lookup x=!c->H c=none
 pin:∀p∈X.pn++aki,s.heap.get? p.1=!p.2/\H p.1=none/\p.1≠X.env.locals/\p.1∉X.fs/\∀v,p.2.data≠.cell v
 hok:kj X.prog X.w H s.heap
 len:U.length=X.N.length
section
variable {X:Cx}{aki:List (Addr×Obj)}{U:List (Option V)}{H H':Hp}{s:Shared}{h':Heap}
def Cx.Ok.nofr(ok:X.Ok)(e:X.base.get? b=!o):b∉X.fs:=λhb=>by have:=(ok.funs.mem hb).1;rw[e]at this;cases this
def Inv.bs(I:Inv X aki U H s):∀b o,X.base.get? b=!o->s.heap.get? b=!o/\H b=none:=λb o e=>
 #[I.base.keep b o (I.ok.bs b o e).1 (I.ok.bs b o e).2 (I.ok.nofr e) (I.ok.noex b o e),I.base.free b o (I.ok.bs b o e).1 (I.ok.bs b o e).2 (I.ok.noex b o e)]
def Inv.bk(I:Inv X aki U H s):∀b o,X.base.get? b=!o->s.heap.get? b=!o:=λb o e=>(I.bs b o e).1
def Inv.mod(I:Inv X aki U H s):Mod X.K X.mg X.base:=I.ok.mod
def Inv.kIn(I:Inv X aki U H s):X.K.In s.heap:=I.ok.mod.kin.keeps I.bk
def Inv.lt(I:Inv X aki U H s):X.env.locals<s.heap.objs.size:=let #[_,hn,_]:=I.loc;hn.lt
def Inv.sz(I:Inv X aki U H s):X.s₀.heap.objs.size<=s.heap.objs.size:=agf I.ok.above (ahx I.lt)
def Inv.nofs(I:Inv X aki U H s){a:Addr}(h:s.heap.objs.size<=a):a∉X.fs:=λhb=>by let(_,o,ho,_):=I.ok.funs.mem hb;show absurd (age (aeq ho) (agf I.sz h)) ()
def Inv.cne(I:Inv X aki U H s):∀x c,X.env.cells.lookup x=!c->c≠X.env.locals:=λx c e z=>by let(v,o,ho,hd):=I.cell x c e;let(m,(o',es,ep,ho',hd',_),_):=I.loc;rw[z,ho']at ho;cases ho;rw[hd']at hd;cases hd
def Inv.funs(I:Inv X aki U H s):s.heap.FunFrames X.base X.outer:=by
 have all:∀(l:List Env),(∀b∈frs l,b∈X.fs)->X.s₀.heap.FunFrames X.base l->s.heap.FunFrames X.base l:=by
  intro l;induction l with
  |nil=>intro _ _;trivial
  |cons env r ih=>
   intro hs hl;let(hk,(L,o,hf,hn,ho,hd),hr):=hl;have hL:=hs L (by unfold frs;rw[ahX,hf];show aaV);let(sl,e):=I.base.slot L o ho (I.ok.frf L hL) hL λz=>I.ok.exfs L z hL;show#[hk,#[L,_,hf,hn,e,hd],ih (λb hb=>hs b (by unfold frs;rw[ahX,hf];show abl _ hb)) hr]
 show all X.outer (λ_ hb=>hb) I.ok.funs
def Inv.stack(I:Inv X aki U H s):s.heap.FunFrames X.base X.stack:=by
 obtain e|⟨e,hf⟩:=I.ok.stk
 . rw[e];show I.funs
 . rw[e];let(m,hn,_):=I.loc;show .cons (by rw[I.ok.kind];decide) hf hn ?_ I.funs;show Heap.get?_none_of_le (agf I.ok.bsz I.ok.above)
def Inv.stkSub(I:Inv X aki U H s):∀b∈frs X.stack,b∈X.env.locals::X.fs:=λb hb=>by
 obtain e|⟨e,hf⟩:=I.ok.stk
 . rw[e]at hb;show abl _ hb
 . rw[e]at hb;unfold frs at hb;rw[ahX,hf]at hb;show hb
def Inv.stkFree(I:Inv X aki U H s):∀b∈frs X.stack,H b=none:=λb hb=>by
 obtain e|hb:=abw.mp (I.stkSub b hb)
 . rw[e];show I.free
 . let(_,o,ho,_):=I.ok.funs.mem hb;show I.base.free b o ho (I.ok.frf b hb) λz=>I.ok.exfs b z hb
def Inv.step{ch:List Addr}(I:Inv X aki U H s)
 (hch:∀b∈ch,(b∈X.ex\/X.s₀.heap.objs.size<=b)/\b≠X.env.locals/\(∀x c,X.env.cells.lookup x=!c->c≠b)/\∀p∈X.pn++aki,p.1≠b)
 (keep:∀b o,b≠X.env.locals->b∉X.fs->b∉ch->s.heap.get? b=!o->H b=none->h'.get? b=!o)
 (slot:∀b o,b≠X.env.locals->b∈X.fs->b∉ch->s.heap.get? b=!o->H b=none->∃sl,h'.get? b=some { o with slots:=sl }) (free:∀b o,b∉ch->s.heap.get? b=!o->H b=none->H' b=none)
 (there:∀b o,b∉ch->s.heap.get? b=!o->∃o',h'.get? b=!o')
 (tups:∀b xs,H b=!(.tup xs)->H' b=!(.tup xs)) (frzs:∀b o u,H b=!(.frz o u)->H' b=!(.frz o u)) (tbls:∀b ps,H b=!(.tbl ps)->∃more,H' b=!(.tbl (ps++more)))
 (ns:∀m,s.heap.Ns X.env.locals m->h'.Ns X.env.locals m) (hok:kj X.prog X.w H' h') (hg:AllBare g'):
 Inv X aki U H' { s with heap:=h',gens:=g',drawn:=d',toks:=t' }:=by
 have neL:∀b o,X.s₀.heap.get? b=!o->b≠X.env.locals:=λb o e=>agQ (age (aeq e) I.ok.above);have neC:∀b o,X.s₀.heap.get? b=!o->b∉X.ex->b∉ch:=λb o e hx hb=>by
  obtain z|z:=(hch b hb).1
  . show hx z
  . show absurd (age (aeq e) z) (ahj _)
 have cellK:∀x c,X.env.cells.lookup x=!c->∀v,s.heap.IsCell c v->h'.IsCell c v:=λx c e v z0=>by
  let(o,ho,hd):=z0
  have nch:c∉ch:=λz=>(hch c z).2.2.1 x c e rfl;by_cases hc:c∈X.fs
  . let(sl,q):=slot c o (I.cne x c e) hc nch ho (I.freeC x c e);show#[_,q,hd]
  . show#[o,keep c o (I.cne x c e) hc nch ho (I.freeC x c e),hd]
 show#[I.ok,I.os,hg,#[λb o e n hb hx=>?_,λb o e n hb hx=>?_,λb o e n hx=>?_,λb o e hx=>?_,λb xs e=>tups b xs (I.base.tups b xs e),λb o xs e=>frzs b o xs (I.base.frzs b o xs e),λb ps e=>?_],?_,λx c e=>?_,?_,λx c e=>?_,λp hp=>?_,hok,I.len]
 . show keep b o (neL b o e) hb (neC b o e hx) (I.base.keep b o e n hb hx) (I.base.free b o e n hx)
 . let(sl,e1):=I.base.slot b o e n hb hx;let(sl',e2):=slot b _ (neL b o e) hb (neC b o e hx) e1 (I.base.free b o e n hx);show#[sl',e2]
 . let(o',e1):=I.base.there b o e hx;show free b o' (neC b o e hx) e1 (I.base.free b o e n hx)
 . let(o',e1):=I.base.there b o e hx;show there b o' (neC b o e hx) e1
 . let(m1,e1):=I.base.tbls b ps e;let(m2,e2):=tbls b _ e1;show#[m1++m2,by rw[e2,Array.append_assoc]]
 . let(m,hn,hl):=I.loc;show#[m,ns m hn,λi x v e1 e2 e3=>?_];let(u,r,l):=hl i x v e1 e2 e3;show#[u,r,?_];obtain l|⟨k,c,e,z⟩:=l
   . show .inl l
   . show .inr #[k,c,e,cellK x c e _ z]
 . let(v,z):=I.cell x c e;show#[v,cellK x c e v z]
 . let(m,(o,_,_,ho,_),_):=I.loc;show free _ o (λz=>(hch _ z).2.1 rfl) ho I.free
 . let(v,o,ho,hd):=I.cell x c e;show free c o (λz=>(hch c z).2.2.1 x c e rfl) ho (I.freeC x c e)
 . let(e,n,ne,nf,d):=I.pin p hp;have nch:p.1∉ch:=λz=>(hch p.1 z).2.2.2 p hp rfl;show#[keep p.1 p.2 ne nf nch e n,free p.1 p.2 nch e n,ne,nf,d]
def Inv.un(I:Inv X aki U H s)(u:Un X.fs [] H H' s.heap h')(hok:kj X.prog X.w H' h'):Inv X aki U H' { s with heap:=h',toks:=t' }:=by
 let(m,(o,es,ep,ho,r),_):=id I.loc;let(sl,hL):=u.any ho I.free (by simp);show I.step (ch:=[]) (λ_ z=>nomatch z) (λb o _ hb _ e n=>u.keep b o e n hb ()) (λb o _ hb _ e n=>u.slot b o e n hb ()) (λb o _ e n=>u.free b o e n ()) (λb o _ e=>u.there b o e ()) u.tups u.frzs u.tbls (λm' hm=>by let(o',es',ep',ho',r'):=hm;rw[ho]at ho';cases ho';show#[_,es',ep',hL,r']) hok I.bare
def Inv.call(I:Inv X aki U H s)(u:Un (frs X.stack) ch H H' s.heap h')(hok:kj X.prog X.w H' h')(hg:AllBare g')
 (hch:∀b∈ch,(b∈X.ex\/X.s₀.heap.objs.size<=b)/\b≠X.env.locals/\(∀x c,X.env.cells.lookup x=!c->c≠b)/\∀p∈X.pn++aki,p.1≠b):
 Inv X aki U H' { s with heap:=h',gens:=g',drawn:=d',toks:=t' }:=by
 let(m,(o,es,ep,ho,r),_):=id I.loc;let(sl,hL):=u.any ho I.free λz=>(hch _ z).2.1 rfl;show I.step hch (λb o hL hb hc e n=>u.keep b o e n (λz=>(abw.mp (I.stkSub b z)).elim hL hb) hc) (λb o _ _ hc e n=>u.any e n hc) (λb o hc e n=>u.free b o e n hc) (λb o hc e=>u.there b o e hc) u.tups u.frzs u.tbls (λm' hm=>by let(o',es',ep',ho',r'):=hm;rw[ho]at ho';cases ho';show#[_,es',ep',hL,r']) hok hg
def Inv.turned(I:Inv X aki U H s)(k:∀b o,b≠it->s.heap.get? b=!o->h'.get? b=!o)(hn:H it=none)(hL:it≠X.env.locals)
 (h1:it∈X.ex\/X.s₀.heap.objs.size<=it) (h2:∀x c,X.env.cells.lookup x=!c->c≠it) (h3:∀p∈X.pn++aki,p.1≠it):Inv X aki U H { s with heap:=h',toks:=t' }:=by
 have nit:∀b u,H b=!u->b≠it:=λb u e z=>by rw[z,hn]at e;cases e
 show I.step (g':=s.gens) (d':=s.drawn) (ch:=[it]) (λb hb=>?_) (λb o _ _ hc e _=>k b o (λz=>hc (by simp[z])) e) (λb o _ _ hc e _=>#[o.slots,k b o (λz=>hc (by simp[z])) e]) (λ_ _ _ _ n=>n)
  (λb o hc e=>#[o,k b o (λz=>hc (by simp[z])) e]) (λ_ _ e=>e) (λ_ _ _ e=>e) (λb ps e=>#[(List.toArray []),by rw[e];simp]) (λm hm=>?_) (λb u e=>?_) I.bare
 . have e:b=it:=by simpa using hb
   subst e;show#[h1,hL,h2,h3]
 . let(o,es,ep,ho,r):=hm;show#[o,es,ep,k _ o (Ne.symm hL) ho,r]
 . show(I.hok b u e).stay (λc v hc q=>k c v ?_ q) (λ_ q=>q) λ_ _ q=>q;obtain z|z:=hc
   . rw[z];show nit b u e
   . show nit c _ z
def Inv.tok(I:Inv X aki U H s)(t:Nat):Inv X aki U H { s with toks:=t }:=I.un Un.refl I.hok
def Inv.kept(I:Inv X aki U H s)(k:∀b u,s.heap.get? b=!u->h'.get? b=!u):Inv X aki U H { s with heap:=h',toks:=t' }:=I.un (Un.kept k) (I.hok.kept k)
def Inv.laid{a:Addr}(I:Inv X aki U H s)(k:∀b u,s.heap.get? b=!u->h'.get? b=!u)(hp:s.heap.objs.size<=a)(new:jw X.prog X.w (upd H a o) h' a o):
 Inv X aki U (upd H a o) { s with heap:=h',toks:=t' }:=I.un (Un.laid k hp (I.hok.fresh hp)) (I.hok.laid k hp new)
def Inv.write(I:Inv X aki U H s)(mu:Ws (H x))(he:e=x\/H e=!(.own x))(k:∀b u,b≠e->s.heap.get? b=!u->h'.get? b=!u)(heo:∃u,h'.get? e=!u)
 (new:jw X.prog X.w (upd H x o) h' x o):Inv X aki U (upd H x o) { s with heap:=h',toks:=t' }:=I.un (Un.write mu he k heo) (I.hok.write mu he k heo new)
def Inv.pins_of(I:Inv X aki U H s)(h:∀p∈pins',s.heap.get? p.1=!p.2/\H p.1=none/\p.1≠X.env.locals/\p.1∉X.fs/\∀v,p.2.data≠.cell v):Inv X pins' U H s:=
 #[I.ok,I.os,I.bare,I.base,I.loc,I.cell,I.free,I.freeC,λp hp=>(adY.mp hp).elim (λz=>I.pin p (agW _ z)) (h p),I.hok,I.len]
def Oe{N:List Str}(hN:N.Nodup){i j:Nat}(a:N[i]?=!x)(b:N[j]?=!x):i=j:=by let(h1,e1):=adP.mp a;let(h2,e2):=adP.mp b;show(List.getElem_inj hN).mp (e1.trans e2.symm)
def Li(I:Inv X aki U H s)(hN:X.N.Nodup)(hi:X.N[i]?=!x)(hx:Loc X.env.scope x)(r:RelV v u)
 (h:∀s',Inv X aki (U.set i (!v)) H s'->(∃a,Heap.SameBut a s.heap s'.heap/\(a=X.env.locals\/X.env.cells.lookup x=!a))->Q #[] s') (hf:X.fn x=true\/X.env.scope.names.lookup x=!.local:=by first |show .inl rfl |show .inr rfl |assumption):wpAny M A (storeName X.env x u) Q E s:=by
 let(m,hn,hl):=id I.loc;have hcls:(X.env.scope.kind==.class||(X.env.scope.kind==.module&&X.env.locals != X.env.globals))=false:=by rw[I.ok.kind];rfl
 have hiU:i<U.length:=by rw[I.len];show(adP.mp hi).1
 have cne:=I.cne;have tracked:∀{a:Addr}{h':Heap},(∃o,s.heap.get? a=!o/\H a=none)->Heap.SameBut a s.heap h'->kj X.prog X.w H h':=λ{a h'} ha hs b ob e=>by
  let(_,_,hfree):=ha;show(I.hok b ob e).stay (λc w' hc q=>(hs.2 c ?_).trans q) (λ_ q=>q) λ_ _ q=>q;rintro rfl;obtain rfl|hc:=hc
  . lia
  . lia
 obtain hk|hk:=hx
 . show wpAny_storeName_local hk hn (λh' hn' hs=>?_) hcls;let(oL,_,_,hoL,_):=id hn;show h _ #[I.ok,I.os,I.bare,#[λb o e n hb hx=>?_,λb o e n hb hx=>?_,I.base.free,λb o e hx=>?_,I.base.tups,I.base.frzs,I.base.tbls],#[_,hn',λj y v' e1 e2 e3=>?_],λy c e=>?_,I.free,I.freeC,λp hp=>?_,tracked #[oL,hoL,I.free] hs,by simpa using I.len] #[_,hs,.inl rfl]
   . show(hs.2 b (agQ (age (aeq e) I.ok.above))).trans (I.base.keep b o e n hb hx)
   . let(sl,e1):=I.base.slot b o e n hb hx;show#[sl,(hs.2 b (agQ (age (aeq e) I.ok.above))).trans e1]
   . let(o',e1):=I.base.there b o e hx;show#[o',(hs.2 b (agQ (age (aeq e) I.ok.above))).trans e1]
   . by_cases hj:j=i
     . subst hj;rw[hi]at e1;cases e1;rw[aeI hiU]at e2;cases e2;show#[u,r,.inl #[hk,by simp]]
     . rw[agc ()]at e2;let(u',r',q):=hl j y v' e1 e2 e3;show#[u',r',?_];obtain⟨k,e⟩|⟨k,c,e,z⟩:=q
       . show .inl #[k,?_];have:y≠x:=λe=>hj (Oe hN e1 (e▸hi));lia
       . show .inr #[k,c,e,z.sameBut hs (cne y c e)]
   . let(w',z):=I.cell y c e;show#[w',z.sameBut hs (cne y c e)]
   . let(e,n,ne,nf,d):=I.pin p hp;show#[(hs.2 p.1 ne).trans e,n,ne,nf,d]
 . have hfn:X.fn x=true:=by
    obtain z|z:=hf
    . show z
    . lia
   let(c,hc):=I.ok.has x (.inl hk);let(w',z):=I.cell x c hc;show wpAny_storeName_cell I.ok.kind hk hc z (λh' hc' hs=>?_);let(oc,hoc,hocd):=id z;show h { s with heap:=h' } #[I.ok,I.os,I.bare,#[λb o e n hb hx=>?_,λb o e n hb hx=>?_,I.base.free,λb o e hx=>?_,I.base.tups,I.base.frzs,I.base.tbls],#[m,hn.sameBut hs ∅,λj y v' e1 e2 e3=>?_],λy c' e=>?_,I.free,I.freeC,λp hp=>?_,tracked #[oc,hoc,I.freeC x c hc] hs,by simpa using I.len] #[c,hs,.inr hc]
   . show(hs.2 b (agQ (age (aeq e) (I.ok.cab x c hfn hc)))).trans (I.base.keep b o e n hb hx)
   . let(sl,e1):=I.base.slot b o e n hb hx;show#[sl,(hs.2 b (agQ (age (aeq e) (I.ok.cab x c hfn hc)))).trans e1]
   . let(o',e1):=I.base.there b o e hx;show#[o',(hs.2 b (agQ (age (aeq e) (I.ok.cab x c hfn hc)))).trans e1]
   . by_cases hj:j=i
     . subst hj;rw[hi]at e1;cases e1;rw[aeI hiU]at e2;cases e2;show#[u,r,.inr #[.inl hk,c,hc,hc']]
     . rw[agc ()]at e2;let(u',r',q):=hl j y v' e1 e2 e3;show#[u',r',?_];obtain q|⟨k,c',e,z'⟩:=q
       . show .inl q
       . show .inr #[k,c',e,z'.sameBut hs ?_];rintro rfl;show hj (Oe hN e1 (I.ok.inj _ _ _ e hc▸hi))
   . by_cases hcc:c'=c
     . lia
     . let(w2,z2):=I.cell y c' e;show#[w2,z2.sameBut hs hcc]
   . let(e,n,ne,nf,d):=I.pin p hp;show#[(hs.2 p.1 ?_).trans e,n,ne,nf,d];lia
def Og(I:Inv X aki U H s)(hN:X.N.Nodup)(hi:X.N[i]?=!x)(hx:Loc X.env.scope x)(r:RelV v u)
 (h:∀s',Inv X aki (U.set i (!v)) H s'->Q #[] s') (hf:X.fn x=true\/X.env.scope.names.lookup x=!.local:=by first |show .inl rfl |show .inr rfl |assumption):wpAny M A (storeName X.env x u) Q E s:=
 Li I hN hi hx r (λs' I' _=>h s' I') hf
def Inv.call'(I:Inv X aki U H s)(ho:s'.os=s.os)(u:Un (frs X.stack) ch H H' s.heap s'.heap)(hok:kj X.prog X.w H' s'.heap)(hg:AllBare s'.gens)
 (hch:∀b∈ch,(b∈X.ex\/X.s₀.heap.objs.size<=b)/\b≠X.env.locals/\(∀x c,X.env.cells.lookup x=!c->c≠b)/\∀p∈X.pn++aki,p.1≠b):Inv X aki U H' s':=by
 let(h',g',d',t',o'):=s';have e:=ho;subst e;show I.call u hok hg hch
end
abbrev XK:=Value->Option Addr->Hp->Prop
abbrev St:=List (Option V)
abbrev VK:=V->Hp->Prop
abbrev TE:=St->Hp->VK->Prop
abbrev TT:=St->Hp->(Bool->Hp->Prop)->Prop
abbrev TA:=St->Hp->(List V->Hp->Prop)->Prop
structure Ends where
 nx:St->Hp->Prop
 rt:VK
 bk:St->Hp->Prop:=λ_ _=>False
 ct:St->Hp->Prop:=λ_ _=>False
abbrev TS:=Ends->St->Hp->Prop
def EP(X:Cx)(aki:List (Addr×Obj))(U:St)(Q:VK)(u:Value)(s':Shared):Prop:=∃v H',Inv X aki U H' s'/\RelV v u/\Q v H'
def TP(X:Cx)(aki:List (Addr×Obj))(U:St)(Q:Bool->Hp->Prop)(b:Bool)(s':Shared):Prop:=∃H',Inv X aki U H' s'/\Q b H'
def AP(X:Cx)(aki:List (Addr×Obj))(U:St)(Q:List V->Hp->Prop)(us:List Value)(s':Shared):Prop:=∃vs H',Inv X aki U H' s'/\Vals vs us/\Q vs H'
def SP(X:Cx)(aki:List (Addr×Obj))(D:Ends)(f:Flow)(s':Shared):Prop:=
 match f with
 |.next=>∃U' H',Inv X aki U' H' s'/\D.nx U' H'
 |.brk=>∃U' H',Inv X aki U' H' s'/\D.bk U' H'
 |.cont=>∃U' H',Inv X aki U' H' s'/\D.ct U' H'
 |.ret u=>∃v U' H',Inv X aki U' H' s'/\RelV v u/\D.rt v H'
def PE(X:Cx)(e:Expr)(t:TE):Prop:=
 ∀(aki:List (Addr×Obj))(s:Shared)(U:St)(H:Hp)(Q:VK),Inv X aki U H s->t U H Q->wpAny (model X.prog X.w) X.A (eval e X.env) (EP X aki U Q) X.xe s
def PT(X:Cx)(e:Expr)(t:TT):Prop:=
 ∀(aki:List (Addr×Obj))(s:Shared)(U:St)(H:Hp)(Q:Bool->Hp->Prop),Inv X aki U H s->t U H Q->wpAny (model X.prog X.w) X.A (isTrue e X.env (eval e X.env)) (TP X aki U Q) X.xe s
def PW(X:Cx)(e:Expr)(t:TT):Prop:=
 ∀(whole:Sem Value)(aki:List (Addr×Obj))(s:Shared)(U:St)(H:Hp)(Q:Bool->Hp->Prop),Inv X aki U H s->t U H Q->wpAny (model X.prog X.w) X.A (isTrue e X.env whole) (TP X aki U Q) X.xe s
def PW.pt(h:PW X e t):PT X e t:=h _
def PA(X:Cx)(es:List Expr)(t:TA):Prop:=
 ∀(pos:Pos)(aki:List (Addr×Obj))(s:Shared)(U:St)(H:Hp)(Q:List V->Hp->Prop),Inv X aki U H s->t U H Q->wpAny (model X.prog X.w) X.A (spliced (backTo pos (starEach es X.env))) (AP X aki U Q) X.xe s
def PS(X:Cx)(st:Stmt)(t:TS):Prop:=
 ∀(aki:List (Addr×Obj))(s:Shared)(U:St)(H:Hp)(D:Ends),Inv X aki U H s->t D U H->wpAny (model X.prog X.w) X.A (exec st X.env) (SP X aki D) X.xe s
def kZ(X:Cx)(st:List Stmt)(t:TS):Prop:=
 ∀(aki:List (Addr×Obj))(s:Shared)(U:St)(H:Hp)(D:Ends),Inv X aki U H s->t D U H->wpAny (model X.prog X.w) X.A (execs st X.env) (SP X aki D) X.xe s
def cP(h:wpAny M A t Q E s)(hQ:∀a s,Q a s->Q' a s):wpAny M A t Q' E s:=wpAny_mono h hQ λ_ _ x=>x
section
variable {X:Cx}
def bin(ha:PE X a ta)(hb:PE X b tb){U:St}{R:V->V->Hp->Prop}(I:Inv X aki U H s)(h:ta U H λx H1=>tb U H1 λy H2=>R x y H2)
 {f:Value->Value->Sem α}
 (hf:∀v u s2 x y H2,Inv X aki U H2 s2->RelV x v->RelV y u->R x y H2->wpAny (model X.prog X.w) X.A (f v u) Q X.xe s2):
 wpAny (model X.prog X.w) X.A (eval a X.env) (λv s₁=>wpAny (model X.prog X.w) X.A (eval b X.env) (λu s₂=>wpAny (model X.prog X.w) X.A (f v u) Q X.xe s₂) X.xe s₁) X.xe s:=by
 show cP (ha aki s U H _ I h) λv s1 z1=>?_;let(x,H1,I1,r1,q1):=z1;show cP (hb aki s1 U H1 _ I1 q1) λu s2 z2=>?_;let(y,H2,I2,r2,q2):=z2;lia
def wK(i:Nat):TE:=λU H Q=>∃v,U[i]?=!(!v)/\Q v H
def tC(v:V):TE:=λ_ H Q=>Q v H
def adf{pos:Pos}(hN:X.N[i]?=!x)(hv:Wu X.env.scope x)(hd:(x==("__debug__" : Str))=false:=by decide)(hcd:(x==("__classdict__" : Str))=false:=by decide):PE X (.Name x pos) (wK i):=by
 intro aki s U H Q I h;let(v,e,h):=h;let(m,hn,hl):=I.loc;let(u,r,l):=hl i x v hN e hv;have fin:EP X aki U Q u s:=#[v,H,I,r,h];obtain⟨hk,hm⟩|⟨hk,c,hc,hcell⟩:=l
 . show wpAny_Name (wpAny_loadName_local I.ok.kind hk hn hm fin) hd
 . obtain hk|hk:=hk
   . show wpAny_Name (wpAny_loadName_cell I.ok.kind hk hc hcell fin) hd
   . show wpAny_Name (wpAny_loadName_free I.ok.kind hk hc hcell fin hcd) hd
def adg{i j pos}:PE X (.Constant (.int i) j pos) (tC (.int i)):=λ_ _ _ H _ I h=>wpAny_Constant_int #[.int i,H,I.tok _,#[_,rfl],h]
def yc{b j pos}:PE X (.Constant (.bool b) j pos) (tC (.bl b)):=λ_ _ _ H _ I h=>Constant_bool #[.bl b,H,I,rfl,h]
def adh{j pos}:PE X (.Constant .none j pos) (tC .non):=λ_ _ _ H _ I h=>Constant_none #[.non,H,I,rfl,h]
def adi{x j pos}:PE X (.Constant (.str x) j pos) (tC (.str x)):=λ_ _ _ H _ I h=>Calls.Constant_str #[.str x,H,I.tok _,#[_,rfl],h]
def Gl(X:Cx)(x:Str):Prop:=X.env.kindOf x=!.globalImplicit
def JW{U:St}(I:Inv X aki U H s)(hg:Gl X x)(hm:X.mg x=!u)(h:Q u s)
 (hd:(x==("__debug__" : Str))=false:=by decide):wpAny (model X.prog X.w) X.A (eval (.Name x pos) X.env) Q E s:=
 Calls.Name_function_global I.ok.kind hg (Calls.loadGlobal_global (by rw[I.ok.glob];show I.mod.glob.keeps I.bk) hm h) hd
def wN{U:St}{pos:Pos}(I:Inv X aki U H s)(hg:Gl X x)(hm:X.mg x=none)(hv:bootBuiltins x=!u)(h:Q u s)
 (hn:x ≠ "__name__":=by decide) (hd:(x==("__debug__" : Str))=false:=by decide):wpAny (model X.prog X.w) X.A (eval (.Name x pos) X.env) Q E s:=by
 let(mb,h1,h2):=I.mod.blt;show Calls.Name_function_global I.ok.kind hg (Calls.loadGlobal_builtin (by rw[I.ok.glob];show I.mod.glob.keeps I.bk) hm (by rw[I.ok.blt];show h1.keeps I.bk) ((h2 x hn).trans hv) h) hd
def abL(hg:Gl X x)(hm:X.mg x=!u)(r:RelV v u)(hd:(x==("__debug__" : Str))=false:=by decide):PE X (.Name x pos) (tC v):=
 λ_ _ _ H _ I h=>JW I hg hm #[v,H,I,r,h] hd
def iZ{pos:Pos}(hg:Gl X x)(hm:X.mg x=none)(hv:bootBuiltins x=!u)(r:RelV v u)(hn:x ≠ "__name__":=by decide)(hd:(x==("__debug__" : Str))=false:=by decide):PE X (.Name x pos) (tC v):=
 λ_ _ _ H _ I h=>wN I hg hm hv #[v,H,I,r,h] hn hd
variable {a b:Expr}{ta tb:TE}{pos:Pos}
def PC(X:Cx)(op:CmpOp)(a b:Expr)(t:TE):Prop:=
 ∀(aki:List (Addr×Obj))(s:Shared)(U:St)(H:Hp)(Q:VK),Inv X aki U H s->t U H Q->
  wpAny (model X.prog X.w) X.A (eval a X.env) (λv s₁=>wpAny (model X.prog X.w) X.A (eval b X.env) (λu s₂=>wpAny (model X.prog X.w) X.A (compareOp op v u) (EP X aki U Q) X.xe s₂) X.xe s₁) X.xe s
variable {tA tB':TT}{rest:List Expr}
def adk(t u:TT):TT:=λU H Q=>t U H λc H1=>if c=true then u U H1 Q else Q false H1
def tOr(t u:TT):TT:=λU H Q=>t U H λc H1=>if c=true then Q true H1 else u U H1 Q
def agn(t:TT):TT:=λU H Q=>t U H λc H1=>Q (not c) H1
def abM(ha:PT X a tA):PW X (.BoolOp .And [a] pos) tA:=by
 intro wh aki s U H Q I h;show isTrue_and (cP (ha aki s U H Q I h) λc s1 e=>?_);cases c with
 |true=>show isTrue_and_nil e
 |false=>show e
def adl(ha:PT X a tA):PW X (.BoolOp .Or [a] pos) tA:=by
 intro wh aki s U H Q I h;show isTrue_or (cP (ha aki s U H Q I h) λc s1 e=>?_);cases c with
 |false=>show isTrue_or_nil e
 |true=>show e
def adm(ha:PT X a tA)(hb:PW X (.BoolOp .And (b::rest) pos) tB'):PW X (.BoolOp .And (a::b::rest) pos) (adk tA tB'):=by
 intro wh aki s U H Q I h;show isTrue_and (cP (ha aki s U H _ I h) λc s1 z3=>?_);let(H1,I1,q1):=z3;cases c with
 |true=>show hb wh aki s1 U H1 Q I1 q1
 |false=>show#[H1,I1,q1]
def afk(ha:PT X a tA)(hb:PW X (.BoolOp .Or (b::rest) pos) tB'):PW X (.BoolOp .Or (a::b::rest) pos) (tOr tA tB'):=by
 intro wh aki s U H Q I h;show isTrue_or (cP (ha aki s U H _ I h) λc s1 z4=>?_);let(H1,I1,q1):=z4;cases c with
 |true=>show#[H1,I1,q1]
 |false=>show hb wh aki s1 U H1 Q I1 q1
def adn(ha:PT X a tA):PT X (.UnaryOp .Not a pos) (agn tA):=by intro aki s U H Q I h;show isTrue_not (ha aki s U H (λc H1=>Q (not c) H1) I h)
def afl(ta tb:TE):TE:=λU H Q=>ta U H λx H1=>∃c,x=.bl c/\if c=true then tb U H1 Q else Q (.bl false) H1
def afm(ta:TE):TE:=λU H Q=>ta U H λx H1=>∃c,x=.bl c/\Q (.bl (not c)) H1
def ado{op}(h:PE X a t):PE X (.BoolOp op [a] pos) t:=λaki s U H Q I hw=>BoolOp_one (h aki s U H Q I hw)
def adp(ha:PE X a ta)(hb:PE X (.BoolOp .And (b::rest) pos) tb):PE X (.BoolOp .And (a::b::rest) pos) (afl ta tb):=by
 intro aki s U H Q I h;show BoolOp_and (cP (ha aki s U H _ I h) λv s1 z5=>?_);let(x,H1,I1,r1,q1):=z5;let(c,rfl,q1):=q1;cases r1;show wpAny_truthy_bool ?_;cases c with
 |true=>show hb aki s1 U H1 Q I1 q1
 |false=>show#[.bl false,H1,I1,rfl,q1]
def adq(ha:PE X a ta):PE X (.UnaryOp .Not a pos) (afm ta):=by intro aki s U H Q I h;show UnaryOp_ (cP (ha aki s U H _ I h) λv s1 z6=>?_);let(x,H1,I1,r1,q1):=z6;let(c,rfl,q1):=q1;cases r1;show not_of (wpAny_truthy_bool #[.bl (not c),H1,I1,rfl,q1])
def tIf(t:TT)(ta tb:TE):TE:=λU H Q=>t U H λc H1=>if c=true then ta U H1 Q else tb U H1 Q
def Y5(hc:PT X c tA)(ha:PE X a ta)(hb:PE X b tb):PE X (.IfExp c a b pos) (tIf tA ta tb):=by
 intro aki s U H Q I h;show wpAny_IfExp (cP (hc aki s U H _ I h) λd s1 z7=>?_);let(H1,I1,q1):=z7;cases d with
 |true=>show ha aki s1 U H1 Q I1 q1
 |false=>show hb aki s1 U H1 Q I1 q1
end
def cW(K:FG)(H:Hp)(a:Addr)(xs:List V):Prop:=
 Rd H a (.lst xs)\/
  ∃(o:Obj)(its:Array Value)(n:Nat),K.lookup a=!o/\o.cls=.type "list"/\o.dict=none/\o.data=.seq its n/\its.size<=sizeLine/\Vals xs its.toList
def dR(K:FG)(H:Hp)(a:Addr)(xs:List V):Prop:=
 Rd H a (.tup xs)\/
  ∃(o:Obj)(its:Array Value)(n:Nat),K.lookup a=!o/\o.cls=.type "tuple"/\o.data=.seq its n/\its.size<=sizeLine/\Vals xs its.toList
noncomputable def ago:Value->Option V
 |.none=>!.non
 |.bool b=>!(.bl b)
 |.int i _=>!(.int i)
 |.str x _=>!(.str x)
 |.bytes b _=>!(.byt b)
 |.float b _=>!(.flt b)
 |.ref a=>!(.ref a)
 |.type n=>!(.ty n)
 |_=>none
def RelV.abs(r:RelV x u):ago u=!x:=by
 cases x with
 |non=>cases r;rfl
 |bl _=>cases r;rfl
 |int _=>let(t,rfl):=r;rfl
 |str _=>let(t,rfl):=r;rfl
 |byt _=>let(t,rfl):=r;rfl
 |flt _=>let(t,rfl):=r;rfl
 |ref _=>cases r;rfl
 |ty _=>cases r;rfl
def RelV.inj(r:RelV x u)(q:RelV y u):x=y:=af7 (r.abs.symm.trans q.abs)
theorem Vals.inj:∀{xs ys:List V}{us:List Value},Vals xs us->Vals ys us->xs=ys
 |_,_,_,.nil,.nil=>rfl
 |_,_,_,.cons r t,.cons r' t'=>by rw[r.inj r',Vals.inj t t']
section
variable {X:Cx}{aki:List (Addr×Obj)}{U:St}{H:Hp}{s:Shared}{a:Addr}{xs ys:List V}
def cW.of{K:FG}(h:H a=!(.lst xs)):cW K H a xs:=.inl (.inl h)
def dR.of{K:FG}(h:H a=!(.tup xs)):dR K H a xs:=.inl (.inl h)
def Inv.list(I:Inv X aki U H s)(h:cW X.K H a xs):∃its:List Value,Vals xs its/\PlainL s.heap a its.toArray/\xs.length<=sizeLine:=by
 obtain h|⟨o,its,n,hk,hc,hd,hs,hz,r⟩:=h
 . let(z,its,n,r,e):=h.ok I.hok;show#[its,r,#[_,n,e,rfl,rfl,rfl],z]
 . show#[its.toList,r,#[o,n,I.kIn a o hk,hc,hd,by simpa using hs],?_];have e:=r.length;simp only[ahM]at e;lia
def Inv.tuple(I:Inv X aki U H s)(h:dR X.K H a xs):∃its:List Value,Vals xs its/\IsTup s.heap a its.toArray/\xs.length<=sizeLine:=by
 obtain h|⟨o,its,n,hk,hc,hs,hz,r⟩:=h
 . let(z,its,r,p):=h.ok I.hok;show#[its,r,p,z]
 . show#[its.toList,r,#[o,I.kIn a o hk,hc,n,by simpa using hs],?_];have e:=r.length;simp only[ahM]at e;lia
def Inv.list_inj(I:Inv X aki U H s)(h:cW X.K H a xs)(h':cW X.K H a ys):xs=ys:=by
 let(its,r,(o,n,e,_,_,d),_):=I.list h;let(its',r',(o',n',e',_,_,d'),_):=I.list h';rw[e]at e';cases e';rw[d]at d';injection d' with d1 _;have:its=its':=by simpa using congrArg Array.toList d1
 subst this;show r.inj r'
def Inv.tuple_inj(I:Inv X aki U H s)(h:dR X.K H a xs)(h':dR X.K H a ys):xs=ys:=by
 let(its,r,(o,e,_,n,d),_):=I.tuple h;let(its',r',(o',e',_,n',d'),_):=I.tuple h';rw[e]at e';cases e';rw[d]at d';injection d' with d1 _;have:its=its':=by simpa using congrArg Array.toList d1
 subst this;show r.inj r'
end
abbrev Cx.wish(X:Cx)(E:Value->Shared->Prop):Cx:={ X with xe:=E }
abbrev Cx.nox(X:Cx):Cx:=X.wish λ_ _=>False
def Cx.Ok.wish{X:Cx}(ok:X.Ok)(E:Value->Shared->Prop):(X.wish E).Ok:=
 #[ok.mod,ok.kind,ok.glob,ok.blt,ok.above,ok.inj,ok.has,ok.cab,ok.hd,ok.frames,ok.stk,ok.exf,ok.bs,ok.bsz,ok.noex,ok.exfs,ok.funs,ok.frf]
def Cx.Ok.unwish{X:Cx}(ok:(X.wish E).Ok):X.Ok:=
 #[ok.mod,ok.kind,ok.glob,ok.blt,ok.above,ok.inj,ok.has,ok.cab,ok.hd,ok.frames,ok.stk,ok.exf,ok.bs,ok.bsz,ok.noex,ok.exfs,ok.funs,ok.frf]
section
variable {X:Cx}{aki:List (Addr×Obj)}{U:St}{H:Hp}{s:Shared}{E:Value->Shared->Prop}
def Inv.wish(I:Inv X aki U H s)(E:Value->Shared->Prop):Inv (X.wish E) aki U H s:=#[I.ok.wish E,I.os,I.bare,I.base,I.loc,I.cell,I.free,I.freeC,I.pin,I.hok,I.len]
def Inv.unwish(I:Inv (X.wish E) aki U H s):Inv X aki U H s:=#[I.ok.unwish,I.os,I.bare,I.base,I.loc,I.cell,I.free,I.freeC,I.pin,I.hok,I.len]
def SP.unwish(h:SP (X.wish E) aki D f s'):SP X aki D f s':=by
 cases f with
 |next=>let(U',H',I,q):=h;show#[U',H',I.unwish,q]
 |brk=>let(U',H',I,q):=h;show#[U',H',I.unwish,q]
 |cont=>let(U',H',I,q):=h;show#[U',H',I.unwish,q]
 |ret u=>let(v,U',H',I,r,q):=h;show#[v,U',H',I.unwish,r,q]
def kZ.nox{st:List Stmt}(h:kZ X.nox st t):kZ X st t:=λaki s U H D I hw=>
 wpAny_mono (h aki s U H D (I.wish _) hw) (λ_ _ q=>q.unwish) λ_ _ z=>False.elim z
end
section
variable {X:Cx}{st:Stmt}{rest:List Stmt}{t u:TS}{e:Expr}{te:TE}{pos:Pos}
def afn:TS:=λD U H=>D.nx U H
def agp(t u:TS):TS:=λD U H=>t { D with nx:=u D } U H
def abN:kZ X [] afn:=λ_ _ U H _ I h=>wpAny_execs_nil #[U,H,I,h]
def Y6(h1:PS X st t)(h2:kZ X rest u):kZ X (st::rest) (agp t u):=by
 intro aki s U H D I h;show wpAny_execs_cons (cP (h1 aki s U H { D with nx:=u D } I h) λf s1 q=>?_);cases f with
 |next=>
  let(U',H',I',q):=q;show h2 aki s1 U' H' D I' q
 |ret v=>show q
 |brk=>show q
 |cont=>show q
def abO(h1:PS X st t):kZ X [st] t:=by
 intro aki s U H D I h;show wpAny_execs_cons (cP (h1 aki s U H D I h) λf s1 q=>?_);cases f with
 |next=>show wpAny_execs_nil q
 |ret v=>show q
 |brk=>show q
 |cont=>show q
def Inv.quiet{U:St}(I:Inv X aki U H s):interactive X.env=false:=by simp[interactive,I.ok.kind]
def Bj(te:TE):TS:=λD U H=>te U H λ_ H1=>D.nx U H1
def ik(he:PE X e te)(hs:swapsWith e none pos.line X.env=pure false:=by rfl):PS X (.Expr e pos) (Bj te):=by intro aki s U H D I h;show wpAny_Expr_any (cP (he aki s U H _ I h) λv s1 z8=>by let(x,H1,I1,r1,q1):=z8;show #[U,H1,I1,q1]) I.quiet hs
def agq(te:TE):TS:=λD U H=>te U H D.rt
def Wv(he:PE X e te):PS X (.Return (!e) pos) (agq te):=by intro aki s U H D I h;show wpAny_Return_some (cP (he aki s U H _ I h) λv s1 z9=>by let(x,H1,I1,r1,q1):=z9;show #[x,U,H1,I1,r1,q1])
def afo:TS:=λD _ H=>D.rt .non H
def abP:PS X (.Return none pos) afo:=λ_ _ U H _ I h=>wpAny_Return_none #[.non,U,H,I,rfl,h]
def agr(c:TT)(t u:TS):TS:=λD U H=>c U H λb H1=>if b=true then t D U H1 else u D U H1
def afp(hc:PT X c tc)(ha:kZ X a t)(hb:kZ X b u):PS X (.If c a b pos) (agr tc t u):=by
 intro aki s U H D I h;show wpAny_If (cP (hc aki s U H _ I h) λd s1 z10=>?_);let(H1,I1,q1):=z10;cases d with
 |true=>show ha aki s1 U H1 D I1 q1
 |false=>show hb aki s1 U H1 D I1 q1
end
abbrev TG:=V->St->Hp->(St->Hp->Prop)->Prop
abbrev zq:=List V->St->Hp->(St->Hp->Prop)->Prop
def PG(X:Cx)(target:Expr)(t:TG):Prop:=
 ∀(aki:List (Addr×Obj))(s:Shared)(U:St)(H:Hp)(v:V)(u:Value)(Q:St->Hp->Prop),Inv X aki U H s->RelV v u->t v U H Q->
  wpAny (model X.prog X.w) X.A (assign target X.env u) (λ_ s'=>∃U' H',Inv X aki U' H' s'/\Q U' H') X.xe s
def Ww(X:Cx)(ts:List Expr)(t:zq):Prop:=
 ∀(aki:List (Addr×Obj))(s:Shared)(U:St)(H:Hp)(vs:List V)(us:List Value)(Q:St->Hp->Prop),Inv X aki U H s->Vals vs us->t vs U H Q->
  wpAny (model X.prog X.w) X.A (assignInOrder ((assignEach ts X.env).map (·.2)) us) (λ_ s'=>∃U' H',Inv X aki U' H' s'/\Q U' H') X.xe s
abbrev Y7:=V->V->V->Hp->(Hp->Prop)->Prop
def Y8(X:Cx)(t:Y7):Prop:=
 ∀(aki:List (Addr×Obj))(s:Shared)(U:St)(H:Hp)(o i v:V)(ov iv u:Value)(Q:Hp->Prop),Inv X aki U H s->RelV o ov->RelV i iv->RelV v u->t o i v H Q->
  wpAny (model X.prog X.w) X.A (setItem ov iv u) (λ_ s'=>∃H',Inv X aki U H' s'/\Q H') X.xe s
section
variable {X:Cx}{pos:Pos}
def Nm(i:Nat):TG:=λv U H Q=>Q (U.set i (!v)) H
def zr(hN:X.N.Nodup)(hi:X.N[i]?=!x)(hx:Loc X.env.scope x)(hf:X.fn x=true\/X.env.scope.names.lookup x=!.local:=by first |show .inl rfl |show .inr rfl |assumption):PG X (.Name x pos) (Nm i):=by intro aki s U H v u Q I r h;show wpAny_assign_Name (Og I hN hi hx r (λs' I'=>#[_,H,I',h]) hf)
def adt:zq:=λvs U H Q=>vs=[]/\Q U H
def aaT(t:TG)(u:zq):zq:=λvs U H Q=>∃v r,vs=v::r/\t v U H λU' H'=>u r U' H' Q
def gM:Ww X [] adt:=by intro aki s U H vs us Q I r h;let(e,h):=h;subst e;show assignInOrder_nil #[U,H,I,h]
def aZ(h1:PG X e t)(h2:Ww X es u)
 (hs:(assignEach (e::es) X.env).map (·.2)=assign e X.env::(assignEach es X.env).map (·.2):=by rfl):Ww X (e::es) (aaT t u):=by
 intro aki s U H vs us Q I r h;let(v,vr,e1,h):=h;subst e1;cases r with
 |cons r rr=>
  rw[hs];show assignInOrder_cons (cP (h1 aki s U H _ _ _ I r h) λ_ s1 z11=>?_);let(U1,H1,I1,q1):=z11;show h2 aki s1 U1 H1 _ _ Q I1 rr q1
def ags(K:FG)(n:Nat)(t:zq):TG:=λv U H Q=>∃a xs,v=.ref a/\dR K H a xs/\xs.length=n/\t xs U H Q
def adu{k:Nat}(hc:X.calm=true)(h:Ww X es t)
 (hn:(assignEach es X.env).length=n:=by rfl) (hst:(assignEach es X.env).findIdx? (·.1)=none:=by rfl):PG X (.Tuple es k pos) (ags X.K n t):=by
 intro aki s U H v u Q I r hw;let(a,xs,e1,hq,hl,hw):=hw;subst e1;cases r;let(its,rv,ht,hz):=I.tuple hq;show assign_Tuple_tuple (I.ok.hd hc) ht (by simp[hn,<-hl,rv.length]) hst λh' hx=>?_;have I1:=I.kept (t':=s.toks) λb o e=>hx b o (agQ (aeq e)) e;show h aki _ U H xs _ Q I1 () hw
def U7_(to ti:TE)(t:Y7):TG:=λv U H Q=>to U H λo H1=>ti U H1 λi H2=>t o i v H2 λH3=>Q U H3
def wQ(ho:PE X o to)(hi:PE X i ti)(hs:Y8 X t)
 (ha:∀v,assign (.Subscript o i pos) X.env v=(do
   let ov <-holding [v] (eval o X.env)
   let iv <-holding [v,ov] (eval i X.env)
   standAt pos
   holding [v,ov,iv] (setItem ov iv v)
   release [v,ov,iv] []):=by intro _;rfl):PG X (.Subscript o i pos) (U7_ to ti t):=by
 intro aki s U H v u Q I r h
 rw[ha]
 show aib (wpAny_holding (cP (ho aki s U H _ I h) λov s1 z12=>?_));let(x,H1,I1,r1,q1):=z12
 show aib (wpAny_holding (cP (hi aki s1 U H1 _ I1 q1) λiv s2 z13=>?_));let(y,H2,I2,r2,q2):=z13
 show aib (wpAny_standAt (aib (wpAny_holding (cP (hs aki s2 U H2 x y v ov iv u _ I2 r1 r2 r q2) λ_ s3 z14=>?_))));let(H3,I3,q3):=z14
 show wpAny_release #[U,H3,I3,q3]
def Oh(te:TE)(g:TG):TS:=λD U H=>te U H λx H1=>g x U H1 D.nx
def uZ(he:PE X e te)(hg:PG X tg g)(hs:swapsWithSole [tg] e pos.line X.env=pure false:=by rfl)(hw:swappedStores [tg] e X.env=pure none:=by rfl)
 (h1:(assignEach [tg] X.env).map (·.2)=[assign tg X.env]:=by rfl):PS X (.Assign [tg] e pos) (Oh te g):=by
 intro aki s U H D I h;show wpAny_Assign_stores (cP (he aki s U H _ I h) λv s1 z15=>?_) hs hw;let(x,H1,I1,r1,q1):=z15;rw[h1];show cP (hg aki s1 U H1 x v _ I1 r1 q1) λ_ s2 q=>q
def adv(hN:X.N.Nodup)(hi:X.N[i]?=!x)(hx:Loc X.env.scope x)(he:PE X e te)(hs:swapsWith e (!(.Name x pos')) pos.line X.env=pure false:=by rfl)(hf:X.fn x=true\/X.env.scope.names.lookup x=!.local:=by first |show .inl rfl |show .inr rfl |assumption):
 PS X (.Assign [.Name x pos'] e pos) (Oh te (Nm i)):=by
 intro aki s U H D I h;show wpAny_Assign_Name (cP (he aki s U H _ I h) λv s1 z16=>?_) hs;let(y,H1,I1,r1,q1):=z16;show Og I1 hN hi hx r1 (λs2 I2=>#[_,H1,I2,q1]) hf
def adw(c:TT)(tb:TS):TS:=λD U H=>∃W:Nat->St->Hp->Prop,(∃m,W m U H)/\∀m U H,W m U H->
 c U H λb H1=>if b=true then ∃N:St->Hp->Prop,(∀U' H',N U' H'->∃m',m'<m/\W m' U' H')/\tb { D with nx:=N,ct:=N,bk:=D.nx } U H1 else D.nx U H1
def Y9(hp:PassesOwn (model X.prog X.w) X.A X.env X.xe)(hc:PT X c tc)(hb:kZ X body tb):PS X (.While c body [] pos) (adw tc tb):=by
 intro aki s U H D I h;let(W,(m0,w0),turn):=h;show wpAny_While (codeAny_whileLoop (λn s'=>∃U' H',Inv X aki U' H' s'/\W n U' H') ?_ m0 #[U,H,I,w0]);rintro n s1 ⟨U1,H1,I1,w1⟩;show wpAny_passesOwn hp (cP (hc aki s1 U1 H1 _ I1 (turn n U1 H1 w1)) λb s2 z17=>?_);let(H2,I2,q2):=z17;cases b with
 |true=>
  let(N,hN,q2):=q2;show wpAny_passesOwn hp (cP (hb aki s2 U1 H2 _ I2 q2) λf s3 q3=>?_);cases f with
  |next=>
   let(U3,H3,I3,n3):=q3;lia
  |cont=>
   let(U3,H3,I3,n3):=q3;lia
  |brk=>show q3
  |ret v=>show q3
 |false=>
  show wpAny_execs_nil #[U1,H2,I2,q2]
end
structure It where
 go:Nat->Hp->Prop
 yld:Nat->Hp->V->Hp->Prop
 stop:Nat->Hp->Prop
def rB(X:Cx)(aki:List (Addr×Obj))(H:Hp)(b:Addr):Prop:=
 H b=none/\b≠X.env.locals/\b∉X.fs/\(b∈X.ex\/X.s₀.heap.objs.size<=b)/\(∀x c,X.env.cells.lookup x=!c->c≠b)/\∀p∈X.pn++aki,p.1≠b
def Inv.fpOk{U:St}{b:Addr}(I:Inv X aki U H s)(hb:s.heap.objs.size<=b)(hn:H' b=none):rB X aki H' b:=by
 show#[hn,ahc (age I.lt hb),I.nofs hb,.inr (agf I.sz hb),λx c e z=>?_,λp hp z=>?_]
 . let(v,q):=I.cell x c e;show absurd (age q.lt (by rw[z];show hb)) (ahj _)
 . show absurd (age (aeq (I.pin p hp).1) (by rw[z];show hb)) (ahj _)
structure Turn(P:Program)(w:World)(K:FG)(tg:Expr)(J:It)(fp:List Addr)(it:Addr)(tn:Nat->Heap->Prop):Prop where
 mem:it∈fp
 obj:∀i h,tn i h->∀b∈fp,∃o,h.get? b=!o/\∀v,o.data≠.cell v
 keep:∀i h h',tn i h->(∀b∈fp,∀o,h.get? b=!o->h'.get? b=!o)->tn i h'
 item:∀(X:Cx),X.prog=P->X.w=w->X.K=K->X.calm=true->∀(i:Nat)(aki:List (Addr×Obj))(s:Shared)(U:St)(H:Hp)(E:Value->Shared->Prop),Inv X aki U H s->(∀b∈fp,rB X aki H b)->tn i s.heap->J.go i H->
  wpAny (model P w) X.A (pyNext (.ref it)) (λr s1=>∃u,r=!u/\
   wpAny (model P w) X.A (letOwnedTupleGo tg (.ref it) u) (λ_ s2=>∃x H',Inv X aki U H' s2/\RelV x u/\J.yld i H x H'/\tn (i+1) s2.heap/\∀b∈fp,H' b=none) E s1) E s
 done:∀(X:Cx),X.prog=P->X.w=w->X.K=K->X.calm=true->∀(i:Nat)(aki:List (Addr×Obj))(s:Shared)(U:St)(H:Hp)(E:Value->Shared->Prop),Inv X aki U H s->(∀b∈fp,rB X aki H b)->tn i s.heap->J.stop i H->
  wpAny (model P w) X.A (pyNext (.ref it)) (λr s1=>r=none/\Inv X aki U H s1) E s
 self:∀(A:Around)(i:Nat)(s:Shared)(Q:Value->Shared->Prop)(E:Value->Shared->Prop),tn i s.heap->Q (.ref it) s->wpAny (model P w) A (pyIter (.ref it)) Q E s
abbrev TI:=St->Hp->(It->Hp->Prop)->Prop
def PIE(X:Cx)(aki:List (Addr×Obj))(U:St)(tg:Expr)(R:It->Hp->Prop)(itv:Value)(s2:Shared):Prop:=
 ∃(it:Addr)(fp:List Addr)(tn:Nat->Heap->Prop)(J:It)(H':Hp),itv=.ref it/\Inv X aki U H' s2/\Turn X.prog X.w X.K tg J fp it tn/\tn 0 s2.heap/\(∀b∈fp,rB X aki H' b)/\R J H'
def PI(X:Cx)(tg iter:Expr)(wi:TI):Prop:=
 ∀(aki:List (Addr×Obj))(s:Shared)(U:St)(H:Hp)(R:It->Hp->Prop),Inv X aki U H s->wi U H R->
  wpAny (model X.prog X.w) X.A (eval iter X.env) (λv s1=>wpAny (model X.prog X.w) X.A (pyIter v) (PIE X aki U tg R) X.xe s1) X.xe s
def Np(ho:s.heap.get? it=!o)(hc:o.cls=.type n)(hd:o.data=.fields vs)
 (hn:["enumerate","zip","dict_itemiterator","dict_reverseitemiterator","odict_iterator","itertools.zip_longest","itertools.pairwise"].contains n=false) (hQ:Q #[] s):wpAny M A (letOwnedTupleGo tg (.ref it) u) Q E s:=by
 cases tg<;>first
  |show aie hQ
  | (cases u<;>first
      |show aie hQ
      | (show aib (wpAny_load ho ?_)
         rw[hc,hd];show wpAny M A (if (["enumerate","zip","dict_itemiterator","dict_reverseitemiterator","odict_iterator","itertools.zip_longest","itertools.pairwise"].contains n&&vs[0]?==!(rawInt _))=true then _ else _) Q E s;rw[aid ∅];show aie hQ))
def Itl(K:FG)(a:Addr):It:=
 #[λi H=>∃xs x,cW K H a xs/\xs[i]?=!x,λi H x H'=>H'=H/\∀xs,cW K H a xs->xs[i]?=!x,λi H=>∃xs,cW K H a xs/\xs.length<=i]
def Itt(K:FG)(a:Addr):It:=
 #[λi H=>∃xs x,dR K H a xs/\xs[i]?=!x,λi H x H'=>H'=H/\∀xs,dR K H a xs->xs[i]?=!x,λi H=>∃xs,dR K H a xs/\xs.length<=i]
def Itr(lo:Int)(n:Nat):It:=#[λi _=>i<n,λi H x H'=>H'=H/\x=.int (lo+i),λi _=>n<=i]
def Wx{K:FG}(a it:Addr):Turn P w K tg (Itl K a) [it] it (λi h=>h.IsListIter it a i) where
 mem:=by simp
 obj:=λi h st b hb=>by
  have e:b=it:=by simpa using hb
  subst e;let(o,e,c,d):=st;lia
 keep:=λi h h' st k=>st.at λo e=>k it (by simp) o e
 item:=by intro X hP hw hK hc i aki s U H E I hf st hg;subst hP hw hK;let(xs,x,hq,hx):=hg;let(its,rv,p,hz):=I.list hq;let(u,hu,ru):=rv.get hx;let(f0,f1,f2,f3,f4,f5):=hf it (by simp);show wpAny_pyNext_list_item st p.isList (by simpa using hu) λh' st' sb=>?_;have I1:=I.turned (t':=s.toks) (λb o hb e=>(sb.2 b hb).trans e) f0 f1 f3 f4 f5;let(o,e,c,d):=id st';show#[u,rfl,Np e c d () #[x,H,I1,ru,#[rfl,λys hy=>by rw[I.list_inj hy hq];show hx],st',λb hb=>(hf b hb).1]]
 done:=by intro X hP hw hK hc i aki s U H E I hf st hg;subst hP hw hK;let(xs,hq,hx):=hg;let(its,rv,p,hz):=I.list hq;let(f0,f1,f2,f3,f4,f5):=hf it (by simp);have hl:=rv.length;show wpAny_pyNext_list_end (I.ok.hd hc) st p.isList ∅ λh' eb=>#[rfl,I.turned (λb o hb e=>eb b o hb e) f0 f1 f3 f4 f5]
 self:=λ_ _ _ _ _ st h=>wpAny_pyIter_listiter st h
def U8{K:FG}(a it:Addr):Turn P w K tg (Itt K a) [it] it (λi h=>h.IsTupleIter it a i) where
 mem:=by simp
 obj:=λi h st b hb=>by
  have e:b=it:=by simpa using hb
  subst e;let(o,e,c,d):=st;lia
 keep:=λi h h' st k=>st.at λo e=>k it (by simp) o e
 item:=by intro X hP hw hK hc i aki s U H E I hf st hg;subst hP hw hK;let(xs,x,hq,hx):=hg;let(its,rv,p,hz):=I.tuple hq;let(u,hu,ru):=rv.get hx;let(f0,f1,f2,f3,f4,f5):=hf it (by simp);show wpAny_pyNext_tuple_item st (p) (by simpa using hu) λh' st' sb=>?_;have I1:=I.turned (t':=s.toks) (λb o hb e=>(sb.2 b hb).trans e) f0 f1 f3 f4 f5;let(o,e,c,d):=id st';show#[u,rfl,Np e c d () #[x,H,I1,ru,#[rfl,λys hy=>by rw[I.tuple_inj hy hq];show hx],st',λb hb=>(hf b hb).1]]
 done:=by intro X hP hw hK hc i aki s U H E I hf st hg;subst hP hw hK;let(xs,hq,hx):=hg;let(its,rv,p,hz):=I.tuple hq;let(f0,f1,f2,f3,f4,f5):=hf it (by simp);have hl:=rv.length;show wpAny_pyNext_tuple_end (I.ok.hd hc) st (p) ∅ λh' eb=>#[rfl,I.turned (λb o hb e=>eb b o hb e) f0 f1 f3 f4 f5]
 self:=λ_ _ _ _ _ st h=>wpAny_pyIter_tupleiter st h
def U9{K:FG}(it:Addr)(lo:Int)(n:Nat):Turn P w K tg (Itr lo n) [it] it (λi h=>IsRangeIter h it (lo+(i:Nat)*1) ((n:Int)-(i:Nat)) 1) where
 mem:=by simp
 obj:=λi h st b hb=>by
  have e:b=it:=by simpa using hb
  lia
 keep:=λi h h' st k=>k it (by simp) _ st
 item:=by intro X hP hw hK hc i aki s U H E I hf st hg;subst hP hw hK;let(f0,f1,f2,f3,f4,f5):=hf it (by simp);have W:=Walks.range (prog:=X.prog) (w:=X.w) (I.ok.hd hc) it lo 1 n;show W.item i s _ _ hg st λv h' tk hv st' kk=>?_;let(t,rfl):=hv;show#[_,rfl,Np (n:="range_iterator") st' rfl rfl () #[.int (lo+i),H,(I.turned (λb o hb e=>kk b o ∅ e) f0 f1 f3 f4 f5),#[t,?_],#[rfl,rfl],st',λb hb=>(hf b hb).1]];rw[Int.mul_one]
 done:=by intro X hP hw hK hc i aki s U H E I hf st hg;let(f0,f1,f2,f3,f4,f5):=hf it (by simp);show wpAny_pyNext_range_end (I.ok.hd hc) st (by have:n<=i:=hg;lia) λh' eb=>#[rfl,I.turned (λb o hb e=>eb b o hb e) f0 f1 f3 f4 f5]
 self:=λ_ _ _ _ _ st h=>wpAny_pyIter_rangeiter st h
section
variable {X:Cx}{tg:Expr}
def Za{U:St}{lo hi:Int}(I:Inv X aki U H s)(h1:-(2 ^ 62)<=lo)(h2:lo<2 ^ 62)(h3:-(2 ^ 62)<=hi)(h4:hi<2 ^ 62)
 (q:R (Itr lo (hi-lo).toNat) H):wpAny (model X.prog X.w) X.A (pyIter (.ref s.heap.objs.size)) (PIE X aki U tg R) E { s with heap:=s.heap.push { cls:=.type "range",data:=.fields (List.toArray [.int lo t,.int hi u,.int 1 v]) },toks:=tk }:=by
 show wpAny_pyIter_range (IsRange.new ..) (small_one h1 h2 h3 h4) ?_;have I1:Inv X aki U H { s with heap:=s.heap.push { cls:=.type "range",data:=.fields (List.toArray [.int lo t,.int hi u,.int 1 v]) },toks:=tk }:=I.kept λb o e=>abj _ e;show#[(s.heap.push { cls:=.type "range",data:=.fields (List.toArray [.int lo t,.int hi u,.int 1 v]) }).objs.size,[(s.heap.push { cls:=.type "range",data:=.fields (List.toArray [.int lo t,.int hi u,.int 1 v]) }).objs.size],_,_,H,rfl,
  I1.kept λb o e=>abj _ e,U9 _ lo (hi-lo).toNat,?_,λb hb=>?_,q]
 . have e1:lo+((0:Nat):Int)*1=lo:=by simp
   have e2:(((hi-lo).toNat:Nat):Int)-((0:Nat):Int)=Builtin.Range.rangeSize lo hi 1:=by rw[rangeSize_one];split<;>lia
   rw[e1,e2];show aga _ rfl
 . have e:b=(s.heap.push { cls:=.type "range",data:=.fields (List.toArray [.int lo t,.int hi u,.int 1 v]) }).objs.size:=by simpa using hb
   subst e;show I1.fpOk (aa0 _) (I1.hok.fresh (aa0 _))
def afq(ta:TA):TI:=λU H R=>ta U H λvs H1=>∃j:Int,vs=[.int j]/\-(2 ^ 62)<=j/\j<2 ^ 62/\R (Itr 0 j.toNat) H1
def Wy(hg:Gl X "range")(hm:X.mg "range"=none)(ha:PA X [a] ta)(hs:starEach [a] X.env=[(false,eval a X.env)]:=by rfl):PI X tg (.Call (.Name "range" p) [a] [] pos) (afq ta):=by
 intro aki s U H R I h;show Call_ (wN I hg hm boot_range (PyProof.Rows.callWith_type1 (cP (ha pos aki s U H _ I h) λus s1 z18=>?_) hs rfl));let(vs,H1,I1,r1,q1):=z18;let(j,e,q1,q2,q):=q1;subst e;cases r1 with
 |cons r rr=>
  cases rr;let(t,rfl):=r;show call_range_1 (Za I1 () () q1 q2 ∅)
def agt(wi:TI)(g:TG)(tb:TS):TS:=λD U H=>wi U H λJ H1=>∃W:Nat->Nat->St->Hp->Prop,(∃m,W 0 m U H1)/\∀i m U H,W i m U H->
 (J.stop i H/\D.nx U H)\/(J.go i H/\∃N:St->Hp->Prop,(∀U' H',N U' H'->∃m',m'<m/\W (i+1) m' U' H')/\∀x H',J.yld i H x H'->g x U H' λU2 H2=>tb { D with nx:=N,ct:=N,bk:=D.nx } U2 H2)
def Dl(fp:List Addr)(h:Heap):List (Addr×Obj):=fp.filterMap λb=>(h.get? b).map λo=>(b,o)
def Bk(hb:b∈fp)(e:h.get? b=!o):(b,o)∈Dl fp h:=ag8.mpr #[b,hb,by rw[e];rfl]
def Wz(hp:p∈Dl fp h):p.1∈fp/\h.get? p.1=!p.2:=by
 let(b,hb,e):=ag8.mp hp;cases q:h.get? b with
 |none=>lia
 |some o=>
  lia
def Inv.pinned{U:St}(I:Inv X aki U H s)(hf:∀b∈fp,rB X aki H b)(ho:∀b∈fp,∃o,s.heap.get? b=!o/\∀v,o.data≠.cell v):Inv X (aki++Dl fp s.heap) U H s:=
 I.pins_of λp hp=>(adY.mp hp).elim (λz=>I.pin p (agi _ z)) λz=>by let(hb,e):=Wz z;let(f0,f1,f2,_):=hf p.1 hb;lia
def Inv.unpinned{U:St}(I:Inv X (aki++pl) U H s):Inv X aki U H s:=I.pins_of λp hp=>I.pin p (agi _ (agW _ hp))
def adx(hp:PassesOwn (model X.prog X.w) X.A X.env X.xe)(hc:X.calm=true)(hi:PI X tg iter wi)(hg:PG X tg g)(hb:kZ X body tb)
 (hs:∀x,foldedSetIterable iter X.env x=pure x:=by intro _;rfl):PS X (.For tg iter body [] pos) (agt wi g tb):=by
 intro aki s U H D I h;show wpAny_For (cP (hi aki s U H _ I h) λv s1 h1=>cP h1 λitv s2 h2=>?_) hs;let(it,fp,tn,J,H2,e,I2,T,st2,f2,W,(m0,w0),turn):=h2;subst e;have stat:∀{H':Hp},(∀b∈fp,H' b=none)->∀b∈fp,rB X aki H' b:=λhn b hb=>#[hn b hb,(f2 b hb).2];show codeAny_forLoop_any (λn s'=>∃i U' H',Inv X aki U' H' s'/\tn i s'.heap/\(∀b∈fp,H' b=none)/\W i n U' H') ?_ m0 #[0,U,H2,I2,st2,λb hb=>(f2 b hb).1,w0];rintro n s3 ⟨i,U3,H3,I3,st3,fr3,w3⟩;obtain⟨stop,qn⟩|⟨go,N,hN,step⟩:=turn i n U3 H3 w3
 . show wpAny_passesOwn hp (cP (T.done X rfl rfl rfl hc i aki s3 U3 H3 X.xe I3 (stat fr3) st3 stop) λr s4 z19=>?_);let(hr,I4):=z19;subst hr;show wpAny_execs_nil #[U3,H3,I4,qn]
 . show wpAny_passesOwn hp (cP (T.item X rfl rfl rfl hc i aki s3 U3 H3 X.xe I3 (stat fr3) st3 go) λr s4 z20=>?_);let(u,hr,h4):=z20;subst hr;show wpAny_passesOwn hp (cP h4 λ_ s5 z21=>?_);let(x,H5,I5,r5,y5,st5,fr5):=z21;have I5':=I5.pinned (stat fr5) (T.obj _ _ st5);show wpAny_passesOwn hp (cP (hg _ s5 U3 H5 x u _ I5' r5 (step x H5 y5)) λ_ s6 z22=>?_);let(U6,H6,I6,q6):=z22;show wpAny_passesOwn hp (cP (hb _ s6 U6 H6 _ I6 q6) λf s7 q7=>?_);have again:∀{U7:St} {H7:Hp},Inv X (aki++Dl fp s5.heap) U7 H7 s7->N U7 H7->∃m,m<n/\∃i U' H',Inv X aki U' H' s7/\tn i s7.heap/\(∀b∈fp,H' b=none)/\W i m U' H':=λ{U7 H7} I7 n7=>by let(m',hm,w7):=hN U7 H7 n7;show#[m',hm,i+1,U7,H7,I7.unpinned,T.keep _ _ _ st5 λb hb o e=>(I7.pin (b,o) (agi _ (agi _ (Bk hb e)))).1,λb hb=>?_,w7];let(o,e,d):=T.obj _ _ st5 b hb;show(I7.pin (b,o) (agi _ (agi _ (Bk hb e)))).2.1
   cases f with
   |next=>let(U7,H7,I7,n7):=q7;show again I7 n7
   |cont=>let(U7,H7,I7,n7):=q7;show again I7 n7
   |brk=>let(U7,H7,I7,q7):=q7;show#[U7,H7,I7.unpinned,q7]
   |ret v=>let(x7,U7,H7,I7,r7,q7):=q7;show#[x7,U7,H7,I7.unpinned,r7,q7]
end
abbrev R2:=V->V->Hp->VK->Prop
def iB(X:Cx)(f:Value->Value->Sem Value)(r:R2):Prop:=
 ∀(aki:List (Addr×Obj))(s:Shared)(U:St)(H:Hp)(x y:V)(v u:Value)(Q:VK),Inv X aki U H s->RelV x v->RelV y u->r x y H Q->
  wpAny (model X.prog X.w) X.A (f v u) (EP X aki U Q) X.xe s
def UnR(X:Cx)(f:Value->Sem Value)(r:V->Hp->VK->Prop):Prop:=
 ∀(aki:List (Addr×Obj))(s:Shared)(U:St)(H:Hp)(x:V)(v:Value)(Q:VK),Inv X aki U H s->RelV x v->r x H Q->
  wpAny (model X.prog X.w) X.A (f v) (EP X aki U Q) X.xe s
def uP(X:Cx)(f:Value)(r:List V->Hp->VK->Prop):Prop:=
 ∀(aki:List (Addr×Obj))(s:Shared)(U:St)(H:Hp)(xs:List V)(us:List Value)(Q:VK),Inv X aki U H s->Vals xs us->r xs H Q->
  wpAny (model X.prog X.w) X.A (call f us) (EP X aki U Q) X.xe s
def agu(X:Cx)(r:V->Hp->(Bool->Hp->Prop)->Prop):Prop:=
 ∀(aki:List (Addr×Obj))(s:Shared)(U:St)(H:Hp)(x:V)(v:Value)(Q:Bool->Hp->Prop),Inv X aki U H s->RelV x v->r x H Q->
  wpAny (model X.prog X.w) X.A (truthy v) (TP X aki U Q) X.xe s
def R7(r:R2)(ta tb:TE):TE:=λU H Q=>ta U H λx H1=>tb U H1 λy H2=>r x y H2 Q
def tUn(r:V->Hp->VK->Prop)(ta:TE):TE:=λU H Q=>ta U H λx H1=>r x H1 Q
def rI(C:Int->Int->Prop)(g:Int->Int->V):R2:=λx y H Q=>∃i j,x=.int i/\y=.int j/\C i j/\Q (g i j) H
def zu(g:Int->Int->V):R2:=λx y H Q=>∃i j,x=.int i/\y=.int j/\Q (g i j) H
def rU(g:Int->V):V->Hp->VK->Prop:=λx H Q=>∃i,x=.int i/\Q (g i) H
section
variable {X:Cx}{a b c:Expr}{ta tb tc:TE}{pos:Pos}
def Zb(ha:PE X a ta)(hb:PE X b tb){U:St}{R:V->V->Hp->Prop}(I:Inv X aki U H s)
 (h:ta U H λx H1=>tb U H1 λy H2=>R x y H2) {f:Value->Value->Sem Value}
 (hf:∀v u s2 x y H2,Inv X aki U H2 s2->RelV x v->RelV y u->R x y H2->wpAny (model X.prog X.w) X.A (f v u) Q X.xe s2):
 wpAny (model X.prog X.w) X.A (eval a X.env) (λv s₁=>wpAny (model X.prog X.w) X.A (eval b X.env) (λu s₂=>wpAny (model X.prog X.w) X.A (f v u) Q X.xe s₂) X.xe s₁) X.xe s:=by
 show cP (ha aki s U H _ I h) λv s1 z23=>?_;let(x,H1,I1,r1,q1):=z23;show cP (hb aki s1 U H1 _ I1 q1) λu s2 z24=>?_;let(y,H2,I2,r2,q2):=z24;show hf v u s2 x y H2 I2 r1 r2 q2
def afr(ho:iB X (binaryOp op) r)(ha:PE X a ta)(hb:PE X b tb):PE X (.BinOp a op b pos) (R7 r ta tb):=by intro aki s U H Q I h;show wpAny_BinOp (Zb ha hb I h λv u s2 x y H2 I2 rx ry q=>ho aki s2 U H2 x y v u Q I2 rx ry q)
def afs(ho:UnR X (unaryOp op) r)(ha:PE X a ta):PE X (.UnaryOp op a pos) (tUn r ta):=by intro aki s U H Q I h;show UnaryOp_ (cP (ha aki s U H _ I h) λv s1 z25=>by let(x,H1,I1,r1,q1):=z25;show ho aki s1 U H1 x v Q I1 r1 q1)
def WD{g:Int->Int->Int}
 (rule:∀(i j:Int)(t u:Tok)(s:Shared)(Q:Value->Shared->Prop)(E:Value->Shared->Prop),C i j->Q (.int (g i j) s.toks) { s with toks:=s.toks+1 }->wpAny (model X.prog X.w) X.A (f (.int i t) (.int j u)) Q E s):
 iB X f (rI C λi j=>.int (g i j)):=by
 intro aki s U H x y v u Q I rx ry h;let(i,j,rfl,rfl,hc,q):=h;let(t,rfl):=rx;let(t',rfl):=ry;show rule i j t t' s _ _ hc #[.int (g i j),H,I.tok _,#[_,rfl],q]
def adz{g:Int->Int->Int}
 (rule:∀(i j:Int)(t u:Tok)(s:Shared)(Q:Value->Shared->Prop)(E:Value->Shared->Prop),Q (.int (g i j) s.toks) { s with toks:=s.toks+1 }->wpAny (model X.prog X.w) X.A (f (.int i t) (.int j u)) Q E s):
 iB X f (zu λi j=>.int (g i j)):=by
 intro aki s U H x y v u Q I rx ry h;let(i,j,rfl,rfl,q):=h;let(t,rfl):=rx;let(t',rfl):=ry;show rule i j t t' s _ _ #[.int (g i j),H,I.tok _,#[_,rfl],q]
def Zc{g:Int->Int->Bool}
 (rule:∀(i j:Int)(t u:Tok)(s:Shared)(Q:Value->Shared->Prop)(E:Value->Shared->Prop),Q (.bool (g i j)) s->wpAny (model X.prog X.w) X.A (f (.int i t) (.int j u)) Q E s):
 iB X f (zu λi j=>.bl (g i j)):=by
 intro aki s U H x y v u Q I rx ry h;let(i,j,rfl,rfl,q):=h;let(t,rfl):=rx;let(t',rfl):=ry;show rule i j t t' s _ _ #[.bl (g i j),H,I,rfl,q]
def adA(i j:Int):Prop:=0<j/\j<1073741824
def adB(i j:Int):Prop:=0<=j/\j<=1000000/\i.natAbs<2 ^ 64
def Va(i j:Int):Prop:=(-(2 ^ 64)<i/\i<2 ^ 64)\/(-(2 ^ 64)<j/\j<2 ^ 64)
def Va.ok(h:Va i j):IntMulOk i j:=by
 obtain⟨h1,h2⟩|⟨h1,h2⟩:=h
 . show .of_left (intBits_le_64 h1 h2)
 . show .of_right (intBits_le_64 h1 h2)
def adC:iB X (binaryOp .Add) (zu λi j=>.int (i+j)):=adz λ_ _ _ _ _ _ _ q=>add_int q
def HQ:iB X (binaryOp .Sub) (zu λi j=>.int (i-j)):=adz λ_ _ _ _ _ _ _ q=>sub_int q
def gP:iB X (binaryOp .Mult) (rI Va λi j=>.int (i*j)):=WD λ_ _ _ _ _ _ _ hc q=>mul_int q hc.ok
def wy:iB X (binaryOp .FloorDiv) (rI adA λi j=>.int (i/j)):=WD λi j _ _ _ _ _ hc q=>by have h1:(0:Int)<j:=hc.1;have h2:j<1073741824:=hc.2;show floordiv_int () (by rw[Int.fdiv_eq_ediv_of_nonneg i ()];show q) (.inl (PyProof.noPylong_small ()))
def bD:iB X (binaryOp .Mod) (rI (λ_ j=>0<j) λi j=>.int (i%j)):=WD λi j _ _ _ _ _ hc q=>by have h1:(0:Int)<j:=hc;show mod_int' () (by rw[Int.fmod_eq_emod_of_nonneg i ()];show q)
def WF:iB X (binaryOp .Pow) (rI adB λi j=>.int (i ^ j.toNat)):=WD λ_ _ _ _ _ _ _ hc q=>pow_int_small hc.1 hc.2.1 hc.2.2 q
def unI{g:Int->Int}
 (rule:∀(i:Int)(t:Tok)(s:Shared)(Q:Value->Shared->Prop)(E:Value->Shared->Prop),Q (.int (g i) s.toks) { s with toks:=s.toks+1 }->wpAny (model X.prog X.w) X.A (f (.int i t)) Q E s):
 UnR X f (rU λi=>.int (g i)):=by
 intro aki s U H x v Q I rx h;let(i,rfl,q):=h;let(t,rfl):=rx;show rule i t s _ _ #[.int (g i),H,I.tok _,#[_,rfl],q]
def adD:UnR X (unaryOp .USub) (rU λi=>.int (-i)):=unI λ_ _ _ _ _ q=>neg_int q
end
noncomputable def scal:V->V->Bool
 |.non,.non=>true |.non,.int _=>true |.int _,.non=>true |.non,.bl _=>true |.bl _,.non=>true |.non,.str _=>true |.str _,.non=>true
 |.int _,.int _=>true |.bl _,.bl _=>true |.str _,.str _=>true |.byt _,.byt _=>true
 |.int _,.str _=>true |.str _,.int _=>true |.bl _,.str _=>true |.str _,.bl _=>true
 |_,_=>false
section
variable {X:Cx}{a b c:Expr}{ta tb tc:TE}{pos:Pos}
def WK{U:St}(I:Inv X aki U H s)(q:Q (.bl k) H)(e:k=k'):EP X aki U Q (.bool k') s:=by subst e;show#[.bl k,H,I,rfl,q]
def Bl:iB X (compareOp .Lt) (zu λi j=>.bl (decide (i<j))):=Zc λ_ _ _ _ _ _ _ q=>lt_int q
def Vb:iB X (compareOp .LtE) (zu λi j=>.bl (decide (i<=j))):=Zc λ_ _ _ _ _ _ _ q=>le_int q
def vR:iB X (compareOp .Gt) (zu λi j=>.bl (decide (j<i))):=Zc λ_ _ _ _ _ _ _ q=>gt_int q
def WL:iB X (compareOp .In) (λx y H Q=>∃i j,x=.str i/\y=.str j/\Q (.bl (not (Builtin.Str.occurrences j i 0 j.length 1).isEmpty)) H):=by intro aki s U H x y v u Q I rx ry h;let(i,j,rfl,rfl,q):=h;let(t,rfl):=rx;let(t',rfl):=ry;show in_str (WK I q rfl)
def HR:iB X (compareOp .Is) (λx y H Q=>y=.non/\Q (.bl (decide (x=.non))) H):=by
 intro aki s U H x y v u Q I rx ry h;let(rfl,q):=h;cases ry;show is_none_gen (WK I q ?_);cases x<;>first
  |(cases rx;rfl)
  |(let(t,rfl):=rx;rfl)
def iB.or(h:iB X f r)(h':iB X f r'):iB X f (λx y H Q=>r x y H Q\/r' x y H Q):=by
 intro aki s U H x y v u Q I rx ry q;obtain q|q:=q
 . show h aki s U H x y v u Q I rx ry q
 . show h' aki s U H x y v u Q I rx ry q
def aX(b:Expr)(h:op≠.In:=by decide)(h2:op≠.NotIn:=by decide):behindInMarks op b=false:=by
 have e1:(op==CmpOp.In)=false:=by cases op<;>first |rfl |show absurd rfl h
 have e2:(op==CmpOp.NotIn)=false:=by cases op<;>first |rfl |show absurd rfl h2
 cases b<;>simp[behindInMarks,e1,e2]
def abQ(ho:iB X (compareOp op) r)(ha:PE X a ta)(hb:PE X b tb)(hm:behindInMarks op b=false):PE X (.Compare a [op] [b] pos) (R7 r ta tb):=by intro aki s U H Q I h;show wpAny_Compare1 (Zb ha hb I h λv u s2 x y H2 I2 rx ry q=>ho aki s2 U H2 x y v u Q I2 rx ry q) hm
def Vc(t:TE):TT:=λU H Q=>t U H λx H'=>∃k,x=.bl k/\Q k H'
def R8(ho:iB X (compareOp op) r)(ha:PE X a ta)(hb:PE X b tb)(hm:behindInMarks op b=false):PT X (.Compare a [op] [b] pos) (Vc (R7 r ta tb)):=by
 intro aki s U H Q I h;show wpAny_isTrue_Compare1 (cP (ha aki s U H _ I h) λv s1 ⟨x,H1,I1,r1,q1⟩=>cP (hb aki s1 U H1 _ I1 q1) λu s2 ⟨y,H2,I2,r2,q2⟩=>
  cP (ho aki s2 U H2 x y v u _ I2 r1 r2 q2) λc s3 ⟨z,H3,I3,r3,k,e,q3⟩=>?_) hm
 subst e;cases r3;show wpAny_truthy_bool #[H3,I3,q3]
def Oi(r r':R2)(ta tb tc:TE):TE:=λU H Q=>ta U H λx H1=>tb U H1 λy H2=>r x y H2 λz H3=>∃k,z=.bl k/\
 (if k=true then tc U H3 λw' H4=>r' y w' H4 Q else Q (.bl false) H3)
def Zd(ho:iB X (compareOp op) r)(ho':iB X (compareOp op') r')(ha:PE X a ta)(hb:PE X b tb)(hc:PE X c tc)
 (hm:lastMarks [op,op'] [b,c]=false:=by with_unfolding_all rfl):PE X (.Compare a [op,op'] [b,c] pos) (Oi r r' ta tb tc):=by
 intro aki s U H Q I h;show Compare_chain (cP (ha aki s U H _ I h) λv s1 ⟨x,H1,I1,r1,q1⟩=>chain_link (cP (hb aki s1 U H1 _ I1 q1) λu s2 ⟨y,H2,I2,r2,q2⟩=>
  cP (ho aki s2 U H2 x y v u _ I2 r1 r2 q2) λd s3 ⟨z,H3,I3,r3,k,e,q3⟩=>?_)) hm
 subst e;cases r3;show wpAny_truthy_bool ?_;cases k with
 |false=>show ite_ff #[.bl false,H3,I3,rfl,q3]
 |true=>show ite_tt (chain_last (cP (hc aki s3 U H3 _ I3 q3) λw' s4 ⟨z',H4,I4,r4,q4⟩=>ho' aki s4 U H4 y z' u w' Q I4 r2 r4 q4))
def Ze(ho:iB X (compareOp op) r)(ho':iB X (compareOp op') r')(ha:PE X a ta)(hb:PE X b tb)(hc:PE X c tc)
 (hm:lastMarks [op,op'] [b,c]=false:=by with_unfolding_all rfl):PT X (.Compare a [op,op'] [b,c] pos) (Vc (Oi r r' ta tb tc)):=by
 intro aki s U H Q I h;show isTrue_chain (cP (ha aki s U H _ I h) λv s1 ⟨x,H1,I1,r1,q1⟩=>test_link (cP (hb aki s1 U H1 _ I1 q1) λu s2 ⟨y,H2,I2,r2,q2⟩=>
  cP (ho aki s2 U H2 x y v u _ I2 r1 r2 q2) λd s3 ⟨z,H3,I3,r3,k,e,q3⟩=>?_)) hm
 subst e;cases r3;show wpAny_truthy_bool ?_;cases k with
 |false=>
  let(k',e',q'):=q3;cases e';show ite_ff #[H3,I3,q']
 |true=>
  show ite_tt (test_last (cP (hc aki s3 U H3 _ I3 q3) λw' s4 ⟨z',H4,I4,r4,q4⟩=>cP (ho' aki s4 U H4 y z' u w' _ I4 r2 r4 q4) λd' s5 ⟨z2,H5,I5,r5,k2,e2,q5⟩=>?_));subst e2;cases r5;show wpAny_truthy_bool #[H5,I5,q5]
def Zf(K:FG)(x:V)(H:Hp)(k:Bool):Prop:=
 match x with
 |.non=>k=false
 |.bl b=>k=b
 |.int i=>k=(i != 0)
 |.str y=>y.length<=sizeLine/\k=((y.length:Int) != 0)
 |.byt y=>y.size<=sizeLine/\k=((y.size:Int) != 0)
 |.ref p=>(∃xs,cW K H p xs/\k=not xs.isEmpty)\/(∃xs,dR K H p xs/\k=not xs.isEmpty)\/∃kvs,H p=!(.dK kvs)/\k=not kvs.isEmpty
 |_=>False
def Vd(r:KV kvs vs):(not vs.isEmpty)=not kvs.isEmpty:=by cases r<;>rfl
def HS(r:Vals xs its):(not its.toArray.isEmpty)=not xs.isEmpty:=by cases r<;>simp
def zx:(sizeLine:Nat)<2 ^ 63:=by  decide
def adE:agu X (λx H Q=>∃k,Zf X.K x H k/\Q k H):=by
 intro aki s U H x v Q I rx h;let(k,e,q):=h;have hs:=sizeLine_eq;cases x with
 |non=>
  cases rx;have e':=e;subst e';show truthy_none #[H,I,q]
 |bl b=>
  cases rx;have e':=e;subst e';show wpAny_truthy_bool #[H,I,q]
 |int i=>
  let(t,rfl):=rx;have e':=e;subst e';show PySem.P.truthy_int #[H,I,q]
 |str y=>
  let(t,rfl):=rx;obtain⟨hy,e'⟩:y.length<=sizeLine/\k=((y.length:Int) != 0):=e;subst e';show PySem.P.truthy_str () #[H,I.tok _,q]
 |byt y=>
  let(t,rfl):=rx;obtain⟨hy,e'⟩:y.size<=sizeLine/\k=((y.size:Int) != 0):=e;subst e';show W.truthy_bytes () #[H,I.tok _,q]
 |ref p=>
  cases rx;have e':=e;obtain⟨xs,hx,e'⟩|⟨xs,hx,e'⟩|⟨kvs,hx,e'⟩:=e'
  . subst e';let(its,r,pl,hz):=I.list hx;have hlen:=r.length;show wpAny_truthy_list pl.isList ∅ #[H,I.tok _,by rw[HS r];show q]
  . subst e';let(its,r,pl,hz):=I.tuple hx;have hlen:=r.length;show truthy_tuple pl ∅ #[H,I.tok _,by rw[HS r];show q]
  . subst e';obtain⟨hz,hS,vs,r,m⟩:kvs.length<=sizeLine/\(p==sysModules)=false/\∃vs,KV kvs vs/\s.heap.DictOf (fH X.prog X.w) p vs:=I.hok p _ hx;have hlen:=Paired.length r;show wpAny_truthy_dict hS m () #[H,I.tok _,by rw[Vd r];show q]
 |_=>show(e).elim
def Oj(ha:PE X a ta)(he:∀whole,isTrue a X.env whole=(do let v <-whole;standAt a.pos;holding [v] (truthy v))):
 PT X a (λU H Q=>ta U H λx H'=>∃k,Zf X.K x H' k/\Q k H'):=by
 intro aki s U H Q I h;show isTrue_plain (cP (ha aki s U H _ I h) λv s1 z26=>by let(x,H1,I1,r1,q1):=z26;show adE aki s1 U H1 x v Q I1 r1 q1) (he _)
def Ve:iB X (binaryOp .Add) (λx y H Q=>∃i j,x=.str i/\y=.str j/\i.length+j.length<=sizeLine/\Q (.str (i++j)) H):=by intro aki s U H x y v u Q I rx ry h;let(i,j,rfl,rfl,hz,q):=h;let(t,rfl):=rx;let(t',rfl):=ry;show add_str (λt' tk=>#[.str (i++j),H,I.tok _,#[_,rfl],q]) hz
def vals1(r:Vals [x] us):∃u,us=[u]/\RelV x u:=by
 cases r with
 |cons r1 r2=>cases r2;show#[_,rfl,r1]
def vals2(r:Vals [x,y] us):∃u w',us=[u,w']/\RelV x u/\RelV y w':=by
 cases r with
 |cons r1 r2=>
  cases r2 with
  |cons r3 r4=>cases r4;show#[_,_,rfl,r1,r3]
def Lj(hc:X.calm=true):uP X (.builtin "max") (λxs H Q=>∃i j,xs=[.int i,.int j]/\Q (.int (if j>i then j else i)) H):=by
 intro aki s U H xs us Q I r h;let(i,j,rfl,q):=h;let(u,w',rfl,(t,rfl),(t',rfl)):=vals2 r;show max_two_ints (I.ok.hd hc) λh' tk k=>#[_,H,I.kept k,?_,q];by_cases hj:j>i
 . rw[aic hj,aic hj];show#[_,rfl]
 . rw[aid hj,aid hj];show#[_,rfl]
def Zg(K:FG)(x:V)(H:Hp)(n:Nat):Prop:=
 match x with
 |.str y=>y.length<=sizeLine/\n=y.length
 |.byt y=>y.size<=sizeLine/\n=y.size
 |.ref p=>(∃xs,cW K H p xs/\n=xs.length)\/∃xs,dR K H p xs/\n=xs.length
 |_=>False
def cX:uP X (.builtin "len") (λxs H Q=>∃x n,xs=[x]/\Zg X.K x H n/\Q (.int n) H):=by
 intro aki s U H xs us Q I r h;let(x,n,rfl,e,q):=h;let(u,rfl,rx):=vals1 r;have hs:=sizeLine_eq;cases x with
 |str y=>
  let(t,rfl):=rx;obtain⟨hy,e'⟩:y.length<=sizeLine/\n=y.length:=e;subst e';show len_str () #[.int _,H,I.tok _,#[_,rfl],q]
 |byt y=>
  let(t,rfl):=rx;obtain⟨hy,e'⟩:y.size<=sizeLine/\n=y.size:=e;subst e';show W.len_bytes () #[.int _,H,I.tok _,#[_,rfl],q]
 |ref p=>
  cases rx;have e':=e;obtain⟨xs,hx,e'⟩|⟨xs,hx,e'⟩:=e'
  . subst e';let(its,r',pl,hz):=I.list hx;have hlen:=r'.length;show Calls.call_len_list pl.isList ∅ #[.int xs.length,H,I.tok _,#[_,by simp only[adW];rw[hlen]],q]
  . subst e';let(its,r',pl,hz):=I.tuple hx;have hlen:=r'.length;show len_tuple pl ∅ #[.int xs.length,H,I.tok _,#[_,by simp only[adW];rw[hlen]],q]
 |_=>show(e).elim
end
structure GJ(h:Heap)(x dx C:Addr)(mA:Str->Option Value):Prop where
 obj:h.get? x=!(W.instObj C dx)
 ns:h.Ns1 dx mA
 ne:dx≠x
def WM{h:Heap}(n:h.Ns1 dx mA):∃od,h.get? dx=!od/\∀name,W.lookIn name od=!(mA name):=by
 let(o,es,ep,ho,hd,hk,_,hm):=n;show#[o,ho,λname=>?_];have e:=hm name;unfold nsFind findBy at e;rw[<-Array.find?_toList]at e;unfold W.lookIn;rw[hd];dsimp only;split
 . lia
 . rename_i q;rw[q]at e;have a:es.toList.any (·.refKey)=false:=by rw[List.any_eq_false];intro y hy;let(z,t,hkey):=hk y ∅;simp[DictEntry.refKey,hkey]
   have a':¬ es.toList.any (·.refKey)=true:=by rw[a];show agV
   lia
def GJ.look(I:GJ h x dx C mA):∃od,W.InstAt h x (W.instObj C dx) C (!od)/\∀name,W.lookIn name od=!(mA name):=
 let #[od,ho,hl]:=WM I.ns
 #[od,#[I.obj,rfl,rfl,ho],hl]
section
variable {prog:Program}{w:World}{A:Around}{E:Value->Shared->Prop}{s:Shared}{K:FG}{x dx C f:Addr}{mA:Str->Option Value}{name:Str}{v:Value}
def abR(X:K.In s.heap)(I:GJ s.heap x dx C mA)(hg:W.plainGet K C name=true)(hh:W.hasDictIn K C=true)
 (ha:W.findIn K (.ref C) name=!none) (hv:mA name=!v) (hv':W.handedIn v=true) (h:Q v { s with toks:=s.toks+1 }):
 wpAny (model prog w) A (getAttr (.ref x) name expr) Q E s:=by
 let(od,J,hl):=I.look;show W.get_value X J (W.plainGet_of hg).1 (W.findObj_own hh ha rfl ∅) hv' h
def Zh(X:K.In s.heap)(I:GJ s.heap x dx C mA)(hg:W.plainGet K C name=true)
 (hf:W.findIn K (.ref C) name=!(!(.ref f))) (ht:W.isFn K (.ref f)=true) (hv:mA name=none) (h:Q (.ref f,[.ref x]) s):
 wpAny (model prog w) A (getMethod (.ref x) name pl) Q E s:=by
 let(od,J,hl):=I.look;show W.method_fn X J (W.plainGet_of hg).1 (W.plainGet_of hg).2 hf (beq_iff_eq.mp ht) (by show (W.lookIn name od).map (·.isSome)=!false;rw[hl,hv];rfl) h
def abS(X:K.In s.heap)(I:GJ s.heap x dx C mA)
 (hs:W.findIn K (.ref C) "__setattr__"=!(!(.builtin "object.__setattr__"))) (hp:W.plainOver K C=true) (ht:W.takerIn K C name=!none) (hh:W.hasDictIn K C=true)
 (hw:PySem.Within mA ns) (hsz:ns.length<=sizeLine)
 (h:∀h',GJ h' x dx C (λy=>if y=name then !v else mA y)->Heap.SameBut dx s.heap h'->Q #[] { s with heap:=h',toks:=s.toks+2 }):
 wpAny (model prog w) A (setAttr (.ref x) name v) Q E s:=by
 let(od,J,hl):=I.look;show W.set_plain X J hs (W.osa_open X J hp ht λb=>?_);let(cd,hc,hd'):=W.any_some hh;have hx:=I.obj;show aib (aie (aib (aib (wpAny_loadPart hx (aib (W.Looks.here (W.looks_clsIn X hc) ?_))))));rw[hd'];show aie (aib (aie (aib ?_)));show wpAny_nsSet1 I.ns λh' hn2 hs2=>?_;let(oD,esD,epD,hoD,hdD,hcD):=hn2.count (PySem.Within.cons name v hw);show aib (wpAny_lookBehind hoD (by rw[hdD];show pastItsLine_dict ∅) ?_);show aie (h _ #[(hs2.2 _ (Ne.symm I.ne)).trans I.obj,hn2,I.ne] hs2)
def Zi(X:K.In s.heap)(hm:W.makesIn K C=true)
 (hi:W.findIn K (.ref C) "__init__"=!(!(.ref f))) (hf:W.typeIn K (.ref f)=!(.type "function"))
 (h:codeAny (model prog w) (A.under (.builtin "type.__call__" #[.ref C::vs,kw])) (.call (.ref f) #[.ref (s.heap.objs.size+1)::vs,kw]) (W.InitBack (s.heap.objs.size+1) R)
   { s with heap:=(s.heap.push W.emptyDict).push (W.instObj C s.heap.objs.size) }):
 codeAny (model prog w) A (.call (.ref C) #[vs,kw]) R s:=by
 show W.make_core (W.makes_of X hm) (W.looks_findIn X hi) (λself=>W.bind_fn X self hf) (.inl rfl) h
end
def lu(f:Str)(v:V):List (Str×V)->List (Str×V)
 |[]=>[(f,v)]
 |(g,x)::r=>if g=f then (g,v)::r else (g,x)::lu f v r
theorem Gg(f g:Str)(v:V):∀fs:List (Str×V),(lu f v fs).lookup g=if g=f then !v else fs.lookup g
 |[]=>by
  show List.lookup g [(f,v)]=_;by_cases h:g=f
  . lia
  . lia
 |(k,x)::r=>by
  have ih:=Gg f g v r;rw[show lu f v ((k,x)::r)=(if k=f then (k,v)::r else (k,x)::lu f v r) from rfl];by_cases hk:k=f
  . rw[aic hk];by_cases h:g=k
    . lia
    . lia
  . rw[aid hk];by_cases h:g=k
    . lia
    . lia
theorem Dm(f:Str)(v:V):∀fs:List (Str×V),f∈(lu f v fs).map (·.1)/\∀g,g∈fs.map (·.1)->g∈(lu f v fs).map (·.1)
 |[]=>#[by simp[lu],λg h=>by simp at h]
 |(k,x)::r=>by
  let(i1,i2):=Dm f v r;rw[show lu f v ((k,x)::r)=(if k=f then (k,v)::r else (k,x)::lu f v r) from rfl];by_cases hk:k=f
  . lia
  . rw[aid hk];show#[?_,λg h=>?_]
    . lia
    . obtain e|e:=abw.mp h
      . lia
      . lia
theorem Gh(f:Str)(v:V):∀fs:List (Str×V),(lu f v fs).length<=fs.length+1
 |[]=>by simp[lu]
 |(k,x)::r=>by
  have ih:=Gh f v r;rw[show lu f v ((k,x)::r)=(if k=f then (k,v)::r else (k,x)::lu f v r) from rfl];by_cases hk:k=f
  . rw[aic hk,aa9,aa9];lia
  . rw[aid hk,aa9,aa9];lia
def qD.some_of(r:qD (!v) o):∃u,o=!u/\RelV v u:=by
 cases o with
 |none=>show(r).elim
 |some u=>show#[u,rfl,r]
def qD.none_of(r:qD none o):o=none:=by
 cases o with
 |none=>rfl
 |some u=>show(r).elim
def WN(r:RelV v u):W.handedIn u=true:=by
 cases v with
 |non=>cases (r);rfl
 |bl b=>cases (r);rfl
 |int i=>let(t,e):=(r);cases e;rfl
 |str x=>let(t,e):=(r);cases e;rfl
 |byt b=>let(t,e):=(r);cases e;rfl
 |flt b=>let(t,e):=(r);cases e;rfl
 |ref a=>cases (r);rfl
 |ty n=>cases (r);rfl
section
variable {P:Program}{w:World}{H H':Hp}{h h':Heap}{a C dx:Addr}{fs fs':List (Str×V)}
def JX(hok:kj P w H h)(e:H a=!(.ins C dx fs)):∃mA,GJ h a dx C mA/\(∀f,qD (fs.lookup f) (mA f))/\PySem.Within mA (fs.map (·.1))/\fs.length<=1000/\H dx=!(.own a):=by let(d,z,ne,ob,mA,n,r,q):=(hok a _ e);show#[mA,#[ob,n,ne],r,q,z,d]
end
structure Dn(K:FG)(C:Addr):Prop where
 pg:W.plainGet K C Str.empty=true
 hd:W.hasDictIn K C=true
 po:W.plainOver K C=true
 sa:W.findIn K (.ref C) "__setattr__"=!(!(.builtin "object.__setattr__"))
def Dn.get{K:FG}(c:Dn K C)(f:Str):W.plainGet K C f=true:=c.pg
def mD(K:FG)(C:Addr)(f:Str):Prop:=W.findIn K (.ref C) f=!none
def mD.taker{K:FG}(n:mD K C f):W.takerIn K C f=!none:=by unfold W.takerIn;rw[show W.findIn K (.ref C) f=some none from n];rfl
structure Meth(K:FG)(C:Addr)(m:Str)(f:Addr):Prop where
 at_:W.findIn K (.ref C) m=!(!(.ref f))
 fn:W.isFn K (.ref f)=true
 kp:W.keepIn K (.ref f)=true
section
variable {X:Cx}{aki:List (Addr×Obj)}{U:St}{H:Hp}{s:Shared}{a C dx:Addr}{fs:List (Str×V)}{f:Str}{v:V}{A:Around}{E:Value->Shared->Prop}
def Vf(I:Inv X aki U H s)(e:H a=!(.ins C dx fs))(c:Dn X.K C)(n:mD X.K C f)(l:fs.lookup f=!v)
 (h:∀u s',Inv X aki U H s'->RelV v u->Q u s'):wpAny (model X.prog X.w) A (getAttr (.ref a) f b) Q E s:=by
 let(mA,O,r,_):=JX I.hok e;let(u,hu,ru):=qD.some_of (by rw[<-l];show r f);show abR I.kIn O (c.get f) c.hd n hu (WN ru) (h u _ (I.tok _) ru)
def Bo(I:Inv X aki U H s)(e:H a=!(.ins C dx fs))(c:Dn X.K C)(k:Meth X.K C m g)(l:fs.lookup m=none)
 (h:Q (.ref g,[.ref a]) s):wpAny (model X.prog X.w) A (getMethod (.ref a) m pl) Q E s:=by
 let(mA,O,r,_):=JX I.hok e;have hn:=qD.none_of (by rw[<-l];show r m);show Zh I.kIn O (c.get m) k.at_ k.fn hn h
def Vg(I:Inv X aki U H s)(e:H a=!(.ins C dx fs))(c:Dn X.K C)(n:mD X.K C f)(hl:fs.length<1000)(ry:RelV y u)
 (h:∀s',Inv X aki U (upd H a (.ins C dx (lu f y fs))) s'->Q #[] s'):wpAny (model X.prog X.w) A (setAttr (.ref a) f u) Q E s:=by
 let(mA,O,r,wi,_,ho):=JX I.hok e;have hz:(fs.map (·.1)).length<=sizeLine:=by rw[aaW,sizeLine_eq];lia
 show abS I.kIn O c.sa c.po n.taker c.hd wi hz λh' O' sb=>h _ ?_;have hd:∃o,h'.get? dx=!o:=let #[o,_,_,e',_]:=O'.ns;#[o,e'];show I.write (by rw[e];show True.intro) (.inr ho) (λb q hb z=>(sb.2 b hb).trans z) hd ?_;show#[by rw[dC O.ne];show ho,?_,O.ne,O'.obj,_,O'.ns,λg=>?_,λg hg=>?_]
 . have:=Gh f y fs;lia
 . rw[Gg];by_cases q:g=f
   . rw[aic q,aic q];show ry
   . lia
 . by_cases q:g=f
   . rw[q];show(Dm f y fs).1
   . show(Dm f y fs).2 g (wi g λz=>hg ?_);lia
def Inv.made(I:Inv X aki U H s):Inv X aki U (upd (upd H s.heap.objs.size (.own (s.heap.objs.size+1))) (s.heap.objs.size+1) (.ins C s.heap.objs.size []))
 { s with heap:=(s.heap.push W.emptyDict).push (W.instObj C s.heap.objs.size) }:=by
 have e1:(s.heap.push W.emptyDict).get? s.heap.objs.size=!W.emptyDict:=aga s.heap rfl;have e2:((s.heap.push W.emptyDict).push (W.instObj C s.heap.objs.size)).get? (s.heap.objs.size+1)=!(W.instObj C s.heap.objs.size):=by
  have:=aga (s.heap.push W.emptyDict) (o:=W.instObj C s.heap.objs.size) rfl
  rwa [ahw]at this
 have I1:=I.laid (o:=.own (s.heap.objs.size+1)) (t':=s.toks) (λb u q=>abj _ q) () #[_,e1];show I1.laid (λb u q=>abj _ q) (Nat.le_of_eq (ahw _ _)) ?_;have ne:s.heap.objs.size≠s.heap.objs.size+1:=agQ ();show#[by rw[dC ne,cQ],agY _,ne,e2,λ_=>none,(Heap.Ns1.of_empty #[W.emptyDict,(List.toArray []),_,e1,rfl,(λe he=>absurd he (by simp)),λ_=>rfl]).at λo q=>abj _ q,λ_=>True.intro,λy hy=>absurd rfl hy]
def abT(hb:attributeBase e f env (eval e env)=eval e env)
 (h:wpAny (model prog w) A (eval e env) (λo s₁=>wpAny (model prog w) A (getAttr o f true) Q E s₁) E s):wpAny (model prog w) A (eval (.Attribute e f pos) env) Q E s:=
 Attribute_any_ h (by rw[arm_eval_Attribute,hb])
end
def agv(K:FG)(ta:TE)(f:Str):TE:=λU H Q=>ta U H λx H1=>∃a C dx fs v,x=.ref a/\H1 a=!(.ins C dx fs)/\Dn K C/\mD K C f/\fs.lookup f=!v/\Q v H1
def agw(K:FG)(ta tv:TE)(f:Str):TS:=λD U H=>tv U H λy H1=>ta U H1 λx H2=>∃a C dx fs,x=.ref a/\H2 a=!(.ins C dx fs)/\Dn K C/\mD K C f/\fs.length<1000/\
 D.nx U (upd H2 a (.ins C dx (lu f y fs)))
section
variable {X:Cx}{o e value:Expr}{f:Str}{pos pos' tpos:Pos}{ta tv:TE}
def adF(he:PE X e ta)(hb:attributeBase e f X.env (eval e X.env)=eval e X.env):PE X (.Attribute e f pos) (agv X.K ta f):=by intro aki s U H Q I h;show abT hb (cP (he aki s U H _ I h) λu s1 z27=>?_);let(x,H1,I1,rx,a,C,dx,fs,v,ex,ea,c,n,l,q):=z27;subst ex;obtain rfl:u=Value.ref a:=rx;show Vf I1 ea c n l λu' s2 I2 ru=>#[v,H1,I2,ru,q]
def adG(ha:PE X o ta)(hv:PE X value tv)(hs:swapsWith value (!(.Attribute o f pos')) pos.line X.env=pure false):PS X (.Assign [.Attribute o f pos'] value pos) (agw X.K ta tv f):=by intro aki s U H D I h;show plainObj_wpAny_Assign_Attribute (cP (hv aki s U H _ I h) λu s1 z28=>?_) hs;let(y,H1,I1,ry,q):=z28;show cP (ha aki s1 U H1 _ I1 q) λov s2 z29=>?_;let(x,H2,I2,rx,a,C,dx,fs,ex,ea,c,n,l,q2):=z29;subst ex;obtain rfl:ov=Value.ref a:=rx;show Vg I2 ea c n l ry λs3 I3=>#[U,_,I3,q2]
def Zj:V->V->Hp->VK->Prop:=λx y H Q=>∃i j,x=.int i/\y=.int j/\Q (.int (i+j)) H
def afi{U:St}(he:PE X e te)(I:Inv X aki U H s)
 (h:te U H λx H1=>∃a C dx fs g,x=.ref a/\H1 a=!(.ins C dx fs)/\Dn X.K C/\Meth X.K C m g/\fs.lookup m=none/\
   ∀s1,Inv X aki U H1 s1->wpAny (model X.prog X.w) X.A (callWith pos (.ref g) [.ref a] (backTo pos (starEach args X.env)) (backToKw pos (keywordEach [] X.env))) Q X.xe s1)
 (ht:eval (.Call (.Attribute e m apos) args [] pos) X.env=(do
   let ov <-eval e X.env
   standAt apos.atName
   let (f,first) <-holding [ov] (getMethod ov m pl)
   callWith pos f first (backTo pos (starEach args X.env)) (backToKw pos (keywordEach [] X.env)))):
 wpAny (model X.prog X.w) X.A (eval (.Call (.Attribute e m apos) args [] pos) X.env) Q X.xe s:=by
 show ah9 (cP (he aki s U H _ I h) λu s1 z30=>?_) ht;let(x,H1,I1,rx,a,C,dx,fs,g,ex,ea,c,k,l,q):=z30
 subst ex
 obtain rfl:u=Value.ref a:=rx
 show Bo I1 ea c k l (q s1 I1)
end
section
variable {X:Cx}{aki:List (Addr×Obj)}{U:St}{H:Hp}{s:Shared}{A:Around}{E:Value->Shared->Prop}{Q:Value->Shared->Prop}{c:Value}{b:Bool}
end
structure iI(b:Bool)(k:Nat)(A:Around):Prop where
 hd:b=true->A.handled=none
 dp:A.depth+3*k+5<recursionLimit
 un:A.units+16*k+200<cLine
 gd:A.guards=![]
abbrev rC:=iI true
def iI.mono(r:iI b k A)(h:j<=k):iI b j A:=#[r.hd,by have:=r.dp;lia,by have:=r.un;lia,r.gd]
def iI.deeper(r:iI b (k+1) A)(env:Env):iI b k (A.deeper env):=
 #[r.hd,by have:=r.dp;show A.depth+1+3*k+5<_;lia,by have:=r.un;show A.units+3+16*k+200<_;lia,r.gd]
def Vh:(A.under (.builtin "type.__call__" #[.ref C::us,kw])).depth=A.depth+1:=by
 first |rfl |simp[Code.weight]
def Vi:(A.under (.builtin "type.__call__" #[.ref C::us,kw])).units=A.units+1:=by
 first |rfl |simp[Code.cUnits]
def iI.make(r:iI b (k+1) A)(C:Addr)(us:List Value)(kw:List (Str×Value)):iI b k (A.under (.builtin "type.__call__" #[.ref C::us,kw])):=
 #[r.hd,by have:=r.dp;rw[Vh];lia,by have:=r.un;rw[Vi];lia,by first |show r.gd |(simpa [Around.under,Code.isGuard,guardIds] using r.gd)]
def iI.depth(r:iI b k A):A.depth<recursionLimit:=by have:=r.dp;lia
def iI.units(r:iI b k A):A.units+64<cLine:=by have:=r.un;lia
def Ol:TA:=λ_ H Q=>Q [] H
def Eu(ta:TE)(tr:TA):TA:=λU H Q=>ta U H λx H1=>tr U H1 λxs H2=>Q (x::xs) H2
section
variable {X:Cx}{e:Expr}{es:List Expr}{te:TE}{t:TA}{pos:Pos}
def jx:PA X [] Ol:=λ_ _ _ _ H Q I h=>Calls.spliced_nil #[[],H,I,.nil,h]
def cT(ha:PE X e te)(hr:PA X es t)(hs:starEach (e::es) X.env=(false,eval e X.env)::starEach es X.env:=by rfl):PA X (e::es) (Eu te t):=by intro pos aki s U H Q I h;rw[hs];show Calls.spliced_cons (cP (ha aki s U H _ I h) λu s1 z31=>?_);let(x,H1,I1,r1,q1):=z31;show cP (hr pos aki s1 U H1 _ I1 q1) λus s2 z32=>by let(xs,H2,I2,r2,q2):=z32;show #[x::xs,H2,I2,.cons r1 r2,q2]
def adH(t:TA):TE:=λU H Q=>t U H λxs H1=>xs.length<=sizeLine/\∀p,H1 p=none->Q (.ref p) (upd H1 p (.tup xs))
def agx(t:TA):TE:=λU H Q=>t U H λxs H1=>xs.length<=sizeLine/\∀p,H1 p=none->Q (.ref p) (upd H1 p (.lst xs))
def WP{x1}(h:PA X es t):PE X (.Tuple es x1 pos) (adH t):=by intro aki s U H Q I hq;show wpAny_Tuple_spliced (cP (h pos aki s U H _ I hq) λus s1 z33=>?_);let(xs,H1,I1,r,z,q):=z33;show #[by rw[<-r.length];show z,?_];have hf:=I1.hok.fresh (aa0 _);show#[.ref s1.heap.objs.size,upd H1 s1.heap.objs.size (.tup xs),I1.laid (λb u e=>abj _ e) () ?_,rfl,q _ hf];show#[z,us,r,#[_,aga _ rfl,rfl,_,rfl]]
def adI(h:PA X es t):PE X (.List es pos) (agx t):=by intro aki s U H Q I hq;show wpAny_List_spliced (cP (h pos aki s U H _ I hq) λus s1 z34=>?_);let(xs,H1,I1,r,z,q):=z34;show #[by rw[<-r.length];show z,?_];have hf:=I1.hok.fresh (aa0 _);show#[.ref s1.heap.objs.size,upd H1 s1.heap.objs.size (.lst xs),I1.laid (λb u e=>abj _ e) () ?_,rfl,q _ hf];show#[z,us,0,r,aga _ rfl]
end
abbrev Sp:=List V->Hp->VK->XK->Prop
abbrev Df:=List Env->Hp->Shared->XK->Value->Shared->Prop
structure GK(P:Program)(w:World)(K:FG)(mg:Str->Option Value)(base:Heap)(A:Around)(outer:List Env)(s:Shared)(H:Hp):Prop where
 frames:A.frames=!outer
 mod:Mod K mg base
 bs:∀b o,base.get? b=!o->s.heap.get? b=!o/\H b=none
 bsz:base.objs.size<=s.heap.objs.size
 funs:s.heap.FunFrames base outer
 frf:∀b∈frs outer,H b=none
 hok:kj P w H s.heap
 bare:AllBare s.gens
def CE(outer:List Env)(P:Program)(w:World)(H:Hp)(s:Shared)(Q:VK)(u:Value)(s':Shared):Prop:=
 ∃v H',s'.os=s.os/\AllBare s'.gens/\Un (frs outer) [] H H' s.heap s'.heap/\kj P w H' s'.heap/\RelV v u/\Q v H'
def CR(CX:Df)(outer:List Env)(P:Program)(w:World)(H:Hp)(s:Shared)(Q:VK)(E:XK)(r:Result)(s':Shared):Prop:=
 match r with
 |.ok (.ret u)=>CE outer P w H s Q u s'
 |.ok _=>False
 |.error e=>CX outer H s E e s'
structure vU(b:Bool)(P:Program)(w:World)(K:FG)(mg:Str->Option Value)(base:Heap)(CX:Df)(k:Nat)(f:Addr)(fd:FuncData)(ps:List Str)(sp:Sp):Prop where
 len:∀vs H Q E,sp vs H Q E->vs.length=ps.length
 run:∀(A:Around)(outer:List Env)(s:Shared)(H:Hp)(args:Args)(us:List Value)(vs:List V)(Q:VK)(E:XK),iI b k A->GK P w K mg base A outer s H->BindsTo s fd args (ps.zip us)->Vals vs us->sp vs H Q E->
  codeAny (model P w) A (.call (.ref f) args) (CR CX outer P w H s Q E) s
abbrev rD:=vU true
def vU.imp{K:FG}(F:vU b P w K mg base CX k f fd ps sp)
 (h:∀vs H Q E,sp' vs H Q E->sp vs H Q E):vU b P w K mg base CX k f fd ps sp':=
 #[λvs H Q E q=>F.len vs H Q E (h _ _ _ _ q),λA outer s H args us vs Q E hr he hb hv hs=>F.run A outer s H args us vs Q E hr he hb hv (h _ _ _ _ hs)]
def GK.make{K:FG}(e:GK P w K mg base A outer s H)(C:Addr)(us:List Value)(kw:List (Str×Value)):
 GK P w K mg base (A.under (.builtin "type.__call__" #[.ref C::us,kw])) outer s H:=#[by first |show e.frames |(simpa [Around.under,Code.envs,Code.isFrame,pushEnvs] using e.frames),e.mod,e.bs,e.bsz,e.funs,e.frf,e.hok,e.bare]
section
variable {X:Cx}{aki:List (Addr×Obj)}{U:St}{H:Hp}{s s':Shared}
def Inv.env0(I:Inv X aki U H s):GK X.prog X.w X.K X.mg X.base X.A X.stack s H:=
 #[I.ok.frames,I.ok.mod,I.bs,agf I.ok.bsz I.sz,I.stack,I.stkFree,I.hok,I.bare]
def Inv.after(I:Inv X aki U H s)(h:CE X.stack X.prog X.w H s Q u s'):EP X aki U Q u s':=by let(v,H',os,bare,un,hok,r,q):=h;let(hh,g,d,t,os'):=s';obtain rfl:os'=s.os:=os;show#[v,H',I.call un hok bare (λb z=>absurd z (by simp)),r,q]
end
def Vj(sp:Sp)(dvs:List V)(E:XK)(t:TA):TE:=λU H Q=>t U H λvs H1=>sp (vs++dvs) H1 Q E
def Vk(C:Addr)(m:Str)(sp:Sp)(dvs:List V)(E:XK)(ta:TE)(t:TA):TE:=λU H Q=>ta U H λx H1=>∃a dx fs,x=.ref a/\H1 a=!(.ins C dx fs)/\fs.lookup m=none/\
 t U H1 λvs H2=>sp (x::(vs++dvs)) H2 Q E
def aaX(C:Addr)(sp:Sp)(dvs:List V)(E:XK)(t:TA):TE:=λU H Q=>t U H λvs H1=>∀x dx,H1 x=none->H1 dx=none->dx≠x->
 sp (.ref x::(vs++dvs)) (upd (upd H1 dx (.own x)) x (.ins C dx [])) (λv H2=>v=.non/\Q (.ref x) H2) E
def Binds(K:FG)(fd:FuncData)(ps:List Str)(ds:List Value):Prop:=
 ∀(s:Shared)(us:List Value),K.In s.heap->(us++ds).length=ps.length->BindsTo s fd #[us,[]] (ps.zip (us++ds))
def Binds.all{K:FG}(h:∀us:List Value,us.length=ps.length->bindArgs fd #[us,[]]=pure (ps.zip us)):Binds K fd ps []:=λs us _ hl=>by rw[abv]at hl ⊢;show .of_eq (h us hl)
def Do(CX:Df)(X:Cx)(E:XK):Prop:=∀(aki:List (Addr×Obj))(U:St)(H:Hp)(s:Shared)(e:Value)(s':Shared),Inv X aki U H s->CX X.stack H s E e s'->X.xe e s'
section
variable {X:Cx}{CX:Df}{k:Nat}{f C:Addr}{fd:FuncData}{ps:List Str}{sp:Sp}{dvs:List V}{ds:List Value}{E:XK}{x m:Str}{p pos apos:Pos}{e o:Expr}{es:List Expr}{ta:TE}{t:TA}
def Om{U:St}(F:vU b X.prog X.w X.K X.mg X.base CX k f fd ps sp)(hr:iI b k X.A)(hb:Binds X.K fd ps ds)(hd:Vals dvs ds)(hx:∀H s e s',Inv X aki U H s->CX X.stack H s E e s'->X.xe e s')
 (I:Inv X aki U H s) (r:Vals vs us) (h:sp (vs++dvs) H Q E):wpAny (model X.prog X.w) X.A (call (.ref f) us) (EP X aki U Q) X.xe s:=by
 have r2:=r.append hd;have hl:(us++ds).length=ps.length:=by rw[<-r2.length];show F.len _ _ _ _ h
 show wpAny_call (codeAny_mono (F.run X.A X.stack s H #[us,[]] (us++ds) (vs++dvs) Q E hr I.env0 (hb s us I.kIn hl) r2 h) λr s' hq=>?_);cases r with
 |error e=>show hx H s e s' I hq
 |ok fl=>
  cases fl with
  |ret u=>show I.after hq
  |next=>show False.elim hq
  |brk=>show False.elim hq
  |cont=>show False.elim hq
def R9(F:vU b X.prog X.w X.K X.mg X.base CX k f fd ps sp)(hr:iI b k X.A)(hg:Gl X x)(hm:X.mg x=!(.ref f))(hk:W.keepIn X.K (.ref f)=true)(hb:Binds X.K fd ps ds)(hd:Vals dvs ds)(hx:Do CX X E)
 (ha:PA X (e::es) t) (hdb:(x==("__debug__" : Str))=false:=by decide) (he:starEach (e::es) X.env=(false,eval e X.env)::starEach es X.env:=by rfl) (hpl:(backTo pos (starEach es X.env)).any (·.1)=false:=by rfl):
 PE X (.Call (.Name x p) (e::es) [] pos) (Vj sp dvs E t):=by
 intro aki s U H Q I h;show wpAny_Call_Name_kw (JW I hg hm ?_ hdb);show W.callWith_K I.ok.mod.kin hk (cP (ha pos aki s U H _ I h) λus s1 z35=>?_) he hpl;let(vs,H1,I1,r,q):=z35;show #[I1.kIn,?_];show Om F hr hb hd (hx _ _) I1 r q
def abU{pl:Sem Bool}(he:PE X o ta)(c:Dn X.K C)(hm:Meth X.K C m f)(F:rD X.prog X.w X.K X.mg X.base CX k f fd ps sp)(hr:rC k X.A)(hb:Binds X.K fd ps ds)(hd:Vals dvs ds)(hx:Do CX X E)(ha:PA X (e::es) t)
 (hst:starEach (e::es) X.env=(false,eval e X.env)::starEach es X.env:=by rfl) (hpl:(backTo pos (starEach es X.env)).any (·.1)=false:=by rfl)
 (ht:eval (.Call (.Attribute o m apos) (e::es) [] pos) X.env=(do
   let ov <-eval o X.env
   standAt apos.atName
   let (f,first) <-holding [ov] (getMethod ov m pl)
   callWith pos f first (backTo pos (starEach (e::es) X.env)) (backToKw pos (keywordEach [] X.env))):=by rfl):
 PE X (.Call (.Attribute o m apos) (e::es) [] pos) (Vk C m sp dvs E ta t):=by
 intro aki s U H Q I h
 show ah9 (pl:=pl) (cP (he aki s U H _ I h) λu s1 z36=>?_) ht;let(x,H1,I1,rx,a,dx,fs,ex,ea,l,q):=z36
 subst ex
 obtain rfl:u=Value.ref a:=rx
 show Bo I1 ea c hm l ?_
 show W.callWith_K (first:=[.ref a]) (h₀:=X.base) I.ok.mod.kin hm.kp (cP (ha pos aki s1 U H1 _ I1 q) λus s2 z37=>?_) hst hpl;let(vs,H2,I2,r,q2):=z37;show #[I2.kIn,?_]
 show Om (us:=.ref a::us) (vs:=.ref a::vs) F hr hb hd (hx _ _) I2 (.cons rfl r) q2
def Zk(he:PE X o ta)(c:Dn X.K C)(hm:Meth X.K C m f)(F:rD X.prog X.w X.K X.mg X.base CX k f fd ps sp)(hr:rC k X.A)(hb:Binds X.K fd ps ds)(hd:Vals dvs ds)(hx:Do CX X E)
 (ht:eval (.Call (.Attribute o m apos) [] [] pos) X.env=(do
   let ov <-eval o X.env
   standAt apos.atName
   let (f,first) <-holding [ov] (getMethod ov m pl)
   callWith pos f first (backTo pos (starEach [] X.env)) (backToKw pos (keywordEach [] X.env))):=by rfl):
 PE X (.Call (.Attribute o m apos) [] [] pos) (Vk C m sp dvs E ta Ol):=by
 intro aki s U H Q I h
 show ah9 (cP (he aki s U H _ I h) λu s1 z38=>?_) ht;let(x,H1,I1,rx,a,dx,fs,ex,ea,l,q):=z38
 subst ex
 obtain rfl:u=Value.ref a:=rx
 show Bo I1 ea c hm l ?_
 show W.callWith_K0 I1.kIn hm.kp (Om (vs:=[.ref a]) F hr hb hd (hx _ _) I1 (.cons rfl .nil) q)
structure Mk(K:FG)(C f:Addr):Prop where
 makes:W.makesIn K C=true
 init:W.findIn K (.ref C) "__init__"=!(!(.ref f))
 fn:W.isFn K (.ref f)=true
 kp:W.keepIn K (.ref C)=true
def Zm{U:St}(M:Mk X.K C f)(F:rD X.prog X.w X.K X.mg X.base CX k f fd ps sp)(hr:rC (k+1) X.A)(hb:Binds X.K fd ps ds)(hd:Vals dvs ds)
 (hx:∀H s e s',Inv X aki U H s->CX X.stack H s E e s'->X.xe e s') (I:Inv X aki U H s) (r:Vals vs us)
 (h:∀x dx,H x=none->H dx=none->dx≠x->sp (.ref x::(vs++dvs)) (upd (upd H dx (.own x)) x (.ins C dx [])) (λv H2=>v=.non/\Q (.ref x) H2) E):
 wpAny (model X.prog X.w) X.A (call (.ref C) us) (EP X aki U Q) X.xe s:=by
 have hq:=h (s.heap.objs.size+1) s.heap.objs.size (I.hok.fresh ()) (I.hok.fresh ()) ∅;have I2:=Inv.made (C:=C) I;have r2:Vals (V.ref (s.heap.objs.size+1)::(vs++dvs)) (Value.ref (s.heap.objs.size+1)::(us++ds)):=.cons rfl (r.append hd);have hl:(Value.ref ()::us++ds).length=ps.length:=by have e:=r2.length;rw[F.len _ _ _ _ hq]at e;show e.symm
 show wpAny_call (Zi I.kIn M.makes M.init (beq_iff_eq.mp M.fn) (codeAny_mono (F.run _ X.stack _ _ #[Value.ref (s.heap.objs.size+1)::us,[]] (Value.ref (s.heap.objs.size+1)::(us++ds)) _ _ E (hr.make C us [])
  (I2.env0.make C us []) (hb _ (Value.ref (s.heap.objs.size+1)::us) I2.kIn hl) r2 hq) λr s' hq'=>?_))
 cases r with
 |error e=>show hx _ _ e s' I2 hq'
 |ok fl=>
  cases fl with
  |ret u=>
   let(v,H',I3,rv,ev,q3):=I2.after hq';subst ev;show#[rv,#[V.ref (s.heap.objs.size+1),H',I3,rfl,q3]]
  |next=>show False.elim hq'
  |brk=>show False.elim hq'
  |cont=>show False.elim hq'
def abV(M:Mk X.K C f)(F:rD X.prog X.w X.K X.mg X.base CX k f fd ps sp)(hr:rC (k+1) X.A)(hg:Gl X x)(hm:X.mg x=!(.ref C))(hb:Binds X.K fd ps ds)(hd:Vals dvs ds)(hx:Do CX X E)
 (ha:PA X (e::es) t) (hdb:(x==("__debug__" : Str))=false:=by decide) (he:starEach (e::es) X.env=(false,eval e X.env)::starEach es X.env:=by rfl) (hpl:(backTo pos (starEach es X.env)).any (·.1)=false:=by rfl):
 PE X (.Call (.Name x p) (e::es) [] pos) (aaX C sp dvs E t):=by
 intro aki s U H Q I h;show wpAny_Call_Name_kw (JW I hg hm ?_ hdb);show W.callWith_K I.ok.mod.kin M.kp (cP (ha pos aki s U H _ I h) λus s1 z39=>?_) he hpl;let(vs,H1,I1,r,q):=z39;show #[I1.kIn,?_];show Zm M F hr hb hd (hx _ _) I1 r q
end
section
variable {X:Cx}{CX:Df}{k:Nat}{f C:Addr}{fd:FuncData}{ps ks:List Str}{sp:Sp}{E:XK}{x m:Str}{p pos apos kpos:Pos}{e o:Expr}{es:List Expr}{kws:List Keyword}{te ta:TE}{t tk:TA}{nm:Option Str}
variable {g:List Value->List Value->List Value}{gV:List V->List V->List V}
end
structure bw(N P:List Str)(sc:Scope):Prop where
 kind:sc.kind=.function
 co:sc.isCoroutine=false
 gen:sc.isGenerator=false
 nd:N.Nodup
 pre:N.take P.length=P
 par:∀x∈P,sc.names.lookup x=!.local\/sc.names.lookup x=!.cell
 nofree:∀y∈sc.names,y.2≠.free
theorem Lk{kindOf:Str->Option NameKind}:∀{binds:List (Str×Value)}{m:Str->Option Value},(∀v,(x,v)∉binds)->bindL kindOf binds m x=m x
 |[],_=>λ_=>rfl
 |(n,v)::r,m=>λh=>by
  unfold bindL;rw[Lk λw hw=>h w (abl _ hw)];split
  . have:x≠n:=by rintro rfl;show h v aaV
    lia
  . rfl
theorem Ln{kindOf:Str->Option NameKind}:∀{binds:List (Str×Value)}{m:Str->Option Value},(∀v,(x,v)∉binds)->bindC kindOf binds m x=m x
 |[],_=>λ_=>rfl
 |(n,v)::r,m=>λh=>by
  unfold bindC;rw[Ln λw hw=>h w (abl _ hw)];split
  . rfl
  . have:x≠n:=by rintro rfl;show h v aaV
    lia
theorem Lp{kindOf:Str->Option NameKind}:∀{P:List Str}{vs:List Value}{i:Nat}{m:Str->Option Value},P.Nodup->P[i]?=!x->vs[i]?=!v->kindOf x=!.local->
 bindL kindOf (P.zip vs) m x=!v
 |[],_,_,_=>λ_ h _ _=>by simp at h
 |_::_,[],_,_=>λ_ _ h _=>by simp at h
 |p::P,w::vs,0,m=>λnd h1 h2 hk=>by simp at h1 h2;subst h1;subst h2;show bindL kindOf ((p,w)::P.zip vs) m p=_;unfold bindL;rw[Lk λv hv=>(agT.mp nd).1 (ahh hv).1,aic hk];simp
 |p::P,w::vs,i+1,m=>λnd h1 h2 hk=>by show bindL kindOf ((p,w)::P.zip vs) m x=_;unfold bindL;show Lp (i:=i) (agT.mp nd).2 (by simpa using h1) (by simpa using h2) hk
theorem Lq{kindOf:Str->Option NameKind}:∀{P:List Str}{vs:List Value}{i:Nat}{m:Str->Option Value},P.Nodup->P[i]?=!x->vs[i]?=!v->kindOf x≠!.local->
 bindC kindOf (P.zip vs) m x=!v
 |[],_,_,_=>λ_ h _ _=>by lia
 |_::_,[],_,_=>λ_ _ h _=>by lia
 |p::P,w::vs,0,m=>λnd h1 h2 hk=>by simp at h1 h2;subst h1;subst h2;show bindC kindOf ((p,w)::P.zip vs) m p=_;unfold bindC;rw[Ln λv hv=>(agT.mp nd).1 (ahh hv).1,aid hk];simp
 |p::P,w::vs,i+1,m=>λnd h1 h2 hk=>by unfold bindC;show Lq (agT.mp nd).2 () () hk
def start(N:List Str)(vs:List V):St:=vs.map some++List.replicate (N.length-vs.length) none
noncomputable def yd(b:Bool)(CX:Df)(P:Program)(w:World)(K:FG)(mg:Str->Option Value)(base:Heap)(N:List Str)(qual:Str)(scope:Scope)(f:Addr)(cd:Value)(A:Around)(outer:List Env)(s:Shared)(H:Hp)(E:XK):Cx where
 prog:=P
 w:=w
 K:=K
 mg:=mg
 base:=base
 A:=A.deeper (envOfC qual scope s.heap.objs.size f cd)
 N:=N
 s₀:=s
 H0:=H
 env:=envOfC qual scope s.heap.objs.size f cd
 outer:=outer
 stack:=envOfC qual scope s.heap.objs.size f cd::outer
 ex:=[]
 calm:=b
 fn:=λ_=>true
 pn:=[]
 xe:=λe s'=>wpAny (model P w) (A.deeper (envOfC qual scope s.heap.objs.size f cd)) (leaving (envOfC qual scope s.heap.objs.size f cd) e) (λ_ s''=>CX outer H s E e s'') (λe' s''=>CX outer H s E e' s'') s'
abbrev Zn:=yd true
def Oo{sc:Scope}(h:sc.names.lookup x=!.cell):∃c,(cellsFrom n sc.names []).lookup x=!c:=by have q:=ah4 sc.names n [] (.inl h);show ahy.mp q
def WQ{K:FG}{E:XK}
 (S:bw N ps scope) (hd:cm=true->A.handled=none) (e0:GK P w K mg base A outer s H) (hl:vs.length=ps.length) (r:Vals vs us)
 (x:InCallC s s.heap.objs.size (bindL (envOfC qual scope s.heap.objs.size f cd).kindOf (ps.zip us) λ_=>none) (cellsFrom (s.heap.objs.size+1) scope.names []) (bindC (envOfC qual scope s.heap.objs.size f cd).kindOf (ps.zip us) λ_=>none) s1):
 Inv (yd cm CX P w K mg base N qual scope f cd A outer s H E) [] (start N vs) H s1:=by
 have hpl:ps.length<=N.length:=by have:=congrArg List.length S.pre;rw[ah5]at this;lia
 let(h1,tk,rfl,hk):=x.done;have noA:∀b:Addr,b∉(yd cm CX P w K mg base N qual scope f cd A outer s H E).ex:=λb z=>absurd (show b∈([]:List Addr) from z) (by simp);show#[#[e0.mod,S.kind,rfl,rfl,aa0 _,λy z c h1 h2=>?_,λy hy=>?_,λy c _ h=>?_,hd,Around.frames_deeper e0.frames,.inr #[rfl,rfl],λb z=>absurd z (noA b),e0.bs,e0.bsz,λb _ _=>noA b,λb z=>absurd z (noA b),e0.funs,e0.frf],
  rfl,e0.bare,Un.kept hk,#[_,x.toInCall.ns,λi y v h1 h2 h3=>?_],λy c h=>#[_,x.cell y c h],e0.hok.fresh (aa0 _),λy c h=>?_,λp hp=>absurd (show p∈([]:List (Addr×Obj)) from hp) (by simp),e0.hok.kept hk,?_]
 . show name_of_addr x.apart (ahC h1) (ahC h2)
 . have hy:scope.names.lookup y=!.cell\/scope.names.lookup y=!.free:=hy;obtain hy|hy:=hy
   . show Oo hy
   . show absurd rfl (S.nofree _ (ahC hy))
 . show ahx (x.above y c (ahC h))
 . have hi:i<vs.length:=by
    unfold start at h2;by_cases hi:i<vs.length
    . show hi
    . rw[aby (by simpa using hi)]at h2;rw[List.getElem?_replicate]at h2;split at h2<;>cases h2
   have ha:vs[i]?=!v:=by
    unfold start at h2;rw[agm (by simpa using hi),af9]at h2;cases e:vs[i]? with
    |none=>rw[e]at h2;cases h2
    |some a=>rw[e]at h2;cases h2;rfl
   let(u,hu,rv):=r.get ha;have hp:ps[i]?=!y:=by rw[<-S.pre,List.getElem?_take_of_lt ()];show h1
   have ndP:ps.Nodup:=by rw[<-S.pre];show S.nd.sublist (List.take_sublist _ _)
   show#[u,rv,?_];obtain k|k:=S.par y (ag2 hp)
   . show .inl #[k,Lp ndP hp hu k]
   . let(c,e):=Oo (n:=s.heap.objs.size+1) k;show .inr #[.inl k,c,e,?_];have q:=x.cell y c e;rw[Lq ndP hp hu (by show scope.names.lookup y≠_;rw[k];decide)]at q;show q
 . show e0.hok.fresh (ahx (x.above y c (ahC h)))
 . unfold start;show _=N.length;rw[aaU,aaW,List.length_replicate];lia
def aft{K:FG}{dV kV doc pm cdv ct oc:Value}
 (lk:K.lookup f=!#[oc,od,.func (W.fnOf name qual params body scope dV kV doc pm an cdv ct),osl]) (hcd:W.codeIn K cdv qual=true) (S:bw N ps scope)
 (len:∀vs H Q E,sp vs H Q E->vs.length=ps.length)
 (hbody:∀(A:Around)(outer:List Env)(s:Shared)(H:Hp)(vs:List V)(Q:VK)(E:XK),iI b k (A.deeper (envOfC qual scope s.heap.objs.size f cdv))->sp vs H Q E->
   ∃t,kZ (yd b CX P w K mg base N qual scope f cdv A outer s H E) body t/\t { nx:=λ_ H'=>Q .non H',rt:=Q } (start N vs) H):
 vU b P w K mg base CX (k+1) f (W.fnOf name qual params body scope dV kV doc pm an cdv ct) ps sp:=by
 show#[len,λA outer s H args us vs Q E hr e0 hb r hsp=>?_];have hl:=len _ _ _ _ hsp;have KX:=e0.mod.kin.keeps λb o e=>(e0.bs b o e).1;have lim:=e0.mod.nolimit.keeps λb o e=>(e0.bs b o e).1;have hkind:∀y∈ps.zip us,scope.names.lookup y.1=!.local\/(scope.names.lookup y.1=!.cell/\((cellsFrom (s.heap.objs.size+1) scope.names []).lookup y.1).isSome=true):=λz40 hy=>by
  let(n,v):=z40
  obtain q|q:=S.par n (ahh hy).1
  . lia
  . show .inr #[q,ah4 _ _ _ (.inl q)]
 show codeAny_call_function hr.depth (KX _ _ lk) rfl S.co S.gen rfl (W.codeRec_of KX hcd) (hb _ _ _ _ ?_);show wpAny_newFunctionEnv_cells S.kind hkind λenv he s1 x=>?_;subst he;show#[lim.keeps x.toInCall.keep,codeAny_func ?_];let(t,ht,hq):=hbody A outer s H vs Q E (hr.deeper _) hsp;show wpAny_mono (ht [] s1 (start N vs) H _ (WQ S hr.hd e0 hl r x) hq) (λfl s' hs=>?_) λe s' hs=>hs;have fin:∀{U':St}{H':Hp}{v:V}{u:Value},Inv (yd b CX P w K mg base N qual scope f cdv A outer s H E) [] U' H' s'->RelV v u->Q v H'->CE outer P w H s Q u s':=
  λ{U' H' v u} J rv q=>#[v,H',J.os,J.bare,J.base,J.hok,rv,q]
 cases fl with
 |ret u=>
  let(v,U',H',J,rv,q):=hs;show fin J rv q
 |next=>
  let(U',H',J,q):=hs;show fin (v:=V.non) J rfl q
 |brk=>
  let(_,_,_,q):=hs;lia
 |cont=>
  let(_,_,_,q):=hs;lia
section
variable {X:Cx}{x:Str}{p pos:Pos}{e:Expr}{es:List Expr}{t:TA}{id T:String}{r:List V->Hp->VK->Prop}
def Lr(r:List V->Hp->VK->Prop)(t:TA):TE:=λU H Q=>t U H λvs H1=>r vs H1 Q
def bF(hc:uP X (.builtin id) r)(hg:Gl X x)(hm:X.mg x=none)(hv:bootBuiltins x=!(.builtin id))(ha:PA X (e::es) t)(hn:x ≠ "__name__":=by decide)(hdb:(x==("__debug__" : Str))=false:=by decide)
 (he:starEach (e::es) X.env=(false,eval e X.env)::starEach es X.env:=by rfl) (hpl:(backTo pos (starEach es X.env)).any (·.1)=false:=by rfl):PE X (.Call (.Name x p) (e::es) [] pos) (Lr r t):=by
 intro aki s U H Q I h;show wpAny_Call_Name_kw (wN I hg hm hv ?_ hn hdb);show PyProof.Rows.callWith_builtin1 (cP (ha pos aki s U H _ I h) λus s1 z41=>by let(vs,H1,I1,r1,q1):=z41;show hc aki s1 U H1 vs us Q I1 r1 q1) he hpl
def rY(hc:uP X (.type T) r)(hg:Gl X x)(hm:X.mg x=none)(hv:bootBuiltins x=!(.type T))(ha:PA X (e::es) t)(hn:x ≠ "__name__":=by decide)(hdb:(x==("__debug__" : Str))=false:=by decide)
 (he:starEach (e::es) X.env=(false,eval e X.env)::starEach es X.env:=by rfl) (hpl:(backTo pos (starEach es X.env)).any (·.1)=false:=by rfl):PE X (.Call (.Name x p) (e::es) [] pos) (Lr r t):=by
 intro aki s U H Q I h;show wpAny_Call_Name_kw (wN I hg hm hv ?_ hn hdb);show PyProof.Rows.callWith_type1 (cP (ha pos aki s U H _ I h) λus s1 z42=>by let(vs,H1,I1,r1,q1):=z42;show hc aki s1 U H1 vs us Q I1 r1 q1) he hpl
end
end L2
namespace HT
open PySem PySem.Spec PyProof.Rows
section
open PySem.SeqAt
open PySem.AutoSeq1 (wpAny_loadPart')
open PySem.MeetsSeq PySem.MeetsSeq2 PySem.MeetsSeq3
end
section
variable {prog:Program}{w:World}{A:Around}{E:Value->Shared->Prop}{s:Shared}
def cat_tup(ht:IsTup s.heap t vs.toArray)(hb:IsTup s.heap b ws.toArray)(hv:vs≠[])
 (h1:ws=[]->Q (.ref t) s) (h2:ws≠[]->Q (.ref s.heap.objs.size) { s with heap:=s.heap.push { cls:=.type "tuple",data:=.seq (vs++ws).toArray } })
 (hsz:vs.length+ws.length<=sizeLine):wpAny (model prog w) A (binaryOp .Add (.ref t) (.ref b)) Q E s:=by
 let((cls,dd,data,sl),ho,hc,n,hd):=id ht;let((cls2,dd2,data2,sl2),ho2,hc2,n2,hd2):=id hb;subst hc hd hc2 hd2;have e:vs.toArray++ws.toArray=(vs++ws).toArray:=by simp
 by_cases hw:ws=[]
 . show concat_meets #[_,ho,rfl] #[_,ho2,rfl] noFill_tuple_add seq_tuple_add F.slot_tuple_add F.entry_tuple_add (F.args_tuple_add_2 _ _)
    (tuple_addW1 t b vs.toArray ws.toArray n n2 dd dd2 sl sl2 ∅ ∅) #[ho,ho2,h1 hw]
 . show concat_meets #[_,ho,rfl] #[_,ho2,rfl] noFill_tuple_add seq_tuple_add F.slot_tuple_add F.entry_tuple_add (F.args_tuple_add_2 _ _)
    (tuple_addW2 t b vs.toArray ws.toArray n n2 dd dd2 sl sl2 ∅ ∅ ()) #[ho,ho2,?_]
   lia
def sIx(n d:Nat):Option Int->Nat
 |none=>d
 |some v=>if v<0 then (v+(n:Int)).toNat else min v.toNat n
def sIx_le(n d:Nat)(hd:d<=n)(o:Option Int):sIx n d o<=n:=by
 cases o with
 |none=>show hd
 |some v=>
  show (if v<0 then (v+(n:Int)).toNat else min v.toNat n)<=n;by_cases hv:v<0
  . rw[aic hv];lia
  . rw[aid hv];show Nat.min_le_right _ _
def Sd(v:Int)(n d:Nat):(if v<0 then max (v+(n:Int)) 0 else min v (n:Int))=((sIx n d (!v):Nat):Int):=by
 show (if v<0 then max (v+(n:Int)) 0 else min v (n:Int))=(((if v<0 then (v+(n:Int)).toNat else min v.toNat n):Nat):Int);by_cases hv:v<0
 . simp only[aic hv];lia
 . simp only[aid hv];lia
def Vl(lo hi:Option Int)(n:Nat):Builtin.Slice.sliceAdjust lo hi 1 (n:Int)=(((sIx n 0 lo:Nat):Int),((sIx n n hi:Nat):Int)):=by
 have h1:¬ ((1:Int)<0):=()
 unfold Builtin.Slice.sliceAdjust;show Prod.ext ?_ ?_
 . cases lo with
   |none=>rfl
   |some v=>show Sd v n 0
 . cases hi with
   |none=>rfl
   |some v=>show Sd v n n
def Vm(i j:Nat):Builtin.Slice.slicePlaces (i:Int) (j:Int) 1=j-i:=by
 unfold Builtin.Slice.slicePlaces;have h1:(1:Int)>0:=()
 simp only[h1,if_true,Int.ediv_one];split<;>lia
def HW(p:IsPart v o)(h:Q o s):wpAny (model prog w) A (Builtin.Slice.slicePartIndex v) Q E s:=by
 cases p with
 |none=>show slicePart_none h
 |int i t=>show slicePart_int h
def GP{lo hi:Option Int}{Q:Int×Int×Nat->Shared->Prop}(hs:s.heap.IsSliceOf sl vl vu .none)(pl:IsPart vl lo)(pu:IsPart vu hi)
 (h:Q (((sIx n 0 lo:Nat):Int),1,sIx n n hi-sIx n 0 lo) s):wpAny (model prog w) A (Builtin.Slice.sliceApplied (.ref sl) (pure (n:Int))) Q E s:=by
 let(os,hos,hcs,hds):=id hs;show aib (aib (wpAny_field hos hds rfl (aib (wpAny_field hos hds rfl (aib (wpAny_field hos hds rfl (aie ?_)))))));show aib (slicePart_none ?_);show aib (HW pl (aib (HW pu (aib (aie ?_)))));show wpAny _ _ (match Builtin.Slice.sliceAdjust lo hi 1 (n:Int) with |(lo,hi)=>pure (lo,(1:Int),Builtin.Slice.slicePlaces lo hi 1)) _ _ s;rw[Vl lo hi n];show wpAny _ _ (pure (((sIx n 0 lo:Nat):Int),(1:Int),Builtin.Slice.slicePlaces ((sIx n 0 lo:Nat):Int) ((sIx n n hi:Nat):Int) 1)) _ _ s;rw[Vm];show aie h
def Zo(xs:Array Value)(i k:Nat):((List.range k).filterMap λ(m:Nat)=>xs[((i:Int)+(m:Int)*1).toNat]?).toArray=((xs.toList.drop i).take k).toArray:=by
 have e:(λ(m:Nat)=>xs[((i:Int)+(m:Int)*1).toNat]?)=λm=>xs[i+m]?:=by
  funext m;have:((i:Int)+(m:Int)*1).toNat=i+m:=()
  rw[this]
 rw[e];have:=pick_run xs i k;rw[List.filterMap_map]at this;have e2:((λx=>xs[x]?) ∘ λx=>i+x)=λm=>xs[i+m]?:=rfl;rw[e2]at this;rw[this]
def getItem_tuple_cut{lo hi:Option Int}(ht:IsTup s.heap t items)(hs:s.heap.IsSliceOf sl vl vu .none)(pl:IsPart vl lo)(pu:IsPart vu hi)
 (hw:¬ (sIx items.size 0 lo=0/\sIx items.size items.size hi=items.size))
 (h:Q (.ref s.heap.objs.size) { s with heap:=s.heap.push { cls:=.type "tuple",data:=.seq ((items.toList.drop (sIx items.size 0 lo)).take (sIx items.size items.size hi-sIx items.size 0 lo)).toArray } })
 (hsz:items.size<=sizeLine):wpAny (model prog w) A (getItem (.ref t) (.ref sl)) Q E s:=by
 have htake:sizeOk (.seq ((items.toList.drop (sIx items.size 0 lo)).take (sIx items.size items.size hi-sIx items.size 0 lo)).toArray):=by show ((items.toList.drop (sIx items.size 0 lo)).take (sIx items.size items.size hi-sIx items.size 0 lo)).toArray.size<=sizeLine;rw[adW,ah5,List.length_drop,ahM];lia
 let(os,hos,hcs,hds):=id hs;unfold getItem
 try with_reducible show wpAny_holding ?_
 first |show aib () |skip
 show aib (wpAny_sequenceKey ht.typeIs () ?_);show aib (wpAny_callSpecial?_slot ht.typeIs PyProof.Rows.slot_tuple_getitem
  (wpAny_call_entry PyProof.Rows.slot_tuple_getitem ht.typeIs entry_tuple_getitem ?_ (args_tuple_getitem _ _)))
 show wpAny _ _ (Builtin.Tuple.tupleItemsOf (.ref t) >>= _) _ _ s;show aib (tupleItemsOf_ ht ?_);show aib (wpAny_typeOf (#[os,hos,hcs]) ?_);show aib (GP hs pl pu ?_);have hno:¬ ((((sIx items.size 0 lo:Nat):Int)==0&&(1:Int)==1&&(sIx items.size items.size hi-sIx items.size 0 lo)==items.size)=true):=by intro q;rw[ahz,ahz]at q;have q1:=eq_of_beq q.1.1;have q2:=eq_of_beq q.2;show hw #[(),()]
 show wpAny _ _ (if (((sIx items.size 0 lo:Nat):Int)==0&&(1:Int)==1&&(sIx items.size items.size hi-sIx items.size 0 lo)==items.size)=true then _ else _) _ _ s;rw[aid hno,Zo]
 first
  |show aib (wpAny_newObj_type () htake)
  |show aib (wpAny_newObj_type (aib (aie (aie #[_,rfl,aie h]))) htake)
  |show aib ()
  |show aib ()
end
end HT
namespace L2
open PySem PySem.Spec PyProof.Rows
variable {aki:List (Addr×Obj)}{E:Value->Shared->Prop}{s:Shared}{A:Around}{w:World}{P:Program}
abbrev TO:=St->Hp->(Option Int->Hp->Prop)->Prop
def PO(X:Cx)(e:Option Expr)(t:TO):Prop:=
 ∀(aki:List (Addr×Obj))(s:Shared)(U:St)(H:Hp)(Q:Option Int->Hp->Prop),Inv X aki U H s->t U H Q->
  wpAny (model X.prog X.w) X.A (evalPart e X.env) (λu s'=>∃o H',Inv X aki U H' s'/\IsPart u o/\Q o H') X.xe s
def abW:TO:=λ_ H Q=>Q none H
def afu(t:TE):TO:=λU H Q=>t U H λx H1=>∃i,x=.int i/\Q (!i) H1
section
variable {X:Cx}{e:Expr}{te:TE}{lo hi:Option Expr}{tl th:TO}{pos p2:Pos}
def abX:PO X none abW:=by intro aki s U H Q I h;show aie #[none,H,I,.none,h]
def abY(h:PE X e te):PO X (!e) (afu te):=by intro aki s U H Q I hw;show cP (h aki s U H _ I hw) λu s1 z43=>?_;let(x,H1,I1,r1,q1):=z43;let(i,rfl,q):=q1;let(t,rfl):=r1;show#[!i,H1,I1,.int i t,q]
def Ls(X:Cx)(r:V->Option Int->Option Int->Hp->VK->Prop):Prop:=
 ∀(aki:List (Addr×Obj))(s:Shared)(U:St)(H:Hp)(x:V)(v vl vu:Value)(lo hi:Option Int)(sl:Addr)(Q:VK),Inv X aki U H s->RelV x v->s.heap.IsSliceOf sl vl vu .none->IsPart vl lo->IsPart vu hi->r x lo hi H Q->
  ∃T id,typeLookup (.type T) "__getitem__"=pure (!(.builtin id))/\s.TypeIs v T/\wpAny (model X.prog X.w) X.A (getItem v (.ref sl)) (EP X aki U Q) X.xe s
def Ls.or(h:Ls X r)(h':Ls X r'):Ls X (λx lo hi H Q=>r x lo hi H Q\/r' x lo hi H Q):=by
 intro aki s U H x v vl vu lo hi sl Q I rx hs pl pu q;obtain q|q:=q
 . show h aki s U H x v vl vu lo hi sl Q I rx hs pl pu q
 . show h' aki s U H x v vl vu lo hi sl Q I rx hs pl pu q
def tSl(r:V->Option Int->Option Int->Hp->VK->Prop)(te:TE)(tl th:TO):TE:=λU H Q=>te U H λx H1=>tl U H1 λl H2=>th U H2 λu H3=>r x l u H3 Q
def Oq(hr:Ls X r)(he:PE X e te)(hl:PO X lo tl)(hu:PO X hi th):PE X (.Subscript e (.Slice lo hi none p2) pos) (tSl r te tl th):=by intro aki s U H Q I h;show Subscript_ (cP (he aki s U H _ I h) λv s1 z44=>?_);let(x,H1,I1,r1,q1):=z44;show wpAny_Slice (cP (hl aki s1 U H1 _ I1 q1) λvl s2 z45=>?_);let(l,H2,I2,pl,q2):=z45;show cP (hu aki s2 U H2 _ I2 q2) λvu s3 z46=>?_;let(u,H3,I3,pu,q3):=z46;show aie ?_;let(T,id,hT,ht,hg):=hr aki { s3 with heap:=s3.heap.push { cls:=.type "slice",data:=.fields (List.toArray [vl,vu,.none]) } } U H3 x v vl vu l u s3.heap.objs.size Q (I3.kept λb ob q=>abj _ q) r1 (Heap.IsSliceOf.new ..) pl pu q3;show tail_any ht hT hg ()
def wU(xs:List V)(lo hi:Option Int):List V:=(xs.drop (HT.sIx xs.length 0 lo)).take (HT.sIx xs.length xs.length hi-HT.sIx xs.length 0 lo)
def Gi(xs:List V)(lo hi:Option Int):(wU xs lo hi).length<=xs.length:=by unfold wU;rw[ah5,List.length_drop];lia
def agy(K:FG):V->Option Int->Option Int->Hp->VK->Prop:=λx lo hi H Q=>∃a xs,x=.ref a/\dR K H a xs/\
 ¬ (HT.sIx xs.length 0 lo=0/\HT.sIx xs.length xs.length hi=xs.length)/\∀p,H p=none->Q (.ref p) (upd H p (.tup (wU xs lo hi)))
def adJ:Ls X (agy X.K):=by
 intro aki s U H x v vl vu lo hi sl Q I rx hs pl pu h;let(a,xs,rfl,hx,hw,q):=h;cases rx;let(its,r,ht,hz):=I.tuple hx;have hlen:its.toArray.size=xs.length:=by rw[adW];show r.length.symm
 show#["tuple",_,PyProof.Rows.slot_tuple_getitem.lookup,ht.typeIs,?_];show HT.getItem_tuple_cut ht hs pl pu ∅ ?_ ();rw[hlen];show#[.ref s.heap.objs.size,_,I.laid (λb ob q=>abj _ q) () ?_,rfl,q _ (I.hok.fresh ())];show#[agf (Gi xs lo hi) hz,_,(r.drop (HT.sIx xs.length 0 lo)).take (HT.sIx xs.length xs.length hi-HT.sIx xs.length 0 lo),IsTup.new _ _]
def aaY(K:FG):R2:=λx y H Q=>∃a b xs ys,x=.ref a/\y=.ref b/\dR K H a xs/\dR K H b ys/\xs≠[]/\xs.length+ys.length<=sizeLine/\
 (ys=[]->Q (.ref a) H)/\(ys≠[]->∀p,H p=none->Q (.ref p) (upd H p (.tup (xs++ys))))
def Vals.nil_iff(r:Vals xs us):us=[] ↔ xs=[]:=by
 cases r with
 |nil=>simp
 |cons _ _=>simp
def abZ:iB X (binaryOp .Add) (aaY X.K):=by intro aki s U H x y v u Q I rx ry h;let(a,b,xs,ys,rfl,rfl,ha,hb,hx,hz,q1,q2):=h;cases rx;cases ry;let(its,r1,p1,_):=I.tuple ha;let(its2,r2,p2,_):=I.tuple hb;show HT.cat_tup p1 p2 (λz=>hx (r1.nil_iff.mp z)) (λz=>#[.ref a,H,I,rfl,q1 (r2.nil_iff.mp z)]) (λz=>?_) (by rw[<-r1.length,<-r2.length];show hz);show#[.ref s.heap.objs.size,_,I.laid (λb ob q=>abj _ q) () ?_,rfl,q2 (λw=>z (r2.nil_iff.mpr w)) _ (I.hok.fresh ())];show#[by rw[aaU];show hz,_,r1.append r2,IsTup.new _ _]
end
noncomputable def ue(n:Nat)(i:Int):Option Nat:=if 0<=i then (if i<n then !i.toNat else none) else if -(n:Int)<=i then !(i+n).toNat else none
def gA{α:Type}(xs:List α)(i:Int):Option α:=(ue xs.length i).bind λj=>xs[j]?
def Sq(h:ue n i=!j):seqIndex? i n=!j/\j<n/\-(n:Int)<=i/\i<n:=by
 unfold ue at h;by_cases h0:0<=i
 . rw[aic h0]at h;by_cases h1:i<n
   . rw[aic h1]at h;have e:i.toNat=j:=af7 h;show#[by rw[seqIndex_of h0 h1,e],(),(),h1]
   . rw[aid h1]at h;cases h
 . rw[aid h0]at h;by_cases h1:-(n:Int)<=i
   . rw[aic h1]at h;have e:(i+n).toNat=j:=af7 h;show#[by rw[seqIndex_neg () h1,e],(),h1,()]
   . rw[aid h1]at h;cases h
def JZ(h:gA xs i=!v):∃j,seqIndex? i xs.length=!j/\xs[j]?=!v/\j<xs.length/\-(xs.length:Int)<=i/\i<xs.length:=by
 unfold gA at h;cases e:ue xs.length i with
 |none=>rw[e]at h;cases h
 |some j=>
  rw[e]at h;let(h1,h2,h3,h4):=Sq e;show#[j,h1,h,h2,h3,h4]
def Ew(b:Expr):Prop:=∀o i,subscripted b false o i=operate [o,i] (getItem o i)
def Gj(X:Cx)(r:R2):Prop:=
 ∀(value slice:Expr)(aki:List (Addr×Obj))(s:Shared)(U:St)(H:Hp)(x y:V)(v u:Value)(Q:VK),Inv X aki U H s->RelV x v->RelV y u->r x y H Q->
  subscripted slice false v u=operate [v,u] (getItem v u)->wpAny (model X.prog X.w) X.A (subscriptTail value slice v u) (EP X aki U Q) X.xe s
def WT(X:Cx)(id:String)(r:V->List V->Hp->VK->Prop):Prop:=
 ∀(aki:List (Addr×Obj))(s:Shared)(U:St)(H:Hp)(x:V)(xs:List V)(v:Value)(us:List Value)(Q:VK),Inv X aki U H s->RelV x v->Vals xs us->r x xs H Q->
  wpAny (model X.prog X.w) X.A (call (.builtin id) (v::us)) (EP X aki U Q) X.xe s
section
variable {X:Cx}{a b:Expr}{ta tb:TE}{pos:Pos}
def Gj.or(h:Gj X r)(h':Gj X r'):Gj X (λx y H Q=>r x y H Q\/r' x y H Q):=by
 intro value slice aki s U H x y v u Q I rx ry q hs;obtain q|q:=q
 . show h value slice aki s U H x y v u Q I rx ry q hs
 . show h' value slice aki s U H x y v u Q I rx ry q hs
def Vn(hr:Gj X r)(ha:PE X a ta)(hb:PE X b tb)(hs:Ew b):PE X (.Subscript a b pos) (R7 r ta tb):=by intro aki s U H Q I h;show Subscript_ (Zb ha hb I h λv u s2 x y H2 I2 rx ry q=>hr a b aki s2 U H2 x y v u Q I2 rx ry q (hs _ _))
def adK(K:FG):R2:=λx y H Q=>∃p xs i v,x=.ref p/\y=.int i/\cW K H p xs/\gA xs i=!v/\Q v H
def adL(K:FG):R2:=λx y H Q=>∃p xs i v,x=.ref p/\y=.int i/\dR K H p xs/\gA xs i=!v/\Q v H
def adM:R2:=λx y H Q=>∃z i c,x=.str z/\y=.int i/\z.length<=sizeLine/\gA z.cps.toList i=!c/\Q (.str #[(List.toArray [c])]) H
def ab0:Gj X (adK X.K):=by
 intro value slice aki s U H x y v u Q I rx ry h hs;let(p,xs,i,z,rfl,rfl,hq,he,q):=h;cases rx;let(t,rfl):=ry;let(its,r,pl,hz):=I.list hq;let(j,h1,h2,h3,h4,h5):=JZ he;let(w,ew,rw'):=r.get h2;have hl:=r.length;have hn:=zx;have fin:EP X aki U Q w s:=#[z,H,I,rw',q];by_cases h0:0<=i
 . have hj:i.toNat=j:=by rw[seqIndex_of h0 h5]at h1;show af7 h1
   show item_listR pl.isList h0 () (by rw[hj];simpa using ew) fin hs
 . have hj:(i+(its.toArray.size:Int)).toNat=j:=by rw[seqIndex_neg () h4]at h1;rw[adW,<-hl];show af7 h1
   show subscriptTail_builtinR (x:=w) pl.isList.typeIs slot_list_getitem.lookup
    (wpAny_getItem_list_neg (Q:=λr s'=>r=w/\EP X aki U Q r s') pl.isList () (by rw[adW]<;>lia) () (by rw[hj];simpa using ew) #[rfl,fin]) hs
def adN:Gj X (adL X.K):=by
 intro value slice aki s U H x y v u Q I rx ry h hs;let(p,xs,i,z,rfl,rfl,hq,he,q):=h;cases rx;let(t,rfl):=ry;let(its,r,pl,hz):=I.tuple hq;let(j,h1,h2,h3,h4,h5):=JZ he;let(w,ew,rw'):=r.get h2;have hl:=r.length;have hn:=zx;show subscriptTail_builtinR pl.typeIs slot_tuple_getitem.lookup
  (getItem_tuple pl () () (by rw[adW,<-hl];show h1) ∅ #[rfl,#[z,H,I,rw',q]]) hs
def adO:Gj X adM:=by
 intro value slice aki s U H x y v u Q I rx ry h hs;let(z,i,c,rfl,rfl,hz,he,q):=h;let(t,rfl):=rx;let(t',rfl):=ry;let(j,h1,h2,h3,h4,h5):=JZ he;have hl:z.cps.toList.length=z.length:=by simp[Str.length]
 rw[hl]at h1 h4 h5;have hn:=zx;show tail_any (typeIs_str s z t) slot_str_getitem.lookup (getItem_str (by rw[(aif ()),(aif ()),Bool.or_false]) ∅ #[.str #[(List.toArray [c])],H,I.tok _,#[_,rfl],q]) hs
def rIx(K:FG):R2:=λx y H Q=>adK K x y H Q\/adL K x y H Q\/adM x y H Q
def WX:Gj X (rIx X.K):=ab0.or (adN.or adO)
def Vo(its:List Value)(n j:Nat)(u:Value):Obj.mapSeq (·.setIfInBounds j u) { cls:=.type "list",data:=.seq its.toArray n }={ cls:=.type "list",data:=.seq (its.set j u).toArray n }:=by simp[Obj.mapSeq]
def Inv.lst{U:St}{H:Hp}{p:Addr}{xs:List V}(I:Inv X aki U H s)(h:H p=!(.lst xs)):
 ∃(its:List Value)(n:Nat),Vals xs its/\s.heap.get? p=some { cls:=.type "list",data:=.seq its.toArray n }/\xs.length<=sizeLine:=by
 let(z,its,n,r,e):=I.hok p _ h;show#[its,n,r,e,z]
def Inv.lstUpd{U:St}{its its':List Value}(I:Inv X aki U H s)(h:H p=!(.lst xs))
 (ho:s.heap.get? p=some { cls:=.type "list",data:=.seq its.toArray n }) (hf:f { cls:=.type "list",data:=.seq its.toArray n }={ cls:=.type "list",data:=.seq its'.toArray n' }) (r:Vals ys its') (hz:ys.length<=sizeLine) (t:Nat):
 Inv X aki U (upd H p (.lst ys)) { s with heap:=s.heap.update p f,toks:=t }:=by
 have e:(s.heap.update p f).get? p=some { cls:=.type "list",data:=.seq its'.toArray n' }:=by rw[ahJ f ho (by rw[hf]<;>rfl),hf]
 show I.write (by rw[h];trivial) (.inl rfl) (λb u hb q=>(ahH _ _ ∅).trans q) #[_,e] ?_;show#[hz,its',n',r,e]
def aaZ:V->V->V->Hp->(Hp->Prop)->Prop:=λo i v H Q=>∃p xs k j,o=.ref p/\i=.int k/\H p=!(.lst xs)/\ue xs.length k=!j/\Q (upd H p (.lst (xs.set j v)))
def set_list:Y8 X aaZ:=by
 intro aki s U H o i v ov iv u Q I ro ri rv h;let(p,xs,k,j,rfl,rfl,hp,hj,q):=h;cases ro;let(t,rfl):=ri;let(its,n,r,ho,hz):=I.lst hp;let(h1,h2,h3,h4):=Sq hj;have hl:=r.length;have hn:=zx;have I':Inv X aki U (upd H p (.lst (xs.set j v))) { s with heap:=s.heap.update p (Obj.mapSeq (·.setIfInBounds j u)) }:=
  I.lstUpd hp ho (Vo its n j u) (r.set rv j) (by rw[agd];show hz) s.toks
 by_cases h0:0<=k
 . have hk:k.toNat=j:=by rw[seqIndex_of h0 h4]at h1;show af7 h1
   show W.ki_setAt ho h0 () (by rw[adW,<-hl];show h4) (by rw[hk];show#[_,I',q])
 . have hk:(k+(its.toArray.size:Int)).toNat=j:=by rw[seqIndex_neg () h3]at h1;rw[adW,<-hl];show af7 h1
   show W.ki_setBack ho () (by rw[adW,<-hl];show h3) () (by rw[hk];show#[_,I',q])
def Ot(lo hi:Option Int)(n:Nat):(sliceBounds lo hi none n).1=((HT.sIx n 0 lo:Nat):Int)/\(sliceBounds lo hi none n).2.1=((HT.sIx n n hi:Nat):Int)/\(sliceBounds lo hi none n).2.2=1:=by
 show#[?_,?_,rfl]
 . cases lo with
   |none=>simp[sliceBounds,HT.sIx]
   |some i=>
    simp only[sliceBounds,HT.sIx,Option.getD_none,show (1:Int)>0 by decide,if_true];by_cases h:i<0
    . simp only[h,if_true]<;>lia
    . simp only[h,if_false]<;>lia
 . cases hi with
   |none=>simp[sliceBounds,HT.sIx]
   |some i=>
    simp only[sliceBounds,HT.sIx,Option.getD_none,show (1:Int)>0 by decide,if_true];by_cases h:i<0
    . simp only[h,if_true]<;>lia
    . simp only[h,if_false]<;>lia
def M8(its:List Value)(lo hi:Option Int):slicePick its.toArray lo hi none=((its.drop (HT.sIx its.length 0 lo)).take (HT.sIx its.length its.length hi-HT.sIx its.length 0 lo)).toArray:=by let(h1,h2,h3):=Ot lo hi its.toArray.size;unfold slicePick;rw[h1,h2,h3];simp only[sliceRange_one,pick_run]<;>rfl
def agz(K:FG):V->Option Int->Option Int->Hp->VK->Prop:=λx lo hi H Q=>∃a xs,x=.ref a/\cW K H a xs/\∀p,H p=none->Q (.ref p) (upd H p (.lst (wU xs lo hi)))
def ab1:Ls X (agz X.K):=by intro aki s U H x v vl vu lo hi sl Q I rx hs pl pu h;let(a,xs,rfl,hx,q):=h;cases rx;let(its,r,ht,hz):=I.list hx;have hlen:=r.length;show#["list",_,slot_list_getitem.lookup,ht.isList.typeIs,?_];show wpAny_getItem_list_slice ht.isList hs pl pu .none () ?_ ∅;rw[M8,<-hlen];show#[.ref s.heap.objs.size,_,I.laid (λb ob q=>abj _ q) () ?_,rfl,q _ (I.hok.fresh ())];show#[agf (Gi xs lo hi) hz,_,0,(r.drop (HT.sIx xs.length 0 lo)).take (HT.sIx xs.length xs.length hi-HT.sIx xs.length 0 lo),aga _ rfl]
def vV:V->Bool
 |.non=>true
 |.bl _=>true
 |.int _=>true
 |.str _=>true
 |_=>false
def pC:uP X (.type "list") (λxs H Q=>∃p ys,xs=[.ref p]/\(cW X.K H p ys\/dR X.K H p ys)/\∀l,H l=none->Q (.ref l) (upd H l (.lst ys))):=by
 intro aki s U H xs us Q I r h;let(p,ys,rfl,hq,q):=h;let(u,rfl,rx):=vals1 r;cases rx;have fin:∀(its:List Value),Vals ys its->ys.length<=sizeLine->∀(h':Heap)(c':Nat),(∀b o',s.heap.get? b=!o'->h'.get? b=!o')->
  h'.get? s.heap.objs.size=some { cls:=.type "list",dict:=none,data:=.seq its.toArray c',slots:=(List.toArray []) }->EP X aki U Q (.ref s.heap.objs.size) { s with heap:=h' }:=λits r' hz h' c' kp e=>
  #[.ref s.heap.objs.size,_,I.laid kp () (show jw X.prog X.w _ h' _ (.lst ys) from #[hz,its,c',r',e]),rfl,q _ (I.hok.fresh ())]
 obtain hq|hq:=hq
 . let(its,r',pl,hz):=I.list hq;have hlen:=r'.length;let(o,ho,hc,n,hd):=pl.isList;show call_list_seq p (.inl rfl) ho hc hd (λh' c' kp e=>fin its r' hz h' c' kp e) ∅
 . let(its,r',pl,hz):=I.tuple hq;have hlen:=r'.length;let(o,ho,hc,n,hd):=pl;show call_list_seq p (.inr rfl) ho hc hd (λh' c' kp e=>fin its r' hz h' c' kp e) ∅
def tyV(K:FG)(T:String)(x:V)(H:Hp):Prop:=match x with
 |.str _=>T="str"
 |.int _=>T="int"
 |.ref p=>(T="list"/\∃xs,cW K H p xs)\/(T="tuple"/\∃o,K.lookup p=!o/\o.cls=.type "tuple"/\o.dict=none)\/
  (T="dict"/\((∃kvs,H p=!(.dK kvs))\/∃kvs,H p=!(.dT kvs)))\/(T="set"/\∃S n,H p=!(.set S n))
 |_=>False
def WY{U:St}(I:Inv X aki U H s)(r:RelV x v)(ty:tyV X.K T x H):
 s.TypeIs v T/\∀a,v=.ref a->∃ob,s.heap.get? a=!ob/\ob.dict=none:=by
 cases x with
 |str z=>
  let(t,rfl):=r;cases (show T="str" from ty);show#[typeIs_str s z t,λ_ e=>nomatch e]
 |int i=>
  let(t,rfl):=r;cases (show T="int" from ty);show#[typeIs_int s i t,λ_ e=>nomatch e]
 |ref p=>
  cases r;obtain⟨rfl,xs,hq⟩|⟨rfl,o,hk,hc,hd⟩|⟨rfl,hk⟩|⟨rfl,S,n,hk⟩:=ty
  . let(its,_,pl,_):=I.list hq;show#[pl.isList.typeIs,λa e=>?_];cases e;let(o,n,e,c,hd,_):=pl;show#[o,e,hd]
  . show#[#[o,I.kIn p o hk,hc],λa e=>?_];cases e;show#[o,I.kIn _ o hk,hd]
  . have z:∃o,s.heap.get? p=!o/\o.ExactDict:=by
     obtain⟨kvs,hk⟩|⟨kvs,hk⟩:=hk
     . let(_,_,_,_,o,_,_,e,ex,_):=I.hok p _ hk;show#[o,e,ex]
     . let(_,_,_,_,o,_,_,e,ex,_):=I.hok p _ hk;show#[o,e,ex]
    let(o,e,ex):=z;show#[#[o,e,ex.1],λa e2=>?_];cases e2;show#[o,e,ex.2.1]
  . let(o,_,_,_,e,ex,_):=I.hok p _ hk;show#[#[o,e,ex.1],λa e2=>?_];cases e2;show#[o,e,ex.2.1]
 |_=>show False.elim ty
def Zq(K:FG)(T:String)(r:V->List V->Hp->VK->Prop)(to:TE):TE:=λU H Q=>to U H λx H1=>tyV K T x H1/\r x [] H1 Q
def W0(K:FG)(T:String)(r:V->List V->Hp->VK->Prop)(to:TE)(t:TA):TE:=λU H Q=>to U H λx H1=>tyV K T x H1/\t U H1 λxs H2=>r x xs H2 Q
variable {o e:Expr}{es:List Expr}{to:TE}{t:TA}{name:Str}{apos cpos:Pos}{T id:String}{r:V->List V->Hp->VK->Prop}
def HX(pa:PlainAttrs T)(slot:Slot T name id)(hty:typeOf (.builtin id)=pure (.type "method_descriptor"))(hm:WT X id r)(ho:PE X o to)
 (hbase:attributeBase o name X.env (eval o X.env)=eval o X.env:=by rfl) (hline:(apos.endLine==cpos.line)=true:=by rfl):PE X (.Call (.Attribute o name apos) [] [] cpos) (Zq X.K T r to):=by
 intro aki s U H Q I h;show wpAny_Call_method0_late hbase hline (cP (ho aki s U H _ I h) λv s1 z47=>?_);let(x,H1,I1,r1,ty,q1):=z47;let(h1,h2):=WY I1 r1 ty;show#[T,id,pa,slot,hty,h1,h2,Calls.callWith_builtin rfl (PySem.evalArgs_none (hm aki s1 U H1 x [] v [] Q I1 r1 .nil q1))]
def mj(pa:PlainAttrs T)(slot:Slot T name id)(hty:typeOf (.builtin id)=pure (.type "method_descriptor"))(hm:WT X id r)(ho:PE X o to)(ha:PA X (e::es) t)
 (hbase:attributeBase o name X.env (eval o X.env)=eval o X.env:=by rfl)
 (hfew:((backTo cpos (starEach (e::es) X.env)).all (λx=>not x.1)&&(backToKw cpos (keywordEach [] X.env)).all (λx=>x.1.isSome)
   && decide ((e::es).length+([]:List Keyword).length+(if ([]:List Keyword).isEmpty then 0 else 1)<30))=true:=by rfl)
 (hline:(apos.endLine==cpos.line)=true:=by rfl) (hs:starEach (e::es) X.env=(false,eval e X.env)::starEach es X.env:=by rfl) (hplain:(backTo cpos (starEach es X.env)).any (·.1)=false:=by rfl):
 PE X (.Call (.Attribute o name apos) (e::es) [] cpos) (W0 X.K T r to t):=by
 intro aki s U H Q I h;show wpAny_Call_method_late hbase hfew hline rfl (cP (ho aki s U H _ I h) λv s1 z48=>?_);let(x,H1,I1,r1,ty,q1):=z48;let(h1,h2):=WY I1 r1 ty;show#[T,id,pa,slot,hty,h1,h2,?_];have hA:=ha cpos aki s1 U H1 _ I1 q1;rw[hs]at hA ⊢;show Calls.callWith_builtin () (Calls.evalArgs_plain ?_);show cP hA λus s2 z49=>by let(vs,H2,I2,r2,q2):=z49;show hm aki s2 U H2 x vs v us Q I2 r1 r2 q2
end
def MtM(X:Cx)(id:String)(r:V->List V->Hp->VK->Prop):Prop:=
 ∀(aki:List (Addr×Obj))(s:Shared)(U:St)(H:Hp)(x:V)(xs:List V)(v:Value)(us:List Value)(Q:VK),Inv X aki U H s->RelV x v->Vals xs us->r x xs H Q->
  wpAny (model X.prog X.w) X.A (call (.builtin id) (v::us)) (EP X aki U Q) X.xe s
theorem Vals.one{x:V}{us:List Value}(h:Vals [x] us):∃u,us=[u]/\RelV x u:=by cases h with|cons r t=>cases t;show#[_,rfl,r]
theorem Vals.two{x y:V}{us:List Value}(h:Vals [x,y] us):∃u v,us=[u,v]/\RelV x u/\RelV y v:=by cases h with|cons r t=>let(_,e,q):=Vals.one t;cases e;show#[_,_,rfl,r,q]
def Vals.zero:∀{us:List Value},Vals [] us->us=[]
 |_,.nil=>rfl
def Vals.dropLast(h:Vals xs us):Vals xs.dropLast us.dropLast:=by
 induction h with
 |nil=>show .nil
 |cons r t ih=>
  cases t with
  |nil=>show .nil
  |cons q t'=>show .cons r ih
def Vp{α:Type}(l:List α):l.eraseIdx (l.length-1)=l.dropLast:=by
 induction l with
 |nil=>rfl
 |cons a r ih=>
  cases r with
  |nil=>rfl
  |cons b r=>
   have e:(a::b::r).length-1=((b::r).length-1)+1:=by have h1:(a::b::r).length=r.length+2:=rfl;have h2:(b::r).length=r.length+1:=rfl;lia
   rw[e,List.eraseIdx_cons_succ,ih]
   all_goals rfl
section
variable {X:Cx}{aki:List (Addr×Obj)}{U:St}{H:Hp}{s:Shared}{l b:Addr}{xs ys zs:List V}
def Inv.lset{its its':List Value}(I:Inv X aki U H s)(hH:H l=!(.lst xs))
 (e:s.heap.get? l=some { cls:=.type "list",data:=.seq its.toArray n }) (hf:f its.toArray=its'.toArray) (hv:Vals ys its') (hz:ys.length<=sizeLine):
 Inv X aki U (upd H l (.lst ys)) { s with heap:=s.heap.update l (Obj.mapSeq f),toks:=t' }:=by
 have q:=PySem.IsL.update e f;rw[hf]at q;show I.write (by rw[hH];show trivial) (.inl rfl) (λb' u hb hu=>(ahH s.heap (Obj.mapSeq f) ∅).trans hu) #[_,q] ?_;show#[hz,its',_,hv,q]
def Inv.lnew(I:Inv X aki U H s)(hv:Vals ys its)(hz:ys.length<=sizeLine):
 Inv X aki U (upd H s.heap.objs.size (.lst ys)) { s with heap:=s.heap.push { cls:=.type "list",data:=.seq its.toArray },toks:=t' }:=
 I.laid (λ_ _ q=>abj _ q) () #[hz,its,0,hv,aga _ rfl]
def Inv.fresh(I:Inv X aki U H s):H s.heap.objs.size=none:=I.hok.fresh ()
def Inv.lstM(I:Inv X aki U H s)(hH:H l=!(.lst xs)):xs.length<=sizeLine/\∃(its:List Value)(n:Nat),Vals xs its/\xs.length=its.length/\s.heap.get? l=some { cls:=.type "list",data:=.seq its.toArray n }:=by let(z,its,n,r,e):=I.hok l _ hH;show#[z,its,n,r,r.length,e]
def Zr(h:n<=sizeLine):Builtin.List.listTooLong n=false:=by show aif ()
end
section
variable {X:Cx}
def J0:V->List V->Hp->VK->Prop:=λx vs H Q=>∃l xs y,x=.ref l/\vs=[y]/\H l=!(.lst xs)/\xs.length<sizeLine/\Q .non (upd H l (.lst (xs++[y])))
def gQ:MtM X "list.append" J0:=by intro aki s U H x vs v us Q I rx rv h;let(l,xs,y,rfl,rfl,hH,hz,q):=h;cases rx;let(u,rfl,ru):=rv.one;let(z,its,n,r,hl,e):=I.lstM hH;show call_meets F.slot_list_append #[_,e,rfl] F.entry_list_append (F.args_list_append_2 _ _) (PySem.list_append l its.toArray n u ∅) #[e,?_];show#[.non,_,I.lset hH e (by simp) (r.append (.cons ru .nil)) ?_,rfl,q];lia
def adR:V->List V->Hp->VK->Prop:=λx vs H Q=>∃l xs y,x=.ref l/\vs=[]/\H l=!(.lst xs)/\xs[xs.length-1]?=!y/\Q y (upd H l (.lst xs.dropLast))
def Ou:MtM X "list.pop" adR:=by
 intro aki s U H x vs v us Q I rx rv h;let(l,xs,y,rfl,rfl,hH,hy,q):=h;cases rx;have hus:=rv.zero;subst hus;let(z,its,n,r,hl,e):=I.lstM hH;let(u,hu,ru):=r.get hy;have hy':its.toArray[its.toArray.size-1]?=!u:=by show its.toArray[its.length-1]?=!u;rw[<-Array.getElem?_toList,<-hl];show hu
 show call_meets F.slot_list_pop #[_,e,rfl] F.entry_list_pop (F.args_list_pop_1 _) (MeetsSeq.list_pop_last l its.toArray n u hy' (by rw[adW];lia)) #[e,?_];show#[y,_,I.lset (its':=its.dropLast) hH e ?_ r.dropLast ?_,ru,q]
 . show its.toArray.eraseIdxIfInBounds (its.toArray.size-1)=its.dropLast.toArray;rw[adW,List.eraseIdxIfInBounds_toArray,Vp]
 . rw[List.length_dropLast];lia
def W2:V->List V->Hp->VK->Prop:=λx vs H Q=>∃l xs,x=.ref l/\vs=[]/\H l=!(.lst xs)/\Q .non (upd H l (.lst []))
def Zu:MtM X "list.clear" W2:=by intro aki s U H x vs v us Q I rx rv h;let(l,xs,rfl,rfl,hH,q):=h;cases rx;have hus:=rv.zero;subst hus;let(z,its,n,r,hl,e):=I.lstM hH;show call_meets F.slot_list_clear #[_,e,rfl] F.entry_list_clear (F.args_list_clear_1 _) (AutoSeq1.list_clear_list_0 l its.toArray n ∅) #[e,?_];show#[.non,_,I.lset hH e rfl .nil (),rfl,q]
end
section
variable {prog:Program}
end
section
variable {X:Cx}
end
end L2
namespace Att
open PySem PySem.W PySem.Calls PyProof.Rows
def HY:∀(ns:List Int)(vs:List Value),WellAll P h vs (ns.map WData.int)->IntsAre vs ns:=by
 intro ns;induction ns with
 |nil=>
  intro vs w;cases w;show .nil
 |cons n ns ih=>
  intro vs w;cases w with
  |cons a b=>
   cases a;show .cons _ _ (ih _ b)
def W3{l:OpenLaw}(hn:l.most=!n)
 (hpre:l.row.toRowW.claim.pre args=true) (hwl:WellAll P h vals args):
 ∃a vs ns,vals=[Value.ref a]/\args=[WData.list (ns.map WData.int)]/\h.get? a=some { cls:=.type "list",data:=.seq vs.toArray }/\IntsAre vs ns/\ns.length<=n:=by
 have hsh:=(pre_splitW hpre).1;let(d,r,rfl,h1,h2):=hasAllW_cons hsh;obtain rfl:=hasAllW_nil h2;let(xs,rfl,h3):=hasW_list h1;let(ns,rfl):=items_int h3;have hlen:ns.length<=n:=by
  have h4:(WTm.not (.lt (.lit (.int (n:Int))) (.len (.arg 0)))).holds [] { args:=[.list (ns.map .int)] }=true:=by have h4:=(holds_andW ((pre_splitW hpre).2)).1;rw[hn]at h4;show h4
  have h5:=condW_of h4 (w_not (w_lt w_lit (w_len_list (w_arg rfl))));show ahU λq=>?_
  first
   |(rw[aig q']at h5;show absurd h5 ())
   |(simp at h5;lia)
 cases hwl with
 |cons w1 w2=>
  cases w2;cases w1 with
  |list ho hall=>show#[_,_,ns,rfl,rfl,ho,HY ns _ hall,hlen]
def W4(l:OpenLaw)(args:List WData):l.row.toRowW.claim.post args (.bool true) args=true:=
 postW_of
  (show WShape.has [] (.bool true) .bool=true by first |rfl |decide |simp[WShape.arms])
  (w_eq_bool (w_res rfl) w_lit) rfl
def attach_call{l:OpenLaw}
 (hn:l.most=!n) (hdf:d.params.defaults=[])
 (call:∀(w:World)(s₀ s₁:Shared)(mg mb:Str->Option Value)(fa:Addr)(o:Obj)(pm cd doc:Value)(a:Addr)(vs:List Value)(ns:List Int),
   Ground q loose [] XP w s₀ mg mb s₁.heap->YP w s₁.heap->
   s₁.heap.get? fa=!o->o.data=.func (docDef d.name d.params d.body d.scope pm cd doc)->s₁.heap.CodeRec cd d.name->mg d.name=!(.ref fa)->
   s₁.heap.get? a=some { cls:=.type "list",data:=.seq vs.toArray }->IntsAre vs ns->ns.length<=n->s₁.gens=(List.toArray [])->
   codeAny (model l.prog w) callerA (.call (.ref fa) #[[.ref a],[]]) (λr s'=>r=.ok (.ret (.bool true))/\OldK s₁.heap s'.heap/\s'.os=s₁.os/\AllBare s'.gens) s₁):
 WalkO q loose XP YP l.row.toRowW d [] (λf vs=>PySem.call f vs):=by
 intro w s₀ s₁ mg mb G Y_ fa o pm cd doc dV kV ho hd hcd hD hmg hg args vals as hpre hlay hrd hwl hlo;obtain rfl:dV=.none:=Dflts.none hD hdf;obtain rfl:kV=.none:=Dflts.noKw hD;let(a,vs,ns,rfl,rfl,hobj,hints,hlen):=W3 hn hpre hwl;show enter_call (codeAny_mono (call w s₀ s₁ mg mb fa o pm cd doc a vs ns G Y_ ho (fd_plain hd) hcd hmg hobj hints hlen hg) λr s' hq=>?_);let(rfl,h2,h3,h4):=hq;show#[.inl #[.bool true,.bool true,[],rfl,λ_=>rfl,.bool true,W4 l _,λ_=>#[List.Pairwise.nil,λ_ hm=>(nomatch hm)]],h2,h3,h4]
section
variable {prog:Program}{w:World}{A:Around}{E:Value->Shared->Prop}{s:Shared}{K:Frag}
end
end Att
namespace L2
open PySem PySem.Spec PyProof.Rows
variable {aki:List (Addr×Obj)}{E:Value->Shared->Prop}{s:Shared}{A:Around}{w:World}{P:Program}
theorem Lw:∀{vs:List Value}{ns:List Int},IntsAre vs ns->Vals (ns.map V.int) vs
 |_,_,.nil=>.nil
 |_,_,.cons n t h=>.cons #[t,rfl] (Lw h)
def Only(H:Hp):Prop:=∀b,H b=none\/∃o xs,H b=!(.frz o (.lst xs))
def Zv{K:FG}
 (KX:K.In s₁.heap) (hns:s₁.heap.Ns mainGlobals mg) (hb:s₁.heap.Ns builtinsNs mb) (hbb:∀x:Str,x ≠ "__name__"->mb x=bootBuiltins x) (hlim:s₁.heap.NoLimit) (hg:s₁.gens=(List.toArray []))
 (ha:s₁.heap.get? a=some { cls:=.type "list",data:=.seq vs.toArray }) (hi:IntsAre vs ns) (hl:ns.length<=sizeLine) (hr:rC k callerA)
 (F:∀base:Heap,K.In base->base.Ns mainGlobals mg->rD P w K mg base CX k fa fd [x] sp) (hbind:∀(s:Shared)(u:Value),BindsTo s fd #[[u],[]] [(x,u)])
 (hsp:∀H:Hp,Only H->cW K H a (ns.map V.int)->sp [.ref a] H (λv _=>v=.bl true) λ_ _ _=>False)
 (hCX:∀H e s',CX [] H s₁ (λ_ _ _=>False) e s'->False):
 codeAny (model P w) callerA (.call (.ref fa) #[[.ref a],[]]) (λr s'=>r=.ok (.ret (.bool true))/\OldK s₁.heap s'.heap/\s'.os=s₁.os/\AllBare s'.gens) s₁:=by
 have rv:=Lw hi;have lenV:=hi.length;have core:∀H:Hp,Only H->cW K H a (ns.map V.int)->kj P w H s₁.heap->(∀b,H b≠none->b=a)->(H a≠none->K.lookup a=none)->
  codeAny (model P w) callerA (.call (.ref fa) #[[.ref a],[]]) (λr s'=>r=.ok (.ret (.bool true))/\OldK s₁.heap s'.heap/\s'.os=s₁.os/\AllBare s'.gens) s₁:=by
  intro H hO hS hok hA hK;have base_of:∀{b:Addr}{o:Obj},s₁.heap.get? b=!o->H b=none->(Bh s₁.heap H).get? b=!o:=λe n=>Y4_ e n;have noA:∀{b:Addr}{o:Obj}{es:Array DictEntry}{ep:Nat},s₁.heap.get? b=!o->o.data=.dict es ep->H b=none:=λ{b o es ep} e d=>by
   cases q:H b with
   |none=>rfl
   |some u=>
    lia
  have nsK:∀{b:Addr}{m:Str->Option Value},s₁.heap.Ns b m->(Bh s₁.heap H).Ns b m:=λ{b m} ⟨o,es,ep,e,d,r⟩=>#[o,es,ep,base_of e (noA e d),d,r];have hKb:=λb o e=>base_of (KX b o e) (by
   cases q:H b with
   |none=>rfl
   |some u=>
    have e':=hA b ∅;subst e';rw[hK ∅]at e;cases e)
  have e0:GK P w K mg (Bh s₁.heap H) callerA [] s₁ H:=#[rfl,#[hKb,nsK hns,#[mb,nsK hb,hbb],let #[mc,h1,h2]:=hlim;#[mc,nsK h1,h2]],λb o e=>abJ e,Nat.le_of_eq (Wt _ _),trivial,λb hb=>absurd (show b∈([]:List Addr) from hb) (by simp),hok,.of_eq hg];show codeAny_mono ((F _ hKb (nsK hns)).run callerA [] s₁ H #[[.ref a],[]] [.ref a] [.ref a] _ _ hr e0 (hbind s₁ (.ref a)) (.cons rfl .nil) (hsp H hO hS)) λr s' h=>?_;cases r with
  |error e=>show(hCX H e s' h).elim
  |ok fl=>
   cases fl with
   |next=>show False.elim h
   |brk=>show False.elim h
   |cont=>show False.elim h
   |ret u=>
    let(v,H',os,bare,un,hok',r',q):=h;have q':=q;subst q';obtain rfl:u=Value.bool true:=r';show#[rfl,OldK.of_keep λb o e=>?_,os,bare];cases q:H b with
    |none=>show un.keep b o e q (by intro z;show absurd (show b∈([]:List Addr) from z) (by simp)) (by simp)
    |some u=>
     obtain z|⟨ob,xs,z⟩:=hO b
     . lia
     . have z2:=un.frzs b ob _ z;let(e1,_):=hok b _ z;let(e2,_):=hok' b _ z2;lia
 cases hk:K.lookup a with
 |some o=>
  have e:=KX a o hk;rw[ha]at e;cases e;show core (λ_=>none) (λ_=>.inl rfl) (.inr #[_,vs.toArray,_,hk,rfl,rfl,rfl,by rw[adW,lenV];show hl,by simpa using rv]) (λb u z=>by have z':=z;cases z') (λb z=>absurd rfl z) λz=>absurd rfl z
 |none=>
  show core (λb=>if b=a then !(.frz { cls:=.type "list",data:=.seq vs.toArray } (.lst (ns.map V.int))) else none) (λb=>?_) (.inl (.inr #[{ cls:=.type "list",data:=.seq vs.toArray },aic rfl])) (λb u z=>?_) (λb z=>?_) λ_=>hk
  . by_cases hb:b=a
    . lia
    . lia
  . by_cases hb:b=a
    . have z':=(aic hb).symm.trans z;cases z';subst hb;show#[ha,by rw[aaW];show hl,vs,_,rv,ha]
    . lia
  . by_cases hb:b=a
    . show hb
    . lia
def walk_of{l:W.OpenLaw}{K:Params->FG}{CX:World->Df}{sp:World->Sp}
 (hn:l.most=!n) (hn2:n<=sizeLine) (hdf:d.params.defaults=[]) (hr:rC k callerA)
 (hY_:∀(w:World)(h:Heap),YP w h->(K w.params).In h)
 (F:∀(w:World)(mg:Str->Option Value)(fa:Addr)(h:Heap),(K w.params).In h->h.Ns mainGlobals mg->mg d.name=!(.ref fa)->
   ∃fd:FuncData,(∀(s:Shared)(u:Value),BindsTo s fd #[[u],[]] [(x,u)])/\
    ∀base:Heap,(K w.params).In base->base.Ns mainGlobals mg->rD l.prog w (K w.params) mg base (CX w) k fa fd [x] (sp w))
 (hsp:∀(w:World)(H:Hp)(a:Addr)(ns:List Int),ns.length<=n->Only H->cW (K w.params) H a (ns.map V.int)->sp w [.ref a] H (λv _=>v=.bl true) λ_ _ _=>False)
 (hCX:∀(w:World)(H:Hp)(s:Shared)(e:Value)(s':Shared),CX w [] H s (λ_ _ _=>False) e s'->False):
 W.WalkO q loose XP YP l.row.toRowW d [] (λf vs=>PySem.call f vs):=by
 show Att.attach_call hn hdf λw s₀ s₁ mg mb fa o pm cd doc a vs ns G Y_ ho hd hcd hmg hobj hints hlen hg=>?_;have KX:=hY_ w _ Y_;let(fd,hb,hF):=F w mg fa _ KX G.T.g hmg;show Zv KX G.T.g G.T.b G.T.builtins G.T.nolimit hg hobj hints (agf hlen hn2) hr hF hb (λH hO hS=>hsp w H a ns hlen hO hS) λH e s'=>hCX w H s₁ e s'
def inClass(s:Stmt)(j:Nat):Stmt:=match s with
 |.ClassDef _ _ _ body _ _ _ _ _ _ _=>body.getD j (.Pass #[0,0,0,0])
 |_=>.Pass #[0,0,0,0]
def ul(s:Stmt):Arguments:=match s with
 |.FunctionDef _ a _ _ _ _ _ _ _ _=>a
 |_=>{ posonlyargs:=[],args:=[],vararg:=none,kwonlyargs:=[],kw_defaults:=[],kwarg:=none,defaults:=[] }
def lw(s:Stmt):List Stmt:=match s with
 |.FunctionDef _ _ b _ _ _ _ _ _ _=>b
 |_=>[]
def aK(s:Stmt):Scope:=match s with
 |.FunctionDef _ _ _ _ _ _ sc _ _ _=>sc
 |_=>{ kind:=.function,names:=[],isGenerator:=false,isCoroutine:=false }
abbrev uf:Df:=λ_ _ _ _ _ _=>False
abbrev E0:XK:=λ_ _ _=>False
def Ia:Do uf X E0:=λ_ _ _ _ _ _ _ h=>h.elim
structure ye(K:FG)(x qual:Str)(st:Stmt)(f:Addr)(fd:FuncData):Prop where
 ex:∃(oc:Value)(od:Option Addr)(kV doc pm:Value)(an:Option Addr)(cdv ct:Value)(osl:Array (Option Value)),
  fd=W.fnOf x qual (ul st) (lw st) (aK st) .none kV doc pm an cdv ct/\K.lookup f=!#[oc,od,.func fd,osl]/\W.codeIn K cdv qual=true
 kp:W.keepIn K (.ref f)=true
section
variable {P:Program}{w:World}{K:FG}{mg:Str->Option Value}{base:Heap}
def ye.ok{st:Stmt}(F:ye K x qual st f fd)(S:bw N ps (aK st))(len:∀vs H Q E,sp vs H Q E->vs.length=ps.length)
 (hbody:∀(cdv:Value)(A:Around)(outer:List Env)(s:Shared)(H:Hp)(vs:List V)(Q:VK)(E:XK),iI b k (A.deeper (envOfC qual (aK st) s.heap.objs.size f cdv))->sp vs H Q E->
   ∃t,kZ (yd b uf P w K mg base N qual (aK st) f cdv A outer s H E).nox (lw st) t/\t { nx:=λ_ H'=>Q .non H',rt:=Q } (start N vs) H):vU b P w K mg base uf (k+1) f fd ps sp:=by
 let(oc,od,kV,doc,pm,an,cdv,ct,osl,rfl,lk,hcd):=F.ex;show aft lk hcd S len λA outer s H vs Q E hr hsp=>?_;let(t,h,q):=hbody cdv A outer s H vs Q E hr hsp;show#[t,h.nox,q]
def ye.binds{st:Stmt}(F:ye K x qual st f fd)
 (h:∀(kV doc pm:Value)(an:Option Addr)(cdv ct:Value)(us:List Value),us.length=ps.length->bindArgs (W.fnOf x qual (ul st) (lw st) (aK st) .none kV doc pm an cdv ct) #[us,[]]=pure (ps.zip us)):Binds K fd ps []:=by
 let(oc,od,kV,doc,pm,an,cdv,ct,osl,rfl,lk,hcd):=F.ex;show .all (h kV doc pm an cdv ct)
def Dp{st:Stmt}{kV doc pm cdv ct:Value}(l:K.lookup f=!#[oc,od,.func (W.fnOf x qual (ul st) (lw st) (aK st) .none kV doc pm an cdv ct),osl])
 (c:W.codeIn K cdv qual=true) (k:W.keepIn K (.ref f)=true):ye K x qual st f (W.fnOf x qual (ul st) (lw st) (aK st) .none kV doc pm an cdv ct):=#[#[oc,od,kV,doc,pm,an,cdv,ct,osl,rfl,l,c],k]
end
def cA(hr:iI b k A):A.units+1<cLine:=ahO () hr.units
section
variable {X:Cx}
def pv(i:Nat){pos:Pos}(hN:X.N[i]?=!x:=by rfl)(hv:Wu X.env.scope x:=by first |show Or.inl rfl |show Or.inr (Or.inl rfl) |show Or.inr (Or.inr rfl))(hd:(x==("__debug__" : Str))=false:=by decide)
 (hcd:(x==("__classdict__" : Str))=false:=by decide):PE X (.Name x pos) (wK i):=adf hN hv hd hcd
end
def fM(H H':Hp):Prop:=∀b o,H b=!o->H' b=!o
def fM.refl(H:Hp):fM H H:=λ_ _ h=>h
def fM.trans(a:fM H H1)(b:fM H1 H2):fM H H2:=λc o h=>b c o (a c o h)
def fM.free(e:fM H H')(h:H' l=Option.none):H l=Option.none:=by
 cases q:H l with
 |none=>rfl
 |some o=>
  rw[e l o q]at h;cases h
def fM.seq{K:FG}(e:fM H H')(h:cW K H a xs):cW K H' a xs:=by
 obtain (h|⟨o,h⟩)|h:=h
 . show .inl (.inl (e _ _ h))
 . show .inl (.inr #[o,e _ _ h])
 . show .inr h
section
variable {κ:Type}[DecidableEq κ]
def pD(kvs:List (κ×V))(k:κ):Option V:=(kvs.find? λkv=>decide (kv.1=k)).map (·.2)
def putK(kvs:List (κ×V))(k:κ)(v:V):List (κ×V):=
 if (kvs.any λkv=>decide (kv.1=k))=true then kvs.map (λkv=>if kv.1=k then (kv.1,v) else kv) else kvs++[(k,v)]
def Bq{k:κ}(e:p.1=k):pD (p::r) k=!p.2:=by simp[pD,e]
def Br{k:κ}(e:¬ p.1=k):pD (p::r) k=pD r k:=by simp[pD,e]
theorem Bt(k:κ):∀kvs:List (κ×V),(kvs.any λkv=>decide (kv.1=k))=(pD kvs k).isSome
 |[]=>rfl
 |p::r=>by
  rw[ah2];by_cases e:p.1=k
  . simp only[Bq e,aig e,Bool.true_or,Option.isSome_some]
  . rw[Br e,aif e,Bool.false_or];show Bt k r
def yP(kvs:List (κ×V))(k:κ)(v:V):(putK kvs k v).length<=kvs.length+1:=by
 unfold putK;split
 . rw[aaW];lia
 . rw[aaU,aa9,agO];lia
def Zw{k:κ}(v:V)(h:pD kvs k=none):putK kvs k v=kvs++[(k,v)]:=by unfold putK;rw[Bt,h];lia
def qD.isSome_eq(r:qD o u):o.isSome=u.isSome:=by
 cases o with
 |none=>cases u with
  |none=>rfl
  |some _=>show(r).elim
 |some _=>cases u with
  |none=>show(r).elim
  |some _=>rfl
def KV.val(r:KV kvs vs)(k:κ):qD (pD kvs k) (valueAt vs k):=by
 induction r with
 |nil=>show True.intro
 | @cons p q ps qs h t ih=>
  let(h1,h2):=h;by_cases e:p.1=k
  . have e':=h1.symm.trans e;have b:valueAt (q::qs) k=!q.2:=by simp[valueAt,e']
    rw[Bq e,b];show h2
  . have e':¬ q.1=k:=λz=>e ∅;have b:valueAt (q::qs) k=valueAt qs k:=by simp[valueAt,e']
    rw[Br e,b];lia
def KV.any(r:KV kvs vs)(k:κ):(kvs.any λkv=>decide (kv.1=k))=vs.any λkv=>decide (kv.1=k):=by
 unfold KV at r;induction r with
 |nil=>rfl
 |cons h t ih=>rw[ah2,ah2,ih,h.1]
def KV.repl(r:KV kvs vs)(k:κ)(ry:RelV y u):
 KV (kvs.map λkv=>if kv.1=k then (kv.1,y) else kv) (vs.map λkv=>if kv.1=k then (kv.1,u) else kv):=by
 unfold KV at r ⊢;induction r with
 |nil=>show .nil
 | @cons p q ps qs h t ih=>
  rw[af8,af8];show .cons ?_ ih;let(h1,h2):=h;by_cases e:p.1=k
  . rw[aic e,aic (h1.symm.trans e)];show#[h1,ry]
  . rw[aid e,aid (λz=>e (h1.trans z))];show#[h1,h2]
def KV.put(r:KV kvs vs)(k:κ)(ry:RelV y u):KV (putK kvs k y) (stored vs k u):=by
 unfold putK stored;rw[r.any k];by_cases e:(vs.any λkv=>decide (kv.1=k))=true
 . rw[aic e,aic e];show r.repl k ry
 . rw[aid e,aid e];show Paired.snoc r #[rfl,ry]
def KV.length{vs:List (κ×Value)}(r:KV kvs vs):kvs.length=vs.length:=Paired.length r
end
def Ey(r:RelV (kV k) u):(fH P w).is k u=true:=by
 cases k with
 |inl i=>let(t,e):=(r);subst e;show RD P w i t
 |inr x=>let(t,e):=(r);subst e;show RG P w x t
theorem Lx:∀{ks:List Key}{us:List Value},Vals (ks.map kV) us->ItemsAre (fH P w) ks us
 |[],_=>λr=>by  cases r;show .nil
 |k::ks,_=>λr=>by
  cases r with
  |cons h t=>show .cons (Ey h) (Lx t)
abbrev KT(H:Hp):List (List Key×V)->List (List Key×Addr×Value)->Prop:=Paired λp q=>p.1=q.1/\H q.2.1=!(.tup (p.1.map kV))/\RelV p.2 q.2.2
def KT.val(r:KT H kvs xs)(k:List Key):qD (pD kvs k) ((atKey xs k).map (·.2)):=by
 induction r with
 |nil=>show True.intro
 | @cons p q ps qs h t ih=>
  let(h1,_,h2):=h;by_cases e:p.1=k
  . have e':=h1.symm.trans e;have b:atKey (q::qs) k=!q.2:=by simp[atKey,e']
    rw[Bq e,b];show h2
  . have e':¬ q.1=k:=λz=>e ∅;have b:atKey (q::qs) k=atKey qs k:=by simp[atKey,e']
    rw[Br e,b];lia
def KT.repl(r:KT H kvs xs)(k:List Key)(ry:RelV y u):
 KT H (kvs.map λkv=>if kv.1=k then (kv.1,y) else kv) (xs.map (putAt k u)):=by
 induction r with
 |nil=>show .nil
 | @cons p q ps qs h t ih=>
  rw[af8,af8];show .cons ?_ ih;let(h1,h2,h3):=h;unfold putAt;by_cases e:p.1=k
  . rw[aic e,aic (h1.symm.trans e)];show#[h1,h2,ry]
  . rw[aid e,aid (λz=>e (h1.trans z))];show#[h1,h2,h3]
def KT.put(r:KT H kvs xs)(k:List Key)(hb:H b=!(.tup (k.map kV)))(ry:RelV y u):
 KT H (putK kvs k y) (storedH xs k b u):=by
 have e:(kvs.any λkv=>decide (kv.1=k))=(atKey xs k).isSome:=by rw[Bt,(r.val k).isSome_eq,Option.isSome_map]
 unfold putK storedH;rw[e];by_cases q:(atKey xs k).isSome=true
 . rw[aic q,aic q];show r.repl k ry
 . rw[aid q,aid q];show Paired.snoc r #[rfl,hb,ry]
def KT.keeps(r:KT H kvs xs)(ht:∀b ys,H b=!(.tup ys)->H' b=!(.tup ys)):KT H' kvs xs:=
 Paired.mapP r λ_ _ z=>#[z.1,ht _ _ z.2.1,z.2.2]
section
variable {P:Program}{w:World}{H:Hp}{h:Heap}{a:Addr}
def aa1(ok:kj P w H h)(e:Rd H a u):jw P w H h a u:=e.ok ok
def Bu(ok:kj P w H h)(e:Rd H a (.dK kvs)):kvs.length<=sizeLine/\(a==sysModules)=false/\∃vs,KV kvs vs/\h.DictOf (fH P w) a vs:=
 show jw P w H h a (.dK kvs) from aa1 ok e
def Ib(ok:kj P w H h)(e:H a=!(.dK kvs)):kvs.length<=sizeLine/\(a==sysModules)=false/\∃vs,KV kvs vs/\h.DictOf (fH P w) a vs:=Bu ok (.inl e)
def Ie(ok:kj P w H h)(e:H a=!(.tup (ks.map kV))):(tupleKind (fH P w)).is h ks a:=by let(_,its,r,o,h1,h2,n,h3):=(ok a _ e);show#[o,its.toArray,n,h1,h2,h3,by simpa using Lx r]
def Ig(ok:kj P w H h)(e:Rd H a (.dT kvs)):kvs.length<=sizeLine/\(a==sysModules)=false/\
 ∃xs,KT H kvs xs/\h.DictOfH (tupleKind (fH P w)) a xs:=by
 let(z,y,xs,r,o,es,ep,h1,h2,h3,h4,h5):=(show jw P w H h a (.dT kvs) from aa1 ok e);show#[z,y,xs,r,o,es,ep,h1,h2,h3,h4,λx hx=>?_,h5];have all:∀{l:List (List Key×V)} {m:List (List Key×Addr×Value)},KT H l m->∀x∈m,(tupleKind (fH P w)).is h x.1 x.2.1:=by
  intro l m q;induction q with
  |nil=>intro x hx;show nomatch hx
  | @cons p q ps qs hq t ih=>
   intro x hx;obtain e|hx:=abw.mp hx
   . subst e;show Ie ok (by rw[<-hq.1];show hq.2.1)
   . show ih x hx
 show all r x hx
def afv(ok:kj P w H h)(e:H a=!(.dT kvs)):kvs.length<=sizeLine/\(a==sysModules)=false/\
 ∃xs,KT H kvs xs/\h.DictOfH (tupleKind (fH P w)) a xs:=Ig ok (.inl e)
end
def J1(H:Hp)(a:Addr)(y:V)(r:Option V):Prop:=
 (∃kvs k,Rd H a (.dK kvs)/\y=kV k/\r=pD kvs k)\/∃kvs k b,Rd H a (.dT kvs)/\y=.ref b/\H b=!(.tup (k.map kV))/\r=pD kvs k
def adS(H:Hp)(a:Addr)(y v:V)(H':Hp):Prop:=
 (∃kvs k,H a=!(.dK kvs)/\y=kV k/\kvs.length<sizeLine/\H'=upd H a (.dK (putK kvs k v)))\/
 ∃kvs k b,H a=!(.dT kvs)/\y=.ref b/\H b=!(.tup (k.map kV))/\kvs.length<sizeLine/\H'=upd H a (.dT (putK kvs k v))
section
variable {X:Cx}{aki:List (Addr×Obj)}{U:St}{H:Hp}{s:Shared}{a:Addr}{y v:V}{u r:Value}{o:Option V}{A:Around}{E:Value->Shared->Prop}
def Inv.big(I:Inv X aki U H s):sysModules<s.heap.objs.size:=by have h:=(I.mod.glob.keeps I.bk).lt;show Nat.lt_trans () h
def W5(hu:A.units+1<cLine)(I:Inv X aki U H s)(g:J1 H a y (!v))(ry:RelV y u)(h:∀w' s',Inv X aki U H s'->RelV v w'->Q w' s'):
 wpAny (model X.prog X.w) A (getItem (.ref a) u) Q E s:=by
 obtain⟨kvs,k,e,ey,l⟩|⟨kvs,k,b,e,ey,eb,l⟩:=g
 . subst ey;let(z,hd,vs,rel,dd):=Bu I.hok e;let(w',hw,rw'):=qD.some_of (by rw[l];show rel.val k);show wpAny_getItem_of (Ey ry) dd.mapOf hw (h w' _ (I.tok _) rw')
 . subst ey;cases (ry);let(z,hd,xs,rel,dd):=Ig I.hok e;let(w',hw,rw'):=qD.some_of (by rw[l];show rel.val k);let(p,hp,hp2):=Option.map_eq_some_iff.mp hw;show wpAny_getItem_heap (tupleKind_room_in1 hu) (Ie I.hok eb) dd hp ?_;rw[hp2];show h w' _ (I.tok _) rw'
def agA(hu:A.units+1<cLine)(I:Inv X aki U H s)(g:J1 H a y o)(ry:RelV y u)(h:∀s',Inv X aki U H s'->Q (.bool o.isSome) s'):
 wpAny (model X.prog X.w) A (compareOp .In u (.ref a)) Q E s:=by
 obtain⟨kvs,k,e,ey,l⟩|⟨kvs,k,b,e,ey,eb,l⟩:=g
 . subst ey;let(z,hd,vs,rel,dd):=Bu I.hok e;show wpAny_in_of (Ey ry) hd dd.mapOf ?_;rw[<-(rel.val k).isSome_eq,<-l];show h _ (I.tok _)
 . subst ey;cases (ry);let(z,hd,xs,rel,dd):=Ig I.hok e;show wpAny_in_heap (tupleKind_room_in1 hu) (Ie I.hok eb) hd dd ?_;have q:=(rel.val k).isSome_eq;rw[Option.isSome_map]at q;rw[<-q,<-l];show h _ (I.tok _)
def zy(I:Inv X aki U H s)(mu:Ws (H a))(hs:Heap.SameBut a s.heap h')(he:∃q,h'.get? a=!q)(new:jw X.prog X.w (upd H a ob) h' a ob):
 Inv X aki U (upd H a ob) { s with heap:=h',toks:=t' }:=
 I.write mu (.inl rfl) (λb q hb z=>(hs.2 b hb).trans z) he new
def Ih(z:kvs.length<=sizeLine)(hd:(a==sysModules)=false)(rel:KV kvs vs)(dd:h'.DictOf (fH P w) a vs):
 jw P w H' h' a (.dK kvs):=#[z,hd,vs,rel,dd]
def W6(hu:A.units+1<cLine)(I:Inv X aki U H s)(g:adS H a y v H')(ry:RelV y u)(rv:RelV v r)(h:∀s',Inv X aki U H' s'->Q #[] s'):
 wpAny (model X.prog X.w) A (setItem (.ref a) u r) Q E s:=by
 obtain⟨kvs,k,e,ey,l,eH⟩|⟨kvs,k,b,e,ey,eb,l,eH⟩:=g
 . subst ey eH;let(z,hd,vs,rel,dd):=Ib I.hok e;have hz:vs.length<=sizeLine:=by rw[<-rel.length];show z
   have hl:(putK kvs k v).length<=sizeLine:=by have:=yP kvs k v;lia
   show wpAny_setItem_pairs (Ey ry) dd λh' dd' hs=>h _ ?_;have he:∃q,h'.get? a=!q:=let #[q,_,_,hq,_]:=dd';#[q,hq];show zy I (by rw[e];show True.intro) hs he (Ih hl hd (rel.put k rv) dd')
 . subst ey eH;cases (ry);let(z,hd,xs,rel,dd):=afv I.hok e;have hz:xs.length<=sizeLine:=by rw[<-Paired.length rel];show z
   have hl:(putK kvs k v).length<=sizeLine:=by have:=yP kvs k v;lia
   show wpAny_setItem_heap (tupleKind_room_in1 hu) (Ie I.hok eb) dd λh' dd' hs=>h _ ?_;let(q,es,ep,hq,h2,h3,h4,_,h5):=dd';show zy I (by rw[e];show True.intro) hs #[q,hq] #[hl,hd,_,(rel.put k eb rv).keeps λc ys ec=>?_,q,es,ep,hq,h2,h3,h4,h5];rw[dC ∅];show ec
end
section
variable {X:Cx}{aki:List (Addr×Obj)}{U:St}{H:Hp}{s:Shared}{a:Addr}{kvs:List (Key×V)}{k:Key}{u:Value}{A:Around}{E:Value->Shared->Prop}
end
def RJ{U:St}(I:Inv X aki U H s)(g:J1 H a y o):s.TypeIs (.ref a) "dict":=by
 obtain⟨kvs,k,e,_⟩|⟨kvs,k,b,e,_⟩:=g
 . let(_,_,vs,_,dd):=Bu I.hok e;show dd.typeIs
 . let(_,_,xs,_,dd):=Ig I.hok e;show dd.typeIs
section
variable {X:Cx}{o i e value:Expr}{pos pos' tpos:Pos}{td ty tv:TE}
end
def Ov(h:Heap)(hb:sysModules<h.objs.size):jw P w H (h.push { cls:=.type "dict",data:=.dict (List.toArray []) }) h.objs.size (.dK []):=
 #[agY _,aih.mpr (Ne.symm (agQ hb)),[],.nil,Heap.DictOf.new h]
def adT:TE:=λ_ H Q=>∀p,H p=none->Q (.ref p) (upd H p (.dK []))
section
variable {X:Cx}{pos:Pos}
def Zx:PE X (.Dict [] [] pos) adT:=λaki s U H Q I h=>
 wpAny_Dict_empty #[.ref s.heap.objs.size,_,I.laid (λ_ _ q=>abj _ q) () (Ov s.heap I.big),rfl,h _ (I.hok.fresh ())]
end
def Ii:List (TE×TE)->St->Hp->(List (V×V)->Hp->Prop)->Prop
 |[],_,H,Q=>Q [] H
 |(tk,tv)::r,U,H,Q=>tk U H λx H1=>tv U H1 λy H2=>Ii r U H2 λps H3=>Q ((x,y)::ps) H3
abbrev VV:List (V×V)->List (Value×Value)->Prop:=Paired λp q=>RelV p.1 q.1/\RelV p.2 q.2
def W7(X:Cx)(pos:Pos)(keys:List (Option Expr))(values:List Expr)(trs:List (TE×TE)):Prop:=
 ∀(aki:List (Addr×Obj))(s:Shared)(U:St)(H:Hp)(Q:List (V×V)->Hp->Prop),Inv X aki U H s->Ii trs U H Q->
  wpAny (model X.prog X.w) X.A (evalPairs (pairTrees keys values X.env pos)) (λvs s'=>∃ps H',Inv X aki U H' s'/\VV ps vs/\Q ps H') X.xe s
def ab2:W7 X pos [] [] []:=λaki s U H Q I h=>pairTrees_nil_walk #[[],H,I,.nil,h]
def Zy(hk:PE X k tk)(hv:PE X v tv)(hr:W7 X pos ks vs trs):
 W7 X pos (some k::ks) (v::vs) ((tk,tv)::trs):=λaki s U H Q I h=>
 pairTrees_cons_walk (cP (hk aki s U H _ I h) λu s1 ⟨x,H1,I1,rx,q1⟩=>cP (hv aki s1 U H1 _ I1 q1) λw2 s2 ⟨y,H2,I2,ry,q2⟩=>
  cP (hr aki s2 U H2 _ I2 q2) λws s3 ⟨ps,H3,I3,rel,q3⟩=>#[(x,y)::ps,H3,I3,.cons #[rx,ry] rel,q3])
def mF(kvs more:List (Key×V)):List (Key×V):=more.foldl (λacc kv=>putK acc kv.1 kv.2) kvs
def KV.merge:∀{more:List (Key×V)}{rs:List (Key×Value)}{kvs:List (Key×V)}{vs:List (Key×Value)},KV more rs->KV kvs vs->KV (mF kvs more) (merged vs rs):=by
 intro more rs kvs vs r;induction r generalizing kvs vs with
 |nil=>intro q;show q
 | @cons p q ps qs h t ih=>
  intro r0;have e:KV (putK kvs p.1 p.2) (stored vs q.1 q.2):=by have:=r0.put p.1 h.2;rw[<-h.1];show this
  show ih e
theorem vA:∀(more kvs:List (Key×V)),(mF kvs more).length<=kvs.length+more.length
 |[]=>λkvs=>by show kvs.length<=kvs.length+0;lia
 |p::r=>λkvs=>by have h1:=vA r (putK kvs p.1 p.2);have h2:=yP kvs p.1 p.2;show (mF (putK kvs p.1 p.2) r).length<=_;lia
theorem Ij:∀{kvs:List (Key×V)}{ws:List (Value×Value)},VV (kvs.map λkv=>(kV kv.1,kv.2)) ws->∃rs,Carries (fH P w) ws rs/\KV kvs rs
 |[],_=>λr=>by  cases r;show#[[],True.intro,.nil]
 |p::kvs,_=>λr=>by
  cases r with
  | @cons a b as bs h t=>
   let(rs,c,q):=Ij t;let(b1,b2):=b;show#[(p.1,b2)::rs,#[Ey h.1,rfl,c],.cons #[rfl,h.2] q]
def afw(trs:List (TE×TE)):TE:=λU H Q=>∀p,H p=none->Ii trs U (upd H p (.dK [])) λps H2=>H2 p=!(.dK [])/\∃kvs:List (Key×V),ps=kvs.map (λkv=>(kV kv.1,kv.2))/\kvs.length<=15/\Q (.ref p) (upd H2 p (.dK (mF [] kvs)))
def ab3(h:W7 X pos keys values trs)(hall:keys.all (·.isSome)=true)(hl:keys.length=values.length)(h0:keys≠[])
 (h15:keys.length<=15):PE X (.Dict keys values pos) (afw trs):=by
 intro aki s U H Q I q;have hn:=I.hok.fresh (aa0 s.heap.objs.size);have I1:=I.laid (t':=s.toks) (λ_ _ q=>abj _ q) () (Ov s.heap I.big);show wpAny_Dict_walk (knd:=fH X.prog X.w) hall hl h0 h15 (cP (h aki _ U _ _ I1 (q _ hn)) λws s2 z50=>?_);let(ps,H2,I2,rel,e,kvs,ep,lk,q2):=z50;subst ep;let(rs,c,rk):=Ij rel;let(z,hd,vs0,r0,dd):=Ib I2.hok e;cases r0;show#[rs,c,dd,λh' dd' hs=>#[.ref s.heap.objs.size,_,?_,rfl,q2]];have hz:(mF [] kvs).length<=sizeLine:=by have h1:=vA kvs [];rw[agO]at h1;rw[sizeLine_eq];lia
 have he:∃q,h'.get? s.heap.objs.size=!q:=let #[q,_,_,hq,_]:=dd';#[q,hq];show zy I2 (by rw[e];show True.intro) hs he (Ih hz hd (rk.merge .nil) dd')
structure M1(X:Cx)(o:Expr)(m:Str)(apos:Pos)(e:Expr)(cpos:Pos):Prop where
 base:attributeBase o m X.env (eval o X.env)=eval o X.env
 few:((backTo cpos (starEach [e] X.env)).all (λx=>not x.1)&&(backToKw cpos (keywordEach [] X.env)).all (λx=>x.1.isSome)
  && decide (([e]:List Expr).length+([]:List Keyword).length+(if ([]:List Keyword).isEmpty then 0 else 1)<30))=true
 line:(apos.endLine==cpos.line)=true
 trees:backTo cpos (starEach [e] X.env)=[(false,eval e X.env)]
structure M2(X:Cx)(o:Expr)(m:Str)(apos:Pos)(e f:Expr)(cpos:Pos):Prop where
 base:attributeBase o m X.env (eval o X.env)=eval o X.env
 few:((backTo cpos (starEach [e,f] X.env)).all (λx=>not x.1)&&(backToKw cpos (keywordEach [] X.env)).all (λx=>x.1.isSome)
  && decide (([e,f]:List Expr).length+([]:List Keyword).length+(if ([]:List Keyword).isEmpty then 0 else 1)<30))=true
 line:(apos.endLine==cpos.line)=true
 trees:backTo cpos (starEach [e,f] X.env)=[(false,eval e X.env),(false,eval f X.env)]
def IsD(H:Hp)(a:Addr):Prop:=(∃kvs,Rd H a (.dK kvs))\/∃kvs,Rd H a (.dT kvs)
def adU{U:St}(I:Inv X aki U H s)(d:IsD H a):
 s.TypeIs (.ref a) "dict"/\(∀b,Value.ref a=.ref b->∃ob,s.heap.get? b=!ob/\ob.dict=none)/\(a==sysModules)=false:=by
 obtain⟨kvs,e⟩|⟨kvs,e⟩:=d
 . let(_,hd,vs,_,dd):=Bu I.hok e;show#[dd.typeIs,λb q=>?_,hd];cases q;let(ob,_,_,h1,h2,_):=dd;show#[ob,h1,h2.2.1]
 . let(_,hd,xs,_,dd):=Ig I.hok e;show#[dd.typeIs,λb q=>?_,hd];cases q;let(ob,_,_,h1,h2,_):=dd;show#[ob,h1,h2.2.1]
section
variable {X:Cx}{aki:List (Addr×Obj)}{U:St}{H:Hp}{s:Shared}{a:Addr}{y d:V}{u r:Value}{o:Option V}{A:Around}{E:Value->Shared->Prop}
end
section
variable {X:Cx}{o e f:Expr}{apos cpos:Pos}{td ty tx:TE}
end
section
variable {X:Cx}{aki:List (Addr×Obj)}{U:St}{H:Hp}{s:Shared}{a:Addr}{kvs:List (Key×V)}{A:Around}{E:Value->Shared->Prop}
def Zz(I:Inv X aki U H s)(e:Rd H a (.dK kvs))(h:∀p s',H p=none->Inv X aki U (upd H p (.dK kvs)) s'->Q (.ref p) s'):wpAny (model X.prog X.w) A (call (.type "dict") [.ref a]) Q E s:=by let(z,hd,vs,rel,dd):=Bu I.hok e;show kt_call_dict hd dd (by rw[<-rel.length];show z) λh' dd' hs=>?_;show h _ _ (I.hok.fresh ()) (I.laid (λb q hq=>?_) () (Ih z (aih.mpr (Ne.symm (agQ I.big))) rel dd'));show(hs.2 b (agQ (aeq hq))).trans (abj _ hq)
end
section
variable {X:Cx}{aki:List (Addr×Obj)}{U:St}{H:Hp}{s:Shared}{a:Addr}{y:V}{u:Value}{A:Around}{E:Value->Shared->Prop}
end
section
variable {X:Cx}
end
section
variable {κ:Type}[DecidableEq κ]
end
noncomputable def yf(names:List (Str×NameKind))(env:Env):List (Str×Addr):=names.foldl (λcs p=>if (p.2==NameKind.free)=true then (p.1,(env.cells.lookup p.1).getD 0)::cs else cs) []
theorem Dq{env:Env}:∀(names:List (Str×NameKind))(cs:List (Str×Addr))(x:Str)(c:Addr),
 (∀y d,cs.lookup y=!d->d=(env.cells.lookup y).getD 0)->
 (names.foldl (λcs p=>if (p.2==NameKind.free)=true then (p.1,(env.cells.lookup p.1).getD 0)::cs else cs) cs).lookup x=!c->c=(env.cells.lookup x).getD 0
 |[]=>λcs x c h e=>h x c e
 |(n,k)::r=>λcs x c h e=>by
  simp only[aho]at e;show Dq r _ x c ?_ e;intro y d q;split at q
  . simp only[ag0]at q;split at q
    . rename_i z;have z':y=n:=by simpa using z
      lia
    . lia
  . lia
theorem Ik{env:Env}:∀(names:List (Str×NameKind))(cs:List (Str×Addr))(x:Str)(c:Addr),
 (names.foldl (λcs p=>if (p.2==NameKind.free)=true then (p.1,(env.cells.lookup p.1).getD 0)::cs else cs) cs).lookup x=!c->(∃d,cs.lookup x=!d)\/(x,NameKind.free)∈names
 |[]=>λcs x c e=>.inl #[c,e]
 |(n,k)::r=>λcs x c e=>by
  simp only[aho]at e;obtain⟨d,q⟩|q:=Ik r _ x c e
  . split at q
    . rename_i hk;simp only[ag0]at q;split at q
      . rename_i z;have z':x=n:=by simpa using z
        have k':k=NameKind.free:=by simpa using hk
        lia
      . lia
    . lia
  . lia
theorem Dr{env:Env}:∀(names:List (Str×NameKind))(cs:List (Str×Addr))(x:Str),
 ((∃d,cs.lookup x=!d)\/(x,NameKind.free)∈names)->∃c,(names.foldl (λcs p=>if (p.2==NameKind.free)=true then (p.1,(env.cells.lookup p.1).getD 0)::cs else cs) cs).lookup x=!c
 |[]=>λcs x h=>by
  obtain h|h:=h
  . show h
  . cases h
 |(n,k)::r=>λcs x h=>by
  simp only[aho];show Dr r _ x ?_;obtain⟨d,h⟩|h:=h
  . left;split
    . simp only[ag0];split
      . lia
      . lia
    . lia
  . obtain e|h:=abw.mp h
    . left;cases e;simp
    . lia
theorem vB:∀(names:List (Str×NameKind))(cs:List (Str×Addr)),(∀p∈names,p.2=NameKind.free->∃c,env.cells.lookup p.1=!c)->
 (forIn names cs λp r=>if (p.2==NameKind.free)=true then do let a <-cellOf env p.1;pure (ForInStep.yield ((p.1,a)::r)) else pure (ForInStep.yield r):Sem (List (Str×Addr)))=
  pure (names.foldl (λcs p=>if (p.2==NameKind.free)=true then (p.1,(env.cells.lookup p.1).getD 0)::cs else cs) cs)
 |[]=>λcs _=>by simp
 |(n,k)::r=>λcs h=>by
  rw[aia,aho];by_cases hk:(k==NameKind.free)=true
  . let(c,hc):=h (n,k) aaV ∅;have hc':=hc;simp only[hk,cellOf,hc'];show vB r _ λp hp=>h p (abl _ hp)
  . simp only[hk];show vB r _ λp hp=>h p (abl _ hp)
def Dg(h:∀p∈sc.names,p.2=NameKind.free->∃c,env.cells.lookup p.1=!c):closureFor sc env=pure (yf sc.names env):=by have:=vB (env:=env) sc.names [] h;unfold closureFor yf;rw[<-this];simp only[bind_pure]
theorem um{env:Env}:∀(names:List (Str×NameKind))(x:Str),
 (names.map λ(n,k)=>if (k==NameKind.free&&env.scope.kind==.function&&env.kindOf n==!.cell) then (n,NameKind.cell) else (n,k)).lookup x=
  (names.lookup x).map λk=>if (k==NameKind.free&&env.scope.kind==.function&&env.kindOf x==!.cell) then NameKind.cell else k
 |[]=>λx=>rfl
 |(n,k)::r=>λx=>by
  have ih:=um (env:=env) r x;simp only[af8];by_cases hx:x=n
  . subst hx;split<;>simp_all
  . have hb:(x==n)=false:=aih.mpr hx;split<;>simp only[ag0,hb,ih]
theorem lV:∀(names:List (Str×NameKind))(n:Nat)(acc:List (Str×Addr)),(cellsFrom n names acc).lookup x=!a->n<=a\/acc.lookup x=!a
 |[]=>λ_ _ h=>.inr h
 |(y,k)::r=>λn acc h=>by
  unfold cellsFrom at h;split at h
  . obtain q|q:=lV r _ _ h
    . lia
    . rw[ag0]at q;split at q
      . lia
      . lia
  . show lV r _ _ h
theorem Ds:∀(names:List (Str×NameKind))(n:Nat)(acc:List (Str×Addr)),(∀z b,acc.lookup z=!b->b<n)->(cellsFrom n names acc).lookup x=!a->(cellsFrom n names acc).lookup y=!a->n<=a->x=y
 |[]=>λ_ _ h h1 h2 h3=>absurd (h _ _ h1) (Nat.not_lt.mpr h3)
 |(z,k)::r=>λn acc h h1 h2 h3=>by
  unfold cellsFrom at h1 h2;split at h1
  . rename_i hk;rw[aic hk]at h2;have one:∀{w:Str},(cellsFrom (n+1) r ((z,n)::acc)).lookup w=!a->a=n->w=z:=λ{w} e e'=>by
     obtain q|q:=lV r _ _ e
     . show absurd q (by rw[e'];show Nat.not_succ_le_self n)
     . rw[ag0]at q;split at q
       . rename_i hw;show beq_iff_eq.mp hw
       . show absurd (h _ _ q) (by rw[e'];show ahj _)
    by_cases e:a=n
    . show(one h1 e).trans (one h2 e).symm
    . show Ds r (n+1) _ (λw b q=>?_) h1 h2 (Nat.lt_of_le_of_ne h3 (Ne.symm e));rw[ag0]at q;split at q
      . cases q;show ahf _
      . show aht (h _ _ q)
  . rename_i hk;rw[aid hk]at h2;show Ds r n acc h h1 h2 h3
theorem Dt:∀(names:List (Str×NameKind))(n:Nat)(acc:List (Str×Addr)),names.lookup x=!.cell->(cellsFrom n names acc).lookup x=!a->n<=a
 |[]=>λ_ _ h _=>by cases h
 |(y,k)::r=>λn acc h h1=>by
  rw[ag0]at h;unfold cellsFrom at h1;split at h
  . rename_i hy;cases h;obtain q|q:=lV r _ _ h1
    . lia
    . lia
  . split at h1
    . show ahs (Dt r _ _ h h1)
    . show Dt r _ _ h h1
theorem Du:∀(names:List (Str×NameKind))(n:Nat)(acc:List (Str×Addr)),(∀p∈names,p.2=.cell->p.1≠x)->(cellsFrom n names acc).lookup x=acc.lookup x
 |[]=>λ_ _ _=>rfl
 |(y,k)::r=>λn acc h=>by
  unfold cellsFrom;split
  . rename_i hk;rw[Du r _ _ λp hp=>h p (abl _ hp),ag0,show (x==y)=false from aih.mpr λe=>h _ aaV ∅ e.symm]
  . show Du r _ _ λp hp=>h p (abl _ hp)
theorem Bv:∀(names:List (Str×NameKind))(h:Heap)(acc:List (Str×Addr))(x:Str)(a:Addr),(cellsFrom h.objs.size names acc).lookup x=!a->h.objs.size<=a->(∀z b,acc.lookup z=!b->b<h.objs.size)->(pushCells h names).IsCell a none
 |[]=>λh acc x a e hl hb=>absurd (hb _ _ e) (Nat.not_lt.mpr hl)
 |(y,k)::r=>λh acc x a e hl hb=>by
  unfold cellsFrom at e;unfold pushCells;split at e
  . rename_i hk;rw[aic hk];have hz:=ahw h ({ cls:=.type "cell",data:=.cell none }:Obj);by_cases q:a=h.objs.size
    . subst q;show#[_,pushCells_keeps r _ _ _ (aga _ rfl),rfl]
    . show Bv r _ ((y,h.objs.size)::acc) x a (by rw[hz];show e) (by rw[hz];show Nat.lt_of_le_of_ne hl (Ne.symm q)) λz b q'=>?_;rw[hz];rw[ag0]at q';split at q'
      . cases q';show ahf _
      . show aht (hb _ _ q')
  . rename_i hk;rw[aid hk];show Bv r h acc x a e hl hb
abbrev rE(sc:Scope)(C:Addr)(env:Env):List (Str×Addr):=cellsFrom (C+1) sc.names (yf sc.names env)
structure lG(X:Cx)(M F:List Str)(ixs:List Nat)(sc:Scope):Prop where
 kind:sc.kind=.function
 locs:∀y∈sc.names,y.2=.local->sc.names.lookup y.1=!.local
 cel:∀y∈sc.names,y.2=.cell->sc.names.lookup y.1=!.cell
 own:∀p∈sc.names,p.2=.free->X.env.scope.names.lookup p.1=!.cell\/X.env.scope.names.lookup p.1=!.free
 frs:∀x∈F,sc.names.lookup x=!.free
 ixl:ixs.length=F.length
 ixn:∀(j i:Nat),ixs[j]?=!i->X.N[i]?=F[j]?
abbrev Dv(m:Nat)(ixs:List Nat)(U:St):St:=List.replicate m none++ixs.map λi=>(U[i]?).join
def jb(X:Cx)(M F:List Str)(sc:Scope)(C:Addr)(fp:List Addr)(s:Shared)(H:Hp):Cx where
 prog:=X.prog
 w:=X.w
 K:=X.K
 mg:=X.mg
 base:=X.base
 A:=X.A
 N:=M++F
 s₀:=s
 H0:=H
 env:=compEnvC sc (rE sc C X.env) C X.env
 outer:=X.stack
 stack:=X.stack
 ex:=fp
 fn:=λx=>sc.names.lookup x==!.cell
 calm:=X.calm
 pn:=[]
 xe:=λ_ _=>False
section
variable {X:Cx}{aki:List (Addr×Obj)}{U:St}{H:Hp}{s:Shared}
def lG.free_of(c:lG X M F ixs sc)(h:sc.names.lookup x=!k):(x,k)∈sc.names:=by
 generalize sc.names=l at h;induction l with
 |nil=>cases h
 |cons p r ih=>
  rw[ag0]at h;split at h
  . rename_i z;have z':x=p.1:=by simpa using z
    have e:p.2=k:=af7 h;subst e;rw[z'];show aaV
  . show abl _ (ih h)
def GR(I:Inv X aki U H s)(c:lG X M F ixs sc):∀p∈sc.names,p.2=NameKind.free->∃a,X.env.cells.lookup p.1=!a:=λp hp e=>
 I.ok.has p.1 (by obtain h|h:=c.own p hp e;show .inl h;show .inr h)
def jX(I:Inv X aki U H s)(c:lG X M F ixs sc)(h:(yf sc.names X.env).lookup x=!a):X.env.cells.lookup x=!a:=by
 have e:=Dq sc.names [] x a (λy d q=>by cases q) h;obtain⟨d,q⟩|q:=Ik sc.names [] x a h
 . cases q
 . let(b,hb):=GR I c _ q rfl;lia
def W8(I:Inv X aki U H s)(c:lG X M F ixs sc)(h:(yf sc.names X.env).lookup x=!a):a<s.heap.objs.size:=by let(v,o,ho,_):=I.cell x a (jX I c h);show aeq ho
def ab4(I:Inv X aki U H s)(c:lG X M F ixs sc){C:Addr}(hC:s.heap.objs.size<=C)(hf:∀b∈fp,rB X aki H b)(ho:∀b∈fp,∃o,s.heap.get? b=!o):(jb X M F sc C fp s H).Ok where
 mod:=I.ok.mod
 kind:=c.kind
 glob:=I.ok.glob
 blt:=I.ok.blt
 above:=hC
 inj:=λx y a e1 e2=>by
  have e1':(rE sc C X.env).lookup x=!a:=e1;have e2':(rE sc C X.env).lookup y=!a:=e2;have lt:∀z b,(yf sc.names X.env).lookup z=!b->b<C+1:=λz b q=>aht (age (W8 I c q) hC);obtain q|q:=lV _ _ _ e1'
  . show Ds _ _ _ lt e1' e2' q
  . obtain q'|q':=lV _ _ _ e2'
    . show absurd (lt _ _ q) (Nat.not_lt.mpr q')
    . show I.ok.inj x y a (jX I c q) (jX I c q')
 has:=λx h=>by
  have h':((sc.names.lookup x).map λk=>if (k==NameKind.free&&X.env.scope.kind==.function&&X.env.kindOf x==!.cell) then NameKind.cell else k)=!.cell\/((sc.names.lookup x).map λk=>if (k==NameKind.free&&X.env.scope.kind==.function&&X.env.kindOf x==!.cell) then NameKind.cell else k)=!.free:=by rw[<-um];show h
  show ahy.mp (ah4 _ _ _ ?_);cases e:sc.names.lookup x with
  |none=>rw[e]at h';rcases h' with h' |h'<;>cases h'
  |some k=>
   rw[e]at h';have m:=c.free_of e;cases k with
   |free=>show .inr (ahy.mpr (Dr sc.names [] x (.inr m)))
   |cell=>show .inl rfl
   |_=>rcases h' with h' |h'<;>simp at h'
 cab:=λx a h e=>agf hC (ahs (Dt _ _ _ (beq_iff_eq.mp h) e))
 hd:=I.ok.hd
 frames:=I.ok.frames
 stk:=.inl rfl
 exf:=λb hb=>#[by
  let(o,e):=ho b hb;show agQ (age (aeq e) hC),λx a e=>by
  let(o,eo):=ho b hb;obtain q|q:=lV _ _ _ (show (rE sc C X.env).lookup x=some a from e)
  . show ahc (age (aeq eo) (agf hC (ahs q)))
  . show(hf b hb).2.2.2.2.1 x a (jX I c q)]
 bs:=I.bs
 bsz:=agf I.ok.bsz I.sz
 noex:=λb o e hb=>by
  let(_,_,_,h,_):=hf b hb;obtain h|h:=h
  . show I.ok.noex b o e h
  . show absurd (age (aeq (I.ok.bs b o e).1) h) (ahj _)
 exfs:=λb hb z=>by
  let(_,h1,h2,_):=hf b hb;obtain z|z:=abw.mp (I.stkSub b z)
  . show h1 z
  . show h2 z
 funs:=I.stack
 frf:=I.stkFree
def ZC(I:Inv X aki U H s)(c:lG X M F ixs sc)(hf:∀b∈fp,rB X aki H b)(ho:∀b∈fp,∃o,s.heap.get? b=!o)
 {C:Addr} (hC:C=s.heap.objs.size+1) (hns:h₁.Ns C m1) (old:∀b o,s.heap.get? b=!o->h₁.get? b=!o)
 (hD:h₁.get? s.heap.objs.size=some { cls:=.type "list",data:=.seq (List.toArray []) 0 }) (hce:∀x a,(rE sc C X.env).lookup x=!a->C+1<=a->h₁.IsCell a none):
 Inv (jb X M F sc C fp s H) [] (Dv M.length ixs U) (upd H s.heap.objs.size (.lst [])) { s with heap:=h₁,toks:=tk }:=by
 have hDn:H s.heap.objs.size=none:=I.hok.fresh (aa0 _);have hCle:s.heap.objs.size<=C:=by rw[hC];show ahi _
 have hCn:H C=none:=I.hok.fresh hCle;have hok:=ab4 (X:=X) I c (C:=C) (fp:=fp) hCle hf ho;show#[hok,rfl,I.bare,Un.laid old (aa0 _) hDn,#[m1,hns,?_],?_,?_,?_,?_,?_,?_]
 . intro i x v e1 e2 hv;have e1':(M++F)[i]?=!x:=e1;by_cases hi:i<M.length
   . rw[agm (by simpa using hi)]at e2;rw[List.getElem?_replicate]at e2;simp[hi]at e2
   . rw[aby ()]at e1';rw[aby (by simpa using ahU hi)]at e2;simp only[List.length_replicate,af9]at e2;cases q:ixs[i-M.length]? with
     |none=>rw[q]at e2;cases e2
     |some i'=>
      rw[q]at e2;have e2':(U[i']?).join=!v:=by simpa using e2
      have e3:U[i']?=!(!v):=by
       cases z:U[i']? with
       |none=>rw[z]at e2';cases e2'
       |some y=>rw[z]at e2';simp at e2';rw[e2']
      have xF:x∈F:=ag2 e1';have hlk:=c.frs x xF;have hm:=c.free_of hlk;have hX:=c.own _ hm rfl;have hN:X.N[i']?=!x:=by rw[c.ixn _ _ q];show e1'
      let(m,hn,hl):=I.loc;have vis:Wu X.env.scope x:=by
       obtain h|h:=hX
       . show .inr (.inl h)
       . show .inr (.inr h)
      let(u,r,l):=hl i' x v hN e3 vis;show#[u,r,.inr #[?_,?_]]
      . show (Env.kindOf (compEnvC sc (rE sc C X.env) C X.env) x=_)\/(Env.kindOf (compEnvC sc (rE sc C X.env) C X.env) x=_);have:Env.kindOf (compEnvC sc (rE sc C X.env) C X.env) x=(sc.names.lookup x).map λk=>if (k==NameKind.free&&X.env.scope.kind==.function&&X.env.kindOf x==!.cell) then NameKind.cell else k:=um sc.names x
        rw[this,hlk];simp only[ahp];split
        . show .inl rfl
        . show .inr rfl
      . obtain⟨hk,_⟩|⟨_,cc,hcc,hcell⟩:=l
        . obtain h|h:=hX
          . have hk':X.env.scope.names.lookup x=!.local:=hk;have h':X.env.scope.names.lookup x=!.cell:=h;rw[h']at hk';cases hk'
          . have hk':X.env.scope.names.lookup x=!.local:=hk;have h':X.env.scope.names.lookup x=!.free:=h;rw[h']at hk';cases hk'
        . let(a,ha):=Dr (env:=X.env) sc.names [] x (.inr hm);have ha':=jX I c (x:=x) (a:=a) ha;rw[hcc]at ha';cases ha';let(oc,hoc,hd):=hcell;show#[cc,(Du _ _ _ λp hp e z=>by have:=c.cel p hp e;rw[z,hlk]at this;cases this).trans ha,oc,old _ _ hoc,hd]
 . intro x a e;have e':(rE sc C X.env).lookup x=!a:=e;obtain q|q:=lV _ _ _ e'
   . show#[none,hce x a e' q]
   . let(v,oc,hoc,hd):=I.cell x a (jX I c q);show#[v,oc,old _ _ hoc,hd]
 . show upd H s.heap.objs.size (.lst []) C=none;rw[dC (by rw[hC];show Nat.succ_ne_self _)];show hCn
 . intro x a e;obtain q|q:=lV _ _ _ (show (rE sc C X.env).lookup x=some a from e)
   . have q':s.heap.objs.size<a:=ahO hCle q;rw[dC (ahc q')];show I.hok.fresh (ahx q')
   . let(v,oc,hoc,hd):=I.cell x a (jX I c q);rw[dC (agQ (aeq hoc))];show I.freeC x a (jX I c q)
 . intro p hp;cases hp
 . show I.hok.laid old (aa0 _) #[agY _,[],0,.nil,hD]
 . show (List.replicate M.length none++_).length=(M++F).length;simp[c.ixl]
def yQ(X:Cx)(ifs:List Expr)(t:TT):Prop:=
 ∀(aki:List (Addr×Obj))(s:Shared)(U:St)(H:Hp)(Q:Bool->Hp->Prop),Inv X aki U H s->t U H Q->
  wpAny (model X.prog X.w) X.A (forIn ifs true λc r=>if r=true then do let ok <-isTrue c X.env (eval c X.env);pure (ForInStep.yield ok) else pure (ForInStep.yield r)) (TP X aki U Q) X.xe s
def ZD:yQ X [] (λ_ H Q=>Q true H):=λ_ s U H Q I h=>wpAny_tests_nil #[H,I,h]
def ZF(h:PT X c t):yQ X [c] t:=λaki s U H Q I q=>wpAny_tests_one (h aki s U H Q I q)
def Vq(wi:TI)(m:Nat)(ixs:List Nat)(g:TG)(tc:TT)(te:TE):TE:=λU H Q=>wi U H λJ H1=>∀p,H1 p=none->
 ∃W:Nat->Nat->St->Hp->Prop,(∃n,W 0 n (Dv m ixs U) (upd H1 p (.lst [])))/\∀i n U' H',W i n U' H'->
  ((J.stop i H'/\Q (.ref p) H')\/(J.go i H'/\∀x H2,J.yld i H' x H2->g x U' H2 λU3 H3=>tc U3 H3 λb H4=>
    if b=true then te U3 H4 λv H5=>∃ys,H5 p=!(.lst ys)/\ys.length<sizeLine/\∃n',n'<n/\W (i+1) n' U3 (upd H5 p (.lst (ys++[v])))
    else ∃n',n'<n/\W (i+1) n' U3 H4))
def CI(X:Cx)(fp:List Addr)(tn:Nat->Heap->Prop)(W:Nat->Nat->St->Hp->Prop)(n:Nat)(s:Shared):Prop:=∃i U H,Inv X [] U H s/\tn i s.heap/\(∀b∈fp,H b=none)/\W i n U H
def Ox{P:Prop}(h:∀G:Prop,(P->G)->G):P:=h P id
def W9{F:Hp->Prop}(hcalm:X.calm=true)(T:Turn X.prog X.w X.K tg J fp it tn)(hg:PG X tg g)(hc:yQ X ifs tc)(he:PE X elt te)(hx:∀u s,X.xe u s->False)
 (stat:∀{H':Hp},(∀b∈fp,H' b=none)->∀b∈fp,rB X [] H' b)
 (turn:∀i n U' H',W i n U' H'->((J.stop i H'/\F H')\/(J.go i H'/\∀x H2,J.yld i H' x H2->g x U' H2 λU3 H3=>tc U3 H3 λb H4=>
   if b=true then te U3 H4 λv H5=>∃ys,H5 D=!(.lst ys)/\ys.length<sizeLine/\∃n',n'<n/\W (i+1) n' U3 (upd H5 D (.lst (ys++[v])))
   else ∃n',n'<n/\W (i+1) n' U3 H4)))
 {R:Result->Shared->Prop} (hR:∀U' H' s',Inv X [] U' H' s'->F H'->R (.ok .next) s') (n:Nat) (s':Shared) (hI:CI X fp tn W n s'):
 wpAny (model X.prog X.w) X.A (compTurn (.ListComp elt [#[tg,iter,ifs,0]] sc pos) 0 (.ref it) (.ref D) X.env)
  (λfin s'=>match fin with |.done f=>R (.ok f) s' |.again c'=>c'=.compLoop (.ListComp elt [#[tg,iter,ifs,0]] sc pos) 0 (.ref it) (.ref D) X.env/\∃m,m<n/\CI X fp tn W m s') (λ_ _=>False) s':=by
 show Ox λG kG=>?_;let(i,U',H',I',st',fr',w'):=hI;rw[compTurn_list]at kG;obtain⟨stop,qn⟩|⟨go,step⟩:=turn i n U' H' w'
 . show kG (aib (wpAny_standAt (aib (wpAny_mono (T.done X rfl rfl rfl hcalm i [] s' U' H' (λ_ _=>False) I' (stat fr') st' stop) (λr s4 h4=>?_) λ_ _ f=>f))));let(hr,I4):=h4;subst hr;show aie (hR U' H' _ I4 qn)
 . show kG (aib (wpAny_standAt (aib (wpAny_mono (T.item X rfl rfl rfl hcalm i [] s' U' H' (λ_ _=>False) I' (stat fr') st' go) (λr s4 h4=>?_) λ_ _ f=>f))));let(u,hr,h4):=h4;subst hr;show aib (wpAny_mono h4 (λ_ s5 h5=>?_) λ_ _ f=>f);show Ox λG kG=>?_;let(x,H5,I5,r5,y5,st5,fr5):=h5;have again:∀{s7:Shared} {U7:St} {H7:Hp} {n':Nat},Inv X ([]++Dl fp s5.heap) U7 H7 s7->W (i+1) n' U7 H7->CI X fp tn W n' s7:=λ{s7 U7 H7 n'} I7 w7=>by
    have pn:∀b∈fp,∀o,s5.heap.get? b=!o->s7.heap.get? b=!o/\H7 b=none:=λb hb o e=>by have:=I7.pin (b,o) (agi _ (agi _ (Bk hb e)));show#[this.1,this.2.1]
    show#[i+1,U7,H7,I7.unpinned,T.keep _ _ _ st5 λb hb o e=>(pn b hb o e).1,λb hb=>?_,w7];let(o,e,d):=T.obj _ _ st5 b hb;show(pn b hb o e).2
   show kG (aib (wpAny_mono (hg _ s5 U' H5 x u _ (I5.pinned (stat fr5) (T.obj _ _ st5)) r5 (step x H5 y5)) (λ_ s6 h6=>?_) hx));show Ox λG kG=>?_;let(U6,H6,I6,q6):=h6;show kG (aib (wpAny_mono (hc _ s6 U6 H6 _ I6 q6) (λok s7 h7=>?_) hx));show Ox λG kG=>?_;let(H7,I7,q7):=h7;cases ok with
   |false=>
    rw[aid agV]at q7;let(n',hn',w7):=q7;show kG (aie #[rfl,n',hn',again I7 w7])
   |true=>
    rw[aic rfl]at q7;show kG (aib (aib (wpAny_mono (he _ s7 U6 H7 _ I7 q7) (λv s8 h8=>?_) hx)));show Ox λG kG=>?_;let(y,H8,I8,r8,ys,hp8,hz,n',hn',w8):=h8;show kG (aib (wpAny_mono (gQ (X:=X) _ s8 U6 H8 (.ref D) [y] (.ref D) [v] (λ_ H9=>W (i+1) n' U6 H9) I8 rfl (.cons r8 .nil) #[_,ys,y,rfl,rfl,hp8,hz,w8]) (λ_ s9 h9=>?_) hx));let(_,H9,I9,_,w9):=h9;show aie (aie #[rfl,n',hn',again I9 w9])
def ab5
 (h:Q (newEnv sc s.heap.objs.size gl (cellsFrom (s.heap.objs.size+1) sc.names clo) qual none .none (!env) builtinsNs) { s with heap:=pushCells (s.heap.push { cls:=.type "dict",data:=.dict (List.toArray []) }) sc.names }):
 wpAny Md A (newFunctionEnv sc gl clo [] qual none .none (!env)) Q E s:=by
 simp only[newFunctionEnv,Option.isSome_some,if_true];show aib (wpAny_alloc ?_);show aib (wpAny_layCells _ (λname kind cells=>by cases hkc:kind==NameKind.cell<;>simp[hkc]) _ _ _ _ ?_);rw[show ({ s with heap:=s.heap.push { cls:=.type "dict",data:=.dict (List.toArray []) } }:Shared).heap.objs.size=s.heap.objs.size+1 from ahw ..];show aib (aie (aie h))
def Il(hcalm:X.calm=true)(c:lG X M F ixs sc)
 (hg:∀C fp s H,PG (jb X M F sc C fp s H) tg g) (hc:∀C fp s H,yQ (jb X M F sc C fp s H) ifs tc) (he:∀C fp s H,PE (jb X M F sc C fp s H) elt te)
 {Q:VK} (I:Inv X aki U H s) (T:Turn X.prog X.w X.K tg J fp it tn) (st:tn 0 s.heap) (hf:∀b∈fp,rB X aki H b)
 (h:∀p,H p=none->∃W:Nat->Nat->St->Hp->Prop,(∃n,W 0 n (Dv M.length ixs U) (upd H p (.lst [])))/\∀i n U' H',W i n U' H'->
   ((J.stop i H'/\Q (.ref p) H')\/(J.go i H'/\∀x H2,J.yld i H' x H2->g x U' H2 λU3 H3=>tc U3 H3 λb H4=>
     if b=true then te U3 H4 λv H5=>∃ys,H5 p=!(.lst ys)/\ys.length<sizeLine/\∃n',n'<n/\W (i+1) n' U3 (upd H5 p (.lst (ys++[v])))
     else ∃n',n'<n/\W (i+1) n' U3 H4)))
 {RR:Value->Addr->Result->Shared->Prop}
 (hR:∀D C s' H' m,s.heap.get? D=none->s.heap.get? C=none->s.heap.objs.size<=C->H D=none->D≠C->H' C=none->s'.heap.Ns C m->s'.os=s.os->AllBare s'.gens->Un (frs X.stack) fp H H' s.heap s'.heap->kj X.prog X.w H' s'.heap->Q (.ref D) H'->RR (.ref D) C (.ok .next) s'):
 wpAny (model X.prog X.w) X.A (newList []) (λacc s₃=>wpAny (model X.prog X.w) X.A (newFunctionEnv sc X.env.globals (yf sc.names X.env) [] X.env.qual none .none (!X.env)) (λcenv s₄=>
  codeAny (model X.prog X.w) X.A (.compStart (.ListComp elt [#[tg,iter,ifs,0]] sc pos) 0 (.ref it) acc { cenv with scope:=relabel sc X.env }) (RR acc cenv.locals) s₄) E s₃) E s:=by
 show wpAny_newObj_type (ab5 ?_);generalize hH2:s.heap.push { cls:=.type "list",dict:=none,data:=.seq ([]:List Value).toArray }=H2;generalize hh1:pushCells (H2.push { cls:=.type "dict",data:=.dict (List.toArray []) }) sc.names=h₁;have kp:∀b o,H2.get? b=!o->h₁.get? b=!o:=λb o e=>by rw[<-hh1];show pushCells_keeps _ _ _ _ (abj _ e)
 have hns₁:h₁.Ns H2.objs.size (λ_=>none):=by rw[<-hh1];show(Heap.Ns.new H2 (.type "dict")).keeps (pushCells_keeps _ _)
 have hC:H2.objs.size=s.heap.objs.size+1:=by rw[<-hH2,ahw]
 have hDC:s.heap.objs.size≠H2.objs.size:=by rw[hC];show agQ ()
 have below:∀b,b<s.heap.objs.size->b≠H2.objs.size:=λb hb=>by rw[hC];show agQ ()
 have old:=λb o e=>kp b o (hH2▸abj _ e);have hD:=kp _ _ (hH2▸aga _ rfl);have fresh:∀a,s.heap.objs.size<=a->s.heap.get? a=none:=λa ha=>by
  cases e:s.heap.get? a with
  |none=>rfl
  |some o'=>show absurd (aeq e) ∅
 have hDn:=I.hok.fresh (aa0 _);have hfo:∀b∈fp,∃o,s.heap.get? b=!o:=λb hb=>let #[o,e,_]:=T.obj 0 _ st b hb;#[o,e];have hz2:(H2.push { cls:=.type "dict",data:=.dict (List.toArray []) }).objs.size=H2.objs.size+1:=ahw ..;have hce:∀x a,(rE sc H2.objs.size X.env).lookup x=!a->H2.objs.size+1<=a->h₁.IsCell a none:=λx a e q=>by rw[<-hh1];show Bv _ _ (yf sc.names X.env) x a ∅ () λz b q'=>by rw[hz2,hC];show aht (aht (W8 I c q'))
 have I0:=ZC I c hf hfo (tk:=s.toks) hC hns₁ old hD hce;let(W,(n0,w0),turn):=h _ hDn;have nf:∀b∈fp,b≠s.heap.objs.size:=λb hb=>by let(o,e):=hfo b hb;show agQ (aeq e)
 have stat:∀{H':Hp},(∀b∈fp,H' b=none)->∀b∈fp,rB (jb X M F sc H2.objs.size fp s H) [] H' b:=λ{H'} hn b hb=>by
  let(f0,f1,f2,f3,f4,f5):=hf b hb;let(o,e):=hfo b hb;show#[hn b hb,below b (aeq e),λz=>?_,.inl hb,λx a e'=>by
   obtain q|q:=lV _ _ _ (e')
   . lia
   . show f4 x a (jX I c q),λp hp=>by cases hp]
  obtain z|z:=abw.mp (I.stkSub b z)
  . lia
  . lia
 have st1:=T.keep 0 _ _ st λb hb o e=>old b o e;have loop:codeAny (model X.prog X.w) X.A (.compLoop (.ListComp elt [#[tg,iter,ifs,0]] sc pos) 0 (.ref it) (.ref s.heap.objs.size) (compEnvC sc (rE sc H2.objs.size X.env) H2.objs.size X.env))
  (RR (.ref s.heap.objs.size) H2.objs.size) { s with heap:=h₁ }:=by
  show codeAny_loop rfl (CI (jb X M F sc H2.objs.size fp s H) fp tn W) (λn s' hI=>?_) n0 #[0,_,_,I0,st1,λb hb=>by rw[dC (nf b hb)];show(hf b hb).1,w0];show wpAny_noted (wpAny_mono (W9 (X:=jb X M F sc H2.objs.size fp s H) hcalm T (hg _ fp s H) (hc _ fp s H) (he _ fp s H) (λ_ _ f=>f) stat turn (λU' H' s4 I4 qn=>?_) n s' hI) (λ_ _ h=>h) λ_ _ f=>f.elim);let(m4,hn4,_):=I4.loc;show hR _ _ _ H' m4 (fresh _ ()) (fresh _ ()) () hDn hDC I4.free hn4 I4.os I4.bare I4.base I4.hok qn
 show codeAny_compStart_list loop (T.self _ 0 _ _ _ st1 loop)
end
section
variable {X:Cx}
def Ss{U U':St}(I:Inv X aki U H s)(hC:s.heap.get? C=none)(I':Inv X aki U' H' s')(hn:H' C=none){m:Str->Option Value}(hs:Heap.SameBut C s'.heap h')
 (hsz:s.heap.objs.size<=C):Inv X aki U' H' { s' with heap:=h' }:=by
 have ne:∀a o,s.heap.get? a=!o->C≠a:=λa o e z=>by rw[z,e]at hC;cases hC
 show I'.turned (λb o hb e=>(hs.2 b hb).trans e) hn ?_ (.inr (agf I.sz hsz)) (λx c e=>?_) (λp hp=>?_)
 . show ahc (age I.lt hsz)
 . let(v,o,ho,_):=I.cell x c e;lia
 . show Ne.symm (ne _ _ (I.pin p hp).1)
def ab6(M F:List Str)(ixs:List Nat)(hcalm:X.calm=true)(c:lG X M F ixs sc)(hi:PI X tg iter wi)
 (hg:∀C fp s H,PG (jb X M F sc C fp s H) tg g) (hc:∀C fp s H,yQ (jb X M F sc C fp s H) ifs tc) (he:∀C fp s H,PE (jb X M F sc C fp s H) elt te)
 (hs:∀x,foldedSetIterable iter X.env x=pure x:=by intro _;rfl):PE X (.ListComp elt [#[tg,iter,ifs,0]] sc pos) (Vq wi M.length ixs g tc te):=by
 intro aki s U H Q I h;show wpAny_comprehension_free rfl hs (Dg (GR I c)) c.kind c.locs (cP (hi aki s U H _ I h) λv s1 h1=>cP h1 λitv s2 h2=>?_);let(it,fp,tn,J,H2,e,I2,T,st2,f2,q):=h2;subst e;show Il hcalm c hg hc he I2 T st2 f2 q ?_;intro D C s' H' m hD hC hsz hDn hDC hCn hns hos hbare hun hok q';have I3:=I2.call' hos hun hok hbare λb hb=>by let(_,g1,g2,g3,g4,g5):=f2 b hb;show#[g3,g1,g4,g5]
 show#[m,hns,λh' hs'=>#[.ref D,H',Ss (m:=m) I2 hC I3 hCn hs' hsz,rfl,q']]
def ab7(M F:List Str)(ixs:List Nat){pos pos' pos2:Pos}(hN:X.N.Nodup)(hix:X.N[i]?=!x)(hx:X.env.scope.names.lookup x=!.local)
 (hcalm:X.calm=true) (c:lG X M F ixs sc) (hi:PI X tg iter wi)
 (hg:∀C fp s H,PG (jb X M F sc C fp s H) tg g) (hc:∀C fp s H,yQ (jb X M F sc C fp s H) ifs tc) (he:∀C fp s H,PE (jb X M F sc C fp s H) elt te)
 (hsw:swapsWith (.ListComp elt [#[tg,iter,ifs,0]] sc pos) (!(.Name x pos')) pos2.line X.env=pure true:=by rfl)
 (hs:∀x,foldedSetIterable iter X.env x=pure x:=by intro _;rfl):PS X (.Assign [.Name x pos'] (.ListComp elt [#[tg,iter,ifs,0]] sc pos) pos2) (λD U H=>Vq wi M.length ixs g tc te U H λv H1=>D.nx (U.set i (!v)) H1):=by
 intro aki s U H D I h;rw[exec_Assign_Name_used _ _ _ _ hsw];show aib (wpAny_standAt (aib ?_));show aib (wpAny_mono (wpAny_comprehension_free rfl hs (Dg (GR I c)) c.kind c.locs
  (cP (hi aki s U H _ I h) λv s1 h1=>cP h1 λitv s2 h2=>?_)) (λ_ s' hq=>aie (aie hq)) λ_ _ e=>e)
 let(it,fp,tn,J,H2,e,I2,T,st2,f2,q):=h2;subst e;show Il (Q:=λv H1=>D.nx (U.set i (!v)) H1) hcalm c hg hc he I2 T st2 f2 q ?_;intro D' C s' H' m hD hC hsz hDn hDC hCn hns hos hbare hun hok q';have I3:=I2.call' hos hun hok hbare λb hb=>by let(_,g1,g2,g3,g4,g5):=f2 b hb;show#[g3,g1,g4,g5]
 have hLC:=ahc (age I2.lt hsz);show wpAny_assign_Name (Li (v:=.ref D') I3 hN hix (.inl hx) rfl (λs'' I4 z51=>?_) (.inr hx));let(a,hsb,ha):=z51;have hCa:C≠a:=by
  obtain ha|ha:=ha
  . lia
  . let(v,o,ho,_):=I2.cell x a ha;lia
 show#[m,hns.sameBut hsb hCa,λh' hs'=>#[_,H',Ss (m:=m) I2 hC I4 hCn hs' hsz,q']]
end
def Oz(l:Addr)(items:Array Value)(n:Nat)(b:Addr)(items2:Array Value)(n2:Nat)(dd2:Option Addr)(sl2:Array (Option Value))(hc0:¬(not items.isEmpty&&Builtin.List.listTooLong (items.size+items2.size))=true)(hc1:items.size<=sizeLine)(hs2:items.size+items2.size<=sizeLine+1):
 Meets (Builtin.«list.extend» #[[.ref l,.ref b],[]]) (λ_ R s=>s.heap.get? l=some { cls:=.type "list",dict:=none,data:=.seq items n,slots:=(List.toArray []) }/\s.heap.get? b=some { cls:=.type "list",dict:=dd2,data:=.seq items2 n2,slots:=sl2 }/\R (.ok (.ret Value.none)) { s with heap:=s.heap.update l (Obj.mapSeq λx=>x++items2),toks:=s.toks }):=
 .of_wp λprog w A R s h=>by
  let(hp,g,d,tk,os):=s;let(hl,hb,h):=h;have f1:=AutoSeq1.idx_int;have f2:=AutoSeq1.sub_tuple_tuple;have f3:=AutoSeq1.sub_list_list;have f4:=AutoSeq1.sub_tuple_list;have f5:=AutoSeq1.sub_list_tuple;have hz':(items++items2).size<=sizeLine+1:=by rw[Array.size_append];show hs2
  wp_walk using (wpAny_updateSeq hl rfl (hz:=hc1) (_hz':=hz')),AutoSeq1.wpAny_loadPart' hl,AutoSeq1.wpAny_loadPart' hb;show#[_,rfl,h]
section
variable {X:Cx}
def ab8:iB X (binaryOp .Add) (λx y H Q=>∃a b xs ys,x=.ref a/\y=.ref b/\cW X.K H a xs/\cW X.K H b ys/\xs.length+ys.length<=sizeLine/\∀p,H p=none->Q (.ref p) (upd H p (.lst (xs++ys)))):=by
 intro aki s U H x y v u Q I rx ry h;let(a,b,xs,ys,rfl,rfl,ha,hb,hz,q):=h;cases rx;cases ry;let(its,r1,((c1,d1,dt1,s1),n1,g1,e1,e2,e3),_):=I.list ha;let(its2,r2,((c2,d2,dt2,s2),n2,g2,f1,f2,f3),_):=I.list hb;simp only at e1 e2 e3 f1 f2 f3;subst e1 e2 e3 f1 f2 f3;have hl1:=r1.length;have hl2:=r2.length;show concat_meets #[_,g1,rfl] #[_,g2,rfl] noFill_list_add seq_list_add F.slot_list_add F.entry_list_add (F.args_list_add_2 _ _) (list_addW a b its.toArray its2.toArray n1 n2 none none s1 s2 (by rw[adW,adW];lia)) #[g1,g2,?_];have ea:its.toArray++its2.toArray=(its++its2).toArray:=by simp
 rw[ea];show#[.ref _,_,I.lnew (t':=s.toks) (r1.append r2) (by rw[aaU];lia),rfl,q _ I.fresh]
def GX(K:FG):V->List V->Hp->VK->Prop:=λx vs H Q=>∃l b xs zs,x=.ref l/\vs=[.ref b]/\H l=!(.lst xs)/\cW K H b zs/\xs.length+zs.length<=sizeLine/\Q .non (upd H l (.lst (xs++zs)))
def Im:MtM X "list.extend" (GX X.K):=by
 intro aki s U H x vs v us Q I rx rv h;let(l,b,xs,zs,rfl,rfl,hH,hB,hz,q):=h;cases rx;let(u,rfl,ru):=rv.one;cases ru;let(z,its,n,r,hl,e):=I.lstM hH;let(its2,r2,((c2,d2,dt2,s2),n2,g2,f1,f2,f3),_):=I.list hB;subst f1 f2 f3;have hl2:=r2.length;have hsz:its.toArray.size+its2.toArray.size<=sizeLine:=by rw[adW,adW];lia
 have hlong:¬ (not its.toArray.isEmpty&&Builtin.List.listTooLong (its.toArray.size+its2.toArray.size))=true:=by rw[Zr hsz,Bool.and_false];show agV
 show call_meets F.slot_list_extend #[_,e,rfl] F.entry_list_extend (F.args_list_extend_2 _ _)
  (Oz l its.toArray n b its2.toArray n2 none s2 hlong () ()) #[e,g2,?_]
 show#[.non,_,I.lset hH e (by simp) (r.append r2) ?_,rfl,q];lia
end
def pG(z:Str)(lo hi:Option Int):Str:=#[((z.cps.toList.drop (HT.sIx z.length 0 lo)).take (HT.sIx z.length z.length hi-HT.sIx z.length 0 lo)).toArray]
def afx(lo hi:Option Int)(n:Nat):Builtin.Str.strSliceIndices lo hi 1 n=(List.range (HT.sIx n n hi-HT.sIx n 0 lo)).map (HT.sIx n 0 lo+·):=by
 have e1:∀(o:Option Int) (d:Nat),d<=n->(match o with |none=>(d:Int) |some i=>max 0 (min (if i<0 then i+(n:Int) else i) (n:Int)))=((HT.sIx n d o:Nat):Int):=λo d hd=>by
  cases o with
  |none=>rfl
  |some i=>
   simp only[HT.sIx];by_cases h:i<0
   . simp only[h,if_true]<;>lia
   . simp only[h,if_false]<;>lia
 rw[<-sliceRange_one];have a1:=e1 lo 0 (agY _);have a2:=e1 hi n (aa0 _);unfold Builtin.Str.strSliceIndices;rw[<-a1,<-a2];cases lo<;>cases hi<;>simp
def Xa(z:Str)(lo hi:Option Int):Txt.slice z lo hi=pG z lo hi:=by
 unfold Txt.slice pG;rw[afx];have hp:=pick_run z.cps (HT.sIx z.length 0 lo) (HT.sIx z.length z.length hi-HT.sIx z.length 0 lo);split
 . rename_i h;have h2:(List.map (HT.sIx z.length 0 lo+·) (List.range (HT.sIx z.length z.length hi-HT.sIx z.length 0 lo))).length=z.length:=by simpa using h
   rw[aaW,agX]at h2;have hh:HT.sIx z.length z.length hi<=z.length:=HT.sIx_le _ _ (aa0 _) hi;have hl0:HT.sIx z.length 0 lo<=z.length:=HT.sIx_le _ _ (agY _) lo;have hl:HT.sIx z.length 0 lo=0:=()
   rw[h2,hl,List.drop_zero,List.take_of_length_le (by rw[ahM];show aa0 _)]
 . rw[hp]
def agB:V->Option Int->Option Int->Hp->VK->Prop:=λx lo hi H Q=>∃z,x=.str z/\z.length<=sizeLine/\Q (.str (pG z lo hi)) H
section
variable {X:Cx}
def adV:Ls X agB:=by
 intro aki s U H x v vl vu lo hi sl Q I rx hs pl pu h;let(z,rfl,hz,q):=h;let(t,rfl):=rx;show#["str",_,F.slot_str_getitem.lookup,typeIs_str _ _ _,?_];have go:∀(l u:Option (Int×Tok)),vl=partValue l->vu=partValue u->l.map (·.1)=lo->u.map (·.1)=hi->wpAny (model X.prog X.w) X.A (getItem (.str z t) (.ref sl)) (EP X aki U Q) X.xe s:=λl u e1 e2 e3 e4=>by subst e1 e2 e3 e4;show wpAny_getItem_str_slice (st:=none) hs rfl (post_val_or_str #[agf (Txt.slice_le z _ _) hz,λt' k=>?_]);show#[.str (pG z (l.map (·.1)) (u.map (·.1))),H,I.tok _,#[t',?_],q];rw[<-Xa];rfl
 cases pl with
 |none=>cases pu with
  |none=>show go none none rfl rfl rfl rfl
  |int j tj=>show go none (!(j,tj)) rfl rfl rfl rfl
 |int i ti=>cases pu with
  |none=>show go (!(i,ti)) none rfl rfl rfl rfl
  |int j tj=>show go (!(i,ti)) (!(j,tj)) rfl rfl rfl rfl
end
section
variable {X:Cx}{aki:List (Addr×Obj)}{U:St}{H:Hp}{s:Shared}{h':Heap}
def ZJ{h:Heap}(e:h.get? a=!o):o.isFreed=false:=by
 unfold Heap.get? at e;split at e
 . cases e
 . rename_i hne;let(c,d,dt,sl):=o;cases dt<;>first |rfl |show(hne _ _ _ e).elim
def Inv.turned2(I:Inv X aki U H s)(hei:e≠it)(k:∀b o,b≠e->b≠it->s.heap.get? b=!o->h'.get? b=!o)(fe:rB X aki H e)(fi:rB X aki H it)(he:∃o,h'.get? e=!o)(hes:∃o,s.heap.get? e=!o):Inv X aki U H { s with heap:=h',toks:=t' }:=by
 let(o,ho):=he;let(o0,ho0):=hes;let(a0,a1,a2,a3,a4,a5):=fe;let(b0,b1,b2,b3,b4,b5):=fi;have I1:Inv X aki U H { s with heap:=s.heap.update e (λ_=>o),toks:=s.toks }:=I.turned (λb u hb q=>(ahH s.heap (λ_=>o) ∅).trans q) a0 a1 a3 a4 a5;show Inv.turned (s:={ s with heap:=s.heap.update e (λ_=>o),toks:=s.toks }) I1 (λb u hb q=>?_) b0 b1 b3 b4 b5;by_cases hbe:b=e
 . subst hbe;have q':=q;rw[ahJ (λ_=>o) ho0 (ZJ ho)]at q';lia
 . have q':=q;rw[ahH s.heap (λ_=>o) ∅]at q';lia
end
def Ite(K:FG)(a:Addr):It:=
 #[λi H=>∃xs x,cW K H a xs/\xs[i]?=!x,λi H x H'=>∃T y,H T=none/\x=.ref T/\H'=upd H T (.tup [.int i,y])/\∀xs,cW K H a xs->xs[i]?=!y,λi H=>∃xs,cW K H a xs/\xs.length<=i]
def Xb{K:FG}{x1}(a e it:Addr)(hei:e≠it):Turn P w K (.Tuple elts x1 pos) (Ite K a) [e,it] e (λi h=>(∃old,IsEnum h e it i old)/\h.IsListIter it a i) where
 mem:=by simp
 obj:=λi h st b hb=>by
  let((old,he),hit):=st;obtain rfl|hb:=abw.mp hb
  . lia
  . have eb:b=it:=by simpa using hb
    subst eb;let(o,ho,c,d):=hit;lia
 keep:=λi h h' st k=>by let((old,he),hit):=st;show#[#[old,k e (by simp) _ he],hit.at λo q=>k it (by simp) o q]
 item:=by
  intro X hP hw hK hc i aki s U H E I hf st hg;subst hP hw hK;let((old,he),hit):=st;let(xs,x,hq,hx):=hg;let(its,rv,p,hz):=I.list hq;let(u,hu,ru):=rv.get hx;have fe:=hf e (by simp);have fi:=hf it (by simp);have helt:=aeq he;have hilt:it<s.heap.objs.size:=by let(_,q,_):=hit;show aeq q
  have hTn:=I.hok.fresh (aa0 _);show wpAny_pyNext_enum_item he hit p.isList (by simpa using hu) hei λh1 ho hit' hT hsz hk=>?_;show#[_,rfl,wpAny_letOwnedTupleGo_enum ho λh2 he' hs'=>?_];have ne1:=ahc helt;have ne2:=ahc hilt;have I1:Inv X aki U (upd H s.heap.objs.size (.tup [.int i,x])) { s with heap:=s.heap.push { cls:=.type "tuple",data:=.seq (List.toArray [.int i s.toks,u]) },toks:=s.toks+1 }:=by show I.laid (λb o q=>abj _ q) () #[by simp only[aa9];rw[sizeLine_eq];decide,[.int i s.toks,u],.cons #[_,rfl] (.cons ru .nil),?_];show#[_,aga s.heap rfl,rfl,0,rfl]
  have up:∀b,b≠s.heap.objs.size->H b=none->upd H s.heap.objs.size (.tup [.int i,x]) b=none:=λb hb q=>by rw[dC hb];show q
  have I2:Inv X aki U (upd H s.heap.objs.size (.tup [.int i,x])) { s with heap:=h2,toks:=s.toks+1 }:=by
   show I1.turned2 hei (λb o hb1 hb2 q=>?_) #[up e ne1.symm fe.1,fe.2] #[up it ne2.symm fi.1,fi.2] #[_,he'] #[_,abj _ he];rw[hs'.2 b hb1];by_cases hbT:b=s.heap.objs.size
   . subst hbT;have q':=q;rw[aga s.heap rfl]at q';lia
   . show hk b o hb1 hb2 ?_;have q':=q;rw[Heap.get?_push_ne s.heap b _ hbT]at q';show q'
  show#[.ref s.heap.objs.size,_,I2,rfl,#[s.heap.objs.size,x,hTn,rfl,rfl,λys hy=>by rw[I.list_inj hy hq];show hx],#[#[u,by simpa using he'],hit'.at λo y=>(hs'.2 it hei.symm).trans y],λb hb=>?_];obtain rfl|hb:=abw.mp hb
  . show up _ ne1.symm fe.1
  . have eb:b=it:=by simpa using hb
    subst eb;show up _ ne2.symm fi.1
 done:=by intro X hP hw hK hc i aki s U H E I hf st hg;subst hP hw hK;let((old,he),hit):=st;let(xs,hq,hx):=hg;let(its,rv,p,hz):=I.list hq;let(f0,f1,f2,f3,f4,f5):=hf it (by simp);have hl:=rv.length;show wpAny_pyNext_enum_end (I.ok.hd hc) he hit p.isList ∅ λh' eb=>#[rfl,I.turned (λb o hb q=>eb b o hb q) f0 f1 f3 f4 f5]
 self:=λ_ _ _ _ _ st h=>by let((old,he),_):=st;show wpAny_pyIter_enum he h
section
variable {X:Cx}
def afy(K:FG)(ta:TA):TI:=λU H R=>ta U H λvs H1=>∃a,vs=[.ref a]/\(∃xs,cW K H1 a xs)/\R (Ite K a) H1
def ab9{x1}(hg:Gl X "enumerate")(hm:X.mg "enumerate"=none)(ha:PA X [a] ta)(hs:starEach [a] X.env=[(false,eval a X.env)]:=by rfl):PI X (.Tuple elts x1 tpos) (.Call (.Name "enumerate" p) [a] [] pos) (afy X.K ta):=by
 intro aki s U H R I h;show Call_ (wN (u:=.type "enumerate") I hg hm () (PyProof.Rows.callWith_type1 (cP (ha pos aki s U H _ I h) λus s1 z52=>?_) hs rfl));let(vs,H1,I1,r1,q1):=z52;let(b,e,(xs,hq),q):=q1;subst e;cases r1 with
 |cons r rr=>
  cases rr;cases r;let(its,rv,pl,hz):=I1.list hq;show call_enumerate_list pl.isList λh' he hit hsz hk=>?_;have I2:=I1.kept (t':=s1.toks) hk;show wpAny_pyIter_enum he ?_;show#[s1.heap.objs.size+1,[s1.heap.objs.size+1,s1.heap.objs.size],_,_,H1,rfl,I2,Xb b (s1.heap.objs.size+1) s1.heap.objs.size ∅,#[#[_,he],hit],λc hc=>?_,q];have hc':s1.heap.objs.size<=c:=by
   obtain rfl|hc:=abw.mp hc
   . lia
   . have ec:c=s1.heap.objs.size:=by simpa using hc
     lia
  show I1.fpOk hc' (I1.hok.fresh hc')
def aa2(i j:Int):Prop:=0<j/\j<18446744073709551616
def cH:iB X (binaryOp .FloorDiv) (rI aa2 λi j=>.int (i/j)):=WD λi j _ _ _ _ _ hc q=>by
 have h1:=hc.1;have h2:=hc.2;have h0:j.natAbs≠0:=()
 have h3:j.natAbs.log2<64:=(Nat.log2_lt h0).mpr ();show floordiv_int () ∅ (.inl (PyProof.noPylong_of_log2 ()))
def afz:R2:=λx y H Q=>∃a v,x=.ref a/\J1 H a y (!v)/\Q v H
def Su(hu:X.A.units+1<cLine):Gj X afz:=by intro value slice aki s U H x y v u Q I rx ry h hs;let(a,z,rfl,g,q):=h;cases rx;show tail_any (RJ I g) F.slot_dict_getitem.lookup (W5 hu I g ry λw' s3 I3 rw'=>#[z,H,I3,rw',q]) hs
def Vr:V->V->V->Hp->(Hp->Prop)->Prop:=λo i v H Q=>∃a H',o=.ref a/\adS H a i v H'/\Q H'
def set_dict(hu:X.A.units+1<cLine):Y8 X Vr:=by intro aki s U H o i v ov iv u Q I ro ri rv h;let(a,H',rfl,g,q):=h;cases ro;show W6 hu I g ri rv λs4 I4=>#[H',I4,q]
end
section
variable {X:Cx}{aki:List (Addr×Obj)}{U:St}{H:Hp}{s:Shared}{h':Heap}
def Inv.turnedL{fp:List Addr}(I:Inv X aki U H s)(k:∀b o,b∉fp->s.heap.get? b=!o->h'.get? b=!o)(f:∀b∈fp,rB X aki H b):Inv X aki U H { s with heap:=h',toks:=t' }:=by
 have nit:∀b u,H b=!u->b∉fp:=λb u e z=>by rw[(f b z).1]at e;cases e
 show I.step (λb hb=>#[(f b hb).2.2.2.1,(f b hb).2.1,(f b hb).2.2.2.2.1,(f b hb).2.2.2.2.2]) (λb o _ _ hc e _=>k b o hc e) (λb o _ _ hc e _=>#[o.slots,k b o hc e]) (λ_ _ _ _ n=>n)
  (λb o hc e=>#[o,k b o hc e]) (λ_ _ e=>e) (λ_ _ _ e=>e) (λb ps e=>#[(List.toArray []),by rw[e];simp]) (λm hm=>?_) (λb u e=>?_) I.bare
 . let(o,es,ep,ho,r):=hm;show#[o,es,ep,k _ o (λz=>(f _ z).2.1 rfl) ho,r]
 . show(I.hok b u e).stay (λc v hc q=>k c v ?_ q) (λ_ q=>q) λ_ _ q=>q;obtain z|z:=hc
   . lia
   . lia
end
structure adX(z TI TO i1 i2:Addr):Prop where
 TIz:TI≠z
 TOz:TO≠z
 i1z:i1≠z
 i2z:i2≠z
 TITO:TI≠TO
 TIi1:TI≠i1
 TIi2:TI≠i2
 TOi1:TO≠i1
 TOi2:TO≠i2
 i12:i1≠i2
section
variable {X:Cx}
end
section
variable {prog:Program}
end
section
variable {prog:Program}{w:World}{A:Around}{R:Result->Shared->Prop}{I:Addr}{fp wr:List Addr}{G:Array GenState->Array GenState->Prop}{n:Nat}{P:Nat->Value->Prop}{St:Nat->Shared->Prop}
end
section
variable {prog:Program}
end
section
variable {X:Cx}{aki:List (Addr×Obj)}{U:St}{H:Hp}{s:Shared}
end
section
variable {X:Cx}
end
section
variable {prog:Program}
end
section
variable {X:Cx}
end
def Itv(K:FG)(a:Addr)(n:Nat):It:=
 #[λi H=>i<n/\∃xs,cW K H a xs/\xs.length=n,λi H x H'=>H'=H/\∀xs,cW K H a xs->xs[n-1-i]?=!x,λi H=>i=n/\∃xs,cW K H a xs/\xs.length=n]
def ZK{K:FG}(a it:Addr)(n:Nat):Turn P w K tg (Itv K a n) [it] it (λi h=>h.IsRevIter it a ((n:Int)-1-i)) where
 mem:=by simp
 obj:=λi h st b hb=>by
  have e:b=it:=by simpa using hb
  subst e;let(o,e,c,d):=st;show#[o,e,λv z=>by rw[d]at z;cases z]
 keep:=λi h h' st k=>st.at λo e=>k it (by simp) o e
 item:=by
  intro X hP hw hK hc i aki s U H E I hf st hg;subst hP hw hK;let(hi,xs,hq,hn):=hg;let(its,rv,p,hz):=I.list hq;let(f0,f1,f2,f3,f4,f5):=hf it (by simp);have hx:xs[n-1-i]?=!(xs[n-1-i]'()):=aeM _;let(u,hu,ru):=rv.get hx;have e1:(n:Int)-1-i=((n-1-i:Nat):Int):=()
  rw[e1]at st;show wpAny_pyNext_rev_item st p.isList (x:=u) (by simpa using hu) λh' st' sb=>?_;have I1:Inv X aki U H { s with heap:=h' }:=I.turned (t':=s.toks) (λb o hb e=>(sb.2 b hb).trans e) f0 f1 f3 f4 f5;let(o,e,c,d):=id st';have e2:((n-1-i:Nat):Int)-1=(n:Int)-1-((i+1:Nat):Int):=()
  rw[e2]at st';show#[u,rfl,Np (s:={ s with heap:=h' }) e c d () #[_,H,I1,ru,#[rfl,λys hy=>by rw[I.list_inj hy hq];show hx],st',λb hb=>(hf b hb).1]]
 done:=by
  intro X hP hw hK hc i aki s U H E I hf st hg;subst hP hw hK;let(rfl,xs,hq,hn):=hg;let(f0,f1,f2,f3,f4,f5):=hf it (by simp);have e1:(i:Int)-1-i=-1:=()
  rw[e1]at st;show wpAny_pyNext_rev_end (I.ok.hd hc) st λh' eb=>#[rfl,I.turned (t':=s.toks) (λb o hb e=>eb b o hb e) f0 f1 f3 f4 f5]
 self:=λ_ _ _ _ _ st h=>wpAny_pyIter_revIter st h
section
variable {X:Cx}
def agC(K:FG)(ta:TA):TI:=λU H R=>ta U H λvs H1=>∃a xs,vs=[.ref a]/\cW K H1 a xs/\R (Itv K a xs.length) H1
def adZ(hg:Gl X "reversed")(hm:X.mg "reversed"=none)(ha:PA X [a] ta)(hs:starEach [a] X.env=[(false,eval a X.env)]:=by rfl):PI X tg (.Call (.Name "reversed" p) [a] [] pos) (agC X.K ta):=by
 intro aki s U H R I h;show Call_ (wN (u:=.type "reversed") I hg hm () (PyProof.Rows.callWith_type1 (cP (ha pos aki s U H _ I h) λus s1 z53=>?_) hs rfl));let(vs,H1,I1,r1,q1):=z53;let(b,xs,e,hq,q):=q1;subst e;cases r1 with
 |cons r rr=>
  cases rr;cases r;let(its,rv,pl,hz):=I1.list hq;have hl:=rv.length;show call_reversed_list pl.isList ?_;have hit:(s1.heap.push (revObj b ((its.toArray.size:Int)-1))).IsRevIter s1.heap.objs.size b ((xs.length:Int)-1-((0:Nat):Int)):=by
   have e0:(xs.length:Int)-1-((0:Nat):Int)=(its.toArray.size:Int)-1:=by rw[hl];simp
   rw[e0];show#[_,aga _ rfl,rfl,rfl]
  show wpAny_pyIter_revIter hit ?_;show#[s1.heap.objs.size,[s1.heap.objs.size],_,_,H1,rfl,I1.kept λb o e=>abj _ e,ZK b _ _,hit,λc hc=>?_,q];have e:c=s1.heap.objs.size:=by simpa using hc
  subst e;show I1.fpOk () (I1.hok.fresh ())
end
section
variable {prog:Program}
end
section
variable {prog:Program}
end
section
variable {X:Cx}{aki:List (Addr×Obj)}{U:St}{H:Hp}{s:Shared}
end
section
variable {X:Cx}
/-- several records of an iterator have turned -/
def Inv.madeT {X:Cx}{pins:List (Addr×Obj)}{σ:St}{H:Hp}{s:Shared}{fp:List Addr}{xs:List V}{us:List Value}{g2:Heap}{t':Nat}(I:Inv X pins σ H s) (hl:xs.length≤sizeLine) (rv:Vals xs us) (hf:∀ c∈fp,rB X pins H c) (lt:∀ c∈fp,∃ o,s.heap.get? c=!o)
    (hT:g2.get? s.heap.objs.size=some { cls:=.type "tuple",data:=.seq us.toArray }) (k:∀ c o,c∉fp->s.heap.get? c=!o->g2.get? c=!o) :
    Inv X pins σ (upd H s.heap.objs.size (.tup xs)) { s with heap:=g2,toks:=t' }/\∀ c∈fp,upd H s.heap.objs.size (.tup xs) c=none:=by
  have up:∀ c∈fp,upd H s.heap.objs.size (.tup xs) c=none:=λc hc=>by
    let(o,e):=lt c hc
    rw[dC (Nat.ne_of_lt (Heap.lt_size e))]
    show (hf c hc).1
  have I1:Inv X pins σ (upd H s.heap.objs.size (.tup xs)) { s with heap:=s.heap.push { cls:=.type "tuple",data:=.seq us.toArray },toks:=t' }:=
    I.laid (λb o q=>Heap.get?_push_of_some _ q) (Nat.le_refl _) #[hl,us,rv,#[_,Heap.get?_push_size s.heap rfl,rfl,0,rfl]]
  show#[Inv.turnedL (s:={ s with heap:=s.heap.push { cls:=.type "tuple",data:=.seq us.toArray },toks:=t' }) (h':=g2) (t':=t') I1 (fp:=fp) (λc o hc q=>?_) (λc hc=>#[up c hc,(hf c hc).2]),up]
  have q':(s.heap.push { cls:=.type "tuple",data:=.seq us.toArray }).get? c=!o:=q
  by_cases hbT:c=s.heap.objs.size
  · subst hbT
    rw[Heap.get?_push_size s.heap rfl] at q'
    show q' ▸ hT
  · rw[Heap.get?_push_ne s.heap c _ hbT] at q'
    show k c o hc q'
def Xe {a b:V}:[a,b].length≤sizeLine:=by rw[sizeLine_eq];show Nat.le_of_ble_eq_true rfl
def ZM (K:PySem.W.Frag) (a b:Addr):It:=
  #[λi H=>∃ xs ys x y,cW K H a xs/\cW K H b ys/\xs[i]?=!x/\ys[i]?=!y,
   λi H x H'=>∃ T y z,H T=none/\x=.ref T/\H'=upd H T (.tup [y,z])/\(∀ xs,cW K H a xs->xs[i]?=!y)/\∀ ys,cW K H b ys->ys[i]?=!z,
   λi H=>∃ xs ys,cW K H a xs/\cW K H b ys/\(xs.length≤i\/ys.length≤i)]
def Xc {h:Heap}{a b:Addr}{o o':Obj}(e:h.get? a=!o) (e':h.get? b=!o') (n:o.cls≠o'.cls):a≠b:=λz=>by
  subst z
  rw[e] at e'
  cases e'
  show n rfl
def Ly {h:Heap}{z TI TO i1 i2 a b:Addr}{u v:Value}{n m:Nat}{xs ys:Array Value}(D:adX z TI TO i1 i2) (hz:IsZip h z TI TO .none) (hTO:IsPair h TO u v) (h1:h.IsListIter i1 a n) (h2:h.IsListIter i2 b m) (ha:h.IsList a xs) (hb:h.IsList b ys):ZipApart z TI TO i1 i2 a b:=by
  let(o1,q1,c1,_):=h1
  let(o2,q2,c2,_):=h2
  let(oa,qa,ca,_):=ha
  let(ob,qb,cb,_):=hb
  show#[D.TIz,D.TOz,D.i1z,D.i2z,D.TITO,D.TIi1,D.TIi2,D.TOi1,D.TOi2,D.i12,Xc qa hz (by rw[ca];simp),Xc qa hTO (by rw[ca];simp),Xc qa q1 (by rw[ca,c1];simp),Xc qa q2 (by rw[ca,c2];simp),Xc qb hz (by rw[cb];simp),Xc qb hTO (by rw[cb];simp),Xc qb q1 (by rw[cb,c1];simp),Xc qb q2 (by rw[cb,c2];simp)]
def Xf {P:Program}{w:World}{K:PySem.W.Frag}{elts:List Expr}{x1}{pos:Pos}(a b z TI TO i1 i2:Addr) (D:adX z TI TO i1 i2):Turn P w K (.Tuple elts x1 pos) (ZM K a b) [z,TI,TO,i1,i2] z
    (λi h=>IsZip h z TI TO .none/\IsPair h TI (.ref i1) (.ref i2)/\(∃ u v,IsPair h TO u v)/\h.IsListIter i1 a i/\h.IsListIter i2 b i) where
  mem:=by simp
  obj:=λi h st c hc=>by
    let(hz,hTI,(u,v,hTO),h1,h2):=st
    simp only [List.mem_cons,List.not_mem_nil,or_false] at hc
    obtain rfl|rfl|rfl|rfl|rfl:=hc
    · show#[_,hz,λv z=>by
        have z':Data.fields _=Data.cell v:=z
        cases z']
    · show#[_,hTI,λv z=>by
        have z':Data.seq _ _=Data.cell v:=z
        cases z']
    · show#[_,hTO,λv z=>by
        have z':Data.seq _ _=Data.cell v:=z
        cases z']
    · let(o,ho,c,d):=h1
      show#[o,ho,λv z=>by rw[d] at z;cases z]
    · let(o,ho,c,d):=h2
      show#[o,ho,λv z=>by rw[d] at z;cases z]
  keep:=λi h h' st k=>by
    let(hz,hTI,(u,v,hTO),h1,h2):=st
    show#[k z (by simp) _ hz,k TI (by simp) _ hTI,#[u,v,k TO (by simp) _ hTO],h1.at λo q=>k i1 (by simp) o q,h2.at λo q=>k i2 (by simp) o q]
  item:=by
    intro X hP hw hK hc i pins s σ H E I hf st hg
    subst hP hw hK
    show Ox λG kG=>?_
    let(hz,hTI,(u0,v0,hTO),h1,h2):=st
    let(xs,ys,x,y,hq,hr,hx,hy):=hg
    let(its,rv,p,hzl):=I.list hq
    let(jts,rw',p',hzl'):=I.list hr
    let(u,hu,ru):=rv.get hx
    let(u',hu',ru'):=rw'.get hy
    have DD:=Ly D hz hTO h1 h2 p.isList p'.isList
    have zlt:∀ c∈[z,TI,TO,i1,i2],∃ o,s.heap.get? c=!o:=λc hc=>by
      simp only [List.mem_cons,List.not_mem_nil,or_false] at hc
      obtain rfl|rfl|rfl|rfl|rfl:=hc
      · show#[_,hz]
      · show#[_,hTI]
      · show#[_,hTO]
      · let(o,q,_):=h1;show#[o,q]
      · let(o,q,_):=h2;show#[o,q]
    have hTn:H s.heap.objs.size=none:=I.hok.fresh (Nat.le_refl _)
    show kG (wpAny_pyNext_zip_item DD hz hTI hTO h1 h2 p.isList p'.isList (x:=u) (y:=u') (by simpa using hu) (by simpa using hu') λg1 a1 a2 a3 a4 a5 a6 a7=>#[_,rfl,wpAny_letOwnedTupleGo_zip a1 λg2 b1 b2=>?_])
    have hb2:∀ c o,c≠z->g1.get? c=!o->g2.get? c=!o:=λc o hc q=>(b2.2 c hc).trans q
    have big:s.heap.objs.size≠z:=Nat.ne_of_gt (Heap.lt_size hz)
    let(I2,up):=I.madeT (xs:=[x,y]) (us:=[u,u']) (g2:=g2) (t':=s.toks) (fp:=[z,TI,TO,i1,i2]) Xe (.cons ru (.cons ru' .nil)) hf zlt (hb2 _ _ big a5) λc o hc q=>by
      simp only [List.mem_cons,List.not_mem_nil,or_false,not_or] at hc
      show hb2 c o hc.1 (a7 c o hc.1 hc.2.2.1 hc.2.2.2.1 hc.2.2.2.2 q)
    show#[.ref s.heap.objs.size,_,I2,rfl,#[s.heap.objs.size,x,y,hTn,rfl,rfl,λys hy=>by rw[I.list_inj hy hq];show hx,λys hy'=>by rw[I.list_inj hy' hr];show hy],#[b1,hb2 _ _ D.TIz (a7 _ _ D.TIz D.TITO D.TIi1 D.TIi2 hTI),#[_,_,hb2 _ _ D.TOz a2],a3.at λo q=>hb2 _ o D.i1z q,a4.at λo q=>hb2 _ o D.i2z q],up]
  done:=by
    intro X hP hw hK hc i pins s σ H E I hf st hg
    subst hP hw hK
    show Ox λG kG=>?_
    let(hz,hTI,(u0,v0,hTO),h1,h2):=st
    let(xs,ys,hq,hr,hx):=hg
    let(its,rv,p,hzl):=I.list hq
    let(jts,rw',p',hzl'):=I.list hr
    have DD:=Ly D hz hTO h1 h2 p.isList p'.isList
    have e1:=rv.length
    have e2:=rw'.length
    show kG (wpAny_pyNext_zip_end (I.ok.hd hc) DD hz hTI hTO h1 h2 p.isList p'.isList ?_ λg k=>#[rfl,?_])
    · obtain hx|hx:=hx
      · show .inl (Array.getElem?_eq_none (by simp;lia))
      · show .inr (Array.getElem?_eq_none (by simp;lia))
    · show I.turnedL (h':=g) (t':=s.toks) (fp:=[z,TI,TO,i1,i2]) (λc o hc q=>?_) hf
      simp only [List.mem_cons,List.not_mem_nil,or_false,not_or] at hc
      show k c o hc.1 hc.2.2.1 hc.2.2.2.1 hc.2.2.2.2 q
  self:=λ_ _ _ _ _ st h=>wpAny_pyIter_zip st.1 h
def afA (K:PySem.W.Frag) (ta:TA):TI:=λσ H R=>ta σ H λvs H1=>∃ a b,vs=[.ref a,.ref b]/\(∃ xs,cW K H1 a xs)/\(∃ ys,cW K H1 b ys)/\R (ZM K a b) H1
def Vs {n a b:Nat}(h:a≠b):n+a≠n+b:=λe=>h (Nat.add_left_cancel e)
def ZL {pins:List (Addr×Obj)}{σ:St}{H:Hp}{s1:Shared}{h':Heap}{R:It->Hp->Prop}{elts:List Expr}{x1}{tpos:Pos}{l1 l2 z TI TO i1 i2:Addr}(I1:Inv X pins σ H s1) (b7:∀ c o,s1.heap.get? c=!o->h'.get? c=!o) (hl:∀ c∈[z,TI,TO,i1,i2],s1.heap.objs.size≤c) (D:adX z TI TO i1 i2)
    (st:IsZip h' z TI TO .none/\IsPair h' TI (.ref i1) (.ref i2)/\(∃ u v,IsPair h' TO u v)/\h'.IsListIter i1 l1 0/\h'.IsListIter i2 l2 0) (q:R (ZM X.K l1 l2) H):PIE X pins σ (.Tuple elts x1 tpos) R (.ref z) { s1 with heap:=h' }:=
  #[z,[z,TI,TO,i1,i2],_,_,H,rfl,I1.kept (t':=s1.toks) b7,Xf l1 l2 z TI TO i1 i2 D,st,λc hc=>I1.fpOk (hl c hc) (I1.hok.fresh (hl c hc)),q]
def aca {a b:Expr}{ta:TA}{p pos:Pos}{elts:List Expr}{x1}{tpos:Pos}(hg:Gl X "zip") (hm:X.mg "zip"=none) (ha:PA X [a,b] ta) (hs:starEach [a,b] X.env=(false,eval a X.env)::starEach [b] X.env:=by rfl) (hs2:(backTo pos (starEach [b] X.env)).any (·.1)=false:=by rfl):PI X (.Tuple elts x1 tpos) (.Call (.Name "zip" p) [a,b] [] pos) (afA X.K ta):=by
  intro pins s σ H R I h
  show Call_ (wN (u:=.type "zip") I hg hm (by kernel_rfl) (PyProof.Rows.callWith_type1 (cP (ha pos pins s σ H _ I h) λus s1 z54=>?_) hs hs2));let(vs,H1,I1,r1,q1):=z54
  show Ox λG kG=>?_
  let(l1,l2,e,(xs,hq),(ys,hr),q):=q1
  subst e
  cases r1 with
  |cons r rr=>
    cases rr with
    |cons r' rr=>
      cases rr
      cases r
      cases r'
      let(its,rv,pl,hz):=I1.list hq
      let(jts,rv',pl',hz'):=I1.list hr
      show kG (call_zip_2 pl.isList pl'.isList λh' b1 b2 b3 b4 b5 b6 b7=>wpAny_pyIter_zip b1 ?_)
      show ZL I1 b7 (λc hc=>?_) #[Vs (a:=2) (b:=4) (by decide),Vs (a:=3) (b:=4) (by decide),Vs (a:=0) (b:=4) (by decide),Vs (a:=1) (b:=4) (by decide),Vs (a:=2) (b:=3) (by decide),Vs (a:=2) (b:=0) (by decide),Vs (a:=2) (b:=1) (by decide),Vs (a:=3) (b:=0) (by decide),Vs (a:=3) (b:=1) (by decide),Vs (a:=0) (b:=1) (by decide)] #[b1,b2,#[_,_,b3],b4,b5] q
      simp only [List.mem_cons,List.not_mem_nil,or_false] at hc
      obtain rfl|rfl|rfl|rfl|rfl:=hc
      all_goals (first |show Nat.le_refl _ |show Nat.le_add_right _ _)
end
abbrev dG:=Option Key
def yg:dG->V
 |none=>.non
 |some k=>kV k
def ZP:dG->Value->Bool
 |none,v=>v==.none
 |some k,v=>xZ k v
def okH(w:World):dG->Int
 |none=>0xFCA86420
 |some k=>ac9 w k
def jY:∀{k:dG}{v:Value},ZP k v=true->(k=none/\v=.none)\/∃x,k=!x/\xZ x v=true
 | none,v,h=>.inl #[rfl,by
  cases v<;>first | rfl | (exfalso;revert h;unfold ZP;simp)]
 |some x,v,h=>.inr #[x,rfl,h]
section
variable {prog:Program}
def Xg(h:Q 0xFCA86420 { s with toks:=s.toks+1 }):wpAny (model prog w) A (pyHash .none) Q E s:=by have hT:s.TypeIs .none "NoneType":=rfl;show aib ?_;show aie (aib (wpAny_specialOf hT F.slot_NoneType_hash.lookup ?_));show aib (wpAny_specialOf hT F.slot_NoneType_hash.lookup (aib (wpAny_callSpecialIfBoundUnlessNone?_slot hT F.slot_NoneType_hash (wpAny_call_entry F.slot_NoneType_hash hT F.entry_NoneType_hash ?_ ()))));show wpAny_ret_mkInt ?_;show aie h
end
def wz(prog:Program)(w:World):PySem.KeyKind prog w dG where
 is:=ZP
 hash:=okH w
 inj:=λv a b ha hb=>by
  obtain⟨rfl,rfl⟩|⟨x,rfl,hx⟩:=jY ha
  . obtain⟨rfl,_⟩|⟨y,rfl,hy⟩:=jY hb
    . rfl
    . rcases gb hy with ⟨i,t,_,e⟩|⟨i,t,_,e⟩<;>cases e
  . obtain⟨rfl,e⟩|⟨y,rfl,hy⟩:=jY hb
    . subst e;rcases gb hx with ⟨i,t,_,e⟩|⟨i,t,_,e⟩<;>cases e
    . show congrArg some ((fH prog w).inj v x y hx hy)
 byValue:=λk v h=>by
  obtain⟨rfl,rfl⟩|⟨x,rfl,hx⟩:=jY h
  . rfl
  . show(fH prog w).byValue x v hx
 pyHash:=λhv h=>by
  obtain⟨rfl,rfl⟩|⟨x,rfl,hx⟩:=jY hv
  . show Xg h
  . show(fH prog w).pyHash hx h
 eqBool:=λhu hv h=>by
  obtain⟨rfl,rfl⟩|⟨x,rfl,hx⟩:=jY hu
  . obtain⟨rfl,rfl⟩|⟨y,rfl,hy⟩:=jY hv
    . show SeqAt.EqAt.same _ _ _ _ _ h
    . obtain⟨i,t,rfl,rfl⟩|⟨i,t,rfl,rfl⟩:=gb hy
      . show SeqAt.EqAt.none_int i t _ _ _ _ h
      . show SeqAt.EqAt.none_str i t _ _ _ _ h
  . obtain⟨rfl,rfl⟩|⟨y,rfl,hy⟩:=jY hv
    . obtain⟨i,t,rfl,rfl⟩|⟨i,t,rfl,rfl⟩:=gb hx
      . show SeqAt.EqAt.int_none i t _ _ _ _ h
      . show SeqAt.EqAt.str_none i t _ _ _ _ h
    . show(fH prog w).eqBool hx hy ?_;have e:decide ((some x:dG)=!y)=decide (x=y):=by simp
      rw[e]at h;show h
 «strs»:=λk x t v h=>by
  obtain⟨rfl,e⟩|⟨y,rfl,hy⟩:=jY h
  . cases e
  . show(fH prog w).strs y x t v hy
def ad0:∀{k:dG}{u:Value},RelV (yg k) u->(wz P w).is k u=true
 |none,u,r=>by have e:=r;subst e;rfl
 |some k,u,r=>Ey (P:=P) (w:=w) r
theorem Sv:∀{ks:List dG}{us:List Value},Vals (ks.map yg) us->ItemsAre (wz P w) ks us
 |[],us=>λh=>by have e:=h.zero;subst e;show .nil
 |k::ks,us=>λh=>by
  cases h with
  |cons r t=>show .cons (ad0 r) (Sv t)
def Io(P:Program)(w:World):List dG->Int:=(tupleKind (wz P w)).hash
abbrev XD:=List (List dG×Addr×V)
abbrev XV:=List (List dG×Addr×Value)
def XR:XD->XV->Prop:=Paired λx y=>x.1=y.1/\x.2.1=y.2.1/\RelV x.2.2 y.2.2
def zA(hk:List dG->Int)(a:Addr)(xs:XD):Heap->Prop:=λh=>xs.length<=sizeLine/\(a==sysModules)=false/\∃ys:XV,XR xs ys/\(ys.map (·.1)).Nodup/\
 ∃o es ep,h.get? a=!o/\o.ExactDict/\o.data=.dict es ep/\es.toList=ys.map λy=>#[hk y.1,.ref y.2.1,y.2.2]
def dX(P:Program)(w:World)(a:Addr)(xs:XD):HO:=.ext (zA (Io P w) a xs)
def ad1(p:zA hk a xs h):jw P w H h a (.ext (zA hk a xs)):=by have q:=p;let(_,_,ys,_,_,o,es,ep,e,_):=q;show#[p,#[o,e],λh1 h2 z55 k=>by let(z,m,ys,r,n,o,es,ep,e,g):=z55;show #[z,m,ys,r,n,o,es,ep,k _ e,g]]
def m5(xs:XD)(k:List dG):Option V:=(xs.find? λx=>decide (x.1=k)).map (·.2.2)
theorem XR.at:∀{xs:XD}{ys:XV},XR xs ys->(∀v,m5 xs k=!v->∃p,atKey ys k=!p/\RelV v p.2)/\(m5 xs k=none->atKey ys k=none)
 |_,_,.nil=>#[λv h=>(by cases h),λ_=>rfl]
 |x::xs,y::ys,.cons #[h1,h2,h3] t=>by
  have ih:=XR.at (k:=k) t;unfold m5 atKey at ih ⊢;by_cases e:x.1=k
  . have e':y.1=k:=h1▸e;rw[ahS (by simpa using e),ahS (by simpa using e')];show#[λv h=>by cases h;show#[_,rfl,h3],λh=>by cases h]
  . have e':¬ y.1=k:=h1▸e;rw[ahT (by simpa using e),ahT (by simpa using e')];show ih
theorem XR.snoc(h:x.1=y.1/\x.2.1=y.2.1/\RelV x.2.2 y.2.2):∀{xs:XD}{ys:XV},XR xs ys->XR (xs++[x]) (ys++[y])
 |_,_,.nil=>.cons h .nil
 |_,_,.cons a t=>.cons a (XR.snoc h t)
theorem XR.mem:∀{xs:XD}{ys:XV},XR xs ys->∀y∈ys,∃x∈xs,x.1=y.1/\x.2.1=y.2.1
 |_,_,.nil=>λy h=>by cases h
 |x::xs,z::ys,.cons #[h1,h2,_] t=>λy h=>by
  obtain rfl|h:=abw.mp h
  . lia
  . let(x',m,e):=XR.mem t y h;lia
section
variable {prog:Program}{w:World}{A:Around}{E:Value->Shared->Prop}{s:Shared}{K:Type}[DecidableEq K]{knd:HeapKind prog w K}
def RL(hu:knd.room A)(hkey:knd.is s.heap k a)(hm:s.heap.DictOfH knd d xs)
 (q1:∀p,atKey xs k=!p->Q p.2 { s with toks:=s.toks+knd.draws k })
 (q2:atKey xs k=none->∀h',h'.DictOfH knd d (xs++[(k,a,v)])->Heap.SameBut d s.heap h'->Q v { s with heap:=h',toks:=s.toks+knd.draws k })
 (hsz:xs.length<=sizeLine):wpAny (model prog w) A (dictSetDefault d (.ref a) v) Q E s:=by
 let(o,es,ep,ho,hc,hd,he,his,hn):=hm;have hsz':=size_of_entries he;show wpAny_holding ?_;show aib (knd.pyHash hu hkey (aib (wpAny_dictFind_heap hu hkey ho hd he his hn (λhno=>?_) λj p hj=>?_)))
 . have hq:=atKey_none_of_get hno;show aib (wpAny_rule (aib (wpAny_updateDictKeys ho hd (aie (q2 hq _ ?_ (ahD ..))))));show#[_,_,ep+1,ahJ _ ho (Obj.isFreed_of_dict (Obj.data_mapDictKeys hd _)),hc.mapDictKeys _,Obj.data_mapDictKeys hd _,by simp[he,entryOfKey],λx hx=>?_,?_]
   . obtain hx|hx:=adY.mp hx
     . show knd.keeps (his x hx) ho hd (ahD ..)
     . rw[agk.mp hx];show knd.keeps hkey ho hd (ahD ..)
   . rw[ady];show aha.mpr #[hn,agT.mpr #[ahk,ahK],λx hx y hy e=>not_mem_keys_of_get hno ?_];lia
 . show aib (wpAny_dictEntries ho hd ?_);rw[entry_at he j,hj];show aib (wpAny_rule (aie (q1 p (atKey_of_get hn hj))))
end
section
variable {X:Cx}
def J3{U:St}(I:Inv X aki U H s)(e:dR X.K H b (k.map yg)):(tupleKind (wz P w)).is s.heap k b:=by let(its,r,(o,h1,h2,n,h3),_):=I.tuple e;show#[o,its.toArray,n,h1,h2,h3,by simpa using Sv r]
def Inv.dx{U:St}(I:Inv X aki U H s)(e:H a=!(dX X.prog X.w a xs))(hk:∀x∈xs,dR X.K H x.2.1 (x.1.map yg)):
 xs.length<=sizeLine/\(a==sysModules)=false/\∃ys:XV,XR xs ys/\s.heap.DictOfH (tupleKind (wz X.prog X.w)) a ys:=by
 let((z,m,ys,r,n,o,es,ep,h1,h2,h3,h4),_):=I.hok a _ e;show#[z,m,ys,r,o,es,ep,h1,h2,h3,h4,λy hy=>?_,n];let(x,hx,e1,e2):=r.mem y hy;rw[<-e1,<-e2];show J3 I (hk x hx)
theorem XR.len:∀{xs:XD}{ys:XV},XR xs ys->ys.length=xs.length
 |_,_,.nil=>rfl
 |_,_,.cons _ t=>by rw[aa9,aa9,XR.len t]
def Xh(P:Program)(w:World)(K:FG):V->List V->Hp->VK->Prop:=λx vs H Q=>∃a b xs k v,x=.ref a/\vs=[.ref b,v]/\H a=!(dX P w a xs)/\(∀x∈xs,dR K H x.2.1 (x.1.map yg))/\dR K H b (k.map yg)/\xs.length<sizeLine/\
 match m5 xs k with
 |some u=>Q u H
 |none=>Q v (upd H a (dX P w a (xs++[(k,b,v)])))
def Xi(hu:X.A.units+1<cLine):WT X "dict.setdefault" (Xh X.prog X.w X.K):=by
 intro aki s U H x vs v us Q I rx rv h;let(a,b,xs,k,y,rfl,rfl,hH,hks,hb,hl,q):=h;cases rx;let(u,r,rfl,rb,ry):=rv.two;cases (rb);let(z,m,ys,xr,dd):=I.dx hH hks;have hl':=xr.len;show call_meetsIn F.slot_dict_setdefault dd.typeIs F.entry_dict_setdefault (F.args_dict_setdefault_3 _ _ _) (S:=λA R s'=>A=X.A/\R=wants (EP X aki U Q) X.xe/\s'=s) (.of_wp λA R s' z56=>?_) #[rfl,rfl,rfl];let(e1,e2,e3):=z56;subst e1 e2 e3;show aib ?_;show aib (wpAny_notOrdered_dict dd.typeIs ?_);show(aie ?_);dsimp only;rw[aid ∅];show aib (RL (tupleKind_room_in1 hu) (J3 I hb) dd (λp hp=>aie #[p.2,rfl,?_]) (λhn h' dd' hs=>aie #[r,rfl,?_]) ())
 . cases e:m5 xs k with
   |none=>rw[(xr.at).2 e]at hp;lia
   |some w'=>
    rw[e]at q;let(p',hp',rp):=(xr.at).1 w' e;rw[hp]at hp';cases hp';show#[_,_,I.tok _,rp,q]
 . cases e:m5 xs k with
   |some w'=>
    let(p',hp',_):=(xr.at).1 w' e;lia
   |none=>
    rw[e]at q;let(o,es,ep,h1,h2,h3,h4,h5,h6):=dd';show#[_,_,zy I (by rw[hH];show True.intro) hs #[o,h1] (ad1 #[?_,m,ys++[(k,b,r)],xr.snoc #[rfl,rfl,ry],h6,o,es,ep,h1,h2,h3,h4]),ry,q];lia
def aa3(P:Program)(w:World)(K:FG):V->List V->Hp->VK->Prop:=λx vs H Q=>∃a b xs k v,x=.ref a/\vs=[.ref b,v]/\H a=!(dX P w a xs)/\(∀x∈xs,dR K H x.2.1 (x.1.map yg))/\dR K H b (k.map yg)/\Q ((m5 xs k).getD v) H
def Sw(hu:X.A.units+1<cLine):WT X "dict.get" (aa3 X.prog X.w X.K):=by
 intro aki s U H x vs v us Q I rx rv h;let(a,b,xs,k,y,rfl,rfl,hH,hks,hb,q):=h;cases rx;let(u,r,rfl,rb,ry):=rv.two;cases (show u=Value.ref b from rb);let(z,m,ys,xr,dd):=I.dx hH hks;show call_meetsIn F.slot_dict_get dd.typeIs F.entry_dict_get (F.args_dict_get_3 _ _ _) (meetsH_dict_get_default (tupleKind (wz X.prog X.w)) a b m r) #[tupleKind_room_in1 hu,k,ys,J3 I hb,dd,?_];show#[_,_,I.tok _,?_,q];cases e:m5 xs k with
 |none=>
  rw[(xr.at).2 e];show ry
 |some w'=>
  let(p',hp',rp):=(xr.at).1 w' e;rw[hp'];show rp
def OD{apos cpos:Pos}{id:String}(slot:Slot "dict" name id)(hty:typeOf (.builtin id)=pure (.type "method_descriptor"))(hm:WT X id r)(ho:PE X o to)(ha:PA X [e1,e2] t)
 (hbase:attributeBase o name X.env (eval o X.env)=eval o X.env:=by rfl)
 (hfew:((backTo cpos (starEach [e1,e2] X.env)).all (λx=>not x.1)&&(backToKw cpos (keywordEach [] X.env)).all (λx=>x.1.isSome)
   && decide ([e1,e2].length+([]:List Keyword).length+(if ([]:List Keyword).isEmpty then 0 else 1)<30))=true:=by rfl)
 (hline:(apos.endLine==cpos.line)=true:=by rfl) (hs:starEach [e1,e2] X.env=(false,eval e1 X.env)::starEach [e2] X.env:=by rfl) (hplain:(backTo cpos (starEach [e2] X.env)).any (·.1)=false:=by rfl):
 PE X (.Call (.Attribute o name apos) [e1,e2] [] cpos) (λU H Q=>to U H λx H1=>(∃a hk xs,x=.ref a/\H1 a=!(.ext (zA hk a xs)))/\t U H1 λvs H2=>r x vs H2 Q):=by
 intro aki s U H Q I h;show wpAny_Call_method_late hbase hfew hline rfl (cP (ho aki s U H _ I h) λv s1 z57=>?_);let(x,H1,I1,r1,(a,hk,xs,ea,hH),q1):=z57;subst ea;cases r1;let((_,_,ys,_,_,o,es,ep,h1,h2,_),_):=I1.hok a _ hH;show#["dict",id,F.plainAttrs_dict,slot,hty,#[o,h1,h2.1],λb e=>(by cases e;show#[o,h1,h2.2.1]),?_];have hA:=ha cpos aki s1 U H1 _ I1 q1;rw[hs]at hA ⊢;show Calls.callWith_builtin () (Calls.evalArgs_plain ?_);show cP hA λus s2 z58=>by let(vs,H2,I2,r2,q2):=z58;show hm aki s2 U H2 (.ref a) vs (.ref a) us Q I2 rfl r2 q2
def ZQ:PE X (.Dict [] [] pos) (λ_ H Q=>∀p,H p=none->Q (.ref p) (upd H p (dX X.prog X.w p []))):=λaki s U H Q I h=>
 wpAny_Dict_empty #[.ref s.heap.objs.size,_,I.laid (λ_ _ q=>abj _ q) () (ad1 #[agY _,aih.mpr (Ne.symm (agQ I.big)),[],.nil,ahK,_,(List.toArray []),0,aga _ rfl,#[rfl,rfl,rfl],rfl,rfl]),rfl,h _ (I.hok.fresh ())]
end
def ad2(a c:Addr):Heap->Prop:=λh=>∃o,W.InstAt h a o c none
section
variable {M:Model}{A:Around}{E:Value->Shared->Prop}{s:Shared}{base:Heap}{env:Env}{outer:List Env}{L e:Addr}{G:Addr->Prop}{Q:Unit->Shared->Prop}
end
section
variable {X:Cx}{aki:List (Addr×Obj)}{U:St}{H:Hp}{s:Shared}
end
abbrev TJ:=St->Hp->(Hp->Prop)->Prop
section
variable {X:Cx}{es:List Expr}{n:Nat}{t:TJ}
end
section
variable {X:Cx}
end
section
variable {X:Cx}{aki:List (Addr×Obj)}{U:St}{H H':Hp}{s s':Shared}{e C:Addr}
end
section
variable {X:Cx}{aki:List (Addr×Obj)}{U:St}{H:Hp}{s:Shared}{e:Addr}
end
section
variable {X:Cx}
section
variable {aki:List (Addr×Obj)}{U:St}{E:XK}{k:Nat}{f C:Addr}{fd:FuncData}{ps:List Str}{sp:Sp}{x:Str}{p pos:Pos}{e:Expr}{es:List Expr}{t:TA}{te:TE}
end
end
end L2
namespace L2
open PySem PySem.Spec PyProof.Rows PySem.W
section
variable {prog:Program}{w:World}{A:Around}{E:Value->Shared->Prop}{s:Shared}{K:FG}{e C:Addr}{oe:Obj}
end
section
variable {X:Cx}{aki:List (Addr×Obj)}{U:St}{H H':Hp}{s s':Shared}{e C:Addr}
end
def Ends.un(i:Nat)(D:Ends):Ends:={ nx:=λU H=>D.nx (U.set i none) H,rt:=D.rt,bk:=λU H=>D.bk (U.set i none) H,ct:=λU H=>D.ct (U.set i none) H }
section
variable {X:Cx}
end
section
variable {X:Cx}{aki:List (Addr×Obj)}{U:St}{H:Hp}{s:Shared}{a b:Addr}{kvs more:List (Key×V)}{A:Around}{E:Value->Shared->Prop}
def ZR(I:Inv X aki U H s)(e:H a=!(.dK kvs))(e2:Rd H b (.dK more))(hne:a≠b)(hl:kvs.length+more.length<=sizeLine)(h:∀s',Inv X aki U (upd H a (.dK (mF kvs more))) s'->Q .none s'):wpAny (model X.prog X.w) A (call (.builtin "dict.update") [.ref a,.ref b]) Q E s:=by let(z,hd,vs,rel,dd):=Ib I.hok e;let(z2,hd2,vs2,rel2,dd2):=Bu I.hok e2;show call_meetsIn F.slot_dict_update dd.typeIs F.entry_dict_update (F.args_dict_update_2 _ _) (meets_dict_update (fH X.prog X.w) a b hne hd2) #[vs,vs2,dd,dd2,by rw[<-rel.length,<-rel2.length];show hl,λh' m1 _ hs=>h _ ?_];have he:∃q,h'.get? a=!q:=let #[q,_,_,hq,_]:=m1;#[q,hq];show zy I (by rw[e];show True.intro) hs he (Ih (agf (vA _ _) hl) hd (KV.merge rel2 rel) m1)
end
def aa4(td ty:TE):TE:=λU H Q=>td U H λx H1=>∃a,x=.ref a/\IsD H1 a/\ty U H1 λy H2=>∃b kvs more,y=.ref b/\H2 a=!(.dK kvs)/\Rd H2 b (.dK more)/\a≠b/\kvs.length+more.length<=sizeLine/\Q .non (upd H2 a (.dK (mF kvs more)))
section
variable {X:Cx}{o e:Expr}{apos cpos:Pos}{td ty:TE}
def acb(ho:PE X o td)(he:PE X e ty)(m:M1 X o "update" apos e cpos):PE X (.Call (.Attribute o "update" apos) [e] [] cpos) (aa4 td ty):=by intro aki s U H Q I h;show wpAny_Call_method m.base m.few m.line F.plainAttrs_dict F.slot_dict_update F.type_dict_update (cP (ho aki s U H _ I h) λu s1 z59=>?_);let(x,H1,I1,rx,a,ex,d,q1):=z59;subst ex;obtain rfl:u=Value.ref a:=rx;let(t1,t2,_):=adU I1 d;show#[t1,t2,?_];rw[m.trees];show Calls.callWith_builtin rfl (Calls.evalArgs_plain (Calls.spliced_cons (cP (he aki s1 U H1 _ I1 q1) λiv s2 z60=>?_)));let(y,H2,I2,ry,b,kvs,more,ey,ea,eb,hne,hl,q2):=z60;show Calls.spliced_nil ?_;subst ey;obtain rfl:iv=Value.ref b:=ry;show ZR I2 ea eb hne hl λs3 I3=>#[.non,_,I3,rfl,q2]
def OJ:uP X (.type "dict") (λxs H Q=>∃a kvs,xs=[.ref a]/\Rd H a (.dK kvs)/\∀p,H p=none->Q (.ref p) (upd H p (.dK kvs))):=by intro aki s U H xs us Q I r h;let(a,kvs,rfl,e,k):=h;let(u,rfl,ru):=vals1 r;obtain rfl:u=Value.ref a:=ru;show Zz I e λp s' hp I'=>#[.ref p,_,I',rfl,k p hp]
end
section
variable {X:Cx}
end
section
variable {prog:Program}
end
section
variable {X:Cx}
end
end L2
namespace PL
open PySem PySem.Spec PyProof.Rows L2
inductive PV where
 |non
 |bl (b:Bool)
 |int (i:Int)
 |str (x:Str)
 |tup (ps:List PV)
 |lst (ps:List PV)
 |dk (ks:List Key) (ps:List PV)
 |dt (ks:List (List Key)) (ps:List PV)
 |obj (C:Str) (ks:List Str) (ps:List PV)
 |df (ks:List Key) (ps:List PV)
 |dtf (ks:List (List Key)) (ps:List PV)
 |dx (hk:List dG->Int) (ks:List (List dG)) (ps:List PV)
 |exc (C:Str)
 |fn (x:Str)
 |ptr (n:Nat)
structure ZG where
 z:Hp
 g:List Addr
def jr(Z Z':ZG):Prop:=fM Z.z Z'.z/\Z.g <+: Z'.g
def jr.refl(Z:ZG):jr Z Z:=#[fM.refl _,ahl _]
def jr.trans(a:jr Z Z1)(b:jr Z1 Z2):jr Z Z2:=#[a.1.trans b.1,a.2.trans b.2]
def acd{α:Type}{l r:List α}{n:Nat}{a:α}(h:l <+: r)(e:l[n]?=!a):r[n]?=!a:=by let(t,rfl):=h;rw[agm (adP.mp e).1];show e
def CN(K:FG)(C:Str)(c:Addr):Prop:=W.nsIn K mainGlobals C=!(!(.ref c))
mutual
def Rep(K:FG)(Z:ZG):PV->V->Prop
 |.non,v=>v=.non
 |.bl b,v=>v=.bl b
 |.int i,v=>v=.int i
 |.str x,v=>v=.str x
 |.tup ps,v=>∃a vs,v=.ref a/\dR K Z.z a vs/\aR K Z ps vs
 |.lst ps,v=>∃a vs,v=.ref a/\cW K Z.z a vs/\aR K Z ps vs
 |.dk ks ps,v=>∃a kvs,v=.ref a/\Z.z a=!(.dK kvs)/\kvs.map (·.1)=ks/\aR K Z ps (kvs.map (·.2))
 |.dt ks ps,v=>∃a kvs,v=.ref a/\Z.z a=!(.dT kvs)/\kvs.map (·.1)=ks/\aR K Z ps (kvs.map (·.2))
 |.obj C ks ps,v=>∃a c dx fs,v=.ref a/\CN K C c/\Z.z a=!(.ins c dx fs)/\fs.map (·.1)=ks/\aR K Z ps (fs.map (·.2))
 |.df ks ps,v=>∃a o kvs,v=.ref a/\Z.z a=!(.frz o (.dK kvs))/\kvs.map (·.1)=ks/\aR K Z ps (kvs.map (·.2))
 |.dtf ks ps,v=>∃a o kvs,v=.ref a/\Z.z a=!(.frz o (.dT kvs))/\kvs.map (·.1)=ks/\aR K Z ps (kvs.map (·.2))
 |.dx hk ks ps,v=>∃a xs,v=.ref a/\Z.z a=!(.ext (zA hk a xs))/\xs.map (·.1)=ks/\(∀x∈xs,dR K Z.z x.2.1 (x.1.map yg))/\aR K Z ps (xs.map (·.2.2))
 |.exc C,v=>∃a c,v=.ref a/\CN K C c/\Z.z a=!(.ext (ad2 a c))
 |.fn x,v=>∃a,v=.ref a/\CN K x a
 |.ptr n,v=>∃a,v=.ref a/\Z.g[n]?=!a
def aR(K:FG)(Z:ZG):List PV->List V->Prop
 |[],vs=>vs=[]
 |p::ps,vs=>∃v r,vs=v::r/\Rep K Z p v/\aR K Z ps r
end
def cW.same{K:FG}(s:fM Z Z')(h:cW K Z a vs):cW K Z' a vs:=s.seq h
def dR.same{K:FG}(s:fM Z Z')(h:dR K Z a vs):dR K Z' a vs:=by
 obtain (h|⟨o,h⟩)|h:=h
 . show .inl (.inl (s _ _ h))
 . show .inl (.inr #[o,s _ _ h])
 . show .inr h
mutual
theorem Rep.mono{K:FG}(s:jr Z Z'):∀{p:PV}{v:V},Rep K Z p v->Rep K Z' p v
 |.non,v=>λh=>h
 |.bl _,v=>λh=>h
 |.int _,v=>λh=>h
 |.str _,v=>λh=>h
 |.tup ps,v=>λh=>by let(a,vs,e,h1,h2):=h;show#[a,vs,e,dR.same s.1 h1,aR.mono s h2]
 |.lst ps,v=>λh=>by let(a,vs,e,h1,h2):=h;show#[a,vs,e,cW.same s.1 h1,aR.mono s h2]
 |.dk ks ps,v=>λh=>by let(a,kvs,e,h1,h2,h3):=h;show#[a,kvs,e,s.1 _ _ h1,h2,aR.mono s h3]
 |.dt ks ps,v=>λh=>by let(a,kvs,e,h1,h2,h3):=h;show#[a,kvs,e,s.1 _ _ h1,h2,aR.mono s h3]
 |.obj C ks ps,v=>λh=>by let(a,c,dx,fs,e,cn,h1,h2,h3):=h;show#[a,c,dx,fs,e,cn,s.1 _ _ h1,h2,aR.mono s h3]
 |.df ks ps,v=>λh=>by let(a,o,kvs,e,h1,h2,h3):=h;show#[a,o,kvs,e,s.1 _ _ h1,h2,aR.mono s h3]
 |.dtf ks ps,v=>λh=>by let(a,o,kvs,e,h1,h2,h3):=h;show#[a,o,kvs,e,s.1 _ _ h1,h2,aR.mono s h3]
 |.dx hk ks ps,v=>λh=>by let(a,xs,e,h1,h2,h4,h3):=h;show#[a,xs,e,s.1 _ _ h1,h2,λx hx=>dR.same s.1 (h4 x hx),aR.mono s h3]
 |.exc C,v=>λh=>by let(a,c,e,cn,h1):=h;show#[a,c,e,cn,s.1 _ _ h1]
 |.fn x,v=>λh=>by  show h
 |.ptr n,v=>λh=>by let(a,e,h1):=h;show#[a,e,acd s.2 h1]
theorem aR.mono{K:FG}(s:jr Z Z'):∀{ps:List PV}{vs:List V},aR K Z ps vs->aR K Z' ps vs
 |[],vs=>λh=>by  show h
 |p::ps,vs=>λh=>by let(v,r,e,h1,h2):=h;show#[v,r,e,Rep.mono s h1,aR.mono s h2]
end
section
variable {K:FG}{Z:ZG}
theorem aR.length:∀{ps:List PV}{vs:List V},aR K Z ps vs->vs.length=ps.length
 |[],vs=>λh=>by  subst h;rfl
 |p::ps,vs=>λh=>by let(v,r,rfl,_,h2):=h;simp[aR.length h2]
def aR.nil:aR K Z [] []:=by  rfl
def aR.cons{p:PV}{ps:List PV}{v:V}{vs:List V}(h:Rep K Z p v)(t:aR K Z ps vs):aR K Z (p::ps) (v::vs):=by  show#[v,vs,rfl,h,t]
def aR.inv(h:aR K Z (p::ps) vs):∃v r,vs=v::r/\Rep K Z p v/\aR K Z ps r:=by  show h
def aR.inv0(h:aR K Z [] vs):vs=[]:=by  show h
theorem aR.append:∀{ps qs:List PV}{vs ws:List V},aR K Z ps vs->aR K Z qs ws->aR K Z (ps++qs) (vs++ws)
 |[],qs,vs,ws=>λh g=>by have:=h.inv0;subst this;show g
 |p::ps,qs,vs,ws=>λh g=>by let(v,r,rfl,h1,h2):=h.inv;show aR.cons h1 (aR.append h2 g)
theorem aR.get:∀{ps:List PV}{vs:List V}{i:Nat}{p:PV},aR K Z ps vs->ps[i]?=!p->∃v,vs[i]?=!v/\Rep K Z p v
 |[],vs,i,p=>λh e=>by simp at e
 |q::ps,vs,0,p=>λh e=>by let(v,r,rfl,h1,h2):=h.inv;simp at e;subst e;show#[v,rfl,h1]
 |q::ps,vs,i+1,p=>λh e=>by let(v,r,rfl,h1,h2):=h.inv;let(u,h3,h4):=aR.get (i:=i) (p:=p) h2 (by simpa using e);show#[u,by simpa using h3,h4]
def aR.getV{i:Nat}(h:aR K Z ps vs)(e:vs[i]?=!v):∃p,ps[i]?=!p/\Rep K Z p v:=by
 have hi:i<ps.length:=by rw[<-h.length];show(adP.mp e).1
 let(u,h1,h2):=h.get (i:=i) (p:=ps[i]) (aeM hi);rw[e]at h1;cases h1;show#[_,aeM hi,h2]
theorem aR.set(hq:Rep K Z q u):∀{ps:List PV}{vs:List V}(i:Nat),aR K Z ps vs->aR K Z (ps.set i q) (vs.set i u)
 |[],vs,i=>λh=>by have:=h.inv0;subst this;show h
 |p::ps,vs,0=>λh=>by let(v,r,rfl,h1,h2):=h.inv;show aR.cons hq h2
 |p::ps,vs,i+1=>λh=>by let(v,r,rfl,h1,h2):=h.inv;show aR.cons h1 (aR.set hq i h2)
theorem aR.take:∀{ps:List PV}{vs:List V}(n:Nat),aR K Z ps vs->aR K Z (ps.take n) (vs.take n)
 |[],vs,n=>λh=>by have:=h.inv0;lia
 |p::ps,vs,0=>λh=>by  show .nil
 |p::ps,vs,n+1=>λh=>by let(v,r,rfl,h1,h2):=h.inv;show aR.cons h1 (aR.take n h2)
theorem aR.drop:∀{ps:List PV}{vs:List V}(n:Nat),aR K Z ps vs->aR K Z (ps.drop n) (vs.drop n)
 |[],vs,n=>λh=>by have:=h.inv0;lia
 |p::ps,vs,0=>λh=>h
 |p::ps,vs,n+1=>λh=>by let(v,r,rfl,h1,h2):=h.inv;show aR.drop n h2
end
inductive Lc where
 |sh (p:PV)
 |own (p:PV)
noncomputable def Lc.pv:Lc->PV
 |.sh p=>p
 |.own p=>p
abbrev Mu:=List (Option PV)
structure Ev where
 vs:List (Option Lc)
 mu:Mu
abbrev Pd:=List (V×Lc)
def uo(K:FG)(Z:ZG)(H:Hp)(a:Addr):PV->Prop
 |.lst ps=>∃vs,H a=!(.lst vs)/\aR K Z ps vs
 |.dk ks ps=>∃kvs,H a=!(.dK kvs)/\kvs.map (·.1)=ks/\aR K Z ps (kvs.map (·.2))
 |.dt ks ps=>∃kvs,H a=!(.dT kvs)/\kvs.map (·.1)=ks/\aR K Z ps (kvs.map (·.2))
 |.dx hk ks ps=>∃xs,H a=!(.ext (zA hk a xs))/\xs.map (·.1)=ks/\(∀x∈xs,dR K Z.z x.2.1 (x.1.map yg))/\aR K Z ps (xs.map (·.2.2))
 |.exc C=>∃c,CN K C c/\H a=!(.ext (ad2 a c))
 |.obj C ks ps=>∃c dx fs,CN K C c/\H a=!(.ins c dx fs)/\fs.map (·.1)=ks/\aR K Z ps (fs.map (·.2))
 |_=>False
def VR(K:FG)(H0:Hp)(Z:ZG)(H:Hp)(v:Option V):Option Lc->Prop
 |none=>True
 |some (.sh p)=>∃x,v=!x/\Rep K Z p x
 |some (.own p)=>∃a,v=!(.ref a)/\uo K Z H a p/\Z.z a=none/\H0 a=none
noncomputable def oG:Option V×Option Lc->Option Addr
 |(!(.ref a),!(.own _))=>!a
 |_=>none
abbrev Sl:=List (Option V×Option Lc)
def Slots(K:FG)(H0:Hp)(Z:ZG)(H:Hp)(L:Sl):Prop:=(∀e∈L,VR K H0 Z H e.1 e.2)/\(L.filterMap oG).Nodup
def cel(g:List Addr)(mu:Mu):Sl:=(g.map λa=>!(V.ref a)).zip (mu.map λo=>o.map Lc.own)
def wV(g:List Addr)(mu:Mu):List Addr:=(cel g mu).filterMap oG
def sl(g:List Addr)(U:L2.St)(Y:Ev)(pd:Pd):Sl:=cel g Y.mu++(U.zip Y.vs++pd.map λe=>(!e.1,!e.2))
def Nq:HO->Prop
 |.tup _=>True
 |.frz _ _=>True
 |_=>False
structure lH(H0:Hp)(Z0 Z:ZG)(H:Hp):Prop where
 zh:fM Z.z H
 h0:fM H0 H
 z0:jr Z0 Z
 new:∀b o,Z.z b=!o->Z0.z b=!o\/H0 b=none\/Nq o
def SR(K:FG)(H0:Hp)(Z0:ZG)(U:L2.St)(H:Hp)(Y:Ev)(pd:Pd):Prop:=U.length=Y.vs.length/\∃Z,Y.mu.length=Z.g.length/\lH H0 Z0 Z H/\Slots K H0 Z H (sl Z.g U Y pd)
section
variable {K:FG}{H0 H H':Hp}{Z0 Z Z':ZG}{L L':Sl}{U:L2.St}{Y:Ev}{pd:Pd}
def Slots.sub(h:Slots K H0 Z H L)(s:List.Sublist L' L):Slots K H0 Z H L':=#[λe he=>h.1 e (s.subset he),h.2.sublist (s.filterMap oG)]
def Slots.perm(h:Slots K H0 Z H L)(s:List.Perm L' L):Slots K H0 Z H L':=#[λe he=>h.1 e (s.subset he),(s.filterMap oG).nodup_iff.mpr h.2]
def uo.keep(h:uo K Z H a p)(z:jr Z Z')(e:H' a=H a):uo K Z' H' a p:=by
 cases p with
 |lst ps=>let(vs,h1,h2):=h;show#[vs,by rw[e];show h1,h2.mono z]
 |dk ks ps=>let(vs,h1,h2,h3):=h;show#[vs,by rw[e];show h1,h2,h3.mono z]
 |dt ks ps=>let(vs,h1,h2,h3):=h;show#[vs,by rw[e];show h1,h2,h3.mono z]
 |dx hk ks ps=>let(vs,h1,h2,h4,h3):=h;show#[vs,by rw[e];show h1,h2,λx hx=>dR.same z.1 (h4 x hx),h3.mono z]
 |exc C=>let(c,cn,h1):=h;show#[c,cn,by rw[e];show h1]
 |obj C ks ps=>let(c,dx,fs,cn,h1,h2,h3):=h;show#[c,dx,fs,cn,by rw[e];show h1,h2,h3.mono z]
 |_=>show h
def uo.some(h:uo K Z H a p):∃o,H a=!o/\¬ Nq o:=by
 cases p with
 |lst ps=>let(vs,h1,h2):=h;show#[_,h1,λz=>z]
 |dk ks ps=>let(vs,h1,h2,h3):=h;show#[_,h1,λz=>z]
 |dt ks ps=>let(vs,h1,h2,h3):=h;show#[_,h1,λz=>z]
 |dx hk ks ps=>let(vs,h1,h2,h3):=h;show#[_,h1,λz=>z]
 |exc C=>let(c,cn,h1):=h;show#[_,h1,λz=>z]
 |obj C ks ps=>let(c,dx,fs,cn,h1,h2,h3):=h;show#[_,h1,λz=>z]
 |_=>show h.elim
def uo.rep(h:uo K Z H a p)(z:jr Z Z')(e:Z'.z a=H a):Rep K Z' p (.ref a):=by
 cases p with
 |lst ps=>let(vs,h1,h2):=h;unfold Rep;show#[a,vs,rfl,cW.of (by rw[e];show h1),h2.mono z]
 |dk ks ps=>let(vs,h1,h2,h3):=h;unfold Rep;show#[a,vs,rfl,by rw[e];show h1,h2,h3.mono z]
 |dt ks ps=>let(vs,h1,h2,h3):=h;unfold Rep;show#[a,vs,rfl,by rw[e];show h1,h2,h3.mono z]
 |dx hk ks ps=>let(vs,h1,h2,h4,h3):=h;unfold Rep;show#[a,vs,rfl,by rw[e];show h1,h2,λx hx=>dR.same z.1 (h4 x hx),h3.mono z]
 |exc C=>let(c,cn,h1):=h;unfold Rep;show#[a,c,rfl,cn,by rw[e];show h1]
 |obj C ks ps=>let(c,dx,fs,cn,h1,h2,h3):=h;unfold Rep;show#[a,c,dx,fs,rfl,cn,by rw[e];show h1,h2,h3.mono z]
 |_=>show h.elim
def Slots.step(h:Slots K H0 Z H L)(z:jr Z Z')(hk:∀e∈L,∀a,oG e=!a->H' a=H a/\Z'.z a=none):Slots K H0 Z' H' L:=by
 show#[λe he=>?_,h.2];have q:=h.1 e he;let(v,l):=e;cases l with
 |none=>trivial
 |some l=>
  cases l with
  |sh p=>let(x,e1,e2):=q;show#[x,e1,e2.mono z]
  |own p=>
   let(a,e1,e2,e3,e4):=q;have e1':=e1;subst e1';let(k1,k2):=hk _ he a rfl;show#[a,rfl,e2.keep z k1,k2,e4]
def km(h:Slots K H0 Z H L)(he:e∈L)(ha:oG e=!a):Z.z a=none/\H0 a=none/\∃o,H a=!o/\¬ Nq o:=by
 let(v,l):=e;have q:=h.1 _ he;cases l with
 |none=>cases v with
  |none=>cases ha
  |some x=>cases x<;>cases ha
 |some l=>
  cases l with
  |sh p=>cases v with
   |none=>cases ha
   |some x=>cases x<;>cases ha
  |own p=>
   let(b,e1,e2,e3,e4):=q;have e1':=e1;subst e1';cases ha;show#[e3,e4,e2.some]
def Slots.new(h:Slots K H0 Z H L)(zo:lH H0 Z0 Z H)(ha:H a=none)(hp:uo K Z (upd H a o) a p):lH H0 Z0 Z (upd H a o)/\Slots K H0 Z (upd H a o) ((!(.ref a),!(.own p))::L):=by
 have hz:=zo.zh.free ha;have h0:=zo.h0.free ha;show#[#[λb u e=>by rw[dC (gq e hz)];show zo.zh b u e,λb u e=>by rw[dC (gq e h0)];show zo.h0 b u e,zo.z0,zo.new],?_];have hne:∀e∈L,∀b,oG e=!b->b≠a:=λe he b hb=>by let(_,_,o',h3,_):=km h he hb;show gq h3 ha
 have st:=h.step (H':=upd H a o) (jr.refl Z) λe he b hb=>#[dC ∅,(km h he hb).1];show#[λe he=>?_,?_]
 . obtain rfl|he:=abw.mp he
   . show#[a,rfl,hp,hz,h0]
   . show st.1 e he
 . show agT.mpr #[λhm=>?_,st.2];lia
abbrev ZG.put(Z:ZG)(a:Addr)(o:HO):ZG:=#[upd Z.z a o,Z.g]
def Slots.newF(h:Slots K H0 Z H L)(zo:lH H0 Z0 Z H)(ha:H a=none):lH H0 Z0 (Z.put a o) (upd H a o)/\jr Z (Z.put a o)/\Slots K H0 (Z.put a o) (upd H a o) L:=by
 have hz:=zo.zh.free ha;have h0:=zo.h0.free ha;have sz:fM Z.z (upd Z.z a o):=λb u e=>by rw[dC (gq e hz)];show e
 have lz:jr Z (Z.put a o):=#[sz,ahl _];show#[#[λb u e=>?_,λb u e=>by rw[dC (gq e h0)];show zo.h0 b u e,zo.z0.trans lz,λb u e=>?_],lz,?_]
 . have e:upd Z.z a o b=!u:=e;unfold upd at e ⊢;split
   . lia
   . rename_i q;rw[aid q]at e;show zo.zh b u e
 . have e:upd Z.z a o b=!u:=e;unfold upd at e;split at e
   . lia
   . show zo.new b u e
 . show h.step lz λe he b hb=>?_;let(h1,h2,o',h3,_):=km h he hb;have hba:=gq h3 ha;show#[dC hba,by show upd Z.z a o b=none;rw[dC hba];show h1]
def Slots.freeze(h:Slots K H0 Z H ((v,!(.own p))::L))(zo:lH H0 Z0 Z H):∃Z',jr Z Z'/\Z'.g=Z.g/\lH H0 Z0 Z' H/\Slots K H0 Z' H ((v,!(.sh p))::L):=by
 let(a,e1,e2,e3,e4):=h.1 _ aaV;have e1':=e1;subst e1';let(o,ho,_):=e2.some;have sz:fM Z.z (upd Z.z a o):=λb u e=>by rw[dC (gq e e3)];show e
 have lz:jr Z (Z.put a o):=#[sz,ahl _];have nd:=h.2;have hL:=h.sub (adQ _ _);show#[Z.put a o,lz,rfl,#[λb u e=>?_,zo.h0,zo.z0.trans lz,λb u e=>?_],λe he=>?_,(agT.mp nd).2]
 . have e:upd Z.z a o b=!u:=e;unfold upd at e;split at e
   . lia
   . show zo.zh b u e
 . have e:upd Z.z a o b=!u:=e;unfold upd at e;split at e
   . lia
   . show zo.new b u e
 . obtain rfl|he:=abw.mp he
   . show#[.ref a,rfl,e2.rep lz (by show upd Z.z a o a=_;rw[cQ,ho])]
   . show(hL.step lz λe' he' b hb=>#[rfl,?_]).1 e he;have:b≠a:=λq=>by rw[q]at hb;show(agT.mp nd).1 ∅
     show upd Z.z a o b=none;rw[dC this];show(km hL he' hb).1
def Slots.write(h:Slots K H0 Z H ((!(.ref a),!(.own p))::L))(zo:lH H0 Z0 Z H)(hq:uo K Z (upd H a o) a q):lH H0 Z0 Z (upd H a o)/\Slots K H0 Z (upd H a o) ((!(.ref a),!(.own q))::L):=by
 let(b,e1,e2,e3,e4):=h.1 _ aaV;cases e1;have nd:=h.2;have hL:=h.sub (adQ _ _);show#[#[λb u e=>by rw[dC (gq e e3)];show zo.zh b u e,λb u e=>by rw[dC (gq e e4)];show zo.h0 b u e,zo.z0,zo.new],λe he=>?_,nd];obtain rfl|he:=abw.mp he
 . show#[a,rfl,hq,e3,e4]
 . show(hL.step (jr.refl Z) λe' he' b hb=>#[dC λq=>?_,(km hL he' hb).1]).1 e he;rw[q]at hb;show(agT.mp nd).1 ∅
end
variable {K:FG}{H0 H:Hp}{Z0:ZG}{U:L2.St}{Y:Ev}{pd:Pd}
theorem Dw{α:Type}:∀{l:List α}{i:Nat}{a:α},l[i]?=!a->∃R,List.Perm l (a::R)/\∀b,List.Perm (l.set i b) (b::R)
 |[],i,a=>λh=>by simp at h
 |x::r,0,a=>λh=>by simp at h;subst h;show#[r,List.Perm.refl _,λb=>List.Perm.refl _]
 |x::r,i+1,a=>λh=>by let(R,h1,h2):=Dw (l:=r) (i:=i) (a:=a) (by simpa using h);show#[x::R,(h1.cons x).trans (List.Perm.swap _ _ _),λb=>?_];simp only[List.set_cons_succ];show((h2 b).cons x).trans (List.Perm.swap _ _ _)
theorem J4{α β:Type}:∀(l:List α)(r:List β)(i:Nat)(a:α)(b:β),(l.set i a).zip (r.set i b)=(l.zip r).set i (a,b)
 |[],r,i=>λa b=>by simp
 |x::l,[],i=>λa b=>by simp
 |x::l,y::r,0=>λa b=>by simp
 |x::l,y::r,i+1=>λa b=>by simp[J4 l r i a b]
def zip_get{α β:Type}:∀{l:List α}{r:List β}{i:Nat}{a:α}{b:β},l[i]?=!a->r[i]?=!b->(l.zip r)[i]?=!(a,b)
 |[],r,i,a,b,h,g=>by simp at h
 |x::l,[],i,a,b,h,g=>by simp at g
 |x::l,y::r,0,a,b,h,g=>by simp at h g;simp[h,g]
 |x::l,y::r,i+1,a,b,h,g=>by have:=zip_get (l:=l) (r:=r) (i:=i) (by simpa using h) (by simpa using g);simpa using this
theorem ail{α:Type}:∀{l:List α}{i:Nat}{a:α},l[i]?=!a->l.set i a=l
 |[],i,a=>λh=>by simp at h
 |x::r,0,a=>λh=>by simp at h;subst h;simp
 |x::r,i+1,a=>λh=>by simp[ail (l:=r) (i:=i) (a:=a) (by simpa using h)]
noncomputable def Ev.set(Y:Ev)(i:Nat)(x:Option Lc):Ev:=#[Y.vs.set i x,Y.mu]
section
variable {K:FG}{H0 H H':Hp}{Z0 Z:ZG}{U:L2.St}{Y:Ev}{pd pd':Pd}{v w:V}{l:Lc}{p:PV}{L:Sl}{g:List Addr}
def dh:List.Perm (sl g U Y ((v,l)::pd)) ((!v,!l)::sl g U Y pd):=by show(List.perm_middle.append_left _).trans ag1
def SR.top(h:SR K H0 Z0 U H Y ((v,l)::pd)):U.length=Y.vs.length/\∃Z,Y.mu.length=Z.g.length/\lH H0 Z0 Z H/\Slots K H0 Z H ((!v,!l)::sl Z.g U Y pd):=
 let #[e,Z,hg,z,s]:=h
 #[e,Z,hg,z,s.perm dh.symm]
def SR.mk(e:U.length=Y.vs.length)(hg:Y.mu.length=Z.g.length)(z:lH H0 Z0 Z H)(s:Slots K H0 Z H ((!v,!l)::sl Z.g U Y pd)):SR K H0 Z0 U H Y ((v,l)::pd):=#[e,Z,hg,z,s.perm dh]
def SR.pop(h:SR K H0 Z0 U H Y ((v,l)::pd)):SR K H0 Z0 U H Y pd:=
 let #[e,Z,hg,z,s]:=h.top
 #[e,Z,hg,z,s.sub (adQ _ _)]
def SR.perm(h:SR K H0 Z0 U H Y pd)(q:List.Perm pd' pd):SR K H0 Z0 U H Y pd':=
 let #[e,Z,hg,z,s]:=h
 #[e,Z,hg,z,s.perm (((q.map _).append_left _).append_left _)]
def SR.swap(h:SR K H0 Z0 U H Y ((v,l)::(w,l2)::pd)):SR K H0 Z0 U H Y ((w,l2)::(v,l)::pd):=h.perm (List.Perm.swap _ _ _)
def SR.freeze(h:SR K H0 Z0 U H Y ((v,l)::pd)):SR K H0 Z0 U H Y ((v,.sh l.pv)::pd):=by
 cases l with
 |sh p=>show h
 |own p=>
  let(e,Z,hg,z,s):=h.top;let(Z',_,eg,z',s'):=s.freeze z;show .mk e ∅ z' ?_;rw[eg];show s'
def SR.sh(h:SR K H0 Z0 U H Y ((v,.sh p)::pd)):U.length=Y.vs.length/\∃Z,Y.mu.length=Z.g.length/\lH H0 Z0 Z H/\Rep K Z p v/\Slots K H0 Z H (sl Z.g U Y pd):=by let(e,Z,hg,z,s):=h.top;let(x,e1,e2):=s.1 _ aaV;cases e1;show#[e,Z,hg,z,e2,s.sub (adQ _ _)]
def SR.rep(h:SR K H0 Z0 U H Y ((v,.sh p)::pd)):∃Z:ZG,fM Z.z H/\Rep K Z p v:=let #[_,Z,_,z,r,_]:=h.sh;#[Z,z.zh,r]
def SR.repH(h:SR K H0 Z0 U H Y ((v,.sh p)::pd)):∃g,Rep K #[H,g] p v:=let #[_,Z,_,z,r,_]:=h.sh;#[Z.g,r.mono (Z':=#[H,Z.g]) #[z.zh,ahl _]]
def Slots.consS(s:Slots K H0 Z H L)(r:Rep K Z p v):Slots K H0 Z H ((!v,!(.sh p))::L):=by
 show#[λe he=>?_,?_]
 . obtain rfl|he:=abw.mp he
   . show#[v,rfl,r]
   . show s.1 e he
 . have:oG (!v,!(Lc.sh p))=none:=by cases v<;>rfl
   rw[agZ this];show s.2
def SR.scal(h:SR K H0 Z0 U H Y pd)(r:∀Z,Rep K Z p v):SR K H0 Z0 U H Y ((v,.sh p)::pd):=
 let #[e,Z,hg,z,s]:=h
 .mk e hg z (s.consS (r Z))
def O3(el:U.length=Y.vs.length)(e:Y.vs[i]?=!o):∃R:Sl,∃x,U[i]?=!x/\(∀g pd,List.Perm (sl g U Y pd) ((x,o)::(cel g Y.mu++(R++pd.map λe=>(!e.1,!e.2)))))/\
 ∀g pd y o',List.Perm (sl g (U.set i y) (Y.set i o') pd) ((y,o')::(cel g Y.mu++(R++pd.map λe=>(!e.1,!e.2)))):=by
 have hi:i<U.length:=by rw[el];show(adP.mp e).1
 have hU:=aeM hi;let(R,h1,h2):=Dw (zip_get hU e);show#[R,U[i],hU,λg pd=>?_,λg pd y o'=>?_]
 . show((h1.append_right _).append_left _).trans ag1
 . show List.Perm (cel g Y.mu++((U.set i y).zip (Y.vs.set i o')++_)) _;rw[J4];show(((h2 _).append_right _).append_left _).trans ag1
def Ev.set_mu:(Y.set i x).mu=Y.mu:=rfl
def Ev.set_len:(Y.set i x).vs.length=Y.vs.length:=by show (Y.vs.set i x).length=_;rw[agd]
def SR.var(h:SR K H0 Z0 U H Y pd)(e:Y.vs[i]?=!(!l)):∃v,U[i]?=!(!v)/\SR K H0 Z0 U H (Y.set i (!(.sh l.pv))) ((v,.sh l.pv)::pd):=by
 let(el,Z,hg,z,s):=h;let(R,x,hU,h1,h2):=O3 el e;have s1:=s.perm (h1 Z.g pd).symm;have el':U.length=(Y.set i (!(.sh l.pv))).vs.length:=by rw[Ev.set_len];show el
 have fin:∀{Z':ZG}{v:V},Z'.g=Z.g->lH H0 Z0 Z' H->x=!v->Slots K H0 Z' H ((x,!(.sh l.pv))::(cel Z.g Y.mu++(R++pd.map λe=>(!e.1,!e.2))))->Rep K Z' l.pv v->SR K H0 Z0 U H (Y.set i (!(.sh l.pv))) ((v,.sh l.pv)::pd):=
  λ{Z' v} eg z ev s2 r=>by have p2:=h2 Z.g pd x (!(.sh l.pv));rw[ail hU]at p2;show .mk el' (by rw[eg,Ev.set_mu];show hg) z ?_;rw[eg];show(s2.perm p2).consS r
 cases l with
 |sh p=>
  let(v,e1,e2):=s1.1 _ aaV;show#[v,hU.trans (congrArg some e1),fin rfl z e1 s1 e2]
 |own p=>
  let(Z',sz,eg,z',s'):=s1.freeze z;let(v,e1,e2):=s'.1 _ aaV;show#[v,hU.trans (congrArg some e1),fin eg z' e1 s' e2]
def SR.store(h:SR K H0 Z0 U H Y ((v,l)::pd))(hi:i<Y.vs.length):SR K H0 Z0 (U.set i (!v)) H (Y.set i (!l)) pd:=by let(el,Z,hg,z,s):=h.top;have hY:Y.vs[i]?=some Y.vs[i]:=aeM hi;let(R,x,hU,h1,h2):=O3 el hY;show#[by rw[agd,Ev.set_len];show el,Z,hg,z,?_];show(Slots.sub (L:=(!v,!l)::((x,Y.vs[i])::(cel Z.g Y.mu++(R++pd.map λe=>(!e.1,!e.2))))) (s.perm ((h1 Z.g pd).symm.cons _)) ?_).perm (h2 Z.g pd (!v) (!l));show(adQ _ _).cons_cons _
def SR.take(h:SR K H0 Z0 U H Y pd)(e:Y.vs[i]?=!(!l)):∃v,U[i]?=!(!v)/\SR K H0 Z0 U H (Y.set i none) ((v,l)::pd):=by
 let(el,Z,hg,z,s):=h;let(R,x,hU,h1,h2):=O3 el e;have s1:=s.perm (h1 Z.g pd).symm;obtain⟨v,hv⟩:∃v,x=!v:=by
  have q:=s1.1 _ aaV;cases l with
  |sh p=>let(x,e1,_):=q;show#[x,e1]
  |own p=>let(a,e1,_):=q;show#[_,e1]
 subst hv;show#[v,hU,.mk (Z:=Z) (by rw[Ev.set_len];show el) hg z ?_];have p2:=h2 Z.g pd (!v) none;rw[ail hU]at p2;show Slots.perm ?_ (p2.cons _);have ht:Slots K H0 Z H ((!v,none)::(!v,!l)::(cel Z.g Y.mu++(R++pd.map λe=>(!e.1,!e.2)))):=by
  show#[λe he=>?_,?_]
  . obtain rfl|he:=abw.mp he
    . trivial
    . show s1.1 e he
  . have:oG (!v,none)=none:=by cases v<;>rfl
    rw[agZ this];show s1.2
 show ht.perm (List.Perm.swap _ _ _)
def SR.put(h:SR K H0 Z0 U H Y ((v,l)::pd))(e:U[i]?=!(!v)):SR K H0 Z0 U H (Y.set i (!l)) pd:=by
 have hi:i<Y.vs.length:=by rw[<-h.1];show(adP.mp e).1
 have:=h.store hi;rw[ail e]at this;lia
end
abbrev EF:=Ev->Option (Lc×Ev)
abbrev TF:=Ev->Option (Bool×Ev)
abbrev AF:=Ev->Option (List Lc×Ev)
inductive Fl where
 |nx (Y:Ev)
 |rt (r:Lc) (Y:Ev)
 |bk (Y:Ev)
 |ct (Y:Ev)
abbrev SF:=Ev->Option Fl
def tP(K:FG)(f:EF):TE:=λU H Q=>∃H0 Z0 Y pd r Y',SR K H0 Z0 U H Y pd/\f Y=!(r,Y')/\∀v H',SR K H0 Z0 U H' Y' ((v,r)::pd)->Q v H'
def jF(K:FG)(f:TF):TT:=λU H Q=>∃H0 Z0 Y pd b Y',SR K H0 Z0 U H Y pd/\f Y=!(b,Y')/\∀H',SR K H0 Z0 U H' Y' pd->Q b H'
def jT(K:FG)(f:AF):TA:=λU H Q=>∃H0 Z0 Y pd ls Y',SR K H0 Z0 U H Y pd/\f Y=!(ls,Y')/\∀vs H',vs.length=ls.length->SR K H0 Z0 U H' Y' (vs.zip ls++pd)->Q vs H'
def O4(K:FG)(H0:Hp)(Z0:ZG)(pd:Pd)(D:Ends):Fl->Prop
 |.nx Y'=>∀U' H',SR K H0 Z0 U' H' Y' pd->D.nx U' H'
 |.rt r Y'=>∀v U' H',SR K H0 Z0 U' H' Y' ((v,r)::pd)->D.rt v H'
 |.bk Y'=>∀U' H',SR K H0 Z0 U' H' Y' pd->D.bk U' H'
 |.ct Y'=>∀U' H',SR K H0 Z0 U' H' Y' pd->D.ct U' H'
def iT(K:FG)(g:SF):TS:=λD U H=>∃H0 Z0 Y pd fl,SR K H0 Z0 U H Y pd/\g Y=!fl/\O4 K H0 Z0 pd D fl
section
variable {X:Cx}{e:Expr}{es:List Expr}{st:Stmt}{sts:List Stmt}
def PE.imp(h:PE X e t)(i:∀U H Q,t' U H Q->t U H Q):PE X e t':=λaki s U H Q I q=>h aki s U H Q I (i U H Q q)
def PT.imp(h:PT X e t)(i:∀U H Q,t' U H Q->t U H Q):PT X e t':=λaki s U H Q I q=>h aki s U H Q I (i U H Q q)
def PW.imp(h:PW X e t)(i:∀U H Q,t' U H Q->t U H Q):PW X e t':=λwh aki s U H Q I q=>h wh aki s U H Q I (i U H Q q)
def PA.imp(h:PA X es t)(i:∀U H Q,t' U H Q->t U H Q):PA X es t':=λpos aki s U H Q I q=>h pos aki s U H Q I (i U H Q q)
def PS.imp(h:PS X st t)(i:∀D U H,t' D U H->t D U H):PS X st t':=λaki s U H D I q=>h aki s U H D I (i D U H q)
def kZ.imp(h:kZ X sts t)(i:∀D U H,t' D U H->t D U H):kZ X sts t':=λaki s U H D I q=>h aki s U H D I (i D U H q)
def aa(i:Nat):EF:=λY=>match Y.vs[i]? with
 |some (!l)=>!(.sh l.pv,Y.set i (!(.sh l.pv)))
 |_=>none
def eC(p:PV):EF:=λY=>!(.sh p,Y)
abbrev akg(i:Int):=eC (.int i)
abbrev akh(s:Str):=eC (.str s)
def qv(h:PE X e (wK i)):PE X e (tP X.K (aa i)):=PE.imp h λU H Q q=>by
 let(H0,Z0,Y,pd,r,Y',s,f,k):=q;unfold aa at f;split at f
 . rename_i l e1;cases f;let(v,h1,h2):=s.var e1;show#[v,h1,k v H h2]
 . cases f
def qc(h:PE X e (tC v))(r:∀Z,Rep X.K Z p v):PE X e (tP X.K (eC p)):=PE.imp h λU H Q q=>by let(H0,Z0,Y,pd,l,Y',s,f,k):=q;cases f;show k v H (s.scal r)
def iD:∀Z,Rep K Z (.int i) (.int i):=λZ=>by unfold Rep;rfl
def wA:∀Z,Rep K Z (.str i) (.str i):=λZ=>by unfold Rep;rfl
def gC:∀Z,Rep K Z (.bl i) (.bl i):=λZ=>by unfold Rep;rfl
def zB:∀Z,Rep K Z .non .non:=λZ=>by unfold Rep;rfl
def lg(K:FG)(r:R2)(g:PV->PV->Option Lc):Prop:=∀H0 Z0 U Y pd H v w x y l Q,SR K H0 Z0 U H Y ((w,.sh y)::(v,.sh x)::pd)->g x y=!l->(∀u H',SR K H0 Z0 U H' Y ((u,l)::pd)->Q u H')->r v w H Q
def aq(g:PV->PV->Option Lc)(fa fb:EF):EF:=λY=>(fa Y).bind λx=>(fb x.2).bind λy=>(g x.1.pv y.1.pv).map λl=>(l,y.2)
def ZS(h:aq g fa fb Y=!(l,Y')):∃x Y1 y,fa Y=!(x,Y1)/\fb Y1=!(y,Y')/\g x.pv y.pv=!l:=by
 unfold aq at h;cases h1:fa Y with
 |none=>rw[h1]at h;cases h
 |some x=>
  rw[h1,aaS]at h;cases h2:fb x.2 with
  |none=>rw[h2]at h;cases h
  |some y=>
   rw[h2,aaS]at h;cases h3:g x.1.pv y.1.pv with
   |none=>rw[h3]at h;cases h
   |some z=>
    rw[h3]at h;cases h;show#[x.1,x.2,y.1,rfl,h2,h3]
def O5(hs:lg X.K r g):∀U H Q,tP X.K (aq g fa fb) U H Q->R7 r (tP X.K fa) (tP X.K fb) U H Q:=λU H Q q=>by let(H0,Z0,Y,pd,l,Y',s,f,k):=q;let(x,Y1,y,h1,h2,h3):=ZS f;show#[H0,Z0,Y,pd,x,Y1,s,h1,λv H1 s1=>#[H0,Z0,Y1,_,y,Y',s1,h2,λw H2 s2=>?_]];show hs H0 Z0 U Y' pd H2 v w x.pv y.pv l Q (s2.freeze.swap.freeze.swap) h3 λu H' s3=>k u H' s3
def aW(ho:iB X (binaryOp op) r)(hs:lg X.K r g)(ha:PE X a (tP X.K fa))(hb:PE X b (tP X.K fb)):PE X (.BinOp a op b pos) (tP X.K (aq g fa fb)):=
 PE.imp (afr ho ha hb) (O5 hs)
def GZ(ho:iB X (compareOp op) r)(hs:lg X.K r g)(ha:PE X a (tP X.K fa))(hb:PE X b (tP X.K fb))(hm:behindInMarks op b=false):PE X (.Compare a [op] [b] pos) (tP X.K (aq g fa fb)):=
 PE.imp (abQ ho ha hb hm) (O5 hs)
noncomputable def zE(C:Int->Int->Bool)(g:Int->Int->PV):PV->PV->Option Lc
 |.int i,.int j=>if C i j=true then !(.sh (g i j)) else none
 |_,_=>none
def O6(h:zE C g x y=!l):∃i j,x=.int i/\y=.int j/\C i j=true/\l=.sh (g i j):=by
 cases x with
 |int i=>
  cases y with
  |int j=>
   have h':(if C i j=true then !(Lc.sh (g i j)) else none)=!l:=h;split at h'
   . rename_i c;cases h';show#[i,j,rfl,rfl,c,rfl]
   . cases h'
  |_=>cases h
 |_=>cases h
def cF(h:Rep K Z (.int i) v):v=.int i:=by  show h
def eY(h:Rep K Z (.str i) v):v=.str i:=by  show h
def gD(h:Rep K Z (.bl i) v):v=.bl i:=by  show h
def jG(h:Rep K Z .non v):v=.non:=by  show h
def Ip(hc:∀i j,C i j=true->C' i j)(hg:∀i j Z,Rep K Z (g i j) (gV i j)):lg K (rI C' gV) (zE C g):=by intro H0 Z0 U Y pd H v w x y l Q s e k;let(i,j,rfl,rfl,c,rfl):=O6 e;let(_,rw'):=s.repH;let(_,rv'):=s.pop.repH;have hw:=cF rw';have hv:=cF rv';show#[i,j,hv,hw,hc i j c,k _ H (s.pop.pop.scal (hg i j))]
def Ir(hg:∀i j Z,Rep K Z (g i j) (gV i j)):lg K (zu gV) (zE (λ_ _=>true) g):=by intro H0 Z0 U Y pd H v w x y l Q s e k;let(i,j,rfl,rfl,c,rfl):=O6 e;let(_,rw'):=s.repH;let(_,rv'):=s.pop.repH;show#[i,j,cF rv',cF rw',k _ H (s.pop.pop.scal (hg i j))]
end
section
variable {X:Cx}
section
variable {K:FG}{H0 H H':Hp}{Z0 Z:ZG}{U:L2.St}{Y:Ev}{pd pd':Pd}{v w:V}{l:Lc}{p:PV}{g:List Addr}
def SR.newO(h:SR K H0 Z0 U H Y pd)(ha:H a=none)(hp:∀Z,lH H0 Z0 Z H->Slots K H0 Z H (sl Z.g U Y pd)->uo K Z (upd H a o) a p):SR K H0 Z0 U (upd H a o) Y ((.ref a,.own p)::pd):=by let(e,Z,hg,z,s):=h;let(z',s'):=s.new z ha (hp Z z s);show .mk e hg z' s'
def Nr{α:Type}(A B C:List α):List.Perm (A++(B++C)) (B++(A++C)):=by rw[<-aba A B C,<-aba B A C];show List.perm_append_comm.append_right _
def O7:List.Perm (sl g U Y (pe++pd)) (pe.map (λe=>((some e.1:Option V),(some e.2:Option Lc)))++sl g U Y pd):=by unfold sl;rw[ady];show((Nr _ _ _).append_left _).trans (Nr _ _ _)
theorem SR.freezeAll:∀{vs:List V}{ls:List Lc}{pd:Pd},SR K H0 Z0 U H Y (vs.zip ls++pd)->SR K H0 Z0 U H Y (vs.zip (ls.map λl=>.sh l.pv)++pd)
 |[],ls,pd=>λh=>by simpa using h
 |v::vs,[],pd=>λh=>by lia
 |v::vs,l::ls,pd=>λh=>by have h1:=h;have h2:=h1.freeze.perm ag1;have h3:=SR.freezeAll h2;show h3.perm ag1.symm
theorem Slots.repl:∀{vs:List V}{ps:List PV},vs.length=ps.length->Slots K H0 Z H ((vs.zip (ps.map λp=>Lc.sh p)).map (λe=>(!e.1,!e.2))++L)->aR K Z ps vs
 |[],[]=>λ_ _=>.nil
 |v::vs,p::ps=>λe h=>by have h1:=h;let(x,e1,e2):=h1.1 _ aaV;cases e1;show aR.cons e2 (Slots.repl ∅ (h1.sub (adQ _ _)))
 |[],p::ps=>λe _=>by lia
 |v::vs,[]=>λe _=>by lia
def SR.repl{vs:List V}{ls:List Lc}(h:SR K H0 Z0 U H Y (vs.zip ls++pd))(e:vs.length=ls.length):U.length=Y.vs.length/\∃Z,Y.mu.length=Z.g.length/\lH H0 Z0 Z H/\aR K Z (ls.map Lc.pv) vs/\Slots K H0 Z H (sl Z.g U Y pd):=by
 let(el,Z,hg,z,s):=h.freezeAll;have hm:(ls.map λl=>Lc.sh l.pv)=(ls.map Lc.pv).map λp=>Lc.sh p:=by rw[agb];rfl
 rw[hm]at s;have pm:List.Perm (sl Z.g U Y (vs.zip ((ls.map Lc.pv).map λp=>Lc.sh p)++pd)) ((vs.zip ((ls.map Lc.pv).map λp=>Lc.sh p)).map (λe=>(!e.1,!e.2))++sl Z.g U Y pd):=O7;have s':=s.perm pm.symm;show#[el,Z,hg,z,Slots.repl ∅ s',s'.sub (ahv _ _)]
end
def Gk{α:Type}{l:List α}(h:l.length=1):∃a,l=[a]:=List.length_eq_one_iff.mp h
def ln2{α:Type}{l:List α}(h:l.length=2):∃a b,l=[a,b]:=by
 cases l with
 |nil=>cases h
 |cons a l=>let(b,rfl):=Gk (ah8 h);lia
def ln3{α:Type}{l:List α}(h:l.length=3):∃a b c,l=[a,b,c]:=by
 cases l with
 |nil=>cases h
 |cons a l=>let(b,c,rfl):=ln2 (ah8 h);show#[a,b,c,rfl]
def ln4{α:Type}{l:List α}(h:l.length=4):∃a b c d,l=[a,b,c,d]:=by
 cases l with
 |nil=>cases h
 |cons a l=>let(b,c,d,rfl):=ln3 (ah8 h);show#[a,b,c,d,rfl]
def ln5{α:Type}{l:List α}(h:l.length=5):∃a b c d e,l=[a,b,c,d,e]:=by
 cases l with
 |nil=>cases h
 |cons a l=>let(b,c,d,e,rfl):=ln4 (ah8 h);lia
def ao:AF:=λY=>!([],Y)
noncomputable def aj(f:EF)(g:AF):AF:=λY=>(f Y).bind λx=>(g x.2).map λy=>(x.1::y.1,y.2)
def au:PA X [] (jT X.K ao):=PA.imp jx λU H Q q=>by let(H0,Z0,Y,pd,l,Y',s,f,k):=q;cases f;show k [] H rfl s
def ak{e:Expr}{es:List Expr}{f:EF}{g:AF}(ha:PE X e (tP X.K f))(hr:PA X es (jT X.K g))(hs:starEach (e::es) X.env=(false,eval e X.env)::starEach es X.env:=by rfl):PA X (e::es) (jT X.K (aj f g)):=PA.imp (cT ha hr hs) λU H Q q=>by
 let(H0,Z0,Y,pd,l,Y',s,h,k):=q;unfold aj at h;cases h1:f Y with
 |none=>lia
 |some x=>
  rw[h1,aaS]at h;cases h2:g x.2 with
  |none=>lia
  |some y=>
   rw[h2]at h;cases h;show#[H0,Z0,Y,pd,x.1,x.2,s,h1,λv H1 s1=>#[H0,Z0,x.2,_,y.1,y.2,s1,h2,λvs H2 e2 s2=>?_]];show k (v::vs) H2 ∅ (s2.perm ag1.symm)
def bG(g:AF):EF:=λY=>(g Y).bind λy=>if y.1.length<=1000 then !(.own (.lst (y.1.map Lc.pv)),y.2) else none
def bz(g:AF):EF:=λY=>(g Y).bind λy=>if y.1.length<=1000 then !(.sh (.tup (y.1.map Lc.pv)),y.2) else none
def small(h:n<=100000):n<=sizeLine:=by rw[sizeLine_eq];lia
def eX{es:List Expr}{g:AF}{pos:Pos}(h:PA X es (jT X.K g)):PE X (.List es pos) (tP X.K (bG g)):=PE.imp (adI h) λU H Q q=>by
 let(H0,Z0,Y,pd,l,Y',s,f,k):=q;unfold bG at f;cases h2:g Y with
 |none=>lia
 |some y=>
  rw[h2,aaS]at f;split at f
  . cases f;show#[H0,Z0,Y,pd,y.1,y.2,s,h2,λvs H2 e2 s2=>#[small (),λp hp=>k _ _ ?_]];let(el,Z,hg,z,r,sl'):=s2.repl e2;let(z',s'):=sl'.new (p:=.lst (y.1.map Lc.pv)) z hp #[vs,cQ,r];show .mk el hg z' s'
  . cases f
def eF{es:List Expr}{g:AF}{x1}{pos:Pos}(h:PA X es (jT X.K g)):PE X (.Tuple es x1 pos) (tP X.K (bz g)):=PE.imp (WP h) λU H Q q=>by
 let(H0,Z0,Y,pd,l,Y',s,f,k):=q;unfold bz at f;cases h2:g Y with
 |none=>lia
 |some y=>
  rw[h2,aaS]at f;split at f
  . cases f;show#[H0,Z0,Y,pd,y.1,y.2,s,h2,λvs H2 e2 s2=>#[small (),λp hp=>k _ _ ?_]];let(el,Z,hg,z,r,sl'):=s2.repl e2;let(z',sz,s'):=sl'.newF z hp;show .mk (Z:=Z.put p (.tup vs)) el hg z' (s'.consS ?_);show#[p,vs,rfl,dR.of cQ,r.mono sz]
  . cases f
def tT(f:EF)(tr:PV->Option Bool):TF:=λY=>(f Y).bind λx=>(tr x.1.pv).map λb=>(b,x.2)
noncomputable def jJ:PV->Option Bool
 |.non=>!false
 |.bl b=>!b
 |.int i=>!(i != 0)
 |.str x=>if x.length<=100000 then !((x.length:Int) != 0) else none
 |.tup ps=>!(not ps.isEmpty)
 |.lst ps=>!(not ps.isEmpty)
 |.dk ks ps=>!(not ps.isEmpty)
 |_=>none
def agD(r:Rep K #[H,g] p v)(h:jJ p=!b):Zf K v H b:=by
 cases p with
 |non=>have:=jG r;subst this;cases h;show rfl
 |bl c=>have:=gD r;subst this;cases h;show rfl
 |int i=>have:=cF r;subst this;cases h;show rfl
 |str x=>
  have:=eY r;subst this;have h:(if x.length<=100000 then !((x.length:Int) != 0) else none)=!b:=h;split at h
  . rename_i hl;cases h;show#[small hl,rfl]
  . cases h
 |tup ps=>
  let(a,vs,rfl,h1,h2):=r;cases h;show .inr (.inl #[vs,h1,?_]);have:=h2.length;lia
 |lst ps=>
  let(a,vs,rfl,h1,h2):=r;cases h;show .inl #[vs,h1,?_];have:=h2.length;lia
 |dk ks ps=>
  let(a,kvs,rfl,h1,h3,h2):=r;cases h;show .inr (.inr #[kvs,h1,?_]);have:=h2.length;lia
 |_=>cases h
def Sx(h:tT f tr Y=!(b,Y')):∃x,f Y=!(x,Y')/\tr x.pv=!b:=by
 unfold tT at h;cases h1:f Y with
 |none=>lia
 |some x=>
  rw[h1,aaS]at h;cases h2:tr x.1.pv with
  |none=>lia
  |some y=>lia
def nO(ha:PE X a (tP X.K f))(he:∀whole,isTrue a X.env whole=(do let v <-whole;standAt a.pos;holding [v] (truthy v))):PT X a (jF X.K (tT f jJ)):=PT.imp (Oj ha he) λU H Q q=>by let(H0,Z0,Y,pd,b,Y',s,f',k):=q;let(x,h1,h2):=Sx f';show#[H0,Z0,Y,pd,x,Y',s,h1,λv H1 s1=>#[b,agD s1.freeze.repH.choose_spec h2,k H1 s1.pop]]
def aQ:PV->Option Bool
 |.bl b=>!b
 |_=>none
def Vt(ha:PT X a (Vc (tP X.K f))):PT X a (jF X.K (tT f aQ)):=PT.imp ha λU H Q q=>by
 let(H0,Z0,Y,pd,b,Y',s,f',k):=q;let(x,h1,h2):=Sx f';show#[H0,Z0,Y,pd,x,Y',s,h1,λv H1 s1=>#[b,?_,k H1 s1.pop]];let(_,r):=s1.freeze.repH;cases e:x.pv with
 |bl c=>rw[e]at h2 r;cases h2;show gD r
 |_=>rw[e]at h2;cases h2
def bC(ho:iB X (compareOp op) r)(hs:lg X.K r g)(ha:PE X a (tP X.K fa))(hb:PE X b (tP X.K fb))(hm:behindInMarks op b=false):PT X (.Compare a [op] [b] pos) (jF X.K (tT (aq g fa fb) aQ)):=
 Vt (PT.imp (R8 ho ha hb hm) λU H Q q=>O5 hs U H _ q)
def dI(f g:TF):TF:=λY=>(f Y).bind λx=>if x.1=true then g x.2 else !(false,x.2)
noncomputable def jZ(f g:TF):TF:=λY=>(f Y).bind λx=>if x.1=true then !(true,x.2) else g x.2
noncomputable def lJ(f:TF):TF:=λY=>(f Y).map λx=>(not x.1,x.2)
def ace:∀U H Q,jF X.K (dI f g) U H Q->adk (jF X.K f) (jF X.K g) U H Q:=λU H Q q=>by
 let(H0,Z0,Y,pd,b,Y',s,h,k):=q;unfold dI at h;cases h1:f Y with
 |none=>lia
 |some x=>
  rw[h1,aaS]at h;show#[H0,Z0,Y,pd,x.1,x.2,s,h1,λH1 s1=>?_];dsimp only;split
  . rename_i c;rw[aic c]at h;show#[H0,Z0,x.2,pd,b,Y',s1,h,k]
  . lia
def ad3:∀U H Q,jF X.K (jZ f g) U H Q->tOr (jF X.K f) (jF X.K g) U H Q:=λU H Q q=>by
 let(H0,Z0,Y,pd,b,Y',s,h,k):=q;unfold jZ at h;cases h1:f Y with
 |none=>lia
 |some x=>
  rw[h1,aaS]at h;show#[H0,Z0,Y,pd,x.1,x.2,s,h1,λH1 s1=>?_];dsimp only;split
  . lia
  . rename_i c;rw[aid c]at h;show#[H0,Z0,x.2,pd,b,Y',s1,h,k]
def nZ(ha:PT X a (jF X.K f)):PW X (.BoolOp .And [a] pos) (jF X.K f):=abM ha
def zF(ha:PT X a (jF X.K f)):PW X (.BoolOp .Or [a] pos) (jF X.K f):=adl ha
def pH{rest:List Expr}(ha:PT X a (jF X.K f))(hb:PW X (.BoolOp .And (b::rest) pos) (jF X.K g)):PW X (.BoolOp .And (a::b::rest) pos) (jF X.K (dI f g)):=PW.imp (adm ha hb) ace
def vW{rest:List Expr}(ha:PT X a (jF X.K f))(hb:PW X (.BoolOp .Or (b::rest) pos) (jF X.K g)):PW X (.BoolOp .Or (a::b::rest) pos) (jF X.K (jZ f g)):=PW.imp (afk ha hb) ad3
def zG(ha:PT X a (jF X.K f)):PT X (.UnaryOp .Not a pos) (jF X.K (lJ f)):=PT.imp (adn ha) λU H Q q=>by
 let(H0,Z0,Y,pd,b,Y',s,h,k):=q;unfold lJ at h;cases h1:f Y with
 |none=>lia
 |some x=>
  rw[h1]at h;cases h;show#[H0,Z0,Y,pd,x.1,x.2,s,h1,λH1 s1=>k H1 s1]
def m6(f g:EF):EF:=λY=>(f Y).bind λx=>match x.1.pv with
 |.bl true=>g x.2
 |.bl false=>!(.sh (.bl false),x.2)
 |_=>none
def Dy(f:EF):EF:=λY=>(f Y).bind λx=>match x.1.pv with
 |.bl b=>!(.sh (.bl (not b)),x.2)
 |_=>none
def J5{op}(h:PE X a (tP X.K f)):PE X (.BoolOp op [a] pos) (tP X.K f):=ado h
def Bw{rest:List Expr}(ha:PE X a (tP X.K f))(hb:PE X (.BoolOp .And (b::rest) pos) (tP X.K g)):PE X (.BoolOp .And (a::b::rest) pos) (tP X.K (m6 f g)):=PE.imp (adp ha hb) λU H Q q=>by
 let(H0,Z0,Y,pd,b,Y',s,h,k):=q;unfold m6 at h;cases h1:f Y with
 |none=>lia
 |some x=>
  rw[h1,aaS]at h;show#[H0,Z0,Y,pd,x.1,x.2,s,h1,λv H1 s1=>?_];let(_,r):=s1.freeze.repH;split at h
  . rename_i e;rw[e]at r;show#[true,gD r,?_];show#[H0,Z0,x.2,pd,b,Y',s1.pop,h,k]
  . rename_i e;rw[e]at r;show#[false,gD r,?_];cases h;show k _ H1 (s1.pop.scal gC)
  . cases h
def ad4(ha:PE X a (tP X.K f)):PE X (.UnaryOp .Not a pos) (tP X.K (Dy f)):=PE.imp (adq ha) λU H Q q=>by
 let(H0,Z0,Y,pd,b,Y',s,h,k):=q;unfold Dy at h;cases h1:f Y with
 |none=>lia
 |some x=>
  rw[h1,aaS]at h;show#[H0,Z0,Y,pd,x.1,x.2,s,h1,λv H1 s1=>?_];let(_,r):=s1.freeze.repH;split at h
  . rename_i c e;rw[e]at r;cases h;show#[c,gD r,k _ H1 (s1.pop.scal gC)]
  . cases h
def ug(c:TF)(f g:EF):EF:=λY=>(c Y).bind λx=>if x.1=true then f x.2 else g x.2
def Sy(hc:PT X c (jF X.K fc))(ha:PE X a (tP X.K f))(hb:PE X b (tP X.K g)):PE X (.IfExp c a b pos) (tP X.K (ug fc f g)):=PE.imp (Y5 hc ha hb) λU H Q q=>by
 let(H0,Z0,Y,pd,b,Y',s,h,k):=q;unfold ug at h;cases h1:fc Y with
 |none=>lia
 |some x=>
  rw[h1,aaS]at h;show#[H0,Z0,Y,pd,x.1,x.2,s,h1,λH1 s1=>?_];dsimp only;split
  . rename_i c;rw[aic c]at h;show#[H0,Z0,x.2,pd,b,Y',s1,h,k]
  . rename_i c;rw[aid c]at h;show#[H0,Z0,x.2,pd,b,Y',s1,h,k]
def cu:SF:=λY=>!(.nx Y)
def aG(f g:SF):SF:=λY=>(f Y).bind λx=>match x with
 |.nx Y'=>g Y'
 |y=>!y
def bN:kZ X [] (iT X.K cu):=kZ.imp abN λD U H q=>by let(H0,Z0,Y,pd,fl,s,h,k):=q;cases h;show k U H s
def aA{st:Stmt}{rest:List Stmt}{f g:SF}(h1:PS X st (iT X.K f))(h2:kZ X rest (iT X.K g)):kZ X (st::rest) (iT X.K (aG f g)):=kZ.imp (Y6 h1 h2) λD U H q=>by
 let(H0,Z0,Y,pd,fl,s,h,k):=q;unfold aG at h;cases e:f Y with
 |none=>lia
 |some x=>
  rw[e,aaS]at h;show#[H0,Z0,Y,pd,x,s,e,?_];cases x with
  |nx Y'=>show λU' H' s'=>#[H0,Z0,Y',pd,fl,s',h,k]
  |rt r Y'=>cases h;show k
  |bk Y'=>cases h;show k
  |ct Y'=>cases h;show k
def aD{st:Stmt}{f:SF}(h1:PS X st (iT X.K f)):kZ X [st] (iT X.K f):=abO h1
def eN(f:EF):SF:=λY=>(f Y).map λx=>.nx x.2
def aik{α β:Type}{o:Option α}{f:α->β}{b:β}(h:o.map f=!b):∃a,o=!a/\f a=b:=by
 cases o with
 |none=>cases h
 |some a=>show#[a,rfl,af7 h]
def aij{α β:Type}{o:Option α}{f:α->Option β}{b:β}(h:o.bind f=!b):∃a,o=!a/\f a=!b:=by
 cases o with
 |none=>cases h
 |some a=>show#[a,rfl,h]
def gf(he:PE X e (tP X.K f))(hs:swapsWith e none pos.line X.env=pure false:=by rfl):PS X (.Expr e pos) (iT X.K (eN f)):=PS.imp (ik he hs) λD U H q=>by let(H0,Z0,Y,pd,fl,s,h,k):=q;let(x,h1,rfl):=aik h;show#[H0,Z0,Y,pd,x.1,x.2,s,h1,λv H' s'=>k U H' s'.pop]
def bV(f:EF):SF:=λY=>(f Y).map λx=>.rt x.1 x.2
def bH{e:Expr}{pos:Pos}{f:EF}(he:PE X e (tP X.K f)):PS X (.Return (!e) pos) (iT X.K (bV f)):=PS.imp (Wv he) λD U H q=>by let(H0,Z0,Y,pd,fl,s,h,k):=q;let(x,h1,rfl):=aik h;show#[H0,Z0,Y,pd,x.1,x.2,s,h1,λv H' s'=>k v U H' s']
def qT(i:Nat):SF:=λY=>match Y.vs[i]? with
 |some (!l)=>!(.rt l (Y.set i none))
 |_=>none
def n8(he:PE X e (wK i)):PS X (.Return (!e) pos) (iT X.K (qT i)):=PS.imp (Wv he) λD U H q=>by
 let(H0,Z0,Y,pd,fl,s,h,k):=q;unfold qT at h;split at h
 . rename_i l e1;cases h;let(v,h1,h2):=s.take e1;show#[v,h1,k v U H h2]
 . cases h
def Nt:SF:=λY=>!(.rt (.sh .non) Y)
def SJ:PS X (.Return none pos) (iT X.K Nt):=PS.imp abP λD U H q=>by let(H0,Z0,Y,pd,fl,s,h,k):=q;cases h;show k .non U H (s.scal zB)
def bY(c:TF)(f g:SF):SF:=λY=>(c Y).bind λx=>if x.1=true then f x.2 else g x.2
def bT{c:Expr}{a b:List Stmt}{fc:TF}{f g:SF}{pos:Pos}(hc:PT X c (jF X.K fc))(ha:kZ X a (iT X.K f))(hb:kZ X b (iT X.K g)):PS X (.If c a b pos) (iT X.K (bY fc f g)):=PS.imp (afp hc ha hb) λD U H q=>by
 let(H0,Z0,Y,pd,fl,s,h,k):=q;let(x,h1,h2):=aij h;show#[H0,Z0,Y,pd,x.1,x.2,s,h1,λH1 s1=>?_];dsimp only;split
 . rename_i c;rw[aic c]at h2;show#[H0,Z0,x.2,pd,fl,s1,h2,k]
 . rename_i c;rw[aid c]at h2;show#[H0,Z0,x.2,pd,fl,s1,h2,k]
def aO(i:Nat)(f:EF):SF:=λY=>(f Y).bind λx=>if i<x.2.vs.length then !(.nx (x.2.set i (!x.1))) else none
def SM{t:TS}(h:∀D U H,(tP X.K f U H λv H1=>D.nx (U.set i (!v)) H1)->t D U H):∀D U H,iT X.K (aO i f) D U H->t D U H:=λD U H q=>by
 let(H0,Z0,Y,pd,fl,s,h',k):=q;let(x,h1,h2):=aij h';split at h2
 . rename_i hl;cases h2;show h D U H #[H0,Z0,Y,pd,x.1,x.2,s,h1,λv H1 s1=>k _ _ (s1.store hl)]
 . cases h2
def O8{pos pos':Pos}(hN:X.N.Nodup)(hi:X.N[i]?=!x)(hx:L2.Loc X.env.scope x)(he:PE X e (tP X.K f))(hs:swapsWith e (!(.Name x pos')) pos.line X.env=pure false:=by rfl)(hf:X.fn x=true\/X.env.scope.names.lookup x=!.local:=by first |show .inl rfl |show .inr rfl |assumption):
 PS X (.Assign [.Name x pos'] e pos) (iT X.K (aO i f)):=PS.imp (adv hN hi hx he hs hf) (SM λD U H q=>q)
abbrev GF:=List PV->Mu->Option (Lc×Mu)
def pI(H:Hp)(g:List Addr):Hp:=λb=>if b∈g then none else H b
def acf(h:pI H g b=!o):H b=!o/\b∉g:=by
 unfold pI at h;split at h
 . cases h
 . rename_i q;show#[h,q]
def ZV(h:b∈g):pI H g b=none:=by unfold pI;rw[aic h]
def O9(h:b∉g):pI H g b=H b:=by unfold pI;lia
def ad5(K:FG)(H:Hp)(Z:ZG)(g:List Addr)(H':Hp)(mu':Mu)(v:V)(r:Lc):Prop:=∃Z',mu'.length=Z'.g.length/\lH (pI H g) Z Z' H'/\Slots K (pI H g) Z' H' ((!v,!r)::cel Z'.g mu')
def cR(K:FG)(n:Nat)(g:GF):Sp:=λvs H Q _=>∃(Z:ZG)(ps:List PV)(mu:Mu)(r:Lc)(mu':Mu),vs.length=n/\mu.length=Z.g.length/\fM Z.z H/\aR K Z ps vs/\Slots K (pI H (wV Z.g mu)) Z H (cel Z.g mu)/\g ps mu=!(r,mu')/\∀v H',ad5 K H Z (wV Z.g mu) H' mu' v r->Q v H'
def aH(g:GF)(a:AF):EF:=λY=>(a Y).bind λy=>(g (y.1.map Lc.pv) y.2.mu).map λr=>(r.1,#[y.2.vs,r.2])
def acg(he:e∈cel g mu):∃a,e.1=!(.ref a)/\(e.2=none\/∃p,e.2=!(.own p)):=by
 let(h1,h2):=ahh he;let(a,_,e1):=abz.mp h1;let(o,_,e2):=abz.mp h2;show#[a,e1.symm,?_];cases o with
 |none=>lia
 |some p=>lia
def Slots.cells(hg:Y.mu.length=Z.g.length)(s:Slots K H0 Z H (sl Z.g U Y pd)):Slots K (pI H (wV Z.g Y.mu)) Z H (cel Z.g Y.mu):=by
 have s1:=s.sub (ag9 _ _);show#[λe he=>?_,s1.2];let(a,h1,h2):=acg he;let(v,l):=e;have h1':=h1;subst h1';obtain h2|⟨p,h2⟩:=h2
 . have h2':=h2;subst h2';trivial
 . have h2':=h2;subst h2';let(b,e1,e2,e3,e4):=s1.1 _ he;cases e1;show#[a,rfl,e2,e3,ZV (ag8.mpr #[_,he,rfl])]
def SR.called(el:U.length=Y.vs.length)(hg:Y.mu.length=Z.g.length)(z:lH H0 Z0 Z H)(s:Slots K H0 Z H (sl Z.g U Y pd))(h:ad5 K H Z (wV Z.g Y.mu) H' mu' v r):SR K H0 Z0 U H' #[Y.vs,mu'] ((v,r)::pd):=by
 let(Z',hg',z',q):=h;have s1:=s.sub (ag9 _ _);have s0:=s.sub (ahv _ _);have nd:(wV Z.g Y.mu++(U.zip Y.vs++pd.map λe=>(!e.1,!e.2)).filterMap oG).Nodup:=by have:=s.2;unfold sl at this;rw[List.filterMap_append]at this;show this
 have hc0:∀a∈wV Z.g Y.mu,H0 a=none:=λa ha=>by let(e,he,hb):=ag8.mp ha;show(km s1 he hb).2.1
 have h0:fM H0 (pI H (wV Z.g Y.mu)):=λb o e=>by rw[O9 λhm=>by rw[hc0 b hm]at e;cases e];show z.h0 b o e
 have z2:lH H0 Z0 Z' H':=#[z'.zh,h0.trans z'.h0,z.z0.trans z'.z0,λb o e=>by
  obtain e|e|e:=z'.new b o e
  . show z.new b o e
  . show .inr (.inl (h0.free e))
  . show .inr (.inr e)]
 have nog:∀e∈(U.zip Y.vs++pd.map λe=>((some e.1:Option V),(some e.2:Option Lc))),∀a,oG e=!a->a∉wV Z.g Y.mu/\pI H (wV Z.g Y.mu) a=H a:=λe he a ha=>by have hn:=λhm=>(aha.mp nd).2.2 a hm a ∅ rfl;show#[hn,O9 hn]
 have hk:∀e∈(U.zip Y.vs++pd.map λe=>((some e.1:Option V),(some e.2:Option Lc))),∀a,oG e=!a->H' a=H a/\Z'.z a=none:=λe he a ha=>by
  let(h1,h2,o,h3,h4):=km s0 he ha;let(hn,ho):=nog e he a ha;have h5:=z'.h0 a o ∅;show#[by rw[h3];show h5,?_];cases q:Z'.z a with
  |none=>rfl
  |some u=>
   obtain e|e|e:=z'.new a u q
   . lia
   . lia
   . have:=z'.zh a u q;lia
 have s2:=s0.step z'.z0 hk;have q':Slots K H0 Z' H' ((!v,!r)::cel Z'.g mu'):=by
  show#[λe he=>?_,q.2];have:=q.1 e he;let(w,l):=e;cases l with
  |none=>trivial
  |some l=>
   cases l with
   |sh p=>show this
   |own p=>let(a,e1,e2,e3,e4):=this;show#[a,e1,e2,e3,h0.free e4]
 have dis:∀e∈((!v,!r)::cel Z'.g mu'),∀a,oG e=!a->∀e'∈(U.zip Y.vs++pd.map λe=>((some e.1:Option V),(some e.2:Option Lc))),oG e'≠!a:=λe he a ha e' he' ha'=>by let(_,h2,_):=km q he ha;let(_,_,o,h3,_):=km s0 he' ha';rw[(nog e' he' a ha').2,h3]at h2;cases h2
 show .mk el hg' z2 ?_;show#[λe he=>?_,?_]
 . obtain rfl|he:=abw.mp he
   . show q'.1 _ aaV
   . obtain he|he:=adY.mp he
     . show q'.1 _ (abl _ he)
     . show s2.1 e he
 . show (((!v,!r)::(cel Z'.g mu'++(U.zip Y.vs++pd.map λe=>(!e.1,!e.2)))).filterMap oG).Nodup;rw[<-ahm,List.filterMap_append];show aha.mpr #[q'.2,s2.2,λa ha b hb e=>?_];lia
def ZW:∀U H Q,(∃H0 Z0 Y pd r Y',SR X.K H0 Z0 U H Y pd/\aH g a Y=!(r,Y')/\(∀ls Y1,a Y=!(ls,Y1)->ls.length=n)/\∀v H',SR X.K H0 Z0 U H' Y' ((v,r)::pd)->Q v H')->Vj (cR X.K n g) [] E (jT X.K a) U H Q:=λU H Q q=>by
 let(H0,Z0,Y,pd,r,Y',s,h,hn,k):=q;let(y,h1,h2):=aij h;let(r',h3,h4):=aik h2;cases h4;show#[H0,Z0,Y,pd,y.1,y.2,s,h1,λvs H2 e2 s2=>?_];let(el,Z,hg,z,rl,sl'):=s2.repl e2;show#[Z,y.1.map Lc.pv,y.2.mu,_,_,?_,hg,z.zh,?_,sl'.cells hg,h3,λv H' rr=>k v H' (SR.called el hg z sl' rr)]
 . lia
 . lia
end
section
variable {P:Program}{w:World}{K:FG}{mg:Str->Option Value}{base:Heap}
def dH(K:FG)(mg:Str->Option Value)(x:Str)(st:Stmt)(ps:List Str):Prop:=∃f fd,ye K x x st f fd/\mg x=!(.ref f)/\Binds K fd ps []
def Pa(b:Bool)(P:Program)(w:World)(K:FG)(mg:Str->Option Value)(base:Heap)(x:Str)(k:Nat)(ps:List Str)(sp:Sp):Prop:=∃f fd,vU b P w K mg base uf k f fd ps sp/\mg x=!(.ref f)/\W.keepIn K (.ref f)=true/\Binds K fd ps []
abbrev cU:=Pa true
def env0(n:Nat)(ps:List PV)(mu:Mu):Ev:=#[ps.map (λp=>!(Lc.sh p))++List.replicate (n-ps.length) none,mu]
noncomputable def cV(n:Nat)(g:SF):GF:=λps mu=>(g (env0 n ps mu)).bind λx=>match x with
 |.rt r Y=>!(r,Y.mu)
 |.nx Y=>!(.sh .non,Y.mu)
 |_=>none
theorem SN(s:Slots K H0 Z H L):∀{ps:List PV}{vs:List V},aR K Z ps vs->Slots K H0 Z H ((vs.map some).zip (ps.map λp=>!(Lc.sh p))++L)
 |[],vs=>λh=>by have:=h.inv0;subst this;simpa using s
 |p::ps,vs=>λh=>by let(v,r,rfl,h1,h2):=h.inv;show(SN s h2).consS h1
theorem nones(s:Slots K H0 Z H L):∀n:Nat,Slots K H0 Z H ((List.replicate n (none:Option V)).zip (List.replicate n (none:Option Lc))++L)
 |0=>s
 |n+1=>by
  rw[List.replicate_succ,List.replicate_succ,ahg,ahm];have ih:=nones s n;show#[λe he=>?_,?_]
  . obtain rfl|he:=abw.mp he
    . trivial
    . show ih.1 e he
  .  show ih.2
def G3(hg:mu.length=Z.g.length)(z:fM Z.z H)(r:aR K Z ps vs)(c:Slots K (pI H (wV Z.g mu)) Z H (cel Z.g mu)):SR K (pI H (wV Z.g mu)) Z (L2.start N vs) H (env0 N.length ps mu) []:=by have hl:=r.length;show#[by simp[L2.start,env0,hl],Z,hg,#[z,λb o e=>(acf e).1,jr.refl _,λb o e=>.inl e],?_];unfold sl L2.start env0;rw[ahn (by simp[hl]),ahA,abv,hl];show(SN (nones c _) r).perm ((ahq).trans (by rw[aba]))
def dH.ok{st:Stmt}(F:dH K mg x st ps)(S:bw N ps (aK st))
 (h:∀(f:Addr)(cdv:Value)(A:Around)(outer:List PySem.Env)(s:Shared)(H:Hp)(E:XK),iI b k (A.deeper (envOfC x (aK st) s.heap.objs.size f cdv))->
   ∃g':SF,(∀a mu,g a mu=cV N.length g' a mu)/\kZ (yd b uf P w K mg base N x (aK st) f cdv A outer s H E).nox (lw st) (iT K g')):Pa b P w K mg base x (k+1) ps (cR K ps.length g):=by
 let(f,fd,F,hm,hb):=F;show#[f,fd,F.ok S (λvs H Q E q=>?_) (λcdv A outer s H vs Q E hr q=>?_),hm,F.kp,hb]
 . let(Z,qs,mu,r,mu',e,_):=q;show e
 . let(g',eg,b):=h f cdv A outer s H E hr;let(Z,qs,mu,r,mu',e,hg,z,rl,c,hr',kk):=q;rw[eg]at hr';let(fl,h1,h2):=aij hr';show#[_,b,pI H (wV Z.g mu),Z,_,[],fl,G3 hg z rl c,h1,?_];cases fl with
   |rt r' Y'=>
    cases h2;intro v U' H' s';let(el,Z',hg',z',s''):=s'.top;show kk v H' #[Z',hg',z',s''.sub ?_];show(ag9 _ _).cons_cons _
   |nx Y'=>
    cases h2;intro U' H' s';let(el,Z',hg',z',s''):=s';show kk .non H' #[Z',hg',z',(s''.sub (ag9 _ _)).consS (zB _)]
   |bk Y'=>cases h2
   |ct Y'=>cases h2
end
section
variable {X:Cx}
def bI{p pos:Pos}(D:Pa b X.prog X.w X.K X.mg X.base x k ps (cR X.K ps.length g))(hr:iI b k X.A)(hg:Gl X x)
 (ha:PA X (e::es) (jT X.K a)) (hn:∀Y ls Y1,a Y=!(ls,Y1)->ls.length=ps.length) (hdb:(x==("__debug__" : Str))=false:=by decide) (he:starEach (e::es) X.env=(false,eval e X.env)::starEach es X.env:=by rfl) (hpl:(backTo pos (starEach es X.env)).any (·.1)=false:=by rfl):PE X (.Call (.Name x p) (e::es) [] pos) (tP X.K (aH g a)):=by
 let(f,fd,F,hm,hk,hb):=D;show PE.imp (R9 F hr hg hm hk hb .nil Ia ha hdb he hpl) λU H Q q=>?_;let(H0,Z0,Y,pd,r,Y',s,h,kk):=q;show ZW U H Q #[H0,Z0,Y,pd,r,Y',s,h,λls Y1 e=>hn Y ls Y1 e,kk]
section
variable {K:FG}{H0 H H':Hp}{Z0 Z:ZG}{U:L2.St}{Y:Ev}{pd pd':Pd}{v w:V}{l:Lc}{p:PV}
def SR.sub(h:SR K H0 Z0 U H Y pd')(q:List.Sublist pd pd'):SR K H0 Z0 U H Y pd:=
 let #[e,Z,hg,z,s]:=h
 #[e,Z,hg,z,s.sub ((ahI _).append ((ahI _).append (q.map _)))]
def SR.dup(h:SR K H0 Z0 U H Y ((v,.sh p)::pd)):SR K H0 Z0 U H Y ((v,.sh p)::(v,.sh p)::pd):=by let(e,Z,hg,z,s):=h.top;let(x,e1,e2):=s.1 _ aaV;cases e1;show .mk e hg z ((s.perm dh).consS e2)
def SR.part(h:SR K H0 Z0 U H Y ((v,.sh p)::pd))(k:∀Z:ZG,fM Z.z H->Rep K Z p v->Rep K Z q u):SR K H0 Z0 U H Y ((u,.sh q)::(v,.sh p)::pd):=by let(e,Z,hg,z,s):=h.top;let(x,e1,e2):=s.1 _ aaV;cases e1;show .mk e hg z ((s.perm dh).consS (k Z z.zh e2))
end
abbrev BF:=PV->Ev->Option Ev
def GS(K:FG)(g:TG)(b:BF):Prop:=∀H0 Z0 U H Y pd v p Y' Q,SR K H0 Z0 U H Y ((v,.sh p)::pd)->b p Y=!Y'->(∀U',SR K H0 Z0 U' H Y' pd->Q U' H)->g v U H Q
abbrev Iu:=List PV->Ev->Option Ev
def Xj(K:FG)(g:zq)(b:Iu):Prop:=∀H0 Z0 U H Y pd vs ps Y' Q,vs.length=ps.length->SR K H0 Z0 U H Y (vs.zip (ps.map Lc.sh)++pd)->b ps Y=!Y'->(∀U',SR K H0 Z0 U' H Y' pd->Q U' H)->g vs U H Q
def aF(i:Nat):BF:=λp Y=>if i<Y.vs.length then !(Y.set i (!(.sh p))) else none
def aV:GS K (Nm i) (aF i):=by
 intro H0 Z0 U H Y pd v p Y' Q s h k;unfold aF at h;split at h
 . rename_i hl;cases h;show k _ (s.store hl)
 . cases h
def dU:Iu:=λps Y=>match ps with
 |[]=>!Y
 |_=>none
def aL(b:BF)(bs:Iu):Iu:=λps Y=>match ps with
 |p::r=>(b p Y).bind λY1=>bs r Y1
 |[]=>none
def jc:Xj K adt dU:=by
 intro H0 Z0 U H Y pd vs ps Y' Q e s h k;cases ps with
 |nil=>
  cases h;have:vs=[]:=ahW ();subst this;show#[rfl,k U s]
 |cons p r=>cases h
def bA(h1:GS K t b)(h2:Xj K u bs):Xj K (aaT t u) (aL b bs):=by
 intro H0 Z0 U H Y pd vs ps Y' Q e s h k;cases ps with
 |nil=>cases h
 |cons p r=>
  cases vs with
  |nil=>simp at e
  |cons v ws=>
   let(Y1,e1,e2):=aij h;show#[v,ws,rfl,h1 H0 Z0 U H Y _ v p Y1 _ s e1 λU' s'=>?_];show h2 H0 Z0 U' H Y1 pd ws r Y' Q (by simpa using e) s' e2 k
theorem Xk(s:Slots K H0 Z H L):∀{ps:List PV}{vs:List V},aR K Z ps vs->Slots K H0 Z H ((vs.zip (ps.map Lc.sh)).map (λe=>(!e.1,!e.2))++L)
 |[],vs=>λh=>by have:=h.inv0;subst this;simpa using s
 |p::ps,vs=>λh=>by let(v,r,rfl,h1,h2):=h.inv;show(Xk s h2).consS h1
def SR.items(e:U.length=Y.vs.length)(hg:Y.mu.length=Z.g.length)(z:lH H0 Z0 Z H)(r:aR K Z ps vs)(s:Slots K H0 Z H (sl Z.g U Y pd)):SR K H0 Z0 U H Y (vs.zip (ps.map Lc.sh)++pd):=
 #[e,Z,hg,z,(Xk s r).perm O7]
def rG(f:EF)(b:BF):SF:=λY=>(f Y).bind λx=>(b x.1.pv x.2).map Fl.nx
def Dz{pos:Pos}(he:PE X e (tP X.K f))(hg:PG X tg g)(hb:GS X.K g b)(hs:swapsWithSole [tg] e pos.line X.env=pure false:=by rfl)(hw:swappedStores [tg] e X.env=pure none:=by rfl)
 (h1:(assignEach [tg] X.env).map (·.2)=[assign tg X.env]:=by rfl):PS X (.Assign [tg] e pos) (iT X.K (rG f b)):=PS.imp (uZ he hg hs hw h1) λD U H q=>by
 let(H0,Z0,Y,pd,fl,s,h,k):=q;let(x,h1,h2):=aij h;let(Y',h3,rfl):=aik h2;show#[H0,Z0,Y,pd,x.1,x.2,s,h1,λv H1 s1=>hb H0 Z0 U H1 x.2 pd v _ Y' D.nx s1.freeze h3 λU' s'=>k U' H1 s']
def ag6(i j:Nat)(a:AF):SF:=λY=>(a Y).bind λy=>match y.1 with
 |[l,m]=>if i<y.2.vs.length/\j<y.2.vs.length then !(.nx ((y.2.set i (!l)).set j (!m))) else none
 |_=>none
def sH(K:FG)(H0:Hp)(Z0:ZG)(pd:Pd)(J:It)(xs:List PV):Prop:=∀U H Y (i:Nat),SR K H0 Z0 U H Y pd->
 (∀x,xs[i]?=!x->J.go i H/\∀v H',J.yld i H v H'->SR K H0 Z0 U H' Y ((v,.sh x)::pd))/\(i=xs.length->J.stop i H)
abbrev IF:=Ev->Option (List PV×Ev)
def Iv(K:FG)(f:IF):TI:=λU H R=>∃H0 Z0 Y pd xs Y',SR K H0 Z0 U H Y pd/\f Y=!(xs,Y')/\∀J H' pd',SR K H0 Z0 U H' Y' pd'->sH K H0 Z0 pd' J xs->List.Sublist pd pd'->R J H'
def PI.imp(h:PI X tg iter t)(i:∀U H R,t' U H R->t U H R):PI X tg iter t':=λaki s U H R I q=>h aki s U H R I (i U H R q)
def jd(f:EF)(g:PV->Option (List PV)):IF:=λY=>(f Y).bind λx=>(g x.1.pv).map λxs=>(xs,x.2)
def Xl:sH K H0 Z0 ((.ref a,.sh (.lst ps))::pd) (Itl K a) ps:=by intro U H Y i s;let(Z,z,r):=s.rep;let(b,vs,e,h1,h2):=r;cases e;have hq:=cW.same z h1;show#[λx hx=>?_,λhl=>#[vs,hq,by rw[h2.length];lia]];let(v,hv,rv):=h2.get hx;show#[#[vs,v,hq,hv],λv' H' y=>?_];let(e',y):=y;subst e';have:=y vs hq;rw[hv]at this;cases this;show s.part λZ' z' r'=>?_;let(b',vs',e',h1',h2'):=r';cases e';have:vs'[i]?=!v:=y vs' (cW.same z' h1');let(p',hp',rp'):=h2'.getV this;lia
def ZX:sH K H0 Z0 ((.ref a,.sh (.tup ps))::pd) (Itt K a) ps:=by intro U H Y i s;let(Z,z,r):=s.rep;let(b,vs,e,h1,h2):=r;cases e;have hq:=dR.same z h1;show#[λx hx=>?_,λhl=>#[vs,hq,by rw[h2.length];lia]];let(v,hv,rv):=h2.get hx;show#[#[vs,v,hq,hv],λv' H' y=>?_];let(e',y):=y;subst e';have:=y vs hq;rw[hv]at this;cases this;show s.part λZ' z' r'=>?_;let(b',vs',e',h1',h2'):=r';cases e';have:vs'[i]?=!v:=y vs' (dR.same z' h1');let(p',hp',rp'):=h2'.getV this;lia
def G4(lo:Int)(n:Nat):List PV:=(List.range n).map λi=>.int (lo+(i:Nat))
def cZ(a:AF):IF:=λY=>(a Y).bind λy=>match y.1.map Lc.pv with
 |[.int j]=>if -(2 ^ 62)<=j/\j<2 ^ 62 then !(G4 0 j.toNat,y.2) else none
 |_=>none
def ZZ{lo:Int}:sH K H0 Z0 pd (Itr lo n) (G4 lo n):=by
 intro U H Y i s;show#[λx hx=>?_,λhl=>?_]
 . have hi:i<n:=by have:=(adP.mp hx).1;simpa [G4] using this
   show#[hi,λv H' y=>?_];let(rfl,rfl):=y;unfold G4 at hx;rw[af9,List.getElem?_range hi]at hx;cases hx;show s.scal iD
 . show n<=i;simp[G4]at hl;lia
def SR.ints{vs:List V}{ls:List Lc}{ns:List Int}(s:SR K H0 Z0 U H Y (vs.zip ls++pd))(e:vs.length=ls.length)(h:ls.map Lc.pv=ns.map PV.int):vs=ns.map V.int/\SR K H0 Z0 U H Y pd:=by
 let(el,Z,hg,z,r,sl'):=s.repl e;show#[?_,el,Z,hg,z,sl'];rw[h]at r;clear h e s sl';induction ns generalizing vs with
 |nil=>show r.inv0
 |cons n ns ih=>
  let(v,w,rfl,h1,h2):=r.inv;rw[cF h1,ih h2];rfl
def jK(hg:Gl X "range")(hm:X.mg "range"=none)(ha:PA X [a] (jT X.K f))(hs:starEach [a] X.env=[(false,eval a X.env)]:=by rfl):PI X tg (.Call (.Name "range" p) [a] [] pos) (Iv X.K (cZ f)):=PI.imp (Wy hg hm ha hs) λU H R q=>by
 let(H0,Z0,Y,pd,xs,Y',s,h,k):=q;let(y,h1,h2):=aij h;show#[H0,Z0,Y,pd,y.1,y.2,s,h1,λvs H1 e1 s1=>?_];split at h2
 . rename_i j e;split at h2
   . rename_i hj;cases h2;let(rfl,s2):=s1.ints (ns:=[j]) e1 e;show#[j,rfl,hj.1,hj.2,k _ _ _ s2 ZZ (ahI _)]
   . cases h2
 . cases h2
noncomputable def iw(b:BF)(body:SF):List PV->SF
 |[],Y=>!(.nx Y)
 |x::xs,Y=>(b x Y).bind λY1=>(body Y1).bind λfl=>match fl with
  |.nx Y'=>iw b body xs Y'
  |.ct Y'=>iw b body xs Y'
  |.bk Y'=>!(.nx Y')
  |.rt r Y'=>!(.rt r Y')
def jP(f:IF)(b:BF)(body:SF):SF:=λY=>(f Y).bind λy=>iw b body y.1 y.2
def J6{P:Prop}(h:∀G:Prop,(P->G)->G):P:=h P id
def FW(K:FG)(H0:Hp)(Z0:ZG)(pd:Pd)(b:BF)(fb:SF)(xs:List PV)(fl:Fl)(i m:Nat)(U:L2.St)(H:Hp):Prop:=m=xs.length-i/\i<=xs.length/\∃Y,SR K H0 Z0 U H Y pd/\iw b fb (xs.drop i) Y=!fl
def Z3(hb:GS K g b)(it:sH K H0 Z0 pd J xs)(k:O4 K H0 Z0 pd D fl)(s:SR K H0 Z0 U H Y pd)(h:iw b fb xs Y=!fl):
 ∃W:Nat->Nat->L2.St->Hp->Prop,(∃m,W 0 m U H)/\∀i m U H,W i m U H->
  (J.stop i H/\D.nx U H)\/(J.go i H/\∃N:L2.St->Hp->Prop,(∀U' H',N U' H'->∃m',m'<m/\W (i+1) m' U' H')/\∀x H',J.yld i H x H'->g x U H' λU2 H2=>iT K fb { D with nx:=N,ct:=N,bk:=D.nx } U2 H2):=by
 show#[FW K H0 Z0 pd b fb xs fl,#[_,rfl,agY _,Y,s,h],λi m U' H' w=>?_];show J6 λG kG=>?_;let(rfl,hi,Y',s',h'):=w;let(i1,i2):=it U' H' Y' i s';by_cases hlt:i<xs.length
 . let(go,yl):=i1 _ (aeM hlt);rw[ahN hlt]at h';let(Y1,e1,e2):=aij h';let(fl1,e3,e4):=aij e2;show kG (.inr #[go,λU'' H''=>FW K H0 Z0 pd b fb xs fl (i+1) (xs.length-(i+1)) U'' H'',λU'' H'' w=>#[_,(),w],λx H2 hy=>hb H0 Z0 U' H2 Y' pd x _ Y1 _ (yl x H2 hy) e1 λU2 s2=>#[H0,Z0,Y1,pd,fl1,s2,e3,?_]]);cases fl1 with
   |nx Y2=>show λU3 H3 s3=>#[rfl,hlt,Y2,s3,e4]
   |ct Y2=>show λU3 H3 s3=>#[rfl,hlt,Y2,s3,e4]
   |bk Y2=>cases e4;show k
   |rt r Y2=>cases e4;show k
 . have e:i=xs.length:=Nat.le_antisymm hi (ahU hlt);subst e;rw[List.drop_length]at h';cases h';show kG (.inl #[i2 rfl,k U' H' s'])
def O4.imp(k:O4 K H0 Z0 pd D fl)(w:∀{τ:L2.St}{J:Hp}{q:Ev},SR K H0 Z₁ τ J q pd'->SR K H0 Z0 τ J q pd)(w':∀{τ:L2.St}{J:Hp}{q:Ev}{e:V×Lc},SR K H0 Z₁ τ J q (e::pd')->SR K H0 Z0 τ J q (e::pd)):O4 K H0 Z₁ pd' D fl:=by
 cases fl with
 |rt r Y=>show λv U H s=>k v U H (w' s)
 |_=>show λU H s=>k U H (w s)
def jy{tg iter:Expr}{body:List Stmt}{f:IF}{g:TG}{b:BF}{fb:SF}{pos:Pos}(hp:PassesOwn (model X.prog X.w) X.A X.env X.xe)(hc:X.calm=true)(hi:PI X tg iter (Iv X.K f))(hg:PG X tg g)(hb':GS X.K g b)(hb:kZ X body (iT X.K fb))
 (hs:∀x,foldedSetIterable iter X.env x=pure x:=by intro _;rfl):PS X (.For tg iter body [] pos) (iT X.K (jP f b fb)):=PS.imp (adx hp hc hi hg hb hs) λD U H q=>by
 show J6 λG kG=>?_;let(H0,Z0,Y,pd,fl,s,h,k):=q;let(y,h1,h2):=aij h;show kG #[H0,Z0,Y,pd,y.1,y.2,s,h1,λJ H1 pd' s1 it sub=>Z3 hb' it (k.imp (λs=>s.sub sub) λs=>s.sub (sub.cons_cons _)) s1 h2]
noncomputable def qJ(c:TF)(body:SF):Nat->SF
 |0,_=>none
 |n+1,Y=>(c Y).bind λx=>if x.1=true then (body x.2).bind λfl=>match fl with
  |.nx Y'=>qJ c body n Y'
  |.ct Y'=>qJ c body n Y'
  |.bk Y'=>!(.nx Y')
  |.rt r Y'=>!(.rt r Y') else !(.nx x.2)
def qK(n:Nat)(c:TF)(body:SF):SF:=qJ c body n
def Pb(n:Nat){c:Expr}{body:List Stmt}{fc:TF}{fb:SF}{pos:Pos}(hp:PassesOwn (model X.prog X.w) X.A X.env X.xe)(hc:PT X c (jF X.K fc))(hb:kZ X body (iT X.K fb)):PS X (.While c body [] pos) (iT X.K (qK n fc fb)):=PS.imp (Y9 hp hc hb) λD U H q=>by
 let(H0,Z0,Y,pd,fl,s,h,k):=q;show#[λm U' H'=>∃Y',SR X.K H0 Z0 U' H' Y' pd/\qJ fc fb m Y'=!fl,#[n,Y,s,h],?_];rintro m U' H' ⟨Y',s',h'⟩;cases m with
 |zero=>cases h'
 |succ m=>
  let(x,e1,e2):=aij h';show#[H0,Z0,Y',pd,x.1,x.2,s',e1,λH1 s1=>?_];dsimp only;split
  . rename_i hx;rw[aic hx]at e2;let(fl1,e3,e4):=aij e2;show#[λU'' H''=>∃Y'',SR X.K H0 Z0 U'' H'' Y'' pd/\qJ fc fb m Y''=!fl,λU'' H'' q=>#[m,ahf _,q],H0,Z0,x.2,pd,fl1,s1,e3,?_];cases fl1 with
    |nx Y2=>show λU3 H3 s3=>#[Y2,s3,e4]
    |ct Y2=>show λU3 H3 s3=>#[Y2,s3,e4]
    |bk Y2=>cases e4;show λU3 H3 s3=>k U3 H3 s3
    |rt r Y2=>cases e4;show λv U3 H3 s3=>k v U3 H3 s3
  . rename_i hx;rw[aid hx]at e2;cases e2;show k U' H1 s1
end
section
variable {K:FG}{H0 H H':Hp}{Z0 Z:ZG}{U:L2.St}{Y:Ev}{pd pe:Pd}{v w:V}{l:Lc}{p:PV}{g:List Addr}
def Ev.app(Y:Ev)(pe:Pd):Ev:=#[Y.vs++pe.map (λx=>!x.2),Y.mu]
def Ph(e:U.length=Y.vs.length):sl g (U++pe.map λx=>!x.1) (Y.app pe) pd=sl g U Y (pe++pd):=by
 unfold sl Ev.app;rw[ahn e,ady,aba];congr 3;induction pe with
 |nil=>rfl
 |cons a r ih=>simp[ih]
def SR.shift(h:SR K H0 Z0 U H Y (pe++pd)):SR K H0 Z0 (U++pe.map λx=>!x.1) H (Y.app pe) pd:=by let(e,Z,hg,z,s):=h;show#[by simp[Ev.app,e],Z,hg,z,?_];rw[Ph e];show s
def SR.unshift(e:U.length=Y.vs.length)(h:SR K H0 Z0 (U++pe.map λx=>!x.1) H (Y.app pe) pd):SR K H0 Z0 U H Y (pe++pd):=by let(_,Z,hg,z,s):=h;show#[e,Z,hg,z,?_];rw[Ph e]at s;show s
def sH.more(h:sH K H0 Z0 pd J xs):sH K H0 Z0 (pe++pd) J xs:=by intro U H Y i s;let(h1,h2):=h _ H _ i s.shift;show#[λx hx=>?_,h2];let(g,y):=h1 x hx;show#[g,λv H' q=>?_];have s':=y v H' q;have e:=s.1;have s2:=s';show(SR.unshift e s2).perm ag1.symm
def vC(U:L2.St)(Y:Ev):Pd:=(U.zip Y.vs).filterMap λe=>match e with
 |(!v,!l)=>!(v,l)
 |_=>none
theorem Bx:∀{L:Sl},(∀e∈L,e.2=none\/∃v l,e=(!v,!l))->∀{T:Sl},
 (Slots K H0 Z H (L++T) ↔ Slots K H0 Z H ((L.filterMap λe=>match e with |(!v,!l)=>some (v,l) |_=>none).map (λe=>((some e.1:Option V),(some e.2:Option Lc)))++T))
 |[],_,T=>by simp
 |(v,l)::L,h,T=>by
  have h':=λe he=>h e (abl _ he);obtain e|⟨v',l',e⟩:=h (v,l) aaV
  . have e':=e;subst e';have e1:((v,(none:Option Lc))::L).filterMap (λe=>match e with |(!v,!l)=>some (v,l) |_=>none)=L.filterMap (λe=>match e with |(!v,!l)=>some (v,l) |_=>none):=by rw[agZ];cases v<;>rfl
    rw[e1,<-Bx h'];have o1:oG (v,none)=none:=by
     cases v with
     |none=>rfl
     |some x=>cases x<;>rfl
    constructor
    . show λs=>s.sub (adQ _ _)
    . intro s;show#[λe he=>?_,?_]
      . obtain rfl|he:=abw.mp he
        . trivial
        . show s.1 e he
      . rw[ahm,agZ o1];show s.2
  . cases e;have e1:((!v',!l')::L).filterMap (λe=>match e with |(!v,!l)=>some (v,l) |_=>none)=(v',l')::L.filterMap (λe=>match e with |(!v,!l)=>some (v,l) |_=>none):=by rfl
    have ih1:=Bx h' (T:=T++[(!v',!l')]);have perm1:∀A:Sl,List.Perm ((!v',!l')::(A++T)) (A++(T++[(!v',!l')])):=λA=>by rw[<-aba];show(List.perm_append_singleton _ _).symm
    constructor
    . intro s;show(ih1.mp (s.perm (perm1 L).symm)).perm (perm1 _)
    . intro s;show(ih1.mpr (s.perm (perm1 _).symm)).perm (perm1 L)
def SR.both(s:SR K H0 Z0 U H Y pd):∀e∈U.zip Y.vs,e.2=none\/∃v l,e=(!v,!l):=by
 let(_,Z,_,z,s):=s;intro e he;have q:=s.1 e (agi _ (agW _ he));let(v,l):=e;cases l with
 |none=>lia
 |some l=>
  cases l with
  |sh p=>let(x,e1,_):=q;lia
  |own p=>let(x,e1,_):=q;lia
def Lz(hb:∀e∈U.zip Y.vs,e.2=none\/∃v l,e=(!v,!l)):Slots K H0 Z H (sl g U Y pd) ↔ Slots K H0 Z H (cel g Y.mu++(vC U Y++pd).map λe=>(!e.1,!e.2)):=by
 have h1:=Bx (K:=K) (H0:=H0) (Z:=Z) (H:=H) hb (T:=(pd.map λe=>(!e.1,!e.2))++cel g Y.mu);have c1:List.Perm (sl g U Y pd) (U.zip Y.vs++((pd.map λe=>(!e.1,!e.2))++cel g Y.mu)):=by unfold sl;rw[<-aba (U.zip Y.vs)];show ahq
 have c2:List.Perm (cel g Y.mu++(vC U Y++pd).map λe=>((some e.1:Option V),(some e.2:Option Lc))) ((vC U Y).map (λe=>(!e.1,!e.2))++((pd.map λe=>(!e.1,!e.2))++cel g Y.mu)):=by rw[ady,<-aba ((vC U Y).map _)];show ahq
 show#[λs=>(h1.mp (s.perm c1.symm)).perm c2,λs=>(h1.mpr (s.perm c2.symm)).perm c1]
def SR.back(el:U.length=Y.vs.length)(hb:∀e∈U.zip Y.vs,e.2=none\/∃v l,e=(!v,!l))(s:SR K H0 Z0 U' H Y' (vC U Y++pd)):SR K H0 Z0 U H #[Y.vs,Y'.mu] pd:=by let(_,Z,hg,z,s):=s;show#[el,Z,hg,z,(Lz (Y:=#[Y.vs,Y'.mu]) hb).mpr ?_];show s.sub ((ahI _).append (ahv _ _))
def mq(ixs:List Nat)(Y:Ev):Ev:=ixs.foldl (λY i=>match Y.vs[i]? with
 |some (!l)=>Y.set i (!(.sh l.pv))
 | _=>Y) Y
theorem SR.frz:∀{ixs:List Nat}{Y:Ev},SR K H0 Z0 U H Y pd->SR K H0 Z0 U H (mq ixs Y) pd
 |[],Y=>λs=>s
 |i::r,Y=>λs=>by
  unfold mq;rw[aho];show SR.frz ?_;split
  . rename_i l e;let(v,_,h2):=s.var e;show h2.pop
  . show s
def G5:Option Lc->Bool
 |some (.own _)=>false
 |_=>true
theorem Pj{j:Nat}:∀{ixs:List Nat}{Y:Ev},G5 (Y.vs[j]?).join=true->G5 ((mq ixs Y).vs[j]?).join=true
 |[],Y=>λh=>h
 |i::r,Y=>λh=>by
  unfold mq;rw[aho];show Pj (ixs:=r) ?_;split
  . rename_i l e;by_cases hij:i=j
    . subst hij;have hi:=(adP.mp e).1;show G5 ((Y.vs.set i _)[i]?).join=true;rw[aeI hi];rfl
    . show G5 ((Y.vs.set i _)[j]?).join=true;rw[agc hij];show h
  . show h
theorem Xm:∀{ixs:List Nat}{Y:Ev},j∈ixs->G5 ((mq ixs Y).vs[j]?).join=true
 |[],Y=>λh=>by cases h
 |i::r,Y=>λh=>by
  unfold mq;rw[aho];obtain e|h:=abw.mp h
  . subst e;show Pj ?_;split
    . rename_i l e;have hi:=(adP.mp e).1;show G5 ((Y.vs.set j _)[j]?).join=true;rw[aeI hi];rfl
    . rename_i hn;cases q:Y.vs[j]? with
      |none=>rfl
      |some o=>
       cases o with
       |none=>rfl
       |some l=>lia
  . show Xm h
def wW(m:Nat)(ixs:List Nat)(Y:Ev):Ev:=#[List.replicate m none++ixs.map λi=>(Y.vs[i]?).join,Y.mu]
def SR.block(s:SR K H0 Z0 U H Y pd)(hs:∀j∈ixs,G5 (Y.vs[j]?).join=true):SR K H0 Z0 (Dv m ixs U) H (wW m ixs Y) (vC U Y++pd):=by
 have hb:=s.both;let(el,Z,hg,z,so):=s;show#[by simp[wW],Z,hg,z,?_];have s3:=(Lz hb).mp so;have fin:Slots K H0 Z H ((ixs.map λi=>(U[i]?).join).zip (ixs.map λi=>(Y.vs[i]?).join)++(cel Z.g Y.mu++(vC U Y++pd).map λe=>(!e.1,!e.2)))->Slots K H0 Z H (sl Z.g (Dv m ixs U) (wW m ixs Y) (vC U Y++pd)):=λh=>by unfold sl Dv wW;rw[ahn (by simp),aba];show(nones h m).perm ?_;show(Nr _ _ _).trans ((Nr _ _ _).append_left _)
 show fin ?_;clear fin;induction ixs with
 |nil=>simpa using s3
 |cons i r ih=>
  have ih':=ih λj hj=>hs j (abl _ hj);rw[af8,af8,ahg,ahm];have h1:=hs i aaV;cases q:Y.vs[i]? with
  |none=>
   show#[λe he=>?_,?_]
   . obtain rfl|he:=abw.mp he
     . trivial
     . show ih'.1 e he
   . rw[agZ]
     . show ih'.2
     . cases (U[i]?).join with
       |none=>rfl
       |some x=>cases x<;>rfl
  |some o=>
   cases o with
   |none=>
    show#[λe he=>?_,?_]
    . obtain rfl|he:=abw.mp he
      . trivial
      . show ih'.1 e he
    . rw[agZ]
      . show ih'.2
      . cases (U[i]?).join with
        |none=>rfl
        |some x=>cases x<;>rfl
   |some l=>
    rw[q]at h1;cases l with
    |own p=>cases h1
    |sh p=>
     have hi:i<U.length:=by rw[el];show(adP.mp q).1
     have hU:=aeM hi;have hm:=ag2 (zip_get hU q);let(x,e1,e2):=so.1 _ (agi _ (agW _ hm));have e1':U[i]=!x:=e1;have ej:(U[i]?).join=!x:=by rw[hU,e1'];rfl
     rw[ej];show ih'.consS e2
end
def SR.pushO(s:SR K H0 Z0 U H Y ((v,l)::(.ref a,.own (.lst ws))::pd)):
 ∃us,H a=!(.lst us)/\us.length=ws.length/\SR K H0 Z0 U (upd H a (.lst (us++[v]))) Y ((.ref a,.own (.lst (ws++[l.pv])))::pd):=by
 let(el,Z,hg,z,r,so):=s.freeze.sh;have so2:=so.perm dh.symm;let(b,eb,(us,hu,hr),_):=so2.1 _ aaV;cases eb;show#[us,hu,hr.length,?_];let(z',s'):=so2.write (q:=.lst (ws++[l.pv])) z #[us++[v],cQ,hr.append (aR.cons r .nil)];show .mk el hg z' s'
noncomputable def iJ(b:BF)(tc:TF)(te:EF):List PV->Ev->List PV->Option (List PV×Mu)
 |[],Y,acc=>!(acc,Y.mu)
 |x::xs,Y,acc=>(b x Y).bind λY1=>(tc Y1).bind λc=>if c.1=true then (te c.2).bind λv=>if acc.length<100000 then iJ b tc te xs v.2 (acc++[v.1.pv]) else none else iJ b tc te xs c.2 acc
def dJ(f:IF)(m:Nat)(ixs:List Nat)(b:BF)(tc:TF)(te:EF):EF:=λY=>(f Y).bind λy=>(iJ b tc te y.1 (wW m ixs (mq ixs y.2)) []).map λys=>(.own (.lst ys.1),#[(mq ixs y.2).vs,ys.2])
def CW(K:FG)(H0:Hp)(Z0:ZG)(b:BF)(tc:TF)(te:EF)(p:Addr)(PD:Pd)(xs:List PV)(zs:List PV×Mu)(i n:Nat)(U':L2.St)(H':Hp):Prop:=
 n=xs.length-i/\i<=xs.length/\∃Yi ws,SR K H0 Z0 U' H' Yi ((.ref p,.own (.lst ws))::PD)/\iJ b tc te (xs.drop i) Yi ws=!zs
def Xn(hb:GS K g b){PD:Pd}{Q:VK}
 (it:∀ws,sH K H0 Z0 ((.ref p,.own (.lst ws))::PD) J xs) (fin:∀U' H' Yi ws,SR K H0 Z0 U' H' Yi ((.ref p,.own (.lst ws))::PD)->iJ b tc te [] Yi ws=!zs->Q (.ref p) H') (i n:Nat) (U':L2.St) (H':Hp) (w:CW K H0 Z0 b tc te p PD xs zs i n U' H'):
 (J.stop i H'/\Q (.ref p) H')\/(J.go i H'/\∀x H2,J.yld i H' x H2->g x U' H2 λU3 H3=>jF K tc U3 H3 λb' H4=>
   if b'=true then tP K te U3 H4 λv H5=>∃ys,H5 p=!(.lst ys)/\ys.length<sizeLine/\∃n',n'<n/\CW K H0 Z0 b tc te p PD xs zs (i+1) n' U3 (upd H5 p (.lst (ys++[v])))
   else ∃n',n'<n/\CW K H0 Z0 b tc te p PD xs zs (i+1) n' U3 H4):=by
 show J6 λG kG=>?_;let(rfl,hi,Yi,ws,s',h'):=w;let(i1,i2):=it ws U' H' Yi i s';by_cases hlt:i<xs.length
 . let(go,yl):=i1 _ (aeM hlt);rw[ahN hlt]at h';let(Y1,e1,e2):=aij h';let(c,e3,e4):=aij e2;have hn:xs.length-(i+1)<xs.length-i:=()
   show kG (.inr #[go,λx H2 hy=>hb H0 Z0 U' H2 Yi _ x _ Y1 _ (yl x H2 hy) e1 λU2 s5=>#[H0,Z0,Y1,_,c.1,c.2,s5,e3,λH4 s6=>?_]]);dsimp only;split
   . rename_i hc;show J6 λG kG=>?_;rw[aic hc]at e4;let(v,e5,e6):=aij e4;split at e6
     . rename_i hz;show kG #[H0,Z0,c.2,_,v.1,v.2,s6,e5,λvv H5 s7=>?_];show J6 λG kG=>?_;let(us,hu,hl,s8):=s7.pushO;show kG #[us,hu,by rw[hl,sizeLine_eq];lia,_,hn,rfl,hlt,v.2,_,s8,e6]
     . cases e6
   . rename_i hc;rw[aid hc]at e4;show#[_,hn,rfl,hlt,c.2,ws,s6,e4]
 . have e:i=xs.length:=Nat.le_antisymm hi (ahU hlt);subst e;rw[List.drop_length]at h';show kG (.inl #[i2 rfl,fin _ _ _ _ s' h'])
def Pk(hb:GS K g b):∀U H Q,tP K (dJ f m ixs b tc te) U H Q->Vq (Iv K f) m ixs g (jF K tc) (tP K te) U H Q:=λU H Q q=>by show J6 λG kG=>?_;let(H0,Z0,Y,pd,r,Y',s,h,k):=q;let(y,h1,h2):=aij h;let(zs,h3,h4):=aik h2;cases h4;show kG #[H0,Z0,Y,pd,y.1,y.2,s,h1,λJ H1 pd' s1 it sub p hp=>?_];have s2:SR K H0 Z0 U H1 (mq ixs y.2) pd':=s1.frz;have s3:=s2.block (m:=m) λj hj=>Xm hj;show#[CW K H0 Z0 b tc te p (vC U (mq ixs y.2)++pd') y.1 zs,#[_,rfl,agY _,_,[],(s3.newO hp λZ _ _=>#[[],cQ,.nil]),h3],Xn hb (λws=>sH.more (pe:=(.ref p,.own (.lst ws))::vC U (mq ixs y.2)) it) λU' H' Yi ws s' h'=>?_];cases h';have s5:=s'.perm ag1;show k _ _ ((SR.back s2.1 s2.both s5).sub ∅)
section
variable {X:Cx}
def sI(M F:List Str)(ixs:List Nat)(hcalm:X.calm=true)(c:lG X M F ixs sc)(hi:PI X tg iter (Iv X.K f))
 (hg:∀C fp s H,PG (jb X M F sc C fp s H) tg g) (hb:GS X.K g b) (hc:∀C fp s H,yQ (jb X M F sc C fp s H) ifs (jF X.K tc)) (he:∀C fp s H,PE (jb X M F sc C fp s H) elt (tP X.K te))
 (hs:∀x,foldedSetIterable iter X.env x=pure x:=by intro _;rfl):PE X (.ListComp elt [#[tg,iter,ifs,0]] sc pos) (tP X.K (dJ f M.length ixs b tc te)):=PE.imp (ab6 M F ixs hcalm c hi hg hc he hs) (Pk hb)
def zH(M F:List Str)(ixs:List Nat){pos pos' pos2:Pos}(hN:X.N.Nodup)(hix:X.N[i]?=!x)(hx:X.env.scope.names.lookup x=!.local)
 (hcalm:X.calm=true) (c:lG X M F ixs sc) (hi:PI X tg iter (Iv X.K f))
 (hg:∀C fp s H,PG (jb X M F sc C fp s H) tg g) (hb:GS X.K g b) (hc:∀C fp s H,yQ (jb X M F sc C fp s H) ifs (jF X.K tc)) (he:∀C fp s H,PE (jb X M F sc C fp s H) elt (tP X.K te))
 (hsw:swapsWith (.ListComp elt [#[tg,iter,ifs,0]] sc pos) (!(.Name x pos')) pos2.line X.env=pure true:=by rfl)
 (hs:∀x,foldedSetIterable iter X.env x=pure x:=by intro _;rfl):PS X (.Assign [.Name x pos'] (.ListComp elt [#[tg,iter,ifs,0]] sc pos) pos2) (iT X.K (aO i (dJ f M.length ixs b tc te))):=
 PS.imp (ab7 M F ixs hN hix hx hcalm c hi hg hc he hsw hs) (SM λD U H q=>Pk hb U H _ q)
def dw:TF:=λY=>!(true,Y)
def jl:yQ X [] (jF X.K dw):=λaki s U H Q I q=>ZD aki s U H Q I (by let(H0,Z0,Y,pd,b,Y',s,h,k):=q;cases h;show k H s)
def Pn(h:PT X c (jF X.K f)):yQ X [c] (jF X.K f):=ZF h
end
noncomputable def wX(f:PV->PV->Option Bool):List PV->List PV->Option Bool
 |p::ps,q::qs=>(f p q).bind λb=>(wX f ps qs).map λc=>b&&c
 |_,_=>!true
noncomputable def jk:Nat->PV->PV->Option Bool
 |0,_,_=>none
 |n+1,p,q=>match p,q with
  |.tup ps,.tup qs=>(wX (jk n) ps qs).map λb=>b&&(ps.length==qs.length)
  |.lst ps,.lst qs=>if ps.length=qs.length then wX (jk n) ps qs else !false
  |.non,.non=>!true
  |.bl a,.bl b=>!(a==b)
  |.int a,.int b=>!(a==b)
  |.str a,.str b=>!(a==b)
  |.bl a,.int b=>!((if a then 1 else 0)==b)
  |.int a,.bl b=>!(a==(if b then 1 else 0))
  |.non,.bl _=>!false
  |.non,.int _=>!false
  |.non,.str _=>!false
  |.non,.tup _=>!false
  |.non,.lst _=>!false
  |.bl _,.non=>!false
  |.bl _,.str _=>!false
  |.bl _,.tup _=>!false
  |.bl _,.lst _=>!false
  |.int _,.non=>!false
  |.int _,.str _=>!false
  |.int _,.tup _=>!false
  |.int _,.lst _=>!false
  |.str _,.non=>!false
  |.str _,.bl _=>!false
  |.str _,.int _=>!false
  |.str _,.tup _=>!false
  |.str _,.lst _=>!false
  |.tup _,.non=>!false
  |.tup _,.bl _=>!false
  |.tup _,.int _=>!false
  |.tup _,.str _=>!false
  |.tup _,.lst _=>!false
  |.lst _,.non=>!false
  |.lst _,.bl _=>!false
  |.lst _,.int _=>!false
  |.lst _,.str _=>!false
  |.lst _,.tup _=>!false
  |_,_=>none
theorem Ez:∀{ps qs:List PV}{b:Bool},wX f ps qs=!b->(∀(j:Nat) p q,ps[j]?=!p->qs[j]?=!q->f p q=!((f (ps.getD j .non) (qs.getD j .non)).getD false))/\
 b=(List.range (min ps.length qs.length)).all λj=>(f (ps.getD j .non) (qs.getD j .non)).getD false
 |[],qs,b=>λh=>by cases h;show#[λj p q e=>by simp at e,by simp]
 |p::ps,[],b=>λh=>by cases h;show#[λj p q _ e=>by simp at e,by simp]
 |p::ps,q::qs,b=>λh=>by
  let(c,h1,h2):=aij h;let(d,h3,rfl):=aik h2;let(i1,i2):=Ez h3;show#[λj p' q' e1 e2=>?_,?_]
  . cases j with
    |zero=>
     simp at e1 e2;subst e1 e2;simp[h1]
    |succ j=>
     have:=i1 j p' q' (by simpa using e1) (by simpa using e2);simpa using this
  . have e:min (p::ps).length (q::qs).length=min ps.length qs.length+1:=by simp only[aa9];lia
    rw[e,List.range_succ_eq_map,List.all_cons,List.all_map];have e0:(f ((p::ps).getD 0 .non) ((q::qs).getD 0 .non)).getD false=c:=by simp[h1]
    rw[e0,i2];rfl
def elts(r:aR K Z ps vs)(rv:Vals vs its)(h:j<its.length):∃p v,ps[j]?=!p/\Rep K Z p v/\RelV v its[j]:=by have hl:=rv.length;have hv:vs[j]?=some vs[j]:=aeM ();let(u,e1,e2):=rv.get hv;rw[aeM h]at e1;cases e1;let(p,e3,e4):=r.getV hv;show#[p,vs[j],e3,e4,e2]
section
open PySem.SeqAt
variable {X:Cx}{aki:List (Addr×Obj)}{U:L2.St}{H:Hp}{s:Shared}{g:List Addr}
def zJ(I:Inv X aki U H s)(r:Rep X.K #[H,g] (.tup ps) v)(ru:RelV v u):∃a vs its,u=.ref a/\dR X.K H a vs/\aR X.K #[H,g] ps vs/\Vals vs its/\s.heap.IsTuple a its.toArray:=by let(a,vs,rfl,h1,h2):=r;let(its,r1,t1,_):=I.tuple h1;show#[a,vs,its,ru,h1,h2,r1,t1]
def zK(I:Inv X aki U H s)(r:Rep X.K #[H,g] (.lst ps) v)(ru:RelV v u):∃a vs its,u=.ref a/\cW X.K H a vs/\aR X.K #[H,g] ps vs/\Vals vs its/\s.heap.IsList a its.toArray:=by let(a,vs,rfl,h1,h2):=r;let(its,r1,t1,_):=I.list h1;show#[a,vs,its,ru,h1,h2,r1,t1.isList]
def kn:PV->Nat
 |.non=>0 |.bl _=>1 |.int _=>2 |.str _=>3 |.tup _=>4 |.lst _=>5 |_=>6
def kn4(h:kn p=4):∃ps,p=.tup ps:=by cases p<;>first |show#[_,rfl] |cases h
def kn5(h:kn p=5):∃ps,p=.lst ps:=by cases p<;>first |show#[_,rfl] |cases h
def Iw(h:jk (n+1) p q=!b):kn p<6:=by cases p<;>first |cases h;done |show Nat.le.step (Nat.le.step (Nat.le.step (Nat.le.step (Nat.le.step .refl)))) |show Nat.le.step (Nat.le.step (Nat.le.step (Nat.le.step .refl))) |show Nat.le.step (Nat.le.step (Nat.le.step .refl)) |show Nat.le.step (Nat.le.step .refl) |show Nat.le.step .refl |show Nat.le.refl
def aa5(h:jk (n+1) p q=!b):kn q<6:=by
 have no:jk (n+1) p q=none->kn q<6:=λe=>absurd ∅ (Option.some_ne_none b);cases q with
 |dk _ _=>show no (by cases p<;>rfl)
 |dt _ _=>show no (by cases p<;>rfl)
 |obj _ _ _=>show no (by cases p<;>rfl)
 |df _ _=>show no (by cases p<;>rfl)
 |dtf _ _=>show no (by cases p<;>rfl)
 |dx _ _ _=>show no (by cases p<;>rfl)
 |exc _=>show no (by cases p<;>rfl)
 |fn _=>show no (by cases p<;>rfl)
 |ptr _=>show no (by cases p<;>rfl)
 |_=>first |show Nat.le.step (Nat.le.step (Nat.le.step (Nat.le.step (Nat.le.step .refl)))) |show Nat.le.step (Nat.le.step (Nat.le.step (Nat.le.step .refl))) |show Nat.le.step (Nat.le.step (Nat.le.step .refl)) |show Nat.le.step (Nat.le.step .refl) |show Nat.le.step .refl |show Nat.le.refl
def back:V->Option PV
 |.non=>some .non |.bl b=>some (.bl b) |.int i=>some (.int i) |.str x=>some (.str x) |_=>none
inductive Sh(K:FG)(Z:ZG)(v:V):PV->Prop
 |at {p:PV}:back v=!p->Sh K Z v p
 |tup {a:Addr} {ps:List PV} {vs:List V}:v=.ref a->dR K Z.z a vs->aR K Z ps vs->Sh K Z v (.tup ps)
 |lst {a:Addr} {ps:List PV} {vs:List V}:v=.ref a->cW K Z.z a vs->aR K Z ps vs->Sh K Z v (.lst ps)
def Nu(r:Rep K Z p v)(h:kn p<6):Sh K Z v p:=by
 cases p with
 |non=>show .at (congrArg back (jG r))
 |bl b=>show .at (congrArg back (gD r))
 |int b=>show .at (congrArg back (cF r))
 |str b=>show .at (congrArg back (eY r))
 |tup ps=> let(a,vs,e,h1,h2):=r;show .tup e h1 h2
 |lst ps=> let(a,vs,e,h1,h2):=r;show .lst e h1 h2
 |_=>show absurd h (ahj 6)
inductive Tw(K:FG)(Z:ZG):PV->PV->Prop
 |at {v:V} {p:PV}:back v=!p->Tw K Z p p
 |tup {ps qs:List PV} {vs:List V}:aR K Z ps vs->aR K Z qs vs->Tw K Z (.tup ps) (.tup qs)
 |lst {ps qs:List PV} {vs:List V}:aR K Z ps vs->aR K Z qs vs->Tw K Z (.lst ps) (.lst qs)
def aa6(I:Inv X aki U H s)(h1:dR X.K H a vs)(h3:cW X.K H a ws):False:=by let(its,r1,(o1,n1,g1,c1,_),_):=I.list h3;let(its2,r2,(o2,g2,c2,_),_):=I.tuple h1;lia
def By(e:v=.ref a)(h:back v=!p):False:=by subst e;cases h
def Sh.two(I:Inv X aki U H s)(h1:Sh X.K #[H,g] v p)(h2:Sh X.K #[H,g] v q):Tw X.K #[H,g] p q:=by
 cases h1 with
 |«at» e=>
  cases h2 with
  |«at» e'=>show(af7 (e.symm.trans e'))▸.at e
  |tup e'=>show(By e' e).elim
  |lst e'=>show(By e' e).elim
 |tup e k1 k2=>
  cases h2 with
  |«at» e'=>show(By e e').elim
  |tup e' m1 m2=>show .tup k2 (I.tuple_inj k1 (V.ref.inj (e'.symm.trans e)▸m1)▸m2)
  |lst e' m1=>show(aa6 I k1 (V.ref.inj (e'.symm.trans e)▸m1)).elim
 |lst e k1 k2=>
  cases h2 with
  |«at» e'=>show(By e e').elim
  |tup e' m1=>show(aa6 I m1 (V.ref.inj (e.symm.trans e')▸k1)).elim
  |lst e' m1 m2=>show .lst k2 (I.list_inj k1 (V.ref.inj (e'.symm.trans e)▸m1)▸m2)
def ad6(e:back v=!p)(h:jk (n+1) p p=!b):b=true:=by
 cases v with
 |non=>cases e;cases h;rfl
 |bl z=>cases e;cases h;show aii z
 |int z=>cases e;cases h;show aii z
 |str z=>cases e;cases h;show aii z
 |_=>cases e
theorem DG(ih:∀(p q:PV)(v:V)(b:Bool),Rep K Z p v->Rep K Z q v->f p q=!b->b=true):∀{ps qs:List PV}{vs:List V}{c:Bool},aR K Z ps vs->aR K Z qs vs->wX f ps qs=!c->c=true
 |[],qs,vs,c=>λa b h=>by cases h;rfl
 |p::ps,[],vs,c=>λa b h=>by cases h;rfl
 |p::ps,q::qs,vs,c=>λa b h=>by let(w1,r1,e1,e2,e3):=a.inv;let(w2,r2,f1,f2,f3):=b.inv;let(g1,g2):=List.cons.inj (e1.symm.trans f1);subst g1 g2;let(c,h1,h2):=aij h;let(d,h3,rfl):=aik h2;rw[ih _ _ _ _ e2 f2 h1,DG ih e3 f3 h3];rfl
theorem BJ(ih:∀(p q r:PV)(v:V)(b c:Bool),Rep K Z p v->Rep K Z q v->f p r=!b->f q r=!c->b=c):∀{ps qs rs:List PV}{vs:List V}{b c:Bool},aR K Z ps vs->aR K Z qs vs->wX f ps rs=!b->wX f qs rs=!c->b=c
 |[],[],rs,vs,b,c=>λ_ _ h k=>af7 ∅
 |[],q::qs,rs,vs,b,c=>λa b' h k=>by let(_,_,e,_):=b'.inv;show absurd (a.inv0.symm.trans e) (by simp)
 |p::ps,[],rs,vs,b,c=>λa b' h k=>by let(_,_,e,_):=a.inv;show absurd (b'.inv0.symm.trans e) (by simp)
 |p::ps,q::qs,[],vs,b,c=>λa b' h k=>af7 (h.symm.trans k)
 |p::ps,q::qs,r::rs,vs,b,c=>λa b' h k=>by let(w1,r1,e1,e2,e3):=a.inv;let(w2,r2,f1,f2,f3):=b'.inv;let(g1,g2):=List.cons.inj (e1.symm.trans f1);subst g1 g2;let(x1,h1,h2):=aij h;let(d1,h3,rfl):=aik h2;let(x2,k1,k2):=aij k;let(d2,k3,rfl):=aik k2;rw[ih _ _ _ _ _ _ e2 f2 h1 k1,BJ ih e3 f3 h3 k3]
theorem eq_self(I:Inv X aki U H s):∀(n:Nat){p q:PV}{v:V}{b:Bool},Rep X.K #[H,g] p v->Rep X.K #[H,g] q v->jk n p q=!b->b=true
 |0,p,q,v,b=>λ_ _ h=>by cases h
 |n+1,p,q,v,b=>λrp rq h=>by
  cases Sh.two I (Nu rp (Iw h)) (Nu rq (aa5 h)) with
  |«at» e=>show ad6 e h
  |tup h2 h4=>
   let(c,h5,rfl):=aik h;rw[DG (λ_ _ _ _=>eq_self I n) h2 h4 h5,h2.length.symm.trans h4.length,aii];rfl
  |lst h2 h4=>show DG (λ_ _ _ _=>eq_self I n) h2 h4 ((aic (h2.length.symm.trans h4.length)).symm.trans h)
inductive U_(s:Shared):PV->Value->Prop
 |non:U_ s .non .none
 |bl {b:Bool}:U_ s (.bl b) (.bool b)
 |int {i:Int} {t}:U_ s (.int i) (.int i t)
 |str {x:Str} {t}:U_ s (.str x) (.str x t)
 |tup {ps:List PV} {a:Addr} {its}:s.heap.IsTuple a its->U_ s (.tup ps) (.ref a)
 |lst {ps:List PV} {a:Addr} {its}:s.heap.IsList a its->U_ s (.lst ps) (.ref a)
def ad7(I:Inv X aki U H s)(r:Rep X.K #[H,g] p v)(ru:RelV v u)(h:kn p<6):U_ s p u:=by
 cases p with
 |non=>cases jG r;cases ru;show .non
 |bl b=>cases gD r;cases ru;show .bl
 |int b=>cases cF r;let(t,rfl):=ru;show .int
 |str b=>cases eY r;let(t,rfl):=ru;show .str
 |tup ps=>let(a,vs,its,rfl,_,_,_,x):=zJ I r ru;show .tup x
 |lst ps=>let(a,vs,its,rfl,_,_,_,x):=zK I r ru;show .lst x
 |_=>show absurd h (ahj 6)
def E3(A:Around)(s:Shared)(x y:Value)(b:Bool):Prop:=EqAt A s x y b/\RcAt A s x y b/\RcNeAt A s x y (not b)
def E3.of(h:some c=!b)(e:EqAt A s x y c)(r:RcAt A s x y c)(q:RcNeAt A s x y (not c)):E3 A s x y b:=af7 h▸#[e,r,q]
def two(p q:PV):Bool:=kn p==kn q&&Nat.ble 4 (kn p)
def ach(hu:A.units<cLine)(h1:U_ s p u1)(h2:U_ s q u2)(e:two p q=false)(h:jk (n+1) p q=!b):E3 A s u1 u2 b:=by
 cases h1 with
 |non=>
  cases h2 with
  |non=>show E3.of h (EqAt.same .none) RcAt.none_none RcNeAt.none_none
  |bl=>show E3.of h (EqAt.none_bool _) (RcAt.none_bool _) (RcNeAt.none_bool _)
  |int=>show E3.of h (EqAt.none_int _ _) (RcAt.none_int _ _) (RcNeAt.none_int _ _)
  |str=>show E3.of h (EqAt.none_str _ _) (RcAt.none_str _ _) (RcNeAt.none_str _ _)
  |tup x2=>show E3.of h (EqAt.none_tuple x2 hu) (RcAt.none_tuple x2 hu) (RcNeAt.none_tuple x2 hu)
  |lst x2=>show E3.of h (EqAt.none_list x2 hu) (RcAt.none_list x2 hu) (RcNeAt.none_list x2 hu)
 |bl=>
  cases h2 with
  |non=>show E3.of h (EqAt.bool_none _) (RcAt.bool_none _) (RcNeAt.bool_none _)
  |bl=>show E3.of h (EqAt.bool_bool _ _) (RcAt.bool_bool _ _) (RcNeAt.bool_bool _ _)
  |int=>show E3.of h (EqAt.bool_int _ _ _) (RcAt.bool_int _ _ _) (RcNeAt.bool_int _ _ _)
  |str=>show E3.of h (EqAt.bool_str _ _ _) (RcAt.bool_str _ _ _) (RcNeAt.bool_str _ _ _)
  |tup x2=>show E3.of h (EqAt.bool_tuple _ x2 hu) (RcAt.bool_tuple _ x2 hu) (RcNeAt.bool_tuple _ x2 hu)
  |lst x2=>show E3.of h (EqAt.bool_list _ x2 hu) (RcAt.bool_list _ x2 hu) (RcNeAt.bool_list _ x2 hu)
 |int=>
  cases h2 with
  |non=>show E3.of h (EqAt.int_none _ _) (RcAt.int_none _ _) (RcNeAt.int_none _ _)
  |bl=>show E3.of h (EqAt.int_bool _ _ _) (RcAt.int_bool _ _ _) (RcNeAt.int_bool _ _ _)
  |int=>show E3.of h (EqAt.int_int _ _ _ _) (RcAt.int_int _ _ _ _) (RcNeAt.int_int _ _ _ _)
  |str=>show E3.of h (EqAt.int_str _ _ _ _) (RcAt.int_str _ _ _ _) (RcNeAt.int_str _ _ _ _)
  |tup x2=>show E3.of h (EqAt.int_tuple _ _ x2 hu) (RcAt.int_tuple _ _ x2 hu) (RcNeAt.int_tuple _ _ x2 hu)
  |lst x2=>show E3.of h (EqAt.int_list _ _ x2 hu) (RcAt.int_list _ _ x2 hu) (RcNeAt.int_list _ _ x2 hu)
 |str=>
  cases h2 with
  |non=>show E3.of h (EqAt.str_none _ _) (RcAt.str_none _ _) (RcNeAt.str_none _ _)
  |bl=>show E3.of h (EqAt.str_bool _ _ _) (RcAt.str_bool _ _ _) (RcNeAt.str_bool _ _ _)
  |int=>show E3.of h (EqAt.str_int _ _ _ _) (RcAt.str_int _ _ _ _) (RcNeAt.str_int _ _ _ _)
  |str=>show E3.of h (EqAt.str_str _ _ _ _) (RcAt.str_str _ _ _ _) (RcNeAt.str_str _ _ _ _)
  |tup x2=>show E3.of h (EqAt.str_tuple _ _ x2 hu) (RcAt.str_tuple _ _ x2 hu) (RcNeAt.str_tuple _ _ x2 hu)
  |lst x2=>show E3.of h (EqAt.str_list _ _ x2 hu) (RcAt.str_list _ _ x2 hu) (RcNeAt.str_list _ _ x2 hu)
 |tup x1=>
  cases h2 with
  |non=>show E3.of h (EqAt.tuple_none x1 hu) (RcAt.tuple_none x1 hu) (RcNeAt.tuple_none x1 hu)
  |bl=>show E3.of h (EqAt.tuple_bool _ x1 hu) (RcAt.tuple_bool _ x1 hu) (RcNeAt.tuple_bool _ x1 hu)
  |int=>show E3.of h (EqAt.tuple_int _ _ x1 hu) (RcAt.tuple_int _ _ x1 hu) (RcNeAt.tuple_int _ _ x1 hu)
  |str=>show E3.of h (EqAt.tuple_str _ _ x1 hu) (RcAt.tuple_str _ _ x1 hu) (RcNeAt.tuple_str _ _ x1 hu)
  |tup x2=>cases e
  |lst x2=>show E3.of h (EqAt.tuple_list x1 x2 hu) (RcAt.tuple_list x1 x2 hu) (RcNeAt.tuple_list x1 x2 hu)
 |lst x1=>
  cases h2 with
  |non=>show E3.of h (EqAt.list_none x1 hu) (RcAt.list_none x1 hu) (RcNeAt.list_none x1 hu)
  |bl=>show E3.of h (EqAt.list_bool _ x1 hu) (RcAt.list_bool _ x1 hu) (RcNeAt.list_bool _ x1 hu)
  |int=>show E3.of h (EqAt.list_int _ _ x1 hu) (RcAt.list_int _ _ x1 hu) (RcNeAt.list_int _ _ x1 hu)
  |str=>show E3.of h (EqAt.list_str _ _ x1 hu) (RcAt.list_str _ _ x1 hu) (RcNeAt.list_str _ _ x1 hu)
  |tup x2=>show E3.of h (EqAt.list_tuple x1 x2 hu) (RcAt.list_tuple x1 x2 hu) (RcNeAt.list_tuple x1 x2 hu)
  |lst x2=>cases e
def BK(r:RelV v (.ref a)):v=.ref a:=by
 cases v with
 |ref b=>cases r;rfl
 |non=>cases r
 |bl _=>cases r
 |ty _=>cases r
 |_=>let(t,e):=r;cases e
def Pq(I:Inv X aki U H s)(rp:Rep X.K #[H,g] p (.ref a1))(rq:Rep X.K #[H,g] q (.ref a2))(h:jk n p q=!b)(rc:RcAt A s (.ref a1) (.ref a2) b):EqAt A s (.ref a1) (.ref a2) b:=by
 by_cases ea:a1=a2
 . subst ea;show eq_self I n rp rq h▸EqAt.same _
 . show EqAt.of_refs ea rc
theorem Iz(I:Inv X aki U H s):∀(n:Nat){p q:PV}{v w:V}{u1 u2:Value}{b:Bool},Rep X.K #[H,g] p v->Rep X.K #[H,g] q w->RelV v u1->RelV w u2->jk n p q=!b->∀A:Around,A.units+n<cLine->
 EqAt A s u1 u2 b/\RcAt A s u1 u2 b/\RcNeAt A s u1 u2 (not b)
 |0,p,q,v,w,u1,u2,b=>λ_ _ _ _ h _ _=>by cases h
 |n+1,p,q,v,w,u1,u2,b=>λrp rq r1 r2 h A hA=>by
  have hu:=ahO (ahB _ _) hA;have hin:A.in1.units+n<cLine:=by show A.units+1+n<cLine;lia
  have item:∀{ps qs:List PV}{vs ws:List V}{its its2:List Value}{c:Bool},aR X.K #[H,g] ps vs->Vals vs its->aR X.K #[H,g] qs ws->Vals ws its2->wX (jk n) ps qs=!c->
   ∀j (h1:j<its.toArray.size) (h2:j<its2.toArray.size),EqAt A.in1 s its.toArray[j] its2.toArray[j] ((jk n (ps.getD j .non) (qs.getD j .non)).getD false):=λ{ps qs vs ws its its2 c} a b c' d e j h1 h2=>by
   let(p,v,e1,e2,e3):=elts a b ();let(q,w,f1,f2,f3):=elts c' d ();have:=(Ez e).1 j p q e1 f1;show(Iz I n e2 f2 e3 f3 this A.in1 hin).1
  cases e:two p q with
  |false=>show ach hu (ad7 I rp r1 (Iw h)) (ad7 I rq r2 (aa5 h)) e h
  |true=>
   have e':kn p=kn q/\4<=kn p:=by unfold two at e;simpa using e
   have hk:=Iw h;obtain hp|hp:=(by omega:kn p=4\/kn p=5)
   . let(ps,rfl):=kn4 hp;let(qs,rfl):=kn4 (e'.1.symm.trans hp);let(a1,vs1,its1,rfl,q1,l1,rv1,x1):=zJ I rp r1;let(a2,vs2,its2,rfl,q2,l2,rv2,x2):=zJ I rq r2;have e1:=BK r1;have e2:=BK r2;subst e1 e2;let(c,h5,rfl):=aik h;have it:=item l1 rv1 l2 rv2 h5;have z1:its1.toArray.size=ps.length:=by rw[adW,<-rv1.length,l1.length]
     have z2:its2.toArray.size=qs.length:=by rw[adW,<-rv2.length,l2.length]
     have rc:=RcAt.tuples x1 x2 hu it;have rn:=RcNeAt.tuples x1 x2 hu it;rw[z1,z2,<-(Ez h5).2]at rc rn;show#[Pq I rp rq h rc,rc,rn]
   . let(ps,rfl):=kn5 hp;let(qs,rfl):=kn5 (e'.1.symm.trans hp);let(a1,vs1,its1,rfl,q1,l1,rv1,x1):=zK I rp r1;let(a2,vs2,its2,rfl,q2,l2,rv2,x2):=zK I rq r2;have e1:=BK r1;have e2:=BK r2;subst e1 e2;have z1:its1.toArray.size=ps.length:=by rw[adW,<-rv1.length,l1.length]
     have z2:its2.toArray.size=qs.length:=by rw[adW,<-rv2.length,l2.length]
     by_cases hl:ps.length=qs.length
     . have h':=(aic hl).symm.trans h;have it:=item l1 rv1 l2 rv2 h';have hz:=(z1.trans hl).trans z2.symm;have rc:=RcAt.lists x1 x2 hz hu it;have rn:=RcNeAt.lists x1 x2 hz hu it;rw[z1,<-(show min ps.length qs.length=ps.length by rw[<-hl,Nat.min_self]),<-(Ez h').2]at rc rn;show#[Pq I rp rq h rc,rc,rn]
     . have h':=af7 ((aid hl).symm.trans h);subst h';have hz:(its1.toArray.size != its2.toArray.size)=true:=by rw[z1,z2];show bne_iff_ne.mpr hl
       have rc:=RcAt.lists_lengths x1 x2 hz hu;show#[Pq I rp rq h rc,rc,RcNeAt.lists_lengths x1 x2 hz hu]
end
section
open PySem.SeqAt
variable {X:Cx}{aki:List (Addr×Obj)}{U:L2.St}{H:Hp}{s:Shared}{g:List Addr}
def SQ(h:jk (n+1) (.tup ps) r=!b):b=false\/∃rs,r=.tup rs:=by
 cases r with
 |tup rs=>show .inr #[rs,rfl]
 |_=>cases h<;>show .inl rfl
def SX(h:jk (n+1) (.lst ps) r=!b):b=false\/∃rs,r=.lst rs:=by
 cases r with
 |lst rs=>lia
 |_=>cases h<;>show .inl rfl
theorem IK(I:Inv X aki U H s):∀(n:Nat){p q r:PV}{v:V}{b c:Bool},Rep X.K #[H,g] p v->Rep X.K #[H,g] q v->jk n p r=!b->jk n q r=!c->b=c
 |0,p,q,r,v,b,c=>λ_ _ h _=>by cases h
 |n+1,p,q,r,v,b,c=>λrp rq h k=>by
  cases Sh.two I (Nu rp (Iw h)) (Nu rq (Iw k)) with
  |«at» e=>lia
  | @tup ps qs _ h2 h4=>
   have el:=h2.length.symm.trans h4.length;obtain rfl|⟨rs,rfl⟩:=SQ h
   . obtain rfl|⟨rs,rfl⟩:=SQ k
     . rfl
     . let(c1,h5,e1):=aik h;let(c2,k5,rfl):=aik k;rw[<-BJ (f:=jk n) (λ_ _ _ _ _ _=>IK I n) h2 h4 h5 k5,<-el,e1]
   . let(c1,h5,rfl):=aik h;let(c2,k5,rfl):=aik k;rw[BJ (f:=jk n) (λ_ _ _ _ _ _=>IK I n) h2 h4 h5 k5,el]
  | @lst ps qs _ h2 h4=>
   have el:=h2.length.symm.trans h4.length;have main:∀rs,r=.lst rs->b=c:=λrs e=>by
    subst e;by_cases hl:qs.length=rs.length
    . show BJ (f:=jk n) (λ_ _ _ _ _ _=>IK I n) h2 h4 ((aic ()).symm.trans h) ((aic hl).symm.trans k)
    . show af7 ((((aid λe=>hl ()).symm.trans h).symm.trans ((aid hl).symm.trans k)))
   obtain e1|⟨rs,e⟩:=SX h
   . obtain e2|⟨rs,e⟩:=SX k
     . lia
     . lia
   . lia
def Pu(f:PV->PV->Option Bool)(x:PV):List PV->Option Bool
 |[]=>!false
 |q::qs=>(f q x).bind λb=>(Pu f x qs).map λc=>b||c
theorem S5:∀{qs:List PV}{b:Bool},Pu f x qs=!b->(∀q∈qs,∃c,f q x=!c)/\b=qs.any λq=>(f q x).getD false
 |[],b=>λh=>by cases h;show#[λq hq=>by simp at hq,rfl]
 |q::qs,b=>λh=>by
  let(c,h1,h2):=aij h;let(d,h3,rfl):=aik h2;let(i1,i2):=S5 h3;show#[λq' hq=>?_,?_]
  . obtain rfl|hq:=abw.mp hq
    . show#[c,h1]
    . show i1 q' hq
  . rw[ah2,h1,ah6,<-i2]
open Classical in
def worth(K:FG)(Z:ZG)(x:PV)(qs:List PV)(vs:List V)(its:List Value)(u:Value):Bool:=
 if h:∃(j:Nat)(q:PV),qs[j]?=!q/\its[j]?=!u then (jk 150 h.choose_spec.choose x).getD false else false
def Px(I:Inv X aki U H s){xv:V}{xu:Value}(r:aR X.K #[H,g] qs vs)(rv:Vals vs its)(hx:∀q∈qs,∃c,jk 150 q x=!c){j:Nat}(e1:qs[j]?=!q)(e2:its[j]?=!u):
 worth X.K #[H,g] x qs vs its u=(jk 150 q x).getD false:=by
 have h:∃(j:Nat)(q:PV),qs[j]?=!q/\its[j]?=!u:=#[j,q,e1,e2];unfold worth;rw[dif_pos h];let(f1,f2):=h.choose_spec.choose_spec;generalize h.choose_spec.choose=q' at f1 f2;let(v1,g1,g2):=r.get e1;let(v2,k1,k2):=r.get f1;let(u1,m1,m2):=rv.get g1;let(u2,n1,n2):=rv.get k1;rw[e2]at m1;cases m1;rw[f2]at n1;cases n1;have ev:=RelV.inj m2 n2;subst ev;let(c1,h1):=hx q (ag2 e1);let(c2,h2):=hx q' (ag2 f1);rw[h1,h2,IK I 150 k2 g2 h2 h1]
def Py(I:Inv X aki U H s)(rx:Rep X.K #[H,g] x xv)(ru:RelV xv xu)(r:aR X.K #[H,g] qs vs)(rv:Vals vs its)(hx:∀q∈qs,∃c,jk 150 q x=!c)(hA:A.units+150<cLine):
 ∀u,u∈its.toArray->EqAt A s u xu (worth X.K #[H,g] x qs vs its u):=λu hu=>by
 have hu':u∈its:=by simpa using hu
 let(j,hj,e):=List.getElem_of_mem hu';have e2:its[j]?=!u:=by rw[aeM hj,e]
 have hl:=rv.length;have hlr:=r.length;have e1:qs[j]?=!(qs[j]'()):=aeM _;rw[Px (xv:=xv) (xu:=xu) I r rv hx e1 e2];let(v1,g1,g2):=r.get e1;let(u1,m1,m2):=rv.get g1;rw[e2]at m1;cases m1;let(c1,h1):=hx _ (ag2 e1);rw[h1];show(Iz I 150 g2 rx m2 ru h1 A hA).1
def LC(I:Inv X aki U H s){xv:V}{xu:Value}(r:aR X.K #[H,g] qs vs)(rv:Vals vs its)(hx:∀q∈qs,∃c,jk 150 q x=!c):
 its.toArray.any (worth X.K #[H,g] x qs vs its)=qs.any λq=>(jk 150 q x).getD false:=by
 have hl:its.length=qs.length:=by rw[<-rv.length,r.length]
 have key:its.map (worth X.K #[H,g] x qs vs its)=qs.map λq=>(jk 150 q x).getD false:=by
  apply List.ext_getElem?;intro j;rw[af9,af9];by_cases hj:j<its.length
  . have e2:=aeM hj;have e1:qs[j]?=!(qs[j]'()):=aeM _;rw[e2,e1,ahp,ahp,Px (xv:=xv) (xu:=xu) I r rv hx e1 e2]
  . rw[ahL (),ahL ()];rfl
 rw[show its.toArray.any (worth X.K #[H,g] x qs vs its)=its.any (worth X.K #[H,g] x qs vs its) by simp];have a1:its.any (worth X.K #[H,g] x qs vs its)=(its.map (worth X.K #[H,g] x qs vs its)).any id:=by simp[List.any_map]
 have a2:(qs.any λq=>(jk 150 q x).getD false)=(qs.map λq=>(jk 150 q x).getD false).any id:=by simp[List.any_map]
 rw[a1,a2,key]
end
section
variable {X:Cx}
def SR.rep2(h:SR K H0 Z0 U H Y ((w,.sh q)::(v,.sh p)::pd)):∃Z:ZG,fM Z.z H/\Rep K Z p v/\Rep K Z q w:=by let(_,Z,_,z,r,s):=h.sh;let(x,e1,e2):=(s.perm dh.symm).1 _ aaV;cases e1;show#[Z,z.zh,e2,r]
def SR.rep2H(h:SR K H0 Z0 U H Y ((w,.sh q)::(v,.sh p)::pd)):∃g,Rep K #[H,g] p v/\Rep K #[H,g] q w:=by let(Z,z,a,b):=h.rep2;show#[Z.g,a.mono (Z':=#[H,Z.g]) #[z,ahl _],b.mono (Z':=#[H,Z.g]) #[z,ahl _]]
def PB(K:FG)(neg:Bool):R2:=λx y H Q=>∃g p q b,Rep K #[H,g] p x/\Rep K #[H,g] q y/\jk 150 p q=!b/\Q (.bl (if neg then not b else b)) H
def fj(hr:iI b k X.A):iB X (compareOp .Eq) (PB X.K false):=by
 intro aki s U H x y v u Q I rx ry h;let(g,p,q,b,rp,rq,e,k'):=h;have hA:X.A.units+150<cLine:=by have:=hr.un;lia
 let(_,rc,_):=Iz I 150 rp rq rx ry e X.A hA;show rc _ _ _ _ #[.bl b,H,I,rfl,k']
def nP(hr:iI b k X.A):iB X (compareOp .NotEq) (PB X.K true):=by
 intro aki s U H x y v u Q I rx ry h;let(g,p,q,b,rp,rq,e,k'):=h;have hA:X.A.units+150<cLine:=by have:=hr.un;lia
 let(_,_,rn):=Iz I 150 rp rq rx ry e X.A hA;show rn _ _ _ _ #[.bl (not b),H,I,rfl,k']
def eqP(p q:PV):Option Lc:=(jk 150 p q).map λb=>.sh (.bl b)
def lK(p q:PV):Option Lc:=(jk 150 p q).map λb=>.sh (.bl (not b))
def fu:lg K (PB K false) eqP:=by intro H0 Z0 U Y pd H v w x y l Q s e k;let(b,e1,rfl):=aik e;let(g,r1,r2):=s.rep2H;show#[g,x,y,b,r1,r2,e1,k _ H (s.pop.pop.scal gC)]
def nQ:lg K (PB K true) lK:=by intro H0 Z0 U Y pd H v w x y l Q s e k;let(b,e1,rfl):=aik e;let(g,r1,r2):=s.rep2H;show#[g,x,y,b,r1,r2,e1,k _ H (s.pop.pop.scal gC)]
def Z4(K:FG)(neg:Bool):R2:=λx y H Q=>(∃g p qs b,Rep K #[H,g] p x/\(Rep K #[H,g] (.lst qs) y\/Rep K #[H,g] (.tup qs) y)/\Pu (jk 150) p qs=!b/\Q (.bl (if neg then not b else b)) H)\/
 ∃i j,x=.str i/\y=.str j/\Q (.bl (if neg then (Builtin.Str.occurrences j i 0 j.length 1).isEmpty else not (Builtin.Str.occurrences j i 0 j.length 1).isEmpty)) H
def Xo(hr:iI b k X.A):iB X (compareOp .In) (Z4 X.K false):=by
 intro aki s U H x y v u Q I rx ry h;have hA:X.A.in1.units+150<cLine:=by have:=hr.un;show X.A.units+1+150<cLine;lia
 obtain⟨g,p,qs,b,rp,rq,e,k'⟩|⟨i,j,rfl,rfl,k'⟩:=h
 . let(i1,i2):=S5 e;obtain rq|rq:=rq
   . let(a,vs,its,rfl,q1,l1,rv1,t1):=zK I rq ry;show SeqAt.in_listAt (worth X.K #[H,g] p qs vs its) t1 (Py I rp rx l1 rv1 i1 hA) #[.bl b,H,I,?_,k'];rw[LC (xv:=x) (xu:=v) I l1 rv1 i1,<-i2];rfl
   . let(a,vs,its,rfl,q1,l1,rv1,t1):=zJ I rq ry;show SeqAt.in_tupleAt (worth X.K #[H,g] p qs vs its) t1 (Py I rp rx l1 rv1 i1 hA) #[.bl b,H,I,?_,k'];rw[LC (xv:=x) (xu:=v) I l1 rv1 i1,<-i2];rfl
 . show WL aki s U H (.str i) (.str j) v u Q I rx ry #[i,j,rfl,rfl,k']
def isIn(x y:PV):Option Bool:=match y with
 |.lst qs=>Pu (jk 150) x qs
 |.tup qs=>Pu (jk 150) x qs
 |.str j=>match x with
  |.str i=>!(not (Builtin.Str.occurrences j i 0 j.length 1).isEmpty)
  |_=>none
 |_=>none
def Gm(p q:PV):Option Lc:=(isIn p q).map λb=>.sh (.bl b)
def ad8:lg K (Z4 K neg) (λp q=>(isIn p q).map λb=>.sh (.bl (if neg then not b else b))):=by
 intro H0 Z0 U Y pd H v w x y l Q s e k;let(b,e1,rfl):=aik e;let(g,r1,r2):=s.rep2H;cases y with
 |lst qs=>show .inl #[g,x,qs,b,r1,.inl r2,e1,k _ H (s.pop.pop.scal gC)]
 |tup qs=>show .inl #[g,x,qs,b,r1,.inr r2,e1,k _ H (s.pop.pop.scal gC)]
 |str j=>
  cases x with
  |str i=>
   have e1':=af7 e1;subst e1';show .inr #[i,j,eY r1,eY r2,?_];have:=k (.bl (if neg then (Builtin.Str.occurrences j i 0 j.length 1).isEmpty else not (Builtin.Str.occurrences j i 0 j.length 1).isEmpty)) H;show this (s.pop.pop.scal λZ=>?_);cases neg<;>simp[Rep]
  |_=>cases e1
 |_=>cases e1
def S6:lg K (Z4 K false) Gm:=ad8
def aa7:PV->Bool
 |.non=>true
 |_=>false
def uq(p q:PV):Option Lc:=match q with
 |.non=>!(.sh (.bl (aa7 p)))
 |_=>none
def aci(r:Rep K Z p v):decide (v=.non)=aa7 p:=by
 cases p with
 |non=>have:=jG r;subst this;rfl
 |bl b=>have:=gD r;subst this;rfl
 |int b=>have:=cF r;subst this;rfl
 |str b=>have:=eY r;subst this;rfl
 |tup ps=> let(a,vs,rfl,_):=r;rfl
 |lst ps=> let(a,vs,rfl,_):=r;rfl
 |dk ks ps=> let(a,vs,rfl,_):=r;rfl
 |dt ks ps=> let(a,vs,rfl,_):=r;rfl
 |obj c ks ps=> let(a,c,dx,fs,rfl,_):=r;rfl
 |df ks ps=> let(a,o,kvs,rfl,_):=r;rfl
 |dtf ks ps=> let(a,o,kvs,rfl,_):=r;rfl
 |dx hk ks ps=> let(a,xs,rfl,_):=r;rfl
 |exc n=> let(a,c,rfl,_):=r;rfl
 |fn n=> let(a,rfl,_):=r;rfl
 |ptr n=> let(a,rfl,_):=r;rfl
def EY:lg K (λx y H Q=>y=.non/\Q (.bl (decide (x=.non))) H) uq:=by
 intro H0 Z0 U Y pd H v w x y l Q s e k;let(g,r1,r2):=s.rep2H;cases y with
 |non=>
  have e':=af7 e;subst e';show#[jG r2,?_];rw[aci r1];show k _ H (s.pop.pop.scal gC)
 |_=>cases e
def qx:=zE (λ_ _=>true) λi j=>.bl (decide (i<j))
def IV:=zE (λ_ _=>true) λi j=>.bl (decide (i<=j))
def jM:=zE (λ_ _=>true) λi j=>.bl (decide (j<i))
def wY:lg K (zu λi j=>.bl (decide (i<j))) qx:=Ir λ_ _ _=>gC _
def PJ:lg K (zu λi j=>.bl (decide (i<=j))) IV:=Ir λ_ _ _=>gC _
def sJ:lg K (zu λi j=>.bl (decide (j<i))) jM:=Ir λ_ _ _=>gC _
def J7:=zE (λ_ _=>true) λi j=>.int (i-j)
def aP:=zE (λ_ j=>decide (0<j)) λi j=>.int (i%j)
def iK:=zE (λ_ j=>decide (0<j/\j<1073741824)) λi j=>.int (i/j)
def cI:=zE (λi j=>decide ((-(2 ^ 64)<i/\i<2 ^ 64)\/(-(2 ^ 64)<j/\j<2 ^ 64))) λi j=>.int (i*j)
def Vu:=zE (λi j=>decide (0<=j/\j<=1000000/\i.natAbs<2 ^ 64)) λi j=>.int (i ^ j.toNat)
def Fb:lg K (zu λi j=>.int (i-j)) J7:=Ir λ_ _ _=>iD _
def bf:lg K (rI (λ_ j=>0<j) λi j=>.int (i%j)) aP:=Ip (λ_ _ h=>of_decide_eq_true h) λ_ _ _=>iD _
def ur:lg K (rI adA λi j=>.int (i/j)) iK:=Ip (λi j h=>(of_decide_eq_true h:0<j/\j<1073741824)) λ_ _ _=>iD _
def fO:lg K (rI Va λi j=>.int (i*j)) cI:=Ip (λi j h=>(of_decide_eq_true h:(-(2 ^ 64)<i/\i<2 ^ 64)\/(-(2 ^ 64)<j/\j<2 ^ 64))) λ_ _ _=>iD _
def S7:lg K (rI adB λi j=>.int (i ^ j.toNat)) Vu:=Ip (λi j h=>(of_decide_eq_true h:0<=j/\j<=1000000/\i.natAbs<2 ^ 64)) λ_ _ _=>iD _
def Zj(K:FG):R2:=λx y H Q=>zu (λi j=>.int (i+j)) x y H Q\/(∃i j,x=.str i/\y=.str j/\i.length+j.length<=sizeLine/\Q (.str (i++j)) H)\/
 (∃a b xs ys,x=.ref a/\y=.ref b/\cW K H a xs/\cW K H b ys/\xs.length+ys.length<=sizeLine/\∀p,H p=none->Q (.ref p) (upd H p (.lst (xs++ys))))\/aaY K x y H Q
def cJ:iB X (binaryOp .Add) (Zj X.K):=adC.or (Ve.or (ab8.or abZ))
noncomputable def bj:PV->PV->Option Lc
 |.int i,.int j=>!(.sh (.int (i+j)))
 |.str i,.str j=>if i.length+j.length<=100000 then !(.sh (.str (i++j))) else none
 |.lst ps,.lst qs=>if ps.length+qs.length<=100000 then !(.own (.lst (ps++qs))) else none
 |.tup (p::ps),.tup qs=>if ps.length+qs.length<=10000 then !(.sh (.tup (p::ps++qs))) else none
 |_,_=>none
def G6{α:Type}[Decidable c]{a b:α}(e:(if c then !a else none)=!b):c/\a=b:=by
 split at e
 . rename_i h;show#[h,af7 e]
 . cases e
def acj(e:bj x y=!l):(∃i j,x=.int i/\y=.int j/\l=.sh (.int (i+j)))\/(∃i j,x=.str i/\y=.str j/\i.length+j.length<=100000/\l=.sh (.str (i++j)))
\/(∃ps qs,x=.lst ps/\y=.lst qs/\ps.length+qs.length<=100000/\l=.own (.lst (ps++qs)))\/∃p ps qs,x=.tup (p::ps)/\y=.tup qs/\ps.length+qs.length<=10000/\l=.sh (.tup (p::ps++qs)):=by
 unfold bj at e;split at e
 . cases e;show .inl #[_,_,rfl,rfl,rfl]
 . let(h,e):=G6 e;show .inr (.inl #[_,_,rfl,rfl,h,e.symm])
 . let(h,e):=G6 e;show .inr (.inr (.inl #[_,_,rfl,rfl,h,e.symm]))
 . let(h,e):=G6 e;show .inr (.inr (.inr #[_,_,_,rfl,rfl,h,e.symm]))
 . cases e
def cM:lg K (Zj K) bj:=by
 intro H0 Z0 U Y pd H v w x y l Q s e k;let(g,r1,r2):=s.rep2H;obtain⟨i,j,rfl,rfl,rfl⟩|⟨i,j,rfl,rfl,hl,rfl⟩|⟨ps,qs,rfl,rfl,hl,rfl⟩|⟨p,ps,qs,rfl,rfl,hl,rfl⟩:=acj e
 . show .inl #[i,j,cF r1,cF r2,k _ H (s.pop.pop.scal iD)]
 . show .inr (.inl #[i,j,eY r1,eY r2,small hl,k _ H (s.pop.pop.scal wA)])
 . let(el,Z,hg,z,rq,s1):=s.sh;have s2:=s1.perm dh.symm;let(_,e1,rp):=s2.1 _ aaV;cases e1;let(a,xs,rfl,h1,h2):=rp;let(b,ys,rfl,h3,h4):=rq;show .inr (.inr (.inl #[a,b,xs,ys,rfl,rfl,cW.same z.zh h1,cW.same z.zh h3,by rw[h2.length,h4.length];show small hl,λp hp=>k _ _ ?_]));let(z',s'):=(s2.sub (adQ _ _)).new (p:=.lst (ps++qs)) z hp #[xs++ys,cQ,h2.append h4];show .mk el hg z' s'
 . let(el,Z,hg,z,rq,s1):=s.sh;have s2:=s1.perm dh.symm;let(_,e1,rp):=s2.1 _ aaV;cases e1;let(a,xs,rfl,h1,h2):=rp;let(b,ys,rfl,h3,h4):=rq;have hx:xs≠[]:=λh=>by have:=h2.length;rw[h]at this;simp at this
   have hz:=h2.length;have hz':=h4.length;rw[aa9]at hz;show .inr (.inr (.inr #[a,b,xs,ys,rfl,rfl,dR.same z.zh h1,dR.same z.zh h3,hx,small (),λh=>?_,λh q hq=>?_]))
   . subst h;have:qs=[]:=ahW hz'.symm;subst this;rw[abv]at k;show k _ H s.pop
   . have s3:=s2.sub (adQ _ _);let(z',sz,s'):=s3.newF z hq;show k _ _ (.mk (Z:=Z.put q (.tup (xs++ys))) el hg z' (s'.consS ?_));show#[q,xs++ys,rfl,dR.of cQ,(h2.append h4).mono sz]
def Gn:PV->PV->Option Lc
 |.lst ps,.int i=>(gA ps i).map .sh
 |.tup ps,.int i=>(gA ps i).map .sh
 |.str x,.int i=>if x.length<=100000 then (gA x.cps.toList i).map λc=>.sh (.str #[(List.toArray [c])]) else none
 |_,_=>none
def Fd{r:List β}(h:gA l i=!x)(e:r.length=l.length):∃(j:Nat),l[j]?=!x/\∀y,r[j]?=!y->gA r i=!y:=by unfold gA at h;let(j,h1,h2):=aij h;show#[j,h2,λy hy=>?_];unfold gA;rw[e,h1];show hy
def ad9(e:Gn x y=!l):∃i,y=.int i/\((∃ps,(x=.lst ps\/x=.tup ps)/\(gA ps i).map Lc.sh=!l)\/∃t c,x=.str t/\t.length<=100000/\gA t.cps.toList i=!c/\l=.sh (.str #[(List.toArray [c])])):=by
 unfold Gn at e;split at e
 . show#[_,rfl,.inl #[_,.inl rfl,e]]
 . show#[_,rfl,.inl #[_,.inr rfl,e]]
 . split at e
   . rename_i h;let(c,h1,rfl):=aik e;show#[_,rfl,.inr #[_,c,rfl,h,h1,rfl]]
   . cases e
 . cases e
def Xp:lg K (rIx K) Gn:=by
 intro H0 Z0 U Y pd H v w x y l Q s e k;let(i,rfl,hx):=ad9 e;let(el,Z,hg,z,r2,s1):=s.sh;have s2:=s1.perm dh.symm;let(_,e1,r1):=s2.1 _ aaV;cases e1;have s3:=s2.sub (adQ _ _);have ew:=cF r2;obtain⟨ps,hx,h0⟩|⟨x,c,rfl,hl,h1,rfl⟩:=hx
 . let(p,h1,rfl):=aik h0;obtain rfl|rfl:=hx
   . let(a,vs,rfl,h2,h3):=r1;let(j,e1,e2):=Fd h1 h3.length;let(u,e3,e4):=h3.get e1;show .inl #[a,vs,i,u,rfl,ew,cW.same z.zh h2,e2 u e3,k _ H (.mk el hg z (s3.consS e4))]
   . let(a,vs,rfl,h2,h3):=r1;let(j,e1,e2):=Fd h1 h3.length;let(u,e3,e4):=h3.get e1;show .inr (.inl #[a,vs,i,u,rfl,ew,dR.same z.zh h2,e2 u e3,k _ H (.mk el hg z (s3.consS e4))])
 . show .inr (.inr #[x,i,c,eY r1,ew,small hl,h1,k _ H (s.pop.pop.scal wA)])
def pJ(ps:List PV)(lo hi:Option Int):List PV:=(ps.drop (HT.sIx ps.length 0 lo)).take (HT.sIx ps.length ps.length hi-HT.sIx ps.length 0 lo)
abbrev OF:=Ev->Option (Option Int×Ev)
def S8(K:FG)(f:OF):TO:=λU H Q=>∃H0 Z0 Y pd r Y',SR K H0 Z0 U H Y pd/\f Y=!(r,Y')/\∀H',SR K H0 Z0 U H' Y' pd->Q r H'
def PO.imp(h:PO X e t)(i:∀U H Q,t' U H Q->t U H Q):PO X e t':=λaki s U H Q I q=>h aki s U H Q I (i U H Q q)
def qU:OF:=λY=>!(none,Y)
def my(f:EF):OF:=λY=>(f Y).bind λx=>match x.1.pv with
 |.int i=>!(!i,x.2)
 |_=>none
def zM:PO X none (S8 X.K qU):=PO.imp abX λU H Q q=>by let(H0,Z0,Y,pd,r,Y',s,h,k):=q;cases h;show k H s
def ut(h:PE X e (tP X.K f)):PO X (!e) (S8 X.K (my f)):=PO.imp (abY h) λU H Q q=>by
 let(H0,Z0,Y,pd,r,Y',s,h,k):=q;let(x,h1,h2):=aij h;show#[H0,Z0,Y,pd,x.1,x.2,s,h1,λv H1 s1=>?_];let(_,r1):=s1.freeze.repH;cases e:x.1.pv with
 |int i=>
  rw[e]at h2 r1;cases h2;show#[i,cF r1,k H1 s1.pop]
 |_=>rw[e]at h2;cases h2
def aR.cut{lo hi:Option Int}(h:aR K Z ps vs):aR K Z (pJ ps lo hi) (wU vs lo hi):=by unfold pJ wU;rw[h.length];show(h.drop _).take _
def oH(K:FG)(r:List V->Hp->VK->Prop)(g:List PV->Option Lc):Prop:=∀H0 Z0 U Y pd H vs ps l Q,vs.length=ps.length->SR K H0 Z0 U H Y (vs.zip (ps.map Lc.sh)++pd)->g ps=!l->(∀u H',SR K H0 Z0 U H' Y ((u,l)::pd)->Q u H')->r vs H Q
def eB(g:List PV->Option Lc)(a:AF):EF:=λY=>(a Y).bind λy=>(g (y.1.map Lc.pv)).map λl=>(l,y.2)
def zN(hs:oH X.K r g):∀U H Q,tP X.K (eB g a) U H Q->Lr r (jT X.K a) U H Q:=λU H Q q=>by
 let(H0,Z0,Y,pd,l,Y',s,f,k):=q;let(y,h1,h2):=aij f;let(l',h3,h4):=aik h2;cases h4;show#[H0,Z0,Y,pd,y.1,y.2,s,h1,λvs H2 e2 s2=>?_];have s3:=s2.freezeAll;have hm:(y.1.map λl=>Lc.sh l.pv)=(y.1.map Lc.pv).map Lc.sh:=by rw[agb];rfl
 rw[hm]at s3;show hs H0 Z0 U y.2 pd H2 vs (y.1.map Lc.pv) _ Q ∅ s3 h3 k
def IW{id:String}(hc:uP X (.builtin id) r)(hs:oH X.K r g)(h:PE X (.Call (.Name x p) (e::es) [] pos) (Lr r (jT X.K a))):PE X (.Call (.Name x p) (e::es) [] pos) (tP X.K (eB g a)):=PE.imp h (zN hs)
def oH.one{g:PV->Option Lc}(h:∀H0 Z0 U Y pd H v p l Q,SR K H0 Z0 U H Y ((v,.sh p)::pd)->g p=!l->(∀u H',SR K H0 Z0 U H' Y ((u,l)::pd)->Q u H')->r [v] H Q):
 oH K r (λps=>match ps with |[p]=>g p |_=>none):=by
 intro H0 Z0 U Y pd H vs ps l Q e s hg k
 match ps,vs,e,s,hg with
 |[p],[v],_,s,hg=>show h H0 Z0 U Y pd H v p l Q s hg k
 |[p],[],e,_,_=>simp at e
 |[p],_::_::_,e,_,_=>simp at e
 |[],_,_,_,hg=>cases hg
 |_::_::_,_,_,_,hg=>cases hg
noncomputable def Z5:PV->Option Lc
 |.str x=>if x.length<=100000 then !(.sh (.int x.length)) else none
 |.lst ps=>!(.sh (.int ps.length))
 |.tup ps=>!(.sh (.int ps.length))
 |_=>none
abbrev jt:List PV->Option Lc:=λps=>match ps with |[p]=>Z5 p |_=>none
def Xq:oH K (λxs H Q=>∃x n,xs=[x]/\Zg K x H n/\Q (.int n) H) jt:=oH.one λH0 Z0 U Y pd H v p l Q s e k=>by
 let(_,r):=s.repH;cases p with
 |str x=>
  have e':(if x.length<=100000 then !(Lc.sh (.int x.length)) else none)=!l:=e;split at e'
  . rename_i hl;cases e';have:=eY r;subst this;show#[_,x.length,rfl,#[small hl,rfl],k _ H (s.pop.scal iD)]
  . cases e'
 |lst ps=>
  cases e;let(a,vs,rfl,h1,h2):=r;show#[_,ps.length,rfl,.inl #[vs,h1,h2.length.symm],k _ H (s.pop.scal iD)]
 |tup ps=>
  cases e;let(a,vs,rfl,h1,h2):=r;show#[_,ps.length,rfl,.inr #[vs,h1,h2.length.symm],k _ H (s.pop.scal iD)]
 |_=>cases e
def afB:PV->Option Lc
 |.lst ps=>!(.own (.lst ps))
 |.tup ps=>!(.own (.lst ps))
 |_=>none
abbrev list1:List PV->Option Lc:=λps=>match ps with |[p]=>afB p |_=>none
def zQ:oH K (λxs H Q=>∃p ys,xs=[.ref p]/\(cW K H p ys\/dR K H p ys)/\∀l,H l=none->Q (.ref l) (upd H l (.lst ys))) list1:=oH.one λH0 Z0 U Y pd H v p l Q s e k=>by
 let(el,Z,hg,z,r,s1):=s.sh;cases p with
 |lst ps=>
  cases e;let(a,vs,rfl,h1,h2):=r;show#[a,vs,rfl,.inl (cW.same z.zh h1),λq hq=>k _ _ ?_];let(z',s'):=s1.new (p:=.lst ps) z hq #[_,cQ,h2];show .mk el hg z' s'
 |tup ps=>
  cases e;let(a,vs,rfl,h1,h2):=r;show#[a,vs,rfl,.inr (dR.same z.zh h1),λq hq=>k _ _ ?_];let(z',s'):=s1.new (p:=.lst ps) z hq #[_,cQ,h2];show .mk el hg z' s'
 |_=>cases e
def Ev.set_set:(Y.set i x).set i y=Y.set i y:=by show Ev.mk ((Y.vs.set i x).set i y) Y.mu=_;rw[ahd];rfl
def SR.takeO(s:SR K H0 Z0 U H Y pd)(e:Y.vs[i]?=!(!(.own (.lst ws)))):
 ∃a,U[i]?=!(!(.ref a))/\(∃us,H a=!(.lst us))/\SR K H0 Z0 U H (Y.set i none) ((.ref a,.own (.lst ws))::pd):=by
 let(v,e1,s1):=s.take e;let(_,Z,_,z,so):=s1.top;let(a,ea,(us,hu,_),_):=so.1 _ aaV;have ea':v=.ref a:=af7 ea;subst ea';show#[a,e1,#[us,hu],s1]
def jm(i:Nat)(f:EF):SF:=λY=>match Y.vs[i]? with
 |some (!(.own (.lst _)))=>(f Y).bind λy=>match y.2.vs[i]? with
  |some (!(.own (.lst ws)))=>if ws.length<100000 then !(.nx (y.2.set i (!(.own (.lst (ws++[y.1.pv])))))) else none
  |_=>none
 |_=>none
def aea(h:PS X (.Expr (.Call (.Attribute o "append" apos) [e] [] cpos) pos) (Bj (W0 X.K "list" J0 (wK i) (jT X.K (aj f ao))))):
 PS X (.Expr (.Call (.Attribute o "append" apos) [e] [] cpos) pos) (iT X.K (jm i f)):=PS.imp h λD U H q=>by
 let(H0,Z0,Y,pd,fl,s,h,k):=q;unfold jm at h;split at h
 . rename_i ws0 e0;let(y,h1,h2):=aij h;let(a,ea,(us,hu),_):=s.takeO e0;show#[.ref a,ea,.inl #[rfl,us,cW.of hu],H0,Z0,Y,pd,[y.1],y.2,s,?_,λvs H2 e2 s2=>?_]
   . unfold aj ao;rw[h1];rfl
   . let(v1,rfl):=Gk e2;split at h2
     . rename_i ws e3;split at h2
       . rename_i hz;cases h2;let(a',ea',_,s3):=SR.takeO s2 e3;rw[ea]at ea';cases ea';have s4:SR X.K H0 Z0 U H2 (y.2.set i none) ((v1,y.1)::(.ref a,.own (.lst ws))::pd):=s3.swap;let(us2,hu2,hl,s5):=s4.pushO;show#[a,us2,v1,rfl,rfl,hu2,by rw[hl,sizeLine_eq];lia,k U _ ?_];have s6:=s5.put ea;rw[Ev.set_set]at s6;show s6
       . cases h2
     . cases h2
 . cases h
def SR.extO(s:SR K H0 Z0 U H Y ((v,.sh (.lst ps))::(.ref a,.own (.lst ws))::pd)):
 ∃b us zs,v=.ref b/\cW K H b zs/\H a=!(.lst us)/\us.length=ws.length/\zs.length=ps.length/\SR K H0 Z0 U (upd H a (.lst (us++zs))) Y ((.ref a,.own (.lst (ws++ps)))::pd):=by
 let(el,Z,hg,z,r,so):=s.sh;let(b,zs,rfl,h1,h2):=r;have so2:=so.perm dh.symm;let(_,eb,(us,hu,hr),_):=so2.1 _ aaV;cases eb;show#[b,us,zs,rfl,cW.same z.zh h1,hu,hr.length,h2.length,?_];let(z',s'):=so2.write (q:=.lst (ws++ps)) z #[us++zs,cQ,hr.append h2];show .mk el hg z' s'
def sO(i:Nat)(f:EF):SF:=λY=>match Y.vs[i]? with
 |some (!(.own (.lst _)))=>(f Y).bind λy=>match y.1.pv,y.2.vs[i]? with
  |.lst ps,!(!(.own (.lst ws)))=>if ws.length+ps.length<=100000 then !(.nx (y.2.set i (!(.own (.lst (ws++ps)))))) else none
  |_,_=>none
 |_=>none
def aeb(h:PS X (.Expr (.Call (.Attribute o "extend" apos) [e] [] cpos) pos) (Bj (W0 X.K "list" (GX X.K) (wK i) (jT X.K (aj f ao))))):
 PS X (.Expr (.Call (.Attribute o "extend" apos) [e] [] cpos) pos) (iT X.K (sO i f)):=PS.imp h λD U H q=>by
 let(H0,Z0,Y,pd,fl,s,h,k):=q;unfold sO at h;split at h
 . rename_i ws0 e0;let(y,h1,h2):=aij h;let(a,ea,(us,hu),_):=s.takeO e0;show#[.ref a,ea,.inl #[rfl,us,cW.of hu],H0,Z0,Y,pd,[y.1],y.2,s,?_,λvs H2 e2 s2=>?_]
   . unfold aj ao;lia
   . let(v1,rfl):=Gk e2;split at h2
     . rename_i ps ws ep e3;split at h2
       . rename_i hz;cases h2;let(a',ea',_,s3):=SR.takeO s2 e3;rw[ea]at ea';cases ea';have s4:=s3.swap.freeze;rw[ep]at s4;let(b,us2,zs,rfl,hb,hu2,hl,hl2,s5):=s4.extO;show#[a,b,us2,zs,rfl,rfl,hu2,hb,by rw[hl,hl2];show small hz,k U _ ?_];have s6:=s5.put ea;rw[Ev.set_set]at s6;show s6
       . cases h2
     . cases h2
 . cases h
def SR.setO(s:SR K H0 Z0 U H Y ((v,.sh p)::(.ref a,.own (.lst ws))::pd)):
 ∃us,H a=!(.lst us)/\us.length=ws.length/\SR K H0 Z0 U (upd H a (.lst (us.set j v))) Y ((.ref a,.own (.lst (ws.set j p)))::pd):=by
 let(el,Z,hg,z,r,so):=s.sh;have so2:=so.perm dh.symm;let(_,eb,(us,hu,hr),_):=so2.1 _ aaV;cases eb;show#[us,hu,hr.length,?_];let(z',s'):=so2.write (q:=.lst (ws.set j p)) z #[us.set j v,cQ,hr.set r j];show .mk el hg z' s'
def ag4(i:Nat)(fi fv:EF):SF:=λY=>(fv Y).bind λx=>match x.2.vs[i]? with
 |some (!(.own (.lst _)))=>(fi x.2).bind λy=>match y.1.pv,y.2.vs[i]? with
  |.int k,!(!(.own (.lst ws)))=>(ue ws.length k).map λj=>.nx (y.2.set i (!(.own (.lst (ws.set j x.1.pv)))))
  |_,_=>none
 |_=>none
def DK(hg:g[n]?=!a)(hm:mu[n]?=!o):∃R:Sl,List.Perm (cel g mu) ((!(.ref a),o.map Lc.own)::R)/\∀o',List.Perm (cel g (mu.set n o')) ((!(.ref a),o'.map Lc.own)::R):=by
 have h1:(g.map λa=>!(V.ref a))[n]?=!(!(.ref a)):=by rw[af9,hg];rfl
 have h2:(mu.map λo=>o.map Lc.own)[n]?=!(o.map Lc.own):=by rw[af9,hm];rfl
 let(R,p1,p2):=Dw (zip_get h1 h2);show#[R,p1,λo'=>?_];have:=p2 (!(.ref a),o'.map Lc.own);rw[<-J4,ail h1]at this;unfold cel;rw[List.map_set];show this
def SR.cellO(s:SR K H0 Z0 U H Y ((v,.sh (.ptr n))::pd))(hm:Y.mu[n]?=!(!p)):
 ∃a,v=.ref a/\SR K H0 Z0 U H #[Y.vs,Y.mu.set n none] ((.ref a,.own p)::(.ref a,.sh (.ptr n))::pd):=by
 let(el,Z,hg,z,r,so):=s.sh;have r0:=r;let(a,rfl,ha):=r;let(R,p1,p2):=DK ha hm;show#[a,rfl,.mk el ∅ z ?_];have so2:=so.perm (p1.append_right _).symm;have so3:Slots K H0 Z H ((!(.ref a),none)::(!(.ref a),!(.own p))::(R++(U.zip Y.vs++pd.map λe=>(!e.1,!e.2)))):=by
  show#[λe he=>?_,?_]
  . obtain rfl|he:=abw.mp he
    . trivial
    . show so2.1 e he
  .  show so2.2
 have so4:=(so3.perm (List.Perm.swap _ _ _)).perm (List.Perm.cons _ ((p2 none).append_right _));show((so4.consS r0).perm (List.Perm.swap _ _ _)).perm (List.Perm.cons _ dh)
def SR.cellP(s:SR K H0 Z0 U H Y ((.ref a,.own q)::(.ref a,.sh (.ptr n))::pd))(hm:Y.mu[n]?=!none):SR K H0 Z0 U H #[Y.vs,Y.mu.set n (!q)] pd:=by let(el,Z,hg,z,r,so):=s.swap.sh;let(b,eb,ha):=r;cases eb;let(R,p1,p2):=DK ha hm;have so2:=so.perm dh.symm;show#[el,Z,by simpa using hg,z,?_];have p3:List.Perm (sl Z.g U Y pd) ((!(.ref a),none)::(R++(U.zip Y.vs++pd.map λe=>(!e.1,!e.2)))):=p1.append_right _;have so3:=so2.perm (p3.symm.cons _);have so4:=so3.sub ((adQ _ _).cons_cons _);show so4.perm ((p2 (!q)).append_right _)
def yh(fo fi fv:EF):SF:=λY=>(fv Y).bind λx=>(fo x.2).bind λo=>(fi o.2).bind λy=>match o.1.pv,y.1.pv with
 |.ptr n,.int k=>match y.2.mu[n]? with
  |some (!(.lst ws))=>(ue ws.length k).map λj=>.nx #[y.2.vs,y.2.mu.set n (!(.lst (ws.set j x.1.pv)))]
  |_=>none
 |_,_=>none
def G7(h:PS X (.Assign [.Subscript o ix tpos] e pos) (Oh (tP X.K fv) (U7_ (tP X.K fo) (tP X.K fi) aaZ))):PS X (.Assign [.Subscript o ix tpos] e pos) (iT X.K (yh fo fi fv)):=PS.imp h λD U H q=>by
 let(H0,Z0,Y,pd,fl,s,h,k):=q;let(x,h1,h2):=aij h;let(o,h3,h4):=aij h2;let(y,h5,h6):=aij h4;show#[H0,Z0,Y,pd,x.1,x.2,s,h1,λv H1 s1=>#[H0,Z0,x.2,_,o.1,o.2,s1.freeze,h3,λw H2 s2=>#[H0,Z0,o.2,_,y.1,y.2,s2.freeze,h5,λt H3 s3=>?_]]];split at h6
 . rename_i n kk en ek;split at h6
   . rename_i ws em;let(j,h7,rfl):=aik h6;let(_,rt'):=s3.freeze.repH;rw[ek]at rt';have et:=cF rt';have s4:=s3.pop;rw[en]at s4;let(a,rfl,s5):=s4.cellO em;have s6:=s5.perm ((List.Perm.swap _ _ _).trans ((List.Perm.swap _ _ _).cons _));let(us,hu,hl,s7):=s6.setO;have hn:=(adP.mp em).1;have s8:=s7.cellP ∅;show#[a,us,kk,j,rfl,et,hu,by rw[hl];show h7,k U _ ?_];have e8:(y.2.mu.set n none).set n (!(.lst (ws.set j x.1.pv)))=y.2.mu.set n (!(.lst (ws.set j x.1.pv))):=ahd ..;have s9:=s8;rw[e8]at s9;show s9
   . cases h6
 . cases h6
def aM(fa fb:EF):EF:=λY=>(fa Y).bind λx=>(fb x.2).bind λy=>match x.1.pv,y.1.pv with
 |.ptr n,.int k=>match y.2.mu[n]? with
  |some (!(.lst ws))=>(gA ws k).map λp=>(.sh p,y.2)
  |_=>none
 |p,q=>(Gn p q).map λl=>(l,y.2)
def m7(ha:PE X a (tP X.K fa))(hb:PE X b (tP X.K fb))(hm:Ew b):PE X (.Subscript a b pos) (tP X.K (aM fa fb)):=PE.imp (Vn WX ha hb hm) λU H Q q=>by
 let(H0,Z0,Y,pd,l,Y',s,f,k):=q;let(x,h1,h2):=aij f;let(y,h3,h4):=aij h2;show#[H0,Z0,Y,pd,x.1,x.2,s,h1,λv H1 s1=>#[H0,Z0,x.2,_,y.1,y.2,s1,h3,λw H2 s2=>?_]];have s3:=s2.freeze.swap.freeze.swap;split at h4
 . rename_i n kk en ek;split at h4
   . rename_i ws em;let(p,h5,h6):=aik h4;cases h6;rw[en,ek]at s3;let(_,rw'):=s3.repH;have ew:=cF rw';let(a,rfl,s5):=s3.pop.cellO em;let(el,Z,hg,z,so):=s5.top;let(_,ea,(us,hu,hr),_):=so.1 _ aaV;cases ea;let(j,e1,e2):=Fd h5 hr.length;let(u,e3,e4):=hr.get e1;show .inl #[a,us,kk,u,rfl,ew,cW.of hu,e2 u e3,k u H2 ?_];have s6:SR X.K H0 Z0 U H2 #[y.2.vs,y.2.mu.set n none] ((u,.sh p)::(.ref a,.own (.lst ws))::(.ref a,.sh (.ptr n))::pd):=.mk el hg z ((so.perm dh).consS e4);have hn:=(adP.mp em).1;have s7:=s6.perm (((List.Perm.swap _ _ _).cons _).trans (List.Perm.swap _ _ _));have s8:=s7.cellP ∅;have e8:(y.2.mu.set n none).set n (!(.lst ws))=y.2.mu:=by rw[ahd];show ail em
     have s9:=s8;rw[e8]at s9;show s9
   . cases h4
 . let(l',h5,h6):=aik h4;cases h6;show Xp H0 Z0 U y.2 pd H2 v w x.1.pv y.1.pv _ Q s3 h5 k
def Ja(g:AF):EF:=λY=>(bG g Y).bind λx=>match x.1 with
 |.own p=>!(.sh (.ptr x.2.mu.length),#[x.2.vs,x.2.mu++[!p]])
 |_=>none
def aec(h:PE X (.List es pos) (tP X.K (bG g))):PE X (.List es pos) (tP X.K (Ja g)):=PE.imp h λU H Q q=>by
 let(H0,Z0,Y,pd,l,Y',s,f,k):=q;let(x,h1,h2):=aij f;show#[H0,Z0,Y,pd,x.1,x.2,s,h1,λv H1 s1=>?_];split at h2
 . rename_i p ep;cases h2;rw[ep]at s1;let(el,Z,hg,z,so):=s1.top;let(a,ea,ra,za,ha0):=so.1 _ aaV;have ea':v=.ref a:=af7 ea;subst ea';have lz:jr Z #[Z.z,Z.g++[a]]:=#[fM.refl _,ahP _ _];have so2:=so.step (Z':=#[Z.z,Z.g++[a]]) (H':=H1) lz λe he b hb=>#[rfl,(km so he hb).1];show k _ H1 (.mk (Z:=#[Z.z,Z.g++[a]]) el (by simp[hg]) #[z.zh,z.h0,z.z0.trans lz,z.new] (Slots.consS ?_ ?_))
   . show so2.perm ?_;have ec:cel (Z.g++[a]) (x.2.mu++[!p])=cel Z.g x.2.mu++[(!(.ref a),!(.own p))]:=by unfold cel;rw[ady,ady,ahn (by simp[hg])];rfl
     unfold sl;show List.Perm (cel (Z.g++[a]) (x.2.mu++[!p])++_) _;rw[ec,aba];show ag1
   . unfold Rep;show#[a,rfl,by show (Z.g++[a])[x.2.mu.length]?=!a;rw[hg,aby (aa0 _)];simp]
 . cases h2
mutual
def di:PV->Bool
 |.non=>true
 |.bl _=>true
 |.int _=>true
 |.str _=>true
 |.tup ps=>jn ps
 |_=>false
def jn:List PV->Bool
 |[]=>true
 |p::ps=>di p&&jn ps
end
def uQ:Lc->Bool
 |.sh p=>di p
 |.own (.lst ps)=>jn ps
 |.own (.dk _ ps)=>jn ps
 |_=>false
def aa8:Option Lc->Option Lc
 |some l=>!(.sh l.pv)
 |none=>none
def Ev.peek(Y:Ev):Ev:=#[Y.vs.map aa8,Y.mu.map λ_=>none]
def oJ(f:EF):EF:=λY=>(f Y.peek).bind λx=>if uQ x.1=true then !(x.1,Y) else none
def zb:Option HO->Option HO->Option HO->Option HO
 |some (.tup vs),_,_=>!(.tup vs)
 |some (.frz o u),_,_=>!(.frz o u)
 |some _,z,_=>z
 |none,_,z=>z
def qW(H:Hp)(Z Z':ZG):ZG:=#[λb=>zb (H b) (Z.z b) (Z'.z b),Z.g]
def Xr(hh:fM H H')(zh:fM Z'.z H')(h:dR K Z'.z a vs):dR K (qW H Z Z').z a vs:=by
 obtain (h|⟨o,h⟩)|h:=h
 . show .inl (.inl ?_);show zb (H a) (Z.z a) (Z'.z a)=_;cases q:H a with
   |none=>show h
   |some o=>
    have e1:=hh a o q;rw[zh a _ h]at e1;cases e1;rfl
 . show .inl (.inr #[o,?_]);show zb (H a) (Z.z a) (Z'.z a)=_;cases q:H a with
   |none=>show h
   |some o'=>
    have e1:=hh a o' q;rw[zh a _ h]at e1;cases e1;rfl
 . show .inr h
mutual
theorem PK(hh:fM H H')(zh:fM Z'.z H'):∀{p:PV}{v:V},di p=true->Rep K Z' p v->Rep K (qW H Z Z') p v
 |.non,v=>λ_ h=>by  show h
 |.bl _,v=>λ_ h=>by  show h
 |.int _,v=>λ_ h=>by  show h
 |.str _,v=>λ_ h=>by  show h
 |.tup ps,v=>λf h=>by let(a,vs,e,h1,h2):=h;show#[a,vs,e,Xr hh zh h1,yj hh zh f h2]
 |.lst _,v=>λf _=>by  cases f
 |.dk _ _,v=>λf _=>by  cases f
 |.dt _ _,v=>λf _=>by  cases f
 |.obj _ _ _,v=>λf _=>by  cases f
 |.df _ _,v=>λf _=>by  cases f
 |.dtf _ _,v=>λf _=>by  cases f
 |.dx _ _ _,v=>λf _=>by  cases f
 |.exc _,v=>λf _=>by  cases f
 |.fn _,v=>λf _=>by  cases f
 |.ptr _,v=>λf _=>by  cases f
theorem yj(hh:fM H H')(zh:fM Z'.z H'):∀{ps:List PV}{vs:List V},jn ps=true->aR K Z' ps vs->aR K (qW H Z Z') ps vs
 |[],vs=>λ_ h=>by  show h
 |p::ps,vs=>λf h=>by let(v,r,rfl,h1,h2):=h.inv;unfold jn at f;rw[ahz]at f;show aR.cons (PK hh zh f.1 h1) (yj hh zh f.2 h2)
end
def SR.lookB(s:SR K H0 Z0 U H Y pd):
 ∃Z,(U.length=Y.vs.length/\Y.mu.length=Z.g.length/\jr Z #[H,Z.g]/\Slots K H0 Z H (sl Z.g U Y pd))/\(∀H' v r Y1,SR K H #[H,Z.g] U H' Y1 [(v,r)]->uQ r=true->SR K H0 Z0 U H' Y ((v,r)::pd))/\∀H' Y1,SR K H #[H,Z.g] U H' Y1 []->SR K H0 Z0 U H' Y pd:=by
 let(el,Z,hg,z,so):=s;have lz:jr Z #[H,Z.g]:=#[z.zh,ahl _];have back:∀{H':Hp}{Z':ZG},lH H #[H,Z.g] Z' H'->lH H0 Z0 (qW H Z Z') H'/\Slots K H0 (qW H Z Z') H' (sl Z.g U Y pd):=λ{H' Z'} z'=>by
  have zz:jr Z (qW H Z Z'):=#[λb o e=>by show zb (H b) (Z.z b) (Z'.z b)=_;have hb:=z.zh b o e;rw[hb];cases o<;>first |rfl |show e,ahl _]
  have cas:∀b o,(qW H Z Z').z b=!o->(∃u,H b=!u/\((Nq u/\o=u)\/Z.z b=!o))\/(H b=none/\Z'.z b=!o):=λb o e=>by
   have e:zb (H b) (Z.z b) (Z'.z b)=!o:=e;cases q:H b with
   |none=>rw[q]at e;show .inr #[rfl,e]
   |some u=>
    rw[q]at e;show .inl #[u,rfl,?_];cases u with
    |tup vs=>cases e;show .inl #[trivial,rfl]
    |frz o' u=>cases e;show .inl #[trivial,rfl]
    |_=>show .inr e
  show#[#[λb o e=>?_,z.h0.trans z'.h0,z.z0.trans zz,λb o e=>?_],?_]
  . obtain⟨u,hu,⟨_,rfl⟩|hz⟩|⟨_,hz⟩:=cas b o e
    . show z'.h0 b _ hu
    . show z'.h0 b o (z.zh b o hz)
    . show z'.zh b o hz
  . obtain⟨u,hu,⟨hi,rfl⟩|hz⟩|⟨hn,hz⟩:=cas b o e
    . lia
    . show z.new b o hz
    . show .inr (.inl (z.h0.free hn))
  . show so.step zz λe he a ha=>?_;let(h1,h2,o,h3,h4):=km so he ha;show#[by rw[h3];show z'.h0 a o h3,?_];show zb (H a) (Z.z a) (Z'.z a)=_;rw[h3];cases o with
    |tup vs=>show(h4 trivial).elim
    |frz o u=>show(h4 trivial).elim
    |_=>show h1
 show#[Z,#[el,hg,lz,so],λH' v r Y1 s1 hf=>?_,λH' Y1 s1=>?_]
 . let(_,Z',hg',z',s2):=s1.top;let(zo,ss):=back z';have q:=s2.1 _ aaV;show .mk (Z:=qW H Z Z') el hg zo ?_;cases r with
   |sh p=>
    let(x,e1,e2):=q;cases e1;show ss.consS (PK z'.h0 z'.zh hf e2)
   |own p=>
    let(a,e1,e2,e3,e4):=q;have e1':=af7 e1;subst e1';have fin:∀{q:PV},uo K (qW H Z Z') H' a q->Slots K H0 (qW H Z Z') H' ((!(.ref a),!(.own q))::sl Z.g U Y pd):=λe2=>by
     show#[λe he=>?_,?_]
     . obtain rfl|he:=abw.mp he
       . show#[a,rfl,e2,?_,z.h0.free e4];show zb (H a) (Z.z a) (Z'.z a)=_;rw[e4];show e3
       . show ss.1 e he
     . show agT.mpr #[λhm=>?_,ss.2];let(e,he,hb):=ag8.mp hm;let(_,_,o,h3,_):=km so he hb;lia
    suffices h:uo K (qW H Z Z') H' a p by show fin h
    cases p with
    |lst ps=>
     let(vs,g1,g2):=e2;show#[vs,g1,yj z'.h0 z'.zh hf g2]
    |dk ks ps=>
     let(kvs,g1,g2,g3):=e2;show#[kvs,g1,g2,yj z'.h0 z'.zh hf g3]
    |_=>cases hf
 . let(_,Z',hg',z',s2):=s1;let(zo,ss):=back z';show#[el,qW H Z Z',hg,zo,ss]
def SR.peeked{Z:ZG}(el:U.length=Y.vs.length)(hg:Y.mu.length=Z.g.length)
 (hs:∀v o,(v,o)∈U.zip Y.vs->pk o=none\/∃x p,pk o=!(.sh p)/\v=!x/\Rep K #[H,Z.g] p x):SR K H #[H,Z.g] U H #[Y.vs.map pk,Y.mu.map λ_=>none] []:=by
 have key:∀v l,(v,l)∈sl Z.g U #[Y.vs.map pk,Y.mu.map λ_=>none] []->l=none\/∃x p,l=!(.sh p)/\v=!x/\Rep K #[H,Z.g] p x:=λv l he=>by
  obtain he|he:=adY.mp he
  . let(_,h2):=ahh he;lia
  . rw[ahA,abv]at he;rw[List.zip_map_right]at he;lia
 show#[by simp[el],#[H,Z.g],by simp[hg],#[fM.refl _,fM.refl _,jr.refl _,λb o e=>.inl e],λe he=>?_,?_]
 . let(v,l):=e;obtain rfl|⟨x,p,rfl,rfl,r⟩:=key v l he
   . trivial
   . show#[x,rfl,r]
 . have:(sl Z.g U #[Y.vs.map pk,Y.mu.map λ_=>none] []).filterMap oG=[]:=by
    rw[List.filterMap_eq_nil_iff];intro e he;let(v,l):=e;obtain rfl|⟨x,p,rfl,rfl,_⟩:=key v l he
    . cases v with
      |none=>rfl
      |some x=>cases x<;>rfl
    . cases x<;>rfl
   lia
def SR.look(s:SR K H0 Z0 U H Y pd):
 ∃Zt,SR K H Zt U H Y.peek []/\(∀H' v r Y1,SR K H Zt U H' Y1 [(v,r)]->uQ r=true->SR K H0 Z0 U H' Y ((v,r)::pd))/\∀H' Y1,SR K H Zt U H' Y1 []->SR K H0 Z0 U H' Y pd:=by
 let(Z,(el,hg,lz,so),b1,b2):=s.lookB;show#[_,SR.peeked el hg λv o he=>?_,b1,b2];have q:=so.1 _ (agi _ (agW _ he))
 match o,q with
 |none,_=>show .inl rfl
 |some (.sh p),#[x,e1,e2]=>show .inr #[x,p,rfl,e1,e2.mono lz]
 |some (.own p),#[a,e1,e2,_]=>show .inr #[.ref a,p,rfl,e1,e2.rep lz rfl]
def agE(mu:Mu):PV->PV
 |.ptr n=>match mu[n]? with
  |some (!p)=>p
  |_=>.ptr n
 |p=>p
def peekC(mu:Mu):Option Lc->Option Lc
 |some l=>!(.sh (agE mu l.pv))
 |none=>none
def Ev.peekC(Y:Ev):Ev:=#[Y.vs.map (PL.peekC Y.mu),Y.mu.map λ_=>none]
def Z6:∀U H Q,tP K (oJ f) U H Q->tP K f U H Q:=λU H Q q=>by
 let(H0,Z0,Y,pd,r,Y',s,h,k):=q;let(x,h1,h2):=aij h;let(Zt,s1,b1,_):=s.look;split at h2
 . rename_i hf;cases h2;show#[H,Zt,Y.peek,[],x.1,x.2,s1,h1,λv H' s2=>k v H' (b1 H' v x.1 x.2 s2 hf)]
 . cases h2
def Jb(h:PE X e (tP X.K f)):PE X e (tP X.K (oJ f)):=PE.imp h Z6
end
def BP(x:Str):It:=#[λi _=>i<x.cps.size,λi H v H'=>H'=H/\∃c,x.cps[i]?=!c/\v=.str #[(List.toArray [c])],λi _=>i=x.cps.size]
def PN(it:Addr)(x:Str){St:Nat->Heap->Prop}(W:∀A':Around,A'.handled=none->Walks P w A' it [it] [it] x.cps.size (SignAt x) St)
 (hob:∀i h,St i h->∃o,h.get? it=!o/\∀v,o.data≠.cell v) (slf:∀(A:Around)(i:Nat)(s:Shared)(Q:Value->Shared->Prop)(E:Value->Shared->Prop),St i s.heap->Q (.ref it) s->wpAny (model P w) A (pyIter (.ref it)) Q E s):Turn P w K tg (BP x) [it] it St where
 mem:=by simp
 obj:=λi h st b hb=>by
  have e:b=it:=by simpa using hb
  lia
 keep:=λi h h' st k=>(W {} rfl).frame i h h' st k
 item:=by intro X hP hw hK hc i aki s U H E I hf st hg;let(f0,f1,f2,f3,f4,f5):=hf it (by simp);show(W X.A (I.ok.hd hc)).item i s _ E hg st λv h' tk hv st' hk=>?_;let(c,u,e1,rfl):=hv;show#[_,rfl,?_];have fin:∃x_1 H',Inv X aki U H' { s with heap:=h',toks:=tk }/\RelV x_1 (.str #[(List.toArray [c])] u)/\(BP x).yld i H x_1 H'/\St (i+1) h'/\∀b∈[it],H' b=none:=#[.str #[(List.toArray [c])],H,(I.turned (λb o hb e=>hk b o ∅ e) f0 f1 f3 f4 f5),#[u,rfl],#[rfl,c,e1,rfl],st',λb hb=>(hf b hb).1];cases tg<;>show aie fin
 done:=by intro X hP hw hK hc i aki s U H E I hf st hg;let(f0,f1,f2,f3,f4,f5):=hf it (by simp);subst hg;show(W X.A (I.ok.hd hc)).done s _ E st λh' tk hk=>#[rfl,I.turned (λb o hb e=>hk b o ∅ e) f0 f1 f3 f4 f5]
 self:=λA i s Q E st h=>slf A i s Q E st h
section
variable {X:Cx}
def signs(x:Str):List PV:=x.cps.toList.map λc=>.str #[(List.toArray [c])]
def Z7:sH K H0 Z0 pd (BP x) (signs x):=by
 intro U H Y i s;show#[λp hp=>?_,λhl=>?_]
 . unfold signs at hp;rw[af9]at hp;let(c,hc,rfl):=aik hp;have hi:=(adP.mp hc).1;show#[(show i<x.cps.size by simpa using hi),λv H' y=>?_];let(rfl,c',hc',rfl):=y;have:c'=c:=by rw[Array.getElem?_toList]at hc;rw[hc]at hc';show(af7 hc').symm
   subst this;show s.scal wA
 . show i=x.cps.size;simpa [signs] using hl
def RM{bs:List Bool}(rv:Vals ys its)(e:ys=bs.map V.bl):TruthOf P w A (λi v=>its.toArray[i]?=!v) (λi=>bs.getD i false):=by
 intro i v s Q E hv q;have hv':its[i]?=!v:=by simpa using hv
 have hi:=(adP.mp hv').1;have hl:=rv.length;have hb:i<bs.length:=by rw[e,aaW]at hl;lia
 let(u,h1,h2):=rv.get (by rw[e,af9,aeM hb];rfl);rw[hv']at h1;cases h1;cases h2;have:bs.getD i false=bs[i]:=by simp[hb]
 have q':Q (bs.getD i false) s:=q;rw[this]at q';show wpAny_truthy_bool q'
def range_all{bs:List Bool}:((List.range bs.length).all λi=>bs.getD i false)=bs.all id:=by
 induction bs with
 |nil=>rfl
 |cons b r ih=>
  rw[aa9,List.range_succ_eq_map,List.all_cons,List.all_map,List.all_cons];have:((List.range r.length).all ((λi=>(b::r).getD i false) ∘ Nat.succ))=(List.range r.length).all λi=>r.getD i false:=rfl;rw[this,ih];rfl
def BR(hc:X.calm=true):uP X (.builtin "all") (λxs H Q=>∃(p:Addr)(bs:List Bool),xs=[.ref p]/\cW X.K H p (bs.map V.bl)/\Q (.bl (bs.all id)) H):=by
 intro aki s U H xs us Q I r h;let(p,bs,rfl,hq,q):=h;let(u,rfl,ru):=vals1 r;cases ru;let(its,rv,pl,_):=I.list hq;have hlt:p<s.heap.objs.size:=by let(o,n,g1,_):=pl;show aeq g1
 show call_all_walk (wpAny_pyIter_list pl.isList ?_);have old:∀b o,s.heap.get? b=!o->(s.heap.push { cls:=.type "list_iterator",data:=.fields (List.toArray [.ref p,.int 0 0]) }).get? b=!o:=λb o e=>abj _ e;have hl:its.toArray.size=bs.length:=by rw[adW,<-rv.length,aaW]
 show#[s.heap.objs.size,_,_,_,_,_,λi=>bs.getD i false,rfl,Walks.list (show X.A.in1.handled=none from I.ok.hd hc) _ p (agQ hlt) its.toArray,#[#[_,aga _ rfl,rfl,rfl],?_],RM rv rfl,λh' tk hk=>?_]
 . let(o,g1,g2):=pl.isList;show#[o,old _ _ g1,g2]
 . rw[hl,range_all];show#[.bl _,H,I.kept λb o e=>hk b o ?_ (old b o e),rfl,q];have:=aeq e;lia
def boolsOf:List PV->Option (List Bool)
 |[]=>![]
 |.bl b::r=>(boolsOf r).map (b::·)
 |_=>none
theorem LQ:∀{ps:List PV}{bs:List Bool}{vs:List V},boolsOf ps=!bs->aR K Z ps vs->vs=bs.map V.bl
 |[],bs,vs=>λh r=>by cases h;show r.inv0
 |p::ps,bs,vs=>λh r=>by
  cases p with
  |bl b=>
   let(cs,h1,rfl):=aik h;let(v,w,rfl,r1,r2):=r.inv;rw[gD r1,LQ h1 r2];rfl
  |_=>cases h
def agF:PV->Option Lc
 |.lst ps=>(boolsOf ps).map λbs=>.sh (.bl (bs.all id))
 |_=>none
abbrev all1:List PV->Option Lc:=λps=>match ps with |[p]=>agF p |_=>none
def Xu:oH K (λxs H Q=>∃(p:Addr)(bs:List Bool),xs=[.ref p]/\cW K H p (bs.map V.bl)/\Q (.bl (bs.all id)) H) all1:=oH.one λH0 Z0 U Y pd H v p l Q s e k=>by
 let(_,r):=s.repH;cases p with
 |lst ps=>
  let(bs,h1,rfl):=aik (e);let(a,vs,rfl,h2,h3):=r;have:=LQ h1 h3;subst this;show#[a,bs,rfl,h2,k _ H (s.pop.scal gC)]
 |_=>cases e
noncomputable def tyN:PV->Option String
 |.non=>!"NoneType"
 |.bl _=>!"bool"
 |.int _=>!"int"
 |.str _=>!"str"
 |.tup _=>!"tuple"
 |.lst _=>!"list"
 |_=>none
noncomputable def DN(p:PV)(C:String):Option Bool:=(tyN p).bind λT=>if (Value.type T==Value.type C)=true then !true else if W.kitMeta C=true then (fastBuiltinMro T).map λx=>x.contains (.type C) else none
def rH(h1:tyN p=!T)(h:DN p C=!b):W.kitOne K (.type T) (.type C)=!b:=by unfold DN at h;rw[h1,aaS]at h;show h
def fD:uP X (.builtin "isinstance") (λxs H Q=>∃x C g p b,xs=[x,.ty C]/\Rep X.K #[H,g] p x/\DN p C=!b/\Q (.bl b) H):=by
 intro aki s U H xs us Q I r h;let(x,C,g,p,b,rfl,rp,e,q):=h;let(u,w',rfl,ru,rw'):=vals2 r;cases rw';have fin:∀tk,EP X aki U Q (.bool b) { s with toks:=tk }:=λtk=>#[.bl b,H,I.tok tk,rfl,q];cases p with
 |non=>have:=jG rp;subst this;cases ru;show ah0 W.kitx_none I.kIn trivial () () fin
 |bl c=>have:=gD rp;subst this;cases ru;show ah0 W.kitx_bool I.kIn trivial () ∅ fin
 |int i=>have:=cF rp;subst this;let(t,rfl):=ru;show ah0 W.kitx_int I.kIn trivial () ∅ fin
 |str i=>have:=eY rp;subst this;let(t,rfl):=ru;show ah0 W.kitx_str I.kIn trivial () ∅ fin
 |tup ps=>
  let(a,vs,its,rfl,_,_,_,o,t1,t2,_):=zJ I rp ru;show ah0 W.kitx_tuple I.kIn #[o,t1,t2] () ∅ fin
 |lst ps=>
  let(a,vs,its,rfl,_,_,_,o,t1,t2,_):=zK I rp ru;show ah0 W.kitx_list I.kIn #[o,t1,t2] () ∅ fin
 |_=>cases e
def kE(C:String)(f:EF):EF:=λY=>(f Y).bind λx=>(DN x.1.pv C).map λb=>(.sh (.bl b),x.2)
def wZ(h:PE X (.Call (.Name "isinstance" pp) [e,c] [] pos) (Lr (λxs H Q=>∃x C g p b,xs=[x,.ty C]/\Rep X.K #[H,g] p x/\DN p C=!b/\Q (.bl b) H) (Eu (tP X.K f) (Eu (tC (.ty C)) Ol)))):
 PE X (.Call (.Name "isinstance" pp) [e,c] [] pos) (tP X.K (kE C f)):=PE.imp h λU H Q q=>by
 let(H0,Z0,Y,pd,r,Y',s,h,k):=q;let(x,h1,h2):=aij h;let(b,h3,h4):=aik h2;cases h4;show#[H0,Z0,Y,pd,x.1,x.2,s,h1,λv H1 s1=>?_];let(g,r1):=s1.freeze.repH;show#[v,C,g,_,b,rfl,r1,h3,k _ H1 (s1.pop.scal gC)]
end
section
variable {prog:Program}{w:World}{A:Around}{E:Value->Shared->Prop}{s:Shared}
theorem LR(hne:t≠it):∀(n i:Nat)(s:Shared)(Q:List Value->Shared->Prop),s.heap.IsListIter it t i->s.heap.IsList t items->i+n<=items.size->
 (∀h',h'.IsListIter it t (i+n)->Heap.SameBut it s.heap h'->Q ((items.toList.drop i).take n) { s with heap:=h' })->wpAny (model prog w) A (draw (.ref it) n) Q E s
 |0=>λi s Q hit _ _ hQ=>by show aie (by simpa using hQ s.heap hit (Heap.SameBut.refl ..))
 |n+1=>λi s Q hit ht hle hQ=>by
  have hlt:i<items.size:=()
  show aib (wpAny_pyNext_list_item hit ht (x:=items[i]) ∅ λh₁ hit₁ hs₁=>?_);show aib (wpAny_holding (LR hne n (i+1) _ _ hit₁ (ht.extBut hs₁.extBut hne) () λh₂ hit₂ hs₂=>aie ?_));have hd:items.toList.drop i=items[i]::items.toList.drop (i+1):=by simp[ahN,hlt]
  have:=hQ h₂ ∅ (hs₁.trans hs₂);lia
def G9(hh:A.handled=none)(ht:s.heap.IsList t items)
 (hQ:∀h',Heap.ExtBut s.heap.objs.size s.heap h'->Q items.toList { s with heap:=h' }):wpAny (model prog w) A (unpackItems (.ref t) items.size none) Q E s:=by
 have hlt:t≠s.heap.objs.size:=by let(o,ho,_):=ht;show agQ (aeq ho)
 show aib ?_
 . show aib (wpAny_specialOf ht.typeIs slot_list_iter.lookup ?_);show aie ?_;show aib (wpAny_holding (wpAny_pyIter_list ht ?_));show aib (wpAny_holding (LR hlt items.size 0 _ _ #[_,aga _ rfl,rfl,rfl] (by let(o,g1,g2):=ht;show#[o,abj _ g1,g2]) () λh₁ hit₁ hs₁=>?_));have hall:List.take items.size (List.drop 0 items.toList)=items.toList:=by rw[List.drop_zero];show List.take_of_length_le (by simp)
   rw[hall];rw[aid (by simp)];have ht₁:=Heap.IsList.extBut (by let(o,g1,g2):=ht;show#[o,abj _ g1,g2]) hs₁.extBut hlt;show aib (wpAny_holding (wpAny_pyNext_list_end hh hit₁ ht₁ (by simp) λh₂ he₂=>?_));show aie (hQ h₂ λb o hb e=>he₂ b o hb (hs₁.extBut b o hb (abj _ e)))
end
section
variable {X:Cx}{pos:Pos}
def Z8(K:FG)(n:Nat)(t:zq):TG:=λv U H Q=>∃a xs,v=.ref a/\(dR K H a xs\/cW K H a xs)/\xs.length=n/\t xs U H Q
def je{k:Nat}(hc:X.calm=true)(h:Ww X es t)
 (hn:(assignEach es X.env).length=n:=by rfl) (hst:(assignEach es X.env).findIdx? (·.1)=none:=by rfl):PG X (.Tuple es k pos) (Z8 X.K n t):=by
 intro aki s U H v u Q I r hw;let(a,xs,e1,hq,hl,hw):=hw;obtain hq|hq:=hq
 . show adu hc h hn hst aki s U H v u Q I r #[a,xs,e1,hq,hl,hw]
 . subst e1;cases r;let(its,rv,ht,hz):=I.list hq;show aib (wpAny_standAt ?_);unfold unpack;have hsz:(assignEach es X.env).length=its.toArray.size:=by simp[hn,<-hl,rv.length]
   rw[hsz,hst];show aib (wpAny_holding (G9 (I.ok.hd hc) ht.isList λh' hx=>?_));have I1:=I.kept (t':=s.toks) λb o e=>hx b o (agQ (aeq e)) e;show h aki _ U H xs _ Q I1 () hw
noncomputable def eG(n:Nat)(bs:Iu):BF:=λp Y=>match p with
 |.tup ps=>if ps.length=n then bs ps Y else none
 |.lst ps=>if ps.length=n then bs ps Y else none
 |_=>none
def jf(h1:Xj K t bs):GS K (Z8 K n t) (eG n bs):=by
 intro H0 Z0 U H Y pd v p Y' Q s h k;cases p with
 |tup ps=>
  have h':(if ps.length=n then bs ps Y else none)=!Y':=h;split at h'
  . rename_i hn;let(e,Z,hg,z,r,sl'):=s.sh;let(a,vs,rfl,h2,h3):=r;show#[a,vs,rfl,.inl (dR.same z.zh h2),by rw[h3.length];show hn,h1 H0 Z0 U H Y pd vs ps Y' Q h3.length (SR.items e hg z h3 sl') h' k]
  . cases h'
 |lst ps=>
  have h':(if ps.length=n then bs ps Y else none)=!Y':=h;split at h'
  . rename_i hn;let(e,Z,hg,z,r,sl'):=s.sh;let(a,vs,rfl,h2,h3):=r;show#[a,vs,rfl,.inr (cW.same z.zh h2),by rw[h3.length];show hn,h1 H0 Z0 U H Y pd vs ps Y' Q h3.length (SR.items e hg z h3 sl') h' k]
  . cases h'
 |_=>cases h
def agG(K:FG)(tl:TE):TI:=λU H R=>tl U H λx H1=>(∃a,x=.ref a/\(∃xs,cW K H1 a xs)/\R (Itl K a) H1)\/(∃a,x=.ref a/\(∃xs,dR K H1 a xs)/\R (Itt K a) H1)\/∃z,x=.str z/\R (BP z) H1
def aed(hl:PE X l tl):PI X tg l (agG X.K tl):=by
 intro aki s U H R I h;have at':∀(v:Value)(s1:Shared)(x:V)(H1:Hp),Inv X aki U H1 s1->RelV x v->((∃a,x=.ref a/\(∃xs,cW X.K H1 a xs)/\R (Itl X.K a) H1)\/(∃a,x=.ref a/\(∃xs,dR X.K H1 a xs)/\R (Itt X.K a) H1)\/∃z,x=.str z/\R (BP z) H1)->
  wpAny (model X.prog X.w) X.A (pyIter v) (PIE X aki U tg R) X.xe s1:=λv s1 x H1 I1 r1 q=>by
  have fp:∀b,b∈[s1.heap.objs.size]->rB X aki H1 b:=λb hb=>by
   have e:b=s1.heap.objs.size:=by simpa using hb
   subst e;show I1.fpOk () (I1.hok.fresh ())
  obtain⟨a,rfl,⟨xs,hq⟩,q⟩|⟨a,rfl,⟨xs,hq⟩,q⟩|⟨z,rfl,q⟩:=q
  . cases r1;let(its,rv,p,hz):=I1.list hq;show wpAny_pyIter_list p.isList #[s1.heap.objs.size,[s1.heap.objs.size],_,_,H1,rfl,I1.kept λb o e=>abj _ e,Wx a _,#[_,aga _ rfl,rfl,rfl],fp,q]
  . cases r1;let(its,rv,p,hz):=I1.tuple hq;show wpAny_pyIter_tuple p #[s1.heap.objs.size,[s1.heap.objs.size],_,_,H1,rfl,I1.kept λb o e=>abj _ e,U8 a _,#[_,aga _ rfl,rfl,rfl],fp,q]
  . let(t,rfl):=r1;have kp:∀(o:Obj),Inv X aki U H1 { s1 with heap:=s1.heap.push o }:=λo=>I1.kept λb u e=>abj _ e;have ob:∀{n:String}(i:Nat)(h:Heap),h.IsStrIter s1.heap.objs.size n z t i->∃o,h.get? s1.heap.objs.size=!o/\∀v,o.data≠.cell v:=λi h st=>by let(o,ho,_,hd):=st;show#[o,ho,λv e=>by rw[hd]at e;cases e]
    cases ha:z.cps.all (·<128)
    . show wpAny_pyIter_wide ha #[s1.heap.objs.size,[s1.heap.objs.size],_,BP z,H1,rfl,kp _,PN _ z (λA' hA=>Walks.strWide hA _ z t) ob (λA i s Q E st h=>wpAny_pyIter_striter_wide st h),#[_,aga _ rfl,rfl,rfl],fp,q]
    . show wpAny_pyIter_ascii ha #[s1.heap.objs.size,[s1.heap.objs.size],_,BP z,H1,rfl,kp _,PN _ z (λA' hA=>Walks.strAscii hA _ z t) ob (λA i s Q E st h=>wpAny_pyIter_striter_ascii st h),#[_,aga _ rfl,rfl,rfl],fp,q]
 show cP (hl aki s U H _ I h) λv s1 z61=>by let(x,H1,I1,r1,q):=z61;show at' v s1 x H1 I1 r1 q
def dW:PV->Option (List PV)
 |.lst ps=>!ps
 |.tup ps=>!ps
 |.str x=>!(signs x)
 |_=>none
def jU(hl:PE X l (tP X.K f)):PI X tg l (Iv X.K (jd f dW)):=PI.imp (aed hl) λU H R q=>by
 let(H0,Z0,Y,pd,xs,Y',s,h,k):=q;let(x,h1,h2):=aij h;let(ys,h3,h4):=aik h2;cases h4;show#[H0,Z0,Y,pd,x.1,x.2,s,h1,λv H1 s1=>?_];have s2:=s1.freeze;cases e:x.1.pv with
 |lst ps=>
  rw[e]at h3 s2;cases h3;let(Z,z,r):=s2.rep;let(b,vs,rfl,h1',h2'):=r;show .inl #[b,rfl,#[vs,cW.same z h1'],k _ _ _ s2 Xl (adQ _ _)]
 |tup ps=>
  rw[e]at h3 s2;cases h3;let(Z,z,r):=s2.rep;let(b,vs,rfl,h1',h2'):=r;show .inr (.inl #[b,rfl,#[vs,dR.same z h1'],k _ _ _ s2 ZX (adQ _ _)])
 |str z=>
  rw[e]at h3 s2;cases h3;let(_,r):=s2.repH;show .inr (.inr #[z,eY r,k _ _ _ s2.pop Z7 (ahI _)])
 |_=>rw[e]at h3;cases h3
def sU(g g':PV->PV->Option Lc)(fa fb fc:EF):EF:=λY=>(fa Y).bind λx=>(fb x.2).bind λy=>(g x.1.pv y.1.pv).bind λz=>match z.pv with
 |.bl true=>(fc y.2).bind λw=>(g' y.1.pv w.1.pv).map λl=>(l,w.2)
 |.bl false=>!(.sh (.bl false),y.2)
 |_=>none
def Ma(hs:lg X.K r g)(hs':lg X.K r' g'):∀U H Q,tP X.K (sU g g' fa fb fc) U H Q->Oi r r' (tP X.K fa) (tP X.K fb) (tP X.K fc) U H Q:=λU H Q q=>by
 let(H0,Z0,Y,pd,l,Y',s,f,k):=q;let(x,h1,h2):=aij f;let(y,h3,h4):=aij h2;let(z,h5,h6):=aij h4;show#[H0,Z0,Y,pd,x.1,x.2,s,h1,λv H1 s1=>#[H0,Z0,x.2,_,y.1,y.2,s1,h3,λw H2 s2=>?_]];have s3:=s2.freeze.swap.freeze.swap;have s4:=s3.dup.perm ((List.Perm.swap _ _ _).cons _);show hs H0 Z0 U y.2 _ H2 v w x.1.pv y.1.pv z _ s4 h5 λu H3 s5=>?_;let(_,ru):=s5.freeze.repH;split at h6
 . rename_i e;rw[e]at ru;show#[true,gD ru,?_];let(t,h7,h8):=aij h6;let(l',h9,h10):=aik h8;cases h10;show#[H0,Z0,y.2,_,t.1,t.2,s5.pop,h7,λb H4 s6=>?_];show hs' H0 Z0 U t.2 pd H4 w b y.1.pv t.1.pv _ Q s6.freeze h9 k
 . rename_i e;rw[e]at ru;show#[false,gD ru,?_];cases h6;show k _ H3 (s5.pop.pop.scal gC)
 . cases h6
def aee(ho:iB X (compareOp op) r)(ho':iB X (compareOp op') r')(hs:lg X.K r g)(hs':lg X.K r' g')(ha:PE X a (tP X.K fa))(hb:PE X b (tP X.K fb))(hc:PE X c (tP X.K fc))
 (hm:lastMarks [op,op'] [b,c]=false:=by with_unfolding_all rfl):PE X (.Compare a [op,op'] [b,c] pos) (tP X.K (sU g g' fa fb fc)):=PE.imp (Zd ho ho' ha hb hc hm) (Ma hs hs')
def ack(ho:iB X (compareOp op) r)(ho':iB X (compareOp op') r')(hs:lg X.K r g)(hs':lg X.K r' g')(ha:PE X a (tP X.K fa))(hb:PE X b (tP X.K fb))(hc:PE X c (tP X.K fc))
 (hm:lastMarks [op,op'] [b,c]=false:=by with_unfolding_all rfl):PT X (.Compare a [op,op'] [b,c] pos) (jF X.K (tT (sU g g' fa fb fc) aQ)):=Vt (PT.imp (Ze ho ho' ha hb hc hm) λU H Q q=>Ma hs hs' U H _ q)
end
section
variable {P:Program}{w:World}{K:FG}{mg:Str->Option Value}{base:Heap}
def S9(mg:Str->Option Value)(L:List Str):Prop:=∀x∈L,mg x=none
def zU{st:Stmt}(F:dH K mg x st ps):cU P w K mg base x k ps (cR K ps.length λ_ _=>none):=by
 let(f,fd,F,hm,hb):=F;have no:∀vs H Q E,¬ cR K ps.length (λ_ _=>none) vs H Q E:=λvs H Q E h=>by let(_,_,_,_,_,_,_,_,_,_,h,_):=h;cases h
 show#[f,fd,#[λvs H Q E h=>absurd h (no vs H Q E),λA outer s H args us vs Q E _ _ _ _ h=>absurd h (no vs H Q E)],hm,F.kp,hb]
def Nv(K:FG):Sp:=λvs H Q _=>∃(a:Addr)(ns:List Int),vs=[.ref a]/\cW K H a (ns.map V.int)/\ns.length<=63/\∀H',Q (.bl true) H'
def aef(F:rD P w K mg base uf k f fd ["_law_script"] (cR K 1 g))(h:∀ns:List Int,ns.length<=63->∃mu',g [.lst (ns.map PV.int)] []=!(.sh (.bl true),mu')):rD P w K mg base uf k f fd ["_law_script"] (Nv K):=
 F.imp λvs H Q E q=>by
  let(a,ns,rfl,hs,hl,k):=q;let(mu',e):=h ns hl;show#[#[H,[]],[.lst (ns.map PV.int)],[],_,mu',rfl,rfl,fM.refl _,aR.cons ?_ .nil,#[λe he=>(by cases he),ahK],e,λv H' r=>?_]
  . unfold Rep;show#[a,ns.map V.int,rfl,hs,?_];clear hs e hl;induction ns with
    |nil=>show .nil
    |cons n r ih=>show aR.cons (iD _) ih
  . let(Z',_,_,s):=r;let(x,e1,e2):=s.1 _ aaV;cases e1;rw[gD e2];show k H'
end
def aN:∀Y ls Y1,ao Y=!(ls,Y1)->ls.length=0:=λY ls Y1 h=>by cases h;rfl
def az(h:∀Y ls Y1,g Y=!(ls,Y1)->ls.length=n):∀Y ls Y1,aj f g Y=!(ls,Y1)->ls.length=n+1:=λY ls Y1 e=>by let(x,h1,h2):=aij e;let(y,h3,h4):=aik h2;cases h4;rw[aa9,h _ _ _ h3]
def afC(S:Scope)(hS:X.env.scope=S)(kind:sc.kind=.function)(locs:∀y∈sc.names,y.2=.local->sc.names.lookup y.1=!.local)(cel:∀y∈sc.names,y.2=.cell->sc.names.lookup y.1=!.cell)
 (own:∀p∈sc.names,p.2=.free->S.names.lookup p.1=!.cell\/S.names.lookup p.1=!.free) (frs:∀x∈F,sc.names.lookup x=!.free) (ix:ixs.map (λi=>X.N[i]?)=F.map some):lG X M F ixs sc:=by
 show#[kind,locs,cel,λp hp e=>by rw[hS];show own p hp e,frs,?_,λj i h=>?_]
 . have:=congrArg List.length ix;simpa using this
 . have h2:(ixs.map (λi=>X.N[i]?))[j]?=some X.N[i]?:=by rw[af9,h];rfl
   rw[ix,af9]at h2;cases q:F[j]? with
   |none=>rw[q]at h2;cases h2
   |some x=>rw[q]at h2;show(af7 h2).symm
section
variable {P:Program}{w:World}{K:FG}{mg:Str->Option Value}{base:Heap}
def ye.okP{st:Stmt}(F:ye K x x st f fd)(S:bw N ps (aK st))
 (h:∀(cdv:Value)(A:Around)(outer:List PySem.Env)(s:Shared)(H:Hp)(E:XK),rC k (A.deeper (envOfC x (aK st) s.heap.objs.size f cdv))->
   ∃g':SF,(∀a mu,g a mu=cV N.length g' a mu)/\kZ (Zn uf P w K mg base N x (aK st) f cdv A outer s H E).nox (lw st) (iT K g')):rD P w K mg base uf (k+1) f fd ps (cR K ps.length g):=by
 show F.ok S (λvs H Q E q=>?_) (λcdv A outer s H vs Q E hr q=>?_)
 . let(Z,qs,mu,r,mu',e,_):=q;show e
 . let(g',eg,b):=h cdv A outer s H E hr;let(Z,qs,mu,r,mu',e,hg,z,rl,c,hr',kk):=q;rw[eg]at hr';let(fl,h1,h2):=aij hr';show#[_,b,pI H (wV Z.g mu),Z,_,[],fl,G3 hg z rl c,h1,?_];cases fl with
   |rt r' Y'=>
    cases h2;intro v U' H' s';let(el,Z',hg',z',s''):=s'.top;show kk v H' #[Z',hg',z',s''.sub ?_];show(ag9 _ _).cons_cons _
   |nx Y'=>
    cases h2;intro U' H' s';let(el,Z',hg',z',s''):=s';show kk .non H' #[Z',hg',z',(s''.sub (ag9 _ _)).consS (zB _)]
   |bk Y'=>cases h2
   |ct Y'=>cases h2
end
section
variable {X:Cx}
def agH:PV->Option PV
 |.int i=>!(.int (-i))
 |_=>none
def gJ(f:EF):EF:=λY=>(f Y).bind λx=>(agH x.1.pv).map λp=>(.sh p,x.2)
def uv(ha:PE X a (tP X.K f)):PE X (.UnaryOp .USub a pos) (tP X.K (gJ f)):=PE.imp (afs adD ha) λU H Q q=>by
 let(H0,Z0,Y,pd,r,Y',s,h,k):=q;let(x,h1,h2):=aij h;let(p,h3,h4):=aik h2;cases h4;show#[H0,Z0,Y,pd,x.1,x.2,s,h1,λv H1 s1=>?_];let(_,r1):=s1.freeze.repH;cases e:x.1.pv with
 |int i=>
  rw[e]at h3 r1;cases h3;show#[i,cF r1,k _ H1 (s1.pop.scal iD)]
 |_=>rw[e]at h3;cases h3
end
theorem Ha(J:Ev->Prop)(hJ:∀Y,J Y->Y.mu=mu)(c:PV->Bool)(f:PV->PV):∀{xs:List PV}{Y:Ev}{acc:List PV},J Y->acc.length+xs.length<=100000->
 (∀x∈xs,∀Y,J Y->∃Y1,b x Y=!Y1/\∃Y2,tc Y1=!(c x,Y2)/\J Y2/\(c x=true->∃l Y3,te Y2=!(l,Y3)/\l.pv=f x/\J Y3))->iJ b tc te xs Y acc=!(acc++(xs.filter c).map f,mu)
 |[],Y,acc=>λh _ _=>by show some (acc,Y.mu)=_;lia
 |x::xs,Y,acc=>λh hl hs=>by
  let(Y1,e1,Y2,e2,h2,h3):=hs x aaV Y h;have hs':=λy hy=>hs y (abl _ hy);rw[aa9]at hl;show (b x Y).bind _=_;rw[e1,aaS,e2,aaS];cases hc:c x with
  |false=>
   simp only[ahG,if_false];rw[Ha J hJ c f h2 () hs',List.filter_cons_of_neg ∅]
  |true=>
   let(l,Y3,e3,ef,h4):=h3 hc;simp only[if_true];rw[e3,aaS,aic (),Ha J hJ c f h4 ∅ hs',List.filter_cons_of_pos (),ef];simp
def u9(J:Ev->Prop)(hJ:∀Y,J Y->Y.mu=mu)(f:PV->PV)(h:J Y)(hl:xs.length<=100000)
 (hs:∀x∈xs,∀Y,J Y->∃Y1,b x Y=!Y1/\∃l Y3,te Y1=!(l,Y3)/\l.pv=f x/\J Y3) (hb:∀x∈xs,∀Y Y1,J Y->b x Y=!Y1->J Y1):iJ b dw te xs Y []=!(xs.map f,mu):=by
 rw[Ha J hJ (λ_=>true) f h (by simpa using hl) λx hx Y hY=>?_]
 . rw[ahe,List.filter_eq_self.mpr (λ_ _=>rfl)]
 . let(Y1,e1,l,Y3,e3):=hs x hx Y hY;show#[Y1,e1,Y1,rfl,hb x hx Y Y1 hY e1,λ_=>#[l,Y3,e3]]
def uw(a b:Int):bj (.int a) (.int b)=!(.sh (.int (a+b))):=rfl
def gR(h:0<b):aP (.int a) (.int b)=!(.sh (.int (a%b))):=by show (if decide (0<b)=true then _ else _)=_;rw[aic (aig h)]
def DP(h:0<b)(h2:b<1073741824):iK (.int a) (.int b)=!(.sh (.int (a/b))):=by show (if decide (0<b/\b<1073741824)=true then _ else _)=_;rw[aic (aig #[h,h2])]
def zW(h:-18446744073709551616<a)(h2:a<18446744073709551616):cI (.int a) (.int b)=!(.sh (.int (a*b))):=by show (if decide ((-(2 ^ 64)<a/\a<2 ^ 64)\/(-(2 ^ 64)<b/\b<2 ^ 64))=true then _ else _)=_;rw[aic (aig (.inl #[(),()]))]
def DQ(h:-18446744073709551616<b)(h2:b<18446744073709551616):cI (.int a) (.int b)=!(.sh (.int (a*b))):=by show (if decide ((-(2 ^ 64)<a/\a<2 ^ 64)\/(-(2 ^ 64)<b/\b<2 ^ 64))=true then _ else _)=_;rw[aic (aig (.inr #[(),()]))]
def dq(h1:fa Y=!(x,Y1))(h2:fb Y1=!(y,Y2))(h3:g x.pv y.pv=!l):aq g fa fb Y=!(l,Y2):=by unfold aq;lia
def Hb(h0:0<=i)(h1:i<l.length):∃x,gA l i=!x/\l[i.toNat]?=!x:=by
 have hi:i.toNat<l.length:=()
 show#[l[i.toNat],?_,aeM hi];unfold gA ue;rw[aic h0,aic h1,aaS,aeM hi]
def Fe(h:f Y=!(.nx Y')):aG f g Y=g Y':=by unfold aG;lia
def gj(h:f Y=!(.rt r Y')):aG f g Y=!(.rt r Y'):=by unfold aG;rw[h,aaS]
def acl(h:f Y=!(l,Y1))(hi:i<Y1.vs.length):aO i f Y=!(.nx (Y1.set i (!l))):=by unfold aO;rw[h,aaS,aic hi]
def dz(h:c Y=!(true,Y1)):bY c f g Y=f Y1:=by unfold bY;lia
def bK(h:c Y=!(false,Y1)):bY c f g Y=g Y1:=by unfold bY;rw[h,aaS,aid agV]
def yT(h:c Y=!(true,Y1))(k:f Y1=R):bY c f g Y=R:=(dz h).trans k
def yY(h:c Y=!(false,Y1))(k:g Y1=R):bY c f g Y=R:=(bK h).trans k
def acn(h:f Y=!(l,Y1)):bV f Y=!(.rt l Y1):=by unfold bV;rw[h];rfl
def aco(h:f Y=!(xs,Y1)):jP f b body Y=iw b body xs Y1:=by unfold jP;rw[h,aaS]
def bh(h:g (env0 n ps mu)=!(.rt r Y)):cV n g ps mu=!(r,Y.mu):=by unfold cV;rw[h,aaS]
def fP(h:g (env0 n ps mu)=!(.nx Y)):cV n g ps mu=!(.sh .non,Y.mu):=by unfold cV;lia
def Z9(h:a Y=!(ls,Y1))(h2:g (ls.map Lc.pv) Y1.mu=!(r,mu)):aH g a Y=!(r,#[Y1.vs,mu]):=by unfold aH;rw[h,aaS,h2];rfl
def aaa(h:f Y=!(l,Y1))(h2:a Y1=!(ls,Y2)):aj f a Y=!(l::ls,Y2):=by unfold aj;rw[h,aaS,h2];rfl
def afD(h:a Y=!(ls,Y1))(h2:g (ls.map Lc.pv)=!r):eB g a Y=!(r,Y1):=by unfold eB;lia
def iU(h:f Y=!(xs,Y1))(h2:iJ b tc te xs (wW m ixs (mq ixs Y1)) []=!(ys,mu)):dJ f m ixs b tc te Y=!(.own (.lst ys),#[(mq ixs Y1).vs,mu]):=by unfold dJ;rw[h,aaS,h2];rfl
def sV(h:f Y=!(l,Y1))(h2:g l.pv=!xs):jd f g Y=!(xs,Y1):=by unfold jd;rw[h,aaS,h2];rfl
def aab(h:f Y.peek=!(l,Y1))(hf:uQ l=true):oJ f Y=!(l,Y):=by unfold oJ;lia
def Ff(h:f Y=!(l,Y1))(h2:tr l.pv=!b):tT f tr Y=!(b,Y1):=by unfold tT;rw[h,aaS,h2];rfl
section
variable {f g:SF}{Y Y1 Y2 Y':Ev}{R:Option Fl}{l m r:Lc}{fa fb fc:EF}{c d:TF}{a:AF}{b:Bool}
def aB(h:f Y=!(.nx Y'))(h2:g Y'=R):aG f g Y=R:=(Fe h).trans h2
def bL(h:fa Y=!(l,Y1))(hi:Nat.blt i Y1.vs.length=true)(e:Y1.set i (!l)=Y'):aO i fa Y=!(.nx Y'):=by rw[acl h (by simpa using hi),e]
def bZ(h:fa Y=!(l,Y1)):bV fa Y=!(.rt l Y1):=acn h
def fW(h:fa Y=!(l,Y1)):eN fa Y=!(.nx Y1):=by unfold eN;rw[h];rfl
def cN(h1:fa Y=!(l,Y1))(hx:l.pv=p)(h2:fb Y1=!(m,Y2))(hy:m.pv=q)(h3:o p q=!r):aq o fa fb Y=!(r,Y2):=dq h1 h2 (by rw[hx,hy];show h3)
def aY(h:a Y=!(ls,Y1))(hp:ls.map Lc.pv=ps)(hv:Y1.vs=v)(hm:Y1.mu=mu1)(h2:G ps mu1=!(r,mu)):aH G a Y=!(r,#[v,mu]):=by subst hp hv hm;show Z9 h h2
def vD(h:a Y=!(ls,Y1))(hp:ls.map Lc.pv=ps)(h2:G ps=!r):eB G a Y=!(r,Y1):=by subst hp;show afD h h2
def aC(h:fa Y=!(l,Y1))(h2:a Y1=!(ls,Y2)):aj fa a Y=!(l::ls,Y2):=aaa h h2
def dY(h:fa Y=!(l,Y1))(hp:l.pv=p)(h2:tr p=!b):tT fa tr Y=!(b,Y1):=by subst hp;show Ff h h2
def zX(h:c Y=!(b,Y1)):lJ c Y=!(not b,Y1):=by unfold lJ;rw[h];rfl
def Vv(h:c Y=!(b,Y1))(h2:d Y1=!(b2,Y1)):jZ c d Y=!(b||b2,Y1):=by
 unfold jZ;rw[h,aaS];cases b with
 |true=>rfl
 |false=>rw[aid agV,h2];rfl
def PP(h:fa Y.peek=!(l,Y1))(hf:uQ l=true):oJ fa Y=!(l,Y):=aab h hf
def qM(h:a Y=!(ls,Y1))(hl:Nat.ble ls.length 1000=true)(hp:ls.map Lc.pv=ps):bG a Y=!(.own (.lst ps),Y1):=by subst hp;unfold bG;rw[h,aaS,aic (by simpa using hl)]
def fQ(h:a Y=!(ls,Y1))(hl:Nat.ble ls.length 1000=true)(hp:ls.map Lc.pv=ps):bz a Y=!(.sh (.tup ps),Y1):=by subst hp;unfold bz;rw[h,aaS,aic (by simpa using hl)]
def Tc(h:a Y=!(ls,Y1))(hl:Nat.ble ls.length 1000=true)(hp:ls.map Lc.pv=ps)(hn:Y1.mu.length=n):Ja a Y=!(.sh (.ptr n),#[Y1.vs,Y1.mu++[!(.lst ps)]]):=by subst hn;unfold Ja;rw[qM h hl hp];rfl
def oK(h1:fa Y=!(l,Y1))(hx:l.pv=p)(h2:fb Y1=!(m,Y2))(hy:m.pv=q)(hn:∀n,p≠.ptr n)(h3:Gn p q=!r):aM fa fb Y=!(r,Y2):=by
 subst hx hy;unfold aM;rw[h1,aaS,h2,aaS];split
 . rename_i n k e1 e2;show(hn n e1).elim
 . rw[h3];rfl
def zY(h1:fa Y=!(l,Y1))(hx:l.pv=.ptr n)(h2:fb Y1=!(m,Y2))(hy:m.pv=.int k)(hm:Y2.mu[n]?=!(!(.lst ws)))(h3:gA ws k=!p):aM fa fb Y=!(.sh p,Y2):=by unfold aM;lia
def J8(h1:fv Y=!(x,Y1))(hxp:x.pv=p)(h2:fo Y1=!(o,Y2))(hx:o.pv=.ptr n)(h3:fi Y2=!(y,Y3))(hy:y.pv=.int k)(hm:Y3.mu[n]?=!(!(.lst ws)))(h4:ue ws.length k=!j):yh fo fi fv Y=!(.nx #[Y3.vs,Y3.mu.set n (!(.lst (ws.set j p)))]):=by subst hxp;unfold yh;lia
def nR(h0:Y.vs[i]?=!(!(.own (.lst ws0))))(h:fa Y=!(l,Y1))(hp:l.pv=p)(h1:Y1.vs[i]?=!(!(.own (.lst ws))))(hz:ws.length<100000)(e:Y1.set i (!(.own (.lst (ws++[p]))))=Y'):jm i fa Y=!(.nx Y'):=by subst hp;unfold jm;lia
def DR(h0:Y.vs[i]?=!(!(.own (.lst ws0))))(h:fa Y=!(l,Y1))(hp:l.pv=.lst ps)(h1:Y1.vs[i]?=!(!(.own (.lst ws))))(hz:ws.length+ps.length<=100000)(e:Y1.set i (!(.own (.lst (ws++ps))))=Y'):sO i fa Y=!(.nx Y'):=by unfold sO;lia
def ym(h:fa Y=!(l,Y1))(hp:l.pv=p)(h2:DN p C=!b):kE C fa Y=!(.sh (.bl b),Y1):=by subst hp;unfold kE;rw[h,aaS,h2];rfl
def jo(h:F Y=!(xs,Y1))(h2:iw B body xs Y1=R):jP F B body Y=R:=(aco h).trans h2
def Hc(hx:x=.int p)(hy:y=.int q)(h:-18446744073709551616<q)(h2:q<18446744073709551616):cI x y=!(.sh (.int (p*q))):=by subst hx hy;show DQ h h2
end
section
variable {X:Cx}
noncomputable def cg(f:EF):EF:=λY=>(f Y).bind λx=>match x.1 with
 |.own p=>!(.sh (.ptr x.2.mu.length),#[x.2.vs,x.2.mu++[!p]])
 |_=>none
def ji{e:Expr}{f:EF}(h:PE X e (tP X.K f)):PE X e (tP X.K (cg f)):=PE.imp h λU H Q q=>by
 let(H0,Z0,Y,pd,l,Y',s,f,k):=q;let(x,h1,h2):=aij f;show#[H0,Z0,Y,pd,x.1,x.2,s,h1,λv H1 s1=>?_];split at h2
 . rename_i p ep;cases h2;rw[ep]at s1;let(el,Z,hg,z,so):=s1.top;let(a,ea,ra,za,ha0):=so.1 _ aaV;have ea':=af7 ea;subst ea';have lz:jr Z #[Z.z,Z.g++[a]]:=#[fM.refl _,ahP _ _];have so2:=so.step lz λe he b hb=>#[rfl,(km so he hb).1];show k _ H1 (.mk (Z:=#[Z.z,Z.g++[a]]) el ∅ #[z.zh,z.h0,z.z0.trans lz,z.new] (Slots.consS ?_ ?_))
   . show so2.perm ?_;have ec:cel (Z.g++[a]) (x.2.mu++[!p])=cel Z.g x.2.mu++[(!(.ref a),!(.own p))]:=by unfold cel;rw[ady,ady,ahn ∅];rfl
     show List.Perm (cel (Z.g++[a]) (x.2.mu++[!p])++_) _;rw[ec,aba];show ag1
   . show#[a,rfl,by show (Z.g++[a])[x.2.mu.length]?=!a;rw[hg,aby ()];simp]
 . cases h2
noncomputable def m9(i:Nat)(Y:Ev):Option Ev:=match Y.vs[i]? with
 |some (!(.sh (.ptr n)))=>match Y.mu[n]? with
  |some (!p)=>!#[Y.vs.set i (!(.own p)),Y.mu.set n none]
  |_=>none
 |_=>none
def ux(f:EF)(lo hi:OF):EF:=λY=>(f Y).bind λx=>(lo x.2).bind λy=>(hi y.2).bind λz=>match x.1.pv with
 |.lst ps=>!(.own (.lst (pJ ps y.1 z.1)),z.2)
 |.str t=>if t.length<=100000 then !(.sh (.str (pG t y.1 z.1)),z.2) else none
 |_=>none
def zZ{lo hi:Option Expr}(he:PE X e (tP X.K f))(hl:PO X lo (S8 X.K fl))(hu:PO X hi (S8 X.K fh)):PE X (.Subscript e (.Slice lo hi none p2) pos) (tP X.K (ux f fl fh)):=PE.imp (Oq (ab1.or adV) he hl hu) λU H Q q=>by
 let(H0,Z0,Y,pd,r,Y',s,h,k):=q;let(x,h1,h2):=aij h;let(y,h3,h4):=aij h2;let(z,h5,h6):=aij h4;show#[H0,Z0,Y,pd,x.1,x.2,s,h1,λv H1 s1=>#[H0,Z0,x.2,_,y.1,y.2,s1.freeze,h3,λH2 s2=>#[H0,Z0,y.2,_,z.1,z.2,s2,h5,λH3 s3=>?_]]];cases e:x.1.pv with
 |lst ps=>
  rw[e]at h6 s3;cases h6;let(el,Z,hg,zz,r1,s4):=s3.sh;unfold Rep at r1;let(a,vs,rfl,g1,g2):=r1;show .inl #[a,vs,rfl,cW.same zz.zh g1,λp hp=>k _ _ ?_];let(z',s'):=s4.new (o:=.lst (wU vs y.1 z.1)) (p:=.lst (pJ ps y.1 z.1)) zz hp #[_,cQ,g2.cut];show .mk el hg z' s'
 |str t=>
  rw[e]at h6 s3;have h6':(if t.length<=100000 then !(Lc.sh (.str (pG t y.1 z.1)),z.2) else none)=!(r,Y'):=h6;split at h6'
  . rename_i hz;cases h6';let(_,r1):=s3.repH;unfold Rep at r1;show .inr #[t,r1,small hz,k _ H3 (s3.pop.scal wA)]
  . cases h6'
 |_=>rw[e]at h6;cases h6
def oH.two{g:PV->PV->Option Lc}(h:∀H0 Z0 U Y pd H v w p q l Q,SR K H0 Z0 U H Y ((v,.sh p)::(w,.sh q)::pd)->g p q=!l->(∀u H',SR K H0 Z0 U H' Y ((u,l)::pd)->Q u H')->r [v,w] H Q):
 oH K r (λps=>match ps with |[p,q]=>g p q |_=>none):=by
 intro H0 Z0 U Y pd H vs ps l Q e s hg k
 match ps,vs,e,s,hg with
 |[p,q],[v,w],_,s,hg=>show h H0 Z0 U Y pd H v w p q l Q s hg k
 |[p,q],[],e,_,_=>simp at e
 |[p,q],[_],e,_,_=>simp at e
 |[p,q],_::_::_::_,e,_,_=>simp at e
 |[],_,_,_,hg=>cases hg
 |[_],_,_,_,hg=>cases hg
 |_::_::_::_,_,_,_,hg=>cases hg
def ag7:PV->PV->Option Lc
 |.int i,.int j=>!(.sh (.int (if j<i then j else i)))
 |_,_=>none
def aeg:PV->PV->Option Lc
 |.int i,.int j=>!(.sh (.int (if j>i then j else i)))
 |_,_=>none
abbrev max2:List PV->Option Lc:=λps=>match ps with |[p,q]=>aeg p q |_=>none
def aeh:oH K (λxs H Q=>∃i j,xs=[.int i,.int j]/\Q (.int (if j>i then j else i)) H) max2:=oH.two λH0 Z0 U Y pd H v w p q l Q s e k=>by
 let(_,r1,r2):=s.rep2H;unfold aeg at e;split at e
 . cases e;have a:=cF r1;have b:=cF r2;subst a b;show#[_,_,rfl,k _ H (s.pop.pop.scal iD)]
 . cases e
def SR.popO(s:SR K H0 Z0 U H Y ((.ref a,.own (.lst ws))::pd))(hp:ws[ws.length-1]?=!p):
 ∃us y,H a=!(.lst us)/\us[us.length-1]?=!y/\SR K H0 Z0 U (upd H a (.lst us.dropLast)) Y ((.ref a,.own (.lst ws.dropLast))::(y,.sh p)::pd):=by
 let(el,Z,hg,z,so):=s.top;let(b,eb,(us,hu,hr),_):=so.1 _ aaV;cases eb;let(y,hy,ry):=hr.get hp;have hl:=hr.length;show#[us,y,hu,by rw[hl];show hy,?_];have hd:aR K Z ws.dropLast us.dropLast:=by rw[List.dropLast_eq_take,List.dropLast_eq_take,hl];show hr.take _
 let(z',s'):=so.write (q:=.lst ws.dropLast) z #[us.dropLast,cQ,hd];have s2:=(s'.consS ry).perm (List.Perm.swap (!y,!(Lc.sh p)) (!(V.ref a),!(Lc.own (.lst ws.dropLast))) _);show .mk el hg z' (s2.perm (dh.cons _))
def vX(ps:List PV):List PV:=ps.zipIdx.map λx=>.tup [.int (x.2:Nat),x.1]
def Xv{i:Nat}:(vX ps)[i]?=ps[i]?.map λp=>.tup [.int (i:Nat),p]:=by unfold vX;rw[af9,List.getElem?_zipIdx];cases ps[i]?<;>simp
def Xw:(vX ps).length=ps.length:=by unfold vX;simp
def Xx:sH K H0 Z0 ((.ref a,.sh (.lst ps))::pd) (Ite K a) (vX ps):=by intro U H Y i s;let(el,Z,hg,z,r,so):=s.sh;have r0:=r;let(b,vs,e,h1,h2):=r;cases e;have hq:=cW.same z.zh h1;show#[λx hx=>?_,λhl=>#[vs,hq,by rw[h2.length];rw[Xw]at hl;lia]];rw[Xv]at hx;let(p,hp,rfl):=aik hx;let(v,hv,rv):=h2.get hp;show#[#[vs,v,hq,hv],λv' H' y=>?_];let(T,y,hT,rfl,rfl,hy):=y;have e1:=hy vs hq;rw[hv]at e1;cases e1;let(z',lz,so'):=(so.consS r0).newF z hT;show .mk (Z:=Z.put T (.tup [.int (i:Nat),v])) el hg z' (Slots.perm (Slots.consS so' ?_) (dh.cons _));show#[T,[.int (i:Nat),v],rfl,.inl (.inl (by show upd Z.z T _ T=_;rw[cQ])),aR.cons (iD _) (aR.cons (rv.mono lz) .nil)]
def DW(f:EF):IF:=λY=>(f Y).bind λx=>match x.1.pv with
 |.lst ps=>!(vX ps,x.2)
 |_=>none
def Td{elts:List Expr}{x1}(hg:Gl X "enumerate")(hm:X.mg "enumerate"=none)(ha:PA X [a] (jT X.K (aj f ao)))(hs:starEach [a] X.env=[(false,eval a X.env)]:=by rfl):PI X (.Tuple elts x1 tpos) (.Call (.Name "enumerate" p) [a] [] pos) (Iv X.K (DW f)):=PI.imp (ab9 hg hm ha hs) λU H R q=>by
 let(H0,Z0,Y,pd,xs,Y',s,h,k):=q;let(x,h1,h2):=aij h;show#[H0,Z0,Y,pd,[x.1],x.2,s,?_,λvs H1 e1 s1=>?_]
 . unfold aj ao;rw[h1];rfl
 . let(v,rfl):=Gk e1;have s2:SR X.K H0 Z0 U H1 x.2 ((v,.sh x.1.pv)::pd):=SR.freeze s1;cases e:x.1.pv with
   |lst ps=>
    rw[e]at h2 s2;cases h2;let(Z,z,r):=s2.rep;unfold Rep at r;let(b,us,rfl,h1',h2'):=r;show#[b,rfl,#[us,cW.same z h1'],k _ _ _ s2 Xx (adQ _ _)]
   |_=>rw[e]at h2;cases h2
abbrev PD:=List (Key×PV)
noncomputable def bQ:PD->Key->Option PV
 |[],_=>none
 |kv::r,k=>if kv.1=k then !kv.2 else bQ r k
noncomputable def j0(k:Key)(v:PV):PD->PD
 |[]=>[]
 |kv::r=>(if kv.1=k then (kv.1,v) else kv)::j0 k v r
def fZ(l:PD)(k:Key)(v:PV):PD:=match bQ l k with
 |some _=>j0 k v l
 |none=>l++[(k,v)]
def uy:PV->Option Key
 |.int i=>!(.inl i)
 |.str x=>!(.inr x)
 |_=>none
def eO(l:PD):PV:=.dk (l.map (·.1)) (l.map (·.2))
def il(K:FG)(Z:ZG):PD->List (Key×V)->Prop:=Paired λp q=>p.1=q.1/\Rep K Z p.2 q.2
section
variable {K:FG}{Z Z':ZG}
theorem lA:∀{kvs:List (Key×V)}{ks:List Key}{ps:List PV},kvs.map (·.1)=ks->aR K Z ps (kvs.map (·.2))->il K Z (ks.zip ps) kvs
 |[],ks,ps=>λh1 h2=>by subst h1;show .nil
 |kv::r,ks,ps=>λh1 h2=>by
  subst h1;cases ps with
  |nil=>have:=h2.inv0;lia
  |cons p ps=>
   let(v,r',e,h3,h4):=h2.inv;injection e with e1 e2;subst e1 e2;show .cons #[rfl,h3] (lA rfl h4)
theorem il.keys:∀{l:PD}{kvs:List (Key×V)},il K Z l kvs->kvs.map (·.1)=l.map (·.1)
 |_,_,.nil=>rfl
 |_,_,.cons h t=>by rw[af8,af8,h.1,il.keys t]
theorem il.vals:∀{l:PD}{kvs:List (Key×V)},il K Z l kvs->aR K Z (l.map (·.2)) (kvs.map (·.2))
 |_,_,.nil=>.nil
 |_,_,.cons h t=>aR.cons h.2 (il.vals t)
theorem il.len:∀{l:PD}{kvs:List (Key×V)},il K Z l kvs->kvs.length=l.length
 |_,_,.nil=>rfl
 |_,_,.cons h t=>by rw[aa9,aa9,il.len t]
theorem il.val:∀{l:PD}{kvs:List (Key×V)},il K Z l kvs->(∀p,bQ l k=!p->∃v,pD kvs k=!v/\Rep K Z p v)/\(bQ l k=none->pD kvs k=none)
 |_,_,.nil=>#[λp h=>(by cases h),λ_=>rfl]
 |p::l,q::kvs,.cons h t=>by
  have ih:=il.val (k:=k) t;by_cases e:p.1=k
  . have e':q.1=k:=by rw[<-h.1];show e
    show#[λx hx=>#[q.2,Bq e',?_],λhx=>?_]
    . unfold bQ at hx;rw[aic e]at hx;cases hx;show h.2
    . unfold bQ at hx;rw[aic e]at hx;cases hx
  . have e':¬ q.1=k:=by rw[<-h.1];show e
    rw[Br e'];unfold bQ;rw[aid e];show ih
theorem il.repl(r:Rep K Z p v):∀{l:PD}{kvs:List (Key×V)},il K Z l kvs->il K Z (j0 k p l) (kvs.map λkv=>if kv.1=k then (kv.1,v) else kv)
 |_,_,.nil=>.nil
 |a::l,b::kvs,.cons h t=>by
  show .cons ?_ (il.repl r t);by_cases e:a.1=k
  . have e':b.1=k:=by rw[<-h.1];show e
    rw[aic e];dsimp only;rw[aic e'];show#[h.1,r]
  . have e':¬ b.1=k:=by rw[<-h.1];show e
    rw[aid e];dsimp only;rw[aid e'];show h
theorem il.app:∀{l l':PD}{kvs kvs':List (Key×V)},il K Z l kvs->il K Z l' kvs'->il K Z (l++l') (kvs++kvs')
 |_,_,_,_,.nil=>λh=>h
 |_,_,_,_,.cons a t=>λh=>.cons a (il.app t h)
def il.put(h:il K Z l kvs)(r:Rep K Z p v):il K Z (fZ l k p) (putK kvs k v):=by
 have hv:=h.val (k:=k);unfold fZ;cases e:bQ l k with
 |none=>
  rw[Zw v (hv.2 e)];show h.app (.cons #[rfl,r] .nil)
 |some q=>
  let(u,hu,_):=hv.1 q e;have e2:putK kvs k v=kvs.map λkv=>if kv.1=k then (kv.1,v) else kv:=by unfold putK;rw[Bt,hu];rfl
  rw[e2];show h.repl r
def uz(h:uy p=!k)(r:Rep K Z p v):v=kV k:=by
 cases p with
 |int i=>cases h;show cF r
 |str x=>cases h;show eY r
 |_=>cases h
end
def cz(fa fb:EF):EF:=λY=>(fa Y).bind λx=>(fb x.2).bind λy=>match x.1.pv with
 |.dk ks ps=>(uy y.1.pv).bind λk=>(bQ (ks.zip ps) k).map λp=>(.sh p,y.2)
 |.df ks ps=>(uy y.1.pv).bind λk=>(bQ (ks.zip ps) k).map λp=>(.sh p,y.2)
 |_=>aM (λ_=>!x) (λ_=>!y) Y
def acp(hy:y.2=Y)(s3:SR X.K H0 Z0 U H Y ((w,.sh y.1.pv)::(v,.sh x.1.pv)::pd))(h:aM (λ_=>!x) (λ_=>!y) Y0=!(l,Y'))(k:∀u H',SR X.K H0 Z0 U H' Y' ((u,l)::pd)->Q u H'):rIx X.K v w H Q:=by
 unfold aM at h;rw[aaS,aaS]at h;subst hy;split at h
 . rename_i n kk en ek;split at h
   . rename_i ws em;let(p,h5,h6):=aik h;cases h6;rw[en,ek]at s3;let(_,rw'):=s3.repH;have ew:=cF rw';let(a,rfl,s5):=s3.pop.cellO em;let(el,Z,hg,z,so):=s5.top;let(_,ea,(us,hu,hr),_):=so.1 _ aaV;cases ea;let(j,e1,e2):=Fd h5 hr.length;let(u,e3,e4):=hr.get e1;show .inl #[a,us,kk,u,rfl,ew,cW.of hu,e2 u e3,k u H ?_];have s6:SR X.K H0 Z0 U H #[y.2.vs,y.2.mu.set n none] ((u,.sh p)::(.ref a,.own (.lst ws))::(.ref a,.sh (.ptr n))::pd):=.mk el hg z ((so.perm dh).consS e4);have hn:=(adP.mp em).1;have s7:=s6.perm (((List.Perm.swap _ _ _).cons _).trans (List.Perm.swap _ _ _));have s8:=s7.cellP ∅;have e8:(y.2.mu.set n none).set n (!(.lst ws))=y.2.mu:=by rw[ahd];show ail em
     have s9:=s8;rw[e8]at s9;show s9
   . cases h
 . let(l',h5,h6):=aik h;cases h6;show Xp H0 Z0 U y.2 pd H v w x.1.pv y.1.pv _ Q s3 h5 k
def ig(hu:X.A.units+1<cLine)(ha:PE X a (tP X.K fa))(hb:PE X b (tP X.K fb))(hm:Ew b):PE X (.Subscript a b pos) (tP X.K (cz fa fb)):=PE.imp (Vn (WX.or (Su hu)) ha hb hm) λU H Q q=>by
 let(H0,Z0,Y,pd,l,Y',s,f,k):=q;let(x,h1,h2):=aij f;let(y,h3,h4):=aij h2;show#[H0,Z0,Y,pd,x.1,x.2,s,h1,λv H1 s1=>#[H0,Z0,x.2,_,y.1,y.2,s1,h3,λw H2 s2=>?_]];have s3:=s2.freeze.swap.freeze.swap;split at h4
 . rename_i ks ps en;let(kk,h5,h6):=aij h4;let(p,h7,h8):=aik h6;cases h8;let(_,rw'):=s3.repH;have ew:=uz h5 rw';have s4:=s3.pop;rw[en]at s4;let(Z,z,r):=s4.rep;let(b',kvs,rfl,g1,g2,g3):=r;let(u,hu',ru):=(lA g2 g3).val.1 p h7;have e1:=z _ _ g1;show .inr #[b',u,rfl,.inl #[kvs,kk,.inl e1,ew,hu'.symm],k u H2 ?_];show(s4.part λZ' z' r'=>?_).sub ((adQ _ _).cons_cons _);let(b2,kvs2,eb,g1',g2',g3'):=r';cases eb;have e2:=z' _ _ g1';rw[e1]at e2;cases e2;let(u2,hu2,ru2):=(lA g2' g3').val.1 p h7;lia
 . rename_i ks ps en;let(kk,h5,h6):=aij h4;let(p,h7,h8):=aik h6;cases h8;let(_,rw'):=s3.repH;have ew:=uz h5 rw';have s4:=s3.pop;rw[en]at s4;let(Z,z,r):=s4.rep;let(b',ob,kvs,rfl,g1,g2,g3):=r;let(u,hu',ru):=(lA g2 g3).val.1 p h7;have e1:=z _ _ g1;show .inr #[b',u,rfl,.inl #[kvs,kk,.inr #[ob,e1],ew,hu'.symm],k u H2 ?_];show(s4.part λZ' z' r'=>?_).sub ((adQ _ _).cons_cons _);let(b2,ob2,kvs2,eb,g1',g2',g3'):=r';cases eb;have e2:=z' _ _ g1';rw[e1]at e2;cases e2;let(u2,hu2,ru2):=(lA g2' g3').val.1 p h7;lia
 . show .inl (acp rfl s3 h4 k)
def SR.takeD(s:SR K H0 Z0 U H Y pd)(e:Y.vs[i]?=!(!(.own (.dk ks ps)))):
 ∃a,U[i]?=!(!(.ref a))/\SR K H0 Z0 U H (Y.set i none) ((.ref a,.own (.dk ks ps))::pd):=by
 let(v,e1,s1):=s.take e;let(_,Z,_,z,so):=s1.top;let(a,ea,_):=so.1 _ aaV;have ea':v=.ref a:=af7 ea;subst ea';show#[a,e1,s1]
def SR.setD(s:SR K H0 Z0 U H Y ((v,.sh p)::(.ref a,.own (.dk ks ps))::pd)):
 ∃kvs,H a=!(.dK kvs)/\kvs.length=ks.length/\SR K H0 Z0 U (upd H a (.dK (putK kvs k v))) Y ((.ref a,.own (eO (fZ (ks.zip ps) k p)))::pd):=by
 let(el,Z,hg,z,r,so):=s.sh;have so2:=so.perm dh.symm;let(_,eb,(kvs,hu,hk,hr),_):=so2.1 _ aaV;cases eb;show#[kvs,hu,by rw[<-hk,aaW],?_];have d:=(lA hk hr).put (k:=k) r;let(z',s'):=so2.write (q:=eO (fZ (ks.zip ps) k p)) z #[putK kvs k v,cQ,d.keys,d.vals];show .mk el hg z' s'
def qd(i:Nat)(fi fv:EF):SF:=λY=>(fv Y).bind λx=>match x.2.vs[i]? with
 |some (!(.own (.dk _ _)))=>(fi x.2).bind λy=>match uy y.1.pv,y.2.vs[i]? with
  |some k,!(!(.own (.dk ks ps)))=>if ks.length<100000 then !(.nx (y.2.set i (!(.own (eO (fZ (ks.zip ps) k x.1.pv)))))) else none
  |_,_=>none
 |_=>none
def J9(h:PS X (.Assign [.Subscript o ix tpos] e pos) (Oh (tP X.K fv) (U7_ (wK i) (tP X.K fi) Vr))):PS X (.Assign [.Subscript o ix tpos] e pos) (iT X.K (qd i fi fv)):=PS.imp h λD U H q=>by
 let(H0,Z0,Y,pd,fl,s,h,k):=q;let(x,h1,h2):=aij h;show#[H0,Z0,Y,pd,x.1,x.2,s,h1,λv H1 s1=>?_];split at h2
 . rename_i ks0 ps0 e0;let(y,h3,h4):=aij h2;let(a,ea,_):=s1.takeD e0;show#[.ref a,ea,H0,Z0,x.2,_,y.1,y.2,s1.freeze,h3,λw H2 s2=>?_];split at h4
   . rename_i kk ks ps ek e3;split at h4
     . cases h4;let(_,rw'):=s2.freeze.repH;have ew:=uz ek rw';let(a',ea',s3):=s2.pop.takeD e3;rw[ea]at ea';cases ea';let(kvs,hu,hl,s4):=s3.swap.setD;show#[a,_,rfl,.inl #[kvs,kk,hu,ew,by rw[hl,sizeLine_eq];lia,rfl],k U _ ?_];have s5:=s4.put ea;rw[Ev.set_set]at s5;show s5
     . cases h4
   . cases h4
 . cases h2
def fY(fo fv:EF):SF:=λY=>(fo Y).bind λo=>match o.1.pv with
 |.ptr n=>match o.2.mu[n]? with
  |some (!(.lst _))=>(fv o.2).bind λy=>match y.2.mu[n]? with
   |some (!(.lst ws))=>if ws.length<100000 then !(.nx #[y.2.vs,y.2.mu.set n (!(.lst (ws++[y.1.pv])))]) else none
   |_=>none
  |_=>none
 |_=>none
def j8(h:PS X (.Expr (.Call (.Attribute o "append" apos) [e] [] cpos) pos) (Bj (W0 X.K "list" J0 (tP X.K fo) (jT X.K (aj fv ao))))):
 PS X (.Expr (.Call (.Attribute o "append" apos) [e] [] cpos) pos) (iT X.K (fY fo fv)):=PS.imp h λD U H q=>by
 let(H0,Z0,Y,pd,fl,s,h,k):=q;let(o',h1,h2):=aij h;show#[H0,Z0,Y,pd,o'.1,o'.2,s,h1,λv H1 s1=>?_];split at h2
 . rename_i n en;split at h2
   . rename_i ws0 em0;let(y,h3,h4):=aij h2;have s2:=s1.freeze;rw[en]at s2;let(a,rfl,s5):=s2.cellO em0;let(_,Z,_,z,so):=s5.top;let(_,ea,(us,hu,_),_):=so.1 _ aaV;cases ea;show#[.inl #[rfl,us,cW.of hu],H0,Z0,o'.2,_,[y.1],y.2,s2,?_,λvs H2 e2 sv=>?_]
     . unfold aj ao;lia
     . let(v1,rfl):=Gk e2;split at h4
       . rename_i ws em;split at h4
         . cases h4;have s3:=SR.freeze sv;let(a',ea',s6):=s3.swap.cellO em;cases ea';have s7:=s6.perm ((List.Perm.swap _ _ _).trans ((List.Perm.swap _ _ _).cons _));let(us2,hu2,hl,s8):=s7.pushO;have hn:=(adP.mp em).1;have s9:=s8.cellP ∅;show#[a,us2,v1,rfl,rfl,hu2,by rw[hl,sizeLine_eq];lia,k U _ ?_];have e8:(y.2.mu.set n none).set n (!(.lst (ws++[y.1.pv])))=y.2.mu.set n (!(.lst (ws++[y.1.pv]))):=ahd ..;have s10:SR X.K H0 Z0 U (upd H2 a (.lst (us2++[v1]))) #[y.2.vs,(y.2.mu.set n none).set n (!(.lst (ws++[y.1.pv])))] pd:=s9;lia
         . cases h4
       . cases h4
   . cases h2
 . cases h2
abbrev DF:=Ev->Option (List (Lc×Lc)×Ev)
def aac:DF:=λY=>!([],Y)
noncomputable def Vw(f g:EF)(d:DF):DF:=λY=>(f Y).bind λx=>(g x.2).bind λy=>(d y.2).map λz=>((x.1,y.1)::z.1,z.2)
def vV:List (V×V)->List V
 |[]=>[]
 |p::r=>p.1::p.2::vV r
def yo:List (Lc×Lc)->List Lc
 |[]=>[]
 |p::r=>p.1::p.2::yo r
theorem Mf:∀{ps:List (V×V)},(vV ps).length=2*ps.length
 |[]=>rfl
 |p::r=>by show (vV r).length+1+1=_;rw[Mf,aa9];lia
theorem Mg:∀{ps:List (Lc×Lc)},(yo ps).length=2*ps.length
 |[]=>rfl
 |p::r=>by show (yo r).length+1+1=_;rw[Mg,aa9];lia
def tPD(K:FG)(d:DF)(U:L2.St)(H:Hp)(Q:List (V×V)->Hp->Prop):Prop:=∃H0 Z0 Y pd zs Y',SR K H0 Z0 U H Y pd/\d Y=!(zs,Y')/\∀ps H',ps.length=zs.length->SR K H0 Z0 U H' Y' ((vV ps).zip (yo zs)++pd)->Q ps H'
def QPs(X:Cx)(pos:Pos)(keys:List (Option Expr))(values:List Expr)(d:DF):Prop:=∃trs,W7 X pos keys values trs/\∀U H Q,tPD X.K d U H Q->Ii trs U H Q
def aei:QPs X pos [] [] aac:=#[[],ab2,λU H Q q=>by let(H0,Z0,Y,pd,zs,Y',s,h,k):=q;cases h;show k [] H rfl s]
def acq(hk:PE X ke (tP X.K f))(hv:PE X ve (tP X.K g))(hr:QPs X pos ks vs d):QPs X pos (some ke::ks) (ve::vs) (Vw f g d):=by let(trs,h1,h2):=hr;show#[_,Zy hk hv h1,λU H Q q=>?_];let(H0,Z0,Y,pd,zs,Y',s,h,k):=q;let(x,e1,e2):=aij h;let(y,e3,e4):=aij e2;let(z,e5,e6):=aik e4;cases e6;show#[H0,Z0,Y,pd,x.1,x.2,s,e1,λv H1 s1=>#[H0,Z0,x.2,_,y.1,y.2,s1,e3,λw H2 s2=>h2 U H2 _ #[H0,Z0,y.2,_,z.1,z.2,s2,e5,λps H3 hl s3=>?_]]];show k ((v,w)::ps) H3 ∅ (s3.perm ?_);show(List.Perm.swap _ _ _).trans ((List.perm_middle.symm.cons _).trans ag1.symm)
noncomputable def keysOf:List (Lc×Lc)->Option PD
 |[]=>![]
 |p::r=>(uy p.1.pv).bind λk=>(keysOf r).map λl=>(k,p.2.pv)::l
def kI(l:PD)(acc:PD):PD:=match l with
 |[]=>acc
 |kv::r=>kI r (fZ acc kv.1 kv.2)
def Jc(d:DF):EF:=λY=>(d Y).bind λz=>(keysOf z.1).bind λl=>if l.length<=15 then !(.own (eO (kI l [])),z.2) else none
theorem Mh:∀{zs:List (Lc×Lc)}{ps:List (V×V)}{l:PD},aR K Z ((yo zs).map Lc.pv) (vV ps)->ps.length=zs.length->keysOf zs=!l->∃kvs:List (Key×V),ps=kvs.map (λkv=>(kV kv.1,kv.2))/\il K Z l kvs
 |[],[],l=>λ_ _ h=>by cases h;show#[[],rfl,.nil]
 |[],_::_,l=>λ_ e _=>by lia
 |_::_,[],l=>λ_ e _=>by lia
 |z::zs,p::ps,l=>λr e h=>by let(k,h1,h2):=aij h;let(l',h3,h4):=aik h2;subst h4;let(v,r1,e1,g1,g2):=aR.inv (r);injection e1 with e1 e2;subst e1 e2;let(v',r2,e3,g3,g4):=g2.inv;injection e3 with e3 e4;subst e3 e4;let(kvs,e5,d):=Mh g4 ∅ h3;have ek:=uz h1 g1;show#[(k,p.2)::kvs,?_,.cons #[rfl,g3] d];lia
theorem il.merge:∀{l:PD}{kvs:List (Key×V)}{a:PD}{b:List (Key×V)},il K Z l kvs->il K Z a b->il K Z (kI l a) (mF b kvs)
 |_,_,_,_,.nil=>λh=>h
 |p::l,q::kvs,a,b,.cons h t=>λg=>by have:=il.merge t (g.put (k:=p.1) h.2);rw[h.1]at this;unfold kI;rw[h.1];show this
def afE(h:QPs X pos keys values d)(hall:keys.all (·.isSome)=true)(hl:keys.length=values.length)(h0:keys≠[])(h15:keys.length<=15):PE X (.Dict keys values pos) (tP X.K (Jc d)):=by
 let(trs,h1,h2):=h;show PE.imp (ab3 h1 hall hl h0 h15) λU H Q q=>?_;let(H0,Z0,Y,pd,l,Y',s,f,k):=q;let(z,e1,e2):=aij f;let(ll,e3,e4):=aij e2;split at e4
 . rename_i hlen;cases e4;intro p hp;have s1:SR X.K H0 Z0 U (upd H p (.dK [])) Y ((.ref p,.own (.dk [] []))::pd):=s.newO hp λZ _ _=>#[[],cQ,rfl,.nil];show h2 U _ _ #[H0,Z0,Y,_,z.1,z.2,s1,e1,λps H2 hps s2=>?_];let(el,Z,hg,zz,r,so):=s2.repl (by rw[Mf,Mg,hps]);let(kvs,ek,dd):=Mh r hps e3;have so2:=so.perm dh.symm;let(_,eb,(kvs0,hu,hk0,hr),_):=so2.1 _ aaV;cases eb;have hn:kvs0=[]:=by cases kvs0 with
    |nil=>rfl
    |cons a b=>lia
   subst hn;show#[hu,kvs,ek,by rw[dd.len];show hlen,k _ _ ?_];have dm:=dd.merge .nil;let(z',s'):=so2.write (q:=eO (kI ll [])) zz #[_,cQ,dm.keys,dm.vals];show .mk el hg z' s'
 . cases e4
def vf:EF:=λY=>!(.own (.dk [] []),Y)
def Qa:PE X (.Dict [] [] pos) (tP X.K vf):=PE.imp Zx λU H Q q=>by let(H0,Z0,Y,pd,l,Y',s,f,k):=q;cases f;show λp hp=>k _ _ (s.newO hp λZ _ _=>#[[],cQ,rfl,.nil])
def bO(f:EF):EF:=λY=>(f Y).bind λx=>match x.1.pv with
 |.ptr n=>match x.2.mu[n]? with
  |some (!(.lst ws))=>!(.sh (.int (ws.length:Nat)),x.2)
  |_=>none
 |p=>(Z5 p).map λl=>(l,x.2)
def jA(h:PE X (.Call (.Name x p) [e] [] pos) (Lr (λxs H Q=>∃x n,xs=[x]/\Zg X.K x H n/\Q (.int n) H) (jT X.K (aj f ao)))):PE X (.Call (.Name x p) [e] [] pos) (tP X.K (bO f)):=PE.imp h λU H Q q=>by
 let(H0,Z0,Y,pd,l,Y',s,ff,k):=q;let(y,h1,h2):=aij ff;show#[H0,Z0,Y,pd,[y.1],y.2,s,?_,λvs H1 e1 s1=>?_]
 . unfold aj ao;lia
 . let(v,rfl):=Gk e1;have s2:=SR.freeze s1;split at h2
   . rename_i n en;split at h2
     . rename_i ws em;cases h2;rw[en]at s2;let(a,rfl,s5):=s2.cellO em;let(_,Z,_,z,so):=s5.top;let(_,ea,(us,hu,hr),_):=so.1 _ aaV;cases ea;show#[.ref a,ws.length,rfl,.inl #[us,cW.of hu,hr.length.symm],k _ H1 (s2.pop.scal iD)]
     . cases h2
   . let(l',h3,h4):=aik h2;cases h4;show Xq H0 Z0 U y.2 pd H1 [v] [y.1.pv] _ Q rfl s2 h3 k
def bM:=zE (λ_ j=>decide (0<j/\j<18446744073709551616)) λi j=>.int (i/j)
def bU:lg K (rI aa2 λi j=>.int (i/j)) bM:=Ip (λi j h=>(of_decide_eq_true h:0<j/\j<18446744073709551616)) λ_ _ _=>iD _
end
open PySem.SeqAt
section
variable {X:Cx}
def Vx(n:Nat):PD->PD->Option Bool
 |[],_=>!true
 |kv::r,lb=>match bQ lb kv.1 with
  |none=>!false
  |some q=>(jk n kv.2 q).bind λe=>(Vx n r lb).map λc=>e&&c
def Jd(n:Nat)(la lb:PD):Option Bool:=if la.length=lb.length then Vx n la lb else !false
theorem Te(I:Inv X aki U H s)(hA:A.units+n<cLine)(rb:il X.K #[H,g] lb kb)(qb:KV kb vb):
 ∀{la:PD}{ka:List (Key×V)}{va:List (Key×Value)}{b:Bool},il X.K #[H,g] la ka->KV ka va->Vx n la lb=!b->W.KeqHits A s vb va b
 |_,_,va,b,.nil=>λqa h=>by cases h;cases (qa);show .nil
 |p::la,q::ka,va,b,.cons hpq t=>λqa h=>by
  cases (qa) with
  | @cons _ u _ vr e qr=>
   let(u1,u2):=u;have ek:p.1=u1:=hpq.1.trans e.1;unfold Vx at h;have rel:=qb.val p.1;cases hv:bQ lb p.1 with
   |none=>
    rw[hv]at h;cases h;rw[rb.val.2 hv]at rel;show .miss ?_;rw[<-ek];cases hx:valueAt vb p.1 with
    |none=>rfl
    |some y=>rw[hx]at rel;show rel.elim
   |some q'=>
    rw[hv]at h;let(e1,h1,h2):=aij h;let(c,h3,h4):=aik h2;subst h4;let(v',hv',rv'):=rb.val.1 q' hv;rw[hv']at rel;cases hx:valueAt vb p.1 with
    |none=>rw[hx]at rel;show rel.elim
    |some y=>
     rw[hx]at rel;show .hit ∅ (Iz I n hpq.2 rv' e.2 rel h1 A hA).1 (Te I hA rb qb t qr h3)
def aej(K:FG)(neg:Bool):R2:=λx y H Q=>∃g ks ps js qs b,Rep K #[H,g] (.dk ks ps) x/\Rep K #[H,g] (.dk js qs) y/\Jd 150 (ks.zip ps) (js.zip qs)=!b/\Q (.bl (if neg then not b else b)) H
def aek(I:Inv X aki U H s)(hA:X.A.in1.units+150<cLine)
 (r1:Rep X.K #[H,g] (.dk ks ps) x) (r2:Rep X.K #[H,g] (.dk js qs) y) (rx:RelV x v) (ry:RelV y u) (e:Jd 150 (ks.zip ps) (js.zip qs)=!b):
 ∃a a' va vb r,v=.ref a/\u=.ref a'/\(a==sysModules)=false/\(a'==sysModules)=false/\s.heap.DictOf (fH X.prog X.w) a va/\s.heap.DictOf (fH X.prog X.w) a' vb/\(va.length=vb.length->W.KeqHits X.A.in1 s vb va r)/\(va.length==vb.length&&r)=b:=by
 let(a,ka,rfl,h1,h2,h3):=r1;let(a',kb,rfl,h1',h2',h3'):=r2;cases rx;cases ry;let(_,d1,va,q1,dd1):=Ib I.hok h1;let(_,d2,vb,q2,dd2):=Ib I.hok h1';have ra:=lA h2 h3;have rb:=lA h2' h3';have la:va.length=(ks.zip ps).length:=by rw[<-q1.length,ra.len]
 have lb:vb.length=(js.zip qs).length:=by rw[<-q2.length,rb.len]
 unfold Jd at e;split at e
 . rename_i hl;show#[a,a',va,vb,b,rfl,rfl,d1,d2,dd1,dd2,λ_=>Te I hA rb q2 ra q1 e,?_];lia
 . rename_i hl;cases e;show#[a,a',va,vb,false,rfl,rfl,d1,d2,dd1,dd2,λz=>(hl ()).elim,by simp]
def ael(hr:rC k X.A):iB X (compareOp .Eq) (aej X.K false):=by
 intro aki s U H x y v u Q I rx ry h;let(g,ks,ps,js,qs,b,r1,r2,e,k'):=h;have hA:X.A.in1.units+150<cLine:=by have:=hr.un;show X.A.units+1+150<cLine;lia
 let(a,a',va,vb,r,rfl,rfl,d1,d2,dd1,dd2,hits,eb):=aek I hA r1 r2 rx ry e;show W.keq_eq d1 d2 dd1 dd2 (by have:=hr.un;lia) hits ?_;rw[eb];show#[.bl b,H,I,rfl,k']
def gm(p q:PV):Option Lc:=match p,q with
 |.dk ks ps,.dk js qs=>(Jd 150 (ks.zip ps) (js.zip qs)).map λb=>.sh (.bl b)
 |p,q=>eqP p q
def aem(K:FG)(neg:Bool):R2:=λx y H Q=>PB K neg x y H Q\/aej K neg x y H Q
def iu(hr:rC k X.A):iB X (compareOp .Eq) (aem X.K false):=(fj hr).or (ael hr)
def fX:lg K (aem K false) gm:=by
 intro H0 Z0 U Y pd H v w x y l Q s e k;unfold gm at e;split at e
 . let(b,e1,rfl):=aik e;let(g,r1,r2):=s.rep2H;show .inr #[g,_,_,_,_,b,r1,r2,e1,k _ H (s.pop.pop.scal gC)]
 . show .inl (fu H0 Z0 U Y pd H v w _ _ l Q s e k)
def ni(ps qs:List PV):List PV:=List.zipWith (λp q=>.tup [p,q]) ps qs
def aad{i:Nat}(h:(ni ps qs)[i]?=!x):∃p q,ps[i]?=!p/\qs[i]?=!q/\x=.tup [p,q]:=by
 unfold ni at h;rw[List.getElem?_zipWith]at h;cases h1:ps[i]? with
 |none=>lia
 |some p=>
  cases h2:qs[i]? with
  |none=>lia
  |some q=>lia
def aae:(ni ps qs).length=min ps.length qs.length:=by unfold ni;simp
end
end PL
namespace L2
open PySem PySem.Spec PyProof.Rows
variable {aki:List (Addr×Obj)}{E:Value->Shared->Prop}{s:Shared}{A:Around}{w:World}{P:Program}
section
variable {X:Cx}
end
end L2
namespace PL
open PySem PySem.Spec PyProof.Rows L2
variable {K:FG}{H0 H:Hp}{Z0:ZG}{U:L2.St}{Y:Ev}{pd:Pd}
section
variable {X:Cx}
section
variable {K:FG}{Z Z':ZG}
end
def SR.ext(s:SR K H0 Z0 U H Y pd)(hl:H l=none):SR K H0 Z0 U (upd H l o) Y pd:=by let(el,Z,hg,z,so):=s;let(z',lz,so'):=so.newF z hl;show#[el,Z.put l o,hg,z',so']
def Nx:SF:=λ_=>none
def Tf{st:Stmt}:PS X st (iT X.K Nx):=λaki s U H D I q=>by let(H0,Z0,Y,pd,fl,s,h,k):=q;cases h
abbrev FD:=List (Str×PV)
def uR:FD->Str->Option PV
 |[],_=>none
 |kv::r,k=>if kv.1=k then !kv.2 else uR r k
noncomputable def sW(f:Str)(p:PV):FD->FD
 |[]=>[(f,p)]
 |kv::r=>if kv.1=f then (kv.1,p)::r else kv::sW f p r
def bW(C:Str)(l:FD):PV:=.obj C (l.map (·.1)) (l.map (·.2))
def sX(K:FG)(Z:ZG):FD->List (Str×V)->Prop:=Paired λp q=>p.1=q.1/\Rep K Z p.2 q.2
section
variable {K:FG}{Z Z':ZG}
theorem Ka:∀{kvs:List (Str×V)}{ks:List Str}{ps:List PV},kvs.map (·.1)=ks->aR K Z ps (kvs.map (·.2))->sX K Z (ks.zip ps) kvs
 |[],ks,ps=>λh1 h2=>by subst h1;show .nil
 |kv::r,ks,ps=>λh1 h2=>by
  subst h1;cases ps with
  |nil=>have:=h2.inv0;lia
  |cons p ps=>
   let(v,r',e,h3,h4):=h2.inv;injection e with e1 e2;subst e1 e2;show .cons #[rfl,h3] (Ka rfl h4)
theorem sX.keys:∀{l:FD}{kvs:List (Str×V)},sX K Z l kvs->kvs.map (·.1)=l.map (·.1)
 |_,_,.nil=>rfl
 |_,_,.cons h t=>by rw[af8,af8,h.1,sX.keys t]
theorem sX.vals:∀{l:FD}{kvs:List (Str×V)},sX K Z l kvs->aR K Z (l.map (·.2)) (kvs.map (·.2))
 |_,_,.nil=>.nil
 |_,_,.cons h t=>aR.cons h.2 (sX.vals t)
theorem sX.look:∀{l:FD}{kvs:List (Str×V)},sX K Z l kvs->(∀p,uR l f=!p->∃v,kvs.lookup f=!v/\Rep K Z p v)/\(uR l f=none->kvs.lookup f=none)
 |_,_,.nil=>#[λp h=>(by cases h),λ_=>rfl]
 |p::l,q::kvs,.cons h t=>by
  have ih:=sX.look (f:=f) t;have e0:(q::kvs).lookup f=if f=q.1 then !q.2 else kvs.lookup f:=by
   let(q1,q2):=q;rw[ag0];by_cases e:f=q1
   . lia
   . lia
  rw[e0];by_cases e:p.1=f
  . have e':f=q.1:=by rw[<-h.1];show e.symm
    rw[aic e'];show#[λx hx=>#[q.2,rfl,?_],λhx=>?_]
    . unfold uR at hx;lia
    . unfold uR at hx;lia
  . have e':¬ f=q.1:=by rw[<-h.1];show λz=>e z.symm
    rw[aid e'];unfold uR;lia
theorem sX.put(r:Rep K Z p v):∀{l:FD}{kvs:List (Str×V)},sX K Z l kvs->sX K Z (sW f p l) (lu f v kvs)
 |_,_,.nil=>.cons #[rfl,r] .nil
 |a::l,b::kvs,.cons h t=>by
  let(b1,b2):=b;unfold sW lu;by_cases e:a.1=f
  . rw[aic e,aic ∅];show .cons #[h.1,r] t
  . rw[aid e,aid ∅];show .cons h (sX.put r t)
end
structure yR(K:FG)(mg:Str->Option Value)(C:Str)(c:Addr):Prop where
 cn:CN K C c
 cl:Dn K c
 mgC:mg C=!(.ref c)
def Vy(h:CN K C c)(g:CN K C d):c=d:=by have:(!(!(Value.ref c)))=!(!(.ref d)):=h.symm.trans g;lia
def cj(C f:Str)(fo:EF):EF:=λY=>(fo Y).bind λx=>match x.1.pv with
 |.ptr n=>match x.2.mu[n]? with
  |some (!(.obj D ks ps))=>if D=C then (uR (ks.zip ps) f).map λp=>(.sh p,x.2) else none
  |_=>none
 |_=>none
def SR.cellB{pd pe:Pd}(hm:Y.mu[n]?=!(!p))(s:SR K H0 Z0 U H #[Y.vs,Y.mu.set n none] ((.ref a,.own p)::(.ref a,.sh (.ptr n))::pd)):SR K H0 Z0 U H Y pd:=by
 have hn:=(adP.mp hm).1;have s8:=s.cellP ∅;have e8:(Y.mu.set n none).set n (!p)=Y.mu:=by rw[ahd];show ail hm
 have s9:=s8;rw[e8]at s9;show s9
def SR.objAt(s:SR K H0 Z0 U H Y ((v,.sh (.ptr n))::pd))(hm:Y.mu[n]?=!(!(.obj C ks ps))):
 ∃a c dx fs,v=.ref a/\CN K C c/\H a=!(.ins c dx fs)/\fs.map (·.1)=ks/\(∀f p,uR (ks.zip ps) f=!p->∃u,fs.lookup f=!u/\SR K H0 Z0 U H Y ((u,.sh p)::(v,.sh (.ptr n))::pd))/\∀f,uR (ks.zip ps) f=none->fs.lookup f=none:=by
 have sdup:=s.part λZ _ r=>r;let(a,rfl,s5):=sdup.cellO hm;let(el,Z,hg,z,so):=s5.top;let(_,ea,(c,dx,fs,cn,hu,hk,hr),_):=so.1 _ aaV;cases ea;have rf:=Ka hk hr;show#[a,c,dx,fs,rfl,cn,hu,hk,λf p hl=>?_,λf hl=>rf.look.2 hl];let(u,h1,h2):=rf.look.1 p hl;show#[u,h1,?_];have s6:SR K H0 Z0 U H #[Y.vs,Y.mu.set n none] ((u,.sh p)::(.ref a,.own (.obj C ks ps))::(.ref a,.sh (.ptr n))::(.ref a,.sh (.ptr n))::pd):=.mk el hg z ((so.perm dh).consS h2);have s7:=s6.perm (((List.Perm.swap _ _ _).cons _).trans (List.Perm.swap _ _ _));show SR.cellB (pe:=pd) hm s7
def iy(T:yR X.K X.mg C c)(na:mD X.K c f)(ho:PE X o (tP X.K fo))(hb:attributeBase o f X.env (eval o X.env)=eval o X.env:=by rfl):PE X (.Attribute o f pos) (tP X.K (cj C f fo)):=PE.imp (adF ho hb) λU H Q q=>by
 let(H0,Z0,Y,pd,l,Y',s,h,k):=q;let(x,h1,h2):=aij h;show#[H0,Z0,Y,pd,x.1,x.2,s,h1,λv H1 s1=>?_];split at h2
 . rename_i n en;split at h2
   . rename_i D ks ps em;split at h2
     . rename_i eD;subst eD;let(p,h3,h4):=aik h2;cases h4;have s2:=s1.freeze;rw[en]at s2;let(a,c',dx,fs,rfl,cn,hH,hk,hl,_):=s2.objAt em;have:=Vy T.cn cn;subst this;let(u,h5,s6):=hl f p h3;show#[a,c,dx,fs,u,rfl,hH,T.cl,na,h5,k u H1 (s6.sub ((adQ _ _).cons_cons _))]
     . cases h2
   . cases h2
 . cases h2
def iM(C f:Str)(fo fv:EF):SF:=λY=>(fv Y).bind λy=>(fo y.2).bind λx=>match x.1.pv with
 |.ptr n=>match x.2.mu[n]? with
  |some (!(.obj D ks ps))=>if D=C/\ks.length<1000 then !(.nx #[x.2.vs,x.2.mu.set n (!(bW C (sW f y.1.pv (ks.zip ps))))]) else none
  |_=>none
 |_=>none
def lB(T:yR X.K X.mg C c)(na:mD X.K c f)(ho:PE X o (tP X.K fo))(hv:PE X value (tP X.K fv))(hs:swapsWith value (!(.Attribute o f pos')) pos.line X.env=pure false:=by rfl):PS X (.Assign [.Attribute o f pos'] value pos) (iT X.K (iM C f fo fv)):=PS.imp (adG ho hv hs) λD U H q=>by
 let(H0,Z0,Y,pd,fl,s,h,k):=q;let(y,h1,h2):=aij h;let(x,h3,h4):=aij h2;show#[H0,Z0,Y,pd,y.1,y.2,s,h1,λv H1 s1=>#[H0,Z0,y.2,_,x.1,x.2,s1.freeze,h3,λw H2 s2=>?_]];split at h4
 . rename_i n en;split at h4
   . rename_i D' ks ps em;split at h4
     . rename_i eD;let(eD,hz):=eD;subst eD;cases h4;have s3:=s2.freeze;rw[en]at s3;let(a,rfl,s5):=s3.cellO em;have s6:=s5.perm ((List.Perm.swap _ _ _).trans ((List.Perm.swap _ _ _).cons _));let(el,Z,hg,z,r,so):=s6.sh;have so2:=so.perm dh.symm;let(_,eb,(c',dx,fs,cn,hu,hk,hr),_):=so2.1 _ aaV;cases eb;have:=Vy T.cn cn;subst this;have rf:=Ka hk hr;have rp:=rf.put (f:=f) r;have hlen:fs.length=ks.length:=by rw[<-hk,aaW]
       show#[a,c,dx,fs,rfl,hu,T.cl,na,(),k U _ ?_];let(z',s'):=so2.write (q:=bW D' (sW f y.1.pv (ks.zip ps))) z #[c,dx,lu f v fs,cn,cQ,rp.keys,rp.vals];have s7:SR X.K H0 Z0 U (upd H2 a (.ins c dx (lu f v fs))) #[x.2.vs,x.2.mu.set n none] ((.ref a,.own (bW D' (sW f y.1.pv (ks.zip ps))))::(.ref a,.sh (.ptr n))::pd):=.mk el hg z' s';have hn:=(adP.mp em).1;have s8:=s7.cellP ∅;have e8:(x.2.mu.set n none).set n (!(bW D' (sW f y.1.pv (ks.zip ps))))=x.2.mu.set n (!(bW D' (sW f y.1.pv (ks.zip ps)))):=ahd ..;lia
     . cases h4
   . cases h4
 . cases h4
end
section
variable {P:Program}{w:World}{K:FG}{mg:Str->Option Value}{base:Heap}
def qN(K:FG)(c:Addr)(m qual:Str)(st:Stmt)(ps:List Str):Prop:=∃f fd,ye K m qual st f fd/\W.findIn K (.ref c) m=!(!(.ref f))/\W.isFn K (.ref f)=true/\Binds K fd ps []
def qy(P:Program)(w:World)(K:FG)(mg:Str->Option Value)(base:Heap)(c:Addr)(m:Str)(k:Nat)(ps:List Str)(sp:Sp):Prop:=∃f fd,rD P w K mg base uf k f fd ps sp/\Meth K c m f/\Binds K fd ps []
def ye.okQ{st:Stmt}(F:ye K x qual st f fd)(S:bw N ps (aK st))
 (h:∀(cdv:Value)(A:Around)(outer:List PySem.Env)(s:Shared)(H:Hp)(E:XK),rC k (A.deeper (envOfC qual (aK st) s.heap.objs.size f cdv))->
   ∃g':SF,(∀a mu,g a mu=cV N.length g' a mu)/\kZ (Zn uf P w K mg base N qual (aK st) f cdv A outer s H E).nox (lw st) (iT K g')):rD P w K mg base uf (k+1) f fd ps (cR K ps.length g):=by
 show F.ok S (λvs H Q E q=>?_) (λcdv A outer s H vs Q E hr q=>?_)
 . let(Z,qs,mu,r,mu',e,_):=q;show e
 . let(g',eg,b):=h cdv A outer s H E hr;let(Z,qs,mu,r,mu',e,hg,z,rl,c,hr',kk):=q;rw[eg]at hr';let(fl,h1,h2):=aij hr';show#[_,b,pI H (wV Z.g mu),Z,_,[],fl,G3 hg z rl c,h1,?_];cases fl with
   |rt r' Y'=>
    cases h2;intro v U' H' s';let(el,Z',hg',z',s''):=s'.top;show kk v H' #[Z',hg',z',s''.sub ?_];show(ag9 _ _).cons_cons _
   |nx Y'=>
    cases h2;intro U' H' s';let(el,Z',hg',z',s''):=s';show kk .non H' #[Z',hg',z',(s''.sub (ag9 _ _)).consS (zB _)]
   |bk Y'=>cases h2
   |ct Y'=>cases h2
def qN.ok{st:Stmt}(F:qN K c m qual st ps)(S:bw N ps (aK st))
 (h:∀(f:Addr)(cdv:Value)(A:Around)(outer:List PySem.Env)(s:Shared)(H:Hp)(E:XK),rC k (A.deeper (envOfC qual (aK st) s.heap.objs.size f cdv))->
   ∃g':SF,(∀a mu,g a mu=cV N.length g' a mu)/\kZ (Zn uf P w K mg base N qual (aK st) f cdv A outer s H E).nox (lw st) (iT K g')):qy P w K mg base c m (k+1) ps (cR K ps.length g):=by
 let(f,fd,F,h1,h2,hb):=F;show#[f,fd,ye.okQ F S (h f),#[h1,h2,F.kp],hb]
end
section
variable {X:Cx}
def bJ(C m:Str)(g:GF)(fo:EF)(a:AF):EF:=λY=>(fo Y).bind λx=>match x.1.pv with
 |.ptr n=>match x.2.mu[n]? with
  |some (!(.obj D ks _))=>if D=C/\ks.contains m=false then (a x.2).bind λy=>(g (.ptr n::y.1.map Lc.pv) y.2.mu).map λr=>(r.1,#[y.2.vs,r.2]) else none
  |_=>none
 |_=>none
def pK:∀{fs:List (Str×V)},(fs.map (·.1)).contains m=false->fs.lookup m=none
 |[],_=>rfl
 |(g,x)::r,h=>by rw[af8,List.contains_cons,Bool.or_eq_false_iff]at h;rw[ag0,h.1];show pK h.2
def Qc(T:yR X.K X.mg C c)(hn:∀Y ls Y1,a Y=!(ls,Y1)->ls.length+1=n'):∀U H Q,tP X.K (bJ C m g fo a) U H Q->Vk c m (cR X.K n' g) [] E (tP X.K fo) (jT X.K a) U H Q:=λU H Q q=>by
 let(H0,Z0,Y,pd,l,Y',s,h,k):=q;let(x,h1,h2):=aij h;show#[H0,Z0,Y,pd,x.1,x.2,s,h1,λv H1 s1=>?_];split at h2
 . rename_i n en;split at h2
   . rename_i D ks ps em;split at h2
     . rename_i eD;let(eD,hk):=eD;subst eD;let(y,h3,h4):=aij h2;let(r,h5,h6):=aik h4;cases h6;have s2:=s1.freeze;rw[en]at s2;let(a',c',dx,fs,rfl,cn,hH,hks,_,_):=s2.objAt em;have:=Vy T.cn cn;subst this;show#[a',dx,fs,rfl,hH,pK (by rw[hks];show hk),H0,Z0,x.2,_,y.1,y.2,s2,h3,λvs H2 e2 s3=>?_];have s4:SR X.K H0 Z0 U H2 y.2 ((V.ref a'::vs).zip (Lc.sh (.ptr n)::y.1)++pd):=s3.perm (by rw[ahg,ahm];show ag1.symm)
       let(el,Z,hg,z,rl,sl'):=s4.repl (by rw[aa9,aa9,e2]);show#[Z,.ptr n::y.1.map Lc.pv,y.2.mu,r.1,r.2,?_,hg,z.zh,?_,sl'.cells hg,h5,λv H' rr=>k v H' (SR.called el hg z sl' rr)]
       . rw[abv,aa9,e2];show hn _ _ _ h3
       . rw[abv];show rl
     . cases h2
   . cases h2
 . cases h2
def f9{apos pos:Pos}{pl:Sem Bool}(T:yR X.K X.mg C c)(M:qy X.prog X.w X.K X.mg X.base c m k ps (cR X.K ps.length g))(hr:rC k X.A)(ho:PE X o (tP X.K fo))(ha:PA X (e::es) (jT X.K a))(hn:∀Y ls Y1,a Y=!(ls,Y1)->ls.length+1=ps.length)
 (hst:starEach (e::es) X.env=(false,eval e X.env)::starEach es X.env:=by rfl) (hpl:(backTo pos (starEach es X.env)).any (·.1)=false:=by rfl)
 (ht:eval (.Call (.Attribute o m apos) (e::es) [] pos) X.env=(do
   let ov <-eval o X.env
   standAt apos.atName
   let (f,first) <-holding [ov] (getMethod ov m pl)
   callWith pos f first (backTo pos (starEach (e::es) X.env)) (backToKw pos (keywordEach [] X.env))):=by rfl):PE X (.Call (.Attribute o m apos) (e::es) [] pos) (tP X.K (bJ C m g fo a)):=by
 let(f,fd,F,hm,hb):=M
 show PE.imp (abU ho T.cl hm F hr hb .nil Ia ha hst hpl ht) (Qc T hn)
def Qd(T:yR X.K X.mg C c)(M:qy X.prog X.w X.K X.mg X.base c m k ps (cR X.K ps.length g))(hr:rC k X.A)(ho:PE X o (tP X.K fo))(hn:1=ps.length)
 (ht:eval (.Call (.Attribute o m apos) [] [] pos) X.env=(do
   let ov <-eval o X.env
   standAt apos.atName
   let (f,first) <-holding [ov] (getMethod ov m pl)
   callWith pos f first (backTo pos (starEach [] X.env)) (backToKw pos (keywordEach [] X.env))):=by rfl):PE X (.Call (.Attribute o m apos) [] [] pos) (tP X.K (bJ C m g fo ao)):=by
 let(f,fd,F,hm,hb):=M
 show PE.imp (Zk ho T.cl hm F hr hb .nil Ia ht) λU H Q q=>?_
 have:=Qc (E:=E0) (n':=ps.length) T (λY ls Y1 h=>by cases h;rw[<-hn];rfl) U H Q q
 let(H0,Z0,Y,pd,l,Y',s,h,k):=this
 show#[H0,Z0,Y,pd,l,Y',s,h,λv H1 s1=>?_]
 let(a,dx,fs,e1,e2,e3,H0',Z0',Y2,pd2,ls,Y3,s2,h2,k2):=k v H1 s1
 cases h2
 show#[a,dx,fs,e1,e2,e3,k2 [] H1 rfl s2]
def SR.toCell(s:SR K H0 Z0 U H Y ((.ref a,.own p)::pd)):SR K H0 Z0 U H #[Y.vs,Y.mu++[!p]] ((.ref a,.sh (.ptr Y.mu.length))::pd):=by
 let(el,Z,hg,z,so):=s.top;have lz:jr Z #[Z.z,Z.g++[a]]:=#[fM.refl _,ahP _ _];have so2:=so.step lz λe he b hb=>#[rfl,(km so he hb).1];show .mk (Z:=#[Z.z,Z.g++[a]]) el ∅ #[z.zh,z.h0,z.z0.trans lz,z.new] (Slots.consS ?_ ?_)
 . show so2.perm ?_;have ec:cel (Z.g++[a]) (Y.mu++[!p])=cel Z.g Y.mu++[(!(.ref a),!(.own p))]:=by unfold cel;rw[ady,ady,ahn ∅];rfl
   show List.Perm (cel (Z.g++[a]) (Y.mu++[!p])++_) _;rw[ec,aba];show ag1
 . show#[a,rfl,by show (Z.g++[a])[Y.mu.length]?=!a;rw[hg,aby ()];simp]
def yp(C:Str)(g:GF)(a:AF):EF:=λY=>(a Y).bind λy=>(g (.ptr y.2.mu.length::y.1.map Lc.pv) (y.2.mu++[!(.obj C [] [])])).bind λr=>match r.1 with
 |.sh .non=>!(.sh (.ptr y.2.mu.length),#[y.2.vs,r.2])
 |_=>none
def Vz(P:Program)(w:World)(K:FG)(mg:Str->Option Value)(base:Heap)(c:Addr)(k:Nat)(ps:List Str)(sp:Sp):Prop:=∃f fd,rD P w K mg base uf k f fd ps sp/\Mk K c f/\Binds K fd ps []
def aaf(T:yR X.K X.mg C c)(hn:∀Y ls Y1,a Y=!(ls,Y1)->ls.length+1=n'):∀U H Q,tP X.K (yp C g a) U H Q->aaX c (cR X.K n' g) [] E (jT X.K a) U H Q:=λU H Q q=>by
 let(H0,Z0,Y,pd,l,Y',s,h,k):=q;let(y,h1,h2):=aij h;let(r,h3,h4):=aij h2;split at h4
 . rename_i er;cases h4;show#[H0,Z0,Y,pd,y.1,y.2,s,h1,λvs H1 e1 s1 x dx hx hdx hne=>?_];have s2:SR X.K H0 Z0 U (upd H1 dx (.own x)) y.2 (vs.zip y.1++pd):=s1.ext hdx;have s3:SR X.K H0 Z0 U (upd (upd H1 dx (.own x)) x (.ins c dx [])) y.2 ((.ref x,.own (.obj C [] []))::(vs.zip y.1++pd)):=s2.newO (by rw[dC hne.symm];show hx) λZ _ _=>#[c,dx,[],T.cn,cQ,rfl,.nil];have s4:=s3.toCell;have s5:=s4.part λZ _ r=>r;have s6:SR X.K H0 Z0 U (upd (upd H1 dx (.own x)) x (.ins c dx [])) #[y.2.vs,y.2.mu++[!(.obj C [] [])]] ((V.ref x::vs).zip (Lc.sh (.ptr y.2.mu.length)::y.1)++(.ref x,.sh (.ptr y.2.mu.length))::pd):=s5.perm (by rw[ahg,ahm];show List.perm_middle.cons _)
   let(el,Z,hg,z,rl,sl'):=s6.repl ∅;show#[Z,.ptr y.2.mu.length::y.1.map Lc.pv,y.2.mu++[!(.obj C [] [])],r.1,r.2,?_,hg,z.zh,?_,sl'.cells hg,h3,λv H' rr=>?_]
   . lia
   . rw[abv];show rl
   . have s7:=SR.called el hg z sl' rr;rw[er]at s7;let(_,r0):=s7.repH;show#[jG r0,k _ _ s7.pop]
 . cases h4
def abb{p pos:Pos}(T:yR X.K X.mg C c)(M:Vz X.prog X.w X.K X.mg X.base c k ps (cR X.K ps.length g))(hr:rC (k+1) X.A)(hg:Gl X C)(ha:PA X (e::es) (jT X.K a))(hn:∀Y ls Y1,a Y=!(ls,Y1)->ls.length+1=ps.length)
 (hdb:(C==("__debug__" : Str))=false:=by decide) (he:starEach (e::es) X.env=(false,eval e X.env)::starEach es X.env:=by rfl) (hpl:(backTo pos (starEach es X.env)).any (·.1)=false:=by rfl):PE X (.Call (.Name C p) (e::es) [] pos) (tP X.K (yp C g a)):=by
 let(f,fd,F,hm,hb):=M;show PE.imp (abV hm F hr hg T.mgC hb .nil Ia ha hdb he hpl) (aaf T hn)
end
def eE{a:AF}(h:∀Y ls Y1,a Y=!(ls,Y1)->ls.length=n)(e:n+1=m:=by rfl):∀Y ls Y1,a Y=!(ls,Y1)->ls.length+1=m:=λY ls Y1 g=>by rw[h _ _ _ g,e]
def abd(h:qy P w K mg base c "__init__" k ps sp)(mk:W.makesIn K c=true)(kc:W.keepIn K (.ref c)=true):Vz P w K mg base c k ps sp:=by let(f,fd,F,m,b):=h;show#[f,fd,F,#[mk,m.at_,m.fn,kc],b]
end PL
namespace L2
open PySem PySem.Spec PyProof.Rows
variable {aki:List (Addr×Obj)}{E:Value->Shared->Prop}{s:Shared}{A:Around}{w:World}{P:Program}
section
variable {X:Cx}
end
end L2
namespace PL
open PySem PySem.Spec PyProof.Rows L2
variable {K:FG}{H0 H:Hp}{Z0:ZG}{U:L2.St}{Y:Ev}{pd:Pd}
section
variable {X:Cx}
def SR.wrO{f:List V->List V}(hf:∀{Z us},aR K Z ws us->aR K Z ws' (f us))
 (s:SR K H0 Z0 U H Y ((.ref a,.own (.lst ws))::pd)):∃us,H a=!(.lst us)/\SR K H0 Z0 U (upd H a (.lst (f us))) Y ((.ref a,.own (.lst ws'))::pd):=by
 let(el,Z,hg,z,so):=s.top;let(b,eb,(us,hu,hr),_):=so.1 _ aaV;cases eb;show#[us,hu,?_];let(z',s'):=so.write (q:=.lst ws') z #[f us,cQ,hf hr];show .mk el hg z' s'
end
end PL
namespace L2
open PySem PySem.Spec PyProof.Rows
variable {aki:List (Addr×Obj)}{E:Value->Shared->Prop}{s:Shared}{A:Around}{w:World}{P:Program}
section
variable {X:Cx}
def pk{α:Type}(xs:List α)(lo hi st:Option Int):List α:=
 (sliceRange (sliceBounds lo hi st xs.length).1 (sliceBounds lo hi st xs.length).2.1 (sliceBounds lo hi st xs.length).2.2).filterMap λi=>xs[i]?
end
end L2
namespace PL
open PySem PySem.Spec PyProof.Rows L2
variable {K:FG}{H0 H:Hp}{Z0:ZG}{U:L2.St}{Y:Ev}{pd:Pd}
section
variable {X:Cx}
def SR.lstAt(s:SR K H0 Z0 U H Y ((v,.sh (.ptr n))::pd))(hm:Y.mu[n]?=!(!(.lst ps))):
 ∃a vs,v=.ref a/\H a=!(.lst vs)/\vs.length=ps.length/\∀(i:Nat) p,ps[i]?=!p->∃u,vs[i]?=!u/\SR K H0 Z0 U H Y ((u,.sh p)::(v,.sh (.ptr n))::pd):=by
 have sdup:=s.part λZ _ r=>r;let(a,rfl,s5):=sdup.cellO hm;let(el,Z,hg,z,so):=s5.top;let(_,ea,(vs,hu,hr),_):=so.1 _ aaV;cases ea;show#[a,vs,rfl,hu,hr.length,λi p hp=>?_];let(u,h1,h2):=hr.get hp;show#[u,h1,?_];have s6:SR K H0 Z0 U H #[Y.vs,Y.mu.set n none] ((u,.sh p)::(.ref a,.own (.lst ps))::(.ref a,.sh (.ptr n))::(.ref a,.sh (.ptr n))::pd):=.mk el hg z ((so.perm dh).consS h2);have s7:=s6.perm (((List.Perm.swap _ _ _).cons _).trans (List.Perm.swap _ _ _));show SR.cellB (pe:=pd) hm s7
abbrev IFC:=Ev->Option (Option Nat×List PV×Ev)
def ag5(f:EF):IFC:=λY=>(f Y).bind λx=>match x.1.pv with
 |.lst ps=>!(none,ps,x.2)
 |.ptr n=>match x.2.mu[n]? with
  |some (!(.lst ps))=>!(!n,ps,x.2)
  |_=>none
 |_=>none
noncomputable def sealV(i:Nat)(Y:Ev):Option Ev:=match Y.vs[i]? with
 |some (!(.own p))=>!#[Y.vs.set i (!(.sh (.ptr Y.mu.length))),Y.mu++[!p]]
 |_=>none
def sY(i:Nat)(f:SF):SF:=λY=>(sealV i Y).bind f
def SR.sealV(s:SR K H0 Z0 U H Y pd)(h:PL.sealV i Y=!Y'):SR K H0 Z0 U H Y' pd:=by
 unfold PL.sealV at h;split at h
 . rename_i p e0;cases h;let(v,ea,s1):=s.take e0;let(_,Z,_,z,so):=s1.top;let(a,eb,_):=so.1 _ aaV;have eb':v=.ref a:=af7 eb;subst eb';have s2:=s1.toCell.put ea;have e:(Y.vs.set i none).set i (!(Lc.sh (.ptr Y.mu.length)))=Y.vs.set i (!(.sh (.ptr Y.mu.length))):=ahd _;have s3:SR K H0 Z0 U H #[(Y.vs.set i none).set i (!(Lc.sh (.ptr Y.mu.length))),Y.mu++[!p]] pd:=s2;rw[e]at s3;show s3
 . cases h
def Kc{st:Stmt}(h:PS X st (iT X.K f)):PS X st (iT X.K (sY i f)):=PS.imp h λD U H q=>by let(H0,Z0,Y,pd,fl,s,h,k):=q;let(Y1,h1,h2):=aij h;show#[H0,Z0,Y1,pd,fl,s.sealV h1,h2,k]
end
noncomputable def aU(mu:Mu):Nat->PV->PV
 |0,p=>p
 |k+1,.ptr n=>match mu[n]? with
  |some (!p)=>aU mu k p
  |_=>.ptr n
 |k+1,.tup ps=>.tup (ps.map (aU mu k))
 |k+1,.lst ps=>.lst (ps.map (aU mu k))
 |k+1,.dk ks ps=>.dk ks (ps.map (aU mu k))
 |_+1,p=>p
theorem pL(hf:∀p x,Rep K Z p x->Rep K Z (f p) x):∀{ps:List PV}{vs:List V},aR K Z ps vs->aR K Z (ps.map f) vs
 |[],vs=>λh=>h
 |p::ps,vs=>λh=>by let(v,r,rfl,h1,h2):=h.inv;show aR.cons (hf p v h1) (pL hf h2)
theorem rJ(so:Slots K H0 Z H (sl Z.g U Y pd))(lz:jr Z #[H,Z.g]):∀(k:Nat)(p:PV)(x:V),Rep K #[H,Z.g] p x->Rep K #[H,Z.g] (aU Y.mu k p) x
 |0=>λp x r=>r
 |k+1=>λp x r=>by
  cases p with
  |ptr n=>
   show Rep K #[H,Z.g] (match Y.mu[n]? with |some (!p)=>aU Y.mu k p |_=>.ptr n) x;split
   . rename_i q hq;let(a,rfl,ha):=r;have hc:(!(V.ref a),!(Lc.own q))∈cel Z.g Y.mu:=ag2 (zip_get (by rw[af9,ha];rfl) ∅);let(b,e1,e2,_):=so.1 _ (agW _ hc);cases e1;show rJ so lz k q _ (e2.rep lz rfl)
   . show r
  |tup ps=>
   let(a,vs,e,h1,h2):=r;show#[a,vs,e,h1,pL (rJ so lz k) h2]
  |lst ps=>
   let(a,vs,e,h1,h2):=r;show#[a,vs,e,h1,pL (rJ so lz k) h2]
  |dk ks ps=>
   let(a,vs,e,h1,h3,h2):=r;show#[a,vs,e,h1,h3,pL (rJ so lz k) h2]
  |_=>show r
def peekD(mu:Mu):Option Lc->Option Lc
 |some l=>!(.sh (aU mu 40 l.pv))
 |none=>none
def Ev.peekD(Y:Ev):Ev:=#[Y.vs.map (PL.peekD Y.mu),Y.mu.map λ_=>none]
def SR.lookD(s:SR K H0 Z0 U H Y pd):
 ∃Zt,SR K H Zt U H Y.peekD []/\(∀H' v r Y1,SR K H Zt U H' Y1 [(v,r)]->uQ r=true->SR K H0 Z0 U H' Y ((v,r)::pd))/\∀H' Y1,SR K H Zt U H' Y1 []->SR K H0 Z0 U H' Y pd:=by
 let(Z,(el,hg,lz,so),b1,b2):=s.lookB;show#[_,SR.peeked el hg λv o he=>?_,b1,b2];have q:=so.1 _ (agi _ (agW _ he))
 match o,q with
 |none,_=>show .inl rfl
 |some (.sh p),#[x,e1,e2]=>show .inr #[x,_,rfl,e1,rJ so lz 40 _ _ (e2.mono lz)]
 |some (.own p),#[a,e1,e2,_]=>show .inr #[.ref a,_,rfl,e1,rJ so lz 40 _ _ (e2.rep lz rfl)]
section
variable {X:Cx}
def sZ(f:EF):EF:=λY=>(f Y.peekD).bind λx=>if uQ x.1=true then !(x.1,Y) else none
def lL(f:TF):TF:=λY=>(f Y.peekD).map λx=>(x.1,Y)
def Qe(h:PE X e (tP X.K f)):PE X e (tP X.K (sZ f)):=PE.imp h λU H Q q=>by
 let(H0,Z0,Y,pd,r,Y',s,h,k):=q;let(x,h1,h2):=aij h;let(Zt,s1,b1,_):=s.lookD;split at h2
 . rename_i hf;cases h2;show#[H,Zt,Y.peekD,[],x.1,x.2,s1,h1,λv H' s2=>k v H' (b1 H' v x.1 x.2 s2 hf)]
 . cases h2
def Aa(h:PT X e (jF X.K f)):PT X e (jF X.K (lL f)):=PT.imp h λU H Q q=>by let(H0,Z0,Y,pd,r,Y',s,h,k):=q;let(x,h1,h2):=aik h;cases h2;let(Zt,s1,_,b2):=s.lookD;show#[H,Zt,Y.peekD,[],x.1,x.2,s1,h1,λH' s2=>k H' (b2 H' x.2 s2)]
def Hd(h:f Y.peekD=!(l,Y1))(hf:uQ l=true):sZ f Y=!(l,Y):=by unfold sZ;rw[h,aaS,aic hf]
def vY(fo:EF):EF:=λY=>(fo Y).bind λo=>match o.1.pv with
 |.ptr n=>match o.2.mu[n]? with
  |some (!(.lst ws))=>(ws[ws.length-1]?).map λp=>(.sh p,#[o.2.vs,o.2.mu.set n (!(.lst ws.dropLast))])
  |_=>none
 |_=>none
def VB(h:PE X (.Call (.Attribute o "pop" apos) [] [] cpos) (Zq X.K "list" adR (tP X.K fo))):PE X (.Call (.Attribute o "pop" apos) [] [] cpos) (tP X.K (vY fo)):=PE.imp h λU H Q q=>by
 let(H0,Z0,Y,pd,r,Y',s,h,k):=q;let(o',h1,h2):=aij h;show#[H0,Z0,Y,pd,o'.1,o'.2,s,h1,λv H1 s1=>?_];split at h2
 . rename_i n en;split at h2
   . rename_i ws em;let(p,h3,h4):=aik h2;cases h4;have s2:=s1.freeze;rw[en]at s2;let(a,rfl,s5):=s2.cellO em;let(_,Z,_,z,so):=s5.top;let(_,ea,(us,hu,_),_):=so.1 _ aaV;cases ea;let(us2,y,hu2,hy,s6):=s5.popO h3;have hn:=(adP.mp em).1;have s7:=(s6.perm ((List.Perm.swap _ _ _).cons _)).cellP ∅;show#[.inl #[rfl,us,cW.of hu],a,us2,y,rfl,rfl,hu2,hy,k _ _ ?_];have e8:(o'.2.mu.set n none).set n (!(.lst ws.dropLast))=o'.2.mu.set n (!(.lst ws.dropLast)):=ahd ..;lia
   . cases h2
 . cases h2
def aag:sH K H0 Z0 ((.ref a,.sh (.lst ps))::pd) (Itv K a ps.length) ps.reverse:=by
 intro U H Y i s;let(Z,z,r):=s.rep;let(b,vs,e,h1,h2):=r;cases e;have hq:=cW.same z h1;show#[λx hx=>?_,λhl=>#[by rw[hl,ahE],vs,hq,h2.length]];have hi:i<ps.length:=by
  have:=(adP.mp hx).1
  lia
 have hx':ps[ps.length-1-i]?=!x:=by rw[<-List.getElem?_reverse hi];show hx
 show#[#[hi,vs,hq,h2.length],λv' H' y=>?_];let(e',y):=y;subst e';show s.part λZ' z' r'=>?_;let(b',vs',e',h1',h2'):=r';cases e';let(p',hp',rp'):=h2'.getV (y vs' (cW.same z' h1'));lia
def Ny(f:EF):IF:=λY=>(f Y).bind λx=>match x.1.pv with
 |.lst ps=>!(ps.reverse,x.2)
 |_=>none
def aen(hg:Gl X "reversed")(hm:X.mg "reversed"=none)(ha:PA X [a] (jT X.K (aj f ao)))(hs:starEach [a] X.env=[(false,eval a X.env)]:=by rfl):PI X tg (.Call (.Name "reversed" p) [a] [] pos) (Iv X.K (Ny f)):=PI.imp (adZ hg hm ha hs) λU H R q=>by
 let(H0,Z0,Y,pd,xs,Y',s,h,k):=q;let(x,h1,h2):=aij h;show#[H0,Z0,Y,pd,[x.1],x.2,s,?_,λvs H1 e1 s1=>?_]
 . unfold aj ao;rw[h1];rfl
 . let(v,rfl):=Gk e1;have s2:SR X.K H0 Z0 U H1 x.2 ((v,.sh x.1.pv)::pd):=SR.freeze s1;cases e:x.1.pv with
   |lst ps=>
    rw[e]at h2 s2;cases h2;let(Z,z,r):=s2.rep;unfold Rep at r;let(b,us,rfl,h1',h2'):=r;show#[b,us,rfl,cW.same z h1',?_];rw[h2'.length];show k _ _ _ s2 aag (adQ _ _)
   |_=>rw[e]at h2;cases h2
noncomputable def isAny(p:PV):List String->Option Bool
 |[]=>(tyN p).map λ_=>false
 |C::r=>match DN p C with
  |some true=>!true
  |some false=>isAny p r
  |none=>none
theorem pM(h1:tyN p=!T):∀{Cs:List String}{b:Bool},isAny p Cs=!b->W.kitAny K (.type T) (Cs.map Value.type)=!b
 |[],b=>λh=>by unfold isAny at h;rw[h1]at h;show h
 |C::r,b=>λh=>by
  unfold isAny at h;show (match W.kitOne K (.type T) (.type C) with |some true=>some true |some false=>W.kitAny K (.type T) (r.map Value.type) |none=>none)=!b;cases e:DN p C with
  |none=>lia
  |some c=>
   rw[e]at h;rw[rH h1 e];cases c with
   |true=>show h
   |false=>show pM h1 h
def aeo(K:FG):List V->Hp->VK->Prop:=λxs H Q=>∃x t Cs g p b,xs=[x,.ref t]/\H t=!(.tup (Cs.map V.ty))/\Rep K #[H,g] p x/\isAny p Cs=!b/\Q (.bl b) H
theorem Tg:∀{Cs:List String}{its:List Value},Vals (Cs.map V.ty) its->its=Cs.map Value.type
 |[],its=>λh=>by cases h;rfl
 |C::r,its=>λh=>by
  cases h with
  |cons a b=>cases a;rw[Tg b];rfl
def Qf:uP X (.builtin "isinstance") (aeo X.K):=by
 intro aki s U H xs us Q I r h;let(x,t,Cs,g,p,b,rfl,ht,rp,e,q):=h;let(u,w',rfl,ru,rw'):=vals2 r;cases rw';have fin:∀tk,EP X aki U Q (.bool b) { s with toks:=tk }:=λtk=>#[.bl b,H,I.tok tk,rfl,q];let(its,rv,(o,hp,hc,n,hd),_):=I.tuple (dR.of ht);have ei:=Tg rv;subst ei;let(oc,od,oD,os):=o;have hc':= hc;have hd':=hd;subst hc' hd';cases p with
 |non=>have:=jG rp;subst this;cases ru;show ah1 W.kitx_none I.kIn trivial hp (pM rfl e) () fin
 |bl c=>have:=gD rp;subst this;cases ru;show ah1 W.kitx_bool I.kIn trivial hp (pM rfl e) ∅ fin
 |int i=>have:=cF rp;subst this;let(t,rfl):=ru;show ah1 W.kitx_int I.kIn trivial hp (pM rfl e) ∅ fin
 |str i=>have:=eY rp;subst this;let(t,rfl):=ru;show ah1 W.kitx_str I.kIn trivial hp (pM rfl e) ∅ fin
 |tup ps=>
  let(a,vs,its,rfl,_,_,_,o,t1,t2,_):=zJ I rp ru;show ah1 W.kitx_tuple I.kIn #[o,t1,t2] hp (pM rfl e) ∅ fin
 |lst ps=>
  let(a,vs,its,rfl,_,_,_,o,t1,t2,_):=zK I rp ru;show ah1 W.kitx_list I.kIn #[o,t1,t2] hp (pM rfl e) ∅ fin
 |_=>cases Cs<;>cases e
def aah(Cs:List String)(f:EF):EF:=λY=>(f Y).bind λx=>(isAny x.1.pv Cs).map λb=>(.sh (.bl b),x.2)
def aai:List String->TA
 |[]=>Ol
 |C::r=>Eu (tC (.ty C)) (aai r)
theorem Qg:∀{Cs:List String},Q (Cs.map V.ty) H->aai Cs U H Q
 |[]=>λh=>h
 |C::r=>λh=>Qg (Cs:=r) h
def agI(h:PE X (.Call (.Name "isinstance" pp) [e,c] [] pos) (Lr (aeo X.K) (Eu (tP X.K f) (Eu (adH (aai Cs)) Ol))))(hc:Cs.length<=1000:=by decide):
 PE X (.Call (.Name "isinstance" pp) [e,c] [] pos) (tP X.K (aah Cs f)):=PE.imp h λU H Q q=>by
 let(H0,Z0,Y,pd,r,Y',s,h,k):=q;let(x,h1,h2):=aij h;let(b,h3,h4):=aik h2;cases h4;show#[H0,Z0,Y,pd,x.1,x.2,s,h1,λv H1 s1=>?_];show Qg #[by rw[aaW];show small (),λt ht=>?_];have s2:=s1.freeze;let(el,Z,hg,z,r1,so):=s2.sh;let(z',lz,so'):=(so.consS r1).newF z ht;have s3:SR X.K H0 Z0 U (upd H1 t (.tup (Cs.map V.ty))) x.2 ((v,.sh x.1.pv)::pd):=.mk (Z:=Z.put t (.tup (Cs.map V.ty))) el hg z' so';let(g,r2):=s3.repH;show#[v,t,Cs,g,_,b,rfl,cQ,r2,h3,k _ _ (s3.pop.scal gC)]
def Qh(f:EF)(fl fh:OF):EF:=λY=>(f Y).bind λx=>(fl x.2).bind λy=>(fh y.2).bind λz=>match x.1.pv with
 |.tup ps=>if HT.sIx ps.length 0 y.1=0/\HT.sIx ps.length ps.length z.1=ps.length then none else !(.sh (.tup (pJ ps y.1 z.1)),z.2)
 |_=>none
def acr{lo hi:Option Expr}(he:PE X e (tP X.K f))(hl:PO X lo (S8 X.K fl))(hu:PO X hi (S8 X.K fh)):PE X (.Subscript e (.Slice lo hi none p2) pos) (tP X.K (Qh f fl fh)):=PE.imp (Oq adJ he hl hu) λU H Q q=>by
 let(H0,Z0,Y,pd,r,Y',s,h,k):=q;let(x,h1,h2):=aij h;let(y,h3,h4):=aij h2;let(z,h5,h6):=aij h4;show#[H0,Z0,Y,pd,x.1,x.2,s,h1,λv H1 s1=>#[H0,Z0,x.2,_,y.1,y.2,s1.freeze,h3,λH2 s2=>#[H0,Z0,y.2,_,z.1,z.2,s2,h5,λH3 s3=>?_]]];cases e:x.1.pv with
 |tup ps=>
  rw[e]at h6 s3;have h6:(if HT.sIx ps.length 0 y.1=0/\HT.sIx ps.length ps.length z.1=ps.length then none else !(Lc.sh (.tup (pJ ps y.1 z.1)),z.2))=!(r,Y'):=h6;split at h6
  . cases h6
  . rename_i hw;cases h6;let(el,Z,hg,zz,r1,s4):=s3.sh;unfold Rep at r1;let(a,vs,rfl,g1,g2):=r1;show#[a,vs,rfl,dR.same zz.zh g1,by rw[g2.length];show hw,λp hp=>k _ _ ?_];let(z',lz,s'):=s4.newF zz (a:=p) (o:=.tup (wU vs y.1 z.1)) hp;show .mk (Z:=Z.put p (.tup (wU vs y.1 z.1))) el hg z' (s'.consS ?_);unfold Rep;show#[p,_,rfl,dR.of cQ,g2.cut.mono lz]
 |_=>rw[e]at h6;cases h6
def Dh:Bool->List PV->PV
 |true,ps=>.lst ps
 |false,ps=>.tup ps
def Xy {K:PySem.W.Frag}{H0:Hp}{Z0:ZG}{pd:Pd}{a b:Addr}{ps qs:List PV}:sH K H0 Z0 ((.ref a,.sh (.lst ps))::(.ref b,.sh (.lst qs))::pd) (ZM K a b) (ni ps qs):=by
  intro σ H ρ i s
  show J6 λG kG=>?_
  let(el,Z,hg,z,rl,so):=SR.repl (vs:=[.ref a,.ref b]) (ls:=[.sh (.lst ps),.sh (.lst qs)]) (pd:=pd) s rfl
  let(_,_,ev,r,rl):=rl
  cases ev
  let(_,_,ev,r',_):=rl
  cases ev
  simp only [Lc.pv] at r r'
  have r0:=r
  have r0':=r'
  unfold Rep at r r'
  let(a',vs,e,h1,h2):=r
  let(b',ws,e',h1',h2'):=r'
  cases e
  cases e'
  have hq:=cW.same z.zh h1
  have hr:=cW.same z.zh h1'
  show kG #[λx hx=>?_,λhl=>#[vs,ws,hq,hr,?_]]
  · show J6 λG kG=>?_
    let(p,q,hp,hq',rfl):=aad hx
    let(v,hv,rv):=h2.get hp
    let(u,hu,ru):=h2'.get hq'
    show kG #[#[vs,ws,v,u,hq,hr,hv,hu],λv' H' y=>?_]
    let(T,y1,y2,hT,rfl,rfl,hy1,hy2):=y
    have e1:=hy1 vs hq
    rw[hv] at e1
    cases e1
    have e2:=hy2 ws hr
    rw[hu] at e2
    cases e2
    let(z',lz,so'):=((so.consS r0').consS r0).newF z (a:=T) (o:=.tup [v,u]) hT
    show .mk (Z:=Z.put T (.tup [v,u])) el hg z' (Slots.perm (Slots.consS so' ?_) ((dh.trans (dh.cons _)).cons _))
    unfold Rep
    show#[T,[v,u],rfl,.inl (.inl (by show upd Z.z T _ T=_;rw[cQ])),aR.cons (rv.mono lz) (aR.cons (ru.mono lz) .nil)]
  · rw[aae] at hl
    rw[h2.length,h2'.length]
    lia
def w5 (f g:EF):IF:=λρ=>(f ρ).bind λx=>(g x.2).bind λy=>match x.1.pv,y.1.pv with
  |.lst ps,.lst qs=>!(ni ps qs,y.2)
  |_,_=>none
def acs {α:Type}{p q:PV}{w r:α}{zs:List PV}(h:(match p,q with
  |.lst ps,.lst qs=>!(ni ps qs,w)
  | _,_=>none)=!(zs,r)):∃ ps qs,p=.lst ps/\q=.lst qs/\zs=ni ps qs/\w=r:=by
  split at h
  · rename_i ps qs;cases h;show#[ps,qs,rfl,rfl,rfl,rfl]
  · cases h
def Fg {a b:Expr}{f g:EF}{p pos:Pos}{elts:List Expr}{x1}{tpos:Pos}(hg:Gl X "zip") (hm:X.mg "zip"=none) (ha:PA X [a,b] (jT X.K (aj f (aj g ao)))) (hs:starEach [a,b] X.env=(false,eval a X.env)::starEach [b] X.env:=by rfl) (hs2:(backTo pos (starEach [b] X.env)).any (·.1)=false:=by rfl):PI X (.Tuple elts x1 tpos) (.Call (.Name "zip" p) [a,b] [] pos) (Iv X.K (w5 f g)):=PI.imp (aca hg hm ha hs hs2) λσ H R q=>by
  let(H0,Z0,ρ,pd,xs,ρ',s,h,k):=q
  let(x,h1,h2):=aij h
  let(y,h3,h4):=aij h2
  show#[H0,Z0,ρ,pd,[x.1,y.1],y.2,s,?_,λvs H1 e1 s1=>?_]
  · unfold aj ao
    rw[h1]
    simp only [Option.bind_some,h3,Option.map_some]
  · show J6 λG kG=>?_
    let(v,u,rfl):=ln2 e1
    have s2:SR X.K H0 Z0 σ H1 y.2 ((v,.sh x.1.pv)::(u,.sh y.1.pv)::pd):=SR.freezeAll (vs:=[v,u]) (ls:=[x.1,y.1]) s1
    let(ps,qs,e,e',rfl,rfl):=acs h4
    rw[e,e'] at s2
    let(Z,z,r,r'):=s2.rep2
    unfold Rep at r r'
    let(b',us,rfl,g1',g2'):=r
    let(a',vs',rfl,g1,g2):=r'
    show kG #[a',b',rfl,#[_,cW.same z g1],#[_,cW.same z g1'],k _ _ _ s2 Xy ((List.sublist_cons_self _ _).cons _)]
def qO(g:GF)(a:AF):EF:=λY=>(a Y).bind λy=>(g ((y.1.map Lc.pv).map (aU y.2.mu 40)) (y.2.mu.map λ_=>none)).bind λr=>if uQ r.1=true then !(r.1,y.2) else none
def Jf(h:∀e∈L,e.2=none):Slots K H0 Z H L:=by
 show#[λe he=>?_,?_]
 . let(v,l):=e;have:l=none:=h _ he;subst this;trivial
 . have:L.filterMap oG=[]:=by
    rw[List.filterMap_eq_nil_iff];intro e he;let(v,l):=e;have:l=none:=h _ he;subst this;cases v with
    |none=>rfl
    |some x=>cases x<;>rfl
   rw[this];show ahK
def Hf{mu:Mu}:∀e∈cel g (mu.map λ_=>none),e.2=none:=λe he=>by let(v,l):=e;let(_,h2):=ahh he;let(o,ho,e2):=abz.mp h2;let(o',_,e3):=abz.mp ho;subst e3;show e2.symm
def Xz(hn:∀Y ls Y1,a Y=!(ls,Y1)->ls.length=n):∀U H Q,tP X.K (qO g a) U H Q->Vj (cR X.K n g) [] E (jT X.K a) U H Q:=λU H Q q=>by
 let(H0,Z0,Y,pd,r,Y',s,h,k):=q;let(y,h1,h2):=aij h;let((r1,mu'),h3,h4):=aij h2;split at h4
 . rename_i hf;cases h4;show#[H0,Z0,Y,pd,y.1,y.2,s,h1,λvs H2 e2 s2=>?_];have s3:=s2.freezeAll;let(Z,(el,hg,lz,so),b1,_):=s3.lookB;have hm:(y.1.map λl=>Lc.sh l.pv)=(y.1.map Lc.pv).map λp=>Lc.sh p:=by rw[agb];rfl
   have so0:=so;rw[hm]at so0;have rl:=Slots.repl ∅ (so0.perm O7.symm);have rl2:=pL (rJ so lz 40) (rl.mono lz);have z1:lH H2 #[H2,Z.g] #[H2,Z.g] H2:=#[fM.refl _,fM.refl _,jr.refl _,λb o e=>.inl e];have hs:Slots X.K H2 #[H2,Z.g] H2 (sl Z.g U #[y.2.vs.map λ_=>none,y.2.mu.map λ_=>none] []):=Jf λe he=>by
    obtain he|he:=adY.mp he
    . show Hf e he
    . rw[ahA,abv]at he;let(o,_,e3):=abz.mp (ahh he).2;lia
   show#[#[H2,Z.g],(y.1.map Lc.pv).map (aU y.2.mu 40),y.2.mu.map λ_=>none,r1,mu',?_,by simpa using hg,fM.refl _,?_,Jf Hf,h3,λv H' rr=>k v H' ?_]
   . lia
   . lia
   . have s4:=SR.called ∅ ∅ z1 hs rr;show(b1 H' v r1 _ s4 hf).sub ((ahv _ _).cons_cons _)
 . cases h4
def Qi{p pos:Pos}(D:cU X.prog X.w X.K X.mg X.base x k ps (cR X.K ps.length g))(hr:rC k X.A)(hg:Gl X x)
 (ha:PA X (e::es) (jT X.K a)) (hn:∀Y ls Y1,a Y=!(ls,Y1)->ls.length=ps.length) (hdb:(x==("__debug__" : Str))=false:=by decide) (he:starEach (e::es) X.env=(false,eval e X.env)::starEach es X.env:=by rfl) (hpl:(backTo pos (starEach es X.env)).any (·.1)=false:=by rfl):PE X (.Call (.Name x p) (e::es) [] pos) (tP X.K (qO g a)):=by
 let(f,fd,F,hm,hk,hb):=D;show PE.imp (R9 F hr hg hm hk hb .nil Ia ha hdb he hpl) (Xz hn)
def Hg(h:a Y=!(ls,Y1))(hp:(ls.map Lc.pv).map (aU Y1.mu 40)=ps)(h2:G ps (Y1.mu.map λ_=>none)=!(r,mu))(hf:uQ r=true):qO G a Y=!(r,Y1):=by unfold qO;rw[h,aaS,hp,h2,aaS,aic hf]
end
theorem Slots.freezeC:∀(C:Sl){Z:ZG},Slots K H0 Z H (C++R)->lH H0 Z0 Z H->∃Z',jr Z Z'/\Z'.g=Z.g/\lH H0 Z0 Z' H/\Slots K H0 Z' H R/\∀e∈C,∀q,e.2=!(.own q)->∃x,e.1=!x/\Rep K Z' q x
 |[],Z=>λso z=>#[Z,jr.refl Z,rfl,z,so,λe he=>by cases he]
 |(v,l)::C,Z=>λso z=>by
  have rest:∀{Z1:ZG},jr Z Z1->Z1.g=Z.g->lH H0 Z0 Z1 H->Slots K H0 Z1 H (C++R)->(∀q,l=!(.own q)->∃x,v=!x/\Rep K Z1 q x)->∃Z',jr Z Z'/\Z'.g=Z.g/\lH H0 Z0 Z' H/\Slots K H0 Z' H R/\∀e∈(v,l)::C,∀q,e.2=!(.own q)->∃x,e.1=!x/\Rep K Z' q x:=λ{Z1} lz eg z1 so1 hv=>by
   let(Z',lz',eg',z',so',hc):=Slots.freezeC C so1 z1;show#[Z',lz.trans lz',eg'.trans eg,z',so',λe he q hq=>?_];obtain rfl|he:=abw.mp he
   . let(x,ex,rx):=hv q hq;show#[x,ex,rx.mono lz']
   . show hc e he q hq
  have so1:Slots K H0 Z H ((v,l)::(C++R)):=so;cases l with
  |none=>show rest (jr.refl Z) rfl z (so1.sub (adQ _ _)) λq h=>by cases h
  |some l=>
   cases l with
   |sh p=>show rest (jr.refl Z) rfl z (so1.sub (adQ _ _)) λq h=>by cases h
   |own p=>
    let(Z1,lz,eg,z1,so2):=so1.freeze z;let(x,ex,rx):=so2.1 _ aaV;show rest lz eg z1 (so2.sub (adQ _ _)) λq h=>by cases h;show#[x,ex,rx]
theorem vh(hc:∀(n:Nat)(a:Addr)(q:PV),Z.g[n]?=!a->mu[n]?=!(!q)->Rep K Z q (.ref a)):∀(k:Nat)(p:PV)(x:V),Rep K Z p x->Rep K Z (aU mu k p) x
 |0=>λp x r=>r
 |k+1=>λp x r=>by
  cases p with
  |ptr n=>
   show Rep K Z (match mu[n]? with |some (!p)=>aU mu k p |_=>.ptr n) x;split
   . rename_i q hq;let(a,rfl,ha):=r;show vh hc k q _ ∅
   . show r
  |tup ps=>
   let(a,vs,e,h1,h2):=r;show#[a,vs,e,h1,pL (vh hc k) h2]
  |lst ps=>
   let(a,vs,e,h1,h2):=r;show#[a,vs,e,h1,pL (vh hc k) h2]
  |dk ks ps=>
   let(a,vs,e,h1,h3,h2):=r;show#[a,vs,e,h1,h3,pL (vh hc k) h2]
  |_=>show r
theorem Slots.nones:∀(C:Sl),(∀e∈C,e.2=none)->Slots K H0 Z H R->Slots K H0 Z H (C++R)
 |[]=>λ_ so=>so
 |(v,l)::C=>λh so=>by
  have e:=h _ aaV;subst e;have s:=Slots.nones C (λe he=>h e (abl _ he)) so;show#[λe he=>?_,?_]
  . obtain rfl|he:=abw.mp he
    . trivial
    . show s.1 e he
  . show ((((v,none):Option V×Option Lc)::(C++R)).filterMap oG).Nodup;rw[agZ (by cases v with |none=>rfl |some x=>cases x<;>rfl)];show s.2
def SR.meltD(k:Nat)(s:SR K H0 Z0 U H Y ((v,.sh p)::pd)):
 SR K H0 Z0 U H #[Y.vs,Y.mu.map λ_=>none] ((v,.sh (aU Y.mu k p))::pd):=by
 let(el,Z,hg,z,r,so):=s.sh;let(Z',lz,eg,z',so2,hc):=Slots.freezeC (cel Z.g Y.mu) so z;have so3:Slots K H0 Z' H (sl Z'.g U #[Y.vs,Y.mu.map λ_=>none] pd):=Slots.nones (cel Z'.g (Y.mu.map λ_=>none)) Hf so2;show .mk (Z:=Z') el (by rw[eg];simpa using hg) z' (so3.consS ?_);show vh (λn a q ha hq=>?_) k p v (r.mono lz);rw[eg]at ha;have hm:(!(V.ref a),!(Lc.own q))∈cel Z.g Y.mu:=ag2 (zip_get (i:=n) (by rw[af9,ha];rfl) (by rw[af9,hq];rfl));let(x,ex,rx):=hc _ hm q rfl;cases ex;show rx
section
variable {X:Cx}
def Ab(f:EF):EF:=λY=>(f Y).map λx=>(.sh (aU x.2.mu 40 x.1.pv),#[x.2.vs,x.2.mu.map λ_=>none])
def XC(h:PE X e (tP X.K f)):PE X e (tP X.K (Ab f)):=PE.imp h λU H Q q=>by let(H0,Z0,Y,pd,l,Y',s,f,k):=q;let(x,h1,h2):=aik f;cases h2;show#[H0,Z0,Y,pd,x.1,x.2,s,h1,λv H1 s1=>k v H1 (s1.freeze.meltD 40)]
def Qj(h:f Y=!(l,Y1))(hp:aU Y1.mu 40 l.pv=p):Ab f Y=!(.sh p,#[Y1.vs,Y1.mu.map λ_=>none]):=by unfold Ab;lia
end
class HK where
 hk:List dG->Int
def okP:PV->Option dG
 |.non=>!none
 |.int i=>!(!(.inl i))
 |.str x=>!(!(.inr x))
 |_=>none
noncomputable def w6:List PV->Option (List dG)
 |[]=>![]
 |p::ps=>(okP p).bind λk=>(w6 ps).map (k::·)
def aep(h:okP p=!k)(r:Rep K Z p v):v=yg k:=by
 cases p with
 |non=>cases h;show jG r
 |int i=>cases h;show cF r
 |str x=>cases h;show eY r
 |_=>cases h
theorem BW:∀{ps:List PV}{vs:List V}{ks:List dG},w6 ps=!ks->aR K Z ps vs->vs=ks.map yg
 |[],vs,ks=>λh r=>by cases h;show r.inv0
 |p::ps,vs,ks=>λh r=>by let(v,r',rfl,h1,h2):=r.inv;let(k,g1,g2):=aij h;let(t,g3,g4):=aik g2;cases g4;rw[aep g1 h1,BW g3 h2];rfl
abbrev PDX:=List (List dG×PV)
noncomputable def iV:PDX->List dG->Option PV
 |[],_=>none
 |kv::r,k=>if kv.1=k then !kv.2 else iV r k
def VD{xs:XD}:m5 (x::xs) k=if x.1=k then !x.2.2 else m5 xs k:=by
 unfold m5;by_cases e:x.1=k
 . lia
 . lia
theorem Hh:∀{xs:XD}{ps:List PV},aR K Z ps (xs.map (·.2.2))->(∀p,iV ((xs.map (·.1)).zip ps) k=!p->∃v,m5 xs k=!v/\Rep K Z p v)/\(iV ((xs.map (·.1)).zip ps) k=none->m5 xs k=none)
 |[],ps=>λh=>#[λp e=>(by cases e),λ_=>rfl]
 |x::xs,[]=>λh=>by have:=h.inv0;cases this
 |x::xs,p::ps=>λh=>by
  let(v,r,e,h1,h2):=h.inv;rw[af8]at e;injection e with e1 e2;subst e1 e2;have ih:=Hh (k:=k) h2;rw[VD];show (∀q,(if x.1=k then !p else iV ((xs.map (·.1)).zip ps) k)=!q->_)/\((if x.1=k then !p else iV ((xs.map (·.1)).zip ps) k)=none->_);by_cases e:x.1=k
  . rw[aic e,aic e];show#[λq hq=>by cases hq;show#[_,rfl,h1],λhq=>by cases hq]
  . rw[aid e,aid e];show ih
def SR.setX(s:SR K H0 Z0 U H Y ((v,.sh p)::(kb,.sh (.tup kp))::(.ref a,.own (.dx hk ks ps))::pd))(ek:w6 kp=!k):
 ∃b xs,kb=.ref b/\H a=!(.ext (zA hk a xs))/\(∀x∈xs,dR K H x.2.1 (x.1.map yg))/\dR K H b (k.map yg)/\xs.length=ks.length/\
  (iV (ks.zip ps) k=none->m5 xs k=none/\SR K H0 Z0 U (upd H a (.ext (zA hk a (xs++[(k,b,v)])))) Y ((.ref a,.own (.dx hk (ks++[k]) (ps++[p])))::(v,.sh p)::pd))/\
  (∀q,iV (ks.zip ps) k=!q->∃u,m5 xs k=!u/\SR K H0 Z0 U H Y ((u,.sh q)::(.ref a,.own (.dx hk ks ps))::pd)):=by
 let(el,Z,hg,z,r,so):=s.sh;have so1:=so.perm dh.symm;let(x,e1,rk):=so1.1 _ aaV;cases e1;let(b,ws,rfl,hb,rw'):=rk;have ew:=BW ek rw';subst ew;have so2:=so1.sub (adQ _ _);have so3:=so2.perm dh.symm;let(_,eb,(xs,hu,hk1,hk2,hr),_):=so3.1 _ aaV;cases eb;subst hk1;have hv:=Hh (k:=k) hr;show#[b,xs,rfl,hu,λx hx=>dR.same z.zh (hk2 x hx),dR.same z.zh hb,by rw[aaW],λhn=>#[hv.2 hn,?_],λq hq=>?_]
 . have so4:=(so3.consS r).perm (List.Perm.swap _ _ _);let(z',s'):=so4.write (q:=.dx hk (xs.map (·.1)++[k]) (ps++[p])) z #[xs++[(k,b,v)],cQ,by rw[ady];rfl,(λx hx=>(by
    obtain hx|hx:=adY.mp hx
    . lia
    . rw[agk.mp hx];show hb)),by rw[ady];show hr.append (aR.cons r .nil)]
   show .mk el hg z' (s'.perm (dh.symm.cons _).symm)
 . let(u,e,ru):=hv.1 q hq;show#[u,e,.mk el hg z (so2.consS ru)]
def SR.takeX(s:SR K H0 Z0 U H Y pd)(e:Y.vs[i]?=!(!(.own (.dx hk ks ps)))):
 ∃a xs,U[i]?=!(!(.ref a))/\H a=!(.ext (zA hk a xs))/\SR K H0 Z0 U H (Y.set i none) ((.ref a,.own (.dx hk ks ps))::pd):=by
 let(v,e1,s1):=s.take e;let(_,Z,_,z,so):=s1.top;let(a,ea,(xs,hu,_),_):=so.1 _ aaV;have ea':v=.ref a:=af7 ea;subst ea';show#[a,xs,e1,hu,s1]
def SR.seal(s1:SR K H0 Z0 U H Y ((v,.own p)::pd)):SR K H0 Z0 U H #[Y.vs,Y.mu++[!p]] ((v,.sh (.ptr Y.mu.length))::pd):=by
 let(el,Z,hg,z,so):=s1.top;let(a,ea,ra,za,ha0):=so.1 _ aaV;have ea':=af7 ea;subst ea';have lz:jr Z #[Z.z,Z.g++[a]]:=#[fM.refl _,ahP _ _];have so2:=so.step lz λe he b hb=>#[rfl,(km so he hb).1];show .mk (Z:=#[Z.z,Z.g++[a]]) el ∅ #[z.zh,z.h0,z.z0.trans lz,z.new] (Slots.consS ?_ ?_)
 . show so2.perm ?_;have ec:cel (Z.g++[a]) (Y.mu++[!p])=cel Z.g Y.mu++[(!(.ref a),!(.own p))]:=by unfold cel;rw[ady,ady,ahn ∅];rfl
   show List.Perm (cel (Z.g++[a]) (Y.mu++[!p])++_) _;rw[ec,aba];show ag1
 . show#[a,rfl,by show (Z.g++[a])[Y.mu.length]?=!a;rw[hg,aby (aa0 _)];simp]
def Ev.set_self(e:Y.vs[i]?=!l):Y.set i l=Y:=by show Ev.mk (Y.vs.set i l) Y.mu=Y;let(hi,he):=adP.mp e;rw[<-he,List.set_getElem_self]
section
variable {X:Cx}[HK]
def XF:EF:=λY=>!(.own (.dx HK.hk [] []),Y)
def aer(hx:HK.hk=Io X.prog X.w):PE X (.Dict [] [] pos) (tP X.K XF):=PE.imp ZQ λU H Q q=>by let(H0,Z0,Y,pd,l,Y',s,f,k):=q;cases f;show λp hp=>k _ _ (s.newO hp λZ _ _=>#[[],by rw[cQ,hx];rfl,rfl,(λx hx=>(by cases hx)),aR.nil])
open Classical in
def Fi(i:Nat)(fk:EF):EF:=λY=>match Y.vs[i]? with
 |some (!(.own (.dx _ _ _)))=>(fk Y).bind λy=>match y.1.pv,y.2.vs[i]? with
  |.tup kp,!(!(.own (.dx hk ks ps)))=>(w6 kp).bind λk=>if hk=HK.hk/\ks.length<100000 then
   (match iV (ks.zip ps) k with
   |some p=>!(.sh p,y.2)
   | none=>!(.sh (.ptr y.2.mu.length),#[y.2.vs.set i (!(.own (.dx hk (ks++[k]) (ps++[.ptr y.2.mu.length])))),y.2.mu++[!(.lst [])]]))
   else none
  |_,_=>none
 |_=>none
def afF(hx:HK.hk=Io X.prog X.w)(h:PE X (.Call (.Attribute o "setdefault" apos) [e1,e2] [] cpos) (λU H Q=>wK i U H λx H1=>(∃a hk xs,x=.ref a/\H1 a=!(.ext (zA hk a xs)))/\jT X.K (aj fk (aj (bG ao) ao)) U H1 λvs H2=>Xh X.prog X.w X.K x vs H2 Q)):
 PE X (.Call (.Attribute o "setdefault" apos) [e1,e2] [] cpos) (tP X.K (Fi i fk)):=PE.imp h λU H Q q=>by
 let(H0,Z0,Y,pd,r,Y',s,h,k):=q;unfold Fi at h;split at h
 . rename_i hk0 ks0 ps0 e0;let(y,h1,h2):=aij h;let(a,xs,ea,hu,_):=s.takeX e0;show#[.ref a,ea,#[a,hk0,xs,rfl,hu],H0,Z0,Y,pd,[y.1,.own (.lst [])],y.2,s,?_,λvs H2 e2 s2=>?_]
   . unfold aj ao bG;simp[h1]
   . let(v1,v2,rfl):=ln2 e2;have s2':=s2;split at h2
     . rename_i kp hk ks ps e3 e4;let(kk,ek,h3):=aij h2;split at h3
       . rename_i hc;let(hc1,hc2):=hc;subst hc1;have s3:=s2'.freeze;rw[e3]at s3;cases hv:iV (ks.zip ps) kk with
         |some p=>
          rw[hv]at h3;cases h3;let(a',xs',ea',hu',s4):=s3.swap.freeze.takeX e4;rw[ea]at ea';cases ea';have s5:=s4.perm (ahq (l₁:=[(v2,Lc.sh (.lst [])),(v1,.sh (.tup kp))]) (l₂:=[(.ref a,.own (.dx HK.hk ks ps))]) |>.append_right pd);let(b,xs2,rfl,g1,g2,g3,g4,_,g6):=s5.setX ek;let(u,eu,s6):=g6 p hv;show#[a,b,xs2,kk,v2,rfl,rfl,by rw[g1];unfold dX;rw[hx],g2,g3,by rw[g4,sizeLine_eq];lia,?_];rw[eu];have s7:=s6.swap.put ea;rw[Ev.set_set,Ev.set_self e4]at s7;show k _ _ s7
         |none=>
          rw[hv]at h3;cases h3;have s3a:=s3.swap.seal;let(a',xs',ea',hu',s4):=s3a.takeX e4;rw[ea]at ea';cases ea';have s5:=s4.perm (ahq (l₁:=[(v2,Lc.sh (.ptr y.2.mu.length)),(v1,.sh (.tup kp))]) (l₂:=[(.ref a,.own (.dx HK.hk ks ps))]) |>.append_right pd);let(b,xs2,rfl,g1,g2,g3,g4,g5,_):=s5.setX ek;let(eu,s6):=g5 hv;show#[a,b,xs2,kk,v2,rfl,rfl,by rw[g1];unfold dX;rw[hx],g2,g3,by rw[g4,sizeLine_eq];lia,?_];rw[eu];have s7:=s6.put ea;rw[Ev.set_set]at s7;have e9:(.ext (zA (Io X.prog X.w) a (xs2++[(kk,b,v2)])):HO)=dX X.prog X.w a (xs2++[(kk,b,v2)]):=rfl;rw[<-e9,<-hx];show k _ _ s7
       . cases h3
     . cases h2
 . cases h
open Classical in
def BZ(fo fk:EF):EF:=λY=>(fo Y).bind λx=>match x.1.pv with
 |.dx hk ks ps=>(fk x.2).bind λy=>match y.1.pv with
  |.tup kp=>(w6 kp).bind λk=>if hk=HK.hk then !(match iV (ks.zip ps) k with |some p=>.sh p |none=>.own (.lst []),y.2) else none
  |_=>none
 |_=>none
def abe(hx:HK.hk=Io X.prog X.w)(h:PE X (.Call (.Attribute o "get" apos) [e1,e2] [] cpos) (λU H Q=>tP X.K fo U H λx H1=>(∃a hk xs,x=.ref a/\H1 a=!(.ext (zA hk a xs)))/\jT X.K (aj fk (aj (bG ao) ao)) U H1 λvs H2=>aa3 X.prog X.w X.K x vs H2 Q)):
 PE X (.Call (.Attribute o "get" apos) [e1,e2] [] cpos) (tP X.K (BZ fo fk)):=PE.imp h λU H Q q=>by
 let(H0,Z0,Y,pd,r,Y',s,h,k):=q;let(x,h1,h2):=aij h;show#[H0,Z0,Y,pd,x.1,x.2,s,h1,λv H1 s1=>?_];split at h2
 . rename_i hk ks ps e0;let(y,h3,h4):=aij h2;have s2:=s1.freeze;rw[e0]at s2;let(el,Z,hg,z,rd,so):=s2.sh;let(a,xs,rfl,g1,g2,g3,g4):=rd;show#[#[a,hk,xs,rfl,z.zh _ _ g1],H0,Z,x.2,pd,[y.1,.own (.lst [])],y.2,#[el,Z,hg,#[z.zh,z.h0,jr.refl Z,λb o e=>.inl e],so],?_,λvs H2 e2 s3=>?_]
   . unfold aj ao bG;simp[h3]
   . let(v1,v2,rfl):=ln2 e2;have s3':=s3;split at h4
     . rename_i kp e3;let(kk,ek,h5):=aij h4;split at h5
       . rename_i hc;subst hc;cases h5;have s4:=s3'.freeze;rw[e3]at s4;let(el2,Z2,hg2,z2,rk,so2):=s4.sh;let(b,ws,rfl,hb,rw'):=rk;have ew:=BW ek rw';subst ew;subst g2;have hv:=Hh (k:=kk) g4;show#[a,b,xs,kk,v2,rfl,rfl,?_,λx hx=>dR.same z2.zh (dR.same z2.z0.1 (g3 x hx)),dR.same z2.zh hb,?_]
         . rw[z2.zh _ _ (z2.z0.1 _ _ g1),hx];rfl
         have zz:lH H0 Z0 Z2 H2:=#[z2.zh,z2.h0,z.z0.trans z2.z0,λb o e=>by
          obtain q|q:=z2.new b o e
          . show z.new b o q
          . show .inr q]
         cases hl:iV ((xs.map (·.1)).zip ps) kk with
         |some p=>
          let(u,eu,ru):=hv.1 p hl;rw[eu];rw[hl]at k;show k _ _ (.mk el2 hg2 zz ((so2.perm dh.symm).sub (adQ _ _) |>.consS (ru.mono z2.z0)))
         |none=>
          rw[hv.2 hl];rw[hl]at k;show k _ _ (.mk el2 hg2 zz (so2.perm dh.symm))
       . cases h5
     . cases h4
 . cases h2
noncomputable def meltL:Mu->List PV->Option (List PV×Mu)
 |mu,[]=>!([],mu)
 |mu,.ptr n::ps=>match mu[n]? with
  |some (!q)=>(meltL (mu.set n none) ps).map λr=>(q::r.1,r.2)
  |_=>none
 |_,_=>none
theorem Slots.meltL:∀{ps qs:List PV}{mu mu':Mu}{vs:List V}{Z:ZG},PL.meltL mu ps=!(qs,mu')->aR K Z ps vs->mu.length=Z.g.length->lH H0 Z0 Z H->Slots K H0 Z H (cel Z.g mu++R)->
 ∃Z',jr Z Z'/\Z'.g=Z.g/\lH H0 Z0 Z' H/\Slots K H0 Z' H (cel Z'.g mu'++R)/\aR K Z' qs vs/\mu'.length=mu.length
 |[],qs,mu,mu',vs,Z=>λh r hg z so=>by cases h;show#[Z,jr.refl Z,rfl,z,so,r,rfl]
 |p::ps,qs,mu,mu',vs,Z=>λh r hg z so=>by
  cases p with
  |ptr n=>
   unfold PL.meltL at h;split at h
   . rename_i q hm;let(t,h1,h2):=aik h;cases h2;let(v,vr,rfl,r1,r2):=r.inv;unfold Rep at r1;let(a,rfl,ha):=r1;let(C,p1,p2):=DK ha hm;have so2:Slots K H0 Z H ((!(.ref a),!(.own q))::(C++R)):=so.perm (p1.append_right _).symm;let(Z1,lz,eg,z1,so3):=so2.freeze z;let(x,ex,rx):=so3.1 _ aaV;cases ex;have so4:Slots K H0 Z1 H (C++R):=so3.sub (adQ _ _);have so5:Slots K H0 Z1 H ((!(.ref a),none)::(C++R)):=by
      show#[λe he=>?_,?_]
      . obtain rfl|he:=abw.mp he
        . trivial
        . show so4.1 e he
      . rw[agZ rfl];show so4.2
     have so6:Slots K H0 Z1 H (cel Z1.g (mu.set n none)++R):=by rw[eg];show so5.perm ((p2 none).append_right _)
     let(Z2,lz2,eg2,z2,so7,r7,l7):=Slots.meltL h1 (r2.mono lz) (by rw[eg];simpa using hg) z1 so6;show#[Z2,lz.trans lz2,eg2.trans eg,z2,so7,aR.cons (rx.mono lz2) r7,by simpa using l7]
   . cases h
  |_=>cases h
def Qk(f:EF):EF:=λY=>(f Y).bind λx=>match x.1.pv with
 |.dx hk ks ps=>(meltL x.2.mu ps).map λr=>(.sh (.dx hk ks r.1),#[x.2.vs,r.2])
 |_=>none
def aes(h:PE X e (tP X.K f)):PE X e (tP X.K (Qk f)):=PE.imp h λU H Q q=>by
 let(H0,Z0,Y,pd,l,Y',s,f,k):=q;let(x,h1,h2):=aij f;show#[H0,Z0,Y,pd,x.1,x.2,s,h1,λv H1 s1=>?_];split at h2
 . rename_i hk ks ps e0;let(r,h3,h4):=aik h2;cases h4;have s2:=s1.freeze;rw[e0]at s2;let(el,Z,hg,z,rd,so):=s2.sh;let(a,xs,rfl,g1,g2,g3,g4):=rd;let(Z2,lz,eg,z2,so2,r2,l2):=Slots.meltL h3 g4 hg z so;show k _ H1 (.mk el ∅ z2 (Slots.consS so2 ?_));show#[a,xs,rfl,lz.1 _ _ g1,g2,λx hx=>dR.same lz.1 (g3 x hx),r2]
 . cases h2
end
section
variable {X:Cx}
def qw(i:Nat){pos:Pos}(hN:X.N[i]?=!x:=by rfl)(hv:Wu X.env.scope x:=by first |show Or.inl rfl |show Or.inr (Or.inl rfl) |show Or.inr (Or.inr rfl))(hd:(x==("__debug__" : Str))=false:=by decide)(hcd:(x==("__classdict__" : Str))=false:=by decide):PE X (.Name x pos) (tP X.K (aa i)):=qv (pv i hN hv hd hcd)
def aJ{j}:PE X (.Constant (.int i) j pos) (tP X.K (akg i)):=qc adg iD
def fK{j}:PE X (.Constant (.str i) j pos) (tP X.K (akh i)):=qc adi wA
def xf{j}:PE X (.Constant .none j pos) (tP X.K (eC .non)):=qc adh zB
def qI{j}(ha:PE X a (tP X.K fa)):PE X (.Subscript a (.Constant (.int i) j p) pos) (tP X.K (aM fa (akg i))):=m7 ha aJ (λ_ _=>rfl)
def qL{p pos:Pos}(b:X.mg "len"=none)(h:PE X e (tP X.K f))(hg:Gl X "len":=by rfl)(h0:starEach [e] X.env=(false,eval e X.env)::starEach [] X.env:=by rfl):PE X (.Call (.Name "len" p) [e] [] pos) (tP X.K (eB jt (aj f ao))):=IW cX Xq (bF cX hg b agj (ak h au h0) (he:=h0))
def dF(i:Nat){x:Str}{e:Expr}{pos pos':Pos}{f:EF}(hN:X.N.Nodup)(he:PE X e (tP X.K f))(hi:X.N[i]?=!x:=by rfl)(hx:L2.Loc X.env.scope x:=by show Or.inl rfl)(hs:swapsWith e (!(.Name x pos')) pos.line X.env=pure false:=by rfl)(hf:X.fn x=true\/X.env.scope.names.lookup x=!.local:=by first |show .inl rfl |show .inr rfl |assumption):
 PS X (.Assign [.Name x pos'] e pos) (iT X.K (aO i f)):=O8 hN hi hx he hs hf
def dD(i:Nat){pos:Pos}(hN:X.N.Nodup)(hi:X.N[i]?=!x:=by rfl)(hx:L2.Loc X.env.scope x:=by show Or.inl rfl)(hf:X.fn x=true\/X.env.scope.names.lookup x=!.local:=by first |show .inl rfl |show .inr rfl |assumption):PG X (.Name x pos) (Nm i):=zr hN hi hx hf
def vL{M F:List Str}{ixs:List Nat}{sc:Scope}(S:Scope)(hS:X.env.scope=S:=by rfl)(kind:sc.kind=.function:=by rfl)(locs:∀y∈sc.names,y.2=.local->sc.names.lookup y.1=!.local:=by decide +kernel)(cel:∀y∈sc.names,y.2=.cell->sc.names.lookup y.1=!.cell:=by decide +kernel)
 (own:∀p∈sc.names,p.2=.free->S.names.lookup p.1=!.cell\/S.names.lookup p.1=!.free:=by decide +kernel) (frs:∀x∈F,sc.names.lookup x=!.free:=by decide +kernel) (ix:ixs.map (λi=>X.N[i]?)=F.map some:=by rfl):lG X M F ixs sc:=afC S hS kind locs cel own frs ix
def xg{apos cpos pos:Pos}(ho:PE X o (wK i))(he:PE X e (tP X.K f))(h0:starEach [e] X.env=(false,eval e X.env)::starEach [] X.env:=by rfl)(h1:attributeBase o "append" X.env (eval o X.env)=eval o X.env:=by rfl)
 (h2:((backTo cpos (starEach [e] X.env)).all (λx=>not x.1)&&(backToKw cpos (keywordEach [] X.env)).all (λx=>x.1.isSome)
   && decide (([e]:List Expr).length+([]:List Keyword).length+(if ([]:List Keyword).isEmpty then 0 else 1)<30))=true:=by rfl) (h3:(apos.endLine==cpos.line)=true:=by rfl) (hs:swapsWith (.Call (.Attribute o "append" apos) [e] [] cpos) none pos.line X.env=pure false:=by rfl):
 PS X (.Expr (.Call (.Attribute o "append" apos) [e] [] cpos) pos) (iT X.K (jm i f)):=aea (ik (mj F.plainAttrs_list F.slot_list_append F.type_list_append gQ ho (ak he au h0) h1 h2 h3 h0) hs)
def Ql{apos cpos pos:Pos}(ho:PE X o (wK i))(he:PE X e (tP X.K f))(h0:starEach [e] X.env=(false,eval e X.env)::starEach [] X.env:=by rfl)(h1:attributeBase o "extend" X.env (eval o X.env)=eval o X.env:=by rfl)
 (h2:((backTo cpos (starEach [e] X.env)).all (λx=>not x.1)&&(backToKw cpos (keywordEach [] X.env)).all (λx=>x.1.isSome)
   && decide (([e]:List Expr).length+([]:List Keyword).length+(if ([]:List Keyword).isEmpty then 0 else 1)<30))=true:=by rfl) (h3:(apos.endLine==cpos.line)=true:=by rfl) (hs:swapsWith (.Call (.Attribute o "extend" apos) [e] [] cpos) none pos.line X.env=pure false:=by rfl):
 PS X (.Expr (.Call (.Attribute o "extend" apos) [e] [] cpos) pos) (iT X.K (sO i f)):=aeb (ik (mj F.plainAttrs_list F.slot_list_extend F.type_list_extend Im ho (ak he au h0) h1 h2 h3 h0) hs)
end
inductive XR(α:Type) where
 |ok (a:α)
 |xc (C:Str) (Y:Ev)
section
variable {X:Cx}{E:XK}
end
section
variable {P:Program}{w:World}{K:FG}{mg:Str->Option Value}{base:Heap}
end
section
variable {X:Cx}{E:XK}
end
section
variable {X:Cx}
end
section
variable {P:Program}{w:World}{K:FG}{mg:Str->Option Value}{base:Heap}
end
section
variable {X:Cx}{E:XK}
end
section
variable {K:FG}{H0 H:Hp}{Z0:ZG}{U:L2.St}{Y:Ev}{pd:Pd}
end
section
variable {X:Cx}{E:XK}
end
section
variable {X:Cx}
def SR.dkAt(s:SR K H0 Z0 U H Y ((v,.sh (.ptr n))::pd))(hm:Y.mu[n]?=!(!(.dk ks ps))):
 ∃a kvs,v=.ref a/\H a=!(.dK kvs)/\(∀k p,bQ (ks.zip ps) k=!p->∃u,pD kvs k=!u/\SR K H0 Z0 U H Y ((u,.sh p)::(v,.sh (.ptr n))::pd))/\(∀k,bQ (ks.zip ps) k=none->pD kvs k=none)/\
  ∀b,H b=none->SR K H0 Z0 U (upd H b (.dK kvs)) Y ((.ref b,.own (.dk ks ps))::(v,.sh (.ptr n))::pd):=by
 have sdup:=s.part λZ _ r=>r;let(a,rfl,s5):=sdup.cellO hm;let(el,Z,hg,z,so):=s5.top;let(_,ea,(kvs,hu,hk,hr),_):=so.1 _ aaV;cases ea;show#[a,kvs,rfl,hu,λk p hp=>?_,λk hp=>(lA hk hr).val.2 hp,λb hb=>?_]
 . let(u,h1,h2):=(lA hk hr).val.1 p hp;show#[u,h1,?_];have s6:SR K H0 Z0 U H #[Y.vs,Y.mu.set n none] ((u,.sh p)::(.ref a,.own (.dk ks ps))::(.ref a,.sh (.ptr n))::(.ref a,.sh (.ptr n))::pd):=.mk el hg z ((so.perm dh).consS h2);have s7:=s6.perm (((List.Perm.swap _ _ _).cons _).trans (List.Perm.swap _ _ _));show SR.cellB (pe:=pd) hm s7
 . let(z',s'):=(so.perm dh).new (p:=.dk ks ps) z hb #[kvs,cQ,hk,hr];have s6:SR K H0 Z0 U (upd H b (.dK kvs)) #[Y.vs,Y.mu.set n none] ((.ref b,.own (.dk ks ps))::(.ref a,.own (.dk ks ps))::(.ref a,.sh (.ptr n))::(.ref a,.sh (.ptr n))::pd):=.mk el hg z' s';have s7:=s6.perm (((List.Perm.swap _ _ _).cons _).trans (List.Perm.swap _ _ _));show SR.cellB (pe:=pd) hm s7
def xj(fa fb:EF):EF:=λY=>(fa Y).bind λx=>(fb x.2).bind λy=>match x.1.pv,uy y.1.pv with
 |.ptr n,!k=>match y.2.mu[n]? with
  |some (!(.dk ks ps))=>(bQ (ks.zip ps) k).map λp=>(.sh p,y.2)
  |_=>none
 |_,_=>none
def aaj(hu:X.A.units+1<cLine)(ha:PE X a (tP X.K fa))(hb:PE X b (tP X.K fb))(hm:Ew b):PE X (.Subscript a b pos) (tP X.K (xj fa fb)):=PE.imp (Vn (Su hu) ha hb hm) λU H Q q=>by
 let(H0,Z0,Y,pd,l,Y',s,f,k):=q;let(x,h1,h2):=aij f;let(y,h3,h4):=aij h2;show#[H0,Z0,Y,pd,x.1,x.2,s,h1,λv H1 s1=>#[H0,Z0,x.2,_,y.1,y.2,s1,h3,λw H2 s2=>?_]];have s3:=s2.freeze.swap.freeze.swap;split at h4
 . rename_i n kk en ek;split at h4
   . rename_i ks ps em;let(p,h5,h6):=aik h4;cases h6;let(_,rw'):=s3.repH;have ew:=uz ek rw';have s4:=s3.pop;rw[en]at s4;let(a',kvs,rfl,e1,g1,_):=s4.dkAt em;let(u,hu',s5):=g1 kk p h5;show#[a',u,rfl,.inl #[kvs,kk,.inl e1,ew,hu'.symm],k u H2 (s5.sub ((adQ _ _).cons_cons _))]
   . cases h4
 . cases h4
def aet(hu:X.A.units+1<cLine):iB X (compareOp .In) (λx y H Q=>∃a o,y=.ref a/\J1 H a x o/\Q (.bl o.isSome) H):=by intro aki s U H x y v u Q I rx ry h;let(a,o,rfl,g,q):=h;obtain rfl:u=Value.ref a:=ry;show agA hu I g rx λs3 I3=>#[.bl o.isSome,H,I3,rfl,q]
def DY(fa fb:EF):EF:=λY=>(fa Y).bind λx=>(fb x.2).bind λy=>match y.1.pv,uy x.1.pv with
 |.ptr n,!k=>match y.2.mu[n]? with
  |some (!(.dk ks ps))=>!(.sh (.bl (bQ (ks.zip ps) k).isSome),y.2)
  |_=>none
 |_,_=>none
def acu:∀U H Q,tP X.K (DY fa fb) U H Q->R7 (λx y H Q=>∃a o,y=.ref a/\J1 H a x o/\Q (.bl o.isSome) H) (tP X.K fa) (tP X.K fb) U H Q:=λU H Q q=>by
 let(H0,Z0,Y,pd,l,Y',s,f,k):=q;let(x,h1,h2):=aij f;let(y,h3,h4):=aij h2;show#[H0,Z0,Y,pd,x.1,x.2,s,h1,λv H1 s1=>#[H0,Z0,x.2,_,y.1,y.2,s1,h3,λw H2 s2=>?_]];have s3:=s2.freeze.swap.freeze;split at h4
 . rename_i n kk en ek;split at h4
   . rename_i ks ps em;cases h4;let(_,rw'):=s3.repH;have ew:=uz ek rw';have s4:=s3.pop;rw[en]at s4;let(a',kvs,rfl,e1,g1,g2,_):=s4.dkAt em;have e2:(pD kvs kk).isSome=(bQ (ks.zip ps) kk).isSome:=by
      cases h:bQ (ks.zip ps) kk with
      |none=>rw[g2 kk h];rfl
      |some p=>let(u,hu',_):=g1 kk p h;rw[hu'];rfl
     show#[a',pD kvs kk,rfl,.inl #[kvs,kk,.inl e1,ew,rfl],?_];rw[e2];show k _ H2 (s4.pop.scal λ_=>gC _)
   . cases h4
 . cases h4
def agJ(hu:X.A.units+1<cLine)(ha:PE X a (tP X.K fa))(hb:PE X b (tP X.K fb))(hm:behindInMarks .In b=false):PT X (.Compare a [.In] [b] pos) (jF X.K (tT (DY fa fb) aQ)):=
 Vt (PT.imp (R8 (aet hu) ha hb hm) λU H Q q=>acu U H _ q)
def Nz(fo fi fv:EF):SF:=λY=>(fv Y).bind λx=>(fo x.2).bind λo=>(fi o.2).bind λy=>match o.1.pv,uy y.1.pv with
 |.ptr n,!k=>match y.2.mu[n]? with
  |some (!(.dk ks ps))=>if ks.length<100000 then !(.nx #[y.2.vs,y.2.mu.set n (!(eO (fZ (ks.zip ps) k x.1.pv)))]) else none
  |_=>none
 |_,_=>none
def acv(h:PS X (.Assign [.Subscript o ix tpos] e pos) (Oh (tP X.K fv) (U7_ (tP X.K fo) (tP X.K fi) Vr))):PS X (.Assign [.Subscript o ix tpos] e pos) (iT X.K (Nz fo fi fv)):=PS.imp h λD U H q=>by
 let(H0,Z0,Y,pd,fl,s,h,k):=q;let(x,h1,h2):=aij h;let(o,h3,h4):=aij h2;let(y,h5,h6):=aij h4;show#[H0,Z0,Y,pd,x.1,x.2,s,h1,λv H1 s1=>#[H0,Z0,x.2,_,o.1,o.2,s1.freeze,h3,λw H2 s2=>#[H0,Z0,o.2,_,y.1,y.2,s2.freeze,h5,λt H3 s3=>?_]]];split at h6
 . rename_i n kk en ek;split at h6
   . rename_i ks ps em;split at h6
     . cases h6;let(_,rt'):=s3.freeze.repH;have et:=uz ek rt';have s4:=s3.pop;rw[en]at s4;let(a,rfl,s5):=s4.cellO em;have s6:=s5.perm ((List.Perm.swap _ _ _).trans ((List.Perm.swap _ _ _).cons _));let(kvs,hu,hl,s7):=s6.setD;have hn:=(adP.mp em).1;have s8:=s7.cellP ∅;show#[a,_,rfl,.inl #[kvs,kk,hu,et,by rw[hl,sizeLine_eq];lia,rfl],k U _ ?_];have e8:(y.2.mu.set n none).set n (!(eO (fZ (ks.zip ps) kk x.1.pv)))=y.2.mu.set n (!(eO (fZ (ks.zip ps) kk x.1.pv))):=ahd ..;have s9:=s8;rw[e8]at s9;show s9
     . cases h6
   . cases h6
 . cases h6
def Ea(f:EF):EF:=λY=>(f Y).bind λx=>match x.1.pv with
 |.ptr n=>match x.2.mu[n]? with
  |some (!(.dk ks ps))=>!(.own (.dk ks ps),x.2)
  |_=>none
 |_=>none
def aeu(h:PE X (.Call (.Name "dict" p) [e] [] pos) (Lr (λxs H Q=>∃a kvs,xs=[.ref a]/\Rd H a (.dK kvs)/\∀p,H p=none->Q (.ref p) (upd H p (.dK kvs))) (jT X.K (aj f ao)))):PE X (.Call (.Name "dict" p) [e] [] pos) (tP X.K (Ea f)):=PE.imp h λU H Q q=>by
 let(H0,Z0,Y,pd,l,Y',s,h,k):=q;let(x,h1,h2):=aij h;show#[H0,Z0,Y,pd,[x.1],x.2,s,?_,λvs H1 e1 s1=>?_]
 . unfold aj ao;lia
 . let(v,rfl):=Gk e1;have s2:=SR.freeze s1;split at h2
   . rename_i n en;split at h2
     . rename_i ks ps em;cases h2;rw[en]at s2;let(a,kvs,rfl,e1,_,_,g):=s2.dkAt em;show#[a,kvs,rfl,.inl e1,λb hb=>k _ _ ((g b hb).sub ((adQ _ _).cons_cons _))]
     . cases h2
   . cases h2
def Fj(i:Nat)(f:EF):SF:=λY=>match Y.vs[i]? with
 |some (!(.own (.dk _ _)))=>(f Y).bind λy=>match y.1.pv,y.2.vs[i]? with
  |.ptr n,!(!(.own (.dk ks ps)))=>match y.2.mu[n]? with
   |some (!(.dk ls qs))=>if ks.length+ls.length<=100000 then !(.nx (y.2.set i (!(.own (eO (kI (ls.zip qs) (ks.zip ps))))))) else none
   |_=>none
  |_,_=>none
 |_=>none
def acw(h:PS X (.Expr (.Call (.Attribute o "update" apos) [e] [] cpos) pos) (Bj (aa4 (wK i) (tP X.K f)))):PS X (.Expr (.Call (.Attribute o "update" apos) [e] [] cpos) pos) (iT X.K (Fj i f)):=PS.imp h λD U H q=>by
 let(H0,Z0,Y,pd,fl,s,h,k):=q;unfold Fj at h;split at h
 . rename_i ks0 ps0 e0;let(y,h1,h2):=aij h;let(a,ea,s0):=s.takeD e0;let(_,Z,_,z,so):=s0.top;let(_,eb,(kvs0,hu0,_),_):=so.1 _ aaV;cases eb;show#[.ref a,ea,a,rfl,.inl #[kvs0,.inl hu0],H0,Z0,Y,pd,y.1,y.2,s,h1,λw H2 s2=>?_];split at h2
   . rename_i n ks ps en e3;split at h2
     . rename_i ls qs em;split at h2
       . cases h2;have s3:=s2.freeze;rw[en]at s3;let(b,rfl,s5):=s3.cellO em;let(a',ea',s6):=s5.takeD e3;rw[ea]at ea';cases ea';let(el,Z,hg,z,so):=s6.top;let(_,ec,(kvs,hu,hk,hr),_):=so.1 _ aaV;cases ec;have so2:=so.perm (dh.symm.cons _);let(_,ed,(more,hu2,hk2,hr2),_):=so2.1 _ (abl _ aaV);cases ed;have hne:a≠b:=by have nd:=so2.2;have nd':=nd;show λe=>(agT.mp nd').1 (e▸aaV)
         have rm:=il.merge (lA hk2 hr2) (lA hk hr);let(z',s'):=so.write (q:=eO (kI (ls.zip qs) (ks.zip ps))) z #[mF kvs more,cQ,rm.keys,rm.vals];have s7:SR X.K H0 Z0 U (upd H2 a (.dK (mF kvs more))) _ ((.ref a,.own (eO (kI (ls.zip qs) (ks.zip ps))))::(.ref b,.own (.dk ls qs))::(.ref b,.sh (.ptr n))::pd):=.mk el hg z' s';have s8:=s7.put ea;rw[Ev.set_set]at s8;have s9:=SR.cellB (pe:=pd) (Y:=y.2.set i (!(.own (eO (kI (ls.zip qs) (ks.zip ps)))))) em s8;show#[b,kvs,more,rfl,hu,.inl hu2,hne,?_,k U _ s9];have l1:kvs.length=ks.length:=by rw[<-hk,aaW]
         have l2:more.length=ls.length:=by rw[<-hk2,aaW]
         rw[l1,l2,sizeLine_eq];lia
       . cases h2
     . cases h2
   . cases h2
 . cases h
def NB(fo fv:EF):SF:=λY=>(fo Y).bind λo=>match o.1.pv with
 |.ptr n=>match o.2.mu[n]? with
  |some (!(.lst _))=>(fv o.2).bind λy=>match y.1.pv,y.2.mu[n]? with
   |.lst ps,!(!(.lst ws))=>if ws.length+ps.length<=100000 then !(.nx #[y.2.vs,y.2.mu.set n (!(.lst (ws++ps)))]) else none
   |_,_=>none
  |_=>none
 |_=>none
def acx(h:PS X (.Expr (.Call (.Attribute o "extend" apos) [e] [] cpos) pos) (Bj (W0 X.K "list" (GX X.K) (tP X.K fo) (jT X.K (aj fv ao))))):
 PS X (.Expr (.Call (.Attribute o "extend" apos) [e] [] cpos) pos) (iT X.K (NB fo fv)):=PS.imp h λD U H q=>by
 let(H0,Z0,Y,pd,fl,s,h,k):=q;let(o',h1,h2):=aij h;show#[H0,Z0,Y,pd,o'.1,o'.2,s,h1,λv H1 s1=>?_];split at h2
 . rename_i n en;split at h2
   . rename_i ws0 em0;let(y,h3,h4):=aij h2;have s2:=s1.freeze;rw[en]at s2;let(a,rfl,s5):=s2.cellO em0;let(_,Z,_,z,so):=s5.top;let(_,ea,(us,hu,_),_):=so.1 _ aaV;cases ea;show#[.inl #[rfl,us,cW.of hu],H0,Z0,o'.2,_,[y.1],y.2,s2,?_,λvs H2 e2 sv=>?_]
     . unfold aj ao;lia
     . let(v1,rfl):=Gk e2;split at h4
       . rename_i ps ws ep em;split at h4
         . rename_i hz;cases h4;have s3:=SR.freeze sv;rw[ep]at s3;let(a',ea',s6):=s3.swap.cellO em;cases ea';have s7:=s6.perm ((List.Perm.swap _ _ _).trans ((List.Perm.swap _ _ _).cons _));let(b,us2,zs,rfl,hb,hu2,hl,hl2,s8):=s7.extO;have hn:=(adP.mp em).1;have s9:=s8.cellP ∅;show#[a,b,us2,zs,rfl,rfl,hu2,hb,by rw[hl,hl2];show small hz,k U _ ?_];have e8:(y.2.mu.set n none).set n (!(.lst (ws++ps)))=y.2.mu.set n (!(.lst (ws++ps))):=ahd ..;lia
         . cases h4
       . cases h4
   . cases h2
 . cases h2
def Jg(f:EF):TF:=λY=>(f Y).bind λx=>match x.1.pv with
 |.ptr n=>match x.2.mu[n]? with
  |some (!(.lst ws))=>!(not ws.isEmpty,x.2)
  |_=>none
 |_=>none
def afG(ha:PE X a (tP X.K f))(he:∀whole,isTrue a X.env whole=(do let v <-whole;standAt a.pos;holding [v] (truthy v))):PT X a (jF X.K (Jg f)):=PT.imp (Oj ha he) λU H Q q=>by
 let(H0,Z0,Y,pd,b,Y',s,h,k):=q;let(x,h1,h2):=aij h;show#[H0,Z0,Y,pd,x.1,x.2,s,h1,λv H1 s1=>?_];split at h2
 . rename_i n en;split at h2
   . rename_i ws em;cases h2;have s2:=s1.freeze;rw[en]at s2;let(a,vs,rfl,hH,hl,_):=s2.lstAt em;show#[_,.inl #[vs,cW.of hH,?_],k H1 s2.pop];lia
   . cases h2
 . cases h2
def tu(f:EF):EF:=λY=>(f Y).bind λx=>match x.1.pv with
 |.ptr n=>match x.2.mu[n]? with
  |some (!p)=>!(.sh p,#[x.2.vs,x.2.mu.set n none])
  |_=>none
 |_=>none
def XH(h:PE X e (tP X.K f)):PE X e (tP X.K (tu f)):=PE.imp h λU H Q q=>by
 let(H0,Z0,Y,pd,l,Y',s,h,k):=q;let(x,h1,h2):=aij h;show#[H0,Z0,Y,pd,x.1,x.2,s,h1,λv H1 s1=>?_];split at h2
 . rename_i n en;split at h2
   . rename_i p em;cases h2;have s2:=s1.freeze;rw[en]at s2;let(a,rfl,s5):=s2.cellO em;show k _ H1 (s5.freeze.sub ((adQ _ _).cons_cons _))
   . cases h2
 . cases h2
def NK(fo:EF):SF:=λY=>(fo Y).bind λo=>match o.1.pv with
 |.ptr n=>match o.2.mu[n]? with
  |some (!(.lst ws))=>!(.nx #[o.2.vs,o.2.mu.set n (!(.lst []))])
  |_=>none
 |_=>none
def acy(h:PS X (.Expr (.Call (.Attribute o "clear" apos) [] [] cpos) pos) (Bj (Zq X.K "list" W2 (tP X.K fo)))):
 PS X (.Expr (.Call (.Attribute o "clear" apos) [] [] cpos) pos) (iT X.K (NK fo)):=PS.imp h λD U H q=>by
 let(H0,Z0,Y,pd,fl,s,h,k):=q;let(o',h1,h2):=aij h;show#[H0,Z0,Y,pd,o'.1,o'.2,s,h1,λv H1 s1=>?_];split at h2
 . rename_i n en;split at h2
   . rename_i ws em;cases h2;have s2:=s1.freeze;rw[en]at s2;let(a,rfl,s5):=s2.cellO em;let(_,Z,_,z,so):=s5.top;let(_,ea,(us,hu,_),_):=so.1 _ aaV;cases ea;let(us2,hu2,s6):=s5.wrO λ_=>aR.nil;have hn:=(adP.mp em).1;have s7:=s6.cellP ∅;show#[.inl #[rfl,us,cW.of hu],a,us2,rfl,rfl,hu2,k U _ ?_];have e8:(o'.2.mu.set n none).set n (!(.lst []))=o'.2.mu.set n (!(.lst [])):=ahd ..;lia
   . cases h2
 . cases h2
def Ac{es es':List Expr}{x1}{pos:Pos}{f:EF}{g:AF}(ha:PE X (.Tuple es' x1 pos) (tP X.K f))(hr:PA X es (jT X.K g)):PA X (.Tuple es' x1 pos::es) (jT X.K (aj f g)):=ak ha hr rfl
def aev{es es':List Expr}{pos:Pos}{f:EF}{g:AF}(ha:PE X (.List es' pos) (tP X.K f))(hr:PA X es (jT X.K g)):PA X (.List es' pos::es) (jT X.K (aj f g)):=ak ha hr rfl
def aew{es vs:List Expr}{ks:List (Option Expr)}{pos:Pos}{f:EF}{g:AF}(ha:PE X (.Dict ks vs pos) (tP X.K f))(hr:PA X es (jT X.K g)):PA X (.Dict ks vs pos::es) (jT X.K (aj f g)):=ak ha hr rfl
end
section
variable {X:Cx}{E:XK}
end
section
variable {X:Cx}
end
noncomputable def Jh(n:Nat)(bs:Iu):BF:=λp Y=>match p with
 |.ptr m=>match Y.mu[m]? with
  |some (!(.lst ws))=>if ws.length=n then bs ws Y else none
  |_=>none
 |p=>eG n bs p Y
def aex{m:Nat}(h1:g[m]?=!a)(h2:mu[m]?=!(!p)):(!(V.ref a),!(Lc.own p))∈cel g mu:=by unfold cel;show ag2 (i:=m) ?_;rw[List.getElem?_zip_eq_some];show#[by rw[af9,h1];rfl,by rw[af9,h2];rfl]
def acz(h1:Xj K t bs):GS K (Z8 K n t) (Jh n bs):=by
 intro H0 Z0 U H Y pd v p Y' Q s h k;cases p with
 |ptr m=>
  unfold Jh at h;dsimp only at h;split at h
  . rename_i ws em;split at h
    . rename_i hn;let(e,Z,hg,z,r,sl'):=s.sh;let(a,rfl,ga):=r;let(b,eb,(us,hu,hr),_):=sl'.1 _ (agW _ (aex ga em));cases eb;show#[a,us,rfl,.inr (cW.of hu),by rw[hr.length];show hn,h1 H0 Z0 U H Y pd us ws Y' Q hr.length (SR.items e hg z hr sl') h k]
    . cases h
  . cases h
 |_=>show jf h1 H0 Z0 U H Y pd v _ Y' Q s h k
noncomputable def Hi(x:Str)(n:Int):Str:=if n<1 then Str.empty else if (n==1||x.length==0)=true then x else #[(List.replicate n.toNat x.cps).foldl (·++·) (List.toArray [])]
def abf:R2:=λx y H Q=>∃s n,x=.str s/\y=.int n/\0<=n/\n<=1000/\s.length<=10/\(Hi s n).length<=10000/\Q (.str (Hi s n)) H
def acA:iB X (binaryOp .Mult) abf:=by
 intro aki s U H x y v u Q I rx ry h;let(i,n,rfl,rfl,h0,h1,hl,hz,q):=h;let(t,rfl):=rx;let(t',rfl):=ry;show PySem.P.mul_str (by simp;lia) (λhn _=>?_) (λhn _=>?_) ?_
 . have:(10:Int)<=(2 ^ 63-1)/n:=by rw[Int.le_ediv_iff_mul_le ()];lia
   lia
 . have h2:i.length*n.toNat<=10*1000:=Nat.mul_le_mul hl ();unfold Builtin.Str.tooLong;simp;have:(sizeLine:Nat) ≥ 10000:=by decide
   lia
 . have hs:(10000:Nat)<=sizeLine:=by decide
   unfold Hi at q hz;by_cases a:n<1
   . rw[aic a]at q hz ⊢;show#[agf hz hs,.str _,H,I.tok _,#[_,rfl],q]
   . rw[aid a]at q hz ⊢;by_cases b:(n==1||i.length==0)=true
     . rw[aic b]at q hz ⊢;show#[.str _,H,I,#[_,rfl],q]
     . rw[aid b]at q hz ⊢;show#[agf hz hs,.str _,H,I.tok _,#[_,rfl],q]
def aak:PV->PV->Option Lc
 |.str s,.int n=>if 0<=n/\n<=1000/\s.length<=10/\(Hi s n).length<=10000 then !(.sh (.str (Hi s n))) else none
 |_,_=>none
def aal:lg K abf aak:=by
 intro H0 Z0 U Y pd H v w x y l Q s e k;let(g,r1,r2):=s.rep2H;unfold aak at e;split at e
 . split at e
   . rename_i i n hc;cases e;show#[i,n,eY r1,cF r2,hc.1,hc.2.1,hc.2.2.1,hc.2.2.2,k _ H (s.pop.pop.scal wA)]
   . cases e
 . cases e
end PL
namespace Law
open PySem PySem.Spec PyProof.Rows L2 PL
local macro_rules | `(tactic| walk_at "sc")=>`(tactic| exact⟨rfl,rfl,rfl,by decide +kernel,rfl,by decide +kernel,by decide +kernel⟩)
theorem mI{l:List Str}(i:Nat)(h:l[i]?=!a):a∈l:=ag2 h
noncomputable def top(i:Nat):Stmt:=PySem.Challenge.pw_hushwise_k28_budgets.main.body.getD i (.Pass #[0,0,0,0])
abbrev yS:Stmt:=top 5
abbrev Ca:Stmt:=top 6
abbrev pN:Stmt:=top 7
abbrev vZ:Stmt:=top 8
abbrev Cd:Stmt:=top 9
abbrev v5:Stmt:=top 14
abbrev yU:Stmt:=top 15
abbrev Ce:Stmt:=top 16
abbrev vG:Stmt:=top 18
abbrev Fo:Stmt:=top 19
abbrev uA:Stmt:=top 20
abbrev Hj:Stmt:=top 21
abbrev yq:Stmt:=top 22
abbrev uB:Stmt:=top 24
abbrev uT:Stmt:=top 25
abbrev VF:Stmt:=top 26
abbrev Hk:Stmt:=top 27
abbrev yV:Stmt:=top 29
abbrev vH:Stmt:=top 30
abbrev pO:Stmt:=top 31
abbrev yW:Stmt:=top 32
abbrev yX:Stmt:=top 33
abbrev qF:Stmt:=top 34
abbrev v6:Stmt:=top 35
abbrev vI:Stmt:=top 36
abbrev yZ:Stmt:=top 37
abbrev zc:Stmt:=top 38
abbrev jB:Stmt:=top 39
abbrev qX:Stmt:=top 40
abbrev qY:Stmt:=top 41
abbrev uC:Stmt:=top 42
abbrev Cg:Stmt:=top 43
abbrev nj:Stmt:=inClass (top 11) 0
abbrev uD:Stmt:=inClass (top 11) 3
abbrev zf:Stmt:=inClass (top 11) 4
abbrev xm:Stmt:=inClass (top 11) 7
abbrev vJ:Stmt:=inClass (top 11) 8
abbrev oE:Stmt:=inClass (top 23) 0
abbrev qe:Stmt:=inClass (top 23) 1
abbrev oF:Stmt:=inClass (top 23) 2
abbrev tB:Stmt:=inClass (top 23) 3
abbrev tD:Stmt:=inClass (top 23) 4
abbrev rK:Stmt:=inClass (top 23) 5
abbrev tE:Stmt:=inClass (top 23) 6
abbrev rM:Stmt:=inClass (top 23) 7
abbrev rN:Stmt:=inClass (top 23) 8
abbrev tG:Stmt:=inClass (top 23) 9
abbrev uE:Stmt:=inClass (top 23) 10
abbrev oM:Stmt:=inClass (top 23) 11
abbrev nq:Stmt:=inClass (top 23) 12
abbrev rO:Stmt:=top 40
theorem Qm:bw ["row"] ["row"] (aK yS):=by walk_at "sc"
theorem XJ:bw ["row"] ["row"] (aK Ca):=by walk_at "sc"
theorem Nb:bw ["rows"] ["rows"] (aK pN):=by walk_at "sc"
theorem oh:bw ["where","above","block","rows","start","told","row","number","place","inner"] ["where","above","block","rows","start"] (aK vZ):=by walk_at "sc"
theorem ou:bw ["program","told","name","rank","params","rows"] ["program"] (aK Cd):=by walk_at "sc"
theorem RN:bw ["expression","boxes"] ["expression","boxes"] (aK v5):=by walk_at "sc"
theorem Qn:bw ["numbers","place"] ["numbers","place"] (aK yU):=by walk_at "sc"
theorem RP:bw ["sign","one","other"] ["sign","one","other"] (aK Ce):=by walk_at "sc"
theorem Ke:bw ["thing"] ["thing"] (aK vG):=by walk_at "sc"
theorem aam:bw ["size","thing"] ["size","thing"] (aK Fo):=by walk_at "sc"
theorem oN:bw ["program","values","box","thing","name"] ["program","values"] (aK uA):=by walk_at "sc"
theorem yr:bw ["program","values","boxes","box","thing"] ["program","values"] (aK Hj):=by walk_at "sc"
theorem VH:bw ["program","boxes"] ["program","boxes"] (aK yq):=by walk_at "sc"
theorem yt:bw ["program","values","budget","running"] ["program","values","budget"] (aK uB):=by walk_at "sc"
theorem pP:bw ["moments","record","row","time","events"] ["moments"] (aK uT):=by walk_at "sc"
theorem XM:bw ["program","values","budget","running"] ["program","values","budget"] (aK VF):=by walk_at "sc"
theorem XN:bw ["program","values","budget"] ["program","values","budget"] (aK Hk):=by walk_at "sc"
theorem xn:bw ["_law_script","_law_k","_law_cell_here"] ["_law_script","_law_k"] (aK yV):=by walk_at "sc"
theorem Ad:bw ["_law_cell_here","_law_way"] ["_law_cell_here"] (aK vH):=by walk_at "sc"
theorem Nf:bw ["_law_got","_law_due"] ["_law_got","_law_due"] (aK pO):=by walk_at "sc"
theorem tH:bw ["_law_script","_law_k","_law_cell_here","_law_size","_law_at"] ["_law_script","_law_k"] (aK yW):=by walk_at "sc"
theorem jL:bw ["_law_cell_here","_law_scope","_law_nums","_law_lists","_law_heads","_law_who","_law_way","_law_place"] ["_law_cell_here","_law_scope"] (aK yX):=by walk_at "sc"
theorem lM:bw ["_law_cell_here","_law_scope","_law_one","_law_other"] ["_law_cell_here","_law_scope"] (aK qF):=by walk_at "sc"
theorem gZ:bw ["_law_a","_law_b","_law_scope","_law_nums","_law_lists","_law_heads","_law_who","_law_x","_law_way","_law_place","_law_name_here","_law_params","_law_some"] ["_law_a","_law_b","_law_scope"] (aK v6):=by walk_at "sc"
theorem Ae:bw ["_law_a","_law_b","_law_scope","_law_x"] ["_law_a","_law_b","_law_scope"] (aK vI):=by walk_at "sc"
theorem pQ:bw ["_law_levels","_law_with_else","_law_kind","_law_guard","_law_first","_law_rows_here"] ["_law_levels","_law_with_else"] (aK yZ):=by walk_at "sc"
theorem pR:bw ["_law_script","_law_at","_law_turns","_law_scope","_law_levels","_law_k","_law_a","_law_b"] ["_law_script","_law_at","_law_turns","_law_scope"] (aK zc):=by walk_at "sc"
theorem bR:bw ["_law_script","_law_cell_here","_law_shape","_law_boxes","_law_k","_law_size","_law_nums","_law_lists","_law_who","_law_heads","_law_f","_law_some","_law_functions","_law_name_here","_law_params","_law_scope","_law_rows_here"] ["_law_script"] (aK jB):=by walk_at "sc"
theorem qg:bw ["_law_script","_law_program_here","_law_values_here","_law_k","_law_cell_here"] ["_law_script","_law_program_here"] (aK qX):=by walk_at "sc"
theorem mH:bw ["_law_moments","_law_record","_law_k","_law_time","_law_events"] ["_law_moments"] (aK qY):=by walk_at "sc"
theorem gF:bw ["_law_program_here","_law_values_here","_law_record","_law_told","_law_box","_law_value","_law_k","_law_name_here","_law_place","_law_number_here"] ["_law_program_here","_law_values_here","_law_record"] (aK uC):=by walk_at "sc"
theorem nT:bw ["_law_script","_law_program_here","_law_values_here","_law_budget","_law_moments","_law_more","_law_got","_law_far","_law_word","_law_record","_law_due"] ["_law_script"] (aK Cg):=by walk_at "sc"
theorem eZ:bw ["self","program","told","lists","number","one","heads","name","rank","params","rows"] ["self","program"] (aK nj):=by walk_at "sc"
theorem Ji:bw ["self","name"] ["self","name"] (aK uD):=by walk_at "sc"
theorem Qo:bw ["self","k"] ["self","k"] (aK zf):=by walk_at "sc"
theorem Ng:bw ["self","name"] ["self","name"] (aK xm):=by walk_at "sc"
theorem Kf:bw ["self","k","which"] ["self","k","which"] (aK vJ):=by walk_at "sc"
theorem Ci:bw ["self","program","values","budget"] ["self","program","values","budget"] (aK oE):=by walk_at "sc"
theorem Jj:bw ["self","numbers"] ["self","numbers"] (aK qe):=by walk_at "sc"
theorem tK:bw ["self","name","numbers"] ["self","name"] (aK oF):=by walk_at "sc"
theorem xq:bw ["self","due"] ["self"] (aK tB):=by walk_at "sc"
theorem Hl:bw ["self","k","time","events"] ["self","k","time","events"] (aK tD):=by walk_at "sc"
theorem vM:bw ["self","expression","there"] ["self","expression"] (aK rK):=by walk_at "sc"
theorem xx:bw ["self","name","value","holder"] ["self","name","value"] (aK tE):=by walk_at "sc"
theorem FT:bw ["self"] ["self"] (aK rM):=by walk_at "sc"
theorem vN:bw ["self","k","row"] ["self","k"] (aK rN):=by walk_at "sc"
theorem Hm:bw ["self","k","row"] ["self","k","row"] (aK tG):=by walk_at "sc"
theorem lN:bw ["self","k","row","numbers","place","value","events"] ["self","k","row"] (aK uE):=by walk_at "sc"
theorem jC:bw ["self","k","row","values","own","events","param","value"] ["self","k","row"] (aK oM):=by walk_at "sc"
theorem mJ:bw ["self","k","row","own"] ["self","k"] (aK nq):=by walk_at "sc"
theorem mC:bw ["_law_script","_law_program_here","_law_values_here","_law_k","_law_cell_here"] ["_law_script","_law_program_here"] (aK rO):=by walk_at "sc"
def wC:PV:=(.int 1000000000000)
section
variable [HK]
abbrev vic:=aj (aM (aa 0) (akg 3)) ao
abbrev vid:=aj (aM (aa 0) (akg 2)) ao
abbrev vez:=tT (aq eqP (aM (aa 0) (akg 0)) (akh "if")) aQ
abbrev vet:=tT (aq eqP (aM (aa 0) (akg 0)) (akh "while")) aQ
def lW:GF:=cV 1 (aG (bY vez
 (bV (bG (aj (aM (aa 0) (akg 2)) vic)))
 cu)
 (aG (bY vet
 (bV (bG vid))
 cu)
 (bV (bG ao))))
mutual
def nA:Nat->GF
 |0=>λ_ _=>none
 | n+1=>cV 1 (aG (bY vez
  (bV (bz (aj (akh "if") (aj (aM (aa 0) (akg 1)) (aj (aH (gU n) vid) (aj (aH (gU n) vic) ao))))))
  cu)
  (aG (bY vet
  (bV (bz (aj (akh "while") (aj (aM (aa 0) (akg 1)) (aj (aH (gU n) vid) ao)))))
  cu)
  (aG (bY (tT (aq eqP (aM (aa 0) (akg 0)) (akh "call")) aQ)
  (bV (bz (aj (akh "call") (aj (aM (aa 0) (akg 1)) (aj (aM (aa 0) (akg 2)) (aj (eB list1 vic) ao))))))
  cu)
  (qT 0))))
def gU:Nat->GF
 |0=>λ_ _=>none
 |n+1=>cV 1 (bV (dJ (jd (aa 0) dW) 1 [] (aF 0) dw (aH (nA n) (aj (aa 0) ao))))
end
abbrev vhq:=eG 2 (aL (aF 8) (aL (aF 9) dU))
abbrev vey:=aO 7 (oJ (aq bj (aa 4) (eB jt (aj (aa 5) ao))))
abbrev vcg:=jm 5 (bz (aj (aa 0) (aj (aa 1) (aj (aa 2) (aj (aH (nA 40) (aj (aa 6) ao)) ao)))))
abbrev vbo:=aj (aa 0) (aj (aa 7) (aj (aa 8) (aj (aa 9) (aj (oJ (aq bj (aa 4) (eB jt (aj (aa 5) ao)))) ao))))
noncomputable def iQ:Nat->GF
 |0=>λ_ _=>none
 | n+1=>cV 10 (aG (aO 5 (bG ao))
  (aG (jP (jd (aa 3) dW) (aF 6)
  (aG vey
  (aG vcg
  (jP (DW (aH lW (aj (aa 6) ao))) vhq
  (sO 5 (aH (iQ n) vbo))))))
  (qT 5)))
abbrev vgx:=aj (oJ (eB jt (aj (aa 1) ao))) ao
abbrev veu:=aL (aF 2) (aL (aF 3) (aL (aF 4) (aL (aF 5) dU)))
abbrev vea:=eG 4 (aL (aF 2) (aL (aF 3) (aL (aF 4) (aL (aF 5) dU))))
abbrev vbm:=aH (iQ 40) (aj (aa 2) (aj (eC .non) (aj (akg 0) (aj (aa 5) (aj (oJ (eB jt (aj (aa 1) ao))) ao)))))
def Cj:GF:=cV 6 (aG (aO 1 (bG ao))
 (aG (jP (jd (aM (aa 0) (akg 2)) dW) vea
 (sO 1 vbm))
 (aG (sO 1 (aH (iQ 40) (aj (akh "main") (aj (eC .non) (aj (akg 0) (aj (aM (aa 0) (akg 3)) vgx))))))
 (qT 1))))
abbrev vgq:=sU IV qx (akg 0) (aa 1) (bO (aa 0))
def zg:GF:=cV 2 (bV (ug (tT vgq aQ) (cz (aa 0) (aa 1)) (akg 0)))
def Ck:GF:=cV 3 (aG (bY (tT (aq gm (aa 0) (akh "+")) aQ)
 (bV (aq aP (aq bj (aa 1) (aa 2)) (eC wC)))
 cu)
 (aG (bY (tT (aq gm (aa 0) (akh "-")) aQ)
 (bV (aq aP (aq J7 (aa 1) (aa 2)) (eC wC)))
 cu)
 (aG (bY (tT (aq gm (aa 0) (akh "*")) aQ)
 (bV (aq aP (aq cI (aa 1) (aa 2)) (eC wC)))
 cu)
 (aG (bY (tT (aq gm (aa 0) (akh "<")) aQ)
 (bV (ug (tT (aq qx (aa 1) (aa 2)) aQ) (akg 1) (akg 0)))
 cu)
 (bV (ug (tT (aq gm (aa 1) (aa 2)) aQ) (akg 1) (akg 0)))))))
abbrev vhz:=cz (aa 1) (cz (aa 0) (akg 1))
abbrev vga:=aj (cz (aa 0) (akg 2)) (aj (aa 1) ao)
noncomputable def fB:Nat->GF
 |0=>λ_ _=>none
 | n+1=>cV 2 (aG (bY (tT (aq gm (cz (aa 0) (akg 0)) (akh "num")) aQ)
  (bV (cz (aa 0) (akg 1)))
  cu)
  (aG (bY (tT (aq gm (cz (aa 0) (akg 0)) (akh "box")) aQ)
  (bV vhz)
  cu)
  (aG (bY (tT (aq gm (cz (aa 0) (akg 0)) (akh "@")) aQ)
  (bV (aH zg (aj vhz (aj (aH (fB n) vga) ao))))
  cu)
  (bV (aH Ck (aj (cz (aa 0) (akg 0)) (aj (aH (fB n) (aj (cz (aa 0) (akg 1)) (aj (aa 1) ao))) (aj (aH (fB n) vga) ao))))))))
def jQ:GF:=cV 1 (bV (m6 (kE "int" (aa 0)) (m6 (Dy (kE "bool" (aa 0))) (sU IV qx (akg 0) (aa 0) (eC wC)))))
abbrev vdj:=aj (dJ (jd (aa 1) dW) 1 [] (aF 0) dw (aH jQ (aj (aa 0) ao))) ao
def Af:GF:=cV 2 (aG (bY (tT (aq eqP (aa 0) (akg 0)) aQ)
 (bV (aH jQ (aj (aa 1) ao)))
 cu)
 (bV (m6 (kE "list" (aa 1)) (m6 (aq eqP (eB jt (aj (aa 1) ao)) (aa 0)) (eB all1 vdj)))))
abbrev vi:=w5 (aM (aa 0) (akg 0)) (aa 1)
abbrev vhr:=eG 2 (aL (aF 2) (aL (aF 3) dU))
abbrev vdr:=lJ (tT (aH Af (aj (aM (aa 2) (akg 1)) (aj (aa 3) ao))) jJ)
abbrev vdi:=aq lK (eB jt (aj (aa 1) ao)) (eB jt (aj (aM (aa 0) (akg 0)) ao))
def qi:GF:=cV 5 (aG (bY (jZ (lJ (tT (kE "list" (aa 1)) jJ)) (tT vdi aQ))
 Nx
 cu)
 (jP vi vhr
 (aG (aO 4 (aM (aa 2) (akg 0)))
 (bY vdr
 Nx
 cu))))
abbrev vhs:=eG 2 (aL (aF 3) (aL (aF 4) dU))
abbrev vda:=ug (tT (kE "list" (aa 4)) jJ) (cg (eB list1 (aj (aa 4) ao))) (aa 4)
def xG:GF:=cV 5 (aG (aO 2 vf)
 (aG (jP vi vhs
 (qd 2 (aM (aa 3) (akg 0)) vda))
 (qT 2)))
abbrev vgi:=aL (aF 0) (aL (aF 1) (aL (aF 2) dU))
abbrev vfk:=eG 3 (aL (aF 0) (aL (aF 1) (aL (aF 2) dU)))
def yu:GF:=cV 2 (bV (dJ (jd (aM (aa 0) (akg 0)) dW) 3 [1] vfk dw (xj (aa 3) (aa 0))))
abbrev vht:=eG 2 (aL (aF 4) (aL (aF 5) dU))
abbrev vhu:=eG 2 (aL (aF 0) (aL (aF 1) dU))
abbrev vhk:=Fi 3 (Qh (aa 5) qU (my (akg 3)))
abbrev vdx:=eG 4 (aL (aF 7) (aL (aF 8) (aL (aF 9) (aL (aF 10) dU))))
def iW:GF:=cV 11 (aG (aO 2 (aH Cj (aj (aa 1) ao)))
 (aG (aO 3 XF)
 (aG (jP (DW (aa 2)) vht
 (fY vhk (aa 4)))
 (aG (aO 6 vf)
 (aG (jP (jd (aM (aa 1) (akg 2)) dW) vdx
 (qd 6 (aa 7) (dJ (jd (aa 9) dW) 2 [] vhu dw (aa 0))))
 (aG (iM "Plan" "told" (aa 0) (aa 2))
 (aG (iM "Plan" "lists" (aa 0) (Qk (aa 3)))
 (iM "Plan" "heads" (aa 0) (aa 6)))))))))
abbrev vii:=cj "Plan" "lists" (aa 0)
abbrev vfa:=bz (aj (aa 1) (aj (eC .non) (aj (akg 0) ao)))
def pU:GF:=cV 2 (bV (eB list1 (aj (BZ vii vfa) ao)))
abbrev vie:=cj "Running" "due" (aa 0)
abbrev vif:=aj (aa 0) (aj (akg 0) ao)
def j9:GF:=cV 2 (NB vie (dJ (Ny (aa 1)) 1 [] (aF 0) dw (bz vif)))
abbrev vib:=cj "Running" "plan" (aa 0)
abbrev vdk:=bJ "Plan" "body" pU (cj "Running" "plan" (aa 0)) (aj (aa 1) ao)
def jz:GF:=cV 3 (aG (aO 2 vdk)
 (aG (bY (tT (aa 2) jJ)
 (fY vie (bz (aj (aM (aa 2) (gJ (akg 1))) (aj (akg 3) ao))))
 cu)
 (eN (bJ "Running" "lay" j9 (aa 0) (aj (aa 2) ao)))))
abbrev vij:=aj (aa 1) (aj (aa 2) ao)
abbrev vgb:=cg (aH xG (aj (aa 1) (aj (aa 2) ao)))
def iG:GF:=cV 4 (aG (iM "Running" "plan" (aa 0) (yp "Plan" iW (aj (aa 1) ao)))
 (aG (iM "Running" "boxes" (aa 0) vgb)
 (aG (iM "Running" "own" (aa 0) (cg (bG (aj (cg vf) ao))))
 (aG (iM "Running" "budget" (aa 0) (aa 3))
 (aG (iM "Running" "word" (aa 0) (akh "done"))
 (aG (iM "Running" "moments" (aa 0) (cg (bG ao)))
 (aG (iM "Running" "due" (aa 0) (cg (bG ao)))
 (eN (bJ "Running" "lay_body" jz (aa 0) (aj (akh "main") ao))))))))))
abbrev vgr:=aM (cj "Plan" "told" (aa 0)) (aa 1)
abbrev vci:=aj (aM (aM (cj "Plan" "told" (aa 0)) (aa 1)) (akg 0)) (aj (aa 1) (aj (aa 2) ao))
abbrev vbz:=bz (aj (aM (aM (cj "Plan" "told" (aa 0)) (aa 1)) (akg 0)) (aj (aa 1) (aj (aa 2) ao)))
def lC:GF:=cV 3 (bV (eB list1 (aj (BZ vii vbz) ao)))
def jH:GF:=cV 2 (bV (aM vgr (akg 3)))
def mK:GF:=cV 2 (bV (eB list1 (aj (cz (cj "Plan" "heads" (aa 0)) (aa 1)) ao)))
abbrev vgj:=aj (aa 1) (aj (aa 2) (aj (aa 3) ao))
def dB:GF:=cV 4 (fY (cj "Running" "moments" (aa 0)) (bz vgj))
abbrev vfd:=aq IV (cj "Running" "budget" (aa 0)) (akg 0)
def gW:GF:=cV 1 (aG (bY (tT vfd aQ)
 (aG (iM "Running" "word" (aa 0) (akh "spent"))
 (aG (NK vie)
 (bV (eC (.bl false)))))
 cu)
 (aG (iM "Running" "budget" (aa 0) (aq J7 (cj "Running" "budget" (aa 0)) (akg 1)))
 (bV (eC (.bl true)))))
abbrev vig:=cj "Running" "own" (aa 0)
abbrev via:=cj "Running" "boxes" (aa 0)
abbrev vgc:=aH (fB 40) (aj (aa 1) (aj (aa 2) ao))
abbrev vfl:=aM (cj "Running" "own" (aa 0)) (gJ (akg 1))
def cB:GF:=cV 3 (aG (aO 2 (Ea via))
 (aG (Fj 2 vfl)
 (bV (sZ vgc))))
abbrev vih:=aj (aM (aa 2) (akg 2)) ao
abbrev vhv:=eG 2 (aL (aF 6) (aL (aF 7) dU))
abbrev vgy:=bJ "Running" "spend" gW (aa 0) ao
abbrev vft:=tT (bJ "Running" "spend" gW (aa 0) ao) jJ
abbrev vfo:=bz (aj (aa 6) (aj (akg 0) (aj (aa 7) ao)))
abbrev vfe:=sY 4 (fY (cj "Running" "own" (aa 0)) (aa 4))
abbrev vfb:=bJ "Running" "value" cB (aa 1) (aj (aa 0) ao)
abbrev ves:=jm 5 (bz (aj (aa 6) (aj (akg 0) (aj (aa 7) ao))))
abbrev vch:=sY 5 (eN (bJ "Running" "note" dB (aa 0) (aj (aa 1) (aj (akg 1) (aj (aa 5) ao)))))
abbrev vbt:=w5 (bJ "Plan" "params" mK (cj "Running" "plan" (aa 0)) (aj (aM (aa 2) (akg 2)) ao)) (aa 3)
abbrev vbk:=aO 3 (dJ (jd (aM (aa 2) (akg 3)) dW) 1 [0] (aF 0) dw (bJ "Running" "value" cB (aa 1) (aj (aa 0) ao)))
def lQ:GF:=cV 8 (aG (bY (lJ vft)
 Nt
 cu)
 (aG vbk
 (aG (aO 4 (Jc (Vw (aM (aa 2) (akg 2)) (akg 0) aac)))
 (aG (aO 5 (bG ao))
 (aG (jP vbt vhv
 (aG (qd 4 (aa 6) (aa 7))
 ves))
 (aG vfe
 (aG vch
 (aG (fY vie (bz (aj (aa 1) (aj (akg 2) ao))))
 (eN (bJ "Running" "lay_body" jz (aa 0) vih))))))))))
abbrev veb:=DY (aa 1) (aM (cj "Running" "own" (aa 0)) (gJ (akg 1)))
abbrev vao:=ug (tT (DY (aa 1) (aM (cj "Running" "own" (aa 0)) (gJ (akg 1)))) aQ) (aM (cj "Running" "own" (aa 0)) (gJ (akg 1))) (cj "Running" "boxes" (aa 0))
def gG:GF:=cV 4 (aG (aO 3 vao)
 (aG (Nz (aa 3) (aa 1) (aa 2))
 (bV (bz (aj (aa 1) (aj (akg 0) (aj (aa 2) ao)))))))
abbrev vcq:=aq lK (bJ "Running" "value" cB (aa 0) (aj (aM (aa 2) (akg 1)) ao)) (akg 0)
def tL:GF:=cV 3 (bY (dI (tT vcq aQ) vft)
 (aG (fY vie (bz (aj (aa 1) (aj (akg 0) ao))))
 (eN (bJ "Running" "lay" j9 (aa 0) (aj (bJ "Plan" "block" lC vib (aj (aa 1) (aj (akg 0) ao))) ao))))
 cu)
abbrev vel:=xj (cj "Running" "boxes" (aa 0)) (aM (aa 2) (akg 1))
abbrev vdt:=bJ "Running" "value" cB (aa 0) (aj (aM (aa 2) (akg 2)) ao)
abbrev vdu:=bJ "Running" "value" cB (aa 0) (aj (aM (aa 2) (akg 3)) ao)
abbrev vcr:=eN (bJ "Running" "note" dB (aa 0) (aj (aa 1) (aj (akg 1) (aj (aa 6) ao))))
def uF:GF:=cV 7 (aG (aO 3 vel)
 (aG (aO 4 vdt)
 (aG (aO 5 vdu)
 (aG (aO 6 (bG ao))
 (aG (bY (tT (aq qx (aa 4) (bO (aa 3))) aQ)
 (aG (yh (aa 3) (aa 4) (aa 5))
 (jm 6 (bz (aj (aM (aa 2) (akg 1)) (aj (aa 4) (aj (aa 5) ao))))))
 cu)
 (sY 6 vcr))))))
abbrev vcy:=aO 2 (bJ "Plan" "row" jH (cj "Running" "plan" (aa 0)) (aj (aa 1) ao))
abbrev vcn:=aq eqP (bJ "Running" "value" cB (aa 0) (aj (aM (aa 2) (akg 1)) ao)) (akg 0)
abbrev vcj:=eN (bJ "Running" "note" dB (aa 0) (aj (aa 1) (aj (akg 0) (aj (cg (bG ao)) ao))))
abbrev vcd:=tT (aq eqP (bJ "Running" "value" cB (aa 0) (aj (aM (aa 2) (akg 1)) ao)) (akg 0)) aQ
abbrev vat:=bG (aj (bJ "Running" "give" gG (aa 0) (aj (aM (aa 2) (akg 1)) (aj (bJ "Running" "value" cB (aa 0) (aj (aM (aa 2) (akg 2)) ao)) ao))) ao)
def fG:GF:=cV 3 (aG vcy
 (aG vcj
 (bY (tT (aq eqP (aM (aa 2) (akg 0)) (akh "if")) aQ)
 (eN (bJ "Running" "lay" j9 (aa 0) (aj (bJ "Plan" "block" lC vib (aj (aa 1) (aj (ug vcd (akg 1) (akg 0)) ao))) ao)))
 (bY (tT (aq eqP (aM (aa 2) (akg 0)) (akh "while")) aQ)
 (eN (bJ "Running" "look" tL (aa 0) vij))
 (bY (tT (aq eqP (aM (aa 2) (akg 0)) (akh "call")) aQ)
 (eN (bJ "Running" "call" lQ (aa 0) vij))
 (bY (tT (aq eqP (aM (aa 2) (akg 0)) (akh "put")) aQ)
 (eN (bJ "Running" "put" uF (aa 0) vij))
 (eN (bJ "Running" "note" dB (aa 0) (aj (aa 1) (aj (akg 1) (aj (cg vat) ao)))))))))))
abbrev vbh:=bG (aj (bJ "Running" "give" gG (aa 0) (aj (aM (aa 2) (akg 1)) (aj (xj (aa 3) (aM (aa 2) (akg 2))) ao))) ao)
def j4:GF:=cV 4 (aG vcy
 (aG (aO 3 (vY vig))
 (eN (bJ "Running" "note" dB (aa 0) (aj (aa 1) (aj (akg 2) (aj (cg vbh) ao)))))))
abbrev vhw:=vY (cj "Running" "due" (aa 0))
def iC:GF:=cV 2 (aG (aO 1 vhw)
 (bY (tT (aq eqP (aM (aa 1) (akg 1)) (akg 0)) aQ)
 (eN (bJ "Running" "begin" fG (aa 0) (aj (aM (aa 1) (akg 0)) ao)))
 (bY (tT (aq eqP (aM (aa 1) (akg 1)) (akg 2)) aQ)
 (eN (bJ "Running" "come_back" j4 (aa 0) (aj (aM (aa 1) (akg 0)) ao)))
 (eN (bJ "Running" "note" dB (aa 0) (aj (aM (aa 1) (akg 0)) (aj (aM (aa 1) (akg 1)) (aj (cg (bG ao)) ao))))))))
abbrev vhl:=bJ "Running" "step" iC (aa 3) ao
abbrev vgd:=sZ (aH qi (aj (aa 0) (aj (aa 1) ao)))
abbrev vee:=yp "Running" iG (aj (aa 0) (aj (aa 1) (aj (aa 2) ao)))
def mL:GF:=cV 4 (aG (eN vgd)
 (aG (aO 3 vee)
 (aG (qK 5000 (Jg (cj "Running" "due" (aa 3)))
 (eN vhl))
 (qT 3))))
abbrev vfm:=eG 3 (aL (aF 2) (aL (aF 3) (aL (aF 4) dU)))
abbrev vev:=aj (aa 3) (aj (aa 0) (aj (aa 1) (aj (aa 2) ao)))
abbrev veh:=bz (aj (aa 3) (aj (aa 0) (aj (aa 1) (aj (aa 2) ao))))
abbrev vas:=sO 1 (dJ (jd (tu (aa 4)) dW) 3 [2] (eG 3 (aL (aF 0) (aL (aF 1) (aL (aF 2) dU)))) dw (bz (aj (aa 3) (aj (aa 0) (aj (aa 1) (aj (aa 2) ao))))))
def uU:GF:=cV 5 (aG (aO 1 (bG ao))
 (aG (jP (jd (tu (aa 0)) dW) vfm
 vas)
 (qT 1)))
abbrev vff:=aH mL (aj (aa 0) (aj (aa 1) (aj (aa 2) ao)))
abbrev vec:=aH yu (aj (aa 0) (aj (cj "Running" "boxes" (aa 3)) ao))
def v7:GF:=cV 4 (aG (aO 3 vff)
 (bV (bz (aj (cj "Running" "word" (aa 3)) (aj (cg (aH uU (aj (cj "Running" "moments" (aa 3)) ao))) (aj (cg vec) ao))))))
def nC:GF:=cV 3 (bV (cj "Running" "moments" vff))
abbrev vhx:=aj (akg 1) (aj (bO (aa 0)) ao)
abbrev vdb:=aq bj (aq bj (aq cI (aa 1) (aa 1)) (aq cI (akg 11) (aa 1))) (akg 3)
abbrev vbf:=aq bj (aq aP (cz (aa 0) (aq aP (aa 1) (bO (aa 0)))) (akg 1000000000039)) (aq cI (aq bM (aa 1) (bO (aa 0))) (akg 7907))
abbrev vau:=aq aP (aq bj (aq cI (aa 2) (akg 69621)) (aq cI (aq bM (aa 1) (eB max2 (aj (akg 1) (aj (bO (aa 0)) ao)))) (akg 40014))) (akg 2147483629)
def cG:GF:=cV 3 (aG (aO 2 vdb)
 (aG (bY (tT (aq jM (bO (aa 0)) (akg 0)) aQ)
 (aO 2 vbf)
 cu)
 (bV vau)))
def eQ:GF:=cV 2 (aG (aO 1 (aq aP (aa 0) (akg 4)))
 (aG (bY (tT (aq gm (aa 1) (akg 0)) aQ)
 (bV (aq aP (aq bM (aa 0) (akg 4)) (akg 6)))
 cu)
 (aG (bY (tT (aq gm (aa 1) (akg 1)) aQ)
 (bV (aq J7 (aq J7 (aq Vu (akg 10) (akg 12)) (akg 1)) (aq aP (aq bM (aa 0) (akg 4)) (akg 4))))
 cu)
 (aG (bY (tT (aq gm (aa 1) (akg 2)) aQ)
 (bV (aq bj (akg 999997) (aq aP (aq bM (aa 0) (akg 4)) (akg 7))))
 cu)
 (bV (aq aP (aq cI (aa 0) (akg 465661287)) (aq Vu (akg 10) (akg 12))))))))
abbrev vgz:=cZ (aj (eB jt (aj (aa 1) ao)) ao)
abbrev vew:=aj (aM (aa 1) (aa 0)) (aj (aM (aa 2) (aa 0)) ao)
abbrev veo:=tT (aq lK (kE "list" (aa 0)) (kE "list" (aa 1))) aQ
abbrev vei:=tT (aq lK (kE "tuple" (aa 0)) (kE "tuple" (aa 1))) aQ
noncomputable def eU:Nat->GF
 |0=>λ_ _=>none
 | n+1=>cV 2 (aG (bY (tT (aah ["list","tuple"] (aa 1)) jJ)
  (aG (bY (jZ veo vei)
  (bV (eC (.bl false)))
  cu)
  (bV (m6 (aq eqP (eB jt (aj (aa 0) ao)) (eB jt (aj (aa 1) ao))) (eB all1 (aj (dJ vgz 1 [0,1] (aF 0) dw (aH (eU n) vew)) ao)))))
  cu)
  (aG (bY (tT (kE "str" (aa 1)) jJ)
  (bV (m6 (kE "str" (aa 0)) (aq eqP (aa 0) (aa 1))))
  cu)
  (aG (bY (tT (aq uq (aa 1) (eC .non)) aQ)
  (bV (aq uq (aa 0) (eC .non)))
  cu)
  (bV (m6 (kE "int" (aa 0)) (m6 (Dy (kE "bool" (aa 0))) (aq eqP (aa 0) (aa 1))))))))
abbrev vgl:=aq gm (aq aP (aa 2) (akg 3)) (akg 0)
abbrev vfx:=aO 2 (aH cG (aj (aa 0) (aj (akg 0) ao)))
abbrev vfn:=aO 3 (aq aP (aq bM (aa 2) (akg 3)) (akg 8))
abbrev vdp:=aO 4 (aq aP (aq bM (aa 2) (akg 24)) (aq bj (aa 3) (akg 1)))
def ie:GF:=cV 5 (aG vfx
 (aG (bY (tT vgl aQ)
 (bV (aq bj (aq aak (akh "a") (aq aP (aa 1) (akg 8))) (cz (akh "abcdefgh") (aq bM (aa 1) (akg 8)))))
 cu)
 (aG vfn
 (aG vdp
 (bV (aq bj (aq bj (ux (akh "ridgepo") qU (my (aa 4))) (cz (akh "abcdefghijklmnopqrstuvwxyz") (aa 1))) (ux (akh "ridgepo") (my (aa 4)) (my (aa 3)))))))))
abbrev vha:=tT (aq jM (bO (aa 3)) (akg 0)) aQ
abbrev vej:=aq gm (aq aP (aq bM (aa 0) (akg 36)) (akg 2)) (akg 1)
abbrev vdl:=tT (aq gm (aq aP (aq bM (aa 0) (akg 36)) (akg 2)) (akg 1)) aQ
abbrev vbu:=aO 7 (bz (aj (akh "box") (aj (cz (aa 2) (aq aP (aq bM (aa 0) (akg 72)) (bO (aa 2)))) ao)))
def gk:GF:=cV 8 (aG (rG (aa 1) vea)
 (aG (aO 6 (aq aP (aa 0) (akg 4)))
 (aG (bY (tT (aq gm (aa 6) (akg 0)) aQ)
 (bV (bz (aj (akh "num") (aj (cz (bG (aj (aq aP (aq bM (aa 0) (akg 8)) (akg 4)) (aj (aH eQ (aj (aq bM (aa 0) (akg 8)) ao)) ao))) (aq aP (aq bM (aa 0) (akg 4)) (akg 2))) ao))))
 cu)
 (aG (bY (dI (tT (aq gm (aa 6) (akg 1)) aQ) vha)
 (aG (aO 7 (bz (aj (akh "num") (aj (aq aP (aq bM (aa 0) (akg 4)) (akg 9)) ao))))
 (aG (bY vdl
 vbu
 cu)
 (bV (bz (aj (akh "@") (aj (cz (aa 3) (aq aP (aq bM (aa 0) (akg 216)) (bO (aa 3)))) (aj (aa 7) ao)))))))
 cu)
 (bV (bz (aj (akh "box") (aj (cz (aa 2) (aq aP (aq bM (aa 0) (akg 4)) (bO (aa 2)))) ao))))))))
abbrev vgm:=aq gm (aq aP (aa 0) (akg 3)) (akg 0)
abbrev vem:=aq gm (aq aP (aq bM (aa 0) (akg 3)) (akg 4)) (akg 0)
abbrev vdn:=tT (aq gm (aq aP (aq bM (aa 0) (akg 3)) (akg 4)) (akg 0)) aQ
abbrev vbl:=aO 2 (bz (aj (cz (akh "+-*<=") (aq aP (aq bM (aa 0) (akg 12)) (akg 5))) (aj (aa 3) (aj (aa 2) ao))))
def dM:GF:=cV 4 (aG (bY (tT vgm aQ)
 (bV (aH gk (aj (aq bM (aa 0) (akg 3)) (aj (aa 1) ao))))
 cu)
 (aG (aO 2 (aH gk (aj (aq aP (aq cI (aa 0) (akg 48271)) (akg 2147483563)) (aj (aa 1) ao))))
 (aG (aO 3 (aH gk (aj (aq aP (aq cI (aa 0) (akg 16807)) (akg 2147483587)) (aj (aa 1) ao))))
 (aG (bY vdn
 vbl
 cu)
 (bV (bz (aj (cz (akh "+-*<=") (aq aP (aq bM (aa 0) (akg 60)) (akg 5))) (aj (aa 2) (aj (aa 3) ao)))))))))
abbrev vhb:=tT (aq jM (bO (aa 4)) (akg 0)) aQ
abbrev vhc:=tT (aq jM (bO (aa 5)) (akg 0)) aQ
abbrev vhd:=eG 2 (aL (aF 10) (aL (aF 11) dU))
abbrev vfy:=aj (aH dM (aj (aa 1) (aj (aa 2) ao))) ao
abbrev vek:=aq gm (aq aP (aq bM (aa 0) (akg 12)) (akg 2)) (akg 0)
abbrev vef:=cz (aa 5) (aq aP (aq bM (aa 0) (akg 144)) (bO (aa 5)))
abbrev vdy:=aO 9 (aH gk (aj (aq bM (aa 0) (akg 24)) (aj (aa 2) ao)))
abbrev vdo:=aO 7 (cz (aa 3) (aq aP (aq bM (aa 0) (akg 12)) (bO (aa 3))))
abbrev vdm:=tT (aq gm (aq aP (aq bM (aa 0) (akg 12)) (akg 2)) (akg 0)) aQ
abbrev vdc:=rG (aa 2) (eG 4 (aL (aF 3) (aL (aF 4) (aL (aF 5) (aL (aF 6) dU)))))
abbrev vcz:=dI (tT (aq qx (aa 8) (akg 2)) aQ) (tT (aq jM (bO (aa 4)) (akg 0)) aQ)
abbrev vcs:=aO 9 (bz (aj (akh "num") (aj (aq aP (aq bM (aa 0) (akg 24)) (akg 9)) ao)))
abbrev vct:=aq Gm (aa 8) (bz (aj (akg 3) (aj (akg 4) (aj (akg 10) (aj (akg 11) ao)))))
abbrev vce:=tT (aq Gm (aa 8) (bz (aj (akg 3) (aj (akg 4) (aj (akg 10) (aj (akg 11) ao)))))) aQ
abbrev vbb:=aH gk (aj (aq aP (aq cI (aq bj (aa 1) (akg 1)) (aq bj (aq cI (aa 0) (akg 40014)) (akg 48271))) (akg 2147483563)) (aj (aa 2) ao))
abbrev vap:=bV (bz (aj (akh "put") (aj (cz (aa 4) (aq aP (aq bM (aa 0) (akg 216)) (bO (aa 4)))) (aj (aa 9) (aj (aH dM (aj (aa 1) (aj (aa 2) ao))) ao)))))
abbrev vaq:=bV (bz (aj (akh "out") (aj (aa 7) (aj (aH dM (aj (aa 1) (aj (aa 2) ao))) (aj (cz (aa 6) (aq aP (aq bM (aa 0) (akg 144)) (bO (aa 6)))) ao)))))
abbrev vah:=dJ (cZ (aj (bO (aa 11)) ao)) 1 [1,2] (aF 0) dw (aH gk (aj (aq aP (aq cI (aq bj (aa 1) (akg 1)) (aq bj (aq cI (aa 0) (akg 40014)) (akg 48271))) (akg 2147483563)) (aj (aa 2) ao)))
def tM:GF:=cV 13 (aG vdc
 (aG vdo
 (aG (aO 8 (aq aP (aa 0) (akg 12)))
 (aG (bY vcz
 (aG vcs
 (aG (bY vdm
 vdy
 cu)
 vap))
 cu)
 (aG (bY (tT (aq gm (aa 8) (akg 2)) aQ)
 vaq
 cu)
 (aG (bY (dI vce vhc)
 (aG (rG vef vhd)
 (aG (aO 12 vah)
 (bV (bz (aj (akh "call") (aj (aa 7) (aj (aa 10) (aj (aa 12) ao))))))))
 cu)
 (bV (bz (aj (akh "set") (aj (aa 7) vfy))))))))))
abbrev vgw:=bz (aj (akh "box") (aj (aa 3) ao))
abbrev vge:=aq qx (aq aP (aa 0) (akg 12)) (akg 9)
abbrev vcu:=aj (aH dM (aj (aa 1) (aj (aa 2) ao))) (aj (eC .non) (aj (cg (bG ao)) ao))
def nU:GF:=cV 4 (aG (bY (tT vge aQ)
 (bV (cg (bG (aj (akh "if") vcu))))
 cu)
 (aG (bY vdm
 (bV (cg (bG (aj (akh "while") vcu))))
 cu)
 (aG (aO 3 (cz (cz (aa 2) (akg 0)) (aq aP (aq bM (aa 0) (akg 24)) (bO (cz (aa 2) (akg 0))))))
 (bV (cg (bG (aj (akh "while") (aj vgw (aj (eC .non) (aj (cg (bG (aj (bz (aj (akh "set") (aj (aa 3) (aj (bz (aj (akh "-") (aj vgw (aj (bz (aj (akh "num") (aj (akg 1) ao))) ao)))) ao)))) ao))) ao))))))))))
abbrev vil:=aq uq (aa 4) (eC .non)
abbrev vhy:=tT (aq uq (aa 4) (eC .non)) aQ
abbrev vhn:=tT (aq eqP (aa 2) (akh "if")) aQ
abbrev vgs:=tT (aq eqP (aa 2) (akh "while")) aQ
abbrev vgt:=aM (aM (aa 0) (gJ (akg 1))) (akg 3)
abbrev ver:=dI (tT (aq uq (aa 4) (eC .non)) aQ) (tT (aa 1) jJ)
abbrev vdq:=bG (aj (aa 2) (aj (aa 3) (aj (aa 5) (aj (cg (bG ao)) ao))))
abbrev vcb:=fY (aM (aM (aa 0) (gJ (akg 1))) (akg 3)) (bz (aj (aa 2) (aj (aa 3) (aj (aa 5) ao))))
abbrev vca:=rG (aM (aa 0) (gJ (akg 1))) (Jh 4 (aL (aF 2) (aL (aF 3) (aL (aF 4) (aL (aF 5) dU)))))
abbrev vbp:=fY (aM (aM (aa 0) (gJ (akg 1))) (akg 3)) (bz (aj (aa 2) (aj (aa 3) (aj (aa 4) (aj (aa 5) ao)))))
abbrev vbj:=fY (aM (aM (aa 0) (gJ (akg 1))) (akg 3)) (bz (aj (aa 2) (aj (aa 3) (aj (aa 5) (aj (cg (bG ao)) ao)))))
def j6:GF:=cV 6 (aG vca
 (aG (bY (dI vhn ver)
 (aG (yh (aa 0) (gJ (akg 1)) (cg vdq))
 Nt)
 cu)
 (aG (eN (vY (aa 0)))
 (bY vgs
 vcb
 (bY vhy
 vbj
 vbp)))))
abbrev vim:=aM (aa 4) (gJ (akg 1))
abbrev vhf:=tT (aq qx (bO (aa 4)) (akg 5)) aQ
abbrev vhg:=tT (aq jM (bO (aa 4)) (akg 1)) aQ
abbrev vgf:=aq jM (aq aP (aa 6) (akg 12)) (akg 9)
abbrev vfg:=bz (aj (akg 7) (aj (akg 8) (aj (akg 9) ao)))
abbrev vfc:=tT (aq jM (aq aP (aa 6) (akg 12)) (akg 9)) aQ
abbrev vdz:=fY (aa 4) (aH nU (aj (aa 6) (aj (aa 7) (aj (aa 3) ao))))
abbrev vdd:=bG (aj (akh "") (aj (eC .non) (aj (eC .non) (aj (cg (bG ao)) ao))))
abbrev vcx:=aO 6 (aH cG (aj (aa 0) (aj (aq bj (aa 1) (aq cI (akg 2) (aa 5))) ao)))
abbrev vcv:=cg (bG (aj (akh "") (aj (eC .non) (aj (eC .non) (aj (cg (bG ao)) ao)))))
abbrev vcw:=eN (aH j6 (aj (aa 4) (aj (aq eqP (aq aP (aa 6) (akg 12)) (akg 10)) ao)))
abbrev vcc:=tT (aq Gm (aq aP (aa 6) (akg 12)) (bz (aj (akg 7) (aj (akg 8) (aj (akg 9) ao))))) aQ
abbrev vbw:=aO 7 (aH cG (aj (aa 0) (aj (aq bj (aq bj (aa 1) (aq cI (akg 2) (aa 5))) (akg 1)) ao)))
abbrev vbx:=dI (tT (aq jM (aq aP (aa 6) (akg 12)) (akg 9)) aQ) (tT (aq jM (bO (aa 4)) (akg 1)) aQ)
abbrev vbv:=fY (aM (aM (aa 4) (gJ (akg 1))) (akg 3)) (aH tM (aj (aa 6) (aj (aa 7) (aj (aa 3) ao))))
abbrev vbq:=aO 4 (Ja (aj (cg (bG (aj (akh "") (aj (eC .non) (aj (eC .non) (aj (cg (bG ao)) ao)))))) ao))
abbrev vbd:=dI (tT (aq Gm (aq aP (aa 6) (akg 12)) (bz (aj (akg 7) (aj (akg 8) (aj (akg 9) ao))))) aQ) (tT (aq qx (bO (aa 4)) (akg 5)) aQ)
def lX:GF:=cV 8 (aG vbq
 (aG (jP (cZ (aj (aa 2) ao)) (aF 5)
 (aG vcx
 (aG vbw
 (bY vbd
 vdz
 (bY vbx
 vcw
 vbv)))))
 (aG (qK 40 vhg
 (eN (aH j6 (aj (aa 4) (aj (eC (.bl false)) ao)))))
 (bV (Ab (aM (aM (aa 4) (akg 0)) (akg 3)))))))
abbrev vho:=bz (aj (aa 0) (aj (eC .non) ao))
abbrev vhh:=aj (oJ (eB jt (aj (aa 9) ao))) ao
abbrev vhi:=aH cG (aj (aa 0) (aj (akg 3) ao))
abbrev vgg:=aq bj (akg 11) (aq cI (akg 3) (aa 2))
abbrev vfu:=tT (aq jM (aM (aa 0) (akg 1)) (akg 0)) aQ
abbrev vfp:=tT (aq eqP (aM (aa 0) (akg 1)) (akg 0)) aQ
abbrev vfh:=aj (aq bj (akg 1) (aq aP (aa 1) (akg 8))) ao
abbrev vex:=aj (aa 6) (aj (aa 7) (aj (aa 9) (aj (aa 8) ao)))
abbrev vdv:=rG (aM (aa 9) (aa 10)) (eG 2 (aL (aF 13) (aL (aF 14) dU)))
abbrev vco:=aO 5 (aq bj (akg 1) (aq aP (aq bj (aq iK (aa 1) (akg 64)) (aa 4)) (akg 8)))
abbrev vcm:=jm 3 (bz (aj (aH ie (aj (aa 0) (aj (aa 4) ao))) (aj (aa 5) (aj (eC .non) ao))))
abbrev vck:=aH ie (aj (aa 1) (aj (aq bj (aq bj (akg 11) (aq cI (akg 3) (aa 2))) (aa 0)) ao))
abbrev vcf:=jm 9 (bz (aj (aH ie (aj (aa 0) (aj (aq bj (akg 8) (aa 10)) ao))) (aj (aa 11) ao)))
abbrev vby:=aO 8 (bG (aj (aH ie (aj (aa 0) (aj (aq aP (aq iK (aa 2) (akg 256)) (akg 8)) ao))) ao))
abbrev vbn:=aj (aq aP (aq iK (aa 2) (aM (bG (aj (akg 4) (aj (akg 16) (aj (akg 64) ao)))) (aa 10))) (akg 4)) ao
abbrev vbi:=aO 15 (bz (aj (aq bj (aq bj (aa 6) (aa 14)) (bG (aj (aa 13) ao))) (aj (aa 7) (aj (aa 9) (aj (aa 8) ao)))))
abbrev vaz:=jm 12 (bz (aj (aa 13) (aj (eC .non) (aj (dJ (jd (aa 14) dW) 1 [] (aF 0) dw (bz (aj (aa 0) (aj (eC .non) ao)))) (aj (aa 16) ao)))))
abbrev vaw:=bV (bz (aj (aa 3) (aj (bG (aj (bz (aj (aM (aa 8) (akg 0)) (aj (akh "high") (aj (akh "low") ao)))) ao)) (aj (aa 12) (aj (aa 16) ao)))))
abbrev vam:=aO 16 (aH lX (aj (aa 0) (aj (akg 24) (aj (aq aP (aH cG (aj (aa 0) (aj (akg 3) ao))) (akg 19)) (aj (bz (aj (aa 6) (aj (aa 7) (aj (aa 9) (aj (aa 8) ao))))) ao)))))
abbrev vaf:=aO 16 (aH lX (aj (aa 0) (aj (aq bj (akg 6) (aq cI (akg 6) (aa 10))) (aj (aq aP (aq iK (aa 2) (aM (bG (aj (akg 2048) (aj (akg 8192) (aj (akg 32768) ao)))) (aa 10))) (akg 4)) (aj (aa 15) ao)))))
abbrev vad:=aO 11 (dJ (cZ (aj (aq aP (aq iK (aa 2) (aM (bG (aj (akg 4) (aj (akg 16) (aj (akg 64) ao)))) (aa 10))) (akg 4)) ao)) 1 [0,10] (aF 0) dw (aH ie (aj (aa 1) (aj (aq bj (aq bj (akg 11) (aq cI (akg 3) (aa 2))) (aa 0)) ao))))
abbrev vac:=dI (tT (aq lK (aa 4) (aq aP (aq iK (aa 1) (akg 8)) (aq bj (akg 1) (aq aP (aa 1) (akg 8))))) aQ) (tT (aq eqP (aq aP (aq aP (aq cI (aq cI (aq bj (aq iK (aa 1) (akg 64)) (akg 1)) (aq bj (aa 4) (akg 2))) (akg 48271)) (akg 65537)) (akg 3)) (akg 0)) aQ)
def kh:GF:=cV 17 (aG (aO 1 (aH cG (aj (aa 0) (aj (akg 1) ao))))
 (aG (aO 2 (aH cG (aj (aa 0) (aj (akg 2) ao))))
 (aG (aO 3 (bG ao))
 (aG (jP (cZ vfh) (aF 4)
 (aG (aO 5 (akg 0))
 (aG (bY vac
 vco
 cu)
 vcm)))
 (aG (aO 6 (dJ (jd (aa 3) dW) 1 [] (aF 0) vfp (aM (aa 0) (akg 0))))
 (aG (aO 7 (dJ (jd (aa 3) dW) 1 [] (aF 0) vfu (aM (aa 0) (akg 0))))
 (aG vby
 (aG (aO 9 (bG ao))
 (aG (jP (cZ (aj (aq aP (aa 2) (akg 4)) ao)) (aF 10)
 (aG vad
 vcf))
 (aG (aO 12 (bG ao))
 (aG (jP (cZ vhh) (aF 10)
 (aG vdv
 (aG vbi
 (aG vaf
 vaz))))
 (aG vam
 vaw))))))))))))
abbrev vgv:=cZ (aj (bO (cz (aa 1) (akg 0))) ao)
abbrev vfq:=cz (cz (cz (aa 1) (akg 0)) (aa 3)) (akg 1)
abbrev vdg:=tT (aq gm (cz (cz (cz (aa 1) (akg 0)) (aa 3)) (akg 1)) (akg 0)) aQ
abbrev vcl:=aH eQ (aj (aq aP (aq cI (aa 1) (aq bj (aa 0) (akg 16807))) (akg 2147483587)) ao)
abbrev vbe:=cz (bG (aj (aq aP (aq bM (aa 4) (akg 2)) (akg 6)) (aj (aH eQ (aj (aq bM (aa 4) (akg 2)) ao)) ao))) (aq aP (aa 4) (akg 2))
abbrev vbc:=jm 2 (cz (bG (aj (aq aP (aq bM (aa 4) (akg 2)) (akg 6)) (aj (aH eQ (aj (aq bM (aa 4) (akg 2)) ao)) ao))) (aq aP (aa 4) (akg 2)))
abbrev vba:=aO 4 (aq aP (aq cI (aq bj (aH cG (aj (aa 0) (aj (akg 4) ao))) (aa 3)) (aq bj (aq cI (aa 3) (aa 3)) (akg 40014))) (akg 2147483563))
abbrev van:=dJ (cZ (aj (cz (cz (cz (aa 1) (akg 0)) (aa 3)) (akg 1)) ao)) 1 [4] (aF 0) dw (aH eQ (aj (aq aP (aq cI (aa 1) (aq bj (aa 0) (akg 16807))) (akg 2147483587)) ao))
abbrev vak:=jm 2 (dJ (cZ (aj (cz (cz (cz (aa 1) (akg 0)) (aa 3)) (akg 1)) ao)) 1 [4] (aF 0) dw (aH eQ (aj (aq aP (aq cI (aa 1) (aq bj (aa 0) (akg 16807))) (akg 2147483587)) ao)))
def lD:GF:=cV 5 (aG (aO 2 (bG ao))
 (aG (jP vgv (aF 3)
 (aG vba
 (bY vdg
 vbc
 vak)))
 (qT 2)))
abbrev vav:=sO 1 (dJ (jd (aa 4) dW) 3 [2] (eG 3 (aL (aF 0) (aL (aF 1) (aL (aF 2) dU)))) dw (bz (aj (aa 3) (aj (aa 0) (aj (aa 1) (aj (aa 2) ao))))))
def qZ:GF:=cV 5 (aG (aO 1 (bG ao))
 (aG (jP (jd (aa 0) dW) vfm
 vav)
 (qT 1)))
abbrev vhj:=aq eqP (aa 7) (aM (aa 4) (akg 0))
abbrev vfv:=tT (aq eqP (aa 7) (aM (aa 4) (akg 0))) aQ
abbrev ved:=eG 4 (aL (aF 6) (aL (aF 7) (aL (aF 8) (aL (aF 9) dU))))
abbrev vbr:=dI (tT (aq eqP (aa 7) (aM (aa 4) (akg 0))) aQ) (tT (aq eqP (aM (aa 4) (akg 1)) (akg 0)) aQ)
def qj:GF:=cV 10 (aG (aO 3 (bG ao))
 (aG (jP vi vht
 (aG (jP (jd (aa 2) dW) ved
 (bY vbr
 (aO 5 (aa 9))
 (bY vfv
 (yh (aa 5) (aa 8) (aa 9))
 cu)))
 (jm 3 (aa 5))))
 (qT 3)))
abbrev vaj:=jm 2 (cg (dJ (cZ (aj (cz (cz (cz (aa 1) (akg 0)) (aa 3)) (akg 1)) ao)) 1 [4] (aF 0) dw (aH eQ (aj (aq aP (aq cI (aa 1) (aq bj (aa 0) (akg 16807))) (akg 2147483587)) ao))))
def nD:GF:=cV 5 (aG (aO 2 (bG ao))
 (aG (jP vgv (aF 3)
 (aG vba
 (bY vdg
 vbc
 vaj)))
 (qT 2)))
abbrev vgh:=tT (aq jM (bO (aa 5)) (bO (aa 4))) aQ
abbrev vfz:=aO 2 (aH lD (aj (aa 0) (aj (aa 1) ao)))
abbrev vfr:=lL (tT (aq jM (bO (aa 5)) (bO (aa 4))) aQ)
abbrev vfs:=fY (aM (aa 6) (akg 2)) (aM (aa 6) (akg 1))
abbrev vep:=aO 4 (aH nC (aj (aa 1) (aj (aa 2) (aj (aa 3) ao))))
abbrev veq:=aO 6 (aH v7 (aj (aa 1) (aj (aa 2) (aj (aa 3) ao))))
abbrev vdw:=aO 3 (aq aP (aH cG (aj (aa 0) (aj (akg 5) ao))) (akg 20))
abbrev vdh:=aj (aH v7 (aj (aa 1) (aj (aa 2) (aj (aa 3) ao)))) (aj (aa 10) ao)
abbrev vde:=aO 5 (aH nC (aj (aa 1) (aj (aa 2) (aj (aq bj (aa 3) (akg 1)) ao))))
abbrev vdf:=aO 7 (aH v7 (aj (aa 1) (aj (aa 2) (aj (aq bj (aa 3) (akg 1)) ao))))
abbrev vbs:=aq eqP (Ab (aH nC (aj (aa 1) (aj (aa 2) (aj (aa 3) ao))))) (ux (aa 4) qU (my (gJ (akg 1))))
abbrev vbg:=aO 10 (bz (aj (aa 8) (aj (aa 9) (aj (aH qj (aj (aa 1) (aj (aH nD (aj (aa 0) (aj (aa 1) ao))) (aj (aa 9) ao)))) ao))))
abbrev vay:=lL (jZ (lJ (tT (kE "list" (aa 4)) jJ)) (jZ (lJ (tT (kE "list" (aa 5)) jJ)) (tT (aq lK (aa 4) (ux (aa 5) qU (my (bO (aa 4))))) aQ)))
abbrev vax:=jZ (lJ (tT (qO (eU 40) (aj (aa 6) (aj (aa 10) ao))) jJ)) (dI (tT (aq eqP (aa 8) (akh "done")) aQ) (lL (tT (aq lK (aa 7) (aa 6)) aQ)))
abbrev vai:=lL (jZ (tT (aq eqP (bO (aa 4)) (akg 0)) aQ) (jZ (tT (aq lK (aM (aM (aa 4) (gJ (akg 1))) (akg 1)) (akg 0)) aQ) (tT (aq lK (aM (aM (aa 4) (gJ (akg 1))) (akg 2)) (bG ao)) aQ)))
abbrev vae:=lL (jZ (tT (aq lK (ux (aM (aa 7) (akg 1)) qU (my (eB jt (aj (aa 9) ao)))) (aa 9)) aQ) (jZ (tT (aq lK (aa 1) (aH kh (aj (aa 0) ao))) aQ) (tT (aq lK (aa 2) (aH lD (aj (aa 0) (aj (aa 1) ao)))) aQ)))
def NP:GF:=cV 11 (aG (aO 1 (aH kh (aj (aa 0) ao)))
 (aG vfz
 (aG vdw
 (aG vep
 (aG vde
 (aG veq
 (aG vdf
 (aG (bY vay
 (bV (eC (.bl false)))
 cu)
 (aG (aO 8 (akh "done"))
 (aG (bY vfr
 (aG (aO 8 (akh "spent"))
 (bY vai
 (bV (eC (.bl false)))
 cu))
 cu)
 (aG (aO 9 (qO qZ (aj (aa 4) ao)))
 (aG vbg
 (aG (bY vax
 (bV (eC (.bl false)))
 cu)
 (aG (bY vae
 (bV (eC (.bl false)))
 cu)
 (aG vfs
 (aG (fY (aa 4) (akg 3))
 (bV (m6 (qO (eU 40) vdh) (sZ vbs)))))))))))))))))))
variable {P:Program}{w:World}{K:FG}{mg:Str->Option Value}{base:Heap}
theorem Fp(h:∃t,X.mg "LIMIT"=!(.int 1000000000000 t))(hg:Gl X "LIMIT"):PE X (.Name "LIMIT" pos) (tP X.K (eC wC)):=by let(t,h):=h;show qc (abL (v:=.int 1000000000000) hg h #[_,rfl]) iD
noncomputable abbrev BL:List Str:=["ValueError","all","bool","dict","enumerate","int","isinstance","len","list","max","range","reversed","str","tuple","zip"]
section
variable {mg:Str->Option Value}(B:S9 mg BL)
include B
theorem aey:mg "ValueError"=none:=B _ (.head _)
theorem abg:mg "all"=none:=B _ ()
theorem XQ:mg "bool"=none:=B _ ()
theorem aez:mg "dict"=none:=B _ ()
theorem Gp:mg "enumerate"=none:=B _ ()
theorem abh:mg "int"=none:=B _ ()
theorem dN:mg "isinstance"=none:=B _ ()
theorem dZ:mg "len"=none:=B _ ()
theorem mO:mg "list"=none:=B _ ()
theorem afH:mg "max"=none:=B _ ()
theorem mQ:mg "range"=none:=B _ ()
theorem VJ:mg "reversed"=none:=B _ ()
theorem abi:mg "str"=none:=B _ ()
theorem Kg:mg "tuple"=none:=B _ (.tail _ (mI 12 rfl))
theorem NQ:mg "zip"=none:=B _ (.tail _ (.tail _ (mI 12 rfl)))
end
section
variable (P:Program)(w:World)(K:FG)(mg:Str->Option Value)(base:Heap)(c:Addr)
abbrev xH:=cU P w K mg base "blocks_of" 1 ["row"] (cR K 1 lW)
abbrev Mi:=cU P w K mg base "copied" 40 ["row"] (cR K 1 (nA 40))
abbrev RT:=cU P w K mg base "laid_out" 80 ["where","above","block","rows","start"] (cR K 5 (iQ 40))
abbrev Gq:=cU P w K mg base "numbered" 81 ["program"] (cR K 1 Cj)
abbrev xJ:=cU P w K mg base "number_at" 1 ["numbers","place"] (cR K 2 zg)
abbrev zj:=cU P w K mg base "reckoned" 1 ["sign","one","other"] (cR K 3 Ck)
abbrev RV:=cU P w K mg base "value_of" 41 ["expression","boxes"] (cR K 2 (fB 40))
abbrev Ag:=cU P w K mg base "can_be_held" 1 ["thing"] (cR K 1 jQ)
abbrev Qp:=cU P w K mg base "suits" 2 ["size","thing"] (cR K 2 Af)
abbrev yw:=cU P w K mg base "refuse_input" 3 ["program","values"] (cR K 2 qi)
abbrev Mj:=cU P w K mg base "filled" 1 ["program","values"] (cR K 2 xG)
abbrev Jk:=cU P w K mg base "emptied" 1 ["program","boxes"] (cR K 2 yu)
abbrev FZ:=Vz P w K mg base c 82 ["self","program"] (cR K 2 iW)
abbrev Di:=qy P w K mg base c "body" 1 ["self","name"] (cR K 2 pU)
abbrev oO:=qy P w K mg base c "lay" 1 ["self","numbers"] (cR K 2 j9)
abbrev nF:=qy P w K mg base c "lay_body" 2 ["self","name"] (cR K 2 jz)
abbrev Cm:=Vz P w K mg base c 84 ["self","program","values","budget"] (cR K 4 iG)
abbrev uG:=qy P w K mg base c "block" 1 ["self","k","which"] (cR K 3 lC)
abbrev xK:=qy P w K mg base c "row" 1 ["self","k"] (cR K 2 jH)
abbrev yx:=qy P w K mg base c "params" 1 ["self","name"] (cR K 2 mK)
abbrev jD:=qy P w K mg base c "note" 1 ["self","k","time","events"] (cR K 4 dB)
abbrev qG:=qy P w K mg base c "spend" 1 ["self"] (cR K 1 gW)
abbrev jV:=qy P w K mg base c "value" 42 ["self","expression"] (cR K 2 cB)
abbrev xM:=qy P w K mg base c "call" 43 ["self","k","row"] (cR K 3 lQ)
abbrev rP:=qy P w K mg base c "give" 1 ["self","name","value"] (cR K 3 gG)
abbrev xN:=qy P w K mg base c "look" 43 ["self","k","row"] (cR K 3 tL)
abbrev yz:=qy P w K mg base c "put" 43 ["self","k","row"] (cR K 3 uF)
abbrev vO:=qy P w K mg base c "begin" 44 ["self","k"] (cR K 2 fG)
abbrev rZ:=qy P w K mg base c "come_back" 2 ["self","k"] (cR K 2 j4)
abbrev xO:=qy P w K mg base c "step" 45 ["self"] (cR K 1 iC)
abbrev tO:=cU P w K mg base "gone_through" 86 ["program","values","budget"] (cR K 3 mL)
abbrev Eb:=cU P w K mg base "record_of" 1 ["moments"] (cR K 1 uU)
abbrev XS:=cU P w K mg base "run" 87 ["program","values","budget"] (cR K 3 v7)
abbrev Ml:=cU P w K mg base "traced" 87 ["program","values","budget"] (cR K 3 nC)
abbrev kJ:=cU P w K mg base "_law_cell" 1 ["_law_script","_law_k"] (cR K 2 cG)
abbrev ql:=cU P w K mg base "_law_number" 1 ["_law_cell_here"] (cR K 1 eQ)
abbrev Nh:=cU P w K mg base "_law_alike" 40 ["_law_got","_law_due"] (cR K 2 (eU 40))
abbrev Ec:=cU P w K mg base "_law_name" 2 ["_law_script","_law_k"] (cR K 2 ie)
abbrev xP:=cU P w K mg base "_law_leaf" 2 ["_law_cell_here","_law_scope"] (cR K 2 gk)
abbrev pW:=cU P w K mg base "_law_expression" 3 ["_law_cell_here","_law_scope"] (cR K 2 dM)
abbrev Gr:=cU P w K mg base "_law_row" 4 ["_law_a","_law_b","_law_scope"] (cR K 3 tM)
abbrev Ah:=cU P w K mg base "_law_opened" 4 ["_law_a","_law_b","_law_scope"] (cR K 3 nU)
abbrev Ed:=cU P w K mg base "_law_shut" 1 ["_law_levels","_law_with_else"] (cR K 2 j6)
abbrev Ef:=cU P w K mg base "_law_rows" 5 ["_law_script","_law_at","_law_turns","_law_scope"] (cR K 4 lX)
abbrev yC:=cU P w K mg base "_law_program" 6 ["_law_script"] (cR K 1 kh)
abbrev Ai:=cU P w K mg base "_law_values" 2 ["_law_script","_law_program_here"] (cR K 2 lD)
abbrev Aj:=cU P w K mg base "_law_joined" 1 ["_law_moments"] (cR K 1 qZ)
abbrev yD:=cU P w K mg base "_law_written" 1 ["_law_program_here","_law_values_here","_law_record"] (cR K 3 qj)
abbrev vP:=cU P w K mg base "_law_values" 2 ["_law_script","_law_program_here"] (cR K 2 nD)
end
variable (B:S9 mg BL)(aiq:∃t,mg "LIMIT"=!(.int 1000000000000 t)){aiz:Addr}(aip:yR K mg "Plan" aiz)(air:∀f∈(["told","lists","heads"]:List Str),mD K aiz f){aio:Addr}(aim:yR K mg "Running" aio)(ain:∀f∈(["plan","boxes","own","budget","word","moments","due"]:List Str),mD K aio f)(hkx:HK.hk=Io P w)
include B aiq aip air aim ain hkx
set_option hygiene false in
local macro_rules | `(())=>`(by first | omega | assumption | decide | rfl | exact .inl rfl | exact .inr rfl | decide +kernel | exact hr.mono (by omega) | exact az aN | exact az (az aN) | exact az (az (az aN)) | exact az (az (az (az aN))) | exact λ_ _=>rfl | kernel_rfl)
theorem Qq(F:dH K mg "blocks_of" yS ["row"]):xH P w K mg base:=
 F.ok (k:=0) Qm λf cdv A outer s H E hr=>#[_,λ_ _=>rfl,(aA (bT (bC (fj hr) fu (qI (qw 0)) fK (aX _))
  (aD (bH (eX (ak (qI (qw 0)) (ak (qI (qw 0)) au)))))
  bN)
  (aA (bT (bC (fj hr) fu (qI (qw 0)) fK (aX _))
  (aD (bH (eX (ak (qI (qw 0)) au))))
  bN)
  (aD (bH (eX au)))))]
theorem XX(F:dH K mg "copied" Ca ["row"])(aiW:cU P w K mg base "all_copied" (0+n) ["rows"] (cR K 1 (gU n))):cU P w K mg base "copied" (0+n+1) ["row"] (cR K 1 (nA (n+1))):=
 F.ok XJ λf cdv A outer s H E hr=>#[_,λ_ _=>rfl,(aA (bT (bC (fj hr) fu (qI (qw 0)) fK (aX _))
  (aD (bH (eF (ak fK (ak (qI (qw 0)) (ak (bI aiW () rfl (ak (qI (qw 0)) au) ()) (ak (bI aiW () rfl (ak (qI (qw 0)) au) ()) au)))))))
  bN)
  (aA (bT (bC (fj hr) fu (qI (qw 0)) fK (aX _))
  (aD (bH (eF (ak fK (ak (qI (qw 0)) (ak (bI aiW () rfl (ak (qI (qw 0)) au) ()) au))))))
  bN)
  (aA (bT (bC (fj hr) fu (qI (qw 0)) fK (aX _))
  (aD (bH (eF (ak fK (ak (qI (qw 0)) (ak (qI (qw 0)) (ak (PE.imp (rY pC rfl (mO B) () (ak (qI (qw 0)) au)) (zN zQ)) au)))))))
  bN)
  (aD (n8 (pv 0))))))]
theorem Ni(F:dH K mg "all_copied" pN ["rows"])(aiN:cU P w K mg base "copied" (0+n) ["row"] (cR K 1 (nA n))):cU P w K mg base "all_copied" (0+n+1) ["rows"] (cR K 1 (gU (n+1))):=
 F.ok Nb λf cdv A outer s H E hr=>#[_,λ_ _=>rfl,(aD (bH (sI ["row"] [] [] rfl (vL (aK pN)) (jU (qw 0)) (λ_ _ _ _=>(dD 0 (show (["row"]:List Str).Nodup from by decide +kernel))) aV (λ_ _ _ _=>jl) (λ_ _ _ _=>(bI aiN () rfl (ak (qw 0) au) ())))))]
theorem Jl(ajo:dH K mg "copied" Ca ["row"])(ai8:dH K mg "all_copied" pN ["rows"]):∀n:Nat,cU P w K mg base "copied" (0+n) ["row"] (cR K 1 (nA n))/\cU P w K mg base "all_copied" (0+n) ["rows"] (cR K 1 (gU n))
 |0=>#[zU ajo,zU ai8]
 |n+1=>by have ih:=Jl ajo ai8 n;show#[XX B aiq aip air aim ain hkx ajo ih.2,Ni B aiq aip air aim ain hkx ai8 ih.1]
theorem RW(F:dH K mg "laid_out" vZ ["where","above","block","rows","start"])(aiI:xH P w K mg base)(aiN:Mi P w K mg base)(aiO:cU P w K mg base "laid_out" (40+n) ["where","above","block","rows","start"] (cR K 5 (iQ n))):cU P w K mg base "laid_out" (40+n+1) ["where","above","block","rows","start"] (cR K 5 (iQ (n+1))):=
 F.ok oh λf cdv A outer s H E hr=>#[_,λ_ _=>rfl,(aA (dF 5 oh.nd (eX au))
  (aA (jy agU rfl (jU (qw 3)) (dD 6 oh.nd) aV
  (aA (dF 7 oh.nd (Jb (aW cJ cM (qw 4) (qL (dZ B) (qw 5)))))
  (aA (xg (pv 5) (eF (ak (qw 0) (ak (qw 1) (ak (qw 2) (ak (bI aiN () rfl (ak (qw 6) au) ()) au))))))
  (aD (jy agU rfl (Td rfl (Gp B) (ak (bI aiI () rfl (ak (qw 6) au) ()) au)) (je rfl (aZ (dD 8 oh.nd) (aZ (dD 9 oh.nd) gM))) (jf (bA aV (bA aV jc)))
  (aD (Ql (pv 5) (bI aiO () rfl (ak (qw 0) (ak (qw 7) (ak (qw 8) (ak (qw 9) (ak (Jb (aW cJ cM (qw 4) (qL (dZ B) (qw 5)))) au))))) (az ())))))))))
  (aD (n8 (pv 5)))))]
theorem Eg(ajd:dH K mg "laid_out" vZ ["where","above","block","rows","start"])(aiI:xH P w K mg base)(aiN:Mi P w K mg base):∀n:Nat,cU P w K mg base "laid_out" (40+n) ["where","above","block","rows","start"] (cR K 5 (iQ n))
 |0=>zU ajd
 |n+1=>by have ih:=Eg ajd aiI aiN n;show RW B aiq aip air aim ain hkx ajd aiI aiN ih
theorem RZ(F:dH K mg "numbered" Cd ["program"])(aiO:RT P w K mg base):Gq P w K mg base:=
 F.ok ou λf cdv A outer s H E hr=>#[_,λ_ _=>rfl,(aA (dF 1 ou.nd (eX au))
  (aA (jy agU rfl (jU (qI (qw 0))) (je rfl (aZ (dD 2 ou.nd) (aZ (dD 3 ou.nd) (aZ (dD 4 ou.nd) (aZ (dD 5 ou.nd) gM))))) (jf (bA aV (bA aV (bA aV (bA aV jc)))))
  (aD (Ql (pv 1) (bI aiO () rfl (ak (qw 2) (ak xf (ak aJ (ak (qw 5) (ak (Jb (qL (dZ B) (qw 1))) au))))) (az ())))))
  (aA (Ql (pv 1) (bI aiO () rfl (ak fK (ak xf (ak aJ (ak (qI (qw 0)) (ak (Jb (qL (dZ B) (qw 1))) au))))) (az ())))
  (aD (n8 (pv 1))))))]
theorem Qs(F:dH K mg "number_at" yU ["numbers","place"]):xJ P w K mg base:=
 F.ok (k:=0) Qn λf cdv A outer s H E hr=>#[_,λ_ _=>rfl,(aD (bH (Sy (ack Vb Bl PJ wY aJ (qw 1) (jA (bF cX () (dZ B) agj (ak (qw 0) au)))) (ig (cA hr) (qw 0) (qw 1) (λ_ _=>rfl)) aJ)))]
theorem R0(F:dH K mg "reckoned" Ce ["sign","one","other"]):zj P w K mg base:=
 F.ok (k:=0) RP λf cdv A outer s H E hr=>#[_,λ_ _=>rfl,(aA (bT (bC (iu hr) fX (qw 0) fK (aX _))
  (aD (bH (aW bD bf (aW cJ cM (qw 1) (qw 2)) (Fp aiq rfl))))
  bN)
  (aA (bT (bC (iu hr) fX (qw 0) fK (aX _))
  (aD (bH (aW bD bf (aW HQ Fb (qw 1) (qw 2)) (Fp aiq rfl))))
  bN)
  (aA (bT (bC (iu hr) fX (qw 0) fK (aX _))
  (aD (bH (aW bD bf (aW gP fO (qw 1) (qw 2)) (Fp aiq rfl))))
  bN)
  (aA (bT (bC (iu hr) fX (qw 0) fK (aX _))
  (aD (bH (Sy (bC Bl wY (qw 1) (qw 2) (aX _)) aJ aJ)))
  bN)
  (aD (bH (Sy (bC (iu hr) fX (qw 1) (qw 2) (aX _)) aJ aJ)))))))]
theorem R1(F:dH K mg "value_of" v5 ["expression","boxes"])(aiJ:xJ P w K mg base)(aiP:zj P w K mg base)(aiG:cU P w K mg base "value_of" (1+n) ["expression","boxes"] (cR K 2 (fB n))):cU P w K mg base "value_of" (1+n+1) ["expression","boxes"] (cR K 2 (fB (n+1))):=
 F.ok RN λf cdv A outer s H E hr=>#[_,λ_ _=>rfl,(aA (bT (bC (iu hr) fX (ig (cA hr) (qw 0) aJ ()) fK (aX _))
  (aD (bH (ig (cA hr) (qw 0) aJ ())))
  bN)
  (aA (bT (bC (iu hr) fX (ig (cA hr) (qw 0) aJ ()) fK (aX _))
  (aD (bH (ig (cA hr) (qw 1) (ig (cA hr) (qw 0) aJ ()) ())))
  bN)
  (aA (bT (bC (iu hr) fX (ig (cA hr) (qw 0) aJ ()) fK (aX _))
  (aD (bH (bI aiJ () rfl (ak (ig (cA hr) (qw 1) (ig (cA hr) (qw 0) aJ ()) ()) (ak (bI aiG () rfl (ak (ig (cA hr) (qw 0) aJ ()) (ak (qw 1) au)) ()) au)) ())))
  bN)
  (aD (bH (bI aiP () rfl (ak (ig (cA hr) (qw 0) aJ ()) (ak (bI aiG () rfl (ak (ig (cA hr) (qw 0) aJ ()) (ak (qw 1) au)) ()) (ak (bI aiG () rfl (ak (ig (cA hr) (qw 0) aJ ()) (ak (qw 1) au)) ()) au))) ()))))))]
theorem Eh(aje:dH K mg "value_of" v5 ["expression","boxes"])(aiJ:xJ P w K mg base)(aiP:zj P w K mg base):∀n:Nat,cU P w K mg base "value_of" (1+n) ["expression","boxes"] (cR K 2 (fB n))
 |0=>zU aje
 |n+1=>by have ih:=Eh aje aiJ aiP n;show R1 B aiq aip air aim ain hkx aje aiJ aiP ih
theorem Kh(F:dH K mg "can_be_held" vG ["thing"]):Ag P w K mg base:=
 F.ok Ke λf cdv A outer s H E hr=>#[_,λ_ _=>rfl,(aD (bH (Bw (wZ (bF fD rfl (dN B) () (cT (qw 0) (cT (iZ rfl (abh B) () rfl) jx)))) (Bw (ad4 (wZ (bF fD rfl (dN B) () (cT (qw 0) (cT (iZ rfl (XQ B) () rfl) jx))))) (J5 (aee Vb Bl PJ wY aJ (qw 0) (Fp aiq rfl)))))))]
theorem aan(F:dH K mg "suits" Fo ["size","thing"])(aiR:Ag P w K mg base):Qp P w K mg base:=
 F.ok aam λf cdv A outer s H E hr=>#[_,λ_ _=>rfl,(aA (bT (bC (fj hr) fu (qw 0) aJ (aX _))
  (aD (bH (bI aiR () rfl (ak (qw 1) au) ())))
  bN)
  (aD (bH (Bw (wZ (bF fD rfl (dN B) () (cT (qw 1) (cT (iZ rfl (mO B) () rfl) jx)))) (Bw (GZ (fj hr) fu (qL (dZ B) (qw 1)) (qw 0) (aX _)) (J5 (IW (BR rfl) Xu (bF (BR rfl) rfl (abg B) () (ak (sI ["part"] [] [] rfl (vL (aK Fo)) (jU (qw 1)) (λ_ _ _ _=>(dD 0 (show (["part"]:List Str).Nodup from by decide +kernel))) aV (λ_ _ _ _=>jl) (λ_ _ _ _=>(bI aiR () rfl (ak (qw 0) au) ()))) au)))))))))]
theorem Jm(F:dH K mg "refuse_input" uA ["program","values"])(ajA:Qp P w K mg base):yw P w K mg base:=
 F.ok (k:=2) oN λf cdv A outer s H E hr=>#[_,λ_ _=>rfl,(aA (bT (PW.pt (vW (zG (nO (wZ (bF fD () (dN B) (by kernel_rfl) (cT (qw 1) (cT (iZ (v:=.ty "list") (u:=.type "list") rfl (mO B) (by kernel_rfl) rfl) jx)))) (λ_=>rfl))) (zF (bC (nP hr) nQ (qL (dZ B) (qw 1)) (qL (dZ B) (qI (qw 0))) (aX _)))))
  (aD Tf)
  bN)
  (aD (jy agU rfl (Fg rfl (NQ B) (ak (qI (qw 0)) (ak (qw 1) au))) (je rfl (aZ (dD 2 oN.nd) (aZ (dD 3 oN.nd) gM))) (jf (bA aV (bA aV jc)))
  (aA (dF 4 oN.nd (qI (qw 2)))
  (aD (bT (zG (nO (bI ajA (hr.mono ()) rfl (ak (qI (qw 2)) (ak (qw 3) au)) (az (az aN))) (λ_=>rfl)))
  (aD Tf)
  bN))))))]
theorem X3(F:dH K mg "filled" Hj ["program","values"]):Mj P w K mg base:=
 F.ok yr λf cdv A outer s H E hr=>#[_,λ_ _=>rfl,(aA (dF 2 yr.nd Qa)
  (aA (jy agU rfl (Fg rfl (NQ B) (ak (qI (qw 0)) (ak (qw 1) au))) (je rfl (aZ (dD 3 yr.nd) (aZ (dD 4 yr.nd) gM))) (jf (bA aV (bA aV jc)))
  (aD (J9 (uZ (Sy (nO (wZ (bF fD rfl (dN B) () (cT (qw 4) (cT (iZ rfl (mO B) () rfl) jx)))) (λ_=>rfl)) (ji (PE.imp (rY pC rfl (mO B) () (ak (qw 4) au)) (zN zQ))) (qw 4)) (wQ (pv 2) (qI (qw 3)) (set_dict (cA hr)))))))
  (aD (n8 (pv 2)))))]
theorem VL(F:dH K mg "emptied" yq ["program","boxes"]):Jk P w K mg base:=
 F.ok (k:=0) VH λf cdv A outer s H E hr=>#[_,λ_ _=>rfl,(aD (bH (sI ["name","size","rank"] ["boxes"] [1] rfl (vL (aK yq)) (jU (qI (qw 0))) (λ_ _ _ _=>(je rfl (aZ (dD 0 (show (["name","size","rank","boxes"]:List Str).Nodup from by decide +kernel)) (aZ (dD 1 (show (["name","size","rank","boxes"]:List Str).Nodup from by decide +kernel)) (aZ (dD 2 (show (["name","size","rank","boxes"]:List Str).Nodup from by decide +kernel)) gM))))) (jf (bA aV (bA aV (bA aV jc)))) (λ_ _ _ _=>jl) (λ_ _ _ _=>(aaj (cA hr) (qw 3) (qw 0) (λ_ _=>rfl))))))]
theorem Ga(F:qN K aiz "__init__" "Plan.__init__" nj ["self","program"])(ajf:Gq P w K mg base):qy P w K mg base aiz "__init__" 82 ["self","program"] (cR K 2 iW):=
 F.ok (k:=81) eZ λf cdv A outer s H E hr=>#[_,λ_ _=>rfl,(aA (dF 2 eZ.nd (bI ajf (hr.mono ()) rfl (ak (qw 1) au) (az aN)))
  (aA (dF 3 eZ.nd (aer (by show hkx)))
  (aA (jy agU rfl (Td rfl (Gp B) (ak (qw 2) au)) (je rfl (aZ (dD 4 eZ.nd) (aZ (dD 5 eZ.nd) gM))) (jf (bA aV (bA aV jc)))
  (aD (j8 (ik (mj agg agR agS gQ (afF (by show hkx) (OD PySem.F.slot_dict_setdefault PySem.F.type_dict_setdefault (Xi (cA hr)) (pv 3) (ak (acr (qw 5) zM (ut aJ)) (ak (eX au) au)))) (ak (qw 4) au))))))
  (aA (dF 6 eZ.nd Qa)
  (aA (jy agU rfl (jU (qI (qw 1))) (je rfl (aZ (dD 7 eZ.nd) (aZ (dD 8 eZ.nd) (aZ (dD 9 eZ.nd) (aZ (dD 10 eZ.nd) gM))))) (jf (bA aV (bA aV (bA aV (bA aV jc)))))
  (aD (J9 (uZ (sI ["param","known"] [] [] rfl (vL (aK nj)) (jU (qw 9)) (λ_ _ _ _=>(je rfl (aZ (dD 0 (show (["param","known"]:List Str).Nodup from by decide +kernel)) (aZ (dD 1 (show (["param","known"]:List Str).Nodup from by decide +kernel)) gM)))) (jf (bA aV (bA aV jc))) (λ_ _ _ _=>jl) (λ_ _ _ _=>(qw 0))) (wQ (pv 6) (qw 7) (set_dict (cA hr)))))))
  (aA (lB aip (air _ (.head _)) (qw 0) (qw 2))
  (aA (lB aip (air _ (mI 1 rfl)) (qw 0) (aes (qw 3)))
  (aD (lB aip (air _ (mI 2 rfl)) (qw 0) (qw 6))))))))))]
theorem Nj(F:qN K aiz "body" "Plan.body" xm ["self","name"]):Di P w K mg base aiz:=
 F.ok (k:=0) Ng λf cdv A outer s H E hr=>#[_,λ_ _=>rfl,(aD (bH (PE.imp (rY pC () (mO B) (by kernel_rfl) (ak (abe (by show hkx) (OD PySem.F.slot_dict_get PySem.F.type_dict_get (Sw (cA hr)) (iy aip (air _ (mI 1 rfl)) (qw 0)) (ak (eF (ak (qw 1) (ak xf (ak aJ au)))) (ak (eX au) au)))) au)) (zN zQ))))]
theorem Jo(F:qN K aio "lay" "Running.lay" qe ["self","numbers"]):oO P w K mg base aio:=
 F.ok (k:=0) Jj λf cdv A outer s H E hr=>#[_,λ_ _=>rfl,(aD (acx (ik (mj agg PySem.F.slot_list_extend PySem.F.type_list_extend Im (iy aim (ain _ (mI 6 rfl)) (qw 0)) (ak (sI ["k"] [] [] rfl (vL (aK qe)) (aen rfl (VJ B) (ak (qw 1) au)) (λ_ _ _ _=>(dD 0 (show (["k"]:List Str).Nodup from by decide +kernel))) aV (λ_ _ _ _=>jl) (λ_ _ _ _=>(eF (ak (qw 0) (ak aJ au))))) au)))))]
theorem Cp(F:qN K aio "lay_body" "Running.lay_body" oF ["self","name"])(ai9:Di P w K mg base aiz)(aix:oO P w K mg base aio):nF P w K mg base aio:=
 F.ok (k:=1) tK λf cdv A outer s H E hr=>#[_,λ_ _=>rfl,(aA (dF 2 tK.nd (f9 aip ai9 () (iy aim (ain _ (.head _)) (qw 0)) (ak (qw 1) au) (eE ())))
  (aA (bT (nO (qw 2) (λ_=>rfl))
  (aD (j8 (ik (mj agg agR agS gQ (iy aim (ain _ (mI 6 rfl)) (qw 0)) (ak (eF (ak (m7 (qw 2) (uv aJ) ()) (ak aJ au))) au)))))
  bN)
  (aD (gf (f9 aim aix () (qw 0) (ak (qw 2) au) (eE ()))))))]
theorem Cq(F:qN K aio "__init__" "Running.__init__" oE ["self","program","values","budget"])(aiT:FZ P w K mg base aiz)(aiy:nF P w K mg base aio)(ajp:Mj P w K mg base):qy P w K mg base aio "__init__" 84 ["self","program","values","budget"] (cR K 4 iG):=
 F.ok (k:=83) Ci λf cdv A outer s H E hr=>#[_,λ_ _=>rfl,(aA (lB aim (ain _ (.head _)) (qw 0) (abb aip aiT () rfl (ak (qw 1) au) (eE ())))
  (aA (lB aim (ain _ (mI 1 rfl)) (qw 0) (ji (bI ajp () rfl (ak (qw 1) (ak (qw 2) au)) ())))
  (aA (lB aim (ain _ (mI 2 rfl)) (qw 0) (ji (@eX _ _ _ _ (@aew _ _ _ _ _ _ _ (ji Qa) au))))
  (aA (lB aim (ain _ (mI 3 rfl)) (qw 0) (qw 3))
  (aA (lB aim (ain _ (mI 4 rfl)) (qw 0) fK)
  (aA (lB aim (ain _ (mI 5 rfl)) (qw 0) (ji (eX au)))
  (aA (lB aim (ain _ (mI 6 rfl)) (qw 0) (ji (eX au)))
  (aD (gf (f9 aim aiy () (qw 0) (ak fK au) (eE ())))))))))))]
theorem Kl(F:qN K aiz "block" "Plan.block" vJ ["self","k","which"]):uG P w K mg base aiz:=
 F.ok (k:=0) Kf λf cdv A outer s H E hr=>#[_,λ_ _=>rfl,(aD (bH (PE.imp (rY pC () (mO B) (by kernel_rfl) (ak (abe (by show hkx) (OD PySem.F.slot_dict_get PySem.F.type_dict_get (Sw (cA hr)) (iy aip (air _ (mI 1 rfl)) (qw 0)) (ak (eF (ak (qI (m7 (iy aip (air _ (.head _)) (qw 0)) (qw 1) (λ_ _=>rfl))) (ak (qw 1) (ak (qw 2) au)))) (ak (eX au) au)))) au)) (zN zQ))))]
theorem Qt(F:qN K aiz "row" "Plan.row" zf ["self","k"]):xK P w K mg base aiz:=
 F.ok (k:=0) Qo λf cdv A outer s H E hr=>#[_,λ_ _=>rfl,(aD (bH (qI (m7 (iy aip (air _ (.head _)) (qw 0)) (qw 1) (λ_ _=>rfl)))))]
theorem Jp(F:qN K aiz "params" "Plan.params" uD ["self","name"]):yx P w K mg base aiz:=
 F.ok (k:=0) Ji λf cdv A outer s H E hr=>#[_,λ_ _=>rfl,(aD (bH (PE.imp (rY pC () (mO B) () (ak (ig (cA hr) (iy aip (air _ (mI 2 rfl)) (qw 0)) (qw 1) ()) au)) (zN zQ))))]
theorem Hn(F:qN K aio "note" "Running.note" tD ["self","k","time","events"]):jD P w K mg base aio:=
 F.ok (k:=0) Hl λf cdv A outer s H E hr=>#[_,λ_ _=>rfl,(aD (j8 (ik (mj agg agR agS gQ (iy aim (ain _ (mI 5 rfl)) (qw 0)) (ak (eF (ak (qw 1) (ak (qw 2) (ak (qw 3) au)))) au)))))]
theorem Gb(F:qN K aio "spend" "Running.spend" rM ["self"]):qG P w K mg base aio:=
 F.ok (k:=0) FT λf cdv A outer s H E hr=>#[_,λ_ _=>rfl,(aA (bT (bC Vb PJ (iy aim (ain _ (mI 3 rfl)) (qw 0)) aJ (aX _))
  (aA (lB aim (ain _ (mI 4 rfl)) (qw 0) fK)
  (aA (acy (ik (HX agg PySem.F.slot_list_clear PySem.F.type_list_clear Zu (iy aim (ain _ (mI 6 rfl)) (qw 0)))))
  (aD (bH (qc yc gC)))))
  bN)
  (aA (lB aim (ain _ (mI 3 rfl)) (qw 0) (aW HQ Fb (iy aim (ain _ (mI 3 rfl)) (qw 0)) aJ))
  (aD (bH (qc yc gC)))))]
theorem Gd(F:qN K aio "value" "Running.value" rK ["self","expression"])(aiG:RV P w K mg base):jV P w K mg base aio:=
 F.ok (k:=41) vM λf cdv A outer s H E hr=>#[_,λ_ _=>rfl,(aA (dF 2 vM.nd (aeu (rY OJ () (aez B) () (ak (iy aim (ain _ (mI 1 rfl)) (qw 0)) au))))
  (aA (acw (ik (acb (pv 2) (m7 (iy aim (ain _ (mI 2 rfl)) (qw 0)) (uv aJ) ()) #[rfl,rfl,rfl,rfl])))
  (aD (bH (Qe (bI aiG () rfl (ak (qw 1) (ak (qw 2) au)) ()))))))]
theorem Ho(F:qN K aio "call" "Running.call" oM ["self","k","row"])(ai0:yx P w K mg base aiz)(aiy:nF P w K mg base aio)(ais:jD P w K mg base aio)(aiA:qG P w K mg base aio)(aiu:jV P w K mg base aio):xM P w K mg base aio:=
 F.ok (k:=42) jC λf cdv A outer s H E hr=>#[_,λ_ _=>rfl,(aA (bT (zG (nO (Qd aim aiA (hr.mono ()) (qw 0) rfl) (λ_=>rfl)))
  (aD SJ)
  bN)
  (aA (zH (i:=3) ["expression"] ["self"] [0] jC.nd rfl rfl rfl (vL (aK oM)) (jU (qI (qw 2))) (λ_ _ _ _=>(dD 0 (show (["expression","self"]:List Str).Nodup from by decide +kernel))) aV (λ_ _ _ _=>jl) (λ_ _ _ _=>(f9 aim aiu (hr.mono ()) (qw 1) (ak (qw 0) au) (eE (az aN)))))
  (aA (dF 4 jC.nd (afE (acq (qI (qw 2)) aJ aei) rfl rfl (by intro h;cases h) ()))
  (aA (dF 5 jC.nd (eX au))
  (aA (jy agU rfl (Fg rfl (NQ B) (ak (f9 aip ai0 (hr.mono ()) (iy aim (ain _ (.head _)) (qw 0)) (ak (qI (qw 2)) au) (eE (az aN))) (ak (qw 3) au))) (je rfl (aZ (dD 6 jC.nd) (aZ (dD 7 jC.nd) gM))) (jf (bA aV (bA aV jc)))
  (aA (J9 (uZ (qw 7) (wQ (pv 4) (qw 6) (set_dict (cA hr)))))
  (aD (xg (pv 5) (eF (ak (qw 6) (ak aJ (ak (qw 7) au))))))))
  (aA (Kc (i:=4) (j8 (ik (mj agg agR agS gQ (iy aim (ain _ (mI 2 rfl)) (qw 0)) (ak (qw 4) au)))))
  (aA (Kc (i:=5) (gf (f9 aim ais (hr.mono ()) (qw 0) (ak (qw 1) (ak aJ (ak (qw 5) au))) (eE (az (az (az aN)))))))
  (aA (j8 (ik (mj agg agR agS gQ (iy aim (ain _ (mI 6 rfl)) (qw 0)) (ak (eF (ak (qw 1) (ak aJ au))) au))))
  (aD (gf (f9 aim aiy (hr.mono ()) (qw 0) (ak (qI (qw 2)) au) (eE (az aN)))))))))))))]
theorem Hq(F:qN K aio "give" "Running.give" tE ["self","name","value"]):rP P w K mg base aio:=
 F.ok (k:=0) xx λf cdv A outer s H E hr=>#[_,λ_ _=>rfl,(aA (dF 3 xx.nd (Sy (agJ (cA hr) (qw 1) (m7 (iy aim (ain _ (mI 2 rfl)) (qw 0)) (uv aJ) (λ_ _=>rfl)) (by with_unfolding_all rfl)) (m7 (iy aim (ain _ (mI 2 rfl)) (qw 0)) (uv aJ) (λ_ _=>rfl)) (iy aim (ain _ (mI 1 rfl)) (qw 0))))
  (aA (acv (uZ (qw 2) (wQ (qw 3) (qw 1) (set_dict (cA hr)))))
  (aD (bH (eF (ak (qw 1) (ak aJ (ak (qw 2) au))))))))]
theorem Hr(F:qN K aio "look" "Running.look" tG ["self","k","row"])(aiE:uG P w K mg base aiz)(aix:oO P w K mg base aio)(aiA:qG P w K mg base aio)(aiu:jV P w K mg base aio):xN P w K mg base aio:=
 F.ok (k:=42) Hm λf cdv A outer s H E hr=>#[_,λ_ _=>rfl,(aD (bT (PW.pt (pH (bC (nP hr) nQ (f9 aim aiu () (qw 0) (ak (qI (qw 2)) au) (eE ())) aJ (aX _)) (nZ (nO (Qd aim aiA () (qw 0) rfl) (λ_=>rfl)))))
  (aA (j8 (ik (mj agg agR agS gQ (iy aim (ain _ (mI 6 rfl)) (qw 0)) (ak (eF (ak (qw 1) (ak aJ au))) au))))
  (aD (gf (f9 aim aix () (qw 0) (ak (f9 aip aiE () (iy aim (ain _ (.head _)) (qw 0)) (ak (qw 1) (ak aJ au)) (eE ())) au) (eE ())))))
  bN))]
theorem Jq(F:qN K aio "put" "Running.put" uE ["self","k","row"])(ais:jD P w K mg base aio)(aiu:jV P w K mg base aio):yz P w K mg base aio:=
 F.ok (k:=42) lN λf cdv A outer s H E hr=>#[_,λ_ _=>rfl,(aA (dF 3 lN.nd (aaj (cA hr) (iy aim (ain _ (mI 1 rfl)) (qw 0)) (qI (qw 2)) (λ_ _=>rfl)))
  (aA (dF 4 lN.nd (f9 aim aiu (hr.mono ()) (qw 0) (ak (qI (qw 2)) au) (eE (az aN))))
  (aA (dF 5 lN.nd (f9 aim aiu (hr.mono ()) (qw 0) (ak (qI (qw 2)) au) (eE (az aN))))
  (aA (dF 6 lN.nd (eX au))
  (aA (bT (bC Bl wY (qw 4) (jA (bF cX () (dZ B) agj (ak (qw 3) au))) (aX _))
  (aA (G7 (uZ (qw 5) (wQ (qw 3) (qw 4) set_list)))
  (aD (xg (pv 6) (eF (ak (qI (qw 2)) (ak (qw 4) (ak (qw 5) au)))))))
  bN)
  (aD (Kc (i:=6) (gf (f9 aim ais (hr.mono ()) (qw 0) (ak (qw 1) (ak aJ (ak (qw 6) au))) (eE (az (az (az aN)))))))))))))]
theorem Ge(F:qN K aio "begin" "Running.begin" rN ["self","k"])(aiE:uG P w K mg base aiz)(aiK:xK P w K mg base aiz)(aiX:xM P w K mg base aio)(aiC:rP P w K mg base aio)(aix:oO P w K mg base aio)(aiY:xN P w K mg base aio)(ais:jD P w K mg base aio)(ai1:yz P w K mg base aio)(aiu:jV P w K mg base aio):vO P w K mg base aio:=
 F.ok (k:=43) vN λf cdv A outer s H E hr=>#[_,λ_ _=>rfl,(aA (dF 2 vN.nd (f9 aip aiK () (iy aim (ain _ (.head _)) (qw 0)) (ak (qw 1) au) (eE ())))
  (aA (gf (f9 aim ais () (qw 0) (ak (qw 1) (ak aJ (ak (ji (eX au)) au))) (eE ())))
  (aD (bT (bC (fj hr) fu (qI (qw 2)) fK (aX _))
  (aD (gf (f9 aim aix () (qw 0) (ak (f9 aip aiE () (iy aim (ain _ (.head _)) (qw 0)) (ak (qw 1) (ak (Sy (bC (fj hr) fu (f9 aim aiu () (qw 0) (ak (qI (qw 2)) au) (eE ())) aJ (aX _)) aJ aJ) au)) (eE ())) au) (eE ()))))
  (aD (bT (bC (fj hr) fu (qI (qw 2)) fK (aX _))
  (aD (gf (f9 aim aiY () (qw 0) (ak (qw 1) (ak (qw 2) au)) (eE ()))))
  (aD (bT (bC (fj hr) fu (qI (qw 2)) fK (aX _))
  (aD (gf (f9 aim aiX () (qw 0) (ak (qw 1) (ak (qw 2) au)) (eE ()))))
  (aD (bT (bC (fj hr) fu (qI (qw 2)) fK (aX _))
  (aD (gf (f9 aim ai1 () (qw 0) (ak (qw 1) (ak (qw 2) au)) (eE ()))))
  (aD (gf (f9 aim ais () (qw 0) (ak (qw 1) (ak aJ (ak (ji (eX (ak (f9 aim aiC () (qw 0) (ak (qI (qw 2)) (ak (f9 aim aiu () (qw 0) (ak (qI (qw 2)) au) (eE ())) au)) (eE ())) au))) au))) (eE ()))))))))))))))]
theorem Ak(F:qN K aio "come_back" "Running.come_back" nq ["self","k"])(aiK:xK P w K mg base aiz)(aiC:rP P w K mg base aio)(ais:jD P w K mg base aio):rZ P w K mg base aio:=
 F.ok (k:=1) mJ λf cdv A outer s H E hr=>#[_,λ_ _=>rfl,(aA (dF 2 mJ.nd (f9 aip aiK () (iy aim (ain _ (.head _)) (qw 0)) (ak (qw 1) au) (eE ())))
  (aA (dF 3 mJ.nd (VB (HX agg PySem.F.slot_list_pop PySem.F.type_list_pop Ou (iy aim (ain _ (mI 2 rfl)) (qw 0)))))
  (aD (gf (f9 aim ais () (qw 0) (ak (qw 1) (ak aJ (ak (ji (eX (ak (f9 aim aiC () (qw 0) (ak (qI (qw 2)) (ak (aaj (cA hr) (qw 3) (qI (qw 2)) ()) au)) (eE ())) au))) au))) (eE ()))))))]
theorem Hs(F:qN K aio "step" "Running.step" tB ["self"])(aiU:vO P w K mg base aio)(aiH:rZ P w K mg base aio)(ais:jD P w K mg base aio):xO P w K mg base aio:=
 F.ok (k:=44) xq λf cdv A outer s H E hr=>#[_,λ_ _=>rfl,(aA (dF 1 xq.nd (VB (HX agg PySem.F.slot_list_pop PySem.F.type_list_pop Ou (iy aim (ain _ (mI 6 rfl)) (qw 0)))))
  (aD (bT (bC (fj hr) fu (qI (qw 1)) aJ (aX _))
  (aD (gf (f9 aim aiU () (qw 0) (ak (qI (qw 1)) au) (eE ()))))
  (aD (bT (bC (fj hr) fu (qI (qw 1)) aJ (aX _))
  (aD (gf (f9 aim aiH () (qw 0) (ak (qI (qw 1)) au) (eE ()))))
  (aD (gf (f9 aim ais () (qw 0) (ak (qI (qw 1)) (ak (qI (qw 1)) (ak (ji (eX au)) au))) (eE ())))))))))]
theorem Jr(F:dH K mg "gone_through" uB ["program","values","budget"])(aiM:Cm P w K mg base aio)(aiZ:xO P w K mg base aio)(ai2:yw P w K mg base):tO P w K mg base:=
 F.ok (k:=85) yt λf cdv A outer s H E hr=>#[_,λ_ _=>rfl,(aA (gf (Qe (bI ai2 () rfl (ak (qw 0) (ak (qw 1) au)) ())))
  (aA (dF 3 yt.nd (abb aim aiM () rfl (ak (qw 0) (ak (qw 1) (ak (qw 2) au))) (eE ())))
  (aA (Pb 5000 agU (afG (iy aim (ain _ (mI 6 rfl)) (qw 3)) (λ_=>rfl))
  (aD (gf (Qd aim aiZ () (qw 3) rfl))))
  (aD (n8 (pv 3))))))]
theorem Qu(F:dH K mg "record_of" uT ["moments"]):Eb P w K mg base:=
 F.ok (k:=0) pP λf cdv A outer s H E hr=>#[_,λ_ _=>rfl,(aA (dF 1 pP.nd (eX au))
  (aA (jy agU rfl (jU (XH (qw 0))) (je rfl (aZ (zr (i:=2) pP.nd rfl (Or.inr rfl)) (aZ (dD 3 pP.nd) (aZ (dD 4 pP.nd) gM)))) (jf (bA aV (bA aV (bA aV jc))))
  (aD (Ql (pv 1) (sI ["name","place","value"] ["row"] [2] rfl (vL (aK uT)) (jU (XH (qw 4))) (λ_ _ _ _=>(je rfl (aZ (dD 0 (show (["name","place","value","row"]:List Str).Nodup from by decide +kernel)) (aZ (dD 1 (show (["name","place","value","row"]:List Str).Nodup from by decide +kernel)) (aZ (dD 2 (show (["name","place","value","row"]:List Str).Nodup from by decide +kernel)) gM))))) (jf (bA aV (bA aV (bA aV jc)))) (λ_ _ _ _=>jl) (λ_ _ _ _=>(eF (ak (qw 3) (ak (qw 0) (ak (qw 1) (ak (qw 2) au))))))))))
  (aD (n8 (pv 1)))))]
theorem aeA(F:dH K mg "run" VF ["program","values","budget"])(ajl:Jk P w K mg base)(aiD:tO P w K mg base)(ajc:Eb P w K mg base):XS P w K mg base:=
 F.ok (k:=86) XM λf cdv A outer s H E hr=>#[_,λ_ _=>rfl,(aA (dF 3 XM.nd (bI aiD () rfl (ak (qw 0) (ak (qw 1) (ak (qw 2) au))) ()))
  (aD (bH (eF (ak (iy aim (ain _ (mI 4 rfl)) (qw 3)) (ak (ji (bI ajc () rfl (ak (iy aim (ain _ (mI 5 rfl)) (qw 3)) au) ())) (ak (ji (bI ajl () rfl (ak (qw 0) (ak (iy aim (ain _ (mI 1 rfl)) (qw 3)) au)) ())) au)))))))]
theorem X4(F:dH K mg "traced" Hk ["program","values","budget"])(aiD:tO P w K mg base):Ml P w K mg base:=
 F.ok (k:=86) XN λf cdv A outer s H E hr=>#[_,λ_ _=>rfl,(aD (bH (iy aim (ain _ (mI 5 rfl)) (bI aiD () rfl (ak (qw 0) (ak (qw 1) (ak (qw 2) au))) ()))))]
theorem Qv(F:dH K mg "_law_cell" yV ["_law_script","_law_k"]):kJ P w K mg base:=
 F.ok (k:=0) xn λf cdv A outer s H E hr=>#[_,λ_ _=>rfl,(aA (dF 2 xn.nd (aW cJ cM (aW cJ cM (aW gP fO (qw 1) (qw 1)) (aW gP fO aJ (qw 1))) aJ))
  (aA (bT (bC vR sJ (jA (bF cX () (dZ B) agj (ak (qw 0) au))) aJ (aX _))
  (aD (dF 2 xn.nd (aW cJ cM (aW bD bf (ig (cA hr) (qw 0) (aW bD bf (qw 1) (jA (bF cX () (dZ B) agj (ak (qw 0) au)))) (λ_ _=>rfl)) aJ) (aW gP fO (aW cH bU (qw 1) (jA (bF cX () (dZ B) agj (ak (qw 0) au)))) aJ))))
  bN)
  (aD (bH (aW bD bf (aW cJ cM (aW gP fO (qw 2) aJ) (aW gP fO (aW cH bU (qw 1) (IW (Lj rfl) aeh (bF (Lj rfl) () (afH B) (by kernel_rfl) (ak aJ (ak (jA (bF cX () (dZ B) agj (ak (qw 0) au))) au))))) aJ)) aJ)))))]
theorem Km(F:dH K mg "_law_number" vH ["_law_cell_here"]):ql P w K mg base:=
 F.ok (k:=0) Ad λf cdv A outer s H E hr=>#[_,λ_ _=>rfl,(aA (dF 1 Ad.nd (aW bD bf (qw 0) aJ))
  (aA (bT (bC (iu hr) fX (qw 1) aJ (aX _))
  (aD (bH (aW bD bf (aW cH bU (qw 0) aJ) aJ)))
  bN)
  (aA (bT (bC (iu hr) fX (qw 1) aJ (aX _))
  (aD (bH (aW HQ Fb (aW HQ Fb (aW WF S7 aJ aJ) aJ) (aW bD bf (aW cH bU (qw 0) aJ) aJ))))
  bN)
  (aA (bT (bC (iu hr) fX (qw 1) aJ (aX _))
  (aD (bH (aW cJ cM aJ (aW bD bf (aW cH bU (qw 0) aJ) aJ))))
  bN)
  (aD (bH (aW bD bf (aW gP fO (qw 0) aJ) (aW WF S7 aJ aJ))))))))]
theorem Nk{n:Nat}(F:dH K mg "_law_alike" pO ["_law_got","_law_due"])(aiF:cU P w K mg base "_law_alike" (0+n) ["_law_got","_law_due"] (cR K 2 (eU n))):cU P w K mg base "_law_alike" (0+n+1) ["_law_got","_law_due"] (cR K 2 (eU (n+1))):=
 F.ok (k:=0+n) Nf λf cdv A outer s H E hr=>#[_,λ_ _=>rfl,(aA (bT (nO (agI (bF Qf () (dN B) () (cT (qw 1) (cT (WP (cT (iZ (v:=.ty "list") (u:=.type "list") rfl (mO B) () rfl) (cT (iZ (v:=.ty "tuple") (u:=.type "tuple") rfl (Kg B) () rfl) jx))) jx)))) (λ_=>rfl))
  (aA (bT (PW.pt (vW (bC (nP hr) nQ (wZ (bF fD () (dN B) () (cT (qw 0) (cT (iZ (v:=.ty "list") (u:=.type "list") rfl (mO B) () rfl) jx)))) (wZ (bF fD () (dN B) () (cT (qw 1) (cT (iZ (v:=.ty "list") (u:=.type "list") rfl (mO B) () rfl) jx)))) (aX _)) (zF (bC (nP hr) nQ (wZ (bF fD () (dN B) () (cT (qw 0) (cT (iZ (v:=.ty "tuple") (u:=.type "tuple") rfl (Kg B) () rfl) jx)))) (wZ (bF fD () (dN B) () (cT (qw 1) (cT (iZ (v:=.ty "tuple") (u:=.type "tuple") rfl (Kg B) () rfl) jx)))) (aX _)))))
  (aD (bH (qc yc gC)))
  bN)
  (aD (bH (Bw (GZ (fj hr) fu (qL (dZ B) (qw 0)) (qL (dZ B) (qw 1)) (aX _)) (J5 (IW (BR rfl) Xu (bF (BR rfl) () (abg B) () (ak (sI ["_law_k"] ["_law_got","_law_due"] [0,1] rfl (vL (aK pO)) (jK rfl (mQ B) (ak (qL (dZ B) (qw 1)) au)) (λ_ _ _ _=>(dD 0 (show (["_law_k","_law_got","_law_due"]:List Str).Nodup from by decide +kernel))) aV (λ_ _ _ _=>jl) (λ_ _ _ _=>(bI aiF () rfl (ak (m7 (qw 1) (qw 0) ()) (ak (m7 (qw 2) (qw 0) ()) au)) ()))) au))))))))
  bN)
  (aA (bT (nO (wZ (bF fD () (dN B) () (cT (qw 1) (cT (iZ (v:=.ty "str") (u:=.type "str") rfl (abi B) () rfl) jx)))) (λ_=>rfl))
  (aD (bH (Bw (wZ (bF fD () (dN B) () (cT (qw 0) (cT (iZ (v:=.ty "str") (u:=.type "str") rfl (abi B) () rfl) jx)))) (J5 (GZ (fj hr) fu (qw 0) (qw 1) (aX _))))))
  bN)
  (aA (bT (bC HR EY (qw 1) xf (aX _))
  (aD (bH (GZ HR EY (qw 0) xf (aX _))))
  bN)
  (aD (bH (Bw (wZ (bF fD () (dN B) () (cT (qw 0) (cT (iZ (v:=.ty "int") (u:=.type "int") rfl (abh B) () rfl) jx)))) (Bw (ad4 (wZ (bF fD () (dN B) () (cT (qw 0) (cT (iZ (v:=.ty "bool") (u:=.type "bool") rfl (XQ B) () rfl) jx))))) (J5 (GZ (fj hr) fu (qw 0) (qw 1) (aX _))))))))))]
theorem Am(aja:dH K mg "_law_alike" pO ["_law_got","_law_due"]):∀n:Nat,cU P w K mg base "_law_alike" (0+n) ["_law_got","_law_due"] (cR K 2 (eU n))
 |0=>zU aja
 |n+1=>by have ih:=Am aja n;show Nk B aiq aip air aim ain hkx aja ih
theorem Qw(F:dH K mg "_law_name" yW ["_law_script","_law_k"])(ait:kJ P w K mg base):Ec P w K mg base:=
 F.ok (k:=1) tH λf cdv A outer s H E hr=>#[_,λ_ _=>rfl,(aA (dF 2 tH.nd (bI ait (hr.mono ()) rfl (ak (qw 0) (ak aJ au)) (az (az aN))))
  (aA (bT (bC (iu hr) fX (aW bD bf (qw 2) aJ) aJ (aX _))
  (aD (bH (aW cJ cM (aW acA aal fK (aW bD bf (qw 1) aJ)) (ig (cA hr) fK (aW cH bU (qw 1) aJ) (λ_ _=>rfl)))))
  bN)
  (aA (dF 3 tH.nd (aW bD bf (aW cH bU (qw 2) aJ) aJ))
  (aA (dF 4 tH.nd (aW bD bf (aW cH bU (qw 2) aJ) (aW cJ cM (qw 3) aJ)))
  (aD (bH (aW cJ cM (aW cJ cM (zZ fK zM (ut (qw 4))) (ig (cA hr) fK (qw 1) (λ_ _=>rfl))) (zZ fK (ut (qw 4)) (ut (qw 3))))))))))]
theorem Qx(F:dH K mg "_law_leaf" yX ["_law_cell_here","_law_scope"])(aiw:ql P w K mg base):xP P w K mg base:=
 F.ok (k:=1) jL λf cdv A outer s H E hr=>#[_,λ_ _=>rfl,(aA (Dz (qw 1) (je rfl (aZ (dD 2 jL.nd) (aZ (dD 3 jL.nd) (aZ (dD 4 jL.nd) (aZ (dD 5 jL.nd) gM))))) (jf (bA aV (bA aV (bA aV (bA aV jc))))))
  (aA (dF 6 jL.nd (aW bD bf (qw 0) aJ))
  (aA (bT (bC (iu hr) fX (qw 6) aJ (aX _))
  (aD (bH (eF (ak fK (ak (ig (cA hr) (eX (ak (aW bD bf (aW cH bU (qw 0) aJ) aJ) (ak (bI aiw (hr.mono ()) rfl (ak (aW cH bU (qw 0) aJ) au) (az aN)) au))) (aW bD bf (aW cH bU (qw 0) aJ) aJ) (λ_ _=>rfl)) au)))))
  bN)
  (aA (bT (PW.pt (pH (bC (iu hr) fX (qw 6) aJ (aX _)) (nZ (bC vR sJ (jA (bF cX () (dZ B) agj (ak (qw 3) au))) aJ (aX _)))))
  (aA (dF 7 jL.nd (eF (ak fK (ak (aW bD bf (aW cH bU (qw 0) aJ) aJ) au))))
  (aA (bT (bC (iu hr) fX (aW bD bf (aW cH bU (qw 0) aJ) aJ) aJ (aX _))
  (aD (dF 7 jL.nd (eF (ak fK (ak (ig (cA hr) (qw 2) (aW bD bf (aW cH bU (qw 0) aJ) (jA (bF cX () (dZ B) agj (ak (qw 2) au)))) (λ_ _=>rfl)) au)))))
  bN)
  (aD (bH (eF (ak fK (ak (ig (cA hr) (qw 3) (aW bD bf (aW cH bU (qw 0) aJ) (jA (bF cX () (dZ B) agj (ak (qw 3) au)))) (λ_ _=>rfl)) (ak (qw 7) au))))))))
  bN)
  (aD (bH (eF (ak fK (ak (ig (cA hr) (qw 2) (aW bD bf (aW cH bU (qw 0) aJ) (jA (bF cX () (dZ B) agj (ak (qw 2) au)))) (λ_ _=>rfl)) au)))))))))]
theorem Ei(F:dH K mg "_law_expression" qF ["_law_cell_here","_law_scope"])(aiB:xP P w K mg base):pW P w K mg base:=
 F.ok (k:=2) lM λf cdv A outer s H E hr=>#[_,λ_ _=>rfl,(aA (bT (bC (iu hr) fX (aW bD bf (qw 0) aJ) aJ (aX _))
  (aD (bH (bI aiB () rfl (ak (aW cH bU (qw 0) aJ) (ak (qw 1) au)) ())))
  bN)
  (aA (dF 2 lM.nd (bI aiB () rfl (ak (aW bD bf (aW gP fO (qw 0) aJ) aJ) (ak (qw 1) au)) ()))
  (aA (dF 3 lM.nd (bI aiB () rfl (ak (aW bD bf (aW gP fO (qw 0) aJ) aJ) (ak (qw 1) au)) ()))
  (aA (bT (bC (iu hr) fX (aW bD bf (aW cH bU (qw 0) aJ) aJ) aJ (aX _))
  (aD (dF 2 lM.nd (eF (ak (ig (cA hr) fK (aW bD bf (aW cH bU (qw 0) aJ) aJ) ()) (ak (qw 3) (ak (qw 2) au))))))
  bN)
  (aD (bH (eF (ak (ig (cA hr) fK (aW bD bf (aW cH bU (qw 0) aJ) aJ) ()) (ak (qw 2) (ak (qw 3) au))))))))))]
theorem R5(F:dH K mg "_law_row" v6 ["_law_a","_law_b","_law_scope"])(aiv:pW P w K mg base)(aiB:xP P w K mg base):Gr P w K mg base:=
 F.ok (k:=3) gZ λf cdv A outer s H E hr=>#[_,λ_ _=>rfl,(@aA _ _ _ _ _ (Dz (qw 2) (je rfl (aZ (dD 3 gZ.nd) (aZ (dD 4 gZ.nd) (aZ (dD 5 gZ.nd) (aZ (dD 6 gZ.nd) gM))))) (jf (bA aV (bA aV (bA aV (bA aV jc))))))
  (@aA _ _ _ _ _ (@dF _ 7 _ _ _ _ _ gZ.nd (ig (cA hr) (qw 3) (aW bD bf (aW cH bU (qw 0) aJ) (jA (bF cX () (dZ B) agj (ak (qw 3) au)))) ()) () () () ())
  (@aA _ _ _ _ _ (@dF _ 8 _ _ _ _ _ gZ.nd (aW bD bf (qw 0) aJ) () () () ())
  (@aA _ _ _ _ _ (@bT _ _ _ _ _ _ _ _ (PW.pt (pH (bC Bl wY (qw 8) aJ (aX _)) (nZ (bC vR sJ (jA (bF cX () (dZ B) agj (ak (qw 4) au))) aJ (aX _)))))
  (@aA _ _ _ _ _ (@dF _ 9 _ _ _ _ _ gZ.nd (eF (ak fK (ak (aW bD bf (aW cH bU (qw 0) aJ) aJ) au))) () () () ())
  (@aA _ _ _ _ _ (@bT _ _ _ _ _ _ _ _ (bC (iu hr) fX (aW bD bf (aW cH bU (qw 0) aJ) aJ) aJ (aX _))
  (@aD _ _ _ (@dF _ 9 _ _ _ _ _ gZ.nd (bI aiB () rfl (ak (aW cH bU (qw 0) aJ) (ak (qw 2) au)) ()) () () () ())) bN)
  (@aD _ _ _ (@bH _ _ _ _ (eF (ak fK (ak (ig (cA hr) (qw 4) (aW bD bf (aW cH bU (qw 0) aJ) (jA (bF cX () (dZ B) agj (ak (qw 4) au)))) ()) (ak (qw 9) (ak (bI aiv () rfl (ak (qw 1) (ak (qw 2) au)) ()) au))))))))) bN)
  (@aA _ _ _ _ _ (@bT _ _ _ _ _ _ _ _ (bC (iu hr) fX (qw 8) aJ (aX _))
  (@aD _ _ _ (@bH _ _ _ _ (eF (ak fK (ak (qw 7) (ak (bI aiv () rfl (ak (qw 1) (ak (qw 2) au)) ()) (ak (ig (cA hr) (qw 6) (aW bD bf (aW cH bU (qw 0) aJ) (jA (bF cX () (dZ B) agj (ak (qw 6) au)))) ()) au))))))) bN)
  (@aA _ _ _ _ _ (@bT _ _ _ _ _ _ _ _ (PW.pt (pH (bC (Xo hr) S6 (qw 8) (eF (ak aJ (ak aJ (ak aJ (ak aJ au))))) (by with_unfolding_all rfl)) (nZ (bC vR sJ (jA (bF cX () (dZ B) agj (ak (qw 5) au))) aJ (aX _)))))
  (@aA _ _ _ _ _ (Dz (ig (cA hr) (qw 5) (aW bD bf (aW cH bU (qw 0) aJ) (jA (bF cX () (dZ B) agj (ak (qw 5) au)))) ()) (je rfl (aZ (dD 10 gZ.nd) (aZ (dD 11 gZ.nd) gM))) (jf (bA aV (bA aV jc))))
  (@aA _ _ _ _ _ (zH (i:=12) ["_law_j"] ["_law_b","_law_scope"] [1,2] gZ.nd rfl rfl rfl (vL (aK v6)) (jK rfl (mQ B) (ak (jA (bF cX () (dZ B) agj (ak (qw 11) au))) au)) (λ_ _ _ _=>(dD 0 (show (["_law_j","_law_b","_law_scope"]:List Str).Nodup from by decide +kernel))) aV (λ_ _ _ _=>jl) (λ_ _ _ _=>(bI aiB () rfl (ak (aW bD bf (aW gP fO (aW cJ cM (qw 1) aJ) (aW cJ cM (aW gP fO (qw 0) aJ) aJ)) aJ) (ak (qw 2) au)) ())))
  (@aD _ _ _ (@bH _ _ _ _ (eF (ak fK (ak (qw 7) (ak (qw 10) (ak (qw 12) au))))))))) bN)
  (@aD _ _ _ (@bH _ _ _ _ (eF (ak fK (ak (qw 7) (ak (bI aiv () rfl (ak (qw 1) (ak (qw 2) au)) ()) au))))))))))))]
theorem Ko(F:dH K mg "_law_opened" vI ["_law_a","_law_b","_law_scope"])(aiv:pW P w K mg base):Ah P w K mg base:=
 F.ok (k:=3) Ae λf cdv A outer s H E hr=>#[_,λ_ _=>rfl,(@aA _ _ _ _ _ (@bT _ _ _ _ _ _ _ _ (bC Bl wY (aW bD bf (qw 0) aJ) aJ (aX _))
  (@aD _ _ _ (@bH _ _ _ _ (@ji _ _ _ (@eX _ _ _ _ (@ak _ _ _ _ _ fK (@ak _ _ _ _ _ (bI aiv () rfl (ak (qw 1) (ak (qw 2) au)) ()) (@ak _ _ _ _ _ xf (@ak _ _ _ _ _ (@ji _ _ _ (@eX _ _ _ _ au)) au ()) ()) ()) ()))))) bN)
  (@aA _ _ _ _ _ (@bT _ _ _ _ _ _ _ _ (bC (iu hr) fX (aW bD bf (aW cH bU (qw 0) aJ) aJ) aJ (aX _))
  (@aD _ _ _ (@bH _ _ _ _ (@ji _ _ _ (@eX _ _ _ _ (@ak _ _ _ _ _ fK (@ak _ _ _ _ _ (bI aiv () rfl (ak (qw 1) (ak (qw 2) au)) ()) (@ak _ _ _ _ _ xf (@ak _ _ _ _ _ (@ji _ _ _ (@eX _ _ _ _ au)) au ()) ()) ()) ()))))) bN)
  (@aA _ _ _ _ _ (@dF _ 3 _ _ _ _ _ Ae.nd (ig (cA hr) (ig (cA hr) (qw 2) aJ ()) (aW bD bf (aW cH bU (qw 0) aJ) (jA (bF cX () (dZ B) agj (ak (ig (cA hr) (qw 2) aJ ()) au)))) ()) () () () ())
  (@aD _ _ _ (@bH _ _ _ _ (@ji _ _ _ (@eX _ _ _ _ (@ak _ _ _ _ _ fK (@Ac _ _ _ _ _ _ _ (@eF _ _ _ _ _ (@ak _ _ _ _ _ fK (@ak _ _ _ _ _ (qw 3) au ()) ())) (@ak _ _ _ _ _ xf (@ak _ _ _ _ _ (@ji _ _ _ (@eX _ _ _ _ (@Ac _ _ _ _ _ _ _ (@eF _ _ _ _ _ (@ak _ _ _ _ _ fK (@ak _ _ _ _ _ (qw 3) (@Ac _ _ _ _ _ _ _ (@eF _ _ _ _ _ (@ak _ _ _ _ _ fK (@Ac _ _ _ _ _ _ _ (@eF _ _ _ _ _ (@ak _ _ _ _ _ fK (@ak _ _ _ _ _ (qw 3) au ()) ())) (@Ac _ _ _ _ _ _ _ (@eF _ _ _ _ _ (@ak _ _ _ _ _ fK (@ak _ _ _ _ _ aJ au ()) ())) au)) ())) au) ()) ())) au))) au ()) ())) ()))))))))]
theorem Qy(F:dH K mg "_law_shut" yZ ["_law_levels","_law_with_else"]):Ed P w K mg base:=
 F.ok (k:=0) pQ λf cdv A outer s H E hr=>#[_,λ_ _=>rfl,(aA (Dz (m7 (qw 0) (uv aJ) ()) (je rfl (aZ (dD 2 pQ.nd) (aZ (dD 3 pQ.nd) (aZ (dD 4 pQ.nd) (aZ (dD 5 pQ.nd) gM))))) (acz (bA aV (bA aV (bA aV (bA aV jc))))))
  (aA (bT (PW.pt (pH (bC (fj hr) fu (qw 2) fK (aX _)) (pH (bC HR EY (qw 4) xf (aX _)) (nZ (nO (qw 1) (λ_=>rfl))))))
  (aA (G7 (uZ (ji (@eX _ _ _ _ (@ak _ _ _ _ _ (qw 2) (@ak _ _ _ _ _ (qw 3) (@ak _ _ _ _ _ (qw 5) (@ak _ _ _ _ _ (ji (@eX _ _ _ _ au)) au ()) ()) ()) ()))) (wQ (qw 0) (uv aJ) set_list)))
  (aD SJ))
  bN)
  (aA (gf (VB (HX agg PySem.F.slot_list_pop PySem.F.type_list_pop Ou (qw 0))))
  (aD (bT (bC (fj hr) fu (qw 2) fK (aX _))
  (aD (j8 (ik (mj agg agR agS gQ (qI (m7 (qw 0) (uv aJ) ())) (ak (eF (ak (qw 2) (ak (qw 3) (ak (qw 5) au)))) au)))))
  (aD (bT (bC HR EY (qw 4) xf (aX _))
  (aD (j8 (ik (mj agg agR agS gQ (qI (m7 (qw 0) (uv aJ) ())) (ak (@eF _ _ _ _ _ (@ak _ _ _ _ _ (qw 2) (@ak _ _ _ _ _ (qw 3) (@ak _ _ _ _ _ (qw 5) (@ak _ _ _ _ _ (ji (@eX _ _ _ _ au)) au ()) ()) ()) ())) au)))))
  (aD (j8 (ik (mj agg agR agS gQ (qI (m7 (qw 0) (uv aJ) ())) (ak (eF (ak (qw 2) (ak (qw 3) (ak (qw 4) (ak (qw 5) au))))) au))))))))))))]
theorem Qz(F:dH K mg "_law_rows" zc ["_law_script","_law_at","_law_turns","_law_scope"])(ait:kJ P w K mg base)(ai6:Ah P w K mg base)(ajg:Gr P w K mg base)(ai4:Ed P w K mg base):Ef P w K mg base:=
 F.ok (k:=4) pR λf cdv A outer s H E hr=>#[_,λ_ _=>rfl,(@aA _ _ _ _ _ (@dF _ 4 _ _ _ _ _ pR.nd (aec (@eX _ _ _ _ (@ak _ _ _ _ _ (@ji _ _ _ (@eX _ _ _ _ (@ak _ _ _ _ _ fK (@ak _ _ _ _ _ xf (@ak _ _ _ _ _ xf (@ak _ _ _ _ _ (@ji _ _ _ (@eX _ _ _ _ au)) au ()) ()) ()) ()))) au ()))) () () () ())
  (@aA _ _ _ _ _ (@jy _ _ _ _ _ _ _ _ _ agU rfl (jK rfl (mQ B) (ak (qw 2) au)) (dD 5 pR.nd) aV
  (@aA _ _ _ _ _ (@dF _ 6 _ _ _ _ _ pR.nd (bI ait () rfl (ak (qw 0) (ak (aW cJ cM (qw 1) (aW gP fO aJ (qw 5))) au)) ()) () () () ())
  (@aA _ _ _ _ _ (@dF _ 7 _ _ _ _ _ pR.nd (bI ait () rfl (ak (qw 0) (ak (aW cJ cM (aW cJ cM (qw 1) (aW gP fO aJ (qw 5))) aJ) au)) ()) () () () ())
  (@aD _ _ _ (@bT _ _ _ _ _ _ _ _ (PW.pt (pH (bC (Xo hr) S6 (aW bD bf (qw 6) aJ) (eF (ak aJ (ak aJ (ak aJ au)))) (by with_unfolding_all rfl)) (nZ (bC Bl wY (jA (bF cX () (dZ B) agj (ak (qw 4) au))) aJ (aX _)))))
  (@aD _ _ _ (j8 (ik (mj agg agR agS gQ (qw 4) (ak (bI ai6 () rfl (ak (qw 6) (ak (qw 7) (ak (qw 3) au))) ()) au)))))
  (@aD _ _ _ (@bT _ _ _ _ _ _ _ _ (PW.pt (pH (bC vR sJ (aW bD bf (qw 6) aJ) aJ (aX _)) (nZ (bC vR sJ (jA (bF cX () (dZ B) agj (ak (qw 4) au))) aJ (aX _)))))
  (@aD _ _ _ (gf (bI ai4 () rfl (ak (qw 4) (ak (GZ (fj hr) fu (aW bD bf (qw 6) aJ) aJ (aX _)) au)) ())))
  (@aD _ _ _ (j8 (ik (mj agg agR agS gQ (qI (m7 (qw 4) (uv aJ) ())) (ak (bI ajg () rfl (ak (qw 6) (ak (qw 7) (ak (qw 3) au))) ()) au))))))))))) (by intro _;rfl))
  (@aA _ _ _ _ _ (@Pb _ 40 _ _ _ _ _ agU (bC vR sJ (jA (bF cX () (dZ B) agj (ak (qw 4) au))) aJ (aX _))
  (@aD _ _ _ (gf (bI ai4 () rfl (ak (qw 4) (ak (qc yc gC) au)) ()))))
  (@aD _ _ _ (@bH _ _ _ _ (XC (qI (qI (qw 4)))))))))]
theorem Js(F:dH K mg "_law_program" jB ["_law_script"])(ait:kJ P w K mg base)(aiL:Ec P w K mg base)(ai5:Ef P w K mg base):yC P w K mg base:=
 F.ok (k:=5) bR λf cdv A outer s H E hr=>#[_,λ_ _=>rfl,(aA (dF 1 bR.nd (bI ait () rfl (ak (qw 0) (ak aJ au)) ()))
  (aA (dF 2 bR.nd (bI ait () rfl (ak (qw 0) (ak aJ au)) ()))
  (aA (dF 3 bR.nd (eX au))
  (aA (jy agU rfl (jK rfl (mQ B) (ak (aW cJ cM aJ (aW bD bf (qw 1) aJ)) au)) (dD 4 bR.nd) aV
  (aA (dF 5 bR.nd aJ)
  (aA (bT (PW.pt (pH (bC (nP hr) nQ (qw 4) (aW bD bf (aW wy ur (qw 1) aJ) (aW cJ cM aJ (aW bD bf (qw 1) aJ))) (aX _)) (nZ (bC (fj hr) fu (aW bD bf (aW bD bf (aW gP fO (aW gP fO (aW cJ cM (aW wy ur (qw 1) aJ) aJ) (aW cJ cM (qw 4) aJ)) aJ) aJ) aJ) aJ (aX _)))))
  (aD (dF 5 bR.nd (aW cJ cM aJ (aW bD bf (aW cJ cM (aW wy ur (qw 1) aJ) (qw 4)) aJ))))
  bN)
  (aD (xg (pv 3) (eF (ak (bI aiL () rfl (ak (qw 0) (ak (qw 4) au)) ()) (ak (qw 5) (ak xf au)))))))))
  (aA (zH (i:=6) ["_law_box"] [] [] bR.nd rfl rfl rfl (vL (aK jB)) (jU (qw 3)) (λ_ _ _ _=>(dD 0 (show (["_law_box"]:List Str).Nodup from by decide +kernel))) aV (λ_ _ _ _=>(Pn (bC (fj hr) fu (qI (qw 0)) aJ (aX _)))) (λ_ _ _ _=>(qI (qw 0))))
  (aA (zH (i:=7) ["_law_box"] [] [] bR.nd rfl rfl rfl (vL (aK jB)) (jU (qw 3)) (λ_ _ _ _=>(dD 0 (show (["_law_box"]:List Str).Nodup from by decide +kernel))) aV (λ_ _ _ _=>(Pn (bC vR sJ (qI (qw 0)) aJ (aX _)))) (λ_ _ _ _=>(qI (qw 0))))
  (aA (dF 8 bR.nd (eX (ak (bI aiL () rfl (ak (qw 0) (ak (aW bD bf (aW wy ur (qw 2) aJ) aJ) au)) ()) au)))
  (aA (dF 9 bR.nd (eX au))
  (aA (jy agU rfl (jK rfl (mQ B) (ak (aW bD bf (qw 2) aJ) au)) (zr (i:=10) bR.nd rfl (Or.inr rfl)) aV
  (aA (zH (i:=11) ["_law_j"] ["_law_script","_law_f"] [0,10] bR.nd rfl rfl rfl (vL (aK jB)) (jK rfl (mQ B) (ak (aW bD bf (aW wy ur (qw 2) (m7 (eX (ak aJ (ak aJ (ak aJ au)))) (qw 10) ())) aJ) au)) (λ_ _ _ _=>(dD 0 (show (["_law_j","_law_script","_law_f"]:List Str).Nodup from by decide +kernel))) aV (λ_ _ _ _=>jl) (λ_ _ _ _=>(bI aiL () rfl (ak (qw 1) (ak (aW cJ cM (aW cJ cM aJ (aW gP fO aJ (qw 2))) (qw 0)) au)) ())))
  (aD (xg (pv 9) (eF (ak (bI aiL () rfl (ak (qw 0) (ak (aW cJ cM aJ (qw 10)) au)) ()) (ak (qw 11) au)))))))
  (aA (dF 12 bR.nd (eX au))
  (aA (jy agU rfl (jK rfl (mQ B) (ak (Jb (qL (dZ B) (qw 9))) au)) (zr (i:=10) bR.nd rfl (Or.inr rfl)) aV
  (aA (Dz (m7 (qw 9) (qw 10) ()) (je rfl (aZ (dD 13 bR.nd) (aZ (dD 14 bR.nd) gM))) (jf (bA aV (bA aV jc))))
  (aA (dF 15 bR.nd (eF (ak (aW cJ cM (aW cJ cM (qw 6) (qw 14)) (eX (ak (qw 13) au))) (ak (qw 7) (ak (qw 9) (ak (qw 8) au))))))
  (aA (dF 16 bR.nd (bI ai5 () rfl (ak (qw 0) (ak (aW cJ cM aJ (aW gP fO aJ (qw 10))) (ak (aW bD bf (aW wy ur (qw 2) (m7 (eX (ak aJ (ak aJ (ak aJ au)))) (qw 10) ())) aJ) (ak (qw 15) au)))) ()))
  (aD (xg (pv 12) (eF (ak (qw 13) (ak xf (ak (sI ["_law_param"] [] [] rfl (vL (aK jB)) (jU (qw 14)) (λ_ _ _ _=>(dD 0 (show (["_law_param"]:List Str).Nodup from by decide +kernel))) aV (λ_ _ _ _=>jl) (λ_ _ _ _=>(eF (ak (qw 0) (ak xf au))))) (ak (qw 16) au)))))))))))
  (aA (dF 16 bR.nd (bI ai5 () rfl (ak (qw 0) (ak aJ (ak (aW bD bf (bI ait () rfl (ak (qw 0) (ak aJ au)) ()) aJ) (ak (eF (ak (qw 6) (ak (qw 7) (ak (qw 9) (ak (qw 8) au))))) au)))) ()))
  (aD (bH (@eF _ _ _ _ _ (@ak _ _ _ _ _ (qw 3) (@aev _ _ _ _ _ _ (@eX _ _ _ _ (@Ac _ _ _ _ _ _ _ (@eF _ _ _ _ _ (@ak _ _ _ _ _ (qI (qw 8)) (@ak _ _ _ _ _ fK (@ak _ _ _ _ _ fK au ()) ()) ())) au)) (@ak _ _ _ _ _ (qw 12) (@ak _ _ _ _ _ (qw 16) au ()) ())) ()))))))))))))))))]
theorem Kp(F:dH K mg "_law_values" qX ["_law_script","_law_program_here"])(ait:kJ P w K mg base)(aiw:ql P w K mg base):Ai P w K mg base:=
 F.ok (k:=1) qg λf cdv A outer s H E hr=>#[_,λ_ _=>rfl,(aA (dF 2 qg.nd (eX au))
  (aA (jy agU rfl (jK rfl (mQ B) (ak (jA (bF cX () (dZ B) agj (ak (ig (cA hr) (qw 1) aJ ()) au))) au)) (dD 3 qg.nd) aV
  (aA (O8 (i:=4) qg.nd rfl (Or.inr rfl) (aW bD bf (aW gP fO (aW cJ cM (bI ait () rfl (ak (qw 0) (ak aJ au)) ()) (qw 3)) (aW cJ cM (aW gP fO (qw 3) (qw 3)) aJ)) aJ))
  (aD (bT (bC (iu hr) fX (ig (cA hr) (ig (cA hr) (ig (cA hr) (qw 1) aJ ()) (qw 3) ()) aJ ()) aJ (aX _))
  (aD (xg (pv 2) (ig (cA hr) (eX (ak (aW bD bf (aW cH bU (qw 4) aJ) aJ) (ak (bI aiw () rfl (ak (aW cH bU (qw 4) aJ) au) ()) au))) (aW bD bf (qw 4) aJ) ())))
  (aD (xg (pv 2) (sI ["_law_j"] ["_law_cell_here"] [4] rfl (vL (aK qX)) (jK rfl (mQ B) (ak (ig (cA hr) (ig (cA hr) (ig (cA hr) (qw 1) aJ ()) (qw 3) ()) aJ ()) au)) (λ_ _ _ _=>(dD 0 (show (["_law_j","_law_cell_here"]:List Str).Nodup from by decide +kernel))) aV (λ_ _ _ _=>jl) (λ_ _ _ _=>(bI aiw () rfl (ak (aW bD bf (aW gP fO (qw 1) (aW cJ cM (qw 0) aJ)) aJ) au) ())))))))))
  (aD (n8 (pv 2)))))]
theorem Kq(F:dH K mg "_law_joined" qY ["_law_moments"]):Aj P w K mg base:=
 F.ok (k:=0) mH λf cdv A outer s H E hr=>#[_,λ_ _=>rfl,(aA (dF 1 mH.nd (eX au))
  (aA (jy agU rfl (jU (qw 0)) (je rfl (aZ (zr (i:=2) mH.nd rfl (Or.inr rfl)) (aZ (dD 3 mH.nd) (aZ (dD 4 mH.nd) gM)))) (jf (bA aV (bA aV (bA aV jc))))
  (aD (Ql (pv 1) (sI ["_law_name_here","_law_place","_law_value"] ["_law_k"] [2] rfl (vL (aK qY)) (jU (qw 4)) (λ_ _ _ _=>(je rfl (aZ (dD 0 (show (["_law_name_here","_law_place","_law_value","_law_k"]:List Str).Nodup from by decide +kernel)) (aZ (dD 1 (show (["_law_name_here","_law_place","_law_value","_law_k"]:List Str).Nodup from by decide +kernel)) (aZ (dD 2 (show (["_law_name_here","_law_place","_law_value","_law_k"]:List Str).Nodup from by decide +kernel)) gM))))) (jf (bA aV (bA aV (bA aV jc)))) (λ_ _ _ _=>jl) (λ_ _ _ _=>(eF (ak (qw 3) (ak (qw 0) (ak (qw 1) (ak (qw 2) au))))))))))
  (aD (n8 (pv 1)))))]
theorem Jt(F:dH K mg "_law_written" uC ["_law_program_here","_law_values_here","_law_record"]):yD P w K mg base:=
 F.ok (k:=0) gF λf cdv A outer s H E hr=>#[_,λ_ _=>rfl,(aA (dF 3 gF.nd (eX au))
  (aA (jy agU rfl (Fg rfl (NQ B) (ak (qI (qw 0)) (ak (qw 1) au))) (je rfl (aZ (dD 4 gF.nd) (aZ (dD 5 gF.nd) gM))) (jf (bA aV (bA aV jc)))
  (aA (jy agU rfl (jU (qw 2)) (je rfl (aZ (dD 6 gF.nd) (aZ (dD 7 gF.nd) (aZ (dD 8 gF.nd) (aZ (dD 9 gF.nd) gM))))) (jf (bA aV (bA aV (bA aV (bA aV jc)))))
  (aD (bT (PW.pt (pH (bC (fj hr) fu (qw 7) (qI (qw 4)) (aX _)) (nZ (bC (fj hr) fu (qI (qw 4)) aJ (aX _)))))
  (aD (dF 5 gF.nd (qw 9)))
  (aD (bT (bC (fj hr) fu (qw 7) (qI (qw 4)) (aX _))
  (aD (G7 (uZ (qw 9) (wQ (qw 5) (qw 8) set_list))))
  bN)))))
  (aD (xg (pv 3) (qw 5)))))
  (aD (n8 (pv 3)))))]
theorem Gf(F:dH K mg "_law_values" rO ["_law_script","_law_program_here"])(ait:kJ P w K mg base)(aiw:ql P w K mg base):vP P w K mg base:=
 F.ok (k:=1) mC λf cdv A outer s H E hr=>#[_,λ_ _=>rfl,(aA (dF 2 mC.nd (eX au))
  (aA (jy agU rfl (jK rfl (mQ B) (ak (jA (bF cX () (dZ B) agj (ak (ig (cA hr) (qw 1) aJ (λ_ _=>rfl)) au))) au)) (dD 3 mC.nd) aV
  (aA (O8 (i:=4) mC.nd rfl (Or.inr rfl) (aW bD bf (aW gP fO (aW cJ cM (bI ait (hr.mono ()) rfl (ak (qw 0) (ak aJ au)) (az (az aN))) (qw 3)) (aW cJ cM (aW gP fO (qw 3) (qw 3)) aJ)) aJ))
  (aD (bT (bC (iu hr) fX (ig (cA hr) (ig (cA hr) (ig (cA hr) (qw 1) aJ (λ_ _=>rfl)) (qw 3) (λ_ _=>rfl)) aJ (λ_ _=>rfl)) aJ (aX _))
  (aD (xg (pv 2) (ig (cA hr) (eX (ak (aW bD bf (aW cH bU (qw 4) aJ) aJ) (ak (bI aiw (hr.mono ()) rfl (ak (aW cH bU (qw 4) aJ) au) (az aN)) au))) (aW bD bf (qw 4) aJ) (λ_ _=>rfl))))
  (aD (xg (pv 2) (ji (sI ["_law_j"] ["_law_cell_here"] [4] rfl (vL (aK rO)) (jK rfl (mQ B) (ak (ig (cA hr) (ig (cA hr) (ig (cA hr) (qw 1) aJ (λ_ _=>rfl)) (qw 3) (λ_ _=>rfl)) aJ (λ_ _=>rfl)) au)) (λ_ _ _ _=>(dD 0 (show (["_law_j","_law_cell_here"]:List Str).Nodup from by decide +kernel))) aV (λ_ _ _ _=>jl) (λ_ _ _ _=>(bI aiw (hr.mono ()) rfl (ak (aW bD bf (aW gP fO (qw 1) (aW cJ cM (qw 0) aJ)) aJ) au) (az aN)))))))))))
  (aD (n8 (pv 2)))))]
theorem aeB{f:Addr}{fd:FuncData}(F:ye K "law" "law" Cg f fd)(aiF:Nh P w K mg base)(ait:kJ P w K mg base)(ai7:Aj P w K mg base)(aiQ:yC P w K mg base)(aiS:Ai P w K mg base)(aiV:vP P w K mg base)(ai3:yD P w K mg base)(aju:XS P w K mg base)(ajb:Ml P w K mg base):rD P w K mg base uf 88 f fd ["_law_script"] (cR K 1 NP):=
 ye.okP (k:=87) F nT λcdv A outer s H E hr=>#[_,λ_ _=>rfl,(@aA _ _ _ _ _ (@dF _ 1 _ _ _ _ _ nT.nd (bI aiQ () rfl (ak (qw 0) au) ()) () () () ())
  (@aA _ _ _ _ _ (@dF _ 2 _ _ _ _ _ nT.nd (bI aiS () rfl (ak (qw 0) (ak (qw 1) au)) ()) () () () ())
  (@aA _ _ _ _ _ (@dF _ 3 _ _ _ _ _ nT.nd (aW bD bf (bI ait () rfl (ak (qw 0) (ak aJ au)) ()) aJ) () () () ())
  (@aA _ _ _ _ _ (@dF _ 4 _ _ _ _ _ nT.nd (bI ajb () rfl (ak (qw 1) (ak (qw 2) (ak (qw 3) au))) ()) () () () ())
  (@aA _ _ _ _ _ (@dF _ 5 _ _ _ _ _ nT.nd (bI ajb () rfl (ak (qw 1) (ak (qw 2) (ak (aW cJ cM (qw 3) aJ) au))) ()) () () () ())
  (@aA _ _ _ _ _ (@dF _ 6 _ _ _ _ _ nT.nd (bI aju () rfl (ak (qw 1) (ak (qw 2) (ak (qw 3) au))) ()) () () () ())
  (@aA _ _ _ _ _ (@dF _ 7 _ _ _ _ _ nT.nd (bI aju () rfl (ak (qw 1) (ak (qw 2) (ak (aW cJ cM (qw 3) aJ) au))) ()) () () () ())
  (@aA _ _ _ _ _ (@bT _ _ _ _ _ _ _ _ (Aa (PW.pt (vW (zG (nO (wZ (bF fD () (dN B) () (cT (qw 4) (cT (iZ (v:=.ty "list") (u:=.type "list") rfl (mO B) () rfl) jx)))) (λ_=>rfl))) (vW (zG (nO (wZ (bF fD () (dN B) () (cT (qw 5) (cT (iZ (v:=.ty "list") (u:=.type "list") rfl (mO B) () rfl) jx)))) (λ_=>rfl))) (zF (bC (nP hr) nQ (qw 4) (zZ (qw 5) zM (ut (jA (bF cX () (dZ B) agj (ak (qw 4) au))))) (aX _)))))))
  (@aD _ _ _ (@bH _ _ _ _ (qc yc gC))) bN)
  (@aA _ _ _ _ _ (@dF _ 8 _ _ _ _ _ nT.nd fK () () () ())
  (@aA _ _ _ _ _ (@bT _ _ _ _ _ _ _ _ (Aa (bC vR sJ (jA (bF cX () (dZ B) agj (ak (qw 5) au))) (jA (bF cX () (dZ B) agj (ak (qw 4) au))) (aX _)))
  (@aA _ _ _ _ _ (@dF _ 8 _ _ _ _ _ nT.nd fK () () () ())
  (@aD _ _ _ (@bT _ _ _ _ _ _ _ _ (Aa (PW.pt (vW (bC (fj hr) fu (jA (bF cX () (dZ B) agj (ak (qw 4) au))) aJ (aX _)) (vW (bC (nP hr) nQ (qI (m7 (qw 4) (uv aJ) ())) aJ (aX _)) (zF (bC (nP hr) nQ (qI (m7 (qw 4) (uv aJ) ())) (eX au) (aX _)))))))
  (@aD _ _ _ (@bH _ _ _ _ (qc yc gC))) bN))) bN)
  (@aA _ _ _ _ _ (@dF _ 9 _ _ _ _ _ nT.nd (Qi ai7 () rfl (ak (qw 4) au) ()) () () () ())
  (@aA _ _ _ _ _ (@dF _ 10 _ _ _ _ _ nT.nd (eF (ak (qw 8) (ak (qw 9) (ak (bI ai3 () rfl (ak (qw 1) (ak (bI aiV () rfl (ak (qw 0) (ak (qw 1) au)) ()) (ak (qw 9) au))) ()) au)))) () () () ())
  (@aA _ _ _ _ _ (@bT _ _ _ _ _ _ _ _ (PW.pt (vW (zG (nO (Qi aiF () rfl (ak (qw 6) (ak (qw 10) au)) ()) (λ_=>rfl))) (zF (PW.pt (pH (bC (fj hr) fu (qw 8) fK (aX _)) (nZ (Aa (bC (nP hr) nQ (qw 7) (qw 6) (aX _)))))))))
  (@aD _ _ _ (@bH _ _ _ _ (qc yc gC))) bN)
  (@aA _ _ _ _ _ (@bT _ _ _ _ _ _ _ _ (Aa (PW.pt (vW (bC (nP hr) nQ (zZ (qI (qw 7)) zM (ut (qL (dZ B) (qw 9)))) (qw 9) (aX _)) (vW (bC (nP hr) nQ (qw 1) (bI aiQ () rfl (ak (qw 0) au) ()) (aX _)) (zF (bC (nP hr) nQ (qw 2) (bI aiS () rfl (ak (qw 0) (ak (qw 1) au)) ()) (aX _)))))))
  (@aD _ _ _ (@bH _ _ _ _ (qc yc gC))) bN)
  (@aA _ _ _ _ _ (j8 (ik (mj agg agR agS gQ (qI (qw 6)) (ak (qI (qw 6)) au))))
  (@aA _ _ _ _ _ (j8 (ik (mj agg agR agS gQ (qw 4) (ak aJ au))))
  (@aD _ _ _ (@bH _ _ _ _ (Bw (Qi aiF () rfl (ak (bI aju () rfl (ak (qw 1) (ak (qw 2) (ak (qw 3) au))) ()) (ak (qw 10) au)) ()) (J5 (Qe (GZ (fj hr) fu (XC (bI ajb () rfl (ak (qw 1) (ak (qw 2) (ak (qw 3) au))) ())) (zZ (qw 4) zM (ut (uv aJ))) (aX _)))))))))))))))))))))))]
end
local macro_rules | `(tactic| walk_at "op")=>`(tactic| first | exact rfl | exact modP_go rfl rfl () | exact fdivP_go rfl rfl () () | exact Hc rfl rfl () () | exact mulP_gol rfl rfl () () | assumption)
local macro_rules | `(tactic| walk_at "ev")=>`(tactic| first
 | ((with_reducible refine' cN ?h1 ?h2 ?h3 ?h4 ?h5); (case h1=>walk_at "ev"); (case h2=>exact rfl); (case h3=>walk_at "ev"); (case h4=>exact rfl); (case h5=>walk_at "op"))
 | ((with_reducible refine' aB ?h1 ?h2); (case h1=>walk_at "ev"); (case h2=>walk_at "ev"))
 | ((with_reducible refine' bL ?h1 ?h2 ?h3); (case h1=>walk_at "ev"); (case h2=>exact rfl); (case h3=>exact rfl))
 | ((with_reducible refine' bZ ?h1); (case h1=>walk_at "ev"))
 | ((with_reducible refine' aC ?h1 ?h2); (case h1=>walk_at "ev"); (case h2=>walk_at "ev"))
 | ((with_reducible refine' aY ?h1 ?h2 ?h3 ?h4 ?h5); (case h1=>walk_at "ev"); (case h2=>exact rfl); (case h3=>exact rfl); (case h4=>exact rfl); (case h5=>walk_at "call"))
 | ((with_reducible refine' vD ?h1 ?h2 ?h3); (case h1=>walk_at "ev"); (case h2=>exact rfl); (case h3=>walk_at "op"))
 | ((with_reducible refine' dY ?h1 ?h2 ?h3); (case h1=>walk_at "ev"); (case h2=>exact rfl); (case h3=>exact rfl))
 | ((with_reducible refine' zX ?h1); (case h1=>walk_at "ev"))
 | ((with_reducible refine' and_go ?h1 ?h2); (case h1=>walk_at "ev"); (case h2=>walk_at "ev"))
 | ((with_reducible refine' Vv ?h1 ?h2); (case h1=>walk_at "ev"); (case h2=>walk_at "ev"))
 | ((with_reducible refine' tread_go ?h1); (case h1=>walk_at "ev"))
 | ((with_reducible refine' PP ?h1 ?h2); (case h1=>walk_at "ev"); (case h2=>exact rfl))
 | ((with_reducible refine' qM ?h1 ?h2 ?h3); (case h1=>walk_at "ev"); (case h2=>exact rfl); (case h3=>exact rfl))
 | ((with_reducible refine' fQ ?h1 ?h2 ?h3); (case h1=>walk_at "ev"); (case h2=>exact rfl); (case h3=>exact rfl))
 | ((with_reducible refine' Tc ?h1 ?h2 ?h3 ?h4); (case h1=>walk_at "ev"); (case h2=>exact rfl); (case h3=>exact rfl); (case h4=>exact rfl))
 | ((with_reducible refine' ym ?h1 ?h2 ?h3); (case h1=>walk_at "ev"); (case h2=>exact rfl); (case h3=>exact rfl))
 | ((with_reducible refine' iof_go ?h1 ?h2 ?h3); (case h1=>walk_at "ev"); (case h2=>exact rfl); (case h3=>exact rfl))
 | exact rfl
 | assumption)
local macro_rules | `(tactic| walk_at "call")=>`(tactic| first | assumption | exact rfl)
section
variable [HK]
def Sg(s:Str):Prop:=s="+"\/s="-"\/s="*"\/s="<"\/s="="
noncomputable def rk(s:Str)(a b:Int):Int:=if s="+" then (a+b)%(1000000000000:Int) else if s="-" then (a-b)%(1000000000000:Int) else if s="*" then a*b%(1000000000000:Int) else if s="<" then (if a<b then 1 else 0) else (if a=b then 1 else 0)
def QB(h:c Y=!(true,Y1)):ug c f g Y=f Y1:=by unfold ug;lia
def QC(h:c Y=!(false,Y1)):ug c f g Y=g Y1:=by unfold ug;lia
def aeC:0<=rk s a b/\rk s a b<(1000000000000:Int):=by
 unfold rk;have h1:=agl (a+b) (b:=(1000000000000:Int)) ();have h2:=agh (a+b) (b:=(1000000000000:Int)) ();have h3:=agl (a-b) (b:=(1000000000000:Int)) ();have h4:=agh (a-b) (b:=(1000000000000:Int)) ();have h5:=agl (a*b) (b:=(1000000000000:Int)) ();have h6:=agh (a*b) (b:=(1000000000000:Int)) ();split
 . show#[h1,h2]
 . split
   . show#[h3,h4]
   . split
     . show#[h5,h6]
     . split
       . split<;>decide
       . split<;>decide
def Ju(h:f Y=!(.sh (.str a),Y1))(e:(a==b)=true):tT (aq gm f (akh b)) aQ Y=!(true,Y1):=Ff (dq h rfl (by show some (Lc.sh (.bl (a==b)))=_;rw[e])) rfl
def xQ(h:f Y=!(.sh (.str a),Y1))(e:(a==b)=false):tT (aq gm f (akh b)) aQ Y=!(false,Y1):=Ff (dq h rfl (by show some (Lc.sh (.bl (a==b)))=_;rw[e])) rfl
def xR(h:f Y=!(.sh (.int a),Y1)):tT (aq gm f (akg b)) aQ Y=!(decide (a=b),Y1):=Ff (dq h rfl rfl) ()
def acB(hs:Sg s)(ha:0<=a)(ha2:a<(1000000000000:Int)):Ck [.str s,.int a,.int b] mu=!(.sh (.int (rk s a b)),mu):=by
 have lt:∀(f:Int->Int->PV),tT (aq qx (aa 1) (aa 2)) aQ #[[!(.sh (.str s)),!(.sh (.int a)),!(.sh (.int b))],mu]=!(decide (a<b),#[[!(.sh (.str s)),!(.sh (.int a)),!(.sh (.int b))],mu]):=λ_=>rfl;have eq:tT (aq gm (aa 1) (aa 2)) aQ #[[!(.sh (.str s)),!(.sh (.int a)),!(.sh (.int b))],mu]=!(a==b,#[[!(.sh (.str s)),!(.sh (.int a)),!(.sh (.int b))],mu]):=rfl;have no:∀(t:Str)(f g:SF),(s==t)=false->aG (bY (tT (aq gm (aa 0) (akh t)) aQ) f cu) g #[[!(.sh (.str s)),!(.sh (.int a)),!(.sh (.int b))],mu]=g #[[!(.sh (.str s)),!(.sh (.int a)),!(.sh (.int b))],mu]:=λt f g h=>
  Fe (yY (xQ rfl h) rfl)
 have yes:∀(t:Str)(f g:SF)(r:Lc)(Y:Ev),(s==t)=true->f #[[!(.sh (.str s)),!(.sh (.int a)),!(.sh (.int b))],mu]=!(.rt r Y)->aG (bY (tT (aq gm (aa 0) (akh t)) aQ) f cu) g #[[!(.sh (.str s)),!(.sh (.int a)),!(.sh (.int b))],mu]=!(.rt r Y):=λt f g r Y h h2=>
  gj (yT (Ju rfl h) h2)
 show bh (Y:=#[[!(.sh (.str s)),!(.sh (.int a)),!(.sh (.int b))],mu]) ?_;obtain rfl|rfl|rfl|rfl|rfl:=hs
 . show yes _ _ _ _ _ () (bZ (dq (dq rfl rfl (uw _ _)) rfl (gR ())))
 . show(no _ _ _ ()).trans ?_;show yes _ _ _ _ _ () (bZ (dq (dq rfl rfl rfl) rfl (gR ())))
 . show(no _ _ _ ()).trans ((no _ _ _ ()).trans ?_);show yes _ _ _ _ _ () (bZ (dq (dq rfl rfl (zW () ())) rfl (gR ())))
 . show(no _ _ _ ()).trans ((no _ _ _ ()).trans ((no _ _ _ ()).trans ?_));show yes _ _ _ _ _ () (bZ ?_);unfold ug;rw[lt (λ_ _=>.non),aaS];have e:rk "<" a b=if a<b then 1 else 0:=rfl
   rw[e];by_cases h:a<b
   . rw[aig h,aic h,aic rfl];rfl
   . rw[aif h,aid h,aid agV];rfl
 . show(no _ _ _ ()).trans ((no _ _ _ ()).trans ((no _ _ _ ()).trans ((no _ _ _ ()).trans (bZ ?_))));unfold ug;rw[eq,aaS];have e:rk "=" a b=if a=b then 1 else 0:=rfl
   rw[e];by_cases h:a=b
   . rw[aic h,aic ∅];rfl
   . rw[aid h,aid (λq=>h ∅)];rfl
def Sg.no(h:Sg s):(s== "num")=false/\(s== "box")=false/\(s== "@")=false:=by rcases h with rfl|rfl|rfl|rfl|rfl<;>decide +kernel
def aeD:fB (n+1) [.tup [.str "num",v],d] mu=!(.sh v,mu):=
 bh (Y:=#[[!(.sh (.tup [.str "num",v])),!(.sh d)],mu]) (gj (yT () (bZ rfl)))
def Dc(d:PV)(l:PD):Prop:=(∃ks ps,d=.dk ks ps/\l=ks.zip ps)\/∃ks ps,d=.df ks ps/\l=ks.zip ps
def Kr(h1:fa Y=!(x,Y1))(h2:fb Y1=!(y,Y2))(hd:Dc x.pv l)(hk:uy y.pv=!k)(hv:bQ l k=!p):cz fa fb Y=!(.sh p,Y2):=by
 unfold cz;rw[h1,aaS];dsimp only;rw[h2,aaS];obtain⟨ks,ps,e,rfl⟩|⟨ks,ps,e,rfl⟩:=hd
 . rw[e];dsimp only;rw[hk,aaS,hv];rfl
 . rw[e];dsimp only;rw[hk,aaS,hv];rfl
def aeE(hd:Dc d l)(h:bQ l (.inr x)=!p):fB (n+1) [.tup [.str "box",.str x],d] mu=!(.sh p,mu):=
 bh (Y:=#[[!(.sh (.tup [.str "box",.str x])),!(.sh d)],mu]) (aB (yY (xQ (a:="box") rfl ()) rfl) (gj (yT (Ju (a:="box") rfl ()) (bZ (Kr rfl rfl hd rfl h)))))
def acC(hs:Sg s)(ha:0<=a)(ha2:a<(1000000000000:Int))(h1:fB n [e1,d] mu=!(.sh (.int a),mu))(h2:fB n [e2,d] mu=!(.sh (.int b),mu)):fB (n+1) [.tup [.str s,e1,e2],d] mu=!(.sh (.int (rk s a b)),mu):=by let(n1,n2,n3):=hs.no;show bh (Y:=#[[!(.sh (.tup [.str s,e1,e2])),!(.sh d)],mu]) (aB (yY (xQ rfl n1) rfl) (aB (yY (xQ rfl n2) rfl) (aB (yY (xQ rfl n3) rfl) (bZ ?_))));show aY (aC rfl (aC (aY (aC rfl (aC rfl rfl)) rfl rfl rfl h1) (aC (aY (aC rfl (aC rfl rfl)) rfl rfl rfl h2) rfl))) rfl rfl rfl (acB hs ha ha2)
def d9(h1:b x Y=!Y1)(h2:body Y1=!(.nx Y2))(h3:iw b body xs Y2=R):iw b body (x::xs) Y=R:=by show (b x Y).bind _=R;rw[h1,aaS,h2,aaS];show h3
def aeF{ns:List Int}{i:Int}(h0:0<=i)(h1:i<ns.length):∃c,Gn (.lst (ns.map .int)) (.int i)=!(.sh (.int c)):=by let(x,e,e2):=Hb (l:=ns.map PV.int) (i:=i) h0 (by rw[aaW];show h1);rw[af9]at e2;let(c,_,rfl):=aik e2;show#[c,by show (gA (ns.map PV.int) i).map _=_;rw[e];rfl]
def v9(h1:fa Y=!(l,Y1))(hx:l.pv=p)(h2:fb Y1=!(m,Y2))(hy:m.pv=q)(hn:(∀n,p≠.ptr n)/\(∀k s,p≠.dk k s)/\∀k s,p≠.df k s)(h3:Gn p q=!r):cz fa fb Y=!(r,Y2):=by
 have e:=oK (fa:=λ_=>!(l,Y1)) (fb:=λ_=>!(m,Y2)) (Y:=Y) rfl hx rfl hy hn.1 h3;unfold cz;rw[h1,aaS];rw[h2,aaS];split
 . lia
 . lia
 . show e
def An:(∀n,PV.lst ps≠.ptr n)/\(∀k s,PV.lst ps≠.dk k s)/\∀k s,PV.lst ps≠.df k s:=#[λn h=>(by cases h),λ_ _ h=>(by cases h),λ_ _ h=>(by cases h)]
def X5:(∀n,PV.str x≠.ptr n)/\(∀k s,PV.str x≠.dk k s)/\∀k s,PV.str x≠.df k s:=#[λn h=>(by cases h),λ_ _ h=>(by cases h),λ_ _ h=>(by cases h)]
def yE(h:0<b)(h2:b<18446744073709551616):bM (.int a) (.int b)=!(.sh (.int (a/b))):=by show (if decide (0<b/\b<18446744073709551616)=true then _ else _)=_;rw[aic (aig #[h,h2])]
def cell_eq{ns:List Int}(hn:ns.length<=63)(h0:0<=k)(h1:k<100000):∃c,0<=c/\c<2147483629/\∀mu:Mu,cG [.lst (ns.map .int),.int k] mu=!(.sh (.int c),mu):=by
 have ln:∀(o:List (Option Lc))(mu:Mu),bO (aa 0) #[some (.sh (.lst (ns.map .int)))::o,mu]=!(.sh (.int ns.length),#[some (.sh (.lst (ns.map .int)))::o,mu]):=λo mu=>by show some (Lc.sh (.int ((ns.map PV.int).length:Nat)),_)=_;rw[(aaW ..)];rfl
 have fin:∀(c d:Int)(mu:Mu),(k/(max 1 (ns.length:Int)))=d->bV vau #[[!(.sh (.lst (ns.map .int))),!(.sh (.int k)),!(.sh (.int c))],mu]=
  !(.rt (.sh (.int ((c*69621+d*40014)%2147483629))) #[[!(.sh (.lst (ns.map .int))),!(.sh (.int k)),!(.sh (.int c))],mu]):=λc d mu hd=>by
  have mx:eB max2 vhx #[[!(.sh (.lst (ns.map .int))),!(.sh (.int k)),!(.sh (.int c))],mu]=!(.sh (.int (max 1 (ns.length:Int))),#[[!(.sh (.lst (ns.map .int))),!(.sh (.int k)),!(.sh (.int c))],mu]):=by
   show vD (aC rfl (aC (ln _ _) rfl)) rfl ?_;show some (Lc.sh (.int (if (ns.length:Int)>1 then (ns.length:Int) else 1)))=_;have:(if (ns.length:Int)>1 then (ns.length:Int) else 1)=max 1 (ns.length:Int):=by split<;>lia
   rw[this]
  have hmx:0<max 1 (ns.length:Int)/\max 1 (ns.length:Int)<18446744073709551616:=()
  show bZ (dq (dq (dq rfl rfl (DQ () ())) (dq (dq (l:=.sh (.int d)) rfl mx ?_) rfl (DQ () ())) (uw _ _)) rfl (gR ()));rw[<-hd];show yE hmx.1 hmx.2
 have st1:∀mu:Mu,aO 2 vdb (env0 3 [.lst (ns.map .int),.int k] mu)=!(.nx #[[!(.sh (.lst (ns.map .int))),!(.sh (.int k)),!(.sh (.int (k*k+11*k+3)))],mu]):=λmu=>
  bL (dq (dq (dq rfl rfl (zW () ())) (dq rfl rfl (zW () ())) (uw _ _)) rfl (uw _ _)) rfl rfl
 have tst:∀(mu:Mu)(c:Int),tT (aq jM (bO (aa 0)) (akg 0)) aQ #[[!(.sh (.lst (ns.map .int))),!(.sh (.int k)),!(.sh (.int c))],mu]=!(decide ((0:Int)<ns.length),#[[!(.sh (.lst (ns.map .int))),!(.sh (.int k)),!(.sh (.int c))],mu]):=λmu c=>
  dY (dq (ln _ _) rfl rfl) rfl rfl
 by_cases hz:(0:Int)<ns.length
 . have hm0:=agl k (b:=ns.length) ();have hm1:=agh k hz;let(x,ex):=aeF hm0 hm1;have st3:∀(mu:Mu)(c:Int),aO 2 vbf #[[!(.sh (.lst (ns.map .int))),!(.sh (.int k)),!(.sh (.int c))],mu]=!(.nx #[[!(.sh (.lst (ns.map .int))),!(.sh (.int k)),!(.sh (.int (x%1000000000039+k/ns.length*7907)))],mu]):=λmu c=>
    bL (dq (dq (v9 rfl rfl (dq rfl (ln _ _) (gR hz)) rfl An ex) rfl (gR ())) (dq (dq rfl (ln _ _) (yE hz ())) rfl (DQ () ())) (uw _ _)) rfl rfl
   show#[_,agl _ (),agh _ (),λmu=>bh (aB (st1 mu) (aB (yT ((tst mu _).trans (by rw[aig hz]<;>rfl)) (st3 mu _)) (fin _ _ mu rfl)))]
 . show#[_,agl _ (),agh _ (),λmu=>bh (aB (st1 mu) (aB (yY ((tst mu _).trans (by rw[aif hz]<;>rfl)) rfl) (fin _ _ mu rfl)))]
noncomputable def xT(c:Int):Int:=if c%4=0 then c/4%6 else if c%4=1 then (1000000000000:Int)-1-c/4%4 else if c%4=2 then 999997+c/4%7 else c*465661287%(1000000000000:Int)
def Ht(c:Int):0<=xT c/\xT c<(1000000000000:Int):=by
 have h5:=agl (c*465661287) (b:=(1000000000000:Int)) ();have h6:=agh (c*465661287) (b:=(1000000000000:Int)) ();unfold xT;split
 . lia
 . split
   . lia
   . split
     . lia
     . show#[h5,h6]
def Ej(c:Int)(mu:Mu):eQ [.int c] mu=!(.sh (.int (xT c)),mu):=by
 have no:∀(t:Int)(f g:SF),¬ c%4=t->aG (bY (tT (aq gm (aa 1) (akg t)) aQ) f cu) g #[[!(.sh (.int c)),!(.sh (.int (c%4)))],mu]=g #[[!(.sh (.int c)),!(.sh (.int (c%4)))],mu]:=λt f g h=>
  Fe (yY ((xR rfl).trans (by rw[aif h]<;>rfl)) rfl)
 have yes:∀(t:Int)(f g:SF)(r:Lc)(Y:Ev),c%4=t->f #[[!(.sh (.int c)),!(.sh (.int (c%4)))],mu]=!(.rt r Y)->aG (bY (tT (aq gm (aa 1) (akg t)) aQ) f cu) g #[[!(.sh (.int c)),!(.sh (.int (c%4)))],mu]=!(.rt r Y):=λt f g r Y h h2=>
  gj (yT ((xR rfl).trans (by rw[aig h]<;>rfl)) h2)
 have d4:aq bM (aa 0) (akg 4) #[[!(.sh (.int c)),!(.sh (.int (c%4)))],mu]=!(.sh (.int (c/4)),#[[!(.sh (.int c)),!(.sh (.int (c%4)))],mu]):=dq rfl rfl ();have pw:aq Vu (akg 10) (akg 12) #[[!(.sh (.int c)),!(.sh (.int (c%4)))],mu]=!(.sh (.int (1000000000000:Int)),#[[!(.sh (.int c)),!(.sh (.int (c%4)))],mu]):=rfl;show bh (Y:=#[[!(.sh (.int c)),!(.sh (.int (c%4)))],mu]) (aB (bL (dq rfl rfl (gR ())) rfl rfl) ?_);by_cases e0:c%4=0
 . rw[show xT c=c/4%6 from aic e0];show yes 0 _ _ _ _ e0 (bZ (dq d4 rfl (gR ())))
 . by_cases e1:c%4=1
   . rw[show xT c=(1000000000000:Int)-1-c/4%4 from (aid e0).trans (aic e1)];show(no 0 _ _ e0).trans (yes 1 _ _ _ _ e1 (bZ (dq (dq pw rfl rfl) (dq d4 rfl (gR ())) rfl)))
   . by_cases e2:c%4=2
     . rw[show xT c=999997+c/4%7 from (aid e0).trans ((aid e1).trans (aic e2))];show(no 0 _ _ e0).trans ((no 1 _ _ e1).trans (yes 2 _ _ _ _ e2 (bZ (dq rfl (dq d4 rfl (gR ())) (uw _ _)))))
     . rw[show xT c=c*465661287%(1000000000000:Int) from (aid e0).trans ((aid e1).trans (aid e2))];show(no 0 _ _ e0).trans ((no 1 _ _ e1).trans ((no 2 _ _ e2).trans (bZ (dq (dq rfl rfl (DQ () ())) pw (gR ())))))
def rz(rs:List Int)(i:Int):Int:=rs.getD i.toNat 0
def acD(h0:0<=i)(h1:i<rs.length):Gn (.lst (rs.map .int)) (.int i)=!(.sh (.int (rz rs i))):=by
 let(x,e,e2):=Hb (l:=rs.map PV.int) (i:=i) h0 (by rw[aaW];show h1);rw[af9]at e2;let(c,hc,rfl):=aik e2;show (gA (rs.map PV.int) i).map _=_;rw[e];have:rz rs i=c:=by unfold rz;rw[ahb,hc];rfl
 rw[this];rfl
def X6(h0:0<=i)(h1:¬ i<rs.length):rz rs i=0:=by unfold rz;lia
def aao(h:∀x∈rs,0<=x/\x<(1000000000000:Int)):0<=rz rs i/\rz rs i<(1000000000000:Int):=by
 unfold rz;rw[ahb];cases e:rs[i.toNat]? with
 |none=>decide
 |some x=>show h x (ag2 e)
def QD(h0:0<=i):zg [.lst (rs.map .int),.int i] mu=!(.sh (.int (rz rs i)),mu):=by
 show bh (Y:=#[[!(.sh (.lst (rs.map .int))),!(.sh (.int i))],mu]) (bZ ?_);have hl:((rs.map PV.int).length:Int)=rs.length:=by rw[aaW]
 have t:tT (sU IV qx (akg 0) (aa 1) (bO (aa 0))) aQ #[[!(.sh (.lst (rs.map .int))),!(.sh (.int i))],mu]=!(decide (i<rs.length),#[[!(.sh (.lst (rs.map .int))),!(.sh (.int i))],mu]):=by rw[<-hl];simp[sU,eC,eB,bO,Z5,aj,ao,aa,Ev.set,Lc.pv,IV,qx,zE,h0,tT,aQ]
 by_cases h:i<rs.length
 . show(QB (t.trans (by rw[aig h]<;>rfl))).trans (v9 (p:=.lst (rs.map .int)) (m:=.sh (.int i)) rfl rfl rfl rfl An (acD h0 h))
 . rw[X6 h0 h];show(QC (t.trans (by rw[aif h]<;>rfl))).trans rfl
def afI(hd:Dc d l)(h:bQ l (.inr r)=!(.lst (rs.map .int)))(h0:0<=i)(h1:fB n [e,d] mu=!(.sh (.int i),mu)):fB (n+1) [.tup [.str "@",.str r,e],d] mu=!(.sh (.int (rz rs i)),mu):=by show bh (Y:=#[[!(.sh (.tup [.str "@",.str r,e])),!(.sh d)],mu]) (aB (yY () rfl) (aB (yY () rfl) (gj (yT () (bZ ?_)))));show aY (aC (Kr rfl rfl hd rfl h) (aC (aY (aC rfl (aC rfl rfl)) rfl rfl rfl h1) rfl)) rfl rfl rfl (QD h0)
abbrev In(x:Int):Prop:=0<=x/\x<1000000000000
inductive Ex where
 |num (i:Int)
 |box (x:Str)
 |at_ (x:Str) (e:Ex)
 |op (s:Str) (a b:Ex)
noncomputable def Ex.pv:Ex->PV
 |.num i=>.tup [.str "num",.int i]
 |.box x=>.tup [.str "box",.str x]
 |.at_ x e=>.tup [.str "@",.str x,e.pv]
 |.op s a b=>.tup [.str s,a.pv,b.pv]
def Ex.dp:Ex->Nat
 |.num _=>1
 |.box _=>1
 |.at_ _ e=>e.dp+1
 |.op _ a b=>max a.dp b.dp+1
inductive BV where
 |n (i:Int)
 |l (is:List Int)
noncomputable def BV.pv:BV->PV
 |.n i=>.int i
 |.l is=>.lst (is.map .int)
def BV.ok:BV->Prop
 |.n i=>In i
 |.l is=>∀i∈is,In i
abbrev Bs:=List (Str×BV)
noncomputable def look(B:Bs)(x:Str):Option BV:=match B with
 |[]=>none
 |(y,v)::B=>if y=x then !v else look B x
def numAt(B:Bs)(x:Str):Int:=match look B x with
 |some (.n i)=>i
 |_=>0
def lstAt(B:Bs)(x:Str):List Int:=match look B x with
 |some (.l is)=>is
 |_=>[]
def ev(B:Bs):Ex->Int
 |.num i=>i
 |.box x=>numAt B x
 |.at_ x e=>rz (lstAt B x) (ev B e)
 |.op s a b=>rk s (ev B a) (ev B b)
def jW(B:Bs)(x:Str):Prop:=∃i,look B x=!(.n i)
def qP(B:Bs)(x:Str):Prop:=∃is,look B x=!(.l is)
def Ex.ok(B:Bs):Ex->Prop
 |.num i=>In i
 |.box x=>jW B x
 |.at_ x e=>qP B x/\e.ok B
 |.op s a b=>Sg s/\a.ok B/\b.ok B
structure yF(B:Bs):Prop where
 ok:∀q∈B,q.2.ok
 sm:∀q∈B,∀is,q.2=.l is->is.length<=8
theorem rQ:∀{B:Bs}{x:Str}{v:BV},look B x=!v->(x,v)∈B
 |(y,w)::B,x,v,h=>by
  unfold look at h;split at h
  . lia
  . show abl _ (rQ h)
def yG(hB:yF B):∀{e:Ex},e.ok B->In (ev B e)
 |.num i,h=>h
 |.box x,#[i,h]=>by show In (numAt B x);unfold numAt;rw[h];show hB.ok _ (rQ h)
 |.at_ x e,#[#[is,h],_]=>by show In (rz (lstAt B x) (ev B e));unfold lstAt;rw[h];show aao (hB.ok _ (rQ h))
 |.op s a b,_=>aeC
abbrev cC(B:Bs):List Key:=B.map λq=>.inr q.1
abbrev dkB(B:Bs):PV:=.dk (cC B) (B.map λq=>q.2.pv)
def Cr:∀{B:Bs}{f:BV->PV},(cC B).zip (B.map λq=>f q.2)=B.map λq=>(.inr q.1,f q.2)
 |[],_=>rfl
 |q::B,f=>by lia
theorem Ek:∀{B:Bs}{x:Str},bQ (B.map λq=>(Sum.inr q.1,q.2.pv)) (.inr x)=(look B x).map BV.pv
 |[],_=>rfl
 |(y,v)::B,x=>by
  show (if (Sum.inr y:Key)=.inr x then !v.pv else bQ (B.map λq=>(Sum.inr q.1,q.2.pv)) (.inr x))=(if y=x then !v else look B x).map BV.pv;by_cases e:y=x
  . lia
  . rw[aid (λh=>e ∅),aid e];show Ek
theorem value_eq(hB:yF B):∀{e:Ex}{n:Nat}{mu:Mu},e.ok B->e.dp<=n->fB n [e.pv,dkB B] mu=!(.sh (.int (ev B e)),mu)
 |.num i,n,mu=>λh hn=>by obtain⟨m,rfl⟩:∃m,n=m+1:=#[n-1,by unfold Ex.dp at hn;lia];show aeD
 |.box x,n,mu=>λz3 hn=>by let(i,h):=z3;obtain⟨m,rfl⟩:∃m,n=m+1:=#[n-1,by unfold Ex.dp at hn;lia];show aeE (.inl #[_,_,rfl,rfl]) (p:=.int (numAt B x)) ?_;rw[Cr (f:=BV.pv),Ek];unfold numAt;rw[h];rfl
 |.at_ x e,n,mu=>λz3 hn=>by let((is,h),he):=z3;obtain⟨m,rfl⟩:∃m,n=m+1:=#[n-1,by unfold Ex.dp at hn;lia];show afI (.inl #[_,_,rfl,rfl]) (rs:=lstAt B x) ?_ (yG hB he).1 (value_eq hB he (by unfold Ex.dp at hn;lia));rw[Cr (f:=BV.pv),Ek];unfold lstAt;rw[h];rfl
 |.op s a b,n,mu=>λz3 hn=>by let(hs,ha,hb):=z3;obtain⟨m,rfl⟩:∃m,n=m+1:=#[n-1,by unfold Ex.dp at hn;lia];show acC hs (yG hB ha).1 (yG hB ha).2 (value_eq hB ha (by unfold Ex.dp at hn;lia)) (value_eq hB hb (by unfold Ex.dp at hn;lia))
def lookB(h:look B x=!v):bQ ((cC B).zip (B.map λq=>q.2.pv)) (.inr x)=!v.pv:=by rw[Cr,Ek,h];rfl
def c2{α:Type}{a b:α}{l m:List α}(h:a=b)(g:l=m):a::l=b::m:=by rw[h,g]
def pX{B:Bs}:look ((z,w)::B) y=if z=y then !w else look B y:=rfl
def setB(B:Bs)(x:Str)(v:BV):Bs:=B.map λq=>if q.1=x then (q.1,v) else q
theorem rT:∀{B:Bs}{y:Str},look (setB B x v) y=if y=x then (look B x).map (λ_=>v) else look B y
 |[],y=>by split<;>rfl
 |(z,w)::B,y=>by
  have ih:=rT (x:=x) (v:=v) (B:=B) (y:=y);show look ((if z=x then (z,v) else (z,w))::setB B x v) y=_;by_cases e:z=x
  . rw[aic e];show (if z=y then !v else look (setB B x v) y)=_;by_cases e2:z=y
    . have e3:y=x:=by rw[<-e2,e]
      rw[aic e2,aic e3,pX,aic e];rfl
    . have e3:¬ y=x:=λh=>e2 ∅;rw[aid e2,ih,aid e3,aid e3,pX,aid e2]
  . rw[aid e];show (if z=y then !w else look (setB B x v) y)=_;by_cases e2:z=y
    . rw[aic e2,aid (λh=>e ∅),pX,aic e2]
    . rw[aid e2,ih];split
      . rw[pX,aid e]
      . rw[pX,aid e2]
def Jv:cC (setB B x v)=cC B:=by unfold cC setB;rw[agb];show agP λq _=>?_;lia
def X7:(setB B x v).map (·.1)=B.map (·.1):=by unfold setB;rw[agb];show agP λq _=>?_;lia
def mR(B C:Bs):Prop:=(∀x,jW B x->jW C x)/\∀x,qP B x->qP C x
def mR.refl:mR B B:=#[λ_ h=>h,λ_ h=>h]
def mR.trans(h:mR A B)(g:mR B C):mR A C:=#[λx q=>g.1 x (h.1 x q),λx q=>g.2 x (h.2 x q)]
theorem mR.ex(h:mR B C):∀{e:Ex},e.ok B->e.ok C
 |.num _=>λq=>q
 |.box x=>λq=>h.1 x q
 |.at_ x e=>λq=>#[h.2 x q.1,mR.ex h q.2]
 |.op s a b=>λq=>#[q.1,mR.ex h q.2.1,mR.ex h q.2.2]
def afJ(h:jW B x):mR B (setB B x (.n v)):=by
 let(i,h):=h;show#[λy ⟨j,q⟩=>?_,λy ⟨j,q⟩=>?_]
 . by_cases e:y=x
   . show#[v,by rw[rT,aic e,h];rfl]
   . show#[j,by rw[rT,aid e,q]]
 . by_cases e:y=x
   . lia
   . show#[j,by rw[rT,aid e,q]]
def afK(h:qP B x):mR B (setB B x (.l v)):=by
 let(i,h):=h;show#[λy ⟨j,q⟩=>?_,λy ⟨j,q⟩=>?_]
 . by_cases e:y=x
   . lia
   . show#[j,by rw[rT,aid e,q]]
 . by_cases e:y=x
   . show#[v,by rw[rT,aic e,h];rfl]
   . show#[j,by rw[rT,aid e,q]]
def yF.set(h:yF B)(hv:v.ok)(hl:∀is,v=.l is->is.length<=8):yF (setB B x v):=by
 have key:∀q∈setB B x v,q.2=v\/q∈B:=λq hq=>by
  let(p,hp,e):=abz.mp hq;by_cases c:p.1=x
  . rw[aic c]at e;show .inl (by rw[<-e])
  . rw[aid c]at e;show .inr (e▸hp)
 show#[λq hq=>?_,λq hq is e=>?_]
 . obtain h'|h':=key q hq
   . rw[h'];show hv
   . show h.ok q h'
 . obtain h'|h':=key q hq
   . show hl is (by rw[<-h',e])
   . show h.sm q h' is e
noncomputable def CB(mu:Mu)(hi:Nat):Nat->Bs->List PV->Prop
 |_,[],ps=>ps=[]
 |lo,(_,.n i)::B,ps=>∃r,ps=.int i::r/\CB mu hi lo B r
 |lo,(_,.l is)::B,ps=>∃c r,ps=.ptr c::r/\lo<=c/\c<hi/\mu[c]?=!(!(.lst (is.map .int)))/\CB mu hi (c+1) B r
theorem CB.lo:∀{lo lo':Nat}{B:Bs}{ps:List PV},lo'<=lo->CB mu hi lo B ps->CB mu hi lo' B ps
 |lo,lo',[],ps=>λ_ h=>h
 |lo,lo',(_,.n i)::B,ps=>λhl z5=>by let(r,e,h):=z5;show #[r,e,CB.lo hl h]
 |lo,lo',(_,.l is)::B,ps=>λhl z5=>by let(c,r,e,h1,h2,h3,h):=z5;show #[c,r,e,(),h2,h3,h]
theorem CB.frame:∀{lo:Nat}{B:Bs}{ps:List PV},(∀c,lo<=c->c<hi->mu'[c]?=mu[c]?)->CB mu hi lo B ps->CB mu' hi lo B ps
 |lo,[],ps=>λ_ h=>h
 |lo,(_,.n i)::B,ps=>λf z4=>by let(r,e,h):=z4;show #[r,e,CB.frame f h]
 |lo,(_,.l is)::B,ps=>λf z4=>by let(c,r,e,h1,h2,h3,h):=z4;show #[c,r,e,h1,h2,by rw[f c h1 h2];show h3,CB.frame (λd q1 q2=>f d () q2) h]
theorem CB.len:∀{lo:Nat}{B:Bs}{ps:List PV},CB mu hi lo B ps->ps.length=B.length
 |lo,[],ps=>λh=>by  subst h;rfl
 |lo,(_,.n i)::B,ps=>λz3=>by let(r,e,h):=z3;subst e;rw[aa9,aa9,h.len]
 |lo,(_,.l is)::B,ps=>λz3=>by let(c,r,e,h1,h2,h3,h):=z3;subst e;rw[aa9,aa9,h.len]
def Ks:∀k,aU mu k (.int i)=.int i
 |0=>rfl
 |_+1=>rfl
def QF{is:List Int}:∀k,aU mu k (.lst (is.map .int))=.lst (is.map .int)
 |0=>rfl
 |k+1=>by show PV.lst ((is.map PV.int).map (aU mu k))=_;rw[agb];show congrArg PV.lst (agP λi _=>Ks k)
theorem CB.res:∀{lo:Nat}{B:Bs}{ps:List PV},CB mu hi lo B ps->ps.map (aU mu (k+1))=B.map λq=>q.2.pv
 |lo,[],ps=>λh=>by have h:ps=[]:=h;subst h;rfl
 |lo,(_,.n i)::B,ps=>λz3=>by let(r,e,h):=z3;subst e;show c2 rfl h.res
 |lo,(_,.l is)::B,ps=>λz3=>by let(c,r,e,h1,h2,h3,h):=z3;subst e;show c2 ?_ h.res;show (match mu[c]? with |some (!p)=>aU mu k p |_=>.ptr c)=_;rw[h3];show QF k
theorem CB.val:∀{lo:Nat}{B:Bs}{ps:List PV},CB mu hi lo B ps->(∀i,look B x=!(.n i)->bQ ((cC B).zip ps) (.inr x)=!(.int i))/\∀is,look B x=!(.l is)->∃c,bQ ((cC B).zip ps) (.inr x)=!(.ptr c)/\lo<=c/\c<hi/\mu[c]?=!(!(.lst (is.map .int)))
 |lo,[],ps=>λh=>#[λi q=>(by cases q),λi q=>(by cases q)]
 |lo,(y,.n i)::B,ps=>λz3=>by
  let(r,e,h):=z3
  subst e;have ih:=h.val (x:=x);have ev:bQ ((cC ((y,BV.n i)::B)).zip (.int i::r)) (.inr x)=if (Sum.inr y:Key)=.inr x then !(.int i) else bQ ((cC B).zip r) (.inr x):=rfl
  have el:look ((y,BV.n i)::B) x=if y=x then !(.n i) else look B x:=rfl
  rw[ev,el];by_cases e:y=x
  . rw[aic e,aic (congrArg Sum.inr e)];show#[λj q=>by (cases q;rfl),λjs q=>by (cases q)]
  . rw[aid e,aid (λh=>e (Sum.inr.inj h))];show ih
 |lo,(y,.l is)::B,ps=>λz3=>by
  let(c,r,e,h1,h2,h3,h):=z3
  subst e;have ih:=h.val (x:=x);have ev:bQ ((cC ((y,BV.l is)::B)).zip (.ptr c::r)) (.inr x)=if (Sum.inr y:Key)=.inr x then !(.ptr c) else bQ ((cC B).zip r) (.inr x):=rfl
  have el:look ((y,BV.l is)::B) x=if y=x then !(.l is) else look B x:=rfl
  rw[ev,el];by_cases e:y=x
  . rw[aic e,aic (congrArg Sum.inr e)];show#[λj q=>by (cases q),λjs q=>by (cases q;show#[c,rfl,h1,h2,h3])]
  . rw[aid e,aid (λh=>e (Sum.inr.inj h))];show#[ih.1,λjs q=>?_];let(d,g1,g2,g3,g4):=ih.2 js q;show#[d,g1,(),g3,g4]
theorem QG:∀{B:Bs},x∉B.map (·.1)->look B x=none
 |[]=>λ_=>rfl
 |(y,v)::B=>λh=>by unfold look;rw[aid (λe=>h ∅)];show QG λq=>h (abl _ q)
theorem Th:∀{B:Bs},x∉B.map (·.1)->setB B x v=B
 |[]=>λ_=>rfl
 |(y,w)::B=>λh=>by show (if y=x then (y,v) else (y,w))::setB B x v=_;rw[aid (λe=>h ∅),Th λq=>h (abl _ q)]
theorem CB.setN:∀{lo:Nat}{B:Bs}{ps:List PV},(B.map (·.1)).Nodup->(∀is,look B x≠!(.l is))->CB mu hi lo B ps->∃ps',(j0 (.inr x) (.int v) ((cC B).zip ps)).map (·.1)=cC B/\(j0 (.inr x) (.int v) ((cC B).zip ps)).map (·.2)=ps'/\CB mu hi lo (setB B x (.n v)) ps'
 |lo,[],ps=>λ_ _ h=>by  subst h;show#[[],rfl,rfl,rfl]
 |lo,(y,.n i)::B,ps=>λnd hx z5=>by
  let(r,e,h):=z5
  subst e;let(hy,nd'):=agT.mp nd;have hx':∀is,look B x≠!(.l is):=λis q=>by
   by_cases e:y=x
   . rw[QG (e▸hy)]at q;cases q
   . show hx is (by unfold look;rw[aid e];show q)
  let(r',g1,g2,g3):=CB.setN nd' hx' h;have er:j0 (.inr x) (.int v) ((cC ((y,BV.n i)::B)).zip (.int i::r))=(if (Sum.inr y:Key)=.inr x then (Sum.inr y,PV.int v) else (Sum.inr y,.int i))::j0 (.inr x) (.int v) ((cC B).zip r):=rfl;rw[er];by_cases e:y=x
  . rw[aic (congrArg Sum.inr e)];show#[.int v::r',c2 rfl g1,c2 rfl g2,?_];show CB mu hi lo ((if y=x then (y,BV.n v) else (y,.n i))::setB B x (.n v)) _;rw[aic e];show#[r',rfl,g3]
  . rw[aid (λh=>e ∅)];show#[.int i::r',c2 rfl g1,c2 rfl g2,?_];show CB mu hi lo ((if y=x then (y,BV.n v) else (y,.n i))::setB B x (.n v)) _;rw[aid e];show#[r',rfl,g3]
 |lo,(y,.l is)::B,ps=>λnd hx z5=>by let(c,r,e,h1,h2,h3,h):=z5;subst e;let(hy,nd'):=agT.mp nd;have e:=λe=>hx is (by unfold look;rw[aic e]);let(r',g1,g2,g3):=CB.setN nd' (λjs q=>hx js (by unfold look;rw[aid e];show q)) h;have er:j0 (.inr x) (.int v) ((cC ((y,BV.l is)::B)).zip (.ptr c::r))=(if (Sum.inr y:Key)=.inr x then (Sum.inr y,PV.int v) else (Sum.inr y,.ptr c))::j0 (.inr x) (.int v) ((cC B).zip r):=rfl;rw[er,aid (λh=>e ∅)];show#[.ptr c::r',c2 rfl g1,c2 rfl g2,?_];show CB mu hi lo ((if y=x then (y,BV.n v) else (y,.l is))::setB B x (.n v)) _;rw[aid e];show#[c,r',rfl,h1,h2,h3,g3]
theorem CB.setL:∀{lo:Nat}{B:Bs}{ps:List PV},(B.map (·.1)).Nodup->look B x=!(.l is)->bQ ((cC B).zip ps) (.inr x)=!(.ptr c)->c<mu.length->CB mu hi lo B ps->CB (mu.set c (!(.lst (js.map .int)))) hi lo (setB B x (.l js)) ps
 |lo,[],ps=>λ_ hx _ _ h=>by cases hx
 |lo,(y,.n i)::B,ps=>λnd hx hc hl z7=>by
  let(r,e,h):=z7
  subst e;let(hy,nd'):=agT.mp nd;have e:¬ y=x:=λe=>by unfold look at hx;rw[aic e]at hx;cases hx
  unfold look at hx;rw[aid e]at hx;have hc:(if (Sum.inr y:Key)=.inr x then !(PV.int i) else bQ ((cC B).zip r) (.inr x))=!(.ptr c):=hc;rw[aid (λh=>e ∅)]at hc;show CB _ hi lo ((if y=x then (y,BV.l js) else (y,.n i))::setB B x (.l js)) _;rw[aid e];show#[r,rfl,CB.setL nd' hx hc hl h]
 |lo,(y,.l ks)::B,ps=>λnd hx hc hl z7=>by
  let(d,r,e,h1,h2,h3,h):=z7
  subst e;let(hy,nd'):=agT.mp nd;have hc:(if (Sum.inr y:Key)=.inr x then !(PV.ptr d) else bQ ((cC B).zip r) (.inr x))=!(.ptr c):=hc;show CB _ hi lo ((if y=x then (y,BV.l js) else (y,.l ks))::setB B x (.l js)) _;by_cases e:y=x
  . rw[aic (congrArg Sum.inr e)]at hc;cases hc;rw[aic e,Th (e▸hy)];show#[c,r,rfl,h1,h2,by rw[aeI hl],h.frame λf q1 q2=>?_];lia
  . unfold look at hx;rw[aid e]at hx;rw[aid (λh=>e ∅)]at hc;rw[aid e];let(c',e1,e2,_):=h.val.2 is hx;rw[hc]at e1;cases e1;show#[d,r,rfl,h1,h2,by rw[agc ()];show h3,CB.setL nd' hx hc hl h]
theorem X8{α β:Type}:∀l:List (α×β),(l.map (·.1)).zip (l.map (·.2))=l
 |[]=>rfl
 |x::l=>by rw[af8,af8,ahg,X8 l]
def lE{Y Y1 Y2:Ev}{mu:Mu}(h1:fo Y=!(o,Y1))(ho:o.pv=.ptr n)(hm:Y1.mu[n]?=!(!(.lst ws0)))(h2:fv Y1=!(y,Y2))(hy:y.pv=p)(hm2:Y2.mu[n]?=!(!(.lst ws)))(hz:ws.length<100000)(e:Y2.mu.set n (!(.lst (ws++[p])))=mu):fY fo fv Y=!(.nx #[Y2.vs,mu]):=by unfold fY;rw[h1,aaS,ho];dsimp only;rw[hm];dsimp only;rw[h2,aaS,hm2];dsimp only;rw[aic hz,hy,e]
def Ku{Y Y1:Ev}{mu:Mu}(h1:fo Y=!(o,Y1))(ho:o.pv=.ptr n)(hm:Y1.mu[n]?=!(!(.lst (ws++[p]))))(e:Y1.mu.set n (!(.lst ws))=mu):vY fo Y=!(.sh p,#[Y1.vs,mu]):=by unfold vY;rw[h1,aaS,ho];dsimp only;rw[hm];dsimp only;rw[aaU,aa9,agO,aby (),List.dropLast_concat,e];simp
def Kv(h:f Y=!(l,Y1))(hl:l.pv=.ptr n)(hm:Y1.mu[n]?=!(!(.lst ws))):bO f Y=!(.sh (.int (ws.length:Nat)),Y1):=by unfold bO;rw[h,aaS,hl];dsimp only;rw[hm]
def jN(h:f Y=!(.own p,Y1)):cg f Y=!(.sh (.ptr Y1.mu.length),#[Y1.vs,Y1.mu++[!p]]):=by unfold cg;rw[h];rfl
def Hu(h:PL.sealV i Y=!Y1)(h2:f Y1=R):sY i f Y=R:=by unfold sY;lia
def uH(h1:fv Y=!(y,Y1))(hy:y.pv=p)(h2:fo Y1=!(x,Y2))(hx:x.pv=.ptr n)(hm:Y2.mu[n]?=!(!(bW C l)))(hl:l.length<1000):iM C f fo fv Y=!(.nx #[Y2.vs,Y2.mu.set n (!(bW C (sW f p l)))]):=by unfold iM;rw[h1,aaS,h2,aaS,hx];dsimp only;rw[hm];unfold bW;dsimp only;rw[aic #[rfl,by rw[aaW];show hl],X8,hy]
def eV(h2:fo Y=!(x,Y1))(hx:x.pv=.ptr n)(hm:Y1.mu[n]?=!(!(bW C l)))(hp:uR l f=!p):cj C f fo Y=!(.sh p,Y1):=by unfold cj;rw[h2,aaS,hx];dsimp only;rw[hm];unfold bW;dsimp only;rw[aic rfl,X8,hp];rfl
def qm(h1:fo Y=!(x,Y1))(hx:x.pv=.ptr n)(hm:Y1.mu[n]?=!(!(bW C l)))(hc:(l.map (·.1)).contains m=false)(h2:a Y1=!(ls,Y2))(hps:ls.map Lc.pv=ps)(h3:g (.ptr n::ps) Y2.mu=!(r,mu2)):bJ C m g fo a Y=!(r,#[Y2.vs,mu2]):=by unfold bJ;rw[h1,aaS,hx];dsimp only;rw[hm];unfold bW;dsimp only;rw[aic #[rfl,hc],h2,aaS,hps,h3];rfl
def Ti(h:a Y=!(ls,Y1))(hps:ls.map Lc.pv=ps)(h2:g (.ptr Y1.mu.length::ps) (Y1.mu++[!(bW C [])])=!(.sh .non,mu2)):yp C g a Y=!(.sh (.ptr Y1.mu.length),#[Y1.vs,mu2]):=by unfold yp;rw[h,aaS,hps];rw[show g (.ptr Y1.mu.length::ps) (Y1.mu++[!(.obj C [] [])])=_ from h2];rfl
def acE{Y Y1 Y2:Ev}{mu:Mu}(h1:fo Y=!(o,Y1))(ho:o.pv=.ptr n)(hm:Y1.mu[n]?=!(!(.lst ws0)))(h2:fv Y1=!(y,Y2))(hy:y.pv=.lst ps)(hm2:Y2.mu[n]?=!(!(.lst ws)))(hz:ws.length+ps.length<=100000)(e:Y2.mu.set n (!(.lst (ws++ps)))=mu):NB fo fv Y=!(.nx #[Y2.vs,mu]):=by unfold NB;rw[h1,aaS];dsimp only;rw[ho];dsimp only;rw[hm];dsimp only;rw[h2,aaS,hy,hm2];dsimp only;rw[aic hz,e]
def aap(h:f Y=!(x,Y1))(hx:x.pv=.ptr n)(hm:Y1.mu[n]?=!(!(.dk ks ps))):Ea f Y=!(.own (.dk ks ps),Y1):=by unfold Ea;rw[h,aaS,hx];dsimp only;rw[hm]
def acF(h0:Y.vs[i]?=!(!(.own (.dk ks0 ps0))))(h:f Y=!(x,Y1))(hx:x.pv=.ptr n)(h1:Y1.vs[i]?=!(!(.own (.dk ks ps))))(hm:Y1.mu[n]?=!(!(.dk ls qs)))(hz:ks.length+ls.length<=100000):Fj i f Y=!(.nx (Y1.set i (!(.own (eO (kI (ls.zip qs) (ks.zip ps))))))):=by unfold Fj;rw[h0];dsimp only;rw[h,aaS,hx,h1];dsimp only;rw[hm];dsimp only;rw[aic hz]
def aeG(h1:fa Y=!(x,Y1))(h2:fb Y1=!(y,Y2))(hy:y.pv=.ptr n)(hk:uy x.pv=!k)(hm:Y2.mu[n]?=!(!(.dk ks ps))):DY fa fb Y=!(.sh (.bl (bQ (ks.zip ps) k).isSome),Y2):=by unfold DY;lia
def Tj{Y Y1 Y2 Y3:Ev}{mu:Mu}(h1:fv Y=!(x,Y1))(hx:x.pv=p)(h2:fo Y1=!(o,Y2))(ho:o.pv=.ptr n)(h3:fi Y2=!(y,Y3))(hy:uy y.pv=!k)(hm:Y3.mu[n]?=!(!(.dk ks ps)))(hz:ks.length<100000)(e:Y3.mu.set n (!(eO (fZ (ks.zip ps) k p)))=mu):Nz fo fi fv Y=!(.nx #[Y3.vs,mu]):=by unfold Nz;rw[h1,aaS];dsimp only;rw[h2,aaS];dsimp only;rw[h3,aaS,ho,hy];dsimp only;rw[hm];dsimp only;rw[aic hz,hx,e]
def QH(h1:fa Y=!(x,Y1))(hx:x.pv=.ptr n)(h2:fb Y1=!(y,Y2))(hk:uy y.pv=!k)(hm:Y2.mu[n]?=!(!(.dk ks ps)))(hp:bQ (ks.zip ps) k=!p):xj fa fb Y=!(.sh p,Y2):=by unfold xj;lia
def acG(h:f Y=!(x,Y1))(hx:x.pv=.ptr n)(hm:Y1.mu[n]?=!(!(.lst ws))):Jg f Y=!(not ws.isEmpty,Y1):=by unfold Jg;lia
def QJ(h:f Y=!(x,Y1))(hx:x.pv=.ptr n)(hm:Y1.mu[n]?=!(!p)):tu f Y=!(.sh p,#[Y1.vs,Y1.mu.set n none]):=by unfold tu;lia
structure Ix where
 r:Nat
 p:Nat
 b:Nat
 e:Nat
 o:Nat
 m:Nat
 d:Nat
noncomputable abbrev rF(I:Ix)(bu:Int)(wd:Str):FD:=[("plan",.ptr I.p),("boxes",.ptr I.b),("own",.ptr I.o),("budget",.int bu),("word",.str wd),("moments",.ptr I.m),("due",.ptr I.d)]
structure RS(mu:Mu)(I:Ix)(bu:Int)(wd:Str)(PO:PV)(B:Bs)(M D:List PV):Prop where
 l1:I.r<I.p
 l2:I.p<I.b
 l3:I.b<I.e
 l4:I.e<I.o
 l5:I.o<I.m
 l6:I.m<I.d
 hr:mu[I.r]?=!(!(bW "Running" (rF I bu wd)))
 hp:mu[I.p]?=!(!PO)
 hb:∃ps,mu[I.b]?=!(!(.dk (cC B) ps))/\CB mu I.b (I.p+1) B ps
 he:mu[I.e]?=!(!(.dk [] []))
 ho:mu[I.o]?=!(!(.lst [.ptr I.e]))
 hm:mu[I.m]?=!(!(.lst M))
 hd:mu[I.d]?=!(!(.lst D))
def fU{α:Type}{l:List α}{a:α}(h:l[n]?=!a):n<l.length:=(adP.mp h).1
section
variable {mu mu':Mu}{I:Ix}{bu:Int}{wd:Str}{PO:PV}{B:Bs}{M M' D D':List PV}
def RS.setD(S:RS mu I bu wd PO B M D):RS (mu.set I.d (!(.lst D'))) I bu wd PO B M D':=by let(l1,l2,l3,l4,l5,l6,hr,hp,(ps,hb,hc),he,ho,hm,hd):=S;have f:∀c,c≠I.d->(mu.set I.d (!(.lst D')))[c]?=mu[c]?:=λc h=>agc ();show#[l1,l2,l3,l4,l5,l6,by rw[f _ ()];show hr,by rw[f _ ()];show hp,#[ps,by rw[f _ ()];show hb,hc.frame λc _ q=>f c ()],by rw[f _ ()];show he,by rw[f _ ()];show ho,by rw[f _ ()];show hm,aeI (fU hd)]
def RS.keep(S:RS mu I bu wd PO B M D)(f:∀c,c<=I.d->mu'[c]?=mu[c]?):RS mu' I bu wd PO B M D:=by let(l1,l2,l3,l4,l5,l6,hr,hp,(ps,hb,hc),he,ho,hm,hd):=S;show#[l1,l2,l3,l4,l5,l6,by rw[f _ ()];show hr,by rw[f _ ()];show hp,#[ps,by rw[f _ ()];show hb,hc.frame λc _ q=>f c ()],by rw[f _ ()];show he,by rw[f _ ()];show ho,by rw[f _ ()];show hm,by rw[f _ ()];show hd]
def mU(h:c<mu.length):(mu++[x])[c]?=mu[c]?:=agm h
def RS.push(S:RS mu I bu wd PO B M D):RS (mu++[x]) I bu wd PO B M D:=S.keep λc h=>mU (ahO h (fU S.hd))
def RS.num(S:RS mu I bu wd PO B M D)(nd:(B.map (·.1)).Nodup)(hx:jW B x):∃ks ps,mu[I.b]?=!(!(.dk ks ps))/\ks.length=B.length/\RS (mu.set I.b (!(eO (fZ (ks.zip ps) (.inr x) (.int v))))) I bu wd PO (setB B x (.n v)) M D:=by
 let(l1,l2,l3,l4,l5,l6,hr,hp,(ps,hb,hc),he,ho,hm,hd):=S;let(i,hx):=hx;have hv:=hc.val.1 i hx;let(ps',g1,g2,g3):=hc.setN nd (λis q=>by rw[hx]at q;cases q);have ep:eO (fZ ((cC B).zip ps) (.inr x) (.int v))=.dk (cC (setB B x (.n v))) ps':=by unfold fZ;rw[hv];unfold eO;rw[g1,g2,Jv]
 show#[cC B,ps,hb,aaW ..,?_];rw[ep];have f:∀c,c≠I.b->(mu.set I.b (!(.dk (cC (setB B x (.n v))) ps')))[c]?=mu[c]?:=λc h=>agc ();show#[l1,l2,l3,l4,l5,l6,by rw[f _ ()];show hr,by rw[f _ ()];show hp,#[ps',aeI (fU hb),g3.frame λc _ q=>f c ()],by rw[f _ ()];show he,by rw[f _ ()];show ho,by rw[f _ ()];show hm,by rw[f _ ()];show hd]
def RS.lst(S:RS mu I bu wd PO B M D)(nd:(B.map (·.1)).Nodup)(hx:look B x=!(.l is)):∃ks ps c,mu[I.b]?=!(!(.dk ks ps))/\bQ (ks.zip ps) (.inr x)=!(.ptr c)/\I.p<c/\c<I.b/\mu[c]?=!(!(.lst (is.map .int)))/\∀js:List Int,RS (mu.set c (!(.lst (js.map .int)))) I bu wd PO (setB B x (.l js)) M D:=by let(l1,l2,l3,l4,l5,l6,hr,hp,(ps,hb,hc),he,ho,hm,hd):=S;let(c,g1,g2,g3,g4):=hc.val.2 is hx;show#[cC B,ps,c,hb,g1,(),g3,g4,λjs=>?_];have f:∀d,d≠c->(mu.set c (!(.lst (js.map .int))))[d]?=mu[d]?:=λd h=>agc ();show#[l1,l2,l3,l4,l5,l6,by rw[f _ ()];show hr,by rw[f _ ()];show hp,#[ps,by rw[f _ (),Jv];show hb,hc.setL nd hx g1 (fU g4)],by rw[f _ ()];show he,by rw[f _ ()];show ho,by rw[f _ ()];show hm,by rw[f _ ()];show hd]
end
mutual
def Jw:PV->Nat
 |.tup ps=>El ps+1
 |_=>1
def El:List PV->Nat
 |[]=>0
 |p::ps=>max (Jw p) (El ps)
end
def fl(p:PV):Prop:=di p=true/\Jw p<=20
def Tn(ps:List PV):Prop:=jn ps=true/\El ps<=20
def kO(h:fl p)(t:Tn ps):Tn (p::ps):=by
 let(h1,h2):=h;let(t1,t2):=t;show#[?_,?_]
 . show (di p&&jn ps)=true;lia
 . show max (Jw p) (El ps)<=20;lia
def Ao:Tn []:=#[rfl,agY _]
def Aq:fl (.str x):=#[rfl,by show 1<=20;decide]
abbrev zI(x:Int):Option Lc:=!(.sh (.int x))
abbrev zT(x:Str):Option Lc:=!(.sh (.str x))
abbrev zL(x:List PV):Option Lc:=!(.sh (.lst x))
abbrev zO(x:List PV):Option Lc:=!(.own (.lst x))
noncomputable abbrev zS(x:PV):Option Lc:=!(.sh x)
mutual
inductive Row where
 |leaf (w:Str) (ps:List PV)
 |call (b:PV) (n:Str) (as:List PV)
 |wh (e:PV) (b:Rows)
 |iff (e:PV) (b c:Rows)
inductive Rows where
 |nil
 |cons (r:Row) (rs:Rows)
end
mutual
def Row.pv:Row->PV
 |.leaf w ps=>.tup (.str w::ps)
 |.call b n as=>.tup [.str "call",b,.str n,.lst as]
 |.wh e b=>.tup [.str "while",e,.lst b.pvs]
 |.iff e b c=>.tup [.str "if",e,.lst b.pvs,.lst c.pvs]
def Rows.pvs:Rows->List PV
 |.nil=>[]
 |.cons r rs=>r.pv::rs.pvs
end
mutual
def Row.dep:Row->Nat
 |.leaf _ _=>1
 |.call _ _ _=>1
 |.wh _ b=>b.dep+1
 |.iff _ b c=>max b.dep c.dep+1
def Rows.dep:Rows->Nat
 |.nil=>1
 |.cons r rs=>max (r.dep+1) rs.dep
end
theorem Rows.dep_pos:∀b:Rows,1<=b.dep
 |.nil=>aa0 _
 |.cons r rs=>agf (Rows.dep_pos rs) (Nat.le_max_right _ _)
def Plain(w:Str):Prop:=(w== "if")=false/\(w== "while")=false/\(w== "call")=false
mutual
def Row.ok:Row->Prop
 |.leaf w ps=>Plain w/\Tn ps
 |.call b n as=>fl b/\n.length<=1000/\Tn as/\as.length<=50
 |.wh e b=>fl e/\b.ok
 |.iff e b c=>fl e/\b.ok/\c.ok
def Rows.ok:Rows->Prop
 |.nil=>True
 |.cons r rs=>r.ok/\rs.ok
end
mutual
def Row.cnt:Row->Nat
 |.leaf _ _=>1
 |.call _ _ _=>1
 |.wh _ b=>b.cnt+1
 |.iff _ b c=>b.cnt+c.cnt+1
def Rows.cnt:Rows->Nat
 |.nil=>0
 |.cons r rs=>r.cnt+rs.cnt
end
def Row.cnt_pos:∀r:Row,1<=r.cnt:=λr=>by cases r<;>simp[Row.cnt]
def kY(h:f Y=!(.sh (.str a),Y1)):tT (aq eqP f (akh b)) aQ Y=!(a==b,Y1):=Ff (dq h rfl rfl) rfl
def wg(h:c Y=!(b,Y1))(hb:b=false):aG (bY c f cu) g Y=g Y1:=by subst hb;show Fe (yY h rfl)
def Em(h:c Y=!(b,Y1))(hb:b=true)(h2:f Y1=!(.rt r Y2)):aG (bY c f cu) g Y=!(.rt r Y2):=by subst hb;show gj (yT h h2)
def at0{t:List PV}:gA (p::t) 0=!p:=by let(x,h,h2):=Hb (l:=p::t) (i:=0) () ∅;lia
abbrev E1(p:PV)(mu:Mu):Ev:=#[[zS p],mu]
def w0:aM (aa 0) (akg 0) (E1 (.tup (.str w::ps)) mu)=!(.sh (.str w),E1 (.tup (.str w::ps)) mu):=
 oK rfl rfl rfl rfl (λn h=>by cases h) (by show (gA (PV.str w::ps) 0).map _=_;rw[at0];rfl)
def nG(h1:b x Y=!Y1)(h2:te Y1=!(l,Y2))(hz:acc.length<100000)(h3:iJ b dw te xs Y2 (acc++[l.pv])=R):iJ b dw te (x::xs) Y acc=R:=by show (b x Y).bind _=R;rw[h1,aaS];show (te Y1).bind _=R;rw[h2,aaS,aic hz];show h3
abbrev cpE(n:Nat):EF:=aH (nA n) (aj (aa 0) ao)
def QK{rs:Rows}(h:iJ (aF 0) dw (cpE n) rs.pvs #[[none],mu] []=!([]++rs.pvs,mu)):gU (n+1) [.lst rs.pvs] mu=!(.own (.lst rs.pvs),mu):=
 bh (bZ (iU (sV rfl rfl) h))
mutual
theorem Mm:∀(r:Row)(f:Nat)(mu:Mu),r.ok->r.dep<=f->r.cnt<=1000->nA f [r.pv] mu=!(.sh r.pv,mu)
 |.leaf w ps=>λf mu ok hd hc=>by obtain⟨m,rfl⟩:∃m,f=m+1:=#[f-1,by simp only[Row.dep]at hd;lia];let((h1,h2,h3),_):=ok;show bh (Y:=#[[none],mu]) ?_;show(wg (kY w0) h1).trans ((wg (kY w0) h2).trans ((wg (kY w0) h3).trans rfl))
 |.call b n as=>λf mu ok hd hc=>by obtain⟨m,rfl⟩:∃m,f=m+1:=#[f-1,by simp only[Row.dep]at hd;lia];show bh (Y:=E1 (Row.call b n as).pv mu) ?_;show(wg () ()).trans ((wg () ()).trans (Em () () (bZ (fQ (ls:=[.sh (.str "call"),.sh b,.sh (.str n),.own (.lst as)]) ?_ rfl rfl))));show aC rfl (aC rfl (aC rfl (aC (vD (aC rfl rfl) rfl rfl) rfl)))
 |.wh e b=>λf mu ok hd hc=>by
  simp only[Row.dep]at hd;simp only[Row.cnt]at hc;obtain⟨m,rfl⟩:∃m,f=m+1:=#[f-1,()];have hb:=Rows.dep_pos b;obtain⟨m,rfl⟩:∃k,m=k+1:=#[m-1,()];have ih:=QK (yH b m mu none [] ok.2 () ∅);let P:=(Row.wh e b).pv;have s1:aH (gU (m+1)) vid (E1 P mu)=!(.own (.lst b.pvs),E1 P mu):=
   aY rfl rfl rfl rfl ih
  show bh (Y:=E1 P mu) ?_;show(wg () ()).trans (Em () () (bZ (fQ (aC rfl (aC rfl (aC s1 rfl))) rfl rfl)))
 |.iff e b c=>λf mu ok hd hc=>by
  simp only[Row.dep]at hd;simp only[Row.cnt]at hc;obtain⟨m,rfl⟩:∃m,f=m+1:=#[f-1,()];have hb:=Rows.dep_pos b;obtain⟨m,rfl⟩:∃k,m=k+1:=#[m-1,()];have ih:=QK (yH b m mu none [] ok.2.1 () ∅);have ih2:=QK (yH c m mu none [] ok.2.2 () ∅);let P:=(Row.iff e b c).pv;have s1:aH (gU (m+1)) vid (E1 P mu)=!(.own (.lst b.pvs),E1 P mu):=
   aY rfl rfl rfl rfl ih
  have s2:aH (gU (m+1)) vic (E1 P mu)=!(.own (.lst c.pvs),E1 P mu):=
   aY rfl rfl rfl rfl ih2
  show bh (Y:=E1 P mu) ?_;show Em () () (bZ (fQ (aC rfl (aC rfl (aC s1 (aC s2 rfl)))) rfl rfl))
theorem yH:∀(rs:Rows)(n:Nat)(mu:Mu)(o:Option Lc)(acc:List PV),rs.ok->rs.dep<=n+1->acc.length+rs.cnt<=1000->iJ (aF 0) dw (cpE n) rs.pvs #[[o],mu] acc=!(acc++rs.pvs,mu)
 |.nil=>λn mu o acc _ _ _=>by simp[Rows.pvs,iJ]
 |.cons r rs=>λn mu o acc ok hd hc=>by simp only[Rows.dep]at hd;simp only[Rows.cnt]at hc;have h1:=r.cnt_pos;have e1:=Mm r n mu ok.1 () ();have e2:=yH rs n mu (zS r.pv) (acc++[r.pv]) ok.2 () ∅;show nG rfl (aY rfl rfl rfl rfl e1) () (e2.trans ?_);simp only[aba];rfl
end
structure Ent where
 w:Str
 ab:PV
 bl:Int
 r:Row
def Ent.pv(e:Ent):PV:=.tup [.str e.w,e.ab,.int e.bl,e.r.pv]
mutual
def Row.es:Row->Str->PV->Int->Nat->List Ent
 |.leaf x ps,w,ab,bl,_=>[#[w,ab,bl,.leaf x ps]]
 |.call b n as,w,ab,bl,_=>[#[w,ab,bl,.call b n as]]
 |.wh e b,w,ab,bl,k=>#[w,ab,bl,.wh e b]::b.es w (.int k) 0 (k+1)
 |.iff e b c,w,ab,bl,k=>#[w,ab,bl,.iff e b c]::(b.es w (.int k) 0 (k+1)++c.es w (.int k) 1 (k+1+b.cnt))
def Rows.es:Rows->Str->PV->Int->Nat->List Ent
 |.nil,_,_,_,_=>[]
 |.cons r rs,w,ab,bl,k=>r.es w ab bl k++rs.es w ab bl (k+r.cnt)
end
mutual
theorem Row.es_len:∀(r:Row)(w:Str)(ab:PV)(bl:Int)(k:Nat),(r.es w ab bl k).length=r.cnt
 |.leaf _ _=>λw ab bl k=>rfl
 |.call _ _ _=>λw ab bl k=>rfl
 |.wh e b=>λw ab bl k=>by simp[Row.es,Row.cnt,Rows.es_len b]
 |.iff e b c=>λw ab bl k=>by simp[Row.es,Row.cnt,Rows.es_len b,Rows.es_len c]
theorem Rows.es_len:∀(rs:Rows)(w:Str)(ab:PV)(bl:Int)(k:Nat),(rs.es w ab bl k).length=rs.cnt
 |.nil=>λw ab bl k=>rfl
 |.cons r rs=>λw ab bl k=>by simp[Rows.es,Rows.cnt,Row.es_len r,Rows.es_len rs]
end
abbrev ens(l:List Ent):List PV:=l.map Ent.pv
def Kw(a b:List Ent):ens (a++b)=ens a++ens b:=ady
def sr(a:List Ent):(ens a).length=a.length:=aaW _
def aeH(h1:b x Y=!Y1)(h2:body Y1=!(.nx Y2)):iw b body [x] Y=!(.nx Y2):=d9 h1 h2 rfl
def agK(h1:b x Y=!Y1)(h2:body Y1=!(.nx Y2))(h3:b y Y2=!Y3)(h4:body Y3=!(.nx Y4)):iw b body [x,y] Y=!(.nx Y4):=d9 h1 h2 (aeH h3 h4)
def Gs{w:Str}(h1:(w== "if")=false)(h2:(w== "while")=false):lW [.tup (.str w::ps)] mu=!(.own (.lst []),mu):=
 bh (Y:=E1 (.tup (.str w::ps)) mu) ((wg (kY w0) h1).trans ((wg (kY w0) h2).trans rfl))
def Yb:lW [.tup [.str "while",e,p]] mu=!(.own (.lst [p]),mu):=
 bh (Y:=E1 (.tup [.str "while",e,p]) mu) ((wg () ()).trans ())
def Yc:lW [.tup [.str "if",e,p,q]] mu=!(.own (.lst [p,q]),mu):=
 bh (Y:=E1 (.tup [.str "if",e,p,q]) mu) ()
abbrev LE(w:Str)(ab:PV)(bl:Int)(X:PV)(st:Nat)(acc:List PV)(o6 o7 o8 o9:Option Lc)(mu:Mu):Ev:=#[[zT w,zS ab,zI bl,zS X,zI st,zO acc,o6,o7,o8,o9],mu]
abbrev loX(n:Nat):SF:=sO 5 (aH (iQ n) vbo)
abbrev loB(n:Nat):SF:=aG vey
 (aG vcg
 (jP (DW (aH lW (aj (aa 6) ao))) vhq (loX n)))
def QL{st k:Nat}(h:iQ n [.str w,.int k,.int pl,p,.int ((st+acc.length:Nat):Int)] mu=!(.own (.lst qs),mu))(hz:acc.length+qs.length<=100000):
 loX n (LE w ab bl X st acc o6 (zI k) (zI pl) (zS p) mu)=!(.nx (LE w ab bl X st (acc++qs) o6 (zI k) (zI pl) (zS p) mu)):=
 DR rfl
  (aY rfl () rfl rfl h) rfl rfl hz rfl
abbrev en(w:Str)(ab:PV)(bl:Int)(r:Row):PV:=.tup [.str w,ab,.int bl,r.pv]
def Jx{st:Nat}(ok:r.ok)(hd:r.dep<=40)(hc:r.cnt<=1000)(hz:acc.length<1000)(hb:∀mu,lW [r.pv] mu=!(.own (.lst bs),mu))
 (h:iw vhq (loX n) (vX bs) (LE w ab bl X st (acc++[en w ab bl r]) (zS r.pv) (zI ((st+acc.length:Nat):Int)) o8 o9 mu)=R):
 loB n (LE w ab bl X st acc (zS r.pv) o7 o8 o9 mu)=R:=by
 have e1:=Mm r 40 mu ok hd hc;show aB (bL rfl rfl ()) ?_;show aB (Y':=LE w ab bl X st (acc++[en w ab bl r]) (zS r.pv) (zI ((st+acc.length:Nat):Int)) o8 o9 mu) ?_ ?_
 . show nR rfl
    (fQ (aC rfl (aC rfl (aC rfl (aC (aY rfl rfl rfl rfl e1) rfl)))) rfl rfl) rfl rfl () rfl
 . show jo ?_ h;unfold DW;rw[aY rfl rfl rfl rfl (hb _),aaS];rfl
def NT{rs:Rows}{st:Nat}
 (h:∃o6 o7 o8 o9,iw (aF 6) (loB n) rs.pvs (LE w ab bl (.lst rs.pvs) st [] none none none none mu)=!(.nx (LE w ab bl (.lst rs.pvs) st ([]++ens (rs.es w ab bl (st+0))) o6 o7 o8 o9 mu))):
 iQ (n+1) [.str w,ab,.int bl,.lst rs.pvs,.int st] mu=!(.own (.lst (ens (rs.es w ab bl st))),mu):=by
 let(o6,o7,o8,o9,h):=h;show bh (Y:=#[[zT w,zS ab,zI bl,zL rs.pvs,zI st,none,o6,o7,o8,o9],mu]) ?_;show aB rfl (aB (jo (sV rfl rfl) h) rfl)
mutual
theorem aeJ:∀(r:Row)(n:Nat)(w:Str)(ab:PV)(bl:Int)(X:PV)(st:Nat)(acc:List PV)(o7 o8 o9:Option Lc)(mu:Mu),r.ok->r.dep<=n->r.dep<=40->acc.length+r.cnt<=1000->
 ∃p7 p8 p9,loB n (LE w ab bl X st acc (zS r.pv) o7 o8 o9 mu)=!(.nx (LE w ab bl X st (acc++ens (r.es w ab bl (st+acc.length))) (zS r.pv) p7 p8 p9 mu))
 |.leaf x ps=>λn w ab bl X st acc o7 o8 o9 mu ok hd h40 hc=>by show#[zI ((st+acc.length:Nat):Int),o8,o9,Jx ok h40 (by simp only[Row.cnt];lia) () (λmu=>Gs ok.1.1 ok.1.2.1) rfl]
 |.call b m as=>λn w ab bl X st acc o7 o8 o9 mu ok hd h40 hc=>by show#[zI ((st+acc.length:Nat):Int),o8,o9,Jx ok h40 (by simp only[Row.cnt];lia) () (λmu=>Gs () ()) rfl]
 |.wh e b=>λn w ab bl X st acc o7 o8 o9 mu ok hd h40 hc=>by
  simp only[Row.cnt]at hc;simp only[Row.dep]at hd h40;obtain⟨m,rfl⟩:∃m,n=m+1:=#[n-1,()];let r:Row:=.wh e b;let k:=st+acc.length;let acc1:=acc++[en w ab bl r];have hl1:acc1.length=acc.length+1:=by simp[acc1]
  have ih:=NT (Ar b m w (.int (k:Nat)) 0 (.lst b.pvs) (st+acc1.length) [] none none none none mu ok.2 () () (by simp only[agO];lia));have he:(ens (b.es w (.int (k:Nat)) 0 (st+acc1.length))).length=b.cnt:=by rw[sr,Rows.es_len]
  have st1:=QL (ab:=ab) (X:=X) (bl:=bl) (o6:=zS r.pv) ih ();show#[zI (k:Nat),zI 0,zL b.pvs,Jx ok (by simp only[Row.dep];lia) (by simp only[Row.cnt];lia) () (λmu=>Yb) ((aeH rfl st1).trans ?_)];have ek:st+acc1.length=k+1:=by rw[hl1];lia
  rw[ek];simp only[acc1,aba];rfl
 |.iff e b c=>λn w ab bl X st acc o7 o8 o9 mu ok hd h40 hc=>by
  simp only[Row.cnt]at hc;simp only[Row.dep]at hd h40;obtain⟨m,rfl⟩:∃m,n=m+1:=#[n-1,()];let r:Row:=.iff e b c;let k:=st+acc.length;let acc1:=acc++[en w ab bl r];have hl1:acc1.length=acc.length+1:=by simp[acc1]
  have ih:=NT (Ar b m w (.int (k:Nat)) 0 (.lst b.pvs) (st+acc1.length) [] none none none none mu ok.2.1 () () (by simp only[agO];lia));have he:(ens (b.es w (.int (k:Nat)) 0 (st+acc1.length))).length=b.cnt:=by rw[sr,Rows.es_len]
  have st1:=QL (ab:=ab) (X:=X) (bl:=bl) (o6:=zS r.pv) ih (by rw[he,hl1];lia);let acc2:=acc1++ens (b.es w (.int (k:Nat)) 0 (st+acc1.length));have hl2:acc2.length=acc.length+1+b.cnt:=by show (acc1++_).length=_;rw[aaU,he,hl1]
  have ih2:=NT (Ar c m w (.int (k:Nat)) 1 (.lst c.pvs) (st+acc2.length) [] none none none none mu ok.2.2 () () (by simp only[agO];lia));have he2:(ens (c.es w (.int (k:Nat)) 1 (st+acc2.length))).length=c.cnt:=by rw[sr,Rows.es_len]
  have st2:=QL (ab:=ab) (X:=X) (bl:=bl) (o6:=zS r.pv) ih2 (by rw[he2,hl2];lia);show#[zI (k:Nat),zI 1,zL c.pvs,Jx ok (by simp only[Row.dep];lia) (by simp only[Row.cnt];lia) () (λmu=>Yc) ((agK rfl st1 rfl st2).trans ?_)];have ek:st+acc1.length=k+1:=by rw[hl1];lia
  have ek2:st+acc2.length=k+1+b.cnt:=by rw[hl2];lia
  rw[ek2];simp only[acc2,ek];simp only[Row.es,af8,ady,acc1,aba];rfl
theorem Ar:∀(rs:Rows)(n:Nat)(w:Str)(ab:PV)(bl:Int)(X:PV)(st:Nat)(acc:List PV)(o6 o7 o8 o9:Option Lc)(mu:Mu),rs.ok->rs.dep<=n+1->rs.dep<=41->acc.length+rs.cnt<=1000->
 ∃p6 p7 p8 p9,iw (aF 6) (loB n) rs.pvs (LE w ab bl X st acc o6 o7 o8 o9 mu)=!(.nx (LE w ab bl X st (acc++ens (rs.es w ab bl (st+acc.length))) p6 p7 p8 p9 mu))
 |.nil=>λn w ab bl X st acc o6 o7 o8 o9 mu ok hd h41 hc=>#[o6,o7,o8,o9,by simp[Rows.pvs,iw,Rows.es]]
 |.cons r rs=>λn w ab bl X st acc o6 o7 o8 o9 mu ok hd h41 hc=>by
  simp only[Rows.dep]at hd h41;simp only[Rows.cnt]at hc;let(q7,q8,q9,e1):=aeJ r n w ab bl X st acc o7 o8 o9 mu ok.1 () () ();have hl:(acc++ens (r.es w ab bl (st+acc.length))).length=acc.length+r.cnt:=by rw[aaU,sr,Row.es_len]
  let(p6,p7,p8,p9,e2):=Ar rs n w ab bl X st (acc++ens (r.es w ab bl (st+acc.length))) (zS r.pv) q7 q8 q9 mu ok.2 () () (by rw[hl];lia);show#[p6,p7,p8,p9,d9 rfl e1 (e2.trans ?_)];rw[hl,<-ah3];simp only[Rows.es,Kw,aba]
end
def Gu{rs:Rows}{st:Nat}(ok:rs.ok)(hd:rs.dep<=40)(hc:rs.cnt<=1000):
 iQ 40 [.str w,ab,.int bl,.lst rs.pvs,.int st] mu=!(.own (.lst (ens (rs.es w ab bl st))),mu):=
 NT (Ar rs 39 w ab bl _ st [] none none none none mu ok () () ∅)
structure Fn where
 name:Str
 rank:PV
 params:List PV
 rows:Rows
def Fn.pv(f:Fn):PV:=.tup [.str f.name,f.rank,.lst f.params,.lst f.rows.pvs]
structure Pg where
 boxes:List PV
 grants:List PV
 fns:List Fn
 rows:Rows
def Pg.pv(P:Pg):PV:=.tup [.lst P.boxes,.lst P.grants,.lst (P.fns.map Fn.pv),.lst P.rows.pvs]
def tQ:List Fn->Nat
 |[]=>0
 |f::fs=>f.rows.cnt+tQ fs
def Dj:List Fn->Nat->List Ent
 |[],_=>[]
 |f::fs,k=>f.rows.es f.name .non 0 k++Dj fs (k+f.rows.cnt)
theorem Ky:∀(fs:List Fn)(k:Nat),(Dj fs k).length=tQ fs
 |[]=>λk=>rfl
 |f::fs=>λk=>by simp[Dj,tQ,Rows.es_len,Ky fs]
def Pg.es(P:Pg):List Ent:=Dj P.fns 0++P.rows.es "main" .non 0 (tQ P.fns)
structure Pg.ok(P:Pg):Prop where
 fn:∀f∈P.fns,f.rows.ok/\f.rows.dep<=30
 rw:P.rows.ok
 dp:P.rows.dep<=30
 ct:tQ P.fns+P.rows.cnt<=250
 pm:∀f∈P.fns,∃xs:List Str,f.params=xs.map (λx=>.tup [.str x,.non])/\xs.length<=100
 fl:P.fns.length<=100
abbrev NE(p:PV)(acc:List PV)(o2 o3 o4 o5:Option Lc)(mu:Mu):Ev:=#[[zS p,zO acc,o2,o3,o4,o5],mu]
abbrev nuB:SF:=sO 1 vbm
theorem Tp:∀(fs:List Fn)(acc:List PV)(o2 o3 o4 o5:Option Lc)(mu:Mu),(∀f∈fs,f.rows.ok/\f.rows.dep<=30)->acc.length+tQ fs<=1000->
 ∃p2 p3 p4 p5,iw vea nuB (fs.map Fn.pv) (NE p acc o2 o3 o4 o5 mu)=!(.nx (NE p (acc++ens (Dj fs acc.length)) p2 p3 p4 p5 mu))
 |[]=>λacc o2 o3 o4 o5 mu _ _=>#[o2,o3,o4,o5,by simp[iw,Dj]]
 |f::fs=>λacc o2 o3 o4 o5 mu h hl=>by
  simp only[tQ]at hl;let(ok,hd):=h f aaV;have e:=Gu (w:=f.name) (ab:=.non) (bl:=0) (st:=acc.length) (mu:=mu) ok () ();have hl1:(acc++ens (f.rows.es f.name .non 0 acc.length)).length=acc.length+f.rows.cnt:=by rw[aaU,sr,Rows.es_len]
  let E:=NE p acc (zT f.name) (zS f.rank) (zL f.params) (zL f.rows.pvs) mu;let(p2,p3,p4,p5,ih):=Tp fs (acc++ens (f.rows.es f.name .non 0 acc.length)) (zT f.name) (zS f.rank) (zL f.params) (zL f.rows.pvs) mu (λx hx=>h x (abl _ hx)) ();have st:nuB E=!(.nx (NE p (acc++ens (f.rows.es f.name .non 0 acc.length)) (zT f.name) (zS f.rank) (zL f.params) (zL f.rows.pvs) mu)):=
   DR rfl
    (aY rfl rfl rfl rfl e) rfl rfl ∅ rfl
  show#[p2,p3,p4,p5,(d9 rfl st (ih.trans ?_))];rw[hl1];simp only[Dj,Kw,aba]
def R6{P:Pg}(ok:P.ok):Cj [P.pv] mu=!(.own (.lst (ens P.es)),mu):=by
 have hc:=ok.ct;let(p2,p3,p4,p5,e1):=Tp P.fns [] none none none none mu ok.fn ∅;simp only[ahe,agO]at e1;let a1:=ens (Dj P.fns 0);have ha:a1.length=tQ P.fns:=by simp only[a1,sr,Ky]
 have e2:=Gu (w:="main") (ab:=.non) (bl:=0) (st:=a1.length) (mu:=mu) ok.rw (by have:=ok.dp;lia) ();rw[ha]at e2;let b:=ens (P.rows.es "main" .non 0 (tQ P.fns));show(bh (Y:=#[[zS P.pv,none,p2,p3,p4,p5],mu]) (r:=.own (.lst (a1++b))) ?_).trans ?_
 . show aB rfl (aB (jo (sV rfl rfl) e1) (aB (Y':=NE P.pv (a1++b) p2 p3 p4 p5 mu) ?_ rfl));show DR rfl
    (aY rfl rfl rfl rfl (by rw[ha];show e2)) rfl rfl (by simp only[b];rw[ha,sr,Rows.es_len];lia) rfl
 . simp only[a1,b,Pg.es,Kw]
def Ent.key(e:Ent):List dG:=[!(.inr e.w),(okP e.ab).getD none,!(.inl e.bl)]
noncomputable def pos(K:List dG):Nat->List Ent->List Nat
 |_,[]=>[]
 |i,e::es=>if e.key=K then i::pos K (i+1) es else pos K (i+1) es
theorem lF(K:List dG):∀(i:Nat)(a b:List Ent),pos K i (a++b)=pos K i a++pos K (i+a.length) b
 |i,[]=>λb=>rfl
 |i,e::a=>λb=>by show (if e.key=K then i::pos K (i+1) (a++b) else pos K (i+1) (a++b))=(if e.key=K then i::pos K (i+1) a else pos K (i+1) a)++_;rw[lF K (i+1) a b,show i+(e::a).length=i+1+a.length by simp only[aa9];omega];split<;>rfl
theorem wF{K:List dG}:∀{i:Nat}{a:List Ent},(∀e∈a,e.key≠K)->pos K i a=[]
 |i,[]=>λ_=>rfl
 |i,e::a=>λh=>by show (if e.key=K then i::pos K (i+1) a else pos K (i+1) a)=[];rw[aid (h e aaV)];show wF λx hx=>h x (abl _ hx)
def Rows.nums:Rows->Nat->List Nat
 |.nil,_=>[]
 |.cons r rs,k=>k::rs.nums (k+r.cnt)
abbrev KEY(w:Str)(m:Nat)(b:Int):List dG:=[!(.inr w),!(.inl (m:Int)),!(.inl b)]
def key_ne{e:Ent}{m:Nat}(h:e.ab≠.int m)(ha:e.ab=.non\/∃j:Nat,e.ab=.int j):e.key≠KEY w m b:=by
 intro q;injection q with _ q;injection q with q _;obtain e1|⟨j,e1⟩:=ha
 . rw[e1]at q;cases q
 . rw[e1]at q h;injection q with q;lia
def Cu{e:Ent}(h:e.bl≠b):e.key≠KEY w m b:=by intro q;injection q with _ q;lia
def tR(ab:PV)(s t:Nat)(e:Ent):Prop:=e.ab=ab\/∃m:Nat,e.ab=.int m/\s<=m/\m<t
def tR.mono(h:tR ab s t e)(h1:s'<=s)(h2:t<=t'):tR ab s' t' e:=by
 obtain h|⟨m,h,g1,g2⟩:=h
 . show .inl h
 . show .inr #[m,h,(),()]
def tR.up(h:tR (.int (k:Nat)) s t e)(h1:k<s)(h2:k<t):tR ab k t e:=by
 obtain h|⟨m,h,g1,g2⟩:=h
 . show .inr #[k,h,aa0 _,h2]
 . show .inr #[m,h,(),g2]
mutual
theorem Row.abs:∀(r:Row)(w:Str)(ab:PV)(bl:Int)(k:Nat),∀e∈r.es w ab bl k,tR ab k (k+r.cnt) e
 |.leaf _ _=>λw ab bl k e he=>by rw[agk.mp he];show .inl rfl
 |.call _ _ _=>λw ab bl k e he=>by rw[agk.mp he];show .inl rfl
 |.wh x b=>λw ab bl k e he=>by
  obtain rfl|he:=abw.mp he
  . show .inl rfl
  . have h:=Rows.abs b w (.int (k:Nat)) 0 (k+1) e he;simp only[Row.cnt];show(h.up () ()).mono () ()
 |.iff x b c=>λw ab bl k e he=>by
  simp only[Row.cnt];obtain rfl|he:=abw.mp he
  . show .inl rfl
  . obtain he|he:=adY.mp he
    . have h:=Rows.abs b w (.int (k:Nat)) 0 (k+1) e he;show(h.up () ()).mono () ()
    . have h:=Rows.abs c w (.int (k:Nat)) 1 (k+1+b.cnt) e he;show(h.up () ()).mono () ()
theorem Rows.abs:∀(rs:Rows)(w:Str)(ab:PV)(bl:Int)(k:Nat),∀e∈rs.es w ab bl k,tR ab k (k+rs.cnt) e
 |.nil=>λw ab bl k e he=>by cases he
 |.cons r rs=>λw ab bl k e he=>by
  simp only[Rows.cnt];obtain he|he:=adY.mp he
  . show(Row.abs r w ab bl k e he).mono () ()
  . show(Rows.abs rs w ab bl (k+r.cnt) e he).mono () ()
end
def zm(ab:PV)(k:Nat):Prop:=ab=.non\/∃j:Nat,ab=.int j/\j<k
def tR.num(h:tR ab s t e)(a:zm ab k):e.ab=.non\/∃j:Nat,e.ab=.int j:=by
 obtain h|⟨m,h,_⟩:=h
 . obtain a|⟨j,a,_⟩:=a
   . lia
   . lia
 . lia
def Av(h:a≠b):(PV.int (a:Nat))≠.int (b:Nat):=λq=>by injection q with q;show h ()
def tR.ne{s t m:Nat}(h:tR ab s t e)(h1:ab≠.int m)(h2:m<s\/t<=m):e.ab≠.int m:=by
 obtain h|⟨j,h,g1,g2⟩:=h
 . lia
 . lia
def zm.ne(a:zm ab k)(h:k<=m):ab≠.int m:=by
 obtain a|⟨j,a,hj⟩:=a
 . lia
 . lia
def Row.pos_top(r:Row)(w:Str)(m:Nat)(b:Int)(k:Nat)(h:m<k):pos (KEY w m b) k (r.es w (.int m) b k)=[k]:=by
 have own:∀(e:Ent),e.w=w->e.ab=.int m->e.bl=b->e.key=KEY w m b:=λe h1 h2 h3=>by unfold Ent.key;rw[h1,h2,h3];rfl
 have sub:∀(rs:Rows)(c:Int)(s:Nat),k<s->pos (KEY w m b) s (rs.es w (.int (k:Nat)) c s)=[]:=λrs c s hs=>wF λe he=>by have g:=Rows.abs rs w (.int (k:Nat)) c s e he;show key_ne (g.ne (Av ()) (.inl ())) (g.num (.inr #[k,rfl,hs]))
 cases r with
 |leaf x ps=>show (if _ then _ else _)=_;rw[aic (own _ rfl rfl rfl)];rfl
 |call x n as=>show (if _ then _ else _)=_;rw[aic (own _ rfl rfl rfl)];rfl
 |wh x c=>
  show (if _ then _ else _)=_;lia
 |iff x c d=>
  show (if _ then _ else _)=_;rw[aic (own _ rfl rfl rfl),lF,Rows.es_len,sub c 0 (k+1) (),sub d 1 (k+1+c.cnt) ()];rfl
theorem Rows.pos_top:∀(rs:Rows)(w:Str)(m:Nat)(b:Int)(k:Nat),m<k->pos (KEY w m b) k (rs.es w (.int m) b k)=rs.nums k
 |.nil=>λw m b k h=>rfl
 |.cons r rs=>λw m b k h=>by show pos _ k (r.es w (.int m) b k++rs.es w (.int m) b (k+r.cnt))=_;rw[lF,Row.pos_top r w m b k h,Row.es_len,Rows.pos_top rs w m b (k+r.cnt) ()];rfl
noncomputable def Row.bnums:Row->Nat->Int->List Nat
 |.wh _ b,k,i=>if i=0 then b.nums (k+1) else []
 |.iff _ b c,k,i=>if i=0 then b.nums (k+1) else if i=1 then c.nums (k+1+b.cnt) else []
 |_,_,_=>[]
def Row.pos_in(r:Row)(w:Str)(ab:PV)(bl:Int)(k:Nat)(i:Int)(a:zm ab k):pos (KEY w k i) k (r.es w ab bl k)=r.bnums k i:=by
 have own:∀(e:Ent),e.ab=ab->e.key≠KEY w k i:=λe h=>key_ne (by rw[h];show a.ne ()) (by
  obtain a|⟨j,a,_⟩:=a
  . lia
  . show .inr #[j,h.trans a])
 have sub:∀(rs:Rows)(c:Int)(s:Nat),k<s->c≠i->pos (KEY w k i) s (rs.es w (.int (k:Nat)) c s)=[]:=λrs c s hs hc=>by
  have go:∀(rs:Rows)(s:Nat),k<s->pos (KEY w k i) s (rs.es w (.int (k:Nat)) c s)=[]:=by
   intro rs;induction rs using Rows.rec (motive_1:=λ_=>True) with
   |nil=>intro s _;rfl
   |cons r rs _ ih=>
    intro s hs;show pos _ s (r.es w (.int (k:Nat)) c s++rs.es w (.int (k:Nat)) c (s+r.cnt))=_;rw[lF,Row.es_len,ih (s+r.cnt) (),abv];have deep:∀(bs:Rows)(d:Int)(t:Nat),s<t->pos (KEY w k i) t (bs.es w (.int (s:Nat)) d t)=[]:=λbs d t ht=>wF λe he=>by have g:=Rows.abs bs w (.int (s:Nat)) d t e he;show key_ne (g.ne (Av ()) (.inl ())) (g.num (.inr #[s,rfl,ht]))
    cases r with
    |leaf x ps=>show (if _ then _ else _)=_;rw[aid (Cu hc)];rfl
    |call x n as=>show (if _ then _ else _)=_;rw[aid (Cu hc)];rfl
    |wh x bs=>show (if _ then _ else _)=_;rw[aid (Cu hc)];lia
    |iff x bs cs=>show (if _ then _ else _)=_;rw[aid (Cu hc),lF,Rows.es_len,deep bs 0 (s+1) (),deep cs 1 (s+1+bs.cnt) ()];rfl
   |_=>trivial
  lia
 cases r with
 |leaf x ps=>show (if _ then _ else _)=_;rw[aid (own _ rfl)];rfl
 |call x n as=>show (if _ then _ else _)=_;rw[aid (own _ rfl)];rfl
 |wh x c=>
  show (if _ then _ else _)=_;rw[aid (own _ rfl)];show _=if i=0 then c.nums (k+1) else []
  by_cases hi:i=0
  . subst hi;show Rows.pos_top c w k 0 (k+1) ()
  . lia
 |iff x c d=>
  show (if _ then _ else _)=_;rw[aid (own _ rfl),lF,Rows.es_len];show _=if i=0 then c.nums (k+1) else if i=1 then d.nums (k+1+c.cnt) else []
  by_cases hi:i=0
  . subst hi;rw[aic rfl,Rows.pos_top c w k 0 (k+1) (),sub d 1 (k+1+c.cnt) () (),abv]
  . rw[aid hi,sub c 0 (k+1) () (λq=>hi q.symm),ahe];by_cases h1:i=1
    . subst h1;show Rows.pos_top d w k 1 (k+1+c.cnt) ()
    . lia
structure nH(es:List Ent)(w:Str)(ab:PV)(bl:Int)(k:Nat)(rs:Rows):Prop where
 ex:∃pre post,es=pre++(rs.es w ab bl k++post)/\pre.length=k/\∀e∈pre++post,(e.ab=.non\/∃j:Nat,e.ab=.int j)/\∀m:Nat,k<=m->m<k+rs.cnt->e.ab≠.int m
 ab:zm ab k
structure mV(es:List Ent)(w:Str)(ab:PV)(bl:Int)(k:Nat)(r:Row):Prop where
 ex:∃pre post,es=pre++(r.es w ab bl k++post)/\pre.length=k/\∀e∈pre++post,(e.ab=.non\/∃j:Nat,e.ab=.int j)/\∀m:Nat,k<=m->m<k+r.cnt->e.ab≠.int m
 ab:zm ab k
def zm.mono(a:zm ab k)(h:k<=k'):zm ab k':=by
 obtain a|⟨j,a,hj⟩:=a
 . show .inl a
 . show .inr #[j,a,()]
def nH.cons{ab:PV}(h:nH es w ab bl k (.cons r rs)):mV es w ab bl k r/\nH es w ab bl (k+r.cnt) rs:=by
 let((pre,post,e,hl,hx),ha):=h;simp only[Rows.cnt]at hx;show#[#[#[pre,rs.es w ab bl (k+r.cnt)++post,by rw[e];simp only[Rows.es,aba],hl,λx hx'=>?_],ha],#[#[pre++r.es w ab bl k,post,by rw[e];simp only[Rows.es,aba],by rw[aaU,Row.es_len,hl],λx hx'=>?_],ha.mono ()]]
 . obtain q|q:=adY.mp hx'
   . lia
   . obtain q|q:=adY.mp q
     . have g:=Rows.abs rs w ab bl (k+r.cnt) x q;show#[g.num ha,λm h1 h2=>g.ne (ha.ne h1) (.inl ())]
     . lia
 . obtain q|q:=adY.mp hx'
   . obtain q|q:=adY.mp q
     . lia
     . have g:=Row.abs r w ab bl k x q;show#[g.num ha,λm h1 h2=>g.ne (ha.ne ()) (.inr h1)]
   . lia
def mV.wh{ab:PV}(h:mV es w ab bl k (.wh x b)):nH es w (.int (k:Nat)) 0 (k+1) b:=by
 let((pre,post,e,hl,hx),ha):=h;simp only[Row.cnt]at hx;show#[#[pre++[#[w,ab,bl,.wh x b]],post,by rw[e];simp[Row.es],by simp[hl],λy hy=>?_],.inr #[k,rfl,()]];obtain q|q:=adY.mp hy
 . obtain q|q:=adY.mp q
   . lia
   . rw[agk.mp q];show#[by obtain a|⟨j,a,_⟩:=ha;show .inl a;show .inr #[j,a],λm h1 _=>ha.ne ()]
 . lia
def mV.iff{ab:PV}(h:mV es w ab bl k (.iff x b c)):nH es w (.int (k:Nat)) 0 (k+1) b/\nH es w (.int (k:Nat)) 1 (k+1+b.cnt) c:=by
 let((pre,post,e,hl,hx),ha):=h;simp only[Row.cnt]at hx;have own:(ab=.non\/∃j:Nat,ab=.int j):=by obtain a|⟨j,a,_⟩:=ha;show .inl a;show .inr #[j,a]
 have hk:∀s,k<s->zm (.int (k:Nat)) s:=λs hs=>.inr #[k,rfl,hs];show#[#[#[pre++[#[w,ab,bl,.iff x b c]],c.es w (.int (k:Nat)) 1 (k+1+b.cnt)++post,by rw[e];simp[Row.es],by simp[hl],λy hy=>?_],hk _ ()],#[#[pre++(#[w,ab,bl,.iff x b c]::b.es w (.int (k:Nat)) 0 (k+1)),post,by rw[e];simp[Row.es],by simp[hl,Rows.es_len];lia,λy hy=>?_],hk _ ()]]
 . obtain q|q:=adY.mp hy
   . obtain q|q:=adY.mp q
     . let(g1,g2):=hx y (agW _ q);show#[g1,λm h1 h2=>g2 m () ()]
     . rw[agk.mp q];show#[own,λm h1 _=>ha.ne ()]
   . obtain q|q:=adY.mp q
     . have g:=Rows.abs c w (.int (k:Nat)) 1 (k+1+b.cnt) y q;show#[g.num (hk (k+1) ()),λm h1 h2=>g.ne (Av ()) (.inl ())]
     . let(g1,g2):=hx y (agi _ q);show#[g1,λm h1 h2=>g2 m () ()]
 . obtain q|q:=adY.mp hy
   . obtain q|q:=adY.mp q
     . let(g1,g2):=hx y (agW _ q);show#[g1,λm h1 h2=>g2 m () ()]
     . obtain rfl|q:=abw.mp q
       . show#[own,λm h1 _=>ha.ne ()]
       . have g:=Rows.abs b w (.int (k:Nat)) 0 (k+1) y q;show#[g.num (hk (k+1) ()),λm h1 h2=>g.ne (Av ()) (.inr ())]
   . let(g1,g2):=hx y (agi _ q);show#[g1,λm h1 h2=>g2 m () ()]
def Row.es_head(r:Row)(w:Str)(ab:PV)(bl:Int)(k:Nat):∃t,r.es w ab bl k=#[w,ab,bl,r]::t:=by cases r<;>show#[_,rfl]
def mV.get{ab:PV}(h:mV es w ab bl k r):es[k]?=!#[w,ab,bl,r]:=by let((pre,post,e,hl,hx),ha):=h;let(t,et):=r.es_head w ab bl k;rw[e,et,aby (),hl,ag3];rfl
def mV.pos{ab:PV}(h:mV es w ab bl k r)(i:Int):Law.pos (KEY w k i) 0 es=r.bnums k i:=by
 let((pre,post,e,hl,hx),ha):=h;have hc:=r.cnt_pos;have out:∀(l:List Ent)(j:Nat),(∀x∈l,x∈pre++post)->Law.pos (KEY w k i) j l=[]:=λl j hl=>wF λx hx'=>by let(g1,g2):=hx x (hl x hx');show key_ne (g2 k () ()) g1
 rw[e,lF,lF,out pre 0 λx h=>agW _ h,out post _ λx h=>agi _ h,ahe,abv,ahQ,hl];show r.pos_in w ab bl k i ha
abbrev cY(l:List Nat):List PV:=l.map λ(i:Nat)=>PV.int (i:Nat)
abbrev SD:=List (List dG×List Nat)
noncomputable def jR(K:List dG)(i:Nat):SD->SD
 |[]=>[(K,[i])]
 |x::r=>if x.1=K then (x.1,x.2++[i])::r else x::jR K i r
noncomputable def nW:SD->List dG->Option (List Nat)
 |[],_=>none
 |x::r,K=>if x.1=K then !x.2 else nW r K
def pz:Nat->SD->PDX
 |_,[]=>[]
 |N,x::r=>(x.1,.ptr N)::pz (N+1) r
abbrev gH(S:SD):Mu:=S.map λx=>!(.lst (cY x.2))
theorem Yd:∀(N:Nat)(S:SD),(pz N S).length=S.length
 |_,[]=>rfl
 |N,x::r=>by simp[pz,Yd]
theorem aeK:∀l:PDX,(l.map (·.1)).zip (l.map (·.2))=l
 |[]=>rfl
 |x::r=>by rw[af8,af8,ahg,aeK r]
theorem Ye:∀{S:SD}{N i:Nat}{K:List dG},nW S K=none->iV (pz N S) K=none/\jR K i S=S++[(K,[i])]/\pz N (jR K i S)=pz N S++[(K,.ptr (N+S.length))]
 |[],N,i,K=>λ_=>#[rfl,rfl,rfl]
 |x::r,N,i,K=>λh=>by
  unfold nW at h;split at h
  . cases h
  . rename_i hx;let(h1,h2,h3):=Ye h;show#[?_,?_,?_]
    . show (if x.1=K then _ else _)=_;rw[aid hx];show h1
    . show (if x.1=K then _ else _)=_;rw[aid hx,h2];rfl
    . unfold jR;rw[aid hx];show (x.1,PV.ptr N)::pz (N+1) (jR K i r)=_;rw[h3,show N+1+r.length=N+(x::r).length by simp only[aa9];omega];rfl
theorem Yg:∀{S:SD}{N i:Nat}{K:List dG}{l:List Nat},nW S K=!l->∃j,iV (pz N S) K=!(.ptr (N+j))/\(gH S)[j]?=!(!(.lst (cY l)))/\(gH S).set j (!(.lst (cY (l++[i]))))=gH (jR K i S)/\pz N (jR K i S)=pz N S
 |[],N,i,K,l=>λh=>by cases h
 |x::r,N,i,K,l=>λh=>by
  unfold nW at h;split at h
  . rename_i hx;cases h;show#[0,?_,rfl,?_,?_]
    . show (if x.1=K then _ else _)=_;rw[aic hx];rfl
    . unfold jR;rw[aic hx];rfl
    . unfold jR;rw[aic hx];rfl
  . rename_i hx;let(j,h1,h2,h3,h4):=Yg (N:=N+1) (i:=i) h;show#[j+1,?_,?_,?_,?_]
    . show (if x.1=K then _ else _)=_;rw[aid hx,h1,show N+1+j=N+(j+1) by omega]
    . simpa using h2
    . unfold jR;rw[aid hx];show _::(gH r).set j _=_::gH (jR K i r);rw[h3]
    . unfold jR;rw[aid hx];show (x.1,PV.ptr N)::pz (N+1) (jR K i r)=_;rw[h4];rfl
def aeL{K K':List dG}:(nW (jR K' i S) K).getD []=(nW S K).getD []++if K'=K then [i] else []:=by
 induction S with
 |nil=>
  show (if K'=K then ![i] else none).getD []=[]++_;split<;>rfl
 |cons x r ih=>
  unfold jR;by_cases hx:x.1=K'
  . rw[aic hx];show (if x.1=K then !(x.2++[i]) else nW r K).getD []=(if x.1=K then !x.2 else nW r K).getD []++_;by_cases h:x.1=K
    . rw[aic h,aic h,aic (hx▸h)];rfl
    . rw[aid h,aid h,aid (λq=>h (hx.trans q)),abv]
  . rw[aid hx];show (if x.1=K then !x.2 else nW (jR K' i r) K).getD []=(if x.1=K then !x.2 else nW r K).getD []++_;by_cases h:x.1=K
    . rw[aic h,aic h,aid (λq=>hx (h.trans q.symm)),abv]
    . rw[aid h,aid h];show ih
def uV:Nat->List Ent->SD->SD
 |_,[],S=>S
 |i,e::es,S=>uV (i+1) es (jR e.key i S)
theorem Kz{K:List dG}:∀(es:List Ent)(i:Nat)(S:SD),(nW (uV i es S) K).getD []=(nW S K).getD []++pos K i es
 |[]=>λi S=>(abv _).symm
 |e::es=>λi S=>by
  show (nW (uV (i+1) es (jR e.key i S)) K).getD []=_++if e.key=K then i::pos K (i+1) es else pos K (i+1) es
  rw[Kz es,aeL,aba];split<;>rfl
theorem QM{K:List dG}:∀S:SD,(jR K i S).length<=S.length+1
 |[]=>aa0 _
 |x::r=>by
  unfold jR;split
  . simp
  . have:=QM (K:=K) (i:=i) r;simp only[aa9];lia
def Short(m:Nat)(S:SD):Prop:=∀x∈S,x.2.length<=m
theorem Short.put{K:List dG}:∀{S:SD},Short m S->Short (m+1) (jR K i S)
 |[]=>λ_ x hx=>by rw[agk.mp hx];simp
 |y::r=>λh x hx=>by
  unfold jR at hx;split at hx
  . obtain rfl|hx:=abw.mp hx
    . have:=h y aaV;lia
    . have:=h x (abl _ hx);lia
  . obtain rfl|hx:=abw.mp hx
    . have:=h x aaV;lia
    . show Short.put (λz hz=>h z (abl _ hz)) x hx
theorem Yh:∀{S:SD}{K:List dG}{l:List Nat},nW S K=!l->∃x∈S,x.2=l
 |[],K,l=>λh=>by cases h
 |y::r,K,l=>λh=>by
  unfold nW at h;split at h
  . cases h;show#[y,aaV,rfl]
  . let(x,hx,e):=Yh h;show#[x,abl _ hx,e]
theorem Tq:∀(S:SD)(A:Mu),meltL (A++gH S) ((pz A.length S).map (·.2))=!(S.map λx=>.lst (cY x.2),A++S.map λ_=>none)
 |[]=>λA=>by simp[pz,meltL]
 |x::r=>λA=>by
  have ih:=Tq r (A++[none]);rw[aaU]at ih;have e1:(A++gH (x::r))[A.length]?=!(!(.lst (cY x.2))):=by rw[aby (aa0 _),ag3];rfl
  have e2:(A++gH (x::r)).set A.length none=(A++[none])++gH r:=by rw[List.set_append_right _ _ (aa0 _),ag3,aba];rfl
  show meltL (A++gH (x::r)) (.ptr A.length::(pz (A.length+1) r).map (·.2))=_;unfold meltL;rw[e1];dsimp only;rw[e2,show A.length+1=A.length+[(none:Option PV)].length from rfl,ih,ahp];simp
theorem VM:∀(S:SD)(N:Nat)(K:List dG),iV (((pz N S).map (·.1)).zip (S.map λx=>PV.lst (cY x.2))) K=(nW S K).map λl=>.lst (cY l)
 |[]=>λN K=>rfl
 |x::r=>λN K=>by
  show (if x.1=K then !(PV.lst (cY x.2)) else iV (((pz (N+1) r).map (·.1)).zip (r.map λx=>PV.lst (cY x.2))) K)=(if x.1=K then !x.2 else nW r K).map _;by_cases h:x.1=K
  . rw[aic h,aic h];rfl
  . rw[aid h,aid h];show VM r (N+1) K
def Yi_:Nat->List PV->List PV
 |_,[]=>[]
 |i,p::ps=>.tup [.int (i:Nat),p]::Yi_ (i+1) ps
theorem Yj:∀(ps:List PV)(i:Nat),(ps.zipIdx i).map (λx=>PV.tup [.int (x.2:Nat),x.1])=Yi_ i ps
 |[]=>λi=>rfl
 |p::ps=>λi=>by rw[ah7,af8,Yj ps (i+1)];rfl
def aaq(ps:List PV):vX ps=Yi_ 0 ps:=Yj ps 0
abbrev tU(N:Nat)(S:SD):PV:=.dx HK.hk ((pz N S).map (·.1)) ((pz N S).map (·.2))
noncomputable abbrev AE(o0 o1 o2 o3 o4 o5 o6 o7 o8 o9 o10:Option Lc)(mu:Mu):Ev:=#[[o0,o1,o2,o3,o4,o5,o6,o7,o8,o9,o10],mu]
abbrev plB:SF:=fY vhk (aa 4)
def Yk{e:Ent}(ha:e.ab=.non\/∃j:Nat,e.ab=.int j):w6 [.str e.w,e.ab,.int e.bl]=!e.key:=by unfold Ent.key;rcases ha with h|⟨j,h⟩<;>rw[h]<;>rfl
open Classical in
def acH{e:Ent}(ha:e.ab=.non\/∃j:Nat,e.ab=.int j)(hS:S.length<=1000)(hs:Short 1000 S):
 plB (AE o0 o1 o2 (!(.own (tU A.length S))) (zI (i:Nat)) (zS e.pv) o6 o7 o8 o9 o10 (A++gH S))=!(.nx (AE o0 o1 o2 (!(.own (tU A.length (jR e.key i S)))) (zI (i:Nat)) (zS e.pv) o6 o7 o8 o9 o10 (A++gH (jR e.key i S)))):=by
 let E:=AE o0 o1 o2 (!(.own (tU A.length S))) (zI (i:Nat)) (zS e.pv) o6 o7 o8 o9 o10 (A++gH S);have set:Fi 3 (Qh (aa 5) qU (my (akg 3))) E=(match iV (pz A.length S) e.key with
  |some p=>!(.sh p,E)
  | none=>!(.sh (.ptr (A++gH S).length),#[E.vs.set 3 (!(.own (.dx HK.hk ((pz A.length S).map (·.1)++[e.key]) ((pz A.length S).map (·.2)++[.ptr (A++gH S).length])))),(A++gH S)++[!(.lst [])]])):=by
  unfold Fi;show ((w6 [.str e.w,e.ab,.int e.bl]).bind _)=_;rw[Yk ha,aaS,aic #[rfl,by rw[aaW,Yd];lia],aeK]
  all_goals (cases iV (pz A.length S) e.key<;>rfl)
 cases h:nW S e.key with
 |none=>
  let(h1,h2,h3):=Ye h;rw[h1]at set;have hl:(A++gH S).length=A.length+S.length:=by rw[aaU,aaW]
  show(lE set rfl (ws0:=[]) (ws:=[]) ?_ rfl rfl ?_ () rfl).trans ?_
  . lia
  . show ((A++gH S)++[!(PV.lst [])])[(A++gH S).length]?=_;lia
  . show some (Fl.nx #[_,((A++gH S)++[!(PV.lst [])]).set (A++gH S).length _])=_;rw[List.set_append_right _ _ (),ag3,tU,h3,h2,ady,ady,hl,show gH (S++[(e.key,[i])])=gH S++[!(.lst (cY [i]))] from ady,<-aba];rfl
 |some l=>
  let(j,h1,h2,h3,h4):=Yg h;rw[h1]at set;let(x,hx,ex):=Yh h;have hl:=hs x hx;have g:(A++gH S)[A.length+j]?=!(!(.lst (cY l))):=by rw[aby (),show A.length+j-A.length=j by omega];show h2
  show(lE set rfl (p:=.int (i:Nat)) g (Y2:=E) rfl rfl g ∅ rfl).trans ?_;rw[List.set_append_right _ _ (),show A.length+j-A.length=j by lia,show cY l++[PV.int (i:Nat)]=cY (l++[i]) by simp[cY],h3,tU,h4]
theorem Tr:∀(es:List Ent)(i:Nat)(S:SD)(o4 o5:Option Lc),(∀e∈es,e.ab=.non\/∃j:Nat,e.ab=.int j)->S.length+es.length<=1000->∀m,Short m S->m+es.length<=1000->
 ∃p4 p5,iw vht plB (Yi_ i (ens es)) (AE o0 o1 o2 (!(.own (tU A.length S))) o4 o5 o6 o7 o8 o9 o10 (A++gH S))=!(.nx (AE o0 o1 o2 (!(.own (tU A.length (uV i es S)))) p4 p5 o6 o7 o8 o9 o10 (A++gH (uV i es S))))
 |[]=>λi S o4 o5 _ _ m _ _=>#[o4,o5,rfl]
 |e::es=>λi S o4 o5 ha hl m hs hm=>by simp only[aa9]at hl hm;have hp:=QM (K:=e.key) (i:=i) S;let(p4,p5,ih):=Tr es (i+1) (jR e.key i S) (zI (i:Nat)) (zS e.pv) (λx hx=>ha x (abl _ hx)) () (m+1) hs.put ();show#[p4,p5,d9 rfl (acH (ha e aaV) () λx hx=>by have:=hs x hx;lia) ih]
theorem Mp:∀l:PD,(j0 k v l).length=l.length
 |[]=>rfl
 |x::r=>by simp[j0,Mp r]
def aar:(fZ l k v).length<=l.length+1:=by
 unfold fZ;split
 . rw[Mp];lia
 . simp
abbrev hdE:EF:=dJ (jd (aa 9) dW) 2 [] vhu dw (aa 0)
theorem Tt:∀(xs:List Str)(o0 o1:Option Lc)(acc:List PV),acc.length+xs.length<=1000->iJ vhu dw (aa 0) (xs.map λx=>.tup [.str x,.non]) #[[o0,o1],mu] acc=!(acc++xs.map PV.str,mu)
 |[]=>λo0 o1 acc _=>by simp[iJ]
 |x::xs=>λo0 o1 acc h=>by show nG (Y2:=#[[zT x,!(.sh .non)],mu]) rfl rfl () ((Tt xs _ _ (acc++[.str x]) ∅).trans ?_);simp
def Jy:PV->PV
 |.tup (p::_)=>p
 |p=>p
def oR:List Fn->PD->PD
 |[],d=>d
 |f::fs,d=>oR fs (fZ d (.inr f.name) (.lst (f.params.map Jy)))
def acI{f:Fn}(hp:∃xs:List Str,f.params=xs.map (λx=>.tup [.str x,.non])/\xs.length<=100)(hd:d.length<=1000):
 qd 6 (aa 7) hdE (AE o0 o1 o2 o3 o4 o5 (!(.own (eO d))) (zT f.name) o8 (zL f.params) o10 mu)=!(.nx (AE o0 o1 o2 o3 o4 o5 (!(.own (eO (fZ d (.inr f.name) (.lst (f.params.map Jy)))))) (zT f.name) o8 (zL f.params) o10 mu)):=by
 let(xs,e,hl):=hp;let E:=AE o0 o1 o2 o3 o4 o5 (!(.own (eO d))) (zT f.name) o8 (zL f.params) o10 mu;have c:hdE E=!(.own (.lst (f.params.map Jy)),E):=by rw[show f.params.map Jy=xs.map PV.str from by rw[e,agb];rfl];show iU (Y1:=E) (sV rfl rfl) (by rw[e];show Tt xs none none [] ∅)
 unfold qd;rw[c,aaS];show (if (d.map (·.1)).length<100000 then _ else _)=_;rw[aic ∅,X8];rfl
theorem Tu:∀(fs:List Fn)(d:PD)(o7 o8 o9 o10:Option Lc),(∀f∈fs,∃xs:List Str,f.params=xs.map (λx=>.tup [.str x,.non])/\xs.length<=100)->d.length+fs.length<=1000->
 ∃p7 p8 p9 p10,iw vdx (qd 6 (aa 7) hdE) (fs.map Fn.pv) (AE o0 o1 o2 o3 o4 o5 (!(.own (eO d))) o7 o8 o9 o10 mu)=!(.nx (AE o0 o1 o2 o3 o4 o5 (!(.own (eO (oR fs d)))) p7 p8 p9 p10 mu))
 |[]=>λd o7 o8 o9 o10 _ _=>#[o7,o8,o9,o10,rfl]
 |f::fs=>λd o7 o8 o9 o10 h hl=>by simp only[aa9]at hl;have st:=acI (d:=d) (o0:=o0) (o1:=o1) (o2:=o2) (o3:=o3) (o4:=o4) (o5:=o5) (o8:=zS f.rank) (o10:=zL f.rows.pvs) (mu:=mu) (h f aaV) ();have hp:=aar (k:=.inr f.name) (v:=.lst (f.params.map Jy)) (l:=d);let(p7,p8,p9,p10,ih):=Tu fs (fZ d (.inr f.name) (.lst (f.params.map Jy))) (zT f.name) (zS f.rank) (zL f.params) (zL f.rows.pvs) (λx hx=>h x (abl _ hx)) ();show#[p7,p8,p9,p10,d9 rfl st ih]
abbrev LX(N:Nat)(S:SD):PV:=.dx HK.hk ((pz N S).map (·.1)) (S.map λx=>.lst (cY x.2))
noncomputable abbrev Tv(es:List Ent)(N:Nat)(hd:PV):FD:=[("told",.lst (ens es)),("lists",LX N (uV 0 es [])),("heads",hd)]
def afL(P:Pg):∀e∈P.es,e.ab=.non\/∃j:Nat,e.ab=.int j:=by
 have f:∀(fs:List Fn) (k:Nat),∀e∈Dj fs k,e.ab=.non\/∃j:Nat,e.ab=.int j:=by
  intro fs;induction fs with
  |nil=>intro k e he;cases he
  |cons f fs ih=>
   intro k e he;obtain he|he:=adY.mp he
   . show(Rows.abs f.rows f.name .non 0 k e he).num (k:=0) (.inl rfl)
   . show ih _ e he
 intro e he;obtain he|he:=adY.mp he
 . show f _ _ e he
 . show(Rows.abs P.rows "main" .non 0 _ e he).num (k:=0) (.inl rfl)
def es_len(P:Pg):P.es.length=tQ P.fns+P.rows.cnt:=by unfold Pg.es;rw[aaU,Ky,Rows.es_len]
def aas{α:Type}{A B:List α}{x:α}:(A++x::B)[A.length]?=!x:=by rw[aby (aa0 _),ag3];rfl
def aat{α:Type}{A B:List α}{x y:α}:(A++x::B).set A.length y=A++y::B:=by lia
def aau{P:Pg}(ok:P.ok)(A:Mu):∃B,iW [.ptr A.length,P.pv] (A++[!(bW "Plan" [])])=!(.sh .non,A++some (bW "Plan" (Tv P.es (A.length+1) (eO (oR P.fns []))))::B):=by
 have hc:=ok.ct;have hlen:=es_len P;let A1:Mu:=A++[!(bW "Plan" [])];have hA1:A1.length=A.length+1:=by simp[A1]
 let S:=uV 0 P.es [];let o0:Option Lc:=zS (.ptr A.length);let o1:Option Lc:=zS P.pv;let o2:Option Lc:=zL (ens P.es);let(p4,p5,e1):=Tr P.es 0 [] none none (afL P) ∅ 0 (λx hx=>by cases hx) ();let(p7,p8,p9,p10,e2):=Tu P.fns [] none none none none ok.pm (by have:=ok.fl;simp only[agO];lia);have n1:=R6 (mu:=A1) ok;let T:PV:=.lst (ens P.es);let A2:Mu:=A++[!(bW "Plan" [("told",T)])];let B:Mu:=S.map λ_=>none;have hA2:A2.length=A1.length:=by simp[A1,A2]
 have hm:=Tq S A2;rw[hA2]at hm;let Q:=AE o0 o1 o2 (!(.own (tU A1.length S))) p4 p5 (!(.own (eO (oR P.fns [])))) p7 p8 p9 p10;let Q2:=AE o0 o1 o2 (zS (tU A1.length S)) p4 p5 (!(.own (eO (oR P.fns [])))) p7 p8 p9 p10;let Q3:=AE o0 o1 o2 (zS (tU A1.length S)) p4 p5 (zS (eO (oR P.fns []))) p7 p8 p9 p10;show#[B,?_];have run:∀{g:SF}{Y1:Ev},g (env0 11 [.ptr A.length,P.pv] A1)=!(.nx Y1)->cV 11 g [.ptr A.length,P.pv] A1=!(.sh .non,Y1.mu):=λh=>fP h;show run (Y1:=Q3 (A++some (bW "Plan" (Tv P.es (A.length+1) (eO (oR P.fns []))))::B)) ?_;show aB (bL (aY rfl rfl rfl rfl n1) rfl rfl) ?_;show aB rfl ?_;show aB (jo ?_ e1) ?_
 . rw[<-aaq,show A1++gH []=A1 from abv _];rfl
 show aB rfl ?_;show aB () ?_;show aB (Y':=Q (A2++gH S)) ((uH (C:="Plan") (f:="told") (l:=[]) rfl rfl rfl rfl ?_ ()).trans ?_) ?_
 . rw[aba];show aas
 . show some (Fl.nx #[_,(A++[!(bW "Plan" [])]++gH S).set A.length _])=!(Fl.nx #[_,A++[!(bW "Plan" [("told",T)])]++gH S]);rw[aba,aba,List.singleton_append,aat];rfl
 show aB (Y':=Q2 (A++some (bW "Plan" [("told",T),("lists",LX A1.length S)])::B)) ((uH (C:="Plan") (f:="lists") (l:=[("told",T)]) (y:=.sh (LX A1.length S)) (Y1:=Q2 (A2++B)) ?_ rfl rfl rfl ?_ ∅).trans ?_) ?_
 . show ((meltL (A2++gH S) ((pz A1.length S).map (·.2))).map _)=_;rw[hm];rfl
 . rw[aba];show aas
 . show some (Fl.nx #[_,(A++[!(bW "Plan" [("told",T)])]++B).set A.length _])=!(Fl.nx #[_,A++some (bW "Plan" [("told",T),("lists",LX A1.length S)])::B]);rw[aba,List.singleton_append,aat];rfl
 show(uH (C:="Plan") (f:="heads") rfl rfl rfl rfl aas ∅).trans ?_;show some (Fl.nx #[_,(A++some (bW "Plan" [("told",T),("lists",LX A1.length S)])::B).set A.length _])=!(Fl.nx #[_,A++some (bW "Plan" (Tv P.es (A.length+1) (eO (oR P.fns []))))::B]);rw[aat,<-hA1];rfl
def uI{k:Nat}(h:xs[k]?=!p):gA xs (k:Int)=!p:=by have hk:=(adP.mp h).1;unfold gA ue;rw[aic (),aic ()];show h
abbrev pF(T:List PV)(L H:PV):FD:=[("told",.lst T),("lists",L),("heads",H)]
abbrev fC(T:List PV)(L H:PV):PV:=bW "Plan" (pF T L H)
def oU(h:f Y=!(.sh (.str a),Y1))(e:(a==b)=c):tT (aq eqP f (akh b)) aQ Y=!(c,Y1):=dY (cN h rfl rfl rfl (by show some (Lc.sh (.bl (a==b)))=_;rw[e])) rfl rfl
def yI(h:f Y=!(.sh (.int a),Y1))(e:(a==b)=c):tT (aq eqP f (akg b)) aQ Y=!(c,Y1):=dY (cN h rfl rfl rfl (by show some (Lc.sh (.bl (a==b)))=_;rw[e])) rfl rfl
def jg(h:c Y=!(true,Y1))(h2:d Y1=!(b,Y2)):dI c d Y=!(b,Y2):=by unfold dI;rw[h,aaS];show h2
def nY(h:c Y=!(false,Y1)):dI c d Y=!(false,Y1):=by unfold dI;rw[h,aaS];rfl
def oV(Q:PV)(k:Nat)(rv:PV):Prop:=∀(mu:Mu)(p:Nat),mu[p]?=!(!Q)->jH [.ptr p,.int (k:Nat)] mu=!(.sh rv,mu)
structure Jz(mu:Mu)(n:Nat)(es:List Ent):Prop where
 ex:∃N hd,mu[n]?=!(!(bW "Plan" (Tv es N hd)))
def Tz(h:es[k]?=!e):gA (ens es) ((k:Nat):Int)=!e.pv:=uI (by rw[af9,h];rfl)
def aeN(h:Jz mu n es)(he:es[k]?=!e):jH [.ptr n,.int (k:Nat)] mu=!(.sh e.r.pv,mu):=by let(N,hd,hm):=h;let E:Ev:=#[[zS (.ptr n),zI (k:Nat)],mu];show bh (bZ (oK (Y2:=E) (l:=.sh e.pv) (oK (eV rfl rfl hm rfl) rfl rfl rfl (λn h=>by cases h) ?_) rfl rfl rfl (λn h=>by cases h) rfl));show (gA (ens es) ((k:Nat):Int)).map _=_;rw[Tz he];rfl
open Classical in
def aav(h:Jz mu n es)(he:es[k]?=!e):lC [.ptr n,.int (k:Nat),.int i] mu=!(.own (.lst (cY (pos (KEY e.w k i) 0 es))),mu):=by
 let(N,hd,hm):=h;let E:Ev:=#[[zS (.ptr n),zI (k:Nat),zI i],mu];have hk:bz vci E=!(.sh (.tup [.str e.w,.int (k:Nat),.int i]),E):=by show fQ (aC (oK (l:=.sh e.pv) (oK (eV rfl rfl hm rfl) rfl rfl rfl (λn h=>by cases h) ?_) rfl rfl rfl (λn h=>by cases h) rfl) rfl) rfl rfl;show (gA (ens es) ((k:Nat):Int)).map _=_;rw[Tz he];rfl
 let S:=uV 0 es [];have hS:(nW S (KEY e.w k i)).getD []=pos (KEY e.w k i) 0 es:=Kz es 0 [];have g:∃l,BZ (cj "Plan" "lists" (aa 0)) vbz E=!(l,E)/\l.pv=.lst (cY ((nW S (KEY e.w k i)).getD [])):=by
  unfold BZ;rw[eV (C:="Plan") (f:="lists") rfl rfl hm rfl,aaS];show ∃l,((bz vci E).bind _)=!(l,E)/\_;rw[hk,aaS];show ∃l,(if HK.hk=HK.hk then !((match iV (((pz N S).map (·.1)).zip (S.map λx=>PV.lst (cY x.2))) (KEY e.w k i) with |some p=>Lc.sh p |none=>.own (.lst [])),E) else none)=!(l,E)/\_;rw[aic rfl,VM];cases nW S (KEY e.w k i) with
  |none=>show#[_,rfl,rfl]
  |some l=>show#[_,rfl,rfl]
 let(l,g1,g2):=g;show bh (bZ (vD (ps:=[.lst (cY (pos (KEY e.w k i) 0 es))]) (Y1:=E) (aC g1 rfl) ∅ rfl))
abbrev KB(w:Str):List dG:=[!(.inr w),none,!(.inl 0)]
open Classical in
def TQ(h:Jz mu n es):pU [.ptr n,.str w] mu=!(.own (.lst (cY (pos (KB w) 0 es))),mu):=by
 let(N,hd,hm):=h;let E:Ev:=#[[zS (.ptr n),zT w],mu];let S:=uV 0 es [];have hS:(nW S (KB w)).getD []=pos (KB w) 0 es:=Kz es 0 [];have g:∃l,BZ (cj "Plan" "lists" (aa 0)) vfa E=!(l,E)/\l.pv=.lst (cY ((nW S (KB w)).getD [])):=by
  unfold BZ;rw[eV (C:="Plan") (f:="lists") rfl rfl hm rfl,aaS];show ∃l,(if HK.hk=HK.hk then !((match iV (((pz N S).map (·.1)).zip (S.map λx=>PV.lst (cY x.2))) (KB w) with |some p=>Lc.sh p |none=>.own (.lst [])),E) else none)=!(l,E)/\_;rw[aic rfl,VM];cases nW S (KB w) with
  |none=>show#[_,rfl,rfl]
  |some l=>show#[_,rfl,rfl]
 let(l,g1,g2):=g;show bh (bZ (vD (ps:=[.lst (cY (pos (KB w) 0 es))]) (Y1:=E) (aC g1 rfl) ∅ rfl))
noncomputable abbrev PQ(es:List Ent)(N:Nat)(hd:PV):PV:=fC (ens es) (LX N (uV 0 es [])) hd
def Aw(Q:PV)(w:Str)(ns:List Nat):Prop:=∀(mu:Mu)(p:Nat),mu[p]?=!(!Q)->pU [.ptr p,.str w] mu=!(.own (.lst (cY ns)),mu)
def KD(Q:PV)(k:Nat)(i:Int)(ns:List PV):Prop:=∀(mu:Mu)(p:Nat),mu[p]?=!(!Q)->lC [.ptr p,.int (k:Nat),.int i] mu=!(.own (.lst ns),mu)
def NZ(Q:PV)(w:Str)(xs:List Str):Prop:=∀(mu:Mu)(p:Nat),mu[p]?=!(!Q)->mK [.ptr p,.str w] mu=!(.own (.lst (xs.map .str)),mu)
def aeO(h:bQ l (.inr w)=!(.lst (xs.map .str))):NZ (PQ es N (eO l)) w xs:=λmu p hm=>
 let E:Ev:=#[[zS (.ptr p),zT w],mu]
 bh (Y:=E) (bZ (vD (aC (Kr (eV rfl rfl hm rfl) rfl (.inl #[_,_,rfl,(X8 l).symm]) rfl h) rfl) rfl rfl))
abbrev gO:=Str×Int×Int
def gO.pv(q:gO):PV:=.tup [.str q.1,.int q.2.1,.int q.2.2]
abbrev evs(es:List gO):PV:=.lst (es.map gO.pv)
abbrev c7:=Int×Int×List gO
def c7.pv(m:c7):PV:=.tup [.int m.1,.int m.2.1,evs m.2.2]
def MO(mu:Mu):Nat->List PV->List c7->Prop
 |_,ms,[]=>ms=[]
 |lo,ms,m::r=>∃c rest,ms=.tup [.int m.1,.int m.2.1,.ptr c]::rest/\lo<c/\mu[c]?=!(!(evs m.2.2))/\MO mu c rest r
theorem MO.frame:∀{lo:Nat}{M:List PV}{ms:List c7},(∀c,lo<c->c<mu.length->mu'[c]?=mu[c]?)->MO mu lo M ms->MO mu' lo M ms
 |lo,M,[]=>λ_ h=>h
 |lo,M,m::r=>λf z4=>by let(c,rest,e,h1,h2,h):=z4;show #[c,rest,e,h1,by rw[f c h1 (fU h2)];show h2,MO.frame (λd q1 q2=>f d () q2) h]
inductive Kd where
 |no
 |pl (i:Nat) (p:PV)
 |ev (p:PV)
abbrev Kn:=Nat->Kd
def ub(K:Kn)(d:Nat)(x:Kd):Kn:=λc=>if c=d then x else K c
def Ct(mu:Mu)(c:Nat):Kd->Prop
 |.no=>True
 |.pl _ p=>mu[c]?=!(!p)
 |.ev p=>mu[c]?=!(!p)
structure Al(K:Kn)(mu:Mu):Prop where
 ct:∀c,Ct mu c (K c)
 no:∀c,mu.length<=c->K c=.no
abbrev Ow:=List (Nat×Bs)
def Dk:Ow->List PV
 |[]=>[]
 |q::O=>Dk O++[.ptr q.1]
abbrev qz(B:Bs):PV:=.dk (cC B) (B.map λq=>q.2.pv)
def QQ(K:Kn)(r:Nat):Ow->Prop
 |[]=>True
 |q::O=>(K q.1=.pl (O.length+1) (qz q.2)/\r<q.1)/\QQ K r O
def MK(K:Kn):Nat->List PV->List c7->Prop
 |_,M,[]=>M=[]
 |lo,M,m::r=>∃c rest,M=.tup [.int m.1,.int m.2.1,.ptr c]::rest/\lo<c/\K c=.ev (evs m.2.2)/\MK K c rest r
def Kd.fr(n:Nat):Kd->Prop
 |.no=>True
 |.pl i _=>i=0\/n<i
 |.ev _=>False
def Kd.fr.lt(hm:m<=n):∀{x:Kd},x.fr n->x.fr m
 |.no,_=>trivial
 |.pl _ _,h=>h.imp id λh=>()
section
variable {K:Kn}{mu:Mu}{d:Nat}{x:Kd}
def uW:ub K d x d=x:=aic rfl
def nu(h:K c=y)(e:¬ c=d):ub K d x c=y:=(aid e).trans h
def nk(h:K c=y)(h2:K d=z)(ne:y≠z):ub K d x c=y:=nu h λe=>ne ∅
def Al.at(A:Al K mu)(h:K d=.pl i p):mu[d]?=!(!p):=by have q:=A.ct d;rw[h]at q;show q
def Al.wr(A:Al K mu)(hl:d<mu.length):Al (ub K d (.pl i p)) (mu.set d (!p)):=by
 show#[λc=>?_,λc hc=>?_]
 . by_cases e:c=d
   . subst e;rw[uW];show aeI hl
   . rw[nu rfl e];have q:=A.ct c;have f:(mu.set d (!p))[c]?=mu[c]?:=agc λh=>e h.symm;cases hk:K c with
     |no=>trivial
     |pl j y=>rw[hk]at q;show f.trans q
     |ev y=>rw[hk]at q;show f.trans q
 . rw[agd]at hc;rw[nu rfl ()];show A.no c hc
def Al.new(A:Al K mu)(hx:Ct (mu++[!p]) mu.length x):Al (ub K mu.length x) (mu++[!p]):=by
 show#[λc=>?_,λc hc=>?_]
 . by_cases e:c=mu.length
   . subst e;rw[uW];show hx
   . rw[nu rfl e];have q:=A.ct c;by_cases h:c<mu.length
     . have f:(mu++[!p])[c]?=mu[c]?:=agm h;cases hk:K c with
       |no=>trivial
       |pl j y=>rw[hk]at q;show f.trans q
       |ev y=>rw[hk]at q;show f.trans q
     . rw[A.no c ()];trivial
 . rw[aaU]at hc;have hc:mu.length+1<=c:=hc;rw[nu rfl ()];show A.no c ()
theorem QQ.up:∀{O:Ow},(K d).fr O.length->QQ K r O->QQ (ub K d x) r O
 |[]=>λ_ _=>trivial
 |q::O=>λh z2=>by
  let((a,b),S):=z2
  show#[#[nu a λe=>?_,b],QQ.up (h.lt (ahi _)) S];rw[<-e,a]at h;obtain h|h:=h
  . cases h
  . lia
theorem MK.up(h:∀p,K d≠.ev p):∀{lo:Nat}{M:List PV}{ms:List c7},MK K lo M ms->MK (ub K d x) lo M ms
 |_,_,[]=>λq=>q
 |lo,M,m::r=>λz3=>by let(c,rest,e,l,k,q):=z3;show #[c,rest,e,l,nu k (λz=>h _ (by rw[<-z];show k)),q.up h]
theorem MK.snoc(A:Al K mu):∀{lo:Nat}{M:List PV}{ms:List c7},lo<mu.length->MK K lo M ms->MK (ub K mu.length (.ev (evs m.2.2))) lo (M++[PV.tup [.int m.1,.int m.2.1,.ptr mu.length]]) (ms++[m])
 |lo,M,[]=>λhl h=>by subst h;show#[mu.length,[],rfl,hl,uW,rfl]
 |lo,M,m'::r=>λhl z4=>by let(c,rest,e,l,k,q):=z4;have q':=A.ct c;rw[k]at q';have hc:=fU q';subst e;show#[c,_,rfl,l,nu k (),q.snoc A hc]
theorem MK.len:∀{lo:Nat}{M:List PV}{ms:List c7},MK K lo M ms->M.length=ms.length
 |_,_,[]=>λh=>by have h:=h;subst h;rfl
 |lo,M,m::r=>λz3=>by let(c,rest,e,l,k,q):=z3;subst e;rw[aa9,aa9,q.len]
theorem MK.mo(A:Al K mu):∀{lo:Nat}{M:List PV}{ms:List c7},MK K lo M ms->MO mu lo M ms
 |_,_,[]=>λh=>h
 |lo,M,m::r=>λz3=>by let(c,rest,e,l,k,q):=z3;have q':=A.ct c;rw[k]at q';show#[c,rest,e,l,q',q.mo A]
end
def JB(K:Kn)(mu:Mu)(I:Ix)(B:Bs):Prop:=(∃ps,K I.b=.pl 0 (.dk (cC B) ps)/\CB mu I.b (I.p+1) B ps)/\∀c,I.p<c->c<I.b->K c=.no
def JB.wr{K:Kn}(h:JB K mu I B)(hn:K d≠.no)(hb:d≠I.b):JB (ub K d x) (mu.set d p) I B:=by let((ps,e,hc),hk):=h;show#[#[ps,nu e (Ne.symm hb),hc.frame λc h1 h2=>agc λq=>hn (by rw[q];show hk c h1 h2)],λc h1 h2=>nu (hk c h1 h2) λq=>hn (by rw[<-q];show hk c h1 h2)]
def JB.new{K:Kn}(h:JB K mu I B)(hl:I.b<mu.length):JB (ub K mu.length x) (mu++[p]) I B:=by let((ps,e,hc),hk):=h;show#[#[ps,nu e (),hc.frame λc h1 h2=>mU ()],λc h1 h2=>nu ∅ ()]
def JB.lt{K:Kn}(A:Al K mu)(h:JB K mu I B):I.b<mu.length:=by let((ps,e,hc),hk):=h;show fU (A.at e)
def JC{K:Kn}(h:K d=.pl i p):K d≠.no:=λe=>by rw[h]at e;cases e
structure RQ(K:Kn)(mu:Mu)(I:Ix)(bu:Int)(wd:Str)(PO:PV)(B:Bs)(O:Ow)(ms:List c7)(D:List PV):Prop where
 al:Al K mu
 ls:I.r<I.p/\I.p<I.b/\I.b<I.o/\I.o<I.m/\I.m<I.d
 kr:K I.r=.pl 0 (bW "Running" (rF I bu wd))
 kp:K I.p=.pl 0 PO
 kb:JB K mu I B
 ko:K I.o=.pl 0 (.lst (Dk O))
 kd:K I.d=.pl 0 (.lst D)
 sk:QQ K I.r O
 mo:∃M,K I.m=.pl 0 (.lst M)/\MK K I.d M ms
def Fr(I:Ix)(mu mu':Mu):Prop:=mu.length<=mu'.length/\∀c,c<I.r->c<mu.length->mu'[c]?=mu[c]?
def Fr.refl:Fr I mu mu:=#[aa0 _,λ_ _ _=>rfl]
def Fr.trans(h:Fr I a b)(g:Fr I b c):Fr I a c:=#[agf h.1 g.1,λk q l=>(g.2 k q (age l h.1)).trans (h.2 k q l)]
def Fr.set(h:I.r<=c):Fr I mu (mu.set c x):=#[by rw[agd];show aa0 _,λk q l=>agc ()]
def Fr.push:Fr I mu (mu++[x]):=#[by simp,λk _ l=>mU l]
section
variable {K:Kn}{mu:Mu}{I:Ix}{bu bu':Int}{wd wd':Str}{PO:PV}{B B':Bs}{O O':Ow}{ms:List c7}{D D':List PV}{a:Nat}{ow ow':Bs}
def RQ.lt(q:RQ K mu I bu wd PO B O ms D)(h:K d=.pl i p):d<mu.length:=fU (q.al.at h)
def RQ.wR(q:RQ K mu I bu wd PO B O ms D):RQ (ub K I.r (.pl 0 (bW "Running" (rF I bu' wd')))) (mu.set I.r (!(bW "Running" (rF I bu' wd')))) I bu' wd' PO B O ms D:=by let(l1,l2,l3,l4,l5):=q.ls;let(M,m1,m2):=q.mo;show#[q.al.wr (q.lt q.kr),q.ls,uW,nu q.kp (),q.kb.wr (JC q.kr) (),nu q.ko (),nu q.kd (),q.sk.up (by rw[q.kr];show .inl rfl),M,nu m1 (),m2.up (by rw[q.kr];intro p h;cases h)]
def RQ.wB(q:RQ K mu I bu wd PO B O ms D)(nd:(B.map (·.1)).Nodup)(hx:jW B x):∃ks ps K',mu[I.b]?=!(!(.dk ks ps))/\ks.length=B.length/\RQ K' (mu.set I.b (!(eO (fZ (ks.zip ps) (.inr x) (.int v))))) I bu wd PO (setB B x (.n v)) O ms D:=by
 let(l1,l2,l3,l4,l5):=q.ls;let(M,m1,m2):=q.mo;let((ps,hb,hc),hk):=q.kb;let(i,hx):=hx;have hv:=hc.val.1 i hx;let(ps',g1,g2,g3):=hc.setN nd (λis q=>by rw[hx]at q;cases q);have ep:eO (fZ ((cC B).zip ps) (.inr x) (.int v))=.dk (cC (setB B x (.n v))) ps':=by unfold fZ;rw[hv];unfold eO;rw[g1,g2,Jv]
 show#[cC B,ps,ub K I.b (.pl 0 (.dk (cC (setB B x (.n v))) ps')),q.al.at hb,aaW ..,?_];rw[ep];show#[q.al.wr (q.lt hb),q.ls,nu q.kr (),nu q.kp (),#[#[ps',uW,g3.frame λc _ h=>agc ()],λc h1 h2=>nu ∅ ()],nu q.ko (),nu q.kd (),q.sk.up (by rw[hb];show .inl rfl),M,nu m1 (),m2.up ∅]
def RQ.wL(q:RQ K mu I bu wd PO B O ms D)(nd:(B.map (·.1)).Nodup)(hx:look B x=!(.l is)):∃ks ps c,mu[I.b]?=!(!(.dk ks ps))/\bQ (ks.zip ps) (.inr x)=!(.ptr c)/\I.p<c/\c<I.b/\mu[c]?=!(!(.lst (is.map .int)))/\∀js:List Int,RQ K (mu.set c (!(.lst (js.map .int)))) I bu wd PO (setB B x (.l js)) O ms D:=by
 let((ps,hb,hc),hk):=q.kb;let(c,g1,g2,g3,g4):=hc.val.2 is hx;show#[cC B,ps,c,q.al.at hb,g1,(),g3,g4,λjs=>?_];have k0:=hk c g2 g3;show#[#[λe=>?_,λe h=>q.al.no e ∅],q.ls,q.kr,q.kp,#[#[ps,by rw[Jv];show hb,hc.setL nd hx g1 (fU g4)],hk],q.ko,q.kd,q.sk,q.mo];by_cases ec:e=c
 . rw[ec,k0];trivial
 . have z:=q.al.ct e;have f:(mu.set c (!(.lst (js.map .int))))[e]?=mu[e]?:=agc λh=>ec h.symm;cases hke:K e with
   |no=>trivial
   |pl j y=>rw[hke]at z;show f.trans z
   |ev y=>rw[hke]at z;show f.trans z
def RQ.wD(q:RQ K mu I bu wd PO B O ms D):RQ (ub K I.d (.pl 0 (.lst D'))) (mu.set I.d (!(.lst D'))) I bu wd PO B O ms D':=by let(l1,l2,l3,l4,l5):=q.ls;let(M,m1,m2):=q.mo;show#[q.al.wr (q.lt q.kd),q.ls,nu q.kr (),nu q.kp (),q.kb.wr (JC q.kd) (),nu q.ko (),uW,q.sk.up (by rw[q.kd];show .inl rfl),M,nu m1 (),m2.up (by rw[q.kd];intro p h;cases h)]
def RQ.wO(q:RQ K mu I bu wd PO B O ms D)(hs:QQ K I.r O'):RQ (ub K I.o (.pl 0 (.lst (Dk O')))) (mu.set I.o (!(.lst (Dk O')))) I bu wd PO B O' ms D:=by let(l1,l2,l3,l4,l5):=q.ls;let(M,m1,m2):=q.mo;show#[q.al.wr (q.lt q.ko),q.ls,nu q.kr (),nu q.kp (),q.kb.wr (JC q.ko) (),uW,nu q.kd (),hs.up (by rw[q.ko];show .inl rfl),M,nu m1 (),m2.up (by rw[q.ko];intro p h;cases h)]
def RQ.wM(q:RQ K mu I bu wd PO B O ms D):∃M,mu[I.m]?=!(!(.lst M))/\M.length=ms.length/\∃K',RQ K' ((mu++[!(evs m.2.2)]).set I.m (!(.lst (M++[PV.tup [.int m.1,.int m.2.1,.ptr mu.length]])))) I bu wd PO B O (ms++[m]) D:=by
 let(l1,l2,l3,l4,l5):=q.ls;let(M,m1,m2):=q.mo;have n0:=q.al.no _ (aa0 _);have n1:∀{c:Nat}{i:Nat}{p:PV},K c=.pl i p->ub K mu.length (.ev (evs m.2.2)) c=.pl i p:=λh=>nk h n0 (λh=>by cases h);have a1:Al (ub K mu.length (.ev (evs m.2.2))) (mu++[!(evs m.2.2)]):=q.al.new List.getElem?_concat_length;have lm:=q.lt m1;show#[M,q.al.at m1,m2.len,_,a1.wr ∅,q.ls,nu (n1 q.kr) (),nu (n1 q.kp) (),(q.kb.new ()).wr ∅ (),nu (n1 q.ko) (),nu (n1 q.kd) (),?_,_,uW,?_]
 . show(q.sk.up (by rw[n0];trivial)).up (by rw[n1 m1];show .inl rfl)
 . show(m2.snoc q.al (q.lt q.kd)).up ∅
def RQ.wT(q:RQ K mu I bu wd PO B ((a,ow)::O) ms D):RQ (ub K a (.pl (O.length+1) (qz ow'))) (mu.set a (!(qz ow'))) I bu wd PO B ((a,ow')::O) ms D:=by let(M,m1,m2):=q.mo;let((ha,hr),S):=q.sk;have z:∀{c:Nat}{p:PV},K c=.pl 0 p->ub K a (.pl (O.length+1) (qz ow')) c=.pl 0 p:=λh=>nk h ha (λh=>by injection h with h;cases h);show#[q.al.wr (q.lt ha),q.ls,z q.kr,z q.kp,q.kb.wr (JC ha) (λe=>by  let((ps,hb,_),_):=q.kb;rw[<-e,show K a=_ from ha]at hb;injection hb with h;cases h),z q.ko,z q.kd,#[#[uW,hr],S.up (by show Kd.fr O.length (K a);rw[ha];show .inr ())],M,z m1,m2.up ∅]
def RQ.new(q:RQ K mu I bu wd PO B O ms D)(hx:Ct (mu++[!p]) mu.length x):RQ (ub K mu.length x) (mu++[!p]) I bu wd PO B O ms D:=by let(M,m1,m2):=q.mo;have n0:=q.al.no _ (aa0 _);have n1:∀{c:Nat}{i:Nat}{p:PV},K c=.pl i p->ub K mu.length x c=.pl i p:=λh=>nk h n0 (λh=>by cases h);show#[q.al.new hx,q.ls,n1 q.kr,n1 q.kp,q.kb.new (q.kb.lt q.al),n1 q.ko,n1 q.kd,q.sk.up (by rw[n0];trivial),M,n1 m1,m2.up ∅]
end
def mW:∀k,aU mu k (.str x)=.str x
 |0=>rfl
 |_+1=>rfl
theorem Ex.res:∀(e:Ex)(k:Nat),aU mu k e.pv=e.pv
 |_,0=>rfl
 |.num i,k+1=>by show PV.tup [aU mu k (.str "num"),aU mu k (.int i)]=_;rw[mW,Ks];rfl
 |.box x,k+1=>by show PV.tup [aU mu k (.str "box"),aU mu k (.str x)]=_;rw[mW,mW];rfl
 |.at_ x e,k+1=>by show PV.tup [aU mu k (.str "@"),aU mu k (.str x),aU mu k e.pv]=_;rw[mW,mW,Ex.res e k];rfl
 |.op s a b,k+1=>by show PV.tup [aU mu k (.str s),aU mu k a.pv,aU mu k b.pv]=_;rw[mW,Ex.res a k,Ex.res b k];rfl
def aeP(h:ps.length=ks.length):eO (ks.zip ps)=.dk ks ps:=by unfold eO;rw[show (λx:Key×PV=>x.1)=Prod.fst from rfl,show (λx:Key×PV=>x.2)=Prod.snd from rfl,List.map_fst_zip (),List.map_snd_zip ()]
def Yl{v:BV}:∀k,aU mu k v.pv=v.pv:=λk=>by
 cases v with
 |n i=>show Ks k
 |l is=>show QF k
structure BG(B:Bs):Prop where
 ok:yF B
 nd:(B.map (·.1)).Nodup
 l8:B.length<=100
def BG.n(h:BG B)(hv:In v):BG (setB B x (.n v)):=#[h.ok.set hv (λis e=>by cases e),by rw[X7];show h.nd,by unfold setB;rw[aaW];show h.l8]
def xU{p:PV}:gA (ws++[p]) (-1)=!p:=by
 unfold gA ue;have hl:(ws++[p]).length=ws.length+1:=by simp
 rw[hl,aid (),aic ()];show (ws++[p])[((-1:Int)+((ws.length+1:Nat):Int)).toNat]?=_;rw[show ((-1:Int)+((ws.length+1:Nat):Int)).toNat=ws.length from by lia,aby (aa0 _),ag3];rfl
def ir(hr:mu[I.r]?=!(!(bW "Running" (rF I bu wd))))(hc:(["plan","boxes","own","budget","word","moments","due"]:List Str).contains m=false)(h2:a #[zS (.ptr I.r)::vs,mu]=!(ls,#[zS (.ptr I.r)::vs,mu1]))(hps:ls.map Lc.pv=ps)(h3:g (.ptr I.r::ps) mu1=!(r,mu2)):bJ "Running" m g (aa 0) a #[zS (.ptr I.r)::vs,mu]=!(r,#[zS (.ptr I.r)::vs,mu2]):=
 qm rfl rfl hr hc h2 hps h3
noncomputable abbrev yJ(p:PV):PV:=.tup [p,.int 0]
def acJ(h:fo Y=!(o,Y1))(ho:o.pv=.ptr n)(hm:Y1.mu[n]?=!(!(.lst ws))):NK fo Y=!(.nx #[Y1.vs,Y1.mu.set n (!(.lst []))]):=by unfold NK;lia
abbrev SE(I:Ix)(mu:Mu):Ev:=#[[zS (.ptr I.r)],mu]
theorem TV:∀{C:Bs},x∈C.map (·.1)->∃v,look C x=!v
 |(y,v)::C,h=>by
  by_cases e:y=x
  . show#[v,by rw[pX,aic e]]
  . obtain h|h:=abw.mp h
    . show absurd h.symm e
    . let(w,hw):=TV h;show#[w,by rw[pX,aid e];show hw]
abbrev VN(B:Bs):Prop:=∀q∈B,∃i,q.2=.n i
def aeQ(h:VN B):VN (setB B x (.n v)):=λq hq=>by
 let(p,hp,e):=abz.mp hq;by_cases c:p.1=x
 . rw[aic c]at e;show#[v,by rw[<-e]]
 . rw[aid c]at e;rw[<-e];show h p hp
def agL(h:VN B)(hx:x∈B.map (·.1)):jW B x:=by let(v,hv):=TV hx;let(i,hi):=h _ (rQ hv);show#[i,by rw[hv,show v=.n i from hi]]
theorem Ym:∀{B:Bs},j0 (.inr x) (.int v) (B.map λq=>(.inr q.1,q.2.pv))=(setB B x (.n v)).map λq=>(.inr q.1,q.2.pv)
 |[]=>rfl
 |(y,w)::B=>by
  have ih:=Ym (x:=x) (v:=v) (B:=B);have er:j0 (.inr x) (.int v) (((y,w)::B).map λq=>(.inr q.1,q.2.pv))=(if (Sum.inr y:Key)=.inr x then (Sum.inr y,PV.int v) else (Sum.inr y,w.pv))::j0 (.inr x) (.int v) (B.map λq=>(.inr q.1,q.2.pv)):=rfl;rw[er,ih];show _=((λq:Str×BV=>((Sum.inr q.1:Key),q.2.pv)) (if y=x then (y,BV.n v) else (y,w)))::_;by_cases e:y=x
  . rw[aic e,aic (congrArg Sum.inr e)];rfl
  . rw[aid e,aid (λh=>e ∅)];rfl
def afM(h:jW B x):eO (fZ ((cC B).zip ((λB:Bs=>B.map λq=>q.2.pv) B)) (.inr x) (.int v))=.dk (cC (setB B x (.n v))) ((λB:Bs=>B.map λq=>q.2.pv) (setB B x (.n v))):=by let(i,h):=h;rw[Cr];unfold fZ;rw[Ek,h];show eO (j0 _ _ _)=_;rw[Ym];unfold eO;rw[agb,agb];rfl
section
variable {B ow:Bs}{x:Str}{v:BV}
theorem lY:∀{B:Bs},look (B++ow) x=(look B x).or (look ow x)
 |[]=>rfl
 |(y,w)::B=>by
  show (if y=x then !w else look (B++ow) x)=(if y=x then !w else look B x).or (look ow x);split
  . rfl
  . show lY
theorem wG:∀{B:Bs},x∉B.map (·.1)->look B x=none
 |[]=>λ_=>rfl
 |(y,w)::B=>λh=>by show (if y=x then !w else look B x)=none;rw[aid λe=>h ∅,wG λq=>h (abl _ q)]
def Fq(h:x∉B.map (·.1)):setB B x v=B:=by have e:setB B x v=B.map id:=agP λq hq=>aid λe=>h (abz.mpr #[q,hq,e]);rw[e,List.map_id]
def aaw:setB (B++ow) x v=setB B x v++setB ow x v:=ady
abbrev gB(B:Bs):PD:=B.map λq=>((.inr q.1:Key),q.2.pv)
def acK(h:x∉B.map (·.1)):fZ (gB B) (.inr x) v.pv=gB (B++[(x,v)]):=by unfold fZ;rw[Ek,wG h];lia
theorem Yn:∀{l:PD},k∉l.map (·.1)->bQ l k=none
 |[]=>λ_=>rfl
 |(y,w)::l=>λh=>by show (if y=k then !w else bQ l k)=none;rw[aid λe=>h ∅,Yn λq=>h (abl _ q)]
theorem Mq:∀(ow:Bs)(l:PD),(∀q∈ow,(.inr q.1:Key)∉l.map (·.1))->(ow.map (·.1)).Nodup->kI (gB ow) l=l++gB ow
 |[]=>λl _ _=>(abv _).symm
 |(x,v)::ow=>λl h nd=>by
  let(n1,n2):=agT.mp nd;have e1:fZ l (.inr x) v.pv=l++[(.inr x,v.pv)]:=by unfold fZ;rw[Yn (h _ aaV)]
  show kI (gB ow) (fZ l (.inr x) v.pv)=_;rw[e1,Mq ow _ (λq hq=>?_) n2,aba]
  . rfl
  . rw[ady,adY];rintro (g|g)
    . lia
    . lia
structure EO(B ow:Bs):Prop where
 bg:BG (B++ow)
 an:VN ow
def EO.set(h:EO B ow)(hv:In i):EO (setB B x (.n i)) (setB ow x (.n i)):=#[by rw[<-aaw];show h.bg.n hv,aeQ h.an]
def aeR:eO (gB B)=qz B:=by unfold eO gB;rw[agb,agb];rfl
end
abbrev GQ(mu:Mu)(I:Ix)(bu:Int)(wd:Str)(PO:PV)(B:Bs)(O:Ow)(ms:List c7)(D:List PV):Prop:=∃K,RQ K mu I bu wd PO B O ms D
abbrev due(k:Nat)(t:Int):PV:=.tup [.int (k:Nat),.int t]
section
variable {K:Kn}{mu:Mu}{I:Ix}{bu:Int}{wd:Str}{T:List PV}{L H:PV}{B:Bs}{O:Ow}{ms:List c7}{D:List PV}{a:Nat}{ow:Bs}
def RQ.hr{PO:PV}(q:RQ K mu I bu wd PO B O ms D):mu[I.r]?=!(!(bW "Running" (rF I bu wd))):=q.al.at q.kr
def noted{PO:PV}(q:RQ K mu I bu wd PO B O ms D)(hl:ms.length<90000):∃mu',dB [.ptr I.r,.int m.1,.int m.2.1,.ptr mu.length] (mu++[!(evs m.2.2)])=!(.sh .non,mu')/\GQ mu' I bu wd PO B O (ms++[m]) D/\Fr I mu mu':=by let(l1,l2,l3,l4,l5):=q.ls;let(M,h1,h2,K',q'):=q.wM;have hm:(mu++[!(evs m.2.2)])[I.m]?=!(!(.lst M)):=(mU (fU h1)).trans h1;show#[_,fP (lE (eV rfl rfl ((mU (q.lt q.kr)).trans q.hr) rfl) rfl hm rfl rfl hm () rfl),#[K',q'],Fr.push.trans (Fr.set ())]
def QS{PO:PV}(q:RQ K mu I bu wd PO B ((a,ow)::O) ms D):aM vig (gJ (akg 1)) #[zS (.ptr I.r)::vs,mu]=!(.sh (.ptr a),#[zS (.ptr I.r)::vs,mu]):=zY (eV rfl rfl q.hr rfl) rfl rfl rfl (q.al.at q.ko) xU
def sy{PO:PV}(q:RQ K mu I bu wd PO B ((a,ow)::O) ms D)(h:EO B ow)(he:e.ok (B++ow))(hd:e.dp<=40):cB [.ptr I.r,e.pv] mu=!(.sh (.int (ev (B++ow) e)),mu):=by
 let C:=B++ow;let((ps,hb,hc),hk):=q.kb;have hlen:ps.length=(cC B).length:=by rw[hc.len,aaW]
 have ln:B.length+ow.length<=100:=by have:=h.bg.l8;rwa [aaU]at this
 let E:=λl2=>(#[[zS (.ptr I.r),zS e.pv,l2],mu]:Ev);let W:PV:=.dk (cC C) (ps++ow.map λq=>q.2.pv);let Z:Option Lc:=!(.own W);let Y_:Option Lc:=!(.own (.dk (cC B) ps));have nd:=h.bg.nd;rw[ady]at nd;have dj:=(aha.mp nd).2.2;have ez:eO (kI (gB ow) ((cC B).zip ps))=W:=by
  have ek:((cC B).zip ps).map (·.1)=cC B:=List.map_fst_zip ();rw[Mq ow _ (λq hq g=>?_) (aha.mp nd).2.1]
  . unfold eO;rw[ady,ady,ek,show ((cC B).zip ps).map (λx=>x.2)=ps from List.map_snd_zip ()];show PV.dk (cC B++(gB ow).map (·.1)) (ps++(gB ow).map (·.2))=PV.dk (cC (B++ow)) _;rw[show (gB ow).map (·.1)=cC ow from by unfold gB;rw[agb];rfl,show (gB ow).map (·.2)=ow.map λq=>q.2.pv from by unfold gB;rw[agb];rfl,show cC (B++ow)=cC B++cC ow from ady]
  . rw[ek]at g;let(q',h',e'):=abz.mp g;injection e' with e';show dj q'.1 ∅ q.1 ∅ e'
 have s2:Fj 2 vfl (E Y_)=!(.nx (E Z)):=by have u:=acF (i:=2) (Y1:=E Y_) rfl (QS q) rfl rfl (q.al.at q.sk.1.1) ∅;rw[Cr,ez]at u;show u
 have s3:sZ vgc (E Z)=!(.sh (.int (ev C e)),E Z):=by
  show Hd (aY (aC rfl (aC rfl rfl)) ?_ rfl rfl (value_eq h.bg.ok he hd)) rfl;show [aU mu 40 e.pv,.dk (cC C) ((ps++ow.map λq=>q.2.pv).map (aU mu 39))]=[e.pv,.dk (cC C) ((B++ow).map λq=>q.2.pv)];rw[Ex.res,ady,ady,hc.res,show (ow.map λq=>q.2.pv).map (aU mu 39)=ow.map λq=>q.2.pv from by rw[agb];show agP λq _=>Yl 39]
 show bh (aB (bL (aap (eV rfl rfl q.hr rfl) rfl (q.al.at hb)) rfl rfl) (aB s2 (bZ s3)))
def TX{PO:PV}(q:RQ K mu I bu wd PO B ((a,ow)::O) ms D)(h:EO B ow)(hx:jW (B++ow) x):∃mu',gG [.ptr I.r,.str x,.int v] mu=!(.sh (gO.pv (x,0,v)),mu')/\GQ mu' I bu wd PO (setB B x (.n v)) ((a,setB ow x (.n v))::O) ms D/\Fr I mu mu'/\mu'.length=mu.length:=by
 let(l1,l2,l3,l4,l5):=q.ls;have ln:B.length+ow.length<=100:=by have:=h.bg.l8;rwa [aaU]at this
 have nd:=h.bg.nd;rw[ady]at nd;have dj:=(aha.mp nd).2.2;let E:=λl3 mu=>(#[[zS (.ptr I.r),zT x,zI v,l3],mu]:Ev);have vo:bQ ((cC ow).zip (ow.map λq=>q.2.pv)) (.inr x)=(look ow x).map BV.pv:=by rw[Cr,Ek]
 have t:tT veb aQ (E none mu)=!((look ow x).isSome,E none mu):=by show dY (l:=.sh (.bl (look ow x).isSome)) ((aeG rfl (QS q) rfl rfl (q.al.at q.sk.1.1)).trans ?_) rfl rfl;rw[vo];cases look ow x<;>rfl
 by_cases ho:x∈ow.map (·.1)
 . have hb:=λhb=>dj x hb x ho rfl;have hN:=agL h.an ho;have q':=q.wT (ow':=setB ow x (.n v));show#[_,bh (aB (bL ((QB (t.trans (by rw[hN.choose_spec];rfl))).trans (QS q)) rfl rfl) (aB (Tj rfl rfl rfl rfl rfl rfl (q.al.at q.sk.1.1) ∅ ?_) rfl)),#[_,by rw[Fq hb];show q'],Fr.set (ahx q.sk.1.2),agd];show mu.set a (!(eO (fZ ((cC ow).zip (ow.map λq=>q.2.pv)) (.inr x) (.int v))))=_;rw[afM hN]
 . have hN:jW B x:=by let(i,hx):=hx;rw[lY,wG ho]at hx;show#[i,by rw[<-hx];cases look B x<;>rfl]
   let(ks,ps,K',hb,hl,q'):=q.wB (aha.mp nd).1 hN;show#[_,bh (aB (bL ((QC (t.trans (by rw[wG ho];rfl))).trans (eV rfl rfl q.hr rfl)) rfl rfl) (aB (Tj (Y3:=E (zS (.ptr I.b)) mu) rfl rfl rfl rfl rfl rfl hb () rfl) rfl)),#[_,by rw[Fq ho];show q'],Fr.set (),agd]
def JD{PO:PV}(q:RQ K mu I bu wd PO B O ms D)(hl:D.length+ps.length<=90000):j9 [.ptr I.r,.lst ps] mu=!(.sh .non,mu.set I.d (!(.lst (D++ps.reverse.map yJ)))):=by
 have ec:=u9 (b:=aF 0) (te:=bz vif) (λY=>∃o,Y=#[[o],mu]) (λY z66=>by let(o,e):=z66;rw[e]) yJ (xs:=ps.reverse) #[none,rfl] ∅ (by
  rintro p hp Y ⟨o,rfl⟩;show#[#[[zS p],mu],rfl,.sh (yJ p),#[[zS p],mu],rfl,rfl,_,rfl]) (by
  rintro p hp Y Y1 ⟨o,rfl⟩ e;cases e;show#[_,rfl])
 show fP (acE (eV rfl rfl q.hr rfl) rfl (q.al.at q.kd) (iU rfl ec) rfl (q.al.at q.kd) ∅ rfl)
def lb(ns:List Nat):List PV:=match ns.getLast? with
 |none=>[]
 |some m=>[due m 3]++(cY ns).reverse.map yJ
def JF(q:RQ K mu I bu wd (fC T L H) B O ms D)(hb:Aw (fC T L H) w ns)(hl:D.length+ns.length+1<=90000):∃mu',jz [.ptr I.r,.str w] mu=!(.sh .non,mu')/\GQ mu' I bu wd (fC T L H) B O ms (D++lb ns)/\Fr I mu mu':=by
 let(l1,l2,l3,l4,l5):=q.ls;let E:=λl2 mu=>(#[[zS (.ptr I.r),zT w,l2],mu]:Ev);let N':Option Lc:=zL (cY ns);have s2:aO 2 vdk (E none mu)=!(.nx (E (zO (cY ns)) mu)):=bL (qm (eV rfl rfl q.hr rfl) rfl (q.al.at q.kp) (show (["told","lists","heads"]:List Str).contains "body"=false from by decide +kernel) rfl rfl (hb mu I.p (q.al.at q.kp))) rfl rfl;have t3:tT (aa 2) jJ (E (zO (cY ns)) mu)=!(not (cY ns).isEmpty,E N' mu):=rfl;unfold lb;obtain e0|⟨ms',m,e0⟩:=List.eq_nil_or_concat ns
 . subst e0;have el:=JD (ps:=[]) q ();have q1:RQ _ (mu.set I.d (!(.lst (D++[])))) I bu wd (fC T L H) B O ms (D++[]):=q.wD;show#[mu.set I.d (!(.lst (D++[]))),fP (aB s2 (aB (yY t3 rfl) (fW (ir q.hr () rfl rfl el)))),(#[_,q1]),Fr.set ()]
 . have e0:ns=ms'++[m]:=by rw[e0,List.concat_eq_append]
   have en:cY ns=cY ms'++[.int (m:Nat)]:=by rw[e0];show ady
   have q1:=q.wD (D':=D++[due m 3]);have el:=JD (ps:=cY ns) q1 ∅;have gl:ns.getLast?=!m:=by rw[e0,List.getLast?_concat]
   rw[gl];show#[_,fP (aB s2 (aB (yT (t3.trans (by rw[en];cases cY ms'<;>rfl)) (lE (Y2:=E N' mu) (eV rfl rfl q.hr rfl) rfl (q.al.at q.kd) (fQ (ls:=[.sh (.int (m:Nat)),.sh (.int 3)]) (aC (oK rfl rfl rfl rfl (λn h=>by cases h) (by show (gA (cY ns) (-1)).map _=_;rw[en,xU];rfl)) rfl) rfl rfl) rfl (q.al.at q.kd) () rfl)) (fW (ir q1.hr () rfl rfl el)))),?_,(Fr.set ()).trans (Fr.set ())];rw[<-aba];show#[_,q1.wD]
def TY{PO:PV}(q:RQ K mu I bu wd PO B O ms D):tT vfd aQ (SE I mu)=!(decide (bu<=0),SE I mu):=
 dY (cN (eV rfl rfl q.hr rfl) rfl rfl rfl rfl) rfl rfl
def QT{PO:PV}(q:RQ K mu I bu wd PO B O ms D)(h:bu<=0):∃mu',gW [.ptr I.r] mu=!(.sh (.bl false),mu')/\GQ mu' I bu "spent" PO B O ms []/\Fr I mu mu':=by let(l1,l2,l3,l4,l5):=q.ls;have q1:=q.wR (bu':=bu) (wd':="spent");have w2:=acJ (fo:=cj "Running" "due" (aa 0)) (Y:=SE I (mu.set I.r (!(bW "Running" (rF I bu "spent"))))) (eV rfl rfl q1.hr rfl) rfl (q1.al.at q1.kd);show#[_,bh (gj (yT ((TY q).trans (by rw[aig h])) (aB (uH (C:="Running") (f:="word") (Y2:=SE I mu) rfl rfl rfl rfl q.hr (show (7:Nat)<1000 from by decide)) (aB w2 rfl)))),#[_,q1.wD],(Fr.set ()).trans (Fr.set ())]
def Mr{PO:PV}(q:RQ K mu I bu wd PO B O ms D)(h:0<bu):∃mu',gW [.ptr I.r] mu=!(.sh (.bl true),mu')/\GQ mu' I (bu-1) wd PO B O ms D/\Fr I mu mu':=by have q1:=q.wR (bu':=bu-1) (wd':=wd);show#[_,bh (aB (yY ((TY q).trans (by rw[aif ()])) rfl) (aB (uH (C:="Running") (f:="budget") (l:=rF I bu wd) (cN (eV rfl rfl q.hr rfl) rfl rfl rfl rfl) rfl rfl rfl q.hr (show (7:Nat)<1000 from by decide)) rfl)),#[_,q1],Fr.set (aa0 _)]
end
theorem CB.snocN:∀{lo:Nat}{A:Bs}{ps:List PV},CB mu hi lo A ps->CB mu hi lo (A++[(x,.n i)]) (ps++[.int i])
 |lo,[],ps=>λh=>by have h:ps=[]:=h;subst h;show#[[],rfl,rfl]
 |lo,(_,.n j)::A,ps=>λz3=>by let(r,e,h):=z3;subst e;show#[_,rfl,h.snocN]
 |lo,(_,.l js)::A,ps=>λz3=>by let(c,r,e,h1,h2,h3,h):=z3;subst e;show#[c,_,rfl,h1,h2,h3,h.snocN]
theorem CB.snocL:∀{lo:Nat}{A:Bs}{ps:List PV},lo<=mu.length->CB mu mu.length lo A ps->CB (mu++[!(.lst (is.map .int))]) (mu.length+1) lo (A++[(x,.l is)]) (ps++[.ptr mu.length])
 |lo,[],ps=>λhl h=>by  subst h;show#[mu.length,[],rfl,hl,ahf _,by rw[aby (),ag3];rfl,rfl]
 |lo,(_,.n j)::A,ps=>λhl z4=>by let(r,e,h):=z4;subst e;show#[_,rfl,h.snocL hl]
 |lo,(_,.l js)::A,ps=>λhl z4=>by let(c,r,e,h1,h2,h3,h):=z4;subst e;show#[c,_,rfl,h1,(),by rw[mU h2];show h3,h.snocL ()]
theorem CB.hi{hi hi':Nat}:∀{lo:Nat}{A:Bs}{ps:List PV},hi<=hi'->CB mu hi lo A ps->CB mu hi' lo A ps
 |lo,[],ps=>λ_ h=>h
 |lo,(_,.n j)::A,ps=>λhl z4=>by let(r,e,h):=z4;show #[r,e,h.hi hl]
 |lo,(_,.l js)::A,ps=>λhl z4=>by let(c,r,e,h1,h2,h3,h):=z4;show #[c,r,e,h1,(),h3,h.hi hl]
theorem Ms:∀{ks:List Key}{ps:List PV},k∉ks->bQ (ks.zip ps) k=none
 |[],_=>λ_=>rfl
 |_::_,[]=>λ_=>rfl
 |y::ks,p::ps=>λh=>by show (if y=k then !p else bQ (ks.zip ps) k)=none;rw[aid (λe=>h ∅),Ms λq=>h (abl _ q)]
def Hv(h1:fv Y=!(x,Y1))(hx:x.pv=p)(h0:Y1.vs[i]?=!(!(.own (.dk ks0 ps0))))(h2:fi Y1=!(y,Y2))(hy:uy y.pv=!k)(h3:Y2.vs[i]?=!(!(.own (.dk ks ps))))(hl:ks.length<100000)(e:Y2.set i (!(.own (eO (fZ (ks.zip ps) k p))))=Y'):qd i fi fv Y=!(.nx Y'):=by unfold qd;rw[h1,aaS,h0];dsimp only;rw[h2,aaS,hy,h3];dsimp only;rw[aic hl,hx,e]
def T3(hl:ps.length=ks.length)(hk:k∉ks):eO (fZ (ks.zip ps) k p)=.dk (ks++[k]) (ps++[p]):=by unfold fZ;rw[Ms hk];show eO (ks.zip ps++[(k,p)])=_;rw[show ks.zip ps++[(k,p)]=(ks++[k]).zip (ps++[p]) from by rw[ahn hl.symm];rfl];show aeP (by rw[aaU,aaU,hl];rfl)
abbrev dcl(D:List (Str×Int)):List PV:=D.map λq=>.tup [.str q.1,.int q.2,.non]
abbrev dg(B:Bs):List PV:=B.map λq=>q.2.pv
abbrev fiB:SF:=qd 2 (aM (aa 3) (akg 0)) vda
abbrev FE(P V:PV)(l2 l3 l4:Option Lc)(mu:Mu):Ev:=#[[zS P,zS V,l2,l3,l4],mu]
def aax(h:x∉A.map (·.1)):(.inr x:Key)∉cC A:=λq=>by let(z,hz,e):=abz.mp q;show h (abz.mpr #[z,hz,Sum.inr.inj e])
def acL{P V:PV}{lo:Nat}(hx:x∉A.map (·.1))(hA:A.length<=100)(hlo:lo<=mu.length)(hc:CB mu mu.length lo A ps):∃ps' t,fiB (FE P V (!(.own (.dk (cC A) ps))) (zS (.tup [.str x,.int s,.non])) (zS v.pv) mu)=!(.nx (FE P V (!(.own (.dk (cC (A++[(x,v)])) ps'))) (zS (.tup [.str x,.int s,.non])) (zS v.pv) (mu++t)))/\CB (mu++t) (mu++t).length lo (A++[(x,v)]) ps':=by
 have hl:ps.length=(cC A).length:=by rw[hc.len,aaW]
 have hk:=aax hx;have ek:cC (A++[(x,v)])=cC A++[.inr x]:=ady;cases v with
 |n i=>
  show#[ps++[.int i],[],?_,?_]
  . rw[abv,ek,<-T3 hl hk];show Hv rfl rfl rfl rfl rfl rfl ∅ rfl
  . rw[abv];show hc.snocN
 |l is=>
  show#[ps++[.ptr mu.length],[!(.lst (is.map .int))],?_,?_]
  . rw[ek,<-T3 hl hk];show Hv rfl rfl rfl rfl rfl rfl ∅ rfl
  . rw[aaU];show hc.snocL hlo
theorem T4{P V:PV}{lo:Nat}:∀(B:Bs)(D:List (Str×Int))(A:Bs)(ps:List PV)(l3 l4:Option Lc)(mu:Mu),D.map (·.1)=B.map (·.1)->((A++B).map (·.1)).Nodup->(A++B).length<=100->lo<=mu.length->CB mu mu.length lo A ps->
 ∃ps' t p3 p4,iw vhs fiB (ni (dcl D) (dg B)) (FE P V (!(.own (.dk (cC A) ps))) l3 l4 mu)=!(.nx (FE P V (!(.own (.dk (cC (A++B)) ps'))) p3 p4 (mu++t)))/\CB (mu++t) (mu++t).length lo (A++B) ps'
 |[]=>λD A ps l3 l4 mu hD _ _ _ hc=>by
  obtain rfl:D=[]:=by cases D with|nil=>rfl|cons q D=>(simp at hD)
  show#[ps,[],l3,l4,?_,by rw[abv,abv];show hc];rw[abv,abv];rfl
 |(x,w)::B=>λD A ps l3 l4 mu hD nd h1 hlo hc=>by
  obtain⟨s,D',rfl,hD'⟩:∃s D',D=(x,s)::D'/\D'.map (·.1)=B.map (·.1):=by
   cases D with
   |nil=>lia
   |cons q D=>
    lia
  have e1:A++(x,w)::B=(A++[(x,w)])++B:=by rw[aba];rfl
  have hx:=λq=>by rw[ady]at nd;show(aha.mp nd).2.2 x q x ∅ rfl
  rw[e1]at nd h1 ⊢;let(ps1,t1,es,hc1):=acL hx ∅ hlo hc;let(ps',t,p3,p4,el,hc'):=T4 B D' (A++[(x,w)]) ps1 (zS (.tup [.str x,.int s,.non])) (zS w.pv) (mu++t1) hD' nd h1 ∅ hc1;rw[aba mu t1 t]at el hc';show#[ps',t1++t,p3,p4,d9 rfl es el,hc']
def Yo(hD:D.map (·.1)=B.map (·.1))(nd:(B.map (·.1)).Nodup)(h1:B.length<=100):∃ps t,xG [.tup [.lst (dcl D),gr,R3,R4],.lst (dg B)] mu=!(.own (.dk (cC B) ps),mu++t)/\CB (mu++t) (mu++t).length mu.length B ps:=by let P:PV:=.tup [.lst (dcl D),gr,R3,R4];let(ps,t,p3,p4,el,hc):=T4 B D [] [] none none mu hD nd h1 (aa0 _) rfl;show#[ps,t,bh (Y:=FE P (.lst (dg B)) none p3 p4 (mu++t)) (aB rfl (aB () rfl)),hc]
def Gv(bu:Int)(wd:Str)(D:List PV)(k:Nat)(ns:List PV)(v:Int):Int×Str×List PV:=if v=0 then (bu,wd,D) else if bu<=0 then (bu,"spent",[]) else (bu-1,wd,D++[.tup [.int (k:Nat),.int 0]]++ns.reverse.map yJ)
def qH(B:Bs)(l:Str)(p v:Int):Bs×List gO:=if p<(lstAt B l).length then (setB B l (.l ((lstAt B l).set p.toNat v)),[(l,p,v)]) else (B,[])
def acM(h:d Y=!(zs,Y1))(hk:keysOf zs=!l)(hl:l.length<=15)(e:eO (kI l [])=p):Jc d Y=!(.own p,Y1):=by unfold Jc;rw[h,aaS,hk,aaS,aic hl,e]
def Mt(v:Int):Int:=if v=0 then 1 else 0
abbrev afN(x:Str)(e:Ex):PV:=.tup [.str "set",.str x,e.pv]
def tV(x f:Str)(es:List Ex):PV:=.tup [.str "call",.str x,.str f,.lst (es.map Ex.pv)]
section
variable {K:Kn}{mu:Mu}{I:Ix}{bu:Int}{wd:Str}{T:List PV}{L H:PV}{B:Bs}{O:Ow}{ms:List c7}{D:List PV}{a:Nat}{ow:Bs}
def qp(q:RQ K mu I bu wd (fC T L H) B O ms D)(hk:oV (fC T L H) k rv)(hl:ms.length<90000):∃mu1,GQ mu1 I bu wd (fC T L H) B O (ms++[((k:Int),0,[])]) D/\Fr I mu mu1/\∀(f:SF)(R:Option Fl),f #[[zS (.ptr I.r),zI (k:Nat),zS rv],mu1]=R->aG vcy (aG vcj f) #[[zS (.ptr I.r),zI (k:Nat),none],mu]=R:=by let(mu1,e1,g1,f1):=noted (m:=((k:Int),0,[])) q hl;show#[mu1,g1,f1,λf R h=>aB (bL (qm (eV rfl rfl q.hr rfl) rfl (q.al.at q.kp) (show (["told","lists","heads"]:List Str).contains "row"=false from by decide +kernel) rfl rfl (hk mu I.p (q.al.at q.kp))) rfl rfl) (aB (fW (ir q.hr () rfl rfl e1)) h)]
abbrev VP(x:Str)(e:Ex)(rv:PV):Prop:=rv=afN x e\/∃w:Str,rv=.tup [.str "out",.str x,e.pv,.str w]
def Yp(q:RQ K mu I bu wd (fC T L H) B ((a,ow)::O) ms D)(hE:EO B ow)(hx:jW (B++ow) x)(he:e.ok (B++ow))(de:e.dp<=40)(hrv:VP x e rv)(hk:oV (fC T L H) k rv)(hl:ms.length+1<90000):∃mu',fG [.ptr I.r,.int (k:Nat)] mu=!(.sh .non,mu')/\GQ mu' I bu wd (fC T L H) (setB B x (.n (ev (B++ow) e))) ((a,setB ow x (.n (ev (B++ow) e)))::O) (ms++[((k:Int),0,[]),((k:Int),1,[(x,0,ev (B++ow) e)])]) D/\Fr I mu mu':=by
 let(mu1,(K1,q1),f1,go):=qp q hk ();obtain⟨v,hv⟩:∃v,ev (B++ow) e=v:=#[_,rfl];have ve:=sy q1 hE he de;rw[hv]at ve ⊢;let E:=λmu=>(#[[zS (.ptr I.r),zI (k:Nat),zS rv],mu]:Ev);have ll:(ms++[((k:Int),(0:Int),([]:List gO))]).length<90000:=by rw[aaU];show ms.length+1<90000;show hl
 let(mu2,e2,(K2,q2),f2,len2):=TX q1 hE hx;let(mu',e',g',f'):=noted (m:=((k:Int),1,[(x,0,v)])) q2 ll;obtain⟨t,⟨n1,n2,n3,n4⟩,r0,r1,r2⟩:∃t:Str,((t== "if")=false/\(t== "while")=false/\(t== "call")=false/\(t== "put")=false)/\aM (aa 2) (akg 0) (E mu1)=!(.sh (.str t),E mu1)/\aM (aa 2) (akg 1) (E mu1)=!(.sh (.str x),E mu1)/\aM (aa 2) (akg 2) (E mu1)=!(.sh e.pv,E mu1):=by
  obtain rfl|⟨w,rfl⟩:=hrv
  . show#["set",by decide +kernel,rfl,rfl,rfl]
  . show#["out",by decide +kernel,rfl,rfl,rfl]
 show#[mu',fP (Y:=E mu') (go _ _ (yY (oU r0 n1) (yY (oU r0 n2) (yY (oU r0 n3) (yY (oU r0 n4) (fW (ir q1.hr () (aC rfl (aC rfl (aC (jN (Y1:=E mu2) (qM (aC (ir q1.hr () (aC r1 (aC (ir q1.hr () (aC r2 rfl) rfl ve) rfl)) rfl e2) rfl) rfl rfl)) rfl))) rfl e'))))))),?_,(f1.trans f2).trans f'];lia
def aay(q:RQ K mu I bu wd (fC T L H) B ((a,ow)::O) ms D)(hE:EO B ow)(he:e.ok (B++ow))(de:e.dp<=40)(hk:oV (fC T L H) k (.tup [.str "if",e.pv,b1,b2]))(hb:KD (fC T L H) k (Mt (ev (B++ow) e)) ns)(hl:ms.length<90000)(hD:D.length+ns.length<=90000):∃mu',fG [.ptr I.r,.int (k:Nat)] mu=!(.sh .non,mu')/\GQ mu' I bu wd (fC T L H) B ((a,ow)::O) (ms++[((k:Int),0,[])]) (D++ns.reverse.map yJ)/\Fr I mu mu':=by
 let(mu1,(K1,q1),f1,go):=qp q hk hl;let(l1,l2,l3,l4,l5):=q1.ls;have ve:=sy q1 hE he de;generalize ev (B++ow) e=v at ve hb;let E:=λmu=>(#[[zS (.ptr I.r),zI (k:Nat),!(.sh (.tup [.str "if",e.pv,b1,b2]))],mu]:Ev);have t1:∀c:Bool,(v==0)=c->tT vcn aQ (E mu1)=!(c,E mu1):=λc hc=>yI (ir q1.hr () rfl rfl ve) hc;have ch:ug vcd (akg 1) (akg 0) (E mu1)=!(.sh (.int (Mt v)),E mu1):=by
  unfold Mt;by_cases h:v=0
  . rw[aic h];show(QB (t1 true ∅)).trans rfl
  . rw[aid h];show(QC (t1 false (aih.mpr h))).trans rfl
 have el:=JD q1 hD;show#[_,fP (go _ _ (yT (oU rfl ()) (fW (ir q1.hr () (aC (qm (eV rfl rfl q1.hr rfl) rfl (q1.al.at q1.kp) (show (["told","lists","heads"]:List Str).contains "block"=false from by decide +kernel) (aC rfl (aC ch rfl)) rfl (hb mu1 I.p (q1.al.at q1.kp))) rfl) rfl el)))),#[_,q1.wD],f1.trans (Fr.set ())]
def aaz(q:RQ K mu I bu wd (fC T L H) B ((a,ow)::O) ms D)(hE:EO B ow)(he:e.ok (B++ow))(de:e.dp<=40)(hk:oV (fC T L H) k (.tup [.str "while",e.pv,bl]))(hb:KD (fC T L H) k 0 ns)(hl:ms.length<90000)(hD:D.length+ns.length+1<=90000):∃mu',fG [.ptr I.r,.int (k:Nat)] mu=!(.sh .non,mu')/\GQ mu' I (Gv bu wd D k ns (ev (B++ow) e)).1 (Gv bu wd D k ns (ev (B++ow) e)).2.1 (fC T L H) B ((a,ow)::O) (ms++[((k:Int),0,[])]) (Gv bu wd D k ns (ev (B++ow) e)).2.2/\Fr I mu mu':=by
 let(mu1,(K1,q1),f1,go):=qp q hk hl;have ve:=sy q1 hE he de;generalize ev (B++ow) e=v at ve;let(l1,l2,l3,l4,l5):=q1.ls;let E:=λmu=>(#[[zS (.ptr I.r),zI (k:Nat),!(.sh (.tup [.str "while",e.pv,bl]))],mu]:Ev);have r0:aM (aa 2) (akg 0) (E mu1)=!(.sh (.str "while"),E mu1):=rfl;have t1:∀c:Bool,(not (v==0))=c->tT vcq aQ (E mu1)=!(c,E mu1):=λc hc=>dY (cN (ir q1.hr () rfl rfl ve) rfl rfl rfl (by show some (Lc.sh (.bl (not (v==0))))=_;rw[hc])) rfl rfl;have t2:∀(b:Bool)(mu2:Mu),gW [.ptr I.r] mu1=!(.sh (.bl b),mu2)->tT vgy jJ (E mu1)=!(b,E mu2):=λb mu2 h=>dY (ir q1.hr () rfl rfl h) rfl rfl;have fin:∀mu2,tL [.ptr I.r,.int (k:Nat),.tup [.str "while",e.pv,bl]] mu1=!(.sh .non,mu2)->fG [.ptr I.r,.int (k:Nat)] mu=!(.sh .non,mu2):=λmu2 e2=>fP (Y:=E mu2) (go _ _ (yY () (yT () (fW (ir q1.hr () rfl rfl e2)))));unfold Gv;by_cases h:v=0
 . rw[aic h];show#[mu1,fin _ (fP (Y:=E mu1) (yY (nY (t1 false ∅)) rfl)),#[_,q1],f1]
 . rw[aid h];have hc:(not (v==0))=true:=by rw[aih.mpr h];rfl
   by_cases g:bu<=0
   . rw[aic g];let(mu2,e2,g2,f2):=QT q1 g;show#[mu2,fin _ (fP (Y:=E mu2) (yY (jg (t1 true hc) (t2 false mu2 e2)) rfl)),g2,f1.trans f2]
   . rw[aid g];let(mu2,e2,(K2,q2),f2):=Mr q1 ();have q3:=q2.wD (D':=D++[due k 0]);let mu3:=mu2.set I.d (!(.lst (D++[due k 0])));have el:=JD (ps:=ns) q3 ∅;show#[_,fin _ (fP (yT (jg (t1 true hc) (t2 true mu2 e2)) (aB (lE (eV rfl rfl q2.hr rfl) rfl (q2.al.at q2.kd) rfl rfl (q2.al.at q2.kd) () rfl) (fW (ir q3.hr () (aC (qm (eV rfl rfl q3.hr rfl) rfl (q3.al.at q3.kp) (show (["told","lists","heads"]:List Str).contains "block"=false from by decide +kernel) rfl rfl (hb mu3 I.p (q3.al.at q3.kp))) rfl) rfl el))))),#[_,q3.wD],((f1.trans f2).trans (Fr.set ())).trans (Fr.set ())]
abbrev Cv(x:Str)(p e:Ex):PV:=.tup [.str "put",.str x,p.pv,e.pv]
def Yq(q:RQ K mu I bu wd (fC T L H) B ((a,ow)::O) ms D)(hE:EO B ow)(hx:qP B x)(hp:p.ok (B++ow))(dp:p.dp<=40)(he:e.ok (B++ow))(de:e.dp<=40)(hk:oV (fC T L H) k (Cv x p e))(hl:ms.length+1<90000):∃mu',fG [.ptr I.r,.int (k:Nat)] mu=!(.sh .non,mu')/\GQ mu' I bu wd (fC T L H) (qH B x (ev (B++ow) p) (ev (B++ow) e)).1 ((a,ow)::O) (ms++[((k:Int),0,[]),((k:Int),1,(qH B x (ev (B++ow) p) (ev (B++ow) e)).2)]) D/\Fr I mu mu':=by
 let(mu1,(K1,q1),f1,go):=qp q hk ();have vp:=sy q1 hE hp dp;have ve:=sy q1 hE he de;have ip:=yG hE.bg.ok hp;generalize ev (B++ow) p=i at vp ip;generalize ev (B++ow) e=v at ve;let(l1,l2,l3,l4,l5):=q1.ls;let(is,hx):=hx;have nd:=hE.bg.nd;rw[ady]at nd;let(ks,ps,c,hb,hv,c1,c2,hc,W):=q1.wL (aha.mp nd).1 hx;have el:lstAt B x=is:=by unfold lstAt;rw[hx]
 let E:=λl3 l4 l5 l6 mu=>(#[[zS (.ptr I.r),zI (k:Nat),zS (Cv x p e),l3,l4,l5,l6],mu]:Ev);let E2:=λmu=>(#[[zS (.ptr I.r),zI (k:Nat),zS (Cv x p e)],mu]:Ev);let N:Option Lc:=zS (.ptr c);let P:Option Lc:=zI i;let V:Option Lc:=zI v;let Z:Option Lc:=zO [];have s3:aO 3 vel (E none none none none mu1)=!(.nx (E N none none none mu1)):=bL (QH (eV rfl rfl q1.hr rfl) rfl rfl rfl hb hv) rfl rfl;have s4:aO 4 vdt (E N none none none mu1)=!(.nx (E N P none none mu1)):=bL (ir q1.hr () rfl rfl vp) rfl rfl;have s5:aO 5 vdu (E N P none none mu1)=!(.nx (E N P V none mu1)):=bL (ir q1.hr () rfl rfl ve) rfl rfl;have t:tT (aq qx (aa 4) (bO (aa 3))) aQ (E N P V Z mu1)=!(decide (i<is.length),E N P V Z mu1):=by show dY (l:=.sh (.bl (decide (i<is.length)))) (cN rfl rfl (Kv rfl rfl hc) rfl ?_) rfl rfl;show some (Lc.sh (.bl (decide (i<((is.map PV.int).length:Nat)))))=_;rw[aaW]
 have r0:aM (aa 2) (akg 0) (E2 mu1)=!(.sh (.str "put"),E2 mu1):=rfl;have beg:∀mu2,uF [.ptr I.r,.int (k:Nat),Cv x p e] mu1=!(.sh .non,mu2)->fG [.ptr I.r,.int (k:Nat)] mu=!(.sh .non,mu2):=λmu2 e2=>fP (Y:=E2 mu2) (go _ _ (yY () (yY () (yY () (yT () (fW (ir q1.hr () rfl rfl e2)))))));have ll:(ms++[((k:Int),(0:Int),([]:List gO))]).length<90000:=by rw[aaU];show ms.length+1<90000;show hl
 have fin:∀(mu2:Mu)(es:List gO)(B1:Bs)(K2:Kn),RQ K2 mu2 I bu wd (fC T L H) B1 ((a,ow)::O) (ms++[((k:Int),0,[])]) D->Fr I mu mu2->∃mu',sY 6 vcr (E N P V (!(.own (evs es))) mu2)=!(.nx (E N P V (zS (.ptr mu2.length)) mu'))/\GQ mu' I bu wd (fC T L H) B1 ((a,ow)::O) (ms++[((k:Int),0,[]),((k:Int),1,es)]) D/\Fr I mu mu':=λmu2 es B1 K2 q2 F1=>by let(mu',e',g',f'):=noted (m:=((k:Int),1,es)) q2 ll;rw[aba ms]at g';show#[mu',Hu rfl (fW (ir ((mU (q2.lt q2.kr)).trans q2.hr) () rfl rfl e')),g',F1.trans f']
 unfold qH;rw[el];by_cases h:i<is.length
 . rw[aic h];have hj:ue (is.map PV.int).length i=!i.toNat:=by unfold ue;rw[aaW,aic (),aic ()]
   let(mu',e',g',f'):=fin (mu1.set c (!(.lst ((is.set i.toNat v).map .int)))) [(x,i,v)] _ _ (W (is.set i.toNat v)) (f1.trans (Fr.set ()));show#[mu',beg _ (fP (aB s3 (aB s4 (aB s5 (aB rfl (aB (yT (t.trans (by rw[aig h])) (aB (Y':=E N P V Z (mu1.set c (!(.lst ((is.set i.toNat v).map .int))))) ?_ ?_)) e')))))),g',f']
   . have q:=J8 (Y:=E N P V Z mu1) (fo:=aa 3) (fi:=aa 4) (fv:=aa 5) rfl rfl rfl rfl rfl rfl hc hj;show q.trans ?_;rw[List.map_set];rfl
   . show nR rfl rfl rfl rfl () rfl
 . rw[aid h];let(mu',e',g',f'):=fin mu1 [] B _ q1 f1;show#[mu',beg _ (fP (aB s3 (aB s4 (aB s5 (aB rfl (aB (Y':=E N P V Z mu1) (yY (t.trans ∅) rfl) e')))))),g',f']
theorem T5{PO:PV}(q:RQ K mu I bu wd PO B ((a,ow)::O) ms D)(hE:EO B ow):∀(es:List Ex)(o:Option Lc)(acc:List PV),(∀e∈es,e.ok (B++ow)/\e.dp<=40)->acc.length+es.length<=1000->iJ (aF 0) dw vfb (es.map Ex.pv) #[[o,zS (.ptr I.r)],mu] acc=!(acc++es.map λe=>.int (ev (B++ow) e),mu)
 |[]=>λo acc _ _=>by show _=!(acc++[],mu);rw[abv];rfl
 |e::es=>λo acc h hl=>by let(he,hd):=h e aaV;have ih:=T5 q hE es (zS e.pv) (acc++[.int (ev (B++ow) e)]) (λx hx=>h x (abl _ hx)) ∅;rw[aba]at ih;show nG rfl (qm rfl rfl q.hr (show (["plan","boxes","own","budget","word","moments","due"]:List Str).contains "value"=false from by decide +kernel) rfl rfl (sy q hE he hd)) () ih
abbrev nB(q:List (Str×Int)):Bs:=q.map λx=>(x.1,.n x.2)
abbrev nE(q:List (Str×Int)):List gO:=q.map λx=>(x.1,0,x.2)
abbrev CE(r:Nat)(k:Nat)(rv:PV)(l3 l4 l5 l6 l7:Option Lc)(mu:Mu):Ev:=#[[zS (.ptr r),zI (k:Nat),zS rv,l3,l4,l5,l6,l7],mu]
abbrev vcp:=aG (qd 4 (aa 6) (aa 7)) (jm 5 (bz (aj (aa 6) (aj (akg 0) (aj (aa 7) ao)))))
abbrev clB:SF:=vcp
theorem T6:∀(qs:List (Str×Int))(A:Bs)(es:List gO)(l6 l7:Option Lc),((A++nB qs).map (·.1)).Nodup->A.length+qs.length<=100->es.length+qs.length<=100->∃p6 p7,iw vhv clB (qs.map λx=>.tup [.str x.1,.int x.2]) (CE r k rv l3 (!(.own (qz A))) (!(.own (evs es))) l6 l7 mu)=!(.nx (CE r k rv l3 (!(.own (qz (A++nB qs)))) (!(.own (evs (es++nE qs)))) p6 p7 mu))
 |[]=>λA es l6 l7 _ _ _=>#[l6,l7,by rw[show A++nB []=A from abv _,show es++nE []=es from abv _];rfl]
 |x::qs=>λA es l6 l7 nd hA he=>by
  simp only[aa9]at hA he;have e1:A++nB (x::qs)=(A++[(x.1,.n x.2)])++nB qs:=by rw[aba];rfl
  have e2:es++nE (x::qs)=(es++[(x.1,0,x.2)])++nE qs:=by rw[aba];rfl
  have hx:=λh=>by rw[ady]at nd;show(aha.mp nd).2.2 x.1 h x.1 ∅ rfl
  rw[e1]at nd ⊢;rw[e2];let E:=λl4 l5=>CE r k rv l3 l4 l5 (zT x.1) (zI x.2) mu;let(p6,p7,el):=T6 qs (A++[(x.1,.n x.2)]) (es++[(x.1,0,x.2)]) (zT x.1) (zI x.2) nd ∅ ∅;have s1:qd 4 (aa 6) (aa 7) (E (!(.own (qz A))) (!(.own (evs es))))=!(.nx (E (!(.own (qz (A++[(x.1,.n x.2)])))) (!(.own (evs es))))):=by show Hv (x:=.sh (.int x.2)) rfl rfl rfl rfl rfl rfl ∅ ?_;rw[Cr,show fZ (A.map λq=>((.inr q.1:Key),q.2.pv)) (.inr x.1) (Lc.sh (.int x.2)).pv=_ from acK (v:=.n x.2) hx,aeR];rfl
  have s2:jm 5 vfo (E (!(.own (qz (A++[(x.1,.n x.2)])))) (!(.own (evs es))))=!(.nx (E (!(.own (qz (A++[(x.1,.n x.2)])))) (!(.own (evs (es++[(x.1,0,x.2)])))))):=by show nR rfl rfl rfl rfl ∅ ?_;rw[show evs (es++[(x.1,0,x.2)])=.lst (es.map gO.pv++[gO.pv (x.1,0,x.2)]) from congrArg PV.lst ady];rfl
  show#[p6,p7,d9 rfl (aB s1 s2) el]
theorem T7:∀O:Ow,(Dk O).length=O.length
 |[]=>rfl
 |q::O=>by show (Dk O++[_]).length=_;rw[aaU,T7 O];rfl
theorem abk:∀(xs:List Str)(vs:List Int),ni (xs.map .str) (vs.map .int)=(xs.zip vs).map λx=>.tup [.str x.1,.int x.2]
 |[],_=>rfl
 |_::_,[]=>rfl
 |x::xs,v::vs=>by show .tup [.str x,.int v]::ni (xs.map .str) (vs.map .int)=_;rw[abk xs vs];rfl
abbrev cO(f:Str)(qs:List (Str×Int)):Bs:=(f,.n 0)::nB qs
def acN(q:RQ K mu I bu wd (fC T L H) B O ms D)(h:bu<=0):∃mu',lQ [.ptr I.r,.int (k:Nat),rv] mu=!(.sh .non,mu')/\GQ mu' I bu "spent" (fC T L H) B O ms []/\Fr I mu mu':=by let(mu1,e1,g1,f1):=QT q h;let E:=λmu=>CE I.r k rv none none none none none mu;show#[mu1,bh (Y:=E mu1) (gj (yT (zX (b:=false) (dY (ir q.hr () rfl rfl e1) rfl rfl)) rfl)),g1,f1]
def aaA(q:RQ K mu I bu wd (fC T L H) B ((a,ow)::O) ms D)(hE:EO B ow)(h:0<bu)(he:∀e∈es,e.ok (B++ow)/\e.dp<=40)(hp:NZ (fC T L H) f xs)(hb:Aw (fC T L H) f ns)(nd:(f::xs).Nodup)(hO:O.length<90000)(lx:xs.length=es.length)(l9:es.length<=90)(hl:ms.length<90000)(hD:D.length+ns.length+2<=90000):∃mu' b,lQ [.ptr I.r,.int (k:Nat),tV x f es] mu=!(.sh .non,mu')/\GQ mu' I (bu-1) wd (fC T L H) B ((b,cO f (xs.zip (es.map (ev (B++ow)))))::(a,ow)::O) (ms++[((k:Int),1,nE (xs.zip (es.map (ev (B++ow)))))]) (D++[due k 2]++lb ns)/\Fr I mu mu':=by
 let(mu1,e1,(K1,q1),f1):=Mr q h;let(l1,l2,l3,l4,l5):=q1.ls;obtain⟨vs,hvs⟩:∃vs,es.map (ev (B++ow))=vs:=#[_,rfl];obtain⟨qs,hqs⟩:∃qs,xs.zip vs=qs:=#[_,rfl];have lv:vs.length=es.length:=by rw[<-hvs,aaW]
 have lq:qs.length=es.length:=by rw[<-hqs,List.length_zip,lv,lx,Nat.min_self]
 rw[hvs,hqs];let rv:=tV x f es;let E:=λl3 l4 l5 l6 l7 mu=>CE I.r k rv l3 l4 l5 l6 l7 mu;let V0:Option Lc:=zO (vs.map .int);let V1:Option Lc:=zL (vs.map .int);have s1:vbk (E none none none none none mu1)=!(.nx (E V0 none none none none mu1)):=by have ec:=T5 q1 hE es none [] he ∅;rw[ahe,show (es.map λe=>PV.int (ev (B++ow) e))=vs.map .int from by rw[<-hvs,agb];rfl]at ec;show bL (iU (sV rfl rfl) ec) rfl rfl
 let A0:Option Lc:=!(.own (qz [(f,.n 0)]));let E0:Option Lc:=!(.own (evs []));have nd':(([(f,BV.n 0)]++nB qs).map (·.1)).Nodup:=by
  have:([(f,BV.n 0)]++nB qs).map (·.1)=f::xs:=by show f::(nB qs).map (·.1)=_;rw[agb,<-hqs,show ((λx:Str×BV=>x.1) ∘ λx:Str×Int=>(x.1,BV.n x.2))=Prod.fst from rfl,List.map_fst_zip ()]
  lia
 let(p6,p7,el):=T6 qs [(f,.n 0)] [] none none nd' ∅ ∅;let A1:Option Lc:=!(.own (qz (cO f qs)));let E1:Option Lc:=!(.own (evs (nE qs)));have s4:(jP (w5 (bJ "Plan" "params" mK vib vih) (aa 3)) vhv vcp) (E V0 A0 E0 none none mu1)=!(.nx (E V1 A1 E1 p6 p7 mu1)):=by show jo ?_ el;unfold w5;rw[(qm (eV rfl rfl q1.hr rfl) rfl (q1.al.at q1.kp) (show (["told","lists","heads"]:List Str).contains "params"=false from by decide +kernel) rfl rfl (hp mu1 I.p (q1.al.at q1.kp))),aaS];show some (ni (xs.map .str) (vs.map .int),E V1 A0 E0 none none mu1)=_;rw[abk,hqs]
 obtain⟨b,hb'⟩:∃b,mu1.length=b:=#[_,rfl];let mu2:Mu:=mu1++[!(qz (cO f qs))];have q2:RQ (ub K1 b (.pl (((a,ow)::O).length+1) (qz (cO f qs)))) mu2 I (bu-1) wd (fC T L H) B ((a,ow)::O) ms D:=by rw[<-hb'];show q1.new List.getElem?_concat_length
 let O2:Ow:=(b,cO f qs)::(a,ow)::O;have q3:=q2.wO (O':=O2) #[#[uW,by rw[<-hb'];show q1.lt q1.kr],q2.sk];let mu3:Mu:=mu2.set I.o (!(.lst (Dk O2)));let Bp:Option Lc:=zS (.ptr b);have s5:vfe (E V1 A1 E1 p6 p7 mu1)=!(.nx (E V1 Bp E1 p6 p7 mu3)):=by
  show Hu (by show _=!(E V1 (zS (.ptr b)) E1 p6 p7 mu2);rw[<-hb'];rfl) ?_;have ho:=q2.al.at q2.ko;have hz:(Dk ((a,ow)::O)).length<100000:=by rw[T7];show O.length+1<_;lia
  show lE (Y2:=E V1 Bp E1 p6 p7 mu2) (eV rfl rfl q2.hr rfl) rfl ho rfl rfl ho hz rfl
 let(mu4,e4,(K4,q4),f4):=noted (m:=((k:Int),1,nE qs)) q3 hl;let Ep:Option Lc:=zS (.ptr mu3.length);have s6:vch (E V1 Bp E1 p6 p7 mu3)=!(.nx (E V1 Bp Ep p6 p7 mu4)):=by show Hu rfl ?_;show fW (ir ((mU (q3.lt q3.kr)).trans q3.hr) () rfl rfl e4)
 have q5:=q4.wD (D':=D++[due k 2]);let(mu6,e6,g6,f6):=JF q5 hb (by rw[aaU];show D.length+1+_+1<=_;lia);show#[mu6,b,fP (aB (yY (zX (b:=true) (dY (ir q.hr () rfl rfl e1) rfl rfl)) rfl) (aB s1 (aB (bL () rfl rfl) (aB rfl (aB s4 (aB s5 (aB s6 (aB (lE (Y2:=E V1 Bp Ep p6 p7 mu4) (y:=.sh (due k 2)) (eV rfl rfl q4.hr rfl) rfl (q4.al.at q4.kd) rfl rfl (q4.al.at q4.kd) () rfl) (fW (ir q5.hr () rfl rfl e6)))))))))),g6,((((f1.trans Fr.push).trans (Fr.set ())).trans f4).trans (Fr.set ())).trans f6]
end
section
variable {K:Kn}{mu:Mu}{I:Ix}{bu:Int}{wd:Str}{T:List PV}{L H:PV}{B:Bs}{O:Ow}{ms:List c7}{D:List PV}{a:Nat}{ow:Bs}
def JG(e:rv=.tup (.str "call"::ps))(hr:mu1[I.r]?=!(!(bW "Running" (rF I bu wd))))(go:∀(f:SF)(R:Option Fl),f #[[zS (.ptr I.r),zI (k:Nat),zS rv],mu1]=R->aG vcy (aG vcj f) #[[zS (.ptr I.r),zI (k:Nat),none],mu]=R)(e1:lQ [.ptr I.r,.int (k:Nat),rv] mu1=!(.sh .non,mu2)):fG [.ptr I.r,.int (k:Nat)] mu=!(.sh .non,mu2):=by
 let E:=λmu=>(#[[zS (.ptr I.r),zI (k:Nat),zS rv],mu]:Ev);have r0:aM (aa 2) (akg 0) (E mu1)=!(.sh (.str "call"),E mu1):=by subst e;show oK rfl rfl rfl rfl (λn h=>by cases h) (by show (gA (PV.str "call"::ps) 0).map _=_;rw[at0];rfl)
 show fP (Y:=E mu2) (go _ _ (yY (oU r0 ()) (yY (oU r0 ()) (yT (oU r0 ()) (fW (ir hr () rfl rfl e1))))))
def acO(q:RQ K mu I bu wd (fC T L H) B ((b,o1)::(a,ow)::O) ms D)(hE:EO B ow)(hx:jW (B++ow) x)(hv:look o1 f=!(.n v))(hk:oV (fC T L H) k (tV x f es))(hl:ms.length<90000):∃mu',j4 [.ptr I.r,.int (k:Nat)] mu=!(.sh .non,mu')/\GQ mu' I bu wd (fC T L H) (setB B x (.n v)) ((a,setB ow x (.n v))::O) (ms++[((k:Int),2,[(x,0,v)])]) D/\Fr I mu mu':=by
 let(l1,l2,l3,l4,l5):=q.ls;let E:=λl2 l3 mu=>(#[[zS (.ptr I.r),zI (k:Nat),l2,l3],mu]:Ev);let Rv:Option Lc:=zS (tV x f es);have q1:=q.wO q.sk.2;let mu1:Mu:=mu.set I.o (!(.lst (Dk ((a,ow)::O))));let Bp:Option Lc:=zS (.ptr b)
 let(mu2,e2,(K2,q2),f2,len2):=TX q1 hE hx;let(mu',e',g',f'):=noted (m:=((k:Int),2,[(x,0,v)])) q2 hl;have sl:cg vbh (E Rv Bp mu1)=!(.sh (.ptr mu2.length),E Rv Bp (mu2++[!(evs [(x,0,v)])])):=jN (Y1:=E Rv Bp mu2) (qM (aC (ir q1.hr () (aC rfl (aC (QH rfl rfl rfl rfl ((agc λe=>by have:=q.ko;rw[e,q.sk.1.1]at this;injection this with h;cases h).trans (q.al.at q.sk.1.1)) (by rw[Cr,Ek,hv];rfl)) rfl)) rfl e2) rfl) rfl rfl);show#[mu',fP (Y:=E Rv Bp mu') (aB (bL (qm (eV rfl rfl q.hr rfl) rfl (q.al.at q.kp) (show (["told","lists","heads"]:List Str).contains "row"=false from by decide +kernel) rfl rfl (hk mu I.p (q.al.at q.kp))) rfl rfl) (aB (bL (Ku (eV rfl rfl q.hr rfl) rfl (q.al.at q.ko) rfl) rfl rfl) (fW (ir q1.hr () (aC rfl (aC rfl (aC sl rfl))) rfl e')))),g',((Fr.set ()).trans f2).trans f']
abbrev Ax(I:Ix)(l1:Option Lc)(mu:Mu):Ev:=#[[zS (.ptr I.r),l1],mu]
def Hw{PO:PV}(q:RQ K mu I bu wd PO B O ms (D++[due k t])):aO 1 vhw (Ax I none mu)=!(.nx (Ax I (zS (due k t)) (mu.set I.d (!(.lst D))))):=bL (Ku (eV rfl rfl q.hr rfl) rfl (q.al.at q.kd) rfl) rfl rfl
def wH{PO:PV}(q:RQ K mu I bu wd PO B O ms (D++[due k 0]))(e':fG [.ptr I.r,.int (k:Nat)] (mu.set I.d (!(.lst D)))=!(.sh .non,mu')):iC [.ptr I.r] mu=!(.sh .non,mu'):=by have q1:=q.wD (D':=D);show fP (aB (Hw q) (yT (yI rfl ()) (fW (ir q1.hr () rfl rfl e'))))
def Yr{PO:PV}(q:RQ K mu I bu wd PO B O ms (D++[due k 2]))(e':j4 [.ptr I.r,.int (k:Nat)] (mu.set I.d (!(.lst D)))=!(.sh .non,mu')):iC [.ptr I.r] mu=!(.sh .non,mu'):=by have q1:=q.wD (D':=D);show fP (aB (Hw q) (yY (yI rfl ()) (yT (yI rfl ()) (fW (ir q1.hr () rfl rfl e')))))
def aaB{PO:PV}(q:RQ K mu I bu wd PO B O ms (D++[due k 3]))(hl:ms.length<90000):∃mu',iC [.ptr I.r] mu=!(.sh .non,mu')/\GQ mu' I bu wd PO B O (ms++[((k:Int),3,[])]) D/\Fr I mu mu':=by let(l1,l2,l3,l4,l5):=q.ls;have q1:=q.wD (D':=D);let(mu',e',g',f'):=noted q1 hl;show#[mu',fP (aB (Hw q) (yY (yI rfl ()) (yY (yI rfl ()) (fW (ir q1.hr () rfl rfl e'))))),g',(Fr.set ()).trans f']
end
def T8(h:c Y=!(true,Y1))(g:f Y1=!(.nx Y2)):qK (n+1) c f Y=qK n c f Y2:=by
 show qJ c f (n+1) Y=qJ c f n Y2
 conv=>lhs;unfold qJ
 lia
def T9(h:c Y=!(false,Y1)):qK (n+1) c f Y=!(.nx Y1):=by show qJ c f (n+1) Y=_;unfold qJ;rw[h,aaS];rfl
abbrev stB:SF:=eN vhl
abbrev stC:TF:=Jg (cj "Running" "due" (aa 3))
section
variable {I:Ix}{bu:Int}{wd:Str}{T:List PV}{L H:PV}
abbrev GE(p v b:PV)(I:Ix)(mu:Mu):Ev:=#[[zS p,zS v,zS b,zS (.ptr I.r)],mu]
def afO(hr:mu[I.r]?=!(!(bW "Running" (rF I bu wd))))(e:iC [.ptr I.r] mu=!(.sh .non,mu')):stB (GE p v b I mu)=!(.nx (GE p v b I mu')):=
 fW (qm (Y2:=GE p v b I mu) rfl rfl hr (show (["plan","boxes","own","budget","word","moments","due"]:List Str).contains "step"=false from by decide +kernel) rfl rfl e)
def abm{PO:PV}{K:Kn}(q:RQ K mu I bu wd PO B O ms D):stC (GE p v b I mu)=!(not D.isEmpty,GE p v b I mu):=acG (eV rfl rfl q.hr rfl) rfl (q.al.at q.kd)
structure AS where
 bu:Int
 wd:Str
 B:Bs
 O:List Bs
 ms:List c7
 D:List PV
abbrev GA(mu:Mu)(I:Ix)(Q:PV)(s:AS):Prop:=∃O:Ow,O.map (·.2)=s.O/\GQ mu I s.bu s.wd Q s.B O s.ms s.D
def Rn(I:Ix)(Q:PV)(n:Nat)(s s':AS):Prop:=∀(p v b:PV)(mu:Mu),GA mu I Q s->∃mu',(∀m,qK (m+n) stC stB (GE p v b I mu)=qK m stC stB (GE p v b I mu'))/\GA mu' I Q s'/\Fr I mu mu'
def Rn.refl:Rn I Q 0 s s:=λp v b mu G=>#[mu,λ_=>rfl,G,Fr.refl]
def Rn.trans(h:Rn I Q n s s')(g:Rn I Q m s' s''):Rn I Q (n+m) s s'':=λp v b mu G=>by let(mu1,e1,G1,f1):=h p v b mu G;let(mu2,e2,G2,f2):=g p v b mu1 G1;show#[mu2,λk=>by rw[show k+(n+m)=(k+m)+n from by lia,e1,e2],G2,f1.trans f2]
def acP{x:PV}:(not (D++[x]).isEmpty)=true:=by cases D<;>rfl
def yK(hD:s.D=D++[x])(h:∀mu (O:Ow) K,O.map (·.2)=s.O->RQ K mu I s.bu s.wd Q s.B O s.ms s.D->∃mu',iC [.ptr I.r] mu=!(.sh .non,mu')/\GA mu' I Q s'/\Fr I mu mu'):Rn I Q 1 s s':=λp v b mu z67=>by let(O,hO,K,q):=z67;let(mu',e,G',f):=h mu O K hO q;show#[mu',λm=>T8 ((abm q).trans (by rw[hD,acP])) (afO q.hr e),G',f]
def uJ{O:Ow}(h:O.map (·.2)=ow::Os):∃a O',O=(a,ow)::O'/\O'.map (·.2)=Os:=by
 match O,h with
 |(a,o)::O',h=>
  injection h with h1 h2;show#[a,O',by rw[<-h1],h2]
section
variable {B ow:Bs}{Os:List Bs}{ms:List c7}{D:List PV}{k:Nat}
def aeS(hE:EO B ow)(hx:jW (B++ow) x)(he:e.ok (B++ow))(de:e.dp<=40)(hrv:VP x e rv)(hk:oV (fC T L H) k rv)(hl:ms.length+1<90000):Rn I (fC T L H) 1 #[bu,wd,B,ow::Os,ms,D++[due k 0]] #[bu,wd,setB B x (.n (ev (B++ow) e)),setB ow x (.n (ev (B++ow) e))::Os,ms++[((k:Int),0,[]),((k:Int),1,[(x,0,ev (B++ow) e)])],D]:=
 yK rfl λmu O K hO q=>by let(a,O',rfl,hO'):=uJ hO;let(l1,l2,l3,l4,l5):=q.ls;let(mu',e',g',f'):=Yp (q.wD) hE hx he de hrv hk hl;show#[mu',wH q e',#[_,by rw[<-hO'];rfl,g'],(Fr.set ()).trans f']
def afP(hE:EO B ow)(he:e.ok (B++ow))(de:e.dp<=40)(hk:oV (fC T L H) k (.tup [.str "if",e.pv,b1,b2]))(hb:KD (fC T L H) k (Mt (ev (B++ow) e)) ns)(hl:ms.length<90000)(hD:D.length+ns.length<=90000):Rn I (fC T L H) 1 #[bu,wd,B,ow::Os,ms,D++[due k 0]] #[bu,wd,B,ow::Os,ms++[((k:Int),0,[])],D++ns.reverse.map yJ]:=
 yK rfl λmu O K hO q=>by let(a,O',rfl,hO'):=uJ hO;let(l1,l2,l3,l4,l5):=q.ls;let(mu',e',g',f'):=aay (q.wD) hE he de hk hb hl hD;show#[mu',wH q e',#[_,hO,g'],(Fr.set ()).trans f']
def afQ(hE:EO B ow)(he:e.ok (B++ow))(de:e.dp<=40)(hk:oV (fC T L H) k (.tup [.str "while",e.pv,bl]))(hb:KD (fC T L H) k 0 ns)(hl:ms.length<90000)(hD:D.length+ns.length+1<=90000):Rn I (fC T L H) 1 #[bu,wd,B,ow::Os,ms,D++[due k 0]] #[(Gv bu wd D k ns (ev (B++ow) e)).1,(Gv bu wd D k ns (ev (B++ow) e)).2.1,B,ow::Os,ms++[((k:Int),0,[])],(Gv bu wd D k ns (ev (B++ow) e)).2.2]:=
 yK rfl λmu O K hO q=>by let(a,O',rfl,hO'):=uJ hO;let(l1,l2,l3,l4,l5):=q.ls;let(mu',e',g',f'):=aaz (q.wD) hE he de hk hb hl hD;show#[mu',wH q e',#[_,hO,g'],(Fr.set ()).trans f']
def aeT(hE:EO B ow)(hx:qP B x)(hp:p.ok (B++ow))(dp:p.dp<=40)(he:e.ok (B++ow))(de:e.dp<=40)(hk:oV (fC T L H) k (Cv x p e))(hl:ms.length+1<90000):Rn I (fC T L H) 1 #[bu,wd,B,ow::Os,ms,D++[due k 0]] #[bu,wd,(qH B x (ev (B++ow) p) (ev (B++ow) e)).1,ow::Os,ms++[((k:Int),0,[]),((k:Int),1,(qH B x (ev (B++ow) p) (ev (B++ow) e)).2)],D]:=
 yK rfl λmu O K hO q=>by let(a,O',rfl,hO'):=uJ hO;let(l1,l2,l3,l4,l5):=q.ls;let(mu',e',g',f'):=Yq (q.wD) hE hx hp dp he de hk hl;show#[mu',wH q e',#[_,hO,g'],(Fr.set ()).trans f']
def afR(h:bu<=0)(hk:oV (fC T L H) k (tV x f es))(hl:ms.length<90000):Rn I (fC T L H) 1 #[bu,wd,B,Os,ms,D++[due k 0]] #[bu,"spent",B,Os,ms++[((k:Int),0,[])],[]]:=
 yK rfl λmu O K hO q=>by let(l1,l2,l3,l4,l5):=q.ls;let(mu1,(K1,q1),f1,go):=qp (q.wD) hk hl;let(mu',e',g',f'):=acN q1 h;show#[mu',wH q (JG rfl q1.hr go e'),#[_,hO,g'],((Fr.set ()).trans f1).trans f']
def acQ(hE:EO B ow)(h:0<bu)(he:∀e∈es,e.ok (B++ow)/\e.dp<=40)(hp:NZ (fC T L H) f xs)(hb:Aw (fC T L H) f ns)(nd:(f::xs).Nodup)(hO:Os.length<80000)(lx:xs.length=es.length)(l9:es.length<=90)(hk:oV (fC T L H) k (tV x f es))(hl:ms.length+1<90000)(hD:D.length+ns.length+2<=90000):Rn I (fC T L H) 1 #[bu,wd,B,ow::Os,ms,D++[due k 0]] #[bu-1,wd,B,cO f (xs.zip (es.map (ev (B++ow))))::ow::Os,ms++[((k:Int),0,[]),((k:Int),1,nE (xs.zip (es.map (ev (B++ow)))))],D++[due k 2]++lb ns]:=
 yK rfl λmu O K hO2 q=>by
  let(a,O',rfl,hO'):=uJ hO2;let(l1,l2,l3,l4,l5):=q.ls;have lO:O'.length=Os.length:=by rw[<-hO',aaW]
  let(mu1,(K1,q1),f1,go):=qp (q.wD (D':=D)) hk (show ms.length<90000 by lia);let(mu',b,e',g',f'):=aaA (k:=k) (x:=x) q1 hE h he hp hb nd () lx l9 (by rw[aaU];show ms.length+1<_;lia) hD;rw[aba ms]at g';show#[mu',wH q (JG rfl q1.hr go e'),#[_,by rw[<-hO'];rfl,g'],((Fr.set ()).trans f1).trans f']
def acR(hE:EO B ow)(hx:jW (B++ow) x)(hv:look o1 f=!(.n v))(hk:oV (fC T L H) k (tV x f es))(hl:ms.length<90000):Rn I (fC T L H) 1 #[bu,wd,B,o1::ow::Os,ms,D++[due k 2]] #[bu,wd,setB B x (.n v),setB ow x (.n v)::Os,ms++[((k:Int),2,[(x,0,v)])],D]:=
 yK rfl λmu O K hO q=>by let(b,O1,rfl,hO1):=uJ hO;let(a,O',rfl,hO'):=uJ hO1;let(l1,l2,l3,l4,l5):=q.ls;let(mu',e',g',f'):=acO (q.wD) hE hx hv hk hl;show#[mu',Yr q e',#[_,by rw[<-hO'];rfl,g'],(Fr.set ()).trans f']
def aeU(hl:ms.length<90000):Rn I Q 1 #[bu,wd,B,Os,ms,D++[due k 3]] #[bu,wd,B,Os,ms++[((k:Int),3,[])],D]:=
 yK rfl λmu O K hO q=>by let(mu',e',g',f'):=aaB q hl;show#[mu',e',#[_,hO,g'],f']
end
end
inductive AR where
 |set (x:Str) (e:Ex)
 |put (x:Str) (p e:Ex)
 |fi (e:Ex)
 |wh (e:Ex)
 |call (x f:Str) (es:List Ex)
structure GD where
 row:Nat->AR
 blk:Nat->Nat->List Nat
 body:Str->List Nat
 prm:Str->List Str
 fns:List Str
structure MS where
 bu:Nat
 sp:Bool
 B:Bs
 O:List Bs
 ms:List c7
 D:List (Nat×Nat)
def jq(B:Bs)(O:List Bs):Bs:=B++O.headD []
def uK(ns:List Nat)(D:List (Nat×Nat)):List (Nat×Nat):=ns.map (λk=>(k,0))++D
def layB(ns:List Nat)(D:List (Nat×Nat)):List (Nat×Nat):=uK ns ((ns.getLast?.toList.map λk=>(k,3))++D)
def rA(B:Bs)(O:List Bs)(x:Str)(v:Int):Bs×List Bs:=(setB B x (.n v),match O with
 |ow::Os=>setB ow x (.n v)::Os
 | []=>[])
def jj(G:GD)(s:MS)(k:Nat)(D:List (Nat×Nat)):AR->MS
 |.set x e=>#[s.bu,s.sp,(rA s.B s.O x (ev (jq s.B s.O) e)).1,(rA s.B s.O x (ev (jq s.B s.O) e)).2,s.ms++[((k:Int),0,[]),((k:Int),1,[(x,0,ev (jq s.B s.O) e)])],D]
 |.put x p e=>#[s.bu,s.sp,(qH s.B x (ev (jq s.B s.O) p) (ev (jq s.B s.O) e)).1,s.O,s.ms++[((k:Int),0,[]),((k:Int),1,(qH s.B x (ev (jq s.B s.O) p) (ev (jq s.B s.O) e)).2)],D]
 |.fi e=>#[s.bu,s.sp,s.B,s.O,s.ms++[((k:Int),0,[])],uK (G.blk k (if ev (jq s.B s.O) e=0 then 1 else 0)) D]
 |.wh e=>if ev (jq s.B s.O) e=0 then #[s.bu,s.sp,s.B,s.O,s.ms++[((k:Int),0,[])],D] else match s.bu with
  |0=>#[0,true,s.B,s.O,s.ms++[((k:Int),0,[])],[]]
  |b+1=>#[b,s.sp,s.B,s.O,s.ms++[((k:Int),0,[])],uK (G.blk k 0) ((k,0)::D)]
 |.call x f es=>match s.bu with
  |0=>#[0,true,s.B,s.O,s.ms++[((k:Int),0,[])],[]]
  |b+1=>#[b,s.sp,s.B,((f,.n 0)::((G.prm f).zip (es.map (ev (jq s.B s.O)))).map λx=>(x.1,.n x.2))::s.O,s.ms++[((k:Int),0,[]),((k:Int),1,((G.prm f).zip (es.map (ev (jq s.B s.O)))).map λx=>(x.1,0,x.2))],layB (G.body f) ((k,2)::D)]
def oW(s:MS)(k:Nat)(D:List (Nat×Nat)):AR->MS
 |.call x f _=>#[s.bu,s.sp,(rA s.B s.O.tail x (numAt (s.O.headD []) f)).1,(rA s.B s.O.tail x (numAt (s.O.headD []) f)).2,s.ms++[((k:Int),2,[(x,0,numAt (s.O.headD []) f)])],D]
 |_=>#[s.bu,s.sp,s.B,s.O,s.ms,D]
def fL(G:GD)(s:MS):MS:=match s.D with
 |[]=>s
 |(k,0)::D=>jj G s k D (G.row k)
 |(k,2)::D=>oW s k D (G.row k)
 |(k,t)::D=>#[s.bu,s.sp,s.B,s.O,s.ms++[((k:Int),(t:Int),[])],D]
def lZ(G:GD):Nat->MS->MS
 |0,s=>s
 |n+1,s=>match s.D with
  |[]=>s
  |_::_=>lZ G n (fL G s)
abbrev MS.up(s:MS):MS:=#[s.bu+1,s.sp,s.B,s.O,s.ms,s.D]
def acS(G:GD)(s:MS):(fL G s.up=(fL G s).up/\(fL G s).sp=s.sp)\/∃k D,s.D=(k,0)::D/\fL G s=#[0,true,s.B,s.O,s.ms++[((k:Int),0,[])],[]]/\((∃k' D',(fL G s.up).D=(k',0)::D'/\(fL G s.up).ms=s.ms++[((k:Int),0,[])])\/∃m,(fL G s.up).ms=s.ms++[((k:Int),0,[])]++[m]):=by
 let(bu,sp,B,O,ms,D):=s
 match D with
 |[]=>show .inl #[rfl,rfl]
 |(k,1)::D=>show .inl #[rfl,rfl]
 |(k,t+3)::D=>show .inl #[rfl,rfl]
 |(k,2)::D=>
  show (oW _ k D (G.row k)=(oW _ k D (G.row k)).up/\(oW _ k D (G.row k)).sp=_)\/_;cases G.row k<;>show .inl #[rfl,rfl]
 |(k,0)::D=>
  show (jj G _ k D (G.row k)=(jj G _ k D (G.row k)).up/\(jj G _ k D (G.row k)).sp=_)\/∃k2 D2,_/\jj G _ k D (G.row k)=_/\((∃k' D',(jj G _ k D (G.row k)).D=_/\(jj G _ k D (G.row k)).ms=_)\/∃m,(jj G _ k D (G.row k)).ms=_);cases G.row k with
  |set x e=>show .inl #[rfl,rfl]
  |put x p e=>show .inl #[rfl,rfl]
  |fi e=>show .inl #[rfl,rfl]
  |wh e=>
   unfold jj;dsimp only;by_cases he:ev (jq B O) e=0
   . rw[aic he,aic he];show .inl #[rfl,rfl]
   . rw[aid he,aid he];cases bu with
     |zero=>
      show .inr #[k,D,rfl,rfl,.inl ?_];cases hb:G.blk k 0 with
      |nil=>show#[k,D,by dsimp only[uK];rfl,rfl]
      |cons j js=>show#[j,_,by dsimp only[uK];rfl,rfl]
     |succ b=>show .inl #[rfl,rfl]
  |call x f es=>
   cases bu with
   |zero=>show .inr #[k,D,rfl,rfl,.inr #[_,(aba ms [((k:Int),0,[])] _).symm]]
   |succ b=>show .inl #[rfl,rfl]
def Ys(G:GD):∀r,∃m l,(jj G s k D r).ms=s.ms++m::l
 |.set _ _=>#[_,_,rfl]
 |.put _ _ _=>#[_,_,rfl]
 |.fi _=>#[_,_,rfl]
 |.wh e=>by
  unfold jj;dsimp only;split
  . show#[_,_,rfl]
  . cases s.bu<;>show#[_,_,rfl]
 |.call x f es=>by unfold jj;dsimp only;cases s.bu<;>show#[_,_,rfl]
def aaC(G:GD)(h:s.D=(k,0)::D):∃m l,(fL G s).ms=s.ms++m::l:=by unfold fL;rw[h];show Ys G _
def acT(G:GD)(s:MS):∃l,(fL G s).ms=s.ms++l:=by
 let(bu,sp,B,O,ms,D):=s
 match D with
 |[]=>show#[[],(abv _).symm]
 |(k,1)::D=>show#[_,rfl]
 |(k,t+3)::D=>show#[_,rfl]
 |(k,2)::D=>
  show ∃l,(oW _ k D (G.row k)).ms=_;cases G.row k with
  |call x f es=>show#[_,rfl]
  |_=>show#[[],(abv _).symm]
 |(k,0)::D=>
  let(m,l,h):=Ys G (G.row k);show#[_,h]
theorem V2(G:GD):∀(n:Nat)(s:MS),∃l,(lZ G n s).ms=s.ms++l
 |0=>λs=>#[[],by simp[lZ]]
 |n+1=>λs=>by
  unfold lZ;split
  . show#[[],by simp]
  . let(l,h):=acT G s;let(l',h'):=V2 G n (fL G s);show#[l++l',by rw[h',h,aba]]
def Cw(G:GD)(h:s.D=q::D):lZ G (n+1) s=lZ G n (fL G s):=by
 conv=>lhs;unfold lZ
 rw[h]
def Cy(G:GD):∀{n:Nat}{s:MS},s.D=[]->lZ G n s=s
 |0,_,_=>rfl
 |n+1,s,h=>by unfold lZ;rw[h]
theorem abn(G:GD):∀{n n':Nat}{s:MS},(lZ G n s).D=[]->(lZ G n' s.up).D=[]->(lZ G n' s.up=(lZ G n s).up/\(lZ G n s).sp=s.sp)\/((lZ G n s).sp=true/\∃k ms m l,(lZ G n s).ms=ms++[((k:Int),0,[])]/\(lZ G n' s.up).ms=(lZ G n s).ms++m::l)
 |n,n',s=>λh h'=>by
  cases hD:s.D with
  |nil=>
   rw[Cy G hD,Cy G (s:=s.up) hD];lia
  |cons q D=>
   cases n with
   |zero=>have h:s.D=[]:=h;lia
   |succ n=>
    cases n' with
    |zero=>have h:s.D=[]:=h';lia
    |succ n'=>
     rw[Cw G hD]at h ⊢;rw[Cw G (s:=s.up) hD]at h' ⊢;obtain⟨e,e2⟩|⟨k,D',_,e,e2⟩:=acS G s
     . rw[e]at h' ⊢;rw[<-e2];show abn G h h'
     . rw[e]at h ⊢;rw[Cy G (s:=#[0,true,s.B,s.O,s.ms++[((k:Int),0,[])],[]]) rfl];show .inr #[rfl,k,s.ms,?_];obtain⟨k',D2,e3,e4⟩|⟨m,e3⟩:=e2
       . cases n' with
         |zero=>have h:(fL G s.up).D=[]:=h';lia
         |succ n'=>
          rw[Cw G e3];let(m,l,e5):=aaC G e3;let(l',e6):=V2 G n' (fL G (fL G s.up));lia
       . let(l',e6):=V2 G n' (fL G s.up);lia
def kW(w:Nat->Nat):List Nat->Nat
 |[]=>0
 |k::l=>w k+kW w l
def iY(w:Nat->Nat):List (Nat×Nat)->Nat
 |[]=>0
 |(k,t)::l=>(if t=0 then w k else 1)+iY w l
structure GW(G:GD)(w:Nat->Nat)(C:Nat):Prop where
 pos:∀k,0<w k
 blk:∀k i,kW w (G.blk k i)<w k
 le:∀k i,kW w (G.blk k i)<C
 body:∀f,kW w (G.body f)+2<=C
theorem Ft:∀{ns:List Nat}{D:List (Nat×Nat)},iY w (uK ns D)=kW w ns+iY w D
 |[],D=>by show iY w D=0+_;lia
 |k::ns,D=>by have ih:=Ft (w:=w) (ns:=ns) (D:=D);show (if 0=0 then w k else 1)+iY w (uK ns D)=(w k+kW w ns)+_;rw[aic rfl,ih];lia
def QV:iY w (layB ns D)<=kW w ns+1+iY w D:=by
 unfold layB;rw[Ft];cases ns.getLast? with
 |none=>lia
 |some k=>
  show _+((if 3=0 then w k else 1)+iY w D)<=_;lia
abbrev vQ(w:Nat->Nat)(C:Nat)(s:MS):Nat:=s.bu*C+iY w s.D
def Hx(g:GW G w C)(h:s.D=q::D):vQ w C (fL G s)<vQ w C s:=by
 let(bu,sp,B,O,ms,D'):=s;have h:D'=q::D:=h;subst h;let(k,t):=q;have hp:=g.pos k
 match t with
 |1=>show bu*C+iY w D<bu*C+(1+iY w D);lia
 |t+3=>show bu*C+iY w D<bu*C+(1+iY w D);lia
 |2=>
  show vQ w C (oW _ k D (G.row k))<bu*C+(1+iY w D);cases G.row k<;>(show bu*C+iY w D<_;lia)
 |0=>
  show vQ w C (jj G _ k D (G.row k))<bu*C+(w k+iY w D);cases G.row k with
  |set x e=>show bu*C+iY w D<_;lia
  |put x p e=>show bu*C+iY w D<_;lia
  |fi e=>
   show bu*C+iY w (uK (G.blk k (if ev (jq B O) e=0 then 1 else 0)) D)<_;rw[Ft];have:=g.blk k (if ev (jq B O) e=0 then 1 else 0);lia
  |wh e=>
   unfold jj;dsimp only;by_cases he:ev (jq B O) e=0
   . rw[aic he];show bu*C+iY w D<_;lia
   . rw[aid he];cases bu with
     |zero=>show 0*C+0<_;lia
     |succ b=>
      show b*C+iY w (uK _ ((k,0)::D))<_;rw[Ft];show b*C+(_+(w k+iY w D))<_;rw[Nat.succ_mul];have:=g.le k 0;lia
  |call x f es=>
   cases bu with
   |zero=>show 0*C+0<_;lia
   |succ b=>
    show b*C+iY w (layB _ ((k,2)::D))<_;have h1:=QV (w:=w) (ns:=G.body f) (D:=(k,2)::D);have h2:iY w ((k,2)::D)=1+iY w D:=rfl;have h3:=g.body f;rw[Nat.succ_mul];lia
theorem Yt(g:GW G w C):∀{N:Nat}{s:MS},vQ w C s<=N->(lZ G N s).D=[]
 |N,s=>λh=>by
  cases hD:s.D with
  |nil=>rw[Cy G hD];lia
  |cons q D=>
   have hp:=Hx g hD;cases N with
   |zero=>lia
   |succ N=>
    rw[Cw G hD];show Yt g ()
noncomputable def upd(x:Str)(v:BV)(e:gO):BV:=if e.1=x then (match v with |.n _=>.n e.2.2 |.l is=>.l (is.set e.2.1.toNat e.2.2)) else v
def rep(B:Bs)(es:List gO):Bs:=B.map λq=>(q.1,es.foldl (upd q.1) q.2)
def jO(ms:List c7):List gO:=ms.flatMap (·.2.2)
def KH:jO (a++b)=jO a++jO b:=List.flatMap_append
def Fv:rep B (a++b)=rep (rep B a) b:=by unfold rep;rw[agb];show agP λq _=>?_;lia
def Ua:rep B []=B:=by show(agP λq _=>rfl).trans (List.map_id B)
def Ay:(rep B es).map (·.1)=B.map (·.1):=by unfold rep;rw[agb];rfl
theorem KJ:∀{es:List gO},(∀e∈es,e.1∉B.map (·.1))->rep B es=B
 |[]=>λ_=>Ua
 |e::es=>λh=>by
  rw[show e::es=[e]++es from rfl,Fv];have e1:rep B [e]=B:=by unfold rep;show(agP λq hq=>?_).trans (List.map_id B);show (q.1,upd q.1 q.2 e)=q;unfold upd;rw[aid λc=>h e aaV ∅]
  rw[e1];show KJ λx hx=>h x (abl _ hx)
theorem Az:∀{B:Bs},(B.map (·.1)).Nodup->∀q∈B,look B q.1=!q.2
 |(y,v)::B,h,q,hq=>by
  have h':=agT.mp h;unfold look;obtain rfl|hq:=abw.mp hq
  . lia
  . rw[aid λc=>h'.1 ∅];show Az h'.2 q hq
def afS(hn:(B.map (·.1)).Nodup)(h:¬ qP B x):rep B [(x,0,v)]=setB B x (.n v):=by
 unfold rep setB;show agP λq hq=>?_;show (q.1,upd q.1 q.2 (x,0,v))=_;unfold upd;by_cases c:q.1=x
 . rw[aic c.symm,aic c];cases hq2:q.2 with
   |n i=>rfl
   |l is=>show absurd #[is,by rw[<-c,Az hn q hq,hq2]] h
 . rw[aid λe=>c e.symm,aid c]
def afT(hn:(B.map (·.1)).Nodup)(h:qP B x):rep B [(x,p,v)]=setB B x (.l ((lstAt B x).set p.toNat v)):=by
 let(is,h):=h;have e1:lstAt B x=is:=by unfold lstAt;rw[h]
 rw[e1];unfold rep setB;show agP λq hq=>?_;show (q.1,upd q.1 q.2 (x,p,v))=_;unfold upd;by_cases c:q.1=x
 . rw[aic c.symm,aic c];have e2:some q.2=!(.l is):=by rw[<-Az hn q hq,c,h]
   injection e2 with e2;rw[e2]
 . rw[aid λe=>c e.symm,aid c]
abbrev frm(G:GD)(f:Str):List Str:=if f∈G.fns then f::G.prm f else []
abbrev tmp(ns:List Str):Bs:=ns.map λx=>(x,BV.n 0)
inductive DU(G:GD)(N:Nat)(home:Nat->Str):List (Nat×Nat)->List Str->Prop
 |nil {F:List Str}:DU G N home [] F
 |row {k:Nat} {f:Str} {F:List Str} {D:List (Nat×Nat)}:home k=f->k<N->DU G N home D (f::F)->DU G N home ((k,0)::D) (f::F)
 |fin {k:Nat} {f:Str} {F:List Str} {D:List (Nat×Nat)}:DU G N home D (f::F)->DU G N home ((k,3)::D) (f::F)
 |back {k:Nat} {x f g:Str} {es:List Ex} {F:List Str} {D:List (Nat×Nat)}:G.row k=.call x f es->home k=g->k<N->DU G N home D (g::F)->DU G N home ((k,2)::D) (f::g::F)
def FO(G:GD):List Str->List Bs->Prop
 |[],O=>O=[]
 |f::F,O=>∃ow Os,O=ow::Os/\ow.map (·.1)=frm G f/\(∀q∈ow,∃i,q.2=.n i/\In i)/\FO G F Os
def RKr(G:GD)(B0:Bs)(N:Nat)(home:Nat->Str)(k:Nat)(T:Bs):AR->Prop
 |.set x e=>jW T x/\e.ok T
 |.put x p e=>qP B0 x/\p.ok T/\e.ok T
 |.fi e=>e.ok T/\∀i,∀j∈G.blk k i,j<N/\home j=home k
 |.wh e=>e.ok T/\∀i,∀j∈G.blk k i,j<N/\home j=home k
 |.call x f es=>jW T x/\(∀e∈es,e.ok T)/\es.length=(G.prm f).length/\f∈G.fns/\∀j∈G.body f,j<N/\home j=f
structure RK(G:GD)(B0:Bs)(N:Nat)(home:Nat->Str):Prop where
 nd:(B0.map (·.1)).Nodup
 nf:∀f,(frm G f).Nodup
 l8:B0.length<=50
 lf:∀f,(frm G f).length<=50
 dj:∀f,∀x∈frm G f,x∉B0.map (·.1)
 rw_:∀k,k<N->RKr G B0 N home k (B0++tmp (frm G (home k))) (G.row k)
structure MI(G:GD)(B0:Bs)(N:Nat)(home:Nat->Str)(s:MS):Prop where
 rp:s.B=rep B0 (jO s.ms)
 ok:yF s.B
 kn:mR B0 s.B
 du:∃F,DU G N home s.D F/\FO G F s.O
theorem pK:∀{B:Bs},look B x=none ↔ x∉B.map (·.1)
 |[]=>#[λ_ h=>(nomatch h),λ_=>rfl]
 |(y,v)::B=>by
  show (if y=x then !v else look B x)=none ↔ _;rw[af8,abw];split
  . lia
  . rename_i e;rw[pK];lia
def mR.app(hb:mR B B')(hn:B'.map (·.1)=B.map (·.1))(hc:mR C C'):mR (B++C) (B'++C'):=by
 have go:∀(P:Bs->Str->Prop)(Q:BV->Prop),(∀D x,P D x ↔ ∃v,look D x=!v/\Q v)->(∀x,P B x->P B' x)->(∀x,P C x->P C' x)->∀x,P (B++C) x->P (B'++C') x:=by
  intro P Q hP h1 h2 x h;let(v,h,hq):=(hP _ _).mp h;rw[lY]at h;cases hl:look B x with
  |some w=>
   rw[hl]at h;injection h with h;let(v',e',q'):=(hP _ _).mp (h1 x ((hP _ _).mpr #[w,hl,by rw[h];show hq]));show(hP _ _).mpr #[v',by rw[lY,e'];rfl,q']
  |none=>
   rw[hl]at h;let(v',e',q'):=(hP _ _).mp (h2 x ((hP _ _).mpr #[v,h,hq]));have:look B' x=none:=pK.mpr (by rw[hn];show pK.mp hl);show(hP _ _).mpr #[v',by rw[lY,this,e'];rfl,q']
 show#[go jW (λv=>∃i,v=.n i) (λD x=>#[λz68=>by let(i,h):=z68;show #[_,h,i,rfl],λz69=>by let(v,h,i,e):=z69;show #[i,by rw[h,e]]]) hb.1 hc.1,go qP (λv=>∃i,v=.l i) (λD x=>#[λz70=>by let(i,h):=z70;show #[_,h,i,rfl],λz71=>by let(v,h,i,e):=z71;show #[i,by rw[h,e]]]) hb.2 hc.2]
def Ub:∀{ow:Bs},ow.map (·.1)=ns->(∀q∈ow,∃i,q.2=.n i/\In i)->mR (tmp ns) ow:=by
 induction ns with
 |nil=>intro ow h _;rw[List.map_eq_nil_iff.mp h];show mR.refl
 |cons n ns ih=>
  intro ow h g
  match ow,h,g with
  |(y,v)::ow,h,g=>
   injection h with h1 h2;have ih:=ih h2 λq hq=>g q (abl _ hq);let(i,e,_):=g (y,v) aaV;subst e;subst h1;have go:∀x,look (tmp (y::ns)) x=if y=x then !(.n 0) else look (tmp ns) x:=λx=>rfl
   show#[λx hx=>?_,λx hx=>?_]
   . by_cases c:y=x
     . show#[i,by rw[pX,aic c]]
     . let(j,hx):=hx;rw[go,aid c]at hx;let(j,hx):=ih.1 x #[j,hx];show#[j,by rw[pX,aid c];show hx]
   . let(j,hx):=hx;rw[go]at hx;by_cases c:y=x
     . lia
     . rw[aid c]at hx;let(j,hx):=ih.2 x #[j,hx];show#[j,by rw[pX,aid c];show hx]
structure Now(G:GD)(B0:Bs)(s:MS)(f:Str)(F:List Str):Prop where
 fo:FO G (f::F) s.O
 kn:mR (B0++tmp (frm G f)) (jq s.B s.O)
 ok:yF (jq s.B s.O)
def MI.now(m:MI G B0 N home s)(h:FO G (f::F) s.O):Now G B0 s f F:=by
 let(ow,Os,e,e1,e2,e3):=h;have ee:jq s.B s.O=s.B++ow:=by unfold jq;rw[e];rfl
 show#[#[ow,Os,e,e1,e2,e3],?_,?_]
 . rw[ee];show m.kn.app (by rw[m.rp,Ay]) (Ub e1 e2)
 . rw[ee];show#[λq hq=>?_,λq hq is e=>?_]
   . obtain hq|hq:=adY.mp hq
     . show m.ok.ok q hq
     . let(i,e,hi):=e2 q hq;rw[e];show hi
   . obtain hq|hq:=adY.mp hq
     . show m.ok.sm q hq is e
     . lia
theorem JH(h:DU G N home D (f::F)):∀{ns:List Nat},(∀j∈ns,j<N/\home j=f)->DU G N home (uK ns D) (f::F)
 |[]=>λ_=>h
 |k::ns=>λg=>.row (g k aaV).2 (g k aaV).1 (JH h λj hj=>g j (abl _ hj))
def Uc(h:DU G N home D (f::F))(g:∀j∈ns,j<N/\home j=f):DU G N home (layB ns D) (f::F):=by
 show JH ?_ g;cases ns.getLast? with
 |none=>show h
 |some k=>show .fin h
def aaD(h:jW B x):¬ qP B x:=λz72=>by let(is,g):=z72;let(i,h):=h;rw[h]at g;cases g
section
variable {G:GD}{B0 B:Bs}{N:Nat}{home:Nat->Str}{O:List Bs}{f x:Str}{F:List Str}{es:List gO}{p v:Int}
def Ud(K:RK G B0 N home)(hB:B=rep B0 es)(ok:yF B)(kn:mR B0 B)(fo:FO G (f::F) O)(hx:jW (B0++tmp (frm G f)) x)(hv:In v):(rA B O x v).1=rep B0 (es++[(x,0,v)])/\yF (rA B O x v).1/\mR B0 (rA B O x v).1/\FO G (f::F) (rA B O x v).2:=by
 let(ow,Os,rfl,e1,e2,e3):=fo;have hn:(B.map (·.1))=B0.map (·.1):=by rw[hB,Ay]
 unfold rA;dsimp only;rw[Fv,<-hB];by_cases c:x∈frm G f
 . rw[Fq (B:=B) (λh=>K.dj f x c (by rw[<-hn];show h))];show#[(KJ λe he=>?_).symm,ok,kn,_,_,rfl,by rw[X7,e1],λq hq=>?_,e3]
   . rw[agk.mp he,hn];show K.dj f x c
   . let(q',h',e):=abz.mp hq;by_cases c:q'.1=x
     . rw[aic c]at e;show#[v,by rw[<-e],hv]
     . rw[aid c]at e;rw[<-e];show e2 q' h'
 . rw[Fq (B:=ow) (λh=>c (by rw[<-e1];show h))];have hx0:jW B0 x:=by
    let(i,hx):=hx;have:look (tmp (frm G f)) x=none:=pK.mpr (by rw[agb];show λh=>c (by rw[show ((λx:Str×BV=>x.1) ∘ λx:Str=>(x,BV.n 0))=id from rfl,List.map_id]at h;show h));rw[lY,this]at hx;cases h0:look B0 x with
    |none=>rw[h0]at hx;cases hx
    |some w=>rw[h0]at hx;injection hx with hx;show#[i,by rw[h0,hx]]
   have hx1:=kn.1 x hx0;show#[(afS (by rw[hn];show K.nd) (aaD hx1)).symm,ok.set hv (λis e=>by cases e),kn.trans (afJ hx1),_,_,rfl,e1,e2,e3]
def aeV(K:RK G B0 N home)(hB:B=rep B0 es)(ok:yF B)(kn:mR B0 B)(hx:qP B0 x)(hv:In v):(qH B x p v).1=rep B0 (es++(qH B x p v).2)/\yF (qH B x p v).1/\mR B0 (qH B x p v).1:=by
 have hn:(B.map (·.1))=B0.map (·.1):=by rw[hB,Ay]
 unfold qH;split
 . have hx1:=kn.2 x hx;dsimp only;rw[Fv,<-hB];show#[(afT (by rw[hn];show K.nd) hx1).symm,ok.set (λi hi=>?_) (λis e=>?_),kn.trans (afK hx1)]
   all_goals
    let(js,hx1):=hx1;have e1:lstAt B x=js:=by unfold lstAt;rw[hx1]
   . rw[e1]at hi;obtain hi|hi:=List.mem_or_eq_of_mem_set hi
     . show ok.ok _ (rQ hx1) i hi
     . rw[hi];show hv
   . injection e with e;rw[<-e,agd,e1];show ok.sm _ (rQ hx1) js rfl
 . dsimp only;rw[abv];show#[hB,ok,kn]
end
def Ba:jO (ms++[(k,t,[])])=jO ms:=by rw[KH];show abv _
def Fw{m:c7}:jO (ms++[(k,t,[]),m])=jO ms++m.2.2:=by rw[KH];show _++([]++(m.2.2++[]))=_;lia
def Ue:jO (ms++[m])=jO ms++m.2.2:=by rw[KH];show _++(m.2.2++[])=_;rw[abv]
def KN(K:RK G B0 N home)(m:MI G B0 N home s):MI G B0 N home (fL G s):=by
 have m':=m;let(rp,ok,kn,F,du,fo):=m;let(bu,sp,B,O,ms,D):=s;dsimp only at rp ok kn du fo
 match D,du with
 |[],_=>show m'
 |_,.fin (k:=k) (D:=D) h=>show#[by rw[show (fL G #[bu,sp,B,O,ms,(k,3)::D]).ms=ms++[((k:Int),3,[])] from rfl,Ba];show rp,ok,kn,_,h,fo]
 |_,.back (k:=k) (x:=x) (f:=f) (g:=g) (es:=es) (D:=D) hr hg hk h=>
  have kr:=K.rw_ k hk;rw[hr]at kr;let(ow,Os,rfl,e1,e2,e3):=fo;rw[hg]at kr;have hv:In (numAt ow f):=by
   unfold numAt;cases hl:look ow f with
   |none=>show#[by decide,by decide]
   |some w=>let(i,e,hi):=e2 _ (rQ hl);have e:w=.n i:=e;subst e;show hi
  let(a,b,c,d):=Ud K rp ok kn e3 kr.1 hv;have es':fL G #[bu,sp,B,ow::Os,ms,(k,2)::D]=oW #[bu,sp,B,ow::Os,ms,(k,2)::D] k D (G.row k):=rfl;rw[es',hr];show#[by rw[show (oW #[bu,sp,B,ow::Os,ms,(k,2)::D] k D (.call x f es)).ms=ms++[((k:Int),2,[(x,0,numAt ow f)])] from rfl,Ue];show a,b,c,_,h,d]
 |_,.row (k:=k) (f:=f) (F:=F) (D:=D) hf hk h=>
  have nw:=m'.now fo;have kr:=K.rw_ k hk;rw[hf]at kr;have es':fL G #[bu,sp,B,O,ms,(k,0)::D]=jj G #[bu,sp,B,O,ms,(k,0)::D] k D (G.row k):=rfl;rw[es'];cases hr:G.row k with
  |set x e=>
   rw[hr]at kr;let(a,b,c,d):=Ud K rp ok kn fo kr.1 (yG nw.ok (nw.kn.ex kr.2));show#[by rw[show (jj G #[bu,sp,B,O,ms,(k,0)::D] k D (.set x e)).ms=ms++[((k:Int),0,[]),((k:Int),1,[(x,0,ev (jq B O) e)])] from rfl,Fw];show a,b,c,_,h,d]
  |put x p e=>
   rw[hr]at kr;let(a,b,c):=aeV K (p:=ev (jq B O) p) rp ok kn kr.1 (yG nw.ok (nw.kn.ex kr.2.2));show#[by rw[show (jj G #[bu,sp,B,O,ms,(k,0)::D] k D (.put x p e)).ms=ms++[((k:Int),0,[]),((k:Int),1,(qH B x (ev (jq B O) p) (ev (jq B O) e)).2)] from rfl,Fw];show a,b,c,_,h,fo]
  |fi e=>
   rw[hr]at kr;show#[by show B=rep B0 (jO (ms++_));rw[Ba];show rp,ok,kn,_,JH h λj hj=>by have q:=kr.2 _ j hj;rw[hf]at q;show q,fo]
  |wh e=>
   rw[hr]at kr;unfold jj;dsimp only;split
   . show#[by show B=rep B0 (jO (ms++_));rw[Ba];show rp,ok,kn,_,h,fo]
   . cases bu with
     |zero=>show#[by show B=rep B0 (jO (ms++_));rw[Ba];show rp,ok,kn,_,.nil,fo]
     |succ b=>show#[by show B=rep B0 (jO (ms++_));rw[Ba];show rp,ok,kn,_,JH (.row hf hk h) λj hj=>by have q:=kr.2 _ j hj;rw[hf]at q;show q,fo]
  |call x g es=>
   rw[hr]at kr;let(k1,k2,k3,k4,k5):=kr;cases bu with
   |zero=>show#[by show B=rep B0 (jO (ms++_));rw[Ba];show rp,ok,kn,_,.nil,fo]
   |succ b=>
    let q:=(G.prm g).zip (es.map (ev (jq B O)));have qf:q.map (·.1)=G.prm g:=List.map_fst_zip (by rw[aaW];lia);show#[?_,ok,kn,_,Uc (.back hr hf hk h) k5,_,O,rfl,?_,λy hy=>?_,fo]
    . show B=rep B0 (jO (ms++[((k:Int),0,[]),((k:Int),1,q.map λx=>(x.1,(0:Int),x.2))]));rw[Fw,Fv,<-rp];show(KJ λe he=>?_).symm;let(y,hy,e):=abz.mp he;rw[rp,Ay,<-e];show K.dj g y.1 ?_;rw[frm,aic k4,<-qf];show abl _ (List.mem_map_of_mem hy)
    . show g::(q.map λx=>(x.1,BV.n x.2)).map (·.1)=_;rw[agb,show ((λx:Str×BV=>x.1) ∘ λx:Str×Int=>(x.1,BV.n x.2))=(·.1) from rfl,qf,frm,aic k4]
    . obtain rfl|hy:=abw.mp hy
      . show#[0,rfl,by decide,by decide]
      . let(z,hz,e):=abz.mp hy;show#[z.2,by rw[<-e],?_];let(e',h1,h2):=abz.mp (ahh hz).2;rw[<-h2];show yG nw.ok (nw.kn.ex (k2 e' h1))
theorem abo(K:RK G B0 N home):∀{n:Nat}{s:MS},MI G B0 N home s->MI G B0 N home (lZ G n s)
 |0,_=>λm=>m
 |n+1,s=>λm=>by
  cases h:s.D with
  |nil=>rw[Cy G h];show m
  |cons q D=>rw[Cw G h];show abo K (KN K m)
def QW:(fL G s).ms.length<=s.ms.length+2:=by
 let(bu,sp,B,O,ms,D):=s
 match D with
 |[]=>show ahB _ 2
 |(k,1)::D=>show (ms++[_]).length<=_;rw[aaU];show ahi _
 |(k,t+3)::D=>show (ms++[_]).length<=_;rw[aaU];show ahi _
 |(k,2)::D=>
  show (oW _ k D (G.row k)).ms.length<=_;cases G.row k with
  |call x f es=>show (ms++[_]).length<=_;rw[aaU];show ahi _
  |_=>show ahB _ 2
 |(k,0)::D=>
  show (jj G _ k D (G.row k)).ms.length<=_;have one:∀m:c7,(ms++[m]).length<=ms.length+2:=λm=>by rw[aaU];show ahi _
  have two:∀m m':c7,(ms++[m,m']).length<=ms.length+2:=λm m'=>by rw[aaU];show aa0 _
  cases G.row k with
  |set x e=>show two _ _
  |put x p e=>show two _ _
  |fi e=>show one _
  |wh e=>
   unfold jj;dsimp only;split
   . show one _
   . cases bu<;>show one _
  |call x f es=>cases bu;show one _;show two _ _
theorem Ug(h:∀k,0<w k):∀{D:List (Nat×Nat)},D.length<=iY w D
 |[]=>aa0 _
 |(k,t)::D=>by have:=Ug h (D:=D);have:=h k;show D.length+1<=(if t=0 then w k else 1)+iY w D;lia
def Cz:AR->PV->Prop
 |.set x e,rv=>VP x e rv/\e.dp<=40
 |.put x p e,rv=>rv=Cv x p e/\p.dp<=40/\e.dp<=40
 |.fi e,rv=>(∃b1 b2,rv=.tup [.str "if",e.pv,b1,b2])/\e.dp<=40
 |.wh e,rv=>(∃bl,rv=.tup [.str "while",e.pv,bl])/\e.dp<=40
 |.call x f es,rv=>rv=tV x f es/\∀e∈es,e.dp<=40
structure V3(Q:PV)(G:GD)(N:Nat)(home:Nat->Str):Prop where
 row:∀k,k<N->∃rv,oV Q k rv/\Cz (G.row k) rv
 blk:∀k,k<N->∀i:Nat,KD Q k (i:Int) (cY (G.blk k i))
 lb:∀k i,(G.blk k i).length<=1000
 lf:∀f,(G.body f).length<=1000
 body:∀k,k<N->∀x f es,G.row k=.call x f es->Aw Q f (G.body f)/\NZ Q f (G.prm f)
def iz(D:List (Nat×Nat)):List PV:=(D.map λq=>due q.1 (q.2:Nat)).reverse
def MS.as(s:MS):AS:=#[(s.bu:Int),if s.sp then "spent" else "done",s.B,s.O,s.ms,iz s.D]
def Bb:iz ((k,t)::D)=iz D++[due k (t:Nat)]:=by unfold iz;lia
def aaE:iz (E++D)=iz D++iz E:=by unfold iz;lia
def aeW:iz (ns.map λk=>(k,0))=(cY ns).reverse.map yJ:=by unfold iz;rw[agb,<-List.map_reverse,show (cY ns).reverse=ns.reverse.map (λ(i:Nat)=>PV.int (i:Nat)) from List.map_reverse.symm,agb];rfl
def Hy:iz (uK ns D)=iz D++(cY ns).reverse.map yJ:=by unfold uK;rw[aaE,aeW]
def Mv:iz (layB ns D)=iz D++lb ns:=by
 unfold layB lb;rw[Hy];cases h:ns.getLast? with
 |none=>
  have:ns=[]:=List.getLast?_eq_none_iff.mp h;subst this;rfl
 |some m=>
  show iz ((m,3)::D)++_=_;rw[Bb,aba];rfl
def aaF:(iz D).length=D.length:=by unfold iz;lia
section
variable {G:GD}{B0:Bs}{N:Nat}{home:Nat->Str}{s:MS}{w:Nat->Nat}{C:Nat}{I:Ix}{T:List PV}{L H:PV}
def aeX{a b:List Str}(ha:a.Nodup)(hb:b.Nodup)(h:∀x∈b,x∉a):(a++b).Nodup:=aha.mpr #[ha,hb,λx hx y hy e=>h y hy (e▸hx)]
def Now.eo(K:RK G B0 N home)(m:MI G B0 N home s)(nw:Now G B0 s f F)(hO:s.O=ow::Os)(e1:ow.map (·.1)=frm G f)(e2:∀q∈ow,∃i,q.2=.n i/\In i):EO s.B ow:=by
 have ee:jq s.B s.O=s.B++ow:=by unfold jq;rw[hO];rfl
 have nb:s.B.map (·.1)=B0.map (·.1):=by rw[m.rp,Ay]
 have lb:s.B.length=B0.length:=by have:=congrArg List.length nb;rwa [aaW,aaW]at this
 have lo:ow.length=(frm G f).length:=by have:=congrArg List.length e1;rwa [aaW]at this
 have l1:=K.l8;have l2:=K.lf f;show#[#[by rw[<-ee];show nw.ok,?_,by rw[aaU];lia],λq hq=>?_]
 . rw[ady,nb,e1];show aeX K.nd (K.nf f) (K.dj f)
 . let(i,e,_):=e2 q hq;show#[i,e]
def V4(h:jW ow f):look ow f=!(.n (numAt ow f)):=by let(i,h):=h;unfold numAt;rw[h]
theorem FO.len:∀{F:List Str}{O:List Bs},FO G F O->O.length=F.length
 |[],O=>λh=>by  rw[h];rfl
 |f::F,O=>λz2=>by let(ow,Os,e,_,_,h):=z2;rw[e,aa9,aa9,h.len]
def acU(K:RK G B0 N home)(P:V3 (fC T L H) G N home)(m:MI G B0 N home s)(hD:s.D≠[])(hm:s.ms.length<80000)(hd0:s.D.length<80000)(hO:s.O.length<70000):Rn I (fC T L H) 1 s.as (fL G s).as:=by
 have m':=m;let(rp,ok,kn,F,du,fo):=m;let(bu,sp,B,O,ms,D):=s;dsimp only at rp ok kn du fo hD hm hd0 hO
 match D,du with
 |[],_=>show absurd rfl hD
 |_,.fin (k:=k) (D:=D) h=>
  show Rn I _ 1 #[_,_,B,O,ms,iz ((k,3)::D)] #[_,_,B,O,ms++[((k:Int),3,[])],iz D];rw[Bb];show aeU ()
 |_,.back (k:=k) (x:=x) (f:=f) (D:=D) hr hg hk h=>
  have kr:=K.rw_ k hk;rw[hr,hg]at kr;let(rv,p1,p2):=P.row k hk;rw[hr]at p2;rw[p2.1]at p1;let(ow,Os,rfl,e1,e2,e3):=fo;have e3':=e3;let(ow2,Os2,rfl,e4,e5,e6):=e3;have m2:MI G B0 N home #[bu,sp,B,ow2::Os2,ms,D]:=#[rp,ok,kn,_,h,e3'];have nw:=m2.now e3';have eo:=nw.eo K m2 rfl e4 e5;have hv:=(Ub e1 e2).1 f (by rw[frm,aic kr.2.2.2.1];show#[0,by rw[show tmp (f::G.prm f)=(f,BV.n 0)::tmp (G.prm f) from rfl,pX,aic rfl]]);have es':fL G #[bu,sp,B,ow::ow2::Os2,ms,(k,2)::D]=oW #[bu,sp,B,ow::ow2::Os2,ms,(k,2)::D] k D (G.row k):=rfl;rw[es',hr];show Rn I _ 1 #[_,_,B,ow::ow2::Os2,ms,iz ((k,2)::D)] #[_,_,setB B x (.n (numAt ow f)),setB ow2 x (.n (numAt ow f))::Os2,ms++[((k:Int),2,[(x,0,numAt ow f)])],iz D];rw[Bb];show acR eo (nw.kn.1 x kr.1) (V4 hv) p1 ()
 |_,.row (k:=k) (D:=D) hf hk h=>
  have nw:=m'.now fo;have kr:=K.rw_ k hk;rw[hf]at kr;let(rv,p1,p2):=P.row k hk;let(ow,Os,rfl,e1,e2,e3):=fo;have eo:=nw.eo K m' rfl e1 e2;have es':fL G #[bu,sp,B,ow::Os,ms,(k,0)::D]=jj G #[bu,sp,B,ow::Os,ms,(k,0)::D] k D (G.row k):=rfl;rw[es'];have as0:MS.as #[bu,sp,B,ow::Os,ms,(k,0)::D]=#[(bu:Int),if sp then "spent" else "done",B,ow::Os,ms,iz D++[due k 0]]:=by unfold MS.as;rw[Bb];rfl
  rw[as0];have kx:=nw.kn;have ld:(iz D).length=D.length:=aaF;rw[aa9]at hd0;cases hr:G.row k with
  |set x e=>
   rw[hr]at kr p2;show aeS eo (kx.1 x kr.1) (kx.ex kr.2) p2.2 p2.1 p1 ()
  |put x p e=>
   rw[hr]at kr p2;rw[p2.1]at p1;show aeT eo (kn.2 x kr.1) (kx.ex kr.2.1) p2.2.1 (kx.ex kr.2.2) p2.2.2 p1 ()
  |fi e=>
   rw[hr]at kr p2;let((b1,b2,p2),p3):=p2;rw[p2]at p1;have eb:KD (fC T L H) k (Mt (ev (B++ow) e)) (cY (G.blk k (if ev (B++ow) e=0 then 1 else 0))):=by have q:=P.blk k hk (if ev (B++ow) e=0 then 1 else 0);rw[show Mt (ev (B++ow) e)=(((if ev (B++ow) e=0 then 1 else 0:Nat)):Int) from by unfold Mt;split<;>rfl];show q
   have hd:=P.lb k (if ev (B++ow) e=0 then 1 else 0);have q:=afP (I:=I) (bu:=(bu:Int)) (wd:=if sp then "spent" else "done") (Os:=Os) (ms:=ms) (D:=iz D) eo (kx.ex kr.1) p3 p1 eb () (by rw[aaW];lia);rw[<-Hy]at q;show q
  |wh e=>
   rw[hr]at kr p2;let((bl,p2),p3):=p2;rw[p2]at p1;have eb:=P.blk k hk 0;have hd:=P.lb k 0;have q:=afQ (I:=I) (bu:=(bu:Int)) (wd:=if sp then "spent" else "done") (Os:=Os) (ms:=ms) (D:=iz D) eo (kx.ex kr.1) p3 p1 eb () (by rw[aaW];lia);have hv:jq B (ow::Os)=B++ow:=rfl;unfold jj;dsimp only;rw[hv];by_cases hz:ev (B++ow) e=0
   . rw[aic hz];rw[show Gv (bu:Int) (if sp then "spent" else "done") (iz D) k (cY (G.blk k 0)) (ev (B++ow) e)=_ from aic hz]at q;show q
   . rw[aid hz];cases bu with
     |zero=>
      rw[show Gv ((0:Nat):Int) (if sp then "spent" else "done") (iz D) k (cY (G.blk k 0)) (ev (B++ow) e)=_ from (aid hz).trans (aic ())]at q;show q
     |succ b=>
      rw[show Gv ((b+1:Nat):Int) (if sp then "spent" else "done") (iz D) k (cY (G.blk k 0)) (ev (B++ow) e)=_ from (aid hz).trans (aid ())]at q;have e1:iz (uK (G.blk k 0) ((k,0)::D))=iz D++[.tup [.int (k:Nat),.int 0]]++(cY (G.blk k 0)).reverse.map yJ:=by rw[Hy,Bb];rfl
      have e2:(((b+1:Nat):Int)-1)=(b:Int):=()
      rw[e2,<-e1]at q;show q
  |call x g es=>
   rw[hr]at kr p2;let(k1,k2,k3,k4,k5):=kr;rw[p2.1]at p1;cases bu with
   |zero=>show afR () p1 ()
   |succ b=>
    let(b1,b2):=P.body k hk x g es hr;have l1:=K.lf g;have n1:=K.nf g;rw[frm,aic k4]at l1 n1;rw[aa9]at l1;have hd:=P.lf g;have q:=acQ (I:=I) (bu:=((b+1:Nat):Int)) (wd:=if sp then "spent" else "done") (Os:=Os) (ms:=ms) (D:=iz D) eo () (λe he=>#[kx.ex (k2 e he),p2.2 e he]) b2 b1 n1 (by rw[aa9]at hO;lia) k3.symm () p1 () ();rw[show (((b+1:Nat):Int)-1)=(b:Int) from by lia,show iz D++[due k 2]=iz ((k,2)::D) from Bb.symm,<-Mv]at q;show q
def Yu:(rA B O x v).2.length=O.length:=by cases O<;>rfl
def aeY:(fL G s).O.length+(fL G s).bu<=s.O.length+s.bu:=by
 let(bu,sp,B,O,ms,D):=s
 match D with
 |[]=>show aa0 _
 |(k,1)::D=>show aa0 _
 |(k,t+3)::D=>show aa0 _
 |(k,2)::D=>
  show (oW _ k D (G.row k)).O.length+(oW _ k D (G.row k)).bu<=_;cases G.row k with
  |call x f es=>
   show (rA B O.tail x _).2.length+bu<=O.length+bu;rw[Yu,List.length_tail];lia
  |_=>show aa0 _
 |(k,0)::D=>
  show (jj G _ k D (G.row k)).O.length+(jj G _ k D (G.row k)).bu<=O.length+bu;cases G.row k with
  |set x e=>show (rA B O x _).2.length+bu<=_;rw[Yu];lia
  |put x p e=>show aa0 _
  |fi e=>show aa0 _
  |wh e=>
   unfold jj;dsimp only;split
   . show aa0 _
   . cases bu with
     |zero=>show aa0 _
     |succ b=>show O.length+b<=_;lia
  |call x f es=>
   cases bu with
   |zero=>show aa0 _
   |succ b=>show O.length+1+b<=_;lia
theorem abp(K:RK G B0 N home)(P:V3 (fC T L H) G N home)(g:GW G w C):∀{n:Nat}{s:MS},MI G B0 N home s->2*vQ w C s+s.ms.length<70000->s.O.length+s.bu<70000->(lZ G n s).D=[]->∃m,m<=vQ w C s/\Rn I (fC T L H) m s.as (lZ G n s).as
 |n,s=>λmi h1 h2 h3=>by
  cases hD:s.D with
  |nil=>rw[Cy G hD];show#[0,agY _,Rn.refl]
  |cons q D=>
   cases n with
   |zero=>have h:s.D=[]:=h3;lia
   |succ n=>
    rw[Cw G hD]at h3 ⊢;have p1:=Hx g hD;have p2:=QW (G:=G) (s:=s);have p3:=aeY (G:=G) (s:=s);have p4:=Ug g.pos (D:=s.D);have p5:vQ w C s=s.bu*C+iY w s.D:=rfl;let(m,hm,r):=abp K P g (KN K mi) () () h3;show#[1+m,(),(acU K P mi ∅ () () ()).trans r]
end
abbrev lr(D:List (Str×Int))(gs:List PV)(fs:List Fn)(rs:Rows):Pg:=#[dcl D,gs,fs,rs]
def afU{PO:PV}(S:RS mu I bu wd PO B [] [])(hl:mu.length=I.d+1):GQ mu I bu wd PO B [(I.e,[])] [] []:=by
 let(l1,l2,l3,l4,l5,l6,hr,hp,(ps,hb,hc),he,ho,hm,hd):=S;let K:Kn:=λc=>if c=I.r then .pl 0 (bW "Running" (rF I bu wd)) else if c=I.p then .pl 0 PO else if c=I.b then .pl 0 (.dk (cC B) ps) else if c=I.e then .pl 1 (qz []) else if c=I.o then .pl 0 (.lst [.ptr I.e]) else if c=I.m then .pl 0 (.lst []) else if c=I.d then .pl 0 (.lst []) else .no
 have n:∀{c d:Nat} {x y:Kd},c≠d->(if c=d then x else y)=y:=λh=>aid h;show#[K,#[λc=>?_,λc hc=>?_],#[l1,l2,(),l5,l6],aic rfl,(n ()).trans (aic rfl),#[#[ps,(n ()).trans ((n ()).trans (aic rfl)),hc],λc h1 h2=>(n ()).trans ((n ()).trans ((n ()).trans ((n ()).trans ((n ()).trans ((n ()).trans (n ()))))))],(n ()).trans ((n ()).trans ((n ()).trans ((n ()).trans (aic rfl)))),(n ()).trans ((n ()).trans ((n ()).trans ((n ()).trans ((n ()).trans ((n ()).trans (aic rfl)))))),#[#[(n ()).trans ((n ()).trans ((n ()).trans (aic rfl))),()],trivial],[],(n ()).trans ((n ()).trans ((n ()).trans ((n ()).trans ((n ()).trans (aic rfl))))),rfl]
 . show Ct mu c (if c=I.r then _ else _);split
   . rename_i e;rw[e];show hr
   . split
     . rename_i e;rw[e];show hp
     . split
       . rename_i e;rw[e];show hb
       . split
         . rename_i e;rw[e];show he
         . split
           . rename_i e;rw[e];show ho
           . split
             . rename_i e;rw[e];show hm
             . split
               . rename_i e;rw[e];show hd
               . trivial
 . show(n ()).trans ((n ()).trans ((n ()).trans ((n ()).trans ((n ()).trans ((n ()).trans (n ()))))))
section
variable {b0:Mu}{r:Nat}
abbrev WW(b0:Mu)(r:Nat)(l:FD)(t:Mu):Mu:=b0.set r (!(bW "Running" l))++t
def aeZ(h:r<b0.length):(WW b0 r l t).set r (!(bW "Running" l'))=WW b0 r l' t:=by unfold WW;rw[List.set_append_left _ _ (by rw[agd];show h),ahd]
def V5:(WW b0 r l t)[b0.length+i]?=t[i]?:=by unfold WW;rw[aby (by rw[agd];lia),agd];congr 1;lia
def ae0(h:r<b0.length):(WW b0 r l t)[r]?=!(!(bW "Running" l)):=by unfold WW;rw[agm (by rw[agd];show h),aeI h]
def Wa(h:c<b0.length)(hc:c≠r):(WW b0 r l t)[c]?=b0[c]?:=by unfold WW;rw[agm (by rw[agd];show h),agc (Ne.symm hc)]
def vm:(WW b0 r l t).length=b0.length+t.length:=by unfold WW;rw[aaU,agd]
def sE:WW b0 r l t++u=WW b0 r l (t++u):=aba ..
abbrev RE(r:Nat)(P V:PV)(bu:Int)(mu:Mu):Ev:=#[[zS (.ptr r),zS P,zS V,zI bu],mu]
def KQ{P V:PV}(h:r<b0.length)(h1:fv (RE r P V bu (WW b0 r l t))=!(y,RE r P V bu (WW b0 r l t')))(hy:y.pv=p)(hl:l.length<1000)(e:sW f p l=l'):iM "Running" f (aa 0) fv (RE r P V bu (WW b0 r l t))=!(.nx (RE r P V bu (WW b0 r l' t'))):=by have q:=uH (C:="Running") (f:=f) (fo:=aa 0) (Y2:=RE r P V bu (WW b0 r l t')) h1 hy rfl rfl (ae0 h) hl;rw[q,e,show (RE r P V bu (WW b0 r l t')).mu=WW b0 r l t' from rfl,aeZ h]
end
def acV(hD:D.map (·.1)=B.map (·.1))(nd:(B.map (·.1)).Nodup)(h1:B.length<=100)(ok:(lr D gs fs rs).ok)(hb:∀N,Aw (PQ ((lr D gs fs rs).es) N (eO (oR fs []))) "main" ns)(hn:ns.length<=1000):
 ∃mu' I N,iG [.ptr mu.length,(lr D gs fs rs).pv,.lst (dg B),.int bu] (mu++[!(bW "Running" [])])=!(.sh .non,mu')/\I.r=mu.length/\GQ mu' I bu "done" (PQ ((lr D gs fs rs).es) N (eO (oR fs []))) B [(I.e,[])] [] (lb ns)/\I.r<mu'.length/\∀c,c<mu.length->mu'[c]?=mu[c]?:=by
 let P:PV:=(lr D gs fs rs).pv;let r:=mu.length;have hrm:r=mu.length:=rfl;let(Bm,e0'):=aau ok (mu++[!(bW "Running" [])]);let b0:Mu:=(mu++[!(bW "Running" [])])++some (bW "Plan" (Tv (lr D gs fs rs).es ((mu++[!(bW "Running" [])]).length+1) (eO (oR fs []))))::Bm;have hN:(mu++[!(bW "Running" [])]).length=r+1:=by simp[r]
 have e0:iW [.ptr (r+1),P] ((mu++[!(bW "Running" [])])++[!(bW "Plan" [])])=!(.sh .non,b0):=by rw[<-hN];show e0'
 have h0:b0[r+1]?=!(!(PQ ((lr D gs fs rs).es) (r+2) (eO (oR fs [])))):=by show ((mu++[!(bW "Running" [])])++some (bW "Plan" (Tv (lr D gs fs rs).es ((mu++[!(bW "Running" [])]).length+1) (eO (oR fs []))))::Bm)[r+1]?=_;rw[hN,aby (by rw[hN];lia),hN,ag3];rfl
 have l0:((mu++[!(bW "Running" [])])++[!(bW "Plan" [])]).length<=b0.length:=by simp[b0]
 have f0:∀c,c<((mu++[!(bW "Running" [])])++[!(bW "Plan" [])]).length->c≠r+1->b0[c]?=((mu++[!(bW "Running" [])])++[!(bW "Plan" [])])[c]?:=λc h1 h2=>by
  have h3:c<(mu++[!(bW "Running" [])]).length:=by rw[aaU]at h1;simp only[aa9,agO]at h1;lia
  show ((mu++[!(bW "Running" [])])++_)[c]?=_;rw[agm h3,agm h3]
 have lb:r+2<=b0.length:=by have:=l0;simp[r]at this ⊢;lia
 have fr:∀c,c<mu.length->b0[c]?=mu[c]?:=λc hc=>by rw[f0 c (by simp;lia) (by simp only[r];lia),agm (by simp;lia),agm hc]
 have br:b0[r]?=!(!(bW "Running" [])):=by rw[f0 r (by simp[r]) (by simp[r]),agm (by simp[r]),aby (by simp[r]),show r-mu.length=0 from by simp[r]];rfl
 have hr:r<b0.length:=()
 have w0:b0=WW b0 r [] []:=by unfold WW;rw[abv,ail br]
 have s1:iM "Running" "plan" (aa 0) (yp "Plan" iW (aj (aa 1) ao)) (RE r P (.lst (dg B)) bu (mu++[!(bW "Running" [])]))=!(.nx (RE r P (.lst (dg B)) bu (WW b0 r [("plan",.ptr (r+1))] []))):=by
  have mk:=Ti (C:="Plan") (a:=aj (aa 1) ao) (Y:=RE r P (.lst (dg B)) bu (mu++[!(bW "Running" [])])) (Y1:=RE r P (.lst (dg B)) bu (mu++[!(bW "Running" [])])) rfl rfl (by rw[show (RE r P (.lst (dg B)) bu (mu++[!(bW "Running" [])])).mu.length=r+1 from by simp[r]];show e0)
  rw[show (RE r P (.lst (dg B)) bu (mu++[!(bW "Running" [])])).mu.length=r+1 from by simp[r]]at mk;have q:=uH (C:="Running") (f:="plan") (fo:=aa 0) mk rfl rfl rfl br ();rw[q];show some (Fl.nx (RE r P (.lst (dg B)) bu (b0.set r (!(bW "Running" [("plan",.ptr (r+1))])))))=_;unfold WW;rw[abv]
 let(ps,t,ef,hc):=Yo hD nd h1;rw[sE]at ef hc;rw[ahe]at ef hc;have s2:iM "Running" "boxes" (aa 0) vgb (RE r P (.lst (dg B)) bu (WW b0 r [("plan",.ptr (r+1))] []))=!(.nx (RE r P (.lst (dg B)) bu (WW b0 r [("plan",.ptr (r+1)),("boxes",.ptr (b0.length+t.length))] (t++[!(.dk (cC B) ps)])))):=by show KQ (y:=.sh (.ptr (b0.length+t.length))) hr ?_ rfl (show (1:Nat)<1000 from by decide) rfl;have q:=jN (f:=aH xG vij) (Y:=RE r P (.lst (dg B)) bu (WW b0 r [("plan",.ptr (r+1))] [])) (aY (aC rfl (aC rfl rfl)) rfl rfl rfl ef);rw[show (RE r P (.lst (dg B)) bu (WW b0 r [("plan",.ptr (r+1))] t)).mu.length=b0.length+t.length from vm,show (RE r P (.lst (dg B)) bu (WW b0 r [("plan",.ptr (r+1))] t)).mu++[!(.dk (cC B) ps)]=WW b0 r [("plan",.ptr (r+1))] (t++[!(.dk (cC B) ps)]) from sE]at q;show q
 let n:=b0.length+t.length;let l2:FD:=[("plan",.ptr (r+1)),("boxes",.ptr n)];let t2:Mu:=t++[!(.dk (cC B) ps)];let t3:Mu:=t2++[!(.dk [] []),!(.lst [.ptr (n+1)])];let l3:FD:=[("plan",.ptr (r+1)),("boxes",.ptr n),("own",.ptr (n+2))];have lt2:∀l,(WW b0 r l t2).length=n+1:=λl=>by rw[vm];simp[t2,n];lia
 have s3:iM "Running" "own" (aa 0) (cg (bG (aj (cg vf) ao))) (RE r P (.lst (dg B)) bu (WW b0 r l2 t2))=!(.nx (RE r P (.lst (dg B)) bu (WW b0 r l3 t3))):=by
  show KQ (y:=.sh (.ptr (n+2))) hr ?_ rfl (show (2:Nat)<1000 from by decide) rfl;have a1:cg vf (RE r P (.lst (dg B)) bu (WW b0 r l2 t2))=!(.sh (.ptr (n+1)),RE r P (.lst (dg B)) bu (WW b0 r l2 (t2++[!(.dk [] [])]))):=by have q:=jN (f:=vf) (p:=.dk [] []) (Y:=RE r P (.lst (dg B)) bu (WW b0 r l2 t2)) rfl;rw[show (RE r P (.lst (dg B)) bu (WW b0 r l2 t2)).mu.length=n+1 from lt2 l2]at q;rw[q,<-sE (t:=t2) (u:=[!(.dk [] [])])]
  have q:=jN (f:=bG (aj (cg vf) ao)) (p:=.lst [.ptr (n+1)]) (Y:=RE r P (.lst (dg B)) bu (WW b0 r l2 t2)) (Y1:=RE r P (.lst (dg B)) bu (WW b0 r l2 (t2++[!(.dk [] [])]))) (qM (ls:=[.sh (.ptr (n+1))]) (aC a1 rfl) rfl rfl);rw[show (RE r P (.lst (dg B)) bu (WW b0 r l2 (t2++[!(.dk [] [])]))).mu.length=n+2 from by show (WW b0 r l2 (t2++[!(.dk [] [])])).length=_;rw[<-sE,aaU,lt2];rfl]at q;rw[q,<-sE (t:=t2) (u:=[!(.dk [] [])])];show some (_,RE r P (.lst (dg B)) bu ((WW b0 r l2 t2++[!(.dk [] [])])++[!(.lst [.ptr (n+1)])]))=_;rw[aba,sE];rfl
 let l4:FD:=[("plan",.ptr (r+1)),("boxes",.ptr n),("own",.ptr (n+2)),("budget",.int bu)];let l5:FD:=[("plan",.ptr (r+1)),("boxes",.ptr n),("own",.ptr (n+2)),("budget",.int bu),("word",.str "done")];have lt3:∀l,(WW b0 r l t3).length=n+3:=λl=>by rw[vm];simp[t3,t2,n];lia
 let t4:Mu:=t3++[!(.lst [])];let l6:FD:=[("plan",.ptr (r+1)),("boxes",.ptr n),("own",.ptr (n+2)),("budget",.int bu),("word",.str "done"),("moments",.ptr (n+3))];have s6:iM "Running" "moments" (aa 0) (cg (bG ao)) (RE r P (.lst (dg B)) bu (WW b0 r l5 t3))=!(.nx (RE r P (.lst (dg B)) bu (WW b0 r l6 t4))):=by show KQ (y:=.sh (.ptr (n+3))) (t':=t4) hr ?_ rfl (show (5:Nat)<1000 from by decide) rfl;have q:=jN (f:=bG ao) (p:=.lst []) (Y:=RE r P (.lst (dg B)) bu (WW b0 r l5 t3)) rfl;rw[show (RE r P (.lst (dg B)) bu (WW b0 r l5 t3)).mu.length=n+3 from lt3 l5]at q;rw[q,<-sE (t:=t3) (u:=[!(.lst [])])]
 have lt4:∀l,(WW b0 r l t4).length=n+4:=λl=>by rw[vm];simp[t4,t3,t2,n];lia
 let t5:Mu:=t4++[!(.lst [])];let l7:FD:=[("plan",.ptr (r+1)),("boxes",.ptr n),("own",.ptr (n+2)),("budget",.int bu),("word",.str "done"),("moments",.ptr (n+3)),("due",.ptr (n+4))];have s7:iM "Running" "due" (aa 0) (cg (bG ao)) (RE r P (.lst (dg B)) bu (WW b0 r l6 t4))=!(.nx (RE r P (.lst (dg B)) bu (WW b0 r l7 t5))):=by show KQ (y:=.sh (.ptr (n+4))) (t':=t5) hr ?_ rfl (show (6:Nat)<1000 from by decide) rfl;have q:=jN (f:=bG ao) (p:=.lst []) (Y:=RE r P (.lst (dg B)) bu (WW b0 r l6 t4)) rfl;rw[show (RE r P (.lst (dg B)) bu (WW b0 r l6 t4)).mu.length=n+4 from lt4 l6]at q;rw[q,<-sE (t:=t4) (u:=[!(.lst [])])]
 let I:Ix:=#[r,r+1,n,n+1,n+2,n+3,n+4];have et:t5=t++[!(.dk (cC B) ps),!(.dk [] []),!(.lst [.ptr (n+1)]),!(.lst []),!(.lst [])]:=by simp[t5,t4,t3,t2]
 have at5:∀i:Nat,(WW b0 r l7 t5)[n+i]?=[!(PV.dk (cC B) ps),!(.dk [] []),!(.lst [.ptr (n+1)]),!(.lst []),!(.lst [])][i]?:=λi=>by rw[show n+i=b0.length+(t.length+i) from by simp only[n];lia,V5,et,aby ()];congr 1;lia
 have S:RS (WW b0 r l7 t5) I bu "done" (PQ ((lr D gs fs rs).es) (r+2) (eO (oR fs []))) B [] []:=by
  show#[by show r<r+1;lia,by show r+1<n;simp only[n];lia,by show n<n+1;lia,by show n+1<n+2;lia,by show n+2<n+3;lia,by show n+3<n+4;lia,ae0 hr,?_,#[ps,at5 0,?_],at5 1,at5 2,at5 3,at5 4]
  . show (WW b0 r l7 t5)[r+1]?=_;rw[Wa () ()];show h0
  . rw[vm]at hc;show(hc.lo (lo':=r+1+1) (by rw[vm];lia)).frame λc c1 c2=>?_;have c1':r+1+1<=c:=c1;by_cases hcb:c<b0.length
    . rw[Wa hcb (),Wa hcb ()]
    . obtain⟨i,rfl⟩:∃i,c=b0.length+i:=#[c-b0.length,()];rw[V5,V5,et,agm (by have:b0.length+i<b0.length+t.length:=c2;lia)]
 let(K0,Q0):=afU S (by rw[vm,et];simp[I,n];lia);let(mu',el,g',f'):=JF Q0 (hb _) (by show 0+ns.length+1<=_;lia);have lm:(WW b0 r l7 t5).length=n+5:=by rw[vm,et];simp[n];lia
 have hnd:n=b0.length+t.length:=rfl;show#[mu',I,r+2,?_,rfl,g',by show r<_;have:=f'.1;lia,λc hc=>?_]
 . show fP (Y:=RE r P (.lst (dg B)) bu mu') (aB s1 (aB s2 (aB s3 (aB (KQ (y:=.sh (.int bu)) hr rfl rfl (show (3:Nat)<1000 from by decide) rfl) (aB (KQ (y:=.sh (.str "done")) hr rfl rfl (show (4:Nat)<1000 from by decide) rfl) (aB s6 (aB s7 (fW (l:=.sh .non) ?_))))))));show ir (I:=I) S.hr () (ls:=[.sh (.str "main")]) (mu1:=WW b0 r l7 t5) rfl rfl el
 . rw[f'.2 c (by show c<r;lia) (),Wa () (),fr c hc]
def N5(s:Int):BV->Prop
 |.n i=>s=0/\In i
 |.l is=>s=is.length/\s≠0/\is.length<=8/\∀i∈is,In i
def tW:List (Str×Int)->Bs->Prop
 |[],[]=>True
 |(x,s)::D,(y,v)::B=>x=y/\N5 s v/\tW D B
 |_,_=>False
theorem tW.names:∀{D:List (Str×Int)}{B:Bs},tW D B->D.map (·.1)=B.map (·.1)
 |[],[]=>λ_=>rfl
 |(x,s)::D,(y,v)::B=>λh=>by rw[af8,af8,tW.names h.2.2,show (x,s).1=(y,v).1 from h.1]
 |[],_::_=>λh=>h.elim
 |_::_,[]=>λh=>h.elim
def Uh(h:In i):jQ [.int i] mu=!(.sh (.bl true),mu):=by
 let E:Ev:=#[[zI i],mu];have h2:Dy (kE "bool" (aa 0)) E=!(.sh (.bl true),E):=by unfold Dy;rfl
 have h3:sU IV qx (akg 0) (aa 0) (eC wC) E=!(.sh (.bl true),E):=by unfold sU;rw[show akg 0 E=some (.sh (.int 0),E) from rfl,aaS,show aa 0 E=some (.sh (.int i),E) from rfl,aaS];rw[show IV (Lc.sh (PV.int 0)).pv (Lc.sh (PV.int i)).pv=zS (.bl (decide ((0:Int)<=i))) from rfl,aig h.1];show some (Lc.sh (.bl (decide (i<1000000000000))),E)=_;rw[aig h.2]
 have an:∀(f g:EF),f E=!(.sh (.bl true),E)->g E=!(.sh (.bl true),E)->m6 f g E=!(.sh (.bl true),E):=λf g hf hg=>by unfold m6;rw[hf,aaS];show hg
 show bh (Y:=E) (bZ (an _ _ () (an _ _ h2 h3)))
def aaG(h:N5 s v):Af [.int s,v.pv] mu=!(.sh (.bl true),mu):=by
 let E:Ev:=#[[zI s,zS v.pv],mu];cases v with
 |n i=>
  let(rfl,hi):=h;show bh (gj (yT (yI rfl ()) (bZ (aY rfl rfl rfl rfl (Uh hi)))))
 |l is=>
  let(hs,h0,h8,hi):=h;have ec:=u9 (b:=aF 0) (te:=aH jQ (aj (aa 0) ao)) (λY=>∃o,Y=#[[o],mu]) (λY z73=>by let(o,e):=z73;rw[e]) (λ_=>.bl true) (xs:=is.map .int) #[none,rfl] ∅ (by
   rintro p hp Y ⟨o,rfl⟩;let(i,hi',rfl):=abz.mp hp;show#[#[[zI i],mu],rfl,.sh (.bl true),#[[zI i],mu],aY rfl rfl rfl rfl (Uh (hi i hi')),rfl,_,rfl]) (by
   rintro p hp Y Y1 ⟨o,rfl⟩ e;cases e;show#[_,rfl])
  have bo:∀ws:List PV,boolsOf (ws.map λ_=>PV.bl true)=!(ws.map λ_=>true):=λws=>by
   induction ws with
   |nil=>rfl
   |cons w ws ih=>
    show (boolsOf (ws.map λ_=>PV.bl true)).map _=_;lia
  have ba:∀ws:List PV,(ws.map λ_=>true).all id=true:=λws=>by
   induction ws with
   |nil=>rfl
   |cons w ws ih=>show ih
  have h2:aq eqP (eB jt (aj (aa 1) ao)) (aa 0) E=!(.sh (.bl true),E):=by show cN (vD rfl rfl rfl) rfl rfl rfl ?_;show some (Lc.sh (.bl ((((is.map PV.int).length:Nat):Int)==s)))=_;rw[aaW,<-hs,aii]
  have an:∀(f g:EF),f E=!(.sh (.bl true),E)->g E=!(.sh (.bl true),E)->m6 f g E=!(.sh (.bl true),E):=λf g hf hg=>by unfold m6;rw[hf,aaS];show hg
  show bh (aB (yY (yI rfl ∅) rfl) (bZ (an _ _ (ym rfl rfl rfl) (an _ _ h2 (vD (aC (iU rfl ec) rfl) rfl (by show (boolsOf ((is.map PV.int).map λ_=>PV.bl true)).map _=_;rw[bo,ahp,ba]))))))
theorem Gw{P V:PV}:∀(B:Bs)(D:List (Str×Int))(l2 l3 l4:Option Lc),tW D B->∃p2 p3 p4,iw vhr (aG (aO 4 (aM (aa 2) (akg 0))) (bY vdr Nx cu)) (ni (dcl D) (dg B)) (FE P V l2 l3 l4 mu)=!(.nx (FE P V p2 p3 p4 mu))
 |[],[]=>λl2 l3 l4 _=>#[l2,l3,l4,rfl]
 |(y,v)::B,(x,s)::D=>λl2 l3 l4 h=>by let a:Option Lc:=zS (.tup [.str x,.int s,.non]);let b:Option Lc:=zS v.pv;let(p2,p3,p4,e):=Gw B D a b (zT x) h.2.2;show#[p2,p3,p4,d9 rfl (aB rfl (yY (zX (b:=true) (dY (aY rfl rfl rfl rfl (aaG h.2.1)) rfl rfl)) rfl)) e]
 |[],_::_=>λ_ _ _ h=>h.elim
 |_::_,[]=>λ_ _ _ h=>h.elim
def tW.len:∀{D:List (Str×Int)}{B:Bs},tW D B->D.length=B.length:=λh=>by
 have:=congrArg List.length h.names
 lia
def refuse_eq(h:tW D B):qi [.tup [.lst (dcl D),gr,R3,R4],.lst (dg B)] mu=!(.sh .non,mu):=by
 let P:PV:=.tup [.lst (dcl D),gr,R3,R4];let E:Ev:=FE P (.lst (dg B)) none none none mu;let(p2,p3,p4,e):=Gw B D none none none h;have t2:tT vdi aQ E=!(false,E):=by show dY (l:=.sh (.bl false)) (cN (vD rfl rfl rfl) rfl (vD rfl rfl rfl) rfl ?_) rfl rfl;show some (Lc.sh (.bl (not ((((dg B).length:Nat):Int)==(((dcl D).length:Nat):Int)))))=_;rw[aaW,aaW,h.len,aii];rfl
 show fP (aB (yY () rfl) (jo rfl e))
def acW:aU mu (k+1) (.lst (dg B))=.lst (dg B):=by show PV.lst ((dg B).map (aU mu k))=_;rw[agb];show congrArg PV.lst (agP λq _=>Yl k)
def acX:aU mu (k+3) (.lst (dcl D))=.lst (dcl D):=by show PV.lst ((dcl D).map (aU mu (k+2)))=_;rw[agb];show congrArg PV.lst (agP λq _=>rfl)
def qt(h:mu[n]?=!(!p)):aU mu (k+1) (.ptr n)=aU mu k p:=by show (match mu[n]? with |some (!p)=>aU mu k p |_=>.ptr n)=_;rw[h]
def Bc:List c7->Nat
 |[]=>0
 |m::ms=>m.2.2.length+Bc ms
abbrev MS.wd(s:MS):Str:=if s.sp then "spent" else "done"
structure Pr(D:List (Str×Int))(gs:List PV)(B:Bs)(fs:List Fn)(rs:Rows)(bu:Nat)(S:MS):Prop where
 su:tW D B
 g:BG B
 ok:(lr D gs fs rs).ok
 go:∃ns:List Nat,ns.length<=1000/\∀(N:Nat),Aw (PQ ((lr D gs fs rs).es) N (eO (oR fs []))) "main" ns/\∀I:Ix,∃m,Rn I (PQ ((lr D gs fs rs).es) N (eO (oR fs []))) m #[(bu:Int),"done",B,[[]],[],lb ns] S.as/\m<4900
 dn:S.D=[]
 fn:S.B.map (·.1)=B.map (·.1)
 nev:Bc S.ms<=80000
structure RE7(mu:Mu)(I:Ix)(S:MS):Prop where
 ls:I.r<I.p/\I.p<I.b/\I.b<I.o/\I.o<I.m/\I.m<I.d
 hl:I.d<mu.length
 hr:mu[I.r]?=!(!(bW "Running" (rF I (S.bu:Int) S.wd)))
 hb:∃ps,mu[I.b]?=!(!(.dk (cC S.B) ps))/\CB mu I.b (I.p+1) S.B ps
 hm:∃M,mu[I.m]?=!(!(.lst M))/\MO mu I.d M S.ms
section
variable {gr:PV}{rs:Rows}{gs:List PV}{fs:List Fn}{B:Bs}{D:List (Str×Int)}{bu:Nat}{mu:Mu}{S:MS}
def Ui(H:Pr D gs B fs rs bu S):∃mu' I,mL [(lr D gs fs rs).pv,.lst (dg B),.int (bu:Nat)] mu=!(.sh (.ptr I.r),mu')/\RE7 mu' I S/\I.r=mu.length/\∀c,c<mu.length->mu'[c]?=mu[c]?:=by
 let P:PV:=(lr D gs fs rs).pv;let V:PV:=.lst (dg B);let E0:Ev:=#[[zS P,zS V,zI (bu:Nat),none],mu];have s1:eN vgd E0=!(.nx E0):=by show fW (Hd (aY (ps:=[.tup [.lst (dcl D),aU mu 39 (.lst gs),aU mu 39 (.lst (fs.map Fn.pv)),aU mu 39 (.lst rs.pvs)],.lst (dg B)]) (aC rfl (aC rfl rfl)) ?_ rfl rfl (refuse_eq H.su)) rfl);show [PV.tup [aU mu 39 (.lst (dcl D)),aU mu 39 (.lst gs),aU mu 39 (.lst (fs.map Fn.pv)),aU mu 39 (.lst rs.pvs)],aU mu 40 ()]=_;rw[acX,acW]
 let(ns,hn,go):=H.go;let(mu1,I,N,ei,hI,g1,hlen,fr):=acV (mu:=mu) H.su.names H.g.nd H.g.l8 H.ok (λN=>(go N).1) hn;have s2:aO 3 vee E0=!(.nx (GE P V (.int (bu:Nat)) I mu1)):=by
  have mk:=Ti (C:="Running") (a:=aj (aa 0) vij) (Y:=E0) (Y1:=E0) rfl rfl ei;show bL mk ?_ ?_
  . show rfl
  . rw[<-hI];rfl
 let(m,R,hm):=(go N).2 I;let(mu',ew,(O,hO,K,q),f):=R P V (.int (bu:Nat)) mu1 #[_,rfl,g1];have hD:S.as.D=[]:=by unfold MS.as;rw[H.dn];rfl
 rw[hD]at q;have ew:qK 5000 stC stB (GE P V (.int (bu:Nat)) I mu1)=!(.nx (GE P V (.int (bu:Nat)) I mu')):=by rw[show 5000=((4999-m)+1)+m from by lia,ew];show T9 (abm q)
 let(M,m1,m2):=q.mo;let((ps,hb,hc),hk):=q.kb;show#[mu',I,bh (Y:=#[[zS P,zS V,zI (bu:Nat),none],mu']) (aB s1 (aB s2 (aB ew rfl))),#[q.ls,q.lt q.kd,q.hr,#[ps,q.al.at hb,hc],M,q.al.at m1,m2.mo q.al],hI,λc hc=>?_];rw[f.2 c () (),fr c hc]
def mX(k:Int)(e:gO):PV:=.tup [.int k,.str e.1,.int e.2.1,.int e.2.2]
def fJ:List c7->List PV
 |[]=>[]
 |m::ms=>m.2.2.map (mX m.1)++fJ ms
theorem QX:∀{ms:List c7},(fJ ms).length=Bc ms
 |[]=>rfl
 |m::ms=>by show (m.2.2.map (mX m.1)++fJ ms).length=m.2.2.length+Bc ms;rw[aaU,aaW,QX]
def rcF(k:Int):PV->PV
 |.tup [a,b,c]=>.tup [.int k,a,b,c]
 |p=>p
abbrev qQ(l0 l1 l2 l3 l4:Option Lc)(mu:Mu):Ev:=#[[l0,l1,l2,l3,l4],mu]
def Uj{es:List gO}{o:List (Option Lc)}(hl:es.length<=90000):iJ vfk dw veh (es.map gO.pv) #[[none,none,none,zI k],mu] []=!(es.map (mX k),mu):=by
 have ec:=u9 (b:=eG 3 vgi) (te:=bz vev) (λY=>∃a b c,Y=#[[a,b,c,zI k],mu]) (λY z74=>by let(a,b,c,e):=z74;rw[e]) (rcF k) (xs:=es.map gO.pv) (Y:=#[[none,none,none,zI k],mu]) #[_,_,_,rfl] ∅ (by
  rintro p hp Y ⟨a,b,c,rfl⟩;let(e,_,rfl):=abz.mp hp;show#[#[[zT e.1,zI e.2.1,zI e.2.2,zI k],mu],rfl,.sh (mX k e),#[[zT e.1,zI e.2.1,zI e.2.2,zI k],mu],rfl,rfl,_,_,_,rfl]) (by
  rintro p hp Y Y1 ⟨a,b,c,rfl⟩ e;let(q,_,rfl):=abz.mp hp;cases e;show#[_,_,_,rfl])
 rw[ec,agb];rfl
theorem Uk:∀(ms:List c7)(M:List PV)(lo:Nat)(mu:Mu)(ws:List PV)(l2 l3 l4:Option Lc),MO mu lo M ms->ws.length+Bc ms<=90000->∃mu' p2 p3 p4,iw vfm
 vas M (qQ l0 (zO ws) l2 l3 l4 mu)=!(.nx (qQ l0 (zO (ws++fJ ms)) p2 p3 p4 mu'))/\mu'.length=mu.length/\∀c,c<=lo->mu'[c]?=mu[c]?
 |[]=>λM lo mu ws l2 l3 l4 h _=>by have h:M=[]:=h;subst h;show#[mu,l2,l3,l4,by rw[show fJ []=[] from rfl,abv];rfl,rfl,λ_ _=>rfl]
 |m::ms=>λM lo mu ws l2 l3 l4 z8 hl=>by
  let(c,rest,e,h1,h2,h):=z8
  subst e;have hl':ws.length+(m.2.2.length+Bc ms)<=90000:=hl;let K:Option Lc:=zI m.1;let T:Option Lc:=zI m.2.1;let C:Option Lc:=zS (.ptr c);let W:Option Lc:=zO ws;have h':MO (mu.set c none) c rest ms:=h.frame λd q _=>agc ();let(mu',p2,p3,p4,el,ln,fr):=Uk (l0:=l0) ms rest c (mu.set c none) (ws++m.2.2.map (mX m.1)) K T C h' (by rw[aaU,aaW];lia);have em:jd (tu (aa 4)) dW (qQ l0 W K T C mu)=!(m.2.2.map gO.pv,qQ l0 W K T C (mu.set c none)):=sV (QJ (Y1:=qQ l0 W K T C mu) (x:=.sh (.ptr c)) rfl rfl h2) rfl;have ec:=iU (f:=jd (tu (aa 4)) dW) (m:=3) (ixs:=[2]) em (Uj (k:=m.1) (es:=m.2.2) (mu:=mu.set c none) (o:=[]) ());show#[mu',p2,p3,p4,d9 (Y1:=qQ l0 W K T C mu) (Y2:=qQ l0 (zO (ws++m.2.2.map (mX m.1))) K T C (mu.set c none)) rfl (DR (ws0:=ws) (ws:=ws) (ps:=m.2.2.map (mX m.1)) rfl ec rfl rfl (by rw[aaW];lia) rfl) ?_,by rw[ln,agd],λd hd=>?_]
  . rw[show fJ (m::ms)=m.2.2.map (mX m.1)++fJ ms from rfl,<-aba];show el
  . rw[fr d (),agc ()]
def Yv{m lo:Nat}(hm:mu[m]?=!(!(.lst M)))(hlo:m<=lo)(h:MO mu lo M ms)(hl:Bc ms<=90000):∃mu',uU [.ptr m] mu=!(.own (.lst (fJ ms)),mu')/\mu'.length=mu.length/\∀c,c<=lo->c≠m->mu'[c]?=mu[c]?:=by let(mu',p2,p3,p4,el,ln,fr):=Uk ms M lo (mu.set m none) [] none none none (h.frame λd q _=>agc ()) ∅;show#[mu',bh (Y:=qQ (zS (.ptr m)) none p2 p3 p4 mu') (aB rfl (aB (jo (sV (QJ rfl rfl hm) rfl) el) rfl)),by rw[ln,agd],λc hc hn=>by rw[fr c hc,agc ()]]
theorem Ul:∀{B:Bs}{ps:List PV},(B.map (·.1)).Nodup->ps.length=B.length->(B.map λq=>(bQ ((cC B).zip ps) (.inr q.1)).getD .non)=ps
 |[],[]=>λ_ _=>rfl
 |[],_::_=>λ_ h=>by simp at h
 |_::_,[]=>λ_ h=>by simp at h
 |(y,v)::B,p::ps=>λnd h=>by
  let(hy,nd'):=agT.mp nd;have ev:∀x,bQ ((cC ((y,v)::B)).zip (p::ps)) (.inr x)=if (Sum.inr y:Key)=.inr x then !p else bQ ((cC B).zip ps) (.inr x):=λx=>rfl
  show (bQ ((cC ((y,v)::B)).zip (p::ps)) (.inr y)).getD .non::(B.map λq=>(bQ ((cC ((y,v)::B)).zip (p::ps)) (.inr q.1)).getD .non)=_;rw[ev,aic rfl];show c2 rfl (Eq.trans (agP λq hq=>?_) (Ul nd' (by simpa using h)));rw[ev,aid λe=>hy (by rw[show y=q.1 from Sum.inr.inj e];show abz.mpr #[q,hq,rfl])]
def Wb(hD:D.map (·.1)=C.map (·.1))(nd:(C.map (·.1)).Nodup)(h1:C.length<=100)(hb:mu[b]?=!(!(.dk (cC C) ps)))(hl:ps.length=C.length):yu [.tup [.lst (dcl D),gr,R3,R4],.ptr b] mu=!(.own (.lst ps),mu):=by
 let P:PV:=.tup [.lst (dcl D),gr,R3,R4];let E:Ev:=#[[zS P,zS (.ptr b)],mu];let f:PV->PV:=λp=>match p with
  |.tup (.str x::_)=>(bQ ((cC C).zip ps) (.inr x)).getD .non
  |_=>.non
 have hin:∀x∈D.map (·.1),∃p,bQ ((cC C).zip ps) (.inr x)=!p:=λx hx=>by
  rw[hD]at hx;cases h:bQ ((cC C).zip ps) (.inr x) with
  |some p=>show#[p,rfl]
  |none=>
   exfalso;have key:∀(ks:List Key) (qs:List PV),qs.length=ks.length->(.inr x:Key)∈ks->bQ (ks.zip qs) (.inr x)≠none:=λks=>by
    induction ks with
    |nil=>intro qs _ h;cases h
    |cons k ks ih=>
     intro qs hq hk;cases qs with
     |nil=>simp at hq
     |cons q qs=>
      show (if k=.inr x then !q else bQ (ks.zip qs) (.inr x))≠none;split
      . show λe=>by cases e
      . rename_i hne;obtain e|e:=abw.mp hk
        . show absurd e.symm hne
        . show ih qs (by simpa using hq) e
   let(q,hq,e):=abz.mp hx;show key _ _ (by rw[aaW];show hl) (abz.mpr #[q,hq,by rw[<-e]]) h
 have ec:=u9 (b:=eG 3 (aL (aF 0) (aL (aF 1) (aL (aF 2) dU)))) (te:=xj (aa 3) (aa 0)) (mu:=mu) (λY=>∃a b' c,Y=#[[a,b',c,zS (.ptr b)],mu]) (λY z75=>by let(a,b',c,e):=z75;rw[e]) f (xs:=dcl D) (Y:=#[[none,none,none,zS (.ptr b)],mu]) #[_,_,_,rfl] (by rw[aaW,<-aaW (f:=(·.1)),hD,aaW];lia) (by
  rintro p hp Y ⟨a,b',c,rfl⟩;let(q,hq,rfl):=abz.mp hp;let(w,hw):=hin q.1 (abz.mpr #[q,hq,rfl]);show#[#[[zT q.1,zI q.2,!(.sh .non),zS (.ptr b)],mu],rfl,.sh w,#[[zT q.1,zI q.2,!(.sh .non),zS (.ptr b)],mu],QH (x:=.sh (.ptr b)) (y:=.sh (.str q.1)) (k:=.inr q.1) rfl rfl rfl rfl hb hw,?_,_,_,_,rfl];show w=(bQ ((cC C).zip ps) (.inr q.1)).getD .non;rw[hw];rfl) (by
  rintro p hp Y Y1 ⟨a,b',c,rfl⟩ e;let(q,_,rfl):=abz.mp hp;cases e;show#[_,_,_,rfl])
 have ef:(dcl D).map f=ps:=by
  rw[agb];have e1:D.map (f ∘ λq=>PV.tup [.str q.1,.int q.2,.non])=(D.map (·.1)).map λx=>(bQ ((cC C).zip ps) (.inr x)).getD .non:=by rw[agb];rfl
  rw[e1,hD,agb];show Ul nd hl
 rw[ef]at ec;have e2:=iU (f:=jd (aM (aa 0) (akg 0)) dW) (m:=3) (ixs:=[1]) (Y:=E) (Y1:=E) (sV (l:=.sh (.lst (dcl D))) rfl rfl) ec;show bh (Y:=E) (bZ e2)
end
section
variable {rs:Rows}{gs:List PV}{fs:List Fn}{B:Bs}{D:List (Str×Int)}{bu:Nat}{mu:Mu}{S:MS}
abbrev jE(S:MS):PV:=.tup [.str S.wd,.lst (fJ S.ms),.lst (dg S.B)]
def Hz:(fJ ms).map (aU mu (k+2))=fJ ms:=by
 induction ms with
 |nil=>rfl
 |cons m ms ih=>
  show (m.2.2.map (mX m.1)++fJ ms).map (aU mu (k+2))=m.2.2.map (mX m.1)++fJ ms;rw[ady,ih,agb];show congrArg (·++fJ ms) (agP λe _=>rfl)
def ae1(H:Pr D gs B fs rs bu S):∃mu' q v ps,v7 [(lr D gs fs rs).pv,.lst (dg B),.int (bu:Nat)] mu=!(.sh (.tup [.str S.wd,.ptr q,.ptr v]),mu')/\mu.length<=q/\q<v/\v<mu'.length/\mu'[q]?=!(!(.lst (fJ S.ms)))/\mu'[v]?=!(!(.lst ps))/\(∀m2:Mu,(∀c,c<mu'.length->mu.length<=c->c≠v->m2[c]?=mu'[c]?)->∀k,ps.map (aU m2 (k+1))=dg S.B)/\∀c,c<mu.length->mu'[c]?=mu[c]?:=by
 let P:PV:=(lr D gs fs rs).pv;let V:PV:=.lst (dg B);let(mu1,I,eg,R,hI,fr):=Ui (mu:=mu) H;let(M,hm,Mo):=R.hm;let(l1,l2,l3,l5,l6):=R.ls;have nm:=H.fn;have ln:S.B.length=B.length:=by have:=congrArg List.length nm;rwa [aaW,aaW]at this
 have ne:=H.nev;have hl:=R.hl;let(ps,hb,hc):=R.hb;let(mu2,er,len2,fr2):=Yv hm () Mo ();let mu3:Mu:=mu2++[!(.lst (fJ S.ms))];let mu4:Mu:=mu3++[!(.lst ps)];have len3:mu3.length=mu2.length+1:=by show (mu2++[_]).length=_;rw[aaU];rfl
 have len4:mu4.length=mu2.length+2:=by show (mu3++[_]).length=_;rw[aaU,len3];rfl
 have a3:∀c,c<=I.d->c≠I.m->mu3[c]?=mu1[c]?:=λc h1 h2=>by show (mu2++[_])[c]?=_;rw[mU (),fr2 c h1 h2]
 have a4:∀c,c<=I.d->c≠I.m->mu4[c]?=mu1[c]?:=λc h1 h2=>by show (mu3++[_])[c]?=_;rw[mU (),a3 c h1 h2]
 have hc4:=hc.frame λc _ q=>a4 c () ();let E:=λmu=>(#[[zS P,zS V,zI (bu:Nat),zS (.ptr I.r)],mu]:Ev);have q3:mu4[mu2.length]?=!(!(.lst (fJ S.ms))):=by show (mu3++[_])[mu2.length]?=_;rw[mU ()];show List.getElem?_concat_length
 show#[mu4,mu2.length,mu3.length,ps,bh (Y:=E mu4) (aB (bL (aY rfl rfl rfl rfl eg) rfl rfl) (bZ (fQ (aC (eV rfl rfl R.hr rfl) (aC (jN (aY (aC (eV rfl rfl R.hr rfl) rfl) rfl rfl rfl er)) (aC (jN (aY (Y1:=E mu3) (aC rfl (aC (eV rfl rfl ((a3 I.r () ()).trans R.hr) rfl) rfl)) rfl rfl rfl (Wb (by rw[H.su.names,nm]) (by rw[nm];show H.g.nd) (by rw[ln];show H.g.l8) ((a3 I.b () ()).trans hb) hc.len))) rfl))) rfl rfl))),(),(),(),q3,List.getElem?_concat_length,λm2 hm2 k=>?_,λc hc=>(a4 c () ()).trans (fr c hc)];show(hc4.frame λc c1 c2=>hm2 c () () ()).res
def acY:aU mu (k+3) (evs es)=evs es:=by show PV.lst ((es.map gO.pv).map (aU mu (k+2)))=_;rw[agb];show congrArg PV.lst (agP λe _=>rfl)
theorem MO.res:∀{lo:Nat}{M:List PV}{ms:List c7},MO mu lo M ms->M.map (aU mu (k+5))=ms.map c7.pv
 |lo,M,[]=>λh=>by  subst h;rfl
 |lo,M,m::ms=>λz3=>by let(c,rest,e,h1,h2,h):=z3;subst e;show c2 ?_ h.res;show PV.tup [.int m.1,.int m.2.1,aU mu (k+4) (.ptr c)]=_;rw[qt h2,acY];rfl
def Yw(H:Pr D gs B fs rs bu S):∃mu' n M,nC [(lr D gs fs rs).pv,.lst (dg B),.int (bu:Nat)] mu=!(.sh (.ptr n),mu')/\mu'[n]?=!(!(.lst M))/\MO mu' n M S.ms/\mu.length<=n/\∀c,c<mu.length->mu'[c]?=mu[c]?:=by
 let(mu1,I,eg,R,hI,fr):=Ui H;let(M,hm,Mo):=R.hm;let(l1,l2,l3,l5,l6):=R.ls;have lowMO:∀{lo lo':Nat}{M:List PV}{ms:List c7},lo'<=lo->MO mu1 lo M ms->MO mu1 lo' M ms:=λ{lo lo' M ms} h q=>by
  cases ms with
  |nil=>show q
  |cons m ms=>
   let(c,rest,e,h1,h2,h3):=q;show#[c,rest,e,(),h2,h3]
 show#[mu1,I.m,M,bh (bZ (eV (aY rfl rfl rfl rfl eg) rfl R.hr rfl)),hm,lowMO () Mo,(),fr]
end
mutual
def nice:PV->Bool
 |.int _=>true
 |.str _=>true
 |.tup ps=>Wc ps
 |.lst ps=>Wc ps
 |_=>false
def Wc:List PV->Bool
 |[]=>true
 |p::ps=>nice p&&Wc ps
end
mutual
def dpN:PV->Nat
 |.tup ps=>aaH ps+1
 |.lst ps=>aaH ps+1
 |_=>1
def aaH:List PV->Nat
 |[]=>0
 |p::ps=>max (dpN p) (aaH ps)
end
def QZ{e:Ent}{j:Nat}(h:e.ab=.int j):e.key≠KB f:=by unfold Ent.key;rw[h];intro q;injection q with _ q;injection q with q _;cases q
def Row.pos_body(r:Row)(w:Str)(k:Nat):pos (KB w) k (r.es w .non 0 k)=[k]:=by
 have sub:∀(rs:Rows)(c:Int)(s:Nat),k<s->pos (KB w) s (rs.es w (.int (k:Nat)) c s)=[]:=λrs c s hs=>wF λe he=>by
  obtain h|⟨m,h,_⟩:=(Rows.abs rs w (.int (k:Nat)) c s e he)
  . show QZ h
  . show QZ h
 have own:∀r:Row,(#[w,.non,0,r]:Ent).key=KB w:=λ_=>rfl;cases r with
 |leaf x ps=>show (if _ then _ else _)=_;rw[aic (own _)];rfl
 |call x n as=>show (if _ then _ else _)=_;rw[aic (own _)];rfl
 |wh x c=>
  show (if _ then _ else _)=_;lia
 |iff x c d=>
  show (if _ then _ else _)=_;rw[aic (own _),lF,Rows.es_len,sub c 0 (k+1) (),sub d 1 (k+1+c.cnt) ()];rfl
theorem Rows.pos_body:∀(rs:Rows)(w:Str)(k:Nat),pos (KB w) k (rs.es w .non 0 k)=rs.nums k
 |.nil=>λw k=>rfl
 |.cons r rs=>λw k=>by show pos _ k (r.es w .non 0 k++rs.es w .non 0 (k+r.cnt))=_;rw[lF,Row.pos_body r w k,Row.es_len,Rows.pos_body rs w (k+r.cnt)];rfl
mutual
theorem Row.home:∀(r:Row)(w:Str)(ab:PV)(bl:Int)(k:Nat),∀e∈r.es w ab bl k,e.w=w
 |.leaf _ _=>λw ab bl k e he=>by rw[agk.mp he]
 |.call _ _ _=>λw ab bl k e he=>by rw[agk.mp he]
 |.wh x b=>λw ab bl k e he=>by
  obtain rfl|he:=abw.mp he
  . rfl
  . show Rows.home b w _ _ _ e he
 |.iff x b c=>λw ab bl k e he=>by
  obtain rfl|he:=abw.mp he
  . rfl
  . obtain he|he:=adY.mp he
    . show Rows.home b w _ _ _ e he
    . show Rows.home c w _ _ _ e he
theorem Rows.home:∀(rs:Rows)(w:Str)(ab:PV)(bl:Int)(k:Nat),∀e∈rs.es w ab bl k,e.w=w
 |.nil=>λw ab bl k e he=>by cases he
 |.cons r rs=>λw ab bl k e he=>by
  obtain he|he:=adY.mp he
  . show Row.home r w _ _ _ e he
  . show Rows.home rs w _ _ _ e he
end
def Rows.pos_other(h:w≠f)(rs:Rows)(k:Nat):pos (KB f) k (rs.es w .non 0 k)=[]:=wF λe he q=>by have g:=Rows.home rs w .non 0 k e he;unfold Ent.key at q;injection q with q _;injection q with q;injection q with q;show h (g.symm.trans q)
abbrev Seg:=Str×Rows
def j5:List Seg->Nat->List Ent
 |[],_=>[]
 |q::l,k=>q.2.es q.1 .non 0 k++j5 l (k+q.2.cnt)
def cD:List Seg->Nat
 |[]=>0
 |q::l=>q.2.cnt+cD l
theorem nJ:∀(l:List Seg)(k:Nat),(j5 l k).length=cD l
 |[]=>λk=>rfl
 |q::l=>λk=>by show (q.2.es q.1 .non 0 k++j5 l (k+q.2.cnt)).length=q.2.cnt+cD l;rw[aaU,Rows.es_len,nJ l]
theorem CG:∀(a b:List Seg)(k:Nat),j5 (a++b) k=j5 a k++j5 b (k+cD a)
 |[]=>λb k=>rfl
 |q::a=>λb k=>by show q.2.es q.1 .non 0 k++j5 (a++b) (k+q.2.cnt)=(q.2.es q.1 .non 0 k++j5 a (k+q.2.cnt))++j5 b (k+(q.2.cnt+cD a));rw[CG a b,aba,ah3]
theorem KR:∀(l:List Seg)(k:Nat),∀e∈j5 l k,tR .non k (k+cD l) e
 |[]=>λk e he=>by cases he
 |q::l=>λk e he=>by
  have hs:cD (q::l)=q.2.cnt+cD l:=rfl;obtain he|he:=adY.mp he
  . show(Rows.abs q.2 q.1 .non 0 k e he).mono () ()
  . show(KR l (k+q.2.cnt) e he).mono () ()
def HD{a b:List Seg}:nH (j5 (a++(w,rs)::b) 0) w .non 0 (cD a) rs:=by
 show#[#[j5 a 0,j5 b (cD a+rs.cnt),?_,nJ a 0,λe he=>?_],.inl rfl]
 . rw[CG,ahQ];rfl
 . have key:∃s t,tR .non s t e/\(t<=cD a\/cD a+rs.cnt<=s):=by
    obtain he|he:=adY.mp he
    . show#[0,0+cD a,KR a 0 e he,.inl ()]
    . show#[_,_,KR b (cD a+rs.cnt) e he,.inr (aa0 _)]
   let(s,t,g,hst):=key;show#[g.num (k:=0) (.inl rfl),λm h1 h2=>g.ne (λq=>by cases q) ()]
theorem Um:∀(l:List Seg)(k:Nat),∀j∈pos (KB f) k (j5 l k),∃a rs b,l=a++(f,rs)::b/\j∈rs.nums (k+cD a)
 |[]=>λk j hj=>by cases hj
 |q::l=>λk j hj=>by
  have e1:pos (KB f) k (j5 (q::l) k)=pos (KB f) k (q.2.es q.1 .non 0 k)++pos (KB f) (k+q.2.cnt) (j5 l (k+q.2.cnt)):=by show pos _ k (q.2.es q.1 .non 0 k++_)=_;rw[lF,Rows.es_len]
  rw[e1]at hj;obtain hj|hj:=adY.mp hj
  . by_cases h:q.1=f
    . rw[h,Rows.pos_body]at hj;show#[[],q.2,l,by rw[<-h];rfl,hj]
    . rw[Rows.pos_other h]at hj;cases hj
  . let(a,rs,b,e,h):=Um l (k+q.2.cnt) j hj;show#[q::a,rs,b,by rw[e];rfl,by rw[show k+cD (q::a)=k+q.2.cnt+cD a from by show k+(q.2.cnt+cD a)=_;omega];show h]
mutual
def Row.gd(Q:AR->Prop):Row->Prop
 |.leaf w ps=>∃a,Cz a (.tup (.str w::ps))/\Q a
 |.call b n as=>∃a,Cz a (.tup [.str "call",b,.str n,.lst as])/\Q a
 |.wh e b=>(∃x:Ex,e=x.pv/\x.dp<=40/\Q (.wh x))/\b.gd Q
 |.iff e b c=>(∃x:Ex,e=x.pv/\x.dp<=40/\Q (.fi x))/\b.gd Q/\c.gd Q
def Rows.gd(Q:AR->Prop):Rows->Prop
 |.nil=>True
 |.cons r rs=>r.gd Q/\rs.gd Q
end
def Row.gd_ar:∀{r:Row},r.gd Q->∃a,Cz a r.pv/\Q a
 |.leaf w ps,h=>h
 |.call b n as,h=>h
 |.wh e b,#[#[x,e1,e2,e3],_]=>#[.wh x,#[#[_,by rw[<-e1];rfl],e2],e3]
 |.iff e b c,#[#[x,e1,e2,e3],_]=>#[.fi x,#[#[_,_,by rw[<-e1];rfl],e2],e3]
mutual
theorem Row.sits_in:∀(r:Row)(ab:PV)(bl:Int)(k:Nat),mV es w ab bl k r->r.gd Q->∀j,k<=j->j<k+r.cnt->∃ab bl r',mV es w ab bl j r'/\r'.gd Q
 |.leaf x ps=>λab bl k h g j h1 h2=>by
  have:j=k:=by simp only[Row.cnt]at h2;lia
  lia
 |.call x n as=>λab bl k h g j h1 h2=>by
  have:j=k:=by simp only[Row.cnt]at h2;lia
  lia
 |.wh x b=>λab bl k h g j h1 h2=>by
  by_cases e:j=k
  . lia
  . simp only[Row.cnt]at h2;show Rows.sits_in b _ _ _ h.wh g.2 j () ()
 |.iff x b c=>λab bl k h g j h1 h2=>by
  by_cases e:j=k
  . lia
  . simp only[Row.cnt]at h2;by_cases e2:j<k+1+b.cnt
    . show Rows.sits_in b _ _ _ h.iff.1 g.2.1 j () e2
    . show Rows.sits_in c _ _ _ h.iff.2 g.2.2 j () ()
theorem Rows.sits_in:∀(rs:Rows)(ab:PV)(bl:Int)(k:Nat),nH es w ab bl k rs->rs.gd Q->∀j,k<=j->j<k+rs.cnt->∃ab bl r',mV es w ab bl j r'/\r'.gd Q
 |.nil=>λab bl k h g j h1 h2=>by simp only[Rows.cnt]at h2;lia
 |.cons r rs=>λab bl k h g j h1 h2=>by
  simp only[Rows.cnt]at h2;by_cases e:j<k+r.cnt
  . show Row.sits_in r _ _ _ h.cons.1 g.1 j h1 e
  . show Rows.sits_in rs _ _ _ h.cons.2 g.2 j () ()
end
theorem Rows.nums_len:∀(rs:Rows)(k:Nat),(rs.nums k).length<=rs.cnt
 |.nil=>λk=>aa0 _
 |.cons r rs=>λk=>by have hc:=r.cnt_pos;have:=Rows.nums_len rs (k+r.cnt);show (rs.nums (k+r.cnt)).length+1<=r.cnt+rs.cnt;lia
def pY(es:List Ent)(k:Nat):Nat:=match es[k]? with
 |some e=>e.r.cnt
 |none=>1
def ae2:0<pY es k:=by
 unfold pY;split
 . show Row.cnt_pos _
 . decide
def mV.wt{ab:PV}(h:mV es w ab bl k r):pY es k=r.cnt:=by unfold pY;rw[h.get]
theorem nH.sum{ab:PV}:∀{rs:Rows}{k:Nat},nH es w ab bl k rs->kW (pY es) (rs.nums k)=rs.cnt
 |.nil,k=>λh=>rfl
 |.cons r rs,k=>λh=>by show pY es k+kW (pY es) (rs.nums (k+r.cnt))=r.cnt+rs.cnt;rw[h.cons.1.wt,h.cons.2.sum]
def mV.sum{ab:PV}(h:mV es w ab bl k r)(i:Int):kW (pY es) (r.bnums k i)<r.cnt:=by
 cases r with
 |leaf x ps=>show Nat.zero_lt_one
 |call x n as=>show Nat.zero_lt_one
 |wh x b=>
  show kW _ (if i=0 then b.nums (k+1) else [])<b.cnt+1;split
  . rw[h.wh.sum];lia
  . show Nat.succ_pos _
 |iff x b c=>
  show kW _ (if i=0 then b.nums (k+1) else if i=1 then c.nums (k+1+b.cnt) else [])<b.cnt+c.cnt+1;split
  . rw[h.iff.1.sum];lia
  . split
    . rw[h.iff.2.sum];lia
    . show Nat.succ_pos _
theorem Q4:∀{a b:List Nat},kW w (a++b)=kW w a+kW w b
 |[],b=>(ahQ _).symm
 |k::a,b=>by show w k+kW w (a++b)=w k+kW w a+kW w b;rw[Q4,ah3]
theorem Q5:∀(l a:List Seg),all=a++l->kW (pY (j5 all 0)) (pos (KB f) (cD a) (j5 l (cD a)))<=cD l
 |[]=>λa e=>aa0 _
 |q::l=>λa e=>by
  have e1:pos (KB f) (cD a) (j5 (q::l) (cD a))=pos (KB f) (cD a) (q.2.es q.1 .non 0 (cD a))++pos (KB f) (cD a+q.2.cnt) (j5 l (cD a+q.2.cnt)):=by show pos _ _ (q.2.es q.1 .non 0 _++_)=_;rw[lF,Rows.es_len]
  have e2:cD (a++[q])=cD a+q.2.cnt:=by have:=CG a [q] 0;have h:=congrArg List.length this;rw[nJ,aaU,nJ,nJ]at h;rw[h];rfl
  have ih:=Q5 (f:=f) (all:=all) l (a++[q]) (by rw[e,aba];rfl);rw[e2]at ih;rw[e1,Q4];have hc:cD (q::l)=q.2.cnt+cD l:=rfl;by_cases h:q.1=f
  . have s:nH (j5 all 0) q.1 .non 0 (cD a) q.2:=by rw[e];show HD
    have:=s.sum;rw[h,Rows.pos_body,this];lia
  . rw[Rows.pos_other h];show 0+_<=_;lia
structure TF where
 name:Str
 prm:List Str
 rows:Rows
def TF.fn(t:TF):Fn:=#[t.name,.non,t.prm.map (λx=>.tup [.str x,.non]),t.rows]
def rW:List TF->Str->List Str
 |[],_=>[]
 |t::ts,f=>if t.name=f then t.prm else rW ts f
abbrev mY(ts:List TF)(rs:Rows):List Seg:=ts.map (λt=>(t.name,t.rows))++[((("main" : Str),rs):Seg)]
def Uo:bQ (fZ l k v) k'=if k=k' then !v else bQ l k':=by
 have rp:∀{l:PD},(bQ l k).isSome=true->bQ (j0 k v l) k'=if k=k' then !v else bQ l k':=λ{l}=>by
  induction l with
  |nil=>intro h;cases h
  |cons kv l ih=>
   intro h;show (if (if kv.1=k then (kv.1,v) else kv).1=k' then !(if kv.1=k then (kv.1,v) else kv).2 else bQ (j0 k v l) k')=if k=k' then !v else if kv.1=k' then !kv.2 else bQ l k'
   by_cases e:kv.1=k
   . rw[aic e];by_cases e2:k=k'
     . rw[aic e2,aic (e.trans e2)]
     . rw[aid e2,aid (λq=>e2 (e.symm.trans q)),aid (λq=>e2 (e.symm.trans q))];have nr:∀l:PD,bQ (j0 k v l) k'=bQ l k':=λl=>by
        induction l with
        |nil=>rfl
        |cons kv l ih=>
         show (if (if kv.1=k then (kv.1,v) else kv).1=k' then !(if kv.1=k then (kv.1,v) else kv).2 else bQ (j0 k v l) k')=if kv.1=k' then !kv.2 else bQ l k'
         by_cases e:kv.1=k
         . rw[aic e,aid (λq=>e2 (e.symm.trans q)),aid (λq=>e2 (e.symm.trans q)),ih]
         . rw[aid e,ih]
       show nr l
   . rw[aid e];have h:(bQ l k).isSome=true:=by
      have h:(if kv.1=k then !kv.2 else bQ l k).isSome=true:=h
      rwa [aid e]at h
     rw[ih h];by_cases e2:k=k'
     . rw[aic e2,aic e2,aid (λq=>e (q.trans e2.symm))]
     . rw[aid e2,aid e2]
 have ap:∀{l:PD},bQ l k=none->bQ (l++[(k,v)]) k'=if k=k' then !v else bQ l k':=λ{l}=>by
  induction l with
  |nil=>intro _;rfl
  |cons kv l ih=>
   intro h;have h:(if kv.1=k then !kv.2 else bQ l k)=none:=h;by_cases e:kv.1=k
   . rw[aic e]at h;cases h
   . rw[aid e]at h;show (if kv.1=k' then !kv.2 else bQ (l++[(k,v)]) k')=if k=k' then !v else if kv.1=k' then !kv.2 else bQ l k'
     rw[ih h];by_cases e2:k=k'
     . rw[aic e2,aic e2,aid (λq=>e (q.trans e2.symm))]
     . rw[aid e2,aid e2]
 unfold fZ;cases h:bQ l k with
 |none=>show ap h
 |some w=>show rp (by rw[h];rfl)
def afV(t:TF):t.fn.params.map Jy=t.prm.map .str:=by show (t.prm.map λx=>PV.tup [.str x,.non]).map Jy=_;rw[agb];rfl
theorem Q6:∀(ts:List TF)(d:PD),f∉ts.map (·.name)->bQ (oR (ts.map TF.fn) d) (.inr f)=bQ d (.inr f)
 |[]=>λd _=>rfl
 |t::ts=>λd h=>by show bQ (oR (ts.map TF.fn) (fZ d (.inr t.name) _)) _=_;rw[Q6 ts _ (λq=>h (abl _ q)),Uo,aid λq=>h ∅]
theorem Yx:∀(ts:List TF)(d:PD),(ts.map (·.name)).Nodup->f∈ts.map (·.name)->bQ (oR (ts.map TF.fn) d) (.inr f)=!(.lst ((rW ts f).map .str))
 |[]=>λd _ h=>by cases h
 |t::ts=>λd nd h=>by
  let(n1,n2):=agT.mp nd;show bQ (oR (ts.map TF.fn) (fZ d (.inr t.name) (.lst (t.fn.params.map Jy)))) _=!(.lst ((if t.name=f then t.prm else rW ts f).map .str));by_cases e:t.name=f
  . subst e;rw[Q6 ts _ n1,Uo,aic rfl,aic rfl,afV]
  . rw[aid e];obtain h|h:=abw.mp h
    . lia
    . show Yx ts _ n2 h
theorem Up:∀(ts:List TF)(k:Nat),Dj (ts.map TF.fn) k=j5 (ts.map λt=>(t.name,t.rows)) k
 |[]=>λk=>rfl
 |t::ts=>λk=>by show t.rows.es t.name .non 0 k++Dj (ts.map TF.fn) (k+t.rows.cnt)=_;rw[Up ts];rfl
theorem HF:∀(ts:List TF),tQ (ts.map TF.fn)=cD (ts.map λt=>(t.name,t.rows))
 |[]=>rfl
 |t::ts=>by show t.rows.cnt+tQ (ts.map TF.fn)=_;rw[HF ts];rfl
def Yy:(lr D gs (ts.map TF.fn) rs).es=j5 (mY ts rs) 0:=by rw[CG,ahQ];show Dj (ts.map TF.fn) 0++rs.es "main" .non 0 (tQ (ts.map TF.fn))=_++(rs.es "main" .non 0 _++[]);rw[Up,HF,abv]
def Bd(ts:List TF)(f:Str):List Str:=if f∈ts.map (·.name) then f::rW ts f else []
def QR(B0:Bs)(ts:List TF)(w:Str):AR->Prop
 |.set x e=>jW (B0++tmp (Bd ts w)) x/\e.ok (B0++tmp (Bd ts w))
 |.put x p e=>qP B0 x/\p.ok (B0++tmp (Bd ts w))/\e.ok (B0++tmp (Bd ts w))
 |.fi e=>e.ok (B0++tmp (Bd ts w))
 |.wh e=>e.ok (B0++tmp (Bd ts w))
 |.call x f es=>jW (B0++tmp (Bd ts w)) x/\(∀e∈es,e.ok (B0++tmp (Bd ts w)))/\es.length=(rW ts f).length/\f∈ts.map (·.name)
structure PC(B0:Bs)(ts:List TF)(rs:Rows):Prop where
 gd:∀q∈mY ts rs,q.2.gd (QR B0 ts q.1)
 nd:(B0.map (·.1)).Nodup
 nn:(ts.map (·.name)).Nodup
 nm:("main" : Str)∉ts.map (·.name)
 nf:∀t∈ts,(t.name::t.prm).Nodup/\(∀x∈t.name::t.prm,x∉B0.map (·.1))/\t.prm.length<=10
 l8:B0.length<=50
 bk:yF B0
 ct:cD (mY ts rs)<=120
open Classical in
def oX(B0:Bs)(ts:List TF)(es:List Ent):GD where
 row k:=if h:∃a,∃e,es[k]?=!e/\Cz a e.r.pv/\QR B0 ts e.w a then h.choose else .call "" "" []
 blk k i:=match es[k]? with
  |some e=>pos (KEY e.w k i) 0 es
  |none=>[]
 body f:=pos (KB f) 0 es
 prm:=rW ts
 fns:=ts.map (·.name)
def oY(es:List Ent)(k:Nat):Str:=match es[k]? with
 |some e=>e.w
 |none=>""
section
variable {B0:Bs}{ts:List TF}{rs:Rows}
abbrev dO(ts:List TF)(rs:Rows):List Ent:=j5 (mY ts rs) 0
theorem seg_at:∀(l:List Seg)(j:Nat),j<cD l->∃a w r b,l=a++(w,r)::b/\cD a<=j/\j<cD a+r.cnt
 |[]=>λj h=>by cases h
 |q::l=>λj h=>by
  have h:j<q.2.cnt+cD l:=h;by_cases c:j<q.2.cnt
  . show#[[],q.1,q.2,l,rfl,agY _,by show j<0+_;lia]
  . let(a,w,r,b,e,h1,h2):=seg_at l (j-q.2.cnt) ();have hs:cD (q::a)=q.2.cnt+cD a:=rfl;lia
def PC.sits(P:PC B0 ts rs)(h:k<cD (mY ts rs)):∃w ab bl r,mV (dO ts rs) w ab bl k r/\r.gd (QR B0 ts w):=by
 let(a,w,r,b,e,h1,h2):=seg_at _ k h;have s:nH (dO ts rs) w .non 0 (cD a) r:=by unfold dO;rw[e];show HD
 let(ab,bl,r',q1,q2):=Rows.sits_in r _ _ _ s (P.gd (w,r) (by rw[e];show agi _ aaV)) k h1 h2;show#[w,ab,bl,r',q1,q2]
def PC.row(P:PC B0 ts rs)(h:k<cD (mY ts rs)):∃w ab bl r,mV (dO ts rs) w ab bl k r/\oY (dO ts rs) k=w/\Cz ((oX B0 ts (dO ts rs)).row k) r.pv/\QR B0 ts w ((oX B0 ts (dO ts rs)).row k)/\∀i:Nat,(oX B0 ts (dO ts rs)).blk k i=r.bnums k i:=by
 let(w,ab,bl,r,s,g):=P.sits h;let(a,a1,a2):=Row.gd_ar g;have hx:∃a,∃e,(dO ts rs)[k]?=!e/\Cz a e.r.pv/\QR B0 ts e.w a:=#[a,_,s.get,a1,a2];have er:(oX B0 ts (dO ts rs)).row k=hx.choose:=dif_pos hx;let(e,e1,e2,e3):=hx.choose_spec;rw[s.get]at e1;injection e1 with e1;subst e1;show#[w,ab,bl,r,s,?_,by rw[er];show e2,by rw[er];show e3,λi=>?_]
 . unfold oY;rw[s.get]
 . show (match (dO ts rs)[k]? with |some e=>pos (KEY e.w k i) 0 (dO ts rs) |none=>[])=_;rw[s.get];show s.pos i
def mV.blk_home{ab:PV}(h:mV es w ab bl k r)(hj:j∈r.bnums k i):j<es.length/\oY es j=w:=by
 have go:∀{ab:PV}{bl:Int}(rs:Rows)(s:Nat),nH es w ab bl s rs->j∈rs.nums s->j<es.length/\oY es j=w:=by
  intro ab bl rs;induction rs using Rows.rec (motive_1:=λ_=>True) with
  |nil=>intro s _ hj;cases hj
  |cons r rs _ ih=>
   intro s hs hj;obtain rfl|hj:=abw.mp hj
   . have g:=hs.cons.1.get;show#[fU g,by unfold oY;rw[g]]
   . show ih _ hs.cons.2 hj
  |_=>trivial
 cases r with
 |leaf x ps=>cases hj
 |call x n as=>cases hj
 |wh x b=>
  have hj:j∈(if i=0 then b.nums (k+1) else []):=hj;split at hj
  . show go _ _ h.wh hj
  . cases hj
 |iff x b c=>
  have hj:j∈(if i=0 then b.nums (k+1) else if i=1 then c.nums (k+1+b.cnt) else []):=hj;split at hj
  . show go _ _ h.iff.1 hj
  . split at hj
    . show go _ _ h.iff.2 hj
    . cases hj
def Mw(hj:j∈pos (KB f) 0 (dO ts rs)):j<(dO ts rs).length/\oY (dO ts rs) j=f:=by
 let(a,r,b,e,h):=Um _ 0 j hj;have s:nH (dO ts rs) f .non 0 (cD a) r:=by unfold dO;rw[e];show HD
 rw[ahQ]at h;have go:∀(rs':Rows) (k:Nat),nH (dO ts rs) f .non 0 k rs'->j∈rs'.nums k->j<(dO ts rs).length/\oY (dO ts rs) j=f:=by
  intro rs';induction rs' using Rows.rec (motive_1:=λ_=>True) with
  |nil=>intro s _ hj;cases hj
  |cons r rs _ ih=>
   intro s hs hj;obtain rfl|hj:=abw.mp hj
   . have g:=hs.cons.1.get;show#[fU g,by unfold oY;rw[g]]
   . show ih _ hs.cons.2 hj
  |_=>trivial
 show go _ _ s h
theorem CJ(h:∀k,0<w k):∀{l:List Nat},l.length<=kW w l
 |[]=>aa0 _
 |k::l=>by have:=CJ h (l:=l);have:=h k;show l.length+1<=w k+kW w l;lia
def PC.gw(P:PC B0 ts rs):GW (oX B0 ts (dO ts rs)) (pY (dO ts rs)) (cD (mY ts rs)+2):=by
 have key:∀k i,kW (pY (dO ts rs)) ((oX B0 ts (dO ts rs)).blk k i)<pY (dO ts rs) k/\pY (dO ts rs) k<=cD (mY ts rs)+1:=λk i=>by
  by_cases h:k<cD (mY ts rs)
  . let(w,ab,bl,r,s,_,_,_,hb):=P.row h;rw[hb i,s.wt];show#[s.sum i,?_];let(pre,post,e,hl,_):=s.ex;have:=congrArg List.length e;rw[aaU,aaU,Row.es_len,nJ]at this;lia
  . have hn:(dO ts rs)[k]?=none:=ahL (by rw[nJ];lia);have e1:(oX B0 ts (dO ts rs)).blk k i=[]:=by show (match (dO ts rs)[k]? with |some e=>pos (KEY e.w k i) 0 (dO ts rs) |none=>[])=_;rw[hn]
    have e2:pY (dO ts rs) k=1:=by unfold pY;rw[hn]
    rw[e1,e2];show#[Nat.zero_lt_one,()]
 show#[λk=>ae2,λk i=>(key k i).1,λk i=>by have:=key k i;lia,λf=>?_];have:=Q5 (f:=f) (mY ts rs) [] rfl;show Nat.add_le_add_right this 2
theorem Fx:∀{ts:List TF}{f:Str},f∈ts.map (·.name)->∃t∈ts,t.name=f/\rW ts f=t.prm
 |[],f=>λh=>by cases h
 |t::ts,f=>λh=>by
  by_cases e:t.name=f
  . show#[t,aaV,e,aic e]
  . obtain h|h:=abw.mp h
    . lia
    . let(t',h1,h2,h3):=Fx h;show#[t',abl _ h1,h2,(aid e).trans h3]
def PC.rk(P:PC B0 ts rs):RK (oX B0 ts (dO ts rs)) B0 (cD (mY ts rs)) (oY (dO ts rs)):=by
 have fr:∀f,frm (oX B0 ts (dO ts rs)) f=[]\/∃t∈ts,frm (oX B0 ts (dO ts rs)) f=t.name::t.prm:=λf=>by
  by_cases h:f∈ts.map (·.name)
  . let(t,h1,h2,h3):=Fx h;show .inr #[t,h1,by show (if f∈ts.map (·.name) then f::rW ts f else [])=_;rw[aic h,h2,h3]]
  . show .inl (aid h)
 show#[P.nd,λf=>?_,P.l8,λf=>?_,λf x hx=>?_,λk hk=>?_]
 . obtain e|⟨t,h,e⟩:=fr f
   . rw[e];show ahK
   . rw[e];show(P.nf t h).1
 . obtain e|⟨t,h,e⟩:=fr f
   . rw[e];show agY _
   . rw[e];have:=(P.nf t h).2.2;rw[aa9];lia
 . obtain e|⟨t,h,e⟩:=fr f
   . rw[e]at hx;cases hx
   . rw[e]at hx;show(P.nf t h).2.1 x hx
 . let(w,ab,bl,r,s,hw,h1,h2,h3):=P.row hk;rw[hw];have hl:(dO ts rs).length=cD (mY ts rs):=nJ _ _;have hb:∀i,∀j∈(oX B0 ts (dO ts rs)).blk k i,j<cD (mY ts rs)/\oY (dO ts rs) j=oY (dO ts rs) k:=λi j hj=>by rw[h3 i]at hj;rw[hw,<-hl];show s.blk_home hj
   cases hr:(oX B0 ts (dO ts rs)).row k with
   |set x e=>rw[hr]at h2;show h2
   |put x p e=>rw[hr]at h2;show h2
   |fi e=>rw[hr]at h2;show#[h2,hb]
   |wh e=>rw[hr]at h2;show#[h2,hb]
   |call x f es=>
    rw[hr]at h2;show#[h2.1,h2.2.1,h2.2.2.1,h2.2.2.2,λj hj=>by rw[<-hl];show Mw hj]
def PC.pl(P:PC B0 ts rs)(N:Nat):V3 (PQ (dO ts rs) N (eO (oR (ts.map TF.fn) []))) (oX B0 ts (dO ts rs)) (cD (mY ts rs)) (oY (dO ts rs)):=by
 have g:=P.gw;have c:=P.ct;have pa:∀(mu:Mu)(p:Nat),mu[p]?=!(!(PQ (dO ts rs) N (eO (oR (ts.map TF.fn) []))))->Jz mu p (dO ts rs):=λmu p h=>#[#[N,_,h]];show#[λk hk=>?_,λk hk i=>?_,λk i=>?_,λf=>?_,λk hk x f es hr=>?_]
 . let(w,ab,bl,r,s,hw,h1,h2,h3):=P.row hk;show#[r.pv,λmu p h=>aeN (pa mu p h) s.get,h1]
 . let(w,ab,bl,r,s,hw,h1,h2,h3):=P.row hk;rw[h3 i,<-s.pos i];show λmu p h=>aav (pa mu p h) s.get
 . have:=CJ g.pos (l:=(oX B0 ts (dO ts rs)).blk k i);have:=g.le k i;lia
 . have:=CJ g.pos (l:=(oX B0 ts (dO ts rs)).body f);have:=g.body f;lia
 . let(w,ab,bl,r,s,hw,h1,h2,h3):=P.row hk;rw[hr]at h2;show#[λmu p h=>TQ (pa mu p h),aeO (Yx ts [] P.nn h2.2.2.2)]
end
def ae3(hp:∀f,(G.prm f).length<=10)(h:∀m∈s.ms,m.2.2.length<=10):∀r,∀m∈(jj G s k D r).ms,m.2.2.length<=10:=by
 have one:∀m∈s.ms++[((k:Int),(0:Int),([]:List gO))],m.2.2.length<=10:=λm hm=>by
  obtain hm|hm:=adY.mp hm
  . show h m hm
  . rw[agk.mp hm];show agY _
 have two:∀es:List gO,es.length<=10->∀m∈s.ms++[((k:Int),(0:Int),([]:List gO)),((k:Int),1,es)],m.2.2.length<=10:=λes he m hm=>by
  obtain hm|hm:=adY.mp hm
  . show h m hm
  . obtain hm|hm:=abw.mp hm
    . rw[hm];show agY _
    . rw[agk.mp hm];show he
 intro r;cases r with
 |set x e=>show two _ (by show 1<=10;decide)
 |put x p e=>
  show two _ ?_;unfold qH;split
  . show 1<=10;decide
  . show agY _
 |fi e=>show one
 |wh e=>
  unfold jj;dsimp only;split
  . show one
  . cases s.bu<;>show one
 |call x f es=>
  unfold jj;dsimp only;cases s.bu with
  |zero=>show one
  |succ b=>
   show two _ ?_;rw[aaW,List.length_zip];have:=hp f;lia
def acZ(hp:∀f,(G.prm f).length<=10)(h:∀m∈s.ms,m.2.2.length<=10):∀m∈(fL G s).ms,m.2.2.length<=10:=by
 let(bu,sp,B,O,ms,D):=s;have one:∀(x:c7),x.2.2.length<=10->∀m∈ms++[x],m.2.2.length<=10:=λx hx m hm=>by
  obtain hm|hm:=adY.mp hm
  . show h m hm
  . rw[agk.mp hm];show hx
 match D with
 |[]=>show h
 |(k,1)::D=>show one _ (agY _)
 |(k,t+3)::D=>show one _ (agY _)
 |(k,2)::D=>
  show ∀m∈(oW _ k D (G.row k)).ms,_;cases G.row k with
  |call x f es=>show one _ (by show 1<=10;decide)
  |_=>show h
 |(k,0)::D=>show ae3 hp h _
theorem abq(hp:∀f,(G.prm f).length<=10):∀{n:Nat}{s:MS},(∀m∈s.ms,m.2.2.length<=10)->∀m∈(lZ G n s).ms,m.2.2.length<=10
 |0,_=>λh=>h
 |n+1,s=>λh=>by
  cases hD:s.D with
  |nil=>rw[Cy G hD];show h
  |cons q D=>rw[Cw G hD];show abq hp (acZ hp h)
theorem Q7(g:GW G w C):∀{n:Nat}{s:MS},2*vQ w C (lZ G n s)+(lZ G n s).ms.length<=2*vQ w C s+s.ms.length
 |0,_=>aa0 _
 |n+1,s=>by
  cases hD:s.D with
  |nil=>rw[Cy G hD];lia
  |cons q D=>
   rw[Cw G hD];have h1:=Q7 g (n:=n) (s:=fL G s);have h2:=Hx g hD;have h3:=QW (G:=G) (s:=s);lia
theorem Yz:∀{ms:List c7},(∀m∈ms,m.2.2.length<=10)->Bc ms<=10*ms.length
 |[]=>λ_=>aa0 _
 |m::ms=>λh=>by have h1:=h m aaV;have h2:=Yz λx hx=>h x (abl m hx);show m.2.2.length+Bc ms<=10*(ms.length+1);lia
section
variable {B:Bs}{ts:List TF}{rs:Rows}{D:List (Str×Int)}{gs:List PV}
def vq(B:Bs)(ts:List TF)(rs:Rows)(bu:Nat):MS:=#[bu,false,B,[[]],[],layB ((oX B ts (dO ts rs)).body "main") []]
def ju(B:Bs)(ts:List TF)(rs:Rows)(bu:Nat):MS:=lZ (oX B ts (dO ts rs)) (vQ (pY (dO ts rs)) (cD (mY ts rs)+2) (vq B ts rs bu)) (vq B ts rs bu)
def PC.mi0(P:PC B ts rs):MI (oX B ts (dO ts rs)) B (cD (mY ts rs)) (oY (dO ts rs)) (vq B ts rs bu):=by
 show#[Ua.symm,P.bk,mR.refl,["main"],Uc .nil λj hj=>?_,[],[],rfl,?_,λq hq=>(by cases hq),rfl]
 . have:=Mw hj
   rwa [nJ]at this
 . show(aid P.nm).symm
def PC.pot0(P:PC B ts rs)(hb:bu<=20):vQ (pY (dO ts rs)) (cD (mY ts rs)+2) (vq B ts rs bu)<=2561:=by have g:=P.gw;have c:=P.ct;have h1:=QV (w:=pY (dO ts rs)) (ns:=(oX B ts (dO ts rs)).body "main") (D:=[]);have h2:=g.body "main";have h3:bu*(cD (mY ts rs)+2)<=20*122:=Nat.mul_le_mul hb ();have h4:iY (pY (dO ts rs)) []=0:=rfl;show bu*(cD (mY ts rs)+2)+iY _ (layB _ [])<=_;lia
def PC.mi(P:PC B ts rs):MI (oX B ts (dO ts rs)) B (cD (mY ts rs)) (oY (dO ts rs)) (ju B ts rs bu):=abo P.rk P.mi0
def PC.dn(P:PC B ts rs):(ju B ts rs bu).D=[]:=Yt P.gw (aa0 _)
def PC.pr(P:PC B ts rs)(su:tW D B)(ok:(lr D gs (ts.map TF.fn) rs).ok)(hb:bu<=20):Pr D gs B (ts.map TF.fn) rs bu (ju B ts rs bu):=by
 have g:=P.gw;have c:=P.ct;have p0:=P.pot0 hb;have hp:∀f,((oX B ts (dO ts rs)).prm f).length<=10:=λf=>by
  show (rW ts f).length<=10;by_cases h:f∈ts.map (·.name)
  . let(t,h1,h2,h3):=Fx h;rw[h3];show(P.nf t h1).2.2
  . have no:∀(ts:List TF),f∉ts.map (·.name)->rW ts f=[]:=λts=>by
     induction ts with
     |nil=>intro _;rfl
     |cons t ts ih=>
      intro h;show(aid λe=>h ∅).trans (ih λq=>h (abl _ q))
    lia
 have hl:=Q7 g (n:=vQ (pY (dO ts rs)) (cD (mY ts rs)+2) (vq B ts rs bu)) (s:=vq B ts rs bu);have hl0:(vq B ts rs bu).ms.length=0:=rfl;have he:=Yz (abq (n:=vQ (pY (dO ts rs)) (cD (mY ts rs)+2) (vq B ts rs bu)) (s:=vq B ts rs bu) hp (λm hm=>by cases hm));show#[su,#[P.bk,P.nd,by have:=P.l8;lia],ok,#[(oX B ts (dO ts rs)).body "main",?_,λN=>#[?_,λI=>?_]],P.dn,by rw[P.mi.rp,Ay],?_]
 . have:=CJ g.pos (l:=(oX B ts (dO ts rs)).body "main");have:=g.body "main";lia
 . rw[Yy];show λmu p h=>TQ #[#[N,_,h]]
 . rw[Yy];let(m,hm,r):=abp P.rk (P.pl N) g (P.mi0) (by rw[hl0];lia) (by show 1+bu<_;lia) P.dn;have ea:(vq B ts rs bu).as=#[(bu:Int),"done",B,[[]],[],lb ((oX B ts (dO ts rs)).body "main")]:=by unfold MS.as vq;rw[Mv];rfl
   rw[ea]at r;show#[m,r,()]
 . show Bc (lZ _ _ _).ms<=80000;lia
def PC.up(P:PC B ts rs):(ju B ts rs (bu+1)=(ju B ts rs bu).up/\(ju B ts rs bu).sp=false)\/((ju B ts rs bu).sp=true/\∃(k:Int)(ms:List c7)(m:c7)(l:List c7),(ju B ts rs bu).ms=ms++[(k,0,[])]/\(ju B ts rs (bu+1)).ms=(ju B ts rs bu).ms++m::l):=by have h1:=P.dn (bu:=bu);have h2:=P.dn (bu:=bu+1);show abn _ h1 h2
def PC.rep(P:PC B ts rs):(ju B ts rs bu).B=Law.rep B (jO (ju B ts rs bu).ms):=P.mi.rp
end
abbrev Mx(n:Nat):List PV:=(List.range n).map λi=>.int (i:Nat)
def xV:Nat->PV->Prop
 |0,_=>False
 |_+1,.int _=>True
 |_+1,.str _=>True
 |n+1,.tup ps=>ps.length<=90000/\∀p∈ps,xV n p
 |n+1,.lst ps=>ps.length<=90000/\∀p∈ps,xV n p
 |_+1,_=>False
theorem JK:∀ws:List PV,boolsOf (ws.map λ_=>PV.bl true)=!(ws.map λ_=>true)
 |[]=>rfl
 |w::ws=>by show (boolsOf (ws.map λ_=>PV.bl true)).map _=_;rw[JK ws];rfl
theorem Q8:∀ws:List PV,(ws.map λ_=>true).all id=true
 |[]=>rfl
 |w::ws=>Q8 ws
def Fy(hf:f E=!(.sh (.bl true),E))(hg:g E=!(.sh (.bl b),E)):m6 f g E=!(.sh (.bl b),E):=by unfold m6;rw[hf,aaS];show hg
def Q9(h:f Y=!(.sh (.int (n:Nat)),Y1))(hn:n<=9000000):cZ (aj f ao) Y=!(Mx n,Y1):=by unfold cZ;rw[aC h rfl,aaS];show (if _ then _ else _)=_;rw[aic (),show G4 0 ((n:Nat):Int).toNat=Mx n from by unfold G4;rw[ahu];show agP λi _=>by rw[Int.zero_add]]
def My(k:Bool)(hX:X=Dh k ps)(hl:ps.length<=90000)(ih:∀p∈ps,∀mu:Mu,eU n [p,p] mu=!(.sh (.bl true),mu)):eU (n+1) [X,X] mu=!(.sh (.bl true),mu):=by
 let E:Ev:=#[[zS X,zS X],mu];have t1:tT (aah ["list","tuple"] (aa 1)) jJ E=!(true,E):=by subst hX;cases k<;>show dY rfl rfl rfl
 have t2:jZ veo vei E=!(false,E):=by subst hX;cases k<;>show Vv (b:=false) (dY rfl rfl rfl) (dY rfl rfl rfl)
 have ln:∀i:Nat,i<2->eB jt (aj (aa i) ao) E=!(.sh (.int (ps.length:Nat)),E):=λi hi=>by
  subst hX
  match i,hi with
  |0,_=>cases k<;>rfl
  |1,_=>cases k<;>rfl
 have ix:∀(i:Nat)(p:PV),ps[i]?=!p->Gn X (.int (i:Nat))=zS p:=λi p hp=>by
  subst hX;cases k
  . show (gA ps (i:Nat)).map _=_;rw[uI hp];rfl
  . show (gA ps (i:Nat)).map _=_;rw[uI hp];rfl
 have np:∀m,X≠.ptr m:=λm h=>by subst hX;cases k<;>cases h
 have ec:=u9 (b:=aF 0) (te:=aH (eU n) vew) (λY=>∃o,Y=#[[o,zS X,zS X],mu]) (λY z76=>by let(o,e):=z76;rw[e]) (λ_=>.bl true) (xs:=Mx ps.length) #[none,rfl] ∅ (by
  rintro p hp Y ⟨o,rfl⟩;let(i,hi,rfl):=abz.mp hp;have hi:=List.mem_range.mp hi;have hp:=aeM hi;show#[#[[zI (i:Nat),zS X,zS X],mu],rfl,.sh (.bl true),#[[zI (i:Nat),zS X,zS X],mu],aY (aC (oK rfl rfl rfl rfl np (ix i _ hp)) (aC (oK rfl rfl rfl rfl np (ix i _ hp)) rfl)) rfl rfl rfl (ih _ (List.getElem_mem hi) mu),rfl,_,rfl]) (by
  rintro p hp Y Y1 ⟨o,rfl⟩ e;cases e;show#[_,rfl])
 show bh (gj (yT t1 (aB (yY t2 rfl) (bZ (Fy (cN (ln 0 ()) rfl (ln 1 ()) rfl (by show some (Lc.sh (.bl (((ps.length:Nat):Int)==((ps.length:Nat):Int))))=_;rw[aii])) (vD (aC (iU (Q9 (ln 1 ()) ()) ec) rfl) rfl (by show (boolsOf ((Mx ps.length).map λ_=>PV.bl true)).map _=_;rw[JK,ahp,Q8])))))))
theorem wj:∀{n:Nat}{X:PV},xV n X->∀mu:Mu,eU n [X,X] mu=!(.sh (.bl true),mu)
 |n+1,.int i,_,mu=>by
  let E:Ev:=#[[zI i,zI i],mu];have nb:Dy (kE "bool" (aa 0)) E=!(.sh (.bl true),E):=by unfold Dy;rfl
  show bh (aB (yY (dY rfl rfl rfl) rfl) (aB (yY (dY rfl rfl rfl) rfl) (aB (yY (dY rfl rfl rfl) rfl) (bZ (Fy () (Fy nb (cN rfl rfl rfl rfl (by show some (Lc.sh (.bl (i==i)))=_;rw[aii]))))))))
 |n+1,.str x,_,mu=>by let E:Ev:=#[[zT x,zT x],mu];show bh (Y:=E) (aB (yY (dY rfl rfl rfl) rfl) (gj (yT (dY rfl rfl rfl) (bZ (Fy (ym rfl rfl rfl) (cN rfl rfl rfl rfl (by show some (Lc.sh (.bl (x==x)))=_;rw[aii])))))))
 |n+1,.tup ps,h,mu=>My false rfl h.1 λp hp mu=>wj (h.2 p hp) mu
 |n+1,.lst ps,h,mu=>My true rfl h.1 λp hp mu=>wj (h.2 p hp) mu
theorem xV.up:∀{n m:Nat}{X:PV},n<=m->xV n X->xV m X
 |0,_,_,_,h=>h.elim
 |n+1,m+1,.int _,_,_=>trivial
 |n+1,m+1,.str _,_,_=>trivial
 |n+1,m+1,.tup ps,hm,h=>#[h.1,λp hp=>(h.2 p hp).up ()]
 |n+1,m+1,.lst ps,hm,h=>#[h.1,λp hp=>(h.2 p hp).up ()]
 |n+1,0,_,hm,_=>()
def Ra(hB:BG B):xV 3 (.lst (dg B)):=by
 have h8:=hB.l8;show#[by rw[aaW];lia,λp hp=>?_];let(q,hq,rfl):=abz.mp hp;cases hv:q.2 with
 |n i=>show trivial
 |l is=>
  have:=hB.ok.sm q hq is hv;show#[by rw[aaW];lia,λp hp=>?_];let(i,_,rfl):=abz.mp hp;show trivial
theorem En:∀{ms:List c7}{p:PV},p∈fJ ms->xV 2 p
 |m::ms,p,h=>by
  obtain h|h:=adY.mp (h)
  . let(e,_,rfl):=abz.mp h;show#[by show (4:Nat)<=90000;decide,λp hp=>?_];simp only[abw,ahk,or_false]at hp;rcases hp with rfl|rfl|rfl|rfl<;>show trivial
  . show En h
def Rb(H:Pr D gs B fs rs bu S)(hg:BG S.B):xV 40 (jE S):=by
 have ne:=H.nev;show#[by show (3:Nat)<=90000;decide,λp hp=>?_];simp only[abw,ahk,or_false]at hp;obtain rfl|rfl|rfl:=hp
 . show trivial
 . show#[by rw[QX];lia,λp hp=>(En hp).up ()]
 . show(Ra hg).up ()
theorem Uq:∀(ms:List c7)(ws:List PV)(l2 l3 l4:Option Lc),ws.length+Bc ms<=90000->∃p2 p3 p4,iw vfm
 vav (ms.map c7.pv) (qQ l0 (zO ws) l2 l3 l4 mu)=!(.nx (qQ l0 (zO (ws++fJ ms)) p2 p3 p4 mu))
 |[]=>λws l2 l3 l4 _=>#[l2,l3,l4,by rw[show fJ []=[] from rfl,abv];rfl]
 |m::ms=>λws l2 l3 l4 hl=>by have hl':ws.length+(m.2.2.length+Bc ms)<=90000:=hl;let K:Option Lc:=zI m.1;let T:Option Lc:=zI m.2.1;let C:Option Lc:=zS (evs m.2.2);let W:Option Lc:=zO ws;let(p2,p3,p4,el):=Uq ms (ws++m.2.2.map (mX m.1)) K T C ∅;have em:jd (aa 4) dW (qQ l0 W K T C mu)=!(m.2.2.map gO.pv,qQ l0 W K T C mu):=rfl;have ec:=iU (m:=3) (ixs:=[2]) em (Uj (o:=[]) ());show#[p2,p3,p4,d9 rfl (DR rfl ec rfl rfl ∅ rfl) ?_];rw[show fJ (m::ms)=m.2.2.map (mX m.1)++fJ ms from rfl,<-aba];show el
def YB(hl:Bc ms<=90000):qZ [.lst (ms.map c7.pv)] mu=!(.own (.lst (fJ ms)),mu):=by let(p2,p3,p4,el):=Uq ms [] none none none ∅;show bh (Y:=qQ (zL (ms.map c7.pv)) none p2 p3 p4 mu) (aB rfl (aB () rfl))
noncomputable abbrev WR(l0 l1 l2 l3 l4 l5 l6 l7 l8 l9:Option Lc)(mu:Mu):Ev:=#[[l0,l1,l2,l3,l4,l5,l6,l7,l8,l9],mu]
abbrev tX(x:Str)(s:Int):Option Lc:=zS (.tup [.str x,.int s,.non])
abbrev vag:=bY (dI (tT (aq eqP (aa 7) (aM (aa 4) (akg 0))) aQ) (tT (aq eqP (aM (aa 4) (akg 1)) (akg 0)) aQ)) (aO 5 (aa 9)) (bY (tT (aq eqP (aa 7) (aM (aa 4) (akg 0))) aQ) (yh (aa 5) (aa 8) (aa 9)) cu)
abbrev wrB:SF:=vag
abbrev vy:=Int×gO
abbrev vy.pv(q:vy):PV:=mX q.1 q.2
section
variable {l0 l1 l2 l3:Option Lc}{x:Str}{s:Int}
theorem aaI(hs:s=0):∀(es:List vy)(i:Int)(mu:Mu)(l6 l7 l8 l9:Option Lc),∃j p6 p7 p8 p9,(es.map (·.2)).foldl (upd x) (.n i)=.n j/\iw ved wrB (es.map vy.pv) (WR l0 l1 l2 l3 (tX x s) (zI i) l6 l7 l8 l9 mu)=!(.nx (WR l0 l1 l2 l3 (tX x s) (zI j) p6 p7 p8 p9 mu))
 |[]=>λi mu l6 l7 l8 l9=>#[i,l6,l7,l8,l9,rfl,rfl]
 |e::es=>λi mu l6 l7 l8 l9=>by
  let L6:Option Lc:=zI e.1;let L7:Option Lc:=zT e.2.1;let L8:Option Lc:=zI e.2.2.1;let L9:Option Lc:=zI e.2.2.2;let E:=λv=>WR l0 l1 l2 l3 (tX x s) (zI v) L6 L7 L8 L9 mu;have t1:∀c,(e.2.1==x)=c->tT vhj aQ (E i)=!(c,E i):=λc hc=>dY (cN rfl rfl rfl rfl (by show some (Lc.sh (.bl (e.2.1==x)))=_;rw[hc])) rfl rfl;by_cases h:e.2.1=x
  . let(j,p6,p7,p8,p9,h1,h2):=aaI hs es e.2.2.2 mu L6 L7 L8 L9;show#[j,p6,p7,p8,p9,?_,d9 rfl (yT (jg (t1 true ∅) (dY (l:=.sh (.bl true)) (cN rfl rfl rfl rfl (by show some (Lc.sh (.bl (s==0)))=_;rw[hs];rfl)) rfl rfl)) rfl) h2];show (es.map (·.2)).foldl (upd x) (upd x (.n i) e.2)=_;rw[show upd x (.n i) e.2=.n e.2.2.2 from aic h];show h1
  . let(j,p6,p7,p8,p9,h1,h2):=aaI hs es i mu L6 L7 L8 L9;have f:=t1 false (aih.mpr h);show#[j,p6,p7,p8,p9,?_,d9 rfl (yY (nY f) (yY f rfl)) h2];show (es.map (·.2)).foldl (upd x) (upd x (.n i) e.2)=_;rw[show upd x (.n i) e.2=.n i from aid h];show h1
theorem aaJ(hs:s≠0):∀(es:List vy)(is:List Int)(mu:Mu)(l6 l7 l8 l9:Option Lc),mu[c]?=!(!(.lst (is.map .int)))->(∀e∈es,e.2.1=x->0<=e.2.2.1/\e.2.2.1<is.length)->∃js p6 p7 p8 p9,(es.map (·.2)).foldl (upd x) (.l is)=.l js/\iw ved wrB (es.map vy.pv) (WR l0 l1 l2 l3 (tX x s) (zS (.ptr c)) l6 l7 l8 l9 mu)=!(.nx (WR l0 l1 l2 l3 (tX x s) (zS (.ptr c)) p6 p7 p8 p9 (mu.set c (!(.lst (js.map .int))))))
 |[]=>λis mu l6 l7 l8 l9 hc _=>#[is,l6,l7,l8,l9,rfl,by rw[ail hc];rfl]
 |e::es=>λis mu l6 l7 l8 l9 hc hp=>by
  let L6:Option Lc:=zI e.1;let L7:Option Lc:=zT e.2.1;let L8:Option Lc:=zI e.2.2.1;let L9:Option Lc:=zI e.2.2.2;let E:=λmu=>WR l0 l1 l2 l3 (tX x s) (zS (.ptr c)) L6 L7 L8 L9 mu;have t1:∀b,(e.2.1==x)=b->tT vhj aQ (E mu)=!(b,E mu):=λb hb=>dY (cN rfl rfl rfl rfl (by show some (Lc.sh (.bl (e.2.1==x)))=_;rw[hb])) rfl rfl;by_cases h:e.2.1=x
  . let(g0,g1):=hp e aaV h;let is':=is.set e.2.2.1.toNat e.2.2.2;let mu':=mu.set c (!(.lst (is'.map .int)));let(js,p6,p7,p8,p9,h1,h2):=aaJ hs es is' mu' L6 L7 L8 L9 (aeI (fU hc)) (λe' he' hx=>by rw[agd];show hp e' (abl _ he') hx);have hj:ue (is.map PV.int).length e.2.2.1=!e.2.2.1.toNat:=by unfold ue;rw[aaW,aic (),aic ()]
    have sc:=J8 (Y:=E mu) (fo:=aa 5) (fi:=aa 8) (fv:=aa 9) (x:=.sh (.int e.2.2.2)) rfl rfl rfl rfl rfl rfl hc hj;rw[show (is.map PV.int).set e.2.2.1.toNat (Lc.sh (PV.int e.2.2.2)).pv=is'.map .int from List.map_set.symm]at sc;show#[js,p6,p7,p8,p9,?_,d9 rfl (yY (jg (t1 true ∅) (dY (cN rfl rfl rfl rfl (by show some (Lc.sh (.bl (s==0)))=_;rw[aih.mpr hs])) rfl rfl)) (yT (t1 true ∅) sc)) (h2.trans ?_)]
    . show (es.map (·.2)).foldl (upd x) (upd x (.l is) e.2)=_;rw[show upd x (.l is) e.2=.l is' from aic h];show h1
    . rw[ahd]
  . let(js,p6,p7,p8,p9,h1,h2):=aaJ hs es is mu L6 L7 L8 L9 hc (λe' he' hx=>hp e' (abl _ he') hx);have f:=t1 false (aih.mpr h);show#[js,p6,p7,p8,p9,?_,d9 rfl (yY (nY f) (yY f rfl)) h2];show (es.map (·.2)).foldl (upd x) (upd x (.l is) e.2)=_;rw[show upd x (.l is) e.2=.l is from aid h];show h1
abbrev woB:SF:=(aG (jP (jd (aa 2) dW) ved vag) (jm 3 (aa 5)))
theorem KY{l0 l1 l3:Option Lc}{es:List vy}:∀(B:Bs)(D:List (Str×Int))(ps:List PV)(lo:Nat)(mu:Mu)(acc:List PV)(l4 l5 l6 l7 l8 l9:Option Lc),tW D B->CB mu hi lo B ps->acc.length+B.length<=100->(∀q∈B,∀is,q.2=.l is->∀e∈es,e.2.1=q.1->0<=e.2.2.1/\e.2.2.1<is.length)->∃ps' mu' p4 p5 p6 p7 p8 p9,iw vht woB (ni (dcl D) ps) (WR l0 l1 (zL (es.map vy.pv)) (zO acc) l4 l5 l6 l7 l8 l9 mu)=!(.nx (WR l0 l1 (zL (es.map vy.pv)) (zO (acc++ps')) p4 p5 p6 p7 p8 p9 mu'))/\CB mu' hi lo (rep B (es.map (·.2))) ps'/\mu'.length=mu.length/\∀c,c<lo\/hi<=c->mu'[c]?=mu[c]?
 |[],[]=>λps lo mu acc l4 l5 l6 l7 l8 l9 _ hc _ _=>by show#[[],mu,l4,l5,l6,l7,l8,l9,by rw[abv];rfl,rfl,rfl,λ_ _=>rfl]
 |(x,.n i)::B,(y,s)::D=>λps lo mu acc l4 l5 l6 l7 l8 l9 z12 z13 hl hp=>by let(hxy,(hs,hi'),hS):=z12;let(r,e,hc):=z13;subst e;subst hxy;let(j,p6,p7,p8,p9,h1,h2):=aaI hs es i mu l6 l7 l8 l9;let(ps',mu',q4,q5,q6,q7,q8,q9,g1,g2,g3,g4):=KY (l3:=l3) B D r lo mu (acc++[PV.int j]) (tX y s) (zI j) p6 p7 p8 p9 hS hc ∅ (λq hq=>hp q (abl _ hq));rw[aba]at g1;show#[.int j::ps',mu',q4,q5,q6,q7,q8,q9,d9 rfl (aB (jo rfl h2) (nR rfl rfl rfl rfl () rfl)) g1,?_,g3,g4];show CB mu' hi lo ((y,(es.map (·.2)).foldl (upd y) (.n i))::rep B (es.map (·.2))) (.int j::ps');rw[h1];show#[ps',rfl,g2]
 |(x,.l is)::B,(y,s)::D=>λps lo mu acc l4 l5 l6 l7 l8 l9 z12 z13 hl hp=>by let(hxy,(hs,hs0,_),hS):=z12;let(c,r,e,c1,c2,c3,hc):=z13;subst e;subst hxy;let(js,p6,p7,p8,p9,h1,h2):=aaJ hs0 es is mu l6 l7 l8 l9 c3 (hp _ aaV is rfl);let mu1:=mu.set c (!(.lst (js.map .int)));let(ps',mu',q4,q5,q6,q7,q8,q9,g1,g2,g3,g4):=KY (l3:=l3) B D r (c+1) mu1 (acc++[PV.ptr c]) (tX y s) (zS (.ptr c)) p6 p7 p8 p9 hS (hc.frame λd d1 d2=>agc ()) ∅ (λq hq=>hp q (abl _ hq));rw[aba]at g1;show#[.ptr c::ps',mu',q4,q5,q6,q7,q8,q9,d9 rfl (aB (jo rfl h2) (nR rfl rfl rfl rfl () rfl)) g1,?_,by rw[g3];show agd,λd hd=>by rw[g4 d ()];show agc ()];show CB mu' hi lo ((y,(es.map (·.2)).foldl (upd y) (.l is))::rep B (es.map (·.2))) (.ptr c::ps');rw[h1];show#[c,ps',rfl,c1,c2,(g4 c (.inl ())).trans (aeI (fU c3)),g2]
 |_::_,[]=>λ_ _ _ _ _ _ _ _ _ _ h _ _ _=>h.elim
 |[],_::_=>λ_ _ _ _ _ _ _ _ _ _ h _ _ _=>h.elim
end
def JL(B:Bs)(e:gO):Prop:=∀is,look B e.1=!(.l is)->0<=e.2.1/\e.2.1<is.length
theorem HH:∀(es:List gO)(is:List Int),∃js,es.foldl (upd x) (.l is)=.l js/\js.length=is.length
 |[]=>λis=>#[is,rfl,rfl]
 |e::es=>λis=>by
  show ∃js,es.foldl (upd x) (upd x (.l is) e)=.l js/\_;unfold upd;split
  . let(js,h1,h2):=HH es (is.set e.2.1.toNat e.2.2);show#[js,h1,by rw[h2,agd]]
  . show HH es is
theorem Rc:∀{B:Bs},look (rep B es) x=(look B x).map λv=>es.foldl (upd x) v
 |[]=>rfl
 |(y,v)::B=>by
  show (if y=x then !(es.foldl (upd y) v) else look (rep B es) x)=(if y=x then !v else look B x).map _;by_cases e:y=x
  . rw[aic e,aic e,e];rfl
  . rw[aid e,aid e];show Rc
def abr(h:jW (B++tmp ns) x):JL B (x,p,v):=λis g=>by let(i,h):=h;rw[lY,g]at h;cases h
def ac0(h:x∉B.map (·.1)):JL B (x,p,v):=λis g=>by rw[wG h]at g;cases g
def KZ(h:e∈jO (ms++[m])):e∈jO ms\/e∈m.2.2:=by rw[Ue]at h;show adY.mp h
def K3{m:c7}(h:e∈jO (ms++[(k,t,[]),m])):e∈jO ms\/e∈m.2.2:=by rw[Fw]at h;show adY.mp h
def ac1(K:RK G B0 N home)(m:MI G B0 N home s)(hp:∀e∈jO s.ms,JL B0 e):∀e∈jO (fL G s).ms,JL B0 e:=by
 have m':=m;let(rp,ok,kn,F,du,fo):=m;let(bu,sp,B,O,ms,D):=s;dsimp only at rp ok kn du fo hp
 match D,du with
 |[],_=>show hp
 |_,.fin (k:=k) (D:=D) h=>show λe he=>(KZ he).elim (hp e) λq=>by cases q
 |_,.back (k:=k) (x:=x) (f:=f) (g:=g) (es:=es) (D:=D) hr hg hk h=>
  have kr:=K.rw_ k hk;rw[hr,hg]at kr;have es':fL G #[bu,sp,B,O,ms,(k,2)::D]=oW #[bu,sp,B,O,ms,(k,2)::D] k D (G.row k):=rfl;rw[es',hr];show λe he=>(KZ he).elim (hp e) λq=>?_;rw[agk.mp q];show abr kr.1
 |_,.row (k:=k) (f:=f) (F:=F) (D:=D) hf hk h=>
  have nw:=m'.now fo;have kr:=K.rw_ k hk;rw[hf]at kr;have es':fL G #[bu,sp,B,O,ms,(k,0)::D]=jj G #[bu,sp,B,O,ms,(k,0)::D] k D (G.row k):=rfl;rw[es'];have one:∀e∈jO (ms++[((k:Int),0,[])]),JL B0 e:=λe he=>(KZ he).elim (hp e) λq=>by cases q
  cases hr:G.row k with
  |set x e=>
   rw[hr]at kr;show λe he=>(K3 he).elim (hp e) λq=>?_;rw[agk.mp q];show abr kr.1
  |put x p e=>
   rw[hr]at kr;have ip:=yG nw.ok (nw.kn.ex kr.2.1);show λe' he=>(K3 he).elim (hp e') λq=>?_;have q:e'∈(qH B x (ev (jq B O) p) (ev (jq B O) e)).2:=q;unfold qH at q;split at q
   . rename_i hlt;rw[agk.mp q];intro is g;have g:look B0 x=!(.l is):=g;let(js,j1,j2):=HH (x:=x) (jO ms) is;have e1:lstAt B x=js:=by unfold lstAt;rw[rp,Rc,g];show (match some ((jO ms).foldl (upd x) (.l is)) with |some (.l is)=>is |_=>[])=js;rw[j1]
     rw[e1,j2]at hlt;show#[ip.1,hlt]
   . cases q
  |fi e=>show one
  |wh e=>
   unfold jj;dsimp only;split
   . show one
   . cases bu<;>show one
  |call x g es=>
   rw[hr]at kr;let(k1,k2,k3,k4,k5):=kr;cases bu with
   |zero=>show one
   |succ b=>
    show λe he=>(K3 he).elim (hp e) λq=>?_;let(y,hy,rfl):=abz.mp q;show ac0 (K.dj g y.1 ?_);rw[frm,aic k4];show abl _ (ahh hy).1
theorem abt(K:RK G B0 N home):∀{n:Nat}{s:MS},MI G B0 N home s->(∀e∈jO s.ms,JL B0 e)->∀e∈jO (lZ G n s).ms,JL B0 e
 |0,_=>λ_ h=>h
 |n+1,s=>λm h=>by
  cases hD:s.D with
  |nil=>rw[Cy G hD];show h
  |cons q D=>rw[Cw G hD];show abt K (KN K m) (ac1 K m h)
def K6:List c7->List vy
 |[]=>[]
 |m::ms=>m.2.2.map (λe=>(m.1,e))++K6 ms
theorem Ur:∀ms:List c7,(K6 ms).map vy.pv=fJ ms
 |[]=>rfl
 |m::ms=>by show (m.2.2.map (λe=>(m.1,e))++K6 ms).map vy.pv=m.2.2.map (mX m.1)++fJ ms;rw[ady,agb,Ur ms];rfl
theorem K7:∀ms:List c7,(K6 ms).map (·.2)=jO ms
 |[]=>rfl
 |m::ms=>by show (m.2.2.map (λe=>(m.1,e))++K6 ms).map (·.2)=m.2.2++jO ms;rw[ady,agb,K7 ms,show ((λx:vy=>x.2) ∘ λe:gO=>(m.1,e))=id from rfl,List.map_id]
section
variable {B:Bs}{ts:List TF}{rs:Rows}{D:List (Str×Int)}{gs:List PV}
def PC.plc(P:PC B ts rs):∀e∈jO (ju B ts rs bu).ms,JL B e:=abt P.rk P.mi0 λe he=>by cases he
def Wd{lo hi:Nat}(nd:(B.map (·.1)).Nodup)(su:tW D B)(hl:B.length<=100)(hc:CB mu hi lo B ps)(hp:∀e∈jO ms,JL B e):∃ps' mu',qj [(lr D gs fs rs).pv,.lst ps,.lst (fJ ms)] mu=!(.own (.lst ps'),mu')/\CB mu' hi lo (Law.rep B (jO ms)) ps'/\mu'.length=mu.length/\∀c,c<lo\/hi<=c->mu'[c]?=mu[c]?:=by
 let P:Option Lc:=!(.sh (lr D gs fs rs).pv);let V:Option Lc:=zL ps;let R:Option Lc:=zL (fJ ms);let(ps',mu',p4,p5,p6,p7,p8,p9,h1,h2,h3,h4):=KY (l3:=none) B D ps lo mu [] none none none none none none su hc ∅ (λq hq is e x hx hn=>by show hp x.2 (by rw[<-K7];show List.mem_map_of_mem hx) is ?_;rw[hn,Az nd q hq,e])
 rw[Ur]at h1;rw[K7]at h2;show#[ps',mu',bh (Y:=WR P V R none p4 p5 p6 p7 p8 p9 mu') (aB rfl (aB () rfl)),h2,h3,h4]
end
def pk(L:List Str)(c:Int):Str:=L.getD (c%(L.length:Int)).toNat ""
def Eo(h:L≠[])(c:Int):pk L c∈L:=by have hl:0<L.length:=List.length_pos_iff.mpr h;have h0:=agl c (b:=(L.length:Int)) ();have h1:=agh c (b:=(L.length:Int)) ();unfold pk;rw[ahb,aeM ()];show List.getElem_mem _
def wI(h:L≠[]){fl fi:EF}(h1:fl E=!(.sh (.lst (L.map .str)),E))(h2:fi E=!(.sh (.int c),E)):cz fl (aq aP fi (bO fl)) E=!(.sh (.str (pk L c)),E):=by
 have hl:=List.length_pos_iff.mpr h;have h0:=agl c (b:=(L.length:Int)) ();have h3:=agh c (b:=(L.length:Int)) ();have hlen:bO fl E=!(.sh (.int (L.length:Nat)),E):=by unfold bO;rw[h1,aaS];show some (Lc.sh (.int ((L.map PV.str).length:Nat)),E)=_;rw[aaW]
 show v9 h1 rfl (cN h2 rfl hlen rfl (gR ())) rfl An ?_;show (gA (L.map PV.str) (c%(L.length:Int))).map _=_;obtain⟨j,hj⟩:∃j:Nat,c%(L.length:Int)=(j:Int):=#[(c%(L.length:Int)).toNat,()];rw[hj,uI (p:=.str (pk L c)) (by unfold pk;rw[hj,ahu,af9,ahb,aeM ()];rfl)]
 rfl
abbrev tY(h:Str×List Str):PV:=.tup [.str h.1,.lst (h.2.map .str)]
structure Sp where
 ns:List Str
 ls:List Str
 hs:List (Str×List Str)
 ws:List Str
noncomputable abbrev Sp.pv(s:Sp):PV:=.tup [.lst (s.ns.map .str),.lst (s.ls.map .str),.lst (s.hs.map tY),.lst (s.ws.map .str)]
structure HJ(s:Sp)(T:Bs):Prop where
 ns:∀x∈s.ns,jW T x
 ls:∀x∈s.ls,qP T x
 n0:s.ns≠[]
abbrev yL(c:Int)(s:Sp)(l6 l7:Option Lc)(mu:Mu):Ev:=#[[zI c,zS s.pv,zL (s.ns.map .str),zL (s.ls.map .str),zL (s.hs.map tY),zL (s.ws.map .str),l6,l7],mu]
def YC(ha:fa E=!(.sh (.int a),E))(hb:fb E=!(.sh (.int b),E))(hi:fi E=!(.sh (.int i),E)):cz (bG (aj fa (aj fb ao))) (aq aP fi (akg 2)) E=!(.sh (.int (if i%2=0 then a else b)),E):=by show v9 (qM (aC ha (aC hb rfl)) rfl rfl) rfl (cN hi rfl rfl rfl (gR ())) rfl An ?_;rcases (by omega:i%2=0\/i%2=1) with e|e<;>rw[e]<;>rfl
def iR(h:f E=!(.sh (.int a),E))(h1:0<b)(h2:b<18446744073709551616):aq bM f (akg b) E=!(.sh (.int (a/b)),E):=cN h rfl rfl rfl (yE h1 h2)
def fV(h:f E=!(.sh (.int a),E))(h1:0<b):aq aP f (akg b) E=!(.sh (.int (a%b)),E):=cN h rfl rfl rfl (gR h1)
def We(c:Int):Int:=if c/4%2=0 then c/8%4 else xT (c/8)
def tZ(c:Int)(s:Sp):Ex:=if c%4=0 then .num (We c) else if c%4=1/\s.ls≠[] then .at_ (pk s.ls (c/216)) (if c/36%2=1 then .box (pk s.ns (c/72)) else .num (c/4%9)) else .box (pk s.ns (c/4))
def uL(h:HJ s T):(tZ c s).ok T/\(tZ c s).dp<=2:=by
 have hn:=λk=>h.ns _ (Eo h.n0 k);unfold tZ;split
 . show#[?_,by show 1<=2;decide];unfold We;split
   . have h0:=agl (c/8) (b:=4) ();show#[h0,()]
   . show Ht _
 . split
   . rename_i hl;have hi:qP T (pk s.ls (c/216)):=h.ls _ (Eo hl.2 _);split
     . show#[#[hi,hn _],aa0 _]
     . have h0:=agl (c/4) (b:=9) ();show#[#[hi,#[h0,()]],aa0 _]
   . show#[hn _,by show 1<=2;decide]
def Be(n0:s.ns≠[]):gk [.int c,s.pv] mu=!(.sh (tZ c s).pv,mu):=by
 let W:Option Lc:=zI (c%4);let E:=yL c s W none mu;have w:∀(b:Int)(d:Bool),decide (c%4=b)=d->tT (aq gm (aa 6) (akg b)) aQ E=!(d,E):=λb d hd=>(xR (Y1:=E) rfl).trans (by rw[hd]);have g:tT (aq jM (bO (aa 3)) (akg 0)) aQ E=!(decide (((s.ls.map PV.str).length:Int)>0),E):=rfl;have bx:∀(k:Int)(l7:Option Lc),0<k->k<18446744073709551616->bz (aj (akh "box") (aj (cz (aa 2) (aq aP (aq bM (aa 0) (akg k)) (bO (aa 2)))) ao)) (yL c s W l7 mu)=!(.sh (Ex.box (pk s.ns (c/k))).pv,yL c s W l7 mu):=λk l7 h1 h2=>fQ (aC rfl (aC (wI n0 rfl (iR rfl h1 h2)) rfl)) rfl rfl;have a0:rG (aa 1) vea #[[zI c,zS s.pv,none,none,none,none,none,none],mu]=!(.nx (yL c s none none mu)):=rfl;have a1:aO 6 (aq aP (aa 0) (akg 4)) (yL c s none none mu)=!(.nx E):=bL () rfl rfl;unfold tZ;by_cases h0:c%4=0
 . rw[aic h0];show bh (Y:=E) (aB a0 (aB a1 (gj (yT (w 0 true (aig h0)) (bZ (fQ (ls:=[.sh (.str "num"),.sh (.int (We c))]) (aC rfl (aC ?_ rfl)) rfl rfl))))));show YC () (aY (aC (iR rfl () ()) rfl) rfl rfl rfl (Ej _ _)) ()
 . rw[aid h0];have f0:=w 0 false (aif h0);by_cases h1:c%4=1/\s.ls≠[]
   . rw[aic h1];have t1:=jg (w 1 true (aig h1.1)) (g.trans (by have:0<s.ls.length:=List.length_pos_iff.mpr h1.2;rw[aig ∅]))
     let P0:Option Lc:=!(.sh (Ex.num (c/4%9)).pv);obtain⟨X,hX⟩:∃X:Ex,(if c/36%2=1 then .box (pk s.ns (c/72)) else .num (c/4%9))=X:=#[_,rfl];have t2:∀d,decide (c/36%2=1)=d->tT vej aQ (yL c s W P0 mu)=!(d,yL c s W P0 mu):=λd hd=>(xR (fV () ())).trans (by rw[hd]);have s8:bY vdl vbu cu (yL c s W P0 mu)=!(.nx (yL c s W (zS X.pv) mu)):=by
      by_cases h2:c/36%2=1
      . rw[aic h2]at hX;rw[<-hX];show yT (t2 true (aig h2)) (bL (bx 72 P0 () ()) rfl rfl)
      . rw[aid h2]at hX;rw[<-hX];show yY (t2 false (aif h2)) rfl
     rw[hX];let E7:=yL c s W (zS X.pv) mu;show bh (Y:=E7) (aB a0 (aB a1 (aB (yY f0 rfl) (gj (yT t1 (aB (bL (fQ (aC rfl (aC (fV () ()) rfl)) rfl rfl) rfl rfl) (aB s8 (bZ (fQ (aC rfl (aC (wI h1.2 rfl ()) (aC rfl rfl))) rfl rfl)))))))))
   . rw[aid h1];have t1:dI (tT (aq gm (aa 6) (akg 1)) aQ) vha E=!(false,E):=by
      by_cases h2:c%4=1
      . have:s.ls=[]:=Classical.byContradiction λq=>h1 #[h2,q];show jg (w 1 true (aig h2)) ∅
      . show nY (w 1 false (aif h2))
     show bh (aB a0 (aB a1 (aB (yY f0 rfl) (aB (yY t1 rfl) (bZ (bx 4 none () ()))))))
noncomputable def sgn(i:Int):Str:=if i=0 then "+" else if i=1 then "-" else if i=2 then "*" else if i=3 then "<" else "="
def Rf(i:Int):Sg (sgn i):=by
 unfold sgn Sg;split
 . show .inl rfl
 . split
   . show .inr (.inl rfl)
   . split
     . show .inr (.inr (.inl rfl))
     . split
       . show .inr (.inr (.inr (.inl rfl)))
       . show .inr (.inr (.inr (.inr rfl)))
def YD(h:f E=!(.sh (.int i),E)):cz (akh "+-*<=") (aq aP f (akg 5)) E=!(.sh (.str (sgn (i%5))),E):=by show v9 rfl rfl (fV h ()) rfl X5 ?_;rcases (by omega:i%5=0\/i%5=1\/i%5=2\/i%5=3\/i%5=4) with e|e|e|e|e<;>rw[e]<;>rfl
def Mz(c:Int)(s:Sp):Ex:=tZ (c*48271%2147483563) s
def Gx(c:Int)(s:Sp):Ex:=tZ (c*16807%2147483587) s
def Er(c:Int)(s:Sp):Ex:=if c/3%4=0 then .op (sgn (c/12%5)) (Gx c s) (Mz c s) else Mz c s
def nM(c:Int)(s:Sp):Ex:=if c%3=0 then tZ (c/3) s else .op (sgn (c/60%5)) (Er c s) (Gx c s)
def K8(h:HJ s T):(nM c s).ok T/\(nM c s).dp<=4:=by
 have a1:=uL (c:=c*48271%2147483563) h;have a2:=uL (c:=c*16807%2147483587) h;have a3:(Er c s).ok T/\(Er c s).dp<=3:=by
  unfold Er;split
  . show#[#[Rf _,a2.1,a1.1],?_];show max (Gx c s).dp (Mz c s).dp+1<=3;have e1:(Mz c s).dp<=2:=a1.2;have e2:(Gx c s).dp<=2:=a2.2;lia
  . show#[a1.1,agf a1.2 ()]
 unfold nM;split
 . have a0:=uL (c:=c/3) h;show#[a0.1,agf a0.2 ()]
 . show#[#[Rf _,a3.1,a2.1],?_];show max (Er c s).dp (Gx c s).dp+1<=4;have e2:(Gx c s).dp<=2:=a2.2;have e3:=a3.2;lia
def Us(n0:s.ns≠[])(c0:0<=c)(c1:c<18446744073709551616):dM [.int c,s.pv] mu=!(.sh (nM c s).pv,mu):=by
 let E:=λl2 l3=>(#[[zI c,zS s.pv,l2,l3],mu]:Ev);have t0:∀d,decide (c%3=0)=d->tT vgm aQ (E none none)=!(d,E none none):=λd hd=>(xR (fV rfl ())).trans (by rw[hd]);unfold nM;by_cases h:c%3=0
 . rw[aic h];show bh (Y:=E none none) (gj (yT (t0 true (aig h)) (bZ (aY (aC (iR rfl () ()) (aC rfl rfl)) rfl rfl rfl (Be n0)))))
 . rw[aid h];have ml:∀(k m:Int)(l2 l3:Option Lc),0<m->aq aP (aq cI (aa 0) (akg k)) (akg m) (E l2 l3)=!(.sh (.int (c*k%m)),E l2 l3):=λk m l2 l3 hm=>fV (cN rfl rfl rfl rfl (zW () c1)) hm;let A:Option Lc:=!(.sh (Mz c s).pv);let B:Option Lc:=!(.sh (Gx c s).pv);let C:Option Lc:=!(.sh (Er c s).pv);have t1:∀d,decide (c/3%4=0)=d->tT vem aQ (E A B)=!(d,E A B):=λd hd=>(xR (fV () ())).trans (by rw[hd]);have s4:bY vdn vbl cu (E A B)=!(.nx (E C B)):=by
    by_cases h2:c/3%4=0
    . have e3:Er c s=.op (sgn (c/12%5)) (Gx c s) (Mz c s):=aic h2;show _=!(Fl.nx (E (!(.sh (Er c s).pv)) B));rw[e3];show yT (t1 true (aig h2)) (bL (fQ (aC (YD ()) (aC rfl (aC rfl rfl))) rfl rfl) rfl rfl)
    . have e3:Er c s=Mz c s:=aid h2;show _=!(Fl.nx (E (!(.sh (Er c s).pv)) B));rw[e3];show yY (t1 false (aif h2)) rfl
   show bh (Y:=E C B) (aB (yY (t0 false (aif h)) rfl) (aB (bL (aY (aC (ml _ _ _ _ ()) (aC rfl rfl)) rfl rfl rfl (Be n0)) rfl rfl) (aB (bL (aY (aC (ml _ _ _ _ ()) (aC rfl rfl)) rfl rfl rfl (Be n0)) rfl rfl) (aB s4 (bZ (fQ (aC (YD ()) (aC rfl (aC rfl rfl))) rfl rfl))))))
def MF(L:List (Str×List Str))(c:Int):Str×List Str:=L.getD (c%(L.length:Int)).toNat ("",[])
def K9(h:L≠[])(c:Int):MF L c∈L:=by have hl:0<L.length:=List.length_pos_iff.mpr h;have h0:=agl c (b:=(L.length:Int)) ();have h1:=agh c (b:=(L.length:Int)) ();unfold MF;rw[ahb,aeM ()];show List.getElem_mem _
def aaK(h:L≠[]){fl fi:EF}(h1:fl E=!(.sh (.lst (L.map tY)),E))(h2:fi E=!(.sh (.int c),E)):cz fl (aq aP fi (bO fl)) E=!(.sh (tY (MF L c)),E):=by
 have hl:=List.length_pos_iff.mpr h;have h0:=agl c (b:=(L.length:Int)) ();have h3:=agh c (b:=(L.length:Int)) ();have hlen:bO fl E=!(.sh (.int (L.length:Nat)),E):=by unfold bO;rw[h1,aaS];show some (Lc.sh (.int ((L.map tY).length:Nat)),E)=_;rw[aaW]
 show v9 h1 rfl (cN h2 rfl hlen rfl (gR ())) rfl An ?_;show (gA (L.map tY) (c%(L.length:Int))).map _=_;obtain⟨j,hj⟩:∃j:Nat,c%(L.length:Int)=(j:Int):=#[(c%(L.length:Int)).toNat,()];rw[hj,uI (p:=tY (MF L c)) (by unfold MF;rw[hj,ahu,af9,ahb,aeM ()];rfl)]
 rfl
def Wf(b:Int)(s:Sp)(j:Nat):Ex:=tZ ((b+1)*((j:Int)*40014+48271)%2147483563) s
def Fz(b:Int)(s:Sp)(n:Nat):List Ex:=(List.range n).map (Wf b s)
def JM(a:Int)(s:Sp):Ex:=if a/12%2=0 then tZ (a/24) s else .num (a/24%9)
inductive RX where
 |put (x:Str) (p e:Ex)
 |out (x:Str) (e:Ex) (w:Str)
 |call (x f:Str) (es:List Ex)
 |set (x:Str) (e:Ex)
def RX.row:RX->Row
 |.put x p e=>.leaf "put" [.str x,p.pv,e.pv]
 |.out x e w=>.leaf "out" [.str x,e.pv,.str w]
 |.call x f es=>.call (.str x) f (es.map Ex.pv)
 |.set x e=>.leaf "set" [.str x,e.pv]
def uM(a b:Int)(s:Sp):RX:=
 if a%12<2/\s.ls≠[] then .put (pk s.ls (a/216)) (JM a s) (nM b s)
 else if a%12=2 then .out (pk s.ns (a/12)) (nM b s) (pk s.ws (a/144))
 else if (a%12=3\/a%12=4\/a%12=10\/a%12=11)/\s.hs≠[] then .call (pk s.ns (a/12)) (MF s.hs (a/144)).1 (Fz b s (MF s.hs (a/144)).2.length)
 else .set (pk s.ns (a/12)) (nM b s)
abbrev RWE(a b:Int)(s:Sp)(l7 l8 l9 l10 l11 l12:Option Lc)(mu:Mu):Ev:=#[[zI a,zI b,zS s.pv,zL (s.ns.map .str),zL (s.ls.map .str),zL (s.hs.map tY),zL (s.ws.map .str),l7,l8,l9,l10,l11,l12],mu]
theorem MJ(n0:s.ns≠[])(b0:0<=b)(b1:b<4000000000):∀(m i:Nat)(o:Option Lc)(acc:List PV),acc.length+m<=1000->i+m<=1000->iJ (aF 0) dw vbb ((List.range' i m).map λ(j:Nat)=>PV.int (j:Nat)) #[[o,zI b,zS s.pv],mu] acc=!(acc++((List.range' i m).map (Wf b s)).map Ex.pv,mu)
 |0=>λi o acc _ _=>by show _=!(acc++[],mu);rw[abv];rfl
 |m+1=>λi o acc h1 h2=>by let E:Ev:=#[[zI (i:Nat),zI b,zS s.pv],mu];have ih:=MJ n0 b0 b1 (mu:=mu) m (i+1) (zI (i:Nat)) (acc++[(Wf b s i).pv]) ∅ ();rw[aba]at ih;show nG rfl (aY (ls:=[.sh (.int ((b+1)*((i:Int)*40014+48271)%2147483563)),.sh s.pv]) (aC (Y1:=E) ?_ (aC rfl rfl)) rfl rfl rfl (Be n0)) () ih;show fV (cN (cN rfl rfl rfl rfl rfl) rfl (cN (cN rfl rfl rfl rfl (zW () ())) rfl rfl rfl rfl) rfl (zW () ())) ()
def ac2(n0:s.ns≠[])(w0:s.ws≠[])(hh:∀h∈s.hs,h.2.length<=10)(b0:0<=b)(b1:b<4000000000):tM [.int a,.int b,s.pv] mu=!(.sh (uM a b s).row.pv,mu):=by
 let X:Option Lc:=zT (pk s.ns (a/12));let W:Option Lc:=zI (a%12);let E:=RWE a b s X W none none none none mu;have a0:vdc #[[zI a,zI b,zS s.pv,none,none,none,none,none,none,none,none,none,none],mu]=!(.nx (RWE a b s none none none none none none mu)):=rfl;have a1:vdo (RWE a b s none none none none none none mu)=!(.nx (RWE a b s X none none none none none mu)):=bL (wI n0 rfl ()) rfl rfl;have a2:(aO 8 (aq aP (aa 0) (akg 12))) (RWE a b s X none none none none none mu)=!(.nx E):=bL () rfl rfl;have ex:∀(l9:Option Lc),aH dM vij (RWE a b s X W l9 none none none mu)=!(.sh (nM b s).pv,RWE a b s X W l9 none none none mu):=λl9=>aY rfl rfl rfl rfl (Us n0 b0 ());have gl:tT (aq jM (bO (aa 4)) (akg 0)) aQ E=!(decide (((s.ls.map PV.str).length:Int)>0),E):=rfl;have gh:tT (aq jM (bO (aa 5)) (akg 0)) aQ E=!(decide (((s.hs.map tY).length:Int)>0),E):=rfl;have lt:tT (aq qx (aa 8) (akg 2)) aQ E=!(decide (a%12<2),E):=rfl;have pos:∀{α:Type}{L:List α}{f:α->PV},L≠[]->decide (((L.map f).length:Int)>0)=true:=λ{α L f} h=>aig (by have:0<L.length:=List.length_pos_iff.mpr h;rw[aaW];lia);unfold uM;by_cases h1:a%12<2/\s.ls≠[]
 . rw[aic h1];have t1:=jg (lt.trans (by rw[aig h1.1])) (gl.trans (by rw[pos h1.2]));let P0:Option Lc:=!(.sh (Ex.num (a/24%9)).pv);have t2:∀d,decide (a/12%2=0)=d->tT vek aQ (RWE a b s X W P0 none none none mu)=!(d,RWE a b s X W P0 none none none mu):=λd hd=>(xR (fV () ())).trans (by rw[hd]);have s10:bY vdm vdy cu (RWE a b s X W P0 none none none mu)=!(.nx (RWE a b s X W (!(.sh (JM a s).pv)) none none none mu)):=by
    by_cases h2:a/12%2=0
    . rw[show JM a s=tZ (a/24) s from aic h2];show yT (t2 true (aig h2)) (bL (aY (aC (iR rfl () ()) (aC rfl rfl)) rfl rfl rfl (Be n0)) rfl rfl)
    . rw[show JM a s=.num (a/24%9) from aid h2];show yY (t2 false (aif h2)) rfl
   let E9:=RWE a b s X W (!(.sh (JM a s).pv)) none none none mu;show bh (Y:=E9) (aB a0 (aB a1 (aB a2 (gj (yT t1 (aB (bL (fQ (aC rfl (aC (fV () ()) rfl)) rfl rfl) rfl rfl) (aB s10 (bZ (fQ (aC rfl (aC (wI h1.2 rfl ()) (aC rfl (aC (ex _) rfl)))) rfl rfl)))))))))
 . rw[aid h1];have t1:dI (tT (aq qx (aa 8) (akg 2)) aQ) vhb E=!(false,E):=by
    by_cases h2:a%12<2
    . have:s.ls=[]:=Classical.byContradiction λq=>h1 #[h2,q];show jg (lt.trans (by rw[aig h2])) (gl.trans (by rw[this];rfl))
    . show nY (lt.trans (by rw[aif h2]))
   have n1:(bY vcz (aG vcs (aG (bY vdm vdy cu) vap)) cu) E=!(.nx E):=yY t1 rfl;have t2:∀d,decide (a%12=2)=d->tT (aq gm (aa 8) (akg 2)) aQ E=!(d,E):=λd hd=>(xR (Y1:=E) rfl).trans (by rw[hd]);by_cases h2:a%12=2
   . rw[aic h2];show bh (Y:=E) (aB a0 (aB a1 (aB a2 (aB n1 (gj (yT (t2 true (aig h2)) (bZ (fQ (aC rfl (aC rfl (aC (ex _) (aC (wI w0 rfl ()) rfl)))) rfl rfl))))))))
   . rw[aid h2];have n2:(bY (tT (aq gm (aa 8) (akg 2)) aQ) vaq cu) E=!(.nx E):=yY (t2 false (aif h2)) rfl;have inn:tT vct aQ E=!(decide (a%12=3\/a%12=4\/a%12=10\/a%12=11),E):=by show dY (l:=.sh (.bl (decide (a%12=3\/a%12=4\/a%12=10\/a%12=11)))) (cN rfl rfl rfl rfl ?_) rfl rfl;show some (Lc.sh (.bl ((3:Int)==a%12||((4:Int)==a%12||((10:Int)==a%12||((11:Int)==a%12||false))))))=_;congr 3;rw[Bool.eq_iff_iff];simp only[Bool.or_eq_true,beq_iff_eq,decide_eq_true_eq,ahG,or_false];lia
     by_cases h3:(a%12=3\/a%12=4\/a%12=10\/a%12=11)/\s.hs≠[]
     . rw[aic h3];obtain⟨hd,hhd⟩:∃hd,MF s.hs (a/144)=hd:=#[_,rfl];have l10:=hh _ (K9 h3.2 (a/144));rw[hhd]at l10 ⊢;have t3:=jg (inn.trans (by rw[aig h3.1])) (gh.trans (by rw[pos h3.2]));let F10:Option Lc:=zT hd.1;let F11:Option Lc:=zL (hd.2.map .str);let E11:=RWE a b s X W none F10 F11 none mu;let A12:Option Lc:=zO ((Fz b s hd.2.length).map Ex.pv);have pk':=aaK h3.2 (fl:=aa 5) (fi:=aq bM (aa 0) (akg 144)) (E:=E) rfl ();rw[hhd]at pk';have s11:rG (cz (aa 5) (aq aP (aq bM (aa 0) (akg 144)) (bO (aa 5)))) vhd E=!(.nx E11):=by unfold rG;rw[pk',aaS];rfl
       have s12:aO 12 vah E11=!(.nx (RWE a b s X W none F10 F11 A12 mu)):=by
        have ec:=MJ n0 b0 b1 (mu:=mu) hd.2.length 0 none [] (by show 0+_<=_;lia) ();rw[ahe,<-List.range_eq_range']at ec
        show bL (iU (Q9 (by show some (Lc.sh (.int ((hd.2.map PV.str).length:Nat)),E11)=_;rw[aaW]) ()) ec) rfl rfl
       show bh (Y:=RWE a b s X W none F10 F11 (zL ((Fz b s hd.2.length).map Ex.pv)) mu) (aB a0 (aB a1 (aB a2 (aB n1 (aB n2 (gj (yT t3 (aB s11 (aB s12 (bZ (fQ (aC rfl (aC rfl (aC rfl (aC rfl rfl)))) rfl rfl)))))))))))
     . rw[aid h3];have t3:dI vce vhc E=!(false,E):=by
        by_cases h4:(a%12=3\/a%12=4\/a%12=10\/a%12=11)
        . have:s.hs=[]:=Classical.byContradiction λq=>h3 #[h4,q];show jg (inn.trans (by rw[aig h4])) (gh.trans (by rw[this];rfl))
        . show nY (inn.trans (by rw[aif h4]))
       show bh (Y:=E) (aB a0 (aB a1 (aB a2 (aB n1 (aB n2 (aB (yY t3 rfl) (bZ (fQ (aC rfl (aC rfl (aC (ex _) rfl))) rfl rfl))))))))
def abu(h:HJ s T):(JM a s).ok T/\(JM a s).dp<=2:=by
 unfold JM;split
 . show uL h
 . have h0:=agl (a/24) (b:=9) ();show#[#[h0,()],by show 1<=2;decide]
def afW(h:HJ s (B0++tmp (Bd ts w)))(hl:∀x∈s.ls,qP B0 x)(hh:∀q∈s.hs,q.1∈ts.map (·.name)/\rW ts q.1=q.2):(uM a b s).row.gd (QR B0 ts w):=by
 have he:=K8 (c:=b) h;have hp:=abu (a:=a) h;have hx:=h.ns _ (Eo h.n0 (a/12));unfold uM;split
 . rename_i c;show#[.put _ _ _,#[rfl,agf hp.2 (),agf he.2 ()],hl _ (Eo c.2 _),hp.1,he.1]
 . split
   . show#[.set _ _,#[.inr #[_,rfl],agf he.2 ()],hx,he.1]
   . split
     . rename_i c;let(h1,h2):=hh _ (K9 c.2 (a/144));show#[.call _ _ _,#[rfl,λe he=>?_],hx,λe he=>?_,?_,h1]
       . let(j,_,rfl):=abz.mp he;show agf (uL h).2 ()
       . let(j,_,rfl):=abz.mp he;show(uL h).1
       . unfold Fz;lia
     . show#[.set _ _,#[.inl rfl,agf he.2 ()],hx,he.1]
theorem Ex.fl:∀(e:Ex),di e.pv=true/\Jw e.pv<=e.dp+1
 |.num i=>#[rfl,by show 2<=2;decide]
 |.box x=>#[rfl,by show 2<=2;decide]
 |.at_ x e=>by
  let(h1,h2):=Ex.fl e;show#[?_,?_]
  . show (true&&(true&&(di e.pv&&true)))=true;rw[h1];rfl
  . show max 1 (max 1 (max (Jw e.pv) 0))+1<=e.dp+1+1;lia
 |.op s a b=>by
  let(h1,h2):=Ex.fl a;let(h3,h4):=Ex.fl b;show#[?_,?_]
  . show (true&&(di a.pv&&(di b.pv&&true)))=true;rw[h1,h3];rfl
  . show max 1 (max (Jw a.pv) (max (Jw b.pv) 0))+1<=max a.dp b.dp+1+1;lia
def JN{e:Ex}(h:e.dp<=8):fl e.pv:=#[(Ex.fl e).1,by have:=(Ex.fl e).2;lia]
def afX(h:HJ s T)(hn:∀q∈s.hs,q.1.length<=1000/\q.2.length<=10):(uM a b s).row.ok/\(uM a b s).row.cnt=1/\(uM a b s).row.dep=1:=by
 have he:=JN (agf (K8 (c:=b) h).2 ());have hp:=JN (agf (abu (a:=a) h).2 ());unfold uM;split
 . show#[#[#[by decide +kernel,by decide +kernel,by decide +kernel],kO Aq (kO hp (kO he Ao))],rfl,rfl]
 . split
   . show#[#[#[by decide +kernel,by decide +kernel,by decide +kernel],kO Aq (kO he (kO Aq Ao))],rfl,rfl]
   . split
     . rename_i c;let(h1,h2):=hn _ (K9 c.2 (a/144));show#[#[Aq,h1,?_,by unfold Fz;rw[aaW,aaW,agX];lia],rfl,rfl];have go:∀l:List Ex,(∀e∈l,e.dp<=8)->Tn (l.map Ex.pv):=λl=>by
        induction l with
        |nil=>intro _;show Ao
        |cons e l ih=>intro q;show kO (JN (q e aaV)) (ih λx hx=>q x (abl _ hx))
       show go _ λe he=>?_;let(j,_,rfl):=abz.mp he;show agf (uL h).2 ()
     . show#[#[#[by decide +kernel,by decide +kernel,by decide +kernel],kO Aq (kO he Ao)],rfl,rfl]
mutual
theorem yM:∀(p:PV)(k:Nat),di p=true->aU mu k p=p
 |.non=>λk _=>by cases k<;>rfl
 |.bl _=>λk _=>by cases k<;>rfl
 |.int _=>λk _=>by cases k<;>rfl
 |.str _=>λk _=>by cases k<;>rfl
 |.tup ps=>λk h=>by
  cases k with
  |zero=>rfl
  |succ k=>
   show PV.tup (ps.map (aU mu k))=_;rw[wk ps k ()]
 |.lst _=>λk h=>by simp[di]at h
 |.dk _ _=>λk h=>by simp[di]at h
 |.dt _ _=>λk h=>by simp[di]at h
 |.obj _ _ _=>λk h=>by simp[di]at h
 |.df _ _=>λk h=>by simp[di]at h
 |.dtf _ _=>λk h=>by simp[di]at h
 |.dx _ _ _=>λk h=>by simp[di]at h
 |.exc _=>λk h=>by simp[di]at h
 |.fn _=>λk h=>by simp[di]at h
 |.ptr _=>λk h=>by simp[di]at h
theorem wk:∀(ps:List PV)(k:Nat),jn ps=true->ps.map (aU mu k)=ps
 |[]=>λk _=>rfl
 |p::ps=>λk h=>by simp only[jn,ahz]at h;rw[af8,yM p k h.1,wk ps k h.2]
end
abbrev CS:=Nat->Prop
mutual
def Row.ce(mu:Mu)(S:CS):Row->PV->Prop
 |.leaf w ps,v=>v=.tup (.str w::ps)
 |.call b n as,v=>v=.tup [.str "call",b,.str n,.lst as]
 |.wh e b,v=>∃c ws,v=.tup [.str "while",e,.ptr c]/\S c/\mu[c]?=!(!(.lst ws))/\b.ces mu S ws
 |.iff e b d,v=>∃c ws c' ws',v=.tup [.str "if",e,.ptr c,.ptr c']/\S c/\mu[c]?=!(!(.lst ws))/\b.ces mu S ws/\S c'/\mu[c']?=!(!(.lst ws'))/\d.ces mu S ws'
def Rows.ces(mu:Mu)(S:CS):Rows->List PV->Prop
 |.nil,ws=>ws=[]
 |.cons r rs,ws=>∃v vs,ws=v::vs/\r.ce mu S v/\rs.ces mu S vs
end
mutual
theorem Row.ce_to(h:∀c,S c->S' c/\mu'[c]?=mu[c]?):∀{r:Row}{v:PV},r.ce mu S v->r.ce mu' S' v
 |.leaf w ps,v=>λe=>e
 |.call b n as,v=>λe=>e
 |.wh e b,v=>λz2=>by let(c,ws,h1,h2,h3,h4):=z2;show #[c,ws,h1,(h c h2).1,(h c h2).2.trans h3,Rows.ces_to h h4]
 |.iff e b d,v=>λz2=>by let(c,ws,c',ws',h1,h2,h3,h4,h5,h6,h7):=z2;show #[c,ws,c',ws',h1,(h c h2).1,(h c h2).2.trans h3,Rows.ces_to h h4,(h c' h5).1,(h c' h5).2.trans h6,Rows.ces_to h h7]
theorem Rows.ces_to(h:∀c,S c->S' c/\mu'[c]?=mu[c]?):∀{rs:Rows}{ws:List PV},rs.ces mu S ws->rs.ces mu' S' ws
 |.nil,ws=>λe=>e
 |.cons r rs,ws=>λz2=>by let(v,vs,h1,h2,h3):=z2;show #[v,vs,h1,Row.ce_to h h2,Rows.ces_to h h3]
end
noncomputable def Rows.snoc:Rows->Row->Rows
 |.nil,r=>.cons r .nil
 |.cons q rs,r=>.cons q (rs.snoc r)
theorem Rows.ces_snoc(h:r.ce mu S v):∀{rs:Rows}{ws:List PV},rs.ces mu S ws->(rs.snoc r).ces mu S (ws++[v])
 |.nil,ws=>λe=>by subst e;show#[v,[],rfl,h,rfl]
 |.cons q rs,ws=>λz2=>by let(u,vs,h1,h2,h3):=z2;subst h1;show#[u,vs++[v],rfl,h2,Rows.ces_snoc h h3]
theorem Rows.ces_len:∀{rs:Rows}{ws:List PV},rs.ces mu S ws->ws.length<=rs.cnt
 |.nil,ws=>λe=>by subst e;show aa0 _
 |.cons q rs,ws=>λz2=>by let(u,vs,h1,h2,h3):=z2;subst h1;have:=q.cnt_pos;have:=Rows.ces_len h3;show vs.length+1<=q.cnt+rs.cnt;lia
theorem Rows.snoc_cnt:∀{rs:Rows},(rs.snoc r).cnt=rs.cnt+r.cnt
 |.nil=>by show r.cnt+0=0+r.cnt;lia
 |.cons q rs=>by show q.cnt+(rs.snoc r).cnt=q.cnt+rs.cnt+r.cnt;rw[Rows.snoc_cnt];lia
theorem Rows.snoc_dep:∀{rs:Rows},(rs.snoc r).dep<=max rs.dep (r.dep+1)
 |.nil=>by show max (r.dep+1) 1<=max 1 (r.dep+1);lia
 |.cons q rs=>by have:=Rows.snoc_dep (r:=r) (rs:=rs);show max (q.dep+1) (rs.snoc r).dep<=max (max (q.dep+1) rs.dep) (r.dep+1);lia
theorem Rows.snoc_ok(h:r.ok):∀{rs:Rows},rs.ok->(rs.snoc r).ok
 |.nil=>λ_=>#[h,trivial]
 |.cons q rs=>λz1=>by let(h1,h2):=z1;show #[h1,Rows.snoc_ok h h2]
theorem Rows.snoc_gd(h:r.gd Q):∀{rs:Rows},rs.gd Q->(rs.snoc r).gd Q
 |.nil=>λ_=>#[h,trivial]
 |.cons q rs=>λz1=>by let(h1,h2):=z1;show #[h1,Rows.snoc_gd h h2]
mutual
theorem Row.ce_res:∀(r:Row){v:PV}(k:Nat),r.ok->2*r.dep<=k->r.ce mu S v->aU mu k v=r.pv
 |.leaf w ps,v=>λk o hk e=>by
  subst e;cases k with
  |zero=>rfl
  |succ k=>
   show PV.tup (aU mu k (.str w)::ps.map (aU mu k))=.tup (.str w::ps);rw[mW,wk ps k o.2.1]
 |.call b n as,v=>λk o hk e=>by
  subst e;cases k with
  |zero=>rfl
  |succ k=>
   show PV.tup [aU mu k (.str "call"),aU mu k b,aU mu k (.str n),aU mu k (.lst as)]=.tup [.str "call",b,.str n,.lst as];have:aU mu k (.lst as)=.lst as:=by
    cases k with
    |zero=>rfl
    |succ k=>show PV.lst (as.map (aU mu k))=_;rw[wk as k o.2.2.1.1]
   rw[mW,mW,this,yM b k o.1.1]
 |.wh e b,v=>λk o hk z5=>by let(c,ws,h1,h2,h3,h4):=z5;subst h1;have hd:2*(b.dep+1)<=k:=hk;have:=b.dep_pos;obtain⟨j,rfl⟩:∃j,k=j+3:=#[k-3,()];show PV.tup [aU mu (j+2) (.str "while"),aU mu (j+2) e,aU mu (j+2) (.ptr c)]=.tup [.str "while",e,.lst b.pvs];rw[mW,yM e _ o.1.1,qt h3];show PV.tup [_,_,.lst (ws.map (aU mu j))]=_;rw[Rows.ces_res b j o.2 () h4]
 |.iff e b d,v=>λk o hk z5=>by let(c,ws,c',ws',h1,h2,h3,h4,h5,h6,h7):=z5;subst h1;have hd:2*(max b.dep d.dep+1)<=k:=hk;have:=b.dep_pos;obtain⟨j,rfl⟩:∃j,k=j+3:=#[k-3,()];show PV.tup [aU mu (j+2) (.str "if"),aU mu (j+2) e,aU mu (j+2) (.ptr c),aU mu (j+2) (.ptr c')]=.tup [.str "if",e,.lst b.pvs,.lst d.pvs];rw[mW,yM e _ o.1.1,qt h3,qt h6];show PV.tup [_,_,.lst (ws.map (aU mu j)),.lst (ws'.map (aU mu j))]=_;rw[Rows.ces_res b j o.2.1 () h4,Rows.ces_res d j o.2.2 () h7]
theorem Rows.ces_res:∀(rs:Rows){ws:List PV}(k:Nat),rs.ok->2*rs.dep<=k+2->rs.ces mu S ws->ws.map (aU mu k)=rs.pvs
 |.nil,ws=>λk o hk e=>by subst e;rfl
 |.cons r rs,ws=>λk o hk z5=>by let(v,vs,h1,h2,h3):=z5;subst h1;have hd:2*max (r.dep+1) rs.dep<=k+2:=hk;show aU mu k v::vs.map (aU mu k)=r.pv::rs.pvs;rw[Row.ce_res r k o.1 () h2,Rows.ces_res rs k o.2 () h3]
end
structure Lv where
 kd:Str
 gu:PV
 fs:Option Rows
 rs:Rows
def Wg(mu:Mu)(cL lo r:Nat):Option Rows->PV->Prop
 |none,F=>F=.non
 |some b,F=>∃f wb,F=.ptr f/\lo<=f/\f<r/\f≠cL/\mu[f]?=!(!(.lst wb))/\b.ces mu (λc=>f<c/\c<r/\c≠cL) wb
structure LvA(mu:Mu)(cL lo hi p:Nat)(v:Lv)(r:Nat)(F:PV)(ws:List PV):Prop where
 r0:lo<=r
 rp:r<p
 ph:p<hi
 rc:r≠cL
 pc:p≠cL
 hp:mu[p]?=!(!(.lst [.str v.kd,v.gu,F,.ptr r]))
 hr:mu[r]?=!(!(.lst ws))
 cs:v.rs.ces mu (λc=>p<c/\c<hi/\c≠cL) ws
 fa:Wg mu cL lo r v.fs F
def Rg(mu:Mu)(cL:Nat):List Lv->List Nat->Nat->Prop
 |[],ps,_=>ps=[]
 |v::L,ps,hi=>∃p qs lo r F ws,ps=p::qs/\LvA mu cL lo hi p v r F ws/\Rg mu cL L qs lo
def Wg.to{cL lo r:Nat}(h:∀c,c<r->c≠cL->mu'[c]?=mu[c]?):∀{o:Option Rows}{F:PV},Wg mu cL lo r o F->Wg mu' cL lo r o F
 |none,F,e=>e
 |some b,F,#[f,wb,h1,h2,h3,h4,h5,h6]=>#[f,wb,h1,h2,h3,h4,(h f h3 h4).trans h5,Rows.ces_to (λc hc=>#[hc,h c hc.2.1 hc.2.2]) h6]
def LvA.to{cL lo hi hi' p r:Nat}(h:∀c,c<hi->c≠cL->mu'[c]?=mu[c]?)(hh:hi<=hi')(a:LvA mu cL lo hi p v r F ws):LvA mu' cL lo hi' p v r F ws:=
 #[a.r0,a.rp,by have:=a.ph;lia,a.rc,a.pc,(h p a.ph a.pc).trans a.hp,(h r (by have:=a.rp;have:=a.ph;lia) a.rc).trans a.hr,Rows.ces_to (λc hc=>#[#[hc.1,(),hc.2.2],h c hc.2.1 hc.2.2]) a.cs,a.fa.to λc h1 h2=>h c (by have:=a.rp;have:=a.ph;lia) h2]
theorem Rg.to:∀{L:List Lv}{ps:List Nat}{hi hi':Nat},(∀c,c<hi->c≠cL->mu'[c]?=mu[c]?)->hi<=hi'->Rg mu cL L ps hi->Rg mu' cL L ps hi'
 |[],ps,hi,hi'=>λ_ _ e=>e
 |v::L,ps,hi,hi'=>λh hh z6=>by let(p,qs,lo,r,F,ws,h1,a,h2):=z6;show #[p,qs,lo,r,F,ws,h1,a.to h hh,h2.to (λc hc=>h c (by have:=a.r0;have:=a.rp;have:=a.ph;lia)) ()]
theorem Rg.len:∀{L:List Lv}{ps:List Nat}{hi:Nat},Rg mu cL L ps hi->ps.length=L.length
 |[],ps,hi=>λe=>by rw[e];rfl
 |v::L,ps,hi=>λz3=>by let(p,qs,lo,r,F,ws,h1,a,h2):=z3;rw[h1,aa9,aa9,h2.len]
abbrev oZ(ps:List Nat):List PV:=ps.reverse.map .ptr
def Oa:oZ (p::ps)=oZ ps++[.ptr p]:=by lia
def La:(oZ ps).length=ps.length:=by lia
structure LS(mu:Mu)(cL:Nat)(L:List Lv)(ps:List Nat):Prop where
 hc:mu[cL]?=!(!(.lst (oZ ps)))
 hs:Rg mu cL L ps mu.length
def Bf{α:Type}{A B:List α}(h:c<A.length):(A++B)[c]?=A[c]?:=agm h
def get_set{mu:Mu}(h:d≠c):(mu.set c x)[d]?=mu[d]?:=agc (λe=>h e.symm)
def LS.push(s:LS mu cL L ps)(hf:v.fs=none)(hw:v.rs.ces mu (λ_=>False) ws):LS ((mu++[!(PV.lst ws),!(.lst [.str v.kd,v.gu,.non,.ptr mu.length])]).set cL (!(.lst (oZ ps++[.ptr (mu.length+1)])))) cL (v::L) ((mu.length+1)::ps):=by
 have hl:=fU s.hc;show#[?_,mu.length+1,ps,mu.length,mu.length,.non,ws,rfl,#[aa0 _,(),?_,(),(),?_,?_,?_,?_],?_]
 . rw[aeI (by rw[aaU];lia),Oa]
 . rw[agd,aaU];show _<_+2;lia
 . rw[get_set (),aby ()];rw[show mu.length+1-mu.length=1 from by omega];rfl
 . rw[get_set (),aby (),ag3];rfl
 . show Rows.ces_to (λc h=>h.elim) hw
 . rw[hf];rfl
 . show s.hs.to (λc h1 h2=>?_) (aa0 _);rw[get_set h2,Bf h1]
def LS.row(s:LS mu cL (v::L) ps):∃p qs r F ws,ps=p::qs/\mu[cL]?=!(!(.lst (oZ qs++[.ptr p])))/\mu[p]?=!(!(.lst [.str v.kd,v.gu,F,.ptr r]))/\mu[r]?=!(!(.lst ws))/\ws.length<=v.rs.cnt/\∀(mu':Mu),mu.length<=mu'.length->(∀c,c<mu.length->mu'[c]?=mu[c]?)->∀(rw':Row)(x:PV),rw'.ce mu' (λc=>p<c/\c<mu'.length/\c≠cL) x->LS (mu'.set r (!(.lst (ws++[x])))) cL (#[v.kd,v.gu,v.fs,v.rs.snoc rw']::L) ps:=by
 let(p,qs,lo,r,F,ws,h1,a,h2):=s.hs;have hl:=fU s.hc;have k1:=a.r0;have k2:=a.rp;have k3:=a.ph;have k4:=a.rc;have k5:=a.pc;show#[p,qs,r,F,ws,h1,by rw[s.hc,h1,Oa],a.hp,a.hr,Rows.ces_len a.cs,λmu' hm hk rw' x hx=>?_];have e:∀c,c<mu.length->c≠r->(mu'.set r (!(.lst (ws++[x]))))[c]?=mu[c]?:=λc h3 h4=>by rw[get_set h4,hk c h3]
 show#[by rw[e cL hl (λq=>k4 q.symm)];show s.hc,p,qs,lo,r,F,ws++[x],h1,#[k1,k2,by rw[agd];lia,k4,k5,by rw[e p k3 ()];show a.hp,aeI (),?_,?_],?_]
 . rw[agd];show Rows.ces_snoc (Row.ce_to (λc hc=>#[hc,get_set ()]) hx) (Rows.ces_to (λc hc=>#[#[hc.1,(),hc.2.2],e c hc.2.1 ()]) a.cs)
 . show a.fa.to λc h3 h4=>e c () ()
 . show h2.to (λc h3 h4=>e c () ()) ()
def LS.els(s:LS mu cL (v::L) (p::qs))(hp:mu[p]?=!(!(.lst [.str v.kd,v.gu,F,.ptr r]))):LS ((mu++[!(PV.lst []),!(.lst [.str v.kd,v.gu,.ptr r,.ptr mu.length])]).set cL (!(.lst (oZ qs++[.ptr (mu.length+1)])))) cL (#[v.kd,v.gu,!v.rs,.nil]::L) ((mu.length+1)::qs):=by
 let(p',qs',lo,r',F',ws,h1,a,h2):=s.hs;injection h1 with e1 e2;subst e1 e2;have e3:=a.hp.symm.trans hp;injection e3 with e3;injection e3 with e3;injection e3 with e3;injection e3 with _ e3;injection e3 with _ e3;injection e3 with _ e3;injection e3 with e3 _;injection e3 with e3;subst e3;have hl:=fU s.hc;have k1:=a.r0;have k2:=a.rp;have k3:=a.ph;have k4:=a.rc;have k5:=a.pc;have e:∀c,c<mu.length->c≠cL->((mu++[!(PV.lst []),!(.lst [.str v.kd,v.gu,.ptr r',.ptr mu.length])]).set cL (!(.lst (oZ qs++[.ptr (mu.length+1)]))))[c]?=mu[c]?:=λc h3 h4=>by rw[get_set h4,Bf h3]
 show#[?_,mu.length+1,qs,lo,mu.length,.ptr r',[],rfl,#[(),(),?_,(),(),?_,?_,rfl,r',ws,rfl,k1,(),k4,?_,?_],?_]
 . rw[aeI (by rw[aaU];lia),Oa]
 . rw[agd,aaU];show _<_+2;lia
 . rw[get_set (),aby (),show mu.length+1-mu.length=1 from by omega];rfl
 . rw[get_set (),aby (),ag3];rfl
 . rw[e r' () k4];show a.hr
 . show Rows.ces_to (λc hc=>#[#[(),hc.2],e c hc.2.1 hc.2.2]) a.cs
 . show h2.to (λc h3 h4=>e c () h4) (aa0 _)
def agM(mu:Mu)(S:CS):Option Rows->PV->Prop
 |none,F=>F=.non
 |some b,F=>∃f wb,F=.ptr f/\S f/\mu[f]?=!(!(.lst wb))/\b.ces mu S wb
def LS.pop(s:LS mu cL (v::u::L) ps):∃p pu qs r F ws,ps=p::pu::qs/\mu[cL]?=!(!(.lst (oZ (pu::qs)++[.ptr p])))/\mu[p]?=!(!(.lst [.str v.kd,v.gu,F,.ptr r]))/\LS (mu.set cL (!(.lst (oZ (pu::qs))))) cL (u::L) (pu::qs)/\(pu<r/\r<mu.length/\r≠cL)/\(mu.set cL (!(.lst (oZ (pu::qs)))))[r]?=!(!(.lst ws))/\v.rs.ces (mu.set cL (!(.lst (oZ (pu::qs))))) (λc=>pu<c/\c<mu.length/\c≠cL) ws/\agM (mu.set cL (!(.lst (oZ (pu::qs))))) (λc=>pu<c/\c<mu.length/\c≠cL) v.fs F:=by
 let(p,qs,lo,r,F,ws,h1,a,h2):=s.hs;let(pu,qs',lo',r',F',ws',h3,a',h4):=id h2;subst h3;have hl:=fU s.hc;have k1:=a.r0;have k2:=a.rp;have k3:=a.ph;have k4:=a.rc;have k5:=a'.ph;have e:∀c,c≠cL->(mu.set cL (!(.lst (oZ (pu::qs')))))[c]?=mu[c]?:=λc h=>get_set h;show#[p,pu,qs',r,F,ws,h1,by rw[s.hc,h1,Oa],a.hp,#[aeI hl,?_],#[(),(),k4],by rw[e r k4];show a.hr,Rows.ces_to (λc hc=>#[#[(),hc.2],e c hc.2.2]) a.cs,?_]
 . rw[agd];show h2.to (λc _ h=>e c h) ()
 . have g:=a.fa;cases hv:v.fs with
   |none=>rw[hv]at g;show g
   |some b=>
    rw[hv]at g;let(f,wb,g1,g2,g3,g4,g5,g6):=g;show#[f,wb,g1,#[(),(),g4],(e f g4).trans g5,Rows.ces_to (λc hc=>#[#[(),(),hc.2.2],e c hc.2.2]) g6]
def Lv.close(v:Lv):Row:=if v.kd="while" then .wh v.gu v.rs else match v.fs with
 |none=>.iff v.gu v.rs .nil
 |some b=>.iff v.gu b v.rs
abbrev Lv.add(v:Lv)(r:Row):Lv:=#[v.kd,v.gu,v.fs,v.rs.snoc r]
def lR(w:Bool):List Lv->List Lv
 |v::u::L=>if v.kd="if"/\v.fs=none/\w=true then #[v.kd,v.gu,!v.rs,.nil]::u::L else u.add v.close::L
 |L=>L
abbrev SHE(c:Nat)(w:Bool)(l2 l3 l4 l5:Option Lc)(mu:Mu):Ev:=#[[zS (.ptr c),zS (.bl w),l2,l3,l4,l5],mu]
def Lb(h:f Y=!(.sh (.ptr c),Y1))(hc:Y1.mu[c]?=!(!(.lst (qs++[x])))):aM f (gJ (akg 1)) Y=!(.sh x,Y1):=zY h rfl rfl rfl hc xU
def YF(h:f Y=!(.sh x,Y1))(hb:uq x .non=zS (.bl b)):tT (aq uq f (eC .non)) aQ Y=!(b,Y1):=dY (cN h rfl rfl rfl hb) rfl rfl
def aaL:ue (n+1) (-1)=!n:=by unfold ue;lia
def Ut(s:LS mu cL (v::u::L) ps)(hk:v.kd="if"\/v.kd="while")(hz:u.rs.cnt<=1000):∃mu' ps',j6 [.ptr cL,.bl w] mu=!(.sh .non,mu')/\LS mu' cL (lR w (v::u::L)) ps':=by
 let(p,pu,qs,r,F,ws,e0,e1,e2,s1,r1,e3,c1,f1):=s.pop;subst e0;have hl:=fU s.hc;let E:=SHE cL w (zT v.kd) (zS v.gu) (zS F) (zS (.ptr r)) mu;have a0:(rG (aM (aa 0) (gJ (akg 1))) (Jh 4 veu)) (SHE cL w none none none none mu)=!(.nx E):=by unfold rG;rw[Lb rfl e1,aaS];show (match mu[p]? with |some (!(.lst ws))=>if ws.length=4 then _ else none |_=>none).map Fl.nx=_;rw[e2];rfl
 have t1:∀b,(v.kd== "if")=b->tT (aq eqP (aa 2) (akh "if")) aQ E=!(b,E):=λb hb=>(kY (Y1:=E) rfl).trans (by rw[hb]);have t2:∀b,uq F .non=zS (.bl b)->tT vil aQ E=!(b,E):=λb hb=>YF rfl hb;by_cases cw:v.kd="if"/\v.fs=none/\w=true
 . have hs:lR w (v::u::L)=#[v.kd,v.gu,!v.rs,.nil]::u::L:=aic cw;rw[hs];let(w1,w2,w3):=cw;have hF:F=.non:=by rw[w2]at f1;show f1
   show#[_,_,bh (Y:=#[E.vs,_]) (aB a0 (gj (yT (jg (t1 true ∅) (jg (t2 true (by rw[hF];rfl)) (dY rfl rfl (by rw[w3];rfl)))) (aB ?_ rfl)))),s.els e2];have q1:cg vdq E=!(.sh (.ptr (mu++[!(PV.lst [])]).length),#[E.vs,(mu++[!(PV.lst [])])++[!(PV.lst [.str v.kd,v.gu,.ptr r,.ptr mu.length])]]):=jN (Y1:=#[E.vs,mu++[!(PV.lst [])]]) (qM rfl rfl rfl);show(J8 (j:=(oZ (pu::qs)).length) (ws:=oZ (pu::qs)++[.ptr p]) q1 rfl rfl rfl rfl rfl ?_ ?_).trans ?_
   . show ((mu++[!(PV.lst [])])++_)[cL]?=_;lia
   . rw[aaU];show aaL
   . rw[List.set_append_right _ _ (aa0 _),ag3];rw[aba,aaU];rfl
 . have hs:lR w (v::u::L)=u.add v.close::L:=aid cw;rw[hs];have tf:dI vhn ver E=!(false,E):=by
    by_cases w1:v.kd="if"
    . show jg (t1 true ∅) ?_;cases w2:v.fs with
      |none=>
       rw[w2]at f1;have w3:w=false:=by cases w with |true=>show absurd #[w1,w2,rfl] cw |false=>rfl
       show jg (t2 true (by rw[f1];rfl)) (dY rfl rfl (by rw[w3];rfl))
      |some b=>
       rw[w2]at f1;let(f,wb,g1,_):=f1;show nY (t2 false (by rw[g1];rfl))
    . show nY (t1 false ∅)
   let mu1:=mu.set cL (!(.lst (oZ (pu::qs))));have hl1:mu1.length=mu.length:=agd;let E1:=SHE cL w (zT v.kd) (zS v.gu) (zS F) (zS (.ptr r)) mu1;let(p',qs',ru,Fu,wu,b1,b2,b3,b4,b5,b6):=s1.row;injection b1 with b1 b1';subst b1 b1';have ap:∀{ft:AF}{ls:List Lc}{mu2:Mu}(x:Row),aj (aa 2) (aj (aa 3) ft) E1=!(ls,#[E1.vs,mu2])->Nat.ble ls.length 1000=true->mu1.length<=mu2.length->(∀c,c<mu1.length->mu2[c]?=mu1[c]?)->x.ce mu2 (λc=>pu<c/\c<mu2.length/\c≠cL) (.tup (ls.map Lc.pv))->∃mu',fY vgt (bz (aj (aa 2) (aj (aa 3) ft))) E1=!(.nx #[E1.vs,mu'])/\LS mu' cL (u.add x::L) (pu::qs):=λ{ft ls mu2} x h1 h2 h3 h4 h5=>by have g:=b6 mu2 h3 h4 x _ h5;show#[_,lE (Y2:=#[E1.vs,mu2]) (zY (Lb rfl b2) rfl rfl rfl b3 rfl) rfl b4 (fQ h1 h2 rfl) rfl ((h4 ru (fU b4)).trans b4) () rfl,g]
   have fin:∀{mu'},(bY vgs vcb (bY vhy vbj vbp)) E1=!(.nx #[E1.vs,mu'])->j6 [.ptr cL,.bl w] mu=!(.sh .non,mu'):=λh=>fP (aB a0 (aB (yY tf rfl) (aB (fW (Ku (Y1:=E) rfl rfl e1 rfl)) h)));have sS:∀c,pu<c/\c<mu.length/\c≠cL->(pu<c/\c<mu1.length/\c≠cL)/\mu1[c]?=mu1[c]?:=λc h=>#[by rw[hl1];show h,rfl];have t1':∀b,(v.kd== "while")=b->tT (aq eqP (aa 2) (akh "while")) aQ E1=!(b,E1):=λb hb=>(kY (Y1:=E1) rfl).trans (by rw[hb]);by_cases w1:v.kd="while"
   . have hc:v.close=.wh v.gu v.rs:=aic w1;rw[hc];let(mu',g1,g2):=ap (ft:=aj (aa 5) ao) (.wh v.gu v.rs) rfl rfl (aa0 _) (λ_ _=>rfl) #[r,ws,by rw[w1];rfl,(sS r r1).1,e3,Rows.ces_to sS c1];show#[mu',_,fin (yT (t1' true (by rw[w1];rfl)) g1),g2]
   . have w2:=hk.resolve_right w1;have tw:=t1' false (by rw[w2];rfl);have t2':∀b,uq F .non=zS (.bl b)->tT vil aQ E1=!(b,E1):=λb hb=>YF rfl hb;cases w3:v.fs with
     |none=>
      have hc:v.close=.iff v.gu v.rs .nil:=by unfold Lv.close;rw[aid w1,w3]
      rw[hc];rw[w3]at f1;have k3:∀c,c<mu1.length->(mu1++[!(PV.lst [])])[c]?=mu1[c]?:=λc h=>Bf h;let(mu',g1,g2):=ap (ft:=aj (aa 5) (aj (cg (bG ao)) ao)) (mu2:=mu1++[!(PV.lst [])]) (.iff v.gu v.rs .nil) rfl rfl (by rw[aaU];lia) k3 #[r,ws,mu1.length,[],by rw[w2];rfl,#[r1.1,by rw[aaU];lia,r1.2.2],(k3 r ()).trans e3,Rows.ces_to (λc h=>#[#[h.1,by rw[aaU];lia,h.2.2],k3 c ()]) c1,#[(),by rw[aaU];show ahf _,()],by rw[aby (aa0 _),ag3];rfl,rfl];show#[mu',_,fin (yY tw (yT (t2' true (by rw[f1];rfl)) g1)),g2]
     |some b=>
      have hc:v.close=.iff v.gu b v.rs:=by unfold Lv.close;rw[aid w1,w3]
      rw[hc];rw[w3]at f1;let(f,wb,g1,g2,g3,g4):=f1;let(mu',q1,q2):=ap (ft:=aj (aa 4) (aj (aa 5) ao)) (.iff v.gu b v.rs) rfl rfl (aa0 _) (λ_ _=>rfl) #[f,wb,r,ws,by rw[w2,g1];rfl,(sS f g2).1,g3,Rows.ces_to sS g4,(sS r r1).1,e3,Rows.ces_to sS c1];show#[mu',_,fin (yY tw (yY (t2' false (by rw[g1];rfl)) q1)),q2]
def m9(a b:Int)(s:Sp):Lv:=if a%12<9 then #["if",(nM b s).pv,none,.nil] else if a/12%2=0 then #["while",(nM b s).pv,none,.nil] else #["while",(Ex.box (pk s.ns (a/24))).pv,none,.cons (RX.set (pk s.ns (a/24)) (.op "-" (.box (pk s.ns (a/24))) (.num 1))).row .nil]
abbrev Bg(a b:Int)(s:Sp)(l3:Option Lc)(mu:Mu):Ev:=#[[zI a,zI b,zS s.pv,l3],mu]
def YG(n0:s.ns≠[])(b0:0<=b)(b1:b<4000000000):∃ws,nU [.int a,.int b,s.pv] mu=!(.sh (.ptr (mu.length+1)),mu++[!(PV.lst ws),!(.lst [.str (m9 a b s).kd,(m9 a b s).gu,.non,.ptr mu.length])])/\(m9 a b s).rs.ces mu (λ_=>False) ws/\(m9 a b s).fs=none:=by
 let E:=Bg a b s none mu;have t1:∀d,decide (a%12<9)=d->tT vge aQ E=!(d,E):=λd hd=>by show dY (l:=.sh (.bl (decide (a%12<9)))) (cN () rfl rfl rfl rfl) rfl ?_;rw[hd];rfl
 have t2:∀d,decide (a/12%2=0)=d->tT vek aQ E=!(d,E):=λd hd=>(xR (fV () ())).trans (by rw[hd]);have mk:∀(k:Str)(fg fr:EF)(g:PV)(ws:List PV)(l3:Option Lc),fg (Bg a b s l3 mu)=!(.sh g,Bg a b s l3 mu)->fr (Bg a b s l3 mu)=!(.own (.lst ws),Bg a b s l3 mu)->bV (cg (bG (aj (akh k) (aj fg (aj (eC .non) (aj (cg fr) ao)))))) (Bg a b s l3 mu)=!(.rt (.sh (.ptr (mu.length+1))) #[(Bg a b s l3 mu).vs,mu++[!(PV.lst ws),!(.lst [.str k,g,.non,.ptr mu.length])]]):=λk fg fr g ws l3 h1 h2=>by have q:=jN (qM (a:=aj (akh k) (aj fg (aj (eC .non) (aj (cg fr) ao)))) (aC rfl (aC h1 (aC rfl (aC (jN h2) rfl)))) rfl rfl);rw[bZ q];rw[aba,aaU];rfl
 have ex:∀l3,aH dM vij (Bg a b s l3 mu)=!(.sh (nM b s).pv,Bg a b s l3 mu):=λl3=>aY rfl rfl rfl rfl (Us n0 b0 ());unfold m9;by_cases c1:a%12<9
 . rw[aic c1];show#[[],bh (gj (yT (t1 true (aig c1)) (mk _ _ _ _ [] none (ex _) rfl))),rfl,rfl]
 . rw[aid c1];have f1:=t1 false (aif c1);by_cases c2:a/12%2=0
   . rw[aic c2];show#[[],bh (aB (yY f1 rfl) (gj (yT (t2 true (aig c2)) (mk _ _ _ _ [] none (ex _) rfl)))),rfl,rfl]
   . rw[aid c2];have f2:=t2 false (aif c2);let X:=pk s.ns (a/24);show#[[(RX.set X (.op "-" (.box X) (.num 1))).row.pv],bh (Y:=#[_,_]) (aB (yY f1 rfl) (aB (yY f2 rfl) (aB (bL (wI n0 rfl ()) rfl rfl) (mk _ _ _ _ _ (zT X) rfl rfl)))),#[_,[],rfl,rfl,rfl],rfl]
structure CL(S:PV)(cl:Int->Int):Prop where
 ge:∀k,0<=cl k
 lt:∀k,cl k<2147483629
 eq:∀k,0<=k->k<100000->∀mu:Mu,cG [S,.int k] mu=!(.sh (.int (cl k)),mu)
open Classical in
def afY{ns:List Int}(hn:ns.length<=63):∃cl,CL (.lst (ns.map .int)) cl:=by
 have key:∀k:Int,∃c:Int,0<=c/\c<2147483629/\(0<=k->k<100000->∀mu:Mu,cG [.lst (ns.map .int),.int k] mu=!(.sh (.int c),mu)):=λk=>by
  by_cases h:0<=k/\k<100000
  . let(c,h1,h2,h3):=cell_eq hn h.1 h.2;show#[c,h1,h2,λ_ _=>h3]
  . show#[0,by decide,by decide,λh1 h2=>absurd #[h1,h2] h]
 show#[λk=>(key k).choose,λk=>(key k).choose_spec.1,λk=>(key k).choose_spec.2.1,λk=>(key k).choose_spec.2.2]
def rwL(r:Row):List Lv->List Lv
 |v::L=>v.add r::L
 |[]=>[]
def uX(a b:Int)(s:Sp)(L:List Lv):List Lv:=if (a%12=7\/a%12=8\/a%12=9)/\L.length<5 then m9 a b s::L else if 9<a%12/\1<L.length then lR (decide (a%12=10)) L else rwL (uM a b s).row L
def xW:Option Rows->Nat
 |none=>0
 |some b=>b.cnt
def wL:List Lv->Nat
 |[]=>0
 |v::L=>v.rs.cnt+xW v.fs+1+wL L
def LK:List Lv->Prop
 |[]=>False
 |[_]=>True
 |v::u::L=>(v.kd="if"\/v.kd="while")/\LK (u::L)
abbrev RLE(S:PV)(at_:Int)(tn:PV)(s:Sp)(c:Nat)(l5 l6 l7:Option Lc)(mu:Mu):Ev:=#[[zS S,zI at_,zS tn,zS s.pv,zS (.ptr c),l5,l6,l7],mu]
def ae4(h:f E=!(.sh (.int c),E)):tT (aq Gm f vfg) aQ E=!(decide (c=7\/c=8\/c=9),E):=by show dY (l:=.sh (.bl (decide (c=7\/c=8\/c=9)))) (cN h rfl rfl rfl ?_) rfl rfl;show some (Lc.sh (.bl ((7:Int)==c||((8:Int)==c||((9:Int)==c||false)))))=_;congr 3;lia
def afZ:∀{L:List Lv},LK L->∃v M,L=v::M
 |v::M,_=>#[v,M,rfl]
abbrev vaa:=bY (dI (tT (aq Gm (aq aP (aa 6) (akg 12)) (bz (aj (akg 7) (aj (akg 8) (aj (akg 9) ao))))) aQ) (tT (aq qx (bO (aa 4)) (akg 5)) aQ)) (fY (aa 4) (aH nU (aj (aa 6) (aj (aa 7) (aj (aa 3) ao))))) (bY (dI (tT (aq jM (aq aP (aa 6) (akg 12)) (akg 9)) aQ) (tT (aq jM (bO (aa 4)) (akg 1)) aQ)) (eN (aH j6 (aj (aa 4) (aj (aq eqP (aq aP (aa 6) (akg 12)) (akg 10)) ao)))) (fY (aM (aM (aa 4) (gJ (akg 1))) (akg 3)) (aH tM (aj (aa 6) (aj (aa 7) (aj (aa 3) ao))))))
def aaM(n0:s.ns≠[])(w0:s.ws≠[])(hh:∀h∈s.hs,h.2.length<=10)(b0:0<=b)(b1:b<4000000000)(q:LS mu cL L ps)(hk:LK L)(hw:wL L<=1000):∃mu' ps',vaa (RLE S at_ tn s cL l5 (zI a) (zI b) mu)=!(.nx (RLE S at_ tn s cL l5 (zI a) (zI b) mu'))/\LS mu' cL (uX a b s L) ps':=by
 let E:=RLE S at_ tn s cL l5 (zI a) (zI b) mu;have am:aq aP (aa 6) (akg 12) E=!(.sh (.int (a%12)),E):=fV rfl ();have ln:bO (aa 4) E=!(.sh (.int ((L.length:Nat):Int)),E):=by rw[Kv (Y1:=E) rfl rfl q.hc,La,q.hs.len]
 have t1:=ae4 am;have t2:tT (aq qx (bO (aa 4)) (akg 5)) aQ E=!(decide ((L.length:Int)<5),E):=dY (cN ln rfl rfl rfl rfl) rfl rfl;have t3:tT vgf aQ E=!(decide (9<a%12),E):=dY (cN am rfl rfl rfl rfl) rfl rfl;have t4:tT (aq jM (bO (aa 4)) (akg 1)) aQ E=!(decide (1<(L.length:Int)),E):=dY (cN ln rfl rfl rfl rfl) rfl rfl;have hl:=fU q.hc;by_cases c1:(a%12=7\/a%12=8\/a%12=9)/\L.length<5
 . have hs:uX a b s L=m9 a b s::L:=aic c1;rw[hs];let(ws,o1,o2,o3):=YG n0 b0 b1;have tt:=jg (t1.trans ∅) (t2.trans (by rw[aig ()]));show#[_,_,yT tt (lE rfl rfl q.hc (aY (Y1:=E) rfl rfl rfl rfl o1) rfl ?_ ?_ rfl),q.push o3 o2]
   . rw[Bf hl];show q.hc
   . rw[La,q.hs.len];lia
 . have tf:dI vcc vhf E=!(false,E):=by
    by_cases d1:a%12=7\/a%12=8\/a%12=9
    . show jg ∅ (t2.trans ∅)
    . show nY ∅
   by_cases c2:9<a%12/\1<L.length
   . have hs:uX a b s L=lR (decide (a%12=10)) L:=(aid c1).trans (aic c2);rw[hs]
     match L,hk,c2,q,hw with
     |v::u::M,hk,c2,q,hw=>
      have hw':v.rs.cnt+xW v.fs+1+(u.rs.cnt+xW u.fs+1+wL M)<=1000:=hw;let(mu',ps',g1,g2):=Ut q hk.1 ();have tt:=jg (t3.trans ∅) (t4.trans (by rw[aig ()]));show#[mu',ps',yY tf (yT tt (fW (aY (aC rfl (aC (cN am rfl rfl rfl rfl) rfl)) rfl rfl rfl g1))),g2]
   . have hs:uX a b s L=rwL (uM a b s).row L:=(aid c1).trans (aid c2);rw[hs];have tf2:dI vfc vhg E=!(false,E):=by
      by_cases d1:9<a%12
      . show jg ∅ (t4.trans ∅)
      . show nY ∅
     let(v,M,rfl):=afZ hk;let(p,qs,r,F,ws,h1,h2,h3,h4,h5,h6):=q.row;have hw':v.rs.cnt+xW v.fs+1+wL M<=1000:=hw;have ce:(uM a b s).row.ce mu (λc=>p<c/\c<mu.length/\c≠cL) (uM a b s).row.pv:=by cases uM a b s<;>rfl
     show#[_,_,yY tf (yY tf2 (lE (zY (Lb rfl h2) rfl rfl rfl h3 rfl) rfl h4 (aY (ls:=[.sh (.int a),.sh (.int b),.sh s.pv]) (Y1:=E) rfl rfl rfl rfl (ac2 n0 w0 hh b0 b1)) rfl h4 () rfl)),h6 mu (aa0 _) (λ_ _=>rfl) _ _ ce]
structure VG(Q:AR->Prop)(n:Nat)(b:Rows):Prop where
 gd:b.gd Q
 ok:b.ok
 dp:b.dep+2*n<=10
structure GG(Q:AR->Prop)(v:Lv):Prop where
 kd:v.kd="if"\/v.kd="while"
 gu:∃x:Ex,v.gu=x.pv/\x.dp<=8/\Q (.fi x)/\Q (.wh x)
def LG(Q:AR->Prop):List Lv->Prop
 |[]=>False
 |[v]=>VG Q 0 v.rs
 |v::u::L=>GG Q v/\VG Q (L.length+1) v.rs/\(∀b,v.fs=!b->VG Q (L.length+1) b)/\LG Q (u::L)
theorem LG.lk:∀{L:List Lv},LG Q L->LK L
 |[_],_=>trivial
 |v::u::L,#[g,_,_,h]=>#[g.kd,h.lk]
def VG.snoc(h:VG Q n b)(h1:r.gd Q)(h2:r.ok)(h3:r.dep+1+2*n<=10):VG Q n (b.snoc r):=#[Rows.snoc_gd h1 h.gd,Rows.snoc_ok h2 h.ok,by
 have:=Rows.snoc_dep (r:=r) (rs:=b);have:=h.dp;lia]
def LG.add(h1:r.gd Q)(h2:r.ok):∀{v:Lv}{L:List Lv},LG Q (v::L)->r.dep+1+2*L.length<=10->LG Q (v.add r::L)
 |v,[],h,h3=>VG.snoc h h1 h2 h3
 |v,u::L,#[g,a,b,c],h3=>#[#[g.kd,g.gu],a.snoc h1 h2 h3,b,c]
def aaN(g:GG Q v)(a:VG Q (n+1) v.rs)(b:∀b,v.fs=!b->VG Q (n+1) b):v.close.gd Q/\v.close.ok/\v.close.dep+1+2*n<=10/\v.close.cnt<=v.rs.cnt+xW v.fs+1:=by
 let(x,x1,x2,x3,x4):=g.gu;have fx:fl v.gu:=by rw[x1];show JN x2
 have hd:=a.dp;have hp:=v.rs.dep_pos;unfold Lv.close;split
 . show#[#[#[x,x1,(),x4],a.gd],#[fx,a.ok],?_,?_]
   . show v.rs.dep+1+1+2*n<=10;lia
   . show v.rs.cnt+1<=_;lia
 . cases hf:v.fs with
   |none=>
    show#[#[#[x,x1,(),x3],a.gd,trivial],#[fx,a.ok,trivial],?_,aa0 _];show max v.rs.dep 1+1+1+2*n<=10;lia
   |some c=>
    have hc:=b c hf;have hcd:=hc.dp;show#[#[#[x,x1,(),x3],hc.gd,a.gd],#[fx,hc.ok,a.ok],?_,?_]
    . show max c.dep v.rs.dep+1+1+2*n<=10;lia
    . show c.cnt+v.rs.cnt+1<=v.rs.cnt+c.cnt+1;lia
def Ld:∀{L:List Lv},LG Q L->LG Q (lR w L)/\(lR w L).length<=L.length/\wL (lR w L)<=wL L
 |[v],h=>#[h,aa0 _,aa0 _]
 |v::u::L,#[g,a,b,c]=>by
  by_cases hc:v.kd="if"/\v.fs=none/\w=true
  . rw[show lR w (v::u::L)=#[v.kd,v.gu,!v.rs,.nil]::u::L from aic hc];show#[#[#[g.kd,g.gu],#[trivial,trivial,?_],λb hb=>?_,c],aa0 _,?_]
    . have:=a.dp;have:=v.rs.dep_pos;show 1+_<=10;lia
    . lia
    . show 0+v.rs.cnt+1+_<=v.rs.cnt+xW v.fs+1+_;lia
  . rw[show lR w (v::u::L)=u.add v.close::L from aid hc];let(q1,q2,q3,q4):=aaN g a b;show#[c.add q1 q2 q3,ahi _,?_];show (u.rs.snoc v.close).cnt+xW u.fs+1+wL L<=v.rs.cnt+xW v.fs+1+(u.rs.cnt+xW u.fs+1+wL L);rw[Rows.snoc_cnt];lia
def Uu(h:HJ s (B0++tmp (Bd ts w)))(hl:∀x∈s.ls,qP B0 x)(hh:∀q∈s.hs,q.1∈ts.map (·.name)/\rW ts q.1=q.2)(hn:∀q∈s.hs,q.1.length<=1000/\q.2.length<=10)(g:LG (QR B0 ts w) L)(h5:L.length<=5):LG (QR B0 ts w) (uX a b s L)/\(uX a b s L).length<=5/\wL (uX a b s L)<=wL L+2:=by
 unfold uX;split
 . rename_i c;have hx:=h.ns _ (Eo h.n0 (a/24))
   match L,g with
   |u::M,g=>
    have key:GG (QR B0 ts w) (m9 a b s)/\VG (QR B0 ts w) (M.length+1) (m9 a b s).rs/\(m9 a b s).fs=none/\(m9 a b s).rs.cnt<=1:=by
     have he:=K8 (c:=b) h;have hM:M.length+1<5:=c.2;have nv:VG (QR B0 ts w) (M.length+1) .nil:=#[trivial,trivial,by show 1+_<=10;lia];unfold m9;split
     . show#[#[.inl rfl,_,rfl,(),he.1,he.1],nv,rfl,agY 1]
     . split
       . show#[#[.inr rfl,_,rfl,(),he.1,he.1],nv,rfl,agY 1]
       . show#[#[.inr rfl,_,rfl,(by show 1<=8;decide),hx,hx],#[#[#[.set _ _,#[.inl rfl,(by show max 1 1+1<=40;decide)],hx,?_,hx,#[by decide,by decide]],trivial],#[#[#[by decide +kernel,by decide +kernel,by decide +kernel],kO Aq (kO (JN (by show max 1 1+1<=8;decide)) Ao)],trivial],?_],rfl,aa0 1]
         . show Rf 1
         . show max (1+1) 1+_<=10;lia
    let(k1,k2,k3,k4):=key;show#[#[k1,k2,λb hb=>(by rw[k3]at hb;cases hb),g],c.2,?_];show (m9 a b s).rs.cnt+xW (m9 a b s).fs+1+wL (u::M)<=_;rw[k3];show _+0+1+_<=_;lia
 . split
   . let(q1,q2,q3):=Ld g;show#[q1,(),()]
   . match L,g with
     |u::M,g=>
      let(o1,o2,o3):=afX h hn;have hM:M.length+1<=5:=h5;show#[g.add (afW h hl hh) o1 (),h5,?_];show (u.rs.snoc _).cnt+xW u.fs+1+wL M<=u.rs.cnt+xW u.fs+1+wL M+2;rw[Rows.snoc_cnt,o2];lia
def MN(cl:Int->Int)(at_:Int)(s:Sp):Nat->Nat->List Lv->List Lv
 |0,_,L=>L
 |m+1,i,L=>MN cl at_ s m (i+1) (uX (cl (at_+2*i)) (cl (at_+2*i+1)) s L)
def endL:Nat->List Lv->Rows
 |_,[]=>.nil
 |_,[v]=>v.rs
 |0,v::_=>v.rs
 |n+1,v::u::L=>endL n (lR false (v::u::L))
abbrev L0:List Lv:=[#["",.non,none,.nil]]
def yN(cl:Int->Int)(at_:Int)(n:Nat)(s:Sp):Rows:=endL 40 (MN cl at_ s n 0 L0)
section
variable {B0:Bs}{ts:List TF}{w:Str}{s:Sp}{cl:Int->Int}{at_:Int}
structure SC(s:Sp)(B0:Bs)(ts:List TF)(w:Str):Prop where
 sp:HJ s (B0++tmp (Bd ts w))
 ls:∀x∈s.ls,qP B0 x
 hs:∀q∈s.hs,q.1∈ts.map (·.name)/\rW ts q.1=q.2
 hn:∀q∈s.hs,q.1.length<=1000/\q.2.length<=10
 ws:s.ws≠[]
theorem Rh(h:SC s B0 ts w):∀{m i:Nat}{L:List Lv},LG (QR B0 ts w) L->L.length<=5->LG (QR B0 ts w) (MN cl at_ s m i L)/\(MN cl at_ s m i L).length<=5/\wL (MN cl at_ s m i L)<=wL L+2*m
 |0,i,L=>λg l=>#[g,l,aa0 _]
 |m+1,i,L=>λg l=>by let(q1,q2,q3):=Uu h.sp h.ls h.hs h.hn g l;let(r1,r2,r3):=Rh h q1 q2;show#[r1,r2,by show wL (MN cl at_ s m (i+1) _)<=_;lia]
def Wh:lR false (v::u::L)=u.add v.close::L:=aid λh=>Bool.noConfusion h.2.2
theorem Uv:∀{n:Nat}{L:List Lv},LG Q L->L.length<=n+1->VG Q 0 (endL n L)/\(endL n L).cnt+1<=wL L
 |n,[v],g,_=>by
  have e:endL n [v]=v.rs:=by cases n<;>rfl
  rw[e];show#[g,by show v.rs.cnt+1<=v.rs.cnt+xW v.fs+1+0;lia]
 |0,v::u::L,g,h=>by lia
 |n+1,v::u::L,g,h=>by
  let(q1,q2,q3):=Ld g;have e:(lR false (v::u::L)).length<=n+1:=by rw[Wh];rw[aa9,aa9]at h;rw[aa9];lia
  let(r1,r2):=Uv q1 e;show#[r1,agf r2 q3]
def Wi:LG Q L0:=#[trivial,trivial,by decide]
def Le(h:SC s B0 ts w):VG (QR B0 ts w) 0 (yN cl at_ n s)/\(yN cl at_ n s).cnt<=2*n:=by let(q1,q2,q3):=Rh h Wi ();let(r1,r2):=Uv (n:=40) q1 ();have:wL L0=1:=rfl;show#[r1,by unfold yN;lia]
abbrev roB:SF:=(aG vcx (aG vbw vaa))
variable {S tn:PV}
theorem MP(c:CL S cl)(h:SC s B0 ts w)(a0:0<=at_)(a1:at_<=1000):∀(m i:Nat)(L:List Lv)(mu:Mu)(ps:List Nat)(l5 l6 l7:Option Lc),LS mu cL L ps->LG (QR B0 ts w) L->L.length<=5->wL L+2*m<=500->i+m<=1000->∃mu' ps' p5 p6 p7,iw (aF 5) roB ((List.range' i m).map λ(j:Nat)=>PV.int (j:Nat)) (RLE S at_ tn s cL l5 l6 l7 mu)=!(.nx (RLE S at_ tn s cL p5 p6 p7 mu'))/\LS mu' cL (MN cl at_ s m i L) ps'
 |0=>λi L mu ps l5 l6 l7 q _ _ _ _=>#[mu,ps,l5,l6,l7,rfl,q]
 |m+1=>λi L mu ps l5 l6 l7 q g l hw hi=>by let(k1,k2,k3):=Uu h.sp h.ls h.hs h.hn g l;let A:Int:=cl (at_+2*i);let B:Int:=cl (at_+2*i+1);let I:Option Lc:=zI (i:Nat);have bB:=c.lt (at_+2*i+1);let(mu1,ps1,s1,s2):=aaM (b:=B) h.sp.n0 h.ws (λx hx=>(h.hn x hx).2) (c.ge _) () q g.lk ();let(mu',ps',p5,p6,p7,r1,r2):=MP c h a0 a1 m (i+1) (uX (cl (at_+2*i)) (cl (at_+2*i+1)) s L) mu1 ps1 I (zI A) (zI B) s2 k1 k2 () ();show#[mu',ps',p5,p6,p7,?_,r2];have o:∀l6 l7,aq bj (aa 1) (aq cI (akg 2) (aa 5)) (RLE S at_ tn s cL I l6 l7 mu)=!(.sh (.int (at_+2*i)),RLE S at_ tn s cL I l6 l7 mu):=λl6 l7=>cN rfl rfl (cN rfl rfl rfl rfl (Hc rfl rfl () ())) rfl rfl;show d9 rfl (aB (bL (aY (aC rfl (aC (o _ _) rfl)) rfl rfl rfl (c.eq _ () () mu)) rfl rfl) (aB (bL (aY (aC rfl (aC (cN (o _ _) rfl rfl rfl rfl) rfl)) rfl rfl rfl (c.eq _ () () mu)) rfl rfl) s1)) r1
abbrev whT:PL.TF:=vhg
abbrev whB:SF:=(eN (aH j6 (aj (aa 4) (aj (eC (.bl false)) ao))))
theorem Ri:∀(n:Nat)(L:List Lv)(mu:Mu)(ps:List Nat),LS mu cL L ps->LG Q L->L.length<=n+1->wL L<=1000->∃mu' v ps',qK (n+1) whT whB (RLE S at_ tn s cL l5 l6 l7 mu)=!(.nx (RLE S at_ tn s cL l5 l6 l7 mu'))/\LS mu' cL [v] ps'/\v.rs=endL n L
 |n,L,mu,ps,q,g,hl,hw=>by
  let E:=RLE S at_ tn s cL l5 l6 l7 mu
  have t4:whT E=!(decide (1<(L.length:Int)),E):=dY (cN (by rw[Kv (Y1:=E) rfl rfl q.hc,La,q.hs.len]) rfl rfl rfl rfl) rfl rfl
  match L,g,q,hl,hw,t4 with
  |[v],g,q,hl,hw,t4=>show#[mu,v,ps,T9 t4,q,by cases n<;>rfl]
  |v::u::M,g,q,hl,hw,t4=>
   cases n with
   |zero=>lia
   |succ n=>
    have hw':v.rs.cnt+xW v.fs+1+(u.rs.cnt+xW u.fs+1+wL M)<=1000:=hw;let(k1,k2,k3):=Ld g;let(mu1,ps1,s1,s2):=Ut q g.1.kd ();have hl':(lR false (v::u::M)).length<=n+1:=by rw[Wh];rw[aa9,aa9]at hl;rw[aa9];lia
    let(mu',v',ps',r1,r2,r3):=Ri n _ mu1 ps1 s2 k1 hl' ();show#[mu',v',ps',(T8 (t4.trans (by rw[aig ∅])) (fW (aY (ls:=[.sh (.ptr cL),.sh (.bl false)]) (Y1:=E) rfl rfl rfl rfl s1))).trans r1,r2,r3]
theorem Rj:∀(n m:Nat)(L:List Lv),L.length<=n+1->L.length<=m+1->endL n L=endL m L
 |n,m,[]=>λ_ _=>by cases n<;>cases m<;>rfl
 |n,m,[v]=>λ_ _=>by cases n<;>cases m<;>rfl
 |n,m,v::u::L=>λh1 h2=>by
  rw[aa9,aa9]at h1 h2;cases n with
  |zero=>lia
  |succ n=>
   cases m with
   |zero=>lia
   |succ m=>
    have e:(lR false (v::u::L)).length=L.length+1:=by rw[Wh];rfl
    show Rj n m _ () ()
def uN(h:f Y=!(.sh (.int (n:Nat)),Y1))(hn:n<=9000000):cZ (aj f ao) Y=!((List.range' 0 n).map λ(j:Nat)=>PV.int (j:Nat),Y1):=by rw[<-List.range_eq_range'];show Q9 h hn
def Uw(c:CL S cl)(h:SC s B0 ts w)(a0:0<=at_)(a1:at_<=1000)(hn:n<=100)(mu:Mu):∃mu',lX [S,.int at_,.int (n:Nat),s.pv] mu=!(.sh (.lst (yN cl at_ n s).pvs),mu'):=by
 let N:PV:=.int (n:Nat);let mu0:Mu:=mu++[!(PV.lst []),!(.lst [.str "",.non,.non,.ptr mu.length])]++[!(PV.lst [.ptr (mu.length+1)])];let cL:=mu.length+2;let V0:List (Option Lc):=[zS S,zI at_,zS N,zS s.pv,none,none,none,none];have a4:(aO 4 (Ja (aj (cg (bG (aj (akh "") (aj (eC .non) (aj (eC .non) (aj (cg (bG ao)) ao)))))) ao))) #[V0,mu]=!(.nx (RLE S at_ N s cL none none none mu0)):=by
  have q1:cg (bG (aj (akh "") (aj (eC .non) (aj (eC .non) (aj (cg (bG ao)) ao))))) #[V0,mu]=!(.sh (.ptr (mu++[!(PV.lst [])]).length),#[V0,(mu++[!(PV.lst [])])++[!(PV.lst [.str "",.non,.non,.ptr mu.length])]]):=jN (Y1:=#[V0,mu++[!(PV.lst [])]]) (qM (ls:=[.sh (.str ""),.sh .non,.sh .non,.sh (.ptr mu.length)]) rfl rfl rfl);rw[aba,aaU]at q1;have q2:=Tc (a:=aj (cg (bG (aj (akh "") (aj (eC .non) (aj (eC .non) (aj (cg (bG ao)) ao)))))) ao) (aC q1 rfl) rfl rfl (n:=cL) (by show (mu++([!(PV.lst [])]++_)).length=_;rw[aaU];rfl)
  show bL q2 rfl rfl
 have ls0:LS mu0 cL L0 [mu.length+1]:=by
  show#[?_,mu.length+1,[],mu.length,mu.length,.non,[],rfl,#[aa0 _,(),?_,(),(),?_,?_,rfl,rfl],rfl]
  . show ((mu++_)++[_])[cL]?=_;rw[aby (by rw[aaU];show mu.length+2<=mu.length+2;lia),aaU];show [_][mu.length+2-(mu.length+2)]?=_;rw[ag3];rfl
  . show _<((mu++_)++[_]).length;rw[aaU,aaU];show _<mu.length+2+1;lia
  . show ((mu++_)++[_])[mu.length+1]?=_;rw[aba,aby (),show mu.length+1-mu.length=1 from by omega];rfl
  . show ((mu++_)++[_])[mu.length]?=_;rw[aba,aby (aa0 _),ag3];rfl
 let(mu1,ps1,p5,p6,p7,r1,r2):=MP (tn:=N) c h a0 a1 n 0 L0 mu0 _ none none none ls0 Wi () (by show 1+_<=_;lia) ();let(k1,k2,k3):=Rh h (cl:=cl) (at_:=at_) (m:=n) (i:=0) Wi ();have e1:wL L0=1:=rfl;let(mu2,v,ps2,s1,s2,s3):=Ri (S:=S) (tn:=N) (at_:=at_) (s:=s) (l5:=p5) (l6:=p6) (l7:=p7) 39 _ mu1 ps1 r2 k1 () ();have e39:endL 39 (MN cl at_ s n 0 L0)=yN cl at_ n s:=by unfold yN;show Rj 39 40 _ () ()
 let(vg,vc):=Le h (cl:=cl) (at_:=at_) (n:=n);let(p,qs,lo,r,F,ws,z1,z2,z3):=s2.hs;have z3:qs=[]:=z3;subst z3;have hc:=s2.hc;rw[z1]at hc;let E2:=RLE S at_ N s cL p5 p6 p7 mu2;have vd:=vg.dp;show#[_,bh (aB a4 (aB (jo (xs:=(List.range' 0 n).map λ(j:Nat)=>PV.int (j:Nat)) (uN rfl ()) r1) (aB s1 (bZ (Qj (l:=.sh (.ptr r)) (Y1:=E2) (zY (l:=.sh (.ptr p)) (m:=.sh (.int 3)) (zY (l:=.sh (.ptr cL)) (m:=.sh (.int 0)) (Y1:=E2) (ws:=[.ptr p]) rfl rfl rfl rfl hc rfl) rfl rfl rfl z2.hp rfl) ?_)))))];show aU mu2 40 (.ptr r)=_;rw[qt z2.hr];show PV.lst (ws.map (aU mu2 38))=_;rw[Rows.ces_res v.rs 38 (by rw[s3,e39];show vg.ok) (by rw[s3,e39];lia) z2.cs,s3,e39]
end
def YH{lo hi:OF}(h1:f Y=!(l,Y1))(hl:l.pv=.str z)(h2:lo Y1=!(a,Y2))(h3:hi Y2=!(b,Y3))(hz:z.length<=100000):ux f lo hi Y=!(.sh (.str (pG z a b)),Y3):=by unfold ux;lia
def uO(h:f Y=!(l,Y1))(hl:l.pv=.int i):my f Y=!(!i,Y1):=by unfold my;rw[h,aaS,hl]
def chr(x:Str)(i:Int):Str:=match gA x.cps.toList i with
 |some c=>#[(List.toArray [c])]
 |none=>""
abbrev abc:Str:="abcdefghijklmnopqrstuvwxyz"
def YJ(k:Int):Str:=Hi "a" (k%8)++chr "abcdefgh" (k/8)
def nmB(z a k:Int):Str:=(pG "ridgepo" none (!a)++chr abc k)++pG "ridgepo" (!a) (!z)
def Gy(c k:Int):Str:=if c%3=0 then YJ k else nmB (c/3%8) (c/24%(c/3%8+1)) k
def ae5:∀k:Nat,k<20->(Hi "a" ((k:Int)%8)).length<=10/\(gA ("abcdefgh" : Str).cps.toList ((k:Int)/8)).isSome=true/\YJ k ≠ "main"/\(YJ k).length<=10:=by decide +kernel
def af0:∀k:Nat,k<20->∀j:Nat,j<20->YJ k=YJ j->k=j:=by decide +kernel
def ae6:∀k:Nat,k<20->(gA abc.cps.toList (k:Int)).isSome=true/\∀j:Nat,j<20->gA abc.cps.toList (k:Int)=gA abc.cps.toList (j:Int)->k=j:=by decide +kernel
def Wj:∀z:Nat,z<8->∀a:Nat,a<z+1->(pG "ridgepo" none (!(a:Int))).length<=10/\(pG "ridgepo" (!(a:Int)) (!(z:Int))).length<=10/\∀k:Nat,k<20->(nmB z a k).cps.toList[a]?=gA abc.cps.toList (k:Int)/\nmB z a k ≠ "main"/\(nmB z a k).length<=10:=by decide +kernel
def Wk(c:Int):∃z a:Nat,z<8/\a<z+1/\c/3%8=(z:Int)/\c/24%((z:Int)+1)=(a:Int):=by obtain⟨z,hz⟩:∃z:Nat,c/3%8=(z:Int):=#[(c/3%8).toNat,()];have h2:=agl (c/24) (b:=(z:Int)+1) ();have h3:=agh (c/24) (b:=(z:Int)+1) ();show#[z,(c/24%((z:Int)+1)).toNat,(),(),hz,()]
def abx(c:Int){k:Nat}(hk:k<20):Gy c k ≠ "main"/\(Gy c k).length<=10:=by
 unfold Gy;split
 . show(ae5 k hk).2.2
 . let(z,a,h1,h2,h3,h4):=Wk c;rw[h3,h4];show((Wj z h1 a h2).2.2 k hk).2
def ae7{i j:Nat}(hi:i<20)(hj:j<20)(h:Gy c i=Gy c j):i=j:=by
 unfold Gy at h;split at h
 . show af0 i hi j hj h
 . let(z,a,h1,h2,h3,h4):=Wk c;rw[h3,h4]at h;have e1:=((Wj z h1 a h2).2.2 i hi).1;have e2:=((Wj z h1 a h2).2.2 j hj).1;show(ae6 i hi).2 j hj ∅
def YK(h:f E=!(.sh (.int i),E))(hs:(gA x.cps.toList i).isSome=true)(hl:x.length<=100000):cz (akh x) f E=!(.sh (.str (chr x i)),E):=by show v9 rfl rfl h rfl X5 ?_;show (if x.length<=100000 then (gA x.cps.toList i).map (λc=>Lc.sh (.str #[(List.toArray [c])])) else none)=_;rw[aic hl];unfold chr;lia
def Lf(h1:f E=!(.sh (.str x),E))(h2:g E=!(.sh (.str y),E))(hl:x.length+y.length<=100000):aq bj f g E=!(.sh (.str (x++y)),E):=cN h1 rfl h2 rfl (aic hl)
abbrev Rk(S:PV)(k:Int)(l2 l3 l4:Option Lc)(mu:Mu):Ev:=#[[zS S,zI k,l2,l3,l4],mu]
def Ux:(chr x i).length<=1:=by
 unfold chr;split
 . show aa0 1
 . show agY 1
def ac3{x y:Str}:(x++y).length=x.length+y.length:=by show (x.cps++y.cps).size=_;rw[Array.size_append];rfl
def FJ(c:CL S cl)(hk:k<20)(mu:Mu):ie [S,.int (k:Nat)] mu=!(.sh (.str (Gy (cl 0) k)),mu):=by
 let C:Option Lc:=zI (cl 0);let E:=Rk S k C none none mu;have a2:vfx (Rk S k none none none mu)=!(.nx E):=bL (aY rfl rfl rfl rfl (c.eq 0 () () mu)) rfl rfl;have t:∀d,decide (cl 0%3=0)=d->tT vgl aQ E=!(d,E):=λd hd=>(xR (fV rfl ())).trans (by rw[hd]);unfold Gy;by_cases h:cl 0%3=0
 . rw[aic h];let(t1,t2,_):=ae5 k hk;have cl1:=Ux (x:="abcdefgh") (i:=(k:Int)/8);show bh (aB a2 (gj (yT (t true (aig h)) (bZ (Lf ?_ (YK () t2 ()) ())))));show cN rfl rfl () rfl ?_;have h0:=agl (k:Int) (b:=8) ();show aic #[h0,(),by decide +kernel,()]
 . rw[aid h];let(z,a,h1,h2,h3,h4):=Wk (cl 0);rw[h3,h4];let(t1,t2,_):=Wj z h1 a h2;let E4:=Rk S k C (zI z) (zI a) mu;have s3:vfn E=!(.nx (Rk S k C (zI z) none mu)):=bL (h3▸fV () ()) rfl rfl;have s4:vdp (Rk S k C (zI z) none mu)=!(.nx E4):=by show bL (cN () rfl rfl rfl ?_) rfl rfl;rw[<-h4];show gR ()
   have cl1:=Ux (x:=abc) (i:=(k:Int));show bh (aB a2 (aB (yY (t false (aif h)) rfl) (aB s3 (aB s4 (bZ (Lf (Lf () (YK rfl (ae6 k hk).1 ()) ()) () (by rw[ac3];lia)))))))
section
variable (cl:Int->Int)
def jh(k:Nat):Str:=Gy (cl 0) (k:Int)
def qC:Nat:=1+(cl 1%8).toNat
noncomputable def pq(k:Nat):Int:=if (k:Int)≠cl 1/8%(1+cl 1%8)/\(cl 1/64+1)*((k:Int)+2)*48271%65537%3=0 then 1+(cl 1/64+k)%8 else 0
def JP(k:Nat):Str×Int:=(jh cl k,pq cl k)
def DX:List (Str×Int):=(List.range (qC cl)).map (JP cl)
def pA:List Str:=((DX cl).filter λq=>decide (q.2=0)).map (·.1)
def JQ:List Str:=((DX cl).filter λq=>decide (0<q.2)).map (·.1)
def Rm:Str:=jh cl (cl 2/256%8).toNat
def uc:Nat:=(cl 2%4).toNat
def MT(f:Nat):Int:=if f=0 then 4 else if f=1 then 16 else 64
def M3(f:Nat):Int:=if f=0 then 2048 else if f=1 then 8192 else 32768
def npX(f:Nat):Nat:=(cl 2/MT f%4).toNat
def iH(f:Nat):List Str:=(List.range (npX cl f)).map λj=>jh cl (11+3*f+j)
def FN(f:Nat):Str×List Str:=(jh cl (8+f),iH cl f)
def ud:List (Str×List Str):=(List.range (uc cl)).map (FN cl)
def JR(f:Nat):Sp:=#[pA cl++iH cl f++[jh cl (8+f)],JQ cl,ud cl,[Rm cl]]
def scM:Sp:=#[pA cl,JQ cl,ud cl,[Rm cl]]
def M4(f:Nat):Nat:=(cl 2/M3 f%4).toNat
def YL(f:Nat):TF:=#[jh cl (8+f),iH cl f,yN cl (6+6*(f:Int)) (M4 cl f) (JR cl f)]
def gY:List TF:=(List.range (uc cl)).map (YL cl)
def M5:Nat:=(cl 3%19).toNat
def rsX:Rows:=yN cl 24 (M5 cl) (scM cl)
def Gz:List PV:=[.tup [.str (Rm cl),.str "high",.str "low"]]
def pB(k:Nat):Int:=(cl 4+k)*((k:Int)*k+40014)%2147483563
def iV(k:Nat):Int:=if pB cl k%2=0 then pB cl k/2%6 else xT (pB cl k/2)
def vaX(k:Nat)(j:Nat):Int:=xT (pB cl k*((j:Int)+16807)%2147483587)
def vK(k:Nat):List Int:=(List.range (pq cl k).toNat).map (vaX cl k)
def xX(k:Nat):BV:=if pq cl k=0 then .n (iV cl k) else .l (vK cl k)
def Ro(k:Nat):Str×BV:=(jh cl k,xX cl k)
def BX:Bs:=(List.range (qC cl)).map (Ro cl)
end
def Rp{α β:Type}{f:α->β}{l:List α}(h:∀a∈l,∀b∈l,f a=f b->a=b)(nd:l.Nodup):(l.map f).Nodup:=by unfold List.Nodup at nd ⊢;rw[List.pairwise_map];show nd.imp_of_mem λha hb hne e=>hne (h _ ha _ hb e)
section
variable {cl:Int->Int}
def lU(h:0<b):((c%b).toNat:Int)=c%b/\((c%b).toNat:Int)<b:=by have h0:=agl c (b:=b) ();have h1:=agh c h;lia
def uY:qC cl<=8:=by unfold qC;lia
def ww:uc cl<=3:=by unfold uc;lia
def JS:npX cl f<=3:=by unfold npX;lia
def abA:M4 cl f<=3:=by unfold M4;lia
def abB:M5 cl<=18:=by unfold M5;lia
def abC:0<=pq cl k/\pq cl k<=8:=by
 unfold pq;split
 . lia
 . lia
def wJ(hi:i<20)(hj:j<20)(h:jh cl i=jh cl j):i=j:=ae7 hi hj h
def YM(h:x∈((DX cl).filter p).map (·.1)):∃k,k<qC cl/\x=jh cl k/\p (JP cl k)=true:=by let(q,hq,e):=abz.mp h;let(h1,h2):=List.mem_filter.mp hq;let(k,hk,e2):=abz.mp h1;subst e2;show#[k,List.mem_range.mp hk,e.symm,h2]
def Rq:(BX cl).map (·.1)=(List.range (qC cl)).map (jh cl):=by unfold BX;rw[agb];rfl
def Ob:((BX cl).map (·.1)).Nodup:=by rw[Rq];have:=uY (cl:=cl);show Rp (λa ha b hb e=>wJ ∅ ∅ e) List.nodup_range
def Uy(h:k<qC cl):look (BX cl) (jh cl k)=!(xX cl k):=Az Ob (Ro cl k) (List.mem_map_of_mem (List.mem_range.mpr h))
def YQ(h:8<=k)(h2:k<20):jh cl k∉(BX cl).map (·.1):=λq=>by rw[Rq]at q;let(j,hj,e):=abz.mp q;have:=List.mem_range.mp hj;have:=uY (cl:=cl);have:=wJ () h2 e;lia
def YS(h:x∈pA cl):jW (BX cl) x:=by let(k,hk,e,hp):=YM h;have hs:pq cl k=0:=of_decide_eq_true hp;rw[e];show#[iV cl k,by rw[Uy hk];unfold xX;rw[aic hs]]
def FP(h:x∈JQ cl):qP (BX cl) x:=by let(k,hk,e,hp):=YM h;have hs:0<pq cl k:=of_decide_eq_true hp;rw[e];show#[vK cl k,by rw[Uy hk];unfold xX;rw[aid ()]]
def ac4:pA cl≠[]:=λq=>by
 have hk:=lU (c:=cl 1/8) (b:=1+cl 1%8) ();have hlt:(cl 1/8%(1+cl 1%8)).toNat<qC cl:=by unfold qC;lia
 have hm:jh cl (cl 1/8%(1+cl 1%8)).toNat∈pA cl:=abz.mpr #[JP cl _,List.mem_filter.mpr #[List.mem_map_of_mem ∅,aig (aid λg=>g.1 hk.1)],rfl];lia
def HN:(gY cl).map (·.name)=(List.range (uc cl)).map λf=>jh cl (8+f):=by unfold gY;rw[agb];rfl
def Wl(h:f<uc cl):jh cl (8+f)∈(gY cl).map (·.name):=by rw[HN];show abz.mpr #[f,List.mem_range.mpr h,rfl]
def YT(h:f<uc cl):rW (gY cl) (jh cl (8+f))=iH cl f:=by
 let(t,ht,e1,e2):=Fx (Wl h);let(g,hg,e3):=abz.mp ht;subst e3;have:=List.mem_range.mp hg;have:=ww (cl:=cl);have e:=wJ () () e1;have e:g=f:=()
 subst e;show e2
theorem Rr:∀{ns:List Str},x∈ns->look (tmp ns) x=!(.n 0)
 |y::ns,h=>by
  show (if y=x then !(BV.n 0) else look (tmp ns) x)=_;by_cases e:y=x
  . rw[aic e]
  . rw[aid e];show Rr ((abw.mp h).resolve_left λq=>e q.symm)
def Uz(h:jW B x):jW (B++C) x:=by let(i,h):=h;show#[i,by rw[lY,h];rfl]
def UG(h:qP B x):qP (B++C) x:=by let(i,h):=h;show#[i,by rw[lY,h];rfl]
def ac5(h:x∉B.map (·.1))(h2:x∈ns):jW (B++tmp ns) x:=#[0,by rw[lY,wG h,Rr h2];rfl]
def CK:∀q∈ud cl,(q.1∈(gY cl).map (·.name)/\rW (gY cl) q.1=q.2)/\q.1.length<=1000/\q.2.length<=10:=λq hq=>by
 let(f,hf,e):=abz.mp hq;subst e;have hf:=List.mem_range.mp hf;have:=ww (cl:=cl);have h1:=(abx (cl 0) (k:=8+f) ()).2;have h2:=JS (cl:=cl) (f:=f);show#[#[Wl hf,YT hf],?_,?_]
 . show (Gy (cl 0) ((8+f:Nat):Int)).length<=1000;lia
 . show (iH cl f).length<=10;unfold iH;lia
def abD(hf:f<uc cl)(h:x∈jh cl (8+f)::iH cl f):∃k,8<=k/\k<20/\x=jh cl k:=by
 have:=ww (cl:=cl);have:=JS (cl:=cl) (f:=f);obtain e|h:=abw.mp h
 . show#[8+f,(),(),e]
 . let(j,hj,e):=abz.mp h;have:=List.mem_range.mp hj;show#[11+3*f+j,(),(),e.symm]
def ae8(hf:f<uc cl):SC (JR cl f) (BX cl) (gY cl) (jh cl (8+f)):=by
 have e:Bd (gY cl) (jh cl (8+f))=jh cl (8+f)::iH cl f:=by unfold Bd;rw[aic (Wl hf),YT hf]
 show#[#[λx hx=>?_,λx hx=>UG (FP hx),λq=>by cases (List.append_eq_nil_iff.mp q).2],λx hx=>FP hx,λq hq=>(CK q hq).1,λq hq=>(CK q hq).2,λq=>by cases q];rw[e];have go:x∈jh cl (8+f)::iH cl f->jW (BX cl++tmp (jh cl (8+f)::iH cl f)) x:=λh=>by let(k,k1,k2,e):=abD hf h;show ac5 (by rw[e];show YQ k1 k2) h
 obtain hx|hx:=adY.mp hx
 . obtain hx|hx:=adY.mp hx
   . show Uz (YS hx)
   . show go (abl _ hx)
 . rw[agk.mp hx]at go ⊢;show go aaV
def aaO:("main" : Str)∉(gY cl).map (·.name):=λq=>by rw[HN]at q;let(f,hf,e):=abz.mp q;have:=List.mem_range.mp hf;have:=ww (cl:=cl);show(abx (cl 0) ()).1 e
def ae9:SC (scM cl) (BX cl) (gY cl) "main":=#[#[λx hx=>Uz (YS hx),λx hx=>UG (FP hx),ac4],λx hx=>FP hx,λq hq=>(CK q hq).1,λq hq=>(CK q hq).2,λq=>by cases q]
def afa:In (iV cl k):=by
 unfold iV;split
 . lia
 . show Ht _
def Rt:N5 (pq cl k) (xX cl k):=by
 have:=abC (cl:=cl) (k:=k);unfold xX;split
 . rename_i h;show#[h,afa]
 . rename_i h;have e:(vK cl k).length=(pq cl k).toNat:=by unfold vK;rw[aaW,agX]
   show#[by rw[e];lia,h,by rw[e];lia,λi hi=>?_];let(j,_,e):=abz.mp hi;rw[<-e];show Ht _
theorem Ru(h:∀k,(f k).1=(g k).1/\N5 (f k).2 (g k).2):∀l:List Nat,tW (l.map f) (l.map g)
 |[]=>trivial
 |k::l=>#[(h k).1,(h k).2,Ru h l]
def JT:tW (DX cl) (BX cl):=Ru (λk=>#[rfl,Rt]) _
def af1:yF (BX cl):=by
 have h:∀q∈BX cl,∃k,q.2=xX cl k:=λq hq=>by let(k,_,e):=abz.mp hq;show#[k,by rw[<-e];rfl]
 show#[λq hq=>?_,λq hq is e=>?_]
 . let(k,e):=h q hq;have:=Rt (cl:=cl) (k:=k);rw[e];cases hv:xX cl k with
   |n i=>rw[hv]at this;show this.2
   |l is=>rw[hv]at this;show this.2.2.2
 . let(k,e2):=h q hq;have:=Rt (cl:=cl) (k:=k);rw[<-e2,e]at this;show this.2.2.1
def CP(h:t∈gY cl):VG (QR (BX cl) (gY cl) t.name) 0 t.rows/\t.rows.cnt<=6/\(t.name::t.prm).Nodup/\(∀x∈t.name::t.prm,x∉(BX cl).map (·.1))/\t.prm.length<=3:=by
 let(f,hf,e):=abz.mp h;subst e;have hf:=List.mem_range.mp hf;have:=ww (cl:=cl);have:=JS (cl:=cl) (f:=f);have:=abA (cl:=cl) (f:=f);let(d1,d2):=Le (ae8 hf) (cl:=cl) (at_:=6+6*(f:Int)) (n:=M4 cl f);show#[d1,agf d2 (),agT.mpr #[λq=>?_,?_],λx hx=>?_,?_]
 . let(j,hj,e):=abz.mp q;have:=List.mem_range.mp hj;have:=wJ (cl:=cl) () () e;lia
 . show Rp (λa ha b hb e=>?_) List.nodup_range;have:=List.mem_range.mp ha;have:=List.mem_range.mp hb;have:=wJ (cl:=cl) () () e;lia
 . let(k,k1,k2,e):=abD hf hx;rw[e];show YQ k1 k2
 . show (iH cl f).length<=3;unfold iH;rw[aaW,agX];lia
theorem UJ:∀{l:List TF},(∀t∈l,t.rows.cnt<=6)->cD (l.map λt=>(t.name,t.rows))<=6*l.length
 |[]=>λ_=>aa0 _
 |t::l=>λh=>by have h1:=h t aaV;have h2:=UJ λx hx=>h x (abl _ hx);show t.rows.cnt+cD (l.map λt=>(t.name,t.rows))<=6*(l.length+1);lia
def YW:(gY cl).length<=3:=by unfold gY;rw[aaW,agX];show ww
def YX:cD ((gY cl).map λt=>(t.name,t.rows))<=18:=by have h1:=UJ (l:=gY cl) λt ht=>(CP ht).2.1;have h2:=YW (cl:=cl);lia
def abE:VG (QR (BX cl) (gY cl) "main") 0 (rsX cl)/\(rsX cl).cnt<=36:=by let(d1,d2):=Le (ae9);have:=abB (cl:=cl);show#[d1,agf d2 ()]
theorem Rw:∀(a b:List Seg),cD (a++b)=cD a+cD b
 |[]=>λb=>(ahQ _).symm
 |q::a=>λb=>by show q.2.cnt+cD (a++b)=q.2.cnt+cD a+cD b;rw[Rw a b,ah3]
def CQ:PC (BX cl) (gY cl) (rsX cl):=by
 have h1:=YX (cl:=cl);have h2:=abE (cl:=cl);have h3:=uY (cl:=cl);have hf:=ww (cl:=cl);show#[λq hq=>?_,Ob,?_,aaO,λt ht=>#[(CP ht).2.2.1,(CP ht).2.2.2.1,by have:=(CP ht).2.2.2.2;lia],?_,af1,?_]
 . obtain hq|hq:=adY.mp hq
   . let(t,ht,e):=abz.mp hq;subst e;show(CP ht).1.gd
   . rw[agk.mp hq];show h2.1.gd
 . rw[HN];show Rp (λa ha b hb e=>?_) List.nodup_range;have:=List.mem_range.mp ha;have:=List.mem_range.mp hb;have:=wJ () () e;lia
 . unfold BX;lia
 . rw[Rw];show _+((rsX cl).cnt+0)<=120;lia
def Wm:(lr (DX cl) (Gz cl) ((gY cl).map TF.fn) (rsX cl)).ok:=by
 have h1:=YX (cl:=cl);have h2:=abE (cl:=cl);have h3:=YW (cl:=cl);have h4:=h2.1.dp;show#[λf hf=>?_,h2.1.ok,by show (rsX cl).dep<=30;lia,?_,λf hf=>?_,?_]
 . let(t,ht,e):=abz.mp hf;subst e;have g:=(CP ht).1;have:=g.dp;show#[g.ok,by show t.rows.dep<=30;lia]
 . show tQ ((gY cl).map TF.fn)+(rsX cl).cnt<=250;rw[HF];lia
 . let(t,ht,e):=abz.mp hf;subst e;show#[t.prm,rfl,by have:=(CP ht).2.2.2.2;lia]
 . show ((gY cl).map TF.fn).length<=100;rw[aaW];lia
end
def Oc(h:f E=!(.sh (.int a),E))(h1:0<b)(h2:b<1073741824):aq iK f (akg b) E=!(.sh (.int (a/b)),E):=cN h rfl rfl rfl (DP h1 h2)
def qu(h:f E=!(.sh (.int a),E))(h1:g E=!(.sh (.int b),E)):aq bj f g E=!(.sh (.int (a+b)),E):=cN h rfl h1 rfl rfl
def CT(h:f E=!(.sh (.int a),E))(h1:g E=!(.sh (.int b),E))(h2:0<=b)(h3:b<1000000):aq cI f g E=!(.sh (.int (a*b)),E):=cN h rfl h1 rfl (Hc rfl rfl () ())
def YZ{E E1 E2:Ev}(h:f E=!(l,E1))(hl:l.pv=.lst ps)(h1:g E1=!(m,E2))(hm:m.pv=.lst qs)(hz:ps.length+qs.length<=100000):aq bj f g E=!(.own (.lst (ps++qs)),E2):=cN h hl h1 hm (aic hz)
def af2(h:f E=!(.sh (.int a),E))(h1:g E=!(.sh (.int b),E))(h2:0<b):aq aP f g E=!(.sh (.int (a%b)),E):=cN h rfl h1 rfl (gR h2)
def afb(h:f E=!(.sh (.int a),E))(h1:g E=!(.sh (.int b),E)):tT (aq lK f g) aQ E=!(decide (a≠b),E):=by show dY (cN h rfl h1 rfl rfl) rfl ?_;show some (not (a==b))=_;lia
def Rx(h:f E=!(.sh (.int a),E)):tT (aq eqP f (akg b)) aQ E=!(decide (a=b),E):=Ff (dq h rfl rfl) ()
def afc[Decidable p][Decidable q](h:c E=!(decide p,E))(h2:d E=!(decide q,E)):dI c d E=!(decide (p/\q),E):=by
 by_cases hp:p
 . rw[jg ∅ h2];lia
 . rw[nY (h.trans (by rw[aif hp])),aif λg=>hp g.1]
abbrev PF(S:PV)(l1 l2 l3 l4 l5 l6 l7 l8 l9 l10 l11 l12 l13 l14 l15 l16:Option Lc)(mu:Mu):Ev:=#[[zS S,l1,l2,l3,l4,l5,l6,l7,l8,l9,l10,l11,l12,l13,l14,l15,l16],mu]
abbrev iv(i:Int):Option Lc:=zI i
abbrev ol(ps:List PV):Option Lc:=zO ps
abbrev gn(ps:List PV):Option Lc:=zL ps
abbrev rng(i m:Nat):List PV:=(List.range' i m).map λ(j:Nat)=>PV.int (j:Nat)
section
variable {S:PV}{cl:Int->Int}{mu:Mu}
abbrev xY(q:Str×Int):PV:=.tup [.str q.1,.int q.2,.non]
abbrev vab:=bY (dI (tT (aq lK (aa 4) (aq aP (aq iK (aa 1) (akg 8)) (aq bj (akg 1) (aq aP (aa 1) (akg 8))))) aQ) (tT (aq eqP (aq aP (aq aP (aq cI (aq cI (aq bj (aq iK (aa 1) (akg 64)) (akg 1)) (aq bj (aa 4) (akg 2))) (akg 48271)) (akg 65537)) (akg 3)) (akg 0)) aQ)) (aO 5 (aq bj (akg 1) (aq aP (aq bj (aq iK (aa 1) (akg 64)) (aa 4)) (akg 8)))) cu
theorem UL(c:CL S cl):∀(m i:Nat)(acc:List PV)(l4 l5:Option Lc),i+m<=8->acc.length<=i->∃p4 p5,iw (aF 4) (aG (aO 5 (akg 0)) (aG vab vcm)) (rng i m) (PF S (iv (cl 1)) (iv (cl 2)) (ol acc) l4 l5 none none none none none none none none none none none mu)=!(.nx (PF S (iv (cl 1)) (iv (cl 2)) (ol (acc++((List.range' i m).map (JP cl)).map xY)) p4 p5 none none none none none none none none none none none mu))
 |0=>λi acc l4 l5 _ _=>#[l4,l5,by show some (Fl.nx _)=!(Fl.nx (PF S _ _ (ol (acc++[])) _ _ _ _ _ _ _ _ _ _ _ _ _ _));rw[abv]]
 |m+1=>λi acc l4 l5 hi ha=>by
  let E:=λl5=>PF S (iv (cl 1)) (iv (cl 2)) (ol acc) (iv (i:Nat)) l5 none none none none none none none none none none none mu;have tc:vac (E (iv 0))=!(decide ((((i:Nat):Int)≠cl 1/8%(1+cl 1%8))/\(cl 1/64+1)*(((i:Nat):Int)+2)*48271%65537%3=0),E (iv 0)):=afc (afb rfl (af2 () () ())) (Rx (fV (fV (CT (CT () () () ()) rfl () ()) ()) ()));have s5:vab (E (iv 0))=!(.nx (E (iv (pq cl i)))):=by
   unfold pq;by_cases h:(((i:Nat):Int)≠cl 1/8%(1+cl 1%8))/\(cl 1/64+1)*(((i:Nat):Int)+2)*48271%65537%3=0
   . rw[aic h];show yT (tc.trans (by rw[aig h])) (bL () rfl rfl)
   . show(bK ∅).trans rfl
  let(p4,p5,r):=UL c m (i+1) (acc++[xY (JP cl i)]) (iv (i:Nat)) (iv (pq cl i)) () ∅;rw[aba]at r;show#[p4,p5,d9 rfl (aB rfl (aB s5 (nR rfl (fQ (aC (aY rfl rfl rfl rfl (FJ c () mu)) rfl) rfl rfl) rfl rfl () rfl))) r]
theorem CV(h:∀q:Str×Int,T #[[zS (xY q)],mu]=!(p q,#[[zS (xY q)],mu])):∀(D:List (Str×Int))(o:Option Lc)(acc:List PV),acc.length+D.length<=1000->iJ (aF 0) T (aM (aa 0) (akg 0)) (D.map xY) #[[o],mu] acc=!(acc++((D.filter p).map (·.1)).map .str,mu)
 |[]=>λo acc _=>by show some (acc,mu)=_;lia
 |q::D=>λo acc hl=>by
  rw[aa9]at hl;show (T #[[zS (xY q)],mu]).bind (λc=>if c.1=true then (aM (aa 0) (akg 0) c.2).bind (λv=>if acc.length<100000 then iJ (aF 0) T (aM (aa 0) (akg 0)) (D.map xY) v.2 (acc++[v.1.pv]) else none) else iJ (aF 0) T (aM (aa 0) (akg 0)) (D.map xY) c.2 acc)=_;rw[h q,aaS];cases hp:p q with
  |true=>
   rw[aic rfl,List.filter_cons_of_pos hp];show (if acc.length<100000 then iJ (aF 0) T (aM (aa 0) (akg 0)) (D.map xY) #[[zS (xY q)],mu] (acc++[.str q.1]) else none)=_;rw[aic ()];show(CV h D _ (acc++[PV.str q.1]) ∅).trans ?_;lia
  |false=>
   rw[aid agV,List.filter_cons_of_neg ∅];show CV h D _ acc ()
def Y0_(hf:f<3)(h:fi E=!(.sh (.int (f:Nat)),E)):aM (bG (aj (akg a) (aj (akg b) (aj (akg c) ao)))) fi E=!(.sh (.int (if f=0 then a else if f=1 then b else c)),E):=by show oK rfl rfl h rfl (λn q=>by cases q) ?_;rcases (by omega:f=0\/f=1\/f=2) with e|e|e<;>subst e<;>rfl
theorem UT(c:CL S cl)(hf:f<3):∀(m j:Nat)(o:Option Lc)(acc:List PV),j+m<=3->acc.length<=j->iJ (aF 0) dw vck (rng j m) #[[o,zS S,iv (f:Nat)],mu] acc=!(acc++((List.range' j m).map λj=>jh cl (11+3*f+j)).map .str,mu)
 |0=>λj o acc _ _=>by show some (acc,mu)=!(acc++[],mu);rw[abv]
 |m+1=>λj o acc hj ha=>by
  have e:aq bj vgg (aa 0) #[[iv (j:Nat),zS S,iv (f:Nat)],mu]=!(.sh (.int ((11+3*f+j:Nat):Int)),#[[iv (j:Nat),zS S,iv (f:Nat)],mu]):=by have:=qu (E:=#[[iv (j:Nat),zS S,iv (f:Nat)],mu]) (qu (f:=akg 11) rfl (CT (f:=akg 3) (g:=aa 2) rfl rfl () ())) (g:=aa 0) rfl;congr 4<;>lia
  show nG rfl (aY (aC rfl (aC e rfl)) rfl rfl rfl (FJ c () mu)) () ?_;show(UT c hf m (j+1) _ (acc++[.str (jh cl (11+3*f+j))]) () ∅).trans ?_;rw[aba];rfl
theorem UV(c:CL S cl):∀(m i:Nat)(acc:List PV)(l10 l11:Option Lc),i+m<=3->acc.length<=i->∃p10 p11,iw (aF 10) (aG vad vcf) (rng i m) (PF S (iv (cl 1)) (iv (cl 2)) l3 l4 l5 l6 l7 l8 (ol acc) l10 l11 none none none none none mu)=!(.nx (PF S (iv (cl 1)) (iv (cl 2)) l3 l4 l5 l6 l7 l8 (ol (acc++((List.range' i m).map (FN cl)).map tY)) p10 p11 none none none none none mu))
 |0=>λi acc l10 l11 _ _=>#[l10,l11,by show some (Fl.nx _)=!(Fl.nx (PF S _ _ _ _ _ _ _ _ (ol (acc++[])) _ _ _ _ _ _ _ _));rw[abv]]
 |m+1=>λi acc l10 l11 hi ha=>by
  let E:=λl11=>PF S (iv (cl 1)) (iv (cl 2)) l3 l4 l5 l6 l7 l8 (ol acc) (iv (i:Nat)) l11 none none none none none mu;have dpos:0<MT i/\MT i<1073741824:=by
   unfold MT;split
   . decide
   . lia
  have mn:=lU (c:=cl 2/MT i) (b:=4) ();have np:=JS (cl:=cl) (f:=i);have er:cZ vbn (E l11)=!(rng 0 (npX cl i),E l11):=by show uN ?_ ();rw[show ((npX cl i:Nat):Int)=cl 2/MT i%4 from mn.1];show fV (cN rfl rfl (Y0_ () rfl) rfl (DP dpos.1 dpos.2)) ()
  have ec:=UT (mu:=mu) c (f:=i) () (npX cl i) 0 none [] () ();rw[<-List.range_eq_range']at ec;let(p10,p11,r):=UV c m (i+1) (acc++[tY (FN cl i)]) (iv (i:Nat)) (gn ((iH cl i).map .str)) () ∅;rw[aba]at r;have e8:aq bj (akg 8) (aa 10) (E (ol ((iH cl i).map .str)))=!(.sh (.int ((8+i:Nat):Int)),E (ol ((iH cl i).map .str))):=by rw[qu rfl rfl];congr 4<;>lia
  show#[p10,p11,d9 rfl (aB (bL (iU er ec) rfl rfl) (nR rfl (fQ (aC (aY (aC rfl (aC e8 rfl)) rfl rfl rfl (FJ c () mu)) rfl) rfl rfl) rfl rfl () rfl)) r]
end
section
variable {S:PV}{cl:Int->Int}
theorem UW:∀(xs:List Str)(o:Option Lc)(acc:List PV),acc.length+xs.length<=1000->iJ (aF 0) dw vho (xs.map .str) #[[o],mu] acc=!(acc++xs.map (λx=>.tup [.str x,.non]),mu)
 |[]=>λo acc _=>by show some (acc,mu)=!(acc++[],mu);rw[abv]
 |x::xs=>λo acc h=>by show nG rfl rfl () ?_;show(UW xs _ (acc++[.tup [.str x,.non]]) ∅).trans ?_;rw[aba];rfl
abbrev yO(cl:Int->Int):PV:=.lst ((pA cl).map .str)
abbrev qR(cl:Int->Int):PV:=.lst ((JQ cl).map .str)
abbrev zp(cl:Int->Int):PV:=.lst [.str (Rm cl)]
abbrev pZ(cl:Int->Int):PV:=.lst ((ud cl).map tY)
def nums_len:(pA cl).length<=8:=by unfold pA;rw[aaW];show agf (List.length_filter_le _ _) ?_;unfold DX;rw[aaW,agX];show uY
def ac6:(iH cl f).length<=3:=by unfold iH;rw[aaW,agX];show JS
def aaP(h:i<uc cl):gA ((ud cl).map tY) ((i:Nat):Int)=!(tY (FN cl i)):=uI (by unfold ud;rw[af9,af9,List.getElem?_range h];rfl)
theorem U0(c:CL S cl):∀(m i:Nat)(acc:List PV)(mu:Mu)(a6 a7 a8 a9:Lc)(l10 l13 l14 l15 l16:Option Lc),i+m<=uc cl->acc.length<=i->a6.pv=yO cl->a7.pv=qR cl->a8.pv=zp cl->a9.pv=pZ cl->∃mu' b6 b7 b8 b9 p10 p13 p14 p15 p16,iw (aF 10) (aG vdv (aG vbi (aG vaf vaz))) (rng i m) (PF S (iv (cl 1)) (iv (cl 2)) l3 l4 l5 (!a6) (!a7) (!a8) (!a9) l10 l11 (ol acc) l13 l14 l15 l16 mu)=!(.nx (PF S (iv (cl 1)) (iv (cl 2)) l3 l4 l5 (!b6) (!b7) (!b8) (!b9) p10 l11 (ol (acc++((List.range' i m).map (YL cl)).map λt=>t.fn.pv)) p13 p14 p15 p16 mu'))/\b6.pv=yO cl/\b7.pv=qR cl/\b8.pv=zp cl/\b9.pv=pZ cl
 |0=>λi acc mu a6 a7 a8 a9 l10 l13 l14 l15 l16 _ _ h6 h7 h8 h9=>#[mu,a6,a7,a8,a9,l10,l13,l14,l15,l16,by show some (Fl.nx _)=!(Fl.nx (PF S _ _ _ _ _ _ _ _ _ _ _ (ol (acc++[])) _ _ _ _ _));rw[abv],h6,h7,h8,h9]
 |m+1=>λi acc mu a6 a7 a8 a9 l10 l13 l14 l15 l16 hi ha h6 h7 h8 h9=>by
  have nf:=ww (cl:=cl);have nl:=nums_len (cl:=cl);have pl:=ac6 (cl:=cl) (f:=i);have nr:=abA (cl:=cl) (f:=i);let E0:=PF S (iv (cl 1)) (iv (cl 2)) l3 l4 l5 (!a6) (!a7) (!a8) (!a9) (iv (i:Nat)) l11 (ol acc) l13 l14 l15 l16 mu;let N13:Option Lc:=zT (jh cl (8+i));let N14:=gn ((iH cl i).map .str);let V6:Option Lc:=zS (yO cl);let V7:Option Lc:=zS (qR cl);let V8:Option Lc:=zS (zp cl);let V9:Option Lc:=zS (pZ cl);have s0:(rG (aM (aa 9) (aa 10)) (eG 2 (aL (aF 13) (aL (aF 14) dU)))) E0=!(.nx (PF S (iv (cl 1)) (iv (cl 2)) l3 l4 l5 (!a6) (!a7) (!a8) V9 (iv (i:Nat)) l11 (ol acc) N13 N14 l15 l16 mu)):=by
   have q:aM (aa 9) (aa 10) E0=!(.sh (tY (FN cl i)),PF S (iv (cl 1)) (iv (cl 2)) l3 l4 l5 (!a6) (!a7) (!a8) V9 (iv (i:Nat)) l11 (ol acc) l13 l14 l15 l16 mu):=by
    show oK (l:=.sh a9.pv) (Y1:=PF S (iv (cl 1)) (iv (cl 2)) l3 l4 l5 (!a6) (!a7) (!a8) V9 (iv (i:Nat)) l11 (ol acc) l13 l14 l15 l16 mu) ?_ h9 rfl rfl (λn q=>by cases q) ?_
    . show some (Lc.sh a9.pv,PF S (iv (cl 1)) (iv (cl 2)) l3 l4 l5 (!a6) (!a7) (!a8) (zS a9.pv) (iv (i:Nat)) l11 (ol acc) l13 l14 l15 l16 mu)=_;rw[h9]
    . show (gA _ _).map _=_;rw[aaP ()];rfl
   unfold rG;rw[q];rfl
  have s1:vbi (PF S (iv (cl 1)) (iv (cl 2)) l3 l4 l5 (!a6) (!a7) (!a8) V9 (iv (i:Nat)) l11 (ol acc) N13 N14 l15 l16 mu)=!(.nx (PF S (iv (cl 1)) (iv (cl 2)) l3 l4 l5 V6 V7 V8 V9 (iv (i:Nat)) l11 (ol acc) N13 N14 (!(.sh (JR cl i).pv)) l16 mu)):=by
   have q1:aq bj (aq bj (aa 6) (aa 14)) (bG (aj (aa 13) ao)) (PF S (iv (cl 1)) (iv (cl 2)) l3 l4 l5 (!a6) (!a7) (!a8) V9 (iv (i:Nat)) l11 (ol acc) N13 N14 l15 l16 mu)=!(.own (.lst ((pA cl).map .str++(iH cl i).map .str++[.str (jh cl (8+i))])),PF S (iv (cl 1)) (iv (cl 2)) l3 l4 l5 V6 (!a7) (!a8) V9 (iv (i:Nat)) l11 (ol acc) N13 N14 l15 l16 mu):=by show YZ (YZ (l:=.sh a6.pv) (E1:=PF S (iv (cl 1)) (iv (cl 2)) l3 l4 l5 V6 (!a7) (!a8) V9 (iv (i:Nat)) l11 (ol acc) N13 N14 l15 l16 mu) ?_ h6 rfl rfl ∅) rfl rfl rfl ∅;show some (Lc.sh a6.pv,PF S (iv (cl 1)) (iv (cl 2)) l3 l4 l5 (zS a6.pv) (!a7) (!a8) V9 (iv (i:Nat)) l11 (ol acc) N13 N14 l15 l16 mu)=_;rw[h6]
   have q2:aj (aa 7) (aj (aa 9) (aj (aa 8) ao)) (PF S (iv (cl 1)) (iv (cl 2)) l3 l4 l5 V6 (!a7) (!a8) V9 (iv (i:Nat)) l11 (ol acc) N13 N14 l15 l16 mu)=!([.sh (qR cl),.sh (pZ cl),.sh (zp cl)],PF S (iv (cl 1)) (iv (cl 2)) l3 l4 l5 V6 V7 V8 V9 (iv (i:Nat)) l11 (ol acc) N13 N14 l15 l16 mu):=by show some ([Lc.sh a7.pv,Lc.sh (pZ cl),Lc.sh a8.pv],PF S (iv (cl 1)) (iv (cl 2)) l3 l4 l5 V6 (zS a7.pv) (zS a8.pv) V9 (iv (i:Nat)) l11 (ol acc) N13 N14 l15 l16 mu)=_;rw[h7,h8]
   show bL (fQ (aC q1 q2) rfl ?_) rfl rfl;show [PV.lst ((pA cl).map PV.str++(iH cl i).map PV.str++[PV.str (jh cl (8+i))]),qR cl,pZ cl,zp cl]=[PV.lst ((pA cl++iH cl i++[jh cl (8+i)]).map PV.str),_,_,_];rw[ady,ady];rfl
  let E2:=PF S (iv (cl 1)) (iv (cl 2)) l3 l4 l5 V6 V7 V8 V9 (iv (i:Nat)) l11 (ol acc) N13 N14 (!(.sh (JR cl i).pv)) l16 mu;let(mu1,hr):=Uw c (ae8 (cl:=cl) (f:=i) ()) (at_:=6+6*(i:Int)) () () (n:=M4 cl i) () mu;have dpos:0<M3 i/\M3 i<1073741824:=by
   unfold M3;split
   . decide
   . lia
  have mn:=lU (c:=cl 2/M3 i) (b:=4) ();let T:TF:=YL cl i;let R16:Option Lc:=zL T.rows.pvs;let E3:=PF S (iv (cl 1)) (iv (cl 2)) l3 l4 l5 V6 V7 V8 V9 (iv (i:Nat)) l11 (ol acc) N13 N14 (!(.sh (JR cl i).pv)) R16 mu1;have s2:vaf E2=!(.nx E3):=by show bL (aY (aC rfl (aC (qu rfl (CT rfl rfl () ())) (aC (Y1:=E2) (l:=.sh (.int ((M4 cl i:Nat):Int))) ?_ (aC rfl rfl)))) rfl rfl rfl hr) rfl rfl;rw[show ((M4 cl i:Nat):Int)=cl 2/M3 i%4 from mn.1];show fV (cN rfl rfl (Y0_ () rfl) rfl (DP dpos.1 dpos.2)) ()
  have s3:vaz E3=!(.nx (PF S (iv (cl 1)) (iv (cl 2)) l3 l4 l5 V6 V7 V8 V9 (iv (i:Nat)) l11 (ol (acc++[T.fn.pv])) N13 N14 (!(.sh (JR cl i).pv)) R16 mu1)):=by have ec:=UW (mu:=mu1) (iH cl i) none [] (by show 0+_<=_;lia);show nR rfl (fQ (aC rfl (aC rfl (aC (iU rfl ec) rfl))) rfl rfl) rfl rfl () rfl
  let(mu',b6,b7,b8,b9,p10,p13,p14,p15,p16,r,q6,q7,q8,q9):=U0 c m (i+1) (acc++[T.fn.pv]) mu1 (.sh (yO cl)) (.sh (qR cl)) (.sh (zp cl)) (.sh (pZ cl)) (iv (i:Nat)) N13 N14 (!(.sh (JR cl i).pv)) R16 () (by rw[aaU];show _+1<=_;lia) rfl rfl rfl rfl;rw[aba]at r;show#[mu',b6,b7,b8,b9,p10,p13,p14,p15,p16,d9 rfl (aB s0 (aB s1 (aB s2 s3))) r,q6,q7,q8,q9]
def JV(c:CL S cl)(mu:Mu):∃mu',kh [S] mu=!(.sh (lr (DX cl) (Gz cl) ((gY cl).map TF.fn) (rsX cl)).pv,mu'):=by
 have nb:=uY (cl:=cl);have nf:=ww (cl:=cl);have nm:=abB (cl:=cl);have m4:=lU (c:=cl 2) (b:=4) ();have m19:=lU (c:=cl 3) (b:=19) ();have mw:=lU (c:=cl 2/256) (b:=8) ();let C1:=iv (cl 1);let C2:=iv (cl 2);let A:=PF S C1 C2 (ol []) none none none none none none none none none none none none none mu;let(p4,p5,r3):=UL c (qC cl) 0 [] none none () (aa0 _);rw[<-List.range_eq_range']at r3;let D3:=(DX cl).map xY;have i3:cZ vfh A=!(rng 0 (qC cl),A):=by show uN ?_ ();rw[show ((qC cl:Nat):Int)=1+cl 1%8 from by unfold qC;omega];show qu rfl ()
 have dl:(DX cl).length<=8:=by unfold DX;rw[aaW,agX];show nb
 have e6:=CV (mu:=mu) (T:=vfp) (λq=>Rx rfl) (DX cl) none [] ∅;have e7:=CV (mu:=mu) (T:=vfu) (λq=>rfl) (DX cl) none [] ∅;let N6:Option Lc:=!(.own (yO cl));let N7:Option Lc:=!(.own (qR cl));let N8:Option Lc:=!(.own (zp cl));let B3:=PF S C1 C2 (gn D3) p4 p5 N6 N7 none none none none none none none none none mu;have s8:vby B3=!(.nx (PF S C1 C2 (gn D3) p4 p5 N6 N7 N8 none none none none none none none none mu)):=by
  have q:aq aP (aq iK (aa 2) (akg 256)) (akg 8) B3=!(.sh (.int (((cl 2/256%8).toNat:Nat):Int)),B3):=by rw[mw.1];show fV () ()
  show bL (qM (aC (aY (aC rfl (aC q rfl)) rfl rfl rfl (FJ c () mu)) rfl) rfl rfl) rfl rfl
 let(p10,p11,r9):=UV c (uc cl) 0 [] none none () (aa0 _);rw[<-List.range_eq_range']at r9;let B4:=PF S C1 C2 (gn D3) p4 p5 N6 N7 N8 (ol []) none none none none none none none mu;have i9:cZ (aj (aq aP (aa 2) (akg 4)) ao) B4=!(rng 0 (uc cl),B4):=by show uN ?_ ();rw[show ((uc cl:Nat):Int)=cl 2%4 from m4.1];show fV rfl ()
 let H9:=(ud cl).map tY;let B5:=PF S C1 C2 (gn D3) p4 p5 N6 N7 N8 (ol H9) p10 p11 (ol []) none none none none mu;let(mu1,b6,b7,b8,b9,q10,q13,q14,q15,q16,r12,g6,g7,g8,g9):=U0 c (uc cl) 0 [] mu (.own (yO cl)) (.own (qR cl)) (.own (zp cl)) (.own (pZ cl)) p10 none none none none () (aa0 _) rfl rfl rfl rfl;rw[<-List.range_eq_range']at r12;have i12:cZ vhh B5=!(rng 0 (uc cl),B5):=by show uN (PP (vD rfl rfl ?_) rfl) ();show some (Lc.sh (.int (((ud cl).map tY).length:Nat)))=_;unfold ud;rw[aaW,aaW,agX]
 let F12:=((List.range (uc cl)).map (YL cl)).map λt=>t.fn.pv;let B6:=PF S C1 C2 (gn D3) p4 p5 (!b6) (!b7) (!b8) (!b9) q10 p11 (ol F12) q13 q14 q15 q16 mu1;let(mu2,hr):=Uw c (ae9) (at_:=24) () () (n:=M5 cl) () mu1;let R16:Option Lc:=zS (.lst (rsX cl).pvs);let B7:=λl16 mu=>PF S C1 C2 (gn D3) p4 p5 (zS (yO cl)) (zS (qR cl)) (zS (zp cl)) (zS (pZ cl)) q10 p11 (ol F12) q13 q14 q15 l16 mu;have s16:vam B6=!(.nx (B7 R16 mu2)):=by
  have q1:aq aP vhi (akg 19) B6=!(.sh (.int ((M5 cl:Nat):Int)),B6):=by rw[show ((M5 cl:Nat):Int)=cl 3%19 from m19.1];show fV (aY rfl rfl rfl rfl (c.eq 3 () () mu1)) ()
  have q2:bz vex B6=!(.sh (scM cl).pv,B7 q16 mu1):=by
   show fQ (ls:=[.sh b6.pv,.sh b7.pv,.sh b9.pv,.sh b8.pv]) ?_ rfl ?_
   . show some ([Lc.sh b6.pv,.sh b7.pv,.sh b9.pv,.sh b8.pv],PF S C1 C2 (gn D3) p4 p5 (zS b6.pv) (zS b7.pv) (zS b8.pv) (zS b9.pv) q10 p11 (ol F12) q13 q14 q15 q16 mu1)=_;lia
   . rw[g6,g7,g8,g9];rfl
  show bL (aY (aC rfl (aC rfl (aC q1 (aC q2 rfl)))) rfl rfl rfl hr) rfl rfl
 have fin:vaw (B7 R16 mu2)=!(.rt (.sh (lr (DX cl) (Gz cl) ((gY cl).map TF.fn) (rsX cl)).pv) (PF S C1 C2 (gn D3) p4 p5 (zS (yO cl)) (zS (qR cl)) (zS (zp cl)) (zS (pZ cl)) q10 p11 (gn F12) q13 q14 q15 R16 mu2)):=by
  have ef:F12=((gY cl).map TF.fn).map Fn.pv:=by show ((List.range (uc cl)).map (YL cl)).map (λt=>t.fn.pv)=_;unfold gY;rw[agb,agb,agb];rfl
  show some (Fl.rt (Lc.sh (.tup [.lst D3,.lst (Gz cl),.lst F12,.lst (rsX cl).pvs])) _)=_;rw[ef];rfl
 show#[_,bh (aB (bL (aY rfl rfl rfl rfl (c.eq 1 () () mu)) rfl rfl) (aB (bL (aY rfl rfl rfl rfl (c.eq 2 () () mu)) rfl rfl) (aB rfl (aB (jo i3 r3) (aB (bL (iU rfl e6) rfl rfl) (aB (bL (iU rfl e7) rfl rfl) (aB s8 (aB rfl (aB (jo i9 r9) (aB rfl (aB (jo i12 r12) (aB s16 fin))))))))))))]
end
section
variable {S:PV}{cl:Int->Int}{mu:Mu}
abbrev PX(cl:Int->Int):PV:=(lr (DX cl) (Gz cl) ((gY cl).map TF.fn) (rsX cl)).pv
abbrev VE(S:PV)(cl:Int->Int)(acc:List PV)(l3 l4:Option Lc)(mu:Mu):Ev:=#[[zS S,zS (PX cl),ol acc,l3,l4],mu]
def afd:(∀n,PV.tup ps≠.ptr n)/\(∀k s,PV.tup ps≠.dk k s)/\∀k s,PV.tup ps≠.df k s:=#[λn h=>(by cases h),λ_ _ h=>(by cases h),λ_ _ h=>(by cases h)]
def af3(h:k<qC cl):gA (dcl (DX cl)) ((k:Nat):Int)=!(xY (JP cl k)):=uI (by unfold DX;rw[af9,af9,List.getElem?_range h];rfl)
def abF(h:k<qC cl):vfq (VE S cl acc (iv (k:Nat)) l4 mu)=!(.sh (.int (pq cl k)),VE S cl acc (iv (k:Nat)) l4 mu):=by show v9 (l:=.sh (xY (JP cl k))) (v9 rfl rfl rfl rfl An ?_) rfl rfl rfl afd rfl;show (gA (dcl (DX cl)) ((k:Nat):Int)).map Lc.sh=_;rw[af3 h];rfl
def Wn(c:CL S cl)(hk:k<8):vba (VE S cl acc (iv (k:Nat)) l4 mu)=!(.nx (VE S cl acc (iv (k:Nat)) (iv (pB cl k)) mu)):=by
 have hkk:(k:Int)*k<=64:=by
  have:k*k<=8*8:=Nat.mul_le_mul () ()
  lia
 have hk0:0<=(k:Int)*k:=Int.mul_nonneg () ();show bL (fV (CT (qu (aY rfl rfl rfl rfl (c.eq 4 () () mu)) rfl) (qu (CT rfl rfl () ()) rfl) () ()) ()) rfl rfl
def Od(h:k<qC cl)(hd:decide (pq cl k=0)=d):vdg (VE S cl acc (iv (k:Nat)) l4 mu)=!(d,VE S cl acc (iv (k:Nat)) l4 mu):=(xR (abF h)).trans (by rw[hd])
def abG:vbe (VE S cl acc (iv (k:Nat)) (iv (pB cl k)) mu)=!(.sh (.int (iV cl k)),VE S cl acc (iv (k:Nat)) (iv (pB cl k)) mu):=YC () (aY (aC (iR rfl () ()) rfl) rfl rfl rfl (Ej _ _)) rfl
theorem U3_:∀(m j:Nat)(o:Option Lc)(acc:List PV),j+m<=8->acc.length<=j->iJ (aF 0) dw vcl (rng j m) #[[o,iv (pB cl k)],mu] acc=!(acc++((List.range' j m).map (vaX cl k)).map .int,mu)
 |0=>λj o acc _ _=>by show some (acc,mu)=!(acc++[],mu);rw[abv]
 |m+1=>λj o acc hj ha=>by show nG rfl (aY (aC (fV (CT rfl () () ()) ()) rfl) rfl rfl rfl (Ej _ _)) () ?_;show(U3_ m (j+1) _ (acc++[.int (vaX cl k j)]) () ∅).trans ?_;rw[aba];rfl
def abH(h:k<qC cl):van (VE S cl acc (iv (k:Nat)) (iv (pB cl k)) mu)=!(.own (.lst ((vK cl k).map .int)),VE S cl acc (iv (k:Nat)) (iv (pB cl k)) mu):=by have sz:=abC (cl:=cl) (k:=k);have e:=U3_ (cl:=cl) (mu:=mu) (k:=k) (pq cl k).toNat 0 none [] () ();rw[<-List.range_eq_range']at e;show iU (Y1:=VE S cl acc (iv (k:Nat)) (iv (pB cl k)) mu) (uN ?_ ()) e;rw[show (((pq cl k).toNat:Nat):Int)=pq cl k from by omega];show abF h
theorem U4(c:CL S cl):∀(m i:Nat)(acc:List PV)(l3 l4:Option Lc),i+m<=qC cl->acc.length<=i->∃p3 p4,iw (aF 3) (aG vba (bY vdg vbc vak)) (rng i m) (VE S cl acc l3 l4 mu)=!(.nx (VE S cl (acc++dg ((List.range' i m).map (Ro cl))) p3 p4 mu))
 |0=>λi acc l3 l4 _ _=>#[l3,l4,by show some (Fl.nx _)=!(Fl.nx (VE S cl (acc++[]) _ _ _));rw[abv]]
 |m+1=>λi acc l3 l4 hi ha=>by
  have nb:=uY (cl:=cl);let(p3,p4,r):=U4 c m (i+1) (acc++[(xX cl i).pv]) (iv (i:Nat)) (iv (pB cl i)) () ∅;rw[aba]at r;show#[p3,p4,d9 rfl (aB (Wn c ()) ?_) r];unfold xX;by_cases h:pq cl i=0
  . rw[aic h];show yT (Od () (aig h)) (nR rfl abG rfl rfl () rfl)
  . rw[aid h];show yY (Od () (aif h)) (nR rfl (abH ()) rfl rfl () rfl)
theorem Lg(c:CL S cl){lo:Nat}:∀(m i:Nat)(A:Bs)(acc:List PV)(l3 l4:Option Lc)(mu:Mu),i+m<=qC cl->acc.length<=i->lo<=mu.length->CB mu mu.length lo A acc->∃ps t p3 p4,iw (aF 3) (aG vba (bY vdg vbc vaj)) (rng i m) (VE S cl acc l3 l4 mu)=!(.nx (VE S cl ps p3 p4 (mu++t)))/\CB (mu++t) (mu++t).length lo (A++(List.range' i m).map (Ro cl)) ps
 |0=>λi A acc l3 l4 mu _ _ _ h=>#[acc,[],l3,l4,by rw[abv];rfl,by rw[abv,show A++(List.range' i 0).map (Ro cl)=A from abv _];show h]
 |m+1=>λi A acc l3 l4 mu hi ha hlo hc=>by
  have nb:=uY (cl:=cl);by_cases h:pq cl i=0
  . have e:xX cl i=.n (iV cl i):=aic h;let(ps,t,p3,p4,r,g):=Lg c m (i+1) (A++[(jh cl i,.n (iV cl i))]) (acc++[.int (iV cl i)]) (iv (i:Nat)) (iv (pB cl i)) mu () ∅ hlo (CB.snocN hc);rw[aba]at g;show#[ps,t,p3,p4,d9 rfl (aB (Wn c ()) (yT (Od () (aig h)) (nR rfl abG rfl rfl () rfl))) r,?_];show CB _ _ _ (A++(jh cl i,xX cl i)::(List.range' (i+1) m).map (Ro cl)) ps;lia
  . have e:xX cl i=.l (vK cl i):=aid h;have hcl:=CB.snocL (x:=jh cl i) (is:=vK cl i) hlo hc;let(ps,t,p3,p4,r,g):=Lg c (lo:=lo) m (i+1) (A++[(jh cl i,.l (vK cl i))]) (acc++[.ptr mu.length]) (iv (i:Nat)) (iv (pB cl i)) (mu++[!(.lst ((vK cl i).map .int))]) () ∅ ∅ ∅;rw[aba,aba]at g;rw[aba]at r;show#[ps,some (.lst ((vK cl i).map .int))::t,p3,p4,d9 rfl (aB (Wn c ()) (yY (Od () (aif h)) (nR rfl (jN (abH ())) rfl rfl () rfl))) r,?_];show CB _ _ _ (A++(jh cl i,xX cl i)::(List.range' (i+1) m).map (Ro cl)) ps;lia
def abI:vgv (VE S cl [] l3 l4 mu)=!(rng 0 (qC cl),VE S cl [] l3 l4 mu):=by have nb:=uY (cl:=cl);show uN ?_ ();show some (Lc.sh (.int ((dcl (DX cl)).length:Nat)),VE S cl [] l3 l4 mu)=_;unfold dcl DX;rw[aaW,aaW,agX]
def M6(c:CL S cl)(mu:Mu):lD [S,PX cl] mu=!(.own (.lst (dg (BX cl))),mu):=by let(p3,p4,r):=U4 c (qC cl) 0 [] none none () ();rw[<-List.range_eq_range']at r;show bh (Y:=#[[zS S,zS (PX cl),none,p3,p4],mu]) (aB rfl (aB (jo abI r) rfl))
def Wo(c:CL S cl)(mu:Mu):∃ps t,nD [S,PX cl] mu=!(.own (.lst ps),mu++t)/\CB (mu++t) (mu++t).length mu.length (BX cl) ps:=by let(ps,t,p3,p4,r,g):=Lg c (qC cl) 0 [] [] none none mu () () (aa0 _) rfl;rw[<-List.range_eq_range']at g;show#[ps,t,bh (Y:=#[[zS S,zS (PX cl),none,p3,p4],mu++t]) (aB rfl (aB (jo abI r) rfl)),g]
end
def af4(h0:0<=a)(h1:a<=ps.length):pJ ps none (!a)=ps.take a.toNat:=by
 have e:HT.sIx ps.length ps.length (!a)=a.toNat:=by show (if a<0 then _ else min a.toNat ps.length)=_;rw[aid ()];lia
 unfold pJ;rw[e];rfl
theorem Es:∀ps:List PV,(∀p∈ps,f p p=!true)->wX f ps ps=!true
 |[]=>λ_=>rfl
 |p::ps=>λh=>by show (f p p).bind _=_;rw[h p aaV,aaS,Es ps λq hq=>h q (abl _ hq)];rfl
def CZ(h:c Y=!(false,Y1))(h2:d Y1=!(b,Y2)):jZ c d Y=!(b,Y2):=by unfold jZ;rw[h,aaS];show h2
def Pz:Nat->PV->Prop
 |0,_=>False
 |_+1,.non=>True
 |_+1,.bl _=>True
 |_+1,.int _=>True
 |_+1,.str _=>True
 |n+1,.tup ps=>∀p∈ps,Pz n p
 |n+1,.lst ps=>∀p∈ps,Pz n p
 |_+1,_=>False
theorem Pz.up:∀{n m:Nat}{X:PV},n<=m->Pz n X->Pz m X
 |n+1,m+1,.non,_,h=>h
 |n+1,m+1,.bl _,_,h=>h
 |n+1,m+1,.int _,_,h=>h
 |n+1,m+1,.str _,_,h=>h
 |n+1,m+1,.tup ps,e,h=>λp hp=>(h p hp).up ()
 |n+1,m+1,.lst ps,e,h=>λp hp=>(h p hp).up ()
 |n+1,0,_,e,_=>()
theorem Pz.eq:∀{n:Nat}{p:PV},Pz n p->jk n p p=!true
 |n+1,.non,_=>rfl
 |n+1,.bl i,_=>by show some (i==i)=_;rw[aii]
 |n+1,.int i,_=>by show some (i==i)=_;rw[aii]
 |n+1,.str x,_=>by show some (x==x)=_;rw[aii]
 |n+1,.tup ps,h=>by show (wX (jk n) ps ps).map _=_;rw[Es ps λp hp=>Pz.eq (h p hp)];lia
 |n+1,.lst ps,h=>by show (if ps.length=ps.length then wX (jk n) ps ps else !false)=_;rw[aic rfl,Es ps λp hp=>Pz.eq (h p hp)]
theorem Pz.res:∀{n:Nat}{p:PV}{k:Nat},Pz n p->aU mu k p=p
 |_,_,0,_=>rfl
 |n+1,.non,k+1,_=>rfl
 |n+1,.bl i,k+1,_=>rfl
 |n+1,.int i,k+1,_=>rfl
 |n+1,.str x,k+1,_=>rfl
 |n+1,.tup ps,k+1,h=>by show PV.tup (ps.map (aU mu k))=_;rw[agP λp hp=>(h p hp).res,List.map_id']
 |n+1,.lst ps,k+1,h=>by show PV.lst (ps.map (aU mu k))=_;rw[agP λp hp=>(h p hp).res,List.map_id']
theorem xV.pz:∀{n:Nat}{p:PV},xV n p->Pz n p
 |n+1,.int i,_=>trivial
 |n+1,.str x,_=>trivial
 |n+1,.tup ps,h=>λp hp=>(h.2 p hp).pz
 |n+1,.lst ps,h=>λp hp=>(h.2 p hp).pz
def mZ:∀p∈([]:List PV),Pz n p:=λp hp=>by cases hp
def gK(h:Pz n p)(t:∀q∈ps,Pz n q):∀q∈p::ps,Pz n q:=λq hq=>by
 obtain e|hq:=abw.mp hq
 . rw[e];show h
 . show t q hq
mutual
theorem FQ:∀(p:PV)(n:Nat),di p=true->Jw p<=n->Pz n p
 |.non,n+1=>λ_ _=>trivial
 |.bl _,n+1=>λ_ _=>trivial
 |.int _,n+1=>λ_ _=>trivial
 |.str _,n+1=>λ_ _=>trivial
 |.tup ps,n+1=>λh hn=>λp hp=>Dd ps n () (by have:El ps+1<=n+1:=hn;lia) p hp
 |.lst _,n=>λh _=>by simp[di]at h
 |.dk _ _,n=>λh _=>by simp[di]at h
 |.dt _ _,n=>λh _=>by simp[di]at h
 |.obj _ _ _,n=>λh _=>by simp[di]at h
 |.df _ _,n=>λh _=>by simp[di]at h
 |.dtf _ _,n=>λh _=>by simp[di]at h
 |.dx _ _ _,n=>λh _=>by simp[di]at h
 |.exc _,n=>λh _=>by simp[di]at h
 |.fn _,n=>λh _=>by simp[di]at h
 |.ptr _,n=>λh _=>by simp[di]at h
 |.non,0=>λ_ h=>by have h:1<=0:=h;lia
 |.bl _,0=>λ_ h=>by have h:1<=0:=h;lia
 |.int _,0=>λ_ h=>by have h:1<=0:=h;lia
 |.str _,0=>λ_ h=>by have h:1<=0:=h;lia
 |.tup ps,0=>λ_ h=>by have h:El ps+1<=0:=h;lia
theorem Dd:∀(ps:List PV)(n:Nat),jn ps=true->El ps<=n->∀p∈ps,Pz n p
 |[]=>λn _ _=>mZ
 |p::ps=>λn h hn=>by simp only[jn,ahz]at h;have hn:max (Jw p) (El ps)<=n:=hn;show gK (FQ p n h.1 ()) (Dd ps n h.2 ())
end
def Et:Pz (n+1) (.str x):=trivial
mutual
theorem Row.pz:∀(r:Row)(n:Nat),r.ok->2*r.dep+20<=n->Pz n r.pv
 |.leaf w ps=>λn o hn=>by have hn:2*1+20<=n:=hn;have:=o.2.2;obtain⟨m,rfl⟩:∃m,n=m+2:=#[n-2,()];show gK Et (Dd ps (m+1) o.2.1 ())
 |.call b k as=>λn o hn=>by have hn:2*1+20<=n:=hn;have:=o.1.2;have:=o.2.2.1.2;obtain⟨m,rfl⟩:∃m,n=m+2:=#[n-2,()];show gK Et (gK (FQ b (m+1) o.1.1 ()) (gK Et (gK (Dd as m o.2.2.1.1 ()) mZ)))
 |.wh e b=>λn o hn=>by have hn:2*(b.dep+1)+20<=n:=hn;have:=o.1.2;obtain⟨m,rfl⟩:∃m,n=m+2:=#[n-2,()];show gK Et (gK (FQ e (m+1) o.1.1 ()) (gK (Rows.pz b m o.2 ()) mZ))
 |.iff e b c=>λn o hn=>by have hn:2*(max b.dep c.dep+1)+20<=n:=hn;have:=o.1.2;obtain⟨m,rfl⟩:∃m,n=m+2:=#[n-2,()];show gK Et (gK (FQ e (m+1) o.1.1 ()) (gK (Rows.pz b m o.2.1 ()) (gK (Rows.pz c m o.2.2 ()) mZ)))
theorem Rows.pz:∀(rs:Rows)(n:Nat),rs.ok->2*rs.dep+18<=n->∀p∈rs.pvs,Pz n p
 |.nil=>λn _ _=>mZ
 |.cons r rs=>λn o hn=>by have hn:2*max (r.dep+1) rs.dep+18<=n:=hn;show gK (Row.pz r n o.1 ()) (Rows.pz rs n o.2 ())
end
def af5{ts:List TF}(ok:(lr D gs (ts.map TF.fn) rs).ok)(hg:∀g∈gs,Pz 100 g):Pz 150 (lr D gs (ts.map TF.fn) rs).pv:=by
 show gK (λp hp=>?_) (gK (λp hp=>(hg p hp).up ()) (gK (λp hp=>?_) (gK (Rows.pz rs 148 ok.rw (by have:=ok.dp;show 2*rs.dep+18<=148;have:rs.dep<=30:=this;lia)) mZ)))
 . let(q,_,e):=abz.mp hp;rw[<-e];show gK trivial (gK trivial (gK trivial mZ))
 . let(f,hf,e):=abz.mp hp;rw[<-e];let(o1,o2):=ok.fn f hf;let(t,ht,e2):=abz.mp hf;show gK trivial (gK ?_ (gK (λp hp=>?_) (gK (Rows.pz f.rows 146 o1 ()) mZ)))
   . rw[<-e2];trivial
   . rw[<-e2]at hp;let(x,_,e3):=abz.mp hp;rw[<-e3];show gK trivial (gK trivial mZ)
def afe{m:c7}:Pz (n+6) m.pv:=gK trivial (gK trivial (gK (λp hp=>by let(e,_,h):=abz.mp hp;rw[<-h];show gK trivial (gK trivial (gK trivial mZ))) mZ))
def U5{ms:List c7}:Pz 150 (.lst (ms.map c7.pv)):=λp hp=>by let(m,_,h):=abz.mp hp;rw[<-h];show afe
def De{E E1 E2:Ev}(h1:f E=!(l,E1))(hl:l.pv=p)(h2:g E1=!(m,E2))(hm:m.pv=p)(hp:Pz 150 p):tT (aq lK f g) aQ E=!(false,E2):=dY (cN h1 hl h2 hm (by show (jk 150 p p).map _=_;rw[hp.eq];rfl)) rfl rfl
section
variable {D:List (Str×Int)}{gs:List PV}{B:Bs}{fs:List Fn}{rs:Rows}{bu:Nat}{X:MS}
def Ry(H:Pr D gs B fs rs bu X)(mu:Mu):∃mu' n M,nC [(lr D gs fs rs).pv,.lst (dg B),.int (bu:Nat)] mu=!(.sh (.ptr n),mu')/\mu'[n]?=!(!(.lst M))/\M.length=X.ms.length/\mu.length<=n/\n<mu'.length/\(∀c,c<mu.length->mu'[c]?=mu[c]?)/\(∀m:Mu,(∀c,mu.length<=c->c<mu'.length->m[c]?=mu'[c]?)->aU m 40 (.ptr n)=.lst (X.ms.map c7.pv))/\∀(m:Mu)(x:Int),(∀c,mu.length<=c->c<mu'.length->c≠n->m[c]?=mu'[c]?)->m[n]?=!(!(.lst (M++[.int x])))->aU m 40 (.ptr n)=.lst (X.ms.map c7.pv++[.int x]):=by
 let(mu',n,M,h1,h2,h3,h4,h5):=Yw (mu:=mu) H;have hn:=fU h2;have fr:∀m:Mu,(∀c,mu.length<=c->c<mu'.length->c≠n->m[c]?=mu'[c]?)->M.map (aU m 38)=X.ms.map c7.pv:=λm hm=>(MO.frame (λc c1 c2=>hm c () c2 ()) h3).res (k:=33);have hl:M.length=X.ms.length:=by
  have:=congrArg List.length (fr mu' λ_ _ _ _=>rfl)
  rwa [aaW,aaW]at this
 show#[mu',n,M,h1,h2,hl,h4,hn,h5,λm hm=>?_,λm x hm hx=>?_]
 . rw[qt ((hm n h4 hn).trans h2)];show PV.lst (M.map (aU m 38))=_;rw[fr m λc c1 c2 _=>hm c c1 c2]
 . rw[qt hx];show PV.lst ((M++[PV.int x]).map (aU m 38))=_;rw[ady,fr m hm];rfl
def Rz(H:Pr D gs B fs rs bu X)(mu:Mu):∃mu' q v ps,v7 [(lr D gs fs rs).pv,.lst (dg B),.int (bu:Nat)] mu=!(.sh (.tup [.str X.wd,.ptr q,.ptr v]),mu')/\mu.length<=q/\q<v/\v<mu'.length/\mu'[v]?=!(!(.lst ps))/\ps.length=X.B.length/\(∀c,c<mu.length->mu'[c]?=mu[c]?)/\∀m:Mu,(∀c,mu.length<=c->c<mu'.length->m[c]?=mu'[c]?)->aU m 40 (.tup [.str X.wd,.ptr q,.ptr v])=jE X:=by
 let(mu',q,v,ps,h1,h2,h3,h4,h5,h6,h7,h8):=ae1 H;have hl:ps.length=X.B.length:=by
  have:=congrArg List.length (h7 mu' (λ_ _ _ _=>rfl) 0)
  lia
 show#[mu',q,v,ps,h1,h2,h3,h4,h6,hl,h8,λm hm=>?_];show PV.tup [.str X.wd,aU m 39 (.ptr q),aU m 39 (.ptr v)]=_;rw[qt ((hm q h2 ()).trans h5),qt ((hm v () h4).trans h6)];show PV.tup [.str X.wd,.lst ((fJ X.ms).map (aU m 37)),.lst (ps.map (aU m 37))]=_;rw[Hz,h7 m (λc c1 c2 _=>hm c c2 c1) 36]
end
def Lh{lo hi:OF}(h1:f Y=!(l,Y1))(hl:l.pv=.lst ps)(h2:lo Y1=!(a,Y2))(h3:hi Y2=!(b,Y3)):ux f lo hi Y=!(.own (.lst (pJ ps a b)),Y3):=by unfold ux;lia
def ac7(hf:f Y=!(.sh (.bl true),Y1))(hg:g Y1=!(l,Y2)):m6 f g Y=!(l,Y2):=by unfold m6;rw[hf,aaS];show hg
def aaQ:pJ (ps++[x]) none (!(-1))=ps:=by
 unfold pJ;have e1:HT.sIx (ps++[x]).length 0 none=0:=rfl;have e2:HT.sIx (ps++[x]).length (ps++[x]).length (!(-1))=ps.length:=by show (if (-1:Int)<0 then ((-1)+((ps++[x]).length:Int)).toNat else min (-1:Int).toNat (ps++[x]).length)=ps.length;rw[aic (),aaU];show ((-1)+((ps.length+1:Nat):Int)).toNat=_;lia
 rw[e1,e2];show (ps++[x]).take (ps.length-0)=ps;rw[Nat.sub_zero,List.take_left]
def U6_:pJ (a++b) none (!(a.length:Nat))=a:=by rw[af4 () ∅,ahu,List.take_left]
theorem RB:∀{a b:List c7},fJ (a++b)=fJ a++fJ b
 |[],b=>rfl
 |m::a,b=>by show m.2.2.map (mX m.1)++fJ (a++b)=(m.2.2.map (mX m.1)++fJ a)++fJ b;rw[RB,aba]
theorem RC:∀{a b:List PV},jn a=true->jn b=true->jn (a++b)=true
 |[],b=>λ_ h=>h
 |p::a,b=>λh g=>by simp only[jn,ahz]at h;show (di p&&jn (a++b))=true;rw[h.1,RC h.2 g];rfl
theorem M7:∀ms:List c7,jn (fJ ms)=true
 |[]=>rfl
 | m::ms=>RC (by
  have:∀es:List gO,jn (es.map (mX m.1))=true:=λes=>by
   induction es with
   |nil=>rfl
   |cons e es ih=>show ih
  show this _) (M7 ms)
def vz(h:f Y.peekD=!(b,Y1)):lL f Y=!(b,Y):=by unfold lL;rw[h];rfl
def afg{E E1 E2:Ev}(h1:f E=!(l,E1))(hl:l.pv=p)(h2:g E1=!(m,E2))(hm:m.pv=p)(hp:Pz 150 p):aq eqP f g E=!(.sh (.bl true),E2):=cN h1 hl h2 hm (by show (jk 150 p p).map _=_;rw[hp.eq];rfl)
abbrev LV(S:PV)(l1 l2 l3 l4 l5 l6 l7 l8 l9 l10:Option Lc)(mu:Mu):Ev:=#[[zS S,l1,l2,l3,l4,l5,l6,l7,l8,l9,l10],mu]
abbrev sv(p:PV):Option Lc:=zS p
section
variable {S:PV}{cl:Int->Int}
def aaR(hb:bu<=20):BG (ju (BX cl) (gY cl) (rsX cl) bu).B:=by have H:=(CQ).pr (gs:=Gz cl) JT Wm hb;have:=H.fn;have nb:=uY (cl:=cl);show#[CQ.mi.ok,by rw[this];show Ob,?_];have:=congrArg List.length this;rw[aaW,aaW]at this;rw[this];unfold BX;lia
def agN(hb:bu<=20):(ju (BX cl) (gY cl) (rsX cl) bu).ms.length<=6000:=by have h1:=Q7 (CQ (cl:=cl)).gw (n:=vQ (pY (dO (gY cl) (rsX cl))) (cD (mY (gY cl) (rsX cl))+2) (vq (BX cl) (gY cl) (rsX cl) bu)) (s:=vq (BX cl) (gY cl) (rsX cl) bu);have h2:=(CQ (cl:=cl)).pot0 hb;have h3:(vq (BX cl) (gY cl) (rsX cl) bu).ms.length=0:=rfl;unfold ju;lia
def af6(bu:Nat):∃l,(ju (BX cl) (gY cl) (rsX cl) (bu+1)).ms=(ju (BX cl) (gY cl) (rsX cl) bu).ms++l/\((l=[]/\jE (ju (BX cl) (gY cl) (rsX cl) (bu+1))=jE (ju (BX cl) (gY cl) (rsX cl) bu)/\(ju (BX cl) (gY cl) (rsX cl) bu).wd="done")\/(0<l.length/\(ju (BX cl) (gY cl) (rsX cl) bu).wd="spent"/\∃(k:Int)(ms:List c7),(ju (BX cl) (gY cl) (rsX cl) bu).ms=ms++[(k,0,[])])):=by
 obtain⟨h1,h2⟩|⟨h1,k,ms,m,l,h2,h3⟩:=(CQ (cl:=cl)).up (bu:=bu)
 . show#[[],by rw[h1,abv],.inl #[rfl,by rw[h1],?_]];show (if (ju (BX cl) (gY cl) (rsX cl) bu).sp then _ else _)=_;rw[h2];rfl
 . show#[m::l,h3,.inr #[Nat.succ_pos _,?_,k,ms,h2]];show (if (ju (BX cl) (gY cl) (rsX cl) bu).sp then _ else _)=_;rw[h1];rfl
def afh(c:CL S cl)(hS:Pz 10 S):∃mu,NP [S] []=!(.sh (.bl true),mu):=by
 obtain⟨bu,hbu⟩:∃bu:Nat,cl 5%20=(bu:Int):=#[(cl 5%20).toNat,(lU ()).1.symm];have b19:bu<=19:=by have:=agh (cl 5) (b:=20) ();lia
 let P:=PX cl;let B:=BX cl;let V:PV:=.lst (dg B);let X1:=ju B (gY cl) (rsX cl) bu;let X2:=ju B (gY cl) (rsX cl) (bu+1);have H1:Pr (DX cl) (Gz cl) B ((gY cl).map TF.fn) (rsX cl) bu X1:=CQ.pr JT Wm ();have H2:Pr (DX cl) (Gz cl) B ((gY cl).map TF.fn) (rsX cl) (bu+1) X2:=CQ.pr JT Wm ();have zP:Pz 150 P:=af5 Wm λg hg=>by rw[agk.mp hg];show gK trivial (gK trivial (gK trivial mZ))
 have n1':=Rb H1 (aaR ());have n2':=Rb H2 (aaR ());have zV:Pz 150 V:=(Ra H1.g).pz.up ();let(l,hl,hcase):=af6 bu;have hl:=hl;let(mu0,e1):=JV c [];let U_:=iv (bu:Nat)
 let(mu1,n1,M1,t1,t2,t3,t4,t5,t6,t7,t8):=Ry H1 mu0;let(mu2,n2,M2,u1,u2,u3,u4,u5,u6,u7,_):=Ry H2 mu1;let(mu3,q3,v3,ps3,a1,a2,a3,a4,a5,a6,a7,a8):=Rz H1 mu2;let(mu4,q4,v4,ps4,b1,b2,b3,b4,b5,b6,b7,b8):=Rz H2 mu3;let G1:PV:=.tup [.str X1.wd,.ptr q3,.ptr v3];let G2:PV:=.tup [.str X2.wd,.ptr q4,.ptr v4];let K:=λ(m:Mu)=>∀c,c<mu4.length->m[c]?=mu4[c]?;have le1:=agf u4 (ahx u5);have le2:mu2.length<=mu3.length:=()
 have le3:mu3.length<=mu4.length:=()
 have f3:∀m,K m->∀c,c<mu3.length->m[c]?=mu3[c]?:=λm h d hd=>(h d ()).trans (b7 d hd);have f2:=λm h d hd=>(f3 m h d ()).trans (a7 d hd);have f1:=λm h d hd=>(f2 m h d ()).trans (u6 d hd);let L1:=X1.ms.map c7.pv;let L2:=X2.ms.map c7.pv;have r1:=λm h=>t7 m λd _ hd=>f1 m h d hd;have r2:=λm h=>u7 m λd _ hd=>f2 m h d hd;have r3:=λm h=>a8 m λd _ hd=>f3 m h d hd;have r4:∀m,K m->aU m 40 G2=jE X2:=λm h=>b8 m λd _ hd=>h d hd;have pk:∀(m:Mu) (l8 l9 l10:Option Lc),K m->(LV S (sv P) (sv V) U_ (sv (.ptr n1)) (sv (.ptr n2)) (sv G1) (sv G2) l8 l9 l10 m).peekD=LV S (sv P) (sv V) U_ (sv (.lst L1)) (sv (.lst L2)) (sv (jE X1)) (sv (jE X2)) (PL.peekD m l8) (PL.peekD m l9) (PL.peekD m l10) (m.map λ_=>none):=λm l8 l9 l10 h=>by show LV (aU m 40 S) (sv (aU m 40 P)) (sv (aU m 40 V)) U_ (sv (aU m 40 (.ptr n1))) (sv (aU m 40 (.ptr n2))) (sv (aU m 40 G1)) (sv (aU m 40 G2)) _ _ _ _=_;rw[hS.res,zP.res,zV.res,r1 m h,r2 m h,r3 m h,r4 m h]
 have K4:K mu4:=λ_ _=>rfl;let E4:=λl8 l9 l10 m=>LV S (sv P) (sv V) U_ (sv (.ptr n1)) (sv (.ptr n2)) (sv G1) (sv G2) l8 l9 l10 m;have eL:L2=L1++l.map c7.pv:=by show X2.ms.map c7.pv=_;rw[hl,ady]
 have s7:(bY vay (bV (eC (.bl false))) cu) (E4 none none none mu4)=!(.nx (E4 none none none mu4)):=by show yY (vz (Y1:=LV S (sv P) (sv V) U_ (sv (.lst L1)) (sv (.lst L2)) (sv (jE X1)) (sv (jE X2)) none none none (mu4.map λ_=>none)) ?_) rfl;rw[pk mu4 none none none K4];show CZ rfl (CZ rfl (De (p:=.lst L1) rfl rfl (Lh rfl rfl rfl (uO rfl rfl)) ?_ U5));show PV.lst (pJ L2 none (!(L1.length:Nat)))=_;rw[eL,U6_]
 have tg:lL vgh (E4 (sv (.str "done")) none none mu4)=!(decide ((L1.length:Int)<(L2.length:Int)),E4 (sv (.str "done")) none none mu4):=by show vz (Y1:=(E4 (sv (.str "done")) none none mu4).peekD) ?_;rw[pk mu4 _ none none K4];rfl
 have s9:(bY vfr (aG (aO 8 (akh "spent")) (bY vai (bV (eC (.bl false))) cu)) cu) (E4 (sv (.str "done")) none none mu4)=!(.nx (E4 (sv (.str X1.wd)) none none mu4)):=by
  obtain⟨c1,c2,c3⟩|⟨c1,c3,k,ms,c4⟩:=hcase
  . have c3:= c3;rw[c3];show yY (tg.trans (by rw[eL,c1,ahA,abv,aif (Int.lt_irrefl _)])) rfl
  . have c3:X1.wd="spent":=c3;have c4:X1.ms=ms++[(k,0,[])]:=c4;rw[c3];have hlt:(L1.length:Int)<(L2.length:Int):=by
     have:L2.length=L1.length+l.length:=by rw[eL,aaU,aaW (as:=l)]
     lia
    show yT (tg.trans (by rw[aig hlt])) (aB (Y':=E4 (sv (.str "spent")) none none mu4) rfl (yY (vz (Y1:=(E4 (sv (.str "spent")) none none mu4).peekD) ?_) rfl));rw[pk mu4 _ none none K4];let A:=LV S (sv P) (sv V) U_ (sv (.lst L1)) (sv (.lst L2)) (sv (jE X1)) (sv (jE X2)) (PL.peekD mu4 (sv (.str "spent"))) (PL.peekD mu4 none) (PL.peekD mu4 none) (mu4.map λ_=>none);have eM:L1=ms.map c7.pv++[.tup [.int k,.int 0,.lst []]]:=by show X1.ms.map c7.pv=_;rw[c4,ady];rfl
    have la:aM (aa 4) (gJ (akg 1)) A=!(.sh (.tup [.int k,.int 0,.lst []]),A):=by show oK (p:=.lst L1) (q:=.int (-1)) (l:=.sh (.lst L1)) (m:=.sh (.int (-1))) (Y1:=A) rfl rfl rfl rfl (λn q=>by cases q) ?_;show (gA L1 (-1)).map Lc.sh=_;rw[eM,xU];rfl
    have ix:∀(i:Int) (r:PV),Gn (.tup [.int k,.int 0,.lst []]) (.int i)=zS r->aM vim (akg i) A=!(.sh r,A):=λi r h=>oK (p:=.tup [.int k,.int 0,.lst []]) (q:=.int i) la rfl rfl rfl (λn q=>by cases q) h;have h0:tT (aq eqP (bO (aa 4)) (akg 0)) aQ A=!(false,A):=(Rx (a:=(L1.length:Nat)) rfl).trans (by rw[aif (by rw[eM,aaU];show ¬ ((_+1:Nat):Int)=0;lia)]);show CZ h0 (CZ (De (p:=.int 0) (ix 1 (.int 0) rfl) rfl rfl rfl trivial) (De (p:=.lst []) (ix 2 (.lst []) rfl) rfl rfl rfl mZ))
 let W:=sv (.str X1.wd);let R:=fJ X1.ms;let(psc,tt,g1,g2):=Wo c mu4;let(ps5,mu5,w1,w2,w3,w4):=Wd (gs:=Gz cl) (fs:=(gY cl).map TF.fn) (rs:=rsX cl) (ms:=X1.ms) Ob JT (by have:=uY (cl:=cl);unfold BX;rw[aaW,agX];lia) g2 CQ.plc;have len5:mu5.length=(mu4++tt).length:=w3;have le5:mu4.length<=mu5.length:=by rw[len5,aaU];lia
 have K5:K mu5:=λd hd=>(w4 d (.inl hd)).trans (Bf hd);let DU:PV:=.tup [.str X1.wd,.lst R,.lst ps5];have rd:∀m:Mu,(∀d,mu4.length<=d->d<mu5.length->m[d]?=mu5[d]?)->aU m 40 DU=jE X1:=λm h=>by show PV.tup [.str X1.wd,.lst (R.map (aU m 38)),.lst (ps5.map (aU m 38))]=_;rw[show R.map (aU m 38)=R from Hz (k:=36),(w2.frame (mu':=m) λd d1 d2=>h d d1 ()).res (k:=37)];show PV.tup [_,_,.lst (dg (Law.rep B (jO X1.ms)))]=_;rw[<-(CQ (cl:=cl)).rep (bu:=bu)]
 have E5p:=pk mu5 W (gn R) (sv DU) K5;have s12:(bY vax (bV (eC (.bl false))) cu) (E4 W (gn R) (sv DU) mu5)=!(.nx (E4 W (gn R) (sv DU) mu5)):=by
  show yY (CZ (b:=false) (Y1:=E4 W (gn R) (sv DU) mu5) (zX (b:=true) (dY (l:=.sh (.bl true)) (Hg (ls:=[.sh G1,.sh DU]) (ps:=[jE X1,jE X1]) (Y1:=E4 W (gn R) (sv DU) mu5) rfl (by show [aU mu5 40 G1,aU mu5 40 DU]=_;rw[r3 mu5 K5,rd mu5 λ_ _ _=>rfl]) (wj n1' _) rfl) rfl rfl)) ?_) rfl;obtain⟨c1,c2,c3⟩|⟨c1,c3,_⟩:=hcase
  . have c3:X1.wd="done":=c3;have c2:jE X2=jE X1:=c2;show jg ((kY (f:=aa 8) (Y:=E4 W (gn R) (sv DU) mu5) (Y1:=E4 W (gn R) (sv DU) mu5) rfl).trans (by rw[c3];rfl)) (vz (Y1:=(E4 W (gn R) (sv DU) mu5).peekD) ?_);rw[E5p];show De (p:=jE X1) (l:=.sh (jE X2)) rfl c2 rfl rfl (n1'.pz.up ())
  . have c3:X1.wd="spent":=c3;show nY ((kY (f:=aa 8) (Y:=E4 W (gn R) (sv DU) mu5) (Y1:=E4 W (gn R) (sv DU) mu5) rfl).trans (by rw[c3];rfl))
 have s13:(bY vae (bV (eC (.bl false))) cu) (E4 W (gn R) (sv DU) mu5)=!(.nx (E4 W (gn R) (sv DU) mu5)):=by
  let(mup,ep):=JV c (mu5.map λ_=>none);let A:=λm=>LV S (sv P) (sv V) U_ (sv (.lst L1)) (sv (.lst L2)) (sv (jE X1)) (sv (jE X2)) (PL.peekD mu5 W) (gn R) (PL.peekD mu5 (sv DU)) m;have rR:PL.peekD mu5 (gn R)=gn R:=by show some (Lc.sh (.lst (R.map (aU mu5 39))))=_;rw[show R.map (aU mu5 39)=R from Hz (k:=37)]
  show yY (vz (Y1:=A mup) ?_) rfl;rw[E5p,rR];have eR:fJ X2.ms=R++fJ l:=by rw[hl,RB]
  have zR:Pz 150 (.lst R):=λp hp=>(En hp).pz.up ();show CZ (Y1:=A (mu5.map λ_=>none)) (De (p:=.lst R) (l:=.own (.lst (pJ (fJ X2.ms) none (!(R.length:Nat))))) (E1:=A (mu5.map λ_=>none)) (Lh (l:=.sh (.lst (fJ X2.ms))) (Y1:=A (mu5.map λ_=>none)) (Y2:=A (mu5.map λ_=>none)) rfl rfl rfl (uO (l:=.sh (.int (R.length:Nat))) rfl rfl)) (by show PV.lst (pJ (fJ X2.ms) none (!(R.length:Nat)))=_;rw[eR,U6_]) rfl rfl zR) (CZ (Y1:=A mup) (De (p:=P) (l:=.sh P) (E1:=A (mu5.map λ_=>none)) rfl rfl (aY (ls:=[.sh S]) (Y1:=A (mu5.map λ_=>none)) rfl rfl rfl rfl ep) rfl zP) (De (p:=V) (l:=.sh V) (E1:=A mup) rfl rfl (aY (ls:=[.sh S,.sh P]) (Y1:=A mup) rfl rfl rfl rfl (M6 c mup)) rfl zV))
 let mu6:=mu5.set v3 (!(.lst (ps3++[.ptr q3])));let mu7:=mu6.set n1 (!(.lst (M1++[.int 3])));have l3:ps3.length<=100:=by rw[a6];show(aaR ()).l8
 have nz:M1.length<100000:=by have:=agN (cl:=cl) (bu:=bu) ();have t3:M1.length=X1.ms.length:=t3;have:X1.ms.length<=6000:=this;lia
 have h53:mu5[v3]?=!(!(.lst ps3)):=(f3 mu5 K5 v3 a4).trans a5;have h61:mu6[n1]?=!(!(.lst M1)):=by show (mu5.set v3 _)[n1]?=_;rw[get_set ()];show(f1 mu5 K5 n1 t5).trans t2
 have len7:mu7.length=mu5.length:=by show ((mu5.set v3 _).set n1 _).length=_;rw[agd,agd]
 have k7:∀d,d≠v3->d≠n1->mu7[d]?=mu5[d]?:=λd h1 h2=>by show ((mu5.set v3 _).set n1 _)[d]?=_;rw[get_set h2,get_set h1]
 let(mu8,q8,v8,ps8,d1,d2,d3,d4,d5,d6,d7,d8):=Rz H1 mu7;let G8:PV:=.tup [.str X1.wd,.ptr q8,.ptr v8]
 have r8:aU mu8 40 (.ptr n1)=.lst (L1++[.int 3]):=t8 mu8 3 (λd e1 e2 e3=>((d7 d ()).trans (k7 d () e3)).trans (f1 mu5 K5 d e2)) ((d7 n1 ()).trans (aeI (by rw[agd];lia)));have s17:sZ vbs (E4 W (gn R) (sv DU) mu8)=!(.sh (.bl true),E4 W (gn R) (sv DU) mu8):=by
  let mz:Mu:=mu8.map λ_=>none;let(mu9,n9,M9,z1,_,_,_,_,_,z7,_):=Ry H1 mz;let A:=λl5 l6 l7 l8 l9 l10 m=>LV S (sv P) (sv V) U_ (sv (.lst (L1++[.int 3]))) l5 l6 l7 l8 l9 l10 m;have ea:∃l5 l6 l7 l8 l9 l10,(E4 W (gn R) (sv DU) mu8).peekD=A l5 l6 l7 l8 l9 l10 mz:=#[_,_,_,_,_,_,by
   show LV (aU mu8 40 S) (sv (aU mu8 40 P)) (sv (aU mu8 40 V)) U_ (sv (aU mu8 40 (.ptr n1))) _ _ _ _ _ _ _=_;rw[hS.res,zP.res,zV.res,r8]]
  let(l5,l6,l7,l8,l9,l10,ea):=ea;show Hd (Y1:=A l5 l6 l7 l8 l9 l10 (mu9.map λ_=>none)) ?_ rfl;rw[ea];show afg (p:=.lst L1) (l:=.sh (.lst L1)) (m:=.own (.lst (pJ (L1++[.int 3]) none (!(-1))))) (Qj (l:=.sh (.ptr n9)) (Y1:=A l5 l6 l7 l8 l9 l10 mu9) (aY (ls:=[.sh P,.sh V,.sh (.int (bu:Nat))]) (Y1:=A l5 l6 l7 l8 l9 l10 mz) rfl rfl rfl rfl z1) (z7 mu9 λ_ _ _=>rfl)) rfl (Lh (l:=.sh (.lst (L1++[.int 3]))) (Y1:=A l5 l6 l7 l8 l9 l10 (mu9.map λ_=>none)) (Y2:=A l5 l6 l7 l8 l9 l10 (mu9.map λ_=>none)) rfl rfl rfl (uO (l:=.sh (.int (-1))) rfl rfl)) (congrArg PV.lst aaQ) U5
 apply Exists.intro;apply bh;show aB (bL (aY rfl rfl rfl rfl e1) rfl rfl) ?_;show aB (Y':=LV S (sv P) (!(.own V)) none none none none none none none none mu0) (bL (aY rfl rfl rfl rfl (M6 c mu0)) rfl rfl) ?_;show aB (bL (fV (aY rfl rfl rfl rfl (c.eq 5 () () mu0)) ()) rfl rfl) ?_;rw[hbu];show aB (Y':=LV S (sv P) (sv V) U_ (sv (.ptr n1)) none none none none none none mu1) (bL (aY rfl rfl rfl rfl t1) rfl rfl) ?_;show aB (Y':=LV S (sv P) (sv V) U_ (sv (.ptr n1)) (sv (.ptr n2)) none none none none none mu2) (bL (aY rfl rfl rfl rfl u1) rfl rfl) ?_;show aB (Y':=LV S (sv P) (sv V) U_ (sv (.ptr n1)) (sv (.ptr n2)) (sv G1) none none none none mu3) (bL (aY rfl rfl rfl rfl a1) rfl rfl) ?_;show aB (Y':=E4 none none none mu4) (bL (aY rfl rfl rfl rfl b1) rfl rfl) ?_;show aB s7 ?_;show aB (Y':=E4 (sv (.str "done")) none none mu4) rfl ?_;show aB s9 ?_;show aB (Y':=E4 W (ol R) none mu4) (bL (Hg rfl (by show [aU mu4 40 (.ptr n1)]=_;rw[r1 mu4 K4]) (YB (ms:=X1.ms) (by have:=H1.nev;lia)) (M7 _)) rfl rfl) ?_;show aB (Y':=E4 W (gn R) (sv DU) mu5) (bL (fQ (aC rfl (aC rfl (aC (aY (aC rfl (aC (aY rfl rfl rfl rfl g1) rfl)) rfl rfl rfl w1) rfl))) rfl rfl) rfl rfl) ?_;show aB s12 ?_;show aB s13 ?_;show aB (lE (ws:=ps3) rfl rfl h53 rfl rfl h53 () rfl) ?_;show aB (lE rfl rfl h61 rfl rfl h61 nz rfl) ?_;show bZ (ac7 (Hg (Y1:=E4 W (gn R) (sv DU) mu8) (aC (aY rfl rfl rfl rfl d1) rfl) (by show [aU mu8 40 G8,aU mu8 40 DU]=_;rw[d8 mu8 λ_ _ _=>rfl,rd mu8 λd d1 d2=>(d7 d ()).trans (k7 d () ())]) (wj n1' _) rfl) s17)
end
def law_true(ns:List Int)(hn:ns.length<=63):∃mu,NP [.lst (ns.map PV.int)] []=!(.sh (.bl true),mu):=by
 let(cl,c):=afY hn;show afh c λp hp=>by let(i,_,e):=abz.mp hp;rw[<-e];trivial
end
section
variable (K:FG)(x qq:Str)(st:Stmt)(f c:Addr)
abbrev FnX:Prop:=∃(oc kV dc pm cd ct:Value)(od an:Option Addr)(sl:Array (Option Value)),K.lookup f=!#[oc,od,.func (W.fnOf x qq (ul st) (lw st) (aK st) .none kV dc pm an cd ct),sl]/\W.codeIn K cd qq=true/\W.keepIn K (.ref f)=true
abbrev FD:Prop:=∃f,W.nsIn K mainGlobals x=!(!(.ref f))/\FnX K x x st f
abbrev FM:Prop:=∃f,W.findIn K (.ref c) x=!(!(.ref f))/\W.isFn K (.ref f)=true/\FnX K x qq st f
abbrev KC:Prop:=W.nsIn K mainGlobals x=!(!(.ref c))/\W.plainGet K c Str.empty=true/\W.hasDictIn K c=true/\W.plainOver K c=true/\W.findIn K (.ref c) "__setattr__"=!(!(.builtin "object.__setattr__"))/\W.makesIn K c=true/\W.keepIn K (.ref c)=true
abbrev HB(ps:List Str):Prop:=∀(kV doc pm:Value)(an:Option Addr)(cdv ct:Value)(us:List Value),us.length=ps.length->bindArgs (W.fnOf x qq (ul st) (lw st) (aK st) .none kV doc pm an cdv ct) #[us,[]]=pure (ps.zip us)
end
section
variable {K:FG}{h:Heap}{mg:Str->Option Value}{x qq:Str}{st:Stmt}{c:Addr}{ps:List Str}
def j7(X:K.In h)(G:h.Ns mainGlobals mg)(d:FD K x st)(hb:HB x x st ps):dH K mg x st ps:=by let(f,a,_,_,_,_,_,_,_,_,_,l,e,k):=d;show#[_,_,Dp l e k,W.mg_of X G a,(Dp l e k).binds hb]
def uh(d:FM K x qq st c)(hb:HB x qq st ps):qN K c x qq st ps:=by let(f,a,i,_,_,_,_,_,_,_,_,_,l,e,k):=d;show#[_,_,Dp l e k,a,i,(Dp l e k).binds hb]
def mkT(X:K.In h)(G:h.Ns mainGlobals mg)(d:KC K x c):yR K mg x c:=#[d.1,#[d.2.1,d.2.2.1,d.2.2.2.1,d.2.2.2.2.1],W.mg_of X G d.1]
def GC(n:W.findIn K (.ref c) x=!none)(t:∀f∈l,mD K c f):∀f∈x::l,mD K c f:=by
 intro g hg;obtain e|hg:=abw.mp hg
 . rw[e];show n
 . show t g hg
def nan:∀f∈([]:List Str),mD K c f:=λ_ h=>nomatch h
def bc(X:K.In h)(G:h.Ns mainGlobals mg)(n:W.nsIn K mainGlobals x=!none)(t:S9 mg l):S9 mg (x::l):=by
 intro g hg;obtain e|hg:=abw.mp hg
 . rw[e];show W.mg_none_of X G n
 . show t g hg
def bn:S9 mg []:=λ_ h=>nomatch h
end
local macro_rules | `(tactic| walk_at "b")=>`(tactic| (intro _ _ _ _ _ _ us hl; first | (obtain⟨_,e⟩:=Gk hl; subst e; rfl) | (obtain⟨_,_,e⟩:=ln2 hl; subst e; rfl) | (obtain⟨_,_,_,e⟩:=ln3 hl; subst e; rfl) | (obtain⟨_,_,_,_,e⟩:=ln4 hl; subst e; rfl) | (obtain⟨_,_,_,_,_,e⟩:=ln5 hl; subst e; rfl)))
def all_mk{l:W.OpenLaw}{K:FG}(X:K.In h)(G:h.Ns mainGlobals mg)(hfa:mg "law"=!(.ref fa))
 (akd:∃c,KC K "Plan" c/\(W.findIn K (.ref c) "told"=!none/\W.findIn K (.ref c) "lists"=!none/\W.findIn K (.ref c) "heads"=!none)/\FM K "__init__" "Plan.__init__" nj c/\FM K "params" "Plan.params" uD c/\FM K "row" "Plan.row" zf c/\FM K "body" "Plan.body" xm c/\FM K "block" "Plan.block" vJ c)
 (aj6:∃c,KC K "Running" c/\(W.findIn K (.ref c) "plan"=!none/\W.findIn K (.ref c) "boxes"=!none/\W.findIn K (.ref c) "own"=!none/\W.findIn K (.ref c) "budget"=!none/\W.findIn K (.ref c) "word"=!none/\W.findIn K (.ref c) "moments"=!none/\W.findIn K (.ref c) "due"=!none)/\FM K "__init__" "Running.__init__" oE c/\FM K "lay" "Running.lay" qe c/\FM K "lay_body" "Running.lay_body" oF c/\FM K "step" "Running.step" tB c/\FM K "note" "Running.note" tD c/\FM K "value" "Running.value" rK c/\FM K "give" "Running.give" tE c/\FM K "spend" "Running.spend" rM c/\FM K "begin" "Running.begin" rN c/\FM K "look" "Running.look" tG c/\FM K "put" "Running.put" uE c/\FM K "call" "Running.call" oM c/\FM K "come_back" "Running.come_back" nq c)
 (ajS:FD K "blocks_of" yS)
 (aj8:FD K "copied" Ca)
 (ajN:FD K "all_copied" pN)
 (aj1:FD K "laid_out" vZ)
 (aj2:FD K "numbered" Cd)
 (aj3:FD K "value_of" v5)
 (ajT:FD K "number_at" yU)
 (aj4:FD K "reckoned" Ce)
 (ajI:FD K "can_be_held" vG)
 (akb:FD K "suits" Fo)
 (ajB:FD K "refuse_input" uA)
 (aj9:FD K "filled" Hj)
 (aj7:FD K "emptied" yq)
 (ajC:FD K "gone_through" uB)
 (ajU:FD K "record_of" uT)
 (ake:FD K "run" VF)
 (aka:FD K "traced" Hk)
 (ajV:FD K "_law_cell" yV)
 (ajJ:FD K "_law_number" vH)
 (ajO:FD K "_law_alike" pO)
 (ajW:FD K "_law_name" yW)
 (ajX:FD K "_law_leaf" yX)
 (ajn:FD K "_law_expression" qF)
 (aj5:FD K "_law_row" v6)
 (ajK:FD K "_law_opened" vI)
 (ajY:FD K "_law_shut" yZ)
 (ajZ:FD K "_law_rows" zc)
 (ajD:FD K "_law_program" jB)
 (aji:FD K "_law_values" qX)
 (ajL:FD K "_law_joined" qY)
 (ajE:FD K "_law_written" uC)
 (akf:FD K "law" Cg)
 (z0:W.nsIn K mainGlobals "ValueError"=!none)
 (z1:W.nsIn K mainGlobals "all"=!none)
 (z2:W.nsIn K mainGlobals "bool"=!none)
 (z3:W.nsIn K mainGlobals "dict"=!none)
 (z4:W.nsIn K mainGlobals "enumerate"=!none)
 (z5:W.nsIn K mainGlobals "int"=!none)
 (z6:W.nsIn K mainGlobals "isinstance"=!none)
 (z7:W.nsIn K mainGlobals "len"=!none)
 (z8:W.nsIn K mainGlobals "list"=!none)
 (z9:W.nsIn K mainGlobals "max"=!none)
 (z10:W.nsIn K mainGlobals "range"=!none)
 (z11:W.nsIn K mainGlobals "reversed"=!none)
 (z12:W.nsIn K mainGlobals "str"=!none)
 (z13:W.nsIn K mainGlobals "tuple"=!none)
 (z14:W.nsIn K mainGlobals "zip"=!none)
 (akc:∃t,W.nsIn K mainGlobals "LIMIT"=!(!(.int 1000000000000 t)))
 (HL:∀[HK] (ns:List Int),ns.length<=63->∃mu,NP [.lst (ns.map PV.int)] []=!(.sh (.bl true),mu))
 : ∃fd:FuncData,(∀(s:Shared)(v:Value),BindsTo s fd #[[v],[]] [("_law_script",v)])/\∀base:Heap,K.In base->base.Ns mainGlobals mg->rD l.prog w K mg base uf 88 fa fd ["_law_script"] (Nv K):=by
 letI:HK:=#[Io l.prog w]
 have hkx:HK.hk=Io l.prog w:=rfl;let(aiz,ajP,(n0,n1,n2),ajq,ajF,aj0,ajQ,ajM):=akd;have aip:=mkT X G ajP;have air:=GC n0 (GC n1 (GC n2 (nan)));let(aio,ajm,(n0,n1,n2,n3,n4,n5,n6),ajj,ajG,ajk,ajv,ajw,ajr,ajx,ajs,ajt,ajy,ajH,ajz,ajh):=aj6;have aim:=mkT X G ajm;have ain:=GC n0 (GC n1 (GC n2 (GC n3 (GC n4 (GC n5 (GC n6 (nan)))))));have B:S9 mg BL:=bc X G z0 (bc X G z1 (bc X G z2 (bc X G z3 (bc X G z4 (bc X G z5 (bc X G z6 (bc X G z7 (bc X G z8 (bc X G z9 (bc X G z10 (bc X G z11 (bc X G z12 (bc X G z13 (bc X G z14 (bn)))))))))))))));have aiq:∃t,mg "LIMIT"=!(.int 1000000000000 t):=akc.imp λ_ y=>W.mg_of X G y;let(_,a,_,kV,dc,pm,cd,ct,_,an,_,lk,ce,kp):=akf;have e:=hfa.symm.trans (W.mg_of X G a);cases e;show#[W.fnOf "law" "law" (ul Cg) (lw Cg) (aK Cg) .none kV dc pm an cd ct,λs v=>.of_eq rfl,λbase _ _=>?_];have aiI:=Qq (base:=base) B aiq aip air aim ain hkx (j7 X G ajS (by walk_at "b"));have ajR:=Jl (base:=base) B aiq aip air aim ain hkx (j7 X G aj8 (by walk_at "b")) (j7 X G ajN (by walk_at "b")) 40;have aiN:=ajR.1;have aiW:=ajR.2;have aiO:=Eg (base:=base) B aiq aip air aim ain hkx (j7 X G aj1 (by walk_at "b")) aiI aiN 40;have ajf:=RZ (base:=base) B aiq aip air aim ain hkx (j7 X G aj2 (by walk_at "b")) aiO;have aiJ:=Qs (base:=base) B aiq aip air aim ain hkx (j7 X G ajT (by walk_at "b"));have aiP:=R0 (base:=base) B aiq aip air aim ain hkx (j7 X G aj4 (by walk_at "b"));have aiG:=Eh (base:=base) B aiq aip air aim ain hkx (j7 X G aj3 (by walk_at "b")) aiJ aiP 40;have aiR:=Kh (base:=base) B aiq aip air aim ain hkx (j7 X G ajI (by walk_at "b"));have ajA:=aan (base:=base) B aiq aip air aim ain hkx (j7 X G akb (by walk_at "b")) aiR;have ai2:=Jm (base:=base) B aiq aip air aim ain hkx (j7 X G ajB (by walk_at "b")) ajA;have ajp:=X3 (base:=base) B aiq aip air aim ain hkx (j7 X G aj9 (by walk_at "b"));have ajl:=VL (base:=base) B aiq aip air aim ain hkx (j7 X G aj7 (by walk_at "b"));have aiT:=abd (Ga (base:=base) B aiq aip air aim ain hkx (uh ajq (by walk_at "b")) ajf) ajP.2.2.2.2.2.1 ajP.2.2.2.2.2.2;have ai9:=Nj (base:=base) B aiq aip air aim ain hkx (uh ajQ (by walk_at "b"));have aix:=Jo (base:=base) B aiq aip air aim ain hkx (uh ajG (by walk_at "b"));have aiy:=Cp (base:=base) B aiq aip air aim ain hkx (uh ajk (by walk_at "b")) ai9 aix;have aiM:=abd (Cq (base:=base) B aiq aip air aim ain hkx (uh ajj (by walk_at "b")) aiT aiy ajp) ajm.2.2.2.2.2.1 ajm.2.2.2.2.2.2;have aiE:=Kl (base:=base) B aiq aip air aim ain hkx (uh ajM (by walk_at "b"));have aiK:=Qt (base:=base) B aiq aip air aim ain hkx (uh aj0 (by walk_at "b"));have ai0:=Jp (base:=base) B aiq aip air aim ain hkx (uh ajF (by walk_at "b"));have ais:=Hn (base:=base) B aiq aip air aim ain hkx (uh ajw (by walk_at "b"));have aiA:=Gb (base:=base) B aiq aip air aim ain hkx (uh ajs (by walk_at "b"));have aiu:=Gd (base:=base) B aiq aip air aim ain hkx (uh ajr (by walk_at "b")) aiG;have aiX:=Ho (base:=base) B aiq aip air aim ain hkx (uh ajz (by walk_at "b")) ai0 aiy ais aiA aiu;have aiC:=Hq (base:=base) B aiq aip air aim ain hkx (uh ajx (by walk_at "b"));have aiY:=Hr (base:=base) B aiq aip air aim ain hkx (uh ajy (by walk_at "b")) aiE aix aiA aiu;have ai1:=Jq (base:=base) B aiq aip air aim ain hkx (uh ajH (by walk_at "b")) ais aiu;have aiU:=Ge (base:=base) B aiq aip air aim ain hkx (uh ajt (by walk_at "b")) aiE aiK aiX aiC aix aiY ais ai1 aiu;have aiH:=Ak (base:=base) B aiq aip air aim ain hkx (uh ajh (by walk_at "b")) aiK aiC ais;have aiZ:=Hs (base:=base) B aiq aip air aim ain hkx (uh ajv (by walk_at "b")) aiU aiH ais;have aiD:=Jr (base:=base) B aiq aip air aim ain hkx (j7 X G ajC (by walk_at "b")) aiM aiZ ai2;have ajc:=Qu (base:=base) B aiq aip air aim ain hkx (j7 X G ajU (by walk_at "b"));have aju:=aeA (base:=base) B aiq aip air aim ain hkx (j7 X G ake (by walk_at "b")) ajl aiD ajc;have ajb:=X4 (base:=base) B aiq aip air aim ain hkx (j7 X G aka (by walk_at "b")) aiD;have ait:=Qv (base:=base) B aiq aip air aim ain hkx (j7 X G ajV (by walk_at "b"));have aiw:=Km (base:=base) B aiq aip air aim ain hkx (j7 X G ajJ (by walk_at "b"));have aiF:=Am (base:=base) B aiq aip air aim ain hkx (j7 X G ajO (by walk_at "b")) 40;have aiL:=Qw (base:=base) B aiq aip air aim ain hkx (j7 X G ajW (by walk_at "b")) ait;have aiB:=Qx (base:=base) B aiq aip air aim ain hkx (j7 X G ajX (by walk_at "b")) aiw;have aiv:=Ei (base:=base) B aiq aip air aim ain hkx (j7 X G ajn (by walk_at "b")) aiB;have ajg:=R5 (base:=base) B aiq aip air aim ain hkx (j7 X G aj5 (by walk_at "b")) aiv aiB;have ai6:=Ko (base:=base) B aiq aip air aim ain hkx (j7 X G ajK (by walk_at "b")) aiv;have ai4:=Qy (base:=base) B aiq aip air aim ain hkx (j7 X G ajY (by walk_at "b"));have ai5:=Qz (base:=base) B aiq aip air aim ain hkx (j7 X G ajZ (by walk_at "b")) ait ai6 ajg ai4;have aiQ:=Js (base:=base) B aiq aip air aim ain hkx (j7 X G ajD (by walk_at "b")) ait aiL ai5;have aiS:=Kp (base:=base) B aiq aip air aim ain hkx (j7 X G aji (by walk_at "b")) ait aiw;have ai7:=Kq (base:=base) B aiq aip air aim ain hkx (j7 X G ajL (by walk_at "b"));have ai3:=Jt (base:=base) B aiq aip air aim ain hkx (j7 X G ajE (by walk_at "b"));have aiV:=Gf (base:=base) B aiq aip air aim ain hkx (j7 X G aji (by walk_at "b")) ait aiw;show aef (aeB (base:=base) B aiq aip air aim ain hkx (Dp (st:=Cg) lk ce kp) aiF ait ai7 aiQ aiS aiV ai3 aju ajb) HL
def walk{l:W.OpenLaw}{K:Params->FG}(hn:l.most=!63)(hdf:d.params.defaults=[])
 (hY_:∀(w:World)(h:Heap),YP w h->(K w.params).In h)
 (F:∀(w:World)(mg:Str->Option Value)(fa:Addr)(h:Heap),(K w.params).In h->h.Ns mainGlobals mg->mg d.name=!(.ref fa)->
   ∃fd:FuncData,(∀(s:Shared)(u:Value),BindsTo s fd #[[u],[]] [("_law_script",u)])/\∀base:Heap,(K w.params).In base->base.Ns mainGlobals mg->rD l.prog w (K w.params) mg base uf 88 fa fd ["_law_script"] (Nv (K w.params))):
 W.WalkO q loose XP YP l.row.toRowW d [] (λf vs=>PySem.call f vs):=
 L2.walk_of (x:="_law_script") hn () hdf #[λ_=>rfl,by decide,by decide,rfl] hY_ F (λ_ _ a ns hl _ hS=>#[a,ns,rfl,hS,hl,λ_=>rfl]) λ_ _ _ _ _ z=>z
end Law
end
namespace PySem.W.Fast
def tw11479987322361961597:=0
def tw3785490205817799153:=0
def tw2631384210482366694:=0
def tw5399929576364166156:=0
def tw12807153410283138519:=0
def tw2126771497137894480:=0
def tw1307209203302675801:=0
def tw15477230572952689586:=0
def tw2927445235294187323:=0
def tw16939927647017937738:=0
def tw10205365216321559770:=0
def tw3536286600634969882:=0
def tw15881133819483461155:=0
def tw14668248478435800169:=0
def tw16183591072151207600:=0
def tw12264407689091178390:=0
def tw15483520865360071156:=0
def tw9059162114120785079:=0
def tw2619437891095453365:=0
def tw7101044193419694626:=0
def tw13276724693126876591:=0
def tw9826604265495724936:=0
def tw16548520595677206906:=0
def tw11798087956175154683:=0
def tw5529340773001263799:=0
def tw4679959476199993125:=0
def tw1846485678277178433:=0
def tw16906867526107403519:=0
def tw15556941276543073389:=0
def tw15467306621171720024:=0
def tw3414153396844833276:=0
def tw16693971345880378155:=0
def tw15187926639142963491:=0
def tw1097763723446665127:=0
def tw13819544273239179819:=0
def tw15569332405562255316:=0
def tw13839919100939296463:=0
def tw5769388364024661294:=0
def tw16926992727483673218:=0
def tw5290870156202551859:=0
def tw6106160714491406384:=0
def tw3369367061403700772:=0
def tw10553661803789295087:=0
def tw7814101817339057455:=0
def tw18420495493085107745:=0
def tw4882559831845698571:=0
def tw9884497911986395718:=0
def tw2667349528766973651:=0
def tw6753542527495074656:=0
def tw1930008006742774640:=0
def tw3764489492941296456:=0
def tw10073616105956482595:=0
def tw14582394304876564156:=0
def tw11383314240140978205:=0
def tw146073724397723110:=0
def tw14911530296320648408:=0
def tw7933611049349457217:=0
def tw15991966684532010997:=0
def tw1231005948038093522:=0
def tw8575941876689929678:=0
def tw2311089135242669548:=0
def tw12864424989183064084:=0
def tw3668368826925785353:=0
def tw11416228935857175277:=0
def tw16178644988592027829:=0
def tw16441290234176301808:=0
def tw11126462526330597212:=0
def tw11620286317018615468:=0
def tw14218627416536245885:=0
def tw1832429951762549454:=0
def tw6855942497299699422:=0
def tw13587922094764788352:=0
def tw10081274508644470796:=0
def tw2197738602518504558:=0
def tw2839957773126728171:=0
def tw3172783910485602669:=0
def tw7142482813150589075:=0
def tw12123402225925922009:=0
def tw12597891734747050861:=0
def tw4813138558139802534:=0
def tw12209130603969419261:=0
def tw17273232586111567663:=0
def tw4824662377554943564:=0
def tw8143747769718960722:=0
def tw8265090003015835305:=0
def tw9629254215742740060:=0
def tw14145362903829450587:=0
def tw631708215237486165:=0
def tw15928874370143602730:=0
def tw16068069309728645636:=0
def tw5037916128407665704:=0
def tw8452516842992189101:=0
def tw5516341877441766946:=0
def tw1381663357112408128:=0
def tw13990974207495648865:=0
def tw11141087892240901009:=0
def tw12584017492030156683:=0
def tw12939533283919894344:=0
def tw3229602449257291830:=0
def tw2020260494292807771:=0
def tw15659797260167899611:=0
def tw4027120355052841723:=0
def tw1954637670106546362:=0
def tw8028736246303954156:=0
def tw1270822946376197572:=0
def tw12361052216247057372:=0
def tw1446947550952687121:=0
def tw16071181383207804858:=0
def tw8248776909696066364:=0
def tw16322736491414318377:=0
def tw16392420834254826197:=0
def tw14066603762776272626:=0
def tw369333613148428047:=0
def tw7155114516430667743:=0
def tw15511368252229449852:=0
def tw8421339226689367431:=0
def tw17323177261995700727:=0
def tw15647298331493748328:=0
def tw6441200182520556073:=0
def tw13105800745059968573:=0
def tw16820292647646243272:=0
def tw96752745415990178:=0
def tw1441149896434622405:=0
def tw10871203866134967021:=0
def tw16392686977364470929:=0
def tw16541235542411167153:=0
def tw10192030514689319947:=0
def tw6309762592138375834:=0
def tw2108179795818389088:=0
def tw14417451503263589541:=0
def tw16279885026305885432:=0
def tw9298355134550754425:=0
def tw3448221169061993145:=0
def tw5466718375829185201:=0
def tw1962611229618807388:=0
def tw3333267305523466709:=0
def tw16417034604849583761:=0
def tw4572886964466387458:=0
def tw9693955514205625125:=0
def tw4223305675378549261:=0
def tw10551281027155585879:=0
def tw2900915819760636465:=0
def tw5967254937023212744:=0
def tw10212373923766447099:=0
def tw6477377487961070627:=0
def tw2837480483065935951:=0
def tw2942132412863747804:=0
def tw12054508321726897496:=0
def tw16387664346156307478:=0
def tw12013829586321304593:=0
def tw502299725658887437:=0
def tw16915607044541748298:=0
def tw7528307316693475572:=0
def tw9317840733986035383:=0
def tw15883828150856249637:=0
def tw2757876690283679044:=0
def tw18145915691459066888:=0
def tw7989682136394544809:=0
def tw8735681931081207820:=0
def tw3966363653771408040:=0
def tw5120802319266315927:=0
def tw6936720633691917902:=0
def tw10999653952366226791:=0
def tw3635564251699204790:=0
def tw9882905671159173613:=0
def tw7955573988233324964:=0
def tw4735508896575769842:=0
def tw18059821418656547103:=0
def tw12711043528942952872:=0
def tw17069139624149106795:=0
def tw458448887832998152:=0
def tw8896353515014511693:=0
def tw11179772591847289917:=0
def tw4550675853862545013:=0
def tw6545317917107419346:=0
def tw4296339459868740567:=0
def tw5839939030473397707:=0
def tw16831870710025909578:=0
def tw16391549901063920161:=0
def tw11628109406127890086:=0
def tw470788142055317932:=0
def tw12281326358023571544:=0
def tw14780084812740965040:=0
def tw3324879539630578705:=0
def tw15997746242118907196:=0
def tw7269739175908333107:=0
def tw11209093583116820726:=0
def tw3278287408411888530:=0
def tw16827524459510404963:=0
def tw4517426308702447785:=0
end PySem.W.Fast
open PySem PySem.W PyProof.Rows
local macro_rules | `(tactic| walk_at "m")=>`(tactic| exact ⟨_,by k_is,by k_is,_,_,_,_,_,_,_,_,_,by k_is,by k_is,by k_is⟩)
local macro_rules | `(tactic| walk_at "d")=>`(tactic| exact ⟨_,by k_is,_,_,_,_,_,_,_,_,_,by k_is,by k_is,by k_is⟩)
set_option maxRecDepth 100000 in
set_option maxHeartbeats 0 in
theorem PySem.Challenge.cw_hushwise_k28_budgets_holds : PySem.Challenge.rw_hushwise_k28_budgets.Holds := by
 w_on; o_law; k_head; (case hw=>w_witness2)
 k_fill
 refine Law.walk (l:=PySem.Challenge.rw_hushwise_k28_budgets) rfl rfl (fun w h Y=>W.kIn_of Y) ?F
 case F=>
  intro w mg fa h KX G hmg
  refine' Law.all_mk KX G hmg ?_ ?_ ?_ ?_ ?_ ?_ ?_ ?_ ?_ ?_ ?_ ?_ ?_ ?_ ?_ ?_ ?_ ?_ ?_ ?_ ?_ ?_ ?_ ?_ ?_ ?_ ?_ ?_ ?_ ?_ ?_ ?_ ?_ ?_ ?_ ?_ ?_ ?_ ?_ ?_ ?_ ?_ ?_ ?_ ?_ ?_ ?_ ?_ ?_ ?_ Law.law_true
  exact ⟨_,⟨by k_is,by k_is,by k_is,by k_is,by k_is,by k_is,by k_is⟩,⟨by k_is,by k_is,by k_is⟩,by walk_at "m",by walk_at "m",by walk_at "m",by walk_at "m",by walk_at "m"⟩
  exact ⟨_,⟨by k_is,by k_is,by k_is,by k_is,by k_is,by k_is,by k_is⟩,⟨by k_is,by k_is,by k_is,by k_is,by k_is,by k_is,by k_is⟩,by walk_at "m",by walk_at "m",by walk_at "m",by walk_at "m",by walk_at "m",by walk_at "m",by walk_at "m",by walk_at "m",by walk_at "m",by walk_at "m",by walk_at "m",by walk_at "m",by walk_at "m"⟩
  iterate 32 walk_at "d"
  iterate 15 k_is
  iterate 1 exact ⟨_,by k_is⟩
