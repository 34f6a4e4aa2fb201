import PyProof.Rows.All
import Wide.All
import OpenK.AllK
import Wide.FinOn
import Lean
import PyProof.EqAt
import PyProof.EqKinds
import PyProof.TupleCall
import PyProof.NeKinds
import PyProof.StrBlockI
import PyProof.WalksEnum
import PyProof.EnumMake
import PyProof.ZipIter
import PyProof.Rows.SortStr
import PyProof.Rows.SetFrom
import PyProof.CollectWalk
import PyProof.SetRoads
import PyProof.DictWalks
import PyProof.SumWalk
import PyProof.Rows.SumGenD
import PyProof.DictItems
import KE.KRevIter
import PyProof.Rows.FStrParts
import PyProof.StationsW
import PyProof.ReprRoads
import PyProof.ReprLen
import PyProof.ReprStr
import PyProof.StrLawsRepr
import PyProof.FString
import KE.KIsAll
import PyProof.ListRange
import PyProof.Rows.StrSplitAre
import KE.KIntText
import OpenK.KTop
import PyProof.SetKind
import KE.KSortTup
import KE.KEqDict
import PyProof.AutoSeq1
import PyProof.StrCalls
import PySem.Challenge.RW_hushwise_k34_rules_as_a_row_is_done
set_option Elab.async false
set_option linter.all false
set_option bootstrap.genMatcherCode false
set_option genSizeOf false
set_option compiler.extract_closed false
set_option maxRecDepth 100000
set_option maxHeartbeats 8000000
noncomputable section
def A2{a b g:Prop}(h:a/\b)(z:a->b->g):g:=z h.1 h.2
def A3{a b c g:Prop}(h:a/\b/\c)(z:a->b->c->g):g:=z h.1 h.2.1 h.2.2
def A4{a b c d g:Prop}(h:a/\b/\c/\d)(z:a->b->c->d->g):g:=z h.1 h.2.1 h.2.2.1 h.2.2.2
def A5{a b c d e g:Prop}(h:a/\b/\c/\d/\e)(z:a->b->c->d->e->g):g:=z h.1 h.2.1 h.2.2.1 h.2.2.2.1 h.2.2.2.2
def A6{a b c d e f g:Prop}(h:a/\b/\c/\d/\e/\f)(z:a->b->c->d->e->f->g):g:=z h.1 h.2.1 h.2.2.1 h.2.2.2.1 h.2.2.2.2.1 h.2.2.2.2.2
def A7{a b c d e f k g:Prop}(h:a/\b/\c/\d/\e/\f/\k)(z:a->b->c->d->e->f->k->g):g:=z h.1 h.2.1 h.2.2.1 h.2.2.2.1 h.2.2.2.2.1 h.2.2.2.2.2.1 h.2.2.2.2.2.2
def E1{α:Sort _}{p:α->Prop}{g:Prop}(h:∃a,p a)(z:∀a,p a->g):g:=match h with|⟨a,h⟩=>z a h
def E2{α β:Sort _}{p:α->β->Prop}{g:Prop}(h:∃a b,p a b)(z:∀a b,p a b->g):g:=match h with|⟨a,b,h⟩=>z a b h
def E3{α β γ:Sort _}{p:α->β->γ->Prop}{g:Prop}(h:∃a b c,p a b c)(z:∀a b c,p a b c->g):g:=match h with|⟨a,b,c,h⟩=>z a b c h
def E4{α β γ δ:Sort _}{p:α->β->γ->δ->Prop}{g:Prop}(h:∃a b c d,p a b c d)(z:∀a b c d,p a b c d->g):g:=match h with|⟨a,b,c,d,h⟩=>z a b c d h
def E5{α β γ δ ε:Sort _}{p:α->β->γ->δ->ε->Prop}{g:Prop}(h:∃a b c d e,p a b c d e)(z:∀a b c d e,p a b c d e->g):g:=match h with|⟨a,b,c,d,e,h⟩=>z a b c d e h
def E6{α β γ δ ε ζ:Sort _}{p:α->β->γ->δ->ε->ζ->Prop}{g:Prop}(h:∃a b c d e f,p a b c d e f)(z:∀a b c d e f,p a b c d e f->g):g:=match h with|⟨a,b,c,d,e,f,h⟩=>z a b c d e f h
def X2{α β:Sort _}{p:α->β->Prop}(a:α)(b:β)(h:p a b):∃a b,p a b:=⟨a,b,h⟩
def X3{α β γ:Sort _}{p:α->β->γ->Prop}(a:α)(b:β)(c:γ)(h:p a b c):∃a b c,p a b c:=⟨a,b,c,h⟩
def X4{α β γ δ:Sort _}{p:α->β->γ->δ->Prop}(a:α)(b:β)(c:γ)(d:δ)(h:p a b c d):∃a b c d,p a b c d:=⟨a,b,c,d,h⟩
def X5{α β γ δ ε:Sort _}{p:α->β->γ->δ->ε->Prop}(a:α)(b:β)(c:γ)(d:δ)(e:ε)(h:p a b c d e):∃a b c d e,p a b c d e:=⟨a,b,c,d,e,h⟩
def X6{α β γ δ ε ζ:Sort _}{p:α->β->γ->δ->ε->ζ->Prop}(a:α)(b:β)(c:γ)(d:δ)(e:ε)(f:ζ)(h:p a b c d e f):∃a b c d e f,p a b c d e f:=⟨a,b,c,d,e,f,h⟩
def X7{α β γ δ ε ζ η:Sort _}{p:α->β->γ->δ->ε->ζ->η->Prop}(a:α)(b:β)(c:γ)(d:δ)(e:ε)(f:ζ)(k:η)(h:p a b c d e f k):∃a b c d e f k,p a b c d e f k:=⟨a,b,c,d,e,f,k,h⟩
local macro_rules | `(tactic| let $p:term:=$e)=>do
  let rec f (n:Nat)(p:Lean.Term):Lean.MacroM (Lean.TSyntax `rcasesPat):=do
   match n with
   | 0=>`(rcasesPat| _)
   | n+1=>
    match p with
    | `(($a,$q,*))=>`(rcasesPat| ⟨$(<-(#[a]++q.getElems).mapM λx=>do `(Lean.Parser.Tactic.rcasesPatLo| $(<-f n x):rcasesPat)),*⟩)
    | `($i:ident)=>`(rcasesPat| $i:ident)
    | _=>`(rcasesPat| _)
  let o<-`(tactic| obtain $(<-f 9 p):rcasesPat:=$e)
  let `(($a,$q,*)):=p | return o
  let y:=#[a]++q.getElems
  let n:=y.size
  let v<-`(v)
  let s:=y.any (·.raw.getId == e.raw.getId)
  let e2:=if e.raw.isIdent && s then v else e
  let b<-if e.raw.isIdent && s then `(tactic| (revert $e:term;intro v)) else `(tactic| skip)
  let c<-if e.raw.isIdent then `(tactic| try clear $e2:term) else `(tactic| skip)
  let z (m:String)(k:Nat):Lean.MacroM (Lean.TSyntax `tactic):=do
   let t:Array Lean.Term:=(y.extract 0 k).mapIdx λi x=>if x.raw.getNumArgs>1 then ⟨(Lean.mkIdent (.mkSimple s!"✝{i}")).raw⟩ else x
   let r<-if k=n then pure c else `(tactic| let ($(y[k]!),$(y.extract (k+1) n),*):=w)
   let r<-(y.zip t).foldlM (λr (x,i)=>if x.raw == i.raw then pure r else `(tactic| ($r:tactic;let $x:term:=$i))) r
   let t<-if k=n then pure t else pure (t.push (<-`(w)))
   `(tactic| ($b:tactic;refine $(Lean.mkIdent (.mkSimple m)) $e2 λ $t*=>?_;$c:tactic;$r:tactic;repeat subst $(Lean.mkIdent `rfl):ident))
  let rec g (k:Nat):Lean.MacroM (Lean.TSyntax `tactic):=do
   match k with
   | 0=>if n>2 then `(tactic| first | $(<-z "A2" 1):tactic | $o:tactic) else return o
   | k+1=>`(tactic| first | $(<-z s!"E{k+1}" (k+1+(k+2)/n)):tactic | $(<-g k):tactic)
  `(tactic| first | $(<-z s!"A{n}" n):tactic | $(<-g (min 6 (n-1))):tactic)
local macro_rules | `(tactic| let $i:ident:=$e)=>`(tactic| have $i:ident:=$e)
local macro_rules | `(tactic| show $e)=>`(tactic| first | refine $e | fail)
local macro_rules | `(tactic| lia)=>`(tactic| first | omega | grind)
local macro_rules | `(#[$p,*])=>`(⟨$p,*⟩)
local macro_rules | `(tactic| show #[$p,*])=>do
  let p:=p.getElems
  let rec g (k:Nat):Lean.MacroM (Lean.TSyntax `tactic):=do
   match k with
   | 0=>`(tactic| refine ⟨$p,*⟩)
   | k+1=>
    let r:=p.extract (k+2) p.size
    let r<-if k+3=p.size then pure r[0]! else `(⟨$r,*⟩)
    `(tactic| first | refine $(Lean.mkIdent (.mkSimple s!"X{k+2}")) $(p.extract 0 (k+2))* $r | $(<-g k):tactic)
  g (min 6 (p.size-2))
local macro_rules | `(!$x)=>`(some $x)
local macro_rules | `(tactic| omega)=>`(tactic| first | with_reducible first | assumption | contradiction | exact Nat.le_trans (by assumption) (by decide) | exact Nat.lt_of_le_of_lt (by assumption) (by decide) | exact Nat.lt_of_lt_of_le (by assumption) (by decide) | exact Nat.le_add_left _ _ | exact Nat.le_add_right _ _ | exact Nat.sub_le _ _ | exact Nat.zero_le _ | exact Nat.le_of_lt (by assumption) | exact Nat.le_of_lt_succ (by assumption) | exact Nat.le_of_not_lt (by assumption) | exact Nat.add_le_add_left (by assumption) _ | exact Nat.add_le_add_right (by assumption) _ | exact Nat.sub_lt_left_of_lt_add (by assumption) (by assumption) | (refine (?_:(_:Nat)=_);simp;done) | (refine (?_:(_:Nat)≤_);simp;done) | lia -verbose)
local macro_rules | `(tactic| grind)=>`(tactic| first | (simp_all;done) | omega | grind -verbose)
local macro_rules | `(())=>`(by first | omega | assumption | decide | rfl | exact .inl rfl | exact .inr rfl | decide +kernel)
local macro_rules | `(∅)=>`(by grind)
abbrev O:=@rfl
open Option renaming none→J
open Bool renaming true→G,false→M
open Or renaming inl→Zl,inr→YY
open PySem.Value renaming ref→YV
abbrev FG:=PySem.W.Frag
section
open PySem PySem.Spec PyProof.Rows
def be:=@List.length_cons
def bi:=@List.mem_cons_self
def bo:=@Option.bind_some
def bq:=@List.length_map
def bS:=@List.length_append
def bv:=@Nat.le_refl
def aT:=@List.mem_cons
def b9:=@List.length_nil
def cf:=@Heap.get?_push_of_some
def cv:=@List.mem_cons_of_mem
def de:=@List.getElem?_eq_some_iff
def cw:=@List.append_assoc
def eP:=@List.size_toArray
def c8:=@List.getElem?_map
def cx:=@List.mem_append
def cy:=@List.map_append
def bX:=@Heap.lt_size
def dA:=@Heap.get?_push_size
def et:=@List.getElem?_eq_getElem
def dE:=@List.map_cons
def cK:=@List.mem_map
def eH:=@List.sublist_cons_self
def d_:=@Option.some.inj
def e_:=@Bool.false_eq_true
def fy:=@List.getElem?_append_right
def d0:=@List.append_nil
def c_:=@Nat.ne_of_lt
def eR:=@List.mem_of_getElem?
def fz:=@Array.length_toList
def eL:=@List.mem_singleton
def fB:=@List.mem_append_right
def eS:=@Nat.lt_of_lt_of_le
def d3:=@Nat.zero_le
def eM:=@List.perm_middle
def fm:=@List.nil_append
def eJ:=@PassesOwn.never
def eI:=@Nat.le_trans
def fR:=@List.length_range
def hW:=@List.filterMap_cons_none
def hE:=@List.getElem?_append_left
def gu:=@List.mem_append_left
def ke:=@List.getElem?_set_self
def gT:=@Nat.lt_succ_of_lt
def f6:=@List.nodup_cons
def iF:=@Array.getElem?_eq_none
def hY:=@List.sublist_append_left
def gt:=@Bool.and_eq_true
def fS:=@List.map_map
def hG:=@List.lookup_cons
def kQ:=@List.mem_filterMap
def gX:=@List.not_mem_nil
def iN:=@Int.emod_lt_of_pos
def iO:=@List.perm_append_comm
def g7:=@Heap.size_push
def nE:=@Bool.false_ne_true
def ic:=@Int.emod_nonneg
def ja:=@List.cons_append
def kR:=@Nat.lt_irrefl
def gz:=@Nat.sub_self
def kf:=@PySem.F.plainAttrs_list
def ma:=@Nat.lt_succ_self
def ii:=@List.length_take
def hJ:=@Nat.ne_of_gt
def kS:=@List.drop_eq_getElem_cons
def kT:=@List.sublist_append_right
def md:=@List.getElem?_eq_none
def kU:=@List.zip_cons_cons
def iP:=@List.of_mem_zip
def iS:=@Option.map_some
def kg:=@Heap.SameBut.update
def kX:=@Nat.le_succ
def k5:=@Heap.get?_update_other
def hZ:=@List.set_set
def k6:=@List.length_drop
def jf:=@List.prefix_refl
def k7:=@Heap.get?_update_self
def jp:=@List.foldl_cons
def ij:=@Nat.zero_add
def p_:=@Nat.le_of_succ_le
def mf:=@List.length_set
def kl:=@List.zip_append
def nK:=@List.getElem?_set_ne
def mh:=@Nat.le_of_lt
def k_:=@Nat.le_add_right
def nL:=@PySem.F.slot_list_append
def nN:=@PySem.F.type_list_append
def mi:=@PySem.mem_of_lookup
def nV:=@List.take_of_length_le
def mn:=@List.Sublist.refl
def nX:=@List.map_nil
def mo:=@List.nodup_nil
def xw:=@Nat.le_of_not_lt
def qa:=@List.any_cons
def qb:=@Option.isSome_iff_exists
def n4:=@Nat.lt_of_le_of_lt
def n5:=@List.prefix_append
def n9:=@List.nodup_append
def xy:=@List.eq_nil_of_length_eq_zero
def qh:=@List.filterMap_cons
def qk:=@List.map_congr_left
def n_:=@PySem.boot_len
def qo:=@Int.toNat_natCast
def qr:=@W.cellsFrom_some
def oe:=@Nat.succ.inj
def xz:=@W.methodCall_KW
def al:=@wpAny_bind
def av:=@if_pos
def aE:=@if_neg
def ay:=@wpAny_pure
def im:=@decide_eq_false
def js:=@decide_eq_true
def ms:=@beq_eq_false_iff_ne
def io:=@beq_self_eq_true
end
namespace L2
open PySem PySem.Spec PyProof.Rows
variable {ae:List (Addr×Obj)}{E:Value->Shared->Prop}{s:Shared}{A:Around}{w:World}{P:Program}
abbrev da:=Sum Int Str
noncomputable def uU:da->Value->Bool
 |.inl k,v=>Value.isInt k v
 |.inr x,v=>Value.isStrOf x v
def xA(w:World):da->Int
 |.inl k=>hashInt k
 |.inr x=>hashStr w x
theorem di:∀{k:da}{v:Value},uU k v=G->(∃i t,k=Sum.inl i/\v=Value.int i t)\/(∃x t,k=Sum.inr x/\v=Value.str x t)
 |.inl i,v,h=>by let(t,e):=Value.isInt_shape h;grind
 |.inr x,v,h=>by let(t,e):=Value.isStrOf_shape h;grind
def R3(i:Int)(t:Tok):uU (.inl i) (.int i t)=G:=by simp[uU,Value.isInt]
def R4(x:Str)(t:Tok):uU (.inr x) (.str x t)=G:=by simp[uU,Value.isStrOf]
def F_(a b:Int):decide ((Sum.inl a:da)=Sum.inl b)=(a==b):=by
 by_cases e:a=b
 . grind
 . grind
def Gc(a b:Str):decide ((Sum.inr a:da)=Sum.inr b)=decide (a=b):=by
 by_cases e:a=b
 .  simp
 . grind
def Go(a:Int)(b:Str):decide ((Sum.inl a:da)=Sum.inr b)=M:=im (λq=>nomatch q)
def GA(a:Str)(b:Int):decide ((Sum.inr a:da)=Sum.inl b)=M:=im (λq=>nomatch q)
def fM(prog:Program)(w:World):PySem.KeyKind prog w da where
 is:=uU
 hash:=xA w
 inj:=λv a b ha hb=>by
  obtain⟨i,t,rfl,rfl⟩|⟨x,t,rfl,rfl⟩:=di ha
  . obtain⟨j,u,rfl,e⟩|⟨y,u,rfl,e⟩:=di hb
    . injection e with e1 _;rw[e1]
    . show nomatch e
  . obtain⟨j,u,rfl,e⟩|⟨y,u,rfl,e⟩:=di hb
    . show nomatch e
    . injection e with e1 _;rw[e1]
 byValue:=λk v h=>by rcases di h with ⟨i,t,rfl,rfl⟩|⟨x,t,rfl,rfl⟩<;>rfl
 pyHash:=λhv h=>by
  obtain⟨i,t,rfl,rfl⟩|⟨x,t,rfl,rfl⟩:=di hv
  . show wpAny_pyHash_int h
  . show wpAny_pyHash_str h
 eqBool:=λhu hv h=>by
  obtain⟨i,t,rfl,rfl⟩|⟨x,t,rfl,rfl⟩:=di hu
  . obtain⟨j,u,rfl,rfl⟩|⟨y,u,rfl,rfl⟩:=di hv
    . rw[F_]at h;show wpAny_eqBool_int h
    . rw[Go]at h;show SeqAt.EqAt.int_str i t y u _ _ _ _ h
  . obtain⟨j,u,rfl,rfl⟩|⟨y,u,rfl,rfl⟩:=di hv
    . rw[GA]at h;show SeqAt.EqAt.str_int x t j u _ _ _ _ h
    . rw[Gc]at h;show wpAny_eqBool_str h
 «strs»:=λk x t v h=>by
  obtain⟨i,u,rfl,e⟩|⟨y,u,rfl,e⟩:=di h
  . show nomatch e
  . injection e with e1 _;subst e1;cases v<;>rfl
def Nj(prog:Program)(w:World)(i:Int)(t:Tok):(fM prog w).is (.inl i) (.int i t)=G:=R3 i t
def Nk(prog:Program)(w:World)(x:Str)(t:Tok):(fM prog w).is (.inr x) (.str x t)=G:=R4 x t
inductive V where
 |non |bl (b:Bool) |int (i:Int) |str (x:Str) |byt (b:Array UInt8) |flt (b:UInt64) |ref (a:Addr) |ty (n:String)
 deriving DecidableEq
def aw:V->Value->Prop
 |.non,u=>u=Value.none
 |.bl b,u=>u=Value.bool b
 |.int i,u=>∃t,u=Value.int i t
 |.str x,u=>∃t,u=Value.str x t
 |.byt b,u=>∃t,u=Value.bytes b t
 |.flt b,u=>∃t,u=Value.float b t
 |.ref a,u=>u=Value.ref a
 |.ty n,u=>u=Value.type n
abbrev am:List V->List Value->Prop:=Paired aw
theorem am.length(r:am xs us):xs.length=us.length:=Paired.length r
theorem am.get:∀{xs:List V}{j:List Value}{i:Nat}{x:V},am xs j->xs[i]?=!x->∃u,j[i]?=!u/\aw x u
 |_,_,_,_,.nil,e=>by grind
 |_,_,0,_,.cons r _,e=>by grind
 |_,_,i+1,x,.cons _ t,e=>by let(u,h1,h2):=am.get t ();grind
theorem am.set(r:aw x u):∀{xs:List V}{j:List Value}(i:Nat),am xs j->am (xs.set i x) (j.set i u)
 |_,_,_,.nil=>.nil
 |_,_,0,.cons _ t=>.cons r t
 |_,_,i+1,.cons q t=>.cons q (am.set r i t)
theorem am.append:∀{xs ys:List V}{i ws:List Value},am xs i->am ys ws->am (xs++ys) (i++ws)
 |_,_,_,_,.nil=>λs=>s
 |_,_,_,_,.cons r t=>λs=>.cons r (am.append t s)
theorem am.take:∀{xs:List V}{i:List Value}(n:Nat),am xs i->am (xs.take n) (i.take n)
 |_,_,0,_=>.nil
 |_,_,_+1,.nil=>.nil
 |_,_,n+1,.cons r t=>.cons r (am.take n t)
theorem am.drop:∀{xs:List V}{i:List Value}(n:Nat),am xs i->am (xs.drop n) (i.drop n)
 |_,_,0,r=>r
 |_,_,_+1,.nil=>.nil
 |_,_,n+1,.cons _ t=>am.drop n t
def mR:Option V->Option Value->Prop
 |some v,!u=>aw v u
 |none,J=>True
 |_,_=>False
def KV{κ:Type}:List (κ×V)->List (κ×Value)->Prop:=Paired λ(p:κ×V)(q:κ×Value)=>p.1=q.1/\aw p.2 q.2
noncomputable def kV:da->V
 |.inl i=>.int i
 |.inr x=>.str x
inductive HO where
 |lst (xs:List V)
 |tup (xs:List V)
 |dK (a_:List (da×V)) |dT (a_:List (List da×V))
 |set (S:Int->Bool) (n:Nat)
 |ins (C dx:Addr) (fs:List (Str×V))
 |own (x:Addr)
 |xd (fs:List (Str×V))
 |met (f x:Addr)
 |rng (lo hi:Int)
 |frz (o:Obj) (u:HO)
 |tbl (ps:Array Value)
 |ext (φ:Heap->Prop)
abbrev Hp:=Addr->Option HO
noncomputable def aS (H:Hp) (a:Addr) (o:HO):Hp:=λb=>if b=a then !o else H b
def bU:aS H a o a=!o:=by unfold aS;grind
def cR(h:b≠a):aS H a o b=H b:=by unfold aS;grind
def eV{H:Hp}(h:H a=!o)(h':H b=J):a≠b:=by grind
section
variable (P:Program)(w:World)
def eX(H:Hp)(h:Heap)(a:Addr):HO->Prop
 |.lst xs=>xs.length<=sizeLine/\∃(br:List Value)(n:Nat),am xs br/\h.get? a=some { cls:=.type "list",data:=.seq br.toArray n }
 |.tup xs=>xs.length<=sizeLine/\∃br:List Value,am xs br/\IsTup h a br.toArray
 |.dK a_=>a_.length<=sizeLine/\(a==sysModules)=M/\∃vs,KV a_ vs/\h.DictOf (fM P w) a vs
 |.dT a_=>a_.length<=sizeLine/\(a==sysModules)=M/\∃xs:List (List da×Addr×Value),
  Paired (λ(p:List da×V)(q:List da×Addr×Value)=>p.1=q.1/\H q.2.1=!(.tup (p.1.map kV))/\aw p.2 q.2.2) a_ xs/\
  ∃o es ep,h.get? a=!o/\o.ExactDict/\o.data=.dict es ep/\es.toList=xs.map (entryOfKey (tupleKind (fM P w)))/\(xs.map (·.1)).Nodup
 |.set S n=>h.SetOf (intKind P w) a S n
 |.ins C dx fs=>H dx=!(.own a)/\fs.length<=1000/\dx≠a/\h.get? a=!(W.instObj C dx)/\
  ∃mA,h.Ns1 dx mA/\(∀f,mR (fs.lookup f) (mA f))/\PySem.Within mA (fs.map (·.1))
 |.own _=>∃o,h.get? a=!o
 |.xd fs=>∃mA,h.Ns1 a mA/\∀f,mR (fs.lookup f) (mA f)
 |.rng lo hi=>∃t u v,h.get? a=some { cls:=.type "range",data:=.fields (List.toArray [.int lo t,.int hi u,.int 1 v]) }
 |.frz o u=>h.get? a=!o/\eX H h a u
 |.tbl ps=>h.get? a=some { cls:=.none,data:=.fields ps }
 |.met f x=>h.get? a=!(W.methodObj (YV f) (YV x))
 |.ext φ=>φ h/\(∃o,h.get? a=!o)/\∀h1 h2:Heap,φ h1->(∀o,h1.get? a=!o->h2.get? a=!o)->φ h2
def je(H:Hp)(h:Heap):Prop:=∀a o,H a=!o->eX P w H h a o
end
section
variable {P:Program}{w:World}{H H':Hp}{h h':Heap}{a:Addr}{o:HO}
theorem eX.lt(x:eX P w H h a o):a<h.objs.size:=by
 cases o with
 |lst xs=>let(_,_,_,_,e):=x;show bX e
 |tup xs=>let(_,_,_,p):=x;show p.lt
 |dK i=>let(_,_,_,_,o,_,_,e,_):=x;show bX e
 |dT i=>let(_,_,_,_,o,_,_,e,_):=x;show bX e
 |set S n=>let(o,_,_,_,e,_):=x;show bX e
 |ins C dx fs=>let(_,_,_,e,_):=x;show bX e
 |own y=>let(_,e):=x;show bX e
 |xd fs=>let(_,(_,_,_,e,_),_):=x;show bX e
 |rng lo hi=>let(_,_,_,e):=x;show bX e
 |frz N u=>let(e,_):=x;show bX e
 |tbl ps=>show bX (x)
 |met f y=>show bX (x)
 |ext φ=>let(_,(_,e),_):=x;show bX e
theorem Paired.mapP:∀{l₁:List α}{l₂:List β},Paired F l₁ l₂->(∀a b,F a b->ZT a b)->Paired ZT l₁ l₂
 |_,_,.nil=>λ_=>.nil
 |_,_,.cons r t=>λf=>.cons (f _ _ r) (Paired.mapP t f)
def eX.stay(x:eX P w H h a o)(k:∀b u,(b=a\/H b=!(.own a))->h.get? b=!u->h'.get? b=!u)
 (ho:∀b,H b=!(.own a)->H' b=!(.own a)) (ht:∀b xs,H b=!(.tup xs)->H' b=!(.tup xs)):eX P w H' h' a o:=by
 induction o with
 |lst xs=>let(z,D,n,r,e):=x;show#[z,D,n,r,k _ _ (Zl O) e]
 |tup xs=>let(z,D,r,i,e,c):=x;show#[z,D,r,i,k _ _ (Zl O) e,c]
 |dK N=>let(z,y,W,r,i,es,j,e,c):=x;show#[z,y,W,r,i,es,j,k _ _ (Zl O) e,c]
 |dT N=>
  let(z,y,xs,r,i,es,j,e,c):=x;show#[z,y,xs,Paired.mapP r λp q z=>#[z.1,ht _ _ z.2.1,z.2.2],i,es,j,k _ _ (Zl O) e,c]
 |set S n=>let(i,es,j,t,e,c):=x;show#[i,es,j,t,k _ _ (Zl O) e,c]
 |ins C dx fs=>
  let(d,z,ne,e,mA,(F,es,j,e2,c),r):=x;show#[ho _ d,z,ne,k _ _ (Zl O) e,mA,#[F,es,j,k _ _ (YY d) e2,c],r]
 |own y=>let(i,e):=x;show#[i,k _ _ (Zl O) e]
 |xd fs=>let(mA,(F,es,j,e,c),r):=x;show#[mA,#[F,es,j,k _ _ (Zl O) e,c],r]
 |rng lo hi=>let(t,u,v,e):=x;show#[t,u,v,k _ _ (Zl O) e]
 |frz i u ih=>let(e,q):=x;show#[k _ _ (Zl O) e,ih q]
 |tbl ps=>
  let e:=x;show k a _ (Zl O) e
 |met f y=>
  let e:=x;show k a _ (Zl O) e
 |ext φ=>let(p,(o,e),st):=x;show#[st _ _ p λo q=>k _ _ (Zl O) q,#[o,k _ _ (Zl O) e],st]
theorem je.lt(x:je P w H h)(e:H a=!o):a<h.objs.size:=(x a o e).lt
def je.fresh(x:je P w H h)(e:h.objs.size<=a):H a=J:=by
 cases q:H a with
 |none=>rfl
 |some u=>show absurd (eS (x.lt q) e) (kR _)
def je.kept(x:je P w H h)(k:∀b u,h.get? b=!u->h'.get? b=!u):je P w H h':=λa o e=>
 (x a o e).stay (λb u _ q=>k b u q) (λ_ q=>q) λ_ _ q=>q
def je.laid(x:je P w H h)(k:∀b u,h.get? b=!u->h'.get? b=!u)(z:h.objs.size<=a)(new:eX P w (aS H a o) h' a o):je P w (aS H a o) h':=λb u e=>by
 let i:=x.fresh z;by_cases j:b=a
 . subst j;rw[bU]at e;grind
 . rw[cR j]at e;show(x b u e).stay (λc v _ q=>k c v q) (λc q=>by rw[cR (eV q i)];show q) λc xs q=>by rw[cR (eV q i)];show q
end
def Rd(H:Hp)(a:Addr)(u:HO):Prop:=H a=!u\/∃o,H a=!(.frz o u)
def Rd.ok(r:Rd H a u)(x:je P w H h):eX P w H h a u:=by
 obtain r|⟨o,r⟩:=r
 . show x a u r
 . let(_,q):=x a _ r;show q
def R5:Option HO->Prop
 |some (.lst _)=>True
 |some (.dK _)=>True
 |some (.dT _)=>True
 |some (.set _ _)=>True
 |some (.ins _ _ _)=>True
 |some (.ext _)=>True
 |_=>False
section
variable {P:Program}{w:World}{H:Hp}{h h':Heap}{x e:Addr}{o':HO}
def je.write(ok:je P w H h)(mu:R5 (H x))(he:e=x\/H e=!(.own x))(k:∀b u,b≠e->h.get? b=!u->h'.get? b=!u)(D:∃u,h'.get? e=!u)
 (new:eX P w (aS H x o') h' x o'):je P w (aS H x o') h':=λb u q=>by
 have i:∀c y,H c=!(.own y)->c≠x:=λc y r z=>by subst z;rw[r]at mu;show mu
 have j:∀c xs,H c=!(.tup xs)->c≠x:=λc xs r z=>by subst z;rw[r]at mu;show mu
 by_cases Q:b=x
 . subst Q;rw[bU]at q;grind
 . rw[cR Q]at q;by_cases F:b=e
   . have N:H b=!(.own x):=by
      obtain z|z:=he
      . grind
      . grind
     rw[q]at N;cases N;let(v,hv):=D;show#[v,by rw[F];show hv]
   . show(ok b u q).stay (λc v W r=>k c v ?_ r) (λc r=>by rw[cR (i c b r)];show r) λc xs r=>by rw[cR (j c xs r)];show r
     obtain rfl|W:=W
     . grind
     . rintro rfl;obtain z|z:=he
       . grind
       . grind
end
structure Un(fs ex:List Addr)(H H':Hp)(h h':Heap):Prop where
 keep:∀b o,h.get? b=!o->H b=none->b∉fs->b∉ex->h'.get? b=!o
 slot:∀b o,h.get? b=!o->H b=none->b∈fs->b∉ex->∃sl,h'.get? b=some { o with slots:=sl }
 free:∀b o,h.get? b=!o->H b=none->b∉ex->H' b=none
 there:∀b o,h.get? b=!o->b∉ex->∃o',h'.get? b=!o'
 tups:∀b xs,H b=!(.tup xs)->H' b=!(.tup xs)
 frzs:∀b o u,H b=!(.frz o u)->H' b=!(.frz o u)
 tbls:∀b ps,H b=!(.tbl ps)->∃more,H' b=!(.tbl (ps++more))
section
variable {fs eT ex ex':List Addr}{H H1 H2:Hp}{h h1 h2 h':Heap}{a x e:Addr}{o:HO}
def Un.any(u:Un fs ex H H1 h h1)(q:h.get? b=!ob)(n:H b=J)(j:b∉ex):∃sl,h1.get? b=some { ob with slots:=sl }:=by
 by_cases z:b∈fs
 . show u.slot b ob q n z j
 . show#[ob.slots,u.keep b ob q n z j]
def Un.kept(k:∀b u,h.get? b=!u->h'.get? b=!u):Un fs ex H H h h':=
 #[λb i q _ _ _=>k b i q,λb i q _ _ _=>#[i.slots,k b i q],λ_ _ _ n _=>n,λb i q _=>#[i,k b i q],λ_ _ q=>q,λ_ _ _ q=>q,λ_ ps q=>#[(List.toArray []),by rw[q];simp]]
def Un.refl:Un fs ex H H h h:=Un.kept λ_ _ q=>q
def Un.laid(k:∀b u,h.get? b=!u->h'.get? b=!u)(j:h.objs.size<=a)(i:H a=J):Un fs ex H (aS H a o) h h' where
 keep:=λb u q _ _ _=>k b u q
 slot:=λb u q _ _ _=>#[u.slots,k b u q]
 free:=λb u q n _=>by rw[cR (c_ (eS (bX q) j))];show n
 there:=λb u q _=>#[u,k b u q]
 tups:=λb xs q=>by rw[cR (eV q i)];show q
 frzs:=λb u xs q=>by rw[cR (eV q i)];show q
 tbls:=λb ps q=>#[(List.toArray []),by rw[cR (eV q i),q];simp]
def Un.write(mu:R5 (H x))(he:e=x\/H e=!(.own x))(k:∀b u,b≠e->h.get? b=!u->h'.get? b=!u)(D:∃u,h'.get? e=!u):Un fs ex H (aS H x o) h h':=by
 have N:∀b,H b=J->b≠x:=λb n z=>by subst z;rw[n]at mu;show mu
 have j:∀b,H b=J->b≠e:=λb n z=>by
  subst z;obtain r|r:=he
  . grind
  . grind
 have i:∀b u,H b=!u->¬ R5 (!u)->b≠x:=λb u q nm z=>by subst z;rw[q]at mu;show nm mu
 show#[λb u q n _ _=>k b u (j b n) q,λb u q n _ _=>#[u.slots,k b u (j b n) q],λb u q n _=>by rw[cR (N b n)];show n,λb u q _=>?_,
  λb xs q=>by rw[cR (i b _ q λz=>z)];show q,λb u xs q=>by rw[cR (i b _ q λz=>z)];show q,λb ps q=>#[(List.toArray []),by rw[cR (i b _ q λz=>z),q];simp]]
 by_cases F:b=e
 . grind
 . grind
end
def X7(h:Heap)(H:Hp):List Addr:=(List.range h.objs.size).filter λa=>(H a).isSome
def wY(h:Heap)(H:Hp):Heap:=W.hideAll h (X7 h H)
def R6(h:Heap)(H:Hp):(wY h H).objs.size=h.objs.size:=W.hideAll_size _ _
def Vw(e:h.get? b=!o)(n:H b=J):(wY h H).get? b=!o:=
 W.hideAll_get _ e λi=>by let q:=(List.mem_filter.mp i).2;rw[n]at q;simp at q
def Y0_(e:(wY h H).get? b=!o):h.get? b=!o/\H b=J:=by
 let i:=W.of_hideAll (X7 h H) e;show#[i,?_];cases q:H b with
 |none=>rfl
 |some x=>
  have j:b∈X7 h H:=List.mem_filter.mpr #[List.mem_range.mpr (bX i),by simp[q]];have z:(wY h H).get? b=J:=W.hideAll_none (X7 h H) j;rw[z]at e;cases e
noncomputable def Y4_ (g h:Heap) (L:Addr):List (Addr×Obj):=(List.range h.objs.size).filterMap λa=>if a=L\/(g.get? a).isSome=G then J else (h.get? a).map λo=>(a,o)
def ax(g h:Heap)(L d:Addr):List (Addr×Obj):=(Y4_ g h L).filter λp=>decide (p.1≠d)
structure Mod(K:FG)(mg:Str->Option Value)(base:Heap):Prop where
 kin:K.In base
 glob:base.Ns mainGlobals mg
 blt:∃mb,base.Ns builtinsNs mb/\∀x:Str,x ≠ "__name__"->mb x=bootBuiltins x
 nolimit:base.NoLimit
structure Cx where
 prog:Program
 w:World
 K:FG
 mg:Str->Option Value
 base:Heap
 A:Around
 N:List Str
 s₀:Shared
 H0:Hp
 env:Env
 outer:List Env
 stack:List Env
 ex:List Addr
 fn:Str->Bool
 calm:Bool
 pn:List (Addr×Obj)
 xe:Value->Shared->Prop
noncomputable def frs (l:List Env):List Addr:=l.filterMap (·.frame)
abbrev Cx.fs(X:Cx):List Addr:=frs X.outer
def R7(sc:Scope)(x:Str):Prop:=sc.names.lookup x=!.local\/sc.names.lookup x=!.cell\/sc.names.lookup x=!.free
def Loc(sc:Scope)(x:Str):Prop:=sc.names.lookup x=!.local\/sc.names.lookup x=!.cell
def qA(env:Env)(h:Heap)(m:Str->Option Value)(x:Str)(u:Value):Prop:=
 (env.kindOf x=!.local/\m x=!u)\/((env.kindOf x=!.cell\/env.kindOf x=!.free)/\∃c,env.cells.lookup x=!c/\h.IsCell c (!u))
structure Cx.Ok(X:Cx):Prop where
 mod:Mod X.K X.mg X.base
 kind:X.env.scope.kind=.function
 glob:X.env.globals=mainGlobals
 blt:X.env.builtins=builtinsNs
 above:X.s₀.heap.objs.size<=X.env.locals
 inj:∀x y c,X.env.cells.lookup x=!c->X.env.cells.lookup y=!c->x=y
 has:∀x,(X.env.kindOf x=!.cell\/X.env.kindOf x=!.free)->∃c,X.env.cells.lookup x=!c
 cab:∀x c,X.fn x=true->X.env.cells.lookup x=!c->X.s₀.heap.objs.size<=c
 hd:X.calm=true->X.A.handled=none
 frames:X.A.frames=!X.stack
 stk:X.stack=X.outer\/(X.stack=X.env::X.outer/\X.env.frame=!X.env.locals)
 exf:∀b∈X.ex,b≠X.env.locals/\∀x c,X.env.cells.lookup x=!c->c≠b
 bs:∀b o,X.base.get? b=!o->X.s₀.heap.get? b=!o/\X.H0 b=none
 bsz:X.base.objs.size<=X.s₀.heap.objs.size
 noex:∀b o,X.base.get? b=!o->b∉X.ex
 exfs:∀b∈X.ex,b∉X.fs
 funs:X.s₀.heap.FunFrames X.base X.outer
 frf:∀b∈X.fs,X.H0 b=none
structure ai(X:Cx)(ae:List (Addr×Obj))(U:List (Option V))(H:Hp)(s:Shared):Prop where
 ok:X.Ok
 os:s.os=X.s₀.os
 bare:AllBare s.gens
 base:Un X.fs X.ex X.H0 H X.s₀.heap s.heap
 loc:∃m,s.heap.Ns X.env.locals m/\∀(i:Nat)(x:Str)(v:V),X.N[i]?=!x->U[i]?=!(!v)->R7 X.env.scope x->∃u,aw v u/\qA X.env s.heap m x u
 cell:∀x c,X.env.cells.lookup x=!c->∃v,s.heap.IsCell c v
 free:H X.env.locals=none
 freeC:∀x c,X.env.cells.lookup x=!c->H c=none
 pin:∀p∈X.pn++ae,s.heap.get? p.1=!p.2/\H p.1=none/\p.1≠X.env.locals/\p.1∉X.fs/\∀v,p.2.data≠.cell v
 hok:je X.prog X.w H s.heap
 len:U.length=X.N.length
section
variable {X:Cx}{ae:List (Addr×Obj)}{U:List (Option V)}{H H':Hp}{s:Shared}{h':Heap}
def Cx.Ok.nofr(ok:X.Ok)(e:X.base.get? b=!o):b∉X.fs:=λi=>by have:=(ok.funs.mem i).1;rw[e]at this;cases this
theorem ai.bs(I:ai X ae U H s):∀b o,X.base.get? b=!o->s.heap.get? b=!o/\H b=J:=λb o e=>
 #[I.base.keep b o (I.ok.bs b o e).1 (I.ok.bs b o e).2 (I.ok.nofr e) (I.ok.noex b o e),I.base.free b o (I.ok.bs b o e).1 (I.ok.bs b o e).2 (I.ok.noex b o e)]
def ai.bk(I:ai X ae U H s):∀b o,X.base.get? b=!o->s.heap.get? b=!o:=λb o e=>(I.bs b o e).1
theorem ai.mod(I:ai X ae U H s):Mod X.K X.mg X.base:=I.ok.mod
def ai.kIn(I:ai X ae U H s):X.K.In s.heap:=I.ok.mod.kin.keeps I.bk
theorem ai.lt(I:ai X ae U H s):X.env.locals<s.heap.objs.size:=let #[_,hn,_]:=I.loc;hn.lt
def ai.sz(I:ai X ae U H s):X.s₀.heap.objs.size<=s.heap.objs.size:=eI I.ok.above (mh I.lt)
def ai.nofs(I:ai X ae U H s){a:Addr}(h:s.heap.objs.size<=a):a∉X.fs:=λj=>by let(_,o,i,_):=I.ok.funs.mem j;show absurd (eS (bX i) (eI I.sz h)) ()
def ai.cne(I:ai X ae U H s):∀x c,X.env.cells.lookup x=!c->c≠X.env.locals:=λx c e z=>by let(v,o,q,D):=I.cell x c e;let(m,(o',es,F,i,j,_),_):=I.loc;rw[z,i]at q;cases q;rw[j]at D;cases D
theorem ai.funs(I:ai X ae U H s):s.heap.FunFrames X.base X.outer:=by
 have all:∀(l:List Env),(∀b∈frs l,b∈X.fs)->X.s₀.heap.FunFrames X.base l->s.heap.FunFrames X.base l:=by
  intro l;induction l with
  |nil=>intro _ _;trivial
  |cons F r ih=>
   intro hs W;let(hk,(L,o,i,N,Q,D),hr):=W;let q:=hs L (by unfold frs;rw[qh,i];show bi);let(sl,e):=I.base.slot L o Q (I.ok.frf L q) q λz=>I.ok.exfs L z q;show#[hk,#[L,_,i,N,e,D],ih (λb j=>hs b (by unfold frs;rw[qh,i];show cv _ j)) hr]
 show all X.outer (λ_ j=>j) I.ok.funs
theorem ai.stack(I:ai X ae U H s):s.heap.FunFrames X.base X.stack:=by
 obtain e|⟨e,i⟩:=I.ok.stk
 . rw[e];show I.funs
 . rw[e];let(m,j,_):=I.loc;show .cons (by rw[I.ok.kind];decide) i j ?_ I.funs;show Heap.get?_none_of_le (eI I.ok.bsz I.ok.above)
def ai.stkSub(I:ai X ae U H s):∀b∈frs X.stack,b∈X.env.locals::X.fs:=λb i=>by
 obtain e|⟨e,j⟩:=I.ok.stk
 . grind
 . rw[e]at i;unfold frs at i;rw[qh,j]at i;show i
def ai.stkFree(I:ai X ae U H s):∀b∈frs X.stack,H b=J:=λb i=>by
 obtain e|i:=aT.mp (I.stkSub b i)
 . rw[e];show I.free
 . let(_,o,j,_):=I.ok.funs.mem i;show I.base.free b o j (I.ok.frf b i) λz=>I.ok.exfs b z i
def ai.step{ch:List Addr}(I:ai X ae U H s)
 (F:∀b∈ch,(b∈X.ex\/X.s₀.heap.objs.size<=b)/\b≠X.env.locals/\(∀x c,X.env.cells.lookup x=!c->c≠b)/\∀p∈X.pn++ae,p.1≠b)
 (keep:∀b o,b≠X.env.locals->b∉X.fs->b∉ch->s.heap.get? b=!o->H b=J->h'.get? b=!o)
 (N:∀b o,b≠X.env.locals->b∈X.fs->b∉ch->s.heap.get? b=!o->H b=J->∃sl,h'.get? b=some { o with slots:=sl }) (free:∀b o,b∉ch->s.heap.get? b=!o->H b=J->H' b=J)
 (there:∀b o,b∉ch->s.heap.get? b=!o->∃o',h'.get? b=!o')
 (tups:∀b xs,H b=!(.tup xs)->H' b=!(.tup xs)) (frzs:∀b o u,H b=!(.frz o u)->H' b=!(.frz o u)) (tbls:∀b ps,H b=!(.tbl ps)->∃more,H' b=!(.tbl (ps++more)))
 (ns:∀m,s.heap.Ns X.env.locals m->h'.Ns X.env.locals m) (hok:je X.prog X.w H' h') (hg:AllBare g'):
 ai X ae U H' { s with heap:=h',gens:=g',drawn:=d',toks:=t' }:=by
 have xB:∀b o,X.s₀.heap.get? b=!o->b≠X.env.locals:=λb o e=>c_ (eS (bX e) I.ok.above);have qB:∀b o,X.s₀.heap.get? b=!o->b∉X.ex->b∉ch:=λb o e j hb=>by
  obtain z|z:=(F b hb).1
  . grind
  . show absurd (eS (bX e) z) ()
 have Q:∀x c,X.env.cells.lookup x=!c->∀v,s.heap.IsCell c v->h'.IsCell c v:=λx c e v ⟨o,ho,hd⟩=>by
  let D:=λz=>(F c z).2.2.1 x c e O;by_cases hc:c∈X.fs
  . let(sl,q):=N c o (I.cne x c e) hc D ho (I.freeC x c e);show#[_,q,hd]
  . show#[o,keep c o (I.cne x c e) hc D ho (I.freeC x c e),hd]
 show#[I.ok,I.os,hg,#[λb o e n hb j=>?_,λb o e n hb j=>?_,λb o e n j=>?_,λb o e j=>?_,λb xs e=>tups b xs (I.base.tups b xs e),λb o xs e=>frzs b o xs (I.base.frzs b o xs e),λb ps e=>?_],?_,λx c e=>?_,?_,λx c e=>?_,λp hp=>?_,hok,I.len]
 . show keep b o (xB b o e) hb (qB b o e j) (I.base.keep b o e n hb j) (I.base.free b o e n j)
 . let(sl,W):=I.base.slot b o e n hb j;let(sl',e2):=N b _ (xB b o e) hb (qB b o e j) W (I.base.free b o e n j);grind
 . let(o',W):=I.base.there b o e j;show free b o' (qB b o e j) W (I.base.free b o e n j)
 . let(o',W):=I.base.there b o e j;grind
 . let(m1,W):=I.base.tbls b ps e;grind
 . let(m,hn,hl):=I.loc;show#[m,ns m hn,λi x v W e2 e3=>?_];let(u,r,l):=hl i x v W e2 e3;show#[u,r,?_];obtain l|⟨k,c,e,z⟩:=l
   . show Zl l
   . show YY #[k,c,e,Q x c e _ z]
 . let(v,z):=I.cell x c e;grind
 . let(m,(o,_,_,ho,_),_):=I.loc;show free _ o (λz=>(F _ z).2.1 O) ho I.free
 . let(v,o,ho,hd):=I.cell x c e;show free c o (λz=>(F c z).2.2.1 x c e O) ho (I.freeC x c e)
 . let(e,n,ne,nf,d):=I.pin p hp;let D:=λz=>(F p.1 z).2.2.2 p hp O;show#[keep p.1 p.2 ne nf D e n,free p.1 p.2 D e n,ne,nf,d]
def ai.un(I:ai X ae U H s)(u:Un X.fs [] H H' s.heap h')(F:je X.prog X.w H' h'):ai X ae U H' { s with heap:=h',toks:=t' }:=by
 let(m,(o,es,ep,W,r),_):=id I.loc;let(sl,hL):=u.any W I.free (by simp);show I.step (ch:=[]) (λ_ z=>nomatch z) (λb o _ D _ e n=>u.keep b o e n D ()) (λb o _ D _ e n=>u.slot b o e n D ()) (λb o _ e n=>u.free b o e n ()) (λb o _ e=>u.there b o e ()) u.tups u.frzs u.tbls (λm' hm=>by let(o',q,j,i,r'):=hm;rw[W]at i;cases i;show#[_,q,j,hL,r']) F I.bare
def ai.call(I:ai X ae U H s)(u:Un (frs X.stack) ch H H' s.heap h')(N:je X.prog X.w H' h')(hg:AllBare g')
 (j:∀b∈ch,(b∈X.ex\/X.s₀.heap.objs.size<=b)/\b≠X.env.locals/\(∀x c,X.env.cells.lookup x=!c->c≠b)/\∀p∈X.pn++ae,p.1≠b):
 ai X ae U H' { s with heap:=h',gens:=g',drawn:=d',toks:=t' }:=by
 let(m,(o,es,ep,ho,r),_):=id I.loc;let(sl,W):=u.any ho I.free λz=>(j _ z).2.1 O;show I.step j (λb o W hb i e n=>u.keep b o e n (λz=>(aT.mp (I.stkSub b z)).elim W hb) i) (λb o _ _ i e n=>u.any e n i) (λb o i e n=>u.free b o e n i) (λb o i e=>u.there b o e i) u.tups u.frzs u.tbls (λm' hm=>by let(o',F,Q,q,r'):=hm;rw[ho]at q;cases q;show#[_,F,Q,W,r']) N hg
def ai.turned(I:ai X ae U H s)(k:∀b o,b≠it->s.heap.get? b=!o->h'.get? b=!o)(Q:H it=J)(hL:it≠X.env.locals)
 (h1:it∈X.ex\/X.s₀.heap.objs.size<=it) (h2:∀x c,X.env.cells.lookup x=!c->c≠it) (h3:∀p∈X.pn++ae,p.1≠it):ai X ae U H { s with heap:=h',toks:=t' }:=by
 have F:∀b u,H b=!u->b≠it:=λb u e z=>by rw[z,Q]at e;cases e
 show I.step (ch:=[it]) (λb hb=>?_) (λb o _ _ i e _=>k b o (λz=>i ∅) e) (λb o _ _ i e _=>#[o.slots,k b o (λz=>i ∅) e]) (λ_ _ _ _ n=>n)
  (λb o i e=>#[o,k b o (λz=>i ∅) e]) (λ_ _ e=>e) (λ_ _ _ e=>e) (λb ps e=>#[(List.toArray []),by rw[e];simp]) (λm hm=>?_) (λb u e=>?_) I.bare
 . have e:b=it:=by simpa using hb
   grind
 . let(o,es,N,W,r):=hm;show#[o,es,N,k _ o ∅ W,r]
 . show(I.hok b u e).stay (λc v i q=>k c v ?_ q) (λ_ q=>q) λ_ _ q=>q;obtain z|z:=i
   . grind
   . grind
def ai.tok(I:ai X ae U H s)(t:Nat):ai X ae U H { s with toks:=t }:=I.un Un.refl I.hok
theorem ai.kept(I:ai X ae U H s)(k:∀b u,s.heap.get? b=!u->h'.get? b=!u):ai X ae U H { s with heap:=h',toks:=t' }:=I.un (Un.kept k) (I.hok.kept k)
theorem ai.laid{a:Addr}(I:ai X ae U H s)(k:∀b u,s.heap.get? b=!u->h'.get? b=!u)(i:s.heap.objs.size<=a)(new:eX X.prog X.w (aS H a o) h' a o):
 ai X ae U (aS H a o) { s with heap:=h',toks:=t' }:=I.un (Un.laid k i (I.hok.fresh i)) (I.hok.laid k i new)
theorem ai.write(I:ai X ae U H s)(mu:R5 (H x))(he:e=x\/H e=!(.own x))(k:∀b u,b≠e->s.heap.get? b=!u->h'.get? b=!u)(i:∃u,h'.get? e=!u)
 (new:eX X.prog X.w (aS H x o) h' x o):ai X ae U (aS H x o) { s with heap:=h',toks:=t' }:=I.un (Un.write mu he k i) (I.hok.write mu he k i new)
def ai.pins_of(I:ai X ae U H s)(h:∀p∈pins',s.heap.get? p.1=!p.2/\H p.1=J/\p.1≠X.env.locals/\p.1∉X.fs/\∀v,p.2.data≠.cell v):ai X pins' U H s:=
 #[I.ok,I.os,I.bare,I.base,I.loc,I.cell,I.free,I.freeC,λp i=>(cx.mp i).elim (λz=>I.pin p (gu _ z)) (h p),I.hok,I.len]
def J1{N:List Str}(z:N.Nodup){i j:Nat}(a:N[i]?=!x)(b:N[j]?=!x):i=j:=by let(h1,D):=de.mp a;let(h2,q):=de.mp b;show(List.getElem_inj z).mp (D.trans q.symm)
def Hc(I:ai X ae U H s)(hN:X.N.Nodup)(hi:X.N[i]?=!x)(W:Loc X.env.scope x)(r:aw v u)
 (h:∀s',ai X ae (U.set i (!v)) H s'->(∃a,Heap.SameBut a s.heap s'.heap/\(a=X.env.locals\/X.env.cells.lookup x=!a))->Q #[] s') (hf:X.fn x=G\/X.env.scope.names.lookup x=!.local:=by first |show Zl O |show YY O |assumption):wpAny ZO A (storeName X.env x u) Q E s:=by
 let(m,hn,hl):=id I.loc;have hcls:(X.env.scope.kind==.class||(X.env.scope.kind==.module&&X.env.locals != X.env.globals))=M:=by rw[I.ok.kind];rfl
 have xC:i<U.length:=by rw[I.len];show(de.mp hi).1
 let cne:=I.cne;have D:∀{a:Addr}{h':Heap},(∃o,s.heap.get? a=!o/\H a=J)->Heap.SameBut a s.heap h'->je X.prog X.w H h':=λ{a h'} ha hs b ob e=>by
  let(_,_,hfree):=ha;show(I.hok b ob e).stay (λc w' hc q=>(hs.2 c ?_).trans q) (λ_ q=>q) λ_ _ q=>q;rintro rfl;obtain rfl|hc:=hc
  . grind
  . grind
 obtain hk|hk:=W
 . show wpAny_storeName_local hk hn (λh' lh hs=>?_) hcls;let(oL,_,_,GB,_):=id hn;show h _ #[I.ok,I.os,I.bare,#[λb o e n hb W=>?_,λb o e n hb W=>?_,I.base.free,λb o e W=>?_,I.base.tups,I.base.frzs,I.base.tbls],#[_,lh,λj y v' F e2 e3=>?_],λy c e=>?_,I.free,I.freeC,λp hp=>?_,D #[oL,GB,I.free] hs,by simpa using I.len] #[_,hs,Zl O]
   . show(hs.2 b (c_ (eS (bX e) I.ok.above))).trans (I.base.keep b o e n hb W)
   . let(sl,F):=I.base.slot b o e n hb W;show#[sl,(hs.2 b (c_ (eS (bX e) I.ok.above))).trans F]
   . let(o',F):=I.base.there b o e W;show#[o',(hs.2 b (c_ (eS (bX e) I.ok.above))).trans F]
   . by_cases hj:j=i
     . subst hj;rw[hi]at F;cases F;rw[ke xC]at e2;cases e2;show#[u,r,Zl #[hk,by simp]]
     . rw[nK ()]at e2;let(u',r',q):=hl j y v' F e2 e3;show#[u',r',?_];obtain⟨k,e⟩|⟨k,c,e,z⟩:=q
       . show Zl #[k,?_];have:y≠x:=λe=>hj (J1 hN F (e▸hi));grind
       . show YY #[k,c,e,z.sameBut hs (cne y c e)]
   . let(w',z):=I.cell y c e;show#[w',z.sameBut hs (cne y c e)]
   . let(e,n,ne,nf,d):=I.pin p hp;show#[(hs.2 p.1 ne).trans e,n,ne,nf,d]
 . have kq:X.fn x=G:=by
    obtain z|z:=hf
    . show z
    . grind
   let(c,hc):=I.ok.has x (Zl hk);let(w',z):=I.cell x c hc;show wpAny_storeName_cell I.ok.kind hk hc z (λh' qE hs=>?_);let(oc,GG,hocd):=id z;show h { s with heap:=h' } #[I.ok,I.os,I.bare,#[λb o e n hb W=>?_,λb o e n hb W=>?_,I.base.free,λb o e W=>?_,I.base.tups,I.base.frzs,I.base.tbls],#[m,hn.sameBut hs ∅,λj y v' F e2 e3=>?_],λy c' e=>?_,I.free,I.freeC,λp hp=>?_,D #[oc,GG,I.freeC x c hc] hs,by simpa using I.len] #[c,hs,YY hc]
   . show(hs.2 b (c_ (eS (bX e) (I.ok.cab x c kq hc)))).trans (I.base.keep b o e n hb W)
   . let(sl,F):=I.base.slot b o e n hb W;show#[sl,(hs.2 b (c_ (eS (bX e) (I.ok.cab x c kq hc)))).trans F]
   . let(o',F):=I.base.there b o e W;show#[o',(hs.2 b (c_ (eS (bX e) (I.ok.cab x c kq hc)))).trans F]
   . by_cases hj:j=i
     . subst hj;rw[hi]at F;cases F;rw[ke xC]at e2;cases e2;show#[u,r,YY #[Zl hk,c,hc,qE]]
     . rw[nK ()]at e2;let(u',r',q):=hl j y v' F e2 e3;show#[u',r',?_];obtain q|⟨k,c',e,z'⟩:=q
       . show Zl q
       . show YY #[k,c',e,z'.sameBut hs ?_];rintro rfl;show hj (J1 hN F (I.ok.inj _ _ _ e hc▸hi))
   . by_cases mx:c'=c
     . grind
     . let(w2,z2):=I.cell y c' e;show#[w2,z2.sameBut hs mx]
   . let(e,n,ne,nf,d):=I.pin p hp;show#[(hs.2 p.1 ?_).trans e,n,ne,nf,d];grind
def J2(I:ai X ae U H s)(z:X.N.Nodup)(hi:X.N[i]?=!x)(D:Loc X.env.scope x)(r:aw v u)
 (h:∀s',ai X ae (U.set i (!v)) H s'->Q #[] s') (j:X.fn x=G\/X.env.scope.names.lookup x=!.local:=by first |show Zl O |show YY O |assumption):wpAny ZO A (storeName X.env x u) Q E s:=
 Hc I z hi D r (λs' q _=>h s' q) j
def ai.call'(I:ai X ae U H s)(q:s'.os=s.os)(u:Un (frs X.stack) ch H H' s.heap s'.heap)(i:je X.prog X.w H' s'.heap)(z:AllBare s'.gens)
 (j:∀b∈ch,(b∈X.ex\/X.s₀.heap.objs.size<=b)/\b≠X.env.locals/\(∀x c,X.env.cells.lookup x=!c->c≠b)/\∀p∈X.pn++ae,p.1≠b):ai X ae U H' s':=by
 let(h',D,N,F,o'):=s';let e:=q;subst e;show I.call u i z j
end
abbrev XK:=Value->Option Addr->Hp->Prop
abbrev St:=List (Option V)
abbrev VK:=V->Hp->Prop
abbrev TE:=St->Hp->VK->Prop
abbrev TT:=St->Hp->(Bool->Hp->Prop)->Prop
abbrev TA:=St->Hp->(List V->Hp->Prop)->Prop
structure f7 where
 nx:St->Hp->Prop
 rt:VK
 bk:St->Hp->Prop:=λ_ _=>False
 ct:St->Hp->Prop:=λ_ _=>False
abbrev TS:=f7->St->Hp->Prop
def EP(X:Cx)(ae:List (Addr×Obj))(U:St)(Q:VK)(u:Value)(s':Shared):Prop:=∃v H',ai X ae U H' s'/\aw v u/\Q v H'
def TP(X:Cx)(ae:List (Addr×Obj))(U:St)(Q:Bool->Hp->Prop)(b:Bool)(s':Shared):Prop:=∃H',ai X ae U H' s'/\Q b H'
def AP(X:Cx)(ae:List (Addr×Obj))(U:St)(Q:List V->Hp->Prop)(us:List Value)(s':Shared):Prop:=∃vs H',ai X ae U H' s'/\am vs us/\Q vs H'
def SP(X:Cx)(ae:List (Addr×Obj))(D:f7)(f:Flow)(s':Shared):Prop:=
 match f with
 |.next=>∃U' H',ai X ae U' H' s'/\D.nx U' H'
 |.brk=>∃U' H',ai X ae U' H' s'/\D.bk U' H'
 |.cont=>∃U' H',ai X ae U' H' s'/\D.ct U' H'
 |.ret u=>∃v U' H',ai X ae U' H' s'/\aw v u/\D.rt v H'
def PE(X:Cx)(e:Expr)(t:TE):Prop:=
 ∀(ae:List (Addr×Obj))(s:Shared)(U:St)(H:Hp)(Q:VK),ai X ae U H s->t U H Q->wpAny (model X.prog X.w) X.A (eval e X.env) (EP X ae U Q) X.xe s
def PT(X:Cx)(e:Expr)(t:TT):Prop:=
 ∀(ae:List (Addr×Obj))(s:Shared)(U:St)(H:Hp)(Q:Bool->Hp->Prop),ai X ae U H s->t U H Q->wpAny (model X.prog X.w) X.A (isTrue e X.env (eval e X.env)) (TP X ae U Q) X.xe s
def PW(X:Cx)(e:Expr)(t:TT):Prop:=
 ∀(whole:Sem Value)(ae:List (Addr×Obj))(s:Shared)(U:St)(H:Hp)(Q:Bool->Hp->Prop),ai X ae U H s->t U H Q->wpAny (model X.prog X.w) X.A (isTrue e X.env whole) (TP X ae U Q) X.xe s
def PW.pt(h:PW X e t):PT X e t:=h _
def PA(X:Cx)(es:List Expr)(t:TA):Prop:=
 ∀(pos:Pos)(ae:List (Addr×Obj))(s:Shared)(U:St)(H:Hp)(Q:List V->Hp->Prop),ai X ae U H s->t U H Q->wpAny (model X.prog X.w) X.A (spliced (backTo pos (starEach es X.env))) (AP X ae U Q) X.xe s
def PS(X:Cx)(st:Stmt)(t:TS):Prop:=
 ∀(ae:List (Addr×Obj))(s:Shared)(U:St)(H:Hp)(D:f7),ai X ae U H s->t D U H->wpAny (model X.prog X.w) X.A (exec st X.env) (SP X ae D) X.xe s
def jF(X:Cx)(st:List Stmt)(t:TS):Prop:=
 ∀(ae:List (Addr×Obj))(s:Shared)(U:St)(H:Hp)(D:f7),ai X ae U H s->t D U H->wpAny (model X.prog X.w) X.A (execs st X.env) (SP X ae D) X.xe s
def cY(h:wpAny ZO A t Q E s)(i:∀a s,Q a s->Q' a s):wpAny ZO A t Q' E s:=wpAny_mono h i λ_ _ x=>x
section
variable {X:Cx}
def qS(j:PE X a ta)(D:PE X b tb){U:St}{ZN:V->V->Hp->Prop}(I:ai X ae U H s)(h:ta U H λx H1=>tb U H1 λy H2=>ZN x y H2)
 {f:Value->Value->Sem α}
 (N:∀v u i x y H2,ai X ae U H2 i->aw x v->aw y u->ZN x y H2->wpAny (model X.prog X.w) X.A (f v u) Q X.xe i):
 wpAny (model X.prog X.w) X.A (eval a X.env) (λv q=>wpAny (model X.prog X.w) X.A (eval b X.env) (λu F=>wpAny (model X.prog X.w) X.A (f v u) Q X.xe F) X.xe q) X.xe s:=by
 show cY (j ae s U H _ I h) λv z z1=>?_;let(x,H1,I1,r1,q1):=z1;show cY (D ae z U H1 _ I1 q1) λu i z2=>?_;let(y,H2,I2,r2,q2):=z2;grind
def um(i:Nat):TE:=λU H Q=>∃v,U[i]?=!(!v)/\Q v H
def tC(v:V):TE:=λ_ H Q=>Q v H
def GH{pos:Pos}(hN:X.N[i]?=!x)(hv:R7 X.env.scope x)(q:(x==("__debug__" : Str))=M:=by decide)(z:(x==("__classdict__" : Str))=M:=by decide):PE X (.Name x pos) (um i):=by
 intro ae s U H Q I h;let(v,e,h):=h;let(m,W,hl):=I.loc;let(u,r,l):=hl i x v hN e hv;have fin:EP X ae U Q u s:=#[v,H,I,r,h];obtain⟨hk,F⟩|⟨hk,c,D,j⟩:=l
 . show wpAny_Name (wpAny_loadName_local I.ok.kind hk W F fin) q
 . obtain hk|hk:=hk
   . show wpAny_Name (wpAny_loadName_cell I.ok.kind hk D j fin) q
   . show wpAny_Name (wpAny_loadName_free I.ok.kind hk D j fin z) q
def GI{i j pos}:PE X (.Constant (.int i) j pos) (tC (.int i)):=λ_ _ _ H _ I h=>wpAny_Constant_int #[.int i,H,I.tok _,#[_,O],h]
def GN{j pos}:PE X (.Constant .none j pos) (tC .non):=λ_ _ _ H _ I h=>Constant_none #[.non,H,I,O,h]
def GO{x j pos}:PE X (.Constant (.str x) j pos) (tC (.str x)):=λ_ _ _ H _ I h=>Calls.Constant_str #[.str x,H,I.tok _,#[_,O],h]
def Gl(X:Cx)(x:Str):Prop:=X.env.kindOf x=!.globalImplicit
def Og{U:St}(I:ai X ae U H s)(i:Gl X x)(q:X.mg x=!u)(h:Q u s)
 (j:(x==("__debug__" : Str))=M:=by decide):wpAny (model X.prog X.w) X.A (eval (.Name x pos) X.env) Q E s:=
 Calls.Name_function_global I.ok.kind i (Calls.loadGlobal_global (by rw[I.ok.glob];show I.mod.glob.keeps I.bk) q h) j
def yU{U:St}{pos:Pos}(I:ai X ae U H s)(j:Gl X x)(D:X.mg x=J)(q:bootBuiltins x=!u)(h:Q u s)
 (i:x ≠ "__name__":=by decide) (z:(x==("__debug__" : Str))=M:=by decide):wpAny (model X.prog X.w) X.A (eval (.Name x pos) X.env) Q E s:=by
 let(F,h1,h2):=I.mod.blt;show Calls.Name_function_global I.ok.kind j (Calls.loadGlobal_builtin (by rw[I.ok.glob];show I.mod.glob.keeps I.bk) D (by rw[I.ok.blt];show h1.keeps I.bk) ((h2 x i).trans q) h) z
variable {a b:Expr}{ta tb:TE}{pos:Pos}
variable {tA og:TT}{ax:List Expr}
def xD(t u:TT):TT:=λU H Q=>t U H λc H1=>if c=G then u U H1 Q else Q M H1
def xE(t u:TT):TT:=λU H Q=>t U H λc H1=>if c=G then Q G H1 else u U H1 Q
def GU(t:TT):TT:=λU H Q=>t U H λc H1=>Q (not c) H1
def Y5(i:PT X a tA):PW X (.BoolOp .And [a] pos) tA:=by
 intro wh ae s U H Q I h;show isTrue_and (cY (i ae s U H Q I h) λc j e=>?_);cases c with
 |true=>show isTrue_and_nil e
 |false=>show e
def GV(i:PT X a tA):PW X (.BoolOp .Or [a] pos) tA:=by
 intro wh ae s U H Q I h;show isTrue_or (cY (i ae s U H Q I h) λc j e=>?_);cases c with
 |false=>show isTrue_or_nil e
 |true=>show e
def GW(i:PT X a tA)(q:PW X (.BoolOp .And (b::ax) pos) og):PW X (.BoolOp .And (a::b::ax) pos) (xD tA og):=by
 intro wh ae s U H Q I h;show isTrue_and (cY (i ae s U H _ I h) λc j z3=>?_);let(H1,I1,q1):=z3;cases c with
 |true=>show q wh ae j U H1 Q I1 q1
 |false=>show#[H1,I1,q1]
def GY(i:PT X a tA)(q:PW X (.BoolOp .Or (b::ax) pos) og):PW X (.BoolOp .Or (a::b::ax) pos) (xE tA og):=by
 intro wh ae s U H Q I h;show isTrue_or (cY (i ae s U H _ I h) λc j z4=>?_);let(H1,I1,q1):=z4;cases c with
 |true=>show#[H1,I1,q1]
 |false=>show q wh ae j U H1 Q I1 q1
def G0(i:PT X a tA):PT X (.UnaryOp .Not a pos) (GU tA):=by intro ae s U H Q I h;show isTrue_not (i ae s U H (λc H1=>Q (not c) H1) I h)
def G1(ta tb:TE):TE:=λU H Q=>ta U H λx H1=>∃c,x=.bl c/\if c=G then tb U H1 Q else Q (.bl M) H1
def G2{op}(h:PE X a t):PE X (.BoolOp op [a] pos) t:=λae s U H Q I i=>BoolOp_one (h ae s U H Q I i)
def G_(j:PE X a ta)(z:PE X (.BoolOp .And (b::ax) pos) tb):PE X (.BoolOp .And (a::b::ax) pos) (G1 ta tb):=by
 intro ae s U H Q I h;show BoolOp_and (cY (j ae s U H _ I h) λv q z5=>?_);let(x,H1,I1,r1,i):=z5;let(c,rfl,i):=i;cases r1;show wpAny_truthy_bool ?_;cases c with
 |true=>show z ae q U H1 Q I1 i
 |false=>show#[.bl M,H1,I1,O,i]
def He(t:TT)(ta tb:TE):TE:=λU H Q=>t U H λc H1=>if c=G then ta U H1 Q else tb U H1 Q
def Vx(z:PT X c tA)(j:PE X a ta)(q:PE X b tb):PE X (.IfExp c a b pos) (He tA ta tb):=by
 intro ae s U H Q I h;show wpAny_IfExp (cY (z ae s U H _ I h) λd i z6=>?_);let(H1,I1,q1):=z6;cases d with
 |true=>show j ae i U H1 Q I1 q1
 |false=>show q ae i U H1 Q I1 q1
end
def bV(K:FG)(H:Hp)(a:Addr)(xs:List V):Prop:=
 Rd H a (.lst xs)\/
  ∃(o:Obj)(br:Array Value)(n:Nat),K.lookup a=!o/\o.cls=.type "list"/\o.dict=J/\o.data=.seq br n/\br.size<=sizeLine/\am xs br.toList
def cT(K:FG)(H:Hp)(a:Addr)(xs:List V):Prop:=
 Rd H a (.tup xs)\/
  ∃(o:Obj)(br:Array Value)(n:Nat),K.lookup a=!o/\o.cls=.type "tuple"/\o.data=.seq br n/\br.size<=sizeLine/\am xs br.toList
noncomputable def Hg:Value->Option V
 |.none=>!.non
 |.bool b=>!(.bl b)
 |.int i _=>!(.int i)
 |.str x _=>!(.str x)
 |.bytes b _=>!(.byt b)
 |.float b _=>!(.flt b)
 |YV a=>!(.ref a)
 |.type n=>!(.ty n)
 |_=>J
def aw.abs(r:aw x u):Hg u=!x:=by
 cases x with
 |non=>cases r;rfl
 |bl _=>cases r;rfl
 |int _=>let(t,rfl):=r;rfl
 |str _=>let(t,rfl):=r;rfl
 |byt _=>let(t,rfl):=r;rfl
 |flt _=>let(t,rfl):=r;rfl
 |ref _=>cases r;rfl
 |ty _=>cases r;rfl
def aw.inj(r:aw x u)(q:aw y u):x=y:=d_ (r.abs.symm.trans q.abs)
theorem am.inj:∀{xs ys:List V}{i:List Value},am xs i->am ys i->xs=ys
 |_,_,_,.nil,.nil=>rfl
 |_,_,_,.cons r t,.cons q j=>by rw[r.inj q,am.inj t j]
section
variable {X:Cx}{ae:List (Addr×Obj)}{U:St}{H:Hp}{s:Shared}{a:Addr}{xs ys:List V}
def bV.of{K:FG}(h:H a=!(.lst xs)):bV K H a xs:=Zl (Zl h)
def cT.of{K:FG}(h:H a=!(.tup xs)):cT K H a xs:=Zl (Zl h)
def ai.list(I:ai X ae U H s)(h:bV X.K H a xs):∃i:List Value,am xs i/\PlainL s.heap a i.toArray/\xs.length<=sizeLine:=by
 obtain h|⟨o,i,n,hk,q,j,hs,D,r⟩:=h
 . let(z,i,n,r,e):=h.ok I.hok;show#[i,r,#[_,n,e,O,O,O],z]
 . show#[i.toList,r,#[o,n,I.kIn a o hk,q,j,by simpa using hs],?_];let e:=r.length;grind
def ai.tuple(I:ai X ae U H s)(h:cT X.K H a xs):∃i:List Value,am xs i/\IsTup s.heap a i.toArray/\xs.length<=sizeLine:=by
 obtain h|⟨o,i,n,hk,j,hs,q,r⟩:=h
 . let(z,i,r,p):=h.ok I.hok;grind
 . show#[i.toList,r,#[o,I.kIn a o hk,j,n,by simpa using hs],?_];let e:=r.length;grind
def ai.list_inj(I:ai X ae U H s)(h:bV X.K H a xs)(h':bV X.K H a ys):xs=ys:=by
 let(j,r,(o,n,e,_,_,d),_):=I.list h;let(i,F,(o',N,q,_,_,z),_):=I.list h';rw[e]at q;cases q;rw[d]at z;injection z with D _;have:j=i:=by simpa using congrArg Array.toList D
 subst this;show r.inj F
def ai.tuple_inj(I:ai X ae U H s)(h:cT X.K H a xs)(h':cT X.K H a ys):xs=ys:=by
 let(j,r,(o,e,_,n,d),_):=I.tuple h;let(i,F,(o',q,_,N,z),_):=I.tuple h';rw[e]at q;cases q;rw[d]at z;injection z with D _;have:j=i:=by simpa using congrArg Array.toList D
 subst this;show r.inj F
end
noncomputable abbrev Cx.wish (X:Cx) (E:Value->Shared->Prop):Cx:={ X with xe:=E }
abbrev Cx.nox(X:Cx):Cx:=X.wish λ_ _=>False
theorem Cx.Ok.wish{X:Cx}(ok:X.Ok)(E:Value->Shared->Prop):(X.wish E).Ok:=
 #[ok.mod,ok.kind,ok.glob,ok.blt,ok.above,ok.inj,ok.has,ok.cab,ok.hd,ok.frames,ok.stk,ok.exf,ok.bs,ok.bsz,ok.noex,ok.exfs,ok.funs,ok.frf]
def Cx.Ok.unwish{X:Cx}(ok:(X.wish E).Ok):X.Ok:=
 #[ok.mod,ok.kind,ok.glob,ok.blt,ok.above,ok.inj,ok.has,ok.cab,ok.hd,ok.frames,ok.stk,ok.exf,ok.bs,ok.bsz,ok.noex,ok.exfs,ok.funs,ok.frf]
section
variable {X:Cx}{ae:List (Addr×Obj)}{U:St}{H:Hp}{s:Shared}{E:Value->Shared->Prop}
theorem ai.wish(I:ai X ae U H s)(E:Value->Shared->Prop):ai (X.wish E) ae U H s:=#[I.ok.wish E,I.os,I.bare,I.base,I.loc,I.cell,I.free,I.freeC,I.pin,I.hok,I.len]
theorem ai.unwish(I:ai (X.wish E) ae U H s):ai X ae U H s:=#[I.ok.unwish,I.os,I.bare,I.base,I.loc,I.cell,I.free,I.freeC,I.pin,I.hok,I.len]
theorem SP.unwish(h:SP (X.wish E) ae D f s'):SP X ae D f s':=by
 cases f with
 |next=>let(i,H',I,q):=h;show#[i,H',I.unwish,q]
 |brk=>let(i,H',I,q):=h;show#[i,H',I.unwish,q]
 |cont=>let(i,H',I,q):=h;show#[i,H',I.unwish,q]
 |ret u=>let(v,i,H',I,r,q):=h;show#[v,i,H',I.unwish,r,q]
theorem jF.nox{st:List Stmt}(h:jF X.nox st t):jF X st t:=λae s U H D I i=>
 wpAny_mono (h ae s U H D (I.wish _) i) (λ_ _ q=>q.unwish) λ_ _ z=>False.elim z
end
section
variable {X:Cx}{st:Stmt}{ax:List Stmt}{t u:TS}{e:Expr}{te:TE}{pos:Pos}
def HA:TS:=λD U H=>D.nx U H
def HC(t u:TS):TS:=λD U H=>t { D with nx:=u D } U H
def Y6:jF X [] HA:=λ_ _ U H _ I h=>wpAny_execs_nil #[U,H,I,h]
def Vy(h1:PS X st t)(h2:jF X ax u):jF X (st::ax) (HC t u):=by
 intro ae s U H D I h;show wpAny_execs_cons (cY (h1 ae s U H { D with nx:=u D } I h) λf z q=>?_);cases f with
 |next=>
  let(F,H',j,q):=q;show h2 ae z F H' D j q
 |ret v=>show q
 |brk=>show q
 |cont=>show q
def Y7(h1:PS X st t):jF X [st] t:=by
 intro ae s U H D I h;show wpAny_execs_cons (cY (h1 ae s U H D I h) λf F q=>?_);cases f with
 |next=>show wpAny_execs_nil q
 |ret v=>show q
 |brk=>show q
 |cont=>show q
def ai.quiet{U:St}(I:ai X ae U H s):interactive X.env=M:=by simp[interactive,I.ok.kind]
def JC(te:TE):TS:=λD U H=>te U H λ_ H1=>D.nx U H1
def qj(he:PE X e te)(hs:swapsWith e J pos.line X.env=pure M:=by rfl):PS X (.Expr e pos) (JC te):=by intro ae s U H D I h;show wpAny_Expr_any (cY (he ae s U H _ I h) λv i ⟨x,H1,I1,r1,q1⟩=>#[U,H1,I1,q1]) I.quiet hs
def HG(te:TE):TS:=λD U H=>te U H D.rt
def R8(he:PE X e te):PS X (.Return (!e) pos) (HG te):=by intro ae s U H D I h;show wpAny_Return_some (cY (he ae s U H _ I h) λv i ⟨x,H1,I1,r1,q1⟩=>#[x,U,H1,I1,r1,q1])
def HI(c:TT)(t u:TS):TS:=λD U H=>c U H λb H1=>if b=G then t D U H1 else u D U H1
def HM(z:PT X c tc)(j:jF X a t)(q:jF X b u):PS X (.If c a b pos) (HI tc t u):=by
 intro ae s U H D I h;show wpAny_If (cY (z ae s U H _ I h) λd i z9=>?_);let(H1,I1,q1):=z9;cases d with
 |true=>show j ae i U H1 D I1 q1
 |false=>show q ae i U H1 D I1 q1
end
abbrev TG:=V->St->Hp->(St->Hp->Prop)->Prop
abbrev yE:=List V->St->Hp->(St->Hp->Prop)->Prop
def PG(X:Cx)(target:Expr)(t:TG):Prop:=
 ∀(ae:List (Addr×Obj))(s:Shared)(U:St)(H:Hp)(v:V)(u:Value)(Q:St->Hp->Prop),ai X ae U H s->aw v u->t v U H Q->
  wpAny (model X.prog X.w) X.A (assign target X.env u) (λ_ s'=>∃U' H',ai X ae U' H' s'/\Q U' H') X.xe s
def R9(X:Cx)(ts:List Expr)(t:yE):Prop:=
 ∀(ae:List (Addr×Obj))(s:Shared)(U:St)(H:Hp)(vs:List V)(us:List Value)(Q:St->Hp->Prop),ai X ae U H s->am vs us->t vs U H Q->
  wpAny (model X.prog X.w) X.A (assignInOrder ((assignEach ts X.env).map (·.2)) us) (λ_ s'=>∃U' H',ai X ae U' H' s'/\Q U' H') X.xe s
abbrev Vz:=V->V->V->Hp->(Hp->Prop)->Prop
def VB(X:Cx)(t:Vz):Prop:=
 ∀(ae:List (Addr×Obj))(s:Shared)(U:St)(H:Hp)(o i v:V)(ov iv u:Value)(Q:Hp->Prop),ai X ae U H s->aw o ov->aw i iv->aw v u->t o i v H Q->
  wpAny (model X.prog X.w) X.A (setItem ov iv u) (λ_ s'=>∃H',ai X ae U H' s'/\Q H') X.xe s
section
variable {X:Cx}{pos:Pos}
def JD(i:Nat):TG:=λv U H Q=>Q (U.set i (!v)) H
def Oh(D:X.N.Nodup)(hi:X.N[i]?=!x)(z:Loc X.env.scope x)(j:X.fn x=G\/X.env.scope.names.lookup x=!.local:=by first |show Zl O |show YY O |assumption):PG X (.Name x pos) (JD i):=by intro ae s U H v u Q I r h;show wpAny_assign_Name (J2 I D hi z r (λs' q=>#[_,H,q,h]) j)
def xI:yE:=λvs U H Q=>vs=[]/\Q U H
def X8(t:TG)(u:yE):yE:=λvs U H Q=>∃v r,vs=v::r/\t v U H λU' H'=>u r U' H' Q
def fX:R9 X [] xI:=by intro ae s U H j i Q I r h;let(e,h):=h;subst e;show assignInOrder_nil #[U,H,I,h]
def bw(h1:PG X e t)(h2:R9 X es u)
 (hs:(assignEach (e::es) X.env).map (·.2)=assign e X.env::(assignEach es X.env).map (·.2):=by rfl):R9 X (e::es) (X8 t u):=by
 intro ae s U H z D Q I r h;let(v,F,i,h):=h;subst i;cases r with
 |cons r q=>
  rw[hs];show assignInOrder_cons (cY (h1 ae s U H _ _ _ I r h) λ_ j ⟨U1,H1,I1,q1⟩=>?_);show h2 ae j U1 H1 _ _ Q I1 q q1
def HP(K:FG)(n:Nat)(t:yE):TG:=λv U H Q=>∃a xs,v=.ref a/\cT K H a xs/\xs.length=n/\t xs U H Q
def HU{k:Nat}(hc:X.calm=true)(h:R9 X es t)
 (hn:(assignEach es X.env).length=n:=by rfl) (HV:(assignEach es X.env).findIdx? (·.1)=none:=by rfl):PG X (.Tuple es k pos) (HP X.K n t):=by
 intro ae s U H v u Q I r hw;let(a,xs,e1,hq,hl,hw):=hw;subst e1;cases r;let(br,rv,ht,hz):=I.tuple hq;show assign_Tuple_tuple (I.ok.hd hc) ht (by simp[hn,<-hl,rv.length]) HV λh' hx=>?_;let I1:=I.kept (t':=s.toks) λb o e=>hx b o (c_ (bX e)) e;show h ae _ U H xs _ Q I1 () hw
def VD(to ti:TE)(t:Vz):TG:=λv U H Q=>to U H λo H1=>ti U H1 λi H2=>t o i v H2 λH3=>Q U H3
def Dy(N:PE X o to)(hi:PE X i ti)(hs:VB X t)
 (z:∀v,assign (.Subscript o i pos) X.env v=(do
   let j <-holding [v] (eval o X.env)
   let q <-holding [v,j] (eval i X.env)
   standAt pos
   holding [v,j,q] (setItem j q v)
   release [v,j,q] []):=by intro _;rfl):PG X (.Subscript o i pos) (VD to ti t):=by
 intro ae s U H v u Q I r h
 rw[z]
 show al (wpAny_holding (cY (N ae s U H _ I h) λj F ⟨x,H1,I1,r1,q1⟩=>?_))
 show al (wpAny_holding (cY (hi ae F U H1 _ I1 q1) λq D ⟨y,H2,I2,r2,q2⟩=>?_))
 show al (wpAny_standAt (al (wpAny_holding (cY (hs ae D U H2 x y v j q u _ I2 r1 r2 r q2) λ_ W ⟨H3,I3,q3⟩=>?_))))
 show wpAny_release #[U,H3,I3,q3]
def QT(te:TE)(g:TG):TS:=λD U H=>te U H λx H1=>g x U H1 D.nx
def J3(he:PE X e te)(j:PG X tg g)(hs:swapsWithSole [tg] e pos.line X.env=pure M:=by rfl)(z:swappedStores [tg] e X.env=pure J:=by rfl)
 (h1:(assignEach [tg] X.env).map (·.2)=[assign tg X.env]:=by rfl):PS X (.Assign [tg] e pos) (QT te g):=by
 intro ae s U H D I h;show wpAny_Assign_stores (cY (he ae s U H _ I h) λv i HZ=>?_) hs z;let(x,H1,I1,r1,q1):=HZ;rw[h1];show cY (j ae i U H1 x v _ I1 r1 q1) λ_ F q=>q
def H_(z:X.N.Nodup)(hi:X.N[i]?=!x)(F:Loc X.env.scope x)(he:PE X e te)(hs:swapsWith e (!(.Name x pos')) pos.line X.env=pure M:=by rfl)(j:X.fn x=G\/X.env.scope.names.lookup x=!.local:=by first |show Zl O |show YY O |assumption):
 PS X (.Assign [.Name x pos'] e pos) (QT te (JD i)):=by
 intro ae s U H D I h;show wpAny_Assign_Name (cY (he ae s U H _ I h) λv Q Ic=>?_) hs;let(y,H1,I1,r1,q1):=Ic;show J2 I1 z hi F r1 (λW q=>#[_,H1,q,q1]) j
end
structure It where
 go:Nat->Hp->Prop
 yld:Nat->Hp->V->Hp->Prop
 stop:Nat->Hp->Prop
def mU(X:Cx)(ae:List (Addr×Obj))(H:Hp)(b:Addr):Prop:=
 H b=J/\b≠X.env.locals/\b∉X.fs/\(b∈X.ex\/X.s₀.heap.objs.size<=b)/\(∀x c,X.env.cells.lookup x=!c->c≠b)/\∀p∈X.pn++ae,p.1≠b
def ai.fpOk{U:St}{b:Addr}(I:ai X ae U H s)(i:s.heap.objs.size<=b)(j:H' b=J):mU X ae H' b:=by
 show#[j,hJ (eS I.lt i),I.nofs i,YY (eI I.sz i),λx c e z=>?_,λp D z=>?_]
 . let(v,q):=I.cell x c e;show absurd (eS q.lt ∅) (kR _)
 . show absurd (eS (bX (I.pin p D).1) ∅) (kR _)
structure fT(P:Program)(w:World)(K:FG)(tg:Expr)(ZU:It)(fp:List Addr)(it:Addr)(tn:Nat->Heap->Prop):Prop where
 mem:it∈fp
 obj:∀i h,tn i h->∀b∈fp,∃o,h.get? b=!o/\∀v,o.data≠.cell v
 keep:∀i h h',tn i h->(∀b∈fp,∀o,h.get? b=!o->h'.get? b=!o)->tn i h'
 item:∀(X:Cx),X.prog=P->X.w=w->X.K=K->X.calm=true->∀(i:Nat)(ae:List (Addr×Obj))(s:Shared)(U:St)(H:Hp)(E:Value->Shared->Prop),ai X ae U H s->(∀b∈fp,mU X ae H b)->tn i s.heap->ZU.go i H->
  wpAny (model P w) X.A (pyNext (.ref it)) (λr s1=>∃u,r=!u/\
   wpAny (model P w) X.A (letOwnedTupleGo tg (.ref it) u) (λ_ s2=>∃x H',ai X ae U H' s2/\aw x u/\ZU.yld i H x H'/\tn (i+1) s2.heap/\∀b∈fp,H' b=none) E s1) E s
 done:∀(X:Cx),X.prog=P->X.w=w->X.K=K->X.calm=true->∀(i:Nat)(ae:List (Addr×Obj))(s:Shared)(U:St)(H:Hp)(E:Value->Shared->Prop),ai X ae U H s->(∀b∈fp,mU X ae H b)->tn i s.heap->ZU.stop i H->
  wpAny (model P w) X.A (pyNext (.ref it)) (λr s1=>r=none/\ai X ae U H s1) E s
 self:∀(A:Around)(i:Nat)(s:Shared)(Q:Value->Shared->Prop)(E:Value->Shared->Prop),tn i s.heap->Q (.ref it) s->wpAny (model P w) A (pyIter (.ref it)) Q E s
abbrev TI:=St->Hp->(It->Hp->Prop)->Prop
def oi(X:Cx)(ae:List (Addr×Obj))(U:St)(tg:Expr)(ZN:It->Hp->Prop)(oj:Value)(s2:Shared):Prop:=
 ∃(it:Addr)(fp:List Addr)(tn:Nat->Heap->Prop)(ZU:It)(H':Hp),oj=YV it/\ai X ae U H' s2/\fT X.prog X.w X.K tg ZU fp it tn/\tn 0 s2.heap/\(∀b∈fp,mU X ae H' b)/\ZN ZU H'
def PI(X:Cx)(tg iter:Expr)(wi:TI):Prop:=
 ∀(ae:List (Addr×Obj))(s:Shared)(U:St)(H:Hp)(ZN:It->Hp->Prop),ai X ae U H s->wi U H ZN->
  wpAny (model X.prog X.w) X.A (eval iter X.env) (λv s1=>wpAny (model X.prog X.w) X.A (pyIter v) (oi X ae U tg ZN) X.xe s1) X.xe s
def QV(q:s.heap.get? it=!o)(j:o.cls=.type n)(z:o.data=.fields vs)
 (D:["enumerate","zip","dict_itemiterator","dict_reverseitemiterator","odict_iterator","itertools.zip_longest","itertools.pairwise"].contains n=M) (i:Q #[] s):wpAny ZO A (letOwnedTupleGo tg (YV it) u) Q E s:=by
 cases tg<;>first
  |show ay i
  | (cases u<;>first
      |show ay i
      | (show al (wpAny_load q ?_)
         rw[j,z];show wpAny ZO A (if (["enumerate","zip","dict_itemiterator","dict_reverseitemiterator","odict_iterator","itertools.zip_longest","itertools.pairwise"].contains n&&vs[0]?==!(rawInt _))=G then _ else _) Q E s;rw[aE ∅];show ay i))
def Yb(K:FG)(a:Addr):It:=
 #[λi H=>∃xs x,bV K H a xs/\xs[i]?=!x,λi H x H'=>H'=H/\∀xs,bV K H a xs->xs[i]?=!x,λi H=>∃xs,bV K H a xs/\xs.length<=i]
def Yc(K:FG)(a:Addr):It:=
 #[λi H=>∃xs x,cT K H a xs/\xs[i]?=!x,λi H x H'=>H'=H/\∀xs,cT K H a xs->xs[i]?=!x,λi H=>∃xs,cT K H a xs/\xs.length<=i]
def Yd(lo:Int)(n:Nat):It:=#[λi _=>i<n,λi H x H'=>H'=H/\x=.int (lo+i),λi _=>n<=i]
def Sd{K:FG}(a q:Addr):fT P w K tg (Yb K a) [q] q (λi h=>h.IsListIter q a i) where
 mem:=by simp
 obj:=λi h st b j=>by
  have e:b=q:=by simpa using j
  subst e;let(o,e,c,d):=st;show#[o,e,λv z=>by rw[d]at z;cases z]
 keep:=λi h h' st k=>st.at λo e=>k q (by simp) o e
 item:=by intro X hP hw hK hc i ae s U H E I F st hg;subst hP hw hK;let(xs,x,N,hx):=hg;let(br,rv,p,hz):=I.list N;let(u,hu,ru):=rv.get hx;let(Q,f1,f2,f3,f4,W):=F q (by simp);show wpAny_pyNext_list_item st p.isList (by simpa using hu) λh' D sb=>?_;let I1:=I.turned (t':=s.toks) (λb o j e=>(sb.2 b j).trans e) Q f1 f3 f4 W;let(o,e,c,d):=id D;show#[u,O,QV e c d () #[x,H,I1,ru,#[O,λys hy=>by rw[I.list_inj hy N];show hx],D,λb j=>(F b j).1]]
 done:=by intro X hP hw hK hc i ae s U H E I F st hg;subst hP hw hK;let(xs,N,hx):=hg;let(br,rv,p,hz):=I.list N;let(Q,f1,f2,f3,f4,W):=F q (by simp);let hl:=rv.length;show wpAny_pyNext_list_end (I.ok.hd hc) st p.isList ∅ λh' eb=>#[O,I.turned (λb o j e=>eb b o j e) Q f1 f3 f4 W]
 self:=λ_ _ _ _ _ st h=>wpAny_pyIter_listiter st h
def QW{K:FG}(a q:Addr):fT P w K tg (Yc K a) [q] q (λi h=>h.IsTupleIter q a i) where
 mem:=by simp
 obj:=λi h st b j=>by
  have e:b=q:=by simpa using j
  subst e;let(o,e,c,d):=st;show#[o,e,λv z=>by rw[d]at z;cases z]
 keep:=λi h h' st k=>st.at λo e=>k q (by simp) o e
 item:=by intro X hP hw hK hc i ae s U H E I F st hg;subst hP hw hK;let(xs,x,N,hx):=hg;let(br,rv,p,hz):=I.tuple N;let(u,hu,ru):=rv.get hx;let(Q,f1,f2,f3,f4,W):=F q (by simp);show wpAny_pyNext_tuple_item st (p) (by simpa using hu) λh' D sb=>?_;let I1:=I.turned (t':=s.toks) (λb o j e=>(sb.2 b j).trans e) Q f1 f3 f4 W;let(o,e,c,d):=id D;show#[u,O,QV e c d () #[x,H,I1,ru,#[O,λys hy=>by rw[I.tuple_inj hy N];show hx],D,λb j=>(F b j).1]]
 done:=by intro X hP hw hK hc i ae s U H E I F st hg;subst hP hw hK;let(xs,N,hx):=hg;let(br,rv,p,hz):=I.tuple N;let(Q,f1,f2,f3,f4,W):=F q (by simp);let hl:=rv.length;show wpAny_pyNext_tuple_end (I.ok.hd hc) st (p) ∅ λh' eb=>#[O,I.turned (λb o j e=>eb b o j e) Q f1 f3 f4 W]
 self:=λ_ _ _ _ _ st h=>wpAny_pyIter_tupleiter st h
def QX{K:FG}(j:Addr)(lo:Int)(n:Nat):fT P w K tg (Yd lo n) [j] j (λi h=>IsRangeIter h j (lo+(i:Nat)*1) ((n:Int)-(i:Nat)) 1) where
 mem:=by simp
 obj:=λi h st b q=>by
  have e:b=j:=by simpa using q
  subst e;show#[_,st,λv z=>by let z':=z;cases z']
 keep:=λi h h' st k=>k j (by simp) _ st
 item:=by intro X hP hw hK hc i ae s U H E I F st hg;subst hP hw hK;let(N,f1,f2,f3,f4,Q):=F j (by simp);let W:=Walks.range (prog:=X.prog) (w:=X.w) (I.ok.hd hc) j lo 1 n;show W.item i s _ _ hg st λv h' tk hv D kk=>?_;let(t,rfl):=hv;have I1:ai X ae U H { s with heap:=h',toks:=tk }:=I.turned (λb o q e=>kk b o ∅ e) N f1 f3 f4 Q;show#[_,O,QV (n:="range_iterator") D O O () #[.int (lo+i),H,I1,#[t,?_],#[O,O],D,λb q=>(F b q).1]];rw[Int.mul_one]
 done:=by intro X hP hw hK hc i ae s U H E I F st hg;let(N,f1,f2,f3,f4,Q):=F j (by simp);show wpAny_pyNext_range_end (I.ok.hd hc) st (by have:n<=i:=hg;lia) λh' eb=>#[O,I.turned (λb o q e=>eb b o q e) N f1 f3 f4 Q]
 self:=λ_ _ _ _ _ st h=>wpAny_pyIter_rangeiter st h
section
variable {X:Cx}{tg:Expr}
def VF{U:St}{lo hi:Int}(I:ai X ae U H s)(h1:-(2 ^ 62)<=lo)(h2:lo<2 ^ 62)(h3:-(2 ^ 62)<=hi)(h4:hi<2 ^ 62)
 (q:ZN (Yd lo (hi-lo).toNat) H):wpAny (model X.prog X.w) X.A (pyIter (YV s.heap.objs.size)) (oi X ae U tg ZN) E { s with heap:=s.heap.push { cls:=.type "range",data:=.fields (List.toArray [.int lo t,.int hi u,.int 1 v]) },toks:=W }:=by
 show wpAny_pyIter_range (IsRange.new ..) (small_one h1 h2 h3 h4) ?_;have D:ai X ae U H { s with heap:=s.heap.push { cls:=.type "range",data:=.fields (List.toArray [.int lo t,.int hi u,.int 1 v]) },toks:=W }:=I.kept λb o e=>cf _ e;show#[(s.heap.push { cls:=.type "range",data:=.fields (List.toArray [.int lo t,.int hi u,.int 1 v]) }).objs.size,[(s.heap.push { cls:=.type "range",data:=.fields (List.toArray [.int lo t,.int hi u,.int 1 v]) }).objs.size],_,_,H,O,
  D.kept λb o e=>cf _ e,QX _ lo (hi-lo).toNat,?_,λb Q=>?_,q]
 . have F:lo+((0:Nat):Int)*1=lo:=by simp
   have N:(((hi-lo).toNat:Nat):Int)-((0:Nat):Int)=Builtin.Range.rangeSize lo hi 1:=by rw[rangeSize_one];split<;>lia
   rw[F,N];show dA _ O
 . have e:b=(s.heap.push { cls:=.type "range",data:=.fields (List.toArray [.int lo t,.int hi u,.int 1 v]) }).objs.size:=by simpa using Q
   subst e;show D.fpOk (bv _) (D.hok.fresh (bv _))
def Iq(ta:TA):TI:=λU H ZN=>ta U H λvs H1=>∃j:Int,vs=[.int j]/\-(2 ^ 62)<=j/\j<2 ^ 62/\ZN (Yd 0 j.toNat) H1
def Ss(D:Gl X "range")(N:X.mg "range"=J)(z:PA X [a] ta)(hs:starEach [a] X.env=[(M,eval a X.env)]:=by rfl):PI X tg (.Call (.Name "range" p) [a] [] pos) (Iq ta):=by
 intro ae s U H ZN I h;show Call_ (yU I D N boot_range (PyProof.Rows.callWith_type1 (cY (z pos ae s U H _ I h) λus W Ix=>?_) hs O));let(vs,H1,I1,r1,i):=Ix;let(j,e,i,F,q):=i;subst e;cases r1 with
 |cons r Q=>
  cases Q;let(t,rfl):=r;show call_range_1 (VF I1 () () i F ∅)
def Iy(wi:TI)(g:TG)(tb:TS):TS:=λD U H=>wi U H λZU H1=>∃W:Nat->Nat->St->Hp->Prop,(∃m,W 0 m U H1)/\∀i m U H,W i m U H->
 (ZU.stop i H/\D.nx U H)\/(ZU.go i H/\∃N:St->Hp->Prop,(∀U' H',N U' H'->∃m',m'<m/\W (i+1) m' U' H')/\∀x H',ZU.yld i H x H'->g x U H' λU2 H2=>tb { D with nx:=N,ct:=N,bk:=D.nx } U2 H2)
def yV(fp:List Addr)(h:Heap):List (Addr×Obj):=fp.filterMap λb=>(h.get? b).map λo=>(b,o)
def w5(i:b∈fp)(e:h.get? b=!o):(b,o)∈yV fp h:=kQ.mpr #[b,i,by rw[e];rfl]
def Su(i:p∈yV fp h):p.1∈fp/\h.get? p.1=!p.2:=by
 let(b,j,e):=kQ.mp i;cases q:h.get? b with
 |none=>grind
 |some o=>
  grind
def ai.pinned{U:St}(I:ai X ae U H s)(i:∀b∈fp,mU X ae H b)(D:∀b∈fp,∃o,s.heap.get? b=!o/\∀v,o.data≠.cell v):ai X (ae++yV fp s.heap) U H s:=
 I.pins_of λp j=>(cx.mp j).elim (λz=>I.pin p (fB _ z)) λz=>by let(q,e):=Su z;let(F,N,Q,_):=i p.1 q;grind
def ai.unpinned{U:St}(I:ai X (ae++pl) U H s):ai X ae U H s:=I.pins_of λp i=>I.pin p ∅
def IA(hp:PassesOwn (model X.prog X.w) X.A X.env X.xe)(hc:X.calm=G)(hi:PI X tg iter wi)(hg:PG X tg g)(F:jF X body tb)
 (hs:∀x,foldedSetIterable iter X.env x=pure x:=by intro _;rfl):PS X (.For tg iter body [] pos) (Iy wi g tb):=by
 intro ae s U H D I h;show wpAny_For (cY (hi ae s U H _ I h) λv s1 h1=>cY h1 λoj s2 h2=>?_) hs;let(it,fp,tn,ZU,H2,e,I2,T,ip,f2,W,(m0,w0),turn):=h2;subst e;have Q:∀{H':Hp},(∀b∈fp,H' b=J)->∀b∈fp,mU X ae H' b:=λhn b F=>#[hn b F,(f2 b F).2];show codeAny_forLoop_any (λn s'=>∃i U' H',ai X ae U' H' s'/\tn i s'.heap/\(∀b∈fp,H' b=J)/\W i n U' H') ?_ m0 #[0,U,H2,I2,ip,λb F=>(f2 b F).1,w0];intro n s3 q0;let(i,U3,H3,I3,kr,xL,w3):=q0;obtain⟨stop,qn⟩|⟨go,N,hN,step⟩:=turn i n U3 H3 w3
 . show wpAny_passesOwn hp (cY (T.done X O O O hc i ae s3 U3 H3 X.xe I3 (Q xL) kr stop) λr s4 ⟨hr,I4⟩=>?_);subst hr;show wpAny_execs_nil #[U3,H3,I4,qn]
 . show wpAny_passesOwn hp (cY (T.item X O O O hc i ae s3 U3 H3 X.xe I3 (Q xL) kr go) λr s4 ⟨u,hr,h4⟩=>?_);subst hr;show wpAny_passesOwn hp (cY h4 λ_ s5 ⟨x,H5,I5,r5,y5,kt,qV⟩=>?_);let IB:=I5.pinned (Q qV) (T.obj _ _ kt);show wpAny_passesOwn hp (cY (hg _ s5 U3 H5 x u _ IB r5 (step x H5 y5)) λ_ s6 ⟨U6,H6,I6,q6⟩=>?_);show wpAny_passesOwn hp (cY (F _ s6 U6 H6 _ I6 q6) λf s7 q7=>?_);have q:∀{z:St}{H7:Hp},ai X (ae++yV fp s5.heap) z H7 s7->N z H7->∃m,m<n/\∃i U' H',ai X ae U' H' s7/\tn i s7.heap/\(∀b∈fp,H' b=J)/\W i m U' H':=λ{z H7} j n7=>by let(m',hm,w7):=hN z H7 n7;show#[m',hm,i+1,z,H7,j.unpinned,T.keep _ _ _ kt λb F o e=>(j.pin (b,o) (fB _ (fB _ (w5 F e)))).1,λb F=>?_,w7];let(o,e,d):=T.obj _ _ kt b F;show(j.pin (b,o) (fB _ (fB _ (w5 F e)))).2.1
   cases f with
   |next=>let(z,H7,j,n7):=q7;show q j n7
   |cont=>let(z,H7,j,n7):=q7;show q j n7
   |brk=>let(z,H7,j,q7):=q7;show#[z,H7,j.unpinned,q7]
   |ret v=>let(x7,z,H7,j,r7,q7):=q7;show#[x7,z,H7,j.unpinned,r7,q7]
end
abbrev R2:=V->V->Hp->VK->Prop
def jn(X:Cx)(f:Value->Value->Sem Value)(r:R2):Prop:=
 ∀(ae:List (Addr×Obj))(s:Shared)(U:St)(H:Hp)(x y:V)(v u:Value)(Q:VK),ai X ae U H s->aw x v->aw y u->r x y H Q->
  wpAny (model X.prog X.w) X.A (f v u) (EP X ae U Q) X.xe s
def q_(X:Cx)(f:Value->Sem Value)(r:V->Hp->VK->Prop):Prop:=
 ∀(ae:List (Addr×Obj))(s:Shared)(U:St)(H:Hp)(x:V)(v:Value)(Q:VK),ai X ae U H s->aw x v->r x H Q->
  wpAny (model X.prog X.w) X.A (f v) (EP X ae U Q) X.xe s
def mj(X:Cx)(f:Value)(r:List V->Hp->VK->Prop):Prop:=
 ∀(ae:List (Addr×Obj))(s:Shared)(U:St)(H:Hp)(xs:List V)(us:List Value)(Q:VK),ai X ae U H s->am xs us->r xs H Q->
  wpAny (model X.prog X.w) X.A (call f us) (EP X ae U Q) X.xe s
def IC(X:Cx)(r:V->Hp->(Bool->Hp->Prop)->Prop):Prop:=
 ∀(ae:List (Addr×Obj))(s:Shared)(U:St)(H:Hp)(x:V)(v:Value)(Q:Bool->Hp->Prop),ai X ae U H s->aw x v->r x H Q->
  wpAny (model X.prog X.w) X.A (truthy v) (TP X ae U Q) X.xe s
def Sv(r:R2)(ta tb:TE):TE:=λU H Q=>ta U H λx H1=>tb U H1 λy H2=>r x y H2 Q
def ID(r:V->Hp->VK->Prop)(ta:TE):TE:=λU H Q=>ta U H λx H1=>r x H1 Q
def rI(C:Int->Int->Prop)(g:Int->Int->V):R2:=λx y H Q=>∃i j,x=.int i/\y=.int j/\C i j/\Q (g i j) H
def yW(g:Int->Int->V):R2:=λx y H Q=>∃i j,x=.int i/\y=.int j/\Q (g i j) H
def rU(g:Int->V):V->Hp->VK->Prop:=λx H Q=>∃i,x=.int i/\Q (g i) H
section
variable {X:Cx}{a b c:Expr}{ta tb tc:TE}{pos:Pos}
def VG(j:PE X a ta)(D:PE X b tb){U:St}{ZN:V->V->Hp->Prop}(I:ai X ae U H s)
 (h:ta U H λx H1=>tb U H1 λy H2=>ZN x y H2) {f:Value->Value->Sem Value}
 (N:∀v u i x y H2,ai X ae U H2 i->aw x v->aw y u->ZN x y H2->wpAny (model X.prog X.w) X.A (f v u) Q X.xe i):
 wpAny (model X.prog X.w) X.A (eval a X.env) (λv q=>wpAny (model X.prog X.w) X.A (eval b X.env) (λu F=>wpAny (model X.prog X.w) X.A (f v u) Q X.xe F) X.xe q) X.xe s:=by
 show cY (j ae s U H _ I h) λv z IG=>?_;let(x,H1,I1,r1,q1):=IG;show cY (D ae z U H1 _ I1 q1) λu i IH=>?_;let(y,H2,I2,r2,q2):=IH;grind
def II(N:jn X (binaryOp op) r)(i:PE X a ta)(W:PE X b tb):PE X (.BinOp a op b pos) (Sv r ta tb):=by intro ae s U H Q I h;show wpAny_BinOp (VG i W I h λv u D x y H2 j F z q=>N ae D U H2 x y v u Q j F z q)
def IJ(q:q_ X (unaryOp op) r)(i:PE X a ta):PE X (.UnaryOp op a pos) (ID r ta):=by intro ae s U H Q I h;show UnaryOp_ (cY (i ae s U H _ I h) λv j ⟨x,H1,I1,r1,q1⟩=>q ae j U H1 x v Q I1 r1 q1)
def Ye{g:Int->Int->Int}
 (rule:∀(i j:Int)(t u:Tok)(s:Shared)(Q:Value->Shared->Prop)(E:Value->Shared->Prop),C i j->Q (.int (g i j) s.toks) { s with toks:=s.toks+1 }->wpAny (model X.prog X.w) X.A (f (.int i t) (.int j u)) Q E s):
 jn X f (rI C λi j=>.int (g i j)):=by
 intro ae s U H x y v u Q I W N h;let(i,j,rfl,rfl,hc,q):=h;let(t,rfl):=W;let(t',rfl):=N;show rule i j t t' s _ _ hc #[.int (g i j),H,I.tok _,#[_,O],q]
def xS{g:Int->Int->Int}
 (rule:∀(i j:Int)(t u:Tok)(s:Shared)(Q:Value->Shared->Prop)(E:Value->Shared->Prop),Q (.int (g i j) s.toks) { s with toks:=s.toks+1 }->wpAny (model X.prog X.w) X.A (f (.int i t) (.int j u)) Q E s):
 jn X f (yW λi j=>.int (g i j)):=by
 intro ae s U H x y v u Q I W N h;let(i,j,rfl,rfl,q):=h;let(t,rfl):=W;let(t',rfl):=N;show rule i j t t' s _ _ #[.int (g i j),H,I.tok _,#[_,O],q]
def x0{g:Int->Int->Bool}
 (rule:∀(i j:Int)(t u:Tok)(s:Shared)(Q:Value->Shared->Prop)(E:Value->Shared->Prop),Q (.bool (g i j)) s->wpAny (model X.prog X.w) X.A (f (.int i t) (.int j u)) Q E s):
 jn X f (yW λi j=>.bl (g i j)):=by
 intro ae s U H x y v u Q I D z h;let(i,j,rfl,rfl,q):=h;let(t,rfl):=D;let(F,rfl):=z;show rule i j t F s _ _ #[.bl (g i j),H,I,O,q]
def x6(i j:Int):Prop:=0<j/\j<1073741824
def x8(i j:Int):Prop:=0<=j/\j<=1000000/\i.natAbs<2 ^ 64
def QZ(i j:Int):Prop:=(-(2 ^ 64)<i/\i<2 ^ 64)\/(-(2 ^ 64)<j/\j<2 ^ 64)
def QZ.ok(h:QZ i j):IntMulOk i j:=by
 obtain⟨h1,h2⟩|⟨h1,h2⟩:=h
 . show .of_left (intBits_le_64 h1 h2)
 . show .of_right (intBits_le_64 h1 h2)
def IL:jn X (binaryOp .Add) (yW λi j=>.int (i+j)):=xS λ_ _ _ _ _ _ _ q=>add_int q
def Sw:jn X (binaryOp .Sub) (yW λi j=>.int (i-j)):=xS λ_ _ _ _ _ _ _ q=>sub_int q
def mZ:jn X (binaryOp .Mult) (rI QZ λi j=>.int (i*j)):=Ye λ_ _ _ _ _ _ _ z q=>mul_int q z.ok
def dH:jn X (binaryOp .FloorDiv) (rI x6 λi j=>.int (i/j)):=Ye λi j _ _ _ _ _ z q=>by let h1:=z.1;let h2:=z.2;show floordiv_int () ∅ (Zl (PyProof.noPylong_small ()))
def bW:jn X (binaryOp .Mod) (rI (λ_ j=>0<j) λi j=>.int (i%j)):=Ye λi j _ _ _ _ _ z q=>by let h1:=z;show mod_int' () ∅
def IM:jn X (binaryOp .Pow) (rI x8 λi j=>.int (i ^ j.toNat)):=Ye λ_ _ _ _ _ _ _ z q=>pow_int_small z.1 z.2.1 z.2.2 q
def IN{g:Int->Int}
 (rule:∀(i:Int)(t:Tok)(s:Shared)(Q:Value->Shared->Prop)(E:Value->Shared->Prop),Q (.int (g i) s.toks) { s with toks:=s.toks+1 }->wpAny (model X.prog X.w) X.A (f (.int i t)) Q E s):
 q_ X f (rU λi=>.int (g i)):=by
 intro ae s U H x v Q I F h;let(i,rfl,q):=h;let(t,rfl):=F;show rule i t s _ _ #[.int (g i),H,I.tok _,#[_,O],q]
def IP:q_ X (unaryOp .USub) (rU λi=>.int (-i)):=IN λ_ _ _ _ _ q=>neg_int q
end
noncomputable def scal:V->V->Bool
 |.non,.non=>G |.non,.int _=>G |.int _,.non=>G |.non,.bl _=>G |.bl _,.non=>G |.non,.str _=>G |.str _,.non=>G
 |.int _,.int _=>G |.bl _,.bl _=>G |.str _,.str _=>G |.byt _,.byt _=>G
 |.int _,.str _=>G |.str _,.int _=>G |.bl _,.str _=>G |.str _,.bl _=>G
 |_,_=>M
section
variable {X:Cx}{a b c:Expr}{ta tb tc:TE}{pos:Pos}
def Sx{U:St}(I:ai X ae U H s)(q:Q (.bl k) H)(e:k=k'):EP X ae U Q (.bool k') s:=by subst e;show#[.bl k,H,I,O,q]
def Yg:jn X (compareOp .Lt) (yW λi j=>.bl (decide (i<j))):=x0 λ_ _ _ _ _ _ _ q=>lt_int q
def qU:jn X (compareOp .Gt) (yW λi j=>.bl (decide (j<i))):=x0 λ_ _ _ _ _ _ _ q=>gt_int q
def Sy:jn X (compareOp .In) (λx y H Q=>∃i j,x=.str i/\y=.str j/\Q (.bl (not (Builtin.Str.occurrences j i 0 j.length 1).isEmpty)) H):=by intro ae s U H x y v u Q I D z h;let(i,j,rfl,rfl,q):=h;let(t,rfl):=D;let(F,rfl):=z;show in_str (Sx I q O)
def SJ:jn X (compareOp .Is) (λx y H Q=>y=.non/\Q (.bl (decide (x=.non))) H):=by
 intro ae s U H x y v u Q I i j h;let(rfl,q):=h;cases j;show is_none_gen (Sx I q ?_);cases x<;>first
  |(cases i;rfl)
  |(let(t,rfl):=i;rfl)
def jn.or(h:jn X f r)(h':jn X f r'):jn X f (λx y H Q=>r x y H Q\/r' x y H Q):=by
 intro ae s U H x y v u Q I j i q;obtain q|q:=q
 . show h ae s U H x y v u Q I j i q
 . show h' ae s U H x y v u Q I j i q
def bB(b:Expr)(h:op≠.In:=by decide)(h2:op≠.NotIn:=by decide):behindInMarks op b=M:=by
 have j:(op==CmpOp.In)=M:=by cases op<;>first |rfl |show absurd O h
 have i:(op==CmpOp.NotIn)=M:=by cases op<;>first |rfl |show absurd O h2
 cases b<;>simp[behindInMarks,j,i]
def Y8(N:jn X (compareOp op) r)(i:PE X a ta)(W:PE X b tb)(hm:behindInMarks op b=M):PE X (.Compare a [op] [b] pos) (Sv r ta tb):=by intro ae s U H Q I h;show wpAny_Compare1 (VG i W I h λv u D x y H2 j F z q=>N ae D U H2 x y v u Q j F z q) hm
def Yh(t:TE):TT:=λU H Q=>t U H λx H'=>∃k,x=.bl k/\Q k H'
def Y9(q:jn X (compareOp op) r)(i:PE X a ta)(D:PE X b tb)(N:behindInMarks op b=M):PT X (.Compare a [op] [b] pos) (Yh (Sv r ta tb)):=by
 intro ae s U H Q I h;show wpAny_isTrue_Compare1 (cY (i ae s U H _ I h) λv j ⟨x,H1,I1,r1,q1⟩=>cY (D ae j U H1 _ I1 q1) λu F ⟨y,H2,I2,r2,q2⟩=>
  cY (q ae F U H2 x y v u _ I2 r1 r2 q2) λc W ⟨z,H3,I3,r3,k,e,q3⟩=>?_) N
 subst e;cases r3;show wpAny_truthy_bool #[H3,I3,q3]
def VH(K:FG)(x:V)(H:Hp)(k:Bool):Prop:=
 match x with
 |.non=>k=M
 |.bl b=>k=b
 |.int i=>k=(i != 0)
 |.str y=>y.length<=sizeLine/\k=((y.length:Int) != 0)
 |.byt y=>y.size<=sizeLine/\k=((y.size:Int) != 0)
 |.ref p=>(∃xs,bV K H p xs/\k=not xs.isEmpty)\/(∃xs,cT K H p xs/\k=not xs.isEmpty)\/∃a_,H p=!(.dK a_)/\k=not a_.isEmpty
 |_=>False
def Q0(r:KV a_ vs):(not vs.isEmpty)=not a_.isEmpty:=by cases r<;>rfl
def Dz(r:am xs br):(not br.toArray.isEmpty)=not xs.isEmpty:=by cases r<;>simp
def vO:(sizeLine:Nat)<2 ^ 63:=by  decide
def IQ:IC X (λx H Q=>∃k,VH X.K x H k/\Q k H):=by
 intro ae s U H x v Q I D h;let(k,e,q):=h;let hs:=sizeLine_eq;cases x with
 |non=>
  cases D;let j:=e;subst j;show truthy_none #[H,I,q]
 |bl b=>
  cases D;let j:=e;subst j;show wpAny_truthy_bool #[H,I,q]
 |int i=>
  let(t,rfl):=D;let j:=e;subst j;show PySem.P.truthy_int #[H,I,q]
 |str y=>
  let(t,rfl):=D;obtain⟨hy,j⟩:y.length<=sizeLine/\k=((y.length:Int) != 0):=e;subst j;show PySem.P.truthy_str () #[H,I.tok _,q]
 |byt y=>
  let(t,rfl):=D;obtain⟨hy,j⟩:y.size<=sizeLine/\k=((y.size:Int) != 0):=e;subst j;show W.truthy_bytes () #[H,I.tok _,q]
 |ref p=>
  cases D;let j:=e;obtain⟨xs,N,j⟩|⟨xs,N,j⟩|⟨F,N,j⟩:=j
  . subst j;let(br,r,pl,hz):=I.list N;let z:=r.length;show wpAny_truthy_list pl.isList ∅ #[H,I.tok _,by rw[Dz r];show q]
  . subst j;let(br,r,pl,hz):=I.tuple N;let z:=r.length;show truthy_tuple pl ∅ #[H,I.tok _,by rw[Dz r];show q]
  . subst j;obtain⟨hz,hS,vs,r,m⟩:F.length<=sizeLine/\(p==sysModules)=M/\∃vs,KV F vs/\s.heap.DictOf (fM X.prog X.w) p vs:=I.hok p _ N;let z:=Paired.length r;show wpAny_truthy_dict hS m () #[H,I.tok _,by rw[Q0 r];show q]
 |_=>show(e).elim
def VJ(j:PE X a ta)(he:∀i,isTrue a X.env i=(do let v <-i;standAt a.pos;holding [v] (truthy v))):
 PT X a (λU H Q=>ta U H λx H'=>∃k,VH X.K x H' k/\Q k H'):=by
 intro ae s U H Q I h;show isTrue_plain (cY (j ae s U H _ I h) λv q ⟨x,H1,I1,r1,q1⟩=>IQ ae q U H1 x v Q I1 r1 q1) (he _)
def Q4:jn X (binaryOp .Add) (λx y H Q=>∃i j,x=.str i/\y=.str j/\i.length+j.length<=sizeLine/\Q (.str (i++j)) H):=by intro ae s U H x y v u Q I F z h;let(i,j,rfl,rfl,D,q):=h;let(t,rfl):=F;let(N,rfl):=z;show add_str (λN W=>#[.str (i++j),H,I.tok _,#[_,O],q]) D
def d4(r:am [x] us):∃u,us=[u]/\aw x u:=by
 cases r with
 |cons j i=>cases i;grind
def pq:mj X (.type "str") (λxs H Q=>∃i,xs=[.int i]/\i.natAbs.log2<1920/\Q (.str (toString i)) H):=by intro ae s U H xs z Q I r h;let(i,rfl,j,q):=h;let(u,rfl,t,rfl):=d4 r;show PySem.P.str_of_int j #[.str _,H,I.tok _,#[_,O],q]
def VL(K:FG)(x:V)(H:Hp)(n:Nat):Prop:=
 match x with
 |.str y=>y.length<=sizeLine/\n=y.length
 |.byt y=>y.size<=sizeLine/\n=y.size
 |.ref p=>(∃xs,bV K H p xs/\n=xs.length)\/∃xs,cT K H p xs/\n=xs.length
 |_=>False
def uo:mj X (.builtin "len") (λxs H Q=>∃x n,xs=[x]/\VL X.K x H n/\Q (.int n) H):=by
 intro ae s U H xs us Q I r h;let(x,n,rfl,e,q):=h;let(u,rfl,F):=d4 r;let hs:=sizeLine_eq;cases x with
 |str y=>
  let(t,rfl):=F;obtain⟨hy,j⟩:y.length<=sizeLine/\n=y.length:=e;subst j;show len_str () #[.int _,H,I.tok _,#[_,O],q]
 |byt y=>
  let(t,rfl):=F;obtain⟨hy,j⟩:y.size<=sizeLine/\n=y.size:=e;subst j;show W.len_bytes () #[.int _,H,I.tok _,#[_,O],q]
 |ref p=>
  cases F;let j:=e;obtain⟨xs,z,j⟩|⟨xs,z,j⟩:=j
  . subst j;let(D,N,pl,hz):=I.list z;let i:=N.length;show Calls.call_len_list pl.isList ∅ #[.int xs.length,H,I.tok _,#[_,by simp only[eP];rw[i]],q]
  . subst j;let(D,N,pl,hz):=I.tuple z;let i:=N.length;show len_tuple pl ∅ #[.int xs.length,H,I.tok _,#[_,by simp only[eP];rw[i]],q]
 |_=>show(e).elim
end
structure Cw(h:Heap)(x dx C:Addr)(mA:Str->Option Value):Prop where
 obj:h.get? x=!(W.instObj C dx)
 ns:h.Ns1 dx mA
 ne:dx≠x
def SM{h:Heap}(n:h.Ns1 dx mA):∃j,h.get? dx=!j/\∀name,W.lookIn name j=!(mA name):=by
 let(o,es,ep,F,D,hk,_,N):=n;show#[o,F,λname=>?_];let e:=N name;unfold nsFind findBy at e;rw[<-Array.find?_toList]at e;unfold W.lookIn;rw[D];dsimp only;split
 . grind
 . rename_i q;rw[q]at e;have a:es.toList.any (·.refKey)=M:=by rw[List.any_eq_false];intro y hy;let(z,t,i):=hk y ∅;simp[DictEntry.refKey,i]
   have Q:¬ es.toList.any (·.refKey)=G:=by rw[a];show nE
   grind
def Cw.look(I:Cw h x dx C mA):∃i,W.InstAt h x (W.instObj C dx) C (!i)/\∀name,W.lookIn name i=!(mA name):=
 let #[i,ho,hl]:=SM I.ns
 #[i,#[I.obj,O,O,ho],hl]
section
variable {prog:Program}{w:World}{A:Around}{E:Value->Shared->Prop}{s:Shared}{K:FG}{x dx C f:Addr}{mA:Str->Option Value}{name:Str}{v:Value}
def Za(X:K.In s.heap)(I:Cw s.heap x dx C mA)(z:W.plainGet K C name=G)(F:W.hasDictIn K C=G)
 (q:W.findIn K (YV C) name=!J) (N:mA name=!v) (i:W.handedIn v=G) (h:Q v { s with toks:=s.toks+1 }):
 wpAny (model prog w) A (getAttr (YV x) name expr) Q E s:=by
 let(od,D,hl):=I.look;show W.get_value X D (W.plainGet_of z).1 (W.findObj_own F q O ∅) i h
def VM(X:K.In s.heap)(I:Cw s.heap x dx C mA)(i:W.plainGet K C name=G)
 (j:W.findIn K (YV C) name=!(!(YV f))) (N:W.isFn K (YV f)=G) (q:mA name=J) (h:Q (YV f,[YV x]) s):
 wpAny (model prog w) A (getMethod (YV x) name pl) Q E s:=by
 let(F,z,D):=I.look;show W.method_fn X z (W.plainGet_of i).1 (W.plainGet_of i).2 j (beq_iff_eq.mp N) (by show (W.lookIn name F).map (·.isSome)=!M;rw[D,q];rfl) h
def Zb(X:K.In s.heap)(I:Cw s.heap x dx C mA)
 (hs:W.findIn K (YV C) "__setattr__"=!(!(.builtin "object.__setattr__"))) (hp:W.plainOver K C=G) (ht:W.takerIn K C name=!J) (hh:W.hasDictIn K C=G)
 (hw:PySem.Within mA ns) (fF:ns.length<=sizeLine)
 (h:∀h',Cw h' x dx C (λy=>if y=name then !v else mA y)->Heap.SameBut dx s.heap h'->Q #[] { s with heap:=h',toks:=s.toks+2 }):
 wpAny (model prog w) A (setAttr (YV x) name v) Q E s:=by
 let(od,ZU,hl):=I.look;show W.set_plain X ZU hs (W.osa_open X ZU hp ht λb=>?_);let(cd,hc,q):=W.any_some hh;let hx:=I.obj;show al (ay (al (al (wpAny_loadPart hx (al (W.Looks.here (W.looks_clsIn X hc) ?_))))));rw[q];show ay (al (ay (al ?_)));show wpAny_nsSet1 I.ns λh' i j=>?_;let(oD,esD,epD,D,z,hcD):=i.count (PySem.Within.cons name v hw);show al (wpAny_lookBehind D (by rw[z];show pastItsLine_dict ∅) ?_);show ay (h _ #[(j.2 _ (Ne.symm I.ne)).trans I.obj,i,I.ne] j)
def VN(X:K.In s.heap)(z:W.makesIn K C=G)
 (hi:W.findIn K (YV C) "__init__"=!(!(YV f))) (q:W.typeIn K (YV f)=!(.type "function"))
 (h:codeAny (model prog w) (A.under (.builtin "type.__call__" #[YV C::vs,kw])) (.call (YV f) #[YV (s.heap.objs.size+1)::vs,kw]) (W.InitBack (s.heap.objs.size+1) ZN)
   { s with heap:=(s.heap.push W.emptyDict).push (W.instObj C s.heap.objs.size) }):
 codeAny (model prog w) A (.call (YV C) #[vs,kw]) ZN s:=by
 show W.make_core (W.makes_of X z) (W.looks_findIn X hi) (λi=>W.bind_fn X i q) (Zl O) h
end
noncomputable def jr (f:Str) (v:V):List (Str×V)->List (Str×V)
 |[]=>[(f,v)]
 |(g,x)::r=>if g=f then (g,v)::r else (g,x)::jr f v r
theorem BZ(f g:Str)(v:V):∀fs:List (Str×V),(jr f v fs).lookup g=if g=f then !v else fs.lookup g
 |[]=>by
  show List.lookup g [(f,v)]=_;by_cases h:g=f
  . grind
  . grind
 |(k,x)::r=>by
  let i:=BZ f g v r;rw[show jr f v ((k,x)::r)=(if k=f then (k,v)::r else (k,x)::jr f v r) from O];by_cases hk:k=f
  . rw[av hk];by_cases h:g=k
    . grind
    . grind
  . rw[aE hk];by_cases h:g=k
    . grind
    . grind
theorem yX(f:Str)(v:V):∀fs:List (Str×V),f∈(jr f v fs).map (·.1)/\∀g,g∈fs.map (·.1)->g∈(jr f v fs).map (·.1)
 |[]=>#[by simp[jr],λg h=>by simp at h]
 |(k,x)::r=>by
  let(i,j):=yX f v r;rw[show jr f v ((k,x)::r)=(if k=f then (k,v)::r else (k,x)::jr f v r) from O];by_cases hk:k=f
  . grind
  . rw[aE hk];show#[?_,λg h=>?_]
    . grind
    . obtain e|e:=aT.mp h
      . grind
      . grind
theorem Ca(f:Str)(v:V):∀fs:List (Str×V),(jr f v fs).length<=fs.length+1
 |[]=>by simp[jr]
 |(k,x)::r=>by
  let i:=Ca f v r;rw[show jr f v ((k,x)::r)=(if k=f then (k,v)::r else (k,x)::jr f v r) from O];by_cases hk:k=f
  . grind
  . grind
def mR.some_of(r:mR (!v) o):∃u,o=!u/\aw v u:=by
 cases o with
 |none=>show(r).elim
 |some u=>show#[u,O,r]
def mR.none_of(r:mR J o):o=J:=by
 cases o with
 |none=>rfl
 |some u=>show(r).elim
def SN(r:aw v u):W.handedIn u=G:=by
 cases v with
 |non=>cases (r);rfl
 |bl b=>cases (r);rfl
 |int i=>let(t,e):=(r);cases e;rfl
 |str x=>let(t,e):=(r);cases e;rfl
 |byt b=>let(t,e):=(r);cases e;rfl
 |flt b=>let(t,e):=(r);cases e;rfl
 |ref a=>cases (r);rfl
 |ty n=>cases (r);rfl
section
variable {P:Program}{w:World}{H H':Hp}{h h':Heap}{a C dx:Addr}{fs eT:List (Str×V)}
def Gk(i:je P w H h)(e:H a=!(.ins C dx fs)):∃mA,Cw h a dx C mA/\(∀f,mR (fs.lookup f) (mA f))/\PySem.Within mA (fs.map (·.1))/\fs.length<=1000/\H dx=!(.own a):=by let(d,z,ne,j,mA,n,r,q):=(i a _ e);show#[mA,#[j,n,ne],r,q,z,d]
end
structure yZ(K:FG)(C:Addr):Prop where
 pg:W.plainGet K C Str.empty=true
 hd:W.hasDictIn K C=true
 po:W.plainOver K C=true
 sa:W.findIn K (.ref C) "__setattr__"=!(!(.builtin "object.__setattr__"))
def yZ.get{K:FG}(c:yZ K C)(f:Str):W.plainGet K C f=G:=c.pg
def j9(K:FG)(C:Addr)(f:Str):Prop:=W.findIn K (YV C) f=!J
def j9.taker{K:FG}(n:j9 K C f):W.takerIn K C f=!J:=by unfold W.takerIn;rw[show W.findIn K (YV C) f=some J from n];rfl
structure iX(K:FG)(C:Addr)(m:Str)(f:Addr):Prop where
 at_:W.findIn K (.ref C) m=!(!(.ref f))
 fn:W.isFn K (.ref f)=true
 kp:W.keepIn K (.ref f)=true
section
variable {X:Cx}{ae:List (Addr×Obj)}{U:St}{H:Hp}{s:Shared}{a C dx:Addr}{fs:List (Str×V)}{f:Str}{v:V}{A:Around}{E:Value->Shared->Prop}
def Q5(I:ai X ae U H s)(e:H a=!(.ins C dx fs))(c:yZ X.K C)(n:j9 X.K C f)(l:fs.lookup f=!v)
 (h:∀u s',ai X ae U H s'->aw v u->Q u s'):wpAny (model X.prog X.w) A (getAttr (YV a) f b) Q E s:=by
 let(mA,j,r,_):=Gk I.hok e;let(u,q,i):=mR.some_of (by rw[<-l];show r f);show Za I.kIn j (c.get f) c.hd n q (SN i) (h u _ (I.tok _) i)
def w6(I:ai X ae U H s)(e:H a=!(.ins C dx fs))(c:yZ X.K C)(k:iX X.K C m g)(l:fs.lookup m=J)
 (h:Q (YV g,[YV a]) s):wpAny (model X.prog X.w) A (getMethod (YV a) m pl) Q E s:=by
 let(mA,j,r,_):=Gk I.hok e;let i:=mR.none_of (by rw[<-l];show r m);show VM I.kIn j (c.get m) k.at_ k.fn i h
def Q6(I:ai X ae U H s)(e:H a=!(.ins C dx fs))(c:yZ X.K C)(n:j9 X.K C f)(hl:fs.length<1000)(W:aw y u)
 (h:∀s',ai X ae U (aS H a (.ins C dx (jr f y fs))) s'->Q #[] s'):wpAny (model X.prog X.w) A (setAttr (YV a) f u) Q E s:=by
 let(mA,i,r,D,_,F):=Gk I.hok e;have hz:(fs.map (·.1)).length<=sizeLine:=by rw[bq,sizeLine_eq];lia
 show Zb I.kIn i c.sa c.po n.taker c.hd D hz λh' j sb=>h _ ?_;have hd:∃o,h'.get? dx=!o:=let #[o,_,_,e',_]:=j.ns;#[o,e'];show I.write (by rw[e];show True.intro) (YY F) (λb q hb z=>(sb.2 b hb).trans z) hd ?_;show#[by rw[cR i.ne];show F,?_,i.ne,j.obj,_,j.ns,λg=>?_,λg N=>?_]
 . have:=Ca f y fs;lia
 . rw[BZ];by_cases q:g=f
   . rw[av q,av q];show W
   . grind
 . by_cases q:g=f
   . rw[q];show(yX f y fs).1
   . show(yX f y fs).2 g (D g λz=>N ?_);grind
def ai.made(I:ai X ae U H s):ai X ae U (aS (aS H s.heap.objs.size (.own (s.heap.objs.size+1))) (s.heap.objs.size+1) (.ins C s.heap.objs.size []))
 { s with heap:=(s.heap.push W.emptyDict).push (W.instObj C s.heap.objs.size) }:=by
 have e1:(s.heap.push W.emptyDict).get? s.heap.objs.size=!W.emptyDict:=dA s.heap rfl;have e2:((s.heap.push W.emptyDict).push (W.instObj C s.heap.objs.size)).get? (s.heap.objs.size+1)=!(W.instObj C s.heap.objs.size):=by
  have:=dA (s.heap.push W.emptyDict) (o:=W.instObj C s.heap.objs.size) rfl
  rwa [g7]at this
 let I1:=I.laid (o:=.own (s.heap.objs.size+1)) (t':=s.toks) (λb u q=>cf _ q) () #[_,e1];show I1.laid (λb u q=>cf _ q) (Nat.le_of_eq (g7 _ _)) ?_;have ne:s.heap.objs.size≠s.heap.objs.size+1:=c_ ();show#[by rw[cR ne,bU],d3 _,ne,e2,λ_=>none,(Heap.Ns1.of_empty #[W.emptyDict,(List.toArray []),_,e1,rfl,(λe he=>absurd he (by simp)),λ_=>rfl]).at λo q=>cf _ q,λ_=>True.intro,λy hy=>absurd rfl hy]
def Zc(j:attributeBase e f env (eval e env)=eval e env)
 (h:wpAny (model prog w) A (eval e env) (λo i=>wpAny (model prog w) A (getAttr o f G) Q E i) E s):wpAny (model prog w) A (eval (.Attribute e f pos) env) Q E s:=
 Attribute_any_ h (by rw[arm_eval_Attribute,j])
end
def IR(K:FG)(ta:TE)(f:Str):TE:=λU H Q=>ta U H λx H1=>∃a C dx fs v,x=.ref a/\H1 a=!(.ins C dx fs)/\yZ K C/\j9 K C f/\fs.lookup f=!v/\Q v H1
def IS(K:FG)(ta tv:TE)(f:Str):TS:=λD U H=>tv U H λy H1=>ta U H1 λx H2=>∃a C dx fs,x=.ref a/\H2 a=!(.ins C dx fs)/\yZ K C/\j9 K C f/\fs.length<1000/\
 D.nx U (aS H2 a (.ins C dx (jr f y fs)))
section
variable {X:Cx}{o e value:Expr}{f:Str}{pos pos' tpos:Pos}{ta tv:TE}
def IT(he:PE X e ta)(j:attributeBase e f X.env (eval e X.env)=eval e X.env):PE X (.Attribute e f pos) (IR X.K ta f):=by intro ae s U H Q I h;show Zc j (cY (he ae s U H _ I h) λu D IU=>?_);let(x,H1,I1,rx,a,C,dx,fs,v,ex,ea,c,n,l,q):=IU;subst ex;obtain rfl:u=Value.ref a:=rx;show Q5 I1 ea c n l λF N i z=>#[v,H1,i,z,q]
def IX(i:PE X o ta)(F:PE X value tv)(hs:swapsWith value (!(.Attribute o f pos')) pos.line X.env=pure M):PS X (.Assign [.Attribute o f pos'] value pos) (IS X.K ta tv f):=by intro ae s U H D I h;show plainObj_wpAny_Assign_Attribute (cY (F ae s U H _ I h) λu z IY=>?_) hs;let(y,H1,I1,ry,q):=IY;show cY (i ae z U H1 _ I1 q) λN W IZ=>?_;let(x,H2,I2,rx,a,C,dx,fs,ex,ea,c,n,l,q2):=IZ;subst ex;obtain rfl:N=Value.ref a:=rx;show Q6 I2 ea c n l ry λQ j=>#[U,_,j,q2]
def VP:V->V->Hp->VK->Prop:=λx y H Q=>∃i j,x=.int i/\y=.int j/\Q (.int (i+j)) H
end
structure gb(b:Bool)(k:Nat)(A:Around):Prop where
 hd:b=true->A.handled=none
 dp:A.depth+3*k+5<recursionLimit
 un:A.units+16*k+200<cLine
 gd:A.guards=![]
abbrev qm:=gb G
def gb.mono(r:gb b k A)(h:j<=k):gb b j A:=#[r.hd,by have:=r.dp;lia,by have:=r.un;lia,r.gd]
theorem gb.deeper(r:gb b (k+1) A)(env:Env):gb b k (A.deeper env):=
 #[r.hd,by have:=r.dp;show A.depth+1+3*k+5<_;lia,by have:=r.un;show A.units+3+16*k+200<_;lia,r.gd]
def Q7:(A.under (.builtin "type.__call__" #[YV C::us,kw])).depth=A.depth+1:=by
 first |rfl |simp[Code.weight]
def Q8:(A.under (.builtin "type.__call__" #[YV C::us,kw])).units=A.units+1:=by
 first |rfl |simp[Code.cUnits]
def gb.make(r:gb b (k+1) A)(C:Addr)(i:List Value)(j:List (Str×Value)):gb b k (A.under (.builtin "type.__call__" #[YV C::i,j])):=
 #[r.hd,by have:=r.dp;rw[Q7];lia,by have:=r.un;rw[Q8];lia,by first |show r.gd |(simpa [Around.under,Code.isGuard,guardIds] using r.gd)]
theorem gb.depth(r:gb b k A):A.depth<recursionLimit:=by have:=r.dp;lia
theorem gb.units(r:gb b k A):A.units+64<cLine:=by have:=r.un;lia
def J4:TA:=λ_ H Q=>Q [] H
def JF(ta:TE)(tr:TA):TA:=λU H Q=>ta U H λx H1=>tr U H1 λxs H2=>Q (x::xs) H2
section
variable {X:Cx}{e:Expr}{es:List Expr}{te:TE}{t:TA}{pos:Pos}
def zc:PA X [] J4:=λ_ _ _ _ H Q I h=>Calls.spliced_nil #[[],H,I,.nil,h]
def vP(i:PE X e te)(q:PA X es t)(hs:starEach (e::es) X.env=(M,eval e X.env)::starEach es X.env:=by rfl):PA X (e::es) (JF te t):=by intro pos ae s U H Q I h;rw[hs];show Calls.spliced_cons (cY (i ae s U H _ I h) λu j ⟨x,H1,I1,r1,q1⟩=>?_);show cY (q pos ae j U H1 _ I1 q1) λD z ⟨xs,H2,I2,r2,q2⟩=>#[x::xs,H2,I2,.cons r1 r2,q2]
def I_(t:TA):TE:=λU H Q=>t U H λxs H1=>xs.length<=sizeLine/\∀p,H1 p=J->Q (.ref p) (aS H1 p (.tup xs))
def Jn(t:TA):TE:=λU H Q=>t U H λxs H1=>xs.length<=sizeLine/\∀p,H1 p=J->Q (.ref p) (aS H1 p (.lst xs))
def JA{x1}(h:PA X es t):PE X (.Tuple es x1 pos) (I_ t):=by intro ae s U H Q I F;show wpAny_Tuple_spliced (cY (h pos ae s U H _ I F) λD i ⟨xs,H1,I1,r,z,q⟩=>#[by rw[<-r.length];show z,?_]);let j:=I1.hok.fresh (bv _);show#[.ref i.heap.objs.size,aS H1 i.heap.objs.size (.tup xs),I1.laid (λb u e=>cf _ e) () ?_,O,q _ j];show#[z,D,r,#[_,dA _ O,O,_,O]]
def JE(h:PA X es t):PE X (.List es pos) (Jn t):=by intro ae s U H Q I F;show wpAny_List_spliced (cY (h pos ae s U H _ I F) λD i ⟨xs,H1,I1,r,z,q⟩=>#[by rw[<-r.length];show z,?_]);let j:=I1.hok.fresh (bv _);show#[.ref i.heap.objs.size,aS H1 i.heap.objs.size (.lst xs),I1.laid (λb u e=>cf _ e) () ?_,O,q _ j];show#[z,D,0,r,dA _ O]
end
abbrev Sp:=List V->Hp->VK->XK->Prop
abbrev yF:=List Env->Hp->Shared->XK->Value->Shared->Prop
structure Cy(P:Program)(w:World)(K:FG)(mg:Str->Option Value)(base:Heap)(A:Around)(outer:List Env)(s:Shared)(H:Hp):Prop where
 frames:A.frames=!outer
 mod:Mod K mg base
 bs:∀b o,base.get? b=!o->s.heap.get? b=!o/\H b=none
 bsz:base.objs.size<=s.heap.objs.size
 funs:s.heap.FunFrames base outer
 frf:∀b∈frs outer,H b=none
 hok:je P w H s.heap
 bare:AllBare s.gens
def CE(outer:List Env)(P:Program)(w:World)(H:Hp)(s:Shared)(Q:VK)(u:Value)(s':Shared):Prop:=
 ∃v H',s'.os=s.os/\AllBare s'.gens/\Un (frs outer) [] H H' s.heap s'.heap/\je P w H' s'.heap/\aw v u/\Q v H'
def CR(CX:yF)(outer:List Env)(P:Program)(w:World)(H:Hp)(s:Shared)(Q:VK)(E:XK)(r:Result)(s':Shared):Prop:=
 match r with
 |.ok (.ret u)=>CE outer P w H s Q u s'
 |.ok _=>False
 |.error e=>CX outer H s E e s'
structure tG(b:Bool)(P:Program)(w:World)(K:FG)(mg:Str->Option Value)(base:Heap)(CX:yF)(k:Nat)(f:Addr)(fd:FuncData)(ps:List Str)(sp:Sp):Prop where
 len:∀vs H Q E,sp vs H Q E->vs.length=ps.length
 run:∀(A:Around)(outer:List Env)(s:Shared)(H:Hp)(args:Args)(us:List Value)(vs:List V)(Q:VK)(E:XK),gb b k A->Cy P w K mg base A outer s H->BindsTo s fd args (ps.zip us)->am vs us->sp vs H Q E->
  codeAny (model P w) A (.call (.ref f) args) (CR CX outer P w H s Q E) s
abbrev n8:=tG G
def tG.imp{K:FG}(F:tG b P w K mg base CX k f fd ps sp)
 (h:∀vs H Q E,JI vs H Q E->sp vs H Q E):tG b P w K mg base CX k f fd ps JI:=
 #[λvs H Q E q=>F.len vs H Q E ∅,λA i s H z N vs Q E W he hb D hs=>F.run A i s H z N vs Q E W he hb D ∅]
def Cy.make{K:FG}(e:Cy P w K mg base A outer s H)(C:Addr)(j:List Value)(i:List (Str×Value)):
 Cy P w K mg base (A.under (.builtin "type.__call__" #[YV C::j,i])) outer s H:=#[by first |show e.frames |(simpa [Around.under,Code.envs,Code.isFrame,pushEnvs] using e.frames),e.mod,e.bs,e.bsz,e.funs,e.frf,e.hok,e.bare]
section
variable {X:Cx}{ae:List (Addr×Obj)}{U:St}{H:Hp}{s s':Shared}
def ai.env0(I:ai X ae U H s):Cy X.prog X.w X.K X.mg X.base X.A X.stack s H:=
 #[I.ok.frames,I.ok.mod,I.bs,eI I.ok.bsz I.sz,I.stack,I.stkFree,I.hok,I.bare]
def ai.after(I:ai X ae U H s)(h:CE X.stack X.prog X.w H s Q u s'):EP X ae U Q u s':=by let(v,H',F,i,un,D,r,q):=h;let(N,g,d,t,j):=s';obtain rfl:j=s.os:=F;show#[v,H',I.call un D i (λb z=>absurd z (by simp)),r,q]
end
def Yi_(sp:Sp)(fI:List V)(E:XK)(t:TA):TE:=λU H Q=>t U H λvs H1=>sp (vs++fI) H1 Q E
def Q9(C:Addr)(m:Str)(sp:Sp)(fI:List V)(E:XK)(ta:TE)(t:TA):TE:=λU H Q=>ta U H λx H1=>∃a dx fs,x=.ref a/\H1 a=!(.ins C dx fs)/\fs.lookup m=J/\
 t U H1 λvs H2=>sp (x::(vs++fI)) H2 Q E
def Yj(C:Addr)(sp:Sp)(fI:List V)(E:XK)(t:TA):TE:=λU H Q=>t U H λvs H1=>∀x dx,H1 x=J->H1 dx=J->dx≠x->
 sp (.ref x::(vs++fI)) (aS (aS H1 dx (.own x)) x (.ins C dx [])) (λv H2=>v=.non/\Q (.ref x) H2) E
def c0(K:FG)(fd:FuncData)(ps:List Str)(ds:List Value):Prop:=
 ∀(s:Shared)(us:List Value),K.In s.heap->(us++ds).length=ps.length->BindsTo s fd #[us,[]] (ps.zip (us++ds))
def c0.all{K:FG}(h:∀i:List Value,i.length=ps.length->bindArgs fd #[i,[]]=pure (ps.zip i)):c0 K fd ps []:=λs i _ j=>by rw[d0]at j ⊢;show .of_eq (h i j)
def zf(CX:yF)(X:Cx)(E:XK):Prop:=∀(ae:List (Addr×Obj))(U:St)(H:Hp)(s:Shared)(e:Value)(s':Shared),ai X ae U H s->CX X.stack H s E e s'->X.xe e s'
section
variable {X:Cx}{CX:yF}{k:Nat}{f C:Addr}{fd:FuncData}{ps:List Str}{sp:Sp}{fI:List V}{ds:List Value}{E:XK}{x m:Str}{p pos apos:Pos}{e o:Expr}{es:List Expr}{ta:TE}{t:TA}
def J5{U:St}(F:tG b X.prog X.w X.K X.mg X.base CX k f fd ps sp)(hr:gb b k X.A)(W:c0 X.K fd ps ds)(z:am fI ds)(D:∀H s e s',ai X ae U H s->CX X.stack H s E e s'->X.xe e s')
 (I:ai X ae U H s) (r:am vs us) (h:sp (vs++fI) H Q E):wpAny (model X.prog X.w) X.A (call (YV f) us) (EP X ae U Q) X.xe s:=by
 let j:=r.append z;have N:(us++ds).length=ps.length:=by rw[<-j.length];show F.len _ _ _ _ h
 show wpAny_call (codeAny_mono (F.run X.A X.stack s H #[us,[]] (us++ds) (vs++fI) Q E hr I.env0 (W s us I.kIn N) j h) λr s' i=>?_);cases r with
 |error e=>show D H s e s' I i
 |ok fl=>
  cases fl with
  |ret u=>show I.after i
  |next=>show False.elim i
  |brk=>show False.elim i
  |cont=>show False.elim i
def Zd(F:tG b X.prog X.w X.K X.mg X.base CX k f fd ps sp)(hr:gb b k X.A)(D:Gl X x)(hm:X.mg x=!(YV f))(hk:W.keepIn X.K (YV f)=G)(hb:c0 X.K fd ps ds)(N:am fI ds)(hx:zf CX X E)
 (z:PA X (e::es) t) (j:(x==("__debug__" : Str))=M:=by decide) (he:starEach (e::es) X.env=(M,eval e X.env)::starEach es X.env:=by rfl) (i:(backTo pos (starEach es X.env)).any (·.1)=M:=by rfl):
 PE X (.Call (.Name x p) (e::es) [] pos) (Yi_ sp fI E t):=by
 intro ae s U H Q I h;show wpAny_Call_Name_kw (Og I D hm ?_ j);show W.callWith_K I.ok.mod.kin hk (cY (z pos ae s U H _ I h) λus s1 ⟨vs,H1,I1,r,q⟩=>#[I1.kIn,?_]) he i;show J5 F hr hb N (hx _ _) I1 r q
def Ze{pl:Sem Bool}(he:PE X o ta)(c:yZ X.K C)(z:iX X.K C m f)(F:n8 X.prog X.w X.K X.mg X.base CX k f fd ps sp)(hr:qm k X.A)(hb:c0 X.K fd ps ds)(N:am fI ds)(hx:zf CX X E)(D:PA X (e::es) t)
 (i:starEach (e::es) X.env=(M,eval e X.env)::starEach es X.env:=by rfl) (j:(backTo pos (starEach es X.env)).any (·.1)=M:=by rfl)
 (ht:eval (.Call (.Attribute o m apos) (e::es) [] pos) X.env=(do
   let ov <-eval o X.env
   standAt apos.atName
   let (f,first) <-holding [ov] (getMethod ov m pl)
   callWith pos f first (backTo pos (starEach (e::es) X.env)) (backToKw pos (keywordEach [] X.env))):=by rfl):
 PE X (.Call (.Attribute o m apos) (e::es) [] pos) (Q9 C m sp fI E ta t):=by
 intro ae s U H Q I h
 show xz (cY (he ae s U H _ I h) λu s1 JJ=>?_) ht;let(x,H1,I1,rx,a,dx,fs,ex,ea,l,q):=JJ
 subst ex
 obtain rfl:u=Value.ref a:=rx
 show w6 I1 ea c z l ?_
 show W.callWith_K I.ok.mod.kin z.kp (cY (D pos ae s1 U H1 _ I1 q) λus s2 JO=>?_) i j;let(vs,H2,I2,r,q2):=JO;show #[I2.kIn,?_]
 show J5 (vs:=.ref a::vs) F hr hb N (hx _ _) I2 (.cons O r) q2
def VV(he:PE X o ta)(c:yZ X.K C)(i:iX X.K C m f)(F:n8 X.prog X.w X.K X.mg X.base CX k f fd ps sp)(N:qm k X.A)(D:c0 X.K fd ps ds)(j:am fI ds)(z:zf CX X E)
 (ht:eval (.Call (.Attribute o m apos) [] [] pos) X.env=(do
   let ov <-eval o X.env
   standAt apos.atName
   let (f,first) <-holding [ov] (getMethod ov m pl)
   callWith pos f first (backTo pos (starEach [] X.env)) (backToKw pos (keywordEach [] X.env))):=by rfl):
 PE X (.Call (.Attribute o m apos) [] [] pos) (Q9 C m sp fI E ta J4):=by
 intro ae s U H Q I h
 show xz (cY (he ae s U H _ I h) λu s1 JU=>?_) ht;let(x,H1,I1,rx,a,dx,fs,ex,ea,l,q):=JU
 subst ex
 obtain rfl:u=Value.ref a:=rx
 show w6 I1 ea c i l ?_
 show W.callWith_K0 I1.kIn i.kp (J5 (vs:=[.ref a]) F N D j (z _ _) I1 (.cons O .nil) q)
structure Mk(K:FG)(C f:Addr):Prop where
 makes:W.makesIn K C=true
 init:W.findIn K (.ref C) "__init__"=!(!(.ref f))
 fn:W.isFn K (.ref f)=true
 kp:W.keepIn K (.ref C)=true
def V0{U:St}(q:Mk X.K C f)(F:n8 X.prog X.w X.K X.mg X.base CX k f fd ps sp)(hr:qm (k+1) X.A)(hb:c0 X.K fd ps ds)(hd:am fI ds)
 (hx:∀H s e s',ai X ae U H s->CX X.stack H s E e s'->X.xe e s') (I:ai X ae U H s) (r:am vs us)
 (h:∀x dx,H x=J->H dx=J->dx≠x->sp (.ref x::(vs++fI)) (aS (aS H dx (.own x)) x (.ins C dx [])) (λv H2=>v=.non/\Q (.ref x) H2) E):
 wpAny (model X.prog X.w) X.A (call (YV C) us) (EP X ae U Q) X.xe s:=by
 let N:=h (s.heap.objs.size+1) s.heap.objs.size (I.hok.fresh ()) (I.hok.fresh ()) ∅;let j:=ai.made (C:=C) I;have z:am (V.ref (s.heap.objs.size+1)::(vs++fI)) (Value.ref (s.heap.objs.size+1)::(us++ds)):=.cons O (r.append hd);have hl:(Value.ref ()::us++ds).length=ps.length:=by let e:=z.length;rw[F.len _ _ _ _ N]at e;show e.symm
 show wpAny_call (VN I.kIn q.makes q.init (beq_iff_eq.mp q.fn) (codeAny_mono (F.run _ X.stack _ _ #[Value.ref (s.heap.objs.size+1)::us,[]] (Value.ref (s.heap.objs.size+1)::(us++ds)) _ _ E (hr.make C us [])
  (j.env0.make C us []) (hb _ (Value.ref (s.heap.objs.size+1)::us) j.kIn hl) z N) λr s' i=>?_))
 cases r with
 |error e=>show hx _ _ e s' j i
 |ok fl=>
  cases fl with
  |ret u=>
   let(v,H',W,rv,ev,q3):=j.after i;subst ev;show#[rv,#[V.ref (s.heap.objs.size+1),H',W,O,q3]]
  |next=>show False.elim i
  |brk=>show False.elim i
  |cont=>show False.elim i
def Zf(z:Mk X.K C f)(F:n8 X.prog X.w X.K X.mg X.base CX k f fd ps sp)(hr:qm (k+1) X.A)(N:Gl X x)(hm:X.mg x=!(YV C))(hb:c0 X.K fd ps ds)(hd:am fI ds)(hx:zf CX X E)
 (D:PA X (e::es) t) (j:(x==("__debug__" : Str))=M:=by decide) (he:starEach (e::es) X.env=(M,eval e X.env)::starEach es X.env:=by rfl) (i:(backTo pos (starEach es X.env)).any (·.1)=M:=by rfl):
 PE X (.Call (.Name x p) (e::es) [] pos) (Yj C sp fI E t):=by
 intro ae s U H Q I h;show wpAny_Call_Name_kw (Og I N hm ?_ j);show W.callWith_K I.ok.mod.kin z.kp (cY (D pos ae s U H _ I h) λus s1 JY=>?_) he i;let(vs,H1,I1,r,q):=JY;show #[I1.kIn,?_];show V0 z F hr hb hd (hx _ _) I1 r q
end
structure bC(N P:List Str)(sc:Scope):Prop where
 kind:sc.kind=.function
 co:sc.isCoroutine=false
 gen:sc.isGenerator=false
 nd:N.Nodup
 pre:N.take P.length=P
 par:∀x∈P,sc.names.lookup x=!.local\/sc.names.lookup x=!.cell
 nofree:∀y∈sc.names,y.2≠.free
theorem Hf{i:Str->Option NameKind}:∀{binds:List (Str×Value)}{m:Str->Option Value},(∀v,(x,v)∉binds)->bindL i binds m x=m x
 |[],_=>λ_=>rfl
 |(n,v)::r,m=>λh=>by
  unfold bindL;rw[Hf λw j=>h w (cv _ j)];split
  . have:x≠n:=by rintro rfl;show h v bi
    grind
  . rfl
theorem Hh{i:Str->Option NameKind}:∀{binds:List (Str×Value)}{m:Str->Option Value},(∀v,(x,v)∉binds)->bindC i binds m x=m x
 |[],_=>λ_=>rfl
 |(n,v)::r,m=>λh=>by
  unfold bindC;rw[Hh λw j=>h w (cv _ j)];split
  . rfl
  . have:x≠n:=by rintro rfl;show h v bi
    grind
theorem Hi{j:Str->Option NameKind}:∀{P:List Str}{vs:List Value}{i:Nat}{m:Str->Option Value},P.Nodup->P[i]?=!x->vs[i]?=!v->j x=!.local->
 bindL j (P.zip vs) m x=!v
 |[],_,_,_=>λ_ h _ _=>by grind
 |_::_,[],_,_=>λ_ _ h _=>by grind
 |p::P,w::vs,0,m=>λq h1 h2 hk=>by simp at h1 h2;subst h1;subst h2;show bindL j ((p,w)::P.zip vs) m p=_;unfold bindL;rw[Hf λv z=>(f6.mp q).1 (iP z).1,av hk];simp
 |p::P,w::vs,i+1,m=>λq h1 h2 hk=>by unfold bindL;show Hi (f6.mp q).2 () () hk
theorem Hj{j:Str->Option NameKind}:∀{P:List Str}{vs:List Value}{i:Nat}{m:Str->Option Value},P.Nodup->P[i]?=!x->vs[i]?=!v->j x≠!.local->
 bindC j (P.zip vs) m x=!v
 |[],_,_,_=>λ_ h _ _=>by grind
 |_::_,[],_,_=>λ_ _ h _=>by grind
 |p::P,w::vs,0,m=>λq h1 h2 hk=>by simp at h1 h2;subst h1;subst h2;show bindC j ((p,w)::P.zip vs) m p=_;unfold bindC;rw[Hh λv z=>(f6.mp q).1 (iP z).1,aE hk];simp
 |p::P,w::vs,i+1,m=>λq h1 h2 hk=>by unfold bindC;show Hj (f6.mp q).2 () () hk
def start(N:List Str)(vs:List V):St:=vs.map some++List.replicate (N.length-vs.length) J
noncomputable def uV (b:Bool) (CX:yF) (P:Program) (w:World) (K:FG) (mg:Str->Option Value) (base:Heap) (N:List Str) (qual:Str) (scope:Scope) (f:Addr) (cd:Value) (A:Around) (outer:List Env) (s:Shared) (H:Hp) (E:XK):Cx where
 prog:=P
 w:=w
 K:=K
 mg:=mg
 base:=base
 A:=A.deeper (envOfC qual scope s.heap.objs.size f cd)
 N:=N
 s₀:=s
 H0:=H
 env:=envOfC qual scope s.heap.objs.size f cd
 outer:=outer
 stack:=envOfC qual scope s.heap.objs.size f cd::outer
 ex:=[]
 calm:=b
 fn:=λ_=>G
 pn:=[]
 xe:=λe s'=>wpAny (model P w) (A.deeper (envOfC qual scope s.heap.objs.size f cd)) (leaving (envOfC qual scope s.heap.objs.size f cd) e) (λ_ s''=>CX outer H s E e s'') (λe' s''=>CX outer H s E e' s'') s'
abbrev V1:=uV G
def J6{sc:Scope}(h:sc.names.lookup x=!.cell):∃c,(cellsFrom n sc.names []).lookup x=!c:=by let q:=qr sc.names n [] (Zl h);show qb.mp q
def SQ{K:FG}{E:XK}
 (S:bC N ps scope) (hd:cm=G->A.handled=J) (j:Cy P w K mg base A outer s H) (hl:vs.length=ps.length) (r:am vs us)
 (x:InCallC s s.heap.objs.size (bindL (envOfC qual scope s.heap.objs.size f cd).kindOf (ps.zip us) λ_=>J) (cellsFrom (s.heap.objs.size+1) scope.names []) (bindC (envOfC qual scope s.heap.objs.size f cd).kindOf (ps.zip us) λ_=>J) s1):
 ai (uV cm CX P w K mg base N qual scope f cd A outer s H E) [] (start N vs) H s1:=by
 have hpl:ps.length<=N.length:=by have:=congrArg List.length S.pre;rw[ii]at this;lia
 let(h1,tk,rfl,hk):=x.done;have D:∀b:Addr,b∉(uV cm CX P w K mg base N qual scope f cd A outer s H E).ex:=λb z=>absurd (show b∈([]:List Addr) from z) (by simp);show#[#[j.mod,S.kind,O,O,bv _,λy z c h1 h2=>?_,λy F=>?_,λy c _ h=>?_,hd,Around.frames_deeper j.frames,YY #[O,O],λb z=>absurd z (D b),j.bs,j.bsz,λb _ _=>D b,λb z=>absurd z (D b),j.funs,j.frf],
  rfl,j.bare,Un.kept hk,#[_,x.toInCall.ns,λi y v h1 h2 h3=>?_],λy c h=>#[_,x.cell y c h],j.hok.fresh (bv _),λy c h=>?_,λp W=>absurd (show p∈([]:List (Addr×Obj)) from W) (by simp),j.hok.kept hk,?_]
 . show name_of_addr x.apart (mi h1) (mi h2)
 . obtain F|F:=F
   . show J6 F
   . show absurd O (S.nofree _ (mi F))
 . show mh (x.above y c (mi h))
 . have hi:i<vs.length:=by
    unfold start at h2;by_cases hi:i<vs.length
    . show hi
    . grind
   have ha:vs[i]?=!v:=by
    unfold start at h2;rw[hE ∅,c8]at h2;cases e:vs[i]? with
    |none=>grind
    |some a=>grind
   let(u,hu,rv):=r.get ha;have W:ps[i]?=!y:=by rw[<-S.pre,List.getElem?_take_of_lt ()];show h1
   have Q:ps.Nodup:=by rw[<-S.pre];show S.nd.sublist ∅
   show#[u,rv,?_];obtain k|k:=S.par y (eR W)
   . show Zl #[k,Hi Q W hu k]
   . let(c,e):=J6 k;show YY #[Zl k,c,e,?_];let q:=x.cell y c e;rw[Hj Q W hu (by show scope.names.lookup y≠_;rw[k];decide)]at q;show q
 . show j.hok.fresh (mh (x.above y c (mi h)))
 . unfold start;show _=N.length;grind
def J_{K:FG}{dV kV jv pm j ct oc:Value}
 (lk:K.lookup f=!#[oc,od,.func (W.fnOf name qual params body scope dV kV jv pm an j ct),lm]) (ol:W.codeIn K j qual=G) (S:bC N ps scope)
 (len:∀vs H Q E,sp vs H Q E->vs.length=ps.length)
 (D:∀(A:Around)(i:List Env)(s:Shared)(H:Hp)(vs:List V)(Q:VK)(E:XK),gb b k (A.deeper (envOfC qual scope s.heap.objs.size f j))->sp vs H Q E->
   ∃t,jF (uV b CX P w K mg base N qual scope f j A i s H E) body t/\t { nx:=λ_ H'=>Q .non H',rt:=Q } (start N vs) H):
 tG b P w K mg base CX (k+1) f (W.fnOf name qual params body scope dV kV jv pm an j ct) ps sp:=by
 show#[len,λA i s H args us vs Q E hr e0 hb r lv=>?_];let hl:=len _ _ _ _ lv;let KX:=e0.mod.kin.keeps λb o e=>(e0.bs b o e).1;let Kb:=e0.mod.nolimit.keeps λb o e=>(e0.bs b o e).1;have F:∀y∈ps.zip us,scope.names.lookup y.1=!.local\/(scope.names.lookup y.1=!.cell/\((cellsFrom (s.heap.objs.size+1) scope.names []).lookup y.1).isSome=G):=λ⟨n,v⟩ hy=>by
  obtain q|q:=S.par n (iP hy).1
  . grind
  . show YY #[q,qr _ _ _ (Zl q)]
 show codeAny_call_function hr.depth (KX _ _ lk) O S.co S.gen O (W.codeRec_of KX ol) (hb _ _ _ _ ?_);show wpAny_newFunctionEnv_cells S.kind F λenv he s1 x=>?_;subst he;show#[Kb.keeps x.toInCall.keep,codeAny_func ?_];let(t,ht,hq):=D A i s H vs Q E (hr.deeper _) lv;show wpAny_mono (ht [] s1 (start N vs) H _ (SQ S hr.hd e0 hl r x) hq) (λfl s' hs=>?_) λe s' hs=>hs;have fin:∀{U':St}{H':Hp}{v:V}{u:Value},ai (uV b CX P w K mg base N qual scope f j A i s H E) [] U' H' s'->aw v u->Q v H'->CE i P w H s Q u s':=
  λ{U' H' v u} z rv q=>#[v,H',z.os,z.bare,z.base,z.hok,rv,q]
 cases fl with
 |ret u=>
  let(v,U',H',z,rv,q):=hs;show fin z rv q
 |next=>
  let(U',H',z,q):=hs;show fin (v:=V.non) z O q
 |brk=>
  let(_,_,_,q):=hs;grind
 |cont=>
  let(_,_,_,q):=hs;grind
section
variable {X:Cx}{x:Str}{p pos:Pos}{e:Expr}{es:List Expr}{t:TA}{id T:String}{r:List V->Hp->VK->Prop}
def zg(r:List V->Hp->VK->Prop)(t:TA):TE:=λU H Q=>t U H λvs H1=>r vs H1 Q
def jW(hc:mj X (.builtin id) r)(z:Gl X x)(hm:X.mg x=J)(N:bootBuiltins x=!(.builtin id))(q:PA X (e::es) t)(D:x ≠ "__name__":=by decide)(j:(x==("__debug__" : Str))=M:=by decide)
 (he:starEach (e::es) X.env=(M,eval e X.env)::starEach es X.env:=by rfl) (i:(backTo pos (starEach es X.env)).any (·.1)=M:=by rfl):PE X (.Call (.Name x p) (e::es) [] pos) (zg r t):=by
 intro ae s U H Q I h;show wpAny_Call_Name_kw (yU I z hm N ?_ D j);show PyProof.Rows.callWith_builtin1 (cY (q pos ae s U H _ I h) λW F ⟨vs,H1,I1,r1,q1⟩=>hc ae F U H1 vs W Q I1 r1 q1) he i
def fW(hc:mj X (.type T) r)(z:Gl X x)(hm:X.mg x=J)(N:bootBuiltins x=!(.type T))(q:PA X (e::es) t)(D:x ≠ "__name__":=by decide)(j:(x==("__debug__" : Str))=M:=by decide)
 (he:starEach (e::es) X.env=(M,eval e X.env)::starEach es X.env:=by rfl) (i:(backTo pos (starEach es X.env)).any (·.1)=M:=by rfl):PE X (.Call (.Name x p) (e::es) [] pos) (zg r t):=by
 intro ae s U H Q I h;show wpAny_Call_Name_kw (yU I z hm N ?_ D j);show PyProof.Rows.callWith_type1 (cY (q pos ae s U H _ I h) λW F ⟨vs,H1,I1,r1,q1⟩=>hc ae F U H1 vs W Q I1 r1 q1) he i
end
end L2
namespace HT
open PySem PySem.Spec PyProof.Rows
section
variable {prog:Program}{w:World}{A:Around}{E:Value->Shared->Prop}{s:Shared}
def cat_tup(ht:IsTup s.heap t vs.toArray)(hb:IsTup s.heap b ws.toArray)(hv:vs≠[])
 (h1:ws=[]->Q (YV t) s) (h2:ws≠[]->Q (YV s.heap.objs.size) { s with heap:=s.heap.push { cls:=.type "tuple",data:=.seq (vs++ws).toArray } })
 (fF:vs.length+ws.length<=sizeLine):wpAny (model prog w) A (binaryOp .Add (YV t) (YV b)) Q E s:=by
 let((cls,dd,data,sl),N,hc,n,hd):=id ht;let((cls2,q,data2,z),i,W,n2,re):=id hb;subst hc hd W re;have e:vs.toArray++ws.toArray=(vs++ws).toArray:=by simp
 by_cases hw:ws=[]
 . show concat_meets #[_,N,O] #[_,i,O] noFill_tuple_add seq_tuple_add F.slot_tuple_add F.entry_tuple_add (F.args_tuple_add_2 _ _)
    (tuple_addW1 t b vs.toArray ws.toArray n n2 dd q sl z ∅ ∅) #[N,i,h1 hw]
 . show concat_meets #[_,N,O] #[_,i,O] noFill_tuple_add seq_tuple_add F.slot_tuple_add F.entry_tuple_add (F.args_tuple_add_2 _ _)
    (tuple_addW2 t b vs.toArray ws.toArray n n2 dd q sl z ∅ ∅ ()) #[N,i,?_]
   grind
noncomputable def sIx (n d:Nat):Option Int->Nat
 |none=>d
 |some v=>if v<0 then (v+(n:Int)).toNat else min v.toNat n
def sIx_nat(n d k:Nat):sIx n d (!(k:Int))=min k n:=by show (if (k:Int)<0 then ((k:Int)+(n:Int)).toNat else min (k:Int).toNat n)=min k n;rw[aE (),qo]
def sIx_le(n d:Nat)(hd:d<=n)(o:Option Int):sIx n d o<=n:=by
 cases o with
 |none=>show hd
 |some v=>
  show (if v<0 then (v+(n:Int)).toNat else min v.toNat n)<=n;by_cases hv:v<0
  . rw[av hv];lia
  . rw[aE hv];show Nat.min_le_right _ _
def Oi(v:Int)(n d:Nat):(if v<0 then max (v+(n:Int)) 0 else min v (n:Int))=((sIx n d (!v):Nat):Int):=by
 show (if v<0 then max (v+(n:Int)) 0 else min v (n:Int))=(((if v<0 then (v+(n:Int)).toNat else min v.toNat n):Nat):Int);by_cases i:v<0
 . grind
 . grind
def Ra(lo hi:Option Int)(n:Nat):Builtin.Slice.sliceAdjust lo hi 1 (n:Int)=(((sIx n 0 lo:Nat):Int),((sIx n n hi:Nat):Int)):=by
 have h1:¬ ((1:Int)<0):=()
 unfold Builtin.Slice.sliceAdjust;show Prod.ext ?_ ?_
 . cases lo with
   |none=>rfl
   |some v=>show Oi v n 0
 . cases hi with
   |none=>rfl
   |some v=>show Oi v n n
def Rb(i j:Nat):Builtin.Slice.slicePlaces (i:Int) (j:Int) 1=j-i:=by
 unfold Builtin.Slice.slicePlaces;have h1:(1:Int)>0:=()
 simp only[h1,if_true,Int.ediv_one];split<;>lia
def DG(p:IsPart v o)(h:Q o s):wpAny (model prog w) A (Builtin.Slice.slicePartIndex v) Q E s:=by
 cases p with
 |none=>show slicePart_none h
 |int i t=>show slicePart_int h
def Cz{lo hi:Option Int}{Q:Int×Int×Nat->Shared->Prop}(hs:s.heap.IsSliceOf sl vl vu .none)(pl:IsPart vl lo)(D:IsPart vu hi)
 (h:Q (((sIx n 0 lo:Nat):Int),1,sIx n n hi-sIx n 0 lo) s):wpAny (model prog w) A (Builtin.Slice.sliceApplied (YV sl) (pure (n:Int))) Q E s:=by
 let(F,j,z,q):=id hs;show al (al (wpAny_field j q O (al (wpAny_field j q O (al (wpAny_field j q O (ay ?_)))))));show al (slicePart_none ?_);show al (DG pl (al (DG D (al (ay ?_)))));show wpAny _ _ (match Builtin.Slice.sliceAdjust lo hi 1 (n:Int) with |(lo,hi)=>pure (lo,(1:Int),Builtin.Slice.slicePlaces lo hi 1)) _ _ s;rw[Ra lo hi n];show wpAny _ _ (pure (((sIx n 0 lo:Nat):Int),(1:Int),Builtin.Slice.slicePlaces ((sIx n 0 lo:Nat):Int) ((sIx n n hi:Nat):Int) 1)) _ _ s;rw[Rb];show ay h
def V2(xs:Array Value)(i k:Nat):((List.range k).filterMap λ(m:Nat)=>xs[((i:Int)+(m:Int)*1).toNat]?).toArray=((xs.toList.drop i).take k).toArray:=by
 have e:(λ(m:Nat)=>xs[((i:Int)+(m:Int)*1).toNat]?)=λm=>xs[i+m]?:=by
  funext m;have:((i:Int)+(m:Int)*1).toNat=i+m:=()
  rw[this]
 rw[e];have:=pick_run xs i k;rw[List.filterMap_map]at this;have j:((λx=>xs[x]?) ∘ λx=>i+x)=λm=>xs[i+m]?:=O;grind
def getItem_tuple_cut{lo hi:Option Int}(j:IsTup s.heap t items)(hs:s.heap.IsSliceOf sl vl vu .none)(pl:IsPart vl lo)(pu:IsPart vu hi)
 (hw:¬ (sIx items.size 0 lo=0/\sIx items.size items.size hi=items.size))
 (h:Q (YV s.heap.objs.size) { s with heap:=s.heap.push { cls:=.type "tuple",data:=.seq ((items.toList.drop (sIx items.size 0 lo)).take (sIx items.size items.size hi-sIx items.size 0 lo)).toArray } })
 (fF:items.size<=sizeLine):wpAny (model prog w) A (getItem (YV t) (YV sl)) Q E s:=by
 have i:sizeOk (.seq ((items.toList.drop (sIx items.size 0 lo)).take (sIx items.size items.size hi-sIx items.size 0 lo)).toArray):=by show ((items.toList.drop (sIx items.size 0 lo)).take (sIx items.size items.size hi-sIx items.size 0 lo)).toArray.size<=sizeLine;rw[eP,ii,List.length_drop,fz];lia
 let(os,D,F,x9):=id hs;unfold getItem
 try with_reducible show wpAny_holding ?_
 first |show al () |skip
 show al (wpAny_sequenceKey j.typeIs () ?_);show al (wpAny_callSpecial?_slot j.typeIs PyProof.Rows.slot_tuple_getitem
  (wpAny_call_entry PyProof.Rows.slot_tuple_getitem j.typeIs entry_tuple_getitem ?_ (args_tuple_getitem _ _)))
 show wpAny _ _ (Builtin.Tuple.tupleItemsOf (YV t) >>= _) _ _ s;show al (tupleItemsOf_ j ?_);show al (wpAny_typeOf (#[os,D,F]) ?_);show al (Cz hs pl pu ?_);have z:¬ ((((sIx items.size 0 lo:Nat):Int)==0&&(1:Int)==1&&(sIx items.size items.size hi-sIx items.size 0 lo)==items.size)=G):=by intro q;rw[gt,gt]at q;let q1:=eq_of_beq q.1.1;let q2:=eq_of_beq q.2;show hw #[(),()]
 show wpAny _ _ (if (((sIx items.size 0 lo:Nat):Int)==0&&(1:Int)==1&&(sIx items.size items.size hi-sIx items.size 0 lo)==items.size)=G then _ else _) _ _ s;rw[aE z,V2]
 first
  |show al (wpAny_newObj_type () i)
  |show al (wpAny_newObj_type (al (ay (ay #[_,rfl,ay h]))) i)
  |show al ()
  |show al ()
end
end HT
namespace L2
open PySem PySem.Spec PyProof.Rows
variable {ae:List (Addr×Obj)}{E:Value->Shared->Prop}{s:Shared}{A:Around}{w:World}{P:Program}
abbrev TO:=St->Hp->(Option Int->Hp->Prop)->Prop
def PO(X:Cx)(e:Option Expr)(t:TO):Prop:=
 ∀(ae:List (Addr×Obj))(s:Shared)(U:St)(H:Hp)(Q:Option Int->Hp->Prop),ai X ae U H s->t U H Q->
  wpAny (model X.prog X.w) X.A (evalPart e X.env) (λu s'=>∃o H',ai X ae U H' s'/\IsPart u o/\Q o H') X.xe s
def Zg:TO:=λ_ H Q=>Q J H
def Ki(t:TE):TO:=λU H Q=>t U H λx H1=>∃i,x=.int i/\Q (!i) H1
section
variable {X:Cx}{e:Expr}{te:TE}{lo hi:Option Expr}{tl th:TO}{pos p2:Pos}
def Zh:PO X J Zg:=by intro ae s U H Q I h;show ay #[J,H,I,.none,h]
def Zi(h:PE X e te):PO X (!e) (Ki te):=by intro ae s U H Q I j;show cY (h ae s U H _ I j) λu z Kj=>?_;let(x,H1,I1,r1,q1):=Kj;let(i,rfl,q):=q1;let(t,rfl):=r1;show#[!i,H1,I1,.int i t,q]
def Hk(X:Cx)(r:V->Option Int->Option Int->Hp->VK->Prop):Prop:=
 ∀(ae:List (Addr×Obj))(s:Shared)(U:St)(H:Hp)(x:V)(v vl vu:Value)(lo hi:Option Int)(sl:Addr)(Q:VK),ai X ae U H s->aw x v->s.heap.IsSliceOf sl vl vu .none->IsPart vl lo->IsPart vu hi->r x lo hi H Q->
  ∃T id,typeLookup (.type T) "__getitem__"=pure (!(.builtin id))/\s.TypeIs v T/\wpAny (model X.prog X.w) X.A (getItem v (YV sl)) (EP X ae U Q) X.xe s
def Hk.or(h:Hk X r)(h':Hk X r'):Hk X (λx lo hi H Q=>r x lo hi H Q\/r' x lo hi H Q):=by
 intro ae s U H x v j D lo hi sl Q I z hs pl i q;obtain q|q:=q
 . show h ae s U H x v j D lo hi sl Q I z hs pl i q
 . show h' ae s U H x v j D lo hi sl Q I z hs pl i q
def Kk(r:V->Option Int->Option Int->Hp->VK->Prop)(te:TE)(tl th:TO):TE:=λU H Q=>te U H λx H1=>tl U H1 λl H2=>th U H2 λu H3=>r x l u H3 Q
def J7(hr:Hk X r)(he:PE X e te)(hl:PO X lo tl)(hu:PO X hi th):PE X (.Subscript e (.Slice lo hi J p2) pos) (Kk r te tl th):=by intro ae s U H Q I h;show Subscript_ (cY (he ae s U H _ I h) λv s1 ⟨x,H1,I1,W,q1⟩=>?_);show wpAny_Slice (cY (hl ae s1 U H1 _ I1 q1) λF s2 ⟨l,H2,I2,pl,q2⟩=>cY (hu ae s2 U H2 _ I2 q2) λD i ⟨u,H3,N,pu,q3⟩=>?_);show ay ?_;let(T,id,hT,ht,hg):=hr ae { i with heap:=i.heap.push { cls:=.type "slice",data:=.fields (List.toArray [F,D,.none]) } } U H3 x v F D l u i.heap.objs.size Q (N.kept λb ob q=>cf _ q) W (Heap.IsSliceOf.new ..) pl pu q3;show tail_any ht hT hg ()
def uq(xs:List V)(lo hi:Option Int):List V:=(xs.drop (HT.sIx xs.length 0 lo)).take (HT.sIx xs.length xs.length hi-HT.sIx xs.length 0 lo)
def Cd(xs:List V)(lo hi:Option Int):(uq xs lo hi).length<=xs.length:=by unfold uq;rw[ii,k6];lia
def Kn(K:FG):V->Option Int->Option Int->Hp->VK->Prop:=λx lo hi H Q=>∃a xs,x=.ref a/\cT K H a xs/\
 ¬ (HT.sIx xs.length 0 lo=0/\HT.sIx xs.length xs.length hi=xs.length)/\∀p,H p=J->Q (.ref p) (aS H p (.tup (uq xs lo hi)))
def Kt:Hk X (Kn X.K):=by
 intro ae s U H x v vl vu lo hi sl Q I W hs pl D h;let(a,xs,rfl,N,hw,q):=h;cases W;let(j,r,z,F):=I.tuple N;have i:j.toArray.size=xs.length:=by rw[eP];show r.length.symm
 show#["tuple",_,PyProof.Rows.slot_tuple_getitem.lookup,z.typeIs,?_];show HT.getItem_tuple_cut z hs pl D ∅ ?_ ();rw[i];show#[.ref s.heap.objs.size,_,I.laid (λb ob q=>cf _ q) () ?_,O,q _ (I.hok.fresh ())];show#[eI (Cd xs lo hi) F,_,(r.drop (HT.sIx xs.length 0 lo)).take (HT.sIx xs.length xs.length hi-HT.sIx xs.length 0 lo),IsTup.new _ _]
def Yk(K:FG):R2:=λx y H Q=>∃a b xs ys,x=.ref a/\y=.ref b/\cT K H a xs/\cT K H b ys/\xs≠[]/\xs.length+ys.length<=sizeLine/\
 (ys=[]->Q (.ref a) H)/\(ys≠[]->∀p,H p=J->Q (.ref p) (aS H p (.tup (xs++ys))))
def am.nil_iff(r:am xs us):us=[] ↔ xs=[]:=by
 cases r with
 |nil=>simp
 |cons _ _=>simp
def Zj:jn X (binaryOp .Add) (Yk X.K):=by intro ae s U H x y v u Q I rx ry h;let(a,b,xs,ys,rfl,rfl,N,hb,hx,D,W,q2):=h;cases rx;cases ry;let(br,j,p1,_):=I.tuple N;let(F,i,p2,_):=I.tuple hb;show HT.cat_tup p1 p2 (λz=>hx (j.nil_iff.mp z)) (λz=>#[.ref a,H,I,O,W (i.nil_iff.mp z)]) (λz=>?_) (by rw[<-j.length,<-i.length];show D);show#[.ref s.heap.objs.size,_,I.laid (λb ob q=>cf _ q) () ?_,O,q2 (λw=>z (i.nil_iff.mpr w)) _ (I.hok.fresh ())];show#[by rw[bS];show D,_,j.append i,IsTup.new _ _]
end
noncomputable def ur (n:Nat) (i:Int):Option Nat:=if 0<=i then (if i<n then !i.toNat else J) else if -(n:Int)<=i then !(i+n).toNat else J
def fY{α:Type}(xs:List α)(i:Int):Option α:=(ur xs.length i).bind λj=>xs[j]?
def Oj(h:ur n i=!j):seqIndex? i n=!j/\j<n/\-(n:Int)<=i/\i<n:=by
 unfold ur at h;by_cases q:0<=i
 . rw[av q]at h;by_cases h1:i<n
   . rw[av h1]at h;let e:=d_ h;show#[by rw[seqIndex_of q h1,e],(),(),h1]
   . grind
 . rw[aE q]at h;by_cases h1:-(n:Int)<=i
   . rw[av h1]at h;let e:=d_ h;show#[by rw[seqIndex_neg () h1,e],(),h1,()]
   . grind
def Gm(h:fY xs i=!v):∃j,seqIndex? i xs.length=!j/\xs[j]?=!v/\j<xs.length/\-(xs.length:Int)<=i/\i<xs.length:=by
 unfold fY at h;cases e:ur xs.length i with
 |none=>grind
 |some j=>
  rw[e]at h;let(h1,h2,q,z):=Oj e;grind
def Ol{j:Nat}(h:xs[j]?=!v):fY xs (j:Int)=!v:=by
 let i:=(de.mp h).1;have e:ur xs.length (j:Int)=!j:=by unfold ur;rw[av (),av ()];simp
 unfold fY;rw[e];show h
def CG(xs:List α)(v:α):fY (xs++[v]) (-1)=!v:=by
 have i:(xs++[v]).length=xs.length+1:=by simp
 have e:ur (xs++[v]).length (-1)=!xs.length:=by unfold ur;rw[i,aE (),av ()];congr 1;lia
 unfold fY;rw[e];simp
def An(b:Expr):Prop:=∀o i,subscripted b M o i=operate [o,i] (getItem o i)
def zj(X:Cx)(r:R2):Prop:=
 ∀(value slice:Expr)(ae:List (Addr×Obj))(s:Shared)(U:St)(H:Hp)(x y:V)(v u:Value)(Q:VK),ai X ae U H s->aw x v->aw y u->r x y H Q->
  subscripted slice M v u=operate [v,u] (getItem v u)->wpAny (model X.prog X.w) X.A (subscriptTail value slice v u) (EP X ae U Q) X.xe s
def Om(X:Cx)(id:String)(r:V->List V->Hp->VK->Prop):Prop:=
 ∀(ae:List (Addr×Obj))(s:Shared)(U:St)(H:Hp)(x:V)(xs:List V)(v:Value)(us:List Value)(Q:VK),ai X ae U H s->aw x v->am xs us->r x xs H Q->
  wpAny (model X.prog X.w) X.A (call (.builtin id) (v::us)) (EP X ae U Q) X.xe s
section
variable {X:Cx}{a b:Expr}{ta tb:TE}{pos:Pos}
def zj.or(h:zj X r)(h':zj X r'):zj X (λx y H Q=>r x y H Q\/r' x y H Q):=by
 intro value i ae s U H x y v u Q I z j q hs;obtain q|q:=q
 . show h value i ae s U H x y v u Q I z j q hs
 . show h' value i ae s U H x y v u Q I z j q hs
def Rc(W:zj X r)(i:PE X a ta)(N:PE X b tb)(hs:An b):PE X (.Subscript a b pos) (Sv r ta tb):=by intro ae s U H Q I h;show Subscript_ (VG i N I h λv u D x y H2 j F z q=>W a b ae D U H2 x y v u Q j F z q (hs _ _))
def x_(K:FG):R2:=λx y H Q=>∃p xs i v,x=.ref p/\y=.int i/\bV K H p xs/\fY xs i=!v/\Q v H
def ya(K:FG):R2:=λx y H Q=>∃p xs i v,x=.ref p/\y=.int i/\cT K H p xs/\fY xs i=!v/\Q v H
def yb:R2:=λx y H Q=>∃z i c,x=.str z/\y=.int i/\z.length<=sizeLine/\fY z.cps.toList i=!c/\Q (.str #[(List.toArray [c])]) H
def Zk:zj X (x_ X.K):=by
 intro value D ae s U H x y v u Q I rx ry h hs;let(p,xs,i,z,rfl,rfl,hq,he,q):=h;cases rx;let(t,rfl):=ry;let(N,r,pl,hz):=I.list hq;let(j,h1,h2,h3,h4,h5):=Gm he;let(w,ew,F):=r.get h2;let hl:=r.length;let hn:=vO;have fin:EP X ae U Q w s:=#[z,H,I,F,q];by_cases W:0<=i
 . have hj:i.toNat=j:=by rw[seqIndex_of W h5]at h1;show d_ h1
   show item_listR pl.isList W () ∅ fin hs
 . have hj:(i+(N.toArray.size:Int)).toNat=j:=by rw[seqIndex_neg () h4]at h1;rw[eP,<-hl];show d_ h1
   show subscriptTail_builtinR pl.isList.typeIs slot_list_getitem.lookup
    (wpAny_getItem_list_neg pl.isList () ∅ () ∅ #[O,fin]) hs
def Kx:zj X (ya X.K):=by
 intro value D ae s U H x y v u Q I rx N h hs;let(p,xs,i,z,rfl,rfl,hq,he,q):=h;cases rx;let(t,rfl):=N;let(br,r,pl,hz):=I.tuple hq;let(j,h1,h2,h3,h4,h5):=Gm he;let(w,ew,F):=r.get h2;let W:=r.length;let hn:=vO;show subscriptTail_builtinR pl.typeIs slot_tuple_getitem.lookup
  (getItem_tuple pl () () (by rw[eP,<-W];show h1) ∅ #[O,#[z,H,I,F,q]]) hs
def KD:zj X yb:=by
 intro value D ae s U H x y v u Q I N F h hs;let(z,i,c,rfl,rfl,hz,he,q):=h;let(t,rfl):=N;let(t',rfl):=F;let(j,h1,h2,h3,h4,h5):=Gm he;have W:z.cps.toList.length=z.length:=by simp[Str.length]
 rw[W]at h1 h4 h5;let hn:=vO;show tail_any (typeIs_str s z t) slot_str_getitem.lookup (getItem_str (by rw[(im ()),(im ()),Bool.or_false]) ∅ #[.str #[(List.toArray [c])],H,I.tok _,#[_,O],q]) hs
def rh(K:FG):R2:=λx y H Q=>x_ K x y H Q\/ya K x y H Q\/yb x y H Q
def SX:zj X (rh X.K):=Zk.or (Kx.or KD)
def Rf(i:List Value)(n j:Nat)(u:Value):Obj.mapSeq (·.setIfInBounds j u) { cls:=.type "list",data:=.seq i.toArray n }={ cls:=.type "list",data:=.seq (i.set j u).toArray n }:=by simp[Obj.mapSeq]
theorem ai.lst{U:St}{H:Hp}{p:Addr}{xs:List V}(I:ai X ae U H s)(h:H p=!(.lst xs)):
 ∃(i:List Value)(n:Nat),am xs i/\s.heap.get? p=some { cls:=.type "list",data:=.seq i.toArray n }/\xs.length<=sizeLine:=by
 let(z,i,n,r,e):=I.hok p _ h;grind
def ai.lstUpd{U:St}{j i:List Value}(I:ai X ae U H s)(h:H p=!(.lst xs))
 (Q:s.heap.get? p=some { cls:=.type "list",data:=.seq j.toArray n }) (z:f { cls:=.type "list",data:=.seq j.toArray n }={ cls:=.type "list",data:=.seq i.toArray n' }) (r:am ys i) (N:ys.length<=sizeLine) (t:Nat):
 ai X ae U (aS H p (.lst ys)) { s with heap:=s.heap.update p f,toks:=t }:=by
 have e:(s.heap.update p f).get? p=some { cls:=.type "list",data:=.seq i.toArray n' }:=by rw[k7 f Q (by rw[z]<;>rfl),z]
 show I.write (by rw[h];trivial) (Zl O) (λb u W q=>(k5 _ _ ∅).trans q) #[_,e] ?_;show#[N,i,n',r,e]
def Yl:V->V->V->Hp->(Hp->Prop)->Prop:=λo i v H Q=>∃p xs k j,o=.ref p/\i=.int k/\H p=!(.lst xs)/\ur xs.length k=!j/\Q (aS H p (.lst (xs.set j v)))
def set_list:VB X Yl:=by
 intro ae s U H o i v ov iv u Q I ro ri rv h;let(p,xs,k,j,rfl,rfl,N,hj,q):=h;cases ro;let(t,rfl):=ri;let(z,n,r,D,hz):=I.lst N;let(h1,h2,h3,h4):=Oj hj;let hl:=r.length;let hn:=vO;let I':=
  I.lstUpd N D (Rf z n j u) (r.set rv j) ∅ s.toks
 by_cases F:0<=k
 . have hk:k.toNat=j:=by rw[seqIndex_of F h4]at h1;show d_ h1
   show W.ki_setAt D F () ∅ ∅
 . have hk:(k+(z.toArray.size:Int)).toNat=j:=by rw[seqIndex_neg () h3]at h1;rw[eP,<-hl];show d_ h1
   show W.ki_setBack D () ∅ () ∅
def J8(lo hi:Option Int)(n:Nat):(sliceBounds lo hi J n).1=((HT.sIx n 0 lo:Nat):Int)/\(sliceBounds lo hi J n).2.1=((HT.sIx n n hi:Nat):Int)/\(sliceBounds lo hi J n).2.2=1:=by
 show#[?_,?_,O]
 . cases lo with
   |none=>simp[sliceBounds,HT.sIx]
   |some i=>
    simp only[sliceBounds,HT.sIx,Option.getD_none];by_cases h:i<0
    . grind
    . grind
 . cases hi with
   |none=>simp[sliceBounds,HT.sIx]
   |some i=>
    simp only[sliceBounds,HT.sIx,Option.getD_none];by_cases h:i<0
    . grind
    . grind
def Ji(i:List Value)(lo hi:Option Int):slicePick i.toArray lo hi J=((i.drop (HT.sIx i.length 0 lo)).take (HT.sIx i.length i.length hi-HT.sIx i.length 0 lo)).toArray:=by let(h1,h2,j):=J8 lo hi i.toArray.size;unfold slicePick;rw[h1,h2,j];simp only[sliceRange_one,pick_run]<;>rfl
def KG(K:FG):V->Option Int->Option Int->Hp->VK->Prop:=λx lo hi H Q=>∃a xs,x=.ref a/\bV K H a xs/\∀p,H p=J->Q (.ref p) (aS H p (.lst (uq xs lo hi)))
def Zm:Hk X (KG X.K):=by intro ae s U H x v vl vu lo hi sl Q I W hs pl z h;let(a,xs,rfl,F,q):=h;cases W;let(N,r,j,D):=I.list F;let i:=r.length;show#["list",_,slot_list_getitem.lookup,j.isList.typeIs,?_];show wpAny_getItem_list_slice j.isList hs pl z .none () ?_ ∅;rw[Ji,<-i];show#[.ref s.heap.objs.size,_,I.laid (λb ob q=>cf _ q) () ?_,O,q _ (I.hok.fresh ())];show#[eI (Cd xs lo hi) D,_,0,(r.drop (HT.sIx xs.length 0 lo)).take (HT.sIx xs.length xs.length hi-HT.sIx xs.length 0 lo),dA _ O]
def Ym:V->Bool
 |.non=>G
 |.bl _=>G
 |.int _=>G
 |.str _=>G
 |_=>M
def lw:mj X (.type "list") (λxs H Q=>∃p ys,xs=[.ref p]/\(bV X.K H p ys\/cT X.K H p ys)/\∀l,H l=J->Q (.ref l) (aS H l (.lst ys))):=by
 intro ae s U H xs us Q I r h;let(p,ys,rfl,N,q):=h;let(u,rfl,rx):=d4 r;cases rx;have fin:∀(i:List Value),am ys i->ys.length<=sizeLine->∀(h':Heap)(j:Nat),(∀b o',s.heap.get? b=!o'->h'.get? b=!o')->
  h'.get? s.heap.objs.size=some { cls:=.type "list",dict:=J,data:=.seq i.toArray j,slots:=(List.toArray []) }->EP X ae U Q (YV s.heap.objs.size) { s with heap:=h' }:=λi z D h' j kp e=>
  #[.ref s.heap.objs.size,_,I.laid kp () (show eX X.prog X.w _ h' _ (.lst ys) from #[D,i,j,z,e]),O,q _ (I.hok.fresh ())]
 obtain N|N:=N
 . let(i,z,pl,D):=I.list N;let F:=z.length;let(o,ho,hc,n,W):=pl.isList;show call_list_seq p (Zl O) ho hc W (λh' j kp e=>fin i z D h' j kp e) ∅
 . let(i,z,pl,D):=I.tuple N;let F:=z.length;let(o,ho,hc,n,W):=pl;show call_list_seq p (YY O) ho hc W (λh' j kp e=>fin i z D h' j kp e) ∅
def rj(K:FG)(T:String)(x:V)(H:Hp):Prop:=match x with
 |.str _=>T="str"
 |.int _=>T="int"
 |.ref p=>(T="list"/\∃xs,bV K H p xs)\/(T="tuple"/\∃o,K.lookup p=!o/\o.cls=.type "tuple"/\o.dict=J)\/
  (T="dict"/\((∃a_,H p=!(.dK a_))\/∃a_,H p=!(.dT a_)))\/(T="set"/\∃S n,H p=!(.set S n))
 |_=>False
def S5{U:St}(I:ai X ae U H s)(r:aw x v)(j:rj X.K T x H):
 s.TypeIs v T/\∀a,v=YV a->∃N,s.heap.get? a=!N/\N.dict=J:=by
 cases x with
 |str z=>
  let(t,rfl):=r;cases (j);show#[typeIs_str s z t,λ_ e=>nomatch e]
 |int i=>
  let(t,rfl):=r;cases (j);show#[typeIs_int s i t,λ_ e=>nomatch e]
 |ref p=>
  cases r;obtain⟨rfl,xs,W⟩|⟨rfl,o,hk,hc,F⟩|⟨rfl,hk⟩|⟨rfl,S,n,hk⟩:=j
  . let(br,_,pl,_):=I.list W;show#[pl.isList.typeIs,λa e=>?_];cases e;let(o,n,e,c,F,_):=pl;grind
  . show#[#[o,I.kIn p o hk,hc],λa e=>?_];cases e;show#[o,I.kIn _ o hk,F]
  . have z:∃o,s.heap.get? p=!o/\o.ExactDict:=by
     obtain⟨D,hk⟩|⟨D,hk⟩:=hk
     . let(_,_,_,_,o,_,_,e,ex,_):=I.hok p _ hk;grind
     . let(_,_,_,_,o,_,_,e,ex,_):=I.hok p _ hk;grind
    let(o,e,ex):=z;show#[#[o,e,ex.1],λa q=>?_];cases q;show#[o,e,ex.2.1]
  . let(o,_,_,_,e,ex,_):=I.hok p _ hk;show#[#[o,e,ex.1],λa q=>?_];cases q;show#[o,e,ex.2.1]
 |_=>show False.elim j
def yi(K:FG)(T:String)(r:V->List V->Hp->VK->Prop)(to:TE):TE:=λU H Q=>to U H λx H1=>rj K T x H1/\r x [] H1 Q
def J9(K:FG)(T:String)(r:V->List V->Hp->VK->Prop)(to:TE)(t:TA):TE:=λU H Q=>to U H λx H1=>rj K T x H1/\t U H1 λxs H2=>r x xs H2 Q
variable {o e:Expr}{es:List Expr}{to:TE}{t:TA}{name:Str}{apos cpos:Pos}{T id:String}{r:V->List V->Hp->VK->Prop}
def KI(W:PlainAttrs T)(q:Slot T name id)(z:typeOf (.builtin id)=pure (.type "method_descriptor"))(N:Om X id r)(F:PE X o to)
 (j:attributeBase o name X.env (eval o X.env)=eval o X.env:=by rfl) (i:(apos.endLine==cpos.line)=G:=by rfl):PE X (.Call (.Attribute o name apos) [] [] cpos) (yi X.K T r to):=by
 intro ae s U H Q I h;show wpAny_Call_method0_late j i (cY (F ae s U H _ I h) λv D KL=>?_);let(x,H1,I1,r1,ty,q1):=KL;let(h1,h2):=S5 I1 r1 ty;show#[T,id,W,q,z,h1,h2,Calls.callWith_builtin O (PySem.evalArgs_none (N ae D U H1 x [] v [] Q I1 r1 .nil q1))]
def qW(pa:PlainAttrs T)(q:Slot T name id)(F:typeOf (.builtin id)=pure (.type "method_descriptor"))(hm:Om X id r)(ho:PE X o to)(W:PA X (e::es) t)
 (i:attributeBase o name X.env (eval o X.env)=eval o X.env:=by rfl)
 (z:((backTo cpos (starEach (e::es) X.env)).all (λx=>not x.1)&&(backToKw cpos (keywordEach [] X.env)).all (λx=>x.1.isSome)
   && decide ((e::es).length+([]:List Keyword).length+(if ([]:List Keyword).isEmpty then 0 else 1)<30))=G:=by rfl)
 (j:(apos.endLine==cpos.line)=G:=by rfl) (hs:starEach (e::es) X.env=(M,eval e X.env)::starEach es X.env:=by rfl) (D:(backTo cpos (starEach es X.env)).any (·.1)=M:=by rfl):
 PE X (.Call (.Attribute o name apos) (e::es) [] cpos) (J9 X.K T r to t):=by
 intro ae s U H Q I h;show wpAny_Call_method_late i z j O (cY (ho ae s U H _ I h) λv s1 KO=>?_);let(x,H1,I1,r1,ty,q1):=KO;let(h1,h2):=S5 I1 r1 ty;show#[T,id,pa,q,F,h1,h2,?_];let N:=W cpos ae s1 U H1 _ I1 q1;rw[hs]at N ⊢;show Calls.callWith_builtin () (Calls.evalArgs_plain ?_);show cY N λus s2 KP=>by let(vs,H2,I2,r2,q2):=KP;show hm ae s2 U H2 x vs v us Q I2 r1 r2 q2
end
def S6(X:Cx)(id:String)(r:V->List V->Hp->VK->Prop):Prop:=
 ∀(ae:List (Addr×Obj))(s:Shared)(U:St)(H:Hp)(x:V)(xs:List V)(v:Value)(us:List Value)(Q:VK),ai X ae U H s->aw x v->am xs us->r x xs H Q->
  wpAny (model X.prog X.w) X.A (call (.builtin id) (v::us)) (EP X ae U Q) X.xe s
theorem am.one:∀{x:V}{i:List Value},am [x] i->∃u,i=[u]/\aw x u
 |_,_,.cons r .nil=>#[_,O,r]
theorem am.two:∀{x y:V}{i:List Value},am [x,y] i->∃u v,i=[u,v]/\aw x u/\aw y v
 |_,_,_,.cons r (.cons q .nil)=>#[_,_,O,r,q]
theorem am.zero:∀{i:List Value},am [] i->i=[]
 |_,.nil=>rfl
theorem am.dropLast(h:am xs us):am xs.dropLast us.dropLast:=by
 induction h with
 |nil=>show .nil
 |cons r t i=>
  cases t with
  |nil=>grind
  |cons q j=>show .cons r i
theorem am.eraseIdx:∀{xs:List V}{j:List Value}(i:Nat),am xs j->am (xs.eraseIdx i) (j.eraseIdx i)
 |_,_,_,.nil=>.nil
 |_,_,0,.cons _ t=>t
 |_,_,i+1,.cons r t=>.cons r (am.eraseIdx i t)
def Rg{α:Type}(l:List α):l.eraseIdx (l.length-1)=l.dropLast:=by
 induction l with
 |nil=>rfl
 |cons a r i=>
  cases r with
  |nil=>rfl
  |cons b r=>
   have e:(a::b::r).length-1=((b::r).length-1)+1:=by have h1:(a::b::r).length=r.length+2:=O;have h2:(b::r).length=r.length+1:=O;lia
   rw[e,List.eraseIdx_cons_succ,i]
   grind
theorem Hl{α:Type}:∀(l:List α)(i:Nat),(l.eraseIdx i).length<=l.length
 |[],_=>bv _
 |_::_,0=>kX _
 |_::r,i+1=>Nat.succ_le_succ (Hl r i)
section
variable {X:Cx}{ae:List (Addr×Obj)}{U:St}{H:Hp}{s:Shared}{l b:Addr}{xs ys zs:List V}
def ai.lset{j i:List Value}(I:ai X ae U H s)(hH:H l=!(.lst xs))
 (e:s.heap.get? l=some { cls:=.type "list",data:=.seq j.toArray n }) (F:f j.toArray=i.toArray) (W:am ys i) (N:ys.length<=sizeLine):
 ai X ae U (aS H l (.lst ys)) { s with heap:=s.heap.update l (Obj.mapSeq f),toks:=t' }:=by
 let q:=PySem.IsL.update e f;rw[F]at q;show I.write (by rw[hH];show trivial) (Zl O) (λb' u hb Q=>(k5 s.heap (Obj.mapSeq f) ∅).trans Q) #[_,q] ?_;show#[N,i,_,W,q]
def ai.lnew(I:ai X ae U H s)(F:am ys i)(N:ys.length<=sizeLine):
 ai X ae U (aS H s.heap.objs.size (.lst ys)) { s with heap:=s.heap.push { cls:=.type "list",data:=.seq i.toArray },toks:=t' }:=
 I.laid (λ_ _ q=>cf _ q) () #[N,i,0,F,dA _ O]
theorem ai.fresh(I:ai X ae U H s):H s.heap.objs.size=J:=I.hok.fresh ()
def ai.lstM(I:ai X ae U H s)(j:H l=!(.lst xs)):xs.length<=sizeLine/\∃(i:List Value)(n:Nat),am xs i/\xs.length=i.length/\s.heap.get? l=some { cls:=.type "list",data:=.seq i.toArray n }:=by let(z,i,n,r,e):=I.hok l _ j;show#[z,i,n,r,r.length,e]
def V3(h:n<=sizeLine):Builtin.List.listTooLong n=M:=by show im ()
end
section
variable {X:Cx}
def Gn:V->List V->Hp->VK->Prop:=λx vs H Q=>∃l xs y,x=.ref l/\vs=[y]/\H l=!(.lst xs)/\xs.length<sizeLine/\Q .non (aS H l (.lst (xs++[y])))
def oM:S6 X "list.append" Gn:=by intro ae s U H x vs v us Q I D N h;let(l,xs,y,rfl,rfl,j,hz,q):=h;cases D;let(u,rfl,W):=N.one;let(z,i,n,r,hl,e):=I.lstM j;show call_meets F.slot_list_append #[_,e,O] F.entry_list_append (F.args_list_append_2 _ _) (PySem.list_append l i.toArray n u ∅) #[e,?_];show#[.non,_,I.lset j e (by simp) (r.append (.cons W .nil)) ?_,O,q];rw[bS,List.length_singleton];lia
def yn:V->List V->Hp->VK->Prop:=λx vs H Q=>∃l xs y,x=.ref l/\vs=[]/\H l=!(.lst xs)/\xs[xs.length-1]?=!y/\Q y (aS H l (.lst xs.dropLast))
def KS:S6 X "list.pop" yn:=by
 intro ae s U H x vs v us Q I rx rv h;let(l,xs,y,rfl,rfl,N,W,q):=h;cases rx;let j:=rv.zero;subst j;let(z,i,n,r,hl,e):=I.lstM N;let(u,hu,ru):=r.get W;have D:i.toArray[i.toArray.size-1]?=!u:=by show i.toArray[i.length-1]?=!u;rw[<-Array.getElem?_toList,<-hl];show hu
 show call_meets F.slot_list_pop #[_,e,O] F.entry_list_pop (F.args_list_pop_1 _) (MeetsSeq.list_pop_last l i.toArray n u D ∅) #[e,?_];show#[y,_,I.lset N e ?_ r.dropLast ?_,ru,q]
 . rw[eP,List.eraseIdxIfInBounds_toArray,Rg]
 . rw[List.length_dropLast];lia
def S7:V->List V->Hp->VK->Prop:=λx vs H Q=>∃l xs i k y,x=.ref l/\vs=[.int i]/\H l=!(.lst xs)/\-(2 ^ 63)<=i/\i<2 ^ 63/\seqIndex? i xs.length=!k/\xs[k]?=!y/\Q y (aS H l (.lst (xs.eraseIdx k)))
def V4:S6 X "list.pop" S7:=by
 intro ae s U H x vs v us Q I rx rv h;let(l,xs,i,k,y,rfl,rfl,N,h1,h2,hk,W,q):=h;cases rx;let(u,rfl,ru):=rv.one;let(t,rfl):=ru;let(z,D,n,r,hl,e):=I.lstM N;let(w,hw,j):=r.get W;show call_meets F.slot_list_pop #[_,e,O] F.entry_list_pop (F.args_list_pop_2 _ _)
  (MeetsSeq.list_pop_at l D.toArray n i t k w (fitsIndex_both h1 h2) ∅ ∅ ∅) #[e,?_]
 show#[y,_,I.lset N e ?_ (r.eraseIdx k) ?_,j,q]
 . rw[List.eraseIdxIfInBounds_toArray]
 . have:=Hl xs k;lia
end
end L2
namespace yv
open PySem PySem.W PySem.Calls PyProof.Rows
def DN:∀(ns:List Int)(vs:List Value),WellAll P h vs (ns.map WData.int)->IntsAre vs ns:=by
 intro ns;induction ns with
 |nil=>
  intro vs w;cases w;show .nil
 |cons n ns i=>
  intro vs w;cases w with
  |cons a b=>
   cases a;show .cons _ _ (i _ b)
def S8{l:OpenLaw}(hn:l.most=!n)
 (j:l.row.toRowW.claim.pre args=G) (N:WellAll P h vals args):
 ∃a vs ns,vals=[Value.ref a]/\args=[WData.list (ns.map WData.int)]/\h.get? a=some { cls:=.type "list",data:=.seq vs.toArray }/\IntsAre vs ns/\ ns.length<=n:=by
 let Q:=(pre_splitW j).1;let(d,r,rfl,h1,h2):=hasAllW_cons Q;obtain rfl:=hasAllW_nil h2;let(xs,rfl,h3):=hasW_list h1;let(ns,rfl):=items_int h3;have z:ns.length<=n:=by
  have F:(WTm.not (.lt (.lit (.int (n:Int))) (.len (.arg 0)))).holds [] { args:=[.list (ns.map .int)] }=G:=by let F:=(holds_andW ((pre_splitW j).2)).1;rw[hn]at F;show F
  let W:=condW_of F (w_not (w_lt w_lit (w_len_list (w_arg O))));show xw λq=>?_
  first
   |(rw[js q']at W;show absurd W ())
   |(simp at W;lia)
 cases N with
 |cons w1 w2=>
  cases w2;cases w1 with
  |list ho D=>show#[_,_,ns,O,O,ho,DN ns _ D,z]
def S9(l:OpenLaw)(i:List WData):l.row.toRowW.claim.post i (.bool G) i=G:=
 postW_of
  (show WShape.has [] (.bool G) .bool=G by first |rfl |decide |simp[WShape.arms])
  (w_eq_bool (w_res O) w_lit) O
def attach_call{l:OpenLaw}
 (hn:l.most=!n) (rz:d.params.defaults=[])
 (call:∀(w:World)(s₀ i:Shared)(mg mb:Str->Option Value)(fa:Addr)(o:Obj)(pm Q j:Value)(a:Addr)(vs:List Value)(ns:List Int),
   Ground q loose [] XP w s₀ mg mb i.heap->YP w i.heap->
   i.heap.get? fa=!o->o.data=.func (docDef d.name d.params d.body d.scope pm Q j)->i.heap.CodeRec Q d.name->mg d.name=!(YV fa)->
   i.heap.get? a=some { cls:=.type "list",data:=.seq vs.toArray }->IntsAre vs ns->ns.length<=n->i.gens=(List.toArray [])->
   codeAny (model l.prog w) callerA (.call (YV fa) #[[YV a],[]]) (λr s'=>r=.ok (.ret (.bool G))/\OldK i.heap s'.heap/\s'.os=i.os/\AllBare s'.gens) i):
 WalkO q loose XP YP l.row.toRowW d [] (λf vs=>PySem.call f vs):=by
 intro w s₀ i mg mb ZT Y_ fa o pm Q j dV kV ho hd ol hD W hg args vals as F hlay hrd KU hlo;obtain rfl:dV=.none:=Dflts.none hD rz;obtain rfl:kV=.none:=Dflts.noKw hD;let(a,vs,ns,rfl,rfl,N,z,D):=S8 hn F KU;show enter_call (codeAny_mono (call w s₀ i mg mb fa o pm Q j a vs ns ZT Y_ ho (fd_plain hd) ol W N z D hg) λr s' hq=>?_);let(rfl,h2,h3,h4):=hq;show#[Zl #[.bool G,.bool G,[],O,λ_=>O,.bool G,S9 l _,λ_=>#[List.Pairwise.nil,λ_ hm=>(nomatch hm)]],h2,h3,h4]
end yv
namespace L2
open PySem PySem.Spec PyProof.Rows
variable {ae:List (Addr×Obj)}{E:Value->Shared->Prop}{s:Shared}{A:Around}{w:World}{P:Program}
theorem Hm:∀{vs:List Value}{ns:List Int},IntsAre vs ns->am (ns.map V.int) vs
 |_,_,.nil=>.nil
 |_,_,.cons n t h=>.cons #[t,O] (Hm h)
def ku(H:Hp):Prop:=∀b,H b=J\/∃o xs,H b=!(.frz o (.lst xs))
def V5{K:FG}
 (KX:K.In s₁.heap) (lI:s₁.heap.Ns mainGlobals mg) (j:s₁.heap.Ns builtinsNs mb) (KW:∀x:Str,x ≠ "__name__"->mb x=bootBuiltins x) (hlim:s₁.heap.NoLimit) (hg:s₁.gens=(List.toArray []))
 (ha:s₁.heap.get? a=some { cls:=.type "list",data:=.seq vs.toArray }) (hi:IntsAre vs ns) (hl:ns.length<=sizeLine) (hr:qm k callerA)
 (F:∀base:Heap,K.In base->base.Ns mainGlobals mg->n8 P w K mg base CX k fa fd [x] sp) (Q:∀(s:Shared)(u:Value),BindsTo s fd #[[u],[]] [(x,u)])
 (lv:∀H:Hp,ku H->bV K H a (ns.map V.int)->sp [.ref a] H (λv _=>v=.bl G) λ_ _ _=>False)
 (K0:∀H e s',CX [] H s₁ (λ_ _ _=>False) e s'->False):
 codeAny (model P w) callerA (.call (YV fa) #[[YV a],[]]) (λr s'=>r=.ok (.ret (.bool G))/\OldK s₁.heap s'.heap/\s'.os=s₁.os/\AllBare s'.gens) s₁:=by
 let rv:=Hm hi;let W:=hi.length;have N:∀H:Hp,ku H->bV K H a (ns.map V.int)->je P w H s₁.heap->(∀b,H b≠J->b=a)->(H a≠J->K.lookup a=J)->
  codeAny (model P w) callerA (.call (YV fa) #[[YV a],[]]) (λr s'=>r=.ok (.ret (.bool G))/\OldK s₁.heap s'.heap/\s'.os=s₁.os/\AllBare s'.gens) s₁:=by
  intro H hO hS hok hA hK;have i:∀{b:Addr}{o:Obj},s₁.heap.get? b=!o->H b=J->(wY s₁.heap H).get? b=!o:=λe n=>Vw e n;have K2:∀{b:Addr}{o:Obj}{es:Array DictEntry}{ep:Nat},s₁.heap.get? b=!o->o.data=.dict es ep->H b=J:=λ{b o es ep} e d=>by
   cases q:H b with
   |none=>rfl
   |some u=>
    let e':=hA b ∅;subst e';rw[ha]at e;cases e;let d':=d;cases d'
  have D:∀{b:Addr}{m:Str->Option Value},s₁.heap.Ns b m->(wY s₁.heap H).Ns b m:=λ{b m} ⟨o,es,ep,e,d,r⟩=>#[o,es,ep,i e (K2 e d),d,r];let yy:=λb o e=>i (KX b o e) (by
   cases q:H b with
   |none=>rfl
   |some u=>
    let e':=hA b ∅;subst e';rw[hK ∅]at e;cases e)
  have hM:Mod K mg (wY s₁.heap H):=#[yy,D lI,#[mb,D j,KW],let #[mc,h1,h2]:=hlim;#[mc,D h1,h2]];have e0:Cy P w K mg (wY s₁.heap H) callerA [] s₁ H:=#[O,hM,λb o e=>Y0_ e,Nat.le_of_eq (R6 _ _),trivial,λb j=>absurd (show b∈([]:List Addr) from j) (by simp),hok,.of_eq hg];show codeAny_mono ((F _ yy (D lI)).run callerA [] s₁ H #[[YV a],[]] [YV a] [.ref a] _ _ hr e0 (Q s₁ (YV a)) (.cons O .nil) (lv H hO hS)) λr s' h=>?_;cases r with
  |error e=>show(K0 H e s' h).elim
  |ok fl=>
   cases fl with
   |next=>show False.elim h
   |brk=>show False.elim h
   |cont=>show False.elim h
   |ret u=>
    let(v,H',os,bare,un,hok',r',q):=h;let q':=q;subst q';obtain rfl:u=Value.bool G:=r';show#[O,OldK.of_keep λb o e=>?_,os,bare];cases q:H b with
    |none=>show un.keep b o e q (by intro z;show absurd (show b∈([]:List Addr) from z) (by simp)) (by simp)
    |some u=>
     obtain z|⟨ob,xs,z⟩:=hO b
     . rw[q]at z;cases z
     . let z2:=un.frzs b ob _ z;let(e1,_):=hok b _ z;let(e2,_):=hok' b _ z2;rw[e]at e1;cases e1;show e2
 cases hk:K.lookup a with
 |some o=>
  let e:=KX a o hk;rw[ha]at e;cases e;show N (λ_=>J) (λ_=>Zl O) (YY #[_,vs.toArray,_,hk,O,O,O,by rw[eP,W];show hl,by simpa using rv]) (λb u z=>by let z':=z;cases z') (λb z=>absurd O z) λz=>absurd O z
 |none=>
  show N (λb=>if b=a then !(.frz { cls:=.type "list",data:=.seq vs.toArray } (.lst (ns.map V.int))) else J) (λb=>?_) (Zl (YY #[{ cls:=.type "list",data:=.seq vs.toArray },av O])) (λb u z=>?_) (λb z=>?_) λ_=>hk
  . by_cases j:b=a
    . show YY #[_,_,av j]
    . show Zl (aE j)
  . by_cases j:b=a
    . let z':=(av j).symm.trans z;cases z';subst j;show#[ha,by rw[bq];show hl,vs,_,rv,ha]
    . let z':=(aE j).symm.trans z;cases z'
  . by_cases j:b=a
    . show j
    . show absurd (aE j) z
def walk_of{l:W.OpenLaw}{K:Params->FG}{CX:World->yF}{sp:World->Sp}
 (hn:l.most=!n) (om:n<=sizeLine) (rz:d.params.defaults=[]) (hr:qm k callerA)
 (N:∀(w:World)(h:Heap),YP w h->(K w.params).In h)
 (F:∀(w:World)(mg:Str->Option Value)(fa:Addr)(h:Heap),(K w.params).In h->h.Ns mainGlobals mg->mg d.name=!(YV fa)->
   ∃fd:FuncData,(∀(s:Shared)(u:Value),BindsTo s fd #[[u],[]] [(x,u)])/\
    ∀base:Heap,(K w.params).In base->base.Ns mainGlobals mg->n8 l.prog w (K w.params) mg base (CX w) k fa fd [x] (sp w))
 (lv:∀(w:World)(H:Hp)(a:Addr)(ns:List Int),ns.length<=n->ku H->bV (K w.params) H a (ns.map V.int)->sp w [.ref a] H (λv _=>v=.bl G) λ_ _ _=>False)
 (D:∀(w:World)(H:Hp)(s:Shared)(e:Value)(s':Shared),CX w [] H s (λ_ _ _=>False) e s'->False):
 W.WalkO q loose XP YP l.row.toRowW d [] (λf vs=>PySem.call f vs):=by
 show yv.attach_call hn rz λw s₀ s₁ mg mb fa o pm cd jv a vs ns ZT Y_ ho hd ol Q z i j hg=>?_;let KX:=N w _ Y_;let(fd,hb,hF):=F w mg fa _ KX ZT.T.g Q;show V5 KX ZT.T.g ZT.T.b ZT.T.builtins ZT.T.nolimit hg z i () hr hF hb (λH hO hS=>lv w H a ns j hO hS) λH e s'=>D w H s₁ e s'
def ck(s:Stmt)(j:Nat):Stmt:=match s with
 |.ClassDef _ _ _ body _ _ _ _ _ _ _=>body.getD j (.Pass #[0,0,0,0])
 |_=>.Pass #[0,0,0,0]
def qt(s:Stmt):Arguments:=match s with
 |.FunctionDef _ a _ _ _ _ _ _ _ _=>a
 |_=>{ posonlyargs:=[],args:=[],vararg:=J,kwonlyargs:=[],kw_defaults:=[],kwarg:=J,defaults:=[] }
def jw(s:Stmt):List Stmt:=match s with
 |.FunctionDef _ _ b _ _ _ _ _ _ _=>b
 |_=>[]
def aG(s:Stmt):Scope:=match s with
 |.FunctionDef _ _ _ _ _ _ sc _ _ _=>sc
 |_=>{ kind:=.function,names:=[],isGenerator:=M,isCoroutine:=M }
abbrev pZ:yF:=λ_ _ _ _ _ _=>False
abbrev E0:XK:=λ_ _ _=>False
def JG:zf pZ X E0:=λ_ _ _ _ _ _ _ h=>h.elim
structure uW(K:FG)(x qual:Str)(st:Stmt)(f:Addr)(fd:FuncData):Prop where
 ex:∃(oc:Value)(od:Option Addr)(kV jv pm:Value)(an:Option Addr)(fA ct:Value)(lm:Array (Option Value)),
  fd=W.fnOf x qual (qt st) (jw st) (aG st) .none kV jv pm an fA ct/\K.lookup f=!#[oc,od,.func fd,lm]/\W.codeIn K fA qual=true
 kp:W.keepIn K (.ref f)=true
section
variable {P:Program}{w:World}{K:FG}{mg:Str->Option Value}{base:Heap}
def uW.ok{st:Stmt}(F:uW K x qual st f fd)(S:bC N ps (aG st))(len:∀vs H Q E,sp vs H Q E->vs.length=ps.length)
 (z:∀(j:Value)(A:Around)(i:List Env)(s:Shared)(H:Hp)(vs:List V)(Q:VK)(E:XK),gb b k (A.deeper (envOfC qual (aG st) s.heap.objs.size f j))->sp vs H Q E->
   ∃t,jF (uV b pZ P w K mg base N qual (aG st) f j A i s H E).nox (jw st) t/\t { nx:=λ_ H'=>Q .non H',rt:=Q } (start N vs) H):tG b P w K mg base pZ (k+1) f fd ps sp:=by
 let(oc,od,kV,jv,pm,an,j,ct,lm,rfl,lk,D):=F.ex;show J_ lk D S len λA i s H vs Q E hr W=>?_;let(t,h,q):=z j A i s H vs Q E hr W;show#[t,h.nox,q]
def uW.binds{st:Stmt}(F:uW K x qual st f fd)
 (h:∀(kV i z:Value)(N:Option Addr)(j D:Value)(q:List Value),q.length=ps.length->bindArgs (W.fnOf x qual (qt st) (jw st) (aG st) .none kV i z N j D) #[q,[]]=pure (ps.zip q)):c0 K fd ps []:=by
 let(oc,od,kV,i,z,N,j,D,lm,rfl,lk,Q):=F.ex;show .all ∅
def zm{st:Stmt}{kV j z i q:Value}(l:K.lookup f=!#[oc,od,.func (W.fnOf x qual (qt st) (jw st) (aG st) .none kV j z an i q),lm])
 (c:W.codeIn K i qual=G) (k:W.keepIn K (YV f)=G):uW K x qual st f (W.fnOf x qual (qt st) (jw st) (aG st) .none kV j z an i q):=#[#[oc,od,kV,j,z,an,i,q,lm,O,l,c],k]
end
def Ao(i:gb b k A):A.units+1<cLine:=n4 () i.units
section
variable {X:Cx}
def pv(i:Nat){pos:Pos}(D:X.N[i]?=!x:=by rfl)(q:R7 X.env.scope x:=by first |show Or.inl O |show Or.inr (Or.inl O) |show Or.inr (Or.inr O))(z:(x==("__debug__" : Str))=M:=by decide)
 (j:(x==("__classdict__" : Str))=M:=by decide):PE X (.Name x pos) (um i):=GH D q z j
end
def eQ(H H':Hp):Prop:=∀b o,H b=!o->H' b=!o
def eQ.refl(H:Hp):eQ H H:=λ_ _ h=>h
def eQ.trans(a:eQ H H1)(b:eQ H1 H2):eQ H H2:=λc o h=>b c o (a c o h)
def eQ.free(e:eQ H H')(h:H' l=Option.none):H l=Option.none:=by
 cases q:H l with
 |none=>rfl
 |some o=>
  rw[e l o q]at h;cases h
def eQ.seq{K:FG}(e:eQ H H')(h:bV K H a xs):bV K H' a xs:=by
 obtain (h|⟨o,h⟩)|h:=h
 . show Zl (Zl (e _ _ h))
 . show Zl (YY #[o,e _ _ h])
 . show YY h
section
variable {κ:Type}[DecidableEq κ]
noncomputable def qu (a_:List (κ×V)) (k:κ):Option V:=(a_.find? λkv=>decide (kv.1=k)).map (·.2)
noncomputable def dP (a_:List (κ×V)) (k:κ) (v:V):List (κ×V):=
 if (a_.any λkv=>decide (kv.1=k))=G then a_.map (λkv=>if kv.1=k then (kv.1,v) else kv) else a_++[(k,v)]
def xf{k:κ}(e:p.1=k):qu (p::r) k=!p.2:=by simp[qu,e]
def xg{k:κ}(e:¬ p.1=k):qu (p::r) k=qu r k:=by simp[qu,e]
theorem xj(k:κ):∀i:List (κ×V),(i.any λj=>decide (j.1=k))=(qu i k).isSome
 |[]=>rfl
 |p::r=>by
  rw[qa];by_cases e:p.1=k
  . simp only[xf e,js e,Bool.true_or,Option.isSome_some]
  . rw[xg e,im e,Bool.false_or];show xj k r
def Ce(i:List (κ×V))(k:κ)(v:V):(dP i k v).length<=i.length+1:=by
 unfold dP;split
 . grind
 . grind
def V6{k:κ}(v:V)(h:qu a_ k=J):dP a_ k v=a_++[(k,v)]:=by unfold dP;rw[xj,h];grind
def mR.isSome_eq(r:mR o u):o.isSome=u.isSome:=by
 cases o with
 |none=>cases u with
  |none=>rfl
  |some _=>show(r).elim
 |some _=>cases u with
  |none=>show(r).elim
  |some _=>rfl
def KV.val(r:KV a_ vs)(k:κ):mR (qu a_ k) (valueAt vs k):=by
 induction r with
 |nil=>show True.intro
 | @cons p q ps j h t D=>
  let(h1,h2):=h;by_cases e:p.1=k
  . let i:=h1.symm.trans e;have b:valueAt (q::j) k=!q.2:=by simp[valueAt,i]
    rw[xf e,b];show h2
  . have i:¬ q.1=k:=λz=>e ∅;have b:valueAt (q::j) k=valueAt j k:=by simp[valueAt,i]
    rw[xg e,b];grind
theorem KV.any(r:KV a_ vs)(k:κ):(a_.any λi=>decide (i.1=k))=vs.any λi=>decide (i.1=k):=by
 induction r with
 |nil=>rfl
 |cons h t j=>grind
def KV.repl(r:KV a_ vs)(k:κ)(z:aw y u):
 KV (a_.map λi=>if i.1=k then (i.1,y) else i) (vs.map λi=>if i.1=k then (i.1,u) else i):=by
 induction r with
 |nil=>show .nil
 | @cons p q ps D h t j=>
  rw[dE,dE];show .cons ?_ j;let(h1,h2):=h;by_cases e:p.1=k
  . grind
  . grind
def KV.put(r:KV a_ vs)(k:κ)(i:aw y u):KV (dP a_ k y) (stored vs k u):=by
 unfold dP stored;rw[r.any k];by_cases e:(vs.any λj=>decide (j.1=k))=G
 . rw[av e,av e];show r.repl k i
 . rw[aE e,aE e];show Paired.snoc r #[O,i]
theorem KV.length{vs:List (κ×Value)}(r:KV a_ vs):a_.length=vs.length:=Paired.length r
end
def JH(r:aw (kV k) u):(fM P w).is k u=G:=by
 cases k with
 |inl i=>let(t,e):=(r);subst e;show Nj P w i t
 |inr x=>let(t,e):=(r);subst e;show Nk P w x t
theorem Hn:∀{ks:List da}{i:List Value},am (ks.map kV) i->ItemsAre (fM P w) ks i
 |[],_,r=>by  cases r;show .nil
 |k::ks,_,r=>by
  cases r with
  |cons h t=>show .cons (JH h) (Hn t)
abbrev KT(H:Hp):List (List da×V)->List (List da×Addr×Value)->Prop:=Paired λp q=>p.1=q.1/\H q.2.1=!(.tup (p.1.map kV))/\aw p.2 q.2.2
def KT.val(r:KT H a_ xs)(k:List da):mR (qu a_ k) ((atKey xs k).map (·.2)):=by
 induction r with
 |nil=>show True.intro
 | @cons p q ps j h t D=>
  let(h1,_,h2):=h;by_cases e:p.1=k
  . let i:=h1.symm.trans e;have b:atKey (q::j) k=!q.2:=by simp[atKey,i]
    rw[xf e,b];show h2
  . have i:¬ q.1=k:=λz=>e ∅;have b:atKey (q::j) k=atKey j k:=by simp[atKey,i]
    rw[xg e,b];grind
def KT.repl(r:KT H a_ xs)(k:List da)(D:aw y u):
 KT H (a_.map λi=>if i.1=k then (i.1,y) else i) (xs.map (putAt k u)):=by
 induction r with
 |nil=>show .nil
 | @cons p q ps F h t j=>
  rw[dE,dE];show .cons ?_ j;let(h1,h2,z):=h;unfold putAt;by_cases e:p.1=k
  . grind
  . grind
def KT.put(r:KT H a_ xs)(k:List da)(z:H b=!(.tup (k.map kV)))(i:aw y u):
 KT H (dP a_ k y) (storedH xs k b u):=by
 have e:(a_.any λj=>decide (j.1=k))=(atKey xs k).isSome:=by rw[xj,(r.val k).isSome_eq,Option.isSome_map]
 unfold dP storedH;rw[e];by_cases q:(atKey xs k).isSome=G
 . rw[av q,av q];show r.repl k i
 . rw[aE q,aE q];show Paired.snoc r #[O,z,i]
def KT.keeps(r:KT H a_ xs)(i:∀b ys,H b=!(.tup ys)->H' b=!(.tup ys)):KT H' a_ xs:=
 Paired.mapP r λ_ _ z=>#[z.1,i _ _ z.2.1,z.2.2]
section
variable {P:Program}{w:World}{H:Hp}{h:Heap}{a:Addr}
def Yn(ok:je P w H h)(e:Rd H a u):eX P w H h a u:=e.ok ok
def Rh(ok:je P w H h)(e:Rd H a (.dK a_)):a_.length<=sizeLine/\(a==sysModules)=M/\∃vs,KV a_ vs/\h.DictOf (fM P w) a vs:=
 show eX P w H h a (.dK a_) from Yn ok e
def K_(ok:je P w H h)(e:H a=!(.dK a_)):a_.length<=sizeLine/\(a==sysModules)=M/\∃vs,KV a_ vs/\h.DictOf (fM P w) a vs:=Rh ok (Zl e)
def Ka(ok:je P w H h)(e:H a=!(.tup (ks.map kV))):(tupleKind (fM P w)).is h ks a:=by let(_,i,r,o,h1,h2,n,j):=(ok a _ e);show#[o,i.toArray,n,h1,h2,j,by simpa using Hn r]
def Ri(ok:je P w H h)(e:Rd H a (.dT a_)):a_.length<=sizeLine/\(a==sysModules)=M/\
 ∃xs,KT H a_ xs/\h.DictOfH (tupleKind (fM P w)) a xs:=by
 let(z,y,xs,r,o,es,D,h1,h2,j,N,F):=(Yn ok e);show#[z,y,xs,r,o,es,D,h1,h2,j,N,λx i=>?_,F];have all:∀{l:List (List da×V)}{m:List (List da×Addr×Value)},KT H l m->∀x∈m,(tupleKind (fM P w)).is h x.1 x.2.1:=by
  intro l m q;induction q with
  |nil=>grind
  | @cons p q ps W Q t ih=>
   intro x i;obtain e|i:=aT.mp i
   . subst e;show Ka ok ∅
   . grind
 grind
def Ll(ok:je P w H h)(e:H a=!(.dT a_)):a_.length<=sizeLine/\(a==sysModules)=M/\
 ∃xs,KT H a_ xs/\h.DictOfH (tupleKind (fM P w)) a xs:=Ri ok (Zl e)
end
def V7(H:Hp)(a:Addr)(y:V)(r:Option V):Prop:=
 (∃a_ k,Rd H a (.dK a_)/\y=kV k/\r=qu a_ k)\/∃a_ k b,Rd H a (.dT a_)/\y=.ref b/\H b=!(.tup (k.map kV))/\r=qu a_ k
def yA(H:Hp)(a:Addr)(y v:V)(H':Hp):Prop:=
 (∃a_ k,H a=!(.dK a_)/\y=kV k/\a_.length<sizeLine/\H'=aS H a (.dK (dP a_ k v)))\/
 ∃a_ k b,H a=!(.dT a_)/\y=.ref b/\H b=!(.tup (k.map kV))/\a_.length<sizeLine/\H'=aS H a (.dT (dP a_ k v))
section
variable {X:Cx}{ae:List (Addr×Obj)}{U:St}{H:Hp}{s:Shared}{a:Addr}{y v:V}{u r:Value}{o:Option V}{A:Around}{E:Value->Shared->Prop}
def ai.big(I:ai X ae U H s):sysModules<s.heap.objs.size:=by let h:=(I.mod.glob.keeps I.bk).lt;show Nat.lt_trans () h
def Tc(hu:A.units+1<cLine)(I:ai X ae U H s)(g:V7 H a y (!v))(ry:aw y u)(h:∀q s',ai X ae U H s'->aw v q->Q q s'):
 wpAny (model X.prog X.w) A (getItem (YV a) u) Q E s:=by
 obtain⟨W,k,e,N,l⟩|⟨W,k,b,e,N,eb,l⟩:=g
 . subst N;let(z,hd,vs,j,D):=Rh I.hok e;let(q,hw,i):=mR.some_of (by rw[l];show j.val k);show wpAny_getItem_of (JH ry) D.mapOf hw (h q _ (I.tok _) i)
 . subst N;cases (ry);let(z,hd,xs,j,D):=Ri I.hok e;let(q,hw,i):=mR.some_of (by rw[l];show j.val k);let(p,hp,F):=Option.map_eq_some_iff.mp hw;show wpAny_getItem_heap (tupleKind_room_in1 hu) (Ka I.hok eb) D hp ?_;rw[F];show h q _ (I.tok _) i
def Gp(I:ai X ae U H s)(mu:R5 (H a))(hs:Heap.SameBut a s.heap h')(he:∃q,h'.get? a=!q)(new:eX X.prog X.w (aS H a ob) h' a ob):
 ai X ae U (aS H a ob) { s with heap:=h',toks:=t' }:=
 I.write mu (Zl O) (λb q D z=>(hs.2 b D).trans z) he new
def Lm(z:a_.length<=sizeLine)(j:(a==sysModules)=M)(i:KV a_ vs)(q:h'.DictOf (fM P w) a vs):
 eX P w H' h' a (.dK a_):=#[z,j,vs,i,q]
def Td(hu:A.units+1<cLine)(I:ai X ae U H s)(g:yA H a y v H')(ry:aw y u)(rv:aw v r)(h:∀s',ai X ae U H' s'->Q #[] s'):
 wpAny (model X.prog X.w) A (setItem (YV a) u r) Q E s:=by
 obtain⟨j,k,e,ey,l,W⟩|⟨j,k,b,e,ey,eb,l,W⟩:=g
 . subst ey W;let(z,hd,vs,i,N):=K_ I.hok e;have hz:vs.length<=sizeLine:=by rw[<-i.length];show z
   have hl:(dP j k v).length<=sizeLine:=by have:=Ce j k v;lia
   show wpAny_setItem_pairs (JH ry) N λh' D hs=>h _ ?_;have he:∃q,h'.get? a=!q:=let #[q,_,_,F,_]:=D;#[q,F];show Gp I (by rw[e];show True.intro) hs he (Lm hl hd (i.put k rv) D)
 . subst ey W;cases (ry);let(z,hd,xs,i,N):=Ll I.hok e;have hz:xs.length<=sizeLine:=by rw[<-Paired.length i];show z
   have hl:(dP j k v).length<=sizeLine:=by have:=Ce j k v;lia
   show wpAny_setItem_heap (tupleKind_room_in1 hu) (Ka I.hok eb) N λh' D hs=>h _ ?_;let(q,es,ep,F,h2,h3,h4,_,h5):=D;show Gp I (by rw[e];show True.intro) hs #[q,F] #[hl,hd,_,(i.put k eb rv).keeps λc ys ec=>?_,q,es,ep,F,h2,h3,h4,h5];rw[cR ∅];show ec
end
def Nm{U:St}(I:ai X ae U H s)(g:V7 H a y o):s.TypeIs (YV a) "dict":=by
 obtain⟨i,k,e,_⟩|⟨i,k,b,e,_⟩:=g
 . let(_,_,q,_,j):=Rh I.hok e;show j.typeIs
 . let(_,_,xs,_,j):=Ri I.hok e;show j.typeIs
def V8(h:Heap)(i:sysModules<h.objs.size):eX P w H (h.push { cls:=.type "dict",data:=.dict (List.toArray []) }) h.objs.size (.dK []):=
 #[d3 _,ms.mpr ∅,[],.nil,Heap.DictOf.new h]
def Lo:TE:=λ_ H Q=>∀p,H p=J->Q (.ref p) (aS H p (.dK []))
section
variable {X:Cx}{pos:Pos}
def V9:PE X (.Dict [] [] pos) Lo:=λae s U H Q I h=>
 wpAny_Dict_empty #[.ref s.heap.objs.size,_,I.laid (λ_ _ q=>cf _ q) () (V8 s.heap I.big),O,h _ (I.hok.fresh ())]
end
noncomputable def uX (names:List (Str×NameKind)) (env:Env):List (Str×Addr):=names.foldl (λcs p=>if (p.2==NameKind.free)=G then (p.1,(env.cells.lookup p.1).getD 0)::cs else cs) []
theorem zp{env:Env}:∀(i:List (Str×NameKind))(cs:List (Str×Addr))(x:Str)(c:Addr),
 (∀y d,cs.lookup y=!d->d=(env.cells.lookup y).getD 0)->
 (i.foldl (λcs p=>if (p.2==NameKind.free)=G then (p.1,(env.cells.lookup p.1).getD 0)::cs else cs) cs).lookup x=!c->c=(env.cells.lookup x).getD 0
 |[]=>λcs x c h e=>h x c e
 |(n,k)::r=>λcs x c h e=>by
  simp only[jp]at e;show zp r _ x c ?_ e;intro y d q;split at q
  . simp only[hG]at q;split at q
    . rename_i z;have j:y=n:=by simpa using z
      grind
    . grind
  . grind
theorem DP{env:Env}:∀(i:List (Str×NameKind))(cs:List (Str×Addr))(x:Str)(c:Addr),
 (i.foldl (λcs p=>if (p.2==NameKind.free)=G then (p.1,(env.cells.lookup p.1).getD 0)::cs else cs) cs).lookup x=!c->(∃d,cs.lookup x=!d)\/(x,NameKind.free)∈i
 |[]=>λcs x c e=>Zl #[c,e]
 |(n,k)::r=>λcs x c e=>by
  simp only[jp]at e;obtain⟨d,q⟩|q:=DP r _ x c e
  . split at q
    . rename_i hk;simp only[hG]at q;split at q
      . rename_i z;have j:x=n:=by simpa using z
        have D:k=NameKind.free:=by simpa using hk
        grind
      . grind
    . grind
  . grind
theorem zq{env:Env}:∀(i:List (Str×NameKind))(cs:List (Str×Addr))(x:Str),
 ((∃d,cs.lookup x=!d)\/(x,NameKind.free)∈i)->∃c,(i.foldl (λcs p=>if (p.2==NameKind.free)=G then (p.1,(env.cells.lookup p.1).getD 0)::cs else cs) cs).lookup x=!c
 |[]=>λcs x h=>by
  obtain h|h:=h
  . show h
  . cases h
 |(n,k)::r=>λcs x h=>by
  simp only[jp];show zq r _ x ?_;obtain⟨d,h⟩|h:=h
  . left;split
    . simp only[hG];split
      . grind
      . grind
    . grind
  . obtain e|h:=aT.mp h
    . left;cases e;simp
    . grind
theorem sH:∀(i:List (Str×NameKind))(cs:List (Str×Addr)),(∀p∈i,p.2=NameKind.free->∃c,env.cells.lookup p.1=!c)->
 (forIn i cs λp r=>if (p.2==NameKind.free)=G then do let a <-cellOf env p.1;pure (ForInStep.yield ((p.1,a)::r)) else pure (ForInStep.yield r):Sem (List (Str×Addr)))=
  pure (i.foldl (λcs p=>if (p.2==NameKind.free)=G then (p.1,(env.cells.lookup p.1).getD 0)::cs else cs) cs)
 |[]=>λcs _=>by simp
 |(n,k)::r=>λcs h=>by
  rw[List.forIn_cons,jp];by_cases hk:(k==NameKind.free)=G
  . let(c,z):=h (n,k) bi ∅;let q:=z;simp only[hk,cellOf,q];show sH r _ λp j=>h p (cv _ j)
  . simp only[hk];show sH r _ λp j=>h p (cv _ j)
def yG(h:∀p∈sc.names,p.2=NameKind.free->∃c,env.cells.lookup p.1=!c):closureFor sc env=pure (uX sc.names env):=by have:=sH sc.names [] h;unfold closureFor uX;grind
theorem qx{env:Env}:∀(names:List (Str×NameKind))(x:Str),
 (names.map λ(n,k)=>if (k==NameKind.free&&env.scope.kind==.function&&env.kindOf n==!.cell) then (n,NameKind.cell) else (n,k)).lookup x=
  (names.lookup x).map λk=>if (k==NameKind.free&&env.scope.kind==.function&&env.kindOf x==!.cell) then NameKind.cell else k
 |[],x=>rfl
 |(n,k)::r,x=>by
  let ih:=qx (env:=env) r x;simp only[dE];by_cases hx:x=n
  . subst hx;split<;>simp_all
  . have hb:(x==n)=false:=ms.mpr hx;split<;>simp only[hG,hb,ih]
theorem jD:∀(i:List (Str×NameKind))(n:Nat)(acc:List (Str×Addr)),(cellsFrom n i acc).lookup x=!a->n<=a\/acc.lookup x=!a
 |[]=>λ_ _ h=>YY h
 |(y,k)::r=>λn acc h=>by
  unfold cellsFrom at h;split at h
  . obtain q|q:=jD r _ _ h
    . grind
    . rw[hG]at q;split at q
      . grind
      . grind
  . show jD r _ _ h
theorem zr:∀(i:List (Str×NameKind))(n:Nat)(acc:List (Str×Addr)),(∀z b,acc.lookup z=!b->b<n)->(cellsFrom n i acc).lookup x=!a->(cellsFrom n i acc).lookup y=!a->n<=a->x=y
 |[]=>λ_ _ h h1 h2 j=>absurd (h _ _ h1) ∅
 |(z,k)::r=>λn acc h h1 h2 j=>by
  unfold cellsFrom at h1 h2;split at h1
  . rename_i hk;rw[av hk]at h2;have one:∀{w:Str},(cellsFrom (n+1) r ((z,n)::acc)).lookup w=!a->a=n->w=z:=λ{w} e e'=>by
     obtain q|q:=jD r _ _ e
     . grind
     . rw[hG]at q;split at q
       . grind
       . grind
    by_cases e:a=n
    . grind
    . show zr r (n+1) _ (λw b q=>?_) h1 h2 ∅;rw[hG]at q;split at q
      . grind
      . grind
  . rename_i hk;rw[aE hk]at h2;show zr r n acc h h1 h2 j
theorem zu:∀(i:List (Str×NameKind))(n:Nat)(acc:List (Str×Addr)),i.lookup x=!.cell->(cellsFrom n i acc).lookup x=!a->n<=a
 |[]=>λ_ _ h _=>by cases h
 |(y,k)::r=>λn acc h h1=>by
  rw[hG]at h;unfold cellsFrom at h1;split at h
  . rename_i j;cases h;obtain q|q:=jD r _ _ h1
    . grind
    . grind
  . split at h1
    . show p_ (zu r _ _ h h1)
    . show zu r _ _ h h1
theorem zA:∀(i:List (Str×NameKind))(n:Nat)(acc:List (Str×Addr)),(∀p∈i,p.2=.cell->p.1≠x)->(cellsFrom n i acc).lookup x=acc.lookup x
 |[]=>λ_ _ _=>rfl
 |(y,k)::r=>λn acc h=>by
  unfold cellsFrom;split
  . rename_i hk;rw[zA r _ _ λp j=>h p (cv _ j),hG,show (x==y)=M from ms.mpr λe=>h _ bi ∅ e.symm]
  . show zA r _ _ λp j=>h p (cv _ j)
theorem xn:∀(i:List (Str×NameKind))(h:Heap)(acc:List (Str×Addr))(x:Str)(a:Addr),(cellsFrom h.objs.size i acc).lookup x=!a->h.objs.size<=a->(∀z b,acc.lookup z=!b->b<h.objs.size)->(pushCells h i).IsCell a J
 |[]=>λh acc x a e F j=>absurd (j _ _ e) ∅
 |(y,k)::r=>λh acc x a e F j=>by
  unfold cellsFrom at e;unfold pushCells;split at e
  . rename_i hk;rw[av hk];let N:=g7 h ({ cls:=.type "cell",data:=.cell J }:Obj);by_cases q:a=h.objs.size
    . subst q;show#[_,pushCells_keeps r _ _ _ (dA _ O),O]
    . show xn r _ ((y,h.objs.size)::acc) x a ∅ ∅ λz b D=>?_;rw[N];rw[hG]at D;split at D
      . grind
      . grind
  . rename_i hk;rw[aE hk];show xn r h acc x a e F j
abbrev oh(sc:Scope)(C:Addr)(env:Env):List (Str×Addr):=cellsFrom (C+1) sc.names (uX sc.names env)
structure jy(X:Cx)(ZO F:List Str)(ixs:List Nat)(sc:Scope):Prop where
 kind:sc.kind=.function
 locs:∀y∈sc.names,y.2=.local->sc.names.lookup y.1=!.local
 cel:∀y∈sc.names,y.2=.cell->sc.names.lookup y.1=!.cell
 own:∀p∈sc.names,p.2=.free->X.env.scope.names.lookup p.1=!.cell\/X.env.scope.names.lookup p.1=!.free
 frs:∀x∈F,sc.names.lookup x=!.free
 ixl:ixs.length=F.length
 ixn:∀(j i:Nat),ixs[j]?=!i->X.N[i]?=F[j]?
abbrev zB(m:Nat)(ixs:List Nat)(U:St):St:=List.replicate m J++ixs.map λi=>(U[i]?).join
def gm(X:Cx)(ZO F:List Str)(sc:Scope)(C:Addr)(fp:List Addr)(s:Shared)(H:Hp):Cx where
 prog:=X.prog
 w:=X.w
 K:=X.K
 mg:=X.mg
 base:=X.base
 A:=X.A
 N:=ZO++F
 s₀:=s
 H0:=H
 env:=compEnvC sc (oh sc C X.env) C X.env
 outer:=X.stack
 stack:=X.stack
 ex:=fp
 fn:=λx=>sc.names.lookup x==!.cell
 calm:=X.calm
 pn:=[]
 xe:=λ_ _=>False
section
variable {X:Cx}{ae:List (Addr×Obj)}{U:St}{H:Hp}{s:Shared}
def jy.free_of(c:jy X ZO F ixs sc)(h:sc.names.lookup x=!k):(x,k)∈sc.names:=by
 generalize sc.names=l at h;induction l with
 |nil=>cases h
 |cons p r j=>
  rw[hG]at h;split at h
  . rename_i z;have i:x=p.1:=by simpa using z
    grind
  . grind
def CJ(I:ai X ae U H s)(c:jy X ZO F ixs sc):∀p∈sc.names,p.2=NameKind.free->∃a,X.env.cells.lookup p.1=!a:=λp i e=>
 I.ok.has p.1 (by obtain h|h:=c.own p i e;show Zl h;show YY h)
def iV(I:ai X ae U H s)(c:jy X ZO F ixs sc)(h:(uX sc.names X.env).lookup x=!a):X.env.cells.lookup x=!a:=by
 let e:=zp sc.names [] x a (λy d q=>by cases q) h;obtain⟨d,q⟩|q:=DP sc.names [] x a h
 . cases q
 . let(b,i):=CJ I c _ q O;grind
def Te(I:ai X ae U H s)(c:jy X ZO F ixs sc)(h:(uX sc.names X.env).lookup x=!a):a<s.heap.objs.size:=by let(v,o,i,_):=I.cell x a (iV I c h);show bX i
def Zn(I:ai X ae U H s)(c:jy X ZO F ixs sc){C:Addr}(N:s.heap.objs.size<=C)(Q:∀b∈fp,mU X ae H b)(ho:∀b∈fp,∃o,s.heap.get? b=!o):(gm X ZO F sc C fp s H).Ok where
 mod:=I.ok.mod
 kind:=c.kind
 glob:=I.ok.glob
 blt:=I.ok.blt
 above:=N
 inj:=λx y a e1 e2=>by
  let j:=e1;let D:=e2;have lt:∀z b,(uX sc.names X.env).lookup z=!b->b<C+1:=λz b q=>gT (eS (Te I c q) N);obtain q|q:=jD _ _ _ j
  . show zr _ _ _ lt j D q
  . obtain W|W:=jD _ _ _ D
    . grind
    . show I.ok.inj x y a (iV I c q) (iV I c W)
 has:=λx h=>by
  have h':((sc.names.lookup x).map λk=>if (k==NameKind.free&&X.env.scope.kind==.function&&X.env.kindOf x==!.cell) then NameKind.cell else k)=!.cell\/((sc.names.lookup x).map λk=>if (k==NameKind.free&&X.env.scope.kind==.function&&X.env.kindOf x==!.cell) then NameKind.cell else k)=!.free:=by rw[<-qx];show h
  show qb.mp (qr _ _ _ ?_);cases e:sc.names.lookup x with
  |none=>grind
  |some k=>
   rw[e]at h';let m:=c.free_of e;cases k with
   |free=>show YY (qb.mpr (zq sc.names [] x (YY m)))
   |cell=>grind
   |_=>grind
 cab:=λx a h e=>eI N (p_ (zu _ _ _ (beq_iff_eq.mp h) e))
 hd:=I.ok.hd
 frames:=I.ok.frames
 stk:=Zl O
 exf:=λb i=>#[by
  let(o,e):=ho b i;show c_ (eS (bX e) N),λx a e=>by
  let(o,eo):=ho b i;obtain q|q:=jD _ _ _ (e)
  . show hJ (eS (bX eo) ())
  . show(Q b i).2.2.2.2.1 x a (iV I c q)]
 bs:=I.bs
 bsz:=eI I.ok.bsz I.sz
 noex:=λb o e i=>by
  let(_,_,_,h,_):=Q b i;obtain h|h:=h
  . show I.ok.noex b o e h
  . show absurd (eS (bX (I.ok.bs b o e).1) h) ()
 exfs:=λb i z=>by
  let(_,h1,h2,_):=Q b i;obtain z|z:=aT.mp (I.stkSub b z)
  . grind
  . grind
 funs:=I.stack
 frf:=I.stkFree
def Wa(I:ai X ae U H s)(c:jy X ZO F ixs sc)(hf:∀b∈fp,mU X ae H b)(ho:∀b∈fp,∃o,s.heap.get? b=!o)
 {C:Addr} (hC:C=s.heap.objs.size+1) (lI:h₁.Ns C m1) (Q:∀b o,s.heap.get? b=!o->h₁.get? b=!o)
 (hD:h₁.get? s.heap.objs.size=some { cls:=.type "list",data:=.seq (List.toArray []) 0 }) (rL:∀x a,(oh sc C X.env).lookup x=!a->C+1<=a->h₁.IsCell a J):
 ai (gm X ZO F sc C fp s H) [] (zB ZO.length ixs U) (aS H s.heap.objs.size (.lst [])) { s with heap:=h₁,toks:=tk }:=by
 let lP:=I.hok.fresh (bv _);have j:s.heap.objs.size<=C:=by rw[hC];show kX _
 let rV:=I.hok.fresh j;let hok:=Zn I c j hf ho;show#[hok,O,I.bare,Un.laid Q (bv _) lP,#[m1,lI,?_],?_,?_,?_,?_,?_,?_]
 . intro i x v e1 e2 hv;have mB:(ZO++F)[i]?=!x:=e1;by_cases hi:i<ZO.length
   . grind
   . rw[fy ()]at mB;rw[fy ∅]at e2;simp only[List.length_replicate,c8]at e2;cases q:ixs[i-ZO.length]? with
     |none=>grind
     |some i'=>
      rw[q]at e2;have e2':(U[i']?).join=!v:=by simpa using e2
      have e3:U[i']?=!(!v):=by
       cases z:U[i']? with
       |none=>grind
       |some y=>grind
      let xF:=eR mB;let W:=c.frs x xF;let hm:=c.free_of W;let hX:=c.own _ hm O;have hN:X.N[i']?=!x:=by rw[c.ixn _ _ q];show mB
      let(m,hn,hl):=I.loc;have Lu:R7 X.env.scope x:=by
       obtain h|h:=hX
       . show YY (Zl h)
       . show YY (YY h)
      let(u,r,l):=hl i' x v hN e3 Lu;show#[u,r,YY #[?_,?_]]
      . show (Env.kindOf (compEnvC sc (oh sc C X.env) C X.env) x=_)\/(Env.kindOf (compEnvC sc (oh sc C X.env) C X.env) x=_);have:Env.kindOf (compEnvC sc (oh sc C X.env) C X.env) x=(sc.names.lookup x).map λk=>if (k==NameKind.free&&X.env.scope.kind==.function&&X.env.kindOf x==!.cell) then NameKind.cell else k:=qx sc.names x
        rw[this,W];simp only[iS];split
        . grind
        . grind
      . obtain⟨hk,_⟩|⟨_,cc,mx,hcell⟩:=l
        . obtain h|h:=hX
          . have Lv:X.env.scope.names.lookup x=!.local:=hk;grind
          . have Lv:X.env.scope.names.lookup x=!.local:=hk;grind
        . let(a,ha):=zq sc.names [] x (YY hm);let yB:=iV I c ha;rw[mx]at yB;cases yB;let(oc,D,hd):=hcell;show#[cc,(zA _ _ _ λp hp e z=>by have:=c.cel p hp e;rw[z,W]at this;cases this).trans ha,oc,Q _ _ D,hd]
 . intro x a e;let e':=e;obtain q|q:=jD _ _ _ e'
   . show#[J,rL x a e' q]
   . let(v,oc,D,hd):=I.cell x a (iV I c q);show#[v,oc,Q _ _ D,hd]
 . rw[cR (by rw[hC];show Nat.succ_ne_self _)];show rV
 . intro x a e;obtain q|q:=jD _ _ _ (e)
   . let q':=n4 j q;rw[cR (hJ q')];show I.hok.fresh ()
   . let(v,oc,D,hd):=I.cell x a (iV I c q);rw[cR ∅];show I.freeC x a (iV I c q)
 . intro p hp;cases hp
 . show I.hok.laid Q () #[d3 _,[],0,.nil,hD]
 . show (List.replicate ZO.length J++_).length=(ZO++F).length;simp[c.ixl]
def vD(X:Cx)(f8:List Expr)(t:TT):Prop:=
 ∀(ae:List (Addr×Obj))(s:Shared)(U:St)(H:Hp)(Q:Bool->Hp->Prop),ai X ae U H s->t U H Q->
  wpAny (model X.prog X.w) X.A (forIn f8 G λc r=>if r=G then do let ok <-isTrue c X.env (eval c X.env);pure (ForInStep.yield ok) else pure (ForInStep.yield r)) (TP X ae U Q) X.xe s
def Wb:vD X [] (λ_ H Q=>Q G H):=λ_ s U H Q I h=>wpAny_tests_nil #[H,I,h]
def Wc(h:PT X c t):vD X [c] t:=λae s U H Q I q=>wpAny_tests_one (h ae s U H Q I q)
def Rj(wi:TI)(m:Nat)(ixs:List Nat)(g:TG)(tc:TT)(te:TE):TE:=λU H Q=>wi U H λZU H1=>∀p,H1 p=J->
 ∃W:Nat->Nat->St->Hp->Prop,(∃n,W 0 n (zB m ixs U) (aS H1 p (.lst [])))/\∀i n U' H',W i n U' H'->
  ((ZU.stop i H'/\Q (.ref p) H')\/(ZU.go i H'/\∀x H2,ZU.yld i H' x H2->g x U' H2 λU3 H3=>tc U3 H3 λb H4=>
    if b=G then te U3 H4 λv H5=>∃ys,H5 p=!(.lst ys)/\ys.length<sizeLine/\∃n',n'<n/\W (i+1) n' U3 (aS H5 p (.lst (ys++[v])))
    else ∃n',n'<n/\W (i+1) n' U3 H4))
def CI(X:Cx)(fp:List Addr)(tn:Nat->Heap->Prop)(W:Nat->Nat->St->Hp->Prop)(n:Nat)(s:Shared):Prop:=∃i U H,ai X [] U H s/\tn i s.heap/\(∀b∈fp,H b=J)/\W i n U H
def zE{P:Prop}(h:∀G:Prop,(P->G)->G):P:=h P id
def Tf{F:Hp->Prop}(Q:X.calm=G)(T:fT X.prog X.w X.K tg ZU fp it tn)(hg:PG X tg g)(hc:vD X f8 tc)(he:PE X elt te)(hx:∀u s,X.xe u s->False)
 (z:∀{H':Hp},(∀b∈fp,H' b=J)->∀b∈fp,mU X [] H' b)
 (turn:∀i n U' H',W i n U' H'->((ZU.stop i H'/\F H')\/(ZU.go i H'/\∀x H2,ZU.yld i H' x H2->g x U' H2 λU3 H3=>tc U3 H3 λb H4=>
   if b=G then te U3 H4 λv H5=>∃ys,H5 D=!(.lst ys)/\ys.length<sizeLine/\∃n',n'<n/\W (i+1) n' U3 (aS H5 D (.lst (ys++[v])))
   else ∃n',n'<n/\W (i+1) n' U3 H4)))
 {ZN:Result->Shared->Prop} (hR:∀U' H' s',ai X [] U' H' s'->F H'->ZN (.ok .next) s') (n:Nat) (s':Shared) (hI:CI X fp tn W n s'):
 wpAny (model X.prog X.w) X.A (compTurn (.ListComp elt [#[tg,iter,f8,0]] sc pos) 0 (YV it) (YV D) X.env)
  (λfin s'=>match fin with |.done f=>ZN (.ok f) s' |.again c'=>c'=.compLoop (.ListComp elt [#[tg,iter,f8,0]] sc pos) 0 (YV it) (YV D) X.env/\∃m,m<n/\CI X fp tn W m s') (λ_ _=>False) s':=by
 show zE λZT q=>?_;let(i,U',H',I',db,yT,w'):=hI;obtain⟨stop,qn⟩|⟨go,step⟩:=turn i n U' H' w'
 . show q (al (wpAny_standAt (al (wpAny_mono (T.done X O O O Q i [] s' U' H' (λ_ _=>False) I' (z yT) db stop) (λr s4 h4=>?_) λ_ _ f=>f))));let(hr,I4):=h4;subst hr;show ay (hR U' H' _ I4 qn)
 . show q (al (wpAny_standAt (al (wpAny_mono (T.item X O O O Q i [] s' U' H' (λ_ _=>False) I' (z yT) db go) (λr s4 h4=>?_) λ_ _ f=>f))));let(u,hr,h4):=h4;subst hr;show al (wpAny_mono h4 (λ_ s5 h5=>?_) λ_ _ f=>f);show zE λZT q=>?_;let(x,H5,I5,r5,y5,kt,qV):=h5;have N:∀{s7:Shared}{U7:St}{H7:Hp}{n':Nat},ai X ([]++yV fp s5.heap) U7 H7 s7->W (i+1) n' U7 H7->CI X fp tn W n' s7:=λ{s7 U7 H7 n'} I7 w7=>by
    have pn:∀b∈fp,∀o,s5.heap.get? b=!o->s7.heap.get? b=!o/\H7 b=J:=λb hb o e=>by have:=I7.pin (b,o) (fB _ (fB _ (w5 hb e)));show#[this.1,this.2.1]
    show#[i+1,U7,H7,I7.unpinned,T.keep _ _ _ kt λb hb o e=>(pn b hb o e).1,λb hb=>?_,w7];let(o,e,d):=T.obj _ _ kt b hb;show(pn b hb o e).2
   show q (al (wpAny_mono (hg _ s5 U' H5 x u _ (I5.pinned (z qV) (T.obj _ _ kt)) r5 (step x H5 y5)) (λ_ s6 h6=>?_) hx));show zE λZT q=>?_;let(U6,H6,I6,q6):=h6;show q (al (wpAny_mono (hc _ s6 U6 H6 _ I6 q6) (λok s7 h7=>?_) hx));show zE λZT q=>?_;let(H7,I7,q7):=h7;cases ok with
   |false=>
    let(n',lh,w7):=q7;show q (ay #[O,n',lh,N I7 w7])
   |true=>
    show q (al (al (wpAny_mono (he _ s7 U6 H7 _ I7 q7) (λv s8 h8=>?_) hx)));show zE λZT q=>?_;let(y,H8,I8,r8,ys,LA,hz,n',lh,w8):=h8;show q (al (wpAny_mono (oM _ s8 U6 H8 (.ref D) [y] (YV D) [v] (λ_ H9=>W (i+1) n' U6 H9) I8 O (.cons r8 .nil) #[_,ys,y,O,O,LA,hz,w8]) (λ_ s9 h9=>?_) hx));let(_,H9,I9,_,w9):=h9;show ay (ay #[O,n',lh,N I9 w9])
def Zo
 (h:Q (newEnv sc s.heap.objs.size gl (cellsFrom (s.heap.objs.size+1) sc.names LB) qual J .none (!env) builtinsNs) { s with heap:=pushCells (s.heap.push { cls:=.type "dict",data:=.dict (List.toArray []) }) sc.names }):
 wpAny Md A (newFunctionEnv sc gl LB [] qual J .none (!env)) Q E s:=by
 simp only[newFunctionEnv,Option.isSome_some,if_true];show al (wpAny_alloc ?_);show al (wpAny_layCells _ (λname j cells=>by cases D:j==NameKind.cell<;>simp[D]) _ _ _ _ ?_);rw[show ({ s with heap:=s.heap.push { cls:=.type "dict",data:=.dict (List.toArray []) } }:Shared).heap.objs.size=s.heap.objs.size+1 from g7 ..];show al (ay (ay h))
def DQ(hcalm:X.calm=G)(c:jy X ZO F ixs sc)
 (hg:∀C fp s H,PG (gm X ZO F sc C fp s H) tg g) (hc:∀C fp s H,vD (gm X ZO F sc C fp s H) f8 tc) (he:∀C fp s H,PE (gm X ZO F sc C fp s H) elt te)
 {Q:VK} (I:ai X ae U H s) (T:fT X.prog X.w X.K tg ZU fp it tn) (st:tn 0 s.heap) (hf:∀b∈fp,mU X ae H b)
 (h:∀p,H p=J->∃W:Nat->Nat->St->Hp->Prop,(∃n,W 0 n (zB ZO.length ixs U) (aS H p (.lst [])))/\∀i n U' H',W i n U' H'->
   ((ZU.stop i H'/\Q (.ref p) H')\/(ZU.go i H'/\∀x H2,ZU.yld i H' x H2->g x U' H2 λj H3=>tc j H3 λb H4=>
     if b=G then te j H4 λv H5=>∃ys,H5 p=!(.lst ys)/\ys.length<sizeLine/\∃n',n'<n/\W (i+1) n' j (aS H5 p (.lst (ys++[v])))
     else ∃n',n'<n/\W (i+1) n' j H4)))
 {RR:Value->Addr->Result->Shared->Prop}
 (hR:∀D C s' H' m,s.heap.get? D=J->s.heap.get? C=J->s.heap.objs.size<=C->H D=J->D≠C->H' C=J->s'.heap.Ns C m->s'.os=s.os->AllBare s'.gens->Un (frs X.stack) fp H H' s.heap s'.heap->je X.prog X.w H' s'.heap->Q (.ref D) H'->RR (YV D) C (.ok .next) s'):
 wpAny (model X.prog X.w) X.A (newList []) (λacc s₃=>wpAny (model X.prog X.w) X.A (newFunctionEnv sc X.env.globals (uX sc.names X.env) [] X.env.qual J .none (!X.env)) (λcenv s₄=>
  codeAny (model X.prog X.w) X.A (.compStart (.ListComp elt [#[tg,iter,f8,0]] sc pos) 0 (YV it) acc { cenv with scope:=relabel sc X.env }) (RR acc cenv.locals) s₄) E s₃) E s:=by
 show wpAny_newObj_type (Zo ?_);generalize rX:s.heap.push { cls:=.type "list",dict:=J,data:=.seq ([]:List Value).toArray }=H2;generalize r9:pushCells (H2.push { cls:=.type "dict",data:=.dict (List.toArray []) }) sc.names=h₁;have kp:∀b o,H2.get? b=!o->h₁.get? b=!o:=λb o e=>by rw[<-r9];show pushCells_keeps _ _ _ _ (cf _ e)
 have hns₁:h₁.Ns H2.objs.size (λ_=>J):=by rw[<-r9];show(Heap.Ns.new H2 (.type "dict")).keeps (pushCells_keeps _ _)
 have hC:H2.objs.size=s.heap.objs.size+1:=by rw[<-rX,g7]
 have r_:s.heap.objs.size≠H2.objs.size:=by rw[hC];show c_ ()
 have below:∀b,b<s.heap.objs.size->b≠H2.objs.size:=λb N=>by rw[hC];show c_ ()
 let yY:=λb o e=>kp b o (rX▸cf _ e);let hD:=kp _ _ (rX▸dA _ O);have fresh:∀a,s.heap.objs.size<=a->s.heap.get? a=J:=λa ha=>by
  cases e:s.heap.get? a with
  |none=>rfl
  |some o'=>show absurd (bX e) ∅
 let lP:=I.hok.fresh (bv _);have sd:∀b∈fp,∃o,s.heap.get? b=!o:=λb N=>let #[o,e,_]:=T.obj 0 _ st b N;#[o,e];have on:(H2.push { cls:=.type "dict",data:=.dict (List.toArray []) }).objs.size=H2.objs.size+1:=g7 ..;have rL:∀x a,(oh sc H2.objs.size X.env).lookup x=!a->H2.objs.size+1<=a->h₁.IsCell a J:=λx a e q=>by rw[<-r9];show xn _ _ (uX sc.names X.env) x a ∅ () λz b q'=>by rw[on,hC];show gT (gT (Te I c q'))
 let I0:=Wa I c hf sd (tk:=s.toks) hC hns₁ yY hD rL;let(W,(n0,w0),turn):=h _ lP;have nf:∀b∈fp,b≠s.heap.objs.size:=λb N=>by let(o,e):=sd b N;show c_ (bX e)
 have stat:∀{H':Hp},(∀b∈fp,H' b=J)->∀b∈fp,mU (gm X ZO F sc H2.objs.size fp s H) [] H' b:=λ{H'} hn b N=>by
  let(f0,f1,f2,f3,f4,f5):=hf b N;let(o,e):=sd b N;show#[hn b N,below b (bX e),λz=>?_,Zl N,λx a e'=>by
   obtain q|q:=jD _ _ _ (e')
   . grind
   . show f4 x a (iV I c q),λp hp=>by cases hp]
  obtain z|z:=aT.mp (I.stkSub b z)
  . grind
  . grind
 let y0:=T.keep 0 _ _ st λb N o e=>yY b o e;have loop:codeAny (model X.prog X.w) X.A (.compLoop (.ListComp elt [#[tg,iter,f8,0]] sc pos) 0 (YV it) (YV s.heap.objs.size) (compEnvC sc (oh sc H2.objs.size X.env) H2.objs.size X.env))
  (RR (YV s.heap.objs.size) H2.objs.size) { s with heap:=h₁ }:=by
  show codeAny_loop O (CI (gm X ZO F sc H2.objs.size fp s H) fp tn W) (λn s' hI=>?_) n0 #[0,_,_,I0,y0,λb N=>by rw[cR (nf b N)];show(hf b N).1,w0];show wpAny_noted (wpAny_mono (Tf (X:=gm X ZO F sc H2.objs.size fp s H) hcalm T (hg _ fp s H) (hc _ fp s H) (he _ fp s H) (λ_ _ f=>f) stat turn (λU' H' s4 I4 qn=>?_) n s' hI) (λ_ _ h=>h) λ_ _ f=>f.elim);let(m4,LF,_):=I4.loc;show hR _ _ _ H' m4 (fresh _ ()) (fresh _ ()) () lP r_ I4.free LF I4.os I4.bare I4.base I4.hok qn
 show codeAny_compStart_list loop (T.self _ 0 _ _ _ y0 loop)
end
section
variable {X:Cx}
def Oo{U q:St}(I:ai X ae U H s)(D:s.heap.get? C=J)(F:ai X ae q H' s')(N:H' C=J){m:Str->Option Value}(hs:Heap.SameBut C s'.heap h')
 (i:s.heap.objs.size<=C):ai X ae q H' { s' with heap:=h' }:=by
 have ne:∀a o,s.heap.get? a=!o->C≠a:=λa o e z=>by rw[z,e]at D;cases D
 show F.turned (λb o W e=>(hs.2 b W).trans e) N ?_ (YY (eI I.sz i)) (λx c e=>?_) (λp Q=>?_)
 . show hJ (eS I.lt i)
 . let(v,o,ho,_):=I.cell x c e;grind
 . show Ne.symm (ne _ _ (I.pin p Q).1)
def Zq(z F:List Str)(ixs:List Nat)(i:X.calm=G)(c:jy X z F ixs sc)(hi:PI X tg iter wi)
 (hg:∀C fp s H,PG (gm X z F sc C fp s H) tg g) (hc:∀C fp s H,vD (gm X z F sc C fp s H) f8 tc) (he:∀C fp s H,PE (gm X z F sc C fp s H) elt te)
 (hs:∀x,foldedSetIterable iter X.env x=pure x:=by intro _;rfl):PE X (.ListComp elt [#[tg,iter,f8,0]] sc pos) (Rj wi z.length ixs g tc te):=by
 intro ae s U H Q I h;show wpAny_comprehension_free O hs (yG (CJ I c)) c.kind c.locs (cY (hi ae s U H _ I h) λv s1 h1=>cY h1 λoj s2 h2=>?_);let(it,fp,tn,ZU,H2,e,I2,T,ip,f2,q):=h2;subst e;show DQ i c hg hc he I2 T ip f2 q ?_;intro D C s' H' m hD hC fF lP r_ W N se j sf hok q';let I3:=I2.call' se sf hok j λb hb=>by let(_,g1,g2,g3,g4,g5):=f2 b hb;show#[g3,g1,g4,g5]
 show#[m,N,λh' hU=>#[.ref D,H',Oo (m:=m) I2 hC I3 W hU fF,O,q']]
def Zr(ZO F:List Str)(ixs:List Nat){pos pos' j:Pos}(hN:X.N.Nodup)(sg:X.N[i]?=!x)(hx:X.env.scope.names.lookup x=!.local)
 (z:X.calm=G) (c:jy X ZO F ixs sc) (hi:PI X tg iter wi)
 (hg:∀C fp s H,PG (gm X ZO F sc C fp s H) tg g) (hc:∀C fp s H,vD (gm X ZO F sc C fp s H) f8 tc) (he:∀C fp s H,PE (gm X ZO F sc C fp s H) elt te)
 (LG:swapsWith (.ListComp elt [#[tg,iter,f8,0]] sc pos) (!(.Name x pos')) j.line X.env=pure G:=by rfl)
 (hs:∀x,foldedSetIterable iter X.env x=pure x:=by intro _;rfl):PS X (.Assign [.Name x pos'] (.ListComp elt [#[tg,iter,f8,0]] sc pos) j) (λD U H=>Rj wi ZO.length ixs g tc te U H λv H1=>D.nx (U.set i (!v)) H1):=by
 intro ae s U H D I h;rw[exec_Assign_Name_used _ _ _ _ LG];show al (wpAny_standAt (al ?_));show al (wpAny_mono (wpAny_comprehension_free O hs (yG (CJ I c)) c.kind c.locs
  (cY (hi ae s U H _ I h) λv s1 h1=>cY h1 λoj s2 h2=>?_)) (λ_ s' hq=>ay (ay hq)) λ_ _ e=>e)
 let(it,fp,tn,ZU,H2,e,I2,T,ip,f2,q):=h2;subst e;show DQ (Q:=λv H1=>D.nx (U.set i (!v)) H1) z c hg hc he I2 T ip f2 q ?_;intro D' C s' H' m hD hC fF lP r_ rV lI se W sf hok q';let I3:=I2.call' se sf hok W λb hb=>by let(_,g1,g2,g3,g4,g5):=f2 b hb;show#[g3,g1,g4,g5]
 let hLC:=hJ (eS I2.lt fF);show wpAny_assign_Name (Hc (v:=.ref D') I3 hN sg (Zl hx) O (λs'' I4 ⟨a,LH,ha⟩=>?_) (YY hx));have LI:C≠a:=by
  obtain ha|ha:=ha
  . grind
  . let(v,o,ho,_):=I2.cell x a ha;grind
 show#[m,lI.sameBut LH LI,λh' hU=>#[_,H',Oo (m:=m) I2 hC I4 rV hU fF,q']]
end
def Kc(l:Addr)(items:Array Value)(n:Nat)(b:Addr)(i:Array Value)(n2:Nat)(j:Option Addr)(q:Array (Option Value))(Q:¬(not items.isEmpty&&Builtin.List.listTooLong (items.size+i.size))=G)(y3:items.size<=sizeLine)(z:items.size+i.size<=sizeLine+1):
 Meets (Builtin.«list.extend» #[[YV l,YV b],[]]) (λ_ ZN s=>s.heap.get? l=some { cls:=.type "list",dict:=J,data:=.seq items n,slots:=(List.toArray []) }/\s.heap.get? b=some { cls:=.type "list",dict:=j,data:=.seq i n2,slots:=q }/\ZN (.ok (.ret Value.none)) { s with heap:=s.heap.update l (Obj.mapSeq λx=>x++i),toks:=s.toks }):=
 .of_wp λprog w A ZN s h=>by
  let(hp,g,d,tk,os):=s;let(N,hb,h):=h;let f1:=AutoSeq1.idx_int;let f2:=AutoSeq1.sub_tuple_tuple;let f3:=AutoSeq1.sub_list_list;let f4:=AutoSeq1.sub_tuple_list;let f5:=AutoSeq1.sub_list_tuple;have W:(items++i).size<=sizeLine+1:=by rw[Array.size_append];show z
  wp_walk using (wpAny_updateSeq N O),AutoSeq1.wpAny_loadPart' N,AutoSeq1.wpAny_loadPart' hb;grind
section
variable {X:Cx}
def Zu:jn X (binaryOp .Add) (λx y H Q=>∃a b xs ys,x=.ref a/\y=.ref b/\bV X.K H a xs/\bV X.K H b ys/\xs.length+ys.length<=sizeLine/\∀p,H p=J->Q (.ref p) (aS H p (.lst (xs++ys)))):=by
 intro ae s U H x y v u Q I rx ry h;let(a,b,xs,ys,rfl,rfl,ha,hb,hz,q):=h;cases rx;cases ry;let(j,z,((c1,d1,dt1,s1),n1,W,e1,e2,e3),_):=I.list ha;let(i,N,((c2,d2,LJ,s2),n2,D,f1,f2,f3),_):=I.list hb;subst e1 e2 e3 f1 f2 f3;let jI:=z.length;let jS:=N.length;show concat_meets #[_,W,O] #[_,D,O] noFill_list_add seq_list_add F.slot_list_add F.entry_list_add (F.args_list_add_2 _ _) (list_addW a b j.toArray i.toArray n1 n2 J J s1 s2 ∅) #[W,D,?_];have ea:j.toArray++i.toArray=(j++i).toArray:=by simp
 rw[ea];show#[.ref _,_,I.lnew (z.append N) ∅,O,q _ I.fresh]
def Ke(K:FG):V->List V->Hp->VK->Prop:=λx vs H Q=>∃l b xs zs,x=.ref l/\vs=[.ref b]/\H l=!(.lst xs)/\bV K H b zs/\xs.length+zs.length<=sizeLine/\Q .non (aS H l (.lst (xs++zs)))
def Rk:S6 X "list.extend" (Ke X.K):=by
 intro ae s U H x vs v us Q I rx rv h;let(l,b,xs,zs,rfl,rfl,hH,hB,hz,q):=h;cases rx;let(u,rfl,ru):=rv.one;cases ru;let(z,j,n,r,hl,e):=I.lstM hH;let(i,W,((c2,d2,LJ,s2),n2,g2,f1,f2,f3),_):=I.list hB;subst f1 f2 f3;let jS:=W.length;have N:j.toArray.size+i.toArray.size<=sizeLine:=by rw[eP,eP];lia
 have D:¬ (not j.toArray.isEmpty&&Builtin.List.listTooLong (j.toArray.size+i.toArray.size))=G:=by rw[V3 N,Bool.and_false];show nE
 show call_meets F.slot_list_extend #[_,e,O] F.entry_list_extend (F.args_list_extend_2 _ _)
  (Kc l j.toArray n b i.toArray n2 J s2 D () ()) #[e,g2,?_]
 show#[.non,_,I.lset hH e (by simp) (r.append W) ?_,O,q];rw[bS];lia
end
def lF(z:Str)(lo hi:Option Int):Str:=#[((z.cps.toList.drop (HT.sIx z.length 0 lo)).take (HT.sIx z.length z.length hi-HT.sIx z.length 0 lo)).toArray]
def LL(lo hi:Option Int)(n:Nat):Builtin.Str.strSliceIndices lo hi 1 n=(List.range (HT.sIx n n hi-HT.sIx n 0 lo)).map (HT.sIx n 0 lo+·):=by
 have q:∀(o:Option Int)(d:Nat),d<=n->(match o with |none=>(d:Int) |some i=>max 0 (min (if i<0 then i+(n:Int) else i) (n:Int)))=((HT.sIx n d o:Nat):Int):=λo d z=>by
  cases o with
  |none=>rfl
  |some i=>
   simp only[HT.sIx];by_cases h:i<0
   . grind
   . grind
 rw[<-sliceRange_one];let D:=q lo 0 ();let F:=q hi n ();unfold Builtin.Str.strSliceIndices;grind
def Tg(z:Str)(lo hi:Option Int):Txt.slice z lo hi=lF z lo hi:=by
 unfold Txt.slice lF;rw[LL];let i:=pick_run z.cps (HT.sIx z.length 0 lo) (HT.sIx z.length z.length hi-HT.sIx z.length 0 lo);split
 . rename_i h;have h2:(List.map (HT.sIx z.length 0 lo+·) (List.range (HT.sIx z.length z.length hi-HT.sIx z.length 0 lo))).length=z.length:=by simpa using h
   rw[bq,fR]at h2;have D:HT.sIx z.length z.length hi<=z.length:=HT.sIx_le _ _ () hi;have q:HT.sIx z.length 0 lo<=z.length:=HT.sIx_le _ _ () lo;have j:HT.sIx z.length 0 lo=0:=()
   rw[h2,j,List.drop_zero,nV (by rw[fz];show bv _)]
 . rw[i]
def LM:V->Option Int->Option Int->Hp->VK->Prop:=λx lo hi H Q=>∃z,x=.str z/\z.length<=sizeLine/\Q (.str (lF z lo hi)) H
section
variable {X:Cx}
def LN:Hk X LM:=by
 intro ae s U H x v vl vu lo hi sl Q I rx hs pl pu h;let(z,rfl,hz,q):=h;let(t,rfl):=rx;show#["str",_,F.slot_str_getitem.lookup,typeIs_str _ _ _,?_];have N:∀(l u:Option (Int×Tok)),vl=partValue l->vu=partValue u->l.map (·.1)=lo->u.map (·.1)=hi->wpAny (model X.prog X.w) X.A (getItem (.str z t) (YV sl)) (EP X ae U Q) X.xe s:=λl u e1 e2 e3 e4=>by subst e1 e2 e3 e4;show wpAny_getItem_str_slice (st:=J) hs O (post_val_or_str #[eI (Txt.slice_le z _ _) hz,λt' k=>?_]);show#[.str (lF z (l.map (·.1)) (u.map (·.1))),H,I.tok _,#[t',?_],q];rw[<-Tg];rfl
 cases pl with
 |none=>cases pu with
  |none=>show N J J O O O O
  |int j W=>show N J (!(j,W)) O O O O
 |int i ti=>cases pu with
  |none=>show N (!(i,ti)) J O O O O
  |int j W=>show N (!(i,ti)) (!(j,W)) O O O O
end
section
variable {X:Cx}{ae:List (Addr×Obj)}{U:St}{H:Hp}{s:Shared}{h':Heap}
def Wd{h:Heap}(e:h.get? a=!o):o.isFreed=M:=by
 unfold Heap.get? at e;split at e
 . cases e
 . rename_i i;let(c,d,j,sl):=o;cases j<;>first |rfl |show(i _ _ _ e).elim
def ai.turned2(I:ai X ae U H s)(hei:e≠it)(k:∀b o,b≠e->b≠it->s.heap.get? b=!o->h'.get? b=!o)(fe:mU X ae H e)(fi:mU X ae H it)(he:∃o,h'.get? e=!o)(z:∃o,s.heap.get? e=!o):ai X ae U H { s with heap:=h',toks:=t' }:=by
 let(o,ho):=he;let(o0,D):=z;let(a0,a1,a2,a3,a4,a5):=fe;let(W,b1,b2,b3,Q,b5):=fi;have I1:ai X ae U H { s with heap:=s.heap.update e (λ_=>o),toks:=s.toks }:=I.turned (λb u hb q=>(k5 s.heap (λ_=>o) ∅).trans q) a0 a1 a3 a4 a5;show ai.turned (s:={ s with heap:=s.heap.update e (λ_=>o),toks:=s.toks }) I1 (λb u hb q=>?_) W b1 b3 Q b5;by_cases F:b=e
 . subst F;let N:=q;rw[k7 (λ_=>o) D (Wd ho)]at N;grind
 . let N:=q;rw[k5 s.heap (λ_=>o) ∅]at N;grind
end
def sj(K:FG)(a:Addr):It:=
 #[λi H=>∃xs x,bV K H a xs/\xs[i]?=!x,λi H x H'=>∃T y,H T=J/\x=.ref T/\H'=aS H T (.tup [.int i,y])/\∀xs,bV K H a xs->xs[i]?=!y,λi H=>∃xs,bV K H a xs/\xs.length<=i]
def Th{K:FG}{x1}(a e D:Addr)(Q:e≠D):fT P w K (.Tuple eK x1 pos) (sj K a) [e,D] e (λi h=>(∃z,IsEnum h e D i z)/\h.IsListIter D a i) where
 mem:=by simp
 obj:=λi h st b F=>by
  let((z,N),j):=st;obtain rfl|F:=aT.mp F
  . grind
  . have eb:b=D:=by simpa using F
    subst eb;let(o,ho,c,d):=j;grind
 keep:=λi h h' st k=>by let((z,N),j):=st;show#[#[z,k e (by simp) _ N],j.at λo q=>k D (by simp) o q]
 item:=by
  intro X hP hw hK hc i ae s U H E I hf st hg;subst hP hw hK;let((z,N),j):=st;let(xs,x,hq,hx):=hg;let(br,rv,p,hz):=I.list hq;let(u,hu,ru):=rv.get hx;let fe:=hf e (by simp);let fi:=hf D (by simp);let W:=bX N;have hilt:D<s.heap.objs.size:=by let(_,q,_):=j;show bX q
  let sk:=I.hok.fresh (bv _);show wpAny_pyNext_enum_item N j p.isList (by simpa using hu) Q λh1 ho hit' hT fF hk=>?_;show#[_,O,wpAny_letOwnedTupleGo_enum ho λh2 y4 hU=>?_];let y6:=hJ W;let y7:=hJ hilt;have I1:ai X ae U (aS H s.heap.objs.size (.tup [.int i,x])) { s with heap:=s.heap.push { cls:=.type "tuple",data:=.seq (List.toArray [.int i s.toks,u]) },toks:=s.toks+1 }:=by show I.laid (λb o q=>cf _ q) () #[by simp only[be];rw[sizeLine_eq];decide,[.int i s.toks,u],.cons #[_,O] (.cons ru .nil),?_];show#[_,dA s.heap O,O,0,O]
  have up:∀b,b≠s.heap.objs.size->H b=J->aS H s.heap.objs.size (.tup [.int i,x]) b=J:=λb F q=>by rw[cR F];show q
  have I2:ai X ae U (aS H s.heap.objs.size (.tup [.int i,x])) { s with heap:=h2,toks:=s.toks+1 }:=by
   show I1.turned2 Q (λb o i5 LO q=>?_) #[up e y6.symm fe.1,fe.2] #[up D y7.symm fi.1,fi.2] #[_,y4] #[_,cf _ N];rw[hU.2 b i5];by_cases y8:b=s.heap.objs.size
   . subst y8;let q':=q;rw[dA s.heap O]at q';grind
   . show hk b o i5 LO ?_;let q':=q;rw[Heap.get?_push_ne s.heap b _ y8]at q';show q'
  show#[.ref s.heap.objs.size,_,I2,O,#[s.heap.objs.size,x,sk,O,O,λys hy=>by rw[I.list_inj hy hq];show hx],#[#[u,by simpa using y4],hit'.at λo y=>(hU.2 D Q.symm).trans y],λb F=>?_];obtain rfl|F:=aT.mp F
  . show up _ y6.symm fe.1
  . have eb:b=D:=by simpa using F
    subst eb;show up _ y7.symm fi.1
 done:=by intro X hP hw hK hc i ae s U H E I hf st hg;subst hP hw hK;let((z,N),j):=st;let(xs,hq,hx):=hg;let(br,rv,p,hz):=I.list hq;let(f0,f1,f2,f3,f4,f5):=hf D (by simp);let hl:=rv.length;show wpAny_pyNext_enum_end (I.ok.hd hc) N j p.isList ∅ λh' eb=>#[O,I.turned (λb o F q=>eb b o F q) f0 f1 f3 f4 f5]
 self:=λ_ _ _ _ _ st h=>by let((z,N),_):=st;show wpAny_pyIter_enum N h
section
variable {X:Cx}
def LP(K:FG)(ta:TA):TI:=λU H ZN=>ta U H λvs H1=>∃a,vs=[.ref a]/\(∃xs,bV K H1 a xs)/\ZN (sj K a) H1
def Zv{x1}(Q:Gl X "enumerate")(hm:X.mg "enumerate"=J)(N:PA X [a] ta)(hs:starEach [a] X.env=[(M,eval a X.env)]:=by rfl):PI X (.Tuple eK x1 tpos) (.Call (.Name "enumerate" p) [a] [] pos) (LP X.K ta):=by
 intro ae s U H ZN I h;show Call_ (yU (u:=.type "enumerate") I Q hm () (PyProof.Rows.callWith_type1 (cY (N pos ae s U H _ I h) λus i LS=>?_) hs O));let(vs,H1,I1,r1,q1):=LS;let(b,e,(xs,hq),q):=q1;subst e;cases r1 with
 |cons r rr=>
  cases rr;cases r;let(br,rv,pl,hz):=I1.list hq;show call_enumerate_list pl.isList λh' F D fF hk=>?_;let W:=I1.kept (t':=i.toks) hk;show wpAny_pyIter_enum F ?_;show#[i.heap.objs.size+1,[i.heap.objs.size+1,i.heap.objs.size],_,_,H1,O,W,Th b (i.heap.objs.size+1) i.heap.objs.size ∅,#[#[_,F],D],λc z=>?_,q];have j:i.heap.objs.size<=c:=by
   obtain rfl|z:=aT.mp z
   . grind
   . have ec:c=i.heap.objs.size:=by simpa using z
     grind
  show I1.fpOk j (I1.hok.fresh j)
def LU:R2:=λx y H Q=>∃a v,x=.ref a/\V7 H a y (!v)/\Q v H
def Zw(W:X.A.units+1<cLine):zj X LU:=by intro value j ae s U H x y v u Q I rx N h hs;let(a,z,rfl,g,q):=h;cases rx;show tail_any (Nm I g) F.slot_dict_getitem.lookup (Tc W I g N λw' s3 D i=>#[z,H,D,i,q]) hs
def Yo:V->V->V->Hp->(Hp->Prop)->Prop:=λo i v H Q=>∃a H',o=.ref a/\yA H a i v H'/\Q H'
def set_dict(j:X.A.units+1<cLine):VB X Yo:=by intro ae s U H o i v ov iv u Q I N D F h;let(a,H',rfl,g,q):=h;cases N;show Td j I g D F λW z=>#[H',z,q]
end
section
variable {X:Cx}{ae:List (Addr×Obj)}{U:St}{H:Hp}{s:Shared}{h':Heap}
def ai.turnedL{fp:List Addr}(I:ai X ae U H s)(k:∀b o,b∉fp->s.heap.get? b=!o->h'.get? b=!o)(f:∀b∈fp,mU X ae H b):ai X ae U H { s with heap:=h',toks:=t' }:=by
 have N:∀b u,H b=!u->b∉fp:=λb u e z=>by rw[(f b z).1]at e;cases e
 show I.step (λb j=>#[(f b j).2.2.2.1,(f b j).2.1,(f b j).2.2.2.2.1,(f b j).2.2.2.2.2]) (λb o _ _ i e _=>k b o i e) (λb o _ _ i e _=>#[o.slots,k b o i e]) (λ_ _ _ _ n=>n)
  (λb o i e=>#[o,k b o i e]) (λ_ _ e=>e) (λ_ _ _ e=>e) (λb ps e=>#[(List.toArray []),by rw[e];simp]) (λm hm=>?_) (λb u e=>?_) I.bare
 . let(o,es,Q,W,r):=hm;show#[o,es,Q,k _ o (λz=>(f _ z).2.1 O) W,r]
 . show(I.hok b u e).stay (λc v i q=>k c v ?_ q) (λ_ q=>q) λ_ _ q=>q;obtain z|z:=i
   . grind
   . grind
end
def ai.madeT{U:St}{fp:List Addr}(I:ai X ae U H s)(hl:xs.length<=sizeLine)(rv:am xs N)(W:∀c∈fp,mU X ae H c)(lt:∀c∈fp,∃o,s.heap.get? c=!o)
 (hT:g2.get? s.heap.objs.size=some { cls:=.type "tuple",data:=.seq N.toArray }) (k:∀c o,c∉fp->s.heap.get? c=!o->g2.get? c=!o):
 ai X ae U (aS H s.heap.objs.size (.tup xs)) { s with heap:=g2,toks:=t' }/\∀c∈fp,aS H s.heap.objs.size (.tup xs) c=J:=by
 have up:∀c∈fp,aS H s.heap.objs.size (.tup xs) c=J:=λc D=>by let(o,e):=lt c D;rw[cR (c_ (bX e))];show(W c D).1
 have I1:ai X ae U (aS H s.heap.objs.size (.tup xs)) { s with heap:=s.heap.push { cls:=.type "tuple",data:=.seq N.toArray },toks:=t' }:=
  I.laid (λb o q=>cf _ q) () #[hl,N,rv,#[_,dA s.heap O,O,0,O]]
 show#[ai.turnedL (s:={ s with heap:=s.heap.push { cls:=.type "tuple",data:=.seq N.toArray },toks:=t' }) I1 (λc o D q=>?_) (λc D=>#[up c D,(W c D).2]),up];let Q:=q;by_cases F:c=s.heap.objs.size
 . subst F;rw[dA s.heap O]at Q;show Q▸hT
 . rw[Heap.get?_push_ne s.heap c _ F]at Q;show k c o D Q
def LV{a b:V}:[a,b].length<=sizeLine:=by  show Nat.le_of_ble_eq_true O
def Yp(K:FG)(a b:Addr):It:=
 #[λi H=>∃xs ys x y,bV K H a xs/\bV K H b ys/\xs[i]?=!x/\ys[i]?=!y,
  λi H x H'=>∃T y z,H T=J/\x=.ref T/\H'=aS H T (.tup [y,z])/\(∀xs,bV K H a xs->xs[i]?=!y)/\∀ys,bV K H b ys->ys[i]?=!z,
  λi H=>∃xs ys,bV K H a xs/\bV K H b ys/\(xs.length<=i\/ys.length<=i)]
structure We(z TI TO i1 i2:Addr):Prop where
 TIz:TI≠z
 TOz:TO≠z
 i1z:i1≠z
 i2z:i2≠z
 TITO:TI≠TO
 TIi1:TI≠i1
 TIi2:TI≠i2
 TOi1:TO≠i1
 TOi2:TO≠i2
 i12:i1≠i2
def pA{h:Heap}(e:h.get? a=!o)(i:h.get? b=!o')(n:o.cls≠o'.cls):a≠b:=λz=>by subst z;rw[e]at i;cases i;show n O
def Kf{z TI TO F N a b:Addr}(D:We z TI TO F N)(W:IsZip h z TI TO .none)(i:IsPair h TO u v)(h1:h.IsListIter F a n)(h2:h.IsListIter N b m)(ha:h.IsList a xs)(hb:h.IsList b ys):ZipApart z TI TO F N a b:=by let(o1,Q,c1,_):=h1;let(o2,q2,c2,_):=h2;let(oa,q,ca,_):=ha;let(ob,j,cb,_):=hb;show#[D.TIz,D.TOz,D.i1z,D.i2z,D.TITO,D.TIi1,D.TIi2,D.TOi1,D.TOi2,D.i12,pA q W ∅,pA q i ∅,pA q Q ∅,pA q q2 ∅,pA j W ∅,pA j i ∅,pA j Q ∅,pA j q2 ∅]
def Wf{K:FG}{x1}(a b z TI TO i1 i2:Addr)(D:We z TI TO i1 i2):fT P w K (.Tuple eK x1 pos) (Yp K a b) [z,TI,TO,i1,i2] z
 (λi h=>IsZip h z TI TO .none/\IsPair h TI (YV i1) (YV i2)/\(∃u v,IsPair h TO u v)/\h.IsListIter i1 a i/\h.IsListIter i2 b i) where
 mem:=by simp
 obj:=λi h st c j=>by
  let(W,N,(u,v,F),h1,h2):=st;simp only[aT,gX,or_false]at j;obtain rfl|rfl|rfl|rfl|rfl:=j
  . show#[_,W,λv z=>by let z':=z;cases z']
  . show#[_,N,λv z=>by let z':=z;cases z']
  . show#[_,F,λv z=>by let z':=z;cases z']
  . let(o,ho,c,d):=h1;show#[o,ho,λv z=>by rw[d]at z;cases z]
  . let(o,ho,c,d):=h2;show#[o,ho,λv z=>by rw[d]at z;cases z]
 keep:=λi h h' st k=>by let(W,N,(u,v,F),h1,h2):=st;show#[k z (by simp) _ W,k TI (by simp) _ N,#[u,v,k TO (by simp) _ F],h1.at λo q=>k i1 (by simp) o q,h2.at λo q=>k i2 (by simp) o q]
 item:=by
  intro X hP hw hK j i ae s U H E I hf st hg;subst hP hw hK;show zE λZT kG=>?_;let(W,N,(u0,v0,F),h1,h2):=st;let(xs,ys,x,y,hq,hr,hx,hy):=hg;let(br,rv,p,LY):=I.list hq;let(y9,mE,p',hzl'):=I.list hr;let(u,hu,ru):=rv.get hx;let(u',sw,LZ):=mE.get hy;let DD:=Kf D W F h1 h2 p.isList p'.isList;have L0:∀c∈[z,TI,TO,i1,i2],∃o,s.heap.get? c=!o:=λc j=>by
   simp only[aT,gX,or_false]at j;obtain rfl|rfl|rfl|rfl|rfl:=j
   . show#[_,W]
   . show#[_,N]
   . show#[_,F]
   . let(o,q,_):=h1;show#[o,q]
   . let(o,q,_):=h2;show#[o,q]
  let sk:=I.hok.fresh (bv _);show kG (wpAny_pyNext_zip_item DD W N F h1 h2 p.isList p'.isList (by simpa using hu) (by simpa using sw) λg1 a1 a2 a3 a4 a5 a6 a7=>#[_,O,wpAny_letOwnedTupleGo_zip a1 λg2 b1 b2=>?_]);have Q:∀c o,c≠z->g1.get? c=!o->g2.get? c=!o:=λc o j q=>(b2.2 c j).trans q;let big:=hJ (bX W);let(I2,up):=I.madeT LV (.cons ru (.cons LZ .nil)) hf L0 (Q _ _ big a5) λc o j q=>by simp only[aT,gX,or_false,not_or]at j;show Q c o j.1 (a7 c o j.1 j.2.2.1 j.2.2.2.1 j.2.2.2.2 q)
  show#[.ref s.heap.objs.size,_,I2,O,#[s.heap.objs.size,x,y,sk,O,O,λys hy=>by rw[I.list_inj hy hq];show hx,λys y_=>by rw[I.list_inj y_ hr];show hy],#[b1,Q _ _ D.TIz (a7 _ _ D.TIz D.TITO D.TIi1 D.TIi2 N),#[_,_,Q _ _ D.TOz a2],a3.at λo q=>Q _ o D.i1z q,a4.at λo q=>Q _ o D.i2z q],up]
 done:=by
  intro X hP hw hK j i ae s U H E I hf st hg;subst hP hw hK;show zE λZT kG=>?_;let(W,N,(u0,v0,F),h1,h2):=st;let(xs,ys,hq,hr,hx):=hg;let(br,rv,p,LY):=I.list hq;let(y9,mE,p',hzl'):=I.list hr;let DD:=Kf D W F h1 h2 p.isList p'.isList;let e1:=rv.length;let e2:=mE.length;show kG (wpAny_pyNext_zip_end (I.ok.hd j) DD W N F h1 h2 p.isList p'.isList ?_ λg k=>#[O,?_])
  . obtain hx|hx:=hx
    . show Zl ∅
    . show YY ∅
  . show I.turnedL (λc o j q=>?_) hf;simp only[aT,gX,or_false,not_or]at j;show k c o j.1 j.2.2.1 j.2.2.2.1 j.2.2.2.2 q
 self:=λ_ _ _ _ _ st h=>wpAny_pyIter_zip st.1 h
section
variable {X:Cx}
def L1(K:FG)(ta:TA):TI:=λU H ZN=>ta U H λvs H1=>∃a b,vs=[.ref a,.ref b]/\(∃xs,bV K H1 a xs)/\(∃ys,bV K H1 b ys)/\ZN (Yp K a b) H1
def ni{n a b:Nat}(h:a≠b):n+a≠n+b:=λe=>h ()
def Zx{U:St}{x1}{l1 l2 z TI TO i j:Addr}(F:ai X ae U H s1)(b7:∀c o,s1.heap.get? c=!o->h'.get? c=!o)(Q:∀c∈[z,TI,TO,i,j],s1.heap.objs.size<=c)(D:We z TI TO i j)
 (st:IsZip h' z TI TO .none/\IsPair h' TI (YV i) (YV j)/\(∃u v,IsPair h' TO u v)/\h'.IsListIter i l1 0/\h'.IsListIter j l2 0) (q:ZN (Yp X.K l1 l2) H):oi X ae U (.Tuple eK x1 tpos) ZN (YV z) { s1 with heap:=h' }:=
 #[z,[z,TI,TO,i,j],_,_,H,O,F.kept b7,Wf l1 l2 z TI TO i j D,st,λc W=>F.fpOk (Q c W) (F.hok.fresh (Q c W)),q]
def L3{p pos:Pos}{eK:List Expr}{x1}{tpos:Pos}(hg:Gl X "zip")(hm:X.mg "zip"=J)(ha:PA X [a,b] ta)(hs:starEach [a,b] X.env=(M,eval a X.env)::starEach [b] X.env:=by rfl)(j:(backTo pos (starEach [b] X.env)).any (·.1)=M:=by rfl):PI X (.Tuple eK x1 tpos) (.Call (.Name "zip" p) [a,b] [] pos) (L1 X.K ta):=by
 intro ae s U H ZN I h;show Call_ (yU (u:=.type "zip") I hg hm () (PyProof.Rows.callWith_type1 (cY (ha pos ae s U H _ I h) λus s1 L4=>?_) hs j));let(vs,H1,I1,r1,q1):=L4;show zE λZT kG=>?_;let(l1,l2,e,(xs,hq),(ys,Q),q):=q1;subst e;cases r1 with
 |cons r z=>
  cases z with
  |cons r' z=>
   cases z;cases r;cases r';let(br,rv,pl,hz):=I1.list hq;let(y9,rv',i,zd):=I1.list Q;show kG (call_zip_2 pl.isList i.isList λh' D b2 W N b5 b6 b7=>wpAny_pyIter_zip D ?_);show Zx I1 b7 (λc F=>?_) #[ni (),ni (),ni (),ni (),ni (),ni (),ni (),ni (),ni (),ni (a:=0) ()] #[D,b2,#[_,_,W],N,b5] q;simp only[aT,gX,or_false]at F;obtain rfl|rfl|rfl|rfl|rfl:=F
   all_goals (first |show bv _ |show k_ _ _)
end
def kh:Nat:=9900
def Aq(h:n<kh):n<=sizeLine:=by have h1:kh=9900:=O;rw[sizeLine_eq];lia
def Oq(h:n<scanBound):n<kh:=by have h1:kh=9900:=O;have h2:scanBound=4096:=O;lia
def gA(es:Array (Int×Value)):List Str:=es.toList.map λe=>strOf e.2
structure lG(h:Heap)(a:Addr)(es:Array (Int×Value))(ep:Nat)(t:SetTable)(led:Bool):Prop where
 at_:h.get? a=some { cls:=.type "set",dict:=none,data:=.set es ep t,slots:=(List.toArray []) }
 bd:es.size<kh
 fits:t.fits es.size=true
 led:t.led=led
 plain:0<es.size->t.plain=false
structure sI(prog:Program)(w:World)(h:Heap)(a:Addr)(es:Array (Int×Value))(ep:Nat)(t:SetTable)(led:Bool):Prop extends lG h a es ep t led where
 el:ElemsOf (PySem.strKind prog w) es.toList
 nd:(gA es).Nodup
def Rm:(layNew t es h x).2.1.led=t.led:=by
 unfold layNew;split
 . show (SetTable.orStandIn _ _).led=_;unfold SetTable.orStandIn;split<;>rfl
 . rfl
def DR{t t':SetTable}(e:t.relaid hs n=!(t',o)):t'.led=t.led/\t'.plain=t.plain:=by let(ow,h1,h2):=Option.bind_eq_some_iff.mp e;cases h2;show#[O,O]
def Kg:(relayAll t es n).2.1.led=t.led:=by
 unfold relayAll;split
 . rename_i e;dsimp only;split
   . show(DR e).1
   . rfl
 . rfl
def Gq(i:t.plain=M):(relayAll t es n).2.1.plain=M:=by
 unfold relayAll;split
 . rename_i e;dsimp only;split
   . show(DR e).2.trans i
   . rfl
 . rfl
def DW{h:Heap}(e:h.get? a=some { cls:=.type "set",dict:=J,data:=.set es ep t,slots:=(List.toArray []) }):(h.update a (Obj.putSet es' t')).get? a=some { cls:=.type "set",dict:=J,data:=.set es' (ep+1) t',slots:=(List.toArray []) }:=
 k7 (Obj.putSet es' t') e O
section
variable {prog:Program}
def add_str(S:sI prog w s.heap a es ep t led)(room:es.size+1<scanBound)
 (h:∀b h' es' W t',Heap.SameBut a s.heap h'->sI prog w h' a es' W t' led->(∀y,y∈gA es' ↔ y∈gA es\/y=x)->es'.size<=es.size+1->Q b { s with heap:=h' }):
 wpAny (model prog w) A (setAddHashed a (.str x tk) (hashStr w x)) Q E s:=by
 have hk:(PySem.strKind prog w).is x (.str x tk)=G:=by show Value.isStrOf x (.str x tk)=G;simp[Value.isStrOf]
 unfold setAddHashed setAddHashedIn
 show wpAny_holding (al (wpAny_setState_of S.at_ O S.fits ?_))
 dsimp only
 rw[byScan_of O () S.el]
 simp only[↓reduceIte]
 unfold setAddByScan
 show al (al (wpAny_rule (al ?_)))
 show wpAny_setScan_of hk S.at_ O S.fits S.el ?_
 have key:∀e∈es.toList,(PySem.strKind prog w).is x e.2=G ↔ strOf e.2=x:=λe he=>by
  let((k,h1,_),_):=S.el e he
  let(u,hu):=Value.isStrOf_shape h1
  rw[hu]
  show Value.isStrOf x (.str k u)=G ↔ k=x
  simp[Value.isStrOf]
 cases hr:List.findIdx? (λe=>(PySem.strKind prog w).is x e.2) es.toList with
 |some j=>
  dsimp only
  let(hj,L5,_):=List.findIdx?_eq_some_iff_getElem.mp hr
  have hm:x∈gA es:=cK.mpr #[es.toList[j],List.getElem_mem hj,(key _ (List.getElem_mem hj)).mp L5]
  show ay (ay ?_)
  show h M s.heap es ep t (Heap.SameBut.refl a s.heap) S (λy=>#[Zl,λq=>q.elim id λq=>q▸hm]) ()
 |none=>
  dsimp only
  have hm:x∉gA es:=λq=>by
   let(e,he,q):=cK.mp q
   have:=List.findIdx?_eq_none_iff.mp hr e he
   rw[(key e he).mpr q]at this
   cases this
  have ze:∀(b:Bool){s₁:Shared}{Q':Unit->Shared->Prop},Q' #[] s₁->wpAny (model prog w) A (match b with |true=>rule "set.scan.the-table-gave-way" |false=>pure #[]) Q' E s₁:=λb s₁ Q' q=>by
   cases b
   . show ay q
   . show wpAny_rule q
  let hp:=layNew_perm t es (hashStr w x) (.str x tk)
  let hf:=layNew_fits t es (hashStr w x) (.str x tk)
  have hl:(layNew t es (hashStr w x) (.str x tk)).2.1.led=led:=Rm.trans S.led
  have k1:∀D:Array (Int×Value),List.Perm D.toList (es.push (hashStr w x,.str x tk)).toList->ElemsOf (PySem.strKind prog w) D.toList/\(gA D).Nodup/\D.size=es.size+1/\∀y,y∈gA D ↔ y∈gA es\/y=x:=λD q=>by
   rw[Array.toList_push]at q
   have q2:List.Perm (gA D) (gA es++[x]):=by
    have:=q.map λe=>strOf e.2
    simpa [gA,strOf] using this
   show#[(S.el.push hk O).perm q,q2.nodup_iff.mpr (n9.mpr #[S.nd,by simp,λa ha b hb=>?_]),?_,λy=>?_]
   . rw[eL.mp hb]
     show λz=>hm (z▸ha)
   . have:=q.length_eq
     simpa using this
   . rw[q2.mem_iff]
     simp
  generalize layNew t es (hashStr w x) (.str x tk)=L at hp hf hl ⊢
  let(D,t1,wd,gv):=L
  let(L6,L_,k13,Mb):=k1 D hp
  dsimp only at hp hf hl ⊢
  show al (ze gv ?_)
  have fin:∀N:SetTable,N.fits D.size=G->N.led=led->N.plain=M->wpAny (model prog w) A (do
   storeSet a D N
   if (not wd&&N.tooFull)=G then do
    (match (relayAll N D (SetTable.grown D.size)).2.2 with |true=>rule "set.scan.the-table-gave-way" |false=>pure #[])
    storeSet a (relayAll N D (SetTable.grown D.size)).1 (relayAll N D (SetTable.grown D.size)).2.1
    pure (!G)
    else pure (!G)) (λr s'=>∃h',s'={ s with heap:=h' }/\r=!G/\∃es' W t',Heap.SameBut a s.heap h'/\sI prog w h' a es' W t' led/\(∀y,y∈gA es' ↔ y∈gA es\/y=x)/\es'.size<=es.size+1) E s:=by
   intro N f2 l2 p2
   have b1:D.size<scanBound:=()
   show al (wpAny_storeSet_of S.at_ O ?_ (fits_of_scanBound b1))
   let g1:=DW (es':=D) (t':=N) S.at_
   let lT:=kg s.heap a (Obj.putSet D N)
   split
   . show al (ze _ ?_)
     let q:=relayAll_perm N D (SetTable.grown D.size)
     let qf:=relayAll_fits N D (SetTable.grown D.size)
     have ql:(relayAll N D (SetTable.grown D.size)).2.1.led=led:=Kg.trans l2
     let qp:=Gq (es:=D) (n:=SetTable.grown D.size) p2
     generalize relayAll N D (SetTable.grown D.size)=ZN at q qf ql qp ⊢
     let(zi,t3,g3):=ZN
     dsimp only at q qf ql qp ⊢
     let(m1,m2,m3,m4):=k1 zi (q.trans hp)
     show al (wpAny_storeSet_of g1 O ?_ (fits_of_scanBound ()))
     show ay #[_,O,O,zi,_,t3,lT.trans (kg _ a _),#[#[DW g1,Oq (),qf,ql,λ_=>qp],m1,m2],m4,()]
   . show ay #[_,O,O,D,_,N,lT,#[#[g1,Oq b1,f2,l2,λ_=>p2],L6,L_],Mb,()]
  have out:∀r s',(∃h',s'={ s with heap:=h' }/\r=!G/\∃es' W t',Heap.SameBut a s.heap h'/\sI prog w h' a es' W t' led/\(∀y,y∈gA es' ↔ y∈gA es\/y=x)/\es'.size<=es.size+1)->r=!G/\Q G s':=λr s' q=>by
   let(h',rfl,rfl,es',W,t',q1,q2,q3,q4):=q
   show#[O,h G h' es' W t' q1 q2 q3 q4]
  split
  . show al ?_
    rw[hashByValue_scannable 8 O]
    show ay ?_
    show wpAny_mono (fin { t1 with plain:=M } (SetTable.fits_plain_off hf) hl O) (λr s' q=>?_) λ_ _ e=>e
    let(rfl,q'):=out r s' q
    show ay q'
  . rename_i np
    show al (ay ?_)
    simp only[↓reduceIte]
    show wpAny_mono (fin t1 hf hl (by simpa using np)) (λr s' q=>?_) λ_ _ e=>e
    let(rfl,q'):=out r s' q
    show ay q'
def lG.moved{i:Bool}(S:lG h a es ep t i)(k:∀o,h.get? a=!o->h'.get? a=!o):lG h' a es ep t i:=#[k _ S.at_,S.bd,S.fits,S.led,S.plain]
theorem sI.moved(S:sI prog w h a es ep t led)(k:∀o,h.get? a=!o->h'.get? a=!o):sI prog w h' a es ep t led:=#[S.1.moved k,S.el,S.nd]
end
section
variable {prog:Program}{w:World}{A:Around}{ZN:Result->Shared->Prop}{I:Addr}{fp wr:List Addr}{ZT:Array GenState->Array GenState->Prop}{n:Nat}{P:Nat->Value->Prop}{St:Nat->Shared->Prop}
def Ti(W:WalksS prog w A.in1 I fp wr ZT n P St)(D:Addr)(hD:D∉fp)(val:Nat->Str)(hv:∀i v,P i v->∃t,v=.str (val i) t)(hb:n+1<scanBound)(led:Bool):
 ∀(k i:Nat)(s:Shared)(es:Array (Int×Value))(ep:Nat)(t:SetTable),n-i=k->i<=n->St i s->sI prog w s.heap D es ep t led->es.size<=i->(∀y,y∈gA es ↔ ∃j,j<i/\val j=y)->
  (∀s' es' Q t',Moved (D::wr) ZT s s'->sI prog w s'.heap D es' Q t' led->(∀y,y∈gA es' ↔ ∃j,j<n/\val j=y)->es'.size<=n->ZN (.ok (.ret .none)) s')->
  codeAny (model prog w) A (.builtin "set.update.loop" #[[YV D,YV I],[]]) ZN s:=by
 let nw:=λq=>hD (W.sub _ q);have mw:∀b∈wr,b∈D::wr:=λb q=>cv _ q;intro k;induction k with
 |zero=>
  intro i s es ep t hk hi st S sz mem hR;obtain rfl:i=n:=()
  show codeAny_builtin F.entry_set_update_loop ?_;show al (W.done s _ _ st λs' m=>?_);show ay (hR s' es ep t (m.mono mw) (S.moved λo q=>m.heap D o nw q) mem sz)
 |succ k ih=>
  intro i s es ep t hk hi st S sz mem hR;have lt:i<n:=()
  show codeAny_builtin F.entry_set_update_loop ?_;show al (W.item i s _ _ lt st λv s' hP db m=>?_);let(u,rfl):=hv i v hP;let S':=S.moved λo q=>m.heap D o nw q;show al (wpAny_holding ?_);show wpAny_holding (al (wpAny_pyHash_str ?_));show add_str S' () λb h' es' Q t' sb S2 mem2 zk=>?_;show ay #[plainId_quiet F.plain_set_update_loop _,ih (i+1) _ es' Q t' () lt (W.frame _ s' _ _ db (kX _) λc hc o q=>?_) S2 () (λy=>?_) λs'' es'' ep'' t'' m2 S3 mem3 sA=>?_]
  . rw[sb.2 c (λz=>hD (z▸hc))];show q
  . rw[mem2 y,mem y];constructor
    . rintro (⟨j,hj,q⟩|q)
      . show#[j,(),q]
      . show#[i,(),q.symm]
    . rintro⟨j,hj,q⟩;obtain g|g:=Nat.lt_or_ge j i
      . show Zl #[j,g,q]
      . obtain rfl:j=i:=()
        show YY q.symm
  . show hR s'' es'' ep'' t'' (Moved.trans W.gtrans ((m.mono mw).then_heap (kX _) λc o hc q=>?_) m2) S3 mem3 sA;rw[sb.2 c (λz=>hc (z▸bi))];show q
end
noncomputable def aI (w:World):Bool:=w.params.followText "set-order"
abbrev jX(w:World):Obj:={ cls:=.type "set",dict:=J,data:=.set (List.toArray []) 0 (.fresh 0 0 (not (aI w))),slots:=(List.toArray []) }
section
variable {prog:Program}
def Ot(a:Value)(h:Q (YV s.heap.objs.size) { s with heap:=s.heap.push (jX w) }):
 codeAny (model prog w) A (.call (.builtin "set.__new__") #[[.type "set",a],[]]) (wants Q E) s:=by
 show codeAny_of_tree (?_);show al (wpAny_of_eq (F.newCall_set_1 a) (ay #[plainId_quiet F.plain_set_new _,codeAny_builtin F.entry_set_new (?_:wpAny _ _ _ _ _ _)]));unfold Builtin.«set.__new__»;unfold Builtin.Frozenset.newClass;let hs:=sub_set_self;dsimp only
 wp_walk
 show wpAny_askSetting (ay ?_);dsimp only;simp only[newObj];show al (wpAny_alloc (ay (ay ?_)));show h
theorem Ou:∀{vs:List Value}{j:List Str},StrsAre vs j->∀(i:Nat)(v:Value),vs[i]?=!v->∃t,v=.str (j.getD i #[(List.toArray [])]) t
 |_,_,.nil,i=>λv h=>by simp at h
 |_,_,.cons y t r,0=>λv h=>by cases h;show#[t,O]
 |_,_,.cons y t r,i+1=>λv h=>by let(u,e):=Ou r i v ();show#[u,by simpa using e]
theorem CK:∀{vs:List Value}{i:List Str},StrsAre vs i->vs.length=i.length
 |_,_,.nil=>rfl
 |_,_,.cons y t r=>by simp[CK r]
def Np{Q:Value->Shared->Prop}(hh:A.handled=J)(hl:s.heap.IsList l items)(hi:StrsAre items.toList ss)(hb:items.size+1<scanBound)
 (h:∀(h':Heap)(tk:Nat) es ep t,sI prog w h' s.heap.objs.size es ep t (not (aI w))->(∀y,y∈gA es ↔ y∈ss)->es.size<=items.size->(∀b o,b<s.heap.objs.size->s.heap.get? b=!o->h'.get? b=!o)->Q (YV s.heap.objs.size) { s with heap:=h',toks:=tk }):
 wpAny (model prog w) A (call (.type "set") [YV l]) Q E s:=by
 let(c,tl,hmro):=F.called_set.mro;let m1:=F.called_set.made;let m2:=F.called_set.sub;show wpAny_call (codeAny_of_tree (show wpAny _ _ (callAny (.type "set") _) _ _ _ from ay #[Code.quiet_builtin _ (),codeAny_builtin F.entry_type_call (?_:wpAny _ _ _ _ _ _)]));rw[Around.under_plain (weight_type_call_type "set" [YV l] []) O];let m3:=F.called_set.notType;let m4:=F.called_set.canCreate;let m5:=F.typeCall_set_1 (YV l)
 repeat any_goals first |assumption |wp_step
 show codeAny_mono (Ot (YV l) (E:=E) (Q:=λo s₁=>o=YV s.heap.objs.size/\s₁={ s with heap:=s.heap.push (jX w) }) #[O,O]) λr s₁ hr=>?_;cases r with
 |error e=>show hr
 |ok fl=>
  cases fl with
  |ret obj=>
   let(rfl,rfl):=hr;have g0:(s.heap.push (jX w)).get? s.heap.objs.size=!(jX w):=dA _ O;have hT:Shared.TypeIs { s with heap:=s.heap.push (jX w) } (YV s.heap.objs.size) "set":=#[_,g0,O];let m6:=F.called_set.init.lookup;let m7:=F.called_set.init.bind (YV s.heap.objs.size)
   repeat any_goals first |assumption |wp_step
   show codeAny_mono (codeAny_call_builtin (R:=wants (λr s₂=>r=.none/\∃h' tk es ep t,s₂={ s with heap:=h',toks:=tk }/\sI prog w h' s.heap.objs.size es ep t (not (aI w))/\(∀y,y∈gA es ↔ y∈ss)/\es.size<=items.size/\(∀b o,b<s.heap.objs.size->s.heap.get? b=!o->h'.get? b=!o)) E) F.called_set.init.plain F.entry_set_init (check_set_init_1 hT ?_)) λr₂ s₂ ky=>?_
   . let((c1,c2,c3,c4),ho,hc,nl,hd):=hl;simp only at hc hd;subst hc;subst hd;have sB:(s.heap.push (jX w)).get? l=some { cls:=.type "list",dict:=c2,data:=.seq items nl,slots:=c4 }:=cf _ ho;let n1:=F.sub_list_set;let n2:=F.sub_list_frozenset;have n3:(Value.type "list"== Value.type "dict")=M:=by decide
     have jI:(s.heap.push (jX w)).IsList l items:=#[_,sB,O,nl,O];unfold Builtin.«set.__init__»;unfold noKeywords;unfold Builtin.Frozenset.updateFrom;generalize sC:pyIter=PI
     wp_walk
     subst sC;show wpAny_pyIter_list jI (al (wpAny_runValue ?_));have lS:l<s.heap.objs.size:=bX ho;have h3:A.in1.in1.in1.handled=J:=by simp[hh]
     have nI:l≠(s.heap.push (jX w)).objs.size:=by rw[g7];show c_ (gT lS)
     have nS:s.heap.objs.size∉[(s.heap.push (jX w)).objs.size,l]:=by rw[g7];simp only[aT,gX,or_false,not_or];show#[c_ (ma _),hJ lS]
     show Ti ((Walks.list h3 _ l nI items).toS) s.heap.objs.size nS (λi=>ss.getD i #[(List.toArray [])]) (λi v q=>Ou hi i v (by rw[Array.getElem?_toList];show q)) hb (not (aI w)) (items.size-0) 0 _ (List.toArray []) 0 (.fresh 0 0 (not (aI w))) () (d3 _) #[#[_,dA _ O,O,O],(jI.push _)] ?S0 (d3 _) (λy=>?M0) ?hR
     case S0=>show⟨⟨cf _ g0,by decide,O,O,λq=>by simp at q⟩,λe q=>by simp at q,by simp[gA]⟩
     case M0=>simp[gA]
     case hR=>
      intro s' es ep t m S' mem sz;let(h',g',d',sD,sF):=s';obtain rfl:g'=s.gens:=m.gens;obtain rfl:d'=s.drawn:=m.drawn;obtain rfl:sF=s.os:=m.os;show ay (show wpAny _ _ (ret Value.none) _ _ _ from ay #[O,h',sD,es,ep,t,O,S',λy=>?_,sz,λb o hb q=>?_])
      . rw[mem y];let e0:=CK hi;rw[fz]at e0;have gd:∀j (hj:j<ss.length),ss.getD j #[(List.toArray [])]=ss[j]:=λj hj=>by simp[hj]
        constructor
        . rintro⟨j,hj,rfl⟩;rw[gd j ()];show List.getElem_mem _
        . intro q;let(j,hj,rfl):=List.mem_iff_getElem.mp q;show#[j,(),gd j hj]
      . have b1:b≠s.heap.objs.size:=c_ hb;have b2:b≠(s.heap.push (jX w)).objs.size:=by rw[g7];show c_ (gT hb)
        show m.heap b o (by simp only[aT,gX,or_false,not_or];show#[b1,b2]) (cf _ (cf _ q))
   . cases r₂ with
     |error e=>show ky
     |ok sK=>
      cases sK with
      |ret r=>
       let(rfl,h',tk,es,ep,t,rfl,q1,q2,q3,q4):=ky
       repeat any_goals first |assumption |wp_step
       show h _ _ _ _ _ q1 q2 q3 q4
      |_=>show ky.elim
  |_=>show hr.elim
end
def Ov:Manifest.owners.lookup (String.ofList ['r','o','t','a','r','e','t','i','_','t','e','s'].reverse)=!Manifest.sig_set_iterator:=by kernel_rfl
def ou:Slot "set_iterator" "__next__" "set_iterator.__next__":=.of (owner:="set_iterator") (n:="__next__") () () () () () ()
def Kh:Slot "set_iterator" "__iter__" "set_iterator.__iter__":=.of (owner:="set_iterator") (n:="__iter__") () () () () () ()
def Ow:entryFor table "set_iterator.__next__"=some Builtin.«set_iterator.__next__»:=entryFor_of_tree ()
def Kl(a:Value):argsOk "set_iterator.__next__" #[[a],[]]:=by unfold argsOk;rw[signature?_of (id:="set_iterator.__next__") (n:=['_','_','t','x','e','n','_','_']) () Ov];kernel_rfl
def Tj:entryFor table "set.__iter__"=some Builtin.«frozenset.__iter__»:=entryFor_alias (id':="frozenset.__iter__") () O () ()
theorem xq{α:Type}:∀{l:List α}{i:Nat}(h:i<l.length),(l[i]::l.eraseIdx i).Perm l
 |a::l,0,h=>.rfl
 |a::l,i+1,h=>(List.Perm.swap _ _ _).trans ((xq (by simpa using h)).cons a)
theorem Ho(f:Nat->Nat):∀(n k:Nat)(l:List α)(o:Array α),l.length<=n->(pickOrder.go f n k l o).toList.Perm (o.toList++l)
 |0=>λk l o h=>by have:l=[]:=List.length_eq_zero_iff.mp ();subst this;simp[pickOrder.go]
 |n+1=>λk l o h=>by
  unfold pickOrder.go;cases l with
  |nil=>simp
  |cons a l=>
   have i:f k%(a::l).length<(a::l).length:=Nat.mod_lt _ (by simp);rw[et i];show(Ho f n (k+1) _ _ ∅).trans ?_;rw[Array.toList_push,cw];show List.Perm.append_left _ (xq i)
def Wg(f:Nat->Nat)(o:Array α):(pickOrder f o).toList.Perm o.toList:=by have:=Ho f o.size 0 o.toList (List.toArray []) (by simp);simpa [pickOrder] using this
section
variable {prog:Program}
def Km(N:0<n)(h:∀i d,i<n->Q i { s with drawn:=d }):wpAny W A (choose F n) Q E s:=λΓ p hΓ=>by show Sem.wp W Γ (.choose F n .pure) _ _ p s;rw[Sem.wp_choose];show#[(),h _ _ (Nat.mod_lt _ N)]
theorem uY:∀(n:Nat)(xs:List α){Q:List α->Shared->Prop}{s:Shared},xs.length<=n->(∀ys d,ys.Perm xs->Q ys { s with drawn:=d })->wpAny N A (drawOrder n xs) Q E s
 |0,xs,Q,s=>λh q=>by have:xs=[]:=List.length_eq_zero_iff.mp ();subst this;show ay (q [] s.drawn .rfl)
 |n+1,[],Q,s=>λh q=>ay (q [] s.drawn .rfl)
 |n+1,x::xs,Q,s=>λh q=>by show al (Km (by simp) λi d hi=>?_);rw[et hi];show al (uY n _ ∅ λys F p=>ay (q _ F ((p.cons _).trans (xq hi))))
abbrev tH(h:Heap)(it a:Addr)(f:Value)(i n ep:Nat):Prop:=h.get? it=some { cls:=.type "set_iterator",dict:=J,data:=.fields (List.toArray [f,rawInt i,YV a,rawInt n,rawInt ep]),slots:=(List.toArray []) }
def uZ(w:World)(h:Heap)(it P a:Addr)(es:Array (Int×Value))(ep:Nat)(t:SetTable)(vs:List Value)(i:Nat):Prop:=
 (aI w=G/\tH h it a (rawInt 0) i es.size ep/\vs=(pickOrder (w.params.setOrder a ep) es).toList.map (·.2))
\/(aI w=M/\1<es.size/\∃(pl:List Nat)(k:Nat),tH h it a (YV P) i es.size ep/\h.get? P=!(seqObj "tuple" (pl.map λj:Nat=>rawInt j).toArray k)/\P≠it/\pl.Perm (List.range es.size)/\vs=pl.map λj=>(es.getD j (0,.none)).2)
\/(aI w=M/\es.size<=1/\∃sl:Nat,tH h it a (rawInt sl) i es.size ep/\vs=es.toList.map (·.2)/\((i=0/\sl=0)\/∃p,t.place=(List.toArray [p])/\i=1/\sl=p+1))
def Wh(S:lG s.heap a es ep t (not (aI w)))
 (h:∀h' d W P vs,(∀b o,s.heap.get? b=!o->h'.get? b=!o)->uZ w h' W P a es ep t vs 0->vs.Perm (es.toList.map (·.2))->s.heap.objs.size<=W->s.heap.objs.size<=P->W<h'.objs.size->P<h'.objs.size->Q (YV W) { s with heap:=h',drawn:=d }):
 wpAny (model prog w) A (pyIter (YV a)) Q E s:=by
 have hT:s.TypeIs (YV a) "set":=#[_,S.at_,O];show wpAny_pyIter_slot hT F.slot_set_iter (wpAny_call_entry F.slot_set_iter hT Tj ?_ ());unfold Builtin.«frozenset.__iter__» Builtin.Frozenset.slot0 slotArgs;simp only[Bool.not_true,bind_assoc];show al (ay ?_)
 try dsimp only
 show al (ay ?_);show al (al (wpAny_setEntries_of S.at_ O S.fits (ay ?_)));show al (al (wpAny_setState_of S.at_ O S.fits (al (al (wpAny_askSetting (ay (ay ?_)))))));show wpAny _ _ (if (not (aI w)&&(not t.plain&&decide (es.size>1)))=G then _ else _) _ _ _;split
 . rename_i D;simp only[gt,Bool.not_eq_true',decide_eq_true_eq]at D;show al (uY es.size (List.range es.size) (by simp) λpl d hp=>?_);have hl:pl.length=es.size:=by rw[hp.length_eq,fR]
   show al (wpAny_newTuple ?_ (by have:=Aq S.bd;simp;lia));have g1:(s.heap.push (seqObj "tuple" (pl.map λj:Nat=>rawInt j).toArray 0)).get? s.heap.objs.size=!(seqObj "tuple" (pl.map λj:Nat=>rawInt j).toArray 0):=dA _ O;show al (wpAny_setEpoch_of (cf _ S.at_) O S.fits ?_);show al (wpAny_newObj_type (ay #[_,O,"set_iterator",_,#[_,dA _ O,O],ou.lookup,?_]));have z:(s.heap.push (seqObj "tuple" (pl.map λj:Nat=>rawInt j).toArray 0)).objs.size=s.heap.objs.size+1:=size_push' ..;show h _ d _ s.heap.objs.size (pl.map λj=>(es.getD j (0,.none)).2) (λb o q=>cf _ (cf _ q)) (YY (Zl #[D.1,D.2.2,pl,0,dA _ O,cf _ g1,?_,hp,O])) ?_ ?_ (bv _) ?_ ?_
   . show c_ (by show s.heap.objs.size<(s.heap.push _).objs.size;rw[z];show ma _)
   . show(hp.map _).trans (.of_eq ?_);show List.ext_getElem (by simp) λi h1 h2=>?_;have h3:i<es.size:=by simpa using h1
     simp[h3]
   .  rw[z];show kX _
   . show bX (dA _ O)
   . show bX (cf _ g1)
 . rename_i D;show al (ay (al (wpAny_setEpoch_of S.at_ O S.fits ?_)));show al (wpAny_newObj_type (ay #[_,O,"set_iterator",_,#[_,dA _ O,O],ou.lookup,?_]));have z:∀o:Obj,s.heap.objs.size<(s.heap.push o).objs.size:=λo=>by rw[size_push'];show ma _
   by_cases hb:aI w=G
   . show h _ s.drawn _ s.heap.objs.size _ (λb o q=>cf _ q) (Zl #[hb,dA _ O,O]) ((Wg _ es).map _) (bv _) (bv _) (z _) (z _)
   . have N:aI w=M:=by simpa using hb
     have hz:es.size<=1:=by
      rw[N]at D;obtain g|g:=Nat.lt_or_ge 1 es.size
      . show absurd (by rw[S.plain ()];simp;lia) D
      . show g
     show h _ s.drawn _ s.heap.objs.size _ (λb o q=>cf _ q) (YY (YY #[N,hz,0,dA _ O,O,Zl #[O,O]])) .rfl (bv _) (bv _) (z _) (z _)
def Hq(S:lG s.heap a es ep t (not (aI w)))(j:aI w=G)
 (h:Q (((pickOrder (w.params.setOrder a ep) es)[i]?).map λe=>(e.2,sl)) s):wpAny (model prog w) A (setNext a sl i ep) Q E s:=by
 show al (wpAny_setState_of S.at_ O S.fits (al (al (wpAny_askSetting (ay ?_)))));show wpAny _ _ (if aI w=G then _ else _) _ _ _;rw[av j,aE (by simp)];show al ?_;show al (wpAny_setState_of S.at_ O S.fits (al (al (wpAny_askSetting (ay ?_)))));show wpAny _ _ (if aI w=G then _ else _) _ _ _;rw[av j];show al (wpAny_askSetting (ay (ay h)))
def Hr{a:Addr}{es:Array (Int×Value)}{F i sl:Nat}{t:SetTable}{Q:Option (Value×Nat)->Shared->Prop}(S:lG s.heap a es F t (not (aI w)))(N:aI w=M)(hz:es.size<=1)
 (h:Q (match es[SetTable.below t.place sl]?,t.place[SetTable.below t.place sl]? with |some (_,x),!j=>some (x,j+1) |_,_=>J) s):wpAny (model prog w) A (setNext a sl i F) Q E s:=by
 unfold setNext setsByText;show al (wpAny_setState_of S.at_ O S.fits (al (al (wpAny_askSetting (ay ?_)))));show wpAny _ _ (if aI w=G then _ else if (not t.plain&&decide (es.size>1))=G then _ else _) _ _ _;have W:¬ es.size>1:=()
 rw[aE (by rw[N];simp),aE (by simp[W])];show al (show wpAny _ _ (if (not t.led&&not es.isEmpty)=G then unsupported "set:maker-not-led" else pure Unit.unit) _ _ _ from ?_);rw[aE (by rw[S.led,N];simp)];show ay (ay h)
def Mc(S:lG s.heap a es ep t b)(q:tH s.heap it a f i es.size ep):a≠it:=pA S.at_ q (by simp)
def Ko(z:A.handled=J)(h:∀h' e,(∀b o,s.heap.get? b=!o->h'.get? b=!o)->(∃o,h'.get? e=!o/\o.cls=.type "StopIteration")->E (YV e) { s with heap:=h' }):
 wpAny (model prog w) A (newExc (.type "StopIteration") [] >>= λe=>(raiseNew e:Sem α)) Q' E s:=by
 show al ?_;show al (wpAny_newObj_type (al (wpAny_of_eq () (wpAny_newObj_type ?_ (by size_fits)))) (by size_fits));show al (wpAny_handled ?_);rw[z];show al (ay (wpAny_throw (h _ _ (λb o q=>cf _ (cf _ q)) #[_,dA _ O,O])))
def Gr{P:Addr}(i:s.heap.get? P=!(seqObj "tuple" xs k))(h:Q (!xs) s):wpAny (model prog w) A (seqItems? (YV P)) Q E s:=by show al (wpAny_load i ?_);show ay h
def xx{sl:Nat}(hh:A.handled=J)(S:lG s.heap a es ep t (not (aI w)))(q:tH s.heap N a (rawInt sl) i es.size ep)(r:Option (Value×Nat))
 (hn:∀{A':Around}{Q':Option (Value×Nat)->Shared->Prop}{E':Value->Shared->Prop},Q' r s->wpAny (model prog w) A' (setNext a sl i ep) Q' E' s)
 (h1:∀x n h',r=!(x,n)->Heap.SameBut N s.heap h'->tH h' N a (rawInt n) (i+1) es.size ep->Q (!x) { s with heap:=h' })
 (h2:r=J->∀h',Heap.ExtBut N s.heap h'->Q J { s with heap:=h' }):wpAny (model prog w) A (pyNext (YV N)) Q E s:=by
 have hT:s.TypeIs (YV N) "set_iterator":=#[_,q,O];show al (wpAny_attempt (wpAny_callSpecial?_slot hT ou (wpAny_call_entry ou hT Ow ?_ (Kl _))));show al (ay ?_);show al (wpAny_fieldsOf q O (al (wpAny_setEntries_of S.at_ O S.fits ?_)));rw[aE (by simp)];show al (hn ?_);cases r with
 |some x=>
  let(x,n):=x;show al (wpAny_setField_rec q (by simp) λg1 q1 b1=>al (wpAny_setField_rec q1 (by simp) λg2 q2 b2=>ay #[_,O,ay (h1 x n g2 O (b1.trans b2) ?_)]));show q2
 |none=>
  show al (wpAny_setField_rec q (by simp) λg1 q1 b1=>Ko hh λg2 e k ⟨o,ho,hc⟩=>?_);show al (wpAny_isInstance (T:="StopIteration") (#[o,ho,hc]) isSubtype_stop (?_:wpAny _ _ _ _ _ _));show ay (h2 O _ λb o hb z=>k b o (b1.extBut b o hb z))
def Hs{F P a:Addr}{pl:List Nat}(hh:A.handled=J)(S:lG s.heap a es ep t (not (aI w)))(q:tH s.heap F a (YV P) i es.size ep)
 (hP:s.heap.get? P=!(seqObj "tuple" (pl.map λj:Nat=>rawInt j).toArray k)) (hp:∀j∈pl,j<es.size)
 (h1:∀j h',pl[i]?=!j->Heap.SameBut F s.heap h'->tH h' F a (YV P) (i+1) es.size ep->Q (!(es.getD j (0,.none)).2) { s with heap:=h' })
 (h2:pl[i]?=J->∀h',Heap.ExtBut F s.heap h'->Q J { s with heap:=h' }):wpAny (model prog w) A (pyNext (YV F)) Q E s:=by
 have hT:s.TypeIs (YV F) "set_iterator":=#[_,q,O];show al (wpAny_attempt (wpAny_callSpecial?_slot hT ou (wpAny_call_entry ou hT Ow ?_ (Kl _))));show al (ay ?_);show al (wpAny_fieldsOf q O (al (wpAny_setEntries_of S.at_ O S.fits ?_)));rw[aE (by simp)];show al (Gr hP ?_);show wpAny _ _ (match (pl.map λj:Nat=>rawInt j).toArray[i]? with |some (.int place _)=>_ |some _=>_ |none=>_) _ _ _;cases N:pl[i]? with
 |some j=>
  rw[show (pl.map λj:Nat=>rawInt j).toArray[i]?=some (rawInt j) from by simp[N]];let i6:=hp j (eR N);show wpAny _ _ (setNextDrawn a j ep >>= λx=>setField (YV F) 1 (rawInt ((i:Int)+1)) >>= λ_=>ret x) _ _ _;show al ?_;show al (wpAny_setState_of S.at_ O S.fits ?_);dsimp only;rw[aE (by simp),Array.getElem?_eq_getElem i6];have e0:(es.getD j (0,.none)).2=es[j].2:=by simp[i6]
  let zl:=h1 j;rw[e0]at zl;show ay (al (wpAny_setField_rec q (by simp) λg1 q1 b1=>ay #[_,O,ay (zl g1 N b1 ?_)]));show q1
 |none=>
  rw[show (pl.map λj:Nat=>rawInt j).toArray[i]?=J from by simp at N ⊢;show N];show al (wpAny_setField_rec q (by simp) λg0 q0 b0=>al (wpAny_setField_rec q0 (by simp) λg1 q1 b1=>Ko hh λg2 e k ⟨o,ho,hc⟩=>?_));show al (wpAny_isInstance (T:="StopIteration") (#[o,ho,hc]) isSubtype_stop (?_:wpAny _ _ _ _ _ _));show ay (h2 N _ λb o hb z=>k b o (b1.extBut b o hb (b0.extBut b o hb z)))
def uZ.keep{z P a:Addr}(W:uZ w h z P a es ep t vs i)(F:∀o,h.get? z=!o->h'.get? z=!o)(k2:∀o,h.get? P=!o->h'.get? P=!o):uZ w h' z P a es ep t vs i:=by
 obtain⟨j,q,e⟩|⟨j,D,pl,k,q,Q,N,hp,e⟩|⟨j,D,sl,q,e,hs⟩:=W
 . show Zl #[j,F _ q,e]
 . show YY (Zl #[j,D,pl,k,F _ q,k2 _ Q,N,hp,e])
 . show YY (YY #[j,D,sl,F _ q,e,hs])
def Ht:SetTable.below (List.toArray [p]) 0=0/\SetTable.below (List.toArray [p]) (p+1)=1:=by
 constructor
 . simp[SetTable.below,SetTable.below.go]
 . simp[SetTable.below,SetTable.below.go]
theorem lG.place(S:lG h a es ep t b):t.place.size=es.size:=by have:=S.fits;simp only[SetTable.fits,gt,beq_iff_eq]at this;show this.1
def uZ.ne{j P a:Addr}(S:lG s.heap a es ep t b)(W:uZ w s.heap j P a es ep t vs i):a≠j:=by rcases W with ⟨z,q,e⟩|⟨z,D,pl,k,q,N,F,Q,e⟩|⟨z,D,sl,q,e,hs⟩<;>show Mc S q
def Kp:entryFor table "set_iterator.__iter__"=some Builtin.«dict_keyiterator.__iter__»:=entryFor_alias (id':="dict_keyiterator.__iter__") () () () ()
def Jj(a:Value):argsOk "set_iterator.__iter__" #[[a],[]]:=by unfold argsOk;rw[signature?_of (id:="set_iterator.__iter__") (n:=['_','_','r','e','t','i','_','_']) () Ov];kernel_rfl
def Wi(q:tH s.heap it a f i n ep)(h:Q (.ref it) s):wpAny (model prog w) A (pyIter (.ref it)) Q E s:=by have hT:s.TypeIs (.ref it) "set_iterator":=#[_,q,rfl];show wpAny_pyIter_slot hT Kh (wpAny_call_entry Kh hT Kp ?_ (Jj _));show show wpAny _ _ (ret (.ref it)) _ _ s from ay #[_,rfl,"set_iterator",_,hT,ou.lookup,h]
def Tn(hh:A.handled=none)(it P a:Addr)(es:Array (Int×Value))(ep:Nat)(t:SetTable)(vs:List Value):
 Walks prog w A it [it,P,a] [it] vs.length (λi v=>vs[i]?=!v) (λi h=>uZ w h it P a es ep t vs i/\lG h a es ep t (not (aI w))) where
 sub:=λb hb=>by
  have:b=it:=by simpa using hb
  simp[this]
 frame:=λi h h' st k=>#[st.1.keep (λo q=>k it (by simp) o q) λo q=>k P (by simp) o q,st.2.moved λo q=>k a (by simp) o q]
 item:=λi s Q E hi st hQ=>by
  let(W,S):=st;obtain⟨v,hv⟩:∃v,vs[i]?=!v:=#[_,et hi];let na:=W.ne S;have fin:∀h',Heap.SameBut it s.heap h'->uZ w h' it P a es ep t vs (i+1)->Q (!v) { s with heap:=h' }:=λh' b W'=>hQ _ h' s.toks hv #[W',S.moved λo q=>(b.2 a na).trans q] λc o hc q=>b.extBut c o (λz=>hc (by simp[z])) q;obtain⟨hb,q,e⟩|⟨hb,hz,pl,k,q,hP,oq,hp,e⟩|⟨hb,hz,sl,q,e,hs⟩:=W
  . have hx:∃z,(pickOrder (w.params.setOrder a ep) es)[i]?=!z/\z.2=v:=by
     let h0:=hv;rw[e,c8,Array.getElem?_toList]at h0;cases hz:(pickOrder (w.params.setOrder a ep) es)[i]? with
     |none=>rw[hz]at h0;cases h0
     |some z=>rw[hz]at h0;show#[z,rfl,by simpa using h0]
    let(z,hz,ez):=hx;show xx hh S q (!(z.2,0)) (λ{A'} {Q'} {E'} hq=>Hq S hb (by rw[hz];show hq)) (λx n h' er b q'=>?_) (λer=>by cases er);cases er;rw[ez];show fin h' b (.inl #[hb,q',e])
  . show Hs hh S q hP (λj hj=>by simpa using hp.mem_iff.mp hj) (λj h' hj b q'=>?_) (λhn=>?_)
    . have:(es.getD j (0,.none)).2=v:=by let h0:=hv;rw[e,c8,hj]at h0;simpa using h0
      rw[this];show fin h' b (.inr (.inl #[hb,hz,pl,k,q',(b.2 P oq).trans hP,oq,hp,e]))
    . let h0:=hv;rw[e,c8,hn]at h0;cases h0
  . have hl:vs.length=es.size:=by rw[e];simp
    have Me:i=0:=()
    have Mn:sl=0:=by
     obtain⟨_,g⟩|⟨p,_,g,_⟩:=hs
     . show g
     . lia
    have Mo:es.size=1:=()
    obtain⟨p,hp⟩:∃p,t.place=(List.toArray [p]):=by have:=S.place;rw[Mo]at this;show Array.size_eq_one_iff.mp this
    have MB:SetTable.below t.place sl=0:=by rw[hp,Mn];show Ht.1
    have he:es[0]?=some es[0]:=Array.getElem?_eq_getElem ();have ev:v=es[0].2:=by subst Me;let h0:=hv;rw[e,c8,Array.getElem?_toList,he]at h0;simpa using h0.symm
    show xx hh S q (!(es[0].2,p+1)) (λ{A'} {Q'} {E'} hq=>Hr S hb hz (by rw[MB,he,hp];show hq)) (λx n h' er b q'=>?_) (λer=>by cases er);cases er;rw[<-ev];show fin h' b (.inr (.inr #[hb,hz,p+1,q',e,.inr #[p,hp,(),rfl]]))
 done:=λs Q E st hQ=>by
  let(W,S):=st;have fin:∀h',Heap.ExtBut it s.heap h'->Q none { s with heap:=h' }:=λh' b=>hQ h' s.toks λc o hc q=>b c o (λz=>hc (by simp[z])) q;obtain⟨hb,q,e⟩|⟨hb,hz,pl,k,q,hP,oq,hp,e⟩|⟨hb,hz,sl,q,e,hs⟩:=W
  . have hn:(pickOrder (w.params.setOrder a ep) es)[vs.length]?=none:=by rw[e];simp
    show xx hh S q none (λ{A'} {Q'} {E'} hq=>Hq S hb (by rw[hn];show hq)) (λx n h' er b q'=>by cases er) (λ_=>fin)
  . show Hs hh S q hP (λj hj=>by simpa using hp.mem_iff.mp hj) (λj h' hj b q'=>by rw[e]at hj;simp at hj) (λ_=>fin)
  . have hl:vs.length=es.size:=by rw[e];simp
    show xx hh S q none (λ{A'} {Q'} {E'} hq=>Hr S hb hz ?_) (λx n h' er b q'=>by cases er) (λ_=>fin);obtain⟨g,g'⟩|⟨p,hp,g,g'⟩:=hs
    . have:es=(List.toArray []):=by apply Array.eq_empty_of_size_eq_zero;lia
      subst this;simpa using hq
    . rw[hp,g',Ht.2];have:es.size=1:=()
      let hn:=iF ();rw[hn];show hq
 self:=λi s Q E st hQ=>by rcases st.1 with ⟨hb,q,e⟩|⟨hb,hz,pl,k,q,hP,oq,hp,e⟩|⟨hb,hz,sl,q,e,hs⟩<;>show Wi q hQ
def DX(prog:Program)(w:World)(A:Around)(d:Addr)(ok:List Value->Prop)(s1:Shared):Prop:=∀(Q':Value->Shared->Prop)(E':Value->Shared->Prop),
 (∀h' dr I fp wr n P St,(∀b o,s1.heap.get? b=!o->h'.get? b=!o)->Walks prog w A I fp wr n P St->St 0 h'->(∀acc,ItemsOf P acc n->ok acc.toList)->(∀b∈fp,b=d\/s1.heap.objs.size<=b)->(∀b∈wr,s1.heap.objs.size<=b)->n<=sizeLine->Q' (YV I) { s1 with heap:=h',drawn:=dr })->
 wpAny (model prog w) A (pyIter (YV d)) Q' E' s1
abbrev vG:Obj:={ cls:=.type "list",data:=.seq ([]:List Value).toArray }
def Rn(h:ItemsOf (λi v=>vs[i]?=!v) acc vs.length):acc.toList=vs:=by
 show List.ext_getElem? λi=>?_;rw[Array.getElem?_toList];cases hi:acc[i]? with
 |some v=>show(h.2 i v hi).symm
 |none=>
  have:vs.length<=i:=by rw[<-h.1];show Array.getElem?_eq_none_iff.mp hi
  show(md this).symm
def DY(kz:T="set"\/T="dict")(hT:s.TypeIs (YV d) T)(hI:DX prog w A.in1 d ok { s with heap:=s.heap.push vG })
 (hQ:∀h' dr tk vs,ok vs->(∀b o,s.heap.get? b=!o->h'.get? b=!o)->s.heap.objs.size<=h'.objs.size->Q vs { s with heap:=h',drawn:=dr,toks:=tk }):wpAny (model prog w) A (collect (YV d)) Q E s:=by
 have hd:d<s.heap.objs.size:=by let(o,ho,_):=hT;show bX ho
 show al (wpAny_runValue (codeAny_builtin F.entry_proto_collect (?_:wpAny _ _ _ _ _ _)));show(al (wpAny_newObj_type (ay #[plainId_quiet F.plain_list_iadd _,codeAny_builtin F.entry_list_iadd (?_:wpAny _ _ _ _ _ _)])));have zn:Shared.TypeIs { s with heap:=s.heap.push vG } (YV d) T:=by let(o,ho,hc):=hT;show#[o,cf _ ho,hc]
 show(show wpAny _ A.in1 (Builtin.List.listExtendWith (YV s.heap.objs.size) (YV d) (YV s.heap.objs.size)) _ _ { s with heap:=s.heap.push vG } from ?_);show al (wpAny_typeOf zn ?_);have h1:Builtin.List.listSameRef (YV s.heap.objs.size) (YV d)=M:=by have:s.heap.objs.size≠d:=hJ hd;simp[Builtin.List.listSameRef,this]
 have g0:(s.heap.push vG).get? s.heap.objs.size=!vG:=dA _ O;have z0:(s.heap.push vG).objs.size=s.heap.objs.size+1:=size_push' ..;rw[aE (by rcases kz with rfl|rfl<;>(rw[h1];decide))];show al (hI _ _ λh' dr I fp wr n P St k W st hok MC MD fF=>?_);have i7:Shared.TypeIs { s with heap:=h',drawn:=dr } (YV d) T:=by let(o,ho,hc):=zn;show#[o,k _ _ ho,hc]
 let g1:=k _ _ g0;have nf:s.heap.objs.size∉fp:=λq=>by
  obtain z|z:=MC _ q
  . show absurd z (hJ hd)
  . rw[z0]at z;show absurd z (Nat.not_succ_le_self _)
 have hint:∀{Q':Bool->Shared->Prop}{E':Value->Shared->Prop},Q' M { s with heap:=h',drawn:=dr }->wpAny (model prog w) A.in1 (Builtin.List.listLengthHint (YV d)) Q' E' { s with heap:=h',drawn:=dr }:=by
  intro Q' E' q;unfold Builtin.List.listLengthHint;obtain rfl|rfl:=kz
  . show al (wpAny_specialOf i7 F.slot_set_len.lookup ?_);generalize mM:("set.__len__" : String)=sL
    wp_delta
    rw[show splitId sL=some ("set","__len__") from by subst mM;decide +kernel];subst mM;show al (wpAny_isInstance (b:=G) i7 (by rw[isSubtype_type];kernel_rfl) ?_);rw[aE (by simp)];dsimp only;rw[av ()];show al (wpAny_typeOf i7 (ay q))
  . show al (wpAny_specialOf i7 F.slot_dict_len.lookup ?_);generalize mM:("dict.__len__" : String)=sL
    wp_delta
    rw[show splitId sL=some ("dict","__len__") from by subst mM;decide +kernel];subst mM;show al (wpAny_isInstance (b:=G) i7 (by rw[isSubtype_type];kernel_rfl) ?_);rw[aE (by simp)];dsimp only;rw[av ()];show al (wpAny_typeOf i7 (ay q))
 show al (wpAny_holding (hint ?_));rw[av (by rcases kz with rfl|rfl<;>decide +kernel)];show al (wpAny_rule (al ?_));show(al (wpAny_updateSeq g1 O ?_));let g2:=k7 (Obj.mapSeq (·.push Value.none)) g1 O;show wpAny_updateSeq g2 O ?_;let g3:=k7 (Obj.mapSeq (·.pop)) g2 O;have zt:∀b o,b≠s.heap.objs.size->h'.get? b=!o->((h'.update s.heap.objs.size (Obj.mapSeq (·.push Value.none))).update s.heap.objs.size (Obj.mapSeq (·.pop))).get? b=!o:=λb o hb q=>(k5 _ _ (Ne.symm hb)).trans ((k5 _ _ (Ne.symm hb)).trans q);show ay #[plainId_quiet F.plain_extend_loop _,codeAny_extend_loopS W.toS fF s.heap.objs.size nf (YV s.heap.objs.size) n 0 _ _ _ O (d3 _) (W.frame 0 h' _ st λb hb o q=>zt b o (λz=>nf (z▸hb)) q) g3 (ItemsOf.nil _) λs' acc c m g4 it=>?_];show(al (wpAny_load g4 (ay ?_)));let(x1,x2,x3,x4,x5):=s';obtain rfl:x2=s.gens:=m.gens;obtain rfl:x3=dr:=m.drawn;obtain rfl:x5=s.os:=m.os;show hQ x1 x3 x4 acc.toList (hok acc it) (λb o q=>m.heap b o (λz=>?_) (zt b o (c_ (bX q)) (k _ _ (cf _ q)))) (mh (bX g4));obtain z|z:=aT.mp z
 . show absurd z (c_ (bX q))
 . have:=MD b z;rw[z0]at this;show absurd (eS (bX q) (p_ this)) (kR _)
def Ed(F:A.handled=J)(S:lG s.heap a es ep t (not (aI w))):DX prog w A a (λvs=>vs.Perm (es.toList.map (·.2))) s:=λQ' E' k=>Wh S λh' d j P vs ext W D l1 l2 _ _=>by
 have N:vs.length=es.size:=by rw[D.length_eq];simp
 show k h' d j [j,P,a] [j] _ _ _ ext (Tn F j P a es ep t vs) #[W,S.moved λo q=>ext _ _ q] (λQ q=>by rw[Rn q];show D) (λb i=>?_) (λb i=>?_) (by rw[N];show Aq S.bd)
 . simp only[aT,gX,or_false]at i;obtain rfl|rfl|rfl:=i
   . show YY l1
   . show YY l2
   . show Zl O
 . simp only[aT,gX,or_false]at i;subst i;show l1
def Tp(kz:T="set"\/T="dict")(hT:s.TypeIs (YV d) T)(hI:DX prog w A.in1.in1 d ok { s with heap:=s.heap.push vG })(hok:∀vs,ok vs->(∃D,StrsAre vs D)/\vs.length<64)
 (h:∀h' dr tk L out c vs D j,ok vs->StrsAre vs D->StrsAre out.toList j->j.Perm D->sortedS j=G->(∀b o,s.heap.get? b=!o->h'.get? b=!o)->h'.get? L=!(seqObj "list" out c)->s.heap.objs.size<=L->Q (YV L) { s with heap:=h',drawn:=dr,toks:=tk }):
 wpAny (model prog w) A (call (.builtin "sorted") [YV d]) Q E s:=by
 show Calls.call_function_entry kind_sorted plain_sorted entry_sorted (args_sorted1 _) ?_;show al (ay (al (DY kz hT hI λh1 dr tk vs hv k hz=>?_)));let((D,hs),hl):=hok vs hv;show al (wpAny_newList ?_ (by rw[sizeLine_eq];lia));have W:(h1.push (seqObj "list" vs.toArray 0)).get? h1.objs.size=!(seqObj "list" vs.toArray 0):=dA _ O;show al (wpAny_holding (wpAny_call_entry slot_list_sort #[_,W,O] entry_list_sort (list_sort_treeK strKind_oneLt W hs.keysOf (λv₁ v₂ ax e=>keyKind_strs (by rw[<-e];show hs)) hl λdb p1 p2=>#[_,O,?_]) (args_list_sort _)));let(j,r1,r2,r3):=sorted_out_str hs p1 p2;let(e,he):=sortedHeap_at W;show ay #[_,O,h _ dr tk _ _ e vs D j hv hs r1 r2 r3 (λb o q=>?_) he ?_]
 . show(sortedHeap_old (c_ (bX (k b o q))) (by rw[size_push'];show gT (bX (k b o q)))).trans (cf _ (k b o q))
 . show hz
end
section
variable {X:Cx}{ae:List (Addr×Obj)}{U:St}{H:Hp}{s:Shared}
def ai.drew(I:ai X ae U H s)(d:Drawn):ai X ae U H { s with drawn:=d }:=
 I.step (ch:=[]) (λb j=>by cases j) (λb o _ _ _ e _=>e) (λb o _ _ _ e _=>#[o.slots,e]) (λ_ _ _ _ n=>n) (λb o _ e=>#[o,e]) (λ_ _ e=>e) (λ_ _ _ e=>e) (λb ps e=>#[(List.toArray []),by rw[e];simp]) (λm q=>q) I.hok I.bare
theorem Hu:∀{j:List Str}{i:List Value},am (j.map V.str) i->StrsAre i j
 |[],i,r=>by cases r;show .nil
 |x::j,i,r=>by
  cases r with
  |cons a b=>
   let(t,rfl):=a;show .cons x t (Hu b)
theorem Hv:∀{i:List Value}{j:List Str},StrsAre i j->am (j.map V.str) i
 |_,_,.nil=>.nil
 |_,_,.cons y t r=>.cons #[t,O] (Hv r)
def Kq(P:Program)(w:World)(a:Addr)(ss:List Str):Heap->Prop:=λh=>∃es ep t,sI P w h a es ep t (not (aI w))/\(∀y,y∈gA es ↔ y∈ss)/\es.size<=ss.length
def zv(X:Cx):List V->Hp->VK->Prop:=λxs H Q=>∃a ss,xs=[.ref a]/\bV X.K H a (ss.map V.str)/\ss.length<4000/\∀l,H l=J->Q (.ref l) (aS H l (.ext (Kq X.prog X.w l ss)))
def Wj(F:X.calm=G):mj X (.type "set") (zv X):=by
 intro ae s U H xs us Q I r h;let(a,D,rfl,N,hl,q):=h;let(u,rfl,W):=d4 r;cases W;let(i,rv,pl,hz):=I.list N;let hs:=Hu rv;let e0:=CK hs;show Np (I.ok.hd F) pl.isList () (by show i.toArray.size+1<4096;rw[eP];lia) λh' tk es j t S mem sz kp=>?_;have z:es.size<=D.length:=by
  have e9:i.toArray.size=i.length:=by simp
  lia
 show#[.ref s.heap.objs.size,_,I.laid (λb o e=>kp b o (bX e) e) () (show eX X.prog X.w _ h' _ (.ext (Kq X.prog X.w s.heap.objs.size D)) from #[#[es,j,t,S,mem,z],#[_,S.at_],λh1 h2 ME k=>by let(es,j,t,S,r):=ME;show #[es,j,t,S.moved k,r]]),O,q _ (I.hok.fresh ())]
def Tq(X:Cx):List V->Hp->VK->Prop:=λxs H Q=>∃a ss,xs=[.ref a]/\H a=!(.ext (Kq X.prog X.w a ss))/\ss.length<64/\∀l ot,H l=J->ot.Nodup->(∀y,y∈ot ↔ y∈ss)->sortedS ot=G->Q (.ref l) (aS H l (.lst (ot.map V.str)))
def Tr(p:vs.Perm (es.toList.map (·.2)))(h:StrsAre vs ss):ss.Perm (gA es):=by
 rw[<-h.strs];have:=p.map strOf
 rwa [fS]at this
def Eg(hc:X.calm=G):mj X (.builtin "sorted") (Tq X):=by
 intro ae s U H xs us Q I r h;let(a,ss,rfl,W,hl,q):=h;let(u,rfl,rx):=d4 r;cases rx;let((es,ep,t,S,mem,sz),_):=I.hok a _ W;show Tp (T:="set") (Zl O) #[_,S.at_,O] (Ed (by simpa using I.ok.hd hc) (S.1.moved λo e=>cf _ e)) (λj p=>#[#[_,strsAre_map j λv F=>?_],?_]) λh' dr N L out c j s1 i p t1 t2 p2 so kp g z=>?_
 . let(e,he,rfl):=cK.mp (p.mem_iff.mp F);let((k,h1,_),_):=S.el e he;let(u,hu):=Value.isStrOf_shape h1;show#[k,u,hu]
 . have:=p.length_eq;simp only[bq,fz]at this;lia
 . let pk:=p2.trans (Tr p t1);have jS:i.length<=64:=by have:=pk.length_eq;unfold gA at this;simp only[bq,fz]at this;lia
   let D:=I.laid (t':=N) kp z (show eX X.prog X.w _ h' L (.lst (i.map V.str)) from #[by rw[bq,sizeLine_eq];lia,out.toList,c,Hv t2,g]);show#[.ref L,_,D.drew dr,O,q L i (I.hok.fresh z) (pk.nodup_iff.mpr S.nd) (λy=>(pk.mem_iff).trans (mem y)) so]
end
noncomputable def MG:V->Option Str
 |.str z=>!z
 |.int i=>if i.natAbs.log2<1920 then !(toString i) else J
 |_=>J
def Ox(c:Str):Str.empty++c=c:=by show (#[(List.toArray [])++c.cps]:Str)=c;rw[Array.empty_append]
def MI(c:Str)(t:TE):TE:=λU H Q=>t U H λv H'=>∃z,MG v=!z/\(c++z).length<=sizeLine/\z.length<=sizeLine/\Q (.str (c++z)) H'
section
variable {X:Cx}
def Zy(hc:c.length<=sizeLine)(he:PE X e t):PE X (.JoinedStr [.Constant (.str c) j p1,.FormattedValue e (-1) J p2] p3) (MI c t):=λae s U H Q I h=>by
 show JoinedStr_many (joinParts_cons (Calls.Constant_str #[by rw[Ox];show hc,?_]));rw[Ox];show joinParts_cons (FormattedValue_plain (wpAny_mono (he ae _ U H _ (I.tok _) h) (λu s1 q=>?_) λ_ _ x=>x));let(v,H',I1,rv,z,N,F,W,q):=q;cases v with
 |str x=>
  cases N;let(tk,rfl):=rv;show formatField_str (λt' tk=>#[F,joinParts_nilE (joinParts_nil #[.str (c++z),H',(I1.tok _).tok _,#[_,O],q] F)]) W
 |int i=>
  have D:(if i.natAbs.log2<1920 then !(toString i) else J:Option Str)=!z:=N;split at D
  . rename_i hi;cases D;let(tk,rfl):=rv;show formatField_int_small hi #[F,joinParts_nilE (joinParts_nil #[.str (c++toString i),H',((I1.tok _).tok _),#[_,O],q] F)]
  . cases D
 |_=>cases N
end
abbrev aW:=Option da
def nj:aW->V
 |none=>.non
 |some k=>kV k
def Wk:aW->Value->Bool
 |none,v=>v==.none
 |some k,v=>uU k v
def ML(w:World):aW->Int
 |none=>0xFCA86420
 |some k=>xA w k
theorem eY_:∀{k:aW}{v:Value},Wk k v=G->(k=J/\v=.none)\/∃x,k=!x/\uU x v=G
 | none,v,h=>Zl #[O,by
  cases v<;>first | rfl | (exfalso;revert h;unfold Wk;simp)]
 |some x,v,h=>YY #[x,O,h]
section
variable {prog:Program}
def Tt(h:Q 0xFCA86420 { s with toks:=s.toks+1 }):wpAny (model prog w) A (pyHash .none) Q E s:=by have i:s.TypeIs .none "NoneType":=O;show al ?_;show ay (al (wpAny_specialOf i F.slot_NoneType_hash.lookup ?_));show al (wpAny_specialOf i F.slot_NoneType_hash.lookup (al (wpAny_callSpecialIfBoundUnlessNone?_slot i F.slot_NoneType_hash (wpAny_call_entry F.slot_NoneType_hash i F.entry_NoneType_hash ?_ ()))));show wpAny_ret_mkInt ?_;show ay h
end
def eN(prog:Program)(w:World):PySem.KeyKind prog w aW where
 is:=Wk
 hash:=ML w
 inj:=λv a b ha hb=>by
  obtain⟨rfl,rfl⟩|⟨x,rfl,hx⟩:=eY_ ha
  . obtain⟨rfl,_⟩|⟨y,rfl,hy⟩:=eY_ hb
    . rfl
    . rcases di hy with ⟨i,t,_,e⟩|⟨i,t,_,e⟩<;>cases e
  . obtain⟨rfl,e⟩|⟨y,rfl,hy⟩:=eY_ hb
    . subst e;rcases di hx with ⟨i,t,_,e⟩|⟨i,t,_,e⟩<;>cases e
    . show congrArg some ((fM prog w).inj v x y hx hy)
 byValue:=λk v h=>by
  obtain⟨rfl,rfl⟩|⟨x,rfl,hx⟩:=eY_ h
  . rfl
  . show(fM prog w).byValue x v hx
 pyHash:=λhv h=>by
  obtain⟨rfl,rfl⟩|⟨x,rfl,hx⟩:=eY_ hv
  . show Tt h
  . show(fM prog w).pyHash hx h
 eqBool:=λhu hv h=>by
  obtain⟨rfl,rfl⟩|⟨x,rfl,hx⟩:=eY_ hu
  . obtain⟨rfl,rfl⟩|⟨y,rfl,hy⟩:=eY_ hv
    . show SeqAt.EqAt.same _ _ _ _ _ h
    . obtain⟨i,t,rfl,rfl⟩|⟨i,t,rfl,rfl⟩:=di hy
      . show SeqAt.EqAt.none_int i t _ _ _ _ h
      . show SeqAt.EqAt.none_str i t _ _ _ _ h
  . obtain⟨rfl,rfl⟩|⟨y,rfl,hy⟩:=eY_ hv
    . obtain⟨i,t,rfl,rfl⟩|⟨i,t,rfl,rfl⟩:=di hx
      . show SeqAt.EqAt.int_none i t _ _ _ _ h
      . show SeqAt.EqAt.str_none i t _ _ _ _ h
    . show(fM prog w).eqBool hx hy ?_;have e:decide ((some x:aW)=!y)=decide (x=y):=by simp
      rw[e]at h;show h
 «strs»:=λk x t v h=>by
  obtain⟨rfl,e⟩|⟨y,rfl,hy⟩:=eY_ h
  . cases e
  . show(fM prog w).strs y x t v hy
theorem MM:∀{k:aW}{u:Value},aw (nj k) u->(eN P w).is k u=G
 |none,u,r=>by let e:=r;subst e;rfl
 |some k,u,r=>JH (P:=P) (w:=w) r
theorem Oz:∀{ks:List aW}{i:List Value},am (ks.map nj) i->ItemsAre (eN P w) ks i
 |[],i,h=>by let e:=h.zero;subst e;show .nil
 |k::ks,i,h=>by
  cases h with
  |cons r t=>show .cons (MM r) (Oz t)
def Cg(P:Program)(w:World):List aW->Int:=(tupleKind (eN P w)).hash
abbrev XD:=List (List aW×Addr×V)
abbrev XV:=List (List aW×Addr×Value)
def XR:XD->XV->Prop:=Paired λx y=>x.1=y.1/\x.2.1=y.2.1/\aw x.2.2 y.2.2
def vQ(hk:List aW->Int)(a:Addr)(xs:XD):Heap->Prop:=λh=>xs.length<=sizeLine/\(a==sysModules)=M/\∃ys:XV,XR xs ys/\(ys.map (·.1)).Nodup/\
 ∃o es ep,h.get? a=!o/\o.ExactDict/\o.data=.dict es ep/\es.toList=ys.map λy=>#[hk y.1,YV y.2.1,y.2.2]
def dX(P:Program)(w:World)(a:Addr)(xs:XD):HO:=.ext (vQ (Cg P w) a xs)
def zw(p:vQ hk a xs h):eX P w H h a (.ext (vQ hk a xs)):=by let q:=p;let(_,_,ys,_,_,o,es,i,e,_):=q;show#[p,#[o,e],λh1 h2 ⟨z,m,ys,r,n,o,es,i,e,g⟩ k=>#[z,m,ys,r,n,o,es,i,k _ e,g]]
def jJ(xs:XD)(k:List aW):Option V:=(xs.find? λx=>decide (x.1=k)).map (·.2.2)
theorem XR.at:∀{xs:XD}{ys:XV},XR xs ys->(∀v,jJ xs k=!v->∃p,atKey ys k=!p/\aw v p.2)/\(jJ xs k=J->atKey ys k=J)
 |_,_,.nil=>#[λv h=>(by cases h),λ_=>O]
 |x::xs,y::ys,.cons #[h1,h2,j] t=>by
  let i:=XR.at (k:=k) t;unfold jJ atKey at i ⊢;by_cases e:x.1=k
  . grind
  . grind
theorem XR.snoc(h:x.1=y.1/\x.2.1=y.2.1/\aw x.2.2 y.2.2):∀{xs:XD}{ys:XV},XR xs ys->XR (xs++[x]) (ys++[y])
 |_,_,.nil=>.cons h .nil
 |_,_,.cons a t=>.cons a (XR.snoc h t)
theorem XR.mem:∀{xs:XD}{ys:XV},XR xs ys->∀y∈ys,∃x∈xs,x.1=y.1/\x.2.1=y.2.1
 |_,_,.nil=>λy h=>by cases h
 |x::xs,z::ys,.cons #[h1,h2,_] t=>λy h=>by
  obtain rfl|h:=aT.mp h
  . grind
  . let(i,m,e):=XR.mem t y h;grind
section
variable {prog:Program}{w:World}{A:Around}{E:Value->Shared->Prop}{s:Shared}{K:Type}[DecidableEq K]{knd:HeapKind prog w K}
def Nq(hu:knd.room A)(i:knd.is s.heap k a)(hm:s.heap.DictOfH knd d xs)
 (q1:∀p,atKey xs k=!p->Q p.2 { s with toks:=s.toks+knd.draws k })
 (q2:atKey xs k=J->∀h',h'.DictOfH knd d (xs++[(k,a,v)])->Heap.SameBut d s.heap h'->Q v { s with heap:=h',toks:=s.toks+knd.draws k })
 (fF:xs.length<=sizeLine):wpAny (model prog w) A (dictSetDefault d (YV a) v) Q E s:=by
 let(o,es,ep,D,hc,q,he,N,hn):=hm;let hsz':=size_of_entries he;show wpAny_holding ?_;show al (knd.pyHash hu i (al (wpAny_dictFind_heap hu i D q he N hn (λF=>?_) λj p hj=>?_)))
 . let hq:=atKey_none_of_get F;show al (wpAny_rule (al (wpAny_updateDictKeys D q (ay (q2 hq _ ?_ (kg ..))))));show#[_,_,ep+1,k7 _ D (Obj.isFreed_of_dict (Obj.data_mapDictKeys q _)),hc.mapDictKeys _,Obj.data_mapDictKeys q _,by simp[he,entryOfKey],λx z=>?_,?_]
   . obtain z|z:=cx.mp z
     . show knd.keeps (N x z) D q (kg ..)
     . rw[eL.mp z];show knd.keeps i D q (kg ..)
   . rw[cy];show n9.mpr #[hn,f6.mpr #[gX,mo],λx z y hy e=>not_mem_keys_of_get F ?_];grind
 . show al (wpAny_dictEntries D q ?_);rw[entry_at he j,hj];show al (wpAny_rule (ay (q1 p (atKey_of_get hn hj))))
end
section
variable {X:Cx}
def t8{U:St}(I:ai X ae U H s)(e:cT X.K H b (k.map nj)):(tupleKind (eN P w)).is s.heap k b:=by let(i,r,(o,h1,h2,n,j),_):=I.tuple e;show#[o,i.toArray,n,h1,h2,j,by simpa using Oz r]
def ai.dx{U:St}(I:ai X ae U H s)(e:H a=!(dX X.prog X.w a xs))(hk:∀x∈xs,cT X.K H x.2.1 (x.1.map nj)):
 xs.length<=sizeLine/\(a==sysModules)=M/\∃ys:XV,XR xs ys/\s.heap.DictOfH (tupleKind (eN X.prog X.w)) a ys:=by
 let((z,m,ys,r,n,o,es,F,h1,h2,i,Q),_):=I.hok a _ e;show#[z,m,ys,r,o,es,F,h1,h2,i,Q,λy j=>?_,n];let(x,q,D,N):=r.mem y j;rw[<-D,<-N];show t8 I (hk x q)
theorem XR.len:∀{xs:XD}{ys:XV},XR xs ys->ys.length=xs.length
 |_,_,.nil=>rfl
 |_,_,.cons _ t=>by rw[be,be,XR.len t]
def Tu(P:Program)(w:World)(K:FG):V->List V->Hp->VK->Prop:=λx vs H Q=>∃a b xs k v,x=.ref a/\vs=[.ref b,v]/\H a=!(dX P w a xs)/\(∀x∈xs,cT K H x.2.1 (x.1.map nj))/\cT K H b (k.map nj)/\xs.length<sizeLine/\
 match jJ xs k with
 |some u=>Q u H
 |none=>Q v (aS H a (dX P w a (xs++[(k,b,v)])))
def Tv(hu:X.A.units+1<cLine):Om X "dict.setdefault" (Tu X.prog X.w X.K):=by
 intro ae s U H x vs v us Q I rx rv h;let(a,b,xs,k,y,rfl,rfl,hH,W,hb,hl,q):=h;cases rx;let(u,r,rfl,rb,ry):=rv.two;cases (rb);let(z,m,ys,j,dd):=I.dx hH W;let ox:=j.len;show call_meetsIn F.slot_dict_setdefault dd.typeIs F.entry_dict_setdefault (F.args_dict_setdefault_3 _ _ _) (S:=λA ZN s'=>A=X.A/\ZN=wants (EP X ae U Q) X.xe/\s'=s) (.of_wp λA ZN s' MO=>?_) #[O,O,O];let(e1,e2,e3):=MO;subst e1 e2 e3;show al ?_;show al (wpAny_notOrdered_dict dd.typeIs ?_);show(ay ?_);dsimp only;rw[aE ∅];show al (Nq (tupleKind_room_in1 hu) (t8 I hb) dd (λp hp=>ay #[p.2,O,?_]) (λhn h' D hs=>ay #[r,O,?_]) ())
 . cases e:jJ xs k with
   |none=>rw[(j.at).2 e]at hp;grind
   |some N=>
    rw[e]at q;let(p',i,rp):=(j.at).1 N e;rw[hp]at i;cases i;show#[_,_,I.tok _,rp,q]
 . cases e:jJ xs k with
   |some N=>
    let(p',i,_):=(j.at).1 N e;grind
   |none=>
    rw[e]at q;let(o,es,ep,h1,h2,h3,h4,h5,h6):=D;show#[_,_,Gp I (by rw[hH];show True.intro) hs #[o,h1] (zw #[?_,m,ys++[(k,b,r)],j.snoc #[O,O,ry],h6,o,es,ep,h1,h2,h3,h4]),ry,q];grind
def Yq(P:Program)(w:World)(K:FG):V->List V->Hp->VK->Prop:=λx vs H Q=>∃a b xs k v,x=.ref a/\vs=[.ref b,v]/\H a=!(dX P w a xs)/\(∀x∈xs,cT K H x.2.1 (x.1.map nj))/\cT K H b (k.map nj)/\Q ((jJ xs k).getD v) H
def OD(hu:X.A.units+1<cLine):Om X "dict.get" (Yq X.prog X.w X.K):=by
 intro ae s U H x vs v us Q I rx rv h;let(a,b,xs,k,y,rfl,rfl,hH,i,hb,q):=h;cases rx;let(u,r,rfl,rb,N):=rv.two;cases (rb);let(z,m,ys,j,D):=I.dx hH i;show call_meetsIn F.slot_dict_get D.typeIs F.entry_dict_get (F.args_dict_get_3 _ _ _) (meetsH_dict_get_default (tupleKind (eN X.prog X.w)) a b m r) #[tupleKind_room_in1 hu,k,ys,t8 I hb,D,?_];show#[_,_,I.tok _,?_,q];cases e:jJ xs k with
 |none=>
  rw[(j.at).2 e];show N
 |some W=>
  let(p',MQ,rp):=(j.at).1 W e;grind
def Kr{apos cpos:Pos}{id:String}(q:Slot "dict" name id)(W:typeOf (.builtin id)=pure (.type "method_descriptor"))(hm:Om X id r)(ho:PE X o to)(ha:PA X [e1,e2] t)
 (j:attributeBase o name X.env (eval o X.env)=eval o X.env:=by rfl)
 (z:((backTo cpos (starEach [e1,e2] X.env)).all (λx=>not x.1)&&(backToKw cpos (keywordEach [] X.env)).all (λx=>x.1.isSome)
   && decide ([e1,e2].length+([]:List Keyword).length+(if ([]:List Keyword).isEmpty then 0 else 1)<30))=G:=by rfl)
 (i:(apos.endLine==cpos.line)=G:=by rfl) (hs:starEach [e1,e2] X.env=(M,eval e1 X.env)::starEach [e2] X.env:=by rfl) (D:(backTo cpos (starEach [e2] X.env)).any (·.1)=M:=by rfl):
 PE X (.Call (.Attribute o name apos) [e1,e2] [] cpos) (λU H Q=>to U H λx H1=>(∃a hk xs,x=.ref a/\H1 a=!(.ext (vQ hk a xs)))/\t U H1 λvs H2=>r x vs H2 Q):=by
 intro ae s U H Q I h;show wpAny_Call_method_late j z i O (cY (ho ae s U H _ I h) λv s1 MS=>?_);let(x,H1,I1,r1,(a,hk,xs,ea,hH),q1):=MS;subst ea;cases r1;let((_,_,ys,_,_,o,es,ep,h1,h2,_),_):=I1.hok a _ hH;show#["dict",id,F.plainAttrs_dict,q,W,#[o,h1,h2.1],λb e=>(by cases e;show#[o,h1,h2.2.1]),?_];let hA:=ha cpos ae s1 U H1 _ I1 q1;rw[hs]at hA ⊢;show Calls.callWith_builtin () (Calls.evalArgs_plain ?_);show cY hA λus s2 MU=>by let(vs,H2,I2,r2,q2):=MU;show hm ae s2 U H2 (.ref a) vs (YV a) us Q I2 O r2 q2
def Wl:PE X (.Dict [] [] pos) (λ_ H Q=>∀p,H p=J->Q (.ref p) (aS H p (dX X.prog X.w p []))):=λae s U H Q I h=>
 wpAny_Dict_empty #[.ref s.heap.objs.size,_,I.laid (λ_ _ q=>cf _ q) () (zw #[d3 _,ms.mpr (Ne.symm (c_ I.big)),[],.nil,mo,_,(List.toArray []),0,dA _ O,#[O,O,O],O,O]),O,h _ (I.hok.fresh ())]
end
def zC(a c:Addr):Heap->Prop:=λh=>∃o,W.InstAt h a o c J
end L2
namespace L2
open PySem PySem.Spec PyProof.Rows PySem.W
def f7.un(i:Nat)(D:f7):f7:={ nx:=λU H=>D.nx (U.set i J) H,rt:=D.rt,bk:=λU H=>D.bk (U.set i J) H,ct:=λU H=>D.ct (U.set i J) H }
theorem Hw:∀(l:List α)(m:List β),l.length=m.length->(∀(i:Nat) a b,l[i]?=!a->m[i]?=!b->F a b)->Paired F l m
 |[],[],_,_=>.nil
 |a::l,b::m,h,g=>.cons (g 0 a b O O) (Hw l m ∅ λi x y h1 h2=>g (i+1) x y h1 h2)
section
variable {X:Cx}
def Wm:mj X (.type "range") (λxs H Q=>∃j,xs=[.int j]/\∀r,H r=J->Q (.ref r) (aS H r (.rng 0 j))):=by intro ae s U H xs i Q I r h;let(j,rfl,q):=h;let(u,rfl,t,rfl):=d4 r;show call_range_1 #[.ref s.heap.objs.size,_,I.laid (λb o e=>cf _ e) () (show eX X.prog X.w _ _ _ (.rng 0 j) from #[_,_,_,dA _ O]),O,q _ (I.hok.fresh ())]
def Jk(hc:X.calm=G):mj X (.type "list") (λxs H Q=>∃p j,xs=[.ref p]/\H p=!(.rng 0 j)/\0<=j/\j<=100000/\∀l,H l=J->Q (.ref l) (aS H l (.lst ((List.range j.toNat).map λi=>.int (i:Nat))))):=by
 intro ae s U H xs us Q I r h;let(p,j,rfl,e,h0,h1,q):=h;let(u,rfl,rx):=d4 r;cases rx;let(t,u,v,hr):=(I.hok p _ e);show call_list_range (n:=j.toNat) (I.ok.hd hc) hr (small_one () () () ()) ?_ () λh' tk D c' hk N z=>?_
 . rw[rangeSize_one];split<;>lia
 . show#[.ref s.heap.objs.size,_,I.laid hk () (show eX X.prog X.w _ h' _ (.lst _) from #[?_,D.toList,c',?_,by simpa using N]),O,q _ (I.hok.fresh ())]
   . rw[bq,fR,sizeLine_eq];lia
   . show Hw _ _ (by simp[z.1]) λi a b F W=>?_;rw[Array.getElem?_toList]at W;let(tk,rfl):=z.2 i b W;rw[c8]at F;cases hi:(List.range j.toNat)[i]? with
     |none=>rw[hi]at F;cases F
     |some k=>
      rw[hi]at F;cases F;let lt:=(de.mp hi).1;rw[fR]at lt;rw[List.getElem?_range lt]at hi;cases hi;show#[tk,by simp]
end
def qd(κ:KeyKind)(kd:SortKind)(prog:Program)(w:World)(A:Around)(s:Shared):Prop:=
 ∀(E:Value->Shared->Prop)(x y:Value)(a b:κ.α){Q:Bool->Shared->Prop},κ.keyOf x=!a->κ.keyOf y=!b->Q (κ.blt a b) s->wpAny (model prog w) A (keyLt' kd x y) Q E s
noncomputable def sJ:Bool->Keyed->Array Keyed->Nat->Nat->Nat->StateT SortSt Sem (Option Nat):=sortPriv% PySem.Builtin.gallop
noncomputable abbrev Ks (lf:Bool) (key:Keyed) (hV:Array Keyed) (base i:Nat):StateT SortSt Sem (Option Bool):=do
 let x <-elem' hV (base+i)
 if lf then lt' x key else return (<-lt' key x).map not
def Ku(lf:Bool)(key:Keyed)(hV:Array Keyed)(base n lo hi:Nat):StateT SortSt Sem (Option Nat):=do
 let mut lo:=lo
 let mut hi:=hi
 for _ in [0:n] do
  if lo ≥ hi then break
  let m:_:=lo+(hi-lo)/2
  let some more <-Ks lf key hV base m |return J
  if more then lo:=m+1 else hi:=m
 return !hi
section
variable {prog:Program}{w:World}{A:Around}{E:Value->Shared->Prop}{s:Shared}{κ:KeyKind}{kd:SortKind}
def vR(j:qd κ kd prog w A s){st:SortSt}(hk:kindOf st=kd)(i:κ.keyOf x.1=!a)(q:κ.keyOf y.1=!b)(h:Q (!(κ.blt a b)) st):wpS (model prog w) A E s (lt' x y) Q st:=by rw[lt'_eq];show wpS_bind (wpS_get ?_);rw[hk];show wpS_bind (wpS_lift (wpAny_attempt (j _ x.1 y.1 a b i q #[O,?_])));show wpS_pure h
def Tz(F:qd κ kd prog w A s){st:SortSt}{i j:Nat}(hk:kindOf st=kd)
 (hi:(arrOf st)[i]?=!(x,p)) (N:(arrOf st)[j]?=!(y,q)) (z:κ.keyOf x=!a) (D:κ.keyOf y=!b) (h:Q (!(κ.blt a b)) st):
 wpS (model prog w) A E s (ltAt' i j) Q st:=by
 show wpS _ _ _ _ (do let x <-elem' (arrOf st) i;let y <-elem' (arrOf st) j;lt' x y) Q st;rw[elem'_eq,elem'_eq,hi,N];show wpS_bind (wpS_pure (wpS_bind (wpS_pure (vR F hk z D h))))
def Kv{st:SortSt}(hi:hV[i]?=!p)(h:Q p st):wpS (model prog w) A E s (elem' hV i) Q st:=by rw[elem'_eq,hi];show wpS_pure h
def iC(κ:KeyKind)(lf:Bool)(a c:κ.α):Bool:=if lf=G then κ.blt c a else not (κ.blt a c)
def Wn(h:κ.kle c d)(i:iC κ lf a d=G):iC κ lf a c=G:=by
 unfold iC at *;cases lf
 . simp only[e_,if_false,Bool.not_eq_true']at *;show KeyOrd.kle_trans h i
 . show KeyOrd.klt_of_kle_of_klt h i
def El(κ:KeyKind)(hV:Array Keyed)(base n:Nat)(f:Nat->κ.α):Prop:=∀i,i<n->∃p,hV[base+i]?=!p/\κ.keyOf p.1=!(f i)
def xG(z:qd κ kd prog w A s){st:SortSt}(hk:kindOf st=kd)(j:κ.keyOf key.1=!a)(he:El κ hV base n f)(hi:i<n)(h:Q (!(iC κ lf a (f i))) st):wpS (model prog w) A E s (Ks lf key hV base i) Q st:=by
 let(p,e,q):=he i hi;show wpS_bind (Kv e ?_);cases lf
 . show wpS_bind (vR z hk j q (wpS_pure h))
 . show vR z hk q j h
def uc(hO:qd κ kd prog w A s){st:SortSt}(hk:kindOf st=kd)(ha:κ.keyOf key.1=!a)(he:El κ hV base n f)(hs:∀i j,i<=j->j<n->κ.kle (f i) (f j))(hh:hint<n)(h:∀k,k<=n->(∀i,i<k->iC κ lf a (f i)=G)->(∀i,k<=i->i<n->iC κ lf a (f i)=M)->Q (!k) st):wpS (model prog w) A E s (sJ lf key hV base n hint) Q st:=by
 have dn:∀i j,i<=j->j<n->iC κ lf a (f j)=G->iC κ lf a (f i)=G:=λi j h1 h2=>Wn (hs i j h1 h2);have up:∀i j,i<=j->j<n->iC κ lf a (f i)=M->iC κ lf a (f j)=M:=λi j h1 h2 N=>by
  cases hb:iC κ lf a (f j)
  . rfl
  . rw[dn i j h1 h2 hb]at N;cases N
 show wpS_bind (xG hO hk ha he hh ?_);have qS:∀lo hi:Nat,lo<=hi->hi<=n->(∀i,i<lo->iC κ lf a (f i)=G)->(∀i,hi<=i->i<n->iC κ lf a (f i)=M)->
  wpS (model prog w) A E s (Ku lf key hV base n lo hi) Q st:=λlo hi h1 h2 N D=>by
  have fin:∀lo hi:Nat,lo=hi->hi<=n->(∀i,i<lo->iC κ lf a (f i)=G)->(∀i,hi<=i->i<n->iC κ lf a (f i)=M)->wpS (model prog w) A E s (match ((J,lo,hi):Option (Option Nat)×Nat×Nat).1 with |some r=>pure r |none=>pure (!hi)) Q st:=λlo hi e h2 N D=>by subst e;show wpS_pure (h lo h2 N D)
  show wpS_bind (wpS_forRange (I:=λx c z=>z=st/\∃lo hi,c=(J,lo,hi)/\lo<=hi/\hi<=n/\hi-lo<=n-x/\(∀i,i<lo->iC κ lf a (f i)=G)/\(∀i,hi<=i->i<n->iC κ lf a (f i)=M)) ?_ ?_ #[O,lo,hi,O,h1,h2,(),N,D])
  . intro x c z _ hx q0;let(rfl,lo,hi,rfl,h1,h2,hm,N,D):=q0;dsimp only;by_cases F:lo ≥ hi
    . rw[av F];show wpS_pure (fin lo hi () h2 N D)
    . rw[aE F];show wpS_bind (xG hO hk ha he () ?_);cases hb:iC κ lf a (f (lo+(hi-lo)/2))
      . simp only[e_,if_false];show wpS_pure #[O,_,_,O,(),(),(),N,λi W h6=>up _ i W h6 hb]
      . simp only[if_true];show wpS_pure #[O,_,_,O,(),(),(),λi W=>dn i _ () () hb,D]
  . intro c z q0;let(rfl,lo,hi,rfl,h1,h2,hm,N,D):=q0;show fin lo hi () h2 N D
 cases hr:iC κ lf a (f hint)
 . simp only[e_,if_false];show wpS_bind (wpS_mono (wpS_forRange (Q:=λc z=>z=st/\∃last q,c=(J,last,q)/\last<=hint/\last<q/\iC κ lf a (f (hint-last))=M/\(q ≥ hint+1\/iC κ lf a (f (hint-q))=G)) (I:=λx c z=>z=st/\∃last q,c=(J,last,q)/\last<=hint/\last<q/\x<q/\iC κ lf a (f (hint-last))=M) ?_ ?_ #[O,0,1,O,(),(),(),hr]) ?_)
   . intro x c z _ hx q0;let(rfl,last,q,rfl,h1,h2,N,D):=q0;dsimp only;by_cases F:q ≥ hint+1
     . rw[av F];show wpS_pure #[O,last,q,O,h1,h2,D,Zl F]
     . rw[aE F];show wpS_bind (xG hO hk ha he () ?_);cases hb:iC κ lf a (f (hint-q))
       . simp only[e_,if_false];show wpS_pure #[O,_,_,O,(),(),(),hb]
       . simp only[if_true];show wpS_pure #[O,last,q,O,h1,h2,D,YY hb]
   . intro c z q0;let(rfl,last,q,rfl,h1,h2,N,D):=q0;show#[O,last,q,O,h1,h2,D,Zl ()]
   . intro c z q0;let(rfl,last,q,rfl,h1,h2,D,W):=q0;dsimp only;show(qS (hint+1-min q (hint+1)) (hint-last) ?_ () (λi hi=>?_) λi h6 h7=>up _ i h6 h7 D)
     . obtain W|W:=W
       . lia
       . by_cases hl:q ≥ hint+1
         . lia
         . obtain h8|h8:=Nat.lt_or_ge (hint-last) (hint+1-q)
           . rw[dn (hint-last) (hint-q) () () W]at D;cases D
           . lia
     . obtain W|W:=W
       . lia
       . show dn i (hint-q) () () W
 . simp only[if_true];show wpS_bind (wpS_mono (wpS_forRange (Q:=λc z=>z=st/\∃last q,c=(J,last,q)/\hint+last<n/\last<q/\iC κ lf a (f (hint+last))=G/\(q ≥ n-hint\/(q<n-hint/\iC κ lf a (f (hint+q))=M))) (I:=λx c z=>z=st/\∃last q,c=(J,last,q)/\hint+last<n/\last<q/\x<q/\iC κ lf a (f (hint+last))=G) ?_ ?_ #[O,0,1,O,(),(),(),hr]) ?_)
   . intro x c z _ hx q0;let(rfl,last,q,rfl,h1,h2,N,D):=q0;dsimp only;by_cases F:q ≥ n-hint
     . rw[av F];show wpS_pure #[O,last,q,O,h1,h2,D,Zl F]
     . rw[aE F];show wpS_bind (xG hO hk ha he () ?_);cases hb:iC κ lf a (f (hint+q))
       . simp only[Bool.not_false,if_true];show wpS_pure #[O,last,q,O,h1,h2,D,YY #[(),hb]]
       . simp only[Bool.not_true,e_,if_false];show wpS_pure #[O,_,_,O,(),(),(),hb]
   . intro c z q0;let(rfl,last,q,rfl,h1,h2,N,D):=q0;show#[O,last,q,O,h1,h2,D,Zl ()]
   . intro c z q0;let(rfl,last,q,rfl,h1,h2,D,W):=q0;dsimp only;show(qS (hint+last+1) (hint+min q (n-hint)) () () (λi hi=>dn i _ () h1 D) λi h6 h7=>?_);obtain W|⟨W,h8⟩:=W
     . lia
     . show up _ i () h7 h8
end
def DK(κ:KeyKind)(a:Array Keyed):Prop:=(a.toList.map λp=>κ.keyOf p.1).Nodup
structure OJ(kd:SortKind)(a₀:Array Keyed)(st:SortSt):Prop where
 perm:(arrOf st).Perm a₀
 kind:kindOf st=kd
 failed:failedOf st=none
 pend:pendingOf st=(List.toArray [])
theorem OJ.atK{st:SortSt}(h:OJ kd a₀ st)(j:KeysOf κ a₀)(hi:i<a₀.size):∃x p a,(arrOf st)[i]?=!(x,p)/\κ.keyOf x=!a/\KK κ (arrOf st) i=a:=
 SBase.atK (st:=SortSt.mk' oneType' (arrOf st) (pendingOf st) 7 J) #[h.perm,O,O,h.pend] j hi
theorem OJ.size{st:SortSt}(h:OJ kd a₀ st):(arrOf st).size=a₀.size:=h.perm.size_eq
structure SB(kd:SortKind)(a₀:Array Keyed)(p:Array (Nat×Nat×Nat))(lo:Nat)(xs:Array Keyed)(st:SortSt):Prop where
 perm:(arrOf st).Perm a₀
 kind:kindOf st=kd
 failed:failedOf st=none
 pend:pendingOf st=p
 low:∀i,i<lo->(arrOf st)[i]?=xs[i]?
def Sg(κ:KeyKind)(xs:Array Keyed)(lo n:Nat):Prop:=∀i j,i<=j->j<n->κ.kle (KK κ xs (lo+i)) (KK κ xs (lo+j))
section
variable {prog:Program}{w:World}{A:Around}{E:Value->Shared->Prop}{s:Shared}{κ:KeyKind}{kd:SortKind}{a₀ xs:Array Keyed}{p:Array (Nat×Nat×Nat)}{lo:Nat}{st:SortSt}
def SB.base(h:SB kd a₀ p lo xs st):OJ kd a₀ (setPending st (List.toArray [])):=#[h.perm,h.kind,h.failed,O]
theorem SB.size(h:SB kd a₀ p lo xs st):(arrOf st).size=a₀.size:=h.perm.size_eq
def SB.setA(h:SB kd a₀ p lo xs st)(j:ys.Perm (arrOf st))(q:∀i,i<lo->ys[i]?=(arrOf st)[i]?):SB kd a₀ p lo xs (setArr st ys):=#[j.trans h.perm,h.kind,h.failed,h.pend,λi hi=>(q i hi).trans (h.low i hi)]
def SB.ne(h:SB kd a₀ p lo xs st)(N:KeysOf κ a₀)(hd:DK κ a₀)(z:i<j)(F:j<a₀.size):KK κ (arrOf st) i≠KK κ (arrOf st) j:=by
 let D:=((Array.perm_iff_toList_perm.mp h.perm).map _).nodup_iff.mpr hd;let(x,q,a,e1,h1,h2):=h.base.atK N (Nat.lt_trans z F);let(y,r,b,e3,W,h4):=h.base.atK N F;rw[h2,h4];rintro rfl;have Q:((arrOf st).toList.map λp=>κ.keyOf p.1)[i]?=!(!a):=by rw[c8,Array.getElem?_toList,e1];simp[h1]
 have g2:((arrOf st).toList.map λp=>κ.keyOf p.1)[j]?=!(!a):=by rw[c8,Array.getElem?_toList,e3];simp[W]
 have:=(List.getElem?_inj (de.mp Q).1 D).mp (Q.trans g2.symm);lia
def ud(hO:qd κ kd prog w A s)(D:KeysOf κ a₀)(z:SB kd a₀ p lo xs st)(hi:i<a₀.size)(hj:j<a₀.size)
 (h:Q (!(κ.blt (KK κ (arrOf st) i) (KK κ (arrOf st) j))) st):wpS (model prog w) A E s (ltAt' i j) Q st:=by
 let(x,q,a,e1,F,ka):=z.base.atK D hi;let(y,r,b,N,W,kb):=z.base.atK D hj;rw[ka,kb]at h;show Tz hO z.kind e1 N F W h
def Sg.snoc(h:Sg κ xs lo n)(h1:1<=n)(N:κ.kle (KK κ xs (lo+n-1)) (KK κ xs (lo+n))):Sg κ xs lo (n+1):=λi j q Q=>by
 by_cases D:j<n
 . show h i j q D
 . have F:j=n:=()
   subst F;by_cases z:i=j
   . subst z;show KeyOrd.kle_refl _
   . have:=h i (j-1) () ();rw[show lo+(j-1)=lo+j-1 by omega]at this;show KeyOrd.kle_trans this N
def Ro(hO:qd κ kd prog w A s)(h0:KeysOf κ a₀)(hd:DK κ a₀)(hn:lo+nrem<=a₀.size)(h1:1<=nrem)(D:SB kd a₀ p lo xs st)
 (h:∀m z,SB kd a₀ p lo xs z->1<=m->m<=nrem->Sg κ (arrOf z) lo m->Q (!m) z):wpS (model prog w) A E s (countRun' lo nrem) Q st:=by
 show wpS_bind (wpS_mono (wpS_forRange (I:=λx c z=>z=st/\c=(J,x)/\Sg κ (arrOf st) lo x)
  (Q:=λc z=>z=st/\∃n,c=(J,n)/\1<=n/\n<=nrem/\Sg κ (arrOf st) lo n/\(n=nrem\/κ.klt (KK κ (arrOf st) (lo+n)) (KK κ (arrOf st) (lo+n-1)))) ?_ ?_
  #[O,O,λi j N hj=>by have:i=j:=();subst this;show KeyOrd.kle_refl _]) ?_)
 . intro x c z W zD q0;let(rfl,rfl,hs):=q0;show wpS_bind (ud hO h0 D () () ?_);cases F:κ.blt (KK κ (arrOf z) (lo+x)) (KK κ (arrOf z) (lo+x-1))
   . show wpS_pure #[O,O,hs.snoc W F]
   . show wpS_pure #[O,x,O,W,(),hs,YY F]
 . intro c z q0;let(rfl,rfl,hs):=q0;rw[show max 1 nrem=nrem by omega]at hs ⊢;show#[O,nrem,O,h1,bv _,hs,Zl O]
 intro c z q0;let(rfl,n,rfl,sM,om,hs,MV):=q0;dsimp only;by_cases sN:n=nrem
 . rw[av (by simpa using sN)];show wpS_pure (h n _ D sM om hs)
 rw[aE (by simpa using sN)];let i6:=MV.resolve_left sN;by_cases z_:n>1
 . rw[av z_];show wpS_bind (ud hO h0 D () () ?_);have:κ.blt (KK κ (arrOf z) lo) (KK κ (arrOf z) (lo+n-1))=G:=by
    cases F:κ.blt (KK κ (arrOf z) lo) (KK κ (arrOf z) (lo+n-1))
    . have:=hs 0 (n-1) () ();rw[show lo+(n-1)=lo+n-1 by omega]at this;show absurd (KeyOrd.kle_antisymm this F) (D.ne h0 hd () ())
    . rfl
   rw[this];simp only[if_true];show wpS_pure (h n _ D sM om hs)
 rw[aE z_];obtain rfl:n=1:=()
 show wpS_bind (wpS_lift (wpAny_rule #[O,?_]));show wpS_bind (wpS_mono (wpS_forRange (I:=λx c q=>q=z/\c=(J,x,0)/\∀i j,i<=j->j<x->κ.kle (KK κ (arrOf z) (lo+j)) (KK κ (arrOf z) (lo+i)))
  (Q:=λc q=>q=z/\∃n,c=(J,n,0)/\1<=n/\n<=nrem/\∀i j,i<=j->j<n->κ.kle (KK κ (arrOf z) (lo+j)) (KK κ (arrOf z) (lo+i))) ?_ ?_ #[O,O,?_]) ?_)
 . intro x c q W zD q0;let(rfl,rfl,hs):=q0;dsimp only;show wpS_bind (ud hO h0 D () () ?_);cases F:κ.blt (KK κ (arrOf q) (lo+x)) (KK κ (arrOf q) (lo+x-1))
   . simp only[e_,if_false];show wpS_bind (ud hO h0 D () () ?_);have:κ.blt (KK κ (arrOf q) (lo+x-1)) (KK κ (arrOf q) (lo+x))=G:=by
      cases hc:κ.blt (KK κ (arrOf q) (lo+x-1)) (KK κ (arrOf q) (lo+x))
      . show absurd (KeyOrd.kle_antisymm F hc) (D.ne h0 hd () ())
      . rfl
     rw[this];simp only[if_true];show wpS_pure #[O,x,O,(),(),hs]
   . simp only[if_true];rw[aE ()];show wpS_pure #[O,O,λi j N hj=>?_];by_cases MW:j<x
     . show hs i j N MW
     . have MX:j=x:=()
       subst MX;by_cases h_:i=j
       . subst h_;show KeyOrd.kle_refl _
       . have:=hs i (j-1) () ();rw[show lo+(j-1)=lo+j-1 by omega]at this;show KeyOrd.kle_trans (KeyOrd.kle_of_klt F) this
 . intro c q q0;let(rfl,rfl,hs):=q0;rw[show max (1+1) nrem=nrem by omega]at hs ⊢;show#[O,nrem,O,h1,bv _,hs]
 . intro i j N hj;by_cases h_:i=j
   . subst h_;show KeyOrd.kle_refl _
   . obtain rfl:i=0:=()
     obtain rfl:j=1:=()
     show KeyOrd.kle_of_klt i6
 intro c q q0;let(rfl,n,rfl,sM,om,hs):=q0;dsimp only;rw[aE ()];have fF:lo+n<=(arrOf q).size:=by rw[D.size];lia
 show wpS_bind (wpS_reverse ?_);have Ap:SB kd a₀ p lo xs (setArr q (mirror (arrOf q) lo (lo+n) ((lo+n-lo)/2))):=D.setA (mirror_perm _ _ _ _) λi hi=>by rw[getElem?_mirror_all fF,aE ()]
 have hU:Sg κ (arrOf (setArr q (mirror (arrOf q) lo (lo+n) ((lo+n-lo)/2)))) lo n:=λi j N hj=>by show κ.kle (KK κ (mirror (arrOf q) lo (lo+n) ((lo+n-lo)/2)) _) (KK κ (mirror (arrOf q) lo (lo+n) ((lo+n-lo)/2)) _);rw[KK_mirror fF,KK_mirror fF,av (),av ()];have:=hs (n-1-j) (n-1-i) () ();rw[show lo+(lo+n)-1-(lo+i)=lo+(n-1-i) by lia,show lo+(lo+n)-1-(lo+j)=lo+(n-1-j) by omega];show this
 generalize setArr q (mirror (arrOf q) lo (lo+n) ((lo+n-lo)/2))=kr at *;show wpS_bind (wpS_mono (wpS_forRange (I:=λx c z=>z=kr/\c=(J,x)/\Sg κ (arrOf kr) lo x)
  (Q:=λc z=>z=kr/\∃n,c=(J,n)/\1<=n/\n<=nrem/\Sg κ (arrOf kr) lo n) ?_ ?_
  #[O,O,hU]) ?_)
 . intro x c z W zD q0;let(rfl,rfl,hs):=q0;dsimp only;show wpS_bind (ud hO h0 Ap () () ?_);cases F:κ.blt (KK κ (arrOf z) (lo+x)) (KK κ (arrOf z) (lo+x-1))
   . simp only[e_,if_false];show wpS_pure #[O,O,hs.snoc () F]
   . simp only[if_true];show wpS_pure #[O,x,O,(),(),hs]
 . intro c z q0;let(rfl,rfl,hs):=q0;rw[show max n nrem=nrem by omega]at hs ⊢;show#[O,nrem,O,h1,bv _,hs]
 intro c z q0;let(rfl,m,rfl,sP,As,hs):=q0;show wpS_pure (h m _ Ap sP As hs)
def Wo(hO:qd κ kd prog w A s)(h0:KeysOf κ a₀){n ok:Nat}{Q:Bool->SortSt->Prop}(hn:lo+n<=a₀.size)(hok:ok<=n)(hB:SB kd a₀ p lo xs st)(hs:Sg κ (arrOf st) lo ok)
 (h:∀q,SB kd a₀ p lo xs q->Sg κ (arrOf q) lo n->Q G q):wpS (model prog w) A E s (binarySort' lo n ok) Q st:=by
 rw[binarySort'_eq];show wpS_bind (wpS_mono (wpS_forRange (I:=λk c q=>c=(J,Unit.unit)/\SB kd a₀ p lo xs q/\Sg κ (arrOf q) lo (min k n))
  (Q:=λc q=>c=(J,Unit.unit)/\SB kd a₀ p lo xs q/\Sg κ (arrOf q) lo n) ?step ?fin ?init) ?post)
 case post=>
  intro c q q0;let(rfl,F,D):=q0;show wpS_pure (h q F D)
 case init=>
  show#[O,hB,λi j kA hj=>?_];by_cases h1:ok=0
  . have:i=j:=()
    subst this;show KeyOrd.kle_refl _
  . show hs i j kA ()
 case fin=>
  intro c q q0;let(hc,F,D):=q0;show#[hc,F,?_]
  rwa [show min (max (max ok 1) n) n=n by omega]at D
 case step=>
  intro k c q hak mN q0;let(rfl,F,D):=q0;rw[show min k n=k by omega]at D;show wpS_bind (wpS_mono (wpS_forRange (I:=λx c z=>z=q/\∃l r,c=(J,l,r)/\l<=r/\r<=k/\r-l<=k-x/\
   (∀i,i<l->κ.kle (KK κ (arrOf q) (lo+i)) (KK κ (arrOf q) (lo+k)))/\(∀i,r<=i->i<k->κ.klt (KK κ (arrOf q) (lo+k)) (KK κ (arrOf q) (lo+i))))
   (Q:=λc z=>z=q/\∃l r,c=(J,l,r)/\l<=k/\
     (∀i,i<l->κ.kle (KK κ (arrOf q) (lo+i)) (KK κ (arrOf q) (lo+k)))/\(∀i,l<=i->i<k->κ.klt (KK κ (arrOf q) (lo+k)) (KK κ (arrOf q) (lo+i)))) ?istep ?ifin ?iinit) ?ipost)
  case iinit=>show⟨O,0,k,O,(),(),(),λi hi=>(),λi h1 h2=>()⟩
  case ifin=>
   intro c z q0;let(rfl,l,r,rfl,At,sQ,hm,N,W):=q0;obtain rfl:l=r:=()
   show#[O,l,l,O,sQ,N,W]
  case istep=>
   intro x c z _ hxk q0;let(rfl,l,r,rfl,At,sQ,hm,N,W):=q0;dsimp only;by_cases mP:l ≥ r
   . rw[av mP];obtain rfl:l=r:=()
     show wpS_pure #[O,l,l,O,sQ,N,W]
   . rw[aE mP];show wpS_bind (ud hO h0 F () () ?_);cases hless:κ.blt (KK κ (arrOf z) (lo+k)) (KK κ (arrOf z) (lo+(l+r)/2))
     . simp only[e_,if_false];show wpS_pure #[O,(l+r)/2+1,r,O,(),(),(),λi h1=>KeyOrd.kle_trans (D i ((l+r)/2) () ()) hless,W]
     . simp only[if_true];show wpS_pure #[O,l,(l+r)/2,O,(),(),(),N,λi h1 h2=>KeyOrd.klt_of_klt_of_kle hless (D _ _ h1 h2)]
  case ipost=>
   intro c z q0;let(rfl,l,r,rfl,hlk,N,W):=q0;show wpS _ _ _ _ (do moveDown' (lo+k) (lo+l);pure (ForInStep.yield (J,Unit.unit))) _ _;rw[moveDown'_eq];have oy:lo+k<(arrOf z).size:=by rw[F.size];lia
   show wpS_bind (wpS_modify (wpS_pure #[O,F.setA (bubble_perm _ _ _) λi hi=>?_,?_]))
   . rw[getElem?_bubble oy _ (),aE (),aE ()]
   rw[show min (k+1) n=k+1 by omega];intro i j kA hj;show κ.kle (KK κ (bubble (arrOf z) (lo+k) (lo+k-(lo+l))) (lo+i)) (KK κ (bubble (arrOf z) (lo+k) (lo+k-(lo+l))) (lo+j));rw[KK_bubble oy (),KK_bubble oy (),show lo+k-(lo+k-(lo+l))=lo+l by omega];have sb:∀i,1<=i->lo+i-1=lo+(i-1):=λi h=>()
   repeat' split
   all_goals first
    |(exfalso;lia)
    |show KeyOrd.kle_refl _
    |show N _ ()
    |(rw[sb _ (),sb _ ()];show D _ _ () ())
    |(rw[sb _ ()];show KeyOrd.kle_of_klt (W _ () ()))
    |(rw[sb _ ()];show D _ _ () ())
    |show D _ _ () ()
end
def Au:Array Keyed->Array Keyed->StateT SortSt Sem (Array Keyed):=sortPriv% PySem.Builtin.mergeLo
def AA:Array Keyed->Array Keyed->StateT SortSt Sem (Array Keyed):=sortPriv% PySem.Builtin.mergeHi
def fP[Decidable c]{st:U}(h:c)(k:wpS ZO A E s f Q st):wpS ZO A E s (if c then f else g) Q st:=by rw[av h];show k
def eZ[Decidable c]{st:U}(h:¬ c)(k:wpS ZO A E s g Q st):wpS ZO A E s (if c then f else g) Q st:=by rw[aE h];show k
def oN(I:Nat->β->U->Prop)(P:β->U->Prop){Q:γ->U->Prop}
 (z:∀B,B=f->∀i c st,a<=i->i<b->I i c st->wpS ZO A E s (B i c) (λr q=>match r with |.done D=>P D q |.yield D=>I (i+1) D q) st)
 (j:∀c st,I (max a b) c st->P c st) {st:U} (h:I a c st) (F:∀K,K=k->∀c st,P c st->wpS ZO A E s (K c) Q st):wpS ZO A E s (forIn [a:b] c f >>= k) Q st:=
 wpS_bind (wpS_mono (wpS_forRange I ∅ j h) ∅)
def o1(h:0<n)(g:n<=m):n-1<m:=()
def o2(h:1<n)(g:n<=m):n-1<m:=()
def o3(g:n<=m):n-1<=m:=()
def o4(h:1<n)(e:¬ n-1=1):1<n-1:=()
def o5(e:¬ n-1=0):0<n-1:=()
abbrev cA(st:SortSt)(g:Nat):SortSt:=SortSt.mk' (kindOf st) (arrOf st) (pendingOf st) g (failedOf st)
abbrev L7:=Option (Array Keyed)×Array Keyed×Nat×Nat×Nat×Nat×Nat
noncomputable def sR (a b:Array Keyed) (m ac bc ia:Nat) (out:Array Keyed) (ib:Nat):StateT SortSt Sem (ForInStep L7):=
 elem' a ia >>= λx=>
 if ia+1+1==a.size then pure (.done (!(out.push x++b.extract ib b.size++a.extract (ia+1) a.size),out.push x,ia+1,ib,m,ac,bc))
 else if decide (ac<7)&&decide (bc<7) then pure (.done (J,out.push x,ia+1,ib,m,ac,bc)) else pure (.yield (J,out.push x,ia+1,ib,m,ac,bc))
def sT(a b:Array Keyed)(m ac bc ib:Nat)(out:Array Keyed)(ia:Nat):StateT SortSt Sem (ForInStep L7):=
 elem' b ib >>= λx=>
 if ib+1==b.size then pure (.done (!(out.push x++a.extract ia a.size++b.extract (ib+1) b.size),out.push x,ia,ib+1,m,ac,bc))
 else
  elem' a ia >>= λy=>
  sJ G y b (ib+1) (b.size-(ib+1)) 0 >>= λk=>
  match k with
  | some k=>if k>0 then (
   if ib+1+k==b.size then pure (.done (!(out.push x++b.extract (ib+1) (ib+1+k)++a.extract ia a.size++b.extract (ib+1+k) b.size),out.push x++b.extract (ib+1) (ib+1+k),ia,ib+1+k,m,ac,k))
   else sR a b m ac k ia (out.push x++b.extract (ib+1) (ib+1+k)) (ib+1+k))
   else sR a b m ac k ia (out.push x) (ib+1)
  |_=>pure (.done (!(out.push x++a.extract ia a.size++b.extract (ib+1) b.size),out.push x,ia,ib+1,m,ac,bc))
def oz(a b out:Array Keyed)(ia ib ac bc m:Nat):StateT SortSt Sem (ForInStep L7):=
 (modify λst=>cA st m) >>= λ_=>
 elem' b ib >>= λx=>
 sJ M x a ia (a.size-ia) 0 >>= λk=>
 match k with
 | some k=>if k>0 then (
  if ia+k+1==a.size then pure (.done (!(out++a.extract ia (ia+k)++b.extract ib b.size++a.extract (ia+k) a.size),out++a.extract ia (ia+k),ia+k,ib,m,k,bc))
  else if ia+k==a.size then pure (.done (!(out++a.extract ia (ia+k)++a.extract (ia+k) a.size++b.extract ib b.size),out++a.extract ia (ia+k),ia+k,ib,m,k,bc))
  else sT a b m k bc ib (out++a.extract ia (ia+k)) (ia+k))
  else sT a b m k bc ib out ia
 |_=>pure (.done (!(out++a.extract ia a.size++b.extract ib b.size),out,ia,ib,m,ac,bc))
section
variable {κ:KeyKind}{kd:SortKind}
def KA(κ:KeyKind)(x:Keyed):κ.α:=(κ.keyOf x.1).getD κ.dflt
def mq(h:a[i]?=!x):KK κ a i=KA κ x:=by unfold KK KA;rw[h]
def SL(κ:KeyKind)(l:List Keyed):Prop:=l.Pairwise λx y=>κ.kle (KA κ x) (KA κ y)
structure MR(κ:KeyKind)(T l1 l2 o:List Keyed):Prop where
 perm:(o++(l1++l2)).Perm T
 s1:SL κ (o++l1)
 s2:SL κ (o++l2)
variable {T l1 l2 o:List Keyed}
def MR.swap(h:MR κ T l1 l2 o):MR κ T l2 l1 o:=#[((List.Perm.append_left o iO)).trans h.perm,h.s2,h.s1]
def MR.take(h:MR κ T (x++y) l2 o)(z:∀u∈x,∀v∈l2,κ.kle (KA κ u) (KA κ v)):MR κ T y l2 (o++x):=by
 let(h1,h2,q):=h;show#[by simpa using h1,by simpa [SL] using h2,?_];unfold SL at *;rw[<-cw]at h2;rw[List.pairwise_append]at *;show#[h2.1,q.2.1,λu i v j=>?_];obtain i|i:=cx.mp i
 . show q.2.2 u i v j
 . show z u i v j
def MR.fin(h:MR κ T l1 [] o):(o++l1).Perm T/\SL κ (o++l1):=#[by simpa using h.perm,h.s1]
def Ar(h:u∈(a.extract i k).toList):∃j,i<=j/\j<k/\j<a.size/\KK κ a j=KA κ u:=by
 rw[Array.toList_extract,List.extract_eq_take_drop]at h;let(j,q):=List.mem_iff_getElem?.mp h;rw[List.getElem?_take]at q;split at q
 . rw[List.getElem?_drop,Array.getElem?_toList]at q;have:=(Array.getElem?_eq_some_iff.mp q).1;show#[i+j,(),(),this,mq q]
 . cases q
def Zz(h:u∈a.toList.drop i):∃j,i<=j/\j<a.size/\KK κ a j=KA κ u:=by let(j,q):=List.mem_iff_getElem?.mp h;rw[List.getElem?_drop,Array.getElem?_toList]at q;show#[i+j,(),(Array.getElem?_eq_some_iff.mp q).1,mq q]
def zF{a:Array Keyed}(h:i<=k):a.toList.drop i=(a.extract i k).toList++a.toList.drop k:=by
 rw[Array.toList_extract,List.extract_eq_take_drop]
 conv=>lhs;rw[<-List.take_append_drop (k-i) (a.toList.drop i)]
 rw[List.drop_drop,show i+(k-i)=k by omega]
def AB{a:Array Keyed}(h:i<a.size):(a.extract i (i+1)).toList=[a[i]]:=by rw[Array.toList_extract,List.extract_eq_take_drop,kS (),show i+1-i=1 by omega];simp
abbrev RL(κ:KeyKind)(T:List Keyed)(a b out:Array Keyed)(ia ib:Nat):Prop:=MR κ T (a.toList.drop ia) (b.toList.drop ib) out.toList
variable {a b out:Array Keyed}{ia ib:Nat}
def RL.takeA(h:RL κ T a b out ia ib)(hk:ia<=k)(Q:∀i,ia<=i->i<k->i<a.size->∀j,ib<=j->j<b.size->κ.kle (KK κ a i) (KK κ b j)):RL κ T a b (out++a.extract ia k) k ib:=by unfold RL at *;rw[zF hk]at h;rw[Array.toList_append];show h.take λu N v z=>?_;let(i,h1,h2,D,e):=Ar (κ:=κ) N;let(j,q,W,F):=Zz (κ:=κ) z;rw[<-e,<-F];show Q i h1 h2 D j q W
def RL.pushA(h:RL κ T a b out ia ib)(hk:ia<a.size)(z:∀j,ib<=j->j<b.size->κ.kle (KK κ a ia) (KK κ b j)):RL κ T a b (out.push a[ia]) (ia+1) ib:=by
 have:=h.takeA (k:=ia+1) () λi h1 h2 F j D q=>(show i=ia by lia)▸z j D q;unfold RL at *;rw[Array.toList_append,AB hk]at this
 rwa [Array.toList_push]
theorem RL.swap(h:RL κ T a b out ia ib):RL κ T b a out ib ia:=MR.swap h
def Rs(κ:KeyKind)(T:List Keyed)(r:Array Keyed):Prop:=r.toList.Perm T/\SL κ r.toList
def RL.done(h:RL κ T a b out ia ib)(D:ib=b.size)(q:ia<=a.size):Rs κ T (out++a.extract ia a.size++b.extract ib b.size):=by
 subst D;have:=h.takeA q λi h1 h2 N j W Q=>()
 unfold RL at this;have e:b.toList.drop b.size=[]:=by simp
 rw[e]at this;have:=this.swap.swap.fin;have z:a.toList.drop a.size=[]:=by simp
 rw[z]at this;have F:(out++a.extract ia a.size++b.extract b.size b.size).toList=(out++a.extract ia a.size).toList++[]:=by simp
 unfold Rs;rw[F];show this
def RL.last(h:RL κ T a b out ia ib)(Q:ib<=b.size)(F:ia<=a.size)(W:∀i,ia<=i->i<a.size->∀j,ib<=j->j<b.size->κ.kle (KK κ b j) (KK κ a i)):Rs κ T (out++b.extract ib b.size++a.extract ia a.size):=by
 let h1:=(h.swap.takeA Q λi h1 h2 q j D z=>W j D z i h1 q);have:=RL.takeA (RL.swap h1) F λi h1 h2 q j D z=>()
 unfold RL at this;have e:b.toList.drop b.size=[]:=by simp
 have N:a.toList.drop a.size=[]:=by simp
 rw[e,N]at this;have:=this.fin;rw[d0]at this;show this
variable {prog:Program}{w:World}{A:Around}{E:Value->Shared->Prop}{s:Shared}{st:SortSt}
def gn(hi:i<a.size)(h:Q a[i] st):wpS (model prog w) A E s (elem' a i) Q st:=Kv (getElem?_pos a i hi) h
def km(j:KeysOf κ a)(hi:i<a.size):κ.keyOf (a[i]).1=!(KK κ a i):=by let(x,q):=j a[i] (by simp);rw[mq (getElem?_pos a i hi)];unfold KA;rw[q];rfl
def JK(q:KeysOf κ a)(i n:Nat)(h:i+n<=a.size):El κ a i n λj=>KK κ a (i+j):=λj z=>#[a[i+j],getElem?_pos a _ (),km q ()]
section
def RL.lst(z:∀i j,i<=j->j<b.size->κ.kle (KK κ b i) (KK κ b j))(h2:κ.klt (KK κ b (b.size-1)) (KK κ a (a.size-1)))(r:RL κ T a b out ia ib)(W:ia+1=a.size)(q:ib<=b.size):Rs κ T (out++b.extract ib b.size++a.extract ia a.size):=r.last q () λi D Q j N F=>by
 obtain rfl:i=a.size-1:=()
 show KeyOrd.kle_trans (z j (b.size-1) () ()) (KeyOrd.kle_of_klt h2)
def RL.psA(z:∀i j,i<=j->j<b.size->κ.kle (KK κ b i) (KK κ b j))(r:RL κ T a b out ia ib)(hi:ia<a.size)(l:ib<b.size->κ.kle (KK κ a ia) (KK κ b ib)):RL κ T a b (out.push a[ia]) (ia+1) ib:=r.pushA hi λj q D=>KeyOrd.kle_trans (l ()) (z _ _ q D)
def RL.psB(q:∀i j,i<=j->j<a.size->κ.kle (KK κ a i) (KK κ a j))(r:RL κ T a b out ia ib)(hi:ib<b.size)(l:ia<a.size->κ.kle (KK κ b ib) (KK κ a ia)):RL κ T a b (out.push b[ib]) ia (ib+1):=(r.swap.pushA hi λj z D=>KeyOrd.kle_trans (l ()) (q _ _ z D)).swap
def LQ(κ:KeyKind)(T:List Keyed)(a b:Array Keyed)(st:SortSt)(x:Nat):ForInStep L7->SortSt->Prop
 |.done c,db=>(∃g,db=cA st g)/\((∃r d,c=(!r,d)/\Rs κ T r)\/∃out ia ib m ac bc,c=(J,out,ia,ib,m,ac,bc)/\RL κ T a b out ia ib/\ia+1<a.size/\ib<b.size/\x<=ia+ib)
 |.yield c,db=>(∃g,db=cA st g)/\∃out ia ib m ac bc,c=(J,out,ia,ib,m,ac,bc)/\RL κ T a b out ia ib/\ia+1<a.size/\ib<b.size/\x<=ia+ib
def O1(D:∀i j,i<=j->j<b.size->κ.kle (KK κ b i) (KK κ b j))(h2:κ.klt (KK κ b (b.size-1)) (KK κ a (a.size-1)))(q:∃g,db=cA st g)(r:RL κ T a b out ia ib)(hi:ia+1<a.size)(F:ib<b.size)(l:κ.kle (KK κ a ia) (KK κ b ib))(N:x<=ia+1+ib):wpS (model prog w) A E s (sR a b m ac bc ia out ib) (LQ κ T a b st x) db:=by
 show wpS_bind (gn (show ia<a.size by lia) ?_);let z:=r.psA D () λ_=>l;by_cases e:ia+1+1=a.size
 . show fP ∅ ?_;show wpS_pure #[q,Zl #[_,_,O,z.lst D h2 e ()]]
 show eZ ∅ ?_;split
 . show wpS_pure #[q,YY #[_,_,_,_,_,_,O,z,(),(),()]]
 . show wpS_pure #[q,_,_,_,_,_,_,O,z,(),(),()]
def O2(sa:∀i j,i<=j->j<a.size->κ.kle (KK κ a i) (KK κ a j))(sb:∀i j,i<=j->j<b.size->κ.kle (KK κ b i) (KK κ b j))(h2:κ.klt (KK κ b (b.size-1)) (KK κ a (a.size-1)))(z:∃g,db=cA st g)(hO:qd κ kd prog w A s)(hk:kindOf db=kd)(ka:KeysOf κ a)(kb:KeysOf κ b)(r:RL κ T a b out ia ib)(hi:ia+1<a.size)(hb:ib<b.size)(l:κ.kle (KK κ b ib) (KK κ a ia))(hx:x<=ia+1+ib):wpS (model prog w) A E s (sT a b m ac bc ib out ia) (LQ κ T a b st x) db:=by
 show wpS_bind (gn hb ?_);let W:=r.psB sa hb λ_=>l;by_cases e:ib+1=b.size
 . show fP ∅ ?_;show wpS_pure #[z,Zl #[_,_,O,W.done e ()]]
 show eZ ∅ ?_;show wpS_bind (gn (show ia<a.size by lia) (wpS_bind (uc hO hk (km ka ()) (JK kb (ib+1) (b.size-(ib+1)) ()) (λi j h5 h6=>sb _ _ () ()) () λk mN h5 h6=>?_)));have Q:∀j,ib+1<=j->j<ib+1+k->κ.klt (KK κ b j) (KK κ a ia):=λj D h8=>by have:=h5 (j-(ib+1)) ();rw[show ib+1+(j-(ib+1))=j by omega]at this;show this
 have q:ib+1+k<b.size->κ.kle (KK κ a ia) (KK κ b (ib+1+k)):=λD=>h6 k () ();by_cases h0:k>0
 . show fP h0 ?_;let r3:=(W.swap.takeA () λi D h8 h9 j N F=>KeyOrd.kle_trans (KeyOrd.kle_of_klt (Q i D h8)) (sa _ _ N F)).swap;by_cases e:ib+1+k=b.size
   . show fP ∅ ?_;show wpS_pure #[z,Zl #[_,_,O,r3.done e ()]]
   show eZ ∅ ?_;show O1 sb h2 z r3 hi () (q ()) ()
 . obtain rfl:k=0:=()
   show O1 sb h2 z W hi () (q ()) ()
def ZC(W:∀i j,i<=j->j<a.size->κ.kle (KK κ a i) (KK κ a j))(N:∀i j,i<=j->j<b.size->κ.kle (KK κ b i) (KK κ b j))(h2:κ.klt (KK κ b (b.size-1)) (KK κ a (a.size-1)))(hg:∃g,db=cA st g)(hO:qd κ kd prog w A s)(hk:kindOf db=kd)(ka:KeysOf κ a)(kb:KeysOf κ b)(r:RL κ T a b out ia ib)(hi:ia+1<a.size)(Q:ib<b.size)(hx:x<=ia+1+ib):wpS (model prog w) A E s (oz a b out ia ib ac bc m) (LQ κ T a b st x) db:=by
 show wpS_bind (wpS_modify ?_);have q:∃g,cA db m=cA st g:=by let(g,rfl):=hg;show#[m,O]
 show wpS_bind (gn Q (wpS_bind (uc hO hk (km kb Q) (JK ka ia (a.size-ia) ()) (λi j h5 h6=>W _ _ () ()) () λk mN h5 h6=>?_)));have F:∀j,ia<=j->j<ia+k->κ.kle (KK κ a j) (KK κ b ib):=λj D h8=>by have:=h5 (j-ia) ();rw[show ia+(j-ia)=j by omega]at this;unfold iC at this;show(by simpa using this:κ.blt (KK κ b ib) (KK κ a j)=M)
 have i6:ia+k<a.size:=by
  obtain D|D:=Nat.lt_or_ge (ia+k) a.size
  . show D
  . have:=KeyOrd.klt_of_kle_of_klt (KeyOrd.kle_trans (F (a.size-1) () ()) (N ib (b.size-1) () ())) h2;unfold KeyOrd.klt at this;rw[KeyOrd.irrefl]at this;cases this
 have z:κ.kle (KK κ b ib) (KK κ a (ia+k)):=by have:=h6 k () ();unfold iC at this;show KeyOrd.kle_of_klt (by simpa using this:κ.blt (KK κ b ib) (KK κ a (ia+k))=G)
 by_cases h0:k>0
 . show fP h0 ?_;let r3:=r.takeA () λi D h8 h9 j kB s_=>KeyOrd.kle_trans (F i D h8) (N _ _ kB s_);by_cases e:ia+k+1=a.size
   . show fP ∅ ?_;show wpS_pure #[q,Zl #[_,_,O,r3.lst N h2 e ()]]
   show eZ ∅ (eZ ∅ ?_);show O2 W N h2 q hO hk ka kb r3 () Q z ()
 . obtain rfl:k=0:=()
   show O2 W N h2 q hO hk ka kb r hi Q z ()
end
def ZD(hO:qd κ kd prog w A s)(hk:kindOf st=kd)(ka:KeysOf κ a)(kb:KeysOf κ b)(sa:∀i j,i<=j->j<a.size->κ.kle (KK κ a i) (KK κ a j))(sb:∀i j,i<=j->j<b.size->κ.kle (KK κ b i) (KK κ b j))(ha:1<=a.size)(hb:1<=b.size)(h1:κ.klt (KK κ b 0) (KK κ a 0))(h2:κ.klt (KK κ b (b.size-1)) (KK κ a (a.size-1)))(h:∀r g,Rs κ (a.toList++b.toList) r->Q r (cA st g)):wpS (model prog w) A E s (Au a b) Q st:=by
 show wpS_bind (wpS_lift (wpAny_rule #[O,?_]));show wpS_bind (gn hb ?_);let r0:=RL.psB (out:=(List.toArray [])) sa #[List.Perm.refl _,by
  show List.pairwise_iff_getElem.mpr λi j F z N=>?_;have:=sa i j () (by simpa using z)
  rwa [mq (getElem?_pos a i (by simpa using F)),mq (getElem?_pos a j (by simpa using z))]at this,by
  show List.pairwise_iff_getElem.mpr λi j F z N=>?_;have:=sb i j () (by simpa using z)
  rwa [mq (getElem?_pos b i (by simpa using F)),mq (getElem?_pos b j (by simpa using z))]at this] hb λ_=>KeyOrd.kle_of_klt h1
 by_cases i5:1=b.size
 . show fP (by simpa using i5) ?_;show wpS_pure (h _ (gallopOf st) (r0.done i5 ()))
 show eZ (by simpa using i5) ?_;by_cases i8:0+1=a.size
 . show fP (by simpa using i8) ?_;show wpS_pure (h _ (gallopOf st) (r0.lst sb h2 i8 hb))
 show eZ (by simpa using i8) ?_;show wpS_bind (wpS_get ?_);show oN (I:=λx c q=>(∃g,q=cA st g)/\∃out ia ib m,c=(J,out,ia,ib,m)/\RL κ (a.toList++b.toList) a b out ia ib/\ia+1<a.size/\ib<b.size/\x<=ia+ib)
  (P:=λc q=>(∃g,q=cA st g)/\∃r d,c=(!r,d)/\Rs κ (a.toList++b.toList) r) ?step ?fin #[#[gallopOf st,O],_,0,1,_,O,r0,(),(),()] ?post
 case post=>
  intro K hK;intro c q q0;let((g,rfl),r,d,rfl,hr):=q0;subst hK;show wpS_pure (h r g hr)
 case fin=>
  intro c q q0;let(_,out,ia,ib,m,rfl,_,F,z,N):=q0;lia
 intro B hB;intro x c q _ hx q0;let((g,rfl),out,ia,ib,m,rfl,W,F,z,N):=q0;subst hB;show oN (I:=λy c q=>q=cA st g/\∃out ia ib D bc,c=(J,out,ia,ib,D,bc)/\RL κ (a.toList++b.toList) a b out ia ib/\ia+1<a.size/\ib<b.size/\x+y<=ia+ib)
  (P:=λc q=>q=cA st g/\((∃r d,c=(!r,d)/\Rs κ (a.toList++b.toList) r)\/∃out ia ib D bc,c=(J,out,ia,ib,D,bc)/\RL κ (a.toList++b.toList) a b out ia ib/\ia+1<a.size/\ib<b.size/\x+1<=ia+ib)) ?_ ?_ #[O,_,ia,ib,_,_,O,W,F,z,()] ?_
 . intro B hB;intro y c q _ hy q0;let(rfl,out,ia,ib,D,bc,rfl,W,F,z,N):=q0;subst hB;dsimp only;show wpS_bind (gn z (wpS_bind (gn (show ia<a.size by lia) ?_)));show wpS_bind (vR hO hk (km kb z) (km ka ()) ?_);dsimp only;cases hl:κ.blt (KK κ b ib) (KK κ a ia)
   . show eZ nE ?_;show wpS_bind (gn (show ia<a.size by lia) ?_);let r2:=W.psA sb () λ_=>hl;by_cases e:ia+1+1=a.size
     . show fP (by simpa using e) ?_;show wpS_pure #[O,Zl #[_,_,O,r2.lst sb h2 e ()]]
     show eZ (by simpa using e) ?_;split
     . show wpS_pure #[O,YY #[_,_,_,_,_,O,r2,(),(),()]]
     . show wpS_pure #[O,_,_,_,_,_,O,r2,(),(),()]
   . show fP O ?_;show wpS_bind (gn z ?_);let r2:=W.psB sa z λ_=>KeyOrd.kle_of_klt hl;by_cases e:ib+1=b.size
     . show fP (by simpa using e) ?_;show wpS_pure #[O,Zl #[_,_,O,r2.done e ()]]
     show eZ (by simpa using e) ?_;split
     . show wpS_pure #[O,YY #[_,_,_,_,_,O,r2,(),(),()]]
     . show wpS_pure #[O,_,_,_,_,_,O,r2,(),(),()]
 . intro c q q0;let(_,out,ia,ib,D,bc,rfl,_,F,z,N):=q0;exfalso;simp only[Nat.max_eq_right (d3 _)]at N;lia
 clear F z N W;intro K hK;rintro c q ⟨rfl,⟨r,d,rfl,hr⟩|⟨out,ia,ib,D,bc,rfl,W,F,z,N⟩⟩
 . subst hK;show wpS_pure #[#[g,O],r,_,O,hr]
 subst hK;dsimp only;show wpS_bind (wpS_lift (wpAny_rule #[O,?_]));show oN (I:=λy c q=>(∃g,q=cA st g)/\∃out ia ib m D bc,c=(J,out,ia,ib,m,D,bc)/\RL κ (a.toList++b.toList) a b out ia ib/\ia+1<a.size/\ib<b.size/\x+1+y<=ia+ib)
  (P:=λc q=>(∃g,q=cA st g)/\((∃r d,c=(!r,d)/\Rs κ (a.toList++b.toList) r)\/∃out ia ib m D bc,c=(J,out,ia,ib,m,D,bc)/\RL κ (a.toList++b.toList) a b out ia ib/\ia+1<a.size/\ib<b.size/\x+1<=ia+ib)) ?step2 ?fin2 #[#[g,O],_,ia,ib,_,_,_,O,W,F,z,()] ?post2
 case post2=>
  intro K hK;rintro c q ⟨⟨g,rfl⟩,⟨r,d,rfl,hr⟩|⟨out,ia,ib,m,D,bc,rfl,W,F,z,N⟩⟩
  . subst hK;show wpS_pure #[#[g,O],r,_,O,hr]
  . subst hK;show wpS_bind (wpS_modify (wpS_pure #[#[_,O],_,ia,ib,_,O,W,F,z,N]))
 case fin2=>
  intro c q q0;let(_,out,ia,ib,m,D,bc,rfl,_,F,z,N):=q0;exfalso;simp only[Nat.max_eq_right (d3 _)]at N;lia
 clear F z N W;intro B hB;intro y c q _ hy q0;let((g,rfl),out,ia,ib,m,D,bc,rfl,W,F,z,N):=q0;subst hB;show wpS (model prog w) A E s (if m>1 then oz a b out ia ib D bc (m-1) else oz a b out ia ib D bc m) _ (cA st g);have fin:∀m',wpS (model prog w) A E s (oz a b out ia ib D bc m') (LQ κ (a.toList++b.toList) a b st (x+1+(y+1))) (cA st g):=λm'=>ZC sa sb h2 #[g,O] hO hk ka kb W F z ();split<;>show wpS_mono (fin _) λr q hq=>?_
 all_goals
  cases r with
  |done c=>
   obtain⟨hg,hq|⟨out,ia,ib,m,D,bc,e,q1,q2,q3,q4⟩⟩:=hq
   . show#[hg,Zl hq]
   . show#[hg,YY #[out,ia,ib,m,D,bc,e,q1,q2,q3,()]]
  |yield c=>show hq
end
abbrev H7:=Option (Array Keyed)×Nat×Nat×Array Keyed×Nat×Nat×Nat
noncomputable def td (a b:Array Keyed) (m ac bc na nb:Nat) (out:Array Keyed):StateT SortSt Sem (ForInStep H7):=
 elem' a (na-1) >>= λx=>
 if na-1==0 then pure (.done (!(a.extract 0 (na-1)++b.extract 0 nb++(out.push x).reverse),na-1,nb,out.push x,m,ac,bc))
 else if decide (ac<7)&&decide (bc<7) then pure (.done (J,na-1,nb,out.push x,m,ac,bc)) else pure (.yield (J,na-1,nb,out.push x,m,ac,bc))
def TQ(a b:Array Keyed)(m ac bc nb na:Nat)(out:Array Keyed):StateT SortSt Sem (ForInStep H7):=
 elem' b (nb-1) >>= λx=>
 if nb-1==1 then pure (.done (!(b.extract 0 (nb-1)++a.extract 0 na++(out.push x).reverse),na,nb-1,out.push x,m,ac,bc))
 else
  elem' a (na-1) >>= λy=>
  sJ G y b 0 (nb-1) (nb-1-1) >>= λk=>
  match k with
  | some k=>if nb-1-k>0 then (
   if k==1 then pure (.done (!(b.extract 0 k++a.extract 0 na++(out.push x++(b.extract k (nb-1)).reverse).reverse),na,k,out.push x++(b.extract k (nb-1)).reverse,m,ac,nb-1-k))
   else if k==0 then pure (.done (!(a.extract 0 na++b.extract 0 k++(out.push x++(b.extract k (nb-1)).reverse).reverse),na,k,out.push x++(b.extract k (nb-1)).reverse,m,ac,nb-1-k))
   else td a b m ac (nb-1-k) na k (out.push x++(b.extract k (nb-1)).reverse))
   else td a b m ac (nb-1-k) na (nb-1) (out.push x)
  |_=>pure (.done (!(a.extract 0 na++b.extract 0 (nb-1)++(out.push x).reverse),na,nb-1,out.push x,m,ac,bc))
def oB(a b out:Array Keyed)(na nb ac bc m:Nat):StateT SortSt Sem (ForInStep H7):=
 (modify λst=>cA st m) >>= λ_=>
 elem' b (nb-1) >>= λx=>
 sJ M x a 0 na (na-1) >>= λk=>
 match k with
 | some k=>if na-k>0 then (
  if k==0 then pure (.done (!(a.extract 0 k++b.extract 0 nb++(out++(a.extract k na).reverse).reverse),k,nb,out++(a.extract k na).reverse,m,na-k,bc))
  else TQ a b m (na-k) bc nb k (out++(a.extract k na).reverse))
  else TQ a b m (na-k) bc nb na out
 |_=>pure (.done (!(a.extract 0 na++b.extract 0 nb++out.reverse),na,nb,out,m,ac,bc))
section
variable {κ:KeyKind}{kd:SortKind}
structure MH(κ:KeyKind)(T l1 l2 o:List Keyed):Prop where
 perm:(l1++l2++o).Perm T
 s1:SL κ (l1++o)
 s2:SL κ (l2++o)
variable {T l1 l2 o:List Keyed}
def MH.swap(h:MH κ T l1 l2 o):MH κ T l2 l1 o:=#[((List.Perm.append_right o iO)).trans h.perm,h.s2,h.s1]
def MH.take(h:MH κ T (y++x) l2 o)(z:∀u∈x,∀v∈l2,κ.kle (KA κ v) (KA κ u)):MH κ T y l2 (x++o):=by
 let(h1,h2,j):=h;show#[?_,by simpa [SL] using h2,?_]
 . show List.Perm.trans ?_ h1;rw[<-cw];show List.Perm.append_right o ?_;rw[cw,cw];show List.Perm.append_left y iO
 unfold SL at *;rw[cw]at h2;rw[List.pairwise_append]at *;show#[j.1,h2.2.1,λu q v i=>?_];obtain i|i:=cx.mp i
 . show z v i u q
 . show j.2.2 u q v i
def MY(h:u∈a.toList.take n):∃j,j<n/\j<a.size/\KK κ a j=KA κ u:=by
 let(j,i):=List.mem_iff_getElem?.mp h;rw[List.getElem?_take]at i;split at i
 . rw[Array.getElem?_toList]at i;show#[j,(),(Array.getElem?_eq_some_iff.mp i).1,mq i]
 . cases i
def Wq{a:Array Keyed}(h:k<=n):a.toList.take n=a.toList.take k++(a.extract k n).toList:=by
 rw[Array.toList_extract,List.extract_eq_take_drop]
 conv=>lhs;rw[show n=k+(n-k) by omega]
 show List.take_add ..
abbrev RH(κ:KeyKind)(T:List Keyed)(a b out:Array Keyed)(na nb:Nat):Prop:=MH κ T (a.toList.take na) (b.toList.take nb) out.reverse.toList
variable {a b out:Array Keyed}{na nb:Nat}
theorem RH.swap(h:RH κ T a b out na nb):RH κ T b a out nb na:=MH.swap h
def RH.takeA(h:RH κ T a b out na nb)(hk:k<=na)(Q:∀i,k<=i->i<na->i<a.size->∀j,j<nb->j<b.size->κ.kle (KK κ b j) (KK κ a i)):RH κ T a b (out++(a.extract k na).reverse) k nb:=by
 unfold RH at *;rw[Wq hk]at h;have e:(out++(a.extract k na).reverse).reverse.toList=(a.extract k na).toList++out.reverse.toList:=by simp
 rw[e];show h.take λu N v z=>?_;let(i,h1,h2,D,e):=Ar (κ:=κ) N;let(j,q,W,F):=MY (κ:=κ) z;rw[<-e,<-F];show Q i h1 h2 D j q W
def RH.pushA(h:RH κ T a b out na nb)(Q:0<na)(hk:na-1<a.size)(D:∀j,j<nb->j<b.size->κ.kle (KK κ b j) (KK κ a (na-1))):RH κ T a b (out.push a[na-1]) (na-1) nb:=by
 have:=h.takeA (k:=na-1) () λi h1 h2 N j F z=>(show i=na-1 by lia)▸D j F z;have e:(out++(a.extract (na-1) na).reverse).reverse.toList=(out.push a[na-1]).reverse.toList:=by let q:=AB hk;rw[show na-1+1=na by omega]at q;simp only[Array.reverse_reverse,Array.toList_append,q,Array.toList_reverse,Array.toList_push,List.reverse_cons,List.reverse_nil,fm]
 unfold RH at *
 rwa [e]at this
def TV(i:KeysOf κ a)(h:n<=a.size):El κ a 0 n λj=>KK κ a j:=λj q=>#[a[j],by rw[ij];show getElem?_pos a _ (),km i ()]
def Kw(a:Array Keyed):a.toList.take a.size=a.toList:=nV (by simp)
def TX(a:Array Keyed)(n:Nat):(a.extract 0 n).toList=a.toList.take n:=by simp
def RH.done(h:RH κ T a b out na nb)(i:na=0):Rs κ T (a.extract 0 na++b.extract 0 nb++out.reverse):=by subst i;unfold Rs;rw[Array.toList_append,Array.toList_append,TX,TX,List.take_zero,fm];show#[by simpa using h.perm,h.s2]
def RH.first(h:RH κ T a b out na nb)(D:∀i,i<nb->i<b.size->∀j,j<na->j<a.size->κ.kle (KK κ b i) (KK κ a j)):Rs κ T (b.extract 0 nb++a.extract 0 na++out.reverse):=by
 let h1:=h.takeA (k:=0) () λi h1 h2 q j F z=>D j F z i h2 q;have:=h1.done O;have e:(a.extract 0 0++b.extract 0 nb++(out++(a.extract 0 na).reverse).reverse).toList=(b.extract 0 nb++a.extract 0 na++out.reverse).toList:=by simp
 unfold Rs at *
 rwa [e]at this
variable {prog:Program}{w:World}{A:Around}{E:Value->Shared->Prop}{s:Shared}{st:SortSt}
section
def RH.fst(q:∀i j,i<=j->j<a.size->κ.kle (KK κ a i) (KK κ a j))(h1:κ.klt (KK κ b 0) (KK κ a 0))(r:RH κ T a b out na nb)(Q:nb<=1):Rs κ T (b.extract 0 nb++a.extract 0 na++out.reverse):=r.first λi D N j F z=>by
 obtain rfl:i=0:=()
 show KeyOrd.kle_trans (KeyOrd.kle_of_klt h1) (q 0 j () z)
def RH.psA(q:∀i j,i<=j->j<b.size->κ.kle (KK κ b i) (KK κ b j))(r:RH κ T a b out na nb)(z:0<na)(hi:na-1<a.size)(D:nb<=b.size)(l:0<nb->κ.kle (KK κ b (nb-1)) (KK κ a (na-1))):RH κ T a b (out.push a[na-1]) (na-1) nb:=r.pushA z hi λj F N=>KeyOrd.kle_trans (q j (nb-1) () ()) (l ())
def RH.psB(q:∀i j,i<=j->j<a.size->κ.kle (KK κ a i) (KK κ a j))(r:RH κ T a b out na nb)(z:0<nb)(hi:nb-1<b.size)(D:na<=a.size)(l:0<na->κ.kle (KK κ a (na-1)) (KK κ b (nb-1))):RH κ T a b (out.push b[nb-1]) na (nb-1):=(r.swap.pushA z hi λj F N=>KeyOrd.kle_trans (q j (na-1) () ()) (l ())).swap
def HQ(κ:KeyKind)(T:List Keyed)(a b:Array Keyed)(st:SortSt)(x:Nat):ForInStep H7->SortSt->Prop
 |.done c,db=>(∃g,db=cA st g)/\((∃r d,c=(!r,d)/\Rs κ T r)\/∃na nb out m ac bc,c=(J,na,nb,out,m,ac,bc)/\RH κ T a b out na nb/\0<na/\na<=a.size/\1<nb/\nb<=b.size/\na+nb+x<=a.size+b.size)
 |.yield c,db=>(∃g,db=cA st g)/\∃na nb out m ac bc,c=(J,na,nb,out,m,ac,bc)/\RH κ T a b out na nb/\0<na/\na<=a.size/\1<nb/\nb<=b.size/\na+nb+x<=a.size+b.size
def O3(W:∀i j,i<=j->j<b.size->κ.kle (KK κ b i) (KK κ b j))(D:∃g,db=cA st g)(r:RH κ T a b out na nb)(hi:0<na)(q:na<=a.size)(N:1<nb)(z:nb<=b.size)(l:κ.kle (KK κ b (nb-1)) (KK κ a (na-1)))(Q:na-1+nb+x<=a.size+b.size):wpS (model prog w) A E s (td a b m ac bc na nb out) (HQ κ T a b st x) db:=by
 show wpS_bind (gn (o1 hi q) ?_);let F:=r.psA W hi () z λ_=>l;by_cases e:na-1=0
 . show fP ∅ ?_;show wpS_pure #[D,Zl #[_,_,O,F.done e]]
 show eZ ∅ ?_;split
 . show wpS_pure #[D,YY #[_,_,_,_,_,_,O,F,o5 e,o3 q,N,z,Q]]
 . show wpS_pure #[D,_,_,_,_,_,_,O,F,o5 e,o3 q,N,z,Q]
def O7(N:∀i j,i<=j->j<a.size->κ.kle (KK κ a i) (KK κ a j))(sb:∀i j,i<=j->j<b.size->κ.kle (KK κ b i) (KK κ b j))(h1:κ.klt (KK κ b 0) (KK κ a 0))(W:∃g,db=cA st g)(hO:qd κ kd prog w A s)(hk:kindOf db=kd)(ka:KeysOf κ a)(kb:KeysOf κ b)(r:RH κ T a b out na nb)(hi:0<na)(z:na<=a.size)(hb:1<nb)(mS:nb<=b.size)(l:κ.kle (KK κ a (na-1)) (KK κ b (nb-1)))(hx:na-1+nb+x<=a.size+b.size):wpS (model prog w) A E s (TQ a b m ac bc nb na out) (HQ κ T a b st x) db:=by
 show wpS_bind (gn (o2 hb mS) ?_);let r2:=r.psB N () () z λ_=>l;by_cases e:nb-1=1
 . show fP ∅ ?_;show wpS_pure #[W,Zl #[_,_,O,r2.fst N h1 ()]]
 show eZ ∅ ?_;show wpS_bind (gn (o1 hi z) (wpS_bind (uc hO hk (km ka ()) (TV kb ()) (λi j h5 h6=>sb _ _ () ()) () λk mN h5 h6=>?_)));let Q:=λj D=>h5 j D;let F:=λj D h8=>h6 j D h8;have kC:0<k:=by
  obtain D|D:=Nat.eq_zero_or_pos k
  . let q:=F 0 () ();have:=KeyOrd.klt_of_klt_of_kle h1 (KeyOrd.kle_trans (N 0 (na-1) () ()) q);unfold KeyOrd.klt at this;rw[KeyOrd.irrefl]at this;cases this
  . show D
 by_cases h0:nb-1-k>0
 . show fP h0 ?_;let r3:=(r2.swap.takeA () λi D h8 h9 j kB s_=>KeyOrd.kle_trans (N j (na-1) () ()) (F i D h8)).swap;by_cases e:k=1
   . show fP (by simpa using e) ?_;show wpS_pure #[W,Zl #[_,_,O,r3.fst N h1 ()]]
   show eZ (by simpa using e) (eZ (by simp;lia) ?_);show O3 sb W r3 hi z () () (KeyOrd.kle_of_klt (Q (k-1) ())) ()
 . show eZ h0 ?_;show O3 sb W r2 hi z () () (KeyOrd.kle_of_klt (Q (nb-1-1) ())) ()
def ZF(N:∀i j,i<=j->j<a.size->κ.kle (KK κ a i) (KK κ a j))(sb:∀i j,i<=j->j<b.size->κ.kle (KK κ b i) (KK κ b j))(h1:κ.klt (KK κ b 0) (KK κ a 0))(hg:∃g,db=cA st g)(Q:qd κ kd prog w A s)(hk:kindOf db=kd)(ka:KeysOf κ a)(kb:KeysOf κ b)(r:RH κ T a b out na nb)(hi:0<na)(W:na<=a.size)(hb:1<nb)(q:nb<=b.size)(hx:na-1+nb+x<=a.size+b.size):wpS (model prog w) A E s (oB a b out na nb ac bc m) (HQ κ T a b st x) db:=by
 show wpS_bind (wpS_modify ?_);have z:∃g,cA db m=cA st g:=by let(g,rfl):=hg;show#[m,O]
 show wpS_bind (gn (o2 hb q) (wpS_bind (uc Q hk (km kb ()) (TV ka ()) (λi j h5 h6=>N _ _ () ()) () λk mN h5 h6=>?_)));let D:=λj F=>by have:=h5 j F;unfold iC at this;show(by simpa using this:κ.blt (KK κ b (nb-1)) (KK κ a j)=M)
 let AC:=λj F h8=>by have:=h6 j F h8;unfold iC at this;show KeyOrd.kle_of_klt (by simpa using this:κ.blt (KK κ b (nb-1)) (KK κ a j)=G)
 by_cases h0:na-k>0
 . show fP h0 ?_;let r3:=r.takeA () λi F h8 h9 j kB s_=>KeyOrd.kle_trans (sb j (nb-1) () ()) ∅;by_cases e:k=0
   . show fP ∅ ?_;show wpS_pure #[z,Zl #[_,_,O,r3.done e]]
   show eZ ∅ ?_;show O7 N sb h1 z Q hk ka kb r3 () () hb q (D (k-1) ()) ()
 . show eZ h0 ?_;show O7 N sb h1 z Q hk ka kb r hi W hb q (D (na-1) ()) ()
end
def ZJ(hO:qd κ kd prog w A s)(hk:kindOf st=kd)(ka:KeysOf κ a)(kb:KeysOf κ b)(sa:∀i j,i<=j->j<a.size->κ.kle (KK κ a i) (KK κ a j))(sb:∀i j,i<=j->j<b.size->κ.kle (KK κ b i) (KK κ b j))(ha:1<=a.size)(hb:1<=b.size)(h1:κ.klt (KK κ b 0) (KK κ a 0))(h2:κ.klt (KK κ b (b.size-1)) (KK κ a (a.size-1)))(h:∀r g,Rs κ (a.toList++b.toList) r->Q r (cA st g)):wpS (model prog w) A E s (AA a b) Q st:=by
 show wpS_bind (wpS_lift (wpAny_rule #[O,?_]));show wpS_bind (gn (show a.size-1<a.size by lia) ?_);have AG:∀{a:Array Keyed},(∀i j,i<=j->j<a.size->κ.kle (KK κ a i) (KK κ a j))->SL κ (a.toList.take a.size++((List.toArray []):Array Keyed).reverse.toList):=λ{a} sa=>by
  rw[Kw,show ((List.toArray []):Array Keyed).reverse.toList=[] by simp,d0];show List.pairwise_iff_getElem.mpr λi j F z D=>?_;have:=sa i j () (by simpa using z)
  rwa [mq (getElem?_pos a i (by simpa using F)),mq (getElem?_pos a j (by simpa using z))]at this
 let r0:=RH.psA sb #[by rw[Kw,Kw,show ((List.toArray []):Array Keyed).reverse.toList=[] by simp,d0],AG sa,AG sb] ha () (bv _) λ_=>KeyOrd.kle_of_klt h2;by_cases i8:a.size-1=0
 . show fP (by simpa using i8) ?_;show wpS_pure (h _ (gallopOf st) (r0.done i8))
 show eZ (by simpa using i8) ?_;by_cases i5:b.size=1
 . show fP (by simpa using i5) ?_;show wpS_pure (h _ (gallopOf st) (r0.fst sa h1 ()))
 show eZ (by simpa using i5) ?_;show wpS_bind (wpS_get ?_);show oN (I:=λx c q=>(∃g,q=cA st g)/\∃na nb out m,c=(J,na,nb,out,m)/\RH κ (a.toList++b.toList) a b out na nb/\0<na/\na<=a.size/\1<nb/\nb<=b.size/\na+nb+x<=a.size+b.size)
  (P:=λc q=>(∃g,q=cA st g)/\∃r d,c=(!r,d)/\Rs κ (a.toList++b.toList) r) ?step ?fin #[#[gallopOf st,O],_,_,_,_,O,r0,(),(),(),(),()] ?post
 case post=>
  intro K hK;intro c q q0;let((g,rfl),r,d,rfl,hr):=q0;subst hK;show wpS_pure (h r g hr)
 case fin=>
  intro c q q0;let(_,na,nb,out,m,rfl,_,F,z,D,N,h7):=q0;exfalso;simp only[Nat.max_eq_right (d3 _)]at h7;lia
 intro B hB;intro x c q _ hx q0;let((g,rfl),na,nb,out,m,rfl,r1,F,z,D,N,h7):=q0;subst hB;dsimp only;show oN (I:=λy c q=>q=cA st g/\∃na nb out W bc,c=(J,na,nb,out,W,bc)/\RH κ (a.toList++b.toList) a b out na nb/\0<na/\na<=a.size/\1<nb/\nb<=b.size/\na+nb+(x+y)<=a.size+b.size)
  (P:=λc q=>q=cA st g/\((∃r d,c=(!r,d)/\Rs κ (a.toList++b.toList) r)\/∃na nb out W bc,c=(J,na,nb,out,W,bc)/\RH κ (a.toList++b.toList) a b out na nb/\0<na/\na<=a.size/\1<nb/\nb<=b.size/\na+nb+(x+1)<=a.size+b.size)) ?_ ?_ #[O,_,_,_,_,_,O,r1,F,z,D,N,()] ?_
 . clear F z D N h7 r1;intro B hB;intro y c q _ hy q0;let(rfl,na,nb,out,W,bc,rfl,r1,F,z,D,N,h7):=q0;subst hB;dsimp only;show wpS_bind (gn (o2 D N) (wpS_bind (gn (o1 F z) ?_)));show wpS_bind (vR hO hk (km kb (o2 D N)) (km ka (o1 F z)) ?_);dsimp only;cases hl:κ.blt (KK κ b (nb-1)) (KK κ a (na-1))
   . show eZ nE ?_;show wpS_bind (gn (o2 D N) ?_);let r2:=r1.psB sa (Nat.lt_trans Nat.zero_lt_one D) (o2 D N) z λ_=>hl;by_cases e:nb-1=1
     . show fP (by simpa using e) ?_;show wpS_pure #[O,Zl #[_,_,O,r2.fst sa h1 ()]]
     show eZ (by simpa using e) ?_;split
     . show wpS_pure #[O,YY #[_,_,_,_,_,O,r2,F,z,o4 D e,o3 N,()]]
     . show wpS_pure #[O,_,_,_,_,_,O,r2,F,z,o4 D e,o3 N,()]
   . show fP O ?_;show wpS_bind (gn (o1 F z) ?_);let r2:=r1.psA sb F (o1 F z) N λ_=>KeyOrd.kle_of_klt hl;by_cases e:na-1=0
     . show fP (by simpa using e) ?_;show wpS_pure #[O,Zl #[_,_,O,r2.done e]]
     show eZ (by simpa using e) ?_;split
     . show wpS_pure #[O,YY #[_,_,_,_,_,O,r2,o5 e,o3 z,D,N,()]]
     . show wpS_pure #[O,_,_,_,_,_,O,r2,o5 e,o3 z,D,N,()]
 . intro c q q0;let(_,na,nb,out,W,bc,rfl,_,F,z,D,N,h7):=q0;exfalso;simp only[Nat.max_eq_right (d3 _)]at h7;lia
 clear F z D N h7 r1;intro K hK;rintro c q ⟨rfl,⟨r,d,rfl,hr⟩|⟨na,nb,out,W,bc,rfl,r1,F,z,D,N,h7⟩⟩
 . subst hK;show wpS_pure #[#[g,O],r,_,O,hr]
 subst hK;dsimp only;show wpS_bind (wpS_lift (wpAny_rule #[O,?_]));show oN (I:=λy c q=>(∃g,q=cA st g)/\∃na nb out m W bc,c=(J,na,nb,out,m,W,bc)/\RH κ (a.toList++b.toList) a b out na nb/\0<na/\na<=a.size/\1<nb/\nb<=b.size/\na+nb+(x+1+y)<=a.size+b.size)
  (P:=λc q=>(∃g,q=cA st g)/\((∃r d,c=(!r,d)/\Rs κ (a.toList++b.toList) r)\/∃na nb out m W bc,c=(J,na,nb,out,m,W,bc)/\RH κ (a.toList++b.toList) a b out na nb/\0<na/\na<=a.size/\1<nb/\nb<=b.size/\na+nb+(x+1)<=a.size+b.size)) ?step2 ?fin2 #[#[g,O],_,_,_,_,_,_,O,r1,F,z,D,N,()] ?post2
 case post2=>
  intro K hK;rintro c q ⟨⟨g,rfl⟩,⟨r,d,rfl,hr⟩|⟨na,nb,out,m,W,bc,rfl,r1,F,z,D,N,h7⟩⟩
  . subst hK;show wpS_pure #[#[g,O],r,_,O,hr]
  . subst hK;show wpS_bind (wpS_modify (wpS_pure #[#[_,O],_,_,_,_,O,r1,F,z,D,N,h7]))
 case fin2=>
  intro c q q0;let(_,na,nb,out,m,W,bc,rfl,_,F,z,D,N,h7):=q0;exfalso;simp only[Nat.max_eq_right (d3 _)]at h7;lia
 clear F z D N h7 r1;intro B hB;intro y c q _ hy q0;let((g,rfl),na,nb,out,m,W,bc,rfl,r1,F,z,D,N,h7):=q0;subst hB;show wpS (model prog w) A E s (if m>1 then oB a b out na nb W bc (m-1) else oB a b out na nb W bc m) _ (cA st g);have fin:∀m',wpS (model prog w) A E s (oB a b out na nb W bc m') (HQ κ (a.toList++b.toList) a b st (x+1+(y+1))) (cA st g):=λm'=>ZF sa sb h1 #[g,O] hO hk ka kb r1 F z D N ();split<;>show wpS_mono (fin _) λr q hq=>?_
 all_goals
  cases r with
  |done c=>
   obtain⟨hg,hq|⟨na,nb,out,m,W,bc,e,q1,q2,q3,q4,q5,q6⟩⟩:=hq
   . show#[hg,Zl hq]
   . show#[hg,YY #[na,nb,out,m,W,bc,e,q1,q2,q3,q4,q5,()]]
  |yield c=>show hq
end
def MZ(i:Nat):mergeAt' i=(do
 let s <-get
 let (!(sa,na,power),!(sb,nb,_)):=((pendingOf s)[i]?,(pendingOf s)[i+1]?) |unsupported "internal:list.sort.pending"
 set (setPending s (((pendingOf s).setIfInBounds i (sa,na+nb,power)).eraseIdxIfInBounds (i+1)))
 let some k <-sJ M (<-elem' (arrOf s) sb) (arrOf s) sa na 0 |return M
 let (sa,na):=(sa+k,na-k)
 if na==0 then return G
 let some nb <-sJ G (<-elem' (arrOf s) (sa+na-1)) (arrOf s) sb nb (nb-1) |return M
 if nb==0 then return G
 let x:_:=(arrOf s).extract sa sb
 let y:_:=(arrOf s).extract sb (sb+nb)
 let merged <-if na<=nb then Au x y else AA x y
 modify λs=>setArr s (merged.toList.zipIdx.foldl (λa (p,j)=>a.setIfInBounds (sa+j) p) (arrOf s))
 return (failedOf (<-get)).isNone):=O
def ow(xs:Array Keyed)(q n:Nat)(l:List Keyed):Array Keyed:=(l.zipIdx n).foldl (λa (p,j)=>a.setIfInBounds (q+j) p) xs
theorem Rp:∀(l:List Keyed)(xs:Array Keyed)(q n i:Nat),q+n+l.length<=xs.size->(ow xs q n l)[i]?=if q+n<=i/\i<q+n+l.length then l[i-(q+n)]? else xs[i]?
 |[]=>λxs q n i _=>by rw[aE ∅];rfl
 |x::l=>λxs q n i h=>by
  have e:ow xs q n (x::l)=ow (xs.setIfInBounds (q+n) x) q (n+1) l:=O;rw[be]at h ⊢;rw[e,Rp l _ q (n+1) i ∅];by_cases h1:q+(n+1)<=i/\i<q+(n+1)+l.length
  . rw[av h1,av (),show i-(q+n)=i-(q+(n+1))+1 by lia,List.getElem?_cons_succ]
  . rw[aE h1,Array.getElem?_setIfInBounds];by_cases h2:q+n=i
    . subst h2;rw[av O,av (),av (),gz,List.getElem?_cons_zero]
    . rw[aE h2,aE ()]
def ZK(l:List Keyed)(xs:Array Keyed)(q:Nat)(h:q+l.length<=xs.size):(ow xs q 0 l).toList=xs.toList.take q++(l++xs.toList.drop (q+l.length)):=by
 show List.ext_getElem? λi=>?_;rw[Array.getElem?_toList,Rp l xs q 0 i (),Nat.add_zero];obtain h1|h1:=Nat.lt_or_ge i q
 . rw[aE (),hE (by simp;lia),List.getElem?_take_of_lt h1,Array.getElem?_toList]
 rw[fy (by simp;lia)];have e:(xs.toList.take q).length=q:=by simp;lia
 rw[e];obtain h2|h2:=Nat.lt_or_ge (i-q) l.length
 . rw[av (),hE h2]
 . rw[aE (),fy h2,List.getElem?_drop,show q+l.length+(i-q-l.length)=i by lia,Array.getElem?_toList]
def Sq(κ:KeyKind)(xs:Array Keyed)(lo hi:Nat):Prop:=∀i j,lo<=i->i<=j->j<hi->κ.kle (KK κ xs i) (KK κ xs j)
section
variable {prog:Program}{w:World}{A:Around}{E:Value->Shared->Prop}{s:Shared}{κ:KeyKind}{kd:SortKind}{a₀ xs₀:Array Keyed}{p:Array (Nat×Nat×Nat)}{lo:Nat}{st:SortSt}
def Sg.sq(h:Sg κ xs lo n):Sq κ xs lo (lo+n):=λi j h1 h2 q=>by
 have:=h (i-lo) (j-lo) () ()
 rwa [show lo+(i-lo)=i by lia,show lo+(j-lo)=j by omega]at this
def Sq.congr(h:Sq κ xs lo hi)(e:∀i,lo<=i->i<hi->ys[i]?=xs[i]?):Sq κ ys lo hi:=λi j h1 h2 q=>by rw[KK_congr (e i h1 ()),KK_congr (e j () q)];show h i j h1 h2 q
def ZL(h:Q #[] x):wpS (model prog w) A E s (set x:StateT SortSt Sem PUnit) Q st:=by unfold wpS;rw[StateT.run_set];show ay #[O,h]
def rN(h:i+j<k)(hk:k<=xs.size):KK κ (xs.extract i k) j=KK κ xs (i+j):=KK_congr (by rw[Array.getElem?_extract,av ()])
def ZM(hO:qd κ kd prog w A s)(h0:KeysOf κ a₀)(D:SB kd a₀ p 0 xs₀ st)(e1:p[i]?=!(sa,na,pw))(e2:p[i+1]?=!(sa+na,nb,M1))(hna:1<=na)(oC:1<=nb)(fF:sa+na+nb<=a₀.size)(s1:Sq κ (arrOf st) sa (sa+na))(s2:Sq κ (arrOf st) (sa+na) (sa+na+nb))
 (h:∀db,SB kd a₀ ((p.setIfInBounds i (sa,na+nb,pw)).eraseIdxIfInBounds (i+1)) 0 xs₀ db->(∀j,j<sa\/sa+na+nb<=j->(arrOf db)[j]?=(arrOf st)[j]?)->Sq κ (arrOf db) sa (sa+na+nb)->Q G db):wpS (model prog w) A E s (mergeAt' i) Q st:=by
 rw[MZ]
 show wpS_bind (wpS_get ?_)
 rw[D.pend,e1,e2]
 dsimp only
 show wpS_bind (ZL ?_)
 have hS:SB kd a₀ ((p.setIfInBounds i (sa,na+nb,pw)).eraseIdxIfInBounds (i+1)) 0 xs₀ (setPending st ((p.setIfInBounds i (sa,na+nb,pw)).eraseIdxIfInBounds (i+1))):=#[D.perm,D.kind,D.failed,O,λ_ hi=>absurd hi (Nat.not_lt_zero _)]
 let hsiz:=D.size
 let kx:=λq hq=>h0 q ((Array.perm_iff_toList_perm.mp D.perm).mem_iff.mp hq)
 generalize hp:(p.setIfInBounds i (sa,na+nb,pw)).eraseIdxIfInBounds (i+1)=p' at *
 have fin:κ.kle (KK κ (arrOf st) (sa+na-1)) (KK κ (arrOf st) (sa+na))->Sq κ (arrOf st) sa (sa+na+nb):=λhl i j h1 h2 h3=>by
  obtain h4|h4:=Nat.lt_or_ge j (sa+na)
  . show s1 i j h1 h2 h4
  obtain h5|h5:=Nat.lt_or_ge i (sa+na)
  . show KeyOrd.kle_trans (s1 i (sa+na-1) h1 () ()) (KeyOrd.kle_trans hl (s2 _ j () h4 h3))
  . show s2 i j h5 h2 h3
 generalize tf:arrOf st=xs at *
 let ea:=tf
 let hQ:=λq=>h _ hS (λj _=>by rw[ea]) (by rw[ea];show q)
 show wpS_bind (gn (show sa+na<xs.size by lia) ?_)
 show wpS_bind (uc hO D.kind (km kx ()) (JK kx sa na ()) (λi j h5 h6=>s1 _ _ () () ()) () λk mN h5 h6=>?_)
 dsimp only
 have AH:∀j,sa<=j->j<sa+k->κ.kle (KK κ xs j) (KK κ xs (sa+na)):=λj h7 h8=>by
  have:=h5 (j-sa) ()
  rw[show sa+(j-sa)=j by omega]at this
  unfold iC at this
  show(by simpa using this:κ.blt (KK κ xs (sa+na)) (KK κ xs j)=M)
 have AC:∀j,sa+k<=j->j<sa+na->κ.klt (KK κ xs (sa+na)) (KK κ xs j):=λj h7 h8=>by
  have:=h6 (j-sa) () ()
  rw[show sa+(j-sa)=j by omega]at this
  unfold iC at this
  show(by simpa using this:κ.blt (KK κ xs (sa+na)) (KK κ xs j)=G)
 by_cases kC:na-k=0
 . rw[av (by simpa using kC)]
   show wpS_pure (hQ (fin (AH _ () ())))
 rw[aE (by simpa using kC)]
 rw[show sa+k+(na-k)-1=sa+na-1 by omega]
 show wpS_bind (gn (show sa+na-1<xs.size by lia) ?_)
 show wpS_bind (uc hO D.kind (km kx ()) (JK kx (sa+na) nb ()) (λi j h5 h6=>s2 _ _ () () ()) () λm hmn h7 h8=>?_)
 dsimp only
 let M2:=λj h9 kB=>by
  have:=h7 (j-(sa+na)) ()
  rwa [show sa+na+(j-(sa+na))=j by omega]at this
 have AI:∀j,sa+na+m<=j->j<sa+na+nb->κ.kle (KK κ xs (sa+na-1)) (KK κ xs j):=λj h9 kB=>by
  have:=h8 (j-(sa+na)) () ()
  rwa [show sa+na+(j-(sa+na))=j by omega]at this
 by_cases AJ:m=0
 . rw[av (by simpa using AJ)]
   show wpS_pure (hQ (fin (AI _ () ())))
 rw[aE (by simpa using AJ)]
 have zx:(xs.extract (sa+k) (sa+na)).size=na-k:=by rw[Array.size_extract];lia
 have zy:(xs.extract (sa+na) (sa+na+m)).size=m:=by rw[Array.size_extract];lia
 have key:∀r g,Rs κ ((xs.extract (sa+k) (sa+na)).toList++(xs.extract (sa+na) (sa+na+m)).toList) r->wpS (model prog w) A E s (do
  modify λs=>setArr s (r.toList.zipIdx.foldl (λa (p,j)=>a.setIfInBounds (sa+k+j) p) (arrOf s))
  return (failedOf (<-get)).isNone) Q (cA (setPending st p') g):=λr g hr=>by
  show wpS_bind (wpS_modify (wpS_bind (wpS_get (wpS_pure ?_))))
  have hl:r.toList.length=na-k+m:=by rw[hr.1.length_eq,bS,fz,fz,zx,zy]
  have ox:sa+k+r.toList.length=sa+na+m:=()
  have eo:r.toList.zipIdx.foldl (λa (p,j)=>a.setIfInBounds (sa+k+j) p) xs=ow xs (sa+k) 0 r.toList:=O
  show Q (failedOf st).isNone (setArr (cA (setPending st p') g) (r.toList.zipIdx.foldl (λa (p,j)=>a.setIfInBounds (sa+k+j) p) (arrOf st)))
  rw[tf,eo,D.failed]
  have oa:∀j,(ow xs (sa+k) 0 r.toList)[j]?=if sa+k<=j/\j<sa+na+m then r.toList[j-(sa+k)]? else xs[j]?:=λj=>by rw[Rp _ _ _ _ _ (),Nat.add_zero,ox]
  show h _ #[?_,D.kind,D.failed,O,λ_ hi=>absurd hi (Nat.not_lt_zero _)] (λj hj=>?_) ?_
  . show (ow xs (sa+k) 0 r.toList).Perm a₀
    show Array.Perm.trans (Array.perm_iff_toList_perm.mpr ?_) D.perm
    rw[tf,ZK _ _ _ (),ox]
    have e3:xs.toList=xs.toList.take (sa+k)++((xs.extract (sa+k) (sa+na)).toList++(xs.extract (sa+na) (sa+na+m)).toList++xs.toList.drop (sa+na+m)):=by
     conv=>lhs;rw[<-List.take_append_drop (sa+k) xs.toList,zF (show sa+k<=sa+na by lia),zF (show sa+na<=sa+na+m by lia)]
     rw[cw]
    conv=>rhs;rw[e3]
    show List.Perm.append_left _ (List.Perm.append_right _ hr.1)
  . show (ow xs (sa+k) 0 r.toList)[j]?=_
    rw[oa,aE ()]
  . show Sq κ (ow xs (sa+k) 0 r.toList) sa (sa+na+nb)
    have ko:∀j,sa<=j->j<sa+k\/sa+na+m<=j->KK κ (ow xs (sa+k) 0 r.toList) j=KK κ xs j:=λj _ hj=>KK_congr (by rw[oa,aE ()])
    have ki:∀j,sa+k<=j->j<sa+na+m->∃q,sa+k<=q/\q<sa+na+m/\KK κ (ow xs (sa+k) 0 r.toList) j=KK κ xs q:=λj h9 kB=>by
     have hj:j-(sa+k)<r.toList.length:=()
     have e4:(ow xs (sa+k) 0 r.toList)[j]?=!(r.toList[j-(sa+k)]):=by rw[oa,av #[h9,kB],et hj]
     rw[mq e4]
     obtain q|q:=cx.mp (hr.1.mem_iff.mp (List.getElem_mem hj))
     . let(z,z1,z2,z3,z4):=Ar (κ:=κ) q
       show#[z,z1,(),z4.symm]
     . let(z,z1,z2,z3,z4):=Ar (κ:=κ) q
       show#[z,(),z2,z4.symm]
    have lowU:∀i q,sa<=i->i<sa+k->sa+k<=q->q<sa+na+nb->κ.kle (KK κ xs i) (KK κ xs q):=λi q F N q3 q4=>by
     obtain W|W:=Nat.lt_or_ge q (sa+na)
     . show s1 i q F () W
     . show KeyOrd.kle_trans (AH i F N) (s2 _ q (bv _) W q4)
    have TQ:∀q j,sa<=q->q<sa+na+m->sa+na+m<=j->j<sa+na+nb->κ.kle (KK κ xs q) (KK κ xs j):=λq j F N q3 q4=>by
     obtain W|W:=Nat.lt_or_ge q (sa+na)
     . show KeyOrd.kle_trans (s1 q (sa+na-1) F () ()) (AI j q3 q4)
     . show s2 q j W () q4
    intro i j F N q3
    by_cases ci:i<sa+k
    . rw[ko i F (Zl ci)]
      by_cases cj:j<sa+k
      . rw[ko j () (Zl cj)];show s1 i j F N ()
      by_cases AK:j<sa+na+m
      . let(q,W,q6,q7):=ki j () AK
        rw[q7];show lowU i q F ci W ()
      . rw[ko j () (YY ())];show lowU i j F ci () q3
    by_cases M_:i<sa+na+m
    . by_cases AK:j<sa+na+m
      . by_cases cc:i=j
        . subst cc;show KeyOrd.kle_refl _
        have hi:i-(sa+k)<r.toList.length:=()
        have hj:j-(sa+k)<r.toList.length:=()
        rw[mq (show (ow xs (sa+k) 0 r.toList)[i]?=some (r.toList[i-(sa+k)]) by rw[oa,av (),et hi]),mq (show (ow xs (sa+k) 0 r.toList)[j]?=some (r.toList[j-(sa+k)]) by rw[oa,av (),et hj])]
        show List.pairwise_iff_getElem.mp hr.2 _ _ hi hj ()
      . let(q,W,q6,q7):=ki i () M_
        rw[q7,ko j () (YY ())];show TQ q j () q6 () q3
    . rw[ko i F (YY ()),ko j () (YY ())]
      show s2 i j () N q3
 have xk:KeysOf κ (xs.extract (sa+k) (sa+na)):=λq hq=>kx q (by
  rw[Array.toList_extract,List.extract_eq_take_drop]at hq
  show List.mem_of_mem_drop (List.mem_of_mem_take hq))
 have yk:KeysOf κ (xs.extract (sa+na) (sa+na+m)):=λq hq=>kx q (by
  rw[Array.toList_extract,List.extract_eq_take_drop]at hq
  show List.mem_of_mem_drop (List.mem_of_mem_take hq))
 have sx:∀i j,i<=j->j<(xs.extract (sa+k) (sa+na)).size->κ.kle (KK κ (xs.extract (sa+k) (sa+na)) i) (KK κ (xs.extract (sa+k) (sa+na)) j):=λi j F N=>by
  rw[zx]at N
  rw[rN () (),rN () ()]
  show s1 _ _ () () ()
 have sy:∀i j,i<=j->j<(xs.extract (sa+na) (sa+na+m)).size->κ.kle (KK κ (xs.extract (sa+na) (sa+na+m)) i) (KK κ (xs.extract (sa+na) (sa+na+m)) j):=λi j F N=>by
  rw[zy]at N
  rw[rN () (),rN () ()]
  show s2 _ _ () () ()
 have c1:κ.klt (KK κ (xs.extract (sa+na) (sa+na+m)) 0) (KK κ (xs.extract (sa+k) (sa+na)) 0):=by
  rw[rN () (),rN () ()]
  show AC _ () ()
 have c2:κ.klt (KK κ (xs.extract (sa+na) (sa+na+m)) ((xs.extract (sa+na) (sa+na+m)).size-1)) (KK κ (xs.extract (sa+k) (sa+na)) ((xs.extract (sa+k) (sa+na)).size-1)):=by
  rw[zx,zy,rN () (),rN () (),show sa+k+(na-k-1)=sa+na-1 by omega]
  show M2 _ () ()
 split
 . show wpS_bind (ZD hO D.kind xk yk sx sy () () c1 c2 key)
 . show wpS_bind (ZJ hO D.kind xk yk sx sy () () c1 c2 key)
end
def rs(p:Array (Nat×Nat×Nat)):List (Nat×Nat):=p.toList.map λr=>(r.1,r.2.1)
def dQ(κ:KeyKind)(xs:Array Keyed):Nat->List (Nat×Nat)->Nat->Prop
 |a,[],c=>a=c
 |a,r::l,c=>r.1=a/\1<=r.2/\Sq κ xs a (a+r.2)/\dQ κ xs (a+r.2) l c
section
variable {κ:KeyKind}{kd:SortKind}{xs ys:Array Keyed}
theorem dQ.le:∀{l:List (Nat×Nat)}{a c:Nat},dQ κ xs a l c->a+l.length<=c
 |[],_,_,h=>Nat.le_of_eq h
 |r::l,a,c,#[_,h1,_,h2]=>by have:=h2.le;rw[be];lia
theorem dQ.congr:∀{l:List (Nat×Nat)}{a c:Nat},dQ κ xs a l c->(∀i,a<=i->i<c->ys[i]?=xs[i]?)->dQ κ ys a l c
 |[],_,_,h,_=>h
 |r::l,a,c,#[D,h1,h2,j],e=>#[D,h1,h2.congr λi z q=>e i z (by have:=j.le;lia),j.congr λi z q=>e i () q]
theorem dQ.app:∀{l m:List (Nat×Nat)}{a c:Nat},dQ κ xs a (l++m) c ↔ ∃b,dQ κ xs a l b/\dQ κ xs b m c
 |[],m,a,c=>#[λh=>#[a,O,h],λ⟨b,h1,h2⟩=>by obtain rfl:a=b:=h1;show h2]
 |r::l,m,a,c=>#[λ⟨h0,h1,h2,h3⟩=>by let(b,i,j):=dQ.app.mp h3;show#[b,#[h0,h1,h2,i],j],λ⟨b,⟨h0,h1,h2,h3⟩,i⟩=>#[h0,h1,h2,dQ.app.mpr #[b,h3,i]]]
def ZP{p:Array (Nat×Nat×Nat)}(h:i+1<p.size):∃l x y m,p.toList=l++x::y::m/\l.length=i/\p[i]?=!x/\p[i+1]?=!y/\∀z,((p.setIfInBounds i z).eraseIdxIfInBounds (i+1)).toList=l++z::m:=by
 have q:p.toList.length=p.size:=by simp
 have e:p.toList=p.toList.take i++p[i]::p[i+1]::p.toList.drop (i+2):=by
  conv=>lhs;rw[<-List.take_append_drop i p.toList,kS (),kS (show i+1<p.toList.length by lia)]
  rfl
 have j:(p.toList.take i).length=i:=by rw[ii];lia
 show#[p.toList.take i,p[i],p[i+1],p.toList.drop (i+2),e,j,getElem?_pos p i (),getElem?_pos p (i+1) h,λz=>?_];rw[Array.toList_eraseIdxIfInBounds,Array.toList_setIfInBounds]
 conv=>lhs;rw[e]
 rw[List.set_append_right _ _ (),j,gz,List.set_cons_zero,List.eraseIdx_append_of_length_le (),j,show i+1-i=1 by omega];rfl
def TY(p:Array (Nat×Nat×Nat))(i q:Nat):rs (p.modify i λx=>(x.1,x.2.1,q))=rs p:=by
 unfold rs;show List.ext_getElem? λj=>?_;rw[c8,c8,Array.getElem?_toList,Array.getElem?_toList,Array.getElem?_modify];split
 . subst_vars;cases p[j]?<;>rfl
 . rfl
def ZQ(p:Array (Nat×Nat×Nat))(x:Nat×Nat×Nat):rs (p.push x)=rs p++[(x.1,x.2.1)]:=by unfold rs;rw[Array.toList_push,cy];rfl
def T3(p:Array (Nat×Nat×Nat)):(rs p).length=p.size:=by simp[rs]
variable {prog:Program}{w:World}{A:Around}{E:Value->Shared->Prop}{s:Shared}{a₀:Array Keyed}{st:SortSt}
structure SR(kd:SortKind)(κ:KeyKind)(a₀:Array Keyed)(lo n:Nat)(st:SortSt):Prop where
 perm:(arrOf st).Perm a₀
 kind:kindOf st=kd
 failed:failedOf st=none
 runs:dQ κ (arrOf st) 0 (rs (pendingOf st)) lo
 hi:lo+n<=a₀.size
 nxt:Sq κ (arrOf st) lo (lo+n)
def T4(hO:qd κ kd prog w A s)(h0:KeysOf κ a₀){i lo n:Nat}(q:SR kd κ a₀ lo n st)(hi:i+1<(pendingOf st).size)(h:∀j,SR kd κ a₀ lo n j->(pendingOf j).size+1=(pendingOf st).size->Q G j):wpS (model prog w) A E s (mergeAt' i) Q st:=by
 let(l,(z,na,pw),(sb,nb,M1),m,ep,el,e1,e2,ez):=ZP hi;let N:=q.runs;unfold rs at N;rw[ep,cy]at N;let(b,q1,q2):=dQ.app.mp N;obtain⟨h1,h2,h3,h4,h5,h6,h7⟩:z=b/\1<=na/\Sq κ (arrOf st) b (b+na)/\sb=b+na/\1<=nb/\Sq κ (arrOf st) (b+na) (b+na+nb)/\dQ κ (arrOf st) (b+na+nb) (m.map λ(r:Nat×Nat×Nat)=>(r.1,r.2.1)) lo:=q2;subst h1;subst h4;let Na:=h7.le;have:=q.hi;show ZM (xs₀:=(List.toArray [])) hO h0 #[q.perm,q.kind,q.failed,O,λ_ hi=>absurd hi ()] e1 e2 h2 h5 () h3 h6 λj D hk hq=>h j #[D.perm,D.kind,D.failed,?_,q.hi,q.nxt.congr λi F W=>hk i (YY ())] ?_
 . unfold rs;rw[D.pend,ez,cy];show dQ.app.mpr #[z,q1.congr λi F W=>hk i (Zl W),O,(by omega:1<=na+nb),(show z+(na+nb)=z+na+nb by lia)▸hq,(show z+(na+nb)=z+na+nb by lia)▸h7.congr λi F W=>hk i (YY F)]
 . have z1:(pendingOf j).toList.length=l.length+(m.length+1):=by rw[D.pend,ez];simp
   have z2:(pendingOf st).toList.length=l.length+(m.length+2):=by rw[ep];simp
   rw[fz]at z1 z2;lia
theorem SR.push{lo n:Nat}(h:SR kd κ a₀ lo n st)(q:1<=n):SR kd κ a₀ (lo+n) 0 (setPending st ((pendingOf st).push (lo,n,0))):=#[h.perm,h.kind,h.failed,by
 rw[ZQ];show dQ.app.mpr #[lo,h.runs,O,q,h.nxt,O],h.hi,λi j h1 h2 z=>()]
def SR.mod{lo n i j:Nat}(h:SR kd κ a₀ lo n st):SR kd κ a₀ lo n (setPending st ((pendingOf st).modify i λx=>(x.1,x.2.1,j))):=#[h.perm,h.kind,h.failed,by
 rw[TY];show h.runs,h.hi,h.nxt]
def Nr(hO:qd κ kd prog w A s)(h0:KeysOf κ a₀)(hd:DK κ a₀)(N:OJ kd a₀ st)(h2:2<=a₀.size)
 (h:∀z,(arrOf z).Perm a₀->failedOf z=J->SortedToK κ (arrOf z) a₀.size->Q #[] z):wpS (model prog w) A E s sortRuns' Q st:=by
 rw[sortRuns'_eq];show wpS_bind (wpS_get ?_);dsimp only;rw[N.size];generalize minRun' a₀.size a₀.size 0=mr at *;show wpS_bind (wpS_mono (wpS_forRange
  (I:=λx c z=>∃lo,c=(J,lo)/\x<=lo/\SR kd κ a₀ lo 0 z)
  (Q:=λc z=>c=(J,a₀.size)/\SR kd κ a₀ a₀.size 0 z) ?step ?fin #[0,O,bv _,N.perm,N.kind,N.failed,by rw[N.pend];show O,(),λi j _ _ h5=>()]) ?post)
 case fin=>
  intro c z q0;let(lo,rfl,hx,D):=q0;have:=D.hi;obtain rfl:lo=a₀.size:=()
  show#[O,D]
 case post=>
  intro c z q0;let(rfl,D):=q0;show wpS_bind (wpS_mono (wpS_forRange (I:=λx c z=>c=(J,Unit.unit)/\SR kd κ a₀ a₀.size 0 z/\((pendingOf z).size+x<=a₀.size\/(pendingOf z).size<=1)) (Q:=λc z=>c=(J,Unit.unit)/\SR kd κ a₀ a₀.size 0 z/\(pendingOf z).size<=1) ?_ ?_ #[O,D,Zl ?_]) ?_)
  . intro x c z _ _ q0;let(rfl,D,W):=q0;show wpS_bind (wpS_get ?_);by_cases hc:(pendingOf z).size<=1
    . rw[av hc];show wpS_pure #[O,D,hc]
    rw[aE hc];show wpS_bind (T4 hO h0 D ?_ λip tj hz=>?_)
    . split
      all_goals
       split
       all_goals lia
    . show wpS_pure #[O,tj,()]
  . intro c z q0;let(rfl,D,W):=q0;show#[O,D,()]
  . have:=D.runs.le;rw[T3]at this;lia
  . intro c z q0;let(rfl,D,W):=q0;show wpS_pure (h _ D.perm D.failed λi j h3 h4=>?_);let hr:=D.runs;let hl:=T3 (pendingOf z)
    match hq:rs (pendingOf z),hr,hl with
    |[],hr,_=>have:0=a₀.size:=hr;lia
    |[r],hr,_=>
     let(_,_,q1,q2):=hr;let q2:=q2;rw[q2]at q1;show q1 i j () h3 h4
    |r::r'::l,_,hl=>rw[be,be]at hl;lia
 case step=>
  intro x c z _ hx q0;let(lo,rfl,hxl,D):=q0;dsimp only;by_cases mP:lo ≥ a₀.size
  . rw[av mP];have:=D.hi;obtain rfl:lo=a₀.size:=()
    show wpS_pure #[O,D]
  rw[aE mP];have Nc:SB kd a₀ (pendingOf z) lo (arrOf z) z:=#[D.perm,D.kind,D.failed,O,λ_ _=>O];show wpS_bind (Ro hO h0 hd () () Nc λm ip AL sP As AM=>?_);dsimp only;have mk:∀n F,lo+n<=a₀.size->SB kd a₀ (pendingOf z) lo (arrOf z) F->Sg κ (arrOf F) lo n->SR kd κ a₀ lo n F:=λn F W N hs=>#[N.perm,N.kind,N.failed,N.pend▸D.runs.congr λi _ hi=>N.low i hi,W,hs.sq];split
  case' isTrue=>
   show wpS_bind (wpS_lift (wpAny_rule #[O,?_]));show wpS_bind (Wo hO h0 () () AL AM λF Nd Nl=>?_);simp only[Bool.not_true,e_,if_false];let hR:=mk _ _ () Nd Nl;have W:1<=min (a₀.size-lo) mr:=()
  case' isFalse=>
   let hR:=mk _ _ () AL AM;let W:=sP
  all_goals
   show wpS_bind (wpS_get ?_);split
   . show wpS_bind (wpS_mono (wpS_forRange (I:=λ_ c z=>c=(J,Unit.unit)/\SR kd κ a₀ lo _ z) ?_ (λ_ _ q=>q) #[O,hR]) ?_)
     . intro x c z _ _ q0;let(rfl,D):=q0;show wpS_bind (wpS_get ?_);by_cases hz:(pendingOf z).size>1
       . rw[av hz,getElem?_pos (pendingOf z) ((pendingOf z).size-2) ()];dsimp only;split
         . show wpS_pure #[O,D]
         . show wpS_bind (T4 hO h0 D () λip tj _=>?_);show wpS_pure #[O,tj]
       . rw[aE hz];show wpS_pure #[O,D]
     . intro c z q0;let(rfl,D):=q0;show wpS_bind (wpS_modify (wpS_bind (wpS_modify (wpS_pure #[_,O,(),D.mod.push W]))))
   . show wpS_bind (wpS_modify (wpS_pure #[_,O,(),hR.push W]))
end
section
variable {prog:Program}
def Jl(ho:s.heap.get? a=!(seqObj "list" vs.toArray n))
 (hO:∀h',(∀b o,b≠a->s.heap.get? b=!o->h'.get? b=!o)->qd κ kd prog w A { s with heap:=h' })
 (h0:KeysOf κ (pairsOf vs)) (Nn:∀h',(∀b o,b≠a->s.heap.get? b=!o->h'.get? b=!o)->∀v₁ v₂ ax,vs=v₁::v₂::ax->∀{Q:SortKind->Shared->Prop},Q kd { s with heap:=h' }->wpAny (model prog w) A (keyKind' (v₁::v₂::ax).toArray) Q E { s with heap:=h' }) (hd:DK κ (pairsOf vs)) (h64:vs.length<100000)
 (h:∀D:SortSt,(arrOf D).Perm (pairsOf vs)->SortedToK κ (arrOf D) (pairsOf vs).size->P (.done (.ret .none)) { s with heap:=sortedHeap s.heap a vs ((arrOf D).map (·.2)) }):
 wpAny (model prog w) A (Builtin.«list.sort» #[[YV a],[]]) P E s:=by
 rw[list_sort_plain];let ha:=bX ho;show al (listItems_at ho O ?_);show al (listUpdate_at ho O ?_);obtain⟨e1,AN⟩:∃e1,(s.heap.update a (Obj.mapSeq λ_=>(List.toArray []))).get? a=!(seqObj "list" (List.toArray []) e1):=#[_,get?_update_seq ho (λ_=>(List.toArray []))];show al (seqEpoch_at AN O ?_);show al (wpAny_newTuple ?_);show al (wpAny_newList ?_);show wpAny_holding ?_;have oI:(((s.heap.update a (Obj.mapSeq λ_=>(List.toArray []))).push (seqObj "tuple" vs.toArray 0)).push (seqObj "list" (List.toArray []) 0)).get? a=!(seqObj "list" (List.toArray []) e1):=by rw[Heap.get?_push_ne _ _ _ (by rw[size_push',Heap.size_update];show c_ (gT ha)),Heap.get?_push_ne _ _ _ (by rw[Heap.size_update];show c_ ha)];show AN
 show wpAny (model prog w) A _ P E { s with heap:=((s.heap.update a (Obj.mapSeq λ_=>(List.toArray []))).push (seqObj "tuple" vs.toArray 0)).push (seqObj "list" (List.toArray []) 0) };dsimp only;have fF:vs.toArray.size=vs.length:=by simp
 let fin:=h;by_cases h2:vs.toArray.size<2
 . rw[av h2,av h2];show al (ay ?_);rw[StateT.run_pure];show al (ay ?_);dsimp only;show al (seqEpoch_at oI O ?_);show al (listUpdate_at oI O ?_ (hsz2:=by rw[Array.size_map];show (pairsOf vs).size<=_;rw[pairsOf_size,sizeLine_eq];lia));simp only[bne_self_eq_false,e_,if_false];show ay (fin (SortSt.mk' general' (vs.toArray.zip vs.toArray) (List.toArray []) 7 J) (Array.Perm.refl _) ?_);intro i j kA hj;have:i=j:=by rw[pairsOf_size]at hj;lia
   subst this;show KeyOrd.kle_refl _
 . rw[aE h2,aE h2];obtain⟨v₁,v₂,ax,rfl⟩:∃v₁ v₂ ax,vs=v₁::v₂::ax:=by
    match vs,fF,h2 with
    |[],_,h2=>simp at h2
    |[_],_,h2=>simp at h2
    |v₁::v₂::ax,_,_=>show#[v₁,v₂,ax,O]
   have AO:∀b o,b≠a->s.heap.get? b=!o->(((s.heap.update a (Obj.mapSeq λ_=>(List.toArray []))).push (seqObj "tuple" (v₁::v₂::ax).toArray 0)).push (seqObj "list" (List.toArray []) 0)).get? b=!o:=λb o hb e=>by let hl:=bX e;rw[Heap.get?_push_ne _ _ _ (by rw[size_push',Heap.size_update];show c_ (gT hl)),Heap.get?_push_ne _ _ _ (by rw[Heap.size_update];show c_ hl),Heap.get?_update_ne _ _ _ _ hb];show e
   show al (Nn _ AO _ _ _ O ?_);show al (wpAny_mono (Nr (κ:=κ) (hO _ AO)
    (Q:=λ_ D=>(arrOf D).Perm (pairsOf (v₁::v₂::ax))/\failedOf D=J/\SortedToK κ (arrOf D) (pairsOf (v₁::v₂::ax)).size)
    h0 hd #[Array.Perm.refl _,O,O,O] (by rw[pairsOf_size];simp) λD a1 a2 a3=>#[a1,a2,a3]) ?_ λ_ _ e=>e)
   rintro⟨⟨⟩,D⟩ s' ⟨rfl,hp,hf,hs⟩;dsimp only;show al (seqEpoch_at oI O ?_);show al (listUpdate_at oI O ?_ (hsz2:=by show eI (Nat.le_of_eq ((Array.size_map ..).trans (hp.size_eq.trans (pairsOf_size _)))) ?_;rw[sizeLine_eq];lia));rw[hf];simp only[bne_self_eq_false,e_,if_false];show ay (fin D hp hs)
end
noncomputable def Ci (ZO i:Nat):Nat:=(i*5+1)%ZO
def eU(ZO:Nat):Nat->Nat->Nat
 |0,i=>i
 |n+1,i=>Ci ZO (eU ZO n i)
def Av(ZO:Nat):Nat->Nat->Nat->Nat
 |0,_,acc=>acc
 |n+1,i,acc=>Av ZO n (Ci ZO i) (acc ||| 2 ^ i)
def T5(j n i:Nat):eU j (n+1) i=eU j n (Ci j i):=by
 induction n with
 |zero=>rfl
 |succ n q=>show Ci j (eU j (n+1) i)=Ci j (eU j n (Ci j i));rw[q]
theorem qy(j m i:Nat):∀n,eU j (n+m) i=eU j n (eU j m i)
 |0=>by rw[ij];rfl
 |n+1=>by rw[Nat.succ_add];show Ci j (eU j (n+m) i)=Ci j (eU j n (eU j m i));rw[qy j m i n]
theorem zG(D j:Nat):∀n i acc,(Av D n i acc).testBit j=G->acc.testBit j=G\/∃k,k<n/\eU D k i=j
 |0=>λi acc h=>Zl h
 |n+1=>λi acc h=>by
  obtain q|⟨k,hk,q⟩:=zG D j n (Ci D i) (acc ||| 2 ^ i) h
  . rw[Nat.testBit_or,Bool.or_eq_true]at q;obtain q|q:=q
    . show Zl q
    . rw[Nat.testBit_two_pow]at q;show YY #[0,Nat.succ_pos _,of_decide_eq_true q]
  . show YY #[k+1,Nat.succ_lt_succ hk,by rw[T5];show q]
def vU(ZO:Nat):Prop:=ZO=8\/ZO=32\/ZO=128\/ZO=512\/ZO=2048\/ZO=8192\/ZO=32768
def O8(h:vU ZO):Av ZO ZO 0 0=2 ^ ZO-1/\eU ZO ZO 0=0:=by rcases h with rfl|rfl|rfl|rfl|rfl|rfl|rfl<;>show#[by decide +kernel,by decide +kernel]
def Ky(h:vU ZO)(i:j<ZO):∃k,k<ZO/\eU ZO k 0=j:=by
 have q:(Av ZO ZO 0 0).testBit j=G:=by rw[(O8 h).1,Nat.testBit_two_pow_sub_one];show js i
 obtain q|q:=zG ZO j ZO 0 0 q
 . rw[Nat.zero_testBit]at q;cases q
 . show q
def Hx(h:vU ZO)(hi:i<ZO)(D:j<ZO):∃k,k<ZO/\eU ZO k i=j:=by
 let(a,F,q):=Ky h hi;let(b,N,z):=Ky h D;obtain g|g:=Nat.lt_or_ge b a
 . show#[b+ZO-a,(),?_];have e:eU ZO (b+ZO-a+a) 0=eU ZO (b+ZO-a) (eU ZO a 0):=qy ZO a 0 _;rw[q]at e;rw[<-e,Nat.sub_add_cancel (),qy,(O8 h).2,z]
 . show#[b-a,(),?_];have e:eU ZO (b-a+a) 0=eU ZO (b-a) (eU ZO a 0):=qy ZO a 0 _;rw[q]at e;rw[<-e,Nat.sub_add_cancel g,z]
def ZR(z:0<p)(i:eU ZO p s=s)(k:Nat):eU ZO (k%p) s=eU ZO k s:=by
 induction k using Nat.strongRecOn with
 |ind k j=>
  obtain c|c:=Nat.lt_or_ge k p
  . rw[Nat.mod_eq_of_lt c]
  . rw[Nat.mod_eq_sub_mod c,j (k-p) ()];let e:=qy ZO p s (k-p);rw[Nat.sub_add_cancel c,i]at e;show e.symm
theorem ZS(hi:i<ZO):∀n,eU ZO n i<ZO
 |0=>hi
 |n+1=>Nat.mod_lt _ ()
def ZV(h:vU ZO)(hi:i<ZO)(z:a<b)(F:b<ZO):eU ZO a i≠eU ZO b i:=λe=>by
 have q:eU ZO (b-a) (eU ZO a i)=eU ZO a i:=by rw[<-qy,Nat.sub_add_cancel ()];show e.symm
 have sub:List.range ZO ⊆ (List.range (b-a)).map λk=>eU ZO k (eU ZO a i):=λj D=>by let(k,_,e):=Hx h (ZS hi a) (List.mem_range.mp D);show cK.mpr #[k%(b-a),List.mem_range.mpr (Nat.mod_lt _ ()),(ZR () q k).trans e]
 have:=List.Nodup.length_le_of_subset List.nodup_range sub;simp only[bq,fR]at this;lia
def Wr{xs:Array Nat}(h:vU ZO)(hi:i<ZO)(Q:xs.size<ZO):∃k,k<=xs.size/\∀n:Nat,xs[n]?≠!(eU ZO k i):=by
 show Classical.byContradiction λz=>?_;have D:((List.range (xs.size+1)).map λk=>eU ZO k i).Nodup:=List.pairwise_map.mpr (List.Pairwise.imp_of_mem (λ_ N l=>ZV h hi l ∅) List.pairwise_lt_range);have:=List.Nodup.length_le_of_subset D λj F=>by let(k,hk,e):=cK.mp F;show Classical.byContradiction λq=>z #[k,by have:=List.mem_range.mp hk;lia -verbose,λn en=>q ?_];rw[<-e];show eR (Array.getElem?_toList.trans en)
 simp only[bq,fR,fz]at this;lia
def ap(t:SetTable)(h:Int):Nat->SetTable.Probe
 |0=>t.probeStart h
 |n+1=>t.advance (ap t h n)
theorem tK(e:t.mask=t'.mask)(h:Int):∀n,ap t h n=ap t' h n
 |0=>by show t.probeStart h=t'.probeStart h;unfold SetTable.probeStart;rw[e]
 |n+1=>by show t.advance (ap t h n)=t'.advance (ap t' h n);rw[tK e h n];unfold SetTable.advance;rw[e]
noncomputable def lp (m:Nat) (a:Nat×Nat):Nat->Nat×Nat
 |0=>a
 |n+1=>SetTable.leap m (lp m a n).1 (lp m a n).2
theorem tL(m:Nat)(a:Nat×Nat):∀n,(lp m a n).2=a.2/32 ^ n
 |0=>by show a.2=a.2/1;rw[Nat.div_one]
 |n+1=>by show (lp m a n).2/32=_;rw[tL m a n,Nat.div_div_eq_div_mul,Nat.pow_succ]
theorem Kz(m:Nat)(a:Nat×Nat)(n:Nat):∀k,lp m a (k+n)=lp m (lp m a n) k
 |0=>by rw[ij];rfl
 |k+1=>by rw[Nat.succ_add];show SetTable.leap _ _ _=SetTable.leap _ _ _;rw[Kz m a n k]
theorem KH(m i:Nat):∀k,(lp m (i,0) k).1=eU (m+1) k i
 |0=>rfl
 |k+1=>by show (((lp m (i,0) k).1*5+1+(lp m (i,0) k).2/32)%(m+1))=Ci (m+1) (eU (m+1) k i);rw[tL,KH m i k];rw[Nat.zero_div,Nat.zero_div];rfl
theorem Yr(m:Nat)(a:Nat×Nat)(h:a.1<m+1):∀n,(lp m a n).1<m+1
 |0=>h
 |n+1=>Nat.mod_lt _ ()
def O9(h:Int):SetTable.bits h<2 ^ 64:=by unfold SetTable.bits;lia
def Ws(D:vU (m+1))(h:Int)(q:j<=m):∃n,n<=m+13/\(lp m (SetTable.bits h%(m+1),SetTable.bits h) n).1=j:=by
 have z:(lp m (SetTable.bits h%(m+1),SetTable.bits h) 13).2=0:=by rw[tL];show Nat.div_eq_of_lt (eS (O9 h) ())
 have l:(lp m (SetTable.bits h%(m+1),SetTable.bits h) 13).1<m+1:=Yr m _ (Nat.mod_lt _ ()) 13;let(k,hk,e):=Hx D l (Nat.lt_succ_of_le q);show#[k+13,(),?_];rw[Kz];have i:lp m (SetTable.bits h%(m+1),SetTable.bits h) 13=((lp m (SetTable.bits h%(m+1),SetTable.bits h) 13).1,0):=by rw[<-z]
 rw[i,KH];show e
def u5(m i:Nat):i<=SetTable.runEnd m i/\SetTable.runEnd m i<=i+9/\(i<=m->SetTable.runEnd m i<=m):=by unfold SetTable.runEnd;split<;>lia
theorem xH(t:SetTable)(h:Int):∀(k r j:Nat),ap t h s=#[j,r,i,p,d]->k<=r->ap t h (s+k)=#[j+k,r-k,i,p,d]
 |0=>λr j e _=>e
 |k+1=>λr j e hk=>by let q:=xH t h k r j e ();show t.advance (ap t h (s+k))=_;rw[q];unfold SetTable.advance;rw[av (show r-k>0 by lia)];rfl
theorem Pa(t:SetTable)(h:Int):∀n,∃s,s<=10*n/\ap t h s=#[(lp t.mask (SetTable.bits h%(t.mask+1),SetTable.bits h) n).1,SetTable.runEnd t.mask (lp t.mask (SetTable.bits h%(t.mask+1),SetTable.bits h) n).1-(lp t.mask (SetTable.bits h%(t.mask+1),SetTable.bits h) n).1,(lp t.mask (SetTable.bits h%(t.mask+1),SetTable.bits h) n).1,(lp t.mask (SetTable.bits h%(t.mask+1),SetTable.bits h) n).2,J]
 |0=>#[0,bv _,O]
 |n+1=>by let(s,hs,e):=Pa t h n;have i:lp t.mask (SetTable.bits h%(t.mask+1),SetTable.bits h) (n+1)=SetTable.leap t.mask (lp t.mask (SetTable.bits h%(t.mask+1),SetTable.bits h) n).1 (lp t.mask (SetTable.bits h%(t.mask+1),SetTable.bits h) n).2:=O;rw[i];generalize lp t.mask (SetTable.bits h%(t.mask+1),SetTable.bits h) n=a at e;let q:=xH t h _ _ _ e (bv _);rw[gz]at q;let b:=(u5 t.mask a.1);show#[s+(SetTable.runEnd t.mask a.1-a.1)+1,(),?_];show t.advance _=_;rw[q];rfl
theorem xJ(t:SetTable)(h:Int):∀n,(ap t h n).dummy=J
 |0=>rfl
 |n+1=>by
  show (t.advance (ap t h n)).dummy=J;unfold SetTable.advance;split
  . show xJ t h n
  . show xJ t h n
theorem Gs(t:SetTable)(h:Int):∀n,(ap t h n).j+(ap t h n).more<=t.mask
 |0=>by have l:SetTable.bits h%(t.mask+1)<=t.mask:=Nat.le_of_lt_succ (Nat.mod_lt _ ());let b:=u5 t.mask (SetTable.bits h%(t.mask+1));show SetTable.bits h%(t.mask+1)+(SetTable.runEnd t.mask (SetTable.bits h%(t.mask+1))-SetTable.bits h%(t.mask+1))<=t.mask;lia
 |n+1=>by
  let q:=Gs t h n;show (t.advance (ap t h n)).j+(t.advance (ap t h n)).more<=t.mask;unfold SetTable.advance;split
  . show (ap t h n).j+1+((ap t h n).more-1)<=t.mask;lia
  . have l:((ap t h n).i*5+1+(ap t h n).perturb/32)%(t.mask+1)<=t.mask:=Nat.le_of_lt_succ (Nat.mod_lt _ ());let b:=u5 t.mask (((ap t h n).i*5+1+(ap t h n).perturb/32)%(t.mask+1));show ((ap t h n).i*5+1+(ap t h n).perturb/32)%(t.mask+1)+(SetTable.runEnd t.mask (((ap t h n).i*5+1+(ap t h n).perturb/32)%(t.mask+1))-((ap t h n).i*5+1+(ap t h n).perturb/32)%(t.mask+1))<=t.mask;lia
def vV(t:SetTable)(h:Int)(K:Nat):Prop:=t.slot (ap t h K).j=.empty/\∀l,l<K->t.slot (ap t h l).j≠.empty
def T6:∀{n:Nat},t.slot (ap t h n).j=.empty->∃K,K<=n/\vV t h K:=by
 intro n;induction n using Nat.strongRecOn with
 |_ n F=>
  intro e;by_cases q:∃l,l<n/\t.slot (ap t h l).j=.empty
  . let(l,i,D):=q;let(K,N,f):=F l i D;show#[K,(),f]
  . show#[n,bv _,e,λl i z=>q #[l,i,z]]
theorem Pb{hashAt:Nat->Int}{K:Nat}(nd:∀j,t.slot j≠.dummy)(f:vV t h K):∀(q k:Nat),k<=K->K-k<q->
 (∃l i,k<=l/\l<K/\t.slot (ap t h l).j=.live i/\hashAt i=h/\SetTable.probe.go t hashAt h q (ap t h k)=!(.candidate (ap t h l).j i (ap t h (l+1)))/\∀z,k<=z->z<l->∀D,t.slot (ap t h z).j=.live D->hashAt D≠h)\/
 ((∀z,k<=z->z<K->∀D,t.slot (ap t h z).j=.live D->hashAt D≠h)/\SetTable.probe.go t hashAt h q (ap t h k)=!(.empty (ap t h K).j J))
 |0=>λk _ h2=>absurd h2 ()
 |q+1=>λk h1 h2=>by
  unfold SetTable.probe.go;obtain g|g:=Nat.lt_or_ge k K
  . cases hs:t.slot (ap t h k).j with
    |empty=>show absurd hs (f.2 k g)
    |dummy=>show absurd hs (nd _)
    |live i=>
     dsimp only;by_cases N:hashAt i=h
     . rw[av ∅];show Zl #[k,i,bv _,g,hs,N,O,λz a b=>absurd b ()]
     . rw[aE ∅];obtain⟨l,D,a1,a2,a3,a4,a5,a6⟩|⟨a1,a2⟩:=Pb nd f q (k+1) g ()
       . show Zl #[l,D,(),a2,a3,a4,a5,λz b1 b2 W F=>?_];obtain c|c:=Nat.lt_or_ge k z
         . show a6 z c b2 W F
         . obtain rfl:z=k:=()
           rw[hs]at F;cases F;show N
       . show YY #[λz b1 b2 W F=>?_,a2];obtain c|c:=Nat.lt_or_ge k z
         . show a1 z c b2 W F
         . obtain rfl:z=k:=()
           rw[hs]at F;cases F;show N
  . obtain rfl:k=K:=()
    rw[f.1];rw[xJ];show YY #[λz a b=>absurd b (),O]
def Ei(xs:Array Nat):Prop:=∀a b x y:Nat,a<b->xs[a]?=!x->xs[b]?=!y->x<y
theorem CP(D:Ei xs):∀(z lo hi:Nat),lo<=hi->hi<=xs.size->hi-lo<=z->(∀i x:Nat,i<lo->xs[i]?=!x->x<j)->(∀i x:Nat,hi<=i->xs[i]?=!x->j<=x)->
 SetTable.below.go xs j z lo hi<=xs.size/\(∀i x:Nat,i<SetTable.below.go xs j z lo hi->xs[i]?=!x->x<j)/\(∀i x:Nat,SetTable.below.go xs j z lo hi<=i->xs[i]?=!x->j<=x)
 |0=>λlo hi h1 h2 h3 N F=>by
  obtain rfl:lo=hi:=()
  show#[h2,N,F]
 |z+1=>λlo hi h1 h2 h3 N F=>by
  unfold SetTable.below.go;split
  . have hm:(lo+hi)/2<xs.size:=()
    let e:=Array.getElem?_eq_getElem hm;dsimp only;rw[Array.getD_eq_getD_getElem?,e];split
    . rename_i q;show CP D z _ hi () h2 () (λi x Q ex=>?_) F;obtain c|c:=Nat.lt_or_ge i ((lo+hi)/2)
      . show Nat.lt_trans (D _ _ _ _ c ex e) q
      . obtain rfl:i=(lo+hi)/2:=()
        rw[e]at ex;cases ex;show q
    . rename_i q;let W:=xw q;show CP D z lo _ () () () N (λi x Q ex=>?_);obtain c|c:=Nat.lt_or_ge ((lo+hi)/2) i
      . show mh (n4 W (D _ _ _ _ c e ex))
      . obtain rfl:i=(lo+hi)/2:=()
        rw[e]at ex;cases ex;show W
  . obtain rfl:lo=hi:=()
    show#[h2,N,F]
def tM(q:Ei xs)(j:Nat):SetTable.below xs j<=xs.size/\(∀i x:Nat,i<SetTable.below xs j->xs[i]?=!x->x<j)/\(∀i x:Nat,SetTable.below xs j<=i->xs[i]?=!x->j<=x):=
 CP q xs.size 0 xs.size () () () (λi x h=>absurd h ()) (λi x h e=>by rw[iF h]at e;cases e)
def below_at(z:Ei xs)(e:xs[i]?=!j):SetTable.below xs j=i:=by
 let(Q,N,F):=tM z j;obtain c|c|c:=Nat.lt_trichotomy (SetTable.below xs j) i
 . let D:=Nat.lt_trans c (by obtain g|g:=Nat.lt_or_ge i xs.size;show g;rw[iF g]at e;cases e);let q:=Array.getElem?_eq_getElem D;have:=F _ _ () q;have:=z _ _ _ _ c q e;lia
 . show c
 . show absurd (N _ _ c e) ()
def zH{t:SetTable}(q:Ei t.place)(e:t.place[i]?=!j):t.slot j=.live i:=by unfold SetTable.slot;rw[below_at q e,av (by rw[e];show io _)]
def Hy{t:SetTable}(e:t.slot j=.live i):t.place[i]?=!j:=by
 unfold SetTable.slot at e;dsimp only at e;split at e
 . rename_i q;cases e;show eq_of_beq q
 . split at e<;>cases e
def Ph{t:SetTable}(i:t.dummies=(List.toArray []))(j:Nat):t.slot j≠.dummy:=by
 intro e;unfold SetTable.slot at e;dsimp only at e;split at e
 . cases e
 . split at e
   . rename_i q;rw[i]at q;unfold SetTable.has at q;cases q
   . cases e
def pB{t:SetTable}(N:Ei t.place)(Q:t.dummies=(List.toArray [])):t.slot j=.empty ↔ ∀i:Nat,t.place[i]?≠!j:=by
 constructor
 . intro e i q;rw[zH N q]at e;cases e
 . intro q;cases e:t.slot j with
   |empty=>rfl
   |dummy=>show absurd e (Ph Q j)
   |live i=>show absurd (Hy e) (q i)
def sO(xs:Array α)(p:Nat)(x:α):(SetTable.insertAt xs p x).toList=xs.toList.take p++x::xs.toList.drop p:=by unfold SetTable.insertAt;have e:List.take (xs.size-p) (List.drop p xs.toList)=List.drop p xs.toList:=nV ∅;simp[e]
def iw(xs:Array α)(z:p<=xs.size)(x:α)(i:Nat):(SetTable.insertAt xs p x)[i]?=if i<p then xs[i]? else if i=p then !x else xs[i-1]?:=by
 rw[<-Array.getElem?_toList,sO];have j:(xs.toList.take p).length=p:=by rw[ii,fz];lia
 split
 . rename_i g;rw[hE (),List.getElem?_take_of_lt g,Array.getElem?_toList]
 . rw[fy (),j];split
   . rename_i q;subst q;rw[gz];rfl
   . obtain⟨k,hk⟩:∃k,i-p=k+1:=#[i-p-1,()];rw[hk,List.getElem?_cons_succ,List.getElem?_drop,Array.getElem?_toList];congr 1;lia
def nF(xs:Array α)(p:Nat)(x:α):(SetTable.insertAt xs p x).size=xs.size+1:=by rw[<-fz,sO,bS,be,ii,k6,fz];lia
def Rq(D:Ei xs)(hj:∀i:Nat,xs[i]?≠!j):Ei (SetTable.insertAt xs (SetTable.below xs j) j):=by
 let(W,N,b3):=tM D j;intro a b x y F ex q;rw[iw xs W]at ex q;let st:=λi x h e=>Nat.lt_of_le_of_ne (b3 i x h e) λz=>hj i (z▸e);split at ex
 . rename_i Q;split at q
   . show D _ _ _ _ F ex q
   . split at q
     . cases q;show N _ _ Q ex
     . show Nat.lt_trans (N _ _ Q ex) (st _ _ () q)
 . split at ex
   . cases ex;rw[aE (),aE ()]at q;show st _ _ () q
   . rw[aE (),aE ()]at q;show D _ _ _ _ () ex q
def AQ(t:SetTable)(h:Int)(j:Nat):Prop:=∃n,(ap t h n).j=j/\∀l,l<n->t.slot (ap t h l).j≠.empty
structure rP(t:SetTable)(hs:Nat->Option Int):Prop where
 msz:vU (t.mask+1)
 nod:t.dummies=(List.toArray [])
 ris:Ei t.place
 bnd:∀i j:Nat,t.place[i]?=!j->j<=t.mask
 room:t.place.size<=t.mask
 rch:∀(i j:Nat)(h:Int),t.place[i]?=!j->hs i=!h->AQ t h j
def rP.first(T:rP t hs)(h:Int):∃K,K<10*(t.place.size+15)/\vV t h K:=by
 have z:(lp t.mask (SetTable.bits h%(t.mask+1),SetTable.bits h) 13).2=0:=by rw[tL];show Nat.div_eq_of_lt (eS (O9 h) ())
 let(k,hk,q):=Wr T.msz (Yr t.mask (SetTable.bits h%(t.mask+1),SetTable.bits h) (Nat.mod_lt _ ()) 13) (Nat.lt_succ_of_le T.room);let(s,D,e):=Pa t h (k+13);have F:(ap t h s).j=eU (t.mask+1) k (lp t.mask (SetTable.bits h%(t.mask+1),SetTable.bits h) 13).1:=by rw[e,Kz,<-KH,<-z]
 have i:t.slot (ap t h s).j=.empty:=by rw[F];show(pB T.ris T.nod).mpr q
 let(K,N,f):=T6 i;show#[K,(),f]
def rP.ahead(T:rP t hs){K i j:Nat}(f:vV t h K)(e:t.place[i]?=!j)(D:hs i=!h):∃l,l<K/\(ap t h l).j=j/\t.slot (ap t h l).j=.live i:=by
 let(n,en,q):=T.rch i j h e D;show#[n,?_,en,by rw[en];show zH T.ris e];obtain c|c:=Nat.lt_or_ge n K
 . show c
 . obtain d|d:=Nat.eq_or_lt_of_le c
   . let z:=f.1;rw[d,en,zH T.ris e]at z;cases z
   . show absurd f.1 (q K d)
def T7{t:SetTable}(q:t.dummies=(List.toArray []))(j:Nat):(t.put j).1={ t with place:=SetTable.insertAt t.place (SetTable.below t.place j) j }/\(t.put j).2=SetTable.below t.place j:=by
 unfold SetTable.put;show#[?_,O];have e:SetTable.has t.dummies j=M:=by rw[q];rfl
 rw[e];rfl
noncomputable def KJ {α:Type} (hs:Nat->Option α) (p:Nat) (h:α) (i:Nat):Option α:=if i<p then hs i else if i=p then !h else hs (i-1)
def rP.put(T:rP t hs){K:Nat}(f:vV t h K)(N:t.place.size+1<=t.mask):
 rP { t with place:=SetTable.insertAt t.place (SetTable.below t.place (ap t h K).j) (ap t h K).j } (KJ hs (SetTable.below t.place (ap t h K).j) h):=by
 let nn:=(pB T.ris T.nod).mp f.1;let(W,b2,b3):=tM T.ris (ap t h K).j;let rr:=Rq T.ris nn;have le:(ap t h K).j<=t.mask:=by have:=Gs t h K;lia
 have keep:∀(Q:SetTable),Q={ t with place:=SetTable.insertAt t.place (SetTable.below t.place (ap t h K).j) (ap t h K).j }->∀j,t.slot j≠.empty->Q.slot j≠.empty:=by
  intro Q e' j q z;subst e';let z':=(pB (t:={ t with place:=SetTable.insertAt t.place (SetTable.below t.place (ap t h K).j) (ap t h K).j }) rr T.nod).mp z;show q ((pB T.ris T.nod).mpr λi e=>?_);obtain c|c:=Nat.lt_or_ge i (SetTable.below t.place (ap t h K).j)
  . show z' i ?_;rw[iw _ W,av c];show e
  . show z' (i+1) ?_;rw[iw _ W,aE (),aE ()];show e
 show#[T.msz,T.nod,rr,λi j e=>?_,?_,λi j h' e F=>?_]
 . rw[iw _ W]at e;split at e
   . show T.bnd _ _ e
   . split at e
     . cases e;show le
     . show T.bnd _ _ e
 . rw[nF];show N
 . let rc:=λn=>tK (t:={ t with place:=SetTable.insertAt t.place (SetTable.below t.place (ap t h K).j) (ap t h K).j }) (t':=t) O h' n;have mt:AQ t h' j\/(h'=h/\j=(ap t h K).j):=by
    rw[iw _ W]at e;unfold KJ at F;split at e
    . rename_i c;rw[av c]at F;show Zl (T.rch i j h' e F)
    . rename_i c;rw[aE c]at F;split at e
      . rename_i c2;rw[av c2]at F;cases F;cases e;show YY #[O,O]
      . rename_i c2;rw[aE c2]at F;show Zl (T.rch _ j h' e F)
   obtain⟨n,en,q⟩|⟨rfl,rfl⟩:=mt
   . show#[n,by rw[rc];show en,λl hl=>by rw[rc];show keep _ O _ (q l hl)]
   . show#[K,by rw[rc],λl hl=>by rw[rc];show keep _ O _ (f.2 l hl)]
abbrev mO(m:Nat)(h:Int):Nat->Nat×Nat:=lp m (SetTable.bits h%(m+1),SetTable.bits h)
abbrev rl(m:Nat)(h:Int)(n:Nat):Nat:=SetTable.runEnd m (mO m h n).1-(mO m h n).1
def sn(m:Nat)(h:Int):Nat->Nat
 |0=>0
 |n+1=>sn m h n+rl m h n+1
theorem Pj(t:SetTable)(h:Int):∀n,ap t h (sn t.mask h n)=#[(mO t.mask h n).1,rl t.mask h n,(mO t.mask h n).1,(mO t.mask h n).2,J]
 |0=>rfl
 |n+1=>by let e:=Pj t h n;let q:=xH t h _ _ _ e (bv _);rw[gz]at q;have i:mO t.mask h (n+1)=SetTable.leap t.mask (mO t.mask h n).1 (mO t.mask h n).2:=O;show t.advance (ap t h (sn t.mask h n+rl t.mask h n))=_;rw[q];rfl
def Gu(t:SetTable)(h:Int)(hk:k<=rl t.mask h n):(ap t h (sn t.mask h n+k)).j=(mO t.mask h n).1+k:=by rw[xH t h _ _ _ (Pj t h n) hk]
abbrev Fr(ow:Array (Option Nat))(j:Nat):Prop:=(ow.getD j (!0)).isNone=G
theorem Hz(t:SetTable)(ow:Array (Option Nat))(h:Int):∀(i n:Nat),
 (∀j,SetTable.layClean.free t.mask ow i (mO t.mask h n).1 (mO t.mask h n).2=!j->∃s,sn t.mask h n<=s/\(ap t h s).j=j/\Fr ow j/\∀l,sn t.mask h n<=l->l<s->¬ Fr ow (ap t h l).j)/\
 ((∃n',n<=n'/\n'<n+i/\Fr ow (mO t.mask h n').1)->∃j,SetTable.layClean.free t.mask ow i (mO t.mask h n).1 (mO t.mask h n).2=!j)
 |0,n=>#[λj e=>by (unfold SetTable.layClean.free at e;cases e),λ⟨n',a,b,_⟩=>absurd b ()]
 |i+1,n=>by
  let Q:=Hz t ow h i (n+1);have e1:mO t.mask h (n+1)=SetTable.leap t.mask (mO t.mask h n).1 (mO t.mask h n).2:=O;let hr:=u5 t.mask (mO t.mask h n).1;unfold SetTable.layClean.free;cases F:(List.range (SetTable.runEnd t.mask (mO t.mask h n).1+1-(mO t.mask h n).1)).find? (λk=>(ow.getD ((mO t.mask h n).1+k) (!0)).isNone) with
  |some k=>
   show#[λj e=>?_,λ_=>#[_,O]];cases e;have hk:k<=rl t.mask h n:=by have:=List.mem_of_find?_eq_some F;rw[List.mem_range]at this;unfold rl;lia
   show#[sn t.mask h n+k,k_ _ _,Gu t h hk,by have:=List.find?_some F;show this,λl h1 h2=>?_];obtain⟨c,rfl⟩:∃c,l=sn t.mask h n+c:=#[l-sn t.mask h n,()];rw[Gu t h (show c<=rl t.mask h n by lia)];intro z;rw[List.find?_range_eq_some]at F;have:=F.2.2 c ();rw[z]at this;cases this
  |none=>
   have N:∀c,c<=rl t.mask h n->¬ Fr ow ((mO t.mask h n).1+c):=λc hc z=>by have:=List.find?_eq_none.mp F c ∅;show this z
   show#[λj e=>?_,λ⟨n',a,b,z⟩=>?_]
   . let(s,a1,a2,a3,a4):=Q.1 j ();have a1':sn t.mask h n+rl t.mask h n+1<=s:=a1;show#[s,(),a2,a3,λl h1 h2=>?_];obtain c|c:=Nat.lt_or_ge (sn t.mask h n+rl t.mask h n) l
     . show a4 l c h2
     . obtain⟨W,rfl⟩:∃c,l=sn t.mask h n+c:=#[l-sn t.mask h n,()];rw[Gu t h (show W<=rl t.mask h n by lia)];show N W ()
   . obtain d|d:=Nat.eq_or_lt_of_le a
     . subst d;show absurd z (by have:=N 0 ();show this)
     . let(j,q):=Q.2 #[n',d,(),z];show#[j,by rw[e1]at q;show q]
def KN{ow:Array (Option Nat)}:Fr ow j ↔ ow[j]?=!J:=by
 show (ow.getD j (!0)).isNone=G ↔ _;rw[Array.getD_eq_getD_getElem?];cases ow[j]? with
 |none=>show#[λh=>(by cases h),λh=>(by cases h)]
 |some x=>
  cases x with
  |none=>show#[λ_=>O,λ_=>O]
  |some y=>show#[λh=>(by cases h),λh=>(by cases h)]
structure OI(t:SetTable)(hs:List Int)(ow:Array (Option Nat))(k:Nat):Prop where
 size:ow.size=t.mask+1
 free:∃F:List Nat,F.Nodup/\F.length+k=t.mask+1/\∀j,j∈F ↔ ow[j]?=!none
 own:∀i,i<k->∃j:Nat,ow[j]?=!(!i)
 lt:∀(j:Nat) i,ow[j]?=!(!i)->i<k
 uni:∀(j j':Nat) i,ow[j]?=!(!i)->ow[j']?=!(!i)->j=j'
 rch:∀(j:Nat)(i:Nat) h,ow[j]?=!(!i)->hs[i]?=!h->∃n,(ap t h n).j=j/\∀l,l<n->ow[(ap t h l).j]?≠!none
def OI.start(t:SetTable)(hs:List Int):OI t hs (Array.replicate (t.mask+1) J) 0:=by
 have g:∀j,(Array.replicate (t.mask+1) (J:Option Nat))[j]?=if j<t.mask+1 then !J else J:=λj=>Array.getElem?_replicate
 show#[Array.size_replicate,#[List.range (t.mask+1),List.nodup_range,by rw[fR],λj=>?_],λi h=>absurd h (),λj i e=>?_,λj D i e=>?_,λj i h e=>?_]
 . rw[g,List.mem_range];split
   . rename_i q;show#[λ_=>O,λ_=>q]
   . rename_i q;show#[λz=>absurd z q,λz=>by cases z]
 all_goals
  rw[g]at e;split at e<;>cases e
def OI.step{ow:Array (Option Nat)}(hm:vU (t.mask+1))(D:OI t hs ow k)(hk:k<=t.mask)(hh:hs[k]?=!h):
 ∃j,SetTable.layClean.free t.mask ow (SetTable.turns t.mask) (SetTable.bits h%(t.mask+1)) (SetTable.bits h)=!j/\OI t hs (ow.setIfInBounds j (!k)) (k+1):=by
 let(F,n1,n2,n3):=D.free;obtain⟨Q,W⟩:∃j,j∈F:=by
  cases F with
  |nil=>simp at n2;lia
  |cons a F=>show#[a,bi]
 have No:Q<=t.mask:=by
  let e:=(n3 Q).mp W;have:Q<ow.size:=by
   obtain c|c:=Nat.lt_or_ge Q ow.size
   . show c
   . rw[iF c]at e;cases e
  rw[D.size]at this;lia
 let(n',lh,Nw):=Ws hm h No;let sp:=Hz t ow h (SetTable.turns t.mask) 0;let(j,ej):=sp.2 #[n',d3 _,by unfold SetTable.turns;lia,by show Fr ow (lp _ _ _).1;rw[Nw];show KN.mpr ((n3 Q).mp W)];let(s,_,r1,r2,r3):=sp.1 j ej;show#[j,ej,?_];let fj:=KN.mp r2;have lj:j<ow.size:=by
  obtain c|c:=Nat.lt_or_ge j ow.size
  . show c
  . rw[iF c]at fj;cases fj
 have g:∀x,(ow.setIfInBounds j (!k))[x]?=if x=j then !(!k) else ow[x]?:=λx=>by
  rw[Array.getElem?_setIfInBounds];split
  . rename_i q;subst q;first |rw[av O,av lj] |rw[av lj,av O] |rw[av O]
  . rename_i q;rw[aE λz=>q z.symm]
 have nn:∀x,ow[x]?≠!J->(ow.setIfInBounds j (!k))[x]?≠!J:=λx q=>by
  rw[g];split
  . intro z;cases z
  . show q
 show#[by rw[Array.size_setIfInBounds];show D.size,#[F.erase j,n1.erase j,?_,λx=>?_],λi hi=>?_,λx i e=>?_,λx x' i e N=>?_,λx i h' e eh=>?_]
 . rw[List.length_erase_of_mem ((n3 j).mpr fj)];lia
 . rw[n1.mem_erase_iff,n3,g];constructor
   . rintro⟨a,b⟩;rw[aE a];show b
   . intro z;split at z
     . cases z
     . rename_i q;show#[q,z]
 . obtain c|c:=Nat.lt_or_ge i k
   . let(x,ex):=D.own i c;show#[x,?_];rw[g,aE]
     . show ex
     . intro z;rw[z,fj]at ex;cases ex
   . obtain rfl:i=k:=()
     show#[j,by rw[g,av O]]
 . rw[g]at e;split at e
   . cases e;show ma _
   . show gT (D.lt _ _ e)
 . rw[g]at e N;split at e
   . rename_i q;cases e;split at N
     . rename_i q';rw[q,q']
     . show absurd (D.lt _ _ N) ()
   . split at N
     . cases N;show absurd (D.lt _ _ e) ()
     . show D.uni _ _ _ e N
 . rw[g]at e;split at e
   . rename_i q;cases e;rw[hh]at eh;cases eh;show#[s,by rw[q];show r1,λl hl=>nn _ λz=>r3 l (d3 _) hl (KN.mpr z)]
   . let(n,a,b):=D.rch x i h' e eh;show#[n,a,λl hl=>nn _ (b l hl)]
theorem OI.fold{t:SetTable}{hs:List Int}(F:vU (t.mask+1)):∀(ax:List Int)(k:Nat)(ow:Array (Option Nat)),OI t hs ow k->(∀i,ax[i]?=hs[k+i]?)->k+ax.length<=t.mask+1->
 ∃q,ax.foldl (λacc h=>do
  let (owner,k) <-acc
  let j <-SetTable.layClean.free t.mask owner (SetTable.turns t.mask) (SetTable.bits h%(t.mask+1)) (SetTable.bits h)
  pure (owner.setIfInBounds j (!k),k+1)) (!(ow,k))=!(q,k+ax.length)/\OI t hs q (k+ax.length)
 |[]=>λk ow z _ _=>#[ow,O,z]
 |h::ax=>λk ow z e l=>by
  rw[be]at l
  let(j,Q,O'):=z.step F () (h:=h) (by have:=e 0;simpa using this.symm)
  let(q,N,W):=OI.fold F ax (k+1) _ O' (λi=>by have:=e (i+1);rw[List.getElem?_cons_succ]at this;rw[this];congr 1;lia) ()
  show#[q,?_,by rw[be,show k+(ax.length+1)=k+1+ax.length by omega];show W]
  rw[jp,be]
  have:k+(ax.length+1)=k+1+ax.length:=()
  rw[this,<-N]
  congr 1
  show (Option.bind (!(ow,k)) _)=_
  rw[bo]
  dsimp only
  rw[Q]
  rfl
def iW(m:Nat)(ow:Array (Option Nat)):List (Nat×Nat):=(List.range (m+1)).filterMap λj=>(ow.getD j J).map (j,·)
def Wt{m:Nat}{ow:Array (Option Nat)}(hs:ow.size=m+1){j i:Nat}:(j,i)∈iW m ow ↔ ow[j]?=!(!i):=by
 unfold iW;rw[kQ];constructor
 . rintro⟨a,z,e⟩;rw[Array.getD_eq_getD_getElem?]at e;cases q:ow[a]? with
   |none=>rw[q]at e;cases e
   |some x=>
    rw[q]at e;cases x with
    |none=>cases e
    |some y=>cases e;show q
 . intro e;have l:j<ow.size:=by
    obtain c|c:=Nat.lt_or_ge j ow.size
    . show c
    . rw[iF c]at e;cases e
   show#[j,List.mem_range.mpr (),?_];rw[Array.getD_eq_getD_getElem?,e];rfl
def ZW(m:Nat)(ow:Array (Option Nat)):(iW m ow).Pairwise λa b=>a.1<b.1:=by
 unfold iW;show List.Pairwise.filterMap _ (R:=λa b=>a<b) (λa b D x j y i=>?_) List.pairwise_lt_range;have N:x.1=a:=by
  cases q:ow.getD a J with
  |none=>rw[q]at j;cases j
  |some z=>rw[q]at j;cases j;rfl
 have F:y.1=b:=by
  cases q:ow.getD b J with
  |none=>rw[q]at i;cases i
  |some z=>rw[q]at i;cases i;rfl
 rw[N,F];show D
def T8{m f mv:Nat}{Q W:Bool}{D:Array Int}(hm:vU (m+1))(hl:D.size<=m):
 ∃pl order,SetTable.laid m f mv Q W D=!(#[m,pl,(List.toArray []),f,Q,mv,W],order)/\order.toList.Perm (List.range D.size)/\pl.size=order.size/\
  rP #[m,pl,(List.toArray []),f,Q,mv,W] λi=>(order[i]?).bind λk=>D[k]?:=by
 let t:SetTable:=#[m,(List.toArray []),(List.toArray []),f,Q,mv,W];let(ow,e,F):=OI.fold (t:=t) (hs:=D.toList) hm D.toList 0 _ (OI.start t _) (λi=>by rw[ij]) (by rw[fz];show _<=m+1;lia);rw[ij]at F e;rw[fz]at F e;have ec:SetTable.layClean m D=!ow:=by unfold SetTable.layClean;rw[<-Array.foldl_toList];show Option.map _ (List.foldl _ (!(Array.replicate (m+1) J,0)) D.toList)=_;let e':=e;show Option.map _ _=_;show(congrArg (Option.map λx:Array (Option Nat)×Nat=>x.1) e').trans O
 let pw:=ZW m ow;have ml:∀{j i:Nat},(j,i)∈iW m ow ↔ ow[j]?=!(!i):=λ{j i}=>Wt F.size;have NA:((iW m ow).map (·.2)).Nodup:=by show List.pairwise_map.mpr (List.Pairwise.imp_of_mem (R:=λa b=>a.1<b.1) (λ{a b} ha hb mT z=>?_) pw);have z1:ow[a.1]?=!(!a.2):=ml.mp ha;have z2:ow[b.1]?=!(!b.2):=ml.mp hb;rw[<-z]at z2;have:=F.uni _ _ _ z1 z2;lia
 have pr:((iW m ow).map (·.2)).Perm (List.range D.size):=by
  show(List.perm_ext_iff_of_nodup NA List.nodup_range).mpr λi=>?_;rw[List.mem_range,cK];constructor
  . rintro⟨x,hx,rfl⟩;show F.lt _ _ (ml.mp hx)
  . intro hi;let(j,ej):=F.own i hi;show#[(j,i),ml.mpr ej,O]
 have N:∀{i:Nat}{j:Nat},(((iW m ow).map (·.1)).toArray)[i]?=!j->∃k,(iW m ow)[i]?=!(j,k):=λ{i j} q=>by
  rw[List.getElem?_toArray,c8]at q;cases z:(iW m ow)[i]? with
  |none=>rw[z]at q;cases q
  |some x=>rw[z]at q;cases q;show#[x.2,O]
 have rs:Ei ((iW m ow).map (·.1)).toArray:=λa b x y mT ex ey=>by let(k1,e1):=N ex;let(k2,e2):=N ey;let(l1,q1):=de.mp e1;let(l2,q2):=de.mp e2;have:=List.pairwise_iff_getElem.mp pw a b l1 l2 mT;rw[q1,q2]at this;show this
 show#[((iW m ow).map (·.1)).toArray,((iW m ow).map (·.2)).toArray,?_,by simpa using pr,by simp,#[hm,O,rs,λi j q=>?_,?_,λi j h q eh=>?_]]
 . unfold SetTable.laid;rw[ec];rfl
 . let(k,ek):=N q;let z:=ml.mp (eR ek);obtain c|c:=Nat.lt_or_ge j ow.size
   . have:=F.size;show j<=m;have:ow.size=m+1:=F.size;lia
   . rw[iF c]at z;cases z
 . have:=pr.length_eq;rw[bq,fR]at this;show ((iW m ow).map (·.1)).toArray.size<=m;simp[this];show hl
 . let(k,ek):=N q;let z:=ml.mp (eR ek);have eo:(((iW m ow).map (·.2)).toArray)[i]?=!k:=by rw[List.getElem?_toArray,c8,ek];rfl
   rw[eo]at eh;have tp:D.toList[k]?=!h:=by rw[Array.getElem?_toList];show eh
   let(n,r1,r2):=F.rch j k h z tp;have rc:∀x,ap #[m,((iW m ow).map (·.1)).toArray,(List.toArray []),f,Q,mv,W] h x=ap t h x:=λx=>tK (t:=#[m,((iW m ow).map (·.1)).toArray,(List.toArray []),f,Q,mv,W]) (t':=t) O h x;show#[n,by rw[rc];show r1,λl NC=>?_];rw[rc];intro em;let ND:=(pB (t:=#[m,((iW m ow).map (·.1)).toArray,(List.toArray []),f,Q,mv,W]) rs O).mp em;have le:(ap t h l).j<=m:=by have:=Gs t h l;have e:t.mask=m:=O;lia
   have lt:(ap t h l).j<ow.size:=by have:ow.size=m+1:=F.size;lia
   have eg:ow[(ap t h l).j]?=some ow[(ap t h l).j]:=Array.getElem?_eq_getElem lt;cases q3:ow[(ap t h l).j] with
   |none=>rw[q3]at eg;show r2 l NC eg
   |some i3=>
    rw[q3]at eg;let(i4,e4):=List.getElem?_of_mem (ml.mpr eg);show ND i4 (by show (((iW m ow).map (·.1)).toArray)[i4]?=_;rw[List.getElem?_toArray,c8,e4];rfl)
section
variable {prog:Program}{w:World}{A:Around}{E:Value->Shared->Prop}{s:Shared}{K:Type}[DecidableEq K]{knd:HeapKind prog w K}
structure EH(knd:HeapKind prog w K)(h:Heap)(es:Array (Int×Value))(ks:List K):Prop where
 sz:es.size=ks.length
 at_:∀(i:Nat)(e:Int×Value),es[i]?=!e->∃k b,ks[i]?=!k/\e=(knd.hash k,.ref b)/\knd.is h k b
def vW(es:Array (Int×Value))(i:Nat):Option Int:=(es[i]?).map (·.1)
def u6(knd:HeapKind prog w K):Prop:=∀{A:Around}{E:Value->Shared->Prop}{s:Shared}{k:K}{a:Addr}{Q:Bool->Shared->Prop},knd.is s.heap k a->Q M s->wpAny (model prog w) A (ofAClassStatement 8 (YV a)) Q E s
def ZX(D:u6 knd){x:K}{b:Addr}(z:knd.is s.heap x b){Q:Bool->Shared->Prop}(h:Q M s):∀(vs:List Value),(∀v∈vs,∃k c,v=YV c/\knd.is s.heap k c)->
 wpAny (model prog w) A (searchCouldBeSeen (YV b) vs) Q E s:=by
 intro vs W;unfold searchCouldBeSeen;show al (wpAny_forIn_list _ (λax r s'=>r.1=J/\s'=s/\∀v∈ax,∃k c,v=YV c/\knd.is s.heap k c) _ ?_ ?_ _ _ #[O,O,W])
 . intro v ax r s' q0;let(j,rfl,i):=q0;let(k,c,rfl,hk):=i v bi;have q:∀{F:Option Bool×PUnit},F.1=J->(F.1=J/\s'=s'/\∀v∈ax,∃k c,v=Value.ref c/\knd.is s'.heap k c):=λe=>#[e,O,λu N=>i u (cv _ N)];dsimp only;split
   . show ay (q O)
   . show al (knd.quiet z ?_);simp only[Bool.not_true,e_,if_false];show al (knd.quiet hk ?_);simp only[Bool.not_true,e_,if_false];show al (D z ?_);simp only[e_,if_false];show al (D hk ?_);simp only[e_,if_false];show ay (q O)
 . rintro⟨r1,r2⟩ s' ⟨j,rfl,_⟩;simp only at j;subst j;show ay h
def Nt{c:Addr}{Q:Bool->Shared->Prop}(h:Q G s):wpAny (model prog w) A (isSame (YV c) (YV c)) Q E s:=by unfold isSame;dsimp only;rw[av (io c)];show ay h
def ZZ{t:SetTable}(i:vU (t.mask+1)):t.gaveWay=M:=by
 unfold SetTable.gaveWay;have:t.mask%2=1:=by rcases i with e|e|e|e|e|e<;>lia
 rw[this];rfl
theorem HD(nc:u6 knd){a b:Addr}{o:Obj}{es:Array (Int×Value)}{ep KK:Nat}{t:SetTable}{ks:List K}{x:K}{Q:SetFound->Shared->Prop}(hr:knd.room A)(ho:s.heap.get? a=!o)(hd:o.data=.set es ep t)(D:t.fits es.size=G)
 (W:EH knd s.heap es ks) (T:rP t (vW es)) (hx:knd.is s.heap x b) (f:vV t (knd.hash x) KK) (hK:KK<10*SetTable.turns t.mask) (q1:x∈ks->Q (.there J) s) (q2:x∉ks->Q (.free (ap t (knd.hash x) KK).j M) s):
 ∀(q k:Nat)(st:Option SetTable.Probe),st.getD (t.probeStart (knd.hash x))=ap t (knd.hash x) k->k<=KK->KK-k<q->(∀l,l<k->∀i,t.slot (ap t (knd.hash x) l).j=.live i->ks[i]?≠!x)->
  wpAny (model prog w) A (setSearchFrom a (YV b) (knd.hash x) G q st) Q E s
 |0=>λk st _ _ h3 _=>absurd h3 (Nat.not_lt_zero _)
 |q+1=>λk st h1 h2 h3 h4=>by
  unfold setSearchFrom;show al (wpAny_setState_of ho hd D ?_);dsimp only;rw[ZZ T.msz];simp only[e_,if_false];rw[h1];unfold SetTable.probe;generalize hg:SetTable.probe.go t _ (knd.hash x) (10*SetTable.turns t.mask) (ap t (knd.hash x) k)=g;obtain⟨l,i,a1,a2,a3,a4,a5,a6⟩|⟨a1,a2⟩:=Pb (hashAt:=λi=>((es[i]?).map (·.1)).getD 0) (Ph T.nod) f (10*SetTable.turns t.mask) k h2 ()
  . obtain rfl:g=_:=hg.symm.trans a5;dsimp only;have pi:t.place[i]?=!(ap t (knd.hash x) l).j:=Hy a3;have li:i<es.size:=by
     obtain c|c:=Nat.lt_or_ge i t.place.size
     . have:t.place.size=es.size:=by unfold SetTable.fits at D;simp at D;show D.1
       lia
     . rw[iF c]at pi;cases pi
    have F:es[i]?=some es[i]:=Array.getElem?_eq_getElem li;let(y,c,e1,e2,e3):=W.at_ i _ F;rw[e2]at F;have sv:∀v∈(es.filter λe=>e.1==knd.hash x).toList.map (·.2),∃k c,v=Value.ref c/\knd.is s.heap k c:=λv hv=>by let(e,he,rfl):=cK.mp hv;let(N,h_,rfl):=Array.mem_iff_getElem.mp (Array.mem_of_mem_filter (Array.mem_toList_iff.mp he));let(y',c',f1,f2,f3):=W.at_ N _ (Array.getElem?_eq_getElem h_);show#[y',c',by rw[f2],f3]
    cases hl:t.led
    case' false=>
     simp only[Bool.not_false,if_true];show al (ZX nc hx ?_ _ sv);simp only[e_,if_false]
    case' true=>
     simp only[Bool.not_true,e_,if_false]
    all_goals
     rw[F];dsimp only;show al (wpAny_holding (knd.eqBool hr e3 hx ?_));show al (wpAny_setState_of ho hd D ?_);dsimp only;by_cases hy:y=x
     . rw[js hy];simp only[Bool.and_true,if_true];show ay (q1 (hy▸eR e1))
     . rw[im hy];simp only[Bool.and_false,e_,if_false];have sm:t.sameMemory t.moves t.mask=!G:=by unfold SetTable.sameMemory;rw[av (io _)]
       rw[sm];simp only[if_true];rw[a3];dsimp only;rw[F];dsimp only;show al (Nt ?_);show al (ay ?_);simp only[if_true];show HD nc hr ho hd D W T hx f hK q1 q2 q (l+1) _ O a2 () λl' ox N e'=>?_;obtain c1|c1:=Nat.lt_or_ge l' k
       . show h4 l' c1 N e'
       . obtain c2|c2:=Nat.lt_or_ge l' l
         . intro z;have tq:N<es.size:=by
            rw[W.sz];obtain c3|c3:=Nat.lt_or_ge N ks.length
            . show c3
            . rw[md c3]at z;cases z
           have ee:es[N]?=some es[N]:=Array.getElem?_eq_getElem tq;let(y',c',f1,f2,f3):=W.at_ N _ ee;rw[z]at f1;cases f1;show a6 l' c1 c2 N e' (by rw[ee,f2];rfl)
         . obtain rfl:l'=l:=()
           rw[a3]at e';cases e';rw[e1];show λz=>hy (d_ z)
  . obtain rfl:g=_:=hg.symm.trans a2;dsimp only;show ay (q2 λhm=>?_);let(i,F):=List.getElem?_of_mem hm;have li:i<es.size:=by
     rw[W.sz];obtain c|c:=Nat.lt_or_ge i ks.length
     . show c
     . rw[md c]at F;cases F
    have ee:es[i]?=some es[i]:=Array.getElem?_eq_getElem li;let(y,c,e1,e2,e3):=W.at_ i _ ee;rw[F]at e1;cases e1;have hp:i<t.place.size:=by
     have:t.place.size=es.size:=by unfold SetTable.fits at D;simp at D;show D.1
     lia
    have kD:t.place[i]?=some t.place[i]:=Array.getElem?_eq_getElem hp;have tp:vW es i=!(knd.hash x):=by unfold vW;rw[ee,e2];rfl
    let(l,hl,e4,e5):=T.ahead f kD tp;obtain c|c:=Nat.lt_or_ge l k
    . show h4 l c i e5 F
    . show a1 l c hl i e5 (by rw[ee,e2];rfl)
end
def rP.congr(T:rP t hs)(D:t'.mask=t.mask)(z:t'.place=t.place)(N:t'.dummies=t.dummies)(Q:∀i,hU i=hs i):rP t' hU:=by
 have sl:∀j,t'.slot j=t.slot j:=λj=>by unfold SetTable.slot;rw[z,N]
 show#[by rw[D];show T.msz,by rw[N];show T.nod,by rw[z];show T.ris,λi j e=>?_,by rw[D,z];show T.room,λi j h e q=>?_]
 . rw[z]at e;rw[D];show T.bnd i j e
 . rw[z]at e;rw[Q]at q;let(n,a,b):=T.rch i j h e q;let F:=λn=>tK D h n;show#[n,by rw[F];show a,λl W=>by rw[F,sl];show b l W]
theorem Ej{α β:Type}{f:α->Option β}:∀{l:List α},(∀x∈l,∃y,f x=!y)->∀i:Nat,(l.filterMap f)[i]?=(l[i]?).bind f
 |[]=>λ_ i=>by simp
 |x::l=>λh i=>by
  let(y,e):=h x bi;rw[List.filterMap_cons_some e];cases i with
  |zero=>simp[e]
  |succ i=> show Ej (λz j=>h z (cv _ j)) i
theorem pC{α β:Type}{f:α->Option β}:∀{l:List α},(∀x∈l,∃y,f x=!y)->(l.filterMap f).length=l.length
 |[]=>λ_=>rfl
 |x::l=>λh=>by let(y,e):=h x bi;rw[List.filterMap_cons_some e,be,be,pC λz i=>h z (cv _ i)]
def Wu{β:Type}(l:List β):(List.range l.length).filterMap (λi=>l[i]?)=l:=by
 show List.ext_getElem? λi=>?_;rw[Ej λx j=>?_]
 . obtain c|c:=Nat.lt_or_ge i l.length
   . rw[List.getElem?_range c];rfl
   . rw[md ∅,md c];rfl
 . rw[List.mem_range]at j;show#[l[x],et j]
section
variable {prog:Program}{w:World}{A:Around}{E:Value->Shared->Prop}{s:Shared}{K:Type}[DecidableEq K]{knd:HeapKind prog w K}
structure qz(knd:HeapKind prog w K)(h:Heap)(a:Addr)(es:Array (Int×Value))(ep:Nat)(t:SetTable)(led:Bool)(ks:List K):Prop extends lG h a es ep t led where
 el:EH knd h es ks
 nd:ks.Nodup
 ti:rP t (vW es)
 nf:t.place.size*5<t.mask*3
def xK(knd:HeapKind prog w K):Prop:=∀{h h':Heap}{k:K}{b d:Addr}{o:Obj}{es:Array (Int×Value)}{ep:Nat}{t:SetTable},knd.is h k b->h.get? d=!o->o.data=.set es ep t->Heap.SameBut d h h'->knd.is h' k b
def Aw(knd:HeapKind prog w K)(ok:K->Prop):Prop:=∀{A:Around}{E:Value->Shared->Prop}{s:Shared}{k:K}{a:Addr}{Q:Bool->Shared->Prop},ok k->knd.is s.heap k a->Q M s->wpAny (model prog w) A (hashByValue 8 (YV a)) Q E s
def EH.ins(e:EH knd h es ks)(D:p<=es.size)(F:knd.is h x b):EH knd h (SetTable.insertAt es p (knd.hash x,YV b)) (SetTable.insertAt ks.toArray p x).toList:=by
 have z:p<=ks.toArray.size:=by rw[eP,<-e.sz];show D
 show#[by simp only[nF,fz,eP,e.sz],λi y q=>?_];rw[Array.getElem?_toList,iw _ z];rw[iw _ D]at q;split
 . rename_i c;rw[av c]at q;rw[List.getElem?_toArray];show e.at_ i y q
 . rename_i c;rw[aE c]at q;split
   . rename_i j;rw[av j]at q;cases q;show#[x,b,O,O,F]
   . rename_i j;rw[aE j]at q;rw[List.getElem?_toArray];show e.at_ _ y q
def Wv(ks:List α)(p:Nat)(x:α):(SetTable.insertAt ks.toArray p x).toList.Perm (x::ks):=by rw[sO];show eM.trans ?_;rw[List.take_append_drop]
def Z3(j:p<=es.size)(e:Int×Value)(i:Nat):vW (SetTable.insertAt es p e) i=KJ (vW es) p e.1 i:=by
 unfold vW KJ;rw[iw _ j];split
 . rfl
 . split<;>rfl
def EH.keep(kp:xK knd)(e:EH knd h es ks)(j:h.get? a=!o)(F:o.data=.set es0 ep t)(D:Heap.SameBut a h h'):EH knd h' es ks:=
 #[e.sz,λi y q=>by let(k,b,Q,z,N):=e.at_ i y q;show#[k,b,Q,z,kp N j F D]]
def m_(i:vU (m+1))(h1:n*5<m*3)(h2:m*3<=(n+1)*5)(j:n+1<19000):vU (SetTable.sizeAbove (SetTable.grown (n+1))-1+1)/\4*(n+1)<=SetTable.sizeAbove (SetTable.grown (n+1))-1/\SetTable.sizeAbove (SetTable.grown (n+1))<=32768:=by
 obtain e|e|e|e|e|e|e:=i
 . obtain rfl:n=4:=()
   show#[YY (Zl O),by decide,by decide]
 . obtain rfl:n=18:=()
   show#[YY (YY (Zl O)),by decide,by decide]
 . obtain rfl:n=76:=()
   show#[YY (YY (YY (Zl O))),by decide,by decide]
 . obtain rfl:n=306:=()
   show#[YY (YY (YY (YY (Zl O)))),by decide,by decide]
 . obtain rfl:n=1228:=()
   show#[YY (YY (YY (YY (YY (Zl O))))),by decide,by decide]
 . obtain rfl:n=4914:=()
   show#[YY (YY (YY (YY (YY (YY O))))),by decide,by decide]
 . lia
def EH.order(e:EH knd h es ks){o:Array Nat}(D:o.toList.Perm (List.range es.size)):
 ∃j,EH knd h (o.filterMap (es[·]?)) j/\j.Perm ks/\(o.filterMap (es[·]?)).size=es.size/\∀i,vW (o.filterMap (es[·]?)) i=(o[i]?).bind λk=>(es.map (·.1))[k]?:=by
 have z:∀k∈o.toList,k<es.size:=λk hk=>List.mem_range.mp ∅;have F:∀k∈o.toList,∃y,es[k]?=!y:=λk hk=>#[es[k]'(z k hk),Array.getElem?_eq_getElem (z k hk)];have Q:∀k∈o.toList,∃y,ks[k]?=!y:=λk hk=>#[ks[k]'(by rw[<-e.sz];show z k hk),et _];have tl:(o.filterMap (es[·]?)).toList=o.toList.filterMap (es[·]?):=Array.toList_filterMap;have W:∀i:Nat,(o.filterMap (es[·]?))[i]?=(o[i]?).bind (es[·]?):=λi=>by rw[<-Array.getElem?_toList,tl,Ej F,Array.getElem?_toList]
 have ln:(o.filterMap (es[·]?)).size=es.size:=by rw[<-fz,tl,pC F,D.length_eq,fR]
 show#[o.toList.filterMap (ks[·]?),#[?_,λi y q=>?_],?_,ln,λi=>?_]
 . rw[ln,pC Q,D.length_eq,fR]
 . rw[W]at q;rw[Ej Q,Array.getElem?_toList];cases N:o[i]? with
   |none=>rw[N]at q;cases q
   |some k=>
    rw[N]at q;show e.at_ k y q
 . have:=D.filterMap (ks[·]?);rw[e.sz,Wu]at this;show this
 . unfold vW;rw[W];cases o[i]? with
   |none=>rfl
   |some k=>show Option.map _ (es[k]?)=(es.map (·.1))[k]?;rw[Array.getElem?_map]
def NF(nc:u6 knd)(kp:xK knd)(bt:Aw knd ok)(hr:knd.room A)(S:qz knd s.heap a es ep t led ks)(room:es.size+1<kh)(hx:knd.is s.heap x b)(NG:ok x)
 (h:∀r h' W kD t' AR,Heap.SameBut a s.heap h'->qz knd h' a W kD t' led AR->(∀y,y∈AR ↔ y∈ks\/y=x)->W.size<=es.size+1->Q r { s with heap:=h' }):
 wpAny (model prog w) A (setAddHashed a (YV b) (knd.hash x)) Q E s:=by
 unfold setAddHashed setAddHashedIn
 show wpAny_holding (al (wpAny_setState_of S.at_ O S.fits ?_))
 dsimp only
 have bs:byScan (YV b) es=M:=by unfold byScan;rfl
 rw[bs]
 simp only[e_]
 let(F,hK,f):=S.ti.first (knd.hash x)
 have tm:t.mask<=32767:=by rcases S.ti.msz with e|e|e|e|e|e|e<;>lia
 have ps:t.place.size=es.size:=by have:=S.fits;unfold SetTable.fits at this;simp at this;show this.1
 let nf:=S.nf
 unfold setSearch
 show al (HD nc hr S.at_ O S.fits S.el S.ti hx f (by unfold SetTable.turns;have:=S.ti.room;lia) ?_ ?_ 100000 0 J O (d3 _) (by have:kh=9900:=O;lia) (λl hl=>absurd hl (Nat.not_lt_zero _)))
 . intro hm
   dsimp only
   show ay (h M s.heap es ep t ks (Heap.SameBut.refl a s.heap) S (λy=>#[Zl,λq=>q.elim id λq=>q▸hm]) (kX _))
 . intro hm
   dsimp only
   show al (wpAny_setState_of S.at_ O S.fits ?_)
   dsimp only
   let pp:=T7 S.ti.nod (ap t (knd.hash x) F).j
   rw[pp.1,pp.2]
   let(b1,b2,b3):=tM S.ti.ris (ap t (knd.hash x) F).j
   let TP:=S.ti.put f (by have:=S.ti.msz;rcases this with e|e|e|e|e|e<;>lia)
   have D:(SetTable.insertAt es (SetTable.below t.place (ap t (knd.hash x) F).j) (knd.hash x,Value.ref b)).size=es.size+1:=nF _ _ _
   let ei:=S.el.ins (p:=SetTable.below t.place (ap t (knd.hash x) F).j) () hx
   have AS:∀i,vW (SetTable.insertAt es (SetTable.below t.place (ap t (knd.hash x) F).j) (knd.hash x,Value.ref b)) i=KJ (vW es) (SetTable.below t.place (ap t (knd.hash x) F).j) (knd.hash x) i:=λi=>Z3 () _ i
   have oP:(SetTable.insertAt t.place (SetTable.below t.place (ap t (knd.hash x) F).j) (ap t (knd.hash x) F).j).size=es.size+1:=by rw[nF,ps]
   let pm:=Wv ks (SetTable.below t.place (ap t (knd.hash x) F).j) x
   generalize (SetTable.insertAt ks.toArray (SetTable.below t.place (ap t (knd.hash x) F).j) x).toList=AT at ei pm
   generalize SetTable.insertAt es (SetTable.below t.place (ap t (knd.hash x) F).j) (knd.hash x,Value.ref b)=f_ at D ei AS ⊢
   generalize hP:SetTable.insertAt t.place (SetTable.below t.place (ap t (knd.hash x) F).j) (ap t (knd.hash x) F).j=P at TP oP ⊢
   have mem1:∀y,y∈AT ↔ y∈ks\/y=x:=λy=>by rw[pm.mem_iff,aT];show Or.comm
   let AU:=pm.nodup_iff.mpr (f6.mpr #[hm,S.nd])
   have fin:∀z:SetTable,z.mask=t.mask->z.place=P->z.dummies=t.dummies->z.led=t.led->z.plain=M->wpAny (model prog w) A (do
    storeSet a f_ z
    if (not M&&z.tooFull)=G then do
     setRelay a (SetTable.grown (es.size+1))
     pure G
     else pure G) Q E s:=by
    intro z m2 p2 d2 l2 n2
    let T2:=TP.congr m2 p2 d2 AS
    have bb:f_.size<kh:=by rw[D];show room
    show al (wpAny_storeSet_of S.at_ O ?_ (Aq bb))
    let g1:=DW (es':=f_) (t':=z) S.at_
    let lT:=kg s.heap a (Obj.putSet f_ z)
    let ek:=ei.keep kp S.at_ O lT
    have fl:z.fill=es.size+1:=by unfold SetTable.fill;rw[p2,oP,d2,S.ti.nod];rfl
    have ft:z.fits f_.size=G:=by
     unfold SetTable.fits
     rw[fl,p2,oP,D,m2]
     have:es.size+1<=t.mask:=by have:=S.ti.msz;rcases this with e|e|e|e|e|e<;>lia
     simp[this]
    split
    . rename_i N
      have NH:t.mask*3<=(es.size+1)*5:=by
       rw[Bool.not_false,Bool.true_and]at N
       unfold SetTable.tooFull at N
       rw[fl,m2]at N
       simpa using N
      let(NI,gr2,gr3):=m_ S.ti.msz (by rw[<-ps];show nf) NH (by have:kh=9900:=O;lia)
      have hz:(f_.map (·.1)).size<=SetTable.sizeAbove (SetTable.grown (es.size+1))-1:=by rw[Array.size_map,D];lia
      let(pl,o,e1,e2,e3,e4):=T8 NI hz
      have er:z.relaid (f_.map (·.1)) (SetTable.grown (es.size+1))=_:=e1
      rw[Array.size_map]at e2
      let(NJ,k1,k2,k3,k4):=ek.order e2
      show al ?_
      unfold setRelay
      show al (wpAny_setState_of g1 O ft ?_)
      dsimp only
      rw[aE (by rw[sizeLine_eq];lia)]
      rw[er]
      show al (m:=(if (o.filterMap (f_[·]?)).size != f_.size then unsupported "internal:set-table-lost-an-element" else pure (o.filterMap (f_[·]?),_))) ?_
      rw[aE (by rw[k3];simp)]
      show ay ?_
      dsimp only
      have AV:(o.filterMap (f_[·]?)).size<kh:=by rw[k3];show bb
      show wpAny_storeSet_of g1 O ?_ (Aq AV)
      let g2:=DW (es':=o.filterMap (f_[·]?)) (t':=#[SetTable.sizeAbove (SetTable.grown (es.size+1))-1,pl,(List.toArray []),z.finger,z.led,z.movedTo (SetTable.sizeAbove (SetTable.grown (es.size+1))-1),z.plain]) g1
      let AW:=kg (s.heap.update a (Obj.putSet f_ z)) a (Obj.putSet (o.filterMap (f_[·]?)) #[SetTable.sizeAbove (SetTable.grown (es.size+1))-1,pl,(List.toArray []),z.finger,z.led,z.movedTo (SetTable.sizeAbove (SetTable.grown (es.size+1))-1),z.plain])
      have os:o.size=es.size+1:=by rw[<-fz,e2.length_eq,fR,D]
      have zs:(o.filterMap (f_[·]?)).size=es.size+1:=by rw[k3,D]
      show ay (h G _ (o.filterMap (f_[·]?)) _ _ NJ (lT.trans AW) #[#[g2,AV,?_,l2.trans S.led,λ_=>n2],k1.keep kp g1 O AW,k2.nodup_iff.mpr AU,e4.congr O O O k4,?_] (λy=>by rw[k2.mem_iff];show mem1 y) ())
      . unfold SetTable.fits SetTable.fill
        show (pl.size==_&&decide (pl.size+0<=_))=G
        rw[zs,e3,os]
        simp
        lia
      . show pl.size*5<(SetTable.sizeAbove (SetTable.grown (es.size+1))-1)*3
        rw[e3,os]
        lia
    . rename_i N
      show ay (h G _ f_ _ z AT lT #[#[g1,bb,ft,l2.trans S.led,λ_=>n2],ek,AU,T2,?_] mem1 ())
      rw[Bool.not_false,Bool.true_and]at N
      unfold SetTable.tooFull at N
      rw[fl]at N
      rw[p2,oP]
      have:¬ (z.mask*3<=(es.size+1)*5):=by simpa using N
      lia
   split
   . show al (bt NG hx ?_)
     simp only[e_,if_false]
     show fin _ O O O O O
   . rename_i np
     show al (ay ?_)
     simp only[if_true]
     show fin _ O O O O (by simpa using np)
end
section
variable {prog:Program}
def Nu{K:Type}[DecidableEq K]{knd:PySem.KeyKind prog w K}:xK (tupleKind knd):=by
 intro h h' k b d o es N t x D z hs;let(o',items,n,i,F,j,hi):=x;have q:b≠d:=λe=>by rw[e,D]at i;cases i;rw[z]at j;cases j
 show#[o',items,n,(hs.2 b q).trans i,F,j,hi]
def Nv(n:Nat)(h:carriedByValue v=G):ofAClassStatement n v=pure M:=by cases v<;>first |(unfold ofAClassStatement;rfl) |cases h
def Nx{K:Type}[DecidableEq K]{knd:PySem.KeyKind prog w K}:u6 (tupleKind knd):=by
 intro A E s k a Q hk h;let F:=hk.typeIs;let(o,items,n,D,_,z,hi):=hk;unfold ofAClassStatement;show al (wpAny_typeOf F ?_);show al (ay ?_);show al (wpAny_seqItems D z ?_);show al ?_;rw[<-Array.forIn_toList];show wpAny_forIn_list _ (λax r s'=>r.1=J/\s'=s/\∀v∈ax,carriedByValue v=G) _ ?_ ?_ _ _ #[O,O,hi.byValue]
 . intro v ax r s' q0;let(q,rfl,i):=q0;rw[Nv _ ∅];show ay #[O,O,λu j=>i u (cv _ j)]
 . rintro⟨N,W⟩ s' ⟨q,rfl,_⟩;subst q;show ay h
def ut(ks:List aW):Prop:=∃x:Str,some (Sum.inr x)∈ks
def Ny:Aw (tupleKind (eN prog w)) ut:=by
 intro A E s k a Q N hk h;let hT:=hk.typeIs;let(o,items,n,ho,_,hd,hi):=hk;show al (wpAny_specialOf hT F.slot_tuple_hash.lookup ?_);show al (wpAny_seqItems ho hd ?_);show al ?_;rw[<-Array.forIn_toList];show wpAny_forIn_list _ (λax r s'=>s'=s/\r.1=J/\∃ks,ut ks/\ItemsAre (eN prog w) ks ax) _ ?_ ?_ _ _ #[O,O,k,N,hi]
 . intro v ax r s' q0;let(rfl,hr,ks,(x,hx),W):=q0;cases W with
   |cons q D=>
    rename_i k0 j;have go:k0≠!(Sum.inr x)->ut j:=λne=>#[x,(aT.mp hx).resolve_left λe=>ne e.symm];obtain⟨rfl,rfl⟩|⟨y,rfl,hy⟩:=eY_ q
    . show ay #[O,O,j,go (λe=>by cases e),D]
    . obtain⟨i,u,rfl,rfl⟩|⟨z,u,rfl,rfl⟩:=di hy
      . show ay #[O,O,j,go (λe=>by cases e),D]
      . show ay (ay h)
 . rintro⟨r1,r2⟩ s' ⟨rfl,hr,ks,⟨x,hx⟩,W⟩;cases W;cases hx
end
def KQ{prog:Program}{K:Type}[DecidableEq K](knd:HeapKind prog w K):Prop:=∀{h h':Heap}{k:K}{b:Addr},knd.is h k b->(∀o,h.get? b=!o->h'.get? b=!o)->knd.is h' k b
def zJ{K:Type}[DecidableEq K]{knd:PySem.KeyKind prog w K}:KQ (tupleKind knd):=by intro h h' k b x q;let(o,items,n,i,z,j,hi):=x;show#[o,items,n,q o i,z,j,hi]
theorem qz.moved{K:Type}[DecidableEq K]{knd:HeapKind prog w K}{ks:List K}(S:qz knd h a es ep t led ks)(k:∀o,h.get? a=!o->h'.get? a=!o)
 (F:∀x∈ks,∀b,knd.is h x b->knd.is h' x b):qz knd h' a es ep t led ks:=
 #[S.1.moved k,#[S.el.sz,λi y q=>by let(x,b,j,z,D):=S.el.at_ i y q;show#[x,b,j,z,F x (eR j) b D]],S.nd,S.ti,S.nf]
def Ax{prog:Program}{K:Type}[DecidableEq K](knd:HeapKind prog w K)(g:Addr->Prop):HeapKind prog w K where
 is:=λh k b=>knd.is h k b/\g b
 hash:=knd.hash
 draws:=knd.draws
 room:=knd.room
 inj:=λx y=>knd.inj x.1 y.1
 keeps:=λx a b c=>#[knd.keeps x.1 a b c,x.2]
 pyHash:=λr x q=>knd.pyHash r x.1 q
 eqBool:=λr x y q=>knd.eqBool r x.1 y.1 q
 quiet:=λx q=>knd.quiet x.1 q
section
variable {prog:Program}{w:World}{K:Type}[DecidableEq K]{knd:HeapKind prog w K}{g:Addr->Prop}
def NL(i:u6 knd):u6 (Ax knd g):=λx q=>i x.1 q
def NM(kp:xK knd):xK (Ax knd g):=λx a b c=>#[kp x.1 a b c,x.2]
def NN(bt:Aw knd ok):Aw (Ax knd g) ok:=λo x q=>bt o x.1 q
def qz.un(S:qz (Ax knd g) h a es ep t led ks):qz knd h a es ep t led ks:=
 #[S.1,#[S.el.sz,λi y q=>by let(x,b,D,j,z):=S.el.at_ i y q;show#[x,b,D,j,z.1]],S.nd,S.ti,S.nf]
end
section
variable {prog:Program}{w:World}{A:Around}{ZN:Result->Shared->Prop}{I:Addr}{fp wr:List Addr}{ZT:Array GenState->Array GenState->Prop}{n:Nat}{P:Nat->Value->Prop}{St:Nat->Shared->Prop}{K:Type}[DecidableEq K]{knd:HeapKind prog w K}
def NO(nc:u6 knd)(kp:xK knd)(oo:KQ knd)(bt:Aw knd ok)(oQ:knd.room A.in1)(W:WalksS prog w A.in1 I fp wr ZT n P St)(D:Addr)(hD:D∉fp)(val:Nat->K)(ad:Nat->Addr)(hv:∀i v,P i v->v=YV (ad i))(tw:∀i,i<n->ad i∉D::wr)(hok:∀i,i<n->ok (val i))(hb:n+1<kh)(led:Bool):
 ∀(k i:Nat)(s:Shared)(es:Array (Int×Value))(ep:Nat)(t:SetTable)(ks:List K),n-i=k->i<=n->St i s->(∀j,j<n->knd.is s.heap (val j) (ad j))->qz (Ax knd (·∉D::wr)) s.heap D es ep t led ks->es.size<=i->(∀y,y∈ks ↔ ∃j,j<i/\val j=y)->
  (∀s' es' kD t' N,Moved (D::wr) ZT s s'->qz knd s'.heap D es' kD t' led N->(∀y,y∈N ↔ ∃j,j<n/\val j=y)->es'.size<=n->ZN (.ok (.ret .none)) s')->
  codeAny (model prog w) A (.builtin "set.update.loop" #[[YV D,YV I],[]]) ZN s:=by
 let nw:=λq=>hD (W.sub _ q);have mw:∀b∈wr,b∈D::wr:=λb q=>cv _ q;intro k;induction k with
 |zero=>
  intro i s es ep t ks hk hi st iv S sz mem hR;obtain rfl:i=n:=()
  show codeAny_builtin F.entry_set_update_loop ?_;show al (W.done s _ _ st λs' m=>?_);show ay (hR s' es ep t ks (m.mono mw) (qz.un (S.moved (λo q=>m.heap D o nw q) λx hx b y=>#[oo y.1 λo q=>m.heap b o (λz=>y.2 (mw b z)) q,y.2])) mem sz)
 |succ k ih=>
  intro i s es ep t ks hk hi st iv S sz mem hR;have lt:i<n:=()
  show codeAny_builtin F.entry_set_update_loop ?_;show al (W.item i s _ _ lt st λv s' hP db m=>?_);obtain rfl:=hv i v hP;let S':=S.moved (λo q=>m.heap D o nw q) λx hx b y=>#[oo y.1 λo q=>m.heap b o (λz=>y.2 (mw b z)) q,y.2];let tx:=λj hj=>oo (iv j hj) λo q=>m.heap (ad j) o (λz=>tw j hj (mw _ z)) q;show al (wpAny_holding ?_);show wpAny_holding (al (knd.pyHash oQ (tx i lt) ?_));show NF (knd:=Ax knd (·∉D::wr)) (NL nc) (NM kp) (NN bt) oQ S' () #[tx i lt,tw i lt] (hok i lt) λb h' es' kD t' N sb S2 mem2 zk=>?_;show ay #[plainId_quiet F.plain_set_update_loop _,ih (i+1) _ es' kD t' N () lt (W.frame _ s' _ _ db (k_ _ _) λc hc o q=>?_) (λj hj=>?_) S2 () (λy=>?_) λs'' es'' ep'' t'' ks'' m2 S3 mem3 sA=>?_]
  . rw[sb.2 c (λz=>hD (z▸hc))];show q
  . show oo (tx j hj) λo q=>by show h'.get? (ad j)=!o;rw[sb.2 (ad j) (λz=>tw j hj (z▸bi))];show q
  . rw[mem2 y,mem y];constructor
    . rintro (⟨j,hj,q⟩|q)
      . show#[j,(),q]
      . show#[i,(),q.symm]
    . rintro⟨j,hj,q⟩;obtain g|g:=Nat.lt_or_ge j i
      . show Zl #[j,g,q]
      . obtain rfl:j=i:=()
        show YY q.symm
  . show hR s'' es'' ep'' t'' ks'' (Moved.trans W.gtrans ((m.mono mw).then_heap (k_ _ _) λc o hc q=>?_) m2) S3 mem3 sA;rw[sb.2 c (λz=>hc (z▸bi))];show q
end
theorem rP.fresh:rP (SetTable.fresh f m l) (vW (List.toArray [])):=by
 show#[Zl O,O,λa b x y _ e=>?_,λi j e=>?_,d3 _,λi j h e=>?_]
 all_goals
  have q:((List.toArray []):Array Nat)[_]?=!_:=e;simp at q
section
variable {prog:Program}{w:World}{A:Around}{E:Value->Shared->Prop}{s:Shared}{K:Type}[DecidableEq K]{knd:HeapKind prog w K}
def Ww(nc:u6 knd)(kp:xK knd)(oo:KQ knd){ok:K->Prop}(bt:Aw knd ok)(oQ:knd.room A.in1.in1.in1){l:Addr}{items:Array Value}{ad:Nat->Addr}{val:Nat->K}{Q:Value->Shared->Prop}(hh:A.handled=J)(hl:s.heap.IsList l items)(hi:∀(i:Nat)(v:Value),items[i]?=!v->v=Value.ref (ad i))(hk:∀i,i<items.size->knd.is s.heap (val i) (ad i)/\(∃o,s.heap.get? (ad i)=!o)/\ok (val i))(hb:items.size+1<kh)
 (h:∀(h':Heap)(tk:Nat) es ep t ks,qz knd h' s.heap.objs.size es ep t (not (aI w)) ks->(∀y,y∈ks ↔ ∃j,j<items.size/\val j=y)->es.size<=items.size->(∀b o,b<s.heap.objs.size->s.heap.get? b=!o->h'.get? b=!o)->Q (YV s.heap.objs.size) { s with heap:=h',toks:=tk }):
 wpAny (model prog w) A (call (.type "set") [YV l]) Q E s:=by
 let(c,tl,hmro):=F.called_set.mro;let m1:=F.called_set.made;let m2:=F.called_set.sub;show wpAny_call (codeAny_of_tree (show wpAny _ _ (callAny (.type "set") _) _ _ _ from ay #[Code.quiet_builtin _ (),codeAny_builtin F.entry_type_call (?_:wpAny _ _ _ _ _ _)]));rw[Around.under_plain (weight_type_call_type "set" [YV l] []) O];let m3:=F.called_set.notType;let m4:=F.called_set.canCreate;let m5:=F.typeCall_set_1 (YV l)
 repeat any_goals first |assumption |wp_step
 show codeAny_mono (Ot (YV l) (E:=E) (Q:=λo s₁=>o=YV s.heap.objs.size/\s₁={ s with heap:=s.heap.push (jX w) }) #[O,O]) λr s₁ hr=>?_;cases r with
 |error e=>show hr
 |ok fl=>
  cases fl with
  |ret obj=>
   let(rfl,rfl):=hr;have g0:(s.heap.push (jX w)).get? s.heap.objs.size=!(jX w):=dA _ O;have hT:Shared.TypeIs { s with heap:=s.heap.push (jX w) } (YV s.heap.objs.size) "set":=#[_,g0,O];let m6:=F.called_set.init.lookup;let m7:=F.called_set.init.bind (YV s.heap.objs.size)
   repeat any_goals first |assumption |wp_step
   show codeAny_mono (codeAny_call_builtin (R:=wants (λr s₂=>r=.none/\∃h' tk es ep t ks,s₂={ s with heap:=h',toks:=tk }/\qz knd h' s.heap.objs.size es ep t (not (aI w)) ks/\(∀y,y∈ks ↔ ∃j,j<items.size/\val j=y)/\es.size<=items.size/\(∀b o,b<s.heap.objs.size->s.heap.get? b=!o->h'.get? b=!o)) E) F.called_set.init.plain F.entry_set_init (check_set_init_1 hT ?_)) λr₂ s₂ ky=>?_
   . let((c1,c2,c3,c4),ho,hc,nl,hd):=hl;simp only at hc hd;subst hc;subst hd;have sB:(s.heap.push (jX w)).get? l=some { cls:=.type "list",dict:=c2,data:=.seq items nl,slots:=c4 }:=cf _ ho;let n1:=F.sub_list_set;let n2:=F.sub_list_frozenset;have n3:(Value.type "list"== Value.type "dict")=M:=by decide
     have jI:(s.heap.push (jX w)).IsList l items:=#[_,sB,O,nl,O];unfold Builtin.«set.__init__»;unfold noKeywords;unfold Builtin.Frozenset.updateFrom;generalize sC:pyIter=PI
     wp_walk
     subst sC;show wpAny_pyIter_list jI (al (wpAny_runValue ?_));have lS:l<s.heap.objs.size:=bX ho;have h3:A.in1.in1.in1.handled=J:=by simp[hh]
     have nI:l≠(s.heap.push (jX w)).objs.size:=by rw[g7];show c_ (gT lS)
     have nS:s.heap.objs.size∉[(s.heap.push (jX w)).objs.size,l]:=by rw[g7];simp only[aT,gX,or_false,not_or];show#[c_ (ma _),hJ lS]
     have NR:∀i,i<items.size->ad i<s.heap.objs.size:=λi h_=>by let(_,(o,q),_):=hk i h_;show bX q
     show NO nc kp oo bt oQ ((Walks.list h3 _ l nI items).toS) s.heap.objs.size nS val ad (λi v q=>hi i v q) (λi h_=>?AD) (λi h_=>(hk i h_).2.2) hb (not (aI w)) (items.size-0) 0 _ (List.toArray []) 0 (.fresh 0 0 (not (aI w))) [] () (d3 _) #[#[_,dA _ O,O,O],(jI.push _)] (λj hj=>?IV) ?S0 (d3 _) (λy=>?M0) ?hR
     case AD=>
      have:=NR i h_;rw[g7];simp only[aT,gX,or_false,not_or];show#[c_ this,c_ (gT this)]
     case IV=>show oo (hk j hj).1 λo q=>cf _ (cf _ q)
     case S0=>show⟨⟨cf _ g0,by decide,O,O,λq=>by simp at q⟩,⟨O,λi e q=>by simp at q⟩,mo,rP.fresh,(by decide:0*5<7*3)⟩
     case M0=>simp
     case hR=>
      intro s' es ep t ks m S' mem sz;let(h',g',d',sD,sF):=s';obtain rfl:g'=s.gens:=m.gens;obtain rfl:d'=s.drawn:=m.drawn;obtain rfl:sF=s.os:=m.os;show ay (show wpAny _ _ (ret Value.none) _ _ _ from ay #[O,h',sD,es,ep,t,ks,O,S',mem,sz,λb o hb q=>?_])
      . have b1:b≠s.heap.objs.size:=c_ hb;have b2:b≠(s.heap.push (jX w)).objs.size:=by rw[g7];show c_ (gT hb)
        show m.heap b o (by simp only[aT,gX,or_false,not_or];show#[b1,b2]) (cf _ (cf _ q))
   . cases r₂ with
     |error e=>show ky
     |ok sK=>
      cases sK with
      |ret r=>
       let(rfl,h',tk,es,ep,t,ks,rfl,q1,q2,q3,q4):=ky
       repeat any_goals first |assumption |wp_step
       show h _ _ _ _ _ _ q1 q2 q3 q4
      |_=>show ky.elim
  |_=>show hr.elim
end
end L2
namespace L2
open PySem PySem.Spec PyProof.Rows PySem.W
noncomputable def bE:aW->List Int
 |none=>[2]
 |some (.inl i)=>[0,i]
 |some (.inr x)=>1::x.cps.toList.map Int.ofNat
abbrev TC:=List (List Int)
@[reducible] def tupK (T:Addr->Option TC):PyProof.Rows.KeyKind where
 α:=TC
 blt a b:=decide (a<b)
 irrefl a:=by simpa using List.lt_irrefl a
 trans a b c h1 h2:=by simp only[decide_eq_true_eq]at *;show List.lt_trans h1 h2
 negTrans a b c h:=by
  simp only[decide_eq_true_eq]at *;by_cases mT:a<b
  . show Zl mT
  . show YY (List.lt_of_le_of_lt (List.not_lt.mp mT) h)
 total a b h1 h2:=by simp only[decide_eq_false_iff_not]at *;show List.le_antisymm (List.not_lt.mp h2) (List.not_lt.mp h1)
 keyOf v:=match v with |YV a=>T a |_=>J
 dflt:=[]
noncomputable def oO:aW->Nat
 |none=>2
 |some (.inl _)=>0
 |some (.inr _)=>1
def Rr{i bs:TC}(h:a≠b):(a::i<b::bs) ↔ a<b:=by rw[List.cons_lt_cons_iff];show#[λz=>z.elim id λz=>absurd z.1 h,Zl]
def Wx{a b:List Nat}:(a.map Int.ofNat<b.map Int.ofNat) ↔ a<b:=by
 induction a generalizing b with
 |nil=>cases b with
  |nil=>show#[λh=>absurd h (),λh=>absurd h ()]
  |cons y b=>show#[λ_=>List.nil_lt_cons _ _,λ_=>List.nil_lt_cons _ _]
 |cons x a i=>cases b with
  |nil=>show#[λh=>absurd h (List.not_lt_nil _),λh=>absurd h (List.not_lt_nil _)]
  |cons y b=>
   rw[dE,dE,List.cons_lt_cons_iff,List.cons_lt_cons_iff,i];show#[λz=>z.elim (λz=>Zl ∅) λz=>YY #[Int.ofNat.inj z.1,z.2],λz=>z.elim (λz=>Zl ∅) λz=>YY #[congrArg _ z.1,z.2]]
section
variable {prog:Program}{w:World}{A:Around}{s:Shared}
def NS(W:(eN prog w).is k u=G)(F:(eN prog w).is l v=G)(e:oO k=oO l)(ne:¬ k=l)(h:Q (decide (bE k<bE l)) s):wpAny (model prog w) A (oneLt' b u v) Q (λ_ _=>False) s:=by
 obtain⟨rfl,rfl⟩|⟨x,rfl,N⟩:=eY_ W
 . obtain⟨rfl,_⟩|⟨y,rfl,D⟩:=eY_ F
   . show absurd O ne
   . rcases y with y|y<;>cases e
 . obtain⟨rfl,_⟩|⟨y,rfl,D⟩:=eY_ F
   . rcases x with x|x<;>cases e
   . rcases di N with ⟨i,t,rfl,rfl⟩|⟨i,t,rfl,rfl⟩<;>obtain⟨j,t',rfl,rfl⟩|⟨j,t',rfl,rfl⟩:=di D
     . have q:decide (bE (!(.inl i))<bE (!(.inl j)))=decide (i<j):=decide_eq_decide.mpr (by show [0,i]<[0,j] ↔ _;simp[List.cons_lt_cons_iff])
       rw[q]at h;cases b with
       |true=>show oneLt_int h
       |false=>show kat_one _ _ (lt_int h)
     . cases e
     . cases e
     . have q:decide (bE (!(.inr i))<bE (!(.inr j)))=decide (i.cps.toList<j.cps.toList):=decide_eq_decide.mpr (by show (1::_:List Int)<1::_ ↔ _;rw[List.cons_lt_cons_iff,<-Wx];show#[λz=>z.elim (λz=>absurd z ()) (·.2),λz=>YY #[O,z]])
       rw[q]at h;cases b with
       |true=>show oneLt_str h
       |false=>show kat_one _ _ (lt_str h)
end
end L2
namespace L2
open PySem PySem.Spec PyProof.Rows PySem.W
def KR(h:bE k=bE l):k=l:=by
 obtain _|i|x:=k
 . obtain _|j|y:=l
   . rfl
   . cases h
   . cases h
 . obtain _|j|y:=l
   . cases h
   . cases h;rfl
   . cases h
 . obtain _|j|y:=l
   . cases h
   . cases h
   . let e:=(List.cons.inj h).2;let z:=(List.map_inj_right λa b q=>Int.ofNat.inj q).mp e;obtain⟨⟨y⟩⟩:=y;cases z;rfl
def Ek{k l:List aW}(h:k.map bE=l.map bE):k=l:=(List.map_inj_right λ_ _ q=>KR q).mp h
section
variable {prog:Program}
theorem T9:∀{ks ls:List aW}{F vs:List Value}(i:Nat),ItemsAre (eN prog w) ks F->ItemsAre (eN prog w) ls vs->ks.map oO=ls.map oO->Q (decide (ks.map bE<ls.map bE)) s->KatLex prog w A b M Q (F.zip vs) i s
 |[],[],_,_,i,.nil,.nil=>λ_ h=>kat_nil h
 |[],_::_,_,_,i,.nil,.cons _ _=>λe _=>by cases e
 |_::_,[],_,_,i,.cons _ _,.nil=>λe _=>by cases e
 |k::ks,l::ls,u::F,v::vs,i,.cons N j,.cons W D=>λe h=>by
  let e1:=(List.cons.inj e).1;let e2:=(List.cons.inj e).2;show kat_cons ((eN prog w).eqBool N W (kat_go (λq=>?_) λq=>?_))
  . let q:=of_decide_eq_true q;subst q;show kat_yes (T9 (i+1) j D e2 ?_);have:decide ((k::ks).map bE<(k::ls).map bE)=decide (ks.map bE<ls.map bE):=by show decide_eq_decide.mpr ?_;rw[dE,dE,List.cons_lt_cons_iff];show#[λz=>z.elim (λz=>absurd z ∅) λz=>z.2,λz=>YY #[O,z]]
    rw[this]at h;show h
  . let q:=of_decide_eq_false q;show kat_no (NS N W e1 q ?_);have:decide ((k::ks).map bE<(l::ls).map bE)=decide (bE k<bE l):=by show decide_eq_decide.mpr ?_;show Rr λz=>q (KR z)
    rw[this]at h;show h
def xM(prog:Program)(w:World)(sh:List Nat)(T:Addr->Option TC)(h:Heap):Prop:=∀x c,T x=!c->∃ks,c=ks.map bE/\ks.map oO=sh/\(tupleKind (eN prog w)).is h ks x
def Z4(N:xM prog w sh T s.heap):qd (tupK T) (tuples' b) prog w A s:=by
 intro E x y c d Q j i q;cases x<;>simp only[reduceCtorEq]at j;cases y<;>simp only[reduceCtorEq]at i;rename_i x y;let(ks,rfl,k1,o1,i1,n1,g1,_,d1,F):=N x c j;let(ls,rfl,W,o2,i2,n2,g2,_,d2,z):=N y d i;have len:∀{ks:List aW}{D:List Value},ItemsAre (eN prog w) ks D->D.length=ks.length:=λt=>by
  induction t with
  |nil=>rfl
  |cons _ _ ih=>rw[be,be,ih]
 have le:i1.size=i2.size:=by
  rw[<-fz,<-fz,len F,len z];have:=congrArg List.length (k1.trans W.symm)
  rwa [bq,bq]at this
 show kat_lt g1 d1 g2 d2 ?_;rw[im ()];show T9 0 F z ∅ q
end
end L2
namespace L2
open PySem PySem.Spec PyProof.Rows PySem.W
abbrev yH(T:Addr->Option TC)(v:Value):Option TC:=(tupK T).keyOf v
def xM.grown(t:xM prog w sh T h)(k:∀x c,T x=!c->∀o,h.get? x=!o->h'.get? x=!o):xM prog w sh T h':=λx c e=>by let(ks,q,i,j):=t x c e;show#[ks,q,i,zJ j (k x c e)]
section
variable {prog:Program}
theorem Em(Q:xM prog w (0::sh) T h):∀(vs:List Value),(∀v∈vs,∃c,yH T v=!c)->∃fs,KatTups h vs fs/\fs.length=vs.length/\∀f∈fs,∃i t,f=Value.int i t
 |[]=>λ_=>#[[],KatTups.nil,O,λf q=>by cases q]
 |v::vs=>λN=>by
  let(fs,k1,k2,k3):=Em Q vs λu z=>N u (cv _ z);let(c,ec):=N v bi;cases v<;>simp only[yH,reduceCtorEq]at ec;rename_i a;let(ks,e1,F,o,items,n,g,gc,gd,W):=Q a c ec;cases ks with
  |nil=>cases F
  |cons k ks=>
   generalize hl:items.toList=l at W;cases W with
   |cons z hus=>
    rename_i u us;have i0:items[0]?=!u:=by rw[<-Array.getElem?_toList,hl];rfl
    show#[u::fs,KatTups.cons g gc gd i0 k1,by rw[be,be,k2],λf j=>?_];obtain rfl|j:=aT.mp j
    . let D:=(List.cons.inj F).1;obtain⟨rfl,rfl⟩|⟨x,rfl,hx⟩:=eY_ z
      . cases D
      . obtain⟨i,t,rfl,rfl⟩|⟨i,t,rfl,rfl⟩:=di hx
        . show#[i,t,O]
        . cases D
    . show k3 f j
def Wy(F:xM prog w (0::sh) T s.heap){vs:List Value}(q:∀v∈vs,∃c,yH T v=!c)(W:0<vs.length)(h:Q (tuples' G) s):wpAny (model prog w) A (keyKind' vs.toArray) Q E s:=by
 let(fs,z,N,D):=Em F vs q;show kat_kind (T:=.type "int") z () (λf j=>?_) () ?_
 . let(i,t,rfl):=D f j;show .now
 . show h
def Rt{TT:String}{Q:Value->Shared->Prop}(kz:TT="set"\/TT="dict")(NU:s.TypeIs (YV d) TT)(hI:DX prog w A.in1.in1 d ok { s with heap:=s.heap.push vG })(hT:xM prog w (0::sh) T s.heap)
 (hok:∀vs,ok vs->vs.length<100000/\(∀v∈vs,∃c,yH T v=!c)/\(vs.map (yH T)).Nodup)
 (h:∀h' dr tk L (out:Array Value) c vs,ok vs->out.toList.Perm vs->(∀(i j:Nat)(u v:Value)(x y:TC),i<j->out.toList[i]?=!u->out.toList[j]?=!v->yH T u=!x->yH T v=!y->x<y)->(∀b o,s.heap.get? b=!o->h'.get? b=!o)->h'.get? L=!(seqObj "list" out c)->s.heap.objs.size<=L->Q (YV L) { s with heap:=h',drawn:=dr,toks:=tk }):
 wpAny (model prog w) A (call (.builtin "sorted") [YV d]) Q E s:=by
 show Calls.call_function_entry kind_sorted plain_sorted entry_sorted (args_sorted1 _) ?_;show al (ay (al (DY kz NU hI λh1 dr tk vs hv k hz=>?_)));let(hl,hc,hn):=hok vs hv;show al (wpAny_newList ?_ (by rw[sizeLine_eq];lia));have g0:(h1.push (seqObj "list" vs.toArray 0)).get? h1.objs.size=!(seqObj "list" vs.toArray 0):=dA _ O;have tz:∀x c,T x=!c->∃o,s.heap.get? x=!o:=λx c e=>by let(ks,_,_,o,items,n,g,_):=hT x c e;show#[o,g]
 have i6:∀x c,T x=!c->x<h1.objs.size:=λx c e=>by let(o,g):=tz x c e;show bX (k x o g)
 have i7:∀h',(∀b o,b≠h1.objs.size->(h1.push (seqObj "list" vs.toArray 0)).get? b=!o->h'.get? b=!o)->xM prog w (0::sh) T h':=λh' k2=>hT.grown λx c e o g=>k2 x o (c_ (i6 x c e)) (cf _ (k x o g));have ko:KeysOf (tupK T) (pairsOf vs):=λp hp=>by rw[pairsOf_toList]at hp;show hc _ (iP hp).1
 have dk:DK (tupK T) (pairsOf vs):=by
  unfold DK;rw[pairsOf_toList];have e:(vs.zip vs).map (λp=>(tupK T).keyOf p.1)=((vs.zip vs).map Prod.fst).map (yH T):=by rw[fS];rfl
  rw[e,List.map_fst_zip ()];show hn
 show al (wpAny_holding (wpAny_call_entry slot_list_sort #[_,g0,O] entry_list_sort (Jl (κ:=tupK T) g0 (λh' k2=>Z4 (i7 h' k2)) ko (λh' k2 v₁ v₂ ax e {Q} q=>Wy (i7 h' k2) (by rw[<-e];show hc) (by simp) q) dk hl λD p1 p2=>#[_,O,?_]) (args_list_sort _)));let(e,he):=sortedHeap_at g0;have jS:(arrOf D).toList.Perm (vs.zip vs):=by rw[<-pairsOf_toList];show Array.perm_iff_toList_perm.mp p1
 have N:∀p,p∈(arrOf D).toList->p.1=p.2/\p.1∈vs:=λp W=>mem_zip_self (jS.mem_iff.mp W);have eo:((arrOf D).map (·.2)).toList=(arrOf D).toList.map (·.1):=by rw[Array.toList_map];show qk λp W=>(N p W).1.symm
 have po:((arrOf D).map (·.2)).toList.Perm vs:=by
  rw[eo];have:=jS.map Prod.fst
  rwa [List.map_fst_zip ()]at this
 show ay #[_,O,h _ dr tk _ _ e vs hv po (λi j u v x y kA eu ev ex ey=>?_) (λb o q=>?_) he ?_]
 . let fF:=p1.size_eq.symm;have gi:(arrOf D)[i]?=!(u,u):=by
    rw[eo,c8]at eu;rw[<-Array.getElem?_toList];cases q:(arrOf D).toList[i]? with
    |none=>rw[q]at eu;cases eu
    |some p=>
     rw[q]at eu;let z:=N p (eR q);let(p1,p2):=p;cases eu;have:p1=p2:=z.1;subst this;rfl
   have gj:(arrOf D)[j]?=!(v,v):=by
    rw[eo,c8]at ev;rw[<-Array.getElem?_toList];cases q:(arrOf D).toList[j]? with
    |none=>rw[q]at ev;cases ev
    |some p=>
     rw[q]at ev;let z:=N p (eR q);let(p1,p2):=p;cases ev;have:p1=p2:=z.1;subst this;rfl
   have lj:j<(arrOf D).size:=by
    obtain c|c:=Nat.lt_or_ge j (arrOf D).size
    . show c
    . rw[iF c]at gj;cases gj
   let q:=p2 i j () ();have ki:KK (tupK T) (arrOf D) i=x:=by unfold KK;rw[gi];show ((tupK T).keyOf u).getD _=x;rw[show (tupK T).keyOf u=some x from ex];rfl
   have kj:KK (tupK T) (arrOf D) j=y:=by unfold KK;rw[gj];show ((tupK T).keyOf v).getD _=y;rw[show (tupK T).keyOf v=some y from ey];rfl
   rw[ki,kj]at q;let q':=of_decide_eq_false q;obtain z|z:=Classical.em (x=y)
   . exfalso;let nd:=(po.map _).nodup_iff.mpr hn;have:=List.pairwise_iff_getElem.mp nd i j;let(tq,NV):=de.mp eu;let(NW,NX):=de.mp ev;show this (by rw[bq];show tq) (by rw[bq];show NW) kA ?_;rw[List.getElem_map,List.getElem_map,NV,NX,ex,ey,z]
   . show Classical.byContradiction λz2=>z (List.le_antisymm () ())
 . show(sortedHeap_old (c_ (bX (k b o q))) (by rw[size_push'];show gT (bX (k b o q)))).trans (cf _ (k b o q))
 . show hz
end
end L2
namespace L2
open PySem PySem.Spec PyProof.Rows PySem.W
def NY{prog:Program}{K:Type}[DecidableEq K](knd:HeapKind prog w K)(ZN:K->Addr->Prop):HeapKind prog w K where
 is:=λh k b=>knd.is h k b/\ZN k b
 hash:=knd.hash
 draws:=knd.draws
 room:=knd.room
 inj:=λx y=>knd.inj x.1 y.1
 keeps:=λx a b c=>#[knd.keeps x.1 a b c,x.2]
 pyHash:=λr x q=>knd.pyHash r x.1 q
 eqBool:=λr x y q=>knd.eqBool r x.1 y.1 q
 quiet:=λx q=>knd.quiet x.1 q
abbrev BK:=List (Addr×List aW)
def En(P:Program)(w:World)(a:Addr)(bs:BK):Heap->Prop:=λh=>∃es ep t,∃ks:List (List aW),lG h a es ep t (not (aI w))/\es.size=ks.length/\(∀(i:Nat) e,es[i]?=!e->∃k b,ks[i]?=!k/\e=((tupleKind (eN P w)).hash k,Value.ref b)/\(b,k)∈bs)/\ks.Nodup/\(∀y,y∈ks ↔ ∃p∈bs,p.2=y)/\es.size<=bs.length
section
variable {X:Cx}
theorem HF:∀{bs:BK}{i:List Value},am (bs.map λp=>V.ref p.1) i->i=bs.map λp=>Value.ref p.1
 |[],i,h=>h.zero
 |p::bs,i,h=>by
  cases h with
  |cons r t=>
   rw[dE,HF t];let e:=r;rw[e]
def Ys(X:Cx):List V->Hp->VK->Prop:=λxs H Q=>∃a bs,xs=[.ref a]/\bV X.K H a (bs.map λp:Addr×List aW=>V.ref p.1)/\(∀p∈bs,cT X.K H p.1 (p.2.map nj)/\ut p.2)/\bs.length<9000/\∀l,H l=J->Q (.ref l) (aS H l (.ext (En X.prog X.w l bs)))
def HH(hc:X.calm=G)(hu:X.A.units+64<cLine):mj X (.type "set") (Ys X):=by
 intro ae s U H xs us Q I r h;let(a,bs,rfl,hq,hb,hl,q):=h;let(u,rfl,rx):=d4 r;cases rx;let(br,rv,pl,hz):=I.list hq;let ei:=HF rv;subst ei;have hs:(bs.map λp=>Value.ref p.1).toArray.size=bs.length:=by simp
 have N:∀i (hi:i<bs.length),bs.getD i (0,[])=bs[i]:=λi hi=>by simp[hi]
 have W:∀p∈bs,(tupleKind (eN X.prog X.w)).is s.heap p.2 p.1:=λp hp=>t8 I (hb p hp).1;show Ww (knd:=NY (tupleKind (eN X.prog X.w)) λk b=>(b,k)∈bs) (λx q=>Nx x.1 q) (λx a b c=>#[Nu x.1 a b c,x.2]) (λx q=>#[zJ x.1 q,x.2]) (λo x q=>Ny o x.1 q)
  (by show X.A.units+1+1+1<cLine;lia) (val:=λi=>(bs.getD i (0,[])).2) (ad:=λi=>(bs.getD i (0,[])).1) (I.ok.hd hc) pl.isList (λi v e=>?_) (λi hi=>?_) (by rw[hs];show bs.length+1<9900;lia) λh' tk es F t ks S mem sz kp=>?_
 . rw[List.getElem?_toArray,c8]at e;cases q:bs[i]? with
   |none=>rw[q]at e;cases e
   |some p=>
    rw[q]at e;cases e;let(hi,F):=de.mp q;rw[N i hi,F]
 . have hi:i<bs.length:=by rw[hs]at hi;show hi
   let hm:=List.getElem_mem hi;rw[N i hi];let z:=W _ hm;show#[#[z,hm],?_,(hb _ hm).2];let(o,items,n,g,_):=z;show#[o,g]
 . have N0:es.size<=bs.length:=by rw[hs]at sz;show sz
   have ml:∀y,y∈ks ↔ ∃p∈bs,p.2=y:=λy=>by
    rw[mem y];constructor
    . rintro⟨j,D,e⟩;have D:j<bs.length:=by rw[hs]at D;show D
      show#[bs[j],List.getElem_mem D,?_];rw[<-N j D];show e
    . rintro⟨p,hp,e⟩;let(j,D,ej):=List.mem_iff_getElem.mp hp;show#[j,by rw[hs];show D,by rw[N j D,ej];show e]
   show#[.ref s.heap.objs.size,_,I.laid (λb o e=>kp b o (bX e) e) () (show eX X.prog X.w _ h' _ (.ext (En X.prog X.w s.heap.objs.size bs)) from #[#[es,F,t,ks,S.1,S.el.sz,λi e q=>?_,S.nd,ml,N0],#[_,S.at_],λh1 h2 N1 k=>by let(es,F,t,ks,S,r):=N1;show #[es,F,t,ks,S.moved k,r]]),O,q _ (I.hok.fresh ())];let(k,b,e1,e2,e3):=S.el.at_ i e q;show#[k,b,e1,e2,e3.2]
def uv(bs:BK)(b:Addr):Option TC:=(bs.find? λp=>p.1==b).map λp=>p.2.map bE
def Ua(h:uv bs b=!c):∃k,(b,k)∈bs/\c=k.map bE:=by
 unfold uv at h;cases q:bs.find? λp=>p.1==b with
 |none=>rw[q]at h;cases h
 |some p=>
  rw[q]at h;cases h;have e:p.1=b:=by have:=List.find?_some q;show eq_of_beq this
  show#[p.2,by rw[<-e];show List.mem_of_find?_eq_some q,O]
def Wz{k:List aW}(hi:∀k',(b,k')∈bs->k'=k)(h:(b,k)∈bs):uv bs b=!(k.map bE):=by
 unfold uv;cases q:bs.find? λp=>p.1==b with
 |none=>
  have:=List.find?_eq_none.mp q (b,k) h;show absurd (io b) this
 |some p=>
  have e:p.1=b:=by have:=List.find?_some q;show eq_of_beq this
  let m:=List.mem_of_find?_eq_some q;let(j,p2):=p;subst e;rw[hi p2 m];rfl
theorem HJ{bs:BK}:∀(vs:List Value),(∀v∈vs,∃b k,v=Value.ref b/\(b,k)∈bs)->∃cs:BK,vs=cs.map (λp=>Value.ref p.1)/\∀p∈cs,p∈bs
 |[]=>λ_=>#[[],O,λp h=>by cases h]
 |v::vs=>λh=>by
  let(cs,e,m):=HJ vs λu j=>h u (cv _ j);let(b,k,rfl,hk):=h v bi;show#[(b,k)::cs,by rw[dE,e],λp i=>?_];obtain rfl|i:=aT.mp i
  . show hk
  . show m p i
def Ub(X:Cx):List V->Hp->VK->Prop:=λxs H Q=>∃a bs sh,xs=[.ref a]/\H a=!(.ext (En X.prog X.w a bs))/\(∀p∈bs,cT X.K H p.1 (p.2.map nj)/\p.2.map oO=0::sh)/\bs.length<9000/\
 ∀l (cs:BK),H l=J->(∀p∈cs,p∈bs)->(∀p∈bs,∃q∈cs,q.2=p.2)->cs.Pairwise (λp q=>p.2.map bE<q.2.map bE)->Q (.ref l) (aS H l (.lst (cs.map λp=>V.ref p.1)))
theorem HN:∀{bs:BK},am (bs.map λp=>V.ref p.1) (bs.map λp=>Value.ref p.1)
 |[]=>.nil
 |p::bs=>.cons O HN
def zK(hc:X.calm=G):mj X (.builtin "sorted") (Ub X):=by
 intro ae s U H xs us Q I r h;let(a,bs,sh,rfl,hq,hb,hl,q):=h;let(u,rfl,rx):=d4 r;cases rx;let((es,ep,t,ks,S,sz,el,nd,mem,zk),_):=I.hok a _ hq;have N:∀p∈bs,(tupleKind (eN X.prog X.w)).is s.heap p.2 p.1:=λp hp=>t8 I (hb p hp).1;have W:∀{b k k'},(b,k)∈bs->(b,k')∈bs->k'=k:=λh1 h2=>(tupleKind (eN X.prog X.w)).inj (N _ h2) (N _ h1);have hT:xM X.prog X.w (0::sh) (uv bs) s.heap:=λx c e=>by let(k,hk,rfl):=Ua e;show#[k,O,(hb _ hk).2,N _ hk]
 have tm:∀{b k},(b,k)∈bs->uv bs b=!(k.map bE):=λh1=>Wz (λk' h2=>W h1 h2) h1;have cd:es.toList.map (λe=>yH (uv bs) e.2)=ks.map λk=>!(k.map bE):=by
  show List.ext_getElem? λi=>?_;rw[c8,c8,Array.getElem?_toList];cases e:es[i]? with
  |none=>
   have:ks[i]?=J:=by rw[List.getElem?_eq_none_iff];rw[Array.getElem?_eq_none_iff]at e;lia
   rw[this];rfl
  |some x=>
   let(k,b,F,rfl,D):=el i x e;rw[F];show some (uv bs b)=!(!(k.map bE));rw[tm D]
 show Rt (TT:="set") (Zl O) #[_,S.at_,O] (Ed (by simpa using I.ok.hd hc) (S.moved λo e=>cf _ e)) hT (λvs p=>?_) λh' dr tk L out c vs p po so kp g hL=>?_
 . show#[?_,λv hv=>?_,?_]
   . have:=p.length_eq;simp only[bq,fz]at this;lia
   . let(e,he,rfl):=cK.mp (p.mem_iff.mp hv);let(i,hi):=List.getElem?_of_mem he;rw[Array.getElem?_toList]at hi;let(k,b,F,rfl,D):=el i e hi;show#[_,tm D]
   . let pp:=p.map (yH (uv bs));rw[fS]at pp;have e:es.toList.map (yH (uv bs) ∘ λx=>x.2)=ks.map λk=>!(k.map bE):=cd;rw[e]at pp;show pp.nodup_iff.mpr (List.pairwise_map.mpr (List.Pairwise.imp (λ{x y} ne z=>ne ?_) nd));show Ek (d_ z)
 . have N2:∀v∈out.toList,∃b k,v=Value.ref b/\(b,k)∈bs:=λv hv=>by let(e,he,rfl):=cK.mp (p.mem_iff.mp (po.mem_iff.mp hv));let(i,hi):=List.getElem?_of_mem he;rw[Array.getElem?_toList]at hi;let(k,b,F,rfl,D):=el i e hi;show#[b,k,O,D]
   let(cs,ec,mc):=HJ out.toList N2;have lc:cs.length<=9000:=by let F:=congrArg List.length ec;let e2:=po.length_eq;let D:=p.length_eq;simp only[bq,fz]at F e2 D;lia
   let I1:=I.laid (t':=tk) kp hL (show eX X.prog X.w _ h' L (.lst (cs.map λp=>V.ref p.1)) from #[by rw[bq,sizeLine_eq];lia,out.toList,c,by rw[ec];show HN,g]);show#[.ref L,_,I1.drew dr,O,q L cs (I.hok.fresh hL) mc (λx hx=>?_) ?_]
   . let(i,hi):=List.getElem?_of_mem ((mem x.2).mpr #[x,hx,O]);have li:i<es.size:=by rw[sz];show(de.mp hi).1
     let(k,b,F,e2,D):=el i _ (Array.getElem?_eq_getElem li);rw[hi]at F;cases F;have m1:Value.ref b∈out.toList:=by show po.mem_iff.mpr (p.mem_iff.mpr (cK.mpr #[es[i],by simp,?_]));rw[e2]
     rw[ec]at m1;let(y,hy,ey):=cK.mp m1;let(y1,y2):=y;have N3:y1=b:=by cases ey;rfl
     subst N3;show#[_,hy,W D (mc _ hy)]
   . show List.pairwise_iff_getElem.mpr λi j hi hj kA=>?_;have gi:out.toList[i]?=!(Value.ref cs[i].1):=by rw[ec,c8,et hi];rfl
     have gj:out.toList[j]?=!(Value.ref cs[j].1):=by rw[ec,c8,et hj];rfl
     show so i j _ _ _ _ kA gi gj (tm (mc _ (List.getElem_mem hi))) (tm (mc _ (List.getElem_mem hj)))
end
end L2
namespace PL
open PySem PySem.Spec PyProof.Rows L2
inductive PV where
 |non
 |bl (b:Bool)
 |int (i:Int)
 |str (x:Str)
 |tup (ps:List PV)
 |lst (ps:List PV)
 |dk (ks:List da) (ps:List PV)
 |dt (ks:List (List da)) (ps:List PV)
 |obj (C:Str) (ks:List Str) (ps:List PV)
 |df (ks:List da) (ps:List PV)
 |dtf (ks:List (List da)) (ps:List PV)
 |dx (hk:List aW->Int) (ks:List (List aW)) (ps:List PV)
 |exc (C:Str)
 |fn (x:Str)
 |ptr (n:Nat)
structure ZG where
 z:Hp
 g:List Addr
def ig(Z Z':ZG):Prop:=eQ Z.z Z'.z/\Z.g <+: Z'.g
theorem ig.refl(Z:ZG):ig Z Z:=#[eQ.refl _,jf _]
theorem ig.trans(a:ig Z Z1)(b:ig Z1 Z2):ig Z Z2:=#[a.1.trans b.1,a.2.trans b.2]
def Z5{α:Type}{l r:List α}{n:Nat}{a:α}(h:l <+: r)(e:l[n]?=!a):r[n]?=!a:=by let(t,rfl):=h;rw[hE (de.mp e).1];show e
def CN(K:FG)(C:Str)(c:Addr):Prop:=W.nsIn K mainGlobals C=!(!(YV c))
mutual
noncomputable def ba (K:FG) (Z:ZG):PV->V->Prop
 |.non,v=>v=.non
 |.bl b,v=>v=.bl b
 |.int i,v=>v=.int i
 |.str x,v=>v=.str x
 |.tup ps,v=>∃a vs,v=.ref a/\cT K Z.z a vs/\aK K Z ps vs
 |.lst ps,v=>∃a vs,v=.ref a/\bV K Z.z a vs/\aK K Z ps vs
 |.dk ks ps,v=>∃a a_,v=.ref a/\Z.z a=!(.dK a_)/\a_.map (·.1)=ks/\aK K Z ps (a_.map (·.2))
 |.dt ks ps,v=>∃a a_,v=.ref a/\Z.z a=!(.dT a_)/\a_.map (·.1)=ks/\aK K Z ps (a_.map (·.2))
 |.obj C ks ps,v=>∃a c dx fs,v=.ref a/\CN K C c/\Z.z a=!(.ins c dx fs)/\fs.map (·.1)=ks/\aK K Z ps (fs.map (·.2))
 |.df ks ps,v=>∃a o a_,v=.ref a/\Z.z a=!(.frz o (.dK a_))/\a_.map (·.1)=ks/\aK K Z ps (a_.map (·.2))
 |.dtf ks ps,v=>∃a o a_,v=.ref a/\Z.z a=!(.frz o (.dT a_))/\a_.map (·.1)=ks/\aK K Z ps (a_.map (·.2))
 |.dx hk ks ps,v=>∃a xs,v=.ref a/\Z.z a=!(.ext (vQ hk a xs))/\xs.map (·.1)=ks/\(∀x∈xs,cT K Z.z x.2.1 (x.1.map nj))/\aK K Z ps (xs.map (·.2.2))
 |.exc C,v=>∃a c,v=.ref a/\CN K C c/\Z.z a=!(.ext (zC a c))
 |.fn x,v=>∃a,v=.ref a/\CN K x a
 |.ptr n,v=>∃a,v=.ref a/\Z.g[n]?=!a
noncomputable def aK (K:FG) (Z:ZG):List PV->List V->Prop
 |[],vs=>vs=[]
 |p::ps,vs=>∃v r,vs=v::r/\ba K Z p v/\aK K Z ps r
end
def bV.same{K:FG}(s:eQ Z Z')(h:bV K Z a vs):bV K Z' a vs:=s.seq h
def cT.same{K:FG}(s:eQ Z Z')(h:cT K Z a vs):cT K Z' a vs:=by
 obtain (h|⟨o,h⟩)|h:=h
 . show Zl (Zl (s _ _ h))
 . show Zl (YY #[o,s _ _ h])
 . show YY h
mutual
theorem ba.mono{K:FG}(s:ig Z Z'):∀{p:PV}{v:V},ba K Z p v->ba K Z' p v
 |.non,v,h=>h
 |.bl _,v,h=>h
 |.int _,v,h=>h
 |.str _,v,h=>h
 |.tup ps,v,h=>by let(a,q,e,h1,h2):=h;show#[a,q,e,cT.same s.1 h1,aK.mono s h2]
 |.lst ps,v,h=>by let(a,q,e,h1,h2):=h;show#[a,q,e,bV.same s.1 h1,aK.mono s h2]
 |.dk ks ps,v,h=>by let(a,i,e,h1,h2,j):=h;show#[a,i,e,s.1 _ _ h1,h2,aK.mono s j]
 |.dt ks ps,v,h=>by let(a,i,e,h1,h2,j):=h;show#[a,i,e,s.1 _ _ h1,h2,aK.mono s j]
 |.obj C ks ps,v,h=>by let(a,c,dx,fs,e,z,h1,h2,j):=h;show#[a,c,dx,fs,e,z,s.1 _ _ h1,h2,aK.mono s j]
 |.df ks ps,v,h=>by let(a,o,i,e,h1,h2,j):=h;show#[a,o,i,e,s.1 _ _ h1,h2,aK.mono s j]
 |.dtf ks ps,v,h=>by let(a,o,i,e,h1,h2,j):=h;show#[a,o,i,e,s.1 _ _ h1,h2,aK.mono s j]
 |.dx hk ks ps,v,h=>by let(a,xs,e,h1,h2,F,j):=h;show#[a,xs,e,s.1 _ _ h1,h2,λx D=>cT.same s.1 (F x D),aK.mono s j]
 |.exc C,v,h=>by let(a,c,e,z,h1):=h;show#[a,c,e,z,s.1 _ _ h1]
 |.fn x,v,h=>by  show h
 |.ptr n,v,h=>by let(a,e,h1):=h;show#[a,e,Z5 s.2 h1]
theorem aK.mono{K:FG}(s:ig Z Z'):∀{ps:List PV}{vs:List V},aK K Z ps vs->aK K Z' ps vs
 |[],vs,h=>by  show h
 |p::ps,vs,h=>by let(v,r,e,h1,h2):=h;show#[v,r,e,ba.mono s h1,aK.mono s h2]
end
section
variable {K:FG}{Z:ZG}
theorem aK.length:∀{ps:List PV}{vs:List V},aK K Z ps vs->vs.length=ps.length
 |[],vs,h=>by  subst h;rfl
 |p::ps,vs,h=>by let(v,r,rfl,_,h2):=h;simp[aK.length h2]
def aK.nil:aK K Z [] []:=by  rfl
def aK.cons{p:PV}{ps:List PV}{v:V}{vs:List V}(h:ba K Z p v)(t:aK K Z ps vs):aK K Z (p::ps) (v::vs):=by  show#[v,vs,O,h,t]
def aK.inv(h:aK K Z (p::ps) vs):∃v r,vs=v::r/\ba K Z p v/\aK K Z ps r:=by  show h
def aK.inv0(h:aK K Z [] vs):vs=[]:=by  show h
theorem aK.append:∀{ps qs:List PV}{vs ws:List V},aK K Z ps vs->aK K Z qs ws->aK K Z (ps++qs) (vs++ws)
 |[],qs,vs,ws=>λh g=>by have:=h.inv0;grind
 |p::ps,qs,vs,ws=>λh g=>by let(v,r,rfl,h1,h2):=h.inv;show aK.cons h1 (aK.append h2 g)
theorem aK.get:∀{ps:List PV}{vs:List V}{i:Nat}{p:PV},aK K Z ps vs->ps[i]?=!p->∃v,vs[i]?=!v/\ba K Z p v
 |[],vs,i,p=>λh e=>by grind
 |q::ps,vs,0,p=>λh e=>by let(v,r,rfl,h1,h2):=h.inv;grind
 |q::ps,vs,i+1,p=>λh e=>by let(v,r,rfl,h1,h2):=h.inv;let(u,j,z):=aK.get h2 ();grind
def aK.getV{i:Nat}(h:aK K Z ps vs)(e:vs[i]?=!v):∃p,ps[i]?=!p/\ba K Z p v:=by
 have hi:i<ps.length:=by rw[<-h.length];show(de.mp e).1
 let(u,h1,h2):=h.get (et hi);grind
theorem aK.set(j:ba K Z q u):∀{ps:List PV}{vs:List V}(i:Nat),aK K Z ps vs->aK K Z (ps.set i q) (vs.set i u)
 |[],vs,i,h=>by have:=h.inv0;grind
 |p::ps,vs,0,h=>by let(v,r,rfl,h1,h2):=h.inv;show aK.cons j h2
 |p::ps,vs,i+1,h=>by let(v,r,rfl,h1,h2):=h.inv;show aK.cons h1 (aK.set j i h2)
theorem aK.take:∀{ps:List PV}{vs:List V}(n:Nat),aK K Z ps vs->aK K Z (ps.take n) (vs.take n)
 |[],vs,n,h=>by have:=h.inv0;grind
 |p::ps,vs,0,h=>by  show .nil
 |p::ps,vs,n+1,h=>by let(v,r,rfl,h1,h2):=h.inv;show aK.cons h1 (aK.take n h2)
theorem aK.drop:∀{ps:List PV}{vs:List V}(n:Nat),aK K Z ps vs->aK K Z (ps.drop n) (vs.drop n)
 |[],vs,n,h=>by have:=h.inv0;grind
 |p::ps,vs,0,h=>h
 |p::ps,vs,n+1,h=>by let(v,r,rfl,h1,h2):=h.inv;show aK.drop n h2
end
inductive Lc where
 |sh (p:PV)
 |own (p:PV)
open PL.PV renaming lst→R,int→ZI,str→ZH,tup→ZB,ptr→ZA
open PL.Lc renaming own→Zs,sh→Zp
noncomputable def Lc.pv:Lc->PV
 |Zp p=>p
 |Zs p=>p
abbrev Mu:=List (Option PV)
structure Ev where
 vs:List (Option Lc)
 mu:Mu
abbrev Pd:=List (V×Lc)
def qC(K:FG)(Z:ZG)(H:Hp)(a:Addr):PV->Prop
 |R ps=>∃vs,H a=!(.lst vs)/\aK K Z ps vs
 |.dk ks ps=>∃a_,H a=!(.dK a_)/\a_.map (·.1)=ks/\aK K Z ps (a_.map (·.2))
 |.dt ks ps=>∃a_,H a=!(.dT a_)/\a_.map (·.1)=ks/\aK K Z ps (a_.map (·.2))
 |.dx hk ks ps=>∃xs,H a=!(.ext (vQ hk a xs))/\xs.map (·.1)=ks/\(∀x∈xs,cT K Z.z x.2.1 (x.1.map nj))/\aK K Z ps (xs.map (·.2.2))
 |.exc C=>∃c,CN K C c/\H a=!(.ext (zC a c))
 |.obj C ks ps=>∃c dx fs,CN K C c/\H a=!(.ins c dx fs)/\fs.map (·.1)=ks/\aK K Z ps (fs.map (·.2))
 |_=>False
def VR(K:FG)(H0:Hp)(Z:ZG)(H:Hp)(v:Option V):Option Lc->Prop
 |none=>True
 |some (Zp p)=>∃x,v=!x/\ba K Z p x
 |some (Zs p)=>∃a,v=!(.ref a)/\qC K Z H a p/\Z.z a=J/\H0 a=J
noncomputable def lH:Option V×Option Lc->Option Addr
 |(!(.ref a),!(Zs _))=>!a
 |_=>J
abbrev Sl:=List (Option V×Option Lc)
def ag(K:FG)(H0:Hp)(Z:ZG)(H:Hp)(L:Sl):Prop:=(∀e∈L,VR K H0 Z H e.1 e.2)/\(L.filterMap lH).Nodup
noncomputable def cel (g:List Addr) (mu:Mu):Sl:=(g.map λa=>!(V.ref a)).zip (mu.map λo=>o.map Lc.own)
def uw(g:List Addr)(mu:Mu):List Addr:=(cel g mu).filterMap lH
def sl(g:List Addr)(U:L2.St)(Y:Ev)(pd:Pd):Sl:=cel g Y.mu++(U.zip Y.vs++pd.map λe=>(!e.1,!e.2))
def JL:HO->Prop
 |.tup _=>True
 |.frz _ _=>True
 |_=>False
structure jG(H0:Hp)(Z0 Z:ZG)(H:Hp):Prop where
 zh:eQ Z.z H
 h0:eQ H0 H
 z0:ig Z0 Z
 new:∀b o,Z.z b=!o->Z0.z b=!o\/H0 b=none\/JL o
def SR(K:FG)(H0:Hp)(Z0:ZG)(U:L2.St)(H:Hp)(Y:Ev)(pd:Pd):Prop:=U.length=Y.vs.length/\∃Z,Y.mu.length=Z.g.length/\jG H0 Z0 Z H/\ag K H0 Z H (sl Z.g U Y pd)
section
variable {K:FG}{H0 H H':Hp}{Z0 Z Z':ZG}{L L':Sl}{U:L2.St}{Y:Ev}{pd:Pd}
def ag.sub(h:ag K H0 Z H L)(s:List.Sublist L' L):ag K H0 Z H L':=#[λe i=>h.1 e ∅,h.2.sublist ∅]
def ag.perm(h:ag K H0 Z H L)(s:List.Perm L' L):ag K H0 Z H L':=#[λe i=>h.1 e ∅,(s.filterMap lH).nodup_iff.mpr h.2]
def qC.keep(h:qC K Z H a p)(z:ig Z Z')(e:H' a=H a):qC K Z' H' a p:=by
 cases p with
 |lst ps=>let(j,h1,h2):=h;show#[j,by rw[e];show h1,h2.mono z]
 |dk ks ps=>let(j,h1,h2,i):=h;show#[j,by rw[e];show h1,h2,i.mono z]
 |dt ks ps=>let(j,h1,h2,i):=h;show#[j,by rw[e];show h1,h2,i.mono z]
 |dx hk ks ps=>let(j,h1,h2,N,i):=h;show#[j,by rw[e];show h1,h2,λx D=>cT.same z.1 (N x D),i.mono z]
 |exc C=>let(c,q,h1):=h;show#[c,q,by rw[e];show h1]
 |obj C ks ps=>let(c,dx,fs,q,h1,h2,i):=h;show#[c,dx,fs,q,by rw[e];show h1,h2,i.mono z]
 |_=>show h
def qC.some(h:qC K Z H a p):∃o,H a=!o/\¬ JL o:=by
 cases p with
 |lst ps=>let(j,h1,h2):=h;show#[_,h1,λz=>z]
 |dk ks ps=>let(j,h1,h2,i):=h;show#[_,h1,λz=>z]
 |dt ks ps=>let(j,h1,h2,i):=h;show#[_,h1,λz=>z]
 |dx hk ks ps=>let(j,h1,h2,i):=h;show#[_,h1,λz=>z]
 |exc C=>let(c,D,h1):=h;show#[_,h1,λz=>z]
 |obj C ks ps=>let(c,dx,fs,D,h1,h2,i):=h;show#[_,h1,λz=>z]
 |_=>show h.elim
def qC.rep(h:qC K Z H a p)(z:ig Z Z')(e:Z'.z a=H a):ba K Z' p (.ref a):=by
 cases p with
 |lst ps=>let(j,h1,h2):=h;unfold ba;show#[a,j,O,bV.of ∅,h2.mono z]
 |dk ks ps=>let(j,h1,h2,i):=h;unfold ba;show#[a,j,O,by rw[e];show h1,h2,i.mono z]
 |dt ks ps=>let(j,h1,h2,i):=h;unfold ba;show#[a,j,O,by rw[e];show h1,h2,i.mono z]
 |dx hk ks ps=>let(j,h1,h2,N,i):=h;unfold ba;show#[a,j,O,by rw[e];show h1,h2,λx D=>cT.same z.1 (N x D),i.mono z]
 |exc C=>let(c,q,h1):=h;unfold ba;grind
 |obj C ks ps=>let(c,dx,fs,q,h1,h2,i):=h;unfold ba;show#[a,c,dx,fs,O,q,by rw[e];show h1,h2,i.mono z]
 |_=>show h.elim
def ag.step(h:ag K H0 Z H L)(z:ig Z Z')(hk:∀e∈L,∀a,lH e=!a->H' a=H a/\Z'.z a=J):ag K H0 Z' H' L:=by
 show#[λe F=>?_,h.2];let q:=h.1 e F;let(v,l):=e;cases l with
 |none=>trivial
 |some l=>
  cases l with
  |sh p=>let(x,i,D):=q;show#[x,i,D.mono z]
  |own p=>
   let(a,i,D,e3,N):=q;let j:=i;subst j;let(W,Q):=hk _ F a O;show#[a,O,D.keep z W,Q,N]
def jg(h:ag K H0 Z H L)(he:e∈L)(i:lH e=!a):Z.z a=J/\H0 a=J/\∃o,H a=!o/\¬ JL o:=by
 let(v,l):=e;let q:=h.1 _ he;cases l with
 |none=>cases v with
  |none=>cases i
  |some x=>cases x<;>cases i
 |some l=>
  cases l with
  |sh p=>cases v with
   |none=>cases i
   |some x=>cases x<;>cases i
  |own p=>
   let(b,F,N,Q,D):=q;let j:=F;subst j;cases i;show#[Q,D,N.some]
theorem ag.new(h:ag K H0 Z H L)(j:jG H0 Z0 Z H)(q:H a=J)(N:qC K Z (aS H a o) a p):jG H0 Z0 Z (aS H a o)/\ag K H0 Z (aS H a o) ((!(.ref a),!(Zs p))::L):=by
 let D:=j.zh.free q;let F:=j.h0.free q;show#[#[λb u e=>by rw[cR (eV e D)];show j.zh b u e,λb u e=>by rw[cR (eV e F)];show j.h0 b u e,j.z0,j.new],?_];have W:∀e∈L,∀b,lH e=!b->b≠a:=λe i b z=>by let(_,_,o',Q,_):=jg h i z;show eV Q q
 let st:=h.step (H':=aS H a o) (ig.refl Z) λe i b z=>#[cR ∅,(jg h i z).1];show#[λe i=>?_,?_]
 . obtain rfl|i:=aT.mp i
   . show#[a,O,N,D,F]
   . show st.1 e i
 . show f6.mpr #[λhm=>?_,st.2];grind
abbrev ZG.put(Z:ZG)(a:Addr)(o:HO):ZG:=#[aS Z.z a o,Z.g]
def ag.newF(h:ag K H0 Z H L)(i:jG H0 Z0 Z H)(F:H a=J):jG H0 Z0 (Z.put a o) (aS H a o)/\ig Z (Z.put a o)/\ag K H0 (Z.put a o) (aS H a o) L:=by
 let N:=i.zh.free F;let h0:=i.h0.free F;have sz:eQ Z.z (aS Z.z a o):=λb u e=>by rw[cR (eV e N)];show e
 have D:ig Z (Z.put a o):=#[sz,jf _];show#[#[λb u e=>?_,λb u e=>by rw[cR (eV e h0)];show i.h0 b u e,i.z0.trans D,λb u e=>?_],D,?_]
 . have e:aS Z.z a o b=!u:=e;unfold aS at e ⊢;split
   . grind
   . rename_i q;rw[aE q]at e;show i.zh b u e
 . have e:aS Z.z a o b=!u:=e;unfold aS at e;split at e
   . grind
   . show i.new b u e
 . show h.step D λe W b Q=>?_;let(h1,h2,o',h3,_):=jg h W Q;let j:=eV h3 F;show#[cR j,by show aS Z.z a o b=J;rw[cR j];show h1]
def ag.freeze(h:ag K H0 Z H ((v,!(Zs p))::L))(i:jG H0 Z0 Z H):∃Z',ig Z Z'/\Z'.g=Z.g/\jG H0 Z0 Z' H/\ag K H0 Z' H ((v,!(Zp p))::L):=by
 let(a,e1,e2,e3,e4):=h.1 _ bi;let D:=e1;subst D;let(o,ho,_):=e2.some;have sz:eQ Z.z (aS Z.z a o):=λb u e=>by rw[cR (eV e e3)];show e
 have j:ig Z (Z.put a o):=#[sz,jf _];let Q:=h.2;let W:=h.sub (eH _ _);show#[Z.put a o,j,O,#[λb u e=>?_,i.h0,i.z0.trans j,λb u e=>?_],λe N=>?_,(f6.mp Q).2]
 . have e:aS Z.z a o b=!u:=e;unfold aS at e;split at e
   . grind
   . show i.zh b u e
 . have e:aS Z.z a o b=!u:=e;unfold aS at e;split at e
   . grind
   . show i.new b u e
 . obtain rfl|N:=aT.mp N
   . show#[.ref a,O,e2.rep j (by show aS Z.z a o a=_;rw[bU,ho])]
   . show(W.step j λe' F b hb=>#[O,?_]).1 e N;have:b≠a:=λq=>by rw[q]at hb;show(f6.mp Q).1 ∅
     show aS Z.z a o b=J;rw[cR this];show(jg W F hb).1
def ag.write(h:ag K H0 Z H ((!(.ref a),!(Zs p))::L))(i:jG H0 Z0 Z H)(hq:qC K Z (aS H a o) a q):jG H0 Z0 Z (aS H a o)/\ag K H0 Z (aS H a o) ((!(.ref a),!(Zs q))::L):=by
 let(b,e1,e2,Q,D):=h.1 _ bi;cases e1;let N:=h.2;let W:=h.sub (eH _ _);show#[#[λb u e=>by rw[cR (eV e Q)];show i.zh b u e,λb u e=>by rw[cR (eV e D)];show i.h0 b u e,i.z0,i.new],λe z=>?_,N];obtain rfl|z:=aT.mp z
 . show#[a,O,hq,Q,D]
 . show(W.step (ig.refl Z) λe' j b F=>#[cR λq=>?_,(jg W j F).1]).1 e z;rw[q]at F;show(f6.mp N).1 ∅
end
variable {K:FG}{H0 H:Hp}{Z0:ZG}{U:L2.St}{Y:Ev}{pd:Pd}
theorem zM{α:Type}:∀{l:List α}{i:Nat}{a:α},l[i]?=!a->∃ZN,List.Perm l (a::ZN)/\∀b,List.Perm (l.set i b) (b::ZN)
 |[],i,a=>λh=>by grind
 |x::r,0,a=>λh=>by simp at h;subst h;show#[r,List.Perm.refl _,λb=>List.Perm.refl _]
 |x::r,i+1,a=>λh=>by let(ZN,h1,h2):=zM (by simpa using h);show#[x::ZN,(h1.cons x).trans (List.Perm.swap _ _ _),λb=>?_];show((h2 b).cons x).trans (List.Perm.swap _ _ _)
theorem Gv{α β:Type}:∀(l:List α)(r:List β)(i:Nat)(a:α)(b:β),(l.set i a).zip (r.set i b)=(l.zip r).set i (a,b)
 |[],r,i,a,b=>by simp
 |x::l,[],i,a,b=>by simp
 |x::l,y::r,0,a,b=>by simp
 |x::l,y::r,i+1,a,b=>by simp[Gv l r i a b]
theorem zip_get{α β:Type}:∀{l:List α}{r:List β}{i:Nat}{a:α}{b:β},l[i]?=!a->r[i]?=!b->(l.zip r)[i]?=!(a,b)
 |[],r,i,a,b,h,g=>by simp at h
 |x::l,[],i,a,b,h,g=>by simp at g
 |x::l,y::r,0,a,b,h,g=>by simp at h g;simp[h,g]
 |x::l,y::r,i+1,a,b,h,g=>by have:=zip_get (l:=l) (r:=r) (i:=i) (by simpa using h) (by simpa using g);simpa using this
theorem i9{α:Type}:∀{l:List α}{i:Nat}{a:α},l[i]?=!a->l.set i a=l
 |[],i,a=>λh=>by simp at h
 |x::r,0,a=>λh=>by simp at h;subst h;simp
 |x::r,i+1,a=>λh=>by simp[i9 (by simpa using h)]
noncomputable def Ev.set (Y:Ev) (i:Nat) (x:Option Lc):Ev:=#[Y.vs.set i x,Y.mu]
section
variable {K:FG}{H0 H H':Hp}{Z0 Z:ZG}{U:L2.St}{Y:Ev}{pd ga:Pd}{v w:V}{l:Lc}{p:PV}{L:Sl}{g:List Addr}
def dj:List.Perm (sl g U Y ((v,l)::pd)) ((!v,!l)::sl g U Y pd):=by show(List.perm_middle.append_left _).trans eM
def SR.top(h:SR K H0 Z0 U H Y ((v,l)::pd)):U.length=Y.vs.length/\∃Z,Y.mu.length=Z.g.length/\jG H0 Z0 Z H/\ag K H0 Z H ((!v,!l)::sl Z.g U Y pd):=
 let #[e,Z,hg,z,s]:=h
 #[e,Z,hg,z,s.perm dj.symm]
def SR.mk(e:U.length=Y.vs.length)(i:Y.mu.length=Z.g.length)(z:jG H0 Z0 Z H)(s:ag K H0 Z H ((!v,!l)::sl Z.g U Y pd)):SR K H0 Z0 U H Y ((v,l)::pd):=#[e,Z,i,z,s.perm dj]
def SR.pop(h:SR K H0 Z0 U H Y ((v,l)::pd)):SR K H0 Z0 U H Y pd:=
 let #[e,Z,hg,z,s]:=h.top
 #[e,Z,hg,z,s.sub (eH _ _)]
theorem SR.perm(h:SR K H0 Z0 U H Y pd)(q:List.Perm ga pd):SR K H0 Z0 U H Y ga:=
 let #[e,Z,hg,z,s]:=h
 #[e,Z,hg,z,s.perm (((q.map _).append_left _).append_left _)]
theorem SR.swap(h:SR K H0 Z0 U H Y ((v,l)::(w,l2)::pd)):SR K H0 Z0 U H Y ((w,l2)::(v,l)::pd):=h.perm (List.Perm.swap _ _ _)
theorem SR.freeze(h:SR K H0 Z0 U H Y ((v,l)::pd)):SR K H0 Z0 U H Y ((v,Zp l.pv)::pd):=by
 cases l with
 |sh p=>show h
 |own p=>
  let(e,Z,q,z,s):=h.top;let(Z',_,j,i,s'):=s.freeze z;show .mk e ∅ i ?_;rw[j];show s'
def SR.sh(h:SR K H0 Z0 U H Y ((v,Zp p)::pd)):U.length=Y.vs.length/\∃Z,Y.mu.length=Z.g.length/\jG H0 Z0 Z H/\ba K Z p v/\ag K H0 Z H (sl Z.g U Y pd):=by let(e,Z,i,z,s):=h.top;let(x,q,j):=s.1 _ bi;cases q;show#[e,Z,i,z,j,s.sub (eH _ _)]
def SR.rep(h:SR K H0 Z0 U H Y ((v,Zp p)::pd)):∃Z:ZG,eQ Z.z H/\ba K Z p v:=let #[_,Z,_,z,r,_]:=h.sh;#[Z,z.zh,r]
def SR.repH(h:SR K H0 Z0 U H Y ((v,Zp p)::pd)):∃g,ba K #[H,g] p v:=let #[_,Z,_,z,r,_]:=h.sh;#[Z.g,r.mono (Z':=#[H,Z.g]) #[z.zh,jf _]]
def ag.consS(s:ag K H0 Z H L)(r:ba K Z p v):ag K H0 Z H ((!v,!(Zp p))::L):=by
 show#[λe i=>?_,?_]
 . obtain rfl|i:=aT.mp i
   . show#[v,O,r]
   . show s.1 e i
 . have:lH (!v,!(Lc.sh p))=J:=by cases v<;>rfl
   rw[hW this];show s.2
def SR.scal(h:SR K H0 Z0 U H Y pd)(r:∀Z,ba K Z p v):SR K H0 Z0 U H Y ((v,Zp p)::pd):=
 let #[e,Z,hg,z,s]:=h
 .mk e hg z (s.consS (r Z))
def KY(q:U.length=Y.vs.length)(e:Y.vs[i]?=!o):∃ZN:Sl,∃x,U[i]?=!x/\(∀g pd,List.Perm (sl g U Y pd) ((x,o)::(cel g Y.mu++(ZN++pd.map λe=>(!e.1,!e.2)))))/\
 ∀g pd y o',List.Perm (sl g (U.set i y) (Y.set i o') pd) ((y,o')::(cel g Y.mu++(ZN++pd.map λe=>(!e.1,!e.2)))):=by
 have hi:i<U.length:=by rw[q];show(de.mp e).1
 let j:=et hi;let(ZN,h1,h2):=zM (zip_get j e);show#[ZN,U[i],j,λg pd=>?_,λg pd y o'=>?_]
 . show((h1.append_right _).append_left _).trans eM
 . show List.Perm (cel g Y.mu++((U.set i y).zip (Y.vs.set i o')++_)) _;rw[Gv];show(((h2 _).append_right _).append_left _).trans eM
def Ev.set_mu:(Y.set i x).mu=Y.mu:=rfl
def Ev.set_len:(Y.set i x).vs.length=Y.vs.length:=by show (Y.vs.set i x).length=_;rw[mf]
def SR.var(h:SR K H0 Z0 U H Y pd)(e:Y.vs[i]?=!(!l)):∃v,U[i]?=!(!v)/\SR K H0 Z0 U H (Y.set i (!(Zp l.pv))) ((v,Zp l.pv)::pd):=by
 let(W,Z,hg,z,s):=h;let(ZN,x,Q,h1,h2):=KY W e;let F:=s.perm (h1 Z.g pd).symm;have D:U.length=(Y.set i (!(Zp l.pv))).vs.length:=by rw[Ev.set_len];show W
 have fin:∀{Z':ZG}{v:V},Z'.g=Z.g->jG H0 Z0 Z' H->x=!v->ag K H0 Z' H ((x,!(Zp l.pv))::(cel Z.g Y.mu++(ZN++pd.map λe=>(!e.1,!e.2))))->ba K Z' l.pv v->SR K H0 Z0 U H (Y.set i (!(Zp l.pv))) ((v,Zp l.pv)::pd):=
  λ{Z' v} q z ev s2 r=>by let p2:=h2 Z.g pd x (!(Zp l.pv));rw[i9 Q]at p2;show .mk D (by rw[q,Ev.set_mu];show hg) z ?_;rw[q];show(s2.perm p2).consS r
 cases l with
 |sh p=>
  let(v,j,N):=F.1 _ bi;show#[v,Q.trans (congrArg some j),fin O z j F N]
 |own p=>
  let(Z',sz,q,z',s'):=F.freeze z;let(v,j,N):=s'.1 _ bi;show#[v,Q.trans (congrArg some j),fin q z' j s' N]
def SR.store(h:SR K H0 Z0 U H Y ((v,l)::pd))(hi:i<Y.vs.length):SR K H0 Z0 (U.set i (!v)) H (Y.set i (!l)) pd:=by let(j,Z,q,z,s):=h.top;let D:=et hi;let(ZN,x,F,h1,h2):=KY j D;show#[by rw[mf,Ev.set_len];show j,Z,q,z,?_];show(ag.sub (s.perm ((h1 Z.g pd).symm.cons _)) ?_).perm (h2 Z.g pd (!v) (!l));grind
def SR.take(h:SR K H0 Z0 U H Y pd)(e:Y.vs[i]?=!(!l)):∃v,U[i]?=!(!v)/\SR K H0 Z0 U H (Y.set i J) ((v,l)::pd):=by
 let(N,Z,W,z,s):=h;let(ZN,x,Q,h1,h2):=KY N e;let D:=s.perm (h1 Z.g pd).symm;obtain⟨v,hv⟩:∃v,x=!v:=by
  let q:=D.1 _ bi;cases l with
  |sh p=>let(x,j,_):=q;show#[x,j]
  |own p=>let(a,j,_):=q;show#[_,j]
 subst hv;show#[v,Q,.mk (by rw[Ev.set_len];show N) W z ?_];let p2:=h2 Z.g pd (!v) J;rw[i9 Q]at p2;show ag.perm ?_ (p2.cons _);have ht:ag K H0 Z H ((!v,J)::(!v,!l)::(cel Z.g Y.mu++(ZN++pd.map λe=>(!e.1,!e.2)))):=by
  show#[λe F=>?_,?_]
  . obtain rfl|F:=aT.mp F
    . trivial
    . show D.1 e F
  . have:lH (!v,J)=J:=by cases v<;>rfl
    rw[hW this];show D.2
 show ht.perm (List.Perm.swap _ _ _)
def SR.put(h:SR K H0 Z0 U H Y ((v,l)::pd))(e:U[i]?=!(!v)):SR K H0 Z0 U H (Y.set i (!l)) pd:=by
 have hi:i<Y.vs.length:=by rw[<-h.1];show(de.mp e).1
 have:=h.store hi;rw[i9 e]at this;show this
end
abbrev EF:=Ev->Option (Lc×Ev)
abbrev TF:=Ev->Option (Bool×Ev)
abbrev AF:=Ev->Option (List Lc×Ev)
inductive Fl where
 |nx (Y:Ev)
 |rt (r:Lc) (Y:Ev)
 |bk (Y:Ev)
 |ct (Y:Ev)
abbrev SF:=Ev->Option Fl
def tP(K:FG)(f:EF):TE:=λU H Q=>∃H0 Z0 Y pd r Y',SR K H0 Z0 U H Y pd/\f Y=!(r,Y')/\∀v H',SR K H0 Z0 U H' Y' ((v,r)::pd)->Q v H'
def jo(K:FG)(f:TF):TT:=λU H Q=>∃H0 Z0 Y pd b Y',SR K H0 Z0 U H Y pd/\f Y=!(b,Y')/\∀H',SR K H0 Z0 U H' Y' pd->Q b H'
def jH(K:FG)(f:AF):TA:=λU H Q=>∃H0 Z0 Y pd ls Y',SR K H0 Z0 U H Y pd/\f Y=!(ls,Y')/\∀vs H',vs.length=ls.length->SR K H0 Z0 U H' Y' (vs.zip ls++pd)->Q vs H'
def KZ(K:FG)(H0:Hp)(Z0:ZG)(pd:Pd)(D:f7):Fl->Prop
 |.nx Y'=>∀U' H',SR K H0 Z0 U' H' Y' pd->D.nx U' H'
 |.rt r Y'=>∀v U' H',SR K H0 Z0 U' H' Y' ((v,r)::pd)->D.rt v H'
 |.bk Y'=>∀U' H',SR K H0 Z0 U' H' Y' pd->D.bk U' H'
 |.ct Y'=>∀U' H',SR K H0 Z0 U' H' Y' pd->D.ct U' H'
def ik(K:FG)(g:SF):TS:=λD U H=>∃H0 Z0 Y pd fl,SR K H0 Z0 U H Y pd/\g Y=!fl/\KZ K H0 Z0 pd D fl
section
variable {X:Cx}{e:Expr}{es:List Expr}{st:Stmt}{AX:List Stmt}
def PE.imp(h:PE X e t)(i:∀U H Q,t' U H Q->t U H Q):PE X e t':=λae s U H Q I q=>h ae s U H Q I (i U H Q q)
def PT.imp(h:PT X e t)(i:∀U H Q,t' U H Q->t U H Q):PT X e t':=λae s U H Q I q=>h ae s U H Q I (i U H Q q)
def PW.imp(h:PW X e t)(i:∀U H Q,t' U H Q->t U H Q):PW X e t':=λwh ae s U H Q I q=>h wh ae s U H Q I (i U H Q q)
def PA.imp(h:PA X es t)(i:∀U H Q,t' U H Q->t U H Q):PA X es t':=λpos ae s U H Q I q=>h pos ae s U H Q I (i U H Q q)
def PS.imp(h:PS X st t)(i:∀D U H,t' D U H->t D U H):PS X st t':=λae s U H D I q=>h ae s U H D I (i D U H q)
def jF.imp(h:jF X AX t)(i:∀D U H,t' D U H->t D U H):jF X AX t':=λae s U H D I q=>h ae s U H D I (i D U H q)
def aj(i:Nat):EF:=λY=>match Y.vs[i]? with
 |some (!l)=>!(Zp l.pv,Y.set i (!(Zp l.pv)))
 |_=>J
def eC(p:PV):EF:=λY=>!(Zp p,Y)
abbrev af(i:Int):=eC (ZI i)
abbrev bg(s:Str):=eC (ZH s)
def qv(h:PE X e (um i)):PE X e (tP X.K (aj i)):=PE.imp h λU H Q q=>by
 let(H0,Z0,Y,pd,r,Y',s,f,k):=q;unfold aj at f;split at f
 . rename_i l j;cases f;let(v,h1,h2):=s.var j;show#[v,h1,k v H h2]
 . cases f
def qc(h:PE X e (tC v))(r:∀Z,ba X.K Z p v):PE X e (tP X.K (eC p)):=PE.imp h λU H Q q=>by let(H0,Z0,Y,pd,l,Y',s,f,k):=q;cases f;show k v H (s.scal r)
def gK:∀Z,ba K Z (ZI i) (.int i):=λZ=>by unfold ba;rfl
def oR:∀Z,ba K Z (ZH i) (.str i):=λZ=>by unfold ba;rfl
def pD:∀Z,ba K Z (.bl i) (.bl i):=λZ=>by unfold ba;rfl
def Ay:∀Z,ba K Z .non .non:=λZ=>by unfold ba;rfl
def oU(K:FG)(r:R2)(g:PV->PV->Option Lc):Prop:=∀H0 Z0 U Y pd H v w x y l Q,SR K H0 Z0 U H Y ((w,Zp y)::(v,Zp x)::pd)->g x y=!l->(∀u H',SR K H0 Z0 U H' Y ((u,l)::pd)->Q u H')->r v w H Q
def az(g:PV->PV->Option Lc)(fa fb:EF):EF:=λY=>(fa Y).bind λx=>(fb x.2).bind λy=>(g x.1.pv y.1.pv).map λl=>(l,y.2)
def WD(h:az g fa fb Y=!(l,Y')):∃x Y1 y,fa Y=!(x,Y1)/\fb Y1=!(y,Y')/\g x.pv y.pv=!l:=by
 unfold az at h;cases h1:fa Y with
 |none=>grind
 |some x=>
  rw[h1,bo]at h;cases h2:fb x.2 with
  |none=>grind
  |some y=>
   rw[h2,bo]at h;cases i:g x.1.pv y.1.pv with
   |none=>grind
   |some z=>
    grind
def K1(hs:oU X.K r g):∀U H Q,tP X.K (az g fa fb) U H Q->Sv r (tP X.K fa) (tP X.K fb) U H Q:=λU H Q q=>by let(H0,Z0,Y,pd,l,Y',s,f,k):=q;let(x,Y1,y,h1,h2,i):=WD f;show#[H0,Z0,Y,pd,x,Y1,s,h1,λv H1 D=>#[H0,Z0,Y1,_,y,Y',D,h2,λw H2 z=>?_]];show hs H0 Z0 U Y' pd H2 v w x.pv y.pv l Q (z.freeze.swap.freeze.swap) i λu H' j=>k u H' j
def aZ(j:jn X (binaryOp op) r)(hs:oU X.K r g)(i:PE X a (tP X.K fa))(q:PE X b (tP X.K fb)):PE X (.BinOp a op b pos) (tP X.K (az g fa fb)):=
 PE.imp (II j i q) (K1 hs)
def WF(j:jn X (compareOp op) r)(hs:oU X.K r g)(i:PE X a (tP X.K fa))(q:PE X b (tP X.K fb))(z:behindInMarks op b=M):PE X (.Compare a [op] [b] pos) (tP X.K (az g fa fb)):=
 PE.imp (Y8 j i q z) (K1 hs)
noncomputable def Cj (C:Int->Int->Bool) (g:Int->Int->PV):PV->PV->Option Lc
 |ZI i,ZI j=>if C i j=G then !(Zp (g i j)) else J
 |_,_=>J
def K3(h:Cj C g x y=!l):∃i j,x=ZI i/\y=ZI j/\C i j=G/\l=Zp (g i j):=by
 cases x with
 |int i=>
  cases y with
  |int j=>
   have h':(if C i j=G then !(Lc.sh (g i j)) else J)=!l:=h;split at h'
   . grind
   . cases h'
  |_=>cases h
 |_=>cases h
def cg(h:ba K Z (ZI i) v):v=.int i:=by  show h
def dC(h:ba K Z (ZH i) v):v=.str i:=by  show h
def iY(h:ba K Z (.bl i) v):v=.bl i:=by  show h
def jE(h:ba K Z .non v):v=.non:=by  show h
def JM(N:∀i j,C i j=G->C' i j)(D:∀i j Z,ba K Z (g i j) (gV i j)):oU K (rI C' gV) (Cj C g):=by intro H0 Z0 U Y pd H v w x y l Q s e k;let(i,j,rfl,rfl,c,rfl):=K3 e;let(_,q):=s.repH;let(_,z):=s.pop.repH;let W:=cg q;let F:=cg z;show#[i,j,F,W,N i j c,k _ H (s.pop.pop.scal (D i j))]
def K4(D:∀i j Z,ba K Z (g i j) (gV i j)):oU K (yW gV) (Cj (λ_ _=>G) g):=by intro H0 Z0 U Y pd H v w x y l Q s e k;let(i,j,rfl,rfl,c,rfl):=K3 e;let(_,q):=s.repH;let(_,z):=s.pop.repH;show#[i,j,cg z,cg q,k _ H (s.pop.pop.scal (D i j))]
end
section
variable {X:Cx}
section
variable {K:FG}{H0 H H':Hp}{Z0 Z:ZG}{U:L2.St}{Y:Ev}{pd ga:Pd}{v w:V}{l:Lc}{p:PV}{g:List Addr}
def SR.newO(h:SR K H0 Z0 U H Y pd)(i:H a=J)(j:∀Z,jG H0 Z0 Z H->ag K H0 Z H (sl Z.g U Y pd)->qC K Z (aS H a o) a p):SR K H0 Z0 U (aS H a o) Y ((.ref a,Zs p)::pd):=by let(e,Z,q,z,s):=h;let(D,s'):=s.new z i (j Z z s);show .mk e q D s'
def JN{α:Type}(A B C:List α):List.Perm (A++(B++C)) (B++(A++C)):=by rw[<-cw A B C,<-cw B A C];show List.perm_append_comm.append_right _
def Uc:List.Perm (sl g U Y (pe++pd)) (pe.map (λe=>((some e.1:Option V),(some e.2:Option Lc)))++sl g U Y pd):=by unfold sl;rw[cy];show((JN _ _ _).append_left _).trans (JN _ _ _)
theorem SR.freezeAll:∀{vs:List V}{ls:List Lc}{pd:Pd},SR K H0 Z0 U H Y (vs.zip ls++pd)->SR K H0 Z0 U H Y (vs.zip (ls.map λl=>.sh l.pv)++pd)
 |[],ls,pd=>λh=>by simpa using h
 |v::vs,[],pd=>λh=>by grind
 |v::vs,l::ls,pd=>λh=>by let h1:=h;let h2:=h1.freeze.perm eM;let i:=SR.freezeAll h2;show i.perm eM.symm
theorem ag.repl:∀{vs:List V}{ps:List PV},vs.length=ps.length->ag K H0 Z H ((vs.zip (ps.map λp=>Lc.sh p)).map (λe=>(!e.1,!e.2))++L)->aK K Z ps vs
 |[],[]=>λ_ _=>.nil
 |v::vs,p::ps=>λe h=>by let h1:=h;let(x,j,i):=h1.1 _ bi;cases j;show aK.cons i (ag.repl ∅ (h1.sub (eH _ _)))
 |[],p::ps=>λe _=>by grind
 |v::vs,[]=>λe _=>by grind
theorem SR.repl{vs:List V}{ls:List Lc}(h:SR K H0 Z0 U H Y (vs.zip ls++pd))(e:vs.length=ls.length):U.length=Y.vs.length/\∃Z,Y.mu.length=Z.g.length/\jG H0 Z0 Z H/\aK K Z (ls.map Lc.pv) vs/\ag K H0 Z H (sl Z.g U Y pd):=by
 let(i,Z,j,z,s):=h.freezeAll;have D:(ls.map λl=>Lc.sh l.pv)=(ls.map Lc.pv).map λp=>Lc.sh p:=by rw[fS];rfl
 rw[D]at s;have q:List.Perm (sl Z.g U Y (vs.zip ((ls.map Lc.pv).map λp=>Lc.sh p)++pd)) ((vs.zip ((ls.map Lc.pv).map λp=>Lc.sh p)).map (λe=>(!e.1,!e.2))++sl Z.g U Y pd):=Uc;let s':=s.perm q.symm;show#[i,Z,j,z,ag.repl ∅ s',s'.sub (kT _ _)]
end
def yI{α:Type}{l:List α}(h:l.length=1):∃a,l=[a]:=List.length_eq_one_iff.mp h
def ng{α:Type}{l:List α}(h:l.length=2):∃a b,l=[a,b]:=by
 cases l with
 |nil=>cases h
 |cons a l=>let(b,rfl):=yI (oe h);grind
def AY{α:Type}{l:List α}(h:l.length=3):∃a b c,l=[a,b,c]:=by
 cases l with
 |nil=>cases h
 |cons a l=>let(b,c,rfl):=ng (oe h);grind
def N4{α:Type}{l:List α}(h:l.length=4):∃a b c d,l=[a,b,c,d]:=by
 cases l with
 |nil=>cases h
 |cons a l=>let(b,c,d,rfl):=AY (oe h);grind
def N9{α:Type}{l:List α}(h:l.length=5):∃a b c d e,l=[a,b,c,d,e]:=by
 cases l with
 |nil=>cases h
 |cons a l=>let(b,c,d,e,rfl):=N4 (oe h);show#[a,b,c,d,e,rfl]
def ao:AF:=λY=>!([],Y)
noncomputable def aa (f:EF) (g:AF):AF:=λY=>(f Y).bind λx=>(g x.2).map λy=>(x.1::y.1,y.2)
def aq:PA X [] (jH X.K ao):=PA.imp zc λU H Q q=>by let(H0,Z0,Y,pd,l,Y',s,f,k):=q;cases f;show k [] H O s
def ak(i:PE X e (tP X.K f))(F:PA X es (jH X.K g))(hs:starEach (e::es) X.env=(M,eval e X.env)::starEach es X.env:=by rfl):PA X (e::es) (jH X.K (aa f g)):=PA.imp (vP i F hs) λU H Q q=>by
 let(H0,Z0,Y,pd,l,Y',s,h,k):=q;unfold aa at h;cases h1:f Y with
 |none=>rw[h1]at h;cases h
 |some x=>
  rw[h1,bo]at h;cases h2:g x.2 with
  |none=>rw[h2]at h;cases h
  |some y=>
   rw[h2]at h;cases h;show#[H0,Z0,Y,pd,x.1,x.2,s,h1,λv H1 D=>#[H0,Z0,x.2,_,y.1,y.2,D,h2,λz H2 N j=>?_]];show k (v::z) H2 ∅ (j.perm eM.symm)
def bO(g:AF):EF:=λY=>(g Y).bind λy=>if y.1.length<=1000 then !(Zs (R (y.1.map Lc.pv)),y.2) else J
def aX(g:AF):EF:=λY=>(g Y).bind λy=>if y.1.length<=1000 then !(Zp (ZB (y.1.map Lc.pv)),y.2) else J
def d5(h:n<=100000):n<=sizeLine:=by rw[sizeLine_eq];lia
def cP(h:PA X es (jH X.K g)):PE X (.List es pos) (tP X.K (bO g)):=PE.imp (JE h) λU H Q q=>by
 let(H0,Z0,Y,pd,l,Y',s,f,k):=q;unfold bO at f;cases h2:g Y with
 |none=>rw[h2]at f;cases f
 |some y=>
  rw[h2,bo]at f;split at f
  . cases f;show#[H0,Z0,Y,pd,y.1,y.2,s,h2,λW H2 e2 N=>#[d5 (),λp hp=>k _ _ ?_]];let(j,Z,D,z,r,i):=N.repl e2;let(F,s'):=i.new (p:=R (y.1.map Lc.pv)) z hp #[W,bU,r];show .mk j D F s'
  . cases f
def cG{x1}(h:PA X es (jH X.K g)):PE X (.Tuple es x1 pos) (tP X.K (aX g)):=PE.imp (JA h) λU H Q q=>by
 let(H0,Z0,Y,pd,l,Y',s,f,k):=q;unfold aX at f;cases h2:g Y with
 |none=>rw[h2]at f;cases f
 |some y=>
  rw[h2,bo]at f;split at f
  . cases f;show#[H0,Z0,Y,pd,y.1,y.2,s,h2,λj H2 e2 W=>#[d5 (),λp hp=>k _ _ ?_]];let(D,Z,F,z,r,i):=W.repl e2;let(N,sz,s'):=i.newF z hp;show .mk (Z:=Z.put p (.tup j)) D F N (s'.consS ?_);show#[p,j,O,cT.of bU,r.mono sz]
  . cases f
def tT(f:EF)(tr:PV->Option Bool):TF:=λY=>(f Y).bind λx=>(tr x.1.pv).map λb=>(b,x.2)
noncomputable def xN:PV->Option Bool
 |.non=>!M
 |.bl b=>!b
 |ZI i=>!(i != 0)
 |ZH x=>if x.length<=100000 then !((x.length:Int) != 0) else J
 |ZB ps=>!(not ps.isEmpty)
 |R ps=>!(not ps.isEmpty)
 |.dk ks ps=>!(not ps.isEmpty)
 |_=>J
def N_(r:ba K #[H,g] p v)(h:xN p=!b):VH K v H b:=by
 cases p with
 |non=>have:=jE r;subst this;cases h;show O
 |bl c=>have:=iY r;subst this;cases h;show O
 |int i=>have:=cg r;subst this;cases h;show O
 |str x=>
  have:=dC r;subst this;have h:(if x.length<=100000 then !((x.length:Int) != 0) else J)=!b:=h;split at h
  . rename_i F;cases h;show#[d5 F,O]
  . cases h
 |tup ps=>
  let(a,j,rfl,h1,h2):=r;cases h;show YY (Zl #[j,h1,?_]);have:=h2.length;grind
 |lst ps=>
  let(a,j,rfl,h1,h2):=r;cases h;show Zl #[j,h1,?_];have:=h2.length;grind
 |dk ks ps=>
  let(a,q,rfl,h1,W,h2):=r;cases h;show YY (YY #[q,h1,?_]);have:=h2.length;grind
 |_=>cases h
def Pk(h:tT f tr Y=!(b,Y')):∃x,f Y=!(x,Y')/\tr x.pv=!b:=by
 unfold tT at h;cases h1:f Y with
 |none=>grind
 |some x=>
  rw[h1,bo]at h;cases h2:tr x.1.pv with
  |none=>grind
  |some y=>grind
def K5(z:PE X a (tP X.K f))(he:∀i,isTrue a X.env i=(do let v <-i;standAt a.pos;holding [v] (truthy v))):PT X a (jo X.K (tT f xN)):=PT.imp (VJ z he) λU H Q q=>by let(H0,Z0,Y,pd,b,Y',s,D,k):=q;let(x,h1,h2):=Pk D;show#[H0,Z0,Y,pd,x,Y',s,h1,λv H1 j=>#[b,N_ j.freeze.repH.choose_spec h2,k H1 j.pop]]
def bh:PV->Option Bool
 |.bl b=>!b
 |_=>J
def Of(j:PT X a (Yh (tP X.K f))):PT X a (jo X.K (tT f bh)):=PT.imp j λU H Q q=>by
 let(H0,Z0,Y,pd,b,Y',s,z,k):=q;let(x,h1,h2):=Pk z;show#[H0,Z0,Y,pd,x,Y',s,h1,λv H1 i=>#[b,?_,k H1 i.pop]];let(_,r):=i.freeze.repH;cases e:x.pv with
 |bl c=>rw[e]at h2 r;cases h2;show iY r
 |_=>rw[e]at h2;cases h2
def bK(j:jn X (compareOp op) r)(hs:oU X.K r g)(i:PE X a (tP X.K fa))(z:PE X b (tP X.K fb))(D:behindInMarks op b=M):PT X (.Compare a [op] [b] pos) (jo X.K (tT (az g fa fb) bh)):=
 Of (PT.imp (Y9 j i z D) λU H Q q=>K1 hs U H _ q)
def d9(f g:TF):TF:=λY=>(f Y).bind λx=>if x.1=G then g x.2 else !(M,x.2)
def sS(f g:TF):TF:=λY=>(f Y).bind λx=>if x.1=G then !(G,x.2) else g x.2
noncomputable def Az (f:TF):TF:=λY=>(f Y).map λx=>(not x.1,x.2)
def Z6:∀U H Q,jo X.K (d9 f g) U H Q->xD (jo X.K f) (jo X.K g) U H Q:=λU H Q q=>by
 let(H0,Z0,Y,pd,b,Y',s,h,k):=q;unfold d9 at h;cases h1:f Y with
 |none=>grind
 |some x=>
  rw[h1,bo]at h;show#[H0,Z0,Y,pd,x.1,x.2,s,h1,λH1 i=>?_];dsimp only;split
  . rename_i c;rw[av c]at h;show#[H0,Z0,x.2,pd,b,Y',i,h,k]
  . grind
def On:∀U H Q,jo X.K (sS f g) U H Q->xE (jo X.K f) (jo X.K g) U H Q:=λU H Q q=>by
 let(H0,Z0,Y,pd,b,Y',s,h,k):=q;unfold sS at h;cases h1:f Y with
 |none=>grind
 |some x=>
  rw[h1,bo]at h;show#[H0,Z0,Y,pd,x.1,x.2,s,h1,λH1 i=>?_];dsimp only;split
  . grind
  . rename_i c;rw[aE c]at h;show#[H0,Z0,x.2,pd,b,Y',i,h,k]
def my(i:PT X a (jo X.K f)):PW X (.BoolOp .And [a] pos) (jo X.K f):=Y5 i
def Eo(i:PT X a (jo X.K f)):PW X (.BoolOp .Or [a] pos) (jo X.K f):=GV i
def pF{ax:List Expr}(i:PT X a (jo X.K f))(j:PW X (.BoolOp .And (b::ax) pos) (jo X.K g)):PW X (.BoolOp .And (a::b::ax) pos) (jo X.K (d9 f g)):=PW.imp (GW i j) Z6
def JP{ax:List Expr}(i:PT X a (jo X.K f))(j:PW X (.BoolOp .Or (b::ax) pos) (jo X.K g)):PW X (.BoolOp .Or (a::b::ax) pos) (jo X.K (sS f g)):=PW.imp (GY i j) On
def Op(i:PT X a (jo X.K f)):PT X (.UnaryOp .Not a pos) (jo X.K (Az f)):=PT.imp (G0 i) λU H Q q=>by
 let(H0,Z0,Y,pd,b,Y',s,h,k):=q;unfold Az at h;cases h1:f Y with
 |none=>grind
 |some x=>
  rw[h1]at h;cases h;show#[H0,Z0,Y,pd,x.1,x.2,s,h1,λH1 j=>k H1 j]
def K6(f g:EF):EF:=λY=>(f Y).bind λx=>match x.1.pv with
 |.bl G=>g x.2
 |.bl M=>!(Zp (.bl M),x.2)
 |_=>J
def Oy{op}(h:PE X a (tP X.K f)):PE X (.BoolOp op [a] pos) (tP X.K f):=G2 h
def OA{ax:List Expr}(j:PE X a (tP X.K f))(z:PE X (.BoolOp .And (b::ax) pos) (tP X.K g)):PE X (.BoolOp .And (a::b::ax) pos) (tP X.K (K6 f g)):=PE.imp (G_ j z) λU H Q q=>by
 let(H0,Z0,Y,pd,b,Y',s,h,k):=q;unfold K6 at h;cases h1:f Y with
 |none=>grind
 |some x=>
  rw[h1,bo]at h;show#[H0,Z0,Y,pd,x.1,x.2,s,h1,λv H1 i=>?_];let(_,r):=i.freeze.repH;split at h
  . rename_i e;rw[e]at r;show#[G,iY r,?_];show#[H0,Z0,x.2,pd,b,Y',i.pop,h,k]
  . rename_i e;rw[e]at r;show#[M,iY r,?_];cases h;show k _ H1 (i.pop.scal pD)
  . cases h
def Yt(c:TF)(f g:EF):EF:=λY=>(c Y).bind λx=>if x.1=G then f x.2 else g x.2
def OB(D:PT X c (jo X.K fc))(j:PE X a (tP X.K f))(z:PE X b (tP X.K g)):PE X (.IfExp c a b pos) (tP X.K (Yt fc f g)):=PE.imp (Vx D j z) λU H Q q=>by
 let(H0,Z0,Y,pd,b,Y',s,h,k):=q;unfold Yt at h;cases h1:fc Y with
 |none=>grind
 |some x=>
  rw[h1,bo]at h;show#[H0,Z0,Y,pd,x.1,x.2,s,h1,λH1 i=>?_];dsimp only;split
  . rename_i c;rw[av c]at h;show#[H0,Z0,x.2,pd,b,Y',i,h,k]
  . rename_i c;rw[aE c]at h;show#[H0,Z0,x.2,pd,b,Y',i,h,k]
def cu:SF:=λY=>!(.nx Y)
def aF(f g:SF):SF:=λY=>(f Y).bind λx=>match x with
 |.nx Y'=>g Y'
 |y=>!y
def bI:jF X [] (ik X.K cu):=jF.imp Y6 λD U H q=>by let(H0,Z0,Y,pd,fl,s,h,k):=q;cases h;show k U H s
def aA{st:Stmt}{ax:List Stmt}{f g:SF}(h1:PS X st (ik X.K f))(h2:jF X ax (ik X.K g)):jF X (st::ax) (ik X.K (aF f g)):=jF.imp (Vy h1 h2) λD U H q=>by
 let(H0,Z0,Y,pd,fl,s,h,k):=q;unfold aF at h;cases e:f Y with
 |none=>rw[e]at h;cases h
 |some x=>
  rw[e,bo]at h;show#[H0,Z0,Y,pd,x,s,e,?_];cases x with
  |nx Y'=>show λU' H' s'=>#[H0,Z0,Y',pd,fl,s',h,k]
  |rt r Y'=>cases h;show k
  |bk Y'=>cases h;show k
  |ct Y'=>cases h;show k
def aD{st:Stmt}(h1:PS X st (ik X.K f)):jF X [st] (ik X.K f):=Y7 h1
def qX(f:EF):SF:=λY=>(f Y).map λx=>.nx x.2
def cr{α β:Type}{o:Option α}{f:α->β}{b:β}(h:o.map f=!b):∃a,o=!a/\f a=b:=by
 cases o with
 |none=>cases h
 |some a=>grind
def bm{α β:Type}{o:Option α}{f:α->Option β}{b:β}(h:o.bind f=!b):∃a,o=!a/\f a=!b:=by
 cases o with
 |none=>cases h
 |some a=>grind
def Gw(he:PE X e (tP X.K f))(hs:swapsWith e J pos.line X.env=pure M:=by rfl):PS X (.Expr e pos) (ik X.K (qX f)):=PS.imp (qj he hs) λD U H q=>by let(H0,Z0,Y,pd,fl,s,h,k):=q;let(x,h1,rfl):=cr h;show#[H0,Z0,Y,pd,x.1,x.2,s,h1,λv H' s'=>k U H' s'.pop]
def cH(f:EF):SF:=λY=>(f Y).map λx=>.rt x.1 x.2
def bG(he:PE X e (tP X.K f)):PS X (.Return (!e) pos) (ik X.K (cH f)):=PS.imp (R8 he) λD U H q=>by let(H0,Z0,Y,pd,fl,s,h,k):=q;let(x,h1,rfl):=cr h;show#[H0,Z0,Y,pd,x.1,x.2,s,h1,λv H' s'=>k v U H' s']
def iG(i:Nat):SF:=λY=>match Y.vs[i]? with
 |some (!l)=>!(.rt l (Y.set i J))
 |_=>J
def gq(he:PE X e (um i)):PS X (.Return (!e) pos) (ik X.K (iG i)):=PS.imp (R8 he) λD U H q=>by
 let(H0,Z0,Y,pd,fl,s,h,k):=q;unfold iG at h;split at h
 . rename_i l j;cases h;let(v,h1,h2):=s.take j;show#[v,h1,k v U H h2]
 . cases h
def cQ(c:TF)(f g:SF):SF:=λY=>(c Y).bind λx=>if x.1=G then f x.2 else g x.2
def cD(F:PT X c (jo X.K fc))(j:jF X a (ik X.K f))(z:jF X b (ik X.K g)):PS X (.If c a b pos) (ik X.K (cQ fc f g)):=PS.imp (HM F j z) λD U H q=>by
 let(H0,Z0,Y,pd,fl,s,h,k):=q;let(x,h1,h2):=bm h;show#[H0,Z0,Y,pd,x.1,x.2,s,h1,λH1 i=>?_];dsimp only;split
 . rename_i c;rw[av c]at h2;show#[H0,Z0,x.2,pd,fl,i,h2,k]
 . rename_i c;rw[aE c]at h2;show#[H0,Z0,x.2,pd,fl,i,h2,k]
def aM(i:Nat)(f:EF):SF:=λY=>(f Y).bind λx=>if i<x.2.vs.length then !(.nx (x.2.set i (!x.1))) else J
def Pn{t:TS}(h:∀D U H,(tP X.K f U H λv H1=>D.nx (U.set i (!v)) H1)->t D U H):∀D U H,ik X.K (aM i f) D U H->t D U H:=λD U H q=>by
 let(H0,Z0,Y,pd,fl,s,h',k):=q;let(x,h1,h2):=bm h';split at h2
 . rename_i z;cases h2;show h D U H #[H0,Z0,Y,pd,x.1,x.2,s,h1,λv H1 j=>k _ _ (j.store z)]
 . cases h2
def vX{pos pos':Pos}(z:X.N.Nodup)(hi:X.N[i]?=!x)(F:L2.Loc X.env.scope x)(he:PE X e (tP X.K f))(hs:swapsWith e (!(.Name x pos')) pos.line X.env=pure M:=by rfl)(j:X.fn x=G\/X.env.scope.names.lookup x=!.local:=by first |show Zl O |show YY O |assumption):
 PS X (.Assign [.Name x pos'] e pos) (ik X.K (aM i f)):=PS.imp (H_ z hi F he hs j) (Pn λD U H q=>q)
abbrev GF:=List PV->Mu->Option (Lc×Mu)
def lJ(H:Hp)(g:List Addr):Hp:=λb=>if b∈g then J else H b
def Z7(h:lJ H g b=!o):H b=!o/\b∉g:=by
 unfold lJ at h;split at h
 . cases h
 . grind
def WK(h:b∈g):lJ H g b=J:=by unfold lJ;grind
def K7(h:b∉g):lJ H g b=H b:=by unfold lJ;grind
def AZ(K:FG)(H:Hp)(Z:ZG)(g:List Addr)(H':Hp)(fw:Mu)(v:V)(r:Lc):Prop:=∃Z',fw.length=Z'.g.length/\jG (lJ H g) Z Z' H'/\ag K (lJ H g) Z' H' ((!v,!r)::cel Z'.g fw)
def cC(K:FG)(n:Nat)(g:GF):Sp:=λvs H Q _=>∃(Z:ZG)(ps:List PV)(mu:Mu)(r:Lc)(fw:Mu),vs.length=n/\mu.length=Z.g.length/\eQ Z.z H/\aK K Z ps vs/\ag K (lJ H (uw Z.g mu)) Z H (cel Z.g mu)/\g ps mu=!(r,fw)/\∀v H',AZ K H Z (uw Z.g mu) H' fw v r->Q v H'
def aP(g:GF)(a:AF):EF:=λY=>(a Y).bind λy=>(g (y.1.map Lc.pv) y.2.mu).map λr=>(r.1,#[y.2.vs,r.2])
def Z8(he:e∈cel g mu):∃a,e.1=!(.ref a)/\(e.2=J\/∃p,e.2=!(Zs p)):=by
 let(h1,h2):=iP he;let(a,_,i):=cK.mp h1;let(o,_,j):=cK.mp h2;show#[a,i.symm,?_];cases o with
 |none=>grind
 |some p=>grind
def ag.cells(Q:Y.mu.length=Z.g.length)(s:ag K H0 Z H (sl Z.g U Y pd)):ag K (lJ H (uw Z.g Y.mu)) Z H (cel Z.g Y.mu):=by
 let z:=s.sub (hY _ _);show#[λe q=>?_,z.2];let(a,h1,h2):=Z8 q;let(v,l):=e;let j:=h1;subst j;obtain h2|⟨p,h2⟩:=h2
 . let i:=h2;subst i;trivial
 . let i:=h2;subst i;let(b,N,D,F,W):=z.1 _ q;cases N;show#[a,O,D,F,WK (kQ.mpr #[_,q,O])]
def SR.called(el:U.length=Y.vs.length)(hg:Y.mu.length=Z.g.length)(z:jG H0 Z0 Z H)(s:ag K H0 Z H (sl Z.g U Y pd))(h:AZ K H Z (uw Z.g Y.mu) H' fw v r):SR K H0 Z0 U H' #[Y.vs,fw] ((v,r)::pd):=by
 let(Z',tF,j,q):=h;let s1:=s.sub (hY _ _);let s0:=s.sub (kT _ _);have nd:(uw Z.g Y.mu++(U.zip Y.vs++pd.map λe=>(!e.1,!e.2)).filterMap lH).Nodup:=by have:=s.2;unfold sl at this;rw[List.filterMap_append]at this;show this
 have OC:∀a∈uw Z.g Y.mu,H0 a=J:=λa D=>by let(e,i,hb):=kQ.mp D;show(jg s1 i hb).2.1
 have W:eQ H0 (lJ H (uw Z.g Y.mu)):=λb o e=>by rw[K7 λhm=>by rw[OC b hm]at e;cases e];show z.h0 b o e
 have z2:jG H0 Z0 Z' H':=#[j.zh,W.trans j.h0,z.z0.trans j.z0,λb o e=>by
  obtain e|e|e:=j.new b o e
  . show z.new b o e
  . show YY (Zl (W.free e))
  . show YY (YY e)]
 have F:∀e∈(U.zip Y.vs++pd.map λe=>((some e.1:Option V),(some e.2:Option Lc))),∀a,lH e=!a->a∉uw Z.g Y.mu/\lJ H (uw Z.g Y.mu) a=H a:=λe i a D=>by let hn:=λhm=>(n9.mp nd).2.2 a hm a ∅ O;show#[hn,K7 hn]
 have hk:∀e∈(U.zip Y.vs++pd.map λe=>((some e.1:Option V),(some e.2:Option Lc))),∀a,lH e=!a->H' a=H a/\Z'.z a=J:=λe i a D=>by
  let(h1,h2,o,h3,h4):=jg s0 i D;let(hn,ho):=F e i a D;let h5:=j.h0 a o ∅;show#[by rw[h3];show h5,?_];cases q:Z'.z a with
  |none=>rfl
  |some u=>
   obtain e|e|e:=j.new a u q
   . grind
   . grind
   . have:=j.zh a u q;grind
 let s2:=s0.step j.z0 hk;have q':ag K H0 Z' H' ((!v,!r)::cel Z'.g fw):=by
  show#[λe i=>?_,q.2];have:=q.1 e i;let(w,l):=e;cases l with
  |none=>trivial
  |some l=>
   cases l with
   |sh p=>show this
   |own p=>let(a,e1,e2,e3,e4):=this;show#[a,e1,e2,e3,W.free e4]
 have dis:∀e∈((!v,!r)::cel Z'.g fw),∀a,lH e=!a->∀e'∈(U.zip Y.vs++pd.map λe=>((some e.1:Option V),(some e.2:Option Lc))),lH e'≠!a:=λe i a D e' N Q=>by let(_,h2,_):=jg q i D;let(_,_,o,h3,_):=jg s0 N Q;rw[(F e' N a Q).2,h3]at h2;cases h2
 show .mk el tF z2 ?_;show#[λe i=>?_,?_]
 . obtain rfl|i:=aT.mp i
   . show q'.1 _ bi
   . obtain i|i:=cx.mp i
     . show q'.1 _ (cv _ i)
     . show s2.1 e i
 . show (((!v,!r)::(cel Z'.g fw++(U.zip Y.vs++pd.map λe=>(!e.1,!e.2)))).filterMap lH).Nodup;rw[<-ja,List.filterMap_append];show n9.mpr #[q'.2,s2.2,λa D b hb e=>?_];grind
def WL:∀U H Q,(∃H0 Z0 Y pd r Y',SR X.K H0 Z0 U H Y pd/\aP g a Y=!(r,Y')/\(∀ls Y1,a Y=!(ls,Y1)->ls.length=n)/\∀v H',SR X.K H0 Z0 U H' Y' ((v,r)::pd)->Q v H')->Yi_ (cC X.K n g) [] E (jH X.K a) U H Q:=λU H Q q=>by
 let(H0,Z0,Y,pd,r,Y',s,h,hn,k):=q;let(y,h1,h2):=bm h;let(r',F,h4):=cr h2;cases h4;show#[H0,Z0,Y,pd,y.1,y.2,s,h1,λvs H2 D W=>?_];let(N,Z,j,z,rl,i):=W.repl D;show#[Z,y.1.map Lc.pv,y.2.mu,_,_,?_,j,z.zh,?_,i.cells j,F,λv H' rr=>k v H' (SR.called N j z i rr)]
 . rw[d0,D];show hn _ _ h1
 . rw[d0];show rl
end
section
variable {P:Program}{w:World}{K:FG}{mg:Str->Option Value}{base:Heap}
def cU(K:FG)(mg:Str->Option Value)(x:Str)(st:Stmt)(ps:List Str):Prop:=∃f fd,uW K x x st f fd/\mg x=!(YV f)/\c0 K fd ps []
def K8(b:Bool)(P:Program)(w:World)(K:FG)(mg:Str->Option Value)(base:Heap)(x:Str)(k:Nat)(ps:List Str)(sp:Sp):Prop:=∃f fd,tG b P w K mg base pZ k f fd ps sp/\mg x=!(YV f)/\W.keepIn K (YV f)=G/\c0 K fd ps []
abbrev bT:=K8 G
noncomputable def env0 (n:Nat) (ps:List PV) (mu:Mu):Ev:=#[ps.map (λp=>!(Lc.sh p))++List.replicate (n-ps.length) J,mu]
def c7(n:Nat)(g:SF):GF:=λps mu=>(g (env0 n ps mu)).bind λx=>match x with
 |.rt r Y=>!(r,Y.mu)
 |.nx Y=>!(Zp .non,Y.mu)
 |_=>J
theorem Pq(s:ag K H0 Z H L):∀{ps:List PV}{vs:List V},aK K Z ps vs->ag K H0 Z H ((vs.map some).zip (ps.map λp=>!(Lc.sh p))++L)
 |[],vs,h=>by have:=h.inv0;subst this;simpa using s
 |p::ps,vs,h=>by let(v,r,rfl,h1,h2):=h.inv;show(Pq s h2).consS h1
theorem nones(s:ag K H0 Z H L):∀n:Nat,ag K H0 Z H ((List.replicate n (J:Option V)).zip (List.replicate n (J:Option Lc))++L)
 |0=>s
 |n+1=>by
  rw[List.replicate_succ,List.replicate_succ,kU,ja];let j:=nones s n;show#[λe i=>?_,?_]
  . obtain rfl|i:=aT.mp i
    . trivial
    . show j.1 e i
  .  show j.2
def CQ(j:mu.length=Z.g.length)(z:eQ Z.z H)(r:aK K Z ps vs)(c:ag K (lJ H (uw Z.g mu)) Z H (cel Z.g mu)):SR K (lJ H (uw Z.g mu)) Z (L2.start N vs) H (env0 N.length ps mu) []:=by let i:=r.length;show#[by simp[L2.start,env0,i],Z,j,#[z,λb o e=>(Z7 e).1,ig.refl _,λb o e=>Zl e],?_];unfold sl L2.start env0;rw[kl ∅,nX,d0,i];show(Pq (nones c _) r).perm ((iO).trans (by rw[cw]))
theorem cU.ok{st:Stmt}(F:cU K mg x st ps)(S:bC N ps (aG st))
 (h:∀(f:Addr)(j:Value)(A:Around)(i:List PySem.Env)(s:Shared)(H:Hp)(E:XK),gb b k (A.deeper (envOfC x (aG st) s.heap.objs.size f j))->
   ∃g':SF,(∀a mu,g a mu=c7 N.length g' a mu)/\jF (uV b pZ P w K mg base N x (aG st) f j A i s H E).nox (jw st) (ik K g')):K8 b P w K mg base x (k+1) ps (cC K ps.length g):=by
 let(f,fd,F,hm,hb):=F;show#[f,fd,F.ok S (λvs H Q E q=>?_) (λj A i s H vs Q E hr q=>?_),hm,F.kp,hb]
 . let(Z,qs,mu,r,fw,e,_):=q;show e
 . let(g',eg,b):=h f j A i s H E hr;let(Z,qs,mu,r,fw,e,hg,z,rl,c,j1,kk):=q;rw[eg]at j1;let(fl,h1,h2):=bm j1;show#[_,b,lJ H (uw Z.g mu),Z,_,[],fl,CQ hg z rl c,h1,?_];cases fl with
   |rt r' Y'=>
    cases h2;intro v U' H' s';let(el,Z',D,z',W):=s'.top;show kk v H' #[Z',D,z',W.sub ?_];show(hY _ _).cons_cons _
   |nx Y'=>
    cases h2;intro U' H' s';let(el,Z',D,z',W):=s';show kk .non H' #[Z',D,z',(W.sub (hY _ _)).consS (Ay _)]
   |bk Y'=>cases h2
   |ct Y'=>cases h2
end
section
variable {X:Cx}
def bJ{p pos:Pos}(D:K8 b X.prog X.w X.K X.mg X.base x k ps (cC X.K ps.length g))(hr:gb b k X.A)(N:Gl X x)
 (z:PA X (e::es) (jH X.K a)) (hn:∀Y ls Y1,a Y=!(ls,Y1)->ls.length=ps.length) (i:(x==("__debug__" : Str))=M:=by decide) (he:starEach (e::es) X.env=(M,eval e X.env)::starEach es X.env:=by rfl) (j:(backTo pos (starEach es X.env)).any (·.1)=M:=by rfl):PE X (.Call (.Name x p) (e::es) [] pos) (tP X.K (aP g a)):=by
 let(f,fd,F,W,hk,hb):=D;show PE.imp (Zd F hr N W hk hb .nil JG z i he j) λU H Q q=>?_;let(H0,Z0,Y,pd,r,Y',s,h,kk):=q;show WL U H Q #[H0,Z0,Y,pd,r,Y',s,h,λls Y1 e=>hn Y ls Y1 e,kk]
section
variable {K:FG}{H0 H H':Hp}{Z0 Z:ZG}{U:L2.St}{Y:Ev}{pd ga:Pd}{v w:V}{l:Lc}{p:PV}
theorem SR.sub(h:SR K H0 Z0 U H Y ga)(q:List.Sublist pd ga):SR K H0 Z0 U H Y pd:=
 let #[e,Z,hg,z,s]:=h
 #[e,Z,hg,z,s.sub ((mn _).append ((mn _).append (q.map _)))]
def SR.part(h:SR K H0 Z0 U H Y ((v,Zp p)::pd))(k:∀Z:ZG,eQ Z.z H->ba K Z p v->ba K Z q u):SR K H0 Z0 U H Y ((u,Zp q)::(v,Zp p)::pd):=by let(e,Z,i,z,s):=h.top;let(x,D,j):=s.1 _ bi;cases D;show .mk e i z ((s.perm dj).consS (k Z z.zh j))
end
abbrev BF:=PV->Ev->Option Ev
def GS(K:FG)(g:TG)(b:BF):Prop:=∀H0 Z0 U H Y pd v p Y' Q,SR K H0 Z0 U H Y ((v,Zp p)::pd)->b p Y=!Y'->(∀U',SR K H0 Z0 U' H Y' pd->Q U' H)->g v U H Q
abbrev K9:=List PV->Ev->Option Ev
def Yu(K:FG)(g:yE)(b:K9):Prop:=∀H0 Z0 U H Y pd vs ps Y' Q,vs.length=ps.length->SR K H0 Z0 U H Y (vs.zip (ps.map Lc.sh)++pd)->b ps Y=!Y'->(∀U',SR K H0 Z0 U' H Y' pd->Q U' H)->g vs U H Q
def aC(i:Nat):BF:=λp Y=>if i<Y.vs.length then !(Y.set i (!(Zp p))) else J
def aL:GS K (JD i) (aC i):=by
 intro H0 Z0 U H Y pd v p Y' Q s h k;unfold aC at h;split at h
 . rename_i j;cases h;show k _ (s.store j)
 . cases h
def dN:K9:=λps Y=>match ps with
 |[]=>!Y
 |_=>J
def aO(b:BF)(bs:K9):K9:=λps Y=>match ps with
 |p::r=>(b p Y).bind λY1=>bs r Y1
 |[]=>J
def gR:Yu K xI dN:=by
 intro H0 Z0 U H Y pd i ps Y' Q e s h k;cases ps with
 |nil=>
  cases h;have:i=[]:=xy ();subst this;show#[O,k U s]
 |cons p r=>cases h
def bH(h1:GS K t b)(h2:Yu K u bs):Yu K (X8 t u) (aO b bs):=by
 intro H0 Z0 U H Y pd i ps Y' Q e s h k;cases ps with
 |nil=>cases h
 |cons p r=>
  cases i with
  |nil=>grind
  |cons v ws=>
   let(Y1,j,q):=bm h;show#[v,ws,O,h1 H0 Z0 U H Y _ v p Y1 _ s j λz s'=>?_];show h2 H0 Z0 z H Y1 pd ws r Y' Q ∅ s' q k
theorem Ud(s:ag K H0 Z H L):∀{ps:List PV}{vs:List V},aK K Z ps vs->ag K H0 Z H ((vs.zip (ps.map Lc.sh)).map (λe=>(!e.1,!e.2))++L)
 |[],vs,h=>by have:=h.inv0;subst this;simpa using s
 |p::ps,vs,h=>by let(v,r,rfl,h1,h2):=h.inv;show(Ud s h2).consS h1
def SR.items(e:U.length=Y.vs.length)(i:Y.mu.length=Z.g.length)(z:jG H0 Z0 Z H)(r:aK K Z ps vs)(s:ag K H0 Z H (sl Z.g U Y pd)):SR K H0 Z0 U H Y (vs.zip (ps.map Lc.sh)++pd):=
 #[e,Z,i,z,(Ud s r).perm Uc]
def WM(f:EF)(b:BF):SF:=λY=>(f Y).bind λx=>(b x.1.pv x.2).map Fl.nx
def OE{pos:Pos}(he:PE X e (tP X.K f))(i:PG X tg g)(F:GS X.K g b)(hs:swapsWithSole [tg] e pos.line X.env=pure M:=by rfl)(Q:swappedStores [tg] e X.env=pure J:=by rfl)
 (h1:(assignEach [tg] X.env).map (·.2)=[assign tg X.env]:=by rfl):PS X (.Assign [tg] e pos) (ik X.K (WM f b)):=PS.imp (J3 he i hs Q h1) λD U H q=>by
 let(H0,Z0,Y,pd,fl,s,h,k):=q;let(x,h1,h2):=bm h;let(Y',j,rfl):=cr h2;show#[H0,Z0,Y,pd,x.1,x.2,s,h1,λv H1 z=>F H0 Z0 U H1 x.2 pd v _ Y' D.nx z.freeze j λN s'=>k N H1 s']
def qD(K:FG)(H0:Hp)(Z0:ZG)(pd:Pd)(ZU:It)(xs:List PV):Prop:=∀U H Y (i:Nat),SR K H0 Z0 U H Y pd->
 (∀x,xs[i]?=!x->ZU.go i H/\∀v H',ZU.yld i H v H'->SR K H0 Z0 U H' Y ((v,Zp x)::pd))/\(i=xs.length->ZU.stop i H)
abbrev IF:=Ev->Option (List PV×Ev)
def HR(K:FG)(f:IF):TI:=λU H ZN=>∃H0 Z0 Y pd xs Y',SR K H0 Z0 U H Y pd/\f Y=!(xs,Y')/\∀ZU H' ga,SR K H0 Z0 U H' Y' ga->qD K H0 Z0 ga ZU xs->List.Sublist pd ga->ZN ZU H'
def PI.imp(h:PI X tg iter t)(i:∀U H ZN,t' U H ZN->t U H ZN):PI X tg iter t':=λae s U H R I q=>h ae s U H R I (i U H R q)
def dG(f:EF)(g:PV->Option (List PV)):IF:=λY=>(f Y).bind λx=>(g x.1.pv).map λxs=>(xs,x.2)
def Ue:qD K H0 Z0 ((.ref a,Zp (R ps))::pd) (Yb K a) ps:=by intro U H Y i s;let(Z,z,r):=s.rep;let(b,W,e,h1,h2):=r;cases e;let hq:=bV.same z h1;show#[λx hx=>?_,λhl=>#[W,hq,by rw[h2.length];lia]];let(v,hv,rv):=h2.get hx;show#[#[W,v,hq,hv],λv' H' y=>?_];let(N,y):=y;subst N;have:=y W hq;rw[hv]at this;cases this;show s.part λZ' z' r'=>?_;let(b',j,N,D,F):=r';cases N;have:j[i]?=!v:=y j (bV.same z' D);let(p',q,Q):=F.getV this;rw[hx]at q;cases q;show Q
def WN:qD K H0 Z0 ((.ref a,Zp (ZB ps))::pd) (Yc K a) ps:=by intro U H Y i s;let(Z,z,r):=s.rep;let(b,W,e,h1,h2):=r;cases e;let hq:=cT.same z h1;show#[λx hx=>?_,λhl=>#[W,hq,by rw[h2.length];lia]];let(v,hv,rv):=h2.get hx;show#[#[W,v,hq,hv],λv' H' y=>?_];let(N,y):=y;subst N;have:=y W hq;rw[hv]at this;cases this;show s.part λZ' z' r'=>?_;let(b',j,N,D,F):=r';cases N;have:j[i]?=!v:=y j (cT.same z' D);let(p',q,Q):=F.getV this;rw[hx]at q;cases q;show Q
def ji(lo:Int)(n:Nat):List PV:=(List.range n).map λi=>ZI (lo+(i:Nat))
def iH(a:AF):IF:=λY=>(a Y).bind λy=>match y.1.map Lc.pv with
 |[ZI j]=>if -(2 ^ 62)<=j/\j<2 ^ 62 then !(ji 0 j.toNat,y.2) else J
 |_=>J
def WP{lo:Int}:qD K H0 Z0 pd (Yd lo n) (ji lo n):=by
 intro U H Y i s;show#[λx j=>?_,λq=>?_]
 . have hi:i<n:=by have:=(de.mp j).1;simpa [ji] using this
   show#[hi,λv H' y=>?_];let(rfl,rfl):=y;unfold ji at j;rw[c8,List.getElem?_range hi]at j;cases j;show s.scal gK
 . show n<=i;simp[ji]at q;lia
def SR.ints{vs:List V}{ls:List Lc}{ns:List Int}(s:SR K H0 Z0 U H Y (vs.zip ls++pd))(e:vs.length=ls.length)(h:ls.map Lc.pv=ns.map PV.int):vs=ns.map V.int/\SR K H0 Z0 U H Y pd:=by
 let(j,Z,q,z,r,i):=s.repl e;show#[?_,j,Z,q,z,i];rw[h]at r;clear h e s i;induction ns generalizing vs with
 |nil=>show r.inv0
 |cons n ns D=>
  let(v,w,rfl,h1,h2):=r.inv;rw[cg h1,D h2];rfl
def lK(D:Gl X "range")(W:X.mg "range"=J)(z:PA X [a] (jH X.K f))(hs:starEach [a] X.env=[(M,eval a X.env)]:=by rfl):PI X tg (.Call (.Name "range" p) [a] [] pos) (HR X.K (iH f)):=PI.imp (Ss D W z hs) λU H ZN q=>by
 let(H0,Z0,Y,pd,xs,Y',s,h,k):=q;let(y,h1,h2):=bm h;show#[H0,Z0,Y,pd,y.1,y.2,s,h1,λvs H1 N Q=>?_];split at h2
 . rename_i j e;split at h2
   . rename_i i;cases h2;let(rfl,F):=Q.ints (ns:=[j]) N e;show#[j,O,i.1,i.2,k _ _ _ F WP (mn _)]
   . cases h2
 . cases h2
noncomputable def fG (b:BF) (body:SF):List PV->SF
 |[],Y=>!(.nx Y)
 |x::xs,Y=>(b x Y).bind λY1=>(body Y1).bind λfl=>match fl with
  |.nx Y'=>fG b body xs Y'
  |.ct Y'=>fG b body xs Y'
  |.bk Y'=>!(.nx Y')
  |.rt r Y'=>!(.rt r Y')
def fH(f:IF)(b:BF)(body:SF):SF:=λY=>(f Y).bind λy=>fG b body y.1 y.2
def xO{P:Prop}(h:∀G:Prop,(P->G)->G):P:=h P id
def FW(K:FG)(H0:Hp)(Z0:ZG)(pd:Pd)(b:BF)(fb:SF)(xs:List PV)(fl:Fl)(i m:Nat)(U:L2.St)(H:Hp):Prop:=m=xs.length-i/\i<=xs.length/\∃Y,SR K H0 Z0 U H Y pd/\fG b fb (xs.drop i) Y=!fl
def WQ(hb:GS K g b)(it:qD K H0 Z0 pd ZU xs)(k:KZ K H0 Z0 pd D fl)(s:SR K H0 Z0 U H Y pd)(h:fG b fb xs Y=!fl):
 ∃W:Nat->Nat->L2.St->Hp->Prop,(∃m,W 0 m U H)/\∀i m U H,W i m U H->
  (ZU.stop i H/\D.nx U H)\/(ZU.go i H/\∃N:L2.St->Hp->Prop,(∀q H',N q H'->∃m',m'<m/\W (i+1) m' q H')/\∀x H',ZU.yld i H x H'->g x U H' λU2 H2=>ik K fb { D with nx:=N,ct:=N,bk:=D.nx } U2 H2):=by
 show#[FW K H0 Z0 pd b fb xs fl,#[_,O,d3 _,Y,s,h],λi m q H' w=>?_];show xO λZT kG=>?_;let(rfl,hi,Y',s',h'):=w;let(i1,i2):=it q H' Y' i s';by_cases j:i<xs.length
 . let(go,yl):=i1 _ (et j);rw[kS j]at h';let(Y1,e1,e2):=bm h';let(F,e3,e4):=bm e2;show kG (YY #[go,λz Q=>FW K H0 Z0 pd b fb xs fl (i+1) (xs.length-(i+1)) z Q,λz Q w=>#[_,(),w],λx H2 hy=>hb H0 Z0 q H2 Y' pd x _ Y1 _ (yl x H2 hy) e1 λU2 s2=>#[H0,Z0,Y1,pd,F,s2,e3,?_]]);cases F with
   |nx Y2=>show λU3 H3 s3=>#[O,j,Y2,s3,e4]
   |ct Y2=>show λU3 H3 s3=>#[O,j,Y2,s3,e4]
   |bk Y2=>cases e4;show k
   |rt r Y2=>cases e4;show k
 . let e:=Nat.le_antisymm hi ();subst e;rw[List.drop_length]at h';cases h';show kG (Zl #[i2 O,k q H' s'])
def KZ.imp(k:KZ K H0 Z0 pd D fl)(w:∀{τ:L2.St}{i:Hp}{q:Ev},SR K H0 Z₁ τ i q ga->SR K H0 Z0 τ i q pd)(j:∀{τ:L2.St}{i:Hp}{q:Ev}{e:V×Lc},SR K H0 Z₁ τ i q (e::ga)->SR K H0 Z0 τ i q (e::pd)):KZ K H0 Z₁ ga D fl:=by
 cases fl with
 |rt r Y=>show λv U H s=>k v U H (j s)
 |_=>show λU H s=>k U H (w s)
def eG(Q:PassesOwn (model X.prog X.w) X.A X.env X.xe)(hc:X.calm=G)(hi:PI X tg iter (HR X.K f))(j:PG X tg g)(i:GS X.K g b)(W:jF X body (ik X.K fb))
 (hs:∀x,foldedSetIterable iter X.env x=pure x:=by intro _;rfl):PS X (.For tg iter body [] pos) (ik X.K (fH f b fb)):=PS.imp (IA Q hc hi j W hs) λD U H q=>by
 show xO λZT z=>?_;let(H0,Z0,Y,pd,fl,s,h,k):=q;let(y,h1,h2):=bm h;show z #[H0,Z0,Y,pd,y.1,y.2,s,h1,λZU H1 ga N F sub=>WQ i F (k.imp (λs=>s.sub sub) λs=>s.sub ∅) N h2]
end
section
variable {K:FG}{H0 H H':Hp}{Z0 Z:ZG}{U:L2.St}{Y:Ev}{pd pe:Pd}{v w:V}{l:Lc}{p:PV}{g:List Addr}
def Ev.app(Y:Ev)(pe:Pd):Ev:=#[Y.vs++pe.map (λx=>!x.2),Y.mu]
def La(e:U.length=Y.vs.length):sl g (U++pe.map λx=>!x.1) (Y.app pe) pd=sl g U Y (pe++pd):=by
 unfold sl Ev.app;rw[kl e,cy,cw];congr 3;induction pe with
 |nil=>rfl
 |cons a r i=>simp[i]
def SR.shift(h:SR K H0 Z0 U H Y (pe++pd)):SR K H0 Z0 (U++pe.map λx=>!x.1) H (Y.app pe) pd:=by let(e,Z,i,z,s):=h;show#[by simp[Ev.app,e],Z,i,z,?_];rw[La e];show s
def SR.unshift(e:U.length=Y.vs.length)(h:SR K H0 Z0 (U++pe.map λx=>!x.1) H (Y.app pe) pd):SR K H0 Z0 U H Y (pe++pd):=by let(_,Z,i,z,s):=h;show#[e,Z,i,z,?_];rw[La e]at s;show s
def qD.more(h:qD K H0 Z0 pd ZU xs):qD K H0 Z0 (pe++pd) ZU xs:=by intro U H Y i s;let(h1,h2):=h _ H _ i s.shift;show#[λx z=>?_,h2];let(g,y):=h1 x z;show#[g,λv H' q=>?_];let s':=y v H' q;let e:=s.1;let j:=s';show(SR.unshift e j).perm eM.symm
def sU(U:L2.St)(Y:Ev):Pd:=(U.zip Y.vs).filterMap λe=>match e with
 |(!v,!l)=>!(v,l)
 |_=>J
theorem xP:∀{L:Sl},(∀e∈L,e.2=J\/∃v l,e=(!v,!l))->∀{T:Sl},
 (ag K H0 Z H (L++T) ↔ ag K H0 Z H ((L.filterMap λe=>match e with |(!v,!l)=>some (v,l) |_=>J).map (λe=>((some e.1:Option V),(some e.2:Option Lc)))++T))
 |[],_,T=>by simp
 |(v,l)::L,h,T=>by
  let h':=λe D=>h e (cv _ D);obtain e|⟨j,q,e⟩:=h (v,l) bi
  . let N:=e;subst N;have F:((v,(J:Option Lc))::L).filterMap (λe=>match e with |(!v,!l)=>some (v,l) |_=>J)=L.filterMap (λe=>match e with |(!v,!l)=>some (v,l) |_=>J):=by rw[hW];cases v<;>rfl
    rw[F,<-xP h'];have o1:lH (v,J)=J:=by
     cases v with
     |none=>rfl
     |some x=>cases x<;>rfl
    constructor
    . show λs=>s.sub (eH _ _)
    . intro s;show#[λe D=>?_,?_]
      . obtain rfl|D:=aT.mp D
        . trivial
        . show s.1 e D
      . rw[ja,hW o1];show s.2
  . cases e;have F:((!j,!q)::L).filterMap (λe=>match e with |(!v,!l)=>some (v,l) |_=>J)=(j,q)::L.filterMap (λe=>match e with |(!v,!l)=>some (v,l) |_=>J):=by rfl
    let z:=xP h' (T:=T++[(!j,!q)]);have i:∀A:Sl,List.Perm ((!j,!q)::(A++T)) (A++(T++[(!j,!q)])):=λA=>by rw[<-cw];show(List.perm_append_singleton _ _).symm
    constructor
    . intro s;show(z.mp (s.perm (i L).symm)).perm (i _)
    . intro s;show(z.mpr (s.perm (i _).symm)).perm (i L)
def SR.both(s:SR K H0 Z0 U H Y pd):∀e∈U.zip Y.vs,e.2=J\/∃v l,e=(!v,!l):=by
 let(_,Z,_,z,s):=s;intro e j;let q:=s.1 e (fB _ (gu _ j));let(v,l):=e;cases l with
 |none=>grind
 |some l=>
  cases l with
  |sh p=>let(x,i,_):=q;grind
  |own p=>let(x,i,_):=q;grind
def HS(j:∀e∈U.zip Y.vs,e.2=J\/∃v l,e=(!v,!l)):ag K H0 Z H (sl g U Y pd) ↔ ag K H0 Z H (cel g Y.mu++(sU U Y++pd).map λe=>(!e.1,!e.2)):=by
 let h1:=xP (K:=K) (H0:=H0) (Z:=Z) (H:=H) j (T:=(pd.map λe=>(!e.1,!e.2))++cel g Y.mu);have c1:List.Perm (sl g U Y pd) (U.zip Y.vs++((pd.map λe=>(!e.1,!e.2))++cel g Y.mu)):=by unfold sl;rw[<-cw (U.zip Y.vs)];show iO
 have i:List.Perm (cel g Y.mu++(sU U Y++pd).map λe=>((some e.1:Option V),(some e.2:Option Lc))) ((sU U Y).map (λe=>(!e.1,!e.2))++((pd.map λe=>(!e.1,!e.2))++cel g Y.mu)):=by rw[cy,<-cw ((sU U Y).map _)];show iO
 show#[λs=>(h1.mp (s.perm c1.symm)).perm i,λs=>(h1.mpr (s.perm i.symm)).perm c1]
def SR.back(i:U.length=Y.vs.length)(q:∀e∈U.zip Y.vs,e.2=J\/∃v l,e=(!v,!l))(s:SR K H0 Z0 U' H Y' (sU U Y++pd)):SR K H0 Z0 U H #[Y.vs,Y'.mu] pd:=by let(_,Z,j,z,s):=s;show#[i,Z,j,z,(HS (Y:=#[Y.vs,Y'.mu]) q).mpr ?_];show s.sub ((mn _).append (kT _ _))
def gP(ixs:List Nat)(Y:Ev):Ev:=ixs.foldl (λY i=>match Y.vs[i]? with
 |some (!l)=>Y.set i (!(Zp l.pv))
 | _=>Y) Y
theorem SR.frz:∀{ixs:List Nat}{Y:Ev},SR K H0 Z0 U H Y pd->SR K H0 Z0 U H (gP ixs Y) pd
 |[],Y,s=>s
 |i::r,Y,s=>by
  unfold gP;rw[jp];show SR.frz ?_;split
  . rename_i l e;let(v,_,h2):=s.var e;show h2.pop
  . show s
def CT:Option Lc->Bool
 |some (Zs _)=>M
 |_=>G
theorem Lb{j:Nat}:∀{ixs:List Nat}{Y:Ev},CT (Y.vs[j]?).join=G->CT ((gP ixs Y).vs[j]?).join=G
 |[],Y,h=>h
 |i::r,Y,h=>by
  unfold gP;rw[jp];show Lb ?_;split
  . rename_i l e;by_cases q:i=j
    . subst q;let hi:=(de.mp e).1;show CT ((Y.vs.set i _)[i]?).join=G;rw[ke hi];rfl
    . show CT ((Y.vs.set i _)[j]?).join=G;grind
  . show h
theorem Ug:∀{ixs:List Nat}{Y:Ev},j∈ixs->CT ((gP ixs Y).vs[j]?).join=G
 |[],Y,h=>by cases h
 |i::r,Y,h=>by
  unfold gP;rw[jp];obtain e|h:=aT.mp h
  . subst e;show Lb ?_;split
    . rename_i l e;let hi:=(de.mp e).1;show CT ((Y.vs.set j _)[j]?).join=G;rw[ke hi];rfl
    . rename_i z;cases q:Y.vs[j]? with
      |none=>rfl
      |some o=>
       cases o with
       |none=>rfl
       |some l=>grind
  . show Ug h
def nq(m:Nat)(ixs:List Nat)(Y:Ev):Ev:=#[List.replicate m J++ixs.map λi=>(Y.vs[i]?).join,Y.mu]
def SR.block(s:SR K H0 Z0 U H Y pd)(hs:∀j∈ixs,CT (Y.vs[j]?).join=G):SR K H0 Z0 (zB m ixs U) H (nq m ixs Y) (sU U Y++pd):=by
 let hb:=s.both;let(el,Z,hg,z,Q):=s;show#[by simp[nq],Z,hg,z,?_];let s3:=(HS hb).mp Q;have fin:ag K H0 Z H ((ixs.map λi=>(U[i]?).join).zip (ixs.map λi=>(Y.vs[i]?).join)++(cel Z.g Y.mu++(sU U Y++pd).map λe=>(!e.1,!e.2)))->ag K H0 Z H (sl Z.g (zB m ixs U) (nq m ixs Y) (sU U Y++pd)):=λh=>by unfold sl zB nq;rw[kl (by simp),cw];show(nones h m).perm ?_;show(JN _ _ _).trans ((JN _ _ _).append_left _)
 show fin ?_;clear fin;induction ixs with
 |nil=>simpa using s3
 |cons i r ih=>
  let D:=ih λj hj=>hs j (cv _ hj);rw[dE,dE,kU,ja];let h1:=hs i bi;cases q:Y.vs[i]? with
  |none=>
   show#[λe F=>?_,?_]
   . obtain rfl|F:=aT.mp F
     . trivial
     . show D.1 e F
   . rw[hW]
     . show D.2
     . cases (U[i]?).join with
       |none=>rfl
       |some x=>cases x<;>rfl
  |some o=>
   cases o with
   |none=>
    show#[λe F=>?_,?_]
    . obtain rfl|F:=aT.mp F
      . trivial
      . show D.1 e F
    . rw[hW]
      . show D.2
      . cases (U[i]?).join with
        |none=>rfl
        |some x=>cases x<;>rfl
   |some l=>
    rw[q]at h1;cases l with
    |own p=>cases h1
    |sh p=>
     have hi:i<U.length:=by rw[el];show(de.mp q).1
     let W:=et hi;let hm:=eR (zip_get W q);let(x,e1,e2):=Q.1 _ (fB _ (gu _ hm));have N:U[i]=!x:=e1;have ej:(U[i]?).join=!x:=by rw[W,N];rfl
     rw[ej];show D.consS e2
end
def SR.pushO(s:SR K H0 Z0 U H Y ((v,l)::(.ref a,Zs (R ws))::pd)):
 ∃i,H a=!(.lst i)/\i.length=ws.length/\SR K H0 Z0 U (aS H a (.lst (i++[v]))) Y ((.ref a,Zs (R (ws++[l.pv])))::pd):=by
 let(F,Z,Q,z,r,N):=s.freeze.sh;let j:=N.perm dj.symm;let(b,eb,(i,hu,D),_):=j.1 _ bi;cases eb;show#[i,hu,D.length,?_];let(W,s'):=j.write (q:=R (ws++[l.pv])) z #[i++[v],bU,D.append (aK.cons r .nil)];show .mk F Q W s'
def eE(b:BF)(tc:TF)(te:EF):List PV->Ev->List PV->Option (List PV×Mu)
 |[],Y,acc=>!(acc,Y.mu)
 |x::xs,Y,acc=>(b x Y).bind λY1=>(tc Y1).bind λc=>if c.1=G then (te c.2).bind λv=>if acc.length<100000 then eE b tc te xs v.2 (acc++[v.1.pv]) else J else eE b tc te xs c.2 acc
def cF(f:IF)(m:Nat)(ixs:List Nat)(b:BF)(tc:TF)(te:EF):EF:=λY=>(f Y).bind λy=>(eE b tc te y.1 (nq m ixs (gP ixs y.2)) []).map λys=>(Zs (R ys.1),#[(gP ixs y.2).vs,ys.2])
def CW(K:FG)(H0:Hp)(Z0:ZG)(b:BF)(tc:TF)(te:EF)(p:Addr)(PD:Pd)(xs:List PV)(zs:List PV×Mu)(i n:Nat)(U':L2.St)(H':Hp):Prop:=
 n=xs.length-i/\i<=xs.length/\∃Yi ws,SR K H0 Z0 U' H' Yi ((.ref p,Zs (R ws))::PD)/\eE b tc te (xs.drop i) Yi ws=!zs
def Uh(hb:GS K g b){PD:Pd}{Q:VK}
 (it:∀ws,qD K H0 Z0 ((.ref p,Zs (R ws))::PD) ZU xs) (fin:∀z H' Ae ws,SR K H0 Z0 z H' Ae ((.ref p,Zs (R ws))::PD)->eE b tc te [] Ae ws=!zs->Q (.ref p) H') (i n:Nat) (z:L2.St) (H':Hp) (w:CW K H0 Z0 b tc te p PD xs zs i n z H'):
 (ZU.stop i H'/\Q (.ref p) H')\/(ZU.go i H'/\∀x H2,ZU.yld i H' x H2->g x z H2 λj H3=>jo K tc j H3 λb' H4=>
   if b'=G then tP K te j H4 λv H5=>∃ys,H5 p=!(.lst ys)/\ys.length<sizeLine/\∃n',n'<n/\CW K H0 Z0 b tc te p PD xs zs (i+1) n' j (aS H5 p (.lst (ys++[v])))
   else ∃n',n'<n/\CW K H0 Z0 b tc te p PD xs zs (i+1) n' j H4):=by
 show xO λZT D=>?_;let(rfl,hi,Ae,ws,s',h'):=w;let(i1,i2):=it ws z H' Ae i s';by_cases q:i<xs.length
 . let(go,yl):=i1 _ (et q);rw[kS q]at h';let(Y1,e1,e2):=bm h';let(c,e3,N):=bm e2;have hn:xs.length-(i+1)<xs.length-i:=()
   show D (YY #[go,λx H2 hy=>hb H0 Z0 z H2 Ae _ x _ Y1 _ (yl x H2 hy) e1 λU2 s5=>#[H0,Z0,Y1,_,c.1,c.2,s5,e3,λH4 s6=>?_]]);dsimp only;split
   . rename_i hc;show xO λZT D=>?_;rw[av hc]at N;let(v,e5,W):=bm N;split at W
     . show D #[H0,Z0,c.2,_,v.1,v.2,s6,e5,λvv H5 s7=>?_];show xO λZT D=>?_;let(us,hu,hl,s8):=s7.pushO;show D #[us,hu,by rw[hl,sizeLine_eq];lia,_,hn,O,q,v.2,_,s8,W]
     . cases W
   . rename_i hc;rw[aE hc]at N;show#[_,hn,O,q,c.2,ws,s6,N]
 . grind
def Ld(F:GS K g b):∀U H Q,tP K (cF f m ixs b tc te) U H Q->Rj (HR K f) m ixs g (jo K tc) (tP K te) U H Q:=λU H Q q=>by show xO λZT kG=>?_;let(H0,Z0,Y,pd,r,Y',s,h,k):=q;let(y,h1,h2):=bm h;let(zs,h3,W):=cr h2;cases W;show kG #[H0,Z0,Y,pd,y.1,y.2,s,h1,λZU H1 ga D it sub p hp=>?_];have i:SR K H0 Z0 U H1 (gP ixs y.2) ga:=D.frz;let z:=i.block (m:=m) λj N=>Ug N;show#[CW K H0 Z0 b tc te p (sU U (gP ixs y.2)++ga) y.1 zs,#[_,O,d3 _,_,[],(z.newO hp λZ _ _=>#[[],bU,.nil]),h3],Uh F (λws=>qD.more (pe:=(.ref p,Zs (R ws))::sU U (gP ixs y.2)) it) λU' H' Ae ws s' h'=>?_];cases h';let s5:=s'.perm eM;show k _ _ ((SR.back i.1 i.both s5).sub ∅)
section
variable {X:Cx}
def il(j F:List Str)(ixs:List Nat)(i:X.calm=G)(c:jy X j F ixs sc)(hi:PI X tg iter (HR X.K f))
 (q:∀C fp s H,PG (gm X j F sc C fp s H) tg g) (z:GS X.K g b) (D:∀C fp s H,vD (gm X j F sc C fp s H) f8 (jo X.K tc)) (he:∀C fp s H,PE (gm X j F sc C fp s H) elt (tP X.K te))
 (hs:∀x,foldedSetIterable iter X.env x=pure x:=by intro _;rfl):PE X (.ListComp elt [#[tg,iter,f8,0]] sc pos) (tP X.K (cF f j.length ixs b tc te)):=PE.imp (Zq j F ixs i c hi q D he hs) (Ld z)
def ue(Q F:List Str)(ixs:List Nat){pos pos' j:Pos}(hN:X.N.Nodup)(sg:X.N[i]?=!x)(hx:X.env.scope.names.lookup x=!.local)
 (z:X.calm=G) (c:jy X Q F ixs sc) (hi:PI X tg iter (HR X.K f))
 (hg:∀C fp s H,PG (gm X Q F sc C fp s H) tg g) (hb:GS X.K g b) (hc:∀C fp s H,vD (gm X Q F sc C fp s H) f8 (jo X.K tc)) (he:∀C fp s H,PE (gm X Q F sc C fp s H) elt (tP X.K te))
 (W:swapsWith (.ListComp elt [#[tg,iter,f8,0]] sc pos) (!(.Name x pos')) j.line X.env=pure G:=by rfl)
 (hs:∀x,foldedSetIterable iter X.env x=pure x:=by intro _;rfl):PS X (.Assign [.Name x pos'] (.ListComp elt [#[tg,iter,f8,0]] sc pos) j) (ik X.K (aM i (cF f Q.length ixs b tc te))):=
 PS.imp (Zr Q F ixs hN sg hx z c hi hg hc he W hs) (Pn λD U H q=>Ld hb U H _ q)
def bQ:TF:=λY=>!(G,Y)
def cX:vD X [] (jo X.K bQ):=λae s U H Q I q=>Wb ae s U H Q I (by let(H0,Z0,Y,pd,b,Y',s,h,k):=q;cases h;show k H s)
def WR(h:PT X c (jo X.K f)):vD X [c] (jo X.K f):=Wc h
end
noncomputable def ux (f:PV->PV->Option Bool):List PV->List PV->Option Bool
 |p::ps,q::qs=>(f p q).bind λb=>(ux f ps qs).map λc=>b&&c
 |_,_=>!G
def dm:Nat->PV->PV->Option Bool
 |0,_,_=>J
 |n+1,p,q=>match p,q with
  |ZB ps,ZB qs=>(ux (dm n) ps qs).map λb=>b&&(ps.length==qs.length)
  |R ps,R qs=>if ps.length=qs.length then ux (dm n) ps qs else !M
  |.non,.non=>!G
  |.bl a,.bl b=>!(a==b)
  |ZI a,ZI b=>!(a==b)
  |ZH a,ZH b=>!(a==b)
  |.bl a,ZI b=>!((if a then 1 else 0)==b)
  |ZI a,.bl b=>!(a==(if b then 1 else 0))
  |.non,.bl _=>!M
  |.non,ZI _=>!M
  |.non,ZH _=>!M
  |.non,ZB _=>!M
  |.non,R _=>!M
  |.bl _,.non=>!M
  |.bl _,ZH _=>!M
  |.bl _,ZB _=>!M
  |.bl _,R _=>!M
  |ZI _,.non=>!M
  |ZI _,ZH _=>!M
  |ZI _,ZB _=>!M
  |ZI _,R _=>!M
  |ZH _,.non=>!M
  |ZH _,.bl _=>!M
  |ZH _,ZI _=>!M
  |ZH _,ZB _=>!M
  |ZH _,R _=>!M
  |ZB _,.non=>!M
  |ZB _,.bl _=>!M
  |ZB _,ZI _=>!M
  |ZB _,ZH _=>!M
  |ZB _,R _=>!M
  |R _,.non=>!M
  |R _,.bl _=>!M
  |R _,ZI _=>!M
  |R _,ZH _=>!M
  |R _,ZB _=>!M
  |_,_=>J
theorem Ba{f:PV->PV->Option Bool}:∀{ps qs:List PV}{b:Bool},ux f ps qs=!b->(∀(j:Nat) p q,ps[j]?=!p->qs[j]?=!q->f p q=!((f (ps.getD j .non) (qs.getD j .non)).getD false))/\
 b=(List.range (min ps.length qs.length)).all λj=>(f (ps.getD j .non) (qs.getD j .non)).getD false
 |[],qs,b,h=>by cases h;show#[λj p q e=>by simp at e,by simp]
 |p::ps,[],b,h=>by cases h;show#[λj p q _ e=>by simp at e,by simp]
 |p::ps,q::qs,b,h=>by
  let(c,h1,h2):=bm h;let(d,h3,rfl):=cr h2;let(i1,i2):=Ba h3;show#[λj p' q' e1 e2=>?_,?_]
  . cases j with
    |zero=>
     simp at e1 e2;subst e1 e2;simp[h1]
    |succ j=>
     have:=i1 j p' q' (by simpa using e1) (by simpa using e2);simpa using this
  . have e:min (p::ps).length (q::qs).length=min ps.length qs.length+1:=by simp only[be];lia
    rw[e,List.range_succ_eq_map,List.all_cons,List.all_map];have e0:(f ((p::ps).getD 0 .non) ((q::qs).getD 0 .non)).getD false=c:=by simp[h1]
    rw[e0,i2];rfl
def eK(r:aK K Z ps vs)(i:am vs br)(h:j<br.length):∃p v,ps[j]?=!p/\ba K Z p v/\aw v br[j]:=by let N:=i.length;have q:vs[j]?=some vs[j]:=et ();let(u,z,D):=i.get q;rw[et h]at z;cases z;let(p,Q,F):=r.getV q;grind
section
open PySem.SeqAt
variable {X:Cx}{ae:List (Addr×Obj)}{U:L2.St}{H:Hp}{s:Shared}{g:List Addr}
def Ep(I:ai X ae U H s)(r:ba X.K #[H,g] (ZB ps) v)(D:aw v u):∃a vs i,u=YV a/\cT X.K H a vs/\aK X.K #[H,g] ps vs/\am vs i/\s.heap.IsTuple a i.toArray:=by let(a,vs,rfl,h1,h2):=r;let(i,q,z,_):=I.tuple h1;show#[a,vs,i,D,h1,h2,q,z]
def zN(I:ai X ae U H s)(r:ba X.K #[H,g] (R ps) v)(D:aw v u):∃a vs i,u=YV a/\bV X.K H a vs/\aK X.K #[H,g] ps vs/\am vs i/\s.heap.IsList a i.toArray:=by let(a,vs,rfl,h1,h2):=r;let(i,q,z,_):=I.list h1;show#[a,vs,i,D,h1,h2,q,z.isList]
def kn:PV->Nat
 |.non=>0 |.bl _=>1 |ZI _=>2 |ZH _=>3 |ZB _=>4 |R _=>5 |_=>6
def A0(h:kn p=4):∃ps,p=ZB ps:=by cases p<;>first |show#[_,O] |cases h
def A3(h:kn p=5):∃ps,p=R ps:=by cases p<;>first |show#[_,O] |cases h
def Er(h:dm (n+1) p q=!b):kn p<6:=by cases p<;>first |cases h;done |show Nat.le.step (Nat.le.step (Nat.le.step (Nat.le.step (Nat.le.step .refl)))) |show Nat.le.step (Nat.le.step (Nat.le.step (Nat.le.step .refl))) |show Nat.le.step (Nat.le.step (Nat.le.step .refl)) |show Nat.le.step (Nat.le.step .refl) |show Nat.le.step .refl |show Nat.le.refl
def Yv(h:dm (n+1) p q=!b):kn q<6:=by
 have i:dm (n+1) p q=J->kn q<6:=λe=>absurd ∅ (Option.some_ne_none b);cases q with
 |dk _ _=>show i (by cases p<;>rfl)
 |dt _ _=>show i (by cases p<;>rfl)
 |obj _ _ _=>show i (by cases p<;>rfl)
 |df _ _=>show i (by cases p<;>rfl)
 |dtf _ _=>show i (by cases p<;>rfl)
 |dx _ _ _=>show i (by cases p<;>rfl)
 |exc _=>show i (by cases p<;>rfl)
 |fn _=>show i (by cases p<;>rfl)
 |ptr _=>show i (by cases p<;>rfl)
 |_=>first |show Nat.le.step (Nat.le.step (Nat.le.step (Nat.le.step (Nat.le.step .refl)))) |show Nat.le.step (Nat.le.step (Nat.le.step (Nat.le.step .refl))) |show Nat.le.step (Nat.le.step (Nat.le.step .refl)) |show Nat.le.step (Nat.le.step .refl) |show Nat.le.step .refl |show Nat.le.refl
def back:V->Option PV
 |.non=>some .non |.bl b=>some (.bl b) |.int i=>some (ZI i) |.str x=>some (ZH x) |_=>J
inductive Sh(K:FG)(Z:ZG)(v:V):PV->Prop
 |at {p:PV}:back v=!p->Sh K Z v p
 |tup {a:Addr} {ps:List PV} {vs:List V}:v=.ref a->cT K Z.z a vs->aK K Z ps vs->Sh K Z v (.tup ps)
 |lst {a:Addr} {ps:List PV} {vs:List V}:v=.ref a->bV K Z.z a vs->aK K Z ps vs->Sh K Z v (.lst ps)
def JQ(r:ba K Z p v)(h:kn p<6):Sh K Z v p:=by
 cases p with
 |non=>show .at (congrArg back (jE r))
 |bl b=>show .at (congrArg back (iY r))
 |int b=>show .at (congrArg back (cg r))
 |str b=>show .at (congrArg back (dC r))
 |tup ps=> let(a,D,e,h1,h2):=r;show .tup e h1 h2
 |lst ps=> let(a,D,e,h1,h2):=r;show .lst e h1 h2
 |_=>show absurd h (kR 6)
inductive Tw(K:FG)(Z:ZG):PV->PV->Prop
 |at {v:V} {p:PV}:back v=!p->Tw K Z p p
 |tup {ps qs:List PV} {vs:List V}:aK K Z ps vs->aK K Z qs vs->Tw K Z (.tup ps) (.tup qs)
 |lst {ps qs:List PV} {vs:List V}:aK K Z ps vs->aK K Z qs vs->Tw K Z (.lst ps) (.lst qs)
def Yw(I:ai X ae U H s)(h1:cT X.K H a vs)(j:bV X.K H a ws):False:=by let(q,z,(o1,F,N,c1,_),_):=I.list j;let(i,W,(o2,Q,D,_),_):=I.tuple h1;grind
def xQ(e:v=.ref a)(h:back v=!p):False:=by subst e;cases h
def Sh.two(I:ai X ae U H s)(h1:Sh X.K #[H,g] v p)(h2:Sh X.K #[H,g] v q):Tw X.K #[H,g] p q:=by
 cases h1 with
 |«at» e=>
  cases h2 with
  |«at» i=>show(d_ (e.symm.trans i))▸.at e
  |tup i=>show(xQ i e).elim
  |lst i=>show(xQ i e).elim
 |tup e D N=>
  cases h2 with
  |«at» i=>show(xQ e i).elim
  |tup i j F=>show .tup N (I.tuple_inj D (V.ref.inj (i.symm.trans e)▸j)▸F)
  |lst i j=>show(Yw I D (V.ref.inj (i.symm.trans e)▸j)).elim
 |lst e D N=>
  cases h2 with
  |«at» i=>show(xQ e i).elim
  |tup i j=>show(Yw I j (V.ref.inj (e.symm.trans i)▸D)).elim
  |lst i j F=>show .lst N (I.list_inj D (V.ref.inj (i.symm.trans e)▸j)▸F)
def OG(e:back v=!p)(h:dm (n+1) p p=!b):b=G:=by
 cases v with
 |non=>cases e;cases h;rfl
 |bl z=>cases e;cases h;grind
 |int z=>cases e;cases h;grind
 |str z=>cases e;cases h;grind
 |_=>cases e
theorem zP(i:∀(p q:PV)(v:V)(b:Bool),ba K Z p v->ba K Z q v->f p q=!b->b=G):∀{ps qs:List PV}{vs:List V}{c:Bool},aK K Z ps vs->aK K Z qs vs->ux f ps qs=!c->c=G
 |[],qs,vs,c=>λa b h=>by cases h;rfl
 |p::ps,[],vs,c=>λa b h=>by cases h;rfl
 |p::ps,q::qs,vs,c=>λa b h=>by let(w1,r1,N,Q,e3):=a.inv;let(w2,r2,z,D,W):=b.inv;let(g1,F):=List.cons.inj (N.symm.trans z);subst g1 F;let(c,h1,h2):=bm h;let(d,j,rfl):=cr h2;rw[i _ _ _ _ Q D h1,zP i e3 W j];rfl
theorem xR(j:∀(p q r:PV)(v:V)(b c:Bool),ba K Z p v->ba K Z q v->f p r=!b->f q r=!c->b=c):∀{ps qs rs:List PV}{vs:List V}{b c:Bool},aK K Z ps vs->aK K Z qs vs->ux f ps rs=!b->ux f qs rs=!c->b=c
 |[],[],rs,vs,b,c=>λ_ _ h k=>d_ ∅
 |[],q::qs,rs,vs,b,c=>λa i h k=>by let(_,_,e,_):=i.inv;show absurd (a.inv0.symm.trans e) (by simp)
 |p::ps,[],rs,vs,b,c=>λa i h k=>by let(_,_,e,_):=a.inv;show absurd (i.inv0.symm.trans e) (by simp)
 |p::ps,q::qs,[],vs,b,c=>λa i h k=>d_ (h.symm.trans k)
 |p::ps,q::qs,r::rs,vs,b,c=>λa i h k=>by let(w1,r1,F,N,e3):=a.inv;let(w2,r2,f1,z,f3):=i.inv;let(g1,D):=List.cons.inj (F.symm.trans f1);subst g1 D;let(x1,h1,h2):=bm h;let(d1,h3,rfl):=cr h2;let(x2,Q,k2):=bm k;let(d2,W,rfl):=cr k2;rw[j _ _ _ _ _ _ N z h1 Q,xR j e3 f3 h3 W]
theorem eq_self(I:ai X ae U H s):∀(n:Nat){p q:PV}{v:V}{b:Bool},ba X.K #[H,g] p v->ba X.K #[H,g] q v->dm n p q=!b->b=G
 |0,p,q,v,b=>λ_ _ h=>by cases h
 |n+1,p,q,v,b=>λz j h=>by
  cases Sh.two I (JQ z (Er h)) (JQ j (Yv h)) with
  |«at» e=>show OG e h
  |tup h2 i=>
   let(c,F,rfl):=cr h;rw[zP (λ_ _ _ _=>eq_self I n) h2 i F,h2.length.symm.trans i.length,io];rfl
  |lst h2 i=>show zP (λ_ _ _ _=>eq_self I n) h2 i ((av (h2.length.symm.trans i.length)).symm.trans h)
inductive U_(s:Shared):PV->Value->Prop
 |non:U_ s .non .none
 |bl {b:Bool}:U_ s (.bl b) (.bool b)
 |int {i:Int} {t}:U_ s (.int i) (.int i t)
 |str {x:Str} {t}:U_ s (.str x) (.str x t)
 |tup {ps:List PV} {a:Addr} {br}:s.heap.IsTuple a br->U_ s (.tup ps) (.ref a)
 |lst {ps:List PV} {a:Addr} {br}:s.heap.IsList a br->U_ s (.lst ps) (.ref a)
def A4(I:ai X ae U H s)(r:ba X.K #[H,g] p v)(i:aw v u)(h:kn p<6):U_ s p u:=by
 cases p with
 |non=>cases jE r;cases i;show .non
 |bl b=>cases iY r;cases i;show .bl
 |int b=>cases cg r;let(t,rfl):=i;show .int
 |str b=>cases dC r;let(t,rfl):=i;show .str
 |tup ps=>let(a,z,j,rfl,_,_,_,x):=Ep I r i;show .tup x
 |lst ps=>let(a,z,j,rfl,_,_,_,x):=zN I r i;show .lst x
 |_=>show absurd h (kR 6)
def E3(A:Around)(s:Shared)(x y:Value)(b:Bool):Prop:=EqAt A s x y b/\RcAt A s x y b/\RcNeAt A s x y (not b)
def E3.of(h:some c=!b)(e:EqAt A s x y c)(r:RcAt A s x y c)(q:RcNeAt A s x y (not c)):E3 A s x y b:=d_ h▸#[e,r,q]
def two(p q:PV):Bool:=kn p==kn q&&Nat.ble 4 (kn p)
def OH(i:A.units<cLine)(h1:U_ s p u1)(h2:U_ s q u2)(e:two p q=M)(h:dm (n+1) p q=!b):E3 A s u1 u2 b:=by
 cases h1 with
 |non=>
  cases h2 with
  |non=>show E3.of h (EqAt.same .none) RcAt.none_none RcNeAt.none_none
  |bl=>show E3.of h (EqAt.none_bool _) (RcAt.none_bool _) (RcNeAt.none_bool _)
  |int=>show E3.of h (EqAt.none_int _ _) (RcAt.none_int _ _) (RcNeAt.none_int _ _)
  |str=>show E3.of h (EqAt.none_str _ _) (RcAt.none_str _ _) (RcNeAt.none_str _ _)
  |tup j=>show E3.of h (EqAt.none_tuple j i) (RcAt.none_tuple j i) (RcNeAt.none_tuple j i)
  |lst j=>show E3.of h (EqAt.none_list j i) (RcAt.none_list j i) (RcNeAt.none_list j i)
 |bl=>
  cases h2 with
  |non=>show E3.of h (EqAt.bool_none _) (RcAt.bool_none _) (RcNeAt.bool_none _)
  |bl=>show E3.of h (EqAt.bool_bool _ _) (RcAt.bool_bool _ _) (RcNeAt.bool_bool _ _)
  |int=>show E3.of h (EqAt.bool_int _ _ _) (RcAt.bool_int _ _ _) (RcNeAt.bool_int _ _ _)
  |str=>show E3.of h (EqAt.bool_str _ _ _) (RcAt.bool_str _ _ _) (RcNeAt.bool_str _ _ _)
  |tup j=>show E3.of h (EqAt.bool_tuple _ j i) (RcAt.bool_tuple _ j i) (RcNeAt.bool_tuple _ j i)
  |lst j=>show E3.of h (EqAt.bool_list _ j i) (RcAt.bool_list _ j i) (RcNeAt.bool_list _ j i)
 |int=>
  cases h2 with
  |non=>show E3.of h (EqAt.int_none _ _) (RcAt.int_none _ _) (RcNeAt.int_none _ _)
  |bl=>show E3.of h (EqAt.int_bool _ _ _) (RcAt.int_bool _ _ _) (RcNeAt.int_bool _ _ _)
  |int=>show E3.of h (EqAt.int_int _ _ _ _) (RcAt.int_int _ _ _ _) (RcNeAt.int_int _ _ _ _)
  |str=>show E3.of h (EqAt.int_str _ _ _ _) (RcAt.int_str _ _ _ _) (RcNeAt.int_str _ _ _ _)
  |tup j=>show E3.of h (EqAt.int_tuple _ _ j i) (RcAt.int_tuple _ _ j i) (RcNeAt.int_tuple _ _ j i)
  |lst j=>show E3.of h (EqAt.int_list _ _ j i) (RcAt.int_list _ _ j i) (RcNeAt.int_list _ _ j i)
 |str=>
  cases h2 with
  |non=>show E3.of h (EqAt.str_none _ _) (RcAt.str_none _ _) (RcNeAt.str_none _ _)
  |bl=>show E3.of h (EqAt.str_bool _ _ _) (RcAt.str_bool _ _ _) (RcNeAt.str_bool _ _ _)
  |int=>show E3.of h (EqAt.str_int _ _ _ _) (RcAt.str_int _ _ _ _) (RcNeAt.str_int _ _ _ _)
  |str=>show E3.of h (EqAt.str_str _ _ _ _) (RcAt.str_str _ _ _ _) (RcNeAt.str_str _ _ _ _)
  |tup j=>show E3.of h (EqAt.str_tuple _ _ j i) (RcAt.str_tuple _ _ j i) (RcNeAt.str_tuple _ _ j i)
  |lst j=>show E3.of h (EqAt.str_list _ _ j i) (RcAt.str_list _ _ j i) (RcNeAt.str_list _ _ j i)
 |tup z=>
  cases h2 with
  |non=>show E3.of h (EqAt.tuple_none z i) (RcAt.tuple_none z i) (RcNeAt.tuple_none z i)
  |bl=>show E3.of h (EqAt.tuple_bool _ z i) (RcAt.tuple_bool _ z i) (RcNeAt.tuple_bool _ z i)
  |int=>show E3.of h (EqAt.tuple_int _ _ z i) (RcAt.tuple_int _ _ z i) (RcNeAt.tuple_int _ _ z i)
  |str=>show E3.of h (EqAt.tuple_str _ _ z i) (RcAt.tuple_str _ _ z i) (RcNeAt.tuple_str _ _ z i)
  |tup j=>cases e
  |lst j=>show E3.of h (EqAt.tuple_list z j i) (RcAt.tuple_list z j i) (RcNeAt.tuple_list z j i)
 |lst z=>
  cases h2 with
  |non=>show E3.of h (EqAt.list_none z i) (RcAt.list_none z i) (RcNeAt.list_none z i)
  |bl=>show E3.of h (EqAt.list_bool _ z i) (RcAt.list_bool _ z i) (RcNeAt.list_bool _ z i)
  |int=>show E3.of h (EqAt.list_int _ _ z i) (RcAt.list_int _ _ z i) (RcNeAt.list_int _ _ z i)
  |str=>show E3.of h (EqAt.list_str _ _ z i) (RcAt.list_str _ _ z i) (RcNeAt.list_str _ _ z i)
  |tup j=>show E3.of h (EqAt.list_tuple z j i) (RcAt.list_tuple z j i) (RcNeAt.list_tuple z j i)
  |lst j=>cases e
def xT(r:aw v (YV a)):v=.ref a:=by
 cases v with
 |ref b=>cases r;rfl
 |non=>cases r
 |bl _=>cases r
 |ty _=>cases r
 |_=>let(t,e):=r;cases e
def Le(I:ai X ae U H s)(j:ba X.K #[H,g] p (.ref a1))(z:ba X.K #[H,g] q (.ref a2))(h:dm n p q=!b)(D:RcAt A s (YV a1) (YV a2) b):EqAt A s (YV a1) (YV a2) b:=by
 by_cases i:a1=a2
 . subst i;show eq_self I n j z h▸EqAt.same _
 . show EqAt.of_refs i D
theorem JR(I:ai X ae U H s):∀(n:Nat){p q:PV}{v w:V}{u1 u2:Value}{b:Bool},ba X.K #[H,g] p v->ba X.K #[H,g] q w->aw v u1->aw w u2->dm n p q=!b->∀A:Around,A.units+n<cLine->
 EqAt A s u1 u2 b/\RcAt A s u1 u2 b/\RcNeAt A s u1 u2 (not b)
 |0,p,q,v,w,u1,u2,b=>λ_ _ _ _ h _ _=>by cases h
 |n+1,p,q,v,w,u1,u2,b=>λrp rq r1 r2 h A hA=>by
  let hu:=n4 (k_ _ _) hA;have OK:A.in1.units+n<cLine:=by show A.units+1+n<cLine;lia
  have item:∀{ps Q:List PV}{vs ws:List V}{W i:List Value}{c:Bool},aK X.K #[H,g] ps vs->am vs W->aK X.K #[H,g] Q ws->am ws i->ux (dm n) ps Q=!c->
   ∀j (h1:j<W.toArray.size) (h2:j<i.toArray.size),EqAt A.in1 s W.toArray[j] i.toArray[j] ((dm n (ps.getD j .non) (Q.getD j .non)).getD M):=λ{ps Q vs ws W i c} a b c' d e j h1 h2=>by
   let(p,v,e1,e2,e3):=eK a b ();let(q,w,f1,f2,f3):=eK c' d ();have:=(Ba e).1 j p q e1 f1;show(JR I n e2 f2 e3 f3 this A.in1 OK).1
  cases e:two p q with
  |false=>show OH hu (A4 I rp r1 (Er h)) (A4 I rq r2 (Yv h)) e h
  |true=>
   have e':kn p=kn q/\4<=kn p:=by unfold two at e;simpa using e
   let hk:=Er h;obtain hp|hp:=(by omega:kn p=4\/kn p=5)
   . let(ps,rfl):=A0 hp;let(Q,rfl):=A0 (e'.1.symm.trans hp);let(a1,OL,z,rfl,q1,l1,F,x1):=Ep I rp r1;let(a2,OM,i,rfl,q2,l2,D,x2):=Ep I rq r2;let e1:=xT r1;let e2:=xT r2;subst e1 e2;let(c,h5,rfl):=cr h;let it:=item l1 F l2 D h5;have z1:z.toArray.size=ps.length:=by rw[eP,<-F.length,l1.length]
     have z2:i.toArray.size=Q.length:=by rw[eP,<-D.length,l2.length]
     let N:=RcAt.tuples x1 x2 hu it;let rn:=RcNeAt.tuples x1 x2 hu it;rw[z1,z2,<-(Ba h5).2]at N rn;show#[Le I rp rq h N,N,rn]
   . let(ps,rfl):=A3 hp;let(Q,rfl):=A3 (e'.1.symm.trans hp);let(a1,OL,z,rfl,q1,l1,F,x1):=zN I rp r1;let(a2,OM,i,rfl,q2,l2,D,x2):=zN I rq r2;let e1:=xT r1;let e2:=xT r2;subst e1 e2;have z1:z.toArray.size=ps.length:=by rw[eP,<-F.length,l1.length]
     have z2:i.toArray.size=Q.length:=by rw[eP,<-D.length,l2.length]
     by_cases hl:ps.length=Q.length
     . let h':=(av hl).symm.trans h;let it:=item l1 F l2 D h';let hz:=(z1.trans hl).trans z2.symm;let N:=RcAt.lists x1 x2 hz hu it;let rn:=RcNeAt.lists x1 x2 hz hu it;rw[z1,<-(show min ps.length Q.length=ps.length by rw[<-hl,Nat.min_self]),<-(Ba h').2]at N rn;show#[Le I rp rq h N,N,rn]
     . let h':=d_ ((aE hl).symm.trans h);subst h';have hz:(z.toArray.size != i.toArray.size)=G:=by rw[z1,z2];show bne_iff_ne.mpr hl
       let N:=RcAt.lists_lengths x1 x2 hz hu;show#[Le I rp rq h N,N,RcNeAt.lists_lengths x1 x2 hz hu]
end
section
open PySem.SeqAt
variable {X:Cx}{ae:List (Addr×Obj)}{U:L2.St}{H:Hp}{s:Shared}{g:List Addr}
def Pr(h:dm (n+1) (ZB ps) r=!b):b=M\/∃rs,r=ZB rs:=by
 cases r with
 |tup rs=>grind
 |_=>cases h<;>show Zl O
def Pu(h:dm (n+1) (R ps) r=!b):b=M\/∃rs,r=R rs:=by
 cases r with
 |lst rs=>grind
 |_=>cases h<;>show Zl O
theorem Es(I:ai X ae U H s):∀(n:Nat){p q r:PV}{v:V}{b c:Bool},ba X.K #[H,g] p v->ba X.K #[H,g] q v->dm n p r=!b->dm n q r=!c->b=c
 |0,p,q,r,v,b,c=>λ_ _ h _=>by cases h
 |n+1,p,q,r,v,b,c=>λrp rq h k=>by
  cases Sh.two I (JQ rp (Er h)) (JQ rq (Er k)) with
  |«at» e=>grind
  | @tup ps N _ h2 i=>
   let j:=h2.length.symm.trans i.length;obtain rfl|⟨rs,rfl⟩:=Pr h
   . obtain rfl|⟨rs,rfl⟩:=Pr k
     . rfl
     . let(c1,F,Q):=cr h;let(c2,z,rfl):=cr k;rw[<-xR (f:=dm n) (λ_ _ _ _ _ _=>Es I n) h2 i F z,<-j,Q]
   . let(c1,F,rfl):=cr h;let(c2,z,rfl):=cr k;rw[xR (f:=dm n) (λ_ _ _ _ _ _=>Es I n) h2 i F z,j]
  | @lst ps N _ h2 i=>
   let j:=h2.length.symm.trans i.length;have W:∀rs,r=R rs->b=c:=λrs e=>by
    subst e;by_cases D:N.length=rs.length
    . show xR (f:=dm n) (λ_ _ _ _ _ _=>Es I n) h2 i ((av ()).symm.trans h) ((av D).symm.trans k)
    . show d_ ((((aE λe=>D ()).symm.trans h).symm.trans ((aE D).symm.trans k)))
   obtain Q|⟨rs,e⟩:=Pu h
   . obtain e2|⟨rs,e⟩:=Pu k
     . grind
     . grind
   . grind
noncomputable def sV (f:PV->PV->Option Bool) (x:PV):List PV->Option Bool
 |[]=>!M
 |q::qs=>(f q x).bind λb=>(sV f x qs).map λc=>b||c
theorem Gx:∀{qs:List PV}{b:Bool},sV f x qs=!b->(∀q∈qs,∃c,f q x=!c)/\b=qs.any λq=>(f q x).getD M
 |[],b,h=>by cases h;grind
 |q::qs,b,h=>by
  let(c,h1,h2):=bm h;let(d,j,rfl):=cr h2;let(F,z):=Gx j;show#[λD i=>?_,?_]
  . obtain rfl|i:=aT.mp i
    . grind
    . grind
  . grind
open Classical in
def c9(K:FG)(Z:ZG)(x:PV)(qs:List PV)(vs:List V)(br:List Value)(u:Value):Bool:=
 if h:∃(j:Nat)(q:PV),qs[j]?=!q/\br[j]?=!u then (dm 150 h.choose_spec.choose x).getD M else M
def CV(I:ai X ae U H s){xv:V}{xu:Value}(r:aK X.K #[H,g] qs vs)(N:am vs br)(F:∀q∈qs,∃c,dm 150 q x=!c){j:Nat}(z:qs[j]?=!q)(Q:br[j]?=!u):
 c9 X.K #[H,g] x qs vs br u=(dm 150 q x).getD M:=by
 have h:∃(j:Nat)(q:PV),qs[j]?=!q/\br[j]?=!u:=#[j,q,z,Q];unfold c9;rw[dif_pos h];let(i,D):=h.choose_spec.choose_spec;generalize h.choose_spec.choose=q' at i D;let(v1,g1,g2):=r.get z;let(v2,k1,k2):=r.get i;let(u1,W,m2):=N.get g1;let(u2,n1,n2):=N.get k1;rw[Q]at W;cases W;rw[D]at n1;cases n1;let ev:=aw.inj m2 n2;subst ev;let(c1,h1):=F q (eR z);let(c2,h2):=F q' (eR i);rw[h1,h2,Es I 150 k2 g2 h2 h1]
def CZ(I:ai X ae U H s)(rx:ba X.K #[H,g] x xv)(ru:aw xv xu)(r:aK X.K #[H,g] qs vs)(D:am vs br)(F:∀q∈qs,∃c,dm 150 q x=!c)(hA:A.units+150<cLine):
 ∀u,u∈br.toArray->EqAt A s u xu (c9 X.K #[H,g] x qs vs br u):=λu hu=>by
 have i:u∈br:=by simpa using hu
 let(j,hj,e):=List.getElem_of_mem i;have Q:br[j]?=!u:=by rw[et hj,e]
 let hl:=D.length;let At:=r.length;have z:qs[j]?=!(qs[j]'()):=et _;rw[CV (xv:=xv) (xu:=xu) I r D F z Q];let(v1,g1,g2):=r.get z;let(u1,N,W):=D.get g1;rw[Q]at N;cases N;let(c1,h1):=F _ (eR z);rw[h1];show(JR I 150 g2 rx W ru h1 A hA).1
def HW(I:ai X ae U H s){xv:V}{xu:Value}(r:aK X.K #[H,g] qs vs)(i:am vs br)(F:∀q∈qs,∃c,dm 150 q x=!c):
 br.toArray.any (c9 X.K #[H,g] x qs vs br)=qs.any λq=>(dm 150 q x).getD M:=by
 have Q:br.length=qs.length:=by rw[<-i.length,r.length]
 have key:br.map (c9 X.K #[H,g] x qs vs br)=qs.map λq=>(dm 150 q x).getD M:=by
  apply List.ext_getElem?;intro j;rw[c8,c8];by_cases N:j<br.length
  . let z:=et N;have D:qs[j]?=!(qs[j]'()):=et _;rw[z,D,iS,iS,CV (xv:=xv) (xu:=xu) I r i F D z]
  . grind
 rw[show br.toArray.any (c9 X.K #[H,g] x qs vs br)=br.any (c9 X.K #[H,g] x qs vs br) by simp];have W:br.any (c9 X.K #[H,g] x qs vs br)=(br.map (c9 X.K #[H,g] x qs vs br)).any id:=by simp[List.any_map]
 have a2:(qs.any λq=>(dm 150 q x).getD M)=(qs.map λq=>(dm 150 q x).getD M).any id:=by simp[List.any_map]
 grind
end
section
variable {X:Cx}
def SR.rep2(h:SR K H0 Z0 U H Y ((w,Zp q)::(v,Zp p)::pd)):∃Z:ZG,eQ Z.z H/\ba K Z p v/\ba K Z q w:=by let(_,Z,_,z,r,s):=h.sh;let(x,j,i):=(s.perm dj.symm).1 _ bi;cases j;show#[Z,z.zh,i,r]
def SR.rep2H(h:SR K H0 Z0 U H Y ((w,Zp q)::(v,Zp p)::pd)):∃g,ba K #[H,g] p v/\ba K #[H,g] q w:=by let(Z,z,a,b):=h.rep2;show#[Z.g,a.mono (Z':=#[H,Z.g]) #[z,jf _],b.mono (Z':=#[H,Z.g]) #[z,jf _]]
def Ru(K:FG)(neg:Bool):R2:=λx y H Q=>∃g p q b,ba K #[H,g] p x/\ba K #[H,g] q y/\dm 150 p q=!b/\Q (.bl (if neg then not b else b)) H
def bY(hr:gb b k X.A):jn X (compareOp .Eq) (Ru X.K M):=by
 intro ae s U H x y v u Q I N z h;let(g,p,q,b,W,F,e,i):=h;have j:X.A.units+150<cLine:=by have:=hr.un;lia
 let(_,D,_):=JR I 150 W F N z e X.A j;show D _ _ _ _ #[.bl b,H,I,O,i]
def Ui(W:gb b k X.A):jn X (compareOp .NotEq) (Ru X.K G):=by
 intro ae s U H x y v u Q I F z h;let(g,p,q,b,N,D,e,i):=h;have j:X.A.units+150<cLine:=by have:=W.un;lia
 let(_,_,rn):=JR I 150 N D F z e X.A j;show rn _ _ _ _ #[.bl (not b),H,I,O,i]
def c5(p q:PV):Option Lc:=(dm 150 p q).map λb=>Zp (.bl b)
def Uj(p q:PV):Option Lc:=(dm 150 p q).map λb=>Zp (.bl (not b))
def bZ:oU K (Ru K M) c5:=by intro H0 Z0 U Y pd H v w x y l Q s e k;let(b,j,rfl):=cr e;let(g,i,q):=s.rep2H;show#[g,x,y,b,i,q,j,k _ H (s.pop.pop.scal pD)]
def Uk:oU K (Ru K G) Uj:=by intro H0 Z0 U Y pd H v w x y l Q s e k;let(b,j,rfl):=cr e;let(g,i,q):=s.rep2H;show#[g,x,y,b,i,q,j,k _ H (s.pop.pop.scal pD)]
def WT(K:FG)(neg:Bool):R2:=λx y H Q=>(∃g p qs b,ba K #[H,g] p x/\(ba K #[H,g] (R qs) y\/ba K #[H,g] (ZB qs) y)/\sV (dm 150) p qs=!b/\Q (.bl (if neg then not b else b)) H)\/
 ∃i j,x=.str i/\y=.str j/\Q (.bl (if neg then (Builtin.Str.occurrences j i 0 j.length 1).isEmpty else not (Builtin.Str.occurrences j i 0 j.length 1).isEmpty)) H
def zQ(hr:gb b k X.A):jn X (compareOp .In) (WT X.K M):=by
 intro ae s U H x y v u Q I rx W h;have hA:X.A.in1.units+150<cLine:=by have:=hr.un;show X.A.units+1+150<cLine;lia
 obtain⟨g,p,qs,b,rp,D,e,F⟩|⟨i,j,rfl,rfl,F⟩:=h
 . let(N,i2):=Gx e;obtain D|D:=D
   . let(a,vs,z,rfl,q1,l1,q,t1):=zN I D W;show SeqAt.in_listAt (c9 X.K #[H,g] p qs vs z) t1 (CZ I rp rx l1 q N hA) #[.bl b,H,I,?_,F];rw[HW (xv:=x) (xu:=v) I l1 q N,<-i2];rfl
   . let(a,vs,z,rfl,q1,l1,q,t1):=Ep I D W;show SeqAt.in_tupleAt (c9 X.K #[H,g] p qs vs z) t1 (CZ I rp rx l1 q N hA) #[.bl b,H,I,?_,F];rw[HW (xv:=x) (xu:=v) I l1 q N,<-i2];rfl
 . show Sy ae s U H (.str i) (.str j) v u Q I rx W #[i,j,O,O,F]
def nh(x y:PV):Option Bool:=match y with
 |R qs=>sV (dm 150) x qs
 |ZB qs=>sV (dm 150) x qs
 |ZH j=>match x with
  |ZH i=>!(not (Builtin.Str.occurrences j i 0 j.length 1).isEmpty)
  |_=>J
 |_=>J
def tB(p q:PV):Option Lc:=(nh p q).map λb=>Zp (.bl b)
def ON:oU K (WT K neg) (λp q=>(nh p q).map λb=>Zp (.bl (if neg then not b else b))):=by
 intro H0 Z0 U Y pd H v w x y l Q s e k;let(b,z,rfl):=cr e;let(g,D,N):=s.rep2H;cases y with
 |lst F=>show Zl #[g,x,F,b,D,Zl N,z,k _ H (s.pop.pop.scal pD)]
 |tup F=>show Zl #[g,x,F,b,D,YY N,z,k _ H (s.pop.pop.scal pD)]
 |str j=>
  cases x with
  |str i=>
   let W:=d_ z;subst W;show YY #[i,j,dC D,dC N,?_];have:=k (.bl (if neg then (Builtin.Str.occurrences j i 0 j.length 1).isEmpty else not (Builtin.Str.occurrences j i 0 j.length 1).isEmpty)) H;show this (s.pop.pop.scal λZ=>?_);cases neg<;>simp[ba]
  |_=>cases z
 |_=>cases z
def vY:oU K (WT K M) tB:=ON
def Yx:PV->Bool
 |.non=>G
 |_=>M
def Rv(p q:PV):Option Lc:=match q with
 |.non=>!(Zp (.bl (Yx p)))
 |_=>J
def OO(r:ba K Z p v):decide (v=.non)=Yx p:=by
 cases p with
 |non=>have:=jE r;subst this;rfl
 |bl b=>have:=iY r;subst this;rfl
 |int b=>have:=cg r;subst this;rfl
 |str b=>have:=dC r;subst this;rfl
 |tup ps=> let(a,i,rfl,_):=r;rfl
 |lst ps=> let(a,i,rfl,_):=r;rfl
 |dk ks ps=> let(a,i,rfl,_):=r;rfl
 |dt ks ps=> let(a,i,rfl,_):=r;rfl
 |obj c ks ps=> let(a,c,dx,fs,rfl,_):=r;rfl
 |df ks ps=> let(a,o,j,rfl,_):=r;rfl
 |dtf ks ps=> let(a,o,j,rfl,_):=r;rfl
 |dx hk ks ps=> let(a,xs,rfl,_):=r;rfl
 |exc n=> let(a,c,rfl,_):=r;rfl
 |fn n=> let(a,rfl,_):=r;rfl
 |ptr n=> let(a,rfl,_):=r;rfl
def Px:oU K (λx y H Q=>y=.non/\Q (.bl (decide (x=.non))) H) Rv:=by
 intro H0 Z0 U Y pd H v w x y l Q s e k;let(g,i,q):=s.rep2H;cases y with
 |non=>
  let j:=d_ e;subst j;show#[jE q,?_];rw[OO i];show k _ H (s.pop.pop.scal pD)
 |_=>cases e
def Lg:=Cj (λ_ _=>G) λi j=>.bl (decide (i<j))
def jj:=Cj (λ_ _=>G) λi j=>.bl (decide (j<i))
def Ul:oU K (yW λi j=>.bl (decide (i<j))) Lg:=K4 λ_ _ _=>pD _
def nu:oU K (yW λi j=>.bl (decide (j<i))) jj:=K4 λ_ _ _=>pD _
def Lh:=Cj (λ_ _=>G) λi j=>ZI (i-j)
def bf:=Cj (λ_ j=>decide (0<j)) λi j=>ZI (i%j)
def bR:=Cj (λ_ j=>decide (0<j/\j<1073741824)) λi j=>ZI (i/j)
def gD:=Cj (λi j=>decide ((-(2 ^ 64)<i/\i<2 ^ 64)\/(-(2 ^ 64)<j/\j<2 ^ 64))) λi j=>ZI (i*j)
def WW:=Cj (λi j=>decide (0<=j/\j<=1000000/\i.natAbs<2 ^ 64)) λi j=>ZI (i ^ j.toNat)
def Py:oU K (yW λi j=>.int (i-j)) Lh:=K4 λ_ _ _=>gK _
def bM:oU K (rI (λ_ j=>0<j) λi j=>.int (i%j)) bf:=JM (λ_ _ h=>of_decide_eq_true h) λ_ _ _=>gK _
def dg:oU K (rI x6 λi j=>.int (i/j)) bR:=JM (λi j h=>(of_decide_eq_true h:0<j/\j<1073741824)) λ_ _ _=>gK _
def kO:oU K (rI QZ λi j=>.int (i*j)) gD:=JM (λi j h=>(of_decide_eq_true h:(-(2 ^ 64)<i/\i<2 ^ 64)\/(-(2 ^ 64)<j/\j<2 ^ 64))) λ_ _ _=>gK _
def OP:oU K (rI x8 λi j=>.int (i ^ j.toNat)) WW:=JM (λi j h=>(of_decide_eq_true h:0<=j/\j<=1000000/\i.natAbs<2 ^ 64)) λ_ _ _=>gK _
def VP(K:FG):R2:=λx y H Q=>yW (λi j=>.int (i+j)) x y H Q\/(∃i j,x=.str i/\y=.str j/\i.length+j.length<=sizeLine/\Q (.str (i++j)) H)\/
 (∃a b xs ys,x=.ref a/\y=.ref b/\bV K H a xs/\bV K H b ys/\xs.length+ys.length<=sizeLine/\∀p,H p=J->Q (.ref p) (aS H p (.lst (xs++ys))))\/Yk K x y H Q
def bz:jn X (binaryOp .Add) (VP X.K):=IL.or (Q4.or (Zu.or Zj))
noncomputable def bj:PV->PV->Option Lc
 |ZI i,ZI j=>!(Zp (ZI (i+j)))
 |ZH i,ZH j=>if i.length+j.length<=100000 then !(Zp (ZH (i++j))) else J
 |R ps,R qs=>if ps.length+qs.length<=100000 then !(Zs (R (ps++qs))) else J
 |ZB (p::ps),ZB qs=>if ps.length+qs.length<=10000 then !(Zp (ZB (p::ps++qs))) else J
 |_,_=>J
def qF{α:Type}[Decidable c]{a b:α}(e:(if c then !a else J)=!b):c/\a=b:=by
 split at e
 . grind
 . cases e
def OQ(e:bj x y=!l):(∃i j,x=ZI i/\y=ZI j/\l=Zp (ZI (i+j)))\/(∃i j,x=ZH i/\y=ZH j/\i.length+j.length<=100000/\l=Zp (ZH (i++j)))
\/(∃ps qs,x=R ps/\y=R qs/\ps.length+qs.length<=100000/\l=Zs (R (ps++qs)))\/∃p ps qs,x=ZB (p::ps)/\y=ZB qs/\ps.length+qs.length<=10000/\l=Zp (ZB (p::ps++qs)):=by
 unfold bj at e;split at e
 . grind
 . let(h,e):=qF e;grind
 . let(h,e):=qF e;grind
 . let(h,e):=qF e;grind
 . cases e
def bA:oU K (VP K) bj:=by
 intro H0 Z0 U Y pd H v w x y l Q s e k;let(g,r1,r2):=s.rep2H;obtain⟨i,j,rfl,rfl,rfl⟩|⟨i,j,rfl,rfl,N,rfl⟩|⟨ps,qs,rfl,rfl,N,rfl⟩|⟨p,ps,qs,rfl,rfl,N,rfl⟩:=OQ e
 . show Zl #[i,j,cg r1,cg r2,k _ H (s.pop.pop.scal gK)]
 . show YY (Zl #[i,j,dC r1,dC r2,d5 N,k _ H (s.pop.pop.scal oR)])
 . let(W,Z,hg,z,rq,s1):=s.sh;let D:=s1.perm dj.symm;let(_,e1,rp):=D.1 _ bi;cases e1;let(a,xs,rfl,h1,h2):=rp;let(b,ys,rfl,h3,F):=rq;show YY (YY (Zl #[a,b,xs,ys,O,O,bV.same z.zh h1,bV.same z.zh h3,by rw[h2.length,F.length];show d5 N,λp hp=>k _ _ ?_]));let(z',s'):=(D.sub (eH _ _)).new (p:=R (ps++qs)) z hp #[xs++ys,bU,h2.append F];show .mk W hg z' s'
 . let(W,Z,hg,z,rq,s1):=s.sh;let D:=s1.perm dj.symm;let(_,e1,rp):=D.1 _ bi;cases e1;let(a,xs,rfl,h1,h2):=rp;let(b,ys,rfl,h3,F):=rq;have hx:xs≠[]:=λh=>by have:=h2.length;rw[h]at this;simp at this
   let hz:=h2.length;let zd:=F.length;rw[be]at hz;show YY (YY (YY #[a,b,xs,ys,O,O,cT.same z.zh h1,cT.same z.zh h3,hx,d5 (),λh=>?_,λh q hq=>?_]))
   . subst h;have:qs=[]:=xy zd.symm;subst this;rw[d0]at k;show k _ H s.pop
   . let s3:=D.sub (eH _ _);let(z',sz,s'):=s3.newF z hq;show k _ _ (.mk (Z:=Z.put q (.tup (xs++ys))) W hg z' (s'.consS ?_));show#[q,xs++ys,O,cT.of bU,(h2.append F).mono sz]
def qe:PV->PV->Option Lc
 |R ps,ZI i=>(fY ps i).map Zp
 |ZB ps,ZI i=>(fY ps i).map Zp
 |ZH x,ZI i=>if x.length<=100000 then (fY x.cps.toList i).map λc=>Zp (ZH #[(List.toArray [c])]) else J
 |_,_=>J
def Bb{r:List β}(h:fY l i=!x)(e:r.length=l.length):∃(j:Nat),l[j]?=!x/\∀y,r[j]?=!y->fY r i=!y:=by let(j,h1,h2):=bm h;show#[j,h2,λy q=>?_];unfold fY;grind
def OS(e:qe x y=!l):∃i,y=ZI i/\((∃ps,(x=R ps\/x=ZB ps)/\(fY ps i).map Lc.sh=!l)\/∃t c,x=ZH t/\t.length<=100000/\fY t.cps.toList i=!c/\l=Zp (ZH #[(List.toArray [c])])):=by
 unfold qe at e;split at e
 . grind
 . grind
 . split at e
   . rename_i h;let(c,h1,rfl):=cr e;grind
   . cases e
 . cases e
def Um:oU K (rh K) qe:=by
 intro H0 Z0 U Y pd H v w x y l Q s e k;let(i,rfl,hx):=OS e;let(el,Z,hg,z,r2,s1):=s.sh;let s2:=s1.perm dj.symm;let(_,q,F):=s2.1 _ bi;cases q;let s3:=s2.sub (eH _ _);let ew:=cg r2;obtain⟨ps,hx,h0⟩|⟨x,c,rfl,hl,h1,rfl⟩:=hx
 . let(p,h1,rfl):=cr h0;obtain rfl|rfl:=hx
   . let(a,W,rfl,h2,D):=F;let(j,q,e2):=Bb h1 D.length;let(u,e3,N):=D.get q;show Zl #[a,W,i,u,O,ew,bV.same z.zh h2,e2 u e3,k _ H (.mk el hg z (s3.consS N))]
   . let(a,W,rfl,h2,D):=F;let(j,q,e2):=Bb h1 D.length;let(u,e3,N):=D.get q;show YY (Zl #[a,W,i,u,O,ew,cT.same z.zh h2,e2 u e3,k _ H (.mk el hg z (s3.consS N))])
 . show YY (YY #[x,i,c,dC F,ew,d5 hl,h1,k _ H (s.pop.pop.scal oR)])
def xU(ps:List PV)(lo hi:Option Int):List PV:=(ps.drop (HT.sIx ps.length 0 lo)).take (HT.sIx ps.length ps.length hi-HT.sIx ps.length 0 lo)
abbrev OF:=Ev->Option (Option Int×Ev)
def Et(K:FG)(f:OF):TO:=λU H Q=>∃H0 Z0 Y pd r Y',SR K H0 Z0 U H Y pd/\f Y=!(r,Y')/\∀H',SR K H0 Z0 U H' Y' pd->Q r H'
def PO.imp(h:PO X e t)(i:∀U H Q,t' U H Q->t U H Q):PO X e t':=λae s U H Q I q=>h ae s U H Q I (i U H Q q)
def iZ:OF:=λY=>!(J,Y)
def dB(f:EF):OF:=λY=>(f Y).bind λx=>match x.1.pv with
 |ZI i=>!(!i,x.2)
 |_=>J
def qG:PO X J (Et X.K iZ):=PO.imp Zh λU H Q q=>by let(H0,Z0,Y,pd,r,Y',s,h,k):=q;cases h;show k H s
def gw(h:PE X e (tP X.K f)):PO X (!e) (Et X.K (dB f)):=PO.imp (Zi h) λU H Q q=>by
 let(H0,Z0,Y,pd,r,Y',s,h,k):=q;let(x,h1,h2):=bm h;show#[H0,Z0,Y,pd,x.1,x.2,s,h1,λv H1 z=>?_];let(_,j):=z.freeze.repH;cases e:x.1.pv with
 |int i=>
  rw[e]at h2 j;cases h2;show#[i,cg j,k H1 z.pop]
 |_=>grind
def aK.cut{lo hi:Option Int}(h:aK K Z ps vs):aK K Z (xU ps lo hi) (uq vs lo hi):=by unfold xU uq;rw[h.length];show(h.drop _).take _
def nG(K:FG)(r:List V->Hp->VK->Prop)(g:List PV->Option Lc):Prop:=∀H0 Z0 U Y pd H vs ps l Q,vs.length=ps.length->SR K H0 Z0 U H Y (vs.zip (ps.map Lc.sh)++pd)->g ps=!l->(∀u H',SR K H0 Z0 U H' Y ((u,l)::pd)->Q u H')->r vs H Q
def eB(g:List PV->Option Lc)(a:AF):EF:=λY=>(a Y).bind λy=>(g (y.1.map Lc.pv)).map λl=>(l,y.2)
def nA(hs:nG X.K r g):∀U H Q,tP X.K (eB g a) U H Q->zg r (jH X.K a) U H Q:=λU H Q q=>by
 let(H0,Z0,Y,pd,l,Y',s,f,k):=q;let(y,h1,h2):=bm f;let(l',j,N):=cr h2;cases N;show#[H0,Z0,Y,pd,y.1,y.2,s,h1,λF H2 W D=>?_];let i:=D.freezeAll;have z:(y.1.map λl=>Lc.sh l.pv)=(y.1.map Lc.pv).map Lc.sh:=by rw[fS];rfl
 rw[z]at i;show hs H0 Z0 U y.2 pd H2 F (y.1.map Lc.pv) _ Q ∅ i j k
def Li{id:String}(i:mj X (.builtin id) r)(hs:nG X.K r g)(h:PE X (.Call (.Name x p) (e::es) [] pos) (zg r (jH X.K a))):PE X (.Call (.Name x p) (e::es) [] pos) (tP X.K (eB g a)):=PE.imp h (nA hs)
def nG.one{g:PV->Option Lc}(h:∀H0 Z0 U Y pd H v p l Q,SR K H0 Z0 U H Y ((v,Zp p)::pd)->g p=!l->(∀u H',SR K H0 Z0 U H' Y ((u,l)::pd)->Q u H')->r [v] H Q):
 nG K r (λps=>match ps with |[p]=>g p |_=>J):=by
 intro H0 Z0 U Y pd H vs ps l Q e s hg k
 match ps,vs,e,s,hg with
 |[p],[v],_,s,hg=>show h H0 Z0 U Y pd H v p l Q s hg k
 |[p],[],e,_,_=>simp at e
 |[p],_::_::_,e,_,_=>simp at e
 |[],_,_,_,hg=>cases hg
 |_::_::_,_,_,_,hg=>cases hg
noncomputable def A5:PV->Option Lc
 |ZH x=>if x.length<=100000 then !(Zp (ZI x.length)) else J
 |R ps=>!(Zp (ZI ps.length))
 |ZB ps=>!(Zp (ZI ps.length))
 |_=>J
abbrev cz:List PV->Option Lc:=λps=>match ps with |[p]=>A5 p |_=>J
def Uo:nG K (λxs H Q=>∃x n,xs=[x]/\VL K x H n/\Q (.int n) H) cz:=nG.one λH0 Z0 U Y pd H v p l Q s e k=>by
 let(_,r):=s.repH;cases p with
 |str x=>
  have i:(if x.length<=100000 then !(Lc.sh (ZI x.length)) else J)=!l:=e;split at i
  . rename_i z;cases i;have:=dC r;subst this;show#[_,x.length,O,#[d5 z,O],k _ H (s.pop.scal gK)]
  . cases i
 |lst ps=>
  cases e;let(a,j,rfl,h1,h2):=r;show#[_,ps.length,O,Zl #[j,h1,h2.length.symm],k _ H (s.pop.scal gK)]
 |tup ps=>
  cases e;let(a,j,rfl,h1,h2):=r;show#[_,ps.length,O,YY #[j,h1,h2.length.symm],k _ H (s.pop.scal gK)]
 |_=>cases e
def OT:PV->Option Lc
 |R ps=>!(Zs (R ps))
 |ZB ps=>!(Zs (R ps))
 |_=>J
abbrev ge:List PV->Option Lc:=λps=>match ps with |[p]=>OT p |_=>J
def vZ:nG K (λxs H Q=>∃p ys,xs=[.ref p]/\(bV K H p ys\/cT K H p ys)/\∀l,H l=J->Q (.ref l) (aS H l (.lst ys))) ge:=nG.one λH0 Z0 U Y pd H v p l Q s e k=>by
 let(F,Z,N,z,r,W):=s.sh;cases p with
 |lst ps=>
  cases e;let(a,D,rfl,h1,h2):=r;show#[a,D,O,Zl (bV.same z.zh h1),λq i=>k _ _ ?_];let(j,s'):=W.new (p:=R ps) z i #[_,bU,h2];show .mk F N j s'
 |tup ps=>
  cases e;let(a,D,rfl,h1,h2):=r;show#[a,D,O,YY (cT.same z.zh h1),λq i=>k _ _ ?_];let(j,s'):=W.new (p:=R ps) z i #[_,bU,h2];show .mk F N j s'
 |_=>cases e
def Ev.set_set:(Y.set i x).set i y=Y.set i y:=by show Ev.mk ((Y.vs.set i x).set i y) Y.mu=_;rw[hZ];rfl
def SR.takeO(s:SR K H0 Z0 U H Y pd)(e:Y.vs[i]?=!(!(Zs (R ws)))):
 ∃a,U[i]?=!(!(.ref a))/\(∃j,H a=!(.lst j))/\SR K H0 Z0 U H (Y.set i J) ((.ref a,Zs (R ws))::pd):=by
 let(v,Q,q):=s.take e;let(_,Z,_,z,D):=q.top;let(a,F,(j,N,_),_):=D.1 _ bi;grind
def jM(i:Nat)(f:EF):SF:=λY=>match Y.vs[i]? with
 |some (!(Zs (R _)))=>(f Y).bind λy=>match y.2.vs[i]? with
  |some (!(Zs (R ws)))=>if ws.length<100000 then !(.nx (y.2.set i (!(Zs (R (ws++[y.1.pv])))))) else J
  |_=>J
 |_=>J
def OU(h:PS X (.Expr (.Call (.Attribute o "append" apos) [e] [] cpos) pos) (JC (J9 X.K "list" Gn (um i) (jH X.K (aa f ao))))):
 PS X (.Expr (.Call (.Attribute o "append" apos) [e] [] cpos) pos) (ik X.K (jM i f)):=PS.imp h λD U H q=>by
 let(H0,Z0,Y,pd,fl,s,h,k):=q;unfold jM at h;split at h
 . rename_i ws0 e0;let(y,h1,h2):=bm h;let(a,z,(us,hu),_):=s.takeO e0;show#[.ref a,z,Zl #[O,us,bV.of hu],H0,Z0,Y,pd,[y.1],y.2,s,?_,λvs H2 e2 s2=>?_]
   . unfold aa ao;grind
   . let(v1,rfl):=yI e2;split at h2
     . rename_i ws e3;split at h2
       . cases h2;let(a',j,_,s3):=SR.takeO s2 e3;rw[z]at j;cases j;let W:=s3.swap;let(N,F,hl,s5):=W.pushO;show#[a,N,v1,O,O,F,by rw[hl,sizeLine_eq];lia,k U _ ?_];let Q:=s5.put z;rw[Ev.set_set]at Q;show Q
       . cases h2
     . cases h2
 . cases h
def SR.extO(s:SR K H0 Z0 U H Y ((v,Zp (R ps))::(.ref a,Zs (R ws))::pd)):
 ∃b i zs,v=.ref b/\bV K H b zs/\H a=!(.lst i)/\i.length=ws.length/\zs.length=ps.length/\SR K H0 Z0 U (aS H a (.lst (i++zs))) Y ((.ref a,Zs (R (ws++ps)))::pd):=by
 let(F,Z,Q,z,r,N):=s.sh;let(b,zs,rfl,h1,h2):=r;let j:=N.perm dj.symm;let(_,eb,(i,hu,D),_):=j.1 _ bi;cases eb;show#[b,i,zs,O,bV.same z.zh h1,hu,D.length,h2.length,?_];let(W,s'):=j.write (q:=R (ws++ps)) z #[i++zs,bU,D.append h2];show .mk F Q W s'
def fQ(i:Nat)(f:EF):SF:=λY=>match Y.vs[i]? with
 |some (!(Zs (R _)))=>(f Y).bind λy=>match y.1.pv,y.2.vs[i]? with
  |R ps,!(!(Zs (R ws)))=>if ws.length+ps.length<=100000 then !(.nx (y.2.set i (!(Zs (R (ws++ps)))))) else J
  |_,_=>J
 |_=>J
def OV(h:PS X (.Expr (.Call (.Attribute o "extend" apos) [e] [] cpos) pos) (JC (J9 X.K "list" (Ke X.K) (um i) (jH X.K (aa f ao))))):
 PS X (.Expr (.Call (.Attribute o "extend" apos) [e] [] cpos) pos) (ik X.K (fQ i f)):=PS.imp h λD U H q=>by
 let(H0,Z0,Y,pd,fl,s,h,k):=q;unfold fQ at h;split at h
 . rename_i ws0 e0;let(y,h1,h2):=bm h;let(a,z,(us,hu),_):=s.takeO e0;show#[.ref a,z,Zl #[O,us,bV.of hu],H0,Z0,Y,pd,[y.1],y.2,s,?_,λvs H2 e2 s2=>?_]
   . unfold aa ao;grind
   . let(v1,rfl):=yI e2;split at h2
     . rename_i ps ws ep e3;split at h2
       . rename_i hz;cases h2;let(a',j,_,s3):=SR.takeO s2 e3;rw[z]at j;cases j;let W:=s3.swap.freeze;rw[ep]at W;let(b,F,zs,rfl,hb,Q,hl,N,s5):=W.extO;show#[a,b,F,zs,O,O,Q,hb,by rw[hl,N];show d5 hz,k U _ ?_];let s6:=s5.put z;rw[Ev.set_set]at s6;show s6
       . cases h2
     . cases h2
 . cases h
def SR.setO(s:SR K H0 Z0 U H Y ((v,Zp p)::(.ref a,Zs (R ws))::pd)):
 ∃i,H a=!(.lst i)/\i.length=ws.length/\SR K H0 Z0 U (aS H a (.lst (i.set j v))) Y ((.ref a,Zs (R (ws.set j p)))::pd):=by
 let(N,Z,W,z,r,Q):=s.sh;let D:=Q.perm dj.symm;let(_,eb,(i,hu,F),_):=D.1 _ bi;cases eb;show#[i,hu,F.length,?_];let(z',s'):=D.write (q:=R (ws.set j p)) z #[i.set j v,bU,F.set r j];show .mk N W z' s'
def Bc(i:Nat)(fi fv:EF):SF:=λY=>(fv Y).bind λx=>match x.2.vs[i]? with
 |some (!(Zs (R _)))=>(fi x.2).bind λy=>match y.1.pv,y.2.vs[i]? with
  |ZI k,!(!(Zs (R ws)))=>(ur ws.length k).map λj=>.nx (y.2.set i (!(Zs (R (ws.set j x.1.pv)))))
  |_,_=>J
 |_=>J
def OW(h:PS X (.Assign [.Subscript o ix tpos] e pos) (QT (tP X.K fv) (VD (um i) (tP X.K fi) Yl))):PS X (.Assign [.Subscript o ix tpos] e pos) (ik X.K (Bc i fi fv)):=PS.imp h λD U H q=>by
 let(H0,Z0,Y,pd,fl,s,h,k):=q;let(x,h1,h2):=bm h;show#[H0,Z0,Y,pd,x.1,x.2,s,h1,λv H1 s1=>?_];split at h2
 . rename_i ws0 e0;let(y,h3,N):=bm h2;let(a,Q,_):=s1.takeO e0;show#[.ref a,Q,H0,Z0,x.2,_,y.1,y.2,s1.freeze,h3,λw H2 W=>?_];split at N
   . rename_i kk ws ek e3;let(j,h5,rfl):=cr N;let(_,F):=W.freeze.repH;rw[ek]at F;let ew:=cg F;let(a',z,_,s3):=W.pop.takeO e3;rw[Q]at z;cases z;let(us,hu,hl,s4):=s3.swap.setO;show#[a,us,kk,j,O,ew,hu,by rw[hl];show h5,k U _ ?_];let s5:=s4.put Q;rw[Ev.set_set]at s5;show s5
   . cases N
 . cases h2
def zR(i:g[n]?=!a)(q:mu[n]?=!o):∃ZN:Sl,List.Perm (cel g mu) ((!(.ref a),o.map Lc.own)::ZN)/\∀o',List.Perm (cel g (mu.set n o')) ((!(.ref a),o'.map Lc.own)::ZN):=by
 have h1:(g.map λa=>!(V.ref a))[n]?=!(!(.ref a)):=by rw[c8,i];rfl
 have h2:(mu.map λo=>o.map Lc.own)[n]?=!(o.map Lc.own):=by rw[c8,q];rfl
 let(ZN,j,p2):=zM (zip_get h1 h2);show#[ZN,j,λo'=>?_];have:=p2 (!(.ref a),o'.map Lc.own);rw[<-Gv,i9 h1]at this;unfold cel;rw[List.map_set];show this
def SR.cellO(s:SR K H0 Z0 U H Y ((v,Zp (ZA n))::pd))(hm:Y.mu[n]?=!(!p)):
 ∃a,v=.ref a/\SR K H0 Z0 U H #[Y.vs,Y.mu.set n J] ((.ref a,Zs p)::(.ref a,Zp (ZA n))::pd):=by
 let(F,Z,hg,z,r,Q):=s.sh;let W:=r;let(a,rfl,N):=r;let(ZN,p1,p2):=zR N hm;show#[a,O,.mk F ∅ z ?_];let i:=Q.perm (p1.append_right _).symm;have j:ag K H0 Z H ((!(.ref a),J)::(!(.ref a),!(Zs p))::(ZN++(U.zip Y.vs++pd.map λe=>(!e.1,!e.2)))):=by
  show#[λe D=>?_,?_]
  . obtain rfl|D:=aT.mp D
    . trivial
    . show i.1 e D
  .  show i.2
 let q:=(j.perm (List.Perm.swap _ _ _)).perm (List.Perm.cons _ ((p2 J).append_right _));show((q.consS W).perm (List.Perm.swap _ _ _)).perm (List.Perm.cons _ dj)
def SR.cellP(s:SR K H0 Z0 U H Y ((.ref a,Zs q)::(.ref a,Zp (ZA n))::pd))(hm:Y.mu[n]?=!J):SR K H0 Z0 U H #[Y.vs,Y.mu.set n (!q)] pd:=by let(N,Z,hg,z,r,W):=s.swap.sh;let(b,eb,Q):=r;cases eb;let(ZN,p1,p2):=zR Q hm;let D:=W.perm dj.symm;show#[N,Z,by simpa using hg,z,?_];have F:List.Perm (sl Z.g U Y pd) ((!(.ref a),J)::(ZN++(U.zip Y.vs++pd.map λe=>(!e.1,!e.2)))):=p1.append_right _;let i:=D.perm (F.symm.cons _);let j:=i.sub ((eH _ _).cons_cons _);show j.perm ((p2 (!q)).append_right _)
def aJ(fa fb:EF):EF:=λY=>(fa Y).bind λx=>(fb x.2).bind λy=>match x.1.pv,y.1.pv with
 |ZA n,ZI k=>match y.2.mu[n]? with
  |some (!(R ws))=>(fY ws k).map λp=>(Zp p,y.2)
  |_=>J
 |p,q=>(qe p q).map λl=>(l,y.2)
def fU(ha:PE X a (tP X.K fa))(hb:PE X b (tP X.K fb))(hm:An b):PE X (.Subscript a b pos) (tP X.K (aJ fa fb)):=PE.imp (Rc SX ha hb hm) λU H Q q=>by
 let(H0,Z0,Y,pd,l,Y',s,f,k):=q;let(x,h1,h2):=bm f;let(y,h3,i):=bm h2;show#[H0,Z0,Y,pd,x.1,x.2,s,h1,λv H1 s1=>#[H0,Z0,x.2,_,y.1,y.2,s1,h3,λw H2 s2=>?_]];let D:=s2.freeze.swap.freeze.swap;split at i
 . rename_i n kk en ek;split at i
   . rename_i ws F;let(p,h5,W):=cr i;cases W;rw[en,ek]at D;let(_,N):=D.repH;let ew:=cg N;let(a,rfl,s5):=D.pop.cellO F;let(el,Z,hg,z,so):=s5.top;let(_,ea,(us,hu,hr),_):=so.1 _ bi;cases ea;let(j,e1,e2):=Bb h5 hr.length;let(u,e3,e4):=hr.get e1;show Zl #[a,us,kk,u,O,ew,bV.of hu,e2 u e3,k u H2 ?_];have s6:SR X.K H0 Z0 U H2 #[y.2.vs,y.2.mu.set n J] ((u,Zp p)::(.ref a,Zs (R ws))::(.ref a,Zp (ZA n))::pd):=.mk el hg z ((so.perm dj).consS e4);let hn:=(de.mp F).1;let s7:=s6.perm (((List.Perm.swap _ _ _).cons _).trans (List.Perm.swap _ _ _));let s8:=s7.cellP ∅;have e8:(y.2.mu.set n J).set n (!(R ws))=y.2.mu:=by rw[hZ];show i9 F
     let s9:=s8;rw[e8]at s9;show s9
   . cases i
 . let(l',h5,W):=cr i;cases W;show Um H0 Z0 U y.2 pd H2 v w x.1.pv y.1.pv _ Q D h5 k
def Rw(g:AF):EF:=λY=>(bO g Y).bind λx=>match x.1 with
 |Zs p=>!(Zp (ZA x.2.mu.length),#[x.2.vs,x.2.mu++[!p]])
 |_=>J
def Up(h:PE X (.List es pos) (tP X.K (bO g))):PE X (.List es pos) (tP X.K (Rw g)):=PE.imp h λU H Q q=>by
 let(H0,Z0,Y,pd,l,Y',s,f,k):=q;let(x,h1,h2):=bm f;show#[H0,Z0,Y,pd,x.1,x.2,s,h1,λv H1 N=>?_];split at h2
 . rename_i p ep;cases h2;rw[ep]at N;let(W,Z,hg,z,j):=N.top;let(a,ea,ra,za,nk):=j.1 _ bi;let i:=d_ ea;subst i;have F:ig Z #[Z.z,Z.g++[a]]:=#[eQ.refl _,n5 _ _];let D:=j.step F λe he b hb=>#[O,(jg j he hb).1];show k _ H1 (.mk (Z:=#[Z.z,Z.g++[a]]) W ∅ #[z.zh,z.h0,z.z0.trans F,z.new] (ag.consS ?_ ?_))
   . show D.perm ?_;have ec:cel (Z.g++[a]) (x.2.mu++[!p])=cel Z.g x.2.mu++[(!(.ref a),!(Zs p))]:=by unfold cel;rw[cy,cy,kl ∅];rfl
     show List.Perm (cel (Z.g++[a]) (x.2.mu++[!p])++_) _;rw[ec,cw];show eM
   . show#[a,O,by show (Z.g++[a])[x.2.mu.length]?=!a;rw[hg,fy (bv _)];simp]
 . cases h2
mutual
def cZ:PV->Bool
 |.non=>G
 |.bl _=>G
 |ZI _=>G
 |ZH _=>G
 |ZB ps=>gU ps
 |_=>M
def gU:List PV->Bool
 |[]=>G
 |p::ps=>cZ p&&gU ps
end
def Rx:Lc->Bool
 |Zp p=>cZ p
 |Zs (R ps)=>gU ps
 |Zs (.dk _ ps)=>gU ps
 |_=>M
def Yy:Option Lc->Option Lc
 |some l=>!(Zp l.pv)
 |none=>J
def Ev.peek(Y:Ev):Ev:=#[Y.vs.map Yy,Y.mu.map λ_=>J]
def u9(f:EF):EF:=λY=>(f Y.peek).bind λx=>if Rx x.1=G then !(x.1,Y) else J
noncomputable def zb:Option HO->Option HO->Option HO->Option HO
 |some (.tup vs),_,_=>!(.tup vs)
 |some (.frz o u),_,_=>!(.frz o u)
 |some _,z,_=>z
 |none,_,z=>z
def nH(H:Hp)(Z Z':ZG):ZG:=#[λb=>zb (H b) (Z.z b) (Z'.z b),Z.g]
def Uq(D:eQ H H')(j:eQ Z'.z H')(h:cT K Z'.z a vs):cT K (nH H Z Z').z a vs:=by
 obtain (h|⟨o,h⟩)|h:=h
 . show Zl (Zl ?_);show zb (H a) (Z.z a) (Z'.z a)=_;cases q:H a with
   |none=>show h
   |some o=>
    let i:=D a o q;rw[j a _ h]at i;cases i;rfl
 . show Zl (YY #[o,?_]);show zb (H a) (Z.z a) (Z'.z a)=_;cases q:H a with
   |none=>show h
   |some o'=>
    let i:=D a o' q;rw[j a _ h]at i;cases i;rfl
 . show YY h
mutual
theorem Lj(j:eQ H H')(i:eQ Z'.z H'):∀{p:PV}{v:V},cZ p=G->ba K Z' p v->ba K (nH H Z Z') p v
 |.non,v,_,h=>by  show h
 |.bl _,v,_,h=>by  show h
 |ZI _,v,_,h=>by  show h
 |ZH _,v,_,h=>by  show h
 |ZB ps,v,f,h=>by let(a,q,e,h1,h2):=h;show#[a,q,e,Uq j i h1,vd j i f h2]
 |R _,v,f,_=>by  cases f
 |.dk _ _,v,f,_=>by  cases f
 |.dt _ _,v,f,_=>by  cases f
 |.obj _ _ _,v,f,_=>by  cases f
 |.df _ _,v,f,_=>by  cases f
 |.dtf _ _,v,f,_=>by  cases f
 |.dx _ _ _,v,f,_=>by  cases f
 |.exc _,v,f,_=>by  cases f
 |.fn _,v,f,_=>by  cases f
 |ZA _,v,f,_=>by  cases f
theorem vd(j:eQ H H')(i:eQ Z'.z H'):∀{ps:List PV}{vs:List V},gU ps=G->aK K Z' ps vs->aK K (nH H Z Z') ps vs
 |[],vs,_,h=>by  show h
 |p::ps,vs,f,h=>by let(v,r,rfl,h1,h2):=h.inv;unfold gU at f;rw[gt]at f;show aK.cons (Lj j i f.1 h1) (vd j i f.2 h2)
end
def SR.lookB(s:SR K H0 Z0 U H Y pd):
 ∃Z,(U.length=Y.vs.length/\Y.mu.length=Z.g.length/\ig Z #[H,Z.g]/\ag K H0 Z H (sl Z.g U Y pd))/\(∀H' v r Y1,SR K H #[H,Z.g] U H' Y1 [(v,r)]->Rx r=G->SR K H0 Z0 U H' Y ((v,r)::pd))/\∀H' Y1,SR K H #[H,Z.g] U H' Y1 []->SR K H0 Z0 U H' Y pd:=by
 let(el,Z,hg,z,so):=s;have lz:ig Z #[H,Z.g]:=#[z.zh,jf _];have back:∀{H':Hp}{Z':ZG},jG H #[H,Z.g] Z' H'->jG H0 Z0 (nH H Z Z') H'/\ag K H0 (nH H Z Z') H' (sl Z.g U Y pd):=λ{H' Z'} i=>by
  have zz:ig Z (nH H Z Z'):=#[λb o e=>by show zb (H b) (Z.z b) (Z'.z b)=_;let hb:=z.zh b o e;rw[hb];cases o<;>first |rfl |show e,jf _]
  have N:∀b o,(nH H Z Z').z b=!o->(∃u,H b=!u/\((JL u/\o=u)\/Z.z b=!o))\/(H b=J/\Z'.z b=!o):=λb o e=>by
   have e:zb (H b) (Z.z b) (Z'.z b)=!o:=e;cases q:H b with
   |none=>rw[q]at e;show YY #[O,e]
   |some u=>
    rw[q]at e;show Zl #[u,O,?_];cases u with
    |tup vs=>cases e;show Zl #[trivial,O]
    |frz o' u=>cases e;show Zl #[trivial,O]
    |_=>show YY e
  show#[#[λb o e=>?_,z.h0.trans i.h0,z.z0.trans zz,λb o e=>?_],?_]
  . obtain⟨u,hu,⟨_,rfl⟩|D⟩|⟨_,D⟩:=N b o e
    . show i.h0 b _ hu
    . show i.h0 b o (z.zh b o D)
    . show i.zh b o D
  . obtain⟨u,hu,⟨hi,rfl⟩|D⟩|⟨hn,D⟩:=N b o e
    . grind
    . show z.new b o D
    . show YY (Zl (z.h0.free hn))
  . show so.step zz λe j a ha=>?_;let(h1,h2,o,h3,h4):=jg so j ha;show#[by rw[h3];show i.h0 a o h3,?_];show zb (H a) (Z.z a) (Z'.z a)=_;rw[h3];cases o with
    |tup vs=>show(h4 trivial).elim
    |frz o u=>show(h4 trivial).elim
    |_=>show h1
 show#[Z,#[el,hg,lz,so],λH' v r Y1 s1 W=>?_,λH' Y1 s1=>?_]
 . let(_,Z',tF,i,s2):=s1.top;let(zo,Q):=back i;let q:=s2.1 _ bi;show .mk (Z:=nH H Z Z') el hg zo ?_;cases r with
   |sh p=>
    let(x,e1,F):=q;cases e1;show Q.consS (Lj i.h0 i.zh W F)
   |own p=>
    let(a,e1,F,e3,e4):=q;let mB:=d_ e1;subst mB;have fin:∀{q:PV},qC K (nH H Z Z') H' a q->ag K H0 (nH H Z Z') H' ((!(.ref a),!(Zs q))::sl Z.g U Y pd):=λF=>by
     show#[λe j=>?_,?_]
     . obtain rfl|j:=aT.mp j
       . show#[a,O,F,?_,z.h0.free e4];show zb (H a) (Z.z a) (Z'.z a)=_;rw[e4];show e3
       . show Q.1 e j
     . show f6.mpr #[λhm=>?_,Q.2];let(e,j,hb):=kQ.mp hm;let(_,_,o,h3,_):=jg so j hb;grind
    suffices h:qC K (nH H Z Z') H' a p by show fin h
    cases p with
    |lst ps=>
     let(vs,g1,g2):=F;show#[vs,g1,vd i.h0 i.zh W g2]
    |dk ks ps=>
     let(a_,g1,g2,g3):=F;show#[a_,g1,g2,vd i.h0 i.zh W g3]
    |_=>cases W
 . let(_,Z',tF,i,s2):=s1;let(zo,Q):=back i;show#[el,nH H Z Z',hg,zo,Q]
def SR.peeked{Z:ZG}(j:U.length=Y.vs.length)(q:Y.mu.length=Z.g.length)
 (hs:∀v o,(v,o)∈U.zip Y.vs->pk o=J\/∃x p,pk o=!(Zp p)/\v=!x/\ba K #[H,Z.g] p x):SR K H #[H,Z.g] U H #[Y.vs.map pk,Y.mu.map λ_=>J] []:=by
 have key:∀v l,(v,l)∈sl Z.g U #[Y.vs.map pk,Y.mu.map λ_=>J] []->l=J\/∃x p,l=!(Zp p)/\v=!x/\ba K #[H,Z.g] p x:=λv l i=>by
  obtain i|i:=cx.mp i
  . let(_,h2):=iP i;grind
  . rw[nX,d0]at i;rw[List.zip_map_right]at i;grind
 show#[by simp[j],#[H,Z.g],by simp[q],#[eQ.refl _,eQ.refl _,ig.refl _,λb o e=>Zl e],λe i=>?_,?_]
 . let(v,l):=e;obtain rfl|⟨x,p,rfl,rfl,r⟩:=key v l i
   . trivial
   . show#[x,O,r]
 . have:(sl Z.g U #[Y.vs.map pk,Y.mu.map λ_=>J] []).filterMap lH=[]:=by
    rw[List.filterMap_eq_nil_iff];intro e i;let(v,l):=e;obtain rfl|⟨x,p,rfl,rfl,_⟩:=key v l i
    . cases v with
      |none=>rfl
      |some x=>cases x<;>rfl
    . cases x<;>rfl
   grind
def SR.look(s:SR K H0 Z0 U H Y pd):
 ∃i,SR K H i U H Y.peek []/\(∀H' v r Y1,SR K H i U H' Y1 [(v,r)]->Rx r=G->SR K H0 Z0 U H' Y ((v,r)::pd))/\∀H' Y1,SR K H i U H' Y1 []->SR K H0 Z0 U H' Y pd:=by
 let(Z,(F,Q,D,N),W,b2):=s.lookB;show#[_,SR.peeked F Q λv o he=>?_,W,b2];let q:=N.1 _ (fB _ (gu _ he))
 match o,q with
 |none,_=>show Zl O
 |some (Zp p),#[x,j,z]=>show YY #[x,p,O,j,z.mono D]
 |some (Zs p),#[a,j,z,_]=>show YY #[.ref a,p,O,j,z.rep D O]
def OX(mu:Mu):PV->PV
 |ZA n=>match mu[n]? with
  |some (!p)=>p
  |_=>ZA n
 |p=>p
def peekC(mu:Mu):Option Lc->Option Lc
 |some l=>!(Zp (OX mu l.pv))
 |none=>J
def Ev.peekC(Y:Ev):Ev:=#[Y.vs.map (PL.peekC Y.mu),Y.mu.map λ_=>J]
def WX:∀U H Q,tP K (u9 f) U H Q->tP K f U H Q:=λU H Q q=>by
 let(H0,Z0,Y,pd,r,Y',s,h,k):=q;let(x,h1,h2):=bm h;let(z,F,j,_):=s.look;split at h2
 . rename_i i;cases h2;show#[H,z,Y.peek,[],x.1,x.2,F,h1,λv H' D=>k v H' (j H' v x.1 x.2 D i)]
 . cases h2
def JS(h:PE X e (tP X.K f)):PE X e (tP X.K (u9 f)):=PE.imp h WX
end
def xV(x:Str):It:=#[λi _=>i<x.cps.size,λi H v H'=>H'=H/\∃c,x.cps[i]?=!c/\v=.str #[(List.toArray [c])],λi _=>i=x.cps.size]
def Lk(j:Addr)(x:Str){St:Nat->Heap->Prop}(W:∀A':Around,A'.handled=J->Walks P w A' j [j] [j] x.cps.size (SignAt x) St)
 (hob:∀i h,St i h->∃o,h.get? j=!o/\∀v,o.data≠.cell v) (OY:∀(A:Around)(i:Nat)(s:Shared)(Q:Value->Shared->Prop)(E:Value->Shared->Prop),St i s.heap->Q (YV j) s->wpAny (model P w) A (pyIter (YV j)) Q E s):fT P w K tg (xV x) [j] j St where
 mem:=by simp
 obj:=λi h st b q=>by
  have e:b=j:=by simpa using q
  grind
 keep:=λi h h' st k=>(W {} O).frame i h h' st k
 item:=by intro X hP hw hK hc i ae s U H E I D st N;let(F,f1,f2,f3,f4,f5):=D j (by simp);show(W X.A (I.ok.hd hc)).item i s _ E N st λv h' tk hv db hk=>?_;let(c,u,e1,rfl):=hv;show#[_,O,?_];have fin:∃z H',ai X ae U H' { s with heap:=h',toks:=tk }/\aw z (.str #[(List.toArray [c])] u)/\(xV x).yld i H z H'/\St (i+1) h'/\∀b∈[j],H' b=J:=#[.str #[(List.toArray [c])],H,(I.turned (λb o q e=>hk b o ∅ e) F f1 f3 f4 f5),#[u,O],#[O,c,e1,O],db,λb q=>(D b q).1];cases tg<;>show ay fin
 done:=by intro X hP hw hK hc i ae s U H E I D st N;let(F,f1,f2,f3,f4,f5):=D j (by simp);subst N;show(W X.A (I.ok.hd hc)).done s _ E st λh' tk hk=>#[O,I.turned (λb o q e=>hk b o ∅ e) F f1 f3 f4 f5]
 self:=λA i s Q E st h=>OY A i s Q E st h
section
variable {X:Cx}
noncomputable def gI (x:Str):List PV:=x.cps.toList.map λc=>ZH #[(List.toArray [c])]
def WY:qD K H0 Z0 pd (xV x) (gI x):=by
 intro U H Y i s;show#[λp q=>?_,λD=>?_]
 . unfold gI at q;rw[c8]at q;let(c,z,rfl):=cr q;let hi:=(de.mp z).1;show#[(show i<x.cps.size by simpa using hi),λv H' y=>?_];let(rfl,F,j,rfl):=y;have:F=c:=by rw[Array.getElem?_toList]at z;rw[z]at j;show(d_ j).symm
   subst this;show s.scal oR
 . show i=x.cps.size;simpa [gI] using D
def Nz{bs:List Bool}(z:am ys br)(e:ys=bs.map V.bl):TruthOf P w A (λi v=>br.toArray[i]?=!v) (λi=>bs.getD i M):=by
 intro i v s Q E N q;have j:br[i]?=!v:=by simpa using N
 let hi:=(de.mp j).1;let W:=z.length;have D:i<bs.length:=by rw[e,bq]at W;lia
 let(u,h1,h2):=z.get (by rw[e,c8,et D];rfl);rw[j]at h1;cases h1;cases h2;have:bs.getD i M=bs[i]:=by simp[D]
 have F:Q (bs.getD i M) s:=q;rw[this]at F;show wpAny_truthy_bool F
def range_any{bs:List Bool}:((List.range bs.length).any λi=>bs.getD i M)=bs.any id:=by
 induction bs with
 |nil=>rfl
 |cons b r j=>
  rw[be,List.range_succ_eq_map,qa,List.any_map,qa];have:((List.range r.length).any ((λi=>(b::r).getD i M) ∘ Nat.succ))=(List.range r.length).any λi=>r.getD i M:=O;rw[this,j];rfl
def xW(hc:X.calm=G):mj X (.builtin "any") (λxs H Q=>∃(p:Addr)(bs:List Bool),xs=[.ref p]/\bV X.K H p (bs.map V.bl)/\Q (.bl (bs.any id)) H):=by
 intro ae s U H xs us Q I r h;let(p,bs,rfl,hq,q):=h;let(u,rfl,ru):=d4 r;cases ru;let(j,N,pl,_):=I.list hq;have D:p<s.heap.objs.size:=by let(o,n,F,_):=pl;show bX F
 show call_any_walk (wpAny_pyIter_list pl.isList ?_);have z:∀b o,s.heap.get? b=!o->(s.heap.push { cls:=.type "list_iterator",data:=.fields (List.toArray [YV p,.int 0 0]) }).get? b=!o:=λb o e=>cf _ e;have hl:j.toArray.size=bs.length:=by rw[eP,<-N.length,bq]
 show#[s.heap.objs.size,_,_,_,_,_,λi=>bs.getD i M,O,Walks.list (show X.A.in1.handled=J from I.ok.hd hc) _ p (c_ D) j.toArray,#[#[_,dA _ O,O,O],?_],Nz N O,λh' tk hk=>?_]
 . let(o,F,W):=pl.isList;show#[o,z _ _ F,W]
 . rw[hl,range_any];show#[.bl _,H,I.kept λb o e=>hk b o ?_ (z b o e),O,q];have:=bX e;simp;show c_ this
noncomputable def c6:List PV->Option (List Bool)
 |[]=>![]
 |.bl b::r=>(c6 r).map (b::·)
 |_=>J
theorem HX:∀{ps:List PV}{bs:List Bool}{vs:List V},c6 ps=!bs->aK K Z ps vs->vs=bs.map V.bl
 |[],bs,vs=>λh r=>by cases h;show r.inv0
 |p::ps,bs,vs=>λh r=>by
  cases p with
  |bl b=>
   let(cs,h1,rfl):=cr h;let(v,w,rfl,i,j):=r.inv;rw[iY i,HX h1 j];rfl
  |_=>cases h
def OZ:PV->Option Lc
 |R ps=>(c6 ps).map λbs=>Zp (.bl (bs.any id))
 |_=>J
abbrev W0:List PV->Option Lc:=λps=>match ps with |[p]=>OZ p |_=>J
def Ur:nG K (λxs H Q=>∃(p:Addr)(bs:List Bool),xs=[.ref p]/\bV K H p (bs.map V.bl)/\Q (.bl (bs.any id)) H) W0:=nG.one λH0 Z0 U Y pd H v p l Q s e k=>by
 let(_,r):=s.repH;cases p with
 |lst ps=>
  let(bs,h1,rfl):=cr (e);let(a,j,rfl,h2,i):=r;have:=HX h1 i;subst this;show#[a,bs,O,h2,k _ H (s.pop.scal pD)]
 |_=>cases e
noncomputable def d6:List PV->Option (List Str)
 |[]=>![]
 |ZH x::r=>(d6 r).map (x::·)
 |_=>J
theorem Ln:∀{ps:List PV}{xs:List Str}{vs:List V},d6 ps=!xs->aK K Z ps vs->vs=xs.map V.str
 |[],xs,vs=>λh r=>by cases h;show r.inv0
 |p::ps,xs,vs=>λh r=>by
  cases p with
  |str b=>
   let(cs,h1,rfl):=cr h;let(v,w,rfl,j,q):=r.inv;rw[dC j,Ln h1 q];rfl
  |_=>cases h
theorem Eu:∀{xs:List Str}{i:List Value},am (xs.map V.str) i->StrsAre i xs
 |[],_,.nil=>.nil
 |x::xs,_,.cons r t=>by let(j,rfl):=r;show .cons _ _ (Eu t)
def Pz:S6 X "str.join" (λx xs H Q=>∃(z:Str)(p:Addr)(ys:List Str),x=.str z/\xs=[.ref p]/\bV X.K H p (ys.map V.str)/\(ys.map (·.length)).sum+ys.length*z.length<=16777216/\Q (.str (Txt.join z ys)) H):=by intro ae s U H x vs v us Q I D F h;let(z,p,ys,rfl,rfl,W,i,q):=h;let(t,rfl):=D;let(u,rfl,ru):=F.one;cases ru;let(j,gg,pl,_):=I.list W;show join_list pl.isList (by simpa using Eu gg) i λN k=>#[.str _,H,I.tok k,#[N,O],q]
def qY(f:EF)(a:AF):EF:=λY=>(f Y).bind λx=>(a x.2).bind λy=>match x.1.pv,y.1.map Lc.pv with
 |ZH z,[R ps]=>(d6 ps).bind λxs=>if (xs.map (·.length)).sum+xs.length*z.length<=100000 then !(Zp (ZH (Txt.join z xs)),y.2) else J
 |_,_=>J
def Yz(h:PE X (.Call (.Attribute o "join" apos) [e] [] cpos) (J9 X.K "str" (λx xs H Q=>∃(z:Str)(p:Addr)(ys:List Str),x=.str z/\xs=[.ref p]/\bV X.K H p (ys.map V.str)/\(ys.map (·.length)).sum+ys.length*z.length<=16777216/\Q (.str (Txt.join z ys)) H) (tP X.K f) (jH X.K a))):
 PE X (.Call (.Attribute o "join" apos) [e] [] cpos) (tP X.K (qY f a)):=PE.imp h λU H Q q=>by
 let(H0,Z0,Y,pd,r,Y',s,h,k):=q;let(x,h1,h2):=bm h;let(y,h3,i):=bm h2;show#[H0,Z0,Y,pd,x.1,x.2,s,h1,λv H1 D=>?_];split at i
 . rename_i z ps ez ep;let(xs,h5,j):=bm i;split at j
   . cases j;let(_,N):=D.freeze.repH;rw[ez]at N;have:=dC N;subst this;show#[O,H0,Z0,x.2,pd,y.1,y.2,D.pop,h3,λvs H2 e2 s2=>?_];let(W,Z,hg,F,rl,ss):=s2.repl e2;rw[ep]at rl;let(w,rr,rfl,r1,r2):=rl.inv;have:=r2.inv0;subst this;let(b,ws,rfl,g1,g2):=r1;have:=Ln h5 g2;subst this;show#[z,b,xs,O,O,bV.same F.zh g1,(),k _ H2 (.mk W hg F (ss.consS (oR _)))]
   . cases j
 . cases i
noncomputable def O0:PV->Option Lc
 |ZI i=>if i.natAbs.log2<1920 then !(Zp (ZH (toString i))) else J
 |_=>J
abbrev g9:List PV->Option Lc:=λps=>match ps with |[p]=>O0 p |_=>J
def Ew:nG K (λxs H Q=>∃i,xs=[.int i]/\i.natAbs.log2<1920/\Q (.str (toString i)) H) g9:=nG.one λH0 Z0 U Y pd H v p l Q s e k=>by
 let(_,r):=s.repH;cases p with
 |int i=>
  have j:(if i.natAbs.log2<1920 then !(Lc.sh (ZH (toString i))) else J)=!l:=e;split at j
  . rename_i z;cases j;have:=cg r;subst this;show#[i,O,z,k _ H (s.pop.scal oR)]
  . cases j
 |_=>cases e
end
section
variable {prog:Program}{w:World}{A:Around}{E:Value->Shared->Prop}{s:Shared}
theorem HY(D:t≠F):∀(n i:Nat)(s:Shared)(Q:List Value->Shared->Prop),s.heap.IsListIter F t i->s.heap.IsList t items->i+n<=items.size->
 (∀h',h'.IsListIter F t (i+n)->Heap.SameBut F s.heap h'->Q ((items.toList.drop i).take n) { s with heap:=h' })->wpAny (model prog w) A (draw (YV F) n) Q E s
 |0=>λi s Q j _ _ hQ=>by show ay (by simpa using hQ s.heap j (Heap.SameBut.refl ..))
 |n+1=>λi s Q j ht Na hQ=>by
  have W:i<items.size:=()
  show al (wpAny_pyNext_list_item j ht (x:=items[i]) ∅ λh₁ z q=>?_);show al (wpAny_holding (HY D n (i+1) _ _ z (ht.extBut q.extBut D) () λh₂ hit₂ O6=>ay ?_));have hd:items.toList.drop i=items[i]::items.toList.drop (i+1):=by simp[kS,W]
  have:=hQ h₂ ∅ (q.trans O6);grind
def Dc(hh:A.handled=J)(F:s.heap.IsList t items)
 (hQ:∀h',Heap.ExtBut s.heap.objs.size s.heap h'->Q items.toList { s with heap:=h' }):wpAny (model prog w) A (unpackItems (YV t) items.size J) Q E s:=by
 have z:t≠s.heap.objs.size:=by let(o,ho,_):=F;show c_ (bX ho)
 show al ?_
 . show al (wpAny_specialOf F.typeIs slot_list_iter.lookup ?_);show ay ?_;show al (wpAny_holding (wpAny_pyIter_list F ?_));show al (wpAny_holding (HY z items.size 0 _ _ #[_,dA _ O,O,O] (by let(o,g1,W):=F;show#[o,cf _ g1,W]) () λh₁ q j=>?_));have D:List.take items.size (List.drop 0 items.toList)=items.toList:=by rw[List.drop_zero];show nV (by simp)
   rw[D];rw[aE (by simp)];let O_:=Heap.IsList.extBut (by let(o,g1,W):=F;show#[o,cf _ g1,W]) j.extBut z;show al (wpAny_holding (wpAny_pyNext_list_end hh q O_ (by simp) λh₂ Pc=>?_));show ay (hQ h₂ λb o hb e=>Pc b o hb (j.extBut b o hb (cf _ e)))
end
section
variable {X:Cx}{pos:Pos}
def A6(K:FG)(n:Nat)(t:yE):TG:=λv U H Q=>∃a xs,v=.ref a/\(cT K H a xs\/bV K H a xs)/\xs.length=n/\t xs U H Q
def gW{k:Nat}(hc:X.calm=G)(h:R9 X es t)
 (N:(assignEach es X.env).length=n:=by rfl) (i:(assignEach es X.env).findIdx? (·.1)=J:=by rfl):PG X (.Tuple es k pos) (A6 X.K n t):=by
 intro ae s U H v u Q I r q;let(a,xs,F,j,W,q):=q;obtain j|j:=j
 . show HU hc h N i ae s U H v u Q I r #[a,xs,F,j,W,q]
 . subst F;cases r;let(D,rv,ht,hz):=I.list j;show al (wpAny_standAt ?_);unfold unpack;have z:(assignEach es X.env).length=D.toArray.size:=by simp[N,<-W,rv.length]
   rw[z,i];show al (wpAny_holding (Dc (I.ok.hd hc) ht.isList λh' hx=>?_));let I1:=I.kept (t':=s.toks) λb o e=>hx b o (c_ (bX e)) e;show h ae _ U H xs _ Q I1 () q
noncomputable def dR (n:Nat) (bs:K9):BF:=λp Y=>match p with
 |ZB ps=>if ps.length=n then bs ps Y else J
 |R ps=>if ps.length=n then bs ps Y else J
 |_=>J
def gY(h1:Yu K t bs):GS K (A6 K n t) (dR n bs):=by
 intro H0 Z0 U H Y pd v p Y' Q s h k;cases p with
 |tup ps=>
  have h':(if ps.length=n then bs ps Y else J)=!Y':=h;split at h'
  . rename_i F;let(e,Z,D,z,r,j):=s.sh;let(a,q,rfl,h2,i):=r;show#[a,q,O,Zl (cT.same z.zh h2),by rw[i.length];show F,h1 H0 Z0 U H Y pd q ps Y' Q i.length (SR.items e D z i j) h' k]
  . cases h'
 |lst ps=>
  have h':(if ps.length=n then bs ps Y else J)=!Y':=h;split at h'
  . rename_i F;let(e,Z,D,z,r,j):=s.sh;let(a,q,rfl,h2,i):=r;show#[a,q,O,YY (bV.same z.zh h2),by rw[i.length];show F,h1 H0 Z0 U H Y pd q ps Y' Q i.length (SR.items e D z i j) h' k]
  . cases h'
 |_=>cases h
def Pe(K:FG)(tl:TE):TI:=λU H ZN=>tl U H λx H1=>(∃a,x=.ref a/\(∃xs,bV K H1 a xs)/\ZN (Yb K a) H1)\/(∃a,x=.ref a/\(∃xs,cT K H1 a xs)/\ZN (Yc K a) H1)\/∃z,x=.str z/\ZN (xV z) H1
def Pf(hl:PE X l tl):PI X tg l (Pe X.K tl):=by
 intro ae s U H ZN I h;have Pm:∀(v:Value)(j:Shared)(x:V)(H1:Hp),ai X ae U H1 j->aw x v->((∃a,x=.ref a/\(∃xs,bV X.K H1 a xs)/\ZN (Yb X.K a) H1)\/(∃a,x=.ref a/\(∃xs,cT X.K H1 a xs)/\ZN (Yc X.K a) H1)\/∃z,x=.str z/\ZN (xV z) H1)->
  wpAny (model X.prog X.w) X.A (pyIter v) (oi X ae U tg ZN) X.xe j:=λv j x H1 D F q=>by
  have fp:∀b,b∈[j.heap.objs.size]->mU X ae H1 b:=λb hb=>by
   have e:b=j.heap.objs.size:=by simpa using hb
   subst e;show D.fpOk () (D.hok.fresh ())
  obtain⟨a,rfl,⟨xs,N⟩,q⟩|⟨a,rfl,⟨xs,N⟩,q⟩|⟨z,rfl,q⟩:=q
  . cases F;let(br,rv,p,hz):=D.list N;show wpAny_pyIter_list p.isList #[j.heap.objs.size,[j.heap.objs.size],_,_,H1,O,D.kept λb o e=>cf _ e,Sd a _,#[_,dA _ O,O,O],fp,q]
  . cases F;let(br,rv,p,hz):=D.tuple N;show wpAny_pyIter_tuple p #[j.heap.objs.size,[j.heap.objs.size],_,_,H1,O,D.kept λb o e=>cf _ e,QW a _,#[_,dA _ O,O,O],fp,q]
  . let(t,rfl):=F;have kp:∀(o:Obj),ai X ae U H1 { j with heap:=j.heap.push o }:=λo=>D.kept λb u e=>cf _ e;have ob:∀{n:String}(i:Nat)(h:Heap),h.IsStrIter j.heap.objs.size n z t i->∃o,h.get? j.heap.objs.size=!o/\∀v,o.data≠.cell v:=λi h st=>by let(o,ho,_,hd):=st;show#[o,ho,λv e=>by rw[hd]at e;cases e]
    cases ha:z.cps.all (·<128)
    . show wpAny_pyIter_wide ha #[j.heap.objs.size,[j.heap.objs.size],_,xV z,H1,O,kp _,Lk _ z (λA' W=>Walks.strWide W _ z t) ob (λA i s Q E st h=>wpAny_pyIter_striter_wide st h),#[_,dA _ O,O,O],fp,q]
    . show wpAny_pyIter_ascii ha #[j.heap.objs.size,[j.heap.objs.size],_,xV z,H1,O,kp _,Lk _ z (λA' W=>Walks.strAscii W _ z t) ob (λA i s Q E st h=>wpAny_pyIter_striter_ascii st h),#[_,dA _ O,O,O],fp,q]
 show cY (hl ae s U H _ I h) λv j Po=>by let(x,H1,D,F,q):=Po;show Pm v j x H1 D F q
def bN:PV->Option (List PV)
 |R ps=>!ps
 |ZB ps=>!ps
 |ZH x=>!(gI x)
 |_=>J
def cI(W:PE X l (tP X.K f)):PI X tg l (HR X.K (dG f bN)):=PI.imp (Pf W) λU H ZN q=>by
 let(H0,Z0,Y,pd,xs,Y',s,h,k):=q;let(x,h1,h2):=bm h;let(ys,j,h4):=cr h2;cases h4;show#[H0,Z0,Y,pd,x.1,x.2,s,h1,λv H1 Q=>?_];let i:=Q.freeze;cases e:x.1.pv with
 |lst ps=>
  rw[e]at j i;cases j;let(Z,z,r):=i.rep;let(b,N,rfl,D,F):=r;show Zl #[b,O,#[N,bV.same z D],k _ _ _ i Ue (eH _ _)]
 |tup ps=>
  rw[e]at j i;cases j;let(Z,z,r):=i.rep;let(b,N,rfl,D,F):=r;show YY (Zl #[b,O,#[N,cT.same z D],k _ _ _ i WN (eH _ _)])
 |str z=>
  rw[e]at j i;cases j;let(_,r):=i.repH;show YY (YY #[z,dC r,k _ _ _ i.pop WY (mn _)])
 |_=>rw[e]at j;cases j
end
section
variable {P:Program}{w:World}{K:FG}{mg:Str->Option Value}{base:Heap}
def PB(mg:Str->Option Value)(L:List Str):Prop:=∀x∈L,mg x=J
def oV{st:Stmt}(F:cU K mg x st ps):bT P w K mg base x k ps (cC K ps.length λ_ _=>J):=by
 let(f,fd,F,z,D):=F;have W:∀i H Q E,¬ cC K ps.length (λ_ _=>J) i H Q E:=λi H Q E h=>by let(_,_,_,_,_,_,_,_,_,_,h,_):=h;cases h
 show#[f,fd,#[λi H Q E h=>absurd h ∅,λA j s H q N i Q E _ _ _ _ h=>absurd h ∅],z,F.kp,D]
def JT(K:FG):Sp:=λvs H Q _=>∃(a:Addr)(ns:List Int),vs=[.ref a]/\bV K H a (ns.map V.int)/\ns.length<=63/\∀H',Q (.bl G) H'
def Pp(F:n8 P w K mg base pZ k f fd ["_law_script"] (cC K 1 g))(h:∀ns:List Int,ns.length<=63->∃i,g [R (ns.map PV.int)] []=!(Zp (.bl G),i)):n8 P w K mg base pZ k f fd ["_law_script"] (JT K):=
 F.imp λvs H Q E q=>by
  let(a,ns,rfl,hs,z,k):=q;let(i,e):=h ns z;show#[#[H,[]],[R (ns.map PV.int)],[],_,i,O,O,eQ.refl _,aK.cons ?_ .nil,#[λe he=>(by cases he),mo],e,λv H' r=>?_]
  . show#[a,ns.map V.int,O,hs,?_];clear hs e z;induction ns with
    |nil=>show .nil
    |cons n r W=>show aK.cons (gK _) W
  . let(Z',_,_,s):=r;let(x,D,N):=s.1 _ bi;cases D;rw[iY N];grind
end
def aQ:∀Y ls Y1,ao Y=!(ls,Y1)->ls.length=0:=λY ls Y1 h=>by cases h;rfl
def aB(h:∀Y ls Y1,g Y=!(ls,Y1)->ls.length=n):∀Y ls Y1,aa f g Y=!(ls,Y1)->ls.length=n+1:=λY ls Y1 e=>by let(x,h1,h2):=bm e;let(y,i,j):=cr h2;cases j;rw[be,h _ _ _ i]
def Ps(S:Scope)(hS:X.env.scope=S)(D:sc.kind=.function)(z:∀y∈sc.names,y.2=.local->sc.names.lookup y.1=!.local)(cel:∀y∈sc.names,y.2=.cell->sc.names.lookup y.1=!.cell)
 (own:∀p∈sc.names,p.2=.free->S.names.lookup p.1=!.cell\/S.names.lookup p.1=!.free) (frs:∀x∈F,sc.names.lookup x=!.free) (Q:ixs.map (λi=>X.N[i]?)=F.map some):jy X ZO F ixs sc:=by
 show#[D,z,cel,λp W e=>by rw[hS];show own p W e,frs,?_,λj i h=>?_]
 . have:=congrArg List.length Q;grind
 . have h2:(ixs.map (λi=>X.N[i]?))[j]?=some X.N[i]?:=by rw[c8,h];rfl
   rw[Q,c8]at h2;cases q:F[j]? with
   |none=>grind
   |some x=>grind
section
variable {P:Program}{w:World}{K:FG}{mg:Str->Option Value}{base:Heap}
def uW.okP{st:Stmt}(F:uW K x x st f fd)(S:bC N ps (aG st))
 (h:∀(j:Value)(A:Around)(i:List PySem.Env)(s:Shared)(H:Hp)(E:XK),qm k (A.deeper (envOfC x (aG st) s.heap.objs.size f j))->
   ∃g':SF,(∀a mu,g a mu=c7 N.length g' a mu)/\jF (V1 pZ P w K mg base N x (aG st) f j A i s H E).nox (jw st) (ik K g')):n8 P w K mg base pZ (k+1) f fd ps (cC K ps.length g):=by
 show F.ok S (λvs H Q E q=>?_) (λj A i s H vs Q E hr q=>?_)
 . let(Z,qs,mu,r,fw,e,_):=q;show e
 . let(g',eg,b):=h j A i s H E hr;let(Z,qs,mu,r,fw,e,hg,z,rl,c,j1,kk):=q;rw[eg]at j1;let(fl,h1,h2):=bm j1;show#[_,b,lJ H (uw Z.g mu),Z,_,[],fl,CQ hg z rl c,h1,?_];cases fl with
   |rt r' Y'=>
    cases h2;intro v U' H' s';let(el,Z',D,z',W):=s'.top;show kk v H' #[Z',D,z',W.sub ?_];show(hY _ _).cons_cons _
   |nx Y'=>
    cases h2;intro U' H' s';let(el,Z',D,z',W):=s';show kk .non H' #[Z',D,z',(W.sub (hY _ _)).consS (Ay _)]
   |bk Y'=>cases h2
   |ct Y'=>cases h2
end
section
variable {X:Cx}
def Pt:PV->Option PV
 |ZI i=>!(ZI (-i))
 |_=>J
def uy(f:EF):EF:=λY=>(f Y).bind λx=>(Pt x.1.pv).map λp=>(Zp p,x.2)
def Gy(F:PE X a (tP X.K f)):PE X (.UnaryOp .USub a pos) (tP X.K (uy f)):=PE.imp (IJ IP F) λU H Q q=>by
 let(H0,Z0,Y,pd,r,Y',s,h,k):=q;let(x,h1,h2):=bm h;let(p,j,W):=cr h2;cases W;show#[H0,Z0,Y,pd,x.1,x.2,s,h1,λv H1 D=>?_];let(_,z):=D.freeze.repH;cases e:x.1.pv with
 |int i=>
  rw[e]at j z;cases j;show#[i,cg z,k _ H1 (D.pop.scal gK)]
 |_=>rw[e]at j;cases j
end
def PJ(I:Nat->Ev->Prop)(q:I 0 Y)(hs:∀(i:Nat) x Y,xs[i]?=!x->I i Y->∃Y1,b x Y=!Y1/\∃Y2,(body Y1=!(.nx Y2)\/body Y1=!(.ct Y2))/\I (i+1) Y2):∃Y',fG b body xs Y=!(.nx Y')/\I xs.length Y':=by
 induction xs generalizing Y I with
 |nil=>show#[Y,O,q]
 |cons x xs F=>
  let(Y1,D,Y2,j,h2):=hs 0 x Y O q;let(Y',N,z):=F (λi Y=>I (i+1) Y) h2 (λi y Y h=>hs (i+1) y Y ());show#[Y',?_,z];show (b x Y).bind _=_;rw[D,bo];rcases j with j|j<;>rw[j,bo]<;>show N
theorem xX(i:Ev->Prop)(z:∀Y,i Y->Y.mu=mu)(c:PV->Bool)(f:PV->PV):∀{xs:List PV}{Y:Ev}{acc:List PV},i Y->acc.length+xs.length<=100000->
 (∀x∈xs,∀Y,i Y->∃Y1,b x Y=!Y1/\∃Y2,tc Y1=!(c x,Y2)/\i Y2/\(c x=G->∃l Y3,te Y2=!(l,Y3)/\l.pv=f x/\i Y3))->eE b tc te xs Y acc=!(acc++(xs.filter c).map f,mu)
 |[],Y,acc=>λh _ _=>by show some (acc,Y.mu)=_;grind
 |x::xs,Y,acc=>λh W hs=>by
  let(Y1,N,Y2,Q,h2,D):=hs x bi Y h;let j:=λy F=>hs y (cv _ F);rw[be]at W;show (b x Y).bind _=_;rw[N,bo,Q,bo];cases hc:c x with
  |false=>
   simp only[e_,if_false];rw[xX i z c f h2 () j,List.filter_cons_of_neg ∅]
  |true=>
   let(l,Y3,e3,ef,h4):=D hc;simp only[if_true];rw[e3,bo,av (),xX i z c f h4 ∅ j,List.filter_cons_of_pos (),ef];simp
def Ia(i:Ev->Prop)(F:∀Y,i Y->Y.mu=mu)(f:PV->PV)(h:i Y)(W:xs.length<=100000)
 (hs:∀x∈xs,∀Y,i Y->∃Y1,b x Y=!Y1/\∃l Y3,te Y1=!(l,Y3)/\l.pv=f x/\i Y3) (N:∀x∈xs,∀Y Y1,i Y->b x Y=!Y1->i Y1):eE b bQ te xs Y []=!(xs.map f,mu):=by
 rw[xX i F (λ_=>G) f h ∅ λx q Y D=>?_]
 . rw[fm,List.filter_eq_self.mpr (λ_ _=>O)]
 . let(Y1,z,l,Y3,Q):=hs x q Y D;show#[Y1,z,Y1,O,N x q Y Y1 D z,λ_=>#[l,Y3,Q]]
def dw(h:0<b):bf (ZI a) (ZI b)=!(Zp (ZI (a%b))):=by show (if decide (0<b)=G then _ else _)=_;grind
def gM(h:0<b)(h2:b<1073741824):bR (ZI a) (ZI b)=!(Zp (ZI (a/b))):=by show (if decide (0<b/\b<1073741824)=G then _ else _)=_;grind
def Lp(h:-18446744073709551616<a)(h2:a<18446744073709551616):gD (ZI a) (ZI b)=!(Zp (ZI (a*b))):=by show (if decide ((-(2 ^ 64)<a/\a<2 ^ 64)\/(-(2 ^ 64)<b/\b<2 ^ 64))=G then _ else _)=_;grind
def v4(h:-18446744073709551616<b)(h2:b<18446744073709551616):gD (ZI a) (ZI b)=!(Zp (ZI (a*b))):=by show (if decide ((-(2 ^ 64)<a/\a<2 ^ 64)\/(-(2 ^ 64)<b/\b<2 ^ 64))=G then _ else _)=_;grind
def bD(h1:fa Y=!(x,Y1))(h2:fb Y1=!(y,Y2))(i:g x.pv y.pv=!l):az g fa fb Y=!(l,Y2):=by unfold az;grind
def uz(j:0<=i)(h1:i<l.length):∃x,fY l i=!x/\l[i.toNat]?=!x:=by
 show#[l[i.toNat],?_,et (())];unfold fY ur;grind
def v5{lo:Int}:(ji lo n).length=n:=by simp[ji]
def Pw{lo:Int}(h:p∈ji lo n):∃i:Nat,i<n/\p=ZI (lo+i):=by let(i,hi,rfl):=cK.mp h;show#[i,List.mem_range.mp hi,O]
def Gz{f g:SF}{Y Y':Ev}(h:f Y=!(.nx Y')):aF f g Y=g Y':=by unfold aF;rw[h,bo]
def GC{f g:SF}{Y Y':Ev}{r:Lc}(h:f Y=!(.rt r Y')):aF f g Y=!(.rt r Y'):=by unfold aF;rw[h,bo]
def PC(h:f Y=!(l,Y1))(hi:i<Y1.vs.length):aM i f Y=!(.nx (Y1.set i (!l))):=by unfold aM;grind
def nJ(h:c Y=!(G,Y1)):cQ c f g Y=f Y1:=by unfold cQ;grind
def nM(h:c Y=!(M,Y1)):cQ c f g Y=g Y1:=by unfold cQ;grind
def PF(h:f Y=!(l,Y1)):cH f Y=!(.rt l Y1):=by unfold cH;grind
def PH(h:f Y=!(xs,Y1)):fH f b body Y=fG b body xs Y1:=by unfold fH;grind
def aN{n:Nat}{g:SF}{ps:List PV}{mu:Mu}{r:Lc}(h:g (env0 n ps mu)=!(.rt r Y)):c7 n g ps mu=!(r,Y.mu):=by unfold c7;rw[h,bo]
def PM{n:Nat}{g:SF}{ps:List PV}{mu:Mu}(h:g (env0 n ps mu)=!(.nx Y)):c7 n g ps mu=!(.sh .non,Y.mu):=by unfold c7;rw[h,bo]
def W2(h:a Y=!(ls,Y1))(h2:g (ls.map Lc.pv) Y1.mu=!(r,mu)):aP g a Y=!(r,#[Y1.vs,mu]):=by unfold aP;grind
def W3(h:f Y=!(l,Y1))(h2:a Y1=!(ls,Y2)):aa f a Y=!(l::ls,Y2):=by unfold aa;grind
def PR(h:a Y=!(ls,Y1))(h2:g (ls.map Lc.pv)=!r):eB g a Y=!(r,Y1):=by unfold eB;grind
def gh(h:f Y=!(xs,Y1))(h2:eE b tc te xs (nq m ixs (gP ixs Y1)) []=!(ys,mu)):cF f m ixs b tc te Y=!(Zs (R ys),#[(gP ixs Y1).vs,mu]):=by unfold cF;grind
def dM(h:f Y=!(l,Y1))(h2:g l.pv=!xs):dG f g Y=!(xs,Y1):=by unfold dG;grind
def mz(h:a Y=!([l],Y1))(i:l.pv=ZI n)(h1:-4611686018427387904<=n)(h2:n<4611686018427387904):iH a Y=!(ji 0 n.toNat,Y1):=by unfold iH;rw[h,bo];show (match [l.pv] with |[ZI j]=>_ |_=>_)=_;rw[i];show (if -(2 ^ 62)<=n/\n<2 ^ 62 then _ else _)=_;rw[av #[(),()]]
def nO(h:f Y=!(l,Y1))(h2:tr l.pv=!b):tT f tr Y=!(b,Y1):=by unfold tT;grind
def W4(h:f Y=!(l,Y1))(h2:a Y1=!([m],Y2))(hl:l.pv=ZH z)(hm:m.pv=R ps)(hx:d6 ps=!xs)(hs:(xs.map (·.length)).sum+xs.length*z.length<=100000):qY f a Y=!(Zp (ZH (Txt.join z xs)),Y2):=by unfold qY;rw[h,bo,h2,bo,hl];show (match PV.str z,[m.pv] with |ZH z,[R ps]=>_ |_,_=>_)=_;rw[hm];show (d6 ps).bind _=_;rw[hx,bo,av hs]
section
variable {f g:SF}{Y Y1 Y2 Y':Ev}{ZN:Option Fl}{l m r:Lc}{fa fb fc:EF}{c d:TF}{a:AF}{b:Bool}
def aH(h:f Y=!(.nx Y'))(h2:g Y'=ZN):aF f g Y=ZN:=(Gz h).trans h2
def bu(h:fa Y=!(l,Y1))(hi:Nat.blt i Y1.vs.length=G)(e:Y1.set i (!l)=Y'):aM i fa Y=!(.nx Y'):=by rw[PC h (by simpa using hi),e]
def cL(h:fa Y=!(l,Y1)):cH fa Y=!(.rt l Y1):=PF h
def dJ(h1:fa Y=!(l,Y1))(z:l.pv=p)(h2:fb Y1=!(m,Y2))(i:m.pv=q)(j:o p q=!r):az o fa fb Y=!(r,Y2):=bD h1 h2 ∅
def aU(h:a Y=!(ls,Y1))(j:ls.map Lc.pv=ps)(i:Y1.vs=v)(q:Y1.mu=gy)(h2:ZT ps gy=!(r,mu)):aP ZT a Y=!(r,#[v,mu]):=by subst j i q;show W2 h h2
def mV(h:a Y=!(ls,Y1))(i:ls.map Lc.pv=ps)(h2:ZT ps=!r):eB ZT a Y=!(r,Y1):=by subst i;show PR h h2
def au(h:fa Y=!(l,Y1))(h2:a Y1=!(ls,Y2)):aa fa a Y=!(l::ls,Y2):=W3 h h2
def xY(h:fa Y=!(l,Y1))(i:l.pv=p)(h2:tr p=!b):tT fa tr Y=!(b,Y1):=by subst i;show nO h h2
def Us(h:c Y=!(b,Y1)):Az c Y=!(not b,Y1):=by unfold Az;grind
def nC(h:c Y=!(b,Y1))(h2:d Y1=!(b2,Y1)):d9 c d Y=!(b&&b2,Y1):=by
 unfold d9;rw[h,bo];cases b with
 |true=>rw[av O,h2];rfl
 |false=>rfl
def qZ(h:c Y=!(b,Y1))(h2:d Y1=!(b2,Y1)):sS c d Y=!(b||b2,Y1):=by
 unfold sS;rw[h,bo];cases b with
 |true=>rfl
 |false=>grind
def lM(h:a Y=!(ls,Y1))(i:Nat.ble ls.length 1000=G)(j:ls.map Lc.pv=ps):bO a Y=!(Zs (R ps),Y1):=by subst j;unfold bO;rw[h,bo,av (by simpa using i)]
def cM(h:a Y=!(ls,Y1))(i:Nat.ble ls.length 1000=G)(j:ls.map Lc.pv=ps):aX a Y=!(Zp (ZB ps),Y1):=by subst j;unfold aX;rw[h,bo,av (by simpa using i)]
def dW(h1:fa Y=!(l,Y1))(j:l.pv=p)(h2:fb Y1=!(m,Y2))(i:m.pv=q)(z:∀n,p≠ZA n)(D:qe p q=!r):aJ fa fb Y=!(r,Y2):=by
 subst j i;unfold aJ;rw[h1,bo,h2,bo];split
 . grind
 . grind
def Ut(h1:fa Y=!(l,Y1))(q:l.pv=ZA n)(h2:fb Y1=!(m,Y2))(i:m.pv=ZI k)(z:Y2.mu[n]?=!(!(R ws)))(j:fY ws k=!p):aJ fa fb Y=!(Zp p,Y2):=by unfold aJ;grind
def rQ(h0:Y.vs[i]?=!(!(Zs (R ws0))))(h:fa Y=!(l,Y1))(hp:l.pv=p)(h1:Y1.vs[i]?=!(!(Zs (R ws))))(hz:ws.length<100000)(e:Y1.set i (!(Zs (R (ws++[p]))))=Y'):jM i fa Y=!(.nx Y'):=by subst hp;unfold jM;grind
def jN(h0:Y.vs[i]?=!(!(Zs (R ws0))))(h:fa Y=!(l,Y1))(hp:l.pv=R ps)(h1:Y1.vs[i]?=!(!(Zs (R ws))))(hz:ws.length+ps.length<=100000)(e:Y1.set i (!(Zs (R (ws++ps))))=Y'):fQ i fa Y=!(.nx Y'):=by unfold fQ;grind
def PU(h:fv Y=!(x,Y1))(PY:x.pv=p)(h0:Y1.vs[i]?=!(!(Zs (R ws0))))(h2:fi Y1=!(y,Y2))(hy:y.pv=ZI k)(h1:Y2.vs[i]?=!(!(Zs (R ws))))(hj:ur ws.length k=!j)(e:Y2.set i (!(Zs (R (ws.set j p))))=Y'):Bc i fi fv Y=!(.nx Y'):=by subst PY;unfold Bc;rw[h,bo];rw[h0];rw[h2,bo,hy];rw[h1];show (ur ws.length k).map _=_;rw[hj,iS,e]
def dZ(h:F Y=!(xs,Y1))(h2:fG B body xs Y1=ZN):fH F B body Y=ZN:=(PH h).trans h2
def Uu(h:fa Y=!(l,Y1))(i:l.pv=p)(h2:ZT p=!xs):dG fa ZT Y=!(xs,Y1):=by subst i;show dM h h2
end
section
variable {X:Cx}
noncomputable def nP (f:EF):EF:=λY=>(f Y).bind λx=>match x.1 with
 |Zs p=>!(Zp (ZA x.2.mu.length),#[x.2.vs,x.2.mu++[!p]])
 |_=>J
def Ex(h:PE X e (tP X.K f)):PE X e (tP X.K (nP f)):=PE.imp h λU H Q q=>by
 let(H0,Z0,Y,pd,l,Y',s,f,k):=q;let(x,h1,h2):=bm f;show#[H0,Z0,Y,pd,x.1,x.2,s,h1,λv H1 N=>?_];split at h2
 . rename_i p ep;cases h2;rw[ep]at N;let(W,Z,hg,z,j):=N.top;let(a,ea,ra,za,nk):=j.1 _ bi;let i:=d_ ea;subst i;have F:ig Z #[Z.z,Z.g++[a]]:=#[eQ.refl _,n5 _ _];let D:=j.step F λe he b hb=>#[O,(jg j he hb).1];show k _ H1 (.mk (Z:=#[Z.z,Z.g++[a]]) W ∅ #[z.zh,z.h0,z.z0.trans F,z.new] (ag.consS ?_ ?_))
   . show D.perm ?_;have ec:cel (Z.g++[a]) (x.2.mu++[!p])=cel Z.g x.2.mu++[(!(.ref a),!(Zs p))]:=by unfold cel;rw[cy,cy,kl ∅];rfl
     show List.Perm (cel (Z.g++[a]) (x.2.mu++[!p])++_) _;rw[ec,cw];show eM
   . show#[a,O,by show (Z.g++[a])[x.2.mu.length]?=!a;rw[hg,fy (bv _)];simp]
 . cases h2
noncomputable def openV (i:Nat) (Y:Ev):Option Ev:=match Y.vs[i]? with
 |some (!(Zp (ZA n)))=>match Y.mu[n]? with
  |some (!p)=>!#[Y.vs.set i (!(Zs p)),Y.mu.set n J]
  |_=>J
 |_=>J
def Bd(i:Nat)(f:SF):SF:=λY=>(f Y).bind λfl=>match fl with
 |.nx Y'=>(openV i Y').map .nx
 |_=>J
theorem SR.openV(s:SR K H0 Z0 U H Y pd)(h:PL.openV i Y=!Y'):SR K H0 Z0 U H Y' pd:=by
 unfold PL.openV at h;split at h
 . rename_i n en;split at h
   . rename_i p D;cases h;let(v,F,z):=s.var en;let(a,rfl,Q):=z.cellO D;let N:=SR.sub Q ((eH _ _).cons_cons _);let hi:=(de.mp en).1;let j:=N.store (by show i<(Y.vs.set i _).length;rw[mf];show hi);rw[i9 F]at j;have e:(#[(Y.vs.set i (!(Zp (ZA n)))).set i (!(Zs p)),Y.mu.set n J]:Ev)=#[Y.vs.set i (!(Zs p)),Y.mu.set n J]:=by rw[hZ]
     have q:SR K H0 Z0 U H #[(Y.vs.set i (!(Zp (ZA n)))).set i (!(Zs p)),Y.mu.set n J] pd:=j;rw[e]at q;show q
   . cases h
 . cases h
def PK{st:Stmt}(h:PS X st (ik X.K f)):PS X st (ik X.K (Bd i f)):=PS.imp h λD U H q=>by
 let(H0,Z0,Y,pd,fl,s,h,k):=q;let(y,h1,h2):=bm h;cases y with
 |nx Y'=>
  let(Y2,j,rfl):=cr h2;show#[H0,Z0,Y,pd,.nx Y',s,h1,λz H' s'=>k z H' (s'.openV j)]
 |rt r Y'=>cases h2
 |bk Y'=>cases h2
 |ct Y'=>cases h2
def vH(f:EF)(lo hi:OF):EF:=λY=>(f Y).bind λx=>(lo x.2).bind λy=>(hi y.2).bind λz=>match x.1.pv with
 |R ps=>!(Zs (R (xU ps y.1 z.1)),z.2)
 |ZH t=>if t.length<=100000 then !(Zp (ZH (lF t y.1 z.1)),z.2) else J
 |_=>J
def v6{lo hi:Option Expr}(he:PE X e (tP X.K f))(hl:PO X lo (Et X.K fl))(hu:PO X hi (Et X.K fh)):PE X (.Subscript e (.Slice lo hi J p2) pos) (tP X.K (vH f fl fh)):=PE.imp (J7 (Zm.or LN) he hl hu) λU H Q q=>by
 let(H0,Z0,Y,pd,r,Y',s,h,k):=q;let(x,h1,h2):=bm h;let(y,h3,h4):=bm h2;let(z,h5,D):=bm h4;show#[H0,Z0,Y,pd,x.1,x.2,s,h1,λv H1 s1=>#[H0,Z0,x.2,_,y.1,y.2,s1.freeze,h3,λH2 s2=>#[H0,Z0,y.2,_,z.1,z.2,s2,h5,λH3 i=>?_]]];cases e:x.1.pv with
 |lst ps=>
  rw[e]at D i;cases D;let(W,Z,hg,N,F,s4):=i.sh;let(a,vs,rfl,g1,g2):=F;show Zl #[a,vs,O,bV.same N.zh g1,λp hp=>k _ _ ?_];let(z',s'):=s4.new (p:=R (xU ps y.1 z.1)) N hp #[_,bU,g2.cut];show .mk W hg z' s'
 |str t=>
  rw[e]at D i;have j:(if t.length<=100000 then !(Lc.sh (ZH (lF t y.1 z.1)),z.2) else J)=!(r,Y'):=D;split at j
  . rename_i hz;cases j;let(_,F):=i.repH;show YY #[t,F,d5 hz,k _ H3 (i.pop.scal oR)]
  . grind
 |_=>grind
def SR.popO(s:SR K H0 Z0 U H Y ((.ref a,Zs (R ws))::pd))(hp:ws[ws.length-1]?=!p):
 ∃i y,H a=!(.lst i)/\i[i.length-1]?=!y/\SR K H0 Z0 U (aS H a (.lst i.dropLast)) Y ((.ref a,Zs (R ws.dropLast))::(y,Zp p)::pd):=by
 let(N,Z,hg,z,F):=s.top;let(b,eb,(i,hu,j),_):=F.1 _ bi;cases eb;let(y,hy,Q):=j.get hp;let D:=j.length;show#[i,y,hu,by rw[D];show hy,?_];have W:aK K Z ws.dropLast i.dropLast:=by rw[List.dropLast_eq_take,List.dropLast_eq_take,D];show j.take _
 let(z',s'):=F.write (q:=R ws.dropLast) z #[i.dropLast,bU,W];let s2:=(s'.consS Q).perm (List.Perm.swap (!y,!(Lc.sh p)) (!(V.ref a),!(Lc.own (R ws.dropLast))) _);show .mk N hg z' (s2.perm (dj.cons _))
def PN(K:FG):V->List V->Hp->VK->Prop:=λx vs H Q=>∃g p qs w,vs=[w]/\ba K #[H,g] p w/\ba K #[H,g] (R qs) x/\sV (dm 150) p qs=!G/\qs.length<=100000/\Q (.int (qs.findIdx λq=>(dm 150 q p).getD M)) H
def W5(hr:qm k X.A):Om X "list.index" (PN X.K):=by
 intro ae s U H x W v us Q I rx rv h;let(g,p,D,w,rfl,rp,rq,e,hz,q):=h;have hA:X.A.in1.units+150<cLine:=by have:=hr.un;show X.A.units+1+150<cLine;lia
 let(u,rfl,ru):=rv.one;let(i1,i2):=Gx e;let(a,W,i,rfl,q1,l1,j,t1):=zN I rq rx;have hl:i.length=D.length:=by rw[<-j.length,l1.length]
 let tz:=List.any_eq_true.mp i2.symm;let hj:=List.findIdx_lt_length.mpr tz;have z:∀m (N:m<i.toArray.size),c9 X.K #[H,g] p D W i i.toArray[m]=(dm 150 (D[m]'(by rw[eP]at N;lia)) p).getD M:=λm N=>by
  have hm':m<i.length:=by simpa using N
  show CV (xv:=w) (xu:=u) I l1 j i1 (et ()) (by simp)
 let((oc,od,oD,os),ht,hc,n,hd):=t1;let qE:= hc;let PZ:=hd;subst qE PZ;show call_meets F.slot_list_index #[_,ht,O] F.entry_list_index (F.args_list_index_2 _ _) (SeqAt.list_indexAt a i.toArray n od os u (c9 X.K #[H,g] p D W i) (D.findIdx λq=>(dm 150 q p).getD M) ∅ () ?_ ?_) #[ht,CZ I rp ru l1 j i1 hA,?_]
 . rw[z];show List.findIdx_getElem (w:=hj)
 . intro m N i6;rw[z];have:=List.not_of_lt_findIdx i6;simpa using this
 . show#[.int _,H,I.tok _,#[_,O],q]
def Lq(f g:EF):EF:=λY=>(f Y).bind λx=>(g x.2).bind λy=>match x.1.pv with
 |R qs=>if sV (dm 150) y.1.pv qs=!G/\qs.length<=100000 then !(Zp (ZI (qs.findIdx λq=>(dm 150 q y.1.pv).getD M)),y.2) else J
 |_=>J
def P1(h:PE X (.Call (.Attribute o "index" apos) [e] [] cpos) (J9 X.K "list" (PN X.K) (tP X.K f) (jH X.K (aa g ao)))):PE X (.Call (.Attribute o "index" apos) [e] [] cpos) (tP X.K (Lq f g)):=PE.imp h λU H Q q=>by
 let(H0,Z0,Y,pd,r,Y',s,h,k):=q;let(x,h1,h2):=bm h;let(y,h3,D):=bm h2;show#[H0,Z0,Y,pd,x.1,x.2,s,h1,λv H1 s1=>?_];let j:=s1.freeze;cases e:x.1.pv with
 |lst z=>
  rw[e]at D j;have i:(if sV (dm 150) y.1.pv z=!G/\z.length<=100000 then !(Lc.sh (ZI (z.findIdx λq=>(dm 150 q y.1.pv).getD M)),y.2) else J)=!(r,Y'):=D;split at i
  . rename_i N;cases i;let(_,r1):=j.repH;let F:=r1;let(a,us,rfl,hq,_):=F;show#[Zl #[O,us,hq],H0,Z0,x.2,_,[y.1],y.2,j,?_,λvs H2 e2 s2=>?_]
    . unfold aa ao;rw[h3];rfl
    . let(w,rfl):=yI e2;let W:=SR.freeze s2;let(g,ra,rb):=W.rep2H;show#[g,y.1.pv,z,w,O,rb,ra,N.1,N.2,k _ H2 (W.pop.pop.scal gK)]
  . cases i
 |_=>rw[e]at D;cases D
def tO(ps:List PV):List PV:=ps.zipIdx.map λx=>ZB [ZI (x.2:Nat),x.1]
def Uv{ps:List PV}{i:Nat}:(tO ps)[i]?=ps[i]?.map λp=>.tup [.int (i:Nat),p]:=by unfold tO;rw[c8,List.getElem?_zipIdx];cases ps[i]?<;>simp
def Uw:(tO ps).length=ps.length:=by unfold tO;simp
def Ux:qD K H0 Z0 ((.ref a,Zp (R ps))::pd) (sj K a) (tO ps):=by intro U H Y i s;let(W,Z,hg,z,r,so):=s.sh;let r0:=r;let(b,j,e,h1,h2):=r;cases e;let D:=bV.same z.zh h1;show#[λx F=>?_,λhl=>#[j,D,by rw[h2.length];rw[Uw]at hl;lia]];rw[Uv]at F;let(p,hp,rfl):=cr F;let(v,Q,rv):=h2.get hp;show#[#[j,v,D,Q],λv' H' y=>?_];let(T,y,hT,rfl,rfl,hy):=y;let N:=hy j D;rw[Q]at N;cases N;let(z',lz,q):=(so.consS r0).newF z hT;show .mk (Z:=Z.put T (.tup [.int (i:Nat),v])) W hg z' (ag.perm (ag.consS q ?_) (dj.cons _));show#[T,[.int (i:Nat),v],O,Zl (Zl (by show aS Z.z T _ T=_;rw[bU])),aK.cons (gK _) (aK.cons (rv.mono lz) .nil)]
def uA(f:EF):IF:=λY=>(f Y).bind λx=>match x.1.pv with
 |R ps=>!(tO ps,x.2)
 |_=>J
def Be{eK:List Expr}{x1}(hg:Gl X "enumerate")(hm:X.mg "enumerate"=J)(W:PA X [a] (jH X.K (aa f ao)))(hs:starEach [a] X.env=[(M,eval a X.env)]:=by rfl):PI X (.Tuple eK x1 tpos) (.Call (.Name "enumerate" p) [a] [] pos) (HR X.K (uA f)):=PI.imp (Zv hg hm W hs) λU H ZN q=>by
 let(H0,Z0,Y,pd,xs,Y',s,h,k):=q;let(x,h1,h2):=bm h;show#[H0,Z0,Y,pd,[x.1],x.2,s,?_,λvs H1 F N=>?_]
 . unfold aa ao;grind
 . let(v,rfl):=yI F;let i:=SR.freeze N;cases e:x.1.pv with
   |lst ps=>
    rw[e]at h2 i;cases h2;let(Z,z,r):=i.rep;let(b,Q,rfl,j,D):=r;show#[b,O,#[Q,bV.same z j],k _ _ _ i Ux (eH _ _)]
   |_=>grind
abbrev PD:=List (da×PV)
noncomputable def iy:PD->da->Option PV
 |[],_=>J
 |kv::r,k=>if kv.1=k then !kv.2 else iy r k
noncomputable def vf (k:da) (v:PV):PD->PD
 |[]=>[]
 |kv::r=>(if kv.1=k then (kv.1,v) else kv)::vf k v r
def uB(l:PD)(k:da)(v:PV):PD:=match iy l k with
 |some _=>vf k v l
 |none=>l++[(k,v)]
def Lr:PV->Option da
 |ZI i=>!(.inl i)
 |ZH x=>!(.inr x)
 |_=>J
def mQ(l:PD):PV:=.dk (l.map (·.1)) (l.map (·.2))
def jt(K:FG)(Z:ZG):PD->List (da×V)->Prop:=Paired λp q=>p.1=q.1/\ba K Z p.2 q.2
section
variable {K:FG}{Z Z':ZG}
theorem uf:∀{i:List (da×V)}{ks:List da}{ps:List PV},i.map (·.1)=ks->aK K Z ps (i.map (·.2))->jt K Z (ks.zip ps) i
 |[],ks,ps=>λh1 h2=>by subst h1;show .nil
 |F::r,ks,ps=>λh1 h2=>by
  subst h1;cases ps with
  |nil=>have:=h2.inv0;grind
  |cons p ps=>
   let(v,N,e,j,z):=h2.inv;injection e with D q;subst D q;show .cons #[O,j] (uf O z)
theorem jt.keys:∀{l:PD}{i:List (da×V)},jt K Z l i->i.map (·.1)=l.map (·.1)
 |_,_,.nil=>rfl
 |_,_,.cons h t=>by rw[dE,dE,h.1,jt.keys t]
theorem jt.vals:∀{l:PD}{i:List (da×V)},jt K Z l i->aK K Z (l.map (·.2)) (i.map (·.2))
 |_,_,.nil=>.nil
 |_,_,.cons h t=>aK.cons h.2 (jt.vals t)
theorem jt.val:∀{l:PD}{i:List (da×V)},jt K Z l i->(∀p,iy l k=!p->∃v,qu i k=!v/\ba K Z p v)/\(iy l k=J->qu i k=J)
 |_,_,.nil=>#[λp h=>(by cases h),λ_=>O]
 |p::l,q::i,.cons h t=>by
  let D:=jt.val (k:=k) t;by_cases e:p.1=k
  . have j:q.1=k:=by rw[<-h.1];show e
    show#[λx z=>#[q.2,xf j,?_],λz=>?_]
    . unfold iy at z;grind
    . unfold iy at z;grind
  . have j:¬ q.1=k:=by rw[<-h.1];show e
    rw[xg j];unfold iy;grind
theorem jt.repl(r:ba K Z p v):∀{l:PD}{i:List (da×V)},jt K Z l i->jt K Z (vf k p l) (i.map λj=>if j.1=k then (j.1,v) else j)
 |_,_,.nil=>.nil
 |a::l,b::i,.cons h t=>by
  show .cons ?_ (jt.repl r t);by_cases e:a.1=k
  . have q:b.1=k:=by rw[<-h.1];show e
    grind
  . have q:¬ b.1=k:=by rw[<-h.1];show e
    grind
theorem jt.app:∀{l q:PD}{j i:List (da×V)},jt K Z l j->jt K Z q i->jt K Z (l++q) (j++i)
 |_,_,_,_,.nil=>λh=>h
 |_,_,_,_,.cons a t=>λh=>.cons a (jt.app t h)
def jt.put(h:jt K Z l a_)(r:ba K Z p v):jt K Z (uB l k p) (dP a_ k v):=by
 let j:=h.val (k:=k);unfold uB;cases e:iy l k with
 |none=>
  rw[V6 v (j.2 e)];show h.app (.cons #[O,r] .nil)
 |some q=>
  let(u,z,_):=j.1 q e;have D:dP a_ k v=a_.map λi=>if i.1=k then (i.1,v) else i:=by unfold dP;rw[xj,z];rfl
  rw[D];show h.repl r
def GD(h:Lr p=!k)(r:ba K Z p v):v=kV k:=by
 cases p with
 |int i=>cases h;show cg r
 |str x=>cases h;show dC r
 |_=>cases h
end
def tI(fa fb:EF):EF:=λY=>(fa Y).bind λx=>(fb x.2).bind λy=>match x.1.pv with
 |.dk ks ps=>(Lr y.1.pv).bind λk=>(iy (ks.zip ps) k).map λp=>(Zp p,y.2)
 |.df ks ps=>(Lr y.1.pv).bind λk=>(iy (ks.zip ps) k).map λp=>(Zp p,y.2)
 |_=>aJ (λ_=>!x) (λ_=>!y) Y
def P2(hy:y.2=Y)(i:SR X.K H0 Z0 U H Y ((w,Zp y.1.pv)::(v,Zp x.1.pv)::pd))(h:aJ (λ_=>!x) (λ_=>!y) Y0=!(l,Y'))(k:∀u H',SR X.K H0 Z0 U H' Y' ((u,l)::pd)->Q u H'):rh X.K v w H Q:=by
 unfold aJ at h;rw[bo,bo]at h;subst hy;split at h
 . rename_i n kk en ek;split at h
   . rename_i ws N;let(p,F,D):=cr h;cases D;rw[en,ek]at i;let(_,q):=i.repH;let ew:=cg q;let(a,rfl,s5):=i.pop.cellO N;let(el,Z,hg,z,W):=s5.top;let(_,ea,(us,hu,hr),_):=W.1 _ bi;cases ea;let(j,e1,e2):=Bb F hr.length;let(u,e3,e4):=hr.get e1;show Zl #[a,us,kk,u,O,ew,bV.of hu,e2 u e3,k u H ?_];have s6:SR X.K H0 Z0 U H #[y.2.vs,y.2.mu.set n J] ((u,Zp p)::(.ref a,Zs (R ws))::(.ref a,Zp (ZA n))::pd):=.mk el hg z ((W.perm dj).consS e4);let hn:=(de.mp N).1;let s7:=s6.perm (((List.Perm.swap _ _ _).cons _).trans (List.Perm.swap _ _ _));let s8:=s7.cellP ∅;have e8:(y.2.mu.set n J).set n (!(R ws))=y.2.mu:=by rw[hZ];show i9 N
     let s9:=s8;rw[e8]at s9;show s9
   . cases h
 . let(l',F,D):=cr h;cases D;show Um H0 Z0 U y.2 pd H v w x.1.pv y.1.pv _ Q i F k
def P4(hu:X.A.units+1<cLine)(ha:PE X a (tP X.K fa))(hb:PE X b (tP X.K fb))(hm:An b):PE X (.Subscript a b pos) (tP X.K (tI fa fb)):=PE.imp (Rc (SX.or (Zw hu)) ha hb hm) λU H Q q=>by
 let(H0,Z0,Y,pd,l,Y',s,f,k):=q;let(x,h1,h2):=bm f;let(y,h3,h4):=bm h2;show#[H0,Z0,Y,pd,x.1,x.2,s,h1,λv H1 s1=>#[H0,Z0,x.2,_,y.1,y.2,s1,h3,λw H2 s2=>?_]];let s3:=s2.freeze.swap.freeze.swap;split at h4
 . rename_i ks ps en;let(kk,h5,h6):=bm h4;let(p,h7,h8):=cr h6;cases h8;let(_,F):=s3.repH;let ew:=GD h5 F;let i:=s3.pop;rw[en]at i;let(Z,z,r):=i.rep;let(b',D,rfl,g1,g2,g3):=r;let(u,N,ru):=(uf g2 g3).val.1 p h7;let e1:=z _ _ g1;show YY #[b',u,O,Zl #[D,kk,Zl e1,ew,N.symm],k u H2 ?_];show(i.part λZ' z' r'=>?_).sub ((eH _ _).cons_cons _);let(b2,kvs2,eb,j,W,tJ):=r';cases eb;let e2:=z' _ _ j;rw[e1]at e2;cases e2;let(u2,P5,P6):=(uf W tJ).val.1 p h7;grind
 . rename_i ks ps en;let(kk,h5,h6):=bm h4;let(p,h7,h8):=cr h6;cases h8;let(_,F):=s3.repH;let ew:=GD h5 F;let i:=s3.pop;rw[en]at i;let(Z,z,r):=i.rep;let(b',ob,D,rfl,g1,g2,g3):=r;let(u,N,ru):=(uf g2 g3).val.1 p h7;let e1:=z _ _ g1;show YY #[b',u,O,Zl #[D,kk,YY #[ob,e1],ew,N.symm],k u H2 ?_];show(i.part λZ' z' r'=>?_).sub ((eH _ _).cons_cons _);let(b2,ob2,kvs2,eb,j,W,tJ):=r';cases eb;let e2:=z' _ _ j;rw[e1]at e2;cases e2;let(u2,P5,P6):=(uf W tJ).val.1 p h7;grind
 . show Zl (P2 O s3 h4 k)
def SR.takeD(s:SR K H0 Z0 U H Y pd)(e:Y.vs[i]?=!(!(Zs (.dk ks ps)))):
 ∃a,U[i]?=!(!(.ref a))/\SR K H0 Z0 U H (Y.set i J) ((.ref a,Zs (.dk ks ps))::pd):=by
 let(v,F,j):=s.take e;let(_,Z,_,z,q):=j.top;let(a,D,_):=q.1 _ bi;grind
def SR.setD(s:SR K H0 Z0 U H Y ((v,Zp p)::(.ref a,Zs (.dk ks ps))::pd)):
 ∃i,H a=!(.dK i)/\i.length=ks.length/\SR K H0 Z0 U (aS H a (.dK (dP i k v))) Y ((.ref a,Zs (mQ (uB (ks.zip ps) k p)))::pd):=by
 let(D,Z,N,z,r,F):=s.sh;let j:=F.perm dj.symm;let(_,eb,(i,hu,hk,W),_):=j.1 _ bi;cases eb;show#[i,hu,by rw[<-hk,bq],?_];let d:=(uf hk W).put (k:=k) r;let(Q,s'):=j.write (q:=mQ (uB (ks.zip ps) k p)) z #[dP i k v,bU,d.keys,d.vals];show .mk D N Q s'
def Ey(i:Nat)(fi fv:EF):SF:=λY=>(fv Y).bind λx=>match x.2.vs[i]? with
 |some (!(Zs (.dk _ _)))=>(fi x.2).bind λy=>match Lr y.1.pv,y.2.vs[i]? with
  |some k,!(!(Zs (.dk ks ps)))=>if ks.length<100000 then !(.nx (y.2.set i (!(Zs (mQ (uB (ks.zip ps) k x.1.pv)))))) else J
  |_,_=>J
 |_=>J
def P7(h:PS X (.Assign [.Subscript o ix tpos] e pos) (QT (tP X.K fv) (VD (um i) (tP X.K fi) Yo))):PS X (.Assign [.Subscript o ix tpos] e pos) (ik X.K (Ey i fi fv)):=PS.imp h λD U H q=>by
 let(H0,Z0,Y,pd,fl,s,h,k):=q;let(x,h1,h2):=bm h;show#[H0,Z0,Y,pd,x.1,x.2,s,h1,λv H1 s1=>?_];split at h2
 . rename_i P8 P9 e0;let(y,h3,z):=bm h2;let(a,Q,_):=s1.takeD e0;show#[.ref a,Q,H0,Z0,x.2,_,y.1,y.2,s1.freeze,h3,λw H2 W=>?_];split at z
   . rename_i kk ks ps ek e3;split at z
     . cases z;let(_,N):=W.freeze.repH;let ew:=GD ek N;let(a',j,s3):=W.pop.takeD e3;rw[Q]at j;cases j;let(F,hu,hl,s4):=s3.swap.setD;show#[a,_,O,Zl #[F,kk,hu,ew,by rw[hl,sizeLine_eq];lia,O],k U _ ?_];let s5:=s4.put Q;rw[Ev.set_set]at s5;show s5
     . cases z
   . cases z
 . cases h2
def nQ(fo fv:EF):SF:=λY=>(fo Y).bind λo=>match o.1.pv with
 |ZA n=>match o.2.mu[n]? with
  |some (!(R _))=>(fv o.2).bind λy=>match y.2.mu[n]? with
   |some (!(R ws))=>if ws.length<100000 then !(.nx #[y.2.vs,y.2.mu.set n (!(R (ws++[y.1.pv])))]) else J
   |_=>J
  |_=>J
 |_=>J
def Bf(h:PS X (.Expr (.Call (.Attribute o "append" apos) [e] [] cpos) pos) (JC (J9 X.K "list" Gn (tP X.K fo) (jH X.K (aa fv ao))))):
 PS X (.Expr (.Call (.Attribute o "append" apos) [e] [] cpos) pos) (ik X.K (nQ fo fv)):=PS.imp h λD U H q=>by
 let(H0,Z0,Y,pd,fl,s,h,k):=q;let(o',h1,h2):=bm h;show#[H0,Z0,Y,pd,o'.1,o'.2,s,h1,λv H1 s1=>?_];split at h2
 . rename_i n en;split at h2
   . rename_i ws0 F;let(y,h3,i):=bm h2;let Q:=s1.freeze;rw[en]at Q;let(a,rfl,s5):=Q.cellO F;let(_,Z,_,z,so):=s5.top;let(_,ea,(us,hu,_),_):=so.1 _ bi;cases ea;show#[Zl #[O,us,bV.of hu],H0,Z0,o'.2,_,[y.1],y.2,Q,?_,λvs H2 e2 sv=>?_]
     . unfold aa ao;grind
     . let(v1,rfl):=yI e2;split at i
       . rename_i ws em;split at i
         . cases i;let s3:=SR.freeze sv;let(a',W,s6):=s3.swap.cellO em;cases W;let s7:=s6.perm ((List.Perm.swap _ _ _).trans ((List.Perm.swap _ _ _).cons _));let(j,N,hl,s8):=s7.pushO;let hn:=(de.mp em).1;let s9:=s8.cellP ∅;show#[a,j,v1,O,O,N,by rw[hl,sizeLine_eq];lia,k U _ ?_];have e8:(y.2.mu.set n J).set n (!(R (ws++[y.1.pv])))=y.2.mu.set n (!(R (ws++[y.1.pv]))):=hZ ..;have s10:SR X.K H0 Z0 U (aS H2 a (.lst (j++[v1]))) #[y.2.vs,(y.2.mu.set n J).set n (!(R (ws++[y.1.pv])))] pd:=s9;grind
         . cases i
       . cases i
   . cases h2
 . cases h2
def Ym:List (V×V)->List V
 |[]=>[]
 |p::r=>p.1::p.2::Ym r
def keysOf:List (Lc×Lc)->Option PD
 |[]=>![]
 |p::r=>(Lr p.1.pv).bind λk=>(keysOf r).map λl=>(k,p.2.pv)::l
def Uy:EF:=λY=>!(Zs (.dk [] []),Y)
def P_:PE X (.Dict [] [] pos) (tP X.K Uy):=PE.imp V9 λU H Q q=>by let(H0,Z0,Y,pd,l,Y',s,f,k):=q;cases f;show λp i=>k _ _ (s.newO i λZ _ _=>#[[],bU,O,.nil])
def oA(f:EF):EF:=λY=>(f Y).bind λx=>match x.1.pv with
 |ZA n=>match x.2.mu[n]? with
  |some (!(R ws))=>!(Zp (ZI (ws.length:Nat)),x.2)
  |_=>J
 |p=>(A5 p).map λl=>(l,x.2)
def W6(h:PE X (.Call (.Name x p) [e] [] pos) (zg (λxs H Q=>∃x n,xs=[x]/\VL X.K x H n/\Q (.int n) H) (jH X.K (aa f ao)))):PE X (.Call (.Name x p) [e] [] pos) (tP X.K (oA f)):=PE.imp h λU H Q q=>by
 let(H0,Z0,Y,pd,l,Y',s,N,k):=q;let(y,h1,h2):=bm N;show#[H0,Z0,Y,pd,[y.1],y.2,s,?_,λvs H1 D F=>?_]
 . unfold aa ao;grind
 . let(v,rfl):=yI D;let i:=SR.freeze F;split at h2
   . rename_i n en;split at h2
     . rename_i ws j;cases h2;rw[en]at i;let(a,rfl,s5):=i.cellO j;let(_,Z,_,z,so):=s5.top;let(_,ea,(W,hu,hr),_):=so.1 _ bi;cases ea;show#[.ref a,ws.length,O,Zl #[W,bV.of hu,hr.length.symm],k _ H1 (i.pop.scal gK)]
     . cases h2
   . let(l',h3,h4):=cr h2;cases h4;show Uo H0 Z0 U y.2 pd H1 [v] [y.1.pv] _ Q O i h3 k
end
open PySem.SeqAt
section
variable {X:Cx}
def qH(ps qs:List PV):List PV:=List.zipWith (λp q=>ZB [p,q]) ps qs
def W7{i:Nat}(h:(qH ps qs)[i]?=!x):∃p q,ps[i]?=!p/\qs[i]?=!q/\x=ZB [p,q]:=by
 unfold qH at h;rw[List.getElem?_zipWith]at h;cases h1:ps[i]? with
 |none=>grind
 |some p=>
  cases h2:qs[i]? with
  |none=>grind
  |some q=>grind
def W8:(qH ps qs).length=min ps.length qs.length:=by unfold qH;simp
def W9:qD K H0 Z0 ((.ref a,Zp (R ps))::(.ref b,Zp (R qs))::pd) (Yp K a b) (qH ps qs):=by
 intro U H Y i s;show xO λZT kG=>?_;let(el,Z,hg,z,rl,so):=SR.repl (vs:=[.ref a,.ref b]) (ls:=[Zp (R ps),Zp (R qs)]) s O;let(_,_,ev,r,rl):=rl;cases ev;let(_,_,ev,r',_):=rl;cases ev;let r0:=r;let W:=r';let(a',D,e,h1,h2):=r;let(b',ws,e',Q,j):=r';cases e;cases e';let N:=bV.same z.zh h1;let F:=bV.same z.zh Q;show kG #[λx hx=>?_,λhl=>#[D,ws,N,F,?_]]
 . show xO λZT kG=>?_;let(p,q,hp,Qr,rfl):=W7 hx;let(v,hv,rv):=h2.get hp;let(u,hu,ru):=j.get Qr;show kG #[#[D,ws,v,u,N,F,hv,hu],λv' H' y=>?_];let(T,y1,y2,hT,rfl,rfl,QA,A7):=y;let e1:=QA D N;rw[hv]at e1;cases e1;let e2:=A7 ws F;rw[hu]at e2;cases e2;let(z',lz,no):=((so.consS W).consS r0).newF z hT;show .mk (Z:=Z.put T (.tup [v,u])) el hg z' (ag.perm (ag.consS no ?_) ((dj.trans (dj.cons _)).cons _));show#[T,[v,u],O,Zl (Zl (by show aS Z.z T _ T=_;rw[bU])),aK.cons (rv.mono lz) (aK.cons (ru.mono lz) .nil)]
 . rw[W8]at hl;rw[h2.length,j.length];lia
def Bg(f g:EF):IF:=λY=>(f Y).bind λx=>(g x.2).bind λy=>match x.1.pv,y.1.pv with
 |R ps,R qs=>!(qH ps qs,y.2)
 |_,_=>J
theorem QI{α:Type}{p q:PV}{w r:α}(h:(match p,q with
 |R ps,R qs=>!(qH ps qs,w)
 | _,_=>J)=!(zs,r)):∃ps qs,p=R ps/\q=R qs/\zs=qH ps qs/\w=r:=by
 split at h
 . rename_i ps qs;cases h;show#[ps,qs,O,O,O,O]
 . cases h
def Uz{p pos:Pos}{eK:List Expr}{x1}{tpos:Pos}(hg:Gl X "zip")(hm:X.mg "zip"=J)(ha:PA X [a,b] (jH X.K (aa f (aa g ao))))(hs:starEach [a,b] X.env=(M,eval a X.env)::starEach [b] X.env:=by rfl)(D:(backTo pos (starEach [b] X.env)).any (·.1)=M:=by rfl):PI X (.Tuple eK x1 tpos) (.Call (.Name "zip" p) [a,b] [] pos) (HR X.K (Bg f g)):=PI.imp (L3 hg hm ha hs D) λU H ZN q=>by
 let(H0,Z0,Y,pd,xs,Y',s,h,k):=q;let(x,h1,h2):=bm h;let(y,h3,h4):=bm h2;show#[H0,Z0,Y,pd,[x.1,y.1],y.2,s,?_,λvs H1 W s1=>?_]
 . unfold aa ao;rw[h1];simp only[bo,h3,iS]
 . show xO λZT kG=>?_;let(v,u,rfl):=ng W;have j:SR X.K H0 Z0 U H1 y.2 ((v,Zp x.1.pv)::(u,Zp y.1.pv)::pd):=SR.freezeAll s1;let(ps,qs,e,N,rfl,rfl):=QI h4;rw[e,N]at j;let(Z,z,r,r'):=j.rep2;let(F,us,rfl,i,g2'):=r;let(a',Q,rfl,g1,g2):=r';show kG #[a',F,O,#[_,bV.same z g1],#[_,bV.same z i],k _ _ _ j W9 ((eH _ _).cons _)]
end
end PL
namespace L2
open PL.PV renaming lst→R,int→ZI,str→ZH,tup→ZB,ptr→ZA
open PL.Lc renaming own→Zs,sh→Zp
open PySem PySem.Spec PyProof.Rows
variable {ae:List (Addr×Obj)}{E:Value->Shared->Prop}{s:Shared}{A:Around}{w:World}{P:Program}
end L2
namespace PL
open PL.PV renaming lst→R,int→ZI,str→ZH,tup→ZB,ptr→ZA
open PL.Lc renaming own→Zs,sh→Zp
open PySem PySem.Spec PyProof.Rows L2
variable {K:FG}{H0 H:Hp}{Z0:ZG}{U:L2.St}{Y:Ev}{pd:Pd}
def v7(a b:Str):Prop:=ltCps b.cps.toList a.cps.toList=M
def mC:v7 a b ↔ a.cps.toList<=b.cps.toList:=by unfold v7;rw[ltCps_eq,decide_eq_false_iff_not];show Iff.rfl
theorem zU:∀(p:Str)(l:List Str),risingS p l=G->(p::l).Pairwise v7
 |p,[],_=>by simp
 |p,x::r,h=>by
  have h':(not (ltCps x.cps.toList p.cps.toList)&&risingS x r)=G:=h;simp only[gt,Bool.not_eq_true']at h';let j:=zU x r h'.2;let q:=h'.1;show List.pairwise_cons.mpr #[λy i=>?_,j];obtain rfl|i:=aT.mp i
  . show q
  . show mC.mpr (List.le_trans (mC.mp q) (mC.mp (List.rel_of_pairwise_cons j i)))
theorem UG:∀{l:List Str},sortedS l=G->l.Pairwise v7
 |[],_=>.nil
 |x::r,h=>zU x r h
def QL{a b:Str}(h:a.cps.toList=b.cps.toList):a=b:=by obtain⟨⟨b⟩⟩:=b;cases h;rfl
def UJ{a b:List Str}(p:a.Perm b)(i:a.Pairwise v7)(j:b.Pairwise v7):a=b:=
 List.Perm.eq_of_pairwise (λx y _ _ h1 h2=>QL (List.le_antisymm (mC.mp h1) (mC.mp h2))) i j p
noncomputable def Dd (x:Str):List Str->List Str
 |[]=>[x]
 |y::l=>if ltCps x.cps.toList y.cps.toList then x::y::l else y::Dd x l
def pG:List Str->List Str
 |[]=>[]
 |x::l=>Dd x (pG l)
theorem zV{x:Str}:∀{l:List Str},(Dd x l).Perm (x::l)
 |[]=>.rfl
 |y::l=>by
  unfold Dd;split
  . show .rfl
  . show(zV.cons y).trans (.swap _ _ _)
theorem PP:∀{l:List Str},l.Pairwise v7->(Dd x l).Pairwise v7
 |[]=>λ_=>by simp[Dd]
 |y::l=>λh=>by
  let(h1,h2):=List.pairwise_cons.mp h;unfold Dd;split
  . rename_i g;rw[ltCps_eq,decide_eq_true_eq]at g;let j:=mC.mpr (List.le_of_lt g);show List.pairwise_cons.mpr #[λz i=>?_,h];obtain rfl|i:=aT.mp i
    . show j
    . show mC.mpr (List.le_trans (mC.mp j) (mC.mp (h1 z i)))
  . rename_i g;show List.pairwise_cons.mpr #[λz i=>?_,PP h2];obtain rfl|i:=aT.mp (zV.mem_iff.mp i)
    . simpa [v7] using g
    . show h1 z i
theorem tQ:∀{l:List Str},(pG l).Perm l
 |[]=>.rfl
 |x::l=>zV.trans (tQ.cons x)
theorem Ls:∀{l:List Str},(pG l).Pairwise v7
 |[]=>.nil
 |x::l=>PP Ls
def Xb(p:t.Perm ss)(h:sortedS t=G):t=pG ss:=UJ (p.trans tQ.symm) (UG h) Ls
def uC:List Str->List Str
 |[]=>[]
 |x::l=>if x∈l then uC l else x::uC l
theorem zW:∀{l:List Str},y∈uC l ↔ y∈l
 |[]=>Iff.rfl
 |x::l=>by
  unfold uC;split
  . rename_i h;rw[zW,aT];show#[YY,λq=>q.elim (λe=>e▸h) id]
  . rw[aT,aT,zW]
theorem De:∀{l:List Str},(uC l).Nodup
 |[]=>.nil
 |x::l=>by
  unfold uC;split
  . show De
  . rename_i h;show f6.mpr #[λq=>h (zW.mp q),De]
theorem Ez:∀{a b:List Str},a.Nodup->b.Nodup->(∀y,y∈a ↔ y∈b)->a.Perm b
 |[],b=>λ_ _ h=>by
  have:b=[]:=List.eq_nil_iff_forall_not_mem.mpr λy i=>by have:=(h y).mpr i;cases this
  rw[this]
 |x::a,b=>λj D h=>by
  let(h1,h2):=f6.mp j;let z:=(h x).mp bi;let p:=List.perm_cons_erase z;show((Ez h2 ∅ λy=>?_).cons x).trans p.symm;rw[D.mem_erase_iff];constructor
  . intro i;show#[λe=>h1 (e▸i),(h y).mp (cv _ i)]
  . rintro⟨n,i⟩;obtain e|q:=aT.mp ((h y).mpr i)
    . show absurd e n
    . show q
def Xc(n:t.Nodup)(m:∀y,y∈t ↔ y∈ss)(h:sortedS t=G):t=pG (uC ss):=Xb (Ez n De λy=>(m y).trans zW.symm) h
def Bh:List PV->Option (List Str)
 |[]=>![]
 |ZH x::ps=>(Bh ps).map (x::·)
 |_::_=>J
theorem Ib:∀{ps:List PV}{vs:List V}{i:List Str},Bh ps=!i->aK K Z ps vs->vs=i.map V.str
 |[],vs,i=>λh r=>by cases h;show r
 |p::ps,vs,i=>λh r=>by
  let(v,D,rfl,h1,h2):=r;cases p with
  |str x=>
   let(t,z,j):=cr h;cases j;rw[Ib z h2];rw[h1];rfl
  |_=>cases h
theorem Lw:∀{i:List Str},aK K Z (i.map PV.str) (i.map V.str)
 |[]=>by  rfl
 |x::i=>#[.str x,i.map V.str,O,by unfold ba;rfl,Lw]
section
variable {X:Cx}
def xZ(f:EF):EF:=λY=>(f Y).bind λx=>match x.1.pv with
 |R ps=>(Bh ps).bind λss=>if ss.length<64 then !(Zs (R ((pG (uC ss)).map PV.str)),x.2) else J
 |_=>J
def UL(h:PE X (.Call (.Name "sorted" p) [.Call (.Name "set" p') [e] [] pos'] [] pos) (zg (Tq X) (JF (zg (zv X) (jH X.K (aa f ao))) J4))):PE X (.Call (.Name "sorted" p) [.Call (.Name "set" p') [e] [] pos'] [] pos) (tP X.K (xZ f)):=PE.imp h λU H Q q=>by
 let(H0,Z0,Y,pd,l,Y',s,h,k):=q;let(x,h1,h2):=bm h;show#[H0,Z0,Y,pd,[x.1],x.2,s,?_,λvs H1 e1 s1=>?_]
 . unfold aa ao;rw[h1];rfl
 . let(v,rfl):=yI e1;let N:=SR.freeze s1;cases e:x.1.pv with
   |lst ps=>
    rw[e]at h2 N;let(i,g1,j):=bm h2;split at j
    . rename_i hl;cases j;let(el,Z,hg,z,r,so):=N.sh;let(a,us,rfl,r1,r2):=r;let eu:=Ib g1 r2;subst eu;show#[a,i,O,bV.same z.zh r1,(),λb hb=>?_];let(z',lz,F):=so.newF z hb;show#[b,i,O,bU,hl,λc W hc n m D=>k _ _ ?_];rw[Xc n m D];let(z2,s3):=F.new (p:=R ((pG (uC i)).map PV.str)) z' hc #[_,bU,Lw];show .mk (Z:=Z.put b (.ext (Kq X.prog X.w b i))) el hg z2 s3
    . cases j
   |_=>rw[e]at h2;cases h2
def SR.ext(s:SR K H0 Z0 U H Y pd)(F:H l=J):SR K H0 Z0 U (aS H l o) Y pd:=by let(j,Z,D,z,q):=s;let(N,Q,i):=q.newF z F;show#[j,Z.put l o,D,N,i]
abbrev FD:=List (Str×PV)
noncomputable def rm:FD->Str->Option PV
 |[],_=>J
 |kv::r,k=>if kv.1=k then !kv.2 else rm r k
noncomputable def rB (f:Str) (p:PV):FD->FD
 |[]=>[(f,p)]
 |kv::r=>if kv.1=f then (kv.1,p)::r else kv::rB f p r
def fV(C:Str)(l:FD):PV:=.obj C (l.map (·.1)) (l.map (·.2))
def pH(K:FG)(Z:ZG):FD->List (Str×V)->Prop:=Paired λp q=>p.1=q.1/\ba K Z p.2 q.2
section
variable {K:FG}{Z Z':ZG}
theorem GJ:∀{i:List (Str×V)}{ks:List Str}{ps:List PV},i.map (·.1)=ks->aK K Z ps (i.map (·.2))->pH K Z (ks.zip ps) i
 |[],ks,ps=>λh1 h2=>by subst h1;show .nil
 |F::r,ks,ps=>λh1 h2=>by
  subst h1;cases ps with
  |nil=>have:=h2.inv0;grind
  |cons p ps=>
   let(v,N,e,j,z):=h2.inv;injection e with D q;subst D q;show .cons #[O,j] (GJ O z)
theorem pH.keys:∀{l:FD}{i:List (Str×V)},pH K Z l i->i.map (·.1)=l.map (·.1)
 |_,_,.nil=>rfl
 |_,_,.cons h t=>by rw[dE,dE,h.1,pH.keys t]
theorem pH.vals:∀{l:FD}{i:List (Str×V)},pH K Z l i->aK K Z (l.map (·.2)) (i.map (·.2))
 |_,_,.nil=>.nil
 |_,_,.cons h t=>aK.cons h.2 (pH.vals t)
theorem pH.look:∀{l:FD}{i:List (Str×V)},pH K Z l i->(∀p,rm l f=!p->∃v,i.lookup f=!v/\ba K Z p v)/\(rm l f=J->i.lookup f=J)
 |_,_,.nil=>#[λp h=>(by cases h),λ_=>O]
 |p::l,q::i,.cons h t=>by
  let Q:=pH.look (f:=f) t;have F:(q::i).lookup f=if f=q.1 then !q.2 else i.lookup f:=by
   let(N,W):=q;rw[hG];by_cases e:f=N
   . grind
   . grind
  rw[F];by_cases e:p.1=f
  . have j:f=q.1:=by rw[<-h.1];show e.symm
    rw[av j];show#[λx D=>#[q.2,O,?_],λD=>?_]
    . unfold rm at D;grind
    . unfold rm at D;grind
  . have j:¬ f=q.1:=by rw[<-h.1];show λz=>e z.symm
    rw[aE j];unfold rm;grind
theorem pH.put(r:ba K Z p v):∀{l:FD}{i:List (Str×V)},pH K Z l i->pH K Z (rB f p l) (jr f v i)
 |_,_,.nil=>.cons #[O,r] .nil
 |a::l,b::i,.cons h t=>by
  let(j,q):=b;unfold rB jr;by_cases e:a.1=f
  . rw[av e,av ∅];show .cons #[h.1,r] t
  . rw[aE e,aE ∅];show .cons h (pH.put r t)
end
structure yc(K:FG)(mg:Str->Option Value)(C:Str)(c:Addr):Prop where
 cn:CN K C c
 cl:yZ K c
 mgC:mg C=!(.ref c)
def Ry(h:CN K C c)(g:CN K C d):c=d:=by have:(!(!(Value.ref c)))=!(!(YV d)):=h.symm.trans g;grind
def ju(C f:Str)(fo:EF):EF:=λY=>(fo Y).bind λx=>match x.1.pv with
 |ZA n=>match x.2.mu[n]? with
  |some (!(.obj D ks ps))=>if D=C then (rm (ks.zip ps) f).map λp=>(Zp p,x.2) else J
  |_=>J
 |_=>J
def SR.cellB{pd pe:Pd}(j:Y.mu[n]?=!(!p))(s:SR K H0 Z0 U H #[Y.vs,Y.mu.set n J] ((.ref a,Zs p)::(.ref a,Zp (ZA n))::pd)):SR K H0 Z0 U H Y pd:=by
 let D:=(de.mp j).1;let q:=s.cellP ∅;have z:(Y.mu.set n J).set n (!p)=Y.mu:=by rw[hZ];show i9 j
 let i:=q;rw[z]at i;show i
def SR.objAt(s:SR K H0 Z0 U H Y ((v,Zp (ZA n))::pd))(F:Y.mu[n]?=!(!(.obj C ks ps))):
 ∃a c dx fs,v=.ref a/\CN K C c/\H a=!(.ins c dx fs)/\fs.map (·.1)=ks/\(∀f p,rm (ks.zip ps) f=!p->∃u,fs.lookup f=!u/\SR K H0 Z0 U H Y ((u,Zp p)::(v,Zp (ZA n))::pd))/\∀f,rm (ks.zip ps) f=J->fs.lookup f=J:=by
 let i:=s.part λZ _ r=>r;let(a,rfl,Q):=i.cellO F;let(N,Z,W,z,q):=Q.top;let(_,ea,(c,dx,fs,cn,hu,hk,hr),_):=q.1 _ bi;cases ea;let D:=GJ hk hr;show#[a,c,dx,fs,O,cn,hu,hk,λf p j=>?_,λf j=>D.look.2 j];let(u,h1,h2):=D.look.1 p j;show#[u,h1,?_];have s6:SR K H0 Z0 U H #[Y.vs,Y.mu.set n J] ((u,Zp p)::(.ref a,Zs (.obj C ks ps))::(.ref a,Zp (ZA n))::(.ref a,Zp (ZA n))::pd):=.mk N W z ((q.perm dj).consS h2);let s7:=s6.perm (((List.Perm.swap _ _ _).cons _).trans (List.Perm.swap _ _ _));show SR.cellB (pe:=pd) F s7
def vI(T:yc X.K X.mg C c)(na:j9 X.K c f)(F:PE X o (tP X.K fo))(W:attributeBase o f X.env (eval o X.env)=eval o X.env:=by rfl):PE X (.Attribute o f pos) (tP X.K (ju C f fo)):=PE.imp (IT F W) λU H Q q=>by
 let(H0,Z0,Y,pd,l,Y',s,h,k):=q;let(x,h1,h2):=bm h;show#[H0,Z0,Y,pd,x.1,x.2,s,h1,λv H1 z=>?_];split at h2
 . rename_i n en;split at h2
   . rename_i D ks ps j;split at h2
     . rename_i eD;subst eD;let(p,h3,h4):=cr h2;cases h4;let i:=z.freeze;rw[en]at i;let(a,c',dx,fs,rfl,cn,hH,hk,N,_):=i.objAt j;have:=Ry T.cn cn;subst this;let(u,h5,s6):=N f p h3;show#[a,c,dx,fs,u,O,hH,T.cl,na,h5,k u H1 (s6.sub ((eH _ _).cons_cons _))]
     . cases h2
   . cases h2
 . cases h2
def Bj(C f:Str)(fo fv:EF):SF:=λY=>(fv Y).bind λy=>(fo y.2).bind λx=>match x.1.pv with
 |ZA n=>match x.2.mu[n]? with
  |some (!(.obj D ks ps))=>if D=C/\ks.length<1000 then !(.nx #[x.2.vs,x.2.mu.set n (!(fV C (rB f y.1.pv (ks.zip ps))))]) else J
  |_=>J
 |_=>J
def GK(T:yc X.K X.mg C c)(na:j9 X.K c f)(ho:PE X o (tP X.K fo))(hv:PE X value (tP X.K fv))(hs:swapsWith value (!(.Attribute o f pos')) pos.line X.env=pure M:=by rfl):PS X (.Assign [.Attribute o f pos'] value pos) (ik X.K (Bj C f fo fv)):=PS.imp (IX ho hv hs) λD U H q=>by
 let(H0,Z0,Y,pd,fl,s,h,k):=q;let(y,h1,h2):=bm h;let(x,h3,i):=bm h2;show#[H0,Z0,Y,pd,y.1,y.2,s,h1,λv H1 s1=>#[H0,Z0,y.2,_,x.1,x.2,s1.freeze,h3,λw H2 s2=>?_]];split at i
 . rename_i n en;split at i
   . rename_i F ks ps Q;split at i
     . rename_i N;let(N,hz):=N;subst N;cases i;let W:=s2.freeze;rw[en]at W;let(a,rfl,s5):=W.cellO Q;let s6:=s5.perm ((List.Perm.swap _ _ _).trans ((List.Perm.swap _ _ _).cons _));let(el,Z,hg,z,r,so):=s6.sh;let j:=so.perm dj.symm;let(_,eb,(c',dx,fs,cn,hu,hk,hr),_):=j.1 _ bi;cases eb;have:=Ry T.cn cn;subst this;let rf:=GJ hk hr;let rp:=rf.put (f:=f) r;have hlen:fs.length=ks.length:=by rw[<-hk,bq]
       show#[a,c,dx,fs,O,hu,T.cl,na,(),k U _ ?_];let(z',s'):=j.write (q:=fV F (rB f y.1.pv (ks.zip ps))) z #[c,dx,jr f v fs,cn,bU,rp.keys,rp.vals];have s7:SR X.K H0 Z0 U (aS H2 a (.ins c dx (jr f v fs))) #[x.2.vs,x.2.mu.set n J] ((.ref a,Zs (fV F (rB f y.1.pv (ks.zip ps))))::(.ref a,Zp (ZA n))::pd):=.mk el hg z' s';let hn:=(de.mp Q).1;let s8:=s7.cellP ∅;have e8:(x.2.mu.set n J).set n (!(fV F (rB f y.1.pv (ks.zip ps))))=x.2.mu.set n (!(fV F (rB f y.1.pv (ks.zip ps)))):=hZ ..;grind
     . cases i
   . cases i
 . cases i
end
section
variable {P:Program}{w:World}{K:FG}{mg:Str->Option Value}{base:Heap}
def wg(K:FG)(c:Addr)(m qual:Str)(st:Stmt)(ps:List Str):Prop:=∃f fd,uW K m qual st f fd/\W.findIn K (YV c) m=!(!(YV f))/\W.isFn K (YV f)=G/\c0 K fd ps []
def vg(P:Program)(w:World)(K:FG)(mg:Str->Option Value)(base:Heap)(c:Addr)(m:Str)(k:Nat)(ps:List Str)(sp:Sp):Prop:=∃f fd,n8 P w K mg base pZ k f fd ps sp/\iX K c m f/\c0 K fd ps []
def uW.okQ{st:Stmt}(F:uW K x qual st f fd)(S:bC N ps (aG st))
 (h:∀(j:Value)(A:Around)(i:List PySem.Env)(s:Shared)(H:Hp)(E:XK),qm k (A.deeper (envOfC qual (aG st) s.heap.objs.size f j))->
   ∃g':SF,(∀a mu,g a mu=c7 N.length g' a mu)/\jF (V1 pZ P w K mg base N qual (aG st) f j A i s H E).nox (jw st) (ik K g')):n8 P w K mg base pZ (k+1) f fd ps (cC K ps.length g):=by
 show F.ok S (λvs H Q E q=>?_) (λj A i s H vs Q E hr q=>?_)
 . let(Z,qs,mu,r,fw,e,_):=q;show e
 . let(g',eg,b):=h j A i s H E hr;let(Z,qs,mu,r,fw,e,hg,z,rl,c,j1,kk):=q;rw[eg]at j1;let(fl,h1,h2):=bm j1;show#[_,b,lJ H (uw Z.g mu),Z,_,[],fl,CQ hg z rl c,h1,?_];cases fl with
   |rt r' Y'=>
    cases h2;intro v U' H' s';let(el,Z',D,z',W):=s'.top;show kk v H' #[Z',D,z',W.sub ?_];show(hY _ _).cons_cons _
   |nx Y'=>
    cases h2;intro U' H' s';let(el,Z',D,z',W):=s';show kk .non H' #[Z',D,z',(W.sub (hY _ _)).consS (Ay _)]
   |bk Y'=>cases h2
   |ct Y'=>cases h2
def wg.ok{st:Stmt}(F:wg K c m qual st ps)(S:bC N ps (aG st))
 (h:∀(f:Addr)(j:Value)(A:Around)(i:List PySem.Env)(s:Shared)(H:Hp)(E:XK),qm k (A.deeper (envOfC qual (aG st) s.heap.objs.size f j))->
   ∃q:SF,(∀a mu,g a mu=c7 N.length q a mu)/\jF (V1 pZ P w K mg base N qual (aG st) f j A i s H E).nox (jw st) (ik K q)):vg P w K mg base c m (k+1) ps (cC K ps.length g):=by
 let(f,fd,F,h1,h2,z):=F;show#[f,fd,uW.okQ F S (h f),#[h1,h2,F.kp],z]
end
section
variable {X:Cx}
def cV(C m:Str)(g:GF)(fo:EF)(a:AF):EF:=λY=>(fo Y).bind λx=>match x.1.pv with
 |ZA n=>match x.2.mu[n]? with
  |some (!(.obj D ks _))=>if D=C/\ks.contains m=M then (a x.2).bind λy=>(g (ZA n::y.1.map Lc.pv) y.2.mu).map λr=>(r.1,#[y.2.vs,r.2]) else J
  |_=>J
 |_=>J
theorem Ie:∀{fs:List (Str×V)},(fs.map (·.1)).contains m=M->fs.lookup m=J
 |[]=>λ_=>rfl
 |(g,x)::r=>λh=>by grind
def Lx(T:yc X.K X.mg C c)(hn:∀Y ls Y1,a Y=!(ls,Y1)->ls.length+1=n'):∀U H Q,tP X.K (cV C m g fo a) U H Q->Q9 c m (cC X.K n' g) [] E (tP X.K fo) (jH X.K a) U H Q:=λU H Q q=>by
 let(H0,Z0,Y,pd,l,Y',s,h,k):=q;let(x,h1,h2):=bm h;show#[H0,Z0,Y,pd,x.1,x.2,s,h1,λv H1 s1=>?_];split at h2
 . rename_i n en;split at h2
   . rename_i D ks ps em;split at h2
     . rename_i F;let(F,hk):=F;subst F;let(y,h3,h4):=bm h2;let(r,h5,h6):=cr h4;cases h6;let j:=s1.freeze;rw[en]at j;let(W,c',dx,fs,rfl,cn,hH,oy,_):=j.objAt em;have:=Ry T.cn cn;subst this;show#[W,dx,fs,O,hH,Ie ∅,H0,Z0,x.2,_,y.1,y.2,j,h3,λvs H2 e2 s3=>?_];have s4:SR X.K H0 Z0 U H2 y.2 ((V.ref W::vs).zip (Lc.sh (ZA n)::y.1)++pd):=s3.perm (by rw[kU,ja];show eM.symm)
       let(el,Z,N,z,rl,i):=s4.repl ∅;show#[Z,ZA n::y.1.map Lc.pv,y.2.mu,r.1,r.2,?_,N,z.zh,?_,i.cells N,h5,λv H' rr=>k v H' (SR.called el N z i rr)]
       . grind
       . rw[d0];show rl
     . cases h2
   . cases h2
 . cases h2
def jm{apos pos:Pos}{pl:Sem Bool}(T:yc X.K X.mg C c)(N:vg X.prog X.w X.K X.mg X.base c m k ps (cC X.K ps.length g))(W:qm k X.A)(D:PE X o (tP X.K fo))(q:PA X (e::es) (jH X.K a))(z:∀Y ls Y1,a Y=!(ls,Y1)->ls.length+1=ps.length)
 (i:starEach (e::es) X.env=(M,eval e X.env)::starEach es X.env:=by rfl) (j:(backTo pos (starEach es X.env)).any (·.1)=M:=by rfl)
 (ht:eval (.Call (.Attribute o m apos) (e::es) [] pos) X.env=(do
   let ov <-eval o X.env
   standAt apos.atName
   let (f,first) <-holding [ov] (getMethod ov m pl)
   callWith pos f first (backTo pos (starEach (e::es) X.env)) (backToKw pos (keywordEach [] X.env))):=by rfl):PE X (.Call (.Attribute o m apos) (e::es) [] pos) (tP X.K (cV C m g fo a)):=by
 let(f,fd,F,hm,Q):=N
 show PE.imp (Ze D T.cl hm F W Q .nil JG q i j ht) (Lx T z)
def QN(T:yc X.K X.mg C c)(W:vg X.prog X.w X.K X.mg X.base c m k ps (cC X.K ps.length g))(hr:qm k X.A)(N:PE X o (tP X.K fo))(z:1=ps.length)
 (ht:eval (.Call (.Attribute o m apos) [] [] pos) X.env=(do
   let ov <-eval o X.env
   standAt apos.atName
   let (f,first) <-holding [ov] (getMethod ov m pl)
   callWith pos f first (backTo pos (starEach [] X.env)) (backToKw pos (keywordEach [] X.env))):=by rfl):PE X (.Call (.Attribute o m apos) [] [] pos) (tP X.K (cV C m g fo ao)):=by
 let(f,fd,F,hm,hb):=W
 show PE.imp (VV N T.cl hm F hr hb .nil JG ht) λU H Q q=>?_
 have:=Lx (E:=E0) (n':=ps.length) T (λY ls Y1 h=>by cases h;rw[<-z];rfl) U H Q q
 let(H0,Z0,Y,pd,l,Y',s,h,k):=this
 show#[H0,Z0,Y,pd,l,Y',s,h,λv H1 D=>?_]
 let(a,dx,fs,j,e2,e3,H0',Z0',Y2,pd2,ls,Y3,i,h2,k2):=k v H1 D
 cases h2
 show#[a,dx,fs,j,e2,e3,k2 [] H1 O i]
def SR.toCell(s:SR K H0 Z0 U H Y ((.ref a,Zs p)::pd)):SR K H0 Z0 U H #[Y.vs,Y.mu++[!p]] ((.ref a,Zp (ZA Y.mu.length))::pd):=by
 let(D,Z,F,z,j):=s.top;have q:ig Z #[Z.z,Z.g++[a]]:=#[eQ.refl _,n5 _ _];let i:=j.step q λe W b Q=>#[O,(jg j W Q).1];show .mk (Z:=#[Z.z,Z.g++[a]]) D ∅ #[z.zh,z.h0,z.z0.trans q,z.new] (ag.consS ?_ ?_)
 . show i.perm ?_;have N:cel (Z.g++[a]) (Y.mu++[!p])=cel Z.g Y.mu++[(!(.ref a),!(Zs p))]:=by unfold cel;rw[cy,cy,kl ∅];rfl
   show List.Perm (cel (Z.g++[a]) (Y.mu++[!p])++_) _;rw[N,cw];show eM
 . show#[a,O,by show (Z.g++[a])[Y.mu.length]?=!a;rw[F,fy ()];simp]
def EY(C:Str)(g:GF)(a:AF):EF:=λY=>(a Y).bind λy=>(g (ZA y.2.mu.length::y.1.map Lc.pv) (y.2.mu++[!(.obj C [] [])])).bind λr=>match r.1 with
 |Zp .non=>!(Zp (ZA y.2.mu.length),#[y.2.vs,r.2])
 |_=>J
def Xd(P:Program)(w:World)(K:FG)(mg:Str->Option Value)(base:Heap)(c:Addr)(k:Nat)(ps:List Str)(sp:Sp):Prop:=∃f fd,n8 P w K mg base pZ k f fd ps sp/\Mk K c f/\c0 K fd ps []
def Xe(T:yc X.K X.mg C c)(hn:∀Y ls Y1,a Y=!(ls,Y1)->ls.length+1=n'):∀U H Q,tP X.K (EY C g a) U H Q->Yj c (cC X.K n' g) [] E (jH X.K a) U H Q:=λU H Q q=>by
 let(H0,Z0,Y,pd,l,Y',s,h,k):=q;let(y,h1,h2):=bm h;let(r,h3,D):=bm h2;split at D
 . rename_i er;cases D;show#[H0,Z0,Y,pd,y.1,y.2,s,h1,λj H1 e1 s1 x dx hx N QO=>?_];have s2:SR X.K H0 Z0 U (aS H1 dx (.own x)) y.2 (j.zip y.1++pd):=s1.ext N;have s3:SR X.K H0 Z0 U (aS (aS H1 dx (.own x)) x (.ins c dx [])) y.2 ((.ref x,Zs (.obj C [] []))::(j.zip y.1++pd)):=s2.newO (by rw[cR QO.symm];show hx) λZ _ _=>#[c,dx,[],T.cn,bU,O,.nil];let s4:=s3.toCell;let s5:=s4.part λZ _ r=>r;have s6:SR X.K H0 Z0 U (aS (aS H1 dx (.own x)) x (.ins c dx [])) #[y.2.vs,y.2.mu++[!(.obj C [] [])]] ((V.ref x::j).zip (Lc.sh (ZA y.2.mu.length)::y.1)++(.ref x,Zp (ZA y.2.mu.length))::pd):=s5.perm (by rw[kU,ja];show List.perm_middle.cons _)
   let(el,Z,F,z,rl,i):=s6.repl ∅;show#[Z,ZA y.2.mu.length::y.1.map Lc.pv,y.2.mu++[!(.obj C [] [])],r.1,r.2,?_,F,z.zh,?_,i.cells F,h3,λv H' rr=>?_]
   . grind
   . rw[d0];show rl
   . let W:=SR.called el F z i rr;rw[er]at W;let(_,r0):=W.repH;show#[jE r0,k _ _ W.pop]
 . cases D
def QP{p pos:Pos}(T:yc X.K X.mg C c)(N:Xd X.prog X.w X.K X.mg X.base c k ps (cC X.K ps.length g))(W:qm (k+1) X.A)(z:Gl X C)(q:PA X (e::es) (jH X.K a))(D:∀Y ls Y1,a Y=!(ls,Y1)->ls.length+1=ps.length)
 (i:(C==("__debug__" : Str))=M:=by decide) (he:starEach (e::es) X.env=(M,eval e X.env)::starEach es X.env:=by rfl) (j:(backTo pos (starEach es X.env)).any (·.1)=M:=by rfl):PE X (.Call (.Name C p) (e::es) [] pos) (tP X.K (EY C g a)):=by
 let(f,fd,F,hm,Q):=N;show PE.imp (Zf hm F W z T.mgC Q .nil JG q i he j) (Xe T D)
end
def gF{a:AF}(h:∀Y ls Y1,a Y=!(ls,Y1)->ls.length=n)(e:n+1=m:=by rfl):∀Y ls Y1,a Y=!(ls,Y1)->ls.length+1=m:=λY ls Y1 g=>by rw[h _ _ _ g,e]
def QU(h:vg P w K mg base c "__init__" k ps sp)(mk:W.makesIn K c=G)(i:W.keepIn K (YV c)=G):Xd P w K mg base c k ps sp:=by let(f,fd,F,m,b):=h;show#[f,fd,F,#[mk,m.at_,m.fn,i],b]
end PL
namespace L2
open PL.PV renaming lst→R,int→ZI,str→ZH,tup→ZB,ptr→ZA
open PL.Lc renaming own→Zs,sh→Zp
open PySem PySem.Spec PyProof.Rows
variable {ae:List (Addr×Obj)}{E:Value->Shared->Prop}{s:Shared}{A:Around}{w:World}{P:Program}
end L2
namespace PL
open PL.PV renaming lst→R,int→ZI,str→ZH,tup→ZB,ptr→ZA
open PL.Lc renaming own→Zs,sh→Zp
open PySem PySem.Spec PyProof.Rows L2
variable {K:FG}{H0 H:Hp}{Z0:ZG}{U:L2.St}{Y:Ev}{pd:Pd}
end PL
namespace L2
open PL.PV renaming lst→R,int→ZI,str→ZH,tup→ZB,ptr→ZA
open PL.Lc renaming own→Zs,sh→Zp
open PySem PySem.Spec PyProof.Rows
variable {ae:List (Addr×Obj)}{E:Value->Shared->Prop}{s:Shared}{A:Around}{w:World}{P:Program}
section
variable {X:Cx}
noncomputable def pk {α:Type} (xs:List α) (lo hi st:Option Int):List α:=
 (sliceRange (sliceBounds lo hi st xs.length).1 (sliceBounds lo hi st xs.length).2.1 (sliceBounds lo hi st xs.length).2.2).filterMap λi=>xs[i]?
def Ly{lo hi st:Option Int}:slicePick br.toArray lo hi st=(pk br lo hi st).toArray:=by unfold slicePick pk;simp
theorem am.pick(r:am xs br):∀{l:List Nat},am (l.filterMap λi=>xs[i]?) (l.filterMap λi=>br[i]?)
 |[]=>.nil
 |i::l=>by
  let q:=r.length;cases h:xs[i]? with
  |none=>
   have h':br[i]?=J:=by rw[List.getElem?_eq_none_iff]at h ⊢;lia
   rw[hW h,hW h'];show r.pick
  |some x=>
   let(u,h',j):=r.get h;rw[List.filterMap_cons_some h,List.filterMap_cons_some h'];show .cons j r.pick
theorem am.pk{lo hi st:Option Int}(r:am xs br):am (pk xs lo hi st) (L2.pk br lo hi st):=by unfold L2.pk;rw[r.length];show r.pick
def QY(K:FG)(te:TE)(tl th tt:TO):TE:=λU H Q=>te U H λx H1=>tl U H1 λl H2=>th U H2 λu H3=>tt U H3 λk H4=>∃a xs,x=.ref a/\bV K H4 a xs/\k≠!0/\∀p,H4 p=J->Q (.ref p) (aS H4 p (.lst (pk xs l u k)))
def UT{lo hi:Option Expr}{st:Expr}(he:PE X e te)(hl:PO X lo tl)(hu:PO X hi th)(N:PO X (!st) tt):PE X (.Subscript e (.Slice lo hi (!st) p2) pos) (QY X.K te tl th tt):=by
 intro ae s U H Q I h;show Subscript_ (cY (he ae s U H _ I h) λv s1 Q_=>?_);let(x,H1,I1,r1,q1):=Q_;show wpAny_Slice (cY (hl ae s1 U H1 _ I1 q1) λvl s2 Re=>?_);let(l,H2,I2,pl,q2):=Re;show cY (hu ae s2 U H2 _ I2 q2) λvu s3 Rl=>?_;let(u,H3,I3,pu,q3):=Rl;show cY (N ae s3 U H3 _ I3 q3) λW z RA=>?_;let(k,H4,I4,RF,q4):=RA;let(a,xs,rfl,hx,hk,q):=q4;cases r1;have I5:ai X ae U H4 { z with heap:=z.heap.push { cls:=.type "slice",data:=.fields (List.toArray [vl,vu,W]) } }:=I4.kept λb ob q=>cf _ q;let(br,r,N,hz):=I5.list hx;let hlen:=r.length;have hg:wpAny (model X.prog X.w) X.A (getItem (YV a) (YV z.heap.objs.size)) (EP X ae U Q) X.xe { z with heap:=z.heap.push { cls:=.type "slice",data:=.fields (List.toArray [vl,vu,W]) } }:=by show wpAny_getItem_list_slice N.isList (Heap.IsSliceOf.new ..) pl pu RF hk ?_ ∅;let F:=slicePick_size_le br.toArray l u k;rw[Ly]at F ⊢;show#[.ref (z.heap.push { cls:=.type "slice",data:=.fields (List.toArray [vl,vu,W]) }).objs.size,_,I5.laid (λb ob q=>cf _ q) (bv _) ?_,O,q _ (I5.hok.fresh (bv _))];show#[?_,_,0,r.pk,dA _ O];let e:=(r.pk (lo:=l) (hi:=u) (st:=k)).length;rw[eP,eP]at F;lia
 show tail_any N.isList.typeIs slot_list_getitem.lookup hg (by with_unfolding_all rfl)
end
end L2
namespace PL
open PL.PV renaming lst→R,int→ZI,str→ZH,tup→ZB,ptr→ZA
open PL.Lc renaming own→Zs,sh→Zp
open PySem PySem.Spec PyProof.Rows L2
variable {K:FG}{H0 H:Hp}{Z0:ZG}{U:L2.St}{Y:Ev}{pd:Pd}
section
variable {X:Cx}
theorem aK.pick(r:aK K Z ps vs):∀{l:List Nat},aK K Z (l.filterMap λi=>ps[i]?) (l.filterMap λi=>vs[i]?)
 |[]=>aK.nil
 |i::l=>by
  let q:=r.length;cases h:ps[i]? with
  |none=>
   have h':vs[i]?=J:=by rw[List.getElem?_eq_none_iff]at h ⊢;lia
   rw[hW h,hW h'];show r.pick
  |some x=>
   let(u,h',j):=r.get h;rw[List.filterMap_cons_some h,List.filterMap_cons_some h'];show aK.cons j r.pick
theorem aK.pk{lo hi st:Option Int}(r:aK K Z ps vs):aK K Z (L2.pk ps lo hi st) (L2.pk vs lo hi st):=by unfold L2.pk;rw[r.length];show r.pick
def Df(f:EF)(lo hi st:OF):EF:=λY=>(f Y).bind λx=>(lo x.2).bind λy=>(hi y.2).bind λz=>(st z.2).bind λt=>match x.1.pv with
 |R ps=>if t.1≠!0 then !(Zs (R (pk ps y.1 z.1 t.1)),t.2) else J
 |_=>J
def PQ{lo hi:Option Expr}{st:Expr}(he:PE X e (tP X.K f))(hl:PO X lo (Et X.K fl))(hu:PO X hi (Et X.K fh))(ht:PO X (!st) (Et X.K fs)):
 PE X (.Subscript e (.Slice lo hi (!st) p2) pos) (tP X.K (Df f fl fh fs)):=PE.imp (UT he hl hu ht) λU H Q q=>by
 let(H0,Z0,Y,pd,r,Y',s,h,k):=q;let(x,h1,h2):=bm h;let(y,h3,h4):=bm h2;let(z,h5,h6):=bm h4;let(t,h7,i):=bm h6;show#[H0,Z0,Y,pd,x.1,x.2,s,h1,λv H1 s1=>#[H0,Z0,x.2,_,y.1,y.2,s1.freeze,h3,λH2 s2=>#[H0,Z0,y.2,_,z.1,z.2,s2,h5,λH3 W=>#[H0,Z0,z.2,_,t.1,t.2,W,h7,λH4 j=>?_]]]];split at i
 . rename_i ps e;split at i
   . rename_i hk;cases i;rw[e]at j;let(N,Z,hg,D,F,s5):=j.sh;let(a,vs,rfl,g1,g2):=F;show#[a,vs,O,bV.same D.zh g1,hk,λp hp=>k _ _ ?_];let(z',s'):=s5.new (p:=R (pk ps y.1 z.1 t.1)) D hp #[_,bU,g2.pk];show .mk N hg z' s'
   . cases i
 . cases i
def Holds(o:Option Nat)(ps:List PV)(Y:Ev):Prop:=∀n,o=!n->Y.mu[n]?=!(!(R ps))
noncomputable def sealV (i:Nat) (Y:Ev):Option Ev:=match Y.vs[i]? with
 |some (!(Zs p))=>!#[Y.vs.set i (!(Zp (ZA Y.mu.length))),Y.mu++[!p]]
 |_=>J
def wj(i:Nat)(f:SF):SF:=λY=>(sealV i Y).bind f
theorem SR.sealV(s:SR K H0 Z0 U H Y pd)(h:PL.sealV i Y=!Y'):SR K H0 Z0 U H Y' pd:=by
 unfold PL.sealV at h;split at h
 . rename_i p F;cases h;let(v,N,q):=s.take F;let(_,Z,_,z,D):=q.top;let(a,W,_):=D.1 _ bi;let j:=d_ W;subst j;let Q:=q.toCell.put N;have e:(Y.vs.set i J).set i (!(Lc.sh (ZA Y.mu.length)))=Y.vs.set i (!(Zp (ZA Y.mu.length))):=hZ _;have s3:SR K H0 Z0 U H #[(Y.vs.set i J).set i (!(Lc.sh (ZA Y.mu.length))),Y.mu++[!p]] pd:=Q;grind
 . cases h
def PX{st:Stmt}(h:PS X st (ik X.K f)):PS X st (ik X.K (wj i f)):=PS.imp h λD U H q=>by let(H0,Z0,Y,pd,fl,s,h,k):=q;let(Y1,h1,h2):=bm h;show#[H0,Z0,Y1,pd,fl,s.sealV h1,h2,k]
end
noncomputable def fJ (mu:Mu):Nat->PV->PV
 |0,p=>p
 |k+1,ZA n=>match mu[n]? with
  |some (!p)=>fJ mu k p
  |_=>ZA n
 |k+1,ZB ps=>ZB (ps.map (fJ mu k))
 |k+1,R ps=>R (ps.map (fJ mu k))
 |k+1,.dk ks ps=>.dk ks (ps.map (fJ mu k))
 |_+1,p=>p
theorem yd(i:∀p x,ba K Z p x->ba K Z (f p) x):∀{ps:List PV}{vs:List V},aK K Z ps vs->aK K Z (ps.map f) vs
 |[],vs,h=>h
 |p::ps,vs,h=>by let(v,r,rfl,h1,h2):=h.inv;show aK.cons (i p v h1) (yd i h2)
def peekD(mu:Mu):Option Lc->Option Lc
 |some l=>!(Zp (fJ mu 40 l.pv))
 |none=>J
def Ev.peekD(Y:Ev):Ev:=#[Y.vs.map (PL.peekD Y.mu),Y.mu.map λ_=>J]
section
variable {X:Cx}
def Fb(fo:EF):EF:=λY=>(fo Y).bind λo=>match o.1.pv with
 |ZA n=>match o.2.mu[n]? with
  |some (!(R ws))=>(ws[ws.length-1]?).map λp=>(Zp p,#[o.2.vs,o.2.mu.set n (!(R ws.dropLast))])
  |_=>J
 |_=>J
def RI(h:PE X (.Call (.Attribute o "pop" apos) [] [] cpos) (yi X.K "list" yn (tP X.K fo))):PE X (.Call (.Attribute o "pop" apos) [] [] cpos) (tP X.K (Fb fo)):=PE.imp h λU H Q q=>by
 let(H0,Z0,Y,pd,r,Y',s,h,k):=q;let(o',h1,h2):=bm h;show#[H0,Z0,Y,pd,o'.1,o'.2,s,h1,λv H1 W=>?_];split at h2
 . rename_i n en;split at h2
   . rename_i ws D;let(p,h3,h4):=cr h2;cases h4;let F:=W.freeze;rw[en]at F;let(a,rfl,N):=F.cellO D;let(_,Z,_,z,so):=N.top;let(_,ea,(us,hu,_),_):=so.1 _ bi;cases ea;let(i,y,j,hy,s6):=N.popO h3;let hn:=(de.mp D).1;let s7:=(s6.perm ((List.Perm.swap _ _ _).cons _)).cellP ∅;show#[Zl #[O,us,bV.of hu],a,i,y,O,O,j,hy,k _ _ ?_];have e8:(o'.2.mu.set n J).set n (!(R ws.dropLast))=o'.2.mu.set n (!(R ws.dropLast)):=hZ ..;grind
   . cases h2
 . cases h2
def oE(f:EF)(fl fh:OF):EF:=λY=>(f Y).bind λx=>(fl x.2).bind λy=>(fh y.2).bind λz=>match x.1.pv with
 |ZB ps=>if HT.sIx ps.length 0 y.1=0/\HT.sIx ps.length ps.length z.1=ps.length then J else !(Zp (ZB (xU ps y.1 z.1)),z.2)
 |_=>J
def Bk{lo hi:Option Expr}(he:PE X e (tP X.K f))(hl:PO X lo (Et X.K fl))(hu:PO X hi (Et X.K fh)):PE X (.Subscript e (.Slice lo hi J p2) pos) (tP X.K (oE f fl fh)):=PE.imp (J7 Kt he hl hu) λU H Q q=>by
 let(H0,Z0,Y,pd,r,Y',s,h,k):=q;let(x,h1,h2):=bm h;let(y,h3,h4):=bm h2;let(z,h5,i):=bm h4;show#[H0,Z0,Y,pd,x.1,x.2,s,h1,λv H1 s1=>#[H0,Z0,x.2,_,y.1,y.2,s1.freeze,h3,λH2 s2=>#[H0,Z0,y.2,_,z.1,z.2,s2,h5,λH3 j=>?_]]];cases e:x.1.pv with
 |tup ps=>
  rw[e]at i j;have i:(if HT.sIx ps.length 0 y.1=0/\HT.sIx ps.length ps.length z.1=ps.length then J else !(Lc.sh (ZB (xU ps y.1 z.1)),z.2))=!(r,Y'):=i;split at i
  . cases i
  . rename_i hw;cases i;let(el,Z,hg,N,W,s4):=j.sh;let(a,F,rfl,g1,D):=W;show#[a,F,O,cT.same N.zh g1,by rw[D.length];show hw,λp hp=>k _ _ ?_];let(z',lz,s'):=s4.newF N hp;show .mk (Z:=Z.put p (.tup (uq F y.1 z.1))) el hg z' (s'.consS ?_);show#[p,_,O,cT.of bU,D.cut.mono lz]
 |_=>grind
def Xf{mu:Mu}:∀e∈cel g (mu.map λ_=>J),e.2=J:=λe z=>by let(v,l):=e;let(_,h2):=iP z;let(o,i,j):=cK.mp h2;let(o',_,q):=cK.mp i;subst q;show j.symm
noncomputable def Xg:PV->Option Str
 |ZH z=>if z.length<=100000 then !z else J
 |ZI i=>if i.natAbs.log2<1920 then (if (toString i:Str).length<=100000 then !(toString i) else J) else J
 |_=>J
def nD(c:Str)(f:EF):EF:=λY=>(f Y).bind λx=>(Xg x.1.pv).bind λz=>if c.length+z.length<=100000 then !(Zp (ZH (c++z)),x.2) else J
def wk(hc:c.length<=100000)(he:PE X e (tP X.K f)):PE X (.JoinedStr [.Constant (.str c) j p1,.FormattedValue e (-1) J p2] p3) (tP X.K (nD c f)):=PE.imp (Zy (eI hc ()) he) λU H Q q=>by
 let(H0,Z0,Y,pd,r,Y',s,h,k):=q;let(x,h1,h2):=bm h;let(z,N,W):=bm h2;let(hl,h5):=qF W;cases h5;show#[H0,Z0,Y,pd,x.1,x.2,s,h1,λv H1 s1=>?_];let s2:=SR.freeze s1;have RO:(c++z).length<=sizeLine:=by rw[PySem.Str.length_append];show eI hl ()
 have hz:z.length<=sizeLine:=eI (eI () hl) ();show#[z,?_,RO,hz,k _ H1 (s2.pop.scal oR)];let(_,r):=s2.repH;cases e:x.1.pv with
 |str y=>
  rw[e]at N r;let(_,rfl):=qF N;have:=dC r;subst this;rfl
 |int i=>
  rw[e]at N r;obtain⟨hi,W⟩:i.natAbs.log2<1920/\(if (toString i:Str).length<=100000 then !(toString i) else J:Option Str)=!z:=by
   have F:(if i.natAbs.log2<1920 then (if (toString i:Str).length<=100000 then !(toString i) else J) else J:Option Str)=!z:=N;split at F
   . rename_i h;show#[h,F]
   . cases F
  let(_,rfl):=qF W;have:=cg r;subst this;show av hi
 |_=>rw[e]at N;cases N
def Fd(h:f Y=!(l,Y1))(j:Xg l.pv=!z)(i:c.length+z.length<=100000):nD c f Y=!(Zp (ZH (c++z)),Y1):=by unfold nD;rw[h,bo,j,bo,av i]
def SR.pop0O(s:SR K H0 Z0 U H Y ((.ref a,Zs (R (p::ws)))::pd)):
 ∃j y,H a=!(.lst (y::j))/\SR K H0 Z0 U (aS H a (.lst j)) Y ((.ref a,Zs (R ws))::(y,Zp p)::pd):=by
 let(F,Z,N,z,D):=s.top;let(b,eb,(j,hu,hr),_):=D.1 _ bi;cases eb;let(y,i,rfl,W,hd):=aK.inv hr;show#[i,y,hu,?_];let(Q,s'):=D.write (q:=R ws) z #[i,bU,hd];let s2:=(s'.consS W).perm (List.Perm.swap (!y,!(Lc.sh p)) (!(V.ref a),!(Lc.own (R ws))) _);show .mk F N Q (s2.perm (dj.cons _))
def zX(fo:EF):EF:=λY=>(fo Y).bind λo=>match o.1.pv with
 |ZA n=>match o.2.mu[n]? with
  |some (!(R (p::ws)))=>!(Zp p,#[o.2.vs,o.2.mu.set n (!(R ws))])
  |_=>J
 |_=>J
def RS(h:PE X (.Call (.Attribute o "pop" apos) [z] [] cpos) (J9 X.K "list" S7 (tP X.K fo) (jH X.K (aa (af 0) ao)))):PE X (.Call (.Attribute o "pop" apos) [z] [] cpos) (tP X.K (zX fo)):=PE.imp h λU H Q q=>by
 let(H0,Z0,Y,pd,r,Y',s,h,k):=q;let(o',h1,h2):=bm h;show#[H0,Z0,Y,pd,o'.1,o'.2,s,h1,λv H1 s1=>?_];split at h2
 . rename_i n en;split at h2
   . rename_i p ws i;cases h2;let D:=s1.freeze;rw[en]at D;let(a,rfl,s5):=D.cellO i;let(_,Z,_,z,so):=s5.top;let(_,ea,(us,hu,_),_):=so.1 _ bi;cases ea;show#[Zl #[O,us,bV.of hu],H0,Z0,o'.2,_,[Zp (ZI 0)],o'.2,D,O,λvs H2 e2 sv=>?_];let(v1,rfl):=yI e2;let s3:=sv;let(_,r):=s3.repH;have:=cg r;subst this;let s4:=s3.pop;let(a',F,N):=s4.cellO i;cases F;let(W,y,j,N):=N.pop0O;let hn:=(de.mp i).1;let s7:=(N.perm ((List.Perm.swap _ _ _).cons _)).cellP ∅;show#[a,y::W,0,0,y,O,O,j,by decide,by decide,?_,O,?_]
     . unfold seqIndex?;simp
     . show k _ _ ?_;have e8:(o'.2.mu.set n J).set n (!(R ws))=o'.2.mu.set n (!(R ws)):=hZ ..;rw[show (#[o'.2.vs,o'.2.mu.set n (!(R ws))]:Ev)=#[o'.2.vs,(o'.2.mu.set n J).set n (!(R ws))] by rw[e8]];show s7
   . cases h2
 . cases h2
def Lz{Y Y1:Ev}{mu:Mu}(h1:fo Y=!(o,Y1))(ho:o.pv=ZA n)(hm:Y1.mu[n]?=!(!(R (p::ws))))(e:Y1.mu.set n (!(R ws))=mu):zX fo Y=!(Zp p,#[Y1.vs,mu]):=by unfold zX;rw[h1,bo,ho];dsimp only;rw[hm];dsimp only;rw[e]
end
theorem ag.freezeC:∀(C:Sl){Z:ZG},ag K H0 Z H (C++ZN)->jG H0 Z0 Z H->∃Z',ig Z Z'/\Z'.g=Z.g/\jG H0 Z0 Z' H/\ag K H0 Z' H ZN/\∀e∈C,∀q,e.2=!(Zs q)->∃x,e.1=!x/\ba K Z' q x
 |[],Z=>λQ z=>#[Z,ig.refl Z,O,z,Q,λe N=>by cases N]
 |(v,l)::C,Z=>λQ z=>by
  have ax:∀{j:ZG},ig Z j->j.g=Z.g->jG H0 Z0 j H->ag K H0 j H (C++ZN)->(∀q,l=!(Zs q)->∃x,v=!x/\ba K j q x)->∃Z',ig Z Z'/\Z'.g=Z.g/\jG H0 Z0 Z' H/\ag K H0 Z' H ZN/\∀e∈(v,l)::C,∀q,e.2=!(Zs q)->∃x,e.1=!x/\ba K Z' q x:=λ{j} lz W z1 i hv=>by
   let(Z',D,RY,z',no,hc):=ag.freezeC C i z1;show#[Z',lz.trans D,RY.trans W,z',no,λe N q hq=>?_];obtain rfl|N:=aT.mp N
   . let(x,ex,rx):=hv q hq;show#[x,ex,rx.mono D]
   . grind
  let i:=Q;cases l with
  |none=>show ax (ig.refl Z) O z (i.sub (eH _ _)) λq h=>by cases h
  |some l=>
   cases l with
   |sh p=>show ax (ig.refl Z) O z (i.sub (eH _ _)) λq h=>by cases h
   |own p=>
    let(j,lz,W,z1,F):=i.freeze z;let(x,ex,rx):=F.1 _ bi;show ax lz W z1 (F.sub (eH _ _)) λq h=>by cases h;grind
theorem rR(j:∀(n:Nat)(a:Addr)(q:PV),Z.g[n]?=!a->mu[n]?=!(!q)->ba K Z q (.ref a)):∀(k:Nat)(p:PV)(x:V),ba K Z p x->ba K Z (fJ mu k p) x
 |0=>λp x r=>r
 |k+1=>λp x r=>by
  cases p with
  |ptr n=>
   show ba K Z (match mu[n]? with |some (!p)=>fJ mu k p |_=>ZA n) x;split
   . rename_i q Q;let(a,rfl,N):=r;show rR j k q _ ∅
   . show r
  |tup ps=>
   let(a,i,e,h1,h2):=r;show#[a,i,e,h1,yd (rR j k) h2]
  |lst ps=>
   let(a,i,e,h1,h2):=r;show#[a,i,e,h1,yd (rR j k) h2]
  |dk ks ps=>
   let(a,i,e,h1,z,h2):=r;show#[a,i,e,h1,z,yd (rR j k) h2]
  |_=>show r
theorem ag.nones:∀(C:Sl),(∀e∈C,e.2=J)->ag K H0 Z H ZN->ag K H0 Z H (C++ZN)
 |[]=>λ_ j=>j
 |(v,l)::C=>λh j=>by
  let e:=h _ bi;subst e;let s:=ag.nones C (λe i=>h e (cv _ i)) j;show#[λe i=>?_,?_]
  . obtain rfl|i:=aT.mp i
    . trivial
    . show s.1 e i
  . show ((((v,J):Option V×Option Lc)::(C++ZN)).filterMap lH).Nodup;rw[hW (by cases v with |none=>rfl |some x=>cases x<;>rfl)];show s.2
def SR.meltD(k:Nat)(s:SR K H0 Z0 U H Y ((v,Zp p)::pd)):
 SR K H0 Z0 U H #[Y.vs,Y.mu.map λ_=>J] ((v,Zp (fJ Y.mu k p))::pd):=by
 let(F,Z,hg,z,r,N):=s.sh;let(Z',lz,W,Q,j,hc):=ag.freezeC (cel Z.g Y.mu) N z;let i:=ag.nones (cel Z'.g (Y.mu.map λ_=>J)) Xf j;show .mk F ∅ Q (i.consS ?_);show rR (λn a q D hq=>?_) k p v (r.mono lz);rw[W]at D;have hm:(!(V.ref a),!(Lc.own q))∈cel Z.g Y.mu:=eR (zip_get (by rw[c8,D];rfl) ∅);grind
section
variable {X:Cx}
def Fe(f:EF):EF:=λY=>(f Y).map λx=>(Zp (fJ x.2.mu 40 x.1.pv),#[x.2.vs,x.2.mu.map λ_=>J])
def R_(h:PE X e (tP X.K f)):PE X e (tP X.K (Fe f)):=PE.imp h λU H Q q=>by let(H0,Z0,Y,pd,l,Y',s,f,k):=q;let(x,h1,h2):=cr f;cases h2;show#[H0,Z0,Y,pd,x.1,x.2,s,h1,λv H1 i=>k v H1 (i.freeze.meltD 40)]
def Xh(h:f Y=!(l,Y1))(i:fJ Y1.mu 40 l.pv=p):Fe f Y=!(Zp p,#[Y1.vs,Y1.mu.map λ_=>J]):=by unfold Fe;grind
end
class HK where
 hk:List aW->Int
noncomputable def okP:PV->Option aW
 |.non=>!J
 |ZI i=>!(!(.inl i))
 |ZH x=>!(!(.inr x))
 |_=>J
def pI:List PV->Option (List aW)
 |[]=>![]
 |p::ps=>(okP p).bind λk=>(pI ps).map (k::·)
def Sa(h:okP p=!k)(r:ba K Z p v):v=nj k:=by
 cases p with
 |non=>cases h;show jE r
 |int i=>cases h;show cg r
 |str x=>cases h;show dC r
 |_=>cases h
theorem tR:∀{ps:List PV}{vs:List V}{ks:List aW},pI ps=!ks->aK K Z ps vs->vs=ks.map nj
 |[],vs,ks=>λh r=>by cases h;show r.inv0
 |p::ps,vs,ks=>λh r=>by let(v,D,rfl,h1,h2):=r.inv;let(k,z,i):=bm h;let(t,q,j):=cr i;cases j;rw[Sa z h1,tR q h2];rfl
abbrev tN:=List (List aW×PV)
def jO:tN->List aW->Option PV
 |[],_=>J
 |kv::r,k=>if kv.1=k then !kv.2 else jO r k
def Rz{xs:XD}:jJ (x::xs) k=if x.1=k then !x.2.2 else jJ xs k:=by
 unfold jJ;by_cases e:x.1=k
 . grind
 . grind
theorem ye:∀{xs:XD}{ps:List PV},aK K Z ps (xs.map (·.2.2))->(∀p,jO ((xs.map (·.1)).zip ps) k=!p->∃v,jJ xs k=!v/\ba K Z p v)/\(jO ((xs.map (·.1)).zip ps) k=J->jJ xs k=J)
 |[],ps,h=>#[λp e=>(by cases e),λ_=>O]
 |x::xs,[],h=>by have:=h.inv0;grind
 |x::xs,p::ps,h=>by
  let(v,r,e,h1,h2):=h.inv;injection e with i j;subst i j;let z:=ye (k:=k) h2;rw[Rz];show (∀q,(if x.1=k then !p else jO ((xs.map (·.1)).zip ps) k)=!q->_)/\((if x.1=k then !p else jO ((xs.map (·.1)).zip ps) k)=J->_);by_cases e:x.1=k
  . grind
  . grind
def SR.setX(s:SR K H0 Z0 U H Y ((v,Zp p)::(kb,Zp (ZB kp))::(.ref a,Zs (.dx hk ks ps))::pd))(ek:pI kp=!k):
 ∃b xs,kb=.ref b/\H a=!(.ext (vQ hk a xs))/\(∀x∈xs,cT K H x.2.1 (x.1.map nj))/\cT K H b (k.map nj)/\xs.length=ks.length/\
  (jO (ks.zip ps) k=J->jJ xs k=J/\SR K H0 Z0 U (aS H a (.ext (vQ hk a (xs++[(k,b,v)])))) Y ((.ref a,Zs (.dx hk (ks++[k]) (ps++[p])))::(v,Zp p)::pd))/\
  (∀q,jO (ks.zip ps) k=!q->∃u,jJ xs k=!u/\SR K H0 Z0 U H Y ((u,Zp q)::(.ref a,Zs (.dx hk ks ps))::pd)):=by
 let(el,Z,hg,z,r,so):=s.sh;let j:=so.perm dj.symm;let(x,e1,rk):=j.1 _ bi;cases e1;let(b,ws,rfl,hb,Q):=rk;let ew:=tR ek Q;subst ew;let F:=j.sub (eH _ _);let D:=F.perm dj.symm;let(_,eb,(xs,hu,W,Sb,hr),_):=D.1 _ bi;cases eb;subst W;let hv:=ye (k:=k) hr;show#[b,xs,O,hu,λx i=>cT.same z.zh (Sb x i),cT.same z.zh hb,by rw[bq],λhn=>#[hv.2 hn,?_],λq hq=>?_]
 . let N:=(D.consS r).perm (List.Perm.swap _ _ _);let(z',s'):=N.write (q:=.dx hk (xs.map (·.1)++[k]) (ps++[p])) z #[xs++[(k,b,v)],bU,by rw[cy];rfl,(λx i=>(by
    obtain i|i:=cx.mp i
    . grind
    . rw[eL.mp i];show hb)),by rw[cy];show hr.append (aK.cons r .nil)]
   show .mk el hg z' (s'.perm (dj.symm.cons _).symm)
 . let(u,e,ru):=hv.1 q hq;show#[u,e,.mk el hg z (F.consS ru)]
def SR.takeX(s:SR K H0 Z0 U H Y pd)(e:Y.vs[i]?=!(!(Zs (.dx hk ks ps)))):
 ∃a xs,U[i]?=!(!(.ref a))/\H a=!(.ext (vQ hk a xs))/\SR K H0 Z0 U H (Y.set i J) ((.ref a,Zs (.dx hk ks ps))::pd):=by
 let(v,e1,s1):=s.take e;let(_,Z,_,z,so):=s1.top;let(a,ea,(xs,hu,_),_):=so.1 _ bi;have Sc:v=.ref a:=d_ ea;subst Sc;show#[a,xs,e1,hu,s1]
def SR.seal(N:SR K H0 Z0 U H Y ((v,Zs p)::pd)):SR K H0 Z0 U H #[Y.vs,Y.mu++[!p]] ((v,Zp (ZA Y.mu.length))::pd):=by
 let(F,Z,W,z,j):=N.top;let(a,ea,ra,za,nk):=j.1 _ bi;let i:=d_ ea;subst i;have D:ig Z #[Z.z,Z.g++[a]]:=#[eQ.refl _,n5 _ _];let q:=j.step D λe he b Q=>#[O,(jg j he Q).1];show .mk (Z:=#[Z.z,Z.g++[a]]) F ∅ #[z.zh,z.h0,z.z0.trans D,z.new] (ag.consS ?_ ?_)
 . show q.perm ?_;have ec:cel (Z.g++[a]) (Y.mu++[!p])=cel Z.g Y.mu++[(!(.ref a),!(Zs p))]:=by unfold cel;rw[cy,cy,kl ∅];rfl
   show List.Perm (cel (Z.g++[a]) (Y.mu++[!p])++_) _;rw[ec,cw];show eM
 . show#[a,O,by show (Z.g++[a])[Y.mu.length]?=!a;rw[W,fy (bv _)];simp]
def Ev.set_self(e:Y.vs[i]?=!l):Y.set i l=Y:=by show Ev.mk (Y.vs.set i l) Y.mu=Y;let(hi,j):=de.mp e;rw[<-j,List.set_getElem_self]
section
variable {X:Cx}[HK]
def UV:EF:=λY=>!(Zs (.dx HK.hk [] []),Y)
def Se(i:HK.hk=Cg X.prog X.w):PE X (.Dict [] [] pos) (tP X.K UV):=PE.imp Wl λU H Q q=>by let(H0,Z0,Y,pd,l,Y',s,f,k):=q;cases f;show λp j=>k _ _ (s.newO j λZ _ _=>#[[],by rw[bU,i];rfl,O,(λx i=>(by cases i)),aK.nil])
open Classical in
def Bl(i:Nat)(fk:EF):EF:=λY=>match Y.vs[i]? with
 |some (!(Zs (.dx _ _ _)))=>(fk Y).bind λy=>match y.1.pv,y.2.vs[i]? with
  |ZB kp,!(!(Zs (.dx hk ks ps)))=>(pI kp).bind λk=>if hk=HK.hk/\ks.length<100000 then
   (match jO (ks.zip ps) k with
   |some p=>!(Zp p,y.2)
   | none=>!(Zp (ZA y.2.mu.length),#[y.2.vs.set i (!(Zs (.dx hk (ks++[k]) (ps++[ZA y.2.mu.length])))),y.2.mu++[!(R [])]]))
   else J
  |_,_=>J
 |_=>J
def Sf(hx:HK.hk=Cg X.prog X.w)(h:PE X (.Call (.Attribute o "setdefault" apos) [e1,e2] [] cpos) (λU H Q=>um i U H λx H1=>(∃a hk xs,x=.ref a/\H1 a=!(.ext (vQ hk a xs)))/\jH X.K (aa fk (aa (bO ao) ao)) U H1 λvs H2=>Tu X.prog X.w X.K x vs H2 Q)):
 PE X (.Call (.Attribute o "setdefault" apos) [e1,e2] [] cpos) (tP X.K (Bl i fk)):=PE.imp h λU H Q q=>by
 let(H0,Z0,Y,pd,r,Y',s,h,k):=q;unfold Bl at h;split at h
 . rename_i kC P8 P9 e0;let(y,h1,h2):=bm h;let(a,xs,W,hu,_):=s.takeX e0;show#[.ref a,W,#[a,kC,xs,O,hu],H0,Z0,Y,pd,[y.1,Zs (R [])],y.2,s,?_,λvs H2 e2 s2=>?_]
   . unfold aa ao bO;simp[h1]
   . let(v1,F,rfl):=ng e2;let Si:=s2;split at h2
     . rename_i kp hk ks ps e3 e4;let(N,ek,D):=bm h2;split at D
       . rename_i hc;let(y3,hc2):=hc;subst y3;let s3:=Si.freeze;rw[e3]at s3;cases hv:jO (ks.zip ps) N with
         |some p=>
          rw[hv]at D;cases D;let(a',Sj,j,sw,s4):=s3.swap.freeze.takeX e4;rw[W]at j;cases j;let s5:=s4.perm (iO (l₁:=[(F,Lc.sh (R [])),(v1,Zp (ZB kp))]) (l₂:=[(.ref a,Zs (.dx HK.hk ks ps))]) |>.append_right pd);let(b,z,rfl,g1,g2,g3,g4,_,g6):=s5.setX ek;let(u,eu,s6):=g6 p hv;show#[a,b,z,N,F,O,O,by rw[g1];unfold dX;rw[hx],g2,g3,by rw[g4,sizeLine_eq];lia,?_];rw[eu];let s7:=s6.swap.put W;rw[Ev.set_set,Ev.set_self e4]at s7;show k _ _ s7
         |none=>
          rw[hv]at D;cases D;let Sk:=s3.swap.seal;let(a',Sj,j,sw,s4):=Sk.takeX e4;rw[W]at j;cases j;let s5:=s4.perm (iO (l₁:=[(F,Lc.sh (ZA y.2.mu.length)),(v1,Zp (ZB kp))]) (l₂:=[(.ref a,Zs (.dx HK.hk ks ps))]) |>.append_right pd);let(b,z,rfl,g1,g2,g3,g4,g5,_):=s5.setX ek;let(eu,s6):=g5 hv;show#[a,b,z,N,F,O,O,by rw[g1];unfold dX;rw[hx],g2,g3,by rw[g4,sizeLine_eq];lia,?_];rw[eu];let s7:=s6.put W;rw[Ev.set_set]at s7;have e9:(.ext (vQ (Cg X.prog X.w) a (z++[(N,b,F)])):HO)=dX X.prog X.w a (z++[(N,b,F)]):=O;rw[<-e9,<-hx];show k _ _ s7
       . cases D
     . cases h2
 . cases h
open Classical in
def yf(fo fk:EF):EF:=λY=>(fo Y).bind λx=>match x.1.pv with
 |.dx hk ks ps=>(fk x.2).bind λy=>match y.1.pv with
  |ZB kp=>(pI kp).bind λk=>if hk=HK.hk then !(match jO (ks.zip ps) k with |some p=>Zp p |none=>Zs (R []),y.2) else J
  |_=>J
 |_=>J
def YB(hx:HK.hk=Cg X.prog X.w)(h:PE X (.Call (.Attribute o "get" apos) [e1,e2] [] cpos) (λU H Q=>tP X.K fo U H λx H1=>(∃a hk xs,x=.ref a/\H1 a=!(.ext (vQ hk a xs)))/\jH X.K (aa fk (aa (bO ao) ao)) U H1 λvs H2=>Yq X.prog X.w X.K x vs H2 Q)):
 PE X (.Call (.Attribute o "get" apos) [e1,e2] [] cpos) (tP X.K (yf fo fk)):=PE.imp h λU H Q q=>by
 let(H0,Z0,Y,pd,r,Y',s,h,k):=q;let(x,h1,h2):=bm h;show#[H0,Z0,Y,pd,x.1,x.2,s,h1,λv H1 s1=>?_];split at h2
 . rename_i hk ks ps e0;let(y,h3,h4):=bm h2;let s2:=s1.freeze;rw[e0]at s2;let(el,Z,hg,z,rd,so):=s2.sh;let(a,xs,rfl,g1,g2,g3,g4):=rd;show#[#[a,hk,xs,O,z.zh _ _ g1],H0,Z,x.2,pd,[y.1,Zs (R [])],y.2,#[el,Z,hg,#[z.zh,z.h0,ig.refl Z,λb o e=>Zl e],so],?_,λvs H2 e2 s3=>?_]
   . unfold aa ao bO;simp[h3]
   . let(v1,v2,rfl):=ng e2;let Sm:=s3;split at h4
     . rename_i kp e3;let(W,ek,h5):=bm h4;split at h5
       . rename_i hc;subst hc;cases h5;let s4:=Sm.freeze;rw[e3]at s4;let(D,Z2,j,i,rk,F):=s4.sh;let(b,ws,rfl,hb,mE):=rk;let ew:=tR ek mE;subst ew;subst g2;let hv:=ye (k:=W) g4;show#[a,b,xs,W,v2,O,O,?_,λx hx=>cT.same i.zh (cT.same i.z0.1 (g3 x hx)),cT.same i.zh hb,?_]
         . rw[i.zh _ _ (i.z0.1 _ _ g1),hx];rfl
         have zz:jG H0 Z0 Z2 H2:=#[i.zh,i.h0,z.z0.trans i.z0,λb o e=>by
          obtain q|q:=i.new b o e
          . show z.new b o q
          . show YY q]
         cases N:jO ((xs.map (·.1)).zip ps) W with
         |some p=>
          let(u,eu,ru):=hv.1 p N;rw[eu];rw[N]at k;show k _ _ (.mk D j zz ((F.perm dj.symm).sub (eH _ _) |>.consS (ru.mono i.z0)))
         |none=>
          rw[hv.2 N];rw[N]at k;show k _ _ (.mk D j zz (F.perm dj.symm))
       . cases h5
     . cases h4
 . cases h2
noncomputable def meltL:Mu->List PV->Option (List PV×Mu)
 |mu,[]=>!([],mu)
 |mu,ZA n::ps=>match mu[n]? with
  |some (!q)=>(meltL (mu.set n J) ps).map λr=>(q::r.1,r.2)
  |_=>J
 |_,_=>J
theorem ag.meltL:∀{ps qs:List PV}{mu i:Mu}{vs:List V}{Z:ZG},PL.meltL mu ps=!(qs,i)->aK K Z ps vs->mu.length=Z.g.length->jG H0 Z0 Z H->ag K H0 Z H (cel Z.g mu++ZN)->
 ∃Z',ig Z Z'/\Z'.g=Z.g/\jG H0 Z0 Z' H/\ag K H0 Z' H (cel Z'.g i++ZN)/\aK K Z' qs vs/\i.length=mu.length
 |[],qs,mu,i,vs,Z=>λh r hg z W=>by cases h;show#[Z,ig.refl Z,O,z,W,r,O]
 |p::ps,qs,mu,i,vs,Z=>λh r hg z W=>by
  cases p with
  |ptr n=>
   unfold PL.meltL at h;split at h
   . rename_i q hm;let(t,h1,h2):=cr h;cases h2;let(v,vr,rfl,r1,r2):=r.inv;let(a,rfl,ha):=r1;let(C,p1,p2):=zR ha hm;let Sn:=W.perm (p1.append_right _).symm;let(Q,lz,eg,z1,j):=Sn.freeze z;let(x,ex,rx):=j.1 _ bi;cases ex;let D:=j.sub (eH _ _);have So:ag K H0 Q H ((!(.ref a),J)::(C++ZN)):=by
      show#[λe he=>?_,?_]
      . obtain rfl|he:=aT.mp he
        . trivial
        . show D.1 e he
      .  show D.2
     have N:ag K H0 Q H (cel Q.g (mu.set n J)++ZN):=by rw[eg];show So.perm ((p2 J).append_right _)
     let(Z2,F,Sr,z2,Sz,r7,l7):=ag.meltL h1 (r2.mono lz) ∅ z1 N;show#[Z2,lz.trans F,Sr.trans eg,z2,Sz,aK.cons (rx.mono F) r7,by simpa using l7]
   . cases h
  |_=>cases h
def LC(f:EF):EF:=λY=>(f Y).bind λx=>match x.1.pv with
 |.dx hk ks ps=>(meltL x.2.mu ps).map λr=>(Zp (.dx hk ks r.1),#[x.2.vs,r.2])
 |_=>J
def SA(h:PE X e (tP X.K f)):PE X e (tP X.K (LC f)):=PE.imp h λU H Q q=>by
 let(H0,Z0,Y,pd,l,Y',s,f,k):=q;let(x,h1,h2):=bm f;show#[H0,Z0,Y,pd,x.1,x.2,s,h1,λv H1 s1=>?_];split at h2
 . rename_i hk ks ps N;let(r,h3,h4):=cr h2;cases h4;let j:=s1.freeze;rw[N]at j;let(F,Z,hg,z,rd,so):=j.sh;let(a,xs,rfl,g1,g2,g3,g4):=rd;let(Z2,D,eg,W,i,r2,l2):=ag.meltL h3 g4 hg z so;show k _ H1 (.mk F ∅ W (ag.consS i ?_));show#[a,xs,O,D.1 _ _ g1,g2,λx hx=>cT.same D.1 (g3 x hx),r2]
 . cases h2
end
section
variable {X:Cx}
def qw(i:Nat){pos:Pos}(D:X.N[i]?=!x:=by rfl)(q:R7 X.env.scope x:=by first |show Or.inl O |show Or.inr (Or.inl O) |show Or.inr (Or.inr O))(z:(x==("__debug__" : Str))=M:=by decide)(j:(x==("__classdict__" : Str))=M:=by decide):PE X (.Name x pos) (tP X.K (aj i)):=qv (pv i D q z j)
def aR{j}:PE X (.Constant (.int i) j pos) (tP X.K (af i)):=qc GI gK
def bL{j}:PE X (.Constant (.str i) j pos) (tP X.K (bg i)):=qc GO oR
def Ig{j}:PE X (.Constant .none j pos) (tP X.K (eC .non)):=qc GN Ay
def qI{j}(q:PE X a (tP X.K fa)):PE X (.Subscript a (.Constant (.int i) j p) pos) (tP X.K (aJ fa (af i))):=fU q aR (λ_ _=>O)
def qL{p pos:Pos}(b:X.mg "len"=J)(h:PE X e (tP X.K f))(j:Gl X "len":=by rfl)(i:starEach [e] X.env=(M,eval e X.env)::starEach [] X.env:=by rfl):PE X (.Call (.Name "len" p) [e] [] pos) (tP X.K (eB cz (aa f ao))):=Li uo Uo (jW uo j b n_ (ak h aq i) (he:=i))
def cW(i:Nat){pos pos':Pos}(q:X.N.Nodup)(he:PE X e (tP X.K f))(hi:X.N[i]?=!x:=by rfl)(z:L2.Loc X.env.scope x:=by show Or.inl O)(hs:swapsWith e (!(.Name x pos')) pos.line X.env=pure M:=by rfl)(j:X.fn x=G\/X.env.scope.names.lookup x=!.local:=by first |show Zl O |show YY O |assumption):
 PS X (.Assign [.Name x pos'] e pos) (ik X.K (aM i f)):=vX q hi z he hs j
def cJ(i:Nat){pos:Pos}(z:X.N.Nodup)(hi:X.N[i]?=!x:=by rfl)(q:L2.Loc X.env.scope x:=by show Or.inl O)(j:X.fn x=G\/X.env.scope.names.lookup x=!.local:=by first |show Zl O |show YY O |assumption):PG X (.Name x pos) (JD i):=Oh z hi q j
def jP{z F:List Str}{ixs:List Nat}{sc:Scope}(S:Scope)(Q:X.env.scope=S:=by rfl)(q:sc.kind=.function:=by rfl)(j:∀y∈sc.names,y.2=.local->sc.names.lookup y.1=!.local:=by decide +kernel)(cel:∀y∈sc.names,y.2=.cell->sc.names.lookup y.1=!.cell:=by decide +kernel)
 (own:∀p∈sc.names,p.2=.free->S.names.lookup p.1=!.cell\/S.names.lookup p.1=!.free:=by decide +kernel) (frs:∀x∈F,sc.names.lookup x=!.free:=by decide +kernel) (D:ixs.map (λi=>X.N[i]?)=F.map some:=by rfl):jy X z F ixs sc:=Ps S Q q j cel own frs D
def zY{apos cpos pos:Pos}(q:PE X o (um i))(he:PE X e (tP X.K f))(j:starEach [e] X.env=(M,eval e X.env)::starEach [] X.env:=by rfl)(h1:attributeBase o "append" X.env (eval o X.env)=eval o X.env:=by rfl)
 (h2:((backTo cpos (starEach [e] X.env)).all (λx=>not x.1)&&(backToKw cpos (keywordEach [] X.env)).all (λx=>x.1.isSome)
   && decide (([e]:List Expr).length+([]:List Keyword).length+(if ([]:List Keyword).isEmpty then 0 else 1)<30))=G:=by rfl) (z:(apos.endLine==cpos.line)=G:=by rfl) (hs:swapsWith (.Call (.Attribute o "append" apos) [e] [] cpos) J pos.line X.env=pure M:=by rfl):
 PS X (.Expr (.Call (.Attribute o "append" apos) [e] [] cpos) pos) (ik X.K (jM i f)):=OU (qj (qW F.plainAttrs_list F.slot_list_append F.type_list_append oM q (ak he aq j) h1 h2 z j) hs)
def mW{apos cpos pos:Pos}(q:PE X o (um i))(he:PE X e (tP X.K f))(j:starEach [e] X.env=(M,eval e X.env)::starEach [] X.env:=by rfl)(h1:attributeBase o "extend" X.env (eval o X.env)=eval o X.env:=by rfl)
 (h2:((backTo cpos (starEach [e] X.env)).all (λx=>not x.1)&&(backToKw cpos (keywordEach [] X.env)).all (λx=>x.1.isSome)
   && decide (([e]:List Expr).length+([]:List Keyword).length+(if ([]:List Keyword).isEmpty then 0 else 1)<30))=G:=by rfl) (z:(apos.endLine==cpos.line)=G:=by rfl) (hs:swapsWith (.Call (.Attribute o "extend" apos) [e] [] cpos) J pos.line X.env=pure M:=by rfl):
 PS X (.Expr (.Call (.Attribute o "extend" apos) [e] [] cpos) pos) (ik X.K (fQ i f)):=OV (qj (qW F.plainAttrs_list F.slot_list_extend F.type_list_extend Rk q (ak he aq j) h1 h2 z j) hs)
end
inductive XR(α:Type) where
 |ok (a:α)
 |xc (C:Str) (Y:Ev)
section
variable {X:Cx}
theorem LK:∀{l:List Nat},aK K Z (l.map λi=>PV.int (i:Nat)) (l.map λi=>V.int (i:Nat))
 |[]=>by  rfl
 |x::l=>#[.int x,l.map λi=>V.int (i:Nat),O,by unfold ba;rfl,LK]
def RB(f:EF):EF:=λY=>(f Y).bind λx=>match x.1.pv with
 |ZI j=>if 0<=j/\j<=100000 then !(Zs (R ((List.range j.toNat).map λi=>PV.int (i:Nat))),x.2) else J
 |_=>J
def SE(h:PE X (.Call (.Name "list" p) [.Call (.Name "range" p') [e] [] pos'] [] pos) (zg (λxs H Q=>∃p j,xs=[.ref p]/\H p=!(.rng 0 j)/\0<=j/\j<=100000/\∀l,H l=J->Q (.ref l) (aS H l (.lst ((List.range j.toNat).map λi=>.int (i:Nat))))) (JF (zg (λxs H Q=>∃j,xs=[.int j]/\∀r,H r=J->Q (.ref r) (aS H r (.rng 0 j))) (jH X.K (aa f ao))) J4))):PE X (.Call (.Name "list" p) [.Call (.Name "range" p') [e] [] pos'] [] pos) (tP X.K (RB f)):=PE.imp h λU H Q q=>by
 let(H0,Z0,Y,pd,l,Y',s,h,k):=q;let(x,h1,h2):=bm h;show#[H0,Z0,Y,pd,[x.1],x.2,s,?_,λvs H1 e1 s1=>?_]
 . unfold aa ao;rw[h1];rfl
 . let(v,rfl):=yI e1;let F:=SR.freeze s1;cases e:x.1.pv with
   |int j=>
    rw[e]at h2 F;have h2:(if 0<=j/\j<=100000 then !(Lc.own (R ((List.range j.toNat).map λi=>PV.int (i:Nat))),x.2) else J)=!(l,Y'):=h2;split at h2
    . rename_i N;cases h2;let(el,Z,hg,z,r,so):=F.sh;subst r;show#[j,O,λb hb=>?_];let(z',lz,D):=so.newF z hb;show#[b,j,O,bU,N.1,N.2,λc hc=>k _ _ ?_];let(z2,s3):=D.new (p:=R ((List.range j.toNat).map λi=>PV.int (i:Nat))) z' hc #[_,bU,LK];show .mk (Z:=Z.put b (.rng 0 j)) el hg z2 s3
    . cases h2
   |_=>rw[e]at h2;cases h2
end
noncomputable def RC:PV->Option aW
 |.non=>!J
 |ZI i=>!(!(.inl i))
 |ZH x=>!(!(.inr x))
 |_=>J
def Bm:List PV->Option (List aW)
 |[]=>![]
 |p::ps=>(RC p).bind λk=>(Bm ps).map (k::·)
def Bo:List PV->Option (List (List aW))
 |[]=>![]
 |ZB qs::ps=>(Bm qs).bind λk=>(Bo ps).map (k::·)
 |_::_=>J
def wu:aW->PV
 |none=>.non
 |some (.inl i)=>ZI i
 |some (.inr x)=>ZH x
abbrev Ih(a b:List aW):Prop:=a.map bE<b.map bE
def uD(k:List aW):List (List aW)->List (List aW)
 |[]=>[k]
 |l::r=>if Ih k l then k::l::r else if k=l then l::r else l::uD k r
def jK:List (List aW)->List (List aW)
 |[]=>[]
 |k::r=>uD k (jK r)
def SG(h1:¬ Ih a b)(h2:¬ a=b):Ih b a:=
 Classical.byContradiction λz=>h2 (Ek ∅)
theorem Dg:∀{l:List (List aW)},y∈uD k l ↔ y=k\/y∈l
 |[]=>by unfold uD;simp
 |l::r=>by
  unfold uD;split
  . rw[aT]
  . split
    . rename_i e;subst e;rw[aT];show#[YY,λq=>q.elim Zl id]
    . rw[aT,Dg,aT];show#[λq=>q.elim (λq=>YY (Zl q)) λq=>q.elim Zl λq=>YY (YY q),λq=>q.elim (λq=>YY (Zl q)) λq=>q.elim Zl λq=>YY (YY q)]
theorem oW:∀{l:List (List aW)},y∈jK l ↔ y∈l
 |[]=>Iff.rfl
 |k::r=>by unfold jK;rw[Dg,oW,aT]
theorem P0:∀{l:List (List aW)},l.Pairwise Ih->(uD k l).Pairwise Ih
 |[]=>λ_=>by  show List.pairwise_singleton _ _
 |l::r=>λh=>by
  let j:=List.pairwise_cons.mp h;unfold uD;split
  . rename_i q;show List.pairwise_cons.mpr #[λy i=>by
     obtain rfl|i:=aT.mp i
     . show q
     . show List.lt_trans q (j.1 y i),h]
  . rename_i q;split
    . show h
    . rename_i z;show List.pairwise_cons.mpr #[λy i=>?_,P0 j.2];obtain rfl|i:=Dg.mp i
      . show SG q z
      . show j.1 y i
theorem yg:∀{l:List (List aW)},(jK l).Pairwise Ih
 |[]=>.nil
 |k::r=>P0 yg
theorem RD:∀{a b:List (List aW)},a.Pairwise Ih->b.Pairwise Ih->(∀y,y∈a ↔ y∈b)->a=b
 |[],[]=>λ_ _ _=>rfl
 |[],y::b=>λ_ _ m=>by cases (m y).mpr bi
 |x::a,[]=>λ_ _ m=>by cases (m x).mp bi
 |x::a,y::b=>λh1 h2 m=>by
  let c1:=List.pairwise_cons.mp h1;let q:=List.pairwise_cons.mp h2;have e:x=y:=by
   obtain e|e:=aT.mp ((m x).mp bi)
   . show e
   . obtain j|j:=aT.mp ((m y).mpr bi)
     . show j.symm
     . show absurd (List.lt_trans (q.1 x e) (c1.1 y j)) ∅
  subst e;rw[RD c1.2 q.2 λz=>?_];constructor
  . intro i;obtain e|e:=aT.mp ((m z).mp (cv _ i))
    . subst e;show absurd (c1.1 z i) ∅
    . show e
  . intro i;obtain e|e:=aT.mp ((m z).mpr (cv _ i))
    . subst e;show absurd (q.1 z i) ∅
    . show e
def UW:List (List aW)->Bool
 |[]=>G
 |k::r=>(k.map oO).head?==some 0&&(k::r).all λl=>l.map oO==k.map oO&&l.any λx=>oO x==1
def SH(h:UW ks=G):∃sh,∀k∈ks,k.map oO=0::sh/\ut k:=by
 cases ks with
 |nil=>show#[[],λk hk=>by cases hk]
 |cons k r=>
  unfold UW at h;rw[gt,List.all_eq_true]at h;let(h1,h2):=h;let e:=eq_of_beq h1;cases q:k.map oO with
  |nil=>rw[q]at e;cases e
  |cons x sh=>
   rw[q]at e;cases e;show#[sh,λl F=>?_];let z:=h2 l F;rw[gt,List.any_eq_true]at z;let(N,x,Q,D):=z;show#[by rw[<-q];show eq_of_beq N,?_];let j:=eq_of_beq D;obtain _|i|y:=x
   . cases j
   . cases j
   . show#[y,Q]
section
variable {X:Cx}
def Xi(h:RC p=!k)(r:ba K Z p v):v=nj k/\p=wu k:=by cases p<;>first |(cases h;unfold ba at r;show#[r,O]) |cases h
theorem Ii:∀{ps:List PV}{vs:List V}{k:List aW},Bm ps=!k->aK K Z ps vs->vs=k.map nj/\ps=k.map wu
 |[],vs,k=>λh r=>by cases h;show#[r,O]
 |p::ps,vs,k=>λh r=>by let(v,W,rfl,h1,h2):=r;let(x,Q,q):=bm h;let(y,F,z):=cr q;cases z;let(j,N):=Xi Q h1;let(i,D):=Ii F h2;show#[by rw[j,i];rfl,by rw[N,D];rfl]
theorem Ij:∀{ps:List PV}{vs:List V}{ks:List (List aW)},Bo ps=!ks->aK K Z ps vs->∃bs:BK,vs=bs.map (λp=>V.ref p.1)/\bs.map (·.2)=ks/\∀p∈bs,cT K Z.z p.1 (p.2.map nj)/\ba K Z (ZB (p.2.map wu)) (.ref p.1)
 |[],vs,ks=>λh r=>by cases h;show#[[],r,O,λp i=>by cases i]
 |p::ps,vs,ks=>λh r=>by
  let(v,r',rfl,h1,h2):=r;cases p with
  |tup qs=>
   let(k,g1,F):=bm h;let(y,g3,W):=cr F;cases W;let(bs,Q,e2,e3):=Ij g3 h2;let j:=h1;let(a,ws,rfl,q,q2):=h1;let(N,D):=Ii g1 q2;show#[(a,k)::bs,by rw[Q];rfl,by rw[dE,e2],λp i=>?_];obtain rfl|i:=aT.mp i
   . show#[by rw[<-N];show q,by rw[<-D];show j]
   . show e3 p i
  |_=>cases h
theorem Ik:∀{cs:BK},(∀p∈cs,ba K Z (ZB (p.2.map wu)) (.ref p.1))->aK K Z ((cs.map (·.2)).map λk=>PV.tup (k.map wu)) (cs.map λp=>V.ref p.1)
 |[]=>λ_=>.nil
 |p::cs=>λh=>aK.cons (h p bi) (Ik λq i=>h q (cv _ i))
def rT(f:EF):EF:=λY=>(f Y).bind λx=>match x.1.pv with
 |R ps=>(Bo ps).bind λks=>if ks.length<9000/\UW ks=G then !(Zs (R ((jK ks).map λk=>ZB (k.map wu))),x.2) else J
 |_=>J
def Ff(h:PE X (.Call (.Name "sorted" p) [.Call (.Name "set" p') [e] [] pos'] [] pos) (zg (Ub X) (JF (zg (Ys X) (jH X.K (aa f ao))) J4))):PE X (.Call (.Name "sorted" p) [.Call (.Name "set" p') [e] [] pos'] [] pos) (tP X.K (rT f)):=PE.imp h λU H Q q=>by
 let(H0,Z0,Y,pd,l,Y',s,h,k):=q;let(x,h1,h2):=bm h;show#[H0,Z0,Y,pd,[x.1],x.2,s,?_,λvs H1 e1 s1=>?_]
 . unfold aa ao;rw[h1];rfl
 . let(v,rfl):=yI e1;let s2:=SR.freeze s1;cases e:x.1.pv with
   |lst ps=>
    rw[e]at h2 s2;let(ks,g1,F):=bm h2;split at F
    . rename_i D;let(D,ho):=D;cases F;let(el,Z,hg,z,r,so):=s2.sh;let(a,us,rfl,r1,r2):=r;let(bs,eu,ek,N):=Ij g1 r2;let(sh,hs):=SH ho;subst eu;have lb:bs.length<9000:=by rw[<-ek,bq]at D;show D
      have j:∀p∈bs,p.2.map oO=0::sh/\ut p.2:=λp i=>hs _ ∅;show#[a,bs,O,bV.same z.zh r1,λp i=>#[cT.same z.zh (N p i).1,(j p i).2],lb,λb mS=>?_];let(z',lz,no):=so.newF z mS;show#[b,bs,sh,O,bU,λp i=>#[cT.same z'.zh (cT.same lz.1 (N p i).1),(j p i).1],lb,λc cs hc m1 m2 pw=>k _ _ ?_];have es:cs.map (·.2)=jK ks:=by
       show RD ∅ yg λy=>?_;rw[oW,<-ek];constructor
       . intro W;let(p,i,rfl):=cK.mp W;show List.mem_map_of_mem (m1 p i)
       . intro W;let(p,i,rfl):=cK.mp W;let(q,hq,e):=m2 p i;show cK.mpr #[q,hq,e]
      rw[<-es];let(z2,s3):=no.new (p:=R ((cs.map (·.2)).map λk=>PV.tup (k.map wu))) z' hc #[_,bU,Ik λp i=>(N p (m1 p i)).2.mono lz];show .mk (Z:=Z.put b (.ext (En X.prog X.w b bs))) el hg z2 s3
    . cases F
   |_=>rw[e]at h2;cases h2
def SI(P:Program)(w:World)(K:FG):R2:=λx y H Q=>∃a b xs k v,x=.ref a/\y=.ref b/\H a=!(dX P w a xs)/\(∀x∈xs,cT K H x.2.1 (x.1.map nj))/\cT K H b (k.map nj)/\jJ xs k=!v/\Q v H
def SK(hu:X.A.units+1<cLine):zj X (SI X.prog X.w X.K):=by intro value D ae s U H x y v u Q I rx W h hs;let(a,b,xs,k,z,rfl,rfl,hH,i,hb,hl,q):=h;cases rx;cases (W);let(z',m,ys,xr,N):=I.dx hH i;let(p',j,rp):=(xr.at).1 z hl;show tail_any N.typeIs F.slot_dict_getitem.lookup (wpAny_getItem_heap (tupleKind_room_in1 hu) (t8 I hb) N j #[z,H,I.tok _,rp,q]) hs
variable [HK]
open Classical in
def RG(fa fb:EF):EF:=λY=>(fa Y).bind λx=>(fb x.2).bind λy=>match x.1.pv with
 |.dx hk ks ps=>match y.1.pv with
  |ZB kp=>(pI kp).bind λk=>if hk=HK.hk then (jO (ks.zip ps) k).map λp=>(Zp p,y.2) else J
  |_=>J
 |_=>J
def SO(N:HK.hk=Cg X.prog X.w)(hu:X.A.units+1<cLine)(ha:PE X a (tP X.K fa))(hb:PE X b (tP X.K fb))(hm:An b):PE X (.Subscript a b pos) (tP X.K (RG fa fb)):=PE.imp (Rc (SK hu) ha hb hm) λU H Q q=>by
 let(H0,Z0,Y,pd,l,Y',s,f,k):=q;let(x,h1,h2):=bm f;let(y,h3,i):=bm h2;show#[H0,Z0,Y,pd,x.1,x.2,s,h1,λv H1 s1=>#[H0,Z0,x.2,_,y.1,y.2,s1.freeze,h3,λw H2 s2=>?_]];let(el,Z,hg,z,rl,so):=SR.repl (vs:=[w,v]) (ls:=[y.1,Zp x.1.pv]) s2 O;let(_,_,D,r1,j):=rl;cases D;let(_,_,D,j,_):=j;cases D;split at i
 . rename_i hk ks ps e0;split at i
   . rename_i kp e3;let(kk,ek,W):=bm i;split at W
     . rename_i hc;subst hc;let(p,hp,h6):=cr W;cases h6;rw[e3]at r1;rw[e0]at j;let(b,ws,rfl,mS,F):=r1;let(a,xs,rfl,g1,g2,g3,g4):=j;let ew:=tR ek F;subst ew;subst g2;let(u,eu,ru):=(ye g4).1 p hp;show#[a,b,xs,kk,u,O,O,?_,λx N=>cT.same z.zh (g3 x N),cT.same z.zh mS,eu,k _ _ (.mk el hg z (so.consS ru))];rw[z.zh _ _ g1,N];rfl
     . cases W
   . cases i
 . cases i
end
end PL
namespace Law
open PL.PV renaming lst→R,int→ZI,str→ZH,tup→ZB,ptr→ZA
open PL.Lc renaming own→Zs,sh→Zp
open PySem PySem.Spec PyProof.Rows L2 PL
local macro_rules | `(tactic| walk_at "sc")=>`(tactic| exact⟨rfl,rfl,rfl,by decide +kernel,rfl,by decide +kernel,by decide +kernel⟩)
def mI{l:List Str}(i:Nat)(h:l[i]?=!a):a∈l:=eR h
noncomputable def top (i:Nat):Stmt:=PySem.Challenge.pw_hushwise_k34_rules_as_a_row_is_done.main.body.getD i (.Pass #[0,0,0,0])
abbrev vJ:Stmt:=top 1
abbrev oF:Stmt:=top 2
abbrev yh:Stmt:=top 3
abbrev lN:Stmt:=top 4
abbrev tU:Stmt:=top 5
abbrev tV:Stmt:=top 6
abbrev yj:Stmt:=top 7
abbrev Bp:Stmt:=top 8
abbrev tW:Stmt:=top 9
abbrev ym:Stmt:=top 10
abbrev pJ:Stmt:=top 14
abbrev qJ:Stmt:=top 15
abbrev pK:Stmt:=top 16
abbrev jz:Stmt:=top 17
abbrev lr:Stmt:=top 18
abbrev qK:Stmt:=top 19
abbrev pL:Stmt:=top 20
abbrev nR:Stmt:=top 21
abbrev pM:Stmt:=top 22
abbrev nT:Stmt:=top 23
abbrev qM:Stmt:=top 25
abbrev lO:Stmt:=top 26
abbrev mX:Stmt:=top 27
abbrev tX:Stmt:=top 28
abbrev rE:Stmt:=top 29
abbrev uE:Stmt:=top 30
abbrev gZ:Stmt:=top 31
abbrev rF:Stmt:=top 32
abbrev tY:Stmt:=top 33
abbrev uF:Stmt:=top 34
abbrev tZ:Stmt:=top 35
abbrev vh:Stmt:=top 36
abbrev jY:Stmt:=ck (top 12) 0
abbrev pN:Stmt:=ck (top 12) 1
abbrev qN:Stmt:=ck (top 12) 3
abbrev vK:Stmt:=ck (top 12) 4
abbrev uG:Stmt:=ck (top 12) 5
abbrev sW:Stmt:=ck (top 12) 6
abbrev uH:Stmt:=ck (top 12) 7
abbrev sX:Stmt:=ck (top 12) 8
abbrev lQ:Stmt:=ck (top 12) 9
abbrev jZ:Stmt:=ck (top 12) 10
def LR:bC ["row"] ["row"] (aG vJ):=by walk_at "sc"
def BJ:bC ["row"] ["row"] (aG oF):=by walk_at "sc"
def U0:bC ["row"] ["row"] (aG yh):=by walk_at "sc"
def Jm:bC ["rows"] ["rows"] (aG lN):=by walk_at "sc"
def rG:bC ["rows","told","row","block"] ["rows"] (aG tU):=by walk_at "sc"
def kW:bC ["where","above","block","rows","start","told","row","number","place","inner"] ["where","above","block","rows","start"] (aG tV):=by walk_at "sc"
def kY:bC ["program","told","name","rank","params","rows"] ["program"] (aG yj):=by walk_at "sc"
def Xj:bC ["expression"] ["expression"] (aG Bp):=by walk_at "sc"
def NB:bC ["expression"] ["expression"] (aG tW):=by walk_at "sc"
def U3_:bC ["row"] ["row"] (aG ym):=by walk_at "sc"
def nU:bC ["plan","k","row","told","numbers"] ["plan","k"] (aG pJ):=by walk_at "sc"
def yo:bC ["program","plan","told","k"] ["program"] (aG qJ):=by walk_at "sc"
def Jo:bC ["expression"] ["expression"] (aG pK):=by walk_at "sc"
def oG:bC ["plan","k","ahead","told"] ["plan","k"] (aG jz):=by walk_at "sc"
def j0:bC ["plan","k","outer","told","row"] ["plan","k"] (aG lr):=by walk_at "sc"
def pO:bC ["plan","k","numbers","told"] ["plan","k"] (aG qK):=by walk_at "sc"
def jx:bC ["plan","k","row","told","param","expression"] ["plan","k"] (aG pL):=by walk_at "sc"
def qO:bC ["k","name","some","told","expression"] ["k","name","some"] (aG nR):=by walk_at "sc"
def yJ:bC ["plan","k","row"] ["plan","k"] (aG pM):=by walk_at "sc"
def qP:bC ["plan","k","home","numbers"] ["plan","k"] (aG nT):=by walk_at "sc"
def Fg:bC ["_law_script","_law_k"] ["_law_script","_law_k"] (aG qM):=by walk_at "sc"
def gf:bC ["_law_cell","_law_count","_law_letters","_law_names_here","_law_text","_law_k","_law_size","_law_at","_law_signs"] ["_law_cell","_law_count"] (aG lO):=by walk_at "sc"
def cN:bC ["_law_cell","_law_own","_law_lists","_law_made","_law_k","_law_step","_law_other","_law_sign"] ["_law_cell","_law_own","_law_lists"] (aG mX):=by walk_at "sc"
def jc:bC ["_law_cell","_law_own","_law_lists","_law_heads_here","_law_whos","_law_one","_law_other","_law_kind","_law_goal","_law_name","_law_params","_law_some"] ["_law_cell","_law_own","_law_lists","_law_heads_here","_law_whos"] (aG tX):=by walk_at "sc"
def lR:bC ["_law_cells","_law_own","_law_lists","_law_heads_here","_law_whos","_law_body","_law_stack","_law_cell","_law_row_here"] ["_law_cells","_law_own","_law_lists","_law_heads_here","_law_whos"] (aG rE):=by walk_at "sc"
def nW:bC ["_law_cell","_law_names_here","_law_heads_here","_law_j","_law_size"] ["_law_cell","_law_names_here"] (aG uE):=by walk_at "sc"
def b8:bC ["_law_script","_law_cell","_law_names_here","_law_ranks","_law_numbers","_law_lists","_law_heads_here","_law_boxes","_law_cells","_law_whos","_law_functions","_law_j","_law_head","_law_rows_here"] ["_law_script"] (aG gZ):=by walk_at "sc"
def Ma:bC ["_law_expression_here"] ["_law_expression_here"] (aG rF):=by walk_at "sc"
def kZ:bC ["_law_rows_here","_law_first","_law_told","_law_k","_law_row_here","_law_block"] ["_law_rows_here","_law_first","_law_told"] (aG tY):=by walk_at "sc"
def nY:bC ["_law_k","_law_name","_law_some","_law_due_here","_law_expression_here","_law_name_read"] ["_law_k","_law_name","_law_some"] (aG uF):=by walk_at "sc"
def eO:bC ["_law_program_here","_law_k","_law_row_here","_law_here","_law_due_here","_law_name","_law_rank","_law_params","_law_rows_here","_law_param","_law_expression_here"] ["_law_program_here","_law_k","_law_row_here"] (aG tZ):=by walk_at "sc"
def jA:bC ["_law_script","_law_program_here","_law_told","_law_k","_law_name","_law_rank","_law_params","_law_rows_here","_law_due_here","_law_row_here","_law_got"] ["_law_script"] (aG vh):=by walk_at "sc"
def dD:bC ["self","program","told","lists","number","one","heads","name","rank","params","rows"] ["self","program"] (aG jY):=by walk_at "sc"
def Dh:bC ["self"] ["self"] (aG pN):=by walk_at "sc"
def Fi:bC ["self","name"] ["self","name"] (aG qN):=by walk_at "sc"
def Mf:bC ["self","k"] ["self","k"] (aG vK):=by walk_at "sc"
def Jp:bC ["self","k"] ["self","k"] (aG uG):=by walk_at "sc"
def GP:bC ["self","k"] ["self","k"] (aG sW):=by walk_at "sc"
def Jq:bC ["self","name"] ["self","name"] (aG uH):=by walk_at "sc"
def GQ:bC ["self","k","which"] ["self","k","which"] (aG sX):=by walk_at "sc"
def lg:bC ["self","k","beside","place"] ["self","k"] (aG lQ):=by walk_at "sc"
def BP:bC ["self","numbers"] ["self","numbers"] (aG jZ):=by walk_at "sc"
section
variable [HK]
abbrev A8:=aa (aJ (aj 0) (af 3)) ao
abbrev j2:=aa (aJ (aj 0) (af 2)) ao
abbrev A9:=cH (bO (aa (aJ (aj 0) (af 2)) ao))
abbrev tS:=tT (az c5 (aJ (aj 0) (af 0)) (bg "if")) bh
abbrev t0:=tT (az c5 (aJ (aj 0) (af 0)) (bg "while")) bh
abbrev A_:=cH (bO (aa (aJ (aj 0) (af 2)) (aa (aJ (aj 0) (af 3)) ao)))
def gC:GF:=c7 1 (aF (cQ tS
 A_
 cu)
 (aF (cQ t0
 A9
 cu)
 (cH (bO ao))))
abbrev oS:=aa (aJ (aj 0) (af 1)) ao
abbrev SU:=bO (aa (aJ (aj 0) (af 1)) ao)
abbrev Bi:=cH (bO (aa (aJ (aj 0) (af 1)) ao))
abbrev Bn:=eB ge (aa (aJ (aj 0) (af 3)) ao)
abbrev Bz:=tT (az c5 (aJ (aj 0) (af 0)) (bg "call")) bh
def j4:GF:=c7 1 (aF (cQ (sS tS t0)
 Bi
 cu)
 (aF (cQ (tT (az c5 (aJ (aj 0) (af 0)) (bg "put")) bh)
 A_
 cu)
 (aF (cQ Bz
 (cH Bn)
 cu)
 A9)))
mutual
def j5:Nat->GF
 |0=>λ_ _=>J
 | n+1=>c7 1 (aF (cQ tS
  (cH (aX (aa (bg "if") (aa (aJ (aj 0) (af 1)) (aa (aP (fK n) j2) (aa (aP (fK n) A8) ao))))))
  cu)
  (aF (cQ t0
  (cH (aX (aa (bg "while") (aa (aJ (aj 0) (af 1)) (aa (aP (fK n) j2) ao)))))
  cu)
  (aF (cQ Bz
  (cH (aX (aa (bg "call") (aa (aJ (aj 0) (af 1)) (aa (aJ (aj 0) (af 2)) (aa Bn ao))))))
  cu)
  (iG 0))))
def fK:Nat->GF
 |0=>λ_ _=>J
 |n+1=>c7 1 (cH (cF (dG (aj 0) bN) 1 [] (aC 0) bQ (aP (j5 n) (aa (aj 0) ao))))
end
def ir:Nat->GF
 |0=>λ_ _=>J
 | n+1=>c7 4 (aF (aM 1 (bO ao))
  (aF (fH (dG (aj 0) bN) (aC 2)
  (aF (jM 1 (aj 2))
  (fH (dG (aP gC (aa (aj 2) ao)) bN) (aC 3)
  (fQ 1 (aP (ir n) (aa (aj 3) ao))))))
  (iG 1)))
abbrev t9:=dR 2 (aO (aC 8) (aO (aC 9) dN))
abbrev BA:=aM 7 (u9 (az bj (aj 4) (eB cz (aa (aj 5) ao))))
abbrev BB:=jM 5 (aX (aa (aj 0) (aa (aj 1) (aa (aj 2) (aa (aP (j5 40) (aa (aj 6) ao)) ao)))))
abbrev BC:=aa (aj 0) (aa (aj 7) (aa (aj 8) (aa (aj 9) (aa (u9 (az bj (aj 4) (eB cz (aa (aj 5) ao)))) ao))))
def gG:Nat->GF
 |0=>λ_ _=>J
 | n+1=>c7 10 (aF (aM 5 (bO ao))
  (aF (fH (dG (aj 3) bN) (aC 6)
  (aF BA
  (aF BB
  (fH (uA (aP gC (aa (aj 6) ao))) t9
  (fQ 5 (aP (gG n) BC))))))
  (iG 5)))
abbrev BD:=aa (u9 (eB cz (aa (aj 1) ao))) ao
abbrev t_:SF:=(fQ 1 (aP (gG 40) (aa (aj 2) (aa (eC .non) (aa (af 0) (aa (aj 5) BD))))))
abbrev SV:=aO (aC 4) (aO (aC 5) dN)
abbrev BG:=dR 4 (aO (aC 2) (aO (aC 3) (aO (aC 4) (aO (aC 5) dN))))
def yp:GF:=c7 6 (aF (aM 1 (bO ao))
 (aF (fH (dG (aJ (aj 0) (af 2)) bN) BG
 t_)
 (aF (fQ 1 (aP (gG 40) (aa (bg "main") (aa (eC .non) (aa (af 0) (aa (aJ (aj 0) (af 3)) BD))))))
 (iG 1))))
abbrev BH:=tT (az c5 (aJ (aj 0) (af 0)) (bg "@")) bh
abbrev BI:=tT (az c5 (aJ (aj 0) (af 0)) (bg "num")) bh
abbrev BM:=tT (az c5 (aJ (aj 0) (af 0)) (bg "box")) bh
def mD:Nat->GF
 |0=>λ_ _=>J
 | n+1=>c7 1 (aF (cQ BI
  (cH (bO ao))
  cu)
  (aF (cQ BM
  (cH (bO (aa (aX (aa (bg "box") oS)) ao)))
  cu)
  (aF (cQ BH
  (cH (az bj (bO (aa (aX (aa (bg "list") oS)) ao)) (aP (mD n) j2)))
  cu)
  (cH (az bj (aP (mD n) oS) (aP (mD n) j2))))))
abbrev kF:=dR 2 (aO (aC 0) (aO (aC 1) dN))
def yq:GF:=c7 1 (cH (xZ (cF (dG (aP (mD 40) (aa (aj 0) ao)) bN) 2 [] kF bQ (aj 1))))
abbrev BN:=az tB (aJ (aj 0) (af 0)) (aX (aa (bg "while") (aa (bg "call") ao)))
def yr:GF:=c7 1 (cH (eB W0 (aa (cF (dG (aP (ir 40) (aa (bO (aa (aj 0) ao)) ao)) bN) 1 [] (aC 0) bQ BN) ao)))
abbrev ua:=ju "Plan" "told" (aj 0)
abbrev ub:=ju "Plan" "lists" (aj 0)
abbrev SW:=aa (aj 1) (aa (aj 2) ao)
abbrev ui:=aJ (ju "Plan" "told" (aj 0)) (aj 1)
abbrev SY:=aJ (aJ (ju "Plan" "told" (aj 0)) (aj 1)) (af 0)
abbrev BO:=aa (aJ (aJ (ju "Plan" "told" (aj 0)) (aj 1)) (af 0)) (aa (aj 1) (aa (aj 2) ao))
abbrev BQ:=aX (aa (aJ (aJ (ju "Plan" "told" (aj 0)) (aj 1)) (af 0)) (aa (aj 1) (aa (aj 2) ao)))
def dU:GF:=c7 3 (cH (eB ge (aa (yf ub BQ) ao)))
def dI:GF:=c7 2 (cH (aJ ui (af 3)))
abbrev BS:=aa (cV "Plan" "row" dI (aj 1) (aa (aj 0) ao)) ao
def fL:GF:=c7 2 (cH (eB W0 (aa (cF (dG (aj 1) bN) 1 [0] (aC 0) bQ (aP yr BS)) ao)))
abbrev S1:=az bj (bg "leave ") (aJ (aj 2) (af 2))
abbrev BU:=aa (aj 0) (aa (aJ (aj 4) (uy (af 1))) ao)
abbrev ve:=tT (az c5 (aJ (aj 2) (af 0)) (bg "if")) bh
abbrev S4:=cV "Plan" "spending" fL (aj 0) (aa (aj 4) ao)
abbrev nr:=aM 2 (cV "Plan" "row" dI (aj 0) (aa (aj 1) ao))
abbrev oT:=tT (az c5 (aJ (aj 2) (af 0)) (bg "call")) bh
abbrev BY:=jM 3 (az bj (bg "leave ") (aJ (aj 2) (af 2)))
abbrev B0:=tT (cV "Plan" "spending" fL (aj 0) (aa (aj 4) ao)) xN
abbrev B1:=dG (aX (aa (cV "Plan" "block" dU (aj 0) (aa (aj 1) (aa (af 0) ao))) (aa (cV "Plan" "block" dU (aj 0) (aa (aj 1) (aa (af 1) ao))) ao))) bN
def dz:Nat->GF
 |0=>λ_ _=>J
 | n+1=>c7 5 (aF nr
  (aF (aM 3 (bO (aa (nD "at " (aj 1)) ao)))
  (aF (cQ oT
  BY
  cu)
  (aF (cQ ve
  (fH B1 (aC 4)
  (cQ B0
  (fQ 3 (aP (dz n) BU))
  cu))
  cu)
  (iG 3)))))
abbrev S_:=aO (aC 9) (aO (aC 10) dN)
abbrev uj:=dR 2 (aO (aC 4) (aO (aC 5) dN))
abbrev B2:=Bl 3 (oE (aj 5) iZ (dB (af 3)))
abbrev B3:=dR 4 (aO (aC 7) (aO (aC 8) (aO (aC 9) (aO (aC 10) dN))))
def j6:GF:=c7 11 (aF (aM 2 (aP yp (aa (aj 1) ao)))
 (aF (aM 3 UV)
 (aF (fH (uA (aj 2)) uj
 (nQ B2 (aj 4)))
 (aF (aM 6 Uy)
 (aF (fH (dG (aJ (aj 1) (af 2)) bN) B3
 (Ey 6 (aj 7) (cF (dG (aj 9) bN) 2 [] kF bQ (aj 0))))
 (aF (Bj "Plan" "told" (aj 0) (aj 2))
 (aF (Bj "Plan" "lists" (aj 0) (LC (aj 3)))
 (Bj "Plan" "heads" (aj 0) (aj 6)))))))))
def pP:GF:=c7 1 (cH (RB (eB cz (aa ua ao))))
abbrev B6:=az Uj (aJ (aj 2) (af 0)) (bg "call")
def jQ:GF:=c7 3 (aF nr
 (aF (cQ (tT B6 bh)
 (cH (bO ao))
 cu)
 (cH (cF (dG (aX (aa (az bj (bg "box ") (aJ (aj 2) (af 2))) (aa (nD "at " (aj 1)) (aa S1 ao)))) bN) 1 [2] (aC 0) bQ (aX (aa (aj 0) (aa (az bj (bg "box ") (aJ (aj 1) (af 1))) ao)))))))
abbrev B7:=tT (az c5 (aj 3) (af 0)) bh
abbrev B8:=aJ (aj 2) (az Lh (aj 3) (af 1))
abbrev Ta:=oE (aJ (ju "Plan" "told" (aj 0)) (aj 1)) iZ (dB (af 3))
def iz:GF:=c7 4 (aF (aM 2 (RG ub Ta))
 (aF (aM 3 (Lq (aj 2) (aj 1)))
 (cH (Yt B7 (eC .non) B8))))
def lU:GF:=c7 2 (cH SY)
def nZ:GF:=c7 2 (cH (aJ ui (af 1)))
def iB:GF:=c7 1 (cH (cF (dG (aP yq (aa (aj 0) ao)) bN) 1 [] (aC 0) bQ (nD "box " (aj 0))))
abbrev uk:=tT (az Rv (aj 2) (eC .non)) bh
abbrev Tb:=cV "Plan" "home" lU (aj 0) (aa (aj 1) ao)
abbrev B9:=cV "Plan" "outer" nZ (aj 0) (aa (aj 1) ao)
abbrev B_:=aM 4 (cV "Plan" "row" dI (aj 0) (aa (aj 2) ao))
abbrev vc:=aM 3 (bO (aa (aX (aa (bg "within") (aa (nD "at " (aj 2)) ao))) ao))
def lu:GF:=c7 5 (aF (aM 2 B9)
 (aF (cQ uk
 (cH (bO (aa (aX (aa (bg "enter") (aa (az bj (bg "enter ") Tb) ao))) ao)))
 cu)
 (aF vc
 (aF B_
 (aF (cQ (tT (az c5 (aJ (aj 4) (af 0)) (bg "if")) bh)
 (fQ 3 (cF (dG (aP iB (aa (aJ (aj 4) (af 1)) ao)) bN) 1 [] (aC 0) bQ (aX (aa (bg "choice") (aa (aj 0) ao)))))
 cu)
 (iG 3))))))
abbrev Cb:=aM 2 (cV "Plan" "block" dU (aj 0) (aa (aj 1) (aa (af 0) ao)))
abbrev Cc:=aM 3 (aP iB (aa (aJ (cV "Plan" "row" dI (aj 0) (aa (aj 1) ao)) (af 1)) ao))
def qQ:GF:=c7 4 (aF Cb
 (aF Cc
 (aF (cQ (tT (aj 2) xN)
 (fQ 3 (aP (dz 40) (aa (aj 0) (aa (aJ (aj 2) (uy (af 1))) ao))))
 cu)
 (iG 3))))
abbrev Cf:=aa (aj 0) (aa (aj 1) ao)
abbrev Ch:=fQ 3 (aP lu (aa (aj 0) (aa (aj 1) ao)))
abbrev uu:=aM 2 (cV "Plan" "just_ahead" iz (aj 0) (aa (aj 1) ao))
abbrev Cn:=az c5 (aJ (cV "Plan" "row" dI (aj 0) (aa (aj 1) ao)) (af 0)) (bg "while")
abbrev Co:=fQ 3 (cF (dG (aP (dz 40) (aa (aj 0) (aa (aj 2) ao))) bN) 1 [] (aC 0) bQ (aX (aa (bg "behind") (aa (aj 0) ao))))
def jB:GF:=c7 4 (aF uu
 (aF (aM 3 (bO ao))
 (aF (cQ uk
 Ch
 Co)
 (aF (cQ (tT Cn bh)
 (fQ 3 (cF (dG (aP qQ Cf) bN) 1 [] (aC 0) bQ (aX (aa (bg "turns") (aa (aj 0) ao)))))
 cu)
 (iG 3)))))
def qR:GF:=c7 2 (cH (eB ge (aa (tI (ju "Plan" "heads" (aj 0)) (aj 1)) ao)))
abbrev Cs:=cF (dG (aP iB (aa (aj 4) ao)) bN) 1 [1] (aC 0) bQ (aX (aa (bg "value") (aa (aj 0) (aa (nD "box " (aj 1)) ao))))
def kE:GF:=c7 5 (aF (aM 3 (bO (aa (aX (aa (bg "done") (aa (nD "at " (aj 0)) (aa (nD "box " (aj 1)) ao)))) ao)))
 (aF (fH (dG (aj 2) bN) (aC 4)
 (fQ 3 Cs))
 (iG 3)))
abbrev o_:=aa (aJ (aj 2) (af 2)) ao
abbrev Ct:=tT (az c5 (aJ (aj 2) (af 0)) (bg "set")) bh
abbrev CA:=tT (az c5 (aJ (aj 2) (af 0)) (bg "put")) bh
abbrev CB:=tT (az c5 (aJ (aj 2) (af 0)) (bg "out")) bh
abbrev pb:=aa (az bj (bg "box ") (aJ (aj 2) (af 1))) ao
abbrev CC:=aa (az bj (bg "enter ") (aJ (aj 2) (af 2))) ao
abbrev CD:=aP kE (aa (aj 1) (aa (aj 4) (aa (bO (aa (aj 5) ao)) ao)))
def pQ:GF:=c7 6 (aF nr
 (aF (cQ (sS Ct CA)
 (cH (aP kE (aa (aj 1) (aa (aJ (aj 2) (af 1)) (aa (aP j4 (aa (aj 2) ao)) ao)))))
 cu)
 (aF (cQ CB
 (aF (aM 3 (cF (dG (aP iB o_) bN) 1 [1] (aC 0) bQ (aX (aa (bg "let") (aa (aj 0) (aa (nD "let " (aj 1)) ao))))))
 (cH (az bj (aj 3) (bO (aa (aX (aa (bg "out") (aa (nD "out " (aj 1)) pb))) (aa (aX (aa (bg "done") (aa (nD "at " (aj 1)) pb))) ao))))))
 cu)
 (aF (cQ oT
 (aF (aM 3 (bO (aa (aX (aa (bg "call") (aa (nD "at " (aj 1)) CC))) ao)))
 (aF (fH (Bg (cV "Plan" "params" qR (aj 0) o_) (aJ (aj 2) (af 3))) uj
 (fQ 3 CD))
 (iG 3)))
 cu)
 (cH (bO ao))))))
abbrev CF:=aa (aj 1) (aa (eC .non) (aa (af 0) ao))
abbrev CH:=aX (aa (aj 1) (aa (eC .non) (aa (af 0) ao)))
def pR:GF:=c7 2 (cH (eB ge (aa (yf ub CH) ao)))
abbrev CL:=tT (az Uj (aJ (aj 3) (uy (af 1))) (aj 1)) bh
abbrev CM:=aM 2 (cV "Plan" "home" lU (aj 0) (aa (aj 1) ao))
abbrev CO:=aM 3 (cV "Plan" "body" pR (aj 0) (aa (aj 2) ao))
abbrev CS:=Az (tT (cV "Plan" "spending" fL (aj 0) (aa (aj 3) ao)) xN)
def kI:GF:=c7 4 (aF CM
 (aF CO
 (aF (cQ (sS CL CS)
 (cH (bO ao))
 cu)
 (cH (cF (dG (aP (dz 40) Cf) bN) 1 [2] (aC 0) bQ (aX (aa (aj 0) (aa (nD "leave " (aj 1)) ao))))))))
abbrev Tk:=aO (aC 0) (aO (aC 1) (aO (aC 2) dN))
abbrev Tl:=dR 3 (aO (aC 0) (aO (aC 1) (aO (aC 2) dN)))
abbrev CU:=fQ 2 (cF (dG (aP jQ (aa (aj 1) (aa (aj 3) ao))) bN) 2 [3] (dR 2 (aO (aC 0) (aO (aC 1) dN))) bQ (aX (aa (aj 2) (aa (af 2) (aa (bg "back") (aa (aj 0) (aa (aj 1) ao)))))))
abbrev CY:=fQ 2 (cF (dG (aP kI (aa (aj 1) (aa (aj 3) ao))) bN) 2 [3] (dR 2 (aO (aC 0) (aO (aC 1) dN))) bQ (aX (aa (aj 2) (aa (af 3) (aa (bg "leave") (aa (aj 0) (aa (aj 1) ao)))))))
abbrev C0:=fQ 2 (cF (dG (aP jB (aa (aj 1) (aa (aj 3) ao))) bN) 2 [3] (dR 2 (aO (aC 0) (aO (aC 1) dN))) bQ (aX (aa (aj 2) (aa (af 0) (aa (aj 0) (aa (aj 1) (aa (nD "at " (aj 2)) ao)))))))
abbrev va:=fQ 2 (cF (dG (aP pQ (aa (aj 1) (aa (aj 3) ao))) bN) 3 [3] (dR 3 (aO (aC 0) (aO (aC 1) (aO (aC 2) dN)))) bQ (aX (aa (aj 3) (aa (af 1) (aa (aj 0) (aa (aj 1) (aa (aj 2) ao)))))))
def GR:GF:=c7 4 (aF (aM 1 (EY "Plan" j6 (aa (aj 0) ao)))
 (aF (aM 2 (bO ao))
 (aF (fH (dG (cV "Plan" "numbers" pP (aj 1) ao) bN) (aC 3)
 (aF C0
 (aF va
 (aF CU
 CY))))
 (cH (rT (aj 2))))))
abbrev C1:=az Lg (aj 1) (eB cz (aa (aj 0) ao))
def mF:GF:=c7 2 (aF (cQ (tT C1 bh)
 (cH (az bf (aJ (aj 0) (aj 1)) (af 1000000007)))
 cu)
 (cH (af 0)))
abbrev C2:=jM 3 (qY (bg "") (aa (aj 8) ao))
abbrev C3:=az bf (az bR (aj 0) (af 14)) (aj 6)
abbrev C4:=az c5 (az bf (aj 0) (af 2)) (af 1)
abbrev C5:=aM 2 (bg "abcdefghijklmnopqrstuvwxyz")
abbrev To:=aJ (aj 2) (az bf (az bj (az bR (aj 0) (af 112)) (aj 5)) (af 26))
abbrev Ts:=az bf (az bj (az bR (aj 2) (af 2)) (az gD (af 3) (aj 0))) (af 26)
abbrev Tx:=dB (az bj (az bj (az bf (aj 5) (af 5)) (af 1)) (az bR (aj 5) (af 5)))
abbrev C6:=Bc 8 (aj 7) (aJ (aj 2) (az bf (az bj (az bR (aj 0) (af 112)) (aj 5)) (af 26)))
abbrev TB:=az bf (az bj (az bR (aj 2) (az bj (aj 0) (af 1))) (az gD (aj 0) (aj 0))) (af 26)
abbrev C7:=vH (aj 4) (dB (az bf (aj 5) (af 5))) (dB (az bj (az bj (az bf (aj 5) (af 5)) (af 1)) (az bR (aj 5) (af 5))))
abbrev TD:=cF (iH (aa (aj 6) ao)) 1 [2,0] (aC 0) bQ (aJ (aj 1) (az bf (az bj (az bR (aj 2) (az bj (aj 0) (af 1))) (az gD (aj 0) (aj 0))) (af 26)))
abbrev C_:=aJ (bO (aa (af 1) (aa (af 2) (aa (af 3) (aa (af 5) (aa (af 6) (aa (af 7) (aa (af 8) ao)))))))) (az bf (az bR (aj 0) (af 2)) (af 7))
abbrev Db:=aM 8 (cF (iH (aa (aj 6) ao)) 1 [2,0] (aC 0) bQ (aJ (aj 1) (az bf (az bj (az bR (aj 2) (az bj (aj 0) (af 1))) (az gD (aj 0) (aj 0))) (af 26))))
abbrev Dx:=qY (bg "") (aa (cF (iH (aa (af 10) ao)) 1 [2,0] (aC 0) bQ (aJ (aj 1) (az bf (az bj (az bR (aj 2) (af 2)) (az gD (af 3) (aj 0))) (af 26)))) ao)
def uI:GF:=c7 9 (aF C5
 (aF (aM 3 (bO ao))
 (aF (cQ (tT C4 bh)
 (aF (aM 4 Dx)
 (aF (fH (iH (aa (aj 1) ao)) (aC 5)
 (jM 3 C7))
 (iG 3)))
 cu)
 (aF (aM 6 C_)
 (aF (aM 7 C3)
 (aF (fH (iH (aa (aj 1) ao)) (aC 5)
 (aF Db
 (aF C6
 C2)))
 (iG 3)))))))
abbrev DA:=tT (az jj (eB cz (aa (aj 1) ao)) (af 0)) bh
abbrev TH:=tT (az jj (az bf (aj 5) (af 6)) (af 0)) bh
abbrev uS:=tT (az jj (eB cz (aa (aj 2) ao)) (af 0)) bh
abbrev TJ:=tT (az c5 (az bf (aj 5) (af 7)) (af 5)) bh
abbrev DB:=aM 3 (aX (aa (aj 7) (aa (aj 3) (aa (aj 6) ao))))
abbrev DC:=aM 3 (aX (aa (aj 7) (aa (aj 6) (aa (aj 3) ao))))
abbrev DE:=aX (aa (bg "num") (aa (az bf (aj 5) (af 1000)) ao))
abbrev TK:=az c5 (az bf (az bR (aj 5) (af 5)) (af 3)) (af 1)
abbrev DF:=aJ (bg "+-*<=") (az bf (az bR (aj 5) (af 77)) (af 5))
abbrev TL:=tT (az c5 (az bf (az bR (aj 5) (af 5)) (af 3)) (af 0)) bh
abbrev DH:=tT (az c5 (az bf (az bR (aj 5) (af 5)) (af 3)) (af 1)) bh
abbrev DI:=d9 (tT (az jj (eB cz (aa (aj 1) ao)) (af 0)) bh) (tT (az jj (az bf (aj 5) (af 6)) (af 0)) bh)
abbrev vb:=d9 (tT (az jj (eB cz (aa (aj 2) ao)) (af 0)) bh) (tT (az c5 (az bf (aj 5) (af 7)) (af 5)) bh)
abbrev DJ:=aM 6 (aX (aa (bg "box") (aa (aJ (aj 1) (az bf (az bR (aj 5) (af 6)) (eB cz (aa (aj 1) ao)))) ao)))
abbrev DL:=az bf (az gD (az bf (az gD (aj 0) (az bj (aj 4) (af 2))) (af 2147483647)) (af 16807)) (af 2147483647)
abbrev DM:=aM 6 (aX (aa (bg "@") (aa (aJ (aj 2) (az bf (az bR (aj 5) (af 42)) (eB cz (aa (aj 2) ao)))) (aa (aj 6) ao))))
abbrev DO:=aM 3 (aX (aa (bg "@") (aa (aJ (aj 2) (az bf (az bR (aj 5) (af 15)) (eB cz (aa (aj 2) ao)))) (aa (aj 3) ao))))
abbrev DS:=d9 (tT (az jj (eB cz (aa (aj 2) ao)) (af 0)) bh) (tT (az c5 (az bf (az bR (aj 5) (af 5)) (af 3)) (af 0)) bh)
abbrev u3:SF:=(aF (aM 5 DL)
 (aF (aM 6 DE)
 (aF (cQ DI
 DJ
 cu)
 (aF (cQ vb
 DM
 cu)
 (aF (aM 7 DF)
 (cQ DS
 DO
 (cQ DH
 DB
 DC)))))))
abbrev TM:=tT (az jj (az bf (aj 0) (af 5)) (af 0)) bh
abbrev DT:=aX (aa (bg "num") (aa (az bf (az gD (aj 0) (af 7919)) (az WW (af 10) (af 12))) ao))
abbrev DU:=d9 (tT (az jj (eB cz (aa (aj 1) ao)) (af 0)) bh) (tT (az jj (az bf (aj 0) (af 5)) (af 0)) bh)
abbrev DV:=aM 3 (aX (aa (bg "box") (aa (aJ (aj 1) (az bf (az bR (aj 0) (af 5)) (eB cz (aa (aj 1) ao)))) ao)))
def dF:GF:=c7 8 (aF (aM 3 DT)
 (aF (cQ DU
 DV
 cu)
 (aF (fH (iH (aa (aJ (bO (aa (af 0) (aa (af 0) (aa (af 1) (aa (af 1) (aa (af 2) (aa (af 2) (aa (af 3) (aa (af 4) ao))))))))) (az bf (az bR (aj 0) (af 60)) (af 8))) ao)) (aC 4)
 u3)
 (iG 3))))
abbrev TN:=tT (az c5 (aj 7) (af 1)) bh
abbrev DZ:=tT (az c5 (aj 7) (af 6)) bh
abbrev D0:=tT (az c5 (aj 7) (af 2)) bh
abbrev u4:=dR 2 (aO (aC 9) (aO (aC 10) dN))
abbrev TR:=az bf (az bR (aj 0) (af 8)) (af 9)
abbrev D1:=aM 7 (az bf (az bR (aj 0) (af 8)) (af 9))
abbrev D2:=tT (az jj (eB cz (aa (aj 4) ao)) (af 0)) bh
abbrev D3:=tT (az jj (eB cz (aa (aj 3) ao)) (af 0)) bh
abbrev TU:=tT (az c5 (eB cz (aa (aj 1) ao)) (af 0)) bh
abbrev TW:=az tB (aj 7) (aX (aa (af 4) (aa (af 5) ao)))
abbrev TZ:=az tB (aj 7) (aX (aa (af 3) (aa (af 8) ao)))
abbrev T0:=tT (az tB (aj 7) (aX (aa (af 4) (aa (af 5) ao)))) bh
abbrev D4:=tT (az tB (aj 7) (aX (aa (af 3) (aa (af 8) ao)))) bh
abbrev D5:=cH (aX (aa (bg "while") (aa (aj 6) (aa (nP (bO ao)) ao))))
abbrev T1:=aJ (aj 1) (az bf (az bR (aj 0) (af 72)) (eB cz (aa (aj 1) ao)))
abbrev D6:=aM 8 (aJ (aj 1) (az bf (az bR (aj 0) (af 72)) (eB cz (aa (aj 1) ao))))
abbrev D7:=cH (aX (aa (bg "if") (aa (aj 5) (aa (nP (bO ao)) (aa (nP (bO ao)) ao)))))
abbrev D8:=d9 (tT (az c5 (aj 7) (af 1)) bh) (tT (az jj (eB cz (aa (aj 2) ao)) (af 0)) bh)
abbrev T_:=aP dF (aa (az bf (az gD (aj 0) (af 48271)) (af 2147483647)) (aa (aj 1) (aa (aj 2) ao)))
abbrev Uf:=aP dF (aa (az bf (az gD (aj 0) (af 69621)) (af 2147483647)) (aa (aj 1) (aa (aj 2) ao)))
abbrev D9:=aM 5 (aP dF (aa (az bf (az gD (aj 0) (af 48271)) (af 2147483647)) (aa (aj 1) (aa (aj 2) ao))))
abbrev D_:=aM 6 (aP dF (aa (az bf (az gD (aj 0) (af 69621)) (af 2147483647)) (aa (aj 1) (aa (aj 2) ao))))
abbrev Eb:=aa (az bf (az gD (aj 1) (af 40692)) (az Lh (af 2147483399) (aj 0))) (aa (aj 2) (aa (aj 3) ao))
abbrev Ec:=sS (tT (az tB (aj 7) (aX (aa (af 4) (aa (af 5) ao)))) bh) (tT (az c5 (eB cz (aa (aj 1) ao)) (af 0)) bh)
abbrev Ee:=cH (aX (aa (bg "put") (aa (aJ (aj 2) (az bf (az bR (aj 0) (af 72)) (eB cz (aa (aj 2) ao)))) (aa (aj 5) (aa (aj 6) ao)))))
def iu:GF:=c7 12 (aF D9
 (aF D_
 (aF D1
 (aF (cQ D8
 Ee
 cu)
 (aF (cQ DZ
 D5
 cu)
 (aF (cQ Ec
 D7
 cu)
 (aF D6
 (aF (cQ (d9 D0 D2)
 (cH (aX (aa (bg "out") (aa (aj 8) (aa (aj 5) (aa (aJ (aj 4) (az bf (az bR (aj 0) (af 7)) (eB cz (aa (aj 4) ao)))) ao))))))
 cu)
 (aF (cQ (d9 D4 D3)
 (aF (WM (aJ (aj 3) (az bf (az bR (aj 0) (af 792)) (eB cz (aa (aj 3) ao)))) u4)
 (aF (aM 11 (cF (iH (aa (eB cz (aa (aj 10) ao)) ao)) 1 [0,1,2] (aC 0) bQ (aP dF Eb)))
 (cH (aX (aa (bg "call") (aa (aj 8) (aa (aj 9) (aa (aj 11) ao))))))))
 cu)
 (cH (aX (aa (bg "set") (aa (aj 8) (aa (aj 6) ao))))))))))))))
abbrev u7:=aJ (aj 6) (uy (af 1))
abbrev UA:=tT (az jj (oA (aj 6)) (af 1)) bh
abbrev Ef:=tT (az Lg (oA (aj 6)) (af 5)) bh
abbrev UB:=dG (oE (aj 8) (dB (af 2)) iZ) bN
abbrev UC:=tT (az c5 (az bf (aj 7) (af 8)) (af 0)) bh
abbrev Eh:=aM 8 (aP iu (aa (aj 7) (aa (aj 1) (aa (aj 2) (aa (aj 3) (aa (aj 4) ao))))))
abbrev EA:=tT (az tB (aJ (aj 8) (af 0)) (aX (aa (bg "if") (aa (bg "while") ao)))) bh
abbrev EB:=nQ (aj 6) (nP (cF (dG (oE (aj 8) (dB (af 2)) iZ) bN) 1 [] (aC 0) bQ (aj 0)))
abbrev EC:=d9 (tT (az c5 (az bf (aj 7) (af 8)) (af 0)) bh) (tT (az jj (oA (aj 6)) (af 1)) bh)
abbrev ED:=d9 (tT (az tB (aJ (aj 8) (af 0)) (aX (aa (bg "if") (aa (bg "while") ao)))) bh) (tT (az Lg (oA (aj 6)) (af 5)) bh)
def rH:GF:=c7 9 (aF (aM 5 (Rw ao))
 (aF (aM 6 (Rw (aa (nP (bO (aa (aj 5) ao))) ao)))
 (aF (fH (dG (aj 0) bN) (aC 7)
 (cQ EC
 (aF (qX (zX u7))
 (cQ (tT (az c5 (oA u7) (af 0)) bh)
 (qX (Fb (aj 6)))
 cu))
 (aF Eh
 (aF (nQ (aJ u7 (af 0)) (aj 8))
 (cQ ED
 EB
 cu)))))
 (cH (Fe (aj 5))))))
abbrev u8:=az bj (af 10) (az gD (af 4) (aj 3))
abbrev u_:SF:=(aF (aM 4 (az bf (az bR (aj 0) (aJ (bO (aa (af 75) (aa (af 375) (aa (af 1875) (aa (af 9375) ao))))) (aj 3))) (af 5)))
 (jM 2 (aX (aa (aJ (aj 1) (az bj (af 6) (aj 3))) (aa (vH (aj 1) (dB u8) (dB (az bj u8 (aj 4)))) ao)))))
def uJ:GF:=c7 5 (aF (aM 2 (bO ao))
 (aF (fH (iH (aa (az bf (az bR (aj 0) (af 15)) (af 5)) ao)) (aC 3)
 u_)
 (iG 2)))
abbrev EE:=aX (aa (aj 0) (aa (eC .non) ao))
abbrev EG:=aa (aj 5) (aa (aj 6) (aa (aj 9) ao))
abbrev pc:=dB (az bj (eB cz (aa (aj 6) ao)) (af 1))
abbrev EI:=az bj (aj 4) (bO (aa (aJ (aj 12) (af 0)) ao))
abbrev vi:SF:=(aF (aM 13 (aP rH (aa (Df (aj 8) (dB (aj 11)) iZ pc) (aa (az bj EI (aJ (aj 12) (af 1))) EG))))
 (jM 10 (aX (aa (aJ (aj 12) (af 0)) (aa (aJ (aj 3) (az bf (az bj (aj 1) (aj 11)) (af 3))) (aa (cF (dG (aJ (aj 12) (af 1)) bN) 1 [] (aC 0) bQ EE) (aa (aj 13) ao)))))))
abbrev EJ:=az bf (aj 0) (af 1000000007)
abbrev EK:=dR 2 (aO (aC 11) (aO (aC 12) dN))
abbrev EL:=aa (aj 1) (aa (af 0) (aa (aJ (aj 2) (az bf (az bj (az bR (aj 3) (af 3072)) (aj 0)) (af 3))) ao))
abbrev EM:=aa (aj 0) (aa (az bj (af 1) (az bf (az bR (aj 1) (af 48)) (af 8))) (aa (aJ (aj 2) (az bf (az bR (aj 1) (af 9216)) (af 3))) ao))
def mG:GF:=c7 14 (aF (aM 1 (aP mF (aa (aj 0) (aa (af 0) ao))))
 (aF (aM 2 (aP uI (aa (aP mF (aa (aj 0) (aa (af 1) ao))) (aa (af 26) ao))))
 (aF (aM 3 (bO (aa (eC .non) (aa (bg "low") (aa (bg "high") ao)))))
 (aF (aM 4 (vH (aj 2) iZ (dB (az bf (aj 1) (af 5)))))
 (aF (aM 5 (vH (aj 2) (dB (af 4)) (dB (az bj (af 4) (az bf (az bR (aj 1) (af 5)) (af 3))))))
 (aF (aM 6 (aP uJ SW))
 (aF (aM 7 (cF (uA (aj 4)) 2 [3,1] kF bQ (aX EL)))
 (aF (aM 7 (az bj (aj 7) (cF (dG (aj 5) bN) 1 [1,3] (aC 0) bQ (aX EM))))
 (aF (aM 8 (cF (dG (vH (aj 0) (dB (af 2)) (dB (af 42))) bN) 1 [] (aC 0) bQ EJ))
 (aF (aM 9 (bO (aa (bg "somebody") ao)))
 (aF (aM 10 (bO ao))
 (aF (fH (uA (aj 6)) EK
 vi)
 (aF (aM 13 (aP rH (aa (Df (aj 8) (dB (eB cz (aa (aj 6) ao))) iZ pc) (aa (aj 4) EG))))
 (cH (aX (aa (aj 7) (aa (bO (aa (aX (aa (bg "somebody") (aa (bg "high") (aa (bg "low") ao)))) ao)) (aa (aj 10) (aa (aj 13) ao)))))))))))))))))))
def fZ:Nat->GF
 |0=>λ_ _=>J
 | n+1=>c7 1 (aF (cQ BI
  (cH (bO ao))
  cu)
  (aF (cQ BM
  Bi
  cu)
  (aF (cQ BH
  (cH (az bj SU (aP (fZ n) j2)))
  cu)
  (cH (az bj (aP (fZ n) oS) (aP (fZ n) j2))))))
abbrev vj:=dG (oE (aj 4) (dB (af 2)) iZ) bN
abbrev EN:=aa (aj 5) (aa (aj 3) (aa (aj 2) ao))
abbrev EO:=nQ (aj 2) (aX (aa (aj 3) (aa (aj 4) ao)))
abbrev EQ:=az tB (aJ (aj 4) (af 0)) (aX (aa (bg "if") (aa (bg "while") ao)))
def fu:Nat->GF
 |0=>λ_ _=>J
 | n+1=>c7 6 (aF (aM 3 (aj 1))
  (aF (fH (dG (aj 0) bN) (aC 4)
  (aF EO
  (aF (aM 3 (az bj (aj 3) (af 1)))
  (cQ (tT EQ bh)
  (fH vj (aC 5)
  (aM 3 (aP (fu n) EN)))
  cu))))
  (iG 3)))
abbrev UD:=aa (az bj (bg "box ") (aj 1)) ao
abbrev ER:=dG (aP (fZ 40) (aa (aj 4) ao)) bN
abbrev UE:=aX (aa (aj 0) (aa (af 1) (aa (bg "value") (aa (az bj (bg "box ") (aj 5)) (aa (az bj (bg "box ") (aj 1)) ao)))))
abbrev ES:=jM 3 (aX (aa (aj 0) (aa (af 1) (aa (bg "value") (aa (az bj (bg "box ") (aj 5)) (aa (az bj (bg "box ") (aj 1)) ao))))))
def jR:GF:=c7 6 (aF (aM 3 (bO (aa (aX (aa (aj 0) (aa (af 1) (aa (bg "done") (aa (az bj (bg "at ") (eB g9 (aa (aj 0) ao))) UD))))) ao)))
 (aF (fH (dG (aj 2) bN) (aC 4)
 (fH ER (aC 5)
 ES))
 (iG 3)))
abbrev ET:=eB g9 (aa (aj 1) ao)
abbrev EU:=Bg (aj 7) (aJ (aj 2) (af 3))
abbrev UF:=az c5 (aj 5) (aJ (aj 2) (af 2))
abbrev EV:=tT (az c5 (aj 5) (aJ (aj 2) (af 2))) bh
abbrev EW:=aO (aC 5) (aO (aC 6) (aO (aC 7) (aO (aC 8) dN)))
abbrev EX:=aM 3 (az bj (bg "at ") (eB g9 (aa (aj 1) ao)))
abbrev EZ:=az bj (aj 4) (aP jR (aa (aj 1) (aa (aJ (aj 9) (af 0)) (aa (bO (aa (aj 10) ao)) ao))))
def yt:GF:=c7 11 (aF EX
 (aF (cQ Ct
 (cH (aP jR (aa (aj 1) (aa (aJ (aj 2) (af 1)) (aa (bO o_) ao)))))
 cu)
 (aF (cQ CA
 (cH (aP jR (aa (aj 1) (aa (aJ (aj 2) (af 1)) (aa (bO (aa (aJ (aj 2) (af 2)) (aa (aJ (aj 2) (af 3)) ao))) ao)))))
 cu)
 (aF (aM 4 (bO ao))
 (aF (cQ CB
 (aF (aM 4 (cF (dG (aP (fZ 40) o_) bN) 1 [1] (aC 0) bQ (aX (aa (aj 1) (aa (af 1) (aa (bg "let") (aa (az bj (bg "box ") (aj 0)) (aa (az bj (bg "let ") ET) ao))))))))
 (aM 4 (az bj (aj 4) (bO (aa (aX (aa (aj 1) (aa (af 1) (aa (bg "out") (aa (az bj (bg "out ") ET) pb))))) (aa (aX (aa (aj 1) (aa (af 1) (aa (bg "done") (aa (aj 3) pb))))) ao))))))
 cu)
 (aF (cQ oT
 (aF (aM 4 (bO (aa (aX (aa (aj 1) (aa (af 1) (aa (bg "call") (aa (aj 3) CC))))) ao)))
 (fH (dG (aJ (aj 0) (af 2)) bN) (dR 4 EW)
 (cQ EV
 (fH EU u4
 (aM 4 EZ))
 cu)))
 cu)
 (iG 4)))))))
abbrev E_:SF:=(aM 8 (az bj (aj 8) (aP yt (aa (aj 1) (aa (aj 3) (aa (aj 9) ao))))))
abbrev UH:=az c5 (aJ (aj 0) (af 1)) (af 1)
abbrev Fa:=tT (az c5 (aJ (aj 0) (af 1)) (af 1)) bh
abbrev Fc:=dR 4 (aO (aC 4) (aO (aC 5) (aO (aC 6) (aO (aC 7) dN))))
abbrev vk:=wj 2 (aM 3 (aP (fu 40) (aa (aj 7) (aa (aj 3) (aa (aj 2) ao)))))
abbrev Fh:=qX (aP (fu 40) (aa (aJ (aj 1) (af 3)) (aa (aj 3) (aa (aj 2) ao))))
def RJ:GF:=c7 11 (aF (aM 1 (aP mG (aa (aj 0) ao)))
 (aF (aM 2 (bO ao))
 (aF (aM 3 (af 0))
 (aF (fH (dG (aJ (aj 1) (af 2)) bN) Fc
 (Bd 2 vk))
 (aF (Bd 2 (wj 2 Fh))
 (aF (aM 8 (bO ao))
 (aF (fH (dG (aj 2) bN) (dR 2 (aO (aC 3) (aO (aC 9) dN)))
 E_)
 (aF (aM 10 (aP GR (aa (aj 1) ao)))
 (cH (K6 (az c5 (cF (dG (aj 10) bN) 1 [] (aC 0) Fa (aj 0)) (rT (aj 8))) (az c5 (aj 1) (aP mG (aa (aj 0) ao)))))))))))))
variable {P:Program}{w:World}{K:FG}{mg:Str->Option Value}{base:Heap}
noncomputable abbrev BL:List Str:=["any","enumerate","len","list","range","set","sorted","str","zip"]
section
variable {mg:Str->Option Value}(B:PB mg BL)
include B
theorem YC:mg "any"=J:=B _ ()
theorem rJ:mg "enumerate"=J:=B _ ()
theorem fC:mg "len"=J:=B _ ()
theorem ww:mg "list"=J:=B _ ()
theorem oX:mg "range"=J:=B _ ()
theorem RK:mg "set"=J:=B _ ()
theorem Di:mg "sorted"=J:=B _ ()
theorem JV:mg "str"=J:=B _ ()
theorem YD:mg "zip"=J:=B _ ()
end
section
variable (P:Program)(w:World)(K:FG)(mg:Str->Option Value)(base:Heap)(c:Addr)
abbrev lV:=bT P w K mg base "blocks_of" 1 ["row"] (cC K 1 gC)
abbrev tE:=bT P w K mg base "expressions_of" 1 ["row"] (cC K 1 j4)
abbrev Il:=bT P w K mg base "copied" 40 ["row"] (cC K 1 (j5 40))
abbrev NK:=bT P w K mg base "in_order" 41 ["rows"] (cC K 1 (ir 40))
abbrev NP:=bT P w K mg base "laid_out" 80 ["where","above","block","rows","start"] (cC K 5 (gG 40))
abbrev Ck:=bT P w K mg base "numbered" 81 ["program"] (cC K 1 yp)
abbrev Xk:=bT P w K mg base "reads" 40 ["expression"] (cC K 1 (mD 40))
abbrev Cm:=bT P w K mg base "names_in" 41 ["expression"] (cC K 1 yq)
abbrev Im:=bT P w K mg base "spends" 42 ["row"] (cC K 1 yr)
abbrev mH:=vg P w K mg base c "block" 1 ["self","k","which"] (cC K 3 dU)
abbrev gH:=vg P w K mg base c "row" 1 ["self","k"] (cC K 2 dI)
abbrev jL:=vg P w K mg base c "spending" 43 ["self","numbers"] (cC K 2 fL)
abbrev sY:=bT P w K mg base "behind_row" 83 ["plan","k"] (cC K 2 (dz 40))
abbrev BR:=Xd P w K mg base c 82 ["self","program"] (cC K 2 j6)
abbrev uK:=vg P w K mg base c "numbers" 1 ["self"] (cC K 1 pP)
abbrev yK:=bT P w K mg base "back_steps" 2 ["plan","k"] (cC K 2 jQ)
abbrev qg:=vg P w K mg base c "just_ahead" 1 ["self","k"] (cC K 2 iz)
abbrev sZ:=vg P w K mg base c "home" 1 ["self","k"] (cC K 2 lU)
abbrev wy:=vg P w K mg base c "outer" 1 ["self","k"] (cC K 2 nZ)
abbrev kJ:=bT P w K mg base "boxes_read" 42 ["expression"] (cC K 1 iB)
abbrev uL:=bT P w K mg base "first_sources" 43 ["plan","k"] (cC K 2 lu)
abbrev vm:=bT P w K mg base "turn_sources" 84 ["plan","k"] (cC K 2 qQ)
abbrev uM:=bT P w K mg base "begin_sources" 85 ["plan","k"] (cC K 2 jB)
abbrev vo:=vg P w K mg base c "params" 1 ["self","name"] (cC K 2 qR)
abbrev wz:=bT P w K mg base "given_steps" 43 ["k","name","some"] (cC K 3 kE)
abbrev yL:=bT P w K mg base "done_steps" 44 ["plan","k"] (cC K 2 pQ)
abbrev yM:=vg P w K mg base c "body" 1 ["self","name"] (cC K 2 pR)
abbrev wA:=bT P w K mg base "leave_steps" 84 ["plan","k"] (cC K 2 kI)
abbrev Mg:=bT P w K mg base "rules" 86 ["program"] (cC K 1 GR)
abbrev vp:=bT P w K mg base "_law_cell_at" 1 ["_law_script","_law_k"] (cC K 2 mF)
abbrev yN:=bT P w K mg base "_law_names" 1 ["_law_cell","_law_count"] (cC K 2 uI)
abbrev rW:=bT P w K mg base "_law_expression" 1 ["_law_cell","_law_own","_law_lists"] (cC K 3 dF)
abbrev Cp:=bT P w K mg base "_law_row" 2 ["_law_cell","_law_own","_law_lists","_law_heads_here","_law_whos"] (cC K 5 iu)
abbrev zZ:=bT P w K mg base "_law_rows" 3 ["_law_cells","_law_own","_law_lists","_law_heads_here","_law_whos"] (cC K 5 rH)
abbrev yO:=bT P w K mg base "_law_heads" 1 ["_law_cell","_law_names_here"] (cC K 2 uJ)
abbrev vq:=bT P w K mg base "_law_program" 4 ["_law_script"] (cC K 1 mG)
abbrev z9:=bT P w K mg base "_law_read" 40 ["_law_expression_here"] (cC K 1 (fZ 40))
abbrev NQ:=bT P w K mg base "_law_all" 40 ["_law_rows_here","_law_first","_law_told"] (cC K 3 (fu 40))
abbrev yP:=bT P w K mg base "_law_value" 41 ["_law_k","_law_name","_law_some"] (cC K 3 jR)
abbrev Cq:=bT P w K mg base "_law_due" 42 ["_law_program_here","_law_k","_law_row_here"] (cC K 3 yt)
end
variable (B:PB mg BL){cS:Addr}(bp:yc K mg "Plan" cS)(bP:∀f∈(["told","lists","heads"]:List Str),j9 K cS f)(cp:HK.hk=Cg P w)
include B bp bP cp
theorem Mh(F:cU K mg "blocks_of" vJ ["row"]):lV P w K mg base:=
 F.ok LR λf q A i s H E j=>#[_,λ_ _=>O,(aA (cD (bK (bY j) bZ (qI (qw 0)) bL (bB _))
  (aD (bG (cP (ak (qI (qw 0)) (ak (qI (qw 0)) aq)))))
  bI)
  (aA (cD (bK (bY j) bZ (qI (qw 0)) bL (bB _))
  (aD (bG (cP (ak (qI (qw 0)) aq))))
  bI)
  (aD (bG (cP aq)))))]
theorem BV(F:cU K mg "expressions_of" oF ["row"]):tE P w K mg base:=
 F.ok BJ λf q A j s H E i=>#[_,λ_ _=>O,(aA (cD (PW.pt (JP (bK (bY i) bZ (qI (qw 0)) bL (bB _)) (Eo (bK (bY i) bZ (qI (qw 0)) bL (bB _)))))
  (aD (bG (cP (ak (qI (qw 0)) aq))))
  bI)
  (aA (cD (bK (bY i) bZ (qI (qw 0)) bL (bB _))
  (aD (bG (cP (ak (qI (qw 0)) (ak (qI (qw 0)) aq)))))
  bI)
  (aA (cD (bK (bY i) bZ (qI (qw 0)) bL (bB _))
  (aD (bG (PE.imp (fW lw O (ww B) (by kernel_rfl) (ak (qI (qw 0)) aq)) (nA vZ))))
  bI)
  (aD (bG (cP (ak (qI (qw 0)) aq)))))))]
theorem U4(F:cU K mg "copied" yh ["row"])(i:bT P w K mg base "all_copied" (0+n) ["rows"] (cC K 1 (fK n))):bT P w K mg base "copied" (0+n+1) ["row"] (cC K 1 (j5 (n+1))):=
 F.ok U0 λf z A q s H E j=>#[_,λ_ _=>O,(aA (cD (bK (bY j) bZ (qI (qw 0)) bL (bB _))
  (aD (bG (cG (ak bL (ak (qI (qw 0)) (ak (bJ i (j.mono ()) O (ak (qI (qw 0)) aq) (aB aQ)) (ak (bJ i (j.mono ()) O (ak (qI (qw 0)) aq) (aB aQ)) aq)))))))
  bI)
  (aA (cD (bK (bY j) bZ (qI (qw 0)) bL (bB _))
  (aD (bG (cG (ak bL (ak (qI (qw 0)) (ak (bJ i (j.mono ()) O (ak (qI (qw 0)) aq) (aB aQ)) aq))))))
  bI)
  (aA (cD (bK (bY j) bZ (qI (qw 0)) bL (bB _))
  (aD (bG (cG (ak bL (ak (qI (qw 0)) (ak (qI (qw 0)) (ak (PE.imp (fW lw O (ww B) (by kernel_rfl) (ak (qI (qw 0)) aq)) (nA vZ)) aq)))))))
  bI)
  (aD (gq (pv 0))))))]
theorem Jr(F:cU K mg "all_copied" lN ["rows"])(i:bT P w K mg base "copied" (0+n) ["row"] (cC K 1 (j5 n))):bT P w K mg base "all_copied" (0+n+1) ["rows"] (cC K 1 (fK (n+1))):=
 F.ok Jm λf q A j s H E z=>#[_,λ_ _=>O,(aD (bG (il ["row"] [] [] O (jP (aG lN)) (cI (qw 0)) (λ_ _ _ _=>(cJ 0 (show (["row"]:List Str).Nodup from by decide +kernel))) aL (λ_ _ _ _=>cX) (λ_ _ _ _=>(bJ i () O (ak (qw 0) aq) (aB aQ))))))]
theorem Fj(j:cU K mg "copied" yh ["row"])(i:cU K mg "all_copied" lN ["rows"]):∀n:Nat,bT P w K mg base "copied" (0+n) ["row"] (cC K 1 (j5 n))/\bT P w K mg base "all_copied" (0+n) ["rows"] (cC K 1 (fK n))
 |0=>#[oV j,oV i]
 |n+1=>by let q:=Fj j i n;show#[U4 B bp bP cp j q.2,Jr B bp bP cp i q.1]
theorem NT(F:cU K mg "in_order" tU ["rows"])(i:lV P w K mg base)(q:bT P w K mg base "in_order" (1+n) ["rows"] (cC K 1 (ir n))):bT P w K mg base "in_order" (1+n+1) ["rows"] (cC K 1 (ir (n+1))):=
 F.ok rG λf D A j s H E z=>#[_,λ_ _=>O,(aA (cW 1 rG.nd (cP aq))
  (aA (eG eJ O (cI (qw 0)) (cJ 2 rG.nd) aL
  (aA (zY (pv 1) (qw 2))
  (aD (eG eJ O (cI (bJ i (z.mono ()) O (ak (qw 2) aq) (aB aQ))) (cJ 3 rG.nd) aL
  (aD (mW (pv 1) (bJ q () O (ak (qw 3) aq) (aB aQ))))))))
  (aD (gq (pv 1)))))]
theorem Aa(i:cU K mg "in_order" tU ["rows"])(j:lV P w K mg base):∀n:Nat,bT P w K mg base "in_order" (1+n) ["rows"] (cC K 1 (ir n))
 |0=>oV i
 |n+1=>by let q:=Aa i j n;show NT B bp bP cp i j q
theorem NZ(F:cU K mg "laid_out" tV ["where","above","block","rows","start"])(q:lV P w K mg base)(i:Il P w K mg base)(j:bT P w K mg base "laid_out" (40+n) ["where","above","block","rows","start"] (cC K 5 (gG n))):bT P w K mg base "laid_out" (40+n+1) ["where","above","block","rows","start"] (cC K 5 (gG (n+1))):=
 F.ok kW λf N A z s H E D=>#[_,λ_ _=>O,(aA (cW 5 kW.nd (cP aq))
  (aA (eG eJ O (cI (qw 3)) (cJ 6 kW.nd) aL
  (aA (cW 7 kW.nd (JS (aZ bz bA (qw 4) (qL (fC B) (qw 5)))))
  (aA (zY (pv 5) (cG (ak (qw 0) (ak (qw 1) (ak (qw 2) (ak (bJ i (D.mono ()) O (ak (qw 6) aq) (aB aQ)) aq))))))
  (aD (eG eJ O (Be O (rJ B) (ak (bJ q (D.mono ()) O (ak (qw 6) aq) (aB aQ)) aq)) (gW O (bw (cJ 8 kW.nd) (bw (cJ 9 kW.nd) fX))) (gY (bH aL (bH aL gR)))
  (aD (mW (pv 5) (bJ j (D.mono ()) O (ak (qw 0) (ak (qw 7) (ak (qw 8) (ak (qw 9) (ak (JS (aZ bz bA (qw 4) (qL (fC B) (qw 5)))) aq))))) (aB (aB (aB (aB (aB aQ)))))))))))))
  (aD (gq (pv 5)))))]
theorem Ab(i:cU K mg "laid_out" tV ["where","above","block","rows","start"])(q:lV P w K mg base)(j:Il P w K mg base):∀n:Nat,bT P w K mg base "laid_out" (40+n) ["where","above","block","rows","start"] (cC K 5 (gG n))
 |0=>oV i
 |n+1=>by let z:=Ab i q j n;show NZ B bp bP cp i q j z
theorem N5(F:cU K mg "numbered" yj ["program"])(i:NP P w K mg base):Ck P w K mg base:=
 F.ok kY λf z A j s H E q=>#[_,λ_ _=>O,(aA (cW 1 kY.nd (cP aq))
  (aA (eG eJ O (cI (qI (qw 0))) (gW O (bw (cJ 2 kY.nd) (bw (cJ 3 kY.nd) (bw (cJ 4 kY.nd) (bw (cJ 5 kY.nd) fX))))) (gY (bH aL (bH aL (bH aL (bH aL gR)))))
  (aD (mW (pv 1) (bJ i (q.mono ()) O (ak (qw 2) (ak Ig (ak aR (ak (qw 5) (ak (JS (qL (fC B) (qw 1))) aq))))) (aB (aB (aB (aB (aB aQ)))))))))
  (aA (mW (pv 1) (bJ i (q.mono ()) O (ak bL (ak Ig (ak aR (ak (qI (qw 0)) (ak (JS (qL (fC B) (qw 1))) aq))))) (aB (aB (aB (aB (aB aQ)))))))
  (aD (gq (pv 1))))))]
theorem Xl(F:cU K mg "reads" Bp ["expression"])(i:bT P w K mg base "reads" (0+n) ["expression"] (cC K 1 (mD n))):bT P w K mg base "reads" (0+n+1) ["expression"] (cC K 1 (mD (n+1))):=
 F.ok Xj λf z A q s H E j=>#[_,λ_ _=>O,(aA (cD (bK (bY j) bZ (qI (qw 0)) bL (bB _))
  (aD (bG (cP aq)))
  bI)
  (aA (cD (bK (bY j) bZ (qI (qw 0)) bL (bB _))
  (aD (bG (cP (ak (cG (ak bL (ak (qI (qw 0)) aq))) aq))))
  bI)
  (aA (cD (bK (bY j) bZ (qI (qw 0)) bL (bB _))
  (aD (bG (aZ bz bA (cP (ak (cG (ak bL (ak (qI (qw 0)) aq))) aq)) (bJ i (j.mono ()) O (ak (qI (qw 0)) aq) (aB aQ)))))
  bI)
  (aD (bG (aZ bz bA (bJ i (j.mono ()) O (ak (qI (qw 0)) aq) (aB aQ)) (bJ i (j.mono ()) O (ak (qI (qw 0)) aq) (aB aQ))))))))]
theorem Io(i:cU K mg "reads" Bp ["expression"]):∀n:Nat,bT P w K mg base "reads" (0+n) ["expression"] (cC K 1 (mD n))
 |0=>oV i
 |n+1=>by let j:=Io i n;show Xl B bp bP cp i j
theorem N6(F:cU K mg "names_in" tW ["expression"])(j:Xk P w K mg base):Cm P w K mg base:=
 F.ok NB λf q A i s H E z=>#[_,λ_ _=>O,(aD (bG (UL (jW (Eg O) O (Di B) () (vP (fW (Wj O) O (RK B) () (ak (il ["word","name"] [] [] O (jP (aG tW)) (cI (bJ j () O (ak (qw 0) aq) (aB aQ))) (λ_ _ _ _=>(gW O (bw (cJ 0 (show (["word","name"]:List Str).Nodup from by decide +kernel)) (bw (cJ 1 (show (["word","name"]:List Str).Nodup from by decide +kernel)) fX)))) (gY (bH aL (bH aL gR))) (λ_ _ _ _=>cX) (λ_ _ _ _=>(qw 1))) aq)) zc)))))]
theorem U5(F:cU K mg "spends" ym ["row"])(j:NK P w K mg base):Im P w K mg base:=
 F.ok U3_ λf z A i s H E q=>#[_,λ_ _=>O,(aD (bG (Li (xW O) Ur (jW (xW O) O (YC B) () (ak (il ["inner"] [] [] O (jP (aG ym)) (cI (bJ j () O (ak (cP (ak (qw 0) aq)) aq) (aB aQ))) (λ_ _ _ _=>(cJ 0 (show (["inner"]:List Str).Nodup from by decide +kernel))) aL (λ_ _ _ _=>cX) (λ_ _ _ _=>(WF (zQ q) vY (qI (qw 0)) (cG (ak bL (ak bL aq))) (by with_unfolding_all rfl)))) aq)))))]
theorem GX(F:wg K cS "block" "Plan.block" sX ["self","k","which"]):mH P w K mg base cS:=
 F.ok GQ λf q A i s H E j=>#[_,λ_ _=>O,(aD (bG (PE.imp (fW lw O (ww B) () (ak (YB () (Kr PySem.F.slot_dict_get PySem.F.type_dict_get (OD (Ao j)) (vI bp (bP _ ()) (qw 0)) (ak (cG (ak (qI (fU (vI bp (bP _ ()) (qw 0)) (qw 1) (λ_ _=>O))) (ak (qw 1) (ak (qw 2) aq)))) (ak (cP aq) aq)))) aq)) (nA vZ))))]
theorem Mi(F:wg K cS "row" "Plan.row" vK ["self","k"]):gH P w K mg base cS:=
 F.ok Mf λf j A i s H E q=>#[_,λ_ _=>O,(aD (bG (qI (fU (vI bp (bP _ ()) (qw 0)) (qw 1) (λ_ _=>O)))))]
theorem BW(F:wg K cS "spending" "Plan.spending" jZ ["self","numbers"])(j:gH P w K mg base cS)(q:Im P w K mg base):jL P w K mg base cS:=
 F.ok BP λf D A i s H E z=>#[_,λ_ _=>O,(aD (bG (Li (xW O) Ur (jW (xW O) O (YC B) () (ak (il ["k"] ["self"] [0] O (jP (aG jZ)) (cI (qw 1)) (λ_ _ _ _=>(cJ 0 (show (["k","self"]:List Str).Nodup from by decide +kernel))) aL (λ_ _ _ _=>cX) (λ_ _ _ _=>(bJ q () O (ak (jm bp j (z.mono ()) (qw 1) (ak (qw 0) aq) (gF (aB aQ))) aq) (aB aQ)))) aq)))))]
theorem Js(F:cU K mg "behind_row" pJ ["plan","k"])(j:mH P w K mg base cS)(N:gH P w K mg base cS)(z:jL P w K mg base cS)(q:bT P w K mg base "behind_row" (43+n) ["plan","k"] (cC K 2 (dz n))):bT P w K mg base "behind_row" (43+n+1) ["plan","k"] (cC K 2 (dz (n+1))):=
 F.ok nU λf Q A D s H E i=>#[_,λ_ _=>O,(aA (cW 2 nU.nd (jm bp N (i.mono ()) (qw 0) (ak (qw 1) aq) (gF (aB aQ))))
  (aA (cW 3 nU.nd (cP (ak (wk () (qw 1)) aq)))
  (aA (cD (bK (bY i) bZ (qI (qw 2)) bL (bB _))
  (aD (zY (pv 3) (aZ bz bA bL (qI (qw 2)))))
  bI)
  (aA (cD (bK (bY i) bZ (qI (qw 2)) bL (bB _))
  (aD (eG eJ O (cI (cG (ak (jm bp j (i.mono ()) (qw 0) (ak (qw 1) (ak aR aq)) (gF (aB (aB aQ)))) (ak (jm bp j (i.mono ()) (qw 0) (ak (qw 1) (ak aR aq)) (gF (aB (aB aQ)))) aq)))) (cJ 4 nU.nd) aL
  (aD (cD (K5 (jm bp z (i.mono ()) (qw 0) (ak (qw 4) aq) (gF (aB aQ))) (λ_=>O))
  (aD (mW (pv 3) (bJ q (i.mono ()) O (ak (qw 0) (ak (fU (qw 4) (Gy aR) (λ_ _=>O)) aq)) (aB (aB aQ)))))
  bI))))
  bI)
  (aD (gq (pv 3)))))))]
theorem wC(i:cU K mg "behind_row" pJ ["plan","k"])(z:mH P w K mg base cS)(j:gH P w K mg base cS)(q:jL P w K mg base cS):∀n:Nat,bT P w K mg base "behind_row" (43+n) ["plan","k"] (cC K 2 (dz n))
 |0=>oV i
 |n+1=>by let D:=wC i z j q n;show Js B bp bP cp i z j q D
theorem BX(F:wg K cS "__init__" "Plan.__init__" jY ["self","program"])(i:Ck P w K mg base):vg P w K mg base cS "__init__" 82 ["self","program"] (cC K 2 j6):=
 F.ok dD λf z A j s H E q=>#[_,λ_ _=>O,(aA (cW 2 dD.nd (bJ i () O (ak (qw 1) aq) (aB aQ)))
  (aA (cW 3 dD.nd (Se ()))
  (aA (eG eJ O (Be O (rJ B) (ak (qw 2) aq)) (gW O (bw (cJ 4 dD.nd) (bw (cJ 5 dD.nd) fX))) (gY (bH aL (bH aL gR)))
  (aD (Bf (qj (qW kf nL nN oM (Sf (cp) (Kr PySem.F.slot_dict_setdefault PySem.F.type_dict_setdefault (Tv (Ao q)) (pv 3) (ak (Bk (qw 5) qG (gw aR)) (ak (cP aq) aq)))) (ak (qw 4) aq))))))
  (aA (cW 6 dD.nd P_)
  (aA (eG eJ O (cI (qI (qw 1))) (gW O (bw (cJ 7 dD.nd) (bw (cJ 8 dD.nd) (bw (cJ 9 dD.nd) (bw (cJ 10 dD.nd) fX))))) (gY (bH aL (bH aL (bH aL (bH aL gR)))))
  (aD (P7 (J3 (il ["param","known"] [] [] O (jP (aG jY)) (cI (qw 9)) (λ_ _ _ _=>(gW O (bw (cJ 0 (show (["param","known"]:List Str).Nodup from by decide +kernel)) (bw (cJ 1 (show (["param","known"]:List Str).Nodup from by decide +kernel)) fX)))) (gY (bH aL (bH aL gR))) (λ_ _ _ _=>cX) (λ_ _ _ _=>(qw 0))) (Dy (pv 6) (qw 7) (set_dict (Ao q)))))))
  (aA (GK bp (bP _ (.head _)) (qw 0) (qw 2))
  (aA (GK bp (bP _ (mI 1 O)) (qw 0) (SA (qw 3)))
  (aD (GK bp (bP _ (mI 2 O)) (qw 0) (qw 6))))))))))]
theorem Dj(F:wg K cS "numbers" "Plan.numbers" pN ["self"]):uK P w K mg base cS:=
 F.ok Dh λf j A i s H E q=>#[_,λ_ _=>O,(aD (bG (SE (fW (Jk O) O (ww B) () (vP (fW Wm O (oX B) () (ak (qL (fC B) (vI bp (bP _ ()) (qw 0))) aq)) zc)))))]
theorem Jt(F:cU K mg "back_steps" pM ["plan","k"])(j:gH P w K mg base cS):yK P w K mg base:=
 F.ok yJ λf z A i s H E q=>#[_,λ_ _=>O,(aA (vX yJ.nd O () (jm bp j () (qw 0) (ak (qw 1) aq) (gF (aB aQ))))
  (aA (cD (bK (Ui q) Uk (qI (qw 2)) bL (bB _))
  (aD (bG (cP aq)))
  bI)
  (aD (bG (il ["source"] ["row"] [2] O (jP (aG pM)) (cI (cG (ak (aZ bz bA bL (qI (qw 2))) (ak (wk () (qw 1)) (ak (aZ bz bA bL (qI (qw 2))) aq))))) (λ_ _ _ _=>(cJ 0 (show (["source","row"]:List Str).Nodup from by decide +kernel))) aL (λ_ _ _ _=>cX) (λ_ _ _ _=>(cG (ak (qw 0) (ak (aZ bz bA bL (qI (qw 1))) aq)))))))))]
theorem yS(F:wg K cS "just_ahead" "Plan.just_ahead" lQ ["self","k"]):qg P w K mg base cS:=
 F.ok lg λf q A i s H E j=>#[_,λ_ _=>O,(aA (cW 2 lg.nd (SO cp (Ao j) (vI bp (bP _ ()) (qw 0)) (Bk (fU (vI bp (bP _ ()) (qw 0)) (qw 1) (λ_ _=>O)) qG (gw aR)) (λ_ _=>O)))
  (aA (cW 3 lg.nd (P1 (qW kf PySem.F.slot_list_index PySem.F.type_list_index (W5 j) (qw 2) (ak (qw 1) aq))))
  (aD (bG (OB (bK (bY j) bZ (qw 3) aR (bB _)) Ig (fU (qw 2) (aZ Sw Py (qw 3) aR) (λ_ _=>O)))))))]
theorem Ju(F:wg K cS "home" "Plan.home" uG ["self","k"]):sZ P w K mg base cS:=
 F.ok Jp λf j A i s H E q=>#[_,λ_ _=>O,(aD (bG (qI (fU (vI bp (bP _ ()) (qw 0)) (qw 1) (λ_ _=>O)))))]
theorem GZ(F:wg K cS "outer" "Plan.outer" sW ["self","k"]):wy P w K mg base cS:=
 F.ok GP λf j A i s H E q=>#[_,λ_ _=>O,(aD (bG (qI (fU (vI bp (bP _ ()) (qw 0)) (qw 1) (λ_ _=>O)))))]
theorem Jv(F:cU K mg "boxes_read" pK ["expression"])(j:Cm P w K mg base):kJ P w K mg base:=
 F.ok Jo λf q A i s H E z=>#[_,λ_ _=>O,(aD (bG (il ["name"] [] [] O (jP (aG pK)) (cI (bJ j () O (ak (qw 0) aq) (aB aQ))) (λ_ _ _ _=>(cJ 0 (show (["name"]:List Str).Nodup from by decide +kernel))) aL (λ_ _ _ _=>cX) (λ_ _ _ _=>(wk () (qw 0))))))]
theorem Dk(F:cU K mg "first_sources" lr ["plan","k"])(z:sZ P w K mg base cS)(D:wy P w K mg base cS)(q:gH P w K mg base cS)(N:kJ P w K mg base):uL P w K mg base:=
 F.ok j0 λf Q A j s H E i=>#[_,λ_ _=>O,(aA (cW 2 j0.nd (jm bp D (i.mono ()) (qw 0) (ak (qw 1) aq) (gF (aB aQ))))
  (aA (cD (bK SJ Px (qw 2) Ig (bB _))
  (aD (bG (cP (ak (cG (ak bL (ak (aZ bz bA bL (jm bp z (i.mono ()) (qw 0) (ak (qw 1) aq) (gF (aB aQ)))) aq))) aq))))
  bI)
  (aA (cW 3 j0.nd (cP (ak (cG (ak bL (ak (wk () (qw 2)) aq))) aq)))
  (aA (cW 4 j0.nd (jm bp q (i.mono ()) (qw 0) (ak (qw 2) aq) (gF (aB aQ))))
  (aA (cD (bK (bY i) bZ (qI (qw 4)) bL (bB _))
  (aD (mW (pv 3) (il ["node"] [] [] O (jP (aG lr)) (cI (bJ N (i.mono ()) O (ak (qI (qw 4)) aq) (aB aQ))) (λ_ _ _ _=>(cJ 0 (show (["node"]:List Str).Nodup from by decide +kernel))) aL (λ_ _ _ _=>cX) (λ_ _ _ _=>(cG (ak bL (ak (qw 0) aq)))))))
  bI)
  (aD (gq (pv 3))))))))]
theorem Fo(F:cU K mg "turn_sources" qK ["plan","k"])(q:mH P w K mg base cS)(D:gH P w K mg base cS)(i:sY P w K mg base)(N:kJ P w K mg base):vm P w K mg base:=
 F.ok pO λf Q A j s H E z=>#[_,λ_ _=>O,(aA (cW 2 pO.nd (jm bp q (z.mono ()) (qw 0) (ak (qw 1) (ak aR aq)) (gF (aB (aB aQ)))))
  (aA (cW 3 pO.nd (bJ N (z.mono ()) O (ak (qI (jm bp D (z.mono ()) (qw 0) (ak (qw 1) aq) (gF (aB aQ)))) aq) (aB aQ)))
  (aA (cD (K5 (qw 2) (λ_=>O))
  (aD (mW (pv 3) (bJ i () O (ak (qw 0) (ak (fU (qw 2) (Gy aR) (λ_ _=>O)) aq)) (aB (aB aQ)))))
  bI)
  (aD (gq (pv 3))))))]
theorem Dl(F:cU K mg "begin_sources" jz ["plan","k"])(Q:qg P w K mg base cS)(z:gH P w K mg base cS)(j:sY P w K mg base)(D:uL P w K mg base)(N:vm P w K mg base):uM P w K mg base:=
 F.ok oG λf W A q s H E i=>#[_,λ_ _=>O,(aA (cW 2 oG.nd (jm bp Q (i.mono ()) (qw 0) (ak (qw 1) aq) (gF (aB aQ))))
  (aA (cW 3 oG.nd (cP aq))
  (aA (cD (bK SJ Px (qw 2) Ig (bB _))
  (aD (mW (pv 3) (bJ D (i.mono ()) O (ak (qw 0) (ak (qw 1) aq)) (aB (aB aQ)))))
  (aD (mW (pv 3) (il ["node"] [] [] O (jP (aG jz)) (cI (bJ j (i.mono ()) O (ak (qw 0) (ak (qw 2) aq)) (aB (aB aQ)))) (λ_ _ _ _=>(cJ 0 (show (["node"]:List Str).Nodup from by decide +kernel))) aL (λ_ _ _ _=>cX) (λ_ _ _ _=>(cG (ak bL (ak (qw 0) aq))))))))
  (aA (cD (bK (bY i) bZ (qI (jm bp z (i.mono ()) (qw 0) (ak (qw 1) aq) (gF (aB aQ)))) bL (bB _))
  (aD (mW (pv 3) (il ["node"] [] [] O (jP (aG jz)) (cI (bJ N (i.mono ()) O (ak (qw 0) (ak (qw 1) aq)) (aB (aB aQ)))) (λ_ _ _ _=>(cJ 0 (show (["node"]:List Str).Nodup from by decide +kernel))) aL (λ_ _ _ _=>cX) (λ_ _ _ _=>(cG (ak bL (ak (qw 0) aq)))))))
  bI)
  (aD (gq (pv 3)))))))]
theorem Fp(F:wg K cS "params" "Plan.params" qN ["self","name"]):vo P w K mg base cS:=
 F.ok Fi λf q A i s H E j=>#[_,λ_ _=>O,(aD (bG (PE.imp (fW lw O (ww B) () (ak (P4 (Ao j) (vI bp (bP _ ()) (qw 0)) (qw 1) (λ_ _=>O)) aq)) (nA vZ))))]
theorem G3(F:cU K mg "given_steps" nR ["k","name","some"])(vn:kJ P w K mg base):wz P w K mg base:=
 F.ok qO λf fA A outer s H E hr=>#[_,λ_ _=>rfl,(aA (cW 3 qO.nd (cP (ak (cG (ak bL (ak (wk () (qw 0)) (ak (wk () (qw 1)) aq)))) aq)))
  (aA (eG eJ rfl (cI (qw 2)) (cJ 4 qO.nd) aL
  (aD (mW (pv 3) (il ["node"] ["name"] [1] rfl (jP (aG nR)) (cI (bJ vn (hr.mono ()) rfl (ak (qw 4) aq) (aB aQ))) (λ_ _ _ _=>(cJ 0 (show (["node","name"]:List Str).Nodup from by decide +kernel))) aL (λ_ _ _ _=>cX) (λ_ _ _ _=>(cG (ak bL (ak (qw 0) (ak (wk () (qw 1)) aq)))))))))
  (aD (gq (pv 3)))))]
theorem Jw(F:cU K mg "done_steps" pL ["plan","k"])(vt:vo P w K mg base cS)(UI:gH P w K mg base cS)(vn:kJ P w K mg base)(vw:tE P w K mg base)(pf:wz P w K mg base):yL P w K mg base:=
 F.ok jx λf fA A outer s H E hr=>#[_,λ_ _=>rfl,(aA (cW 2 jx.nd (jm bp UI (hr.mono ()) (qw 0) (ak (qw 1) aq) (gF (aB aQ))))
  (aA (cD (PW.pt (JP (bK (bY hr) bZ (qI (qw 2)) bL (bB _)) (Eo (bK (bY hr) bZ (qI (qw 2)) bL (bB _)))))
  (aD (bG (bJ pf (hr.mono ()) rfl (ak (qw 1) (ak (qI (qw 2)) (ak (bJ vw (hr.mono ()) rfl (ak (qw 2) aq) (aB aQ)) aq))) (aB (aB (aB aQ))))))
  bI)
  (aA (cD (bK (bY hr) bZ (qI (qw 2)) bL (bB _))
  (aA (ue ["node"] ["k"] [1] jx.nd rfl rfl rfl (jP (aG pL)) (cI (bJ vn (hr.mono ()) rfl (ak (qI (qw 2)) aq) (aB aQ))) (λ_ _ _ _=>(cJ 0 (show (["node","k"]:List Str).Nodup from by decide +kernel))) aL (λ_ _ _ _=>cX) (λ_ _ _ _=>(cG (ak bL (ak (qw 0) (ak (wk () (qw 1)) aq))))))
  (aD (bG (aZ bz bA (qw 3) (cP (ak (cG (ak bL (ak (wk () (qw 1)) (ak (aZ bz bA bL (qI (qw 2))) aq)))) (ak (cG (ak bL (ak (wk () (qw 1)) (ak (aZ bz bA bL (qI (qw 2))) aq)))) aq)))))))
  bI)
  (aA (cD (bK (bY hr) bZ (qI (qw 2)) bL (bB _))
  (aA (cW 3 jx.nd (cP (ak (cG (ak bL (ak (wk () (qw 1)) (ak (aZ bz bA bL (qI (qw 2))) aq)))) aq)))
  (aA (eG eJ rfl (Uz rfl (YD B) (ak (jm bp vt (hr.mono ()) (qw 0) (ak (qI (qw 2)) aq) (gF (aB aQ))) (ak (qI (qw 2)) aq))) (gW rfl (bw (cJ 4 jx.nd) (bw (cJ 5 jx.nd) fX))) (gY (bH aL (bH aL gR)))
  (aD (mW (pv 3) (bJ pf (hr.mono ()) rfl (ak (qw 1) (ak (qw 4) (ak (cP (ak (qw 5) aq)) aq))) (aB (aB (aB aQ)))))))
  (aD (gq (pv 3)))))
  bI)
  (aD (bG (cP aq)))))))]
theorem Jx(F:wg K cS "body" "Plan.body" uH ["self","name"]):yM P w K mg base cS:=
 F.ok (k:=0) Jq λf fA A outer s H E hr=>#[_,λ_ _=>rfl,(aD (bG (PE.imp (fW lw (by rfl) (ww B) (by kernel_rfl) (ak (YB (by show cp) (Kr PySem.F.slot_dict_get PySem.F.type_dict_get (OD (Ao hr)) (vI bp (bP _ (mI 1 rfl)) (qw 0)) (ak (cG (ak (qw 1) (ak Ig (ak aR aq)))) (ak (cP aq) aq)))) aq)) (nA vZ))))]
theorem G4(F:cU K mg "leave_steps" nT ["plan","k"])(vx:yM P w K mg base cS)(UM:sZ P w K mg base cS)(UN:jL P w K mg base cS)(UO:sY P w K mg base):wA P w K mg base:=
 F.ok (k:=83) qP λf fA A outer s H E hr=>#[_,λ_ _=>rfl,(aA (vX (i:=2) qP.nd rfl (Or.inr rfl) (jm bp UM (hr.mono ()) (qw 0) (ak (qw 1) aq) (gF (aB aQ))))
  (aA (cW 3 qP.nd (jm bp vx (hr.mono ()) (qw 0) (ak (qw 2) aq) (gF (aB aQ))))
  (aA (cD (PW.pt (JP (bK (Ui hr) Uk (fU (qw 3) (Gy aR) (λ_ _=>rfl)) (qw 1) (bB _)) (Eo (Op (K5 (jm bp UN (hr.mono ()) (qw 0) (ak (qw 3) aq) (gF (aB aQ))) (λ_=>rfl))))))
  (aD (bG (cP aq)))
  bI)
  (aD (bG (il ["source"] ["home"] [2] rfl (jP (aG nT)) (cI (bJ UO (hr.mono ()) rfl (ak (qw 0) (ak (qw 1) aq)) (aB (aB aQ)))) (λ_ _ _ _=>(cJ 0 (show (["source","home"]:List Str).Nodup from by decide +kernel))) aL (λ_ _ _ _=>cX) (λ_ _ _ _=>(cG (ak (qw 0) (ak (wk () (qw 1)) aq))))))))))]
theorem Xm(F:cU K mg "rules" qJ ["program"])(vy:BR P w K mg base cS)(vF:uK P w K mg base cS)(vS:yK P w K mg base)(vT:uM P w K mg base)(v3:yL P w K mg base)(v_:wA P w K mg base):Mg P w K mg base:=
 F.ok (k:=85) yo λf fA A outer s H E hr=>#[_,λ_ _=>rfl,(aA (cW 1 yo.nd (QP bp vy (hr.mono ()) rfl (ak (qw 0) aq) (gF (aB aQ))))
  (aA (cW 2 yo.nd (cP aq))
  (aA (eG eJ rfl (cI (QN bp vF (hr.mono ()) (qw 1) rfl)) (Oh (i:=3) yo.nd rfl (Or.inr rfl)) aL
  (aA (mW (pv 2) (il ["kind","source"] ["k"] [3] rfl (jP (aG qJ)) (cI (bJ vT (hr.mono ()) rfl (ak (qw 1) (ak (qw 3) aq)) (aB (aB aQ)))) (λ_ _ _ _=>(gW rfl (bw (cJ 0 (show (["kind","source","k"]:List Str).Nodup from by decide +kernel)) (bw (cJ 1 (show (["kind","source","k"]:List Str).Nodup from by decide +kernel)) fX)))) (gY (bH aL (bH aL gR))) (λ_ _ _ _=>cX) (λ_ _ _ _=>(cG (ak (qw 2) (ak aR (ak (qw 0) (ak (qw 1) (ak (wk () (qw 2)) aq)))))))))
  (aA (mW (pv 2) (il ["kind","source","target"] ["k"] [3] rfl (jP (aG qJ)) (cI (bJ v3 (hr.mono ()) rfl (ak (qw 1) (ak (qw 3) aq)) (aB (aB aQ)))) (λ_ _ _ _=>(gW rfl (bw (cJ 0 (show (["kind","source","target","k"]:List Str).Nodup from by decide +kernel)) (bw (cJ 1 (show (["kind","source","target","k"]:List Str).Nodup from by decide +kernel)) (bw (cJ 2 (show (["kind","source","target","k"]:List Str).Nodup from by decide +kernel)) fX))))) (gY (bH aL (bH aL (bH aL gR)))) (λ_ _ _ _=>cX) (λ_ _ _ _=>(cG (ak (qw 3) (ak aR (ak (qw 0) (ak (qw 1) (ak (qw 2) aq)))))))))
  (aA (mW (pv 2) (il ["source","target"] ["k"] [3] rfl (jP (aG qJ)) (cI (bJ vS (hr.mono ()) rfl (ak (qw 1) (ak (qw 3) aq)) (aB (aB aQ)))) (λ_ _ _ _=>(gW rfl (bw (cJ 0 (show (["source","target","k"]:List Str).Nodup from by decide +kernel)) (bw (cJ 1 (show (["source","target","k"]:List Str).Nodup from by decide +kernel)) fX)))) (gY (bH aL (bH aL gR))) (λ_ _ _ _=>cX) (λ_ _ _ _=>(cG (ak (qw 2) (ak aR (ak bL (ak (qw 0) (ak (qw 1) aq)))))))))
  (aD (mW (pv 2) (il ["source","target"] ["k"] [3] rfl (jP (aG qJ)) (cI (bJ v_ (hr.mono ()) rfl (ak (qw 1) (ak (qw 3) aq)) (aB (aB aQ)))) (λ_ _ _ _=>(gW rfl (bw (cJ 0 (show (["source","target","k"]:List Str).Nodup from by decide +kernel)) (bw (cJ 1 (show (["source","target","k"]:List Str).Nodup from by decide +kernel)) fX)))) (gY (bH aL (bH aL gR))) (λ_ _ _ _=>cX) (λ_ _ _ _=>(cG (ak (qw 2) (ak aR (ak bL (ak (qw 0) (ak (qw 1) aq))))))))))))))
  (aD (bG (Ff (jW (zK rfl) (by rfl) (Di B) (by kernel_rfl) (vP (fW (HH rfl hr.units) (by rfl) (RK B) (by kernel_rfl) (ak (qw 2) aq)) zc))))))))]
theorem Fq(F:cU K mg "_law_cell_at" qM ["_law_script","_law_k"]):vp P w K mg base:=
 F.ok (k:=0) Fg λf fA A outer s H E hr=>#[_,λ_ _=>rfl,(aA (cD (bK Yg Ul (qw 1) (qL (fC B) (qw 0)) (bB _))
  (aD (bG (aZ bW bM (fU (qw 0) (qw 1) (λ_ _=>rfl)) aR)))
  bI)
  (aD (bG aR)))]
theorem Jy(F:cU K mg "_law_names" lO ["_law_cell","_law_count"]):yN P w K mg base:=
 F.ok (k:=0) gf λf fA A outer s H E hr=>#[_,λ_ _=>rfl,(aA (vX (i:=2) gf.nd rfl (Or.inr rfl) bL)
  (aA (cW 3 gf.nd (cP aq))
  (aA (cD (bK (bY hr) bZ (aZ bW bM (qw 0) aR) aR (bB _))
  (aA (cW 4 gf.nd (Yz (qW PySem.F.plainAttrs_str PySem.F.slot_str_join PySem.F.type_str_join Pz bL (ak (il ["_law_j"] ["_law_letters","_law_cell"] [2,0] rfl (jP (aG lO)) (lK rfl (oX B) (ak aR aq)) (λ_ _ _ _=>(cJ 0 (show (["_law_j","_law_letters","_law_cell"]:List Str).Nodup from by decide +kernel))) aL (λ_ _ _ _=>cX) (λ_ _ _ _=>(fU (qw 1) (aZ bW bM (aZ bz bA (aZ dH dg (qw 2) aR) (aZ mZ kO aR (qw 0))) aR) (λ_ _=>rfl)))) aq))))
  (aA (eG eJ rfl (lK rfl (oX B) (ak (qw 1) aq)) (cJ 5 gf.nd) aL
  (aD (zY (pv 3) (v6 (qw 4) (gw (aZ bW bM (qw 5) aR)) (gw (aZ bz bA (aZ bz bA (aZ bW bM (qw 5) aR) aR) (aZ dH dg (qw 5) aR)))))))
  (aD (gq (pv 3)))))
  bI)
  (aA (cW 6 gf.nd (fU (cP (ak aR (ak aR (ak aR (ak aR (ak aR (ak aR (ak aR aq)))))))) (aZ bW bM (aZ dH dg (qw 0) aR) aR) (λ_ _=>rfl)))
  (aA (cW 7 gf.nd (aZ bW bM (aZ dH dg (qw 0) aR) (qw 6)))
  (aA (eG eJ rfl (lK rfl (oX B) (ak (qw 1) aq)) (cJ 5 gf.nd) aL
  (aA (ue (i:=8) ["_law_j"] ["_law_letters","_law_cell"] [2,0] gf.nd rfl rfl rfl (jP (aG lO)) (lK rfl (oX B) (ak (qw 6) aq)) (λ_ _ _ _=>(cJ 0 (show (["_law_j","_law_letters","_law_cell"]:List Str).Nodup from by decide +kernel))) aL (λ_ _ _ _=>cX) (λ_ _ _ _=>(fU (qw 1) (aZ bW bM (aZ bz bA (aZ dH dg (qw 2) (aZ bz bA (qw 0) aR)) (aZ mZ kO (qw 0) (qw 0))) aR) (λ_ _=>rfl))))
  (aA (OW (J3 (fU (qw 2) (aZ bW bM (aZ bz bA (aZ dH dg (qw 0) aR) (qw 5)) aR) (λ_ _=>rfl)) (Dy (pv 8) (qw 7) set_list)))
  (aD (zY (pv 3) (Yz (qW PySem.F.plainAttrs_str PySem.F.slot_str_join PySem.F.type_str_join Pz bL (ak (qw 8) aq))))))))
  (aD (gq (pv 3)))))))))]
theorem Ac(F:cU K mg "_law_expression" mX ["_law_cell","_law_own","_law_lists"]):rW P w K mg base:=
 F.ok (k:=0) cN λf fA A outer s H E hr=>#[_,λ_ _=>rfl,(aA (cW 3 cN.nd (cG (ak bL (ak (aZ bW bM (aZ mZ kO (qw 0) aR) (aZ IM OP aR aR)) aq))))
  (aA (cD (PW.pt (pF (bK qU nu (qL (fC B) (qw 1)) aR (bB _)) (my (bK qU nu (aZ bW bM (qw 0) aR) aR (bB _)))))
  (aD (cW 3 cN.nd (cG (ak bL (ak (fU (qw 1) (aZ bW bM (aZ dH dg (qw 0) aR) (qL (fC B) (qw 1))) (λ_ _=>rfl)) aq)))))
  bI)
  (aA (eG eJ rfl (lK rfl (oX B) (ak (fU (cP (ak aR (ak aR (ak aR (ak aR (ak aR (ak aR (ak aR (ak aR aq))))))))) (aZ bW bM (aZ dH dg (qw 0) aR) aR) (λ_ _=>rfl)) aq)) (cJ 4 cN.nd) aL
  (aA (cW 5 cN.nd (aZ bW bM (aZ mZ kO (aZ bW bM (aZ mZ kO (qw 0) (aZ bz bA (qw 4) aR)) aR) aR) aR))
  (aA (cW 6 cN.nd (cG (ak bL (ak (aZ bW bM (qw 5) aR) aq))))
  (aA (cD (PW.pt (pF (bK qU nu (qL (fC B) (qw 1)) aR (bB _)) (my (bK qU nu (aZ bW bM (qw 5) aR) aR (bB _)))))
  (aD (cW 6 cN.nd (cG (ak bL (ak (fU (qw 1) (aZ bW bM (aZ dH dg (qw 5) aR) (qL (fC B) (qw 1))) (λ_ _=>rfl)) aq)))))
  bI)
  (aA (cD (PW.pt (pF (bK qU nu (qL (fC B) (qw 2)) aR (bB _)) (my (bK (bY hr) bZ (aZ bW bM (qw 5) aR) aR (bB _)))))
  (aD (cW 6 cN.nd (cG (ak bL (ak (fU (qw 2) (aZ bW bM (aZ dH dg (qw 5) aR) (qL (fC B) (qw 2))) (λ_ _=>rfl)) (ak (qw 6) aq))))))
  bI)
  (aA (cW 7 cN.nd (fU bL (aZ bW bM (aZ dH dg (qw 5) aR) aR) (λ_ _=>rfl)))
  (aD (cD (PW.pt (pF (bK qU nu (qL (fC B) (qw 2)) aR (bB _)) (my (bK (bY hr) bZ (aZ bW bM (aZ dH dg (qw 5) aR) aR) aR (bB _)))))
  (aD (cW 3 cN.nd (cG (ak bL (ak (fU (qw 2) (aZ bW bM (aZ dH dg (qw 5) aR) (qL (fC B) (qw 2))) (λ_ _=>rfl)) (ak (qw 3) aq))))))
  (aD (cD (bK (bY hr) bZ (aZ bW bM (aZ dH dg (qw 5) aR) aR) aR (bB _))
  (aD (cW 3 cN.nd (cG (ak (qw 7) (ak (qw 3) (ak (qw 6) aq))))))
  (aD (cW 3 cN.nd (cG (ak (qw 7) (ak (qw 6) (ak (qw 3) aq))))))))))))))))
  (aD (gq (pv 3))))))]
theorem N7(F:cU K mg "_law_row" tX ["_law_cell","_law_own","_law_lists","_law_heads_here","_law_whos"])(nv:rW P w K mg base):Cp P w K mg base:=
 F.ok (k:=1) jc λf fA A outer s H E hr=>#[_,λ_ _=>rfl,(aA (cW 5 jc.nd (bJ nv (hr.mono ()) rfl (ak (aZ bW bM (aZ mZ kO (qw 0) aR) aR) (ak (qw 1) (ak (qw 2) aq))) (aB (aB (aB aQ)))))
  (aA (cW 6 jc.nd (bJ nv (hr.mono ()) rfl (ak (aZ bW bM (aZ mZ kO (qw 0) aR) aR) (ak (qw 1) (ak (qw 2) aq))) (aB (aB (aB aQ)))))
  (aA (cW 7 jc.nd (aZ bW bM (aZ dH dg (qw 0) aR) aR))
  (aA (cD (PW.pt (pF (bK (bY hr) bZ (qw 7) aR (bB _)) (my (bK qU nu (qL (fC B) (qw 2)) aR (bB _)))))
  (aD (bG (cG (ak bL (ak (fU (qw 2) (aZ bW bM (aZ dH dg (qw 0) aR) (qL (fC B) (qw 2))) (λ_ _=>rfl)) (ak (qw 5) (ak (qw 6) aq)))))))
  bI)
  (aA (cD (bK (bY hr) bZ (qw 7) aR (bB _))
  (aD (bG (cG (ak bL (ak (qw 6) (ak (Ex (cP aq)) aq))))))
  bI)
  (aA (cD (PW.pt (JP (bK (zQ hr) vY (qw 7) (cG (ak aR (ak aR aq))) (by with_unfolding_all rfl)) (Eo (bK (bY hr) bZ (qL (fC B) (qw 1)) aR (bB _)))))
  (aD (bG (cG (ak bL (ak (qw 5) (ak (Ex (cP aq)) (ak (Ex (cP aq)) aq)))))))
  bI)
  (aA (cW 8 jc.nd (fU (qw 1) (aZ bW bM (aZ dH dg (qw 0) aR) (qL (fC B) (qw 1))) (λ_ _=>rfl)))
  (aA (cD (PW.pt (pF (bK (bY hr) bZ (qw 7) aR (bB _)) (my (bK qU nu (qL (fC B) (qw 4)) aR (bB _)))))
  (aD (bG (cG (ak bL (ak (qw 8) (ak (qw 5) (ak (fU (qw 4) (aZ bW bM (aZ dH dg (qw 0) aR) (qL (fC B) (qw 4))) (λ_ _=>rfl)) aq)))))))
  bI)
  (aA (cD (PW.pt (pF (bK (zQ hr) vY (qw 7) (cG (ak aR (ak aR aq))) (by with_unfolding_all rfl)) (my (bK qU nu (qL (fC B) (qw 3)) aR (bB _)))))
  (aA (OE (fU (qw 3) (aZ bW bM (aZ dH dg (qw 0) aR) (qL (fC B) (qw 3))) (λ_ _=>rfl)) (gW rfl (bw (cJ 9 jc.nd) (bw (cJ 10 jc.nd) fX))) (gY (bH aL (bH aL gR))))
  (aA (ue (i:=11) ["_law_k"] ["_law_cell","_law_own","_law_lists"] [0,1,2] jc.nd rfl rfl rfl (jP (aG tX)) (lK rfl (oX B) (ak (qL (fC B) (qw 10)) aq)) (λ_ _ _ _=>(cJ 0 (show (["_law_k","_law_cell","_law_own","_law_lists"]:List Str).Nodup from by decide +kernel))) aL (λ_ _ _ _=>cX) (λ_ _ _ _=>(bJ nv (hr.mono ()) rfl (ak (aZ bW bM (aZ mZ kO (qw 1) aR) (aZ Sw Py aR (qw 0))) (ak (qw 2) (ak (qw 3) aq))) (aB (aB (aB aQ))))))
  (aD (bG (cG (ak bL (ak (qw 8) (ak (qw 9) (ak (qw 11) aq)))))))))
  bI)
  (aD (bG (cG (ak bL (ak (qw 8) (ak (qw 6) aq)))))))))))))))]
theorem Mj(F:cU K mg "_law_rows" rE ["_law_cells","_law_own","_law_lists","_law_heads_here","_law_whos"])(wa:Cp P w K mg base):zZ P w K mg base:=
 F.ok (k:=2) lR λf fA A outer s H E hr=>#[_,λ_ _=>rfl,(aA (cW 5 lR.nd (Up (cP aq)))
  (aA (cW 6 lR.nd (Up (cP (ak (Ex (cP (ak (qw 5) aq))) aq))))
  (aA (eG eJ rfl (cI (qw 0)) (cJ 7 lR.nd) aL
  (aD (cD (PW.pt (pF (bK (bY hr) bZ (aZ bW bM (qw 7) aR) aR (bB _)) (my (bK qU nu (W6 (jW uo (by rfl) (fC B) n_ (ak (qw 6) aq))) aR (bB _)))))
  (aA (Gw (RS (qW kf PySem.F.slot_list_pop PySem.F.type_list_pop V4 (fU (qw 6) (Gy aR) (λ_ _=>rfl)) (ak aR aq))))
  (aD (cD (bK (bY hr) bZ (W6 (jW uo (by rfl) (fC B) n_ (ak (fU (qw 6) (Gy aR) (λ_ _=>rfl)) aq))) aR (bB _))
  (aD (Gw (RI (KI kf PySem.F.slot_list_pop PySem.F.type_list_pop KS (qw 6)))))
  bI)))
  (aA (cW 8 lR.nd (bJ wa (hr.mono ()) rfl (ak (qw 7) (ak (qw 1) (ak (qw 2) (ak (qw 3) (ak (qw 4) aq))))) (aB (aB (aB (aB (aB aQ)))))))
  (aA (Bf (qj (qW kf nL nN oM (qI (fU (qw 6) (Gy aR) (λ_ _=>rfl))) (ak (qw 8) aq))))
  (aD (cD (PW.pt (pF (bK (zQ hr) vY (qI (qw 8)) (cG (ak bL (ak bL aq))) (by with_unfolding_all rfl)) (my (bK Yg Ul (W6 (jW uo (by rfl) (fC B) n_ (ak (qw 6) aq))) aR (bB _)))))
  (aD (Bf (qj (qW kf nL nN oM (qw 6) (ak (Ex (il ["_law_inner"] [] [] rfl (jP (aG rE)) (cI (Bk (qw 8) (gw aR) qG)) (λ_ _ _ _=>(cJ 0 (show (["_law_inner"]:List Str).Nodup from by decide +kernel))) aL (λ_ _ _ _=>cX) (λ_ _ _ _=>(qw 0)))) aq)))))
  bI)))))))
  (aD (bG (R_ (qw 5)))))))]
theorem Jz(F:cU K mg "_law_heads" uE ["_law_cell","_law_names_here"]):yO P w K mg base:=
 F.ok (k:=0) nW λf fA A outer s H E hr=>#[_,λ_ _=>rfl,(aA (cW 2 nW.nd (cP aq))
  (aA (eG eJ rfl (lK rfl (oX B) (ak (aZ bW bM (aZ dH dg (qw 0) aR) aR) aq)) (cJ 3 nW.nd) aL
  (aA (cW 4 nW.nd (aZ bW bM (aZ dH dg (qw 0) (fU (cP (ak aR (ak aR (ak aR (ak aR aq))))) (qw 3) (λ_ _=>rfl))) aR))
  (aD (zY (pv 2) (cG (ak (fU (qw 1) (aZ bz bA aR (qw 3)) (λ_ _=>rfl)) (ak (v6 (qw 1) (gw (aZ bz bA aR (aZ mZ kO aR (qw 3)))) (gw (aZ bz bA (aZ bz bA aR (aZ mZ kO aR (qw 3))) (qw 4)))) aq)))))))
  (aD (gq (pv 2)))))]
theorem Ft(F:cU K mg "_law_program" gZ ["_law_script"])(pj:vp P w K mg base)(wb:yO P w K mg base)(wc:yN P w K mg base)(px:zZ P w K mg base):vq P w K mg base:=
 F.ok (k:=3) b8 λf fA A outer s H E hr=>#[_,λ_ _=>rfl,(aA (vX (i:=1) b8.nd rfl (Or.inr rfl) (bJ pj (hr.mono ()) rfl (ak (qw 0) (ak aR aq)) (aB (aB aQ))))
  (aA (cW 2 b8.nd (bJ wc (hr.mono ()) rfl (ak (bJ pj (hr.mono ()) rfl (ak (qw 0) (ak aR aq)) (aB (aB aQ))) (ak aR aq)) (aB (aB aQ))))
  (aA (vX (i:=3) b8.nd rfl (Or.inr rfl) (cP (ak Ig (ak bL (ak bL aq)))))
  (aA (cW 4 b8.nd (v6 (qw 2) qG (gw (aZ bW bM (qw 1) aR))))
  (aA (cW 5 b8.nd (v6 (qw 2) (gw aR) (gw (aZ bz bA aR (aZ bW bM (aZ dH dg (qw 1) aR) aR)))))
  (aA (cW 6 b8.nd (bJ wb (hr.mono ()) rfl (ak (qw 1) (ak (qw 2) aq)) (aB (aB aQ))))
  (aA (ue (i:=7) ["_law_k","_law_name"] ["_law_ranks","_law_cell"] [3,1] b8.nd rfl rfl rfl (jP (aG gZ)) (Be rfl (rJ B) (ak (qw 4) aq)) (λ_ _ _ _=>(gW rfl (bw (cJ 0 (show (["_law_k","_law_name","_law_ranks","_law_cell"]:List Str).Nodup from by decide +kernel)) (bw (cJ 1 (show (["_law_k","_law_name","_law_ranks","_law_cell"]:List Str).Nodup from by decide +kernel)) fX)))) (gY (bH aL (bH aL gR))) (λ_ _ _ _=>cX) (λ_ _ _ _=>(cG (ak (qw 1) (ak aR (ak (fU (qw 2) (aZ bW bM (aZ bz bA (aZ dH dg (qw 3) aR) (qw 0)) aR) (λ_ _=>rfl)) aq))))))
  (aA (cW 7 b8.nd (aZ bz bA (qw 7) (il ["_law_name"] ["_law_cell","_law_ranks"] [1,3] rfl (jP (aG gZ)) (cI (qw 5)) (λ_ _ _ _=>(cJ 0 (show (["_law_name","_law_cell","_law_ranks"]:List Str).Nodup from by decide +kernel))) aL (λ_ _ _ _=>cX) (λ_ _ _ _=>(cG (ak (qw 0) (ak (aZ bz bA aR (aZ bW bM (aZ dH dg (qw 1) aR) aR)) (ak (fU (qw 2) (aZ bW bM (aZ dH dg (qw 1) aR) aR) (λ_ _=>rfl)) aq))))))))
  (aA (ue (i:=8) ["_law_number"] [] [] b8.nd rfl rfl rfl (jP (aG gZ)) (cI (v6 (qw 0) (gw aR) (gw aR))) (λ_ _ _ _=>(cJ 0 (show (["_law_number"]:List Str).Nodup from by decide +kernel))) aL (λ_ _ _ _=>cX) (λ_ _ _ _=>(aZ bW bM (qw 0) aR)))
  (aA (cW 9 b8.nd (cP (ak bL aq)))
  (aA (cW 10 b8.nd (cP aq))
  (aA (eG eJ rfl (Be rfl (rJ B) (ak (qw 6) aq)) (gW rfl (bw (cJ 11 b8.nd) (bw (cJ 12 b8.nd) fX))) (gY (bH aL (bH aL gR)))
  (aA (cW 13 b8.nd (bJ px (hr.mono ()) rfl (ak (PQ (qw 8) (gw (qw 11)) qG (gw (aZ bz bA (qL (fC B) (qw 6)) aR))) (ak (aZ bz bA (aZ bz bA (qw 4) (cP (ak (qI (qw 12)) aq))) (qI (qw 12))) (ak (qw 5) (ak (qw 6) (ak (qw 9) aq))))) (aB (aB (aB (aB (aB aQ)))))))
  (aD (zY (pv 10) (cG (ak (qI (qw 12)) (ak (fU (qw 3) (aZ bW bM (aZ bz bA (qw 1) (qw 11)) aR) (λ_ _=>rfl)) (ak (il ["_law_name"] [] [] rfl (jP (aG gZ)) (cI (qI (qw 12))) (λ_ _ _ _=>(cJ 0 (show (["_law_name"]:List Str).Nodup from by decide +kernel))) aL (λ_ _ _ _=>cX) (λ_ _ _ _=>(cG (ak (qw 0) (ak Ig aq))))) (ak (qw 13) aq)))))))))
  (aA (cW 13 b8.nd (bJ px (hr.mono ()) rfl (ak (PQ (qw 8) (gw (qL (fC B) (qw 6))) qG (gw (aZ bz bA (qL (fC B) (qw 6)) aR))) (ak (qw 4) (ak (qw 5) (ak (qw 6) (ak (qw 9) aq))))) (aB (aB (aB (aB (aB aQ)))))))
  (aD (bG (cG (ak (qw 7) (ak (cP (ak (cG (ak bL (ak bL (ak bL aq)))) aq)) (ak (qw 10) (ak (qw 13) aq))))))))))))))))))))]
theorem Ml{n:Nat}(F:cU K mg "_law_read" rF ["_law_expression_here"])(iq:bT P w K mg base "_law_read" (0+n) ["_law_expression_here"] (cC K 1 (fZ n))):bT P w K mg base "_law_read" (0+n+1) ["_law_expression_here"] (cC K 1 (fZ (n+1))):=
 F.ok (k:=0+n) Ma λf fA A outer s H E hr=>#[_,λ_ _=>rfl,(aA (cD (bK (bY hr) bZ (qI (qw 0)) bL (bB _))
  (aD (bG (cP aq)))
  bI)
  (aA (cD (bK (bY hr) bZ (qI (qw 0)) bL (bB _))
  (aD (bG (cP (ak (qI (qw 0)) aq))))
  bI)
  (aA (cD (bK (bY hr) bZ (qI (qw 0)) bL (bB _))
  (aD (bG (aZ bz bA (cP (ak (qI (qw 0)) aq)) (bJ iq (hr.mono ()) rfl (ak (qI (qw 0)) aq) (aB aQ)))))
  bI)
  (aD (bG (aZ bz bA (bJ iq (hr.mono ()) rfl (ak (qI (qw 0)) aq) (aB aQ)) (bJ iq (hr.mono ()) rfl (ak (qI (qw 0)) aq) (aB aQ))))))))]
theorem yQ(we:cU K mg "_law_read" rF ["_law_expression_here"]):∀n:Nat,bT P w K mg base "_law_read" (0+n) ["_law_expression_here"] (cC K 1 (fZ n))
 |0=>oV we
 |n+1=>by let ih:=yQ we n;show Ml B bp bP cp we ih
theorem N8{n:Nat}(F:cU K mg "_law_all" tY ["_law_rows_here","_law_first","_law_told"])(l0:bT P w K mg base "_law_all" (0+n) ["_law_rows_here","_law_first","_law_told"] (cC K 3 (fu n))):bT P w K mg base "_law_all" (0+n+1) ["_law_rows_here","_law_first","_law_told"] (cC K 3 (fu (n+1))):=
 F.ok (k:=0+n) kZ λf fA A outer s H E hr=>#[_,λ_ _=>rfl,(aA (cW 3 kZ.nd (qw 1))
  (aA (eG eJ rfl (cI (qw 0)) (cJ 4 kZ.nd) aL
  (aA (Bf (qj (qW kf nL nN oM (qw 2) (ak (cG (ak (qw 3) (ak (qw 4) aq))) aq))))
  (aA (cW 3 kZ.nd (aZ bz bA (qw 3) aR))
  (aD (cD (bK (zQ hr) vY (qI (qw 4)) (cG (ak bL (ak bL aq))) (by with_unfolding_all rfl))
  (aD (eG eJ rfl (cI (Bk (qw 4) (gw aR) qG)) (cJ 5 kZ.nd) aL
  (aD (cW 3 kZ.nd (bJ l0 (hr.mono ()) rfl (ak (qw 5) (ak (qw 3) (ak (qw 2) aq))) (aB (aB (aB aQ))))))))
  bI)))))
  (aD (gq (pv 3)))))]
theorem Ad(wf:cU K mg "_law_all" tY ["_law_rows_here","_law_first","_law_told"]):∀n:Nat,bT P w K mg base "_law_all" (0+n) ["_law_rows_here","_law_first","_law_told"] (cC K 3 (fu n))
 |0=>oV wf
 |n+1=>by let ih:=Ad wf n;show N8 B bp bP cp wf ih
theorem JB(F:cU K mg "_law_value" uF ["_law_k","_law_name","_law_some"])(iq:z9 P w K mg base):yP P w K mg base:=
 F.ok (k:=40) nY λf fA A outer s H E hr=>#[_,λ_ _=>rfl,(aA (cW 3 nY.nd (cP (ak (cG (ak (qw 0) (ak aR (ak bL (ak (aZ bz bA bL (PE.imp (fW pq (by rfl) (JV B) (by kernel_rfl) (ak (qw 0) aq)) (nA Ew))) (ak (aZ bz bA bL (qw 1)) aq)))))) aq)))
  (aA (eG eJ rfl (cI (qw 2)) (cJ 4 nY.nd) aL
  (aD (eG eJ rfl (cI (bJ iq (hr.mono ()) rfl (ak (qw 4) aq) (aB aQ))) (cJ 5 nY.nd) aL
  (aD (zY (pv 3) (cG (ak (qw 0) (ak aR (ak bL (ak (aZ bz bA bL (qw 5)) (ak (aZ bz bA bL (qw 1)) aq)))))))))))
  (aD (gq (pv 3)))))]
theorem Oa(F:cU K mg "_law_due" tZ ["_law_program_here","_law_k","_law_row_here"])(iq:z9 P w K mg base)(ny:yP P w K mg base):Cq P w K mg base:=
 F.ok (k:=41) eO λf fA A outer s H E hr=>#[_,λ_ _=>rfl,(aA (cW 3 eO.nd (aZ bz bA bL (PE.imp (fW pq (by rfl) (JV B) (by kernel_rfl) (ak (qw 1) aq)) (nA Ew))))
  (aA (cD (bK (bY hr) bZ (qI (qw 2)) bL (bB _))
  (aD (bG (bJ ny (hr.mono ()) rfl (ak (qw 1) (ak (qI (qw 2)) (ak (cP (ak (qI (qw 2)) aq)) aq))) (aB (aB (aB aQ))))))
  bI)
  (aA (cD (bK (bY hr) bZ (qI (qw 2)) bL (bB _))
  (aD (bG (bJ ny (hr.mono ()) rfl (ak (qw 1) (ak (qI (qw 2)) (ak (cP (ak (qI (qw 2)) (ak (qI (qw 2)) aq))) aq))) (aB (aB (aB aQ))))))
  bI)
  (aA (cW 4 eO.nd (cP aq))
  (aA (cD (bK (bY hr) bZ (qI (qw 2)) bL (bB _))
  (aA (ue (i:=4) ["_law_name_read"] ["_law_k"] [1] eO.nd rfl rfl rfl (jP (aG tZ)) (cI (bJ iq (hr.mono ()) rfl (ak (qI (qw 2)) aq) (aB aQ))) (λ_ _ _ _=>(cJ 0 (show (["_law_name_read","_law_k"]:List Str).Nodup from by decide +kernel))) aL (λ_ _ _ _=>cX) (λ_ _ _ _=>(cG (ak (qw 1) (ak aR (ak bL (ak (aZ bz bA bL (qw 0)) (ak (aZ bz bA bL (PE.imp (fW pq (by rfl) (JV B) (by kernel_rfl) (ak (qw 1) aq)) (nA Ew))) aq))))))))
  (aD (cW 4 eO.nd (aZ bz bA (qw 4) (cP (ak (cG (ak (qw 1) (ak aR (ak bL (ak (aZ bz bA bL (PE.imp (fW pq (by rfl) (JV B) (by kernel_rfl) (ak (qw 1) aq)) (nA Ew))) (ak (aZ bz bA bL (qI (qw 2))) aq)))))) (ak (cG (ak (qw 1) (ak aR (ak bL (ak (qw 3) (ak (aZ bz bA bL (qI (qw 2))) aq)))))) aq)))))))
  bI)
  (aA (cD (bK (bY hr) bZ (qI (qw 2)) bL (bB _))
  (aA (cW 4 eO.nd (cP (ak (cG (ak (qw 1) (ak aR (ak bL (ak (qw 3) (ak (aZ bz bA bL (qI (qw 2))) aq)))))) aq)))
  (aD (eG eJ rfl (cI (qI (qw 0))) (gW rfl (bw (cJ 5 eO.nd) (bw (cJ 6 eO.nd) (bw (cJ 7 eO.nd) (bw (cJ 8 eO.nd) fX))))) (gY (bH aL (bH aL (bH aL (bH aL gR)))))
  (aD (cD (bK (bY hr) bZ (qw 5) (qI (qw 2)) (bB _))
  (aD (eG eJ rfl (Uz rfl (YD B) (ak (qw 7) (ak (qI (qw 2)) aq))) (gW rfl (bw (cJ 9 eO.nd) (bw (cJ 10 eO.nd) fX))) (gY (bH aL (bH aL gR)))
  (aD (cW 4 eO.nd (aZ bz bA (qw 4) (bJ ny (hr.mono ()) rfl (ak (qw 1) (ak (qI (qw 9)) (ak (cP (ak (qw 10) aq)) aq))) (aB (aB (aB aQ)))))))))
  bI)))))
  bI)
  (aD (gq (pv 4)))))))))]
theorem UP{f:Addr}{fd:FuncData}(F:uW K "law" "law" vh f fd)(l0:NQ P w K mg base)(wm:Cq P w K mg base)(py:vq P w K mg base)(wn:Mg P w K mg base):n8 P w K mg base pZ 87 f fd ["_law_script"] (cC K 1 RJ):=
 uW.okP (k:=86) F jA λfA A outer s H E hr=>#[_,λ_ _=>rfl,(aA (cW 1 jA.nd (bJ py (hr.mono ()) rfl (ak (qw 0) aq) (aB aQ)))
  (aA (cW 2 jA.nd (cP aq))
  (aA (cW 3 jA.nd aR)
  (aA (eG eJ rfl (cI (qI (qw 1))) (gW rfl (bw (cJ 4 jA.nd) (bw (cJ 5 jA.nd) (bw (cJ 6 jA.nd) (bw (cJ 7 jA.nd) fX))))) (gY (bH aL (bH aL (bH aL (bH aL gR)))))
  (aD (PK (i:=2) (PX (i:=2) (cW 3 jA.nd (bJ l0 (hr.mono ()) rfl (ak (qw 7) (ak (qw 3) (ak (qw 2) aq))) (aB (aB (aB aQ)))))))))
  (aA (PK (i:=2) (PX (i:=2) (Gw (bJ l0 (hr.mono ()) rfl (ak (qI (qw 1)) (ak (qw 3) (ak (qw 2) aq))) (aB (aB (aB aQ)))))))
  (aA (cW 8 jA.nd (cP aq))
  (aA (eG eJ rfl (cI (qw 2)) (gW rfl (bw (cJ 3 jA.nd) (bw (cJ 9 jA.nd) fX))) (gY (bH aL (bH aL gR)))
  (aD (cW 8 jA.nd (aZ bz bA (qw 8) (bJ wm (hr.mono ()) rfl (ak (qw 1) (ak (qw 3) (ak (qw 9) aq))) (aB (aB (aB aQ))))))))
  (aA (cW 10 jA.nd (bJ wn (hr.mono ()) rfl (ak (qw 1) aq) (aB aQ)))
  (aD (bG (OA (WF (bY hr) bZ (il ["_law_rule"] [] [] rfl (jP (aG vh)) (cI (qw 10)) (λ_ _ _ _=>(cJ 0 (show (["_law_rule"]:List Str).Nodup from by decide +kernel))) aL (λ_ _ _ _=>(WR (bK (bY hr) bZ (qI (qw 0)) aR (bB _)))) (λ_ _ _ _=>(qw 0))) (Ff (jW (zK rfl) (by rfl) (Di B) (by kernel_rfl) (vP (fW (HH rfl hr.units) (by rfl) (RK B) (by kernel_rfl) (ak (qw 8) aq)) zc))) (bB _)) (Oy (WF (bY hr) bZ (qw 1) (bJ py (hr.mono ()) rfl (ak (qw 0) aq) (aB aQ)) (bB _))))))))))))))]
end
mutual
def uN:PV->Nat
 |.tup ps=>vL ps+1
 |_=>1
def vL:List PV->Nat
 |[]=>0
 |p::ps=>max (uN p) (vL ps)
end
def fl(p:PV):Prop:=cZ p=true/\uN p<=20
def fls(ps:List PV):Prop:=gU ps=true/\vL ps<=20
def iK{p:PV}{ps:List PV}(h:fl p)(t:fls ps):fls (p::ps):=by
 let(h1,h2):=h;let(t1,t2):=t;show#[?_,?_]
 . show (cZ p&&gU ps)=true;rw[h1,t1];rfl
 . show max (uN p) (vL ps)<=20;lia
def ug:fls []:=#[rfl,d3 _]
def iQ{x:Str}:fl (.str x):=#[rfl,by show 1<=20;decide]
def Mm:fl .non:=#[rfl,by show 1<=20;decide]
noncomputable abbrev zI (x:Int):Option Lc:=!(.sh (.int x))
abbrev zT(x:Str):Option Lc:=!(.sh (.str x))
abbrev zL(x:List PV):Option Lc:=!(.sh (.lst x))
abbrev zO(x:List PV):Option Lc:=!(.own (.lst x))
noncomputable abbrev zS (x:PV):Option Lc:=!(.sh x)
mutual
inductive ah where
 |leaf (w:Str) (ps:List PV)
 |call (b:PV) (n:Str) (as:List PV)
 |wh (e:PV) (b:Rows)
 |iff (e:PV) (b c:Rows)
inductive Rows where
 |nil
 |cons (r:ah) (rs:Rows)
end
mutual
noncomputable def ah.pv:ah->PV
 |.leaf w ps=>.tup (.str w::ps)
 |.call b n as=>.tup [.str "call",b,.str n,.lst as]
 |.wh e b=>.tup [.str "while",e,.lst b.pvs]
 |.iff e b c=>.tup [.str "if",e,.lst b.pvs,.lst c.pvs]
noncomputable def Rows.pvs:Rows->List PV
 |.nil=>[]
 |.cons r rs=>r.pv::rs.pvs
end
mutual
def ah.dep:ah->Nat
 |.leaf _ _=>1
 |.call _ _ _=>1
 |.wh _ b=>b.dep+1
 |.iff _ b c=>max b.dep c.dep+1
def Rows.dep:Rows->Nat
 |.nil=>1
 |.cons r rs=>max (r.dep+1) rs.dep
end
theorem Rows.dep_pos:∀b:Rows,1<=b.dep
 |.nil=>bv _
 |.cons r rs=>eI (Rows.dep_pos rs) (Nat.le_max_right _ _)
def gp(w:Str):Prop:=(w== "if")=false/\(w== "while")=false/\(w== "call")=false
def Fk(s:Str):Prop:=(s== "num")=false/\(s== "box")=false/\(s== "@")=false
inductive Rd:Nat->PV->List Str->Prop
 |num (n:Nat) (i:Int):Rd (n+1) (.tup [.str "num",.int i]) []
 |box (n:Nat) (x:Str):Rd (n+1) (.tup [.str "box",.str x]) [x]
 |at_ {n:Nat} {p:PV} {a:List Str} (x:Str) (h:Rd n p a):Rd (n+1) (.tup [.str "@",.str x,p]) (x::a)
 |op {n:Nat} {s:Str} {p q:PV} {a b:List Str} (hs:Fk s) (h:Rd n p a) (g:Rd n q b):Rd (n+1) (.tup [.str s,p,q]) (a++b)
def Rd.mono{n m:Nat}{p:PV}{a:List Str}(h:Rd n p a):n<=m->Rd m p a:=by
 induction h generalizing m with
 |num n i=>intro l;obtain⟨k,rfl⟩:∃k,m=k+1:=#[m-1,()];show .num k i
 |box n x=>intro l;obtain⟨k,rfl⟩:∃k,m=k+1:=#[m-1,()];show .box k x
 |at_ x _ ih=>intro l;obtain⟨k,rfl⟩:∃k,m=k+1:=#[m-1,()];show .at_ x (ih ())
 |op hs _ _ ih jh=>intro l;obtain⟨k,rfl⟩:∃k,m=k+1:=#[m-1,()];show .op hs (ih ()) (jh ())
def Rd.flat{n:Nat}{p:PV}{a:List Str}(h:Rd n p a):cZ p=G/\uN p<=n+1:=by
 induction h with
 |num n i=>show#[O,by show 1+1<=_;lia]
 |box n x=>show#[O,by show 1+1<=_;lia]
 |at_ x _ j=>show#[by simp[cZ,gU,j.1],by simp only[uN,vL];lia]
 |op hs _ _ j q=>show#[by simp[cZ,gU,j.1,q.1],by simp only[uN,vL];lia]
abbrev Sh(a:List Str):Prop:=∀x∈a,x.length<=100
def XG(p:PV):Prop:=∃n a,Rd n p a/\n<=15/\a.length<=9/\Sh a
theorem XG.fl{p:PV}(h:XG p):fl p:=by let(n,a,h,l,_):=h;show#[h.flat.1,by have:=h.flat.2;lia]
theorem Fv:∀{i:List PV},(∀a∈i,XG a)->fls i
 |[],_=>ug
 |a::i,h=>iK (h a bi).fl (Fv λb j=>h b (cv _ j))
inductive Lf:Str->List PV->Prop
 |set_ {x:Str} {e:PV} (h:x.length<=100) (g:XG e):Lf "set" [.str x,e]
 |put {x:Str} {e f:PV} (h:x.length<=100) (g:XG e) (g2:XG f):Lf "put" [.str x,e,f]
 |out {x:Str} {e:PV} (y:Str) (h:x.length<=100) (g:XG e):Lf "out" [.str x,e,.str y]
theorem Lf.fls{w:Str}{ps:List PV}(h:Lf w ps):fls ps:=by
 cases h with
 |set_ _ g=>show iK iQ (iK g.fl ug)
 |put _ g j=>show iK iQ (iK g.fl (iK j.fl ug))
 |out y _ g=>show iK iQ (iK g.fl (iK iQ ug))
class FN where
 fn:Str->Prop
section
variable [HK][FN]
mutual
def ah.ok:ah->Prop
 |.leaf w ps=>gp w/\Lf w ps
 |.call b n as=>(∃x:Str,b=ZH x/\x.length<=100)/\n.length<=1000/\(∀a∈as,XG a)/\as.length<=26/\FN.fn n
 |.wh e b=>XG e/\b.ok
 |.iff e b c=>XG e/\b.ok/\c.ok
def Rows.ok:Rows->Prop
 |.nil=>True
 |.cons r rs=>r.ok/\rs.ok
end
mutual
noncomputable def ah.cnt:ah->Nat
 |.leaf _ _=>1
 |.call _ _ _=>1
 |.wh _ b=>b.cnt+1
 |.iff _ b c=>b.cnt+c.cnt+1
noncomputable def Rows.cnt:Rows->Nat
 |.nil=>0
 |.cons r rs=>r.cnt+rs.cnt
end
def ah.cnt_pos:∀r:ah,1<=r.cnt:=λr=>by cases r<;>simp[ah.cnt]
def aY{f:EF}{a b:Str}{Y Y1:Ev}(h:f Y=!(Zp (ZH a),Y1)):tT (az c5 f (bg b)) bh Y=!(a==b,Y1):=nO (l:=Zp (.bl (a==b))) (bD h O O) O
def bF{c:TF}{f g:SF}{Y Y1:Ev}{b:Bool}(h:c Y=!(b,Y1))(i:b=M):aF (cQ c f cu) g Y=g Y1:=by subst i;show Gz ((nM h).trans O)
def d7{c:TF}{f g:SF}{Y Y1 Y2:Ev}{b:Bool}{r:Lc}(h:c Y=!(b,Y1))(i:b=G)(h2:f Y1=!(.rt r Y2)):aF (cQ c f cu) g Y=!(.rt r Y2):=by subst i;show GC ((nJ h).trans h2)
def rK{c:TF}{f g:SF}{Y Y1 Y2:Ev}{b:Bool}(h:c Y=!(b,Y1))(i:b=G)(h2:f Y1=!(.nx Y2)):aF (cQ c f cu) g Y=g Y2:=by subst i;show Gz ((nJ h).trans h2)
def kH{p:PV}{t:List PV}:fY (p::t) 0=!p:=by let(x,h,h2):=uz (l:=p::t) (i:=0) () (by simp only[be];lia);rw[h,<-h2];rfl
abbrev E1(p:PV)(mu:Mu):Ev:=#[[zS p],mu]
def w0{w:Str}{ps:List PV}{mu:Mu}:aJ (aj 0) (af 0) (E1 (ZB (ZH w::ps)) mu)=!(Zp (ZH w),E1 (ZB (ZH w::ps)) mu):=
 dW (p:=ZB (ZH w::ps)) (q:=ZI 0) (l:=Zp (ZB (ZH w::ps))) (m:=Zp (ZI 0)) O O O O (λn h=>by cases h) (by show (fY (PV.str w::ps) 0).map _=_;rw[kH];rfl)
def jb{b:BF}{te:EF}{x:PV}{xs:List PV}{Y Y1 Y2:Ev}{acc:List PV}{l:Lc}{ZN:Option (List PV×Mu)}(h1:b x Y=!Y1)(h2:te Y1=!(l,Y2))(j:acc.length<100000)(i:eE b bQ te xs Y2 (acc++[l.pv])=ZN):eE b bQ te (x::xs) Y acc=ZN:=by show (b x Y).bind _=ZN;rw[h1,bo];show (te Y1).bind _=ZN;rw[h2,bo,av j];show i
abbrev Fm(n:Nat):EF:=aP (j5 n) (aa (aj 0) ao)
def Mp{rs:Rows}{n:Nat}{mu:Mu}(h:eE (aC 0) bQ (Fm n) rs.pvs #[[J],mu] []=!([]++rs.pvs,mu)):fK (n+1) [R rs.pvs] mu=!(Zs (R rs.pvs),mu):=
 aN (Y:=#[[zL rs.pvs],mu]) (cL (gh (m:=1) (ixs:=[]) (Y1:=E1 (R rs.pvs) mu) (xs:=rs.pvs) (dM (l:=Zp (R rs.pvs)) O O) h))
mutual
theorem Ip:∀(r:ah)(f:Nat)(mu:Mu),r.ok->r.dep<=f->r.cnt<=1000->j5 f [r.pv] mu=!(Zp r.pv,mu)
 |.leaf w ps=>λf mu ok j q=>by obtain⟨m,rfl⟩:∃m,f=m+1:=#[f-1,by simp only[ah.dep]at j;lia];let((h1,h2,N),_):=ok;show aN (Y:=#[[J],mu]) ?_;show(bF (aY w0) h1).trans ((bF (aY w0) h2).trans ((bF (aY w0) N).trans O))
 |.call b n i=>λf mu ok j q=>by obtain⟨m,rfl⟩:∃m,f=m+1:=#[f-1,by simp only[ah.dep]at j;lia];show aN (Y:=E1 (ah.call b n i).pv mu) ?_;show(bF (aY w0) ()).trans ((bF (aY w0) ()).trans (d7 (aY w0) () (cL (cM (ls:=[Zp (ZH "call"),Zp b,Zp (ZH n),Zs (R i)]) ?_ O O))));show au (Y1:=E1 (ah.call b n i).pv mu) O (au (Y1:=E1 (ah.call b n i).pv mu) O (au (Y1:=E1 (ah.call b n i).pv mu) O (au (Y1:=E1 (ah.call b n i).pv mu) (mV (ls:=[Zp (R i)]) (Y1:=E1 (ah.call b n i).pv mu) (au (Y1:=E1 (ah.call b n i).pv mu) O O) O O) O)))
 |.wh e b=>λf mu ok j q=>by
  simp only[ah.dep]at j;simp only[ah.cnt]at q;obtain⟨m,rfl⟩:∃m,f=m+1:=#[f-1,()];have W:1<=b.dep:=Rows.dep_pos b;obtain⟨m,rfl⟩:∃k,m=k+1:=#[m-1,()];let D:=Mp (vz b m mu J [] ok.2 () (by simp only[b9];lia));let P:_:=(ah.wh e b).pv;have z:aP (fK (m+1)) j2 (E1 P mu)=!(Zs (R b.pvs),E1 P mu):=
   aU (ls:=[Zp (R b.pvs)]) (ps:=[R b.pvs]) (Y1:=E1 P mu) O O O O D
  show aN (Y:=E1 P mu) ?_;show(bF (aY w0) ()).trans (d7 (aY w0) () (cL (cM (ls:=[Zp (ZH "while"),Zp e,Zs (R b.pvs)]) (Y1:=E1 P mu) (au (Y1:=E1 P mu) O (au (Y1:=E1 P mu) O (au z O))) O O)))
 |.iff e b c=>λf mu ok j q=>by
  simp only[ah.dep]at j;simp only[ah.cnt]at q;obtain⟨m,rfl⟩:∃m,f=m+1:=#[f-1,()];have W:1<=b.dep:=Rows.dep_pos b;obtain⟨m,rfl⟩:∃k,m=k+1:=#[m-1,()];let D:=Mp (vz b m mu J [] ok.2.1 () (by simp only[b9];lia));let F:=Mp (vz c m mu J [] ok.2.2 () (by simp only[b9];lia));let P:_:=(ah.iff e b c).pv;have z:aP (fK (m+1)) j2 (E1 P mu)=!(Zs (R b.pvs),E1 P mu):=
   aU (ls:=[Zp (R b.pvs)]) (ps:=[R b.pvs]) (Y1:=E1 P mu) O O O O D
  have Q:aP (fK (m+1)) A8 (E1 P mu)=!(Zs (R c.pvs),E1 P mu):=
   aU (ls:=[Zp (R c.pvs)]) (ps:=[R c.pvs]) (Y1:=E1 P mu) O O O O F
  show aN (Y:=E1 P mu) ?_;show d7 (aY w0) () (cL (cM (ls:=[Zp (ZH "if"),Zp e,Zs (R b.pvs),Zs (R c.pvs)]) (au (Y1:=E1 P mu) O (au (Y1:=E1 P mu) O (au z (au Q O)))) O O))
theorem vz:∀(rs:Rows)(n:Nat)(mu:Mu)(o:Option Lc)(acc:List PV),rs.ok->rs.dep<=n+1->acc.length+rs.cnt<=1000->eE (aC 0) bQ (Fm n) rs.pvs #[[o],mu] acc=!(acc++rs.pvs,mu)
 |.nil=>λn mu o acc _ _ _=>by simp[Rows.pvs,eE]
 |.cons r rs=>λn mu o acc ok j q=>by simp only[Rows.dep]at j;simp only[Rows.cnt]at q;let h1:=r.cnt_pos;let z:=Ip r n mu ok.1 () ();let i:=vz rs n mu (zS r.pv) (acc++[r.pv]) ok.2 () (by rw[bS];simp only[be,b9];lia);show jb (Y1:=E1 r.pv mu) (Y2:=E1 r.pv mu) (l:=Zp r.pv) O (aU (ls:=[Zp r.pv]) (ps:=[r.pv]) (Y1:=E1 r.pv mu) O O O O z) () (i.trans ?_);simp only[Rows.pvs,cw];rfl
end
structure b_ where
 w:Str
 ab:PV
 bl:Int
 r:ah
def b_.pv(e:b_):PV:=ZB [ZH e.w,e.ab,ZI e.bl,e.r.pv]
mutual
noncomputable def ah.es:ah->Str->PV->Int->Nat->List b_
 |.leaf x ps,w,ab,bl,_=>[#[w,ab,bl,.leaf x ps]]
 |.call b n as,w,ab,bl,_=>[#[w,ab,bl,.call b n as]]
 |.wh e b,w,ab,bl,k=>#[w,ab,bl,.wh e b]::b.es w (ZI k) 0 (k+1)
 |.iff e b c,w,ab,bl,k=>#[w,ab,bl,.iff e b c]::(b.es w (ZI k) 0 (k+1)++c.es w (ZI k) 1 (k+1+b.cnt))
noncomputable def Rows.es:Rows->Str->PV->Int->Nat->List b_
 |.nil,_,_,_,_=>[]
 |.cons r rs,w,ab,bl,k=>r.es w ab bl k++rs.es w ab bl (k+r.cnt)
end
mutual
theorem ah.es_len:∀(r:ah)(w:Str)(ab:PV)(bl:Int)(k:Nat),(r.es w ab bl k).length=r.cnt
 |.leaf _ _,w,ab,bl,k=>rfl
 |.call _ _ _,w,ab,bl,k=>rfl
 |.wh e b,w,ab,bl,k=>by simp[ah.es,ah.cnt,Rows.es_len b]
 |.iff e b c,w,ab,bl,k=>by simp[ah.es,ah.cnt,Rows.es_len b,Rows.es_len c]
theorem Rows.es_len:∀(rs:Rows)(w:Str)(ab:PV)(bl:Int)(k:Nat),(rs.es w ab bl k).length=rs.cnt
 |.nil,w,ab,bl,k=>rfl
 |.cons r rs,w,ab,bl,k=>by simp[Rows.es,Rows.cnt,ah.es_len r,Rows.es_len rs]
end
abbrev dy(l:List b_):List PV:=l.map b_.pv
def G5(a b:List b_):dy (a++b)=dy a++dy b:=cy
def mJ(a:List b_):(dy a).length=a.length:=bq _
def wD{j q:EF}{Y Y1 Y2:Ev}{o y:Lc}{n:Nat}{ws0 ws:List PV}{p:PV}{mu:Mu}(h1:j Y=!(o,Y1))(F:o.pv=ZA n)(N:Y1.mu[n]?=!(!(R ws0)))(h2:q Y1=!(y,Y2))(z:y.pv=p)(i:Y2.mu[n]?=!(!(R ws)))(D:ws.length<100000)(e:Y2.mu.set n (!(R (ws++[p])))=mu):nQ j q Y=!(.nx #[Y2.vs,mu]):=by unfold nQ;rw[h1,bo,F];dsimp only;rw[N];dsimp only;rw[h2,bo,i];dsimp only;rw[av D,z,e]
def gJ{b:BF}{body:SF}{x:PV}{xs:List PV}{Y Y1 Y2:Ev}{ZN:Option Fl}(h1:b x Y=!Y1)(h2:body Y1=!(.nx Y2))(i:fG b body xs Y2=ZN):fG b body (x::xs) Y=ZN:=by show (b x Y).bind _=_;rw[h1,bo,h2,bo];show i
def RM{b:BF}{body:SF}{x:PV}{Y Y1 Y2:Ev}(h1:b x Y=!Y1)(h2:body Y1=!(.nx Y2)):fG b body [x] Y=!(.nx Y2):=gJ h1 h2 O
def RN{b:BF}{body:SF}{x y:PV}{Y Y1 Y2 Y3 Y4:Ev}(h1:b x Y=!Y1)(h2:body Y1=!(.nx Y2))(i:b y Y2=!Y3)(j:body Y3=!(.nx Y4)):fG b body [x,y] Y=!(.nx Y4):=gJ h1 h2 (RM i j)
def rM{w:Str}{ps:List PV}{mu:Mu}(h1:(w== "if")=M)(h2:(w== "while")=M):gC [ZB (ZH w::ps)] mu=!(Zs (R []),mu):=
 aN (Y:=E1 (ZB (ZH w::ps)) mu) ((bF (aY w0) h1).trans ((bF (aY w0) h2).trans O))
def Ir{e p:PV}{mu:Mu}:gC [ZB [ZH "while",e,p]] mu=!(Zs (R [p]),mu):=
 aN (Y:=E1 (ZB [ZH "while",e,p]) mu) ((bF (aY w0) ()).trans (d7 (aY w0) () O))
def Iu{e p q:PV}{mu:Mu}:gC [ZB [ZH "if",e,p,q]] mu=!(Zs (R [p,q]),mu):=
 aN (Y:=E1 (ZB [ZH "if",e,p,q]) mu) (d7 (aY w0) () O)
abbrev LE(w:Str)(ab:PV)(bl:Int)(X:PV)(st:Nat)(acc:List PV)(o6 o7 o8 o9:Option Lc)(mu:Mu):Ev:=#[[zT w,zS ab,zI bl,zS X,zI st,zO acc,o6,o7,o8,o9],mu]
abbrev wo(n:Nat):SF:=fQ 5 (aP (gG n) BC)
abbrev YF(n:Nat):SF:=aF BA
 (aF BB
 (fH (uA (aP gC (aa (aj 6) ao))) t9 (wo n)))
def Mq{n:Nat}{w:Str}{ab X:PV}{bl pl:Int}{st k:Nat}{acc qs:List PV}{o6:Option Lc}{p:PV}{mu:Mu}(h:gG n [ZH w,ZI k,ZI pl,p,ZI ((st+acc.length:Nat):Int)] mu=!(Zs (R qs),mu))(j:acc.length+qs.length<=100000):
 wo n (LE w ab bl X st acc o6 (zI k) (zI pl) (zS p) mu)=!(.nx (LE w ab bl X st (acc++qs) o6 (zI k) (zI pl) (zS p) mu)):=
 jN (i:=5) (ws0:=acc) (ws:=acc) (ps:=qs) (l:=Zs (R qs)) (Y1:=LE w ab bl X st acc o6 (zI k) (zI pl) (zS p) mu) O
  (aU (ls:=[Zp (ZH w),Zp (ZI k),Zp (ZI pl),Zp p,Zp (ZI ((st:Int)+acc.length))]) (ps:=[ZH w,ZI k,ZI pl,p,ZI ((st+acc.length:Nat):Int)]) (Y1:=LE w ab bl X st acc o6 (zI k) (zI pl) (zS p) mu) O (by simp[Lc.pv]) O O h) O O j O
abbrev en(w:Str)(ab:PV)(bl:Int)(r:ah):PV:=ZB [ZH w,ab,ZI bl,r.pv]
def Fw{n:Nat}{w:Str}{ab X:PV}{bl:Int}{st:Nat}{acc:List PV}{o7 o8 j:Option Lc}{mu:Mu}{r:ah}{ZN:Option Fl}{bs:List PV}(ok:r.ok)(q:r.dep<=40)(F:r.cnt<=1000)(N:acc.length<1000)(D:∀mu,gC [r.pv] mu=!(Zs (R bs),mu))
 (h:fG t9 (wo n) (tO bs) (LE w ab bl X st (acc++[en w ab bl r]) (zS r.pv) (zI ((st+acc.length:Nat):Int)) o8 j mu)=ZN):
 YF n (LE w ab bl X st acc (zS r.pv) o7 o8 j mu)=ZN:=by
 let z:=Ip r 40 mu ok q F;let E:_:=LE w ab bl X st acc (zS r.pv) (zI ((st+acc.length:Nat):Int)) o8 j mu;show aH (Y':=E) (bu (l:=Zp (ZI ((st:Int)+acc.length))) (Y1:=LE w ab bl X st acc (zS r.pv) o7 o8 j mu) O O (by show _=LE w ab bl X st acc (zS r.pv) (zI ((st+acc.length:Nat):Int)) o8 j mu;rw[Int.natCast_add];rfl)) ?_;show aH (Y':=LE w ab bl X st (acc++[en w ab bl r]) (zS r.pv) (zI ((st+acc.length:Nat):Int)) o8 j mu) ?_ ?_
 . show rQ (i:=5) (ws0:=acc) (ws:=acc) (p:=en w ab bl r) (l:=Zp (en w ab bl r)) (Y1:=E) O
    (cM (ls:=[Zp (ZH w),Zp ab,Zp (ZI bl),Zp r.pv]) (au (Y1:=E) O (au (Y1:=E) O (au (Y1:=E) O (au (aU (ls:=[Zp r.pv]) (ps:=[r.pv]) (Y1:=E) O O O O z) O)))) O O) O O () O
 . show dZ (xs:=tO bs) (Y1:=LE w ab bl X st (acc++[en w ab bl r]) (zS r.pv) (zI ((st+acc.length:Nat):Int)) o8 j mu) ?_ h;unfold uA;rw[aU (ls:=[Zp r.pv]) (ps:=[r.pv]) (Y1:=LE w ab bl X st (acc++[en w ab bl r]) (zS r.pv) (zI ((st+acc.length:Nat):Int)) o8 j mu) O O O O (D _),bo];rfl
def JW{rs:Rows}{n:Nat}{w:Str}{ab:PV}{bl:Int}{st:Nat}{mu:Mu}
 (h:∃o6 o7 o8 i,fG (aC 6) (YF n) rs.pvs (LE w ab bl (R rs.pvs) st [] J J J J mu)=!(.nx (LE w ab bl (R rs.pvs) st ([]++dy (rs.es w ab bl (st+0))) o6 o7 o8 i mu))):
 gG (n+1) [ZH w,ab,ZI bl,R rs.pvs,ZI st] mu=!(Zs (R (dy (rs.es w ab bl st))),mu):=by
 let(o6,o7,o8,i,h):=h;show aN (Y:=#[[zT w,zS ab,zI bl,zL rs.pvs,zI st,J,o6,o7,o8,i],mu]) ?_;show aH (Y':=LE w ab bl (R rs.pvs) st [] J J J J mu) O (aH (dZ (xs:=rs.pvs) (Y1:=LE w ab bl (R rs.pvs) st [] J J J J mu) (dM (l:=Zp (R rs.pvs)) O O) h) O)
mutual
theorem UQ:∀(r:ah)(n:Nat)(w:Str)(ab:PV)(bl:Int)(X:PV)(st:Nat)(acc:List PV)(o7 o8 F:Option Lc)(mu:Mu),r.ok->r.dep<=n->r.dep<=40->acc.length+r.cnt<=1000->
 ∃p7 p8 p9,YF n (LE w ab bl X st acc (zS r.pv) o7 o8 F mu)=!(.nx (LE w ab bl X st (acc++dy (r.es w ab bl (st+acc.length))) (zS r.pv) p7 p8 p9 mu))
 |.leaf x ps=>λn w ab bl X st acc o7 o8 F mu ok Q q N=>by simp only[ah.cnt]at N;show#[zI ((st+acc.length:Nat):Int),o8,F,Fw (r:=.leaf x ps) ok q (by simp only[ah.cnt];lia) () (λmu=>rM ok.1.1 ok.1.2.1) O]
 |.call b m as=>λn w ab bl X st acc o7 o8 F mu ok Q q N=>by simp only[ah.cnt]at N;show#[zI ((st+acc.length:Nat):Int),o8,F,Fw (r:=.call b m as) ok q (by simp only[ah.cnt];lia) () (λmu=>rM () ()) O]
 |.wh e b=>λn w ab bl X st acc o7 o8 F mu ok Q q N=>by
  simp only[ah.cnt]at N;simp only[ah.dep]at Q q;let hb:=Rows.dep_pos b;obtain⟨m,rfl⟩:∃m,n=m+1:=#[n-1,()];let r:ah:=.wh e b;let k:_:=st+acc.length;let i:_:=acc++[en w ab bl r];have z:i.length=acc.length+1:=by simp[i]
  let ih:=JW (n:=m) (w:=w) (ab:=ZI (k:Nat)) (bl:=0) (st:=st+i.length) (mu:=mu) (rs:=b) (wF b m w (ZI (k:Nat)) 0 (R b.pvs) (st+i.length) [] J J J J mu ok.2 () () (by simp only[b9];lia));have he:(dy (b.es w (ZI (k:Nat)) 0 (st+i.length))).length=b.cnt:=by rw[mJ,Rows.es_len]
  let D:=Mq (n:=m+1) (w:=w) (ab:=ab) (X:=X) (bl:=bl) (pl:=0) (st:=st) (k:=k) (acc:=i) (o6:=zS r.pv) (p:=R b.pvs) ih (by rw[he,z];lia);show#[zI (k:Nat),zI 0,zL b.pvs,Fw (r:=.wh e b) ok (by simp only[ah.dep];lia) (by simp only[ah.cnt];lia) () (λmu=>Ir) ((RM (Y1:=LE w ab bl X st i (zS r.pv) (zI (k:Nat)) (zI 0) (zL b.pvs) mu) O D).trans ?_)];have ek:st+i.length=k+1:=by rw[z];lia
  rw[ek];simp only[ah.es,i,cw,ja,fm,dy,dE];rfl
 |.iff e b c=>λn w ab bl X st acc o7 o8 F mu ok Q q N=>by
  simp only[ah.cnt]at N;simp only[ah.dep]at Q q;let hb:=Rows.dep_pos b;obtain⟨m,rfl⟩:∃m,n=m+1:=#[n-1,()];let r:ah:=.iff e b c;let k:_:=st+acc.length;let i:_:=acc++[en w ab bl r];have z:i.length=acc.length+1:=by simp[i]
  let ih:=JW (n:=m) (w:=w) (ab:=ZI (k:Nat)) (bl:=0) (st:=st+i.length) (mu:=mu) (rs:=b) (wF b m w (ZI (k:Nat)) 0 (R b.pvs) (st+i.length) [] J J J J mu ok.2.1 () () (by simp only[b9];lia));have he:(dy (b.es w (ZI (k:Nat)) 0 (st+i.length))).length=b.cnt:=by rw[mJ,Rows.es_len]
  let D:=Mq (n:=m+1) (w:=w) (ab:=ab) (X:=X) (bl:=bl) (pl:=0) (st:=st) (k:=k) (acc:=i) (o6:=zS r.pv) (p:=R b.pvs) ih (by rw[he,z];lia);let j:_:=i++dy (b.es w (ZI (k:Nat)) 0 (st+i.length));have W:j.length=acc.length+1+b.cnt:=by show (i++_).length=_;rw[bS,he,z]
  let wq:=JW (n:=m) (w:=w) (ab:=ZI (k:Nat)) (bl:=1) (st:=st+j.length) (mu:=mu) (rs:=c) (wF c m w (ZI (k:Nat)) 1 (R c.pvs) (st+j.length) [] J J J J mu ok.2.2 () () (by simp only[b9];lia));have UR:(dy (c.es w (ZI (k:Nat)) 1 (st+j.length))).length=c.cnt:=by rw[mJ,Rows.es_len]
  let ip:=Mq (n:=m+1) (w:=w) (ab:=ab) (X:=X) (bl:=bl) (pl:=1) (st:=st) (k:=k) (acc:=j) (o6:=zS r.pv) (p:=R c.pvs) wq (by rw[UR,W];lia);show#[zI (k:Nat),zI 1,zL c.pvs,Fw (r:=.iff e b c) ok (by simp only[ah.dep];lia) (by simp only[ah.cnt];lia) () (λmu=>Iu) ((RN (Y1:=LE w ab bl X st i (zS r.pv) (zI (k:Nat)) (zI 0) (zL b.pvs) mu) (Y3:=LE w ab bl X st j (zS r.pv) (zI (k:Nat)) (zI 1) (zL c.pvs) mu) O D O ip).trans ?_)];have ek:st+i.length=k+1:=by rw[z];lia
  have US:st+j.length=k+1+b.cnt:=by rw[W];lia
  rw[US];simp only[j,ek];simp only[ah.es,dy,dE,cy,i,cw,ja,fm];rfl
theorem wF:∀(rs:Rows)(n:Nat)(w:Str)(ab:PV)(bl:Int)(X:PV)(st:Nat)(acc:List PV)(o6 o7 o8 i:Option Lc)(mu:Mu),rs.ok->rs.dep<=n+1->rs.dep<=41->acc.length+rs.cnt<=1000->
 ∃z F q D,fG (aC 6) (YF n) rs.pvs (LE w ab bl X st acc o6 o7 o8 i mu)=!(.nx (LE w ab bl X st (acc++dy (rs.es w ab bl (st+acc.length))) z F q D mu))
 |.nil=>λn w ab bl X st acc o6 o7 o8 i mu ok N j W=>#[o6,o7,o8,i,by simp[Rows.pvs,fG,Rows.es,dy]]
 |.cons r rs=>λn w ab bl X st acc o6 o7 o8 i mu ok N j W=>by
  simp only[Rows.dep]at N j;simp only[Rows.cnt]at W;let(q7,q8,q9,e1):=UQ r n w ab bl X st acc o7 o8 i mu ok.1 () () ();have Q:(acc++dy (r.es w ab bl (st+acc.length))).length=acc.length+r.cnt:=by rw[bS,mJ,ah.es_len]
  let(z,F,q,D,e2):=wF rs n w ab bl X st (acc++dy (r.es w ab bl (st+acc.length))) (zS r.pv) q7 q8 q9 mu ok.2 () () (by rw[Q];lia);show#[z,F,q,D,gJ (Y1:=LE w ab bl X st acc (zS r.pv) o7 o8 i mu) O e1 (e2.trans ?_)];rw[Q,<-Nat.add_assoc];simp only[Rows.es,G5,cw]
end
def Cr{rs:Rows}{w:Str}{ab:PV}{bl:Int}{st:Nat}{mu:Mu}(ok:rs.ok)(i:rs.dep<=40)(j:rs.cnt<=1000):
 gG 40 [ZH w,ab,ZI bl,R rs.pvs,ZI st] mu=!(Zs (R (dy (rs.es w ab bl st))),mu):=
 JW (n:=39) (wF rs 39 w ab bl _ st [] J J J J mu ok () () (by simp only[b9];lia))
structure Fn where
 name:Str
 rank:PV
 params:List PV
 rows:Rows
def Fn.pv(f:Fn):PV:=ZB [ZH f.name,f.rank,R f.params,R f.rows.pvs]
structure Pg where
 boxes:List PV
 grants:List PV
 fns:List Fn
 rows:Rows
def Pg.pv(P:Pg):PV:=ZB [R P.boxes,R P.grants,R (P.fns.map Fn.pv),R P.rows.pvs]
def dY:List Fn->Nat
 |[]=>0
 |f::fs=>f.rows.cnt+dY fs
def qi:List Fn->Nat->List b_
 |[],_=>[]
 |f::fs,k=>f.rows.es f.name .non 0 k++qi fs (k+f.rows.cnt)
theorem Bq:∀(fs:List Fn)(k:Nat),(qi fs k).length=dY fs
 |[],k=>rfl
 |f::fs,k=>by simp[qi,dY,Rows.es_len,Bq fs]
def Pg.es(P:Pg):List b_:=qi P.fns 0++P.rows.es "main" .non 0 (dY P.fns)
structure Pg.ok(P:Pg):Prop where
 fn:∀f∈P.fns,f.rows.ok/\f.rows.dep<=30
 rw:P.rows.ok
 dp:P.rows.dep<=30
 ct:dY P.fns+P.rows.cnt<=44
 pm:∀f∈P.fns,∃xs:List Str,f.params=xs.map (λx=>.tup [.str x,.non])/\xs.length<=4/\Sh xs
 fl:P.fns.length<=4
 nd:(P.fns.map Fn.name).Nodup
 nl:∀f∈P.fns,f.name.length<=100
abbrev NE(p:PV)(acc:List PV)(o2 o3 o4 o5:Option Lc)(mu:Mu):Ev:=#[[zS p,zO acc,o2,o3,o4,o5],mu]
theorem Qd{p:PV}:∀(fs:List Fn)(acc:List PV)(o2 o3 o4 o5:Option Lc)(mu:Mu),(∀f∈fs,f.rows.ok/\f.rows.dep<=30)->acc.length+dY fs<=1000->
 ∃p2 q D z,fG BG t_ (fs.map Fn.pv) (NE p acc o2 o3 o4 o5 mu)=!(.nx (NE p (acc++dy (qi fs acc.length)) p2 q D z mu))
 |[]=>λacc o2 o3 o4 o5 mu _ _=>#[o2,o3,o4,o5,by simp[fG,qi,dy]]
 |f::fs=>λacc o2 o3 o4 o5 mu h N=>by
  simp only[dY]at N;let(ok,W):=h f bi;let e:=Cr (w:=f.name) (ab:=.non) (bl:=0) (st:=acc.length) (mu:=mu) ok () ();have j:(acc++dy (f.rows.es f.name .non 0 acc.length)).length=acc.length+f.rows.cnt:=by rw[bS,mJ,Rows.es_len]
  let E:_:=NE p acc (zT f.name) (zS f.rank) (zL f.params) (zL f.rows.pvs) mu;let(p2,q,D,z,Q):=Qd (p:=p) fs (acc++dy (f.rows.es f.name .non 0 acc.length)) (zT f.name) (zS f.rank) (zL f.params) (zL f.rows.pvs) mu (λx F=>h x (cv _ F)) (by rw[j];lia);have st:t_ E=!(.nx (NE p (acc++dy (f.rows.es f.name .non 0 acc.length)) (zT f.name) (zS f.rank) (zL f.params) (zL f.rows.pvs) mu)):=
   jN (i:=1) (ws0:=acc) (ws:=acc) (ps:=dy (f.rows.es f.name .non 0 acc.length)) (l:=Zs (R (dy (f.rows.es f.name .non 0 acc.length)))) (Y1:=E) O
    (aU (ls:=[Zp (ZH f.name),Zp .non,Zp (ZI 0),Zp (R f.rows.pvs),Zp (ZI acc.length)]) (ps:=[ZH f.name,.non,ZI 0,R f.rows.pvs,ZI acc.length]) (Y1:=E) O O O O e) O O (by rw[mJ,Rows.es_len];lia) O
  show#[p2,q,D,z,(gJ (Y1:=E) O st (Q.trans ?_))];rw[j];simp only[qi,G5,cw]
def Ob{P:Pg}{mu:Mu}(ok:P.ok):yp [P.pv] mu=!(Zs (R (dy P.es)),mu):=by
 let W:=ok.ct;let(p2,q,D,z,Q):=Qd (p:=P.pv) P.fns [] J J J J mu ok.fn (by simp only[b9];lia);simp only[fm,b9]at Q;let j:_:=dy (qi P.fns 0);have F:j.length=dY P.fns:=by simp only[j,mJ,Bq]
 let N:=Cr (w:="main") (ab:=.non) (bl:=0) (st:=j.length) (mu:=mu) ok.rw (by have:=ok.dp;lia) ();rw[F]at N;let b:_:=dy (P.rows.es "main" .non 0 (dY P.fns));show(aN (Y:=#[[zS P.pv,J,p2,q,D,z],mu]) (r:=Zs (R (j++b))) ?_).trans ?_
 . show aH (Y':=NE P.pv [] J J J J mu) O (aH (Y':=NE P.pv j p2 q D z mu) (dZ (xs:=P.fns.map Fn.pv) (Y1:=NE P.pv [] J J J J mu) (dM (l:=Zp (R (P.fns.map Fn.pv))) O O) Q) (aH (Y':=NE P.pv (j++b) p2 q D z mu) ?_ O));show jN (i:=1) (ws0:=j) (ws:=j) (ps:=b) (l:=Zs (R b)) (Y1:=NE P.pv j p2 q D z mu) O
    (aU (ls:=[Zp (ZH "main"),Zp .non,Zp (ZI 0),Zp (R P.rows.pvs),Zp (ZI j.length)]) (ps:=[ZH "main",.non,ZI 0,R P.rows.pvs,ZI j.length]) (Y1:=NE P.pv j p2 q D z mu) O O O O (by rw[F];show N)) O O (by simp only[b];rw[F,mJ,Rows.es_len];lia) O
 . simp only[j,b,Pg.es,G5]
def b_.key(e:b_):List aW:=[!(.inr e.w),(okP e.ab).getD J,!(.inl e.bl)]
def pos(K:List aW):Nat->List b_->List Nat
 |_,[]=>[]
 |i,e::es=>if e.key=K then i::pos K (i+1) es else pos K (i+1) es
theorem oY(K:List aW):∀(i:Nat)(a b:List b_),pos K i (a++b)=pos K i a++pos K (i+a.length) b
 |i,[],b=>rfl
 |i,e::a,b=>by show (if e.key=K then i::pos K (i+1) (a++b) else pos K (i+1) (a++b))=(if e.key=K then i::pos K (i+1) a else pos K (i+1) a)++_;rw[oY K (i+1) a b,show i+(e::a).length=i+1+a.length by simp only[be];omega];split<;>rfl
theorem Br{K:List aW}:∀{i:Nat}{a:List b_},(∀e∈a,e.key≠K)->pos K i a=[]
 |i,[],_=>rfl
 |i,e::a,h=>by show (if e.key=K then i::pos K (i+1) a else pos K (i+1) a)=[];rw[aE (h e bi)];show Br λx j=>h x (cv _ j)
def Rows.nums:Rows->Nat->List Nat
 |.nil,_=>[]
 |.cons r rs,k=>k::rs.nums (k+r.cnt)
abbrev eW(w:Str)(m:Nat)(b:Int):List aW:=[!(.inr w),!(.inl (m:Int)),!(.inl b)]
def key_ne{e:b_}{w:Str}{m:Nat}{b:Int}(h:e.ab≠ZI m)(z:e.ab=.non\/∃j:Nat,e.ab=ZI j):e.key≠eW w m b:=by
 intro q;unfold b_.key at q;injection q with _ q;injection q with q _;obtain i|⟨j,i⟩:=z
 . rw[i]at q;cases q
 . rw[i]at q h;have q:some (Sum.inl (j:Int))=!(Sum.inl (m:Int)):=q;injection q with q;injection q with q;show h (by rw[q])
def yu{e:b_}{w:Str}{m:Nat}{b:Int}(h:e.bl≠b):e.key≠eW w m b:=by intro q;unfold b_.key at q;injection q with _ q;injection q with _ q;injection q with q _;injection q with q;injection q with q;show h q
def tu(ab:PV)(s t:Nat)(e:b_):Prop:=e.ab=ab\/∃m:Nat,e.ab=ZI m/\s<=m/\m<t
def tu.mono{ab:PV}{s t s' t':Nat}{e:b_}(h:tu ab s t e)(h1:s'<=s)(h2:t<=t'):tu ab s' t' e:=by
 obtain h|⟨m,h,j,i⟩:=h
 . show Zl h
 . show YY #[m,h,(),()]
def tu.up{k s t:Nat}{ab:PV}{e:b_}(h:tu (ZI (k:Nat)) s t e)(h1:k<s)(h2:k<t):tu ab k t e:=by
 obtain h|⟨m,h,j,i⟩:=h
 . show YY #[k,h,bv _,h2]
 . show YY #[m,h,(),i]
mutual
theorem ah.abs:∀(r:ah)(w:Str)(ab:PV)(bl:Int)(k:Nat),∀e∈r.es w ab bl k,tu ab k (k+r.cnt) e
 |.leaf _ _=>λw ab bl k e i=>by rw[eL.mp i];show Zl O
 |.call _ _ _=>λw ab bl k e i=>by rw[eL.mp i];show Zl O
 |.wh x b=>λw ab bl k e i=>by
  obtain rfl|i:=aT.mp i
  . show Zl O
  . let h:=Rows.abs b w (ZI (k:Nat)) 0 (k+1) e i;simp only[ah.cnt];show(h.up () ()).mono (bv _) ()
 |.iff x b c=>λw ab bl k e i=>by
  simp only[ah.cnt];obtain rfl|i:=aT.mp i
  . show Zl O
  . obtain i|i:=cx.mp i
    . let h:=Rows.abs b w (ZI (k:Nat)) 0 (k+1) e i;show(h.up () ()).mono (bv _) ()
    . let h:=Rows.abs c w (ZI (k:Nat)) 1 (k+1+b.cnt) e i;show(h.up () ()).mono (bv _) ()
theorem Rows.abs:∀(rs:Rows)(w:Str)(ab:PV)(bl:Int)(k:Nat),∀e∈rs.es w ab bl k,tu ab k (k+rs.cnt) e
 |.nil=>λw ab bl k e i=>by cases i
 |.cons r rs=>λw ab bl k e i=>by
  simp only[Rows.cnt];obtain i|i:=cx.mp i
  . show(ah.abs r w ab bl k e i).mono (bv _) ()
  . show(Rows.abs rs w ab bl (k+r.cnt) e i).mono () ()
end
def uO(ab:PV)(k:Nat):Prop:=ab=.non\/∃j:Nat,ab=ZI j/\j<k
def tu.num{ab:PV}{s t k:Nat}{e:b_}(h:tu ab s t e)(a:uO ab k):e.ab=.non\/∃j:Nat,e.ab=ZI j:=by
 obtain h|⟨m,h,_⟩:=h
 . obtain a|⟨j,a,_⟩:=a
   . show Zl (h.trans a)
   . show YY #[j,h.trans a]
 . show YY #[m,h]
def wH{a b:Nat}(h:a≠b):(PV.int (a:Nat))≠ZI (b:Nat):=λq=>by injection q with q;show h ()
def tu.ne{ab:PV}{s t m:Nat}{e:b_}(h:tu ab s t e)(h1:ab≠ZI m)(h2:m<s\/t<=m):e.ab≠ZI m:=by
 obtain h|⟨j,h,q,i⟩:=h
 . rw[h];show h1
 . rw[h];show wH ()
def uO.ne{ab:PV}{k m:Nat}(a:uO ab k)(h:k<=m):ab≠ZI m:=by
 obtain a|⟨j,a,i⟩:=a
 . rw[a];intro q;cases q
 . rw[a];show wH ()
def ah.pos_top(r:ah)(w:Str)(m:Nat)(b:Int)(k:Nat)(h:m<k):pos (eW w m b) k (r.es w (ZI m) b k)=[k]:=by
 have own:∀(e:b_),e.w=w->e.ab=ZI m->e.bl=b->e.key=eW w m b:=λe h1 h2 j=>by unfold b_.key;rw[h1,h2,j];rfl
 have sub:∀(rs:Rows)(c:Int)(s:Nat),k<s->pos (eW w m b) s (rs.es w (ZI (k:Nat)) c s)=[]:=λrs c s hs=>Br λe q=>by let g:=Rows.abs rs w (ZI (k:Nat)) c s e q;show key_ne (g.ne (wH ()) (Zl ())) (g.num (k:=s) (YY #[k,O,hs]))
 cases r with
 |leaf x ps=>show (if _ then _ else _)=_;rw[av (own _ O O O)];rfl
 |call x n z=>show (if _ then _ else _)=_;rw[av (own _ O O O)];rfl
 |wh x c=>
  show (if _ then _ else _)=_;rw[av (own _ O O O),sub c 0 (k+1) ()]
 |iff x c d=>
  show (if _ then _ else _)=_;rw[av (own _ O O O),oY,Rows.es_len,sub c 0 (k+1) (),sub d 1 (k+1+c.cnt) ()];rfl
theorem Rows.pos_top:∀(rs:Rows)(w:Str)(m:Nat)(b:Int)(k:Nat),m<k->pos (eW w m b) k (rs.es w (ZI m) b k)=rs.nums k
 |.nil=>λw m b k h=>rfl
 |.cons r rs=>λw m b k h=>by show pos _ k (r.es w (ZI m) b k++rs.es w (ZI m) b (k+r.cnt))=_;rw[oY,ah.pos_top r w m b k h,ah.es_len,Rows.pos_top rs w m b (k+r.cnt) ()];rfl
def ah.bnums:ah->Nat->Int->List Nat
 |.wh _ b,k,i=>if i=0 then b.nums (k+1) else []
 |.iff _ b c,k,i=>if i=0 then b.nums (k+1) else if i=1 then c.nums (k+1+b.cnt) else []
 |_,_,_=>[]
def ah.pos_in(r:ah)(w:Str)(ab:PV)(bl:Int)(k:Nat)(i:Int)(a:uO ab k):pos (eW w k i) k (r.es w ab bl k)=r.bnums k i:=by
 have own:∀(e:b_),e.ab=ab->e.key≠eW w k i:=λe h=>key_ne (by rw[h];show a.ne (bv _)) (by
  obtain a|⟨j,a,_⟩:=a
  . show Zl (h.trans a)
  . show YY #[j,h.trans a])
 have sub:∀(rs:Rows)(c:Int)(s:Nat),k<s->c≠i->pos (eW w k i) s (rs.es w (ZI (k:Nat)) c s)=[]:=λrs c s hs F=>by
  have go:∀(rs:Rows)(s:Nat),k<s->pos (eW w k i) s (rs.es w (ZI (k:Nat)) c s)=[]:=by
   intro rs;induction rs using Rows.rec (motive_1:=λ_=>True) with
   |nil=>intro s _;rfl
   |cons r rs _ N=>
    intro s hs;show pos _ s (r.es w (ZI (k:Nat)) c s++rs.es w (ZI (k:Nat)) c (s+r.cnt))=_;rw[oY,ah.es_len,N (s+r.cnt) (),d0];have z:∀(bs:Rows)(d:Int)(t:Nat),s<t->pos (eW w k i) t (bs.es w (ZI (s:Nat)) d t)=[]:=λbs d t Q=>Br λe W=>by let g:=Rows.abs bs w (ZI (s:Nat)) d t e W;show key_ne (g.ne (wH ()) (Zl ())) (g.num (k:=t) (YY #[s,O,Q]))
    cases r with
    |leaf x ps=>show (if _ then _ else _)=_;rw[aE (yu F)];rfl
    |call x n as=>show (if _ then _ else _)=_;rw[aE (yu F)];rfl
    |wh x bs=>show (if _ then _ else _)=_;rw[aE (yu F)];show z bs 0 (s+1) ()
    |iff x bs cs=>show (if _ then _ else _)=_;rw[aE (yu F),oY,Rows.es_len,z bs 0 (s+1) (),z cs 1 (s+1+bs.cnt) ()];rfl
   |_=>trivial
  show go rs s hs
 cases r with
 |leaf x ps=>show (if _ then _ else _)=_;rw[aE (own _ O)];rfl
 |call x n as=>show (if _ then _ else _)=_;rw[aE (own _ O)];rfl
 |wh x c=>
  show (if _ then _ else _)=_;rw[aE (own _ O)];show _=if i=0 then c.nums (k+1) else []
  by_cases hi:i=0
  . subst hi;rw[av O];show Rows.pos_top c w k 0 (k+1) ()
  . rw[aE hi];show sub c 0 (k+1) () (λq=>hi q.symm)
 |iff x c d=>
  show (if _ then _ else _)=_;rw[aE (own _ O),oY,Rows.es_len];show _=if i=0 then c.nums (k+1) else if i=1 then d.nums (k+1+c.cnt) else []
  by_cases hi:i=0
  . subst hi;rw[av O,Rows.pos_top c w k 0 (k+1) (),sub d 1 (k+1+c.cnt) () (),d0]
  . rw[aE hi,sub c 0 (k+1) () (λq=>hi q.symm),fm];by_cases h1:i=1
    . subst h1;rw[av O];show Rows.pos_top d w k 1 (k+1+c.cnt) ()
    . rw[aE h1];show sub d 1 (k+1+c.cnt) () (λq=>h1 q.symm)
structure pU(es:List b_)(w:Str)(ab:PV)(bl:Int)(k:Nat)(rs:Rows):Prop where
 ex:∃pre post,es=pre++(rs.es w ab bl k++post)/\pre.length=k/\∀e∈pre++post,(e.ab=.non\/∃j:Nat,e.ab=.int j)/\∀m:Nat,k<=m->m<k+rs.cnt->e.ab≠.int m
 ab:uO ab k
structure pW(es:List b_)(w:Str)(ab:PV)(bl:Int)(k:Nat)(r:ah):Prop where
 ex:∃pre post,es=pre++(r.es w ab bl k++post)/\pre.length=k/\∀e∈pre++post,(e.ab=.non\/∃j:Nat,e.ab=.int j)/\∀m:Nat,k<=m->m<k+r.cnt->e.ab≠.int m
 ab:uO ab k
def uO.mono{ab:PV}{k k':Nat}(a:uO ab k)(h:k<=k'):uO ab k':=by
 obtain a|⟨j,a,i⟩:=a
 . show Zl a
 . show YY #[j,a,()]
theorem pU.cons{es:List b_}{w:Str}{ab:PV}{bl:Int}{k:Nat}{r:ah}{rs:Rows}(h:pU es w ab bl k (.cons r rs)):pW es w ab bl k r/\pU es w ab bl (k+r.cnt) rs:=by
 let((Q,i,e,W,N),F):=h;simp only[Rows.cnt]at N;show#[#[#[Q,rs.es w ab bl (k+r.cnt)++i,by rw[e];simp only[Rows.es,cw],W,λx j=>?_],F],#[#[Q++r.es w ab bl k,i,by rw[e];simp only[Rows.es,cw],by rw[bS,ah.es_len,W],λx j=>?_],F.mono ()]]
 . obtain q|q:=cx.mp j
   . let(D,z):=N x (gu _ q);show#[D,λm h1 h2=>z m h1 ()]
   . obtain q|q:=cx.mp q
     . let g:=Rows.abs rs w ab bl (k+r.cnt) x q;show#[g.num F,λm h1 h2=>g.ne (F.ne h1) (Zl ())]
     . let(D,z):=N x (fB _ q);show#[D,λm h1 h2=>z m h1 ()]
 . obtain q|q:=cx.mp j
   . obtain q|q:=cx.mp q
     . let(D,z):=N x (gu _ q);show#[D,λm h1 h2=>z m () ()]
     . let g:=ah.abs r w ab bl k x q;show#[g.num F,λm h1 h2=>g.ne (F.ne ()) (YY h1)]
   . let(D,z):=N x (fB _ q);show#[D,λm h1 h2=>z m () ()]
theorem pW.wh{es:List b_}{w:Str}{ab:PV}{bl:Int}{k:Nat}{x:PV}{b:Rows}(h:pW es w ab bl k (.wh x b)):pU es w (ZI (k:Nat)) 0 (k+1) b:=by
 let((F,i,e,hl,D),Q):=h;simp only[ah.cnt]at D;show#[#[F++[#[w,ab,bl,.wh x b]],i,by rw[e];simp[ah.es],by simp[hl],λy W=>?_],YY #[k,O,()]];obtain q|q:=cx.mp W
 . obtain q|q:=cx.mp q
   . let(N,z):=D y (gu _ q);show#[N,λm h1 h2=>z m () ()]
   . rw[eL.mp q];show#[by obtain a|⟨j,a,_⟩:=Q;show Zl a;show YY #[j,a],λm h1 _=>Q.ne ()]
 . let(N,z):=D y (fB _ q);show#[N,λm h1 h2=>z m () ()]
theorem pW.iff{ab:PV}(h:pW es w ab bl k (.iff x b c)):pU es w (ZI (k:Nat)) 0 (k+1) b/\pU es w (ZI (k:Nat)) 1 (k+1+b.cnt) c:=by
 let((N,i,e,hl,F),Q):=h;simp only[ah.cnt]at F;have own:(ab=.non\/∃j:Nat,ab=ZI j):=by obtain a|⟨j,a,_⟩:=Q;show Zl a;show YY #[j,a]
 have hk:∀s,k<s->uO (ZI (k:Nat)) s:=λs hs=>YY #[k,O,hs];show#[#[#[N++[#[w,ab,bl,.iff x b c]],c.es w (ZI (k:Nat)) 1 (k+1+b.cnt)++i,by rw[e];simp[ah.es],by simp[hl],λy W=>?_],hk _ ()],#[#[N++(#[w,ab,bl,.iff x b c]::b.es w (ZI (k:Nat)) 0 (k+1)),i,by rw[e];simp[ah.es],by simp[Rows.es_len];lia,λy W=>?_],hk _ ()]]
 . obtain q|q:=cx.mp W
   . obtain q|q:=cx.mp q
     . let(D,z):=F y (gu _ q);show#[D,λm h1 h2=>z m () ()]
     . rw[eL.mp q];show#[own,λm h1 _=>Q.ne ()]
   . obtain q|q:=cx.mp q
     . let g:=Rows.abs c w (ZI (k:Nat)) 1 (k+1+b.cnt) y q;show#[g.num (hk (k+1) ()),λm h1 h2=>g.ne (wH ()) (Zl ())]
     . let(D,z):=F y (fB _ q);show#[D,λm h1 h2=>z m () ()]
 . obtain q|q:=cx.mp W
   . obtain q|q:=cx.mp q
     . let(D,z):=F y (gu _ q);show#[D,λm h1 h2=>z m () ()]
     . obtain rfl|q:=aT.mp q
       . show#[own,λm h1 _=>Q.ne ()]
       . let g:=Rows.abs b w (ZI (k:Nat)) 0 (k+1) y q;show#[g.num (hk (k+1) ()),λm h1 h2=>g.ne (wH ()) (YY ())]
   . let(D,z):=F y (fB _ q);show#[D,λm h1 h2=>z m () ()]
def ah.es_head(r:ah)(w:Str)(ab:PV)(bl:Int)(k:Nat):∃t,r.es w ab bl k=#[w,ab,bl,r]::t:=by cases r<;>show#[_,O]
def pW.get{ab:PV}(h:pW es w ab bl k r):es[k]?=!#[w,ab,bl,r]:=by let((z,i,e,q,F),D):=h;let(t,j):=r.es_head w ab bl k;rw[e,j,fy (),q,gz];rfl
theorem pW.pos{ab:PV}(h:pW es w ab bl k r)(i:Int):Law.pos (eW w k i) 0 es=r.bnums k i:=by
 let((z,q,e,D,Q),N):=h;let hc:=r.cnt_pos;have out:∀(l:List b_)(j:Nat),(∀x∈l,x∈z++q)->Law.pos (eW w k i) j l=[]:=λl j D=>Br λx F=>by let(g1,W):=Q x (D x F);show key_ne (W k () ()) g1
 rw[e,oY,oY,out z 0 λx h=>gu _ h,out q _ λx h=>fB _ h,fm,d0,ij,D];show r.pos_in w ab bl k i N
mutual
def ah.sp:ah->Bool
 |.leaf _ _=>M
 |.call _ _ _=>G
 |.wh _ _=>G
 |.iff _ b c=>b.sp||c.sp
def Rows.sp:Rows->Bool
 |.nil=>M
 |.cons r rs=>r.sp||rs.sp
end
noncomputable def j3 (k:Nat):Str:="at " ++ (toString (k:Int):Str)
mutual
def ah.bt:ah->Nat->List Str
 |.leaf _ _,k=>[j3 k]
 |.call _ n _,k=>[j3 k,"leave " ++ n]
 |.wh _ _,k=>[j3 k]
 |.iff _ b c,k=>[j3 k]++(if b.sp then b.lbt (k+1) else [])++(if c.sp then c.lbt (k+1+b.cnt) else [])
def Rows.lbt:Rows->Nat->List Str
 |.nil,_=>[]
 |.cons r .nil,k=>r.bt k
 |.cons r (.cons r' rs),k=>(Rows.cons r' rs).lbt (k+r.cnt)
end
mutual
def ah.bl:ah->Nat
 |.leaf _ _=>1
 |.call _ _ _=>2
 |.wh _ _=>1
 |.iff _ b c=>1+b.bl+c.bl
def Rows.bl:Rows->Nat
 |.nil=>0
 |.cons r rs=>max r.bl rs.bl
end
mutual
theorem ah.bt_len:∀(r:ah)(k:Nat),(r.bt k).length<=r.bl
 |.leaf _ _,k=>bv _
 |.call _ _ _,k=>bv _
 |.wh _ _,k=>bv _
 |.iff _ b c,k=>by let h1:=Rows.lbt_len b (k+1);let h2:=Rows.lbt_len c (k+1+b.cnt);simp only[ah.bt,ah.bl,bS,be];split<;>split<;>(try simp only[b9])<;>lia
theorem Rows.lbt_len:∀(rs:Rows)(k:Nat),(rs.lbt k).length<=rs.bl
 |.nil,k=>bv _
 |.cons r .nil,k=>by have:=ah.bt_len r k;simp only[Rows.lbt,Rows.bl];lia
 |.cons r (.cons i rs),k=>by have:=Rows.lbt_len (.cons i rs) (k+r.cnt);simp only[Rows.lbt,Rows.bl]at this ⊢;lia
end
mutual
noncomputable def ah.rws:ah->List ah
 |.leaf w ps=>[.leaf w ps]
 |.call b n as=>[.call b n as]
 |.wh e b=>.wh e b::b.rws
 |.iff e b c=>.iff e b c::(b.rws++c.rws)
noncomputable def Rows.rws:Rows->List ah
 |.nil=>[]
 |.cons r rs=>r.rws++rs.rws
end
mutual
theorem ah.rws_len:∀r:ah,r.rws.length=r.cnt
 |.leaf _ _=>rfl
 |.call _ _ _=>rfl
 |.wh _ b=>by simp[ah.rws,ah.cnt,Rows.rws_len b]
 |.iff _ b c=>by simp[ah.rws,ah.cnt,Rows.rws_len b,Rows.rws_len c]
theorem Rows.rws_len:∀rs:Rows,rs.rws.length=rs.cnt
 |.nil=>rfl
 |.cons r rs=>by simp[Rows.rws,Rows.cnt,ah.rws_len r,Rows.rws_len rs]
end
abbrev gg(l:List ah):List PV:=l.map ah.pv
def uh(l:List ah):(gg l).length=l.length:=bq _
abbrev IE(X:PV)(acc:List PV)(o2 o3:Option Lc)(mu:Mu):Ev:=#[[zS X,zO acc,o2,o3],mu]
abbrev wt(n:Nat):SF:=fQ 1 (aP (ir n) (aa (aj 3) ao))
abbrev pE(n:Nat):SF:=aF (jM 1 (aj 2)) (fH (dG (aP gC (aa (aj 2) ao)) bN) (aC 3) (wt n))
def Mr{o2:Option Lc}(h:ir n [p] mu=!(Zs (R qs),mu))(i:acc.length+qs.length<=100000):wt n (IE X acc o2 (zS p) mu)=!(.nx (IE X (acc++qs) o2 (zS p) mu)):=
 jN O (aU O O O O h) O O i O
def Fx{o3:Option Lc}{r:ah}(j:acc.length<1000)(i:∀mu,gC [r.pv] mu=!(Zs (R bs),mu))(h:fG (aC 3) (wt n) bs (IE X (acc++[r.pv]) (zS r.pv) o3 mu)=ZN):pE n (IE X acc (zS r.pv) o3 mu)=ZN:=
 aH (rQ O O O O () O)
  (dZ (dM (aU O O O O (i _)) O) h)
def in_of{rs:Rows}(h:∃o2 o3,fG (aC 2) (pE n) rs.pvs (IE (R rs.pvs) [] J J mu)=!(.nx (IE (R rs.pvs) ([]++gg rs.rws) o2 o3 mu))):ir (n+1) [R rs.pvs] mu=!(Zs (R (gg rs.rws)),mu):=by let(o2,o3,h):=h;show aN (Y:=#[[zL rs.pvs,J,o2,o3],mu]) ?_;show aH O (aH () O)
mutual
theorem UU:∀(r:ah)(n:Nat)(X:PV)(acc:List PV)(o3:Option Lc)(mu:Mu),r.ok->r.dep<=n->acc.length+r.cnt<=1000->∃F,pE n (IE X acc (zS r.pv) o3 mu)=!(.nx (IE X (acc++gg r.rws) (zS r.pv) F mu))
 |.leaf x ps=>λn X acc o3 mu ok i j=>by show#[o3,Fx () (λmu=>rM ok.1.1 ok.1.2.1) O]
 |.call b m N=>λn X acc o3 mu ok i j=>by show#[o3,Fx () (λmu=>rM () ()) O]
 |.wh e b=>λn X acc o3 mu ok i j=>by simp only[ah.cnt]at j;simp only[ah.dep]at i;obtain⟨m,rfl⟩:∃m,n=m+1:=#[n-1,()];let r:ah:=.wh e b;let q:=in_of (wI b m (R b.pvs) [] J J mu ok.2 () (by simp only[b9];lia));let st:=Mr (X:=X) (acc:=acc++[r.pv]) (o2:=zS r.pv) q (by rw[uh,Rows.rws_len,bS];simp only[be,b9];lia);show#[zL b.pvs,Fx () (λmu=>Ir) ((RM O st).trans ?_)];simp only[cw];rfl
 |.iff e b c=>λn X acc o3 mu ok i j=>by simp only[ah.cnt]at j;simp only[ah.dep]at i;obtain⟨m,rfl⟩:∃m,n=m+1:=#[n-1,()];let r:ah:=.iff e b c;let q:=in_of (wI b m (R b.pvs) [] J J mu ok.2.1 () (by simp only[b9];lia));let z:=in_of (wI c m (R c.pvs) [] J J mu ok.2.2 () (by simp only[b9];lia));let st:=Mr (X:=X) (acc:=acc++[r.pv]) (o2:=zS r.pv) q (by rw[uh,Rows.rws_len,bS];simp only[be,b9];lia);let D:=Mr (X:=X) (acc:=acc++[r.pv]++gg b.rws) (o2:=zS r.pv) z (by rw[uh,Rows.rws_len,bS,bS,uh,Rows.rws_len];simp only[be,b9];lia);show#[zL c.pvs,Fx () (λmu=>Iu) ((RN O st O D).trans ?_)];simp only[ah.rws,cw,dE,cy];rfl
theorem wI:∀(rs:Rows)(n:Nat)(X:PV)(acc:List PV)(o2 o3:Option Lc)(mu:Mu),rs.ok->rs.dep<=n+1->acc.length+rs.cnt<=1000->∃p2 i,fG (aC 2) (pE n) rs.pvs (IE X acc o2 o3 mu)=!(.nx (IE X (acc++gg rs.rws) p2 i mu))
 |.nil=>λn X acc o2 o3 mu ok j q=>#[o2,o3,by simp[Rows.pvs,fG,Rows.rws]]
 |.cons r rs=>λn X acc o2 o3 mu ok j q=>by simp only[Rows.dep]at j;simp only[Rows.cnt]at q;let(z,D):=UU r n X acc o3 mu ok.1 () ();let(p2,i,F):=wI rs n X (acc++gg r.rws) (zS r.pv) z mu ok.2 () (by rw[bS,uh,ah.rws_len];lia);show#[p2,i,gJ O D (F.trans ?_)];simp only[Rows.rws,cy,cw]
end
def iA:PV->Bool
 |ZB (ZH s::_)=>(("while" : Str)==s||(("call" : Str)==s||false))
 |_=>M
def Fy{a b:Str}(h:(a==b)=M):(b==a)=M:=by rw[ms]at h ⊢;show λq=>h q.symm
mutual
theorem ah.hots:∀r:ah,r.ok->(gg r.rws).any iA=r.sp
 |.leaf w ps,ok=>by let((_,h2,i),_):=ok;show ((("while" : Str)==w||(("call" : Str)==w||false))||false)=M;rw[Fy h2,Fy i];rfl
 |.call b n j,ok=>by show ((("while" : Str)== "call" || (("call" : Str)== "call" || false))||false)=G;decide +kernel
 |.wh e b,ok=>by show ((("while" : Str)== "while" || (("call" : Str)== "while" || false))||(gg b.rws).any iA)=G;rfl
 |.iff e b c,ok=>by show ((("while" : Str)== "if" || (("call" : Str)== "if" || false))||(gg (b.rws++c.rws)).any iA)=(b.sp||c.sp);rw[show (("while" : Str)== "if" || (("call" : Str)== "if" || false))=M by decide +kernel,Bool.false_or,gg,cy,List.any_append,Rows.hots b ok.2.1,Rows.hots c ok.2.2]
theorem Rows.hots:∀rs:Rows,rs.ok->(gg rs.rws).any iA=rs.sp
 |.nil,_=>rfl
 |.cons r rs,ok=>by show (gg (r.rws++rs.rws)).any iA=(r.sp||rs.sp);rw[gg,cy,List.any_append,ah.hots r ok.1,Rows.hots rs ok.2]
end
theorem yw{α:Type}(f:α->Bool):∀cs:List α,c6 (cs.map λc=>.bl (f c))=!(cs.map f)
 |[]=>rfl
 |c::cs=>by show (c6 (cs.map λc=>.bl (f c))).map _=_;rw[yw f cs];rfl
def ah.head(r:ah):∃w t,r.pv=ZB (ZH w::t):=by cases r<;>show#[_,_,O]
def Iv{r:ah}(ok:r.ok)(z:r.dep<=38)(N:r.cnt<=900):yr [r.pv] mu=!(Zp (.bl r.sp),mu):=by
 let o:=in_of (wI (.cons r .nil) 39 _ [] J J mu #[ok,True.intro] (by simp only[Rows.dep];lia) (by simp only[Rows.cnt,b9];lia));let L:_:=gg (Rows.cons r .nil).rws;have F:L.length<=1000:=by simp only[L,uh,Rows.rws_len,Rows.cnt];lia
 have c:eE (aC 0) bQ BN L #[[J],mu] []=!(L.map λq=>.bl (iA q),mu):=by
  show Ia (λY=>∃o,Y=#[[o],mu]) (λY ⟨o,e⟩=>by rw[e]) (λq=>.bl (iA q)) #[J,O] () ?_ ?_
  . intro x i Y q0;let(o,rfl):=q0;let(y,_,rfl):=cK.mp i;let(s,t,j):=y.head;rw[j];show#[_,O,Zp (.bl (iA (ZB (ZH s::t)))),#[[zS (ZB (ZH s::t))],mu],?_,O,_,O];show dJ w0 O O O ?_;rfl
  . rintro y D Y Y1 ⟨o,rfl⟩ h;cases h;show#[_,O]
 show aN (Y:=#[[zS r.pv],mu]) (cL ?_);show mV (au ((gh (Uu (aU (au (lM (au O O) O O) O) O O O o) O O) c).trans O) O) O ?_;show ((c6 (L.map λq=>.bl (iA q))).map _)=_;rw[yw,iS];have e:L.any iA=r.sp:=by have:=Rows.hots (.cons r .nil) #[ok,True.intro];rw[show (Rows.cons r .nil).sp=(r.sp||false) from O,Bool.or_false]at this;show this
 rw[<-e];simp[List.any_map]
noncomputable abbrev aV (l:List Nat):List PV:=l.map λ(i:Nat)=>PV.int (i:Nat)
abbrev SD:=List (List aW×List Nat)
noncomputable def iM (K:List aW) (i:Nat):SD->SD
 |[]=>[(K,[i])]
 |x::r=>if x.1=K then (x.1,x.2++[i])::r else x::iM K i r
noncomputable def jT:SD->List aW->Option (List Nat)
 |[],_=>J
 |x::r,K=>if x.1=K then !x.2 else jT r K
noncomputable def pz:Nat->SD->tN
 |_,[]=>[]
 |N,x::r=>(x.1,ZA N)::pz (N+1) r
abbrev fD(S:SD):Mu:=S.map λx=>!(R (aV x.2))
theorem U6_:∀(N:Nat)(S:SD),(pz N S).length=S.length
 |_,[]=>rfl
 |N,x::r=>by simp[pz,U6_]
theorem Fs:∀l:tN,(l.map (·.1)).zip (l.map (·.2))=l
 |[]=>rfl
 |x::r=>by rw[dE,dE,kU,Fs r]
theorem U7_:∀{S:SD}{N i:Nat}{K:List aW},jT S K=J->jO (pz N S) K=J/\iM K i S=S++[(K,[i])]/\pz N (iM K i S)=pz N S++[(K,ZA (N+S.length))]
 |[],N,i,K,_=>#[O,O,O]
 |x::r,N,i,K,h=>by
  unfold jT at h;split at h
  . cases h
  . rename_i j;let(h1,h2,q):=U7_ h;show#[?_,?_,?_]
    . show (if x.1=K then _ else _)=_;rw[aE j];show h1
    . show (if x.1=K then _ else _)=_;rw[aE j,h2];rfl
    . unfold iM;rw[aE j];show (x.1,PV.ptr N)::pz (N+1) (iM K i r)=_;rw[q,show N+1+r.length=N+(x::r).length by simp only[be];omega];rfl
theorem U8:∀{S:SD}{N i:Nat}{K:List aW}{l:List Nat},jT S K=!l->∃j,jO (pz N S) K=!(ZA (N+j))/\(fD S)[j]?=!(!(R (aV l)))/\(fD S).set j (!(R (aV (l++[i]))))=fD (iM K i S)/\pz N (iM K i S)=pz N S
 |[],N,i,K,l,h=>by cases h
 |x::r,N,i,K,l,h=>by
  unfold jT at h;split at h
  . rename_i q;cases h;show#[0,?_,O,?_,?_]
    . show (if x.1=K then _ else _)=_;rw[av q];rfl
    . unfold iM;rw[av q];rfl
    . unfold iM;rw[av q];rfl
  . rename_i q;let(j,h1,h2,z,D):=U8 h;show#[j+1,?_,?_,?_,?_]
    . show (if x.1=K then _ else _)=_;rw[aE q,h1,show N+1+j=N+(j+1) by omega]
    . simpa using h2
    . unfold iM;rw[aE q];show _::(fD r).set j _=_::fD (iM K i r);rw[z]
    . unfold iM;rw[aE q];show (x.1,PV.ptr N)::pz (N+1) (iM K i r)=_;rw[D];rfl
def UX{K j:List aW}:(jT (iM j i S) K).getD []=(jT S K).getD []++if j=K then [i] else []:=by
 induction S with
 |nil=>
  show (if j=K then ![i] else J).getD []=[]++_;split<;>rfl
 |cons x r D=>
  unfold iM;by_cases z:x.1=j
  . rw[av z];show (if x.1=K then !(x.2++[i]) else jT r K).getD []=(if x.1=K then !x.2 else jT r K).getD []++_;by_cases h:x.1=K
    . rw[av h,av h,av (z▸h)];rfl
    . rw[aE h,aE h,aE (λq=>h ∅),d0]
  . rw[aE z];show (if x.1=K then !x.2 else jT (iM j i r) K).getD []=(if x.1=K then !x.2 else jT r K).getD []++_;by_cases h:x.1=K
    . rw[av h,av h,aE (λq=>z ∅),d0]
    . rw[aE h,aE h];show D
def n6:Nat->List b_->SD->SD
 |_,[],S=>S
 |i,e::es,S=>n6 (i+1) es (iM e.key i S)
theorem Bs{K:List aW}:∀(es:List b_)(i:Nat)(S:SD),(jT (n6 i es S) K).getD []=(jT S K).getD []++pos K i es
 |[]=>λi S=>(d0 _).symm
 |e::es=>λi S=>by
  show (jT (n6 (i+1) es (iM e.key i S)) K).getD []=_++if e.key=K then i::pos K (i+1) es else pos K (i+1) es
  rw[Bs es,UX,cw];split<;>rfl
theorem Ms{K:List aW}:∀S:SD,(iM K i S).length<=S.length+1
 |[]=>bv _
 |x::r=>by
  unfold iM;split
  . simp
  . have:=Ms (K:=K) (i:=i) r;simp only[be];lia
def fN(m:Nat)(S:SD):Prop:=∀x∈S,x.2.length<=m
theorem fN.put{K:List aW}:∀{S:SD},fN m S->fN (m+1) (iM K i S)
 |[]=>λ_ x j=>by rw[eL.mp j];simp
 |y::r=>λh x j=>by
  unfold iM at j;split at j
  . obtain rfl|j:=aT.mp j
    . have:=h y bi;simp only[bS,be,b9];lia
    . have:=h x (cv _ j);lia
  . obtain rfl|j:=aT.mp j
    . have:=h x bi;lia
    . show fN.put (λz q=>h z (cv _ q)) x j
theorem U9:∀{S:SD}{K:List aW}{l:List Nat},jT S K=!l->∃x∈S,x.2=l
 |[],K,l,h=>by cases h
 |y::r,K,l,h=>by
  unfold jT at h;split at h
  . cases h;show#[y,bi,O]
  . let(x,i,e):=U9 h;show#[x,cv _ i,e]
theorem Qe:∀(S:SD)(A:Mu),meltL (A++fD S) ((pz A.length S).map (·.2))=!(S.map λx=>R (aV x.2),A++S.map λ_=>J)
 |[]=>λA=>by simp[pz,meltL]
 |x::r=>λA=>by
  let i:=Qe r (A++[J]);rw[bS]at i;have q:(A++fD (x::r))[A.length]?=!(!(R (aV x.2))):=by rw[fy (),gz];rfl
  have j:(A++fD (x::r)).set A.length J=(A++[J])++fD r:=by rw[List.set_append_right _ _ (),gz,cw];rfl
  show meltL (A++fD (x::r)) (ZA A.length::(pz (A.length+1) r).map (·.2))=_;unfold meltL;rw[q];dsimp only;rw[j,show A.length+1=A.length+[(J:Option PV)].length from O,i,iS];simp
theorem JX:∀(S:SD)(N:Nat)(K:List aW),jO (((pz N S).map (·.1)).zip (S.map λx=>PV.lst (aV x.2))) K=(jT S K).map λl=>R (aV l)
 |[]=>λN K=>rfl
 |x::r=>λN K=>by
  show (if x.1=K then !(PV.lst (aV x.2)) else jO (((pz (N+1) r).map (·.1)).zip (r.map λx=>PV.lst (aV x.2))) K)=(if x.1=K then !x.2 else jT r K).map _;by_cases h:x.1=K
  . rw[av h,av h];rfl
  . rw[aE h,aE h];show JX r (N+1) K
noncomputable def Ae:Nat->List PV->List PV
 |_,[]=>[]
 |i,p::ps=>ZB [ZI (i:Nat),p]::Ae (i+1) ps
theorem Va:∀(ps:List PV)(i:Nat),(ps.zipIdx i).map (λx=>PV.tup [ZI (x.2:Nat),x.1])=Ae i ps
 |[],i=>rfl
 |p::ps,i=>by rw[List.zipIdx_cons,dE,Va ps (i+1)];rfl
def Dm(ps:List PV):tO ps=Ae 0 ps:=Va ps 0
section
abbrev pX(N:Nat)(S:SD):PV:=.dx HK.hk ((pz N S).map (·.1)) ((pz N S).map (·.2))
noncomputable abbrev AE (o0 o1 o2 o3 o4 o5 o6 o7 o8 o9 nz:Option Lc) (mu:Mu):Ev:=#[[o0,o1,o2,o3,o4,o5,o6,o7,o8,o9,nz],mu]
abbrev Fu:SF:=nQ B2 (aj 4)
def Iw{e:b_}(i:e.ab=.non\/∃j:Nat,e.ab=ZI j):pI [ZH e.w,e.ab,ZI e.bl]=!e.key:=by unfold b_.key;rcases i with h|⟨j,h⟩<;>rw[h]<;>rfl
open Classical in
def UY{e:b_}{D o1 o2 o6 o7 o8 F q:Option Lc}(Q:e.ab=.non\/∃j:Nat,e.ab=ZI j)(hS:S.length<=1000)(hs:fN 1000 S):
 Fu (AE D o1 o2 (!(Zs (pX A.length S))) (zI (i:Nat)) (zS e.pv) o6 o7 o8 F q (A++fD S))=!(.nx (AE D o1 o2 (!(Zs (pX A.length (iM e.key i S)))) (zI (i:Nat)) (zS e.pv) o6 o7 o8 F q (A++fD (iM e.key i S)))):=by
 let E:_:=AE D o1 o2 (!(Zs (pX A.length S))) (zI (i:Nat)) (zS e.pv) o6 o7 o8 F q (A++fD S);have hk:oE (aj 5) iZ (dB (af 3)) E=!(Zp (ZB [ZH e.w,e.ab,ZI e.bl]),E):=O;have set:Bl 3 (oE (aj 5) iZ (dB (af 3))) E=(match jO (pz A.length S) e.key with
  |some p=>!(Zp p,E)
  | none=>!(Zp (ZA (A++fD S).length),#[E.vs.set 3 (!(Zs (.dx HK.hk ((pz A.length S).map (·.1)++[e.key]) ((pz A.length S).map (·.2)++[ZA (A++fD S).length])))),(A++fD S)++[!(R [])]])):=by
  unfold Bl;rw[show E.vs[3]?=some (!(Zs (pX A.length S))) from O];show ((pI [ZH e.w,e.ab,ZI e.bl]).bind _)=_;rw[Iw Q,bo,av #[O,by rw[bq,U6_];lia],Fs]
  all_goals (cases jO (pz A.length S) e.key<;>rfl)
 cases h:jT S e.key with
 |none=>
  let(h1,h2,z):=U7_ h;rw[h1]at set;have N:(A++fD S).length=A.length+S.length:=by rw[bS,bq]
  show(wD set O (ws0:=[]) (ws:=[]) ?_ O O ?_ () O).trans ?_
  . rw[fy (),gz];rfl
  . show ((A++fD S)++[!(PV.lst [])])[(A++fD S).length]?=_;rw[fy (),gz];rfl
  . show some (Fl.nx #[_,((A++fD S)++[!(PV.lst [])]).set (A++fD S).length _])=_;rw[List.set_append_right _ _ (),gz,pX,z,h2,cy,cy,N,show fD (S++[(e.key,[i])])=fD S++[!(R (aV [i]))] from cy,<-cw];rfl
 |some l=>
  let(j,h1,h2,z,h4):=U8 h;rw[h1]at set;let(x,W,ex):=U9 h;let N:=hs x W;have g:(A++fD S)[A.length+j]?=!(!(R (aV l))):=by rw[fy (),show A.length+j-A.length=j by omega];show h2
  show(wD set O (p:=ZI (i:Nat)) g (Y2:=E) O O g ∅ O).trans ?_;rw[List.set_append_right _ _ (),show A.length+j-A.length=j by lia,show aV l++[PV.int (i:Nat)]=aV (l++[i]) by simp[aV],z,pX,h4]
theorem Qf{Q o1 o2 o6 o7 o8 W q:Option Lc}:∀(es:List b_)(i:Nat)(S:SD)(o4 o5:Option Lc),(∀e∈es,e.ab=.non\/∃j:Nat,e.ab=ZI j)->S.length+es.length<=1000->∀m,fN m S->m+es.length<=1000->
 ∃D z,fG uj Fu (Ae i (dy es)) (AE Q o1 o2 (!(Zs (pX A.length S))) o4 o5 o6 o7 o8 W q (A++fD S))=!(.nx (AE Q o1 o2 (!(Zs (pX A.length (n6 i es S)))) D z o6 o7 o8 W q (A++fD (n6 i es S))))
 |[]=>λi S o4 o5 _ _ m _ _=>#[o4,o5,O]
 |e::es=>λi S o4 o5 N hl m hs hm=>by simp only[be]at hl hm;let hp:=Ms (K:=e.key) (i:=i) S;let(D,z,ih):=Qf es (i+1) (iM e.key i S) (zI (i:Nat)) (zS e.pv) (λx F=>N x (cv _ F)) () (m+1) hs.put ();show#[D,z,gJ O (UY (N e bi) () λx F=>by have:=hs x F;lia) ih]
end
theorem Vb{α β:Type}:∀l:List (α×β),(l.map (·.1)).zip (l.map (·.2))=l
 |[]=>rfl
 |x::r=>by rw[dE,dE,kU,Vb r]
def G6(h1:fv Y=!(y,Y1))(i:y.pv=p)(h2:fo Y1=!(x,Y2))(j:x.pv=ZA n)(z:Y2.mu[n]?=!(!(fV C l)))(q:l.length<1000):Bj C f fo fv Y=!(.nx #[Y2.vs,Y2.mu.set n (!(fV C (rB f p l)))]):=by unfold Bj;rw[h1,bo,h2,bo,j];dsimp only;rw[z];unfold fV;dsimp only;rw[av #[O,by rw[bq];show q],Vb,i]
def rY(h2:fo Y=!(x,Y1))(q:x.pv=ZA n)(j:Y1.mu[n]?=!(!(fV C l)))(i:rm l f=!p):ju C f fo Y=!(Zp p,Y1):=by unfold ju;rw[h2,bo,q];dsimp only;rw[j];unfold fV;dsimp only;rw[av O,Vb,i];rfl
def wJ(h1:fo Y=!(x,Y1))(z:x.pv=ZA n)(D:Y1.mu[n]?=!(!(fV C l)))(j:(l.map (·.1)).contains m=M)(h2:a Y1=!(ls,Y2))(i:ls.map Lc.pv=ps)(q:g (ZA n::ps) Y2.mu=!(r,iE)):cV C m g fo a Y=!(r,#[Y2.vs,iE]):=by unfold cV;rw[h1,bo,z];dsimp only;rw[D];unfold fV;dsimp only;rw[av #[O,j],h2,bo,i,q];rfl
def UZ(h:a Y=!(ls,Y1))(i:ls.map Lc.pv=ps)(h2:g (ZA Y1.mu.length::ps) (Y1.mu++[!(fV C [])])=!(Zp .non,iE)):EY C g a Y=!(Zp (ZA Y1.mu.length),#[Y1.vs,iE]):=by unfold EY;rw[h,bo,i];rw[show g (ZA Y1.mu.length::ps) (Y1.mu++[!(.obj C [] [])])=_ from h2];rfl
theorem Iz:∀l:PD,(vf k v l).length=l.length
 |[]=>rfl
 |x::r=>by simp[vf,Iz r]
def Xn:(uB l k v).length<=l.length+1:=by
 unfold uB;split
 . rw[Iz];lia
 . simp
section
abbrev wv:EF:=cF (dG (aj 9) bN) 2 [] kF bQ (aj 0)
theorem Qg:∀(xs:List Str)(i o1:Option Lc)(acc:List PV),acc.length+xs.length<=1000->eE kF bQ (aj 0) (xs.map λx=>ZB [ZH x,.non]) #[[i,o1],mu] acc=!(acc++xs.map PV.str,mu)
 |[]=>λi o1 acc _=>by simp[eE]
 |x::xs=>λi o1 acc h=>by simp only[be]at h;show jb (Y2:=#[[zT x,!(Zp .non)],mu]) O O () ((Qg xs _ _ (acc++[ZH x]) ∅).trans ?_);simp
def FA(f:Fn)(p:PV):Prop:=∃xs:List Str,f.params=xs.map (λx=>ZB [ZH x,.non])/\xs.length<=4/\Sh xs/\p=R (xs.map PV.str)
theorem Mt:∀l:PD,iy (vf k v l) k'=if k=k' then (iy l k).map λ_=>v else iy l k'
 |[]=>by simp[vf,iy]
 |x::r=>by have:=Mt (k:=k) (k':=k') (v:=v) r;grind [vf,iy]
theorem Mv:∀l:PD,iy l k=J->iy (l++[(k,v)]) k'=if k=k' then !v else iy l k'
 |[]=>λ_=>rfl
 |x::r=>λh=>by have:=Mv (k:=k) (k':=k') (v:=v) r;grind [iy]
def Qh:iy (uB l k v) k'=if k=k' then !v else iy l k':=by
 unfold uB;cases h:iy l k with
 |none=>show Mv l h
 |some w=>rw[Mt,h];rfl
def VA{j o1 o2 o3 o4 o5 o8 i:Option Lc}(q:∃xs:List Str,f.params=xs.map (λx=>ZB [ZH x,.non])/\xs.length<=4/\Sh xs)(F:d.length<=1000):∃p,FA f p/\
 Ey 6 (aj 7) wv (AE j o1 o2 o3 o4 o5 (!(Zs (mQ d))) (zT f.name) o8 (zL f.params) i mu)=!(.nx (AE j o1 o2 o3 o4 o5 (!(Zs (mQ (uB d (.inr f.name) p)))) (zT f.name) o8 (zL f.params) i mu)):=by
 let(xs,e,z,D):=q;let E:_:=AE j o1 o2 o3 o4 o5 (!(Zs (mQ d))) (zT f.name) o8 (zL f.params) i mu;show#[R (xs.map PV.str),#[xs,e,z,D,O],?_];have c:wv E=!(Zs (R (xs.map PV.str)),E):=gh (Y1:=E) () (by rw[e];show Qg xs J J [] ∅);unfold Ey;rw[c,bo];show (if (d.map (·.1)).length<100000 then _ else _)=_;rw[av ∅,Vb];rfl
def RP(fs:List Fn)(d:PD):Prop:=∀f∈fs,∃p,FA f p/\iy d (.inr f.name)=!p
theorem Qi{o0 o1 o2 o3 o4 o5:Option Lc}:∀(fs:List Fn)(d:PD)(o7 o8 F i:Option Lc),(∀f∈fs,∃xs:List Str,f.params=xs.map (λx=>ZB [ZH x,.non])/\xs.length<=4/\Sh xs)->(fs.map Fn.name).Nodup->d.length+fs.length<=1000->
 ∃z W N Q j,RP fs z/\(∀x∉fs.map Fn.name,iy z (.inr x)=iy d (.inr x))/\fG B3 (Ey 6 (aj 7) wv) (fs.map Fn.pv) (AE o0 o1 o2 o3 o4 o5 (!(Zs (mQ d))) o7 o8 F i mu)=!(.nx (AE o0 o1 o2 o3 o4 o5 (!(Zs (mQ z))) W N Q j mu))
 |[]=>λd o7 o8 F i _ _ _=>#[d,o7,o8,F,i,λf hf=>(by cases hf),λ_ _=>O,O]
 |f::fs=>λd o7 o8 F i h nd hl=>by
  simp only[be]at hl;let(n1,n2):=f6.mp nd;let(p,hp,st):=VA (d:=d) (h f bi) ();let MQ:=Xn (k:=.inr f.name) (v:=p) (l:=d);let(z,W,N,Q,j,k1,k2,ih):=Qi fs (uB d (.inr f.name) p) (zT f.name) (zS f.rank) (zL f.params) (zL f.rows.pvs) (λx D=>h x (cv _ D)) n2 ();show#[z,W,N,Q,j,λg hg=>?_,λx D=>?_,gJ O st ih]
  . obtain rfl|hg:=aT.mp hg
    . show#[p,hp,by rw[k2 _ n1,Qh,av O]]
    . show k1 g hg
  . rw[k2 x λq=>D (cv _ q),Qh,aE];intro q;injection q with q;show D ∅
abbrev LX(N:Nat)(S:SD):PV:=.dx HK.hk ((pz N S).map (·.1)) (S.map λx=>R (aV x.2))
abbrev Qj(es:List b_)(N:Nat)(hd:PV):FD:=[("told",R (dy es)),("lists",LX N (n6 0 es [])),("heads",hd)]
def VC(P:Pg):∀e∈P.es,e.ab=.non\/∃j:Nat,e.ab=ZI j:=by
 have f:∀(fs:List Fn)(k:Nat),∀e∈qi fs k,e.ab=.non\/∃j:Nat,e.ab=ZI j:=by
  intro fs;induction fs with
  |nil=>intro k e i;cases i
  |cons f fs q=>
   intro k e i;obtain i|i:=cx.mp i
   . show(Rows.abs f.rows f.name .non 0 k e i).num (k:=0) (Zl O)
   . show q _ e i
 intro e i;obtain i|i:=cx.mp i
 . show f _ _ e i
 . show(Rows.abs P.rows "main" .non 0 _ e i).num (k:=0) (Zl O)
theorem es_len(P:Pg):P.es.length=dY P.fns+P.rows.cnt:=by unfold Pg.es;rw[bS,Bq,Rows.es_len]
def RQ{α:Type}{A B:List α}{x:α}:(A++x::B)[A.length]?=!x:=by rw[fy (),gz];rfl
def RT{α:Type}{A B:List α}{x y:α}:(A++x::B).set A.length y=A++y::B:=by rw[List.set_append_right _ _ (),gz];rfl
def VE{P:Pg}(ok:P.ok)(A:Mu):∃d B,RP P.fns d/\j6 [ZA A.length,P.pv] (A++[!(fV "Plan" [])])=!(Zp .non,A++some (fV "Plan" (Qj P.es (A.length+1) (mQ d)))::B):=by
 let hc:=ok.ct;let hlen:=es_len P;let i:Mu:=A++[!(fV "Plan" [])];have wx:i.length=A.length+1:=by simp[i]
 let S:_:=n6 0 P.es [];let o0:Option Lc:=zS (ZA A.length);let o1:Option Lc:=zS P.pv;let o2:Option Lc:=zL (dy P.es);let(p4,z,e1):=Qf P.es 0 [] J J (VC P) ∅ 0 (λx hx=>by cases hx) ();let(d,D,N,p9,j,F,_,e2):=Qi P.fns [] J J J J ok.pm ok.nd (by have:=ok.fl;simp only[b9];lia);let n1:=Ob (mu:=i) ok;let T:PV:=R (dy P.es);let q:Mu:=A++[!(fV "Plan" [("told",T)])];let B:Mu:=S.map λ_=>J;have FC:q.length=i.length:=by simp[i,q]
 let hm:=Qe S q;rw[FC]at hm;let Q:_:=AE o0 o1 o2 (!(Zs (pX i.length S))) p4 z (!(Zs (mQ d))) D N p9 j;let Q2:_:=AE o0 o1 o2 (zS (pX i.length S)) p4 z (!(Zs (mQ d))) D N p9 j;let Q3:_:=AE o0 o1 o2 (zS (pX i.length S)) p4 z (zS (mQ d)) D N p9 j;show#[d,B,F,?_];have W:∀{g:SF}{Y1:Ev},g (env0 11 [ZA A.length,P.pv] i)=!(.nx Y1)->c7 11 g [ZA A.length,P.pv] i=!(Zp .non,Y1.mu):=λh=>PM h;show W (Y1:=Q3 (A++some (fV "Plan" (Qj P.es (A.length+1) (mQ d)))::B)) ?_;show aH (bu (aU O O O O n1) O O) ?_;show aH O ?_;show aH (dZ ?_ e1) ?_
 . rw[<-Dm,show i++fD []=i from d0 _];rfl
 show aH O ?_;show aH () ?_;show aH (Y':=Q (q++fD S)) ((G6 (C:="Plan") (f:="told") (l:=[]) O O O O ?_ ()).trans ?_) ?_
 . rw[cw];show RQ
 . show some (Fl.nx #[_,(A++[!(fV "Plan" [])]++fD S).set A.length _])=!(Fl.nx #[_,A++[!(fV "Plan" [("told",T)])]++fD S]);rw[cw,cw,List.singleton_append,RT];rfl
 show aH (Y':=Q2 (A++some (fV "Plan" [("told",T),("lists",LX i.length S)])::B)) ((G6 (C:="Plan") (f:="lists") (l:=[("told",T)]) (y:=Zp (LX i.length S)) (Y1:=Q2 (q++B)) ?_ O O O ?_ (by simp only[be,b9];lia)).trans ?_) ?_
 . unfold LC;show ((meltL (q++fD S) ((pz i.length S).map (·.2))).map _)=_;rw[hm];rfl
 . rw[cw];show RQ
 . show some (Fl.nx #[_,(A++[!(fV "Plan" [("told",T)])]++B).set A.length _])=!(Fl.nx #[_,A++some (fV "Plan" [("told",T),("lists",LX i.length S)])::B]);rw[cw,List.singleton_append,RT];rfl
 show(G6 (C:="Plan") (f:="heads") O O O O RQ (by simp only[be,b9];lia)).trans ?_;show some (Fl.nx #[_,(A++some (fV "Plan" [("told",T),("lists",LX i.length S)])::B).set A.length _])=!(Fl.nx #[_,A++some (fV "Plan" (Qj P.es (A.length+1) (mQ d)))::B]);rw[RT,<-wx];rfl
end
abbrev eF(l:List Str):List PV:=l.map PV.str
abbrev jq(k:Nat):Str:=(toString ((k:Nat):Int):Str)
def Mw:∀k<256,Xg (ZI ((k:Nat):Int))=!(jq k)/\("at " : Str).length+(jq k).length<=1000/\g9 [ZI ((k:Nat):Int)]=zT (jq k):=by
 have g:∀k<256,("at " : Str).length+(jq k).length<=1000/\((k:Nat):Int).natAbs.log2<1920:=by decide +kernel
 intro k hk;let(j,i):=g k hk;show#[?_,j,?_]
 . show (if ((k:Nat):Int).natAbs.log2<1920 then (if (jq k).length<=100000 then !(jq k) else J) else J)=_;rw[av i,av ()]
 . show (if ((k:Nat):Int).natAbs.log2<1920 then !(Lc.sh (ZH (jq k))) else J)=_;rw[av i]
section
structure iR(mu:Mu)(n:Nat)(es:List b_):Prop where
 ex:∃N hd,mu[n]?=!(!(fV "Plan" (Qj es N hd)))
def G7(h:es[k]?=!e):fY (dy es) ((k:Nat):Int)=!e.pv:=Ol ∅
def rZ(h:iR mu n es)(he:es[k]?=!e):dI [ZA n,ZI (k:Nat)] mu=!(Zp e.r.pv,mu):=by let(N,j,i):=h;let E:Ev:=#[[zS (ZA n),zI (k:Nat)],mu];show aN (cL (dW (Y2:=E) (l:=Zp e.pv) (dW (rY O O i O) O O O (λn h=>by cases h) ?_) O O O (λn h=>by cases h) O));show (fY (dy es) ((k:Nat):Int)).map _=_;rw[G7 he];rfl
open Classical in
def Do(h:iR mu n es)(he:es[k]?=!e):dU [ZA n,ZI (k:Nat),ZI i] mu=!(Zs (R (aV (pos (eW e.w k i) 0 es))),mu):=by
 let(N,z,j):=h;let E:Ev:=#[[zS (ZA n),zI (k:Nat),zI i],mu];have hk:aX BO E=!(Zp (ZB [ZH e.w,ZI (k:Nat),ZI i]),E):=by show cM (au (dW (l:=Zp e.pv) (dW (rY O O j O) O O O (λn h=>by cases h) ?_) O O O (λn h=>by cases h) O) O) O O;show (fY (dy es) ((k:Nat):Int)).map _=_;rw[G7 he];rfl
 let S:_:=n6 0 es [];have F:(jT S (eW e.w k i)).getD []=pos (eW e.w k i) 0 es:=Bs es 0 [];have g:∃l,yf (ju "Plan" "lists" (aj 0)) BQ E=!(l,E)/\l.pv=R (aV ((jT S (eW e.w k i)).getD [])):=by
  unfold yf;rw[rY (C:="Plan") (f:="lists") O O j O,bo];show ∃l,((aX BO E).bind _)=!(l,E)/\_;rw[hk,bo];show ∃l,(if HK.hk=HK.hk then !((match jO (((pz N S).map (·.1)).zip (S.map λx=>PV.lst (aV x.2))) (eW e.w k i) with |some p=>Lc.sh p |none=>Zs (R [])),E) else J)=!(l,E)/\_;rw[av O,JX];cases jT S (eW e.w k i) with
  |none=>show#[_,O,O]
  |some l=>show#[_,O,O]
 let(l,q,D):=g;show aN (cL (mV (ps:=[R (aV (pos (eW e.w k i) 0 es))]) (Y1:=E) (au q O) ∅ O))
def Rows.sps:Rows->List Bool
 |.nil=>[]
 |.cons r rs=>r.sp::rs.sps
theorem Rows.sps_any:∀rs:Rows,rs.sps.any id=rs.sp
 |.nil=>rfl
 |.cons r rs=>by simp[Rows.sps,Rows.sp,Rows.sps_any rs]
abbrev FE:EF:=aP yr BS
theorem Qk(h:iR mu n es):∀(rs:Rows)(s:Nat)(o:Option Lc)(acc:List PV),pU es w ab bl s rs->rs.ok->rs.dep<=38->acc.length+rs.cnt<=900->eE (aC 0) bQ FE (aV (rs.nums s)) #[[o,zS (ZA n)],mu] acc=!(acc++rs.sps.map PV.bl,mu)
 |.nil=>λs o acc _ _ _ _=>by simp[Rows.nums,Rows.sps,eE]
 |.cons r rs=>λs o acc hs ok q D=>by simp only[Rows.dep]at q;simp only[Rows.cnt]at D;let h1:=r.cnt_pos;let(F,z):=hs.cons;let E:Ev:=#[[zI (s:Nat),zS (ZA n)],mu];let(N,i,j):=h;have st:FE E=!(Zp (.bl r.sp),E):=aU (ps:=[r.pv]) (au (wJ O O j () O O (rZ #[N,i,j] F.get)) O) O O O (Iv ok.1 () ());show jb O st () ((Qk #[N,i,j] rs (s+r.cnt) _ (acc++[.bl r.sp]) z ok.2 () ∅).trans ?_);simp[Rows.sps]
def Oc{rs:Rows}(h:iR mu n es)(hs:pU es w ab bl s rs)(ok:rs.ok)(i:rs.dep<=38)(j:rs.cnt<=900):fL [ZA n,R (aV (rs.nums s))] mu=!(Zp (.bl rs.sp),mu):=by let E:Ev:=#[[zS (ZA n),zL (aV (rs.nums s))],mu];let c:=Qk h rs s J [] hs ok i ∅;show aN (Y:=E) (cL ?_);show mV (au ((gh () c).trans O) O) O ?_;show ((c6 (rs.sps.map PV.bl)).map _)=_;rw[show rs.sps.map PV.bl=rs.sps.map (λb=>PV.bl (id b)) from O,yw,iS,List.map_id];rw[Rows.sps_any]
def Rows.lnum:Rows->Nat->Nat
 |.nil,k=>k
 |.cons _ .nil,k=>k
 |.cons r (.cons r' rs),k=>(Rows.cons r' rs).lnum (k+r.cnt)
theorem Rows.nums_last:∀(r:ah)(rs:Rows)(s:Nat),∃a,(Rows.cons r rs).nums s=a++[(Rows.cons r rs).lnum s]
 |r,.nil,s=>#[[],O]
 |r,.cons i rs,s=>by let(a,e):=Rows.nums_last i rs (s+r.cnt);show#[s::a,?_];show s::(Rows.cons i rs).nums (s+r.cnt)=_;rw[e];rfl
abbrev BE(n k:Nat)(p:PV)(acc:List PV)(o4:Option Lc)(mu:Mu):Ev:=#[[zS (ZA n),zI (k:Nat),zS p,zO acc,o4],mu]
abbrev FF(f:Nat):SF:=cQ B0
 (fQ 3 (aP (dz f) BU))
 cu
def Ql{rs:Rows}(h:iR mu n es)(hs:pU es w ab bl s rs)(ok:rs.ok)(D:rs.dep<=38)(hc:rs.cnt<=900)(hz:acc.length+(rs.lbt s).length<=1000)
 (Q:∀r i,rs=.cons r i->dz f [ZA n,ZI (rs.lnum s:Nat)] mu=!(Zs (R (eF (rs.lbt s))),mu)):
 FF f (BE n k p acc (zL (aV (rs.nums s))) mu)=!(.nx (BE n k p (acc++eF (if rs.sp then rs.lbt s else [])) (zL (aV (rs.nums s))) mu)):=by
 let E:_:=BE n k p acc (zL (aV (rs.nums s))) mu;let(N,q,z):=h;have t:tT S4 xN E=!(rs.sp,E):=nO (wJ (Y2:=E) O O z () O O (Oc #[N,q,z] hs ok D hc)) O;cases j:rs.sp with
 |false=>
  rw[j]at t;show(nM t).trans ?_;simp[eF];rfl
 |true=>
  rw[j]at t;show(nJ t).trans ?_;cases rs with
  |nil=>cases j
  |cons r i=>
   let F:=Q r i O;let(a,ea):=Rows.nums_last r i s;have W:aJ (aj 4) (uy (af 1)) E=!(Zp (ZI ((Rows.cons r i).lnum s:Nat)),E):=by show dW O O O O (λn h=>by cases h) ?_;show (fY (aV ((Rows.cons r i).nums s)) (-1)).map _=_;rw[ea,aV,cy,List.map_singleton,CG];rfl
   show(jN O (aU (au O (au W O)) O O O F) O O ∅ O).trans ?_;rfl
end
section
def wB{o4:Option Lc}:aJ (aj 2) (af 0) (BE n k (ZB (ZH w::ps)) acc o4 mu)=!(Zp (ZH w),BE n k (ZB (ZH w::ps)) acc o4 mu):=
 dW O O O O (λn h=>by cases h) (by show (fY (PV.str w::ps) 0).map _=_;rw[kH];rfl)
abbrev VI(f:Nat):SF:=aF (cQ oT
 BY
 cu)
 (aF (cQ ve
 (fH B1 (aC 4)
 (FF f))
 cu)
 (iG 3))
def JZ{o4:Option Lc}(h:iR mu n es)(hs:pW es w ab bl k r)(hk:k<256)(j:VI f (BE n k r.pv [ZH (j3 k)] J mu)=!(.rt (Zs (R L)) #[[zS (ZA n),zI (k:Nat),zS r.pv,J,o4],mu])):
 dz (f+1) [ZA n,ZI (k:Nat)] mu=!(Zs (R L),mu):=by
 let(z,Q,F):=Mw k hk;let i:=rZ h hs.get;let(N,D,q):=h;show aN (Y:=#[[zS (ZA n),zI (k:Nat),zS r.pv,J,o4],mu]) ?_;show aH (bu (wJ O O q () O O i) O O) ?_;show aH (bu (lM (au (Fd O z ()) O) O O) O O) j
mutual
theorem Vc(h:iR mu n es):∀(r:ah)(f k:Nat)(w:Str)(ab:PV)(bl:Int),pW es w ab bl k r->r.ok->r.dep<=f->r.dep<=37->k+r.cnt<=256->r.bl<=900->dz f [ZA n,ZI (k:Nat)] mu=!(Zs (R (eF (r.bt k))),mu)
 |.leaf x ps=>λf k w ab bl hs ok D j z W=>by simp only[ah.cnt]at z;obtain⟨m,rfl⟩:∃m,f=m+1:=#[f-1,by simp only[ah.dep]at D;lia];let((h1,h2,h3),_):=ok;show JZ h hs () ((bF (aY wB) h3).trans ((bF (aY wB) h1).trans O))
 |.call x m as=>λf k w ab bl hs ok D j z W=>by
  simp only[ah.cnt]at z;obtain⟨f,rfl⟩:∃m,f=m+1:=#[f-1,by simp only[ah.dep]at D;lia];let(_,hn,_):=ok;let P:_:=(ah.call x m as).pv;show JZ h hs () ((rK (Y2:=BE n k P [ZH (j3 k),ZH ("leave " ++ m)] J mu) (aY wB) () ?_).trans ((bF (aY wB) ()).trans O));show rQ (l:=Zp (ZH ("leave " ++ m))) (Y1:=BE n k P [ZH (j3 k)] J mu) O ?_ O O (by simp only[be,b9];lia) O;show dJ O O O O ?_;show (if ("leave " : Str).length+m.length<=100000 then _ else _)=_;have h6:("leave " : Str).length=6:=by decide +kernel
  rw[av ()]
 |.wh x b=>λf k w ab bl hs ok D j z W=>by simp only[ah.cnt]at z;obtain⟨m,rfl⟩:∃m,f=m+1:=#[f-1,by simp only[ah.dep]at D;lia];show JZ h hs () ((bF (aY wB) ()).trans ((bF (aY wB) ()).trans O))
 |.iff x b c=>λf k w ab bl hs ok D j z W=>by
  simp only[ah.cnt]at z;simp only[ah.dep]at D j;simp only[ah.bl]at W;obtain⟨m,rfl⟩:∃m,f=m+1:=#[f-1,()];let(s1,s2):=hs.iff;have p0:pos (eW w k 0) 0 es=b.nums (k+1):=hs.pos 0;have p1:pos (eW w k 1) 0 es=c.nums (k+1+b.cnt):=hs.pos 1;let b0:=Do (i:=0) h hs.get;let b1:=Do (i:=1) h hs.get;have q0:dU [ZA n,ZI (k:Nat),ZI 0] mu=!(Zs (R (aV (b.nums (k+1)))),mu):=by rw[b0,p0]
  have q1:dU [ZA n,ZI (k:Nat),ZI 1] mu=!(Zs (R (aV (c.nums (k+1+b.cnt)))),mu):=by rw[b1,p1]
  let P:_:=(ah.iff x b c).pv;let F:List PV:=[ZH (j3 k)];let Q:_:=F++eF (if b.sp then b.lbt (k+1) else []);let A2:_:=Q++eF (if c.sp then c.lbt (k+1+b.cnt) else []);let l1:=Rows.lbt_len b (k+1);let l2:=Rows.lbt_len c (k+1+b.cnt);have wx:Q.length<=1+b.bl:=by simp only[Q,F,bS,bq,be,b9];split<;>(try simp only[b9])<;>lia
  let e1:=Ql (k:=k) (p:=P) (acc:=F) h s1 ok.2.1 () () (by simp only[F,be,b9];lia) λr rs e=>G8 h b m (k+1) w (ZI (k:Nat)) 0 #[r,rs,e] s1 ok.2.1 () () () ();let e2:=Ql (k:=k) (p:=P) (acc:=Q) h s2 ok.2.2 () () () λr rs e=>G8 h c m (k+1+b.cnt) w (ZI (k:Nat)) 1 #[r,rs,e] s2 ok.2.2 () () () ();let(N,VO,hm):=h;let E:_:=BE n k P F J mu;have me:∀(i:Int)(l:List PV),dU [ZA n,ZI (k:Nat),ZI i] mu=!(Zs (R l),mu)->cV "Plan" "block" dU (aj 0) (aa (aj 1) (aa (af i) ao)) E=!(Zs (R l),E):=λi l q=>wJ (n:=n) (x:=Zp (ZA n)) (Y1:=E) (Y2:=E) (ls:=[Zp (ZI (k:Nat)),Zp (ZI i)]) O O hm (by show (["told","lists","heads"]:List Str).contains "block"=M;decide +kernel) O O q;show JZ (o4:=zL (aV (c.nums (k+1+b.cnt)))) #[N,VO,hm] hs () ((bF (aY wB) ()).trans ((rK (Y2:=BE n k P A2 (zL (aV (c.nums (k+1+b.cnt)))) mu) (aY wB) () ?_).trans ?_))
  . show dZ (xs:=[R (aV (b.nums (k+1))),R (aV (c.nums (k+1+b.cnt)))]) (Y1:=E) (dM (l:=Zp (ZB [R (aV (b.nums (k+1))),R (aV (c.nums (k+1+b.cnt)))])) (cM (ls:=[Zs (R (aV (b.nums (k+1)))),Zs (R (aV (c.nums (k+1+b.cnt))))]) (au (me 0 _ q0) (au (me 1 _ q1) O)) O O) O) ?_;show RN (Y1:=BE n k P F (zL (aV (b.nums (k+1)))) mu) (Y3:=BE n k P Q (zL (aV (c.nums (k+1+b.cnt)))) mu) O e1 O e2
  . have eA:A2=eF ((ah.iff x b c).bt k):=by simp only[A2,Q,F,ah.bt,eF,cy,dE,nX]
    rw[<-eA];rfl
theorem G8{mu:Mu}{n:Nat}{es:List b_}(h:iR mu n es):∀(rs:Rows)(f s:Nat)(w:Str)(ab:PV)(bl:Int),(∃r z,rs=.cons r z)->pU es w ab bl s rs->rs.ok->rs.dep<=f+1->rs.dep<=38->s+rs.cnt<=256->rs.bl<=900->dz f [ZA n,ZI (rs.lnum s:Nat)] mu=!(Zs (R (eF (rs.lbt s))),mu)
 |.nil=>λf s w ab bl z6 _ _ _ _ _ _=>by let(_,_,e):=z6;cases e
 |.cons r .nil=>λf s w ab bl _ hs ok D j hc F=>by simp only[Rows.dep,Rows.cnt,Rows.bl]at D j hc F;show Vc h r f s w ab bl hs.cons.1 ok.1 () () () ()
 |.cons r (.cons i rs)=>λf s w ab bl _ hs ok D j hc F=>by
  have N:(Rows.cons i rs).dep<=f+1:=eI (Nat.le_max_right _ _) D;have q:(Rows.cons i rs).dep<=38:=eI (Nat.le_max_right _ _) j;have W:(Rows.cons i rs).bl<=900:=eI (Nat.le_max_right _ _) F;have Q:s+r.cnt+(Rows.cons i rs).cnt<=256:=by have:(Rows.cons r (.cons i rs)).cnt=r.cnt+(Rows.cons i rs).cnt:=O;lia
  show G8 h (.cons i rs) f (s+r.cnt) w ab bl #[i,rs,O] hs.cons.2 ok.2 N q Q W
end
end
def mY(w:Str):Bool:=("if"== w)||(("while"== w)||false)
def Qm(h:gp w):mY w=M:=by unfold mY;rw[Fy h.1,Fy h.2.1];rfl
section
def f9:Nat->List ah->List PV
 |_,[]=>[]
 |i,r::rs=>ZB [ZI (i:Nat),r.pv]::f9 (i+1) rs
theorem wK:∀(i:Nat)(a b:List ah),f9 i (a++b)=f9 i a++f9 (i+a.length) b
 |i,[],b=>rfl
 |i,r::a,b=>by show _::f9 (i+1) (a++b)=_::(f9 (i+1) a++_);rw[wK (i+1) a b,show i+(r::a).length=i+1+a.length by simp only[be];omega]
theorem wL:∀(i:Nat)(a:List ah),(f9 i a).length=a.length
 |i,[]=>rfl
 |i,r::a=>by simp[f9,wL]
abbrev MA(mu:Mu)(t:Nat)(acc:List PV):Mu:=mu.set t (!(R acc))
def Fz(h:t<mu.length):(MA mu t acc)[t]?=!(!(R acc)):=ke h
def VQ:(MA mu t acc).set t (!(R acc'))=MA mu t acc':=hZ ..
abbrev GE(X:PV)(f0 t k:Nat)(o4 o5:Option Lc)(mu:Mu):Ev:=#[[zS X,zI (f0:Nat),zS (ZA t),zI (k:Nat),o4,o5],mu]
abbrev Xo:TF:=tT EQ bh
def wG{o5:Option Lc}:aJ (aj 4) (af 0) (GE X f0 t k (zS (ZB (ZH w::ps))) o5 mu)=!(Zp (ZH w),GE X f0 t k (zS (ZB (ZH w::ps))) o5 mu):=
 dW O O O O (λn h=>by cases h) (by show (fY (PV.str w::ps) 0).map _=_;rw[kH];rfl)
def YG{o5:Option Lc}:Xo (GE X f0 t k (zS (ZB (ZH w::ps))) o5 mu)=!(mY w,GE X f0 t k (zS (ZB (ZH w::ps))) o5 mu):=
 nO (bD wG O O) O
abbrev wE(n:Nat):SF:=aM 3 (aP (fu n) EN)
abbrev YH(n:Nat):SF:=aF EO
 (aF (aM 3 (az bj (aj 3) (af 1)))
 (cQ Xo
 (fH vj (aC 5)
 (wE n))
 cu))
def FJ{r:ah}{o5:Option Lc}(j:t<mu.length)(q:acc.length<1000)(i:Xo (GE X f0 t (k+1) (zS r.pv) o5 (MA mu t (acc++[ZB [ZI (k:Nat),r.pv]])))=!(b,GE X f0 t (k+1) (zS r.pv) o5 (MA mu t (acc++[ZB [ZI (k:Nat),r.pv]]))))
 (h:(if b then fH vj (aC 5) (wE n) else cu) (GE X f0 t (k+1) (zS r.pv) o5 (MA mu t (acc++[ZB [ZI (k:Nat),r.pv]])))=ZN):
 YH n (GE X f0 t k (zS r.pv) o5 (MA mu t acc))=ZN:=by
 show aH (wD O O (Fz j) O O (Fz j) () VQ) ?_;cases b with
 |true=>show(nJ i).trans h
 |false=>show(nM i).trans h
def Mx{o4:Option Lc}(h:fu n [p,ZI (k:Nat),ZA t] mu=!(Zp (ZI (k':Nat)),fw)):wE n (GE X f0 t k o4 (zS p) mu)=!(.nx (GE X f0 t k' o4 (zS p) fw)):=
 bu (aU O O O O h) O O
def J0{rs:Rows}(h:∃o4 o5,fG (aC 4) (YH n) rs.pvs (GE (R rs.pvs) k t k J J (MA mu t acc))=!(.nx (GE (R rs.pvs) k t (k+rs.cnt) o4 o5 (MA mu t (acc++f9 k rs.rws))))):fu (n+1) [R rs.pvs,ZI (k:Nat),ZA t] (MA mu t acc)=!(Zp (ZI ((k+rs.cnt:Nat):Int)),MA mu t (acc++f9 k rs.rws)):=by let(o4,o5,h):=h;show aN (Y:=#[[zL rs.pvs,zI (k:Nat),zS (ZA t),J,o4,o5],MA mu t (acc++f9 k rs.rws)]) ?_;show aH O (aH () O)
mutual
theorem VS(q:t<mu.length):∀(r:ah)(n:Nat)(X:PV)(j k:Nat)(acc:List PV)(o5:Option Lc),r.ok->r.dep<=n->acc.length+r.cnt<=1000->∃p5,YH n (GE X j t k (zS r.pv) o5 (MA mu t acc))=!(.nx (GE X j t (k+r.cnt) (zS r.pv) p5 (MA mu t (acc++f9 k r.rws))))
 |.leaf x ps=>λn X j k acc o5 ok D z=>by show#[o5,FJ (b:=M) q () (by rw[<-Qm ok.1];show YG) O]
 |.call b m as=>λn X j k acc o5 ok D z=>by simp only[ah.cnt]at z;show#[o5,FJ (b:=M) q () (by rw[show M=mY "call" by decide +kernel];show YG) O]
 |.wh e b=>λn X j k acc o5 ok D z=>by
  simp only[ah.cnt]at z;simp only[ah.dep]at D;let hb:=Rows.dep_pos b;obtain⟨m,rfl⟩:∃m,n=m+1:=#[n-1,()];let P:_:=(ah.wh e b).pv;let i:_:=acc++[ZB [ZI (k:Nat),P]];have hA:i.length=acc.length+1:=by simp[i]
  let W:=J0 (wM q b m (R b.pvs) (k+1) (k+1) i J J ok.2 () ());show#[zL b.pvs,FJ (b:=G) q () (by rw[show G=mY "while" by decide +kernel];show YG) ?_];show dZ (dM O O) ((RM (Y1:=GE X j t (k+1) (zS P) (zL b.pvs) (MA mu t i)) O (Mx W)).trans ?_);have N:k+1+b.cnt=k+(ah.wh e b).cnt:=by simp only[ah.cnt];lia
  have Q:i++f9 (k+1) b.rws=acc++f9 k (ah.wh e b).rws:=by simp[i,ah.rws,f9,P]
  rw[N,Q]
 |.iff e b c=>λn X j k acc o5 ok D z=>by
  simp only[ah.cnt]at z;simp only[ah.dep]at D;let hb:=Rows.dep_pos b;obtain⟨m,rfl⟩:∃m,n=m+1:=#[n-1,()];let P:_:=(ah.iff e b c).pv;let i:_:=acc++[ZB [ZI (k:Nat),P]];have hA:i.length=acc.length+1:=by simp[i]
  let W:=J0 (wM q b m (R b.pvs) (k+1) (k+1) i J J ok.2.1 () ());let F:_:=i++f9 (k+1) b.rws;have FC:F.length=acc.length+1+b.cnt:=by show (i++f9 (k+1) b.rws).length=_;rw[bS,wL,Rows.rws_len,hA]
  let wq:=J0 (wM q c m (R c.pvs) (k+1+b.cnt) (k+1+b.cnt) F J J ok.2.2 () ());show#[zL c.pvs,FJ (b:=G) q () (by rw[show G=mY "if" by decide +kernel];show YG) ?_];show dZ (dM O O) ((RN (Y3:=GE X j t (k+1+b.cnt) (zS P) (zL c.pvs) (MA mu t F)) O (Mx W) O (Mx wq)).trans ?_);have N:k+1+b.cnt+c.cnt=k+(ah.iff e b c).cnt:=by simp only[ah.cnt];lia
  have Q:F++f9 (k+1+b.cnt) c.rws=acc++f9 k (ah.iff e b c).rws:=by simp[F,i,ah.rws,f9,P,wK,Rows.rws_len]
  rw[N,Q]
theorem wM(F:t<mu.length):∀(rs:Rows)(n:Nat)(X:PV)(i k:Nat)(acc:List PV)(o4 o5:Option Lc),rs.ok->rs.dep<=n+1->acc.length+rs.cnt<=1000->∃q j,fG (aC 4) (YH n) rs.pvs (GE X i t k o4 o5 (MA mu t acc))=!(.nx (GE X i t (k+rs.cnt) q j (MA mu t (acc++f9 k rs.rws))))
 |.nil=>λn X i k acc o4 o5 ok z D=>#[o4,o5,by simp[Rows.pvs,fG,Rows.rws,f9,Rows.cnt]]
 |.cons r rs=>λn X i k acc o4 o5 ok z D=>by
  simp only[Rows.dep]at z;simp only[Rows.cnt]at D;let(W,Q):=VS F r n X i k acc o5 ok.1 () ();let(q,j,e2):=wM F rs n X i (k+r.cnt) (acc++f9 k r.rws) (zS r.pv) W ok.2 () (by rw[bS,wL,ah.rws_len];lia);show#[q,j,gJ O Q (e2.trans ?_)];have e3:k+r.cnt+rs.cnt=k+(Rows.cons r rs).cnt:=by simp only[Rows.cnt];lia
  have N:acc++f9 k r.rws++f9 (k+r.cnt) rs.rws=acc++f9 k (Rows.cons r rs).rws:=by simp[Rows.rws,wK,ah.rws_len]
  rw[e3,N]
end
def Vd{rs:Rows}(j:t<mu.length)(ok:rs.ok)(q:rs.dep<=40)(i:acc.length+rs.cnt<=1000):fu 40 [R rs.pvs,ZI (k:Nat),ZA t] (MA mu t acc)=!(Zp (ZI ((k+rs.cnt:Nat):Int)),MA mu t (acc++f9 k rs.rws)):=
 J0 (wM j rs 39 _ k k acc J J ok () i)
mutual
theorem ah.es_rws:∀(r:ah)(w:Str)(ab:PV)(bl:Int)(k:Nat),(r.es w ab bl k).map b_.r=r.rws
 |.leaf _ _,w,ab,bl,k=>rfl
 |.call _ _ _,w,ab,bl,k=>rfl
 |.wh e b,w,ab,bl,k=>by simp[ah.es,ah.rws,Rows.es_rws b]
 |.iff e b c,w,ab,bl,k=>by simp[ah.es,ah.rws,Rows.es_rws b,Rows.es_rws c]
theorem Rows.es_rws:∀(rs:Rows)(w:Str)(ab:PV)(bl:Int)(k:Nat),(rs.es w ab bl k).map b_.r=rs.rws
 |.nil,w,ab,bl,k=>rfl
 |.cons r rs,w,ab,bl,k=>by simp[Rows.es,Rows.rws,ah.es_rws r,Rows.es_rws rs]
end
def g_(es:List b_)(k:Nat)(r:ah):Prop:=∃w ab bl,pW es w ab bl k r
mutual
theorem ah.spots:∀(r:ah){es:List b_}{w:Str}{ab:PV}{bl:Int}{k:Nat},pW es w ab bl k r->∀(i:Nat) x,r.rws[i]?=!x->g_ es (k+i) x
 |.leaf a ps,es,w,ab,bl,k=>λh i x j=>by
  match i,j with
  |0,j=>cases j;show#[w,ab,bl,h]
 |.call a n z,es,w,ab,bl,k=>λh i x j=>by
  match i,j with
  |0,j=>cases j;show#[w,ab,bl,h]
 |.wh e b,es,w,ab,bl,k=>λh i x j=>by
  match i,j with
  |0,j=>cases j;show#[w,ab,bl,h]
  |i+1,j=>
   have:=Rows.spots b h.wh i x ();rw[show k+(i+1)=k+1+i by omega];show this
 |.iff e b c,es,w,ab,bl,k=>λh i x j=>by
  match i,j with
  |0,j=>cases j;show#[w,ab,bl,h]
  |i+1,j=>
   have q:(b.rws++c.rws)[i]?=!x:=by simpa [ah.rws] using j
   obtain hi|hi:=Nat.lt_or_ge i b.rws.length
   . rw[hE hi]at q;have:=Rows.spots b h.iff.1 i x q;rw[show k+(i+1)=k+1+i by omega];show this
   . rw[fy hi]at q;have:=Rows.spots c h.iff.2 _ x q;rw[Rows.rws_len]at this hi;rw[show k+(i+1)=k+1+b.cnt+(i-b.cnt) by omega];show this
theorem Rows.spots:∀(rs:Rows){es:List b_}{w:Str}{ab:PV}{bl:Int}{k:Nat},pU es w ab bl k rs->∀(i:Nat) x,rs.rws[i]?=!x->g_ es (k+i) x
 |.nil,es,w,ab,bl,k=>λh i x q=>by cases q
 |.cons r rs,es,w,ab,bl,k=>λh i x q=>by
  let(h1,h2):=h.cons;have j:(r.rws++rs.rws)[i]?=!x:=q;obtain hi|hi:=Nat.lt_or_ge i r.rws.length
  . rw[hE hi]at j;show ah.spots r h1 i x j
  . rw[fy hi]at j;have:=Rows.spots rs h2 _ x j;rw[ah.rws_len]at this hi;rw[show k+i=k+r.cnt+(i-r.cnt) by omega];show this
end
def lq:List Fn->List ah
 |[]=>[]
 |f::fs=>f.rows.rws++lq fs
theorem uP:∀fs:List Fn,(lq fs).length=dY fs
 |[]=>rfl
 |f::fs=>by simp[lq,dY,Rows.rws_len,uP fs]
def Pg.rws(P:Pg):List ah:=lq P.fns++P.rows.rws
theorem My:∀(fs:List Fn)(k:Nat)(D z:List b_),es=D++(qi fs k++z)->D.length=k->(∀e∈D++z,(e.ab=.non\/∃j:Nat,e.ab=ZI j)/\∀m:Nat,k<=m->m<k+dY fs->e.ab≠ZI m)->∀(i:Nat) x,(lq fs)[i]?=!x->g_ es (k+i) x
 |[]=>λk D z _ _ _ i x hx=>by cases hx
 |f::fs=>λk D z e hl N i x hx=>by
  simp only[dY]at N;have VT:∀(fs:List Fn)(k:Nat),∀e∈qi fs k,(e.ab=.non\/∃j:Nat,e.ab=ZI j)/\∀m:Nat,m<k->e.ab≠ZI m:=by
   intro fs;induction fs with
   |nil=>intro k e he;cases he
   |cons f fs ih=>
    intro k e he;obtain he|he:=cx.mp he
    . let g:=Rows.abs f.rows f.name .non 0 k e he;show#[g.num (k:=0) (Zl O),λm hm=>g.ne ∅ (Zl hm)]
    . let(Q,F):=ih _ e he;show#[Q,λm hm=>F m ()]
  have W:(f.rows.rws++lq fs)[i]?=!x:=hx;obtain hi|hi:=Nat.lt_or_ge i f.rows.rws.length
  . rw[hE hi]at W;show Rows.spots f.rows (w:=f.name) (bl:=0) #[#[D,qi fs (k+f.rows.cnt)++z,by rw[e];simp[qi],hl,λy hy=>?_],Zl O] i x W;obtain q|q:=cx.mp hy
    . let(Q,F):=N y (gu _ q);show#[Q,λm h1 h2=>F m h1 ()]
    . obtain q|q:=cx.mp q
      . let(Q,F):=VT fs _ y q;show#[Q,λm h1 h2=>F m h2]
      . let(Q,F):=N y (fB _ q);show#[Q,λm h1 h2=>F m h1 ()]
  . rw[fy hi]at W;have:=My (es:=es) fs (k+f.rows.cnt) (D++f.rows.es f.name .non 0 k) z (by rw[e];simp[qi]) (by rw[bS,Rows.es_len,hl]) (λy hy=>by
     obtain q|q:=cx.mp hy
     . obtain q|q:=cx.mp q
       . let(Q,F):=N y (gu _ q);show#[Q,λm h1 h2=>F m () ()]
       . let g:=Rows.abs f.rows f.name .non 0 k y q;show#[g.num (k:=0) (Zl O),λm h1 h2=>g.ne ∅ (YY h1)]
     . let(Q,F):=N y (fB _ q);show#[Q,λm h1 h2=>F m () ()]) _ x W
    rw[Rows.rws_len]at this hi;rw[show k+i=k+f.rows.cnt+(i-f.rows.cnt) by omega];show this
def Xp(P:Pg)(i:Nat)(x:ah)(hx:P.rws[i]?=!x):g_ P.es i x:=by
 have N:∀e∈P.rows.es "main" .non 0 (dY P.fns),(e.ab=.non\/∃j:Nat,e.ab=ZI j)/\∀m:Nat,m<dY P.fns->e.ab≠ZI m:=λe z=>by let g:=Rows.abs P.rows "main" .non 0 _ e z;show#[g.num (k:=0) (Zl O),λm W=>g.ne ∅ (Zl W)]
 have Q:∀(fs:List Fn)(k:Nat),∀e∈qi fs k,(e.ab=.non\/∃j:Nat,e.ab=ZI j)/\∀m:Nat,k+dY fs<=m->e.ab≠ZI m:=by
  intro fs;induction fs with
  |nil=>intro k e z;cases z
  |cons f fs ih=>
   intro k e z;simp only[dY];obtain z|z:=cx.mp z
   . let g:=Rows.abs f.rows f.name .non 0 k e z;show#[g.num (k:=0) (Zl O),λm W=>g.ne ∅ (YY ())]
   . let(F,D):=ih _ e z;show#[F,λm W=>D m ()]
 have q:(lq P.fns++P.rows.rws)[i]?=!x:=hx;obtain hi|hi:=Nat.lt_or_ge i (lq P.fns).length
 . rw[hE hi]at q;have:=My P.fns 0 [] (P.rows.es "main" .non 0 (dY P.fns)) O O (λy hy=>by let(F,D):=N y ();show#[F,λm _ h2=>D m ()]) i x q
   rwa [ij]at this
 . rw[fy hi]at q;have:=Rows.spots P.rows (es:=P.es) (w:="main") (bl:=0) #[#[qi P.fns 0,[],by simp[Pg.es],Bq _ _,λy hy=>by let(F,D):=Q P.fns 0 y ∅;show#[F,λm h1 _=>D m ()]],Zl O] _ x q
   rw[uP]at this hi;rw[show i=dY P.fns+(i-dY P.fns) by omega];show this
end
noncomputable abbrev SS (xs:List Str):List PV:=xs.map ZH
def VU{ns:List Int}{i:Int}(z:0<=i)(h1:i<ns.length):∃c∈ns,qe (R (ns.map ZI)) (ZI i)=zI c:=by let(x,e,j):=uz (l:=ns.map PV.int) z ∅;rw[c8]at j;let(c,q,rfl):=cr j;show#[c,eR q,by show (fY (ns.map PV.int) i).map _=_;rw[e];rfl]
def VW(z:0<=i)(h1:i<ns.length):∃c∈ns,qe (R (SS ns)) (ZI i)=zT c:=by let(x,e,j):=uz (l:=SS ns) z ∅;rw[c8]at j;let(c,q,rfl):=cr j;show#[c,eR q,by show (fY (SS ns) i).map _=_;rw[e];rfl]
def cell_eq{ns:List Int}(i:0<=k):∃c,0<=c/\∀mu,mF [R (ns.map ZI),ZI k] mu=!(Zp (ZI c),mu):=by
 have t:∀mu,tT C1 bh (env0 2 [R (ns.map ZI),ZI k] mu)=!(decide (k<(ns.map PV.int).length),#[[zL (ns.map ZI),zI k],mu]):=λmu=>O;by_cases h:k<(ns.map PV.int).length
 . let(c,_,e):=VU i (by rw[bq]at h;show h);show#[c%1000000007,ic _ (),λmu=>aN (Y:=#[[zL (ns.map ZI),zI k],mu]) (GC ((nJ ((t mu).trans (by rw[js h]))).trans (cL (dJ (dW (l:=Zp (R (ns.map ZI))) (m:=Zp (ZI k)) O O O O (λn h=>by cases h) e) O O O ()))))]
 . show#[0,by decide,λmu=>aN (Y:=#[[zL (ns.map ZI),zI k],mu]) (aH ((nM ((t mu).trans ∅)).trans O) O)]
abbrev j_:Str:="abcdefghijklmnopqrstuvwxyz"
noncomputable def wN (i:Int):Nat:=97+(i%26).toNat
abbrev one(c:Nat):Str:=#[(List.toArray [c])]
def Mz(i:Int):qe (ZH j_) (ZI (i%26))=zT (one (wN i)):=by
 unfold wN;let q:=ic i (b:=26) ();let h1:=iN i (b:=26) ();generalize i%26=r at q h1;let(n,rfl):=Int.eq_ofNat_of_zero_le q;have h2:n<26:=()
 have:∀n:Nat,n<26->(match qe (ZH j_) (ZI (n:Int)) with |some (Zp (ZH x))=>x.cps.toList==[97+n] |_=>M)=G:=by decide +kernel
 let j:=this n h2;split at j
 . rename_i x e;rw[e];have D:x.cps.toList=[97+n]:=by simpa using j
   have F:x=one (97+n):=by
    cases x with |mk z=>
    congr 1;show Array.toList_inj.mp D
   rw[F];rfl
 . cases j
def RV:∀cs:List Nat,Txt.join "" (cs.map one)=#[cs.toArray]:=by
 intro cs;unfold Txt.join;rw[StrLaws.glued_eq_join];induction cs with
 |nil=>rfl
 |cons c cs i=>
  cases cs with
  |nil=>rfl
  |cons d cs=>
   show (one c ++ "" ++ Str.join "" ((d::cs).map one):Str)=_;rw[i];show Str.mk (((List.toArray [c])++(List.toArray []))++(d::cs).toArray)=_;simp
theorem strs_map:∀xs:List Str,d6 (SS xs)=!xs
 |[]=>rfl
 |x::xs=>by show (d6 (SS xs)).map _=_;rw[strs_map xs];rfl
theorem MF:∀cs:List Nat,((cs.map one).map (·.length)).sum=cs.length
 |[]=>rfl
 |c::cs=>by rw[dE,dE,List.sum_cons,MF cs,be];show 1+_=_;lia
def Qn{cs:List Nat}(h:fa Y=!(m,Y1))(i:m.pv=R (SS (cs.map one)))(j:cs.length<=100):qY (bg "") (aa fa ao) Y=!(Zp (ZH #[cs.toArray]),Y1):=by rw[<-RV];show W4 O (au h O) O i (strs_map _) ?_;rw[MF,bq,show ("" : Str).length=0 from O];lia
def gL(kC:0<=k)(hk:k<100)(he:∀i:Nat,(i:Int)<k->elt #[[zI (0+i),zT j_,zI c],mu]=!(Zp (ZH (one (g i))),#[[zI (0+i),zT j_,zI c],mu])):
 eE (aC 0) bQ elt (ji 0 k.toNat) #[[J,zT j_,zI c],mu] []=!(SS (((List.range k.toNat).map g).map one),mu):=by
 have:=Ia (b:=aC 0) (λY=>∃o,Y=#[[o,zT j_,zI c],mu]) (λY ⟨o,e⟩=>by rw[e]) (λp=>match p with |ZI i=>ZH (one (g i.toNat)) |_=>.non)
  (xs:=ji 0 k.toNat) #[J,O] (by rw[v5];lia) (by
    intro x j Y q0;let(o,rfl):=q0;let(i,hi,rfl):=Pw j;show#[_,O,_,_,he i (),?_,_,O];show PV.str _=PV.str (one (g (0+(i:Int)).toNat));rw[Int.zero_add,qo]) (by
    rintro x j Y Y1 ⟨o,rfl⟩ e;cases e;show#[_,O])
 rw[this];congr 2;unfold ji SS;rw[fS,fS,fS];show qk λi _=>?_;show PV.str (one (g (0+(i:Int)).toNat))=PV.str (one (g i));rw[Int.zero_add,qo]
def VX:∃m:Int,0<m/\m<=8/\qe (R [ZI 1,ZI 2,ZI 3,ZI 5,ZI 6,ZI 7,ZI 8]) (ZI (c%7))=zI m:=by
 let i:=ic c (b:=7) ();let h1:=iN c (b:=7) ();generalize c%7=r at i h1;obtain rfl|rfl|rfl|rfl|rfl|rfl|rfl:=(by omega:r=0\/r=1\/r=2\/r=3\/r=4\/r=5\/r=6)
 . show#[1,by decide,by decide,O]
 . show#[2,by decide,by decide,O]
 . show#[3,by decide,by decide,O]
 . show#[5,by decide,by decide,O]
 . show#[6,by decide,by decide,O]
 . show#[7,by decide,by decide,O]
 . show#[8,by decide,by decide,O]
def Ve:SS xs++[ZH x]=SS (xs++[x]):=by show _=List.map PV.str (xs++[x]);rw[cy];rfl
abbrev jC(c n:Int)(l3 o4 o5 o6 o7 o8:Option Lc)(mu:Mu):Ev:=#[[zI c,zI n,zT j_,l3,o4,o5,o6,o7,o8],mu]
def cO(d:Int):List Nat:=(List.range 10).map λi:Nat=>wN (d/2+3*(0+i))
def IK(d:Int)(k:Nat):Str:=lF #[(cO d).toArray] (!((0+k:Int)%5)) (!((0+k:Int)%5+1+(0+k:Int)/5))
def kK(l:List Nat)(d:Int)(a:Nat)(k:Nat):Str:=#[(l.set a (wN (d/112+(0+k)))).toArray]
def VY{l:List Nat}:(SS (l.map one)).set a (ZH (one c))=SS ((l.set a c).map one):=by show (List.map PV.str (l.map one)).set a _=List.map PV.str (List.map one (l.set a c));rw[List.map_set,List.map_set]
def VZ(k:Nat):(IK d k).length<=100:=by
 have h:(cO d).length=10:=by unfold cO;simp
 unfold IK lF Str.length;simp only[eP,ii,k6];lia
def V_(N:6<=i)(F:i<j)(q:j<10):IK d i≠IK d j:=by
 have g:∀k:Nat,6<=k->k<10->(IK d k).cps[0]?=!(wN (d/2+3*((k:Int)-5))):=λk h1 h2=>by rcases (by omega:k=6\/k=7\/k=8\/k=9) with rfl|rfl|rfl|rfl<;>rfl
 intro e;let z:=g i N ();rw[e,g j () q]at z;let D:=d_ z;unfold wN at D;lia
def Wp(z:a<l.length)(F:i<j)(N:j<26):kK l d a i≠kK l d a j:=by have g:∀k:Nat,(kK l d a k).cps.toList[a]?=!(wN (d/112+(0+k))):=λk=>ke z;intro e;let q:=g i;rw[e,g j]at q;let D:=d_ q;unfold wN at D;lia
def Xq(FH:10<=n)(hn:n<=26):∃xs:List Str,xs.length=n.toNat/\(∀x∈xs,x.length<=100)/\(∀i j:Nat,6<=i->i<j->j<10->xs[i]?≠xs[j]?)/\∀mu,uI [ZI c,ZI n] mu=!(Zs (R (SS xs)),mu):=by
 obtain⟨d,mx⟩:∃d,c=d:=#[c,O];have head:∀(mu:Mu)(g:SF) ZN,g (jC d n (zO (SS [])) J J J J J mu)=ZN->(aF C5 (aF (aM 3 (bO ao)) g)) (env0 9 [ZI c,ZI n] mu)=ZN:=λmu g ZN hg=>by subst mx;show aH O (aH O hg)
 have t1:∀mu:Mu,tT C4 bh (jC d n (zO (SS [])) J J J J J mu)=!(d%2==1,jC d n (zO (SS [])) J J J J J mu):=λmu=>O;have rg:∀(mu:Mu) l3 o4 o6 o7 o8,iH (aa (aj 1) ao) (jC d n l3 o4 J o6 o7 o8 mu)=!(ji 0 n.toNat,jC d n l3 o4 J o6 o7 o8 mu):=λmu l3 o4 o6 o7 o8=>mz O O () ();cases h2:(d%2==1) with
 |true=>
  show#[(List.range n.toNat).map (IK d),by simp,λx z=>?_,λi j h6 F Q q=>?_,λmu=>?_]
  . let(k,_,rfl):=cK.mp z;show VZ k
  . rw[c8,c8,List.getElem?_range (),List.getElem?_range ()]at q;show V_ h6 F Q (d_ q)
  let ec:=gL (elt:=aJ (aj 1) Ts) (k:=10) (mu:=mu) () () (λi _=>dW O O (bD (bD (bD O O (gM () ())) (bD O O (Lp () ())) O) O (dw ())) O (λn h=>by cases h) (Mz (d/2+3*(0+i))));obtain⟨t,rt,lt⟩:∃t:Str,t=⟨(cO d).toArray⟩/\t.length<=100000:=#[_,O,by show (cO d).toArray.size<=_;unfold cO;simp];have ej:∀(fa:EF)(Y Y1:Ev)(m:Lc),fa Y=!(m,Y1)->m.pv=R (SS ((cO d).map one))->qY (bg "") (aa fa ao) Y=!(Zp (ZH t),Y1):=λfa Y Y1 m h hm=>by rw[rt];show Qn h hm (by unfold cO;simp)
  have l5:∀j:Nat,lF t (!((0+j:Int)%5)) (!((0+j:Int)%5+1+(0+j:Int)/5))=IK d j:=λj=>by rw[rt];rfl
  clear rt;have s4:aM 4 Dx (jC d n (zO (SS [])) J J J J J mu)=!(.nx (jC d n (zO (SS [])) (zT t) J J J J mu)):=
   bu (ej _ _ (jC d n (zO (SS [])) J J J J J mu) (Zs (R (SS ((cO d).map one)))) ((gh (mz O O () ()) ec).trans O) O) O O
  let(Y',ef,xs,o5,rfl,z):=PJ (b:=aC 5) (body:=jM 3 C7) (xs:=ji 0 n.toNat)
   (λi Y=>∃xs o5,Y=jC d n (zO (SS xs)) (zT t) o5 J J J mu/\xs=(List.range i).map (IK d)) #[[],J,O,O] (by
     intro i x Y z q0;let(xs,o5,rfl,hl):=q0;have hi:i<n.toNat:=by have:=(de.mp z).1;rw[v5]at this;show this
     obtain⟨j,rfl,rfl⟩:∃j:Nat,j=i/\x=ZI (0+(j:Int)):=#[i,O,by unfold ji at z;rw[c8,List.getElem?_range hi]at z;cases z;rfl];have WA:xs.length=j:=by rw[hl];simp
     have es:vH (aj 4) (dB (az bf (aj 5) (af 5))) Tx (jC d n (zO (SS xs)) (zT t) (zI (0+j)) J J J mu)=!(Zp (ZH (lF t (!((0+j:Int)%5)) (!((0+j:Int)%5+1+(0+j:Int)/5)))),jC d n (zO (SS xs)) (zT t) (zI (0+j)) J J J mu):=by show (if t.length<=100000 then _ else J)=_;rw[av lt];rfl
     show#[_,O,jC d n (!(Zs (R (SS (xs++[lF t (!((0+j:Int)%5)) (!((0+j:Int)%5+1+(0+j:Int)/5))]))))) (zT t) (zI (0+j)) J J J mu,Zl ((rQ O es O O (by rw[bq];lia) O).trans ?_),_,_,O,by rw[l5,hl,List.range_succ,cy];rfl];rw[<-Ve];rfl)
  rw[v5]at z;subst z;show aN (Y:=jC d n J (zT t) o5 J J J mu) (head mu _ _ (GC ((nJ ((t1 mu).trans (by rw[h2]))).trans (aH s4 (aH (dZ (rg mu _ _ _ _ _) ef) O)))))
 |false=>
  let(m,W,hm8,em):=VX (c:=d/2);let nk:=ic (d/14) (b:=m) ();let i8:=iN (d/14) (b:=m) W;show#[(List.range n.toNat).map (kK ((List.range m.toNat).map λi:Nat=>wN (d/((0+i:Int)+1)+(0+i)*(0+i))) d (d/14%m).toNat),by simp,λx z=>?_,λi j h6 F Q q=>?_,λmu=>?_]
  . let(k,_,rfl):=cK.mp z;unfold kK Str.length;simp;lia
  . rw[c8,c8,List.getElem?_range (),List.getElem?_range ()]at q;show Wp (by simp;lia) F () (d_ q)
  have s6:aM 6 C_ (jC d n (zO (SS [])) J J J J J mu)=!(.nx (jC d n (zO (SS [])) J J (zI m) J J mu)):=
   bu (dW (l:=Zs (R [ZI 1,ZI 2,ZI 3,ZI 5,ZI 6,ZI 7,ZI 8])) (q:=ZI (d/2%7)) O O O O (λn h=>by cases h) em) O O
  have s7:aM 7 C3 (jC d n (zO (SS [])) J J (zI m) J J mu)=!(.nx (jC d n (zO (SS [])) J J (zI m) (zI (d/14%m)) J mu)):=
   bu (dJ O O O O (dw W)) O O
  generalize d/14%m=at_ at s7 nk i8;let FI:=gL (elt:=aJ (aj 1) TB) (c:=d) (k:=m) (mu:=mu) (g:=λi:Nat=>wN (d/((0+i:Int)+1)+(0+i)*(0+i))) () () (λi hi=>dW (q:=ZI ((d/((0+i:Int)+1)+(0+i)*(0+i))%26)) O O (bD (bD (bD O O (gM () ())) (bD O O (Lp () ())) O) O (dw ())) O (λn h=>by cases h) (Mz (d/((0+i:Int)+1)+(0+i)*(0+i))));obtain⟨l,rl⟩:∃l,l=(List.range m.toNat).map λi:Nat=>wN (d/((0+i:Int)+1)+(0+i)*(0+i)):=#[_,O];rw[<-rl]at FI;have l1:l.length=m.toNat:=by rw[rl];simp
  obtain⟨ps,N⟩:∃ps,ps=SS (l.map one):=#[_,O];let ec:=FI;rw[<-N]at ec;have lps:ps.length=m.toNat:=by rw[N,bq,bq,l1]
  let(Y',ef,xs,o5,o8,rfl,z):=PJ (b:=aC 5) (body:=aF Db
   (aF C6
   C2)) (xs:=ji 0 n.toNat) (Y:=jC d n (zO (SS [])) J J (zI m) (zI at_) J mu)
   (λi Y=>∃xs o5 o8,Y=jC d n (zO (SS xs)) J o5 (zI m) (zI at_) o8 mu/\xs=(List.range i).map (kK l d at_.toNat)) #[[],J,J,O,O] (by
     intro i x Y z q0;let(xs,o5,o8,rfl,hl):=q0;have hi:i<n.toNat:=by have:=(de.mp z).1;rw[v5]at this;show this
     obtain⟨j,rfl,rfl⟩:∃j:Nat,j=i/\x=ZI (0+(j:Int)):=#[i,O,by unfold ji at z;rw[c8,List.getElem?_range hi]at z;cases z;rfl];have WA:xs.length=j:=by rw[hl];simp
     obtain⟨D,WB,e⟩:∃D,D=wN (d/112+(0+j))/\qe (ZH j_) (ZI ((d/112+(0+j))%26))=zS (ZH ⟨(List.toArray [D])⟩):=#[_,O,Mz _];obtain⟨t,rt⟩:∃t:Str,t=kK l d at_.toNat j:=#[_,O];have ej:∀(fa:EF)(Y Y1:Ev)(m:Lc),fa Y=!(m,Y1)->m.pv=R (ps.set at_.toNat (ZH #[(List.toArray [D])]))->qY (bg "") (aa fa ao) Y=!(Zp (ZH t),Y1):=λfa Y Y1 m h hm=>by rw[rt];rw[N,VY,WB]at hm;show Qn h hm (by rw[mf,l1];lia)
     have g1:aM 8 TD (jC d n (zO (SS xs)) J (zI (0+j)) (zI m) (zI at_) o8 mu)=!(.nx (jC d n (zO (SS xs)) J (zI (0+j)) (zI m) (zI at_) (zO ps) mu)):=
      bu ((gh (Y1:=jC d n (zO (SS xs)) J (zI (0+j)) (zI m) (zI at_) o8 mu) (mz (l:=Zp (ZI m)) (n:=m) O O () ()) ec).trans O) O O
     have g2:Bc 8 (aj 7) To (jC d n (zO (SS xs)) J (zI (0+j)) (zI m) (zI at_) (zO ps) mu)=!(.nx (jC d n (zO (SS xs)) J (zI (0+j)) (zI m) (zI at_) (zO (ps.set at_.toNat (ZH #[(List.toArray [D])]))) mu)):=by show PU (k:=at_) (j:=at_.toNat) (dW (q:=ZI ((d/112+(0+j))%26)) O O O O (λn h=>by cases h) e) O O O O O ?_ O;unfold ur;rw[av nk,av ()]
     show#[_,O,jC d n (zO (SS (xs++[t]))) J (zI (0+j)) (zI m) (zI at_) (zL (ps.set at_.toNat (ZH #[(List.toArray [D])]))) mu,Zl (aH g1 (aH g2 ((rQ O (ej (aj 8) _ (jC d n (zO (SS xs)) J (zI (0+j)) (zI m) (zI at_) (zL (ps.set at_.toNat (ZH #[(List.toArray [D])]))) mu) (Zp (R (ps.set at_.toNat (ZH #[(List.toArray [D])])))) O O) O O (by rw[bq];lia) O).trans ?_))),_,_,_,O,by rw[rt,hl,List.range_succ,cy];rfl];rw[<-Ve];rfl)
  rw[v5]at z;subst z;rw[rl]at *;show aN (Y:=jC d n J J o5 (zI m) (zI at_) o8 mu) (head mu _ _ (aH ((nM ((t1 mu).trans (by rw[h2]))).trans O) (aH s6 (aH s7 (aH (dZ (rg mu _ _ _ _ _) ef) O)))))
def sr(xs:List Str):(SS xs).length=xs.length:=bq _
def wO(j:aj i Y=!(Zp (R (SS xs)),Y)):tT (az jj (eB cz (aa (aj i) ao)) (af 0)) bh Y=!(not xs.isEmpty,Y):=by
 show nO (l:=Zp (.bl (not xs.isEmpty))) (dJ (mV (au j O) O O) O O O ?_) O;show some (Lc.sh (.bl (decide (((SS xs).length:Int)>0))))=_;cases xs with
 |nil=>rfl
 |cons x xs=>simp
def WC(j:aj i Y=!(Zp (R (SS xs)),Y)):tT (az c5 (eB cz (aa (aj i) ao)) (af 0)) bh Y=!(xs.isEmpty,Y):=by
 show nO (l:=Zp (.bl xs.isEmpty)) (dJ (mV (au j O) O O) O O O ?_) O;show some (Lc.sh (.bl (((SS xs).length:Int)==0)))=_;cases xs with
 |nil=>rfl
 |cons x xs=>simp;lia
def pick(h:xs≠[])(a d:Int)(F:0<d)(j:d<1073741824):∃x∈xs,∀(i:Nat)(fa:EF)(Y:Ev),aj i Y=!(Zp (R (SS xs)),Y)->fa Y=!(Zp (ZI a),Y)->aJ (aj i) (az bf (az bR fa (af d)) (eB cz (aa (aj i) ao))) Y=!(Zp (ZH x),Y):=by
 have z:(0:Int)<xs.length:=by have:=List.length_pos_iff.mpr h;lia
 let(x,N,e):=VW (ic _ ()) (iN _ z);show#[x,N,λi fa Y q D=>dW (m:=Zp (ZI (a/d%xs.length))) q O (bD (bD D O (gM F j)) (mV (au q O) O O) ?_) O (λn h=>by cases h) e];rw[sr];show dw z
abbrev XE(c:Int)(own ls:List Str)(p:PV)(o4 o5 o6 o7:Option Lc)(mu:Mu):Ev:=#[[zI c,zL (SS own),zL (SS ls),zS p,o4,o5,o6,o7],mu]
def WE(a:Int):∃s,Fk s/\qe (ZH "+-*<=") (ZI (a%5))=zT s:=by
 let i:=ic a (b:=5) ();let h1:=iN a (b:=5) ();generalize a%5=r at i h1;have h:∀n:Nat,n<5->(match qe (ZH "+-*<=") (ZI (n:Int)) with |some (Zp (ZH s))=>not (s== "num")&&not (s== "box")&&not (s== "@") |_=>M)=G:=by decide +kernel
 let g:=h r.toNat ();rw[Int.toNat_of_nonneg i]at g;split at g
 . rename_i x e;simp only[gt,Bool.not_eq_true']at g;show#[x,#[g.1.1,g.1.2,g.2],e]
 . cases g
def Af:Sh []:=λx h=>by cases h
def wQ(h:x.length<=100)(t:Sh a):Sh (x::a):=λy i=>by
 obtain rfl|i:=aT.mp i
 . show h
 . show t y i
def FP(h:Sh a)(t:Sh b):Sh (a++b):=λy i=>(cx.mp i).elim (h y) (t y)
def Bt{xs:List Str}(h:(not xs.isEmpty&&b)=G):xs≠[]:=by intro e;rw[e]at h;simp at h
def WG(ho:Sh own)(gN:Sh ls)(kC:0<=k)(hk:k<100)(hn:2<=n)(hp:Rd n p a)(ha:Sh a):∃q b p5 p6 p7,(Rd (n+1) q b/\b.length<=a.length+2/\Sh b)/\∀(mu:Mu)(o5 o6 o7:Option Lc),u3 (XE c own ls p (zI k) o5 o6 o7 mu)=!(.nx (XE c own ls q (zI k) (!p5) (!p6) (!p7) mu)):=by
 let z:Int:=c*(k+2)%2147483647*16807%2147483647;let K:Option Lc:=zI k;let Z:Option Lc:=zI z;have s1:∀(mu:Mu)(o5 o6 o7:Option Lc),aM 5 DL (XE c own ls p K o5 o6 o7 mu)=!(.nx (XE c own ls p K Z o6 o7 mu)):=λmu o5 o6 o7=>
  bu (bD (bD (bD (bD O O (v4 () ())) O (dw ())) O (v4 () ())) O ()) O O
 let n0:PV:=ZB [ZH "num",ZI (z%1000)];have s2:∀(mu:Mu)(o6 o7:Option Lc),aM 6 DE (XE c own ls p K Z o6 o7 mu)=!(.nx (XE c own ls p K Z (zS n0) o7 mu)):=λmu o6 o7=>O;have g3:∃D N,(Rd 1 D N/\N.length<=1/\Sh N)/\∀(g:SF)(mu:Mu)(o7:Option Lc),aF (cQ DI
  DJ
  cu) g (XE c own ls p K Z (zS n0) o7 mu)=g (XE c own ls p K Z (zS D) o7 mu):=by
  have t:∀(mu:Mu)(o7:Option Lc),d9 DA TH (XE c own ls p K Z (zS n0) o7 mu)=!(not own.isEmpty&&decide (z%6>0),XE c own ls p K Z (zS n0) o7 mu):=λmu o7=>nC (wO O) O;cases i:(not own.isEmpty&&decide (z%6>0)) with
  |false=>show#[n0,[],#[.num 0 _,d3 _,Af],λg mu o7=>bF (t mu o7) i]
  |true=>
   let(x,xm,hx):=pick (Bt i) z 6 () ();show#[ZB [ZH "box",ZH x],[x],#[.box 0 x,bv _,wQ (ho x xm) Af],λg mu o7=>rK (t mu o7) i (bu (cM (au O (au (hx 1 (aj 5) _ O O) O)) O O) O O)]
 let(D,N,(f1,d1,c1),g3):=g3;have g4:∃F Q,(Rd 2 F Q/\Q.length<=2/\Sh Q)/\∀(g:SF)(mu:Mu)(o7:Option Lc),aF (cQ vb
  DM
  cu) g (XE c own ls p K Z (zS D) o7 mu)=g (XE c own ls p K Z (zS F) o7 mu):=by
  have t:∀(mu:Mu)(o7:Option Lc),d9 uS TJ (XE c own ls p K Z (zS D) o7 mu)=!(not ls.isEmpty&&(z%7==5),XE c own ls p K Z (zS D) o7 mu):=λmu o7=>nC (wO O) O;cases i:(not ls.isEmpty&&(z%7==5)) with
  |false=>show#[D,N,#[f1.mono (),(),c1],λg mu o7=>bF (t mu o7) i]
  |true=>
   let(x,xm,hx):=pick (Bt i) z 42 () ();show#[ZB [ZH "@",ZH x,D],x::N,#[.at_ x f1,by simp only[be];lia,wQ (gN x xm) c1],λg mu o7=>rK (t mu o7) i (bu (cM (au O (au (hx 2 (aj 5) _ O O) O)) O O) O O)]
 let(F,Q,(f2,d2,c2),g4):=g4;let(s,W,es):=WE (z/77);let j:Option Lc:=zS F;let ZT:Option Lc:=zT s;have s7:∀(mu:Mu)(o7:Option Lc),aM 7 DF (XE c own ls p K Z j o7 mu)=!(.nx (XE c own ls p K Z j ZT mu)):=λmu o7=>
  bu (dW O O (bD (bD O O (gM () ())) O (dw ())) O (λn h=>by cases h) es) O O
 have g8:∃q b,(Rd (n+1) q b/\b.length<=a.length+2/\Sh b)/\∀(mu:Mu),cQ DS
  DO
  (cQ DH
  DB
  DC) (XE c own ls p K Z j ZT mu)=!(.nx (XE c own ls q K Z j ZT mu)):=by
  have t:∀(mu:Mu),d9 uS TL (XE c own ls p K Z j ZT mu)=!(not ls.isEmpty&&(z/5%3==0),XE c own ls p K Z j ZT mu):=λmu=>nC (wO O) O;have t2:∀(mu:Mu),tT TK bh (XE c own ls p K Z j ZT mu)=!(z/5%3==1,XE c own ls p K Z j ZT mu):=λmu=>O;cases i:(not ls.isEmpty&&(z/5%3==0)) with
  |true=>
   let(x,xm,hx):=pick (Bt i) z 15 () ();show#[ZB [ZH "@",ZH x,p],x::a,#[.at_ x hp,by simp only[be];lia,wQ (gN x xm) ha],λmu=>(nJ ((t mu).trans (by rw[i]))).trans (bu (cM (au O (au (hx 2 (aj 5) _ O O) O)) O O) O O)]
  |false=>
   cases hc:(z/5%3==1) with
   |true=>show#[ZB [ZH s,p,F],a++Q,#[.op W hp (f2.mono hn),by simp only[bS];lia,FP ha c2],λmu=>(nM ((t mu).trans (by rw[i]))).trans ((nJ ((t2 mu).trans (by rw[hc]))).trans O)]
   |false=>show#[ZB [ZH s,F,p],Q++a,#[.op W (f2.mono hn) hp,by simp only[bS];lia,FP c2 ha],λmu=>(nM ((t mu).trans (by rw[i]))).trans ((nM ((t2 mu).trans (by rw[hc]))).trans O)]
 let(q,b,fq,g8):=g8;show#[q,b,Zp (ZI z),Zp F,Zp (ZH s),fq,λmu o5 o6 o7=>aH (s1 mu o5 o6 o7) (aH (s2 mu o6 o7) ((g3 _ mu o7).trans ((g4 _ mu o7).trans (aH (s7 mu o7) (g8 mu)))))]
theorem Qo(W:Sh own)(i:Sh ls):∀(ks:List Int)(p:PV)(n:Nat)(a:List Str),(∀k∈ks,0<=k/\k<100)->2<=n->Rd n p a->Sh a->∃q b,(Rd (n+ks.length) q b/\b.length<=a.length+2*ks.length/\Sh b)/\∀(mu:Mu)(o4 o5 o6 o7:Option Lc),∃p4 j z F,fG (aC 4) u3 (ks.map PV.int) (XE c own ls p o4 o5 o6 o7 mu)=!(.nx (XE c own ls q p4 j z F mu))
 |[]=>λp n a _ Q N D=>#[p,a,#[N,bv _,D],λmu o4 o5 o6 o7=>#[o4,o5,o6,o7,O]]
 |k::ks=>λp n a h Q N D=>by let(h0,h1):=h k bi;let(q1,b1,j,z,F,(f1,d1,c1),e1):=WG W i h0 h1 Q N D;let(q,b,(fq,dq,cq),ih):=Qo W i ks q1 (n+1) b1 (λx hx=>h x (cv _ hx)) () f1 c1;show#[q,b,#[by rw[show n+(k::ks).length=n+1+ks.length by simp only[be];omega];show fq,by simp only[be];lia,cq],λmu o4 o5 o6 o7=>?_];let(r4,r5,r6,r7,e2):=ih mu (zI k) (!j) (!z) (!F);show#[r4,r5,r6,r7,gJ O (e1 mu o5 o6 o7) e2]
def nB(c:Int):∃m:Nat,m<=4/\qe (R [ZI 0,ZI 0,ZI 1,ZI 1,ZI 2,ZI 2,ZI 3,ZI 4]) (ZI (c%8))=zI (m:Nat):=by
 let i:=ic c (b:=8) ();let h1:=iN c (b:=8) ();generalize c%8=r at i h1;obtain rfl|rfl|rfl|rfl|rfl|rfl|rfl|rfl:=(by omega:r=0\/r=1\/r=2\/r=3\/r=4\/r=5\/r=6\/r=7)
 . show#[0,by decide,O]
 . show#[0,by decide,O]
 . show#[1,by decide,O]
 . show#[1,by decide,O]
 . show#[2,by decide,O]
 . show#[2,by decide,O]
 . show#[3,by decide,O]
 . show#[4,by decide,O]
def Dp(n:Nat):ji 0 n=((List.range n).map λi:Nat=>(0+(i:Int))).map PV.int:=by rw[fS];rfl
def G9(c:Int)(ho:Sh own)(Q:Sh ls):∃p,XG p/\∀mu,dF [ZI c,R (SS own),R (SS ls)] mu=!(Zp p,mu):=by
 let z:PV:=ZB [ZH "num",ZI (c*7919%10 ^ 12)];let E0:Mu->Ev:=λmu=>#[[zI c,zL (SS own),zL (SS ls),J,J,J,J,J],mu];have s1:∀mu,aM 3 DT (E0 mu)=!(.nx (XE c own ls z J J J J mu)):=λmu=>
  bu (cM (au O (au (bD (bD O O (v4 () ())) O ()) O)) O O) O O
 have F:∃D j,(Rd 2 D j/\j.length<=1/\Sh j)/\∀(g:SF)(mu:Mu),aF (cQ DU
  DV
  cu) g (XE c own ls z J J J J mu)=g (XE c own ls D J J J J mu):=by
  have t:∀(mu:Mu),d9 DA TM (XE c own ls z J J J J mu)=!(not own.isEmpty&&decide (c%5>0),XE c own ls z J J J J mu):=λmu=>nC (wO O) O;cases N:(not own.isEmpty&&decide (c%5>0)) with
  |false=>show#[z,[],#[.num 1 _,d3 _,Af],λg mu=>bF (t mu) N]
  |true=>
   let(x,xm,hx):=pick (Bt N) c 5 () ();show#[ZB [ZH "box",ZH x],[x],#[.box 1 x,bv _,wQ (ho x xm) Af],λg mu=>rK (t mu) N (bu (cM (au O (au (hx 1 (aj 0) _ O O) O)) O O) O O)]
 let(D,j,(f1,d1,c1),F):=F;let(m,hm,em):=nB (c/60);let(q,b,(fq,dq,cq),W):=Qo ho Q ((List.range m).map λi:Nat=>(0+(i:Int))) D 2 j (λk hk=>by let(i,hi,rfl):=cK.mp hk;have:=List.mem_range.mp hi;lia) () f1 c1
 rw[bq,fR]at dq fq;show#[q,#[_,b,fq,(),(),cq],λmu=>?_];let(p4,p5,p6,p7,W):=W mu J J J J;show aN (Y:=#[[zI c,zL (SS own),zL (SS ls),J,p4,p5,p6,p7],mu]) (aH (s1 mu) ((F _ mu).trans (aH (dZ (xs:=ji 0 m) ?_ (by rw[Dp];show W)) O)));show mz (au (dW (q:=ZI (c/60%8)) (l:=Zs (R [ZI 0,ZI 0,ZI 1,ZI 1,ZI 2,ZI 2,ZI 3,ZI 4])) O O O O (λn h=>by cases h) em) O) O () ()
inductive Dr where
 |row (r:ah)
 |wh (e:PV)
 |iff (e:PV)
def Dr.pv:Dr->Nat->PV
 |.row r,_=>r.pv
 |.wh e,n=>ZB [ZH "while",e,ZA n]
 |.iff e,n=>ZB [ZH "if",e,ZA n,ZA (n+1)]
noncomputable def Dr.cl:Dr->Mu
 |.row _=>[]
 |.wh _=>[!(R [])]
 |.iff _=>[!(R []),!(R [])]
def ah.low:ah->Prop
 |.leaf w ps=>(ah.leaf w ps).ok
 |.call b n as=>(ah.call b n as).ok
 |_=>False
def Dr.ok:Dr->Prop
 |.row r=>r.low
 |.wh e=>XG e
 |.iff e=>XG e
def WH(j:aj i Y=!(Zp (R ps),Y)):tT (az jj (eB cz (aa (aj i) ao)) (af 0)) bh Y=!(not ps.isEmpty,Y):=by
 show nO (l:=Zp (.bl (not ps.isEmpty))) (dJ (mV (au j O) O O) O O O ?_) O;show some (Lc.sh (.bl (decide ((ps.length:Int)>0))))=_;cases ps with
 |nil=>rfl
 |cons x xs=>simp
def WI(h:ps≠[])(a d:Int)(N:0<d)(j:d<1073741824):∃x∈ps,∀(i:Nat)(fa:EF)(Y:Ev),aj i Y=!(Zp (R ps),Y)->fa Y=!(Zp (ZI a),Y)->aJ (aj i) (az bf (az bR fa (af d)) (eB cz (aa (aj i) ao))) Y=!(Zp x,Y):=by
 have z:(0:Int)<ps.length:=by have:=List.length_pos_iff.mpr h;lia
 let(x,e,F):=uz (ic _ ()) (iN _ z);show#[x,eR F,λi fa Y q D=>dW q O (bD (bD D O (gM N j)) (mV (au q O) O O) (dw z)) O (λn h=>by cases h) ?_];show (fY ps (a/d%ps.length)).map _=_;rw[e];rfl
abbrev Hd:=List (Str×List Str)
abbrev gO(hs:Hd):List PV:=hs.map λh=>ZB [ZH h.1,R (SS h.2)]
abbrev RE(c:Int)(own ls:List Str)(hs:Hd)(ws:List Str)(o5 o6 o7 o8 o9 nz i_:Option Lc)(mu:Mu):Ev:=#[[zI c,zL (SS own),zL (SS ls),zL (gO hs),zL (SS ws),o5,o6,o7,o8,o9,nz,i_],mu]
abbrev WJ:EF:=aP dF Eb
theorem Qp(c:Int)(q:Sh own)(j:Sh ls):∀(ks:List Int),(∀k∈ks,0<=k/\k<100)->∃i:List PV,(∀a∈i,XG a)/\i.length=ks.length/\∀(mu:Mu)(o:Option Lc)(acc:List PV),acc.length+ks.length<=1000->
 eE (aC 0) bQ WJ (ks.map PV.int) #[[o,zI c,zL (SS own),zL (SS ls)],mu] acc=!(acc++i,mu)
 |[]=>λ_=>#[[],λa h=>(by cases h),O,λmu o acc _=>by simp[eE]]
 |k::ks=>λh=>by let(W,h1):=h k bi;let(p,fp,F):=G9 (c*40692%(2147483399-k)) q j;let(i,fa,z,Q):=Qp c q j ks λx D=>h x (cv _ D);show#[p::i,λa h=>(aT.mp h).elim (λe=>e▸fp) (fa a),by simp[z],λmu o acc N=>?_];simp only[be]at N;show jb O (aU (au (bD (bD O O (v4 () ())) O (dw ())) O) O O O (F mu)) () ((Q mu _ (acc++[p]) ∅).trans ?_);simp
def Xr{ps:List PV}(h:(b&&not ps.isEmpty)=G):ps≠[]:=by intro e;rw[e]at h;simp at h
def MJ{xs:List Str}(h:(b&&not xs.isEmpty)=G):xs≠[]:=by intro e;rw[e]at h;simp at h
def Vf:gp "put":=#[by decide +kernel,by decide +kernel,by decide +kernel]
def Vg:gp "out":=#[by decide +kernel,by decide +kernel,by decide +kernel]
def Vh:gp "set":=#[by decide +kernel,by decide +kernel,by decide +kernel]
def WO(c:Int)(ho:Sh own)(gN:Sh ls)(hs:Hd)(ws:List Str)(hh:∀h∈hs,h.1.length<=1000/\h.2.length<=26/\FN.fn h.1):∃d:Dr,d.ok/\∀mu,iu [ZI c,R (SS own),R (SS ls),R (gO hs),R (SS ws)] mu=!(Zp (d.pv mu.length),mu++d.cl):=by
 let(W,f1,e1):=G9 (c*48271%2147483647) ho gN;let(p2,f2,e2):=G9 (c*69621%2147483647) ho gN;let kd:Int:=c/8%9;let F:Option Lc:=zS W;let N:Option Lc:=zS p2;let Q:Option Lc:=zI kd;let E0:Mu->Ev:=λmu=>RE c own ls hs ws J J J J J J J mu;let wP:Mu->Ev:=λmu=>RE c own ls hs ws F J J J J J J mu;let E2:Mu->Ev:=λmu=>RE c own ls hs ws F N J J J J J mu;let E3:Mu->Ev:=λmu=>RE c own ls hs ws F N Q J J J J mu;have s5:∀mu,aM 5 T_ (E0 mu)=!(.nx (wP mu)):=λmu=>
  bu (aU (au (bD (bD O O (v4 () ())) O (dw ())) O) O O O (e1 mu)) O O
 have s6:∀mu,aM 6 Uf (wP mu)=!(.nx (E2 mu)):=λmu=>
  bu (aU (au (bD (bD O O (v4 () ())) O (dw ())) O) O O O (e2 mu)) O O
 have s7:∀mu,aM 7 TR (E2 mu)=!(.nx (E3 mu)):=λmu=>bu (bD (bD O O (gM () ())) O (dw ())) O O;have head:∀(mu:Mu)(g:SF) ZN,g (E3 mu)=ZN->(aF D9 (aF D_ (aF D1 g))) (E0 mu)=ZN:=λmu g ZN hg=>aH (s5 mu) (aH (s6 mu) (aH (s7 mu) hg));have t1:∀mu,d9 TN uS (E3 mu)=!((kd==1)&&not ls.isEmpty,E3 mu):=λmu=>nC O (wO O);cases b1:((kd==1)&&not ls.isEmpty) with
 |true=>
  let(x,xm,hx):=pick (MJ b1) c 72 () ();show#[.row (.leaf "put" [ZH x,W,p2]),#[Vf,.put (gN x xm) f1 f2],λmu=>?_];rw[show mu++Dr.cl (.row (.leaf "put" [ZH x,W,p2]))=mu from d0 _];show aN (Y:=E3 mu) (head mu _ _ (d7 (t1 mu) b1 (cL (cM (au (Y1:=E3 mu) O (au (hx 2 (aj 0) _ O O) O)) O O))))
 |false=>
 have t2:∀mu,tT (az c5 (aj 7) (af 6)) bh (E3 mu)=!(kd==6,E3 mu):=λmu=>O;cases b2:(kd==6) with
 |true=>
  show#[.wh p2,f2,λmu=>?_];show iu _ mu=!(Zp (ZB [ZH "while",p2,ZA mu.length]),mu++[!(R [])]);show aN (Y:=RE c own ls hs ws F N Q J J J J (mu++[!(R [])])) (r:=Zp (ZB [ZH "while",p2,ZA mu.length])) ?_;show head mu _ _ ?_;show(bF (t1 mu) b1).trans ?_;show d7 (t2 mu) b2 ?_;show cL (cM (ls:=[Zp (ZH "while"),Zp p2,Zp (ZA mu.length)]) (au (Y1:=E3 mu) O (au (Y1:=E3 mu) O (au (Y1:=RE c own ls hs ws F N Q J J J J (mu++[!(R [])])) O O))) O O)
 |false=>
 have t3:∃b,∀mu,tT TW bh (E3 mu)=!(b,E3 mu):=#[_,λmu=>O];let(b3,t3):=t3;have FK:∀mu,sS T0 TU (E3 mu)=!(b3||own.isEmpty,E3 mu):=λmu=>qZ (t3 mu) (WC O);cases pS:(b3||own.isEmpty) with
 |true=>
  show#[.iff W,f1,λmu=>?_];show iu _ mu=!(Zp (ZB [ZH "if",W,ZA mu.length,ZA (mu.length+1)]),mu++[!(R []),!(R [])]);show aN (Y:=RE c own ls hs ws F N Q J J J J (mu++[!(R []),!(R [])])) (r:=Zp (ZB [ZH "if",W,ZA mu.length,ZA (mu.length+1)])) ?_;show head mu _ _ ?_;show(bF (t1 mu) b1).trans ?_;show(bF (t2 mu) b2).trans ?_;show d7 (FK mu) pS ?_;show cL (cM (ls:=[Zp (ZH "if"),Zp W,Zp (ZA mu.length),Zp (ZA (mu.length+1))]) (au (Y1:=E3 mu) O (au (Y1:=E3 mu) O (au (Y1:=RE c own ls hs ws F N Q J J J J (mu++[!(R [])])) O (au (Y1:=RE c own ls hs ws F N Q J J J J (mu++[!(R []),!(R [])])) ?_ O)))) O O);show some (Lc.sh (ZA (mu++[!(PV.lst [])]).length),RE c own ls hs ws F N Q J J J J ((mu++[!(PV.lst [])])++[!(PV.lst [])]))=_;rw[bS,cw];rfl
 |false=>
 have hown:own≠[]:=by intro e;rw[e]at pS;simp at pS
 let(z,wS,hx):=pick hown c 72 () ();let GL:Option Lc:=zT z;let D:Mu->Ev:=λmu=>RE c own ls hs ws F N Q GL J J J mu;have s8:∀mu,aM 8 T1 (E3 mu)=!(.nx (D mu)):=λmu=>bu (l:=Zp (ZH z)) (Y1:=E3 mu) (hx 1 (aj 0) _ O O) O O;have j:∀(mu:Mu)(g:SF) ZN,g (D mu)=ZN->(aF (cQ D8
  Ee
  cu)
  (aF (cQ DZ
  D5
  cu)
  (aF (cQ Ec
  D7
  cu)
  (aF D6 g)))) (E3 mu)=ZN:=λmu g ZN hg=>(bF (t1 mu) b1).trans ((bF (t2 mu) b2).trans ((bF (FK mu) pS).trans (aH (s8 mu) hg)))
 have t4:∀mu,d9 D0 D2 (D mu)=!((kd==2)&&not ws.isEmpty,D mu):=λmu=>nC O (wO O);cases b4:((kd==2)&&not ws.isEmpty) with
 |true=>
  let(wh,_,hw):=pick (MJ b4) c 7 () ();show#[.row (.leaf "out" [ZH z,W,ZH wh]),#[Vg,.out wh (ho z wS) f1],λmu=>?_];rw[show mu++Dr.cl (.row (.leaf "out" [ZH z,W,ZH wh]))=mu from d0 _];show aN (Y:=D mu) (head mu _ _ (j mu _ _ (d7 (t4 mu) b4 (cL (cM (ls:=[Zp (ZH "out"),Zp (ZH z),Zp W,Zp (ZH wh)]) (au (Y1:=D mu) O (au (Y1:=D mu) O (au (Y1:=D mu) O (au (hw 4 (aj 0) _ O O) O)))) O O)))))
 |false=>
 have t5:∃b,∀mu,tT TZ bh (D mu)=!(b,D mu):=#[_,λmu=>O];let(b5,t5):=t5;have FL:∀mu,d9 D4 D3 (D mu)=!(b5&&not (gO hs).isEmpty,D mu):=λmu=>nC (t5 mu) (WH O);cases wT:(b5&&not (gO hs).isEmpty) with
 |true=>
  let(q,hq,WS):=WI (Xr wT) c 792 () ();let(h,hm,rfl):=cK.mp hq;let(jI,jS,kq):=hh h hm;let(as,fa,la,ea):=Qp c ho gN ((List.range h.2.length).map λi:Nat=>(0+(i:Int))) λk hk=>by let(i,hi,rfl):=cK.mp hk;have:=List.mem_range.mp hi;lia
  rw[bq,fR]at la;show#[.row (.call (ZH z) h.1 as),#[#[z,O,ho z wS],jI,fa,(),kq],λmu=>?_];rw[show mu++Dr.cl (.row (.call (ZH z) h.1 as))=mu from d0 _];let E5:_:=RE c own ls hs ws F N Q GL (zT h.1) (zL (SS h.2)) J mu;let E6:_:=RE c own ls hs ws F N Q GL (zT h.1) (zL (SS h.2)) (zO as) mu;let E7:_:=RE c own ls hs ws F N Q GL (zT h.1) (zL (SS h.2)) (zL as) mu;let ec:=ea mu J [] (by rw[bq,fR];simp only[b9];lia);rw[<-Dp,fm]at ec;show aN (Y:=E7) (head mu _ _ (j mu _ _ ((bF (t4 mu) b4).trans (d7 (FL mu) wT ?_))));show aH (Y':=E5) ?_ (aH (Y':=E6) (bu (l:=Zs (R as)) (Y1:=E5) ((gh (Y1:=E5) (xs:=ji 0 h.2.length) (mz (Y1:=E5) (l:=Zp (ZI ((SS h.2).length:Nat))) (n:=((h.2.length:Nat):Int)) (au (mV (ls:=[Zp (R (SS h.2))]) (ps:=[R (SS h.2)]) (Y1:=E5) O O O) O) (by rw[sr];rfl) () ()) ec).trans O) O O) O);unfold WM;rw[WS 3 (aj 0) _ O O];rfl
 |false=>
  show#[.row (.leaf "set" [ZH z,p2]),#[Vh,.set_ (ho z wS) f2],λmu=>?_];rw[show mu++Dr.cl (.row (.leaf "set" [ZH z,p2]))=mu from d0 _];show aN (Y:=D mu) (head mu _ _ (j mu _ _ ((bF (t4 mu) b4).trans ((bF (FL mu) wT).trans O))))
mutual
theorem lW:∀(p:PV)(k:Nat),cZ p=G->fJ mu k p=p
 |.non,k,_=>by cases k<;>rfl
 |.bl _,k,_=>by cases k<;>rfl
 |ZI _,k,_=>by cases k<;>rfl
 |ZH _,k,_=>by cases k<;>rfl
 |ZB ps,k,h=>by
  cases k with
  |zero=>rfl
  |succ k=>
   show PV.tup (ps.map (fJ mu k))=_;rw[yx ps k ()]
 |R _,k,h=>by simp[cZ]at h
 |.dk _ _,k,h=>by simp[cZ]at h
 |.dt _ _,k,h=>by simp[cZ]at h
 |.obj _ _ _,k,h=>by simp[cZ]at h
 |.df _ _,k,h=>by simp[cZ]at h
 |.dtf _ _,k,h=>by simp[cZ]at h
 |.dx _ _ _,k,h=>by simp[cZ]at h
 |ZA _,k,h=>by simp[cZ]at h
theorem yx:∀(ps:List PV)(k:Nat),gU ps=G->ps.map (fJ mu k)=ps
 |[],k,_=>rfl
 |p::ps,k,h=>by simp only[gU,gt]at h;rw[dE,lW p k h.1,yx ps k h.2]
end
def Xu(h:gU ps=G):fJ mu k (R ps)=R ps:=by
 cases k with
 |zero=>rfl
 |succ k=>
  show PV.lst (ps.map (fJ mu k))=_;rw[yx ps k h]
abbrev vA:=List (Nat×PV)
def Holds(mu:Mu)(L:vA):Prop:=(L.map (·.1)).Nodup/\∀x∈L,mu[x.1]?=!(!x.2)
def Holds.perm(h:Holds mu L)(p:L'.Perm L):Holds mu L':=#[(p.map _).nodup_iff.mpr h.1,λx i=>h.2 x ∅]
def Holds.sub(h:Holds mu L)(p:L'.Sublist L):Holds mu L':=#[h.1.sublist (p.map _),λx i=>h.2 x ∅]
def Holds.tail{L:vA}(h:Holds mu (x::L)):Holds mu L:=h.sub (eH _ _)
def Holds.head{L:vA}(h:Holds mu ((n,p)::L)):mu[n]?=!(!p):=h.2 _ bi
theorem Holds.set{L:vA}(h:Holds mu ((n,p)::L)):Holds (mu.set n (!q)) ((n,q)::L):=by
 let j:=(de.mp h.head).1;show#[h.1,λx i=>?_];obtain rfl|i:=aT.mp i
 . show ke j
 . let ne:=λe=>(f6.mp h.1).1 (cK.mpr #[x,i,e]);rw[nK (λe=>ne e.symm)];show h.2 x (cv _ i)
def Holds.lt(h:Holds mu L):∀x∈L,x.1<mu.length:=λx i=>(de.mp (h.2 x i)).1
def Holds.push(h:Holds mu L)(p:PV):Holds (mu++[!p]) ((mu.length,p)::L):=by
 show#[f6.mpr #[λj=>?_,h.1],λx i=>?_]
 . let(x,i,e):=cK.mp j;have:=h.lt x i;have q:x.1=mu.length:=e;lia
 . obtain rfl|i:=aT.mp i
   . rw[fy (),gz];rfl
   . rw[hE (h.lt x i)];show h.2 x i
structure ed where
 p:PV
 r:ah
 L:vA
def ed.fit(d:ed):Prop:=d.r.ok/\∀mu k,Holds mu d.L->3*d.r.dep<=k->fJ mu k d.p=d.r.pv
noncomputable def ar:List ah->Rows
 |[]=>.nil
 |r::l=>.cons r (ar l)
theorem FQ:∀l:List ah,(ar l).pvs=l.map ah.pv
 |[]=>rfl
 |r::l=>by simp[ar,Rows.pvs,FQ l]
theorem su:∀l:List ah,(∀r∈l,r.ok)->(ar l).ok
 |[]=>λ_=>True.intro
 |r::l=>λh=>#[h r bi,su l λx i=>h x (cv _ i)]
theorem t6:∀l:List ah,∀r∈l,r.dep+1<=(ar l).dep
 |[]=>λr h=>by cases h
 |x::l=>λr h=>by
  simp only[ar,Rows.dep];obtain rfl|h:=aT.mp h
  . lia
  . have:=t6 l r h;lia
theorem yR(i:1<=n):∀l:List ah,(∀r∈l,r.dep+1<=n)->(ar l).dep<=n
 |[]=>λ_=>i
 |x::l=>λh=>by let h1:=h x bi;let h2:=yR i l λr j=>h r (cv _ j);simp only[ar,Rows.dep];lia
theorem Ag:∀l:List ah,(∀r∈l,r.bl<=n)->(ar l).bl<=n
 |[]=>λ_=>d3 _
 |x::l=>λh=>by let h1:=h x bi;let h2:=Ag l λr i=>h r (cv _ i);simp only[ar,Rows.bl];lia
def fO(l:List ah):Nat:=(l.map ah.cnt).sum
theorem mK:∀l:List ah,(ar l).cnt=fO l
 |[]=>rfl
 |r::l=>by simp[ar,Rows.cnt,fO,mK l]
def Dq(a b:List ah):fO (a++b)=fO a+fO b:=by simp[fO]
abbrev d8(ds:List ed):List PV:=ds.map (·.p)
noncomputable abbrev iI (ds:List ed):List ah:=ds.map (·.r)
noncomputable def dL:List ed->vA
 |[]=>[]
 |d::ds=>d.L++dL ds
theorem MK:∀a b:List ed,dL (a++b)=dL a++dL b
 |[],b=>rfl
 |d::a,b=>by simp[dL,MK a]
theorem Vi:∀{ds:List ed}{d:ed},d∈ds->d.L.Sublist (dL ds)
 |[],d,h=>by cases h
 |x::ds,d,h=>by
  obtain rfl|h:=aT.mp h
  . show hY _ _
  . show(Vi h).trans (kT _ _)
def Bu(j:∀d∈ds,d.fit)(q:mu[n]?=!(!(R (d8 ds))))(H:Holds mu (dL ds))(hk:∀d∈ds,3*d.r.dep<=k):fJ mu (k+2) (ZA n)=R (ar (iI ds)).pvs:=by show (match mu[n]? with |some (!p)=>fJ mu (k+1) p |_=>ZA n)=_;rw[q];show PV.lst ((d8 ds).map (fJ mu k))=_;rw[FQ,d8,iI,fS,fS];congr 1;show qk λd i=>?_;show(j d i).2 mu k (H.sub (Vi i)) (hk d i)
def Vj(he:XG e)(i:∀d∈ds,d.fit):ed.fit #[ZB [ZH "while",e,ZA n],.wh e (ar (iI ds)),(n,R (d8 ds))::dL ds]:=by
 show#[#[he,su _ λr z=>?_],λmu k H hk=>?_]
 . let(d,q,rfl):=cK.mp z;show(i d q).1
 . simp only[ah.dep]at hk;obtain⟨k,rfl⟩:∃j,k=j+3:=#[k-3,()];let D:=Bu (k:=k) i H.head H.tail λd q=>by have:=t6 (iI ds) d.r ∅;lia
   show PV.tup [fJ mu (k+2) (ZH "while"),fJ mu (k+2) e,fJ mu (k+2) (ZA n)]=_;rw[D,lW e _ he.fl.1];rfl
def Ha(he:XG e)(D:∀d∈bs,d.fit)(z:∀d∈ds,d.fit):ed.fit #[ZB [ZH "if",e,ZA m,ZA n],.iff e (ar (iI bs)) (ar (iI ds)),(m,R (d8 bs))::(n,R (d8 ds))::(dL bs++dL ds)]:=by
 show#[#[he,su _ λr q=>?_,su _ λr q=>?_],λmu k H hk=>?_]
 . let(d,i,rfl):=cK.mp q;show(D d i).1
 . let(d,i,rfl):=cK.mp q;show(z d i).1
 . simp only[ah.dep]at hk;obtain⟨k,rfl⟩:∃j,k=j+3:=#[k-3,()];let N:=Bu (k:=k) D H.head (H.tail.tail.sub (hY _ _)) λd i=>by have:=t6 (iI bs) d.r ∅;lia
   let F:=Bu (k:=k) z H.tail.head (H.tail.tail.sub (kT _ _)) λd i=>by have:=t6 (iI ds) d.r ∅;lia
   show PV.tup [fJ mu (k+2) (ZH "if"),fJ mu (k+2) e,fJ mu (k+2) (ZA m),fJ mu (k+2) (ZA n)]=_;rw[N,F,lW e _ he.fl.1];rfl
def WU(h:r.low):ed.fit #[r.pv,r,[]]:=by
 cases r with
 |leaf w ps=>
  let(h1,h2):=h;show#[#[h1,h2],λmu k _ _=>?_];show lW _ k (by simp[ah.pv,cZ,gU,h2.fls.1])
 |call b n z=>
  let(h1,h2,i,D):=h;show#[#[h1,h2,i,D],λmu k _ hk=>?_];let(x,rfl,_):=h1;simp only[ah.dep]at hk;obtain⟨k,rfl⟩:∃j,k=j+1:=#[k-1,()];show PV.tup [fJ mu k (ZH "call"),fJ mu k (ZH x),fJ mu k (ZH n),fJ mu k (R z)]=_;rw[lW (ZH x) _ O,lW (ZH "call") k O,lW (ZH n) k O,Xu (Fv i).1];rfl
 |wh e b=>cases h
 |iff e b c=>cases h
inductive Kd where
 |root
 |W (e:PV)
 |I1 (e:PV) (m:Nat)
 |I2 (e:PV) (m:Nat) (bs:List ed)
structure Fr where
 n:Nat
 s:Nat
 ds:List ed
 kd:Kd
noncomputable def Fr.op (f:Fr):PV:=match f.kd with
 |.root=>.non
 |.W e=>ZB [ZH "while",e,ZA f.n]
 |.I1 e m=>ZB [ZH "if",e,ZA f.n,ZA m]
 |.I2 e m _=>ZB [ZH "if",e,ZA m,ZA f.n]
def Kd.st:Kd->vA
 |.I1 _ m=>[(m,R [])]
 |.I2 _ m bs=>(m,R (d8 bs))::dL bs
 |_=>[]
def Fr.sc(f:Fr):List PV:=match f.kd with
 |.I1 _ m=>[ZA f.n,ZA m]
 |_=>[ZA f.n]
def Fr.cls(f:Fr):ed:=match f.kd with
 |.root=>#[.non,.leaf "" [],[]]
 |.W e=>#[f.op,.wh e (ar (iI f.ds)),(f.n,R (d8 f.ds))::dL f.ds]
 |.I1 e m=>#[f.op,.iff e (ar (iI f.ds)) .nil,(f.n,R (d8 f.ds))::(m,R [])::(dL f.ds++[])]
 |.I2 e m bs=>#[f.op,.iff e (ar (iI bs)) (ar (iI f.ds)),(m,R (d8 bs))::(f.n,R (d8 f.ds))::(dL bs++dL f.ds)]
def Kd.fit:Kd->Prop
 |.root=>True
 |.W e=>XG e
 |.I1 e _=>XG e
 |.I2 e _ bs=>XG e/\∀d∈bs,d.fit
def Fr.fit(f:Fr):Prop:=(∀d∈f.ds,d.fit)/\f.kd.fit
def Qq{f:Fr}(h:f.fit)(q:f.kd≠.root):f.cls.fit:=by
 let(n,s,ds,kd):=f;let(h1,h2):=h;cases kd with
 |root=>show absurd O q
 |W e=>show Vj h2 h1
 |I1 e m=>show Ha (ds:=[]) h2 h1 (λd j=>by cases j)
 |I2 e m bs=>show Ha h2.1 h2.2 h1
def WV{f:Fr}(i:f.kd≠.root):f.cls.p=f.op:=by let(n,s,ds,kd):=f;cases kd<;>first |show absurd O i |rfl
def WZ{f:Fr}(j:f.kd≠.root):f.cls.L.Perm ((f.n,R (d8 f.ds))::(f.kd.st++dL f.ds)):=by
 let(n,s,ds,kd):=f;cases kd with
 |root=>show absurd O j
 |W e=>show List.Perm.refl _
 |I1 e m=>
  show List.Perm ((n,PV.lst (d8 ds))::(m,R [])::(dL ds++[])) ((n,R (d8 ds))::([(m,R [])]++dL ds));rw[d0];show List.Perm.refl _
 |I2 e m bs=>show List.Perm.swap _ _ _
def FS:List Fr->List PV->vA
 |[],_=>[]
 |f::fs,o=>(f.n,R (d8 f.ds++o))::(f.s,R f.sc)::((f.kd.st++dL f.ds)++FS fs [f.op])
def FT{f g:Fr}(i:f.kd≠.root):List.Perm (FS (#[g.n,g.s,g.ds++[f.cls],g.kd]::fs) []) ((f.n,R (d8 f.ds))::((f.kd.st++dL f.ds)++FS (g::fs) [f.op])):=by
 have j:(#[g.n,g.s,g.ds++[f.cls],g.kd]:Fr).op=g.op:=by cases g with |mk n s ds kd=>cases kd<;>rfl
 have es:(#[g.n,g.s,g.ds++[f.cls],g.kd]:Fr).sc=g.sc:=by cases g with |mk n s ds kd=>cases kd<;>rfl
 show List.Perm ((g.n,PV.lst (d8 (g.ds++[f.cls])++[]))::(g.s,R (#[g.n,g.s,g.ds++[f.cls],g.kd]:Fr).sc)::((g.kd.st++dL (g.ds++[f.cls]))++FS fs [(#[g.n,g.s,g.ds++[f.cls],g.kd]:Fr).op])) _;rw[j,es,d0,MK,show d8 (g.ds++[f.cls])=d8 g.ds++[f.op] by rw[d8,cy,List.map_singleton,WV i],show dL [f.cls]=f.cls.L from d0 _];let z:=WZ i;have p2:List.Perm ((f.n,PV.lst (d8 f.ds))::((f.kd.st++dL f.ds)++FS (g::fs) [f.op])) (f.cls.L++FS (g::fs) [f.op]):=z.symm.append_right _;show List.Perm.trans ?_ p2.symm;have q:List.Perm ((g.kd.st++(dL g.ds++f.cls.L))++FS fs [g.op]) (f.cls.L++((g.kd.st++dL g.ds)++FS fs [g.op])):=by rw[<-cw,cw (g.kd.st++dL g.ds),<-cw f.cls.L];rw[<-cw];show(iO).append_right _
 show((q.cons _).cons _).trans ((List.perm_middle.symm.cons _).trans eM.symm)
def lX:FS (f::fs) []=(f.n,R (d8 f.ds))::(f.s,R f.sc)::((f.kd.st++dL f.ds)++FS fs [f.op]):=by show (f.n,PV.lst (d8 f.ds++[]))::_=_;rw[d0]
def Od(i:f.kd≠.root)(h:Holds mu (FS (f::g::fs) [])):Holds mu (FS (#[g.n,g.s,g.ds++[f.cls],g.kd]::fs) []):=by rw[lX]at h;show(h.sub ((eH _ _).cons₂ _)).perm (FT i)
def Holds.grow(h:Holds mu L)(X:Mu):Holds (mu++X) L:=#[h.1,λx i=>by rw[hE (h.lt x i)];show h.2 x i]
inductive UK where
 |root
 |W (e:PV)
 |I1 (e:PV)
 |I2 (e:PV) (b:List ah)
abbrev U_:=List ah×UK
def Kd.u:Kd->UK
 |.root=>.root
 |.W e=>.W e
 |.I1 e _=>.I1 e
 |.I2 e _ bs=>.I2 e (iI bs)
def Fr.u(f:Fr):U_:=(iI f.ds,f.kd.u)
def UK.close:UK->List ah->ah
 |.root,_=>.leaf "" []
 |.W e,rs=>.wh e (ar rs)
 |.I1 e,rs=>.iff e (ar rs) .nil
 |.I2 e b,rs=>.iff e (ar b) (ar rs)
def YJ{f:Fr}:f.cls.r=f.kd.u.close (iI f.ds):=by let(n,s,ds,kd):=f;cases kd<;>rfl
def yz:List U_->List U_
 |(rs,.I1 e)::us=>([],.I2 e rs)::us
 |(rs,k)::(W1,k')::us=>(W1++[k.close rs],k')::us
 |us=>us
noncomputable def uQ (d:Dr):List U_->List U_
 |[]=>[]
 |(rs,k)::us=>match d with
  |.row r=>(rs++[r],k)::us
  |.wh e=>if us.length+1<5 then ([],.W e)::(rs,k)::us else (rs++[.wh e .nil],k)::us
  |.iff e=>if us.length+1<5 then ([],.I1 e)::(rs,k)::us else (rs++[.iff e .nil .nil],k)::us
def pY(us:List U_)(c:Int)(d:Dr):List U_:=if ((c%8==0)&&decide ((us.length:Int)>1))=G then yz us else uQ d us
def gs(b:Nat):List Fr->Prop
 |[]=>False
 |[f]=>f.kd=.root/\f.n=b
 |f::g::r=>f.kd≠.root/\gs b (g::r)
abbrev stk(fs:List Fr):List PV:=fs.reverse.map λf=>ZA f.s
def j7:stk (f::fs)=stk fs++[ZA f.s]:=by simp[stk]
def Qs:(stk fs).length=fs.length:=by simp[stk]
structure St(mu:Mu)(b S t:Nat)(fs:List Fr):Prop where
 h:Holds mu ((S,.lst (stk fs))::FS fs [])
 fit:∀f∈fs,f.fit
 sh:gs b fs
 ln:fs.length<=5
 sz:∀f∈fs,f.ds.length<=t
def Hb(h:f Y=!(l,Y1))(hl:l.pv=ZA n)(hm:Y1.mu[n]?=!(!(R ws))):oA f Y=!(Zp (ZI (ws.length:Nat)),Y1):=by unfold oA;rw[h,bo,hl];dsimp only;rw[hm]
def W_{Y Y1:Ev}{mu:Mu}(h1:fo Y=!(o,Y1))(i:o.pv=ZA n)(j:Y1.mu[n]?=!(!(R (ws++[p]))))(e:Y1.mu.set n (!(R ws))=mu):Fb fo Y=!(Zp p,#[Y1.vs,mu]):=by unfold Fb;rw[h1,bo,i];dsimp only;rw[j];dsimp only;rw[bS,be,b9,fy (),List.dropLast_concat,e];simp
def Xs(h:f Y=!(Zs p,Y1))(hn:Y1.mu.length=n):nP f Y=!(Zp (ZA n),#[Y1.vs,Y1.mu++[!p]]):=by unfold nP;rw[h,bo,hn]
abbrev ZE(X:PV)(own ls:List Str)(hs:Hd)(ws:List Str)(b S:Nat)(o7 o8:Option Lc)(mu:Mu):Ev:=#[[zS X,zL (SS own),zL (SS ls),zL (gO hs),zL (SS ws),zS (ZA b),zS (ZA S),o7,o8],mu]
abbrev Ah:EF:=aJ (aj 6) (uy (af 1))
abbrev w4:=az c5 (oA Ah) (af 0)
abbrev w_:SF:=aF (qX (zX Ah))
 (cQ (tT w4 bh)
 (qX (Fb (aj 6)))
 cu)
abbrev Xt:SF:=cQ ED
 EB
 cu
abbrev YK:SF:=aF Eh
 (aF (nQ (aJ Ah (af 0)) (aj 8))
 Xt)
abbrev FO:SF:=cQ EC w_ YK
section
variable {X:PV}{own ls:List Str}{hs:Hd}{ws:List Str}{b S:Nat}{o7 o8:Option Lc}{mu:Mu}
def FZ(h:mu[S]?=!(!(R (stk (f::fs))))):Ah (ZE X own ls hs ws b S o7 o8 mu)=!(Zp (ZA f.s),ZE X own ls hs ws b S o7 o8 mu):=
 Ut O O O O h (by rw[j7];show CG _ _)
def Fr.sc_head(f:Fr):∃t,f.sc=ZA f.n::t:=by let(n,s,ds,kd):=f;cases kd<;>show#[_,O]
def XA(h:mu[S]?=!(!(R (stk (f::fs)))))(h2:mu[f.s]?=!(!(R f.sc))):aJ Ah (af 0) (ZE X own ls hs ws b S o7 o8 mu)=!(Zp (ZA f.n),ZE X own ls hs ws b S o7 o8 mu):=by let(t,i):=f.sc_head;show Ut (FZ h) O O O h2 (by rw[i];show kH)
def YL(h:mu[S]?=!(!(R (stk fs)))):oA (aj 6) (ZE X own ls hs ws b S o7 o8 mu)=!(Zp (ZI (fs.length:Nat)),ZE X own ls hs ws b S o7 o8 mu):=by have:=Hb (f:=aj 6) (Y:=ZE X own ls hs ws b S o7 o8 mu) O O h;rw[Qs]at this;show this
def YM{t:Nat}(h:Holds mu ((S,R (stk (f::fs)))::FS (f::fs) []))(i:f.ds.length<=1000):nQ (aJ Ah (af 0)) (aj 8) (ZE X own ls hs ws b S o7 (zS p) mu)=!(.nx (ZE X own ls hs ws b S o7 (zS p) (mu.set f.n (!(R (d8 f.ds++[p])))))):=by let h1:=h.head;let h2:=h.tail;rw[lX]at h2;show wD (Y2:=ZE X own ls hs ws b S o7 (zS p) mu) (XA h1 h2.tail.head) O h2.head O O h2.head ∅ O
end
def Ga(h:f Y=!(l,Y1)):qX f Y=!(.nx Y1):=by unfold qX;rw[h];rfl
section
variable {X:PV}{own ls:List Str}{hs:Hd}{ws:List Str}{b S t:Nat}{o7 o8:Option Lc}{mu:Mu}
def XB(h:mu[S]?=!(!(R (stk fs)))):d9 UC UA (ZE X own ls hs ws b S (zI c) o8 mu)=!((c%8==0)&&decide ((fs.length:Int)>1),ZE X own ls hs ws b S (zI c) o8 mu):=
 nC O (nO (dJ (YL h) O O O O) O)
def Ai(h:gs b (g::fs)):gs b (#[g.n,g.s,d,g.kd]::fs):=by
 cases fs with
 |nil=>show h
 |cons x fs=>show h
def Qt(h:St mu b S t (f::g::fs))(F:f.sc=[ZA f.n])(hu:yz ((f::g::fs).map Fr.u)=((g::fs).map Fr.u).modifyHead λu=>(u.1++[f.kd.u.close (iI f.ds)],u.2)):∃z eT,w_ (ZE X own ls hs ws b S o7 o8 mu)=!(.nx (ZE X own ls hs ws b S o7 o8 z))/\St z b S (t+1) eT/\eT.map Fr.u=yz ((f::g::fs).map Fr.u):=by
 let(H,fit,sh,ln,sz):=h;let N:=sh.1;rw[lX,F]at H;let H1:=H.perm (eM (l₁:=[(S,PV.lst (stk (f::g::fs))),(f.n,R (d8 f.ds))])).symm;let H2:=H1.set (q:=R []);have H3:Holds ((mu.set f.s (!(R []))).set S (!(R (stk (g::fs))))) ((S,R (stk (g::fs)))::(f.s,R [])::(f.n,R (d8 f.ds))::((f.kd.st++dL f.ds)++FS (g::fs) [f.op])):=(H2.perm (List.Perm.swap _ _ _)).set;let H4:=H3.sub ((eH _ _).cons₂ _);let Q:=H4.perm ((FT N).cons _);show#[(mu.set f.s (!(R []))).set S (!(R (stk (g::fs)))),#[g.n,g.s,g.ds++[f.cls],g.kd]::fs,?_,#[?_,λx D=>?_,Ai sh.2,?_,λx D=>?_],?_]
 . let i:_:=mu.set f.s (!(R []));show aH (Ga (Lz (FZ H.head) O H1.head O)) ?_;have tt:tT w4 bh (ZE X own ls hs ws b S o7 o8 i)=!(G,ZE X own ls hs ws b S o7 o8 i):=nO (dJ (Hb (FZ H2.tail.head) O H2.head) O O O O) O;show(nJ tt).trans (Ga (W_ (Y1:=ZE X own ls hs ws b S o7 o8 i) (p:=ZA f.s) O O ?_ O));rw[<-j7];show H2.tail.head
 . have e:stk (#[g.n,g.s,g.ds++[f.cls],g.kd]::fs)=stk (g::fs):=by rw[j7,j7]
   rw[e];show Q
 . obtain rfl|D:=aT.mp D
   . let(g1,W):=fit g (by simp);show#[λd j=>?_,W];obtain j|j:=cx.mp j
     . show g1 d j
     . rw[eL.mp j];show Qq (fit f (by simp)) N
   . show fit x ∅
 . simp only[be]at ln ⊢;lia
 . obtain rfl|D:=aT.mp D
   . have:=sz g (by simp);simp only[bS,be,b9];lia
   . have:=sz x ∅;lia
 . rw[hu];show (iI (g.ds++[f.cls]),g.kd.u)::fs.map Fr.u=(iI g.ds++[f.kd.u.close (iI f.ds)],g.kd.u)::fs.map Fr.u;rw[iI,cy,List.map_singleton,YJ]
def Xv(h:St mu b S t (f::g::fs)):∃i eT,w_ (ZE X own ls hs ws b S o7 o8 mu)=!(.nx (ZE X own ls hs ws b S o7 o8 i))/\St i b S (t+1) eT/\eT.map Fr.u=yz ((f::g::fs).map Fr.u):=by
 let(n,s,ds,kd):=f;cases kd with
 |root=>show absurd O h.sh.1
 |W e=>show Qt h O O
 |I2 e m bs=>show Qt h O O
 |I1 e m=>
  let(H,fit,sh,ln,sz):=h;let f:Fr:=#[n,s,ds,.I1 e m];let N:Fr:=#[m,s,[],.I2 e n ds];rw[lX]at H;let z:=H;let H1:=z.perm (eM (l₁:=[(S,PV.lst (stk (f::g::fs))),(n,R (d8 ds))])).symm;let H2:=H1.set (q:=R [ZA m]);show#[mu.set s (!(R [ZA m])),N::g::fs,?_,#[?_,λx j=>?_,#[∅,sh.2],ln,λx j=>?_],?_]
  . let D:_:=mu.set s (!(R [ZA m]));show aH (Ga (Lz (FZ z.head) O H1.head O)) ?_;have tt:tT w4 bh (ZE X own ls hs ws b S o7 o8 D)=!(M,ZE X own ls hs ws b S o7 o8 D):=nO (dJ (Hb (FZ H2.tail.head) O H2.head) O O O O) O;show(nM tt).trans O
  . let e:=(j7 (f:=N)).trans (j7 (f:=f) (fs:=g::fs)).symm;rw[lX,e];show Holds _ ((S,R (stk (f::g::fs)))::(m,R [])::(s,R [ZA m])::(n,R (d8 ds))::((dL ds++[])++FS (g::fs) [f.op]));rw[d0];show H2.perm ?_;show(eM (l₁:=[(S,PV.lst (stk (f::g::fs))),(m,R [])])).trans (((List.Perm.swap _ _ _).cons _).cons _)
  . obtain rfl|j:=aT.mp j
    . let(g1,g2):=fit f ∅;show#[(λd Q=>(by cases Q)),g2,g1]
    . show fit x ∅
  . obtain rfl|j:=aT.mp j
    . show d3 _
    . have:=sz x ∅;lia
  . rfl
def XI(h:Holds mu ((S,R (stk (f::fs)))::FS (f::fs) []))(h2:Holds mu (L++((S,R (stk (f::fs)))::FS (f::fs) [])))(D:d.L=L):Holds (mu.set f.n (!(R (d8 f.ds++[d.p])))) ((S,R (stk (f::fs)))::FS (#[f.n,f.s,f.ds++[d],f.kd]::fs) []):=by
 rw[lX]at h2;have j:List.Perm ((f.n,PV.lst (d8 f.ds))::(L++((S,R (stk (f::fs)))::(f.s,R f.sc)::((f.kd.st++dL f.ds)++FS fs [f.op])))) (L++((S,R (stk (f::fs)))::(f.n,R (d8 f.ds))::(f.s,R f.sc)::((f.kd.st++dL f.ds)++FS fs [f.op]))):=by have:=(eM (l₁:=L++[(S,PV.lst (stk (f::fs)))]) (a:=(f.n,PV.lst (d8 f.ds))) (l₂:=(f.s,R f.sc)::((f.kd.st++dL f.ds)++FS fs [f.op]))).symm;simpa using this
 let H1:=(h2.perm j).set (q:=R (d8 f.ds++[d.p]));have z:(#[f.n,f.s,f.ds++[d],f.kd]:Fr).op=f.op:=by cases f with |mk n s ds kd=>cases kd<;>rfl
 have es:(#[f.n,f.s,f.ds++[d],f.kd]:Fr).sc=f.sc:=by cases f with |mk n s ds kd=>cases kd<;>rfl
 rw[lX,z,es];rw[show d8 (f.ds++[d])=d8 f.ds++[d.p] by simp[d8],MK,show dL [d]=L by rw[<-D];show d0 _];show H1.perm ?_;have q:List.Perm ((f.kd.st++(dL f.ds++L))++FS fs [f.op]) (L++((f.kd.st++dL f.ds)++FS fs [f.op])):=by rw[<-cw (f.kd.st),<-cw L];show List.perm_append_comm.append_right _
 let i:=((q.cons (f.s,PV.lst f.sc)).cons (S,PV.lst (stk (f::fs)))).trans ((List.perm_middle.symm.cons _).trans eM.symm);show(List.Perm.swap _ _ _).trans (i.cons _)
def XO(h:St mu b S t (f::fs))(z:d.fit)(H:Holds fw ((S,R (stk (f::fs)))::FS (#[f.n,f.s,f.ds++[d],f.kd]::fs) [])):St fw b S (t+1) (#[f.n,f.s,f.ds++[d],f.kd]::fs):=by
 let(_,fit,sh,q,sz):=h;show#[?_,λx j=>?_,Ai sh,by simpa using q,λx j=>?_]
 . have e:stk (#[f.n,f.s,f.ds++[d],f.kd]::fs)=stk (f::fs):=by rw[j7,j7]
   rw[e];show H
 . obtain rfl|j:=aT.mp j
   . let(F,D):=fit f (by simp);show#[λy i=>?_,D];obtain i|i:=cx.mp i
     . show F y i
     . rw[eL.mp i];show z
   . show fit x ∅
 . obtain rfl|j:=aT.mp j
   . have:=sz f (by simp);simp only[bS,be,b9];lia
   . have:=sz x ∅;lia
end
section
variable {X:PV}{own ls:List Str}{hs:Hd}{ws:List Str}{b S t:Nat}{o7 o8:Option Lc}{mu:Mu}
def Xw{f F:Fr}(z:F.ds=[])(i:Holds mu (((F.n,R [])::F.kd.st)++((S,R (stk (f::fs)))::FS (f::fs) [])))(hs:F.s=mu.length):
 Holds ((mu.set f.n (!(PV.lst (d8 f.ds++[F.op])))++[!(PV.lst F.sc)]).set S (!(PV.lst (stk (F::f::fs))))) ((S,R (stk (F::f::fs)))::FS (F::f::fs) []):=by
 rw[lX]at i;let K:_:=F.kd.st;let A:Nat×PV:=(F.n,R []);let E:Nat×PV:=(f.s,R f.sc);let ZN:_:=(f.kd.st++dL f.ds)++FS fs [f.op];have N:List.Perm ((f.n,PV.lst (d8 f.ds))::((S,R (stk (f::fs)))::((A::K)++(E::ZN)))) (((F.n,R [])::F.kd.st)++((S,R (stk (f::fs)))::(f.n,R (d8 f.ds))::E::ZN)):=by show List.Perm.trans ?_ (eM).symm;show(List.Perm.swap _ _ _).trans ((eM).symm.cons _)
 let H1:=(i.perm N).set (q:=R (d8 f.ds++[F.op]));let H2:=H1.push (R F.sc);rw[mf,<-hs]at H2;let B:Nat×PV:=(F.s,R F.sc);let D:Nat×PV:=(f.n,R (d8 f.ds++[F.op]));let Q:=H2.perm (eM (l₁:=[B,D])).symm;let j:=Q.set (q:=R (stk (F::f::fs)));show j.perm (List.Perm.cons _ ?_);rw[lX,z];show List.Perm (A::B::((K++[])++(D::E::ZN))) (B::D::((A::K)++(E::ZN)));rw[d0];show(List.Perm.swap _ _ _).trans ((((eM).cons A).trans (List.Perm.swap _ _ _)).cons B)
def wZ:aJ (aj 8) (af 0) (ZE X own ls hs ws b S o7 (zS (ZB (ZH w::ps))) mu)=!(Zp (ZH w),ZE X own ls hs ws b S o7 (zS (ZB (ZH w::ps))) mu):=
 dW O O O O (λn h=>by cases h) (by show (fY (PV.str w::ps) 0).map _=_;rw[kH];rfl)
def MN(h:mu[S]?=!(!(R (stk fs)))):d9 EA Ef (ZE X own ls hs ws b S o7 (zS (ZB (ZH w::ps))) mu)=!(mY w&&decide ((fs.length:Int)<5),ZE X own ls hs ws b S o7 (zS (ZB (ZH w::ps))) mu):=
 nC (nO (bD wZ O O) O) (nO (dJ (YL h) O O O O) O)
def Ds{d:Dr}(W:iu [ZI c,R (SS own),R (SS ls),R (gO hs),R (SS ws)] mu=!(Zp (d.pv mu.length),mu++d.cl))(h:St mu b S t (f::fs))(ht:t<=1000)
 (z:d.pv mu.length=ZB (ZH w::ps)) (hD:D.p=d.pv mu.length) (N:D.fit) (hL:Holds (mu++d.cl) (D.L++((S,R (stk (f::fs)))::FS (f::fs) []))) (hb:(mY w&&decide (((f::fs).length:Int)<5))=M):
 ∃i Q,YK (ZE X own ls hs ws b S (zI c) o8 mu)=!(.nx (ZE X own ls hs ws b S (zI c) Q i))/\St i b S (t+1) (#[f.n,f.s,f.ds++[D],f.kd]::fs):=by
 let F:=h.h.grow d.cl;let hz:=h.sz f bi;let C:Option Lc:=zI c;let P:Option Lc:=zS (d.pv mu.length);let q:=XI F hL O;rw[hD]at q;show#[(mu++d.cl).set f.n (!(PV.lst (d8 f.ds++[d.pv mu.length]))),P,?_,XO h N q];show aH (bu (aU O O O O W) O O) ?_;show aH (YM (t:=t) F ()) ?_;let j:=MN (X:=X) (own:=own) (ls:=ls) (hs:=hs) (ws:=ws) (b:=b) (o7:=C) (w:=w) (ps:=ps) q.head;rw[hb]at j;rw[show P=zS (ZB (ZH w::ps)) from congrArg (λx=>!(Lc.sh x)) z,z];rw[z]at j;show(nM j).trans O
def MP{f F:Fr}{d:Dr}(er:iu [ZI c,R (SS own),R (SS ls),R (gO hs),R (SS ws)] mu=!(Zp (d.pv mu.length),mu++d.cl))(h:St mu b S t (f::fs))(ht:t<=1000)
 (hp:d.pv mu.length=ZB (ZH w::ps)) (hF:F.ds=[]) (XT:F.op=d.pv mu.length) (hk:F.fit) (hr:F.kd≠.root) (hU:F.s=(mu++d.cl).length) (hL:Holds (mu++d.cl) (((F.n,R [])::F.kd.st)++((S,R (stk (f::fs)))::FS (f::fs) []))) (hb:(mY w&&decide (((f::fs).length:Int)<5))=G)
 (hc:∀mu:Mu,cF UB 1 [] (aC 0) bQ (aj 0) (ZE X own ls hs ws b S (zI c) (zS F.op) mu)=!(Zs (R F.sc),ZE X own ls hs ws b S (zI c) (zS F.op) mu)):
 ∃N p8,YK (ZE X own ls hs ws b S (zI c) o8 mu)=!(.nx (ZE X own ls hs ws b S (zI c) p8 N))/\St N b S (t+1) (F::f::fs):=by
 let Q:=h.h.grow d.cl;let hz:=h.sz f bi;let C:Option Lc:=zI c;let P:Option Lc:=zS F.op;let H5:=Xw hF hL hU;let(_,fit,sh,ln,sz):=h;have D:(f::fs).length<5:=by let h2:=(gt _ _▸hb).2;let h3:=of_decide_eq_true h2;lia
 let i:_:=(mu++d.cl).set f.n (!(PV.lst (d8 f.ds++[F.op])));have j:i[S]?=!(!(R (stk (f::fs)))):=by
  have ne:f.n≠S:=by let nd:=Q.1;show λq=>(f6.mp nd).1 (by rw[<-q];show bi)
  rw[nK ne];show Q.head
 show#[(i++[!(PV.lst F.sc)]).set S (!(PV.lst (stk (F::f::fs)))),P,?_,#[H5,λx z=>?_,#[hr,sh],by simp only[be]at D ⊢;lia,λx z=>?_]]
 . show aH (bu (l:=Zp F.op) (aU O O O O (by rw[XT];show er)) O O) ?_;show aH (YM (t:=t) Q ()) ?_;let tt:=MN (X:=X) (own:=own) (ls:=ls) (hs:=hs) (ws:=ws) (b:=b) (o7:=C) (w:=w) (ps:=ps) j;rw[hb]at tt;have e9:P=zS (ZB (ZH w::ps)):=congrArg (λx=>!(Lc.sh x)) ∅;have W:d9 EA Ef (ZE X own ls hs ws b S C P i)=!(G,ZE X own ls hs ws b S C P i):=by rw[e9];show tt
   show(nJ W).trans ?_;let lt:=(de.mp j).1;show wD (ws:=stk (f::fs)) (p:=ZA F.s) O O j (Xs (hc i) ∅) O ?_ ∅ ?_
   . rw[hE lt];show j
   . rw[<-j7]
 . obtain rfl|z:=aT.mp z
   . show hk
   . show fit x z
 . obtain rfl|z:=aT.mp z
   . rw[hF];show d3 _
   . have:=sz x z;lia
def Xx(j:d.ok)(Q:∀mu,iu [ZI c,R (SS own),R (SS ls),R (gO hs),R (SS ws)] mu=!(Zp (d.pv mu.length),mu++d.cl))(h:St mu b S t (f::fs))(ht:t<=1000):
 ∃i eT z,YK (ZE X own ls hs ws b S (zI c) o8 mu)=!(.nx (ZE X own ls hs ws b S (zI c) z i))/\St i b S (t+1) eT/\eT.map Fr.u=uQ d ((f::fs).map Fr.u):=by
 have hl:(fs.map Fr.u).length=fs.length:=bq _;cases d with
 |row r=>
  let hr:=j;obtain⟨w,ps,e,hw⟩:∃w ps,r.pv=ZB (ZH w::ps)/\mY w=M:=by
   cases r with
   |leaf w ps=>show#[w,ps,O,Qm hr.1]
   |call x n as=>show#["call",_,O,by decide +kernel]
   |wh x c=>cases hr
   |iff x c d=>cases hr
  let(i,z,N,D):=Ds (Q mu) h ht e O (WU hr) (by rw[show mu++Dr.cl (.row r)=mu from d0 _];show h.h) (by rw[hw];rfl);show#[i,_,z,N,D,?_];show (iI (f.ds++[#[r.pv,r,[]]]),f.kd.u)::fs.map Fr.u=(iI f.ds++[r],f.kd.u)::fs.map Fr.u;rw[iI,cy];rfl
 |wh e=>
  let he:=j;let H1:=h.h.push (R []);by_cases hb:fs.length+1<5
  . let(i,z,N,D):=MP (F:=#[mu.length,mu.length+1,[],.W e]) (Q mu) h ht (w:="while") O O O #[(λd j=>(by cases j)),he] (by intro q;cases q) (by simp[Dr.cl]) H1 (by rw[show mY "while"=G by decide +kernel,Bool.true_and];show js (by simp only[be];lia)) (λmu=>O)
    show#[i,_,z,N,D,?_];show _=if (fs.map Fr.u).length+1<5 then _ else _
    rw[hl,av hb];rfl
  . let(i,z,N,D):=Ds (Q mu) h ht (w:="while") O O (Vj (ds:=[]) he λd j=>by cases j) H1 (by rw[show mY "while"=G by decide +kernel,Bool.true_and];show im (by simp only[be];lia))
    show#[i,_,z,N,D,?_];show _=if (fs.map Fr.u).length+1<5 then _ else _
    rw[hl,aE hb];show (iI (f.ds++[_]),f.kd.u)::fs.map Fr.u=_;rw[iI,cy];rfl
 |iff e=>
  let he:=j;let FR:=(h.h.push (R [])).push (R []);have D:(mu++[!(PV.lst [])])++[!(PV.lst [])]=mu++Dr.cl (.iff e):=by simp[Dr.cl]
  rw[D,show (mu++[!(PV.lst [])]).length=mu.length+1 by simp]at FR;let H1:=FR.perm (List.Perm.swap _ _ _);by_cases hb:fs.length+1<5
  . let(i,z,N,D):=MP (F:=#[mu.length,mu.length+2,[],.I1 e (mu.length+1)]) (Q mu) h ht (w:="if") O O O #[(λd j=>(by cases j)),he] (by intro q;cases q) (by simp[Dr.cl]) H1 (by rw[show mY "if"=G by decide +kernel,Bool.true_and];show js (by simp only[be];lia)) (λmu=>O)
    show#[i,_,z,N,D,?_];show _=if (fs.map Fr.u).length+1<5 then _ else _
    rw[hl,av hb];rfl
  . let(i,z,N,D):=Ds (Q mu) h ht (w:="if") O O (Ha (bs:=[]) (ds:=[]) he (λd j=>by cases j) λd j=>by cases j) H1 (by rw[show mY "if"=G by decide +kernel,Bool.true_and];show im (by simp only[be];lia))
    show#[i,_,z,N,D,?_];show _=if (fs.map Fr.u).length+1<5 then _ else _
    rw[hl,aE hb];show (iI (f.ds++[_]),f.kd.u)::fs.map Fr.u=_;rw[iI,cy];rfl
end
def MT(fx:Nat)(r:ah):Prop:=r.ok/\r.dep<=10-2*fx/\r.bl+1<=3*2 ^ (4-fx)
def UK.ok(fx:Nat):UK->Prop
 |.root=>fx=0
 |.W e=>0<fx/\XG e
 |.I1 e=>0<fx/\XG e
 |.I2 e b=>0<fx/\XG e/\∀r∈b,MT fx r
def uR:List U_->Prop
 |[]=>True
 |u::us=>(∀r∈u.1,MT us.length r)/\u.2.ok us.length/\uR us
def UK.cnt:UK->Nat
 |.root=>0
 |.W _=>1
 |.I1 _=>1
 |.I2 _ b=>fO b+1
def ie:List U_->Nat
 |[]=>0
 |u::us=>fO u.1+u.2.cnt+ie us
def Dt{rs:List ah}(q:fx<=4)(h:∀r∈rs,MT fx r):(ar rs).ok/\(ar rs).dep<=11-2*fx/\(ar rs).bl+1<=3*2 ^ (4-fx):=by
 have j:1<=2 ^ (4-fx):=Nat.one_le_two_pow;show#[su _ λr i=>(h r i).1,yR () _ λr i=>?_,?_]
 . have:=(h r i).2.1;lia
 . have:=Ag (n:=3*2 ^ (4-fx)-1) rs λr i=>by have:=(h r i).2.2;lia
   lia
def IW{k:UK}{rs:List ah}(q:fx+1<=4)(hk:k.ok (fx+1))(h:∀r∈rs,MT (fx+1) r):MT fx (k.close rs)/\(k.close rs).cnt=fO rs+k.cnt:=by
 let(i,N,g3):=Dt q h;have e:2 ^ (4-fx)=2*2 ^ (4-(fx+1)):=by rw[show 4-fx=(4-(fx+1))+1 by lia,Nat.pow_succ,Nat.mul_comm]
 have D:Rows.dep .nil=1:=O;cases k with
 |root=>cases hk
 |W e=>
  show#[#[#[hk.2,i],?_,?_],?_]
  . show (ar rs).dep+1<=_;lia
  . show 1+1<=_;lia
  . show (ar rs).cnt+1=_;rw[mK];rfl
 |I1 e=>
  show#[#[#[hk.2,i,True.intro],?_,?_],?_]
  . show max (ar rs).dep (Rows.dep .nil)+1<=_;lia
  . show 1+(ar rs).bl+0+1<=_;lia
  . show (ar rs).cnt+0+1=_;rw[mK];rfl
 |I2 e b=>
  let(z,b2,b3):=Dt q hk.2.2;show#[#[#[hk.2.1,z,i],?_,?_],?_]
  . show max (ar b).dep (ar rs).dep+1<=_;lia
  . show 1+(ar b).bl+(ar rs).bl+1<=_;lia
  . show (ar b).cnt+(ar rs).cnt+1=fO rs+(fO b+1);rw[mK,mK];lia
def XU(F:d.ok)(h:uR i)(hl:i.length<=5)(hn:i≠[]):uR (uQ d i)/\(uQ d i).length<=5/\uQ d i≠[]/\ie (uQ d i)<=ie i+1:=by
 cases i with
 |nil=>show absurd O hn
 |cons u i=>
  let(rs,k):=u;let(h1,h2,Q):=h;simp only[be]at hl;have hp:1<=2 ^ (4-i.length):=Nat.one_le_two_pow;have put:∀r:ah,MT i.length r->r.cnt=1->uR ((rs++[r],k)::i)/\((rs++[r],k)::i).length<=5/\((rs++[r],k)::i)≠[]/\ie ((rs++[r],k)::i)<=ie ((rs,k)::i)+1:=λr q hc=>by
   show#[#[λx D=>?_,h2,Q],(),∅,?_]
   . obtain D|D:=cx.mp D
     . show h1 x D
     . rw[eL.mp D];show q
   . show fO (rs++[r])+k.cnt+ie i<=fO rs+k.cnt+ie i+1;rw[Dq];have:fO [r]=r.cnt:=by simp[fO]
     lia
  have push:∀z:UK,z.ok (i.length+1)->z.cnt=1->i.length+1<5->uR (([],z)::(rs,k)::i)/\(([],z)::(rs,k)::i).length<=5/\(([],z)::(rs,k)::i)≠[]/\ie (([],z)::(rs,k)::i)<=ie ((rs,k)::i)+1:=λz hk hc j=>by show#[#[λx D=>(by cases D),hk,h1,h2,Q],(),∅,?_];show fO []+z.cnt+ie ((rs,k)::i)<=_;have:fO []=0:=O;lia
  cases d with
  |row r=>
   let q:=F;show put r ?_ ?_
   . cases r with
     |leaf w ps=>show#[q,by show 1<=_;lia,by show 1+1<=_;lia]
     |call x n as=>show#[q,by show 1<=_;lia,by show 2+1<=_;lia]
     |wh x c=>cases q
     |iff x c d=>cases q
   . cases r with
     |leaf w ps=>rfl
     |call x n as=>rfl
     |wh x c=>cases q
     |iff x c d=>cases q
  |wh e=>
   by_cases j:i.length+1<5
   . rw[uQ,av j];show push (.W e) #[(),F] O j
   . rw[uQ,aE j];show put (.wh e .nil) #[#[F,True.intro],by show 1+1<=_;lia,by show 1+1<=_;lia] O
  |iff e=>
   by_cases j:i.length+1<5
   . rw[uQ,av j];show push (.I1 e) #[(),F] O j
   . rw[uQ,aE j];show put (.iff e .nil .nil) #[#[F,True.intro,True.intro],by show max 1 1+1<=_;lia,by show 1+0+0+1<=_;lia] O
def XW(h:uR j)(F:j.length<=5)(hn:j.length>1):uR (yz j)/\(yz j).length<=5/\yz j≠[]/\ie (yz j)<=ie j+1:=by
 match j,h,F,hn with
 |(rs,k)::(i,z)::j,h,F,hn=>
  let(h1,h2,N,h4,h5):=h;simp only[be]at F h1 h2;have low:uR ((i++[k.close rs],z)::j)/\((i++[k.close rs],z)::j).length<=5/\((i++[k.close rs],z)::j)≠[]/\ie ((i++[k.close rs],z)::j)<=ie ((rs,k)::(i,z)::j)+1:=by
   let(c1,c2):=IW () h2 h1;show#[#[λx D=>?_,h4,h5],∅,∅,?_]
   . obtain D|D:=cx.mp D
     . show N x D
     . rw[eL.mp D];show c1
   . show fO (i++[k.close rs])+z.cnt+ie j<=fO rs+k.cnt+(fO i+z.cnt+ie j)+1;rw[Dq];have:fO [k.close rs]=(k.close rs).cnt:=by simp[fO]
     lia
  cases k with
  |root=>cases h2
  |W e=>show low
  |I2 e b=>show low
  |I1 e=>
   show#[#[λx D=>(by cases D),#[h2.1,h2.2,h1],N,h4,h5],F,(by intro q;cases q),?_];show fO []+(fO rs+1)+ie ((i,z)::j)<=fO rs+1+ie ((i,z)::j)+1;have:fO []=0:=O;lia
def t7:List U_->List Int->List Dr->List U_
 |us,c::cs,d::ds=>t7 (pY us c d) cs ds
 |us,_,_=>us
def Xy(z:d.ok)(h:uR us)(i:us.length<=5)(j:us≠[]):uR (pY us c d)/\(pY us c d).length<=5/\pY us c d≠[]/\ie (pY us c d)<=ie us+1:=by
 unfold pY;split
 . rename_i q;let h2:=(gt _ _▸q).2;let D:=of_decide_eq_true h2;show XW h i ()
 . show XU z h i j
theorem M3:∀(cs:List Int)(ds:List Dr)(i:List U_),(∀d∈ds,d.ok)->uR i->i.length<=5->i≠[]->uR (t7 i cs ds)/\(t7 i cs ds).length<=5/\t7 i cs ds≠[]/\ie (t7 i cs ds)<=ie i+cs.length
 |[],ds=>λi _ h q j=>#[h,q,j,bv _]
 |c::cs,[]=>λi _ h q j=>#[h,q,j,k_ _ _]
 |c::cs,d::ds=>λi z h q j=>by let(g1,F,g3,g4):=Xy (z d bi) h q j;let(Q,D,W,k4):=M3 cs ds (pY i c d) (λx N=>z x (cv _ N)) g1 F g3;show#[Q,D,W,?_];simp only[be];show ie (t7 (pY i c d) cs ds)<=_;lia
def Bv(u v:U_):U_:=(v.1++[u.2.close u.1],v.2)
def Aj:List U_->List ah
 |[]=>[]
 |u::us=>(us.foldl Bv u).1
theorem Ja:∀(i:List U_)(u:U_),uR (u::i)->(u::i).length<=5->(∀r∈Aj (u::i),MT 0 r)/\fO (Aj (u::i))<=ie (u::i)
 |[]=>λu h _=>#[h.1,by show fO u.1<=fO u.1+u.2.cnt+0;lia]
 |v::i=>λu h D=>by
  let(h1,h2,z,N,F):=h;simp only[be]at D h1 h2;let(c1,Q):=IW () h2 h1;let q:=Ja i (Bv u v) #[λx j=>by
   obtain j|j:=cx.mp j
   . show z x j
   . rw[eL.mp j];show c1,N,F] ∅
  show#[q.1,eI q.2 ?_];show fO (v.1++[u.2.close u.1])+v.2.cnt+ie i<=fO u.1+u.2.cnt+(fO v.1+v.2.cnt+ie i);rw[Dq];have:fO [u.2.close u.1]=(u.2.close u.1).cnt:=by simp[fO]
  lia
theorem Jb:∀(fs:List Fr)(f:Fr),Holds mu (FS (f::fs) [])->(∀x∈f::fs,x.fit)->gs b (f::fs)->∃F:Fr,Holds mu (FS [F] [])/\F.fit/\F.n=b/\iI F.ds=Aj ((f::fs).map Fr.u)
 |[]=>λf h i hs=>#[f,h,i f bi,hs.2,O]
 |g::fs=>λf h i hs=>by
  let z:=hs.1;let H:=Od z h;let(F,W,D,k3,Q):=Jb fs #[g.n,g.s,g.ds++[f.cls],g.kd] H (λx q=>by
   obtain rfl|q:=aT.mp q
   . let(g1,N):=i g (by simp);show#[λd j=>?_,N];obtain j|j:=cx.mp j
     . show g1 d j
     . rw[eL.mp j];show Qq (i f bi) z
   . show i x ∅) (Ai hs.2)
  show#[F,W,D,k3,Q.trans ?_];show ((fs.map Fr.u).foldl Bv (Fr.u #[g.n,g.s,g.ds++[f.cls],g.kd])).1=((fs.map Fr.u).foldl Bv (Bv f.u g.u)).1;have e:Fr.u #[g.n,g.s,g.ds++[f.cls],g.kd]=Bv f.u g.u:=by show (iI (g.ds++[f.cls]),g.kd.u)=(iI g.ds++[f.kd.u.close (iI f.ds)],g.kd.u);rw[iI,cy,List.map_singleton,YJ]
  rw[e]
section
variable {X:PV}{own ls:List Str}{hs:Hd}{ws:List Str}
def XY(hd:d.ok)(er:∀mu,iu [ZI c,R (SS own),R (SS ls),R (gO hs),R (SS ws)] mu=!(Zp (d.pv mu.length),mu++d.cl))(h:St mu b S t fs)(ht:t<=1000):
 ∃i eT D,FO (ZE X own ls hs ws b S (zI c) o8 mu)=!(.nx (ZE X own ls hs ws b S (zI c) D i))/\St i b S (t+1) eT/\eT.map Fr.u=pY (fs.map Fr.u) c d:=by
 let j:=XB (X:=X) (own:=own) (ls:=ls) (hs:=hs) (ws:=ws) (b:=b) (o8:=o8) (c:=c) h.h.head;have q:pY (fs.map Fr.u) c d=if ((c%8==0)&&decide ((fs.length:Int)>1))=G then yz (fs.map Fr.u) else uQ d (fs.map Fr.u):=by unfold pY;rw[bq]
 cases Q:((c%8==0)&&decide ((fs.length:Int)>1)) with
 |true=>
  rw[Q]at j q;let h2:=(gt _ _▸Q).2;let z:=of_decide_eq_true h2
  match fs,h,z,j,q with
  |f::g::fs,h,z,j,q=>
   let(i,eT,F,N,W):=Xv h;show#[i,eT,o8,(nJ j).trans F,N,W.trans ∅]
  |[f],h,z,j,q=>simp at z
  |[],h,z,j,q=>simp at z
 |false=>
  rw[Q]at j q
  match fs,h,j,q with
  |f::fs,h,j,q=>
   let(i,eT,D,F,N,W):=Xx hd er h ht;show#[i,eT,D,(nM j).trans F,N,W.trans ∅]
  |[],h,j,q=>show h.sh.elim
theorem Qu(ho:Sh own)(i:Sh ls)(hh:∀h∈hs,h.1.length<=1000/\h.2.length<=26/\FN.fn h.1):∀(cs:List Int),∃ds:List Dr,(∀d∈ds,d.ok)/\∀(X:PV)(b S t:Nat)(o7 o8:Option Lc)(mu:Mu)(fs:List Fr),St mu b S t fs->t+cs.length<=1000->
 ∃j eT N z,fG (aC 7) FO (cs.map PV.int) (ZE X own ls hs ws b S o7 o8 mu)=!(.nx (ZE X own ls hs ws b S N z j))/\St j b S (t+cs.length) eT/\eT.map Fr.u=t7 (fs.map Fr.u) cs ds
 |[]=>#[[],λd q=>(by cases q),λX b S t o7 o8 mu fs h _=>#[mu,fs,o7,o8,O,h,O]]
 |c::cs=>by
  let(d,q,er):=WO c ho i hs ws hh;let(ds,D,ih):=Qu ho i hh cs;show#[d::ds,λx W=>?_,λX b S t o7 o8 mu fs h hl=>?_]
  . obtain rfl|W:=aT.mp W
    . show q
    . show D x W
  . simp only[be]at hl;let(gy,F,q8,e1,e2,e3):=XY q er h ();let(Q,XZ,N,z,k1,k2,k3):=ih X b S (t+1) (zI c) q8 gy F e2 ();show#[Q,XZ,N,z,gJ O e1 k1,?_,k3.trans (by rw[e3];rfl)];rw[show t+(c::cs).length=t+1+cs.length by simp only[be];omega];show k2
def Qv(ho:Sh own)(gN:Sh ls)(hh:∀h∈hs,h.1.length<=1000/\h.2.length<=26/\FN.fn h.1)(cs:List Int)(hc:cs.length<=900):∃rs:Rows,rs.ok/\rs.dep<=11/\rs.bl<=47/\rs.cnt<=cs.length/\∀mu,∃j,rH [R (cs.map PV.int),R (SS own),R (SS ls),R (gO hs),R (SS ws)] mu=!(Zp (R rs.pvs),j):=by
 let(ds,x9,lp):=Qu ho gN hh cs;let(g1,g2,g3,g4):=M3 cs ds [([],.root)] x9 #[λx N=>(by cases N),O,True.intro] () ();obtain⟨u,D,eu⟩:∃u D,t7 [([],.root)] cs ds=u::D:=by
  cases h:t7 [([],.root)] cs ds with
  |nil=>show absurd h g3
  |cons u D=>show#[u,D,O]
 rw[eu]at g1 g2 g4;let(k1,k2):=Ja D u g1 g2;let(r1,r2,r3):=Dt () k1;show#[ar (Aj (u::D)),r1,r2,?_,?_,λmu=>?_]
 . have:3*2 ^ (4-0)=48:=by decide
   lia
 . rw[mK];have:ie [(([],.root):U_)]=0:=O;lia
 . let b:_:=mu.length;let q:Mu:=mu++[!(R [])];let i:Mu:=q++[!(R [ZA b])];let z:Mu:=i++[!(R [ZA q.length])];let f0:Fr:=#[b,q.length,[],.root];let X:PV:=R (cs.map PV.int);have H:Holds z ((i.length,R [ZA q.length])::(q.length,R [ZA b])::(b,R [])::[]):=((Holds.push (L:=[]) #[mo,λx N=>(by cases N)] _).push _).push _;have st:St z b i.length 0 [f0]:=#[H.perm ((List.Perm.swap _ _ _).cons _),λx N=>(by
    rw[eL.mp N];show#[λd W=>(by cases W),True.intro]),#[O,O],(by simp),λx N=>(by
    rw[eL.mp N];show bv _)]
   let(j,eT,p7,p8,e1,Q,e3):=lp X b i.length 0 J J z [f0] st ();obtain⟨f,fs,ef⟩:∃f fs,eT=f::fs:=by
    cases eT with
    |nil=>show Q.sh.elim
    |cons f fs=>show#[f,fs,O]
   subst ef;let(F,c1,c2,c3,c4):=Jb fs f Q.h.tail Q.fit Q.sh;let e4:=e3.trans eu;rw[e4]at c4;rw[lX]at c1;have X0:fJ j 40 (ZA b)=R (ar (Aj (u::D))).pvs:=by
    rw[<-c4,<-c3];show Bu c2.1 c1.head (c1.tail.tail.sub ?_) λd W=>?_
    . show(kT _ _).trans (hY _ _)
    . have:=(k1 d.r (by rw[<-c4];show cK.mpr #[d,W,O])).2.1;lia
   show#[j.map λ_=>J,?_];let A:Mu->Option Lc->Option Lc->Option Lc->Option Lc->Ev:=λm o5 o6 o7 o8=>#[[zS X,zL (SS own),zL (SS ls),zL (gO hs),zL (SS ws),o5,o6,o7,o8],m];show aN (Y:=A (j.map λ_=>J) (zS (ZA b)) (zS (ZA i.length)) p7 p8) ?_;show aH O (aH O (aH (dZ (dM O O) e1) (cL (Xh (Y1:=ZE X own ls hs ws b i.length p7 p8 j) O X0))))
end
theorem Ak:∀ps:List PV,(∀p∈ps,f p p=!G)->ux f ps ps=!G
 |[]=>λ_=>rfl
 |p::ps=>λh=>by show (f p p).bind _=_;rw[h p bi,bo,Ak ps λq i=>h q (cv _ i)];rfl
def lY(h:∀p∈ps,dm n p p=!G):dm (n+1) (ZB ps) (ZB ps)=!G:=by show (ux (dm n) ps ps).map _=_;rw[Ak ps h];rw[io];rfl
def jk(h:∀p∈ps,dm n p p=!G):dm (n+1) (R ps) (R ps)=!G:=by show (if ps.length=ps.length then ux (dm n) ps ps else !M)=_;rw[av O,Ak ps h]
mutual
theorem Qw:∀(p:PV)(n:Nat),cZ p=G->uN p<=n->dm n p p=!G
 |.non,n,_,h=>by obtain⟨m,rfl⟩:∃m,n=m+1:=#[n-1,by simp only[uN]at h;lia];rfl
 |.bl x,n,_,h=>by obtain⟨m,rfl⟩:∃m,n=m+1:=#[n-1,by simp only[uN]at h;lia];show some (x==x)=_;rw[io]
 |ZI x,n,_,h=>by obtain⟨m,rfl⟩:∃m,n=m+1:=#[n-1,by simp only[uN]at h;lia];show some (x==x)=_;rw[io]
 |ZH x,n,_,h=>by obtain⟨m,rfl⟩:∃m,n=m+1:=#[n-1,by simp only[uN]at h;lia];show some (x==x)=_;rw[io]
 |ZB ps,n,f,h=>by simp only[uN]at h;obtain⟨m,rfl⟩:∃m,n=m+1:=#[n-1,()];show lY (qT ps m () ())
 |R _,n,f,_=>by simp[cZ]at f
 |.dk _ _,n,f,_=>by simp[cZ]at f
 |.dt _ _,n,f,_=>by simp[cZ]at f
 |.obj _ _ _,n,f,_=>by simp[cZ]at f
 |.df _ _,n,f,_=>by simp[cZ]at f
 |.dtf _ _,n,f,_=>by simp[cZ]at f
 |.dx _ _ _,n,f,_=>by simp[cZ]at f
 |ZA _,n,f,_=>by simp[cZ]at f
theorem qT:∀(ps:List PV)(n:Nat),gU ps=G->vL ps<=n->∀p∈ps,dm n p p=!G
 |[]=>λn _ _ p i=>by cases i
 |q::ps=>λn f h p i=>by
  simp only[gU,gt]at f;simp only[vL]at h;obtain e|i:=aT.mp i
  . rw[e];show Qw q n f.1 ()
  . show qT ps n f.2 () p i
end
def gQ{f:PV->Prop}(h:f p)(t:∀q∈ps,f q):∀q∈p::ps,f q:=λq i=>by
 obtain rfl|i:=aT.mp i
 . show h
 . show t q i
def Bw{f:PV->Prop}:∀q∈([]:List PV),f q:=λq i=>by cases i
def jd(h:fl p)(i:20<=n):dm n p p=!G:=Qw p n h.1 (eI h.2 i)
mutual
theorem Xz:∀(r:ah)(n:Nat),r.ok->2*r.dep+22<=n->dm n r.pv r.pv=!G
 |.leaf w ps=>λn ok h=>by obtain⟨m,rfl⟩:∃m,n=m+1:=#[n-1,()];show lY (gQ (jd iQ ()) (qT ps m ok.2.fls.1 (by have:=ok.2.fls.2;lia)))
 |.call b x i=>λn ok h=>by obtain⟨m,rfl⟩:∃m,n=m+2:=#[n-2,()];show lY (gQ () (gQ (by let(x,e,_):=ok.1;rw[e];show jd iQ ()) (gQ (jd iQ ()) (gQ (jk (qT i m (Fv ok.2.2.1).1 (by have:=(Fv ok.2.2.1).2;lia))) Bw))))
 |.wh e b=>λn ok h=>by simp only[ah.dep]at h;obtain⟨m,rfl⟩:∃m,n=m+2:=#[n-2,()];show lY (gQ () (gQ (jd ok.1.fl ()) (gQ (jk (oZ b m ok.2 ())) Bw)))
 |.iff e b c=>λn ok h=>by simp only[ah.dep]at h;obtain⟨m,rfl⟩:∃m,n=m+2:=#[n-2,()];show lY (gQ () (gQ (jd ok.1.fl ()) (gQ (jk (oZ b m ok.2.1 ())) (gQ (jk (oZ c m ok.2.2 ())) Bw))))
theorem oZ:∀(rs:Rows)(n:Nat),rs.ok->2*rs.dep+20<=n->∀p∈rs.pvs,dm n p p=!G
 |.nil=>λn _ _ p i=>by cases i
 |.cons r rs=>λn ok h p i=>by
  simp only[Rows.dep]at h;obtain e|i:=aT.mp i
  . rw[e];show Xz r n ok.1 ()
  . show oZ rs n ok.2 () p i
end
structure Pg.fine(P:Pg):Prop where
 ok:P.ok
 bx:fls P.boxes
 gr:fls P.grants
 rk:∀f∈P.fns,fl f.rank
 dd:P.rows.dep<=11
 fd:∀f∈P.fns,f.rows.dep<=11
def X1{P:Pg}(h:P.fine):c5 P.pv P.pv=zS (.bl G):=by
 have e:dm 150 P.pv P.pv=!G:=by show lY (gQ (jk (qT _ 148 h.bx.1 (by have:=h.bx.2;lia))) (gQ (jk (qT _ 148 h.gr.1 (by have:=h.gr.2;lia))) (gQ (jk λp z=>?_) (gQ (jk (oZ P.rows 148 h.ok.rw (by have:=h.ok.dp;lia))) Bw))));let(f,i,rfl):=cK.mp z;let(xs,ex,_):=h.ok.pm f i;let(D,F):=h.ok.fn f i;show lY (gQ (jd iQ ()) (gQ (jd (h.rk f i) ()) (gQ (jk λq j=>?_) (gQ (jk (oZ f.rows 146 D ())) Bw))));rw[ex]at j;let(x,_,rfl):=cK.mp j;show lY (gQ (jd iQ ()) ())
 show (dm 150 P.pv P.pv).map _=_;rw[e];rfl
def Vk(f:α->β)(xs:List α)(lo hi st:Option Int):pk (xs.map f) lo hi st=(pk xs lo hi st).map f:=by unfold pk;rw[bq,List.map_filterMap];congr 1;funext i;rw[c8]
def Vl(xs:List α)(N:0<=a)(j:0<n):((pk xs (!a) J (!n)).length:Int)*n<=xs.length+n-1:=by
 have l:(pk xs (!a) J (!n)).length<=(sliceRange (sliceBounds (!a) J (!n) xs.length).1 (sliceBounds (!a) J (!n) xs.length).2.1 (sliceBounds (!a) J (!n) xs.length).2.2).length:=List.length_filterMap_le _ _;generalize (pk xs (!a) J (!n)).length=z at l ⊢;have q:(sliceBounds (!a) J (!n) xs.length).2.1=(xs.length:Int):=by show (if n>0 then (xs.length:Int) else -1)=_;rw[av j]
 have D:(sliceBounds (!a) J (!n) xs.length).2.2=n:=O;have F:0<=(sliceBounds (!a) J (!n) xs.length).1:=by show 0<=(let i:=if a<0 then a+xs.length else a;if n>0 then max 0 (min i xs.length) else max (-1) (min i ((xs.length:Int)-1)));rw[av j];lia
 unfold sliceRange at l;rw[bq,fR,q,D,av j]at l;generalize (sliceBounds (!a) J (!n) xs.length).1=s at F l
 split at l
 . let h1:=Int.ediv_mul_le ((xs.length:Int)-s+n-1) (b:=n) ();have h2:0<=((xs.length:Int)-s+n-1)/n:=Int.ediv_nonneg () ();have Q:(z:Int)*n<=((xs.length:Int)-s+n-1)/n*n:=Int.mul_le_mul_of_nonneg_right () ();lia
 . have:(z:Int)=0:=()
   rw[this,Int.zero_mul];lia
def oH{α:Type}(xs:List α)(lo hi:Option Int):List α:=(xs.drop (HT.sIx xs.length 0 lo)).take (HT.sIx xs.length xs.length hi-HT.sIx xs.length 0 lo)
def Bx(f:α->PV)(xs:List α)(lo hi:Option Int):xU (xs.map f) lo hi=(oH xs lo hi).map f:=by unfold xU oH;rw[bq,List.map_take,List.map_drop]
def M4(xs:List α)(lo hi:Option Int):(oH xs lo hi).length<=xs.length:=by unfold oH;rw[ii,k6];lia
def Du{lo hi:Option Int}(h:x∈oH xs lo hi):x∈xs:=List.mem_of_mem_drop (List.mem_of_mem_take h)
abbrev HE(c:Int)(nm:List Str)(acc:List PV)(o3 o4:Option Lc)(mu:Mu):Ev:=#[[zI c,zL (SS nm),zO acc,o3,o4],mu]
def xa(j:Int)(i:0<=j)(h:j<4):∃q:Int,0<q/\q<10000/\qe (R [ZI 75,ZI 375,ZI 1875,ZI 9375]) (ZI j)=zI q:=by
 obtain rfl|rfl|rfl|rfl:=(by omega:j=0\/j=1\/j=2\/j=3)
 . show#[75,by decide,by decide,O]
 . show#[375,by decide,by decide,O]
 . show#[1875,by decide,by decide,O]
 . show#[9375,by decide,by decide,O]
def nl:∀n,PV.lst ps≠ZA n:=λn h=>by cases h
def By{lo hi:OF}(h1:f Y=!(l,Y1))(hl:l.pv=R ps)(h2:lo Y1=!(a,Y2))(h3:hi Y2=!(b,Y3)):vH f lo hi Y=!(Zs (R (xU ps a b)),Y3):=by unfold vH;rw[h1,bo,h2,bo,h3,bo,hl]
def oJ(h:f Y=!(l,Y1))(hl:l.pv=ZI i):dB f Y=!(!i,Y1):=by unfold dB;rw[h,bo,hl]
def X2(z:0<=i)(h1:i<ns.length):∃c,ns[i.toNat]?=!c/\qe (R (SS ns)) (ZI i)=zT c:=by let(x,e,j):=uz z (by rw[sr];show h1);rw[c8]at j;let(c,q,rfl):=Option.map_eq_some_iff.mp j;show#[c,q,by show (fY (SS ns) i).map _=_;rw[e];rfl]
def X_(xs:List α)(j:Nat)(D:0<=z)(q:z<5):(oH xs (!(10+4*(j:Int))) (!(10+4*(j:Int)+z))).length<=4:=by unfold oH;rw[ii,k6];have e1:HT.sIx xs.length 0 (!(10+4*(j:Int)))=min (10+4*j) xs.length:=HT.sIx_nat xs.length 0 (10+4*j);obtain⟨y,rfl⟩:∃y:Nat,z=y:=#[z.toNat,()];have e2:HT.sIx xs.length xs.length (!(10+4*(j:Int)+(y:Int)))=min (10+4*j+y) xs.length:=HT.sIx_nat xs.length xs.length (10+4*j+y);rw[e1,e2];lia
def XC(W:0<=j)(h1:j<4)(hl:nm.length=26):∃h:Str×List Str,nm[(6+j).toNat]?=!h.1/\(h.2.length<=4/\∀x∈h.2,x∈nm)/\∃z:Int,∀(acc:List PV)(o4:Option Lc)(mu:Mu),acc.length<=100->u_ (HE c nm acc (zI j) o4 mu)=!(.nx (HE c nm (acc++[ZB [ZH h.1,R (SS h.2)]]) (zI j) (zI z) mu)):=by
 let(q,F,hq1,eq):=xa j W h1;let(x,Q,ex):=X2 (ns:=nm) (i:=6+j) () ();let z:Int:=c/q%5;let xs:_:=oH nm (!(10+4*j)) (!(10+4*j+z));show#[(x,xs),Q,#[by
  obtain⟨y,rfl⟩:∃y:Nat,j=y:=#[j.toNat,()];show X_ nm y () (),λy N=>Du N],z,λacc o4 mu ha=>?_]
 let D:_:=HE c nm acc (zI j) (zI z) mu;show aH (bu (bD (bD O (dW O O O O nl eq) (gM F ())) O ()) O O) ?_;show rQ O (cM (ls:=[Zp (ZH x),Zs (R (SS xs))]) (au (dW O O O O nl ex) (au (Y1:=D) ?_ O)) O O) O O () O;have em:gD (ZI 4) (ZI j)=zI (4*j):=Lp () ();have e1:az bj (af 10) (az gD (af 4) (aj 3)) D=!(Zp (ZI (10+4*j)),D):=bD O () O;have e2:az bj u8 (aj 4) D=!(Zp (ZI (10+4*j+z)),D):=bD e1 O O;show(By O O () (oJ e2 O)).trans ?_;rw[Bx]
theorem M5(hl:nm.length=26):∀(i:List Int),(∀j∈i,0<=j/\j<4)->∃hs:Hd,hs.map (λh=>!h.1)=i.map (λj=>nm[(6+j).toNat]?)/\(∀h∈hs,h.1∈nm/\h.2.length<=4/\∀x∈h.2,x∈nm)/\∀(acc:List PV)(o3 o4:Option Lc)(mu:Mu),acc.length+i.length<=100->∃F Q,fG (aC 3) u_ (i.map PV.int) (HE c nm acc o3 o4 mu)=!(.nx (HE c nm (acc++gO hs) F Q mu))
 |[]=>λ_=>#[[],O,λh N=>(by cases N),λacc o3 o4 mu _=>#[o3,o4,by simp[fG]]]
 |j::i=>λh=>by
  let(h0,h1):=h j bi;let(d,D,re,z,e1):=XC h0 h1 hl;let(hs,W,N,ih):=M5 hl i λx q=>h x (cv _ q);show#[d::hs,by rw[dE,dE,W,D],λx q=>?_,λacc o3 o4 mu ha=>?_]
  . obtain rfl|q:=aT.mp q
    . show#[eR D,re]
    . show N x q
  . simp only[be]at ha;let(F,Q,e2):=ih (acc++[ZB [ZH d.1,R (SS d.2)]]) (zI j) (zI z) mu ∅;show#[F,Q,gJ O (e1 acc o4 mu ()) (e2.trans ?_)];simp[gO]
def XF(c:Int)(W:nm.length=26)(Q:∀i j:Nat,6<=i->i<j->j<10->nm[i]?≠nm[j]?):∃hs:Hd,hs.length<=4/\(hs.map (·.1)).Nodup/\(∀h∈hs,h.1∈nm/\h.2.length<=4/\∀x∈h.2,x∈nm)/\∀mu,uJ [ZI c,R (SS nm)] mu=!(Zs (R (gO hs)),mu):=by
 let(hs,l1,F,lp):=M5 W ((List.range (c/15%5).toNat).map λi:Nat=>(0+(i:Int))) λj hj=>by let(i,hi,rfl):=cK.mp hj;have:=List.mem_range.mp hi;lia
 let l2:=congrArg List.length l1;simp only[bq,fR]at l2;have D:(hs.map (·.1)).Nodup:=by
  have n1:(hs.map λh=>!h.1).Nodup:=by rw[l1,fS];show List.pairwise_map.mpr (List.Pairwise.imp_of_mem (λ{a b} _ hb l q=>?_) List.pairwise_lt_range);have:=List.mem_range.mp hb;show Q (6+(0+(a:Int))).toNat (6+(0+(b:Int))).toNat () () () q
  show List.pairwise_map.mpr ((List.pairwise_map.mp n1).imp λq e=>q (congrArg some e))
 show#[hs,(),D,F,λmu=>?_];let(z,N,e):=lp [] J J mu ∅;rw[<-Dp,fm]at e;show aN (Y:=#[[zI c,zL (SS nm),J,z,N],mu]) ?_;show aH O (aH (dZ ?_ e) O);show mz () O () ()
abbrev rk:List PV:=[.non,ZH "low",ZH "high"]
def Ya(a:Int):∃r,fl r/\qe (R rk) (ZI (a%3))=zS r:=by
 let i:=ic a (b:=3) ();let h1:=iN a (b:=3) ();generalize a%3=r at i h1;obtain rfl|rfl|rfl:=(by omega:r=0\/r=1\/r=2)
 . show#[.non,Mm,O]
 . show#[ZH "low",iQ,O]
 . show#[ZH "high",iQ,O]
def Vm(h:fl r)(j:uN r<=1):fl (ZB [ZH x,ZI i,r]):=by
 show#[?_,?_]
 . simp[cZ,gU,h.1]
 . simp only[uN,vL];lia
def Vn(a:Int):∃r,(fl r/\uN r<=1)/\qe (R rk) (ZI (a%3))=zS r:=by
 let i:=ic a (b:=3) ();let h1:=iN a (b:=3) ();generalize a%3=r at i h1;obtain rfl|rfl|rfl:=(by omega:r=0\/r=1\/r=2)
 . show#[.non,#[Mm,bv _],O]
 . show#[ZH "low",#[iQ,bv _],O]
 . show#[ZH "high",#[iQ,bv _],O]
abbrev Yf:EF:=aX EL
theorem Qx(c:Int):∀(xs:List Str)(i:Nat),∃bs:List PV,fls bs/\bs.length=xs.length/\∀(j o1:Option Lc)(mu:Mu)(acc:List PV),acc.length+xs.length<=1000->
 eE kF bQ Yf (Ae i (SS xs)) #[[j,o1,zL rk,zI c],mu] acc=!(acc++bs,mu)
 |[]=>λi=>#[[],ug,O,λj o1 mu acc _=>by simp[Ae,eE]]
 |x::xs=>λi=>by let(r,(D,N),z):=Vn (c/3072+(i:Nat));let(bs,fb,Q,F):=Qx c xs (i+1);show#[ZB [ZH x,ZI 0,r]::bs,iK (Vm D N) fb,by simp[Q],λj o1 mu acc q=>?_];simp only[be]at q;let E:Ev:=#[[zI (i:Nat),zT x,zL rk,zI c],mu];show jb O (cM (au O (au O (au (Y1:=E) (dW O O (bD (bD (bD O O (gM () ())) O O) O (dw ())) O nl z) O))) O O) () ((F _ _ mu (acc++[ZB [ZH x,ZI 0,r]]) ∅).trans ?_);simp
abbrev YA:EF:=aX EM
theorem Qy(c:Int):∀(xs:List Str),∃bs:List PV,fls bs/\bs.length=xs.length/\∀(i:Option Lc)(mu:Mu)(acc:List PV),acc.length+xs.length<=1000->
 eE (aC 0) bQ YA (SS xs) #[[i,zI c,zL rk],mu] acc=!(acc++bs,mu)
 |[]=>#[[],ug,O,λi mu acc _=>by simp[eE]]
 |x::xs=>by let(r,(N,z),D):=Vn (c/9216);let(bs,fb,F,q):=Qy c xs;show#[ZB [ZH x,ZI (1+c/48%8),r]::bs,iK (Vm N z) fb,by simp[F],λi mu acc j=>?_];simp only[be]at j;let E:Ev:=#[[zT x,zI c,zL rk],mu];show jb O (cM (au O (au (bD O (bD (bD O O (gM () ())) O ()) O) (au (Y1:=E) (dW O O (bD (bD O O (gM () ())) O (dw ())) O nl D) O))) O O) () ((q _ mu (acc++[ZB [ZH x,ZI (1+c/48%8),r]]) ∅).trans ?_);simp
theorem Qz:∀(xs:List Int)(o:Option Lc)(mu:Mu)(acc:List PV),acc.length+xs.length<=1000->eE (aC 0) bQ EJ (xs.map PV.int) #[[o],mu] acc=!(acc++(xs.map λx=>x%1000000007).map PV.int,mu)
 |[]=>λo mu acc _=>by simp[eE]
 |x::xs=>λo mu acc i=>by simp only[be]at i;show jb (Y2:=#[[zI x],mu]) O () () ((Qz xs _ mu (acc++[ZI (x%1000000007)]) ∅).trans ?_);simp
theorem QB:∀(xs:List Str)(o:Option Lc)(acc:List PV),acc.length+xs.length<=1000->eE (aC 0) bQ EE (SS xs) #[[o],mu] acc=!(acc++xs.map (λx=>ZB [ZH x,.non]),mu)
 |[]=>λo acc _=>by simp[eE]
 |x::xs=>λo acc i=>by simp only[be]at i;show jb (Y2:=#[[zT x],mu]) O O () ((QB xs _ (acc++[ZB [ZH x,.non]]) ∅).trans ?_);simp
abbrev QE(S:PV)(c:Int)(nm nb ls:List Str)(hs:Hd)(bx:List PV)(l8 l9:Lc)(fns:List PV)(i_ kL kM:Option Lc)(mu:Mu):Ev:=#[[zS S,zI c,zL (SS nm),zL rk,zL (SS nb),zL (SS ls),zL (gO hs),zO bx,!l8,!l9,zO fns,i_,kL,kM],mu]
abbrev vC:List Str:=["somebody"]
section
variable {S:PV}{c:Int}{nm nb ls:List Str}{hs:Hd}{bx:List PV}{cs:List Int}
def Vo{lo hi st:OF}(h1:f Y=!(l,Y1))(hl:l.pv=R ps)(h2:lo Y1=!(a,Y2))(h3:hi Y2=!(b,Y3))(h4:st Y3=!(!n,Y4))(hn:0<n):Df f lo hi st Y=!(Zs (R (pk ps a b (!n))),Y4):=by unfold Df;rw[h1,bo,h2,bo,h3,bo,h4,bo,hl];show (if some n≠!0 then _ else _)=_;rw[av ∅]
structure YQ(m:Nat)(f:Fn):Prop where
 ok:f.rows.ok
 dp:f.rows.dep<=11
 bl:f.rows.bl<=47
 ct:f.rows.cnt*m<=44
 pm:∃xs:List Str,f.params=xs.map (λx=>.tup [.str x,.non])/\xs.length<=4/\Sh xs
 rk:fl f.rank
def v8(h:l8.pv=p):aj 8 (QE S c nm nb ls hs bx l8 l9 fns i_ kL kM mu)=!(Zp p,QE S c nm nb ls hs bx (Zp p) l9 fns i_ kL kM mu):=by subst h;cases l8<;>rfl
def v9(h:l9.pv=p):aj 9 (QE S c nm nb ls hs bx l8 l9 fns i_ kL kM mu)=!(Zp p,QE S c nm nb ls hs bx l8 (Zp p) fns i_ kL kM mu):=by subst h;cases l9<;>rfl
def FU:az bj (eB cz (aa (aj 6) ao)) (af 1) (QE S c nm nb ls hs bx l8 l9 fns i_ kL kM mu)=!(Zp (ZI ((gO hs).length+1)),QE S c nm nb ls hs bx l8 l9 fns i_ kL kM mu):=rfl
def YE(kN:Sh nb)(gN:Sh ls)(Q:∀h∈hs,h.1.length<=100/\h.2.length<=4/\Sh h.2/\FN.fn h.1)(N:h∈hs)(l4:hs.length<=4)(oC:nb.length<=26)(hc:cs.length<=40):∃f:Fn,YQ (hs.length+1) f/\f.name=h.1/\∀(W F:Lc)(i:List PV)(q:Option Lc)(mu:Mu),W.pv=R (cs.map PV.int)->F.pv=R (SS vC)->i.length<=100->
 ∃z l_,vi (QE S c nm nb ls hs bx W F i (zI (j:Nat)) (zS (ZB [ZH h.1,R (SS h.2)])) q mu)=!(.nx (QE S c nm nb ls hs bx (Zp (R (cs.map PV.int))) (Zp (R (SS vC))) (i++[f.pv]) (zI (j:Nat)) (zS (ZB [ZH h.1,R (SS h.2)])) l_ z)):=by
 let n:Int:=(gO hs).length+1;let D:_:=pk cs (!(j:Int)) J (!n);have hn:0<n:=by show (0:Int)<(gO hs).length+1;lia
 let jS:=Vl cs (a:=(j:Int)) () hn;let own:_:=nb++[h.1]++h.2;let(h1,YI,h3,_):=Q h N;have ln:n=hs.length+1:=by show ((gO hs).length:Int)+1=_;rw[bq]
 have l2:D.length*(hs.length+1)<=44:=by
  have e:((D.length*(hs.length+1):Nat):Int)=(D.length:Int)*n:=by rw[ln,Int.natCast_mul];rfl
  have:(D.length:Int)*n<=cs.length+n-1:=jS;lia
 have l3:D.length<=D.length*(hs.length+1):=Nat.le_mul_of_pos_right _ ();let(rs,r1,r2,r3,r4,er):=Qv (FP (FP kN (wQ h1 Af)) h3) gN (λh N=>#[by have:=(Q h N).1;lia,by have:=(Q h N).2.1;lia,(Q h N).2.2.2]) D ();let(r,fr,YN):=Ya (c+(j:Nat));let f:Fn:=#[h.1,r,h.2.map (λx=>ZB [ZH x,.non]),rs];show#[f,#[r1,r2,r3,eI (Nat.mul_le_mul_right _ r4) l2,#[h.2,O,YI,h3],fr],O,λW F i q mu h8 h9 hf=>?_];let(z,er):=er mu;let ZU:Option Lc:=zI (j:Nat);let T:PV:=ZB [ZH h.1,R (SS h.2)];let C8:Lc:=Zp (R (cs.map PV.int));let C9:Lc:=Zp (R (SS vC));let Ea:_:=QE S c nm nb ls hs bx C8 F i ZU (zS T) q mu;have sl:Df (aj 8) (dB (aj 11)) iZ pc (QE S c nm nb ls hs bx W F i ZU (zS T) q mu)=!(Zs (R (D.map PV.int)),Ea):=by show(Vo (Y4:=Ea) (v8 h8) O O O (oJ FU O) hn).trans ?_;rw[Vk]
 have ow:az bj EI (aJ (aj 12) (af 1)) Ea=!(Zs (R (SS own)),Ea):=by
  show bD (x:=Zs (R (SS nb++[ZH h.1]))) (bD (y:=Zs (R [ZH h.1])) O O ?_) O ?_
  . show (if (SS nb).length+1<=100000 then _ else _)=_;rw[av (by rw[sr];lia)]
  . show (if (SS nb++[PV.str h.1]).length+(SS h.2).length<=100000 then _ else _)=_;rw[av (by rw[bS,sr,sr];simp only[be,b9];lia)];simp[own]
 show#[z,zL rs.pvs,?_];show aH (bu (aU (au sl (au ow (au O (au O (au (v9 h9) O))))) O O O er) O O) ?_;let ec:=QB (mu:=z) h.2 J [] (by simp only[b9];lia);rw[fm]at ec;show rQ O (cM (au O (au (dW O O (bD O O (dw ())) O nl YN) (au ((gh (dM O O) ec).trans O) (au O O)))) O O) O O () O
theorem QC(kN:Sh nb)(gN:Sh ls)(hh:∀h∈hs,h.1.length<=100/\h.2.length<=4/\Sh h.2/\FN.fn h.1)(l4:hs.length<=4)(oC:nb.length<=26)(hc:cs.length<=40):∀(Q:Hd)(i:Nat),(∀h∈Q,h∈hs)->∃fs:List Fn,fs.map Fn.name=Q.map (·.1)/\(∀f∈fs,YQ (hs.length+1) f)/\∀(W l9:Lc)(j:List PV)(D z q:Option Lc)(mu:Mu),W.pv=R (cs.map PV.int)->l9.pv=R (SS vC)->j.length+Q.length<=100->
 ∃m8 m9 F YO YR N,m8.pv=R (cs.map PV.int)/\m9.pv=R (SS vC)/\fG EK vi (Ae i (gO Q)) (QE S c nm nb ls hs bx W l9 j D z q mu)=!(.nx (QE S c nm nb ls hs bx m8 m9 (j++fs.map Fn.pv) YO YR N F))
 |[]=>λi _=>#[[],O,λf hf=>(by cases hf),λW l9 j D z q mu h8 h9 _=>#[W,l9,mu,D,z,q,h8,h9,by simp[Ae,fG]]]
 |h::Q=>λi hg=>by
  let(f,ff,fe,st):=YE kN gN hh (hg h bi) l4 oC hc;let(fs,lf,YU,ih):=QC kN gN hh l4 oC hc Q (i+1) λx hx=>hg x (cv _ hx);show#[f::fs,by rw[dE,dE,lf,fe],λx hx=>?_,λW l9 j D z q mu h8 h9 hl=>?_]
  . obtain rfl|hx:=aT.mp hx
    . show ff
    . show YU x hx
  . simp only[be]at hl;let(gy,N,e1):=st W l9 j q mu h8 h9 ();let(m8,m9,F,Zt,ZY,Z_,k8,k9,e2):=ih (Zp (R (cs.map PV.int))) (Zp (R (SS vC))) (j++[f.pv]) (zI (i:Nat)) (zS (ZB [ZH h.1,R (SS h.2)])) N gy O O ∅;show#[m8,m9,F,Zt,ZY,Z_,k8,k9,gJ O e1 (e2.trans ?_)];simp
end
end
section
variable [HK]
theorem QD:∀{a b:List PV},fls a->fls b->fls (a++b)
 |[],b,_,h=>h
 |p::a,b,h,g=>by let(h1,h2):=h;simp only[gU,gt]at h1;simp only[vL]at h2;show iK #[h1.1,()] (QD #[h1.2,()] g)
def adH(xs:List α):(oH xs (!2) (!42)).length<=40:=by unfold oH;rw[ii,k6];have j:HT.sIx xs.length 0 (!2)=min 2 xs.length:=HT.sIx_nat xs.length 0 2;have i:HT.sIx xs.length xs.length (!42)=min 42 xs.length:=HT.sIx_nat xs.length xs.length 42;lia
theorem QF:∀fs:List Fn,(∀f∈fs,f.rows.cnt*m<=44)->dY fs*m<=44*fs.length
 |[]=>λ_=>by simp[dY]
 |f::fs=>λh=>by let h1:=h f bi;let h2:=QF fs λg i=>h g (cv _ i);simp only[dY,be,Nat.add_mul];lia
abbrev ph(S:PV)(a1 a2 a3 a4 a5 a6 a7 a8 a9 kc a11 a12 a13:Option Lc)(mu:Mu):Ev:=#[[zS S,a1,a2,a3,a4,a5,a6,a7,a8,a9,kc,a11,a12,a13],mu]
section
def RW(ns:List Int)(hl:ns.length<=63):∃(F:FN)(P:Pg),P.fine/\(∀n,FN.fn n->∃f∈P.fns,f.name=n)/\∀mu,∃fw,mG [R (ns.map PV.int)] mu=!(Zp P.pv,fw):=by
 have F0:FN:=#[λ_=>True];let(c,_,ec):=cell_eq (ns:=ns) (k:=0) ();let(c1,_,ec1):=cell_eq (ns:=ns) (k:=1) ();let(nm,xb,l5,hnx,en):=Xq (c:=c1) (n:=26) () ();let xb:=xb;let nb:_:=oH nm J (!(c%5));let ls:_:=oH nm (!4) (!(4+c/5%3));have lnb:nb.length<=26:=by have:=M4 nm J (!(c%5));show (oH nm J (!(c%5))).length<=26;lia
 have lls:ls.length<=26:=by have:=M4 nm (!4) (!(4+c/5%3));show (oH nm (!4) (!(4+c/5%3))).length<=26;lia
 let(hs,lhs,hnd,xh,eh):=XF c xb hnx;clear F0;let F:FN:=#[λn=>∃h∈hs,h.1=n];have hh:∀h∈hs,h.1.length<=100/\h.2.length<=4/\Sh h.2/\F.fn h.1:=λh q=>#[l5 h.1 (xh h q).1,(xh h q).2.1,λx hx=>l5 x ((xh h q).2.2 x hx),h,q,O];have kN:Sh nb:=λx hx=>l5 x (Du hx);have FV:Sh ls:=λx hx=>l5 x (Du hx);let(i,f1,l1,e7):=Qx c nb 0;let(xi,f2,l2,e8):=Qy c ls;let xs:_:=oH ns (!2) (!42);have lxs:xs.length<=40:=adH ns;let cs:_:=xs.map λx=>x%1000000007;have lcs:cs.length<=40:=by show (xs.map _).length<=40;rw[bq];show lxs
 let S:PV:=R (ns.map PV.int);let bx:_:=i++xi;let(fs,lf,D,pT):=QC kN FV hh lhs lnb lcs hs 0 λh q=>q;have lf2:fs.length=hs.length:=by have:=congrArg List.length lf;simpa using this
 let n:Int:=(gO hs).length;have FH:0<=n:=by show (0:Int)<=(gO hs).length;lia
 let c2:_:=pk cs (!n) J (!(n+1));let lc2:=Vl cs (n:=n+1) FH ();have ln:n=hs.length:=by show ((gO hs).length:Int)=_;rw[bq]
 have l2:c2.length*(hs.length+1)<=44:=by
  have e:((c2.length*(hs.length+1):Nat):Int)=(c2.length:Int)*(n+1):=by rw[ln,Int.natCast_mul];rfl
  have:(c2.length:Int)*(n+1)<=cs.length+(n+1)-1:=lc2;lia
 have l3:c2.length<=c2.length*(hs.length+1):=Nat.le_mul_of_pos_right _ ();let(rs,r1,r2,r3,r4,er):=Qv kN FV (λh q=>#[by have:=(hh h q).1;lia,by have:=(hh h q).2.1;lia,(hh h q).2.2.2]) c2 ();let gr:List PV:=[ZB [ZH "somebody",ZH "high",ZH "low"]];let P:Pg:=#[bx,gr,fs,rs];let hfc:=QF fs λf j=>(D f j).ct;have FX:dY fs+rs.cnt<=44:=by let h1:=eI (Nat.mul_le_mul_right _ r4) l2;show Nat.le_of_mul_le_mul_right (c:=hs.length+1) ?_ ();rw[Nat.add_mul];lia
 show#[F,P,#[#[λf j=>#[(D f j).ok,by have:=(D f j).dp;lia],r1,by show rs.dep<=30;lia,FX,λf j=>(D f j).pm,by show fs.length<=4;lia,by show (fs.map Fn.name).Nodup;rw[lf];show hnd,λf j=>by
  have:f.name∈hs.map (·.1):=by rw[<-lf];show List.mem_map_of_mem j
  let(h,q,e):=cK.mp this;rw[<-e];show(hh h q).1],QD f1 f2,#[O,by show (2:Nat)<=20;decide],λf j=>(D f j).rk,r2,λf j=>(D f j).dp],λn hn=>?_,λmu=>?_]
 . let(h,q,rfl):=hn;have:h.1∈fs.map Fn.name:=by rw[lf];show cK.mpr #[h,q,O]
   let(f,j,e):=cK.mp this;show#[f,j,e]
 let C:Option Lc:=zI c;let N:Option Lc:=zL (SS nm);let ZN:Option Lc:=zL rk;let B4:Option Lc:=zL (SS nb);let B5:Option Lc:=zL (SS ls);let O4:Option Lc:=zO (SS nb);let O5:Option Lc:=zO (SS ls);let W:Option Lc:=zO (gO hs);let OR:Option Lc:=zO rk;let L8:Lc:=Zs (R (cs.map PV.int));let L9:Lc:=Zs (R (SS vC));let E0:_:=ph S J J J J J J J J J J J J J mu;let wP:_:=ph S C J J J J J J J J J J J J mu;let E2:_:=ph S C (zO (SS nm)) J J J J J J J J J J J mu;let E3:_:=ph S C (zO (SS nm)) OR J J J J J J J J J J mu;let E4:_:=ph S C N OR O4 J J J J J J J J J mu;let E5:_:=ph S C N OR O4 O5 J J J J J J J J mu;let E6:_:=ph S C N OR O4 O5 W J J J J J J J mu;let E7:_:=ph S C N ZN B4 O5 W (zO i) J J J J J J mu;let E8:_:=ph S C N ZN B4 B5 W (zO bx) J J J J J J mu;let E9:_:=ph S C N ZN B4 B5 W (zO bx) (!L8) J J J J J mu;let E10:_:=ph S C N ZN B4 B5 W (zO bx) (!L8) (!L9) J J J J mu;let E11:_:=ph S C N ZN B4 B5 W (zO bx) (!L8) (!L9) (zO []) J J J mu;let(m8,m9,gy,Q,z,l_,k8,k9,pT):=pT L8 L9 [] J J J mu O O (by simp only[b9];lia);rw[fm]at pT;let(iE,er):=er gy;let Q1:_:=QE S c nm nb ls hs bx m8 m9 (fs.map Fn.pv) Q z l_ gy;let C8:Lc:=Zp (R (cs.map PV.int));let C9:Lc:=Zp (R (SS vC));let Qa:_:=QE S c nm nb ls hs bx C8 m9 (fs.map Fn.pv) Q z l_ gy;let Qb:_:=QE S c nm nb ls hs bx C8 C9 (fs.map Fn.pv) Q z l_ gy;let Qc:_:=QE S c nm nb ls hs bx C8 C9 (fs.map Fn.pv) Q z (zL rs.pvs) iE;show#[iE,?_];show aN (Y:=ph S C N ZN B4 B5 (zL (gO hs)) (zL bx) (!C8) (!C9) (zL (fs.map Fn.pv)) Q z (zL rs.pvs) iE) ?_;show aH (bu (aU O O O O (ec mu)) O O) ?_;show aH (bu (aU (au (aU O O O O (ec1 mu)) O) O O O (en mu)) O O) ?_;show aH O ?_;show aH (bu ((By O O O (oJ (bD O O (dw ())) O)).trans (by rw[Bx]<;>rfl)) O O) ?_;show aH (bu ((By (Y1:=E4) O O O (oJ (l:=Zp (ZI (4+c/5%3))) (bD (x:=Zp (ZI 4)) (y:=Zp (ZI (c/5%3))) O (bD (x:=Zp (ZI (c/5))) (bD (x:=Zp (ZI c)) O O (gM () ())) O (dw ())) O) O)).trans (by rw[Bx]<;>rfl)) O O) ?_;show aH (Y':=E6) (bu (l:=Zs (R (gO hs))) (Y1:=E5) (aU (ls:=[Zp (ZI c),Zp (R (SS nm))]) (ps:=[ZI c,R (SS nm)]) (Y1:=E5) O O O O (eh mu)) O O) ?_;show aH (Y':=E7) (bu (l:=Zs (R i)) (Y1:=ph S C N ZN B4 O5 W J J J J J J J mu) ((gh (Y1:=ph S C N OR B4 O5 W J J J J J J J mu) (xs:=Ae 0 (SS nb)) (by rw[<-Dm];rfl) (e7 J J mu [] (by simp only[b9];lia))).trans O) O O) ?_;show aH (Y':=E8) (bu (l:=Zs (R bx)) (Y1:=ph S C N ZN B4 B5 W (zL i) J J J J J J mu) (bD (x:=Zp (R i)) (y:=Zs (R xi)) (Y1:=ph S C N ZN B4 O5 W (zL i) J J J J J J mu) O ((gh (Y1:=ph S C N ZN B4 B5 W (zL i) J J J J J J mu) (xs:=SS ls) (dM (l:=Zp (R (SS ls))) O O) (e8 J mu [] (by simp only[b9];lia))).trans O) ?_) O O) ?_
 . show (if i.length+xi.length<=100000 then _ else _)=_;rw[av ()]
 let FY:=Qz xs J mu [] (by simp only[b9];lia);rw[fm]at FY;show aH (Y':=E9) (bu (l:=L8) (Y1:=E8) ((gh (Y1:=E8) (xs:=xs.map PV.int) (dM (l:=Zs (R (xs.map PV.int))) ((By (ps:=ns.map PV.int) (l:=Zp S) (Y1:=E8) (a:=!2) (b:=!42) O O O O).trans (by rw[Bx]<;>rfl)) O) FY).trans O) O O) ?_;show aH (Y':=E10) O ?_;show aH (Y':=E11) O ?_;show aH (Y':=Q1) (dZ (xs:=Ae 0 (gO hs)) (Y1:=QE S c nm nb ls hs bx L8 L9 [] J J J mu) (by rw[<-Dm];rfl) pT) ?_;have sl:Df (aj 8) (dB (eB cz (aa (aj 6) ao))) iZ pc Q1=!(Zs (R (c2.map PV.int)),Qa):=by show(Vo (Y1:=Qa) (Y2:=Qa) (Y3:=Qa) (Y4:=Qa) (l:=C8) (ps:=cs.map PV.int) (a:=!n) (b:=J) (n:=n+1) (v8 k8) O (oJ (l:=Zp (ZI n)) O O) O (oJ FU O) ()).trans ?_;rw[Vk]
 show aH (Y':=Qc) (bu (l:=Zp (R rs.pvs)) (Y1:=QE S c nm nb ls hs bx C8 C9 (fs.map Fn.pv) Q z l_ iE) (aU (ls:=[Zs (R (c2.map PV.int)),Zp (R (SS nb)),Zp (R (SS ls)),Zp (R (gO hs)),Zp (R (SS vC))]) (ps:=[R (c2.map PV.int),R (SS nb),R (SS ls),R (gO hs),R (SS vC)]) (Y1:=Qb) (au sl (au (Y1:=Qa) O (au (Y1:=Qa) O (au (Y1:=Qa) O (au (v9 k9) O))))) O O O er) O O) ?_;rfl
end
end
section
variable [HK][FN]
mutual
theorem ah.dep_pos:∀r:ah,1<=r.dep
 |.leaf _ _=>bv _
 |.call _ _ _=>bv _
 |.wh _ b=>by simp only[ah.dep];lia
 |.iff _ b c=>by simp only[ah.dep];lia
end
def Rows.nil_of{rs:Rows}(h:rs.dep<=1):rs=.nil:=by
 cases rs with
 |nil=>rfl
 |cons r rs=>
  have:=r.dep_pos;simp only[Rows.dep]at h;lia
def wR(h:a<=b):2 ^ a<=2 ^ b:=Nat.pow_le_pow_right () h
mutual
theorem ah.bl_le:∀r:ah,r.bl+1<=3*2 ^ ((r.dep-1)/2)
 |.leaf _ _=>by simp only[ah.bl,ah.dep];decide
 |.call _ _ _=>by simp only[ah.bl,ah.dep];decide
 |.wh _ b=>by have:1<=2 ^ (((b.dep+1)-1)/2):=Nat.one_le_two_pow;simp only[ah.bl,ah.dep];lia
 |.iff _ b c=>by
  let D:=Rows.bl_le b;let F:=Rows.bl_le c;simp only[ah.bl,ah.dep];by_cases h:max b.dep c.dep<=1
  . let j:=Rows.nil_of (rs:=b) ();let i:=Rows.nil_of (rs:=c) ();rw[j,i];decide
  . let q:=wR (a:=(b.dep-2)/2) (b:=(max b.dep c.dep-2)/2) ();let z:=wR (a:=(c.dep-2)/2) (b:=(max b.dep c.dep-2)/2) ();have e:2 ^ ((max b.dep c.dep+1-1)/2)=2*2 ^ ((max b.dep c.dep-2)/2):=by rw[show (max b.dep c.dep+1-1)/2=(max b.dep c.dep-2)/2+1 by lia,Nat.pow_succ,Nat.mul_comm]
    lia
theorem Rows.bl_le:∀rs:Rows,rs.bl+1<=3*2 ^ ((rs.dep-2)/2)
 |.nil=>by  decide
 |.cons r rs=>by let h1:=ah.bl_le r;let h2:=Rows.bl_le rs;let j:=wR (a:=(r.dep-1)/2) (b:=(max (r.dep+1) rs.dep-2)/2) ();let i:=wR (a:=(rs.dep-2)/2) (b:=(max (r.dep+1) rs.dep-2)/2) ();simp only[Rows.bl,Rows.dep];lia
end
def F1{r:ah}(h:r.dep<=10):r.bl<=47:=by
 let h1:=r.bl_le;let m:=wR (a:=(r.dep-1)/2) (b:=4) ()
 lia
mutual
theorem ah.subs:∀r:ah,r.ok->∀x∈r.rws,x.ok/\x.dep<=r.dep
 |.leaf w ps=>λok x i=>by rw[eL.mp i];show#[ok,bv _]
 |.call b n z=>λok x i=>by rw[eL.mp i];show#[ok,bv _]
 |.wh e b=>λok x i=>by
  obtain h|h:=aT.mp i
  . rw[h];show#[ok,bv _]
  . let(j,q):=Rows.subs b ok.2 x h;show#[j,by simp only[ah.dep];lia]
 |.iff e b c=>λok x i=>by
  obtain h|h:=aT.mp i
  . rw[h];show#[ok,bv _]
  . obtain h|h:=cx.mp h
    . let(j,q):=Rows.subs b ok.2.1 x h;show#[j,by simp only[ah.dep];lia]
    . let(j,q):=Rows.subs c ok.2.2 x h;show#[j,by simp only[ah.dep];lia]
theorem Rows.subs:∀rs:Rows,rs.ok->∀x∈rs.rws,x.ok/\x.dep+1<=rs.dep
 |.nil=>λ_ x i=>by cases i
 |.cons r rs=>λok x i=>by
  simp only[Rows.dep];obtain h|h:=cx.mp i
  . let(j,q):=ah.subs r ok.1 x h;show#[j,()]
  . let(j,q):=Rows.subs rs ok.2 x h;show#[j,()]
end
theorem M6:∀fs:List Fn,(∀f∈fs,f.rows.ok/\f.rows.dep<=11)->∀x∈lq fs,x.ok/\x.dep<=10
 |[]=>λ_ x i=>by cases i
 |f::fs=>λh x i=>by
  obtain i|i:=cx.mp i
  . let(h1,h2):=h f bi;let(q,z):=Rows.subs f.rows h1 x i;show#[q,()]
  . show M6 fs (λg j=>h g (cv _ j)) x i
def Dy{P:Pg}(h:P.fine):∀x∈P.rws,x.ok/\x.dep<=10:=λx i=>by
 obtain i|i:=cx.mp i
 . show M6 P.fns (λf j=>#[(h.ok.fn f j).1,h.fd f j]) x i
 . let(q,z):=Rows.subs P.rows h.ok.rw x i;have:=h.dd;show#[q,()]
abbrev srt(ss:List Str):List PV:=(pG (uC ss)).map PV.str
theorem Jc:∀i:List Str,Bh (i.map PV.str)=!i
 |[]=>rfl
 |x::i=>by show (Bh (i.map PV.str)).map _=_;rw[Jc i];rfl
def adI(h:f Y=!(l,Y1))(hl:l.pv=R (eF ss))(hn:ss.length<64):xZ f Y=!(Zs (R (srt ss)),Y1):=by unfold xZ;rw[h,bo,hl];show ((Bh (ss.map PV.str)).bind _)=_;rw[Jc,bo,av hn]
def XH(h:g_ es k r):k+r.cnt<=es.length:=by let(w,z,bl,((j,i,e,q,_),_)):=h;rw[e,bS,bS,ah.es_len];lia
structure kP(P:Pg)(k:Nat)(r:ah):Prop where
 sp:g_ P.es k r
 ok:r.ok
 dp:r.dep<=10
def aaL(h:P.fine)(i:P.rws[k]?=!r):kP P k r:=by let(j,q):=Dy h r (eR i);show#[Xp P k r i,j,q]
def M7(h:P.fine)(H:kP P k r):k+r.cnt<=256:=by let h1:=XH H.sp;let h2:=es_len P;let i:=h.ok.ct;lia
theorem Vp:∀i:List Str,(uC i).length<=i.length
 |[]=>bv _
 |x::i=>by have:=Vp i;unfold uC;split<;>simp only[be]<;>lia
def wU:x∈pG (uC a) ↔ x∈a:=by rw[tQ.mem_iff,zW]
theorem yC{α:Type}(i:Ev->Prop)(q:∀Y,i Y->Y.mu=mu)(g r:α->PV):∀(l:List α)(Y:Ev)(acc:List PV),i Y->acc.length+l.length<=100000->(∀x∈l,∀Y,i Y->∃Y1 y Y2,b (g x) Y=!Y1/\te Y1=!(y,Y2)/\y.pv=r x/\i Y2)->eE b bQ te (l.map g) Y acc=!(acc++l.map r,mu)
 |[]=>λY acc h _ _=>by simp[eE,q Y h]
 |x::l=>λY acc h j hs=>by simp only[be]at j;let(Y1,y,Y2,D,F,N,h2):=hs x bi Y h;show jb D F () ((yC i q g r l Y2 (acc++[y.pv]) h2 ∅ λz j=>hs z (cv _ j)).trans ?_);rw[N];simp
def vM{α:Type}{g r:α->PV}{l:List α}(h:f Y=!(L,Y1))(q:bN L.pv=!(l.map g))(F:l.length<=100000)(i:(gP ixs Y1).vs=vs)(D:nq 1 ixs (gP ixs Y1)=#[J::gS,Y1.mu])
 (z:∀x∈l,te #[zS (g x)::gS,Y1.mu]=!(Zp (r x),#[zS (g x)::gS,Y1.mu])):cF (dG f bN) 1 ixs (aC 0) bQ te Y=!(Zs (R (l.map r)),#[vs,Y1.mu]):=by
 let c:=yC (b:=aC 0) (λY=>∃o,Y=#[o::gS,Y1.mu]) (λY ⟨o,e⟩=>by rw[e]) g r l #[J::gS,Y1.mu] [] #[_,O] ∅ λx j Y ⟨o,e⟩=>#[_,_,_,by rw[e];rfl,z x j,O,_,O];rw[<-i];show gh (dM h q) ∅
def RX{α:Type}{j i r:α->PV}{l:List α}(h:f Y=!(L,Y1))(F:L.pv=R (l.map λx=>ZB [j x,i x]))(Q:l.length<=100000)(q:(gP ixs Y1).vs=vs)(N:nq 2 ixs (gP ixs Y1)=#[J::J::gS,Y1.mu])
 (z:∀x∈l,te #[zS (j x)::zS (i x)::gS,Y1.mu]=!(Zp (r x),#[zS (j x)::zS (i x)::gS,Y1.mu])):cF (dG f bN) 2 ixs kF bQ te Y=!(Zs (R (l.map r)),#[vs,Y1.mu]):=by
 let c:=yC (b:=dR 2 (aO (aC 0) (aO (aC 1) dN))) (λY=>∃o p,Y=#[o::p::gS,Y1.mu]) (λY ⟨o,p,e⟩=>by rw[e]) (λx=>ZB [j x,i x]) r l #[J::J::gS,Y1.mu] [] #[_,_,O] ∅ λx D Y ⟨o,p,e⟩=>#[_,_,_,by rw[e];rfl,z x D,O,_,_,O];rw[<-q];show gh (dM h (by rw[F];rfl)) ∅
def aeC{α:Type}{z i j r:α->PV}{l:List α}(h:f Y=!(L,Y1))(F:L.pv=R (l.map λx=>ZB [z x,i x,j x]))(W:l.length<=100000)(N:(gP ixs Y1).vs=vs)(hc:nq 3 ixs (gP ixs Y1)=#[J::J::J::gS,Y1.mu])
 (Q:∀x∈l,te #[zS (z x)::zS (i x)::zS (j x)::gS,Y1.mu]=!(Zp (r x),#[zS (z x)::zS (i x)::zS (j x)::gS,Y1.mu])):cF (dG f bN) 3 ixs Tl bQ te Y=!(Zs (R (l.map r)),#[vs,Y1.mu]):=by
 let c:=yC (b:=dR 3 Tk) (λY=>∃o p q,Y=#[o::p::q::gS,Y1.mu]) (λY ⟨o,p,q,e⟩=>by rw[e]) (λx=>ZB [z x,i x,j x]) r l #[J::J::J::gS,Y1.mu] [] #[_,_,_,O] ∅ λx D Y ⟨o,p,q,e⟩=>#[_,_,_,by rw[e];rfl,Q x D,O,_,_,_,O];rw[<-N];show gh (dM h (by rw[F];rfl)) ∅
def Al(h:a.length+b.length<=100000):bj (R a) (R b)=zO (a++b):=av h
def vN(h:a.length+b.length<=100000):bj (ZH a) (ZH b)=zT (a++b):=av h
abbrev iT(w:Str×Str):PV:=ZB [ZH w.1,ZH w.2]
def XJ(h:Rd n p a):∀(f:Nat)(mu:Mu),n<=f->a.length<=100->∃ws:List (Str×Str),ws.map (·.2)=a/\mD f [p] mu=!(Zs (R (ws.map iT)),mu):=by
 induction h with
 |num n i=>
  intro f mu z _;obtain⟨f,rfl⟩:∃k,f=k+1:=#[f-1,()];show#[[],O,aN (Y:=E1 (ZB [ZH "num",ZI i]) mu) ?_];show d7 () () O
 |box n x=>
  intro f mu z _;obtain⟨f,rfl⟩:∃k,f=k+1:=#[f-1,()];show#[[("box",x)],O,aN (Y:=E1 (ZB [ZH "box",ZH x]) mu) ?_];show(bF () ()).trans ()
 | @at_ n p a x h Q=>
  intro f mu z N;obtain⟨f,rfl⟩:∃k,f=k+1:=#[f-1,()];simp only[be]at N;let(ws,j,F):=Q f mu () ();let D:=congrArg List.length j;rw[bq]at D;show#[("list",x)::ws,by rw[dE,j],aN (Y:=E1 (ZB [ZH "@",ZH x,p]) mu) ?_];show(bF () ()).trans ((bF () ()).trans (d7 () () ?_));show cL (dJ (p:=R [iT ("list",x)]) O O (aU O O O O F) O (Al ∅))
 | @op n s p q a b hs h g Q jh=>
  intro f mu z N;obtain⟨f,rfl⟩:∃k,f=k+1:=#[f-1,()];rw[bS]at N;let(ws,j,F):=Q f mu () ();let(us,e3,e4):=jh f mu () ();let D:=congrArg List.length j;let W:=congrArg List.length e3;rw[bq]at D W;show#[ws++us,by rw[cy,j,e3],aN (Y:=E1 (ZB [ZH s,p,q]) mu) ?_];rw[cy];show(bF () hs.1).trans ((bF () hs.2.1).trans ((bF () hs.2.2).trans ?_));show cL (dJ (aU O O O O F) O (aU O O O O e4) O (Al ∅))
def M8(h:Rd n p a):∀(f:Nat)(mu:Mu),n<=f->a.length<=100->fZ f [p] mu=!(Zs (R (eF a)),mu):=by
 induction h with
 |num n i=>
  intro f mu j _;obtain⟨f,rfl⟩:∃k,f=k+1:=#[f-1,()];show aN (Y:=E1 (ZB [ZH "num",ZI i]) mu) ?_;show d7 () () O
 |box n x=>
  intro f mu j _;obtain⟨f,rfl⟩:∃k,f=k+1:=#[f-1,()];show aN (Y:=E1 (ZB [ZH "box",ZH x]) mu) ?_;show(bF () ()).trans ()
 | @at_ n p a x h F=>
  intro f mu j D;obtain⟨f,rfl⟩:∃k,f=k+1:=#[f-1,()];simp only[be]at D;let z:=F f mu () ();show aN (Y:=E1 (ZB [ZH "@",ZH x,p]) mu) ?_;show(bF () ()).trans ((bF () ()).trans (d7 () () ?_));show cL (dJ (p:=R [ZH x]) O O (aU O O O O z) O (Al ∅))
 | @op n s p q a b hs h g F Q=>
  intro f mu j D;obtain⟨f,rfl⟩:∃k,f=k+1:=#[f-1,()];rw[bS]at D;let z:=F f mu () ();let N:=Q f mu () ();show aN (Y:=E1 (ZB [ZH s,p,q]) mu) ?_;rw[eF,cy];show(bF () hs.1).trans ((bF () hs.2.1).trans ((bF () hs.2.2).trans ?_));show cL (dJ (aU O O O O z) O (aU O O O O N) O (Al ∅))
def Xa(p:PV)(a:List Str):Prop:=∃n,Rd n p a/\n<=15/\a.length<=9/\Sh a
open Classical in
def wV(p:PV):List Str:=if h:∃a,Xa p a then Classical.choose h else []
def wW(h:XG p):Xa p (wV p):=by let(n,a,h):=h;have h:∃a,Xa p a:=#[a,n,h];unfold wV;rw[dif_pos h];show Classical.choose_spec h
abbrev xl(p:PV):List Str:=pG (uC (wV p))
def QG(p:PV):(xl p).length<=(wV p).length:=by rw[tQ.length_eq];show Vp _
def Oe(h:XG p)(mu:Mu):yq [p] mu=!(Zs (R (eF (xl p))),mu):=by let(n,h1,h2,z,D):=wW h;let(ws,i,q):=XJ h1 40 mu () ();let j:=congrArg List.length i;rw[bq]at j;show aN (cL (adI (RX (aU O O O O q) O () O O λx _=>O) ?_ ()));rw[<-i,eF,fS];rfl
def jV(x:Str):Str:="box " ++ x
abbrev jU(p:PV):List Str:=(xl p).map jV
def Dv:("box " : Str).length=4:=by decide +kernel
def yD(h:XG p)(mu:Mu):iB [p] mu=!(Zs (R (eF (jU p))),mu):=by
 let(n,h1,h2,q,j):=wW h;let l:=QG p;show(aN (cL (vM (r:=λx=>ZH (jV x)) (aU O O O O (Oe h mu)) O () O O λx i=>?_))).trans (by rw[eF,fS];rfl);have:=j x (wU.mp i);have i:x.length<=100000:=()
 show Fd O (av i) (by rw[Dv];lia)
end
noncomputable section
variable [HK][FN]
structure PA(mu:Mu)(n:Nat)(P:Pg):Prop where
 ex:∃N d,mu[n]?=!(!(fV "Plan" (Qj P.es N (mQ d))))/\RP P.fns d
def PA.pl(h:PA mu n P):iR mu n P.es:=by let(N,d,h,_):=h;show#[N,_,h]
def j8(h1:fo Y=!(x,Y1))(hx:x.pv=ZA n)(h2:a Y1=!(ls,Y2))(hps:ls.map Lc.pv=ps)(h3:g (ZA n::ps) Y2.mu=!(r,iE))(pa:iR Y1.mu n es)(hc:(["told","lists","heads"]:List Str).contains m=M:=by decide +kernel):cV "Plan" m g fo a Y=!(r,#[Y2.vs,iE]):=by let(N,Q,F):=pa;show wJ h1 hx F hc h2 hps h3
abbrev dh(n k:Nat)(t:List (Option Lc))(mu:Mu):Ev:=#[zS (ZA n)::zI (k:Nat)::t,mu]
def M9(h:iR mu n es)(he:es[k]?=!e):aJ ua (aj 1) (dh n k t mu)=!(Zp e.pv,dh n k t mu):=by let(N,j,i):=h;show dW (rY O O i O) O O O nl ?_;show (fY (dy es) ((k:Nat):Int)).map _=_;rw[G7 he];rfl
def nt:∀n,PV.tup ps≠ZA n:=λn h=>by cases h
def QH(h:iR mu n es)(he:es[k]?=!e):lU [ZA n,ZI (k:Nat)] mu=!(Zp (ZH e.w),mu):=
 aN (Y:=dh n k [] mu) (cL (dW (M9 h he) O O O nt O))
def XM(h:iR mu n es)(he:es[k]?=!e):nZ [ZA n,ZI (k:Nat)] mu=!(Zp e.ab,mu):=
 aN (Y:=dh n k [] mu) (cL (dW (M9 h he) O O O nt O))
def RZ(h:iR mu n es)(j:es.length<=100000):pP [ZA n] mu=!(Zs (R (aV (List.range es.length))),mu):=by let(N,q,i):=h;show aN (Y:=#[[zS (ZA n)],mu]) (cL ?_);unfold RB;rw[mV (au (rY O O i O) O) O O,bo];show (if 0<=((dy es).length:Int)/\((dy es).length:Int)<=100000 then _ else _)=_;rw[mJ,av ()];rfl
def Vq(h:PA mu n P)(i:f∈P.fns):∃xs:List Str,f.params=xs.map (λx=>ZB [ZH x,.non])/\xs.length<=4/\Sh xs/\qR [ZA n,ZH f.name] mu=!(Zs (R (eF xs)),mu):=by let(N,d,F,z):=h;let(p,(xs,Q,j,D,rfl),q):=z f i;show#[xs,Q,j,D,aN (Y:=#[[zS (ZA n),zT f.name],mu]) (cL (mV (ls:=[Zp (R (eF xs))]) (au ?_ O) O O))];unfold tI;rw[rY (C:="Plan") (f:="heads") O O F O,bo];show ((iy ((d.map (·.1)).zip (d.map (·.2))) (.inr f.name)).map _)=_;rw[Vb,q];rfl
theorem Gb{K:List aW}:∀{es:List b_}{i j:Nat},j∈pos K i es->j<i+es.length
 |[],i,j,h=>by cases h
 |e::es,i,j,h=>by
  unfold pos at h;have:=@Gb K es (i+1) j
  grind
def QJ:∀{i k:Nat}{e:b_},es[k]?=!e->i+k∈pos e.key i es:=by
 induction es with
 |nil=>intro i k e h;cases h
 |cons x es j=>
  intro i k e h;unfold pos;cases k with
  |zero=>
   cases h;rw[av O];show bi
  |succ k=>
   have:=j (i:=i+1) h;rw[show i+(k+1)=i+1+k by omega];split
   . show cv _ this
   . show this
def acW{K:List aW}(h:j∈pos K 0 es):jT (n6 0 es []) K=!(pos K 0 es):=by
 let e:=Bs (K:=K) es 0 [];cases q:jT (n6 0 es []) K with
 |none=>rw[q]at e;have e:[]=pos K 0 es:=e;rw[<-e]at h;cases h
 |some l=>rw[q]at e;show congrArg some e
abbrev KB(w:Str):List aW:=[!(.inr w),J,!(.inl 0)]
open Classical in
def aaM(h:iR mu n es):pR [ZA n,ZH w] mu=!(Zs (R (aV (pos (KB w) 0 es))),mu):=by
 let(N,q,j):=h;let E:Ev:=#[[zS (ZA n),zT w],mu];let S:_:=n6 0 es [];have D:(jT S (KB w)).getD []=pos (KB w) 0 es:=Bs es 0 [];have g:∃l,yf (ju "Plan" "lists" (aj 0)) CH E=!(l,E)/\l.pv=R (aV ((jT S (KB w)).getD [])):=by
  unfold yf;rw[rY (C:="Plan") (f:="lists") O O j O,bo];have hk:aX CF E=!(Zp (ZB [ZH w,.non,ZI 0]),E):=O;show ∃l,((aX CF E).bind _)=!(l,E)/\_;show ∃l,(if HK.hk=HK.hk then !((match jO (((pz N S).map (·.1)).zip (S.map λx=>PV.lst (aV x.2))) (KB w) with |some p=>Lc.sh p |none=>Zs (R [])),E) else J)=!(l,E)/\_;rw[av O,JX];cases jT S (KB w) with
  |none=>show#[_,O,O]
  |some l=>show#[_,O,O]
 let(l,i,z):=g;show aN (cL (mV (ps:=[R (aV (pos (KB w) 0 es))]) (Y1:=E) (au i O) ∅ O))
theorem QK:∀l:List Nat,sV (dm 150) (ZI (k:Nat)) (aV l)=!(decide (k∈l))
 |[]=>rfl
 |a::l=>by show ((!(((a:Nat):Int)==((k:Nat):Int))).bind λb=>(sV (dm 150) (ZI (k:Nat)) (aV l)).map λc=>b||c)=_;rw[QK l];show some ((((a:Nat):Int)==((k:Nat):Int))||decide (k∈l))=_;congr 1;rw[Bool.eq_iff_iff,Bool.or_eq_true,beq_iff_eq,decide_eq_true_eq,decide_eq_true_eq,aT,Int.natCast_inj];show or_congr_left eq_comm
open Classical in
def XN(he:es[k]?=!e)(F:e.ab=.non\/∃j:Nat,e.ab=ZI j)(hl:es.length<=1000):∃r,(r=.non\/∃a:Nat,a<es.length/\r=ZI (a:Nat))/\∀mu n,iR mu n es->iz [ZA n,ZI (k:Nat)] mu=!(Zp r,mu):=by
 let hk:=QJ (i:=0) he;rw[ij]at hk;let l:_:=pos e.key 0 es;have ll:l.length<=100000:=by
  have:∀(es:List b_)(i:Nat),(pos e.key i es).length<=es.length:=λes=>by
   induction es with
   |nil=>show λi=>bv _
   |cons x es ih=>intro i;unfold pos;have:=ih (i+1);split<;>simp only[be]<;>lia
  have:=this es 0;show (pos e.key 0 es).length<=_;lia
 let j:_:=(aV l).findIdx λq=>(dm 150 q (ZI (k:Nat))).getD M;have hj:j<(aV l).length:=List.findIdx_lt_length_of_exists #[ZI (k:Nat),cK.mpr #[k,hk,O],by show (((k:Nat):Int)==((k:Nat):Int))=G;simp];rw[bq]at hj;have fin:∃r,(r=.non\/∃a:Nat,a<es.length/\r=ZI (a:Nat))/\∀(n:Nat)(mu:Mu),Yt B7 (eC .non) B8 (dh n k [zL (aV l),zI (j:Nat)] mu)=!(Zp r,dh n k [zL (aV l),zI (j:Nat)] mu):=by
  by_cases h0:j=0
  . show#[.non,Zl O,λn mu=>?_];rw[h0];rfl
  . have z:l[j-1]?=some l[j-1]:=et ();show#[ZI (l[j-1]:Nat),YY #[l[j-1],by have:=Gb (eR z);lia,O],λn mu=>?_];show (if (((j:Nat):Int)==0)=G then _ else _)=_;rw[aE (by simp;lia)];show dW O O O O nl ?_;show (fY (aV l) (((j:Nat):Int)-1)).map _=_;rw[show ((j:Nat):Int)-1=((j-1:Nat):Int) by lia,Ol (by rw[c8,z];rfl)];rfl
 let(r,hr,fin):=fin;show#[r,hr,λmu n h=>?_];let h':=h;let(N,hd,hm):=h';let E0:_:=dh n k [J,J] mu;let D:_:=dh n k [zL (aV l),J] mu;let E3:_:=dh n k [zL (aV l),zI (j:Nat)] mu;have W:RG (ju "Plan" "lists" (aj 0)) (oE ui iZ (dB (af 3))) E0=!(Zp (R (aV l)),E0):=by
  unfold RG;rw[rY (C:="Plan") (f:="lists") (Y1:=E0) O O hm O,bo];have sl:oE (aJ ua (aj 1)) iZ (dB (af 3)) E0=!(Zp (ZB [ZH e.w,e.ab,ZI e.bl]),E0):=by unfold oE;rw[M9 h he,bo];rfl
  rw[sl,bo];show ((pI [ZH e.w,e.ab,ZI e.bl]).bind _)=_;rw[Iw F,bo,av O,JX,acW hk];rfl
 have Q:Lq (aj 2) (aj 1) D=!(Zp (ZI (j:Nat)),D):=by show (if sV (dm 150) (ZI (k:Nat)) (aV l)=!G/\(aV l).length<=100000 then _ else _)=_;rw[av #[by rw[QK,js hk],by rw[bq];show ll]];rfl
 show aN (aH (bu W O O) (aH (Y':=E3) (bu Q O O) (cL (fin n mu))))
end
noncomputable section
variable [HK][FN]
mutual
theorem ah.es_w:∀(r:ah)(w:Str)(ab:PV)(bl:Int)(k:Nat),∀e∈r.es w ab bl k,e.w=w
 |.leaf _ _,w,ab,bl,k,e,h=>by rw[eL.mp h]
 |.call _ _ _,w,ab,bl,k,e,h=>by rw[eL.mp h]
 |.wh x b,w,ab,bl,k,e,h=>(aT.mp h).elim (λh=>by rw[h]) (Rows.es_w b _ _ _ _ e)
 |.iff x b c,w,ab,bl,k,e,h=>(aT.mp h).elim (λh=>by rw[h]) λh=>(cx.mp h).elim (Rows.es_w b _ _ _ _ e) (Rows.es_w c _ _ _ _ e)
theorem Rows.es_w:∀(rs:Rows)(w:Str)(ab:PV)(bl:Int)(k:Nat),∀e∈rs.es w ab bl k,e.w=w
 |.nil,w,ab,bl,k,e,h=>by cases h
 |.cons r rs,w,ab,bl,k,e,h=>(cx.mp h).elim (ah.es_w r _ _ _ _ e) (Rows.es_w rs _ _ _ _ e)
end
def Rows.first{rs:Rows}(h:e∈rs.es w .non 0 k):e.w=w/\∃i∈rs.es w .non 0 k,i.key=KB w:=by
 show#[Rows.es_w _ _ _ _ _ e h,?_];cases rs with
 |nil=>cases h
 |cons r rs=>
  let(t,j):=r.es_head w .non 0 k;show#[#[w,.non,0,r],gu _ ∅,O]
theorem Jd:∀{fs:List Fn}{k:Nat}{e:b_},(∀f∈fs,f.name.length<=100)->e∈qi fs k->e.w.length<=100/\∃i∈qi fs k,i.key=KB e.w
 |[],k,e=>λ_ h=>by cases h
 |f::fs,k,e=>λq h=>by
  obtain h|h:=cx.mp h
  . let(j,i,h1,h2):=Rows.first h;show#[by rw[j];show q f bi,i,gu _ h1,by rw[h2,j]]
  . let(h1,i,h2,D):=Jd (λg z=>q g (cv _ z)) h;show#[h1,i,fB _ h2,D]
def XQ{P:Pg}(h:P.fine)(he:e∈P.es):e.w.length<=100/\∃j,j∈pos (KB e.w) 0 P.es:=by
 have:e.w.length<=100/\∃i∈P.es,i.key=KB e.w:=by
  obtain q|q:=cx.mp he
  . let(h1,i,h2,z):=Jd h.ok.nl q;show#[h1,i,gu _ h2,z]
  . let(D,i,h1,h2):=Rows.first q;show#[by rw[D];decide +kernel,i,fB _ h1,by rw[h2,D]]
 let(h1,i,h2,z):=this;let(j,F):=List.getElem?_of_mem h2;show#[h1,_,z▸QJ F]
structure Pl(P:Pg)(k:Nat)(e:b_):Prop where
 at_:P.es[k]?=!e
 he:kP P k e.r
 ab:uO e.ab k
 wl:e.w.length<=100
 bd:∃j,j∈pos (KB e.w) 0 P.es
 si:pW P.es e.w e.ab e.bl k e.r
def Am{P:Pg}:P.rws.length=P.es.length:=by unfold Pg.rws;rw[bS,uP,Rows.rws_len,es_len]
def Gd(h:P.fine)(hk:k<P.es.length):∃e,Pl P k e/\P.rws[k]?=!e.r:=by rw[<-Am]at hk;let i:=et hk;let H:=aaL h i;let(w,j,bl,s):=H.sp;let(h1,h2):=XQ h (eR s.get);show#[#[w,j,bl,P.rws[k]],#[s.get,H,s.ab,h1,h2,s],i]
def Pl.lt(h:Pl P k e):k<P.es.length:=(de.mp h.at_).1
def oK{P:Pg}(h:P.fine):P.es.length<=44:=by rw[es_len];show h.ok.ct
def Pl.num(h:Pl P k e):e.ab=.non\/∃j:Nat,e.ab=ZI j:=h.ab.imp id λ⟨j,q,_⟩=>#[j,q]
def R0(h:P.fine)(p:Pl P k e)(i:PA mu n P):dz 40 [ZA n,ZI (k:Nat)] mu=!(Zs (R (eF (e.r.bt k))),mu):=
 Vc i.pl e.r 40 k e.w e.ab e.bl p.si p.he.ok (by have:=p.he.dp;lia) (by have:=p.he.dp;lia) (M7 h p.he) (by have:=F1 p.he.dp;lia)
def XS(p:Pl P k e):(e.r.bt k).length<=47:=eI (e.r.bt_len k) (F1 p.he.dp)
def Cu(P:Pg)(i:Nat):Bool:=((P.rws[i]?).map ah.sp).getD M
def Vr(h:P.fine)(q:∀i∈l,i<P.es.length)(h2:l.length<=1000)(j:PA mu n P):fL [ZA n,R (aV l)] mu=!(Zp (.bl (l.any (Cu P))),mu):=by
 show aN (Y:=#[[zS (ZA n),zL (aV l)],mu]) (cL (mV (au (vM (r:=λi=>.bl (Cu P i)) O O () O O λi hi=>?_) O) O ?_))
 . let(e,p,z):=Gd h (q i hi);have D:Cu P i=e.r.sp:=by unfold Cu;rw[z];rfl
   rw[D];show aU (au (j8 O O O O (rZ j.pl p.at_) j.pl) O) O O O (Iv p.he.ok (by have:=p.he.dp;lia) (by have:=M7 h p.he;lia))
 . show ((c6 (l.map λi=>.bl (Cu P i))).map _)=_;rw[yw,iS];simp[List.any_map]
def sE(h:aj i Y=!(Zp (ZI (k:Nat)),Y))(hk:k<256)(j:c.length<=10):nD c (aj i) Y=!(Zp (ZH (c++jq k)),Y):=by let(h1,h2,_):=Mw k hk;show Fd h h1 ()
def adJ{r:ah}(ok:r.ok):(∃e b c,r=.iff e b c)\/∃w t,r.pv=ZB (ZH w::t)/\(w== "if")=M:=by
 cases r with
 |leaf w ps=>show YY #[w,ps,O,ok.1.1]
 |call b n j=>show YY #[_,_,O,by decide +kernel]
 |wh e b=>show YY #[_,_,O,by decide +kernel]
 |iff e b c=>show Zl #[e,b,c,O]
def adK{r:ah}(ok:r.ok):(∃e b,r=.wh e b)\/∃w t,r.pv=ZB (ZH w::t)/\(w== "while")=M:=by
 cases r with
 |leaf w ps=>show YY #[w,ps,O,ok.1.2.1]
 |call b n j=>show YY #[_,_,O,by decide +kernel]
 |iff e b c=>show YY #[_,_,O,by decide +kernel]
 |wh e b=>show Zl #[e,b,O]
def iU(h:aj i Y=!(Zp (ZB (ZH w::t)),Y)):aJ (aj i) (af 0) Y=!(Zp (ZH w),Y):=
 dW h O O O nt (by show (fY (PV.str w::t) 0).map _=_;rw[kH];rfl)
def ul(h:XG p):(jU p).length<=9:=by let(n,h1,h2,i,j):=wW h;have:=QG p;rw[bq];lia
def mm{α:Type}(f:α->Str×Str)(l:List α):(l.map f).map iT=l.map λy=>iT (f y):=fS ..
def XX(h:P.fine)(p:Pl P k e):∃A:List (Str×Str),A.length<=10/\∀mu n,PA mu n P->lu [ZA n,ZI (k:Nat)] mu=!(Zs (R (A.map iT)),mu):=by
 have D:∀mu n,PA mu n P->aM 2 B9 (dh n k [J,J,J] mu)=!(.nx (dh n k [zS e.ab,J,J] mu)):=λmu n i=>bu (j8 O O O O (XM i.pl p.at_) i.pl) O O;obtain q|⟨j,q,hj⟩:=p.ab
 . rw[q]at D;show#[[("enter","enter " ++ e.w)],by simp,λmu n i=>?_];have l6:("enter " : Str).length=6:=by decide +kernel
   have:=p.wl;show aN (Y:=dh n k [!(Zp .non),J,J] mu) (aH (D mu n i) (d7 O O (cL (lM (au (cM (au O (au (dJ O O (j8 O O O O (QH i.pl p.at_) i.pl) O (vN ())) O)) O O) O) O O))))
 . rw[q]at D;let(e2,p2,_):=Gd h (show j<P.es.length by have:=p.lt;lia);let hl:=oK h;let hjl:=p2.lt;let W:Str×Str:=("within","at " ++ jq j);let E3:Nat->Mu->Option Lc->List (Str×Str)->Ev:=λn mu o A=>dh n k [zI (j:Nat),zO (A.map iT),o] mu;have z:∀mu n,PA mu n P->∀(g:SF) ZN,g (E3 n mu (zS e2.r.pv) [W])=ZN->(aF vc (aF B_ g)) (dh n k [zI (j:Nat),J,J] mu)=ZN:=λmu n i g ZN Q=>by show aH (bu (lM (au (cM (au O (au (sE O () ()) O)) O O) O) O O) O O) ?_;show aH (bu (j8 O O O O (rZ i.pl p2.at_) i.pl) O O) Q
   obtain⟨x,b,c,F⟩|⟨w,t,F,hw⟩:=adJ p2.he.ok
   . let ok:=p2.he.ok;rw[F]at ok;let N:=ul ok.1;show#[W::(jU x).map λy=>("choice",y),by simp only[be,bq]at N ⊢;lia,λmu n i=>?_];let z:=z mu n i;rw[F]at z;show aN (Y:=dh n k [zI (j:Nat),J,!(Zp (ah.iff x b c).pv)] mu) (aH (D mu n i) ((bF O O).trans (z _ _ ?_)));show(rK (Y2:=E3 n mu (!(Zp (ah.iff x b c).pv)) (W::(jU x).map λy=>("choice",y))) (aY (iU O)) () ?_).trans O;show jN O (vM (aU O O O O (yD ok.1 mu)) O () O O λy _=>O) O O (by simp only[bq,be,b9]at N ⊢;lia) ?_;show dh n k [_,!(Zs (R ([iT W]++(jU x).map λy=>iT ("choice",y)))),_] mu=dh n k [_,!(Zs (R (iT W::((jU x).map λy=>(("choice" : Str),y)).map iT))),_] mu;rw[mm];rfl
   . show#[[W],by simp,λmu n i=>?_];let z:=z mu n i;rw[F]at z;show aN (Y:=dh n k [zI (j:Nat),J,zS (ZB (ZH w::t))] mu) (aH (D mu n i) ((bF O O).trans (z _ _ ((bF (aY (iU O)) hw).trans O))))
end
noncomputable section
variable [HK][FN]
def aaN(a b:List Str):eF (a++b)=eF a++eF b:=cy
def F2(h:c Y=!(b,Y1))(i:b=G)(h2:f Y1=ZN):cQ c f g Y=ZN:=by subst i;show(nJ h).trans h2
def F3(h:c Y=!(b,Y1))(i:b=M)(h2:g Y1=ZN):cQ c f g Y=ZN:=by subst i;show(nM h).trans h2
def QM(h:l≠[]):∃j∈l,fY (aV l) (-1)=!(ZI (j:Nat)):=by obtain⟨a,j,rfl⟩:∃a j,l=a++[j]:=#[l.dropLast,l.getLast h,(List.dropLast_concat_getLast h).symm];show#[j,by simp,by rw[aV,cy,List.map_singleton,CG]]
def aaO(h:P.fine)(p:Pl P k e)(F:e.r=.wh x b):∃A:List Str,A.length<=56/\∀mu n,PA mu n P->qQ [ZA n,ZI (k:Nat)] mu=!(Zs (R (eF A)),mu):=by
 let ok:=p.he.ok;rw[F]at ok;let lb:=ul ok.1;let l:_:=pos (eW e.w k 0) 0 P.es;let E3:Nat->Mu->List Str->Ev:=λn mu A=>dh n k [zL (aV l),zO (eF A)] mu;have D:∀mu n,PA mu n P->∀(g:SF) ZN,g (dh n k [zO (aV l),zO (eF (jU x))] mu)=ZN->(aF Cb (aF Cc g)) (dh n k [J,J] mu)=ZN:=λmu n i g ZN W=>by show aH (bu (j8 O O O O (Do i.pl p.at_) i.pl) O O) ?_;let r:=rZ i.pl p.at_;rw[F]at r;show aH (bu (aU (au (dW (j8 O O O O r i.pl) O O O nt O) O) O O O (yD ok.1 mu)) O O) W
 by_cases z:l=[]
 . show#[jU x,(),λmu n i=>?_];show aN (Y:=dh n k [zL (aV l),J] mu) (D mu n i _ _ ((bF (xY O O (by rw[z];rfl)) O).trans O))
 . let(j,Q,N):=QM z;let(q,p2,_):=Gd h (show j<P.es.length by have:=Gb Q;lia);let lt:=XS p2;show#[jU x++q.r.bt j,by rw[bS];lia,λmu n i=>?_];show aN (Y:=dh n k [zL (aV l),J] mu) (D mu n i _ _ ((rK (Y2:=E3 n mu (jU x++q.r.bt j)) (xY (p:=R (aV l)) O O ?_) O ?_).trans O))
   . cases h:aV l with
     |nil=>show absurd (List.map_eq_nil_iff.mp h) z
     |cons _ _=>rfl
   . show jN O (aU (ls:=[Zp (ZA n),Zp (ZI (j:Nat))]) (au O (au (dW O O O O nl (by show (fY (aV l) (-1)).map _=_;rw[N];rfl)) O)) O O O (R0 h p2 i)) O O ∅ ?_;show _=dh n k [_,zO (eF (jU x++q.r.bt j))] mu;rw[aaN];rfl
def X4(h:P.fine)(p:Pl P k e):∃A:List (Str×Str),A.length<=103/\∀mu n,PA mu n P->jB [ZA n,ZI (k:Nat)] mu=!(Zs (R (A.map iT)),mu):=by
 let hl:=oK h;let(r,hr,N):=XN p.at_ p.num ();have i:∃A:List (Str×Str),A.length<=47/\∀mu n,PA mu n P->∀(g:SF) ZN,g (dh n k [zS r,zO (A.map iT)] mu)=ZN->(aF uu (aF (aM 3 (bO ao)) (aF (cQ uk
  Ch
  Co) g))) (dh n k [J,J] mu)=ZN:=by
  have s:∀mu n,PA mu n P->∀(g:SF) ZN,g (dh n k [zS r,zO []] mu)=ZN->(aF uu (aF (aM 3 (bO ao)) g)) (dh n k [J,J] mu)=ZN:=λmu n j g ZN D=>aH (bu (j8 O O O O (N mu n j.pl) j.pl) O O) ();obtain q|⟨a,F,q⟩:=hr
  . subst q;let(A,Q,eA):=XX h p;show#[A,(),λmu n j g ZN D=>s mu n j _ _ (aH (F2 O O (jN O (aU O O O O (eA mu n j)) O O (by rw[bq];simp only[b9];lia) O)) D)]
  . subst q;let(W,p2,_):=Gd h F;let lt:=XS p2;show#[(W.r.bt a).map λy=>("behind",y),by rw[bq];show lt,λmu n j g ZN D=>s mu n j _ _ (aH (F3 O O (jN O (vM (aU O O O O (R0 h p2 j)) O () O O λy _=>O) O O (by rw[bq];simp only[b9];lia) ?_)) D)];rw[mm];rfl
 let(A,Q,i):=i;have t:∀{w:Str}{t:List PV}{mu:Mu}{n:Nat},PA mu n P->e.r.pv=ZB (ZH w::t)->tT Cn bh (dh n k [zS r,zO (A.map iT)] mu)=!(w== "while",dh n k [zS r,zO (A.map iT)] mu):=λ{w t mu n} j z=>by let q:=rZ j.pl p.at_;rw[z]at q;show aY (dW (j8 O O O O q j.pl) O O O nt (by show (fY (PV.str w::t) 0).map _=_;rw[kH];rfl))
 obtain⟨x,b,z⟩|⟨w,t',z,hw⟩:=adK p.he.ok
 . let(B,lB,eB):=aaO h p z;show#[A++B.map λy=>(("turns" : Str),y),by rw[bS,bq];lia,λmu n j=>?_];show aN (Y:=dh n k [zS r,J] mu) (i mu n j _ _ ((rK (Y2:=dh n k [zS r,!(Zs (R ((A++B.map λy=>(("turns" : Str),y)).map iT)))] mu) (t j (by rw[z];rfl)) () ?_).trans O));show jN O (vM (aU O O O O (eB mu n j)) O () O O λy _=>O) O O (by rw[bq,bq];lia) ?_;rw[cy,mm];rfl
 . show#[A,(),λmu n j=>aN (Y:=dh n k [zS r,J] mu) (i mu n j _ _ ((bF (t j z) hw).trans O))]
def X5(h:P.fine)(p:Pl P k e):∃A:List (Str×Str),A.length<=47/\∀mu n,PA mu n P->kI [ZA n,ZI (k:Nat)] mu=!(Zs (R (A.map iT)),mu):=by
 let hl:=oK h;let l:_:=pos (KB e.w) 0 P.es;have D:l≠[]:=λq=>by let(j,F):=p.bd;rw[show pos (KB e.w) 0 P.es=[] from q]at F;cases F
 let(j,F,ej):=QM D;let lt:=XS p;have ll:∀i∈l,i<P.es.length:=λi hi=>by have:=Gb hi;lia
 have l1:l.length<=1000:=by
  have:∀(es:List b_)(i:Nat),(pos (KB e.w) i es).length<=es.length:=λes=>by
   induction es with
   |nil=>show λi=>bv _
   |cons x es ih=>intro i;unfold pos;have:=ih (i+1);split<;>simp only[be]<;>lia
  have:=this P.es 0;show (pos (KB e.w) 0 P.es).length<=_;lia
 let E3:Nat->Mu->Ev:=λn mu=>dh n k [zT e.w,zL (aV l)] mu;have N:∀mu n,PA mu n P->∀(g:SF) ZN,g (dh n k [zT e.w,zO (aV l)] mu)=ZN->(aF CM (aF CO g)) (dh n k [J,J] mu)=ZN:=λmu n z g ZN W=>
  aH (bu (j8 O O O O (QH z.pl p.at_) z.pl) O O) (aH (bu (j8 (m:="body") O O O O (aaM z.pl) z.pl) O O) W)
 have t:∀mu n,PA mu n P->sS CL CS (dh n k [zT e.w,zO (aV l)] mu)=!(not (((j:Nat):Int)==((k:Nat):Int))||not (l.any (Cu P)),E3 n mu):=λmu n z=>
  qZ (xY (dJ (dW O O O O nl (by show (fY (aV l) (-1)).map _=_;rw[ej];rfl)) O O O O) O O) (Us (xY (j8 (m:="spending") (Y2:=E3 n mu) O O O O (Vr h ll l1 z) z.pl) O O))
 have l6:("leave " : Str).length=6:=by decide +kernel
 let hw:=p.wl;cases Q:not (((j:Nat):Int)==((k:Nat):Int))||not (l.any (Cu P)) with
 |true=>show#[[],d3 _,λmu n z=>aN (Y:=E3 n mu) (N mu n z _ _ (d7 (t mu n z) Q O))]
 |false=>
  show#[(e.r.bt k).map λy=>(y,"leave " ++ e.w),by rw[bq];show lt,λmu n z=>?_];rw[mm];show aN (Y:=E3 n mu) (N mu n z _ _ ((bF (t mu n z) Q).trans (cL (vM (Y1:=E3 n mu) (aU O O O O (R0 h p z)) O () O O λy _=>?_))));show cM (au O (au (Fd O (av ()) ()) O)) O O
end
noncomputable section
variable [HK][FN]
theorem mL{α:Type}(g:α->PV)(q:List α->Ev->Prop):∀(l i:List α)(Y:Ev),q i Y->(∀j x,j.length<i.length+l.length->x∈l->∀Y,q j Y->∃Y1 Y2,b (g x) Y=!Y1/\body Y1=!(.nx Y2)/\q (j++[x]) Y2)->∃Y',fG b body (l.map g) Y=!(.nx Y')/\q (i++l) Y'
 |[]=>λi Y h _=>#[Y,O,by rw[d0];show h]
 |x::l=>λi Y h hs=>by simp only[be]at hs;let(Y1,Y2,F,N,h2):=hs i x () bi Y h;let(Y',Q,z):=mL g q l (i++[x]) Y2 h2 λp y W D=>hs p y ∅ (cv _ D);show#[Y',gJ F N Q,by rw[cw]at z;show z]
abbrev S3:=Str×Str×Str
noncomputable abbrev lZ (y:S3):PV:=ZB [ZH y.1,ZH y.2.1,ZH y.2.2]
noncomputable abbrev dv (k:Nat) (y:S3):PV:=ZB [ZI (k:Nat),ZI 1,ZH y.1,ZH y.2.1,ZH y.2.2]
def iJ{α β:Type}(f:α->List β)(l:List α)(x:α):(l++[x]).flatMap f=l.flatMap f++f x:=by simp
def vB(x:Str)(e:PV):List S3:=(jU e).map λb=>("value",b,jV x)
def vE(x:Str)(e:PV):List S3:=(wV e).map λy=>("value",jV y,jV x)
def Ge(h:XG e):(vB x e).length<=9:=by unfold vB;rw[bq];show ul h
def Gf(h:XG e):(vE x e).length<=9:=by let(n,h1,h2,i,j):=wW h;unfold vE;rw[bq];show i
def adM:y∈vB x e ↔ y∈vE x e:=by
 unfold vB vE;simp only[cK];constructor
 . rintro⟨b,⟨z,i,rfl⟩,rfl⟩;show#[z,wU.mp i,O]
 . rintro⟨z,i,rfl⟩;show#[_,#[z,wU.mpr i,O],O]
def gB(k:Nat)(x:Str)(es:List PV):List S3:=("done","at " ++ jq k,jV x)::es.flatMap (vB x)
def gE(k:Nat)(x:Str)(es:List PV):List S3:=("done","at " ++ jq k,jV x)::es.flatMap (vE x)
def R1:y∈gB k x es ↔ y∈gE k x es:=by unfold gB gE;simp only[aT,List.mem_flatMap,adM]
def YS(h:aj i Y=!(Zp (ZH x),Y))(j:x.length<=100):nD "box " (aj i) Y=!(Zp (ZH (jV x)),Y):=
 Fd h (av ()) (by rw[Dv];lia)
def Dw(hk:k<256)(q:x.length<=100)(he:∀e∈es,XG e)(N:es.length<=26):kE [ZI (k:Nat),ZH x,R es] mu=!(Zs (R ((gB k x es).map lZ)),mu):=by
 let D:S3:=("done","at " ++ jq k,jV x);let E:List S3->Option Lc->Ev:=λA o=>#[[zI (k:Nat),zT x,zL es,zO ((D::A).map lZ),o],mu];let(Y',z,o,rfl,_):=mL (b:=aC 4) (body:=fQ 3 Cs) id (λi Y=>∃o,Y=E (i.flatMap (vB x)) o/\(i.flatMap (vB x)).length<=9*i.length) es [] (E [] J) #[J,O,bv _] λi e F j Y ⟨o,eY,hz⟩=>by
  subst eY;simp only[b9]at F;let Q:=Ge (x:=x) (he e j);show#[E (i.flatMap (vB x)) (zS e),E ((i++[e]).flatMap (vB x)) (zS e),O,?_,_,O,by rw[iJ,bS,bS];simp only[be];lia];rw[iJ];show jN O (vM (r:=λb=>lZ ("value",b,jV x)) (aU O O O O (yD (he e j) mu)) O (by have:=ul (he e j);lia) O O λb _=>?_) O O ?_ ?_
  . show cM (au O (au O (au (YS O q) O))) O O
  . have:=ul (he e j);simp only[bq,be]at this hz ⊢;lia
  . show (#[[_,_,_,!(Zs (R ((D::i.flatMap (vB x)).map lZ++(jU e).map λb=>lZ ("value",b,jV x)))),_],mu]:Ev)=#[[_,_,_,zO ((D::(i.flatMap (vB x)++vB x e)).map lZ),_],mu];unfold vB;simp only[dE,cy,fS];rfl
 rw[List.map_id,fm]at z;show aN (Y:=#[[zI (k:Nat),zT x,zL es,J,o],mu]) (aH (bu (lM (au (cM (au O (au (sE O hk ()) (au (YS O q) O))) O O) O) O O) O O) (aH () O))
def Gg(h:aj i Y=!(Zp (ZI (k:Nat)),Y))(hk:k<256)(q:c.length<=10):az bj (bg c) (eB g9 (aa (aj i) ao)) Y=!(Zp (ZH (c++jq k)),Y):=by let(_,h2,j):=Mw k hk;show dJ O O (mV (au h O) O j) O (vN ())
def Gh(h:aj i Y=!(Zp (ZH x),Y))(j:x.length<=100):az bj (bg "box ") (aj i) Y=!(Zp (ZH (jV x)),Y):=
 dJ O O h O (vN (by rw[Dv];lia))
def value_eq(hk:k<256)(F:x.length<=100)(he:∀e∈es,XG e)(hl:es.length<=26):jR [ZI (k:Nat),ZH x,R es] mu=!(Zs (R ((gE k x es).map (dv k))),mu):=by
 let D:S3:=("done","at " ++ jq k,jV x);let E:List S3->Option Lc->Option Lc->Ev:=λA o p=>#[[zI (k:Nat),zT x,zL es,zO ((D::A).map (dv k)),o,p],mu];let(Y',e1,o,p,rfl,_):=mL (b:=aC 4) (body:=fH ER (aC 5)
  ES) id (λi Y=>∃o p,Y=E (i.flatMap (vE x)) o p/\(i.flatMap (vE x)).length<=9*i.length) es [] (E [] J J) #[J,J,O,bv _] λi e hp N Y ⟨o,p,eY,hz⟩=>by
  subst eY;simp only[b9]at hp;let lb:=Gf (x:=x) (he e N);let(n,h1,h2,h3,h4):=wW (he e N);let j:Str->S3:=λy=>("value",jV y,jV x);let(Y',e2,q,rfl):=mL (b:=aC 5) (body:=jM 3 UE) PV.str (λz Y=>∃q,Y=E (i.flatMap (vE x)++z.map j) (zS e) q) (wV e) [] (E (i.flatMap (vE x)) (zS e) p) #[p,by rw[nX,d0]] λz y Q W Y ⟨q,eY⟩=>by subst eY;simp only[b9]at Q;show#[E (i.flatMap (vE x)++z.map j) (zS e) (zT y),E (i.flatMap (vE x)++(z++[y]).map j) (zS e) (zT y),O,?_,_,O];show rQ O (cM (au (Y1:=E (i.flatMap (vE x)++z.map j) (zS e) (zT y)) O (au O (au O (au (Gh O (h4 y W)) (au (Gh O F) O))))) O O) O O ∅ ?_;show (#[[_,_,_,zO ((D::(i.flatMap (vE x)++z.map j)).map (dv k)++[dv k (j y)]),_,_],mu]:Ev)=#[[_,_,_,zO ((D::(i.flatMap (vE x)++(z++[y]).map j)).map (dv k)),_,_],mu];simp
  show#[E (i.flatMap (vE x)) (zS e) p,E ((i++[e]).flatMap (vE x)) (zS e) q,O,dZ (dM (aU O O O O (M8 h1 40 mu () ())) O) (e2.trans (by rw[iJ];rfl)),_,_,O,by rw[iJ,bS,bS];simp only[be];lia]
 rw[List.map_id,fm]at e1;show aN (Y:=#[[zI (k:Nat),zT x,zL es,J,o,p],mu]) (aH (bu (lM (au (cM (au O (au O (au O (au (Gg O hk ()) (au (Gh O F) O))))) O O) O) O O) O O) (aH () O))
end
noncomputable section
variable [HK][FN]
def map_two{α β γ:Type}(f:α->β)(g:β->γ)(l:List α)(o:List β):(l.map f++o).map g=(l.map λx=>g (f x))++o.map g:=by rw[cy];congr 1;show fS ..
theorem YT:∀(xs:List Str)(i:List PV),qH (eF xs) i=(xs.zip i).map λz=>ZB [ZH z.1,z.2]
 |[],i=>rfl
 |x::xs,[]=>rfl
 |x::xs,a::i=>by show _::qH (eF xs) i=_;rw[YT xs i];rfl
theorem YW:∀(xs:List Str)(i:List PV),qH (xs.map λx=>ZB [ZH x,.non]) i=(xs.zip i).map λz=>ZB [ZB [ZH z.1,.non],z.2]
 |[],i=>rfl
 |x::xs,[]=>rfl
 |x::xs,a::i=>by show _::qH (xs.map _) i=_;rw[YW xs i];rfl
def YX(h1:f Y=!(x,Y1))(hx:x.pv=R ps)(h2:g Y1=!(y,Y2))(hy:y.pv=R qs):Bg f g Y=!(qH ps qs,Y2):=by unfold Bg;rw[h1,bo,h2,bo,hx,hy]
abbrev cB(k:Nat)(z:Str×PV):List S3:=gB k z.1 [z.2]
abbrev cE(k:Nat)(z:Str×PV):List S3:=gE k z.1 [z.2]
def Nb(h:XG z.2):(cB k z).length<=10:=by have:=Ge (x:=z.1) h;simp[gB];show this
def Nf(h:XG z.2):(cE k z).length<=10:=by have:=Gf (x:=z.1) h;simp[gE];show this
structure Dn(P:Pg)(k:Nat)(e:b_)(B E:List S3):Prop where
 lB:B.length<=41
 lE:E.length<=161
 mem:∀y,y∈B ↔ y∈E
 told:∀mu n,PA mu n P->pQ [.ptr n,.int (k:Nat)] mu=!(.own (.lst (B.map lZ)),mu)
 due:∀mu,yt [P.pv,.int (k:Nat),e.r.pv] mu=!(.own (.lst (E.map (dv k))),mu)
def aaP:j4 [ZB [ZH "set",x,e]] mu=!(Zs (R [e]),mu):=
 aN (Y:=E1 (ZB [ZH "set",x,e]) mu) ((bF () ()).trans ((bF () ()).trans ((bF () ()).trans O)))
def aaQ:j4 [ZB [ZH "put",x,e,f]] mu=!(Zs (R [e,f]),mu):=
 aN (Y:=E1 (ZB [ZH "put",x,e,f]) mu) ((bF () ()).trans ())
def wX(p:Pl P k e)(i:PA mu n P)(j:g (dh n k [zS e.r.pv,J,J,J] mu)=ZN):aF nr g (dh n k [J,J,J,J] mu)=ZN:=
 aH (bu (j8 O O O O (rZ i.pl p.at_) i.pl) O O) j
abbrev LD(p:PV)(k:Nat)(r:PV)(o3 o4 o5 o6 o7 o8 o9 nz:Option Lc)(mu:Mu):Ev:=#[[zS p,zI (k:Nat),zS r,o3,o4,o5,o6,o7,o8,o9,nz],mu]
def uT(hk:k<256)(i:g (LD p k r (!(Zp (ZH ("at " ++ jq k)))) J J J J J J J mu)=ZN):aF EX g (LD p k r J J J J J J J J mu)=ZN:=
 aH (bu (Gg O hk ()) O O) i
section
variable {P:Pg}{k:Nat}{e:b_}
def acY(p:Pl P k e)(hk:k<256)(j:e.r.pv=ZB [ZH "set",ZH x,a])(q:x.length<=100)(i:XG a):Dn P k e (gB k x [a]) (gE k x [a]):=by
 have D:∀y∈[a],XG y:=λy N=>by rw[eL.mp N];show i
 show#[eI (Nb (z:=(x,a)) i) (),eI (Nf (z:=(x,a)) i) (),λy=>R1,λmu n F=>?_,λmu=>?_]
 . show aN (Y:=dh n k [!(Zp (ZB [ZH "set",ZH x,a])),J,J,J] mu) (wX p F ?_);rw[j];show d7 (qZ (aY (iU O)) ()) () (cL (aU (au O (au O (au (aU O O O O aaP) O))) O O O (Dw hk q D (by simp))))
 . rw[j];show aN (Y:=LD P.pv k (ZB [ZH "set",ZH x,a]) (!(Zp (ZH ("at " ++ jq k)))) J J J J J J J mu) (uT hk ?_);show d7 (aY (iU O)) () (cL (aU O O O O (value_eq hk q D (by simp))))
def acZ(p:Pl P k e)(hk:k<256)(z:e.r.pv=ZB [ZH "put",ZH x,a,b])(D:x.length<=100)(i:XG a)(j:XG b):Dn P k e (gB k x [a,b]) (gE k x [a,b]):=by
 have F:∀y∈[a,b],XG y:=λy q=>by
  obtain rfl|q:=aT.mp q
  . show i
  . rw[eL.mp q];show j
 let l1:=Ge (x:=x) i;let l2:=Ge (x:=x) j;let Q:=Gf (x:=x) i;let W:=Gf (x:=x) j;show#[by simp[gB];lia,by simp[gE];lia,λy=>R1,λmu n N=>?_,λmu=>?_]
 . show aN (Y:=dh n k [!(Zp (ZB [ZH "put",ZH x,a,b])),J,J,J] mu) (wX p N ?_);rw[z];show d7 (qZ (aY (iU O)) ()) () (cL (aU (au O (au O (au (aU O O O O aaQ) O))) O O O (Dw hk D F (by simp))))
 . rw[z];show aN (Y:=LD P.pv k (ZB [ZH "put",ZH x,a,b]) (!(Zp (ZH ("at " ++ jq k)))) J J J J J J J mu) (uT hk ?_);show(bF (aY (iU O)) ()).trans (d7 (aY (iU O)) () (cL (aU O O O O (value_eq hk D F (by simp)))))
def ac0(p:Pl P k e)(hk:k<256)(er:e.r.pv=ZB [ZH "out",ZH x,a,ZH y])(hx:x.length<=100)(F:XG a):∃B E,Dn P k e B E:=by
 let(n,h1,h2,h3,h4):=wW F;let lb:=ul F;let j:List S3:=[("out","out " ++ jq k,jV x),("done","at " ++ jq k,jV x)];let i:Str->S3:=λb=>("let",b,"let " ++ jq k);show#[(jU a).map i++j,(wV a).map (λz=>i (jV z))++j,by simp only[bS,bq,j,be,b9]at lb ⊢;lia,by simp only[bS,bq,j,be,b9];lia,λz=>?_,λmu n pa=>?_,λmu=>?_]
 . simp only[cx,cK];show or_congr_left #[?_,?_]
   . rintro⟨b,⟨u,Q,rfl⟩,rfl⟩;show#[u,wU.mp Q,O]
   . rintro⟨u,Q,rfl⟩;show#[_,#[u,wU.mpr Q,O],O]
 . let r:PV:=ZB [ZH "out",ZH x,a,ZH y];let E3:Option Lc->Ev:=λo=>dh n k [zS r,o,J,J] mu;show aN (Y:=E3 (zL ((jU a).map λb=>lZ (i b)))) (wX p pa ?_);rw[er];show(bF (qZ (aY (iU O)) (aY (iU O))) ()).trans (d7 (aY (iU O)) () (aH (bu (vM (r:=λb=>lZ (i b)) (aU O O O O (yD F mu)) O () O O λb _=>?_) O O) (cL ?_)))
   . show cM (au O (au O (au (sE O hk ()) O))) O O
   . let D:_:=E3 (zL ((jU a).map λb=>lZ (i b)));have q:az bj (bg "box ") (aJ (aj 2) (af 1)) D=!(Zp (ZH (jV x)),D):=dJ O O O O (vN (by rw[Dv];lia));rw[map_two];show dJ O O (lM (au (cM (au O (au (sE O hk ()) (au q O))) O O) (au (cM (au O (au (sE O hk ()) (au q O))) O O) O)) O O) O (Al (by simp only[bq,j,be,b9]at lb ⊢;lia))
 . let r:PV:=ZB [ZH "out",ZH x,a,ZH y];let H:Option Lc:=!(Zp (ZH ("at " ++ jq k)));let W:Option Lc->Ev:=λo=>LD P.pv k r H o J J J J J J mu;let N:List PV:=(wV a).map λz=>dv k (i (jV z));rw[er];show aN (Y:=LD P.pv k r (!(Zp (ZH ("at " ++ jq k)))) J J J J J J J mu) (uT hk ?_);show(bF (aY (iU O)) ()).trans ((bF (aY (iU O)) ()).trans (aH O ?_));show(rK (aY (iU O)) () (aH (bu (vM (r:=λz=>dv k (i (jV z))) (aU O O O O (M8 h1 40 mu () ())) O () O O λz hz=>?_) O O) (bu (Y1:=W (zL N)) ?_ O O))).trans ((bF (aY (iU O)) ()).trans O)
   . show cM (au O (au O (au O (au (Gh O (h4 z hz)) (au (Gg O hk ()) O))))) O O
   . let D:_:=W (zL N);have q:az bj (bg "box ") (aJ (aj 2) (af 1)) D=!(Zp (ZH (jV x)),D):=dJ O O O O (vN (by rw[Dv];lia));rw[map_two];show dJ O O (lM (au (cM (au O (au O (au O (au (Gg O hk ()) (au q O))))) O O) (au (cM (au O (au O (au O (au O (au q O))))) O O) O)) O O) O (Al (by simp only[N,bq,j,be,b9];lia))
def YZ(p:Pl P k e)(hk:k<256)(j:e.r.pv=ZB (ZH w::t))(D:(w== "set")=M/\(w== "put")=M/\(w== "out")=M/\(w== "call")=M):Dn P k e [] []:=by
 let(h1,h2,i,q):=D;show#[d3 _,d3 _,λy=>Iff.rfl,λmu n z=>?_,λmu=>?_]
 . show aN (Y:=dh n k [zS (ZB (ZH w::t)),J,J,J] mu) (wX p z ?_);rw[j];show(bF (qZ (aY (iU O)) (aY (iU O))) ∅).trans ((bF (aY (iU O)) i).trans ((bF (aY (iU O)) q).trans O))
 . rw[j];show aN (Y:=LD P.pv k (ZB (ZH w::t)) (!(Zp (ZH ("at " ++ jq k)))) J J J J J J J mu) (uT hk ?_);show(bF (aY (iU O)) h1).trans ((bF (aY (iU O)) h2).trans (aH O ((bF (aY (iU O)) i).trans ((bF (aY (iU O)) q).trans O))))
end
end
noncomputable section
variable [HK][FN]
theorem QQ:∀{xs ys:List Str},xs.map (λx=>PV.tup [ZH x,.non])=ys.map (λx=>PV.tup [ZH x,.non])->xs=ys
 |[],[],_=>rfl
 |[],y::ys,h=>by cases h
 |x::xs,[],h=>by cases h
 |x::xs,y::ys,h=>by injection h with h1 h2;injection h1 with h1;injection h1 with h1 _;injection h1 with h1;rw[h1,QQ h2]
theorem Vs:∀{fs:List Fn},(fs.map Fn.name).Nodup->∀f∈fs,∀g∈fs,f.name=g.name->f=g
 |[]=>λ_ f i _ _ _=>by cases i
 |x::fs=>λD f i g j e=>by
  let(z,F):=f6.mp D;obtain q|q:=aT.mp i
  . obtain r|r:=aT.mp j
    . rw[q,r]
    . show(z ∅).elim
  . obtain r|r:=aT.mp j
    . show(z ∅).elim
    . show Vs F f q g r e
def pnm:PV->Str
 |ZB (ZH x::_)=>x
 |_=>""
def QR(f:Fn):List Str:=f.params.map pnm
def Gi(h:f.params=xs.map λx=>ZB [ZH x,.non]):QR f=xs:=by unfold QR;rw[h,fS];show List.map_id'' (λ_=>O) xs
def ac1{α β:Type}{f g:α->List β}{l:List α}{y:β}(h:∀x∈l,y∈f x ↔ y∈g x):y∈l.flatMap f ↔ y∈l.flatMap g:=by simp only[List.mem_flatMap];show#[λ⟨x,hx,q⟩=>#[x,hx,(h x hx).mp q],λ⟨x,hx,q⟩=>#[x,hx,(h x hx).mpr q]]
theorem pC{α β:Type}{f:α->List β}:∀{l:List α},(∀x∈l,(f x).length<=c)->(l.flatMap f).length<=c*l.length
 |[]=>λ_=>d3 _
 |x::l=>λh=>by let h1:=h x bi;let h2:=pC λy i=>h y (cv _ i);rw[List.flatMap_cons,bS,be,Nat.mul_succ];lia
section
variable {P:Pg}{k:Nat}{e:b_}
abbrev F4:SF:=aM 4 EZ
abbrev F5:SF:=cQ EV (fH EU u4 F4) cu
def sG(k:Nat)(n:Str)(as:List PV)(f:Fn):List S3:=if (f.name==n)=G then ((QR f).zip as).flatMap (cE k) else []
def aaR(h:P.fine)(p:Pl P k e)(hk:k<256)(hF:∀n,FN.fn n->∃f∈P.fns,f.name=n)(er:e.r=.call b m as):∃B E,Dn P k e B E:=by
 let ok:=p.he.ok;rw[er]at ok;let((x,rfl,hx),hn,ha,hla,kq):=ok;let(f,hf,fe):=hF m kq;let(xs,ex,lx,sx):=h.ok.pm f hf;let C:S3:=("call","at " ++ jq k,"enter " ++ m);let zs:_:=xs.zip as;have hz:∀z∈zs,z.1.length<=100/\XG z.2:=λz hz=>by let(h1,h2):=iP hz;show#[sx _ h1,ha _ h2]
 have lz:zs.length<=4:=by show (xs.zip as).length<=4;rw[List.length_zip];lia
 have l6:("enter " : Str).length=6:=by decide +kernel
 let r:PV:=(ah.call (ZH x) m as).pv;have lB:(zs.flatMap (cB k)).length<=10*zs.length:=pC λz q=>Nb (hz z q).2;have fl:∀g∈P.fns,((QR g).zip as).length<=4/\∀z∈(QR g).zip as,z.1.length<=100/\XG z.2:=λg hg=>by let(ys,ey,ly,sy):=h.ok.pm g hg;rw[Gi ey];show#[by rw[List.length_zip];lia,λz hz=>?_];let(h1,h2):=iP hz;show#[sy _ h1,ha _ h2]
 have fE:∀g∈P.fns,(sG k m as g).length<=40:=λg hg=>by
  unfold sG;split
  . have:=pC (f:=cE k) λz hz=>Nf ((fl g hg).2 z hz).2;have:=(fl g hg).1;lia
  . show d3 _
 let lE:=pC fE;let l4:=h.ok.fl;show#[C::zs.flatMap (cB k),C::P.fns.flatMap (sG k m as),by simp only[be];lia,by simp only[be];lia,λy=>?_,λmu n pa=>?_,λmu=>?_]
 . rw[aT,aT];show or_congr_right ?_;have q:y∈zs.flatMap (cB k) ↔ y∈sG k m as f:=by unfold sG;rw[av (by rw[fe];show io m),Gi ex];show ac1 λz _=>R1
   rw[q,List.mem_flatMap];show#[λq=>#[f,hf,q],λz85=>?_];let(g,hg,q):=z85;by_cases e1:g.name=m
   . rw[<-Vs h.ok.nd g hg f hf (e1.trans fe.symm)];show q
   . unfold sG at q;rw[aE (by rw[beq_iff_eq];show e1)]at q;cases q
 . let(ys,ey,_,_,pe):=Vq pa hf;rw[<-QQ (ex.symm.trans ey),fe]at pe;let E3:List S3->Option Lc->Option Lc->Ev:=λA o q=>dh n k [zS r,zO ((C::A).map lZ),o,q] mu;let(Y',e1,o,q,rfl,_):=mL (b:=dR 2 SV) (body:=fQ 3 CD) (λz:Str×PV=>ZB [ZH z.1,z.2]) (λj Y=>∃o q,Y=E3 (j.flatMap (cB k)) o q/\(j.flatMap (cB k)).length<=10*j.length) zs [] (E3 [] J J) #[J,J,O,bv _] λj z hp hm Y z86=>by let(o,q,eY,hy):=z86;subst eY;simp only[b9]at hp;let(g1,g2):=hz z hm;let lc:=Nb (k:=k) g2;show#[E3 (j.flatMap (cB k)) (zT z.1) (zS z.2),E3 ((j++[z]).flatMap (cB k)) (zT z.1) (zS z.2),O,?_,_,_,O,by rw[iJ,bS,bS];simp only[be,b9];lia];rw[iJ];show jN (ps:=(cB k z).map lZ) O (aU O O O O (Dw hk g1 (λy hy=>by rw[eL.mp hy];show g2) (by simp))) O O (by simp only[bq,be];lia) ?_;show dh n k [_,zO ((C::j.flatMap (cB k)).map lZ++(cB k z).map lZ),_,_] mu=dh n k [_,zO ((C::(j.flatMap (cB k)++cB k z)).map lZ),_,_] mu;rw[<-cy];rfl
   rw[fm,<-YT]at e1;show aN (Y:=dh n k [zS r,J,o,q] mu) (wX p pa ?_);rw[er];show(bF (qZ (aY (iU O)) (aY (iU O))) ()).trans ((bF (aY (iU O)) ()).trans (d7 (aY (iU O)) () (aH (bu (lM (au (cM (au O (au (sE O hk ()) (au (dJ O O O O (vN ())) O))) O O) O) O O) O O) (aH (dZ (YX (j8 (Y2:=E3 [] J J) (ps:=[ZH m]) O O O O pe pa.pl) O O O) e1) O))))
 . let H:Option Lc:=!(Zp (ZH ("at " ++ jq k)));let F:List S3->Option Lc->Option Lc->Option Lc->Option Lc->Option Lc->Option Lc->Ev:=λA o5 o6 o7 o8 D i=>LD P.pv k r H (zO ((C::A).map (dv k))) o5 o6 o7 o8 D i mu;let(Y',e1,o5,o6,o7,o8,D,i,rfl,_):=mL (b:=dR 4 EW) (body:=F5) Fn.pv (λj Y=>∃o5 o6 o7 o8 D i,Y=F (j.flatMap (sG k m as)) o5 o6 o7 o8 D i/\(j.flatMap (sG k m as)).length<=40*j.length) P.fns [] (F [] J J J J J J) #[J,J,J,J,J,J,O,bv _] λj g hp hm Y z87=>by
    let(o5,o6,o7,o8,D,i,eY,hy):=z87
    subst eY;simp only[b9]at hp;let fg:=fE g hm;let A:_:=j.flatMap (sG k m as);have y_:A.length<=40*j.length:=hy;let ZT:List S3->Option Lc->Option Lc->Ev:=λA D i=>F A (zT g.name) (zS g.rank) (zL g.params) (zL g.rows.pvs) D i;have t:tT UF bh (ZT A D i)=!(g.name==m,ZT A D i):=xY (p:=.bl (g.name==m)) (dJ (p:=ZH g.name) (q:=ZH m) O O O O O) O O;have lA:(A++sG k m as g).length<=40*(j++[g]).length:=by rw[bS,bS];simp only[be,b9];lia
    suffices hs:∃Q N,F5 (ZT A D i)=some (.nx (ZT (A++sG k m as g) Q N)) by let(Q,N,hs):=hs;show#[ZT A D i,ZT (A++sG k m as g) Q N,O,hs,_,_,_,_,_,_,by rw[iJ],by rw[iJ];show lA]
    cases hb:(g.name==m) with
    |false=>
     show#[D,i,F3 t hb ?_];rw[show sG k m as g=[] from aE (by rw[hb];decide),d0];rfl
    |true=>
     let(ys,ey,ly,sy):=h.ok.pm g hm;have eg:sG k m as g=(ys.zip as).flatMap (cE k):=by rw[show sG k m as g=_ from av hb,Gi ey]
     let on:=(fl g hm).2;rw[Gi ey]at on;rw[eg]at fg ⊢;let(Y2,e2,Q,N,rfl,_):=mL (b:=dR 2 S_) (body:=F4) (λz:Str×PV=>ZB [ZB [ZH z.1,.non],z.2]) (λpr Y=>∃Q N,Y=ZT (A++pr.flatMap (cE k)) Q N/\(pr.flatMap (cE k)).length<=10*pr.length) (ys.zip as) [] (ZT A D i) #[D,i,by rw[List.flatMap_nil,d0],bv _] λpr z hq hzm Y z88=>by let(Q,N,eY,A7):=z88;subst eY;simp only[b9,List.length_zip]at hq;let(g1,g2):=on z hzm;let lc:=Nf (k:=k) g2;let Z9:Option Lc:=zS (ZB [ZH z.1,.non]);let xo:Option Lc:=zS z.2;let B:_:=A++pr.flatMap (cE k);let G':Ev:=LD P.pv k r H (zL ((C::B).map (dv k))) (zT g.name) (zS g.rank) (zL g.params) (zL g.rows.pvs) Z9 xo mu;show#[ZT B Z9 xo,ZT (A++(pr++[z]).flatMap (cE k)) Z9 xo,O,?_,_,_,O,by rw[iJ,bS,bS];simp only[be,b9];lia];rw[iJ,<-cw];show bu (l:=Zs (R ((C::(B++cE k z)).map (dv k)))) (Y1:=G') (dJ (p:=R ((C::B).map (dv k))) (q:=R ((cE k z).map (dv k))) (Y1:=G') O O (aU (ps:=[ZI (k:Nat),ZH z.1,R [z.2]]) (Y1:=G') O O O O (value_eq hk g1 (λy hy=>by rw[eL.mp hy];show g2) (by simp))) O ?_) O O;rw[Al (by simp only[B,bq,be,bS];lia),<-cy];rfl
     rw[fm,<-YW,<-ey]at e2;show#[Q,N,F2 t hb (dZ (Y1:=ZT A D i) (YX (Y1:=ZT A D i) (ps:=g.params) (qs:=as) O O O O) e2)]
   rw[fm]at e1;rw[er];show aN (Y:=LD P.pv k r H J o5 o6 o7 o8 D i mu) (uT hk ?_);show(bF (aY (iU O)) ()).trans ((bF (aY (iU O)) ()).trans (aH (Y':=LD P.pv k r H (zO []) J J J J J J mu) O ((bF (aY (iU O)) ()).trans ((rK (Y2:=F (P.fns.flatMap (sG k m as)) o5 o6 o7 o8 D i) (aY (iU O)) () (aH (Y':=F [] J J J J J J) (bu (lM (au (cM (au (Y1:=LD P.pv k r H (zO []) J J J J J J mu) O (au O (au O (au O (au (dJ (p:=ZH "enter ") (q:=ZH m) O O O O (vN ())) O))))) O O) O) O O) O O) (dZ (Y1:=F [] J J J J J J) (dM (l:=Zp (R (P.fns.map Fn.pv))) O O) e1))).trans O))))
def adN(h:P.fine)(p:Pl P k e)(N:∀n,FN.fn n->∃f∈P.fns,f.name=n):∃B E,Dn P k e B E:=by
 have hk:k<256:=by have:=oK h;have:=p.lt;lia
 let ok:=p.he.ok;cases j:e.r with
 |leaf w ps=>
  rw[j]at ok;have z:e.r.pv=ZB (ZH w::ps):=by rw[j];rfl
  let(_,W):=ok;cases W with
  |set_ q i=>show#[_,_,acY p hk z q i]
  |put q i Q=>show#[_,_,acZ p hk z q i Q]
  |out y q i=>show ac0 p hk z q i
 |call b n as=>show aaR h p hk N j
 |wh x b=>show#[_,_,YZ p hk (w:="while") (by rw[j];rfl) ()]
 |iff x b c=>show#[_,_,YZ p hk (w:="if") (by rw[j];rfl) ()]
def aaS(p:Pl P k e)(hk:k<256):∃A:List (Str×Str),A.length<=3/\∀mu n,PA mu n P->jQ [ZA n,ZI (k:Nat)] mu=!(Zs (R (A.map iT)),mu):=by
 have z:∀{mu:Mu}{n:Nat},PA mu n P->∀{g:SF}{ZN:Option Fl},g (dh n k [zS e.r.pv] mu)=ZN->aF nr g (dh n k [J] mu)=ZN:=λ{mu n} j {g ZN} hg=>aH (bu (j8 O O O O (rZ j.pl p.at_) j.pl) O O) hg;have t:∀{mu:Mu}{n:Nat}{w:Str}{t:List PV},tT B6 bh (dh n k [zS (ZB (ZH w::t))] mu)=!(not (w== "call"),dh n k [zS (ZB (ZH w::t))] mu):=λ{mu n w t}=>xY (dJ (iU O) O O O O) O O;have q:∀{w:Str}{ps:List PV},e.r.pv=ZB (ZH w::ps)->(w== "call")=M->∃A:List (Str×Str),A.length<=3/\∀mu n,PA mu n P->jQ [ZA n,ZI (k:Nat)] mu=!(Zs (R (A.map iT)),mu):=λ{w ps} i hw=>#[[],d3 _,λmu n j=>by show aN (Y:=dh n k [zS (ZB (ZH w::ps))] mu) (z j ?_);rw[i];show d7 t ∅ O]
 let ok:=p.he.ok;cases i:e.r with
 |leaf w ps=>rw[i]at ok;show q (by rw[i];rfl) ok.1.2.2
 |wh x b=>show q (w:="while") (by rw[i];rfl) ()
 |iff x b c=>show q (w:="if") (by rw[i];rfl) ()
 |call b m F=>
  rw[i]at ok;let((x,rfl,N),Q,_):=ok;have W:("leave " : Str).length=6:=by decide +kernel
  let S:List Str:=[jV m,"at " ++ jq k,"leave " ++ m];show#[S.map λy=>(y,jV x),by simp[S],λmu n j=>?_];let r:PV:=(ah.call (ZH x) m F).pv;let E3:_:=dh n k [zS r] mu;rw[mm];show aN (Y:=E3) (z j ?_);rw[i];show(bF t ()).trans (cL (vM (Y1:=E3) (cM (au (dJ O O O O (vN (by rw[Dv];lia))) (au (sE O hk ()) (au (dJ O O O O (vN ())) O))) O O) O ∅ O O λy _=>?_));show cM (au O (au (dJ O O O O (vN (by rw[Dv];lia))) O)) O O
end
end
noncomputable section
variable [HK][FN]
abbrev kp(l:List aW):PV:=ZB (l.map wu)
noncomputable abbrev rt (k:Nat) (t:Int) (y:S3):List aW:=[!(.inl (k:Int)),!(.inl t),!(.inr y.1),!(.inr y.2.1),!(.inr y.2.2)]
def Je(l:List aW):Prop:=∃k t y,l=rt k t y
theorem aaT:∀k:aW,RC (wu k)=!k
 |none=>rfl
 |some (.inl _)=>rfl
 |some (.inr _)=>rfl
theorem Jf:∀l:List aW,Bm (l.map wu)=!l
 |[]=>rfl
 |k::l=>by show ((RC (wu k)).bind λx=>(Bm (l.map wu)).map (x::·))=_;rw[aaT,Jf l];rfl
theorem Jg:∀L:List (List aW),Bo (L.map kp)=!L
 |[]=>rfl
 |l::L=>by show ((Bm (l.map wu)).bind λx=>(Bo (L.map kp)).map (x::·))=_;rw[Jf,Jg L];rfl
def adO(h:∀l∈L,Je l):UW L=G:=by
 cases L with
 |nil=>rfl
 |cons l L=>
  let(k,t,y,rfl):=h l bi;unfold UW;rw[gt,List.all_eq_true];show#[O,λx i=>?_];let(j,z,q,rfl):=h x i;rfl
def Ng(h:f Y=!(l,Y1))(j:l.pv=R (L.map kp))(i:L.length<9000)(q:∀l∈L,Je l):rT f Y=!(Zs (R ((jK L).map kp)),Y1):=by unfold rT;rw[h,bo,j];show ((Bo (L.map kp)).bind _)=_;rw[Jg,bo,av #[i,adO q]]
structure RR where
 A:List (Str×Str)
 B:List S3
 C:List (Str×Str)
 D:List (Str×Str)
 E:List S3
structure RR.ok(P:Pg)(k:Nat)(e:b_)(ZN:RR):Prop where
 lA:ZN.A.length<=103
 lC:ZN.C.length<=3
 lD:ZN.D.length<=47
 tA:∀mu n,PA mu n P->jB [.ptr n,.int (k:Nat)] mu=!(.own (.lst (ZN.A.map iT)),mu)
 tC:∀mu n,PA mu n P->jQ [.ptr n,.int (k:Nat)] mu=!(.own (.lst (ZN.C.map iT)),mu)
 tD:∀mu n,PA mu n P->kI [.ptr n,.int (k:Nat)] mu=!(.own (.lst (ZN.D.map iT)),mu)
 dn:Dn P k e ZN.B ZN.E
def rA(k:Nat)(a:Str×Str):List aW:=rt k 0 (a.1,a.2,"at " ++ jq k)
def rC(k:Nat)(a:Str×Str):List aW:=rt k 2 ("back",a.1,a.2)
def rD(k:Nat)(a:Str×Str):List aW:=rt k 3 ("leave",a.1,a.2)
def RR.ks(k:Nat)(ZN:RR):List (List aW):=ZN.A.map (rA k)++(ZN.B.map (rt k 1)++(ZN.C.map (rC k)++ZN.D.map (rD k)))
def RR.is{ZN:RR}:∀l∈ZN.ks k,Je l:=λl i=>by unfold RR.ks at i;simp only[cx,cK]at i;rcases i with ⟨y,_,rfl⟩|⟨y,_,rfl⟩|⟨y,_,rfl⟩|⟨y,_,rfl⟩<;>show#[_,_,_,O]
def ac2(h:P.fine)(j:∀n,FN.fn n->∃f∈P.fns,f.name=n):∃f:Nat->RR,∀k,k<P.es.length->∃e,(f k).ok P k e/\P.rws[k]?=!e.r:=by
 show Classical.axiomOfChoice (r:=λk ZN=>k<P.es.length->∃e,RR.ok P k e ZN/\P.rws[k]?=!e.r) λk=>?_;by_cases hk:k<P.es.length
 . let(e,p,z):=Gd h hk;let hl:=oK h;let(A,i,tA):=X4 h p;let(B,E,N):=adN h p j;let(C,W,tC):=aaS p ();let(D,F,Q):=X5 h p;show#[#[A,B,C,D,E],λ_=>#[e,#[i,W,F,tA,tC,Q,N],z]]
 . show#[#[[],[],[],[],[]],λq=>absurd q hk]
abbrev ruB:SF:=(aF C0
 (aF va
 (aF CU
 CY)))
abbrev RU(p:PV)(n:Nat)(L:List (List aW))(o:Option Lc)(mu:Mu):Ev:=#[[zS p,zS (ZA n),zO (L.map kp),o],mu]
def Nh{α:Type}(f:α->List aW)(l:List α):(l.map λa=>kp (f a))=(l.map f).map kp:=by rw[fS];rfl
def Gj(h:f (RU p n L o mu)=!(Zs (R ps),RU p n L o mu))(e:ps=L'.map kp)(hz:L.length+L'.length<=100000):fQ 2 f (RU p n L o mu)=!(.nx (RU p n (L++L') o mu)):=by subst e;show jN O h O O ∅ ?_;show (#[[_,_,zO (L.map kp++L'.map kp),_],mu]:Ev)=#[[_,_,zO ((L++L').map kp),_],mu];rw[cy]
def X6(h:P.fine){f:Nat->RR}(hf:∀k,k<P.es.length->∃e,(f k).ok P k e/\P.rws[k]?=!e.r)(mu:Mu):∃F,GR [P.pv] mu=!(Zs (R ((jK ((List.range P.es.length).flatMap λk=>(f k).ks k)).map kp)),F):=by
 let(d,B,hd,ei):=VE h.ok mu;let i:_:=mu++some (fV "Plan" (Qj P.es (mu.length+1) (mQ d)))::B;have z:PA i mu.length P:=#[_,_,RQ,hd];let hl:=oK h;let g:Nat->List (List aW):=λk=>(f k).ks k;let E:_:=RU P.pv mu.length;let(Y',e1,o,rfl,l1):=mL (b:=aC 3) (body:=ruB) (λk:Nat=>ZI (k:Nat)) (λj Y=>∃o,Y=E (j.flatMap g) o i/\(j.flatMap g).length<=194*j.length) (List.range P.es.length) [] (E [] J i) #[J,O,bv _] λj k hp Q Y ⟨o,eY,N⟩=>by
  subst eY;simp only[b9,fR]at hp;let(e,ZN,_):=hf k (List.mem_range.mp Q);have hk:k<256:=by have:=List.mem_range.mp Q;lia
  let K:Option Lc:=zI (k:Nat);let L:_:=j.flatMap g;have N:L.length<=194*j.length:=N;have gk:(g k).length=((f k).ks k).length:=O;let lA:=ZN.lA;let lB:=ZN.dn.lB;let lC:=ZN.lC;let lD:=ZN.lD;have lk:((f k).ks k).length<=194:=by unfold RR.ks;simp only[bS,bq];lia
  show#[E L K i,E ((j++[k]).flatMap g) K i,O,?_,_,O,by rw[iJ,bS,bS];simp only[be,b9];lia];rw[iJ];show _=!(Fl.nx (E (L++(f k).ks k) K i));unfold RR.ks;rw[<-cw,<-cw,<-cw];show aH (Gj (RX (r:=λa=>kp (rA k a)) (aU O O O O (ZN.tA i _ z)) O () O O λa _=>?_) (Nh _ _) (by rw[bq];lia)) ?_
  . show cM (au O (au O (au O (au O (au (sE O hk ()) O))))) O O
  show aH (Gj (aeC (r:=λa=>kp (rt k 1 a)) (aU O O O O (ZN.dn.told i _ z)) O () O O λa _=>O) (Nh _ _) (by simp only[bS,bq];lia)) ?_;show aH (Gj (RX (r:=λa=>kp (rC k a)) (aU O O O O (ZN.tC i _ z)) O () O O λa _=>O) (Nh _ _) (by simp only[bS,bq];lia)) ?_;show Gj (RX (aU O O O O (ZN.tD i _ z)) O () O O λa _=>O) (Nh _ _) (by simp only[bS,bq];lia)
 rw[fm]at e1 l1;rw[fR]at l1;show#[i,aN (Y:=#[[zS P.pv,zS (ZA mu.length),zL (((List.range P.es.length).flatMap g).map kp),o],i]) ?_];show aH (bu (UZ O O ei) O O) (aH O (aH (dZ (dM (j8 O O O O (RZ z.pl ()) z.pl) O) e1) (cL (Ng O O (by show ((List.range P.es.length).flatMap g).length<9000;lia) λl D=>?_))));let(k,_,q):=List.mem_flatMap.mp D;show RR.is l q
end
noncomputable section
variable [HK]
section
variable [FN]
abbrev LW(S P:PV)(a2 a3 a4 a5 a6 a7 a8 a9 kc:Option Lc)(mu:Mu):Ev:=#[[zS S,zS P,a2,a3,a4,a5,a6,a7,a8,a9,kc],mu]
abbrev xp:SF:=Bd 2 vk
def QS{mu:Mu}:MA (mu++[!(R acc)]) mu.length acc=mu++[!(R acc)]:=RT
def aaU{rs:Rows}(ok:rs.ok)(z:rs.dep<=40)(D:acc.length+rs.cnt<=1000):∃q,xp (LW S P (zO acc) (zI (k:Nat)) a4 a5 a6 (zL rs.pvs) a8 a9 kc mu)=!(.nx (LW S P (zO (acc++f9 k rs.rws)) (zI ((k+rs.cnt:Nat):Int)) a4 a5 a6 (zL rs.pvs) a8 a9 kc q)):=by
 let j:Mu:=mu++[!(R acc)];have lt:mu.length<j.length:=by simp[j]
 let e:=Vd (k:=k) lt ok z D;rw[QS]at e;let i:_:=MA j mu.length (acc++f9 k rs.rws);show#[i.set mu.length J,?_];have st:vk (LW S P (zO acc) (zI (k:Nat)) a4 a5 a6 (zL rs.pvs) a8 a9 kc mu)=!(.nx (LW S P (zS (ZA mu.length)) (zI ((k+rs.cnt:Nat):Int)) a4 a5 a6 (zL rs.pvs) a8 a9 kc i)):=by show aM 3 _ (LW S P (zS (ZA mu.length)) (zI (k:Nat)) a4 a5 a6 (zL rs.pvs) a8 a9 kc j)=_;show bu (aU O O O O e) O O
 unfold xp Bd;rw[st,bo];show (match i[mu.length]? with |some (!p)=>some (Ev.mk _ _) |_=>J).map _=_;rw[show i[mu.length]?=some (!(R (acc++f9 k rs.rws))) from Fz lt];rfl
theorem Vt:∀(fs:List Fn)(acc:List PV)(k:Nat)(Q D F N q z i:Option Lc)(mu:Mu),(∀f∈fs,f.rows.ok/\f.rows.dep<=11)->acc.length+dY fs<=1000->∃p4 W p6 p7 j,fG Fc xp (fs.map Fn.pv) (LW S P (zO acc) (zI (k:Nat)) Q D F N q z i mu)=!(.nx (LW S P (zO (acc++f9 k (lq fs))) (zI ((k+dY fs:Nat):Int)) p4 W p6 p7 q z i j))
 |[]=>λacc k Q D F N q z i mu _ _=>#[Q,D,F,N,mu,by simp[fG,lq,f9,dY]]
 |f::fs=>λacc k Q D F N q z i mu h hl=>by
  simp only[dY]at hl;let(h1,h2):=h f bi;let(gy,e1):=aaU (acc:=acc) h1 () ();let(p4,W,p6,p7,j,e2):=Vt fs (acc++f9 k f.rows.rws) (k+f.rows.cnt) (zT f.name) (zS f.rank) (zL f.params) (zL f.rows.pvs) q z i gy (λg hg=>h g (cv _ hg)) (by rw[bS,wL,Rows.rws_len];lia);show#[p4,W,p6,p7,j,gJ O e1 (e2.trans ?_)];have e3:k+f.rows.cnt+dY fs=k+dY (f::fs):=by simp only[dY];lia
  have e4:acc++f9 k f.rows.rws++f9 (k+f.rows.cnt) (lq fs)=acc++f9 k (lq (f::fs)):=by simp[lq,wK,Rows.rws_len]
  rw[e3,e4]
theorem Vu:∀(i:Nat)(rs:List ah),f9 i rs=(rs.zipIdx i).map λx=>ZB [ZI (x.2:Nat),x.1.pv]
 |i,[]=>rfl
 |i,r::rs=>by rw[List.zipIdx_cons,dE,<-Vu (i+1) rs];rfl
def aaV(h:f Y=!(Zp (.bl G),Y1))(h2:g Y1=ZN):K6 f g Y=ZN:=by unfold K6;rw[h,bo];show h2
def aeD(h:Je l):fl (kp l):=by let(k,t,y,rfl):=h;show#[O,by show 1+1<=20;decide]
def Vv{L:List (List aW)}(h:∀l∈L,Je l):c5 (R (L.map kp)) (R (L.map kp))=zS (.bl G):=by
 show (dm 150 (R (L.map kp)) (R (L.map kp))).map _=_;rw[jk λp i=>by let(l,j,rfl):=cK.mp i;show jd (aeD (h l j)) ()]
 rfl
def c1:PV->Bool
 |ZB (_::ZI t::_)=>t==1
 |_=>M
def aaW{L:List (List aW)}(j:aj i Y0=!(Zp (R (L.map kp)),Y))(h:∀l∈L,Je l)(D:L.length<=100000):cF (dG (aj i) bN) 1 [] (aC 0) Fa (aj 0) Y0=!(Zs (R ((L.filter λl=>c1 (kp l)).map kp)),Y):=by
 let c:=xX (b:=aC 0) (tc:=tT UH bh) (te:=aj 0) (λU=>∃o,U=#[[o],Y.mu]) (λU ⟨o,e⟩=>by rw[e]) c1 id (xs:=L.map kp) (Y:=#[[J],Y.mu]) (acc:=[]) #[_,O] ∅ λx q U ⟨o,e⟩=>by let(l,z,rfl):=cK.mp q;let(k,t,y,rfl):=h l z;subst e;show#[_,O,_,O,#[_,O],λ_=>#[_,_,O,O,_,O]]
 rw[fm,List.map_id,List.filter_map]at c;show gh (dM j O) c
theorem Ni:∀l:List (List aW),(uD k l).length<=l.length+1
 |[]=>bv _
 |x::l=>by
  have:=Ni (k:=k) l;unfold uD;split
  . show bv _
  . split<;>simp only[be]<;>lia
theorem Jh:∀l:List (List aW),(jK l).length<=l.length
 |[]=>bv _
 |k::l=>by let h1:=Jh l;let h2:=Ni (k:=k) (jK l);show (uD k (jK l)).length<=_;rw[be];lia
end
def law_true(ns:List Int)(hl:ns.length<=63):∃mu,RJ [R (ns.map PV.int)] []=!(Zp (.bl G),mu):=by
 let(F,P,h,hF,ep):=RW ns hl;let(gy,e1):=ep [];let S:PV:=R (ns.map PV.int);let FX:=h.ok.ct;let(f,hf):=ac2 h hF;let el:=oK h;let(p4,p5,p6,p7,i,e4):=Vt P.fns [] 0 J J J J J J J gy (λf hf=>#[(h.ok.fn f hf).1,h.fd f hf]) (by simp only[b9];lia);rw[fm,ij]at e4;let A1:_:=f9 0 (lq P.fns);have wx:A1.length=dY P.fns:=by show (f9 0 (lq P.fns)).length=_;rw[wL,uP]
 let Q:Mu:=i++[!(R A1)];have lt:i.length<Q.length:=by simp[Q]
 let e5:=Vd (k:=dY P.fns) (acc:=A1) lt h.ok.rw (by have:=h.dd;lia) ();rw[QS]at e5;let A2:_:=A1++f9 (dY P.fns) P.rows.rws;have eA2:A2=P.rws.zipIdx.map λx=>ZB [ZI (x.2:Nat),x.1.pv]:=by rw[<-Vu];show f9 0 (lq P.fns)++f9 (dY P.fns) P.rows.rws=f9 0 (lq P.fns++P.rows.rws);rw[wK,uP,ij]
 let pV:_:=MA Q i.length A2;let K:Option Lc:=zI (dY P.fns:Nat);let z:_:=pV.set i.length J;let T:Option Lc:=zL A2;let g:ah×Nat->List (List aW):=λx=>(f x.2).E.map (rt x.2 1);let V:List (List aW)->Option Lc->Option Lc->Ev:=λL o3 o9=>LW S P.pv T o3 p4 p5 p6 p7 (zO (L.map kp)) o9 J z;have hx:∀x∈P.rws.zipIdx,∃e,(f x.2).ok P x.2 e/\e.r=x.1:=λx hx=>by let q:=List.mem_zipIdx_iff_getElem?.mp hx;let(e,ZN,er):=hf x.2 (by rw[<-Am];show(de.mp q).1);rw[q]at er;show#[e,ZN,(d_ er).symm]
 let(Y',e6,q3,q9,rfl,l6):=mL (b:=dR 2 (aO (aC 3) (aO (aC 9) dN))) (body:=E_) (λx:ah×Nat=>ZB [ZI (x.2:Nat),x.1.pv]) (λj Y=>∃o3 o9,Y=V (j.flatMap g) o3 o9/\(j.flatMap g).length<=161*j.length) P.rws.zipIdx [] (V [] K J) #[K,J,O,bv _] λj x hp hm Y ⟨o3,o9,eY,hy⟩=>by subst eY;simp only[b9,List.length_zipIdx,Am]at hp;let(e,ZN,er):=hx x hm;let lE:=ZN.dn.lE;let X3:Option Lc:=zI (x.2:Nat);let X9:Option Lc:=zS x.1.pv;let L:_:=j.flatMap g;have hy:L.length<=161*j.length:=hy;have gx:(g x).length=(f x.2).E.length:=bq _;let V':Ev:=LW S P.pv T X3 p4 p5 p6 p7 (zL (L.map kp)) X9 J z;show#[V L X3 X9,V ((j++[x]).flatMap g) X3 X9,O,?_,_,_,O,by rw[iJ,bS,bS];simp only[be,b9];lia];rw[iJ];let du:=ZN.dn.due z;rw[er,show (f x.2).E.map (dv x.2)=(g x).map kp from Nh (rt x.2 1) (f x.2).E]at du;show bu (dJ (p:=R (L.map kp)) (q:=R ((g x).map kp)) O O (aU O O O O du) O ?_) O O;rw[Al (by rw[bq,bq];lia),<-cy]
 rw[fm]at e6 l6;rw[List.length_zipIdx,Am]at l6;rw[<-eA2]at e6;let D:_:=P.rws.zipIdx.flatMap g;let(N,e7):=X6 h hf z;let L:_:=jK ((List.range P.es.length).flatMap λk=>(f k).ks k);let(F6,e8):=ep N;have iL:∀l∈L,Je l:=λl hl=>by let(k,_,q):=List.mem_flatMap.mp (oW.mp hl);show RR.is l q
 have iD:∀l∈D,Je l:=λl hl=>by let(x,_,q):=List.mem_flatMap.mp hl;let(y,_,rfl):=cK.mp q;show#[_,_,_,O]
 have eLD:(L.filter λl=>c1 (kp l))=jK D:=by
  show RD (yg.filter _) yg λl=>?_;rw[List.mem_filter,oW,oW,List.mem_flatMap,List.mem_flatMap];constructor
  . rintro⟨⟨k,hk,q⟩,hc⟩;let(e,ZN,er):=hf k (List.mem_range.mp hk);unfold RR.ks at q;simp only[cx,cK]at q;obtain⟨y,_,rfl⟩|⟨y,hy,rfl⟩|⟨y,_,rfl⟩|⟨y,_,rfl⟩:=q
    . cases hc
    . show#[(e.r,k),List.mem_zipIdx_iff_getElem?.mpr er,cK.mpr #[y,(ZN.dn.mem y).mp hy,O]]
    . cases hc
    . cases hc
  . rintro⟨x,F7,q⟩;let(e,ZN,er):=hx x F7;let(y,hy,rfl):=cK.mp q;show#[#[x.2,List.mem_range.mpr ?_,?_],O]
    . rw[<-Am];show(de.mp (List.mem_zipIdx_iff_getElem?.mp F7)).1
    . unfold RR.ks;simp only[cx,cK];show YY (Zl #[y,(ZN.dn.mem y).mpr hy,O])
 have lL:L.length<=100000:=by
  let h1:=Jh ((List.range P.es.length).flatMap λk=>(f k).ks k);let h2:=pC (f:=λk=>(f k).ks k) (c:=194) λk hk=>by let(e,ZN,_):=hf k (List.mem_range.mp hk);let lA:=ZN.lA;let lB:=ZN.dn.lB;let lC:=ZN.lC;let lD:=ZN.lD;unfold RR.ks;simp only[bS,bq];lia
  rw[fR]at h2;have h3:L.length<=((List.range P.es.length).flatMap λk=>(f k).ks k).length:=h1;lia
 let W:Lc->Lc->Mu->Ev:=λd r mu=>LW S P.pv T q3 p4 p5 p6 p7 (!d) q9 (!r) mu;let dO:Lc:=Zs (R (D.map kp));let dS:Lc:=Zp (R (D.map kp));let rO:Lc:=Zs (R (L.map kp));let rS:Lc:=Zp (R (L.map kp));show#[F6,?_];show aN (Y:=W dS rS F6) ?_;show aH (bu (aU O O O O e1) O O) ?_;show aH O ?_;show aH O ?_;show aH (dZ (Y1:=LW S P.pv (zO []) (zI ((0:Nat):Int)) J J J J J J J gy) (dM (l:=Zp (R (P.fns.map Fn.pv))) O O) e4) ?_;show aH (Y':=LW S P.pv (zO A2) K p4 p5 p6 p7 J J J z) ?_ ?_
 . have st:wj 2 Fh (LW S P.pv (zO A1) K p4 p5 p6 p7 J J J i)=!(.nx (LW S P.pv (zS (ZA i.length)) K p4 p5 p6 p7 J J J pV)):=by show qX _ (LW S P.pv (zS (ZA i.length)) K p4 p5 p6 p7 J J J Q)=_;show Ga (aU (ls:=[Zp (R P.rows.pvs),Zp (ZI (dY P.fns:Nat)),Zp (ZA i.length)]) (ps:=[R P.rows.pvs,ZI (dY P.fns:Nat),ZA i.length]) (Y1:=LW S P.pv (zS (ZA i.length)) K p4 p5 p6 p7 J J J Q) O O O O e5)
   unfold Bd;rw[st,bo];show (match pV[i.length]? with |some (!p)=>some (Ev.mk _ _) |_=>J).map _=_;rw[show pV[i.length]?=some (!(R A2)) from Fz lt];rfl
 show aH (Y':=LW S P.pv (zO A2) K p4 p5 p6 p7 (zO []) J J z) O ?_;show aH (dZ (xs:=A2) (Y1:=V [] K J) (dM (l:=Zp (R A2)) O O) e6) ?_;show aH (Y':=W dO rO N) (bu (aU (ls:=[Zp P.pv]) (ps:=[P.pv]) (Y1:=V D q3 q9) O O O O e7) O O) ?_;show cL (aaV (Y1:=W dS rS N) ?_ ?_)
 . show dJ (p:=R ((jK D).map kp)) (q:=R ((jK D).map kp)) (Y1:=W dO rS N) (l:=Zs (R ((jK D).map kp))) ?_ O (Ng (l:=dS) O O (by show (P.rws.zipIdx.flatMap g).length<9000;lia) iD) O (Vv λl hl=>iD l (oW.mp hl));rw[<-eLD];show aaW O iL lL
 . show bD (x:=Zp P.pv) (y:=Zp P.pv) (Y1:=W dS rS N) O (aU (ls:=[Zp S]) (ps:=[S]) (Y1:=W dS rS N) O O O O e8) (X1 h)
end
section
variable (K:FG)(x qq:Str)(st:Stmt)(f c:Addr)
abbrev F8:Prop:=∃(oc kV dc pm cd ct:Value)(od an:Option Addr)(sl:Array (Option Value)),K.lookup f=!#[oc,od,.func (W.fnOf x qq (qt st) (jw st) (aG st) .none kV dc pm an cd ct),sl]/\W.codeIn K cd qq=G/\W.keepIn K (YV f)=G
abbrev FD:Prop:=∃f,W.nsIn K mainGlobals x=!(!(YV f))/\F8 K x x st f
abbrev FM:Prop:=∃f,W.findIn K (YV c) x=!(!(YV f))/\W.isFn K (YV f)=G/\F8 K x qq st f
abbrev KC:Prop:=W.nsIn K mainGlobals x=!(!(YV c))/\W.plainGet K c Str.empty=G/\W.hasDictIn K c=G/\W.plainOver K c=G/\W.findIn K (YV c) "__setattr__"=!(!(.builtin "object.__setattr__"))/\W.makesIn K c=G/\W.keepIn K (YV c)=G
abbrev HB(ps:List Str):Prop:=∀(kV jv pm:Value)(an:Option Addr)(fA ct:Value)(us:List Value),us.length=ps.length->bindArgs (W.fnOf x qq (qt st) (jw st) (aG st) .none kV jv pm an fA ct) #[us,[]]=pure (ps.zip us)
end
section
variable {K:FG}{h:Heap}{mg:Str->Option Value}{x qq:Str}{st:Stmt}{c:Addr}{ps:List Str}
def jl(X:K.In h)(ZT:h.Ns mainGlobals mg)(d:FD K x st)(i:HB x x st ps):cU K mg x st ps:=by let(f,a,_,_,_,_,_,_,_,_,_,l,e,k):=d;show#[_,_,zm l e k,W.mg_of X ZT a,(zm l e k).binds i]
def Cv(d:FM K x qq st c)(j:HB x qq st ps):wg K c x qq st ps:=by let(f,a,i,_,_,_,_,_,_,_,_,_,l,e,k):=d;show#[_,_,zm l e k,a,i,(zm l e k).binds j]
def mkT(X:K.In h)(G:h.Ns mainGlobals mg)(d:KC K x c):yc K mg x c:=#[d.1,#[d.2.1,d.2.2.1,d.2.2.2.1,d.2.2.2.2.1],W.mg_of X G d.1]
def xt(n:W.findIn K (YV c) x=!J)(t:∀f∈l,j9 K c f):∀f∈x::l,j9 K c f:=by
 intro g i;obtain e|i:=aT.mp i
 . rw[e];show n
 . show t g i
def nan:∀f∈([]:List Str),j9 K c f:=λ_ h=>nomatch h
def bc(X:K.In h)(ZT:h.Ns mainGlobals mg)(n:W.nsIn K mainGlobals x=!J)(t:PB mg l):PB mg (x::l):=by
 intro g i;obtain e|i:=aT.mp i
 . rw[e];show W.mg_none_of X ZT n
 . show t g i
def bn:PB mg []:=λ_ h=>nomatch h
end
local macro_rules | `(tactic| walk_at "b")=>`(tactic| (intro _ _ _ _ _ _ us hl; first | (obtain⟨_,e⟩:=yI hl; subst e; rfl) | (obtain⟨_,_,e⟩:=ng hl; subst e; rfl) | (obtain⟨_,_,_,e⟩:=AY hl; subst e; rfl) | (obtain⟨_,_,_,_,_,e⟩:=N9 hl; subst e; rfl)))
def all_mk{l:W.OpenLaw}{K:FG}{h:Heap}{mg:Str->Option Value}{fa:Addr}(X:K.In h)(ZT:h.Ns mainGlobals mg)(hfa:mg "law"=!(YV fa))
 (ahG:∃c,KC K "Plan" c/\(W.findIn K (YV c) "told"=!J/\W.findIn K (YV c) "lists"=!J/\W.findIn K (YV c) "heads"=!J)/\FM K "__init__" "Plan.__init__" jY c/\FM K "numbers" "Plan.numbers" pN c/\FM K "params" "Plan.params" qN c/\FM K "row" "Plan.row" vK c/\FM K "home" "Plan.home" uG c/\FM K "outer" "Plan.outer" sW c/\FM K "body" "Plan.body" uH c/\FM K "block" "Plan.block" sX c/\FM K "just_ahead" "Plan.just_ahead" lQ c/\FM K "spending" "Plan.spending" jZ c)
 (ahr:FD K "blocks_of" vJ)
 (agZ:FD K "expressions_of" oF)
 (ahC:FD K "copied" yh)
 (ahf:FD K "all_copied" lN)
 (ahv:FD K "in_order" tU)
 (ahw:FD K "laid_out" tV)
 (ahx:FD K "numbered" yj)
 (ahE:FD K "reads" Bp)
 (ahy:FD K "names_in" tW)
 (ahD:FD K "spends" ym)
 (ahg:FD K "behind_row" pJ)
 (ahF:FD K "rules" qJ)
 (ahh:FD K "boxes_read" pK)
 (ag2:FD K "begin_sources" jz)
 (ag3:FD K "first_sources" lr)
 (ag7:FD K "turn_sources" qK)
 (ahi:FD K "done_steps" pL)
 (ahb:FD K "given_steps" nR)
 (ahj:FD K "back_steps" pM)
 (ahc:FD K "leave_steps" nT)
 (ag8:FD K "_law_cell_at" qM)
 (ahk:FD K "_law_names" lO)
 (agW:FD K "_law_expression" mX)
 (ahz:FD K "_law_row" tX)
 (ahs:FD K "_law_rows" rE)
 (ahl:FD K "_law_heads" uE)
 (ag9:FD K "_law_program" gZ)
 (aht:FD K "_law_read" rF)
 (ahA:FD K "_law_all" tY)
 (ahm:FD K "_law_value" uF)
 (ahB:FD K "_law_due" tZ)
 (ahH:FD K "law" vh)
 (z0:W.nsIn K mainGlobals "any"=!J)
 (z1:W.nsIn K mainGlobals "enumerate"=!J)
 (z2:W.nsIn K mainGlobals "len"=!J)
 (z3:W.nsIn K mainGlobals "list"=!J)
 (z4:W.nsIn K mainGlobals "range"=!J)
 (z5:W.nsIn K mainGlobals "set"=!J)
 (z6:W.nsIn K mainGlobals "sorted"=!J)
 (z7:W.nsIn K mainGlobals "str"=!J)
 (z8:W.nsIn K mainGlobals "zip"=!J)
 (HL:∀[HK] (ns:List Int),ns.length<=63->∃mu,RJ [R (ns.map PV.int)] []=!(Zp (.bl G),mu))
 : ∃fd:FuncData,(∀(s:Shared)(v:Value),BindsTo s fd #[[v],[]] [("_law_script",v)])/\∀base:Heap,K.In base->base.Ns mainGlobals mg->n8 l.prog w K mg base pZ 87 fa fd ["_law_script"] (JT K):=by
 letI:HK:=#[Cg l.prog w]
 have cp:HK.hk=Cg l.prog w:=O;let(cS,z,(n0,n1,n2),ag0,ag4,aha,ahu,aho,ahd,ahp,ahe,agV,ag1):=ahG;let bp:=mkT X ZT z;let bP:=xt n0 (xt n1 (xt n2 (nan)));have B:PB mg BL:=bc X ZT z0 (bc X ZT z1 (bc X ZT z2 (bc X ZT z3 (bc X ZT z4 (bc X ZT z5 (bc X ZT z6 (bc X ZT z7 (bc X ZT z8 (bn)))))))));let(_,a,_,kV,dc,pm,cd,ct,_,an,_,lk,ce,kp):=ahH;let e:=hfa.symm.trans (W.mg_of X ZT a);cases e;show#[W.fnOf "law" "law" (qt vh) (jw vh) (aG vh) .none kV dc pm an cd ct,λs v=>.of_eq O,λbase _ _=>?_];let F:=Mh (base:=base) B bp bP cp (jl X ZT ahr (by walk_at "b"));let vw:=BV (base:=base) B bp bP cp (jl X ZT agZ (by walk_at "b"));let F9:=Fj (base:=base) B bp bP cp (jl X ZT ahC (by walk_at "b")) (jl X ZT ahf (by walk_at "b")) 40;let agk:=F9.1;let agu:=F9.2;let agv:=Aa (base:=base) B bp bP cp (jl X ZT ahv (by walk_at "b")) F 40;let agn:=Ab (base:=base) B bp bP cp (jl X ZT ahw (by walk_at "b")) F agk 40;let agQ:=N5 (base:=base) B bp bP cp (jl X ZT ahx (by walk_at "b")) agn;let agz:=Io (base:=base) B bp bP cp (jl X ZT ahE (by walk_at "b")) 40;let agR:=N6 (base:=base) B bp bP cp (jl X ZT ahy (by walk_at "b")) agz;let agY:=U5 (base:=base) B bp bP cp (jl X ZT ahD (by walk_at "b")) agv;let D:=GX (base:=base) B bp bP cp (Cv ahe (by walk_at "b"));let i:=Mi (base:=base) B bp bP cp (Cv ahu (by walk_at "b"));let N:=BW (base:=base) B bp bP cp (Cv ag1 (by walk_at "b")) i agY;let q:=wC (base:=base) B bp bP cp (jl X ZT ahg (by walk_at "b")) D i N 40;let vy:=QU (BX (base:=base) B bp bP cp (Cv ag0 (by walk_at "b")) agQ) z.2.2.2.2.2.1 z.2.2.2.2.2.2;let vF:=Dj (base:=base) B bp bP cp (Cv ag4 (by walk_at "b"));let vS:=Jt (base:=base) B bp bP cp (jl X ZT ahj (by walk_at "b")) i;let agl:=yS (base:=base) B bp bP cp (Cv agV (by walk_at "b"));let Q:=Ju (base:=base) B bp bP cp (Cv aho (by walk_at "b"));let agD:=GZ (base:=base) B bp bP cp (Cv ahd (by walk_at "b"));let j:=Jv (base:=base) B bp bP cp (jl X ZT ahh (by walk_at "b")) agR;let agw:=Dk (base:=base) B bp bP cp (jl X ZT ag3 (by walk_at "b")) Q agD i j;let agA:=Fo (base:=base) B bp bP cp (jl X ZT ag7 (by walk_at "b")) D i q j;let vT:=Dl (base:=base) B bp bP cp (jl X ZT ag2 (by walk_at "b")) agl i q agw agA;let vt:=Fp (base:=base) B bp bP cp (Cv aha (by walk_at "b"));let pf:=G3 (base:=base) B bp bP cp (jl X ZT ahb (by walk_at "b")) j;let v3:=Jw (base:=base) B bp bP cp (jl X ZT ahi (by walk_at "b")) vt i j vw pf;let vx:=Jx (base:=base) B bp bP cp (Cv ahp (by walk_at "b"));let v_:=G4 (base:=base) B bp bP cp (jl X ZT ahc (by walk_at "b")) vx Q N q;let wn:=Xm (base:=base) B bp bP cp (jl X ZT ahF (by walk_at "b")) vy vF vS vT v3 v_;let pj:=Fq (base:=base) B bp bP cp (jl X ZT ag8 (by walk_at "b"));let wc:=Jy (base:=base) B bp bP cp (jl X ZT ahk (by walk_at "b"));let nv:=Ac (base:=base) B bp bP cp (jl X ZT agW (by walk_at "b"));let wa:=N7 (base:=base) B bp bP cp (jl X ZT ahz (by walk_at "b")) nv;let px:=Mj (base:=base) B bp bP cp (jl X ZT ahs (by walk_at "b")) wa;let wb:=Jz (base:=base) B bp bP cp (jl X ZT ahl (by walk_at "b"));let py:=Ft (base:=base) B bp bP cp (jl X ZT ag9 (by walk_at "b")) pj wb wc px;let iq:=yQ (base:=base) B bp bP cp (jl X ZT aht (by walk_at "b")) 40;let l0:=Ad (base:=base) B bp bP cp (jl X ZT ahA (by walk_at "b")) 40;let ny:=JB (base:=base) B bp bP cp (jl X ZT ahm (by walk_at "b")) iq;let wm:=Oa (base:=base) B bp bP cp (jl X ZT ahB (by walk_at "b")) iq ny;show Pp (UP (base:=base) B bp bP cp (zm (st:=vh) lk ce kp) l0 wm py wn) HL
def walk{l:W.OpenLaw}{K:Params->FG}(N:l.most=!63)(i:d.params.defaults=[])
 (j:∀(w:World)(h:Heap),YP w h->(K w.params).In h)
 (F:∀(w:World)(mg:Str->Option Value)(fa:Addr)(h:Heap),(K w.params).In h->h.Ns mainGlobals mg->mg d.name=!(YV fa)->
   ∃fd:FuncData,(∀(s:Shared)(u:Value),BindsTo s fd #[[u],[]] [("_law_script",u)])/\∀base:Heap,(K w.params).In base->base.Ns mainGlobals mg->n8 l.prog w (K w.params) mg base pZ 87 fa fd ["_law_script"] (JT (K w.params))):
 W.WalkO q loose XP YP l.row.toRowW d [] (λf vs=>PySem.call f vs):=
 L2.walk_of (x:="_law_script") N () i #[λ_=>O,by decide,by decide,O] j F (λ_ _ a ns Q _ hS=>#[a,ns,O,hS,Q,λ_=>O]) λ_ _ _ _ _ z=>z
end Law
namespace PySem.W.Fast
def tw10656310786369949787:=0
def tw17520522212142700620:=0
def tw12344107693709460598:=0
def tw10092458823452765189:=0
def tw15051788464661291452:=0
def tw17494135389729777766:=0
def tw6084219048423885244:=0
def tw3458107944075222244:=0
def tw13171726922584516770:=0
def tw10269201080222329202:=0
def tw4665417119303186290:=0
def tw11882227841775527159:=0
def tw6844842589540843320:=0
def tw1850913815409169569:=0
def tw4551834689325750219:=0
def tw9541091838955332146:=0
def tw12601397193777033934:=0
def tw16742465013453797432:=0
def tw17989150562235592763:=0
def tw16747703648843432344:=0
def tw16044255136392972775:=0
def tw1866222011056844448:=0
def tw10278605803487177732:=0
def tw4856116281997928281:=0
def tw9213254466874213417:=0
def tw10272072528636870388:=0
def tw16074284506462505439:=0
def tw195580201581674023:=0
def tw9447609696334032050:=0
def tw4634478562663398204:=0
def tw7335739902105822989:=0
def tw15674157055161170799:=0
def tw8326304196997088775:=0
def tw5080394758099483284:=0
def tw9268679619742985114:=0
def tw3132103515637313496:=0
def tw14184354357022942982:=0
def tw2401736757439168428:=0
def tw13560172474133332183:=0
def tw14414457798309882129:=0
def tw14675992158070126987:=0
def tw4187109158614076811:=0
def tw5750017194998154145:=0
def tw17892876868001655607:=0
def tw3407814629729108158:=0
def tw11736577861082963705:=0
def tw596289989829549552:=0
def tw10402072713111948423:=0
def tw6796080468981939927:=0
def tw5726835754848796329:=0
def tw2810193980435529390:=0
def tw8816057792909920466:=0
def tw1661647708535600792:=0
def tw9084047053940284480:=0
def tw14698754709743974163:=0
def tw1179109946568628070:=0
def tw5055646903901395845:=0
def tw8294063578466898278:=0
def tw3807533872548493554:=0
def tw7708041349729513598:=0
def tw874014478408788930:=0
def tw4899876956357325992:=0
def tw8229066694974219513:=0
def tw17648665253078292292:=0
def tw13348316237329116729:=0
def tw2438121119104757947:=0
def tw12799928266210805837:=0
def tw17334250398445840326:=0
def tw12829250287431723804:=0
def tw17684367490515593911:=0
def tw1237657780525569167:=0
def tw14463122433658829614:=0
def tw13421772441342783769:=0
def tw3346809909216304474:=0
def tw4339470999037916445:=0
def tw4531998137220733381:=0
def tw3330762215901692768:=0
def tw3186832928358689064:=0
def tw3852449653646475147:=0
def tw13986312335960089432:=0
def tw1174436596579236149:=0
def tw5888478565845759295:=0
def tw15924436485721416489:=0
def tw6130070367717465099:=0
def tw12635734058950738494:=0
def tw2058413100879576518:=0
def tw4109032598583047864:=0
def tw16131832562009494846:=0
def tw12777071176500200206:=0
def tw5429085054702148751:=0
def tw10613368682194616514:=0
def tw5697684950894790276:=0
def tw5059807947548253956:=0
def tw4905489754890863559:=0
def tw14591964078412960195:=0
def tw15341197330019014175:=0
def tw4823449454709273325:=0
def tw13805503313749601397:=0
def tw2212199103901052595:=0
def tw2056458504175622883:=0
def tw3987673102953777358:=0
def tw2352059737501928644:=0
def tw7831058407483044122:=0
def tw11823035449893183801:=0
def tw17410777703913547056:=0
def tw15600763603997040065:=0
def tw18262502822064635081:=0
def tw6922268882102232927:=0
def tw8189530627426698739:=0
def tw6637900148337990927:=0
def tw16253012754947160242:=0
def tw8621774998496991911:=0
def tw8786670728691217388:=0
def tw13818859160746054995:=0
def tw10068919371205573068:=0
def tw2999652591199908426:=0
def tw3319604671561533632:=0
def tw16314307099143244700:=0
def tw6184407863387070713:=0
def tw8373454105407428765:=0
def tw117562195602900774:=0
def tw576835682027039192:=0
def tw18244982877168706142:=0
def tw17664495259800271291:=0
def tw3237807158396406418:=0
def tw16509096192854408829:=0
def tw17503140120947331451:=0
def tw7950430510332097026:=0
def tw18085613303023945332:=0
def tw8284741841465715779:=0
def tw18046727655338399473:=0
def tw1839436602935585182:=0
def tw6026898460420470028:=0
def tw8029994366355899380:=0
def tw3289182799741234351:=0
def tw11338094033607080030:=0
def tw15954391910437829032:=0
def tw888592389628309085:=0
def tw17487777909843172568:=0
def tw16818405786160468876:=0
def tw17858830787271438626:=0
def tw14489553819060140097:=0
def tw17995935681783680036:=0
def tw7870030124668510183:=0
def tw12574943842295314468:=0
def tw114668653318423845:=0
def tw4385198559383407747:=0
def tw13769441338610398374:=0
def tw16530364452390084550:=0
def tw15737201640655386478:=0
def tw5374070928419404248:=0
def tw17951980730664304922:=0
def tw6327032172332968262:=0
def tw10391557209050835933:=0
end PySem.W.Fast
end
open PySem PySem.W PyProof.Rows
local macro_rules | `(tactic| walk_at "m")=>`(tactic| exact ⟨_,by k_is,by k_is,_,_,_,_,_,_,_,_,_,by k_is,by k_is,by k_is⟩)
local macro_rules | `(tactic| walk_at "d")=>`(tactic| exact ⟨_,by k_is,_,_,_,_,_,_,_,_,_,by k_is,by k_is,by k_is⟩)
set_option maxRecDepth 100000 in
set_option maxHeartbeats 0 in
theorem PySem.Challenge.cw_hushwise_k34_rules_as_a_row_is_done_holds : PySem.Challenge.rw_hushwise_k34_rules_as_a_row_is_done.Holds := by
 w_on; o_law; k_head; (case hw=>w_witness2)
 k_fill
 refine Law.walk (l:=PySem.Challenge.rw_hushwise_k34_rules_as_a_row_is_done) rfl rfl (fun w h Y=>W.kIn_of Y) ?F
 case F=>
  intro w mg fa h KX G hmg
  refine' Law.all_mk KX G hmg ?_ ?_ ?_ ?_ ?_ ?_ ?_ ?_ ?_ ?_ ?_ ?_ ?_ ?_ ?_ ?_ ?_ ?_ ?_ ?_ ?_ ?_ ?_ ?_ ?_ ?_ ?_ ?_ ?_ ?_ ?_ ?_ ?_ ?_ ?_ ?_ ?_ ?_ ?_ ?_ ?_ ?_ Law.law_true
  exact ⟨_,⟨by k_is,by k_is,by k_is,by k_is,by k_is,by k_is,by k_is⟩,⟨by k_is,by k_is,by k_is⟩,by walk_at "m",by walk_at "m",by walk_at "m",by walk_at "m",by walk_at "m",by walk_at "m",by walk_at "m",by walk_at "m",by walk_at "m",by walk_at "m"⟩
  iterate 32 walk_at "d"
  iterate 9 k_is
