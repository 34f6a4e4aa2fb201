import PyProof.Rows.All
import Wide.All
import OpenK.AllK
import PySem.Challenge.RW_hushwise_k32_rules_as_a_row_begins
set_option Elab.async false
set_option linter.all false
set_option bootstrap.genMatcherCode false
set_option genSizeOf false
set_option compiler.extract_closed false
set_option maxRecDepth 100000
set_option tactic.hygienic false
set_option maxHeartbeats 8000000
noncomputable section
namespace L2
open PySem Spec PyProof.Rows
def byText(w:World):=w.params.followText "set-order"
abbrev yj6(w:World):Obj:={cls:=.type "set",dict:=none,data:=.set #[] 0 (.fresh 0 0 (!byText w)),slots:=#[]}
section
variable{prog:Program}{w:World}{A:Around}{E:Value->Shared->Prop}{s:Shared}{R:Result->Shared->Prop}{T:Nat->Heap->Prop}
theorem P0(a:Value){Q}(h:Q (.ref s.heap.objs.size) {s with heap:=s.heap.push (yj6 w)}):codeAny (model prog w) A (.call (.builtin "set.__new__") ⟨[.type "set",a],[]⟩) (wants Q E) s:=by
 refine codeAny_of_tree (show wpAny _ A.in1 (do checkBuiltinCall "set.__new__" ⟨[.type "set",a],[]⟩;again (.builtin "set.__new__" ⟨[.type "set",a],[]⟩)) _ _ s from wpAny_bind (wpAny_of_eq (F.newCall_set_1 a) (wpAny_pure ⟨plainId_quiet F.plain_set_new _,codeAny_builtin F.entry_set_new (?_:wpAny _ _ _ _ _ _)⟩)))
 rw[Around.under_plainId F.plain_set_new _];unfold Builtin.«set.__new__» Builtin.Frozenset.newClass;have hs:=sub_set_self;obtain⟨x1,x2,x3,x4,x5⟩:=s;dsimp only
 wp_walk
 refine wpAny_askSetting (wpAny_pure ?_);dsimp only;simp only[newObj];exact wpAny_bind (wpAny_alloc (wpAny_pure (wpAny_pure h)))
theorem loop_G(W:WalksS prog w A.in1 I fp wr G n P U)(hD:D∉fp)(mv:∀{i h h'},T i h->(∀b o,b∉wr->h.get? b=some o->h'.get? b=some o)->T i h')(ad:∀{i v s Q E},i<n->P i v->T i s.heap->(∀b h' k,Heap.SameBut D s.heap h'->T (i+1) h'->Q b {s with heap:=h',toks:=s.toks+k})->wpAny (model prog w) A.in1 (setAdd D v) Q E s):∀(k i:Nat)s,n-i=k->i<=n->U i s->T i s.heap->(∀s',Moved (D::wr) G s s'->T n s'.heap->R (.ok (.ret .none)) s')->codeAny (model prog w) A (.builtin "set.update.loop" ⟨[.ref D,.ref I],[]⟩) R s:=by
 have mw:∀b∈wr,b∈D::wr:=λb=>.tail _
 intro k;induction k with
 |zero=>
  intro i s hk hi st S hR;obtain rfl:i=n:=by omega
  refine codeAny_builtin F.entry_set_update_loop ?_;rw[Around.under_plainId F.plain_set_update_loop _];exact wpAny_bind (m:=pyNext (.ref I)) (W.done s _ _ st λs' m=>wpAny_pure (hR s' (m.mono mw) (mv S m.heap)))
 |succ k ih=>
  intro i s hk hi st S hR;have lt:i<n:=by omega
  refine codeAny_builtin F.entry_set_update_loop ?_;rw[Around.under_plainId F.plain_set_update_loop _];refine wpAny_bind (m:=pyNext (.ref I)) (W.item i s _ _ lt st λv s' hP st' m=>wpAny_bind (m:=holding [v] (setAdd D v)) (wpAny_holding (ad lt hP (mv S m.heap) λb h' j sb S2=>wpAny_pure ⟨plainId_quiet F.plain_set_update_loop _,ih (i+1) _ (by omega) lt (W.frame _ s' _ _ st' (Nat.le_add_right _ _) λc hc o q=>?_) S2 λs'' m2 S3=>hR s'' (Moved.trans W.gtrans ((m.mono mw).then_heap (Nat.le_add_right _ _) λc o hc q=>?_) m2) S3⟩)))
  . rw[sb.2 c (λz=>hD (z▸hc))];exact q
  . rw[sb.2 c (λz=>hc (z▸.head _))];exact q
theorem set_of_G(hh:A.handled=none)(hl:s.heap.IsList l items)(z:∀{h'},h'.get? s.heap.objs.size=some (yj6 w)->(∀b o,s.heap.get? b=some o->h'.get? b=some o)->T 0 h')(mv:∀{i h h'},T i h->(∀b o,b≠s.heap.objs.size+1->h.get? b=some o->h'.get? b=some o)->T i h')(ad:∀{i v s' Q E},i<items.size->items[i]?=some v->T i s'.heap->(∀b h' k,Heap.SameBut s.heap.objs.size s'.heap h'->T (i+1) h'->Q b {s' with heap:=h',toks:=s'.toks+k})->wpAny (model prog w) A.in1.in1.in1 (setAdd s.heap.objs.size v) Q E s')(h:∀h' tk,T items.size h'->(∀b o,b<s.heap.objs.size->s.heap.get? b=some o->h'.get? b=some o)->Q (.ref s.heap.objs.size) {s with heap:=h',toks:=tk}):wpAny (model prog w) A (call (.type "set") [.ref l]) Q E s:=by
 obtain⟨c,tl,hm⟩:=F.called_set.mro;have m1:=F.called_set.made;have m2:=F.called_set.sub
 refine wpAny_call (codeAny_of_tree (show wpAny _ _ (callAny (.type "set") _) _ _ _ from wpAny_pure ⟨Code.quiet_builtin _ (by decide +kernel),codeAny_builtin F.entry_type_call (?_:wpAny _ _ _ _ _ _)⟩))
 rw[Around.under_plain (weight_type_call_type "set" [.ref l] []) rfl];have m3:=F.called_set.notType;have m4:=F.called_set.canCreate;have m5:=F.typeCall_set_1 (.ref l)
 repeat any_goals first|assumption|wp_step
 refine codeAny_mono (P0 (.ref l) (E:=E) (Q:=λo t=>o=.ref s.heap.objs.size/\t={s with heap:=s.heap.push (yj6 w)}) ⟨rfl,rfl⟩) λr t hr=>?_
 cases r with
 |error e=>exact hr
 |ok fl=>
  cases fl with
  |ret obj=>
   obtain⟨rfl,rfl⟩:=hr;have g0:(s.heap.push (yj6 w)).get? s.heap.objs.size=some (yj6 w):=Heap.get?_push_size _ rfl
   have hT:Shared.TypeIs {s with heap:=s.heap.push (yj6 w)} (.ref s.heap.objs.size) "set":=⟨_,g0,rfl⟩
   have m6:=F.called_set.init.lookup;have m7:=F.called_set.init.bind (.ref s.heap.objs.size)
   repeat any_goals first|assumption|wp_step
   refine codeAny_mono (codeAny_call_builtin (R:=wants (λr t=>r=.none/\∃h' tk,t={s with heap:=h',toks:=tk}/\T items.size h'/\(∀b o,b<s.heap.objs.size->s.heap.get? b=some o->h'.get? b=some o)) E) F.called_set.init.plain F.entry_set_init (check_set_init_1 hT ?_)) λr t hr=>?_
   . obtain⟨⟨c1,c2,c3,c4⟩,ho,hc,nl,hd⟩:=hl;simp only at hc hd;subst hc;subst hd;have hp:=Heap.get?_push_of_some (yj6 w) ho
     have n1:=F.sub_list_set;have n2:=F.sub_list_frozenset;have n3:(Value.type "list"==.type "dict")=false:=by decide
     have hl:(s.heap.push (yj6 w)).IsList l items:=⟨_,hp,rfl,nl,rfl⟩
     unfold Builtin.«set.__init__» noKeywords Builtin.Frozenset.updateFrom;generalize e:pyIter=PI
     wp_walk
     subst e;refine wpAny_pyIter_list hl (wpAny_bind (wpAny_runValue ?_));have lS:=Heap.lt_size ho;have h3:A.in1.in1.in1.handled=none:=by simp[hh]
     have eI:(s.heap.push (yj6 w)).objs.size=s.heap.objs.size+1:=Heap.size_push ..
     have nI:l≠(s.heap.push (yj6 w)).objs.size:=by rw[eI];exact Nat.ne_of_lt (Nat.lt_succ_of_lt lS)
     refine loop_G (T:=T) (Walks.list h3 _ l nI items).toS (by rw[eI];simp;exact Nat.ne_of_gt lS) (λp q=>mv p λb o nb=>q b o (by simpa[eI] using nb)) ad (items.size-0) 0 _ rfl (Nat.zero_le _) ⟨⟨_,Heap.get?_push_size _ rfl,rfl,rfl⟩,hl.push _⟩ (z (Heap.get?_push_of_some _ g0) λb o q=>Heap.get?_push_of_some _ (Heap.get?_push_of_some _ q)) λt m S=>?_
     obtain⟨h',g',d',tk',os'⟩:=t;obtain rfl:g'=s.gens:=m.gens
     obtain rfl:d'=s.drawn:=m.drawn
     obtain rfl:os'=s.os:=m.os
     exact wpAny_pure (show wpAny _ _ (ret Value.none) _ _ _ from wpAny_pure ⟨rfl,h',tk',rfl,S,λb o hb q=>m.heap b o (by rw[eI];simp;exact⟨Nat.ne_of_lt hb,Nat.ne_of_lt (Nat.lt_succ_of_lt hb)⟩) (Heap.get?_push_of_some _ (Heap.get?_push_of_some _ q))⟩)
   . cases r with
     |error e=>exact hr
     |ok fl=>
      cases fl with
      |ret r=>
       obtain⟨rfl,h',tk,rfl,q1,q4⟩:=hr
       repeat any_goals first|assumption|wp_step
       exact h _ _ q1 q4
      |_=>exact hr.elim
  |_=>exact hr.elim
end
end L2
local macro_rules | `(tactic| cases $x:ident)=>`(tactic| ((fail_if_success (fail_if_success have:=($x : _=_)));first | subst $x | (injection $x;done) | (injection $x with e f g;cases e;cases f;cases g) | (injection $x with e f;cases e;cases f) | (injection $x with e;cases e)))
def A2{a b g:Prop}(h:a/\b)(z:a->b->g):g:=z h.1 h.2
def A3{a b c g:Prop}(h:a/\b/\c)(z:a->b->c->g):g:=z h.1 h.2.1 h.2.2
def A4{a b c d g:Prop}(h:a/\b/\c/\d)(z:a->b->c->d->g):g:=z h.1 h.2.1 h.2.2.1 h.2.2.2
def A5{a b c d e g:Prop}(h:a/\b/\c/\d/\e)(z:a->b->c->d->e->g):g:=z h.1 h.2.1 h.2.2.1 h.2.2.2.1 h.2.2.2.2
def A6{a b c d e f g:Prop}(h:a/\b/\c/\d/\e/\f)(z:a->b->c->d->e->f->g):g:=z h.1 h.2.1 h.2.2.1 h.2.2.2.1 h.2.2.2.2.1 h.2.2.2.2.2
def A7{a b c d e f k g:Prop}(h:a/\b/\c/\d/\e/\f/\k)(z:a->b->c->d->e->f->k->g):g:=z h.1 h.2.1 h.2.2.1 h.2.2.2.1 h.2.2.2.2.1 h.2.2.2.2.2.1 h.2.2.2.2.2.2
def E1{α:Sort _}{p:α->Prop}{g:Prop}(h:∃a,p a)(z:∀a,p a->g):g:=match h with|⟨a,h⟩=>z a h
def E2{α β:Sort _}{p:α->β->Prop}{g:Prop}(h:∃a b,p a b)(z:∀a b,p a b->g):g:=match h with|⟨a,b,h⟩=>z a b h
def E3{α β γ:Sort _}{p:α->β->γ->Prop}{g:Prop}(h:∃a b c,p a b c)(z:∀a b c,p a b c->g):g:=match h with|⟨a,b,c,h⟩=>z a b c h
def E4{α β γ δ:Sort _}{p:α->β->γ->δ->Prop}{g:Prop}(h:∃a b c d,p a b c d)(z:∀a b c d,p a b c d->g):g:=match h with|⟨a,b,c,d,h⟩=>z a b c d h
def E5{α β γ δ ε:Sort _}{p:α->β->γ->δ->ε->Prop}{g:Prop}(h:∃a b c d e,p a b c d e)(z:∀a b c d e,p a b c d e->g):g:=match h with|⟨a,b,c,d,e,h⟩=>z a b c d e h
def E6{α β γ δ ε ζ:Sort _}{p:α->β->γ->δ->ε->ζ->Prop}{g:Prop}(h:∃a b c d e f,p a b c d e f)(z:∀a b c d e f,p a b c d e f->g):g:=match h with|⟨a,b,c,d,e,f,h⟩=>z a b c d e f h
def X2{α β:Sort _}{p:α->β->Prop}(a:α)(b:β)(h:p a b):∃a b,p a b:=⟨a,b,h⟩
def X3{α β γ:Sort _}{p:α->β->γ->Prop}(a:α)(b:β)(c:γ)(h:p a b c):∃a b c,p a b c:=⟨a,b,c,h⟩
def X4{α β γ δ:Sort _}{p:α->β->γ->δ->Prop}(a:α)(b:β)(c:γ)(d:δ)(h:p a b c d):∃a b c d,p a b c d:=⟨a,b,c,d,h⟩
def X5{α β γ δ ε:Sort _}{p:α->β->γ->δ->ε->Prop}(a:α)(b:β)(c:γ)(d:δ)(e:ε)(h:p a b c d e):∃a b c d e,p a b c d e:=⟨a,b,c,d,e,h⟩
def X6{α β γ δ ε ζ:Sort _}{p:α->β->γ->δ->ε->ζ->Prop}(a:α)(b:β)(c:γ)(d:δ)(e:ε)(f:ζ)(h:p a b c d e f):∃a b c d e f,p a b c d e f:=⟨a,b,c,d,e,f,h⟩
def X7{α β γ δ ε ζ η:Sort _}{p:α->β->γ->δ->ε->ζ->η->Prop}(a:α)(b:β)(c:γ)(d:δ)(e:ε)(f:ζ)(k:η)(h:p a b c d e f k):∃a b c d e f k,p a b c d e f k:=⟨a,b,c,d,e,f,k,h⟩
local macro_rules | `(tactic| let $p:term:=$e)=>do
  let rec f (n:Nat)(p:Lean.Term):Lean.MacroM (Lean.TSyntax `rcasesPat):=do
   match n with
   | 0=>`(rcasesPat| _)
   | n+1=>
    match p with
    | `(($a,$q,*))=>`(rcasesPat| ⟨$(<-(#[a]++q.getElems).mapM λx=>do `(Lean.Parser.Tactic.rcasesPatLo| $(<-f n x):rcasesPat)),*⟩)
    | `($i:ident)=>`(rcasesPat| $i:ident)
    | _=>`(rcasesPat| _)
  let o<-`(tactic| obtain $(<-f 9 p):rcasesPat:=$e)
  let `(($a,$q,*)):=p | return o
  let y:=#[a]++q.getElems
  let n:=y.size
  let v<-`(v)
  let s:=y.any (·.raw.getId == e.raw.getId)
  let e2:=if e.raw.isIdent && s then v else e
  let b<-if e.raw.isIdent && s then `(tactic| (revert $e:term;intro v)) else `(tactic| skip)
  let c<-if e.raw.isIdent then `(tactic| try clear $e2:term) else `(tactic| skip)
  let z (m:String)(k:Nat):Lean.MacroM (Lean.TSyntax `tactic):=do
   let t:Array Lean.Term:=(y.extract 0 k).mapIdx λi x=>if x.raw.getNumArgs>1 then ⟨(Lean.mkIdent (.mkSimple s!"✝{i}")).raw⟩ else x
   let r<-if k=n then pure c else `(tactic| let ($(y[k]!),$(y.extract (k+1) n),*):=w)
   let r<-(y.zip t).foldlM (λr (x,i)=>if x.raw == i.raw then pure r else `(tactic| ($r:tactic;let $x:term:=$i))) r
   let t<-if k=n then pure t else pure (t.push (<-`(w)))
   `(tactic| ($b:tactic;refine $(Lean.mkIdent (.mkSimple m)) $e2 λ $t*=>?_;$c:tactic;$r:tactic;repeat subst $(Lean.mkIdent `rfl):ident))
  let rec g (k:Nat):Lean.MacroM (Lean.TSyntax `tactic):=do
   match k with
   | 0=>if n>2 then `(tactic| first | $(<-z "A2" 1):tactic | $o:tactic) else return o
   | k+1=>`(tactic| first | $(<-z s!"E{k+1}" (k+1+(k+2)/n)):tactic | $(<-g k):tactic)
  `(tactic| first | $(<-z s!"A{n}" n):tactic | $(<-g (min 6 (n-1))):tactic)
local macro_rules | `(tactic| let $i:ident:=$e)=>`(tactic| have $i:ident:=$e)
local macro_rules | `(tactic| show $e)=>`(tactic| first | refine $e | fail)
local macro_rules | `(tactic| lia)=>`(tactic| first | omega | grind)
local macro_rules | `(#[$p,*])=>if p.getElems.isEmpty then Lean.Macro.throwUnsupported else `(⟨$p,*⟩)
local macro_rules | `(tactic| show #[$p,*])=>do
  let p:=p.getElems
  let rec g (k:Nat):Lean.MacroM (Lean.TSyntax `tactic):=do
   match k with
   | 0=>`(tactic| refine ⟨$p,*⟩)
   | k+1=>
    let r:=p.extract (k+2) p.size
    let r<-if k+3=p.size then pure r[0]! else `(⟨$r,*⟩)
    `(tactic| first | refine $(Lean.mkIdent (.mkSimple s!"X{k+2}")) $(p.extract 0 (k+2))* $r | $(<-g k):tactic)
  g (min 6 (p.size-2))
local macro_rules | `(!$x)=>`(some $x)
local macro_rules | `(tactic| omega)=>`(tactic| first | with_reducible first | assumption | contradiction | exact Nat.le_trans ‹_› (by decide) | exact Nat.lt_of_le_of_lt ‹_› (by decide) | exact Nat.lt_of_lt_of_le ‹_› (by decide) | exact Nat.le_add_left _ _ | exact Nat.le_add_right _ _ | exact Nat.sub_le _ _ | exact Nat.zero_le _ | exact Nat.le_of_lt ‹_› | exact Nat.le_of_lt_succ ‹_› | exact Nat.le_of_not_lt ‹_› | exact Nat.add_le_add_left ‹_› _ | exact Nat.add_le_add_right ‹_› _ | exact Nat.sub_lt_left_of_lt_add ‹_› ‹_› | exact Nat.le_sub_one_of_lt ‹_› | exact Nat.sub_lt_of_lt ‹_› | exact Nat.le_of_add_right_le ‹_› | exact Nat.le_trans (Nat.le_max_right _ _) ‹_› | exact Nat.le_trans (Nat.le_max_left _ _) ‹_› | exact Nat.sub_lt (Nat.zero_lt_of_lt ‹_›) Nat.one_pos | exact Nat.lt_of_lt_of_le (Nat.sub_lt (Nat.zero_lt_of_lt ‹_›) Nat.one_pos) ‹_› | exact Nat.le_trans (Nat.min_le_right _ _) (Nat.sub_le _ _) | exact Nat.lt_of_lt_of_le ‹_› (Nat.le_of_eq (Eq.symm ‹_›)) | exact Nat.add_lt_of_lt_sub' ‹_› | exact Nat.add_sub_cancel' ‹_› | exact Nat.le_trans (Nat.sub_le _ _) ‹_› | exact Nat.sub_le_sub_right ‹_› _ | exact Nat.le_trans ‹_› ‹_› | exact Nat.le_trans ‹_› (Nat.le_max_right _ _) | exact Nat.lt_of_lt_of_le ‹_› (Nat.le_add_right _ _) | (refine (?_:(_:Nat)=_);simp;done) | (refine (?_:(_:Nat)≤_);simp;done) | lia -verbose)
local macro_rules | `(tactic| grind)=>`(tactic| first | (simp_all;done) | omega | grind -verbose)
local macro_rules | `(())=>`(by first | omega | assumption | decide | rfl | exact .inl rfl | exact .inr rfl | decide +kernel)
local macro_rules | `(∅)=>`(by grind)
local macro_rules | `(~~~$x)=>`(($x).size)
local macro_rules | `(-$x)=>if x.raw.isOfKind `num then Lean.Macro.throwUnsupported else `(($x).length)
abbrev O:=@rfl
open List hiding iter
open PySem.SetTable hiding led ok
open Option renaming none→J
open Bool renaming true→G,false→M
open Or renaming inl→Zl,inr→YY
open PySem.Value renaming ref→YV
abbrev FG:=PySem.W.Frag
section
open PySem PySem.Spec PyProof.Rows
abbrev c8(s:PySem.Shared):= ~~~s.heap.objs
def IJ:=@Int.toNat_natCast
def fN:=@Array.getElem?_toList
def c_:=@wpS_bind
def de:=@wpS_pure
def fU:=@Nat.lt_or_ge
def gS:=@KeyOrd.kle_trans
def mw:=@Array.getElem?_eq_getElem
def fR:=@Nat.le.step
def iE:=@wpAny_holding
def hW:=@KeyOrd.kle_of_klt
def ga:=@List.Perm.swap
abbrev hG:=@sizeLine_eq
def lm:=@wpAny_setState_of
def i7:=@True.intro
def u8:=@List.getElem?_range
abbrev j2:=@getElem?_pos
def kH:=@wpAny_mono
def jI:=@wpS_forRange
abbrev gs:=@congrArg
def nz:=@Builtin.Str.occurrences
def mx:=@wpAny_newObj_type
def c9:=@Option.bind_some
def cS:=@List.mem_cons_self
def db:=@List.length_cons
def da:=@List.length_map
def bh:=@List.mem_cons
def dP:=@Nat.le_refl
def d_:=@List.mem_cons_of_mem
def eJ:=@Heap.get?_push_of_some
def eS:=@List.length_append
def e_:=@List.length_nil
def fr:=@List.getElem?_eq_some_iff
def eL:=@List.getElem?_map
def dA:=@List.mem_map
def eK:=@List.append_assoc
def d6:=@List.mem_append
def eD:=@List.map_append
def dQ:=@Heap.lt_size
def gL:=@List.size_toArray
def ff:=@Heap.get?_push_size
def ge:=@List.getElem?_eq_getElem
def fF:=@List.map_cons
def fI:=@Option.some.inj
def fg:=@List.append_nil
def f7:=@List.sublist_cons_self
def hJ:=@Bool.false_eq_true
def gg:=@List.mem_singleton
def hY:=@List.getElem?_append_right
def fw:=@Nat.ne_of_lt
def gt:=@List.mem_of_getElem?
def gT:=@Array.length_toList
def fA:=@Nat.le_trans
def fE:=@List.map_map
def gu:=@Nat.lt_of_lt_of_le
def gz:=@Nat.zero_le
def hZ:=@List.mem_append_right
def gx:=@List.perm_middle
def ii:=@List.mem_append_left
def u_:=@PassesOwn.never
def j3:=@List.filterMap_cons_none
def kt:=@List.getElem?_set_self
def i8:=@List.length_range
def jJ:=@List.getElem?_append_left
def iF:=@Bool.and_eq_true
def jS:=@Nat.lt_succ_of_lt
def h_:=@List.nodup_cons
def iS:=@List.nil_append
def nB:=@Array.getElem?_eq_none
def j6:=@List.sublist_append_left
def i9:=@List.length_take
def lv:=@Bool.false_ne_true
def ku:=@List.lookup_cons
def kK:=@List.mem_filterMap
def ly:=@Nat.lt_irrefl
def mB:=@Nat.lt_succ_self
def kL:=@List.not_mem_nil
def mE:=@List.cons_append
def kM:=@List.perm_append_comm
def lE:=@Int.emod_lt_of_pos
def kN:=@Heap.SameBut.update
def ky:=@Nat.sub_self
def kP:=@Int.emod_nonneg
def kz:=@List.foldl_cons
def mM:=@Option.map_some
def nE:=@List.drop_eq_getElem_cons
def nI:=@List.sublist_append_right
def mN:=@Heap.get?_update_self
def Au:=@List.getElem?_eq_none
def j_:=@Nat.ne_of_gt
def kQ:=@List.prefix_refl
def oC:=@List.zip_cons_cons
def nK:=@List.set_set
def nL:=@PySem.F.plainAttrs_list
def nN:=@Heap.get?_update_other
def kc:=@Nat.zero_add
def nS:=@List.length_drop
def lI:=@List.of_mem_zip
def rQ:=@Nat.le_of_succ_le
def oI:=@Heap.size_push
def rS:=@Nat.le_add_right
def mP:=@Nat.le_succ
def lK:=@List.zip_append
def rT:=@List.getElem?_set_ne
def oP:=@List.nodup_nil
def oQ:=@Nat.le_of_lt
def nV:=@List.map_nil
def oS:=@PySem.mem_of_lookup
def rV:=@List.length_set
def oT:=@List.take_of_length_le
def nX:=@List.nodup_append
def o_:=@List.Sublist.refl
def IL:=@Nat.le_of_not_lt
def va:=@List.any_cons
def rX:=@List.map_congr_left
def vi:=@Option.isSome_iff_exists
def r9:=@Nat.lt_of_le_of_lt
def r_:=@List.prefix_append
def vj:=@PySem.F.slot_list_append
def vk:=@PySem.F.type_list_append
def Aw:=@List.find?_cons_of_neg
def pb:=@Nat.succ.inj
def AA:=@List.eq_nil_of_length_eq_zero
def vn:=@List.filterMap_cons
def sd:=@PySem.boot_len
def n4:=@W.kia_one
def IM:=@Nat.add_assoc
def vt:=@W.cellsFrom_some
def AB:=@W.methodCall_KW
def al:=@wpAny_bind
def ax:=@if_pos
def a_:=@if_neg
def a8:=@wpAny_pure
def lP:=@decide_eq_false
def lS:=@decide_eq_true
def pc:=@beq_eq_false_iff_ne
def mS:=@beq_self_eq_true
end
namespace L2
open PySem PySem.Spec PyProof.Rows
variable {ae:List (Addr×Obj)}{E:Value->Shared->Prop}{s:Shared}{A:Around}{w:World}{P:Program}
abbrev d3:=Sum Int Str
noncomputable def vA:d3->Value->Bool
 |.inl k,v=>Value.isInt k v
 |.inr x,v=>Value.isStrOf x v
def AC(w:World):d3->Int
 |.inl k=>hashInt k
 |.inr x=>hashStr w x
theorem dB:∀{k:d3}{v:Value},vA k v=G->(∃i t,k=Sum.inl i/\v=Value.int i t)\/(∃x t,k=Sum.inr x/\v=Value.str x t)
 |.inl i,v=>λh=>by let(t,e):=Value.isInt_shape h;grind
 |.inr x,v=>λh=>by let(t,e):=Value.isStrOf_shape h;grind
def Tq(i:Int)(t:Tok):vA (.inl i) (.int i t)=G:=by simp[vA,Value.isInt]
def Tr(x:Str)(t:Tok):vA (.inr x) (.str x t)=G:=by simp[vA,Value.isStrOf]
def IN(a b:Int):decide ((Sum.inl a:d3)=Sum.inl b)=(a==b):=by
 by_cases e:a=b
 . grind
 . grind
def IP(a b:Str):decide ((Sum.inr a:d3)=Sum.inr b)=decide (a=b):=by
 by_cases e:a=b
 .  simp
 . grind
def IQ(a:Int)(b:Str):decide ((Sum.inl a:d3)=Sum.inr b)=M:=lP (λq=>nomatch q)
def IR(a:Str)(b:Int):decide ((Sum.inr a:d3)=Sum.inl b)=M:=lP (λq=>nomatch q)
def fW(prog:Program)(w:World):PySem.KeyKind prog w d3 where
 is:=vA
 hash:=AC w
 inj:=λv a b ha hb=>by
  obtain⟨i,t,rfl,rfl⟩|⟨x,t,rfl,rfl⟩:=dB ha
  . obtain⟨j,u,rfl,e⟩|⟨y,u,rfl,e⟩:=dB hb
    . injection e with e1 _;rw[e1]
    . show nomatch e
  . obtain⟨j,u,rfl,e⟩|⟨y,u,rfl,e⟩:=dB hb
    . show nomatch e
    . injection e with e1 _;rw[e1]
 byValue:=λk v h=>by rcases dB h with ⟨i,t,rfl,rfl⟩|⟨x,t,rfl,rfl⟩<;>rfl
 pyHash:=λhv h=>by
  obtain⟨i,t,rfl,rfl⟩|⟨x,t,rfl,rfl⟩:=dB hv
  . show wpAny_pyHash_int h
  . show wpAny_pyHash_str h
 eqBool:=λhu hv h=>by
  obtain⟨i,t,rfl,rfl⟩|⟨x,t,rfl,rfl⟩:=dB hu
  . obtain⟨j,u,rfl,rfl⟩|⟨y,u,rfl,rfl⟩:=dB hv
    . rw[IN]at h;show wpAny_eqBool_int h
    . rw[IQ]at h;show SeqAt.EqAt.int_str i t y u _ _ _ _ h
  . obtain⟨j,u,rfl,rfl⟩|⟨y,u,rfl,rfl⟩:=dB hv
    . rw[IR]at h;show SeqAt.EqAt.str_int x t j u _ _ _ _ h
    . rw[IP]at h;show wpAny_eqBool_str h
 «strs»:=λk x t v h=>by
  obtain⟨i,u,rfl,e⟩|⟨y,u,rfl,e⟩:=dB h
  . show nomatch e
  . injection e with e1 _;subst e1;cases v<;>rfl
def Oo(prog:Program)(w:World)(i:Int)(t:Tok):(fW prog w).is (.inl i) (.int i t)=G:=Tq i t
def Oq(prog:Program)(w:World)(x:Str)(t:Tok):(fW prog w).is (.inr x) (.str x t)=G:=Tr x t
inductive V where
 |non |bl (b:Bool) |int (i:Int) |str (x:Str) |byt (b:Array UInt8) |flt (b:UInt64) |ref (a:Addr) |ty (n:String)
 deriving DecidableEq
def aw:V->Value->Prop
 |.non,u=>u=Value.none
 |.bl b,u=>u=Value.bool b
 |.int i,u=>∃t,u=Value.int i t
 |.str x,u=>∃t,u=Value.str x t
 |.byt b,u=>∃t,u=Value.bytes b t
 |.flt b,u=>∃t,u=Value.float b t
 |.ref a,u=>u=Value.ref a
 |.ty n,u=>u=Value.type n
abbrev ap:List V->List Value->Prop:=Paired aw
theorem ap.length(r:ap xs us):-xs=-us:=Paired.length r
theorem ap.get:∀{xs:List V}{j:List Value}{i:Nat}{x:V},ap xs j->xs[i]?=!x->∃u,j[i]?=!u/\aw x u
 |_,_,_,_,.nil=>λe=>by grind
 |_,_,0,_,.cons r _=>λe=>by grind
 |_,_,i+1,x,.cons _ t=>λe=>by let(u,h1,h2):=ap.get t ();grind
theorem ap.set(r:aw x u):∀{xs:List V}{j:List Value}(i:Nat),ap xs j->ap (xs.set i x) (j.set i u)
 |_,_,_,.nil=>.nil
 |_,_,0,.cons _ t=>.cons r t
 |_,_,i+1,.cons q t=>.cons q (ap.set r i t)
theorem ap.append:∀{xs ys:List V}{i ws:List Value},ap xs i->ap ys ws->ap (xs++ys) (i++ws)
 |_,_,_,_,.nil=>λs=>s
 |_,_,_,_,.cons r t=>λs=>.cons r (ap.append t s)
theorem ap.take:∀{xs:List V}{j:List Value}(n:Nat),ap xs j->ap (xs.take n) (j.take n)
 |_,_,0,_=>.nil
 |_,_,_+1,.nil=>.nil
 |_,_,n+1,.cons r t=>.cons r (ap.take n t)
theorem ap.drop:∀{xs:List V}{j:List Value}(n:Nat),ap xs j->ap (xs.drop n) (j.drop n)
 |_,_,0,r=>r
 |_,_,_+1,.nil=>.nil
 |_,_,n+1,.cons _ t=>ap.drop n t
def nH:Option V->Option Value->Prop
 |some v,!u=>aw v u
 |none,J=>True
 |_,_=>False
def KV{κ:Type}:List (κ×V)->List (κ×Value)->Prop:=Paired λ(p:κ×V)(q:κ×Value)=>p.1=q.1/\aw p.2 q.2
noncomputable def kV:d3->V
 |.inl i=>.int i
 |.inr x=>.str x
inductive HO where
 |lst (xs:List V)
 |tup (xs:List V)
 |dK (ay:List (d3×V)) |dT (ay:List (List d3×V))
 |set (S:Int->Bool) (n:Nat)
 |ins (C dx:Addr) (fs:List (Str×V))
 |own (x:Addr)
 |xd (fs:List (Str×V))
 |met (f x:Addr)
 |rng (lo hi:Int)
 |frz (o:Obj) (u:HO)
 |tbl (ps:Array Value)
 |ext (φ:Heap->Prop)
abbrev Hp:=Addr->Option HO
noncomputable def aI (H:Hp) (a:Addr) (o:HO):Hp:=λb=>if b=a then !o else H b
def bZ:aI H a o a=!o:=by unfold aI;grind
def cV(h:b≠a):aI H a o b=H b:=by unfold aI;grind
def fD{H:Hp}(h:H a=!o)(h':H b=J):a≠b:=by grind
section
variable (P:Program)(w:World)
def fG(H:Hp)(h:Heap)(a:Addr):HO->Prop
 |.lst xs=>-xs<=sizeLine/\∃(dS:List Value)(n:Nat),ap xs dS/\h.get? a=some { cls:=.type "list",data:=.seq dS.toArray n }
 |.tup xs=>-xs<=sizeLine/\∃dS:List Value,ap xs dS/\IsTup h a dS.toArray
 |.dK ay=>-ay<=sizeLine/\(a==sysModules)=M/\∃vs,KV ay vs/\h.DictOf (fW P w) a vs
 |.dT ay=>-ay<=sizeLine/\(a==sysModules)=M/\∃xs:List (List d3×Addr×Value),
  Paired (λ(p:List d3×V)(q:List d3×Addr×Value)=>p.1=q.1/\H q.2.1=!(.tup (p.1.map kV))/\aw p.2 q.2.2) ay xs/\
  ∃o es ep,h.get? a=!o/\o.ExactDict/\o.data=.dict es ep/\es.toList=xs.map (entryOfKey (tupleKind (fW P w)))/\(xs.map (·.1)).Nodup
 |.set S n=>h.SetOf (intKind P w) a S n
 |.ins C dx fs=>H dx=!(.own a)/\-fs<=1000/\dx≠a/\h.get? a=!(W.instObj C dx)/\
  ∃mA,h.Ns1 dx mA/\(∀f,nH (fs.lookup f) (mA f))/\PySem.Within mA (fs.map (·.1))
 |.own _=>∃o,h.get? a=!o
 |.xd fs=>∃mA,h.Ns1 a mA/\∀f,nH (fs.lookup f) (mA f)
 |.rng lo hi=>∃t u v,h.get? a=some { cls:=.type "range",data:=.fields (List.toArray [.int lo t,.int hi u,.int 1 v]) }
 |.frz o u=>h.get? a=!o/\fG H h a u
 |.tbl ps=>h.get? a=some { cls:=.none,data:=.fields ps }
 |.met f x=>h.get? a=!(W.methodObj (YV f) (YV x))
 |.ext φ=>φ h/\(∃o,h.get? a=!o)/\∀h1 h2:Heap,φ h1->(∀o,h1.get? a=!o->h2.get? a=!o)->φ h2
def jm(H:Hp)(h:Heap):Prop:=∀a o,H a=!o->fG P w H h a o
end
section
variable {P:Program}{w:World}{H H':Hp}{h h':Heap}{a:Addr}{o:HO}
theorem fG.lt(x:fG P w H h a o):a< ~~~h.objs:=by
 cases o with
 |lst xs=>let(_,_,_,_,e):=x;show dQ e
 |tup xs=>let(_,_,_,p):=x;show p.lt
 |dK i=>let(_,_,_,_,o,_,_,e,_):=x;show dQ e
 |dT i=>let(_,_,_,_,o,_,_,e,_):=x;show dQ e
 |set S n=>let(o,_,_,_,e,_):=x;show dQ e
 |ins C dx fs=>let(_,_,_,e,_):=x;show dQ e
 |own y=>let(_,e):=x;show dQ e
 |xd fs=>let(_,(_,_,_,e,_),_):=x;show dQ e
 |rng lo hi=>let(_,_,_,e):=x;show dQ e
 |frz N u=>let(e,_):=x;show dQ e
 |tbl ps=>show dQ (x)
 |met f y=>show dQ (x)
 |ext φ=>let(_,(_,e),_):=x;show dQ e
theorem Paired.mapP:∀{l₁:List α}{l₂:List β},Paired F l₁ l₂->(∀a b,F a b->ZT a b)->Paired ZT l₁ l₂
 |_,_,.nil=>λ_=>.nil
 |_,_,.cons r t=>λf=>.cons (f _ _ r) (Paired.mapP t f)
def fG.stay(x:fG P w H h a o)(k:∀b u,(b=a\/H b=!(.own a))->h.get? b=!u->h'.get? b=!u)
 (ho:∀b,H b=!(.own a)->H' b=!(.own a)) (ht:∀b xs,H b=!(.tup xs)->H' b=!(.tup xs)):fG P w H' h' a o:=by
 induction o with
 |lst xs=>let(z,D,n,r,e):=x;show#[z,D,n,r,k _ _ (Zl O) e]
 |tup xs=>let(z,D,r,i,e,c):=x;show#[z,D,r,i,k _ _ (Zl O) e,c]
 |dK N=>let(z,y,W,r,i,es,j,e,c):=x;show#[z,y,W,r,i,es,j,k _ _ (Zl O) e,c]
 |dT N=>
  let(z,y,xs,r,i,es,j,e,c):=x;show#[z,y,xs,Paired.mapP r λp q z=>#[z.1,ht _ _ z.2.1,z.2.2],i,es,j,k _ _ (Zl O) e,c]
 |set S n=>let(i,es,j,t,e,c):=x;show#[i,es,j,t,k _ _ (Zl O) e,c]
 |ins C dx fs=>
  let(d,z,ne,e,mA,(F,es,j,e2,c),r):=x;show#[ho _ d,z,ne,k _ _ (Zl O) e,mA,#[F,es,j,k _ _ (YY d) e2,c],r]
 |own y=>let(i,e):=x;show#[i,k _ _ (Zl O) e]
 |xd fs=>let(mA,(F,es,j,e,c),r):=x;show#[mA,#[F,es,j,k _ _ (Zl O) e,c],r]
 |rng lo hi=>let(t,u,v,e):=x;show#[t,u,v,k _ _ (Zl O) e]
 |frz i u ih=>let(e,q):=x;show#[k _ _ (Zl O) e,ih q]
 |tbl ps=>
  let e:=x;show k a _ (Zl O) e
 |met f y=>
  let e:=x;show k a _ (Zl O) e
 |ext φ=>let(p,(o,e),st):=x;show#[st _ _ p λo q=>k _ _ (Zl O) q,#[o,k _ _ (Zl O) e],st]
theorem jm.lt(x:jm P w H h)(e:H a=!o):a< ~~~h.objs:=(x a o e).lt
def jm.fresh(x:jm P w H h)(e: ~~~h.objs<=a):H a=J:=by
 cases q:H a with
 |none=>rfl
 |some u=>show absurd (gu (x.lt q) e) (ly _)
def jm.kept(x:jm P w H h)(k:∀b u,h.get? b=!u->h'.get? b=!u):jm P w H h':=λa o e=>
 (x a o e).stay (λb u _ q=>k b u q) (λ_ q=>q) λ_ _ q=>q
def jm.laid(x:jm P w H h)(k:∀b u,h.get? b=!u->h'.get? b=!u)(D: ~~~h.objs<=a)(new:fG P w (aI H a o) h' a o):jm P w (aI H a o) h':=λb u e=>by
 let z:=x.fresh D;by_cases j:b=a
 . subst j;rw[bZ]at e;grind
 . rw[cV j]at e;show(x b u e).stay (λc v _ q=>k c v q) (λc q=>by rw[cV (fD q z)];show q) λc xs q=>by rw[cV (fD q z)];show q
end
def Rd(H:Hp)(a:Addr)(u:HO):Prop:=H a=!u\/∃o,H a=!(.frz o u)
def Rd.ok(r:Rd H a u)(x:jm P w H h):fG P w H h a u:=by
 obtain r|⟨o,r⟩:=r
 . show x a u r
 . let(_,q):=x a _ r;show q
def Tt:Option HO->Prop
 |some (.lst _)=>True
 |some (.dK _)=>True
 |some (.dT _)=>True
 |some (.set _ _)=>True
 |some (.ins _ _ _)=>True
 |some (.ext _)=>True
 |_=>False
section
variable {P:Program}{w:World}{H:Hp}{h h':Heap}{x e:Addr}{o':HO}
def jm.write(ok:jm P w H h)(mu:Tt (H x))(he:e=x\/H e=!(.own x))(k:∀b u,b≠e->h.get? b=!u->h'.get? b=!u)(D:∃u,h'.get? e=!u)
 (new:fG P w (aI H x o') h' x o'):jm P w (aI H x o') h':=λb u q=>by
 have i:∀c y,H c=!(.own y)->c≠x:=λc y r z=>by subst z;rw[r]at mu;show mu
 have j:∀c xs,H c=!(.tup xs)->c≠x:=λc xs r z=>by subst z;rw[r]at mu;show mu
 by_cases Q:b=x
 . subst Q;rw[bZ]at q;grind
 . rw[cV Q]at q;by_cases F:b=e
   . have N:H b=!(.own x):=by
      obtain z|z:=he
      . grind
      . grind
     rw[q]at N;cases N;let(v,hv):=D;show#[v,by rw[F];show hv]
   . show(ok b u q).stay (λc v W r=>k c v ?_ r) (λc r=>by rw[cV (i c b r)];show r) λc xs r=>by rw[cV (j c xs r)];show r
     obtain rfl|W:=W
     . grind
     . obtain z|z:=he
       . grind
       . grind
end
structure Un(fs ex:List Addr)(H H':Hp)(h h':Heap):Prop where
 keep:∀b o,h.get? b=!o->H b=none->b∉fs->b∉ex->h'.get? b=!o
 slot:∀b o,h.get? b=!o->H b=none->b∈fs->b∉ex->∃sl,h'.get? b=some { o with slots:=sl }
 free:∀b o,h.get? b=!o->H b=none->b∉ex->H' b=none
 there:∀b o,h.get? b=!o->b∉ex->∃o',h'.get? b=!o'
 tups:∀b xs,H b=!(.tup xs)->H' b=!(.tup xs)
 frzs:∀b o u,H b=!(.frz o u)->H' b=!(.frz o u)
 tbls:∀b ps,H b=!(.tbl ps)->∃more,H' b=!(.tbl (ps++more))
section
variable {fs gE ex ex':List Addr}{H H1 H2:Hp}{h h1 h2 h':Heap}{a x e:Addr}{o:HO}
def Un.any(u:Un fs ex H H1 h h1)(q:h.get? b=!ob)(n:H b=J)(z:b∉ex):∃sl,h1.get? b=some { ob with slots:=sl }:=by
 by_cases D:b∈fs
 . show u.slot b ob q n D z
 . show#[ob.slots,u.keep b ob q n D z]
def Un.kept(k:∀b u,h.get? b=!u->h'.get? b=!u):Un fs ex H H h h':=
 #[λb j q _ _ _=>k b j q,λb j q _ _ _=>#[j.slots,k b j q],λ_ _ _ n _=>n,λb j q _=>#[j,k b j q],λ_ _ q=>q,λ_ _ _ q=>q,λ_ ps q=>#[#[],by rw[q];simp]]
def Un.refl:Un fs ex H H h h:=Un.kept λ_ _ q=>q
def Un.laid(k:∀b u,h.get? b=!u->h'.get? b=!u)(z: ~~~h.objs<=a)(j:H a=J):Un fs ex H (aI H a o) h h' where
 keep:=λb u q _ _ _=>k b u q
 slot:=λb u q _ _ _=>#[u.slots,k b u q]
 free:=λb u q n _=>by rw[cV (fw (gu (dQ q) z))];show n
 there:=λb u q _=>#[u,k b u q]
 tups:=λb xs q=>by rw[cV (fD q j)];show q
 frzs:=λb u xs q=>by rw[cV (fD q j)];show q
 tbls:=λb ps q=>#[#[],by rw[cV (fD q j),q];simp]
def Un.write(mu:Tt (H x))(he:e=x\/H e=!(.own x))(k:∀b u,b≠e->h.get? b=!u->h'.get? b=!u)(D:∃u,h'.get? e=!u):Un fs ex H (aI H x o) h h':=by
 have N:∀b,H b=J->b≠x:=λb n z=>by subst z;rw[n]at mu;show mu
 have j:∀b,H b=J->b≠e:=λb n z=>by
  obtain r|r:=he
  . grind
  . grind
 have i:∀b u,H b=!u->¬ Tt (!u)->b≠x:=λb u q nm z=>by subst z;rw[q]at mu;show nm mu
 show#[λb u q n _ _=>k b u (j b n) q,λb u q n _ _=>#[u.slots,k b u (j b n) q],λb u q n _=>by rw[cV (N b n)];show n,λb u q _=>?_,
  λb xs q=>by rw[cV (i b _ q λz=>z)];show q,λb u xs q=>by rw[cV (i b _ q λz=>z)];show q,λb ps q=>#[#[],by rw[cV (i b _ q λz=>z),q];simp]]
 by_cases F:b=e
 . grind
 . grind
end
def YG(h:Heap)(H:Hp):List Addr:=(range h.objs.size).filter λa=>(H a).isSome
def xT(h:Heap)(H:Hp):Heap:=W.hideAll h (YG h H)
def Tu(h:Heap)(H:Hp):(xT h H).objs.size= ~~~h.objs:=W.hideAll_size _ _
def Wf(e:h.get? b=!o)(n:H b=J):(xT h H).get? b=!o:=
 W.hideAll_get _ e λi=>by let q:=(mem_filter.mp i).2;grind
def ZC(e:(xT h H).get? b=!o):h.get? b=!o/\H b=J:=by
 let i:=W.of_hideAll (YG h H) e;show#[i,?_];cases q:H b with
 |none=>rfl
 |some x=>
  have z:(xT h H).get? b=J:=W.hideAll_none (YG h H) (mem_filter.mpr #[mem_range.mpr (dQ i),by simp[q]]);grind
def ZD(g h:Heap)(L:Addr):List (Addr×Obj):=(range h.objs.size).filterMap λa=>if a=L\/(g.get? a).isSome=G then J else (h.get? a).map λo=>(a,o)
def a9(g h:Heap)(L d:Addr):List (Addr×Obj):=(ZD g h L).filter λp=>decide (p.1≠d)
structure Mod(K:FG)(mg:Str->Option Value)(base:Heap):Prop where
 kin:K.In base
 glob:base.Ns mainGlobals mg
 blt:∃mb,base.Ns builtinsNs mb/\∀x:Str,x ≠ "__name__"->mb x=bootBuiltins x
 nolimit:base.NoLimit
structure Cx where
 prog:Program
 w:World
 K:FG
 mg:Str->Option Value
 base:Heap
 A:Around
 N:List Str
 s₀:Shared
 H0:Hp
 env:Env
 outer:List Env
 stack:List Env
 ex:List Addr
 fn:Str->Bool
 calm:Bool
 pn:List (Addr×Obj)
 xe:Value->Shared->Prop
noncomputable def frs (l:List Env):List Addr:=l.filterMap (·.frame)
abbrev Cx.fs(X:Cx):List Addr:=frs X.outer
def Tv(sc:Scope)(x:Str):Prop:=sc.names.lookup x=!.local\/sc.names.lookup x=!.cell\/sc.names.lookup x=!.free
def Loc(sc:Scope)(x:Str):Prop:=sc.names.lookup x=!.local\/sc.names.lookup x=!.cell
def vw(env:Env)(h:Heap)(m:Str->Option Value)(x:Str)(u:Value):Prop:=
 (env.kindOf x=!.local/\m x=!u)\/((env.kindOf x=!.cell\/env.kindOf x=!.free)/\∃c,env.cells.lookup x=!c/\h.IsCell c (!u))
structure Cx.Ok(X:Cx):Prop where
 mod:Mod X.K X.mg X.base
 kind:X.env.scope.kind=.function
 glob:X.env.globals=mainGlobals
 blt:X.env.builtins=builtinsNs
 above: ~~~X.s₀.heap.objs<=X.env.locals
 inj:∀x y c,X.env.cells.lookup x=!c->X.env.cells.lookup y=!c->x=y
 has:∀x,(X.env.kindOf x=!.cell\/X.env.kindOf x=!.free)->∃c,X.env.cells.lookup x=!c
 cab:∀x c,X.fn x=true->X.env.cells.lookup x=!c-> ~~~X.s₀.heap.objs<=c
 hd:X.calm=true->X.A.handled=none
 frames:X.A.frames=!X.stack
 stk:X.stack=X.outer\/(X.stack=X.env::X.outer/\X.env.frame=!X.env.locals)
 exf:∀b∈X.ex,b≠X.env.locals/\∀x c,X.env.cells.lookup x=!c->c≠b
 bs:∀b o,X.base.get? b=!o->X.s₀.heap.get? b=!o/\X.H0 b=none
 bsz: ~~~X.base.objs<= ~~~X.s₀.heap.objs
 noex:∀b o,X.base.get? b=!o->b∉X.ex
 exfs:∀b∈X.ex,b∉X.fs
 funs:X.s₀.heap.FunFrames X.base X.outer
 frf:∀b∈X.fs,X.H0 b=none
structure am(X:Cx)(ae:List (Addr×Obj))(U:List (Option V))(H:Hp)(s:Shared):Prop where
 ok:X.Ok
 os:s.os=X.s₀.os
 bare:AllBare s.gens
 base:Un X.fs X.ex X.H0 H X.s₀.heap s.heap
 loc:∃m,s.heap.Ns X.env.locals m/\∀(i:Nat)(x:Str)(v:V),X.N[i]?=!x->U[i]?=!(!v)->Tv X.env.scope x->∃u,aw v u/\vw X.env s.heap m x u
 cell:∀x c,X.env.cells.lookup x=!c->∃v,s.heap.IsCell c v
 free:H X.env.locals=none
 freeC:∀x c,X.env.cells.lookup x=!c->H c=none
 pin:∀p∈X.pn++ae,s.heap.get? p.1=!p.2/\H p.1=none/\p.1≠X.env.locals/\p.1∉X.fs/\∀v,p.2.data≠.cell v
 hok:jm X.prog X.w H s.heap
 len:-U=-X.N
section
variable {X:Cx}{ae:List (Addr×Obj)}{U:List (Option V)}{H H':Hp}{s:Shared}{h':Heap}
def Cx.Ok.nofr(ok:X.Ok)(e:X.base.get? b=!o):b∉X.fs:=λj=>by have:=(ok.funs.mem j).1;rw[e]at this;cases this
theorem am.bs(I:am X ae U H s):∀b o,X.base.get? b=!o->s.heap.get? b=!o/\H b=J:=λb o e=>
 #[I.base.keep b o (I.ok.bs b o e).1 (I.ok.bs b o e).2 (I.ok.nofr e) (I.ok.noex b o e),I.base.free b o (I.ok.bs b o e).1 (I.ok.bs b o e).2 (I.ok.noex b o e)]
def am.bk(I:am X ae U H s):∀b o,X.base.get? b=!o->s.heap.get? b=!o:=λb o e=>(I.bs b o e).1
theorem am.mod(I:am X ae U H s):Mod X.K X.mg X.base:=I.ok.mod
def am.kIn(I:am X ae U H s):X.K.In s.heap:=I.ok.mod.kin.keeps I.bk
theorem am.lt(I:am X c5 U H s):X.env.locals< ~~~s.heap.objs:=let #[_,hn,_]:=I.loc;hn.lt
def am.sz(I:am X ae U H s): ~~~X.s₀.heap.objs<= ~~~s.heap.objs:=fA I.ok.above (oQ I.lt)
def am.nofs(I:am X c5 U H s){a:Addr}(h: ~~~s.heap.objs<=a):a∉X.fs:=λq=>by let(_,o,j,_):=I.ok.funs.mem q;show absurd (gu (dQ j) (fA I.sz h)) ()
def am.cne(I:am X ae U H s):∀x c,X.env.cells.lookup x=!c->c≠X.env.locals:=λx c e z=>by let(v,o,D,F):=I.cell x c e;let(m,(o',es,N,j,q,_),_):=I.loc;rw[z,j]at D;cases D;rw[q]at F;cases F
theorem am.funs(I:am X ae U H s):s.heap.FunFrames X.base X.outer:=by
 have all:∀(l:List Env),(∀b∈frs l,b∈X.fs)->X.s₀.heap.FunFrames X.base l->s.heap.FunFrames X.base l:=by
  intro l;induction l with
  |nil=>intro _ _;trivial
  |cons F r ih=>
   intro hs W;let(hk,(L,o,i,N,Q,D),hr):=W;let q:=hs L (by unfold frs;rw[vn,i];show cS);let(sl,e):=I.base.slot L o Q (I.ok.frf L q) q λz=>I.ok.exfs L z q;show#[hk,#[L,_,i,N,e,D],ih (λb j=>hs b (by unfold frs;rw[vn,i];show d_ _ j)) hr]
 show all X.outer (λ_ j=>j) I.ok.funs
theorem am.stack(I:am X ae U H s):s.heap.FunFrames X.base X.stack:=by
 obtain e|⟨e,q⟩:=I.ok.stk
 . rw[e];show I.funs
 . rw[e];let(m,j,_):=I.loc;show .cons (by rw[I.ok.kind];decide) q j ?_ I.funs;show Heap.get?_none_of_le (fA I.ok.bsz I.ok.above)
def am.stkSub(I:am X ae U H s):∀b∈frs X.stack,b∈X.env.locals::X.fs:=λb j=>by
 obtain e|⟨e,q⟩:=I.ok.stk
 . grind
 . rw[e]at j;unfold frs at j;rw[vn,q]at j;show j
def am.stkFree(I:am X ae U H s):∀b∈frs X.stack,H b=J:=λb j=>by
 obtain e|j:=bh.mp (I.stkSub b j)
 . rw[e];show I.free
 . let(_,o,q,_):=I.ok.funs.mem j;show I.base.free b o q (I.ok.frf b j) λz=>I.ok.exfs b z j
def am.step{ch:List Addr}(I:am X ae U H s)
 (D:∀b∈ch,(b∈X.ex\/X.s₀.heap.objs.size<=b)/\b≠X.env.locals/\(∀x c,X.env.cells.lookup x=!c->c≠b)/\∀p∈X.pn++ae,p.1≠b)
 (keep:∀b o,b≠X.env.locals->b∉X.fs->b∉ch->s.heap.get? b=!o->H b=J->h'.get? b=!o)
 (slot:∀b o,b≠X.env.locals->b∈X.fs->b∉ch->s.heap.get? b=!o->H b=J->∃sl,h'.get? b=some { o with slots:=sl }) (free:∀b o,b∉ch->s.heap.get? b=!o->H b=J->H' b=J)
 (there:∀b o,b∉ch->s.heap.get? b=!o->∃o',h'.get? b=!o')
 (tups:∀b xs,H b=!(.tup xs)->H' b=!(.tup xs)) (frzs:∀b o u,H b=!(.frz o u)->H' b=!(.frz o u)) (tbls:∀b ps,H b=!(.tbl ps)->∃more,H' b=!(.tbl (ps++more)))
 (ns:∀m,s.heap.Ns X.env.locals m->h'.Ns X.env.locals m) (hok:jm X.prog X.w H' h') (hg:AllBare g'):
 am X ae U H' { s with heap:=h',gens:=g',drawn:=d',toks:=t' }:=by
 have AD:∀b o,X.s₀.heap.get? b=!o->b≠X.env.locals:=λb o e=>fw (gu (dQ e) I.ok.above);have Q:∀b o,X.s₀.heap.get? b=!o->b∉X.ex->b∉ch:=λb o e j hb=>by
  obtain z|z:=(D b hb).1
  . show j z
  . show absurd (gu (dQ e) z) ()
 have F:∀x c,X.env.cells.lookup x=!c->∀v,s.heap.IsCell c v->h'.IsCell c v:=λx c e v z0=>by
  let(o,ho,hd):=z0
  let N:=λz=>(D c z).2.2.1 x c e O;by_cases hc:c∈X.fs
  . let(sl,q):=slot c o (I.cne x c e) hc N ho (I.freeC x c e);show#[_,q,hd]
  . show#[o,keep c o (I.cne x c e) hc N ho (I.freeC x c e),hd]
 show#[I.ok,I.os,hg,#[λb o e n hb j=>?_,λb o e n hb j=>?_,λb o e n j=>?_,λb o e j=>?_,λb xs e=>tups b xs (I.base.tups b xs e),λb o xs e=>frzs b o xs (I.base.frzs b o xs e),λb ps e=>?_],?_,λx c e=>?_,?_,λx c e=>?_,λp hp=>?_,hok,I.len]
 . show keep b o (AD b o e) hb (Q b o e j) (I.base.keep b o e n hb j) (I.base.free b o e n j)
 . let(sl,W):=I.base.slot b o e n hb j;let(IS,e2):=slot b _ (AD b o e) hb (Q b o e j) W (I.base.free b o e n j);show#[IS,e2]
 . let(o',W):=I.base.there b o e j;show free b o' (Q b o e j) W (I.base.free b o e n j)
 . let(o',W):=I.base.there b o e j;show there b o' (Q b o e j) W
 . let(m1,W):=I.base.tbls b ps e;let(m2,e2):=tbls b _ W;show#[m1++m2,by rw[e2,Array.append_assoc]]
 . let(m,hn,hl):=I.loc;show#[m,ns m hn,λi x v W e2 e3=>?_];let(u,r,l):=hl i x v W e2 e3;show#[u,r,?_];obtain l|⟨k,c,e,z⟩:=l
   . show Zl l
   . show YY #[k,c,e,F x c e _ z]
 . let(v,z):=I.cell x c e;show#[v,F x c e v z]
 . let(m,(o,_,_,ho,_),_):=I.loc;show free _ o (λz=>(D _ z).2.1 O) ho I.free
 . let(v,o,ho,hd):=I.cell x c e;show free c o (λz=>(D c z).2.2.1 x c e O) ho (I.freeC x c e)
 . let(e,n,ne,nf,d):=I.pin p hp;let N:=λz=>(D p.1 z).2.2.2 p hp O;show#[keep p.1 p.2 ne nf N e n,free p.1 p.2 N e n,ne,nf,d]
def am.un(I:am X ae U H s)(u:Un X.fs [] H H' s.heap h')(N:jm X.prog X.w H' h'):am X ae U H' { s with heap:=h',toks:=t' }:=by
 let(m,(o,es,ep,W,r),_):=id I.loc;let(sl,hL):=u.any W I.free (by simp);show I.step (ch:=[]) (λ_ z=>nomatch z) (λb o _ D _ e n=>u.keep b o e n D ()) (λb o _ D _ e n=>u.slot b o e n D ()) (λb o _ e n=>u.free b o e n ()) (λb o _ e=>u.there b o e ()) u.tups u.frzs u.tbls (λm' hm=>by let(o',q,F,j,r'):=hm;rw[W]at j;cases j;show#[_,q,F,hL,r']) N I.bare
def am.call(I:am X ae U H s)(u:Un (frs X.stack) ch H H' s.heap h')(N:jm X.prog X.w H' h')(hg:AllBare g')
 (j:∀b∈ch,(b∈X.ex\/X.s₀.heap.objs.size<=b)/\b≠X.env.locals/\(∀x c,X.env.cells.lookup x=!c->c≠b)/\∀p∈X.pn++ae,p.1≠b):
 am X ae U H' { s with heap:=h',gens:=g',drawn:=d',toks:=t' }:=by
 let(m,(o,es,ep,ho,r),_):=id I.loc;let(sl,W):=u.any ho I.free λz=>(j _ z).2.1 O;show I.step j (λb o W hb i e n=>u.keep b o e n (λz=>(bh.mp (I.stkSub b z)).elim W hb) i) (λb o _ _ i e n=>u.any e n i) (λb o i e n=>u.free b o e n i) (λb o i e=>u.there b o e i) u.tups u.frzs u.tbls (λm' hm=>by let(o',F,Q,q,r'):=hm;rw[ho]at q;cases q;show#[_,F,Q,W,r']) N hg
def am.turned(I:am X ae U H s)(k:∀b o,b≠it->s.heap.get? b=!o->h'.get? b=!o)(N:H it=J)(W:it≠X.env.locals)
 (h1:it∈X.ex\/X.s₀.heap.objs.size<=it) (h2:∀x c,X.env.cells.lookup x=!c->c≠it) (Q:∀p∈X.pn++ae,p.1≠it):am X ae U H { s with heap:=h',toks:=t' }:=by
 have D:∀b u,H b=!u->b≠it:=λb u e z=>by rw[z,N]at e;cases e
 show I.step (ch:=[it]) (λb hb=>?_) (λb o _ _ j e _=>k b o (λz=>j ∅) e) (λb o _ _ j e _=>#[o.slots,k b o (λz=>j ∅) e]) (λ_ _ _ _ n=>n)
  (λb o j e=>#[o,k b o (λz=>j ∅) e]) (λ_ _ e=>e) (λ_ _ _ e=>e) (λb ps e=>#[#[],by rw[e];simp]) (λm hm=>?_) (λb u e=>?_) I.bare
 . have e:b=it:=by simpa using hb
   subst e;show#[h1,W,h2,Q]
 . let(o,es,ep,ho,r):=hm;show#[o,es,ep,k _ o (Ne.symm W) ho,r]
 . show(I.hok b u e).stay (λc v j q=>k c v ?_ q) (λ_ q=>q) λ_ _ q=>q;obtain z|z:=j
   . rw[z];show D b u e
   . show D c _ z
def am.tok(I:am X ae U H s)(t:Nat):am X ae U H { s with toks:=t }:=I.un Un.refl I.hok
theorem am.kept(I:am X ae U H s)(k:∀b u,s.heap.get? b=!u->h'.get? b=!u):am X ae U H { s with heap:=h',toks:=t' }:=I.un (Un.kept k) (I.hok.kept k)
theorem am.laid{a:Addr}(I:am X ae U H s)(k:∀b u,s.heap.get? b=!u->h'.get? b=!u)(j: ~~~s.heap.objs<=a)(new:fG X.prog X.w (aI H a o) h' a o):
 am X ae U (aI H a o) { s with heap:=h',toks:=t' }:=I.un (Un.laid k j (I.hok.fresh j)) (I.hok.laid k j new)
theorem am.write(I:am X ae U H s)(mu:Tt (H x))(he:e=x\/H e=!(.own x))(k:∀b u,b≠e->s.heap.get? b=!u->h'.get? b=!u)(j:∃u,h'.get? e=!u)
 (new:fG X.prog X.w (aI H x o) h' x o):am X ae U (aI H x o) { s with heap:=h',toks:=t' }:=I.un (Un.write mu he k j) (I.hok.write mu he k j new)
def am.pins_of(I:am X ae U H s)(h:∀p∈pins',s.heap.get? p.1=!p.2/\H p.1=J/\p.1≠X.env.locals/\p.1∉X.fs/\∀v,p.2.data≠.cell v):am X pins' U H s:=
 #[I.ok,I.os,I.bare,I.base,I.loc,I.cell,I.free,I.freeC,λp j=>(d6.mp j).elim (λz=>I.pin p (ii _ z)) (h p),I.hok,I.len]
def Ky{N:List Str}(z:N.Nodup){i j:Nat}(a:N[i]?=!x)(b:N[j]?=!x):i=j:=by let(h1,D):=fr.mp a;let(h2,q):=fr.mp b;show(getElem_inj z).mp (D.trans q.symm)
def HF(I:am X c5 U H s)(hN:X.N.Nodup)(hi:X.N[i]?=!x)(hx:Loc X.env.scope x)(r:aw v u)
 (h:∀s',am X c5 (U.set i (!v)) H s'->(∃a,Heap.SameBut a s.heap s'.heap/\(a=X.env.locals\/X.env.cells.lookup x=!a))->Q ⟨⟩ s') (hf:X.fn x=G\/X.env.scope.names.lookup x=!.local:=by first |show Zl O |show YY O |assumption):wpAny ZO A (storeName X.env x u) Q E s:=by
 let(m,hn,hl):=id I.loc;have hcls:(X.env.scope.kind==.class||(X.env.scope.kind==.module&&X.env.locals != X.env.globals))=M:=by rw[I.ok.kind];rfl
 have AG:i< -U:=by rw[I.len];show(fr.mp hi).1
 let cne:=I.cne;have D:∀{a:Addr}{h':Heap},(∃o,s.heap.get? a=!o/\H a=J)->Heap.SameBut a s.heap h'->jm X.prog X.w H h':=λ{a h'} ha hs b ob e=>by
  show(I.hok b ob e).stay (λc w' W q=>(hs.2 c ?_).trans q) (λ_ q=>q) λ_ _ q=>q;obtain rfl|W:=W
  . grind
  . grind
 obtain hk|hk:=hx
 . show wpAny_storeName_local hk hn (λh' n5 hs=>?_) hcls;let(oL,_,_,IT,_):=id hn;show h _ #[I.ok,I.os,I.bare,#[λb o e n hb hx=>?_,λb o e n hb hx=>?_,I.base.free,λb o e hx=>?_,I.base.tups,I.base.frzs,I.base.tbls],#[_,n5,λj y v' F e2 e3=>?_],λy c e=>?_,I.free,I.freeC,λp hp=>?_,D #[oL,IT,I.free] hs,by simpa using I.len] #[_,hs,Zl O]
   . show(hs.2 b (fw (gu (dQ e) I.ok.above))).trans (I.base.keep b o e n hb hx)
   . let(sl,F):=I.base.slot b o e n hb hx;show#[sl,(hs.2 b (fw (gu (dQ e) I.ok.above))).trans F]
   . let(o',F):=I.base.there b o e hx;show#[o',(hs.2 b (fw (gu (dQ e) I.ok.above))).trans F]
   . by_cases hj:j=i
     . subst hj;rw[hi]at F;cases F;rw[kt AG]at e2;cases e2;show#[u,r,Zl #[hk,by simp]]
     . rw[rT (Ne.symm hj)]at e2;let(u',r',q):=hl j y v' F e2 e3;show#[u',r',?_];obtain⟨k,e⟩|⟨k,c,e,z⟩:=q
       . show Zl #[k,?_];have:y≠x:=λe=>hj (Ky hN F (e▸hi));simp[this,e]
       . show YY #[k,c,e,z.sameBut hs (cne y c e)]
   . let(w',z):=I.cell y c e;show#[w',z.sameBut hs (cne y c e)]
   . let(e,n,ne,nf,d):=I.pin p hp;show#[(hs.2 p.1 ne).trans e,n,ne,nf,d]
 . have mT:X.fn x=G:=by
    obtain z|z:=hf
    . show z
    . rw[z]at hk;cases hk
   let(c,W):=I.ok.has x (Zl hk);let(w',z):=I.cell x c W;show wpAny_storeName_cell I.ok.kind hk W z (λh' se hs=>?_);let(oc,AH,hocd):=id z;show h { s with heap:=h' } #[I.ok,I.os,I.bare,#[λb o e n hb hx=>?_,λb o e n hb hx=>?_,I.base.free,λb o e hx=>?_,I.base.tups,I.base.frzs,I.base.tbls],#[m,hn.sameBut hs (Ne.symm (cne x c W)),λj y v' F e2 e3=>?_],λy c' e=>?_,I.free,I.freeC,λp hp=>?_,D #[oc,AH,I.freeC x c W] hs,by simpa using I.len] #[c,hs,YY W]
   . show(hs.2 b (fw (gu (dQ e) (I.ok.cab x c mT W)))).trans (I.base.keep b o e n hb hx)
   . let(sl,F):=I.base.slot b o e n hb hx;show#[sl,(hs.2 b (fw (gu (dQ e) (I.ok.cab x c mT W)))).trans F]
   . let(o',F):=I.base.there b o e hx;show#[o',(hs.2 b (fw (gu (dQ e) (I.ok.cab x c mT W)))).trans F]
   . by_cases hj:j=i
     . subst hj;rw[hi]at F;cases F;rw[kt AG]at e2;cases e2;show#[u,r,YY #[Zl hk,c,W,se]]
     . rw[rT (Ne.symm hj)]at e2;let(u',r',q):=hl j y v' F e2 e3;show#[u',r',?_];obtain q|⟨k,c',e,z'⟩:=q
       . show Zl q
       . show YY #[k,c',e,z'.sameBut hs ?_];rintro rfl;show hj (Ky hN F (I.ok.inj _ _ _ e W▸hi))
   . by_cases sf:c'=c
     . subst sf;show#[_,se]
     . let(w2,z2):=I.cell y c' e;show#[w2,z2.sameBut hs sf]
   . let(e,n,ne,nf,d):=I.pin p hp;show#[(hs.2 p.1 ?_).trans e,n,ne,nf,d];intro q;rw[q,AH]at e;show d w' ()
def Kz(I:am X c5 U H s)(q:X.N.Nodup)(hi:X.N[i]?=!x)(j:Loc X.env.scope x)(r:aw v u)
 (h:∀s',am X c5 (U.set i (!v)) H s'->Q ⟨⟩ s') (z:X.fn x=G\/X.env.scope.names.lookup x=!.local:=by first |show Zl O |show YY O |assumption):wpAny ZO A (storeName X.env x u) Q E s:=
 HF I q hi j r (λs' D _=>h s' D) z
def am.call'(I:am X ae U H s)(z:s'.os=s.os)(u:Un (frs X.stack) ch H H' s.heap s'.heap)(q:jm X.prog X.w H' s'.heap)(D:AllBare s'.gens)
 (j:∀b∈ch,(b∈X.ex\/X.s₀.heap.objs.size<=b)/\b≠X.env.locals/\(∀x c,X.env.cells.lookup x=!c->c≠b)/\∀p∈X.pn++ae,p.1≠b):am X ae U H' s':=by
 let(h',W,N,F,o'):=s';let e:=z;subst e;show I.call u q D j
end
abbrev XK:=Value->Option Addr->Hp->Prop
abbrev St:=List (Option V)
abbrev VK:=V->Hp->Prop
abbrev TE:=St->Hp->VK->Prop
abbrev TT:=St->Hp->(Bool->Hp->Prop)->Prop
abbrev TA:=St->Hp->(List V->Hp->Prop)->Prop
structure ij where
 nx:St->Hp->Prop
 rt:VK
 bk:St->Hp->Prop:=λ_ _=>False
 ct:St->Hp->Prop:=λ_ _=>False
abbrev TS:=ij->St->Hp->Prop
def EP(X:Cx)(ae:List (Addr×Obj))(U:St)(Q:VK)(u:Value)(s':Shared):Prop:=∃v H',am X ae U H' s'/\aw v u/\Q v H'
def TP(X:Cx)(ae:List (Addr×Obj))(U:St)(Q:Bool->Hp->Prop)(b:Bool)(s':Shared):Prop:=∃H',am X ae U H' s'/\Q b H'
def AP(X:Cx)(ae:List (Addr×Obj))(U:St)(Q:List V->Hp->Prop)(us:List Value)(s':Shared):Prop:=∃vs H',am X ae U H' s'/\ap vs us/\Q vs H'
def SP(X:Cx)(ae:List (Addr×Obj))(D:ij)(f:Flow)(s':Shared):Prop:=
 match f with
 |.next=>∃U' H',am X ae U' H' s'/\D.nx U' H'
 |.brk=>∃U' H',am X ae U' H' s'/\D.bk U' H'
 |.cont=>∃U' H',am X ae U' H' s'/\D.ct U' H'
 |.ret u=>∃v U' H',am X ae U' H' s'/\aw v u/\D.rt v H'
def PE(X:Cx)(e:Expr)(t:TE):Prop:=
 ∀(ae:List (Addr×Obj))(s:Shared)(U:St)(H:Hp)(Q:VK),am X ae U H s->t U H Q->wpAny (model X.prog X.w) X.A (eval e X.env) (EP X ae U Q) X.xe s
def PT(X:Cx)(e:Expr)(t:TT):Prop:=
 ∀(ae:List (Addr×Obj))(s:Shared)(U:St)(H:Hp)(Q:Bool->Hp->Prop),am X ae U H s->t U H Q->wpAny (model X.prog X.w) X.A (isTrue e X.env (eval e X.env)) (TP X ae U Q) X.xe s
def PW(X:Cx)(e:Expr)(t:TT):Prop:=
 ∀(whole:Sem Value)(ae:List (Addr×Obj))(s:Shared)(U:St)(H:Hp)(Q:Bool->Hp->Prop),am X ae U H s->t U H Q->wpAny (model X.prog X.w) X.A (isTrue e X.env whole) (TP X ae U Q) X.xe s
def PW.pt(h:PW X e t):PT X e t:=h _
def PA(X:Cx)(es:List Expr)(t:TA):Prop:=
 ∀(pos:Pos)(ae:List (Addr×Obj))(s:Shared)(U:St)(H:Hp)(Q:List V->Hp->Prop),am X ae U H s->t U H Q->wpAny (model X.prog X.w) X.A (spliced (backTo pos (starEach es X.env))) (AP X ae U Q) X.xe s
def PS(X:Cx)(st:Stmt)(t:TS):Prop:=
 ∀(ae:List (Addr×Obj))(s:Shared)(U:St)(H:Hp)(D:ij),am X ae U H s->t D U H->wpAny (model X.prog X.w) X.A (exec st X.env) (SP X ae D) X.xe s
def jP(X:Cx)(st:List Stmt)(t:TS):Prop:=
 ∀(ae:List (Addr×Obj))(s:Shared)(U:St)(H:Hp)(D:ij),am X ae U H s->t D U H->wpAny (model X.prog X.w) X.A (execs st X.env) (SP X ae D) X.xe s
def dg(h:wpAny ZO A t Q E s)(j:∀a s,Q a s->Q' a s):wpAny ZO A t Q' E s:=kH h j λ_ _ x=>x
section
variable {X:Cx}
def pf(j:PE X a ta)(D:PE X b tb){U:St}{ZN:V->V->Hp->Prop}(I:am X c5 U H s)(h:ta U H λx H1=>tb U H1 λy H2=>ZN x y H2)
 {f:Value->Value->Sem α}
 (N:∀v u i x y H2,am X c5 U H2 i->aw x v->aw y u->ZN x y H2->wpAny (model X.prog X.w) X.A (f v u) Q X.xe i):
 wpAny (model X.prog X.w) X.A (eval a X.env) (λv q=>wpAny (model X.prog X.w) X.A (eval b X.env) (λu F=>wpAny (model X.prog X.w) X.A (f v u) Q X.xe F) X.xe q) X.xe s:=by
 show dg (j c5 s U H _ I h) λv z z1=>?_;let(x,H1,W,r1,q1):=z1;show dg (D c5 z U H1 _ W q1) λu i z2=>?_;let(y,H2,I2,r2,q2):=z2;grind
def uH(i:Nat):TE:=λU H Q=>∃v,U[i]?=!(!v)/\Q v H
def tC(v:V):TE:=λ_ H Q=>Q v H
def IU{pos:Pos}(F:X.N[i]?=!x)(hv:Tv X.env.scope x)(q:(x==("__debug__" : Str))=M:=by decide)(z:(x==("__classdict__" : Str))=M:=by decide):PE X (.Name x pos) (uH i):=by
 intro ae s U H Q I h;let(v,e,h):=h;let(m,W,hl):=I.loc;let(u,r,l):=hl i x v F e hv;have fin:EP X ae U Q u s:=#[v,H,I,r,h];obtain⟨hk,hm⟩|⟨hk,c,D,j⟩:=l
 . show wpAny_Name (wpAny_loadName_local I.ok.kind hk W hm fin) q
 . obtain hk|hk:=hk
   . show wpAny_Name (wpAny_loadName_cell I.ok.kind hk D j fin) q
   . show wpAny_Name (wpAny_loadName_free I.ok.kind hk D j fin z) q
def IV{i j pos}:PE X (.Constant (.int i) j pos) (tC (.int i)):=λ_ _ _ H _ I h=>wpAny_Constant_int #[.int i,H,I.tok _,#[_,O],h]
def YH{b j pos}:PE X (.Constant (.bool b) j pos) (tC (.bl b)):=λ_ _ _ H _ I h=>Constant_bool #[.bl b,H,I,O,h]
def IX{j pos}:PE X (.Constant .none j pos) (tC .non):=λ_ _ _ H _ I h=>Constant_none #[.non,H,I,O,h]
def IY{x j pos}:PE X (.Constant (.str x) j pos) (tC (.str x)):=λ_ _ _ H _ I h=>Calls.Constant_str #[.str x,H,I.tok _,#[_,O],h]
def Gl(X:Cx)(x:Str):Prop:=X.env.kindOf x=!.globalImplicit
def Pz{U:St}(I:am X c5 U H s)(q:Gl X x)(j:X.mg x=!u)(h:Q u s)
 (z:(x==("__debug__" : Str))=M:=by decide):wpAny (model X.prog X.w) X.A (eval (.Name x pos) X.env) Q E s:=
 Calls.Name_function_global I.ok.kind q (Calls.loadGlobal_global (by rw[I.ok.glob];show I.mod.glob.keeps I.bk) j h) z
def zE{U:St}{pos:Pos}(I:am X c5 U H s)(j:Gl X x)(z:X.mg x=J)(D:bootBuiltins x=!u)(h:Q u s)
 (q:x ≠ "__name__":=by decide) (F:(x==("__debug__" : Str))=M:=by decide):wpAny (model X.prog X.w) X.A (eval (.Name x pos) X.env) Q E s:=by
 let(N,h1,h2):=I.mod.blt;show Calls.Name_function_global I.ok.kind j (Calls.loadGlobal_builtin (by rw[I.ok.glob];show I.mod.glob.keeps I.bk) z (by rw[I.ok.blt];show h1.keeps I.bk) ((h2 x q).trans D) h) F
def sg{pos:Pos}(F:Gl X x)(hm:X.mg x=J)(D:bootBuiltins x=!u)(r:aw v u)(j:x ≠ "__name__":=by decide)(z:(x==("__debug__" : Str))=M:=by decide):PE X (.Name x pos) (tC v):=
 λ_ _ _ H _ I h=>zE I F hm D #[v,H,I,r,h] j z
variable {a b:Expr}{ta tb:TE}{pos:Pos}
def zdy(t:TE):TT:=λU H Q=>t U H λx H1=>∃c,x=.bl c/\Q c H1
variable {tA sj:TT}{a9:List Expr}
def AI(t u:TT):TT:=λU H Q=>t U H λc H1=>if c=G then u U H1 Q else Q M H1
def AJ(t u:TT):TT:=λU H Q=>t U H λc H1=>if c=G then Q G H1 else u U H1 Q
def IZ(t:TT):TT:=λU H Q=>t U H λc H1=>Q (not c) H1
def ZF(j:PT X a tA):PW X (.BoolOp .And [a] pos) tA:=by
 intro wh ae s U H Q I h;show isTrue_and (dg (j ae s U H Q I h) λc q e=>?_);cases c with
 |true=>show isTrue_and_nil e
 |false=>show e
def I_(j:PT X a tA):PW X (.BoolOp .Or [a] pos) tA:=by
 intro wh ae s U H Q I h;show isTrue_or (dg (j ae s U H Q I h) λc q e=>?_);cases c with
 |false=>show isTrue_or_nil e
 |true=>show e
def Jn(i:PT X a tA)(q:PW X (.BoolOp .And (b::a9) pos) sj):PW X (.BoolOp .And (a::b::a9) pos) (AI tA sj):=by
 intro wh ae s U H Q I h;show isTrue_and (dg (i ae s U H _ I h) λc j F=>?_);let(H1,z,D):=F;cases c with
 |true=>show q wh ae j U H1 Q z D
 |false=>show#[H1,z,D]
def JA(i:PT X a tA)(q:PW X (.BoolOp .Or (b::a9) pos) sj):PW X (.BoolOp .Or (a::b::a9) pos) (AJ tA sj):=by
 intro wh ae s U H Q I h;show isTrue_or (dg (i ae s U H _ I h) λc j F=>?_);let(H1,z,D):=F;cases c with
 |true=>show#[H1,z,D]
 |false=>show q wh ae j U H1 Q z D
def JB(j:PT X a tA):PT X (.UnaryOp .Not a pos) (IZ tA):=by intro ae s U H Q I h;show isTrue_not (j ae s U H (λc H1=>Q (not c) H1) I h)
def JE(ta tb:TE):TE:=λU H Q=>ta U H λx H1=>∃c,x=.bl c/\if c=G then tb U H1 Q else Q (.bl M) H1
def JI{op}(h:PE X a t):PE X (.BoolOp op [a] pos) t:=λae s U H Q I j=>BoolOp_one (h ae s U H Q I j)
def JJ(j:PE X a ta)(z:PE X (.BoolOp .And (b::a9) pos) tb):PE X (.BoolOp .And (a::b::a9) pos) (JE ta tb):=by
 intro ae s U H Q I h;show BoolOp_and (dg (j ae s U H _ I h) λv q F=>?_);let(x,H1,D,N,i):=F;let(c,rfl,i):=i;cases N;show wpAny_truthy_bool ?_;cases c with
 |true=>show z ae q U H1 Q D i
 |false=>show#[.bl M,H1,D,O,i]
def JO(t:TT)(ta tb:TE):TE:=λU H Q=>t U H λc H1=>if c=G then ta U H1 Q else tb U H1 Q
def Wg(z:PT X c tA)(j:PE X a ta)(q:PE X b tb):PE X (.IfExp c a b pos) (JO tA ta tb):=by
 intro ae s U H Q I h;show wpAny_IfExp (dg (z ae s U H _ I h) λd i N=>?_);let(H1,D,F):=N;cases d with
 |true=>show j ae i U H1 Q D F
 |false=>show q ae i U H1 Q D F
end
def bY(K:FG)(H:Hp)(a:Addr)(xs:List V):Prop:=
 Rd H a (.lst xs)\/
  ∃(o:Obj)(dS:Array Value)(n:Nat),K.lookup a=!o/\o.cls=.type "list"/\o.dict=J/\o.data=.seq dS n/\dS.size<=sizeLine/\ap xs dS.toList
def cW(K:FG)(H:Hp)(a:Addr)(xs:List V):Prop:=
 Rd H a (.tup xs)\/
  ∃(o:Obj)(dS:Array Value)(n:Nat),K.lookup a=!o/\o.cls=.type "tuple"/\o.data=.seq dS n/\dS.size<=sizeLine/\ap xs dS.toList
noncomputable def JU:Value->Option V
 |.none=>!.non
 |.bool b=>!(.bl b)
 |.int i _=>!(.int i)
 |.str x _=>!(.str x)
 |.bytes b _=>!(.byt b)
 |.float b _=>!(.flt b)
 |YV a=>!(.ref a)
 |.type n=>!(.ty n)
 |_=>J
def aw.abs(r:aw x u):JU u=!x:=by
 cases x with
 |non=>cases r;rfl
 |bl _=>cases r;rfl
 |int _=>let(t,rfl):=r;rfl
 |str _=>let(t,rfl):=r;rfl
 |byt _=>let(t,rfl):=r;rfl
 |flt _=>let(t,rfl):=r;rfl
 |ref _=>cases r;rfl
 |ty _=>cases r;rfl
def aw.inj(r:aw x u)(q:aw y u):x=y:=fI (r.abs.symm.trans q.abs)
theorem ap.inj:∀{xs ys:List V}{j:List Value},ap xs j->ap ys j->xs=ys
 |_,_,_,.nil,.nil=>rfl
 |_,_,_,.cons r t,.cons z q=>by rw[r.inj z,ap.inj t q]
section
variable {X:Cx}{ae:List (Addr×Obj)}{U:St}{H:Hp}{s:Shared}{a:Addr}{xs ys:List V}
def bY.of{K:FG}(h:H a=!(.lst xs)):bY K H a xs:=Zl (Zl h)
def cW.of{K:FG}(h:H a=!(.tup xs)):cW K H a xs:=Zl (Zl h)
def am.list(I:am X ae U H s)(h:bY X.K H a xs):∃j:List Value,ap xs j/\PlainL s.heap a j.toArray/\-xs<=sizeLine:=by
 obtain h|⟨o,j,n,hk,D,q,hs,F,r⟩:=h
 . let(z,j,n,r,e):=h.ok I.hok;show#[j,r,#[_,n,e,O,O,O],z]
 . show#[j.toList,r,#[o,n,I.kIn a o hk,D,q,by simpa using hs],?_];let e:=-r;grind
def am.tuple(I:am X ae U H s)(h:cW X.K H a xs):∃j:List Value,ap xs j/\IsTup s.heap a j.toArray/\-xs<=sizeLine:=by
 obtain h|⟨o,j,n,hk,q,hs,D,r⟩:=h
 . let(z,j,r,p):=h.ok I.hok;grind
 . show#[j.toList,r,#[o,I.kIn a o hk,q,n,by simpa using hs],?_];let e:=-r;grind
def am.list_inj(I:am X ae U H s)(h:bY X.K H a xs)(h':bY X.K H a ys):xs=ys:=by
 let(q,r,(o,n,e,_,_,d),_):=I.list h;let(j,F,(o',W,D,_,_,z),_):=I.list h';rw[e]at D;cases D;rw[d]at z;injection z with N _;have:q=j:=by simpa using gs Array.toList N
 subst this;show r.inj F
def am.tuple_inj(I:am X ae U H s)(h:cW X.K H a xs)(h':cW X.K H a ys):xs=ys:=by
 let(q,r,(o,e,_,n,d),_):=I.tuple h;let(j,F,(o',D,_,W,z),_):=I.tuple h';rw[e]at D;cases D;rw[d]at z;injection z with N _;have:q=j:=by simpa using gs Array.toList N
 subst this;show r.inj F
end
noncomputable abbrev Cx.wish (X:Cx) (E:Value->Shared->Prop):Cx:={ X with xe:=E }
abbrev Cx.nox(X:Cx):Cx:=X.wish λ_ _=>False
theorem Cx.Ok.wish{X:Cx}(ok:X.Ok)(E:Value->Shared->Prop):(X.wish E).Ok:=
 #[ok.mod,ok.kind,ok.glob,ok.blt,ok.above,ok.inj,ok.has,ok.cab,ok.hd,ok.frames,ok.stk,ok.exf,ok.bs,ok.bsz,ok.noex,ok.exfs,ok.funs,ok.frf]
def Cx.Ok.unwish{X:Cx}(ok:(X.wish E).Ok):X.Ok:=
 #[ok.mod,ok.kind,ok.glob,ok.blt,ok.above,ok.inj,ok.has,ok.cab,ok.hd,ok.frames,ok.stk,ok.exf,ok.bs,ok.bsz,ok.noex,ok.exfs,ok.funs,ok.frf]
section
variable {X:Cx}{ae:List (Addr×Obj)}{U:St}{H:Hp}{s:Shared}{E:Value->Shared->Prop}
theorem am.wish(I:am X ae U H s)(E:Value->Shared->Prop):am (X.wish E) ae U H s:=#[I.ok.wish E,I.os,I.bare,I.base,I.loc,I.cell,I.free,I.freeC,I.pin,I.hok,I.len]
theorem am.unwish(I:am (X.wish E) ae U H s):am X ae U H s:=#[I.ok.unwish,I.os,I.bare,I.base,I.loc,I.cell,I.free,I.freeC,I.pin,I.hok,I.len]
theorem SP.unwish(h:SP (X.wish E) ae D f s'):SP X ae D f s':=by
 cases f with
 |next=>let(j,H',I,q):=h;show#[j,H',I.unwish,q]
 |brk=>let(j,H',I,q):=h;show#[j,H',I.unwish,q]
 |cont=>let(j,H',I,q):=h;show#[j,H',I.unwish,q]
 |ret u=>let(v,j,H',I,r,q):=h;show#[v,j,H',I.unwish,r,q]
theorem jP.nox{st:List Stmt}(h:jP X.nox st t):jP X st t:=λae s U H D I j=>
 kH (h ae s U H D (I.wish _) j) (λ_ _ q=>q.unwish) λ_ _ z=>False.elim z
end
section
variable {X:Cx}{st:Stmt}{a9:List Stmt}{t u:TS}{e:Expr}{te:TE}{pos:Pos}
def JY:TS:=λD U H=>D.nx U H
def J_(t u:TS):TS:=λD U H=>t { D with nx:=u D } U H
def ZJ:jP X [] JY:=λ_ _ U H _ I h=>wpAny_execs_nil #[U,H,I,h]
def Wh(h1:PS X st t)(h2:jP X a9 u):jP X (st::a9) (J_ t u):=by
 intro ae s U H D I h;show wpAny_execs_cons (dg (h1 ae s U H { D with nx:=u D } I h) λf z q=>?_);cases f with
 |next=>
  let(F,H',j,q):=q;show h2 ae z F H' D j q
 |ret v=>show q
 |brk=>show q
 |cont=>show q
def ZK(h1:PS X st t):jP X [st] t:=by
 intro ae s U H D I h;show wpAny_execs_cons (dg (h1 ae s U H D I h) λf N q=>?_);cases f with
 |next=>show wpAny_execs_nil q
 |ret v=>show q
 |brk=>show q
 |cont=>show q
def am.quiet{U:St}(I:am X ae U H s):interactive X.env=M:=by simp[interactive,I.ok.kind]
def J3(te:TE):TS:=λD U H=>te U H λ_ H1=>D.nx U H1
def qK(he:PE X e te)(hs:swapsWith e J pos.line X.env=pure M:=by rfl):PS X (.Expr e pos) (J3 te):=by intro ae s U H D I h;show wpAny_Expr_any (dg (he ae s U H _ I h) λv i z=>by let(x,H1,j,F,q):=z;show #[U,H1,j,q]) I.quiet hs
def Kb(te:TE):TS:=λD U H=>te U H D.rt
def Tz(he:PE X e te):PS X (.Return (!e) pos) (Kb te):=by intro ae s U H D I h;show wpAny_Return_some (dg (he ae s U H _ I h) λv i z=>by let(x,H1,j,q,F):=z;show #[x,U,H1,j,q,F])
def Ki(c:TT)(t u:TS):TS:=λD U H=>c U H λb H1=>if b=G then t D U H1 else u D U H1
def Kj(z:PT X c tc)(j:jP X a t)(q:jP X b u):PS X (.If c a b pos) (Ki tc t u):=by
 intro ae s U H D I h;show wpAny_If (dg (z ae s U H _ I h) λd i Q=>?_);let(H1,F,N):=Q;cases d with
 |true=>show j ae i U H1 D F N
 |false=>show q ae i U H1 D F N
end
abbrev TG:=V->St->Hp->(St->Hp->Prop)->Prop
abbrev yU:=List V->St->Hp->(St->Hp->Prop)->Prop
def PG(X:Cx)(target:Expr)(t:TG):Prop:=
 ∀(ae:List (Addr×Obj))(s:Shared)(U:St)(H:Hp)(v:V)(u:Value)(Q:St->Hp->Prop),am X ae U H s->aw v u->t v U H Q->
  wpAny (model X.prog X.w) X.A (assign target X.env u) (λ_ s'=>∃U' H',am X ae U' H' s'/\Q U' H') X.xe s
def TQ(X:Cx)(ts:List Expr)(t:yU):Prop:=
 ∀(ae:List (Addr×Obj))(s:Shared)(U:St)(H:Hp)(vs:List V)(us:List Value)(Q:St->Hp->Prop),am X ae U H s->ap vs us->t vs U H Q->
  wpAny (model X.prog X.w) X.A (assignInOrder ((assignEach ts X.env).map (·.2)) us) (λ_ s'=>∃U' H',am X ae U' H' s'/\Q U' H') X.xe s
abbrev Wi:=V->V->V->Hp->(Hp->Prop)->Prop
def Wj(X:Cx)(t:Wi):Prop:=
 ∀(ae:List (Addr×Obj))(s:Shared)(U:St)(H:Hp)(o i v:V)(ov iv u:Value)(Q:Hp->Prop),am X ae U H s->aw o ov->aw i iv->aw v u->t o i v H Q->
  wpAny (model X.prog X.w) X.A (setItem ov iv u) (λ_ s'=>∃H',am X ae U H' s'/\Q H') X.xe s
section
variable {X:Cx}{pos:Pos}
def J4(i:Nat):TG:=λv U H Q=>Q (U.set i (!v)) H
def PB(q:X.N.Nodup)(hi:X.N[i]?=!x)(j:Loc X.env.scope x)(D:X.fn x=G\/X.env.scope.names.lookup x=!.local:=by first |show Zl O |show YY O |assumption):PG X (.Name x pos) (J4 i):=by intro ae s U H v u Q I r h;show wpAny_assign_Name (Kz I q hi j r (λs' z=>#[_,H,z,h]) D)
def AK:yU:=λvs U H Q=>vs=[]/\Q U H
def YJ(t:TG)(u:yU):yU:=λvs U H Q=>∃v r,vs=v::r/\t v U H λU' H'=>u r U' H' Q
def gR:TQ X [] AK:=by intro ae s U H j i Q I r h;let(e,h):=h;show assignInOrder_nil #[U,H,I,h]
def bM(h1:PG X e t)(h2:TQ X es u)
 (hs:(assignEach (e::es) X.env).map (·.2)=assign e X.env::(assignEach es X.env).map (·.2):=by rfl):TQ X (e::es) (YJ t u):=by
 intro ae s U H z D Q I r h;let(v,F,i,h):=h;subst i;cases r with
 |cons r q=>
  rw[hs];show assignInOrder_cons (dg (h1 ae s U H _ _ _ I r h) λ_ j W=>?_);let(U1,H1,N,q1):=W;show h2 ae j U1 H1 _ _ Q N q q1
def Kk(K:FG)(n:Nat)(t:yU):TG:=λv U H Q=>∃a xs,v=.ref a/\cW K H a xs/\-xs=n/\t xs U H Q
def Kn{k:Nat}(hc:X.calm=G)(h:TQ X es t)
 (i:-(assignEach es X.env)=n:=by rfl) (j:(assignEach es X.env).findIdx? (·.1)=J:=by rfl):PG X (.Tuple es k pos) (Kk X.K n t):=by
 intro ae s U H v u Q I r q;let(a,xs,e1,hq,hl,q):=q;subst e1;cases r;let(F,z,W,hz):=I.tuple hq;show assign_Tuple_tuple (I.ok.hd hc) W (by simp[i,<-hl,z.length]) j λh' D=>?_;let N:=I.kept (t':=s.toks) λb o e=>D b o (fw (dQ e)) e;show h ae _ U H xs _ Q N () q
def Wk(to ti:TE)(t:Wi):TG:=λv U H Q=>to U H λo H1=>ti U H1 λi H2=>t o i v H2 λH3=>Q U H3
def Eo(N:PE X o to)(hi:PE X i ti)(hs:Wj X t)
 (z:∀v,assign (.Subscript o i pos) X.env v=(do
   let j <-holding [v] (eval o X.env)
   let q <-holding [v,j] (eval i X.env)
   standAt pos
   holding [v,j,q] (setItem j q v)
   release [v,j,q] []):=by intro _;rfl):PG X (.Subscript o i pos) (Wk to ti t):=by
 intro ae s U H v u Q I r h
 rw[z]
 show al (iE (dg (N ae s U H _ I h) λj F z4=>?_));let(x,H1,I1,r1,q1):=z4
 show al (iE (dg (hi ae F U H1 _ I1 q1) λq D z5=>?_));let(y,H2,I2,r2,q2):=z5
 show al (wpAny_standAt (al (iE (dg (hs ae D U H2 x y v j q u _ I2 r1 r2 r q2) λ_ W z6=>?_))));let(H3,I3,q3):=z6
 show wpAny_release #[U,H3,I3,q3]
def Rz(te:TE)(g:TG):TS:=λD U H=>te U H λx H1=>g x U H1 D.nx
def KH(he:PE X e te)(j:PG X tg g)(hs:swapsWithSole [tg] e pos.line X.env=pure M:=by rfl)(z:swappedStores [tg] e X.env=pure J:=by rfl)
 (h1:(assignEach [tg] X.env).map (·.2)=[assign tg X.env]:=by rfl):PS X (.Assign [tg] e pos) (Rz te g):=by
 intro ae s U H D I h;show wpAny_Assign_stores (dg (he ae s U H _ I h) λv i N=>?_) hs z;let(x,H1,Q,W,q1):=N;rw[h1];show dg (j ae i U H1 x v _ Q W q1) λ_ F q=>q
def Ks(z:X.N.Nodup)(hi:X.N[i]?=!x)(F:Loc X.env.scope x)(he:PE X e te)(hs:swapsWith e (!(.Name x pos')) pos.line X.env=pure M:=by rfl)(j:X.fn x=G\/X.env.scope.names.lookup x=!.local:=by first |show Zl O |show YY O |assumption):
 PS X (.Assign [.Name x pos'] e pos) (Rz te (J4 i)):=by
 intro ae s U H D I h;show wpAny_Assign_Name (dg (he ae s U H _ I h) λv Q Kt=>?_) hs;let(y,H1,I1,r1,q1):=Kt;show Kz I1 z hi F r1 (λW q=>#[_,H1,q,q1]) j
end
structure It where
 go:Nat->Hp->Prop
 yld:Nat->Hp->V->Hp->Prop
 stop:Nat->Hp->Prop
def nJ(X:Cx)(ae:List (Addr×Obj))(H:Hp)(b:Addr):Prop:=
 H b=J/\b≠X.env.locals/\b∉X.fs/\(b∈X.ex\/X.s₀.heap.objs.size<=b)/\(∀x c,X.env.cells.lookup x=!c->c≠b)/\∀p∈X.pn++ae,p.1≠b
def am.fpOk{U:St}{b:Addr}(I:am X c5 U H s)(j: ~~~s.heap.objs<=b)(D:H' b=J):nJ X c5 H' b:=by
 show#[D,j_ (gu I.lt j),I.nofs j,YY (fA I.sz j),λx c e z=>?_,λp F z=>?_]
 . let(v,q):=I.cell x c e;show absurd (gu q.lt ∅) (ly _)
 . show absurd (gu (dQ (I.pin p F).1) ∅) (ly _)
structure hM(P:Program)(w:World)(K:FG)(tg:Expr)(ZU:It)(fp:List Addr)(it:Addr)(tn:Nat->Heap->Prop):Prop where
 mem:it∈fp
 obj:∀i h,tn i h->∀b∈fp,∃o,h.get? b=!o/\∀v,o.data≠.cell v
 keep:∀i h h',tn i h->(∀b∈fp,∀o,h.get? b=!o->h'.get? b=!o)->tn i h'
 item:∀(X:Cx),X.prog=P->X.w=w->X.K=K->X.calm=true->∀(i:Nat)(ae:List (Addr×Obj))(s:Shared)(U:St)(H:Hp)(E:Value->Shared->Prop),am X ae U H s->(∀b∈fp,nJ X ae H b)->tn i s.heap->ZU.go i H->
  wpAny (model P w) X.A (pyNext (.ref it)) (λr s1=>∃u,r=!u/\
   wpAny (model P w) X.A (letOwnedTupleGo tg (.ref it) u) (λ_ s2=>∃x H',am X ae U H' s2/\aw x u/\ZU.yld i H x H'/\tn (i+1) s2.heap/\∀b∈fp,H' b=none) E s1) E s
 done:∀(X:Cx),X.prog=P->X.w=w->X.K=K->X.calm=true->∀(i:Nat)(ae:List (Addr×Obj))(s:Shared)(U:St)(H:Hp)(E:Value->Shared->Prop),am X ae U H s->(∀b∈fp,nJ X ae H b)->tn i s.heap->ZU.stop i H->
  wpAny (model P w) X.A (pyNext (.ref it)) (λr s1=>r=none/\am X ae U H s1) E s
 self:∀(A:Around)(i:Nat)(s:Shared)(Q:Value->Shared->Prop)(E:Value->Shared->Prop),tn i s.heap->Q (.ref it) s->wpAny (model P w) A (pyIter (.ref it)) Q E s
abbrev TI:=St->Hp->(It->Hp->Prop)->Prop
def sk(X:Cx)(ae:List (Addr×Obj))(U:St)(tg:Expr)(ZN:It->Hp->Prop)(sw:Value)(s2:Shared):Prop:=
 ∃(it:Addr)(fp:List Addr)(tn:Nat->Heap->Prop)(ZU:It)(H':Hp),sw=YV it/\am X ae U H' s2/\hM X.prog X.w X.K tg ZU fp it tn/\tn 0 s2.heap/\(∀b∈fp,nJ X ae H' b)/\ZN ZU H'
def PI(X:Cx)(tg iter:Expr)(wi:TI):Prop:=
 ∀(ae:List (Addr×Obj))(s:Shared)(U:St)(H:Hp)(ZN:It->Hp->Prop),am X ae U H s->wi U H ZN->
  wpAny (model X.prog X.w) X.A (eval iter X.env) (λv s1=>wpAny (model X.prog X.w) X.A (pyIter v) (sk X ae U tg ZN) X.xe s1) X.xe s
def RB(q:s.heap.get? it=!o)(z:o.cls=.type n)(D:o.data=.fields vs)
 (F:["enumerate","zip","dict_itemiterator","dict_reverseitemiterator","odict_iterator","itertools.zip_longest","itertools.pairwise"].contains n=M) (j:Q ⟨⟩ s):wpAny ZO A (letOwnedTupleGo tg (YV it) u) Q E s:=by
 cases tg<;>first
  |show a8 j
  | (cases u<;>first
      |show a8 j
      | (show al (wpAny_load q ?_)
         rw[z,D];show wpAny ZO A (if (["enumerate","zip","dict_itemiterator","dict_reverseitemiterator","odict_iterator","itertools.zip_longest","itertools.pairwise"].contains n&&vs[0]?==!(rawInt _))=G then _ else _) Q E s;rw[a_ ∅];show a8 j))
def YK(K:FG)(a:Addr):It:=
 #[λi H=>∃xs x,bY K H a xs/\xs[i]?=!x,λi H x H'=>H'=H/\∀xs,bY K H a xs->xs[i]?=!x,λi H=>∃xs,bY K H a xs/\-xs<=i]
def YL(K:FG)(a:Addr):It:=
 #[λi H=>∃xs x,cW K H a xs/\xs[i]?=!x,λi H x H'=>H'=H/\∀xs,cW K H a xs->xs[i]?=!x,λi H=>∃xs,cW K H a xs/\-xs<=i]
def YM(lo:Int)(n:Nat):It:=#[λi _=>i<n,λi H x H'=>H'=H/\x=.int (lo+i),λi _=>n<=i]
def TV{K:FG}(a q:Addr):hM P w K tg (YK K a) [q] q (λi h=>h.IsListIter q a i) where
 mem:=by simp
 obj:=λi h st b j=>by
  have e:b=q:=by simpa using j
  let(o,e,c,d):=st;grind
 keep:=λi h h' st k=>st.at λo e=>k q (by simp) o e
 item:=by intro X hP hw hK hc i ae s U H E I F st hg;subst hP hw hK;let(xs,x,N,hx):=hg;let(dS,rv,p,hz):=I.list N;let(u,hu,ru):=rv.get hx;let(Q,f1,f2,f3,z,W):=F q (by simp);show wpAny_pyNext_list_item st p.isList (by simpa using hu) λh' D sb=>?_;let I1:=I.turned (t':=s.toks) (λb o j e=>(sb.2 b j).trans e) Q f1 f3 z W;let(o,e,c,d):=id D;show#[u,O,RB e c d () #[x,H,I1,ru,#[O,λys hy=>by rw[I.list_inj hy N];show hx],D,λb j=>(F b j).1]]
 done:=by intro X hP hw hK hc i ae s U H E I F st hg;subst hP hw hK;let(xs,N,hx):=hg;let(dS,rv,p,hz):=I.list N;let(Q,f1,f2,f3,z,W):=F q (by simp);let hl:=-rv;show wpAny_pyNext_list_end (I.ok.hd hc) st p.isList ∅ λh' eb=>#[O,I.turned (λb o j e=>eb b o j e) Q f1 f3 z W]
 self:=λ_ _ _ _ _ st h=>wpAny_pyIter_listiter st h
def RC{K:FG}(a q:Addr):hM P w K tg (YL K a) [q] q (λi h=>h.IsTupleIter q a i) where
 mem:=by simp
 obj:=λi h st b j=>by
  have e:b=q:=by simpa using j
  let(o,e,c,d):=st;grind
 keep:=λi h h' st k=>st.at λo e=>k q (by simp) o e
 item:=by intro X hP hw hK hc i ae s U H E I F st hg;subst hP hw hK;let(xs,x,N,hx):=hg;let(dS,rv,p,hz):=I.tuple N;let(u,hu,ru):=rv.get hx;let(Q,f1,f2,f3,z,W):=F q (by simp);show wpAny_pyNext_tuple_item st (p) (by simpa using hu) λh' D sb=>?_;let I1:=I.turned (t':=s.toks) (λb o j e=>(sb.2 b j).trans e) Q f1 f3 z W;let(o,e,c,d):=id D;show#[u,O,RB e c d () #[x,H,I1,ru,#[O,λys hy=>by rw[I.tuple_inj hy N];show hx],D,λb j=>(F b j).1]]
 done:=by intro X hP hw hK hc i ae s U H E I F st hg;subst hP hw hK;let(xs,N,hx):=hg;let(dS,rv,p,hz):=I.tuple N;let(Q,f1,f2,f3,z,W):=F q (by simp);let hl:=-rv;show wpAny_pyNext_tuple_end (I.ok.hd hc) st (p) ∅ λh' eb=>#[O,I.turned (λb o j e=>eb b o j e) Q f1 f3 z W]
 self:=λ_ _ _ _ _ st h=>wpAny_pyIter_tupleiter st h
def RD{K:FG}(j:Addr)(lo:Int)(n:Nat):hM P w K tg (YM lo n) [j] j (λi h=>IsRangeIter h j (lo+(i:Nat)*1) ((n:Int)-(i:Nat)) 1) where
 mem:=by simp
 obj:=λi h st b q=>by
  have e:b=j:=by simpa using q
  grind
 keep:=λi h h' st k=>k j (by simp) _ st
 item:=by intro X hP hw hK hc i ae s U H E I F st hg;subst hP hw hK;let(N,f1,f2,f3,z,Q):=F j (by simp);let W:=Walks.range (prog:=X.prog) (w:=X.w) (I.ok.hd hc) j lo 1 n;show W.item i s _ _ hg st λv h' tk hv D kk=>?_;let(t,rfl):=hv;show#[_,O,RB (n:="range_iterator") D O O () #[.int (lo+i),H,(I.turned (λb o q e=>kk b o ∅ e) N f1 f3 z Q),#[t,?_],#[O,O],D,λb q=>(F b q).1]];rw[Int.mul_one]
 done:=by intro X hP hw hK hc i ae s U H E I F st hg;let(N,f1,f2,f3,z,Q):=F j (by simp);show wpAny_pyNext_range_end (I.ok.hd hc) st (by have:n<=i:=hg;lia) λh' eb=>#[O,I.turned (λb o q e=>eb b o q e) N f1 f3 z Q]
 self:=λ_ _ _ _ _ st h=>wpAny_pyIter_rangeiter st h
section
variable {X:Cx}{tg:Expr}
def Wl{U:St}{lo hi:Int}(I:am X c5 U H s)(h1:(Neg.neg (2 ^ 62))<=lo)(h2:lo<2 ^ 62)(h3:(Neg.neg (2 ^ 62))<=hi)(h4:hi<2 ^ 62)
 (q:ZN (YM lo (hi-lo).toNat) H):wpAny (model X.prog X.w) X.A (pyIter (YV s.heap.objs.size)) (sk X c5 U tg ZN) E { s with heap:=s.heap.push { cls:=.type "range",data:=.fields (List.toArray [.int lo t,.int hi u,.int 1 v]) },toks:=W }:=by
 show wpAny_pyIter_range (IsRange.new ..) (small_one h1 h2 h3 h4) ?_;have D:am X c5 U H { s with heap:=s.heap.push { cls:=.type "range",data:=.fields (List.toArray [.int lo t,.int hi u,.int 1 v]) },toks:=W }:=I.kept λb o e=>eJ _ e;show#[(s.heap.push { cls:=.type "range",data:=.fields (List.toArray [.int lo t,.int hi u,.int 1 v]) }).objs.size,[(s.heap.push { cls:=.type "range",data:=.fields (List.toArray [.int lo t,.int hi u,.int 1 v]) }).objs.size],_,_,H,O,
  D.kept λb o e=>eJ _ e,RD _ lo (hi-lo).toNat,?_,λb Q=>?_,q]
 . have F:lo+((0:Nat):Int)*1=lo:=by simp
   have N:(((hi-lo).toNat:Nat):Int)-((0:Nat):Int)=Builtin.Range.rangeSize lo hi 1:=by rw[rangeSize_one];split<;>lia
   rw[F,N];show ff _ O
 . have e:b=(s.heap.push { cls:=.type "range",data:=.fields (List.toArray [.int lo t,.int hi u,.int 1 v]) }).objs.size:=by simpa using Q
   subst e;show D.fpOk (dP _) (D.hok.fresh (dP _))
def Kx(ta:TA):TI:=λU H ZN=>ta U H λvs H1=>∃j:Int,vs=[.int j]/\(Neg.neg (2 ^ 62))<=j/\j<2 ^ 62/\ZN (YM 0 j.toNat) H1
def TX(D:Gl X "range")(N:X.mg "range"=J)(z:PA X [a] ta)(hs:starEach [a] X.env=[(M,eval a X.env)]:=by rfl):PI X tg (.Call (.Name "range" p) [a] [] pos) (Kx ta):=by
 intro ae s U H ZN I h;show Call_ (zE I D N boot_range (PyProof.Rows.callWith_type1 (dg (z pos ae s U H _ I h) λus W KD=>?_) hs O));let(vs,H1,I1,r1,i):=KD;let(j,e,i,F,q):=i;subst e;cases r1 with
 |cons r Q=>
  cases Q;let(t,rfl):=r;show call_range_1 (Wl I1 () () i F ∅)
def KG(wi:TI)(g:TG)(tb:TS):TS:=λD U H=>wi U H λZU H1=>∃W:Nat->Nat->St->Hp->Prop,(∃m,W 0 m U H1)/\∀i m U H,W i m U H->
 (ZU.stop i H/\D.nx U H)\/(ZU.go i H/\∃N:St->Hp->Prop,(∀U' H',N U' H'->∃m',m'<m/\W (i+1) m' U' H')/\∀x H',ZU.yld i H x H'->g x U H' λU2 H2=>tb { D with nx:=N,ct:=N,bk:=D.nx } U2 H2)
def zF(fp:List Addr)(h:Heap):List (Addr×Obj):=fp.filterMap λb=>(h.get? b).map λo=>(b,o)
def xU(j:b∈fp)(e:h.get? b=!o):(b,o)∈zF fp h:=kK.mpr #[b,j,by rw[e];rfl]
def TY(j:p∈zF fp h):p.1∈fp/\h.get? p.1=!p.2:=by
 let(b,z,e):=kK.mp j;cases q:h.get? b with
 |none=>grind
 |some o=>
  grind
def am.pinned{U:St}(I:am X ae U H s)(i:∀b∈fp,nJ X ae H b)(D:∀b∈fp,∃o,s.heap.get? b=!o/\∀v,o.data≠.cell v):am X (ae++zF fp s.heap) U H s:=
 I.pins_of λp j=>(d6.mp j).elim (λz=>I.pin p (hZ _ z)) λz=>by let(q,e):=TY z;let(F,N,Q,_):=i p.1 q;grind
def am.unpinned{U:St}(I:am X (c5++pl) U H s):am X c5 U H s:=I.pins_of λp j=>I.pin p ∅
def KI(hp:PassesOwn (model X.prog X.w) X.A X.env X.xe)(hc:X.calm=G)(hi:PI X tg iter wi)(hg:PG X tg g)(F:jP X body tb)
 (hs:∀x,foldedSetIterable iter X.env x=pure x:=by intro _;rfl):PS X (.For tg iter body [] pos) (KG wi g tb):=by
 intro ae s U H D I h;show wpAny_For (dg (hi ae s U H _ I h) λv s1 h1=>dg h1 λsw s2 h2=>?_) hs;let(it,fp,tn,ZU,H2,e,I2,T,kA,f2,W,(m0,w0),turn):=h2;subst e;have Q:∀{H':Hp},(∀b∈fp,H' b=J)->∀b∈fp,nJ X ae H' b:=λhn b F=>#[hn b F,(f2 b F).2];show codeAny_forLoop_any (λn s'=>∃i U' H',am X ae U' H' s'/\tn i s'.heap/\(∀b∈fp,H' b=J)/\W i n U' H') ?_ m0 #[0,U,H2,I2,kA,λb F=>(f2 b F).1,w0];intro n s3 q0;let(i,Vw,H3,I3,m5,AL,w3):=q0;obtain⟨stop,qn⟩|⟨go,N,hN,step⟩:=turn i n Vw H3 w3
 . show wpAny_passesOwn hp (dg (T.done X O O O hc i ae s3 Vw H3 X.xe I3 (Q AL) m5 stop) λr s4 z7=>?_);let(hr,I4):=z7;subst hr;show wpAny_execs_nil #[Vw,H3,I4,qn]
 . show wpAny_passesOwn hp (dg (T.item X O O O hc i ae s3 Vw H3 X.xe I3 (Q AL) m5 go) λr s4 z8=>?_);let(u,hr,h4):=z8;subst hr;show wpAny_passesOwn hp (dg h4 λ_ s5 z9=>?_);let(x,H5,I5,r5,y5,m6,vx):=z9;let KL:=I5.pinned (Q vx) (T.obj _ _ m6);show wpAny_passesOwn hp (dg (hg _ s5 Vw H5 x u _ KL r5 (step x H5 y5)) λ_ s6 vE=>?_);let(Vz,H6,I6,q6):=vE;show wpAny_passesOwn hp (dg (F _ s6 Vz H6 _ I6 q6) λf s7 q7=>?_);have q:∀{z:St}{H7:Hp},am X (ae++zF fp s5.heap) z H7 s7->N z H7->∃m,m<n/\∃i U' H',am X ae U' H' s7/\tn i s7.heap/\(∀b∈fp,H' b=J)/\W i m U' H':=λ{z H7} j n7=>by let(m',hm,w7):=hN z H7 n7;show#[m',hm,i+1,z,H7,j.unpinned,T.keep _ _ _ m6 λb F o e=>(j.pin (b,o) (hZ _ (hZ _ (xU F e)))).1,λb F=>?_,w7];let(o,e,d):=T.obj _ _ m6 b F;show(j.pin (b,o) (hZ _ (hZ _ (xU F e)))).2.1
   cases f with
   |next=>let(z,H7,j,n7):=q7;show q j n7
   |cont=>let(z,H7,j,n7):=q7;show q j n7
   |brk=>let(z,H7,j,q7):=q7;show#[z,H7,j.unpinned,q7]
   |ret v=>let(x7,z,H7,j,r7,q7):=q7;show#[x7,z,H7,j.unpinned,r7,q7]
end
abbrev R2:=V->V->Hp->VK->Prop
def ju(X:Cx)(f:Value->Value->Sem Value)(r:R2):Prop:=
 ∀(ae:List (Addr×Obj))(s:Shared)(U:St)(H:Hp)(x y:V)(v u:Value)(Q:VK),am X ae U H s->aw x v->aw y u->r x y H Q->
  wpAny (model X.prog X.w) X.A (f v u) (EP X ae U Q) X.xe s
def vF(X:Cx)(f:Value->Sem Value)(r:V->Hp->VK->Prop):Prop:=
 ∀(ae:List (Addr×Obj))(s:Shared)(U:St)(H:Hp)(x:V)(v:Value)(Q:VK),am X ae U H s->aw x v->r x H Q->
  wpAny (model X.prog X.w) X.A (f v) (EP X ae U Q) X.xe s
def lO(X:Cx)(f:Value)(r:List V->Hp->VK->Prop):Prop:=
 ∀(ae:List (Addr×Obj))(s:Shared)(U:St)(H:Hp)(xs:List V)(us:List Value)(Q:VK),am X ae U H s->ap xs us->r xs H Q->
  wpAny (model X.prog X.w) X.A (call f us) (EP X ae U Q) X.xe s
def KO(X:Cx)(r:V->Hp->(Bool->Hp->Prop)->Prop):Prop:=
 ∀(ae:List (Addr×Obj))(s:Shared)(U:St)(H:Hp)(x:V)(v:Value)(Q:Bool->Hp->Prop),am X ae U H s->aw x v->r x H Q->
  wpAny (model X.prog X.w) X.A (truthy v) (TP X ae U Q) X.xe s
def T3(r:R2)(ta tb:TE):TE:=λU H Q=>ta U H λx H1=>tb U H1 λy H2=>r x y H2 Q
def KP(r:V->Hp->VK->Prop)(ta:TE):TE:=λU H Q=>ta U H λx H1=>r x H1 Q
def rI(C:Int->Int->Prop)(g:Int->Int->V):R2:=λx y H Q=>∃i j,x=.int i/\y=.int j/\C i j/\Q (g i j) H
def zG(g:Int->Int->V):R2:=λx y H Q=>∃i j,x=.int i/\y=.int j/\Q (g i j) H
def rU(g:Int->V):V->Hp->VK->Prop:=λx H Q=>∃i,x=.int i/\Q (g i) H
section
variable {X:Cx}{a b c:Expr}{ta tb tc:TE}{pos:Pos}
def Wm(j:PE X a ta)(D:PE X b tb){U:St}{ZN:V->V->Hp->Prop}(I:am X c5 U H s)
 (h:ta U H λx H1=>tb U H1 λy H2=>ZN x y H2) {f:Value->Value->Sem Value}
 (N:∀v u i x y H2,am X c5 U H2 i->aw x v->aw y u->ZN x y H2->wpAny (model X.prog X.w) X.A (f v u) Q X.xe i):
 wpAny (model X.prog X.w) X.A (eval a X.env) (λv q=>wpAny (model X.prog X.w) X.A (eval b X.env) (λu F=>wpAny (model X.prog X.w) X.A (f v u) Q X.xe F) X.xe q) X.xe s:=by
 show dg (j c5 s U H _ I h) λv z vM=>?_;let(x,H1,I1,r1,q1):=vM;show dg (D c5 z U H1 _ I1 q1) λu i W=>?_;let(y,H2,I2,r2,q2):=W;grind
def KS(N:ju X (binaryOp op) r)(i:PE X a ta)(W:PE X b tb):PE X (.BinOp a op b pos) (T3 r ta tb):=by intro ae s U H Q I h;show wpAny_BinOp (Wm i W I h λv u D x y H2 j F z q=>N ae D U H2 x y v u Q j F z q)
def KU(q:vF X (unaryOp op) r)(i:PE X a ta):PE X (.UnaryOp op a pos) (KP r ta):=by intro ae s U H Q I h;show UnaryOp_ (dg (i ae s U H _ I h) λv j z=>by let(x,H1,D,F,N):=z;show q ae j U H1 x v Q D F N)
def YQ{g:Int->Int->Int}
 (rule:∀(i j:Int)(t u:Tok)(s:Shared)(Q:Value->Shared->Prop)(E:Value->Shared->Prop),C i j->Q (.int (g i j) s.toks) { s with toks:=s.toks+1 }->wpAny (model X.prog X.w) X.A (f (.int i t) (.int j u)) Q E s):
 ju X f (rI C λi j=>.int (g i j)):=by
 intro ae s U H x y v u Q I W ry h;let(i,j,rfl,rfl,N,q):=h;let(t,rfl):=W;let(t',rfl):=ry;show rule i j t t' s _ _ N #[.int (g i j),H,I.tok _,#[_,O],q]
def AM{g:Int->Int->Int}
 (rule:∀(i j:Int)(t u:Tok)(s:Shared)(Q:Value->Shared->Prop)(E:Value->Shared->Prop),Q (.int (g i j) s.toks) { s with toks:=s.toks+1 }->wpAny (model X.prog X.w) X.A (f (.int i t) (.int j u)) Q E s):
 ju X f (zG λi j=>.int (g i j)):=by
 intro ae s U H x y v u Q I N W h;let(i,j,rfl,rfl,q):=h;let(t,rfl):=N;let(t',rfl):=W;show rule i j t t' s _ _ #[.int (g i j),H,I.tok _,#[_,O],q]
def AN{g:Int->Int->Bool}
 (rule:∀(i j:Int)(t u:Tok)(s:Shared)(Q:Value->Shared->Prop)(E:Value->Shared->Prop),Q (.bool (g i j)) s->wpAny (model X.prog X.w) X.A (f (.int i t) (.int j u)) Q E s):
 ju X f (zG λi j=>.bl (g i j)):=by
 intro ae s U H x y v u Q I z D h;let(i,j,rfl,rfl,q):=h;let(t,rfl):=z;let(F,rfl):=D;show rule i j t F s _ _ #[.bl (g i j),H,I,O,q]
def AO(i j:Int):Prop:=0<j/\j<1073741824
def AQ(i j:Int):Prop:=0<=j/\j<=1000000/\i.natAbs<2 ^ 64
def RG(i j:Int):Prop:=((Neg.neg (2 ^ 64))<i/\i<2 ^ 64)\/((Neg.neg (2 ^ 64))<j/\j<2 ^ 64)
def RG.ok(h:RG i j):IntMulOk i j:=by
 obtain⟨h1,h2⟩|⟨h1,h2⟩:=h
 . show .of_left (intBits_le_64 h1 h2)
 . show .of_right (intBits_le_64 h1 h2)
def KW:ju X (binaryOp .Add) (zG λi j=>.int (i+j)):=AM λ_ _ _ _ _ _ _ q=>add_int q
def T4:ju X (binaryOp .Sub) (zG λi j=>.int (i-j)):=AM λ_ _ _ _ _ _ _ q=>sub_int q
def nP:ju X (binaryOp .Mult) (rI RG λi j=>.int (i*j)):=YQ λ_ _ _ _ _ _ _ z q=>mul_int q z.ok
def dM:ju X (binaryOp .FloorDiv) (rI AO λi j=>.int (i/j)):=YQ λi j _ _ _ _ _ z q=>by let h1:=z.1;let h2:=z.2;show floordiv_int () ∅ (Zl (PyProof.noPylong_small ()))
def cg:ju X (binaryOp .Mod) (rI (λ_ j=>0<j) λi j=>.int (i%j)):=YQ λi j _ _ _ _ _ z q=>by let h1:=z;show mod_int' () ∅
def K0:ju X (binaryOp .Pow) (rI AQ λi j=>.int (i ^ j.toNat)):=YQ λ_ _ _ _ _ _ _ z q=>pow_int_small z.1 z.2.1 z.2.2 q
def K2{g:Int->Int}
 (rule:∀(i:Int)(t:Tok)(s:Shared)(Q:Value->Shared->Prop)(E:Value->Shared->Prop),Q (.int (g i) s.toks) { s with toks:=s.toks+1 }->wpAny (model X.prog X.w) X.A (f (.int i t)) Q E s):
 vF X f (rU λi=>.int (g i)):=by
 intro ae s U H x v Q I F h;let(i,rfl,q):=h;let(t,rfl):=F;show rule i t s _ _ #[.int (g i),H,I.tok _,#[_,O],q]
def K_:vF X (unaryOp .USub) (rU λi=>.int ((Neg.neg i))):=K2 λ_ _ _ _ _ q=>neg_int q
end
noncomputable def scal:V->V->Bool
 |.non,.non=>G |.non,.int _=>G |.int _,.non=>G |.non,.bl _=>G |.bl _,.non=>G |.non,.str _=>G |.str _,.non=>G
 |.int _,.int _=>G |.bl _,.bl _=>G |.str _,.str _=>G |.byt _,.byt _=>G
 |.int _,.str _=>G |.str _,.int _=>G |.bl _,.str _=>G |.str _,.bl _=>G
 |_,_=>M
section
variable {X:Cx}{a b c:Expr}{ta tb tc:TE}{pos:Pos}
def T5{U:St}(I:am X ae U H s)(q:Q (.bl k) H)(e:k=k'):EP X ae U Q (.bool k') s:=by subst e;show#[.bl k,H,I,O,q]
def YS:ju X (compareOp .Lt) (zG λi j=>.bl (decide (i<j))):=AN λ_ _ _ _ _ _ _ q=>lt_int q
def pL:ju X (compareOp .Gt) (zG λi j=>.bl (decide (j<i))):=AN λ_ _ _ _ _ _ _ q=>gt_int q
def T6:ju X (compareOp .In) (λx y H Q=>∃i j,x=.str i/\y=.str j/\Q (.bl (not (nz j i 0 (-j) 1).isEmpty)) H):=by intro ae s U H x y v u Q I z D h;let(i,j,rfl,rfl,q):=h;let(t,rfl):=z;let(F,rfl):=D;show in_str (T5 I q O)
def T7:ju X (compareOp .Is) (λx y H Q=>y=.non/\Q (.bl (decide (x=.non))) H):=by
 intro ae s U H x y v u Q I j z h;let(rfl,q):=h;cases z;show is_none_gen (T5 I q ?_);cases x<;>first
  |(cases j;rfl)
  |(let(t,rfl):=j;rfl)
def ju.or(h:ju X f r)(h':ju X f r'):ju X f (λx y H Q=>r x y H Q\/r' x y H Q):=by
 intro ae s U H x y v u Q I z j q;obtain q|q:=q
 . show h ae s U H x y v u Q I z j q
 . show h' ae s U H x y v u Q I z j q
def bA(b:Expr)(h:op≠.In:=by decide)(h2:op≠.NotIn:=by decide):behindInMarks op b=M:=by
 have q:(op==CmpOp.In)=M:=by cases op<;>first |rfl |show absurd O h
 have j:(op==CmpOp.NotIn)=M:=by cases op<;>first |rfl |show absurd O h2
 cases b<;>simp[behindInMarks,q,j]
def ZL(N:ju X (compareOp op) r)(i:PE X a ta)(W:PE X b tb)(hm:behindInMarks op b=M):PE X (.Compare a [op] [b] pos) (T3 r ta tb):=by intro ae s U H Q I h;show wpAny_Compare1 (Wm i W I h λv u D x y H2 j F z q=>N ae D U H2 x y v u Q j F z q) hm
def YT(t:TE):TT:=λU H Q=>t U H λx H'=>∃k,x=.bl k/\Q k H'
def ZM(q:ju X (compareOp op) r)(i:PE X a ta)(D:PE X b tb)(N:behindInMarks op b=M):PT X (.Compare a [op] [b] pos) (YT (T3 r ta tb)):=by
 intro ae s U H Q I h;show wpAny_isTrue_Compare1 (dg (i ae s U H _ I h) λv j ⟨x,H1,I1,r1,q1⟩=>dg (D ae j U H1 _ I1 q1) λu F ⟨y,H2,I2,r2,q2⟩=>
  dg (q ae F U H2 x y v u _ I2 r1 r2 q2) λc W ⟨z,H3,I3,r3,k,e,q3⟩=>?_) N
 subst e;cases r3;show wpAny_truthy_bool #[H3,I3,q3]
def Wn(K:FG)(x:V)(H:Hp)(k:Bool):Prop:=
 match x with
 |.non=>k=M
 |.bl b=>k=b
 |.int i=>k=(i != 0)
 |.str y=>-y<=sizeLine/\k=((-y:Int) != 0)
 |.byt y=> ~~~y<=sizeLine/\k=((~~~y:Int) != 0)
 |.ref p=>(∃xs,bY K H p xs/\k=not xs.isEmpty)\/(∃xs,cW K H p xs/\k=not xs.isEmpty)\/∃ay,H p=!(.dK ay)/\k=not ay.isEmpty
 |_=>False
def RJ(r:KV ay vs):(not vs.isEmpty)=not ay.isEmpty:=by cases r<;>rfl
def Ep(r:ap xs dS):(not dS.toArray.isEmpty)=not xs.isEmpty:=by cases r<;>simp
def wy:(sizeLine:Nat)<2 ^ 63:=by  decide
def Ll:KO X (λx H Q=>∃k,Wn X.K x H k/\Q k H):=by
 intro ae s U H x v Q I D h;let(k,e,q):=h;let hs:=hG;cases x with
 |non=>
  cases D;let j:=e;subst j;show truthy_none #[H,I,q]
 |bl b=>
  cases D;let j:=e;subst j;show wpAny_truthy_bool #[H,I,q]
 |int i=>
  let(t,rfl):=D;let j:=e;subst j;show PySem.P.truthy_int #[H,I,q]
 |str y=>
  let(t,rfl):=D;obtain⟨hy,j⟩:-y<=sizeLine/\k=((-y:Int) != 0):=e;subst j;show PySem.P.truthy_str () #[H,I.tok _,q]
 |byt y=>
  let(t,rfl):=D;obtain⟨hy,j⟩: ~~~y<=sizeLine/\k=((~~~y:Int) != 0):=e;subst j;show W.truthy_bytes () #[H,I.tok _,q]
 |ref p=>
  cases D;let j:=e;obtain⟨xs,N,j⟩|⟨xs,N,j⟩|⟨F,N,j⟩:=j
  . subst j;let(dS,r,pl,hz):=I.list N;let z:=-r;show wpAny_truthy_list pl.isList ∅ #[H,I.tok _,by rw[Ep r];show q]
  . subst j;let(dS,r,pl,hz):=I.tuple N;let z:=-r;show truthy_tuple pl ∅ #[H,I.tok _,by rw[Ep r];show q]
  . subst j;obtain⟨hz,hS,vs,r,m⟩:-F<=sizeLine/\(p==sysModules)=M/\∃vs,KV F vs/\s.heap.DictOf (fW X.prog X.w) p vs:=I.hok p _ N;let z:=Paired.length r;show wpAny_truthy_dict hS m () #[H,I.tok _,by rw[RJ r];show q]
 |_=>show(e).elim
def Wo(j:PE X a ta)(he:∀i,isTrue a X.env i=(do let v <-i;standAt a.pos;holding [v] (truthy v))):
 PT X a (λU H Q=>ta U H λx H'=>∃k,Wn X.K x H' k/\Q k H'):=by
 intro ae s U H Q I h;show isTrue_plain (dg (j ae s U H _ I h) λv q z=>by let(x,H1,D,F,N):=z;show Ll ae q U H1 x v Q D F N) (he _)
def RK:ju X (binaryOp .Add) (λx y H Q=>∃i j,x=.str i/\y=.str j/\-i+-j<=sizeLine/\Q (.str (i++j)) H):=by intro ae s U H x y v u Q I F z h;let(i,j,rfl,rfl,D,q):=h;let(t,rfl):=F;let(N,rfl):=z;show add_str (λN W=>#[.str (i++j),H,I.tok _,#[_,O],q]) D
def fm(r:ap [x] us):∃u,us=[u]/\aw x u:=by
 cases r with
 |cons q j=>cases j;grind
def pj(r:ap [x,y] us):∃u j,us=[u,j]/\aw x u/\aw y j:=by
 cases r with
 |cons z r2=>
  cases r2 with
  |cons D F=>cases F;show#[_,_,O,z,D]
def uI:lO X (.type "str") (λxs H Q=>∃i,xs=[.int i]/\i.natAbs.log2<1920/\Q (.str (toString i)) H):=by intro ae s U H xs z Q I r h;let(i,rfl,j,q):=h;let(u,rfl,t,rfl):=fm r;show PySem.P.str_of_int j #[.str _,H,I.tok _,#[_,O],q]
def Wq(K:FG)(x:V)(H:Hp)(n:Nat):Prop:=
 match x with
 |.str y=>-y<=sizeLine/\n=-y
 |.byt y=> ~~~y<=sizeLine/\n= ~~~y
 |.ref p=>(∃xs,bY K H p xs/\n=-xs)\/∃xs,cW K H p xs/\n=-xs
 |_=>False
def uJ:lO X (.builtin "len") (λxs H Q=>∃x n,xs=[x]/\Wq X.K x H n/\Q (.int n) H):=by
 intro ae s U H xs us Q I r h;let(x,n,rfl,e,q):=h;let(u,rfl,F):=fm r;let hs:=hG;cases x with
 |str y=>
  let(t,rfl):=F;obtain⟨hy,j⟩:-y<=sizeLine/\ n=-y:=e;subst j;show len_str () #[.int _,H,I.tok _,#[_,O],q]
 |byt y=>
  let(t,rfl):=F;obtain⟨hy,j⟩: ~~~y<=sizeLine/\ n= ~~~y:=e;subst j;show W.len_bytes () #[.int _,H,I.tok _,#[_,O],q]
 |ref p=>
  cases F;let j:=e;obtain⟨xs,z,j⟩|⟨xs,z,j⟩:=j
  . subst j;let(D,N,pl,hz):=I.list z;let i:=-N;show Calls.call_len_list pl.isList ∅ #[.int (-xs),H,I.tok _,#[_,by simp only[gL];rw[i]],q]
  . subst j;let(D,N,pl,hz):=I.tuple z;let i:=-N;show len_tuple pl ∅ #[.int (-xs),H,I.tok _,#[_,by simp only[gL];rw[i]],q]
 |_=>show(e).elim
end
structure Dj(h:Heap)(x dx C:Addr)(mA:Str->Option Value):Prop where
 obj:h.get? x=!(W.instObj C dx)
 ns:h.Ns1 dx mA
 ne:dx≠x
def T8{h:Heap}(n:h.Ns1 dx mA):∃j,h.get? dx=!j/\∀name,W.lookIn name j=!(mA name):=by
 let(o,es,ep,F,D,hk,_,N):=n;show#[o,F,λname=>?_];let e:=N name;unfold nsFind findBy at e;unfold W.lookIn;rw[D];dsimp only;split
 . grind
 . have a:es.toList.any (·.refKey)=M:=by rw[any_eq_false];intro y hy;let(z,t,i):=hk y ∅;simp[DictEntry.refKey,i]
   have Q:¬ es.toList.any (·.refKey)=G:=by rw[a];show lv
   grind
def Dj.look(I:Dj h x dx C mA):∃j,W.InstAt h x (W.instObj C dx) C (!j)/\∀name,W.lookIn name j=!(mA name):=
 let #[j,ho,hl]:=T8 I.ns
 #[j,#[I.obj,O,O,ho],hl]
section
variable {prog:Program}{w:World}{A:Around}{E:Value->Shared->Prop}{s:Shared}{K:FG}{x dx C f:Addr}{mA:Str->Option Value}{name:Str}{v:Value}
def ZP(X:K.In s.heap)(I:Dj s.heap x dx C mA)(z:W.plainGet K C name=G)(F:W.hasDictIn K C=G)
 (q:W.findIn K (YV C) name=!J) (N:mA name=!v) (i:W.handedIn v=G) (h:Q v { s with toks:=s.toks+1 }):
 wpAny (model prog w) A (getAttr (YV x) name expr) Q E s:=by
 let(od,D,hl):=I.look;show W.get_value X D (W.plainGet_of z).1 (W.findObj_own F q O ∅) i h
def Wr(X:K.In s.heap)(I:Dj s.heap x dx C mA)(i:W.plainGet K C name=G)
 (j:W.findIn K (YV C) name=!(!(YV f))) (N:W.isFn K (YV f)=G) (q:mA name=J) (h:Q (YV f,[YV x]) s):
 wpAny (model prog w) A (getMethod (YV x) name pl) Q E s:=by
 let(F,z,D):=I.look;show W.method_fn X z (W.plainGet_of i).1 (W.plainGet_of i).2 j (beq_iff_eq.mp N) (by show (W.lookIn name F).map (·.isSome)=!M;rw[D,q];rfl) h
def ZQ(X:K.In s.heap)(I:Dj s.heap x dx C mA)
 (hs:W.findIn K (YV C) "__setattr__"=!(!(.builtin "object.__setattr__"))) (hp:W.plainOver K C=G) (ht:W.takerIn K C name=!J) (hh:W.hasDictIn K C=G)
 (hw:PySem.Within mA ns) (gX:-ns<=sizeLine)
 (h:∀h',Dj h' x dx C (λy=>if y=name then !v else mA y)->Heap.SameBut dx s.heap h'->Q ⟨⟩ { s with heap:=h',toks:=s.toks+2 }):
 wpAny (model prog w) A (setAttr (YV x) name v) Q E s:=by
 let(od,ZU,hl):=I.look;show W.set_plain X ZU hs (W.osa_open X ZU hp ht λb=>?_);let(cd,hc,D):=W.any_some hh;let hx:=I.obj;show al (a8 (al (al (wpAny_loadPart hx (al (W.Looks.here (W.looks_clsIn X hc) ?_))))));rw[D];show a8 (al (a8 (al ?_)));show wpAny_nsSet1 I.ns λh' j q=>?_;let(oD,esD,epD,F,z,hcD):=j.count (PySem.Within.cons name v hw);show al (wpAny_lookBehind F (by rw[z];show pastItsLine_dict ∅) ?_);show a8 (h _ #[(q.2 _ (Ne.symm I.ne)).trans I.obj,j,I.ne] q)
def Ws(X:K.In s.heap)(z:W.makesIn K C=G)
 (hi:W.findIn K (YV C) "__init__"=!(!(YV f))) (D:W.typeIn K (YV f)=!(.type "function"))
 (h:codeAny (model prog w) (A.under (.builtin "type.__call__" #[YV C::vs,kw])) (.call (YV f) #[YV (~~~s.heap.objs+1)::vs,kw]) (W.InitBack (~~~s.heap.objs+1) ZN)
   { s with heap:=(s.heap.push W.emptyDict).push (W.instObj C s.heap.objs.size) }):
 codeAny (model prog w) A (.call (YV C) #[vs,kw]) ZN s:=by
 show W.make_core (W.makes_of X z) (W.looks_findIn X hi) (λj=>W.bind_fn X j D) (Zl O) h
end
noncomputable def jz (f:Str) (v:V):List (Str×V)->List (Str×V)
 |[]=>[(f,v)]
 |(g,x)::r=>if g=f then (g,v)::r else (g,x)::jz f v r
theorem CJ(f g:Str)(v:V):∀fs:List (Str×V),(jz f v fs).lookup g=if g=f then !v else fs.lookup g
 |[]=>by
  show lookup g [(f,v)]=_;by_cases h:g=f
  . grind
  . grind
 |(k,x)::r=>by
  let i:=CJ f g v r;rw[show jz f v ((k,x)::r)=(if k=f then (k,v)::r else (k,x)::jz f v r) from O];by_cases hk:k=f
  . by_cases h:g=k
    . grind
    . grind
  . by_cases h:g=k
    . grind
    . grind
theorem zH(f:Str)(v:V):∀fs:List (Str×V),f∈(jz f v fs).map (·.1)/\∀g,g∈fs.map (·.1)->g∈(jz f v fs).map (·.1)
 |[]=>#[by simp[jz],λg h=>by simp at h]
 |(k,x)::r=>by
  let(j,q):=zH f v r;rw[show jz f v ((k,x)::r)=(if k=f then (k,v)::r else (k,x)::jz f v r) from O];by_cases hk:k=f
  . grind
  . rw[a_ hk];show#[?_,λg h=>?_]
    . grind
    . obtain e|e:=bh.mp h
      . grind
      . grind
theorem CK(f:Str)(v:V):∀fs:List (Str×V),-(jz f v fs)<=-fs+1
 |[]=>by simp[jz]
 |(k,x)::r=>by
  let j:=CK f v r;rw[show jz f v ((k,x)::r)=(if k=f then (k,v)::r else (k,x)::jz f v r) from O];by_cases hk:k=f
  . grind
  . grind
def nH.some_of(r:nH (!v) o):∃u,o=!u/\aw v u:=by
 cases o with
 |none=>show(r).elim
 |some u=>show#[u,O,r]
def nH.none_of(r:nH J o):o=J:=by
 cases o with
 |none=>rfl
 |some u=>show(r).elim
def T9(r:aw v u):W.handedIn u=G:=by
 cases v with
 |non=>cases (r);rfl
 |bl b=>cases (r);rfl
 |int i=>let(t,e):=(r);cases e;rfl
 |str x=>let(t,e):=(r);cases e;rfl
 |byt b=>let(t,e):=(r);cases e;rfl
 |flt b=>let(t,e):=(r);cases e;rfl
 |ref a=>cases (r);rfl
 |ty n=>cases (r);rfl
section
variable {P:Program}{w:World}{H H':Hp}{h h':Heap}{a C dx:Addr}{fs gE:List (Str×V)}
def GJ(j:jm P w H h)(e:H a=!(.ins C dx fs)):∃mA,Dj h a dx C mA/\(∀f,nH (fs.lookup f) (mA f))/\PySem.Within mA (fs.map (·.1))/\-fs<=1000/\H dx=!(.own a):=by let(d,z,ne,D,mA,n,r,q):=(j a _ e);show#[mA,#[D,n,ne],r,q,z,d]
end
structure zJ(K:FG)(C:Addr):Prop where
 pg:W.plainGet K C Str.empty=true
 hd:W.hasDictIn K C=true
 po:W.plainOver K C=true
 sa:W.findIn K (.ref C) "__setattr__"=!(!(.builtin "object.__setattr__"))
def zJ.get{K:FG}(c:zJ K C)(f:Str):W.plainGet K C f=G:=c.pg
def kW(K:FG)(C:Addr)(f:Str):Prop:=W.findIn K (YV C) f=!J
def kW.taker{K:FG}(n:kW K C f):W.takerIn K C f=!J:=by unfold W.takerIn;rw[show W.findIn K (YV C) f=some J from n];rfl
structure kR(K:FG)(C:Addr)(m:Str)(f:Addr):Prop where
 at_:W.findIn K (.ref C) m=!(!(.ref f))
 fn:W.isFn K (.ref f)=true
 kp:W.keepIn K (.ref f)=true
section
variable {X:Cx}{ae:List (Addr×Obj)}{U:St}{H:Hp}{s:Shared}{a C dx:Addr}{fs:List (Str×V)}{f:Str}{v:V}{A:Around}{E:Value->Shared->Prop}
def RM(I:am X ae U H s)(e:H a=!(.ins C dx fs))(c:zJ X.K C)(n:kW X.K C f)(l:fs.lookup f=!v)
 (h:∀u s',am X ae U H s'->aw v u->Q u s'):wpAny (model X.prog X.w) A (getAttr (YV a) f b) Q E s:=by
 let(mA,q,r,_):=GJ I.hok e;let(u,z,j):=nH.some_of (by rw[<-l];show r f);show ZP I.kIn q (c.get f) c.hd n z (T9 j) (h u _ (I.tok _) j)
def xV(I:am X ae U H s)(e:H a=!(.ins C dx fs))(c:zJ X.K C)(k:kR X.K C m g)(l:fs.lookup m=J)
 (h:Q (YV g,[YV a]) s):wpAny (model X.prog X.w) A (getMethod (YV a) m pl) Q E s:=by
 let(mA,j,r,_):=GJ I.hok e;let q:=nH.none_of (by rw[<-l];show r m);show Wr I.kIn j (c.get m) k.at_ k.fn q h
def RN(I:am X ae U H s)(e:H a=!(.ins C dx fs))(c:zJ X.K C)(n:kW X.K C f)(hl:-fs<1000)(W:aw y u)
 (h:∀s',am X ae U (aI H a (.ins C dx (jz f y fs))) s'->Q ⟨⟩ s'):wpAny (model X.prog X.w) A (setAttr (YV a) f u) Q E s:=by
 let(mA,i,r,D,_,F):=GJ I.hok e;have hz:-(fs.map (·.1))<=sizeLine:=by rw[da,hG];lia
 show ZQ I.kIn i c.sa c.po n.taker c.hd D hz λh' j sb=>h _ ?_;have hd:∃o,h'.get? dx=!o:=let #[o,_,_,e',_]:=j.ns;#[o,e'];show I.write (by rw[e];show i7) (YY F) (λb q hb z=>(sb.2 b hb).trans z) hd ?_;show#[by rw[cV i.ne];show F,?_,i.ne,j.obj,_,j.ns,λg=>?_,λg N=>?_]
 . have:=CK f y fs;lia
 . rw[CJ];by_cases q:g=f
   . rw[ax q,ax q];show W
   . grind
 . by_cases q:g=f
   . rw[q];show(zH f y fs).1
   . show(zH f y fs).2 g (D g λz=>N ?_);grind
def am.made(I:am X ae U H s):am X ae U (aI (aI H s.heap.objs.size (.own (~~~s.heap.objs+1))) (~~~s.heap.objs+1) (.ins C s.heap.objs.size []))
 { s with heap:=(s.heap.push W.emptyDict).push (W.instObj C s.heap.objs.size) }:=by
 have z:(s.heap.push W.emptyDict).get? s.heap.objs.size=!W.emptyDict:=ff s.heap O;have j:((s.heap.push W.emptyDict).push (W.instObj C s.heap.objs.size)).get? (~~~s.heap.objs+1)=!(W.instObj C s.heap.objs.size):=by
  have:=ff (s.heap.push W.emptyDict) (o:=W.instObj C s.heap.objs.size) O
  grind
 let F:=I.laid (o:=.own (~~~s.heap.objs+1)) (t':=s.toks) (λb u q=>eJ _ q) () #[_,z];show F.laid (λb u q=>eJ _ q) () ?_;have ne: ~~~s.heap.objs≠s.heap.objs.size+1:=fw ();show#[by rw[cV ne,bZ],gz _,ne,j,λ_=>J,(Heap.Ns1.of_empty #[W.emptyDict,#[],_,z,O,(λe N=>absurd N (by simp)),λ_=>O]).at λo q=>eJ _ q,λ_=>True.intro,λy D=>absurd O D]
def ZR(q:attributeBase e f env (eval e env)=eval e env)
 (h:wpAny (model prog w) A (eval e env) (λo j=>wpAny (model prog w) A (getAttr o f G) Q E j) E s):wpAny (model prog w) A (eval (.Attribute e f pos) env) Q E s:=
 Attribute_any_ h (by rw[arm_eval_Attribute,q])
end
def Lm(K:FG)(ta:TE)(f:Str):TE:=λU H Q=>ta U H λx H1=>∃a C dx fs v,x=.ref a/\H1 a=!(.ins C dx fs)/\zJ K C/\kW K C f/\fs.lookup f=!v/\Q v H1
def Lo(K:FG)(ta tv:TE)(f:Str):TS:=λD U H=>tv U H λy H1=>ta U H1 λx H2=>∃a C dx fs,x=.ref a/\H2 a=!(.ins C dx fs)/\zJ K C/\kW K C f/\-fs<1000/\
 D.nx U (aI H2 a (.ins C dx (jz f y fs)))
section
variable {X:Cx}{o e value:Expr}{f:Str}{pos pos' tpos:Pos}{ta tv:TE}
def Lu(he:PE X e ta)(j:attributeBase e f X.env (eval e X.env)=eval e X.env):PE X (.Attribute e f pos) (Lm X.K ta f):=by intro ae s U H Q I h;show ZR j (dg (he ae s U H _ I h) λu D W=>?_);let(x,H1,I1,rx,a,C,dx,fs,v,ex,ea,c,n,l,q):=W;subst ex;obtain rfl:u=Value.ref a:=rx;show RM I1 ea c n l λF N i z=>#[v,H1,i,z,q]
def Lv(i:PE X o ta)(F:PE X value tv)(hs:swapsWith value (!(.Attribute o f pos')) pos.line X.env=pure M):PS X (.Assign [.Attribute o f pos'] value pos) (Lo X.K ta tv f):=by intro ae s U H D I h;show plainObj_wpAny_Assign_Attribute (dg (F ae s U H _ I h) λu z vS=>?_) hs;let(y,H1,I1,ry,q):=vS;show dg (i ae z U H1 _ I1 q) λN W LA=>?_;let(x,H2,I2,rx,a,C,dx,fs,ex,ea,c,n,l,q2):=LA;subst ex;obtain rfl:N=Value.ref a:=rx;show RN I2 ea c n l ry λQ j=>#[U,_,j,q2]
def Wt:V->V->Hp->VK->Prop:=λx y H Q=>∃i j,x=.int i/\y=.int j/\Q (.int (i+j)) H
end
structure gn(b:Bool)(k:Nat)(A:Around):Prop where
 hd:b=true->A.handled=none
 dp:A.depth+3*k+5<recursionLimit
 un:A.units+16*k+200<cLine
 gd:A.guards=![]
abbrev qM:=gn G
def gn.mono(r:gn b k A)(h:j<=k):gn b j A:=#[r.hd,by have:=r.dp;lia,by have:=r.un;lia,r.gd]
theorem gn.deeper(r:gn b (k+1) A)(env:Env):gn b k (A.deeper env):=
 #[r.hd,by have:=r.dp;show A.depth+1+3*k+5<_;lia,by have:=r.un;show A.units+3+16*k+200<_;lia,r.gd]
def RP:(A.under (.builtin "type.__call__" #[YV C::us,kw])).depth=A.depth+1:=by
 first |rfl |simp[Code.weight]
def RQ:(A.under (.builtin "type.__call__" #[YV C::us,kw])).units=A.units+1:=by
 first |rfl |simp[Code.cUnits]
def gn.make(r:gn b (k+1) A)(C:Addr)(q:List Value)(j:List (Str×Value)):gn b k (A.under (.builtin "type.__call__" #[YV C::q,j])):=
 #[r.hd,by have:=r.dp;rw[RP];lia,by have:=r.un;rw[RQ];lia,by first |show r.gd |(simpa [Around.under,Code.isGuard,guardIds] using r.gd)]
theorem gn.depth(r:gn b k A):A.depth<recursionLimit:=by have:=r.dp;lia
theorem gn.units(r:gn b k A):A.units+64<cLine:=by have:=r.un;lia
def KJ:TA:=λ_ H Q=>Q [] H
def J5(ta:TE)(tr:TA):TA:=λU H Q=>ta U H λx H1=>tr U H1 λxs H2=>Q (x::xs) H2
section
variable {X:Cx}{e:Expr}{es:List Expr}{te:TE}{t:TA}{pos:Pos}
def zK:PA X [] KJ:=λ_ _ _ _ H Q I h=>Calls.spliced_nil #[[],H,I,.nil,h]
def wz(i:PE X e te)(q:PA X es t)(hs:starEach (e::es) X.env=(M,eval e X.env)::starEach es X.env:=by rfl):PA X (e::es) (J5 te t):=by intro pos ae s U H Q I h;rw[hs];show Calls.spliced_cons (dg (i ae s U H _ I h) λu j N=>?_);let(x,H1,W,r1,q1):=N;show dg (q pos ae j U H1 _ W q1) λD z F=>by let(xs,H2,I2,r2,q2):=F;show #[x::xs,H2,I2,.cons r1 r2,q2]
def AR(t:TA):TE:=λU H Q=>t U H λxs H1=>-xs<=sizeLine/\∀p,H1 p=J->Q (.ref p) (aI H1 p (.tup xs))
def LB(t:TA):TE:=λU H Q=>t U H λxs H1=>-xs<=sizeLine/\∀p,H1 p=J->Q (.ref p) (aI H1 p (.lst xs))
def AS{x1}(h:PA X es t):PE X (.Tuple es x1 pos) (AR t):=by intro c5 s U H Q I F;show wpAny_Tuple_spliced (dg (h pos c5 s U H _ I F) λD i N=>?_);let(xs,H1,W,r,z,q):=N;show #[by rw[<-(-r)];show z,?_];let j:=W.hok.fresh (dP _);show#[.ref (c8 i),aI H1 (c8 i) (.tup xs),W.laid (λb u e=>eJ _ e) () ?_,O,q _ j];show#[z,D,r,#[_,ff _ O,O,_,O]]
def LD(h:PA X es t):PE X (.List es pos) (LB t):=by intro c5 s U H Q I F;show wpAny_List_spliced (dg (h pos c5 s U H _ I F) λD i N=>?_);let(xs,H1,W,r,z,q):=N;show #[by rw[<-(-r)];show z,?_];let j:=W.hok.fresh (dP _);show#[.ref (c8 i),aI H1 (c8 i) (.lst xs),W.laid (λb u e=>eJ _ e) () ?_,O,q _ j];show#[z,D,0,r,ff _ O]
end
abbrev Sp:=List V->Hp->VK->XK->Prop
abbrev yV:=List Env->Hp->Shared->XK->Value->Shared->Prop
structure Dk(P:Program)(w:World)(K:FG)(mg:Str->Option Value)(base:Heap)(A:Around)(outer:List Env)(s:Shared)(H:Hp):Prop where
 frames:A.frames=!outer
 mod:Mod K mg base
 bs:∀b o,base.get? b=!o->s.heap.get? b=!o/\H b=none
 bsz: ~~~base.objs<= ~~~s.heap.objs
 funs:s.heap.FunFrames base outer
 frf:∀b∈frs outer,H b=none
 hok:jm P w H s.heap
 bare:AllBare s.gens
def CE(outer:List Env)(P:Program)(w:World)(H:Hp)(s:Shared)(Q:VK)(u:Value)(s':Shared):Prop:=
 ∃v H',s'.os=s.os/\AllBare s'.gens/\Un (frs outer) [] H H' s.heap s'.heap/\jm P w H' s'.heap/\aw v u/\Q v H'
def CR(CX:yV)(outer:List Env)(P:Program)(w:World)(H:Hp)(s:Shared)(Q:VK)(E:XK)(r:Result)(s':Shared):Prop:=
 match r with
 |.ok (.ret u)=>CE outer P w H s Q u s'
 |.ok _=>False
 |.error e=>CX outer H s E e s'
structure t6(b:Bool)(P:Program)(w:World)(K:FG)(mg:Str->Option Value)(base:Heap)(CX:yV)(k:Nat)(f:Addr)(fd:FuncData)(ps:List Str)(sp:Sp):Prop where
 len:∀vs H Q E,sp vs H Q E->-vs=-ps
 run:∀(A:Around)(outer:List Env)(s:Shared)(H:Hp)(args:Args)(us:List Value)(vs:List V)(Q:VK)(E:XK),gn b k A->Dk P w K mg base A outer s H->BindsTo s fd args (ps.zip us)->ap vs us->sp vs H Q E->
  codeAny (model P w) A (.call (.ref f) args) (CR CX outer P w H s Q E) s
abbrev oK:=t6 G
def t6.imp{K:FG}(F:t6 b P w K mg base CX k f fd ps sp)
 (h:∀vs H Q E,LF vs H Q E->sp vs H Q E):t6 b P w K mg base CX k f fd ps LF:=
 #[λvs H Q E q=>F.len vs H Q E ∅,λA i s H z N vs Q E W j hb D hs=>F.run A i s H z N vs Q E W j hb D ∅]
def Dk.make{K:FG}(e:Dk P w K mg base A outer s H)(C:Addr)(q:List Value)(j:List (Str×Value)):
 Dk P w K mg base (A.under (.builtin "type.__call__" #[YV C::q,j])) outer s H:=#[by first |show e.frames |(simpa [Around.under,Code.envs,Code.isFrame,pushEnvs] using e.frames),e.mod,e.bs,e.bsz,e.funs,e.frf,e.hok,e.bare]
section
variable {X:Cx}{ae:List (Addr×Obj)}{U:St}{H:Hp}{s s':Shared}
def am.env0(I:am X ae U H s):Dk X.prog X.w X.K X.mg X.base X.A X.stack s H:=
 #[I.ok.frames,I.ok.mod,I.bs,fA I.ok.bsz I.sz,I.stack,I.stkFree,I.hok,I.bare]
def am.after(I:am X ae U H s)(h:CE X.stack X.prog X.w H s Q u s'):EP X ae U Q u s':=by let(v,H',N,j,un,D,r,q):=h;let(W,g,d,t,F):=s';obtain rfl:F=s.os:=N;show#[v,H',I.call un D j (λb z=>absurd z (by simp)),r,q]
end
def YW(sp:Sp)(g7:List V)(E:XK)(t:TA):TE:=λU H Q=>t U H λvs H1=>sp (vs++g7) H1 Q E
def RT(C:Addr)(m:Str)(sp:Sp)(g7:List V)(E:XK)(ta:TE)(t:TA):TE:=λU H Q=>ta U H λx H1=>∃a dx fs,x=.ref a/\H1 a=!(.ins C dx fs)/\fs.lookup m=J/\
 t U H1 λvs H2=>sp (x::(vs++g7)) H2 Q E
def YX(C:Addr)(sp:Sp)(g7:List V)(E:XK)(t:TA):TE:=λU H Q=>t U H λvs H1=>∀x dx,H1 x=J->H1 dx=J->dx≠x->
 sp (.ref x::(vs++g7)) (aI (aI H1 dx (.own x)) x (.ins C dx [])) (λv H2=>v=.non/\Q (.ref x) H2) E
def eP(K:FG)(fd:FuncData)(ps:List Str)(ds:List Value):Prop:=
 ∀(s:Shared)(us:List Value),K.In s.heap->-(us++ds)=-ps->BindsTo s fd #[us,[]] (ps.zip (us++ds))
def eP.all{K:FG}(h:∀j:List Value,-j=-ps->bindArgs fd #[j,[]]=pure (ps.zip j)):eP K fd ps []:=λs j _ q=>by rw[fg]at q ⊢;show .of_eq (h j q)
def zM(CX:yV)(X:Cx)(E:XK):Prop:=∀(ae:List (Addr×Obj))(U:St)(H:Hp)(s:Shared)(e:Value)(s':Shared),am X ae U H s->CX X.stack H s E e s'->X.xe e s'
section
variable {X:Cx}{CX:yV}{k:Nat}{f C:Addr}{fd:FuncData}{ps:List Str}{sp:Sp}{g7:List V}{ds:List Value}{E:XK}{x m:Str}{p pos apos:Pos}{e o:Expr}{es:List Expr}{ta:TE}{t:TA}
def KN{U:St}(F:t6 b X.prog X.w X.K X.mg X.base CX k f fd ps sp)(hr:gn b k X.A)(W:eP X.K fd ps ds)(z:ap g7 ds)(D:∀H s e s',am X c5 U H s->CX X.stack H s E e s'->X.xe e s')
 (I:am X c5 U H s) (r:ap vs us) (h:sp (vs++g7) H Q E):wpAny (model X.prog X.w) X.A (call (YV f) us) (EP X c5 U Q) X.xe s:=by
 let j:=r.append z;have N:-(us++ds)=-ps:=by rw[<-(-j)];show F.len _ _ _ _ h
 show wpAny_call (codeAny_mono (F.run X.A X.stack s H #[us,[]] (us++ds) (vs++g7) Q E hr I.env0 (W s us I.kIn N) j h) λr s' i=>?_);cases r with
 |error e=>show D H s e s' I i
 |ok fl=>
  cases fl with
  |ret u=>show I.after i
  |next=>show False.elim i
  |brk=>show False.elim i
  |cont=>show False.elim i
def ZS(F:t6 b X.prog X.w X.K X.mg X.base CX k f fd ps sp)(hr:gn b k X.A)(D:Gl X x)(hm:X.mg x=!(YV f))(hk:W.keepIn X.K (YV f)=G)(hb:eP X.K fd ps ds)(N:ap g7 ds)(hx:zM CX X E)
 (z:PA X (e::es) t) (j:(x==("__debug__" : Str))=M:=by decide) (he:starEach (e::es) X.env=(M,eval e X.env)::starEach es X.env:=by rfl) (i:(backTo pos (starEach es X.env)).any (·.1)=M:=by rfl):
 PE X (.Call (.Name x p) (e::es) [] pos) (YW sp g7 E t):=by
 intro ae s U H Q I h;show wpAny_Call_Name_kw (Pz I D hm ?_ j);show W.callWith_K I.ok.mod.kin hk (dg (z pos ae s U H _ I h) λus s1 LG=>?_) he i;let(vs,H1,I1,r,q):=LG;show #[I1.kIn,?_];show KN F hr hb N (hx _ _) I1 r q
def ZV{pl:Sem Bool}(he:PE X o ta)(c:zJ X.K C)(z:kR X.K C m f)(F:oK X.prog X.w X.K X.mg X.base CX k f fd ps sp)(hr:qM k X.A)(hb:eP X.K fd ps ds)(N:ap g7 ds)(hx:zM CX X E)(D:PA X (e::es) t)
 (i:starEach (e::es) X.env=(M,eval e X.env)::starEach es X.env:=by rfl) (j:(backTo pos (starEach es X.env)).any (·.1)=M:=by rfl)
 (ht:eval (.Call (.Attribute o m apos) (e::es) [] pos) X.env=(do
   let ov <-eval o X.env
   standAt apos.atName
   let (f,first) <-holding [ov] (getMethod ov m pl)
   callWith pos f first (backTo pos (starEach (e::es) X.env)) (backToKw pos (keywordEach [] X.env))):=by rfl):
 PE X (.Call (.Attribute o m apos) (e::es) [] pos) (RT C m sp g7 E ta t):=by
 intro ae s U H Q I h
 show AB (dg (he ae s U H _ I h) λu s1 LH=>?_) ht;let(x,H1,I1,rx,a,dx,fs,ex,ea,l,q):=LH
 subst ex
 obtain rfl:u=Value.ref a:=rx
 show xV I1 ea c z l ?_
 show W.callWith_K I.ok.mod.kin z.kp (dg (D pos ae s1 U H1 _ I1 q) λus s2 LI=>?_) i j;let(vs,H2,I2,r,q2):=LI;show #[I2.kIn,?_]
 show KN (vs:=.ref a::vs) F hr hb N (hx _ _) I2 (.cons O r) q2
def Wu(he:PE X o ta)(c:zJ X.K C)(i:kR X.K C m f)(F:oK X.prog X.w X.K X.mg X.base CX k f fd ps sp)(N:qM k X.A)(D:eP X.K fd ps ds)(j:ap g7 ds)(z:zM CX X E)
 (ht:eval (.Call (.Attribute o m apos) [] [] pos) X.env=(do
   let ov <-eval o X.env
   standAt apos.atName
   let (f,first) <-holding [ov] (getMethod ov m pl)
   callWith pos f first (backTo pos (starEach [] X.env)) (backToKw pos (keywordEach [] X.env))):=by rfl):
 PE X (.Call (.Attribute o m apos) [] [] pos) (RT C m sp g7 E ta KJ):=by
 intro ae s U H Q I h
 show AB (dg (he ae s U H _ I h) λu s1 LJ=>?_) ht;let(x,H1,I1,rx,a,dx,fs,ex,ea,l,q):=LJ
 subst ex
 obtain rfl:u=Value.ref a:=rx
 show xV I1 ea c i l ?_
 show W.callWith_K0 I1.kIn i.kp (KN (vs:=[.ref a]) F N D j (z _ _) I1 (.cons O .nil) q)
structure Mk(K:FG)(C f:Addr):Prop where
 makes:W.makesIn K C=true
 init:W.findIn K (.ref C) "__init__"=!(!(.ref f))
 fn:W.isFn K (.ref f)=true
 kp:W.keepIn K (.ref C)=true
def Wv{U:St}(q:Mk X.K C f)(F:oK X.prog X.w X.K X.mg X.base CX k f fd ps sp)(hr:qM (k+1) X.A)(hb:eP X.K fd ps ds)(hd:ap g7 ds)
 (hx:∀H s e s',am X c5 U H s->CX X.stack H s E e s'->X.xe e s') (I:am X c5 U H s) (r:ap vs us)
 (h:∀x dx,H x=J->H dx=J->dx≠x->sp (.ref x::(vs++g7)) (aI (aI H dx (.own x)) x (.ins C dx [])) (λv H2=>v=.non/\Q (.ref x) H2) E):
 wpAny (model X.prog X.w) X.A (call (YV C) us) (EP X c5 U Q) X.xe s:=by
 let N:=h ((c8 s)+1) (c8 s) (I.hok.fresh ()) (I.hok.fresh ()) ∅;let j:=am.made (C:=C) I;have z:ap (V.ref ((c8 s)+1)::(vs++g7)) (Value.ref ((c8 s)+1)::(us++ds)):=.cons O (r.append hd);have hl:-(Value.ref ()::us++ds)=-ps:=by let e:=-z;rw[F.len _ _ _ _ N]at e;show e.symm
 show wpAny_call (Ws I.kIn q.makes q.init (beq_iff_eq.mp q.fn) (codeAny_mono (F.run _ X.stack _ _ #[Value.ref ((c8 s)+1)::us,[]] (Value.ref ((c8 s)+1)::(us++ds)) _ _ E (hr.make C us [])
  (j.env0.make C us []) (hb _ (Value.ref ((c8 s)+1)::us) j.kIn hl) z N) λr s' i=>?_))
 cases r with
 |error e=>show hx _ _ e s' j i
 |ok fl=>
  cases fl with
  |ret u=>
   let(v,H',W,rv,ev,q3):=j.after i;subst ev;show#[rv,#[V.ref ((c8 s)+1),H',W,O,q3]]
  |next=>show False.elim i
  |brk=>show False.elim i
  |cont=>show False.elim i
def ZW(z:Mk X.K C f)(F:oK X.prog X.w X.K X.mg X.base CX k f fd ps sp)(hr:qM (k+1) X.A)(N:Gl X x)(hm:X.mg x=!(YV C))(hb:eP X.K fd ps ds)(hd:ap g7 ds)(hx:zM CX X E)
 (D:PA X (e::es) t) (j:(x==("__debug__" : Str))=M:=by decide) (he:starEach (e::es) X.env=(M,eval e X.env)::starEach es X.env:=by rfl) (i:(backTo pos (starEach es X.env)).any (·.1)=M:=by rfl):
 PE X (.Call (.Name x p) (e::es) [] pos) (YX C sp g7 E t):=by
 intro ae s U H Q I h;show wpAny_Call_Name_kw (Pz I N hm ?_ j);show W.callWith_K I.ok.mod.kin z.kp (dg (D pos ae s U H _ I h) λus s1 LL=>?_) he i;let(vs,H1,I1,r,q):=LL;show #[I1.kIn,?_];show Wv z F hr hb hd (hx _ _) I1 r q
end
structure bz(N P:List Str)(sc:Scope):Prop where
 kind:sc.kind=.function
 co:sc.isCoroutine=false
 gen:sc.isGenerator=false
 nd:N.Nodup
 pre:N.take (-P)=P
 par:∀x∈P,sc.names.lookup x=!.local\/sc.names.lookup x=!.cell
 nofree:∀y∈sc.names,y.2≠.free
theorem HH:∀{binds:List (Str×Value)}{m:Str->Option Value},(∀v,(x,v)∉binds)->bindL i binds m x=m x
 |[],_=>λ_=>rfl
 |(n,v)::r,m=>λh=>by
  unfold bindL;rw[HH λw j=>h w (d_ _ j)];split
  . have:x≠n:=by rintro rfl;show h v cS
    grind
  . rfl
theorem HJ:∀{binds:List (Str×Value)}{m:Str->Option Value},(∀v,(x,v)∉binds)->bindC i binds m x=m x
 |[],_=>λ_=>rfl
 |(n,v)::r,m=>λh=>by
  unfold bindC;rw[HJ λw j=>h w (d_ _ j)];split
  . rfl
  . have:x≠n:=by rintro rfl;show h v cS
    grind
theorem HN:∀{P:List Str}{vs:List Value}{i:Nat}{m:Str->Option Value},P.Nodup->P[i]?=!x->vs[i]?=!v->j x=!.local->
 bindL j (P.zip vs) m x=!v
 |[],_,_,_=>λ_ h _ _=>by grind
 |_::_,[],_,_=>λ_ _ h _=>by grind
 |p::P,w::vs,0,m=>λq h1 h2 hk=>by simp at h1 h2;subst h1;subst h2;show bindL j ((p,w)::P.zip vs) m p=_;unfold bindL;rw[HH λv z=>(h_.mp q).1 (lI z).1,ax hk];simp
 |p::P,w::vs,i+1,m=>λq h1 h2 hk=>by unfold bindL;show HN (h_.mp q).2 () () hk
theorem HR:∀{P:List Str}{vs:List Value}{i:Nat}{m:Str->Option Value},P.Nodup->P[i]?=!x->vs[i]?=!v->j x≠!.local->
 bindC j (P.zip vs) m x=!v
 |[],_,_,_=>λ_ h _ _=>by grind
 |_::_,[],_,_=>λ_ _ h _=>by grind
 |p::P,w::vs,0,m=>λq h1 h2 hk=>by simp at h1 h2;subst h1;subst h2;show bindC j ((p,w)::P.zip vs) m p=_;unfold bindC;rw[HJ λv z=>(h_.mp q).1 (lI z).1,a_ hk];simp
 |p::P,w::vs,i+1,m=>λq h1 h2 hk=>by unfold bindC;show HR (h_.mp q).2 () () hk
def start(N:List Str)(vs:List V):St:=vs.map some++replicate (-N-(-vs)) J
noncomputable def vC (b:Bool) (CX:yV) (P:Program) (w:World) (K:FG) (mg:Str->Option Value) (base:Heap) (N:List Str) (qual:Str) (scope:Scope) (f:Addr) (cd:Value) (A:Around) (outer:List Env) (s:Shared) (H:Hp) (E:XK):Cx where
 prog:=P
 w:=w
 K:=K
 mg:=mg
 base:=base
 A:=A.deeper (envOfC qual scope s.heap.objs.size f cd)
 N:=N
 s₀:=s
 H0:=H
 env:=envOfC qual scope s.heap.objs.size f cd
 outer:=outer
 stack:=envOfC qual scope s.heap.objs.size f cd::outer
 ex:=[]
 calm:=b
 fn:=λ_=>G
 pn:=[]
 xe:=λe s'=>wpAny (model P w) (A.deeper (envOfC qual scope s.heap.objs.size f cd)) (leaving (envOfC qual scope s.heap.objs.size f cd) e) (λ_ s''=>CX outer H s E e s'') (λe' s''=>CX outer H s E e' s'') s'
abbrev Ww:=vC G
def KQ{sc:Scope}(h:sc.names.lookup x=!.cell):∃c,(cellsFrom n sc.names []).lookup x=!c:=by let q:=vt sc.names n [] (Zl h);show vi.mp q
def Ua{K:FG}{E:XK}
 (S:bz N ps scope) (hd:cm=G->A.handled=J) (j:Dk P w K mg base A outer s H) (hl:-vs=-ps) (r:ap vs us)
 (x:InCallC s s.heap.objs.size (bindL (envOfC qual scope s.heap.objs.size f cd).kindOf (ps.zip us) λ_=>J) (cellsFrom (~~~s.heap.objs+1) scope.names []) (bindC (envOfC qual scope s.heap.objs.size f cd).kindOf (ps.zip us) λ_=>J) s1):
 am (vC cm CX P w K mg base N qual scope f cd A outer s H E) [] (start N vs) H s1:=by
 have hpl:-ps<=-N:=by have:=gs length S.pre;rw[i9]at this;lia
 let(h1,tk,rfl,hk):=x.done;have D:∀b:Addr,b∉(vC cm CX P w K mg base N qual scope f cd A outer s H E).ex:=λb z=>absurd (show b∈([]:List Addr) from z) (by simp);show#[#[j.mod,S.kind,O,O,dP _,λy z c h1 h2=>?_,λy F=>?_,λy c _ h=>?_,hd,Around.frames_deeper j.frames,YY #[O,O],λb z=>absurd z (D b),j.bs,j.bsz,λb _ _=>D b,λb z=>absurd z (D b),j.funs,j.frf],
  rfl,j.bare,Un.kept hk,#[_,x.toInCall.ns,λi y v h1 h2 h3=>?_],λy c h=>#[_,x.cell y c h],j.hok.fresh (dP _),λy c h=>?_,λp W=>absurd (show p∈([]:List (Addr×Obj)) from W) (by simp),j.hok.kept hk,?_]
 . show name_of_addr x.apart (oS h1) (oS h2)
 . obtain F|F:=F
   . show KQ F
   . show absurd O (S.nofree _ (oS F))
 . show oQ (x.above y c (oS h))
 . have hi:i< -vs:=by
    unfold start at h2;by_cases hi:i< -vs
    . show hi
    . grind
   have ha:vs[i]?=!v:=by
    unfold start at h2;rw[jJ ∅,eL]at h2;cases e:vs[i]? with
    |none=>grind
    |some a=>grind
   let(u,hu,rv):=r.get ha;have W:ps[i]?=!y:=by rw[<-S.pre,getElem?_take_of_lt ()];show h1
   have Q:ps.Nodup:=by rw[<-S.pre];show S.nd.sublist ∅
   show#[u,rv,?_];obtain k|k:=S.par y (gt W)
   . show Zl #[k,HN Q W hu k]
   . let(c,e):=KQ k;show YY #[Zl k,c,e,?_];let q:=x.cell y c e;rw[HR Q W hu (by show scope.names.lookup y≠_;rw[k];decide)]at q;show q
 . show j.hok.fresh (oQ (x.above y c (oS h)))
 . unfold start;show _=-N;grind
def LM{K:FG}{dV kV l3 pm j ct oc:Value}
 (lk:K.lookup f=!#[oc,od,.func (W.fnOf name qual params body scope dV kV l3 pm an j ct),n9]) (px:W.codeIn K j qual=G) (S:bz N ps scope)
 (len:∀vs H Q E,sp vs H Q E->-vs=-ps)
 (D:∀(A:Around)(i:List Env)(s:Shared)(H:Hp)(vs:List V)(Q:VK)(E:XK),gn b k (A.deeper (envOfC qual scope s.heap.objs.size f j))->sp vs H Q E->
   ∃t,jP (vC b CX P w K mg base N qual scope f j A i s H E) body t/\t { nx:=λ_ H'=>Q .non H',rt:=Q } (start N vs) H):
 t6 b P w K mg base CX (k+1) f (W.fnOf name qual params body scope dV kV l3 pm an j ct) ps sp:=by
 show#[len,λA i s H args us vs Q E hr e0 hb r n_=>?_];let hl:=len _ _ _ _ n_;let KX:=e0.mod.kin.keeps λb o e=>(e0.bs b o e).1;let LN:=e0.mod.nolimit.keeps λb o e=>(e0.bs b o e).1;have F:∀y∈ps.zip us,scope.names.lookup y.1=!.local\/(scope.names.lookup y.1=!.cell/\((cellsFrom ((c8 s)+1) scope.names []).lookup y.1).isSome=G):=λvM hy=>by
  let(n,v):=vM
  obtain q|q:=S.par n (lI hy).1
  . grind
  . show YY #[q,vt _ _ _ (Zl q)]
 show codeAny_call_function hr.depth (KX _ _ lk) O S.co S.gen O (W.codeRec_of KX px) (hb _ _ _ _ ?_);show wpAny_newFunctionEnv_cells S.kind F λenv he s1 x=>?_;subst he;show#[LN.keeps x.toInCall.keep,codeAny_func ?_];let(t,ht,hq):=D A i s H vs Q E (hr.deeper _) n_;show kH (ht [] s1 (start N vs) H _ (Ua S hr.hd e0 hl r x) hq) (λfl s' hs=>?_) λe s' hs=>hs;have fin:∀{U':St}{H':Hp}{v:V}{u:Value},am (vC b CX P w K mg base N qual scope f j A i s H E) [] U' H' s'->aw v u->Q v H'->CE i P w H s Q u s':=
  λ{U' H' v u} z rv q=>#[v,H',z.os,z.bare,z.base,z.hok,rv,q]
 cases fl with
 |ret u=>
  let(v,U',H',z,rv,q):=hs;show fin z rv q
 |next=>
  let(U',H',z,q):=hs;show fin (v:=V.non) z O q
 |brk=>
  let(_,_,_,q):=hs;grind
 |cont=>
  let(_,_,_,q):=hs;grind
section
variable {X:Cx}{x:Str}{p pos:Pos}{e:Expr}{es:List Expr}{t:TA}{id T:String}{r:List V->Hp->VK->Prop}
def zN(r:List V->Hp->VK->Prop)(t:TA):TE:=λU H Q=>t U H λvs H1=>r vs H1 Q
def iQ(hc:lO X (.builtin id) r)(z:Gl X x)(hm:X.mg x=J)(N:bootBuiltins x=!(.builtin id))(q:PA X (e::es) t)(D:x ≠ "__name__":=by decide)(j:(x==("__debug__" : Str))=M:=by decide)
 (he:starEach (e::es) X.env=(M,eval e X.env)::starEach es X.env:=by rfl) (i:(backTo pos (starEach es X.env)).any (·.1)=M:=by rfl):PE X (.Call (.Name x p) (e::es) [] pos) (zN r t):=by
 intro ae s U H Q I h;show wpAny_Call_Name_kw (zE I z hm N ?_ D j);show PyProof.Rows.callWith_builtin1 (dg (q pos ae s U H _ I h) λW F LO=>by let(vs,H1,I1,r1,q1):=LO;show hc ae F U H1 vs W Q I1 r1 q1) he i
def gA(hc:lO X (.type T) r)(z:Gl X x)(hm:X.mg x=J)(N:bootBuiltins x=!(.type T))(q:PA X (e::es) t)(D:x ≠ "__name__":=by decide)(j:(x==("__debug__" : Str))=M:=by decide)
 (he:starEach (e::es) X.env=(M,eval e X.env)::starEach es X.env:=by rfl) (i:(backTo pos (starEach es X.env)).any (·.1)=M:=by rfl):PE X (.Call (.Name x p) (e::es) [] pos) (zN r t):=by
 intro ae s U H Q I h;show wpAny_Call_Name_kw (zE I z hm N ?_ D j);show PyProof.Rows.callWith_type1 (dg (q pos ae s U H _ I h) λW F LP=>by let(vs,H1,I1,r1,q1):=LP;show hc ae F U H1 vs W Q I1 r1 q1) he i
end
end L2
namespace HT
open PySem PySem.Spec PyProof.Rows
section
variable {prog:Program}{w:World}{A:Around}{E:Value->Shared->Prop}{s:Shared}
def cat_tup(ht:IsTup s.heap t vs.toArray)(hb:IsTup s.heap b ws.toArray)(hv:vs≠[])
 (h1:ws=[]->Q (YV t) s) (h2:ws≠[]->Q (YV s.heap.objs.size) { s with heap:=s.heap.push { cls:=.type "tuple",data:=.seq (vs++ws).toArray } })
 (gX:-vs+-ws<=sizeLine):wpAny (model prog w) A (binaryOp .Add (YV t) (YV b)) Q E s:=by
 let((cls,dd,data,sl),N,hc,n,hd):=id ht;let((cls2,q,D,z),i,W,n2,py):=id hb;subst hc hd W py
 by_cases hw:ws=[]
 . show concat_meets #[_,N,O] #[_,i,O] noFill_tuple_add seq_tuple_add F.slot_tuple_add F.entry_tuple_add (F.args_tuple_add_2 _ _)
    (tuple_addW1 t b vs.toArray ws.toArray n n2 dd q sl z ∅ ∅) #[N,i,h1 hw]
 . show concat_meets #[_,N,O] #[_,i,O] noFill_tuple_add seq_tuple_add F.slot_tuple_add F.entry_tuple_add (F.args_tuple_add_2 _ _)
    (tuple_addW2 t b vs.toArray ws.toArray n n2 dd q sl z ∅ ∅ ()) #[N,i,?_]
   grind
noncomputable def sIx (n d:Nat):Option Int->Nat
 |none=>d
 |some v=>if v<0 then (v+(n:Int)).toNat else min v.toNat n
def sIx_nat(n d k:Nat):sIx n d (!(k:Int))=min k n:=by show (if (k:Int)<0 then ((k:Int)+(n:Int)).toNat else min (k:Int).toNat n)=min k n;rw[a_ (),IJ]
def sIx_le(n d:Nat)(j:d<=n)(o:Option Int):sIx n d o<=n:=by
 cases o with
 |none=>show j
 |some v=>
  show (if v<0 then (v+(n:Int)).toNat else min v.toNat n)<=n;by_cases i:v<0
  . rw[ax i];lia
  . rw[a_ i];show Nat.min_le_right _ _
def PJ(v:Int)(n d:Nat):(if v<0 then max (v+(n:Int)) 0 else min v (n:Int))=((sIx n d (!v):Nat):Int):=by
 show (if v<0 then max (v+(n:Int)) 0 else min v (n:Int))=(((if v<0 then (v+(n:Int)).toNat else min v.toNat n):Nat):Int);by_cases j:v<0
 . grind
 . grind
def RV(lo hi:Option Int)(n:Nat):Builtin.Slice.sliceAdjust lo hi 1 (n:Int)=(((sIx n 0 lo:Nat):Int),((sIx n n hi:Nat):Int)):=by
 have h1:¬ ((1:Int)<0):=()
 show Prod.ext ?_ ?_
 . cases lo with
   |none=>rfl
   |some v=>show PJ v n 0
 . cases hi with
   |none=>rfl
   |some v=>show PJ v n n
def RW(i j:Nat):Builtin.Slice.slicePlaces (i:Int) (j:Int) 1=j-i:=by
 unfold Builtin.Slice.slicePlaces;have h1:(1:Int)>0:=()
 simp only[h1,if_true];split<;>lia
def Er(p:IsPart v o)(h:Q o s):wpAny (model prog w) A (Builtin.Slice.slicePartIndex v) Q E s:=by
 cases p with
 |none=>show slicePart_none h
 |int i t=>show slicePart_int h
def Dl{lo hi:Option Int}{Q:Int×Int×Nat->Shared->Prop}(hs:s.heap.IsSliceOf sl vl vu .none)(pl:IsPart vl lo)(F:IsPart vu hi)
 (h:Q (((sIx n 0 lo:Nat):Int),1,sIx n n hi-sIx n 0 lo) s):wpAny (model prog w) A (Builtin.Slice.sliceApplied (YV sl) (pure (n:Int))) Q E s:=by
 let(N,z,D,q):=id hs;show al (al (wpAny_field z q O (al (wpAny_field z q O (al (wpAny_field z q O (a8 ?_)))))));show al (slicePart_none ?_);show al (Er pl (al (Er F (al (a8 ?_)))));show wpAny _ _ (match Builtin.Slice.sliceAdjust lo hi 1 (n:Int) with |(lo,hi)=>pure (lo,(1:Int),Builtin.Slice.slicePlaces lo hi 1)) _ _ s;rw[RV lo hi n];show wpAny _ _ (pure (((sIx n 0 lo:Nat):Int),(1:Int),Builtin.Slice.slicePlaces ((sIx n 0 lo:Nat):Int) ((sIx n n hi:Nat):Int) 1)) _ _ s;rw[RW];show a8 h
def Wx(xs:Array Value)(i k:Nat):((range k).filterMap λ(m:Nat)=>xs[((i:Int)+(m:Int)*1).toNat]?).toArray=((xs.toList.drop i).take k).toArray:=by
 have e:(λ(m:Nat)=>xs[((i:Int)+(m:Int)*1).toNat]?)=λm=>xs[i+m]?:=by
  funext m;have:((i:Int)+(m:Int)*1).toNat=i+m:=()
  rw[this]
 have:=pick_run xs i k;have j:((λx=>xs[x]?) ∘ λx=>i+x)=λm=>xs[i+m]?:=O;grind
def getItem_tuple_cut{lo hi:Option Int}(j:IsTup s.heap t items)(hs:s.heap.IsSliceOf sl vl vu .none)(pl:IsPart vl lo)(pu:IsPart vu hi)
 (hw:¬ (sIx items.size 0 lo=0/\sIx items.size items.size hi= ~~~items))
 (h:Q (YV s.heap.objs.size) { s with heap:=s.heap.push { cls:=.type "tuple",data:=.seq ((items.toList.drop (sIx items.size 0 lo)).take (sIx items.size items.size hi-sIx items.size 0 lo)).toArray } })
 (gX: ~~~items<=sizeLine):wpAny (model prog w) A (getItem (YV t) (YV sl)) Q E s:=by
 have i:sizeOk (.seq ((items.toList.drop (sIx items.size 0 lo)).take (sIx items.size items.size hi-sIx items.size 0 lo)).toArray):=by show ((items.toList.drop (sIx items.size 0 lo)).take (sIx items.size items.size hi-sIx items.size 0 lo)).toArray.size<=sizeLine;rw[gL,i9,length_drop,gT];lia
 let(os,D,F,AT):=id hs;unfold getItem
 try with_reducible show iE ?_
 first |show al () |skip
 show al (wpAny_sequenceKey j.typeIs () ?_);show al (wpAny_callSpecial?_slot j.typeIs PyProof.Rows.slot_tuple_getitem
  (wpAny_call_entry PyProof.Rows.slot_tuple_getitem j.typeIs entry_tuple_getitem ?_ (args_tuple_getitem _ _)))
 show wpAny _ _ (Builtin.Tuple.tupleItemsOf (YV t) >>= _) _ _ s;show al (tupleItemsOf_ j ?_);show al (wpAny_typeOf (#[os,D,F]) ?_);show al (Dl hs pl pu ?_);have z:¬ ((((sIx items.size 0 lo:Nat):Int)==0&&(1:Int)==1&&(sIx items.size items.size hi-sIx items.size 0 lo)== ~~~items)=G):=by intro q;rw[iF,iF]at q;show hw #[(),()]
 show wpAny _ _ (if (((sIx items.size 0 lo:Nat):Int)==0&&(1:Int)==1&&(sIx items.size items.size hi-sIx items.size 0 lo)== ~~~items)=G then _ else _) _ _ s;rw[a_ z,Wx]
 first
  |show al (mx () i)
  |show al (mx (al (a8 (a8 #[_,rfl,a8 h]))) i)
  |show al ()
  |show al ()
end
end HT
namespace L2
open PySem PySem.Spec PyProof.Rows
variable {ae:List (Addr×Obj)}{E:Value->Shared->Prop}{s:Shared}{A:Around}{w:World}{P:Program}
abbrev TO:=St->Hp->(Option Int->Hp->Prop)->Prop
def PO(X:Cx)(e:Option Expr)(t:TO):Prop:=
 ∀(ae:List (Addr×Obj))(s:Shared)(U:St)(H:Hp)(Q:Option Int->Hp->Prop),am X ae U H s->t U H Q->
  wpAny (model X.prog X.w) X.A (evalPart e X.env) (λu s'=>∃o H',am X ae U H' s'/\IsPart u o/\Q o H') X.xe s
def ZX:TO:=λ_ H Q=>Q J H
def LS(t:TE):TO:=λU H Q=>t U H λx H1=>∃i,x=.int i/\Q (!i) H1
section
variable {X:Cx}{e:Expr}{te:TE}{lo hi:Option Expr}{tl th:TO}{pos p2:Pos}
def ZZ:PO X J ZX:=by intro ae s U H Q I h;show a8 #[J,H,I,.none,h]
def Z3(h:PE X e te):PO X (!e) (LS te):=by intro ae s U H Q I j;show dg (h ae s U H _ I j) λu z D=>?_;let(x,H1,F,N,W):=D;let(i,rfl,q):=W;let(t,rfl):=N;show#[!i,H1,F,.int i t,q]
def HS(X:Cx)(r:V->Option Int->Option Int->Hp->VK->Prop):Prop:=
 ∀(ae:List (Addr×Obj))(s:Shared)(U:St)(H:Hp)(x:V)(v vl vu:Value)(lo hi:Option Int)(sl:Addr)(Q:VK),am X ae U H s->aw x v->s.heap.IsSliceOf sl vl vu .none->IsPart vl lo->IsPart vu hi->r x lo hi H Q->
  ∃T id,typeLookup (.type T) "__getitem__"=pure (!(.builtin id))/\s.TypeIs v T/\wpAny (model X.prog X.w) X.A (getItem v (YV sl)) (EP X ae U Q) X.xe s
def HS.or(h:HS X r)(h':HS X r'):HS X (λx lo hi H Q=>r x lo hi H Q\/r' x lo hi H Q):=by
 intro ae s U H x v j z lo hi sl Q I F hs pl D q;obtain q|q:=q
 . show h ae s U H x v j z lo hi sl Q I F hs pl D q
 . show h' ae s U H x v j z lo hi sl Q I F hs pl D q
def LU(r:V->Option Int->Option Int->Hp->VK->Prop)(te:TE)(tl th:TO):TE:=λU H Q=>te U H λx H1=>tl U H1 λl H2=>th U H2 λu H3=>r x l u H3 Q
def KR(hr:HS X r)(he:PE X e te)(hl:PO X lo tl)(hu:PO X hi th):PE X (.Subscript e (.Slice lo hi J p2) pos) (LU r te tl th):=by intro c5 s U H Q I h;show Subscript_ (dg (he c5 s U H _ I h) λv s1 j=>?_);let(x,H1,I1,W,q1):=j;show wpAny_Slice (dg (hl c5 s1 U H1 _ I1 q1) λF s2 LV=>?_);let(l,H2,I2,pl,q2):=LV;show dg (hu c5 s2 U H2 _ I2 q2) λD i z=>?_;let(u,H3,N,pu,q3):=z;show a8 ?_;let(T,id,hT,ht,hg):=hr c5 { i with heap:=i.heap.push { cls:=.type "slice",data:=.fields (List.toArray [F,D,.none]) } } U H3 x v F D l u (c8 i) Q (N.kept λb ob q=>eJ _ q) W (Heap.IsSliceOf.new ..) pl pu q3;show tail_any ht hT hg ()
def uK(xs:List V)(lo hi:Option Int):List V:=(xs.drop (HT.sIx (-xs) 0 lo)).take (HT.sIx (-xs) (-xs) hi-HT.sIx (-xs) 0 lo)
def CP(xs:List V)(lo hi:Option Int):-(uK xs lo hi)<=-xs:=by unfold uK;rw[i9,nS];lia
def LW(K:FG):V->Option Int->Option Int->Hp->VK->Prop:=λx lo hi H Q=>∃a xs,x=.ref a/\cW K H a xs/\
 ¬ (HT.sIx (-xs) 0 lo=0/\HT.sIx (-xs) (-xs) hi=-xs)/\∀p,H p=J->Q (.ref p) (aI H p (.tup (uK xs lo hi)))
def LY:HS X (LW X.K):=by
 intro c5 s U H x v vl vu lo hi sl Q I W hs pl D h;let(a,xs,rfl,N,hw,q):=h;cases W;let(j,r,z,F):=I.tuple N;have i: ~~~j.toArray=-xs:=by rw[gL];show r.length.symm
 show#["tuple",_,PyProof.Rows.slot_tuple_getitem.lookup,z.typeIs,?_];show HT.getItem_tuple_cut z hs pl D ∅ ?_ ();rw[i];show#[.ref (c8 s),_,I.laid (λb ob q=>eJ _ q) () ?_,O,q _ (I.hok.fresh ())];show#[fA (CP xs lo hi) F,_,(r.drop (HT.sIx (-xs) 0 lo)).take (HT.sIx (-xs) (-xs) hi-HT.sIx (-xs) 0 lo),IsTup.new _ _]
def YZ(K:FG):R2:=λx y H Q=>∃a b xs ys,x=.ref a/\y=.ref b/\cW K H a xs/\cW K H b ys/\xs≠[]/\-xs+-ys<=sizeLine/\
 (ys=[]->Q (.ref a) H)/\(ys≠[]->∀p,H p=J->Q (.ref p) (aI H p (.tup (xs++ys))))
def ap.nil_iff(r:ap xs us):us=[] ↔ xs=[]:=by
 cases r with
 |nil=>simp
 |cons _ _=>simp
def Z4:ju X (binaryOp .Add) (YZ X.K):=by intro c5 s U H x y v u Q I rx ry h;let(a,b,xs,ys,rfl,rfl,N,hb,hx,D,W,q2):=h;cases rx;cases ry;let(dS,j,p1,_):=I.tuple N;let(F,i,p2,_):=I.tuple hb;show HT.cat_tup p1 p2 (λz=>hx (j.nil_iff.mp z)) (λz=>#[.ref a,H,I,O,W (i.nil_iff.mp z)]) (λz=>?_) (by rw[<-(-j),<-(-i)];show D);show#[.ref (c8 s),_,I.laid (λb ob q=>eJ _ q) () ?_,O,q2 (λw=>z (i.nil_iff.mpr w)) _ (I.hok.fresh ())];show#[by rw[eS];show D,_,j.append i,IsTup.new _ _]
end
noncomputable def uL (n:Nat) (i:Int):Option Nat:=if 0<=i then (if i<n then !i.toNat else J) else if (Neg.neg (n:Int))<=i then !(i+n).toNat else J
def fO{α:Type}(xs:List α)(i:Int):Option α:=(uL (-xs) i).bind λj=>xs[j]?
def PK(h:uL n i=!j):seqIndex? i n=!j/\j<n/\(Neg.neg (n:Int))<=i/\i<n:=by
 unfold uL at h;by_cases q:0<=i
 . rw[ax q]at h;by_cases h1:i<n
   . rw[ax h1]at h;let e:=fI h;show#[by rw[seqIndex_of q h1,e],(),(),h1]
   . grind
 . rw[a_ q]at h;by_cases h1:(Neg.neg (n:Int))<=i
   . rw[ax h1]at h;let e:=fI h;show#[by rw[seqIndex_neg () h1,e],(),h1,()]
   . grind
def GK(h:fO xs i=!v):∃j,seqIndex? i (-xs)=!j/\xs[j]?=!v/\j< -xs/\(Neg.neg (-xs:Int))<=i/\i< -xs:=by
 unfold fO at h;cases e:uL (-xs) i with
 |none=>grind
 |some j=>
  let(h1,h2,q,z):=PK e;grind
def PN{j:Nat}(h:xs[j]?=!v):fO xs (j:Int)=!v:=by
 let q:=(fr.mp h).1;have e:uL (-xs) (j:Int)=!j:=by unfold uL;rw[ax (),ax ()];simp
 unfold fO;rw[e];show h
def qN(xs:List α)(v:α):fO (xs++[v]) (-1)=!v:=by
 have i:-(xs++[v])=-xs+1:=by simp
 have e:uL (-(xs++[v])) (-1)=!(-xs):=by unfold uL;rw[i,a_ (),ax ()];congr 1;lia
 unfold fO;grind
def Bh(b:Expr):Prop:=∀o i,subscripted b M o i=operate [o,i] (getItem o i)
def zP(X:Cx)(r:R2):Prop:=
 ∀(value slice:Expr)(ae:List (Addr×Obj))(s:Shared)(U:St)(H:Hp)(x y:V)(v u:Value)(Q:VK),am X ae U H s->aw x v->aw y u->r x y H Q->
  subscripted slice M v u=operate [v,u] (getItem v u)->wpAny (model X.prog X.w) X.A (subscriptTail value slice v u) (EP X ae U Q) X.xe s
def PP(X:Cx)(id:String)(r:V->List V->Hp->VK->Prop):Prop:=
 ∀(ae:List (Addr×Obj))(s:Shared)(U:St)(H:Hp)(x:V)(xs:List V)(v:Value)(us:List Value)(Q:VK),am X ae U H s->aw x v->ap xs us->r x xs H Q->
  wpAny (model X.prog X.w) X.A (call (.builtin id) (v::us)) (EP X ae U Q) X.xe s
section
variable {X:Cx}{a b:Expr}{ta tb:TE}{pos:Pos}
def zP.or(h:zP X r)(h':zP X r'):zP X (λx y H Q=>r x y H Q\/r' x y H Q):=by
 intro value j ae s U H x y v u Q I D z q hs;obtain q|q:=q
 . show h value j ae s U H x y v u Q I D z q hs
 . show h' value j ae s U H x y v u Q I D z q hs
def RX(W:zP X r)(i:PE X a ta)(N:PE X b tb)(hs:Bh b):PE X (.Subscript a b pos) (T3 r ta tb):=by intro ae s U H Q I h;show Subscript_ (Wm i N I h λv u D x y H2 j F z q=>W a b ae D U H2 x y v u Q j F z q (hs _ _))
def AU(K:FG):R2:=λx y H Q=>∃p xs i v,x=.ref p/\y=.int i/\bY K H p xs/\fO xs i=!v/\Q v H
def AV(K:FG):R2:=λx y H Q=>∃p xs i v,x=.ref p/\y=.int i/\cW K H p xs/\fO xs i=!v/\Q v H
def AW:R2:=λx y H Q=>∃z i c,x=.str z/\y=.int i/\-z<=sizeLine/\fO z.cps.toList i=!c/\Q (.str #[(List.toArray [c])]) H
def Z5:zP X (AU X.K):=by
 intro value N ae s U H x y v u Q I rx ry h hs;let(p,xs,i,z,rfl,rfl,hq,he,q):=h;cases rx;let(t,rfl):=ry;let(F,r,pl,hz):=I.list hq;let(j,h1,h2,h3,h4,h5):=GK he;let(w,ew,D):=r.get h2;let hl:=-r;let hn:=wy;have fin:EP X ae U Q w s:=#[z,H,I,D,q];by_cases W:0<=i
 . have hj:i.toNat=j:=by rw[seqIndex_of W h5]at h1;show fI h1
   show item_listR pl.isList W () ∅ fin hs
 . have hj:(i+(~~~F.toArray:Int)).toNat=j:=by rw[seqIndex_neg () h4]at h1;rw[gL,<-hl];show fI h1
   show subscriptTail_builtinR pl.isList.typeIs slot_list_getitem.lookup
    (wpAny_getItem_list_neg pl.isList () ∅ () ∅ #[O,fin]) hs
def LZ:zP X (AV X.K):=by
 intro value F ae s U H x y v u Q I rx W h hs;let(p,xs,i,z,rfl,rfl,hq,N,q):=h;cases rx;let(t,rfl):=W;let(dS,r,pl,hz):=I.tuple hq;let(j,h1,h2,h3,h4,h5):=GK N;let(w,ew,D):=r.get h2;let hl:=-r;let hn:=wy;show subscriptTail_builtinR pl.typeIs slot_tuple_getitem.lookup
  (getItem_tuple pl () () (by rw[gL,<-hl];show h1) ∅ #[O,#[z,H,I,D,q]]) hs
def L0:zP X AW:=by
 intro value D ae s U H x y v u Q I N F h hs;let(z,i,c,rfl,rfl,hz,he,q):=h;let(t,rfl):=N;let(t',rfl):=F;let(j,h1,h2,h3,h4,h5):=GK he;have W:-z.cps.toList=-z:=by simp[Str.length]
 let hn:=wy;show tail_any (typeIs_str s z t) slot_str_getitem.lookup (getItem_str () ∅ #[.str #[(List.toArray [c])],H,I.tok _,#[_,O],q]) hs
def vT(K:FG):R2:=λx y H Q=>AU K x y H Q\/AV K x y H Q\/AW x y H Q
def Ub:zP X (vT X.K):=Z5.or (LZ.or L0)
def RZ(q:List Value)(n j:Nat)(u:Value):Obj.mapSeq (·.setIfInBounds j u) { cls:=.type "list",data:=.seq q.toArray n }={ cls:=.type "list",data:=.seq (q.set j u).toArray n }:=by simp[Obj.mapSeq]
theorem am.lst{U:St}{H:Hp}{p:Addr}{xs:List V}(I:am X c5 U H s)(h:H p=!(.lst xs)):
 ∃(j:List Value)(n:Nat),ap xs j/\s.heap.get? p=some { cls:=.type "list",data:=.seq j.toArray n }/\-xs<=sizeLine:=by
 let(z,j,n,r,e):=I.hok p _ h;grind
def am.lstUpd{U:St}{j i:List Value}(I:am X c5 U H s)(h:H p=!(.lst xs))
 (Q:s.heap.get? p=some { cls:=.type "list",data:=.seq j.toArray n }) (z:f { cls:=.type "list",data:=.seq j.toArray n }={ cls:=.type "list",data:=.seq i.toArray n' }) (r:ap ys i) (N:-ys<=sizeLine) (t:Nat):
 am X c5 U (aI H p (.lst ys)) { s with heap:=s.heap.update p f,toks:=t }:=by
 have e:(s.heap.update p f).get? p=some { cls:=.type "list",data:=.seq i.toArray n' }:=by rw[mN f Q (by rw[z]<;>rfl),z]
 show I.write (by rw[h];trivial) (Zl O) (λb u W q=>(nN _ _ ∅).trans q) #[_,e] ?_;show#[N,i,n',r,e]
def Y0_:V->V->V->Hp->(Hp->Prop)->Prop:=λo i v H Q=>∃p xs k j,o=.ref p/\i=.int k/\H p=!(.lst xs)/\uL (-xs) k=!j/\Q (aI H p (.lst (xs.set j v)))
def set_list:Wj X Y0_:=by
 intro ae s U H o i v ov iv u Q I ro ri rv h;let(p,xs,k,j,rfl,rfl,N,hj,q):=h;cases ro;let(t,rfl):=ri;let(z,n,r,D,hz):=I.lst N;let(h1,h2,h3,h4):=PK hj;let hl:=-r;let hn:=wy;let I':=
  I.lstUpd N D (RZ z n j u) (r.set rv j) ∅ s.toks
 by_cases F:0<=k
 . have hk:k.toNat=j:=by rw[seqIndex_of F h4]at h1;show fI h1
   show W.ki_setAt D F () ∅ ∅
 . have hk:(k+(~~~z.toArray:Int)).toNat=j:=by rw[seqIndex_neg () h3]at h1;rw[gL,<-hl];show fI h1
   show W.ki_setBack D () ∅ () ∅
def KY(lo hi:Option Int)(n:Nat):(sliceBounds lo hi J n).1=((HT.sIx n 0 lo:Nat):Int)/\(sliceBounds lo hi J n).2.1=((HT.sIx n n hi:Nat):Int)/\(sliceBounds lo hi J n).2.2=1:=by
 show#[?_,?_,O]
 . cases lo with
   |none=>simp[sliceBounds,HT.sIx]
   |some i=>
    simp only[sliceBounds,HT.sIx,Option.getD_none];by_cases h:i<0
    . grind
    . grind
 . cases hi with
   |none=>simp[sliceBounds,HT.sIx]
   |some i=>
    simp only[sliceBounds,HT.sIx,Option.getD_none];by_cases h:i<0
    . grind
    . grind
def JH(j:List Value)(lo hi:Option Int):slicePick j.toArray lo hi J=((j.drop (HT.sIx (-j) 0 lo)).take (HT.sIx (-j) (-j) hi-HT.sIx (-j) 0 lo)).toArray:=by let(h1,h2,q):=KY lo hi j.toArray.size;unfold slicePick;rw[h1,h2,q];simp only[sliceRange_one,pick_run]<;>rfl
def L1(K:FG):V->Option Int->Option Int->Hp->VK->Prop:=λx lo hi H Q=>∃a xs,x=.ref a/\bY K H a xs/\∀p,H p=J->Q (.ref p) (aI H p (.lst (uK xs lo hi)))
def Z6:HS X (L1 X.K):=by intro c5 s U H x v vl vu lo hi sl Q I W hs pl z h;let(a,xs,rfl,F,q):=h;cases W;let(N,r,j,D):=I.list F;let i:=-r;show#["list",_,slot_list_getitem.lookup,j.isList.typeIs,?_];show wpAny_getItem_list_slice j.isList hs pl z .none () ?_ ∅;rw[JH,<-i];show#[.ref (c8 s),_,I.laid (λb ob q=>eJ _ q) () ?_,O,q _ (I.hok.fresh ())];show#[fA (CP xs lo hi) D,_,0,(r.drop (HT.sIx (-xs) 0 lo)).take (HT.sIx (-xs) (-xs) hi-HT.sIx (-xs) 0 lo),ff _ O]
noncomputable def Y4_:V->Bool
 |.non=>G
 |.bl _=>G
 |.int _=>G
 |.str _=>G
 |_=>M
def lX:lO X (.type "list") (λxs H Q=>∃p ys,xs=[.ref p]/\(bY X.K H p ys\/cW X.K H p ys)/\∀l,H l=J->Q (.ref l) (aI H l (.lst ys))):=by
 intro c5 s U H xs us Q I r h;let(p,ys,rfl,N,q):=h;let(u,rfl,rx):=fm r;cases rx;have fin:∀(i:List Value),ap ys i->-ys<=sizeLine->∀(h':Heap)(j:Nat),(∀b o',s.heap.get? b=!o'->h'.get? b=!o')->
  h'.get? (c8 s)=some { cls:=.type "list",dict:=J,data:=.seq i.toArray j,slots:=#[] }->EP X c5 U Q (YV (c8 s)) { s with heap:=h' }:=λi z D h' j kp e=>
  #[.ref (c8 s),_,I.laid kp () (show fG X.prog X.w _ h' _ (.lst ys) from #[D,i,j,z,e]),O,q _ (I.hok.fresh ())]
 obtain N|N:=N
 . let(i,z,pl,D):=I.list N;let F:=-z;let(o,ho,hc,n,W):=pl.isList;show call_list_seq p (Zl O) ho hc W (λh' j kp e=>fin i z D h' j kp e) ∅
 . let(i,z,pl,D):=I.tuple N;let F:=-z;let(o,ho,hc,n,W):=pl;show call_list_seq p (YY O) ho hc W (λh' j kp e=>fin i z D h' j kp e) ∅
def vY(K:FG)(T:String)(x:V)(H:Hp):Prop:=match x with
 |.str _=>T="str"
 |.int _=>T="int"
 |.ref p=>(T="list"/\∃xs,bY K H p xs)\/(T="tuple"/\∃o,K.lookup p=!o/\o.cls=.type "tuple"/\o.dict=J)\/
  (T="dict"/\((∃ay,H p=!(.dK ay))\/∃ay,H p=!(.dT ay)))\/(T="set"/\∃S n,H p=!(.set S n))
 |_=>False
def Uc{U:St}(I:am X ae U H s)(r:aw x v)(j:vY X.K T x H):
 s.TypeIs v T/\∀a,v=YV a->∃N,s.heap.get? a=!N/\N.dict=J:=by
 cases x with
 |str z=>
  let(t,rfl):=r;cases (j);show#[typeIs_str s z t,λ_ e=>nomatch e]
 |int i=>
  let(t,rfl):=r;cases (j);show#[typeIs_int s i t,λ_ e=>nomatch e]
 |ref p=>
  cases r;obtain⟨rfl,xs,W⟩|⟨rfl,o,hk,hc,F⟩|⟨rfl,hk⟩|⟨rfl,S,n,hk⟩:=j
  . let(Q,_,pl,_):=I.list W;show#[pl.isList.typeIs,λa e=>?_];let(o,n,e,c,F,_):=pl;grind
  . show#[#[o,I.kIn p o hk,hc],λa e=>?_];cases e;show#[o,I.kIn _ o hk,F]
  . have z:∃o,s.heap.get? p=!o/\o.ExactDict:=by
     obtain⟨D,hk⟩|⟨D,hk⟩:=hk
     . let(_,_,_,_,o,_,_,e,ex,_):=I.hok p _ hk;grind
     . let(_,_,_,_,o,_,_,e,ex,_):=I.hok p _ hk;grind
    let(o,e,ex):=z;show#[#[o,e,ex.1],λa q=>?_];cases q;show#[o,e,ex.2.1]
  . let(o,_,_,_,e,ex,_):=I.hok p _ hk;show#[#[o,e,ex.1],λa q=>?_];cases q;show#[o,e,ex.2.1]
 |_=>show False.elim j
def AX(K:FG)(T:String)(r:V->List V->Hp->VK->Prop)(to:TE):TE:=λU H Q=>to U H λx H1=>vY K T x H1/\r x [] H1 Q
def KZ(K:FG)(T:String)(r:V->List V->Hp->VK->Prop)(to:TE)(t:TA):TE:=λU H Q=>to U H λx H1=>vY K T x H1/\t U H1 λxs H2=>r x xs H2 Q
variable {o e:Expr}{es:List Expr}{to:TE}{t:TA}{name:Str}{apos cpos:Pos}{T id:String}{r:V->List V->Hp->VK->Prop}
def L3(W:PlainAttrs T)(q:Slot T name id)(z:typeOf (.builtin id)=pure (.type "method_descriptor"))(N:PP X id r)(F:PE X o to)
 (j:attributeBase o name X.env (eval o X.env)=eval o X.env:=by rfl) (i:(apos.endLine==cpos.line)=G:=by rfl):PE X (.Call (.Attribute o name apos) [] [] cpos) (AX X.K T r to):=by
 intro ae s U H Q I h;show wpAny_Call_method0_late j i (dg (F ae s U H _ I h) λv D L4=>?_);let(x,H1,I1,r1,ty,q1):=L4;let(h1,h2):=Uc I1 r1 ty;show#[T,id,W,q,z,h1,h2,Calls.callWith_builtin O (PySem.evalArgs_none (N ae D U H1 x [] v [] Q I1 r1 .nil q1))]
def rR(pa:PlainAttrs T)(q:Slot T name id)(F:typeOf (.builtin id)=pure (.type "method_descriptor"))(hm:PP X id r)(ho:PE X o to)(W:PA X (e::es) t)
 (i:attributeBase o name X.env (eval o X.env)=eval o X.env:=by rfl)
 (z:((backTo cpos (starEach (e::es) X.env)).all (λx=>not x.1)&&(backToKw cpos (keywordEach [] X.env)).all (λx=>x.1.isSome)
   && decide (-(e::es)+-([]:List Keyword)+(if ([]:List Keyword).isEmpty then 0 else 1)<30))=G:=by rfl)
 (j:(apos.endLine==cpos.line)=G:=by rfl) (hs:starEach (e::es) X.env=(M,eval e X.env)::starEach es X.env:=by rfl) (D:(backTo cpos (starEach es X.env)).any (·.1)=M:=by rfl):
 PE X (.Call (.Attribute o name apos) (e::es) [] cpos) (KZ X.K T r to t):=by
 intro ae s U H Q I h;show wpAny_Call_method_late i z j O (dg (ho ae s U H _ I h) λv s1 L5=>?_);let(x,H1,I1,r1,ty,q1):=L5;let(h1,h2):=Uc I1 r1 ty;show#[T,id,pa,q,F,h1,h2,?_];let N:=W cpos ae s1 U H1 _ I1 q1;rw[hs]at N ⊢;show Calls.callWith_builtin () (Calls.evalArgs_plain ?_);show dg N λus s2 L6=>by let(vs,H2,I2,r2,q2):=L6;show hm ae s2 U H2 x vs v us Q I2 r1 r2 q2
end
def Ud(X:Cx)(id:String)(r:V->List V->Hp->VK->Prop):Prop:=
 ∀(ae:List (Addr×Obj))(s:Shared)(U:St)(H:Hp)(x:V)(xs:List V)(v:Value)(us:List Value)(Q:VK),am X ae U H s->aw x v->ap xs us->r x xs H Q->
  wpAny (model X.prog X.w) X.A (call (.builtin id) (v::us)) (EP X ae U Q) X.xe s
theorem ap.one:∀{x:V}{j:List Value},ap [x] j->∃u,j=[u]/\aw x u
 |_,_,.cons r .nil=>#[_,O,r]
theorem ap.two:∀{x y:V}{j:List Value},ap [x,y] j->∃u v,j=[u,v]/\aw x u/\aw y v
 |_,_,_,.cons r (.cons q .nil)=>#[_,_,O,r,q]
theorem ap.zero:∀{j:List Value},ap [] j->j=[]
 |_,.nil=>rfl
theorem ap.dropLast(h:ap xs us):ap xs.dropLast us.dropLast:=by
 induction h with
 |nil=>show .nil
 |cons r t j=>
  cases t with
  |nil=>grind
  |cons q z=>show .cons r j
theorem ap.eraseIdx:∀{xs:List V}{j:List Value}(i:Nat),ap xs j->ap (xs.eraseIdx i) (j.eraseIdx i)
 |_,_,_,.nil=>.nil
 |_,_,0,.cons _ t=>t
 |_,_,i+1,.cons r t=>.cons r (ap.eraseIdx i t)
theorem HW{α:Type}:∀(l:List α)(i:Nat),-(l.eraseIdx i)<=-l
 |[],_=>dP _
 |_::_,0=>mP _
 |_::r,i+1=>Nat.succ_le_succ (HW r i)
section
variable {X:Cx}{ae:List (Addr×Obj)}{U:St}{H:Hp}{s:Shared}{l b:Addr}{xs ys zs:List V}
def am.lset{j i:List Value}(I:am X c5 U H s)(hH:H l=!(.lst xs))
 (e:s.heap.get? l=some { cls:=.type "list",data:=.seq j.toArray n }) (F:f j.toArray=i.toArray) (W:ap ys i) (N:-ys<=sizeLine):
 am X c5 U (aI H l (.lst ys)) { s with heap:=s.heap.update l (Obj.mapSeq f),toks:=t' }:=by
 let q:=PySem.IsL.update e f;rw[F]at q;show I.write (by rw[hH];show trivial) (Zl O) (λb' u hb Q=>(nN s.heap (Obj.mapSeq f) ∅).trans Q) #[_,q] ?_;show#[N,i,_,W,q]
def am.lnew(I:am X ae U H s)(F:ap ys i)(N:-ys<=sizeLine):
 am X ae U (aI H s.heap.objs.size (.lst ys)) { s with heap:=s.heap.push { cls:=.type "list",data:=.seq i.toArray },toks:=t' }:=
 I.laid (λ_ _ q=>eJ _ q) () #[N,i,0,F,ff _ O]
theorem am.fresh(I:am X ae U H s):H s.heap.objs.size=J:=I.hok.fresh ()
def am.lstM(I:am X ae U H s)(q:H l=!(.lst xs)):-xs<=sizeLine/\∃(j:List Value)(n:Nat),ap xs j/\-xs=-j/\s.heap.get? l=some { cls:=.type "list",data:=.seq j.toArray n }:=by let(z,j,n,r,e):=I.hok l _ q;show#[z,j,n,r,-r,e]
def Wy(h:n<=sizeLine):Builtin.List.listTooLong n=M:=lP ()
end
section
variable {X:Cx}
def GP:V->List V->Hp->VK->Prop:=λx vs H Q=>∃l xs y,x=.ref l/\vs=[y]/\H l=!(.lst xs)/\-xs<sizeLine/\Q .non (aI H l (.lst (xs++[y])))
def oY:Ud X "list.append" GP:=by intro c5 s U H x vs v us Q I D N h;let(l,xs,y,rfl,rfl,j,hz,q):=h;cases D;let(u,rfl,W):=N.one;let(z,i,n,r,hl,e):=I.lstM j;show call_meets F.slot_list_append #[_,e,O] F.entry_list_append (F.args_list_append_2 _ _) (PySem.list_append l i.toArray n u ∅) #[e,?_];show#[.non,_,I.lset j e (by simp) (r.append (.cons W .nil)) ?_,O,q];grind
def AY:V->List V->Hp->VK->Prop:=λx vs H Q=>∃l xs y,x=.ref l/\vs=[]/\H l=!(.lst xs)/\xs[-xs-1]?=!y/\Q y (aI H l (.lst xs.dropLast))
def L8:Ud X "list.pop" AY:=by
 intro c5 s U H x vs v us Q I rx rv h;let(l,xs,y,rfl,rfl,N,W,q):=h;cases rx;let j:=rv.zero;subst j;let(z,i,n,r,hl,e):=I.lstM N;let(u,hu,ru):=r.get W;have D:i.toArray[i.toArray.size-1]?=!u:=by show i.toArray[-i-1]?=!u;rw[<-fN,<-hl];show hu
 show call_meets F.slot_list_pop #[_,e,O] F.entry_list_pop (F.args_list_pop_1 _) (MeetsSeq.list_pop_last l i.toArray n u D ∅) #[e,?_];show#[y,_,I.lset N e ?_ r.dropLast ?_,ru,q]
 . grind
 . rw[length_dropLast];lia
def Ue:V->List V->Hp->VK->Prop:=λx vs H Q=>∃l xs i k y,x=.ref l/\vs=[.int i]/\H l=!(.lst xs)/\(Neg.neg (2 ^ 63))<=i/\i<2 ^ 63/\seqIndex? i (-xs)=!k/\xs[k]?=!y/\Q y (aI H l (.lst (xs.eraseIdx k)))
def Wz:Ud X "list.pop" Ue:=by
 intro c5 s U H x vs v us Q I rx rv h;let(l,xs,i,k,y,rfl,rfl,N,h1,h2,hk,W,q):=h;cases rx;let(u,rfl,ru):=rv.one;let(t,rfl):=ru;let(z,D,n,r,hl,e):=I.lstM N;let(w,hw,j):=r.get W;show call_meets F.slot_list_pop #[_,e,O] F.entry_list_pop (F.args_list_pop_2 _ _)
  (MeetsSeq.list_pop_at l D.toArray n i t k w (fitsIndex_both h1 h2) ∅ ∅ ∅) #[e,?_]
 show#[y,_,I.lset N e ?_ (r.eraseIdx k) ?_,j,q]
 . grind
 . have:=HW xs k;lia
end
end L2
namespace AZ
open PySem PySem.W PySem.Calls PyProof.Rows
def Es:∀(ns:List Int)(vs:List Value),WellAll P h vs (ns.map WData.int)->IntsAre vs ns:=by
 intro ns;induction ns with
 |nil=>
  intro vs w;cases w;show .nil
 |cons n ns j=>
  intro vs w;cases w with
  |cons a b=>
   cases a;show .cons _ _ (j _ b)
def Ug{l:OpenLaw}(hn:l.most=!n)
 (j:l.row.toRowW.claim.pre args=G) (N:WellAll P h vals args):
 ∃a vs ns,vals=[Value.ref a]/\args=[WData.list (ns.map WData.int)]/\h.get? a=some { cls:=.type "list",data:=.seq vs.toArray }/\IntsAre vs ns/\ -ns<=n:=by
 let Q:=(pre_splitW j).1;let(d,r,rfl,h1,h2):=hasAllW_cons Q;obtain rfl:=hasAllW_nil h2;let(xs,rfl,h3):=hasW_list h1;let(ns,rfl):=items_int h3;have z:-ns<=n:=by
  have F:(WTm.not (.lt (.lit (.int (n:Int))) (.len (.arg 0)))).holds [] { args:=[.list (ns.map .int)] }=G:=by let F:=(holds_andW ((pre_splitW j).2)).1;rw[hn]at F;show F
  let W:=condW_of F (w_not (w_lt w_lit (w_len_list (w_arg O))))
  first
   |(rw[lS q']at W;show absurd W ())
   |(simp at W;lia)
 cases N with
 |cons q i=>
  cases i;cases q with
  |list ho D=>show#[_,_,ns,O,O,ho,Es ns _ D,z]
def Uh(l:OpenLaw)(j:List WData):l.row.toRowW.claim.post j (.bool G) j=G:=
 postW_of
  (show WShape.has [] (.bool G) .bool=G by first |rfl |decide |simp[WShape.arms])
  (w_eq_bool (w_res O) w_lit) O
def attach_call{l:OpenLaw}
 (hn:l.most=!n) (pE:d.params.defaults=[])
 (call:∀(w:World)(s₀ i:Shared)(mg mb:Str->Option Value)(fa:Addr)(o:Obj)(pm Q j:Value)(a:Addr)(vs:List Value)(ns:List Int),
   Ground q loose [] XP w s₀ mg mb i.heap->YP w i.heap->
   i.heap.get? fa=!o->o.data=.func (docDef d.name d.params d.body d.scope pm Q j)->i.heap.CodeRec Q d.name->mg d.name=!(YV fa)->
   i.heap.get? a=some { cls:=.type "list",data:=.seq vs.toArray }->IntsAre vs ns->-ns<=n->i.gens=#[]->
   codeAny (model l.prog w) callerA (.call (YV fa) #[[YV a],[]]) (λr s'=>r=.ok (.ret (.bool G))/\OldK i.heap s'.heap/\s'.os=i.os/\AllBare s'.gens) i):
 WalkO q loose XP YP l.row.toRowW d [] (λf vs=>PySem.call f vs):=by
 intro w s₀ i mg mb ZT Y_ fa o pm Q j dV kV ho hd px hD W hg args vals as F hlay hrd L9 hlo;obtain rfl:dV=.none:=Dflts.none hD pE;obtain rfl:kV=.none:=Dflts.noKw hD;let(a,vs,ns,rfl,rfl,N,z,D):=Ug hn F L9;show enter_call (codeAny_mono (call w s₀ i mg mb fa o pm Q j a vs ns ZT Y_ ho (fd_plain hd) px W N z D hg) λr s' hq=>?_);let(rfl,h2,h3,h4):=hq;show#[Zl #[.bool G,.bool G,[],O,λ_=>O,.bool G,Uh l _,λ_=>#[Pairwise.nil,λ_ hm=>(nomatch hm)]],h2,h3,h4]
end AZ
namespace L2
open PySem PySem.Spec PyProof.Rows
variable {ae:List (Addr×Obj)}{E:Value->Shared->Prop}{s:Shared}{A:Around}{w:World}{P:Program}
theorem HX:∀{vs:List Value}{ns:List Int},IntsAre vs ns->ap (ns.map V.int) vs
 |_,_,.nil=>.nil
 |_,_,.cons n t h=>.cons #[t,O] (HX h)
def m7(H:Hp):Prop:=∀b,H b=J\/∃o xs,H b=!(.frz o (.lst xs))
def WD{K:FG}
 (KX:K.In i.heap) (oe:i.heap.Ns mainGlobals mg) (D:i.heap.Ns builtinsNs mb) (L_:∀x:Str,x ≠ "__name__"->mb x=bootBuiltins x) (hlim:i.heap.NoLimit) (hg:i.gens=#[])
 (ha:i.heap.get? a=some { cls:=.type "list",data:=.seq vs.toArray }) (hi:IntsAre vs ns) (hl:-ns<=sizeLine) (hr:qM k callerA)
 (F:∀base:Heap,K.In base->base.Ns mainGlobals mg->oK P w K mg base CX k fa fd [x] sp) (W:∀(s:Shared)(u:Value),BindsTo s fd #[[u],[]] [(x,u)])
 (n_:∀H:Hp,m7 H->bY K H a (ns.map V.int)->sp [.ref a] H (λv _=>v=.bl G) λ_ _ _=>False)
 (Mb:∀H e s',CX [] H i (λ_ _ _=>False) e s'->False):
 codeAny (model P w) callerA (.call (YV fa) #[[YV a],[]]) (λr s'=>r=.ok (.ret (.bool G))/\OldK i.heap s'.heap/\s'.os=i.os/\AllBare s'.gens) i:=by
 let rv:=HX hi;let lenV:=-hi;have Q:∀H:Hp,m7 H->bY K H a (ns.map V.int)->jm P w H i.heap->(∀b,H b≠J->b=a)->(H a≠J->K.lookup a=J)->
  codeAny (model P w) callerA (.call (YV fa) #[[YV a],[]]) (λr s'=>r=.ok (.ret (.bool G))/\OldK i.heap s'.heap/\s'.os=i.os/\AllBare s'.gens) i:=by
  intro H hO hS hok hA hK;have j:∀{b:Addr}{o:Obj},i.heap.get? b=!o->H b=J->(xT i.heap H).get? b=!o:=λe n=>Wf e n;have Mc:∀{b:Addr}{o:Obj}{es:Array DictEntry}{ep:Nat},i.heap.get? b=!o->o.data=.dict es ep->H b=J:=λ{b o es ep} e d=>by
   cases q:H b with
   |none=>rfl
   |some u=>
    grind
  have N:∀{b:Addr}{m:Str->Option Value},i.heap.Ns b m->(xT i.heap H).Ns b m:=λ{b m} ⟨o,es,ep,e,d,r⟩=>#[o,es,ep,j e (Mc e d),d,r];let A0:=λb o e=>j (KX b o e) (by
   cases q:H b with
   |none=>rfl
   |some u=>
    let e':=hA b ();subst e';rw[hK ()]at e;cases e)
  show codeAny_mono ((F _ A0 (N oe)).run callerA [] i H #[[YV a],[]] [YV a] [.ref a] _ _ hr #[O,#[A0,N oe,#[mb,N D,L_],let #[mc,h1,h2]:=hlim;#[mc,N h1,h2]],λb o e=>ZC e,Nat.le_of_eq (Tu _ _),trivial,λb D=>absurd (show b∈([]:List Addr) from D) (by simp),hok,.of_eq hg] (W i (YV a)) (.cons O .nil) (n_ H hO hS)) λr s' h=>?_;cases r with
  |error e=>show(Mb H e s' h).elim
  |ok fl=>
   cases fl with
   |next=>show False.elim h
   |brk=>show False.elim h
   |cont=>show False.elim h
   |ret u=>
    let(v,H',os,bare,un,hok',r',q):=h;subst q;obtain rfl:u=Value.bool G:=r';show#[O,OldK.of_keep λb o e=>?_,os,bare];cases q:H b with
    |none=>show un.keep b o e q (by intro z;show absurd (show b∈([]:List Addr) from z) (by simp)) (by simp)
    |some u=>
     obtain z|⟨ob,xs,z⟩:=hO b
     . grind
     . let z2:=un.frzs b ob _ z;let(e1,_):=hok b _ z;let(e2,_):=hok' b _ z2;rw[e]at e1;cases e1;show e2
 cases hk:K.lookup a with
 |some o=>
  let e:=KX a o hk;rw[ha]at e;cases e;show Q (λ_=>J) (λ_=>Zl O) (YY #[_,vs.toArray,_,hk,O,O,O,by rw[gL,lenV];show hl,by simpa using rv]) (λb u z=>by let z':=z;cases z') (λb z=>absurd O z) λz=>absurd O z
 |none=>
  show Q (λb=>if b=a then !(.frz { cls:=.type "list",data:=.seq vs.toArray } (.lst (ns.map V.int))) else J) (λb=>?_) (Zl (YY #[{ cls:=.type "list",data:=.seq vs.toArray },ax O])) (λb u z=>?_) (λb z=>?_) λ_=>hk
  . by_cases D:b=a
    . show YY #[_,_,ax D]
    . show Zl (a_ D)
  . by_cases D:b=a
    . let z':=(ax D).symm.trans z;cases z';subst D;show#[ha,by rw[da];show hl,vs,_,rv,ha]
    . let z':=(a_ D).symm.trans z;cases z'
  . by_cases D:b=a
    . show D
    . show absurd (a_ D) z
def walk_of{l:W.OpenLaw}{K:Params->FG}{CX:World->yV}{sp:World->Sp}
 (hn:l.most=!n) (sC:n<=sizeLine) (pE:d.params.defaults=[]) (hr:qM k callerA)
 (N:∀(w:World)(h:Heap),YP w h->(K w.params).In h)
 (F:∀(w:World)(mg:Str->Option Value)(fa:Addr)(h:Heap),(K w.params).In h->h.Ns mainGlobals mg->mg d.name=!(YV fa)->
   ∃fd:FuncData,(∀(s:Shared)(u:Value),BindsTo s fd #[[u],[]] [(x,u)])/\
    ∀base:Heap,(K w.params).In base->base.Ns mainGlobals mg->oK l.prog w (K w.params) mg base (CX w) k fa fd [x] (sp w))
 (n_:∀(w:World)(H:Hp)(a:Addr)(ns:List Int),-ns<=n->m7 H->bY (K w.params) H a (ns.map V.int)->sp w [.ref a] H (λv _=>v=.bl G) λ_ _ _=>False)
 (D:∀(w:World)(H:Hp)(s:Shared)(e:Value)(s':Shared),CX w [] H s (λ_ _ _=>False) e s'->False):
 W.WalkO q loose XP YP l.row.toRowW d [] (λf vs=>PySem.call f vs):=by
 show AZ.attach_call hn pE λw s₀ s₁ mg mb fa o pm cd l3 a vs ns ZT Y_ ho hd px Q z i j hg=>?_;let KX:=N w _ Y_;let(fd,hb,hF):=F w mg fa _ KX ZT.T.g Q;show WD KX ZT.T.g ZT.T.b ZT.T.builtins ZT.T.nolimit hg z i () hr hF hb (λH hO hS=>n_ w H a ns j hO hS) λH e s'=>D w H s₁ e s'
def ed(s:Stmt)(j:Nat):Stmt:=match s with
 |.ClassDef _ _ _ body _ _ _ _ _ _ _=>body.getD j (.Pass #[0,0,0,0])
 |_=>.Pass #[0,0,0,0]
def qO(s:Stmt):Arguments:=match s with
 |.FunctionDef _ a _ _ _ _ _ _ _ _=>a
 |_=>{ posonlyargs:=[],args:=[],vararg:=J,kwonlyargs:=[],kw_defaults:=[],kwarg:=J,defaults:=[] }
def jC(s:Stmt):List Stmt:=match s with
 |.FunctionDef _ _ b _ _ _ _ _ _ _=>b
 |_=>[]
def aG(s:Stmt):Scope:=match s with
 |.FunctionDef _ _ _ _ _ _ sc _ _ _=>sc
 |_=>{ kind:=.function,names:=[],isGenerator:=M,isCoroutine:=M }
abbrev qD:yV:=λ_ _ _ _ _ _=>False
abbrev E0:XK:=λ_ _ _=>False
def J6:zM qD X E0:=λ_ _ _ _ _ _ _ h=>h.elim
structure vD(K:FG)(x qual:Str)(st:Stmt)(f:Addr)(fd:FuncData):Prop where
 ex:∃(oc:Value)(od:Option Addr)(kV l3 pm:Value)(an:Option Addr)(i_ ct:Value)(n9:Array (Option Value)),
  fd=W.fnOf x qual (qO st) (jC st) (aG st) .none kV l3 pm an i_ ct/\K.lookup f=!#[oc,od,.func fd,n9]/\W.codeIn K i_ qual=true
 kp:W.keepIn K (.ref f)=true
section
variable {P:Program}{w:World}{K:FG}{mg:Str->Option Value}{base:Heap}
def vD.ok{st:Stmt}(F:vD K x qual st f fd)(S:bz N ps (aG st))(len:∀vs H Q E,sp vs H Q E->-vs=-ps)
 (z:∀(j:Value)(A:Around)(i:List Env)(s:Shared)(H:Hp)(vs:List V)(Q:VK)(E:XK),gn b k (A.deeper (envOfC qual (aG st) s.heap.objs.size f j))->sp vs H Q E->
   ∃t,jP (vC b qD P w K mg base N qual (aG st) f j A i s H E).nox (jC st) t/\t { nx:=λ_ H'=>Q .non H',rt:=Q } (start N vs) H):t6 b P w K mg base qD (k+1) f fd ps sp:=by
 let(oc,od,kV,l3,pm,an,j,ct,n9,rfl,lk,D):=F.ex;show LM lk D S len λA i s H vs Q E hr W=>?_;let(t,h,q):=z j A i s H vs Q E hr W;show#[t,h.nox,q]
def vD.binds{st:Stmt}(F:vD K x qual st f fd)
 (h:∀(kV i z:Value)(N:Option Addr)(j D:Value)(q:List Value),-q=-ps->bindArgs (W.fnOf x qual (qO st) (jC st) (aG st) .none kV i z N j D) #[q,[]]=pure (ps.zip q)):eP K fd ps []:=by
 let(oc,od,kV,i,z,N,j,D,n9,rfl,lk,Q):=F.ex;show .all ∅
def zQ{st:Stmt}{kV q D j z:Value}(l:K.lookup f=!#[oc,od,.func (W.fnOf x qual (qO st) (jC st) (aG st) .none kV q D an j z),n9])
 (c:W.codeIn K j qual=G) (k:W.keepIn K (YV f)=G):vD K x qual st f (W.fnOf x qual (qO st) (jC st) (aG st) .none kV q D an j z):=#[#[oc,od,kV,q,D,an,j,z,n9,O,l,c],k]
end
def Bj(j:gn b k A):A.units+1<cLine:=r9 () j.units
section
variable {X:Cx}
def pv(i:Nat){pos:Pos}(q:X.N[i]?=!x:=by rfl)(z:Tv X.env.scope x:=by first |show Or.inl O |show Or.inr (Or.inl O) |show Or.inr (Or.inr O))(D:(x==("__debug__" : Str))=M:=by decide)
 (j:(x==("__classdict__" : Str))=M:=by decide):PE X (.Name x pos) (uH i):=IU q z D j
end
def eY_(H H':Hp):Prop:=∀b o,H b=!o->H' b=!o
def eY_.refl(H:Hp):eY_ H H:=λ_ _ h=>h
def eY_.trans(a:eY_ H H1)(b:eY_ H1 H2):eY_ H H2:=λc o h=>b c o (a c o h)
def eY_.free(e:eY_ H H')(h:H' l=Option.none):H l=Option.none:=by
 cases q:H l with
 |none=>rfl
 |some o=>
  rw[e l o q]at h;cases h
def eY_.seq{K:FG}(e:eY_ H H')(h:bY K H a xs):bY K H' a xs:=by
 obtain (h|⟨o,h⟩)|h:=h
 . show Zl (Zl (e _ _ h))
 . show Zl (YY #[o,e _ _ h])
 . show YY h
section
variable {κ:Type}[DecidableEq κ]
noncomputable def qP (ay:List (κ×V)) (k:κ):Option V:=(ay.find? λkv=>decide (kv.1=k)).map (·.2)
noncomputable def e6 (ay:List (κ×V)) (k:κ) (v:V):List (κ×V):=
 if (ay.any λkv=>decide (kv.1=k))=G then ay.map (λkv=>if kv.1=k then (kv.1,v) else kv) else ay++[(k,v)]
def xW{k:κ}(e:p.1=k):qP (p::r) k=!p.2:=by simp[qP,e]
def xX{k:κ}(e:¬ p.1=k):qP (p::r) k=qP r k:=by simp[qP,e]
theorem xY(k:κ):∀i:List (κ×V),(i.any λj=>decide (j.1=k))=(qP i k).isSome
 |[]=>rfl
 |p::r=>by
  rw[va];by_cases e:p.1=k
  . simp only[xW e,lS e,Bool.true_or,Option.isSome_some]
  . rw[xX e,lP e,Bool.false_or];show xY k r
def CQ(i:List (κ×V))(k:κ)(v:V):-(e6 i k v)<=-i+1:=by
 unfold e6;split
 . grind
 . grind
def WF{k:κ}(v:V)(h:qP ay k=J):e6 ay k v=ay++[(k,v)]:=by unfold e6;rw[xY,h];grind
def nH.isSome_eq(r:nH o u):o.isSome=u.isSome:=by
 cases o with
 |none=>cases u with
  |none=>rfl
  |some _=>show(r).elim
 |some _=>cases u with
  |none=>show(r).elim
  |some _=>rfl
def KV.val(r:KV ay vs)(k:κ):nH (qP ay k) (valueAt vs k):=by
 induction r with
 |nil=>show i7
 | @cons p q ps D h t F=>
  let(h1,h2):=h;by_cases e:p.1=k
  . let j:=h1.symm.trans e;have b:valueAt (q::D) k=!q.2:=by simp[valueAt,j]
    rw[xW e,b];show h2
  . have j:¬ q.1=k:=λz=>e ∅;have b:valueAt (q::D) k=valueAt D k:=by simp[valueAt,j]
    rw[xX e,b];grind
theorem KV.any(r:KV ay vs)(k:κ):(ay.any λj=>decide (j.1=k))=vs.any λj=>decide (j.1=k):=by
 induction r with
 |nil=>rfl
 |cons h t q=>grind
def KV.repl(r:KV ay vs)(k:κ)(z:aw y u):
 KV (ay.map λi=>if i.1=k then (i.1,y) else i) (vs.map λi=>if i.1=k then (i.1,u) else i):=by
 induction r with
 |nil=>show .nil
 | @cons p q ps D h t j=>
  show .cons ?_ j;by_cases e:p.1=k
  . grind
  . grind
def KV.put(r:KV ay vs)(k:κ)(j:aw y u):KV (e6 ay k y) (stored vs k u):=by
 unfold e6 stored;rw[r.any k];by_cases e:(vs.any λq=>decide (q.1=k))=G
 . rw[ax e,ax e];show r.repl k j
 . rw[a_ e,a_ e];show Paired.snoc r #[O,j]
theorem KV.length{vs:List (κ×Value)}(r:KV ay vs):-ay=-vs:=Paired.length r
end
def J7(r:aw (kV k) u):(fW P w).is k u=G:=by
 cases k with
 |inl i=>let(t,e):=(r);subst e;show Oo P w i t
 |inr x=>let(t,e):=(r);subst e;show Oq P w x t
theorem HY:∀{ks:List d3}{i:List Value},ap (ks.map kV) i->ItemsAre (fW P w) ks i
 |[],_=>λr=>by  cases r;show .nil
 |k::ks,_=>λr=>by
  cases r with
  |cons h t=>show .cons (J7 h) (HY t)
abbrev KT(H:Hp):List (List d3×V)->List (List d3×Addr×Value)->Prop:=Paired λp q=>p.1=q.1/\H q.2.1=!(.tup (p.1.map kV))/\aw p.2 q.2.2
def KT.val(r:KT H ay xs)(k:List d3):nH (qP ay k) ((atKey xs k).map (·.2)):=by
 induction r with
 |nil=>show i7
 | @cons p q ps D h t F=>
  let(h1,_,h2):=h;by_cases e:p.1=k
  . let j:=h1.symm.trans e;have b:atKey (q::D) k=!q.2:=by simp[atKey,j]
    rw[xW e,b];show h2
  . have j:¬ q.1=k:=λz=>e ∅;have b:atKey (q::D) k=atKey D k:=by simp[atKey,j]
    rw[xX e,b];grind
def KT.repl(r:KT H ay xs)(k:List d3)(D:aw y u):
 KT H (ay.map λi=>if i.1=k then (i.1,y) else i) (xs.map (putAt k u)):=by
 induction r with
 |nil=>show .nil
 | @cons p q ps F h t j=>
  show .cons ?_ j;unfold putAt;by_cases e:p.1=k
  . grind
  . grind
def KT.put(r:KT H ay xs)(k:List d3)(D:H b=!(.tup (k.map kV)))(j:aw y u):
 KT H (e6 ay k y) (storedH xs k b u):=by
 have e:(ay.any λz=>decide (z.1=k))=(atKey xs k).isSome:=by rw[xY,(r.val k).isSome_eq,Option.isSome_map]
 unfold e6 storedH;rw[e];by_cases q:(atKey xs k).isSome=G
 . rw[ax q,ax q];show r.repl k j
 . rw[a_ q,a_ q];show Paired.snoc r #[O,D,j]
def KT.keeps(r:KT H ay xs)(j:∀b ys,H b=!(.tup ys)->H' b=!(.tup ys)):KT H' ay xs:=
 Paired.mapP r λ_ _ z=>#[z.1,j _ _ z.2.1,z.2.2]
section
variable {P:Program}{w:World}{H:Hp}{h:Heap}{a:Addr}
def Y5(ok:jm P w H h)(e:Rd H a u):fG P w H h a u:=e.ok ok
def R1(ok:jm P w H h)(e:Rd H a (.dK ay)):-ay<=sizeLine/\(a==sysModules)=M/\∃vs,KV ay vs/\h.DictOf (fW P w) a vs:=
 show fG P w H h a (.dK ay) from Y5 ok e
def Me(ok:jm P w H h)(e:H a=!(.dK ay)):-ay<=sizeLine/\(a==sysModules)=M/\∃vs,KV ay vs/\h.DictOf (fW P w) a vs:=R1 ok (Zl e)
def K1(ok:jm P w H h)(e:H a=!(.tup (ks.map kV))):(tupleKind (fW P w)).is h ks a:=by let(_,j,r,o,h1,h2,n,q):=(ok a _ e);show#[o,j.toArray,n,h1,h2,q,by simpa using HY r]
def R3(ok:jm P w H h)(e:Rd H a (.dT ay)):-ay<=sizeLine/\(a==sysModules)=M/\
 ∃xs,KT H ay xs/\h.DictOfH (tupleKind (fW P w)) a xs:=by
 let(z,y,xs,r,o,es,D,h1,h2,j,N,F):=(Y5 ok e);show#[z,y,xs,r,o,es,D,h1,h2,j,N,λx i=>?_,F];have all:∀{l:List (List d3×V)}{m:List (List d3×Addr×Value)},KT H l m->∀x∈m,(tupleKind (fW P w)).is h x.1 x.2.1:=by
  intro l m q;induction q with
  |nil=>grind
  | @cons p q ps W Q t ih=>
   intro x i;obtain e|i:=bh.mp i
   . show K1 ok ∅
   . grind
 grind
def Mn(ok:jm P w H h)(e:H a=!(.dT ay)):-ay<=sizeLine/\(a==sysModules)=M/\
 ∃xs,KT H ay xs/\h.DictOfH (tupleKind (fW P w)) a xs:=R3 ok (Zl e)
end
def WK(H:Hp)(a:Addr)(y:V)(r:Option V):Prop:=
 (∃ay k,Rd H a (.dK ay)/\y=kV k/\r=qP ay k)\/∃ay k b,Rd H a (.dT ay)/\y=.ref b/\H b=!(.tup (k.map kV))/\r=qP ay k
def A1(H:Hp)(a:Addr)(y v:V)(H':Hp):Prop:=
 (∃ay k,H a=!(.dK ay)/\y=kV k/\-ay<sizeLine/\H'=aI H a (.dK (e6 ay k v)))\/
 ∃ay k b,H a=!(.dT ay)/\y=.ref b/\H b=!(.tup (k.map kV))/\-ay<sizeLine/\H'=aI H a (.dT (e6 ay k v))
section
variable {X:Cx}{ae:List (Addr×Obj)}{U:St}{H:Hp}{s:Shared}{a:Addr}{y v:V}{u r:Value}{o:Option V}{A:Around}{E:Value->Shared->Prop}
def am.big(I:am X ae U H s):sysModules< ~~~s.heap.objs:=by let h:=(I.mod.glob.keeps I.bk).lt;show Nat.lt_trans () h
def Ui(hu:A.units+1<cLine)(I:am X c5 U H s)(g:WK H a y (!v))(ry:aw y u)(h:∀q s',am X c5 U H s'->aw v q->Q q s'):
 wpAny (model X.prog X.w) A (getItem (YV a) u) Q E s:=by
 obtain⟨W,k,e,N,l⟩|⟨W,k,b,e,N,eb,l⟩:=g
 . subst N;let(z,hd,vs,j,D):=R1 I.hok e;let(q,hw,i):=nH.some_of (by rw[l];show j.val k);show wpAny_getItem_of (J7 ry) D.mapOf hw (h q _ (I.tok _) i)
 . subst N;cases (ry);let(z,hd,xs,j,D):=R3 I.hok e;let(q,hw,i):=nH.some_of (by rw[l];show j.val k);let(p,hp,F):=Option.map_eq_some_iff.mp hw;show wpAny_getItem_heap (tupleKind_room_in1 hu) (K1 I.hok eb) D hp ?_;rw[F];show h q _ (I.tok _) i
def GQ(I:am X ae U H s)(mu:Tt (H a))(hs:Heap.SameBut a s.heap h')(he:∃q,h'.get? a=!q)(new:fG X.prog X.w (aI H a ob) h' a ob):
 am X ae U (aI H a ob) { s with heap:=h',toks:=t' }:=
 I.write mu (Zl O) (λb q F z=>(hs.2 b F).trans z) he new
def Mo(z:-ay<=sizeLine)(D:(a==sysModules)=M)(j:KV ay vs)(q:h'.DictOf (fW P w) a vs):
 fG P w H' h' a (.dK ay):=#[z,D,vs,j,q]
def Uj(hu:A.units+1<cLine)(I:am X c5 U H s)(g:A1 H a y v H')(ry:aw y u)(rv:aw v r)(h:∀s',am X c5 U H' s'->Q ⟨⟩ s'):
 wpAny (model X.prog X.w) A (setItem (YV a) u r) Q E s:=by
 obtain⟨j,k,e,ey,l,W⟩|⟨j,k,b,e,ey,eb,l,W⟩:=g
 . subst ey W;let(z,hd,vs,i,N):=Me I.hok e;have hz:-vs<=sizeLine:=by rw[<-(-i)];show z
   have hl:-(e6 j k v)<=sizeLine:=by have:=CQ j k v;lia
   show wpAny_setItem_pairs (J7 ry) N λh' D hs=>h _ ?_;have he:∃q,h'.get? a=!q:=let #[q,_,_,F,_]:=D;#[q,F];show GQ I (by rw[e];show i7) hs he (Mo hl hd (i.put k rv) D)
 . subst ey W;cases (ry);let(z,hd,xs,i,N):=Mn I.hok e;have hz:-xs<=sizeLine:=by rw[<-Paired.length i];show z
   have hl:-(e6 j k v)<=sizeLine:=by have:=CQ j k v;lia
   show wpAny_setItem_heap (tupleKind_room_in1 hu) (K1 I.hok eb) N λh' D hs=>h _ ?_;let(q,es,ep,F,h2,h3,h4,_,h5):=D;show GQ I (by rw[e];show i7) hs #[q,F] #[hl,hd,_,(i.put k eb rv).keeps λc ys ec=>?_,q,es,ep,F,h2,h3,h4,h5];rw[cV ∅];show ec
end
def Ot{U:St}(I:am X ae U H s)(g:WK H a y o):s.TypeIs (YV a) "dict":=by
 obtain⟨i,k,e,_⟩|⟨i,k,b,e,_⟩:=g
 . let(_,_,q,_,j):=R1 I.hok e;show j.typeIs
 . let(_,_,xs,_,j):=R3 I.hok e;show j.typeIs
def WL(h:Heap)(j:sysModules< ~~~h.objs):fG P w H (h.push { cls:=.type "dict",data:=.dict #[] }) h.objs.size (.dK []):=
 #[gz _,pc.mpr ∅,[],.nil,Heap.DictOf.new h]
def MA(h:Heap)(j:sysModules< ~~~h.objs):fG P w H (h.push { cls:=.type "dict",data:=.dict #[] }) h.objs.size (.dT []):=
 #[gz _,pc.mpr (),[],.nil,_,#[],0,ff _ O,#[O,O,O],O,O,oP]
def MB:TE:=λ_ H Q=>∀p,H p=J->Q (.ref p) (aI H p (.dK []))
def MC:TE:=λ_ H Q=>∀p,H p=J->Q (.ref p) (aI H p (.dT []))
section
variable {X:Cx}{pos:Pos}
def WM:PE X (.Dict [] [] pos) MB:=λc5 s U H Q I h=>
 wpAny_Dict_empty #[.ref (c8 s),_,I.laid (λ_ _ q=>eJ _ q) () (WL s.heap I.big),O,h _ (I.hok.fresh ())]
def MD:PE X (.Dict [] [] pos) MC:=λae s U H Q I h=>
 wpAny_Dict_empty #[.ref s.heap.objs.size,_,I.laid (λ_ _ q=>eJ _ q) () (MA s.heap I.big),O,h _ (I.hok.fresh ())]
end
noncomputable def vG (names:List (Str×NameKind)) (env:Env):List (Str×Addr):=names.foldl (λcs p=>if (p.2==NameKind.free)=G then (p.1,(env.cells.lookup p.1).getD 0)::cs else cs) []
theorem zR{env:Env}:∀(i:List (Str×NameKind))(cs:List (Str×Addr))(x:Str)(c:Addr),
 (∀y d,cs.lookup y=!d->d=(env.cells.lookup y).getD 0)->
 (i.foldl (λcs p=>if (p.2==NameKind.free)=G then (p.1,(env.cells.lookup p.1).getD 0)::cs else cs) cs).lookup x=!c->c=(env.cells.lookup x).getD 0
 |[]=>λcs x c h e=>h x c e
 |(n,k)::r=>λcs x c h e=>by
  simp only[kz]at e;show zR r _ x c ?_ e;intro y d q;split at q
  . simp only[ku]at q;split at q
    . rename_i z
      grind
    . grind
  . grind
theorem Et{env:Env}:∀(i:List (Str×NameKind))(cs:List (Str×Addr))(x:Str)(c:Addr),
 (i.foldl (λcs p=>if (p.2==NameKind.free)=G then (p.1,(env.cells.lookup p.1).getD 0)::cs else cs) cs).lookup x=!c->(∃d,cs.lookup x=!d)\/(x,NameKind.free)∈i
 |[]=>λcs x c e=>Zl #[c,e]
 |(n,k)::r=>λcs x c e=>by
  simp only[kz]at e;obtain⟨d,q⟩|q:=Et r _ x c e
  . split at q
    . rename_i hk;simp only[ku]at q;split at q
      . rename_i z
        have D:k=NameKind.free:=by simpa using hk
        grind
      . grind
    . grind
  . grind
theorem zU{env:Env}:∀(i:List (Str×NameKind))(cs:List (Str×Addr))(x:Str),
 ((∃d,cs.lookup x=!d)\/(x,NameKind.free)∈i)->∃c,(i.foldl (λcs p=>if (p.2==NameKind.free)=G then (p.1,(env.cells.lookup p.1).getD 0)::cs else cs) cs).lookup x=!c
 |[]=>λcs x h=>by
  obtain h|h:=h
  . show h
  . cases h
 |(n,k)::r=>λcs x h=>by
  simp only[kz];show zU r _ x ?_;obtain⟨d,h⟩|h:=h
  . left;split
    . simp only[ku];split
      . grind
      . grind
    . grind
  . obtain e|h:=bh.mp h
    . grind
    . grind
theorem tH:∀(i:List (Str×NameKind))(cs:List (Str×Addr)),(∀p∈i,p.2=NameKind.free->∃c,env.cells.lookup p.1=!c)->
 (forIn i cs λp r=>if (p.2==NameKind.free)=G then do let a <-cellOf env p.1;pure (ForInStep.yield ((p.1,a)::r)) else pure (ForInStep.yield r):Sem (List (Str×Addr)))=
  pure (i.foldl (λcs p=>if (p.2==NameKind.free)=G then (p.1,(env.cells.lookup p.1).getD 0)::cs else cs) cs)
 |[]=>λcs _=>by simp
 |(n,k)::r=>λcs h=>by
  rw[forIn_cons,kz];by_cases hk:(k==NameKind.free)=G
  . let(c,z):=h (n,k) cS ∅;let q:=z;simp only[hk,cellOf,q];show tH r _ λp j=>h p (d_ _ j)
  . simp only[hk];show tH r _ λp j=>h p (d_ _ j)
def yW(h:∀p∈sc.names,p.2=NameKind.free->∃c,env.cells.lookup p.1=!c):closureFor sc env=pure (vG sc.names env):=by have:=tH sc.names [] h;unfold closureFor vG;grind
theorem qQ{env:Env}:∀(i:List (Str×NameKind))(x:Str),
 (i.map λ(n,k)=>if (k==NameKind.free&&env.scope.kind==.function&&env.kindOf n==!.cell) then (n,NameKind.cell) else (n,k)).lookup x=
  (i.lookup x).map λk=>if (k==NameKind.free&&env.scope.kind==.function&&env.kindOf x==!.cell) then NameKind.cell else k
 |[]=>λx=>rfl
 |(n,k)::r=>λx=>by
  let j:=qQ (env:=env) r x;by_cases q:x=n
  . grind
  . grind
theorem jK:∀(i:List (Str×NameKind))(n:Nat)(acc:List (Str×Addr)),(cellsFrom n i acc).lookup x=!a->n<=a\/acc.lookup x=!a
 |[]=>λ_ _ h=>YY h
 |(y,k)::r=>λn acc h=>by
  unfold cellsFrom at h;split at h
  . obtain q|q:=jK r _ _ h
    . grind
    . rw[ku]at q;split at q
      . grind
      . grind
  . show jK r _ _ h
theorem zV:∀(i:List (Str×NameKind))(n:Nat)(acc:List (Str×Addr)),(∀z b,acc.lookup z=!b->b<n)->(cellsFrom n i acc).lookup x=!a->(cellsFrom n i acc).lookup y=!a->n<=a->x=y
 |[]=>λ_ _ h h1 h2 j=>absurd (h _ _ h1) ∅
 |(z,k)::r=>λn acc h h1 h2 j=>by
  unfold cellsFrom at h1 h2;split at h1
  . rename_i hk;rw[ax hk]at h2;have one:∀{w:Str},(cellsFrom (n+1) r ((z,n)::acc)).lookup w=!a->a=n->w=z:=λ{w} e e'=>by
     obtain q|q:=jK r _ _ e
     . grind
     . rw[ku]at q;split at q
       . grind
       . grind
    by_cases e:a=n
    . grind
    . show zV r (n+1) _ (λw b q=>?_) h1 h2 ∅;rw[ku]at q;split at q
      . grind
      . grind
  . rename_i hk;rw[a_ hk]at h2;show zV r n acc h h1 h2 j
theorem zW:∀(i:List (Str×NameKind))(n:Nat)(acc:List (Str×Addr)),i.lookup x=!.cell->(cellsFrom n i acc).lookup x=!a->n<=a
 |[]=>λ_ _ h _=>by cases h
 |(y,k)::r=>λn acc h h1=>by
  rw[ku]at h;unfold cellsFrom at h1;split at h
  . cases h;obtain q|q:=jK r _ _ h1
    . grind
    . grind
  . split at h1
    . show rQ (zW r _ _ h h1)
    . show zW r _ _ h h1
theorem zX:∀(i:List (Str×NameKind))(n:Nat)(acc:List (Str×Addr)),(∀p∈i,p.2=.cell->p.1≠x)->(cellsFrom n i acc).lookup x=acc.lookup x
 |[]=>λ_ _ _=>rfl
 |(y,k)::r=>λn acc h=>by
  unfold cellsFrom;split
  . rw[zX r _ _ λp j=>h p (d_ _ j),ku,show (x==y)=M from pc.mpr λe=>h _ cS ∅ e.symm]
  . show zX r _ _ λp j=>h p (d_ _ j)
theorem xZ:∀(i:List (Str×NameKind))(h:Heap)(acc:List (Str×Addr))(x:Str)(a:Addr),(cellsFrom h.objs.size i acc).lookup x=!a-> ~~~h.objs<=a->(∀z b,acc.lookup z=!b->b< ~~~h.objs)->(pushCells h i).IsCell a J
 |[]=>λh acc x a e F j=>absurd (j _ _ e) ∅
 |(y,k)::r=>λh acc x a e F j=>by
  unfold cellsFrom at e;unfold pushCells;split at e
  . rename_i hk;rw[ax hk];let N:=oI h ({ cls:=.type "cell",data:=.cell J }:Obj);by_cases q:a= ~~~h.objs
    . subst q;show#[_,pushCells_keeps r _ _ _ (ff _ O),O]
    . show xZ r _ ((y,~~~h.objs)::acc) x a ∅ ∅ λz b D=>?_;rw[N];rw[ku]at D;split at D
      . grind
      . grind
  . rename_i hk;rw[a_ hk];show xZ r h acc x a e F j
abbrev oM(sc:Scope)(C:Addr)(env:Env):List (Str×Addr):=cellsFrom (C+1) sc.names (vG sc.names env)
structure jE(X:Cx)(ZO F:List Str)(dE:List Nat)(sc:Scope):Prop where
 kind:sc.kind=.function
 locs:∀y∈sc.names,y.2=.local->sc.names.lookup y.1=!.local
 cel:∀y∈sc.names,y.2=.cell->sc.names.lookup y.1=!.cell
 own:∀p∈sc.names,p.2=.free->X.env.scope.names.lookup p.1=!.cell\/X.env.scope.names.lookup p.1=!.free
 frs:∀x∈F,sc.names.lookup x=!.free
 ixl:-dE=-F
 ixn:∀(j i:Nat),dE[j]?=!i->X.N[i]?=F[j]?
abbrev zY(m:Nat)(dE:List Nat)(U:St):St:=replicate m J++dE.map λi=>(U[i]?).join
def gC(X:Cx)(ZO F:List Str)(sc:Scope)(C:Addr)(fp:List Addr)(s:Shared)(H:Hp):Cx where
 prog:=X.prog
 w:=X.w
 K:=X.K
 mg:=X.mg
 base:=X.base
 A:=X.A
 N:=ZO++F
 s₀:=s
 H0:=H
 env:=compEnvC sc (oM sc C X.env) C X.env
 outer:=X.stack
 stack:=X.stack
 ex:=fp
 fn:=λx=>sc.names.lookup x==!.cell
 calm:=X.calm
 pn:=[]
 xe:=λ_ _=>False
section
variable {X:Cx}{ae:List (Addr×Obj)}{U:St}{H:Hp}{s:Shared}
def jE.free_of(c:jE X ZO F dE sc)(h:sc.names.lookup x=!k):(x,k)∈sc.names:=by
 generalize sc.names=l at h;induction l with
 |nil=>cases h
 |cons p r j=>
  rw[ku]at h;split at h
  . rename_i z
    grind
  . grind
def Dm(I:am X ae U H s)(c:jE X ZO F dE sc):∀p∈sc.names,p.2=NameKind.free->∃a,X.env.cells.lookup p.1=!a:=λp j e=>
 I.ok.has p.1 (by obtain h|h:=c.own p j e;show Zl h;show YY h)
def je(I:am X ae U H s)(c:jE X ZO F dE sc)(h:(vG sc.names X.env).lookup x=!a):X.env.cells.lookup x=!a:=by
 let e:=zR sc.names [] x a (λy d q=>by cases q) h;obtain⟨d,q⟩|q:=Et sc.names [] x a h
 . cases q
 . let(b,j):=Dm I c _ q O;grind
def Uk(I:am X ae U H s)(c:jE X ZO F dE sc)(h:(vG sc.names X.env).lookup x=!a):a< ~~~s.heap.objs:=by let(v,o,j,_):=I.cell x a (je I c h);show dQ j
def Z7(I:am X c5 U H s)(c:jE X ZO F dE sc){C:Addr}(N: ~~~s.heap.objs<=C)(Q:∀b∈fp,nJ X c5 H b)(ho:∀b∈fp,∃o,s.heap.get? b=!o):(gC X ZO F sc C fp s H).Ok where
 mod:=I.ok.mod
 kind:=c.kind
 glob:=I.ok.glob
 blt:=I.ok.blt
 above:=N
 inj:=λx y a e1 e2=>by
  let j:=e1;let D:=e2;have lt:∀z b,(vG sc.names X.env).lookup z=!b->b<C+1:=λz b q=>jS (gu (Uk I c q) N);obtain q|q:=jK _ _ _ j
  . show zV _ _ _ lt j D q
  . obtain W|W:=jK _ _ _ D
    . grind
    . show I.ok.inj x y a (je I c q) (je I c W)
 has:=λx h=>by
  have h':((sc.names.lookup x).map λk=>if (k==NameKind.free&&X.env.scope.kind==.function&&X.env.kindOf x==!.cell) then NameKind.cell else k)=!.cell\/((sc.names.lookup x).map λk=>if (k==NameKind.free&&X.env.scope.kind==.function&&X.env.kindOf x==!.cell) then NameKind.cell else k)=!.free:=by rw[<-qQ];show h
  show vi.mp (vt _ _ _ ?_);cases e:sc.names.lookup x with
  |none=>grind
  |some k=>
   let m:=c.free_of e;cases k with
   |free=>show YY (vi.mpr (zU sc.names [] x (YY m)))
   |cell=>grind
   |_=>grind
 cab:=λx a h e=>fA N (rQ (zW _ _ _ (beq_iff_eq.mp h) e))
 hd:=I.ok.hd
 frames:=I.ok.frames
 stk:=Zl O
 exf:=λb i=>#[by
  let(o,e):=ho b i;show fw (gu (dQ e) N),λx a e=>by
  let(o,eo):=ho b i;obtain q|q:=jK _ _ _ (e)
  . show j_ (gu (dQ eo) ())
  . show(Q b i).2.2.2.2.1 x a (je I c q)]
 bs:=I.bs
 bsz:=fA I.ok.bsz I.sz
 noex:=λb o e i=>by
  let(_,_,_,h,_):=Q b i;obtain h|h:=h
  . show I.ok.noex b o e h
  . show absurd (gu (dQ (I.ok.bs b o e).1) h) ()
 exfs:=λb i z=>by
  let(_,h1,h2,_):=Q b i;obtain z|z:=bh.mp (I.stkSub b z)
  . grind
  . grind
 funs:=I.stack
 frf:=I.stkFree
def WN(I:am X c5 U H s)(c:jE X ZO F dE sc)(hf:∀b∈fp,nJ X c5 H b)(ho:∀b∈fp,∃o,s.heap.get? b=!o)
 {C:Addr} (hC:C= ~~~s.heap.objs+1) (oe:h₁.Ns C m1) (Q:∀b o,s.heap.get? b=!o->h₁.get? b=!o)
 (hD:h₁.get? s.heap.objs.size=some { cls:=.type "list",data:=.seq #[] 0 }) (v4:∀x a,(oM sc C X.env).lookup x=!a->C+1<=a->h₁.IsCell a J):
 am (gC X ZO F sc C fp s H) [] (zY (-ZO) dE U) (aI H s.heap.objs.size (.lst [])) { s with heap:=h₁,toks:=tk }:=by
 have D:(c8 s)<=C:=by rw[hC];show mP _
 let hok:=Z7 I c D hf ho;show#[hok,O,I.bare,Un.laid Q (dP _) (I.hok.fresh (dP _)),#[m1,oe,?_],?_,?_,?_,?_,?_,?_]
 . intro i x v e1 e2 hv;have pG:(ZO++F)[i]?=!x:=e1;by_cases hi:i< -ZO
   . rw[jJ ∅]at e2;grind
   . rw[hY ()]at pG;rw[hY ∅]at e2;simp only[length_replicate,eL]at e2;cases q:dE[i-(-ZO)]? with
     |none=>grind
     |some i'=>
      rw[q]at e2;have A3:(U[i']?).join=!v:=by simpa using e2
      have e3:U[i']?=!(!v):=by
       cases z:U[i']? with
       |none=>rw[z]at A3;grind
       |some y=>rw[z]at A3;grind
      let og:=c.frs x (gt pG);let hm:=c.free_of og;let hX:=c.own _ hm O;have hN:X.N[i']?=!x:=by rw[c.ixn _ _ q];show pG
      let(m,hn,hl):=I.loc;have ME:Tv X.env.scope x:=by
       obtain h|h:=hX
       . show YY (Zl h)
       . show YY (YY h)
      let(u,r,l):=hl i' x v hN e3 ME;show#[u,r,YY #[?_,?_]]
      . show (Env.kindOf (compEnvC sc (oM sc C X.env) C X.env) x=_)\/(Env.kindOf (compEnvC sc (oM sc C X.env) C X.env) x=_);have:Env.kindOf (compEnvC sc (oM sc C X.env) C X.env) x=(sc.names.lookup x).map λk=>if (k==NameKind.free&&X.env.scope.kind==.function&&X.env.kindOf x==!.cell) then NameKind.cell else k:=qQ sc.names x
        rw[this,og];simp only[mM];split
        . show Zl O
        . show YY O
      . obtain⟨hk,_⟩|⟨_,cc,sf,hcell⟩:=l
        . obtain h|h:=hX
          . have W:X.env.scope.names.lookup x=!.local:=hk;grind
          . have W:X.env.scope.names.lookup x=!.local:=hk;grind
        . let(a,ha):=zU sc.names [] x (YY hm);let A4:=je I c ha;rw[sf]at A4;cases A4;let(oc,j,hd):=hcell;show#[cc,(zX _ _ _ λp hp e z=>by have:=c.cel p hp e;rw[z,og]at this;cases this).trans ha,oc,Q _ _ j,hd]
 . intro x a e;let e':=e;obtain q|q:=jK _ _ _ e'
   . show#[J,v4 x a e' q]
   . let(v,oc,j,hd):=I.cell x a (je I c q);show#[v,oc,Q _ _ j,hd]
 . rw[cV (by rw[hC];show Nat.succ_ne_self _)];show (I.hok.fresh D)
 . intro x a e;obtain q|q:=jK _ _ _ (e)
   . let q':=r9 D q;rw[cV (j_ q')];show I.hok.fresh ()
   . let(v,oc,j,hd):=I.cell x a (je I c q);rw[cV (fw (dQ j))];show I.freeC x a (je I c q)
 . intro p hp;cases hp
 . show I.hok.laid Q () #[gz _,[],0,.nil,hD]
 . show -(replicate ZO.length J++_)=-(ZO++F);simp[c.ixl]
def v5(X:Cx)(iX:List Expr)(t:TT):Prop:=
 ∀(ae:List (Addr×Obj))(s:Shared)(U:St)(H:Hp)(Q:Bool->Hp->Prop),am X ae U H s->t U H Q->
  wpAny (model X.prog X.w) X.A (forIn iX G λc r=>if r=G then do let ok <-isTrue c X.env (eval c X.env);pure (ForInStep.yield ok) else pure (ForInStep.yield r)) (TP X ae U Q) X.xe s
def WP:v5 X [] (λ_ H Q=>Q G H):=λ_ s U H Q I h=>wpAny_tests_nil #[H,I,h]
def R4(wi:TI)(m:Nat)(dE:List Nat)(g:TG)(tc:TT)(te:TE):TE:=λU H Q=>wi U H λZU H1=>∀p,H1 p=J->
 ∃W:Nat->Nat->St->Hp->Prop,(∃n,W 0 n (zY m dE U) (aI H1 p (.lst [])))/\∀i n U' H',W i n U' H'->
  ((ZU.stop i H'/\Q (.ref p) H')\/(ZU.go i H'/\∀x H2,ZU.yld i H' x H2->g x U' H2 λU3 H3=>tc U3 H3 λb H4=>
    if b=G then te U3 H4 λv H5=>∃ys,H5 p=!(.lst ys)/\-ys<sizeLine/\∃n',n'<n/\W (i+1) n' U3 (aI H5 p (.lst (ys++[v])))
    else ∃n',n'<n/\W (i+1) n' U3 H4))
def CI(X:Cx)(fp:List Addr)(tn:Nat->Heap->Prop)(W:Nat->Nat->St->Hp->Prop)(n:Nat)(s:Shared):Prop:=∃i U H,am X [] U H s/\tn i s.heap/\(∀b∈fp,H b=J)/\W i n U H
def zZ{P:Prop}(h:∀ZT:Prop,(P->ZT)->ZT):P:=h P id
def Ul{F:Hp->Prop}(hcalm:X.calm=true)(T:hM X.prog X.w X.K tg ZU fp it tn)(hg:PG X tg g)(hc:v5 X iX tc)(he:PE X iN te)(hx:∀u s,X.xe u s->False)
 (stat:∀{H':Hp},(∀b∈fp,H' b=none)->∀b∈fp,nJ X [] H' b)
 (turn:∀i n U' H',W i n U' H'->((ZU.stop i H'/\F H')\/(ZU.go i H'/\∀x H2,ZU.yld i H' x H2->g x U' H2 λU3 H3=>tc U3 H3 λb H4=>
   if b=true then te U3 H4 λv H5=>∃ys,H5 D=!(.lst ys)/\-ys<sizeLine/\∃n',n'<n/\W (i+1) n' U3 (aI H5 D (.lst (ys++[v])))
   else ∃n',n'<n/\W (i+1) n' U3 H4)))
 {ZN:Result->Shared->Prop} (hR:∀U' H' s',am X [] U' H' s'->F H'->ZN (.ok .next) s') (n:Nat) (s':Shared) (hI:CI X fp tn W n s'):
 wpAny (model X.prog X.w) X.A (compTurn (.ListComp iN [#[tg,iter,iX,0]] sc pos) 0 (.ref it) (.ref D) X.env)
  (λfin s'=>match fin with |.done f=>ZN (.ok f) s' |.again c'=>c'=.compLoop (.ListComp iN [#[tg,iter,iX,0]] sc pos) 0 (.ref it) (.ref D) X.env/\∃m,m<n/\CI X fp tn W m s') (λ_ _=>False) s':=by
 show zZ λZT kG=>?_;let(i,U',H',I',f6,A5,w'):=hI;rw[compTurn_list]at kG;obtain⟨stop,qn⟩|⟨go,step⟩:=turn i n U' H' w'
 . show kG (al (wpAny_standAt (al (wpAny_mono (T.done X rfl rfl rfl hcalm i [] s' U' H' (λ_ _=>False) I' (stat A5) f6 stop) (λr s4 h4=>?_) λ_ _ f=>f))));let(hr,I4):=h4;subst hr;show a8 (hR U' H' _ I4 qn)
 . show kG (al (wpAny_standAt (al (wpAny_mono (T.item X rfl rfl rfl hcalm i [] s' U' H' (λ_ _=>False) I' (stat A5) f6 go) (λr s4 h4=>?_) λ_ _ f=>f))));let(u,hr,h4):=h4;subst hr;show al (wpAny_mono h4 (λ_ s5 h5=>?_) λ_ _ f=>f);show zZ λZT kG=>?_;let(x,H5,I5,r5,y5,m6,vx):=h5;have again:∀{s7:Shared}{U7:St}{H7:Hp}{n':Nat},am X ([]++zF fp s5.heap) U7 H7 s7->W (i+1) n' U7 H7->CI X fp tn W n' s7:=λ{s7 U7 H7 n'} I7 w7=>by
    have pn:∀b∈fp,∀o,s5.heap.get? b=!o->s7.heap.get? b=!o/\H7 b=none:=λb hb o e=>by have:=I7.pin (b,o) (hZ _ (hZ _ (xU hb e)));show#[this.1,this.2.1]
    show#[i+1,U7,H7,I7.unpinned,T.keep _ _ _ m6 λb hb o e=>(pn b hb o e).1,λb hb=>?_,w7];let(o,e,d):=T.obj _ _ m6 b hb;show(pn b hb o e).2
   show kG (al (wpAny_mono (hg _ s5 U' H5 x u _ (I5.pinned (stat vx) (T.obj _ _ m6)) r5 (step x H5 y5)) (λ_ s6 h6=>?_) hx));show zZ λZT kG=>?_;let(U6,H6,I6,q6):=h6;show kG (al (wpAny_mono (hc _ s6 U6 H6 _ I6 q6) (λok s7 h7=>?_) hx));show zZ λZT kG=>?_;let(H7,I7,q7):=h7;cases ok with
   |false=>
    rw[a_ lv]at q7;let(n',n5,w7):=q7;show kG (a8 #[rfl,n',n5,again I7 w7])
   |true=>
    rw[ax rfl]at q7;show kG (al (al (wpAny_mono (he _ s7 U6 H7 _ I7 q7) (λv s8 h8=>?_) hx)));show zZ λZT kG=>?_;let(y,H8,I8,r8,ys,MG,hz,n',n5,w8):=h8;show kG (al (wpAny_mono (oY (X:=X) _ s8 U6 H8 (.ref D) [y] (.ref D) [v] (λ_ H9=>W (i+1) n' U6 H9) I8 rfl (.cons r8 .nil) #[_,ys,y,rfl,rfl,MG,hz,w8]) (λ_ s9 h9=>?_) hx));let(_,H9,I9,_,w9):=h9;show a8 (a8 #[rfl,n',n5,again I9 w9])
def Z8
 (h:Q (newEnv sc s.heap.objs.size gl (cellsFrom (~~~s.heap.objs+1) sc.names MI) qual J .none (!env) builtinsNs) { s with heap:=pushCells (s.heap.push { cls:=.type "dict",data:=.dict #[] }) sc.names }):
 wpAny Md A (newFunctionEnv sc gl MI [] qual J .none (!env)) Q E s:=by
 simp only[newFunctionEnv,Option.isSome_some,if_true];show al (wpAny_alloc ?_);show al (wpAny_layCells _ (λname D cells=>by cases F:D==NameKind.cell<;>simp[F]) _ _ _ _ ?_);rw[show ({ s with heap:=s.heap.push { cls:=.type "dict",data:=.dict #[] } }:Shared).heap.objs.size=(c8 s)+1 from oI ..];show al (a8 (a8 h))
def Eu(hcalm:X.calm=G)(c:jE X ZO F dE sc)
 (hg:∀C fp s H,PG (gC X ZO F sc C fp s H) tg g) (hc:∀C fp s H,v5 (gC X ZO F sc C fp s H) iX tc) (he:∀C fp s H,PE (gC X ZO F sc C fp s H) iN te)
 {Q:VK} (I:am X c5 U H s) (T:hM X.prog X.w X.K tg ZU fp it tn) (st:tn 0 s.heap) (hf:∀b∈fp,nJ X c5 H b)
 (h:∀p,H p=J->∃W:Nat->Nat->St->Hp->Prop,(∃n,W 0 n (zY (-ZO) dE U) (aI H p (.lst [])))/\∀i n U' H',W i n U' H'->
   ((ZU.stop i H'/\Q (.ref p) H')\/(ZU.go i H'/\∀x H2,ZU.yld i H' x H2->g x U' H2 λU3 H3=>tc U3 H3 λb H4=>
     if b=G then te U3 H4 λv H5=>∃ys,H5 p=!(.lst ys)/\-ys<sizeLine/\∃n',n'<n/\W (i+1) n' U3 (aI H5 p (.lst (ys++[v])))
     else ∃n',n'<n/\W (i+1) n' U3 H4)))
 {RR:Value->Addr->Result->Shared->Prop}
 (hR:∀D C s' H' m,s.heap.get? D=J->s.heap.get? C=J-> ~~~s.heap.objs<=C->H D=J->D≠C->H' C=J->s'.heap.Ns C m->s'.os=s.os->AllBare s'.gens->Un (frs X.stack) fp H H' s.heap s'.heap->jm X.prog X.w H' s'.heap->Q (.ref D) H'->RR (YV D) C (.ok .next) s'):
 wpAny (model X.prog X.w) X.A (newList []) (λacc s₃=>wpAny (model X.prog X.w) X.A (newFunctionEnv sc X.env.globals (vG sc.names X.env) [] X.env.qual J .none (!X.env)) (λcenv s₄=>
  codeAny (model X.prog X.w) X.A (.compStart (.ListComp iN [#[tg,N,iX,0]] sc pos) 0 (YV it) acc { cenv with scope:=relabel sc X.env }) (RR acc cenv.locals) s₄) E s₃) E s:=by
 show mx (Z8 ?_);generalize v8:s.heap.push { cls:=.type "list",dict:=J,data:=.seq ([]:List Value).toArray }=H2;generalize v9:pushCells (H2.push { cls:=.type "dict",data:=.dict #[] }) sc.names=h₁;have kp:∀b o,H2.get? b=!o->h₁.get? b=!o:=λb o e=>by rw[<-v9];show pushCells_keeps _ _ _ _ (eJ _ e)
 have hns₁:h₁.Ns H2.objs.size (λ_=>J):=by rw[<-v9];show(Heap.Ns.new H2 (.type "dict")).keeps (pushCells_keeps _ _)
 have hC: ~~~H2.objs=(c8 s)+1:=by rw[<-v8,oI]
 have v_:(c8 s)≠H2.objs.size:=by rw[hC];show fw (mB _)
 have below:∀b,b<(c8 s)->b≠H2.objs.size:=λb j=>by rw[hC];show fw (jS j)
 let A6:=λb o e=>kp b o (v8▸eJ _ e);have fresh:∀a,(c8 s)<=a->s.heap.get? a=J:=λa ha=>by
  cases e:s.heap.get? a with
  |none=>rfl
  |some o'=>show absurd (dQ e) (Nat.not_lt.mpr ha)
 let sD:=I.hok.fresh (dP _);have wa:∀b∈fp,∃o,s.heap.get? b=!o:=λb j=>let #[o,e,_]:=T.obj 0 _ st b j;#[o,e];have wb:(H2.push { cls:=.type "dict",data:=.dict #[] }).objs.size= ~~~H2.objs+1:=oI ..;have v4:∀x a,(oM sc H2.objs.size X.env).lookup x=!a-> ~~~H2.objs+1<=a->h₁.IsCell a J:=λx a e q=>by rw[<-v9];show xZ _ _ (vG sc.names X.env) x a (by rw[wb];show e) (by rw[wb];show q) λz b q'=>by rw[wb,hC];show jS (jS (Uk I c q'))
 let I0:=WN I c hf wa (tk:=s.toks) hC hns₁ A6 (kp _ _ (v8▸ff _ O)) v4;let(W,(n0,w0),turn):=h _ sD;have nf:∀b∈fp,b≠(c8 s):=λb j=>by let(o,e):=wa b j;show fw (dQ e)
 have stat:∀{H':Hp},(∀b∈fp,H' b=J)->∀b∈fp,nJ (gC X ZO F sc H2.objs.size fp s H) [] H' b:=λ{H'} hn b j=>by
  let(f0,f1,f2,f3,f4,f5):=hf b j;let(o,e):=wa b j;show#[hn b j,below b (dQ e),λz=>?_,Zl j,λx a e'=>by
   obtain q|q:=jK _ _ _ (e')
   . show j_ (gu (dQ e) (fA (by rw[hC];show mP _) (rQ q)))
   . show f4 x a (je I c q),λp hp=>by cases hp]
  obtain z|z:=bh.mp (I.stkSub b z)
  . show f1 z
  . show f2 z
 let A7:=T.keep 0 _ _ st λb j o e=>A6 b o e;have loop:codeAny (model X.prog X.w) X.A (.compLoop (.ListComp iN [#[tg,N,iX,0]] sc pos) 0 (YV it) (YV (c8 s)) (compEnvC sc (oM sc H2.objs.size X.env) H2.objs.size X.env))
  (RR (YV (c8 s)) H2.objs.size) { s with heap:=h₁ }:=by
  show codeAny_loop O (CI (gC X ZO F sc H2.objs.size fp s H) fp tn W) (λn s' hI=>?_) n0 #[0,_,_,I0,A7,λb j=>by rw[cV (nf b j)];show(hf b j).1,w0];show wpAny _ X.A ((compTurn (.ListComp iN [#[tg,N,iX,0]] sc pos) 0 (YV it) (YV (c8 s)) (compEnvC sc (oM sc H2.objs.size X.env) H2.objs.size X.env)).onRaise (λx=>do noteFrame x (compEnvC sc (oM sc H2.objs.size X.env) H2.objs.size X.env);theTreesLotGoes x)) _ _ s';show wpAny_noted (kH (Ul (X:=gC X ZO F sc H2.objs.size fp s H) hcalm T (hg _ fp s H) (hc _ fp s H) (he _ fp s H) (λ_ _ f=>f) stat turn (λU' H' s4 I4 qn=>?_) n s' hI) (λ_ _ h=>h) λ_ _ f=>f.elim);let(m4,ML,_):=I4.loc;show hR _ _ _ H' m4 (fresh _ (dP _)) (fresh _ (by rw[hC];show mP _)) (by rw[hC];show mP _) sD v_ I4.free ML I4.os I4.bare I4.base I4.hok qn
 show codeAny_compStart_list loop (T.self _ 0 _ _ _ A7 loop)
end
section
variable {X:Cx}
def PQ{U q:St}(I:am X ae U H s)(D:s.heap.get? C=J)(F:am X ae q H' s')(N:H' C=J){m:Str->Option Value}(hs:Heap.SameBut C s'.heap h')
 (i: ~~~s.heap.objs<=C):am X ae q H' { s' with heap:=h' }:=by
 have ne:∀a o,s.heap.get? a=!o->C≠a:=λa o e z=>by rw[z,e]at D;cases D
 show F.turned (λb o W e=>(hs.2 b W).trans e) N ?_ (YY (fA I.sz i)) (λx c e=>?_) (λp Q=>?_)
 . show j_ (gu I.lt i)
 . let(v,o,ho,_):=I.cell x c e;grind
 . show Ne.symm (ne _ _ (I.pin p Q).1)
def Z9(z F:List Str)(dE:List Nat)(i:X.calm=G)(c:jE X z F dE sc)(hi:PI X tg iter wi)
 (hg:∀C fp s H,PG (gC X z F sc C fp s H) tg g) (hc:∀C fp s H,v5 (gC X z F sc C fp s H) iX tc) (he:∀C fp s H,PE (gC X z F sc C fp s H) iN te)
 (hs:∀x,foldedSetIterable iter X.env x=pure x:=by intro _;rfl):PE X (.ListComp iN [#[tg,iter,iX,0]] sc pos) (R4 wi (-z) dE g tc te):=by
 intro ae s U H Q I h;show wpAny_comprehension_free O hs (yW (Dm I c)) c.kind c.locs (dg (hi ae s U H _ I h) λv s1 h1=>dg h1 λsw s2 h2=>?_);let(it,fp,tn,ZU,H2,e,I2,T,kA,f2,q):=h2;subst e;show Eu i c hg hc he I2 T kA f2 q ?_;intro D C s' H' m hD hC gX sD v_ W N wc j we hok q';let I3:=I2.call' wc we hok j λb hb=>by let(_,g1,g2,g3,g4,g5):=f2 b hb;show#[g3,g1,g4,g5]
 show#[m,N,λh' kB=>#[.ref D,H',PQ (m:=m) I2 hC I3 W kB gX,O,q']]
def MM(ZO F:List Str)(dE:List Nat){pos pos' pos2:Pos}(hN:X.N.Nodup)(wf:X.N[i]?=!x)(hx:X.env.scope.names.lookup x=!.local)
 (hcalm:X.calm=G) (c:jE X ZO F dE sc) (hi:PI X tg j wi)
 (hg:∀C fp s H,PG (gC X ZO F sc C fp s H) tg g) (hc:∀C fp s H,v5 (gC X ZO F sc C fp s H) W tc) (he:∀C fp s H,PE (gC X ZO F sc C fp s H) iN te)
 (MO:swapsWith (.ListComp iN [#[tg,j,W,0]] sc pos) (!(.Name x pos')) pos2.line X.env=pure G:=by rfl)
 (hs:∀x,foldedSetIterable j X.env x=pure x:=by intro _;rfl):PS X (.Assign [.Name x pos'] (.ListComp iN [#[tg,j,W,0]] sc pos) pos2) (λD U H=>R4 wi (-ZO) dE g tc te U H λv H1=>D.nx (U.set i (!v)) H1):=by
 intro ae s U H D I h;rw[exec_Assign_Name_used _ _ _ _ MO];show al (wpAny_standAt (al ?_));show al (kH (wpAny_comprehension_free O hs (yW (Dm I c)) c.kind c.locs
  (dg (hi ae s U H _ I h) λv s1 h1=>dg h1 λsw s2 h2=>?_)) (λ_ s' hq=>a8 (a8 hq)) λ_ _ e=>e)
 let(it,fp,tn,ZU,H2,e,I2,T,kA,f2,q):=h2;subst e;show Eu (Q:=λv H1=>D.nx (U.set i (!v)) H1) hcalm c hg hc he I2 T kA f2 q ?_;intro D' C s' H' m hD hC gX sD v_ MQ oe wc hbare we hok q';let I3:=I2.call' wc we hok hbare λb hb=>by let(_,g1,g2,g3,g4,g5):=f2 b hb;show#[g3,g1,g4,g5]
 show wpAny_assign_Name (HF (v:=.ref D') I3 hN wf (Zl hx) O (λs'' I4 z4=>?_) (YY hx));let(a,MS,ha):=z4;have MV:C≠a:=by
  obtain ha|ha:=ha
  . rw[ha];show (j_ (gu I2.lt gX))
  . let(v,o,ho,_):=I2.cell x a ha;intro z;grind
 show#[m,oe.sameBut MS MV,λh' kB=>#[_,H',PQ (m:=m) I2 hC I4 MQ kB gX,q']]
end
def K3(l:Addr)(items:Array Value)(n:Nat)(b:Addr)(i:Array Value)(n2:Nat)(j:Option Addr)(q:Array (Option Value))(Q:¬(not items.isEmpty&&Builtin.List.listTooLong (~~~items+ ~~~i))=G)(A8: ~~~items<=sizeLine)(z: ~~~items+ ~~~i<=sizeLine+1):
 Meets (Builtin.«list.extend» #[[YV l,YV b],[]]) (λ_ ZN s=>s.heap.get? l=some { cls:=.type "list",dict:=J,data:=.seq items n,slots:=#[] }/\s.heap.get? b=some { cls:=.type "list",dict:=j,data:=.seq i n2,slots:=q }/\ZN (.ok (.ret Value.none)) { s with heap:=s.heap.update l (Obj.mapSeq λx=>x++i),toks:=s.toks }):=
 .of_wp λprog w A ZN s h=>by
  let(hp,g,d,tk,os):=s;let(N,hb,h):=h;let f1:=AutoSeq1.idx_int;let f2:=AutoSeq1.sub_tuple_tuple;let f3:=AutoSeq1.sub_list_list;let f4:=AutoSeq1.sub_tuple_list;let f5:=AutoSeq1.sub_list_tuple;have W: ~~~(items++i)<=sizeLine+1:=by rw[Array.size_append];show z
  wp_walk using (wpAny_updateSeq N O),AutoSeq1.wpAny_loadPart' N,AutoSeq1.wpAny_loadPart' hb;grind
section
variable {X:Cx}
def MW:ju X (binaryOp .Add) (λx y H Q=>∃a b xs ys,x=.ref a/\y=.ref b/\bY X.K H a xs/\bY X.K H b ys/\-xs+-ys<=sizeLine/\∀p,H p=J->Q (.ref p) (aI H p (.lst (xs++ys)))):=by
 intro ae s U H x y v u Q I rx ry h;let(a,b,xs,ys,rfl,rfl,ha,hb,hz,q):=h;cases rx;cases ry;let(j,z,((aS,d1,dt1,s1),n1,W,e1,e2,e3),_):=I.list ha;let(i,N,((c2,d2,MX,s2),n2,D,f1,f2,f3),_):=I.list hb;subst e1 e2 e3 f1 f2 f3;let wm:=-z;let kS:=-N;show concat_meets #[_,W,O] #[_,D,O] noFill_list_add seq_list_add F.slot_list_add F.entry_list_add (F.args_list_add_2 _ _) (list_addW a b j.toArray i.toArray n1 n2 J J s1 s2 ∅) #[W,D,?_];have ea:j.toArray++i.toArray=(j++i).toArray:=by simp
 rw[ea];show#[.ref _,_,I.lnew (z.append N) ∅,O,q _ I.fresh]
def K4(K:FG):V->List V->Hp->VK->Prop:=λx vs H Q=>∃l b xs zs,x=.ref l/\vs=[.ref b]/\H l=!(.lst xs)/\bY K H b zs/\-xs+-zs<=sizeLine/\Q .non (aI H l (.lst (xs++zs)))
def R5:Ud X "list.extend" (K4 X.K):=by
 intro ae s U H x vs v us Q I rx rv h;let(l,b,xs,zs,rfl,rfl,hH,hB,hz,q):=h;cases rx;let(u,rfl,ru):=rv.one;cases ru;let(z,j,n,r,hl,e):=I.lstM hH;let(i,W,((c2,d2,MX,s2),n2,g2,f1,f2,f3),_):=I.list hB;subst f1 f2 f3;let kS:=-W;have N: ~~~j.toArray+ ~~~i.toArray<=sizeLine:=by rw[gL,gL];lia
 have D:¬ (not j.toArray.isEmpty&&Builtin.List.listTooLong (~~~j.toArray+ ~~~i.toArray))=G:=by rw[Wy N,Bool.and_false];show lv
 show call_meets F.slot_list_extend #[_,e,O] F.entry_list_extend (F.args_list_extend_2 _ _)
  (K3 l j.toArray n b i.toArray n2 J s2 D () ()) #[e,g2,?_]
 show#[.non,_,I.lset hH e (by simp) (r.append W) ?_,O,q];rw[eS];lia
end
def lY(z:Str)(lo hi:Option Int):Str:=#[((z.cps.toList.drop (HT.sIx (-z) 0 lo)).take (HT.sIx (-z) (-z) hi-HT.sIx (-z) 0 lo)).toArray]
def MY(lo hi:Option Int)(n:Nat):Builtin.Str.strSliceIndices lo hi 1 n=(range (HT.sIx n n hi-HT.sIx n 0 lo)).map (HT.sIx n 0 lo+·):=by
 have q:∀(o:Option Int)(d:Nat),d<=n->(match o with |none=>(d:Int) |some i=>max 0 (min (if i<0 then i+(n:Int) else i) (n:Int)))=((HT.sIx n d o:Nat):Int):=λo d F=>by
  cases o with
  |none=>rfl
  |some i=>
   simp only[HT.sIx];by_cases h:i<0
   . grind
   . grind
 rw[<-sliceRange_one];let D:=q lo 0 ();let z:=q hi n ();unfold Builtin.Str.strSliceIndices;grind
def Um(z:Str)(lo hi:Option Int):Txt.slice z lo hi=lY z lo hi:=by
 unfold Txt.slice lY;rw[MY];let i:=pick_run z.cps (HT.sIx (-z) 0 lo) (HT.sIx (-z) (-z) hi-HT.sIx (-z) 0 lo);split
 . rename_i h;have h2:-(map (HT.sIx z.length 0 lo+·) (range (HT.sIx z.length z.length hi-HT.sIx z.length 0 lo)))=-z:=by simpa using h
   rw[da,i8]at h2;have D:HT.sIx (-z) (-z) hi<=-z:=HT.sIx_le _ _ () hi;have q:HT.sIx (-z) 0 lo<=-z:=HT.sIx_le _ _ () lo;have j:HT.sIx (-z) 0 lo=0:=()
   rw[h2,j,drop_zero,oT (by rw[gT];show dP _)]
 . rw[i]
def MZ:V->Option Int->Option Int->Hp->VK->Prop:=λx lo hi H Q=>∃z,x=.str z/\-z<=sizeLine/\Q (.str (lY z lo hi)) H
section
variable {X:Cx}
def M0:HS X MZ:=by
 intro ae s U H x v vl vu lo hi sl Q I rx hs pl pu h;let(z,rfl,hz,q):=h;let(t,rfl):=rx;show#["str",_,F.slot_str_getitem.lookup,typeIs_str _ _ _,?_];have N:∀(l u:Option (Int×Tok)),vl=partValue l->vu=partValue u->l.map (·.1)=lo->u.map (·.1)=hi->wpAny (model X.prog X.w) X.A (getItem (.str z t) (YV sl)) (EP X ae U Q) X.xe s:=λl u e1 e2 e3 e4=>by subst e1 e2 e3 e4;show wpAny_getItem_str_slice (st:=J) hs O (post_val_or_str #[fA (Txt.slice_le z _ _) hz,λt' k=>?_]);show#[.str (lY z (l.map (·.1)) (u.map (·.1))),H,I.tok _,#[t',?_],q];rw[<-Um];rfl
 cases pl with
 |none=>cases pu with
  |none=>show N J J O O O O
  |int j W=>show N J (!(j,W)) O O O O
 |int i ti=>cases pu with
  |none=>show N (!(i,ti)) J O O O O
  |int j W=>show N (!(i,ti)) (!(j,W)) O O O O
end
section
variable {X:Cx}{ae:List (Addr×Obj)}{U:St}{H:Hp}{s:Shared}{h':Heap}
set_option tactic.hygienic true in
def WR{h:Heap}(e:h.get? a=!o):o.isFreed=M:=by
 unfold Heap.get? at e;split at e
 . cases e
 . rename_i j;let(c,d,q,sl):=o;cases q<;>first |rfl |show(j _ _ _ e).elim
def am.turned2(I:am X ae U H s)(hei:e≠it)(k:∀b o,b≠e->b≠it->s.heap.get? b=!o->h'.get? b=!o)(fe:nJ X ae H e)(fi:nJ X ae H it)(he:∃o,h'.get? e=!o)(z:∃o,s.heap.get? e=!o):am X ae U H { s with heap:=h',toks:=t' }:=by
 let(o,ho):=he;let(o0,N):=z;let(a0,a1,a2,a3,a4,a5):=fe;let(b0,b1,b2,b3,Q,b5):=fi;show am.turned (s:={ s with heap:=s.heap.update e (λ_=>o),toks:=s.toks }) (I.turned (λb u W q=>(nN s.heap (λ_=>o) (Ne.symm W)).trans q) a0 a1 a3 a4 a5) (λb u W q=>?_) b0 b1 b3 Q b5;by_cases D:b=e
 . subst D;let F:=q;rw[mN (λ_=>o) N (WR ho)]at F;grind
 . let F:=q;rw[nN s.heap (λ_=>o) (Ne.symm D)]at F;show k b u D W F
end
def wn(K:FG)(a:Addr):It:=
 #[λi H=>∃xs x,bY K H a xs/\xs[i]?=!x,λi H x H'=>∃T y,H T=J/\x=.ref T/\H'=aI H T (.tup [.int i,y])/\∀xs,bY K H a xs->xs[i]?=!y,λi H=>∃xs,bY K H a xs/\-xs<=i]
def Uo{K:FG}{x1}(a e D:Addr)(Q:e≠D):hM P w K (.Tuple gp x1 pos) (wn K a) [e,D] e (λi h=>(∃z,IsEnum h e D i z)/\h.IsListIter D a i) where
 mem:=by simp
 obj:=λi h st b F=>by
  let((z,N),j):=st;obtain rfl|F:=bh.mp F
  . grind
  . have eb:b=D:=by simpa using F
    let(o,ho,c,d):=j;grind
 keep:=λi h h' st k=>by let((z,N),j):=st;show#[#[z,k e (by simp) _ N],j.at λo q=>k D (by simp) o q]
 item:=by
  intro X hP hw hK hc i c5 s U H E I hf st hg;subst hP hw hK;let((z,N),j):=st;let(xs,x,hq,hx):=hg;let(dS,rv,p,hz):=I.list hq;let(u,hu,ru):=rv.get hx;let fe:=hf e (by simp);let fi:=hf D (by simp);let W:=dQ N;have hilt:D<(c8 s):=by let(_,q,_):=j;show dQ q
  let wo:=I.hok.fresh (dP _);show wpAny_pyNext_enum_item N j p.isList (by simpa using hu) Q λh1 ho hit' hT gX hk=>?_;show#[_,O,wpAny_letOwnedTupleGo_enum ho λh2 sF kB=>?_];let A9:=j_ W;let A_:=j_ hilt;have I1:am X c5 U (aI H (c8 s) (.tup [.int i,x])) { s with heap:=s.heap.push { cls:=.type "tuple",data:=.seq (List.toArray [.int i s.toks,u]) },toks:=s.toks+1 }:=by show I.laid (λb o q=>eJ _ q) () #[by simp only[db];rw[hG];decide,[.int i s.toks,u],.cons #[_,O] (.cons ru .nil),?_];show#[_,ff s.heap O,O,0,O]
  have up:∀b,b≠(c8 s)->H b=J->aI H (c8 s) (.tup [.int i,x]) b=J:=λb F q=>by rw[cV F];show q
  have I2:am X c5 U (aI H (c8 s) (.tup [.int i,x])) { s with heap:=h2,toks:=s.toks+1 }:=by
   show I1.turned2 Q (λb o kT M1 q=>?_) #[up e A9.symm fe.1,fe.2] #[up D A_.symm fi.1,fi.2] #[_,sF] #[_,eJ _ N];rw[kB.2 b kT];by_cases Bi:b=(c8 s)
   . subst Bi;let q':=q;rw[ff s.heap O]at q';grind
   . show hk b o kT M1 ?_;let q':=q;rw[Heap.get?_push_ne s.heap b _ Bi]at q';show q'
  show#[.ref (c8 s),_,I2,O,#[(c8 s),x,wo,O,O,λys hy=>by rw[I.list_inj hy hq];show hx],#[#[u,by simpa using sF],hit'.at λo y=>(kB.2 D Q.symm).trans y],λb F=>?_];obtain rfl|F:=bh.mp F
  . show up _ A9.symm fe.1
  . have eb:b=D:=by simpa using F
    subst eb;show up _ A_.symm fi.1
 done:=by intro X hP hw hK hc i c5 s U H E I hf st hg;subst hP hw hK;let((z,N),j):=st;let(xs,hq,hx):=hg;let(dS,rv,p,hz):=I.list hq;let(f0,f1,f2,f3,f4,f5):=hf D (by simp);let hl:=-rv;show wpAny_pyNext_enum_end (I.ok.hd hc) N j p.isList ∅ λh' eb=>#[O,I.turned (λb o F q=>eb b o F q) f0 f1 f3 f4 f5]
 self:=λ_ _ _ _ _ st h=>by let((z,N),_):=st;show wpAny_pyIter_enum N h
section
variable {X:Cx}
def M2(K:FG)(ta:TA):TI:=λU H ZN=>ta U H λvs H1=>∃a,vs=[.ref a]/\(∃xs,bY K H1 a xs)/\ZN (wn K a) H1
def M_{x1}(Q:Gl X "enumerate")(hm:X.mg "enumerate"=J)(N:PA X [a] ta)(hs:starEach [a] X.env=[(M,eval a X.env)]:=by rfl):PI X (.Tuple gp x1 tpos) (.Call (.Name "enumerate" p) [a] [] pos) (M2 X.K ta):=by
 intro c5 s U H ZN I h;show Call_ (zE I Q hm () (PyProof.Rows.callWith_type1 (dg (N pos c5 s U H _ I h) λus i Na=>?_) hs O));let(vs,H1,I1,r1,q1):=Na;let(b,e,(xs,hq),q):=q1;subst e;cases r1 with
 |cons r rr=>
  cases rr;cases r;let(dS,rv,pl,hz):=I1.list hq;show call_enumerate_list pl.isList λh' F D gX hk=>?_;let W:=I1.kept (t':=i.toks) hk;show wpAny_pyIter_enum F ?_;show#[(c8 i)+1,[(c8 i)+1,(c8 i)],_,_,H1,O,W,Uo b ((c8 i)+1) (c8 i) ∅,#[#[_,F],D],λc z=>?_,q];have j:(c8 i)<=c:=by
   obtain rfl|z:=bh.mp z
   . grind
   . have ec:c=(c8 i):=by simpa using z
     grind
  show I1.fpOk j (I1.hok.fresh j)
def Nb:R2:=λx y H Q=>∃a v,x=.ref a/\WK H a y (!v)/\Q v H
def Nc(W:X.A.units+1<cLine):zP X Nb:=by intro value j ae s U H x y v u Q I rx N h hs;let(a,z,rfl,g,q):=h;cases rx;show tail_any (Ot I g) F.slot_dict_getitem.lookup (Ui W I g N λw' s3 D i=>#[z,H,D,i,q]) hs
def Y6:V->V->V->Hp->(Hp->Prop)->Prop:=λo i v H Q=>∃a H',o=.ref a/\A1 H a i v H'/\Q H'
def set_dict(N:X.A.units+1<cLine):Wj X Y6:=by intro ae s U H o i v ov W u Q I F D j h;let(a,H',rfl,g,q):=h;cases F;show Uj N I g D j λs4 z=>#[H',z,q]
end
section
variable {X:Cx}{ae:List (Addr×Obj)}{U:St}{H:Hp}{s:Shared}{h':Heap}
def am.turnedL{fp:List Addr}(I:am X ae U H s)(k:∀b o,b∉fp->s.heap.get? b=!o->h'.get? b=!o)(f:∀b∈fp,nJ X ae H b):am X ae U H { s with heap:=h',toks:=t' }:=by
 have N:∀b u,H b=!u->b∉fp:=λb u e z=>by rw[(f b z).1]at e;cases e
 show I.step (λb j=>#[(f b j).2.2.2.1,(f b j).2.1,(f b j).2.2.2.2.1,(f b j).2.2.2.2.2]) (λb o _ _ i e _=>k b o i e) (λb o _ _ i e _=>#[o.slots,k b o i e]) (λ_ _ _ _ n=>n)
  (λb o i e=>#[o,k b o i e]) (λ_ _ e=>e) (λ_ _ _ e=>e) (λb ps e=>#[#[],by rw[e];simp]) (λm hm=>?_) (λb u e=>?_) I.bare
 . let(o,es,Q,W,r):=hm;show#[o,es,Q,k _ o (λz=>(f _ z).2.1 O) W,r]
 . show(I.hok b u e).stay (λc v i q=>k c v ?_ q) (λ_ q=>q) λ_ _ q=>q;obtain z|z:=i
   . grind
   . grind
end
def am.madeT{U:St}{fp:List Addr}(I:am X c5 U H s)(hl:-xs<=sizeLine)(rv:ap xs N)(W:∀c∈fp,nJ X c5 H c)(lt:∀c∈fp,∃o,s.heap.get? c=!o)
 (hT:g2.get? s.heap.objs.size=some { cls:=.type "tuple",data:=.seq N.toArray }) (k:∀c o,c∉fp->s.heap.get? c=!o->g2.get? c=!o):
 am X c5 U (aI H s.heap.objs.size (.tup xs)) { s with heap:=g2,toks:=t' }/\∀c∈fp,aI H s.heap.objs.size (.tup xs) c=J:=by
 have up:∀c∈fp,aI H (c8 s) (.tup xs) c=J:=λc D=>by let(o,e):=lt c D;rw[cV (fw (dQ e))];show(W c D).1
 have I1:am X c5 U (aI H (c8 s) (.tup xs)) { s with heap:=s.heap.push { cls:=.type "tuple",data:=.seq N.toArray },toks:=t' }:=
  I.laid (λb o q=>eJ _ q) () #[hl,N,rv,#[_,ff s.heap O,O,0,O]]
 show#[am.turnedL (s:={ s with heap:=s.heap.push { cls:=.type "tuple",data:=.seq N.toArray },toks:=t' }) I1 (λc o D q=>?_) (λc D=>#[up c D,(W c D).2]),up];let Q:=q;by_cases F:c=(c8 s)
 . subst F;rw[ff s.heap O]at Q;grind
 . rw[Heap.get?_push_ne s.heap c _ F]at Q;show k c o D Q
def Nd{a b:V}:[a,b].length<=sizeLine:=by  show Nat.le_of_ble_eq_true O
def Y7(K:FG)(a b:Addr):It:=
 #[λi H=>∃xs ys x y,bY K H a xs/\bY K H b ys/\xs[i]?=!x/\ys[i]?=!y,
  λi H x H'=>∃T y z,H T=J/\x=.ref T/\H'=aI H T (.tup [y,z])/\(∀xs,bY K H a xs->xs[i]?=!y)/\∀ys,bY K H b ys->ys[i]?=!z,
  λi H=>∃xs ys,bY K H a xs/\bY K H b ys/\(-xs<=i\/-ys<=i)]
structure WT(z TI TO i1 i2:Addr):Prop where
 TIz:TI≠z
 TOz:TO≠z
 i1z:i1≠z
 i2z:i2≠z
 TITO:TI≠TO
 TIi1:TI≠i1
 TIi2:TI≠i2
 TOi1:TO≠i1
 TOi2:TO≠i2
 i12:i1≠i2
def pM{h:Heap}(e:h.get? a=!o)(j:h.get? b=!o')(n:o.cls≠o'.cls):a≠b:=λz=>by subst z;rw[e]at j;cases j;show n O
def K5{z TI TO F N a b:Addr}(D:WT z TI TO F N)(W:IsZip h z TI TO .none)(i:IsPair h TO u v)(h1:h.IsListIter F a n)(h2:h.IsListIter N b m)(ha:h.IsList a xs)(hb:h.IsList b ys):ZipApart z TI TO F N a b:=by let(o1,Q,c1,_):=h1;let(o2,q2,c2,_):=h2;let(oa,q,ca,_):=ha;let(ob,j,cb,_):=hb;show#[D.TIz,D.TOz,D.i1z,D.i2z,D.TITO,D.TIi1,D.TIi2,D.TOi1,D.TOi2,D.i12,pM q W ∅,pM q i ∅,pM q Q ∅,pM q q2 ∅,pM j W ∅,pM j i ∅,pM j Q ∅,pM j q2 ∅]
def WW{K:FG}{x1}(a b z TI TO i1 i2:Addr)(D:WT z TI TO i1 i2):hM P w K (.Tuple gp x1 pos) (Y7 K a b) [z,TI,TO,i1,i2] z
 (λi h=>IsZip h z TI TO .none/\IsPair h TI (YV i1) (YV i2)/\(∃u v,IsPair h TO u v)/\h.IsListIter i1 a i/\h.IsListIter i2 b i) where
 mem:=by simp
 obj:=λi h st c j=>by
  let(W,N,(u,v,F),h1,h2):=st;simp only[bh,kL,or_false]at j;obtain rfl|rfl|rfl|rfl|rfl:=j
  . grind
  . grind
  . grind
  . let(o,ho,c,d):=h1;grind
  . let(o,ho,c,d):=h2;grind
 keep:=λi h h' st k=>by let(W,N,(u,v,F),h1,h2):=st;show#[k z (by simp) _ W,k TI (by simp) _ N,#[u,v,k TO (by simp) _ F],h1.at λo q=>k i1 (by simp) o q,h2.at λo q=>k i2 (by simp) o q]
 item:=by
  intro X hP hw hK j i c5 s U H E I hf st hg;subst hP hw hK;show zZ λZT kG=>?_;let(W,N,(u0,v0,F),h1,h2):=st;let(xs,ys,x,y,hq,hr,hx,hy):=hg;let(dS,rv,p,Nj):=I.list hq;let(Bn,m8,p',hzl'):=I.list hr;let(u,hu,ru):=rv.get hx;let(u',wq,Nl):=m8.get hy;let DD:=K5 D W F h1 h2 p.isList p'.isList;have Nn:∀c∈[z,TI,TO,i1,i2],∃o,s.heap.get? c=!o:=λc j=>by
   simp only[bh,kL,or_false]at j;obtain rfl|rfl|rfl|rfl|rfl:=j
   . show#[_,W]
   . show#[_,N]
   . show#[_,F]
   . let(o,q,_):=h1;show#[o,q]
   . let(o,q,_):=h2;show#[o,q]
  let wo:=I.hok.fresh (dP _);show kG (wpAny_pyNext_zip_item DD W N F h1 h2 p.isList p'.isList (by simpa using hu) (by simpa using wq) λg1 a1 a2 a3 a4 a5 a6 a7=>#[_,O,wpAny_letOwnedTupleGo_zip a1 λg2 b1 b2=>?_]);have Q:∀c o,c≠z->g1.get? c=!o->g2.get? c=!o:=λc o j q=>(b2.2 c j).trans q;let big:=j_ (dQ W);let(I2,up):=I.madeT Nd (.cons ru (.cons Nl .nil)) hf Nn (Q _ _ big a5) λc o j q=>by simp only[bh,kL,or_false,not_or]at j;show Q c o j.1 (a7 c o j.1 j.2.2.1 j.2.2.2.1 j.2.2.2.2 q)
  show#[.ref (c8 s),_,I2,O,#[(c8 s),x,y,wo,O,O,λys hy=>by rw[I.list_inj hy hq];show hx,λys No=>by rw[I.list_inj No hr];show hy],#[b1,Q _ _ D.TIz (a7 _ _ D.TIz D.TITO D.TIi1 D.TIi2 N),#[_,_,Q _ _ D.TOz a2],a3.at λo q=>Q _ o D.i1z q,a4.at λo q=>Q _ o D.i2z q],up]
 done:=by
  intro X hP hw hK j i c5 s U H E I hf st hg;subst hP hw hK;show zZ λZT kG=>?_;let(W,N,(u0,v0,F),h1,h2):=st;let(xs,ys,hq,hr,hx):=hg;let(dS,rv,p,Nj):=I.list hq;let(Bn,m8,p',hzl'):=I.list hr;let DD:=K5 D W F h1 h2 p.isList p'.isList;let e1:=-rv;let e2:=-m8;show kG (wpAny_pyNext_zip_end (I.ok.hd j) DD W N F h1 h2 p.isList p'.isList ?_ λg k=>#[O,?_])
  . obtain hx|hx:=hx
    . show Zl ∅
    . show YY ∅
  . show I.turnedL (λc o j q=>?_) hf;grind
 self:=λ_ _ _ _ _ st h=>wpAny_pyIter_zip st.1 h
section
variable {X:Cx}
def Nw(K:FG)(ta:TA):TI:=λU H ZN=>ta U H λvs H1=>∃a b,vs=[.ref a,.ref b]/\(∃xs,bY K H1 a xs)/\(∃ys,bY K H1 b ys)/\ZN (Y7 K a b) H1
def nQ{n a b:Nat}(h:a≠b):n+a≠n+b:=λe=>h ()
def Nx{U:St}{x1}{l1 l2 z TI TO i j:Addr}(F:am X c5 U H s1)(b7:∀c o,s1.heap.get? c=!o->h'.get? c=!o)(Q:∀c∈[z,TI,TO,i,j],~~~s1.heap.objs<=c)(D:WT z TI TO i j)
 (st:IsZip h' z TI TO .none/\IsPair h' TI (YV i) (YV j)/\(∃u v,IsPair h' TO u v)/\h'.IsListIter i l1 0/\h'.IsListIter j l2 0) (q:ZN (Y7 X.K l1 l2) H):sk X c5 U (.Tuple gp x1 tpos) ZN (YV z) { s1 with heap:=h' }:=
 #[z,[z,TI,TO,i,j],_,_,H,O,F.kept b7,WW l1 l2 z TI TO i j D,st,λc W=>F.fpOk (Q c W) (F.hok.fresh (Q c W)),q]
def NA{p pos:Pos}{gp:List Expr}{x1}{tpos:Pos}(hg:Gl X "zip")(hm:X.mg "zip"=J)(ha:PA X [a,b] ta)(hs:starEach [a,b] X.env=(M,eval a X.env)::starEach [b] X.env:=by rfl)(j:(backTo pos (starEach [b] X.env)).any (·.1)=M:=by rfl):PI X (.Tuple gp x1 tpos) (.Call (.Name "zip" p) [a,b] [] pos) (Nw X.K ta):=by
 intro ae s U H ZN I h;show Call_ (zE I hg hm () (PyProof.Rows.callWith_type1 (dg (ha pos ae s U H _ I h) λus s1 NC=>?_) hs j));let(vs,H1,I1,r1,q1):=NC;show zZ λZT kG=>?_;let(l1,l2,e,(xs,hq),(ys,Q),q):=q1;subst e;cases r1 with
 |cons r z=>
  cases z with
  |cons r' z=>
   cases z;cases r;cases r';let(dS,rv,pl,hz):=I1.list hq;let(Bn,rv',i,Bz):=I1.list Q;show kG (call_zip_2 pl.isList i.isList λh' D b2 W N b5 b6 b7=>wpAny_pyIter_zip D ?_);show Nx I1 b7 (λc F=>?_) #[nQ (),nQ (),nQ (),nQ (),nQ (),nQ (),nQ (),nQ (),nQ (),nQ (a:=0) ()] #[D,b2,#[_,_,W],N,b5] q;simp only[bh,kL,or_false]at F;obtain rfl|rfl|rfl|rfl|rfl:=F
   all_goals (first |show dP _ |show rS _ _)
end
def kY:Nat:=9900
def Bk(h:n<kY):n<=sizeLine:=by have h1:kY=9900:=O;rw[hG];lia
def PX(h:n<scanBound):n<kY:=()
def gG(es:Array (Int×Value)):List Str:=es.toList.map λe=>strOf e.2
structure lZ(h:Heap)(a:Addr)(es:Array (Int×Value))(ep:Nat)(t:SetTable)(led:Bool):Prop where
 at_:h.get? a=some { cls:=.type "set",dict:=none,data:=.set es ep t,slots:=#[] }
 bd: ~~~es<kY
 fits:t.fits es.size=true
 led:t.led=led
 plain:0< ~~~es->t.plain=false
structure tK(prog:Program)(w:World)(h:Heap)(a:Addr)(es:Array (Int×Value))(ep:Nat)(t:SetTable)(led:Bool):Prop extends lZ h a es ep t led where
 el:ElemsOf (PySem.strKind prog w) es.toList
 nd:(gG es).Nodup
def R6:(layNew t es h x).2.1.led=t.led:=by
 unfold layNew;split
 . show (orStandIn _ _).led=_;unfold orStandIn;split<;>rfl
 . rfl
def Ew{t t':SetTable}(e:t.relaid hs n=!(t',o)):t'.led=t.led/\t'.plain=t.plain:=by let(ow,h1,h2):=Option.bind_eq_some_iff.mp e;grind
def K6:(relayAll t es n).2.1.led=t.led:=by
 unfold relayAll;split
 . rename_i e;dsimp only;split
   . show(Ew e).1
   . rfl
 . rfl
def GR(j:t.plain=M):(relayAll t es n).2.1.plain=M:=by
 unfold relayAll;split
 . rename_i e;dsimp only;split
   . show(Ew e).2.trans j
   . rfl
 . rfl
def Ex{h:Heap}(e:h.get? a=some { cls:=.type "set",dict:=J,data:=.set es ep t,slots:=#[] }):(h.update a (Obj.putSet es' t')).get? a=some { cls:=.type "set",dict:=J,data:=.set es' (ep+1) t',slots:=#[] }:=
 mN (Obj.putSet es' t') e O
section
variable {prog:Program}
def add_str(S:tK prog w s.heap a es ep t z)(room: ~~~es+1<scanBound)
 (h:∀b h' es' W t',Heap.SameBut a s.heap h'->tK prog w h' a es' W t' z->(∀y,y∈gG es' ↔ y∈gG es\/y=x)-> ~~~es'<= ~~~es+1->Q b { s with heap:=h' }):
 wpAny (model prog w) A (setAddHashed a (.str x tk) (hashStr w x)) Q E s:=by
 have hk:(PySem.strKind prog w).is x (.str x tk)=G:=by show Value.isStrOf x (.str x tk)=G;simp[Value.isStrOf]
 unfold setAddHashed setAddHashedIn
 show iE (al (lm S.at_ O S.fits ?_))
 dsimp only
 rw[byScan_of O () S.el]
 simp only[↓reduceIte]
 unfold setAddByScan
 show al (al (wpAny_rule (al ?_)))
 show wpAny_setScan_of hk S.at_ O S.fits S.el ?_
 have key:∀e∈es.toList,(PySem.strKind prog w).is x e.2=G ↔ strOf e.2=x:=λe he=>by
  let((k,h1,_),_):=S.el e he
  let(u,hu):=Value.isStrOf_shape h1
  rw[hu]
  show Value.isStrOf x (.str k u)=G ↔ k=x
  simp[Value.isStrOf]
 cases hr:findIdx? (λe=>(PySem.strKind prog w).is x e.2) es.toList with
 |some j=>
  dsimp only
  let(hj,ND,_):=findIdx?_eq_some_iff_getElem.mp hr
  have hm:x∈gG es:=dA.mpr #[es.toList[j],getElem_mem hj,(key _ ∅).mp ND]
  show a8 (a8 ?_)
  show h M s.heap es ep t (Heap.SameBut.refl a s.heap) S (λy=>#[Zl,λq=>q.elim id λq=>q▸hm]) ()
 |none=>
  dsimp only
  have hm:x∉gG es:=λq=>by
   let(e,he,q):=dA.mp q
   have:=findIdx?_eq_none_iff.mp hr e he
   rw[(key e he).mpr q]at this
   grind
  have BA:∀(b:Bool){s₁:Shared}{Q':Unit->Shared->Prop},Q' ⟨⟩ s₁->wpAny (model prog w) A (match b with |true=>rule "set.scan.the-table-gave-way" |false=>pure ⟨⟩) Q' E s₁:=λb s₁ Q' q=>by
   cases b
   . show a8 q
   . show wpAny_rule q
  let hp:=layNew_perm t es (hashStr w x) (.str x tk)
  let hf:=layNew_fits t es (hashStr w x) (.str x tk)
  have hl:(layNew t es (hashStr w x) (.str x tk)).2.1.led=z:=R6.trans S.led
  have k1:∀D:Array (Int×Value),List.Perm D.toList (es.push (hashStr w x,.str x tk)).toList->ElemsOf (PySem.strKind prog w) D.toList/\(gG D).Nodup/\D.size= ~~~es+1/\∀y,y∈gG D ↔ y∈gG es\/y=x:=λD q=>by
   rw[Array.toList_push]at q
   have q2:List.Perm (gG D) (gG es++[x]):=by
    have:=q.map λe=>strOf e.2
    simpa [gG,strOf] using this
   show#[(S.el.push hk O).perm q,q2.nodup_iff.mpr (nX.mpr #[S.nd,by simp,λa ha b hb=>?_]),?_,λy=>?_]
   . rw[gg.mp hb]
     grind
   . have:=q.length_eq
     simpa using this
   . rw[q2.mem_iff]
     simp
  generalize layNew t es (hashStr w x) (.str x tk)=L at hp hf hl ⊢
  let(D,t1,wd,gv):=L
  let(NF,NG,k13,NH):=k1 D hp
  dsimp only at hp hf hl ⊢
  show al (BA gv ?_)
  have fin:∀N:SetTable,N.fits D.size=G->N.led=z->N.plain=M->wpAny (model prog w) A (do
   storeSet a D N
   if (not wd&&N.tooFull)=G then do
    (match (relayAll N D (grown D.size)).2.2 with |true=>rule "set.scan.the-table-gave-way" |false=>pure ⟨⟩)
    storeSet a (relayAll N D (grown D.size)).1 (relayAll N D (grown D.size)).2.1
    pure (!G)
    else pure (!G)) (λr s'=>∃h',s'={ s with heap:=h' }/\r=!G/\∃es' W t',Heap.SameBut a s.heap h'/\tK prog w h' a es' W t' z/\(∀y,y∈gG es' ↔ y∈gG es\/y=x)/\es'.size<= ~~~es+1) E s:=by
   intro N f2 l2 p2
   have b1: ~~~D<scanBound:=()
   show al (wpAny_storeSet_of S.at_ O ?_ (fits_of_scanBound b1))
   let g1:=Ex (es':=D) (t':=N) S.at_
   let oi:=kN s.heap a (Obj.putSet D N)
   split
   . show al (BA _ ?_)
     let q:=relayAll_perm N D (grown D.size)
     let qf:=relayAll_fits N D (grown D.size)
     have ql:(relayAll N D (grown D.size)).2.1.led=z:=K6.trans l2
     let qp:=GR (es:=D) (n:=grown D.size) p2
     generalize relayAll N D (grown D.size)=ZN at q qf ql qp ⊢
     let(BB,t3,g3):=ZN
     dsimp only at q qf ql qp ⊢
     let(m1,m2,m3,m4):=k1 BB (q.trans hp)
     show al (wpAny_storeSet_of g1 O ?_ (fits_of_scanBound ()))
     show a8 #[_,O,O,BB,_,t3,oi.trans (kN _ a _),#[#[Ex g1,PX (),qf,ql,λ_=>qp],m1,m2],m4,()]
   . show a8 #[_,O,O,D,_,N,oi,#[#[g1,PX b1,f2,l2,λ_=>p2],NF,NG],NH,()]
  have out:∀r s',(∃h',s'={ s with heap:=h' }/\r=!G/\∃es' W t',Heap.SameBut a s.heap h'/\tK prog w h' a es' W t' z/\(∀y,y∈gG es' ↔ y∈gG es\/y=x)/\es'.size<= ~~~es+1)->r=!G/\Q G s':=λr s' q=>by
   let(h',rfl,rfl,es',W,t',q1,q2,q3,q4):=q
   show#[O,h G h' es' W t' q1 q2 q3 q4]
  split
  . show al ?_
    rw[hashByValue_scannable 8 O]
    show a8 ?_
    show kH (fin { t1 with plain:=M } (fits_plain_off hf) hl O) (λr s' q=>?_) λ_ _ e=>e
    let(rfl,q'):=out r s' q
    show a8 q'
  . rename_i np
    show al (a8 ?_)
    simp only[↓reduceIte]
    show kH (fin t1 hf hl (by simpa using np)) (λr s' q=>?_) λ_ _ e=>e
    let(rfl,q'):=out r s' q
    show a8 q'
def lZ.moved(S:lZ h a es ep t i)(k:∀o,h.get? a=!o->h'.get? a=!o):lZ h' a es ep t i:=#[k _ S.at_,S.bd,S.fits,S.led,S.plain]
theorem tK.moved(S:tK prog w h a es ep t led)(k:∀o,h.get? a=!o->h'.get? a=!o):tK prog w h' a es ep t led:=#[S.1.moved k,S.el,S.nd]
end
section
variable {prog:Program}
theorem Qd:∀{vs:List Value}{j:List Str},StrsAre vs j->∀(i:Nat)(v:Value),vs[i]?=!v->∃t,v=.str (j.getD i #[#[]]) t
 |_,_,.nil,i=>λv h=>by simp at h
 |_,_,.cons y t r,0=>λv h=>by cases h;show#[t,O]
 |_,_,.cons y t r,i+1=>λv h=>by let(u,e):=Qd r i v ();show#[u,by simpa using e]
theorem Do:∀{vs:List Value}{j:List Str},StrsAre vs j->-vs=-j
 |_,_,.nil=>rfl
 |_,_,.cons y t r=>by simp[Do r]
def mem_step{α:Type}{val:Nat->α}{as bs:List α}(h:∀y,y∈as ↔ ∃j,j<n/\val j=y)(h2:∀y,y∈bs ↔ y∈as\/y=val n)(y:α):y∈bs ↔ ∃j,j<n+1/\val j=y:=by
 rw[h2,h];constructor
 . rintro (⟨j,hj,q⟩|q)
   . show#[j,jS hj,q]
   . show#[n,mB n,q.symm]
 . rintro⟨j,hj,q⟩;obtain g|rfl:=Nat.lt_succ_iff_lt_or_eq.mp hj
   . show .inl #[j,g,q]
   . grind
def Ou(hh:A.handled=none)(hl:s.heap.IsList l items)(hi:StrsAre items.toList ss)(hb: ~~~items+1<scanBound)
 (h:∀(h':Heap)(tk:Nat) es ep t,tK prog w h' s.heap.objs.size es ep t (not (byText w))->(∀y,y∈gG es ↔ y∈ss)-> ~~~es<= ~~~items->(∀b o,b< ~~~s.heap.objs->s.heap.get? b=!o->h'.get? b=!o)->Q (.ref s.heap.objs.size) { s with heap:=h',toks:=tk }):
 wpAny (model prog w) A (call (.type "set") [.ref l]) Q E s:=by
 show set_of_G (T:=λi h=>∃es ep t,tK prog w h s.heap.objs.size es ep t (not (byText w))/\(∀y,y∈gG es ↔ ∃j,j<i/\ss.getD j #[#[]]=y)/\es.size<=i) hh hl ?_ ?_ ?_ ?_
 . intro h' g _;show#[_,_,_,#[#[g,by decide,rfl,rfl,λq=>by simp at q],λe q=>by simp at q,by simp[gG]],by simp[gG],dP _]
 . intro i h h' q k;let(es,ep,t,S,r):=q;show#[es,ep,t,S.moved λo=>k _ o (fw (mB _)),r]
 . intro i v s' Q E lt e q k;let(es,ep,t,S,m,z):=q;let(u,rfl):=Qd hi i v (by rw[Array.getElem?_toList];show e);show wpAny_holding (al (wpAny_pyHash_str ?_));show add_str S () λb h' es' pH t' sb S2 m2 z2=>k b h' 1 sb #[es',pH,t',S2,mem_step m m2,()]
 . intro h' tk q k;let(es,ep,t,S,m,z):=q;show h h' tk es ep t S (λy=>?_) z k;rw[m,List.mem_iff_getElem];let e0:=Do hi;rw[gT]at e0;constructor
   . rintro⟨j,hj,rfl⟩;show#[j,(),by simp[e0▸hj]]
   . rintro⟨j,hj,rfl⟩;show#[j,(),by simp[hj]]
end
def Qe:Manifest.owners.lookup (String.ofList ['r','o','t','a','r','e','t','i','_','t','e','s'].reverse)=!Manifest.sig_set_iterator:=by kernel_rfl
def oN:Slot "set_iterator" "__next__" "set_iterator.__next__":=.of (owner:="set_iterator") (n:="__next__") () () () () () ()
def K7:Slot "set_iterator" "__iter__" "set_iterator.__iter__":=.of (owner:="set_iterator") (n:="__iter__") () () () () () ()
def Qf:entryFor table "set_iterator.__next__"=some Builtin.«set_iterator.__next__»:=entryFor_of_tree ()
def K8(a:Value):argsOk "set_iterator.__next__" #[[a],[]]:=by unfold argsOk;rw[signature?_of (id:="set_iterator.__next__") (n:=['_','_','t','x','e','n','_','_']) () Qe];kernel_rfl
def Uq:entryFor table "set.__iter__"=some Builtin.«frozenset.__iter__»:=entryFor_alias (id':="frozenset.__iter__") () O () ()
theorem yc{α:Type}:∀{l:List α}{i:Nat}(h:i< -l),(l[i]::l.eraseIdx i).Perm l
 |a::l,0,h=>.rfl
 |a::l,i+1,h=>(ga _ _ _).trans ((yc (by simpa using h)).cons a)
theorem Ia(f:Nat->Nat):∀(n k:Nat)(l:List α)(o:Array α),-l<=n->(pickOrder.go f n k l o).toList.Perm (o.toList++l)
 |0=>λk l o h=>by have:l=[]:=length_eq_zero_iff.mp ();subst this;simp[pickOrder.go]
 |n+1=>λk l o h=>by
  unfold pickOrder.go;cases l with
  |nil=>simp
  |cons a l=>
   have i:f k%-(a::l)< -(a::l):=Nat.mod_lt _ (by simp);rw[ge i];show(Ia f n (k+1) _ _ ∅).trans ?_;rw[Array.toList_push,eK];show Perm.append_left _ (yc i)
def WX(f:Nat->Nat)(o:Array α):(pickOrder f o).toList.Perm o.toList:=by have:=Ia f o.size 0 o.toList #[] ();simpa [pickOrder] using this
section
variable {prog:Program}
def K9(N:0<n)(h:∀i d,i<n->Q i { s with drawn:=d }):wpAny W A (choose F n) Q E s:=λΓ p hΓ=>by show Sem.wp W Γ (.choose F n .pure) _ _ p s;rw[Sem.wp_choose];show#[(),h _ _ (Nat.mod_lt _ N)]
theorem vH:∀(n:Nat)(xs:List α){Q:List α->Shared->Prop}{s:Shared},-xs<=n->(∀ys d,ys.Perm xs->Q ys { s with drawn:=d })->wpAny N A (drawOrder n xs) Q E s
 |0,xs,Q,s=>λh q=>by have:xs=[]:=length_eq_zero_iff.mp ();subst this;show a8 (q [] s.drawn .rfl)
 |n+1,[],Q,s=>λh q=>a8 (q [] s.drawn .rfl)
 |n+1,x::xs,Q,s=>λh q=>by show al (K9 (by simp) λi d hi=>?_);rw[ge hi];show al (vH n _ ∅ λys F p=>a8 (q _ F ((p.cons _).trans (yc hi))))
abbrev t7(h:Heap)(it a:Addr)(f:Value)(i n ep:Nat):Prop:=h.get? it=some { cls:=.type "set_iterator",dict:=J,data:=.fields (List.toArray [f,rawInt i,YV a,rawInt n,rawInt ep]),slots:=#[] }
def vI(w:World)(h:Heap)(it P a:Addr)(es:Array (Int×Value))(ep:Nat)(t:SetTable)(vs:List Value)(i:Nat):Prop:=
 (byText w=G/\t7 h it a (rawInt 0) i es.size ep/\vs=(pickOrder (w.params.setOrder a ep) es).toList.map (·.2))
\/(byText w=M/\1< ~~~es/\∃(pl:List Nat)(k:Nat),t7 h it a (YV P) i es.size ep/\h.get? P=!(seqObj "tuple" (pl.map λj:Nat=>rawInt j).toArray k)/\P≠it/\pl.Perm (List.range es.size)/\vs=pl.map λj=>(es.getD j (0,.none)).2)
\/(byText w=M/\es.size<=1/\∃sl:Nat,t7 h it a (rawInt sl) i es.size ep/\vs=es.toList.map (·.2)/\((i=0/\sl=0)\/∃p,t.place=(List.toArray [p])/\i=1/\sl=p+1))
def WY(S:lZ s.heap a es ep t (not (byText w)))
 (h:∀h' d W P vs,(∀b o,s.heap.get? b=!o->h'.get? b=!o)->vI w h' W P a es ep t vs 0->vs.Perm (es.toList.map (·.2))-> ~~~s.heap.objs<=W-> ~~~s.heap.objs<=P->W< ~~~h'.objs->P< ~~~h'.objs->Q (YV W) { s with heap:=h',drawn:=d }):
 wpAny (model prog w) A (pyIter (YV a)) Q E s:=by
 have hT:s.TypeIs (YV a) "set":=#[_,S.at_,O];show wpAny_pyIter_slot hT F.slot_set_iter (wpAny_call_entry F.slot_set_iter hT Uq ?_ ());unfold Builtin.«frozenset.__iter__» Builtin.Frozenset.slot0 slotArgs;simp only[bind_assoc];show al (a8 ?_)
 try dsimp only
 show al (a8 ?_);show al (al (wpAny_setEntries_of S.at_ O S.fits (a8 ?_)));show al (al (lm S.at_ O S.fits (al (al (wpAny_askSetting (a8 (a8 ?_)))))));show wpAny _ _ (if (not (byText w)&&(not t.plain&&decide (~~~es>1)))=G then _ else _) _ _ _;split
 . rename_i D;simp only[iF,Bool.not_eq_true',decide_eq_true_eq]at D;show al (vH es.size (range es.size) (by simp) λpl d hp=>?_);have hl:-pl= ~~~es:=by rw[hp.length_eq,i8]
   show al (wpAny_newTuple ?_ (by have:=Bk S.bd;simp;lia));have g1:(s.heap.push (seqObj "tuple" (pl.map λj:Nat=>rawInt j).toArray 0)).get? (c8 s)=!(seqObj "tuple" (pl.map λj:Nat=>rawInt j).toArray 0):=ff _ O;show al (wpAny_setEpoch_of (eJ _ S.at_) O S.fits ?_);show al (mx (a8 #[_,O,"set_iterator",_,#[_,ff _ O,O],oN.lookup,?_]));have z:(s.heap.push (seqObj "tuple" (pl.map λj:Nat=>rawInt j).toArray 0)).objs.size=(c8 s)+1:=size_push' ..;show h _ d _ (c8 s) (pl.map λj=>(es.getD j (0,.none)).2) (λb o q=>eJ _ (eJ _ q)) (YY (Zl #[D.1,D.2.2,pl,0,ff _ O,eJ _ g1,?_,hp,O])) ?_ ?_ (dP _) ?_ ?_
   . show fw (by show (c8 s)<(s.heap.push _).objs.size;rw[z];show mB _)
   . show(hp.map _).trans (.of_eq ?_);show ext_getElem (by simp) λi h1 h2=>?_
     simp[(by simpa using h1)]
   .  rw[z];show mP _
   . show dQ (ff _ O)
   . show dQ (eJ _ g1)
 . rename_i D;show al (a8 (al (wpAny_setEpoch_of S.at_ O S.fits ?_)));show al (mx (a8 #[_,O,"set_iterator",_,#[_,ff _ O,O],oN.lookup,?_]));have z:∀o:Obj,(c8 s)<(s.heap.push o).objs.size:=λo=>by rw[size_push'];show mB _
   by_cases hb:byText w=G
   . show h _ s.drawn _ (c8 s) _ (λb o q=>eJ _ q) (Zl #[hb,ff _ O,O]) ((WX _ es).map _) (dP _) (dP _) (z _) (z _)
   . have N:byText w=M:=by simpa using hb
     have hz: ~~~es<=1:=by
      rw[N]at D;obtain g|g:=fU 1 es.size
      . show absurd (by rw[S.plain ()];simp;lia) D
      . show g
     show h _ s.drawn _ (c8 s) _ (λb o q=>eJ _ q) (YY (YY #[N,hz,0,ff _ O,O,Zl #[O,O]])) .rfl (dP _) (dP _) (z _) (z _)
def Ib(S:lZ s.heap a es ep t (not (byText w)))(j:byText w=G)
 (h:Q (((pickOrder (w.params.setOrder a ep) es)[i]?).map λe=>(e.2,sl)) s):wpAny (model prog w) A (setNext a sl i ep) Q E s:=by
 show al (lm S.at_ O S.fits (al (al (wpAny_askSetting (a8 ?_)))));show wpAny _ _ (if byText w=G then _ else _) _ _ _;rw[ax j,a_ (by simp)];show al ?_;show al (lm S.at_ O S.fits (al (al (wpAny_askSetting (a8 ?_)))));show wpAny _ _ (if byText w=G then _ else _) _ _ _;rw[ax j];show al (wpAny_askSetting (a8 (a8 h)))
def Ie(S:lZ s.heap a es ep t (not (byText w)))(hb:byText w=false)(hz: ~~~es<=1)
 (h:Q (match es[SetTable.below t.place sl]?,t.place[SetTable.below t.place sl]? with |some (_,x),!j=>some (x,j+1) |_,_=>none) s):wpAny (model prog w) A (setNext a sl i ep) Q E s:=by
 show al (wpAny_setState_of S.at_ rfl S.fits (al (al (wpAny_askSetting (a8 ?_)))));show wpAny _ _ (if byText w=true then _ else if (not t.plain&&decide (~~~es>1))=true then _ else _) _ _ _;have n1:¬ ~~~es>1:=()
 rw[a_ (),a_ (by simp[n1])];show al (show wpAny _ _ (if (not t.led&&not es.isEmpty)=true then unsupported "set:maker-not-led" else pure Unit.unit) _ _ _ from ?_);rw[a_ (by rw[S.led,hb];simp)];show a8 (a8 h)
def NI(S:lZ s.heap a es ep t b)(q:t7 s.heap it a f i es.size ep):a≠it:=pM S.at_ q (by simp)
def La(z:A.handled=J)(h:∀h' e,(∀b o,s.heap.get? b=!o->h'.get? b=!o)->(∃o,h'.get? e=!o/\o.cls=.type "StopIteration")->E (YV e) { s with heap:=h' }):
 wpAny (model prog w) A (newExc (.type "StopIteration") [] >>= λe=>(raiseNew e:Sem α)) Q' E s:=by
 show al ?_;show al (mx (al (wpAny_of_eq () (mx ?_ (by size_fits)))) (by size_fits));show al (wpAny_handled ?_);rw[z];show al (a8 (wpAny_throw (h _ _ (λb o q=>eJ _ (eJ _ q)) #[_,ff _ O,O])))
def GX{P:Addr}(i:s.heap.get? P=!(seqObj "tuple" xs k))(h:Q (!xs) s):wpAny (model prog w) A (seqItems? (YV P)) Q E s:=by show al (wpAny_load i ?_);show a8 h
def yd{sl:Nat}(hh:A.handled=J)(S:lZ s.heap a es ep t (not (byText w)))(q:t7 s.heap N a (rawInt sl) i es.size ep)(r:Option (Value×Nat))
 (hn:∀{A':Around}{Q':Option (Value×Nat)->Shared->Prop}{E':Value->Shared->Prop},Q' r s->wpAny (model prog w) A' (setNext a sl i ep) Q' E' s)
 (h1:∀x n h',r=!(x,n)->Heap.SameBut N s.heap h'->t7 h' N a (rawInt n) (i+1) es.size ep->Q (!x) { s with heap:=h' })
 (h2:r=J->∀h',Heap.ExtBut N s.heap h'->Q J { s with heap:=h' }):wpAny (model prog w) A (pyNext (YV N)) Q E s:=by
 have hT:s.TypeIs (YV N) "set_iterator":=#[_,q,O];show al (wpAny_attempt (wpAny_callSpecial?_slot hT oN (wpAny_call_entry oN hT Qf ?_ (K8 _))));show al (a8 ?_);show al (wpAny_fieldsOf q O (al (wpAny_setEntries_of S.at_ O S.fits ?_)));rw[a_ (by simp)];show al (hn ?_);cases r with
 |some x=>
  let(x,n):=x;show al (wpAny_setField_rec q (by simp) λg1 q1 b1=>al (wpAny_setField_rec q1 (by simp) λg2 q2 b2=>a8 #[_,O,a8 (h1 x n g2 O (b1.trans b2) ?_)]));show q2
 |none=>
  show al (wpAny_setField_rec q (by simp) λg1 q1 b1=>La hh λg2 e k NJ=>?_);let(o,ho,hc):=NJ;show al (wpAny_isInstance (T:="StopIteration") (#[o,ho,hc]) isSubtype_stop (?_:wpAny _ _ _ _ _ _));show a8 (h2 O _ λb o hb z=>k b o (b1.extBut b o hb z))
def Ig{F P a:Addr}{pl:List Nat}(hh:A.handled=J)(S:lZ s.heap a es ep t (not (byText w)))(q:t7 s.heap F a (YV P) i es.size ep)
 (hP:s.heap.get? P=!(seqObj "tuple" (pl.map λj:Nat=>rawInt j).toArray k)) (hp:∀j∈pl,j< ~~~es)
 (h1:∀j h',pl[i]?=!j->Heap.SameBut F s.heap h'->t7 h' F a (YV P) (i+1) es.size ep->Q (!(es.getD j (0,.none)).2) { s with heap:=h' })
 (h2:pl[i]?=J->∀h',Heap.ExtBut F s.heap h'->Q J { s with heap:=h' }):wpAny (model prog w) A (pyNext (YV F)) Q E s:=by
 have hT:s.TypeIs (YV F) "set_iterator":=#[_,q,O];show al (wpAny_attempt (wpAny_callSpecial?_slot hT oN (wpAny_call_entry oN hT Qf ?_ (K8 _))));show al (a8 ?_);show al (wpAny_fieldsOf q O (al (wpAny_setEntries_of S.at_ O S.fits ?_)));rw[a_ (by simp)];show al (GX hP ?_);show wpAny _ _ (match (pl.map λj:Nat=>rawInt j).toArray[i]? with |some (.int place _)=>_ |some _=>_ |none=>_) _ _ _;cases N:pl[i]? with
 |some j=>
  rw[show (pl.map λj:Nat=>rawInt j).toArray[i]?=some (rawInt j) from by simp[N]];let jf:=hp j (gt N);show wpAny _ _ (setNextDrawn a j ep >>= λx=>setField (YV F) 1 (rawInt ((i:Int)+1)) >>= λ_=>ret x) _ _ _;show al ?_;show al (lm S.at_ O S.fits ?_);dsimp only;rw[a_ (by simp),mw jf];have e0:(es.getD j (0,.none)).2=es[j].2:=by simp[jf]
  let W:=h1 j;rw[e0]at W;show a8 (al (wpAny_setField_rec q (by simp) λg1 q1 b1=>a8 #[_,O,a8 (W g1 N b1 ?_)]));show q1
 |none=>
  rw[show (pl.map λj:Nat=>rawInt j).toArray[i]?=J from by simp at N ⊢;show N];show al (wpAny_setField_rec q (by simp) λg0 q0 b0=>al (wpAny_setField_rec q0 (by simp) λg1 q1 b1=>La hh λg2 e k vS=>?_));let(o,ho,hc):=vS;show al (wpAny_isInstance (T:="StopIteration") (#[o,ho,hc]) isSubtype_stop (?_:wpAny _ _ _ _ _ _));show a8 (h2 N _ λb o hb z=>k b o (b1.extBut b o hb (b0.extBut b o hb z)))
def vI.keep{z P a:Addr}(W:vI w h z P a es ep t vs i)(F:∀o,h.get? z=!o->h'.get? z=!o)(k2:∀o,h.get? P=!o->h'.get? P=!o):vI w h' z P a es ep t vs i:=by
 obtain⟨j,q,e⟩|⟨j,D,pl,k,q,Q,N,hp,e⟩|⟨j,D,sl,q,e,hs⟩:=W
 . show Zl #[j,F _ q,e]
 . show YY (Zl #[j,D,pl,k,F _ q,k2 _ Q,N,hp,e])
 . show YY (YY #[j,D,sl,F _ q,e,hs])
def Ih:below (List.toArray [p]) 0=0/\below (List.toArray [p]) (p+1)=1:=by
 constructor
 . simp[below,below.go]
 . simp[below,below.go]
theorem lZ.place(S:lZ h a es ep t b): ~~~t.place= ~~~es:=by have:=S.fits;simp only[SetTable.fits,iF,beq_iff_eq]at this;show this.1
def vI.ne{j P a:Addr}(S:lZ s.heap a es ep t b)(W:vI w s.heap j P a es ep t vs i):a≠j:=by rcases W with ⟨z,q,e⟩|⟨z,D,pl,k,q,N,F,Q,e⟩|⟨z,D,sl,q,e,hs⟩<;>show NI S q
def Lb:entryFor table "set_iterator.__iter__"=some Builtin.«dict_keyiterator.__iter__»:=entryFor_alias (id':="dict_keyiterator.__iter__") () () () ()
def JK(a:Value):argsOk "set_iterator.__iter__" #[[a],[]]:=by unfold argsOk;rw[signature?_of (id:="set_iterator.__iter__") (n:=['_','_','r','e','t','i','_','_']) () Qe];kernel_rfl
def W0(q:t7 s.heap it a f i n ep)(h:Q (.ref it) s):wpAny (model prog w) A (pyIter (.ref it)) Q E s:=by have j:s.TypeIs (.ref it) "set_iterator":=#[_,q,rfl];show wpAny_pyIter_slot j K7 (wpAny_call_entry K7 j Lb ?_ (JK _));show show wpAny _ _ (ret (.ref it)) _ _ s from a8 #[_,rfl,"set_iterator",_,j,oN.lookup,h]
def Ur(hh:A.handled=none)(it P a:Addr)(es:Array (Int×Value))(ep:Nat)(t:SetTable)(vs:List Value):
 Walks prog w A it [it,P,a] [it] (-vs) (λi v=>vs[i]?=!v) (λi h=>vI w h it P a es ep t vs i/\lZ h a es ep t (not (byText w))) where
 sub:=λb D=>by
  have:b=it:=by simpa using D
  simp[this]
 frame:=λi h h' st k=>#[st.1.keep (λo q=>k it (by simp) o q) λo q=>k P (by simp) o q,st.2.moved λo q=>k a (by simp) o q]
 item:=λi s Q E hi st hQ=>by
  let(W,S):=st;obtain⟨v,hv⟩:∃v,vs[i]?=!v:=#[_,ge hi];let na:=W.ne S;have fin:∀h',Heap.SameBut it s.heap h'->vI w h' it P a es ep t vs (i+1)->Q (!v) { s with heap:=h' }:=λh' b W'=>hQ _ h' s.toks hv #[W',S.moved λo q=>(b.2 a na).trans q] λc o hc q=>b.extBut c o (λz=>hc (by simp[z])) q;obtain⟨D,q,e⟩|⟨D,N,pl,k,q,hP,sG,hp,e⟩|⟨D,N,sl,q,e,hs⟩:=W
  . have hx:∃z,(pickOrder (w.params.setOrder a ep) es)[i]?=!z/\z.2=v:=by
     let F:=hv;rw[e,eL,fN]at F;cases N:(pickOrder (w.params.setOrder a ep) es)[i]? with
     |none=>rw[N]at F;cases F
     |some z=>rw[N]at F;show#[z,rfl,by simpa using F]
    let(z,N,ez):=hx;show yd hh S q (!(z.2,0)) (λ{A'} {Q'} {E'} hq=>Ib S D (by rw[N];show hq)) (λx n h' er b q'=>?_) (λer=>by cases er);cases er;rw[ez];show fin h' b (.inl #[D,q',e])
  . show Ig hh S q hP (λj hj=>by simpa using hp.mem_iff.mp hj) (λj h' hj b q'=>?_) (λhn=>?_)
    . have:(es.getD j (0,.none)).2=v:=by let F:=hv;rw[e,eL,hj]at F;simpa using F
      rw[this];show fin h' b (.inr (.inl #[D,N,pl,k,q',(b.2 P sG).trans hP,sG,hp,e]))
    . let F:=hv;rw[e,eL,hn]at F;cases F
  . have hl:-vs= ~~~es:=by rw[e];simp
    have NK:i=0:=()
    have NL:sl=0:=by
     obtain⟨_,g⟩|⟨p,_,g,_⟩:=hs
     . show g
     . lia
    have NM: ~~~es=1:=()
    obtain⟨p,hp⟩:∃p,t.place=(List.toArray [p]):=by have:=S.place;rw[NM]at this;show Array.size_eq_one_iff.mp this
    have NN:below t.place sl=0:=by rw[hp,NL];show Ih.1
    have he:es[0]?=some es[0]:=mw ();have ev:v=es[0].2:=by subst NK;let F:=hv;rw[e,eL,fN,he]at F;simpa using F.symm
    show yd hh S q (!(es[0].2,p+1)) (λ{A'} {Q'} {E'} hq=>Ie S D N (by rw[NN,he,hp];show hq)) (λx n h' er b q'=>?_) (λer=>by cases er);cases er;rw[<-ev];show fin h' b (.inr (.inr #[D,N,p+1,q',e,.inr #[p,hp,(),rfl]]))
 done:=λs Q E st hQ=>by
  let(W,S):=st;have fin:∀h',Heap.ExtBut it s.heap h'->Q none { s with heap:=h' }:=λh' b=>hQ h' s.toks λc o hc q=>b c o (λz=>hc (by simp[z])) q;obtain⟨D,q,e⟩|⟨D,N,pl,k,q,hP,sG,hp,e⟩|⟨D,N,sl,q,e,hs⟩:=W
  . have hn:(pickOrder (w.params.setOrder a ep) es)[-vs]?=none:=by rw[e];simp
    show yd hh S q none (λ{A'} {Q'} {E'} hq=>Ib S D (by rw[hn];show hq)) (λx n h' er b q'=>by cases er) (λ_=>fin)
  . show Ig hh S q hP (λj hj=>by simpa using hp.mem_iff.mp hj) (λj h' hj b q'=>by rw[e]at hj;simp at hj) (λ_=>fin)
  . have hl:-vs= ~~~es:=by rw[e];simp
    show yd hh S q none (λ{A'} {Q'} {E'} hq=>Ie S D N ?_) (λx n h' er b q'=>by cases er) (λ_=>fin);obtain⟨g,g'⟩|⟨p,hp,g,g'⟩:=hs
    . have:es=#[]:=by apply Array.eq_empty_of_size_eq_zero;lia
      subst this;simpa using hq
    . rw[hp,g',Ih.2];have: ~~~es=1:=()
      let hn:=nB ();rw[hn];show hq
 self:=λi s Q E st hQ=>by rcases st.1 with ⟨D,q,e⟩|⟨D,N,pl,k,q,hP,sG,hp,e⟩|⟨D,N,sl,q,e,hs⟩<;>show W0 q hQ
def Ey(prog:Program)(w:World)(A:Around)(d:Addr)(ok:List Value->Prop)(s1:Shared):Prop:=∀(Q':Value->Shared->Prop)(E':Value->Shared->Prop),
 (∀h' dr I fp wr n P St,(∀b o,s1.heap.get? b=!o->h'.get? b=!o)->Walks prog w A I fp wr n P St->St 0 h'->(∀acc,ItemsOf P acc n->ok acc.toList)->(∀b∈fp,b=d\/s1.heap.objs.size<=b)->(∀b∈wr,~~~s1.heap.objs<=b)->n<=sizeLine->Q' (YV I) { s1 with heap:=h',drawn:=dr })->
 wpAny (model prog w) A (pyIter (YV d)) Q' E' s1
abbrev v6:Obj:={ cls:=.type "list",data:=.seq ([]:List Value).toArray }
def R7(h:ItemsOf (λi v=>vs[i]?=!v) acc (-vs)):acc.toList=vs:=by
 show ext_getElem? λi=>?_;rw[fN];cases hi:acc[i]? with
 |some v=>show(h.2 i v hi).symm
 |none=>
  have:-vs<=i:=by rw[<-h.1];show Array.getElem?_eq_none_iff.mp hi
  grind
def Ez(m9:T="set"\/T="dict")(hT:s.TypeIs (YV d) T)(hI:Ey prog w A.in1 d ok { s with heap:=s.heap.push v6 })
 (hQ:∀h' dr tk vs,ok vs->(∀b o,s.heap.get? b=!o->h'.get? b=!o)-> ~~~s.heap.objs<= ~~~h'.objs->Q vs { s with heap:=h',drawn:=dr,toks:=tk }):wpAny (model prog w) A (collect (YV d)) Q E s:=by
 have hd:d< ~~~s.heap.objs:=by let(o,ho,_):=hT;show dQ ho
 show al (wpAny_runValue (codeAny_builtin F.entry_proto_collect (?_:wpAny _ _ _ _ _ _)));show(al (wpAny_newObj_type (a8 #[plainId_quiet F.plain_list_iadd _,codeAny_builtin F.entry_list_iadd (?_:wpAny _ _ _ _ _ _)])));have BC:Shared.TypeIs { s with heap:=s.heap.push v6 } (YV d) T:=by let(o,ho,hc):=hT;show#[o,eJ _ ho,hc]
 show(show wpAny _ A.in1 (Builtin.List.listExtendWith (YV s.heap.objs.size) (YV d) (YV s.heap.objs.size)) _ _ { s with heap:=s.heap.push v6 } from ?_);show al (wpAny_typeOf BC ?_);have h1:Builtin.List.listSameRef (YV s.heap.objs.size) (YV d)=M:=by have: ~~~s.heap.objs≠d:=j_ hd;simp[Builtin.List.listSameRef,this]
 have z0:(s.heap.push v6).objs.size= ~~~s.heap.objs+1:=size_push' ..;rw[a_ (by rcases m9 with rfl|rfl<;>(rw[h1];decide))];show al (hI _ _ λh' dr I fp wr n P St k W st hok NO NR gX=>?_);have kU:Shared.TypeIs { s with heap:=h',drawn:=dr } (YV d) T:=by let(o,ho,hc):=BC;show#[o,k _ _ ho,hc]
 let g1:=k _ _ (ff _ O);have nf: ~~~s.heap.objs∉fp:=λq=>by
  obtain z|z:=NO _ q
  . show absurd z (j_ hd)
  . rw[z0]at z;show absurd z (Nat.not_succ_le_self _)
 have hint:∀{Q':Bool->Shared->Prop}{E':Value->Shared->Prop},Q' M { s with heap:=h',drawn:=dr }->wpAny (model prog w) A.in1 (Builtin.List.listLengthHint (YV d)) Q' E' { s with heap:=h',drawn:=dr }:=by
  intro Q' E' q;unfold Builtin.List.listLengthHint;obtain rfl|rfl:=m9
  . show al (wpAny_specialOf kU F.slot_set_len.lookup ?_);generalize pS:("set.__len__" : String)=wt
    wp_delta
    rw[show splitId wt=some ("set","__len__") from by subst pS;decide +kernel];subst pS;show al (wpAny_isInstance (b:=G) kU (by rw[isSubtype_type];kernel_rfl) ?_);rw[a_ (by simp)];dsimp only;rw[ax ()];show al (wpAny_typeOf kU (a8 q))
  . show al (wpAny_specialOf kU F.slot_dict_len.lookup ?_);generalize pS:("dict.__len__" : String)=wt
    wp_delta
    rw[show splitId wt=some ("dict","__len__") from by subst pS;decide +kernel];subst pS;show al (wpAny_isInstance (b:=G) kU (by rw[isSubtype_type];kernel_rfl) ?_);rw[a_ (by simp)];dsimp only;rw[ax ()];show al (wpAny_typeOf kU (a8 q))
 show al (wpAny_holding (hint ?_));rw[ax (by rcases m9 with rfl|rfl<;>decide +kernel)];show al (wpAny_rule (al ?_));show(al (wpAny_updateSeq g1 O ?_));let g2:=mN (Obj.mapSeq (·.push Value.none)) g1 O;show wpAny_updateSeq g2 O ?_;let g3:=mN (Obj.mapSeq (·.pop)) g2 O;have BD:∀b o,b≠s.heap.objs.size->h'.get? b=!o->((h'.update s.heap.objs.size (Obj.mapSeq (·.push Value.none))).update s.heap.objs.size (Obj.mapSeq (·.pop))).get? b=!o:=λb o hb q=>(nN _ _ (Ne.symm hb)).trans ((nN _ _ (Ne.symm hb)).trans q);show a8 #[plainId_quiet F.plain_extend_loop _,codeAny_extend_loopS W.toS gX s.heap.objs.size nf (YV s.heap.objs.size) n 0 _ _ _ O (gz _) (W.frame 0 h' _ st λb hb o q=>BD b o (λz=>nf (z▸hb)) q) g3 (ItemsOf.nil _) λs' acc c m g4 it=>?_];show(al (wpAny_load g4 (a8 ?_)));let(x1,x2,x3,x4,x5):=s';obtain rfl:x2=s.gens:=m.gens;obtain rfl:x3=dr:=m.drawn;obtain rfl:x5=s.os:=m.os;show hQ x1 x3 x4 acc.toList (hok acc it) (λb o q=>m.heap b o (λz=>?_) (BD b o (fw (dQ q)) (k _ _ (eJ _ q)))) (oQ (dQ g4));obtain z|z:=bh.mp z
 . show absurd z (fw (dQ q))
 . have:=NR b z;rw[z0]at this;show absurd (gu (dQ q) (rQ this)) (ly _)
def EY(F:A.handled=J)(S:lZ s.heap a es ep t (not (byText w))):Ey prog w A a (λvs=>vs.Perm (es.toList.map (·.2))) s:=λQ' z k=>WY S λh' d j P vs ext W D l1 l2 _ _=>by
 have N:-vs= ~~~es:=by rw[D.length_eq];simp
 show k h' d j [j,P,a] [j] _ _ _ ext (Ur F j P a es ep t vs) #[W,S.moved λo q=>ext _ _ q] (λQ q=>by rw[R7 q];show D) (λb i=>?_) (λb i=>?_) (by rw[N];show Bk S.bd)
 . simp only[bh,kL,or_false]at i;obtain rfl|rfl|rfl:=i
   . grind
   . grind
   . show Zl O
 . simp only[bh,kL,or_false]at i;subst i;show l1
def Us(N:T="set"\/T="dict")(hT:s.TypeIs (YV d) T)(hI:Ey prog w A.in1.in1 d ok { s with heap:=s.heap.push v6 })(F:∀vs,ok vs->(∃D,StrsAre vs D)/\-vs<64)
 (h:∀h' dr tk L out c vs D j,ok vs->StrsAre vs D->StrsAre out.toList j->j.Perm D->sortedS j=G->(∀b o,s.heap.get? b=!o->h'.get? b=!o)->h'.get? L=!(seqObj "list" out c)-> ~~~s.heap.objs<=L->Q (YV L) { s with heap:=h',drawn:=dr,toks:=tk }):
 wpAny (model prog w) A (call (.builtin "sorted") [YV d]) Q E s:=by
 show Calls.call_function_entry kind_sorted plain_sorted entry_sorted (args_sorted1 _) ?_;show al (a8 (al (Ez N hT hI λh1 dr tk vs hv k hz=>?_)));let((D,hs),hl):=F vs hv;show al (wpAny_newList ?_ (by rw[hG];lia));have W:(h1.push (seqObj "list" vs.toArray 0)).get? h1.objs.size=!(seqObj "list" vs.toArray 0):=ff _ O;show al (iE (wpAny_call_entry slot_list_sort #[_,W,O] entry_list_sort (list_sort_treeK strKind_oneLt W hs.keysOf (λv₁ v₂ a9 e=>keyKind_strs (by rw[<-e];show hs)) hl λf6 p1 p2=>#[_,O,?_]) (args_list_sort _)));let(j,r1,r2,r3):=sorted_out_str hs p1 p2;let(e,he):=sortedHeap_at W;show a8 #[_,O,h _ dr tk _ _ e vs D j hv hs r1 r2 r3 (λb o q=>?_) he ?_]
 . show(sortedHeap_old (fw (dQ (k b o q))) (by rw[size_push'];show jS (dQ (k b o q)))).trans (eJ _ (k b o q))
 . show hz
end
section
variable {X:Cx}{ae:List (Addr×Obj)}{U:St}{H:Hp}{s:Shared}
def am.drew(I:am X ae U H s)(d:Drawn):am X ae U H { s with drawn:=d }:=
 I.step (ch:=[]) (λb j=>by cases j) (λb o _ _ _ e _=>e) (λb o _ _ _ e _=>#[o.slots,e]) (λ_ _ _ _ n=>n) (λb o _ e=>#[o,e]) (λ_ _ e=>e) (λ_ _ _ e=>e) (λb ps e=>#[#[],by rw[e];simp]) (λm q=>q) I.hok I.bare
theorem Ii:∀{j:List Str}{i:List Value},ap (j.map V.str) i->StrsAre i j
 |[],i=>λr=>by cases r;show .nil
 |x::j,i=>λr=>by
  cases r with
  |cons a b=>
   let(t,rfl):=a;show .cons x t (Ii b)
theorem Ij:∀{i:List Value}{j:List Str},StrsAre i j->ap (j.map V.str) i
 |_,_,.nil=>.nil
 |_,_,.cons y t r=>.cons #[t,O] (Ij r)
def Ld(P:Program)(w:World)(a:Addr)(ss:List Str):Heap->Prop:=λh=>∃es ep t,tK P w h a es ep t (not (byText w))/\(∀y,y∈gG es ↔ y∈ss)/\es.size<=-ss
def BG(X:Cx):List V->Hp->VK->Prop:=λxs H Q=>∃a ss,xs=[.ref a]/\bY X.K H a (ss.map V.str)/\-ss<4000/\∀l,H l=J->Q (.ref l) (aI H l (.ext (Ld X.prog X.w l ss)))
def W2(F:X.calm=G):lO X (.type "set") (BG X):=by
 intro c5 s U H xs us Q I r h;let(a,D,rfl,N,hl,q):=h;let(u,rfl,W):=fm r;cases W;let(i,rv,pl,hz):=I.list N;let hs:=Ii rv;let e0:=Do hs;show Ou (I.ok.hd F) pl.isList () (by show i.toArray.size+1<4096;rw[gL];lia) λh' tk es j t S mem sz kp=>?_;have z: ~~~es<=-D:=by
  have e9: ~~~i.toArray=-i:=by simp
  lia
 show#[.ref (c8 s),_,I.laid (λb o e=>kp b o (dQ e) e) () (show fG X.prog X.w _ h' _ (.ext (Ld X.prog X.w (c8 s) D)) from #[#[es,j,t,S,mem,z],#[_,S.at_],λh1 h2 NS k=>by let(es,j,t,S,r):=NS;show #[es,j,t,S.moved k,r]]),O,q _ (I.hok.fresh ())]
def Ut(X:Cx):List V->Hp->VK->Prop:=λxs H Q=>∃a ss,xs=[.ref a]/\H a=!(.ext (Ld X.prog X.w a ss))/\-ss<64/\∀l sI,H l=J->sI.Nodup->(∀y,y∈sI ↔ y∈ss)->sortedS sI=G->Q (.ref l) (aI H l (.lst (sI.map V.str)))
def Uu(p:vs.Perm (es.toList.map (·.2)))(h:StrsAre vs ss):ss.Perm (gG es):=by
 rw[<-h.strs];have:=p.map strOf
 rwa [fE]at this
def Fb(hc:X.calm=G):lO X (.builtin "sorted") (Ut X):=by
 intro ae s U H xs us Q I r h;let(a,ss,rfl,W,hl,q):=h;let(u,rfl,rx):=fm r;cases rx;let((es,ep,t,S,mem,sz),_):=I.hok a _ W;show Us (T:="set") (Zl O) #[_,S.at_,O] (EY (by simpa using I.ok.hd hc) (S.1.moved λo e=>eJ _ e)) (λj p=>#[#[_,strsAre_map j λv F=>?_],?_]) λh' dr N L out c j s1 i p t1 t2 p2 so kp g z=>?_
 . let(e,he,rfl):=dA.mp (p.mem_iff.mp F);let((k,h1,_),_):=S.el e he;let(u,hu):=Value.isStrOf_shape h1;show#[k,u,hu]
 . have:=p.length_eq;simp only[da,gT]at this;lia
 . let pk:=p2.trans (Uu p t1);have kS:-i<=64:=by have:=pk.length_eq;unfold gG at this;simp only[da,gT]at this;lia
   let D:=I.laid (t':=N) kp z (show fG X.prog X.w _ h' L (.lst (i.map V.str)) from #[by rw[da,hG];lia,out.toList,c,Ij t2,g]);show#[.ref L,_,D.drew dr,O,q L i (I.hok.fresh z) (pk.nodup_iff.mpr S.nd) (λy=>(pk.mem_iff).trans (mem y)) so]
end
section
variable {X:Cx}
theorem Qg:∀{ns:List Int}{j:List Value},ap (ns.map V.int) j->∀(i:Nat)(v:Value),j[i]?=!v->∃t,v=.int (ns.getD i 0) t
 |[],j=>λr i v h=>by cases r;simp at h
 |n::ns,j=>λr i v h=>by
  cases r with
  |cons a b=>
   let(t,rfl):=a;cases i with
   |zero=>cases h;show#[t,O]
   |succ i=>
    let(u,e):=Qg b i v ();grind
theorem Dp:∀{ns:List Int},(∀n∈ns,0<=n)->∀j,0<=(ns.take j).sum/\(ns.take j).sum<=ns.sum/\0<=ns.getD j 0/\ ns.getD j 0<=ns.sum
 |[]=>λ_ j=>by simp
 |n::ns=>λh j=>by
  let D:=h n cS;let i:=Dp λx q=>h x (d_ _ q);let z:=i 0;cases j with
  |zero=>simp at z ⊢;lia
  |succ j=>
   have:=i j;simp only[take_succ_cons,sum_cons,getD_cons_succ]at this ⊢;lia
def Le(hc:X.calm=G):lO X (.builtin "sum") (λxs H Q=>∃(p:Addr)(ns:List Int),xs=[.ref p]/\bY X.K H p (ns.map V.int)/\(∀n∈ns,0<=n)/\ ns.sum<4611686018427387904/\Q (.int ns.sum) H):=by
 intro c5 s U H xs us Q I r h;let(p,ns,rfl,hq,hp,hs,q):=h;let(u,rfl,rx):=fm r;cases rx;let(D,rv,pl,hz):=I.list hq
 have F:p<(c8 s):=by let(o,ho,_):=pl.isList;show dQ ho
 let N:=fw F;show call_sum_walk (wpAny_pyIter_list pl.isList #[(c8 s),_,_,_,_,_,λi=>ns.getD i 0,O,Walks.list (by simpa using I.ok.hd hc) (c8 s) p N D.toArray,#[#[_,ff _ O,O,O],pl.isList.push _],λb W=>?_,λi v hv=>Qg rv i v ∅,λj hj=>?_,λh' tk t' k=>?_])
 . rw[oI];simp only[bh,kL,or_false]at W;obtain rfl|rfl:=W
   . grind
   . show jS F
 . let a:=Dp hp j;let b:=Dp hp (j+1);rw[preSum_getD];unfold InLong;lia
 . rw[preSum_getD];have e: ~~~D.toArray=-ns:=by simp[(by simpa using (-rv))]
   rw[e,take_length];show#[.int ns.sum,H,?_,#[t',O],q];show I.kept λb o z=>k b o (λm=>by
    have:b=(c8 s):=by simpa using m
    show absurd (dQ z) ∅) (eJ _ z)
end
noncomputable def NU:V->Option Str
 |.str z=>!z
 |.int i=>if i.natAbs.log2<1920 then !(toString i) else J
 |_=>J
def Qh(c:Str):Str.empty++c=c:=by show (#[#[]++c.cps]:Str)=c;grind
def NV(c:Str)(t:TE):TE:=λU H Q=>t U H λv H'=>∃z,NU v=!z/\-(c++z)<=sizeLine/\-z<=sizeLine/\Q (.str (c++z)) H'
section
variable {X:Cx}
def NW(hc:-c<=sizeLine)(he:PE X e t):PE X (.JoinedStr [.Constant (.str c) j p1,.FormattedValue e (-1) J p2] p3) (NV c t):=λae s U H Q I h=>by
 show JoinedStr_many (joinParts_cons (Calls.Constant_str #[by rw[Qh];show hc,?_]));rw[Qh];show joinParts_cons (FormattedValue_plain (kH (he ae _ U H _ (I.tok _) h) (λu s1 q=>?_) λ_ _ x=>x));let(v,H',I1,rv,z,N,F,W,q):=q;cases v with
 |str x=>
  cases (N);let(tk,rfl):=rv;show formatField_str (λt' tk=>#[F,joinParts_nilE (joinParts_nil #[.str (c++z),H',(I1.tok _).tok _,#[_,O],q] F)]) W
 |int i=>
  have D:(if i.natAbs.log2<1920 then !(toString i) else J:Option Str)=!z:=N;split at D
  . rename_i hi;cases D;let(tk,rfl):=rv;show formatField_int_small hi #[F,joinParts_nilE (joinParts_nil #[.str (c++toString i),H',((I1.tok _).tok _),#[_,O],q] F)]
  . cases D
 |_=>cases N
end
abbrev aV:=Option d3
def nR:aV->V
 |none=>.non
 |some k=>kV k
def W3:aV->Value->Bool
 |none,v=>v==.none
 |some k,v=>vA k v
def NX(w:World):aV->Int
 |none=>0xFCA86420
 |some k=>AC w k
theorem fH:∀{k:aV}{v:Value},W3 k v=G->(k=J/\v=.none)\/∃x,k=!x/\vA x v=G
 |none,v=>λh=>Zl #[O,by
  cases v<;>first | rfl | (exfalso;revert h;unfold W3;simp)]
 |some x,v=>λh=>YY #[x,O,h]
section
variable {prog:Program}
def Uv(h:Q 0xFCA86420 { s with toks:=s.toks+1 }):wpAny (model prog w) A (pyHash .none) Q E s:=by have i:s.TypeIs .none "NoneType":=O;show al ?_;show a8 (al (wpAny_specialOf i F.slot_NoneType_hash.lookup ?_));show al (wpAny_specialOf i F.slot_NoneType_hash.lookup (al (wpAny_callSpecialIfBoundUnlessNone?_slot i F.slot_NoneType_hash (wpAny_call_entry F.slot_NoneType_hash i F.entry_NoneType_hash ?_ ()))));show wpAny_ret_mkInt ?_;show a8 h
end
def eV(prog:Program)(w:World):PySem.KeyKind prog w aV where
 is:=W3
 hash:=NX w
 inj:=λv a b ha hb=>by
  obtain⟨rfl,rfl⟩|⟨x,rfl,hx⟩:=fH ha
  . obtain⟨rfl,_⟩|⟨y,rfl,hy⟩:=fH hb
    . rfl
    . rcases dB hy with ⟨i,t,_,e⟩|⟨i,t,_,e⟩<;>cases e
  . obtain⟨rfl,e⟩|⟨y,rfl,hy⟩:=fH hb
    . subst e;rcases dB hx with ⟨i,t,_,e⟩|⟨i,t,_,e⟩<;>cases e
    . show gs some ((fW prog w).inj v x y hx hy)
 byValue:=λk v h=>by
  obtain⟨rfl,rfl⟩|⟨x,rfl,hx⟩:=fH h
  . rfl
  . show(fW prog w).byValue x v hx
 pyHash:=λhv h=>by
  obtain⟨rfl,rfl⟩|⟨x,rfl,hx⟩:=fH hv
  . show Uv h
  . show(fW prog w).pyHash hx h
 eqBool:=λhu hv h=>by
  obtain⟨rfl,rfl⟩|⟨x,rfl,hx⟩:=fH hu
  . obtain⟨rfl,rfl⟩|⟨y,rfl,hy⟩:=fH hv
    . show SeqAt.EqAt.same _ _ _ _ _ h
    . obtain⟨i,t,rfl,rfl⟩|⟨i,t,rfl,rfl⟩:=dB hy
      . show SeqAt.EqAt.none_int i t _ _ _ _ h
      . show SeqAt.EqAt.none_str i t _ _ _ _ h
  . obtain⟨rfl,rfl⟩|⟨y,rfl,hy⟩:=fH hv
    . obtain⟨i,t,rfl,rfl⟩|⟨i,t,rfl,rfl⟩:=dB hx
      . show SeqAt.EqAt.int_none i t _ _ _ _ h
      . show SeqAt.EqAt.str_none i t _ _ _ _ h
    . show(fW prog w).eqBool hx hy ?_;have e:decide ((some x:aV)=!y)=decide (x=y):=by simp
      rw[e]at h;show h
 «strs»:=λk x t v h=>by
  obtain⟨rfl,e⟩|⟨y,rfl,hy⟩:=fH h
  . cases e
  . show(fW prog w).strs y x t v hy
theorem NY:∀{k:aV}{u:Value},aw (nR k) u->(eV P w).is k u=G
 |none,u=>λr=>by let e:=r;subst e;rfl
 |some k,u=>λr=>J7 (P:=P) (w:=w) r
theorem Qi:∀{ks:List aV}{i:List Value},ap (ks.map nR) i->ItemsAre (eV P w) ks i
 |[],i=>λh=>by let e:=h.zero;subst e;show .nil
 |k::ks,i=>λh=>by
  cases h with
  |cons r t=>show .cons (NY r) (Qi t)
def CT(P:Program)(w:World):List aV->Int:=(tupleKind (eV P w)).hash
abbrev XD:=List (List aV×Addr×V)
abbrev XV:=List (List aV×Addr×Value)
def XR:XD->XV->Prop:=Paired λx y=>x.1=y.1/\x.2.1=y.2.1/\aw x.2.2 y.2.2
def wA(hk:List aV->Int)(a:Addr)(xs:XD):Heap->Prop:=λh=>-xs<=sizeLine/\(a==sysModules)=M/\∃ys:XV,XR xs ys/\(ys.map (·.1)).Nodup/\
 ∃o es ep,h.get? a=!o/\o.ExactDict/\o.data=.dict es ep/\es.toList=ys.map λy=>#[hk y.1,YV y.2.1,y.2.2]
def dX(P:Program)(w:World)(a:Addr)(xs:XD):HO:=.ext (wA (CT P w) a xs)
def BH(p:wA hk a xs h):fG P w H h a (.ext (wA hk a xs)):=by let q:=p;let(_,_,ys,_,_,o,es,i,e,_):=q;show#[p,#[o,e],λh1 h2 j k=>by let(z,m,ys,r,n,o,es,i,e,g):=j;show #[z,m,ys,r,n,o,es,i,k _ e,g]]
def jT(xs:XD)(k:List aV):Option V:=(xs.find? λx=>decide (x.1=k)).map (·.2.2)
theorem XR.at:∀{xs:XD}{ys:XV},XR xs ys->(∀v,jT xs k=!v->∃p,atKey ys k=!p/\aw v p.2)/\(jT xs k=none->atKey ys k=none)
 |_,_,.nil=>#[λv h=>(by cases h),λ_=>rfl]
 |x::xs,y::ys,.cons #[h1,h2,q] t=>by
  let i:=XR.at (k:=k) t;unfold jT atKey at i ⊢;by_cases e:x.1=k
  . let j:=h1▸e;grind
  . rw[Aw ∅,Aw ∅];show i
theorem XR.snoc(h:x.1=y.1/\x.2.1=y.2.1/\aw x.2.2 y.2.2):∀{xs:XD}{ys:XV},XR xs ys->XR (xs++[x]) (ys++[y])
 |_,_,.nil=>.cons h .nil
 |_,_,.cons a t=>.cons a (XR.snoc h t)
theorem XR.mem:∀{xs:XD}{ys:XV},XR xs ys->∀y∈ys,∃x∈xs,x.1=y.1/\x.2.1=y.2.1
 |_,_,.nil=>λy h=>by cases h
 |x::xs,z::ys,.cons #[h1,h2,_] t=>λy h=>by
  obtain rfl|h:=bh.mp h
  . grind
  . let(i,m,e):=XR.mem t y h;grind
section
variable {prog:Program}{w:World}{A:Around}{E:Value->Shared->Prop}{s:Shared}{K:Type}[DecidableEq K]{knd:HeapKind prog w K}
def Ov(hu:knd.room A)(i:knd.is s.heap k a)(hm:s.heap.DictOfH knd d xs)
 (q1:∀p,atKey xs k=!p->Q p.2 { s with toks:=s.toks+knd.draws k })
 (q2:atKey xs k=none->∀h',h'.DictOfH knd d (xs++[(k,a,v)])->Heap.SameBut d s.heap h'->Q v { s with heap:=h',toks:=s.toks+knd.draws k })
 (gX:-xs<=sizeLine):wpAny (model prog w) A (dictSetDefault d (.ref a) v) Q E s:=by
 let(o,es,ep,F,hc,z,he,BI,hn):=hm;let hsz':=size_of_entries he;show iE ?_;show al (knd.pyHash hu i (al (wpAny_dictFind_heap hu i F z he BI hn (λN=>?_) λj p hj=>?_)))
 . let hq:=atKey_none_of_get N;show al (wpAny_rule (al (wpAny_updateDictKeys (hz:=()) F z (a8 (q2 hq _ ?_ (kN ..))))));show#[_,_,ep+1,mN _ F (Obj.isFreed_of_dict (Obj.data_mapDictKeys z _)),hc.mapDictKeys _,Obj.data_mapDictKeys z _,by simp[he,entryOfKey],λx D=>?_,?_]
   . obtain D|D:=d6.mp D
     . show knd.keeps (BI x D) F z (kN ..)
     . rw[gg.mp D];show knd.keeps i F z (kN ..)
   . rw[eD];show nX.mpr #[hn,h_.mpr #[kL,oP],λx D y hy e=>not_mem_keys_of_get N ?_];rw[fF,nV,gg]at hy;have q:x=k:=e.trans hy;rw[<-q];show D
 . show al (wpAny_dictEntries F z ?_);rw[entry_at he j,hj];show al (wpAny_rule (a8 (q1 p (atKey_of_get hn hj))))
end
section
variable {X:Cx}
def ux{U:St}(I:am X ae U H s)(e:cW X.K H b (k.map nR)):(tupleKind (eV P w)).is s.heap k b:=by let(i,r,(o,h1,h2,n,j),_):=I.tuple e;show#[o,i.toArray,n,h1,h2,j,by simpa using Qi r]
def am.dx{U:St}(I:am X ae U H s)(e:H a=!(dX X.prog X.w a xs))(hk:∀x∈xs,cW X.K H x.2.1 (x.1.map nR)):
 -xs<=sizeLine/\(a==sysModules)=M/\∃ys:XV,XR xs ys/\s.heap.DictOfH (tupleKind (eV X.prog X.w)) a ys:=by
 let((z,m,ys,r,n,o,es,F,h1,h2,i,Q),_):=I.hok a _ e;show#[z,m,ys,r,o,es,F,h1,h2,i,Q,λy j=>?_,n];let(x,q,D,N):=r.mem y j;rw[<-D,<-N];show ux I (hk x q)
theorem XR.len:∀{xs:XD}{ys:XV},XR xs ys->-ys=-xs
 |_,_,.nil=>rfl
 |_,_,.cons _ t=>by rw[db,db,XR.len t]
def Uw(P:Program)(w:World)(K:FG):V->List V->Hp->VK->Prop:=λx vs H Q=>∃a b xs k v,x=.ref a/\vs=[.ref b,v]/\H a=!(dX P w a xs)/\(∀x∈xs,cW K H x.2.1 (x.1.map nR))/\cW K H b (k.map nR)/\-xs<sizeLine/\
 match jT xs k with
 |some u=>Q u H
 |none=>Q v (aI H a (dX P w a (xs++[(k,b,v)])))
def Ux(hu:X.A.units+1<cLine):PP X "dict.setdefault" (Uw X.prog X.w X.K):=by
 intro c5 s U H x vs v us Q I rx rv h;let(a,b,xs,k,y,rfl,rfl,hH,W,hb,hl,q):=h;cases rx;let(u,r,rfl,rb,ry):=rv.two;cases (rb);let(z,m,ys,j,dd):=I.dx hH W;let oj:=j.len;show call_meetsIn F.slot_dict_setdefault dd.typeIs F.entry_dict_setdefault () (S:=λA ZN s'=>A=X.A/\ZN=wants (EP X c5 U Q) X.xe/\s'=s) (.of_wp λA ZN s' N0=>?_) #[O,O,O];let(e1,e2,e3):=N0;subst e1 e2 e3;show al ?_;show al (wpAny_notOrdered_dict dd.typeIs ?_);show(a8 ?_);dsimp only;rw[a_ ∅];show al (Ov (tupleKind_room_in1 hu) (ux I hb) dd (λp hp=>a8 #[p.2,O,?_]) (λhn h' D hs=>a8 #[r,O,?_]) ())
 . cases e:jT xs k with
   |none=>rw[(j.at).2 e]at hp;grind
   |some N=>
    rw[e]at q;let(p',i,rp):=(j.at).1 N e;rw[hp]at i;cases i;show#[_,_,I.tok _,rp,q]
 . cases e:jT xs k with
   |some N=>
    let(p',i,_):=(j.at).1 N e;grind
   |none=>
    rw[e]at q;let(o,es,ep,h1,h2,h3,h4,h5,h6):=D;show#[_,_,GQ I (by rw[hH];show i7) hs #[o,h1] (BH #[?_,m,ys++[(k,b,r)],j.snoc #[O,O,ry],h6,o,es,ep,h1,h2,h3,h4]),ry,q];grind
def Y8(P:Program)(w:World)(K:FG):V->List V->Hp->VK->Prop:=λx vs H Q=>∃a b xs k v,x=.ref a/\vs=[.ref b,v]/\H a=!(dX P w a xs)/\(∀x∈xs,cW K H x.2.1 (x.1.map nR))/\cW K H b (k.map nR)/\Q ((jT xs k).getD v) H
def Qj(hu:X.A.units+1<cLine):PP X "dict.get" (Y8 X.prog X.w X.K):=by
 intro ae s U H x vs v us Q I rx rv h;let(a,b,xs,k,y,rfl,rfl,hH,i,hb,q):=h;cases rx;let(u,r,rfl,rb,N):=rv.two;cases (rb);let(z,m,ys,j,D):=I.dx hH i;show call_meetsIn F.slot_dict_get D.typeIs F.entry_dict_get (F.args_dict_get_3 _ _ _) (meetsH_dict_get_default (tupleKind (eV X.prog X.w)) a b m r) #[tupleKind_room_in1 hu,k,ys,ux I hb,D,?_];show#[_,_,I.tok _,?_,q];cases e:jT xs k with
 |none=>
  rw[(j.at).2 e];show N
 |some W=>
  let(p',N2,rp):=(j.at).1 W e;grind
def Lg{apos cpos:Pos}{id:String}(q:Slot "dict" name id)(W:typeOf (.builtin id)=pure (.type "method_descriptor"))(hm:PP X id r)(ho:PE X o to)(ha:PA X [e1,e2] t)
 (j:attributeBase o name X.env (eval o X.env)=eval o X.env:=by rfl)
 (z:((backTo cpos (starEach [e1,e2] X.env)).all (λx=>not x.1)&&(backToKw cpos (keywordEach [] X.env)).all (λx=>x.1.isSome)
   && decide ([e1,e2].length+-([]:List Keyword)+(if ([]:List Keyword).isEmpty then 0 else 1)<30))=G:=by rfl)
 (i:(apos.endLine==cpos.line)=G:=by rfl) (hs:starEach [e1,e2] X.env=(M,eval e1 X.env)::starEach [e2] X.env:=by rfl) (D:(backTo cpos (starEach [e2] X.env)).any (·.1)=M:=by rfl):
 PE X (.Call (.Attribute o name apos) [e1,e2] [] cpos) (λU H Q=>to U H λx H1=>(∃a hk xs,x=.ref a/\H1 a=!(.ext (wA hk a xs)))/\t U H1 λvs H2=>r x vs H2 Q):=by
 intro ae s U H Q I h;show wpAny_Call_method_late j z i O (dg (ho ae s U H _ I h) λv s1 N=>?_);let(x,H1,I1,r1,(a,hk,xs,ea,hH),q1):=N;subst ea;cases r1;let((_,_,ys,_,_,o,es,ep,h1,h2,_),_):=I1.hok a _ hH;show#["dict",id,F.plainAttrs_dict,q,W,#[o,h1,h2.1],λb e=>(by cases e;show#[o,h1,h2.2.1]),?_];let hA:=ha cpos ae s1 U H1 _ I1 q1;rw[hs]at hA ⊢;show Calls.callWith_builtin () (Calls.evalArgs_plain ?_);show dg hA λus s2 N3=>by let(vs,H2,I2,r2,q2):=N3;show hm ae s2 U H2 (.ref a) vs (YV a) us Q I2 O r2 q2
def W4:PE X (.Dict [] [] pos) (λ_ H Q=>∀p,H p=J->Q (.ref p) (aI H p (dX X.prog X.w p []))):=λc5 s U H Q I h=>
 wpAny_Dict_empty #[.ref (c8 s),_,I.laid (λ_ _ q=>eJ _ q) () (BH #[gz _,pc.mpr (Ne.symm (fw I.big)),[],.nil,oP,_,#[],0,ff _ O,#[O,O,O],O,O]),O,h _ (I.hok.fresh ())]
end
def BM(a c:Addr):Heap->Prop:=λh=>∃o,W.InstAt h a o c J
end L2
namespace L2
open PySem PySem.Spec PyProof.Rows PySem.W
def ij.un(i:Nat)(D:ij):ij:={ nx:=λU H=>D.nx (U.set i J) H,rt:=D.rt,bk:=λU H=>D.bk (U.set i J) H,ct:=λU H=>D.ct (U.set i J) H }
theorem Ik:∀(l:List α)(m:List β),-l=-m->(∀(i:Nat) a b,l[i]?=!a->m[i]?=!b->F a b)->Paired F l m
 |[],[],_,_=>.nil
 |a::l,b::m,h,g=>.cons (g 0 a b O O) (Ik l m ∅ λi x y h1 h2=>g (i+1) x y h1 h2)
section
variable {X:Cx}
def W5:lO X (.type "range") (λxs H Q=>∃j,xs=[.int j]/\∀r,H r=J->Q (.ref r) (aI H r (.rng 0 j))):=by intro c5 s U H xs i Q I r h;let(j,rfl,q):=h;let(u,rfl,t,rfl):=fm r;show call_range_1 #[.ref (c8 s),_,I.laid (λb o e=>eJ _ e) () (show fG X.prog X.w _ _ _ (.rng 0 j) from #[_,_,_,ff _ O]),O,q _ (I.hok.fresh ())]
def JL(hc:X.calm=G):lO X (.type "list") (λxs H Q=>∃p j,xs=[.ref p]/\H p=!(.rng 0 j)/\0<=j/\j<=100000/\∀l,H l=J->Q (.ref l) (aI H l (.lst ((range j.toNat).map λi=>.int (i:Nat))))):=by
 intro c5 s U H xs us Q I r h;let(p,j,rfl,e,h0,h1,q):=h;let(u,rfl,rx):=fm r;cases rx;let(t,u,v,hr):=(I.hok p _ e);show call_list_range (n:=j.toNat) (I.ok.hd hc) hr (small_one () () () ()) ?_ () λh' tk D c' hk N z=>?_
 . rw[rangeSize_one];split<;>lia
 . show#[.ref (c8 s),_,I.laid hk () (show fG X.prog X.w _ h' _ (.lst _) from #[?_,D.toList,c',?_,by simpa using N]),O,q _ (I.hok.fresh ())]
   . rw[da,i8,hG];lia
   . show Ik _ _ (by simp[z.1]) λi a b F W=>?_;rw[fN]at W;let(tk,rfl):=z.2 i b W;rw[eL]at F;cases hi:(range j.toNat)[i]? with
     |none=>rw[hi]at F;cases F
     |some k=>
      rw[hi]at F;cases F;let lt:=(fr.mp hi).1;rw[i8]at lt;rw[u8 lt]at hi;cases hi;show#[tk,by simp]
end
def qF(κ:KeyKind)(kd:SortKind)(prog:Program)(w:World)(A:Around)(s:Shared):Prop:=
 ∀(E:Value->Shared->Prop)(x y:Value)(a b:κ.α){Q:Bool->Shared->Prop},κ.keyOf x=!a->κ.keyOf y=!b->Q (κ.blt a b) s->wpAny (model prog w) A (keyLt' kd x y) Q E s
noncomputable def tL:Bool->Keyed->Array Keyed->Nat->Nat->Nat->StateT SortSt Sem (Option Nat):=sortPriv% PySem.Builtin.gallop
noncomputable abbrev Lh (lf:Bool) (key:Keyed) (j1:Array Keyed) (base i:Nat):StateT SortSt Sem (Option Bool):=do
 let x <-elem' j1 (base+i)
 if lf then lt' x key else return (<-lt' key x).map not
def Li(lf:Bool)(key:Keyed)(j1:Array Keyed)(base n lo hi:Nat):StateT SortSt Sem (Option Nat):=do
 let mut lo:=lo
 let mut hi:=hi
 for _ in [0:n] do
  if lo ≥ hi then break
  let m:_:=lo+(hi-lo)/2
  let some more <-Lh lf key j1 base m |return J
  if more then lo:=m+1 else hi:=m
 return !hi
section
variable {prog:Program}{w:World}{A:Around}{E:Value->Shared->Prop}{s:Shared}{κ:KeyKind}{kd:SortKind}
def wC(j:qF κ kd prog w A s){st:SortSt}(hk:kindOf st=kd)(i:κ.keyOf x.1=!a)(q:κ.keyOf y.1=!b)(h:Q (!(κ.blt a b)) st):wpS (model prog w) A E s (lt' x y) Q st:=by rw[lt'_eq];show c_ (wpS_get ?_);rw[hk];show c_ (wpS_lift (wpAny_attempt (j _ x.1 y.1 a b i q #[O,?_])));show de h
def Uy(F:qF κ kd prog w A s){st:SortSt}{i j:Nat}(hk:kindOf st=kd)
 (hi:(arrOf st)[i]?=!(x,p)) (N:(arrOf st)[j]?=!(y,q)) (z:κ.keyOf x=!a) (D:κ.keyOf y=!b) (h:Q (!(κ.blt a b)) st):
 wpS (model prog w) A E s (ltAt' i j) Q st:=by
 show wpS _ _ _ _ (do let x <-elem' (arrOf st) i;let y <-elem' (arrOf st) j;lt' x y) Q st;rw[elem'_eq,elem'_eq,hi,N];show c_ (de (c_ (de (wC F hk z D h))))
def Lj{st:SortSt}(hi:j1[i]?=!p)(h:Q p st):wpS (model prog w) A E s (elem' j1 i) Q st:=by rw[elem'_eq,hi];show de h
def iJ(κ:KeyKind)(lf:Bool)(a c:κ.α):Bool:=if lf=G then κ.blt c a else not (κ.blt a c)
def W6(h:κ.kle c d)(i:iJ κ lf a d=G):iJ κ lf a c=G:=by
 unfold iJ at *;cases lf
 . simp only[hJ,if_false,Bool.not_eq_true']at *;show gS h i
 . show KeyOrd.klt_of_kle_of_klt h i
def El(κ:KeyKind)(j1:Array Keyed)(base n:Nat)(f:Nat->κ.α):Prop:=∀i,i<n->∃p,j1[base+i]?=!p/\κ.keyOf p.1=!(f i)
def ye(z:qF κ kd prog w A s){st:SortSt}(hk:kindOf st=kd)(j:κ.keyOf key.1=!a)(he:El κ j1 base n f)(hi:i<n)(h:Q (!(iJ κ lf a (f i))) st):wpS (model prog w) A E s (Lh lf key j1 base i) Q st:=by
 let(p,e,q):=he i hi;show c_ (Lj e ?_);cases lf
 . show c_ (wC z hk j q (de h))
 . show wC z hk q j h
def wu{l h:Nat}(i:l<h):l+(h-l)/2<h:=()
def uy(hO:qF κ kd prog w A s){st:SortSt}(hk:kindOf st=kd)(ha:κ.keyOf key.1=!a)(he:El κ j1 base n f)(hs:∀i j,i<=j->j<n->κ.kle (f i) (f j))(hh:hint<n)(h:∀k,k<=n->(∀i,i<k->iJ κ lf a (f i)=G)->(∀i,k<=i->i<n->iJ κ lf a (f i)=M)->Q (!k) st):wpS (model prog w) A E s (tL lf key j1 base n hint) Q st:=by
 have dn:∀i j,i<=j->j<n->iJ κ lf a (f j)=G->iJ κ lf a (f i)=G:=λi j h1 h2=>W6 (hs i j h1 h2);have up:∀i j,i<=j->j<n->iJ κ lf a (f i)=M->iJ κ lf a (f j)=M:=λi j h1 h2 N=>by
  cases hb:iJ κ lf a (f j)
  . rfl
  . rw[dn i j h1 h2 hb]at N;cases N
 show c_ (ye hO hk ha he hh ?_);have pf:∀lo hi:Nat,lo<=hi->hi<=n->(∀i,i<lo->iJ κ lf a (f i)=G)->(∀i,hi<=i->i<n->iJ κ lf a (f i)=M)->
  wpS (model prog w) A E s (Li lf key j1 base n lo hi) Q st:=λlo hi h1 h2 N D=>by
  have fin:∀lo hi:Nat,lo=hi->hi<=n->(∀i,i<lo->iJ κ lf a (f i)=G)->(∀i,hi<=i->i<n->iJ κ lf a (f i)=M)->wpS (model prog w) A E s (match ((J,lo,hi):Option (Option Nat)×Nat×Nat).1 with |some r=>pure r |none=>pure (!hi)) Q st:=λlo hi e h2 N D=>by subst e;show de (h lo h2 N D)
  show c_ (jI (I:=λx c z=>z=st/\∃lo hi,c=(J,lo,hi)/\lo<=hi/\hi<=n/\hi+x<=lo+n/\(∀i,i<lo->iJ κ lf a (f i)=G)/\(∀i,hi<=i->i<n->iJ κ lf a (f i)=M)) ?_ ?_ #[O,lo,hi,O,h1,h2,Nat.le_trans h2 (Nat.le_add_left _ _),N,D])
  . intro x c z _ hx q0;let(rfl,lo,hi,rfl,h1,h2,hm,N,D):=q0;dsimp only;by_cases F:lo ≥ hi
    . rw[ax F];show de (fin lo hi (Nat.le_antisymm h1 F) h2 N D)
    . rw[a_ F];let i:=wu (Nat.lt_of_not_le F);let j:=Nat.le_add_right lo ((hi-lo)/2);generalize lo+(hi-lo)/2=m at *;clear F;let k:=Nat.lt_of_lt_of_le i h2;show c_ (ye hO hk ha he k ?_);cases hb:iJ κ lf a (f m)
      . simp only[hJ,if_false];show de #[O,_,_,O,j,Nat.le_of_lt k,(),N,λi W h6=>up _ i W h6 hb]
      . simp only[if_true];show de #[O,_,_,O,i,h2,(),λi W=>dn i _ (Nat.le_of_lt_succ W) k hb,D]
  . intro c z q0;let(rfl,lo,hi,rfl,h1,h2,hm,N,D):=q0;show fin lo hi (Nat.le_antisymm h1 (Nat.le_of_add_le_add_right (Nat.le_trans (Nat.add_le_add_left (Nat.le_max_right 0 n) hi) hm))) h2 N D
 cases hr:iJ κ lf a (f hint)
 . simp only[hJ,if_false];show c_ (wpS_mono (jI (Q:=λc z=>z=st/\∃last q,c=(J,last,q)/\last<q/\iJ κ lf a (f (hint-last))=M/\(hint+1<=q\/iJ κ lf a (f (hint-q))=G)) (I:=λx c z=>z=st/\∃last q,c=(J,last,q)/\last<q/\x<q/\iJ κ lf a (f (hint-last))=M) ?_ ?_ #[O,0,1,O,Nat.one_pos,Nat.one_pos,hr]) ?_)
   . intro x c z _ hx q0;let(rfl,last,q,rfl,h2,N,D):=q0;dsimp only;by_cases F:q ≥ hint+1
     . rw[ax F];show de #[O,last,q,O,h2,D,Zl F]
     . rw[a_ F];show c_ (ye hO hk ha he (Nat.lt_of_le_of_lt (Nat.sub_le _ _) hh) ?_);cases hb:iJ κ lf a (f (hint-q))
       . simp only[hJ,if_false];show de #[O,_,_,O,(),(),hb]
       . simp only[if_true];show de #[O,last,q,O,h2,D,YY hb]
   . intro c z q0;let(rfl,last,q,rfl,h2,N,D):=q0;show#[O,last,q,O,h2,D,Zl (Nat.le_trans hh (Nat.le_trans (Nat.le_max_right 0 n) (Nat.le_of_lt N)))]
   . intro c z q0;let(rfl,last,q,rfl,h2,D,W):=q0;dsimp only;let u:=Nat.sub_le hint last;have v:∀j,hint-last<=j->j<n->iJ κ lf a (f j)=M:=λi h6 h7=>up _ i h6 h7 D;by_cases hl:hint+1<=q
     . rw[Nat.min_eq_right hl,Nat.sub_self];show pf 0 _ (Nat.zero_le _) (Nat.le_of_lt (Nat.lt_of_le_of_lt u hh)) (λi hi=>absurd hi (Nat.not_lt_zero _)) v
     . let W:=W.resolve_left hl;rw[Nat.min_eq_left (Nat.le_of_not_le hl)];have z:hint+1-q=hint-q+1:=Nat.succ_sub (Nat.le_of_lt_succ (Nat.lt_of_not_le hl));rw[z];show pf _ _ ?_ (Nat.le_of_lt (Nat.lt_of_le_of_lt u hh)) (λi hi=>dn i (hint-q) (Nat.le_of_lt_succ hi) (Nat.lt_of_le_of_lt (Nat.sub_le _ _) hh) W) v
       show Nat.lt_of_not_le λg=>by rw[v _ g (Nat.lt_of_le_of_lt (Nat.sub_le _ _) hh)]at W;cases W
 . simp only[if_true];show c_ (wpS_mono (jI (Q:=λc z=>z=st/\∃last q,c=(J,last,q)/\hint+last<n/\last<q/\iJ κ lf a (f (hint+last))=G/\(n-hint<=q\/(q<n-hint/\iJ κ lf a (f (hint+q))=M))) (I:=λx c z=>z=st/\∃last q,c=(J,last,q)/\hint+last<n/\last<q/\x<q/\iJ κ lf a (f (hint+last))=G) ?_ ?_ #[O,0,1,O,hh,Nat.one_pos,Nat.one_pos,hr]) ?_)
   . intro x c z _ hx q0;let(rfl,last,q,rfl,h1,h2,N,D):=q0;dsimp only;by_cases F:q ≥ n-hint
     . rw[ax F];show de #[O,last,q,O,h1,h2,D,Zl F]
     . rw[a_ F];let F:=Nat.lt_of_not_le F;let k:=Nat.add_lt_of_lt_sub' F;show c_ (ye hO hk ha he k ?_);cases hb:iJ κ lf a (f (hint+q))
       . simp only[Bool.not_false,if_true];show de #[O,last,q,O,h1,h2,D,YY #[F,hb]]
       . simp only[Bool.not_true,hJ,if_false];show de #[O,_,_,O,k,(),(),hb]
   . intro c z q0;let(rfl,last,q,rfl,h1,h2,N,D):=q0;show#[O,last,q,O,h1,h2,D,Zl (Nat.le_trans (Nat.sub_le _ _) (Nat.le_trans (Nat.le_max_right 0 n) (Nat.le_of_lt N)))]
   . intro c z q0;let(rfl,last,q,rfl,h1,h2,D,W):=q0;dsimp only;have v:∀i,i<hint+last+1->iJ κ lf a (f i)=G:=λi hi=>dn i _ (Nat.le_of_lt_succ hi) h1 D;obtain W|⟨W,h8⟩:=W
     . rw[Nat.min_eq_right W,Nat.add_sub_cancel' (Nat.le_of_lt hh)];show pf _ n h1 (Nat.le_refl _) v λi h6 h7=>absurd h7 (Nat.not_lt_of_le h6)
     . rw[Nat.min_eq_left (Nat.le_of_lt W)];show pf _ _ (Nat.add_lt_add_left h2 _) (Nat.le_of_lt (Nat.add_lt_of_lt_sub' W)) v λi h6 h7=>up _ i h6 h7 h8
end
def DK(κ:KeyKind)(a:Array Keyed):Prop:=(a.toList.map λp=>κ.keyOf p.1).Nodup
structure Qk(kd:SortKind)(a₀:Array Keyed)(st:SortSt):Prop where
 perm:(arrOf st).Perm a₀
 kind:kindOf st=kd
 failed:failedOf st=none
 pend:pendingOf st=#[]
theorem Qk.atK{st:SortSt}(h:Qk kd a₀ st)(j:KeysOf κ a₀)(hi:i< ~~~a₀):∃x p a,(arrOf st)[i]?=!(x,p)/\κ.keyOf x=!a/\KK κ (arrOf st) i=a:=
 SBase.atK (st:=SortSt.mk' oneType' (arrOf st) (pendingOf st) 7 J) #[h.perm,O,O,h.pend] j hi
def Qk.size{st:SortSt}(h:Qk kd a₀ st): ~~~(arrOf st)= ~~~a₀:=h.perm.size_eq
structure SB(kd:SortKind)(a₀:Array Keyed)(p:Array (Nat×Nat×Nat))(lo:Nat)(xs:Array Keyed)(st:SortSt):Prop where
 perm:(arrOf st).Perm a₀
 kind:kindOf st=kd
 failed:failedOf st=none
 pend:pendingOf st=p
 low:∀i,i<lo->(arrOf st)[i]?=xs[i]?
def Sg(κ:KeyKind)(xs:Array Keyed)(lo n:Nat):Prop:=∀i j,i<=j->j<n->κ.kle (KK κ xs (lo+i)) (KK κ xs (lo+j))
section
variable {prog:Program}{w:World}{A:Around}{E:Value->Shared->Prop}{s:Shared}{κ:KeyKind}{kd:SortKind}{a₀ xs:Array Keyed}{p:Array (Nat×Nat×Nat)}{lo:Nat}{st:SortSt}
def SB.base(h:SB kd a₀ p lo xs st):Qk kd a₀ (setPending st #[]):=#[h.perm,h.kind,h.failed,O]
def SB.size(h:SB kd a₀ p lo xs st): ~~~(arrOf st)= ~~~a₀:=h.perm.size_eq
def SB.setA(h:SB kd a₀ p lo xs st)(j:ys.Perm (arrOf st))(q:∀i,i<lo->ys[i]?=(arrOf st)[i]?):SB kd a₀ p lo xs (setArr st ys):=#[j.trans h.perm,h.kind,h.failed,h.pend,λi hi=>(q i hi).trans (h.low i hi)]
def SB.ne(h:SB kd a₀ p lo xs st)(N:KeysOf κ a₀)(hd:DK κ a₀)(z:i<j)(F:j< ~~~a₀):KK κ (arrOf st) i≠KK κ (arrOf st) j:=by
 let D:=((Array.perm_iff_toList_perm.mp h.perm).map _).nodup_iff.mpr hd;let(x,q,a,e1,h1,h2):=h.base.atK N (Nat.lt_trans z F);let(y,r,b,e3,W,h4):=h.base.atK N F;rw[h2,h4];rintro rfl;have Q:((arrOf st).toList.map λp=>κ.keyOf p.1)[i]?=!(!a):=by rw[eL,fN,e1];simp[h1]
 have g2:((arrOf st).toList.map λp=>κ.keyOf p.1)[j]?=!(!a):=by rw[eL,fN,e3];simp[W]
 have:=(getElem?_inj (fr.mp Q).1 D).mp (Q.trans g2.symm);lia
def uz(hO:qF κ kd prog w A s)(D:KeysOf κ a₀)(z:SB kd a₀ p lo xs st)(hi:i< ~~~a₀)(hj:j< ~~~a₀)
 (h:Q (!(κ.blt (KK κ (arrOf st) i) (KK κ (arrOf st) j))) st):wpS (model prog w) A E s (ltAt' i j) Q st:=by
 let(x,q,a,e1,F,ka):=z.base.atK D hi;let(y,r,b,N,W,kb):=z.base.atK D hj;rw[ka,kb]at h;show Uy hO z.kind e1 N F W h
def Sg.snoc(h:Sg κ xs lo n)(h1:1<=n)(N:κ.kle (KK κ xs (lo+n-1)) (KK κ xs (lo+n))):Sg κ xs lo (n+1):=λi j q Q=>by
 by_cases D:j<n
 . show h i j q D
 . have F:j=n:=()
   subst F;by_cases z:i=j
   . subst z;show KeyOrd.kle_refl _
   . have:=h i (j-1) () ();rw[show lo+(j-1)=lo+j-1 by omega]at this;show gS this N
def BN{lo n i:Nat}(h:i<n):lo+(lo+n)-1-(lo+i)=lo+(n-1-i):=()
def R8(hO:qF κ kd prog w A s)(h0:KeysOf κ a₀)(hd:DK κ a₀)(hn:lo+nrem<= ~~~a₀)(h1:1<=nrem)(D:SB kd a₀ p lo xs st)
 (h:∀m z,SB kd a₀ p lo xs z->1<=m->m<=nrem->Sg κ (arrOf z) lo m->Q (!m) z):wpS (model prog w) A E s (countRun' lo nrem) Q st:=by
 show c_ (wpS_mono (jI (I:=λx c z=>z=st/\c=(J,x)/\Sg κ (arrOf st) lo x)
  (Q:=λc z=>z=st/\∃n,c=(J,n)/\1<=n/\ n<=nrem/\Sg κ (arrOf st) lo n/\(n=nrem\/κ.klt (KK κ (arrOf st) (lo+n)) (KK κ (arrOf st) (lo+n-1)))) ?_ ?_
  #[O,O,λi j N hj=>by have:i=j:=();subst this;show KeyOrd.kle_refl _]) ?_)
 . intro x c z W BQ q0;let(rfl,rfl,hs):=q0;show c_ (uz hO h0 D () () ?_);cases F:κ.blt (KK κ (arrOf z) (lo+x)) (KK κ (arrOf z) (lo+x-1))
   . show de #[O,O,hs.snoc W F]
   . show de #[O,x,O,W,(),hs,YY F]
 . grind
 intro c z q0;let(rfl,n,rfl,ol,sC,hs,N4):=q0;dsimp only;by_cases BS:n=nrem
 . rw[ax (by simpa using BS)];show de (h n _ D ol sC hs)
 rw[a_ ∅];let jf:=N4.resolve_left BS;by_cases BU:n>1
 . rw[ax BU];show c_ (uz hO h0 D () () ?_);have:κ.blt (KK κ (arrOf z) lo) (KK κ (arrOf z) (lo+n-1))=G:=by
    cases F:κ.blt (KK κ (arrOf z) lo) (KK κ (arrOf z) (lo+n-1))
    . have:=hs 0 (n-1) (Nat.zero_le _) (Nat.sub_lt ol Nat.one_pos);rw[←Nat.add_sub_assoc ol]at this;show absurd (KeyOrd.kle_antisymm this F) (D.ne h0 hd () ())
    . rfl
   rw[this];simp only[if_true];show de (h n _ D ol sC hs)
 rw[a_ BU];obtain rfl:n=1:=()
 show c_ (wpS_lift (wpAny_rule #[O,?_]));show c_ (wpS_mono (jI (I:=λx c q=>q=z/\c=(J,x,0)/\∀i j,i<=j->j<x->κ.kle (KK κ (arrOf z) (lo+j)) (KK κ (arrOf z) (lo+i)))
  (Q:=λc q=>q=z/\∃n,c=(J,n,0)/\1<=n/\ n<=nrem/\∀i j,i<=j->j<n->κ.kle (KK κ (arrOf z) (lo+j)) (KK κ (arrOf z) (lo+i))) ?_ ?_ #[O,O,?_]) ?_)
 . intro x c q W BQ q0;let(rfl,rfl,hs):=q0;dsimp only;show c_ (uz hO h0 D () () ?_);cases F:κ.blt (KK κ (arrOf q) (lo+x)) (KK κ (arrOf q) (lo+x-1))
   . simp only[hJ,if_false];show c_ (uz hO h0 D () () ?_);have:κ.blt (KK κ (arrOf q) (lo+x-1)) (KK κ (arrOf q) (lo+x))=G:=by
      cases hc:κ.blt (KK κ (arrOf q) (lo+x-1)) (KK κ (arrOf q) (lo+x))
      . show absurd (KeyOrd.kle_antisymm F hc) (D.ne h0 hd () ())
      . rfl
     rw[this];simp only[if_true];show de #[O,x,O,(),(),hs]
   . simp only[if_true];rw[a_ ()];show de #[O,O,λi j N hj=>?_];by_cases N9:j<x
     . show hs i j N N9
     . have N_:j=x:=()
       subst N_;by_cases pT:i=j
       . subst pT;show KeyOrd.kle_refl _
       . have BY:1<=j:=Nat.le_of_succ_le W;have:=hs i (j-1) () (Nat.sub_lt BY Nat.one_pos);rw[←Nat.add_sub_assoc BY]at this;show gS (hW F) this
 . intro c q q0;let(rfl,rfl,hs):=q0;rw[show max (1+1) nrem=nrem by omega]at hs ⊢;show#[O,nrem,O,h1,dP _,hs]
 . intro i j N hj;by_cases pT:i=j
   . subst pT;show KeyOrd.kle_refl _
   . obtain rfl:i=0:=()
     obtain rfl:j=1:=()
     show hW jf
 intro c q q0;let(rfl,n,rfl,ol,sC,hs):=q0;dsimp only;rw[a_ ()];have gX:lo+n<= ~~~(arrOf q):=by rw[D.size];lia
 show c_ (wpS_reverse ?_);have B0:SB kd a₀ p lo xs (setArr q (mirror (arrOf q) lo (lo+n) ((lo+n-lo)/2))):=D.setA (mirror_perm _ _ _ _) λi hi=>by rw[getElem?_mirror_all gX,a_ ()]
 have kB:Sg κ (arrOf (setArr q (mirror (arrOf q) lo (lo+n) ((lo+n-lo)/2)))) lo n:=λi j N hj=>by show κ.kle (KK κ (mirror (arrOf q) lo (lo+n) ((lo+n-lo)/2)) _) (KK κ (mirror (arrOf q) lo (lo+n) ((lo+n-lo)/2)) _);rw[KK_mirror gX,KK_mirror gX,ax (),ax ()];have:=hs (n-1-j) (n-1-i) (Nat.sub_le_sub_left N _) (Nat.lt_of_le_of_lt (Nat.sub_le _ _) (Nat.sub_lt ol Nat.one_pos));rw[BN (Nat.lt_of_le_of_lt N hj),BN hj];show this
 generalize setArr q (mirror (arrOf q) lo (lo+n) ((lo+n-lo)/2))=m5 at *;show c_ (wpS_mono (jI (I:=λx c z=>z=m5/\c=(J,x)/\Sg κ (arrOf m5) lo x)
  (Q:=λc z=>z=m5/\∃n,c=(J,n)/\1<=n/\ n<=nrem/\Sg κ (arrOf m5) lo n) ?_ ?_
  #[O,O,kB]) ?_)
 . intro x c z W BQ q0;let(rfl,rfl,hs):=q0;dsimp only;show c_ (uz hO h0 B0 () () ?_);cases F:κ.blt (KK κ (arrOf z) (lo+x)) (KK κ (arrOf z) (lo+x-1))
   . simp only[hJ,if_false];show de #[O,O,hs.snoc () F]
   . simp only[if_true];show de #[O,x,O,(),(),hs]
 . intro c z q0;let(rfl,rfl,hs):=q0;rw[show max n nrem=nrem by omega]at hs ⊢;show#[O,nrem,O,h1,dP _,hs]
 intro c z q0;let(rfl,m,rfl,wv,B1,hs):=q0;show de (h m _ B0 wv B1 hs)
def Of{l r:Nat}(i:l<r):l<=(l+r)/2/\(l+r)/2<r:=()
def W7(hO:qF κ kd prog w A s)(h0:KeysOf κ a₀)(hn:lo+n<= ~~~a₀)(hok:ok<=n)(hB:SB kd a₀ p lo xs st)(hs:Sg κ (arrOf st) lo ok)
 (h:∀q,SB kd a₀ p lo xs q->Sg κ (arrOf q) lo n->Q G q):wpS (model prog w) A E s (binarySort' lo n ok) Q st:=by
 show c_ (wpS_mono (jI (I:=λk c q=>c=(J,Unit.unit)/\SB kd a₀ p lo xs q/\Sg κ (arrOf q) lo (min k n))
  (Q:=λc q=>c=(J,Unit.unit)/\SB kd a₀ p lo xs q/\Sg κ (arrOf q) lo n) ?step ?fin ?init) ?post)
 case post=>
  intro c q q0;let(rfl,F,D):=q0;show de (h q F D)
 case init=>
  show#[O,hB,λi j jp hj=>?_];by_cases h1:ok=0
  . have:i=j:=()
    subst this;show KeyOrd.kle_refl _
  . show hs i j jp ()
 case fin=>
  intro c q q0;let(hc,F,D):=q0;show#[hc,F,?_]
  grind
 case step=>
  intro k c q hak iO q0;let(rfl,F,D):=q0;rw[Nat.min_eq_left (Nat.le_of_lt iO)]at D;show c_ (wpS_mono (jI (I:=λx c z=>z=q/\∃l r,c=(J,l,r)/\l<=r/\r<=k/\r+x<=l+k/\
   (∀i,i<l->κ.kle (KK κ (arrOf q) (lo+i)) (KK κ (arrOf q) (lo+k)))/\(∀i,r<=i->i<k->κ.klt (KK κ (arrOf q) (lo+k)) (KK κ (arrOf q) (lo+i))))
   (Q:=λc z=>z=q/\∃l r,c=(J,l,r)/\l<=k/\
     (∀i,i<l->κ.kle (KK κ (arrOf q) (lo+i)) (KK κ (arrOf q) (lo+k)))/\(∀i,l<=i->i<k->κ.klt (KK κ (arrOf q) (lo+k)) (KK κ (arrOf q) (lo+i)))) ?istep ?ifin ?iinit) ?ipost)
  case iinit=>show⟨O,0,k,O,Nat.zero_le _,Nat.le_refl _,Nat.le_add_left _ _,λi hi=>absurd hi (Nat.not_lt_zero _),λi h1 h2=>absurd h2 (Nat.not_lt_of_le h1)⟩
  case ifin=>
   intro c z q0;let(rfl,l,r,rfl,wx,pV,hm,N,W):=q0;obtain rfl:l=r:=Nat.le_antisymm wx (Nat.le_of_add_le_add_right (Nat.le_trans (Nat.add_le_add_left (Nat.le_max_right 0 k) r) hm))
   show#[O,l,l,O,pV,N,W]
  case istep=>
   intro x c z _ hxk q0;let(rfl,l,r,rfl,wx,pV,hm,N,W):=q0;dsimp only;by_cases l_:l ≥ r
   . rw[ax l_];obtain rfl:l=r:=Nat.le_antisymm wx l_
     show de #[O,l,l,O,pV,N,W]
   . rw[a_ l_];let(i1,i2):=Of (Nat.lt_of_not_le l_);let i3:=Nat.lt_of_lt_of_le i2 pV;let i4:=Nat.lt_of_lt_of_le (Nat.add_lt_add_left iO lo) hn;show c_ (uz hO h0 F i4 (Nat.lt_trans (Nat.add_lt_add_left i3 _) i4) ?_);generalize (l+r)/2=m at *;clear l_;cases hless:κ.blt (KK κ (arrOf z) (lo+k)) (KK κ (arrOf z) (lo+m))
     . simp only[hJ,if_false];show de #[O,m+1,r,O,i2,pV,(),λi h1=>gS (D i m (Nat.le_of_lt_succ h1) i3) hless,W]
     . simp only[if_true];show de #[O,l,m,O,i1,Nat.le_of_lt i3,(),N,λi h1 h2=>KeyOrd.klt_of_klt_of_kle hless (D _ _ h1 h2)]
  case ipost=>
   intro c z q0;let(rfl,l,r,rfl,og,N,W):=q0;show wpS _ _ _ _ (do moveDown' (lo+k) (lo+l);pure (ForInStep.yield (J,Unit.unit))) _ _;rw[moveDown'_eq];have sK:lo+k< ~~~(arrOf z):=F.size.symm▸Nat.lt_of_lt_of_le (Nat.add_lt_add_left iO lo) hn
   show c_ (wpS_modify (de #[O,F.setA (bubble_perm _ _ _) λi hi=>?_,?_]))
   . let u:=Nat.lt_of_lt_of_le hi (Nat.le_add_right lo l);rw[getElem?_bubble sK _ (),Nat.sub_sub_self (Nat.add_le_add_left og _),a_ (Nat.ne_of_lt u),a_ λh=>Nat.lt_asymm u h.1]
   rw[Nat.min_eq_left iO];intro i j jp hj;show κ.kle (KK κ (bubble (arrOf z) (lo+k) (lo+k-(lo+l))) (lo+i)) (KK κ (bubble (arrOf z) (lo+k) (lo+k-(lo+l))) (lo+j));rw[KK_bubble sK (),KK_bubble sK (),Nat.sub_sub_self (Nat.add_le_add_left og _)];have sb:∀i,1<=i->lo+i-1=lo+(i-1):=λi h=>Nat.add_sub_assoc h _
   simp only[Nat.add_left_cancel_iff,Nat.add_lt_add_iff_left,Nat.add_le_add_iff_left]
   repeat' split
   all_goals first
    |(exfalso;lia)
    |show KeyOrd.kle_refl _
    |show N _ ()
    |(rw[sb _ (),sb _ ()];show D _ _ () ())
    |(rw[sb _ ()];show hW (W _ () ()))
    |(rw[sb _ ()];show D _ _ () ())
    |show D _ _ () ()
end
def B2:Array Keyed->Array Keyed->StateT SortSt Sem (Array Keyed):=sortPriv% PySem.Builtin.mergeLo
def B3:Array Keyed->Array Keyed->StateT SortSt Sem (Array Keyed):=sortPriv% PySem.Builtin.mergeHi
def f9[Decidable c]{st:U}(h:c)(k:wpS ZO A E s f Q st):wpS ZO A E s (if c then f else g) Q st:=by grind
def fJ[Decidable c]{st:U}(h:¬ c)(k:wpS ZO A E s g Q st):wpS ZO A E s (if c then f else g) Q st:=by grind
def oZ(I:Nat->β->U->Prop)(P:β->U->Prop){Q:γ->U->Prop}
 (z:∀B,B=f->∀i c st,a<=i->i<b->I i c st->wpS ZO A E s (B i c) (λr q=>match r with |.done D=>P D q |.yield D=>I (i+1) D q) st)
 (j:∀c st,I (max a b) c st->P c st) {st:U} (h:I a c st) (F:∀K,K=k->∀c st,P c st->wpS ZO A E s (K c) Q st):wpS ZO A E s (forIn [a:b] c f >>= k) Q st:=
 c_ (wpS_mono (jI I ∅ j h) ∅)
def o1(h:0<n)(g:n<=m):n-1<m:=()
def o2(h:1<n)(g:n<=m):n-1<m:=()
def o3(g:n<=m):n-1<=m:=()
def o4(h:1<n)(e:¬ n-1=1):1<n-1:=()
def o5(e:¬ n-1=0):0<n-1:=()
abbrev cJ(st:SortSt)(g:Nat):SortSt:=SortSt.mk' (kindOf st) (arrOf st) (pendingOf st) g (failedOf st)
abbrev L7:=Option (Array Keyed)×Array Keyed×Nat×Nat×Nat×Nat×Nat
noncomputable def wE (a b:Array Keyed) (m ac bc ia:Nat) (out:Array Keyed) (ib:Nat):StateT SortSt Sem (ForInStep L7):=
 elem' a ia >>= λx=>
 if ia+1+1== ~~~a then pure (.done (!(out.push x++b.extract ib b.size++a.extract (ia+1) a.size),out.push x,ia+1,ib,m,ac,bc))
 else if decide (ac<7)&&decide (bc<7) then pure (.done (J,out.push x,ia+1,ib,m,ac,bc)) else pure (.yield (J,out.push x,ia+1,ib,m,ac,bc))
def wG(a b:Array Keyed)(m ac bc ib:Nat)(out:Array Keyed)(ia:Nat):StateT SortSt Sem (ForInStep L7):=
 elem' b ib >>= λx=>
 if ib+1== ~~~b then pure (.done (!(out.push x++a.extract ia a.size++b.extract (ib+1) b.size),out.push x,ia,ib+1,m,ac,bc))
 else
  elem' a ia >>= λy=>
  tL G y b (ib+1) (~~~b-(ib+1)) 0 >>= λk=>
  match k with
  | some k=>if k>0 then (
   if ib+1+k== ~~~b then pure (.done (!(out.push x++b.extract (ib+1) (ib+1+k)++a.extract ia a.size++b.extract (ib+1+k) b.size),out.push x++b.extract (ib+1) (ib+1+k),ia,ib+1+k,m,ac,k))
   else wE a b m ac k ia (out.push x++b.extract (ib+1) (ib+1+k)) (ib+1+k))
   else wE a b m ac k ia (out.push x) (ib+1)
  |_=>pure (.done (!(out.push x++a.extract ia a.size++b.extract (ib+1) b.size),out.push x,ia,ib+1,m,ac,bc))
def sL(a b out:Array Keyed)(ia ib ac bc m:Nat):StateT SortSt Sem (ForInStep L7):=
 (modify λst=>cJ st m) >>= λ_=>
 elem' b ib >>= λx=>
 tL M x a ia (~~~a-ia) 0 >>= λk=>
 match k with
 | some k=>if k>0 then (
  if ia+k+1== ~~~a then pure (.done (!(out++a.extract ia (ia+k)++b.extract ib b.size++a.extract (ia+k) a.size),out++a.extract ia (ia+k),ia+k,ib,m,k,bc))
  else if ia+k== ~~~a then pure (.done (!(out++a.extract ia (ia+k)++a.extract (ia+k) a.size++b.extract ib b.size),out++a.extract ia (ia+k),ia+k,ib,m,k,bc))
  else wG a b m k bc ib (out++a.extract ia (ia+k)) (ia+k))
  else wG a b m k bc ib out ia
 |_=>pure (.done (!(out++a.extract ia a.size++b.extract ib b.size),out,ia,ib,m,ac,bc))
section
variable {κ:KeyKind}{kd:SortKind}
def KA(κ:KeyKind)(x:Keyed):κ.α:=(κ.keyOf x.1).getD κ.dflt
def mW(h:a[i]?=!x):KK κ a i=KA κ x:=by unfold KK KA;rw[h]
def SL(κ:KeyKind)(l:List Keyed):Prop:=l.Pairwise λx y=>κ.kle (KA κ x) (KA κ y)
structure MR(κ:KeyKind)(T l1 l2 o:List Keyed):Prop where
 perm:(o++(l1++l2)).Perm T
 s1:SL κ (o++l1)
 s2:SL κ (o++l2)
variable {T l1 l2 o:List Keyed}
def MR.swap(h:MR κ T l1 l2 o):MR κ T l2 l1 o:=#[((Perm.append_left o kM)).trans h.perm,h.s2,h.s1]
def MR.take(h:MR κ T (x++y) l2 o)(z:∀u∈x,∀v∈l2,κ.kle (KA κ u) (KA κ v)):MR κ T y l2 (o++x):=by
 let(h1,h2,q):=h;show#[by simpa using h1,by simpa [SL] using h2,?_];unfold SL at *;rw[<-eK]at h2;rw[pairwise_append]at *;show#[h2.1,q.2.1,λu i v j=>?_];obtain i|i:=d6.mp i
 . show q.2.2 u i v j
 . show z u i v j
def MR.fin(h:MR κ T l1 [] o):(o++l1).Perm T/\SL κ (o++l1):=#[by simpa using h.perm,h.s1]
def Bl(h:u∈(a.extract i k).toList):∃j,i<=j/\j<k/\j< ~~~a/\KK κ a j=KA κ u:=by
 rw[Array.toList_extract,extract_eq_take_drop]at h;let(j,q):=mem_iff_getElem?.mp h;rw[getElem?_take]at q;split at q
 . rw[getElem?_drop,fN]at q;have:=(Array.getElem?_eq_some_iff.mp q).1;show#[i+j,(),(),this,mW q]
 . cases q
def Ol(h:u∈a.toList.drop i):∃j,i<=j/\j< ~~~a/\KK κ a j=KA κ u:=by let(j,q):=mem_iff_getElem?.mp h;rw[getElem?_drop,fN]at q;show#[i+j,(),(Array.getElem?_eq_some_iff.mp q).1,mW q]
def Aa{a:Array Keyed}(h:i<=k):a.toList.drop i=(a.extract i k).toList++a.toList.drop k:=by
 rw[Array.toList_extract,extract_eq_take_drop]
 conv=>lhs;rw[<-take_append_drop (k-i) (a.toList.drop i)]
 grind
def B4{a:Array Keyed}(h:i< ~~~a):(a.extract i (i+1)).toList=[a[i]]:=by rw[Array.toList_extract,extract_eq_take_drop,nE (),show i+1-i=1 by omega];simp
abbrev RL(κ:KeyKind)(T:List Keyed)(a b out:Array Keyed)(ia ib:Nat):Prop:=MR κ T (a.toList.drop ia) (b.toList.drop ib) out.toList
variable {a b out:Array Keyed}{ia ib:Nat}
def RL.takeA(h:RL κ T a b out ia ib)(hk:ia<=k)(Q:∀i,ia<=i->i<k->i< ~~~a->∀j,ib<=j->j< ~~~b->κ.kle (KK κ a i) (KK κ b j)):RL κ T a b (out++a.extract ia k) k ib:=by unfold RL at *;rw[Aa hk]at h;rw[Array.toList_append];show h.take λu N v z=>?_;let(i,h1,h2,D,e):=Bl (κ:=κ) N;let(j,q,W,F):=Ol (κ:=κ) z;rw[<-e,<-F];show Q i h1 h2 D j q W
def RL.pushA(h:RL κ T a b out ia ib)(hk:ia< ~~~a)(z:∀j,ib<=j->j< ~~~b->κ.kle (KK κ a ia) (KK κ b j)):RL κ T a b (out.push a[ia]) (ia+1) ib:=by
 have:=h.takeA (k:=ia+1) () λi h1 h2 F j D q=>(show i=ia by lia)▸z j D q;unfold RL at *;rw[Array.toList_append,B4 hk]at this
 grind
theorem RL.swap(h:RL κ T a b out ia ib):RL κ T b a out ib ia:=MR.swap h
def Rs(κ:KeyKind)(T:List Keyed)(r:Array Keyed):Prop:=r.toList.Perm T/\SL κ r.toList
def RL.done(h:RL κ T a b out ia ib)(D:ib= ~~~b)(q:ia<= ~~~a):Rs κ T (out++a.extract ia a.size++b.extract ib b.size):=by
 subst D;have:=h.takeA q λi h1 h2 N j W Q=>()
 unfold RL at this;have e:b.toList.drop b.size=[]:=by simp
 rw[e]at this;have:=this.swap.swap.fin;have z:a.toList.drop a.size=[]:=by simp
 rw[z]at this;have F:(out++a.extract ia a.size++b.extract b.size b.size).toList=(out++a.extract ia a.size).toList++[]:=by simp
 unfold Rs;rw[F];show this
def RL.last(h:RL κ T a b out ia ib)(Q:ib<= ~~~b)(F:ia<= ~~~a)(W:∀i,ia<=i->i< ~~~a->∀j,ib<=j->j< ~~~b->κ.kle (KK κ b j) (KK κ a i)):Rs κ T (out++b.extract ib b.size++a.extract ia a.size):=by
 let h1:=(h.swap.takeA Q λi h1 h2 q j D z=>W j D z i h1 q);have:=RL.takeA (RL.swap h1) F λi h1 h2 q j D z=>()
 unfold RL at this;have e:b.toList.drop b.size=[]:=by simp
 have N:a.toList.drop a.size=[]:=by simp
 rw[e,N]at this;have:=this.fin;rw[fg]at this;show this
variable {prog:Program}{w:World}{A:Around}{E:Value->Shared->Prop}{s:Shared}{st:SortSt}
def gD(hi:i< ~~~a)(h:Q a[i] st):wpS (model prog w) A E s (elem' a i) Q st:=Lj (j2 a i hi) h
def kZ(j:KeysOf κ a)(hi:i< ~~~a):κ.keyOf (a[i]).1=!(KK κ a i):=by let(x,q):=j a[i] (by simp);rw[mW (j2 a i hi)];unfold KA;grind
def J8(q:KeysOf κ a)(i n:Nat)(h:i+n<= ~~~a):El κ a i n λj=>KK κ a (i+j):=λj z=>#[a[i+j],j2 a _ (),kZ q ()]
section
def RL.lst(z:∀i j,i<=j->j< ~~~b->κ.kle (KK κ b i) (KK κ b j))(h2:κ.klt (KK κ b (~~~b-1)) (KK κ a (~~~a-1)))(r:RL κ T a b out ia ib)(W:ia+1= ~~~a)(q:ib<= ~~~b):Rs κ T (out++b.extract ib b.size++a.extract ia a.size):=r.last q () λi D Q j N F=>by
 obtain rfl:i= ~~~a-1:=()
 show gS (z j (~~~b-1) () ()) (hW h2)
def RL.psA(z:∀i j,i<=j->j< ~~~b->κ.kle (KK κ b i) (KK κ b j))(r:RL κ T a b out ia ib)(hi:ia< ~~~a)(l:ib< ~~~b->κ.kle (KK κ a ia) (KK κ b ib)):RL κ T a b (out.push a[ia]) (ia+1) ib:=r.pushA hi λj q D=>gS (l ()) (z _ _ q D)
def RL.psB(q:∀i j,i<=j->j< ~~~a->κ.kle (KK κ a i) (KK κ a j))(r:RL κ T a b out ia ib)(hi:ib< ~~~b)(l:ia< ~~~a->κ.kle (KK κ b ib) (KK κ a ia)):RL κ T a b (out.push b[ib]) ia (ib+1):=(r.swap.pushA hi λj z D=>gS (l ()) (q _ _ z D)).swap
section
variable {U V W Y:Type}{G_:U->V->W->Nat->Prop}{T:List Keyed}{c:Option (Array Keyed)×U×V×W×Y}{q:SortSt}{x y:Nat}
abbrev kX(G_:U->V->W->Nat->Prop)(st:SortSt)(x:Nat)(c:Option (Array Keyed)×U×V×W×Y)(q:SortSt):Prop:=(∃g,q=cJ st g)/\∃i j k e,c=(J,i,j,k,e)/\G_ i j k x
abbrev k5(κ:KeyKind)(T:List Keyed)(G_:U->V->W->Nat->Prop)(st:SortSt)(x:Nat)(c:Option (Array Keyed)×U×V×W×Y)(q:SortSt):Prop:=(∃g,q=cJ st g)/\((∃r d,c=(!r,d)/\Rs κ T r)\/∃i j k e,c=(J,i,j,k,e)/\G_ i j k x)
abbrev gy(κ:KeyKind)(a:Array Keyed):Prop:=∀i j,i<=j->j< ~~~a->κ.kle (KK κ a i) (KK κ a j)
def f8{P:Option (Array Keyed)×U×V×W×Y->SortSt->Prop}(h:kX G_ st x c q)(k:∀g i j k e,G_ i j k x->P (J,i,j,k,e) (cJ st g)):P c q:=by let((g,rfl),_,_,_,_,rfl,h):=h;show k _ _ _ _ _ h
def ke{P:Option (Array Keyed)×U×V×W×Y->SortSt->Prop}(h:k5 κ T G_ st x c q)(i:∀g r d,Rs κ T r->P (!r,d) (cJ st g))(k:∀g i j k e,G_ i j k x->P (J,i,j,k,e) (cJ st g)):P c q:=by obtain⟨g,⟨r,d,rfl,h⟩|h⟩:=h;(let(g,rfl):=g;show i _ _ _ h);show f8 #[g,h] k
def p_(h:k5 κ T G_ st x c q)(l:∀{i j k},G_ i j k x->G_ i j k y):k5 κ T G_ st y c q:=ke h (λg r d h=>#[#[g,O],Zl #[r,d,O,h]]) λg i j k e h=>#[#[g,O],YY #[i,j,k,e,O,l h]]
end
structure gk(κ:KeyKind)(a b out:Array Keyed)(ia ib x:Nat):Prop where
 r:RL κ (a.toList++b.toList) a b out ia ib
 e:ia+1< ~~~a
 f:ib< ~~~b
 x:x<=ia+ib
section
variable {x:Nat}
def gk.i(h:gk κ a b out ia ib x):ia< ~~~a:=Nat.lt_of_succ_lt h.e
def gk.no(h:gk κ a b out ia ib x)(g: ~~~a+ ~~~b<=x):False:=Nat.not_le_of_lt (Nat.add_lt_add h.i h.f) (Nat.le_trans g h.x)
def gk.rA(h:gk κ a b out ia ib x)(z:gy κ b)(l:κ.kle (KK κ a ia) (KK κ b ib)):RL κ (a.toList++b.toList) a b (out.push (a[ia]'h.i)) (ia+1) ib:=h.r.psA z h.i λ_=>l
def gk.rB(h:gk κ a b out ia ib x)(z:gy κ a)(l:κ.kle (KK κ b ib) (KK κ a ia)):RL κ (a.toList++b.toList) a b (out.push (b[ib]'h.f)) ia (ib+1):=h.r.psB z h.f λ_=>l
def gk.sA(h:gk κ a b out ia ib x)(z:gy κ b)(l:κ.kle (KK κ a ia) (KK κ b ib))(e:¬ia+1+1= ~~~a):gk κ a b (out.push (a[ia]'h.i)) (ia+1) ib (x+1):=#[h.rA z l,Nat.lt_of_le_of_ne h.e e,h.f,Nat.add_right_comm ia 1 ib▸Nat.succ_le_succ h.x]
def gk.sB(h:gk κ a b out ia ib x)(z:gy κ a)(l:κ.kle (KK κ b ib) (KK κ a ia))(e:¬ib+1= ~~~b):gk κ a b (out.push (b[ib]'h.f)) ia (ib+1) (x+1):=#[h.rB z l,h.e,Nat.lt_of_le_of_ne h.f e,Nat.succ_le_succ h.x]
end
def LQ(κ:KeyKind)(a b:Array Keyed)(st:SortSt)(x:Nat):ForInStep L7->SortSt->Prop
 |.done c,q=>k5 κ (a.toList++b.toList) (gk κ a b) st x c q
 |.yield c,q=>kX (gk κ a b) st x c q
def Ql(D:gy κ b)(h2:κ.klt (KK κ b (~~~b-1)) (KK κ a (~~~a-1)))(q:∃g,f6=cJ st g)(h:gk κ a b out ia ib x)(l:κ.kle (KK κ a ia) (KK κ b ib)):wpS (model prog w) A E s (wE a b m ac bc ia out ib) (LQ κ a b st (x+1)) f6:=by
 show c_ (gD h.i ?_);by_cases e:ia+1+1= ~~~a
 . show f9 ∅ (de #[q,Zl #[_,_,O,(h.rA D l).lst D h2 e (Nat.le_of_lt h.f)]])
 show fJ ∅ ?_;split
 . show de #[q,YY #[_,_,_,_,O,h.sA D l e]]
 . show de #[q,_,_,_,_,O,h.sA D l e]
def Qm(sa:gy κ a)(sb:gy κ b)(h2:κ.klt (KK κ b (~~~b-1)) (KK κ a (~~~a-1)))(z:∃g,f6=cJ st g)(hO:qF κ kd prog w A s)(hk:kindOf f6=kd)(ka:KeysOf κ a)(kb:KeysOf κ b)(h:gk κ a b out ia ib x)(l:κ.kle (KK κ b ib) (KK κ a ia)):wpS (model prog w) A E s (wG a b m ac bc ib out ia) (LQ κ a b st (x+1)) f6:=by
 show c_ (gD h.f ?_);let W:=h.rB sa l;by_cases e:ib+1= ~~~b
 . show f9 ∅ (de #[z,Zl #[_,_,O,W.done e (Nat.le_of_lt h.i)]])
 have hb:ib+1< ~~~b:=Nat.lt_of_le_of_ne h.f e;have hz:ib+1+(~~~b-(ib+1))= ~~~b:=Nat.add_sub_cancel' h.f
 show fJ ∅ ?_;show c_ (gD h.i (c_ (uy hO hk (kZ ka h.i) (J8 kb (ib+1) (~~~b-(ib+1)) (Nat.le_of_eq hz)) (λi j h5 h6=>sb _ _ (Nat.add_le_add_left h5 _) (Nat.lt_of_lt_of_eq (Nat.add_lt_add_left h6 _) hz)) (Nat.sub_pos_of_lt hb) λk iO h5 h6=>?_)))
 have hn:ib+1+k<= ~~~b:=hz▸Nat.add_le_add_left iO _
 have Q:∀j,ib+1<=j->j<ib+1+k->κ.klt (KK κ b j) (KK κ a ia):=λj D h8=>by let(j,rfl):=Nat.exists_eq_add_of_le D;show h5 j (Nat.lt_of_add_lt_add_left h8)
 have q:ib+1+k< ~~~b->κ.kle (KK κ a ia) (KK κ b (ib+1+k)):=λD=>h6 _ (Nat.le_refl _) (Nat.lt_sub_of_add_lt (Nat.add_comm _ _▸D))
 by_cases h0:k>0
 . show f9 h0 ?_;let r3:=(W.swap.takeA (Nat.le_add_right _ _) λi D h8 h9 j N F=>gS (hW (Q i D h8)) (sa _ _ N F)).swap;by_cases e:ib+1+k= ~~~b
   . show f9 ∅ (de #[z,Zl #[_,_,O,r3.done e (Nat.le_of_lt h.i)]])
   let u:=Nat.lt_of_le_of_ne hn e;show fJ ∅ (Ql sb h2 z #[r3,h.e,u,Nat.le_trans h.x (Nat.add_le_add_left (Nat.le_trans (Nat.le_succ _) (Nat.le_add_right _ _)) _)] (q u))
 . obtain rfl:k=0:=Nat.eq_zero_of_not_pos h0
   show Ql sb h2 z #[W,h.e,hb,Nat.le_succ_of_le h.x] (q hb)
def On(W:gy κ a)(N:gy κ b)(h2:κ.klt (KK κ b (~~~b-1)) (KK κ a (~~~a-1)))(hg:∃g,f6=cJ st g)(hO:qF κ kd prog w A s)(hk:kindOf f6=kd)(ka:KeysOf κ a)(kb:KeysOf κ b)(h:gk κ a b out ia ib x):wpS (model prog w) A E s (sL a b out ia ib ac bc m) (LQ κ a b st (x+1)) f6:=by
 show c_ (wpS_modify ?_);have q:∃g,cJ f6 m=cJ st g:=by let(g,rfl):=hg;show#[m,O]
 have hz:ia+(~~~a-ia)= ~~~a:=Nat.add_sub_cancel' (Nat.le_of_lt h.i)
 show c_ (gD h.f (c_ (uy hO hk (kZ kb h.f) (J8 ka ia (~~~a-ia) (Nat.le_of_eq hz)) (λi j h5 h6=>W _ _ (Nat.add_le_add_left h5 _) (Nat.lt_of_lt_of_eq (Nat.add_lt_add_left h6 _) hz)) (Nat.sub_pos_of_lt h.i) λk iO h5 h6=>?_)))
 have F:∀j,ia<=j->j<ia+k->κ.kle (KK κ a j) (KK κ b ib):=λj D h8=>by let(j,rfl):=Nat.exists_eq_add_of_le D;have:=h5 j (Nat.lt_of_add_lt_add_left h8);unfold iJ at this;show(by simpa using this:κ.blt (KK κ b ib) (KK κ a (ia+j))=M)
 have jf:ia+k< ~~~a:=Nat.lt_of_not_le λD=>by
  let i:=Nat.sub_lt (Nat.lt_of_le_of_lt (Nat.zero_le _) h.i) Nat.one_pos;let j:=Nat.sub_lt (Nat.lt_of_le_of_lt (Nat.zero_le _) h.f) Nat.one_pos;have:=KeyOrd.klt_of_kle_of_klt (gS (F (~~~a-1) (Nat.le_sub_one_of_lt h.i) (Nat.lt_of_lt_of_le i D)) (N ib (~~~b-1) (Nat.le_sub_one_of_lt h.f) j)) h2;unfold KeyOrd.klt at this;rw[KeyOrd.irrefl]at this;cases this
 have z:κ.kle (KK κ b ib) (KK κ a (ia+k)):=by have:=h6 k (Nat.le_refl _) (Nat.lt_sub_of_add_lt (Nat.add_comm _ _▸jf));unfold iJ at this;show hW (by simpa using this:κ.blt (KK κ b ib) (KK κ a (ia+k))=G)
 by_cases h0:k>0
 . show f9 h0 ?_;let r3:=h.r.takeA (Nat.le_add_right _ _) λi D h8 h9 j i5 wP=>gS (F i D h8) (N _ _ i5 wP);by_cases e:ia+k+1= ~~~a
   . show f9 ∅ (de #[q,Zl #[_,_,O,r3.lst N h2 e (Nat.le_of_lt h.f)]])
   show fJ ∅ (fJ ∅ (Qm W N h2 q hO hk ka kb #[r3,Nat.lt_of_le_of_ne jf e,h.f,Nat.le_trans h.x (Nat.add_le_add_right (Nat.le_add_right _ _) _)] z))
 . obtain rfl:k=0:=Nat.eq_zero_of_not_pos h0
   show Qm W N h2 q hO hk ka kb h z
end
def Op(hO:qF κ kd prog w A s)(hk:kindOf st=kd)(ka:KeysOf κ a)(kb:KeysOf κ b)(sa:gy κ a)(sb:gy κ b)(ha:1<= ~~~a)(hb:1<= ~~~b)(h1:κ.klt (KK κ b 0) (KK κ a 0))(h2:κ.klt (KK κ b (~~~b-1)) (KK κ a (~~~a-1)))(h:∀r g,Rs κ (a.toList++b.toList) r->Q r (cJ st g)):wpS (model prog w) A E s (B2 a b) Q st:=by
 show c_ (wpS_lift (wpAny_rule #[O,?_]));show c_ (gD hb ?_);have qa:∀{a:Array Keyed},(gy κ a)->SL κ a.toList:=λ{a} sa=>by
  show pairwise_iff_getElem.mpr λi j F z N=>?_;have:=sa i j (Nat.le_of_lt N) z
  rwa [mW (j2 a i F),mW (j2 a j z)]at this
 let r0:=RL.psB (T:=a.toList++b.toList) (out:=#[]) (ia:=0) (ib:=0) sa (by let i:=qa sa;let j:=qa sb;show#[Perm.refl _,i,j]) hb λ_=>hW h1
 by_cases kT:1= ~~~b
 . show f9 (by simpa using kT) (de (h _ (gallopOf st) (r0.done kT (Nat.zero_le _))))
 show fJ ∅ ?_;by_cases ma:0+1= ~~~a
 . show f9 (by simpa using ma) (de (h _ (gallopOf st) (r0.lst sb h2 ma hb)))
 show fJ (by simpa using ma) ?_;show c_ (wpS_get ?_);show oZ (kX (gk κ a b) st) (λc q=>(∃g,q=cJ st g)/\∃r d,c=(!r,d)/\Rs κ (a.toList++b.toList) r) (λB hB x c q _ _ u=>?_) (λc q u=>(f8 (P:=λ_ _=>False) u λ_ _ _ _ _ u=>u.no (Nat.le_max_right _ _)).elim) #[#[gallopOf st,O],_,_,_,_,O,r0,Nat.lt_of_le_of_ne ha ma,Nat.lt_of_le_of_ne hb kT,Nat.zero_le _] (λK hK c q u=>?_)
 rotate_left
 . let((g,rfl),r,d,rfl,u):=u;subst hK;show de (h r g u)
 apply f8 u;intro g out ia ib m u;subst hB;show oZ (λy=>kX (gk κ a b) st (x+y)) (k5 κ (a.toList++b.toList) (gk κ a b) st (x+1)) (λB hB y c q _ _ u=>?_) (λc q u=>(f8 (P:=λ_ _=>False) u λ_ _ _ _ _ u=>u.no (Nat.le_trans (Nat.le_max_right _ _) (Nat.le_add_left _ _))).elim) #[#[g,O],_,_,_,_,O,u] (λK hK c q u=>?_)
 . apply f8 u;intro g out ia ib e u;subst hB;dsimp only;show c_ (gD u.f (c_ (gD u.i ?_)));show c_ (wC hO hk (kZ kb u.f) (kZ ka u.i) ?_);dsimp only;have z:∀{i j k},gk κ a b i j k (x+y+1)->gk κ a b i j k (x+1):=λu=>#[u.r,u.e,u.f,Nat.le_trans (Nat.succ_le_succ (Nat.le_add_right _ _)) u.x];cases hl:κ.blt (KK κ b ib) (KK κ a ia)
   . show fJ lv ?_;show c_ (gD u.i ?_);by_cases e:ia+1+1= ~~~a
     . show f9 (by simpa using e) (de #[#[_,O],Zl #[_,_,O,(u.rA sb hl).lst sb h2 e (Nat.le_of_lt u.f)]])
     show fJ (by simpa using e) ?_;split
     . show de #[#[_,O],YY #[_,_,_,_,O,z (u.sA sb hl e)]]
     . show de #[#[_,O],_,_,_,_,O,u.sA sb hl e]
   . show f9 O ?_;show c_ (gD u.f ?_);by_cases e:ib+1= ~~~b
     . show f9 (by simpa using e) (de #[#[_,O],Zl #[_,_,O,(u.rB sa (hW hl)).done e (Nat.le_of_lt u.i)]])
     show fJ (by simpa using e) ?_;split
     . show de #[#[_,O],YY #[_,_,_,_,O,z (u.sB sa (hW hl) e)]]
     . show de #[#[_,O],_,_,_,_,O,u.sB sa (hW hl) e]
 apply ke u
 . intro g r d u;subst hK;show de #[#[g,O],r,_,O,u]
 intro g out ia ib e u;subst hK;dsimp only;show c_ (wpS_lift (wpAny_rule #[O,?_]));show oZ (λy=>kX (gk κ a b) st (x+1+y)) (k5 κ (a.toList++b.toList) (gk κ a b) st (x+1)) (λB hB y c q _ _ u=>?_) (λc q u=>(f8 (P:=λ_ _=>False) u λ_ _ _ _ _ u=>u.no (Nat.le_trans (Nat.le_max_right _ _) (Nat.le_add_left _ _))).elim) #[#[g,O],_,_,_,_,O,u] (λK hK c q u=>?_)
 . apply f8 u;intro g out ia ib e u;subst hB;let(m,ac,bc):=e;have z:∀m,wpS (model prog w) A E s (sL a b out ia ib ac bc m) (LQ κ a b st (x+1+y+1)) (cJ st g):=λm=>On sa sb h2 #[g,O] hO hk ka kb u;show wpS (model prog w) A E s (if m>1 then sL a b out ia ib ac bc (m-1) else sL a b out ia ib ac bc m) _ (cJ st g);split<;>show wpS_mono (z _) λr q u=>?_
   all_goals
    cases r with
    |done c=>show p_ u λu=>#[u.r,u.e,u.f,Nat.le_trans (Nat.le_succ_of_le (Nat.le_add_right _ _)) u.x]
    |yield c=>show u
 apply ke u
 . intro g r d u;subst hK;show de #[#[g,O],r,_,O,u]
 . intro g out ia ib e u;subst hK;show c_ (wpS_modify (de #[#[_,O],_,_,_,_,O,u]))
end
abbrev H7:=Option (Array Keyed)×Nat×Nat×Array Keyed×Nat×Nat×Nat
noncomputable def wT (a b:Array Keyed) (m ac bc na nb:Nat) (out:Array Keyed):StateT SortSt Sem (ForInStep H7):=
 elem' a (na-1) >>= λx=>
 if na-1==0 then pure (.done (!(a.extract 0 (na-1)++b.extract 0 nb++(out.push x).reverse),na-1,nb,out.push x,m,ac,bc))
 else if decide (ac<7)&&decide (bc<7) then pure (.done (J,na-1,nb,out.push x,m,ac,bc)) else pure (.yield (J,na-1,nb,out.push x,m,ac,bc))
def Uz(a b:Array Keyed)(m ac bc nb na:Nat)(out:Array Keyed):StateT SortSt Sem (ForInStep H7):=
 elem' b (nb-1) >>= λx=>
 if nb-1==1 then pure (.done (!(b.extract 0 (nb-1)++a.extract 0 na++(out.push x).reverse),na,nb-1,out.push x,m,ac,bc))
 else
  elem' a (na-1) >>= λy=>
  tL G y b 0 (nb-1) (nb-1-1) >>= λk=>
  match k with
  | some k=>if nb-1-k>0 then (
   if k==1 then pure (.done (!(b.extract 0 k++a.extract 0 na++(out.push x++(b.extract k (nb-1)).reverse).reverse),na,k,out.push x++(b.extract k (nb-1)).reverse,m,ac,nb-1-k))
   else if k==0 then pure (.done (!(a.extract 0 na++b.extract 0 k++(out.push x++(b.extract k (nb-1)).reverse).reverse),na,k,out.push x++(b.extract k (nb-1)).reverse,m,ac,nb-1-k))
   else wT a b m ac (nb-1-k) na k (out.push x++(b.extract k (nb-1)).reverse))
   else wT a b m ac (nb-1-k) na (nb-1) (out.push x)
  |_=>pure (.done (!(a.extract 0 na++b.extract 0 (nb-1)++(out.push x).reverse),na,nb-1,out.push x,m,ac,bc))
def sM(a b out:Array Keyed)(na nb ac bc m:Nat):StateT SortSt Sem (ForInStep H7):=
 (modify λst=>cJ st m) >>= λ_=>
 elem' b (nb-1) >>= λx=>
 tL M x a 0 na (na-1) >>= λk=>
 match k with
 | some k=>if na-k>0 then (
  if k==0 then pure (.done (!(a.extract 0 k++b.extract 0 nb++(out++(a.extract k na).reverse).reverse),k,nb,out++(a.extract k na).reverse,m,na-k,bc))
  else Uz a b m (na-k) bc nb k (out++(a.extract k na).reverse))
  else Uz a b m (na-k) bc nb na out
 |_=>pure (.done (!(a.extract 0 na++b.extract 0 nb++out.reverse),na,nb,out,m,ac,bc))
section
variable {κ:KeyKind}{kd:SortKind}
structure MH(κ:KeyKind)(T l1 l2 o:List Keyed):Prop where
 perm:(l1++l2++o).Perm T
 s1:SL κ (l1++o)
 s2:SL κ (l2++o)
variable {T l1 l2 o:List Keyed}
def MH.swap(h:MH κ T l1 l2 o):MH κ T l2 l1 o:=#[((Perm.append_right o kM)).trans h.perm,h.s2,h.s1]
def MH.take(h:MH κ T (y++x) l2 o)(z:∀u∈x,∀v∈l2,κ.kle (KA κ v) (KA κ u)):MH κ T y l2 (x++o):=by
 let(h1,h2,j):=h;show#[?_,by simpa [SL] using h2,?_]
 . show Perm.trans ?_ h1;rw[<-eK];show Perm.append_right o ?_;rw[eK,eK];show Perm.append_left y kM
 unfold SL at *;rw[eK]at h2;rw[pairwise_append]at *;show#[j.1,h2.2.1,λu q v i=>?_];obtain i|i:=d6.mp i
 . show z v i u q
 . show j.2.2 u q v i
def Oy(h:u∈a.toList.take n):∃j,j<n/\j< ~~~a/\KK κ a j=KA κ u:=by
 let(j,i):=mem_iff_getElem?.mp h;rw[getElem?_take]at i;split at i
 . rw[fN]at i;show#[j,(),(Array.getElem?_eq_some_iff.mp i).1,mW i]
 . cases i
def W8{a:Array Keyed}(h:k<=n):a.toList.take n=a.toList.take k++(a.extract k n).toList:=by
 rw[Array.toList_extract,extract_eq_take_drop]
 conv=>lhs;rw[show n=k+(n-k) by omega]
 show take_add ..
abbrev RH(κ:KeyKind)(T:List Keyed)(a b out:Array Keyed)(na nb:Nat):Prop:=MH κ T (a.toList.take na) (b.toList.take nb) out.reverse.toList
variable {a b out:Array Keyed}{na nb:Nat}
theorem RH.swap(h:RH κ T a b out na nb):RH κ T b a out nb na:=MH.swap h
def RH.takeA(h:RH κ T a b out na nb)(hk:k<=na)(Q:∀i,k<=i->i<na->i< ~~~a->∀j,j<nb->j< ~~~b->κ.kle (KK κ b j) (KK κ a i)):RH κ T a b (out++(a.extract k na).reverse) k nb:=by
 unfold RH at *;rw[W8 hk]at h;have e:(out++(a.extract k na).reverse).reverse.toList=(a.extract k na).toList++out.reverse.toList:=by simp
 rw[e];show h.take λu N v z=>?_;let(i,h1,h2,D,e):=Bl (κ:=κ) N;let(j,q,W,F):=Oy (κ:=κ) z;rw[<-e,<-F];show Q i h1 h2 D j q W
def RH.pushA(h:RH κ T a b out na nb)(Q:0<na)(hk:na-1< ~~~a)(D:∀j,j<nb->j< ~~~b->κ.kle (KK κ b j) (KK κ a (na-1))):RH κ T a b (out.push a[na-1]) (na-1) nb:=by
 have:=h.takeA (k:=na-1) () λi h1 h2 N j F z=>(show i=na-1 by lia)▸D j F z;have e:(out++(a.extract (na-1) na).reverse).reverse.toList=(out.push a[na-1]).reverse.toList:=by let q:=B4 hk;rw[show na-1+1=na by omega]at q;simp only[Array.toList_append,q,Array.toList_reverse,Array.toList_push,reverse_cons,reverse_nil,iS]
 unfold RH at *
 rwa [e]at this
def UG(q:KeysOf κ a)(h:n<= ~~~a):El κ a 0 n λj=>KK κ a j:=λj z=>#[a[j],by rw[kc];show j2 a _ (),kZ q ()]
def Lk(a:Array Keyed):a.toList.take a.size=a.toList:=oT ()
def UJ(a:Array Keyed)(n:Nat):(a.extract 0 n).toList=a.toList.take n:=by simp
def RH.done(h:RH κ T a b out na nb)(i:na=0):Rs κ T (a.extract 0 na++b.extract 0 nb++out.reverse):=by subst i;unfold Rs;rw[Array.toList_append,Array.toList_append,UJ,UJ,take_zero,iS];show#[by simpa using h.perm,h.s2]
def RH.first(h:RH κ T a b out na nb)(D:∀i,i<nb->i< ~~~b->∀j,j<na->j< ~~~a->κ.kle (KK κ b i) (KK κ a j)):Rs κ T (b.extract 0 nb++a.extract 0 na++out.reverse):=by
 let h1:=h.takeA () λi h1 h2 q j F z=>D j F z i h2 q;have:=h1.done O;have e:(a.extract 0 0++b.extract 0 nb++(out++(a.extract 0 na).reverse).reverse).toList=(b.extract 0 nb++a.extract 0 na++out.reverse).toList:=by simp
 unfold Rs at *
 rwa [e]at this
variable {prog:Program}{w:World}{A:Around}{E:Value->Shared->Prop}{s:Shared}{st:SortSt}
section
def RH.fst(q:∀i j,i<=j->j< ~~~a->κ.kle (KK κ a i) (KK κ a j))(h1:κ.klt (KK κ b 0) (KK κ a 0))(r:RH κ T a b out na nb)(F:nb<=1):Rs κ T (b.extract 0 nb++a.extract 0 na++out.reverse):=r.first λi W N j D z=>by
 obtain rfl:i=0:=()
 show gS (hW h1) (q 0 j () z)
def RH.psA(z:∀i j,i<=j->j< ~~~b->κ.kle (KK κ b i) (KK κ b j))(r:RH κ T a b out na nb)(q:0<na)(hi:na-1< ~~~a)(D:nb<= ~~~b)(l:0<nb->κ.kle (KK κ b (nb-1)) (KK κ a (na-1))):RH κ T a b (out.push a[na-1]) (na-1) nb:=r.pushA q hi λj N F=>gS (z j (nb-1) () ()) (l ())
def RH.psB(q:∀i j,i<=j->j< ~~~a->κ.kle (KK κ a i) (KK κ a j))(r:RH κ T a b out na nb)(z:0<nb)(hi:nb-1< ~~~b)(D:na<= ~~~a)(l:0<na->κ.kle (KK κ a (na-1)) (KK κ b (nb-1))):RH κ T a b (out.push b[nb-1]) na (nb-1):=(r.swap.pushA z hi λj N F=>gS (q j (na-1) () ()) (l ())).swap
structure gm(κ:KeyKind)(a b:Array Keyed)(na nb:Nat)(out:Array Keyed)(x:Nat):Prop where
 r:RH κ (a.toList++b.toList) a b out na nb
 i:0<na
 e:na<= ~~~a
 j:1<nb
 f:nb<= ~~~b
 x:na+nb+x<= ~~~a+ ~~~b
def B5{n m x S:Nat}(i:0<n)(h:n+m+x<=S):n-1+m+(x+1)<=S:=by
 cases n with
 |zero=>cases i
 |succ n=>rw[Nat.add_sub_cancel];lia
section
variable {x y:Nat}
def gm.le(h:gm κ a b na nb out x)(g:y<=x):gm κ a b na nb out y:=#[h.r,h.i,h.e,h.j,h.f,Nat.le_trans (Nat.add_le_add_left g _) h.x]
def gm.no(h:gm κ a b na nb out x)(g: ~~~a+ ~~~b<=x):False:=by have:=h.x;have:=h.i;lia
def gm.rA(h:gm κ a b na nb out x)(W:gy κ b)(l:κ.kle (KK κ b (nb-1)) (KK κ a (na-1))):RH κ (a.toList++b.toList) a b (out.push (a[na-1]'(o1 h.i h.e))) (na-1) nb:=h.r.psA W h.i (o1 h.i h.e) h.f λ_=>l
def gm.rB(h:gm κ a b na nb out x)(W:gy κ a)(l:κ.kle (KK κ a (na-1)) (KK κ b (nb-1))):RH κ (a.toList++b.toList) a b (out.push (b[nb-1]'(o2 h.j h.f))) na (nb-1):=h.r.psB W (Nat.lt_trans Nat.zero_lt_one h.j) (o2 h.j h.f) h.e λ_=>l
def gm.sA(h:gm κ a b na nb out x)(W:gy κ b)(l:κ.kle (KK κ b (nb-1)) (KK κ a (na-1)))(e:¬na-1=0):gm κ a b (na-1) nb (out.push (a[na-1]'(o1 h.i h.e))) (x+1):=#[h.rA W l,o5 e,o3 h.e,h.j,h.f,B5 h.i h.x]
def gm.sB(h:gm κ a b na nb out x)(W:gy κ a)(l:κ.kle (KK κ a (na-1)) (KK κ b (nb-1)))(e:¬nb-1=1):gm κ a b na (nb-1) (out.push (b[nb-1]'(o2 h.j h.f))) (x+1):=#[h.rB W l,h.i,h.e,o4 h.j e,o3 h.f,by have:=B5 (m:=na) (Nat.lt_trans Nat.zero_lt_one h.j) (Nat.add_comm na nb▸h.x);rwa[Nat.add_comm na]]
end
def HQ(κ:KeyKind)(a b:Array Keyed)(st:SortSt)(x:Nat):ForInStep H7->SortSt->Prop
 |.done c,q=>k5 κ (a.toList++b.toList) (gm κ a b) st x c q
 |.yield c,q=>kX (gm κ a b) st x c q
def Qn(W:gy κ b)(D:∃g,f6=cJ st g)(h:gm κ a b na nb out x)(l:κ.kle (KK κ b (nb-1)) (KK κ a (na-1))):wpS (model prog w) A E s (wT a b m ac bc na nb out) (HQ κ a b st (x+1)) f6:=by
 show c_ (gD (o1 h.i h.e) ?_);by_cases e:na-1=0
 . show f9 ∅ (de #[D,Zl #[_,_,O,(h.rA W l).done e]])
 show fJ ∅ ?_;split
 . show de #[D,YY #[_,_,_,_,O,h.sA W l e]]
 . show de #[D,_,_,_,_,O,h.sA W l e]
def Qo(N:gy κ a)(sb:gy κ b)(h1:κ.klt (KK κ b 0) (KK κ a 0))(W:∃g,f6=cJ st g)(hO:qF κ kd prog w A s)(hk:kindOf f6=kd)(ka:KeysOf κ a)(kb:KeysOf κ b)(h:gm κ a b na nb out x)(l:κ.kle (KK κ a (na-1)) (KK κ b (nb-1))):wpS (model prog w) A E s (Uz a b m ac bc nb na out) (HQ κ a b st (x+1)) f6:=by
 show c_ (gD (o2 h.j h.f) ?_);by_cases e:nb-1=1
 . show f9 ∅ (de #[W,Zl #[_,_,O,(h.rB N l).fst N h1 ()]])
 let j:=o4 h.j e;let f:=o3 h.f;show fJ ∅ ?_;show c_ (gD (o1 h.i h.e) (c_ (uy hO hk (kZ ka (o1 h.i h.e)) (UG kb f) (λi j h5 h6=>sb _ _ h5 (Nat.lt_of_lt_of_le h6 f)) (Nat.sub_lt (Nat.lt_trans Nat.zero_lt_one j) Nat.one_pos) λk iO Q F=>?_)));have md:0<k:=Nat.pos_of_ne_zero λD=>by
  have:=KeyOrd.klt_of_klt_of_kle h1 (gS (N 0 (na-1) (Nat.zero_le _) (o1 h.i h.e)) (F 0 (Nat.le_of_eq D) (Nat.lt_trans Nat.zero_lt_one j)));unfold KeyOrd.klt at this;rw[KeyOrd.irrefl]at this;cases this
 have z:∀{k},k<=nb-1->na+k+x<= ~~~a+ ~~~b:=λu=>Nat.le_trans (Nat.add_le_add_right (Nat.add_le_add_left (Nat.le_trans u (Nat.sub_le _ _)) _) _) h.x;by_cases h0:nb-1-k>0
 . show f9 h0 ?_;let r3:=((h.rB N l).swap.takeA iO λi D h8 h9 j i5 wP=>gS (N j (na-1) (Nat.le_sub_one_of_lt i5) (o1 h.i h.e)) (F i D h8)).swap;by_cases e:k=1
   . show f9 (by simpa using e) (de #[W,Zl #[_,_,O,r3.fst N h1 (Nat.le_of_eq e)]])
   show fJ (by simpa using e) (fJ (by simp;lia) ?_);show Qn sb W #[r3,h.i,h.e,Nat.lt_of_le_of_ne md (Ne.symm e),Nat.le_trans iO f,z iO] (hW (Q (k-1) (Nat.sub_lt md Nat.one_pos)))
 . show fJ h0 (Qn sb W #[h.rB N l,h.i,h.e,j,f,z (Nat.le_refl _)] (hW (Q (nb-1-1) (Nat.lt_of_lt_of_le (Nat.sub_lt (Nat.lt_trans Nat.zero_lt_one j) Nat.one_pos) (Nat.le_of_sub_eq_zero (Nat.eq_zero_of_not_pos h0))))))
def OA(N:gy κ a)(sb:gy κ b)(h1:κ.klt (KK κ b 0) (KK κ a 0))(hg:∃g,f6=cJ st g)(Q:qF κ kd prog w A s)(hk:kindOf f6=kd)(ka:KeysOf κ a)(kb:KeysOf κ b)(h:gm κ a b na nb out x):wpS (model prog w) A E s (sM a b out na nb ac bc m) (HQ κ a b st (x+1)) f6:=by
 show c_ (wpS_modify ?_);have z:∃g,cJ f6 m=cJ st g:=by let(g,rfl):=hg;show#[m,O]
 show c_ (gD (o2 h.j h.f) (c_ (uy Q hk (kZ kb (o2 h.j h.f)) (UG ka h.e) (λi j h5 h6=>N _ _ h5 (Nat.lt_of_lt_of_le h6 h.e)) (Nat.sub_lt h.i Nat.one_pos) λk iO h5 h6=>?_)))
 let D:=λj F=>by have:=h5 j F;unfold iJ at this;show(by simpa using this:κ.blt (KK κ b (nb-1)) (KK κ a j)=M)
 let u:=λj F h8=>by have:=h6 j F h8;unfold iJ at this;show hW (by simpa using this:κ.blt (KK κ b (nb-1)) (KK κ a j)=G)
 by_cases h0:na-k>0
 . show f9 h0 ?_;let r3:=h.r.takeA iO λi F h8 h9 j i5 wP=>gS (sb j (nb-1) (Nat.le_sub_one_of_lt i5) (o2 h.j h.f)) (u i F h8);by_cases e:k=0
   . show f9 ∅ (de #[z,Zl #[_,_,O,r3.done e]])
   show fJ ∅ (Qo N sb h1 z Q hk ka kb #[r3,Nat.pos_of_ne_zero e,Nat.le_trans iO h.e,h.j,h.f,Nat.le_trans (Nat.add_le_add_right (Nat.add_le_add_right iO _) _) h.x] (D (k-1) (Nat.sub_lt (Nat.pos_of_ne_zero e) Nat.one_pos)))
 . show fJ h0 (Qo N sb h1 z Q hk ka kb h (D (na-1) (Nat.lt_of_lt_of_le (Nat.sub_lt h.i Nat.one_pos) (Nat.le_of_sub_eq_zero (Nat.eq_zero_of_not_pos h0)))))
end
def OB(hO:qF κ kd prog w A s)(hk:kindOf st=kd)(ka:KeysOf κ a)(kb:KeysOf κ b)(sa:gy κ a)(sb:gy κ b)(ha:1<= ~~~a)(hb:1<= ~~~b)(h1:κ.klt (KK κ b 0) (KK κ a 0))(h2:κ.klt (KK κ b (~~~b-1)) (KK κ a (~~~a-1)))(h:∀r g,Rs κ (a.toList++b.toList) r->Q r (cJ st g)):wpS (model prog w) A E s (B3 a b) Q st:=by
 show c_ (wpS_lift (wpAny_rule #[O,?_]));show c_ (gD (show a.size-1< ~~~a by lia) ?_);have qa:∀{a:Array Keyed},(gy κ a)->SL κ (a.toList.take a.size++(#[]:Array Keyed).reverse.toList):=λ{a} sa=>by
  rw[Lk,show (#[]:Array Keyed).reverse.toList=[] by simp,fg];show pairwise_iff_getElem.mpr λi j N z D=>?_;have:=sa i j () (by simpa using z)
  rwa [mW (j2 a i (by simpa using N)),mW (j2 a j (by simpa using z))]at this
 let r0:=RH.psA sb #[by rw[Lk,Lk,show (#[]:Array Keyed).reverse.toList=[] by simp,fg],qa sa,qa sb] ha () (dP _) λ_=>hW h2;by_cases ma: ~~~a-1=0
 . show f9 (by simpa using ma) (de (h _ (gallopOf st) (r0.done ma)))
 show fJ (by simpa using ma) ?_;by_cases kT: ~~~b=1
 . show f9 (by simpa using kT) (de (h _ (gallopOf st) (r0.fst sa h1 ())))
 show fJ (by simpa using kT) ?_;show c_ (wpS_get ?_);show oZ (kX (gm κ a b) st) (λc q=>(∃g,q=cJ st g)/\∃r d,c=(!r,d)/\Rs κ (a.toList++b.toList) r) (λB hB x c q _ _ u=>?_) (λc q u=>(f8 (P:=λ_ _=>False) u λ_ _ _ _ _ u=>u.no (Nat.le_max_right _ _)).elim) #[#[gallopOf st,O],_,_,_,_,O,r0,(),(),(),(),()] (λK hK c q u=>?_)
 rotate_left
 . let((g,rfl),r,d,rfl,u):=u;subst hK;show de (h r g u)
 apply f8 u;intro g na nb out m u;subst hB;dsimp only;show oZ (λy=>kX (gm κ a b) st (x+y)) (k5 κ (a.toList++b.toList) (gm κ a b) st (x+1)) (λB hB y c q _ _ u=>?_) (λc q u=>(f8 (P:=λ_ _=>False) u λ_ _ _ _ _ u=>u.no (Nat.le_trans (Nat.le_max_right _ _) (Nat.le_add_left _ _))).elim) #[#[g,O],_,_,_,_,O,u] (λK hK c q u=>?_)
 . apply f8 u;intro g na nb out e u;subst hB;dsimp only;show c_ (gD (o2 u.j u.f) (c_ (gD (o1 u.i u.e) ?_)));show c_ (wC hO hk (kZ kb (o2 u.j u.f)) (kZ ka (o1 u.i u.e)) ?_);dsimp only;cases hl:κ.blt (KK κ b (nb-1)) (KK κ a (na-1))
   . show fJ lv ?_;show c_ (gD (o2 u.j u.f) ?_);by_cases e:nb-1=1
     . show f9 (by simpa using e) (de #[#[_,O],Zl #[_,_,O,(u.rB sa hl).fst sa h1 ()]])
     show fJ (by simpa using e) ?_;split
     . show de #[#[_,O],YY #[_,_,_,_,O,(u.sB sa hl e).le ()]]
     . show de #[#[_,O],_,_,_,_,O,u.sB sa hl e]
   . show f9 O ?_;show c_ (gD (o1 u.i u.e) ?_);by_cases e:na-1=0
     . show f9 (by simpa using e) (de #[#[_,O],Zl #[_,_,O,(u.rA sb (hW hl)).done e]])
     show fJ (by simpa using e) ?_;split
     . show de #[#[_,O],YY #[_,_,_,_,O,(u.sA sb (hW hl) e).le ()]]
     . show de #[#[_,O],_,_,_,_,O,u.sA sb (hW hl) e]
 apply ke u
 . intro g r d u;subst hK;show de #[#[g,O],r,_,O,u]
 intro g na nb out e u;subst hK;dsimp only;show c_ (wpS_lift (wpAny_rule #[O,?_]));show oZ (λy=>kX (gm κ a b) st (x+1+y)) (k5 κ (a.toList++b.toList) (gm κ a b) st (x+1)) (λB hB y c q _ _ u=>?_) (λc q u=>(f8 (P:=λ_ _=>False) u λ_ _ _ _ _ u=>u.no (Nat.le_trans (Nat.le_max_right _ _) (Nat.le_add_left _ _))).elim) #[#[g,O],_,_,_,_,O,u] (λK hK c q u=>?_)
 . apply f8 u;intro g na nb out e u;subst hB;let(m,ac,bc):=e;have z:∀m,wpS (model prog w) A E s (sM a b out na nb ac bc m) (HQ κ a b st (x+1+y+1)) (cJ st g):=λm=>OA sa sb h1 #[g,O] hO hk ka kb u;show wpS (model prog w) A E s (if m>1 then sM a b out na nb ac bc (m-1) else sM a b out na nb ac bc m) _ (cJ st g);split<;>show wpS_mono (z _) λr q u=>?_
   all_goals
    cases r with
    |done c=>show p_ u (gm.le · ())
    |yield c=>show u
 apply ke u
 . intro g r d u;subst hK;show de #[#[g,O],r,_,O,u]
 . intro g na nb out e u;subst hK;show c_ (wpS_modify (de #[#[_,O],_,_,_,_,O,u]))
end
def OC(i:Nat):mergeAt' i=(do
 let s <-get
 let (!(sa,na,power),!(sb,nb,_)):=((pendingOf s)[i]?,(pendingOf s)[i+1]?) |unsupported "internal:list.sort.pending"
 set (setPending s (((pendingOf s).setIfInBounds i (sa,na+nb,power)).eraseIdxIfInBounds (i+1)))
 let some k <-tL M (<-elem' (arrOf s) sb) (arrOf s) sa na 0 |return M
 let (sa,na):=(sa+k,na-k)
 if na==0 then return G
 let some nb <-tL G (<-elem' (arrOf s) (sa+na-1)) (arrOf s) sb nb (nb-1) |return M
 if nb==0 then return G
 let x:_:=(arrOf s).extract sa sb
 let y:_:=(arrOf s).extract sb (sb+nb)
 let merged <-if na<=nb then B2 x y else B3 x y
 modify λs=>setArr s (merged.toList.zipIdx.foldl (λa (p,j)=>a.setIfInBounds (sa+j) p) (arrOf s))
 return (failedOf (<-get)).isNone):=O
def ow(xs:Array Keyed)(q n:Nat)(l:List Keyed):Array Keyed:=(l.zipIdx n).foldl (λa (p,j)=>a.setIfInBounds (q+j) p) xs
theorem R9:∀(l:List Keyed)(xs:Array Keyed)(q n i:Nat),q+n+-l<= ~~~xs->(ow xs q n l)[i]?=if q+n<=i/\i<q+n+-l then l[i-(q+n)]? else xs[i]?
 |[]=>λxs q n i _=>by rw[a_ ∅];rfl
 |x::l=>λxs q n i h=>by
  have e:ow xs q n (x::l)=ow (xs.setIfInBounds (q+n) x) q (n+1) l:=O;rw[db]at h ⊢;rw[e,R9 l _ q (n+1) i ∅];by_cases h1:q+(n+1)<=i/\i<q+(n+1)+-l
  . rw[ax h1,ax (),show i-(q+n)=i-(q+(n+1))+1 by lia,getElem?_cons_succ]
  . rw[a_ h1,Array.getElem?_setIfInBounds];by_cases h2:q+n=i
    . subst h2;grind
    . rw[a_ h2,a_ ()]
def OE(l:List Keyed)(xs:Array Keyed)(q:Nat)(h:q+-l<= ~~~xs):(ow xs q 0 l).toList=xs.toList.take q++(l++xs.toList.drop (q+-l)):=by
 show ext_getElem? λi=>?_;rw[fN,R9 l xs q 0 i (),Nat.add_zero];obtain h1|h1:=fU i q
 . rw[a_ (),jJ (by simp;lia),getElem?_take_of_lt h1,fN]
 rw[hY (by simp;lia)];have e:-(xs.toList.take q)=q:=by simp;lia
 rw[e];obtain h2|h2:=fU (i-q) (-l)
 . rw[ax (),jJ h2]
 . rw[a_ (),hY h2,getElem?_drop,show q+-l+(i-q-(-l))=i by lia,fN]
def Sq(κ:KeyKind)(xs:Array Keyed)(lo hi:Nat):Prop:=∀i j,lo<=i->i<=j->j<hi->κ.kle (KK κ xs i) (KK κ xs j)
section
variable {prog:Program}{w:World}{A:Around}{E:Value->Shared->Prop}{s:Shared}{κ:KeyKind}{kd:SortKind}{a₀ xs₀:Array Keyed}{p:Array (Nat×Nat×Nat)}{lo:Nat}{st:SortSt}
def Sg.sq(h:Sg κ xs lo n):Sq κ xs lo (lo+n):=λi j h1 h2 q=>by
 have:=h (i-lo) (j-lo) () ()
 grind
def Sq.congr(h:Sq κ xs lo hi)(e:∀i,lo<=i->i<hi->ys[i]?=xs[i]?):Sq κ ys lo hi:=λi j h1 h2 q=>by rw[KK_congr (e i h1 ()),KK_congr (e j () q)];show h i j h1 h2 q
def OG(h:Q ⟨⟩ x):wpS (model prog w) A E s (set x:StateT SortSt Sem PUnit) Q st:=by unfold wpS;rw[StateT.run_set];show a8 #[O,h]
def sU(h:i+j<k)(hk:k<= ~~~xs):KK κ (xs.extract i k) j=KK κ xs (i+j):=KK_congr (by rw[Array.getElem?_extract,ax ()])
def OH(hO:qF κ kd prog w A s)(h0:KeysOf κ a₀)(D:SB kd a₀ p 0 xs₀ st)(e1:p[i]?=!(sa,na,pw))(e2:p[i+1]?=!(sa+na,nb,OK))(hna:1<=na)(hnb:1<=nb)(gX:sa+na+nb<= ~~~a₀)(s1:Sq κ (arrOf st) sa (sa+na))(s2:Sq κ (arrOf st) (sa+na) (sa+na+nb))
 (h:∀f6,SB kd a₀ ((p.setIfInBounds i (sa,na+nb,pw)).eraseIdxIfInBounds (i+1)) 0 xs₀ f6->(∀j,j<sa\/sa+na+nb<=j->(arrOf f6)[j]?=(arrOf st)[j]?)->Sq κ (arrOf f6) sa (sa+na+nb)->Q G f6):wpS (model prog w) A E s (mergeAt' i) Q st:=by
 rw[OC]
 show c_ (wpS_get ?_)
 rw[D.pend,e1,e2]
 dsimp only
 show c_ (OG ?_)
 have hS:SB kd a₀ ((p.setIfInBounds i (sa,na+nb,pw)).eraseIdxIfInBounds (i+1)) 0 xs₀ (setPending st ((p.setIfInBounds i (sa,na+nb,pw)).eraseIdxIfInBounds (i+1))):=#[D.perm,D.kind,D.failed,O,λ_ hi=>absurd hi ∅]
 let hsiz:= ~~~D
 let kx:=λq hq=>h0 q ((Array.perm_iff_toList_perm.mp D.perm).mem_iff.mp hq)
 generalize hp:(p.setIfInBounds i (sa,na+nb,pw)).eraseIdxIfInBounds (i+1)=p' at *
 have fin:κ.kle (KK κ (arrOf st) (sa+na-1)) (KK κ (arrOf st) (sa+na))->Sq κ (arrOf st) sa (sa+na+nb):=λhl i j h1 h2 h3=>by
  obtain h4|h4:=fU j (sa+na)
  . show s1 i j h1 h2 h4
  obtain h5|h5:=fU i (sa+na)
  . show gS (s1 i (sa+na-1) h1 () ()) (gS hl (s2 _ j () h4 h3))
  . show s2 i j h5 h2 h3
 generalize w4:arrOf st=xs at *
 let ea:=w4
 let hQ:=λq=>h _ hS (λj _=>by rw[ea]) (by rw[ea];show q)
 show c_ (gD (show sa+na< ~~~xs by lia) ?_)
 show c_ (uy hO D.kind (kZ kx ()) (J8 kx sa na ()) (λi j h5 h6=>s1 _ _ () () ()) () λk iO h5 h6=>?_)
 dsimp only
 have B6:∀j,sa<=j->j<sa+k->κ.kle (KK κ xs j) (KK κ xs (sa+na)):=λj h7 h8=>by
  have:=h5 (j-sa) ()
  rw[show sa+(j-sa)=j by omega]at this
  unfold iJ at this
  show(by simpa using this:κ.blt (KK κ xs (sa+na)) (KK κ xs j)=M)
 have OL:∀j,sa+k<=j->j<sa+na->κ.klt (KK κ xs (sa+na)) (KK κ xs j):=λj h7 h8=>by
  have:=h6 (j-sa) () ()
  rw[show sa+(j-sa)=j by omega]at this
  unfold iJ at this
  show(by simpa using this:κ.blt (KK κ xs (sa+na)) (KK κ xs j)=G)
 by_cases md:na-k=0
 . rw[ax (by simpa using md)]
   show de (hQ (fin (B6 _ () ())))
 rw[a_ (by simpa using md)]
 rw[show sa+k+(na-k)-1=sa+na-1 by omega]
 show c_ (gD (show sa+na-1< ~~~xs by lia) ?_)
 show c_ (uy hO D.kind (kZ kx ()) (J8 kx (sa+na) nb ()) (λi j h5 h6=>s2 _ _ () () ()) () λm B7 h7 h8=>?_)
 dsimp only
 let OM:=λj h9 i5=>by
  have:=h7 (j-(sa+na)) ()
  rwa [show sa+na+(j-(sa+na))=j by omega]at this
 have B8:∀j,sa+na+m<=j->j<sa+na+nb->κ.kle (KK κ xs (sa+na-1)) (KK κ xs j):=λj h9 i5=>by
  have:=h8 (j-(sa+na)) () ()
  rwa [show sa+na+(j-(sa+na))=j by omega]at this
 by_cases sN:m=0
 . rw[ax (by simpa using sN)]
   show de (hQ (fin (B8 _ () ())))
 rw[a_ (by simpa using sN)]
 have zx: ~~~(xs.extract (sa+k) (sa+na))=na-k:=by rw[Array.size_extract];lia
 have zy: ~~~(xs.extract (sa+na) (sa+na+m))=m:=by rw[Array.size_extract];lia
 have key:∀r g,Rs κ ((xs.extract (sa+k) (sa+na)).toList++(xs.extract (sa+na) (sa+na+m)).toList) r->wpS (model prog w) A E s (do
  modify λs=>setArr s (r.toList.zipIdx.foldl (λa (p,j)=>a.setIfInBounds (sa+k+j) p) (arrOf s))
  return (failedOf (<-get)).isNone) Q (cJ (setPending st p') g):=λr g hr=>by
  show c_ (wpS_modify (c_ (wpS_get (de ?_))))
  have hl:-r.toList=na-k+m:=by rw[hr.1.length_eq,eS,gT,gT,zx,zy]
  have oj:sa+k+-r.toList=sa+na+m:=()
  have eo:r.toList.zipIdx.foldl (λa (p,j)=>a.setIfInBounds (sa+k+j) p) xs=ow xs (sa+k) 0 r.toList:=O
  show Q (failedOf st).isNone (setArr (cJ (setPending st p') g) (r.toList.zipIdx.foldl (λa (p,j)=>a.setIfInBounds (sa+k+j) p) (arrOf st)))
  rw[w4,eo,D.failed]
  have oa:∀j,(ow xs (sa+k) 0 r.toList)[j]?=if sa+k<=j/\j<sa+na+m then r.toList[j-(sa+k)]? else xs[j]?:=λj=>by rw[R9 _ _ _ _ _ (),Nat.add_zero,oj]
  show h _ #[?_,D.kind,D.failed,O,λ_ hi=>absurd hi (Nat.not_lt_zero _)] (λj hj=>?_) ?_
  . show (ow xs (sa+k) 0 r.toList).Perm a₀
    show Array.Perm.trans (Array.perm_iff_toList_perm.mpr ?_) D.perm
    rw[w4,OE _ _ _ (),oj]
    have e3:xs.toList=xs.toList.take (sa+k)++((xs.extract (sa+k) (sa+na)).toList++(xs.extract (sa+na) (sa+na+m)).toList++xs.toList.drop (sa+na+m)):=by
     conv=>lhs;rw[<-take_append_drop (sa+k) xs.toList,Aa (show sa+k<=sa+na by lia),Aa (show sa+na<=sa+na+m by lia)]
     rw[eK]
    conv=>rhs;rw[e3]
    show Perm.append_left _ (Perm.append_right _ hr.1)
  . show (ow xs (sa+k) 0 r.toList)[j]?=_
    rw[oa,a_ ()]
  . show Sq κ (ow xs (sa+k) 0 r.toList) sa (sa+na+nb)
    have ko:∀j,sa<=j->j<sa+k\/sa+na+m<=j->KK κ (ow xs (sa+k) 0 r.toList) j=KK κ xs j:=λj _ hj=>KK_congr (by rw[oa,a_ ()])
    have ki:∀j,sa+k<=j->j<sa+na+m->∃q,sa+k<=q/\q<sa+na+m/\KK κ (ow xs (sa+k) 0 r.toList) j=KK κ xs q:=λj h9 i5=>by
     have hj:j-(sa+k)< -r.toList:=()
     have e4:(ow xs (sa+k) 0 r.toList)[j]?=!(r.toList[j-(sa+k)]):=by rw[oa,ax #[h9,i5],ge hj]
     rw[mW e4]
     obtain q|q:=d6.mp (hr.1.mem_iff.mp (getElem_mem hj))
     . let(z,z1,z2,z3,z4):=Bl (κ:=κ) q
       show#[z,z1,(),z4.symm]
     . let(z,z1,z2,z3,z4):=Bl (κ:=κ) q
       show#[z,(),z2,z4.symm]
    have lowU:∀i q,sa<=i->i<sa+k->sa+k<=q->q<sa+na+nb->κ.kle (KK κ xs i) (KK κ xs q):=λi q F N q3 q4=>by
     obtain W|W:=fU q (sa+na)
     . show s1 i q F () W
     . show gS (B6 i F N) (s2 _ q (dP _) W q4)
    have Uz:∀q j,sa<=q->q<sa+na+m->sa+na+m<=j->j<sa+na+nb->κ.kle (KK κ xs q) (KK κ xs j):=λq j F N q3 q4=>by
     obtain W|W:=fU q (sa+na)
     . show gS (s1 q (sa+na-1) F () ()) (B8 j q3 q4)
     . show s2 q j W () q4
    intro i j F N q3
    by_cases ci:i<sa+k
    . rw[ko i F (Zl ci)]
      by_cases cj:j<sa+k
      . rw[ko j () (Zl cj)];show s1 i j F N ()
      by_cases B9:j<sa+na+m
      . let(q,W,q6,q7):=ki j () B9
        rw[q7];show lowU i q F ci W ()
      . rw[ko j () (YY ())];show lowU i j F ci () q3
    by_cases ON:i<sa+na+m
    . by_cases B9:j<sa+na+m
      . by_cases cc:i=j
        . subst cc;show KeyOrd.kle_refl _
        have hi:i-(sa+k)< -r.toList:=()
        have hj:j-(sa+k)< -r.toList:=()
        rw[mW (show (ow xs (sa+k) 0 r.toList)[i]?=some (r.toList[i-(sa+k)]) by rw[oa,ax (),ge hi]),mW (show (ow xs (sa+k) 0 r.toList)[j]?=some (r.toList[j-(sa+k)]) by rw[oa,ax (),ge hj])]
        show pairwise_iff_getElem.mp hr.2 _ _ hi hj ()
      . let(q,W,q6,q7):=ki i () ON
        rw[q7,ko j () (YY ())];show Uz q j () q6 () q3
    . rw[ko i F (YY ()),ko j () (YY ())]
      show s2 i j () N q3
 have xk:KeysOf κ (xs.extract (sa+k) (sa+na)):=λq hq=>kx q (by
  rw[Array.toList_extract,extract_eq_take_drop]at hq
  show mem_of_mem_drop (mem_of_mem_take hq))
 have yk:KeysOf κ (xs.extract (sa+na) (sa+na+m)):=λq hq=>kx q (by
  rw[Array.toList_extract,extract_eq_take_drop]at hq
  show mem_of_mem_drop (mem_of_mem_take hq))
 have sx:∀i j,i<=j->j< ~~~(xs.extract (sa+k) (sa+na))->κ.kle (KK κ (xs.extract (sa+k) (sa+na)) i) (KK κ (xs.extract (sa+k) (sa+na)) j):=λi j F N=>by
  rw[zx]at N
  rw[sU () (),sU () ()]
  show s1 _ _ () () ()
 have sy:∀i j,i<=j->j< ~~~(xs.extract (sa+na) (sa+na+m))->κ.kle (KK κ (xs.extract (sa+na) (sa+na+m)) i) (KK κ (xs.extract (sa+na) (sa+na+m)) j):=λi j F N=>by
  rw[zy]at N
  rw[sU () (),sU () ()]
  show s2 _ _ () () ()
 have c1:κ.klt (KK κ (xs.extract (sa+na) (sa+na+m)) 0) (KK κ (xs.extract (sa+k) (sa+na)) 0):=by
  rw[sU () (),sU () ()]
  show OL _ () ()
 have c2:κ.klt (KK κ (xs.extract (sa+na) (sa+na+m)) (~~~(xs.extract (sa+na) (sa+na+m))-1)) (KK κ (xs.extract (sa+k) (sa+na)) (~~~(xs.extract (sa+k) (sa+na))-1)):=by
  rw[zx,zy,sU () (),sU () (),show sa+k+(na-k-1)=sa+na-1 by omega]
  show OM _ () ()
 split
 . show c_ (Op hO D.kind xk yk sx sy () () c1 c2 key)
 . show c_ (OB hO D.kind xk yk sx sy () () c1 c2 key)
end
def rs(p:Array (Nat×Nat×Nat)):List (Nat×Nat):=p.toList.map λr=>(r.1,r.2.1)
def fx(κ:KeyKind)(xs:Array Keyed):Nat->List (Nat×Nat)->Nat->Prop
 |a,[],c=>a=c
 |a,r::l,c=>r.1=a/\1<=r.2/\Sq κ xs a (a+r.2)/\fx κ xs (a+r.2) l c
section
variable {κ:KeyKind}{kd:SortKind}{xs ys:Array Keyed}
theorem fx.le:∀{l:List (Nat×Nat)}{a c:Nat},fx κ xs a l c->a+-l<=c
 |[],_,_=>λh=>Nat.le_of_eq h
 |r::l,a,c=>λi=>by let(_,h1,_,h2):=i;have:=h2.le;rw[db];lia
theorem fx.congr:∀{l:List (Nat×Nat)}{a c:Nat},fx κ xs a l c->(∀i,a<=i->i<c->ys[i]?=xs[i]?)->fx κ ys a l c
 |[],_,_=>λh _=>h
 |r::l,a,c=>λF e=>by let(D,h1,h2,j):=F;show #[D,h1,h2.congr λi z q=>e i z (by have:=j.le;lia),j.congr λi z q=>e i () q]
theorem fx.app:∀{l m:List (Nat×Nat)}{a c:Nat},fx κ xs a (l++m) c ↔ ∃b,fx κ xs a l b/\fx κ xs b m c
 |[],m,a,c=>#[λh=>#[a,O,h],λF=>by let(b,h1,h2):=F;obtain rfl:a=b:=h1;show h2]
 |r::l,m,a,c=>#[λq=>by let(N,h1,h2,z):=q;let(b,i,j):=fx.app.mp z;show#[b,#[N,h1,h2,i],j],λD=>by let(b,(N,h1,h2,z),i):=D;show #[N,h1,h2,fx.app.mpr #[b,z,i]]]
def OO{p:Array (Nat×Nat×Nat)}(h:i+1< ~~~p):∃l x y m,p.toList=l++x::y::m/\-l=i/\p[i]?=!x/\p[i+1]?=!y/\∀z,((p.setIfInBounds i z).eraseIdxIfInBounds (i+1)).toList=l++z::m:=by
 have q:-p.toList= ~~~p:=by simp
 have e:p.toList=p.toList.take i++p[i]::p[i+1]::p.toList.drop (i+2):=by
  conv=>lhs;rw[<-take_append_drop i p.toList,nE (),nE (show i+1< -p.toList by lia)]
  rfl
 have j:-(p.toList.take i)=i:=by rw[i9];lia
 show#[p.toList.take i,p[i],p[i+1],p.toList.drop (i+2),e,j,j2 p i (),j2 p (i+1) h,λz=>?_];rw[Array.toList_eraseIdxIfInBounds,Array.toList_setIfInBounds]
 conv=>lhs;rw[e]
 rw[set_append_right _ _ (),j,ky,set_cons_zero,eraseIdx_append_of_length_le (),j,show i+1-i=1 by omega];rfl
def UL(p:Array (Nat×Nat×Nat))(i q:Nat):rs (p.modify i λx=>(x.1,x.2.1,q))=rs p:=by
 unfold rs;show ext_getElem? λj=>?_;rw[eL,eL,fN,fN,Array.getElem?_modify];split
 . subst_vars;cases p[j]?<;>rfl
 . rfl
def OP(p:Array (Nat×Nat×Nat))(x:Nat×Nat×Nat):rs (p.push x)=rs p++[(x.1,x.2.1)]:=by unfold rs;grind
def UT(p:Array (Nat×Nat×Nat)):-(rs p)= ~~~p:=by simp[rs]
variable {prog:Program}{w:World}{A:Around}{E:Value->Shared->Prop}{s:Shared}{a₀:Array Keyed}{st:SortSt}
structure SR(kd:SortKind)(κ:KeyKind)(a₀:Array Keyed)(lo n:Nat)(st:SortSt):Prop where
 perm:(arrOf st).Perm a₀
 kind:kindOf st=kd
 failed:failedOf st=none
 runs:fx κ (arrOf st) 0 (rs (pendingOf st)) lo
 hi:lo+n<= ~~~a₀
 nxt:Sq κ (arrOf st) lo (lo+n)
def UV(hO:qF κ kd prog w A s)(h0:KeysOf κ a₀){i lo n:Nat}(q:SR kd κ a₀ lo n st)(hi:i+1< ~~~(pendingOf st))(h:∀j,SR kd κ a₀ lo n j-> ~~~(pendingOf j)+1= ~~~(pendingOf st)->Q G j):wpS (model prog w) A E s (mergeAt' i) Q st:=by
 let(l,(z,na,pw),(sb,nb,OK),m,ep,el,e1,e2,ez):=OO hi;let N:=q.runs;unfold rs at N;rw[ep,eD]at N;let(b,q1,q2):=fx.app.mp N;obtain⟨h1,h2,h3,h4,h5,h6,h7⟩:z=b/\1<=na/\Sq κ (arrOf st) b (b+na)/\sb=b+na/\1<=nb/\Sq κ (arrOf st) (b+na) (b+na+nb)/\fx κ (arrOf st) (b+na+nb) (m.map λ(r:Nat×Nat×Nat)=>(r.1,r.2.1)) lo:=q2;subst h1;subst h4;let OQ:=h7.le;have:=q.hi;show OH (xs₀:=#[]) hO h0 #[q.perm,q.kind,q.failed,O,λ_ hi=>absurd hi ()] e1 e2 h2 h5 () h3 h6 λj D hk hq=>h j #[D.perm,D.kind,D.failed,?_,q.hi,q.nxt.congr λi W F=>hk i (YY ())] ?_
 . unfold rs;rw[D.pend,ez,eD];show fx.app.mpr #[z,q1.congr λi W F=>hk i (Zl F),O,(by omega:1<=na+nb),(show z+(na+nb)=z+na+nb by lia)▸hq,(show z+(na+nb)=z+na+nb by lia)▸h7.congr λi W F=>hk i (YY W)]
 . have z1:(pendingOf j).toList.length=-l+(-m+1):=by rw[D.pend,ez];simp
   have z2:(pendingOf st).toList.length=-l+(-m+2):=by rw[ep];simp
   rw[gT]at z1 z2;lia
theorem SR.push{lo n:Nat}(h:SR kd κ a₀ lo n st)(q:1<=n):SR kd κ a₀ (lo+n) 0 (setPending st ((pendingOf st).push (lo,n,0))):=#[h.perm,h.kind,h.failed,by
 rw[OP];show fx.app.mpr #[lo,h.runs,O,q,h.nxt,O],h.hi,λi j h1 h2 z=>()]
def SR.mod{lo n i j:Nat}(h:SR kd κ a₀ lo n st):SR kd κ a₀ lo n (setPending st ((pendingOf st).modify i λx=>(x.1,x.2.1,j))):=#[h.perm,h.kind,h.failed,by
 rw[UL];show h.runs,h.hi,h.nxt]
def Ow(hO:qF κ kd prog w A s)(h0:KeysOf κ a₀)(hd:DK κ a₀)(N:Qk kd a₀ st)(h2:2<= ~~~a₀)
 (h:∀z,(arrOf z).Perm a₀->failedOf z=J->SortedToK κ (arrOf z) a₀.size->Q ⟨⟩ z):wpS (model prog w) A E s sortRuns' Q st:=by
 rw[sortRuns'_eq];show c_ (wpS_get ?_);dsimp only;rw[N.size];generalize minRun' a₀.size a₀.size 0=mr at *;show c_ (wpS_mono (jI
  (I:=λx c z=>∃lo,c=(J,lo)/\x<=lo/\SR kd κ a₀ lo 0 z)
  (Q:=λc z=>c=(J,~~~a₀)/\SR kd κ a₀ a₀.size 0 z) ?step ?fin #[0,O,dP _,N.perm,N.kind,N.failed,by rw[N.pend];show O,(),λi j _ _ h5=>()]) ?post)
 case fin=>
  intro c z q0;let(lo,rfl,hx,D):=q0;have:=D.hi;obtain rfl:lo= ~~~a₀:=()
  grind
 case post=>
  intro c z q0;let(rfl,D):=q0;show c_ (wpS_mono (jI (I:=λx c z=>c=(J,Unit.unit)/\SR kd κ a₀ a₀.size 0 z/\(~~~(pendingOf z)+x<= ~~~a₀\/(pendingOf z).size<=1)) (Q:=λc z=>c=(J,Unit.unit)/\SR kd κ a₀ a₀.size 0 z/\(pendingOf z).size<=1) ?_ ?_ #[O,D,Zl ?_]) ?_)
  . intro x c z _ _ q0;let(rfl,D,W):=q0;show c_ (wpS_get ?_);by_cases hc: ~~~(pendingOf z)<=1
    . rw[ax hc];show de #[O,D,hc]
    rw[a_ hc];show c_ (UV hO h0 D ?_ λkA w_ hz=>?_)
    . split
      all_goals
       split
       all_goals lia
    . show de #[O,w_,()]
  . intro c z q0;let(rfl,D,W):=q0;show#[O,D,()]
  . have:=D.runs.le;rw[UT]at this;lia
  . intro c z q0;let(rfl,D,W):=q0;show de (h _ D.perm D.failed λi j h3 h4=>?_);let hr:=D.runs;let hl:=UT (pendingOf z)
    match hq:rs (pendingOf z),hr,hl with
    |[],hr,_=>have:0= ~~~a₀:=hr;lia
    |[r],hr,_=>
     let(_,_,q1,q2):=hr;let q2:=q2;rw[q2]at q1;show q1 i j () h3 h4
    |r::r'::l,_,hl=>rw[db,db]at hl;lia
 case step=>
  intro x c z _ hx q0;let(lo,rfl,hxl,D):=q0;dsimp only;by_cases l_:lo ≥ ~~~a₀
  . rw[ax l_];have:=D.hi;obtain rfl:lo= ~~~a₀:=()
    show de #[O,D]
  rw[a_ l_];show c_ (R8 hO h0 hd () () #[D.perm,D.kind,D.failed,O,λ_ _=>O] λm kA B_ wv B1 Cb=>?_);dsimp only;have mk:∀n F,lo+n<= ~~~a₀->SB kd a₀ (pendingOf z) lo (arrOf z) F->Sg κ (arrOf F) lo n->SR kd κ a₀ lo n F:=λn F W N hs=>#[N.perm,N.kind,N.failed,N.pend▸D.runs.congr λi _ hi=>N.low i hi,W,hs.sq];split
  case' isTrue=>
   show c_ (wpS_lift (wpAny_rule #[O,?_]));show c_ (W7 hO h0 () () B_ Cb λF OR OS=>?_);simp only[Bool.not_true,hJ,if_false];let hR:=mk _ _ () OR OS;have W:1<=min (~~~a₀-lo) mr:=()
  case' isFalse=>
   let hR:=mk _ _ () B_ Cb;let W:=wv
  all_goals
   show c_ (wpS_get ?_);split
   . show c_ (wpS_mono (jI (I:=λ_ c z=>c=(J,Unit.unit)/\SR kd κ a₀ lo _ z) ?_ (λ_ _ q=>q) #[O,hR]) ?_)
     . intro x c z _ _ q0;let(rfl,D):=q0;show c_ (wpS_get ?_);by_cases hz: ~~~(pendingOf z)>1
       . rw[ax hz,j2 (pendingOf z) (~~~(pendingOf z)-2) ()];dsimp only;split
         . show de #[O,D]
         . show c_ (UV hO h0 D () λkA w_ _=>?_);show de #[O,w_]
       . rw[a_ hz];show de #[O,D]
     . intro c z q0;let(rfl,D):=q0;show c_ (wpS_modify (c_ (wpS_modify (de #[_,O,(),D.mod.push W]))))
   . show c_ (wpS_modify (de #[_,O,(),hR.push W]))
end
section
variable {prog:Program}
def JM(ho:s.heap.get? a=!(seqObj "list" vs.toArray n))
 (hO:∀h',(∀b o,b≠a->s.heap.get? b=!o->h'.get? b=!o)->qF κ kd prog w A { s with heap:=h' })
 (h0:KeysOf κ (pairsOf vs)) (OT:∀h',(∀b o,b≠a->s.heap.get? b=!o->h'.get? b=!o)->∀N W a9,vs=N::W::a9->∀{Q:SortKind->Shared->Prop},Q kd { s with heap:=h' }->wpAny (model prog w) A (keyKind' (N::W::a9).toArray) Q E { s with heap:=h' }) (hd:DK κ (pairsOf vs)) (h64:-vs<100000)
 (h:∀D:SortSt,(arrOf D).Perm (pairsOf vs)->SortedToK κ (arrOf D) (pairsOf vs).size->P (.done (.ret .none)) { s with heap:=sortedHeap s.heap a vs ((arrOf D).map (·.2)) }):
 wpAny (model prog w) A (Builtin.«list.sort» #[[YV a],[]]) P E s:=by
 rw[list_sort_plain];let ha:=dQ ho;show al (listItems_at ho O ?_);show al (listUpdate_at ho O ?_);obtain⟨e1,Cc⟩:∃e1,(s.heap.update a (Obj.mapSeq λ_=>#[])).get? a=!(seqObj "list" #[] e1):=#[_,get?_update_seq ho (λ_=>#[])];show al (seqEpoch_at Cc O ?_);show al (wpAny_newTuple ?_);show al (wpAny_newList ?_);show iE ?_;have sP:(((s.heap.update a (Obj.mapSeq λ_=>#[])).push (seqObj "tuple" vs.toArray 0)).push (seqObj "list" #[] 0)).get? a=!(seqObj "list" #[] e1):=by rw[Heap.get?_push_ne _ _ _ (by rw[size_push',Heap.size_update];show fw (jS ha)),Heap.get?_push_ne _ _ _ (by rw[Heap.size_update];show fw ha)];show Cc
 dsimp only;have gX: ~~~vs.toArray=-vs:=by simp
 let fin:=h;by_cases h2: ~~~vs.toArray<2
 . rw[ax h2,ax h2];show al (a8 ?_);rw[StateT.run_pure];show al (a8 ?_);dsimp only;show al (seqEpoch_at sP O ?_);show al (listUpdate_at sP O ?_ (hsz2:=by rw[Array.size_map];show (pairsOf vs).size<=_;rw[pairsOf_size,hG];lia));simp only[bne_self_eq_false,hJ,if_false];show a8 (fin (SortSt.mk' general' (vs.toArray.zip vs.toArray) #[] 7 J) (Array.Perm.refl _) ?_);intro i j jp hj;have:i=j:=by rw[pairsOf_size]at hj;lia
   subst this;show KeyOrd.kle_refl _
 . rw[a_ h2,a_ h2];obtain⟨N,W,a9,rfl⟩:∃N W a9,vs=N::W::a9:=by
    match vs,gX,h2 with
    |[],_,h2=>grind
    |[_],_,h2=>simp at h2
    |N::W::a9,_,_=>show#[N,W,a9,O]
   have Ce:∀b o,b≠a->s.heap.get? b=!o->(((s.heap.update a (Obj.mapSeq λ_=>#[])).push (seqObj "tuple" (N::W::a9).toArray 0)).push (seqObj "list" #[] 0)).get? b=!o:=λb o hb e=>by let hl:=dQ e;rw[Heap.get?_push_ne _ _ _ (by rw[size_push',Heap.size_update];show fw (jS hl)),Heap.get?_push_ne _ _ _ (by rw[Heap.size_update];show fw hl),Heap.get?_update_ne _ _ _ _ hb];show e
   show al (OT _ Ce _ _ _ O ?_);show al (kH (Ow (κ:=κ) (hO _ Ce)
    (Q:=λ_ D=>(arrOf D).Perm (pairsOf (N::W::a9))/\failedOf D=J/\SortedToK κ (arrOf D) (pairsOf (N::W::a9)).size)
    h0 hd #[Array.Perm.refl _,O,O,O] (by rw[pairsOf_size];simp) λD a1 a2 a3=>#[a1,a2,a3]) ?_ λ_ _ e=>e)
   rintro⟨⟨⟩,D⟩ s' ⟨rfl,hp,hf,hs⟩;dsimp only;show al (seqEpoch_at sP O ?_);show al (listUpdate_at sP O ?_ (hsz2:=by show fA (Nat.le_of_eq ((Array.size_map ..).trans (hp.size_eq.trans (pairsOf_size _)))) ?_;rw[hG];lia));rw[hf];simp only[bne_self_eq_false,hJ,if_false];show a8 (fin D hp hs)
end
noncomputable def CV (ZO i:Nat):Nat:=(i*5+1)%ZO
def eZ(ZO:Nat):Nat->Nat->Nat
 |0,i=>i
 |n+1,i=>CV ZO (eZ ZO n i)
def Bm(ZO:Nat):Nat->Nat->Nat->Nat
 |0,_,acc=>acc
 |n+1,i,acc=>Bm ZO n (CV ZO i) (acc ||| 2 ^ i)
def UW(j n i:Nat):eZ j (n+1) i=eZ j n (CV j i):=by
 induction n with
 |zero=>rfl
 |succ n q=>show CV j (eZ j (n+1) i)=CV j (eZ j n (CV j i));rw[q]
theorem qR(j m i:Nat):∀n,eZ j (n+m) i=eZ j n (eZ j m i)
 |0=>by rw[kc];rfl
 |n+1=>by rw[Nat.succ_add];show CV j (eZ j (n+m) i)=CV j (eZ j n (eZ j m i));rw[qR j m i n]
theorem Ab(D j:Nat):∀n i acc,(Bm D n i acc).testBit j=G->acc.testBit j=G\/∃k,k<n/\eZ D k i=j
 |0=>λi acc h=>Zl h
 |n+1=>λi acc h=>by
  obtain q|⟨k,hk,q⟩:=Ab D j n (CV D i) (acc ||| 2 ^ i) h
  . rw[Nat.testBit_or,Bool.or_eq_true]at q;obtain q|q:=q
    . show Zl q
    . rw[Nat.testBit_two_pow]at q;show YY #[0,Nat.succ_pos _,of_decide_eq_true q]
  . show YY #[k+1,Nat.succ_lt_succ hk,by rw[UW];show q]
def wD(ZO:Nat):Prop:=ZO=8\/ZO=32\/ZO=128\/ZO=512\/ZO=2048\/ZO=8192\/ZO=32768
def Qp(h:wD ZO):Bm ZO ZO 0 0=2 ^ ZO-1/\eZ ZO ZO 0=0:=by rcases h with rfl|rfl|rfl|rfl|rfl|rfl|rfl<;>show#[by decide +kernel,by decide +kernel]
def Ln(h:wD ZO)(i:j<ZO):∃k,k<ZO/\eZ ZO k 0=j:=by
 have q:(Bm ZO ZO 0 0).testBit j=G:=by rw[(Qp h).1,Nat.testBit_two_pow_sub_one];show lS i
 obtain q|q:=Ab ZO j ZO 0 0 q
 . grind
 . show q
def Il(h:wD ZO)(hi:i<ZO)(D:j<ZO):∃k,k<ZO/\eZ ZO k i=j:=by
 let(a,F,q):=Ln h hi;let(b,N,z):=Ln h D;obtain g|g:=fU b a
 . show#[b+ZO-a,(),?_];have e:eZ ZO (b+ZO-a+a) 0=eZ ZO (b+ZO-a) (eZ ZO a 0):=qR ZO a 0 _;rw[q]at e;rw[<-e,Nat.sub_add_cancel (),qR,(Qp h).2,z]
 . show#[b-a,(),?_];have e:eZ ZO (b-a+a) 0=eZ ZO (b-a) (eZ ZO a 0):=qR ZO a 0 _;grind
def OU(z:0<p)(i:eZ ZO p s=s)(k:Nat):eZ ZO (k%p) s=eZ ZO k s:=by
 induction k using Nat.strongRecOn with
 |ind k j=>
  obtain c|c:=fU k p
  . rw[Nat.mod_eq_of_lt c]
  . rw[Nat.mod_eq_sub_mod c,j (k-p) ()];let e:=qR ZO p s (k-p);grind
theorem OV(hi:i<ZO):∀n,eZ ZO n i<ZO
 |0=>hi
 |n+1=>Nat.mod_lt _ ()
def OW(h:wD ZO)(hi:i<ZO)(z:a<b)(F:b<ZO):eZ ZO a i≠eZ ZO b i:=λe=>by
 have q:eZ ZO (b-a) (eZ ZO a i)=eZ ZO a i:=by rw[<-qR,Nat.sub_add_cancel ()];show e.symm
 have sub:range ZO ⊆ (range (b-a)).map λk=>eZ ZO k (eZ ZO a i):=λj D=>by let(k,_,e):=Il h (OV hi a) (mem_range.mp D);show dA.mpr #[k%(b-a),mem_range.mpr (Nat.mod_lt _ ()),(OU () q k).trans e]
 have:=Nodup.length_le_of_subset nodup_range sub;grind
def W9{xs:Array Nat}(h:wD ZO)(hi:i<ZO)(Q: ~~~xs<ZO):∃k,k<= ~~~xs/\∀n:Nat,xs[n]?≠!(eZ ZO k i):=by
 show Classical.byContradiction λz=>?_;have D:((range (~~~xs+1)).map λk=>eZ ZO k i).Nodup:=pairwise_map.mpr (Pairwise.imp_of_mem (λ_ N l=>OW h hi l ∅) pairwise_lt_range);have:=Nodup.length_le_of_subset D λj F=>by let(k,hk,e):=dA.mp F;show Classical.byContradiction λq=>z #[k,by have:=mem_range.mp hk;lia -verbose,λn en=>q ?_];rw[<-e];show gt (Array.getElem?_toList.trans en)
 grind
def ar(t:SetTable)(h:Int):Nat->SetTable.Probe
 |0=>t.probeStart h
 |n+1=>t.advance (ar t h n)
theorem t8(e:t.mask=t'.mask)(h:Int):∀n,ar t h n=ar t' h n
 |0=>by show t.probeStart h=t'.probeStart h;unfold probeStart;rw[e]
 |n+1=>by show t.advance (ar t h n)=t'.advance (ar t' h n);rw[t8 e h n];unfold advance;rw[e]
noncomputable def lp (m:Nat) (a:Nat×Nat):Nat->Nat×Nat
 |0=>a
 |n+1=>leap m (lp m a n).1 (lp m a n).2
theorem uc(m:Nat)(a:Nat×Nat):∀n,(lp m a n).2=a.2/32 ^ n
 |0=>by show a.2=a.2/1;grind
 |n+1=>by show (lp m a n).2/32=_;rw[uc m a n,Nat.div_div_eq_div_mul,Nat.pow_succ]
theorem Lp(m:Nat)(a:Nat×Nat)(n:Nat):∀k,lp m a (k+n)=lp m (lp m a n) k
 |0=>by rw[kc];rfl
 |k+1=>by rw[Nat.succ_add];show leap _ _ _=leap _ _ _;rw[Lp m a n k]
theorem Lq(m i:Nat):∀k,(lp m (i,0) k).1=eZ (m+1) k i
 |0=>rfl
 |k+1=>by show (((lp m (i,0) k).1*5+1+(lp m (i,0) k).2/32)%(m+1))=CV (m+1) (eZ (m+1) k i);rw[uc,Lq m i k];rw[Nat.zero_div,Nat.zero_div];rfl
theorem Y9(m:Nat)(a:Nat×Nat)(h:a.1<m+1):∀n,(lp m a n).1<m+1
 |0=>h
 |n+1=>Nat.mod_lt _ ()
def Qq(h:Int):bits h<2 ^ 64:=by unfold bits;lia
def Xb(D:wD (m+1))(h:Int)(q:j<=m):∃n,n<=m+13/\(lp m (bits h%(m+1),bits h) n).1=j:=by
 have z:(lp m (bits h%(m+1),bits h) 13).2=0:=by rw[uc];show Nat.div_eq_of_lt (gu (Qq h) ())
 have l:(lp m (bits h%(m+1),bits h) 13).1<m+1:=Y9 m _ (Nat.mod_lt _ ()) 13;let(k,hk,e):=Il D l (Nat.lt_succ_of_le q);show#[k+13,(),?_];rw[Lp];have i:lp m (bits h%(m+1),bits h) 13=((lp m (bits h%(m+1),bits h) 13).1,0):=by rw[<-z]
 rw[i,Lq];show e
def vJ(m i:Nat):i<=runEnd m i/\runEnd m i<=i+9/\(i<=m->runEnd m i<=m):=by unfold runEnd;split<;>lia
theorem yf(t:SetTable)(h:Int):∀(k r j:Nat),ar t h s=#[j,r,i,p,d]->k<=r->ar t h (s+k)=#[j+k,r-k,i,p,d]
 |0=>λr j e _=>e
 |k+1=>λr j e hk=>by let q:=yf t h k r j e ();show t.advance (ar t h (s+k))=_;rw[q];unfold advance;rw[ax (show r-k>0 by lia)];rfl
theorem Qs(t:SetTable)(h:Int):∀n,∃s,s<=10*n/\ar t h s=#[(lp t.mask (bits h%(t.mask+1),bits h) n).1,runEnd t.mask (lp t.mask (bits h%(t.mask+1),bits h) n).1-(lp t.mask (bits h%(t.mask+1),bits h) n).1,(lp t.mask (bits h%(t.mask+1),bits h) n).1,(lp t.mask (bits h%(t.mask+1),bits h) n).2,J]
 |0=>#[0,dP _,O]
 |n+1=>by let(s,hs,e):=Qs t h n;have i:lp t.mask (bits h%(t.mask+1),bits h) (n+1)=leap t.mask (lp t.mask (bits h%(t.mask+1),bits h) n).1 (lp t.mask (bits h%(t.mask+1),bits h) n).2:=O;rw[i];generalize lp t.mask (bits h%(t.mask+1),bits h) n=a at e;let q:=yf t h _ _ _ e (dP _);rw[ky]at q;let b:=(vJ t.mask a.1);show#[s+(runEnd t.mask a.1-a.1)+1,(),?_];show t.advance _=_;rw[q];rfl
theorem yg(t:SetTable)(h:Int):∀n,(ar t h n).dummy=J
 |0=>rfl
 |n+1=>by
  show (t.advance (ar t h n)).dummy=J;unfold advance;split
  . show yg t h n
  . show yg t h n
theorem GZ(t:SetTable)(h:Int):∀n,(ar t h n).j+(ar t h n).more<=t.mask
 |0=>by have l:bits h%(t.mask+1)<=t.mask:=Nat.le_of_lt_succ (Nat.mod_lt _ ());let b:=vJ t.mask (bits h%(t.mask+1));show bits h%(t.mask+1)+(runEnd t.mask (bits h%(t.mask+1))-bits h%(t.mask+1))<=t.mask;lia
 |n+1=>by
  let q:=GZ t h n;show (t.advance (ar t h n)).j+(t.advance (ar t h n)).more<=t.mask;unfold advance;split
  . lia
  . have l:((ar t h n).i*5+1+(ar t h n).perturb/32)%(t.mask+1)<=t.mask:=Nat.le_of_lt_succ (Nat.mod_lt _ ());let b:=vJ t.mask (((ar t h n).i*5+1+(ar t h n).perturb/32)%(t.mask+1));show ((ar t h n).i*5+1+(ar t h n).perturb/32)%(t.mask+1)+(runEnd t.mask (((ar t h n).i*5+1+(ar t h n).perturb/32)%(t.mask+1))-((ar t h n).i*5+1+(ar t h n).perturb/32)%(t.mask+1))<=t.mask;lia
def wF(t:SetTable)(h:Int)(K:Nat):Prop:=t.slot (ar t h K).j=.empty/\∀l,l<K->t.slot (ar t h l).j≠.empty
def U0:∀{n:Nat},t.slot (ar t h n).j=.empty->∃K,K<=n/\wF t h K:=by
 intro n;induction n using Nat.strongRecOn with
 |_ n F=>
  intro e;by_cases q:∃l,l<n/\t.slot (ar t h l).j=.empty
  . let(l,D,N):=q;let(K,W,f):=F l D N;show#[K,(),f]
  . show#[n,dP _,e,λl D z=>q #[l,D,z]]
theorem Qt{hashAt:Nat->Int}{K:Nat}(nd:∀j,t.slot j≠.dummy)(f:wF t h K):∀(q k:Nat),k<=K->K-k<q->
 (∃l i,k<=l/\l<K/\t.slot (ar t h l).j=.live i/\hashAt i=h/\probe.go t hashAt h q (ar t h k)=!(.candidate (ar t h l).j i (ar t h (l+1)))/\∀z,k<=z->z<l->∀D,t.slot (ar t h z).j=.live D->hashAt D≠h)\/
 ((∀z,k<=z->z<K->∀D,t.slot (ar t h z).j=.live D->hashAt D≠h)/\probe.go t hashAt h q (ar t h k)=!(.empty (ar t h K).j J))
 |0=>λk _ h2=>absurd h2 ()
 |q+1=>λk h1 h2=>by
  unfold probe.go;obtain g|g:=fU k K
  . cases hs:t.slot (ar t h k).j with
    |empty=>show absurd hs (f.2 k g)
    |dummy=>grind
    |live i=>
     dsimp only;by_cases N:hashAt i=h
     . rw[ax ∅];show Zl #[k,i,dP _,g,hs,N,O,λz a b=>absurd b ()]
     . rw[a_ ∅];obtain⟨l,D,a1,a2,a3,a4,a5,a6⟩|⟨a1,a2⟩:=Qt nd f q (k+1) g ()
       . show Zl #[l,D,(),a2,a3,a4,a5,λz b1 b2 W F=>?_];obtain c|c:=fU k z
         . show a6 z c b2 W F
         . obtain rfl:z=k:=()
           grind
       . show YY #[λz b1 b2 W F=>?_,a2];obtain c|c:=fU k z
         . show a1 z c b2 W F
         . obtain rfl:z=k:=()
           grind
  . obtain rfl:k=K:=()
    rw[f.1];rw[yg];show YY #[λz a b=>absurd b (),O]
def Fe(xs:Array Nat):Prop:=∀a b x y:Nat,a<b->xs[a]?=!x->xs[b]?=!y->x<y
theorem Dq(D:Fe xs):∀(z lo hi:Nat),lo<=hi->hi<= ~~~xs->hi-lo<=z->(∀i x:Nat,i<lo->xs[i]?=!x->x<j)->(∀i x:Nat,hi<=i->xs[i]?=!x->j<=x)->
 below.go xs j z lo hi<= ~~~xs/\(∀i x:Nat,i<below.go xs j z lo hi->xs[i]?=!x->x<j)/\(∀i x:Nat,below.go xs j z lo hi<=i->xs[i]?=!x->j<=x)
 |0=>λlo hi h1 h2 h3 N F=>by
  obtain rfl:lo=hi:=()
  show#[h2,N,F]
 |z+1=>λlo hi h1 h2 h3 N F=>by
  unfold below.go;split
  . have hm:(lo+hi)/2< ~~~xs:=()
    let e:=mw hm;dsimp only;rw[Array.getD_eq_getD_getElem?,e];split
    . rename_i q;show Dq D z _ hi () h2 () (λi x Q ex=>?_) F;obtain c|c:=fU i ((lo+hi)/2)
      . show Nat.lt_trans (D _ _ _ _ c ex e) q
      . obtain rfl:i=(lo+hi)/2:=()
        grind
    . rename_i q;let W:=IL q;show Dq D z lo _ () () () N (λi x Q ex=>?_);obtain c|c:=fU ((lo+hi)/2) i
      . show oQ (r9 W (D _ _ _ _ c e ex))
      . obtain rfl:i=(lo+hi)/2:=()
        grind
  . obtain rfl:lo=hi:=()
    show#[h2,N,F]
def ud(q:Fe xs)(j:Nat):below xs j<= ~~~xs/\(∀i x:Nat,i<below xs j->xs[i]?=!x->x<j)/\(∀i x:Nat,below xs j<=i->xs[i]?=!x->j<=x):=
 Dq q xs.size 0 xs.size () () () (λi x h=>absurd h ()) (λi x h e=>by rw[nB h]at e;cases e)
def below_at(z:Fe xs)(e:xs[i]?=!j):below xs j=i:=by
 let(Q,N,F):=ud z j;obtain c|c|c:=Nat.lt_trichotomy (below xs j) i
 . let D:=Nat.lt_trans c (by obtain g|g:=fU i xs.size;show g;rw[nB g]at e;cases e);let q:=mw D;have:=F _ _ () q;have:=z _ _ _ _ c q e;lia
 . show c
 . show absurd (N _ _ c e) ()
def Ac{t:SetTable}(q:Fe t.place)(e:t.place[i]?=!j):t.slot j=.live i:=by unfold slot;rw[below_at q e,ax ()]
def Im{t:SetTable}(e:t.slot j=.live i):t.place[i]?=!j:=by
 unfold slot at e;dsimp only at e;split at e
 . grind
 . grind
def Qu{t:SetTable}(i:t.dummies=#[])(j:Nat):t.slot j≠.dummy:=by
 intro e;unfold slot at e;dsimp only at e;split at e
 . cases e
 . split at e
   . rename_i q;rw[i]at q;cases q
   . cases e
def pN{t:SetTable}(N:Fe t.place)(W:t.dummies=#[]):t.slot j=.empty ↔ ∀i:Nat,t.place[i]?≠!j:=by
 constructor
 . intro e i q;rw[Ac N q]at e;cases e
 . intro q;cases e:t.slot j with
   |empty=>rfl
   |dummy=>show absurd e (Qu W j)
   |live i=>show absurd (Im e) (q i)
def tM(xs:Array α)(p:Nat)(x:α):(insertAt xs p x).toList=xs.toList.take p++x::xs.toList.drop p:=by unfold insertAt;have e:take (~~~xs-p) (drop p xs.toList)=drop p xs.toList:=oT ∅;simp[e]
def iC(xs:Array α)(z:p<= ~~~xs)(x:α)(i:Nat):(insertAt xs p x)[i]?=if i<p then xs[i]? else if i=p then !x else xs[i-1]?:=by
 rw[<-fN,tM];have j:-(xs.toList.take p)=p:=by rw[i9,gT];lia
 split
 . rename_i g;rw[jJ (),getElem?_take_of_lt g,fN]
 . rw[hY (),j];split
   . grind
   . obtain⟨k,hk⟩:∃k,i-p=k+1:=#[i-p-1,()];rw[hk,getElem?_cons_succ,getElem?_drop,fN];congr 1;lia
def n6(xs:Array α)(p:Nat)(x:α): ~~~(insertAt xs p x)= ~~~xs+1:=by rw[<-gT,tM,eS,db,i9,nS,gT];lia
def Sd(D:Fe xs)(hj:∀i:Nat,xs[i]?≠!j):Fe (insertAt xs (below xs j) j):=by
 let(W,N,b3):=ud D j;intro a b x y F ex q;rw[iC xs W]at ex q;let st:=λi x h e=>Nat.lt_of_le_of_ne (b3 i x h e) λz=>hj i (z▸e);split at ex
 . rename_i Q;split at q
   . show D _ _ _ _ F ex q
   . split at q
     . cases q;show N _ _ Q ex
     . show Nat.lt_trans (N _ _ Q ex) (st _ _ () q)
 . split at ex
   . cases ex;rw[a_ (),a_ ()]at q;show st _ _ () q
   . rw[a_ (),a_ ()]at q;show D _ _ _ _ () ex q
def Cf(t:SetTable)(h:Int)(j:Nat):Prop:=∃n,(ar t h n).j=j/\∀l,l<n->t.slot (ar t h l).j≠.empty
structure sV(t:SetTable)(hs:Nat->Option Int):Prop where
 msz:wD (t.mask+1)
 nod:t.dummies=#[]
 ris:Fe t.place
 bnd:∀i j:Nat,t.place[i]?=!j->j<=t.mask
 room: ~~~t.place<=t.mask
 rch:∀(i j:Nat)(h:Int),t.place[i]?=!j->hs i=!h->Cf t h j
def sV.first(T:sV t hs)(h:Int):∃K,K<10*(~~~t.place+15)/\wF t h K:=by
 have z:(lp t.mask (bits h%(t.mask+1),bits h) 13).2=0:=by rw[uc];show Nat.div_eq_of_lt (gu (Qq h) ())
 let(k,hk,q):=W9 T.msz (Y9 t.mask (bits h%(t.mask+1),bits h) (Nat.mod_lt _ ()) 13) (Nat.lt_succ_of_le T.room);let(s,D,e):=Qs t h (k+13);have F:(ar t h s).j=eZ (t.mask+1) k (lp t.mask (bits h%(t.mask+1),bits h) 13).1:=by rw[e,Lp,<-Lq,<-z]
 have i:t.slot (ar t h s).j=.empty:=by rw[F];show(pN T.ris T.nod).mpr q
 let(K,N,f):=U0 i;show#[K,(),f]
def sV.ahead(T:sV t hs){K i j:Nat}(f:wF t h K)(e:t.place[i]?=!j)(D:hs i=!h):∃l,l<K/\(ar t h l).j=j/\t.slot (ar t h l).j=.live i:=by
 let(n,en,q):=T.rch i j h e D;show#[n,?_,en,by rw[en];show Ac T.ris e];obtain c|c:=fU n K
 . show c
 . obtain d|d:=Nat.eq_or_lt_of_le c
   . let z:=f.1;rw[d,en,Ac T.ris e]at z;cases z
   . show absurd f.1 (q K d)
def U3_{t:SetTable}(q:t.dummies=#[])(j:Nat):(t.put j).1={ t with place:=insertAt t.place (below t.place j) j }/\(t.put j).2=below t.place j:=by
 unfold put;show#[?_,O];have e:has t.dummies j=M:=by rw[q];rfl
 rw[e];rfl
noncomputable def Lr {α:Type} (hs:Nat->Option α) (p:Nat) (h:α) (i:Nat):Option α:=if i<p then hs i else if i=p then !h else hs (i-1)
def sV.put(T:sV t hs){K:Nat}(f:wF t h K)(N: ~~~t.place+1<=t.mask):
 sV { t with place:=insertAt t.place (below t.place (ar t h K).j) (ar t h K).j } (Lr hs (below t.place (ar t h K).j) h):=by
 let nn:=(pN T.ris T.nod).mp f.1;let(W,b2,b3):=ud T.ris (ar t h K).j;let rr:=Sd T.ris nn;have le:(ar t h K).j<=t.mask:=by have:=GZ t h K;lia
 have keep:∀(Q:SetTable),Q={ t with place:=insertAt t.place (below t.place (ar t h K).j) (ar t h K).j }->∀j,t.slot j≠.empty->Q.slot j≠.empty:=by
  intro Q e' j q z;subst e';let z':=(pN (t:={ t with place:=insertAt t.place (below t.place (ar t h K).j) (ar t h K).j }) rr T.nod).mp z;show q ((pN T.ris T.nod).mpr λi e=>?_);obtain c|c:=fU i (below t.place (ar t h K).j)
  . show z' i ?_;rw[iC _ W,ax c];show e
  . show z' (i+1) ?_;rw[iC _ W,a_ (),a_ ()];show e
 show#[T.msz,T.nod,rr,λi j e=>?_,?_,λi j h' e F=>?_]
 . rw[iC _ W]at e;split at e
   . show T.bnd _ _ e
   . split at e
     . grind
     . show T.bnd _ _ e
 . rw[n6];show N
 . let rc:=λn=>t8 (t:={ t with place:=insertAt t.place (below t.place (ar t h K).j) (ar t h K).j }) (t':=t) O h' n;have mt:Cf t h' j\/(h'=h/\j=(ar t h K).j):=by
    rw[iC _ W]at e;unfold Lr at F;split at e
    . rename_i c;rw[ax c]at F;show Zl (T.rch i j h' e F)
    . rename_i c;rw[a_ c]at F;split at e
      . grind
      . rename_i c2;rw[a_ c2]at F;show Zl (T.rch _ j h' e F)
   obtain⟨n,en,q⟩|⟨rfl,rfl⟩:=mt
   . show#[n,by rw[rc];show en,λl hl=>by rw[rc];show keep _ O _ (q l hl)]
   . show#[K,by rw[rc],λl hl=>by rw[rc];show keep _ O _ (f.2 l hl)]
abbrev nF(m:Nat)(h:Int):Nat->Nat×Nat:=lp m (bits h%(m+1),bits h)
abbrev rl(m:Nat)(h:Int)(n:Nat):Nat:=runEnd m (nF m h n).1-(nF m h n).1
def sn(m:Nat)(h:Int):Nat->Nat
 |0=>0
 |n+1=>sn m h n+rl m h n+1
theorem Qv(t:SetTable)(h:Int):∀n,ar t h (sn t.mask h n)=#[(nF t.mask h n).1,rl t.mask h n,(nF t.mask h n).1,(nF t.mask h n).2,J]
 |0=>rfl
 |n+1=>by let e:=Qv t h n;let q:=yf t h _ _ _ e (dP _);rw[ky]at q;show t.advance (ar t h (sn t.mask h n+rl t.mask h n))=_;rw[q];rfl
def G3(t:SetTable)(h:Int)(hk:k<=rl t.mask h n):(ar t h (sn t.mask h n+k)).j=(nF t.mask h n).1+k:=by rw[yf t h _ _ _ (Qv t h n) hk]
abbrev Fr(ow:Array (Option Nat))(j:Nat):Prop:=(ow.getD j (!0)).isNone=G
theorem Io(t:SetTable)(ow:Array (Option Nat))(h:Int):∀(i n:Nat),
 (∀j,layClean.free t.mask ow i (nF t.mask h n).1 (nF t.mask h n).2=!j->∃s,sn t.mask h n<=s/\(ar t h s).j=j/\Fr ow j/\∀l,sn t.mask h n<=l->l<s->¬ Fr ow (ar t h l).j)/\
 ((∃n',n<=n'/\ n'<n+i/\Fr ow (nF t.mask h n').1)->∃j,layClean.free t.mask ow i (nF t.mask h n).1 (nF t.mask h n).2=!j)
 |0=>λn=>#[λj e=>by (unfold layClean.free at e;cases e),λD=>by let(n',a,b,_):=D;show absurd b ()]
 |i+1=>λn=>by
  let Q:=Io t ow h i (n+1);have e1:nF t.mask h (n+1)=leap t.mask (nF t.mask h n).1 (nF t.mask h n).2:=O;let hr:=vJ t.mask (nF t.mask h n).1;unfold layClean.free;cases F:(range (runEnd t.mask (nF t.mask h n).1+1-(nF t.mask h n).1)).find? (λk=>(ow.getD ((nF t.mask h n).1+k) (!0)).isNone) with
  |some k=>
   show#[λj e=>?_,λ_=>#[_,O]];cases e;have hk:k<=rl t.mask h n:=by have:=mem_of_find?_eq_some F;rw[mem_range]at this;lia
   show#[sn t.mask h n+k,rS _ _,G3 t h hk,by have:=find?_some F;show this,λl h1 h2=>?_];obtain⟨c,rfl⟩:∃c,l=sn t.mask h n+c:=#[l-sn t.mask h n,()];rw[G3 t h (show c<=rl t.mask h n by lia)];intro z;rw[find?_range_eq_some]at F;have:=F.2.2 c ();grind
  |none=>
   have N:∀c,c<=rl t.mask h n->¬ Fr ow ((nF t.mask h n).1+c):=λc hc z=>by have:=find?_eq_none.mp F c ∅;show this z
   show#[λj e=>?_,λ⟨n',a,b,z⟩=>?_]
   . let(s,a1,a2,a3,a4):=Q.1 j ();have a1':sn t.mask h n+rl t.mask h n+1<=s:=a1;show#[s,(),a2,a3,λl h1 h2=>?_];obtain c|c:=fU (sn t.mask h n+rl t.mask h n) l
     . show a4 l c h2
     . obtain⟨W,rfl⟩:∃c,l=sn t.mask h n+c:=#[l-sn t.mask h n,()];rw[G3 t h (show W<=rl t.mask h n by lia)];show N W ()
   . obtain d|d:=Nat.eq_or_lt_of_le a
     . subst d;show absurd z (by have:=N 0 ();show this)
     . let(j,q):=Q.2 #[n',d,(),z];show#[j,by rw[e1]at q;show q]
def Ls{ow:Array (Option Nat)}:Fr ow j ↔ ow[j]?=!J:=by
 show (ow.getD j (!0)).isNone=G ↔ _;rw[Array.getD_eq_getD_getElem?];cases ow[j]? with
 |none=>grind
 |some x=>
  cases x with
  |none=>grind
  |some y=>grind
structure OI(t:SetTable)(hs:List Int)(ow:Array (Option Nat))(k:Nat):Prop where
 size: ~~~ow=t.mask+1
 free:∃F:List Nat,F.Nodup/\-F+k=t.mask+1/\∀j,j∈F ↔ ow[j]?=!none
 own:∀i,i<k->∃j:Nat,ow[j]?=!(!i)
 lt:∀(j:Nat) i,ow[j]?=!(!i)->i<k
 uni:∀(j j':Nat) i,ow[j]?=!(!i)->ow[j']?=!(!i)->j=j'
 rch:∀(j:Nat)(i:Nat) h,ow[j]?=!(!i)->hs[i]?=!h->∃n,(ar t h n).j=j/\∀l,l<n->ow[(ar t h l).j]?≠!none
def OI.start(t:SetTable)(hs:List Int):OI t hs (Array.replicate (t.mask+1) J) 0:=by
 have g:∀j,(Array.replicate (t.mask+1) (J:Option Nat))[j]?=if j<t.mask+1 then !J else J:=λj=>Array.getElem?_replicate
 show#[Array.size_replicate,#[range (t.mask+1),nodup_range,by rw[i8],λj=>?_],λi h=>absurd h (),λj i e=>?_,λj D i e=>?_,λj i h e=>?_]
 . rw[g,mem_range];split
   . grind
   . grind
 all_goals
  grind
def OI.step{ow:Array (Option Nat)}(hm:wD (t.mask+1))(D:OI t hs ow k)(hk:k<=t.mask)(hh:hs[k]?=!h):
 ∃j,layClean.free t.mask ow (turns t.mask) (bits h%(t.mask+1)) (bits h)=!j/\OI t hs (ow.setIfInBounds j (!k)) (k+1):=by
 let(F,n1,n2,n3):=D.free;obtain⟨Q,W⟩:∃j,j∈F:=by
  cases F with
  |nil=>simp at n2;lia
  |cons a F=>show#[a,cS]
 have OX:Q<=t.mask:=by
  have:Q< ~~~ow:=by
   obtain c|c:=fU Q ow.size
   . show c
   . grind
  rw[D.size]at this;lia
 let(n',n5,OY):=Xb hm h OX;let sp:=Io t ow h (turns t.mask) 0;let(j,ej):=sp.2 #[n',gz _,by unfold turns;lia,by show Fr ow (lp _ _ _).1;rw[OY];show Ls.mpr ((n3 Q).mp W)];let(s,_,r1,r2,r3):=sp.1 j ej;show#[j,ej,?_];let fj:=Ls.mp r2;have lj:j< ~~~ow:=by
  obtain c|c:=fU j ow.size
  . show c
  . rw[nB c]at fj;grind
 have g:∀x,(ow.setIfInBounds j (!k))[x]?=if x=j then !(!k) else ow[x]?:=λx=>by
  rw[Array.getElem?_setIfInBounds];split
  . grind
  . grind
 have nn:∀x,ow[x]?≠!J->(ow.setIfInBounds j (!k))[x]?≠!J:=λx q=>by
  rw[g];split
  . grind
  . show q
 show#[by rw[Array.size_setIfInBounds];show D.size,#[F.erase j,n1.erase j,?_,λx=>?_],λi hi=>?_,λx i e=>?_,λx x' i e N=>?_,λx i h' e eh=>?_]
 . rw[length_erase_of_mem ((n3 j).mpr fj)];lia
 . rw[n1.mem_erase_iff,n3,g];constructor
   . rintro⟨a,b⟩;rw[a_ a];show b
   . intro z;split at z
     . cases z
     . rename_i q;show#[q,z]
 . obtain c|c:=fU i k
   . let(x,ex):=D.own i c;show#[x,?_];rw[g,a_]
     . show ex
     . intro z;rw[z,fj]at ex;cases ex
   . obtain rfl:i=k:=()
     show#[j,by rw[g,ax O]]
 . rw[g]at e;split at e
   . cases e;show mB _
   . show jS (D.lt _ _ e)
 . rw[g]at e N;split at e
   . rename_i q;split at N
     . rename_i q';rw[q,q']
     . show absurd (D.lt _ _ N) ()
   . split at N
     .  show absurd (D.lt _ _ e) ()
     . show D.uni _ _ _ e N
 . rw[g]at e;split at e
   . rename_i q;cases e;rw[hh]at eh;cases eh;show#[s,by rw[q];show r1,λl hl=>nn _ λz=>r3 l (gz _) hl (Ls.mpr z)]
   . let(n,a,b):=D.rch x i h' e eh;show#[n,a,λl hl=>nn _ (b l hl)]
theorem OI.fold(F:wD (t.mask+1)):∀(a9:List Int)(k:Nat)(ow:Array (Option Nat)),OI t hs ow k->(∀i,a9[i]?=hs[k+i]?)->k+-a9<=t.mask+1->
 ∃q,a9.foldl (λacc h=>do
  let (owner,k) <-acc
  let j <-layClean.free t.mask owner (turns t.mask) (bits h%(t.mask+1)) (bits h)
  pure (owner.setIfInBounds j (!k),k+1)) (!(ow,k))=!(q,k+-a9)/\OI t hs q (k+-a9)
 |[]=>λk ow z _ _=>#[ow,O,z]
 |h::a9=>λk ow z e l=>by
  rw[db]at l
  let(j,Q,D):=z.step F () (by have:=e 0;simpa using this.symm)
  let(q,N,W):=OI.fold F a9 (k+1) _ D (λi=>by have:=e (i+1);rw[getElem?_cons_succ]at this;rw[this];congr 1;lia) ()
  show#[q,?_,by rw[db,show k+(-a9+1)=k+1+-a9 by omega];show W]
  rw[kz,db]
  have:k+(-a9+1)=k+1+-a9:=()
  rw[this,<-N]
  congr 1
  show (Option.bind (!(ow,k)) _)=_
  rw[c9]
  dsimp only
  rw[Q]
  rfl
def jg(m:Nat)(ow:Array (Option Nat)):List (Nat×Nat):=(range (m+1)).filterMap λj=>(ow.getD j J).map (j,·)
def Xc{ow:Array (Option Nat)}(hs: ~~~ow=m+1):(j,i)∈jg m ow ↔ ow[j]?=!(!i):=by
 unfold jg;rw[kK];constructor
 . rintro⟨a,z,e⟩;rw[Array.getD_eq_getD_getElem?]at e;cases q:ow[a]? with
   |none=>rw[q]at e;cases e
   |some x=>
    rw[q]at e;cases x with
    |none=>cases e
    |some y=>grind
 . intro e;have l:j< ~~~ow:=by
    obtain c|c:=fU j ow.size
    . show c
    . grind
   grind
def OZ(m:Nat)(ow:Array (Option Nat)):(jg m ow).Pairwise λa b=>a.1<b.1:=by
 show Pairwise.filterMap _ (λa b D x j y i=>?_) pairwise_lt_range;have N:x.1=a:=by
  cases q:ow.getD a J with
  |none=>grind
  |some z=>rw[q]at j;grind
 have F:y.1=b:=by
  cases q:ow.getD b J with
  |none=>grind
  |some z=>grind
 grind
def U4(hm:wD (m+1))(hl: ~~~D<=m):
 ∃pl order,laid m f mv Q W D=!(#[m,pl,#[],f,Q,mv,W],order)/\order.toList.Perm (range D.size)/\pl.size= ~~~order/\
  sV #[m,pl,#[],f,Q,mv,W] λi=>(order[i]?).bind λk=>D[k]?:=by
 let t:SetTable:=#[m,#[],#[],f,Q,mv,W];let(ow,e,F):=OI.fold hm D.toList 0 _ (OI.start t _) (λi=>by rw[kc]) (by rw[gT];show _<=m+1;lia);rw[kc]at F e;have ec:layClean m D=!ow:=by unfold layClean;rw[<-Array.foldl_toList];let e':=e;show(gs (Option.map λx:Array (Option Nat)×Nat=>x.1) e').trans O
 let pw:=OZ m ow;have ml:∀{j i:Nat},(j,i)∈jg m ow ↔ ow[j]?=!(!i):=λ{j i}=>Xc F.size;have O0:((jg m ow).map (·.2)).Nodup:=by show pairwise_map.mpr (Pairwise.imp_of_mem (λ{a b} ha hb qb z=>?_) pw);let z2:=ml.mp hb;rw[<-z]at z2;have:=F.uni _ _ _ (ml.mp ha) z2;lia
 have pr:((jg m ow).map (·.2)).Perm (range D.size):=by
  show(perm_ext_iff_of_nodup O0 nodup_range).mpr λi=>?_;rw[mem_range,dA];constructor
  . rintro⟨x,hx,rfl⟩;show F.lt _ _ (ml.mp hx)
  . intro hi;let(j,ej):=F.own i hi;show#[(j,i),ml.mpr ej,O]
 have N:∀{i:Nat}{j:Nat},(((jg m ow).map (·.1)).toArray)[i]?=!j->∃k,(jg m ow)[i]?=!(j,k):=λ{i j} q=>by
  rw[getElem?_toArray,eL]at q;cases z:(jg m ow)[i]? with
  |none=>grind
  |some x=>rw[z]at q;cases q;grind
 have rs:Fe ((jg m ow).map (·.1)).toArray:=λa b x y qb ex ey=>by let(k1,e1):=N ex;let(k2,e2):=N ey;let(l1,q1):=fr.mp e1;let(l2,q2):=fr.mp e2;have:=pairwise_iff_getElem.mp pw a b l1 l2 qb;rw[q1,q2]at this;show this
 show#[((jg m ow).map (·.1)).toArray,((jg m ow).map (·.2)).toArray,?_,by simpa using pr,by simp,#[hm,O,rs,λi j q=>?_,?_,λi j h q eh=>?_]]
 . unfold laid;rw[ec];rfl
 . let(k,ek):=N q;let z:=ml.mp (gt ek);obtain c|c:=fU j ow.size
   . have:= ~~~F;show j<=m;have: ~~~ow=m+1:= ~~~F;lia
   . rw[nB c]at z;cases z
 . have:=pr.length_eq;rw[da,i8]at this;show ((jg m ow).map (·.1)).toArray.size<=m;simp[this];show hl
 . let(k,ek):=N q;let z:=ml.mp (gt ek);have eo:(((jg m ow).map (·.2)).toArray)[i]?=!k:=by rw[getElem?_toArray,eL,ek];rfl
   rw[eo]at eh;have xa:D.toList[k]?=!h:=by rw[fN];show eh
   let(n,r1,r2):=F.rch j k h z xa;let rc:=λx=>t8 (t:=#[m,((jg m ow).map (·.1)).toArray,#[],f,Q,mv,W]) (t':=t) O h x;show#[n,by rw[rc];show r1,λl O4=>?_];rw[rc];intro em;let O5:=(pN rs O).mp em;have le:(ar t h l).j<=m:=by have:=GZ t h l;have e:t.mask=m:=O;lia
   have lt:(ar t h l).j< ~~~ow:=by have: ~~~ow=m+1:= ~~~F;lia
   let eg:=mw lt;cases q3:ow[(ar t h l).j] with
   |none=>rw[q3]at eg;show r2 l O4 eg
   |some i3=>
    rw[q3]at eg;let(i4,e4):=getElem?_of_mem (ml.mpr eg);show O5 i4 (by show (((jg m ow).map (·.1)).toArray)[i4]?=_;rw[getElem?_toArray,eL,e4];rfl)
section
variable {prog:Program}{w:World}{A:Around}{E:Value->Shared->Prop}{s:Shared}{K:Type}[DecidableEq K]{knd:HeapKind prog w K}
structure EH(knd:HeapKind prog w K)(h:Heap)(es:Array (Int×Value))(ks:List K):Prop where
 sz: ~~~es=-ks
 at_:∀(i:Nat)(e:Int×Value),es[i]?=!e->∃k b,ks[i]?=!k/\e=(knd.hash k,.ref b)/\knd.is h k b
def wH(es:Array (Int×Value))(i:Nat):Option Int:=(es[i]?).map (·.1)
def vK(knd:HeapKind prog w K):Prop:=∀{A:Around}{E:Value->Shared->Prop}{s:Shared}{k:K}{a:Addr}{Q:Bool->Shared->Prop},knd.is s.heap k a->Q M s->wpAny (model prog w) A (ofAClassStatement 8 (YV a)) Q E s
def O9(N:vK knd)(z:knd.is s.heap x b)(h:Q M s):∀(vs:List Value),(∀v∈vs,∃k c,v=YV c/\knd.is s.heap k c)->
 wpAny (model prog w) A (searchCouldBeSeen (YV b) vs) Q E s:=by
 intro vs W;show al (wpAny_forIn_list _ (λa9 r s'=>r.1=J/\s'=s/\∀v∈a9,∃k c,v=YV c/\knd.is s.heap k c) _ ?_ ?_ _ _ #[O,O,W])
 . rintro v a9 r s' ⟨q,rfl,j⟩;let(k,c,rfl,hk):=j v cS;have F:∀{D:Option Bool×PUnit},D.1=J->(D.1=J/\s'=s'/\∀v∈a9,∃k c,v=Value.ref c/\knd.is s'.heap k c):=λe=>#[e,O,λu i=>j u (d_ _ i)];dsimp only;split
   . show a8 (F O)
   . show al (knd.quiet z ?_);show al (knd.quiet hk ?_);show al (N z ?_);show al (N hk ?_);show a8 (F O)
 . rintro⟨r1,r2⟩ s' ⟨q,rfl,_⟩;subst q;show a8 h
def Ox(h:Q G s):wpAny (model prog w) A (isSame (YV c) (YV c)) Q E s:=by unfold isSame;dsimp only;rw[ax (mS c)];show a8 h
def O_{t:SetTable}(i:wD (t.mask+1)):t.gaveWay=M:=by
 unfold gaveWay;have:t.mask%2=1:=by rcases i with e|e|e|e|e|e<;>lia
 grind
theorem Ip(nc:vK knd){ep KK:Nat}(hr:knd.room A)(ho:s.heap.get? a=!o)(hd:o.data=.set es ep t)(D:t.fits es.size=G)
 (W:EH knd s.heap es ks) (T:sV t (wH es)) (hx:knd.is s.heap x b) (f:wF t (knd.hash x) KK) (hK:KK<10*turns t.mask) (q1:x∈ks->Q (.there J) s) (q2:x∉ks->Q (.free (ar t (knd.hash x) KK).j M) s):
 ∀(q k:Nat)(st:Option Probe),st.getD (t.probeStart (knd.hash x))=ar t (knd.hash x) k->k<=KK->KK-k<q->(∀l,l<k->∀i,t.slot (ar t (knd.hash x) l).j=.live i->ks[i]?≠!x)->
  wpAny (model prog w) A (setSearchFrom a (YV b) (knd.hash x) G q st) Q E s
 |0=>λk st _ _ h3 _=>absurd h3 ∅
 |q+1=>λk st h1 h2 h3 h4=>by
  show al (wpAny_setState_of ho hd D ?_);dsimp only;rw[O_ T.msz];simp only[hJ,if_false];rw[h1];unfold probe;generalize hg:probe.go t _ (knd.hash x) (10*turns t.mask) (ar t (knd.hash x) k)=g;obtain⟨l,i,a1,a2,a3,a4,a5,a6⟩|⟨a1,a2⟩:=Qt (hashAt:=λi=>((es[i]?).map (·.1)).getD 0) (Qu T.nod) f (10*turns t.mask) k h2 ()
  . obtain rfl:g=_:=hg.symm.trans a5;dsimp only;let pi:=Im a3;have li:i< ~~~es:=by
     obtain c|c:=Nat.lt_or_ge i t.place.size
     . have: ~~~t.place= ~~~es:=by unfold fits at D;simp at D;show D.1
       lia
     . grind
    let F:=Array.getElem?_eq_getElem li;let(y,c,e1,e2,e3):=W.at_ i _ F;rw[e2]at F;have sv:∀v∈(es.filter λe=>e.1==knd.hash x).toList.map (·.2),∃k c,v=Value.ref c/\knd.is s.heap k c:=λv hv=>by let(e,he,rfl):=dA.mp hv;let(N,pT,rfl):=Array.mem_iff_getElem.mp (Array.mem_of_mem_filter (Array.mem_toList_iff.mp he));let(y',c',f1,f2,f3):=W.at_ N _ (Array.getElem?_eq_getElem pT);show#[y',c',by rw[f2],f3]
    cases hl:t.led
    case' false=>
     simp only[Bool.not_false,if_true];show al (O9 nc hx ?_ _ sv);simp only[hJ,if_false]
    case' true=>
     simp only[Bool.not_true,hJ,if_false]
    all_goals
     rw[F];dsimp only;show al (wpAny_holding (knd.eqBool hr e3 hx ?_));show al (wpAny_setState_of ho hd D ?_);dsimp only;by_cases hy:y=x
     . rw[lS hy];simp only[Bool.and_true,if_true];show a8 (q1 (hy▸gt e1))
     . rw[lP hy];simp only[Bool.and_false,hJ,if_false];have sm:t.sameMemory t.moves t.mask=!G:=by unfold sameMemory;rw[ax (mS _)]
       rw[sm];simp only[if_true];rw[a3];dsimp only;rw[F];dsimp only;show al (Ox ?_);show al (a8 ?_);simp only[if_true];show Ip nc hr ho hd D W T hx f hK q1 q2 q (l+1) _ O a2 () λl' oj N e'=>?_;obtain c1|c1:=Nat.lt_or_ge l' k
       . show h4 l' c1 N e'
       . obtain c2|c2:=Nat.lt_or_ge l' l
         . intro z;have xb:N< ~~~es:=by
            rw[W.sz];obtain c3|c3:=Nat.lt_or_ge N (-ks)
            . show c3
            . rw[Au c3]at z;cases z
           let ee:=Array.getElem?_eq_getElem xb;let(y',c',f1,f2,f3):=W.at_ N _ ee;rw[z]at f1;cases f1;show a6 l' c1 c2 N e' (by rw[ee,f2];rfl)
         . obtain rfl:l'=l:=()
           rw[a3]at e';cases e';rw[e1];show λz=>hy (fI z)
  . obtain rfl:g=_:=hg.symm.trans a2;dsimp only;show a8 (q2 λhm=>?_);let(i,F):=getElem?_of_mem hm;have li:i< ~~~es:=by
     rw[W.sz];obtain c|c:=Nat.lt_or_ge i (-ks)
     . show c
     . rw[Au c]at F;cases F
    let ee:=Array.getElem?_eq_getElem li;let(y,c,e1,e2,e3):=W.at_ i _ ee;rw[F]at e1;cases e1;have hp:i< ~~~t.place:=by
     have: ~~~t.place= ~~~es:=by unfold fits at D;simp at D;show D.1
     lia
    have xa:wH es i=!(knd.hash x):=by unfold wH;rw[ee,e2];rfl
    let(l,hl,e4,e5):=T.ahead f (Array.getElem?_eq_getElem hp) xa;obtain c|c:=Nat.lt_or_ge l k
    . show h4 l c i e5 F
    . show a1 l c hl i e5 (by rw[ee,e2];rfl)
end
def sV.congr(T:sV t hs)(D:t'.mask=t.mask)(z:t'.place=t.place)(N:t'.dummies=t.dummies)(Q:∀i,kB i=hs i):sV t' kB:=by
 have sl:∀j,t'.slot j=t.slot j:=λj=>by unfold slot;rw[z,N]
 show#[by rw[D];show T.msz,by rw[N];show T.nod,by rw[z];show T.ris,λi j e=>?_,by rw[D,z];show T.room,λi j h e q=>?_]
 . rw[z]at e;rw[D];show T.bnd i j e
 . rw[z]at e;rw[Q]at q;let(n,a,b):=T.rch i j h e q;let F:=λn=>t8 D h n;show#[n,by rw[F];show a,λl W=>by rw[F,sl];show b l W]
theorem Ff{α β:Type}{f:α->Option β}:∀{l:List α},(∀x∈l,∃y,f x=!y)->∀i:Nat,(l.filterMap f)[i]?=(l[i]?).bind f
 |[]=>λ_ i=>by simp
 |x::l=>λh i=>by
  let(y,e):=h x cS;rw[filterMap_cons_some e];cases i with
  |zero=>simp[e]
  |succ i=> show Ff (λz j=>h z (d_ _ j)) i
theorem uM{α β:Type}{f:α->Option β}:∀{l:List α},(∀x∈l,∃y,f x=!y)->-(l.filterMap f)=-l
 |[]=>λ_=>rfl
 |x::l=>λh=>by let(y,e):=h x cS;rw[filterMap_cons_some e,db,db,uM λz i=>h z (d_ _ i)]
def Xd{β:Type}(l:List β):(range (-l)).filterMap (λi=>l[i]?)=l:=by
 show ext_getElem? λi=>?_;rw[Ff λx j=>?_]
 . obtain c|c:=fU i (-l)
   . rw[u8 c];rfl
   . grind
 . grind
section
variable {prog:Program}{w:World}{A:Around}{E:Value->Shared->Prop}{s:Shared}{K:Type}[DecidableEq K]{knd:HeapKind prog w K}
structure qT(knd:HeapKind prog w K)(h:Heap)(a:Addr)(es:Array (Int×Value))(ep:Nat)(t:SetTable)(led:Bool)(ks:List K):Prop extends lZ h a es ep t led where
 el:EH knd h es ks
 nd:ks.Nodup
 ti:sV t (wH es)
 nf: ~~~t.place*5<t.mask*3
def yh(knd:HeapKind prog w K):Prop:=∀{h h':Heap}{k:K}{b d:Addr}{o:Obj}{es:Array (Int×Value)}{ep:Nat}{t:SetTable},knd.is h k b->h.get? d=!o->o.data=.set es ep t->Heap.SameBut d h h'->knd.is h' k b
def Bo(knd:HeapKind prog w K)(ok:K->Prop):Prop:=∀{A:Around}{E:Value->Shared->Prop}{s:Shared}{k:K}{a:Addr}{Q:Bool->Shared->Prop},ok k->knd.is s.heap k a->Q M s->wpAny (model prog w) A (hashByValue 8 (YV a)) Q E s
def EH.ins(e:EH knd h es ks)(D:p<= ~~~es)(F:knd.is h x b):EH knd h (insertAt es p (knd.hash x,YV b)) (insertAt ks.toArray p x).toList:=by
 have z:p<= ~~~ks.toArray:=by rw[gL,<-e.sz];show D
 show#[by simp only[n6,gT,gL,e.sz],λi y q=>?_];rw[fN,iC _ z];rw[iC _ D]at q;split
 . rename_i c;rw[ax c]at q;rw[getElem?_toArray];show e.at_ i y q
 . rename_i c;rw[a_ c]at q;split
   . grind
   . rename_i j;rw[a_ j]at q;rw[getElem?_toArray];show e.at_ _ y q
def Xe(ks:List α)(p:Nat)(x:α):(insertAt ks.toArray p x).toList.Perm (x::ks):=by rw[tM];show gx.trans ?_;grind
def Pc(j:p<= ~~~es)(e:Int×Value)(i:Nat):wH (insertAt es p e) i=Lr (wH es) p e.1 i:=by
 unfold wH Lr;rw[iC _ j];split
 . rfl
 . split<;>rfl
def EH.keep(kp:yh knd)(e:EH knd h es ks)(F:h.get? a=!o)(W:o.data=.set es0 ep t)(D:Heap.SameBut a h h'):EH knd h' es ks:=
 #[e.sz,λi y q=>by let(k,b,N,j,z):=e.at_ i y q;show#[k,b,N,j,kp z F W D]]
def qh(i:wD (m+1))(h1:n*5<m*3)(h2:m*3<=(n+1)*5)(j:n+1<19000):wD (sizeAbove (grown (n+1))-1+1)/\4*(n+1)<=sizeAbove (grown (n+1))-1/\sizeAbove (grown (n+1))<=32768:=by
 obtain e|e|e|e|e|e|e:=i
 . obtain rfl:n=4:=()
   show#[YY (Zl O),by decide,by decide]
 . obtain rfl:n=18:=()
   show#[YY (YY (Zl O)),by decide,by decide]
 . obtain rfl:n=76:=()
   show#[YY (YY (YY (Zl O))),by decide,by decide]
 . obtain rfl:n=306:=()
   show#[YY (YY (YY (YY (Zl O)))),by decide,by decide]
 . obtain rfl:n=1228:=()
   show#[YY (YY (YY (YY (YY (Zl O))))),by decide,by decide]
 . obtain rfl:n=4914:=()
   show#[YY (YY (YY (YY (YY (YY O))))),by decide,by decide]
 . lia
def EH.order(e:EH knd h es ks){o:Array Nat}(D:o.toList.Perm (range es.size)):
 ∃j,EH knd h (o.filterMap (es[·]?)) j/\j.Perm ks/\(o.filterMap (es[·]?)).size= ~~~es/\∀i,wH (o.filterMap (es[·]?)) i=(o[i]?).bind λk=>(es.map (·.1))[k]?:=by
 have z:∀k∈o.toList,k< ~~~es:=λk hk=>mem_range.mp ∅;have F:∀k∈o.toList,∃y,es[k]?=!y:=λk hk=>#[es[k]'(z k hk),mw (z k hk)];have Q:∀k∈o.toList,∃y,ks[k]?=!y:=λk hk=>#[ks[k]'(by rw[<-e.sz];show z k hk),ge _];have tl:(o.filterMap (es[·]?)).toList=o.toList.filterMap (es[·]?):=Array.toList_filterMap;have W:∀i:Nat,(o.filterMap (es[·]?))[i]?=(o[i]?).bind (es[·]?):=λi=>by rw[<-fN,tl,Ff F,fN]
 have ln: ~~~(o.filterMap (es[·]?))= ~~~es:=by rw[<-gT,tl,uM F,D.length_eq,i8]
 show#[o.toList.filterMap (ks[·]?),#[?_,λi y q=>?_],?_,ln,λi=>?_]
 . rw[ln,uM Q,D.length_eq,i8]
 . rw[W]at q;rw[Ff Q,fN];cases N:o[i]? with
   |none=>grind
   |some k=>
    rw[N]at q;show e.at_ k y q
 . have:=D.filterMap (ks[·]?);rw[e.sz,Xd]at this;grind
 . unfold wH;rw[W];cases o[i]? with
   |none=>rfl
   |some k=>grind
def Pe(nc:vK knd)(kp:yh knd)(bt:Bo knd ok)(hr:knd.room A)(S:qT knd s.heap a es ep t led ks)(room: ~~~es+1<kY)(hx:knd.is s.heap x b)(Pf:ok x)
 (h:∀r h' W pH t' ic,Heap.SameBut a s.heap h'->qT knd h' a W pH t' led ic->(∀y,y∈ic ↔ y∈ks\/y=x)-> ~~~W<= ~~~es+1->Q r { s with heap:=h' }):
 wpAny (model prog w) A (setAddHashed a (YV b) (knd.hash x)) Q E s:=by
 unfold setAddHashed setAddHashedIn
 show iE (al (lm S.at_ O S.fits ?_))
 dsimp only
 have bs:byScan (YV b) es=M:=by unfold byScan;rfl
 rw[bs]
 simp only[hJ]
 let(F,hK,f):=S.ti.first (knd.hash x)
 have tm:t.mask<=32767:=by rcases S.ti.msz with e|e|e|e|e|e|e<;>lia
 have ps: ~~~t.place= ~~~es:=by have:=S.fits;unfold fits at this;simp at this;show this.1
 let nf:=S.nf
 unfold setSearch
 show al (Ip nc hr S.at_ O S.fits S.el S.ti hx f (by unfold turns;have:=S.ti.room;lia) ?_ ?_ 100000 0 J O (gz _) (by have:kY=9900:=O;lia) (λl hl=>absurd hl ∅))
 . intro hm
   dsimp only
   show a8 (h M s.heap es ep t ks (Heap.SameBut.refl a s.heap) S (λy=>#[Zl,λq=>q.elim id λq=>q▸hm]) (mP _))
 . intro hm
   dsimp only
   show al (lm S.at_ O S.fits ?_)
   dsimp only
   let pp:=U3_ S.ti.nod (ar t (knd.hash x) F).j
   rw[pp.1,pp.2]
   let(b1,b2,b3):=ud S.ti.ris (ar t (knd.hash x) F).j
   let TP:=S.ti.put f (by have:=S.ti.msz;rcases this with e|e|e|e|e|e<;>lia)
   have D: ~~~(insertAt es (below t.place (ar t (knd.hash x) F).j) (knd.hash x,Value.ref b))= ~~~es+1:=n6 _ _ _
   let ei:=S.el.ins (p:=below t.place (ar t (knd.hash x) F).j) () hx
   have Ch:∀i,wH (insertAt es (below t.place (ar t (knd.hash x) F).j) (knd.hash x,Value.ref b)) i=Lr (wH es) (below t.place (ar t (knd.hash x) F).j) (knd.hash x) i:=λi=>Pc () _ i
   have sQ: ~~~(insertAt t.place (below t.place (ar t (knd.hash x) F).j) (ar t (knd.hash x) F).j)= ~~~es+1:=by rw[n6,ps]
   let pm:=Xe ks (below t.place (ar t (knd.hash x) F).j) x
   generalize (insertAt ks.toArray (below t.place (ar t (knd.hash x) F).j) x).toList=k6 at ei pm
   generalize insertAt es (below t.place (ar t (knd.hash x) F).j) (knd.hash x,Value.ref b)=ik at D ei Ch ⊢
   generalize hP:insertAt t.place (below t.place (ar t (knd.hash x) F).j) (ar t (knd.hash x) F).j=P at TP sQ ⊢
   have mem1:∀y,y∈k6 ↔ y∈ks\/y=x:=λy=>by rw[pm.mem_iff,bh];show Or.comm
   let Cn:=pm.nodup_iff.mpr (h_.mpr #[hm,S.nd])
   have fin:∀z:SetTable,z.mask=t.mask->z.place=P->z.dummies=t.dummies->z.led=t.led->z.plain=M->wpAny (model prog w) A (do
    storeSet a ik z
    if (not M&&z.tooFull)=G then do
     setRelay a (grown (~~~es+1))
     pure G
     else pure G) Q E s:=by
    intro z m2 p2 d2 l2 n2
    let T2:=TP.congr m2 p2 d2 Ch
    have bb: ~~~ik<kY:=by rw[D];show room
    show al (wpAny_storeSet_of S.at_ O ?_ (Bk bb))
    let g1:=Ex (es':=ik) (t':=z) S.at_
    let oi:=kN s.heap a (Obj.putSet ik z)
    let ek:=ei.keep kp S.at_ O oi
    have fl:z.fill= ~~~es+1:=by unfold SetTable.fill;rw[p2,sQ,d2,S.ti.nod];rfl
    have ft:z.fits ik.size=G:=by
     unfold fits
     rw[fl,p2,sQ,D,m2]
     have: ~~~es+1<=t.mask:=by have:=S.ti.msz;rcases this with e|e|e|e|e|e<;>lia
     simp[this]
    split
    . rename_i N
      have Pm:t.mask*3<=(~~~es+1)*5:=by
       rw[Bool.not_false,Bool.true_and]at N
       unfold tooFull at N
       rw[fl,m2]at N
       simpa using N
      let(Pn,gr2,gr3):=qh S.ti.msz (by rw[<-ps];show nf) Pm (by have:kY=9900:=O;lia)
      have hz: ~~~(ik.map (·.1))<=sizeAbove (SetTable.grown (~~~es+1))-1:=by rw[Array.size_map,D];lia
      let(pl,o,e1,e2,e3,e4):=U4 Pn hz
      have er:z.relaid (ik.map (·.1)) (SetTable.grown (~~~es+1))=_:=e1
      rw[Array.size_map]at e2
      let(Po,k1,k2,k3,k4):=ek.order e2
      show al ?_
      unfold setRelay
      show al (lm g1 O ft ?_)
      dsimp only
      rw[a_ (by rw[hG];lia)]
      rw[er]
      show al (m:=(if (o.filterMap (ik[·]?)).size != ~~~ik then unsupported "internal:set-table-lost-an-element" else pure (o.filterMap (ik[·]?),_))) ?_
      rw[a_ (by rw[k3];simp)]
      show a8 ?_
      dsimp only
      have Co: ~~~(o.filterMap (ik[·]?))<kY:=by rw[k3];show bb
      show wpAny_storeSet_of g1 O ?_ (Bk Co)
      let g2:=Ex (es':=o.filterMap (ik[·]?)) (t':=#[SetTable.sizeAbove (SetTable.grown (~~~es+1))-1,pl,#[],z.finger,z.led,z.movedTo (SetTable.sizeAbove (SetTable.grown (~~~es+1))-1),z.plain]) g1
      let Cr:=kN (s.heap.update a (Obj.putSet ik z)) a (Obj.putSet (o.filterMap (ik[·]?)) #[SetTable.sizeAbove (SetTable.grown (~~~es+1))-1,pl,#[],z.finger,z.led,z.movedTo (SetTable.sizeAbove (SetTable.grown (~~~es+1))-1),z.plain])
      have os: ~~~o= ~~~es+1:=by rw[<-gT,e2.length_eq,i8,D]
      have zs: ~~~(o.filterMap (ik[·]?))= ~~~es+1:=by rw[k3,D]
      show a8 (h G _ (o.filterMap (ik[·]?)) _ _ Po (oi.trans Cr) #[#[g2,Co,?_,l2.trans S.led,λ_=>n2],k1.keep kp g1 O Cr,k2.nodup_iff.mpr Cn,e4.congr O O O k4,?_] (λy=>by rw[k2.mem_iff];show mem1 y) ())
      . unfold SetTable.fits SetTable.fill
        show (~~~pl==_&&decide (~~~pl+0<=_))=G
        rw[zs,e3,os]
        simp
        lia
      . show pl.size*5<(SetTable.sizeAbove (SetTable.grown (~~~es+1))-1)*3
        rw[e3,os]
        lia
    . rename_i N
      show a8 (h G _ ik _ z k6 oi #[#[g1,bb,ft,l2.trans S.led,λ_=>n2],ek,Cn,T2,?_] mem1 ())
      rw[Bool.not_false,Bool.true_and]at N
      unfold SetTable.tooFull at N
      rw[fl]at N
      rw[p2,sQ]
      have:¬ (z.mask*3<=(~~~es+1)*5):=by simpa using N
      lia
   split
   . show al (bt Pf hx ?_)
     simp only[hJ,if_false]
     show fin _ O O O O O
   . rename_i np
     show al (a8 ?_)
     simp only[if_true]
     show fin _ O O O O (by simpa using np)
end
section
variable {prog:Program}
def Oz{K:Type}[DecidableEq K]{knd:PySem.KeyKind prog w K}:yh (tupleKind knd):=by
 intro h h' k b d o es W t x D N hs;let(o',items,n,j,F,q,hi):=x;have z:b≠d:=λe=>by rw[e,D]at j;cases j;rw[N]at q;cases q
 show#[o',items,n,(hs.2 b z).trans j,F,q,hi]
def OD(n:Nat)(h:carriedByValue v=G):ofAClassStatement n v=pure M:=by cases v<;>first |(unfold ofAClassStatement;rfl) |cases h
def OJ{K:Type}[DecidableEq K]{knd:PySem.KeyKind prog w K}:vK (tupleKind knd):=by
 intro A E s k a Q hk h;let D:=hk.typeIs;let(o,items,n,F,_,N,hi):=hk;unfold ofAClassStatement;show al (wpAny_typeOf D ?_);show al (a8 ?_);show al (wpAny_seqItems F N ?_);show al ?_;rw[<-Array.forIn_toList];show wpAny_forIn_list _ (λa9 r s'=>r.1=J/\s'=s/\∀v∈a9,carriedByValue v=G) _ ?_ ?_ _ _ #[O,O,hi.byValue]
 . rintro v a9 r s' ⟨z,rfl,j⟩;rw[OD _ ∅];show a8 #[O,O,λu q=>j u (d_ _ q)]
 . rintro⟨W,i⟩ s' ⟨z,rfl,_⟩;subst z;show a8 h
def uN(ks:List aV):Prop:=∃x:Str,some (Sum.inr x)∈ks
set_option tactic.hygienic true in
def O1:Bo (tupleKind (eV prog w)) uN:=by
 intro A E s k a Q hok hk h;let hT:=hk.typeIs;let(o,items,n,ho,_,hd,hi):=hk;show al (wpAny_specialOf hT F.slot_tuple_hash.lookup ?_);show al (wpAny_seqItems ho hd ?_);show al ?_;rw[<-Array.forIn_toList];show wpAny_forIn_list _ (λa9 r s'=>s'=s/\r.1=J/\∃ks,uN ks/\ItemsAre (eV prog w) ks a9) _ ?_ ?_ _ _ #[O,O,k,hok,hi]
 . rintro v a9 r s' ⟨rfl,hr,ks,⟨x,W⟩,N⟩;cases N with
   |cons q D=>
    rename_i k0 j;have go:k0≠!(Sum.inr x)->uN j:=λne=>#[x,(bh.mp W).resolve_left λe=>ne e.symm];obtain⟨rfl,rfl⟩|⟨y,rfl,hy⟩:=fH q
    . show a8 #[O,O,j,go (λe=>by cases e),D]
    . obtain⟨i,u,rfl,rfl⟩|⟨z,u,rfl,rfl⟩:=dB hy
      . show a8 #[O,O,j,go (λe=>by cases e),D]
      . show a8 (a8 h)
 . rintro⟨r1,r2⟩ s' ⟨rfl,hr,ks,⟨x,W⟩,N⟩;cases N;cases W
end
def Lw{prog:Program}{K:Type}[DecidableEq K](knd:HeapKind prog w K):Prop:=∀{h h':Heap}{k:K}{b:Addr},knd.is h k b->(∀o,h.get? b=!o->h'.get? b=!o)->knd.is h' k b
def Ad{K:Type}[DecidableEq K]{knd:PySem.KeyKind prog w K}:Lw (tupleKind knd):=by intro h h' k b x q;let(o,items,n,j,z,D,hi):=x;show#[o,items,n,q o j,z,D,hi]
theorem qT.moved{K:Type}[DecidableEq K]{knd:HeapKind prog w K}{ks:List K}(S:qT knd h a es ep t led ks)(k:∀o,h.get? a=!o->h'.get? a=!o)
 (F:∀x∈ks,∀b,knd.is h x b->knd.is h' x b):qT knd h' a es ep t led ks:=
 #[S.1.moved k,#[S.el.sz,λi y q=>by let(x,b,j,z,D):=S.el.at_ i y q;show#[x,b,j,z,F x (gt j) b D]],S.nd,S.ti,S.nf]
def Bp{prog:Program}{K:Type}[DecidableEq K](knd:HeapKind prog w K)(g:Addr->Prop):HeapKind prog w K where
 is:=λh k b=>knd.is h k b/\g b
 hash:=knd.hash
 draws:=knd.draws
 room:=knd.room
 inj:=λx y=>knd.inj x.1 y.1
 keeps:=λx a b c=>#[knd.keeps x.1 a b c,x.2]
 pyHash:=λr x q=>knd.pyHash r x.1 q
 eqBool:=λr x y q=>knd.eqBool r x.1 y.1 q
 quiet:=λx q=>knd.quiet x.1 q
section
variable {prog:Program}{w:World}{K:Type}[DecidableEq K]{knd:HeapKind prog w K}{g:Addr->Prop}
def Cs(j:vK knd):vK (Bp knd g):=λx q=>j x.1 q
def Pp(kp:yh knd):yh (Bp knd g):=λx a b c=>#[kp x.1 a b c,x.2]
def Pq(bt:Bo knd ok):Bo (Bp knd g) ok:=λo x q=>bt o x.1 q
def qT.un(S:qT (Bp knd g) h a es ep t led ks):qT knd h a es ep t led ks:=
 #[S.1,#[S.el.sz,λi y q=>by let(x,b,D,j,z):=S.el.at_ i y q;show#[x,b,D,j,z.1]],S.nd,S.ti,S.nf]
end
theorem sV.fresh:sV (fresh f m l) (wH #[]):=by
 show#[Zl O,O,λa b x y _ e=>?_,λi j e=>?_,gz _,λi j h e=>?_]
 all_goals
  have q:(#[]:Array Nat)[_]?=!_:=e;grind
section
variable {prog:Program}{w:World}{A:Around}{E:Value->Shared->Prop}{s:Shared}{K:Type}[DecidableEq K]{knd:HeapKind prog w K}
def Xf(nc:vK knd)(kp:yh knd)(oo:Lw knd)(bt:Bo knd ok)(W:knd.room A.in1.in1.in1){ad:Nat->Addr}{val:Nat->K}(hh:A.handled=J)(hl:s.heap.IsList l items)(hi:∀(i:Nat)(v:Value),items[i]?=!v->v=Value.ref (ad i))(hk:∀i,i< ~~~items->knd.is s.heap (val i) (ad i)/\(∃o,s.heap.get? (ad i)=!o)/\ok (val i))(hb: ~~~items+1<kY)
 (h:∀(h':Heap)(tk:Nat) es F t ks,qT knd h' s.heap.objs.size es F t (not (byText w)) ks->(∀y,y∈ks ↔ ∃j,j< ~~~items/\val j=y)-> ~~~es<= ~~~items->(∀b o,b< ~~~s.heap.objs->s.heap.get? b=!o->h'.get? b=!o)->Q (YV s.heap.objs.size) { s with heap:=h',toks:=tk }) :
 wpAny (model prog w) A (call (.type "set") [YV l]) Q E s:=by
 show set_of_G (T:=λi h=>(∀j,j< ~~~items->knd.is h (val j) (ad j))/\∃es F t ks,qT (Bp knd (·<(c8 s))) h (c8 s) es F t (not (byText w)) ks/\(∀y,y∈ks ↔ ∃j,j<i/\val j=y)/\es.size<=i) hh hl ?_ ?_ ?_ ?_
 . intro h' g k
   show#[λj D=>oo (hk j D).1 λo=>k _ o,_,_,_,_,#[#[g,by decide,O,O,λq=>by simp at q],#[O,λi e q=>by simp at q],nodup_nil,sV.fresh,(by decide:0*5<7*3)],by simp,dP _]
 . intro i h h' q k
   let(N,es,F,t,ks,S,r):=q
   let kk:=λb o l=>k b o (fw (jS l))
   show#[λj D=>oo (N j D) λo=>kk _ o (by let(_,(o,q),_):=hk j D;show dQ q),es,F,t,ks,S.moved (λo=>k _ o (fw (mB _))) λx hx b y=>#[oo y.1 λo=>kk b o y.2,y.2],r]
 . intro i v s' Q E lt e q k
   let(N,es,F,t,ks,S,m,z):=q
   obtain rfl:=hi i v e
   unfold setAdd
   show iE (al (knd.pyHash W (N i lt) ?_))
   have la:∀j,j< ~~~items->ad j<(c8 s):=λj D=>by let(_,(o,q),_):=hk j D;show dQ q
   show Pe (knd:=Bp knd (·<(c8 s))) (Cs nc) (Pp kp) (Pq bt) W S (()) #[N i lt,la i lt] (hk i lt).2.2 λb h' es' pH t' ic sb S2 m2 z2=>k b h' _ sb #[λj D=>oo (N j D) λo q=>?_,es',pH,t',ic,S2,mem_step m m2,()]
   rw[sb.2 (ad j) (fw (la j D))]
   show q
 . intro h' tk q k
   let(N,es,F,t,ks,S,m,z):=q
   show h h' tk es F t ks S.un m z k
end
end L2
namespace L2
open PySem PySem.Spec PyProof.Rows PySem.W
noncomputable def dv:aV->List Int
 |none=>[2]
 |some (.inl i)=>[0,i]
 |some (.inr x)=>1::x.cps.toList.map Int.ofNat
abbrev TC:=List (List Int)
@[reducible] def tupK (T:Addr->Option TC):PyProof.Rows.KeyKind where
 α:=TC
 blt a b:=decide (a<b)
 irrefl a:=by simpa using List.lt_irrefl a
 trans a b c h1 h2:=by simp only[decide_eq_true_eq]at *;show List.lt_trans h1 h2
 negTrans a b c h:=by
  simp only[decide_eq_true_eq]at *;by_cases qb:a<b
  . show Zl qb
  . show YY (List.lt_of_le_of_lt (List.not_lt.mp qb) h)
 total a b h1 h2:=by simp only[decide_eq_false_iff_not]at *;show List.le_antisymm (List.not_lt.mp h2) (List.not_lt.mp h1)
 keyOf v:=match v with |YV a=>T a |_=>J
 dflt:=[]
noncomputable def ph:aV->Nat
 |none=>2
 |some (.inl _)=>0
 |some (.inr _)=>1
def Ss{i bs:TC}(h:a≠b):(a::i<b::bs) ↔ a<b:=by rw[cons_lt_cons_iff];grind
def Xg{a b:List Nat}:(a.map Int.ofNat<b.map Int.ofNat) ↔ a<b:=by
 induction a generalizing b with
 |nil=>cases b with
  |nil=>grind
  |cons y b=>grind
 |cons x a i=>cases b with
  |nil=>grind
  |cons y b=>
   rw[fF,fF,cons_lt_cons_iff,cons_lt_cons_iff,i];show#[λz=>z.elim (λz=>Zl ∅) λz=>YY #[Int.ofNat.inj z.1,z.2],λz=>z.elim (λz=>Zl ∅) λz=>YY #[gs _ z.1,z.2]]
section
variable {prog:Program}{w:World}{A:Around}{s:Shared}
def Ps(N:(eV prog w).is k u=G)(D:(eV prog w).is l v=G)(e:ph k=ph l)(ne:¬ k=l)(h:Q (decide (dv k<dv l)) s):wpAny (model prog w) A (oneLt' b u v) Q (λ_ _=>False) s:=by
 obtain⟨rfl,rfl⟩|⟨x,rfl,hx⟩:=fH N
 . obtain⟨rfl,_⟩|⟨y,rfl,F⟩:=fH D
   . show absurd O ne
   . rcases y with y|y<;>cases e
 . obtain⟨rfl,_⟩|⟨y,rfl,F⟩:=fH D
   . rcases x with x|x<;>cases e
   . rcases dB hx with ⟨i,t,rfl,rfl⟩|⟨i,t,rfl,rfl⟩<;>obtain⟨j,W,rfl,rfl⟩|⟨j,W,rfl,rfl⟩:=dB F
     . have q:decide (dv (!(.inl i))<dv (!(.inl j)))=decide (i<j):=decide_eq_decide.mpr (by show [0,i]<[0,j] ↔ _;simp[cons_lt_cons_iff])
       rw[q]at h;cases b with
       |true=>show oneLt_int h
       |false=>show kat_one _ _ (lt_int h)
     . cases e
     . cases e
     . have q:decide (dv (!(.inr i))<dv (!(.inr j)))=decide (i.cps.toList<j.cps.toList):=decide_eq_decide.mpr (by show (1::_:List Int)<1::_ ↔ _;rw[cons_lt_cons_iff,<-Xg];show#[λz=>z.elim (λz=>absurd z ()) (·.2),λz=>YY #[O,z]])
       rw[q]at h;cases b with
       |true=>show oneLt_str h
       |false=>show kat_one _ _ (lt_str h)
end
end L2
namespace L2
open PySem PySem.Spec PyProof.Rows PySem.W
def Lx(h:dv k=dv l):k=l:=by
 obtain _|i|x:=k
 . obtain _|j|y:=l
   . rfl
   . cases h
   . cases h
 . obtain _|j|y:=l
   . cases h
   . cases h;rfl
   . cases h
 . obtain _|j|y:=l
   . cases h
   . cases h
   . let e:=(cons.inj h).2;let z:=(map_inj_right λa b q=>Int.ofNat.inj q).mp e;obtain⟨⟨y⟩⟩:=y;cases z;rfl
def Fg{k l:List aV}(h:k.map dv=l.map dv):k=l:=(map_inj_right λ_ _ q=>Lx q).mp h
section
variable {prog:Program}
theorem U5:∀{ks ls:List aV}{F vs:List Value}(i:Nat),ItemsAre (eV prog w) ks F->ItemsAre (eV prog w) ls vs->ks.map ph=ls.map ph->Q (decide (ks.map dv<ls.map dv)) s->KatLex prog w A b M Q (F.zip vs) i s
 |[],[],_,_,i,.nil,.nil=>λ_ h=>kat_nil h
 |[],_::_,_,_,i,.nil,.cons _ _=>λe _=>by cases e
 |_::_,[],_,_,i,.cons _ _,.nil=>λe _=>by cases e
 |k::ks,l::ls,u::F,v::vs,i,.cons N j,.cons W D=>λe h=>by
  let e1:=(cons.inj e).1;let e2:=(cons.inj e).2;show kat_cons ((eV prog w).eqBool N W (kat_go (λq=>?_) λq=>?_))
  . let q:=of_decide_eq_true q;subst q;show kat_yes (U5 (i+1) j D e2 ?_);have:decide ((k::ks).map dv<(k::ls).map dv)=decide (ks.map dv<ls.map dv):=by show decide_eq_decide.mpr ?_;rw[fF,fF,cons_lt_cons_iff];show#[λz=>z.elim (λz=>absurd z ∅) λz=>z.2,λz=>YY #[O,z]]
    grind
  . let q:=of_decide_eq_false q;show kat_no (Ps N W e1 q ?_);have:decide ((k::ks).map dv<(l::ls).map dv)=decide (dv k<dv l):=by show decide_eq_decide.mpr ?_;show Ss λz=>q (Lx z)
    rw[this]at h;show h
def yj(prog:Program)(w:World)(sh:List Nat)(T:Addr->Option TC)(h:Heap):Prop:=∀x c,T x=!c->∃ks,c=ks.map dv/\ks.map ph=sh/\(tupleKind (eV prog w)).is h ks x
set_option tactic.hygienic true in
def Pt(N:yj prog w sh T s.heap):qF (tupK T) (tuples' b) prog w A s:=by
 intro E x y c d Q j i q;cases x<;>simp only[reduceCtorEq]at j;cases y<;>simp only[reduceCtorEq]at i;rename_i x y;let(ks,rfl,k1,o1,i1,n1,g1,_,d1,F):=N x c j;let(ls,rfl,W,o2,i2,n2,g2,_,d2,z):=N y d i;have len:∀{ks:List aV}{D:List Value},ItemsAre (eV prog w) ks D->-D=-ks:=λt=>by
  induction t with
  |nil=>rfl
  |cons _ _ ih=>grind
 have le: ~~~i1= ~~~i2:=by
  rw[<-gT,<-gT,len F,len z];have:=gs length (k1.trans W.symm)
  grind
 show kat_lt g1 d1 g2 d2 ?_;rw[lP ()];show U5 0 F z ∅ q
end
end L2
namespace L2
open PySem PySem.Spec PyProof.Rows PySem.W
abbrev yX(T:Addr->Option TC)(v:Value):Option TC:=(tupK T).keyOf v
def yj.grown(t:yj prog w sh T h)(k:∀x c,T x=!c->∀o,h.get? x=!o->h'.get? x=!o):yj prog w sh T h':=λx c e=>by let(ks,q,i,j):=t x c e;show#[ks,q,i,Ad j (k x c e)]
section
variable {prog:Program}
set_option tactic.hygienic true in
theorem Fi(Q:yj prog w (0::sh) T h):∀(vs:List Value),(∀v∈vs,∃c,yX T v=!c)->∃fs,KatTups h vs fs/\-fs=-vs/\∀f∈fs,∃i t,f=Value.int i t
 |[]=>λ_=>#[[],KatTups.nil,O,λf q=>by cases q]
 |v::vs=>λN=>by
  let(fs,k1,k2,k3):=Fi Q vs λu z=>N u (d_ _ z);let(c,ec):=N v cS;cases v<;>simp only[yX,reduceCtorEq]at ec;rename_i a;let(ks,e1,F,o,items,n,g,gc,gd,W):=Q a c ec;cases ks with
  |nil=>cases F
  |cons k ks=>
   generalize hl:items.toList=l at W;cases W with
   |cons z hus=>
    rename_i u us;have i0:items[0]?=!u:=by rw[<-fN,hl];rfl
    show#[u::fs,KatTups.cons g gc gd i0 k1,by rw[db,db,k2],λf j=>?_];obtain rfl|j:=bh.mp j
    . let D:=(cons.inj F).1;obtain⟨rfl,rfl⟩|⟨x,rfl,hx⟩:=fH z
      . cases D
      . obtain⟨i,t,rfl,rfl⟩|⟨i,t,rfl,rfl⟩:=dB hx
        . show#[i,t,O]
        . cases D
    . grind
def Xh(F:yj prog w (0::sh) T s.heap){vs:List Value}(q:∀v∈vs,∃c,yX T v=!c)(W:0< -vs)(h:Q (tuples' G) s):wpAny (model prog w) A (keyKind' vs.toArray) Q E s:=by
 let(fs,z,N,D):=Fi F vs q;show kat_kind (T:=.type "int") z () (λf j=>?_) () ?_
 . let(i,t,rfl):=D f j;show .now
 . show h
def Su{TT:String}{Q:Value->Shared->Prop}(m9:TT="set"\/TT="dict")(xh:s.TypeIs (YV d) TT)(hI:Ey prog w A.in1.in1 d ok { s with heap:=s.heap.push v6 })(hT:yj prog w (0::sh) T s.heap)
 (hok:∀vs,ok vs->-vs<100000/\(∀v∈vs,∃c,yX T v=!c)/\(vs.map (yX T)).Nodup)
 (h:∀h' dr tk L (out:Array Value) c vs,ok vs->out.toList.Perm vs->(∀(i j:Nat)(u v:Value)(x y:TC),i<j->out.toList[i]?=!u->out.toList[j]?=!v->yX T u=!x->yX T v=!y->x<y)->(∀b o,s.heap.get? b=!o->h'.get? b=!o)->h'.get? L=!(seqObj "list" out c)-> ~~~s.heap.objs<=L->Q (YV L) { s with heap:=h',drawn:=dr,toks:=tk }):
 wpAny (model prog w) A (call (.builtin "sorted") [YV d]) Q E s:=by
 show Calls.call_function_entry kind_sorted plain_sorted entry_sorted (args_sorted1 _) ?_;show al (a8 (al (Ez m9 xh hI λh1 dr tk vs hv k hz=>?_)));let(hl,hc,hn):=hok vs hv;show al (wpAny_newList ?_ (by rw[hG];lia));have g0:(h1.push (seqObj "list" vs.toArray 0)).get? h1.objs.size=!(seqObj "list" vs.toArray 0):=ff _ O;have xi:∀x c,T x=!c->∃o,s.heap.get? x=!o:=λx c e=>by let(ks,_,_,o,items,n,g,_):=hT x c e;show#[o,g]
 have jf:∀x c,T x=!c->x< ~~~h1.objs:=λx c e=>by let(o,g):=xi x c e;show dQ (k x o g)
 have kU:∀h',(∀b o,b≠h1.objs.size->(h1.push (seqObj "list" vs.toArray 0)).get? b=!o->h'.get? b=!o)->yj prog w (0::sh) T h':=λh' k2=>hT.grown λx c e o g=>k2 x o (fw (jf x c e)) (eJ _ (k x o g));have ko:KeysOf (tupK T) (pairsOf vs):=λp hp=>by rw[pairsOf_toList]at hp;show hc _ (lI hp).1
 have dk:DK (tupK T) (pairsOf vs):=by
  unfold DK;rw[pairsOf_toList];have e:(vs.zip vs).map (λp=>(tupK T).keyOf p.1)=((vs.zip vs).map Prod.fst).map (yX T):=by rw[fE];rfl
  rw[e,map_fst_zip ()];show hn
 show al (iE (wpAny_call_entry slot_list_sort #[_,g0,O] entry_list_sort (JM (κ:=tupK T) g0 (λh' k2=>Pt (kU h' k2)) ko (λh' k2 v₁ v₂ a9 e {Q} q=>Xh (kU h' k2) (by rw[<-e];show hc) (by simp) q) dk hl λD p1 p2=>#[_,O,?_]) (args_list_sort _)));let(e,he):=sortedHeap_at g0;have kS:(arrOf D).toList.Perm (vs.zip vs):=by rw[<-pairsOf_toList];show Array.perm_iff_toList_perm.mp p1
 have N:∀p,p∈(arrOf D).toList->p.1=p.2/\p.1∈vs:=λp W=>mem_zip_self (kS.mem_iff.mp W);have eo:((arrOf D).map (·.2)).toList=(arrOf D).toList.map (·.1):=by rw[Array.toList_map];show rX λp W=>(N p W).1.symm
 have po:((arrOf D).map (·.2)).toList.Perm vs:=by
  rw[eo];have:=kS.map Prod.fst
  rwa [map_fst_zip ()]at this
 show a8 #[_,O,h _ dr tk _ _ e vs hv po (λi j u v x y jp F ev ex ey=>?_) (λb o q=>?_) he ?_]
 . let gX:=p1.size_eq.symm;have gi:(arrOf D)[i]?=!(u,u):=by
    rw[eo,eL]at F;rw[<-fN];cases q:(arrOf D).toList[i]? with
    |none=>rw[q]at F;cases F
    |some p=>
     rw[q]at F;let z:=N p (gt q);let(p1,p2):=p;cases F;have:p1=p2:=z.1;subst this;rfl
   have gj:(arrOf D)[j]?=!(v,v):=by
    rw[eo,eL]at ev;rw[<-fN];cases q:(arrOf D).toList[j]? with
    |none=>rw[q]at ev;cases ev
    |some p=>
     rw[q]at ev;let z:=N p (gt q);let(p1,p2):=p;cases ev;have:p1=p2:=z.1;subst this;rfl
   have lj:j< ~~~(arrOf D):=by
    obtain c|c:=fU j (arrOf D).size
    . show c
    . rw[nB c]at gj;cases gj
   let q:=p2 i j () ();have ki:KK (tupK T) (arrOf D) i=x:=by unfold KK;rw[gi];show ((tupK T).keyOf u).getD _=x;rw[show (tupK T).keyOf u=some x from ex];rfl
   have kj:KK (tupK T) (arrOf D) j=y:=by unfold KK;rw[gj];show ((tupK T).keyOf v).getD _=y;rw[show (tupK T).keyOf v=some y from ey];rfl
   rw[ki,kj]at q;let q':=of_decide_eq_false q;obtain z|z:=Classical.em (x=y)
   . exfalso;let nd:=(po.map _).nodup_iff.mpr hn;have:=pairwise_iff_getElem.mp nd i j;let(xb,Pw):=fr.mp F;let(PC,PF):=fr.mp ev;show this (by rw[da];show xb) (by rw[da];show PC) jp ?_;rw[getElem_map,getElem_map,Pw,PF,ex,ey,z]
   . show Classical.byContradiction λz2=>z (List.le_antisymm () ())
 . show(sortedHeap_old (fw (dQ (k b o q))) (by rw[size_push'];show jS (dQ (k b o q)))).trans (eJ _ (k b o q))
 . show hz
end
end L2
namespace L2
open PySem PySem.Spec PyProof.Rows PySem.W
def PH{prog:Program}{K:Type}[DecidableEq K](knd:HeapKind prog w K)(ZN:K->Addr->Prop):HeapKind prog w K where
 is:=λh k b=>knd.is h k b/\ZN k b
 hash:=knd.hash
 draws:=knd.draws
 room:=knd.room
 inj:=λx y=>knd.inj x.1 y.1
 keeps:=λx a b c=>#[knd.keeps x.1 a b c,x.2]
 pyHash:=λr x q=>knd.pyHash r x.1 q
 eqBool:=λr x y q=>knd.eqBool r x.1 y.1 q
 quiet:=λx q=>knd.quiet x.1 q
abbrev BK:=List (Addr×List aV)
def Fj(P:Program)(w:World)(a:Addr)(bs:BK):Heap->Prop:=λh=>∃es ep t,∃ks:List (List aV),lZ h a es ep t (not (byText w))/\es.size=-ks/\(∀(i:Nat) e,es[i]?=!e->∃k b,ks[i]?=!k/\e=((tupleKind (eV P w)).hash k,Value.ref b)/\(b,k)∈bs)/\ks.Nodup/\(∀y,y∈ks ↔ ∃p∈bs,p.2=y)/\es.size<=-bs
section
variable {X:Cx}
theorem Ir:∀{bs:BK}{i:List Value},ap (bs.map λp=>V.ref p.1) i->i=bs.map λp=>Value.ref p.1
 |[],i=>λh=>h.zero
 |p::bs,i=>λh=>by
  cases h with
  |cons r t=>
   rw[fF,Ir t];let e:=r;rw[e]
def Za(X:Cx):List V->Hp->VK->Prop:=λxs H Q=>∃a bs,xs=[.ref a]/\bY X.K H a (bs.map λp:Addr×List aV=>V.ref p.1)/\(∀p∈bs,cW X.K H p.1 (p.2.map nR)/\uN p.2)/\-bs<9000/\∀l,H l=J->Q (.ref l) (aI H l (.ext (Fj X.prog X.w l bs)))
def Iu(hc:X.calm=G)(hu:X.A.units+64<cLine):lO X (.type "set") (Za X):=by
 intro c5 s U H xs us Q I r h;let(a,bs,rfl,hq,hb,hl,q):=h;let(u,rfl,rx):=fm r;cases rx;let(dS,rv,pl,hz):=I.list hq;let ei:=Ir rv;subst ei;have hs:(bs.map λp=>Value.ref p.1).toArray.size=-bs:=by simp
 have N:∀i (hi:i< -bs),bs.getD i (0,[])=bs[i]:=λi hi=>by simp[hi]
 have W:∀p∈bs,(tupleKind (eV X.prog X.w)).is s.heap p.2 p.1:=λp hp=>ux I (hb p hp).1;show Xf (knd:=PH (tupleKind (eV X.prog X.w)) λk b=>(b,k)∈bs) (λx q=>OJ x.1 q) (λx a b c=>#[Oz x.1 a b c,x.2]) (λx q=>#[Ad x.1 q,x.2]) (λo x q=>O1 o x.1 q)
  (by show X.A.units+1+1+1<cLine;lia) (val:=λi=>(bs.getD i (0,[])).2) (ad:=λi=>(bs.getD i (0,[])).1) (I.ok.hd hc) pl.isList (λi v e=>?_) (λi hi=>?_) (by rw[hs];show -bs+1<9900;lia) λh' tk es F t ks S mem sz kp=>?_
 . cases q:bs[i]? with
   |none=>grind
   |some p=>
    grind
 . have hi:i< -bs:=by rw[hs]at hi;show hi
   let hm:=getElem_mem hi;rw[N i hi];let z:=W _ hm;show#[#[z,hm],?_,(hb _ hm).2];let(o,items,n,g,_):=z;show#[o,g]
 . have PM: ~~~es<=-bs:=by rw[hs]at sz;show sz
   have ml:∀y,y∈ks ↔ ∃p∈bs,p.2=y:=λy=>by
    rw[mem y];constructor
    . rintro⟨j,D,e⟩;have D:j< -bs:=by rw[hs]at D;show D
      show#[bs[j],getElem_mem D,?_];rw[<-N j D];show e
    . rintro⟨p,hp,e⟩;let(j,D,ej):=mem_iff_getElem.mp hp;show#[j,by rw[hs];show D,by rw[N j D,ej];show e]
   show#[.ref (c8 s),_,I.laid (λb o e=>kp b o (dQ e) e) () (show fG X.prog X.w _ h' _ (.ext (Fj X.prog X.w (c8 s) bs)) from #[#[es,F,t,ks,S.1,S.el.sz,λi e q=>?_,S.nd,ml,PM],#[_,S.at_],λh1 h2 PR k=>by let(es,F,t,ks,S,r):=PR;show #[es,F,t,ks,S.moved k,r]]),O,q _ (I.hok.fresh ())];let(k,b,e1,e2,e3):=S.el.at_ i e q;show#[k,b,e1,e2,e3.2]
def uO(bs:BK)(b:Addr):Option TC:=(bs.find? λp=>p.1==b).map λp=>p.2.map dv
def U6_(h:uO bs b=!c):∃k,(b,k)∈bs/\c=k.map dv:=by
 unfold uO at h;cases q:bs.find? λp=>p.1==b with
 |none=>grind
 |some p=>
  rw[q]at h;cases h;have e:p.1=b:=by have:=find?_some q;show eq_of_beq this
  show#[p.2,by rw[<-e];show mem_of_find?_eq_some q,O]
def Xi{k:List aV}(hi:∀k',(b,k')∈bs->k'=k)(h:(b,k)∈bs):uO bs b=!(k.map dv):=by
 unfold uO;cases q:bs.find? λp=>p.1==b with
 |none=>
  grind
 |some p=>
  have e:p.1=b:=by have:=find?_some q;show eq_of_beq this
  grind
theorem Iv{bs:BK}:∀(vs:List Value),(∀v∈vs,∃b k,v=Value.ref b/\(b,k)∈bs)->∃cs:BK,vs=cs.map (λp=>Value.ref p.1)/\∀p∈cs,p∈bs
 |[]=>λ_=>#[[],O,λp h=>by cases h]
 |v::vs=>λh=>by
  let(cs,e,m):=Iv vs λu j=>h u (d_ _ j);let(b,k,rfl,hk):=h v cS;show#[(b,k)::cs,by rw[fF,e],λp i=>?_];obtain rfl|i:=bh.mp i
  . show hk
  . show m p i
def U7_(X:Cx):List V->Hp->VK->Prop:=λxs H Q=>∃a bs sh,xs=[.ref a]/\H a=!(.ext (Fj X.prog X.w a bs))/\(∀p∈bs,cW X.K H p.1 (p.2.map nR)/\p.2.map ph=0::sh)/\-bs<9000/\
 ∀l (cs:BK),H l=J->(∀p∈cs,p∈bs)->(∀p∈bs,∃q∈cs,q.2=p.2)->cs.Pairwise (λp q=>p.2.map dv<q.2.map dv)->Q (.ref l) (aI H l (.lst (cs.map λp=>V.ref p.1)))
theorem Iw:∀{bs:BK},ap (bs.map λp=>V.ref p.1) (bs.map λp=>Value.ref p.1)
 |[]=>.nil
 |p::bs=>.cons O Iw
def Ae(hc:X.calm=G):lO X (.builtin "sorted") (U7_ X):=by
 intro ae s U H xs us Q I r h;let(a,bs,sh,rfl,hq,hb,hl,q):=h;let(u,rfl,rx):=fm r;cases rx;let((es,ep,t,ks,S,sz,el,nd,mem,sz2),_):=I.hok a _ hq;have N:∀p∈bs,(tupleKind (eV X.prog X.w)).is s.heap p.2 p.1:=λp hp=>ux I (hb p hp).1;have W:∀{b k k'},(b,k)∈bs->(b,k')∈bs->k'=k:=λh1 h2=>(tupleKind (eV X.prog X.w)).inj (N _ h2) (N _ h1);have hT:yj X.prog X.w (0::sh) (uO bs) s.heap:=λx c e=>by let(k,hk,rfl):=U6_ e;show#[k,O,(hb _ hk).2,N _ hk]
 have tm:∀{b k},(b,k)∈bs->uO bs b=!(k.map dv):=λh1=>Xi (λk' h2=>W h1 h2) h1;have cd:es.toList.map (λe=>yX (uO bs) e.2)=ks.map λk=>!(k.map dv):=by
  show ext_getElem? λi=>?_;rw[eL,eL,fN];cases e:es[i]? with
  |none=>
   have:ks[i]?=J:=by rw[getElem?_eq_none_iff];rw[Array.getElem?_eq_none_iff]at e;lia
   rw[this];rfl
  |some x=>
   let(k,b,F,rfl,D):=el i x e;rw[F];show some (uO bs b)=!(!(k.map dv));rw[tm D]
 show Su (TT:="set") (Zl O) #[_,S.at_,O] (EY (by simpa using I.ok.hd hc) (S.moved λo e=>eJ _ e)) hT (λvs p=>?_) λh' dr tk L out c vs p po so kp g hL=>?_
 . show#[?_,λv hv=>?_,?_]
   . have:=p.length_eq;simp only[da,gT]at this;lia
   . let(e,he,rfl):=dA.mp (p.mem_iff.mp hv);let(i,hi):=getElem?_of_mem he;rw[fN]at hi;let(k,b,F,rfl,D):=el i e hi;show#[_,tm D]
   . let pp:=p.map (yX (uO bs));rw[fE]at pp;have e:es.toList.map (yX (uO bs) ∘ λx=>x.2)=ks.map λk=>!(k.map dv):=cd;rw[e]at pp;show pp.nodup_iff.mpr (pairwise_map.mpr (List.Pairwise.imp (λ{x y} ne z=>ne ?_) nd));show Fg (fI z)
 . have PU:∀v∈out.toList,∃b k,v=Value.ref b/\(b,k)∈bs:=λv hv=>by let(e,he,rfl):=dA.mp (p.mem_iff.mp (po.mem_iff.mp hv));let(i,hi):=getElem?_of_mem he;rw[fN]at hi;let(k,b,F,rfl,D):=el i e hi;show#[b,k,O,D]
   let(cs,ec,mc):=Iv out.toList PU;have lc:-cs<=9000:=by let F:=gs length ec;let e2:=po.length_eq;let D:=p.length_eq;simp only[da,gT]at F e2 D;lia
   let I1:=I.laid (t':=tk) kp hL (show fG X.prog X.w _ h' L (.lst (cs.map λp=>V.ref p.1)) from #[by rw[da,hG];lia,out.toList,c,by rw[ec];show Iw,g]);show#[.ref L,_,I1.drew dr,O,q L cs (I.hok.fresh hL) mc (λx hx=>?_) ?_]
   . let(i,hi):=getElem?_of_mem ((mem x.2).mpr #[x,hx,O]);have li:i< ~~~es:=by rw[sz];show(fr.mp hi).1
     let(k,b,F,e2,D):=el i _ (mw li);rw[hi]at F;cases F;have m1:Value.ref b∈out.toList:=by show po.mem_iff.mpr (p.mem_iff.mpr (dA.mpr #[es[i],by simp,?_]));rw[e2]
     rw[ec]at m1;let(y,hy,ey):=dA.mp m1;let(y1,y2):=y;have PY:y1=b:=by cases (ey);rfl
     subst PY;show#[_,hy,W D (mc _ hy)]
   . show pairwise_iff_getElem.mpr λi j hi hj jp=>?_;have gi:out.toList[i]?=!(Value.ref cs[i].1):=by rw[ec,eL,ge hi];rfl
     have gj:out.toList[j]?=!(Value.ref cs[j].1):=by rw[ec,eL,ge hj];rfl
     show so i j _ _ _ _ jp gi gj (tm (mc _ (getElem_mem hi))) (tm (mc _ (getElem_mem hj)))
end
end L2
namespace L2
open PySem PySem.Spec PyProof.Rows PySem.W
def mf(h:Heap)(d:Addr)(es:Array DictEntry)(ep:Nat):Prop:=∃o,h.get? d=!o/\o.ExactDict/\o.data=.dict es ep
def mf.at(x:mf h d es ep)(e:∀o,h.get? d=!o->h'.get? d=!o):mf h' d es ep:=let #[o,ho,r]:=x;#[o,e _ ho,r]
section
variable {prog:Program}{w:World}{A:Around}{E:Value->Shared->Prop}{s:Shared}{it d:Addr}{i ep:Nat}{es:Array DictEntry}
def mf.ty(x:mf s.heap d es ep):s.TypeIs (YV d) "dict" := let #[o,ho,hc,_]:=x;#[o,ho,hc.1]
def CA(hh:A.handled=J)(CB:s.heap.IsKeyIter it d i es.size ep)(hd:mf s.heap d es ep)
 (h1:∀e,es[i]?=!e->∀h',h'.IsKeyIter it d (i+1) es.size ep->Heap.SameBut it s.heap h'->Q (!e.key) { s with heap:=h' })
 (h2:es[i]?=J->∀h',Heap.ExtBut it s.heap h'->Q J { s with heap:=h' }):wpAny (model prog w) A (pyNext (YV it)) Q E s:=by
 let(o,ho,hc,hf):=id CB;let(od,CC,px,sR):=hd;let T:=CB.typeIs;unfold pyNext;show al (wpAny_attempt (wpAny_callSpecial?_slot T F.slot_dict_keyiterator_next (wpAny_call_entry F.slot_dict_keyiterator_next T F.entry_dict_keyiterator_next ?_ (F.args_dict_keyiterator_next_1 _))));show al (a8 (al (al ?_)))
 first |show al (wpAny_typeNameOfWhole_keyiter T (a8 (al (wpAny_fieldsOf ho hf ?_)))) |show al (wpAny_typeNameOf_keyiter T (a8 (al (wpAny_fieldsOf ho hf ?_))))
 simp only[show Builtin.Dict_items.ownsTuple "dict_keyiterator"=M from by decide,hJ,if_false];show(show wpAny _ _ (if (Value.ref d==Value.none)=G then _ else _) _ _ s from ?_);rw[a_ (show ¬ ((Value.ref d==Value.none)=G) from lv)];show al (a8 (al (wpAny_dictEntries CC sR ?_)));rw[a_ (by simp)];show al (a8 (al (wpAny_dictEpoch CC sR ?_)));rw[a_ (by simp)];show a8 ?_;simp only[show ¬ ((i:Int)<0) from by lia,if_false,Int.toNat_natCast];cases e:es[i]? with
 |some x=>
  dsimp only;show al ?_
  first |show al (wpAny_typeNameOfWhole_keyiter T (a8 (al (wpAny_isOneOf_keyiter T ?_)))) |show al (wpAny_typeNameOf_keyiter T (a8 (al (wpAny_isOneOf_keyiter T ?_))))
  show(show wpAny _ _ (setField (YV it) 1 (rawInt ((i:Int)+1)) >>= _) _ _ s from al (wpAny_setField ho hf (by simp) ?_));have hit':(s.heap.update it (Obj.mapFields (·.setIfInBounds 1 (rawInt ((i:Int)+1))))).IsKeyIter it d (i+1) es.size ep:=
   #[_,mN _ ho (Obj.isFreed_of_fields (Obj.data_mapFields hf _)),(Obj.cls_mapFields ..).trans hc,by rw[Obj.data_mapFields hf];simp[rawInt]]
  show al (wpAny_holding (al (wpAny_isOneOf_keyiter (s:={ s with heap:=s.heap.update it (Obj.mapFields (·.setIfInBounds 1 (rawInt ((i:Int)+1)))) }) hit'.typeIs (show wpAny _ _ (pure x.key) _ _ _ from a8 (a8 #[_,O,a8 (h1 x e _ hit' (kN ..))])))))
 |none=>
  dsimp only;show al ?_
  first |show al (wpAny_typeNameOfWhole_keyiter T (a8 ?_)) |show al (wpAny_typeNameOf_keyiter T (a8 ?_))
  show(show wpAny _ _ (setField (YV it) 0 .none >>= _) _ _ s from al (wpAny_setField ho hf (by simp) (show wpAny _ _ (newExc (.type "StopIteration") [] >>= _) _ _ _ from al ?_)));simp only[newExc,newTuple];show al (wpAny_newObj_type (al (m:=firstArgMember _ _) (wpAny_of_eq (a:=Value.none) (by first |rfl |(simp only[firstArgMember];rfl)) (wpAny_newObj_type ?_ (by size_fits)))) (by size_fits));simp only[raiseNew];show al (wpAny_handled ?_);rw[show A.in1.handled=J from hh];show al (a8 (wpAny_throw ?_));show al (wpAny_isInstance (T:="StopIteration") (b:=G) #[_,ff _ O,O] isSubtype_stop ?_);show a8 (h2 e _ (((kN ..).extBut.push _).push _))
def PZ(hh:A.handled=J)(xj:d≠it):Walks prog w A it [it,d] [it] es.size (λi v=>∃e,es[i]?=!e/\v=e.key) (λi h=>h.IsKeyIter it d i es.size ep/\mf h d es ep) where
 sub:=λb j=>by simp at j;simp[j]
 frame:=λ_ _ _ st hk=>#[st.1.at λo e=>hk it (by simp) o e,st.2.at λo e=>hk d (by simp) o e]
 item:=λi s Q E hi st F=>CA hh st.1 st.2 (λe he h' D sb=>F _ h' s.toks #[e,he,O] #[D,st.2.at λo q=>sb.extBut d o xj q] λb o j q=>sb.extBut b o (λz=>j ∅) q) λhe=>by rw[Array.getElem?_eq_none_iff]at he;lia
 done:=λs Q E st F=>CA hh st.1 st.2 (λe he=>by let(h,_):=Array.getElem?_eq_some_iff.mp he;show absurd h (ly _)) λ_ h' sF=>F h' s.toks λb o j q=>sF b o (λz=>j ∅) q
 self:=λ_ _ _ _ st F=>wpAny_pyIter_keyiter st.1 F
def P1(hh:A.handled=J)(hd:(d==sysModules)=M)(dd:mf s.heap d es ep)(hz: ~~~es<=sizeLine):Ey prog w A d (λus=>us=es.toList.map (·.key)) s:=λQ' E' k=>by
 let(o,ho,hc,j):=id dd;let jf:=dQ ho;let hT:=dd.ty;show wpAny_pyIter_slot hT F.slot_dict_iter (wpAny_call_entry F.slot_dict_iter hT F.entry_dict_iter ?_ (F.args_dict_iter_1 _));show al ?_;show al (wpAny_notOrdered_dict hT (a8 (show wpAny _ _ (Builtin.Dict.showsAll d >>= _) _ _ s from ?_)));unfold Builtin.Dict.showsAll;rw[a_ (by rw[hd];show lv)];show al (a8 (al (wpAny_dictEntries ho j (al (wpAny_dictEpoch ho j (al (wpAny_newObj_type (a8 #[_,O,"dict_keyiterator",_,#[_,ff _ O,O],F.slot_dict_keyiterator_next.lookup,?_]))))))));show k _ s.drawn s.heap.objs.size [s.heap.objs.size,d] [s.heap.objs.size] es.size _ _ (λb o q=>eJ _ q) (PZ hh (fw jf)) #[#[_,ff _ O,O,O],dd.at λo q=>eJ _ q] (λD q=>?_) (λb z=>?_) (λb z=>?_) hz
 . show List.ext_getElem? λi=>?_;rw[Array.getElem?_toList,eL,Array.getElem?_toList];cases hi:D[i]? with
   |some v=>let(e,h1,rfl):=q.2 i v hi;rw[h1];rfl
   |none=>
    have:es[i]?=J:=by rw[Array.getElem?_eq_none_iff,<-q.1];show Array.getElem?_eq_none_iff.mp hi
    rw[this];rfl
 . simp only[bh,kL,or_false]at z;obtain rfl|rfl:=z
   . show YY (dP _)
   . show Zl O
 . rw[gg.mp z];show dP _
end
end L2
namespace L2
open PySem PySem.Spec PyProof.Rows PySem.W
section
variable {X:Cx}
def P2{U:St}{Q:VK}{ds:BK}{sh:List Nat}{d:Addr}{TT:String}(I:am X ae U H s)(m9:TT="set"\/TT="dict")(xh:s.TypeIs (YV d) TT)(hI:Ey X.prog X.w X.A.in1.in1 d (λvs=>vs.Perm (ds.map λp=>Value.ref p.1)) { s with heap:=s.heap.push v6 })
 (hb:∀p∈ds,cW X.K H p.1 (p.2.map nR)/\p.2.map ph=0::sh) (nd:(ds.map (·.2)).Nodup) (hl:-ds<9000)
 (q:∀l (D:BK),H l=J->(∀p∈D,p∈ds)->(∀p∈ds,∃q∈D,q.2=p.2)->D.Pairwise (λp q=>p.2.map dv<q.2.map dv)->Q (.ref l) (aI H l (.lst (D.map λp=>V.ref p.1)))):
 wpAny (model X.prog X.w) X.A (call (.builtin "sorted") [YV d]) (EP X ae U Q) X.xe s:=by
 have xl:∀p∈ds,(tupleKind (eV X.prog X.w)).is s.heap p.2 p.1:=λp hp=>ux I (hb p hp).1;have sT:∀{b k k'},(b,k)∈ds->(b,k')∈ds->k'=k:=λh1 h2=>(tupleKind (eV X.prog X.w)).inj (xl _ h2) (xl _ h1);have hT:yj X.prog X.w (0::sh) (uO ds) s.heap:=λx c e=>by let(k,hk,rfl):=U6_ e;show#[k,O,(hb _ hk).2,xl _ hk]
 have tm:∀{b k},(b,k)∈ds->uO ds b=!(k.map dv):=λh1=>Xi (λk' h2=>sT h1 h2) h1;have cd:(ds.map λp=>Value.ref p.1).map (yX (uO ds))=(ds.map (·.2)).map λk=>!(k.map dv):=by rw[fE,fE];show rX λp hp=>tm hp
 show Su (TT:=TT) (T:=uO ds) m9 xh hI hT (λvs p=>?_) λh' dr tk L out c vs p po so kp g hL=>?_
 . show#[by rw[p.length_eq,da];lia,λv hv=>?_,?_]
   . let(e,he,rfl):=dA.mp (p.mem_iff.mp hv);show#[_,tm he]
   . let pp:=p.map (yX (uO ds));rw[cd]at pp;show pp.nodup_iff.mpr (List.pairwise_map.mpr (List.Pairwise.imp (λ{x y} ne z=>ne (Fg (fI z))) nd))
 . let(D,ec,mc):=Iv (bs:=ds) out.toList λv hv=>by let(e,he,rfl):=dA.mp (p.mem_iff.mp (po.mem_iff.mp hv));show#[_,_,O,he]
   have lc:-D<=9000:=by let e1:=congrArg List.length ec;let e2:=po.length_eq;let e3:=p.length_eq;simp only[da]at e1 e3;lia
   have I1:am X ae U (aI H L (.lst (D.map λp=>V.ref p.1))) { s with heap:=h',toks:=tk }:=I.laid (t':=tk) kp hL (show fG X.prog X.w _ h' L (.lst (D.map λp=>V.ref p.1)) from #[by rw[da,sizeLine_eq];lia,out.toList,c,by rw[ec];show Iw,g]);show#[.ref L,_,I1.drew dr,O,q L D (I.hok.fresh hL) mc (λx hx=>?_) ?_]
   . have m1:Value.ref x.1∈out.toList:=po.mem_iff.mpr (p.mem_iff.mpr (dA.mpr #[x,hx,O]));rw[ec]at m1;let((y1,y2),hy,ey):=dA.mp m1;cases ey;show#[_,hy,sT hx (mc _ hy)]
   . show List.pairwise_iff_getElem.mpr λi j hi hj jp=>?_;have gi:out.toList[i]?=!(Value.ref D[i].1):=by rw[ec,eL,ge hi];rfl
     have gj:out.toList[j]?=!(Value.ref D[j].1):=by rw[ec,eL,ge hj];rfl
     show so i j _ _ _ _ jp gi gj (tm (mc _ (List.getElem_mem hi))) (tm (mc _ (List.getElem_mem hj)))
theorem CD{H:Hp}:∀{l:List (List d3×V)}{r:List (List d3×Addr×Value)},Paired (λ(p:List d3×V)(q:List d3×Addr×Value)=>p.1=q.1/\H q.2.1=!(.tup (p.1.map kV))/\aw p.2 q.2.2) l r->-r=-l/\(∀y∈r,∃j∈l,j.1=y.1/\H y.2.1=!(.tup (j.1.map kV)))/\∀j∈l,∃y∈r,j.1=y.1
 |_,_,.nil=>#[O,λy h=>(by cases h),λy h=>(by cases h)]
 |a::l,b::r,.cons h t=>by
  let(h1,h2,F):=CD t;show#[by rw[db,db,h1],λy hy=>?_,λy hy=>?_]
  . obtain rfl|hy:=bh.mp hy
    . show#[a,cS,h.1,h.2.1]
    . let(j,z,D):=h2 y hy;show#[j,d_ _ z,D]
  . obtain rfl|hy:=bh.mp hy
    . show#[b,cS,h.1]
    . let(j,z,D):=F y hy;show#[j,d_ _ z,D]
def CF:List V->Hp->VK->Prop:=λxs H Q=>∃a ay sh,xs=[.ref a]/\H a=!(.dT ay)/\(∀kv∈ay,(kv.1.map some).map ph=0::sh)/\-ay<9000/\
 ∀l (cs:BK),H l=J->(∀p∈cs,H p.1=!(.tup (p.2.map nR))/\p.2∈ay.map λkv=>kv.1.map some)->(∀kv∈ay,∃q∈cs,q.2=kv.1.map some)->cs.Pairwise (λp q=>p.2.map dv<q.2.map dv)->Q (.ref l) (aI H l (.lst (cs.map λp=>V.ref p.1)))
def CH(hc:X.calm=G):lO X (.builtin "sorted") CF:=by
 intro ae s U H xs us Q I r h;let(a,ay,sh,rfl,hq,hs,hl,q):=h;let(u,rfl,rx):=fm r;cases rx;let(z,m,ys,pr,o,es,ep,h1,h2,h3,h4,h5):=(I.hok a _ hq);let(p1,p2,p3):=CD pr;show P2 (ds:=ys.map λy=>(y.2.1,y.1.map some)) (sh:=sh) (TT:="dict") I (YY O) #[o,h1,h2.1] (λQ' E' k=>P1 (by simpa using I.ok.hd hc) m #[o,eJ _ h1,h2,h3] (by rw[<-gT,h4,da,p1];show z) Q' E' λh' dr ZU fp wr n P St k1 k2 k3 k4=>k h' dr ZU fp wr n P St k1 k2 k3 λacc ia=>?_) (λp hp=>?_) ?_ (by rw[da,p1];show hl) λl cs hn aS c2 pw=>q l cs hn (λp hp=>?_) (λj hk=>?_) pw
 . rw[k4 acc ia,h4,fE,fE];show .refl _
 . let(y,hy,rfl):=dA.mp hp;let(j,hk,D,F):=p2 y hy;show#[cW.of ?_,D▸hs j hk];rw[F,D,fE];rfl
 . rw[fE];have e:ys.map ((λx:Addr×List aV=>x.2) ∘ λy=>(y.2.1,y.1.map some))=(ys.map (·.1)).map λk=>k.map some:=by rw[fE];rfl
   rw[e];show List.pairwise_map.mpr (List.Pairwise.imp (λ{x y} ne z=>ne ((List.map_inj_right λ_ _=>fI).mp z)) h5)
 . let(y,hy,rfl):=dA.mp (aS p hp);let(j,hk,D,F):=p2 y hy;show#[by rw[F,D,fE];rfl,dA.mpr #[j,hk,by rw[D]]]
 . let(y,hy,e):=p3 j hk;let(q,hq,F):=c2 _ (dA.mpr #[y,hy,O]);show#[q,hq,by rw[F,e]]
end
end L2
namespace PL
open PySem PySem.Spec PyProof.Rows L2
inductive PV where
 |non
 |bl (b:Bool)
 |int (i:Int)
 |str (x:Str)
 |tup (ps:List PV)
 |lst (ps:List PV)
 |dk (ks:List d3) (ps:List PV)
 |dt (ks:List (List d3)) (ps:List PV)
 |obj (C:Str) (ks:List Str) (ps:List PV)
 |df (ks:List d3) (ps:List PV)
 |dtf (ks:List (List d3)) (ps:List PV)
 |dx (hk:List aV->Int) (ks:List (List aV)) (ps:List PV)
 |exc (C:Str)
 |fn (x:Str)
 |ptr (n:Nat)
structure ZG where
 z:Hp
 g:List Addr
def iu(Z Z':ZG):Prop:=eY_ Z.z Z'.z/\Z.g <+: Z'.g
theorem iu.refl(Z:ZG):iu Z Z:=#[eY_.refl _,kQ _]
theorem iu.trans(a:iu Z Z1)(b:iu Z1 Z2):iu Z Z2:=#[a.1.trans b.1,a.2.trans b.2]
def P4{α:Type}{l r:List α}{n:Nat}{a:α}(h:l <+: r)(e:l[n]?=!a):r[n]?=!a:=by let(t,rfl):=h;rw[jJ (fr.mp e).1];show e
def CN(K:FG)(C:Str)(c:Addr):Prop:=W.nsIn K mainGlobals C=!(!(YV c))
mutual
noncomputable def bP (K:FG) (Z:ZG):PV->V->Prop
 |.non,v=>v=.non
 |.bl b,v=>v=.bl b
 |.int i,v=>v=.int i
 |.str x,v=>v=.str x
 |.tup ps,v=>∃a vs,v=.ref a/\cW K Z.z a vs/\aK K Z ps vs
 |.lst ps,v=>∃a vs,v=.ref a/\bY K Z.z a vs/\aK K Z ps vs
 |.dk ks ps,v=>∃a ay,v=.ref a/\Z.z a=!(.dK ay)/\ay.map (·.1)=ks/\aK K Z ps (ay.map (·.2))
 |.dt ks ps,v=>∃a ay,v=.ref a/\Z.z a=!(.dT ay)/\ay.map (·.1)=ks/\aK K Z ps (ay.map (·.2))
 |.obj C ks ps,v=>∃a c dx fs,v=.ref a/\CN K C c/\Z.z a=!(.ins c dx fs)/\fs.map (·.1)=ks/\aK K Z ps (fs.map (·.2))
 |.df ks ps,v=>∃a o ay,v=.ref a/\Z.z a=!(.frz o (.dK ay))/\ay.map (·.1)=ks/\aK K Z ps (ay.map (·.2))
 |.dtf ks ps,v=>∃a o ay,v=.ref a/\Z.z a=!(.frz o (.dT ay))/\ay.map (·.1)=ks/\aK K Z ps (ay.map (·.2))
 |.dx hk ks ps,v=>∃a xs,v=.ref a/\Z.z a=!(.ext (wA hk a xs))/\xs.map (·.1)=ks/\(∀x∈xs,cW K Z.z x.2.1 (x.1.map nR))/\aK K Z ps (xs.map (·.2.2))
 |.exc C,v=>∃a c,v=.ref a/\CN K C c/\Z.z a=!(.ext (BM a c))
 |.fn x,v=>∃a,v=.ref a/\CN K x a
 |.ptr n,v=>∃a,v=.ref a/\Z.g[n]?=!a
noncomputable def aK (K:FG) (Z:ZG):List PV->List V->Prop
 |[],vs=>vs=[]
 |p::ps,vs=>∃v r,vs=v::r/\bP K Z p v/\aK K Z ps r
end
def bY.same{K:FG}(s:eY_ Z Z')(h:bY K Z a vs):bY K Z' a vs:=s.seq h
def cW.same{K:FG}(s:eY_ Z Z')(h:cW K Z a vs):cW K Z' a vs:=by
 obtain (h|⟨o,h⟩)|h:=h
 . show Zl (Zl (s _ _ h))
 . show Zl (YY #[o,s _ _ h])
 . show YY h
mutual
theorem bP.mono{K:FG}(s:iu Z Z'):∀{p:PV}{v:V},bP K Z p v->bP K Z' p v
 |.non,v=>λh=>h
 |.bl _,v=>λh=>h
 |.int _,v=>λh=>h
 |.str _,v=>λh=>h
 |.tup ps,v=>λh=>by let(a,q,e,h1,h2):=h;show#[a,q,e,cW.same s.1 h1,aK.mono s h2]
 |.lst ps,v=>λh=>by let(a,q,e,h1,h2):=h;show#[a,q,e,bY.same s.1 h1,aK.mono s h2]
 |.dk ks ps,v=>λh=>by let(a,i,e,h1,h2,j):=h;show#[a,i,e,s.1 _ _ h1,h2,aK.mono s j]
 |.dt ks ps,v=>λh=>by let(a,i,e,h1,h2,j):=h;show#[a,i,e,s.1 _ _ h1,h2,aK.mono s j]
 |.obj C ks ps,v=>λh=>by let(a,c,dx,fs,e,z,h1,h2,j):=h;show#[a,c,dx,fs,e,z,s.1 _ _ h1,h2,aK.mono s j]
 |.df ks ps,v=>λh=>by let(a,o,i,e,h1,h2,j):=h;show#[a,o,i,e,s.1 _ _ h1,h2,aK.mono s j]
 |.dtf ks ps,v=>λh=>by let(a,o,i,e,h1,h2,j):=h;show#[a,o,i,e,s.1 _ _ h1,h2,aK.mono s j]
 |.dx hk ks ps,v=>λh=>by let(a,xs,e,h1,h2,D,j):=h;show#[a,xs,e,s.1 _ _ h1,h2,λx F=>cW.same s.1 (D x F),aK.mono s j]
 |.exc C,v=>λh=>by let(a,c,e,z,h1):=h;show#[a,c,e,z,s.1 _ _ h1]
 |.fn x,v=>λh=>by  show h
 |.ptr n,v=>λh=>by let(a,e,h1):=h;show#[a,e,P4 s.2 h1]
theorem aK.mono{K:FG}(s:iu Z Z'):∀{ps:List PV}{vs:List V},aK K Z ps vs->aK K Z' ps vs
 |[],vs=>λh=>by  show h
 |p::ps,vs=>λh=>by let(v,r,e,h1,h2):=h;show#[v,r,e,bP.mono s h1,aK.mono s h2]
end
section
variable {K:FG}{Z:ZG}
theorem aK.length:∀{ps:List PV}{vs:List V},aK K Z ps vs->-vs=-ps
 |[],vs=>λh=>by  subst h;rfl
 |p::ps,vs=>λh=>by let(v,r,rfl,_,h2):=h;simp[aK.length h2]
def aK.nil:aK K Z [] []:=by  rfl
def aK.cons{p:PV}{ps:List PV}{v:V}{vs:List V}(h:bP K Z p v)(t:aK K Z ps vs):aK K Z (p::ps) (v::vs):=by  show#[v,vs,O,h,t]
def aK.inv(h:aK K Z (p::ps) vs):∃v r,vs=v::r/\bP K Z p v/\aK K Z ps r:=by  show h
def aK.inv0(h:aK K Z [] vs):vs=[]:=by  show h
theorem aK.append:∀{ps i:List PV}{vs ws:List V},aK K Z ps vs->aK K Z i ws->aK K Z (ps++i) (vs++ws)
 |[],i,vs,ws=>λh g=>by have:=h.inv0;grind
 |p::ps,i,vs,ws=>λh g=>by let(v,r,rfl,h1,h2):=h.inv;show aK.cons h1 (aK.append h2 g)
theorem aK.get:∀{ps:List PV}{vs:List V}{i:Nat}{p:PV},aK K Z ps vs->ps[i]?=!p->∃v,vs[i]?=!v/\bP K Z p v
 |[],vs,i,p=>λh e=>by grind
 |q::ps,vs,0,p=>λh e=>by let(v,r,rfl,h1,h2):=h.inv;grind
 |q::ps,vs,i+1,p=>λh e=>by let(v,r,rfl,h1,h2):=h.inv;let(u,j,z):=aK.get h2 ();grind
def aK.getV{i:Nat}(h:aK K Z ps vs)(e:vs[i]?=!v):∃p,ps[i]?=!p/\bP K Z p v:=by
 have hi:i< -ps:=by rw[<-(-h)];show(fr.mp e).1
 let(u,h1,h2):=h.get (ge hi);grind
theorem aK.set(j:bP K Z q u):∀{ps:List PV}{vs:List V}(i:Nat),aK K Z ps vs->aK K Z (ps.set i q) (vs.set i u)
 |[],vs,i=>λh=>by have:=h.inv0;grind
 |p::ps,vs,0=>λh=>by let(v,r,rfl,h1,h2):=h.inv;show aK.cons j h2
 |p::ps,vs,i+1=>λh=>by let(v,r,rfl,h1,h2):=h.inv;show aK.cons h1 (aK.set j i h2)
theorem aK.take:∀{ps:List PV}{vs:List V}(n:Nat),aK K Z ps vs->aK K Z (ps.take n) (vs.take n)
 |[],vs,n=>λh=>by have:=h.inv0;grind
 |p::ps,vs,0=>λh=>by  show .nil
 |p::ps,vs,n+1=>λh=>by let(v,r,rfl,h1,h2):=h.inv;show aK.cons h1 (aK.take n h2)
theorem aK.drop:∀{ps:List PV}{vs:List V}(n:Nat),aK K Z ps vs->aK K Z (ps.drop n) (vs.drop n)
 |[],vs,n=>λh=>by have:=h.inv0;grind
 |p::ps,vs,0=>λh=>h
 |p::ps,vs,n+1=>λh=>by let(v,r,rfl,h1,h2):=h.inv;show aK.drop n h2
end
inductive Lc where
 |sh (p:PV)
 |own (p:PV)
open PL.PV renaming lst→R,int→ZI,str→ZH,tup→ZB,ptr→ZA
open PL.Lc renaming own→Zs,sh→Zp
noncomputable def Lc.pv:Lc->PV
 |Zp p=>p
 |Zs p=>p
abbrev Mu:=List (Option PV)
structure Ev where
 vs:List (Option Lc)
 mu:Mu
abbrev Pd:=List (V×Lc)
def qU(K:FG)(Z:ZG)(H:Hp)(a:Addr):PV->Prop
 |R ps=>∃vs,H a=!(.lst vs)/\aK K Z ps vs
 |.dk ks ps=>∃ay,H a=!(.dK ay)/\ay.map (·.1)=ks/\aK K Z ps (ay.map (·.2))
 |.dt ks ps=>∃ay,H a=!(.dT ay)/\ay.map (·.1)=ks/\aK K Z ps (ay.map (·.2))
 |.dx hk ks ps=>∃xs,H a=!(.ext (wA hk a xs))/\xs.map (·.1)=ks/\(∀x∈xs,cW K Z.z x.2.1 (x.1.map nR))/\aK K Z ps (xs.map (·.2.2))
 |.exc C=>∃c,CN K C c/\H a=!(.ext (BM a c))
 |.obj C ks ps=>∃c dx fs,CN K C c/\H a=!(.ins c dx fs)/\fs.map (·.1)=ks/\aK K Z ps (fs.map (·.2))
 |_=>False
def VR(K:FG)(H0:Hp)(Z:ZG)(H:Hp)(v:Option V):Option Lc->Prop
 |none=>True
 |some (Zp p)=>∃x,v=!x/\bP K Z p x
 |some (Zs p)=>∃a,v=!(.ref a)/\qU K Z H a p/\Z.z a=J/\H0 a=J
noncomputable def mj:Option V×Option Lc->Option Addr
 |(!(.ref a),!(Zs _))=>!a
 |_=>J
abbrev Sl:=List (Option V×Option Lc)
def ah(K:FG)(H0:Hp)(Z:ZG)(H:Hp)(L:Sl):Prop:=(∀e∈L,VR K H0 Z H e.1 e.2)/\(L.filterMap mj).Nodup
noncomputable def cel (g:List Addr) (mu:Mu):Sl:=(g.map λa=>!(V.ref a)).zip (mu.map λo=>o.map Lc.own)
def uP(g:List Addr)(mu:Mu):List Addr:=(cel g mu).filterMap mj
def sl(g:List Addr)(U:L2.St)(Y:Ev)(pd:Pd):Sl:=cel g Y.mu++(U.zip Y.vs++pd.map λe=>(!e.1,!e.2))
def J9:HO->Prop
 |.tup _=>True
 |.frz _ _=>True
 |_=>False
structure jQ(H0:Hp)(Z0 Z:ZG)(H:Hp):Prop where
 zh:eY_ Z.z H
 h0:eY_ H0 H
 z0:iu Z0 Z
 new:∀b o,Z.z b=!o->Z0.z b=!o\/H0 b=none\/J9 o
def SR(K:FG)(H0:Hp)(Z0:ZG)(U:L2.St)(H:Hp)(Y:Ev)(pd:Pd):Prop:=-U=-Y.vs/\∃Z,-Y.mu=-Z.g/\jQ H0 Z0 Z H/\ah K H0 Z H (sl Z.g U Y pd)
section
variable {K:FG}{H0 H H':Hp}{Z0 Z Z':ZG}{L L':Sl}{U:L2.St}{Y:Ev}{pd:Pd}
def ah.sub(h:ah K H0 Z H L)(s:Sublist L' L):ah K H0 Z H L':=#[λe i=>h.1 e ∅,h.2.sublist ∅]
def ah.perm(h:ah K H0 Z H L)(s:Perm L' L):ah K H0 Z H L':=#[λe i=>h.1 e ∅,(s.filterMap mj).nodup_iff.mpr h.2]
def qU.keep(h:qU K Z H a p)(z:iu Z Z')(e:H' a=H a):qU K Z' H' a p:=by
 cases p with
 |lst ps=>let(j,h1,h2):=h;show#[j,by rw[e];show h1,h2.mono z]
 |dk ks ps=>let(j,h1,h2,i):=h;show#[j,by rw[e];show h1,h2,i.mono z]
 |dt ks ps=>let(j,h1,h2,i):=h;show#[j,by rw[e];show h1,h2,i.mono z]
 |dx hk ks ps=>let(j,h1,h2,N,i):=h;show#[j,by rw[e];show h1,h2,λx D=>cW.same z.1 (N x D),i.mono z]
 |exc C=>let(c,q,h1):=h;show#[c,q,by rw[e];show h1]
 |obj C ks ps=>let(c,dx,fs,q,h1,h2,i):=h;show#[c,dx,fs,q,by rw[e];show h1,h2,i.mono z]
 |_=>show h
def qU.some(h:qU K Z H a p):∃o,H a=!o/\¬ J9 o:=by
 cases p with
 |lst ps=>let(j,h1,h2):=h;show#[_,h1,λz=>z]
 |dk ks ps=>let(j,h1,h2,i):=h;show#[_,h1,λz=>z]
 |dt ks ps=>let(j,h1,h2,i):=h;show#[_,h1,λz=>z]
 |dx hk ks ps=>let(j,h1,h2,i):=h;show#[_,h1,λz=>z]
 |exc C=>let(c,D,h1):=h;show#[_,h1,λz=>z]
 |obj C ks ps=>let(c,dx,fs,D,h1,h2,i):=h;show#[_,h1,λz=>z]
 |_=>show h.elim
def qU.rep(h:qU K Z H a p)(z:iu Z Z')(e:Z'.z a=H a):bP K Z' p (.ref a):=by
 cases p with
 |lst ps=>let(j,h1,h2):=h;unfold bP;show#[a,j,O,bY.of ∅,h2.mono z]
 |dk ks ps=>let(j,h1,h2,i):=h;unfold bP;show#[a,j,O,by rw[e];show h1,h2,i.mono z]
 |dt ks ps=>let(j,h1,h2,i):=h;unfold bP;show#[a,j,O,by rw[e];show h1,h2,i.mono z]
 |dx hk ks ps=>let(j,h1,h2,N,i):=h;unfold bP;show#[a,j,O,by rw[e];show h1,h2,λx D=>cW.same z.1 (N x D),i.mono z]
 |exc C=>let(c,q,h1):=h;unfold bP;grind
 |obj C ks ps=>let(c,dx,fs,q,h1,h2,i):=h;unfold bP;show#[a,c,dx,fs,O,q,by rw[e];show h1,h2,i.mono z]
 |_=>show h.elim
def ah.step(h:ah K H0 Z H L)(z:iu Z Z')(hk:∀e∈L,∀a,mj e=!a->H' a=H a/\Z'.z a=J):ah K H0 Z' H' L:=by
 show#[λe F=>?_,h.2];let q:=h.1 e F;let(v,l):=e;cases l with
 |none=>trivial
 |some l=>
  cases l with
  |sh p=>let(x,i,D):=q;show#[x,i,D.mono z]
  |own p=>
   let(a,i,D,e3,N):=q;let j:=i;subst j;let(W,Q):=hk _ F a O;show#[a,O,D.keep z W,Q,N]
def jn(h:ah K H0 Z H L)(he:e∈L)(i:mj e=!a):Z.z a=J/\H0 a=J/\∃o,H a=!o/\¬ J9 o:=by
 let(v,l):=e;let q:=h.1 _ he;cases l with
 |none=>cases v with
  |none=>cases i
  |some x=>cases x<;>cases i
 |some l=>
  cases l with
  |sh p=>cases v with
   |none=>cases i
   |some x=>cases x<;>cases i
  |own p=>
   let(b,F,N,Q,D):=q;let j:=F;subst j;cases i;show#[Q,D,N.some]
theorem ah.new(h:ah K H0 Z H L)(j:jQ H0 Z0 Z H)(q:H a=J)(N:qU K Z (aI H a o) a p):jQ H0 Z0 Z (aI H a o)/\ah K H0 Z (aI H a o) ((!(.ref a),!(Zs p))::L):=by
 let D:=j.zh.free q;let F:=j.h0.free q;show#[#[λb u e=>by rw[cV (fD e D)];show j.zh b u e,λb u e=>by rw[cV (fD e F)];show j.h0 b u e,j.z0,j.new],?_];have W:∀e∈L,∀b,mj e=!b->b≠a:=λe i b z=>by let(_,_,o',Q,_):=jn h i z;show fD Q q
 let st:=h.step (H':=aI H a o) (iu.refl Z) λe i b z=>#[cV ∅,(jn h i z).1];show#[λe i=>?_,?_]
 . obtain rfl|i:=bh.mp i
   . show#[a,O,N,D,F]
   . show st.1 e i
 . show h_.mpr #[λhm=>?_,st.2];grind
abbrev ZG.put(Z:ZG)(a:Addr)(o:HO):ZG:=#[aI Z.z a o,Z.g]
def ah.newF(h:ah K H0 Z H L)(i:jQ H0 Z0 Z H)(F:H a=J):jQ H0 Z0 (Z.put a o) (aI H a o)/\iu Z (Z.put a o)/\ah K H0 (Z.put a o) (aI H a o) L:=by
 let N:=i.zh.free F;let h0:=i.h0.free F;have sz:eY_ Z.z (aI Z.z a o):=λb u e=>by rw[cV (fD e N)];show e
 have D:iu Z (Z.put a o):=#[sz,kQ _];show#[#[λb u e=>?_,λb u e=>by rw[cV (fD e h0)];show i.h0 b u e,i.z0.trans D,λb u e=>?_],D,?_]
 . have e:aI Z.z a o b=!u:=e;unfold aI at e ⊢;split
   . grind
   . rename_i q;rw[a_ q]at e;show i.zh b u e
 . have e:aI Z.z a o b=!u:=e;unfold aI at e;split at e
   . grind
   . show i.new b u e
 . show h.step D λe W b Q=>?_;let(h1,h2,o',h3,_):=jn h W Q;let j:=fD h3 F;show#[cV j,by show aI Z.z a o b=J;rw[cV j];show h1]
def ah.freeze(h:ah K H0 Z H ((v,!(Zs p))::L))(i:jQ H0 Z0 Z H):∃Z',iu Z Z'/\Z'.g=Z.g/\jQ H0 Z0 Z' H/\ah K H0 Z' H ((v,!(Zp p))::L):=by
 let(a,e1,e2,e3,e4):=h.1 _ cS;let D:=e1;subst D;let(o,ho,_):=e2.some;have sz:eY_ Z.z (aI Z.z a o):=λb u e=>by rw[cV (fD e e3)];show e
 have j:iu Z (Z.put a o):=#[sz,kQ _];let Q:=h.2;let W:=h.sub (f7 _ _);show#[Z.put a o,j,O,#[λb u e=>?_,i.h0,i.z0.trans j,λb u e=>?_],λe N=>?_,(h_.mp Q).2]
 . have e:aI Z.z a o b=!u:=e;unfold aI at e;split at e
   . grind
   . show i.zh b u e
 . have e:aI Z.z a o b=!u:=e;unfold aI at e;split at e
   . grind
   . show i.new b u e
 . obtain rfl|N:=bh.mp N
   . show#[.ref a,O,e2.rep j (by show aI Z.z a o a=_;rw[bZ,ho])]
   . show(W.step j λe' F b hb=>#[O,?_]).1 e N;have:b≠a:=λq=>by rw[q]at hb;show(h_.mp Q).1 ∅
     show aI Z.z a o b=J;rw[cV this];show(jn W F hb).1
def ah.write(h:ah K H0 Z H ((!(.ref a),!(Zs p))::L))(i:jQ H0 Z0 Z H)(hq:qU K Z (aI H a o) a q):jQ H0 Z0 Z (aI H a o)/\ah K H0 Z (aI H a o) ((!(.ref a),!(Zs q))::L):=by
 let(b,e1,e2,Q,D):=h.1 _ cS;cases e1;let N:=h.2;let W:=h.sub (f7 _ _);show#[#[λb u e=>by rw[cV (fD e Q)];show i.zh b u e,λb u e=>by rw[cV (fD e D)];show i.h0 b u e,i.z0,i.new],λe z=>?_,N];obtain rfl|z:=bh.mp z
 . show#[a,O,hq,Q,D]
 . show(W.step (iu.refl Z) λe' j b F=>#[cV λq=>?_,(jn W j F).1]).1 e z;rw[q]at F;show(h_.mp N).1 ∅
end
variable {K:FG}{H0 H:Hp}{Z0:ZG}{U:L2.St}{Y:Ev}{pd:Pd}
theorem Af{α:Type}:∀{l:List α}{i:Nat}{a:α},l[i]?=!a->∃ZN,Perm l (a::ZN)/\∀b,Perm (l.set i b) (b::ZN)
 |[],i,a=>λh=>by grind
 |x::r,0,a=>λh=>by simp at h;subst h;show#[r,Perm.refl _,λb=>Perm.refl _]
 |x::r,i+1,a=>λh=>by let(ZN,h1,h2):=Af (by simpa using h);show#[x::ZN,(h1.cons x).trans (ga _ _ _),λb=>?_];show((h2 b).cons x).trans (ga _ _ _)
theorem G4{α β:Type}:∀(l:List α)(r:List β)(i:Nat)(a:α)(b:β),(l.set i a).zip (r.set i b)=(l.zip r).set i (a,b)
 |[],r,i=>λa b=>by simp
 |x::l,[],i=>λa b=>by simp
 |x::l,y::r,0=>λa b=>by simp
 |x::l,y::r,i+1=>λa b=>by simp[G4 l r i a b]
theorem zip_get{α β:Type}:∀{l:List α}{r:List β}{i:Nat}{a:α}{b:β},l[i]?=!a->r[i]?=!b->(l.zip r)[i]?=!(a,b)
 |[],r,i,a,b=>λh g=>by simp at h
 |x::l,[],i,a,b=>λh g=>by simp at g
 |x::l,y::r,0,a,b=>λh g=>by simp at h g;simp[h,g]
 |x::l,y::r,i+1,a,b=>λh g=>by have:=zip_get (by simpa using h) ();simpa using this
theorem k7{α:Type}:∀{l:List α}{i:Nat}{a:α},l[i]?=!a->l.set i a=l
 |[],i,a=>λh=>by grind
 |x::r,0,a=>λh=>by grind
 |x::r,i+1,a=>λh=>by simp[k7 (by simpa using h)]
noncomputable def Ev.set (Y:Ev) (i:Nat) (x:Option Lc):Ev:=#[Y.vs.set i x,Y.mu]
section
variable {K:FG}{H0 H H':Hp}{Z0 Z:ZG}{U:L2.St}{Y:Ev}{pd im:Pd}{v w:V}{l:Lc}{p:PV}{L:Sl}{g:List Addr}
def dD:Perm (sl g U Y ((v,l)::pd)) ((!v,!l)::sl g U Y pd):=by show(perm_middle.append_left _).trans gx
def SR.top(h:SR K H0 Z0 U H Y ((v,l)::pd)):-U=-Y.vs/\∃Z,-Y.mu=-Z.g/\jQ H0 Z0 Z H/\ah K H0 Z H ((!v,!l)::sl Z.g U Y pd):=
 let #[e,Z,hg,z,s]:=h
 #[e,Z,hg,z,s.perm dD.symm]
def SR.mk(e:-U=-Y.vs)(i:-Y.mu=-Z.g)(z:jQ H0 Z0 Z H)(s:ah K H0 Z H ((!v,!l)::sl Z.g U Y pd)):SR K H0 Z0 U H Y ((v,l)::pd):=#[e,Z,i,z,s.perm dD]
def SR.pop(h:SR K H0 Z0 U H Y ((v,l)::pd)):SR K H0 Z0 U H Y pd:=
 let #[e,Z,hg,z,s]:=h.top
 #[e,Z,hg,z,s.sub (f7 _ _)]
theorem SR.perm(h:SR K H0 Z0 U H Y pd)(q:Perm im pd):SR K H0 Z0 U H Y im:=
 let #[e,Z,hg,z,s]:=h
 #[e,Z,hg,z,s.perm (((q.map _).append_left _).append_left _)]
def SR.swap(h:SR K H0 Z0 U H Y ((v,l)::(w,l2)::pd)):SR K H0 Z0 U H Y ((w,l2)::(v,l)::pd):=h.perm (ga _ _ _)
theorem SR.freeze(h:SR K H0 Z0 U H Y ((v,l)::pd)):SR K H0 Z0 U H Y ((v,Zp l.pv)::pd):=by
 cases l with
 |sh p=>show h
 |own p=>
  let(e,Z,q,z,s):=h.top;let(Z',_,j,i,s'):=s.freeze z;show .mk e ∅ i ?_;rw[j];show s'
def SR.sh(h:SR K H0 Z0 U H Y ((v,Zp p)::pd)):-U=-Y.vs/\∃Z,-Y.mu=-Z.g/\jQ H0 Z0 Z H/\bP K Z p v/\ah K H0 Z H (sl Z.g U Y pd):=by let(e,Z,i,z,s):=h.top;let(x,q,j):=s.1 _ cS;cases q;show#[e,Z,i,z,j,s.sub (f7 _ _)]
def SR.rep(h:SR K H0 Z0 U H Y ((v,Zp p)::pd)):∃Z:ZG,eY_ Z.z H/\bP K Z p v:=let #[_,Z,_,z,r,_]:=h.sh;#[Z,z.zh,r]
def SR.repH(h:SR K H0 Z0 U H Y ((v,Zp p)::pd)):∃g,bP K #[H,g] p v:=let #[_,Z,_,z,r,_]:=h.sh;#[Z.g,r.mono (Z':=#[H,Z.g]) #[z.zh,kQ _]]
def ah.consS(s:ah K H0 Z H L)(r:bP K Z p v):ah K H0 Z H ((!v,!(Zp p))::L):=by
 show#[λe i=>?_,?_]
 . obtain rfl|i:=bh.mp i
   . show#[v,O,r]
   . show s.1 e i
 . have:mj (!v,!(Lc.sh p))=J:=by cases v<;>rfl
   rw[j3 this];show s.2
def SR.scal(h:SR K H0 Z0 U H Y pd)(r:∀Z,bP K Z p v):SR K H0 Z0 U H Y ((v,Zp p)::pd):=
 let #[e,Z,hg,z,s]:=h
 .mk e hg z (s.consS (r Z))
def Ly(q:-U=-Y.vs)(e:Y.vs[i]?=!o):∃ZN:Sl,∃x,U[i]?=!x/\(∀g pd,List.Perm (sl g U Y pd) ((x,o)::(cel g Y.mu++(ZN++pd.map λe=>(!e.1,!e.2)))))/\
 ∀g pd y o',Perm (sl g (U.set i y) (Y.set i o') pd) ((y,o')::(cel g Y.mu++(ZN++pd.map λe=>(!e.1,!e.2)))):=by
 have hi:i< -U:=by rw[q];show(fr.mp e).1
 let j:=ge hi;let(ZN,h1,h2):=Af (zip_get j e);show#[ZN,U[i],j,λg pd=>?_,λg pd y o'=>?_]
 . show((h1.append_right _).append_left _).trans gx
 . show List.Perm (cel g Y.mu++((U.set i y).zip (Y.vs.set i o')++_)) _;rw[G4];show(((h2 _).append_right _).append_left _).trans gx
def Ev.set_mu:(Y.set i x).mu=Y.mu:=rfl
def Ev.set_len:(Y.set i x).vs.length=-Y.vs:=by show -(Y.vs.set i x)=_;rw[rV]
def SR.var(h:SR K H0 Z0 U H Y pd)(e:Y.vs[i]?=!(!l)):∃v,U[i]?=!(!v)/\SR K H0 Z0 U H (Y.set i (!(.sh l.pv))) ((v,.sh l.pv)::pd):=by
 let(W,Z,hg,z,s):=h;let(ZN,x,Q,h1,h2):=Ly W e;let N:=s.perm (h1 Z.g pd).symm;have D:-U=(Y.set i (!(.sh l.pv))).vs.length:=by rw[Ev.set_len];show W
 have fin:∀{Z':ZG}{v:V},Z'.g=Z.g->jQ H0 Z0 Z' H->x=!v->ah K H0 Z' H ((x,!(.sh l.pv))::(cel Z.g Y.mu++(ZN++pd.map λe=>(!e.1,!e.2))))->bP K Z' l.pv v->SR K H0 Z0 U H (Y.set i (!(.sh l.pv))) ((v,.sh l.pv)::pd):=
  λ{Z' v} q z ev s2 r=>by let p2:=h2 Z.g pd x (!(.sh l.pv));rw[k7 Q]at p2;show .mk D (by rw[q,Ev.set_mu];show hg) z ?_;rw[q];show(s2.perm p2).consS r
 cases l with
 |sh p=>
  let(v,j,F):=N.1 _ cS;show#[v,Q.trans ∅,fin rfl z j N F]
 |own p=>
  let(Z',sz,q,z',s'):=N.freeze z;let(v,j,F):=s'.1 _ cS;show#[v,Q.trans ∅,fin q z' j s' F]
def SR.store(h:SR K H0 Z0 U H Y ((v,l)::pd))(hi:i< -Y.vs):SR K H0 Z0 (U.set i (!v)) H (Y.set i (!l)) pd:=by let(j,Z,q,z,s):=h.top;let D:=ge hi;let(ZN,x,F,h1,h2):=Ly j D;show#[by rw[rV,Ev.set_len];show j,Z,q,z,?_];show(ah.sub (s.perm ((h1 Z.g pd).symm.cons _)) ?_).perm (h2 Z.g pd (!v) (!l));grind
def SR.take(h:SR K H0 Z0 U H Y pd)(e:Y.vs[i]?=!(!l)):∃v,U[i]?=!(!v)/\SR K H0 Z0 U H (Y.set i none) ((v,l)::pd):=by
 let(Q,Z,hg,z,s):=h;let(ZN,x,N,h1,h2):=Ly Q e;let F:=s.perm (h1 Z.g pd).symm;obtain⟨v,W⟩:∃v,x=!v:=by
  let q:=F.1 _ cS;cases l with
  |sh p=>let(x,D,_):=q;show#[x,D]
  |own p=>let(a,D,_):=q;show#[_,D]
 subst W;show#[v,N,.mk (by rw[Ev.set_len];show Q) hg z ?_];let p2:=h2 Z.g pd (!v) none;rw[k7 N]at p2;show ah.perm ?_ (p2.cons _);have ht:ah K H0 Z H ((!v,none)::(!v,!l)::(cel Z.g Y.mu++(ZN++pd.map λe=>(!e.1,!e.2)))):=by
  show#[λe j=>?_,?_]
  . obtain rfl|j:=bh.mp j
    . trivial
    . show F.1 e j
  . have:mj (!v,none)=none:=by cases v<;>rfl
    rw[j3 this];show F.2
 show ht.perm (List.Perm.swap _ _ _)
def SR.put(h:SR K H0 Z0 U H Y ((v,l)::pd))(e:U[i]?=!(!v)):SR K H0 Z0 U H (Y.set i (!l)) pd:=by
 have hi:i< -Y.vs:=by rw[<-h.1];show(fr.mp e).1
 have:=h.store hi;rw[k7 e]at this;grind
end
abbrev EF:=Ev->Option (Lc×Ev)
abbrev TF:=Ev->Option (Bool×Ev)
abbrev AF:=Ev->Option (List Lc×Ev)
inductive Fl where
 |nx (Y:Ev)
 |rt (r:Lc) (Y:Ev)
 |bk (Y:Ev)
 |ct (Y:Ev)
abbrev SF:=Ev->Option Fl
def tP(K:FG)(f:EF):TE:=λU H Q=>∃H0 Z0 Y pd r Y',SR K H0 Z0 U H Y pd/\f Y=!(r,Y')/\∀v H',SR K H0 Z0 U H' Y' ((v,r)::pd)->Q v H'
def jw(K:FG)(f:TF):TT:=λU H Q=>∃H0 Z0 Y pd b Y',SR K H0 Z0 U H Y pd/\f Y=!(b,Y')/\∀H',SR K H0 Z0 U H' Y' pd->Q b H'
def jR(K:FG)(f:AF):TA:=λU H Q=>∃H0 Z0 Y pd ls Y',SR K H0 Z0 U H Y pd/\f Y=!(ls,Y')/\∀vs H',-vs=-ls->SR K H0 Z0 U H' Y' (vs.zip ls++pd)->Q vs H'
def Lz(K:FG)(H0:Hp)(Z0:ZG)(pd:Pd)(D:ij):Fl->Prop
 |.nx Y'=>∀U' H',SR K H0 Z0 U' H' Y' pd->D.nx U' H'
 |.rt r Y'=>∀v U' H',SR K H0 Z0 U' H' Y' ((v,r)::pd)->D.rt v H'
 |.bk Y'=>∀U' H',SR K H0 Z0 U' H' Y' pd->D.bk U' H'
 |.ct Y'=>∀U' H',SR K H0 Z0 U' H' Y' pd->D.ct U' H'
def iw(K:FG)(g:SF):TS:=λD U H=>∃H0 Z0 Y pd fl,SR K H0 Z0 U H Y pd/\g Y=!fl/\Lz K H0 Z0 pd D fl
section
variable {X:Cx}{e:Expr}{es:List Expr}{st:Stmt}{CL:List Stmt}
def PE.imp(h:PE X e t)(i:∀U H Q,t' U H Q->t U H Q):PE X e t':=λae s U H Q I q=>h ae s U H Q I (i U H Q q)
def PT.imp(h:PT X e t)(i:∀U H Q,t' U H Q->t U H Q):PT X e t':=λae s U H Q I q=>h ae s U H Q I (i U H Q q)
def PW.imp(h:PW X e t)(i:∀U H Q,t' U H Q->t U H Q):PW X e t':=λwh ae s U H Q I q=>h wh ae s U H Q I (i U H Q q)
def PA.imp(h:PA X es t)(i:∀U H Q,t' U H Q->t U H Q):PA X es t':=λpos ae s U H Q I q=>h pos ae s U H Q I (i U H Q q)
def PS.imp(h:PS X st t)(i:∀D U H,t' D U H->t D U H):PS X st t':=λae s U H D I q=>h ae s U H D I (i D U H q)
def jP.imp(h:jP X CL t)(i:∀D U H,t' D U H->t D U H):jP X CL t':=λae s U H D I q=>h ae s U H D I (i D U H q)
def aa(i:Nat):EF:=λY=>match Y.vs[i]? with
 |some (!l)=>!(Zp l.pv,Y.set i (!(Zp l.pv)))
 |_=>J
def eC(p:PV):EF:=λY=>!(Zp p,Y)
abbrev fy(i:Int):=eC (ZI i)
abbrev om(s:Str):=eC (ZH s)
abbrev ai(i:Int):=eC (ZI i)
abbrev c6(s:Str):=eC (ZH s)
set_option tactic.hygienic true in
def qv(h:PE X e (uH i)):PE X e (tP X.K (aa i)):=PE.imp h λU H Q q=>by
 let(H0,Z0,Y,pd,r,Y',s,f,k):=q;unfold aa at f;split at f
 . rename_i l j;cases f;let(v,h1,h2):=s.var j;show#[v,h1,k v H h2]
 . cases f
def qc(h:PE X e (tC v))(r:∀Z,bP X.K Z p v):PE X e (tP X.K (eC p)):=PE.imp h λU H Q q=>by let(H0,Z0,Y,pd,l,Y',s,f,k):=q;cases f;show k v H (s.scal r)
def gF:∀Z,bP K Z (ZI i) (.int i):=λZ=>by unfold bP;rfl
def pq:∀Z,bP K Z (ZH i) (.str i):=λZ=>by unfold bP;rfl
def mq:∀Z,bP K Z (.bl i) (.bl i):=λZ=>by unfold bP;rfl
def Bq:∀Z,bP K Z .non .non:=λZ=>by unfold bP;rfl
def pA(K:FG)(r:R2)(g:PV->PV->Option Lc):Prop:=∀H0 Z0 U Y pd H v w x y l Q,SR K H0 Z0 U H Y ((w,Zp y)::(v,Zp x)::pd)->g x y=!l->(∀u H',SR K H0 Z0 U H' Y ((u,l)::pd)->Q u H')->r v w H Q
def au(g:PV->PV->Option Lc)(fa fb:EF):EF:=λY=>(fa Y).bind λx=>(fb x.2).bind λy=>(g x.1.pv y.1.pv).map λl=>(l,y.2)
def Xj(h:au g fa fb Y=!(l,Y')):∃x Y1 y,fa Y=!(x,Y1)/\fb Y1=!(y,Y')/\g x.pv y.pv=!l:=by
 unfold au at h;cases h1:fa Y with
 |none=>grind
 |some x=>
  cases h2:fb x.2 with
  |none=>grind
  |some y=>
   cases i:g x.1.pv y.1.pv with
   |none=>grind
   |some z=>
    grind
def LC(hs:pA X.K r g):∀U H Q,tP X.K (au g fa fb) U H Q->T3 r (tP X.K fa) (tP X.K fb) U H Q:=λU H Q q=>by let(H0,Z0,Y,pd,l,Y',s,f,k):=q;let(x,Y1,y,h1,h2,z):=Xj f;show#[H0,Z0,Y,pd,x,Y1,s,h1,λv H1 j=>#[H0,Z0,Y1,_,y,Y',j,h2,λw H2 D=>?_]];show hs H0 Z0 U Y' pd H2 v w x.pv y.pv l Q (D.freeze.swap.freeze.swap) z λu H' F=>k u H' F
def bj(j:ju X (binaryOp op) r)(hs:pA X.K r g)(z:PE X a (tP X.K fa))(q:PE X b (tP X.K fb)):PE X (.BinOp a op b pos) (tP X.K (au g fa fb)):=
 PE.imp (KS j z q) (LC hs)
def Xk(j:ju X (compareOp op) r)(hs:pA X.K r g)(z:PE X a (tP X.K fa))(D:PE X b (tP X.K fb))(q:behindInMarks op b=M):PE X (.Compare a [op] [b] pos) (tP X.K (au g fa fb)):=
 PE.imp (ZL j z D q) (LC hs)
noncomputable def CZ (C:Int->Int->Bool) (g:Int->Int->PV):PV->PV->Option Lc
 |ZI i,ZI j=>if C i j=G then !(Zp (g i j)) else J
 |_,_=>J
def LK(h:CZ C g x y=!l):∃i j,x=ZI i/\y=ZI j/\C i j=G/\l=Zp (g i j):=by
 cases x with
 |int i=>
  cases y with
  |int j=>
   have h':(if C i j=G then !(Lc.sh (g i j)) else J)=!l:=h;split at h'
   . grind
   . cases h'
  |_=>cases h
 |_=>cases h
def cF(h:bP K Z (ZI i) v):v=.int i:=by  show h
def dN(h:bP K Z (ZH i) v):v=.str i:=by  show h
def ji(h:bP K Z (.bl i) v):v=.bl i:=by  show h
def jL(h:bP K Z .non v):v=.non:=by  show h
def Ka(F:∀i j,C i j=G->C' i j)(D:∀i j Z,bP K Z (g i j) (gV i j)):pA K (rI C' gV) (CZ C g):=by intro H0 Z0 U Y pd H v w x y l Q s e k;let(i,j,rfl,rfl,c,rfl):=LK e;let(_,q):=s.repH;let(_,z):=s.pop.repH;let N:=cF q;let W:=cF z;show#[i,j,W,N,F i j c,k _ H (s.pop.pop.scal (D i j))]
def LR(D:∀i j Z,bP K Z (g i j) (gV i j)):pA K (zG gV) (CZ (λ_ _=>G) g):=by intro H0 Z0 U Y pd H v w x y l Q s e k;let(i,j,rfl,rfl,c,rfl):=LK e;let(_,q):=s.repH;let(_,z):=s.pop.repH;show#[i,j,cF z,cF q,k _ H (s.pop.pop.scal (D i j))]
end
section
variable {X:Cx}
section
variable {K:FG}{H0 H H':Hp}{Z0 Z:ZG}{U:L2.St}{Y:Ev}{pd im:Pd}{v w:V}{l:Lc}{p:PV}{g:List Addr}
def SR.newO(h:SR K H0 Z0 U H Y pd)(q:H a=J)(F:∀Z,jQ H0 Z0 Z H->ah K H0 Z H (sl Z.g U Y pd)->qU K Z (aI H a o) a p):SR K H0 Z0 U (aI H a o) Y ((.ref a,Zs p)::pd):=by let(e,Z,D,z,s):=h;let(j,s'):=s.new z q (F Z z s);show .mk e D j s'
def Kc{α:Type}(A B C:List α):Perm (A++(B++C)) (B++(A++C)):=by rw[<-eK A B C,<-eK B A C];show perm_append_comm.append_right _
def U8:Perm (sl g U Y (pe++pd)) (pe.map (λe=>((some e.1:Option V),(some e.2:Option Lc)))++sl g U Y pd):=by unfold sl;rw[eD];show((Kc _ _ _).append_left _).trans (Kc _ _ _)
theorem SR.freezeAll:∀{vs:List V}{ls:List Lc}{pd:Pd},SR K H0 Z0 U H Y (vs.zip ls++pd)->SR K H0 Z0 U H Y (vs.zip (ls.map λl=>.sh l.pv)++pd)
 |[],ls,pd=>λh=>by simpa using h
 |v::vs,[],pd=>λh=>by grind
 |v::vs,l::ls,pd=>λh=>by let h1:=h;let h2:=h1.freeze.perm gx;let i:=SR.freezeAll h2;show i.perm gx.symm
theorem ah.repl:∀{vs:List V}{ps:List PV},-vs=-ps->ah K H0 Z H ((vs.zip (ps.map λp=>Lc.sh p)).map (λe=>(!e.1,!e.2))++L)->aK K Z ps vs
 |[],[]=>λ_ _=>.nil
 |v::vs,p::ps=>λe h=>by let h1:=h;let(x,j,i):=h1.1 _ cS;cases j;show aK.cons i (ah.repl ∅ (h1.sub (f7 _ _)))
 |[],p::ps=>λe _=>by grind
 |v::vs,[]=>λe _=>by grind
theorem SR.repl{vs:List V}{ls:List Lc}(h:SR K H0 Z0 U H Y (vs.zip ls++pd))(e:-vs=-ls):-U=-Y.vs/\∃Z,-Y.mu=-Z.g/\jQ H0 Z0 Z H/\aK K Z (ls.map Lc.pv) vs/\ah K H0 Z H (sl Z.g U Y pd):=by
 let(i,Z,j,z,s):=h.freezeAll;have D:(ls.map λl=>Lc.sh l.pv)=(ls.map Lc.pv).map λp=>Lc.sh p:=by rw[fE];rfl
 rw[D]at s;have q:Perm (sl Z.g U Y (vs.zip ((ls.map Lc.pv).map λp=>Lc.sh p)++pd)) ((vs.zip ((ls.map Lc.pv).map λp=>Lc.sh p)).map (λe=>(!e.1,!e.2))++sl Z.g U Y pd):=U8;let s':=s.perm q.symm;show#[i,Z,j,z,ah.repl ∅ s',s'.sub (nI _ _)]
end
def yZ{α:Type}{l:List α}(h:-l=1):∃a,l=[a]:=length_eq_one_iff.mp h
def qk{α:Type}{l:List α}(h:-l=2):∃a b,l=[a,b]:=by
 cases l with
 |nil=>cases h
 |cons a l=>let(b,rfl):=yZ (pb h);grind
def CM{α:Type}{l:List α}(h:-l=3):∃a b c,l=[a,b,c]:=by
 cases l with
 |nil=>cases h
 |cons a l=>let(b,c,rfl):=qk (pb h);grind
def CO{α:Type}{l:List α}(h:-l=4):∃a b c d,l=[a,b,c,d]:=by
 cases l with
 |nil=>cases h
 |cons a l=>let(b,c,d,rfl):=CM (pb h);grind
def P5{α:Type}{l:List α}(h:-l=5):∃a b c d e,l=[a,b,c,d,e]:=by
 cases l with
 |nil=>cases h
 |cons a l=>let(b,c,d,e,rfl):=CO (pb h);show#[a,b,c,d,e,O]
def ao:AF:=λY=>!([],Y)
noncomputable def aj (f:EF) (g:AF):AF:=λY=>(f Y).bind λx=>(g x.2).map λy=>(x.1::y.1,y.2)
def aq:PA X [] (jR X.K ao):=PA.imp zK λU H Q q=>by let(H0,Z0,Y,pd,l,Y',s,f,k):=q;cases f;show k [] H O s
def ak(i:PE X e (tP X.K f))(F:PA X es (jR X.K g))(hs:starEach (e::es) X.env=(M,eval e X.env)::starEach es X.env:=by rfl):PA X (e::es) (jR X.K (aj f g)):=PA.imp (wz i F hs) λU H Q q=>by
 let(H0,Z0,Y,pd,l,Y',s,h,k):=q;unfold aj at h;cases h1:f Y with
 |none=>grind
 |some x=>
  rw[h1,c9]at h;cases h2:g x.2 with
  |none=>grind
  |some y=>
   rw[h2]at h;cases h;show#[H0,Z0,Y,pd,x.1,x.2,s,h1,λv H1 D=>#[H0,Z0,x.2,_,y.1,y.2,D,h2,λz H2 N j=>?_]];show k (v::z) H2 ∅ (j.perm gx.symm)
def cu(g:AF):EF:=λY=>(g Y).bind λy=>if -y.1<=1000 then !(Zs (R (y.1.map Lc.pv)),y.2) else J
def aX(g:AF):EF:=λY=>(g Y).bind λy=>if -y.1<=1000 then !(Zp (ZB (y.1.map Lc.pv)),y.2) else J
def fL(h:n<=100000):n<=sizeLine:=by  lia
def dz(h:PA X es (jR X.K g)):PE X (.List es pos) (tP X.K (cu g)):=PE.imp (LD h) λU H Q q=>by
 let(H0,Z0,Y,pd,l,Y',s,f,k):=q;unfold cu at f;cases h2:g Y with
 |none=>grind
 |some y=>
  rw[h2,c9]at f;split at f
  . cases f;show#[H0,Z0,Y,pd,y.1,y.2,s,h2,λW H2 e2 N=>#[fL (),λp hp=>k _ _ ?_]];let(j,Z,D,z,r,i):=N.repl e2;let(F,s'):=i.new (p:=R (y.1.map Lc.pv)) z hp #[W,bZ,r];show .mk j D F s'
  . cases f
def cP{x1}(h:PA X es (jR X.K g)):PE X (.Tuple es x1 pos) (tP X.K (aX g)):=PE.imp (AS h) λU H Q q=>by
 let(H0,Z0,Y,pd,l,Y',s,f,k):=q;unfold aX at f;cases h2:g Y with
 |none=>grind
 |some y=>
  rw[h2,c9]at f;split at f
  . cases f;show#[H0,Z0,Y,pd,y.1,y.2,s,h2,λj H2 e2 W=>#[fL (),λp hp=>k _ _ ?_]];let(D,Z,F,z,r,i):=W.repl e2;let(N,sz,s'):=i.newF z hp;show .mk (Z:=Z.put p (.tup j)) D F N (s'.consS ?_);show#[p,j,O,cW.of bZ,r.mono sz]
  . cases f
def tT(f:EF)(tr:PV->Option Bool):TF:=λY=>(f Y).bind λx=>(tr x.1.pv).map λb=>(b,x.2)
noncomputable def qW:PV->Option Bool
 |.non=>!M
 |.bl b=>!b
 |ZI i=>!(i != 0)
 |ZH x=>if -x<=100000 then !((-x:Int) != 0) else J
 |ZB ps=>!(not ps.isEmpty)
 |R ps=>!(not ps.isEmpty)
 |.dk ks ps=>!(not ps.isEmpty)
 |_=>J
def P6(r:bP K #[H,g] p v)(h:qW p=!b):Wn K v H b:=by
 cases p with
 |non=>have:=jL r;subst this;cases h;show O
 |bl c=>have:=ji r;subst this;cases h;show O
 |int i=>have:=cF r;subst this;cases h;show O
 |str x=>
  have:=dN r;subst this;have h:(if -x<=100000 then !((-x:Int) != 0) else J)=!b:=h;split at h
  . rename_i F;cases h;show#[fL F,O]
  . cases h
 |tup ps=>
  let(a,j,rfl,h1,h2):=r;cases h;show YY (Zl #[j,h1,?_]);have:=-h2;grind
 |lst ps=>
  let(a,j,rfl,h1,h2):=r;cases h;show Zl #[j,h1,?_];have:=-h2;grind
 |dk ks ps=>
  let(a,q,rfl,h1,W,h2):=r;cases h;show YY (YY #[q,h1,?_]);have:=-h2;grind
 |_=>cases h
def Qw(h:tT f tr Y=!(b,Y')):∃x,f Y=!(x,Y')/\tr x.pv=!b:=by
 unfold tT at h;cases h1:f Y with
 |none=>grind
 |some x=>
  cases h2:tr x.1.pv with
  |none=>grind
  |some y=>grind
def Fo(D:PE X a (tP X.K f))(he:∀j,isTrue a X.env j=(do let v <-j;standAt a.pos;holding [v] (truthy v))):PT X a (jw X.K (tT f qW)):=PT.imp (Wo D he) λU H Q q=>by let(H0,Z0,Y,pd,b,Y',s,F,k):=q;let(x,h1,h2):=Qw F;show#[H0,Z0,Y,pd,x,Y',s,h1,λv H1 z=>#[b,P6 z.freeze.repH.choose_spec h2,k H1 z.pop]]
def aY:PV->Option Bool
 |.bl b=>!b
 |_=>J
def P7(z:PT X a (YT (tP X.K f))):PT X a (jw X.K (tT f aY)):=PT.imp z λU H Q q=>by
 let(H0,Z0,Y,pd,b,Y',s,D,k):=q;let(x,h1,h2):=Qw D;show#[H0,Z0,Y,pd,x,Y',s,h1,λv H1 j=>#[b,?_,k H1 j.pop]];let(_,r):=j.freeze.repH;cases e:x.pv with
 |bl c=>rw[e]at h2 r;cases h2;show ji r
 |_=>rw[e]at h2;cases h2
def bN(z:ju X (compareOp op) r)(hs:pA X.K r g)(F:PE X a (tP X.K fa))(j:PE X b (tP X.K fb))(D:behindInMarks op b=M):PT X (.Compare a [op] [b] pos) (jw X.K (tT (au g fa fb) aY)):=
 P7 (PT.imp (ZM z F j D) λU H Q q=>LC hs U H _ q)
def eE(f g:TF):TF:=λY=>(f Y).bind λx=>if x.1=G then g x.2 else !(M,x.2)
def tO(f g:TF):TF:=λY=>(f Y).bind λx=>if x.1=G then !(G,x.2) else g x.2
noncomputable def Br (f:TF):TF:=λY=>(f Y).map λx=>(not x.1,x.2)
def P8:∀U H Q,jw X.K (eE f g) U H Q->AI (jw X.K f) (jw X.K g) U H Q:=λU H Q q=>by
 let(H0,Z0,Y,pd,b,Y',s,h,k):=q;unfold eE at h;cases h1:f Y with
 |none=>grind
 |some x=>
  rw[h1,c9]at h;show#[H0,Z0,Y,pd,x.1,x.2,s,h1,λH1 j=>?_];dsimp only;split
  . rename_i c;rw[ax c]at h;show#[H0,Z0,x.2,pd,b,Y',j,h,k]
  . grind
def P9:∀U H Q,jw X.K (tO f g) U H Q->AJ (jw X.K f) (jw X.K g) U H Q:=λU H Q q=>by
 let(H0,Z0,Y,pd,b,Y',s,h,k):=q;unfold tO at h;cases h1:f Y with
 |none=>grind
 |some x=>
  rw[h1,c9]at h;show#[H0,Z0,Y,pd,x.1,x.2,s,h1,λH1 j=>?_];dsimp only;split
  . grind
  . rename_i c;rw[a_ c]at h;show#[H0,Z0,x.2,pd,b,Y',j,h,k]
def mX(j:PT X a (jw X.K f)):PW X (.BoolOp .And [a] pos) (jw X.K f):=ZF j
def Fp(j:PT X a (jw X.K f)):PW X (.BoolOp .Or [a] pos) (jw X.K f):=I_ j
def pO{a9:List Expr}(j:PT X a (jw X.K f))(q:PW X (.BoolOp .And (b::a9) pos) (jw X.K g)):PW X (.BoolOp .And (a::b::a9) pos) (jw X.K (eE f g)):=PW.imp (Jn j q) P8
def Ke{a9:List Expr}(j:PT X a (jw X.K f))(q:PW X (.BoolOp .Or (b::a9) pos) (jw X.K g)):PW X (.BoolOp .Or (a::b::a9) pos) (jw X.K (tO f g)):=PW.imp (JA j q) P9
def xo(z:PT X a (jw X.K f)):PT X (.UnaryOp .Not a pos) (jw X.K (Br f)):=PT.imp (JB z) λU H Q q=>by
 let(H0,Z0,Y,pd,b,Y',s,h,k):=q;unfold Br at h;cases h1:f Y with
 |none=>grind
 |some x=>
  rw[h1]at h;cases h;show#[H0,Z0,Y,pd,x.1,x.2,s,h1,λH1 j=>k H1 j]
def Ma(f g:EF):EF:=λY=>(f Y).bind λx=>match x.1.pv with
 |.bl G=>g x.2
 |.bl M=>!(Zp (.bl M),x.2)
 |_=>J
def P_{op}(h:PE X a (tP X.K f)):PE X (.BoolOp op [a] pos) (tP X.K f):=JI h
def Qa{a9:List Expr}(D:PE X a (tP X.K f))(z:PE X (.BoolOp .And (b::a9) pos) (tP X.K g)):PE X (.BoolOp .And (a::b::a9) pos) (tP X.K (Ma f g)):=PE.imp (JJ D z) λU H Q q=>by
 let(H0,Z0,Y,pd,b,Y',s,h,k):=q;unfold Ma at h;cases h1:f Y with
 |none=>grind
 |some x=>
  rw[h1,c9]at h;show#[H0,Z0,Y,pd,x.1,x.2,s,h1,λv H1 j=>?_];let(_,r):=j.freeze.repH;split at h
  . rename_i e;rw[e]at r;show#[G,ji r,?_];show#[H0,Z0,x.2,pd,b,Y',j.pop,h,k]
  . rename_i e;rw[e]at r;show#[M,ji r,?_];cases h;show k _ H1 (j.pop.scal mq)
  . cases h
def Zb(c:TF)(f g:EF):EF:=λY=>(c Y).bind λx=>if x.1=G then f x.2 else g x.2
def Qb(F:PT X c (jw X.K fc))(D:PE X a (tP X.K f))(z:PE X b (tP X.K g)):PE X (.IfExp c a b pos) (tP X.K (Zb fc f g)):=PE.imp (Wg F D z) λU H Q q=>by
 let(H0,Z0,Y,pd,b,Y',s,h,k):=q;unfold Zb at h;cases h1:fc Y with
 |none=>grind
 |some x=>
  rw[h1,c9]at h;show#[H0,Z0,Y,pd,x.1,x.2,s,h1,λH1 j=>?_];dsimp only;split
  . rename_i c;rw[ax c]at h;show#[H0,Z0,x.2,pd,b,Y',j,h,k]
  . rename_i c;rw[a_ c]at h;show#[H0,Z0,x.2,pd,b,Y',j,h,k]
def bR:SF:=λY=>!(.nx Y)
def aF(f g:SF):SF:=λY=>(f Y).bind λx=>match x with
 |.nx Y'=>g Y'
 |y=>!y
def bH:jP X [] (iw X.K bR):=jP.imp ZJ λD U H q=>by let(H0,Z0,Y,pd,fl,s,h,k):=q;cases h;show k U H s
def az{st:Stmt}{a9:List Stmt}(h1:PS X st (iw X.K f))(h2:jP X a9 (iw X.K g)):jP X (st::a9) (iw X.K (aF f g)):=jP.imp (Wh h1 h2) λD U H q=>by
 let(H0,Z0,Y,pd,fl,s,h,k):=q;unfold aF at h;cases e:f Y with
 |none=>rw[e]at h;cases h
 |some x=>
  rw[e,c9]at h;show#[H0,Z0,Y,pd,x,s,e,?_];cases x with
  |nx Y'=>show λz H' s'=>#[H0,Z0,Y',pd,fl,s',h,k]
  |rt r Y'=>cases h;show k
  |bk Y'=>cases h;show k
  |ct Y'=>cases h;show k
def aD{st:Stmt}(h1:PS X st (iw X.K f)):jP X [st] (iw X.K f):=ZK h1
def rW(f:EF):SF:=λY=>(f Y).map λx=>.nx x.2
def d4{α β:Type}{o:Option α}{f:α->β}{b:β}(h:o.map f=!b):∃a,o=!a/\f a=b:=by
 cases o with
 |none=>cases h
 |some a=>grind
def b_{α β:Type}{o:Option α}{f:α->Option β}{b:β}(h:o.bind f=!b):∃a,o=!a/\f a=!b:=by
 cases o with
 |none=>cases h
 |some a=>grind
def G5(he:PE X e (tP X.K f))(hs:swapsWith e J pos.line X.env=pure M:=by rfl):PS X (.Expr e pos) (iw X.K (rW f)):=PS.imp (qK he hs) λD U H q=>by let(H0,Z0,Y,pd,fl,s,h,k):=q;let(x,h1,rfl):=d4 h;show#[H0,Z0,Y,pd,x.1,x.2,s,h1,λv H' s'=>k U H' s'.pop]
def cI(f:EF):SF:=λY=>(f Y).map λx=>.rt x.1 x.2
def bK(he:PE X e (tP X.K f)):PS X (.Return (!e) pos) (iw X.K (cI f)):=PS.imp (Tz he) λD U H q=>by let(H0,Z0,Y,pd,fl,s,h,k):=q;let(x,h1,rfl):=d4 h;show#[H0,Z0,Y,pd,x.1,x.2,s,h1,λv H' s'=>k v U H' s']
def gZ(i:Nat):SF:=λY=>match Y.vs[i]? with
 |some (!l)=>!(.rt l (Y.set i J))
 |_=>J
set_option tactic.hygienic true in
def gh(he:PE X e (uH i)):PS X (.Return (!e) pos) (iw X.K (gZ i)):=PS.imp (Tz he) λD U H q=>by
 let(H0,Z0,Y,pd,fl,s,h,k):=q;unfold gZ at h;split at h
 . rename_i l j;cases h;let(v,h1,h2):=s.take j;show#[v,h1,k v U H h2]
 . cases h
def cC(c:TF)(f g:SF):SF:=λY=>(c Y).bind λx=>if x.1=G then f x.2 else g x.2
def b8(N:PT X c (jw X.K fc))(F:jP X a (iw X.K f))(z:jP X b (iw X.K g)):PS X (.If c a b pos) (iw X.K (cC fc f g)):=PS.imp (Kj N F z) λD U H q=>by
 let(H0,Z0,Y,pd,fl,s,h,k):=q;let(x,h1,h2):=b_ h;show#[H0,Z0,Y,pd,x.1,x.2,s,h1,λH1 j=>?_];dsimp only;split
 . rename_i c;rw[ax c]at h2;show#[H0,Z0,x.2,pd,fl,j,h2,k]
 . rename_i c;rw[a_ c]at h2;show#[H0,Z0,x.2,pd,fl,j,h2,k]
def aL(i:Nat)(f:EF):SF:=λY=>(f Y).bind λx=>if i< -x.2.vs then !(.nx (x.2.set i (!x.1))) else J
def Qx{t:TS}(h:∀D U H,(tP X.K f U H λv H1=>D.nx (U.set i (!v)) H1)->t D U H):∀D U H,iw X.K (aL i f) D U H->t D U H:=λD U H q=>by
 let(H0,Z0,Y,pd,fl,s,h',k):=q;let(x,h1,h2):=b_ h';split at h2
 . rename_i z;cases h2;show h D U H #[H0,Z0,Y,pd,x.1,x.2,s,h1,λv H1 j=>k _ _ (j.store z)]
 . cases h2
def wI{pos pos':Pos}(z:X.N.Nodup)(hi:X.N[i]?=!x)(j:L2.Loc X.env.scope x)(he:PE X e (tP X.K f))(hs:swapsWith e (!(.Name x pos')) pos.line X.env=pure M:=by rfl)(F:X.fn x=G\/X.env.scope.names.lookup x=!.local:=by first |show Zl O |show YY O |assumption):
 PS X (.Assign [.Name x pos'] e pos) (iw X.K (aL i f)):=PS.imp (Ks z hi j he hs F) (Qx λD U H q=>q)
abbrev GF:=List PV->Mu->Option (Lc×Mu)
def my(H:Hp)(g:List Addr):Hp:=λb=>if b∈g then J else H b
def Qc(h:my H g b=!o):H b=!o/\b∉g:=by
 unfold my at h;split at h
 . cases h
 . grind
def Xl(h:b∈g):my H g b=J:=by unfold my;grind
def Mf(h:b∉g):my H g b=H b:=by unfold my;grind
def CS(K:FG)(H:Hp)(Z:ZG)(g:List Addr)(H':Hp)(hU:Mu)(v:V)(r:Lc):Prop:=∃Z',-hU=-Z'.g/\jQ (my H g) Z Z' H'/\ah K (my H g) Z' H' ((!v,!r)::cel Z'.g hU)
def bW(K:FG)(n:Nat)(g:GF):Sp:=λvs H Q _=>∃(Z:ZG)(ps:List PV)(mu:Mu)(r:Lc)(hU:Mu),-vs=n/\-mu=-Z.g/\eY_ Z.z H/\aK K Z ps vs/\ah K (my H (uP Z.g mu)) Z H (cel Z.g mu)/\g ps mu=!(r,hU)/\∀v H',CS K H Z (uP Z.g mu) H' hU v r->Q v H'
def aN(g:GF)(a:AF):EF:=λY=>(a Y).bind λy=>(g (y.1.map Lc.pv) y.2.mu).map λr=>(r.1,#[y.2.vs,r.2])
def Qr(he:e∈cel g mu):∃a,e.1=!(.ref a)/\(e.2=J\/∃p,e.2=!(Zs p)):=by
 let(h1,h2):=lI he;let(a,_,j):=dA.mp h1;let(o,_,q):=dA.mp h2;show#[a,j.symm,?_];cases o with
 |none=>grind
 |some p=>grind
def ah.cells(Q:-Y.mu=-Z.g)(s:ah K H0 Z H (sl Z.g U Y pd)):ah K (my H (uP Z.g Y.mu)) Z H (cel Z.g Y.mu):=by
 let z:=s.sub (j6 _ _);show#[λe q=>?_,z.2];let(a,h1,h2):=Qr q;let(v,l):=e;let j:=h1;subst j;obtain h2|⟨p,h2⟩:=h2
 . let i:=h2;subst i;trivial
 . let i:=h2;subst i;let(b,N,D,F,W):=z.1 _ q;cases N;show#[a,O,D,F,Xl (kK.mpr #[_,q,O])]
def SR.called(el:-U=-Y.vs)(hg:-Y.mu=-Z.g)(z:jQ H0 Z0 Z H)(s:ah K H0 Z H (sl Z.g U Y pd))(h:CS K H Z (uP Z.g Y.mu) H' j v r):SR K H0 Z0 U H' #[Y.vs,j] ((v,r)::pd):=by
 let(Z',xp,F,q):=h;let s0:=s.sub (nI _ _);have nd:(uP Z.g Y.mu++(U.zip Y.vs++pd.map λe=>(!e.1,!e.2)).filterMap mj).Nodup:=by have:=s.2;unfold sl at this;rw[filterMap_append]at this;show this
 have QE:∀a∈uP Z.g Y.mu,H0 a=J:=λa D=>by let(e,i,hb):=kK.mp D;show(jn (s.sub (j6 _ _)) i hb).2.1
 have h0:eY_ H0 (my H (uP Z.g Y.mu)):=λb o e=>by rw[Mf λhm=>by rw[QE b hm]at e;cases e];show z.h0 b o e
 have z2:jQ H0 Z0 Z' H':=#[F.zh,h0.trans F.h0,z.z0.trans F.z0,λb o e=>by
  obtain e|e|e:=F.new b o e
  . show z.new b o e
  . show YY (Zl (h0.free e))
  . show YY (YY e)]
 have CU:∀e∈(U.zip Y.vs++pd.map λe=>((some e.1:Option V),(some e.2:Option Lc))),∀a,mj e=!a->a∉uP Z.g Y.mu/\my H (uP Z.g Y.mu) a=H a:=λe i a D=>by let hn:=λhm=>(nX.mp nd).2.2 a hm a (kK.mpr #[e,i,D]) O;show#[hn,Mf hn]
 have hk:∀e∈(U.zip Y.vs++pd.map λe=>((some e.1:Option V),(some e.2:Option Lc))),∀a,mj e=!a->H' a=H a/\Z'.z a=J:=λe i a D=>by
  let(h1,h2,o,W,h4):=jn s0 i D;let(hn,ho):=CU e i a D;let h5:=F.h0 a o ();show#[by rw[W];show h5,?_];cases q:Z'.z a with
  |none=>rfl
  |some u=>
   obtain e|e|e:=F.new a u q
   . grind
   . grind
   . have:=F.zh a u q;grind
 let s2:=s0.step F.z0 hk;have q':ah K H0 Z' H' ((!v,!r)::cel Z'.g j):=by
  show#[λe i=>?_,q.2];have:=q.1 e i;let(w,l):=e;cases l with
  |none=>trivial
  |some l=>
   cases l with
   |sh p=>show this
   |own p=>let(a,e1,e2,e3,e4):=this;show#[a,e1,e2,e3,h0.free e4]
 have QH:∀e∈((!v,!r)::cel Z'.g j),∀a,mj e=!a->∀e'∈(U.zip Y.vs++pd.map λe=>((some e.1:Option V),(some e.2:Option Lc))),mj e'≠!a:=λe i a D e' N Q=>by let(_,h2,_):=jn q i D;let(_,_,o,W,_):=jn s0 N Q;rw[(CU e' N a Q).2,W]at h2;cases h2
 show .mk el xp z2 ?_;show#[λe i=>?_,?_]
 . obtain rfl|i:=bh.mp i
   . show q'.1 _ cS
   . obtain i|i:=d6.mp i
     . show q'.1 _ (d_ _ i)
     . show s2.1 e i
 . show (((!v,!r)::(cel Z'.g j++(U.zip Y.vs++pd.map λe=>(!e.1,!e.2)))).filterMap mj).Nodup;rw[<-mE,filterMap_append];show nX.mpr #[q'.2,s2.2,λa D b hb e=>?_];subst e;let(e1,QN,h1):=kK.mp D;let(e2,xq,h2):=kK.mp hb;show QH e1 QN a h1 e2 xq h2
def Xm:∀U H Q,(∃H0 Z0 Y pd r Y',SR X.K H0 Z0 U H Y pd/\aN g a Y=!(r,Y')/\(∀ls Y1,a Y=!(ls,Y1)->-ls=n)/\∀v H',SR X.K H0 Z0 U H' Y' ((v,r)::pd)->Q v H')->YW (bW X.K n g) [] E (jR X.K a) U H Q:=λU H Q q=>by
 let(H0,Z0,Y,pd,r,Y',s,h,hn,k):=q;let(y,h1,h2):=b_ h;let(r',F,h4):=d4 h2;cases h4;show#[H0,Z0,Y,pd,y.1,y.2,s,h1,λvs H2 D W=>?_];let(N,Z,j,z,rl,i):=W.repl D;show#[Z,y.1.map Lc.pv,y.2.mu,_,_,?_,j,z.zh,?_,i.cells j,F,λv H' rr=>k v H' (SR.called N j z i rr)]
 . rw[fg,D];show hn _ _ h1
 . grind
end
section
variable {P:Program}{w:World}{K:FG}{mg:Str->Option Value}{base:Heap}
def cL(K:FG)(mg:Str->Option Value)(x:Str)(st:Stmt)(ps:List Str):Prop:=∃f fd,vD K x x st f fd/\mg x=!(YV f)/\eP K fd ps []
def Mg(b:Bool)(P:Program)(w:World)(K:FG)(mg:Str->Option Value)(base:Heap)(x:Str)(k:Nat)(ps:List Str)(sp:Sp):Prop:=∃f fd,t6 b P w K mg base qD k f fd ps sp/\mg x=!(YV f)/\W.keepIn K (YV f)=G/\eP K fd ps []
abbrev bI:=Mg G
noncomputable def env0 (n:Nat) (ps:List PV) (mu:Mu):Ev:=#[ps.map (λp=>!(Lc.sh p))++replicate (n-(-ps)) J,mu]
def cY(n:Nat)(g:SF):GF:=λps mu=>(g (env0 n ps mu)).bind λx=>match x with
 |.rt r Y=>!(r,Y.mu)
 |.nx Y=>!(Zp .non,Y.mu)
 |_=>J
theorem Qy(s:ah K H0 Z H L):∀{ps:List PV}{vs:List V},aK K Z ps vs->ah K H0 Z H ((vs.map some).zip (ps.map λp=>!(Lc.sh p))++L)
 |[],vs=>λh=>by have:=h.inv0;subst this;simpa using s
 |p::ps,vs=>λh=>by let(v,r,rfl,h1,h2):=h.inv;show(Qy s h2).consS h1
theorem nones(s:ah K H0 Z H L):∀n:Nat,ah K H0 Z H ((replicate n (J:Option V)).zip (replicate n (J:Option Lc))++L)
 |0=>s
 |n+1=>by
  let j:=nones s n;show#[λe i=>?_,?_]
  . obtain rfl|i:=bh.mp i
    . trivial
    . show j.1 e i
  .  show j.2
def Ds(q:-mu=-Z.g)(z:eY_ Z.z H)(r:aK K Z ps vs)(c:ah K (my H (uP Z.g mu)) Z H (cel Z.g mu)):SR K (my H (uP Z.g mu)) Z (L2.start N vs) H (env0 (-N) ps mu) []:=by let j:=-r;show#[by simp[L2.start,env0,j],Z,q,#[z,λb o e=>(Qc e).1,iu.refl _,λb o e=>Zl e],?_];unfold sl L2.start env0;rw[lK ∅,nV,fg,j];show(Qy (nones c _) r).perm ((kM).trans (by rw[eK]))
theorem cL.ok{st:Stmt}(F:cL K mg x st ps)(S:bz N ps (aG st))
 (h:∀(f:Addr)(j:Value)(A:Around)(i:List PySem.Env)(s:Shared)(H:Hp)(E:XK),gn b k (A.deeper (envOfC x (aG st) s.heap.objs.size f j))->
   ∃g':SF,(∀a mu,g a mu=cY (-N) g' a mu)/\jP (vC b qD P w K mg base N x (aG st) f j A i s H E).nox (jC st) (iw K g')):Mg b P w K mg base x (k+1) ps (bW K (-ps) g):=by
 let(f,fd,F,hm,hb):=F;show#[f,fd,F.ok S (λvs H Q E q=>?_) (λj A i s H vs Q E hr q=>?_),hm,F.kp,hb]
 . let(Z,qs,mu,r,hU,e,_):=q;show e
 . let(g',eg,b):=h f j A i s H E hr;let(Z,qs,mu,r,hU,e,hg,z,rl,c,mh,kk):=q;rw[eg]at mh;let(fl,h1,h2):=b_ mh;show#[_,b,my H (uP Z.g mu),Z,_,[],fl,Ds hg z rl c,h1,?_];cases fl with
   |rt r' Y'=>
    cases h2;intro v U' H' s';let(el,Z',D,z',W):=s'.top;show kk v H' #[Z',D,z',W.sub ?_];show(j6 _ _).cons_cons _
   |nx Y'=>
    cases h2;intro U' H' s';let(el,Z',D,z',W):=s';show kk .non H' #[Z',D,z',(W.sub (j6 _ _)).consS (Bq _)]
   |bk Y'=>cases h2
   |ct Y'=>cases h2
end
section
variable {X:Cx}
def bL{p pos:Pos}(D:Mg b X.prog X.w X.K X.mg X.base x k ps (bW X.K (-ps) g))(hr:gn b k X.A)(N:Gl X x)
 (z:PA X (e::es) (jR X.K a)) (hn:∀Y ls Y1,a Y=!(ls,Y1)->-ls=-ps) (i:(x==("__debug__" : Str))=M:=by decide) (he:starEach (e::es) X.env=(M,eval e X.env)::starEach es X.env:=by rfl) (j:(backTo pos (starEach es X.env)).any (·.1)=M:=by rfl):PE X (.Call (.Name x p) (e::es) [] pos) (tP X.K (aN g a)):=by
 let(f,fd,F,W,hk,hb):=D;show PE.imp (ZS F hr N W hk hb .nil J6 z i he j) λU H Q q=>?_;let(H0,Z0,Y,pd,r,Y',s,h,kk):=q;show Xm U H Q #[H0,Z0,Y,pd,r,Y',s,h,λls Y1 e=>hn Y ls Y1 e,kk]
section
variable {K:FG}{H0 H H':Hp}{Z0 Z:ZG}{U:L2.St}{Y:Ev}{pd im:Pd}{v w:V}{l:Lc}{p:PV}
theorem SR.sub(h:SR K H0 Z0 U H Y im)(q:Sublist pd im):SR K H0 Z0 U H Y pd:=
 let #[e,Z,hg,z,s]:=h
 #[e,Z,hg,z,s.sub ((o_ _).append ((o_ _).append (q.map _)))]
def SR.part(h:SR K H0 Z0 U H Y ((v,Zp p)::pd))(k:∀Z:ZG,eY_ Z.z H->bP K Z p v->bP K Z q u):SR K H0 Z0 U H Y ((u,Zp q)::(v,Zp p)::pd):=by let(e,Z,F,z,s):=h.top;let(x,D,j):=s.1 _ cS;cases D;show .mk e F z ((s.perm dD).consS (k Z z.zh j))
end
abbrev BF:=PV->Ev->Option Ev
def GS(K:FG)(g:TG)(b:BF):Prop:=∀H0 Z0 U H Y pd v p Y' Q,SR K H0 Z0 U H Y ((v,Zp p)::pd)->b p Y=!Y'->(∀U',SR K H0 Z0 U' H Y' pd->Q U' H)->g v U H Q
abbrev Mh:=List PV->Ev->Option Ev
def Zc(K:FG)(g:yU)(b:Mh):Prop:=∀H0 Z0 U H Y pd vs ps Y' Q,-vs=-ps->SR K H0 Z0 U H Y (vs.zip (ps.map Lc.sh)++pd)->b ps Y=!Y'->(∀U',SR K H0 Z0 U' H Y' pd->Q U' H)->g vs U H Q
def aC(i:Nat):BF:=λp Y=>if i< -Y.vs then !(Y.set i (!(Zp p))) else J
def aM:GS K (J4 i) (aC i):=by
 intro H0 Z0 U H Y pd v p Y' Q s h k;unfold aC at h;split at h
 . rename_i j;cases h;show k _ (s.store j)
 . cases h
def fu:Mh:=λps Y=>match ps with
 |[]=>!Y
 |_=>J
def aW(b:BF)(bs:Mh):Mh:=λps Y=>match ps with
 |p::r=>(b p Y).bind λY1=>bs r Y1
 |[]=>J
def iU:Zc K AK fu:=by
 intro H0 Z0 U H Y pd j ps Y' Q e s h k;cases ps with
 |nil=>
  cases h;have:j=[]:=AA ();subst this;show#[O,k U s]
 |cons p r=>cases h
def bV(h1:GS K t b)(h2:Zc K u bs):Zc K (YJ t u) (aW b bs):=by
 intro H0 Z0 U H Y pd D ps Y' Q e s h k;cases ps with
 |nil=>cases h
 |cons p r=>
  cases D with
  |nil=>grind
  |cons v ws=>
   let(Y1,z,q):=b_ h;show#[v,ws,O,h1 H0 Z0 U H Y _ v p Y1 _ s z λj s'=>?_];show h2 H0 Z0 j H Y1 pd ws r Y' Q ∅ s' q k
theorem U9(s:ah K H0 Z H L):∀{ps:List PV}{vs:List V},aK K Z ps vs->ah K H0 Z H ((vs.zip (ps.map Lc.sh)).map (λe=>(!e.1,!e.2))++L)
 |[],vs=>λh=>by have:=h.inv0;subst this;simpa using s
 |p::ps,vs=>λh=>by let(v,r,rfl,h1,h2):=h.inv;show(U9 s h2).consS h1
def SR.items(e:-U=-Y.vs)(j:-Y.mu=-Z.g)(z:jQ H0 Z0 Z H)(r:aK K Z ps vs)(s:ah K H0 Z H (sl Z.g U Y pd)):SR K H0 Z0 U H Y (vs.zip (ps.map Lc.sh)++pd):=
 #[e,Z,j,z,(U9 s r).perm U8]
def Xn(f:EF)(b:BF):SF:=λY=>(f Y).bind λx=>(b x.1.pv x.2).map Fl.nx
def QO{pos:Pos}(he:PE X e (tP X.K f))(F:PG X tg g)(j:GS X.K g b)(hs:swapsWithSole [tg] e pos.line X.env=pure M:=by rfl)(i:swappedStores [tg] e X.env=pure J:=by rfl)
 (h1:(assignEach [tg] X.env).map (·.2)=[assign tg X.env]:=by rfl):PS X (.Assign [tg] e pos) (iw X.K (Xn f b)):=PS.imp (KH he F hs i h1) λD U H q=>by
 let(H0,Z0,Y,pd,fl,s,h,k):=q;let(x,h1,h2):=b_ h;let(Y',W,rfl):=d4 h2;show#[H0,Z0,Y,pd,x.1,x.2,s,h1,λv H1 z=>j H0 Z0 U H1 x.2 pd v _ Y' D.nx z.freeze W λN s'=>k N H1 s']
def qX(K:FG)(H0:Hp)(Z0:ZG)(pd:Pd)(ZU:It)(xs:List PV):Prop:=∀U H Y (i:Nat),SR K H0 Z0 U H Y pd->
 (∀x,xs[i]?=!x->ZU.go i H/\∀v H',ZU.yld i H v H'->SR K H0 Z0 U H' Y ((v,Zp x)::pd))/\(i=-xs->ZU.stop i H)
abbrev IF:=Ev->Option (List PV×Ev)
def Iz(K:FG)(f:IF):TI:=λU H ZN=>∃H0 Z0 Y pd xs Y',SR K H0 Z0 U H Y pd/\f Y=!(xs,Y')/\∀ZU H' im,SR K H0 Z0 U H' Y' im->qX K H0 Z0 im ZU xs->List.Sublist pd im->ZN ZU H'
def PI.imp(h:PI X tg iter t)(i:∀U H ZN,t' U H ZN->t U H ZN):PI X tg iter t':=λae s U H R I q=>h ae s U H R I (i U H R q)
def dh(f:EF)(g:PV->Option (List PV)):IF:=λY=>(f Y).bind λx=>(g x.1.pv).map λxs=>(xs,x.2)
def Va:qX K H0 Z0 ((.ref a,Zp (R ps))::pd) (YK K a) ps:=by intro U H Y i s;let(Z,z,r):=s.rep;let(b,W,e,h1,h2):=r;cases e;let hq:=bY.same z h1;show#[λx hx=>?_,λhl=>#[W,hq,by rw[h2.length];lia]];let(v,hv,rv):=h2.get hx;show#[#[W,v,hq,hv],λv' H' y=>?_];let(N,y):=y;subst N;have:=y W hq;rw[hv]at this;cases this;show s.part λZ' z' r'=>?_;let(b',j,N,D,F):=r';cases N;have:j[i]?=!v:=y j (bY.same z' D);let(p',q,Q):=F.getV this;grind
def Xo:qX K H0 Z0 ((.ref a,Zp (ZB ps))::pd) (YL K a) ps:=by intro U H Y i s;let(Z,z,r):=s.rep;let(b,W,e,h1,h2):=r;cases e;let hq:=cW.same z h1;show#[λx hx=>?_,λhl=>#[W,hq,by rw[h2.length];lia]];let(v,hv,rv):=h2.get hx;show#[#[W,v,hq,hv],λv' H' y=>?_];let(N,y):=y;subst N;have:=y W hq;rw[hv]at this;cases this;show s.part λZ' z' r'=>?_;let(b',j,N,D,F):=r';cases N;have:j[i]?=!v:=y j (cW.same z' D);let(p',q,Q):=F.getV this;grind
def jo(lo:Int)(n:Nat):List PV:=(range n).map λi=>ZI (lo+(i:Nat))
def iK(a:AF):IF:=λY=>(a Y).bind λy=>match y.1.map Lc.pv with
 |[ZI j]=>if (Neg.neg (2 ^ 62))<=j/\j<2 ^ 62 then !(jo 0 j.toNat,y.2) else J
 |_=>J
def Xp{lo:Int}:qX K H0 Z0 pd (YM lo n) (jo lo n):=by
 intro U H Y i s;show#[λx j=>?_,λq=>?_]
 . have hi:i<n:=by have:=(fr.mp j).1;simpa [jo] using this
   show#[hi,λv H' y=>?_];let(rfl,rfl):=y;unfold jo at j;rw[eL,u8 hi]at j;cases j;show s.scal gF
 . show n<=i;simp[jo]at q;lia
def SR.ints{vs:List V}{ls:List Lc}{ns:List Int}(s:SR K H0 Z0 U H Y (vs.zip ls++pd))(e:-vs=-ls)(h:ls.map Lc.pv=ns.map PV.int):vs=ns.map V.int/\SR K H0 Z0 U H Y pd:=by
 let(F,Z,q,z,r,j):=s.repl e;show#[?_,F,Z,q,z,j];rw[h]at r;clear h e s j;induction ns generalizing vs with
 |nil=>show r.inv0
 |cons n ns D=>
  let(v,w,rfl,h1,h2):=r.inv;rw[cF h1,D h2];rfl
set_option tactic.hygienic true in
def mz(D:Gl X "range")(W:X.mg "range"=J)(z:PA X [a] (jR X.K f))(hs:starEach [a] X.env=[(M,eval a X.env)]:=by rfl):PI X tg (.Call (.Name "range" p) [a] [] pos) (Iz X.K (iK f)):=PI.imp (TX D W z hs) λU H ZN q=>by
 let(H0,Z0,Y,pd,xs,Y',s,h,k):=q;let(y,h1,h2):=b_ h;show#[H0,Z0,Y,pd,y.1,y.2,s,h1,λvs H1 N Q=>?_];split at h2
 . rename_i j e;split at h2
   . rename_i i;cases h2;let(rfl,F):=Q.ints (ns:=[j]) N e;show#[j,O,i.1,i.2,k _ _ _ F Xp (o_ _)]
   . cases h2
 . cases h2
noncomputable def eN (b:BF) (body:SF):List PV->SF
 |[],Y=>!(.nx Y)
 |x::xs,Y=>(b x Y).bind λY1=>(body Y1).bind λfl=>match fl with
  |.nx Y'=>eN b body xs Y'
  |.ct Y'=>eN b body xs Y'
  |.bk Y'=>!(.nx Y')
  |.rt r Y'=>!(.rt r Y')
def fX(f:IF)(b:BF)(body:SF):SF:=λY=>(f Y).bind λy=>eN b body y.1 y.2
def ym{P:Prop}(h:∀G:Prop,(P->G)->G):P:=h P id
def FW(K:FG)(H0:Hp)(Z0:ZG)(pd:Pd)(b:BF)(fb:SF)(xs:List PV)(fl:Fl)(i m:Nat)(U:L2.St)(H:Hp):Prop:=m=-xs-i/\i<=-xs/\∃Y,SR K H0 Z0 U H Y pd/\eN b fb (xs.drop i) Y=!fl
def Xq(hb:GS K g b)(it:qX K H0 Z0 pd ZU xs)(k:Lz K H0 Z0 pd D fl)(s:SR K H0 Z0 U H Y pd)(h:eN b fb xs Y=!fl):
 ∃W:Nat->Nat->L2.St->Hp->Prop,(∃m,W 0 m U H)/\∀i m U H,W i m U H->
  (ZU.stop i H/\D.nx U H)\/(ZU.go i H/\∃N:L2.St->Hp->Prop,(∀q H',N q H'->∃m',m'<m/\W (i+1) m' q H')/\∀x H',ZU.yld i H x H'->g x U H' λU2 H2=>iw K fb { D with nx:=N,ct:=N,bk:=D.nx } U2 H2):=by
 show#[FW K H0 Z0 pd b fb xs fl,#[_,O,gz _,Y,s,h],λi m q H' w=>?_];show ym λZT kG=>?_;let(rfl,hi,Y',s',h'):=w;let(i1,i2):=it q H' Y' i s';by_cases j:i< -xs
 . let(go,yl):=i1 _ (ge j);rw[nE j]at h';let(Y1,e1,e2):=b_ h';let(F,e3,e4):=b_ e2;show kG (YY #[go,λz Q=>FW K H0 Z0 pd b fb xs fl (i+1) (-xs-(i+1)) z Q,λz Q w=>#[_,(),w],λx H2 hy=>hb H0 Z0 q H2 Y' pd x _ Y1 _ (yl x H2 hy) e1 λU2 s2=>#[H0,Z0,Y1,pd,F,s2,e3,?_]]);cases F with
   |nx Y2=>show λVw H3 s3=>#[O,j,Y2,s3,e4]
   |ct Y2=>show λVw H3 s3=>#[O,j,Y2,s3,e4]
   |bk Y2=>cases e4;show k
   |rt r Y2=>cases e4;show k
 . let e:=Nat.le_antisymm hi ();subst e;rw[drop_length]at h';cases h';show kG (Zl #[i2 O,k q H' s'])
def Lz.imp(k:Lz K H0 Z0 pd D fl)(w:∀{τ:L2.St}{j:Hp}{q:Ev},SR K H0 Z₁ τ j q im->SR K H0 Z0 τ j q pd)(z:∀{τ:L2.St}{j:Hp}{q:Ev}{e:V×Lc},SR K H0 Z₁ τ j q (e::im)->SR K H0 Z0 τ j q (e::pd)):Lz K H0 Z₁ im D fl:=by
 cases fl with
 |rt r Y=>show λv U H s=>k v U H (z s)
 |_=>show λU H s=>k U H (w s)
def fK(Q:PassesOwn (model X.prog X.w) X.A X.env X.xe)(hc:X.calm=G)(hi:PI X tg iter (Iz X.K f))(j:PG X tg g)(i:GS X.K g b)(W:jP X body (iw X.K fb))
 (hs:∀x,foldedSetIterable iter X.env x=pure x:=by intro _;rfl):PS X (.For tg iter body [] pos) (iw X.K (fX f b fb)):=PS.imp (KI Q hc hi j W hs) λD U H q=>by
 show ym λZT z=>?_;let(H0,Z0,Y,pd,fl,s,h,k):=q;let(y,h1,h2):=b_ h;show z #[H0,Z0,Y,pd,y.1,y.2,s,h1,λZU H1 im N F sub=>Xq i F (k.imp (λs=>s.sub sub) λs=>s.sub ∅) N h2]
end
section
variable {K:FG}{H0 H H':Hp}{Z0 Z:ZG}{U:L2.St}{Y:Ev}{pd pe:Pd}{v w:V}{l:Lc}{p:PV}{g:List Addr}
def Ev.app(Y:Ev)(pe:Pd):Ev:=#[Y.vs++pe.map (λx=>!x.2),Y.mu]
def Mi(e:-U=-Y.vs):sl g (U++pe.map λx=>!x.1) (Y.app pe) pd=sl g U Y (pe++pd):=by
 unfold sl Ev.app;rw[lK e,eD,eK];congr 3;induction pe with
 |nil=>rfl
 |cons a r j=>simp[j]
def SR.shift(h:SR K H0 Z0 U H Y (pe++pd)):SR K H0 Z0 (U++pe.map λx=>!x.1) H (Y.app pe) pd:=by let(e,Z,j,z,s):=h;show#[by simp[Ev.app,e],Z,j,z,?_];rw[Mi e];show s
def SR.unshift(e:-U=-Y.vs)(h:SR K H0 Z0 (U++pe.map λx=>!x.1) H (Y.app pe) pd):SR K H0 Z0 U H Y (pe++pd):=by let(_,Z,j,z,s):=h;show#[e,Z,j,z,?_];rw[Mi e]at s;show s
def qX.more(h:qX K H0 Z0 pd ZU xs):qX K H0 Z0 (pe++pd) ZU xs:=by intro U H Y i s;let(h1,h2):=h _ H _ i s.shift;show#[λx j=>?_,h2];let(g,y):=h1 x j;show#[g,λv H' q=>?_];let s':=y v H' q;let e:=s.1;let z:=s';show(SR.unshift e z).perm gx.symm
def tQ(U:L2.St)(Y:Ev):Pd:=(U.zip Y.vs).filterMap λe=>match e with
 |(!v,!l)=>!(v,l)
 |_=>J
theorem yo:∀{L:Sl},(∀e∈L,e.2=J\/∃v l,e=(!v,!l))->∀{T:Sl},
 (ah K H0 Z H (L++T) ↔ ah K H0 Z H ((L.filterMap λe=>match e with |(!v,!l)=>some (v,l) |_=>J).map (λe=>((some e.1:Option V),(some e.2:Option Lc)))++T))
 |[],_,T=>by simp
 |(v,l)::L,h,T=>by
  let h':=λe D=>h e (d_ _ D);obtain e|⟨j,q,e⟩:=h (v,l) cS
  . let N:=e;subst N;have F:((v,(J:Option Lc))::L).filterMap (λe=>match e with |(!v,!l)=>some (v,l) |_=>J)=L.filterMap (λe=>match e with |(!v,!l)=>some (v,l) |_=>J):=by rw[j3];cases v<;>rfl
    rw[F,<-yo h'];have o1:mj (v,J)=J:=by
     cases v with
     |none=>rfl
     |some x=>cases x<;>rfl
    constructor
    . show λs=>s.sub (f7 _ _)
    . intro s;show#[λe D=>?_,?_]
      . obtain rfl|D:=bh.mp D
        . trivial
        . show s.1 e D
      . rw[mE,j3 o1];show s.2
  . cases e
    let z:=yo h' (T:=T++[(!j,!q)]);have i:∀A:Sl,Perm ((!j,!q)::(A++T)) (A++(T++[(!j,!q)])):=λA=>by rw[<-eK];show(perm_append_singleton _ _).symm
    constructor
    . intro s;show(z.mp (s.perm (i L).symm)).perm (i _)
    . intro s;show(z.mpr (s.perm (i _).symm)).perm (i L)
def SR.both(s:SR K H0 Z0 U H Y pd):∀e∈U.zip Y.vs,e.2=J\/∃v l,e=(!v,!l):=by
 let(_,Z,_,z,s):=s;intro e D;let q:=s.1 e (hZ _ (ii _ D));let(v,l):=e;cases l with
 |none=>grind
 |some l=>
  cases l with
  |sh p=>let(x,j,_):=q;grind
  |own p=>let(x,j,_):=q;grind
def IK(j:∀e∈U.zip Y.vs,e.2=J\/∃v l,e=(!v,!l)):ah K H0 Z H (sl g U Y pd) ↔ ah K H0 Z H (cel g Y.mu++(tQ U Y++pd).map λe=>(!e.1,!e.2)):=by
 let h1:=yo (K:=K) (H0:=H0) (Z:=Z) (H:=H) j (T:=(pd.map λe=>(!e.1,!e.2))++cel g Y.mu);have aS:Perm (sl g U Y pd) (U.zip Y.vs++((pd.map λe=>(!e.1,!e.2))++cel g Y.mu)):=by unfold sl;rw[<-eK (U.zip Y.vs)];show kM
 have i:Perm (cel g Y.mu++(tQ U Y++pd).map λe=>((some e.1:Option V),(some e.2:Option Lc))) ((tQ U Y).map (λe=>(!e.1,!e.2))++((pd.map λe=>(!e.1,!e.2))++cel g Y.mu)):=by rw[eD,<-eK ((tQ U Y).map _)];show kM
 show#[λs=>(h1.mp (s.perm aS.symm)).perm i,λs=>(h1.mpr (s.perm i.symm)).perm aS]
def SR.back(j:-U=-Y.vs)(q:∀e∈U.zip Y.vs,e.2=J\/∃v l,e=(!v,!l))(s:SR K H0 Z0 U' H Y' (tQ U Y++pd)):SR K H0 Z0 U H #[Y.vs,Y'.mu] pd:=by let(_,Z,D,z,s):=s;show#[j,Z,D,z,(IK (Y:=#[Y.vs,Y'.mu]) q).mpr ?_];show s.sub ((o_ _).append (nI _ _))
def ie(dE:List Nat)(Y:Ev):Ev:=dE.foldl (λY i=>match Y.vs[i]? with
 |some (!l)=>Y.set i (!(Zp l.pv))
 | _=>Y) Y
set_option tactic.hygienic true in
theorem SR.frz:∀{j:List Nat}{Y:Ev},SR K H0 Z0 U H Y pd->SR K H0 Z0 U H (ie j Y) pd
 |[],Y=>λs=>s
 |i::r,Y=>λs=>by
  unfold ie;rw[kz];show SR.frz ?_;split
  . rename_i l e;let(v,_,h2):=s.var e;show h2.pop
  . show s
def Dt:Option Lc->Bool
 |some (Zs _)=>M
 |_=>G
set_option tactic.hygienic true in
theorem Mj{j:Nat}:∀{z:List Nat}{Y:Ev},Dt (Y.vs[j]?).join=G->Dt ((ie z Y).vs[j]?).join=G
 |[],Y=>λh=>h
 |i::r,Y=>λh=>by
  unfold ie;rw[kz];show Mj ?_;split
  . rename_i l e;by_cases q:i=j
    . subst q;let hi:=(fr.mp e).1;show Dt ((Y.vs.set i _)[i]?).join=G;rw[kt hi];rfl
    . show Dt ((Y.vs.set i _)[j]?).join=G;grind
  . show h
set_option tactic.hygienic true in
theorem Vb:∀{z:List Nat}{Y:Ev},j∈z->Dt ((ie z Y).vs[j]?).join=G
 |[],Y=>λh=>by cases h
 |i::r,Y=>λh=>by
  unfold ie;rw[kz];obtain e|h:=bh.mp h
  . subst e;show Mj ?_;split
    . rename_i l e;let hi:=(fr.mp e).1;show Dt ((Y.vs.set j _)[j]?).join=G;rw[kt hi];rfl
    . cases q:Y.vs[j]? with
      |none=>rfl
      |some o=>
       cases o with
       |none=>rfl
       |some l=>grind
  . show Vb h
def nT(m:Nat)(dE:List Nat)(Y:Ev):Ev:=#[replicate m J++dE.map λi=>(Y.vs[i]?).join,Y.mu]
def SR.block(s:SR K H0 Z0 U H Y pd)(hs:∀j∈dE,Dt (Y.vs[j]?).join=G):SR K H0 Z0 (zY m dE U) H (nT m dE Y) (tQ U Y++pd):=by
 let hb:=s.both;let(el,Z,hg,z,Q):=s;show#[by simp[nT],Z,hg,z,?_];let s3:=(IK hb).mp Q;have fin:ah K H0 Z H ((dE.map λi=>(U[i]?).join).zip (dE.map λi=>(Y.vs[i]?).join)++(cel Z.g Y.mu++(tQ U Y++pd).map λe=>(!e.1,!e.2)))->ah K H0 Z H (sl Z.g (zY m dE U) (nT m dE Y) (tQ U Y++pd)):=λh=>by unfold sl zY nT;rw[lK (),eK];show(nones h m).perm ?_;show(Kc _ _ _).trans ((Kc _ _ _).append_left _)
 show fin ?_;clear fin;induction dE with
 |nil=>simpa using s3
 |cons i r ih=>
  let D:=ih λj hj=>hs j (d_ _ hj);rw[fF,fF,oC,mE];let h1:=hs i cS;cases q:Y.vs[i]? with
  |none=>
   show#[λe F=>?_,?_]
   . obtain rfl|F:=bh.mp F
     . trivial
     . show D.1 e F
   . rw[j3]
     . show D.2
     . cases (U[i]?).join with
       |none=>rfl
       |some x=>cases x<;>rfl
  |some o=>
   cases o with
   |none=>
    show#[λe F=>?_,?_]
    . obtain rfl|F:=bh.mp F
      . trivial
      . show D.1 e F
    . rw[j3]
      . show D.2
      . cases (U[i]?).join with
        |none=>rfl
        |some x=>cases x<;>rfl
   |some l=>
    rw[q]at h1;cases l with
    |own p=>cases h1
    |sh p=>
     have hi:i< -U:=by rw[el];show(fr.mp q).1
     let W:=ge hi;let hm:=gt (zip_get W q);let(x,e1,e2):=Q.1 _ (hZ _ (ii _ hm));have N:U[i]=!x:=e1;have ej:(U[i]?).join=!x:=by rw[W,N];rfl
     rw[ej];show D.consS e2
end
def SR.pushO(s:SR K H0 Z0 U H Y ((v,l)::(.ref a,Zs (R ws))::pd)):
 ∃i,H a=!(.lst i)/\-i=-ws/\SR K H0 Z0 U (aI H a (.lst (i++[v]))) Y ((.ref a,Zs (R (ws++[l.pv])))::pd):=by
 let(F,Z,Q,z,r,N):=s.freeze.sh;let j:=N.perm dD.symm;let(b,eb,(i,hu,D),_):=j.1 _ cS;cases eb;show#[i,hu,-D,?_];let(W,s'):=j.write (q:=R (ws++[l.pv])) z #[i++[v],bZ,D.append (aK.cons r .nil)];show .mk F Q W s'
def dF(b:BF)(tc:TF)(te:EF):List PV->Ev->List PV->Option (List PV×Mu)
 |[],Y,acc=>!(acc,Y.mu)
 |x::xs,Y,acc=>(b x Y).bind λY1=>(tc Y1).bind λc=>if c.1=G then (te c.2).bind λv=>if -acc<100000 then dF b tc te xs v.2 (acc++[v.1.pv]) else J else dF b tc te xs c.2 acc
def bU(f:IF)(m:Nat)(dE:List Nat)(b:BF)(tc:TF)(te:EF):EF:=λY=>(f Y).bind λy=>(dF b tc te y.1 (nT m dE (ie dE y.2)) []).map λys=>(Zs (R ys.1),#[(ie dE y.2).vs,ys.2])
def CW(K:FG)(H0:Hp)(Z0:ZG)(b:BF)(tc:TF)(te:EF)(p:Addr)(PD:Pd)(xs:List PV)(zs:List PV×Mu)(i n:Nat)(U':L2.St)(H':Hp):Prop:=
 n=-xs-i/\i<=-xs/\∃Yi ws,SR K H0 Z0 U' H' Yi ((.ref p,Zs (R ws))::PD)/\dF b tc te (xs.drop i) Yi ws=!zs
def Vc(hb:GS K g b){PD:Pd}{Q:VK}
 (it:∀ws,qX K H0 Z0 ((.ref p,Zs (R ws))::PD) ZU xs) (fin:∀z H' Ax ws,SR K H0 Z0 z H' Ax ((.ref p,Zs (R ws))::PD)->dF b tc te [] Ax ws=!zs->Q (.ref p) H') (i n:Nat) (z:L2.St) (H':Hp) (w:CW K H0 Z0 b tc te p PD xs zs i n z H'):
 (ZU.stop i H'/\Q (.ref p) H')\/(ZU.go i H'/\∀x H2,ZU.yld i H' x H2->g x z H2 λj H3=>jw K tc j H3 λb' H4=>
   if b'=G then tP K te j H4 λv W=>∃ys,W p=!(.lst ys)/\-ys<sizeLine/\∃n',n'<n/\CW K H0 Z0 b tc te p PD xs zs (i+1) n' j (aI W p (.lst (ys++[v])))
   else ∃n',n'<n/\CW K H0 Z0 b tc te p PD xs zs (i+1) n' j H4):=by
 show ym λZT D=>?_;let(rfl,hi,Ax,ws,s',h'):=w;let(i1,i2):=it ws z H' Ax i s';by_cases q:i< -xs
 . let(go,yl):=i1 _ (ge q);rw[nE q]at h';let(Y1,e1,e2):=b_ h';let(c,e3,F):=b_ e2;have hn:-xs-(i+1)< -xs-i:=()
   show D (YY #[go,λx H2 hy=>hb H0 Z0 z H2 Ax _ x _ Y1 _ (yl x H2 hy) e1 λU2 s5=>#[H0,Z0,Y1,_,c.1,c.2,s5,e3,λH4 s6=>?_]]);dsimp only;split
   . rename_i hc;show ym λZT D=>?_;rw[ax hc]at F;let(v,e5,N):=b_ F;split at N
     . show D #[H0,Z0,c.2,_,v.1,v.2,s6,e5,λvv W s7=>?_];show ym λZT D=>?_;let(us,hu,hl,s8):=s7.pushO;show D #[us,hu,by rw[hl,hG];lia,_,hn,O,q,v.2,_,s8,N]
     . cases N
   . rename_i hc;rw[a_ hc]at F;show#[_,hn,O,q,c.2,ws,s6,F]
 . grind
def Ml(N:GS K g b):∀U H Q,tP K (bU f m dE b tc te) U H Q->R4 (Iz K f) m dE g (jw K tc) (tP K te) U H Q:=λU H Q q=>by show ym λZT z=>?_;let(H0,Z0,Y,pd,r,Y',s,h,k):=q;let(y,h1,h2):=b_ h;let(zs,h3,D):=d4 h2;cases D;show z #[H0,Z0,Y,pd,y.1,y.2,s,h1,λZU H1 im s1 F sub p hp=>?_];have i:SR K H0 Z0 U H1 (ie dE y.2) im:=s1.frz;let s3:=i.block (m:=m) λj hj=>Vb hj;show#[CW K H0 Z0 b tc te p (tQ U (ie dE y.2)++im) y.1 zs,#[_,O,gz _,_,[],(s3.newO hp λZ _ _=>#[[],bZ,.nil]),h3],Vc N (λws=>qX.more (pe:=(.ref p,Zs (R ws))::tQ U (ie dE y.2)) F) λW H' Yi_ ws s' h'=>?_];cases h';show k _ _ ((SR.back i.1 i.both (s'.perm gx)).sub ∅)
section
variable {X:Cx}
def gH(j F:List Str)(N:List Nat)(i:X.calm=G)(c:jE X j F N sc)(hi:PI X tg iter (Iz X.K f))
 (q:∀C fp s H,PG (gC X j F sc C fp s H) tg g) (z:GS X.K g b) (D:∀C fp s H,v5 (gC X j F sc C fp s H) iX (jw X.K tc)) (he:∀C fp s H,PE (gC X j F sc C fp s H) iN (tP X.K te))
 (hs:∀x,foldedSetIterable iter X.env x=pure x:=by intro _;rfl):PE X (.ListComp iN [#[tg,iter,iX,0]] sc pos) (tP X.K (bU f (-j) N b tc te)):=PE.imp (Z9 j F N i c hi q D he hs) (Ml z)
def uA(Q F:List Str)(dE:List Nat){pos pos' j:Pos}(hN:X.N.Nodup)(wf:X.N[i]?=!x)(hx:X.env.scope.names.lookup x=!.local)
 (z:X.calm=G) (c:jE X Q F dE sc) (hi:PI X tg iter (Iz X.K f))
 (hg:∀C fp s H,PG (gC X Q F sc C fp s H) tg g) (hb:GS X.K g b) (hc:∀C fp s H,v5 (gC X Q F sc C fp s H) iX (jw X.K tc)) (he:∀C fp s H,PE (gC X Q F sc C fp s H) iN (tP X.K te))
 (W:swapsWith (.ListComp iN [#[tg,iter,iX,0]] sc pos) (!(.Name x pos')) j.line X.env=pure G:=by rfl)
 (hs:∀x,foldedSetIterable iter X.env x=pure x:=by intro _;rfl):PS X (.Assign [.Name x pos'] (.ListComp iN [#[tg,iter,iX,0]] sc pos) j) (iw X.K (aL i (bU f (-Q) dE b tc te))):=
 PS.imp (MM Q F dE hN wf hx z c hi hg hc he W hs) (Qx λD U H q=>Ml hb U H _ q)
def bB:TF:=λY=>!(G,Y)
def cN:v5 X [] (jw X.K bB):=λae s U H Q I q=>WP ae s U H Q I (by let(H0,Z0,Y,pd,b,Y',s,h,k):=q;cases h;show k H s)
end
noncomputable def uQ (f:PV->PV->Option Bool):List PV->List PV->Option Bool
 |p::ps,q::qs=>(f p q).bind λb=>(uQ f ps qs).map λc=>b&&c
 |_,_=>!G
def dH:Nat->PV->PV->Option Bool
 |0,_,_=>J
 |n+1,p,q=>match p,q with
  |ZB ps,ZB qs=>(uQ (dH n) ps qs).map λb=>b&&(-ps==-qs)
  |R ps,R qs=>if -ps=-qs then uQ (dH n) ps qs else !M
  |.non,.non=>!G
  |.bl a,.bl b=>!(a==b)
  |ZI a,ZI b=>!(a==b)
  |ZH a,ZH b=>!(a==b)
  |.bl a,ZI b=>!((if a then 1 else 0)==b)
  |ZI a,.bl b=>!(a==(if b then 1 else 0))
  |.non,.bl _=>!M
  |.non,ZI _=>!M
  |.non,ZH _=>!M
  |.non,ZB _=>!M
  |.non,R _=>!M
  |.bl _,.non=>!M
  |.bl _,ZH _=>!M
  |.bl _,ZB _=>!M
  |.bl _,R _=>!M
  |ZI _,.non=>!M
  |ZI _,ZH _=>!M
  |ZI _,ZB _=>!M
  |ZI _,R _=>!M
  |ZH _,.non=>!M
  |ZH _,.bl _=>!M
  |ZH _,ZI _=>!M
  |ZH _,ZB _=>!M
  |ZH _,R _=>!M
  |ZB _,.non=>!M
  |ZB _,.bl _=>!M
  |ZB _,ZI _=>!M
  |ZB _,ZH _=>!M
  |ZB _,R _=>!M
  |R _,.non=>!M
  |R _,.bl _=>!M
  |R _,ZI _=>!M
  |R _,ZH _=>!M
  |R _,ZB _=>!M
  |_,_=>J
theorem Bs:∀{ps i:List PV}{b:Bool},uQ f ps i=!b->(∀(j:Nat) p q,ps[j]?=!p->i[j]?=!q->f p q=!((f (ps.getD j .non) (i.getD j .non)).getD false))/\
 b=(range (min (-ps) (-i))).all λj=>(f (ps.getD j .non) (i.getD j .non)).getD false
 |[],i,b=>λh=>by cases h;show#[λj p q e=>by simp at e,by simp]
 |p::ps,[],b=>λh=>by cases h;show#[λj p q _ e=>by simp at e,by simp]
 |p::ps,q::i,b=>λh=>by
  let(c,h1,h2):=b_ h;let(d,N,rfl):=d4 h2;let(i1,W):=Bs N;show#[λj Q q' D z=>?_,?_]
  . cases j with
    |zero=>
     grind
    |succ j=>
     have:=i1 j Q q' () ();simpa using this
  . have e:min (-(p::ps)) (-(q::i))=min (-ps) (-i)+1:=by simp only[db];lia
    rw[e,range_succ_eq_map,all_cons,all_map];have F:(f ((p::ps).getD 0 .non) ((q::i).getD 0 .non)).getD false=c:=by simp[h1]
    rw[F,W];rfl
def gp(r:aK K Z ps vs)(i:ap vs dS)(h:j< -dS):∃p v,ps[j]?=!p/\bP K Z p v/\aw v dS[j]:=by let N:=-i;have q:vs[j]?=some vs[j]:=ge ();let(u,z,D):=i.get q;rw[ge h]at z;let(p,Q,F):=r.getV q;grind
section
open PySem.SeqAt
variable {X:Cx}{ae:List (Addr×Obj)}{U:L2.St}{H:Hp}{s:Shared}{g:List Addr}
def Fq(I:am X ae U H s)(r:bP X.K #[H,g] (ZB ps) v)(D:aw v u):∃a vs j,u=YV a/\cW X.K H a vs/\aK X.K #[H,g] ps vs/\ap vs j/\s.heap.IsTuple a j.toArray:=by let(a,vs,rfl,h1,h2):=r;let(j,z,q,_):=I.tuple h1;show#[a,vs,j,D,h1,h2,z,q]
def Ag(I:am X ae U H s)(r:bP X.K #[H,g] (R ps) v)(D:aw v u):∃a vs j,u=YV a/\bY X.K H a vs/\aK X.K #[H,g] ps vs/\ap vs j/\s.heap.IsList a j.toArray:=by let(a,vs,rfl,h1,h2):=r;let(j,z,q,_):=I.list h1;show#[a,vs,j,D,h1,h2,z,q.isList]
def kn:PV->Nat
 |.non=>0 |.bl _=>1 |ZI _=>2 |ZH _=>3 |ZB _=>4 |R _=>5 |_=>6
def CY(h:kn p=4):∃ps,p=ZB ps:=by cases p<;>first |show#[_,O] |cases h
def C0(h:kn p=5):∃ps,p=R ps:=by cases p<;>first |show#[_,O] |cases h
def Ft(h:dH (n+1) p q=!b):kn p<6:=by cases p<;>first |cases h;done |show fR (fR (fR (fR (fR .refl)))) |show fR (fR (fR (fR .refl))) |show fR (fR (fR .refl)) |show fR (fR .refl) |show fR .refl |show Nat.le.refl
def Zd(h:dH (n+1) p q=!b):kn q<6:=by
 have j:dH (n+1) p q=J->kn q<6:=λe=>absurd ∅ (Option.some_ne_none b);cases q with
 |dk _ _=>show j (by cases p<;>rfl)
 |dt _ _=>show j (by cases p<;>rfl)
 |obj _ _ _=>show j (by cases p<;>rfl)
 |df _ _=>show j (by cases p<;>rfl)
 |dtf _ _=>show j (by cases p<;>rfl)
 |dx _ _ _=>show j (by cases p<;>rfl)
 |exc _=>show j (by cases p<;>rfl)
 |fn _=>show j (by cases p<;>rfl)
 |ptr _=>show j (by cases p<;>rfl)
 |_=>first |show fR (fR (fR (fR (fR .refl)))) |show fR (fR (fR (fR .refl))) |show fR (fR (fR .refl)) |show fR (fR .refl) |show fR .refl |show Nat.le.refl
def back:V->Option PV
 |.non=>some .non |.bl b=>some (.bl b) |.int i=>some (ZI i) |.str x=>some (ZH x) |_=>J
inductive Sh(K:FG)(Z:ZG)(v:V):PV->Prop
 |at {p:PV}:back v=!p->Sh K Z v p
 |tup {a:Addr} {ps:List PV} {vs:List V}:v=.ref a->cW K Z.z a vs->aK K Z ps vs->Sh K Z v (.tup ps)
 |lst {a:Addr} {ps:List PV} {vs:List V}:v=.ref a->bY K Z.z a vs->aK K Z ps vs->Sh K Z v (.lst ps)
def Kf(r:bP K Z p v)(h:kn p<6):Sh K Z v p:=by
 cases p with
 |non=>show .at (gs back (jL r))
 |bl b=>show .at (gs back (ji r))
 |int b=>show .at (gs back (cF r))
 |str b=>show .at (gs back (dN r))
 |tup ps=> let(a,F,e,h1,h2):=r;show .tup e h1 h2
 |lst ps=> let(a,F,e,h1,h2):=r;show .lst e h1 h2
 |_=>show absurd h (ly 6)
inductive Tw(K:FG)(Z:ZG):PV->PV->Prop
 |at {v:V} {p:PV}:back v=!p->Tw K Z p p
 |tup {ps qs:List PV} {vs:List V}:aK K Z ps vs->aK K Z qs vs->Tw K Z (.tup ps) (.tup qs)
 |lst {ps qs:List PV} {vs:List V}:aK K Z ps vs->aK K Z qs vs->Tw K Z (.lst ps) (.lst qs)
def Ze(I:am X ae U H s)(h1:cW X.K H a vs)(j:bY X.K H a ws):False:=by let(q,z,(o1,F,N,c1,_),_):=I.list j;let(i,W,(o2,Q,D,_),_):=I.tuple h1;grind
def yp(e:v=.ref a)(h:back v=!p):False:=by subst e;cases h
def Sh.two(I:am X ae U H s)(h1:Sh X.K #[H,g] v p)(h2:Sh X.K #[H,g] v q):Tw X.K #[H,g] p q:=by
 cases h1 with
 |«at» e=>
  cases h2 with
  |«at» j=>show(fI (e.symm.trans j))▸.at e
  |tup j=>show(yp j e).elim
  |lst j=>show(yp j e).elim
 |tup e F W=>
  cases h2 with
  |«at» j=>show(yp e j).elim
  |tup j z N=>show .tup W (I.tuple_inj F (V.ref.inj (j.symm.trans e)▸z)▸N)
  |lst j z=>show(Ze I F (V.ref.inj (j.symm.trans e)▸z)).elim
 |lst e F W=>
  cases h2 with
  |«at» j=>show(yp e j).elim
  |tup j z=>show(Ze I z (V.ref.inj (e.symm.trans j)▸F)).elim
  |lst j z N=>show .lst W (I.list_inj F (V.ref.inj (j.symm.trans e)▸z)▸N)
def QP(e:back v=!p)(h:dH (n+1) p p=!b):b=G:=by
 cases v with
 |non=>cases e;cases h;rfl
 |bl z=>cases e;cases h;grind
 |int z=>cases e;cases h;grind
 |str z=>cases e;cases h;grind
 |_=>cases e
theorem Ah(j:∀(p q:PV)(v:V)(b:Bool),bP K Z p v->bP K Z q v->f p q=!b->b=G):∀{ps i:List PV}{vs:List V}{c:Bool},aK K Z ps vs->aK K Z i vs->uQ f ps i=!c->c=G
 |[],i,vs,c=>λa b h=>by cases h;rfl
 |p::ps,[],vs,c=>λa b h=>by cases h;rfl
 |p::ps,q::i,vs,c=>λa b h=>by let(w1,r1,F,W,e3):=a.inv;let(w2,r2,z,N,f3):=b.inv;let(g1,D):=cons.inj (F.symm.trans z);subst g1 D;let(c,h1,h2):=b_ h;let(d,Q,rfl):=d4 h2;rw[j _ _ _ _ W N h1,Ah j e3 f3 Q];rfl
theorem yq(z:∀(p q r:PV)(v:V)(b c:Bool),bP K Z p v->bP K Z q v->f p r=!b->f q r=!c->b=c):∀{ps j rs:List PV}{vs:List V}{b c:Bool},aK K Z ps vs->aK K Z j vs->uQ f ps rs=!b->uQ f j rs=!c->b=c
 |[],[],rs,vs,b,c=>λ_ _ h k=>fI ()
 |[],q::j,rs,vs,b,c=>λa i h k=>by let(_,_,e,_):=i.inv;show absurd (a.inv0.symm.trans e) (by simp)
 |p::ps,[],rs,vs,b,c=>λa i h k=>by let(_,_,e,_):=a.inv;show absurd (i.inv0.symm.trans e) (by simp)
 |p::ps,q::j,[],vs,b,c=>λa i h k=>fI (h.symm.trans k)
 |p::ps,q::j,r::rs,vs,b,c=>λa i h k=>by let(w1,r1,Q,e2,e3):=a.inv;let(w2,r2,D,W,f3):=i.inv;let(g1,N):=cons.inj (Q.symm.trans D);subst g1 N;let(x1,h1,h2):=b_ h;let(d1,h3,rfl):=d4 h2;let(x2,F,k2):=b_ k;let(d2,k3,rfl):=d4 k2;rw[z _ _ _ _ _ _ e2 W h1 F,yq z e3 f3 h3 k3]
theorem eq_self(I:am X ae U H s):∀(n:Nat){p q:PV}{v:V}{b:Bool},bP X.K #[H,g] p v->bP X.K #[H,g] q v->dH n p q=!b->b=G
 |0,p,q,v,b=>λ_ _ h=>by cases h
 |n+1,p,q,v,b=>λz j h=>by
  cases Sh.two I (Kf z (Ft h)) (Kf j (Zd h)) with
  |«at» e=>show QP e h
  |tup h2 i=>
   let(c,F,rfl):=d4 h;rw[Ah (λ_ _ _ _=>eq_self I n) h2 i F,h2.length.symm.trans (-i),mS];rfl
  |lst h2 i=>show Ah (λ_ _ _ _=>eq_self I n) h2 i ((ax (h2.length.symm.trans (-i))).symm.trans h)
inductive U_(s:Shared):PV->Value->Prop
 |non:U_ s .non .none
 |bl {b:Bool}:U_ s (.bl b) (.bool b)
 |int {i:Int} {t}:U_ s (.int i) (.int i t)
 |str {x:Str} {t}:U_ s (.str x) (.str x t)
 |tup {ps:List PV} {a:Addr} {dS}:s.heap.IsTuple a dS->U_ s (.tup ps) (.ref a)
 |lst {ps:List PV} {a:Addr} {dS}:s.heap.IsList a dS->U_ s (.lst ps) (.ref a)
def C1(I:am X ae U H s)(r:bP X.K #[H,g] p v)(j:aw v u)(h:kn p<6):U_ s p u:=by
 cases p with
 |non=>cases jL r;cases j;show .non
 |bl b=>cases ji r;cases j;show .bl
 |int b=>cases cF r;let(t,rfl):=j;show .int
 |str b=>cases dN r;let(t,rfl):=j;show .str
 |tup ps=>let(a,W,q,rfl,_,_,_,x):=Fq I r j;show .tup x
 |lst ps=>let(a,W,q,rfl,_,_,_,x):=Ag I r j;show .lst x
 |_=>show absurd h (ly 6)
def E3(A:Around)(s:Shared)(x y:Value)(b:Bool):Prop:=EqAt A s x y b/\RcAt A s x y b/\RcNeAt A s x y (not b)
def E3.of(h:some c=!b)(e:EqAt A s x y c)(r:RcAt A s x y c)(q:RcNeAt A s x y (not c)):E3 A s x y b:=fI h▸#[e,r,q]
def two(p q:PV):Bool:=kn p==kn q&&Nat.ble 4 (kn p)
def QU(i:A.units<cLine)(h1:U_ s p u1)(h2:U_ s q u2)(e:two p q=M)(h:dH (n+1) p q=!b):E3 A s u1 u2 b:=by
 cases h1 with
 |non=>
  cases h2 with
  |non=>show E3.of h (EqAt.same .none) RcAt.none_none RcNeAt.none_none
  |bl=>show E3.of h (EqAt.none_bool _) (RcAt.none_bool _) (RcNeAt.none_bool _)
  |int=>show E3.of h (EqAt.none_int _ _) (RcAt.none_int _ _) (RcNeAt.none_int _ _)
  |str=>show E3.of h (EqAt.none_str _ _) (RcAt.none_str _ _) (RcNeAt.none_str _ _)
  |tup j=>show E3.of h (EqAt.none_tuple j i) (RcAt.none_tuple j i) (RcNeAt.none_tuple j i)
  |lst j=>show E3.of h (EqAt.none_list j i) (RcAt.none_list j i) (RcNeAt.none_list j i)
 |bl=>
  cases h2 with
  |non=>show E3.of h (EqAt.bool_none _) (RcAt.bool_none _) (RcNeAt.bool_none _)
  |bl=>show E3.of h (EqAt.bool_bool _ _) (RcAt.bool_bool _ _) (RcNeAt.bool_bool _ _)
  |int=>show E3.of h (EqAt.bool_int _ _ _) (RcAt.bool_int _ _ _) (RcNeAt.bool_int _ _ _)
  |str=>show E3.of h (EqAt.bool_str _ _ _) (RcAt.bool_str _ _ _) (RcNeAt.bool_str _ _ _)
  |tup j=>show E3.of h (EqAt.bool_tuple _ j i) (RcAt.bool_tuple _ j i) (RcNeAt.bool_tuple _ j i)
  |lst j=>show E3.of h (EqAt.bool_list _ j i) (RcAt.bool_list _ j i) (RcNeAt.bool_list _ j i)
 |int=>
  cases h2 with
  |non=>show E3.of h (EqAt.int_none _ _) (RcAt.int_none _ _) (RcNeAt.int_none _ _)
  |bl=>show E3.of h (EqAt.int_bool _ _ _) (RcAt.int_bool _ _ _) (RcNeAt.int_bool _ _ _)
  |int=>show E3.of h (EqAt.int_int _ _ _ _) (RcAt.int_int _ _ _ _) (RcNeAt.int_int _ _ _ _)
  |str=>show E3.of h (EqAt.int_str _ _ _ _) (RcAt.int_str _ _ _ _) (RcNeAt.int_str _ _ _ _)
  |tup j=>show E3.of h (EqAt.int_tuple _ _ j i) (RcAt.int_tuple _ _ j i) (RcNeAt.int_tuple _ _ j i)
  |lst j=>show E3.of h (EqAt.int_list _ _ j i) (RcAt.int_list _ _ j i) (RcNeAt.int_list _ _ j i)
 |str=>
  cases h2 with
  |non=>show E3.of h (EqAt.str_none _ _) (RcAt.str_none _ _) (RcNeAt.str_none _ _)
  |bl=>show E3.of h (EqAt.str_bool _ _ _) (RcAt.str_bool _ _ _) (RcNeAt.str_bool _ _ _)
  |int=>show E3.of h (EqAt.str_int _ _ _ _) (RcAt.str_int _ _ _ _) (RcNeAt.str_int _ _ _ _)
  |str=>show E3.of h (EqAt.str_str _ _ _ _) (RcAt.str_str _ _ _ _) (RcNeAt.str_str _ _ _ _)
  |tup j=>show E3.of h (EqAt.str_tuple _ _ j i) (RcAt.str_tuple _ _ j i) (RcNeAt.str_tuple _ _ j i)
  |lst j=>show E3.of h (EqAt.str_list _ _ j i) (RcAt.str_list _ _ j i) (RcNeAt.str_list _ _ j i)
 |tup z=>
  cases h2 with
  |non=>show E3.of h (EqAt.tuple_none z i) (RcAt.tuple_none z i) (RcNeAt.tuple_none z i)
  |bl=>show E3.of h (EqAt.tuple_bool _ z i) (RcAt.tuple_bool _ z i) (RcNeAt.tuple_bool _ z i)
  |int=>show E3.of h (EqAt.tuple_int _ _ z i) (RcAt.tuple_int _ _ z i) (RcNeAt.tuple_int _ _ z i)
  |str=>show E3.of h (EqAt.tuple_str _ _ z i) (RcAt.tuple_str _ _ z i) (RcNeAt.tuple_str _ _ z i)
  |tup j=>cases e
  |lst j=>show E3.of h (EqAt.tuple_list z j i) (RcAt.tuple_list z j i) (RcNeAt.tuple_list z j i)
 |lst z=>
  cases h2 with
  |non=>show E3.of h (EqAt.list_none z i) (RcAt.list_none z i) (RcNeAt.list_none z i)
  |bl=>show E3.of h (EqAt.list_bool _ z i) (RcAt.list_bool _ z i) (RcNeAt.list_bool _ z i)
  |int=>show E3.of h (EqAt.list_int _ _ z i) (RcAt.list_int _ _ z i) (RcNeAt.list_int _ _ z i)
  |str=>show E3.of h (EqAt.list_str _ _ z i) (RcAt.list_str _ _ z i) (RcNeAt.list_str _ _ z i)
  |tup j=>show E3.of h (EqAt.list_tuple z j i) (RcAt.list_tuple z j i) (RcNeAt.list_tuple z j i)
  |lst j=>cases e
def yr(r:aw v (YV a)):v=.ref a:=by
 cases v with
 |ref b=>cases r;rfl
 |non=>cases r
 |bl _=>cases r
 |ty _=>cases r
 |_=>let(t,e):=r;cases e
def Mm(I:am X ae U H s)(z:bP X.K #[H,g] p (.ref a1))(F:bP X.K #[H,g] q (.ref a2))(h:dH n p q=!b)(D:RcAt A s (YV a1) (YV a2) b):EqAt A s (YV a1) (YV a2) b:=by
 by_cases j:a1=a2
 . subst j;show eq_self I n z F h▸EqAt.same _
 . show EqAt.of_refs j D
theorem Kg(I:am X ae U H s):∀(n:Nat){p q:PV}{v w:V}{u1 u2:Value}{b:Bool},bP X.K #[H,g] p v->bP X.K #[H,g] q w->aw v u1->aw w u2->dH n p q=!b->∀A:Around,A.units+n<cLine->
 EqAt A s u1 u2 b/\RcAt A s u1 u2 b/\RcNeAt A s u1 u2 (not b)
 |0,p,q,v,w,u1,u2,b=>λ_ _ _ _ h _ _=>by cases h
 |n+1,p,q,v,w,u1,u2,b=>λrp rq r1 r2 h A hA=>by
  let hu:=r9 (rS _ _) hA;have sT:A.in1.units+n<cLine:=by show A.units+1+n<cLine;lia
  have item:∀{ps Q:List PV}{vs ws:List V}{W i:List Value}{c:Bool},aK X.K #[H,g] ps vs->ap vs W->aK X.K #[H,g] Q ws->ap ws i->uQ (dH n) ps Q=!c->
   ∀j (h1:j< ~~~W.toArray) (h2:j< ~~~i.toArray),EqAt A.in1 s W.toArray[j] i.toArray[j] ((dH n (ps.getD j .non) (Q.getD j .non)).getD M):=λ{ps Q vs ws W i c} a b c' d e j h1 h2=>by
   let(p,v,e1,e2,e3):=gp a b ();let(q,w,f1,f2,f3):=gp c' d ();have:=(Bs e).1 j p q e1 f1;show(Kg I n e2 f2 e3 f3 this A.in1 sT).1
  cases e:two p q with
  |false=>show QU hu (C1 I rp r1 (Ft h)) (C1 I rq r2 (Zd h)) e h
  |true=>
   have e':kn p=kn q/\4<=kn p:=by unfold two at e;simpa using e
   let hk:=Ft h;obtain hp|hp:=(by omega:kn p=4\/kn p=5)
   . let(ps,rfl):=CY hp;let(Q,rfl):=CY (e'.1.symm.trans hp);let(a1,QY,z,rfl,q1,l1,F,x1):=Fq I rp r1;let(a2,Q1,i,rfl,q2,l2,D,x2):=Fq I rq r2;let e1:=yr r1;let e2:=yr r2;subst e1 e2;let(c,h5,rfl):=d4 h;let it:=item l1 F l2 D h5;have z1: ~~~z.toArray=-ps:=by rw[gL,<-(-F),l1.length]
     have z2: ~~~i.toArray=-Q:=by rw[gL,<-(-D),l2.length]
     let N:=RcAt.tuples x1 x2 hu it;let rn:=RcNeAt.tuples x1 x2 hu it;rw[z1,z2,<-(Bs h5).2]at N rn;show#[Mm I rp rq h N,N,rn]
   . let(ps,rfl):=C0 hp;let(Q,rfl):=C0 (e'.1.symm.trans hp);let(a1,QY,z,rfl,q1,l1,F,x1):=Ag I rp r1;let(a2,Q1,i,rfl,q2,l2,D,x2):=Ag I rq r2;let e1:=yr r1;let e2:=yr r2;subst e1 e2;have z1: ~~~z.toArray=-ps:=by rw[gL,<-(-F),l1.length]
     have z2: ~~~i.toArray=-Q:=by rw[gL,<-(-D),l2.length]
     by_cases hl:-ps=-Q
     . let h':=(ax hl).symm.trans h;let it:=item l1 F l2 D h';let hz:=(z1.trans hl).trans z2.symm;let N:=RcAt.lists x1 x2 hz hu it;let rn:=RcNeAt.lists x1 x2 hz hu it;rw[z1,<-(show min (-ps) (-Q)=-ps by rw[<-hl,Nat.min_self]),<-(Bs h').2]at N rn;show#[Mm I rp rq h N,N,rn]
     . let h':=fI ((a_ hl).symm.trans h);subst h';have hz:(~~~z.toArray != ~~~i.toArray)=G:=by rw[z1,z2];show bne_iff_ne.mpr hl
       let N:=RcAt.lists_lengths x1 x2 hz hu;show#[Mm I rp rq h N,N,RcNeAt.lists_lengths x1 x2 hz hu]
end
section
open PySem.SeqAt
variable {X:Cx}{ae:List (Addr×Obj)}{U:L2.St}{H:Hp}{s:Shared}{g:List Addr}
def Qz(h:dH (n+1) (ZB ps) r=!b):b=M\/∃rs,r=ZB rs:=by
 cases r with
 |tup rs=>grind
 |_=>cases h<;>show Zl O
def QB(h:dH (n+1) (R ps) r=!b):b=M\/∃rs,r=R rs:=by
 cases r with
 |lst rs=>grind
 |_=>cases h<;>show Zl O
theorem Fv(I:am X ae U H s):∀(n:Nat){p q r:PV}{v:V}{b c:Bool},bP X.K #[H,g] p v->bP X.K #[H,g] q v->dH n p r=!b->dH n q r=!c->b=c
 |0,p,q,r,v,b,c=>λ_ _ h _=>by cases h
 |n+1,p,q,r,v,b,c=>λrp rq h k=>by
  cases Sh.two I (Kf rp (Ft h)) (Kf rq (Ft k)) with
  |«at» e=>grind
  | @tup ps N _ h2 i=>
   let j:=h2.length.symm.trans (-i);obtain rfl|⟨rs,rfl⟩:=Qz h
   . obtain rfl|⟨rs,rfl⟩:=Qz k
     . rfl
     . let(c1,F,Q):=d4 h;let(c2,z,rfl):=d4 k;rw[<-yq (f:=dH n) (λ_ _ _ _ _ _=>Fv I n) h2 i F z,<-j,Q]
   . let(c1,F,rfl):=d4 h;let(c2,z,rfl):=d4 k;rw[yq (f:=dH n) (λ_ _ _ _ _ _=>Fv I n) h2 i F z,j]
  | @lst ps N _ h2 i=>
   let j:=h2.length.symm.trans (-i);have W:∀rs,r=R rs->b=c:=λrs e=>by
    subst e;by_cases D:-N=-rs
    . show yq (f:=dH n) (λ_ _ _ _ _ _=>Fv I n) h2 i ((ax ()).symm.trans h) ((ax D).symm.trans k)
    . show fI ((((a_ λe=>D ()).symm.trans h).symm.trans ((a_ D).symm.trans k)))
   obtain Q|⟨rs,e⟩:=QB h
   . obtain e2|⟨rs,e⟩:=QB k
     . grind
     . grind
   . grind
noncomputable def tR (f:PV->PV->Option Bool) (x:PV):List PV->Option Bool
 |[]=>!M
 |q::qs=>(f q x).bind λb=>(tR f x qs).map λc=>b||c
theorem G6:∀{N:List PV}{b:Bool},tR f x N=!b->(∀q∈N,∃c,f q x=!c)/\b=N.any λq=>(f q x).getD M
 |[],b=>λh=>by cases h;grind
 |q::N,b=>λh=>by
  let(c,h1,h2):=b_ h;let(d,j,rfl):=d4 h2;let(F,z):=G6 j;show#[λD i=>?_,?_]
  . obtain rfl|i:=bh.mp i
    . grind
    . grind
  . grind
open Classical in
def e7(K:FG)(Z:ZG)(x:PV)(qs:List PV)(vs:List V)(dS:List Value)(u:Value):Bool:=
 if h:∃(j:Nat)(q:PV),qs[j]?=!q/\dS[j]?=!u then (dH 150 h.choose_spec.choose x).getD M else M
def Du(I:am X ae U H s){xv:V}{xu:Value}(r:aK X.K #[H,g] qs vs)(N:ap vs dS)(F:∀q∈qs,∃c,dH 150 q x=!c){j:Nat}(z:qs[j]?=!q)(Q:dS[j]?=!u):
 e7 X.K #[H,g] x qs vs dS u=(dH 150 q x).getD M:=by
 have h:∃(j:Nat)(q:PV),qs[j]?=!q/\dS[j]?=!u:=#[j,q,z,Q];unfold e7;rw[dif_pos h];let(i,D):=h.choose_spec.choose_spec;generalize h.choose_spec.choose=q' at i D;let(v1,g1,g2):=r.get z;let(v2,k1,k2):=r.get i;let(u1,W,m2):=N.get g1;let(u2,n1,n2):=N.get k1;rw[Q]at W;cases W;rw[D]at n1;cases n1;let ev:=aw.inj m2 n2;subst ev;let(c1,h1):=F q (gt z);let(c2,h2):=F q' (gt i);rw[h1,h2,Fv I 150 k2 g2 h2 h1]
def Dv(I:am X ae U H s)(rx:bP X.K #[H,g] x xv)(ru:aw xv xu)(r:aK X.K #[H,g] qs vs)(D:ap vs dS)(F:∀q∈qs,∃c,dH 150 q x=!c)(hA:A.units+150<cLine):
 ∀u,u∈dS.toArray->EqAt A s u xu (e7 X.K #[H,g] x qs vs dS u):=λu hu=>by
 let(j,hj,e):=getElem_of_mem (by simpa using hu);have Q:dS[j]?=!u:=by rw[ge hj,e]
 let hl:=-D;let i:=-r;have z:qs[j]?=!(qs[j]'()):=ge _;rw[Du (xv:=xv) (xu:=xu) I r D F z Q];let(v1,g1,g2):=r.get z;let(u1,N,W):=D.get g1;rw[Q]at N;cases N;let(c1,h1):=F _ (gt z);rw[h1];show(Kg I 150 g2 rx W ru h1 A hA).1
def IW(I:am X ae U H s){xv:V}{xu:Value}(r:aK X.K #[H,g] D vs)(F:ap vs z)(i:∀q∈D,∃c,dH 150 q x=!c):
 z.toArray.any (e7 X.K #[H,g] x D vs z)=D.any λq=>(dH 150 q x).getD M:=by
 have hl:-z=-D:=by rw[<-(-F),r.length]
 have key:z.map (e7 X.K #[H,g] x D vs z)=D.map λq=>(dH 150 q x).getD M:=by
  apply ext_getElem?;intro j;rw[eL,eL];by_cases hj:j< -z
  . let W:=ge hj;have N:D[j]?=!(D[j]'()):=ge _;rw[W,N,mM,mM,Du (xv:=xv) (xu:=xu) I r F i N W]
  . grind
 rw[show z.toArray.any (e7 X.K #[H,g] x D vs z)=z.any (e7 X.K #[H,g] x D vs z) by simp];have a1:z.any (e7 X.K #[H,g] x D vs z)=(z.map (e7 X.K #[H,g] x D vs z)).any id:=by simp[any_map]
 have Q:(D.any λq=>(dH 150 q x).getD M)=(D.map λq=>(dH 150 q x).getD M).any id:=by simp[any_map]
 rw[a1,Q,key]
end
section
variable {X:Cx}
def SR.rep2(h:SR K H0 Z0 U H Y ((w,Zp q)::(v,Zp p)::pd)):∃Z:ZG,eY_ Z.z H/\bP K Z p v/\bP K Z q w:=by let(_,Z,_,z,r,s):=h.sh;let(x,D,j):=(s.perm dD.symm).1 _ cS;cases D;show#[Z,z.zh,j,r]
def SR.rep2H(h:SR K H0 Z0 U H Y ((w,Zp q)::(v,Zp p)::pd)):∃g,bP K #[H,g] p v/\bP K #[H,g] q w:=by let(Z,z,a,b):=h.rep2;show#[Z.g,a.mono (Z':=#[H,Z.g]) #[z,kQ _],b.mono (Z':=#[H,Z.g]) #[z,kQ _]]
def Sv(K:FG)(neg:Bool):R2:=λx y H Q=>∃g p q b,bP K #[H,g] p x/\bP K #[H,g] q y/\dH 150 p q=!b/\Q (.bl (if neg then not b else b)) H
def cG(hr:gn b k X.A):ju X (compareOp .Eq) (Sv X.K M):=by
 intro ae s U H x y v u Q I N z h;let(g,p,q,b,W,F,e,i):=h;have j:X.A.units+150<cLine:=by have:=hr.un;lia
 let(_,D,_):=Kg I 150 W F N z e X.A j;show D _ _ _ _ #[.bl b,H,I,O,i]
def Mp(W:gn b k X.A):ju X (compareOp .NotEq) (Sv X.K G):=by
 intro ae s U H x y v u Q I F z h;let(g,p,q,b,N,D,e,i):=h;have j:X.A.units+150<cLine:=by have:=W.un;lia
 let(_,_,rn):=Kg I 150 N D F z e X.A j;show rn _ _ _ _ #[.bl (not b),H,I,O,i]
def eR(p q:PV):Option Lc:=(dH 150 p q).map λb=>Zp (.bl b)
def Mq(p q:PV):Option Lc:=(dH 150 p q).map λb=>Zp (.bl (not b))
def cH:pA K (Sv K M) eR:=by intro H0 Z0 U Y pd H v w x y l Q s e k;let(b,z,rfl):=d4 e;let(g,j,q):=s.rep2H;show#[g,x,y,b,j,q,z,k _ H (s.pop.pop.scal mq)]
def Mr:pA K (Sv K G) Mq:=by intro H0 Z0 U Y pd H v w x y l Q s e k;let(b,z,rfl):=d4 e;let(g,j,q):=s.rep2H;show#[g,x,y,b,j,q,z,k _ H (s.pop.pop.scal mq)]
def Xu(K:FG)(neg:Bool):R2:=λx y H Q=>(∃g p qs b,bP K #[H,g] p x/\(bP K #[H,g] (R qs) y\/bP K #[H,g] (ZB qs) y)/\tR (dH 150) p qs=!b/\Q (.bl (if neg then not b else b)) H)\/
 ∃i j,x=.str i/\y=.str j/\Q (.bl (if neg then (nz j i 0 (-j) 1).isEmpty else not (nz j i 0 (-j) 1).isEmpty)) H
def uR(hr:gn b k X.A):ju X (compareOp .In) (Xu X.K M):=by
 intro ae s U H x y v u Q I rx ry h;have hA:X.A.in1.units+150<cLine:=by have:=hr.un;show X.A.units+1+150<cLine;lia
 obtain⟨g,p,qs,b,rp,D,e,F⟩|⟨i,j,rfl,rfl,F⟩:=h
 . let(N,i2):=G6 e;obtain D|D:=D
   . let(a,vs,z,rfl,q1,l1,q,W):=Ag I D ry;show SeqAt.in_listAt (e7 X.K #[H,g] p qs vs z) W (Dv I rp rx l1 q N hA) #[.bl b,H,I,?_,F];rw[IW (xv:=x) (xu:=v) I l1 q N,<-i2];rfl
   . let(a,vs,z,rfl,q1,l1,q,W):=Fq I D ry;show SeqAt.in_tupleAt (e7 X.K #[H,g] p qs vs z) W (Dv I rp rx l1 q N hA) #[.bl b,H,I,?_,F];rw[IW (xv:=x) (xu:=v) I l1 q N,<-i2];rfl
 . show T6 ae s U H (.str i) (.str j) v u Q I rx ry #[i,j,O,O,F]
def qo(x y:PV):Option Bool:=match y with
 |R qs=>tR (dH 150) x qs
 |ZB qs=>tR (dH 150) x qs
 |ZH j=>match x with
  |ZH i=>!(not (nz j i 0 (-j) 1).isEmpty)
  |_=>J
 |_=>J
def pB(p q:PV):Option Lc:=(qo p q).map λb=>Zp (.bl b)
def Q6:pA K (Xu K neg) (λp q=>(qo p q).map λb=>Zp (.bl (if neg then not b else b))):=by
 intro H0 Z0 U Y pd H v w x y l Q s e k;let(b,z,rfl):=d4 e;let(g,D,F):=s.rep2H;cases y with
 |lst N=>show Zl #[g,x,N,b,D,Zl F,z,k _ H (s.pop.pop.scal mq)]
 |tup N=>show Zl #[g,x,N,b,D,YY F,z,k _ H (s.pop.pop.scal mq)]
 |str j=>
  cases x with
  |str i=>
   let W:=fI z;subst W;show YY #[i,j,dN D,dN F,?_];have:=k (.bl (if neg then (nz j i 0 (-j) 1).isEmpty else not (nz j i 0 (-j) 1).isEmpty)) H;show this (s.pop.pop.scal λZ=>?_);cases neg<;>simp[bP]
  |_=>cases z
 |_=>cases z
def qY:pA K (Xu K M) pB:=Q6
def Zf:PV->Bool
 |.non=>G
 |_=>M
def Sw(p q:PV):Option Lc:=match q with
 |.non=>!(Zp (.bl (Zf p)))
 |_=>J
def Q8(r:bP K Z p v):decide (v=.non)=Zf p:=by
 cases p with
 |non=>have:=jL r;subst this;rfl
 |bl b=>have:=ji r;subst this;rfl
 |int b=>have:=cF r;subst this;rfl
 |str b=>have:=dN r;subst this;rfl
 |tup ps=> let(a,i,rfl,_):=r;rfl
 |lst ps=> let(a,i,rfl,_):=r;rfl
 |dk ks ps=> let(a,i,rfl,_):=r;rfl
 |dt ks ps=> let(a,i,rfl,_):=r;rfl
 |obj c ks ps=> let(a,c,dx,fs,rfl,_):=r;rfl
 |df ks ps=> let(a,o,j,rfl,_):=r;rfl
 |dtf ks ps=> let(a,o,j,rfl,_):=r;rfl
 |dx hk ks ps=> let(a,xs,rfl,_):=r;rfl
 |exc n=> let(a,c,rfl,_):=r;rfl
 |fn n=> let(a,rfl,_):=r;rfl
 |ptr n=> let(a,rfl,_):=r;rfl
def QC:pA K (λx y H Q=>y=.non/\Q (.bl (decide (x=.non))) H) Sw:=by
 intro H0 Z0 U Y pd H v w x y l Q s e k;let(g,j,q):=s.rep2H;cases y with
 |non=>
  let D:=fI e;subst D;show#[jL q,?_];rw[Q8 j];show k _ H (s.pop.pop.scal mq)
 |_=>cases e
def Ms:=CZ (λ_ _=>G) λi j=>.bl (decide (i<j))
def iV:=CZ (λ_ _=>G) λi j=>.bl (decide (j<i))
def Vd:pA K (zG λi j=>.bl (decide (i<j))) Ms:=LR λ_ _ _=>mq _
def mC:pA K (zG λi j=>.bl (decide (j<i))) iV:=LR λ_ _ _=>mq _
def Mt:=CZ (λ_ _=>G) λi j=>ZI (i-j)
def aZ:=CZ (λ_ j=>decide (0<j)) λi j=>ZI (i%j)
def bO:=CZ (λ_ j=>decide (0<j/\j<1073741824)) λi j=>ZI (i/j)
def gM:=CZ (λi j=>decide (((Neg.neg (2 ^ 64))<i/\i<2 ^ 64)\/((Neg.neg (2 ^ 64))<j/\j<2 ^ 64))) λi j=>ZI (i*j)
def Xv:=CZ (λi j=>decide (0<=j/\j<=1000000/\i.natAbs<2 ^ 64)) λi j=>ZI (i ^ j.toNat)
def QD:pA K (zG λi j=>.int (i-j)) Mt:=LR λ_ _ _=>gF _
def bQ:pA K (rI (λ_ j=>0<j) λi j=>.int (i%j)) aZ:=Ka (λ_ _ h=>of_decide_eq_true h) λ_ _ _=>gF _
def cZ:pA K (rI AO λi j=>.int (i/j)) bO:=Ka (λi j h=>(of_decide_eq_true h:0<j/\j<1073741824)) λ_ _ _=>gF _
def lG:pA K (rI RG λi j=>.int (i*j)) gM:=Ka (λi j h=>(of_decide_eq_true h:((Neg.neg (2 ^ 64))<i/\i<2 ^ 64)\/((Neg.neg (2 ^ 64))<j/\j<2 ^ 64))) λ_ _ _=>gF _
def Q9:pA K (rI AQ λi j=>.int (i ^ j.toNat)) Xv:=Ka (λi j h=>(of_decide_eq_true h:0<=j/\j<=1000000/\i.natAbs<2 ^ 64)) λ_ _ _=>gF _
def Wt(K:FG):R2:=λx y H Q=>zG (λi j=>.int (i+j)) x y H Q\/(∃i j,x=.str i/\y=.str j/\-i+-j<=sizeLine/\Q (.str (i++j)) H)\/
 (∃a b xs ys,x=.ref a/\y=.ref b/\bY K H a xs/\bY K H b ys/\-xs+-ys<=sizeLine/\∀p,H p=J->Q (.ref p) (aI H p (.lst (xs++ys))))\/YZ K x y H Q
def bD:ju X (binaryOp .Add) (Wt X.K):=KW.or (RK.or (MW.or Z4))
noncomputable def bf:PV->PV->Option Lc
 |ZI i,ZI j=>!(Zp (ZI (i+j)))
 |ZH i,ZH j=>if -i+-j<=100000 then !(Zp (ZH (i++j))) else J
 |R ps,R qs=>if -ps+-qs<=100000 then !(Zs (R (ps++qs))) else J
 |ZB (p::ps),ZB qs=>if -ps+-qs<=10000 then !(Zp (ZB (p::ps++qs))) else J
 |_,_=>J
def qZ{α:Type}[Decidable c]{a b:α}(e:(if c then !a else J)=!b):c/\a=b:=by
 split at e
 . grind
 . cases e
def Q_(e:bf x y=!l):(∃i j,x=ZI i/\y=ZI j/\l=Zp (ZI (i+j)))\/(∃i j,x=ZH i/\y=ZH j/\-i+-j<=100000/\l=Zp (ZH (i++j)))
\/(∃ps q,x=R ps/\y=R q/\-ps+-q<=100000/\l=Zs (R (ps++q)))\/∃p ps q,x=ZB (p::ps)/\y=ZB q/\-ps+-q<=10000/\l=Zp (ZB (p::ps++q)):=by
 unfold bf at e;split at e
 . grind
 . grind
 . grind
 . grind
 . cases e
def bF:pA K (Wt K) bf:=by
 intro H0 Z0 U Y pd H v w x y l Q s e k;let(g,r1,r2):=s.rep2H;obtain⟨i,j,rfl,rfl,rfl⟩|⟨i,j,rfl,rfl,N,rfl⟩|⟨ps,qs,rfl,rfl,N,rfl⟩|⟨p,ps,qs,rfl,rfl,N,rfl⟩:=Q_ e
 . show Zl #[i,j,cF r1,cF r2,k _ H (s.pop.pop.scal gF)]
 . show YY (Zl #[i,j,dN r1,dN r2,fL N,k _ H (s.pop.pop.scal pq)])
 . let(el,Z,hg,z,rq,W):=s.sh;let F:=W.perm dD.symm;let(_,e1,rp):=F.1 _ cS;cases e1;let(a,xs,rfl,h1,h2):=rp;let(b,ys,rfl,h3,D):=rq;show YY (YY (Zl #[a,b,xs,ys,O,O,bY.same z.zh h1,bY.same z.zh h3,by rw[h2.length,D.length];show fL N,λp hp=>k _ _ ?_]));let(z',s'):=(F.sub (f7 _ _)).new (p:=R (ps++qs)) z hp #[xs++ys,bZ,h2.append D];show .mk el hg z' s'
 . let(el,Z,hg,z,rq,W):=s.sh;let F:=W.perm dD.symm;let(_,e1,rp):=F.1 _ cS;cases e1;let(a,xs,rfl,h1,h2):=rp;let(b,ys,rfl,h3,D):=rq;have hx:xs≠[]:=λh=>by have:=-h2;rw[h]at this;simp at this
   let hz:=-h2;let Bz:=-D;rw[db]at hz;show YY (YY (YY #[a,b,xs,ys,O,O,cW.same z.zh h1,cW.same z.zh h3,hx,fL (),λh=>?_,λh q hq=>?_]))
   . subst h;have:qs=[]:=AA Bz.symm;subst this;rw[fg]at k;show k _ H s.pop
   . let s3:=F.sub (f7 _ _);let(z',sz,s'):=s3.newF z hq;show k _ _ (.mk (Z:=Z.put q (.tup (xs++ys))) el hg z' (s'.consS ?_));show#[q,xs++ys,O,cW.of bZ,(h2.append D).mono sz]
def qG:PV->PV->Option Lc
 |R ps,ZI i=>(fO ps i).map Zp
 |ZB ps,ZI i=>(fO ps i).map Zp
 |ZH x,ZI i=>if -x<=100000 then (fO x.cps.toList i).map λc=>Zp (ZH #[(List.toArray [c])]) else J
 |_,_=>J
def Bt{r:List β}(h:fO l i=!x)(e:-r=-l):∃(j:Nat),l[j]?=!x/\∀y,r[j]?=!y->fO r i=!y:=by let(j,h1,h2):=b_ h;show#[j,h2,λy q=>?_];unfold fO;grind
def Re(e:qG x y=!l):∃i,y=ZI i/\((∃ps,(x=R ps\/x=ZB ps)/\(fO ps i).map Lc.sh=!l)\/∃t c,x=ZH t/\-t<=100000/\fO t.cps.toList i=!c/\l=Zp (ZH #[(List.toArray [c])])):=by
 unfold qG at e;split at e
 . grind
 . grind
 . split at e
   . let(c,h1,rfl):=d4 e;grind
   . cases e
 . cases e
def Ve:pA K (vT K) qG:=by
 intro H0 Z0 U Y pd H v w x y l Q s e k;let(i,rfl,F):=Re e;let(el,Z,hg,z,r2,s1):=s.sh;let s2:=s1.perm dD.symm;let(_,q,r1):=s2.1 _ cS;cases q;let s3:=s2.sub (f7 _ _);let N:=cF r2;obtain⟨ps,F,h0⟩|⟨x,c,rfl,hl,h1,rfl⟩:=F
 . let(p,h1,rfl):=d4 h0;obtain rfl|rfl:=F
   . let(a,vs,rfl,h2,D):=r1;let(j,q,e2):=Bt h1 (-D);let(u,W,e4):=D.get q;show Zl #[a,vs,i,u,O,N,bY.same z.zh h2,e2 u W,k _ H (.mk el hg z (s3.consS e4))]
   . let(a,vs,rfl,h2,D):=r1;let(j,q,e2):=Bt h1 (-D);let(u,W,e4):=D.get q;show YY (Zl #[a,vs,i,u,O,N,cW.same z.zh h2,e2 u W,k _ H (.mk el hg z (s3.consS e4))])
 . show YY (YY #[x,i,c,dN r1,N,fL hl,h1,k _ H (s.pop.pop.scal pq)])
def rm(ps:List PV)(lo hi:Option Int):List PV:=(ps.drop (HT.sIx (-ps) 0 lo)).take (HT.sIx (-ps) (-ps) hi-HT.sIx (-ps) 0 lo)
abbrev OF:=Ev->Option (Option Int×Ev)
def Fw(K:FG)(f:OF):TO:=λU H Q=>∃H0 Z0 Y pd r Y',SR K H0 Z0 U H Y pd/\f Y=!(r,Y')/\∀H',SR K H0 Z0 U H' Y' pd->Q r H'
def PO.imp(h:PO X e t)(i:∀U H Q,t' U H Q->t U H Q):PO X e t':=λae s U H Q I q=>h ae s U H Q I (i U H Q q)
def eU:OF:=λY=>!(J,Y)
def cM(f:EF):OF:=λY=>(f Y).bind λx=>match x.1.pv with
 |ZI i=>!(!i,x.2)
 |_=>J
def jX:PO X J (Fw X.K eU):=PO.imp ZZ λU H Q q=>by let(H0,Z0,Y,pd,r,Y',s,h,k):=q;cases h;show k H s
def eX(h:PE X e (tP X.K f)):PO X (!e) (Fw X.K (cM f)):=PO.imp (Z3 h) λU H Q q=>by
 let(H0,Z0,Y,pd,r,Y',s,h,k):=q;let(x,h1,h2):=b_ h;show#[H0,Z0,Y,pd,x.1,x.2,s,h1,λv H1 z=>?_];let(_,j):=z.freeze.repH;cases e:x.1.pv with
 |int i=>
  rw[e]at h2 j;cases h2;show#[i,cF j,k H1 z.pop]
 |_=>grind
def aK.cut{lo hi:Option Int}(h:aK K Z ps vs):aK K Z (rm ps lo hi) (uK vs lo hi):=by unfold rm uK;rw[h.length];show(h.drop _).take _
def lQ(K:FG)(r:List V->Hp->VK->Prop)(g:List PV->Option Lc):Prop:=∀H0 Z0 U Y pd H vs ps l Q,-vs=-ps->SR K H0 Z0 U H Y (vs.zip (ps.map Lc.sh)++pd)->g ps=!l->(∀u H',SR K H0 Z0 U H' Y ((u,l)::pd)->Q u H')->r vs H Q
def eB(g:List PV->Option Lc)(a:AF):EF:=λY=>(a Y).bind λy=>(g (y.1.map Lc.pv)).map λl=>(l,y.2)
def pP(hs:lQ X.K r g):∀U H Q,tP X.K (eB g a) U H Q->zN r (jR X.K a) U H Q:=λU H Q q=>by
 let(H0,Z0,Y,pd,l,Y',s,f,k):=q;let(y,h1,h2):=b_ f;let(l',j,N):=d4 h2;cases N;show#[H0,Z0,Y,pd,y.1,y.2,s,h1,λF H2 W D=>?_];let i:=D.freezeAll;have z:(y.1.map λl=>Lc.sh l.pv)=(y.1.map Lc.pv).map Lc.sh:=by rw[fE];rfl
 rw[z]at i;show hs H0 Z0 U y.2 pd H2 F (y.1.map Lc.pv) _ Q ∅ i j k
def wJ{id:String}(j:lO X (.builtin id) r)(hs:lQ X.K r g)(h:PE X (.Call (.Name x p) (e::es) [] pos) (zN r (jR X.K a))):PE X (.Call (.Name x p) (e::es) [] pos) (tP X.K (eB g a)):=PE.imp h (pP hs)
def lQ.one{g:PV->Option Lc}(h:∀H0 Z0 U Y pd H v p l Q,SR K H0 Z0 U H Y ((v,Zp p)::pd)->g p=!l->(∀u H',SR K H0 Z0 U H' Y ((u,l)::pd)->Q u H')->r [v] H Q):
 lQ K r (λps=>match ps with |[p]=>g p |_=>J):=by
 intro H0 Z0 U Y pd H j ps l Q e s i k
 match ps,j,e,s,i with
 |[p],[v],_,s,i=>show h H0 Z0 U Y pd H v p l Q s i k
 |[p],[],e,_,_=>simp at e
 |[p],_::_::_,e,_,_=>simp at e
 |[],_,_,_,i=>cases i
 |_::_::_,_,_,_,i=>cases i
noncomputable def C2:PV->Option Lc
 |ZH x=>if -x<=100000 then !(Zp (ZI (-x))) else J
 |R ps=>!(Zp (ZI (-ps)))
 |ZB ps=>!(Zp (ZI (-ps)))
 |_=>J
abbrev cz:List PV->Option Lc:=λps=>match ps with |[p]=>C2 p |_=>J
def Vf:lQ K (λxs H Q=>∃x n,xs=[x]/\Wq K x H n/\Q (.int n) H) cz:=lQ.one λH0 Z0 U Y pd H v p l Q s e k=>by
 let(_,r):=s.repH;cases p with
 |str x=>
  have j:(if -x<=100000 then !(Lc.sh (ZI (-x))) else J)=!l:=e;split at j
  . rename_i D;cases j;have:=dN r;subst this;show#[_,-x,O,#[fL D,O],k _ H (s.pop.scal gF)]
  . cases j
 |lst ps=>
  cases e;let(a,q,rfl,h1,h2):=r;show#[_,-ps,O,Zl #[q,h1,h2.length.symm],k _ H (s.pop.scal gF)]
 |tup ps=>
  cases e;let(a,q,rfl,h1,h2):=r;show#[_,-ps,O,YY #[q,h1,h2.length.symm],k _ H (s.pop.scal gF)]
 |_=>cases e
def Ri:PV->Option Lc
 |R ps=>!(Zs (R ps))
 |ZB ps=>!(Zs (R ps))
 |_=>J
abbrev g9:List PV->Option Lc:=λps=>match ps with |[p]=>Ri p |_=>J
def wK:lQ K (λxs H Q=>∃p ys,xs=[.ref p]/\(bY K H p ys\/cW K H p ys)/\∀l,H l=J->Q (.ref l) (aI H l (.lst ys))) g9:=lQ.one λH0 Z0 U Y pd H v p l Q s e k=>by
 let(F,Z,N,z,r,W):=s.sh;cases p with
 |lst ps=>
  cases e;let(a,D,rfl,h1,h2):=r;show#[a,D,O,Zl (bY.same z.zh h1),λq i=>k _ _ ?_];let(j,s'):=W.new (p:=R ps) z i #[_,bZ,h2];show .mk F N j s'
 |tup ps=>
  cases e;let(a,D,rfl,h1,h2):=r;show#[a,D,O,YY (cW.same z.zh h1),λq i=>k _ _ ?_];let(j,s'):=W.new (p:=R ps) z i #[_,bZ,h2];show .mk F N j s'
 |_=>cases e
def Ev.set_set:(Y.set i x).set i y=Y.set i y:=by show Ev.mk ((Y.vs.set i x).set i y) Y.mu=_;rw[nK];rfl
def SR.takeO(s:SR K H0 Z0 U H Y pd)(e:Y.vs[i]?=!(!(Zs (R ws)))):
 ∃a,U[i]?=!(!(.ref a))/\(∃j,H a=!(.lst j))/\SR K H0 Z0 U H (Y.set i J) ((.ref a,Zs (R ws))::pd):=by
 let(v,F,D):=s.take e;let(_,Z,_,z,q):=D.top;let(a,N,(j,W,_),_):=q.1 _ cS;grind
def jM(i:Nat)(f:EF):SF:=λY=>match Y.vs[i]? with
 |some (!(Zs (R _)))=>(f Y).bind λy=>match y.2.vs[i]? with
  |some (!(Zs (R ws)))=>if -ws<100000 then !(.nx (y.2.set i (!(Zs (R (ws++[y.1.pv])))))) else J
  |_=>J
 |_=>J
set_option tactic.hygienic true in
def Rj(h:PS X (.Expr (.Call (.Attribute o "append" apos) [e] [] cpos) pos) (J3 (KZ X.K "list" GP (uH i) (jR X.K (aj f ao))))):
 PS X (.Expr (.Call (.Attribute o "append" apos) [e] [] cpos) pos) (iw X.K (jM i f)):=PS.imp h λD U H q=>by
 let(H0,Z0,Y,pd,fl,s,h,k):=q;unfold jM at h;split at h
 . rename_i ws0 e0;let(y,h1,h2):=b_ h;let(a,z,(us,hu),_):=s.takeO e0;show#[.ref a,z,Zl #[O,us,bY.of hu],H0,Z0,Y,pd,[y.1],y.2,s,?_,λvs H2 e2 s2=>?_]
   . unfold aj ao;grind
   . let(v1,rfl):=yZ e2;split at h2
     . rename_i ws e3;split at h2
       . cases h2;let(a',j,_,s3):=SR.takeO s2 e3;rw[z]at j;cases j;let W:=s3.swap;let(N,F,hl,s5):=W.pushO;show#[a,N,v1,O,O,F,by rw[hl,hG];lia,k U _ ?_];let Q:=s5.put z;rw[Ev.set_set]at Q;show Q
       . cases h2
     . cases h2
 . cases h
def SR.extO(s:SR K H0 Z0 U H Y ((v,Zp (R ps))::(.ref a,Zs (R ws))::pd)):
 ∃b i zs,v=.ref b/\bY K H b zs/\H a=!(.lst i)/\-i=-ws/\-zs=-ps/\SR K H0 Z0 U (aI H a (.lst (i++zs))) Y ((.ref a,Zs (R (ws++ps)))::pd):=by
 let(F,Z,Q,z,r,N):=s.sh;let(b,zs,rfl,h1,h2):=r;let j:=N.perm dD.symm;let(_,eb,(i,hu,D),_):=j.1 _ cS;cases eb;show#[b,i,zs,O,bY.same z.zh h1,hu,-D,-h2,?_];let(W,s'):=j.write (q:=R (ws++ps)) z #[i++zs,bZ,D.append h2];show .mk F Q W s'
def gb(i:Nat)(f:EF):SF:=λY=>match Y.vs[i]? with
 |some (!(Zs (R _)))=>(f Y).bind λy=>match y.1.pv,y.2.vs[i]? with
  |R ps,!(!(Zs (R ws)))=>if -ws+-ps<=100000 then !(.nx (y.2.set i (!(Zs (R (ws++ps)))))) else J
  |_,_=>J
 |_=>J
set_option tactic.hygienic true in
def Rk(h:PS X (.Expr (.Call (.Attribute o "extend" apos) [e] [] cpos) pos) (J3 (KZ X.K "list" (K4 X.K) (uH i) (jR X.K (aj f ao))))):
 PS X (.Expr (.Call (.Attribute o "extend" apos) [e] [] cpos) pos) (iw X.K (gb i f)):=PS.imp h λD U H q=>by
 let(H0,Z0,Y,pd,fl,s,h,k):=q;unfold gb at h;split at h
 . rename_i ws0 e0;let(y,h1,h2):=b_ h;let(a,z,(us,hu),_):=s.takeO e0;show#[.ref a,z,Zl #[O,us,bY.of hu],H0,Z0,Y,pd,[y.1],y.2,s,?_,λvs H2 e2 s2=>?_]
   . unfold aj ao;grind
   . let(v1,rfl):=yZ e2;split at h2
     . rename_i ps ws ep e3;split at h2
       . rename_i hz;cases h2;let(a',j,_,s3):=SR.takeO s2 e3;rw[z]at j;cases j;let W:=s3.swap.freeze;rw[ep]at W;let(b,F,zs,rfl,hb,Q,hl,N,s5):=W.extO;show#[a,b,F,zs,O,O,Q,hb,by rw[hl,N];show fL hz,k U _ ?_];let s6:=s5.put z;rw[Ev.set_set]at s6;show s6
       . cases h2
     . cases h2
 . cases h
def SR.setO(s:SR K H0 Z0 U H Y ((v,Zp p)::(.ref a,Zs (R ws))::pd)):
 ∃i,H a=!(.lst i)/\-i=-ws/\SR K H0 Z0 U (aI H a (.lst (i.set j v))) Y ((.ref a,Zs (R (ws.set j p)))::pd):=by
 let(N,Z,W,z,r,Q):=s.sh;let D:=Q.perm dD.symm;let(_,eb,(i,hu,F),_):=D.1 _ cS;cases eb;show#[i,hu,-F,?_];let(z',s'):=D.write (q:=R (ws.set j p)) z #[i.set j v,bZ,F.set r j];show .mk N W z' s'
def Bu(i:Nat)(fi fv:EF):SF:=λY=>(fv Y).bind λx=>match x.2.vs[i]? with
 |some (!(Zs (R _)))=>(fi x.2).bind λy=>match y.1.pv,y.2.vs[i]? with
  |ZI k,!(!(Zs (R ws)))=>(uL (-ws) k).map λj=>.nx (y.2.set i (!(Zs (R (ws.set j x.1.pv)))))
  |_,_=>J
 |_=>J
set_option tactic.hygienic true in
def Rl(h:PS X (.Assign [.Subscript o ix tpos] e pos) (Rz (tP X.K W) (Wk (uH i) (tP X.K fi) Y0_))):PS X (.Assign [.Subscript o ix tpos] e pos) (iw X.K (Bu i fi W)):=PS.imp h λD U H q=>by
 let(H0,Z0,Y,pd,fl,s,h,k):=q;let(x,h1,h2):=b_ h;show#[H0,Z0,Y,pd,x.1,x.2,s,h1,λv H1 s1=>?_];split at h2
 . rename_i ws0 e0;let(y,h3,N):=b_ h2;let(a,Q,_):=s1.takeO e0;show#[.ref a,Q,H0,Z0,x.2,_,y.1,y.2,s1.freeze,h3,λw H2 s2=>?_];split at N
   . rename_i kk ws ek e3;let(j,h5,rfl):=d4 N;let(_,F):=s2.freeze.repH;rw[ek]at F;let ew:=cF F;let(a',z,_,s3):=s2.pop.takeO e3;rw[Q]at z;cases z;let(us,hu,hl,s4):=s3.swap.setO;show#[a,us,kk,j,O,ew,hu,by rw[hl];show h5,k U _ ?_];let s5:=s4.put Q;rw[Ev.set_set]at s5;show s5
   . cases N
 . cases h2
def Ai(z:g[n]?=!a)(q:mu[n]?=!o):∃ZN:Sl,List.Perm (cel g mu) ((!(.ref a),o.map Lc.own)::ZN)/\∀o',List.Perm (cel g (mu.set n o')) ((!(.ref a),o'.map Lc.own)::ZN):=by
 have h1:(g.map λa=>!(V.ref a))[n]?=!(!(.ref a)):=by rw[eL,z];rfl
 have h2:(mu.map λo=>o.map Lc.own)[n]?=!(o.map Lc.own):=by rw[eL,q];rfl
 let(ZN,j,p2):=Af (zip_get h1 h2);show#[ZN,j,λo'=>?_];have:=p2 (!(.ref a),o'.map Lc.own);rw[<-G4,k7 h1]at this;unfold cel;grind
def SR.cellO(s:SR K H0 Z0 U H Y ((v,Zp (ZA n))::pd))(hm:Y.mu[n]?=!(!p)):
 ∃a,v=.ref a/\SR K H0 Z0 U H #[Y.vs,Y.mu.set n J] ((.ref a,Zs p)::(.ref a,Zp (ZA n))::pd):=by
 let(F,Z,hg,z,r,Q):=s.sh;let W:=r;let(a,rfl,N):=r;let(ZN,p1,p2):=Ai N hm;show#[a,O,.mk F ∅ z ?_];let i:=Q.perm (p1.append_right _).symm;have j:ah K H0 Z H ((!(.ref a),J)::(!(.ref a),!(Zs p))::(ZN++(U.zip Y.vs++pd.map λe=>(!e.1,!e.2)))):=by
  show#[λe D=>?_,?_]
  . obtain rfl|D:=bh.mp D
    . trivial
    . show i.1 e D
  .  show i.2
 let q:=(j.perm (ga _ _ _)).perm (Perm.cons _ ((p2 J).append_right _));show((q.consS W).perm (ga _ _ _)).perm (Perm.cons _ dD)
def SR.cellP(s:SR K H0 Z0 U H Y ((.ref a,Zs q)::(.ref a,Zp (ZA n))::pd))(hm:Y.mu[n]?=!J):SR K H0 Z0 U H #[Y.vs,Y.mu.set n (!q)] pd:=by let(N,Z,hg,z,r,W):=s.swap.sh;let(b,eb,Q):=r;cases eb;let(ZN,p1,p2):=Ai Q hm;let D:=W.perm dD.symm;show#[N,Z,by simpa using hg,z,?_];have F:Perm (sl Z.g U Y pd) ((!(.ref a),J)::(ZN++(U.zip Y.vs++pd.map λe=>(!e.1,!e.2)))):=p1.append_right _;let i:=D.perm (F.symm.cons _);let j:=i.sub ((f7 _ _).cons_cons _);show j.perm ((p2 (!q)).append_right _)
def aJ(fa fb:EF):EF:=λY=>(fa Y).bind λx=>(fb x.2).bind λy=>match x.1.pv,y.1.pv with
 |ZA n,ZI k=>match y.2.mu[n]? with
  |some (!(R ws))=>(fO ws k).map λp=>(Zp p,y.2)
  |_=>J
 |p,q=>(qG p q).map λl=>(l,y.2)
set_option tactic.hygienic true in
def fP(ha:PE X a (tP X.K fa))(hb:PE X b (tP X.K fb))(hm:Bh b):PE X (.Subscript a b pos) (tP X.K (aJ fa fb)):=PE.imp (RX Ub ha hb hm) λU H Q q=>by
 let(H0,Z0,Y,pd,l,Y',s,f,k):=q;let(x,h1,h2):=b_ f;let(y,h3,D):=b_ h2;show#[H0,Z0,Y,pd,x.1,x.2,s,h1,λv H1 s1=>#[H0,Z0,x.2,_,y.1,y.2,s1,h3,λw H2 s2=>?_]];let F:=s2.freeze.swap.freeze.swap;split at D
 . rename_i n kk en ek;split at D
   . rename_i ws i;let(p,h5,W):=d4 D;rw[en,ek]at F;let(_,N):=F.repH;let ew:=cF N;let(a,rfl,s5):=F.pop.cellO i;let(el,Z,hg,z,so):=s5.top;let(_,ea,(us,hu,hr),_):=so.1 _ cS;cases ea;let(j,e1,e2):=Bt h5 (-hr);let(u,e3,e4):=hr.get e1;show Zl #[a,us,kk,u,O,ew,bY.of hu,e2 u e3,k u H2 ?_];have s6:SR X.K H0 Z0 U H2 #[y.2.vs,y.2.mu.set n J] ((u,Zp p)::(.ref a,Zs (R ws))::(.ref a,Zp (ZA n))::pd):=.mk el hg z ((so.perm dD).consS e4);let hn:=(fr.mp i).1;let s7:=s6.perm (((List.Perm.swap _ _ _).cons _).trans (List.Perm.swap _ _ _));let s8:=s7.cellP ∅;have e8:(y.2.mu.set n J).set n (!(R ws))=y.2.mu:=by rw[nK];show k7 i
     grind
   . cases D
 . let(l',h5,W):=d4 D;cases W;show Ve H0 Z0 U y.2 pd H2 v w x.1.pv y.1.pv _ Q F h5 k
def Sx(g:AF):EF:=λY=>(cu g Y).bind λx=>match x.1 with
 |Zs p=>!(Zp (ZA (-x.2.mu)),#[x.2.vs,x.2.mu++[!p]])
 |_=>J
set_option tactic.hygienic true in
def Vg(h:PE X (.List es pos) (tP X.K (cu g))):PE X (.List es pos) (tP X.K (Sx g)):=PE.imp h λU H Q q=>by
 let(H0,Z0,Y,pd,l,Y',s,f,k):=q;let(x,h1,h2):=b_ f;show#[H0,Z0,Y,pd,x.1,x.2,s,h1,λv H1 N=>?_];split at h2
 . rename_i p ep;cases h2;rw[ep]at N;let(W,Z,hg,z,j):=N.top;let(a,ea,ra,za,C3):=j.1 _ cS;let i:=fI ea;subst i;have F:iu Z #[Z.z,Z.g++[a]]:=#[eY_.refl _,r_ _ _];let D:=j.step F λe he b hb=>#[O,(jn j he hb).1];show k _ H1 (.mk (Z:=#[Z.z,Z.g++[a]]) W ∅ #[z.zh,z.h0,z.z0.trans F,z.new] (ah.consS ?_ ?_))
   . show D.perm ?_;have ec:cel (Z.g++[a]) (x.2.mu++[!p])=cel Z.g x.2.mu++[(!(.ref a),!(Zs p))]:=by unfold cel;rw[eD,eD,lK ∅];rfl
     show Perm (cel (Z.g++[a]) (x.2.mu++[!p])++_) _;rw[ec,eK];show gx
   . show#[a,O,by show (Z.g++[a])[-x.2.mu]?=!a;rw[hg,hY ()];simp]
 . cases h2
mutual
def di:PV->Bool
 |.non=>G
 |.bl _=>G
 |ZI _=>G
 |ZH _=>G
 |ZB ps=>ck ps
 |_=>M
def ck:List PV->Bool
 |[]=>G
 |p::ps=>di p&&ck ps
end
def Sy:Lc->Bool
 |Zp p=>di p
 |Zs (R ps)=>ck ps
 |Zs (.dk _ ps)=>ck ps
 |_=>M
def Zg:Option Lc->Option Lc
 |some l=>!(Zp l.pv)
 |none=>J
def Ev.peek(Y:Ev):Ev:=#[Y.vs.map Zg,Y.mu.map λ_=>J]
def vL(f:EF):EF:=λY=>(f Y.peek).bind λx=>if Sy x.1=G then !(x.1,Y) else J
noncomputable def zb:Option HO->Option HO->Option HO->Option HO
 |some (.tup vs),_,_=>!(.tup vs)
 |some (.frz o u),_,_=>!(.frz o u)
 |some _,z,_=>z
 |none,_,z=>z
def n8(H:Hp)(Z Z':ZG):ZG:=#[λb=>zb (H b) (Z.z b) (Z'.z b),Z.g]
def Vh(D:eY_ H H')(F:eY_ Z'.z H')(h:cW K Z'.z a vs):cW K (n8 H Z Z').z a vs:=by
 obtain (h|⟨o,h⟩)|h:=h
 . show Zl (Zl ?_);show zb (H a) (Z.z a) (Z'.z a)=_;cases q:H a with
   |none=>show h
   |some o=>
    let j:=D a o q;rw[F a _ h]at j;cases j;rfl
 . show Zl (YY #[o,?_]);show zb (H a) (Z.z a) (Z'.z a)=_;cases q:H a with
   |none=>show h
   |some o'=>
    let j:=D a o' q;rw[F a _ h]at j;cases j;rfl
 . show YY h
mutual
theorem Mv(i:eY_ H H')(j:eY_ Z'.z H'):∀{p:PV}{v:V},di p=G->bP K Z' p v->bP K (n8 H Z Z') p v
 |.non,v=>λ_ h=>by  show h
 |.bl _,v=>λ_ h=>by  show h
 |ZI _,v=>λ_ h=>by  show h
 |ZH _,v=>λ_ h=>by  show h
 |ZB ps,v=>λf h=>by let(a,q,e,h1,h2):=h;show#[a,q,e,Vh i j h1,cK i j f h2]
 |R _,v=>λf _=>by  cases f
 |.dk _ _,v=>λf _=>by  cases f
 |.dt _ _,v=>λf _=>by  cases f
 |.obj _ _ _,v=>λf _=>by  cases f
 |.df _ _,v=>λf _=>by  cases f
 |.dtf _ _,v=>λf _=>by  cases f
 |.dx _ _ _,v=>λf _=>by  cases f
 |.exc _,v=>λf _=>by  cases f
 |.fn _,v=>λf _=>by  cases f
 |ZA _,v=>λf _=>by  cases f
theorem cK(i:eY_ H H')(j:eY_ Z'.z H'):∀{ps:List PV}{vs:List V},ck ps=G->aK K Z' ps vs->aK K (n8 H Z Z') ps vs
 |[],vs=>λ_ h=>by  show h
 |p::ps,vs=>λf h=>by let(v,r,rfl,h1,h2):=h.inv;unfold ck at f;rw[iF]at f;show aK.cons (Mv i j f.1 h1) (cK i j f.2 h2)
end
def SR.lookB(s:SR K H0 Z0 U H Y pd):
 ∃Z,(-U=-Y.vs/\-Y.mu=-Z.g/\iu Z #[H,Z.g]/\ah K H0 Z H (sl Z.g U Y pd))/\(∀H' v r Y1,SR K H #[H,Z.g] U H' Y1 [(v,r)]->Sy r=G->SR K H0 Z0 U H' Y ((v,r)::pd))/\∀H' Y1,SR K H #[H,Z.g] U H' Y1 []->SR K H0 Z0 U H' Y pd:=by
 let(el,Z,hg,z,so):=s;have back:∀{H':Hp}{Z':ZG},jQ H #[H,Z.g] Z' H'->jQ H0 Z0 (n8 H Z Z') H'/\ah K H0 (n8 H Z Z') H' (sl Z.g U Y pd):=λ{H' Z'} i=>by
  have zz:iu Z (n8 H Z Z'):=#[λb o e=>by show zb (H b) (Z.z b) (Z'.z b)=_;let hb:=z.zh b o e;rw[hb];cases o<;>first |rfl |show e,kQ _]
  have N:∀b o,(n8 H Z Z').z b=!o->(∃u,H b=!u/\((J9 u/\o=u)\/Z.z b=!o))\/(H b=J/\Z'.z b=!o):=λb o e=>by
   have e:zb (H b) (Z.z b) (Z'.z b)=!o:=e;cases q:H b with
   |none=>rw[q]at e;show YY #[O,e]
   |some u=>
    rw[q]at e;show Zl #[u,O,?_];cases u with
    |tup vs=>cases e;show Zl #[trivial,O]
    |frz o' u=>cases e;show Zl #[trivial,O]
    |_=>show YY e
  show#[#[λb o e=>?_,z.h0.trans i.h0,z.z0.trans zz,λb o e=>?_],?_]
  . obtain⟨u,hu,⟨_,rfl⟩|D⟩|⟨_,D⟩:=N b o e
    . show i.h0 b _ hu
    . show i.h0 b o (z.zh b o D)
    . show i.zh b o D
  . obtain⟨u,hu,⟨hi,rfl⟩|D⟩|⟨hn,D⟩:=N b o e
    . grind
    . show z.new b o D
    . show YY (Zl (z.h0.free hn))
  . show so.step zz λe j a ha=>?_;let(h1,h2,o,h3,h4):=jn so j ha;show#[by rw[h3];show i.h0 a o h3,?_];show zb (H a) (Z.z a) (Z'.z a)=_;rw[h3];cases o with
    |tup vs=>show(h4 trivial).elim
    |frz o u=>show(h4 trivial).elim
    |_=>show h1
 show#[Z,#[el,hg,#[z.zh,kQ _],so],λH' v r Y1 s1 W=>?_,λH' Y1 s1=>?_]
 . let(_,Z',xp,i,s2):=s1.top;let(zo,Q):=back i;let q:=s2.1 _ cS;show .mk (Z:=n8 H Z Z') el hg zo ?_;cases r with
   |sh p=>
    let(x,e1,F):=q;cases e1;show Q.consS (Mv i.h0 i.zh W F)
   |own p=>
    let(a,e1,F,e3,e4):=q;let pG:=fI e1;subst pG;have fin:∀{q:PV},qU K (n8 H Z Z') H' a q->ah K H0 (n8 H Z Z') H' ((!(.ref a),!(Zs q))::sl Z.g U Y pd):=λF=>by
     show#[λe j=>?_,?_]
     . obtain rfl|j:=bh.mp j
       . show#[a,O,F,?_,z.h0.free e4];show zb (H a) (Z.z a) (Z'.z a)=_;rw[e4];show e3
       . show Q.1 e j
     . show h_.mpr #[λhm=>?_,Q.2];let(e,j,hb):=kK.mp hm;let(_,_,o,h3,_):=jn so j hb;grind
    suffices h:qU K (n8 H Z Z') H' a p by show fin h
    cases p with
    |lst ps=>
     let(vs,g1,g2):=F;show#[vs,g1,cK i.h0 i.zh W g2]
    |dk ks ps=>
     let(ay,g1,g2,g3):=F;show#[ay,g1,g2,cK i.h0 i.zh W g3]
    |_=>cases W
 . let(_,Z',xp,i,s2):=s1;let(zo,Q):=back i;show#[el,n8 H Z Z',hg,zo,Q]
def SR.peeked{Z:ZG}(N:-U=-Y.vs)(D:-Y.mu=-Z.g)
 (hs:∀v o,(v,o)∈U.zip Y.vs->pk o=J\/∃x p,pk o=!(Zp p)/\v=!x/\bP K #[H,Z.g] p x):SR K H #[H,Z.g] U H #[Y.vs.map pk,Y.mu.map λ_=>J] []:=by
 have key:∀v l,(v,l)∈sl Z.g U #[Y.vs.map pk,Y.mu.map λ_=>J] []->l=J\/∃x p,l=!(Zp p)/\v=!x/\bP K #[H,Z.g] p x:=λv l i=>by
  obtain i|i:=d6.mp i
  . let(_,h2):=lI i;grind
  . rw[nV,fg]at i;rw[zip_map_right]at i;let(e,j,z):=dA.mp i;cases z;show hs _ _ j
 show#[by simp[N],#[H,Z.g],by simp[D],#[eY_.refl _,eY_.refl _,iu.refl _,λb o e=>Zl e],λe i=>?_,?_]
 . let(v,l):=e;obtain rfl|⟨x,p,rfl,rfl,r⟩:=key v l i
   . trivial
   . show#[x,O,r]
 . have:(sl Z.g U #[Y.vs.map pk,Y.mu.map λ_=>J] []).filterMap mj=[]:=by
    rw[filterMap_eq_nil_iff];intro e i;let(v,l):=e;obtain rfl|⟨x,p,rfl,rfl,_⟩:=key v l i
    . cases v with
      |none=>rfl
      |some x=>cases x<;>rfl
    . cases x<;>rfl
   rw[this];grind
def SR.look(s:SR K H0 Z0 U H Y pd):
 ∃i,SR K H i U H Y.peek []/\(∀H' v r Y1,SR K H i U H' Y1 [(v,r)]->Sy r=G->SR K H0 Z0 U H' Y ((v,r)::pd))/\∀H' Y1,SR K H i U H' Y1 []->SR K H0 Z0 U H' Y pd:=by
 let(Z,(F,Q,D,N),W,b2):=s.lookB;show#[_,SR.peeked F Q λv o he=>?_,W,b2];let q:=N.1 _ (hZ _ (ii _ he))
 match o,q with
 |none,_=>show Zl O
 |some (Zp p),#[x,j,z]=>show YY #[x,p,O,j,z.mono D]
 |some (Zs p),#[a,j,z,_]=>show YY #[.ref a,p,O,j,z.rep D O]
def C4(mu:Mu):PV->PV
 |ZA n=>match mu[n]? with
  |some (!p)=>p
  |_=>ZA n
 |p=>p
def peekC(mu:Mu):Option Lc->Option Lc
 |some l=>!(Zp (C4 mu l.pv))
 |none=>J
def Ev.peekC(Y:Ev):Ev:=#[Y.vs.map (PL.peekC Y.mu),Y.mu.map λ_=>J]
def Xw:∀U H Q,tP K (vL f) U H Q->tP K f U H Q:=λU H Q q=>by
 let(H0,Z0,Y,pd,r,Y',s,h,k):=q;let(x,h1,h2):=b_ h;let(N,z,j,_):=s.look;split at h2
 . rename_i D;cases h2;show#[H,N,Y.peek,[],x.1,x.2,z,h1,λv H' F=>k v H' (j H' v x.1 x.2 F D)]
 . cases h2
def Kh(h:PE X e (tP X.K f)):PE X e (tP X.K (vL f)):=PE.imp h Xw
end
def yt(x:Str):It:=#[λi _=>i< ~~~x.cps,λi H v H'=>H'=H/\∃c,x.cps[i]?=!c/\v=.str #[(List.toArray [c])],λi _=>i= ~~~x.cps]
def Mw(j:Addr)(x:Str){St:Nat->Heap->Prop}(W:∀A':Around,A'.handled=J->Walks P w A' j [j] [j] x.cps.size (SignAt x) St)
 (hob:∀i h,St i h->∃o,h.get? j=!o/\∀v,o.data≠.cell v) (Rm:∀(A:Around)(i:Nat)(s:Shared)(Q:Value->Shared->Prop)(E:Value->Shared->Prop),St i s.heap->Q (YV j) s->wpAny (model P w) A (pyIter (YV j)) Q E s):hM P w K tg (yt x) [j] j St where
 mem:=by simp
 obj:=λi h st b q=>by
  have e:b=j:=by simpa using q
  grind
 keep:=λi h h' st k=>(W {} O).frame i h h' st k
 item:=by intro X hP hw hK hc i ae s U H E I D st N;let(F,f1,f2,f3,f4,f5):=D j (by simp);show(W X.A (I.ok.hd hc)).item i s _ E N st λv h' tk hv f6 hk=>?_;let(c,u,e1,rfl):=hv;show#[_,O,?_];have fin:∃z H',am X ae U H' { s with heap:=h',toks:=tk }/\aw z (.str #[(List.toArray [c])] u)/\(yt x).yld i H z H'/\St (i+1) h'/\∀b∈[j],H' b=J:=#[.str #[(List.toArray [c])],H,(I.turned (λb o q e=>hk b o ∅ e) F f1 f3 f4 f5),#[u,O],#[O,c,e1,O],f6,λb q=>(D b q).1];cases tg<;>show a8 fin
 done:=by intro X hP hw hK hc i ae s U H E I D st N;let(F,f1,f2,f3,f4,f5):=D j (by simp);subst N;show(W X.A (I.ok.hd hc)).done s _ E st λh' tk hk=>#[O,I.turned (λb o q e=>hk b o ∅ e) F f1 f3 f4 f5]
 self:=λA i s Q E st h=>Rm A i s Q E st h
section
variable {X:Cx}
noncomputable def ja (x:Str):List PV:=x.cps.toList.map λc=>ZH #[(List.toArray [c])]
def Xx:qX K H0 Z0 pd (yt x) (ja x):=by
 intro U H Y i s;show#[λp q=>?_,λF=>?_]
 . unfold ja at q;rw[eL]at q;let(c,z,rfl):=d4 q;let hi:=(fr.mp z).1;show#[(show i< ~~~x.cps by simpa using hi),λv H' y=>?_];let(rfl,D,j,rfl):=y;have:D=c:=by rw[fN]at z;rw[z]at j;show(fI j).symm
   subst this;show s.scal pq
 . show i= ~~~x.cps;simpa [ja] using F
def O2{bs:List Bool}(z:ap ys dS)(e:ys=bs.map V.bl):TruthOf P w A (λi v=>dS.toArray[i]?=!v) (λi=>bs.getD i M):=by
 intro i v s Q E N q;have j:dS[i]?=!v:=by simpa using N
 let hi:=(fr.mp j).1;let W:=-z;have F:i< -bs:=by rw[e,da]at W;lia
 let(u,h1,h2):=z.get (by rw[e,eL,ge F];rfl);rw[j]at h1;cases h1;cases h2;have:bs.getD i M=bs[i]:=by simp[F]
 have D:Q (bs.getD i M) s:=q;rw[this]at D;show wpAny_truthy_bool D
def range_any{bs:List Bool}:((range (-bs)).any λi=>bs.getD i M)=bs.any id:=by
 induction bs with
 |nil=>rfl
 |cons b r j=>
  rw[db,range_succ_eq_map,va,any_map,va];have:((range (-r)).any ((λi=>(b::r).getD i M) ∘ Nat.succ))=(range (-r)).any λi=>r.getD i M:=O;rw[this,j];rfl
def mD(hc:X.calm=G):lO X (.builtin "any") (λxs H Q=>∃(p:Addr)(bs:List Bool),xs=[.ref p]/\bY X.K H p (bs.map V.bl)/\Q (.bl (bs.any id)) H):=by
 intro c5 s U H xs us Q I r h;let(p,bs,rfl,hq,q):=h;let(u,rfl,ru):=fm r;cases ru;let(j,N,pl,_):=I.list hq;have F:p<(c8 s):=by let(o,n,D,_):=pl;show dQ D
 show call_any_walk (wpAny_pyIter_list pl.isList ?_);have z:∀b o,s.heap.get? b=!o->(s.heap.push { cls:=.type "list_iterator",data:=.fields (List.toArray [YV p,.int 0 0]) }).get? b=!o:=λb o e=>eJ _ e;have hl: ~~~j.toArray=-bs:=by rw[gL,<-(-N),da]
 show#[(c8 s),_,_,_,_,_,λi=>bs.getD i M,O,Walks.list (show X.A.in1.handled=J from I.ok.hd hc) _ p (fw F) j.toArray,#[#[_,ff _ O,O,O],?_],O2 N O,λh' tk hk=>?_]
 . let(o,D,W):=pl.isList;show#[o,z _ _ D,W]
 . rw[hl,range_any];show#[.bl _,H,I.kept λb o e=>hk b o ?_ (z b o e),O,q];have:=dQ e;simp;show fw this
noncomputable def eq:List PV->Option (List Bool)
 |[]=>![]
 |.bl b::r=>(eq r).map (b::·)
 |_=>J
theorem Ja:∀{ps:List PV}{bs:List Bool}{vs:List V},eq ps=!bs->aK K Z ps vs->vs=bs.map V.bl
 |[],bs,vs=>λh r=>by cases h;show r.inv0
 |p::ps,bs,vs=>λh r=>by
  cases p with
  |bl b=>
   let(cs,h1,rfl):=d4 h;let(v,w,rfl,i,j):=r.inv;rw[ji i,Ja h1 j];rfl
  |_=>cases h
def Rn:PV->Option Lc
 |R ps=>(eq ps).map λbs=>Zp (.bl (bs.all id))
 |_=>J
def Ro:PV->Option Lc
 |R ps=>(eq ps).map λbs=>Zp (.bl (bs.any id))
 |_=>J
abbrev Aj:List PV->Option Lc:=λps=>match ps with |[p]=>Ro p |_=>J
def Fx:lQ K (λxs H Q=>∃(p:Addr)(bs:List Bool),xs=[.ref p]/\bY K H p (bs.map V.bl)/\Q (.bl (bs.any id)) H) Aj:=lQ.one λH0 Z0 U Y pd H v p l Q s e k=>by
 let(_,r):=s.repH;cases p with
 |lst ps=>
  let(bs,h1,rfl):=d4 (e);let(a,q,rfl,h2,j):=r;have:=Ja h1 j;subst this;show#[a,bs,O,h2,k _ H (s.pop.scal mq)]
 |_=>cases e
def C5:PV->Option String
 |.non=>!"NoneType"
 |.bl _=>!"bool"
 |ZI _=>!"int"
 |ZH _=>!"str"
 |ZB _=>!"tuple"
 |R _=>!"list"
 |_=>J
def kC(p:PV)(C:String):Option Bool:=(C5 p).bind λT=>if (Value.type T==Value.type C)=G then !G else if W.kitMeta C=G then (fastBuiltinMro T).map λx=>x.contains (.type C) else J
def zcg(h1:C5 p=!T)(h:kC p C=!b):W.kitOne K (.type T) (.type C)=!b:=by unfold kC at h;rw[h1,c9]at h;show h
def s_:lO X (.builtin "isinstance") (λxs H Q=>∃x C g p b,xs=[x,.ty C]/\bP X.K #[H,g] p x/\kC p C=!b/\Q (.bl b) H):=by
 intro ae s U H xs us Q I r h;let(x,C,g,p,b,rfl,j,e,q):=h;let(u,w',rfl,D,m8):=pj r;cases m8;have fin:∀tk,EP X ae U Q (.bool b) { s with toks:=tk }:=λtk=>#[.bl b,H,I.tok tk,O,q];cases p with
 |non=>have:=jL j;subst this;cases D;show n4 W.kitx_none I.kIn trivial () () fin
 |bl c=>have:=ji j;subst this;cases D;show n4 W.kitx_bool I.kIn trivial () () fin
 |int i=>have:=cF j;subst this;let(t,rfl):=D;show n4 W.kitx_int I.kIn trivial () () fin
 |str i=>have:=dN j;subst this;let(t,rfl):=D;show n4 W.kitx_str I.kIn trivial () () fin
 |tup ps=>
  let(a,vs,dS,rfl,_,_,_,o,t1,F,_):=Fq I j D;show n4 W.kitx_tuple I.kIn #[o,t1,F] () () fin
 |lst ps=>
  let(a,vs,dS,rfl,_,_,_,o,t1,F,_):=Ag I j D;show n4 W.kitx_list I.kIn #[o,t1,F] () () fin
 |_=>cases e
def mi(C:String)(f:EF):EF:=λY=>(f Y).bind λx=>(kC x.1.pv C).map λb=>(Zp (.bl b),x.2)
def td(h:PE X (.Call (.Name "isinstance" z) [e,c] [] pos) (zN (λxs H Q=>∃x C g p b,xs=[x,.ty C]/\bP X.K #[H,g] p x/\kC p C=!b/\Q (.bl b) H) (J5 (tP X.K f) (J5 (tC (.ty C)) KJ)))):
 PE X (.Call (.Name "isinstance" z) [e,c] [] pos) (tP X.K (mi C f)):=PE.imp h λU H Q q=>by
 let(H0,Z0,Y,pd,r,Y',s,h,k):=q;let(x,h1,h2):=b_ h;let(b,h3,D):=d4 h2;cases D;show#[H0,Z0,Y,pd,x.1,x.2,s,h1,λv H1 j=>?_];let(g,F):=j.freeze.repH;show#[v,C,g,_,b,O,F,h3,k _ H1 (j.pop.scal mq)]
noncomputable def f_:List PV->Option (List Str)
 |[]=>![]
 |ZH x::r=>(f_ r).map (x::·)
 |_=>J
theorem Mx:∀{ps:List PV}{xs:List Str}{vs:List V},f_ ps=!xs->aK K Z ps vs->vs=xs.map V.str
 |[],xs,vs=>λh r=>by cases h;show r.inv0
 |p::ps,xs,vs=>λh r=>by
  cases p with
  |str b=>
   let(cs,h1,rfl):=d4 h;let(v,w,rfl,j,q):=r.inv;rw[dN j,Mx h1 q];rfl
  |_=>cases h
theorem Fy:∀{xs:List Str}{i:List Value},ap (xs.map V.str) i->StrsAre i xs
 |[],_,.nil=>.nil
 |x::xs,_,.cons r t=>by let(j,rfl):=r;show .cons _ _ (Fy t)
def QF:Ud X "str.join" (λx xs H Q=>∃(z:Str)(p:Addr)(ys:List Str),x=.str z/\xs=[.ref p]/\bY X.K H p (ys.map V.str)/\(ys.map (·.length)).sum+-ys*-z<=16777216/\Q (.str (Txt.join z ys)) H):=by intro ae s U H x vs v us Q I D F h;let(z,p,ys,rfl,rfl,W,i,q):=h;let(t,rfl):=D;let(u,rfl,ru):=F.one;cases ru;let(j,g_,pl,_):=I.list W;show join_list pl.isList (by simpa using Fy g_) i λN k=>#[.str _,H,I.tok k,#[N,O],q]
def rY(f:EF)(a:AF):EF:=λY=>(f Y).bind λx=>(a x.2).bind λy=>match x.1.pv,y.1.map Lc.pv with
 |ZH z,[R ps]=>(f_ ps).bind λxs=>if (xs.map (·.length)).sum+-xs*-z<=100000 then !(Zp (ZH (Txt.join z xs)),y.2) else J
 |_,_=>J
set_option tactic.hygienic true in
def Zh(h:PE X (.Call (.Attribute o "join" apos) [e] [] cpos) (KZ X.K "str" (λx xs H Q=>∃(z:Str)(p:Addr)(ys:List Str),x=.str z/\xs=[.ref p]/\bY X.K H p (ys.map V.str)/\(ys.map (·.length)).sum+-ys*-z<=16777216/\Q (.str (Txt.join z ys)) H) (tP X.K f) (jR X.K a))):
 PE X (.Call (.Attribute o "join" apos) [e] [] cpos) (tP X.K (rY f a)):=PE.imp h λU H Q q=>by
 let(H0,Z0,Y,pd,r,Y',s,h,k):=q;let(x,h1,h2):=b_ h;let(y,h3,i):=b_ h2;show#[H0,Z0,Y,pd,x.1,x.2,s,h1,λv H1 D=>?_];split at i
 . rename_i z ps ez ep;let(xs,h5,j):=b_ i;split at j
   . cases j;let(_,N):=D.freeze.repH;rw[ez]at N;have:=dN N;subst this;show#[O,H0,Z0,x.2,pd,y.1,y.2,D.pop,h3,λvs H2 e2 s2=>?_];let(W,Z,hg,F,rl,ss):=s2.repl e2;rw[ep]at rl;let(w,rr,rfl,r1,r2):=rl.inv;have:=r2.inv0;subst this;let(b,ws,rfl,g1,g2):=r1;have:=Mx h5 g2;subst this;show#[z,b,xs,O,O,bY.same F.zh g1,(),k _ H2 (.mk W hg F (ss.consS (pq _)))]
   . cases j
 . cases i
noncomputable def Rt:PV->Option Lc
 |ZI i=>if i.natAbs.log2<1920 then !(Zp (ZH (toString i))) else J
 |_=>J
abbrev kf:List PV->Option Lc:=λps=>match ps with |[p]=>Rt p |_=>J
def My:lQ K (λxs H Q=>∃i,xs=[.int i]/\i.natAbs.log2<1920/\Q (.str (toString i)) H) kf:=lQ.one λH0 Z0 U Y pd H v p l Q s e k=>by
 let(_,r):=s.repH;cases p with
 |int i=>
  have j:(if i.natAbs.log2<1920 then !(Lc.sh (ZH (toString i))) else J)=!l:=e;split at j
  . rename_i z;cases j;have:=cF r;subst this;show#[i,O,z,k _ H (s.pop.scal pq)]
  . cases j
 |_=>cases e
end
section
variable {prog:Program}{w:World}{A:Around}{E:Value->Shared->Prop}{s:Shared}
theorem Jb(D:t≠F):∀(n i:Nat)(s:Shared)(Q:List Value->Shared->Prop),s.heap.IsListIter F t i->s.heap.IsList t items->i+n<= ~~~items->
 (∀h',h'.IsListIter F t (i+n)->Heap.SameBut F s.heap h'->Q ((items.toList.drop i).take n) { s with heap:=h' })->wpAny (model prog w) A (draw (YV F) n) Q E s
 |0=>λi s Q j _ _ hQ=>a8 (by simpa using hQ s.heap j (Heap.SameBut.refl ..))
 |n+1=>λi s Q j ht OQ hQ=>by
  have W:i< ~~~items:=()
  show al (wpAny_pyNext_list_item j ht (x:=items[i]) ∅ λh₁ z q=>?_);show al (iE (Jb D n (i+1) _ _ z (ht.extBut q.extBut D) () λh₂ hit₂ Ry=>a8 ?_));have hd:items.toList.drop i=items[i]::items.toList.drop (i+1):=by simp[nE,W]
  have:=hQ h₂ ∅ (q.trans Ry);grind
def Dw(hh:A.handled=J)(F:s.heap.IsList t items)
 (hQ:∀h',Heap.ExtBut s.heap.objs.size s.heap h'->Q items.toList { s with heap:=h' }):wpAny (model prog w) A (unpackItems (YV t) items.size J) Q E s:=by
 have z:t≠(c8 s):=by let(o,ho,_):=F;show fw (dQ ho)
 show al ?_
 . show al (wpAny_specialOf F.typeIs slot_list_iter.lookup ?_);show a8 ?_;show al (iE (wpAny_pyIter_list F ?_));show al (iE (Jb z items.size 0 _ _ #[_,ff _ O,O,O] (by let(o,g1,W):=F;show#[o,eJ _ g1,W]) () λh₁ q j=>?_));have D:take items.size (drop 0 items.toList)=items.toList:=by rw[drop_zero];show oT ()
   rw[D];rw[a_ (by simp)];let RA:=Heap.IsList.extBut (by let(o,g1,W):=F;show#[o,eJ _ g1,W]) j.extBut z;show al (iE (wpAny_pyNext_list_end hh q RA (by simp) λh₂ RE=>?_));show a8 (hQ h₂ λb o hb e=>RE b o hb (j.extBut b o hb (eJ _ e)))
end
section
variable {X:Cx}{pos:Pos}
def C6(K:FG)(n:Nat)(t:yU):TG:=λv U H Q=>∃a xs,v=.ref a/\(cW K H a xs\/bY K H a xs)/\-xs=n/\t xs U H Q
def iW{k:Nat}(hc:X.calm=G)(h:TQ X es t)
 (N:-(assignEach es X.env)=n:=by rfl) (i:(assignEach es X.env).findIdx? (·.1)=J:=by rfl):PG X (.Tuple es k pos) (C6 X.K n t):=by
 intro ae s U H v u Q I r q;let(a,xs,F,j,W,q):=q;obtain j|j:=j
 . show Kn hc h N i ae s U H v u Q I r #[a,xs,F,j,W,q]
 . subst F;cases r;let(D,rv,ht,hz):=I.list j;show al (wpAny_standAt ?_);unfold unpack;have z:-(assignEach es X.env)= ~~~D.toArray:=by simp[N,<-W,rv.length]
   rw[z,i];show al (iE (Dw (I.ok.hd hc) ht.isList λh' hx=>?_));let I1:=I.kept (t':=s.toks) λb o e=>hx b o (fw (dQ e)) e;show h ae _ U H xs _ Q I1 () q
noncomputable def fC (n:Nat) (bs:Mh):BF:=λp Y=>match p with
 |ZB ps=>if -ps=n then bs ps Y else J
 |R ps=>if -ps=n then bs ps Y else J
 |_=>J
def iY(h1:Zc K t bs):GS K (C6 K n t) (fC n bs):=by
 intro H0 Z0 U H Y pd v p Y' Q s h k;cases p with
 |tup ps=>
  have h':(if -ps=n then bs ps Y else J)=!Y':=h;split at h'
  . rename_i N;let(e,Z,F,z,r,j):=s.sh;let(a,D,rfl,h2,q):=r;show#[a,D,O,Zl (cW.same z.zh h2),by rw[q.length];show N,h1 H0 Z0 U H Y pd D ps Y' Q (-q) (SR.items e F z q j) h' k]
  . cases h'
 |lst ps=>
  have h':(if -ps=n then bs ps Y else J)=!Y':=h;split at h'
  . rename_i N;let(e,Z,F,z,r,j):=s.sh;let(a,D,rfl,h2,q):=r;show#[a,D,O,YY (bY.same z.zh h2),by rw[q.length];show N,h1 H0 Z0 U H Y pd D ps Y' Q (-q) (SR.items e F z q j) h' k]
  . cases h'
 |_=>cases h
def RF(K:FG)(tl:TE):TI:=λU H ZN=>tl U H λx H1=>(∃a,x=.ref a/\(∃xs,bY K H1 a xs)/\ZN (YK K a) H1)\/(∃a,x=.ref a/\(∃xs,cW K H1 a xs)/\ZN (YL K a) H1)\/∃z,x=.str z/\ZN (yt z) H1
def RI(hl:PE X l tl):PI X tg l (RF X.K tl):=by
 intro c5 s U H ZN I h;have RO:∀(v:Value)(j:Shared)(x:V)(H1:Hp),am X c5 U H1 j->aw x v->((∃a,x=.ref a/\(∃xs,bY X.K H1 a xs)/\ZN (YK X.K a) H1)\/(∃a,x=.ref a/\(∃xs,cW X.K H1 a xs)/\ZN (YL X.K a) H1)\/∃z,x=.str z/\ZN (yt z) H1)->
  wpAny (model X.prog X.w) X.A (pyIter v) (sk X c5 U tg ZN) X.xe j:=λv j x H1 D F q=>by
  have fp:∀b,b∈[(c8 j)]->nJ X c5 H1 b:=λb hb=>by
   have e:b=(c8 j):=by simpa using hb
   subst e;show D.fpOk () (D.hok.fresh ())
  obtain⟨a,rfl,⟨xs,N⟩,q⟩|⟨a,rfl,⟨xs,N⟩,q⟩|⟨z,rfl,q⟩:=q
  . cases F;let(dS,rv,p,hz):=D.list N;show wpAny_pyIter_list p.isList #[(c8 j),[(c8 j)],_,_,H1,O,D.kept λb o e=>eJ _ e,TV a _,#[_,ff _ O,O,O],fp,q]
  . cases F;let(dS,rv,p,hz):=D.tuple N;show wpAny_pyIter_tuple p #[(c8 j),[(c8 j)],_,_,H1,O,D.kept λb o e=>eJ _ e,RC a _,#[_,ff _ O,O,O],fp,q]
  . let(t,rfl):=F;have kp:∀(o:Obj),am X c5 U H1 { j with heap:=j.heap.push o }:=λo=>D.kept λb u e=>eJ _ e;have ob:∀{n:String}(i:Nat)(h:Heap),h.IsStrIter (c8 j) n z t i->∃o,h.get? (c8 j)=!o/\∀v,o.data≠.cell v:=λi h st=>by let(o,ho,_,hd):=st;show#[o,ho,λv e=>by rw[hd]at e;cases e]
    cases ha:z.cps.all (·<128)
    . show wpAny_pyIter_wide ha #[(c8 j),[(c8 j)],_,yt z,H1,O,kp _,Mw _ z (λA' W=>Walks.strWide W _ z t) ob (λA i s Q E st h=>wpAny_pyIter_striter_wide st h),#[_,ff _ O,O,O],fp,q]
    . show wpAny_pyIter_ascii ha #[(c8 j),[(c8 j)],_,yt z,H1,O,kp _,Mw _ z (λA' W=>Walks.strAscii W _ z t) ob (λA i s Q E st h=>wpAny_pyIter_striter_ascii st h),#[_,ff _ O,O,O],fp,q]
 show dg (hl c5 s U H _ I h) λv j RS=>by let(x,H1,D,F,q):=RS;show RO v j x H1 D F q
def bJ:PV->Option (List PV)
 |R ps=>!ps
 |ZB ps=>!ps
 |ZH x=>!(ja x)
 |_=>J
def cA(W:PE X l (tP X.K f)):PI X tg l (Iz X.K (dh f bJ)):=PI.imp (RI W) λU H ZN q=>by
 let(H0,Z0,Y,pd,xs,Y',s,h,k):=q;let(x,h1,h2):=b_ h;let(ys,j,h4):=d4 h2;cases h4;show#[H0,Z0,Y,pd,x.1,x.2,s,h1,λv H1 Q=>?_];let i:=Q.freeze;cases e:x.1.pv with
 |lst ps=>
  rw[e]at j i;cases j;let(Z,z,r):=i.rep;let(b,N,rfl,D,F):=r;show Zl #[b,O,#[N,bY.same z D],k _ _ _ i Va (f7 _ _)]
 |tup ps=>
  rw[e]at j i;cases j;let(Z,z,r):=i.rep;let(b,N,rfl,D,F):=r;show YY (Zl #[b,O,#[N,cW.same z D],k _ _ _ i Xo (f7 _ _)])
 |str z=>
  rw[e]at j i;cases j;let(_,r):=i.repH;show YY (YY #[z,dN r,k _ _ _ i.pop Xx (o_ _)])
 |_=>rw[e]at j;cases j
end
section
variable {P:Program}{w:World}{K:FG}{mg:Str->Option Value}{base:Heap}
def QG(mg:Str->Option Value)(L:List Str):Prop:=∀x∈L,mg x=J
def jY{st:Stmt}(F:cL K mg x st ps):bI P w K mg base x k ps (bW K (-ps) λ_ _=>J):=by
 let(f,fd,F,z,D):=F;have W:∀i H Q E,¬ bW K (-ps) (λ_ _=>J) i H Q E:=λi H Q E h=>by let(_,_,_,_,_,_,_,_,_,_,h,_):=h;cases h
 show#[f,fd,#[λi H Q E h=>absurd h ∅,λA j s H q N i Q E _ _ _ _ h=>absurd h ∅],z,F.kp,D]
def Kl(K:FG):Sp:=λvs H Q _=>∃(a:Addr)(ns:List Int),vs=[.ref a]/\bY K H a (ns.map V.int)/\-ns<=63/\∀H',Q (.bl G) H'
def RU(F:oK P w K mg base qD k f fd ["_law_script"] (bW K 1 g))(h:∀ns:List Int,-ns<=63->∃j,g [R (ns.map PV.int)] []=!(Zp (.bl G),j)):oK P w K mg base qD k f fd ["_law_script"] (Kl K):=
 F.imp λvs H Q E q=>by
  let(a,ns,rfl,hs,z,k):=q;let(j,e):=h ns z;show#[#[H,[]],[R (ns.map PV.int)],[],_,j,O,O,eY_.refl _,aK.cons ?_ .nil,#[λe D=>(by cases D),oP],e,λv H' r=>?_]
  . show#[a,ns.map V.int,O,hs,?_];clear hs e z;induction ns with
    |nil=>show .nil
    |cons n r W=>show aK.cons (gF _) W
  . let(Z',_,_,s):=r;let(x,i,N):=s.1 _ cS;cases i;rw[ji N];grind
end
def aP:∀Y ls Y1,ao Y=!(ls,Y1)->-ls=0:=λY ls Y1 h=>by cases h;rfl
def aB(h:∀Y ls Y1,g Y=!(ls,Y1)->-ls=n):∀Y ls Y1,aj f g Y=!(ls,Y1)->-ls=n+1:=λY ls Y1 e=>by let(x,h1,h2):=b_ e;let(y,j,q):=d4 h2;cases q;rw[db,h _ _ _ j]
def RY(S:Scope)(hS:X.env.scope=S)(D:sc.kind=.function)(z:∀y∈sc.names,y.2=.local->sc.names.lookup y.1=!.local)(cel:∀y∈sc.names,y.2=.cell->sc.names.lookup y.1=!.cell)
 (own:∀p∈sc.names,p.2=.free->S.names.lookup p.1=!.cell\/S.names.lookup p.1=!.free) (frs:∀x∈F,sc.names.lookup x=!.free) (Q:dE.map (λi=>X.N[i]?)=F.map some):jE X ZO F dE sc:=by
 show#[D,z,cel,λp W e=>by rw[hS];show own p W e,frs,?_,λj i h=>?_]
 . have:=gs length Q;grind
 . have h2:(dE.map (λi=>X.N[i]?))[j]?=some X.N[i]?:=by rw[eL,h];rfl
   cases q:F[j]? with
   |none=>grind
   |some x=>grind
section
variable {P:Program}{w:World}{K:FG}{mg:Str->Option Value}{base:Heap}
def vD.okP{st:Stmt}(F:vD K x x st f fd)(S:bz N ps (aG st))
 (h:∀(j:Value)(A:Around)(i:List PySem.Env)(s:Shared)(H:Hp)(E:XK),qM k (A.deeper (envOfC x (aG st) s.heap.objs.size f j))->
   ∃g':SF,(∀a mu,g a mu=cY (-N) g' a mu)/\jP (Ww qD P w K mg base N x (aG st) f j A i s H E).nox (jC st) (iw K g')):oK P w K mg base qD (k+1) f fd ps (bW K (-ps) g):=by
 show F.ok S (λvs H Q E q=>?_) (λj A i s H vs Q E hr q=>?_)
 . let(Z,qs,mu,r,hU,e,_):=q;show e
 . let(g',eg,b):=h j A i s H E hr;let(Z,qs,mu,r,hU,e,hg,z,rl,c,mh,kk):=q;rw[eg]at mh;let(fl,h1,h2):=b_ mh;show#[_,b,my H (uP Z.g mu),Z,_,[],fl,Ds hg z rl c,h1,?_];cases fl with
   |rt r' Y'=>
    cases h2;intro v U' H' s';let(el,Z',D,z',W):=s'.top;show kk v H' #[Z',D,z',W.sub ?_];show(j6 _ _).cons_cons _
   |nx Y'=>
    cases h2;intro U' H' s';let(el,Z',D,z',W):=s';show kk .non H' #[Z',D,z',(W.sub (j6 _ _)).consS (Bq _)]
   |bk Y'=>cases h2
   |ct Y'=>cases h2
end
section
variable {X:Cx}
def R_:PV->Option PV
 |ZI i=>!(ZI ((Neg.neg i)))
 |_=>J
def jq(f:EF):EF:=λY=>(f Y).bind λx=>(R_ x.1.pv).map λp=>(Zp p,x.2)
def v7(F:PE X a (tP X.K f)):PE X (.UnaryOp .USub a pos) (tP X.K (jq f)):=PE.imp (KU K_ F) λU H Q q=>by
 let(H0,Z0,Y,pd,r,Y',s,h,k):=q;let(x,h1,h2):=b_ h;let(p,j,N):=d4 h2;cases N;show#[H0,Z0,Y,pd,x.1,x.2,s,h1,λv H1 D=>?_];let(_,z):=D.freeze.repH;cases e:x.1.pv with
 |int i=>
  rw[e]at j z;cases j;show#[i,cF z,k _ H1 (D.pop.scal gF)]
 |_=>rw[e]at j;cases j
end
theorem yu(i:Ev->Prop)(z:∀Y,i Y->Y.mu=mu)(c:PV->Bool)(f:PV->PV):∀{xs:List PV}{Y:Ev}{acc:List PV},i Y->-acc+-xs<=100000->
 (∀x∈xs,∀Y,i Y->∃Y1,b x Y=!Y1/\∃Y2,tc Y1=!(c x,Y2)/\i Y2/\(c x=G->∃l Y3,te Y2=!(l,Y3)/\l.pv=f x/\i Y3))->dF b tc te xs Y acc=!(acc++(xs.filter c).map f,mu)
 |[],Y,acc=>λh _ _=>by show some (acc,Y.mu)=_;grind
 |x::xs,Y,acc=>λh W hs=>by
  let(Y1,N,Y2,Q,h2,D):=hs x cS Y h;let j:=λy F=>hs y (d_ _ F);rw[db]at W;show (b x Y).bind _=_;rw[N,c9,Q,c9];cases hc:c x with
  |false=>
   simp only[hJ,if_false];rw[yu i z c f h2 () j,filter_cons_of_neg ∅]
  |true=>
   let(l,Y3,e3,q,h4):=D hc;simp only[if_true];rw[e3,c9,ax (),yu i z c f h4 ∅ j,filter_cons_of_pos (),q];simp
def Jc(i:Ev->Prop)(F:∀Y,i Y->Y.mu=mu)(f:PV->PV)(h:i Y)(W:-xs<=100000)
 (hs:∀x∈xs,∀Y,i Y->∃Y1,b x Y=!Y1/\∃l Y3,te Y1=!(l,Y3)/\l.pv=f x/\i Y3) (N:∀x∈xs,∀Y Y1,i Y->b x Y=!Y1->i Y1):dF b bB te xs Y []=!(xs.map f,mu):=by
 rw[yu i F (λ_=>G) f h ∅ λx q Y D=>?_]
 . rw[iS,filter_eq_self.mpr (λ_ _=>O)]
 . let(Y1,z,l,Y3,Q):=hs x q Y D;show#[Y1,z,Y1,O,N x q Y Y1 D z,λ_=>#[l,Y3,Q]]
def dI(h:0<b):aZ (ZI a) (ZI b)=!(Zp (ZI (a%b))):=by show (if decide (0<b)=G then _ else _)=_;grind
def gU(h:0<b)(h2:b<1073741824):bO (ZI a) (ZI b)=!(Zp (ZI (a/b))):=by show (if decide (0<b/\b<1073741824)=G then _ else _)=_;grind
def Mz(h:-18446744073709551616<a)(h2:a<18446744073709551616):gM (ZI a) (ZI b)=!(Zp (ZI (a*b))):=by show (if decide (((Neg.neg (2 ^ 64))<a/\a<2 ^ 64)\/((Neg.neg (2 ^ 64))<b/\b<2 ^ 64))=G then _ else _)=_;grind
def wL(h:-18446744073709551616<b)(h2:b<18446744073709551616):gM (ZI a) (ZI b)=!(Zp (ZI (a*b))):=by show (if decide (((Neg.neg (2 ^ 64))<a/\a<2 ^ 64)\/((Neg.neg (2 ^ 64))<b/\b<2 ^ 64))=G then _ else _)=_;grind
def bC(h1:fa Y=!(x,Y1))(h2:fb Y1=!(y,Y2))(j:g x.pv y.pv=!l):au g fa fb Y=!(l,Y2):=by unfold au;grind
def uT(j:0<=i)(h1:i< -l):∃x,fO l i=!x/\l[i.toNat]?=!x:=by
 unfold fO uL;grind
def wM{lo:Int}:-(jo lo n)=n:=by simp[jo]
def G7(h:f Y=!(.nx Y')):aF f g Y=g Y':=by unfold aF;rw[h,c9]
def G8(h:f Y=!(.rt r Y')):aF f g Y=!(.rt r Y'):=by unfold aF;rw[h,c9]
def Sa(h:f Y=!(l,Y1))(hi:i< -Y1.vs):aL i f Y=!(.nx (Y1.set i (!l))):=by unfold aL;grind
def lR(h:c Y=!(G,Y1)):cC c f g Y=f Y1:=by unfold cC;grind
def lU(h:c Y=!(M,Y1)):cC c f g Y=g Y1:=by unfold cC;grind
def C7(h:f Y=!(l,Y1)):cI f Y=!(.rt l Y1):=by unfold cI;grind
def C8(h:f Y=!(xs,Y1)):fX f b body Y=eN b body xs Y1:=by unfold fX;grind
def aO(h:g (env0 n ps mu)=!(.rt r Y)):cY n g ps mu=!(r,Y.mu):=by unfold cY;rw[h,c9]
def Sb(h:g (env0 n ps mu)=!(.nx Y)):cY n g ps mu=!(.sh .non,Y.mu):=by unfold cY;rw[h,c9]
def Xy(h:a Y=!(ls,Y1))(h2:g (ls.map Lc.pv) Y1.mu=!(r,mu)):aN g a Y=!(r,#[Y1.vs,mu]):=by unfold aN;grind
def Xz(h:f Y=!(l,Y1))(h2:a Y1=!(ls,Y2)):aj f a Y=!(l::ls,Y2):=by unfold aj;grind
def C9(h:a Y=!(ls,Y1))(h2:g (ls.map Lc.pv)=!r):eB g a Y=!(r,Y1):=by unfold eB;grind
def eF(h:f Y=!(xs,Y1))(h2:dF b tc te xs (nT m dE (ie dE Y1)) []=!(ys,mu)):bU f m dE b tc te Y=!(Zs (R ys),#[(ie dE Y1).vs,mu]):=by unfold bU;grind
def dC(h:f Y=!(l,Y1))(h2:g l.pv=!xs):dh f g Y=!(xs,Y1):=by unfold dh;grind
def mY(h:a Y=!([l],Y1))(i:l.pv=ZI n)(h1:-4611686018427387904<=n)(h2:n<4611686018427387904):iK a Y=!(jo 0 n.toNat,Y1):=by unfold iK;rw[h,c9];grind
def Sc(h:f Y.peek=!(l,Y1))(j:Sy l=G):vL f Y=!(l,Y):=by unfold vL;grind
def jU(h:f Y=!(l,Y1))(h2:tr l.pv=!b):tT f tr Y=!(b,Y1):=by unfold tT;grind
def XC(h:f Y=!(l,Y1))(h2:a Y1=!([m],Y2))(i:l.pv=ZH z)(j:m.pv=R ps)(q:f_ ps=!xs)(hs:(xs.map (·.length)).sum+-xs*-z<=100000):rY f a Y=!(Zp (ZH (Txt.join z xs)),Y2):=by unfold rY;grind
section
variable {f g:SF}{Y Y1 Y2 Y':Ev}{ZN:Option Fl}{l m r:Lc}{fa fb fc:EF}{c d:TF}{a:AF}{b:Bool}
def aH(h:f Y=!(.nx Y'))(h2:g Y'=ZN):aF f g Y=ZN:=(G7 h).trans h2
def bu(h:fa Y=!(l,Y1))(hi:Nat.blt i (-Y1.vs)=G)(e:Y1.set i (!l)=Y'):aL i fa Y=!(.nx Y'):=by rw[Sa h ∅,e]
def cT(h:fa Y=!(l,Y1)):cI fa Y=!(.rt l Y1):=C7 h
def Se(h:fa Y=!(l,Y1)):rW fa Y=!(.nx Y1):=by unfold rW;grind
def dj(h1:fa Y=!(l,Y1))(z:l.pv=p)(h2:fb Y1=!(m,Y2))(j:m.pv=q)(D:o p q=!r):au o fa fb Y=!(r,Y2):=bC h1 h2 ∅
def aR(h:a Y=!(ls,Y1))(q:ls.map Lc.pv=ps)(z:Y1.vs=v)(j:Y1.mu=kg)(h2:ZT ps kg=!(r,mu)):aN ZT a Y=!(r,#[v,mu]):=by subst q z j;show Xy h h2
def jN(h:a Y=!(ls,Y1))(j:ls.map Lc.pv=ps)(h2:ZT ps=!r):eB ZT a Y=!(r,Y1):=by subst j;show C9 h h2
def aA(h:fa Y=!(l,Y1))(h2:a Y1=!(ls,Y2)):aj fa a Y=!(l::ls,Y2):=Xz h h2
def Bv(h:fa Y=!(l,Y1))(j:l.pv=p)(h2:tr p=!b):tT fa tr Y=!(b,Y1):=by subst j;show jU h h2
def Vi(h:c Y=!(b,Y1)):Br c Y=!(not b,Y1):=by unfold Br;grind
def nU(h:c Y=!(b,Y1))(h2:d Y1=!(b2,Y1)):eE c d Y=!(b&&b2,Y1):=by
 unfold eE;rw[h,c9];cases b with
 |true=>grind
 |false=>rfl
def Sf(h:c Y=!(b,Y1))(h2:b=G->d Y1=!(b2,Y1)):eE c d Y=!(b&&b2,Y1):=by
 unfold eE;rw[h,c9];cases b with
 |true=>grind
 |false=>rfl
def rZ(h:c Y=!(b,Y1))(h2:d Y1=!(b2,Y1)):tO c d Y=!(b||b2,Y1):=by
 unfold tO;rw[h,c9];cases b with
 |true=>rfl
 |false=>grind
def Si(h:c Y=!(b,Y1))(h2:b=M->d Y1=!(b2,Y1)):tO c d Y=!(b||b2,Y1):=by
 unfold tO;rw[h,c9];cases b with
 |true=>rfl
 |false=>grind
def pQ(h:a Y=!(ls,Y1))(i:Nat.ble (-ls) 1000=G)(j:ls.map Lc.pv=ps):cu a Y=!(Zs (R ps),Y1):=by unfold cu;grind
def dm(h:a Y=!(ls,Y1))(i:Nat.ble (-ls) 1000=G)(j:ls.map Lc.pv=ps):aX a Y=!(Zp (ZB ps),Y1):=by unfold aX;grind
def dG(h1:fa Y=!(l,Y1))(z:l.pv=p)(h2:fb Y1=!(m,Y2))(j:m.pv=q)(D:∀n,p≠ZA n)(F:qG p q=!r):aJ fa fb Y=!(r,Y2):=by
 subst z j;unfold aJ;rw[h1,c9,h2,c9];split
 . grind
 . grind
def Vj(h1:fa Y=!(l,Y1))(q:l.pv=ZA n)(h2:fb Y1=!(m,Y2))(j:m.pv=ZI k)(z:Y2.mu[n]?=!(!(R ws)))(D:fO ws k=!p):aJ fa fb Y=!(Zp p,Y2):=by unfold aJ;grind
def pR(j:Y.vs[i]?=!(!(Zs (R ws0))))(h:fa Y=!(l,Y1))(q:l.pv=p)(h1:Y1.vs[i]?=!(!(Zs (R ws))))(hz:-ws<100000)(e:Y1.set i (!(Zs (R (ws++[p]))))=Y'):jM i fa Y=!(.nx Y'):=by unfold jM;grind
def jZ(j:Y.vs[i]?=!(!(Zs (R ws0))))(h:fa Y=!(l,Y1))(q:l.pv=R ps)(h1:Y1.vs[i]?=!(!(Zs (R ws))))(hz:-ws+-ps<=100000)(e:Y1.set i (!(Zs (R (ws++ps))))=Y'):gb i fa Y=!(.nx Y'):=by unfold gb;grind
def Sj(h:fv Y=!(x,Y1))(q:x.pv=p)(D:Y1.vs[i]?=!(!(Zs (R ws0))))(h2:fi Y1=!(y,Y2))(z:y.pv=ZI k)(h1:Y2.vs[i]?=!(!(Zs (R ws))))(F:uL (-ws) k=!j)(e:Y2.set i (!(Zs (R (ws.set j p))))=Y'):Bu i fi fv Y=!(.nx Y'):=by unfold Bu;rw[h,c9];rw[h2,c9,z];grind
def Sk(h:fa Y=!(l,Y1))(j:l.pv=p)(h2:kC p C=!b):mi C fa Y=!(Zp (.bl b),Y1):=by subst j;unfold mi;grind
def eO(h:F Y=!(xs,Y1))(h2:eN B body xs Y1=ZN):fX F B body Y=ZN:=(C8 h).trans h2
def Vk(h:fa Y=!(l,Y1))(j:l.pv=p)(h2:ZT p=!xs):dh fa ZT Y=!(xs,Y1):=by subst j;show dC h h2
def Sm(hx:x=ZI p)(hy:y=ZI q)(h:0<q):aZ x y=!(Zp (ZI (p%q))):=by subst hx hy;show dI h
def M7(hx:x=ZI p)(hy:y=ZI q)(h:0<q)(h2:q<1073741824):bO x y=!(Zp (ZI (p/q))):=by subst hx hy;show gU h h2
def Sn(hx:x=ZI p)(hy:y=ZI q)(h:-18446744073709551616<p)(h2:p<18446744073709551616):gM x y=!(Zp (ZI (p*q))):=by subst hx hy;show Mz h h2
def So(hx:x=ZI p)(hy:y=ZI q)(h:-18446744073709551616<q)(h2:q<18446744073709551616):gM x y=!(Zp (ZI (p*q))):=by subst hx hy;show wL h h2
end
section
variable {X:Cx}
noncomputable def oh (f:EF):EF:=λY=>(f Y).bind λx=>match x.1 with
 |Zs p=>!(Zp (ZA (-x.2.mu)),#[x.2.vs,x.2.mu++[!p]])
 |_=>J
def Fz(h:PE X e (tP X.K f)):PE X e (tP X.K (oh f)):=PE.imp h λU H Q q=>by
 let(H0,Z0,Y,pd,l,Y',s,f,k):=q;let(x,h1,h2):=b_ f;show#[H0,Z0,Y,pd,x.1,x.2,s,h1,λv H1 N=>?_];split at h2
 . rename_i p ep;cases h2;rw[ep]at N;let(W,Z,hg,z,j):=N.top;let(a,ea,ra,za,C3):=j.1 _ cS;let i:=fI ea;subst i;have F:iu Z #[Z.z,Z.g++[a]]:=#[eY_.refl _,r_ _ _];let D:=j.step F λe he b hb=>#[O,(jn j he hb).1];show k _ H1 (.mk (Z:=#[Z.z,Z.g++[a]]) W ∅ #[z.zh,z.h0,z.z0.trans F,z.new] (ah.consS ?_ ?_))
   . show D.perm ?_;have ec:cel (Z.g++[a]) (x.2.mu++[!p])=cel Z.g x.2.mu++[(!(.ref a),!(Zs p))]:=by unfold cel;rw[eD,eD,lK ∅];rfl
     show Perm (cel (Z.g++[a]) (x.2.mu++[!p])++_) _;rw[ec,eK];show gx
   . show#[a,O,by show (Z.g++[a])[-x.2.mu]?=!a;rw[hg,hY ()];simp]
 . cases h2
noncomputable def openV (i:Nat) (Y:Ev):Option Ev:=match Y.vs[i]? with
 |some (!(Zp (ZA n)))=>match Y.mu[n]? with
  |some (!p)=>!#[Y.vs.set i (!(Zs p)),Y.mu.set n J]
  |_=>J
 |_=>J
def Bw(i:Nat)(f:SF):SF:=λY=>(f Y).bind λfl=>match fl with
 |.nx Y'=>(openV i Y').map .nx
 |_=>J
set_option tactic.hygienic true in
theorem SR.openV(s:SR K H0 Z0 U H Y pd)(h:PL.openV i Y=!Y'):SR K H0 Z0 U H Y' pd:=by
 unfold PL.openV at h;split at h
 . rename_i n en;split at h
   . rename_i p W;let(v,D,N):=s.var en;let(a,rfl,z):=N.cellO W;let F:=SR.sub z ((f7 _ _).cons_cons _);let hi:=(fr.mp en).1;let j:=F.store (by show i< -(Y.vs.set i _);rw[rV];show hi);rw[k7 D]at j
     have q:SR K H0 Z0 U H #[(Y.vs.set i (!(Zp (ZA n)))).set i (!(Zs p)),Y.mu.set n J] pd:=j;grind
   . cases h
 . cases h
def QJ{st:Stmt}(h:PS X st (iw X.K f)):PS X st (iw X.K (Bw i f)):=PS.imp h λD U H q=>by
 let(H0,Z0,Y,pd,fl,s,h,k):=q;let(y,h1,h2):=b_ h;cases y with
 |nx Y'=>
  let(Y2,z,rfl):=d4 h2;show#[H0,Z0,Y,pd,.nx Y',s,h1,λj H' s'=>k j H' (s'.openV z)]
 |rt r Y'=>cases h2
 |bk Y'=>cases h2
 |ct Y'=>cases h2
def mF(f:EF)(lo hi:OF):EF:=λY=>(f Y).bind λx=>(lo x.2).bind λy=>(hi y.2).bind λz=>match x.1.pv with
 |R ps=>!(Zs (R (rm ps y.1 z.1)),z.2)
 |ZH t=>if -t<=100000 then !(Zp (ZH (lY t y.1 z.1)),z.2) else J
 |_=>J
def rB{lo hi:Option Expr}(he:PE X e (tP X.K f))(hl:PO X lo (Fw X.K fl))(hu:PO X hi (Fw X.K fh)):PE X (.Subscript e (.Slice lo hi J p2) pos) (tP X.K (mF f fl fh)):=PE.imp (KR (Z6.or M0) he hl hu) λU H Q q=>by
 let(H0,Z0,Y,pd,r,Y',s,h,k):=q;let(x,h1,h2):=b_ h;let(y,h3,h4):=b_ h2;let(z,h5,D):=b_ h4;show#[H0,Z0,Y,pd,x.1,x.2,s,h1,λv H1 s1=>#[H0,Z0,x.2,_,y.1,y.2,s1.freeze,h3,λH2 s2=>#[H0,Z0,y.2,_,z.1,z.2,s2,h5,λH3 i=>?_]]];cases e:x.1.pv with
 |lst ps=>
  rw[e]at D i;cases D;let(W,Z,hg,N,F,s4):=i.sh;let(a,vs,rfl,g1,g2):=F;show Zl #[a,vs,O,bY.same N.zh g1,λp hp=>k _ _ ?_];let(z',s'):=s4.new (p:=R (rm ps y.1 z.1)) N hp #[_,bZ,g2.cut];show .mk W hg z' s'
 |str t=>
  rw[e]at D i;have j:(if -t<=100000 then !(Lc.sh (ZH (lY t y.1 z.1)),z.2) else J)=!(r,Y'):=D;split at j
  . rename_i hz;cases j;let(_,F):=i.repH;show YY #[t,F,fL hz,k _ H3 (i.pop.scal pq)]
  . grind
 |_=>grind
def SR.popO(s:SR K H0 Z0 U H Y ((.ref a,Zs (R ws))::pd))(hp:ws[-ws-1]?=!p):
 ∃i y,H a=!(.lst i)/\i[-i-1]?=!y/\SR K H0 Z0 U (aI H a (.lst i.dropLast)) Y ((.ref a,Zs (R ws.dropLast))::(y,Zp p)::pd):=by
 let(N,Z,hg,z,F):=s.top;let(b,eb,(i,hu,j),_):=F.1 _ cS;cases eb;let(y,hy,Q):=j.get hp;let D:=-j;show#[i,y,hu,by rw[D];show hy,?_];have W:aK K Z ws.dropLast i.dropLast:=by rw[dropLast_eq_take,dropLast_eq_take,D];show j.take _
 let(z',s'):=F.write (q:=R ws.dropLast) z #[i.dropLast,bZ,W];let s2:=(s'.consS Q).perm (ga (!y,!(Lc.sh p)) (!(V.ref a),!(Lc.own (R ws.dropLast))) _);show .mk N hg z' (s2.perm (dD.cons _))
def QK(K:FG):V->List V->Hp->VK->Prop:=λx vs H Q=>∃g p qs w,vs=[w]/\bP K #[H,g] p w/\bP K #[H,g] (R qs) x/\tR (dH 150) p qs=!G/\-qs<=100000/\Q (.int (qs.findIdx λq=>(dH 150 q p).getD M)) H
def XF(hr:qM k X.A):PP X "list.index" (QK X.K):=by
 intro ae s U H x W v us Q I rx rv h;let(g,p,D,w,rfl,rp,rq,e,hz,q):=h;have hA:X.A.in1.units+150<cLine:=by have:=hr.un;show X.A.units+1+150<cLine;lia
 let(u,rfl,ru):=rv.one;let(i1,i2):=G6 e;let(a,W,i,rfl,q1,l1,j,t1):=Ag I rq rx;have hl:-i=-D:=by rw[<-(-j),l1.length]
 let xi:=any_eq_true.mp i2.symm;let hj:=findIdx_lt_length.mpr xi;have z:∀m (N:m< ~~~i.toArray),e7 X.K #[H,g] p D W i i.toArray[m]=(dH 150 (D[m]'(by rw[gL]at N;lia)) p).getD M:=λm N=>by
  have hm':m< -i:=by simpa using N
  show Du (xv:=w) (xu:=u) I l1 j i1 (ge ()) (by simp)
 let((oc,od,oD,os),ht,hc,n,hd):=t1;let se:= hc;let Sr:=hd;subst se Sr;show call_meets F.slot_list_index #[_,ht,O] F.entry_list_index (F.args_list_index_2 _ _) (SeqAt.list_indexAt a i.toArray n od os u (e7 X.K #[H,g] p D W i) (D.findIdx λq=>(dH 150 q p).getD M) ∅ () ?_ ?_) #[ht,Dv I rp ru l1 j i1 hA,?_]
 . rw[z];show findIdx_getElem (w:=hj)
 . intro m N jf;rw[z];have:=not_of_lt_findIdx jf;simpa using this
 . show#[.int _,H,I.tok _,#[_,O],q]
def MF(f g:EF):EF:=λY=>(f Y).bind λx=>(g x.2).bind λy=>match x.1.pv with
 |R qs=>if tR (dH 150) y.1.pv qs=!G/\-qs<=100000 then !(Zp (ZI (qs.findIdx λq=>(dH 150 q y.1.pv).getD M)),y.2) else J
 |_=>J
def Sz(h:PE X (.Call (.Attribute o "index" apos) [e] [] cpos) (KZ X.K "list" (QK X.K) (tP X.K f) (jR X.K (aj g ao)))):PE X (.Call (.Attribute o "index" apos) [e] [] cpos) (tP X.K (MF f g)):=PE.imp h λU H Q q=>by
 let(H0,Z0,Y,pd,r,Y',s,h,k):=q;let(x,h1,h2):=b_ h;let(y,h3,D):=b_ h2;show#[H0,Z0,Y,pd,x.1,x.2,s,h1,λv H1 s1=>?_];let j:=s1.freeze;cases e:x.1.pv with
 |lst z=>
  rw[e]at D j;have i:(if tR (dH 150) y.1.pv z=!G/\-z<=100000 then !(Lc.sh (ZI (z.findIdx λq=>(dH 150 q y.1.pv).getD M)),y.2) else J)=!(r,Y'):=D;split at i
  . rename_i N;cases i;let(_,r1):=j.repH;let F:=r1;let(a,us,rfl,hq,_):=F;show#[Zl #[O,us,hq],H0,Z0,x.2,_,[y.1],y.2,j,?_,λvs H2 e2 s2=>?_]
    . unfold aj ao;grind
    . let(w,rfl):=yZ e2;let W:=SR.freeze s2;let(g,ra,rb):=W.rep2H;show#[g,y.1.pv,z,w,O,rb,ra,N.1,N.2,k _ H2 (W.pop.pop.scal gF)]
  . cases i
 |_=>grind
def ue(ps:List PV):List PV:=ps.zipIdx.map λx=>ZB [ZI (x.2:Nat),x.1]
def Vl{i:Nat}:(ue ps)[i]?=ps[i]?.map λp=>.tup [.int (i:Nat),p]:=by unfold ue;rw[eL,getElem?_zipIdx];cases ps[i]?<;>simp
def Vm:-(ue ps)=-ps:=by unfold ue;simp
def Vn:qX K H0 Z0 ((.ref a,Zp (R ps))::pd) (wn K a) (ue ps):=by intro U H Y i s;let(W,Z,hg,z,r,so):=s.sh;let r0:=r;let(b,j,e,h1,h2):=r;cases e;let D:=bY.same z.zh h1;show#[λx F=>?_,λhl=>#[j,D,by rw[h2.length];rw[Vm]at hl;lia]];rw[Vl]at F;let(p,hp,rfl):=d4 F;let(v,Q,rv):=h2.get hp;show#[#[j,v,D,Q],λv' H' y=>?_];let(T,y,hT,rfl,rfl,hy):=y;let N:=hy j D;rw[Q]at N;cases N;let(z',lz,q):=(so.consS r0).newF z hT;show .mk (Z:=Z.put T (.tup [.int (i:Nat),v])) W hg z' (ah.perm (ah.consS q ?_) (dD.cons _));show#[T,[.int (i:Nat),v],O,Zl (Zl (by show aI Z.z T _ T=_;rw[bZ])),aK.cons (gF _) (aK.cons (rv.mono lz) .nil)]
def uU(f:EF):IF:=λY=>(f Y).bind λx=>match x.1.pv with
 |R ps=>!(ue ps,x.2)
 |_=>J
def Bx{gp:List Expr}{x1}(hg:Gl X "enumerate")(hm:X.mg "enumerate"=J)(W:PA X [a] (jR X.K (aj f ao)))(hs:starEach [a] X.env=[(M,eval a X.env)]:=by rfl):PI X (.Tuple gp x1 tpos) (.Call (.Name "enumerate" p) [a] [] pos) (Iz X.K (uU f)):=PI.imp (M_ hg hm W hs) λU H ZN q=>by
 let(H0,Z0,Y,pd,xs,Y',s,h,k):=q;let(x,h1,h2):=b_ h;show#[H0,Z0,Y,pd,[x.1],x.2,s,?_,λvs H1 F N=>?_]
 . unfold aj ao;grind
 . let(v,rfl):=yZ F;let i:=SR.freeze N;cases e:x.1.pv with
   |lst ps=>
    rw[e]at h2 i;cases h2;let(Z,z,r):=i.rep;let(b,Q,rfl,j,D):=r;show#[b,O,#[Q,bY.same z j],k _ _ _ i Vn (f7 _ _)]
   |_=>grind
abbrev PD:=List (d3×PV)
noncomputable def iG:PD->d3->Option PV
 |[],_=>J
 |kv::r,k=>if kv.1=k then !kv.2 else iG r k
noncomputable def vN (k:d3) (v:PV):PD->PD
 |[]=>[]
 |kv::r=>(if kv.1=k then (kv.1,v) else kv)::vN k v r
def uV(l:PD)(k:d3)(v:PV):PD:=match iG l k with
 |some _=>vN k v l
 |none=>l++[(k,v)]
def MJ:PV->Option d3
 |ZI i=>!(.inl i)
 |ZH x=>!(.inr x)
 |_=>J
def nG(l:PD):PV:=.dk (l.map (·.1)) (l.map (·.2))
def jA(K:FG)(Z:ZG):PD->List (d3×V)->Prop:=Paired λp q=>p.1=q.1/\bP K Z p.2 q.2
section
variable {K:FG}{Z Z':ZG}
theorem uB:∀{i:List (d3×V)}{ks:List d3}{ps:List PV},i.map (·.1)=ks->aK K Z ps (i.map (·.2))->jA K Z (ks.zip ps) i
 |[],ks,ps=>λh1 h2=>by subst h1;show .nil
 |F::r,ks,ps=>λh1 h2=>by
  subst h1;cases ps with
  |nil=>have:=h2.inv0;grind
  |cons p ps=>
   let(v,N,e,j,z):=h2.inv;injection e with D q;subst D q;show .cons #[O,j] (uB O z)
theorem jA.keys:∀{l:PD}{i:List (d3×V)},jA K Z l i->i.map (·.1)=l.map (·.1)
 |_,_,.nil=>rfl
 |_,_,.cons h t=>by rw[fF,fF,h.1,jA.keys t]
theorem jA.vals:∀{l:PD}{i:List (d3×V)},jA K Z l i->aK K Z (l.map (·.2)) (i.map (·.2))
 |_,_,.nil=>.nil
 |_,_,.cons h t=>aK.cons h.2 (jA.vals t)
theorem jA.val:∀{l:PD}{i:List (d3×V)},jA K Z l i->(∀p,iG l k=!p->∃v,qP i k=!v/\bP K Z p v)/\(iG l k=J->qP i k=J)
 |_,_,.nil=>#[λp h=>(by cases h),λ_=>O]
 |p::l,q::i,.cons h t=>by
  let D:=jA.val (k:=k) t;by_cases e:p.1=k
  . have j:q.1=k:=by rw[<-h.1];show e
    show#[λx z=>#[q.2,xW j,?_],λz=>?_]
    . unfold iG at z;grind
    . unfold iG at z;grind
  . have j:¬ q.1=k:=by rw[<-h.1];show e
    rw[xX j];unfold iG;grind
theorem jA.repl(r:bP K Z p v):∀{l:PD}{i:List (d3×V)},jA K Z l i->jA K Z (vN k p l) (i.map λj=>if j.1=k then (j.1,v) else j)
 |_,_,.nil=>.nil
 |a::l,b::i,.cons h t=>by
  show .cons ?_ (jA.repl r t);by_cases e:a.1=k
  . have q:b.1=k:=by rw[<-h.1];show e
    grind
  . have q:¬ b.1=k:=by rw[<-h.1];show e
    grind
theorem jA.app:∀{l q:PD}{j i:List (d3×V)},jA K Z l j->jA K Z q i->jA K Z (l++q) (j++i)
 |_,_,_,_,.nil=>λh=>h
 |_,_,_,_,.cons a t=>λh=>.cons a (jA.app t h)
def jA.put(h:jA K Z l ay)(r:bP K Z p v):jA K Z (uV l k p) (e6 ay k v):=by
 let z:=h.val (k:=k);unfold uV;cases e:iG l k with
 |none=>
  rw[WF v (z.2 e)];show h.app (.cons #[O,r] .nil)
 |some q=>
  let(u,F,_):=z.1 q e;have D:e6 ay k v=ay.map λj=>if j.1=k then (j.1,v) else j:=by unfold e6;rw[xY,F];rfl
  rw[D];show h.repl r
def G9(h:MJ p=!k)(r:bP K Z p v):v=kV k:=by
 cases p with
 |int i=>cases h;show cF r
 |str x=>cases h;show dN r
 |_=>cases h
end
def xt(fa fb:EF):EF:=λY=>(fa Y).bind λx=>(fb x.2).bind λy=>match x.1.pv with
 |.dk ks ps=>(MJ y.1.pv).bind λk=>(iG (ks.zip ps) k).map λp=>(Zp p,y.2)
 |.df ks ps=>(MJ y.1.pv).bind λk=>(iG (ks.zip ps) k).map λp=>(Zp p,y.2)
 |_=>aJ (λ_=>!x) (λ_=>!y) Y
set_option tactic.hygienic true in
def SA(hy:y.2=Y)(q:SR X.K H0 Z0 U H Y ((w,Zp y.1.pv)::(v,Zp x.1.pv)::pd))(h:aJ (λ_=>!x) (λ_=>!y) Y0=!(l,Y'))(k:∀u H',SR X.K H0 Z0 U H' Y' ((u,l)::pd)->Q u H'):vT X.K v w H Q:=by
 unfold aJ at h;rw[c9,c9]at h;subst hy;split at h
 . rename_i n kk en ek;split at h
   . rename_i ws W;let(p,N,F):=d4 h;rw[en,ek]at q;let(_,D):=q.repH;let ew:=cF D;let(a,rfl,s5):=q.pop.cellO W;let(el,Z,hg,z,i):=s5.top;let(_,ea,(us,hu,hr),_):=i.1 _ cS;cases ea;let(j,e1,e2):=Bt N (-hr);let(u,e3,e4):=hr.get e1;show Zl #[a,us,kk,u,O,ew,bY.of hu,e2 u e3,k u H ?_];have s6:SR X.K H0 Z0 U H #[y.2.vs,y.2.mu.set n J] ((u,Zp p)::(.ref a,Zs (R ws))::(.ref a,Zp (ZA n))::pd):=.mk el hg z ((i.perm dD).consS e4);let s7:=s6.perm (((List.Perm.swap _ _ _).cons _).trans (List.Perm.swap _ _ _));let s8:=s7.cellP (by show (y.2.mu.set n J)[n]?=_;rw[kt ((fr.mp W).1)]);have e8:(y.2.mu.set n J).set n (!(R ws))=y.2.mu:=by rw[nK];show k7 W
     grind
   . cases h
 . let(l',N,F):=d4 h;cases F;show Ve H0 Z0 U y.2 pd H v w x.1.pv y.1.pv _ Q q N k
set_option tactic.hygienic true in
def SG(hu:X.A.units+1<cLine)(ha:PE X a (tP X.K fa))(hb:PE X b (tP X.K fb))(hm:Bh b):PE X (.Subscript a b pos) (tP X.K (xt fa fb)):=PE.imp (RX (Ub.or (Nc hu)) ha hb hm) λU H Q q=>by
 let(H0,Z0,Y,pd,l,Y',s,f,k):=q;let(x,h1,h2):=b_ f;let(y,h3,h4):=b_ h2;show#[H0,Z0,Y,pd,x.1,x.2,s,h1,λv H1 s1=>#[H0,Z0,x.2,_,y.1,y.2,s1,h3,λw H2 s2=>?_]];let s3:=s2.freeze.swap.freeze.swap;split at h4
 . rename_i ks ps en;let(kk,h5,h6):=b_ h4;let(p,h7,h8):=d4 h6;cases h8;let(_,F):=s3.repH;let ew:=G9 h5 F;let i:=s3.pop;rw[en]at i;let(Z,z,r):=i.rep;let(b',D,rfl,g1,g2,g3):=r;let(u,N,ru):=(uB g2 g3).val.1 p h7;let e1:=z _ _ g1;show YY #[b',u,O,Zl #[D,kk,Zl e1,ew,N.symm],k u H2 ?_];show(i.part λZ' z' r'=>?_).sub ((f7 _ _).cons_cons _);let(b2,kvs2,eb,j,W,xw):=r';cases eb;let e2:=z' _ _ j;let(u2,SH,SI):=(uB W xw).val.1 p h7;grind
 . rename_i ks ps en;let(kk,h5,h6):=b_ h4;let(p,h7,h8):=d4 h6;cases h8;let(_,F):=s3.repH;let ew:=G9 h5 F;let i:=s3.pop;rw[en]at i;let(Z,z,r):=i.rep;let(b',ob,D,rfl,g1,g2,g3):=r;let(u,N,ru):=(uB g2 g3).val.1 p h7;let e1:=z _ _ g1;show YY #[b',u,O,Zl #[D,kk,YY #[ob,e1],ew,N.symm],k u H2 ?_];show(i.part λZ' z' r'=>?_).sub ((f7 _ _).cons_cons _);let(b2,ob2,kvs2,eb,j,W,xw):=r';cases eb;let e2:=z' _ _ j;rw[e1]at e2;let(u2,SH,SI):=(uB W xw).val.1 p h7;grind
 . show Zl (SA O s3 h4 k)
def SR.takeD(s:SR K H0 Z0 U H Y pd)(e:Y.vs[i]?=!(!(Zs (.dk ks ps)))):
 ∃a,U[i]?=!(!(.ref a))/\SR K H0 Z0 U H (Y.set i J) ((.ref a,Zs (.dk ks ps))::pd):=by
 let(v,D,q):=s.take e;let(_,Z,_,z,j):=q.top;let(a,F,_):=j.1 _ cS;grind
def SR.setD(s:SR K H0 Z0 U H Y ((v,Zp p)::(.ref a,Zs (.dk ks ps))::pd)):
 ∃i,H a=!(.dK i)/\-i=-ks/\SR K H0 Z0 U (aI H a (.dK (e6 i k v))) Y ((.ref a,Zs (nG (uV (ks.zip ps) k p)))::pd):=by
 let(D,Z,N,z,r,F):=s.sh;let j:=F.perm dD.symm;let(_,eb,(i,hu,hk,W),_):=j.1 _ cS;cases eb;show#[i,hu,by rw[<-hk,da],?_];let d:=(uB hk W).put (k:=k) r;let(Q,s'):=j.write (q:=nG (uV (ks.zip ps) k p)) z #[e6 i k v,bZ,d.keys,d.vals];show .mk D N Q s'
def FJ(i:Nat)(fi fv:EF):SF:=λY=>(fv Y).bind λx=>match x.2.vs[i]? with
 |some (!(Zs (.dk _ _)))=>(fi x.2).bind λy=>match MJ y.1.pv,y.2.vs[i]? with
  |some k,!(!(Zs (.dk ks ps)))=>if -ks<100000 then !(.nx (y.2.set i (!(Zs (nG (uV (ks.zip ps) k x.1.pv)))))) else J
  |_,_=>J
 |_=>J
set_option tactic.hygienic true in
def SK(h:PS X (.Assign [.Subscript o ix tpos] e pos) (Rz (tP X.K fv) (Wk (uH i) (tP X.K fi) Y6))):PS X (.Assign [.Subscript o ix tpos] e pos) (iw X.K (FJ i fi fv)):=PS.imp h λD U H q=>by
 let(H0,Z0,Y,pd,fl,s,h,k):=q;let(x,h1,h2):=b_ h;show#[H0,Z0,Y,pd,x.1,x.2,s,h1,λv H1 s1=>?_];split at h2
 . rename_i SO SU e0;let(y,h3,z):=b_ h2;let(a,Q,_):=s1.takeD e0;show#[.ref a,Q,H0,Z0,x.2,_,y.1,y.2,s1.freeze,h3,λw H2 W=>?_];split at z
   . rename_i kk ks ps ek e3;split at z
     . cases z;let(_,N):=W.freeze.repH;let ew:=G9 ek N;let(a',j,s3):=W.pop.takeD e3;rw[Q]at j;cases j;let(F,hu,hl,s4):=s3.swap.setD;show#[a,_,O,Zl #[F,kk,hu,ew,by rw[hl,hG];lia,O],k U _ ?_];let s5:=s4.put Q;rw[Ev.set_set]at s5;show s5
     . cases z
   . cases z
 . cases h2
def ou(fo fv:EF):SF:=λY=>(fo Y).bind λo=>match o.1.pv with
 |ZA n=>match o.2.mu[n]? with
  |some (!(R _))=>(fv o.2).bind λy=>match y.2.mu[n]? with
   |some (!(R ws))=>if -ws<100000 then !(.nx #[y.2.vs,y.2.mu.set n (!(R (ws++[y.1.pv])))]) else J
   |_=>J
  |_=>J
 |_=>J
set_option tactic.hygienic true in
def By(h:PS X (.Expr (.Call (.Attribute o "append" apos) [e] [] cpos) pos) (J3 (KZ X.K "list" GP (tP X.K fo) (jR X.K (aj fv ao))))):
 PS X (.Expr (.Call (.Attribute o "append" apos) [e] [] cpos) pos) (iw X.K (ou fo fv)):=PS.imp h λD U H q=>by
 let(H0,Z0,Y,pd,fl,s,h,k):=q;let(o',h1,h2):=b_ h;show#[H0,Z0,Y,pd,o'.1,o'.2,s,h1,λv H1 s1=>?_];split at h2
 . rename_i n en;split at h2
   . rename_i ws0 F;let(y,h3,i):=b_ h2;let Q:=s1.freeze;rw[en]at Q;let(a,rfl,s5):=Q.cellO F;let(_,Z,_,z,so):=s5.top;let(_,ea,(us,hu,_),_):=so.1 _ cS;cases ea;show#[Zl #[O,us,bY.of hu],H0,Z0,o'.2,_,[y.1],y.2,Q,?_,λvs H2 e2 sv=>?_]
     . unfold aj ao;grind
     . let(v1,rfl):=yZ e2;split at i
       . rename_i ws em;split at i
         . cases i;let s3:=SR.freeze sv;let(a',W,s6):=s3.swap.cellO em;cases W;let s7:=s6.perm ((ga _ _ _).trans ((ga _ _ _).cons _));let(j,N,hl,s8):=s7.pushO;let hn:=(fr.mp em).1;let s9:=s8.cellP ∅;show#[a,j,v1,O,O,N,by rw[hl,hG];lia,k U _ ?_];have s10:SR X.K H0 Z0 U (aI H2 a (.lst (j++[v1]))) #[y.2.vs,(y.2.mu.set n J).set n (!(R (ws++[y.1.pv])))] pd:=s9;grind
         . cases i
       . cases i
   . cases h2
 . cases h2
def Y4_:List (V×V)->List V
 |[]=>[]
 |p::r=>p.1::p.2::Y4_ r
def keysOf:List (Lc×Lc)->Option PD
 |[]=>![]
 |p::r=>(MJ p.1.pv).bind λk=>(keysOf r).map λl=>(k,p.2.pv)::l
def Vo:EF:=λY=>!(Zs (.dk [] []),Y)
def SV:PE X (.Dict [] [] pos) (tP X.K Vo):=PE.imp WM λU H Q q=>by let(H0,Z0,Y,pd,l,Y',s,f,k):=q;cases f;show λp j=>k _ _ (s.newO j λZ _ _=>#[[],bZ,O,.nil])
def oO(f:EF):EF:=λY=>(f Y).bind λx=>match x.1.pv with
 |ZA n=>match x.2.mu[n]? with
  |some (!(R ws))=>!(Zp (ZI (-ws:Nat)),x.2)
  |_=>J
 |p=>(C2 p).map λl=>(l,x.2)
set_option tactic.hygienic true in
def XH(h:PE X (.Call (.Name x p) [e] [] pos) (zN (λxs H Q=>∃x n,xs=[x]/\Wq X.K x H n/\Q (.int n) H) (jR X.K (aj f ao)))):PE X (.Call (.Name x p) [e] [] pos) (tP X.K (oO f)):=PE.imp h λU H Q q=>by
 let(H0,Z0,Y,pd,l,Y',s,N,k):=q;let(y,h1,h2):=b_ N;show#[H0,Z0,Y,pd,[y.1],y.2,s,?_,λvs H1 D F=>?_]
 . unfold aj ao;grind
 . let(v,rfl):=yZ D;let i:=SR.freeze F;split at h2
   . rename_i n en;split at h2
     . rename_i ws j;cases h2;rw[en]at i;let(a,rfl,s5):=i.cellO j;let(_,Z,_,z,so):=s5.top;let(_,ea,(W,hu,hr),_):=so.1 _ cS;cases ea;show#[.ref a,-ws,O,Zl #[W,bY.of hu,hr.length.symm],k _ H1 (i.pop.scal gF)]
     . cases h2
   . let(l',h3,h4):=d4 h2;cases h4;show Vf H0 Z0 U y.2 pd H1 [v] [y.1.pv] _ Q O i h3 k
end
open PySem.SeqAt
section
variable {X:Cx}
def uW(ps qs:List PV):List PV:=zipWith (λp q=>ZB [p,q]) ps qs
def XJ{i:Nat}(h:(uW ps qs)[i]?=!x):∃p q,ps[i]?=!p/\qs[i]?=!q/\x=ZB [p,q]:=by
 unfold uW at h;rw[getElem?_zipWith]at h;cases h1:ps[i]? with
 |none=>grind
 |some p=>
  cases h2:qs[i]? with
  |none=>grind
  |some q=>grind
def XM:-(uW ps qs)=min (-ps) (-qs):=by unfold uW;simp
def XN:qX K H0 Z0 ((.ref a,Zp (R ps))::(.ref b,Zp (R qs))::pd) (Y7 K a b) (uW ps qs):=by
 intro U H Y i s;show ym λZT kG=>?_;let(el,Z,hg,z,rl,so):=SR.repl (vs:=[.ref a,.ref b]) (ls:=[Zp (R ps),Zp (R qs)]) s O;let(_,_,ev,r,rl):=rl;cases ev;let(_,_,ev,r',_):=rl;cases ev;let r0:=r;let W:=r';let(a',D,e,h1,h2):=r;let(b',ws,e',Q,j):=r';cases e;cases e';let N:=bY.same z.zh h1;let F:=bY.same z.zh Q;show kG #[λx hx=>?_,λhl=>#[D,ws,N,F,?_]]
 . show ym λZT kG=>?_;let(p,q,hp,SW,rfl):=XJ hx;let(v,hv,rv):=h2.get hp;let(u,hu,ru):=j.get SW;show kG #[#[D,ws,v,u,N,F,hv,hu],λv' H' y=>?_];let(T,y1,y2,hT,rfl,rfl,SY,S0):=y;let e1:=SY D N;rw[hv]at e1;cases e1;let e2:=S0 ws F;rw[hu]at e2;cases e2;let(z',lz,m_):=((so.consS W).consS r0).newF z hT;show .mk (Z:=Z.put T (.tup [v,u])) el hg z' (ah.perm (ah.consS m_ ?_) ((dD.trans (dD.cons _)).cons _));show#[T,[v,u],O,Zl (Zl (by show aI Z.z T _ T=_;rw[bZ])),aK.cons (rv.mono lz) (aK.cons (ru.mono lz) .nil)]
 . rw[XM]at hl;rw[h2.length,j.length];lia
def Km(f g:EF):IF:=λY=>(f Y).bind λx=>(g x.2).bind λy=>match x.1.pv,y.1.pv with
 |R ps,R qs=>!(uW ps qs,y.2)
 |_,_=>J
theorem S1{α:Type}{w r:α}(h:(match p,q with
 |R ps,R i=>!(uW ps i,w)
 | _,_=>J)=!(zs,r)):∃ps i,p=R ps/\q=R i/\zs=uW ps i/\w=r:=by
 split at h
 . grind
 . cases h
def S4{p pos:Pos}{gp:List Expr}{x1}{tpos:Pos}(hg:Gl X "zip")(hm:X.mg "zip"=J)(ha:PA X [a,b] (jR X.K (aj f (aj g ao))))(hs:starEach [a,b] X.env=(M,eval a X.env)::starEach [b] X.env:=by rfl)(D:(backTo pos (starEach [b] X.env)).any (·.1)=M:=by rfl):PI X (.Tuple gp x1 tpos) (.Call (.Name "zip" p) [a,b] [] pos) (Iz X.K (Km f g)):=PI.imp (NA hg hm ha hs D) λU H ZN q=>by
 let(H0,Z0,Y,pd,xs,Y',s,h,k):=q;let(x,h1,h2):=b_ h;let(y,h3,h4):=b_ h2;show#[H0,Z0,Y,pd,[x.1,y.1],y.2,s,?_,λvs H1 W s1=>?_]
 . unfold aj ao;grind
 . show ym λZT kG=>?_;let(v,u,rfl):=qk W;have j:SR X.K H0 Z0 U H1 y.2 ((v,Zp x.1.pv)::(u,Zp y.1.pv)::pd):=SR.freezeAll s1;let(ps,qs,e,N,rfl,rfl):=S1 h4;rw[e,N]at j;let(Z,z,r,r'):=j.rep2;let(F,us,rfl,i,g2'):=r;let(a',Q,rfl,g1,g2):=r';show kG #[a',F,O,#[_,bY.same z g1],#[_,bY.same z i],k _ _ _ j XN ((f7 _ _).cons _)]
end
end PL
namespace L2
open PL.PV renaming lst→R,int→ZI,str→ZH,tup→ZB,ptr→ZA
open PL.Lc renaming own→Zs,sh→Zp
open PySem PySem.Spec PyProof.Rows
variable {ae:List (Addr×Obj)}{E:Value->Shared->Prop}{s:Shared}{A:Around}{w:World}{P:Program}
end L2
namespace PL
open PL.PV renaming lst→R,int→ZI,str→ZH,tup→ZB,ptr→ZA
open PL.Lc renaming own→Zs,sh→Zp
open PySem PySem.Spec PyProof.Rows L2
variable {K:FG}{H0 H:Hp}{Z0:ZG}{U:L2.St}{Y:Ev}{pd:Pd}
def wN(a b:Str):Prop:=ltCps b.cps.toList a.cps.toList=M
def mZ:wN a b ↔ a.cps.toList<=b.cps.toList:=by unfold wN;rw[ltCps_eq,decide_eq_false_iff_not];show Iff.rfl
theorem Ak:∀(p:Str)(l:List Str),risingS p l=G->(p::l).Pairwise wN
 |p,[]=>λ_=>by simp
 |p,x::r=>λh=>by
  have h':(not (ltCps x.cps.toList p.cps.toList)&&risingS x r)=G:=h;simp only[iF,Bool.not_eq_true']at h';let j:=Ak x r h'.2;let q:=h'.1;show pairwise_cons.mpr #[λy i=>?_,j];obtain rfl|i:=bh.mp i
  . show q
  . show mZ.mpr (List.le_trans (mZ.mp q) (mZ.mp (rel_of_pairwise_cons j i)))
theorem Vp:∀{l:List Str},sortedS l=G->l.Pairwise wN
 |[]=>λ_=>.nil
 |x::r=>λh=>Ak x r h
def S_{a b:Str}(h:a.cps.toList=b.cps.toList):a=b:=by obtain⟨⟨b⟩⟩:=b;cases h;rfl
def Vq{a b:List Str}(p:a.Perm b)(i:a.Pairwise wN)(j:b.Pairwise wN):a=b:=
 Perm.eq_of_pairwise (λx y _ _ h1 h2=>S_ (List.le_antisymm (mZ.mp h1) (mZ.mp h2))) i j p
noncomputable def Dy (x:Str):List Str->List Str
 |[]=>[x]
 |y::l=>if ltCps x.cps.toList y.cps.toList then x::y::l else y::Dy x l
def pU:List Str->List Str
 |[]=>[]
 |x::l=>Dy x (pU l)
theorem Al:∀{l:List Str},(Dy x l).Perm (x::l)
 |[]=>.rfl
 |y::l=>by
  unfold Dy;split
  . grind
  . show(Al.cons y).trans (.swap _ _ _)
theorem QL:∀{l:List Str},l.Pairwise wN->(Dy x l).Pairwise wN
 |[]=>λ_=>by simp[Dy]
 |y::l=>λh=>by
  let(h1,h2):=pairwise_cons.mp h;unfold Dy;split
  . rename_i g;rw[ltCps_eq,decide_eq_true_eq]at g;let j:=mZ.mpr (List.le_of_lt g);show pairwise_cons.mpr #[λz i=>?_,h];obtain rfl|i:=bh.mp i
    . show j
    . show mZ.mpr (List.le_trans (mZ.mp j) (mZ.mp (h1 z i)))
  . rename_i g;show pairwise_cons.mpr #[λz i=>?_,QL h2];obtain rfl|i:=bh.mp (Al.mem_iff.mp i)
    . simpa [wN] using g
    . grind
theorem uf:∀{l:List Str},(pU l).Perm l
 |[]=>.rfl
 |x::l=>Al.trans (uf.cons x)
theorem MK:∀{l:List Str},(pU l).Pairwise wN
 |[]=>.nil
 |x::l=>QL MK
def XQ(p:t.Perm ss)(h:sortedS t=G):t=pU ss:=Vq (p.trans uf.symm) (Vp h) MK
def uX:List Str->List Str
 |[]=>[]
 |x::l=>if x∈l then uX l else x::uX l
theorem Am:∀{l:List Str},y∈uX l ↔ y∈l
 |[]=>Iff.rfl
 |x::l=>by
  unfold uX;split
  . rw[Am,bh];grind
  . rw[bh,bh,Am]
theorem Dz:∀{l:List Str},(uX l).Nodup
 |[]=>.nil
 |x::l=>by
  unfold uX;split
  . show Dz
  . rename_i h;show h_.mpr #[λq=>h (Am.mp q),Dz]
theorem FP:∀{a b:List Str},a.Nodup->b.Nodup->(∀y,y∈a ↔ y∈b)->a.Perm b
 |[],b=>λ_ _ h=>by
  have:b=[]:=eq_nil_iff_forall_not_mem.mpr λy i=>by have:=(h y).mpr i;cases this
  rw[this]
 |x::a,b=>λj D h=>by
  let(h1,h2):=h_.mp j;let z:=(h x).mp cS;let p:=perm_cons_erase z;show((FP h2 ∅ λy=>?_).cons x).trans p.symm;rw[D.mem_erase_iff];constructor
  . grind
  . rintro⟨n,i⟩;obtain e|q:=bh.mp ((h y).mpr i)
    . grind
    . show q
def XS(n:t.Nodup)(m:∀y,y∈t ↔ y∈ss)(h:sortedS t=G):t=pU (uX ss):=XQ (FP n Dz λy=>(m y).trans Am.symm) h
def BJ:List PV->Option (List Str)
 |[]=>![]
 |ZH x::ps=>(BJ ps).map (x::·)
 |_::_=>J
theorem Jd:∀{ps:List PV}{vs:List V}{i:List Str},BJ ps=!i->aK K Z ps vs->vs=i.map V.str
 |[],vs,i=>λh r=>by cases h;show r
 |p::ps,vs,i=>λh r=>by
  let(v,D,rfl,h1,h2):=r;cases p with
  |str x=>
   let(t,z,j):=d4 h;cases j;rw[Jd z h2];rw[h1];rfl
  |_=>cases h
theorem MN:∀{j:List Str},aK K Z (j.map PV.str) (j.map V.str)
 |[]=>by  rfl
 |x::j=>#[.str x,j.map V.str,O,by unfold bP;rfl,MN]
section
variable {X:Cx}
def yw(f:EF):EF:=λY=>(f Y).bind λx=>match x.1.pv with
 |R ps=>(BJ ps).bind λss=>if -ss<64 then !(Zs (R ((pU (uX ss)).map PV.str)),x.2) else J
 |_=>J
def Vr(h:PE X (.Call (.Name "sorted" p) [.Call (.Name "set" p') [e] [] pos'] [] pos) (zN (Ut X) (J5 (zN (BG X) (jR X.K (aj f ao))) KJ))):PE X (.Call (.Name "sorted" p) [.Call (.Name "set" p') [e] [] pos'] [] pos) (tP X.K (yw f)):=PE.imp h λU H Q q=>by
 let(H0,Z0,Y,pd,l,Y',s,h,k):=q;let(x,h1,h2):=b_ h;show#[H0,Z0,Y,pd,[x.1],x.2,s,?_,λvs H1 e1 s1=>?_]
 . unfold aj ao;grind
 . let(v,rfl):=yZ e1;let N:=SR.freeze s1;cases e:x.1.pv with
   |lst ps=>
    rw[e]at h2 N;let(i,g1,j):=b_ h2;split at j
    . rename_i hl;cases j;let(el,Z,hg,z,r,so):=N.sh;let(a,us,rfl,r1,r2):=r;let eu:=Jd g1 r2;subst eu;show#[a,i,O,bY.same z.zh r1,(),λb hb=>?_];let(z',lz,F):=so.newF z hb;show#[b,i,O,bZ,hl,λc W hc n m D=>k _ _ ?_];rw[XS n m D];let(z2,s3):=F.new (p:=R ((pU (uX i)).map PV.str)) z' hc #[_,bZ,MN];show .mk (Z:=Z.put b (.ext (Ld X.prog X.w b i))) el hg z2 s3
    . cases j
   |_=>grind
def FQ:List PV->Option (List Int)
 |[]=>![]
 |ZI x::ps=>(FQ ps).map (x::·)
 |_::_=>J
theorem Je:∀{ps:List PV}{vs:List V}{ns:List Int},FQ ps=!ns->aK K Z ps vs->vs=ns.map V.int
 |[],vs,ns=>λh r=>by cases h;show r
 |p::ps,vs,ns=>λh r=>by
  let(v,z,rfl,h1,h2):=r;cases p with
  |int x=>
   let(t,q,i):=d4 h;cases i;rw[Je q h2];rw[h1];rfl
  |_=>cases h
def XX:PV->Option Lc
 |R ps=>(FQ ps).bind λns=>if (ns.all λn=>decide (0<=n))&&decide (ns.sum<4611686018427387904) then !(Zp (ZI ns.sum)) else J
 |_=>J
abbrev DG:List PV->Option Lc:=λps=>match ps with |[p]=>XX p |_=>J
def Ta:lQ K (λxs H Q=>∃(p:Addr)(ns:List Int),xs=[.ref p]/\bY K H p (ns.map V.int)/\(∀n∈ns,0<=n)/\ ns.sum<4611686018427387904/\Q (.int ns.sum) H) DG:=lQ.one λH0 Z0 U Y pd H v p l Q s e k=>by
 let D:=s.pop;let(el,Z,W,z,r,N):=s.sh;cases p with
 |lst ps=>
  let(ns,h1,h2):=b_ e;split at h2
  . rename_i i;cases h2;simp only[iF,all_eq_true,decide_eq_true_eq]at i;let(a,vs,rfl,q,j):=r;let F:=Je h1 j;subst F;show#[a,ns,O,bY.same z.zh q,i.1,i.2,k _ _ (D.scal λZ=>gF _)]
  . cases h2
 |_=>cases e
def tf:List PV->Option (List d3)
 |[]=>![]
 |p::ps=>(MJ p).bind λk=>(tf ps).map (k::·)
theorem C_:∀{ps:List PV}{vs:List V}{ks:List d3},tf ps=!ks->aK K Z ps vs->vs=ks.map kV
 |[],vs,ks,h,r=>by cases h;show r
 |p::ps,vs,ks,h,r=>by let(v,r',rfl,h1,h2):=r;let(k,j,D):=b_ h;let(t,z,F):=d4 D;cases F;rw[G9 j h1,C_ z h2];rfl
def xy:EF:=λY=>!(Zs (.dt [] []),Y)
def Tb:PE X (.Dict [] [] pos) (tP X.K xy):=PE.imp MD λU H Q q=>by let(H0,Z0,Y,pd,l,Y',s,f,k):=q;cases f;show λp j=>k _ _ (s.newO j λZ _ _=>#[[],bZ,O,.nil])
def ah.know(h:ah K H0 Z H L)(j:jQ H0 Z0 Z H)(ha:H a=!(.tup vs)):jQ H0 Z0 (Z.put a (.tup vs)) H/\iu Z (Z.put a (.tup vs))/\ah K H0 (Z.put a (.tup vs)) H L:=by
 have sz:eY_ Z.z (aI Z.z a (.tup vs)):=λb u e=>by
  unfold aI;split
  . rename_i q;rw[q]at e;rw[<-ha,<-j.zh _ _ e]
  . show e
 have D:iu Z (Z.put a (.tup vs)):=#[sz,kQ _];show#[#[λb u e=>?_,j.h0,j.z0.trans D,λb u e=>?_],D,?_]
 . have e:aI Z.z a (.tup vs) b=!u:=e;unfold aI at e;split at e
   . grind
   . show j.zh b u e
 . have e:aI Z.z a (.tup vs) b=!u:=e;unfold aI at e;split at e
   . cases e;show YY (YY True.intro)
   . show j.new b u e
 . show h.step D λe he b hb=>?_;let(h1,h2,o',h3,h4):=jn h he hb;have F:b≠a:=λq=>by rw[q,ha]at h3;cases h3;show h4 True.intro
   show#[O,by show aI Z.z a _ b=J;rw[cV F];show h1]
def SR.ext(s:SR K H0 Z0 U H Y pd)(F:H l=J):SR K H0 Z0 U (aI H l o) Y pd:=by let(j,Z,D,z,q):=s;let(N,Q,i):=q.newF z F;show#[j,Z.put l o,D,N,i]
abbrev FD:=List (Str×PV)
noncomputable def sr:FD->Str->Option PV
 |[],_=>J
 |kv::r,k=>if kv.1=k then !kv.2 else sr r k
noncomputable def su (f:Str) (p:PV):FD->FD
 |[]=>[(f,p)]
 |kv::r=>if kv.1=f then (kv.1,p)::r else kv::su f p r
def gf(C:Str)(l:FD):PV:=.obj C (l.map (·.1)) (l.map (·.2))
def pW(K:FG)(Z:ZG):FD->List (Str×V)->Prop:=Paired λp q=>p.1=q.1/\bP K Z p.2 q.2
section
variable {K:FG}{Z Z':ZG}
theorem Ha:∀{i:List (Str×V)}{ks:List Str}{ps:List PV},i.map (·.1)=ks->aK K Z ps (i.map (·.2))->pW K Z (ks.zip ps) i
 |[],ks,ps=>λh1 h2=>by subst h1;show .nil
 |F::r,ks,ps=>λh1 h2=>by
  subst h1;cases ps with
  |nil=>have:=h2.inv0;grind
  |cons p ps=>
   let(v,N,e,j,z):=h2.inv;injection e with D q;subst D q;show .cons #[O,j] (Ha O z)
theorem pW.keys:∀{l:FD}{i:List (Str×V)},pW K Z l i->i.map (·.1)=l.map (·.1)
 |_,_,.nil=>rfl
 |_,_,.cons h t=>by rw[fF,fF,h.1,pW.keys t]
theorem pW.vals:∀{l:FD}{i:List (Str×V)},pW K Z l i->aK K Z (l.map (·.2)) (i.map (·.2))
 |_,_,.nil=>.nil
 |_,_,.cons h t=>aK.cons h.2 (pW.vals t)
theorem pW.look:∀{l:FD}{i:List (Str×V)},pW K Z l i->(∀p,sr l f=!p->∃v,i.lookup f=!v/\bP K Z p v)/\(sr l f=J->i.lookup f=J)
 |_,_,.nil=>#[λp h=>(by cases h),λ_=>O]
 |p::l,q::i,.cons h t=>by
  let Q:=pW.look (f:=f) t;have F:(q::i).lookup f=if f=q.1 then !q.2 else i.lookup f:=by
   let(N,W):=q;by_cases e:f=N
   . grind
   . grind
  rw[F];by_cases e:p.1=f
  . have j:f=q.1:=by rw[<-h.1];show e.symm
    rw[ax j];show#[λx D=>#[q.2,O,?_],λD=>?_]
    . unfold sr at D;grind
    . unfold sr at D;grind
  . have j:¬ f=q.1:=by rw[<-h.1];show λz=>e z.symm
    rw[a_ j];unfold sr;grind
theorem pW.put(r:bP K Z p v):∀{l:FD}{i:List (Str×V)},pW K Z l i->pW K Z (su f p l) (jz f v i)
 |_,_,.nil=>.cons #[O,r] .nil
 |a::l,b::i,.cons h t=>by
  unfold su jz;by_cases e:a.1=f
  . rw[ax e,ax ∅];show .cons #[h.1,r] t
  . rw[a_ e,a_ ∅];show .cons h (pW.put r t)
end
structure yx(K:FG)(mg:Str->Option Value)(C:Str)(c:Addr):Prop where
 cn:CN K C c
 cl:zJ K c
 mgC:mg C=!(.ref c)
def SJ(h:CN K C c)(g:CN K C d):c=d:=by have:(!(!(Value.ref c)))=!(!(YV d)):=h.symm.trans g;grind
def jB(C f:Str)(fo:EF):EF:=λY=>(fo Y).bind λx=>match x.1.pv with
 |ZA n=>match x.2.mu[n]? with
  |some (!(.obj D ks ps))=>if D=C then (sr (ks.zip ps) f).map λp=>(Zp p,x.2) else J
  |_=>J
 |_=>J
def SR.cellB{pd pe:Pd}(q:Y.mu[n]?=!(!p))(s:SR K H0 Z0 U H #[Y.vs,Y.mu.set n J] ((.ref a,Zs p)::(.ref a,Zp (ZA n))::pd)):SR K H0 Z0 U H Y pd:=by
 let F:=(fr.mp q).1;let D:=s.cellP ∅;have z:(Y.mu.set n J).set n (!p)=Y.mu:=by rw[nK];show k7 q
 grind
def SR.objAt(s:SR K H0 Z0 U H Y ((v,Zp (ZA n))::pd))(F:Y.mu[n]?=!(!(.obj C ks ps))):
 ∃a c dx fs,v=.ref a/\CN K C c/\H a=!(.ins c dx fs)/\fs.map (·.1)=ks/\(∀f p,sr (ks.zip ps) f=!p->∃u,fs.lookup f=!u/\SR K H0 Z0 U H Y ((u,Zp p)::(v,Zp (ZA n))::pd))/\∀f,sr (ks.zip ps) f=J->fs.lookup f=J:=by
 let i:=s.part λZ _ r=>r;let(a,rfl,Q):=i.cellO F;let(N,Z,W,z,q):=Q.top;let(_,ea,(c,dx,fs,cn,hu,hk,hr),_):=q.1 _ cS;cases ea;let D:=Ha hk hr;show#[a,c,dx,fs,O,cn,hu,hk,λf p j=>?_,λf j=>D.look.2 j];let(u,h1,h2):=D.look.1 p j;show#[u,h1,?_];have s6:SR K H0 Z0 U H #[Y.vs,Y.mu.set n J] ((u,Zp p)::(.ref a,Zs (.obj C ks ps))::(.ref a,Zp (ZA n))::(.ref a,Zp (ZA n))::pd):=.mk N W z ((q.perm dD).consS h2);let s7:=s6.perm (((ga _ _ _).cons _).trans (ga _ _ _));show SR.cellB (pe:=pd) F s7
set_option tactic.hygienic true in
def wg(T:yx X.K X.mg C c)(na:kW X.K c f)(F:PE X o (tP X.K fo))(hb:attributeBase o f X.env (eval o X.env)=eval o X.env:=by rfl):PE X (.Attribute o f pos) (tP X.K (jB C f fo)):=PE.imp (Lu F hb) λU H Q q=>by
 let(H0,Z0,Y,pd,l,Y',s,h,k):=q;let(x,h1,h2):=b_ h;show#[H0,Z0,Y,pd,x.1,x.2,s,h1,λv H1 N=>?_];split at h2
 . rename_i n en;split at h2
   . rename_i D ks ps i;split at h2
     . rename_i z;subst z;let(p,h3,W):=d4 h2;cases W;let j:=N.freeze;rw[en]at j;let(a,c',dx,fs,rfl,cn,hH,hk,hl,_):=j.objAt i;have:=SJ T.cn cn;subst this;let(u,h5,s6):=hl f p h3;show#[a,c,dx,fs,u,O,hH,T.cl,na,h5,k u H1 (s6.sub ((f7 _ _).cons_cons _))]
     . cases h2
   . cases h2
 . cases h2
def BP(C f:Str)(fo fv:EF):SF:=λY=>(fv Y).bind λy=>(fo y.2).bind λx=>match x.1.pv with
 |ZA n=>match x.2.mu[n]? with
  |some (!(.obj D ks ps))=>if D=C/\-ks<1000 then !(.nx #[x.2.vs,x.2.mu.set n (!(gf C (su f y.1.pv (ks.zip ps))))]) else J
  |_=>J
 |_=>J
set_option tactic.hygienic true in
def Hb(T:yx X.K X.mg C c)(na:kW X.K c f)(ho:PE X o (tP X.K fo))(hv:PE X value (tP X.K fv))(hs:swapsWith value (!(.Attribute o f pos')) pos.line X.env=pure M:=by rfl):PS X (.Assign [.Attribute o f pos'] value pos) (iw X.K (BP C f fo fv)):=PS.imp (Lv ho hv hs) λD U H q=>by
 let(H0,Z0,Y,pd,fl,s,h,k):=q;let(y,h1,h2):=b_ h;let(x,h3,i):=b_ h2;show#[H0,Z0,Y,pd,y.1,y.2,s,h1,λv H1 s1=>#[H0,Z0,y.2,_,x.1,x.2,s1.freeze,h3,λw H2 s2=>?_]];split at i
 . rename_i n en;split at i
   . rename_i F ks ps Q;split at i
     . rename_i N;let(N,hz):=N;subst N;cases i;let W:=s2.freeze;rw[en]at W;let(a,rfl,s5):=W.cellO Q;let s6:=s5.perm ((ga _ _ _).trans ((ga _ _ _).cons _));let(el,Z,hg,z,r,so):=s6.sh;let j:=so.perm dD.symm;let(_,eb,(c',dx,fs,cn,hu,hk,hr),_):=j.1 _ cS;cases eb;have:=SJ T.cn cn;subst this;let rf:=Ha hk hr;let rp:=rf.put (f:=f) r;have hlen:-fs=-ks:=by rw[<-hk,da]
       show#[a,c,dx,fs,O,hu,T.cl,na,(),k U _ ?_];let(z',s'):=j.write (q:=gf F (su f y.1.pv (ks.zip ps))) z #[c,dx,jz f v fs,cn,bZ,rp.keys,rp.vals];have s7:SR X.K H0 Z0 U (aI H2 a (.ins c dx (jz f v fs))) #[x.2.vs,x.2.mu.set n J] ((.ref a,Zs (gf F (su f y.1.pv (ks.zip ps))))::(.ref a,Zp (ZA n))::pd):=.mk el hg z' s';let hn:=(fr.mp Q).1;let s8:=s7.cellP ∅;grind
     . cases i
   . cases i
 . cases i
end
section
variable {P:Program}{w:World}{K:FG}{mg:Str->Option Value}{base:Heap}
def wO(K:FG)(c:Addr)(m qual:Str)(st:Stmt)(ps:List Str):Prop:=∃f fd,vD K m qual st f fd/\W.findIn K (YV c) m=!(!(YV f))/\W.isFn K (YV f)=G/\eP K fd ps []
def vO(P:Program)(w:World)(K:FG)(mg:Str->Option Value)(base:Heap)(c:Addr)(m:Str)(k:Nat)(ps:List Str)(sp:Sp):Prop:=∃f fd,oK P w K mg base qD k f fd ps sp/\kR K c m f/\eP K fd ps []
def vD.okQ{st:Stmt}(F:vD K x qual st f fd)(S:bz N ps (aG st))
 (h:∀(j:Value)(A:Around)(i:List PySem.Env)(s:Shared)(H:Hp)(E:XK),qM k (A.deeper (envOfC qual (aG st) s.heap.objs.size f j))->
   ∃g':SF,(∀a mu,g a mu=cY (-N) g' a mu)/\jP (Ww qD P w K mg base N qual (aG st) f j A i s H E).nox (jC st) (iw K g')):oK P w K mg base qD (k+1) f fd ps (bW K (-ps) g):=by
 show F.ok S (λvs H Q E q=>?_) (λj A i s H vs Q E hr q=>?_)
 . let(Z,qs,mu,r,hU,e,_):=q;show e
 . let(g',eg,b):=h j A i s H E hr;let(Z,qs,mu,r,hU,e,hg,z,rl,c,mh,kk):=q;rw[eg]at mh;let(fl,h1,h2):=b_ mh;show#[_,b,my H (uP Z.g mu),Z,_,[],fl,Ds hg z rl c,h1,?_];cases fl with
   |rt r' Y'=>
    cases h2;intro v U' H' s';let(el,Z',D,z',W):=s'.top;show kk v H' #[Z',D,z',W.sub ?_];show(j6 _ _).cons_cons _
   |nx Y'=>
    cases h2;intro U' H' s';let(el,Z',D,z',W):=s';show kk .non H' #[Z',D,z',(W.sub (j6 _ _)).consS (Bq _)]
   |bk Y'=>cases h2
   |ct Y'=>cases h2
def wO.ok{st:Stmt}(F:wO K c m qual st ps)(S:bz N ps (aG st))
 (h:∀(f:Addr)(j:Value)(A:Around)(i:List PySem.Env)(s:Shared)(H:Hp)(E:XK),qM k (A.deeper (envOfC qual (aG st) s.heap.objs.size f j))->
   ∃q:SF,(∀a mu,g a mu=cY (-N) q a mu)/\jP (Ww qD P w K mg base N qual (aG st) f j A i s H E).nox (jC st) (iw K q)):vO P w K mg base c m (k+1) ps (bW K (-ps) g):=by
 let(f,fd,F,h1,h2,z):=F;show#[f,fd,vD.okQ F S (h f),#[h1,h2,F.kp],z]
end
section
variable {X:Cx}
def cX(C m:Str)(g:GF)(fo:EF)(a:AF):EF:=λY=>(fo Y).bind λx=>match x.1.pv with
 |ZA n=>match x.2.mu[n]? with
  |some (!(.obj D ks _))=>if D=C/\ks.contains m=M then (a x.2).bind λy=>(g (ZA n::y.1.map Lc.pv) y.2.mu).map λr=>(r.1,#[y.2.vs,r.2]) else J
  |_=>J
 |_=>J
theorem Jf:∀{fs:List (Str×V)},(fs.map (·.1)).contains m=M->fs.lookup m=J
 |[]=>λ_=>rfl
 |(g,x)::r=>λh=>by grind
set_option tactic.hygienic true in
def MP(T:yx X.K X.mg C c)(hn:∀Y ls Y1,a Y=!(ls,Y1)->-ls+1=n'):∀U H Q,tP X.K (cX C m g fo a) U H Q->RT c m (bW X.K n' g) [] E (tP X.K fo) (jR X.K a) U H Q:=λU H Q q=>by
 let(H0,Z0,Y,pd,l,Y',s,h,k):=q;let(x,h1,h2):=b_ h;show#[H0,Z0,Y,pd,x.1,x.2,s,h1,λv H1 s1=>?_];split at h2
 . rename_i n en;split at h2
   . rename_i D ks ps em;split at h2
     . rename_i F;let(F,hk):=F;subst F;let(y,h3,h4):=b_ h2;let(r,h5,h6):=d4 h4;cases h6;let j:=s1.freeze;rw[en]at j;let(W,c',dx,fs,rfl,cn,hH,sK,_):=j.objAt em;have:=SJ T.cn cn;subst this;show#[W,dx,fs,O,hH,Jf ∅,H0,Z0,x.2,_,y.1,y.2,j,h3,λvs H2 e2 s3=>?_];have s4:SR X.K H0 Z0 U H2 y.2 ((V.ref W::vs).zip (Lc.sh (ZA n)::y.1)++pd):=s3.perm (by rw[oC,mE];show gx.symm)
       let(el,Z,N,z,rl,i):=s4.repl ∅;show#[Z,ZA n::y.1.map Lc.pv,y.2.mu,r.1,r.2,?_,N,z.zh,?_,i.cells N,h5,λv H' rr=>k v H' (SR.called el N z i rr)]
       . grind
       . rw[fg];show rl
     . cases h2
   . cases h2
 . cases h2
def jt{apos pos:Pos}{pl:Sem Bool}(T:yx X.K X.mg C c)(N:vO X.prog X.w X.K X.mg X.base c m k ps (bW X.K (-ps) g))(W:qM k X.A)(D:PE X o (tP X.K fo))(q:PA X (e::es) (jR X.K a))(z:∀Y ls Y1,a Y=!(ls,Y1)->-ls+1=-ps)
 (i:starEach (e::es) X.env=(M,eval e X.env)::starEach es X.env:=by rfl) (j:(backTo pos (starEach es X.env)).any (·.1)=M:=by rfl)
 (ht:eval (.Call (.Attribute o m apos) (e::es) [] pos) X.env=(do
   let ov <-eval o X.env
   standAt apos.atName
   let (f,first) <-holding [ov] (getMethod ov m pl)
   callWith pos f first (backTo pos (starEach (e::es) X.env)) (backToKw pos (keywordEach [] X.env))):=by rfl):PE X (.Call (.Attribute o m apos) (e::es) [] pos) (tP X.K (cX C m g fo a)):=by
 let(f,fd,F,hm,Q):=N
 show PE.imp (ZV D T.cl hm F W Q .nil J6 q i j ht) (MP T z)
def Tk(T:yx X.K X.mg C c)(W:vO X.prog X.w X.K X.mg X.base c m k ps (bW X.K (-ps) g))(hr:qM k X.A)(N:PE X o (tP X.K fo))(z:1=-ps)
 (ht:eval (.Call (.Attribute o m apos) [] [] pos) X.env=(do
   let ov <-eval o X.env
   standAt apos.atName
   let (f,first) <-holding [ov] (getMethod ov m pl)
   callWith pos f first (backTo pos (starEach [] X.env)) (backToKw pos (keywordEach [] X.env))):=by rfl):PE X (.Call (.Attribute o m apos) [] [] pos) (tP X.K (cX C m g fo ao)):=by
 let(f,fd,F,hm,hb):=W
 show PE.imp (Wu N T.cl hm F hr hb .nil J6 ht) λU H Q q=>?_
 have:=MP (E:=E0) (n':=-ps) T (λY ls Y1 h=>by cases h;rw[<-z];rfl) U H Q q
 let(H0,Z0,Y,pd,l,Y',s,h,k):=this
 show#[H0,Z0,Y,pd,l,Y',s,h,λv H1 D=>?_]
 let(a,dx,fs,j,e2,e3,H0',Z0',Y2,pd2,ls,Y3,i,h2,k2):=k v H1 D
 cases h2
 show#[a,dx,fs,j,e2,e3,k2 [] H1 O i]
def SR.toCell(s:SR K H0 Z0 U H Y ((.ref a,Zs p)::pd)):SR K H0 Z0 U H #[Y.vs,Y.mu++[!p]] ((.ref a,Zp (ZA (-Y.mu)))::pd):=by
 let(D,Z,F,z,j):=s.top;have q:iu Z #[Z.z,Z.g++[a]]:=#[eY_.refl _,r_ _ _];let i:=j.step q λe W b Q=>#[O,(jn j W Q).1];show .mk (Z:=#[Z.z,Z.g++[a]]) D ∅ #[z.zh,z.h0,z.z0.trans q,z.new] (ah.consS ?_ ?_)
 . show i.perm ?_;have N:cel (Z.g++[a]) (Y.mu++[!p])=cel Z.g Y.mu++[(!(.ref a),!(Zs p))]:=by unfold cel;rw[eD,eD,lK ∅];rfl
   show Perm (cel (Z.g++[a]) (Y.mu++[!p])++_) _;rw[N,eK];show gx
 . show#[a,O,by show (Z.g++[a])[-Y.mu]?=!a;rw[F,hY ()];simp]
def FT(C:Str)(g:GF)(a:AF):EF:=λY=>(a Y).bind λy=>(g (ZA (-y.2.mu)::y.1.map Lc.pv) (y.2.mu++[!(.obj C [] [])])).bind λr=>match r.1 with
 |Zp .non=>!(Zp (ZA (-y.2.mu)),#[y.2.vs,r.2])
 |_=>J
def X4(P:Program)(w:World)(K:FG)(mg:Str->Option Value)(base:Heap)(c:Addr)(k:Nat)(ps:List Str)(sp:Sp):Prop:=∃f fd,oK P w K mg base qD k f fd ps sp/\Mk K c f/\eP K fd ps []
def X5(T:yx X.K X.mg C c)(hn:∀Y ls Y1,a Y=!(ls,Y1)->-ls+1=n'):∀U H Q,tP X.K (FT C g a) U H Q->YX c (bW X.K n' g) [] E (jR X.K a) U H Q:=λU H Q q=>by
 let(H0,Z0,Y,pd,l,Y',s,h,k):=q;let(y,h1,h2):=b_ h;let(r,h3,D):=b_ h2;split at D
 . rename_i er;cases D;show#[H0,Z0,Y,pd,y.1,y.2,s,h1,λj H1 e1 s1 x dx hx N xj=>?_];have s2:SR X.K H0 Z0 U (aI H1 dx (.own x)) y.2 (j.zip y.1++pd):=s1.ext N;have s3:SR X.K H0 Z0 U (aI (aI H1 dx (.own x)) x (.ins c dx [])) y.2 ((.ref x,Zs (.obj C [] []))::(j.zip y.1++pd)):=s2.newO (by rw[cV xj.symm];show hx) λZ _ _=>#[c,dx,[],T.cn,bZ,O,.nil];let s4:=s3.toCell;let s5:=s4.part λZ _ r=>r;have s6:SR X.K H0 Z0 U (aI (aI H1 dx (.own x)) x (.ins c dx [])) #[y.2.vs,y.2.mu++[!(.obj C [] [])]] ((V.ref x::j).zip (Lc.sh (ZA (-y.2.mu))::y.1)++(.ref x,Zp (ZA (-y.2.mu)))::pd):=s5.perm ∅
   let(el,Z,F,z,rl,i):=s6.repl ∅;show#[Z,ZA (-y.2.mu)::y.1.map Lc.pv,y.2.mu++[!(.obj C [] [])],r.1,r.2,?_,F,z.zh,?_,i.cells F,h3,λv H' rr=>?_]
   . grind
   . rw[fg];show rl
   . let W:=SR.called el F z i rr;rw[er]at W;let(_,r0):=W.repH;show#[jL r0,k _ _ W.pop]
 . cases D
def Tl{p pos:Pos}(T:yx X.K X.mg C c)(N:X4 X.prog X.w X.K X.mg X.base c k ps (bW X.K (-ps) g))(W:qM (k+1) X.A)(z:Gl X C)(q:PA X (e::es) (jR X.K a))(D:∀Y ls Y1,a Y=!(ls,Y1)->-ls+1=-ps)
 (i:(C==("__debug__" : Str))=M:=by decide) (he:starEach (e::es) X.env=(M,eval e X.env)::starEach es X.env:=by rfl) (j:(backTo pos (starEach es X.env)).any (·.1)=M:=by rfl):PE X (.Call (.Name C p) (e::es) [] pos) (tP X.K (FT C g a)):=by
 let(f,fd,F,hm,Q):=N;show PE.imp (ZW hm F W z T.mgC Q .nil J6 q i he j) (X5 T D)
end
def gO{a:AF}(h:∀Y ls Y1,a Y=!(ls,Y1)->-ls=n)(e:n+1=m:=by rfl):∀Y ls Y1,a Y=!(ls,Y1)->-ls+1=m:=λY ls Y1 g=>by rw[h _ _ _ g,e]
def To(h:vO P w K mg base c "__init__" k ps sp)(mk:W.makesIn K c=G)(j:W.keepIn K (YV c)=G):X4 P w K mg base c k ps sp:=by let(f,fd,F,m,b):=h;show#[f,fd,F,#[mk,m.at_,m.fn,j],b]
end PL
namespace L2
open PL.PV renaming lst→R,int→ZI,str→ZH,tup→ZB,ptr→ZA
open PL.Lc renaming own→Zs,sh→Zp
open PySem PySem.Spec PyProof.Rows
variable {ae:List (Addr×Obj)}{E:Value->Shared->Prop}{s:Shared}{A:Around}{w:World}{P:Program}
end L2
namespace PL
open PL.PV renaming lst→R,int→ZI,str→ZH,tup→ZB,ptr→ZA
open PL.Lc renaming own→Zs,sh→Zp
open PySem PySem.Spec PyProof.Rows L2
variable {K:FG}{H0 H:Hp}{Z0:ZG}{U:L2.St}{Y:Ev}{pd:Pd}
end PL
namespace L2
open PL.PV renaming lst→R,int→ZI,str→ZH,tup→ZB,ptr→ZA
open PL.Lc renaming own→Zs,sh→Zp
open PySem PySem.Spec PyProof.Rows
variable {ae:List (Addr×Obj)}{E:Value->Shared->Prop}{s:Shared}{A:Around}{w:World}{P:Program}
section
variable {X:Cx}
noncomputable def pk {α:Type} (xs:List α) (lo hi st:Option Int):List α:=
 (sliceRange (sliceBounds lo hi st (-xs)).1 (sliceBounds lo hi st (-xs)).2.1 (sliceBounds lo hi st (-xs)).2.2).filterMap λi=>xs[i]?
def MT{lo hi st:Option Int}:slicePick dS.toArray lo hi st=(pk dS lo hi st).toArray:=by unfold slicePick pk;simp
theorem ap.pick(r:ap xs dS):∀{l:List Nat},ap (l.filterMap λi=>xs[i]?) (l.filterMap λi=>dS[i]?)
 |[]=>.nil
 |i::l=>by
  let q:=-r;cases h:xs[i]? with
  |none=>
   have h':dS[i]?=J:=by rw[getElem?_eq_none_iff]at h ⊢;lia
   rw[j3 h,j3 h'];show r.pick
  |some x=>
   let(u,h',j):=r.get h;rw[filterMap_cons_some h,filterMap_cons_some h'];show .cons j r.pick
theorem ap.pk{lo hi st:Option Int}(r:ap xs dS):ap (pk xs lo hi st) (L2.pk dS lo hi st):=by unfold L2.pk;rw[r.length];show r.pick
def Tp(K:FG)(te:TE)(tl th tt:TO):TE:=λU H Q=>te U H λx H1=>tl U H1 λl H2=>th U H2 λu H3=>tt U H3 λk H4=>∃a xs,x=.ref a/\bY K H4 a xs/\k≠!0/\∀p,H4 p=J->Q (.ref p) (aI H4 p (.lst (pk xs l u k)))
def Vs{lo hi:Option Expr}{st:Expr}(he:PE X e te)(hl:PO X lo tl)(hu:PO X hi th)(N:PO X (!st) tt):PE X (.Subscript e (.Slice lo hi (!st) p2) pos) (Tp X.K te tl th tt):=by
 intro c5 s U H Q I h;show Subscript_ (dg (he c5 s U H _ I h) λv s1 Ts=>?_);let(x,H1,I1,r1,q1):=Ts;show wpAny_Slice (dg (hl c5 s1 U H1 _ I1 q1) λvl s2 Tx=>?_);let(l,H2,I2,pl,q2):=Tx;show dg (hu c5 s2 U H2 _ I2 q2) λvu s3 TB=>?_;let(u,H3,I3,pu,q3):=TB;show dg (N c5 s3 U H3 _ I3 q3) λW z TD=>?_;let(k,H4,I4,TH,q4):=TD;let(a,xs,rfl,hx,hk,q):=q4;cases r1;have I5:am X c5 U H4 { z with heap:=z.heap.push { cls:=.type "slice",data:=.fields (List.toArray [vl,vu,W]) } }:=I4.kept λb ob q=>eJ _ q;let(dS,r,N,hz):=I5.list hx;let hlen:=-r;have hg:wpAny (model X.prog X.w) X.A (getItem (YV a) (YV (c8 z))) (EP X c5 U Q) X.xe { z with heap:=z.heap.push { cls:=.type "slice",data:=.fields (List.toArray [vl,vu,W]) } }:=by show wpAny_getItem_list_slice N.isList (Heap.IsSliceOf.new ..) pl pu TH hk ?_ ∅;let F:=slicePick_size_le dS.toArray l u k;rw[MT]at F ⊢;show#[.ref (z.heap.push { cls:=.type "slice",data:=.fields (List.toArray [vl,vu,W]) }).objs.size,_,I5.laid (λb ob q=>eJ _ q) (dP _) ?_,O,q _ (I5.hok.fresh (dP _))];show#[?_,_,0,r.pk,ff _ O];let e:=-(r.pk (lo:=l) (hi:=u) (st:=k));rw[gL,gL]at F;lia
 show tail_any N.isList.typeIs slot_list_getitem.lookup hg ()
end
end L2
namespace PL
open PL.PV renaming lst→R,int→ZI,str→ZH,tup→ZB,ptr→ZA
open PL.Lc renaming own→Zs,sh→Zp
open PySem PySem.Spec PyProof.Rows L2
variable {K:FG}{H0 H:Hp}{Z0:ZG}{U:L2.St}{Y:Ev}{pd:Pd}
section
variable {X:Cx}
theorem aK.pick(r:aK K Z ps vs):∀{l:List Nat},aK K Z (l.filterMap λi=>ps[i]?) (l.filterMap λi=>vs[i]?)
 |[]=>aK.nil
 |i::l=>by
  let q:=-r;cases h:ps[i]? with
  |none=>
   have h':vs[i]?=J:=by rw[getElem?_eq_none_iff]at h ⊢;lia
   rw[j3 h,j3 h'];show r.pick
  |some x=>
   let(u,h',j):=r.get h;rw[filterMap_cons_some h,filterMap_cons_some h'];show aK.cons j r.pick
theorem aK.pk{lo hi st:Option Int}(r:aK K Z ps vs):aK K Z (L2.pk ps lo hi st) (L2.pk vs lo hi st):=by unfold L2.pk;rw[r.length];show r.pick
def DN(f:EF)(lo hi st:OF):EF:=λY=>(f Y).bind λx=>(lo x.2).bind λy=>(hi y.2).bind λz=>(st z.2).bind λt=>match x.1.pv with
 |R ps=>if t.1≠!0 then !(Zs (R (pk ps y.1 z.1 t.1)),t.2) else J
 |_=>J
set_option tactic.hygienic true in
def QM{lo hi:Option Expr}{st:Expr}(he:PE X e (tP X.K f))(hl:PO X lo (Fw X.K fl))(hu:PO X hi (Fw X.K fh))(ht:PO X (!st) (Fw X.K fs)):
 PE X (.Subscript e (.Slice lo hi (!st) p2) pos) (tP X.K (DN f fl fh fs)):=PE.imp (Vs he hl hu ht) λU H Q q=>by
 let(H0,Z0,Y,pd,r,Y',s,h,k):=q;let(x,h1,h2):=b_ h;let(y,h3,h4):=b_ h2;let(z,h5,h6):=b_ h4;let(t,h7,i):=b_ h6;show#[H0,Z0,Y,pd,x.1,x.2,s,h1,λv H1 s1=>#[H0,Z0,x.2,_,y.1,y.2,s1.freeze,h3,λH2 s2=>#[H0,Z0,y.2,_,z.1,z.2,s2,h5,λH3 W=>#[H0,Z0,z.2,_,t.1,t.2,W,h7,λH4 j=>?_]]]];split at i
 . rename_i ps e;split at i
   . rename_i hk;cases i;rw[e]at j;let(N,Z,hg,D,F,s5):=j.sh;let(a,vs,rfl,g1,g2):=F;show#[a,vs,O,bY.same D.zh g1,hk,λp hp=>k _ _ ?_];let(z',s'):=s5.new (p:=R (pk ps y.1 z.1 t.1)) D hp #[_,bZ,g2.pk];show .mk N hg z' s'
   . cases i
 . cases i
def Holds(o:Option Nat)(ps:List PV)(Y:Ev):Prop:=∀n,o=!n->Y.mu[n]?=!(!(R ps))
noncomputable def sealV (i:Nat) (Y:Ev):Option Ev:=match Y.vs[i]? with
 |some (!(Zs p))=>!#[Y.vs.set i (!(Zp (ZA (-Y.mu)))),Y.mu++[!p]]
 |_=>J
def wQ(i:Nat)(f:SF):SF:=λY=>(sealV i Y).bind f
set_option tactic.hygienic true in
theorem SR.sealV(s:SR K H0 Z0 U H Y pd)(h:PL.sealV i Y=!Y'):SR K H0 Z0 U H Y' pd:=by
 unfold PL.sealV at h;split at h
 . rename_i p F;let(v,N,q):=s.take F;let(_,Z,_,z,D):=q.top;let(a,W,_):=D.1 _ cS;let j:=fI W;subst j;let Q:=q.toCell.put N;have s3:SR K H0 Z0 U H #[(Y.vs.set i J).set i (!(Lc.sh (ZA (-Y.mu)))),Y.mu++[!p]] pd:=Q;grind
 . cases h
def QQ{st:Stmt}(h:PS X st (iw X.K f)):PS X st (iw X.K (wQ i f)):=PS.imp h λD U H q=>by let(H0,Z0,Y,pd,fl,s,h,k):=q;let(Y1,h1,h2):=b_ h;show#[H0,Z0,Y1,pd,fl,s.sealV h1,h2,k]
end
noncomputable def fQ (mu:Mu):Nat->PV->PV
 |0,p=>p
 |k+1,ZA n=>match mu[n]? with
  |some (!p)=>fQ mu k p
  |_=>ZA n
 |k+1,ZB ps=>ZB (ps.map (fQ mu k))
 |k+1,R ps=>R (ps.map (fQ mu k))
 |k+1,.dk ks ps=>.dk ks (ps.map (fQ mu k))
 |_+1,p=>p
theorem yz(i:∀p x,bP K Z p x->bP K Z (f p) x):∀{ps:List PV}{vs:List V},aK K Z ps vs->aK K Z (ps.map f) vs
 |[],vs=>λh=>h
 |p::ps,vs=>λh=>by let(v,r,rfl,h1,h2):=h.inv;show aK.cons (i p v h1) (yz i h2)
def peekD(mu:Mu):Option Lc->Option Lc
 |some l=>!(Zp (fQ mu 40 l.pv))
 |none=>J
def Ev.peekD(Y:Ev):Ev:=#[Y.vs.map (PL.peekD Y.mu),Y.mu.map λ_=>J]
section
variable {X:Cx}
def FZ(fo:EF):EF:=λY=>(fo Y).bind λo=>match o.1.pv with
 |ZA n=>match o.2.mu[n]? with
  |some (!(R ws))=>(ws[-ws-1]?).map λp=>(Zp p,#[o.2.vs,o.2.mu.set n (!(R ws.dropLast))])
  |_=>J
 |_=>J
def TJ(h:PE X (.Call (.Attribute o "pop" apos) [] [] cpos) (AX X.K "list" AY (tP X.K F))):PE X (.Call (.Attribute o "pop" apos) [] [] cpos) (tP X.K (FZ F)):=PE.imp h λU H Q q=>by
 let(H0,Z0,Y,pd,r,Y',s,h,k):=q;let(o',h1,h2):=b_ h;show#[H0,Z0,Y,pd,o'.1,o'.2,s,h1,λv H1 s1=>?_];split at h2
 . rename_i n en;split at h2
   . rename_i ws W;let(p,h3,h4):=d4 h2;let N:=s1.freeze;rw[en]at N;let(a,rfl,D):=N.cellO W;let(_,Z,_,z,so):=D.top;let(_,ea,(us,hu,_),_):=so.1 _ cS;cases ea;let(j,y,i,hy,s6):=D.popO h3;let s7:=(s6.perm ((ga _ _ _).cons _)).cellP (by show (o'.2.mu.set n J)[n]?=_;rw[kt ((fr.mp W).1)]);show#[Zl #[O,us,bY.of hu],a,j,y,O,O,i,hy,k _ _ ?_];grind
   . cases h2
 . cases h2
def j7(f:EF)(fl fh:OF):EF:=λY=>(f Y).bind λx=>(fl x.2).bind λy=>(fh y.2).bind λz=>match x.1.pv with
 |ZB ps=>if HT.sIx (-ps) 0 y.1=0/\HT.sIx (-ps) (-ps) z.1=-ps then J else !(Zp (ZB (rm ps y.1 z.1)),z.2)
 |_=>J
def uC{lo hi:Option Expr}(he:PE X e (tP X.K f))(hl:PO X lo (Fw X.K fl))(hu:PO X hi (Fw X.K fh)):PE X (.Subscript e (.Slice lo hi J p2) pos) (tP X.K (j7 f fl fh)):=PE.imp (KR LY he hl hu) λU H Q q=>by
 let(H0,Z0,Y,pd,r,Y',s,h,k):=q;let(x,h1,h2):=b_ h;let(y,h3,h4):=b_ h2;let(z,h5,i):=b_ h4;show#[H0,Z0,Y,pd,x.1,x.2,s,h1,λv H1 s1=>#[H0,Z0,x.2,_,y.1,y.2,s1.freeze,h3,λH2 s2=>#[H0,Z0,y.2,_,z.1,z.2,s2,h5,λH3 j=>?_]]];cases e:x.1.pv with
 |tup ps=>
  rw[e]at i j;have i:(if HT.sIx (-ps) 0 y.1=0/\HT.sIx (-ps) (-ps) z.1=-ps then J else !(Lc.sh (ZB (rm ps y.1 z.1)),z.2))=!(r,Y'):=i;split at i
  . cases i
  . rename_i hw;cases i;let(el,Z,hg,N,W,s4):=j.sh;let(a,F,rfl,g1,D):=W;show#[a,F,O,cW.same N.zh g1,by rw[D.length];show hw,λp hp=>k _ _ ?_];let(z',lz,s'):=s4.newF N hp;show .mk (Z:=Z.put p (.tup (uK F y.1 z.1))) el hg z' (s'.consS ?_);show#[p,_,O,cW.of bZ,D.cut.mono lz]
 |_=>grind
def X6{mu:Mu}:∀e∈cel g (mu.map λ_=>J),e.2=J:=λe D=>by let(v,l):=e;let(_,h2):=lI D;let(o,z,j):=dA.mp h2;let(o',_,q):=dA.mp z;subst q;show j.symm
noncomputable def ψ:PV->Option Str
 |ZH z=>if -z<=100000 then !z else J
 |ZI i=>if i.natAbs.log2<1920 then (if -(toString i:Str)<=100000 then !(toString i) else J) else J
 |_=>J
def nW(c:Str)(f:EF):EF:=λY=>(f Y).bind λx=>(ψ x.1.pv).bind λz=>if -c+-z<=100000 then !(Zp (ZH (c++z)),x.2) else J
def wR(hc:-c<=100000)(he:PE X e (tP X.K f)):PE X (.JoinedStr [.Constant (.str c) j p1,.FormattedValue e (-1) J p2] p3) (tP X.K (nW c f)):=PE.imp (NW () he) λU H Q q=>by
 let(H0,Z0,Y,pd,r,Y',s,h,k):=q;let(x,h1,h2):=b_ h;let(z,N,W):=b_ h2;let(hl,h5):=qZ W;cases h5;show#[H0,Z0,Y,pd,x.1,x.2,s,h1,λv H1 s1=>?_];let s2:=SR.freeze s1;have TK:-(c++z)<=sizeLine:=by rw[PySem.Str.length_append];show fA hl ()
 show#[z,?_,TK,(fA (fA () hl) ()),k _ H1 (s2.pop.scal pq)];let(_,r):=s2.repH;cases e:x.1.pv with
 |str y=>
  rw[e]at N r;let(_,rfl):=qZ N;have:=dN r;subst this;rfl
 |int i=>
  rw[e]at N r;obtain⟨hi,W⟩:i.natAbs.log2<1920/\(if -(toString i:Str)<=100000 then !(toString i) else J:Option Str)=!z:=by
   have F:(if i.natAbs.log2<1920 then (if -(toString i:Str)<=100000 then !(toString i) else J) else J:Option Str)=!z:=N;split at F
   . rename_i h;show#[h,F]
   . cases F
  let(_,rfl):=qZ W;have:=cF r;subst this;show ax hi
 |_=>rw[e]at N;cases N
def Ga(h:f Y=!(l,Y1))(j:ψ l.pv=!z)(i:-c+-z<=100000):nW c f Y=!(Zp (ZH (c++z)),Y1):=by unfold nW;grind
def SR.pop0O(s:SR K H0 Z0 U H Y ((.ref a,Zs (R (p::ws)))::pd)):
 ∃j y,H a=!(.lst (y::j))/\SR K H0 Z0 U (aI H a (.lst j)) Y ((.ref a,Zs (R ws))::(y,Zp p)::pd):=by
 let(F,Z,N,z,D):=s.top;let(b,eb,(j,hu,hr),_):=D.1 _ cS;cases eb;let(y,i,rfl,W,hd):=aK.inv hr;show#[i,y,hu,?_];let(Q,s'):=D.write (q:=R ws) z #[i,bZ,hd];let s2:=(s'.consS W).perm (ga (!y,!(Lc.sh p)) (!(V.ref a),!(Lc.own (R ws))) _);show .mk F N Q (s2.perm (dD.cons _))
def An(fo:EF):EF:=λY=>(fo Y).bind λo=>match o.1.pv with
 |ZA n=>match o.2.mu[n]? with
  |some (!(R (p::ws)))=>!(Zp p,#[o.2.vs,o.2.mu.set n (!(R ws))])
  |_=>J
 |_=>J
set_option tactic.hygienic true in
def TL(h:PE X (.Call (.Attribute o "pop" apos) [z] [] cpos) (KZ X.K "list" Ue (tP X.K fo) (jR X.K (aj (ai 0) ao)))):PE X (.Call (.Attribute o "pop" apos) [z] [] cpos) (tP X.K (An fo)):=PE.imp h λU H Q q=>by
 let(H0,Z0,Y,pd,r,Y',s,h,k):=q;let(o',h1,h2):=b_ h;show#[H0,Z0,Y,pd,o'.1,o'.2,s,h1,λv H1 s1=>?_];split at h2
 . rename_i n en;split at h2
   . rename_i p ws W;let F:=s1.freeze;rw[en]at F;let(a,rfl,s5):=F.cellO W;let(_,Z,_,z,so):=s5.top;let(_,ea,(us,hu,_),_):=so.1 _ cS;cases ea;show#[Zl #[O,us,bY.of hu],H0,Z0,o'.2,_,[Zp (ZI 0)],o'.2,F,O,λvs H2 e2 sv=>?_];let(v1,rfl):=yZ e2;let s3:=sv;let(_,r):=s3.repH;have:=cF r;subst this;let s4:=s3.pop;let(a',j,D):=s4.cellO W;cases j;let(N,y,i,D):=D.pop0O;let hn:=(fr.mp W).1;let s7:=(D.perm ((ga _ _ _).cons _)).cellP ∅;show#[a,y::N,0,0,y,O,O,i,by decide,by decide,?_,O,?_]
     . unfold seqIndex?;simp
     . grind
   . cases h2
 . cases h2
def M3{Y Y1:Ev}{mu:Mu}(h1:fo Y=!(o,Y1))(j:o.pv=ZA n)(i:Y1.mu[n]?=!(!(R (p::ws))))(e:Y1.mu.set n (!(R ws))=mu):An fo Y=!(Zp p,#[Y1.vs,mu]):=by unfold An;grind
end
theorem ah.freezeC:∀(C:Sl){Z:ZG},ah K H0 Z H (C++ZN)->jQ H0 Z0 Z H->∃Z',iu Z Z'/\Z'.g=Z.g/\jQ H0 Z0 Z' H/\ah K H0 Z' H ZN/\∀e∈C,∀q,e.2=!(Zs q)->∃x,e.1=!x/\bP K Z' q x
 |[],Z=>λQ z=>#[Z,iu.refl Z,O,z,Q,λe N=>by cases N]
 |(v,l)::C,Z=>λQ z=>by
  have a9:∀{j:ZG},iu Z j->j.g=Z.g->jQ H0 Z0 j H->ah K H0 j H (C++ZN)->(∀q,l=!(Zs q)->∃x,v=!x/\bP K j q x)->∃Z',iu Z Z'/\Z'.g=Z.g/\jQ H0 Z0 Z' H/\ah K H0 Z' H ZN/\∀e∈(v,l)::C,∀q,e.2=!(Zs q)->∃x,e.1=!x/\bP K Z' q x:=λ{j} lz W z1 i hv=>by
   let(Z',D,TM,z',m_,hc):=ah.freezeC C i z1;show#[Z',lz.trans D,TM.trans W,z',m_,λe N q hq=>?_];obtain rfl|N:=bh.mp N
   . let(x,ex,rx):=hv q hq;show#[x,ex,rx.mono D]
   . grind
  let i:=Q;cases l with
  |none=>show a9 (iu.refl Z) O z (i.sub (f7 _ _)) λq h=>by cases h
  |some l=>
   cases l with
   |sh p=>show a9 (iu.refl Z) O z (i.sub (f7 _ _)) λq h=>by cases h
   |own p=>
    let(j,lz,W,z1,F):=i.freeze z;let(x,ex,rx):=F.1 _ cS;show a9 lz W z1 (F.sub (f7 _ _)) λq h=>by cases h;grind
set_option tactic.hygienic true in
theorem sW(j:∀(n:Nat)(a:Addr)(q:PV),Z.g[n]?=!a->mu[n]?=!(!q)->bP K Z q (.ref a)):∀(k:Nat)(p:PV)(x:V),bP K Z p x->bP K Z (fQ mu k p) x
 |0=>λp x r=>r
 |k+1=>λp x r=>by
  cases p with
  |ptr n=>
   show bP K Z (match mu[n]? with |some (!p)=>fQ mu k p |_=>ZA n) x;split
   . rename_i q Q;let(a,rfl,N):=r;show sW j k q _ ∅
   . show r
  |tup ps=>
   let(a,i,e,h1,h2):=r;show#[a,i,e,h1,yz (sW j k) h2]
  |lst ps=>
   let(a,i,e,h1,h2):=r;show#[a,i,e,h1,yz (sW j k) h2]
  |dk ks ps=>
   let(a,i,e,h1,z,h2):=r;show#[a,i,e,h1,z,yz (sW j k) h2]
  |_=>show r
theorem ah.nones:∀(C:Sl),(∀e∈C,e.2=J)->ah K H0 Z H ZN->ah K H0 Z H (C++ZN)
 |[]=>λ_ j=>j
 |(v,l)::C=>λh j=>by
  let e:=h _ cS;subst e;let s:=ah.nones C (λe i=>h e (d_ _ i)) j;show#[λe i=>?_,?_]
  . obtain rfl|i:=bh.mp i
    . trivial
    . show s.1 e i
  . show ((((v,J):Option V×Option Lc)::(C++ZN)).filterMap mj).Nodup;rw[j3 (by cases v with |none=>rfl |some x=>cases x<;>rfl)];show s.2
def SR.meltD(k:Nat)(s:SR K H0 Z0 U H Y ((v,Zp p)::pd)):
 SR K H0 Z0 U H #[Y.vs,Y.mu.map λ_=>J] ((v,Zp (fQ Y.mu k p))::pd):=by
 let(F,Z,hg,z,r,N):=s.sh;let(Z',lz,W,Q,j,hc):=ah.freezeC (cel Z.g Y.mu) N z;let i:=ah.nones (cel Z'.g (Y.mu.map λ_=>J)) X6 j;show .mk F ∅ Q (i.consS ?_);show sW (λn a q D hq=>?_) k p v (r.mono lz);rw[W]at D;have hm:(!(V.ref a),!(Lc.own q))∈cel Z.g Y.mu:=gt (zip_get (by rw[eL,D];rfl) ∅);grind
section
variable {X:Cx}
def Gb(f:EF):EF:=λY=>(f Y).map λx=>(Zp (fQ x.2.mu 40 x.1.pv),#[x.2.vs,x.2.mu.map λ_=>J])
def TN(h:PE X e (tP X.K f)):PE X e (tP X.K (Gb f)):=PE.imp h λU H Q q=>by let(H0,Z0,Y,pd,l,Y',s,f,k):=q;let(x,h1,h2):=d4 f;cases h2;show#[H0,Z0,Y,pd,x.1,x.2,s,h1,λv H1 j=>k v H1 (j.freeze.meltD 40)]
def X8(h:f Y=!(l,Y1))(j:fQ Y1.mu 40 l.pv=p):Gb f Y=!(Zp p,#[Y1.vs,Y1.mu.map λ_=>J]):=by unfold Gb;grind
end
class HK where
 hk:List aV->Int
noncomputable def okP:PV->Option aV
 |.non=>!J
 |ZI i=>!(!(.inl i))
 |ZH x=>!(!(.inr x))
 |_=>J
def pX:List PV->Option (List aV)
 |[]=>![]
 |p::ps=>(okP p).bind λk=>(pX ps).map (k::·)
def TR(h:okP p=!k)(r:bP K Z p v):v=nR k:=by
 cases p with
 |non=>cases h;show jL r
 |int i=>cases h;show cF r
 |str x=>cases h;show dN r
 |_=>cases h
theorem ug:∀{ps:List PV}{vs:List V}{ks:List aV},pX ps=!ks->aK K Z ps vs->vs=ks.map nR
 |[],vs,ks=>λh r=>by cases h;show r.inv0
 |p::ps,vs,ks=>λh r=>by let(v,D,rfl,h1,h2):=r.inv;let(k,z,i):=b_ h;let(t,q,j):=d4 i;cases j;rw[TR z h1,ug q h2];rfl
abbrev xz:=List (List aV×PV)
def j0:xz->List aV->Option PV
 |[],_=>J
 |kv::r,k=>if kv.1=k then !kv.2 else j0 r k
def SM{xs:XD}:jT (x::xs) k=if x.1=k then !x.2.2 else jT xs k:=by
 unfold jT;by_cases e:x.1=k
 . grind
 . grind
theorem yC:∀{xs:XD}{ps:List PV},aK K Z ps (xs.map (·.2.2))->(∀p,j0 ((xs.map (·.1)).zip ps) k=!p->∃v,jT xs k=!v/\bP K Z p v)/\(j0 ((xs.map (·.1)).zip ps) k=J->jT xs k=J)
 |[],ps=>λh=>#[λp e=>(by cases e),λ_=>O]
 |x::xs,[]=>λh=>by have:=h.inv0;grind
 |x::xs,p::ps=>λh=>by
  let(v,r,e,h1,h2):=h.inv;injection e with i j;subst i j;let z:=yC (k:=k) h2;rw[SM];show (∀q,(if x.1=k then !p else j0 ((xs.map (·.1)).zip ps) k)=!q->_)/\((if x.1=k then !p else j0 ((xs.map (·.1)).zip ps) k)=J->_);by_cases e:x.1=k
  . grind
  . grind
def SR.setX(s:SR K H0 Z0 U H Y ((v,Zp p)::(kb,Zp (ZB kp))::(.ref a,Zs (.dx hk ks ps))::pd))(ek:pX kp=!k):
 ∃b xs,kb=.ref b/\H a=!(.ext (wA hk a xs))/\(∀x∈xs,cW K H x.2.1 (x.1.map nR))/\cW K H b (k.map nR)/\-xs=-ks/\
  (j0 (ks.zip ps) k=J->jT xs k=J/\SR K H0 Z0 U (aI H a (.ext (wA hk a (xs++[(k,b,v)])))) Y ((.ref a,Zs (.dx hk (ks++[k]) (ps++[p])))::(v,Zp p)::pd))/\
  (∀q,j0 (ks.zip ps) k=!q->∃u,jT xs k=!u/\SR K H0 Z0 U H Y ((u,Zp q)::(.ref a,Zs (.dx hk ks ps))::pd)):=by
 let(el,Z,hg,z,r,so):=s.sh;let j:=so.perm dD.symm;let(x,e1,rk):=j.1 _ cS;cases e1;let(b,ws,rfl,hb,Q):=rk;let ew:=ug ek Q;subst ew;let F:=j.sub (f7 _ _);let D:=F.perm dD.symm;let(_,eb,(xs,hu,W,TU,hr),_):=D.1 _ cS;cases eb;subst W;let hv:=yC (k:=k) hr;show#[b,xs,O,hu,λx i=>cW.same z.zh (TU x i),cW.same z.zh hb,by rw[da],λhn=>#[hv.2 hn,?_],λq hq=>?_]
 . let N:=(D.consS r).perm (ga _ _ _);let(z',s'):=N.write (q:=.dx hk (xs.map (·.1)++[k]) (ps++[p])) z #[xs++[(k,b,v)],bZ,by rw[eD];rfl,(λx i=>(by
    obtain i|i:=d6.mp i
    . grind
    . rw[gg.mp i];show hb)),by rw[eD];show hr.append (aK.cons r .nil)]
   show .mk el hg z' (s'.perm (dD.symm.cons _).symm)
 . let(u,e,ru):=hv.1 q hq;show#[u,e,.mk el hg z (F.consS ru)]
def SR.takeX(s:SR K H0 Z0 U H Y pd)(e:Y.vs[i]?=!(!(Zs (.dx hk ks ps)))):
 ∃a xs,U[i]?=!(!(.ref a))/\H a=!(.ext (wA hk a xs))/\SR K H0 Z0 U H (Y.set i J) ((.ref a,Zs (.dx hk ks ps))::pd):=by
 let(v,N,q):=s.take e;let(_,Z,_,z,D):=q.top;let(a,F,(xs,Q,_),_):=D.1 _ cS;let j:=fI F;subst j;show#[a,xs,N,Q,q]
def SR.seal(N:SR K H0 Z0 U H Y ((v,Zs p)::pd)):SR K H0 Z0 U H #[Y.vs,Y.mu++[!p]] ((v,Zp (ZA (-Y.mu)))::pd):=by
 let(F,Z,W,z,j):=N.top;let(a,ea,ra,za,C3):=j.1 _ cS;let i:=fI ea;subst i;have D:iu Z #[Z.z,Z.g++[a]]:=#[eY_.refl _,r_ _ _];let q:=j.step D λe he b Q=>#[O,(jn j he Q).1];show .mk (Z:=#[Z.z,Z.g++[a]]) F ∅ #[z.zh,z.h0,z.z0.trans D,z.new] (ah.consS ?_ ?_)
 . show q.perm ?_;have ec:cel (Z.g++[a]) (Y.mu++[!p])=cel Z.g Y.mu++[(!(.ref a),!(Zs p))]:=by unfold cel;rw[eD,eD,lK ∅];rfl
   show Perm (cel (Z.g++[a]) (Y.mu++[!p])++_) _;rw[ec,eK];show gx
 . show#[a,O,by show (Z.g++[a])[-Y.mu]?=!a;rw[W,hY ()];simp]
def Ev.set_self(e:Y.vs[i]?=!l):Y.set i l=Y:=by show Ev.mk (Y.vs.set i l) Y.mu=Y;let(hi,j):=fr.mp e;rw[<-j,set_getElem_self]
section
variable {X:Cx}[HK]
def Vt:EF:=λY=>!(Zs (.dx HK.hk [] []),Y)
def TW(j:HK.hk=CT X.prog X.w):PE X (.Dict [] [] pos) (tP X.K Vt):=PE.imp W4 λU H Q q=>by let(H0,Z0,Y,pd,l,Y',s,f,k):=q;cases f;show λp z=>k _ _ (s.newO z λZ _ _=>#[[],by rw[bZ,j];rfl,O,(λx j=>(by cases j)),aK.nil])
open Classical in
def BR(i:Nat)(fk:EF):EF:=λY=>match Y.vs[i]? with
 |some (!(Zs (.dx _ _ _)))=>(fk Y).bind λy=>match y.1.pv,y.2.vs[i]? with
  |ZB kp,!(!(Zs (.dx hk ks ps)))=>(pX kp).bind λk=>if hk=HK.hk/\-ks<100000 then
   (match j0 (ks.zip ps) k with
   |some p=>!(Zp p,y.2)
   | none=>!(Zp (ZA (-y.2.mu)),#[y.2.vs.set i (!(Zs (.dx hk (ks++[k]) (ps++[ZA (-y.2.mu)])))),y.2.mu++[!(R [])]]))
   else J
  |_,_=>J
 |_=>J
set_option tactic.hygienic true in
def TZ(hx:HK.hk=CT X.prog X.w)(h:PE X (.Call (.Attribute o "setdefault" apos) [e1,e2] [] cpos) (λU H Q=>uH i U H λx H1=>(∃a hk xs,x=.ref a/\H1 a=!(.ext (wA hk a xs)))/\jR X.K (aj fk (aj (cu ao) ao)) U H1 λvs H2=>Uw X.prog X.w X.K x vs H2 Q)):
 PE X (.Call (.Attribute o "setdefault" apos) [e1,e2] [] cpos) (tP X.K (BR i fk)):=PE.imp h λU H Q q=>by
 let(H0,Z0,Y,pd,r,Y',s,h,k):=q;unfold BR at h;split at h
 . rename_i md SO SU e0;let(y,h1,h2):=b_ h;let(a,xs,ea,hu,_):=s.takeX e0;show#[.ref a,ea,#[a,md,xs,O,hu],H0,Z0,Y,pd,[y.1,Zs (R [])],y.2,s,?_,λvs H2 e2 s2=>?_]
   . unfold aj ao cu;simp[h1]
   . let(v1,D,rfl):=qk e2;let T0:=s2;split at h2
     . rename_i kp hk ks ps e3 e4;let(W,ek,F):=b_ h2;split at F
       . rename_i hc;let(A8,hc2):=hc;subst A8;let s3:=T0.freeze;rw[e3]at s3;cases hv:j0 (ks.zip ps) W with
         |some p=>
          rw[hv]at F;cases F;let(a',T1,j,wq,s4):=s3.swap.freeze.takeX e4;rw[ea]at j;cases j;let s5:=s4.perm (kM (l₁:=[(D,Lc.sh (R [])),(v1,Zp (ZB kp))]) (l₂:=[(.ref a,Zs (.dx HK.hk ks ps))]) |>.append_right pd);let(b,z,rfl,g1,g2,g3,g4,_,g6):=s5.setX ek;let(u,eu,s6):=g6 p hv;show#[a,b,z,W,D,O,O,by rw[g1];unfold dX;rw[hx],g2,g3,by rw[g4,hG];lia,?_];rw[eu];let N:=s6.swap.put ea;rw[Ev.set_set,Ev.set_self e4]at N;show k _ _ N
         |none=>
          rw[hv]at F;cases F;let T_:=s3.swap.seal;let(a',T1,j,wq,s4):=T_.takeX e4;rw[ea]at j;cases j;let s5:=s4.perm (kM (l₁:=[(D,Lc.sh (ZA (-y.2.mu))),(v1,Zp (ZB kp))]) (l₂:=[(.ref a,Zs (.dx HK.hk ks ps))]) |>.append_right pd);let(b,z,rfl,g1,g2,g3,g4,g5,_):=s5.setX ek;let(eu,s6):=g5 hv;show#[a,b,z,W,D,O,O,by rw[g1];unfold dX;rw[hx],g2,g3,by rw[g4,hG];lia,?_];rw[eu];let N:=s6.put ea;rw[Ev.set_set]at N;have e9:(.ext (wA (CT X.prog X.w) a (z++[(W,b,D)])):HO)=dX X.prog X.w a (z++[(W,b,D)]):=O;rw[<-e9,<-hx];show k _ _ N
       . cases F
     . cases h2
 . cases h
open Classical in
def yD(fo fk:EF):EF:=λY=>(fo Y).bind λx=>match x.1.pv with
 |.dx hk ks ps=>(fk x.2).bind λy=>match y.1.pv with
  |ZB kp=>(pX kp).bind λk=>if hk=HK.hk then !(match j0 (ks.zip ps) k with |some p=>Zp p |none=>Zs (R []),y.2) else J
  |_=>J
 |_=>J
set_option tactic.hygienic true in
def Zi(hx:HK.hk=CT X.prog X.w)(h:PE X (.Call (.Attribute o "get" apos) [e1,e2] [] cpos) (λU H Q=>tP X.K fo U H λx H1=>(∃a hk xs,x=.ref a/\H1 a=!(.ext (wA hk a xs)))/\jR X.K (aj fk (aj (cu ao) ao)) U H1 λvs H2=>Y8 X.prog X.w X.K x vs H2 Q)):
 PE X (.Call (.Attribute o "get" apos) [e1,e2] [] cpos) (tP X.K (yD fo fk)):=PE.imp h λU H Q q=>by
 let(H0,Z0,Y,pd,r,Y',s,h,k):=q;let(x,h1,h2):=b_ h;show#[H0,Z0,Y,pd,x.1,x.2,s,h1,λv H1 s1=>?_];split at h2
 . rename_i hk ks ps e0;let(y,h3,h4):=b_ h2;let s2:=s1.freeze;rw[e0]at s2;let(el,Z,hg,z,rd,so):=s2.sh;let(a,xs,rfl,g1,g2,g3,g4):=rd;show#[#[a,hk,xs,O,z.zh _ _ g1],H0,Z,x.2,pd,[y.1,Zs (R [])],y.2,#[el,Z,hg,#[z.zh,z.h0,iu.refl Z,λb o e=>Zl e],so],?_,λvs H2 e2 s3=>?_]
   . unfold aj ao cu;simp[h3]
   . let(v1,v2,rfl):=qk e2;let Uf:=s3;split at h4
     . rename_i kp e3;let(W,ek,h5):=b_ h4;split at h5
       . rename_i hc;subst hc;cases h5;let s4:=Uf.freeze;rw[e3]at s4;let(D,Z2,j,i,rk,F):=s4.sh;let(b,ws,rfl,hb,m8):=rk;let ew:=ug ek m8;subst ew;subst g2;let hv:=yC (k:=W) g4;show#[a,b,xs,W,v2,O,O,?_,λx hx=>cW.same i.zh (cW.same i.z0.1 (g3 x hx)),cW.same i.zh hb,?_]
         . rw[i.zh _ _ (i.z0.1 _ _ g1),hx];rfl
         have zz:jQ H0 Z0 Z2 H2:=#[i.zh,i.h0,z.z0.trans i.z0,λb o e=>by
          obtain q|q:=i.new b o e
          . show z.new b o q
          . show YY q]
         cases N:j0 ((xs.map (·.1)).zip ps) W with
         |some p=>
          let(u,eu,ru):=hv.1 p N;rw[eu];rw[N]at k;show k _ _ (.mk D j zz ((F.perm dD.symm).sub (f7 _ _) |>.consS (ru.mono i.z0)))
         |none=>
          rw[hv.2 N];rw[N]at k;show k _ _ (.mk D j zz (F.perm dD.symm))
       . cases h5
     . cases h4
 . cases h2
noncomputable def meltL:Mu->List PV->Option (List PV×Mu)
 |mu,[]=>!([],mu)
 |mu,ZA n::ps=>match mu[n]? with
  |some (!q)=>(meltL (mu.set n J) ps).map λr=>(q::r.1,r.2)
  |_=>J
 |_,_=>J
theorem ah.meltL:∀{ps qs:List PV}{mu i:Mu}{vs:List V}{Z:ZG},PL.meltL mu ps=!(qs,i)->aK K Z ps vs->-mu=-Z.g->jQ H0 Z0 Z H->ah K H0 Z H (cel Z.g mu++ZN)->
 ∃Z',iu Z Z'/\Z'.g=Z.g/\jQ H0 Z0 Z' H/\ah K H0 Z' H (cel Z'.g i++ZN)/\aK K Z' qs vs/\-i=-mu
 |[],qs,mu,i,vs,Z=>λh r hg z W=>by cases h;show#[Z,iu.refl Z,O,z,W,r,O]
 |p::ps,qs,mu,i,vs,Z=>λh r hg z W=>by
  cases p with
  |ptr n=>
   unfold PL.meltL at h;split at h
   . rename_i q hm;let(t,h1,h2):=d4 h;cases h2;let(v,vr,rfl,r1,r2):=r.inv;let(a,rfl,ha):=r1;let(C,p1,p2):=Ai ha hm;let Up:=W.perm (p1.append_right _).symm;let(Q,lz,eg,z1,j):=Up.freeze z;let(x,ex,rx):=j.1 _ cS;cases ex;let D:=j.sub (f7 _ _);have UA:ah K H0 Q H ((!(.ref a),J)::(C++ZN)):=by
      show#[λe he=>?_,?_]
      . obtain rfl|he:=bh.mp he
        . trivial
        . show D.1 e he
      .  show D.2
     have N:ah K H0 Q H (cel Q.g (mu.set n J)++ZN):=by rw[eg];show UA.perm ((p2 J).append_right _)
     let(Z2,F,UB,z2,UC,r7,l7):=ah.meltL h1 (r2.mono lz) ∅ z1 N;show#[Z2,lz.trans F,UB.trans eg,z2,UC,aK.cons (rx.mono F) r7,by simpa using l7]
   . cases h
  |_=>cases h
def M4(f:EF):EF:=λY=>(f Y).bind λx=>match x.1.pv with
 |.dx hk ks ps=>(meltL x.2.mu ps).map λr=>(Zp (.dx hk ks r.1),#[x.2.vs,r.2])
 |_=>J
set_option tactic.hygienic true in
def UD(h:PE X e (tP X.K f)):PE X e (tP X.K (M4 f)):=PE.imp h λU H Q q=>by
 let(H0,Z0,Y,pd,l,Y',s,f,k):=q;let(x,h1,h2):=b_ f;show#[H0,Z0,Y,pd,x.1,x.2,s,h1,λv H1 s1=>?_];split at h2
 . rename_i hk ks ps N;let(r,h3,h4):=d4 h2;cases h4;let j:=s1.freeze;rw[N]at j;let(F,Z,hg,z,rd,so):=j.sh;let(a,xs,rfl,g1,g2,g3,g4):=rd;let(Z2,D,eg,W,i,r2,l2):=ah.meltL h3 g4 hg z so;show k _ H1 (.mk F ∅ W (ah.consS i ?_));show#[a,xs,O,D.1 _ _ g1,g2,λx hx=>cW.same D.1 (g3 x hx),r2]
 . cases h2
end
section
variable {X:Cx}
def qw(i:Nat){pos:Pos}(q:X.N[i]?=!x:=by rfl)(z:Tv X.env.scope x:=by first |show Or.inl O |show Or.inr (Or.inl O) |show Or.inr (Or.inr O))(D:(x==("__debug__" : Str))=M:=by decide)(j:(x==("__classdict__" : Str))=M:=by decide):PE X (.Name x pos) (tP X.K (aa i)):=qv (pv i q z D j)
def aQ{j}:PE X (.Constant (.int i) j pos) (tP X.K (ai i)):=qc IV gF
def bT{j}:PE X (.Constant (.str i) j pos) (tP X.K (c6 i)):=qc IY pq
def Jg{j}:PE X (.Constant .none j pos) (tP X.K (eC .non)):=qc IX Bq
def qI{j}(q:PE X a (tP X.K fa)):PE X (.Subscript a (.Constant (.int i) j p) pos) (tP X.K (aJ fa (ai i))):=fP q aQ (λ_ _=>O)
def qL{p pos:Pos}(b:X.mg "len"=J)(h:PE X e (tP X.K f))(q:Gl X "len":=by rfl)(j:starEach [e] X.env=(M,eval e X.env)::starEach [] X.env:=by rfl):PE X (.Call (.Name "len" p) [e] [] pos) (tP X.K (eB cz (aj f ao))):=wJ uJ Vf (iQ uJ q b sd (ak h aq j) (he:=j))
def cU(i:Nat){pos pos':Pos}(q:X.N.Nodup)(he:PE X e (tP X.K f))(hi:X.N[i]?=!x:=by rfl)(j:L2.Loc X.env.scope x:=by show Or.inl O)(hs:swapsWith e (!(.Name x pos')) pos.line X.env=pure M:=by rfl)(z:X.fn x=G\/X.env.scope.names.lookup x=!.local:=by first |show Zl O |show YY O |assumption):
 PS X (.Assign [.Name x pos'] e pos) (iw X.K (aL i f)):=wI q hi j he hs z
def cQ(i:Nat){pos:Pos}(q:X.N.Nodup)(hi:X.N[i]?=!x:=by rfl)(j:L2.Loc X.env.scope x:=by show Or.inl O)(z:X.fn x=G\/X.env.scope.names.lookup x=!.local:=by first |show Zl O |show YY O |assumption):PG X (.Name x pos) (J4 i):=PB q hi j z
def jx{z F:List Str}{W:List Nat}{sc:Scope}(S:Scope)(Q:X.env.scope=S:=by rfl)(q:sc.kind=.function:=by rfl)(j:∀y∈sc.names,y.2=.local->sc.names.lookup y.1=!.local:=by decide +kernel)(cel:∀y∈sc.names,y.2=.cell->sc.names.lookup y.1=!.cell:=by decide +kernel)
 (own:∀p∈sc.names,p.2=.free->S.names.lookup p.1=!.cell\/S.names.lookup p.1=!.free:=by decide +kernel) (frs:∀x∈F,sc.names.lookup x=!.free:=by decide +kernel) (D:W.map (λi=>X.N[i]?)=F.map some:=by rfl):jE X z F W sc:=RY S Q q j cel own frs D
def yE{apos cpos pos:Pos}(q:PE X o (uH i))(he:PE X e (tP X.K f))(j:starEach [e] X.env=(M,eval e X.env)::starEach [] X.env:=by rfl)(h1:attributeBase o "append" X.env (eval o X.env)=eval o X.env:=by rfl)
 (h2:((backTo cpos (starEach [e] X.env)).all (λx=>not x.1)&&(backToKw cpos (keywordEach [] X.env)).all (λx=>x.1.isSome)
   && decide (-([e]:List Expr)+-([]:List Keyword)+(if ([]:List Keyword).isEmpty then 0 else 1)<30))=G:=by rfl) (z:(apos.endLine==cpos.line)=G:=by rfl) (hs:swapsWith (.Call (.Attribute o "append" apos) [e] [] cpos) J pos.line X.env=pure M:=by rfl):
 PS X (.Expr (.Call (.Attribute o "append" apos) [e] [] cpos) pos) (iw X.K (jM i f)):=Rj (qK (rR F.plainAttrs_list F.slot_list_append F.type_list_append oY q (ak he aq j) h1 h2 z j) hs)
def nM{apos cpos pos:Pos}(q:PE X o (uH i))(he:PE X e (tP X.K f))(j:starEach [e] X.env=(M,eval e X.env)::starEach [] X.env:=by rfl)(h1:attributeBase o "extend" X.env (eval o X.env)=eval o X.env:=by rfl)
 (h2:((backTo cpos (starEach [e] X.env)).all (λx=>not x.1)&&(backToKw cpos (keywordEach [] X.env)).all (λx=>x.1.isSome)
   && decide (-([e]:List Expr)+-([]:List Keyword)+(if ([]:List Keyword).isEmpty then 0 else 1)<30))=G:=by rfl) (z:(apos.endLine==cpos.line)=G:=by rfl) (hs:swapsWith (.Call (.Attribute o "extend" apos) [e] [] cpos) J pos.line X.env=pure M:=by rfl):
 PS X (.Expr (.Call (.Attribute o "extend" apos) [e] [] cpos) pos) (iw X.K (gb i f)):=Rk (qK (rR F.plainAttrs_list F.slot_list_extend F.type_list_extend R5 q (ak he aq j) h1 h2 z j) hs)
end
inductive XR(α:Type) where
 |ok (a:α)
 |xc (C:Str) (Y:Ev)
section
variable {X:Cx}
theorem M5:∀{l:List Nat},aK K Z (l.map λi=>PV.int (i:Nat)) (l.map λi=>V.int (i:Nat))
 |[]=>by  rfl
 |x::l=>#[.int x,l.map λi=>V.int (i:Nat),O,by unfold bP;rfl,M5]
def SN(f:EF):EF:=λY=>(f Y).bind λx=>match x.1.pv with
 |ZI j=>if 0<=j/\j<=100000 then !(Zs (R ((range j.toNat).map λi=>PV.int (i:Nat))),x.2) else J
 |_=>J
def UE(h:PE X (.Call (.Name "list" p) [.Call (.Name "range" p') [e] [] pos'] [] pos) (zN (λxs H Q=>∃p j,xs=[.ref p]/\H p=!(.rng 0 j)/\0<=j/\j<=100000/\∀l,H l=J->Q (.ref l) (aI H l (.lst ((range j.toNat).map λi=>.int (i:Nat))))) (J5 (zN (λxs H Q=>∃j,xs=[.int j]/\∀r,H r=J->Q (.ref r) (aI H r (.rng 0 j))) (jR X.K (aj f ao))) KJ))):PE X (.Call (.Name "list" p) [.Call (.Name "range" p') [e] [] pos'] [] pos) (tP X.K (SN f)):=PE.imp h λU H Q q=>by
 let(H0,Z0,Y,pd,l,Y',s,h,k):=q;let(x,h1,h2):=b_ h;show#[H0,Z0,Y,pd,[x.1],x.2,s,?_,λvs H1 e1 s1=>?_]
 . unfold aj ao;rw[h1];rfl
 . let(v,rfl):=yZ e1;let F:=SR.freeze s1;cases e:x.1.pv with
   |int j=>
    rw[e]at h2 F;have h2:(if 0<=j/\j<=100000 then !(Lc.own (R ((range j.toNat).map λi=>PV.int (i:Nat))),x.2) else J)=!(l,Y'):=h2;split at h2
    . rename_i N;cases h2;let(el,Z,hg,z,r,so):=F.sh;subst r;show#[j,O,λb W=>?_];let(z',lz,D):=so.newF z W;show#[b,j,O,bZ,N.1,N.2,λc hc=>k _ _ ?_];let(z2,s3):=D.new (p:=R ((range j.toNat).map λi=>PV.int (i:Nat))) z' hc #[_,bZ,M5];show .mk (Z:=Z.put b (.rng 0 j)) el hg z2 s3
    . cases h2
   |_=>grind
end
noncomputable def SQ:PV->Option aV
 |.non=>!J
 |ZI i=>!(!(.inl i))
 |ZH x=>!(!(.inr x))
 |_=>J
def BV:List PV->Option (List aV)
 |[]=>![]
 |p::ps=>(SQ p).bind λk=>(BV ps).map (k::·)
def BW:List PV->Option (List (List aV))
 |[]=>![]
 |ZB qs::ps=>(BV qs).bind λk=>(BW ps).map (k::·)
 |_::_=>J
def wU:aV->PV
 |none=>.non
 |some (.inl i)=>ZI i
 |some (.inr x)=>ZH x
abbrev Jh(a b:List aV):Prop:=a.map dv<b.map dv
def uY(k:List aV):List (List aV)->List (List aV)
 |[]=>[k]
 |l::r=>if Jh k l then k::l::r else if k=l then l::r else l::uY k r
def jV:List (List aV)->List (List aV)
 |[]=>[]
 |k::r=>uY k (jV r)
def UF(h1:¬ Jh a b)(h2:¬ a=b):Jh b a:=
 Classical.byContradiction λz=>h2 (Fg ∅)
theorem DP:∀{l:List (List aV)},y∈uY k l ↔ y=k\/y∈l
 |[]=>by unfold uY;simp
 |l::r=>by
  unfold uY;split
  . rw[bh]
  . split
    . grind
    . rw[bh,DP,bh];grind
theorem pC:∀{l:List (List aV)},y∈jV l ↔ y∈l
 |[]=>Iff.rfl
 |k::r=>by unfold jV;rw[DP,pC,bh]
theorem QR:∀{l:List (List aV)},l.Pairwise Jh->(uY k l).Pairwise Jh
 |[]=>λ_=>by  show pairwise_singleton _ _
 |l::r=>λh=>by
  let j:=pairwise_cons.mp h;unfold uY;split
  . rename_i q;show pairwise_cons.mpr #[λy i=>by
     obtain rfl|i:=bh.mp i
     . show q
     . show List.lt_trans q (j.1 y i),h]
  . rename_i q;split
    . show h
    . rename_i z;show pairwise_cons.mpr #[λy i=>?_,QR j.2];obtain rfl|i:=DP.mp i
      . show UF q z
      . show j.1 y i
theorem yF:∀{l:List (List aV)},(jV l).Pairwise Jh
 |[]=>.nil
 |k::r=>QR yF
theorem SX:∀{a b:List (List aV)},a.Pairwise Jh->b.Pairwise Jh->(∀y,y∈a ↔ y∈b)->a=b
 |[],[]=>λ_ _ _=>rfl
 |[],y::b=>λ_ _ m=>by cases (m y).mpr cS
 |x::a,[]=>λ_ _ m=>by cases (m x).mp cS
 |x::a,y::b=>λh1 h2 m=>by
  let aS:=pairwise_cons.mp h1;let q:=pairwise_cons.mp h2;have e:x=y:=by
   obtain e|e:=bh.mp ((m x).mp cS)
   . show e
   . obtain j|j:=bh.mp ((m y).mpr cS)
     . grind
     . grind
  subst e;rw[SX aS.2 q.2 λz=>?_];constructor
  . intro i;obtain e|e:=bh.mp ((m z).mp (d_ _ i))
    . grind
    . show e
  . intro i;obtain e|e:=bh.mp ((m z).mpr (d_ _ i))
    . grind
    . show e
def Vu:List (List aV)->Bool
 |[]=>G
 |k::r=>(k.map ph).head?==some 0&&(k::r).all λl=>l.map ph==k.map ph&&l.any λx=>ph x==1
def Db(h:Vu ks=G):∃sh,∀k∈ks,k.map ph=0::sh/\uN k:=by
 cases ks with
 |nil=>grind
 |cons k r=>
  unfold Vu at h;rw[iF,all_eq_true]at h;let(h1,h2):=h;let e:=eq_of_beq h1;cases q:k.map ph with
  |nil=>grind
  |cons x sh=>
   rw[q]at e;cases e;show#[sh,λl F=>?_];let z:=h2 l F;rw[iF,any_eq_true]at z;let(N,x,Q,D):=z;show#[by rw[<-q];show eq_of_beq N,?_];let j:=eq_of_beq D;obtain _|i|y:=x
   . cases j
   . cases j
   . show#[y,Q]
section
variable {X:Cx}
def Yb(h:SQ p=!k)(r:bP K Z p v):v=nR k/\p=wU k:=by cases p<;>first |(cases h;unfold bP at r;show#[r,O]) |cases h
theorem Ji:∀{ps:List PV}{vs:List V}{k:List aV},BV ps=!k->aK K Z ps vs->vs=k.map nR/\ps=k.map wU
 |[],vs,k=>λh r=>by cases h;show#[r,O]
 |p::ps,vs,k=>λh r=>by let(v,W,rfl,h1,h2):=r;let(x,Q,q):=b_ h;let(y,F,z):=d4 q;cases z;let(j,N):=Yb Q h1;let(i,D):=Ji F h2;show#[by rw[j,i];rfl,by rw[N,D];rfl]
theorem Jj:∀{ps:List PV}{vs:List V}{ks:List (List aV)},BW ps=!ks->aK K Z ps vs->∃bs:BK,vs=bs.map (λp=>V.ref p.1)/\bs.map (·.2)=ks/\∀p∈bs,cW K Z.z p.1 (p.2.map nR)/\bP K Z (ZB (p.2.map wU)) (.ref p.1)
 |[],vs,ks=>λh r=>by cases h;show#[[],r,O,λp i=>by cases i]
 |p::ps,vs,ks=>λh r=>by
  let(v,r',rfl,h1,h2):=r;cases p with
  |tup qs=>
   let(k,g1,F):=b_ h;let(y,g3,W):=d4 F;cases W;let(bs,Q,e2,e3):=Jj g3 h2;let j:=h1;let(a,ws,rfl,q,q2):=h1;let(N,D):=Ji g1 q2;show#[(a,k)::bs,by rw[Q];rfl,by rw[fF,e2],λp i=>?_];obtain rfl|i:=bh.mp i
   . grind
   . show e3 p i
  |_=>cases h
theorem Jk:∀{cs:BK},(∀p∈cs,bP K Z (ZB (p.2.map wU)) (.ref p.1))->aK K Z ((cs.map (·.2)).map λk=>PV.tup (k.map wU)) (cs.map λp=>V.ref p.1)
 |[]=>λ_=>.nil
 |p::cs=>λh=>aK.cons (h p cS) (Jk λq i=>h q (d_ _ i))
def sX(f:EF):EF:=λY=>(f Y).bind λx=>match x.1.pv with
 |R ps=>(BW ps).bind λks=>if -ks<9000/\Vu ks=G then !(Zs (R ((jV ks).map λk=>ZB (k.map wU))),x.2) else J
 |_=>J
def Gd(h:PE X (.Call (.Name "sorted" p) [.Call (.Name "set" p') [e] [] pos'] [] pos) (zN (U7_ X) (J5 (zN (Za X) (jR X.K (aj f ao))) KJ))):PE X (.Call (.Name "sorted" p) [.Call (.Name "set" p') [e] [] pos'] [] pos) (tP X.K (sX f)):=PE.imp h λU H Q q=>by
 let(H0,Z0,Y,pd,l,Y',s,h,k):=q;let(x,h1,h2):=b_ h;show#[H0,Z0,Y,pd,[x.1],x.2,s,?_,λvs H1 e1 s1=>?_]
 . unfold aj ao;rw[h1];rfl
 . let(v,rfl):=yZ e1;let s2:=SR.freeze s1;cases e:x.1.pv with
   |lst ps=>
    rw[e]at h2 s2;let(ks,g1,F):=b_ h2;split at F
    . rename_i D;let(D,ho):=D;cases F;let(el,Z,hg,z,r,so):=s2.sh;let(a,us,rfl,r1,r2):=r;let(bs,eu,ek,N):=Jj g1 r2;let(sh,hs):=Db ho;subst eu;have lb:-bs<9000:=by rw[<-ek,da]at D;show D
      have j:∀p∈bs,p.2.map ph=0::sh/\uN p.2:=λp i=>hs _ ∅;show#[a,bs,O,bY.same z.zh r1,λp i=>#[cW.same z.zh (N p i).1,(j p i).2],lb,λb UH=>?_];let(z',lz,m_):=so.newF z UH;show#[b,bs,sh,O,bZ,λp i=>#[cW.same z'.zh (cW.same lz.1 (N p i).1),(j p i).1],lb,λc cs hc m1 m2 pw=>k _ _ ?_];have es:cs.map (·.2)=jV ks:=by
       show SX ∅ yF λy=>?_;rw[pC,<-ek];constructor
       . intro W;let(p,i,rfl):=dA.mp W;show mem_map_of_mem (m1 p i)
       . intro W;let(p,i,rfl):=dA.mp W;grind
      rw[<-es];let(z2,s3):=m_.new (p:=R ((cs.map (·.2)).map λk=>PV.tup (k.map wU))) z' hc #[_,bZ,Jk λp i=>(N p (m1 p i)).2.mono lz];show .mk (Z:=Z.put b (.ext (Fj X.prog X.w b bs))) el hg z2 s3
    . cases F
   |_=>grind
def UI(P:Program)(w:World)(K:FG):R2:=λx y H Q=>∃a b xs k v,x=.ref a/\y=.ref b/\H a=!(dX P w a xs)/\(∀x∈xs,cW K H x.2.1 (x.1.map nR))/\cW K H b (k.map nR)/\jT xs k=!v/\Q v H
def UM(hu:X.A.units+1<cLine):zP X (UI X.prog X.w X.K):=by intro value D ae s U H x y v u Q I rx W h hs;let(a,b,xs,k,z,rfl,rfl,hH,i,hb,hl,q):=h;cases rx;cases (W);let(z',m,ys,xr,N):=I.dx hH i;let(p',j,rp):=(xr.at).1 z hl;show tail_any N.typeIs F.slot_dict_getitem.lookup (wpAny_getItem_heap (tupleKind_room_in1 hu) (ux I hb) N j #[z,H,I.tok _,rp,q]) hs
variable [HK]
open Classical in
def S5(fa fb:EF):EF:=λY=>(fa Y).bind λx=>(fb x.2).bind λy=>match x.1.pv with
 |.dx hk ks ps=>match y.1.pv with
  |ZB kp=>(pX kp).bind λk=>if hk=HK.hk then (j0 (ks.zip ps) k).map λp=>(Zp p,y.2) else J
  |_=>J
 |_=>J
set_option tactic.hygienic true in
def UN(F:HK.hk=CT X.prog X.w)(hu:X.A.units+1<cLine)(ha:PE X a (tP X.K fa))(hb:PE X b (tP X.K fb))(hm:Bh b):PE X (.Subscript a b pos) (tP X.K (S5 fa fb)):=PE.imp (RX (UM hu) ha hb hm) λU H Q q=>by
 let(H0,Z0,Y,pd,l,Y',s,f,k):=q;let(x,h1,h2):=b_ f;let(y,h3,j):=b_ h2;show#[H0,Z0,Y,pd,x.1,x.2,s,h1,λv H1 s1=>#[H0,Z0,x.2,_,y.1,y.2,s1.freeze,h3,λw H2 s2=>?_]];let(el,Z,hg,z,rl,so):=SR.repl (vs:=[w,v]) (ls:=[y.1,Zp x.1.pv]) s2 O;let(_,_,W,r1,D):=rl;cases W;let(_,_,W,D,_):=D;cases W;split at j
 . rename_i hk ks ps e0;split at j
   . rename_i kp e3;let(kk,ek,h5):=b_ j;split at h5
     . rename_i hc;subst hc;let(p,hp,h6):=d4 h5;cases h6;rw[e3]at r1;rw[e0]at D;let(b,ws,rfl,i,N):=r1;let(a,xs,rfl,g1,g2,g3,g4):=D;let ew:=ug ek N;subst ew;subst g2;let(u,eu,ru):=(yC g4).1 p hp;show#[a,b,xs,kk,u,O,O,?_,λx F=>cW.same z.zh (g3 x F),cW.same z.zh i,eu,k _ _ (.mk el hg z (so.consS ru))];rw[z.zh _ _ g1,F];rfl
     . cases h5
   . cases j
 . cases j
end
section
variable {X:Cx}
def tj:PV->Bool
 |.bl b=>b
 |_=>M
def js(ks:List (List d3))(k:List d3):List (List d3):=if (ks.any λj=>decide (j=k))=G then ks else ks++[k]
def iP(ks:List (List d3)):PV:=.dt ks (ks.map λ_=>.bl G)
theorem Df:∀{ay:List (List d3×V)}{ps:List PV},ps.all tj=G->aK K Z ps (ay.map (·.2))->∀j∈ay,j.2=.bl G
 |[],ps,_,_,j,h=>by cases h
 |a::ay,[],_,r,j,h=>by cases r
 |a::ay,p::ps,e,r,j,h=>by
  rw[List.all_cons,iF]at e;let(v,D,z,h1,h2):=r.inv;cases z;obtain rfl|h:=bh.mp h
  . cases p<;>first |(let e:=e.1;cases e;show h1) |cases e.1
  . show Df e.2 h2 j h
theorem Dh:∀{ay:List (List d3×V)},(∀j∈ay,j.2=.bl G)->aK K Z ((ay.map (·.1)).map λ_=>.bl G) (ay.map (·.2))
 |[],_=>.nil
 |a::ay,h=>aK.cons (by show bP K Z (.bl G) a.2;rw[h a cS];show mq _) (Dh λj hk=>h j (d_ _ hk))
def UO(h:∀D∈ay,D.2=.bl G):(e6 ay k (.bl G)).map (·.1)=js (ay.map (·.1)) k/\∀D∈e6 ay k (.bl G),D.2=.bl G:=by
 have e:(ay.any λD=>decide (D.1=k))=(ay.map (·.1)).any λj=>decide (j=k):=by rw[List.any_map];rfl
 unfold e6 js;split
 . rename_i q;rw[ax (e▸q),fE];show#[rX λD hk=>?_,λD hk=>?_]
   . grind
   . let(x,hx,rfl):=dA.mp hk;split
     . rfl
     . show h x hx
 . rename_i q;rw[a_ λz=>q (e▸z),eD];show#[O,λD hk=>?_];obtain hk|hk:=d6.mp hk
   . show h D hk
   . grind
def tp(fo:EF)(fi:AF)(fv:EF):SF:=λY=>(fv Y).bind λx=>(fo x.2).bind λo=>(fi o.2).bind λy=>match o.1.pv,tf (y.1.map Lc.pv),tj x.1.pv with
 |ZA n,!k,G=>match y.2.mu[n]? with
  |some (!(.dt ks ps))=>if (-ks<100000/\-k<=1000)/\ps.all tj=G then !(.nx #[y.2.vs,y.2.mu.set n (!(iP (js ks k)))]) else J
  |_=>J
 |_,_,_=>J
set_option tactic.hygienic true in
def UP(h:PS X (.Assign [.Subscript o ix tpos] e pos) (Rz (tP X.K fv) (Wk (tP X.K fo) (AR (jR X.K fi)) Y6))):PS X (.Assign [.Subscript o ix tpos] e pos) (iw X.K (tp fo fi fv)):=PS.imp h λD U H q=>by
 let(H0,Z0,Y,pd,fl,s,h,k):=q;let(x,h1,h2):=b_ h;let(o,h3,h4):=b_ h2;let(y,h5,j):=b_ h4;show#[H0,Z0,Y,pd,x.1,x.2,s,h1,λv H1 s1=>#[H0,Z0,x.2,_,o.1,o.2,s1.freeze,h3,λw H2 s2=>#[H0,Z0,o.2,_,y.1,y.2,s2.freeze,h5,λws H3 e3 s3=>?_]]];split at j
 . rename_i n F en ek et;split at j
   . rename_i ks ps em;split at j
     . rename_i hlen;let((wm,kS),ha):=hlen;cases j;let(el,Z,hg,z,rl,so):=s3.repl e3;let ew:=C_ ek rl;show#[by rw[ew,da,sizeLine_eq];lia,λb hb=>?_];let(z',lz,m_):=so.newF z hb;have s4:SR X.K H0 Z0 U (aI H3 b (.tup ws)) y.2 ((w,Zp o.1.pv)::(v,Zp x.1.pv)::pd):=#[el,Z.put b (.tup ws),hg,z',m_];rw[en]at s4;let(a,rfl,s5):=s4.cellO em;let(_,aT,_,_,r5,_):=(s5.perm ((List.Perm.swap _ _ _).trans ((List.Perm.swap _ _ _).cons _))).sh;have ev:v=.bl G:=by cases hx:x.1.pv<;>rw[hx]at et r5<;>first |(cases et;show r5) |cases et
       subst ev;let(UQ,cr,UR,z6,Dx):=s5.top;let(_,ea,(ay,hu,hk,hr),_):=Dx.1 _ cS;cases ea;let(p1,p2):=UO (Df ha hr);let(z7,s7):=Dx.write (q:=iP (js ks F)) z6 #[_,bZ,by rw[p1,hk],by rw[<-hk,<-p1];show Dh p2];let s8:=SR.cellP (.mk UQ UR z7 s7) (by show (y.2.mu.set n J)[n]?=_;rw[kt ((fr.mp em).1)]);rw[nK]at s8;show#[a,_,O,YY #[ay,F,b,hu,O,by rw[bZ,ew],by rw[<-da,hk,sizeLine_eq];lia,O],k U _ s8.pop]
     . cases j
   . cases j
 . cases j
theorem ah.knowAll:∀{D:BK}{Z:ZG},ah K H0 Z H L->jQ H0 Z0 Z H->(∀p∈D,H p.1=!(.tup (p.2.map nR)))->∃Z':ZG,iu Z Z'/\Z'.g=Z.g/\jQ H0 Z0 Z' H/\ah K H0 Z' H L/\∀p∈D,Z'.z p.1=!(.tup (p.2.map nR))
 |[],Z,s,z,_=>#[Z,iu.refl Z,O,z,s,λp h=>by cases h]
 |c::D,Z,s,z,h=>by
  let(z1,l1,s1):=s.know z (h c cS);let(Z',l2,g2,z2,F,h2):=ah.knowAll s1 z1 λp j=>h p (d_ _ j);show#[Z',l1.trans l2,g2,z2,F,λp j=>?_];obtain rfl|j:=bh.mp j
  . show l2.1 _ _ bZ
  . show h2 p j
theorem DA:∀{k:List aV},aK K Z (k.map wU) (k.map nR)
 |[]=>.nil
 |x::k=>aK.cons (by rcases x with _|i|y<;>(unfold bP;rfl)) DA
def US:PV->Option Lc
 |.dt ks _=>if -ks<9000/\Vu (ks.map λk=>k.map some)=G then !(Zs (R ((jV (ks.map λk=>k.map some)).map λk=>ZB (k.map wU)))) else J
 |_=>J
abbrev xA:List PV->Option Lc:=λps=>match ps with |[p]=>US p |_=>J
def UU:lQ K CF xA:=lQ.one λH0 Z0 U Y pd H v p l Q s e k=>by
 let(el,Z,hg,z,r,s1):=s.sh;cases p with
 |dt ks ps=>
  have e:(if -ks<9000/\Vu (ks.map λk=>k.map some)=G then !(Lc.own (R ((jV (ks.map λk=>k.map some)).map λk=>ZB (k.map wU)))) else J)=!l:=e;split at e
  . rename_i hl;cases e;let(a,ay,rfl,h3,h4,h5):=r;let(sh,hs):=Db hl.2;have ek:ay.map (λj=>j.1.map some)=ks.map λk=>k.map some:=by rw[<-h4,fE];rfl
    show#[a,ay,sh,O,z.zh _ _ h3,λj hk=>(hs _ (by rw[<-ek];show List.mem_map_of_mem hk)).1,by rw[<-da,h4];show hl.1,λq cs F m1 m2 pw=>k _ _ ?_];have es:cs.map (·.2)=jV (ks.map λk=>k.map some):=by
     show SX ∅ yF λy=>?_;rw[pC,<-ek];constructor
     . grind
     . intro hy;let(j,hk,rfl):=dA.mp hy;let(q,F,e):=m2 j hk;show dA.mpr #[q,F,e]
    rw[<-es];let(Z',lz,eg,z2,s2,kn):=s1.knowAll z λp D=>(m1 p D).1;let(z3,s3):=s2.new (p:=R ((cs.map (·.2)).map λk=>PV.tup (k.map wU))) z2 F #[_,bZ,Jk λp D=>by unfold bP;show#[p.1,_,O,cW.of (kn p D),DA]];show .mk el () z3 (by rw[eg];show s3)
  . cases e
 |_=>cases e
end
abbrev eW:=List (Option Lc)
def tq{α:Type}(o:Option α)(Q:α->Prop):Prop:=∃a,o=!a/\Q a
def gv(e:o=!a)(q:Q a):tq o Q:=#[a,e,q]
def qr{α:Type}(v:α)(K:α->Prop):Prop:=K v
def nx{K:α->Prop}(e:v=j)(k:K j):qr v K:=by subst e;show k
def ng(b:BF)(x:PV)(w:eW)(K:eW->Prop):Prop:=∃v1,(∀mu,b x #[w,mu]=!#[v1,mu])/\K v1
def bd{K:eW->Prop}(h:∀mu,b x #[w,mu]=!#[v1,mu])(e:v1=j)(k:K j):ng b x w K:=#[v1,h,e▸k]
def xB(v:eW)(i:Nat):Option PV:=match v[i]? with
 |some (!(Zp p))=>!p
 |_=>J
def qA(v:eW)(i:Nat):Option PV:=match v[i]? with
 |some (!(Zs p))=>!p
 |_=>J
def k8:PV->Option (List PV)
 |R ps=>!ps
 |_=>J
def Ea(v:eW)(i:Nat):Option (List PV):=(qA v i).bind k8
def DB(h:xB v i=!p):v[i]?=!(!(Zp p)):=by
 unfold xB at h;split at h
 . grind
 . cases h
def xC(h:qA v i=!p):v[i]?=!(!(Zs p)):=by
 unfold qA at h;split at h
 . grind
 . cases h
def on(h:Ea v i=!ps):v[i]?=!(!(Zs (R ps))):=by let(p,h1,h2):=b_ h;cases p<;>cases h2;show xC h1
section
variable {ι α β:Type}
def W(f:Ev->Option (α×Ev))(v:eW)(m:ι->Mu)(Q:α->eW->(ι->Mu)->Prop):Prop:=∃a v' m',Q a v' m'/\∀i,f #[v,m i]=!(a,#[v',m' i])
def ZT(g:GF)(ps:List PV)(Q:Lc->Prop):Prop:=∃r,Q r/\∀mu,g ps mu=!(r,mu)
def eH(f:SF)(v:eW)(m:ι->Mu)(N:eW->(ι->Mu)->Prop)(ZN:Lc->(ι->Mu)->Prop):Prop:=(∃v' m',N v' m'/\∀i,f #[v,m i]=!(.nx #[v',m' i]))\/∃r v' m',ZN r m'/\∀i,f #[v,m i]=!(.rt r #[v',m' i])
variable {v v1:eW}{m:ι->Mu}{fa fb f:EF}{a:AF}{Q:Lc->eW->(ι->Mu)->Prop}{QA:List Lc->eW->(ι->Mu)->Prop}{bS:Bool->eW->(ι->Mu)->Prop}{QI:List PV->eW->(ι->Mu)->Prop}{N:eW->(ι->Mu)->Prop}{ZN:Lc->(ι->Mu)->Prop}
def eH.mono(h:eH g v m N ZN)(k:∀v m,N v m->j v m)(k':∀r m,ZN r m->z r m):eH g v m j z:=h.elim (λ⟨v',m',q,e⟩=>Zl #[v',m',k _ _ q,e]) λ⟨r,v',m',q,e⟩=>YY #[r,v',m',k' _ _ q,e]
def eH.of(h:eH g' j z N ZN)(e:∀i,g #[v,m i]=g' #[j,z i]):eH g v m N ZN:=h.elim (λ⟨j,z,q,e2⟩=>Zl #[j,z,q,λi=>(e i).trans (e2 i)]) λ⟨r,j,z,q,e2⟩=>YY #[r,j,z,q,λi=>(e i).trans (e2 i)]
def UX{γ:Type}{ns:List γ}{e:γ->PV}{i:Int}(z:0<=i)(h1:i< -ns)(q:∀c∈ns,S (Zp (e c))):tq (qG (R (ns.map e)) (ZI i)) S:=by let(x,D,j):=uT (l:=ns.map e) z ∅;rw[eL]at j;let(c,F,rfl):=d4 j;show#[_,by show (fO (ns.map e) i).map _=_;rw[D];rfl,q c (gt F)]
def UY{i n:Int}(h:0<n):0<=i%n/\i%n<n:=#[kP _ (Int.ne_of_gt h),lE _ h]
def xD:PV->Option Int
 |ZI i=>!i
 |_=>J
def DC(h:xD p=!i):p=ZI i:=by cases p<;>cases h;rfl
def xE:List PV->Option Int
 |[ZI n]=>!n
 |_=>J
def UZ(h:xE (ls.map Lc.pv)=!n):∃l,ls=[l]/\l.pv=ZI n:=by
 unfold xE at h;split at h
 . grind
 . cases h
def qB(p:PV)(y z:Option Int):Option Lc:=match p with
 |R ps=>!(Zs (R (rm ps y z)))
 |ZH t=>if -t<=100000 then !(Zp (ZH (lY t y z))) else J
 |_=>J
def VA{lo hi:OF}(h:W f v m λx v1 m1=>W lo v1 m1 λy v2 m2=>W hi v2 m2 λz v3 m3=>tq (qB x.pv y z) λl=>Q l v3 m3):W (mF f lo hi) v m Q:=by
 let(x,_,_,(y,_,_,(z,v3,m3,(l,j,q),D),e2),e1):=h;show#[l,v3,m3,q,λi=>?_];unfold mF;rw[e1,c9,e2,c9,D,c9];cases e:x.pv<;>rw[e]at j<;>first
  |(cases j;rfl)
  |cases j
  |(unfold qB at j;dsimp only at j ⊢;split at j<;>cases j;rename_i F;show ax F)
section
variable {x y:PV}{p q:Int}{S:Lc->Prop}(hx:x=.int p)(hy:y=.int q)
include hx hy
end
def qE:Nat->(eW->Prop)->Prop
 |0,P=>P []
 |n+1,P=>∀o,qE n λl=>P (o::l)
def VC(h:P []):qE 0 P:=h
theorem qE.at:∀{n:Nat}{P:eW->Prop}{l:eW},qE n P->-l=n->P l
 |0,P,[],h,_=>h
 |n+1,P,o::l,h,e=>(h o).at (pb e)
def DE(b:BF)(te:EF)(k:Nat)(r:eW)(xs:List PV)(S:List PV->Prop):Prop:=∃ys,S ys/\∀mu,dF b bB te xs #[List.replicate k J++r,mu] []=!(ys,mu)
def Ct(b:BF)(te:EF)(k:Nat)(r:eW)(x:PV)(P:PV->Prop):Prop:=qE k λl=>ng b x (l++r) λv1=>W te v1 (λmu:Mu=>mu) λy v2 m2=>m2=(λmu=>mu)/\v2.drop k=r/\Nat.ble k (-v2)=G/\P y.pv
theorem DF:∀{L:List γ}{l:eW}{acc:List PV},-l=k->-acc+-L<=100000->(∀a∈L,Ct b te k r (e a) (P a))->
 ∃ys,Paired P L ys/\∀mu,dF b bB te (L.map e) #[l++r,mu] acc=!(acc++ys,mu)
 |[],l,acc,_,_,_=>#[[],.nil,λmu=>by rw[fg];rfl]
 |a::L,l,acc,hl,F,hs=>by let(v1,e1,y,v2,m2,(rfl,hd,hk,z),e2):=(hs a cS).at hl;let hk:=Nat.le_of_ble_eq_true hk;rw[db]at F;let(ys,p,D):=DF (l:=v2.take k) (acc:=acc++[y.pv]) ∅ ∅ λc hc=>hs c (d_ _ hc);show#[y.pv::ys,.cons z p,λmu=>?_];let j:=D mu;rw[<-hd,List.take_append_drop]at j;show (b (e a) _).bind _=_;rw[e1,c9];show (if G=G then (te _).bind _ else dF b bB te () #[v1,mu] acc)=_;rw[ax O,e2,c9,ax (),j];simp
def cw(L:List γ)(e:γ->PV)(P:γ->PV->Prop)(hx:xs=L.map e)(j:-L<=100000)(hs:∀a∈L,Ct b te k r (e a) (P a))(q:∀ys,Paired P L ys->S ys):DE b te k r xs S:=by subst hx;let(ys,p,h):=DF (acc:=[]) List.length_replicate ∅ hs;show#[ys,q ys p,h]
theorem DH{f:γ->PV}:∀{L:List γ}{ys:List PV},Paired (λa y=>y=f a) L ys->ys=L.map f
 |_,_,.nil=>rfl
 |_,_,.cons h t=>by rw[h,DH t];rfl
def VI{γ:Type}(L:List γ)(e:γ->PV)(f:γ->PV)(hx:xs=L.map e)(j:-L<=100000)(hs:∀a∈L,Ct b te k r (e a) λy=>y=f a)(q:S (L.map f)):DE b te k r xs S:=cw L e _ hx j hs λys p=>by rw[DH p];show q
def tw(dE:List Nat)(v:eW):eW:=(ie dE #[v,[]]).vs
theorem qS:∀{dE:List Nat}{v:eW}{mu:Mu},ie dE #[v,mu]=#[tw dE v,mu]
 |[],v,mu=>rfl
 |i::r,v,mu=>by
  unfold tw ie;rw[kz,kz];cases e:v[i]? with
  |none=> show qS
  |some o=>cases o with
   |none=> show qS
   |some l=> show qS
def xF{f g:SF}(h:eH f v m (λv1 m1=>eH g v1 m1 N ZN) ZN):eH (aF f g) v m N ZN:=by
 obtain⟨v1,m1,q,e⟩|⟨r,v1,m1,q,e⟩:=h
 . show q.of λi=>G7 (e i)
 . show YY #[r,v1,m1,q,λi=>G8 (e i)]
def VL(h:tq (v[i]?).join λl=>ZN l m):eH (gZ i) v m N ZN:=let #[l,e,q]:=h;YY #[l,v.set i J,m,q,λj=>by
 have e:v[i]?=!(!l):=by cases h:v[i]?<;>rw[h]at e<;>cases e;rfl
 show (match v[i]? with | some (!l)=>some (Fl.rt l (Ev.set #[v,m j] i J)) | _=>J)=_;rw[e];rfl]
def VM(q:N v m):eH bR v m N ZN:=Zl #[v,m,q,λ_=>O]
theorem DI:∀{xs:List PV}{v:eW}{m:ι->Mu}(I:Nat->eW->(ι->Mu)->Prop),I 0 v m->(∀(i:Nat) x v m,xs[i]?=!x->I i v m->ng b x v λv1=>eH body v1 m (I (i+1)) ZN)->(∀v m,I (-xs) v m->N v m)->eH (eN b body xs) v m N ZN
 |[],v,m,I,j,_,z=>Zl #[v,m,z _ _ j,λ_=>O]
 |x::xs,v,m,I,j,hs,z=>by
  let(v1,F,h):=hs 0 x v m O j;obtain⟨v2,m2,q,D⟩|⟨r,v2,m2,q,D⟩:=h
  . show eH.of (DI (λi=>I (i+1)) q (λi y v m e=>hs (i+1) y v m ()) z) λi=>?_;show (b x _).bind _=_;rw[F,c9,D,c9]
  . show YY #[r,v2,m2,q,λi=>by show (b x _).bind _=_;rw[F,c9,D,c9]]
def nh(I:eW->Nat->eW->(ι->Mu)->Prop)(j:I v 0 v m)(hs:∀(i:Nat) x w m (N:eW->(ι->Mu)->Prop),xs[i]?=!x->(∀w m,I v (i+1) w m->N w m)->I v i w m->ng b x w λv1=>eH body v1 m N ZN)(z:∀w m,I v (-xs) w m->N w m):eH (eN b body xs) v m N ZN:=DI (I v) j (λi x w m e h=>hs i x w m _ e (λ_ _ h=>h) h) z
def Ny{lo:Int}(h:(jo lo n)[i]?=!x):i<n/\x=ZI (lo+i):=by unfold jo at h;rw[eL]at h;let(j,z,rfl):=d4 h;let(h1,h2):=fr.mp z;rw[List.getElem_range]at h2;grind
def DJ(h:∀ZN:Lc->(Mu->Mu)->Prop,(∀r,S r->ZN r λmu=>mu)->qr (env0 n ps []).vs λv=>eH g v (λmu:Mu=>mu) (λ_ _=>False) ZN):ZT (cY n g) ps S:=by obtain⟨_,_,⟨⟩,_⟩|⟨r,z,j,⟨rfl,q⟩,e⟩:=h (λr m=>m=(λmu=>mu)/\S r) (λ_ h=>#[O,h]);show#[r,q,λmu=>aO (e mu)]
end
section
variable {ι α:Type}
def E(f:Ev->Option (α×Ev))(v:eW)(m:ι->Mu)(a:α)(v':eW)(m':ι->Mu):Prop:=∀i,f #[v,m i]=!(a,#[v',m' i])
variable {v v1 v2 v3:eW}{m m1 m2 m3:ι->Mu}{fa fb f:EF}{a:AF}{l x y:Lc}{ls:List Lc}{ps ws ws0:List PV}{p:PV}{b b2:Bool}{i:Nat}{N:eW->(ι->Mu)->Prop}{ZN:Lc->(ι->Mu)->Prop}
def E.w{f:Ev->Option (α×Ev)}{a:α}(h:E f v m a v1 m1)(q:Q a v1 m1):W f v m Q:=#[a,v1,m1,q,h]
def e_v(h:xB v i=!p):E (aa i) v m (Zp p) v m:=λj=>by show (match v[i]? with |some (!l)=>some (Lc.sh l.pv,Ev.set #[v,m j] i (!(Zp l.pv))) |_=>J)=_;rw[DB h];show some (Lc.sh p,Ev.set #[v,m j] i (!(Zp p)))=_;rw[Ev.set_self (DB h)]
def VO(h:qA v i=!p)(z:v.set i (!(Zp p))=v1):E (aa i) v m (Zp p) v1 m:=λj=>by subst z;show (match v[i]? with |some (!l)=>some (Lc.sh l.pv,Ev.set #[v,m j] i (!(Zp l.pv))) |_=>J)=_;rw[xC h];rfl
def e_c:E (eC p) v m (Zp p) v m:=λ_=>O
def DL(h1:E fa v m x v1 m1)(h2:E fb v1 m1 y v2 m2)(j:g x.pv y.pv=!l):E (au g fa fb) v m l v2 m2:=λi=>bC (h1 i) (h2 i) j
def VQ:E ao v m [] v m:=λ_=>O
def VS(h1:E fa v m x v1 m1)(h2:E a v1 m1 ls v2 m2):E (aj fa a) v m (x::ls) v2 m2:=λi=>Xz (h1 i) (h2 i)
def VT(h1:E a v m ls v1 m1)(j:Nat.ble (-ls) 1000=G)(z:ls.map Lc.pv=ps):E (aX a) v m (Zp (ZB ps)) v1 m1:=λi=>dm (h1 i) j z
def VU(h1:E a v m ls v1 m1)(j:Nat.ble (-ls) 1000=G)(z:ls.map Lc.pv=ps):E (cu a) v m (Zs (R ps)) v1 m1:=λi=>pQ (h1 i) j z
def e_b(h1:E a v m ls v1 m1)(h2:g (ls.map Lc.pv)=!l):E (eB g a) v m l v1 m1:=λi=>C9 (h1 i) h2
def xH(h1:E a v m ls v1 m1)(j:ls.map Lc.pv=ps)(h2:∀i,g ps (m1 i)=!(l,m2 i)):E (aN g a) v m l v1 m2:=λi=>Xy (h1 i) ∅
def e_T(h1:E f v m x v1 m1)(h2:j x.pv=!b):E (tT f j) v m b v1 m1:=λi=>jU (h1 i) h2
def VW{c d:TF}(h1:E c v m b v1 m1)(h2:b=G->E d v1 m1 b2 v1 m1):E (eE c d) v m (b&&b2) v1 m1:=λi=>and_goD' (h1 i) λe=>h2 e i
where and_goD' {c d:TF} {Y Y1:Ev} {b b2:Bool} (h:c Y=!(b,Y1)) (h2:b=G->d Y1=!(b2,Y1)):eE c d Y=!(b&&b2,Y1):=Sf h h2
def VX{c d:TF}(h1:E c v m b v1 m1)(h2:b=M->E d v1 m1 b2 v1 m1):E (tO c d) v m (b||b2) v1 m1:=λi=>Si (h1 i) λe=>h2 e i
def VY{c:TF}(h1:E c v m b v1 m1):E (Br c) v m (not b) v1 m1:=λi=>Vi (h1 i)
def DM(h1:E fa v m x v1 m1)(h2:E fb v1 m1 y v2 m2)(j:qG x.pv y.pv=!l):E (aJ fa fb) v m l v2 m2:=λi=>dG (h1 i) O (h2 i) O (λn z=>by rw[z]at j;cases j) j
def VZ(h1:E f v m x v1 m1)(h2:g x.pv=!xs):E (dh f g) v m xs v1 m1:=λi=>dC (h1 i) h2
def V5(h1:E a v m ls v1 m1)(h2:xE (ls.map Lc.pv)=!n)(z:-1000000<n/\n<1000000):E (iK a) v m (jo 0 n.toNat) v1 m1:=by let(l,rfl,j):=UZ h2;show λi=>mY (h1 i) j () ()
def V6(h1:E f v m x v1 m1)(h2:xD x.pv=!n):E (cM f) v m (!n) v1 m1:=λi=>by unfold cM;rw[h1 i,c9,DC h2]
def V9:E eU v m J v m:=λ_=>O
def V_{lo hi:OF}(h1:E f v m x v1 m1)(h2:E lo v1 m1 s v2 m2)(h3:E hi v2 m2 t v3 m3)(z:qB x.pv s t=!l):E (mF f lo hi) v m l v3 m3:=by let(_,_,_,(j,D,F),e):=VA (Q:=λa b c=>a=l/\b=v3/\c=m3) (h1.w (h2.w (h3.w (gv z #[O,O,O]))));subst j D F;show e
def DO(p:PV)(y z:Option Int):Option Lc:=match p with
 |ZB ps=>if HT.sIx (-ps) 0 y=0/\HT.sIx (-ps) (-ps) z=-ps then J else !(Zp (ZB (rm ps y z)))
 |_=>J
def Wb{lo hi:OF}(h1:E f v m x v1 m1)(h2:E lo v1 m1 s v2 m2)(z:E hi v2 m2 t v3 m3)(j:DO x.pv s t=!l):E (j7 f lo hi) v m l v3 m3:=λi=>by
 unfold j7;rw[h1,c9,h2,c9,z,c9];unfold DO at j;cases e:x.pv<;>rw[e]at j<;>first
  |cases j
  | (dsimp only at j ⊢;split at j;· cases j
     . rename_i q;cases j;show a_ q)
def Cq(b:BF)(te:EF)(k:Nat)(r:eW)(xs ys:List PV):Prop:=∀mu,dF b bB te xs #[List.replicate k J++r,mu] []=!(ys,mu)
def Wc{F:IF}{r:eW}(h1:E F v m xs v1 m1)(j:tw dE v1=v2)(z:(dE.map λi=>(v2[i]?).join)=r)(h2:Cq B te k r xs ys):E (bU F k dE B bB te) v m (Zs (R ys)) v2 m1:=λi=>by subst z j;rw[eF (h1 i) (by rw[qS];show h2 _),qS]
def DS{γ:Type}{b:BF}{L:List γ}{e:γ->PV}(f:γ->PV)(j:-L<=100000)(hs:∀a∈L,Ct b te k r (e a) λy=>y=f a):Cq b te k r (L.map e) (L.map f):=by let(ys,rfl,h):=VI L e f O j hs O;show h
def Wd{b:BF}(f:Nat->PV)(j:n<=100000)(hs:∀i:Nat,i<n->Ct b te k r (ZI (0+i)) λy=>y=f i):Cq b te k r (jo 0 n) ((List.range n).map f):=DS f ∅ λi hi=>hs i ∅
def tx(h:E f v m l v1 m1)(D:Nat.blt i (-v1)=G)(z:v1.set i (!l)=v2)(k:N v2 m1):eH (aL i f) v m N ZN:=Zl #[v2,m1,k,λj=>bu (h j) D (by rw[<-z];rfl)]
def qV(h:E f v m l v1 m1)(k:ZN l m1):eH (cI f) v m N ZN:=YY #[l,v1,m1,k,λi=>C7 (h i)]
def DT{c:TF}{f g:SF}(h:E c v m G v1 m1)(k:eH f v1 m1 N ZN):eH (cC c f g) v m N ZN:=k.of λi=>lR (h i)
def DU{c:TF}{f g:SF}(h:E c v m M v1 m1)(k:eH g v1 m1 N ZN):eH (cC c f g) v m N ZN:=k.of λi=>lU (h i)
def Wp{c:TF}{f g:SF}(h:E c v m b v1 m1)(k:(b=G/\eH f v1 m1 N ZN)\/(b=M/\eH g v1 m1 N ZN)):eH (cC c f g) v m N ZN:=by
 obtain⟨rfl,k⟩|⟨rfl,k⟩:=k
 . show DT h k
 . show DU h k
def WA{c:TF}{f g:SF}(h:E c v m b v1 m1)(z:b=G->eH f v1 m1 N ZN)(j:b=M->eH g v1 m1 N ZN):eH (cC c f g) v m N ZN:=by
 cases b with
 |true=>show DT h (z O)
 |false=>show DU h (j O)
def WB(j:Ea v i=!ws0)(h:E f v m l v1 m1)(h1:Ea v1 i=!ws)(D:-ws<100000)(z:v1.set i (!(Zs (R (ws++[l.pv]))))=v2)(k:N v2 m1):eH (jM i f) v m N ZN:=Zl #[v2,m1,k,λi=>pR (on j) (h i) O (on h1) D (by rw[<-z];rfl)]
def WC(D:Ea v i=!ws0)(h:E f v m l v1 m1)(j:k8 l.pv=!ps)(h1:Ea v1 i=!ws)(F:-ws+-ps<=100000)(z:v1.set i (!(Zs (R (ws++ps))))=v2)(k:N v2 m1):eH (gb i f) v m N ZN:=by
 have ep:l.pv=R ps:=by cases h:l.pv<;>rw[h]at j<;>cases j;rfl
 show Zl #[v2,m1,k,λi=>jZ (on D) (h i) ep (on h1) F (by rw[<-z];rfl)]
def WE{D j:EF}(h:E j v m l v1 m1)(F:Ea v1 i=!ws0)(h2:E D v1 m1 x v2 m2)(hk:xD x.pv=!k)(h1:Ea v2 i=!ws)(z:0<=k/\k< -ws)(hv:v2.set i (!(Zs (R (ws.set k.toNat l.pv))))=v3)(q:N v3 m2):eH (Bu i D j) v m N ZN:=Zl #[v3,m2,q,λi=>Sj (h i) O (on F) (h2 i) (DC hk) (on h1) (by unfold uL;rw[ax z.1,ax z.2]) (by rw[<-hv];rfl)]
def WG{F:IF}(h:E F v m xs v1 m1)(k:eH (eN B body xs) v1 m1 N ZN):eH (fX F B body) v m N ZN:=k.of λi=>C8 (h i)
def WH(h:E f v m l v1 m1)(k:N v1 m1):eH (rW f) v m N ZN:=Zl #[v1,m1,k,λi=>Se (h i)]
def WI(h:E f v m l v1 m1)(k:ng B l.pv v1 λv2=>N v2 m1):eH (Xn f B) v m N ZN:=let #[v2,e,q]:=k;Zl #[v2,m1,q,λi=>by unfold Xn;rw[h i];show congrArg (Option.map _) (e _)]
def DV(h:ng B q v λv1=>eH body v1 m (λv2 m2=>eH (eN B body xs) v2 m2 N ZN) ZN):eH (eN B body (q::xs)) v m N ZN:=by
 let(v1,z,h):=h;obtain⟨v2,m2,h,j⟩|⟨r,v2,m2,h,j⟩:=h
 . show h.of λi=>by show (B q _).bind _=_;rw[z,c9,j,c9]
 . show YY #[r,v2,m2,h,λi=>by show (B q _).bind _=_;rw[z,c9,j,c9]]
def DZ(h:N v m):eH (eN B body []) v m N ZN:=Zl #[v,m,h,λ_=>O]
def WJ{fo j:EF}{z:AF}(h1:E j v m l v1 m1)(h2:E fo v1 m1 o v2 m2)(h3:E z v2 m2 ls v3 m3)(D:o.pv=ZA n)(hk:tf (ls.map Lc.pv)=!k)(ht:tj l.pv=G)(hm:∀i,(m3 i)[n]?=!(!(iP ks)))(F:-ks<100000/\-k<=1000)(q:N v3 λi=>(m3 i).set n (!(iP (js ks k)))):eH (tp fo z j) v m N ZN:=Zl #[v3,_,q,λi=>by unfold tp;rw[h1,c9,h2,c9,h3,c9,D,hk,ht];show (match (m3 i)[n]? with |some (!(.dt ks ps))=>_ |_=>_)=_;rw[hm];show ax #[F,by rw[List.all_map,List.all_eq_true];show λ_ _=>O]]
def D0{x y:PV}{a b:Str}(hx:x=ZH a)(hy:y=ZH b)(h:-a+-b<=100000):bf x y=!(Zp (ZH (a++b))):=by subst hx hy;show ax h
def WO{x y:PV}{a b:List PV}(hx:x=R a)(hy:y=R b)(h:-a+-b<=100000):bf x y=!(Zs (R (a++b))):=by subst hx hy;show ax h
def D1{c:TF}(h:E c v m b v1 m1)(z:b=G->E fa v1 m1 l v2 m2)(j:b=M->E fb v1 m1 l v2 m2):E (Zb c fa fb) v m l v2 m2:=λi=>by
 unfold Zb;rw[h i,c9];cases b with
 |true=>show z O i
 |false=>show j O i
def WQ{x y:PV}{p q:Int}(hx:x=ZI p)(hy:y=ZI q)(h:(-18446744073709551616<p/\p<18446744073709551616)\/(-18446744073709551616<q/\q<18446744073709551616)):gM x y=!(Zp (ZI (p*q))):=h.elim (λh=>Sn hx hy h.1 h.2) λh=>So hx hy h.1 h.2
def WS{x y:PV}{p q:Int}(hx:x=ZI p)(hy:y=ZI q)(h:0<q/\q<1073741824):bO x y=!(Zp (ZI (p/q))):=M7 hx hy h.1 h.2
end
def io(h:∀ZN:Lc->(Unit->Mu)->Prop,(ZN r λ_=>j)->qr (env0 n ps []).vs λv=>eH g v (λ_=>mu) (λ_ _=>False) ZN):cY n g ps mu=!(r,j):=by obtain⟨_,_,⟨⟩,_⟩|⟨x,D,z,⟨rfl,rfl⟩,e⟩:=h (λx m=>x=r/\m=λ_=>j) #[O,O];show aO (e ⟨⟩)
def WU{f:EF}(h:E (ι:=Unit) f v (λ_=>mu) (Zs p) v1 λ_=>j):E (ι:=Unit) (oh f) v (λ_=>mu) (Zp (ZA (-j))) v1 λ_=>j++[!p]:=λi=>by unfold oh;rw[h i];rfl
section
variable {ι:Type}{v v1 v2 v3 be:eW}{m m1 m2 m3 m4:ι->Mu}{f:EF}{x l:Lc}{i:Nat}{p:PV}{ps:List PV}
def WV(h:v[i]?=!(!l))(D:l.pv=p)(z:v.set i (!(Zp p))=v1):E (aa i) v m (Zp p) v1 m:=λj=>by show (match v[i]? with |some (!l)=>some (Lc.sh l.pv,Ev.set #[v,m j] i (!(Zp l.pv))) |_=>J)=_;rw[h,<-z,<-D];rfl
def WZ{lo hi st:OF}(h1:E f v m x v1 m1)(j:k8 x.pv=!ps)(h2:E lo v1 m1 a v2 m2)(D:E hi v2 m2 b v3 m3)(z:E st v3 m3 (!n) be m4)(F:0<n):E (DN f lo hi st) v m (Zs (R (pk ps a b (!n)))) be m4:=λi=>by
 have q:x.pv=R ps:=by cases e:x.pv<;>rw[e]at j<;>cases j;rfl
 unfold DN;rw[h1,c9,h2,c9,D,c9,z,c9,q];grind
def W1(h:E f v m x v1 m1)(j:k8 x.pv=!ps):E (uU f) v m (ps.zipIdx.map λx=>ZB [ZI (x.2:Nat),x.1]) v1 m1:=λi=>by
 have q:x.pv=R ps:=by cases e:x.pv<;>rw[e]at j<;>cases j;rfl
 unfold uU;rw[h,c9,q];rfl
end
def W_{S:Lc->Prop}(h:∀ZN:Lc->(Mu->Mu)->Prop,(∀r m,S r->ZN r m)->qr (env0 n ps []).vs λv=>eH g v (λmu:Mu=>mu) (λ_ _=>False) ZN):∃r,S r/\∀mu,∃j,cY n g ps mu=!(r,j):=by obtain⟨_,_,⟨⟩,_⟩|⟨r,D,z,s,e⟩:=h (λr _=>S r) λ_ _ s=>s;show#[r,s,λmu=>#[z mu,aO (e mu)]]
end PL
namespace Law
open PL.PV renaming lst→R,int→ZI,str→ZH,tup→ZB,ptr→ZA
open PL.Lc renaming own→Zs,sh→Zp
open PySem PySem.Spec PyProof.Rows L2 PL
local macro_rules | `(tactic| walk_at "sc")=>`(tactic| exact⟨rfl,rfl,rfl,by decide +kernel,rfl,by decide +kernel,by decide +kernel⟩)
def mI{l:List Str}(i:Nat)(h:l[i]?=!a):a∈l:=gt h
noncomputable def top (i:Nat):Stmt:=PySem.Challenge.pw_hushwise_k32_rules_as_a_row_begins.main.body.getD i (.Pass #[0,0,0,0])
abbrev wj:Stmt:=top 1
abbrev oR:Stmt:=top 2
abbrev yG:Stmt:=top 3
abbrev mG:Stmt:=top 4
abbrev uh:Stmt:=top 5
abbrev ul:Stmt:=top 6
abbrev yH:Stmt:=top 7
abbrev BX:Stmt:=top 8
abbrev um:Stmt:=top 9
abbrev yI:Stmt:=top 10
abbrev pY:Stmt:=top 14
abbrev rE:Stmt:=top 15
abbrev pZ:Stmt:=top 16
abbrev jF:Stmt:=top 17
abbrev lV:Stmt:=top 18
abbrev rF:Stmt:=top 19
abbrev qd:Stmt:=top 20
abbrev oA:Stmt:=top 21
abbrev qe:Stmt:=top 22
abbrev oE:Stmt:=top 23
abbrev rG:Stmt:=top 25
abbrev mH:Stmt:=top 26
abbrev nO:Stmt:=top 27
abbrev uo:Stmt:=top 28
abbrev sE:Stmt:=top 29
abbrev uZ:Stmt:=top 30
abbrev il:Stmt:=top 31
abbrev lg:Stmt:=top 32
abbrev nY:Stmt:=top 33
abbrev lq:Stmt:=top 34
abbrev uq:Stmt:=top 35
abbrev oq:Stmt:=top 36
abbrev vP:Stmt:=top 37
abbrev j8:Stmt:=ed (top 12) 0
abbrev qg:Stmt:=ed (top 12) 1
abbrev rH:Stmt:=ed (top 12) 3
abbrev wk:Stmt:=ed (top 12) 4
abbrev u5:Stmt:=ed (top 12) 5
abbrev tU:Stmt:=ed (top 12) 6
abbrev u6:Stmt:=ed (top 12) 7
abbrev tV:Stmt:=ed (top 12) 8
abbrev mJ:Stmt:=ed (top 12) 9
abbrev j9:Stmt:=ed (top 12) 10
def M6:bz ["row"] ["row"] (aG wj):=by walk_at "sc"
def Cu:bz ["row"] ["row"] (aG oR):=by walk_at "sc"
def Vv:bz ["row"] ["row"] (aG yG):=by walk_at "sc"
def JN:bz ["rows"] ["rows"] (aG mG):=by walk_at "sc"
def sH:bz ["rows","told","row","block"] ["rows"] (aG uh):=by walk_at "sc"
def lH:bz ["where","above","block","rows","start","told","row","number","place","inner"] ["where","above","block","rows","start"] (aG ul):=by walk_at "sc"
def lJ:bz ["program","told","name","rank","params","rows"] ["program"] (aG yH):=by walk_at "sc"
def Yc:bz ["expression"] ["expression"] (aG BX):=by walk_at "sc"
def O3:bz ["expression"] ["expression"] (aG um):=by walk_at "sc"
def Vw:bz ["row"] ["row"] (aG yI):=by walk_at "sc"
def oF:bz ["plan","k","row","told","numbers"] ["plan","k"] (aG pY):=by walk_at "sc"
def yJ:bz ["program","plan","told","k"] ["program"] (aG rE):=by walk_at "sc"
def JP:bz ["expression"] ["expression"] (aG pZ):=by walk_at "sc"
def oU:bz ["plan","k","ahead","told"] ["plan","k"] (aG jF):=by walk_at "sc"
def kh:bz ["plan","k","outer","told","row"] ["plan","k"] (aG lV):=by walk_at "sc"
def qi:bz ["plan","k","numbers","told"] ["plan","k"] (aG rF):=by walk_at "sc"
def jD:bz ["plan","k","row","told","param","expression"] ["plan","k"] (aG qd):=by walk_at "sc"
def rJ:bz ["k","name","some","told","expression"] ["k","name","some"] (aG oA):=by walk_at "sc"
def zc:bz ["plan","k","row"] ["plan","k"] (aG qe):=by walk_at "sc"
def rK:bz ["plan","k","home","numbers"] ["plan","k"] (aG oE):=by walk_at "sc"
def Ge:bz ["_law_script","_law_k"] ["_law_script","_law_k"] (aG rG):=by walk_at "sc"
def gq:bz ["_law_cell","_law_count","_law_letters","_law_names_here","_law_text","_law_k","_law_size_here","_law_at","_law_signs"] ["_law_cell","_law_count"] (aG mH):=by walk_at "sc"
def cR:bz ["_law_cell","_law_own","_law_lists","_law_made","_law_k","_law_step","_law_other","_law_sign"] ["_law_cell","_law_own","_law_lists"] (aG nO):=by walk_at "sc"
def iy:bz ["_law_cell","_law_own","_law_lists","_law_heads_here","_law_whos","_law_one","_law_other","_law_kind","_law_goal","_law_name","_law_params","_law_some"] ["_law_cell","_law_own","_law_lists","_law_heads_here","_law_whos"] (aG uo):=by walk_at "sc"
def mK:bz ["_law_cells","_law_own","_law_lists","_law_heads_here","_law_whos","_law_body","_law_stack","_law_cell","_law_row_here"] ["_law_cells","_law_own","_law_lists","_law_heads_here","_law_whos"] (aG sE):=by walk_at "sc"
def oG:bz ["_law_cell","_law_names_here","_law_heads_here","_law_j","_law_size_here"] ["_law_cell","_law_names_here"] (aG uZ):=by walk_at "sc"
def cD:bz ["_law_script","_law_cell","_law_names_here","_law_ranks","_law_numbers","_law_lists","_law_heads_here","_law_boxes","_law_cells","_law_whos","_law_functions","_law_j","_law_head","_law_rows_here"] ["_law_script"] (aG il):=by walk_at "sc"
def Hc:bz ["_law_row_here"] ["_law_row_here"] (aG lg):=by walk_at "sc"
def qj:bz ["_law_rows_here","_law_size_here","_law_row_here"] ["_law_rows_here"] (aG nY):=by walk_at "sc"
def jk:bz ["_law_row_here","_law_k","_law_got","_law_first","_law_block"] ["_law_row_here","_law_k"] (aG lq):=by walk_at "sc"
def Xr:bz ["_law_expression_here"] ["_law_expression_here"] (aG uq):=by walk_at "sc"
def xI:bz ["_law_rows_here","_law_first","_law_begins","_law_due_here","_law_k","_law_ahead","_law_row_here","_law_kind","_law_node","_law_within","_law_block"] ["_law_rows_here","_law_first","_law_begins","_law_due_here"] (aG oq):=by walk_at "sc"
def jG:bz ["_law_script","_law_program_here","_law_due_here","_law_k","_law_name","_law_rank","_law_params","_law_rows_here","_law_got","_law_some","_law_rule"] ["_law_script"] (aG vP):=by walk_at "sc"
def dR:bz ["self","program","told","lists","number","one","heads","name","rank","params","rows"] ["self","program"] (aG j8):=by walk_at "sc"
def DQ:bz ["self"] ["self"] (aG qg):=by walk_at "sc"
def Gf:bz ["self","name"] ["self","name"] (aG rH):=by walk_at "sc"
def M8:bz ["self","k"] ["self","k"] (aG wk):=by walk_at "sc"
def JQ:bz ["self","k"] ["self","k"] (aG u5):=by walk_at "sc"
def Hf:bz ["self","k"] ["self","k"] (aG tU):=by walk_at "sc"
def JR:bz ["self","name"] ["self","name"] (aG u6):=by walk_at "sc"
def Hh:bz ["self","k","which"] ["self","k","which"] (aG tV):=by walk_at "sc"
def lM:bz ["self","k","beside","place"] ["self","k"] (aG mJ):=by walk_at "sc"
def Cv:bz ["self","numbers"] ["self","numbers"] (aG j9):=by walk_at "sc"
section
variable [HK]
abbrev Xs:=aj (aJ (aa 0) (ai 3)) ao
abbrev tz:=aj (aJ (aa 0) (ai 2)) ao
abbrev D2:=cI (cu (aj (aJ (aa 0) (ai 2)) ao))
abbrev tF:=tT (au eR (aJ (aa 0) (ai 0)) (c6 "if")) aY
abbrev D3:=tT (au eR (aJ (aa 0) (ai 0)) (c6 "while")) aY
abbrev D4:=cI (cu (aj (aJ (aa 0) (ai 2)) (aj (aJ (aa 0) (ai 3)) ao)))
def gJ:GF:=cY 1 (aF (cC tF
 D4
 bR)
 (aF (cC D3
 D2
 bR)
 (cI (cu ao))))
abbrev xJ:=aj (aJ (aa 0) (ai 1)) ao
abbrev Xt:=cI (cu (aj (aJ (aa 0) (ai 1)) ao))
abbrev XA:=eB g9 (aj (aJ (aa 0) (ai 3)) ao)
abbrev xK:=tT (au eR (aJ (aa 0) (ai 0)) (c6 "call")) aY
def km:GF:=cY 1 (aF (cC (tO tF D3)
 Xt
 bR)
 (aF (cC (tT (au eR (aJ (aa 0) (ai 0)) (c6 "put")) aY)
 D4
 bR)
 (aF (cC xK
 (cI XA)
 bR)
 D2)))
mutual
def kE:Nat->GF
 |0=>λ_ _=>J
 | n+1=>cY 1 (aF (cC (tT (au eR (aJ (aa 0) (ai 0)) (c6 "if")) aY)
  (cI (aX (aj (c6 "if") (aj (aJ (aa 0) (ai 1)) (aj (aN (bi n) (aj (aJ (aa 0) (ai 2)) ao)) (aj (aN (bi n) (aj (aJ (aa 0) (ai 3)) ao)) ao))))))
  bR)
  (aF (cC (tT (au eR (aJ (aa 0) (ai 0)) (c6 "while")) aY)
  (cI (aX (aj (c6 "while") (aj (aJ (aa 0) (ai 1)) (aj (aN (bi n) (aj (aJ (aa 0) (ai 2)) ao)) ao)))))
  bR)
  (aF (cC (tT (au eR (aJ (aa 0) (ai 0)) (c6 "call")) aY)
  (cI (aX (aj (c6 "call") (aj (aJ (aa 0) (ai 1)) (aj (aJ (aa 0) (ai 2)) (aj (eB g9 (aj (aJ (aa 0) (ai 3)) ao)) ao))))))
  bR)
  (gZ 0))))
def bi:Nat->GF
 |0=>λ_ _=>J
 |n+1=>cY 1 (cI (bU (dh (aa 0) bJ) 1 [] (aC 0) bB (aN (kE n) (aj (aa 0) ao))))
end
def iz:Nat->GF
 |0=>λ_ _=>J
 | n+1=>cY 4 (aF (aL 1 (cu ao))
  (aF (fX (dh (aa 0) bJ) (aC 2)
  (aF (jM 1 (aa 2))
  (fX (dh (aN gJ (aj (aa 2) ao)) bJ) (aC 3)
  (gb 1 (aN (iz n) (aj (aa 3) ao))))))
  (gZ 1)))
abbrev xL:=fC 2 (aW (aC 8) (aW (aC 9) fu))
abbrev XB:=vL (au bf (aa 4) (eB cz (aj (aa 5) ao)))
abbrev D5:=aL 7 XB
abbrev XI:=aX (aj (aa 0) (aj (aa 1) (aj (aa 2) (aj (aN (kE 40) (aj (aa 6) ao)) ao))))
abbrev D6:=jM 5 XI
abbrev D7:=aj (aa 7) (aj (aa 8) (aj (aa 9) (aj (vL (au bf (aa 4) (eB cz (aj (aa 5) ao)))) ao)))
abbrev XO:=aj (aa 0) D7
def gP:Nat->GF
 |0=>λ_ _=>J
 | n+1=>cY 10 (aF (aL 5 (cu ao))
  (aF (fX (dh (aa 3) bJ) (aC 6)
  (aF D5
  (aF D6
  (fX (uU (aN gJ (aj (aa 6) ao))) xL
  (gb 5 (aN (gP n) XO))))))
  (gZ 5)))
abbrev xQ:SF:=(gb 1 (aN (gP 40) (aj (aa 2) (aj (eC .non) (aj (ai 0) (aj (aa 5) (aj (vL (eB cz (aj (aa 1) ao))) ao)))))))
abbrev XT:=aj (vL (eB cz (aj (aa 1) ao))) ao
abbrev D8:=aW (aC 4) (aW (aC 5) fu)
abbrev D9:=fC 4 (aW (aC 2) (aW (aC 3) D8))
def yK:GF:=cY 6 (aF (aL 1 (cu ao))
 (aF (fX (dh (aJ (aa 0) (ai 2)) bJ) D9
 xQ)
 (aF (gb 1 (aN (gP 40) (aj (c6 "main") (aj (eC .non) (aj (ai 0) (aj (aJ (aa 0) (ai 3)) XT))))))
 (gZ 1))))
abbrev XU:=tT (au eR (aJ (aa 0) (ai 0)) (c6 "@")) aY
abbrev XW:=tT (au eR (aJ (aa 0) (ai 0)) (c6 "num")) aY
abbrev XY:=tT (au eR (aJ (aa 0) (ai 0)) (c6 "box")) aY
def ni:Nat->GF
 |0=>λ_ _=>J
 | n+1=>cY 1 (aF (cC XW
  (cI (cu ao))
  bR)
  (aF (cC XY
  (cI (cu (aj (aX (aj (c6 "box") xJ)) ao)))
  bR)
  (aF (cC XU
  (cI (au bf (cu (aj (aX (aj (c6 "list") xJ)) ao)) (aN (ni n) tz)))
  bR)
  (cI (au bf (aN (ni n) xJ) (aN (ni n) tz))))))
abbrev D_:=aW (aC 0) (aW (aC 1) fu)
abbrev q5:=fC 2 D_
def yL:GF:=cY 1 (cI (yw (bU (dh (aN (ni 40) (aj (aa 0) ao)) bJ) 2 [] q5 bB (aa 1))))
abbrev vc:=au pB (aJ (aa 0) (ai 0)) (aX (aj (c6 "while") (aj (c6 "call") ao)))
def yM:GF:=cY 1 (cI (eB Aj (aj (bU (dh (aN (iz 40) (aj (cu (aj (aa 0) ao)) ao)) bJ) 1 [] (aC 0) bB vc) ao)))
abbrev Eb:=jB "Plan" "told" (aa 0)
abbrev xS:=jB "Plan" "lists" (aa 0)
abbrev tI:=aj (aa 1) (aj (aa 2) ao)
abbrev tJ:=aJ (jB "Plan" "told" (aa 0)) (aa 1)
abbrev XZ:=aJ tJ (ai 0)
abbrev Ec:=aJ (aJ (jB "Plan" "told" (aa 0)) (aa 1)) (ai 0)
abbrev Ee:=aj Ec tI
abbrev EA:=aX (aj Ec tI)
def dZ:GF:=cY 3 (cI (eB g9 (aj (yD xS EA) ao)))
def dY:GF:=cY 2 (cI (aJ tJ (ai 3)))
abbrev EB:=aj (cX "Plan" "row" dY (aa 1) (aj (aa 0) ao)) ao
def fV:GF:=cY 2 (cI (eB Aj (aj (bU (dh (aa 1) bJ) 1 [0] (aC 0) bB (aN yM EB)) ao)))
abbrev X0:=au bf (c6 "leave ") (aJ (aa 2) (ai 2))
abbrev EC:=aj (aa 0) (aj (aJ (aa 4) (jq (ai 1))) ao)
abbrev ED:=tT (au eR (aJ (aa 2) (ai 0)) (c6 "if")) aY
abbrev X1:=cX "Plan" "spending" fV (aa 0) (aj (aa 4) ao)
abbrev tN:=cX "Plan" "row" dY (aa 0) (aj (aa 1) ao)
abbrev x0:=aL 2 tN
abbrev x6:=tT (au eR (aJ (aa 2) (ai 0)) (c6 "call")) aY
abbrev EE:=jM 3 (au bf (c6 "leave ") (aJ (aa 2) (ai 2)))
abbrev EG:=tT (cX "Plan" "spending" fV (aa 0) (aj (aa 4) ao)) qW
abbrev EI:=cX "Plan" "block" dZ (aa 0) (aj (aa 1) (aj (ai 0) ao))
abbrev EJ:=dh (aX (aj EI (aj (cX "Plan" "block" dZ (aa 0) (aj (aa 1) (aj (ai 1) ao))) ao))) bJ
def dJ:Nat->GF
 |0=>λ_ _=>J
 | n+1=>cY 5 (aF x0
  (aF (aL 3 (cu (aj (nW "at " (aa 1)) ao)))
  (aF (cC x6
  EE
  bR)
  (aF (cC ED
  (fX EJ (aC 4)
  (cC EG
  (gb 3 (aN (dJ n) EC))
  bR))
  bR)
  (gZ 3)))))
abbrev x8:=fC 2 D8
abbrev EK:=BR 3 (j7 (aa 5) eU (cM (ai 3)))
abbrev EL:=fC 4 (aW (aC 7) (aW (aC 8) (aW (aC 9) (aW (aC 10) fu))))
def kI:GF:=cY 11 (aF (aL 2 (aN yK (aj (aa 1) ao)))
 (aF (aL 3 Vt)
 (aF (fX (uU (aa 2)) x8
 (ou EK (aa 4)))
 (aF (aL 6 Vo)
 (aF (fX (dh (aJ (aa 1) (ai 2)) bJ) EL
 (FJ 6 (aa 7) (bU (dh (aa 9) bJ) 2 [] q5 bB (aa 0))))
 (aF (BP "Plan" "told" (aa 0) (aa 2))
 (aF (BP "Plan" "lists" (aa 0) (M4 (aa 3)))
 (BP "Plan" "heads" (aa 0) (aa 6)))))))))
def qm:GF:=cY 1 (cI (SN (eB cz (aj Eb ao))))
abbrev X2:=au Mq (aJ (aa 2) (ai 0)) (c6 "call")
def j4:GF:=cY 3 (aF x0
 (aF (cC (tT X2 aY)
 (cI (cu ao))
 bR)
 (cI (bU (dh (aX (aj (au bf (c6 "box ") (aJ (aa 2) (ai 2))) (aj (nW "at " (aa 1)) (aj X0 ao)))) bJ) 1 [2] (aC 0) bB (aX (aj (aa 0) (aj (au bf (c6 "box ") (aJ (aa 1) (ai 1))) ao)))))))
abbrev X3:=tT (au eR (aa 3) (ai 0)) aY
abbrev X9:=aJ (aa 2) (au Mt (aa 3) (ai 1))
abbrev X_:=j7 tJ eU (cM (ai 3))
def iH:GF:=cY 4 (aF (aL 2 (S5 xS X_))
 (aF (aL 3 (MF (aa 2) (aa 1)))
 (cI (Zb X3 (eC .non) X9))))
def mL:GF:=cY 2 (cI XZ)
def oH:GF:=cY 2 (cI (aJ tJ (ai 1)))
def iI:GF:=cY 1 (cI (bU (dh (aN yL (aj (aa 0) ao)) bJ) 1 [] (aC 0) bB (nW "box " (aa 0))))
abbrev EM:=tT (au Sw (aa 2) (eC .non)) aY
abbrev EN:=cX "Plan" "home" mL (aa 0) (aj (aa 1) ao)
abbrev Ya:=cX "Plan" "outer" oH (aa 0) (aj (aa 1) ao)
abbrev Yf:=cX "Plan" "row" dY (aa 0) (aj (aa 2) ao)
abbrev Yl:=aL 4 Yf
abbrev EO:=aj (nW "at " (aa 2)) ao
abbrev Yw:=aL 3 (cu (aj (aX (aj (c6 "within") EO)) ao))
def lW:GF:=cY 5 (aF (aL 2 Ya)
 (aF (cC EM
 (cI (cu (aj (aX (aj (c6 "enter") (aj (au bf (c6 "enter ") EN) ao))) ao)))
 bR)
 (aF Yw
 (aF Yl
 (aF (cC (tT (au eR (aJ (aa 4) (ai 0)) (c6 "if")) aY)
 (gb 3 (bU (dh (aN iI (aj (aJ (aa 4) (ai 1)) ao)) bJ) 1 [] (aC 0) bB (aX (aj (c6 "choice") (aj (aa 0) ao)))))
 bR)
 (gZ 3))))))
abbrev Yy:=aL 2 EI
abbrev Yz:=aL 3 (aN iI (aj (aJ tN (ai 1)) ao))
def rM:GF:=cY 4 (aF Yy
 (aF Yz
 (aF (cC (tT (aa 2) qW)
 (gb 3 (aN (dJ 40) (aj (aa 0) (aj (aJ (aa 2) (jq (ai 1))) ao))))
 bR)
 (gZ 3))))
abbrev tS:=aj (aa 0) (aj (aa 1) ao)
abbrev YA:=aN lW (aj (aa 0) (aj (aa 1) ao))
abbrev YB:=gb 3 YA
abbrev YC:=cX "Plan" "just_ahead" iH (aa 0) (aj (aa 1) ao)
abbrev YE:=aL 2 YC
abbrev YF:=au eR (aJ tN (ai 0)) (c6 "while")
abbrev YI:=dh (aN (dJ 40) (aj (aa 0) (aj (aa 2) ao))) bJ
abbrev YN:=gb 3 (bU YI 1 [] (aC 0) bB (aX (aj (c6 "behind") (aj (aa 0) ao))))
def jH:GF:=cY 4 (aF YE
 (aF (aL 3 (cu ao))
 (aF (cC EM
 YB
 YN)
 (aF (cC (tT YF aY)
 (gb 3 (bU (dh (aN rM tS) bJ) 1 [] (aC 0) bB (aX (aj (c6 "turns") (aj (aa 0) ao)))))
 bR)
 (gZ 3)))))
def rN:GF:=cY 2 (cI (eB g9 (aj (xt (jB "Plan" "heads" (aa 0)) (aa 1)) ao)))
abbrev EQ:=bU (dh (aN iI (aj (aa 4) ao)) bJ) 1 [1] (aC 0) bB (aX (aj (c6 "value") (aj (aa 0) (aj (nW "box " (aa 1)) ao))))
def lr:GF:=cY 5 (aF (aL 3 (cu (aj (aX (aj (c6 "done") (aj (nW "at " (aa 0)) (aj (nW "box " (aa 1)) ao)))) ao)))
 (aF (fX (dh (aa 2) bJ) (aC 4)
 (gb 3 EQ))
 (gZ 3)))
abbrev ve:=aj (au bf (c6 "box ") (aJ (aa 2) (ai 1))) ao
abbrev YO:=aj (aa 1) (aj (aa 4) (aj (cu (aj (aa 5) ao)) ao))
abbrev YR:=aN lr YO
def qt:GF:=cY 6 (aF x0
 (aF (cC (tO (tT (au eR (aJ (aa 2) (ai 0)) (c6 "set")) aY) (tT (au eR (aJ (aa 2) (ai 0)) (c6 "put")) aY))
 (cI (aN lr (aj (aa 1) (aj (aJ (aa 2) (ai 1)) (aj (aN km (aj (aa 2) ao)) ao)))))
 bR)
 (aF (cC (tT (au eR (aJ (aa 2) (ai 0)) (c6 "out")) aY)
 (aF (aL 3 (bU (dh (aN iI (aj (aJ (aa 2) (ai 2)) ao)) bJ) 1 [1] (aC 0) bB (aX (aj (c6 "let") (aj (aa 0) (aj (nW "let " (aa 1)) ao))))))
 (cI (au bf (aa 3) (cu (aj (aX (aj (c6 "out") (aj (nW "out " (aa 1)) ve))) (aj (aX (aj (c6 "done") (aj (nW "at " (aa 1)) ve))) ao))))))
 bR)
 (aF (cC x6
 (aF (aL 3 (cu (aj (aX (aj (c6 "call") (aj (nW "at " (aa 1)) (aj (au bf (c6 "enter ") (aJ (aa 2) (ai 2))) ao)))) ao)))
 (aF (fX (Km (cX "Plan" "params" rN (aa 0) (aj (aJ (aa 2) (ai 2)) ao)) (aJ (aa 2) (ai 3))) x8
 (gb 3 YR))
 (gZ 3)))
 bR)
 (cI (cu ao))))))
abbrev ER:=aX (aj (aa 1) (aj (eC .non) (aj (ai 0) ao)))
def qu:GF:=cY 2 (cI (eB g9 (aj (yD xS ER) ao)))
abbrev YU:=tT (au Mq (aJ (aa 3) (jq (ai 1))) (aa 1)) aY
abbrev Y4:=aL 2 EN
abbrev Zk:=cX "Plan" "body" qu (aa 0) (aj (aa 2) ao)
abbrev Zm:=aL 3 Zk
abbrev Zt:=tT (cX "Plan" "spending" fV (aa 0) (aj (aa 3) ao)) qW
abbrev Z_:=Br Zt
def lu:GF:=cY 4 (aF Y4
 (aF Zm
 (aF (cC (tO YU Z_)
 (cI (cu ao))
 bR)
 (cI (bU (dh (aN (dJ 40) tS) bJ) 1 [2] (aC 0) bB (aX (aj (aa 0) (aj (nW "leave " (aa 1)) ao))))))))
abbrev t0:=aj (aa 1) (aj (aa 3) ao)
abbrev x9:=fC 2 (aW (aC 0) (aW (aC 1) fu))
abbrev vad:=gb 2 (bU (dh (aN j4 t0) bJ) 2 [3] x9 bB (aX (aj (aa 2) (aj (ai 2) (aj (c6 "back") tS)))))
abbrev vac:=gb 2 (bU (dh (aN lu t0) bJ) 2 [3] x9 bB (aX (aj (aa 2) (aj (ai 3) (aj (c6 "leave") tS)))))
abbrev vab:=gb 2 (bU (dh (aN jH t0) bJ) 2 [3] x9 bB (aX (aj (aa 2) (aj (ai 0) (aj (aa 0) (aj (aa 1) EO))))))
abbrev vfp:=fC 3 (aW (aC 0) (aW (aC 1) (aW (aC 2) fu)))
abbrev vaa:=gb 2 (bU (dh (aN qt t0) bJ) 3 [3] vfp bB (aX (aj (aa 3) (aj (ai 1) (aj (aa 0) tI)))))
def Hi:GF:=cY 4 (aF (aL 1 (FT "Plan" kI (aj (aa 0) ao)))
 (aF (aL 2 (cu ao))
 (aF (fX (dh (cX "Plan" "numbers" qm (aa 1) ao) bJ) (aC 3)
 (aF vab
 (aF vaa
 (aF vad
 vac))))
 (cI (sX (aa 2))))))
abbrev vfx:=au Ms (aa 1) (eB cz (aj (aa 0) ao))
def nj:GF:=cY 2 (aF (cC (tT vfx aY)
 (cI (au aZ (aJ (aa 0) (aa 1)) (ai 1000000007)))
 bR)
 (cI (ai 0)))
abbrev vfz:=jM 3 (rY (c6 "") (aj (aa 8) ao))
abbrev vfn:=au aZ (au bO (aa 0) (ai 14)) (aa 6)
abbrev vfj:=au eR (au aZ (aa 0) (ai 2)) (ai 1)
abbrev vfh:=aL 2 (c6 "abcdefghijklmnopqrstuvwxyz")
abbrev vbr:=Bu 8 (aa 7) (aJ (aa 2) (au aZ (au bf (au bO (aa 0) (ai 112)) (aa 5)) (ai 26)))
abbrev vaq:=mF (aa 4) (cM (au aZ (aa 5) (ai 5))) (cM (au bf (au bf (au aZ (aa 5) (ai 5)) (ai 1)) (au bO (aa 5) (ai 5))))
abbrev vag:=aJ (cu (aj (ai 1) (aj (ai 2) (aj (ai 3) (aj (ai 5) (aj (ai 6) (aj (ai 7) (aj (ai 8) ao)))))))) (au aZ (au bO (aa 0) (ai 2)) (ai 7))
abbrev vaf:=aL 8 (bU (iK (aj (aa 6) ao)) 1 [2,0] (aC 0) bB (aJ (aa 1) (au aZ (au bf (au bO (aa 2) (au bf (aa 0) (ai 1))) (au gM (aa 0) (aa 0))) (ai 26))))
abbrev vae:=rY (c6 "") (aj (bU (iK (aj (ai 10) ao)) 1 [2,0] (aC 0) bB (aJ (aa 1) (au aZ (au bf (au bO (aa 2) (ai 2)) (au gM (ai 3) (aa 0))) (ai 26)))) ao)
def u9:GF:=cY 9 (aF vfh
 (aF (aL 3 (cu ao))
 (aF (cC (tT vfj aY)
 (aF (aL 4 vae)
 (aF (fX (iK (aj (aa 1) ao)) (aC 5)
 (jM 3 vaq))
 (gZ 3)))
 bR)
 (aF (aL 6 vag)
 (aF (aL 7 vfn)
 (aF (fX (iK (aj (aa 1) ao)) (aC 5)
 (aF vaf
 (aF vbr
 vfz)))
 (gZ 3)))))))
abbrev ES:=au aZ (au bO (aa 5) (fy 5)) (fy 3)
abbrev ET:=aX (aj (aa 7) (aj (aa 3) (aj (aa 6) ao)))
abbrev EU:=aX (aj (aa 7) (aj (aa 6) (aj (aa 3) ao)))
abbrev EV:=tT (au iV (eB cz (aj (aa 2) ao)) (fy 0)) aY
abbrev x_:SF:=(aF (aL 5 (au aZ (au gM (au aZ (au gM (aa 0) (au bf (aa 4) (fy 2))) (fy 2147483647)) (fy 16807)) (fy 2147483647)))
 (aF (aL 6 (aX (aj (om "num") (aj (au aZ (aa 5) (fy 1000)) ao))))
 (aF (cC (eE (tT (au iV (eB cz (aj (aa 1) ao)) (fy 0)) aY) (tT (au iV (au aZ (aa 5) (fy 6)) (fy 0)) aY))
 (aL 6 (aX (aj (om "box") (aj (aJ (aa 1) (au aZ (au bO (aa 5) (fy 6)) (eB cz (aj (aa 1) ao)))) ao))))
 bR)
 (aF (cC (eE EV (tT (au eR (au aZ (aa 5) (fy 7)) (fy 5)) aY))
 (aL 6 (aX (aj (om "@") (aj (aJ (aa 2) (au aZ (au bO (aa 5) (fy 42)) (eB cz (aj (aa 2) ao)))) (aj (aa 6) ao)))))
 bR)
 (aF (aL 7 (aJ (om "+-*<=") (au aZ (au bO (aa 5) (fy 77)) (fy 5))))
 (cC (eE EV (tT (au eR ES (fy 0)) aY))
 (aL 3 (aX (aj (om "@") (aj (aJ (aa 2) (au aZ (au bO (aa 5) (fy 15)) (eB cz (aj (aa 2) ao)))) (aj (aa 3) ao)))))
 (cC (tT (au eR ES (fy 1)) aY)
 (aL 3 ET)
 (aL 3 EU))))))))
abbrev vho:=au iV (eB cz (aj (aa 1) ao)) (ai 0)
abbrev EW:=tT vho aY
abbrev EX:=au iV (au aZ (aa 5) (ai 6)) (ai 0)
abbrev ven:=tT EX aY
abbrev vhq:=au iV (eB cz (aj (aa 2) ao)) (ai 0)
abbrev EZ:=tT vhq aY
abbrev E2:=au eR (au aZ (aa 5) (ai 7)) (ai 5)
abbrev vei:=tT E2 aY
abbrev vdn:=aL 3 ET
abbrev vdo:=aL 3 EU
abbrev E4:=au aZ (au bO (aa 5) (ai 5)) (ai 3)
abbrev vdd:=au eR E4 (ai 1)
abbrev vcs:=aJ (c6 "+-*<=") (au aZ (au bO (aa 5) (ai 77)) (ai 5))
abbrev E5:=au eR (au aZ (au bO (aa 5) (ai 5)) (ai 3)) (ai 0)
abbrev vcj:=tT E5 aY
abbrev vck:=tT (au eR E4 (ai 1)) aY
abbrev E6:=tT (au iV (eB cz (aj (aa 1) ao)) (ai 0)) aY
abbrev vbc:=eE E6 (tT EX aY)
abbrev E7:=tT (au iV (eB cz (aj (aa 2) ao)) (ai 0)) aY
abbrev vba:=eE E7 (tT E2 aY)
abbrev vay:=aL 6 (aX (aj (c6 "box") (aj (aJ (aa 1) (au aZ (au bO (aa 5) (ai 6)) (eB cz (aj (aa 1) ao)))) ao)))
abbrev vaw:=au aZ (au gM (au aZ (au gM (aa 0) (au bf (aa 4) (ai 2))) (ai 2147483647)) (ai 16807)) (ai 2147483647)
abbrev vas:=aL 6 (aX (aj (c6 "@") (aj (aJ (aa 2) (au aZ (au bO (aa 5) (ai 42)) (eB cz (aj (aa 2) ao)))) (aj (aa 6) ao))))
abbrev vat:=aL 3 (aX (aj (c6 "@") (aj (aJ (aa 2) (au aZ (au bO (aa 5) (ai 15)) (eB cz (aj (aa 2) ao)))) (aj (aa 3) ao))))
abbrev van:=eE E7 (tT E5 aY)
abbrev E8:=au iV (au aZ (aa 0) (ai 5)) (ai 0)
abbrev vep:=tT E8 aY
abbrev E9:=aX (aj (c6 "num") (aj (au aZ (au gM (aa 0) (ai 7919)) (au Xv (ai 10) (ai 12))) ao))
abbrev E_:=eE E6 (tT E8 aY)
abbrev Fa:=aL 3 (aX (aj (c6 "box") (aj (aJ (aa 1) (au aZ (au bO (aa 0) (ai 5)) (eB cz (aj (aa 1) ao)))) ao)))
def dU:GF:=cY 8 (aF (aL 3 E9)
 (aF (cC E_
 Fa
 bR)
 (aF (fX (iK (aj (aJ (cu (aj (ai 0) (aj (ai 0) (aj (ai 1) (aj (ai 1) (aj (ai 2) (aj (ai 2) (aj (ai 3) (aj (ai 4) ao))))))))) (au aZ (au bO (aa 0) (ai 60)) (ai 8))) ao)) (aC 4)
 x_)
 (gZ 3))))
def iB:GF:=cY 12 (aF (aL 5 (aN dU (aj (au aZ (au gM (aa 0) (ai 48271)) (ai 2147483647)) (aj (aa 1) (aj (aa 2) ao)))))
 (aF (aL 6 (aN dU (aj (au aZ (au gM (aa 0) (ai 69621)) (ai 2147483647)) (aj (aa 1) (aj (aa 2) ao)))))
 (aF (aL 7 (au aZ (au bO (aa 0) (ai 8)) (ai 9)))
 (aF (cC (eE (tT (au eR (aa 7) (ai 1)) aY) (tT (au iV (eB cz (aj (aa 2) ao)) (ai 0)) aY))
 (cI (aX (aj (c6 "put") (aj (aJ (aa 2) (au aZ (au bO (aa 0) (ai 72)) (eB cz (aj (aa 2) ao)))) (aj (aa 5) (aj (aa 6) ao))))))
 bR)
 (aF (cC (tT (au eR (aa 7) (ai 6)) aY)
 (cI (aX (aj (c6 "while") (aj (aa 6) (aj (oh (cu ao)) ao)))))
 bR)
 (aF (cC (tO (tT (au pB (aa 7) (aX (aj (ai 4) (aj (ai 5) ao)))) aY) (tT (au eR (eB cz (aj (aa 1) ao)) (ai 0)) aY))
 (cI (aX (aj (c6 "if") (aj (aa 5) (aj (oh (cu ao)) (aj (oh (cu ao)) ao))))))
 bR)
 (aF (aL 8 (aJ (aa 1) (au aZ (au bO (aa 0) (ai 72)) (eB cz (aj (aa 1) ao)))))
 (aF (cC (eE (tT (au eR (aa 7) (ai 2)) aY) (tT (au iV (eB cz (aj (aa 4) ao)) (ai 0)) aY))
 (cI (aX (aj (c6 "out") (aj (aa 8) (aj (aa 5) (aj (aJ (aa 4) (au aZ (au bO (aa 0) (ai 7)) (eB cz (aj (aa 4) ao)))) ao))))))
 bR)
 (aF (cC (eE (tT (au pB (aa 7) (aX (aj (ai 3) (aj (ai 8) ao)))) aY) (tT (au iV (eB cz (aj (aa 3) ao)) (ai 0)) aY))
 (aF (Xn (aJ (aa 3) (au aZ (au bO (aa 0) (ai 792)) (eB cz (aj (aa 3) ao)))) (fC 2 (aW (aC 9) (aW (aC 10) fu))))
 (aF (aL 11 (bU (iK (aj (eB cz (aj (aa 10) ao)) ao)) 1 [0,1,2] (aC 0) bB (aN dU (aj (au aZ (au gM (aa 1) (ai 40692)) (au Mt (ai 2147483399) (aa 0))) (aj (aa 2) (aj (aa 3) ao))))))
 (cI (aX (aj (c6 "call") (aj (aa 8) (aj (aa 9) (aj (aa 11) ao))))))))
 bR)
 (cI (aX (aj (c6 "set") (aj (aa 8) (aj (aa 6) ao))))))))))))))
abbrev ya:=aJ (aa 6) (jq (ai 1))
abbrev vga:=tT (au iV (oO (aa 6)) (ai 1)) aY
abbrev Fc:=tT (au Ms (oO (aa 6)) (ai 5)) aY
abbrev vgc:=dh (j7 (aa 8) (cM (ai 2)) eU) bJ
abbrev Fd:=au eR (au aZ (aa 7) (ai 8)) (ai 0)
abbrev vek:=tT Fd aY
abbrev Fh:=aL 8 (aN iB (aj (aa 7) (aj (aa 1) (aj (aa 2) (aj (aa 3) (aj (aa 4) ao))))))
abbrev Fk:=aX (aj (c6 "if") (aj (c6 "while") ao))
abbrev Fm:=au pB (aJ (aa 8) (ai 0)) (aX (aj (c6 "if") (aj (c6 "while") ao)))
abbrev Fs:=tT Fm aY
abbrev Fu:=ou (aa 6) (oh (bU (dh (j7 (aa 8) (cM (ai 2)) eU) bJ) 1 [] (aC 0) bB (aa 0)))
abbrev FC:=eE (tT Fd aY) (tT (au iV (oO (aa 6)) (ai 1)) aY)
abbrev FE:=eE (tT Fm aY) (tT (au Ms (oO (aa 6)) (ai 5)) aY)
def sJ:GF:=cY 9 (aF (aL 5 (Sx ao))
 (aF (aL 6 (Sx (aj (oh (cu (aj (aa 5) ao))) ao)))
 (aF (fX (dh (aa 0) bJ) (aC 7)
 (cC FC
 (aF (rW (An ya))
 (cC (tT (au eR (oO ya) (ai 0)) aY)
 (rW (FZ (aa 6)))
 bR))
 (aF Fh
 (aF (ou (aJ ya (ai 0)) (aa 8))
 (cC FE
 Fu
 bR)))))
 (cI (Gb (aa 5))))))
abbrev FF:=au bf (fy 10) (au gM (fy 4) (aa 3))
abbrev yb:SF:=(aF (aL 4 (au aZ (au bO (aa 0) (aJ (cu (aj (fy 75) (aj (fy 375) (aj (fy 1875) (aj (fy 9375) ao))))) (aa 3))) (fy 5)))
 (jM 2 (aX (aj (aJ (aa 1) (au bf (fy 6) (aa 3))) (aj (mF (aa 1) (cM FF) (cM (au bf FF (aa 4)))) ao)))))
abbrev vfk:=au bf (ai 10) (au gM (ai 4) (aa 3))
def vd:GF:=cY 5 (aF (aL 2 (cu ao))
 (aF (fX (iK (aj (au aZ (au bO (aa 0) (ai 15)) (ai 5)) ao)) (aC 3)
 yb)
 (gZ 2)))
abbrev vgt:=cM (au bf (eB cz (aj (aa 6) ao)) (fy 1))
abbrev vez:=au bf (aa 4) (cu (aj (aJ (aa 12) (fy 0)) ao))
abbrev fnB:SF:=(aF (aL 13 (aN sJ (aj (DN (aa 8) (cM (aa 11)) eU vgt) (aj (au bf vez (aJ (aa 12) (fy 1))) (aj (aa 5) (aj (aa 6) (aj (aa 9) ao)))))))
 (jM 10 (aX (aj (aJ (aa 12) (fy 0)) (aj (aJ (aa 3) (au aZ (au bf (aa 1) (aa 11)) (fy 3))) (aj (bU (dh (aJ (aa 12) (fy 1)) bJ) 1 [] (aC 0) bB (aX (aj (aa 0) (aj (eC .non) ao)))) (aj (aa 13) ao)))))))
abbrev vfr:=aj (aa 5) (aj (aa 6) (aj (aa 9) ao))
abbrev vex:=cM (au bf (eB cz (aj (aa 6) ao)) (ai 1))
abbrev vgu:=au aZ (aa 0) (ai 1000000007)
abbrev vgd:=fC 2 (aW (aC 11) (aW (aC 12) fu))
abbrev vb:=aj (aa 1) (aj (ai 0) (aj (aJ (aa 2) (au aZ (au bf (au bO (aa 3) (ai 3072)) (aa 0)) (ai 3))) ao))
abbrev vaj:=aj (aa 0) (aj (au bf (ai 1) (au aZ (au bO (aa 1) (ai 48)) (ai 8))) (aj (aJ (aa 2) (au aZ (au bO (aa 1) (ai 9216)) (ai 3))) ao))
def nq:GF:=cY 14 (aF (aL 1 (aN nj (aj (aa 0) (aj (ai 0) ao))))
 (aF (aL 2 (aN u9 (aj (aN nj (aj (aa 0) (aj (ai 1) ao))) (aj (ai 26) ao))))
 (aF (aL 3 (cu (aj (eC .non) (aj (c6 "low") (aj (c6 "high") ao)))))
 (aF (aL 4 (mF (aa 2) eU (cM (au aZ (aa 1) (ai 5)))))
 (aF (aL 5 (mF (aa 2) (cM (ai 4)) (cM (au bf (ai 4) (au aZ (au bO (aa 1) (ai 5)) (ai 3))))))
 (aF (aL 6 (aN vd tI))
 (aF (aL 7 (bU (uU (aa 4)) 2 [3,1] q5 bB (aX vb)))
 (aF (aL 7 (au bf (aa 7) (bU (dh (aa 5) bJ) 1 [1,3] (aC 0) bB (aX vaj))))
 (aF (aL 8 (bU (dh (mF (aa 0) (cM (ai 2)) (cM (ai 42))) bJ) 1 [] (aC 0) bB vgu))
 (aF (aL 9 (cu (aj (c6 "somebody") ao)))
 (aF (aL 10 (cu ao))
 (aF (fX (uU (aa 6)) vgd
 fnB)
 (aF (aL 13 (aN sJ (aj (DN (aa 8) (cM (eB cz (aj (aa 6) ao))) eU vex) (aj (aa 4) vfr))))
 (cI (aX (aj (aa 7) (aj (cu (aj (aX (aj (c6 "somebody") (aj (c6 "high") (aj (c6 "low") ao)))) ao)) (aj (aa 10) (aj (aa 13) ao)))))))))))))))))))
abbrev FH:=au Mq (aJ (aa 0) (ai 0)) (c6 "if")
def gW:Nat->GF
 |0=>λ_ _=>J
 | n+1=>cY 1 (aF (cC (tT vc aY)
  (cI (eC (.bl G)))
  bR)
  (aF (cC (tT FH aY)
  (cI (eC (.bl M)))
  bR)
  (cI (eB Aj (aj (bU (dh (au bf (aJ (aa 0) (ai 2)) (aJ (aa 0) (ai 3))) bJ) 1 [] (aC 0) bB (aN (gW n) (aj (aa 0) ao))) ao)))))
abbrev FI:=dh (j7 (aa 2) (cM (ai 2)) eU) bJ
abbrev FK:=au pB (aJ (aa 2) (ai 0)) Fk
def dW:Nat->GF
 |0=>λ_ _=>J
 | n+1=>cY 3 (aF (aL 1 (eB cz (aj (aa 0) ao)))
  (aF (fX (dh (aa 0) bJ) (aC 2)
  (cC (tT FK aY)
  (aL 1 (au bf (aa 1) (eB DG (aj (bU FI 1 [] (aC 0) bB (aN (dW n) (aj (aa 0) ao))) ao))))
  bR))
  (gZ 1)))
abbrev FL:=dh (j7 (aa 0) (cM (ai 2)) eU) bJ
abbrev FO:=jM 2 (au bf (c6 "leave ") (aJ (aa 0) (ai 2)))
abbrev FR:=au bf (aa 3) (aN (dW 40) (aj (aa 4) ao))
abbrev FU:=aL 3 FR
abbrev vdh:=aj (au bf (c6 "at ") (eB kf (aj (aa 1) ao))) ao
abbrev FV:=aj (aJ (aa 4) (jq (ai 1))) (aj (au bf (aa 3) (aN (dW 40) (aj (mF (aa 4) eU (cM (jq (ai 1)))) ao))) ao)
def eQ:Nat->GF
 |0=>λ_ _=>J
 | n+1=>cY 5 (aF (aL 2 (cu vdh))
  (aF (cC xK
  FO
  bR)
  (aF (cC tF
  (aF (aL 3 (au bf (aa 1) (ai 1)))
  (fX FL (aC 4)
  (aF (cC (tT (eB Aj (aj (bU (dh (aa 4) bJ) 1 [] (aC 0) bB (aN (gW 40) (aj (aa 0) ao))) ao)) qW)
  (aL 2 (au bf (aa 2) (aN (eQ n) FV)))
  bR)
  FU)))
  bR)
  (gZ 2))))
def k9:Nat->GF
 |0=>λ_ _=>J
 | n+1=>cY 1 (aF (cC (tT (au eR (aJ (aa 0) (ai 0)) (c6 "num")) aY)
  (cI (cu ao))
  bR)
  (aF (cC (tT (au eR (aJ (aa 0) (ai 0)) (c6 "box")) aY)
  (cI (cu (aj (aJ (aa 0) (ai 1)) ao)))
  bR)
  (aF (cC (tT (au eR (aJ (aa 0) (ai 0)) (c6 "@")) aY)
  (cI (au bf (cu (aj (aJ (aa 0) (ai 1)) ao)) (aN (k9 n) (aj (aJ (aa 0) (ai 2)) ao))))
  bR)
  (cI (au bf (aN (k9 n) (aj (aJ (aa 0) (ai 1)) ao)) (aN (k9 n) (aj (aJ (aa 0) (ai 2)) ao)))))))
def kD:Nat->GF
 |0=>λ_ _=>J
 | n+1=>cY 11 (aF (aL 4 (aa 1))
  (aF (aL 5 (aa 2))
  (aF (fX (dh (aa 0) bJ) (aC 6)
  (aF (fX (dh (aa 5) bJ) (fC 2 (aW (aC 7) (aW (aC 8) fu)))
  (tp (aa 3) (aj (aa 4) (aj (ai 0) (aj (aa 7) (aj (aa 8) (aj (au bf (c6 "at ") (eB kf (aj (aa 4) ao))) ao))))) (eC (.bl G))))
  (aF (aL 9 (cu (aj (aX (aj (c6 "within") (aj (au bf (c6 "at ") (eB kf (aj (aa 4) ao))) ao))) ao)))
  (aF (cC (tT (au eR (aJ (aa 6) (ai 0)) (c6 "if")) aY)
  (aL 9 (au bf (aa 9) (bU (dh (aN (k9 40) (aj (aJ (aa 6) (ai 1)) ao)) bJ) 1 [] (aC 0) bB (aX (aj (c6 "choice") (aj (au bf (c6 "box ") (aa 0)) ao))))))
  bR)
  (aF (aL 5 (bU (dh (aN (eQ 40) (aj (aa 6) (aj (aa 4) ao))) bJ) 1 [] (aC 0) bB (aX (aj (c6 "behind") (aj (aa 0) ao)))))
  (aF (aL 4 (au bf (aa 4) (ai 1)))
  (cC (tT (au pB (aJ (aa 6) (ai 0)) (aX (aj (c6 "if") (aj (c6 "while") ao)))) aY)
  (fX (dh (j7 (aa 6) (cM (ai 2)) eU) bJ) (aC 10)
  (aL 4 (aN (kD n) (aj (aa 10) (aj (aa 4) (aj (aa 9) (aj (aa 3) ao)))))))
  bR)))))))
  (gZ 4))))
abbrev lwA:SF:=(Bw 2 (wQ 2 (aL 3 (aN (kD 40) (aj (aa 7) (aj (aa 3) (aj (cu (aj (aX (aj (c6 "enter") (aj (au bf (c6 "enter ") (aa 4)) ao))) ao)) (aj (aa 2) ao))))))))
abbrev lwB:SF:=(aF (cC (tO (Br (tT (mi "tuple" (aa 10)) qW)) (tO (tT (au Mq (eB cz (aj (aa 10) ao)) (ai 5)) aY) (tO (tT (mi "bool" (aJ (aa 10) (ai 0))) qW) (tT (mi "bool" (aJ (aa 10) (ai 1))) qW))))
 (cI (eC (.bl M)))
 bR)
 (cC (eE (tT (au eR (aJ (aa 10) (ai 1)) (ai 0)) aY) (tT (au Mq (aJ (aa 10) (ai 2)) (c6 "turns")) aY))
 (jM 9 (aa 10))
 bR))
abbrev vcd:=au pB (aJ (aa 4) (ai 0)) Fk
def S6:GF:=cY 11 (aF (aL 1 (aN nq (aj (aa 0) ao)))
 (aF (aL 2 xy)
 (aF (aL 3 (ai 0))
 (aF (fX (dh (aJ (aa 1) (ai 2)) bJ) (fC 4 (aW (aC 4) (aW (aC 5) (aW (aC 6) (aW (aC 7) fu)))))
 lwA)
 (aF (Bw 2 (wQ 2 (rW (aN (kD 40) (aj (aJ (aa 1) (ai 3)) (aj (aa 3) (aj (cu (aj (aX (aj (c6 "enter") (aj (c6 "enter main") ao))) ao)) (aj (aa 2) ao))))))))
 (aF (aL 8 (aN Hi (aj (aa 1) ao)))
 (aF (cC (Br (tT (mi "list" (aa 8)) qW))
 (cI (eC (.bl M)))
 bR)
 (aF (aL 9 (cu ao))
 (aF (fX (dh (aa 8) bJ) (aC 10)
 lwB)
 (cI (vL (Ma (au eR (aa 9) (eB xA (aj (aa 2) ao))) (au eR (aa 1) (aN nq (aj (aa 0) ao)))))))))))))))
variable {P:Program}{w:World}{K:FG}{mg:Str->Option Value}{base:Heap}
noncomputable abbrev BL:List Str:=["any","bool","enumerate","isinstance","len","list","range","set","sorted","str","sum","tuple","zip"]
section
variable {mg:Str->Option Value}(B:QG mg BL)
include B
theorem Ko:mg "any"=J:=B _ ()
theorem FX:mg "bool"=J:=B _ ()
theorem sO:mg "enumerate"=J:=B _ ()
theorem t4:mg "isinstance"=J:=B _ ()
theorem eG:mg "len"=J:=B _ ()
theorem wW:mg "list"=J:=B _ ()
theorem pD:mg "range"=J:=B _ ()
theorem S7:mg "set"=J:=B _ ()
theorem DR:mg "sorted"=J:=B _ ()
theorem S8:mg "str"=J:=B _ ()
theorem aee:mg "sum"=J:=B _ ()
theorem zcL:mg "tuple"=J:=B _ ()
theorem aef:mg "zip"=J:=B _ ()
end
section
variable (P:Program)(w:World)(K:FG)(mg:Str->Option Value)(base:Heap)(c:Addr)
abbrev mO:=bI P w K mg base "blocks_of" 1 ["row"] (bW K 1 gJ)
abbrev tZ:=bI P w K mg base "expressions_of" 1 ["row"] (bW K 1 km)
abbrev Jl:=bI P w K mg base "copied" 40 ["row"] (bW K 1 (kE 40))
abbrev O7:=bI P w K mg base "in_order" 41 ["rows"] (bW K 1 (iz 40))
abbrev O8:=bI P w K mg base "laid_out" 80 ["where","above","block","rows","start"] (bW K 5 (gP 40))
abbrev Dc:=bI P w K mg base "numbered" 81 ["program"] (bW K 1 yK)
abbrev Yd:=bI P w K mg base "reads" 40 ["expression"] (bW K 1 (ni 40))
abbrev Dd:=bI P w K mg base "names_in" 41 ["expression"] (bW K 1 yL)
abbrev Jm:=bI P w K mg base "spends" 42 ["row"] (bW K 1 yM)
abbrev nu:=vO P w K mg base c "block" 1 ["self","k","which"] (bW K 3 dZ)
abbrev gQ:=vO P w K mg base c "row" 1 ["self","k"] (bW K 2 dY)
abbrev jW:=vO P w K mg base c "spending" 43 ["self","numbers"] (bW K 2 fV)
abbrev tW:=bI P w K mg base "behind_row" 83 ["plan","k"] (bW K 2 (dJ 40))
abbrev Cw:=X4 P w K mg base c 82 ["self","program"] (bW K 2 kI)
abbrev vf:=vO P w K mg base c "numbers" 1 ["self"] (bW K 1 qm)
abbrev zf:=bI P w K mg base "back_steps" 2 ["plan","k"] (bW K 2 j4)
abbrev qH:=vO P w K mg base c "just_ahead" 1 ["self","k"] (bW K 2 iH)
abbrev tX:=vO P w K mg base c "home" 1 ["self","k"] (bW K 2 mL)
abbrev wX:=vO P w K mg base c "outer" 1 ["self","k"] (bW K 2 oH)
abbrev lw:=bI P w K mg base "boxes_read" 42 ["expression"] (bW K 1 iI)
abbrev vg:=bI P w K mg base "first_sources" 43 ["plan","k"] (bW K 2 lW)
abbrev vQ:=bI P w K mg base "turn_sources" 84 ["plan","k"] (bW K 2 rM)
abbrev vh:=bI P w K mg base "begin_sources" 85 ["plan","k"] (bW K 2 jH)
abbrev vR:=vO P w K mg base c "params" 1 ["self","name"] (bW K 2 rN)
abbrev wY:=bI P w K mg base "given_steps" 43 ["k","name","some"] (bW K 3 lr)
abbrev zg:=bI P w K mg base "done_steps" 44 ["plan","k"] (bW K 2 qt)
abbrev zj:=vO P w K mg base c "body" 1 ["self","name"] (bW K 2 qu)
abbrev w5:=bI P w K mg base "leave_steps" 84 ["plan","k"] (bW K 2 lu)
abbrev M9:=bI P w K mg base "rules" 86 ["program"] (bW K 1 Hi)
abbrev vU:=bI P w K mg base "_law_cell_at" 1 ["_law_script","_law_k"] (bW K 2 nj)
abbrev zm:=bI P w K mg base "_law_names" 1 ["_law_cell","_law_count"] (bW K 2 u9)
abbrev sY:=bI P w K mg base "_law_expression" 1 ["_law_cell","_law_own","_law_lists"] (bW K 3 dU)
abbrev De:=bI P w K mg base "_law_row" 2 ["_law_cell","_law_own","_law_lists","_law_heads_here","_law_whos"] (bW K 5 iB)
abbrev Ao:=bI P w K mg base "_law_rows" 3 ["_law_cells","_law_own","_law_lists","_law_heads_here","_law_whos"] (bW K 5 sJ)
abbrev zp:=bI P w K mg base "_law_heads" 1 ["_law_cell","_law_names_here"] (bW K 2 vd)
abbrev vV:=bI P w K mg base "_law_program" 4 ["_law_script"] (bW K 1 nq)
abbrev w6:=bI P w K mg base "_law_spends" 40 ["_law_row_here"] (bW K 1 (gW 40))
abbrev vm:=bI P w K mg base "_law_size" 40 ["_law_rows_here"] (bW K 1 (dW 40))
abbrev Hj:=bI P w K mg base "_law_behind" 80 ["_law_row_here","_law_k"] (bW K 2 (eQ 40))
abbrev FY:=bI P w K mg base "_law_read" 40 ["_law_expression_here"] (bW K 1 (k9 40))
abbrev zc4:=bI P w K mg base "_law_due" 120 ["_law_rows_here","_law_first","_law_begins","_law_due_here"] (bW K 4 (kD 40))
end
variable (B:QG mg BL){eM:Addr}(dy:yx K mg "Plan" eM)(dO:∀f∈(["told","lists","heads"]:List Str),kW K eM f)(d5:HK.hk=CT P w)
include B dy dO d5
section
seal jP PS PE PT PA PI PG ju PO v5 TQ GS Zc pA aF cC aJ au tT cI cu aX aj binaryOp compareOp
local macro_rules | `(tactic| walk_at "k")=>`(tactic| walk_at "kk"<;>walk_at "kk")
local macro_rules | `(tactic| walk_at "kk")=>`(tactic| repeat' first | exact aq | exact aP | exact aQ | exact bT | exact bH | exact iU | exact gR | exact cN | exact aM | exact qw _ | exact cG ‹_› | exact bA _ | exact pv _ | refine ak ?_ ?_ | refine az ?_ ?_ | refine b8 ?_ ?_ ?_ | refine aB ?_ | refine aD ?_ | refine bj bD bF ?_ ?_ | refine bj cg bQ ?_ ?_ | refine bj dM cZ ?_ ?_ | refine bj nP lG ?_ ?_ | refine qI ?_ | refine cU _ ‹_› ?_ | refine bN ?_ cH ?_ ?_ ?_ | refine bN ?_ mC ?_ ?_ ?_ | refine bN ?_ qY ?_ ?_ ?_ | refine bN ?_ Mr ?_ ?_ ?_ | refine bK ?_ | refine bL ‹_› ?_ O ?_ ?_ | refine dz ?_ | refine cP ?_ | refine cA ?_ | exact cQ _ ‹_› | exact cQ _ (by show List.Nodup (_::_);decide +kernel) | refine bV aM ?_ | refine qL ?_ ?_ | exact eG B | refine fP ?_ ?_ λ_ _=>O | refine' fK u_ O ?_ ?_ ?_ ?_ | refine' bM ?_ ?_ | refine eX ?_ | refine gO ?_ | refine gh ?_ | refine jt dy ‹_› ?_ ?_ ?_ ?_ | refine nM ?_ ?_ | refine' iY ?_ | refine PW.pt (pO ?_ (mX ?_)) | refine mz O (pD B) ?_ | refine uC ?_ ?_ jX | refine yE ?_ ?_ | refine' iW O ?_ | refine wR ?_ ?_ | exact mD O | refine PW.pt (Ke ?_ (Fp ?_)) | refine Fo ?_ λ_=>O | exact v7 aQ | exact uR ‹_› | exact Or.inr O | exact Jg | exact pL | exact .mono ‹_› (by omega) | exact PySem.Around.mono ‹_› (by omega) | exact () | fail)
local macro_rules | `(∅)=>`(by walk_at "k")
theorem Nf(F:cL K mg "blocks_of" wj ["row"]):mO P w K mg base:=
 F.ok M6 λf q A i s H E j=>#[_,λ_ _=>O,by walk_at "k"]
theorem Cy(F:cL K mg "expressions_of" oR ["row"]):tZ P w K mg base:=
 F.ok Cu λf q A j s H E i=>#[_,λ_ _=>O,by walk_at "k";show PE.imp (gA lX O (wW B) (by kernel_rfl) ∅) (pP wK)]
theorem Vx(F:cL K mg "copied" yG ["row"])(i:bI P w K mg base "all_copied" (0+n) ["rows"] (bW K 1 (bi n))):bI P w K mg base "copied" (0+n+1) ["row"] (bW K 1 (kE (n+1))):=
 F.ok Vv λf z A q s H E j=>#[_,λ_ _=>O,by walk_at "k";show PE.imp (gA lX O (wW B) (by kernel_rfl) ∅) (pP wK)]
theorem JS(F:cL K mg "all_copied" mG ["rows"])(i:bI P w K mg base "copied" (0+n) ["row"] (bW K 1 (kE n))):bI P w K mg base "all_copied" (0+n+1) ["rows"] (bW K 1 (bi (n+1))):=
 F.ok JN λf q A j s H E z=>#[_,λ_ _=>O,by walk_at "k";show gH ["row"] [] [] O (jx (aG mG)) ∅ (λ_ _ _ _=>∅) aM (λ_ _ _ _=>cN) (λ_ _ _ _=>∅)]
theorem Gg(yi:cL K mg "copied" yG ["row"])(yn:cL K mg "all_copied" mG ["rows"]):∀n:Nat,bI P w K mg base "copied" (0+n) ["row"] (bW K 1 (kE n))/\bI P w K mg base "all_copied" (0+n) ["rows"] (bW K 1 (bi n))
 |0=>#[jY yi,jY yn]
 |n+1=>by let ih:=Gg yi yn n;show#[Vx B dy dO d5 yi ih.2,JS B dy dO d5 yn ih.1]
theorem Pa(F:cL K mg "in_order" uh ["rows"])(i:mO P w K mg base)(q:bI P w K mg base "in_order" (1+n) ["rows"] (bW K 1 (iz n))):bI P w K mg base "in_order" (1+n+1) ["rows"] (bW K 1 (iz (n+1))):=
 F.ok sH λf D A j s H E z=>#[_,λ_ _=>O,by have:=sH.nd;walk_at "k"]
theorem Aq(j:cL K mg "in_order" uh ["rows"])(q:mO P w K mg base):∀n:Nat,bI P w K mg base "in_order" (1+n) ["rows"] (bW K 1 (iz n))
 |0=>jY j
 |n+1=>by let z:=Aq j q n;show Pa B dy dO d5 j q z
theorem Pb(F:cL K mg "laid_out" ul ["where","above","block","rows","start"])(q:mO P w K mg base)(i:Jl P w K mg base)(j:bI P w K mg base "laid_out" (40+n) ["where","above","block","rows","start"] (bW K 5 (gP n))):bI P w K mg base "laid_out" (40+n+1) ["where","above","block","rows","start"] (bW K 5 (gP (n+1))):=
 F.ok lH λf N A z s H E D=>#[_,λ_ _=>O,by have:=lH.nd;walk_at "k";show Kh ∅;show Bx O (sO B) ∅;show Kh ∅]
theorem Ar(j:cL K mg "laid_out" ul ["where","above","block","rows","start"])(q:mO P w K mg base)(z:Jl P w K mg base):∀n:Nat,bI P w K mg base "laid_out" (40+n) ["where","above","block","rows","start"] (bW K 5 (gP n))
 |0=>jY j
 |n+1=>by let D:=Ar j q z n;show Pb B dy dO d5 j q z D
theorem Ph(F:cL K mg "numbered" yH ["program"])(i:O8 P w K mg base):Dc P w K mg base:=
 F.ok lJ λf z A j s H E q=>#[_,λ_ _=>O,by have:=lJ.nd;walk_at "k";show Kh ∅;show Kh ∅]
theorem Ye(F:cL K mg "reads" BX ["expression"])(i:bI P w K mg base "reads" (0+n) ["expression"] (bW K 1 (ni n))):bI P w K mg base "reads" (0+n+1) ["expression"] (bW K 1 (ni (n+1))):=
 F.ok Yc λf z A q s H E j=>#[_,λ_ _=>O,by walk_at "k"]
theorem Jo(j:cL K mg "reads" BX ["expression"]):∀n:Nat,bI P w K mg base "reads" (0+n) ["expression"] (bW K 1 (ni n))
 |0=>jY j
 |n+1=>by let q:=Jo j n;show Ye B dy dO d5 j q
theorem Pj(F:cL K mg "names_in" um ["expression"])(j:Yd P w K mg base):Dd P w K mg base:=
 F.ok O3 λf z A i s H E q=>#[_,λ_ _=>O,by walk_at "k";show Vr (iQ (Fb O) () (DR B) () (wz (gA (W2 O) () (S7 B) (by kernel_rfl) (ak (gH ["word","name"] [] [] O (jx (aG um)) ∅ (λ_ _ _ _=>∅) (iY (bV aM (bV aM iU))) (λ_ _ _ _=>cN) (λ_ _ _ _=>∅)) aq)) zK))]
theorem Vy(F:cL K mg "spends" yI ["row"])(j:O7 P w K mg base):Jm P w K mg base:=
 F.ok Vw λf z A i s H E q=>#[_,λ_ _=>O,by walk_at "k";show wJ ∅ Fx (iQ ∅ O (Ko B) () (ak (gH ["inner"] [] [] O (jx (aG yI)) ∅ (λ_ _ _ _=>∅) aM (λ_ _ _ _=>cN) (λ_ _ _ _=>(Xk ∅ qY ∅ ∅ (by with_unfolding_all rfl)))) aq))]
theorem Hk(F:wO K eM "block" "Plan.block" tV ["self","k","which"]):nu P w K mg base eM:=
 F.ok Hh λf q A i s H E j=>#[_,λ_ _=>O,by walk_at "k";show PE.imp (gA lX () (wW B) () (ak (Zi () (Lg PySem.F.slot_dict_get PySem.F.type_dict_get (Qj (Bj j)) (wg dy (dO _ ()) ∅) (by walk_at "k";show wg dy (dO _ (.head _)) ∅))) aq)) (pP wK)]
theorem Ng(F:wO K eM "row" "Plan.row" wk ["self","k"]):gQ P w K mg base eM:=
 F.ok M8 λf j A i s H E q=>#[_,λ_ _=>O,by walk_at "k";show wg dy (dO _ ()) ∅]
theorem Cz(F:wO K eM "spending" "Plan.spending" j9 ["self","numbers"])(j:gQ P w K mg base eM)(q:Jm P w K mg base):jW P w K mg base eM:=
 F.ok Cv λf D A i s H E z=>#[_,λ_ _=>O,by walk_at "k";show wJ ∅ Fx (iQ ∅ () (Ko B) () (ak (gH ["k"] ["self"] [0] O (jx (aG j9)) ∅ (λ_ _ _ _=>∅) aM (λ_ _ _ _=>cN) (λ_ _ _ _=>∅)) aq))]
theorem JT(F:cL K mg "behind_row" pY ["plan","k"])(q:nu P w K mg base eM)(D:gQ P w K mg base eM)(N:jW P w K mg base eM)(z:bI P w K mg base "behind_row" (43+n) ["plan","k"] (bW K 2 (dJ n))):bI P w K mg base "behind_row" (43+n+1) ["plan","k"] (bW K 2 (dJ (n+1))):=
 F.ok oF λf W A i s H E j=>#[_,λ_ _=>O,by have:=oF.nd;walk_at "k"]
theorem xf(j:cL K mg "behind_row" pY ["plan","k"])(z:nu P w K mg base eM)(q:gQ P w K mg base eM)(D:jW P w K mg base eM):∀n:Nat,bI P w K mg base "behind_row" (43+n) ["plan","k"] (bW K 2 (dJ n))
 |0=>jY j
 |n+1=>by let F:=xf j z q D n;show JT B dy dO d5 j z q D F
theorem CG(F:wO K eM "__init__" "Plan.__init__" j8 ["self","program"])(q:Dc P w K mg base):vO P w K mg base eM "__init__" 82 ["self","program"] (bW K 2 kI):=
 F.ok dR λf z A i s H E j=>#[_,λ_ _=>O,by have:=dR.nd;walk_at "k";show TW ();show Bx O (sO B) ∅;show By (qK (rR nL vj vk oY (TZ d5 (Lg PySem.F.slot_dict_setdefault PySem.F.type_dict_setdefault (Ux (Bj j)) ∅ (ak (uC ∅ jX ∅) ∅))) ∅));show SV;show SK (KH (gH ["param","known"] [] [] O (jx (aG j8)) ∅ (λ_ _ _ _=>∅) (iY (bV aM (bV aM iU))) (λ_ _ _ _=>cN) (λ_ _ _ _=>∅)) (Eo ∅ ∅ (set_dict (Bj j))));show Hb dy (dO _ (.head _)) ∅ ∅;show Hb dy (dO _ (mI 1 O)) ∅ (UD ∅);show Hb dy (dO _ (mI 2 O)) ∅ ∅]
theorem DW(F:wO K eM "numbers" "Plan.numbers" qg ["self"]):vf P w K mg base eM:=
 F.ok DQ λf j A i s H E q=>#[_,λ_ _=>O,by walk_at "k";show UE (gA (JL O) () (wW B) () (wz (gA W5 () (pD B) () (ak (qL ∅ (wg dy (dO _ ()) ∅)) aq)) zK))]
theorem JV(F:cL K mg "back_steps" qe ["plan","k"])(j:gQ P w K mg base eM):zf P w K mg base:=
 F.ok zc λf z A i s H E q=>#[_,λ_ _=>O,by have:=zc.nd;walk_at "k";show wI zc.nd O () ∅;show Mp q;show gH ["source"] ["row"] [2] O (jx (aG qe)) ∅ (λ_ _ _ _=>∅) aM (λ_ _ _ _=>cN) (λ_ _ _ _=>∅)]
theorem zB(F:wO K eM "just_ahead" "Plan.just_ahead" mJ ["self","k"]):qH P w K mg base eM:=
 F.ok lM λf q A i s H E j=>#[_,λ_ _=>O,by have:=lM.nd;walk_at "k";show UN d5 (Bj j) (wg dy (dO _ ()) ∅) (uC (fP (wg dy (dO _ ()) ∅) ∅ (λ_ _=>O)) jX ∅) (λ_ _=>O);show Sz (rR nL PySem.F.slot_list_index PySem.F.type_list_index (XF j) ∅ ∅);show Qb ∅ Jg (fP ∅ (bj T4 QD ∅ aQ) (λ_ _=>O))]
theorem JW(F:wO K eM "home" "Plan.home" u5 ["self","k"]):tX P w K mg base eM:=
 F.ok JQ λf j A i s H E q=>#[_,λ_ _=>O,by walk_at "k";show wg dy (dO _ ()) ∅]
theorem Hl(F:wO K eM "outer" "Plan.outer" tU ["self","k"]):wX P w K mg base eM:=
 F.ok Hf λf j A i s H E q=>#[_,λ_ _=>O,by walk_at "k";show wg dy (dO _ ()) ∅]
theorem JX(F:cL K mg "boxes_read" pZ ["expression"])(j:Dd P w K mg base):lw P w K mg base:=
 F.ok JP λf q A i s H E z=>#[_,λ_ _=>O,by walk_at "k";show gH ["name"] [] [] O (jx (aG pZ)) ∅ (λ_ _ _ _=>∅) aM (λ_ _ _ _=>cN) (λ_ _ _ _=>∅)]
theorem DX(F:cL K mg "first_sources" lV ["plan","k"])(N:tX P w K mg base eM)(q:wX P w K mg base eM)(D:gQ P w K mg base eM)(z:lw P w K mg base):vg P w K mg base:=
 F.ok kh λf W A i s H E j=>#[_,λ_ _=>O,by have:=kh.nd;walk_at "k";show bN T7 QC ∅ Jg ∅;show gH ["node"] [] [] O (jx (aG lV)) ∅ (λ_ _ _ _=>∅) aM (λ_ _ _ _=>cN) (λ_ _ _ _=>∅)]
theorem Gh(F:cL K mg "turn_sources" rF ["plan","k"])(N:nu P w K mg base eM)(D:gQ P w K mg base eM)(q:tW P w K mg base)(z:lw P w K mg base):vQ P w K mg base:=
 F.ok qi λf W A i s H E j=>#[_,λ_ _=>O,by have:=qi.nd;walk_at "k"]
theorem DY(F:cL K mg "begin_sources" jF ["plan","k"])(z:qH P w K mg base eM)(D:gQ P w K mg base eM)(q:tW P w K mg base)(N:vg P w K mg base)(W:vQ P w K mg base):vh P w K mg base:=
 F.ok oU λf Q A i s H E j=>#[_,λ_ _=>O,by have:=oU.nd;walk_at "k";show bN T7 QC ∅ Jg ∅;show gH ["node"] [] [] O (jx (aG jF)) ∅ (λ_ _ _ _=>∅) aM (λ_ _ _ _=>cN) (λ_ _ _ _=>∅);show gH ["node"] [] [] O (jx (aG jF)) ∅ (λ_ _ _ _=>∅) aM (λ_ _ _ _=>cN) (λ_ _ _ _=>∅)]
theorem Gi(F:wO K eM "params" "Plan.params" rH ["self","name"]):vR P w K mg base eM:=
 F.ok Gf λf q A i s H E j=>#[_,λ_ _=>O,by walk_at "k";show PE.imp (gA lX () (wW B) () (ak (SG (Bj j) (wg dy (dO _ (mI 2 O)) ∅) ∅ (λ_ _=>O)) aq)) (pP wK)]
theorem Hm(F:cL K mg "given_steps" oA ["k","name","some"])(lv:lw P w K mg base):wY P w K mg base:=
 F.ok rJ λf q A i s H E j=>#[_,λ_ _=>O,by have:=rJ.nd;walk_at "k";show gH ["node"] ["name"] [1] O (jx (aG oA)) ∅ (λ_ _ _ _=>∅) aM (λ_ _ _ _=>cN) (λ_ _ _ _=>∅)]
theorem JZ(F:cL K mg "done_steps" qd ["plan","k"])(N:vR P w K mg base eM)(z:gQ P w K mg base eM)(D:lw P w K mg base)(W:tZ P w K mg base)(q:wY P w K mg base):zg P w K mg base:=
 F.ok jD λf i_ A Q s H E j=>#[_,λ_ _=>O,by have:=jD.nd;walk_at "k";show uA ["node"] ["k"] [1] jD.nd O O O (jx (aG qd)) ∅ (λ_ _ _ _=>∅) aM (λ_ _ _ _=>cN) (λ_ _ _ _=>∅);show S4 O (aef B) ∅]
theorem J0(F:wO K eM "body" "Plan.body" u6 ["self","name"]):zj P w K mg base eM:=
 F.ok JR λf q A i s H E j=>#[_,λ_ _=>O,by walk_at "k";show PE.imp (gA lX () (wW B) () (ak (Zi d5 (Lg PySem.F.slot_dict_get PySem.F.type_dict_get (Qj (Bj j)) (wg dy (dO _ (mI 1 O)) ∅) ∅)) aq)) (pP wK)]
theorem Hn(F:cL K mg "leave_steps" oE ["plan","k"])(z:zj P w K mg base eM)(D:tX P w K mg base eM)(N:jW P w K mg base eM)(q:tW P w K mg base):w5 P w K mg base:=
 F.ok rK λf W A Q s H E j=>#[_,λ_ _=>O,by have:=rK.nd;walk_at "k";show wI rK.nd O ∅ ∅;show Mp j;show xo ∅;show gH ["source"] ["home"] [2] O (jx (aG oE)) ∅ (λ_ _ _ _=>∅) aM (λ_ _ _ _=>cN) (λ_ _ _ _=>∅)]
theorem Yg(F:cL K mg "rules" rE ["program"])(W:Cw P w K mg base eM)(z:vf P w K mg base eM)(N:zf P w K mg base)(D:vh P w K mg base)(ahU:zg P w K mg base)(q:w5 P w K mg base):M9 P w K mg base:=
 F.ok yJ λf i_ A Q s H E j=>#[_,λ_ _=>O,by have:=yJ.nd;walk_at "k";show Tl dy W ∅ O ∅ ∅;show Tk dy z ∅ ∅ O;show PB yJ.nd O ∅;show gH ["kind","source"] ["k"] [3] O (jx (aG rE)) ∅ (λ_ _ _ _=>∅) (iY (bV aM (bV aM iU))) (λ_ _ _ _=>cN) (λ_ _ _ _=>∅);show gH ["kind","source","target"] ["k"] [3] O (jx (aG rE)) ∅ (λ_ _ _ _=>∅) (iY (bV aM (bV aM (bV aM iU)))) (λ_ _ _ _=>cN) (λ_ _ _ _=>∅);show gH ["source","target"] ["k"] [3] O (jx (aG rE)) ∅ (λ_ _ _ _=>∅) (iY (bV aM (bV aM iU))) (λ_ _ _ _=>cN) (λ_ _ _ _=>∅);show gH ["source","target"] ["k"] [3] O (jx (aG rE)) ∅ (λ_ _ _ _=>∅) (iY (bV aM (bV aM iU))) (λ_ _ _ _=>cN) (λ_ _ _ _=>∅);show Gd (iQ (Ae O) () (DR B) (by kernel_rfl) (wz (gA (Iu O j.units) () (S7 B) (by kernel_rfl) ∅) zK))]
theorem Gj(F:cL K mg "_law_cell_at" rG ["_law_script","_law_k"]):vU P w K mg base:=
 F.ok Ge λf j A i s H E q=>#[_,λ_ _=>O,by walk_at "k";show bN YS Vd ∅ ∅ ∅]
theorem J1(F:cL K mg "_law_names" mH ["_law_cell","_law_count"]):zm P w K mg base:=
 F.ok gq λf i_ A outer s H E hr=>#[_,λ_ _=>O,by have:=gq.nd;walk_at "k";show wI gq.nd O ∅ bT;show Zh (rR PySem.F.plainAttrs_str PySem.F.slot_str_join PySem.F.type_str_join QF bT (ak (gH ["_law_j"] ["_law_letters","_law_cell"] [2,0] O (jx (aG mH)) ∅ (λ_ _ _ _=>∅) aM (λ_ _ _ _=>cN) (λ_ _ _ _=>∅)) aq));show rB ∅ ∅ ∅;show uA ["_law_j"] ["_law_letters","_law_cell"] [2,0] gq.nd O O O (jx (aG mH)) ∅ (λ_ _ _ _=>∅) aM (λ_ _ _ _=>cN) (λ_ _ _ _=>∅);show Rl (KH ∅ (Eo ∅ ∅ set_list));show Zh (rR PySem.F.plainAttrs_str PySem.F.slot_str_join PySem.F.type_str_join QF bT ∅)]
theorem Av(F:cL K mg "_law_expression" nO ["_law_cell","_law_own","_law_lists"]):sY P w K mg base:=
 F.ok cR λf i_ A outer s H E hr=>#[_,λ_ _=>O,by have:=cR.nd;walk_at "k";show bj K0 Q9 aQ aQ]
theorem Pk(F:cL K mg "_law_row" uo ["_law_cell","_law_own","_law_lists","_law_heads_here","_law_whos"])(F1:sY P w K mg base):De P w K mg base:=
 F.ok iy λf i_ A outer s H E hr=>#[_,λ_ _=>rfl,by have:=iy.nd;walk_at "k";show Fz ∅;show Fz ∅;show Fz ∅;show QO ∅ ∅ (iY (bV aM (bV aM iU)));show uA ["_law_k"] ["_law_cell","_law_own","_law_lists"] [0,1,2] iy.nd rfl rfl rfl (jx (aG uo)) ∅ (λ_ _ _ _=>∅) aM (λ_ _ _ _=>cN) (λ_ _ _ _=>(by walk_at "k";show bj T4 QD aQ ∅))]
theorem Nh(F:cL K mg "_law_rows" sE ["_law_cells","_law_own","_law_lists","_law_heads_here","_law_whos"])(Cs:De P w K mg base):Ao P w K mg base:=
 F.ok mK λf i_ A outer s H E hr=>#[_,λ_ _=>rfl,by have:=mK.nd;walk_at "k";show Vg ∅;show Vg (dz (ak (Fz ∅) aq));show XH (iQ uJ rfl ∅ sd ∅);show G5 (TL (rR nL PySem.F.slot_list_pop PySem.F.type_list_pop Wz ∅ ∅));show XH (iQ uJ rfl ∅ sd ∅);show G5 (TJ (L3 nL PySem.F.slot_list_pop PySem.F.type_list_pop L8 ∅));show By (qK (rR nL vj vk oY ∅ ∅));show bN YS Vd (XH (iQ uJ rfl ∅ sd ∅)) aQ ∅;show By (qK (rR nL vj vk oY ∅ (ak (Fz (gH ["_law_inner"] [] [] rfl (jx (aG sE)) ∅ (λ_ _ _ _=>∅) aM (λ_ _ _ _=>cN) (λ_ _ _ _=>∅))) aq)));show TN ∅]
theorem J2(F:cL K mg "_law_heads" uZ ["_law_cell","_law_names_here"]):zp P w K mg base:=
 F.ok oG λf j A outer s H E q=>#[_,λ_ _=>O,by have:=oG.nd;walk_at "k";show rB ∅ ∅ ∅]
theorem Gk(F:cL K mg "_law_program" il ["_law_script"])(oC:vU P w K mg base)(oT:zp P w K mg base)(nX:zm P w K mg base)(lK:Ao P w K mg base):vV P w K mg base:=
 F.ok cD λf q A outer s H E j=>#[_,λ_ _=>O,by have:=cD.nd;walk_at "k";show wI cD.nd O ∅ ∅;show wI cD.nd O ∅ ∅;show rB ∅ jX ∅;show rB ∅ ∅ ∅;show uA ["_law_k","_law_name"] ["_law_ranks","_law_cell"] [3,1] cD.nd O O O (jx (aG il)) (Bx O (sO B) ∅) (λ_ _ _ _=>∅) (iY (bV aM (bV aM iU))) (λ_ _ _ _=>cN) (λ_ _ _ _=>∅);show gH ["_law_name"] ["_law_cell","_law_ranks"] [1,3] O (jx (aG il)) ∅ (λ_ _ _ _=>∅) aM (λ_ _ _ _=>cN) (λ_ _ _ _=>∅);show uA ["_law_number"] [] [] cD.nd O O O (jx (aG il)) (cA (rB ∅ ∅ ∅)) (λ_ _ _ _=>∅) aM (λ_ _ _ _=>cN) (λ_ _ _ _=>∅);show Bx O (sO B) ∅;show QM ∅ ∅ jX ∅;show gH ["_law_name"] [] [] O (jx (aG il)) ∅ (λ_ _ _ _=>∅) aM (λ_ _ _ _=>cN) (λ_ _ _ _=>∅);show QM ∅ ∅ jX ∅]
theorem Ho(F:cL K mg "_law_spends" lg ["_law_row_here"])(Rn:bI P w K mg base "_law_spends" (0+n) ["_law_row_here"] (bW K 1 (gW n))):bI P w K mg base "_law_spends" (0+n+1) ["_law_row_here"] (bW K 1 (gW (n+1))):=
 F.ok Hc λf i_ A outer s H E hr=>#[_,λ_ _=>rfl,by walk_at "k";show qc YH mq;show Mp hr;show qc YH mq;show wJ ∅ Fx (iQ ∅ () (Ko B) (by kernel_rfl) (ak (gH ["_law_inner"] [] [] rfl (jx (aG lg)) ∅ (λ_ _ _ _=>∅) aM (λ_ _ _ _=>cN) (λ_ _ _ _=>∅)) aq))]
theorem vW(j:cL K mg "_law_spends" lg ["_law_row_here"]):∀n:Nat,bI P w K mg base "_law_spends" (0+n) ["_law_row_here"] (bW K 1 (gW n))
 |0=>jY j
 |n+1=>by let q:=vW j n;show Ho B dy dO d5 j q
theorem Ni(F:cL K mg "_law_size" nY ["_law_rows_here"])(C4:bI P w K mg base "_law_size" (0+n) ["_law_rows_here"] (bW K 1 (dW n))):bI P w K mg base "_law_size" (0+n+1) ["_law_rows_here"] (bW K 1 (dW (n+1))):=
 F.ok qj λf i_ A outer s H E hr=>#[_,λ_ _=>rfl,by have:=qj.nd;walk_at "k";show wJ (Le rfl) Ta (iQ (Le rfl) () (aee B) (by kernel_rfl) (ak (gH ["_law_block"] [] [] rfl (jx (aG nY)) ∅ (λ_ _ _ _=>∅) aM (λ_ _ _ _=>cN) (λ_ _ _ _=>∅)) aq))]
theorem zq(j:cL K mg "_law_size" nY ["_law_rows_here"]):∀n:Nat,bI P w K mg base "_law_size" (0+n) ["_law_rows_here"] (bW K 1 (dW n))
 |0=>jY j
 |n+1=>by let q:=zq j n;show Ni B dy dO d5 j q
theorem Hq(F:cL K mg "_law_behind" lq ["_law_row_here","_law_k"])(z:bI P w K mg base "_law_behind" (40+n) ["_law_row_here","_law_k"] (bW K 2 (eQ n)))(q:vm P w K mg base)(D:w6 P w K mg base):bI P w K mg base "_law_behind" (40+n+1) ["_law_row_here","_law_k"] (bW K 2 (eQ (n+1))):=
 F.ok jk λf N A outer s H E j=>#[_,λ_ _=>O,by have:=jk.nd;walk_at "k";show PE.imp (gA uI () (S8 B) (by kernel_rfl) ∅) (pP My);show wJ ∅ Fx (iQ ∅ () (Ko B) (by kernel_rfl) (ak (gH ["_law_inner"] [] [] O (jx (aG lq)) ∅ (λ_ _ _ _=>∅) aM (λ_ _ _ _=>cN) (λ_ _ _ _=>∅)) aq));show rB ∅ jX ∅]
theorem vX(j:cL K mg "_law_behind" lq ["_law_row_here","_law_k"])(z:vm P w K mg base)(q:w6 P w K mg base):∀n:Nat,bI P w K mg base "_law_behind" (40+n) ["_law_row_here","_law_k"] (bW K 2 (eQ n))
 |0=>jY j
 |n+1=>by let D:=vX j z q n;show Hq B dy dO d5 j D z q
theorem zdx(F:cL K mg "_law_read" uq ["_law_expression_here"])(j:bI P w K mg base "_law_read" (0+n) ["_law_expression_here"] (bW K 1 (k9 n))):bI P w K mg base "_law_read" (0+n+1) ["_law_expression_here"] (bW K 1 (k9 (n+1))):=
 F.ok Xr λf D A outer s H E z=>#[_,λ_ _=>O,by walk_at "k"]
theorem F2(j:cL K mg "_law_read" uq ["_law_expression_here"]):∀n:Nat,bI P w K mg base "_law_read" (0+n) ["_law_expression_here"] (bW K 1 (k9 n))
 |0=>jY j
 |n+1=>by let z:=F2 j n;show zdx B dy dO d5 j z
theorem zdl(F:cL K mg "_law_due" oq ["_law_rows_here","_law_first","_law_begins","_law_due_here"])(F3:Hj P w K mg base)(q_:bI P w K mg base "_law_due" (80+n) ["_law_rows_here","_law_first","_law_begins","_law_due_here"] (bW K 4 (kD n)))(F4:FY P w K mg base):bI P w K mg base "_law_due" (80+n+1) ["_law_rows_here","_law_first","_law_begins","_law_due_here"] (bW K 4 (kD (n+1))):=
 F.ok xI λf i_ A outer s H E hr=>#[_,λ_ _=>O,by have:=xI.nd;walk_at "k";show UP (KH (qc YH mq) (Eo ∅ (AS (by walk_at "k";show PE.imp (gA uI () (S8 B) (by kernel_rfl) ∅) (pP My))) (set_dict (Bj hr))));show PE.imp (gA uI () (S8 B) (by kernel_rfl) ∅) (pP My);show gH ["_law_name"] [] [] O (jx (aG oq)) ∅ (λ_ _ _ _=>∅) aM (λ_ _ _ _=>cN) (λ_ _ _ _=>∅);show uA ["_law_node"] [] [] xI.nd rfl rfl rfl (jx (aG oq)) ∅ (λ_ _ _ _=>∅) aM (λ_ _ _ _=>cN) (λ_ _ _ _=>∅)]
end

theorem F5(j:cL K mg "_law_due" oq ["_law_rows_here","_law_first","_law_begins","_law_due_here"])(z:Hj P w K mg base)(D:FY P w K mg base):∀n:Nat,bI P w K mg base "_law_due" (80+n) ["_law_rows_here","_law_first","_law_begins","_law_due_here"] (bW K 4 (kD n))
 |0=>jY j
 |n+1=>by let F:=F5 j z D n;show zdl B dy dO d5 j z F D
theorem ac8(F:vD K "law" "law" vP f fd)(q_:zc4 P w K mg base)(t9:vV P w K mg base)(yv:M9 P w K mg base):oK P w K mg base qD 121 f fd ["_law_script"] (bW K 1 S6):=
 vD.okP F jG λi_ A outer s H E hr=>#[_,λ_ _=>O,(az (cU 1 jG.nd (bL t9 (hr.mono ()) O (ak (qw 0) aq) (aB aP)))
  (az (cU 2 jG.nd Tb)
  (az (cU 3 jG.nd aQ)
  (az (fK u_ O (cA (qI (qw 1))) (iW O (bM (cQ 4 jG.nd) (bM (cQ 5 jG.nd) (bM (cQ 6 jG.nd) (bM (cQ 7 jG.nd) gR))))) (iY (bV aM (bV aM (bV aM (bV aM iU)))))
  (aD (QJ (QQ (cU 3 jG.nd (bL q_ (hr.mono ()) O (ak (qw 7) (ak (qw 3) (ak (dz (ak (cP (ak bT (ak (bj bD bF bT (qw 4)) aq))) aq)) (ak (qw 2) aq)))) (aB (aB (aB (aB aP))))))))))
  (az (QJ (QQ (G5 (bL q_ (hr.mono ()) O (ak (qI (qw 1)) (ak (qw 3) (ak (dz (ak (cP (ak bT (ak bT aq))) aq)) (ak (qw 2) aq)))) (aB (aB (aB (aB aP))))))))
  (az (cU 8 jG.nd (bL yv (hr.mono ()) O (ak (qw 1) aq) (aB aP)))
  (az (b8 (xo (Fo (td (iQ s_ () (t4 B) (by kernel_rfl) (wz (qw 8) (wz (sg O (wW B) (by kernel_rfl) O) zK)))) (λ_=>O)))
  (aD (bK (qc YH mq)))
  bH)
  (az (cU 9 jG.nd (dz aq))
  (az (fK u_ O (cA (qw 8)) (cQ 10 jG.nd) aM
  (az (b8 (PW.pt (Ke (xo (Fo (td (iQ s_ () (t4 B) (by kernel_rfl) (wz (qw 10) (wz (sg O (zcL B) (by kernel_rfl) O) zK)))) (λ_=>O))) (Ke (bN (Mp hr) Mr (qL (eG B) (qw 10)) aQ (bA _)) (Ke (Fo (td (iQ s_ () (t4 B) (by kernel_rfl) (wz (qI (qw 10)) (wz (sg O (FX B) (by kernel_rfl) O) zK)))) (λ_=>O)) (Fp (Fo (td (iQ s_ () (t4 B) (by kernel_rfl) (wz (qI (qw 10)) (wz (sg O (FX B) (by kernel_rfl) O) zK)))) (λ_=>O)))))))
  (aD (bK (qc YH mq)))
  bH)
  (aD (b8 (PW.pt (pO (bN (cG hr) cH (qI (qw 10)) aQ (bA _)) (mX (bN (Mp hr) Mr (qI (qw 10)) bT (bA _)))))
  (aD (yE (pv 9) (qw 10)))
  bH))))
  (aD (bK (Kh (Qa (Xk (cG hr) cH (qw 9) (wJ (CH O) UU (iQ (CH O) () (DR B) (by kernel_rfl) (ak (qw 2) aq))) (bA _)) (P_ (Xk (cG hr) cH (qw 1) (bL t9 (hr.mono ()) O (ak (qw 0) aq) (aB aP)) (bA _))))))))))))))))]
end
mutual
def vo:PV->Nat
 |ZB ps=>br ps+1
 |_=>1
def br:List PV->Nat
 |[]=>0
 |p::ps=>max (vo p) (br ps)
end
def fl(p:PV):Prop:=di p=G/\vo p<=20
def fls(ps:List PV):Prop:=ck ps=G/\br ps<=20
def iR(h:fl p)(t:fls ps):fls (p::ps):=by
 let(h1,h2):=h;let(i,j):=t;show#[?_,?_]
 . show (di p&&ck ps)=true;grind
 . show max (vo p) (br ps)<=20;lia
def uD:fls []:=#[O,gz _]
def iZ:fl (.str x):=#[rfl,by show 1<=20;decide]
def Nk:fl .non:=#[O,by show 1<=20;decide]
noncomputable abbrev zI (x:Int):Option Lc:=!(Zp (ZI x))
abbrev zT(x:Str):Option Lc:=!(Zp (ZH x))
abbrev zL(x:List PV):Option Lc:=!(Zp (R x))
abbrev zO(x:List PV):Option Lc:=!(Zs (R x))
noncomputable abbrev zS (x:PV):Option Lc:=!(Zp x)
mutual
inductive af where
 |leaf (w:Str) (ps:List PV)
 |call (b:PV) (n:Str) (as:List PV)
 |wh (e:PV) (b:Rows)
 |iff (e:PV) (b c:Rows)
inductive Rows where
 |nil
 |cons (r:af) (rs:Rows)
end
mutual
noncomputable def af.pv:af->PV
 |.leaf w ps=>ZB (ZH w::ps)
 |.call b n as=>ZB [ZH "call",b,ZH n,R as]
 |.wh e b=>ZB [ZH "while",e,R b.pvs]
 |.iff e b c=>ZB [ZH "if",e,R b.pvs,R c.pvs]
noncomputable def Rows.pvs:Rows->List PV
 |.nil=>[]
 |.cons r rs=>r.pv::rs.pvs
end
mutual
def af.dep:af->Nat
 |.leaf _ _=>1
 |.call _ _ _=>1
 |.wh _ b=>b.dep+1
 |.iff _ b c=>max b.dep c.dep+1
def Rows.dep:Rows->Nat
 |.nil=>1
 |.cons r rs=>max (r.dep+1) rs.dep
end
theorem Rows.dep_pos:∀b:Rows,1<=b.dep
 |.nil=>dP _
 |.cons r rs=>fA (Rows.dep_pos rs) (Nat.le_max_right _ _)
def ip(w:Str):Prop:=(w== "if")=M/\(w== "while")=M/\(w== "call")=M
def F6(s:Str):Prop:=(s== "num")=M/\(s== "box")=M/\(s== "@")=M
inductive Rd:Nat->PV->List Str->Prop
 |num (n:Nat) (i:Int):Rd (n+1) (.tup [.str "num",.int i]) []
 |box (n:Nat) (x:Str):Rd (n+1) (.tup [.str "box",.str x]) [x]
 |at_ {n:Nat} {p:PV} {a:List Str} (x:Str) (h:Rd n p a):Rd (n+1) (.tup [.str "@",.str x,p]) (x::a)
 |op {n:Nat} {s:Str} {p q:PV} {a b:List Str} (hs:F6 s) (h:Rd n p a) (g:Rd n q b):Rd (n+1) (.tup [.str s,p,q]) (a++b)
def Rd.mono(h:Rd n p a):n<=m->Rd m p a:=by
 induction h generalizing m with
 |num n i=>intro l;obtain⟨k,rfl⟩:∃k,m=k+1:=#[m-1,()];show .num k i
 |box n x=>intro l;obtain⟨k,rfl⟩:∃k,m=k+1:=#[m-1,()];show .box k x
 |at_ x _ j=>intro l;obtain⟨k,rfl⟩:∃k,m=k+1:=#[m-1,()];show .at_ x (j ())
 |op hs _ _ j q=>intro l;obtain⟨k,rfl⟩:∃k,m=k+1:=#[m-1,()];show .op hs (j ()) (q ())
def Rd.flat(h:Rd n p a):di p=G/\vo p<=n+1:=by
 induction h with
 |num n i=>show#[O,by show 1+1<=_;lia]
 |box n x=>show#[O,by show 1+1<=_;lia]
 |at_ x _ j=>show#[by simp[di,ck,j.1],by simp only[vo,br];lia]
 |op hs _ _ j q=>show#[by simp[di,ck,j.1,q.1],by simp only[vo,br];lia]
abbrev Sh(a:List Str):Prop:=∀x∈a,-x<=100
def XG(p:PV):Prop:=∃n a,Rd n p a/\n<=15/\-a<=9/\Sh a
theorem XG.fl(h:XG p):fl p:=by let(n,a,h,l,_):=h;show#[h.flat.1,by have:=h.flat.2;lia]
theorem Gm:∀{i:List PV},(∀a∈i,XG a)->fls i
 |[]=>λ_=>uD
 |a::i=>λh=>iR (h a cS).fl (Gm λb j=>h b (d_ _ j))
inductive Lf:Str->List PV->Prop
 |set_ {x:Str} {e:PV} (h:-x<=100) (g:XG e):Lf "set" [.str x,e]
 |put {x:Str} {e f:PV} (h:-x<=100) (g:XG e) (g2:XG f):Lf "put" [.str x,e,f]
 |out {x:Str} {e:PV} (y:Str) (h:-x<=100) (g:XG e):Lf "out" [.str x,e,.str y]
theorem Lf.fls(h:Lf w ps):fls ps:=by
 cases h with
 |set_ _ g=>show iR iZ (iR g.fl uD)
 |put _ g j=>show iR iZ (iR g.fl (iR j.fl uD))
 |out y _ g=>show iR iZ (iR g.fl (iR iZ uD))
class FN where
 fn:Str->Prop
section
variable [HK][FN]
mutual
def af.ok:af->Prop
 |.leaf w ps=>ip w/\Lf w ps
 |.call b n as=>(∃x:Str,b=ZH x/\-x<=100)/\-n<=1000/\(∀a∈as,XG a)/\-as<=26/\FN.fn n
 |.wh e b=>XG e/\b.ok
 |.iff e b c=>XG e/\b.ok/\c.ok
def Rows.ok:Rows->Prop
 |.nil=>True
 |.cons r rs=>r.ok/\rs.ok
end
mutual
noncomputable def af.cnt:af->Nat
 |.leaf _ _=>1
 |.call _ _ _=>1
 |.wh _ b=>b.cnt+1
 |.iff _ b c=>b.cnt+c.cnt+1
noncomputable def Rows.cnt:Rows->Nat
 |.nil=>0
 |.cons r rs=>r.cnt+rs.cnt
end
def af.cnt_pos:∀r:af,1<=r.cnt:=λr=>by cases r<;>simp[af.cnt]
theorem Rows.pvs_len:∀rs:Rows,-rs.pvs<=rs.cnt
 |.nil=>dP _
 |.cons r rs=>by have:=Rows.pvs_len rs;let h:=r.cnt_pos;simp only[Rows.pvs,db,Rows.cnt];lia
def bw(h:f Y=!(Zp (ZH a),Y1)):tT (au eR f (om b)) aY Y=!(a==b,Y1):=jU (bC h O O) O
def bG(h:c Y=!(b,Y1))(j:b=M):aF (cC c f bR) g Y=g Y1:=by subst j;show G7 ((lU h).trans O)
def d7(h:c Y=!(b,Y1))(j:b=G)(h2:f Y1=!(.rt r Y2)):aF (cC c f bR) g Y=!(.rt r Y2):=by subst j;show G8 ((lR h).trans h2)
def nA(h:c Y=!(b,Y1))(j:b=G)(h2:f Y1=!(.nx Y2)):aF (cC c f bR) g Y=g Y2:=by subst j;show G7 ((lR h).trans h2)
def mo{t:List PV}:fO (p::t) 0=!p:=by let(x,h,h2):=uT (l:=p::t) (i:=0) () ∅;rw[h,<-h2];rfl
abbrev E1(p:PV)(mu:Mu):Ev:=#[[zS p],mu]
def w0:aJ (aa 0) (ai 0) (E1 (ZB (ZH w::ps)) mu)=!(Zp (ZH w),E1 (ZB (ZH w::ps)) mu):=
 dG O O O O (λn h=>by cases h) (by show (fO (PV.str w::ps) 0).map _=_;rw[mo];rfl)
def fY(h1:b x Y=!Y1)(h2:te Y1=!(l,Y2))(hz:-acc<100000)(j:dF b bB te xs Y2 (acc++[l.pv])=ZN):dF b bB te (x::xs) Y acc=ZN:=by show (b x Y).bind _=ZN;rw[h1,c9];show (te Y1).bind _=ZN;grind
abbrev F7(n:Nat):EF:=aN (kE n) (aj (aa 0) ao)
def Nm{rs:Rows}(h:dF (aC 0) bB (F7 n) rs.pvs #[[J],mu] []=!([]++rs.pvs,mu)):bi (n+1) [R rs.pvs] mu=!(Zs (R rs.pvs),mu):=
 aO (cT (eF () h))
mutual
theorem Jp:∀(r:af)(f:Nat)(mu:Mu),r.ok->r.dep<=f->r.cnt<=1000->kE f [r.pv] mu=!(Zp r.pv,mu)
 |.leaf w ps=>λf mu ok j q=>by obtain⟨m,rfl⟩:∃m,f=m+1:=#[f-1,by simp only[af.dep]at j;lia];let((h1,h2,N),_):=ok;show aO (Y:=#[[J],mu]) ?_;show(bG (bw w0) h1).trans ((bG (bw w0) h2).trans ((bG (bw w0) N).trans O))
 |.call b n i=>λf mu ok j q=>by obtain⟨m,rfl⟩:∃m,f=m+1:=#[f-1,by simp only[af.dep]at j;lia];show aO (Y:=E1 (af.call b n i).pv mu) ?_;show(bG (bw w0) ()).trans ((bG (bw w0) ()).trans (d7 (bw w0) () (cT (dm (ls:=[Zp (ZH "call"),Zp b,Zp (ZH n),Zs (R i)]) ?_ O O))));show aA (Y1:=E1 (af.call b n i).pv mu) O (aA (Y1:=E1 (af.call b n i).pv mu) O (aA (Y1:=E1 (af.call b n i).pv mu) O (aA (Y1:=E1 (af.call b n i).pv mu) (jN (ls:=[Zp (R i)]) (Y1:=E1 (af.call b n i).pv mu) (aA (Y1:=E1 (af.call b n i).pv mu) O O) O O) O)))
 |.wh e b=>λf mu ok j q=>by
  simp only[af.dep]at j;simp only[af.cnt]at q;obtain⟨m,rfl⟩:∃m,f=m+1:=#[f-1,()];have W:1<=b.dep:=Rows.dep_pos b;obtain⟨m,rfl⟩:∃k,m=k+1:=#[m-1,()];let F:=Nm (bv b m mu J [] ok.2 () (by simp only[e_];lia));let P:_:=(af.wh e b).pv;have z:aN (bi (m+1)) tz (E1 P mu)=!(Zs (R b.pvs),E1 P mu):=
   aR (ls:=[Zp (R b.pvs)]) (ps:=[R b.pvs]) (Y1:=E1 P mu) O O O O F
  show aO (Y:=E1 P mu) ?_;show(bG (bw w0) ()).trans (d7 (bw w0) () (cT (dm (ls:=[Zp (ZH "while"),Zp e,Zs (R b.pvs)]) (Y1:=E1 P mu) (aA (Y1:=E1 P mu) O (aA (Y1:=E1 P mu) O (aA z O))) O O)))
 |.iff e b c=>λf mu ok j q=>by
  simp only[af.dep]at j;simp only[af.cnt]at q;obtain⟨m,rfl⟩:∃m,f=m+1:=#[f-1,()];have W:1<=b.dep:=Rows.dep_pos b;obtain⟨m,rfl⟩:∃k,m=k+1:=#[m-1,()];let F:=Nm (bv b m mu J [] ok.2.1 () (by simp only[e_];lia));let D:=Nm (bv c m mu J [] ok.2.2 () (by simp only[e_];lia));let P:_:=(af.iff e b c).pv;have z:aN (bi (m+1)) tz (E1 P mu)=!(Zs (R b.pvs),E1 P mu):=
   aR (ls:=[Zp (R b.pvs)]) (ps:=[R b.pvs]) (Y1:=E1 P mu) O O O O F
  have Q:aN (bi (m+1)) Xs (E1 P mu)=!(Zs (R c.pvs),E1 P mu):=
   aR (ls:=[Zp (R c.pvs)]) (ps:=[R c.pvs]) (Y1:=E1 P mu) O O O O D
  show aO (Y:=E1 P mu) ?_;show d7 (bw w0) () (cT (dm (ls:=[Zp (ZH "if"),Zp e,Zs (R b.pvs),Zs (R c.pvs)]) (aA (Y1:=E1 P mu) O (aA (Y1:=E1 P mu) O (aA z (aA Q O)))) O O))
theorem bv:∀(rs:Rows)(n:Nat)(mu:Mu)(o:Option Lc)(acc:List PV),rs.ok->rs.dep<=n+1->-acc+rs.cnt<=1000->dF (aC 0) bB (F7 n) rs.pvs #[[o],mu] acc=!(acc++rs.pvs,mu)
 |.nil=>λn mu o acc _ _ _=>by simp[Rows.pvs,dF]
 |.cons r rs=>λn mu o acc ok j q=>by simp only[Rows.dep]at j;simp only[Rows.cnt]at q;let h1:=r.cnt_pos;let z:=Jp r n mu ok.1 () ();let i:=bv rs n mu (zS r.pv) (acc++[r.pv]) ok.2 () (by rw[eS];simp only[db,e_];lia);show fY (Y1:=E1 r.pv mu) (Y2:=E1 r.pv mu) (l:=Zp r.pv) O (aR (ls:=[Zp r.pv]) (ps:=[r.pv]) (Y1:=E1 r.pv mu) O O O O z) () (i.trans ?_);simp only[Rows.pvs,eK];rfl
end
structure eI where
 w:Str
 ab:PV
 bl:Int
 r:af
def eI.pv(e:eI):PV:=ZB [ZH e.w,e.ab,ZI e.bl,e.r.pv]
mutual
noncomputable def af.es:af->Str->PV->Int->Nat->List eI
 |.leaf x ps,w,ab,bl,_=>[#[w,ab,bl,.leaf x ps]]
 |.call b n as,w,ab,bl,_=>[#[w,ab,bl,.call b n as]]
 |.wh e b,w,ab,bl,k=>#[w,ab,bl,.wh e b]::b.es w (ZI k) 0 (k+1)
 |.iff e b c,w,ab,bl,k=>#[w,ab,bl,.iff e b c]::(b.es w (ZI k) 0 (k+1)++c.es w (ZI k) 1 (k+1+b.cnt))
noncomputable def Rows.es:Rows->Str->PV->Int->Nat->List eI
 |.nil,_,_,_,_=>[]
 |.cons r rs,w,ab,bl,k=>r.es w ab bl k++rs.es w ab bl (k+r.cnt)
end
mutual
theorem af.es_len:∀(r:af)(w:Str)(ab:PV)(bl:Int)(k:Nat),-(r.es w ab bl k)=r.cnt
 |.leaf _ _=>λw ab bl k=>rfl
 |.call _ _ _=>λw ab bl k=>rfl
 |.wh e b=>λw ab bl k=>by simp[af.es,af.cnt,Rows.es_len b]
 |.iff e b c=>λw ab bl k=>by simp[af.es,af.cnt,Rows.es_len b,Rows.es_len c]
theorem Rows.es_len:∀(rs:Rows)(w:Str)(ab:PV)(bl:Int)(k:Nat),-(rs.es w ab bl k)=rs.cnt
 |.nil=>λw ab bl k=>rfl
 |.cons r rs=>λw ab bl k=>by simp[Rows.es,Rows.cnt,af.es_len r,Rows.es_len rs]
end
abbrev fz(l:List eI):List PV:=l.map eI.pv
def Hr(a b:List eI):fz (a++b)=fz a++fz b:=eD
def nC(a:List eI):-(fz a)=-a:=da _
def xg{Y Y1 Y2:Ev}{mu:Mu}(h1:j Y=!(o,Y1))(F:o.pv=ZA n)(N:Y1.mu[n]?=!(!(R ws0)))(h2:q Y1=!(y,Y2))(z:y.pv=p)(i:Y2.mu[n]?=!(!(R ws)))(D:-ws<100000)(e:Y2.mu.set n (!(R (ws++[p])))=mu):ou j q Y=!(.nx #[Y2.vs,mu]):=by unfold ou;grind
def gw(h1:b x Y=!Y1)(h2:body Y1=!(.nx Y2))(j:eN b body xs Y2=ZN):eN b body (x::xs) Y=ZN:=by show (b x Y).bind _=_;grind
def S9(h1:b x Y=!Y1)(h2:body Y1=!(.nx Y2)):eN b body [x] Y=!(.nx Y2):=gw h1 h2 O
def Np{Y Y1 Y2 Y3 ZD:Ev}(h1:b x Y=!Y1)(h2:body Y1=!(.nx Y2))(j:b y Y2=!Y3)(q:body Y3=!(.nx ZD)):eN b body [x,y] Y=!(.nx ZD):=gw h1 h2 (S9 j q)
def sS{w:Str}(h1:(w== "if")=M)(h2:(w== "while")=M):gJ [ZB (ZH w::ps)] mu=!(Zs (R []),mu):=
 aO (Y:=E1 (ZB (ZH w::ps)) mu) ((bG (bw w0) h1).trans ((bG (bw w0) h2).trans O))
def Jq:gJ [ZB [ZH "while",e,p]] mu=!(Zs (R [p]),mu):=
 aO (Y:=E1 (ZB [ZH "while",e,p]) mu) ((bG () ()).trans ())
def Jr:gJ [ZB [ZH "if",e,p,q]] mu=!(Zs (R [p,q]),mu):=
 aO (Y:=E1 (ZB [ZH "if",e,p,q]) mu) ()
abbrev LE(w:Str)(ab:PV)(bl:Int)(X:PV)(st:Nat)(acc:List PV)(o6 o7 o8 o9:Option Lc)(mu:Mu):Ev:=#[[zT w,zS ab,zI bl,zS X,zI st,zO acc,o6,o7,o8,o9],mu]
abbrev yy(n:Nat):SF:=gb 5 (aN (gP n) (aj (aa 0) D7))
abbrev Zj(n:Nat):SF:=aF D5
 (aF D6
 (fX (uU (aN gJ (aj (aa 6) ao))) xL (yy n)))
def Nq{st k:Nat}(h:gP n [ZH w,ZI k,ZI pl,p,ZI ((st+-acc:Nat):Int)] mu=!(Zs (R j),mu))(hz:-acc+-j<=100000):
 yy n (LE w ab bl X st acc o6 (zI k) (zI pl) (zS p) mu)=!(.nx (LE w ab bl X st (acc++j) o6 (zI k) (zI pl) (zS p) mu)):=
 jZ O
  (aR O () O O h) O O hz O
abbrev en(w:Str)(ab:PV)(bl:Int)(r:af):PV:=ZB [ZH w,ab,ZI bl,r.pv]
def Gn{st:Nat}(ok:r.ok)(q:r.dep<=40)(F:r.cnt<=1000)(N:-acc<1000)(D:∀mu,gJ [r.pv] mu=!(Zs (R bs),mu))
 (h:eN xL (yy n) (ue bs) (LE w ab bl X st (acc++[en w ab bl r]) (zS r.pv) (zI ((st+-acc:Nat):Int)) o8 j mu)=ZN):
 Zj n (LE w ab bl X st acc (zS r.pv) o7 o8 j mu)=ZN:=by
 let z:=Jp r 40 mu ok q F;show aH () ?_;show aH (Y':=LE w ab bl X st (acc++[en w ab bl r]) (zS r.pv) (zI ((st+-acc:Nat):Int)) o8 j mu) ?_ ?_
 . show pR O
    (dm (aA O (aA O (aA O (aA (aR O O O O z) O)))) O O) O O () O
 . show eO ?_ h;unfold uU;rw[aR O O O O (D _),c9];rfl
def Kp{rs:Rows}{st:Nat}
 (h:∃o6 o7 o8 j,eN (aC 6) (Zj n) rs.pvs (LE w ab bl (R rs.pvs) st [] J J J J mu)=!(.nx (LE w ab bl (R rs.pvs) st ([]++fz (rs.es w ab bl (st+0))) o6 o7 o8 j mu))):
 gP (n+1) [ZH w,ab,ZI bl,R rs.pvs,ZI st] mu=!(Zs (R (fz (rs.es w ab bl st))),mu):=by
 let(o6,o7,o8,j,h):=h;show aO (Y:=#[[zT w,zS ab,zI bl,zL rs.pvs,zI st,J,o6,o7,o8,j],mu]) ?_;show aH O (aH () O)
mutual
theorem ada:∀(r:af)(n:Nat)(w:Str)(ab:PV)(bl:Int)(X:PV)(st:Nat)(acc:List PV)(o7 o8 D:Option Lc)(mu:Mu),r.ok->r.dep<=n->r.dep<=40->-acc+r.cnt<=1000->
 ∃p7 p8 p9,Zj n (LE w ab bl X st acc (zS r.pv) o7 o8 D mu)=!(.nx (LE w ab bl X st (acc++fz (r.es w ab bl (st+-acc))) (zS r.pv) p7 p8 p9 mu))
 |.leaf x ps=>λn w ab bl X st acc o7 o8 D mu ok W q F=>by simp only[af.cnt]at F;show#[zI ((st+-acc:Nat):Int),o8,D,Gn ok q (by simp only[af.cnt];lia) () (λmu=>sS ok.1.1 ok.1.2.1) O]
 |.call b m as=>λn w ab bl X st acc o7 o8 D mu ok W q F=>by simp only[af.cnt]at F;show#[zI ((st+-acc:Nat):Int),o8,D,Gn ok q (by simp only[af.cnt];lia) () (λmu=>sS () ()) O]
 |.wh e b=>λn w ab bl X st acc o7 o8 D mu ok W q F=>by
  simp only[af.cnt]at F;simp only[af.dep]at W q;let hb:=Rows.dep_pos b;obtain⟨m,rfl⟩:∃m,n=m+1:=#[n-1,()];let r:af:=.wh e b;let k:_:=st+-acc;let i:_:=acc++[en w ab bl r];have z:-i=-acc+1:=by simp[i]
  let ih:=Kp (bg b m w (ZI (k:Nat)) 0 (R b.pvs) (st+-i) [] J J J J mu ok.2 () () (by simp only[e_];lia));have he:-(fz (b.es w (ZI (k:Nat)) 0 (st+i.length)))=b.cnt:=by rw[nC,Rows.es_len]
  let N:=Nq (ab:=ab) (X:=X) (bl:=bl) (pl:=0) (st:=st) (k:=k) (acc:=i) (o6:=zS r.pv) (p:=R b.pvs) ih (by rw[he,z];lia);show#[zI (k:Nat),zI 0,zL b.pvs,Gn (r:=.wh e b) ok (by simp only[af.dep];lia) (by simp only[af.cnt];lia) () (λmu=>Jq) ((S9 (Y1:=LE w ab bl X st i (zS r.pv) (zI (k:Nat)) (zI 0) (zL b.pvs) mu) O N).trans ?_)];have ek:st+-i=k+1:=by rw[z];lia
  rw[ek];simp only[af.es,i,eK,mE,iS,fz,fF];rfl
 |.iff e b c=>λn w ab bl X st acc o7 o8 D mu ok W q F=>by
  simp only[af.cnt]at F;simp only[af.dep]at W q;let hb:=Rows.dep_pos b;obtain⟨m,rfl⟩:∃m,n=m+1:=#[n-1,()];let r:af:=.iff e b c;let k:_:=st+-acc;let i:_:=acc++[en w ab bl r];have z:-i=-acc+1:=by simp[i]
  let ih:=Kp (n:=m) (w:=w) (ab:=ZI (k:Nat)) (bl:=0) (st:=st+-i) (mu:=mu) (rs:=b) (bg b m w (ZI (k:Nat)) 0 (R b.pvs) (st+-i) [] J J J J mu ok.2.1 () () (by simp only[e_];lia));have he:-(fz (b.es w (ZI (k:Nat)) 0 (st+i.length)))=b.cnt:=by rw[nC,Rows.es_len]
  let N:=Nq (n:=m+1) (w:=w) (ab:=ab) (X:=X) (bl:=bl) (pl:=0) (st:=st) (k:=k) (acc:=i) (o6:=zS r.pv) (p:=R b.pvs) ih (by rw[he,z];lia);let j:_:=i++fz (b.es w (ZI (k:Nat)) 0 (st+-i));have Q:-j=-acc+1+b.cnt:=by show -(i++_)=_;rw[eS,he,z]
  let yA:=Kp (n:=m) (w:=w) (ab:=ZI (k:Nat)) (bl:=1) (st:=st+-j) (mu:=mu) (rs:=c) (bg c m w (ZI (k:Nat)) 1 (R c.pvs) (st+-j) [] J J J J mu ok.2.2 () () (by simp only[e_];lia));have xq:-(fz (c.es w (ZI (k:Nat)) 1 (st+j.length)))=c.cnt:=by rw[nC,Rows.es_len]
  let kA:=Nq (n:=m+1) (w:=w) (ab:=ab) (X:=X) (bl:=bl) (pl:=1) (st:=st) (k:=k) (acc:=j) (o6:=zS r.pv) (p:=R c.pvs) yA (by rw[xq,Q];lia);show#[zI (k:Nat),zI 1,zL c.pvs,Gn (r:=.iff e b c) ok (by simp only[af.dep];lia) (by simp only[af.cnt];lia) () (λmu=>Jr) ((Np (Y1:=LE w ab bl X st i (zS r.pv) (zI (k:Nat)) (zI 0) (zL b.pvs) mu) (Y3:=LE w ab bl X st j (zS r.pv) (zI (k:Nat)) (zI 1) (zL c.pvs) mu) O N O kA).trans ?_)];have ek:st+-i=k+1:=by rw[z];lia
  have ek2:st+-j=k+1+b.cnt:=by rw[Q];lia
  rw[ek2];simp only[j,ek];simp only[af.es,fz,fF,eD,i,eK,mE,iS];rfl
theorem bg:∀(rs:Rows)(n:Nat)(w:Str)(ab:PV)(bl:Int)(X:PV)(st:Nat)(acc:List PV)(o6 o7 o8 i:Option Lc)(mu:Mu),rs.ok->rs.dep<=n+1->rs.dep<=41->-acc+rs.cnt<=1000->
 ∃F q z D,eN (aC 6) (Zj n) rs.pvs (LE w ab bl X st acc o6 o7 o8 i mu)=!(.nx (LE w ab bl X st (acc++fz (rs.es w ab bl (st+-acc))) F q z D mu))
 |.nil=>λn w ab bl X st acc o6 o7 o8 i mu ok W j Q=>#[o6,o7,o8,i,by simp[Rows.pvs,eN,Rows.es,fz]]
 |.cons r rs=>λn w ab bl X st acc o6 o7 o8 i mu ok W j Q=>by
  simp only[Rows.dep]at W j;simp only[Rows.cnt]at Q;let(q7,q8,q9,e1):=ada r n w ab bl X st acc o7 o8 i mu ok.1 () () ();have N:-(acc++fz (r.es w ab bl (st+acc.length)))=-acc+r.cnt:=by rw[eS,nC,af.es_len]
  let(F,q,z,D,e2):=bg rs n w ab bl X st (acc++fz (r.es w ab bl (st+-acc))) (zS r.pv) q7 q8 q9 mu ok.2 () () (by rw[N];lia);show#[F,q,z,D,gw (Y1:=LE w ab bl X st acc (zS r.pv) o7 o8 i mu) O e1 (e2.trans ?_)];rw[N,<-Nat.add_assoc];simp only[Rows.es,Hr,eK]
end
def Dg{rs:Rows}{st:Nat}(ok:rs.ok)(q:rs.dep<=40)(j:rs.cnt<=1000):
 gP 40 [ZH w,ab,ZI bl,R rs.pvs,ZI st] mu=!(Zs (R (fz (rs.es w ab bl st))),mu):=
 Kp (bg rs 39 w ab bl _ st [] J J J J mu ok () () ∅)
structure Fn where
 name:Str
 rank:PV
 params:List PV
 rows:Rows
def Fn.pv(f:Fn):PV:=ZB [ZH f.name,f.rank,R f.params,R f.rows.pvs]
structure Pg where
 boxes:List PV
 grants:List PV
 fns:List Fn
 rows:Rows
def Pg.pv(P:Pg):PV:=ZB [R P.boxes,R P.grants,R (P.fns.map Fn.pv),R P.rows.pvs]
def d8:List Fn->Nat
 |[]=>0
 |f::fs=>f.rows.cnt+d8 fs
def qJ:List Fn->Nat->List eI
 |[],_=>[]
 |f::fs,k=>f.rows.es f.name .non 0 k++qJ fs (k+f.rows.cnt)
theorem BZ:∀(fs:List Fn)(k:Nat),-(qJ fs k)=d8 fs
 |[],k=>rfl
 |f::fs,k=>by simp[qJ,d8,Rows.es_len,BZ fs]
def Pg.es(P:Pg):List eI:=qJ P.fns 0++P.rows.es "main" .non 0 (d8 P.fns)
structure Pg.ok(P:Pg):Prop where
 fn:∀f∈P.fns,f.rows.ok/\f.rows.dep<=30
 rw:P.rows.ok
 dp:P.rows.dep<=30
 ct:d8 P.fns+P.rows.cnt<=44
 pm:∀f∈P.fns,∃xs:List Str,f.params=xs.map (λx=>.tup [.str x,.non])/\-xs<=4/\Sh xs
 fl:-P.fns<=4
 nd:(P.fns.map Fn.name).Nodup
 nl:∀f∈P.fns,-f.name<=100
abbrev NE(p:PV)(acc:List PV)(o2 o3 o4 o5:Option Lc)(mu:Mu):Ev:=#[[zS p,zO acc,o2,o3,o4,o5],mu]
theorem QS:∀(fs:List Fn)(acc:List PV)(o2 o3 o4 o5:Option Lc)(mu:Mu),(∀f∈fs,f.rows.ok/\f.rows.dep<=30)->-acc+d8 fs<=1000->
 ∃p2 q D z,eN D9 xQ (fs.map Fn.pv) (NE p acc o2 o3 o4 o5 mu)=!(.nx (NE p (acc++fz (qJ fs (-acc))) p2 q D z mu))
 |[]=>λacc o2 o3 o4 o5 mu _ _=>#[o2,o3,o4,o5,by simp[eN,qJ]]
 |f::fs=>λacc o2 o3 o4 o5 mu h N=>by
  simp only[d8]at N;let(ok,W):=h f cS;let e:=Dg (w:=f.name) (ab:=.non) (bl:=0) (st:=-acc) (mu:=mu) ok () ();have j:-(acc++fz (f.rows.es f.name .non 0 acc.length))=-acc+f.rows.cnt:=by rw[eS,nC,Rows.es_len]
  let E:_:=NE p acc (zT f.name) (zS f.rank) (zL f.params) (zL f.rows.pvs) mu;let(p2,q,D,z,Q):=QS fs (acc++fz (f.rows.es f.name .non 0 (-acc))) (zT f.name) (zS f.rank) (zL f.params) (zL f.rows.pvs) mu (λx F=>h x (d_ _ F)) (by rw[j];lia);have st:xQ E=!(.nx (NE p (acc++fz (f.rows.es f.name .non 0 (-acc))) (zT f.name) (zS f.rank) (zL f.params) (zL f.rows.pvs) mu)):=
   jZ O
    (aR O O O O e) O O (by rw[nC,Rows.es_len];lia) O
  show#[p2,q,D,z,(gw O st (Q.trans ?_))];rw[j];simp only[qJ,Hr,eK]
def Pr{P:Pg}(ok:P.ok):yK [P.pv] mu=!(Zs (R (fz P.es)),mu):=by
 let W:=ok.ct;let(p2,q,D,z,Q):=QS P.fns [] J J J J mu ok.fn (by simp only[e_];lia);simp only[iS,e_]at Q;let j:_:=fz (qJ P.fns 0);have F:-j=d8 P.fns:=by simp only[j,nC,BZ]
 let N:=Dg (w:="main") (ab:=.non) (bl:=0) (st:=-j) (mu:=mu) ok.rw (by have:=ok.dp;lia) ();rw[F]at N;let b:_:=fz (P.rows.es "main" .non 0 (d8 P.fns));show(aO (Y:=#[[zS P.pv,J,p2,q,D,z],mu]) (r:=Zs (R (j++b))) ?_).trans ?_
 . show aH O (aH () (aH (Y':=NE P.pv (j++b) p2 q D z mu) ?_ O));show jZ O
    (aR O O O O (by rw[F];show N)) O O (by simp only[b];rw[F,nC,Rows.es_len];lia) O
 . simp only[j,b,Pg.es,Hr]
def eI.key(e:eI):List aV:=[!(.inr e.w),(okP e.ab).getD J,!(.inl e.bl)]
def pos(K:List aV):Nat->List eI->List Nat
 |_,[]=>[]
 |i,e::es=>if e.key=K then i::pos K (i+1) es else pos K (i+1) es
theorem pF(K:List aV):∀(i:Nat)(a b:List eI),pos K i (a++b)=pos K i a++pos K (i+-a) b
 |i,[]=>λb=>rfl
 |i,e::a=>λb=>by show (if e.key=K then i::pos K (i+1) (a++b) else pos K (i+1) (a++b))=(if e.key=K then i::pos K (i+1) a else pos K (i+1) a)++_;rw[pF K (i+1) a b,show i+-(e::a)=i+1+-a by simp only[db];omega];split<;>rfl
theorem Ca{K:List aV}:∀{i:Nat}{a:List eI},(∀e∈a,e.key≠K)->pos K i a=[]
 |i,[]=>λ_=>rfl
 |i,e::a=>λh=>by show (if e.key=K then i::pos K (i+1) a else pos K (i+1) a)=[];rw[a_ (h e cS)];show Ca λx j=>h x (d_ _ j)
def Rows.nums:Rows->Nat->List Nat
 |.nil,_=>[]
 |.cons r rs,k=>k::rs.nums (k+r.cnt)
abbrev gI(w:Str)(m:Nat)(b:Int):List aV:=[!(.inr w),!(.inl (m:Int)),!(.inl b)]
def key_ne{e:eI}{m:Nat}(h:e.ab≠ZI m)(D:e.ab=.non\/∃j:Nat,e.ab=ZI j):e.key≠gI w m b:=by
 intro q;injection q with _ q;injection q with q _;obtain z|⟨j,z⟩:=D
 . rw[z]at q;cases q
 . rw[z]at q h;injection q with q;grind
def yN{e:eI}(h:e.bl≠b):e.key≠gI w m b:=by intro q;injection q with _ q;grind
def tY(ab:PV)(s t:Nat)(e:eI):Prop:=e.ab=ab\/∃m:Nat,e.ab=ZI m/\s<=m/\m<t
def tY.mono(h:tY ab s t e)(h1:s'<=s)(h2:t<=t'):tY ab s' t' e:=by
 obtain h|⟨m,h,j,q⟩:=h
 . show Zl h
 . show YY #[m,h,(),()]
def tY.up(h:tY (ZI (k:Nat)) s t e)(h1:k<s)(h2:k<t):tY ab k t e:=by
 obtain h|⟨m,h,q,j⟩:=h
 . show YY #[k,h,dP _,h2]
 . show YY #[m,h,(),j]
mutual
theorem af.abs:∀(r:af)(w:Str)(ab:PV)(bl:Int)(k:Nat),∀e∈r.es w ab bl k,tY ab k (k+r.cnt) e
 |.leaf _ _=>λw ab bl k e i=>by rw[gg.mp i];show Zl O
 |.call _ _ _=>λw ab bl k e i=>by rw[gg.mp i];show Zl O
 |.wh x b=>λw ab bl k e i=>by
  obtain rfl|i:=bh.mp i
  . show Zl O
  . let h:=Rows.abs b w (ZI (k:Nat)) 0 (k+1) e i;simp only[af.cnt];show(h.up () ()).mono () ()
 |.iff x b c=>λw ab bl k e i=>by
  simp only[af.cnt];obtain rfl|i:=bh.mp i
  . show Zl O
  . obtain i|i:=d6.mp i
    . let h:=Rows.abs b w (ZI (k:Nat)) 0 (k+1) e i;show(h.up () ()).mono () ()
    . let h:=Rows.abs c w (ZI (k:Nat)) 1 (k+1+b.cnt) e i;show(h.up () ()).mono () ()
theorem Rows.abs:∀(rs:Rows)(w:Str)(ab:PV)(bl:Int)(k:Nat),∀e∈rs.es w ab bl k,tY ab k (k+rs.cnt) e
 |.nil=>λw ab bl k e i=>by cases i
 |.cons r rs=>λw ab bl k e i=>by
  simp only[Rows.cnt];obtain i|i:=d6.mp i
  . show(af.abs r w ab bl k e i).mono () ()
  . show(Rows.abs rs w ab bl (k+r.cnt) e i).mono () ()
end
def vp(ab:PV)(k:Nat):Prop:=ab=.non\/∃j:Nat,ab=ZI j/\j<k
def tY.num(h:tY ab s t e)(a:vp ab k):e.ab=.non\/∃j:Nat,e.ab=ZI j:=by
 obtain h|⟨m,h,_⟩:=h
 . obtain a|⟨j,a,_⟩:=a
   . show Zl (h.trans a)
   . show YY #[j,h.trans a]
 . show YY #[m,h]
def xn(h:a≠b):(PV.int (a:Nat))≠ZI (b:Nat):=λq=>by injection q with q;show h ()
def tY.ne{s t m:Nat}(h:tY ab s t e)(h1:ab≠ZI m)(h2:m<s\/t<=m):e.ab≠ZI m:=by
 obtain h|⟨j,h,q,z⟩:=h
 . grind
 . grind
def vp.ne(a:vp ab k)(h:k<=m):ab≠ZI m:=by
 obtain a|⟨j,a,z⟩:=a
 . grind
 . grind
def af.pos_top(r:af)(w:Str)(m:Nat)(b:Int)(k:Nat)(h:m<k):pos (gI w m b) k (r.es w (ZI m) b k)=[k]:=by
 have own:∀(e:eI),e.w=w->e.ab=ZI m->e.bl=b->e.key=gI w m b:=λe h1 h2 z=>by unfold eI.key;rw[h1,h2,z];rfl
 have sub:∀(rs:Rows)(c:Int)(s:Nat),k<s->pos (gI w m b) s (rs.es w (ZI (k:Nat)) c s)=[]:=λrs c s hs=>Ca λe q=>by let g:=Rows.abs rs w (ZI (k:Nat)) c s e q;show key_ne (g.ne () (Zl ())) (g.num (YY #[k,O,hs]))
 cases r with
 |leaf x ps=>show (if _ then _ else _)=_;rw[ax (own _ O O O)];rfl
 |call x n D=>show (if _ then _ else _)=_;rw[ax (own _ O O O)];rfl
 |wh x c=>
  show (if _ then _ else _)=_;grind
 |iff x c d=>
  show (if _ then _ else _)=_;rw[ax (own _ O O O),pF,Rows.es_len,sub c 0 (k+1) (),sub d 1 (k+1+c.cnt) ()];rfl
theorem Rows.pos_top:∀(rs:Rows)(w:Str)(m:Nat)(b:Int)(k:Nat),m<k->pos (gI w m b) k (rs.es w (ZI m) b k)=rs.nums k
 |.nil=>λw m b k h=>rfl
 |.cons r rs=>λw m b k h=>by show pos _ k (r.es w (ZI m) b k++rs.es w (ZI m) b (k+r.cnt))=_;rw[pF,af.pos_top r w m b k h,af.es_len,Rows.pos_top rs w m b (k+r.cnt) ()];rfl
def af.bnums:af->Nat->Int->List Nat
 |.wh _ b,k,i=>if i=0 then b.nums (k+1) else []
 |.iff _ b c,k,i=>if i=0 then b.nums (k+1) else if i=1 then c.nums (k+1+b.cnt) else []
 |_,_,_=>[]
def af.pos_in(r:af)(w:Str)(ab:PV)(bl:Int)(k:Nat)(i:Int)(a:vp ab k):pos (gI w k i) k (r.es w ab bl k)=r.bnums k i:=by
 have own:∀(e:eI),e.ab=ab->e.key≠gI w k i:=λe h=>key_ne (by rw[h];show a.ne (dP _)) (by
  obtain a|⟨j,a,_⟩:=a
  . show Zl (h.trans a)
  . show YY #[j,h.trans a])
 have sub:∀(rs:Rows)(c:Int)(s:Nat),k<s->c≠i->pos (gI w k i) s (rs.es w (ZI (k:Nat)) c s)=[]:=λrs c s hs F=>by
  have go:∀(rs:Rows)(s:Nat),k<s->pos (gI w k i) s (rs.es w (ZI (k:Nat)) c s)=[]:=by
   intro rs;induction rs using Rows.rec (motive_1:=λ_=>True) with
   |nil=>intro s _;rfl
   |cons r rs _ N=>
    intro s hs;show pos _ s (r.es w (ZI (k:Nat)) c s++rs.es w (ZI (k:Nat)) c (s+r.cnt))=_;rw[pF,af.es_len,N (s+r.cnt) (),fg];have z:∀(bs:Rows)(d:Int)(t:Nat),s<t->pos (gI w k i) t (bs.es w (ZI (s:Nat)) d t)=[]:=λbs d t Q=>Ca λe W=>by let g:=Rows.abs bs w (ZI (s:Nat)) d t e W;show key_ne (g.ne (xn ()) (Zl ())) (g.num (YY #[s,O,Q]))
    cases r with
    |leaf x ps=>show (if _ then _ else _)=_;rw[a_ (yN F)];rfl
    |call x n as=>show (if _ then _ else _)=_;rw[a_ (yN F)];rfl
    |wh x bs=>show (if _ then _ else _)=_;rw[a_ (yN F)];show z bs 0 (s+1) ()
    |iff x bs cs=>show (if _ then _ else _)=_;rw[a_ (yN F),pF,Rows.es_len,z bs 0 (s+1) (),z cs 1 (s+1+bs.cnt) ()];rfl
   |_=>trivial
  show go rs s hs
 cases r with
 |leaf x ps=>show (if _ then _ else _)=_;rw[a_ (own _ O)];rfl
 |call x n as=>show (if _ then _ else _)=_;rw[a_ (own _ O)];rfl
 |wh x c=>
  show (if _ then _ else _)=_;rw[a_ (own _ O)];show _=if i=0 then c.nums (k+1) else []
  by_cases hi:i=0
  . subst hi;rw[ax O];show Rows.pos_top c w k 0 (k+1) ()
  . rw[a_ hi];show sub c 0 (k+1) () (λq=>hi q.symm)
 |iff x c d=>
  show (if _ then _ else _)=_;rw[a_ (own _ O),pF,Rows.es_len];show _=if i=0 then c.nums (k+1) else if i=1 then d.nums (k+1+c.cnt) else []
  by_cases hi:i=0
  . subst hi;rw[ax O,Rows.pos_top c w k 0 (k+1) (),sub d 1 (k+1+c.cnt) () (),fg]
  . rw[a_ hi,sub c 0 (k+1) () (λq=>hi q.symm),iS];by_cases h1:i=1
    . subst h1;rw[ax O];show Rows.pos_top d w k 1 (k+1+c.cnt) ()
    . rw[a_ h1];show sub d 1 (k+1+c.cnt) () (λq=>h1 q.symm)
structure qx(es:List eI)(w:Str)(ab:PV)(bl:Int)(k:Nat)(rs:Rows):Prop where
 ex:∃pre post,es=pre++(rs.es w ab bl k++post)/\-pre=k/\∀e∈pre++post,(e.ab=.non\/∃j:Nat,e.ab=.int j)/\∀m:Nat,k<=m->m<k+rs.cnt->e.ab≠.int m
 ab:vp ab k
structure qy(es:List eI)(w:Str)(ab:PV)(bl:Int)(k:Nat)(r:af):Prop where
 ex:∃pre post,es=pre++(r.es w ab bl k++post)/\-pre=k/\∀e∈pre++post,(e.ab=.non\/∃j:Nat,e.ab=.int j)/\∀m:Nat,k<=m->m<k+r.cnt->e.ab≠.int m
 ab:vp ab k
def vp.mono(a:vp ab k)(h:k<=k'):vp ab k':=by
 obtain a|⟨j,a,i⟩:=a
 . show Zl a
 . show YY #[j,a,()]
theorem qx.cons{es:List eI}{w:Str}{ab:PV}{bl:Int}{k:Nat}{r:af}{rs:Rows}(h:qx es w ab bl k (.cons r rs)):qy es w ab bl k r/\qx es w ab bl (k+r.cnt) rs:=by
 let((Q,i,e,W,N),F):=h;simp only[Rows.cnt]at N;show#[#[#[Q,rs.es w ab bl (k+r.cnt)++i,by rw[e];simp only[Rows.es,eK],W,λx j=>?_],F],#[#[Q++r.es w ab bl k,i,by rw[e];simp only[Rows.es,eK],by rw[eS,af.es_len,W],λx j=>?_],F.mono ()]]
 . obtain q|q:=d6.mp j
   . let(D,z):=N x (ii _ q);show#[D,λm h1 h2=>z m h1 ()]
   . obtain q|q:=d6.mp q
     . let g:=Rows.abs rs w ab bl (k+r.cnt) x q;show#[g.num F,λm h1 h2=>g.ne (F.ne h1) (Zl ())]
     . let(D,z):=N x (hZ _ q);show#[D,λm h1 h2=>z m h1 ()]
 . obtain q|q:=d6.mp j
   . obtain q|q:=d6.mp q
     . let(D,z):=N x (ii _ q);show#[D,λm h1 h2=>z m () ()]
     . let g:=af.abs r w ab bl k x q;show#[g.num F,λm h1 h2=>g.ne (F.ne ()) (YY h1)]
   . let(D,z):=N x (hZ _ q);show#[D,λm h1 h2=>z m () ()]
theorem qy.wh{ab:PV}(h:qy es w ab bl k (.wh x b)):qx es w (ZI (k:Nat)) 0 (k+1) b:=by
 let((F,i,e,hl,D),Q):=h;simp only[af.cnt]at D;show#[#[F++[#[w,ab,bl,.wh x b]],i,by rw[e];simp[af.es],by simp[hl],λy W=>?_],YY #[k,O,()]];obtain q|q:=d6.mp W
 . obtain q|q:=d6.mp q
   . let(N,z):=D y (ii _ q);show#[N,λm h1 h2=>z m () ()]
   . rw[gg.mp q];show#[by obtain a|⟨j,a,_⟩:=Q;show Zl a;show YY #[j,a],λm h1 _=>Q.ne ()]
 . let(N,z):=D y (hZ _ q);show#[N,λm h1 h2=>z m () ()]
theorem qy.iff{ab:PV}(h:qy es w ab bl k (.iff x b c)):qx es w (ZI (k:Nat)) 0 (k+1) b/\qx es w (ZI (k:Nat)) 1 (k+1+b.cnt) c:=by
 let((N,i,e,hl,F),Q):=h;simp only[af.cnt]at F;have own:(ab=.non\/∃j:Nat,ab=ZI j):=by obtain a|⟨j,a,_⟩:=Q;show Zl a;show YY #[j,a]
 have hk:∀s,k<s->vp (ZI (k:Nat)) s:=λs hs=>YY #[k,O,hs];show#[#[#[N++[#[w,ab,bl,.iff x b c]],c.es w (ZI (k:Nat)) 1 (k+1+b.cnt)++i,by rw[e];simp[af.es],by simp[hl],λy W=>?_],hk _ ()],#[#[N++(#[w,ab,bl,.iff x b c]::b.es w (ZI (k:Nat)) 0 (k+1)),i,by rw[e];simp[af.es],by simp[Rows.es_len];lia,λy W=>?_],hk _ ()]]
 . obtain q|q:=d6.mp W
   . obtain q|q:=d6.mp q
     . let(D,z):=F y (ii _ q);show#[D,λm h1 h2=>z m () ()]
     . rw[gg.mp q];show#[own,λm h1 _=>Q.ne ()]
   . obtain q|q:=d6.mp q
     . let g:=Rows.abs c w (ZI (k:Nat)) 1 (k+1+b.cnt) y q;show#[g.num (hk (k+1) ()),λm h1 h2=>g.ne () (Zl ())]
     . let(D,z):=F y (hZ _ q);show#[D,λm h1 h2=>z m () ()]
 . obtain q|q:=d6.mp W
   . obtain q|q:=d6.mp q
     . let(D,z):=F y (ii _ q);show#[D,λm h1 h2=>z m () ()]
     . obtain rfl|q:=bh.mp q
       . show#[own,λm h1 _=>Q.ne ()]
       . let g:=Rows.abs b w (ZI (k:Nat)) 0 (k+1) y q;show#[g.num (hk (k+1) ()),λm h1 h2=>g.ne () (YY ())]
   . let(D,z):=F y (hZ _ q);show#[D,λm h1 h2=>z m () ()]
def af.es_head(r:af)(w:Str)(ab:PV)(bl:Int)(k:Nat):∃t,r.es w ab bl k=#[w,ab,bl,r]::t:=by cases r<;>show#[_,O]
def qy.get{ab:PV}(h:qy es w ab bl k r):es[k]?=!#[w,ab,bl,r]:=by let((z,i,e,q,F),D):=h;let(t,j):=r.es_head w ab bl k;grind
theorem qy.pos{ab:PV}(h:qy es w ab bl k r)(i:Int):Law.pos (gI w k i) 0 es=r.bnums k i:=by
 let((z,q,e,D,Q),N):=h;let hc:=r.cnt_pos;have out:∀(l:List eI)(j:Nat),(∀x∈l,x∈z++q)->Law.pos (gI w k i) j l=[]:=λl j D=>Ca λx F=>by let(g1,W):=Q x (D x F);show key_ne (W k () ()) g1
 rw[e,pF,pF,out z 0 λx h=>ii _ h,out q _ λx h=>hZ _ h,iS,fg,kc,D];show r.pos_in w ab bl k i N
mutual
def af.sp:af->Bool
 |.leaf _ _=>M
 |.call _ _ _=>G
 |.wh _ _=>G
 |.iff _ b c=>b.sp||c.sp
def Rows.sp:Rows->Bool
 |.nil=>M
 |.cons r rs=>r.sp||rs.sp
end
noncomputable def jv (k:Nat):Str:="at " ++ (toString (k:Int):Str)
mutual
def af.bt:af->Nat->List Str
 |.leaf _ _,k=>[jv k]
 |.call _ n _,k=>[jv k,"leave " ++ n]
 |.wh _ _,k=>[jv k]
 |.iff _ b c,k=>[jv k]++(if b.sp then b.lbt (k+1) else [])++(if c.sp then c.lbt (k+1+b.cnt) else [])
def Rows.lbt:Rows->Nat->List Str
 |.nil,_=>[]
 |.cons r .nil,k=>r.bt k
 |.cons r (.cons r' rs),k=>(Rows.cons r' rs).lbt (k+r.cnt)
end
mutual
def af.bl:af->Nat
 |.leaf _ _=>1
 |.call _ _ _=>2
 |.wh _ _=>1
 |.iff _ b c=>1+b.bl+c.bl
def Rows.bl:Rows->Nat
 |.nil=>0
 |.cons r rs=>max r.bl rs.bl
end
mutual
theorem af.bt_len:∀(r:af)(k:Nat),-(r.bt k)<=r.bl
 |.leaf _ _=>λk=>dP _
 |.call _ _ _=>λk=>dP _
 |.wh _ _=>λk=>dP _
 |.iff _ b c=>λk=>by let h1:=Rows.lbt_len b (k+1);let h2:=Rows.lbt_len c (k+1+b.cnt);simp only[af.bt,af.bl,eS,db,e_];split<;>split<;>(try simp only[e_])<;>lia
theorem Rows.lbt_len:∀(rs:Rows)(k:Nat),-(rs.lbt k)<=rs.bl
 |.nil,k=>dP _
 |.cons r .nil,k=>by have:=af.bt_len r k;simp only[Rows.lbt,Rows.bl];lia
 |.cons r (.cons i rs),k=>by have:=Rows.lbt_len (.cons i rs) (k+r.cnt);simp only[Rows.lbt,Rows.bl]at this ⊢;lia
end
mutual
noncomputable def af.rws:af->List af
 |.leaf w ps=>[.leaf w ps]
 |.call b n as=>[.call b n as]
 |.wh e b=>.wh e b::b.rws
 |.iff e b c=>.iff e b c::(b.rws++c.rws)
noncomputable def Rows.rws:Rows->List af
 |.nil=>[]
 |.cons r rs=>r.rws++rs.rws
end
mutual
theorem af.rws_len:∀r:af,-r.rws=r.cnt
 |.leaf _ _=>rfl
 |.call _ _ _=>rfl
 |.wh _ b=>by simp[af.rws,af.cnt,Rows.rws_len b]
 |.iff _ b c=>by simp[af.rws,af.cnt,Rows.rws_len b,Rows.rws_len c]
theorem Rows.rws_len:∀rs:Rows,-rs.rws=rs.cnt
 |.nil=>rfl
 |.cons r rs=>by simp[Rows.rws,Rows.cnt,af.rws_len r,Rows.rws_len rs]
end
abbrev g_(l:List af):List PV:=l.map af.pv
def uE(l:List af):-(g_ l)=-l:=da _
abbrev IE(X:PV)(acc:List PV)(o2 o3:Option Lc)(mu:Mu):Ev:=#[[zS X,zO acc,o2,o3],mu]
abbrev yB(n:Nat):SF:=gb 1 (aN (iz n) (aj (aa 3) ao))
abbrev t_(n:Nat):SF:=aF (jM 1 (aa 2)) (fX (dh (aN gJ (aj (aa 2) ao)) bJ) (aC 3) (yB n))
def Nr{o2:Option Lc}(h:iz n [p] mu=!(Zs (R qs),mu))(i:-acc+-qs<=100000):yB n (IE X acc o2 (zS p) mu)=!(.nx (IE X (acc++qs) o2 (zS p) mu)):=
 jZ O (aR O O O O h) O O i O
def Gp{o3:Option Lc}{r:af}(j:-acc<1000)(i:∀mu,gJ [r.pv] mu=!(Zs (R bs),mu))(h:eN (aC 3) (yB n) bs (IE X (acc++[r.pv]) (zS r.pv) o3 mu)=ZN):t_ n (IE X acc (zS r.pv) o3 mu)=ZN:=
 aH (pR O O O O () O)
  (eO (dC (aR O O O O (i _)) O) h)
def in_of{rs:Rows}(h:∃o2 o3,eN (aC 2) (t_ n) rs.pvs (IE (R rs.pvs) [] J J mu)=!(.nx (IE (R rs.pvs) ([]++g_ rs.rws) o2 o3 mu))):iz (n+1) [R rs.pvs] mu=!(Zs (R (g_ rs.rws)),mu):=by let(o2,o3,h):=h;show aO (Y:=#[[zL rs.pvs,J,o2,o3],mu]) ?_;show aH O (aH () O)
mutual
theorem adb:∀(r:af)(n:Nat)(X:PV)(acc:List PV)(o3:Option Lc)(mu:Mu),r.ok->r.dep<=n->-acc+r.cnt<=1000->∃F,t_ n (IE X acc (zS r.pv) o3 mu)=!(.nx (IE X (acc++g_ r.rws) (zS r.pv) F mu))
 |.leaf x ps=>λn X acc o3 mu ok j i=>by show#[o3,Gp () (λmu=>sS ok.1.1 ok.1.2.1) O]
 |.call b m Q=>λn X acc o3 mu ok j i=>by show#[o3,Gp () (λmu=>sS () ()) O]
 |.wh e b=>λn X acc o3 mu ok j i=>by simp only[af.cnt]at i;simp only[af.dep]at j;obtain⟨m,rfl⟩:∃m,n=m+1:=#[n-1,()];let r:af:=.wh e b;let z:=in_of (b9 b m (R b.pvs) [] J J mu ok.2 () (by simp only[e_];lia));let st:=Nr (X:=X) (acc:=acc++[r.pv]) (o2:=zS r.pv) z (by rw[uE,Rows.rws_len,eS];simp only[db,e_];lia);show#[zL b.pvs,Gp () (λmu=>Jq) ((S9 O st).trans ?_)];simp only[eK];rfl
 |.iff e b c=>λn X acc o3 mu ok j i=>by simp only[af.cnt]at i;simp only[af.dep]at j;obtain⟨m,rfl⟩:∃m,n=m+1:=#[n-1,()];let r:af:=.iff e b c;let z:=in_of (b9 b m (R b.pvs) [] J J mu ok.2.1 () (by simp only[e_];lia));let q:=in_of (b9 c m (R c.pvs) [] J J mu ok.2.2 () (by simp only[e_];lia));let st:=Nr (X:=X) (acc:=acc++[r.pv]) (o2:=zS r.pv) z (by rw[uE,Rows.rws_len,eS];simp only[db,e_];lia);let D:=Nr (X:=X) (acc:=acc++[r.pv]++g_ b.rws) (o2:=zS r.pv) q (by rw[uE,Rows.rws_len,eS,eS,uE,Rows.rws_len];simp only[db,e_];lia);show#[zL c.pvs,Gp () (λmu=>Jr) ((Np O st O D).trans ?_)];simp only[af.rws,eK,mE,iS,g_,fF,eD];rfl
theorem b9:∀(rs:Rows)(n:Nat)(X:PV)(acc:List PV)(o2 o3:Option Lc)(mu:Mu),rs.ok->rs.dep<=n+1->-acc+rs.cnt<=1000->∃p2 i,eN (aC 2) (t_ n) rs.pvs (IE X acc o2 o3 mu)=!(.nx (IE X (acc++g_ rs.rws) p2 i mu))
 |.nil=>λn X acc o2 o3 mu ok j q=>#[o2,o3,by simp[Rows.pvs,eN,Rows.rws,g_]]
 |.cons r rs=>λn X acc o2 o3 mu ok j q=>by simp only[Rows.dep]at j;simp only[Rows.cnt]at q;let(D,z):=adb r n X acc o3 mu ok.1 () ();let(p2,i,F):=b9 rs n X (acc++g_ r.rws) (zS r.pv) D mu ok.2 () (by rw[eS,uE,af.rws_len];lia);show#[p2,i,gw O z (F.trans ?_)];simp only[Rows.rws,g_,eD,eK]
end
def kl:PV->Bool
 |ZB (ZH s::_)=>(("while" : Str)==s||(("call" : Str)==s||false))
 |_=>M
def xx{a b:Str}(h:(a==b)=M):(b==a)=M:=by grind
mutual
theorem af.hots:∀r:af,r.ok->(g_ r.rws).any kl=r.sp
 |.leaf w ps=>λok=>by let((_,h2,i),_):=ok;show ((("while" : Str)==w||(("call" : Str)==w||false))||false)=M;rw[xx h2,xx i];rfl
 |.call b n j=>λok=>by show ((("while" : Str)== "call" || (("call" : Str)== "call" || false))||false)=G;decide +kernel
 |.wh e b=>λok=>by show ((("while" : Str)== "while" || (("call" : Str)== "while" || false))||(g_ b.rws).any kl)=G;rfl
 |.iff e b c=>λok=>by show ((("while" : Str)== "if" || (("call" : Str)== "if" || false))||(g_ (b.rws++c.rws)).any kl)=(b.sp||c.sp);rw[show (("while" : Str)== "if" || (("call" : Str)== "if" || false))=M by decide +kernel,Bool.false_or,g_,eD,any_append,Rows.hots b ok.2.1,Rows.hots c ok.2.2]
theorem Rows.hots:∀rs:Rows,rs.ok->(g_ rs.rws).any kl=rs.sp
 |.nil=>λ_=>rfl
 |.cons r rs=>λok=>by show (g_ (r.rws++rs.rws)).any kl=(r.sp||rs.sp);rw[g_,eD,any_append,af.hots r ok.1,Rows.hots rs ok.2]
end
theorem rP{α:Type}(f:α->Bool):∀j:List α,eq (j.map λc=>.bl (f c))=!(j.map f)
 |[]=>rfl
 |c::j=>by show (eq (j.map λc=>.bl (f c))).map _=_;rw[rP f j];rfl
def af.head(r:af):∃w t,r.pv=ZB (ZH w::t):=by cases r<;>show#[_,_,O]
def Js{r:af}(ok:r.ok)(F:r.dep<=38)(N:r.cnt<=900):yM [r.pv] mu=!(Zp (.bl r.sp),mu):=by
 let o:=in_of (b9 (.cons r .nil) 39 _ [] J J mu #[ok,True.intro] (by simp only[Rows.dep];lia) (by simp only[Rows.cnt,e_];lia));let L:_:=g_ (Rows.cons r .nil).rws;have D:-L<=1000:=by simp only[L,uE,Rows.rws_len,Rows.cnt];lia
 have c:dF (aC 0) bB vc L #[[J],mu] []=!(L.map λq=>.bl (kl q),mu):=by
  show Jc (λY=>∃o,Y=#[[o],mu]) (λY Q=>by let(o,e):=Q;rw[e]) (λq=>.bl (kl q)) #[J,O] () ?_ ?_
  . rintro x j Y ⟨o,rfl⟩;let(y,_,rfl):=dA.mp j;let(s,t,i):=y.head;rw[i];show#[_,O,Zp (.bl (kl (ZB (ZH s::t)))),#[[zS (ZB (ZH s::t))],mu],?_,O,_,O];show dj w0 O O O ?_;rfl
  . rintro y z Y Y1 ⟨o,rfl⟩ h;cases h;show#[_,O]
 show aO (Y:=#[[zS r.pv],mu]) (cT ?_);show jN (aA ((eF (Vk (aR (aA (pQ (aA O O) O O) O) O O O o) O O) c).trans O) O) O ?_;show ((eq (L.map λq=>.bl (kl q))).map _)=_;rw[rP,mM];have e:L.any kl=r.sp:=by have:=Rows.hots (.cons r .nil) #[ok,True.intro];rw[show (Rows.cons r .nil).sp=(r.sp||false) from O,Bool.or_false]at this;show this
 rw[<-e];simp[any_map]
noncomputable abbrev aU (l:List Nat):List PV:=l.map λ(i:Nat)=>PV.int (i:Nat)
abbrev SD:=List (List aV×List Nat)
noncomputable def iT (K:List aV) (i:Nat):SD->SD
 |[]=>[(K,[i])]
 |x::r=>if x.1=K then (x.1,x.2++[i])::r else x::iT K i r
noncomputable def j5:SD->List aV->Option (List Nat)
 |[],_=>J
 |x::r,K=>if x.1=K then !x.2 else j5 r K
noncomputable def pz:Nat->SD->xz
 |_,[]=>[]
 |N,x::r=>(x.1,ZA N)::pz (N+1) r
abbrev fM(S:SD):Mu:=S.map λx=>!(R (aU x.2))
theorem Vz:∀(N:Nat)(S:SD),-(pz N S)=-S
 |_,[]=>rfl
 |N,x::r=>by simp[pz,Vz]
theorem F8:∀l:xz,(l.map (·.1)).zip (l.map (·.2))=l
 |[]=>rfl
 |x::r=>by rw[fF,fF,oC,F8 r]
theorem VB:∀{S:SD}{N i:Nat}{K:List aV},j5 S K=J->j0 (pz N S) K=J/\iT K i S=S++[(K,[i])]/\pz N (iT K i S)=pz N S++[(K,ZA (N+-S))]
 |[],N,i,K=>λ_=>#[O,O,O]
 |x::r,N,i,K=>λh=>by
  unfold j5 at h;split at h
  . cases h
  . rename_i j;let(h1,h2,q):=VB h;show#[?_,?_,?_]
    . show (if x.1=K then _ else _)=_;rw[a_ j];grind
    . show (if x.1=K then _ else _)=_;rw[a_ j,h2];rfl
    . unfold iT;rw[a_ j];show (x.1,PV.ptr N)::pz (N+1) (iT K i r)=_;rw[q,show N+1+-r=N+-(x::r) by simp only[db];omega];rfl
theorem VD:∀{S:SD}{N i:Nat}{K:List aV}{l:List Nat},j5 S K=!l->∃j,j0 (pz N S) K=!(ZA (N+j))/\(fM S)[j]?=!(!(R (aU l)))/\(fM S).set j (!(R (aU (l++[i]))))=fM (iT K i S)/\pz N (iT K i S)=pz N S
 |[],N,i,K,l=>λh=>by cases h
 |x::r,N,i,K,l=>λh=>by
  unfold j5 at h;split at h
  . rename_i q;cases h;show#[0,?_,O,?_,?_]
    . show (if x.1=K then _ else _)=_;grind
    . unfold iT;rw[ax q];rfl
    . unfold iT;rw[ax q];rfl
  . rename_i q;let(j,h1,h2,z,D):=VD h;show#[j+1,?_,?_,?_,?_]
    . show (if x.1=K then _ else _)=_;rw[a_ q,h1,show N+1+j=N+(j+1) by omega]
    . grind
    . unfold iT;rw[a_ q];show _::(fM r).set j _=_::fM (iT K i r);rw[z]
    . unfold iT;rw[a_ q];show (x.1,PV.ptr N)::pz (N+1) (iT K i r)=_;rw[D];rfl
def ade{K j:List aV}:(j5 (iT j i S) K).getD []=(j5 S K).getD []++if j=K then [i] else []:=by
 induction S with
 |nil=>
  show (if j=K then ![i] else J).getD []=[]++_;split<;>rfl
 |cons x r D=>
  unfold iT;by_cases z:x.1=j
  . rw[ax z];show (if x.1=K then !(x.2++[i]) else j5 r K).getD []=(if x.1=K then !x.2 else j5 r K).getD []++_;by_cases h:x.1=K
    . grind
    . grind
  . rw[a_ z];show (if x.1=K then !x.2 else j5 (iT j i r) K).getD []=(if x.1=K then !x.2 else j5 r K).getD []++_;by_cases h:x.1=K
    . rw[ax h,ax h,a_ (λq=>z ∅),fg]
    . grind
def oJ:Nat->List eI->SD->SD
 |_,[],S=>S
 |i,e::es,S=>oJ (i+1) es (iT e.key i S)
theorem Cd{K:List aV}:∀(es:List eI)(i:Nat)(S:SD),(j5 (oJ i es S) K).getD []=(j5 S K).getD []++pos K i es
 |[]=>λi S=>(fg _).symm
 |e::es=>λi S=>by
  show (j5 (oJ (i+1) es (iT e.key i S)) K).getD []=_++if e.key=K then i::pos K (i+1) es else pos K (i+1) es
  rw[Cd es,ade,eK];split<;>rfl
theorem Nt{K:List aV}:∀S:SD,-(iT K i S)<=-S+1
 |[]=>dP _
 |x::r=>by
  unfold iT;split
  . simp
  . have:=Nt (K:=K) (i:=i) r;grind
def hE(m:Nat)(S:SD):Prop:=∀x∈S,-x.2<=m
theorem hE.put{K:List aV}:∀{S:SD},hE m S->hE (m+1) (iT K i S)
 |[]=>λ_ x j=>by rw[gg.mp j];simp
 |y::r=>λh x j=>by
  unfold iT at j;split at j
  . obtain rfl|j:=bh.mp j
    . have:=h y cS;grind
    . have:=h x (d_ _ j);lia
  . obtain rfl|j:=bh.mp j
    . have:=h x cS;lia
    . show hE.put (λz q=>h z (d_ _ q)) x j
theorem VF:∀{S:SD}{K:List aV}{l:List Nat},j5 S K=!l->∃x∈S,x.2=l
 |[],K,l=>λh=>by cases h
 |y::r,K,l=>λh=>by
  unfold j5 at h;split at h
  . grind
  . let(x,i,e):=VF h;show#[x,d_ _ i,e]
theorem QT:∀(S:SD)(A:Mu),meltL (A++fM S) ((pz (-A) S).map (·.2))=!(S.map λx=>R (aU x.2),A++S.map λ_=>J)
 |[]=>λA=>by simp[pz,meltL]
 |x::r=>λA=>by
  let i:=QT r (A++[J]);rw[eS]at i;have q:(A++fM (x::r))[-A]?=!(!(R (aU x.2))):=by rw[hY (),ky];rfl
  have j:(A++fM (x::r)).set (-A) J=(A++[J])++fM r:=by rw[set_append_right _ _ (),ky,eK];rfl
  show meltL (A++fM (x::r)) (ZA (-A)::(pz (-A+1) r).map (·.2))=_;unfold meltL;grind
theorem Kq:∀(S:SD)(N:Nat)(K:List aV),j0 (((pz N S).map (·.1)).zip (S.map λx=>PV.lst (aU x.2))) K=(j5 S K).map λl=>R (aU l)
 |[]=>λN K=>rfl
 |x::r=>λN K=>by
  show (if x.1=K then !(PV.lst (aU x.2)) else j0 (((pz (N+1) r).map (·.1)).zip (r.map λx=>PV.lst (aU x.2))) K)=(if x.1=K then !x.2 else j5 r K).map _;by_cases h:x.1=K
  . grind
  . rw[a_ h,a_ h];show Kq r (N+1) K
noncomputable def Ax:Nat->List PV->List PV
 |_,[]=>[]
 |i,p::ps=>ZB [ZI (i:Nat),p]::Ax (i+1) ps
theorem VG:∀(ps:List PV)(i:Nat),(ps.zipIdx i).map (λx=>PV.tup [ZI (x.2:Nat),x.1])=Ax i ps
 |[]=>λi=>rfl
 |p::ps=>λi=>by rw[zipIdx_cons,fF,VG ps (i+1)];rfl
def Ed(ps:List PV):ue ps=Ax 0 ps:=VG ps 0
section
abbrev qz(N:Nat)(S:SD):PV:=.dx HK.hk ((pz N S).map (·.1)) ((pz N S).map (·.2))
noncomputable abbrev AE (o0 o1 o2 o3 o4 o5 o6 o7 o8 o9 kF:Option Lc) (mu:Mu):Ev:=#[[o0,o1,o2,o3,o4,o5,o6,o7,o8,o9,kF],mu]
abbrev F9:SF:=ou EK (aa 4)
def Jt{e:eI}(i:e.ab=.non\/∃j:Nat,e.ab=ZI j):pX [ZH e.w,e.ab,ZI e.bl]=!e.key:=by unfold eI.key;rcases i with h|⟨j,h⟩<;>rw[h]<;>rfl
open Classical in
def aaT{e:eI}{F o1 o2 o6 o7 o8 D q:Option Lc}(Q:e.ab=.non\/∃j:Nat,e.ab=ZI j)(hS:-S<=1000)(hs:hE 1000 S):
 F9 (AE F o1 o2 (!(Zs (qz (-A) S))) (zI (i:Nat)) (zS e.pv) o6 o7 o8 D q (A++fM S))=!(.nx (AE F o1 o2 (!(Zs (qz (-A) (iT e.key i S)))) (zI (i:Nat)) (zS e.pv) o6 o7 o8 D q (A++fM (iT e.key i S)))):=by
 let E:_:=AE F o1 o2 (!(Zs (qz (-A) S))) (zI (i:Nat)) (zS e.pv) o6 o7 o8 D q (A++fM S);have set:BR 3 (j7 (aa 5) eU (cM (ai 3))) E=(match j0 (pz (-A) S) e.key with
  |some p=>!(Zp p,E)
  | none=>!(Zp (ZA (-(A++fM S))),#[E.vs.set 3 (!(Zs (.dx HK.hk ((pz (-A) S).map (·.1)++[e.key]) ((pz (-A) S).map (·.2)++[ZA (-(A++fM S))])))),(A++fM S)++[!(R [])]])):=by
  unfold BR;show ((pX [ZH e.w,e.ab,ZI e.bl]).bind _)=_;rw[Jt Q,c9,ax #[O,by rw[da,Vz];lia],F8]
  all_goals (cases j0 (pz (-A) S) e.key<;>rfl)
 cases h:j5 S e.key with
 |none=>
  let(h1,h2,z):=VB h;rw[h1]at set;have N:-(A++fM S)=-A+-S:=by rw[eS,da]
  show(xg set O (ws0:=[]) (ws:=[]) ?_ O O ?_ () O).trans ?_
  . rw[hY (),ky];rfl
  . show ((A++fM S)++[!(PV.lst [])])[-(A++fM S)]?=_;rw[hY (),ky];rfl
  . show some (Fl.nx #[_,((A++fM S)++[!(PV.lst [])]).set (-(A++fM S)) _])=_;rw[set_append_right _ _ (),ky,qz,z,h2,eD,eD,N,show fM (S++[(e.key,[i])])=fM S++[!(R (aU [i]))] from eD,<-eK];rfl
 |some l=>
  let(j,h1,h2,z,W):=VD h;rw[h1]at set;let(x,hx,ex):=VF h;let N:=hs x hx;have g:(A++fM S)[-A+j]?=!(!(R (aU l))):=by rw[hY (),show -A+j-(-A)=j by omega];show h2
  show(xg set O (p:=ZI (i:Nat)) g (Y2:=E) O O g ∅ O).trans ?_;rw[set_append_right _ _ (),show -A+j-(-A)=j by lia,show aU l++[PV.int (i:Nat)]=aU (l++[i]) by simp[aU],z,qz,W]
theorem QV{Q o1 o2 o6 o7 o8 W q:Option Lc}:∀(es:List eI)(i:Nat)(S:SD)(o4 o5:Option Lc),(∀e∈es,e.ab=.non\/∃j:Nat,e.ab=ZI j)->-S+-es<=1000->∀m,hE m S->m+-es<=1000->
 ∃D z,eN x8 F9 (Ax i (fz es)) (AE Q o1 o2 (!(Zs (qz (-A) S))) o4 o5 o6 o7 o8 W q (A++fM S))=!(.nx (AE Q o1 o2 (!(Zs (qz (-A) (oJ i es S)))) D z o6 o7 o8 W q (A++fM (oJ i es S))))
 |[]=>λi S o4 o5 _ _ m _ _=>#[o4,o5,O]
 |e::es=>λi S o4 o5 N hl m hs hm=>by simp only[db]at hl hm;let hp:=Nt (K:=e.key) (i:=i) S;let(D,z,ih):=QV es (i+1) (iT e.key i S) (zI (i:Nat)) (zS e.pv) (λx F=>N x (d_ _ F)) () (m+1) hs.put ();show#[D,z,gw O (aaT (N e cS) () λx F=>by have:=hs x F;lia) ih]
end
theorem VH{α β:Type}:∀l:List (α×β),(l.map (·.1)).zip (l.map (·.2))=l
 |[]=>rfl
 |x::r=>by rw[fF,fF,oC,VH r]
def Hs(h1:fv Y=!(y,Y1))(i:y.pv=p)(h2:fo Y1=!(x,Y2))(j:x.pv=ZA n)(z:Y2.mu[n]?=!(!(gf C l)))(q:-l<1000):BP C f fo fv Y=!(.nx #[Y2.vs,Y2.mu.set n (!(gf C (su f p l)))]):=by unfold BP;rw[h1,c9,h2,c9,j];dsimp only;rw[z];unfold gf;dsimp only;rw[ax #[O,by rw[da];show q],VH,i]
def sZ(h2:fo Y=!(x,Y1))(q:x.pv=ZA n)(j:Y1.mu[n]?=!(!(gf C l)))(i:sr l f=!p):jB C f fo Y=!(Zp p,Y1):=by unfold jB;rw[h2,c9,q];dsimp only;rw[j];unfold gf;dsimp only;rw[ax O,VH,i];rfl
def xG(h1:fo Y=!(x,Y1))(z:x.pv=ZA n)(D:Y1.mu[n]?=!(!(gf C l)))(j:(l.map (·.1)).contains m=M)(h2:a Y1=!(ls,Y2))(i:ls.map Lc.pv=ps)(q:g (ZA n::ps) Y2.mu=!(r,nk)):cX C m g fo a Y=!(r,#[Y2.vs,nk]):=by unfold cX;rw[h1,c9,z];dsimp only;rw[D];unfold gf;dsimp only;rw[ax #[O,j],h2,c9,i,q];rfl
def aaU(h:a Y=!(ls,Y1))(i:ls.map Lc.pv=ps)(h2:g (ZA (-Y1.mu)::ps) (Y1.mu++[!(gf C [])])=!(Zp .non,nk)):FT C g a Y=!(Zp (ZA (-Y1.mu)),#[Y1.vs,nk]):=by unfold FT;rw[h,c9,i];rw[show g (ZA (-Y1.mu)::ps) (Y1.mu++[!(.obj C [] [])])=_ from h2];rfl
theorem Ju:∀l:PD,-(vN k v l)=-l
 |[]=>rfl
 |x::r=>by simp[vN,Ju r]
def Yh:-(uV l k v)<=-l+1:=by
 unfold uV;split
 . rw[Ju];lia
 . simp
section
abbrev yO:EF:=bU (dh (aa 9) bJ) 2 [] q5 bB (aa 0)
theorem QW:∀(xs:List Str)(i o1:Option Lc)(acc:List PV),-acc+-xs<=1000->dF q5 bB (aa 0) (xs.map λx=>ZB [ZH x,.non]) #[[i,o1],mu] acc=!(acc++xs.map PV.str,mu)
 |[]=>λi o1 acc _=>by simp[dF]
 |x::xs=>λi o1 acc h=>by simp only[db]at h;show fY (Y2:=#[[zT x,!(Zp .non)],mu]) O O () ((QW xs _ _ (acc++[ZH x]) ∅).trans ?_);simp
def F_(f:Fn)(p:PV):Prop:=∃xs:List Str,f.params=xs.map (λx=>ZB [ZH x,.non])/\-xs<=4/\Sh xs/\p=R (xs.map PV.str)
theorem Nu:∀l:PD,iG (vN k v l) k'=if k=k' then (iG l k).map λ_=>v else iG l k'
 |[]=>by simp[vN,iG]
 |x::r=>by have:=Nu (k:=k) (k':=k') (v:=v) r;grind [vN,iG]
theorem Nv:∀l:PD,iG l k=J->iG (l++[(k,v)]) k'=if k=k' then !v else iG l k'
 |[]=>λ_=>rfl
 |x::r=>λh=>by have:=Nv (k:=k) (k':=k') (v:=v) r;grind [iG]
def QX:iG (uV l k v) k'=if k=k' then !v else iG l k':=by
 unfold uV;cases h:iG l k with
 |none=>show Nv l h
 |some w=>rw[Nu,h];rfl
def aaV{j o1 o2 o3 o4 o5 o8 i:Option Lc}(q:∃xs:List Str,f.params=xs.map (λx=>ZB [ZH x,.non])/\-xs<=4/\Sh xs)(F:-d<=1000):∃p,F_ f p/\
 FJ 6 (aa 7) yO (AE j o1 o2 o3 o4 o5 (!(Zs (nG d))) (zT f.name) o8 (zL f.params) i mu)=!(.nx (AE j o1 o2 o3 o4 o5 (!(Zs (nG (uV d (.inr f.name) p)))) (zT f.name) o8 (zL f.params) i mu)):=by
 let(xs,e,z,D):=q;let E:_:=AE j o1 o2 o3 o4 o5 (!(Zs (nG d))) (zT f.name) o8 (zL f.params) i mu;show#[R (xs.map PV.str),#[xs,e,z,D,O],?_];have c:yO E=!(Zs (R (xs.map PV.str)),E):=eF (Y1:=E) () (by rw[e];show QW xs J J [] ∅);unfold FJ;rw[c,c9];show (if -(d.map (·.1))<100000 then _ else _)=_;rw[ax ∅,VH];rfl
def Tc(fs:List Fn)(d:PD):Prop:=∀f∈fs,∃p,F_ f p/\iG d (.inr f.name)=!p
theorem QZ{o0 o1 o2 o3 o4 o5:Option Lc}:∀(fs:List Fn)(d:PD)(o7 o8 F i:Option Lc),(∀f∈fs,∃xs:List Str,f.params=xs.map (λx=>ZB [ZH x,.non])/\-xs<=4/\Sh xs)->(fs.map Fn.name).Nodup->-d+-fs<=1000->
 ∃z W N Q j,Tc fs z/\(∀x∉fs.map Fn.name,iG z (.inr x)=iG d (.inr x))/\eN EL (FJ 6 (aa 7) yO) (fs.map Fn.pv) (AE o0 o1 o2 o3 o4 o5 (!(Zs (nG d))) o7 o8 F i mu)=!(.nx (AE o0 o1 o2 o3 o4 o5 (!(Zs (nG z))) W N Q j mu))
 |[]=>λd o7 o8 F i _ _ _=>#[d,o7,o8,F,i,λf hf=>(by cases hf),λ_ _=>O,O]
 |f::fs=>λd o7 o8 F i h nd hl=>by
  simp only[db]at hl;let(n1,n2):=h_.mp nd;let(p,hp,st):=aaV (d:=d) (h f cS) ();let N2:=Yh (k:=.inr f.name) (v:=p) (l:=d);let(z,W,N,Q,j,k1,k2,ih):=QZ fs (uV d (.inr f.name) p) (zT f.name) (zS f.rank) (zL f.params) (zL f.rows.pvs) (λx D=>h x (d_ _ D)) n2 ();show#[z,W,N,Q,j,λg hg=>?_,λx D=>?_,gw O st ih]
  . obtain rfl|hg:=bh.mp hg
    . show#[p,hp,by rw[k2 _ n1,QX,ax O]]
    . show k1 g hg
  . rw[k2 x λq=>D (d_ _ q),QX,a_];grind
abbrev LX(N:Nat)(S:SD):PV:=.dx HK.hk ((pz N S).map (·.1)) (S.map λx=>R (aU x.2))
abbrev Q0(es:List eI)(N:Nat)(hd:PV):FD:=[("told",R (fz es)),("lists",LX N (oJ 0 es [])),("heads",hd)]
def aeg(P:Pg):∀e∈P.es,e.ab=.non\/∃j:Nat,e.ab=ZI j:=by
 have f:∀(fs:List Fn)(k:Nat),∀e∈qJ fs k,e.ab=.non\/∃j:Nat,e.ab=ZI j:=by
  intro fs;induction fs with
  |nil=>intro k e i;cases i
  |cons f fs q=>
   intro k e i;obtain i|i:=d6.mp i
   . show(Rows.abs f.rows f.name .non 0 k e i).num (k:=0) (Zl O)
   . show q _ e i
 intro e i;obtain i|i:=d6.mp i
 . show f _ _ e i
 . show(Rows.abs P.rows "main" .non 0 _ e i).num (k:=0) (Zl O)
theorem es_len(P:Pg):-P.es=d8 P.fns+P.rows.cnt:=by unfold Pg.es;rw[eS,BZ,Rows.es_len]
def Td{α:Type}{A B:List α}{x:α}:(A++x::B)[-A]?=!x:=by rw[hY (),ky];rfl
def Te{α:Type}{A B:List α}{x y:α}:(A++x::B).set (-A) y=A++y::B:=by grind
def aaW{P:Pg}(ok:P.ok)(A:Mu):∃d B,Tc P.fns d/\kI [ZA (-A),P.pv] (A++[!(gf "Plan" [])])=!(Zp .non,A++some (gf "Plan" (Q0 P.es (-A+1) (nG d)))::B):=by
 let hc:=ok.ct;let hlen:=es_len P;let i:Mu:=A++[!(gf "Plan" [])];have yT:-i=-A+1:=by simp[i]
 let S:_:=oJ 0 P.es [];let o0:Option Lc:=zS (ZA (-A));let o1:Option Lc:=zS P.pv;let o2:Option Lc:=zL (fz P.es);let(p4,z,e1):=QV P.es 0 [] J J (aeg P) ∅ 0 (λx hx=>by cases hx) ();let(d,D,N,p9,j,F,_,e2):=QZ P.fns [] J J J J ok.pm ok.nd (by have:=ok.fl;simp only[e_];lia);let n1:=Pr (mu:=i) ok;let T:PV:=R (fz P.es);let q:Mu:=A++[!(gf "Plan" [("told",T)])];let B:Mu:=S.map λ_=>J;have hA2:-q=-i:=by simp[i,q]
 let hm:=QT S q;rw[hA2]at hm;let Q:_:=AE o0 o1 o2 (!(Zs (qz (-i) S))) p4 z (!(Zs (nG d))) D N p9 j;let Q2:_:=AE o0 o1 o2 (zS (qz (-i) S)) p4 z (!(Zs (nG d))) D N p9 j;let Q3:_:=AE o0 o1 o2 (zS (qz (-i) S)) p4 z (zS (nG d)) D N p9 j;show#[d,B,F,?_];have W:∀{g:SF}{Y1:Ev},g (env0 11 [ZA (-A),P.pv] i)=!(.nx Y1)->cY 11 g [ZA (-A),P.pv] i=!(Zp .non,Y1.mu):=λh=>Sb h;show W (Y1:=Q3 (A++some (gf "Plan" (Q0 P.es (-A+1) (nG d)))::B)) ?_;show aH (bu (aR O O O O n1) O O) ?_;show aH O ?_;show aH (eO ?_ e1) ?_
 . rw[<-Ed,show i++fM []=i from fg _];rfl
 show aH O ?_;show aH () ?_;show aH (Y':=Q (q++fM S)) ((Hs (C:="Plan") (f:="told") (l:=[]) O O O O ?_ ()).trans ?_) ?_
 . rw[eK];show Td
 . show some (Fl.nx #[_,(A++[!(gf "Plan" [])]++fM S).set (-A) _])=!(Fl.nx #[_,A++[!(gf "Plan" [("told",T)])]++fM S]);rw[eK,eK,singleton_append,Te];rfl
 show aH (Y':=Q2 (A++some (gf "Plan" [("told",T),("lists",LX (-i) S)])::B)) ((Hs (C:="Plan") (f:="lists") (l:=[("told",T)]) (y:=Zp (LX (-i) S)) (Y1:=Q2 (q++B)) ?_ O O O ?_ ∅).trans ?_) ?_
 . show ((meltL (q++fM S) ((pz (-i) S).map (·.2))).map _)=_;rw[hm];rfl
 . rw[eK];show Td
 . show some (Fl.nx #[_,(A++[!(gf "Plan" [("told",T)])]++B).set (-A) _])=!(Fl.nx #[_,A++some (gf "Plan" [("told",T),("lists",LX (-i) S)])::B]);rw[eK,singleton_append,Te];rfl
 show(Hs (C:="Plan") (f:="heads") O O O O Td ∅).trans ?_;show some (Fl.nx #[_,(A++some (gf "Plan" [("told",T),("lists",LX (-i) S)])::B).set (-A) _])=!(Fl.nx #[_,A++some (gf "Plan" (Q0 P.es (-A+1) (nG d)))::B]);rw[Te,<-yT];rfl
end
abbrev c7(l:List Str):List PV:=l.map PV.str
abbrev lF(k:Nat):Str:=(toString ((k:Nat):Int):Str)
def Gq:∀k<256,ψ (ZI ((k:Nat):Int))=!(lF k)/\-("at " : Str)+-(lF k)<=1000/\kf [ZI ((k:Nat):Int)]=zT (lF k):=by
 have g:∀k<256,-("at " : Str)+-(lF k)<=1000/\((k:Nat):Int).natAbs.log2<1920:=by decide +kernel
 intro k hk;let(j,i):=g k hk;show#[?_,j,?_]
 . show (if ((k:Nat):Int).natAbs.log2<1920 then (if -(lF k)<=100000 then !(lF k) else J) else J)=_;rw[ax i,ax ()]
 . show (if ((k:Nat):Int).natAbs.log2<1920 then !(Lc.sh (ZH (lF k))) else J)=_;rw[ax i]
section
structure jb(mu:Mu)(n:Nat)(es:List eI):Prop where
 ex:∃N hd,mu[n]?=!(!(gf "Plan" (Q0 es N hd)))
def Ht(h:es[k]?=!e):fO (fz es) ((k:Nat):Int)=!e.pv:=PN ∅
def tu(h:jb mu n es)(he:es[k]?=!e):dY [ZA n,ZI (k:Nat)] mu=!(Zp e.r.pv,mu):=by let(N,j,i):=h;let E:Ev:=#[[zS (ZA n),zI (k:Nat)],mu];show aO (cT (dG (Y2:=E) (l:=Zp e.pv) (dG (sZ O O i O) O O O (λn h=>by cases h) ?_) O O O (λn h=>by cases h) O));show (fO (fz es) ((k:Nat):Int)).map _=_;rw[Ht he];rfl
open Classical in
def Eg(h:jb mu n es)(he:es[k]?=!e):dZ [ZA n,ZI (k:Nat),ZI i] mu=!(Zs (R (aU (pos (gI e.w k i) 0 es))),mu):=by
 let(N,F,j):=h;let E:Ev:=#[[zS (ZA n),zI (k:Nat),zI i],mu];have hk:aX Ee E=!(Zp (ZB [ZH e.w,ZI (k:Nat),ZI i]),E):=by show dm (aA (dG (l:=Zp e.pv) (dG (sZ O O j O) O O O (λn h=>by cases h) ?_) O O O (λn h=>by cases h) O) O) O O;show (fO (fz es) ((k:Nat):Int)).map _=_;rw[Ht he];rfl
 let S:_:=oJ 0 es [];have D:(j5 S (gI e.w k i)).getD []=pos (gI e.w k i) 0 es:=Cd es 0 [];have g:∃l,yD (jB "Plan" "lists" (aa 0)) EA E=!(l,E)/\l.pv=R (aU ((j5 S (gI e.w k i)).getD [])):=by
  unfold yD;rw[sZ (C:="Plan") (f:="lists") O O j O,c9];show ∃l,((aX Ee E).bind _)=!(l,E)/\_;rw[hk,c9];show ∃l,(if HK.hk=HK.hk then !((match j0 (((pz N S).map (·.1)).zip (S.map λx=>PV.lst (aU x.2))) (gI e.w k i) with |some p=>Lc.sh p |none=>Zs (R [])),E) else J)=!(l,E)/\_;rw[ax O,Kq];cases j5 S (gI e.w k i) with
  |none=>show#[_,O,O]
  |some l=>show#[_,O,O]
 let(l,q,z):=g;show aO (cT (jN (ps:=[R (aU (pos (gI e.w k i) 0 es))]) (Y1:=E) (aA q O) ∅ O))
def Rows.sps:Rows->List Bool
 |.nil=>[]
 |.cons r rs=>r.sp::rs.sps
theorem Rows.sps_any:∀rs:Rows,rs.sps.any id=rs.sp
 |.nil=>rfl
 |.cons r rs=>by simp[Rows.sps,Rows.sp,Rows.sps_any rs]
theorem Rows.sps_len:∀rs:Rows,-rs.sps<=rs.cnt
 |.nil=>dP _
 |.cons r rs=>by have:=Rows.sps_len rs;have:=r.cnt_pos;simp only[Rows.sps,Rows.cnt,db];lia
abbrev Gc:EF:=aN yM EB
theorem Q4(h:jb mu n es):∀(rs:Rows)(s:Nat)(o:Option Lc)(acc:List PV),qx es w ab bl s rs->rs.ok->rs.dep<=38->-acc+rs.cnt<=900->dF (aC 0) bB Gc (aU (rs.nums s)) #[[o,zS (ZA n)],mu] acc=!(acc++rs.sps.map PV.bl,mu)
 |.nil=>λs o acc _ _ _ _=>by simp[Rows.nums,Rows.sps,dF]
 |.cons r rs=>λs o acc hs ok q D=>by simp only[Rows.dep]at q;simp only[Rows.cnt]at D;let h1:=r.cnt_pos;let(F,z):=hs.cons;let E:Ev:=#[[zI (s:Nat),zS (ZA n)],mu];let(N,i,j):=h;have st:Gc E=!(Zp (.bl r.sp),E):=aR (aA (xG O O j () O O (tu #[N,i,j] F.get)) O) O O O (Js ok.1 () ());show fY O st () ((Q4 #[N,i,j] rs (s+r.cnt) _ (acc++[.bl r.sp]) z ok.2 () ∅).trans ?_);simp[Rows.sps]
def Pu{rs:Rows}(h:jb mu n es)(hs:qx es w ab bl s rs)(ok:rs.ok)(i:rs.dep<=38)(j:rs.cnt<=900):fV [ZA n,R (aU (rs.nums s))] mu=!(Zp (.bl rs.sp),mu):=by let E:Ev:=#[[zS (ZA n),zL (aU (rs.nums s))],mu];let c:=Q4 h rs s J [] hs ok i ∅;show aO (Y:=E) (cT ?_);show jN (aA ((eF () c).trans O) O) O ?_;show ((eq (rs.sps.map PV.bl)).map _)=_;rw[show rs.sps.map PV.bl=rs.sps.map (λb=>PV.bl (id b)) from O,rP,mM,map_id];rw[Rows.sps_any]
def Rows.lnum:Rows->Nat->Nat
 |.nil,k=>k
 |.cons _ .nil,k=>k
 |.cons r (.cons r' rs),k=>(Rows.cons r' rs).lnum (k+r.cnt)
theorem Rows.nums_last:∀(r:af)(rs:Rows)(s:Nat),∃a,(Rows.cons r rs).nums s=a++[(Rows.cons r rs).lnum s]
 |r,.nil=>λs=>#[[],O]
 |r,.cons i rs=>λs=>by let(a,e):=Rows.nums_last i rs (s+r.cnt);show#[s::a,?_];show s::(Rows.cons i rs).nums (s+r.cnt)=_;rw[e];rfl
abbrev BE(n k:Nat)(p:PV)(acc:List PV)(o4:Option Lc)(mu:Mu):Ev:=#[[zS (ZA n),zI (k:Nat),zS p,zO acc,o4],mu]
abbrev Go(f:Nat):SF:=cC EG
 (gb 3 (aN (dJ f) EC))
 bR
def Q5{rs:Rows}(h:jb mu n es)(hs:qx es w ab bl s rs)(ok:rs.ok)(hd:rs.dep<=38)(Q:rs.cnt<=900)(hz:-acc+-(rs.lbt s)<=1000)
 (F:∀r i,rs=.cons r i->dJ f [ZA n,ZI (rs.lnum s:Nat)] mu=!(Zs (R (c7 (rs.lbt s))),mu)):
 Go f (BE n k p acc (zL (aU (rs.nums s))) mu)=!(.nx (BE n k p (acc++c7 (if rs.sp then rs.lbt s else [])) (zL (aU (rs.nums s))) mu)):=by
 let E:_:=BE n k p acc (zL (aU (rs.nums s))) mu;let(N,q,z):=h;have t:tT X1 qW E=!(rs.sp,E):=jU (xG (Y2:=E) O O z () O O (Pu #[N,q,z] hs ok hd Q)) O;cases j:rs.sp with
 |false=>
  rw[j]at t;show(lU t).trans ?_;simp[c7];rfl
 |true=>
  rw[j]at t;show(lR t).trans ?_;cases rs with
  |nil=>cases j
  |cons r i=>
   let D:=F r i O;let(a,ea):=Rows.nums_last r i s;have W:aJ (aa 4) (jq (ai 1)) E=!(Zp (ZI ((Rows.cons r i).lnum s:Nat)),E):=by show dG O O O O (λn h=>by cases h) ?_;show (fO (aU ((Rows.cons r i).nums s)) (-1)).map _=_;rw[ea,aU,eD,map_singleton,qN];rfl
   show(jZ O (aR (aA O (aA W O)) O O O D) O O ∅ O).trans ?_;rfl
end
section
def wB{o4:Option Lc}:aJ (aa 2) (ai 0) (BE n k (ZB (ZH w::ps)) acc o4 mu)=!(Zp (ZH w),BE n k (ZB (ZH w::ps)) acc o4 mu):=
 dG O O O O (λn h=>by cases h) (by show (fO (PV.str w::ps) 0).map _=_;rw[mo];rfl)
abbrev bhT(f:Nat):SF:=aF (cC x6
 EE
 bR)
 (aF (cC ED
 (fX EJ (aC 4)
 (Go f))
 bR)
 (gZ 3))
def Kr{o4:Option Lc}(h:jb mu n es)(hs:qy es w ab bl k r)(hk:k<256)(j:bhT f (BE n k r.pv [ZH (jv k)] J mu)=!(.rt (Zs (R L)) #[[zS (ZA n),zI (k:Nat),zS r.pv,J,o4],mu])):
 dJ (f+1) [ZA n,ZI (k:Nat)] mu=!(Zs (R L),mu):=by
 let(z,Q,F):=Gq k hk;let i:=tu h hs.get;let(N,D,q):=h;show aO (Y:=#[[zS (ZA n),zI (k:Nat),zS r.pv,J,o4],mu]) ?_;show aH (bu (xG O O q () O O i) O O) ?_;show aH (bu (pQ (aA (Ga O z ()) O) O O) O O) j
mutual
theorem VJ(h:jb mu n es):∀(r:af)(f k:Nat)(w:Str)(ab:PV)(bl:Int),qy es w ab bl k r->r.ok->r.dep<=f->r.dep<=37->k+r.cnt<=256->r.bl<=900->dJ f [ZA n,ZI (k:Nat)] mu=!(Zs (R (c7 (r.bt k))),mu)
 |.leaf x ps=>λf k w ab bl hs ok F j z W=>by simp only[af.cnt]at z;obtain⟨m,rfl⟩:∃m,f=m+1:=#[f-1,by simp only[af.dep]at F;lia];let((h1,h2,h3),_):=ok;show Kr h hs () ((bG (bw wB) h3).trans ((bG (bw wB) h1).trans O))
 |.call x m as=>λf k w ab bl hs ok F j z W=>by
  simp only[af.cnt]at z;obtain⟨f,rfl⟩:∃m,f=m+1:=#[f-1,by simp only[af.dep]at F;lia];let(_,hn,_):=ok;let P:_:=(af.call x m as).pv;show Kr h hs () ((nA (Y2:=BE n k P [ZH (jv k),ZH ("leave " ++ m)] J mu) (bw wB) () ?_).trans ((bG (bw wB) ()).trans O));show pR (l:=Zp (ZH ("leave " ++ m))) (Y1:=BE n k P [ZH (jv k)] J mu) O ?_ O O ∅ O;show dj O O O O ?_;show (if -("leave " : Str)+-m<=100000 then _ else _)=_;have h6:-("leave " : Str)=6:=by decide +kernel
  rw[ax ()]
 |.wh x b=>λf k w ab bl hs ok F j z W=>by simp only[af.cnt]at z;obtain⟨m,rfl⟩:∃m,f=m+1:=#[f-1,by simp only[af.dep]at F;lia];show Kr (o4:=J) h hs () ((bG (bw wB) ()).trans ((bG (bw wB) ()).trans O))
 |.iff x b c=>λf k w ab bl hs ok F j z W=>by
  simp only[af.cnt]at z;simp only[af.dep]at F j;simp only[af.bl]at W;obtain⟨m,rfl⟩:∃m,f=m+1:=#[f-1,()];let(s1,s2):=hs.iff;have p0:pos (gI w k 0) 0 es=b.nums (k+1):=hs.pos 0;have p1:pos (gI w k 1) 0 es=c.nums (k+1+b.cnt):=hs.pos 1;let b0:=Eg (i:=0) h hs.get;let b1:=Eg (i:=1) h hs.get;have q0:dZ [ZA n,ZI (k:Nat),ZI 0] mu=!(Zs (R (aU (b.nums (k+1)))),mu):=by rw[b0,p0]
  have q1:dZ [ZA n,ZI (k:Nat),ZI 1] mu=!(Zs (R (aU (c.nums (k+1+b.cnt)))),mu):=by rw[b1,p1]
  let P:_:=(af.iff x b c).pv;let D:List PV:=[ZH (jv k)];let Q:_:=D++c7 (if b.sp then b.lbt (k+1) else []);let A2:_:=Q++c7 (if c.sp then c.lbt (k+1+b.cnt) else []);let l1:=Rows.lbt_len b (k+1);let l2:=Rows.lbt_len c (k+1+b.cnt);have yT:-Q<=1+b.bl:=by simp only[Q,D,eS,da,db,e_];split<;>(try simp only[e_])<;>lia
  let e1:=Q5 (f:=m) (k:=k) (p:=P) (acc:=D) h s1 ok.2.1 () () (by simp only[D,db,e_];lia) λr rs e=>ba h b m (k+1) w (ZI (k:Nat)) 0 #[r,rs,e] s1 ok.2.1 () () () ();let e2:=Q5 (f:=m) (k:=k) (p:=P) (acc:=Q) h s2 ok.2.2 () () () λr rs e=>ba h c m (k+1+b.cnt) w (ZI (k:Nat)) 1 #[r,rs,e] s2 ok.2.2 () () () ();let(N,sR,hm):=h;let E:_:=BE n k P D J mu;have me:∀(i:Int)(l:List PV),dZ [ZA n,ZI (k:Nat),ZI i] mu=!(Zs (R l),mu)->cX "Plan" "block" dZ (aa 0) (aj (aa 1) (aj (ai i) ao)) E=!(Zs (R l),E):=λi l q=>xG (n:=n) (x:=Zp (ZA n)) (Y1:=E) (Y2:=E) (ls:=[Zp (ZI (k:Nat)),Zp (ZI i)]) O O hm (by show (["told","lists","heads"]:List Str).contains "block"=M;decide +kernel) O O q;show Kr (o4:=zL (aU (c.nums (k+1+b.cnt)))) #[N,sR,hm] hs () ((bG (bw wB) ()).trans ((nA (Y2:=BE n k P A2 (zL (aU (c.nums (k+1+b.cnt)))) mu) (bw wB) () ?_).trans ?_))
  . show eO (xs:=[R (aU (b.nums (k+1))),R (aU (c.nums (k+1+b.cnt)))]) (Y1:=E) (dC (l:=Zp (ZB [R (aU (b.nums (k+1))),R (aU (c.nums (k+1+b.cnt)))])) (dm (ls:=[Zs (R (aU (b.nums (k+1)))),Zs (R (aU (c.nums (k+1+b.cnt))))]) (aA (me 0 _ q0) (aA (me 1 _ q1) O)) O O) O) ?_;show Np (Y1:=BE n k P D (zL (aU (b.nums (k+1)))) mu) (Y3:=BE n k P Q (zL (aU (c.nums (k+1+b.cnt)))) mu) O e1 O e2
  . have eA:A2=c7 ((af.iff x b c).bt k):=by simp only[A2,Q,D,af.bt,c7,eD,fF,nV]
    rw[<-eA];rfl
theorem ba{mu:Mu}{n:Nat}{es:List eI}(h:jb mu n es):∀(rs:Rows)(f s:Nat)(w:Str)(ab:PV)(bl:Int),(∃r D,rs=.cons r D)->qx es w ab bl s rs->rs.ok->rs.dep<=f+1->rs.dep<=38->s+rs.cnt<=256->rs.bl<=900->dJ f [ZA n,ZI (rs.lnum s:Nat)] mu=!(Zs (R (c7 (rs.lbt s))),mu)
 |.nil=>λf s w ab bl z6 _ _ _ _ _ _=>by let(_,_,e):=z6;cases e
 |.cons r .nil=>λf s w ab bl _ hs ok W j hc Q=>by simp only[Rows.dep,Rows.cnt,Rows.bl]at W j hc Q;show VJ h r f s w ab bl hs.cons.1 ok.1 () () () ()
 |.cons r (.cons i rs)=>λf s w ab bl _ hs ok W j hc Q=>by
  have z:(Rows.cons i rs).dep<=f+1:=fA (Nat.le_max_right _ _) W;have q:(Rows.cons i rs).dep<=38:=fA (Nat.le_max_right _ _) j;have F:(Rows.cons i rs).bl<=900:=fA (Nat.le_max_right _ _) Q;have N:s+r.cnt+(Rows.cons i rs).cnt<=256:=by have:(Rows.cons r (.cons i rs)).cnt=r.cnt+(Rows.cons i rs).cnt:=O;lia
  show ba h (.cons i rs) f (s+r.cnt) w ab bl #[i,rs,O] hs.cons.2 ok.2 z q N F
end
end
def jO(w:Str):Bool:=("if"== w)||(("while"== w)||false)
def Hu(h:ip w):jO w=M:=by unfold jO;rw[xx h.1,xx h.2.1];rfl
section
abbrev Yi_:TF:=tT vcd aY
mutual
theorem af.es_rws:∀(r:af)(w:Str)(ab:PV)(bl:Int)(k:Nat),(r.es w ab bl k).map eI.r=r.rws
 |.leaf _ _=>λw ab bl k=>rfl
 |.call _ _ _=>λw ab bl k=>rfl
 |.wh e b=>λw ab bl k=>by simp[af.es,af.rws,Rows.es_rws b]
 |.iff e b c=>λw ab bl k=>by simp[af.es,af.rws,Rows.es_rws b,Rows.es_rws c]
theorem Rows.es_rws:∀(rs:Rows)(w:Str)(ab:PV)(bl:Int)(k:Nat),(rs.es w ab bl k).map eI.r=rs.rws
 |.nil=>λw ab bl k=>rfl
 |.cons r rs=>λw ab bl k=>by simp[Rows.es,Rows.rws,af.es_rws r,Rows.es_rws rs]
end
def kq(es:List eI)(k:Nat)(r:af):Prop:=∃w ab bl,qy es w ab bl k r
mutual
theorem af.spots:∀(r:af){es:List eI}{w:Str}{ab:PV}{bl:Int}{k:Nat},qy es w ab bl k r->∀(i:Nat) x,r.rws[i]?=!x->kq es (k+i) x
 |.leaf a ps,es,w,ab,bl,k=>λh i x j=>by
  match i,j with
  |0,j=>cases j;show#[w,ab,bl,h]
 |.call a n z,es,w,ab,bl,k=>λh i x j=>by
  match i,j with
  |0,j=>cases j;show#[w,ab,bl,h]
 |.wh e b,es,w,ab,bl,k=>λh i x j=>by
  match i,j with
  |0,j=>cases j;show#[w,ab,bl,h]
  |i+1,j=>
   have:=Rows.spots b h.wh i x ();grind
 |.iff e b c,es,w,ab,bl,k=>λh i x j=>by
  match i,j with
  |0,j=>cases j;show#[w,ab,bl,h]
  |i+1,j=>
   have q:(b.rws++c.rws)[i]?=!x:=by simpa [af.rws] using j
   obtain hi|hi:=fU i (-b.rws)
   . rw[jJ hi]at q;have:=Rows.spots b h.iff.1 i x q;grind
   . rw[hY hi]at q;have:=Rows.spots c h.iff.2 _ x q;rw[Rows.rws_len]at this hi;rw[show k+(i+1)=k+1+b.cnt+(i-b.cnt) by omega];grind
theorem Rows.spots:∀(rs:Rows){es:List eI}{w:Str}{ab:PV}{bl:Int}{k:Nat},qx es w ab bl k rs->∀(i:Nat) x,rs.rws[i]?=!x->kq es (k+i) x
 |.nil,es,w,ab,bl,k=>λh i x q=>by cases q
 |.cons r rs,es,w,ab,bl,k=>λh i x q=>by
  let(h1,h2):=h.cons;have j:(r.rws++rs.rws)[i]?=!x:=q;obtain hi|hi:=fU i (-r.rws)
  . rw[jJ hi]at j;show af.spots r h1 i x j
  . rw[hY hi]at j;have:=Rows.spots rs h2 _ x j;rw[af.rws_len]at this hi;rw[show k+i=k+r.cnt+(i-r.cnt) by omega];grind
end
def lN:List Fn->List af
 |[]=>[]
 |f::fs=>f.rows.rws++lN fs
theorem vq:∀fs:List Fn,-(lN fs)=d8 fs
 |[]=>rfl
 |f::fs=>by simp[lN,d8,Rows.rws_len,vq fs]
def Pg.rws(P:Pg):List af:=lN P.fns++P.rows.rws
def kr:List Fn->Nat->List (Fn×Nat)
 |[],_=>[]
 |f::fs,k=>(f,k)::kr fs (k+f.rows.cnt)
def Pg.fs(P:Pg):List Fn:=P.fns++[#["main",.non,[],P.rows]]
theorem Gr:∀(a b:List Fn)(k:Nat),qJ (a++b) k=qJ a k++qJ b (k+d8 a)
 |[]=>λb k=>rfl
 |f::a=>λb k=>by show _++qJ (a++b) (k+f.rows.cnt)=(_++_)++qJ b (k+(f.rows.cnt+d8 a));rw[Gr a b,eK,Nat.add_assoc]
def re(P:Pg):qJ P.fs 0=P.es:=by show qJ (P.fns++_) 0=qJ P.fns 0++_;rw[Gr,kc];show gs _ (fg _)
theorem Gs:∀(a b:List Fn),lN (a++b)=lN a++lN b
 |[]=>λb=>rfl
 |f::a=>λb=>by show _++lN (a++b)=(_++_)++_;rw[Gs a b,eK]
def zaI(P:Pg):lN P.fs=P.rws:=by show lN (P.fns++_)=lN P.fns++_;rw[Gs];show gs _ (fg _)
theorem GA:∀(fs:List Fn)(k:Nat)(z i:List eI),es=z++(qJ fs k++i)->-z=k->(∀e∈z++i,(e.ab=.non\/∃j:Nat,e.ab=.int j)/\∀m:Nat,k<=m->m<k+d8 fs->e.ab≠.int m)->∀b∈kr fs k,qx es b.1.name .non 0 b.2 b.1.rows
 |[]=>λk z i _ _ _ b W=>by cases W
 |f::fs=>λk z i e hl F b W=>by
  simp only[d8]at F;have fab:∀(fs:List Fn)(k:Nat),∀e∈qJ fs k,(e.ab=.non\/∃j:Nat,e.ab=.int j)/\∀m:Nat,m<k->e.ab≠.int m:=by
   intro fs;induction fs with
   |nil=>intro k e Q;cases Q
   |cons f fs ih=>
    intro k e Q;obtain Q|Q:=d6.mp Q
    . let g:=Rows.abs f.rows f.name .non 0 k e Q;show#[g.num (k:=0) (.inl rfl),λm hm=>g.ne () (.inl hm)]
    . let(N,D):=ih _ e Q;show#[N,λm hm=>D m ()]
  obtain rfl|W:=bh.mp W
  . show#[#[z,qJ fs (k+f.rows.cnt)++i,by rw[e];simp[qJ],hl,λy hy=>?_],.inl rfl];obtain q|q:=d6.mp hy
    . let(N,D):=F y (ii _ q);show#[N,λm h1 h2=>D m h1 ()]
    . obtain q|q:=d6.mp q
      . let(N,D):=fab fs _ y q;show#[N,λm h1 h2=>D m h2]
      . let(N,D):=F y (hZ _ q);show#[N,λm h1 h2=>D m h1 ()]
  . show GA fs (k+f.rows.cnt) (z++f.rows.es f.name .non 0 k) i (by rw[e];simp[qJ]) (by rw[eS,Rows.es_len,hl]) (λy hy=>by
     obtain q|q:=d6.mp hy
     . obtain q|q:=d6.mp q
       . let(N,D):=F y (ii _ q);show#[N,λm h1 h2=>D m () ()]
       . let g:=Rows.abs f.rows f.name .non 0 k y q;show#[g.num (k:=0) (.inl rfl),λm h1 h2=>g.ne () (.inr h1)]
     . let(N,D):=F y (hZ _ q);show#[N,λm h1 h2=>D m () ()]) b W
theorem GB:∀(fs:List Fn)(k i:Nat)(x:af),(lN fs)[i]?=!x->∃b∈kr fs k,∃j,b.1.rows.rws[j]?=!x/\k+i=b.2+j
 |[]=>λk i x z=>by cases z
 |f::fs=>λk i x z=>by
  have q:(f.rows.rws++lN fs)[i]?=!x:=z;obtain hi|hi:=fU i (-f.rows.rws)
  . rw[jJ hi]at q;show#[(f,k),cS,i,q,O]
  . rw[hY hi]at q;let(b,D,j,h1,h2):=GB fs (k+f.rows.cnt) _ x q;rw[Rows.rws_len]at hi h2;show#[b,d_ _ D,j,h1,()]
def yY(P:Pg):∀b∈kr P.fs 0,qx P.es b.1.name .non 0 b.2 b.1.rows:=
 GA P.fs 0 [] [] (by rw[re];simp) O λe j=>by cases j
def Yj(P:Pg)(i:Nat)(x:af)(q:P.rws[i]?=!x):kq P.es i x:=by rw[<-zaI]at q;let(b,z,j,h1,h2):=GB P.fs 0 i x q;rw[kc]at h2;rw[h2];show Rows.spots b.1.rows (yY P b z) j x h1
end
noncomputable abbrev SS (xs:List Str):List PV:=xs.map ZH
abbrev GD:Str:="abcdefghijklmnopqrstuvwxyz"
noncomputable def xM (i:Int):Nat:=97+(i%26).toNat
abbrev one(c:Nat):Str:=#[(List.toArray [c])]
set_option tactic.hygienic true in
def Nz(i:Int):qG (ZH GD) (ZI (i%26))=zT (one (xM i)):=by
 unfold xM;let q:=kP i (b:=26) ();let h1:=lE i (b:=26) ();generalize i%26=r at q h1;let(n,rfl):=Int.eq_ofNat_of_zero_le q
 have:∀n:Nat,n<26->(match qG (ZH GD) (ZI (n:Int)) with |some (Zp (ZH x))=>x.cps.toList==[97+n] |_=>M)=G:=by decide +kernel
 let j:=this n ();split at j
 . rename_i x e;rw[e]
   have F:x=one (97+n):=by
    cases x with |mk z=>
    congr 1;show Array.toList_inj.mp ∅
   grind
 . cases j
def Tf:∀cs:List Nat,Txt.join "" (cs.map one)=#[cs.toArray]:=by
 intro cs;unfold Txt.join;rw[StrLaws.glued_eq_join];induction cs with
 |nil=>rfl
 |cons c cs j=>
  cases cs with
  |nil=>rfl
  |cons d cs=>
   show (one c ++ "" ++ Str.join "" ((d::cs).map one):Str)=_;rw[j];show Str.mk (((List.toArray [c])++#[])++(d::cs).toArray)=_;simp
theorem strs_map:∀xs:List Str,f_ (SS xs)=!xs
 |[]=>rfl
 |x::xs=>by show (f_ (SS xs)).map _=_;rw[strs_map xs];rfl
theorem NB:∀cs:List Nat,((cs.map one).map (·.length)).sum=-cs
 |[]=>rfl
 |c::cs=>by rw[fF,fF,sum_cons,NB cs,db];show 1+_=_;lia
def aeh:∃m:Int,0<m/\m<=8/\m≠4/\qG (R [ZI 1,ZI 2,ZI 3,ZI 5,ZI 6,ZI 7,ZI 8]) (ZI (c%7))=zI m:=by
 let j:=kP c (b:=7) ();let h1:=lE c (b:=7) ();generalize c%7=r at j h1;obtain rfl|rfl|rfl|rfl|rfl|rfl|rfl:=(by omega:r=0\/r=1\/r=2\/r=3\/r=4\/r=5\/r=6)
 . show#[1,by decide,by decide,by decide,O]
 . show#[2,by decide,by decide,by decide,O]
 . show#[3,by decide,by decide,by decide,O]
 . show#[5,by decide,by decide,by decide,O]
 . show#[6,by decide,by decide,by decide,O]
 . show#[7,by decide,by decide,by decide,O]
 . show#[8,by decide,by decide,by decide,O]
def cO(d:Int):List Nat:=(range 10).map λi:Nat=>xM (d/2+3*(0+i))
def Jv(d:Int)(k:Nat):Str:=lY #[(cO d).toArray] (!((0+k:Int)%5)) (!((0+k:Int)%5+1+(0+k:Int)/5))
def nr(l:List Nat)(d:Int)(a:Nat)(k:Nat):Str:=#[(l.set a (xM (d/112+(0+k)))).toArray]
def zbG:((List.range k).map λi=>PV.str (one (c i))).set j (ZH (one x))=(((List.range k).map c).set j x).map λa=>PV.str (one a):=by rw[List.map_set,fE];rfl
def aaY(k:Nat):-(Jv d k)<=100:=by
 have h:-(cO d)=10:=by unfold cO;simp
 unfold Jv lY Str.length;simp only[gL,i9,nS];lia
def zap(z:6<=i)(j:i<10):Jv d i ≠ "main":=λq=>by
 have g:-(Jv d i)=2:=by rcases (by omega:i=6\/i=7\/i=8\/i=9) with rfl|rfl|rfl|rfl<;>rfl
 rw[q]at g;grind
def adn(F:6<=i)(N:i<j)(q:j<10):Jv d i≠Jv d j:=by
 have g:∀k:Nat,6<=k->k<10->(Jv d k).cps[0]?=!(xM (d/2+3*((k:Int)-5))):=λk h1 h2=>by rcases (by omega:k=6\/k=7\/k=8\/k=9) with rfl|rfl|rfl|rfl<;>rfl
 intro e;let z:=g i F ();rw[e,g j () q]at z;let D:=fI z;unfold xM at D;lia
def ado(N:a< -l)(D:i<j)(F:j<26):nr l d a i≠nr l d a j:=by have g:∀k:Nat,(nr l d a k).cps.toList[a]?=!(xM (d/112+(0+k))):=λk=>kt N;intro e;let q:=g i;rw[e,g j]at q;let z:=fI q;unfold xM at z;lia
def Rv:SS ((List.range (i+1)).map f)=SS ((List.range i).map f)++[ZH (f i)]:=by rw[List.range_succ];simp
def y0{γ:Type}{ns:List γ}{e:γ->PV}{i:Int}(z:0<=i)(h1:i< -ns):∃c∈ns,qG (R (ns.map e)) (ZI i)=zS (e c):=by let(l,D,c,j,rfl):=UX (S:=λl=>∃c∈ns,l=Zp (e c)) z h1 λc j=>#[c,j,O];show#[c,j,D]
def zb3(h:-x<=100000):qB (ZH x) y z=zT (lY x y z):=ax h
def adm(h0:0<=i)(h1:i< -ns):∃c∈ns,qG (.lst (SS ns)) (.int i)=zT c:=y0 h0 h1
end
local macro_rules | `(tactic| walk_at "l")=>`(tactic| first | omega | (simp only[db,e_,eS,da,i8,i9]at *; omega))
local macro_rules | `(tactic| walk_at "n")=>`(tactic| ((try dsimp only[env0,tw,ie,List.foldl,List.map,List.set,List.replicate,List.cons_append,List.nil_append,List.length_cons,List.length_nil,List.getElem?_cons_zero,List.getElem?_cons_succ,Option.join,Option.bind,Ev.set,Lc.pv,Nat.reduceAdd,Nat.reduceSub])<;>exact rfl))
local macro_rules | `(tactic| walk_at "x")=>`(tactic| fail)
local macro_rules | `(tactic| walk_at "o")=>`(tactic| first
 | (with_reducible first | apply Sm | apply WS | apply WQ); exact rfl; exact rfl; walk_at "l"
 | (with_reducible apply D0); exact rfl; exact rfl; walk_at "l"
 | (with_reducible apply WO); exact rfl; exact rfl; walk_at "l"
 | walk_at "x" | assumption | exact rfl | exact congrArg some ())
local macro_rules | `(tactic| walk_at "e")=>`(tactic| first
 | (with_reducible first | apply e_c | apply VQ | apply V9)
 | (with_reducible apply e_v); exact rfl
 | (with_reducible apply VO); exact rfl; walk_at "n"
 | (with_reducible first | apply DL | apply DM); walk_at "e"; walk_at "e"; walk_at "o"
 | (with_reducible apply VS); walk_at "e"; walk_at "e"
 | (with_reducible first | apply VT | apply VU); walk_at "e"; exact rfl; walk_at "n"
 | (with_reducible first | apply e_b | apply e_T | apply VZ | apply V6 | apply e_neg); walk_at "e"; walk_at "o"
 | (with_reducible apply xH); walk_at "e"; walk_at "n"; first | assumption | (intro _; assumption)
 | (with_reducible first | apply VW | apply VX); walk_at "e"; intro _; walk_at "e"
 | (with_reducible apply VY); walk_at "e"
 | (with_reducible apply V5); walk_at "e"; exact rfl; omega
 | (with_reducible first | apply V_ | apply Wb); walk_at "e"; walk_at "e"; walk_at "e"; walk_at "o"
 | (with_reducible apply Wc); walk_at "e"; walk_at "n"; walk_at "n"; walk_at "c"
 | walk_at "y")
local macro_rules | `(tactic| walk_at "y")=>`(tactic| fail)
local macro_rules | `(tactic| walk_at "c")=>`(tactic| ((with_reducible first | apply Wd | apply DS); walk_at "l"; (intro _ _; repeat intro _); walk_at "s"; exact⟨rfl,rfl,rfl,rfl⟩))
local macro_rules | `(tactic| walk_at "s1")=>`(tactic| first
 | (with_reducible apply xF)
 | (with_reducible apply tx); walk_at "e"; exact rfl; walk_at "n"
 | (with_reducible apply qV); walk_at "e"
 | (with_reducible apply VL); refine gv rfl ?_
 | (with_reducible first | apply VM | apply VC)
 | (with_reducible apply Wp); walk_at "e"; first | refine .inl ⟨by assumption,?_⟩ | refine .inr ⟨by assumption,?_⟩ | refine .inl ⟨rfl,?_⟩ | refine .inr ⟨rfl,?_⟩
 | (with_reducible apply WB); exact rfl; walk_at "e"; exact rfl; (first | walk_at "l" | rotate_left); walk_at "n"
 | (with_reducible apply WC); exact rfl; walk_at "e"; exact rfl; exact rfl; (first | walk_at "l" | rotate_left); walk_at "n"
 | (with_reducible apply WE); walk_at "e"; exact rfl; walk_at "e"; exact rfl; exact rfl; (first | walk_at "l" | rotate_left); walk_at "n"
 | (with_reducible first | apply WG | apply WH | apply WI); walk_at "e"
 | (with_reducible first | apply DV | apply DZ)
 | (with_reducible apply WJ); walk_at "e"; walk_at "e"; walk_at "e"; exact rfl; exact rfl; exact rfl; (intro _; assumption); walk_at "l"
 | (with_reducible apply nx); walk_at "n"
 | (with_reducible apply bd); exact λ_=>rfl; walk_at "n"
 | (with_reducible apply E.w); walk_at "e")
local macro_rules | `(tactic| walk_at "f")=>`(tactic| repeat walk_at "s1")
local macro_rules | `(tactic| walk_at "s")=>`(tactic| repeat first | walk_at "s1" | ((with_reducible apply WA); walk_at "e"))
local macro_rules | `(tactic| walk_at "n1")=>`(tactic| (refine nx (by walk_at "n") ?_))
section
variable [HK][FN]
def zcs{ns:List Int}(j:0<=k):ZT nj [R (ns.map ZI),ZI k] λr=>∃c,0<=c/\r=Zp (ZI c):=by
 apply DJ;intro ZN K
 walk_at "s"
 . intro h;let(c,_,e):=y0 j (by simpa using h)
   walk_at "s"
   show K _ #[_,kP _ (),O]
 . intro h
   walk_at "s"
   grind
def zdN{ι γ:Type}{m m1:ι->Mu}{a:AF}{L:List γ}{c:γ->Nat}(h:E a v m [l] v1 m1)(j:l.pv=R (L.map λa=>ZH (one (c a))))(hz:-L<=100):E (rY (c6 "") a) v m (Zp (ZH #[(L.map c).toArray])) v1 m1:=λi=>by
 rw[<-Tf];show XC O (h i) O (j.trans ?_) (strs_map _) ?_
 . grind
 . rw[NB,da,da,show -("" : Str)=0 from O];lia
end
local macro_rules | `(tactic| walk_at "x")=>`(tactic| exact Nz _)
local macro_rules | `(tactic| walk_at "y")=>`(tactic| ((with_reducible apply zdN); walk_at "e"; exact rfl; (simp; try omega)))
section
variable [HK][FN]
def zbF{d n:Int}(hn0:10<=n)(hn:n<=26):ZT u9 [ZI d,ZI n] λr=>∃xs:List Str,r=Zs (R (SS xs))/\-xs=n.toNat/\(∀x∈xs,-x<=100)/\(∀i j:Nat,6<=i->i<j->j<10->xs[i]?≠xs[j]?)/\(∀i:Nat,6<=i->i<10->xs[i]?≠!("main" : Str)):=by
 apply DJ;intro ZN K
 walk_at "s" <;> intro h
 . walk_at "s"
   show nh (λv0 i v m=>m=(λmu=>mu)/\∃o,v=(v0.set 5 o).set 3 (zO (SS ((List.range i).map (Jv d))))) #[O,J,O] ?_ ?_
   . rintro i x _ _ N hx k ⟨rfl,o,rfl⟩;let(hi,rfl):=Ny hx;let e:=zb3 (y:=!((0+i:Int)%5)) (z:=!((0+i:Int)%5+1+(0+i)/5)) (show -(#[(cO d).toArray]:Str)<=100000 by show (cO d).toArray.size<=_;simp[cO])
     walk_at "s"
     show k _ _ #[O,_,by rw[Rv];rfl]
   . rintro _ _ ⟨rfl,o,rfl⟩
     walk_at "s"
     rw[wM];show K _ #[_,O,by simp,λx hx=>?_,λi j h6 jp i5 q=>?_,λi h6 i5 q=>?_]
     . let(k,_,rfl):=dA.mp hx;show aaY k
     . rw[eL,eL,List.getElem?_range (),List.getElem?_range ()]at q;show adn h6 jp i5 (fI q)
     . rw[eL,List.getElem?_range ()]at q;show zap h6 i5 (fI q)
 . let(a,sN,hm8,hm4,em):=aeh (c:=d/2)
   walk_at "s"
   let(k0,k1):=UY (i:=d/14) sN;generalize d/14%a=at_ at k0 k1;let l:_:=(List.range a.toNat).map λi:Nat=>xM (d/((0+i:Int)+1)+(0+i)*(0+i));have ll:-l=a.toNat:=by simp[l]
   show nh (λv0 i v m=>m=(λmu=>mu)/\∃o o2,v=((v0.set 5 o).set 8 o2).set 3 (zO (SS ((List.range i).map (nr l d at_.toNat))))) #[O,J,none,rfl] ?_ ?_
   . rintro i x _ _ N hx k ⟨rfl,o,o2,rfl⟩;let(hi,rfl):=Ny hx
     walk_at "s"
     rw[zbG]
     walk_at "s"
     show k _ _ #[rfl,_,_,by rw[Rv,List.map_id'];rfl]
   . rintro _ _ ⟨rfl,o,o2,rfl⟩
     walk_at "s"
     rw[wM];show K _ #[_,rfl,by simp,λx hx=>?_,λi j h6 jp i5 q=>?_,λi h6 i5 q=>?_]
     . let(k,_,rfl):=dA.mp hx;unfold nr Str.length;simp;lia
     . rw[eL,eL,List.getElem?_range (),List.getElem?_range ()]at q;show ado () jp () (fI q)
     . rw[eL,List.getElem?_range ()]at q;have q2:-(nr l d at_.toNat i)=4:=by rw[fI q];decide +kernel
       unfold nr Str.length at q2;simp at q2;lia
def cell_eq{ns:List Int}(j:0<=k):∃c,0<=c/\∀mu,nj [R (ns.map ZI),ZI k] mu=!(Zp (ZI c),mu):=let #[_,#[c,h,e],q]:=zcs (ns:=ns) j;#[c,h,λmu=>by rw[q,e]]
def Yk(z:10<=n)(D:n<=26):∃xs:List Str,-xs=n.toNat/\(∀x∈xs,-x<=100)/\(∀i j:Nat,6<=i->i<j->j<10->xs[i]?≠xs[j]?)/\(∀i:Nat,6<=i->i<10->xs[i]?≠!("main" : Str))/\∀mu,u9 [ZI c,ZI n] mu=!(Zs (R (SS xs)),mu):=let #[_,#[xs,e,h1,h2,h3,h4],q]:=zbF (d:=c) z D;#[xs,h1,h2,h3,h4,λmu=>by rw[q,e]]
def tB(xs:List Str):-(SS xs)=-xs:=da _
def Eh(n:Nat):jo 0 n=((range n).map λi:Nat=>(0+(i:Int))).map PV.int:=by rw[fE];rfl
def xN(j:aa i Y=!(Zp (R (SS xs)),Y)):tT (au iV (eB cz (aj (aa i) ao)) (fy 0)) aY Y=!(not xs.isEmpty,Y):=by
 show jU (l:=Zp (.bl (not xs.isEmpty))) (dj (jN (aA j O) O O) O O O ?_) O;show some (Lc.sh (.bl (decide ((-(SS xs):Int)>0))))=_;cases xs with
 |nil=>rfl
 |cons x xs=>simp
def pick(h:xs≠[])(a d:Int)(N:0<d)(j:d<1073741824):∃x∈xs,∀(i:Nat)(fa:EF)(Y:Ev),aa i Y=!(Zp (R (SS xs)),Y)->fa Y=!(Zp (ZI a),Y)->aJ (aa i) (au aZ (au bO fa (ai d)) (eB cz (aj (aa i) ao))) Y=!(Zp (ZH x),Y):=by
 have q:(0:Int)< -xs:=by have:=length_pos_iff.mpr h;lia
 let(x,F,e):=adm (kP _ ()) (lE _ q);show#[x,F,λi fa Y z D=>dG (m:=Zp (ZI (a/d%-xs))) z O (bC (bC D O (gU N j)) (jN (aA z O) O O) ?_) O (λn h=>by cases h) e];rw[tB];show dI q
abbrev XE(c:Int)(own ls:List Str)(p:PV)(o4 o5 o6 o7:Option Lc)(mu:Mu):Ev:=#[[zI c,zL (SS own),zL (SS ls),zS p,o4,o5,o6,o7],mu]
set_option tactic.hygienic true in
def adp(a:Int):∃s,F6 s/\qG (ZH "+-*<=") (ZI (a%5))=zT s:=by
 let j:=kP a (b:=5) ();let h1:=lE a (b:=5) ();generalize a%5=r at j h1;have h:∀n:Nat,n<5->(match qG (ZH "+-*<=") (ZI (n:Int)) with |some (Zp (ZH s))=>not (s== "num")&&not (s== "box")&&not (s== "@") |_=>M)=G:=by decide +kernel
 let g:=h r.toNat ();rw[Int.toNat_of_nonneg j]at g;split at g
 . rename_i x e;simp only[iF,Bool.not_eq_true']at g;show#[x,#[g.1.1,g.1.2,g.2],e]
 . cases g
def Ay:Sh []:=λx h=>by cases h
def xO(h:-x<=100)(t:Sh a):Sh (x::a):=λy i=>by
 obtain rfl|i:=bh.mp i
 . show h
 . grind
def Gu(h:Sh a)(t:Sh b):Sh (a++b):=λy j=>(d6.mp j).elim (h y) (t y)
def Cg{xs:List Str}(h:(not xs.isEmpty&&b)=G):xs≠[]:=by grind
def aa0(ho:Sh own)(W:Sh ls)(md:0<=k)(hk:k<100)(hn:2<=n)(hp:Rd n p a)(ha:Sh a):∃q b p5 p6 p7,(Rd (n+1) q b/\-b<=-a+2/\Sh b)/\∀(mu:Mu)(o5 o6 o7:Option Lc),x_ (XE c own ls p (zI k) o5 o6 o7 mu)=!(.nx (XE c own ls q (zI k) (!p5) (!p6) (!p7) mu)):=by
 let z:Int:=c*(k+2)%2147483647*16807%2147483647;let K:Option Lc:=zI k;let Z:Option Lc:=zI z;have s1:∀(mu:Mu)(o5 o6 o7:Option Lc),aL 5 vaw (XE c own ls p K o5 o6 o7 mu)=!(.nx (XE c own ls p K Z o6 o7 mu)):=λmu o5 o6 o7=>
  bu (bC (bC (bC (bC O O (wL () ())) O (dI ())) O (wL () ())) O ()) O O
 let n0:PV:=ZB [ZH "num",ZI (z%1000)];have g3:∃D N,(Rd 1 D N/\-N<=1/\Sh N)/\∀(g:SF)(mu:Mu)(o7:Option Lc),aF (cC vbc
  vay
  bR) g (XE c own ls p K Z (zS n0) o7 mu)=g (XE c own ls p K Z (zS D) o7 mu):=by
  have t:∀(mu:Mu)(o7:Option Lc),eE EW ven (XE c own ls p K Z (zS n0) o7 mu)=!(not own.isEmpty&&decide (z%6>0),XE c own ls p K Z (zS n0) o7 mu):=λmu o7=>nU (xN O) O;cases i:(not own.isEmpty&&decide (z%6>0)) with
  |false=>show#[n0,[],#[.num 0 _,gz _,Ay],λg mu o7=>bG (t mu o7) i]
  |true=>
   let(x,xm,hx):=pick (Cg i) z 6 () ();show#[ZB [ZH "box",ZH x],[x],#[.box 0 x,dP _,xO (ho x xm) Ay],λg mu o7=>nA (t mu o7) i (bu (dm (aA O (aA (hx 1 (aa 5) _ O O) O)) O O) O O)]
 let(D,N,(f1,d1,c1),g3):=g3;have g4:∃F Q,(Rd 2 F Q/\-Q<=2/\Sh Q)/\∀(g:SF)(mu:Mu)(o7:Option Lc),aF (cC vba
  vas
  bR) g (XE c own ls p K Z (zS D) o7 mu)=g (XE c own ls p K Z (zS F) o7 mu):=by
  have t:∀(mu:Mu)(o7:Option Lc),eE EZ vei (XE c own ls p K Z (zS D) o7 mu)=!(not ls.isEmpty&&(z%7==5),XE c own ls p K Z (zS D) o7 mu):=λmu o7=>nU (xN O) O;cases i:(not ls.isEmpty&&(z%7==5)) with
  |false=>show#[D,N,#[f1.mono (),(),c1],λg mu o7=>bG (t mu o7) i]
  |true=>
   let(x,xm,hx):=pick (Cg i) z 42 () ();show#[ZB [ZH "@",ZH x,D],x::N,#[.at_ x f1,by simp only[db];lia,xO (W x xm) c1],λg mu o7=>nA (t mu o7) i (bu (dm (aA O (aA (hx 2 (aa 5) _ O O) O)) O O) O O)]
 let(F,Q,(f2,d2,c2),g4):=g4;let(s,GG,es):=adp (z/77);let j:Option Lc:=zS F;let ZT:Option Lc:=zT s;have s7:∀(mu:Mu)(o7:Option Lc),aL 7 vcs (XE c own ls p K Z j o7 mu)=!(.nx (XE c own ls p K Z j ZT mu)):=λmu o7=>
  bu (dG O O (bC (bC O O (gU () ())) O (dI ())) O (λn h=>by cases h) es) O O
 have g8:∃q b,(Rd (n+1) q b/\-b<=-a+2/\Sh b)/\∀(mu:Mu),cC van
  vat
  (cC vck
  vdn
  vdo) (XE c own ls p K Z j ZT mu)=!(.nx (XE c own ls q K Z j ZT mu)):=by
  have t:∀(mu:Mu),eE EZ vcj (XE c own ls p K Z j ZT mu)=!(not ls.isEmpty&&(z/5%3==0),XE c own ls p K Z j ZT mu):=λmu=>nU (xN O) O;have t2:∀(mu:Mu),tT vdd aY (XE c own ls p K Z j ZT mu)=!(z/5%3==1,XE c own ls p K Z j ZT mu):=λmu=>O;cases i:(not ls.isEmpty&&(z/5%3==0)) with
  |true=>
   let(x,xm,hx):=pick (Cg i) z 15 () ();show#[ZB [ZH "@",ZH x,p],x::a,#[.at_ x hp,by simp only[db];lia,xO (W x xm) ha],λmu=>(lR ((t mu).trans (by rw[i]))).trans (bu (dm (aA O (aA (hx 2 (aa 5) _ O O) O)) O O) O O)]
  |false=>
   cases hc:(z/5%3==1) with
   |true=>show#[ZB [ZH s,p,F],a++Q,#[.op GG hp (f2.mono hn),by simp only[eS];lia,Gu ha c2],λmu=>(lU ((t mu).trans (by rw[i]))).trans ((lR ((t2 mu).trans (by rw[hc]))).trans O)]
   |false=>show#[ZB [ZH s,F,p],Q++a,#[.op GG (f2.mono hn) hp,by simp only[eS];lia,Gu c2 ha],λmu=>(lU ((t mu).trans (by rw[i]))).trans ((lU ((t2 mu).trans (by rw[hc]))).trans O)]
 let(q,b,fq,g8):=g8;show#[q,b,Zp (ZI z),Zp F,Zp (ZH s),fq,λmu o5 o6 o7=>aH (s1 mu o5 o6 o7) (aH ((λmu o6 o7=>O) mu o6 o7) ((g3 _ mu o7).trans ((g4 _ mu o7).trans (aH (s7 mu o7) (g8 mu)))))]
theorem Q7(W:Sh own)(i:Sh ls):∀(ks:List Int)(p:PV)(n:Nat)(a:List Str),(∀k∈ks,0<=k/\k<100)->2<=n->Rd n p a->Sh a->∃q b,(Rd (n+-ks) q b/\-b<=-a+2*-ks/\Sh b)/\∀(mu:Mu)(o4 o5 o6 o7:Option Lc),∃p4 j z F,eN (aC 4) x_ (ks.map PV.int) (XE c own ls p o4 o5 o6 o7 mu)=!(.nx (XE c own ls q p4 j z F mu))
 |[]=>λp n a _ Q N D=>#[p,a,#[N,dP _,D],λmu o4 o5 o6 o7=>#[o4,o5,o6,o7,O]]
 |k::ks=>λp n a h Q N D=>by let(h0,h1):=h k cS;let(q1,b1,j,z,F,(f1,d1,c1),e1):=aa0 W i h0 h1 Q N D;let(q,b,(fq,dq,cq),ih):=Q7 W i ks q1 (n+1) b1 (λx hx=>h x (d_ _ hx)) () f1 c1;show#[q,b,#[by rw[show n+-(k::ks)=n+1+-ks by simp only[db];omega];show fq,by simp only[db];lia,cq],λmu o4 o5 o6 o7=>?_];let(r4,r5,r6,r7,e2):=ih mu (zI k) (!j) (!z) (!F);show#[r4,r5,r6,r7,gw O (e1 mu o5 o6 o7) e2]
def rg(c:Int):∃m:Nat,m<=4/\qG (R [ZI 0,ZI 0,ZI 1,ZI 1,ZI 2,ZI 2,ZI 3,ZI 4]) (ZI (c%8))=zI (m:Nat):=by
 let j:=kP c (b:=8) ();let h1:=lE c (b:=8) ();generalize c%8=r at j h1;obtain rfl|rfl|rfl|rfl|rfl|rfl|rfl|rfl:=(by omega:r=0\/r=1\/r=2\/r=3\/r=4\/r=5\/r=6\/r=7)
 . show#[0,by decide,O]
 . show#[0,by decide,O]
 . show#[1,by decide,O]
 . show#[1,by decide,O]
 . show#[2,by decide,O]
 . show#[2,by decide,O]
 . show#[3,by decide,O]
 . show#[4,by decide,O]
def Hv(c:Int)(ho:Sh own)(N:Sh ls):∃p,XG p/\∀mu,dU [ZI c,R (SS own),R (SS ls)] mu=!(Zp p,mu):=by
 let j:PV:=ZB [ZH "num",ZI (c*7919%10 ^ 12)];let E0:Mu->Ev:=λmu=>#[[zI c,zL (SS own),zL (SS ls),J,J,J,J,J],mu];have s1:∀mu,aL 3 E9 (E0 mu)=!(.nx (XE c own ls j J J J J mu)):=λmu=>
  bu (dm (aA O (aA (bC (bC O O (wL () ())) O ()) O)) O O) O O
 have F:∃D z,(Rd 2 D z/\-z<=1/\Sh z)/\∀(g:SF)(mu:Mu),aF (cC E_
  Fa
  bR) g (XE c own ls j J J J J mu)=g (XE c own ls D J J J J mu):=by
  have t:∀(mu:Mu),eE EW vep (XE c own ls j J J J J mu)=!(not own.isEmpty&&decide (c%5>0),XE c own ls j J J J J mu):=λmu=>nU (xN O) O;cases Q:(not own.isEmpty&&decide (c%5>0)) with
  |false=>show#[j,[],#[.num 1 _,gz _,Ay],λg mu=>bG (t mu) Q]
  |true=>
   let(x,xm,hx):=pick (Cg Q) c 5 () ();show#[ZB [ZH "box",ZH x],[x],#[.box 1 x,dP _,xO (ho x xm) Ay],λg mu=>nA (t mu) Q (bu (dm (aA O (aA (hx 1 (aa 0) _ O O) O)) O O) O O)]
 let(D,z,(f1,d1,c1),F):=F;let(m,hm,em):=rg (c/60);let(q,b,(fq,dq,cq),W):=Q7 ho N ((range m).map λi:Nat=>(0+(i:Int))) D 2 z (λk hk=>by let(i,hi,rfl):=dA.mp hk;have:=mem_range.mp hi;lia) () f1 c1
 rw[da,i8]at dq fq;show#[q,#[_,b,fq,(),(),cq],λmu=>?_];let(p4,p5,p6,p7,W):=W mu J J J J;show aO (Y:=#[[zI c,zL (SS own),zL (SS ls),J,p4,p5,p6,p7],mu]) (aH (s1 mu) ((F _ mu).trans (aH (eO (xs:=jo 0 m) ?_ (by rw[Eh];show W)) O)));show mY (aA (dG (q:=ZI (c/60%8)) (l:=Zs (R [ZI 0,ZI 0,ZI 1,ZI 1,ZI 2,ZI 2,ZI 3,ZI 4])) O O O O (λn h=>by cases h) em) O) O () ()
inductive Dr where
 |row (r:af)
 |wh (e:PV)
 |iff (e:PV)
def Dr.pv:Dr->Nat->PV
 |.row r,_=>r.pv
 |.wh e,n=>ZB [ZH "while",e,ZA n]
 |.iff e,n=>ZB [ZH "if",e,ZA n,ZA (n+1)]
noncomputable def Dr.cl:Dr->Mu
 |.row _=>[]
 |.wh _=>[!(R [])]
 |.iff _=>[!(R []),!(R [])]
def af.low:af->Prop
 |.leaf w ps=>(af.leaf w ps).ok
 |.call b n as=>(af.call b n as).ok
 |_=>False
def Dr.ok:Dr->Prop
 |.row r=>r.low
 |.wh e=>XG e
 |.iff e=>XG e
abbrev Hd:=List (Str×List Str)
abbrev gY(hs:Hd):List PV:=hs.map λh=>ZB [ZH h.1,R (SS h.2)]
def VN:ip "put":=#[by decide +kernel,by decide +kernel,by decide +kernel]
def VP:ip "out":=#[by decide +kernel,by decide +kernel,by decide +kernel]
def VV:ip "set":=#[by decide +kernel,by decide +kernel,by decide +kernel]
def ua{γ:Type}{e:γ->PV}{ns:List γ}(a:Int)(h:decide ((-(ns.map e):Int)>0)=G):(0:Int)< -(ns.map e)/\∃x∈ns,qG (R (ns.map e)) (ZI (a%-(ns.map e)))=zS (e x):=by let j:=of_decide_eq_true h;rw[da]at j ⊢;show#[j,y0 (kP _ ()) (lE _ j)]
end
local macro_rules | `(tactic| walk_at "y")=>`(tactic| first
 | (with_reducible apply WU); walk_at "e"
 | (with_reducible apply xH); walk_at "e"; walk_at "n"; (intro _; apply_assumption))
section
variable [HK][FN]
def adq(c:Int)(ho:Sh own)(ot:Sh ls)(hs:Hd)(ws:List Str)(hh:∀h∈hs,-h.1<=1000/\-h.2<=26/\FN.fn h.1):∃d:Dr,d.ok/\∀mu,iB [ZI c,R (SS own),R (SS ls),R (gY hs),R (SS ws)] mu=!(Zp (d.pv (-mu)),mu++d.cl):=by
 let(p1,f1,e1):=Hv (c*48271%2147483647) ho ot;let(p2,f2,e2):=Hv (c*69621%2147483647) ho ot;let(g,hg):=Classical.axiomOfChoice λi:Nat=>Hv (c*40692%(2147483399-(0+(i:Int)))) ho ot;let hg2:=λi mu=>(hg i).2 mu;cases b1:(c/8%9==1)&&decide ((-(SS ls):Int)>0) with
 |true=>
  let(h1,x,xm,e):=ua (c/72) (Bool.and_eq_true_iff.mp b1).2;show#[.row (.leaf "put" [ZH x,p1,p2]),#[VN,.put (ot x xm) f1 f2],λmu=>io λZN K=>?_];let e1:=e1 mu;let e2:=e2 mu
  walk_at "f"
  rw[show mu++Dr.cl (.row (.leaf "put" [ZH x,p1,p2]))=mu from fg _]at K;show K
 |false=>
 cases b2:(c/8%9==6) with
 |true=>
  show#[.wh p2,f2,λmu=>io λZN K=>?_];let e1:=e1 mu;let e2:=e2 mu
  walk_at "f"
  show K
 |false=>
 obtain⟨b3,t3⟩:∃b,pB (ZI (c/8%9)) (ZB [ZI 4,ZI 5])=zS (.bl b):=#[_,O];cases hb3:b3||(-(SS own):Int)==0 with
 |true=>
  show#[.iff p1,f1,λmu=>io λZN K=>?_];let e1:=e1 mu;let e2:=e2 mu
  walk_at "f"
  rw[eS,eK];show K
 |false=>
 let(h1,x,xm,e):=ua (c/72) (lS (show (-(SS own):Int)>0 by have:=pc.mp (Bool.or_eq_false_iff.mp hb3).2;lia));cases b4:(c/8%9==2)&&decide ((-(SS ws):Int)>0) with
 |true=>
  let(h2,w,_,e4):=ua (c/7) (Bool.and_eq_true_iff.mp b4).2;show#[.row (.leaf "out" [ZH x,p1,ZH w]),#[VP,.out w (ho x xm) f1],λmu=>io λZN K=>?_];let e1:=e1 mu;let e2:=e2 mu
  walk_at "f"
  rw[show mu++Dr.cl (.row (.leaf "out" [ZH x,p1,ZH w]))=mu from fg _]at K;show K
 |false=>
 obtain⟨b5,t5⟩:∃b,pB (ZI (c/8%9)) (ZB [ZI 3,ZI 8])=zS (.bl b):=#[_,O];cases hb5:b5&&decide ((-(gY hs):Int)>0) with
 |true=>
  let(h2,h,hm,e5):=ua (c/792) (Bool.and_eq_true_iff.mp hb5).2;let(wm,kS,mT):=hh h hm;show#[.row (.call (ZH x) h.1 ((List.range (-(SS h.2):Int).toNat).map g)),#[#[x,O,ho x xm],wm,λa ha=>?_,by simp;lia,mT],λmu=>io λZN K=>?_]
  . let(i,_,rfl):=dA.mp ha;show(hg i).1
  let e1:=e1 mu;let e2:=e2 mu;have kS:-(SS h.2)<=26:=by rw[da];show kS
  walk_at "f"
  rw[show mu++Dr.cl (.row (.call (ZH x) h.1 ((List.range (-(SS h.2):Int).toNat).map g)))=mu from fg _]at K;show K
 |false=>
  show#[.row (.leaf "set" [ZH x,p2]),#[VV,.set_ (ho x xm) f2],λmu=>io λZN K=>?_];let e1:=e1 mu;let e2:=e2 mu
  walk_at "f"
  rw[show mu++Dr.cl (.row (.leaf "set" [ZH x,p2]))=mu from fg _]at K;show K
mutual
theorem mQ:∀(p:PV)(k:Nat),di p=G->fQ mu k p=p
 |.non,k,_=>by cases k<;>rfl
 |.bl _,k,_=>by cases k<;>rfl
 |ZI _,k,_=>by cases k<;>rfl
 |ZH _,k,_=>by cases k<;>rfl
 |ZB ps,k,h=>by
  cases k with
  |zero=>rfl
  |succ k=>
   show PV.tup (ps.map (fQ mu k))=_;rw[cf ps k ()]
 |R _,k,h=>by simp[di]at h
 |.dk _ _,k,h=>by simp[di]at h
 |.dt _ _,k,h=>by simp[di]at h
 |.obj _ _ _,k,h=>by simp[di]at h
 |.df _ _,k,h=>by simp[di]at h
 |.dtf _ _,k,h=>by simp[di]at h
 |.dx _ _ _,k,h=>by simp[di]at h
 |ZA _,k,h=>by simp[di]at h
theorem cf:∀(ps:List PV)(k:Nat),ck ps=G->ps.map (fQ mu k)=ps
 |[]=>λk _=>rfl
 |p::ps=>λk h=>by simp only[ck,iF]at h;rw[fF,mQ p k h.1,cf ps k h.2]
end
def Ym(h:ck ps=G):fQ mu k (R ps)=R ps:=by
 cases k with
 |zero=>rfl
 |succ k=>
  show PV.lst (ps.map (fQ mu k))=_;rw[cf ps k h]
abbrev vZ:=List (Nat×PV)
def Holds(mu:Mu)(L:vZ):Prop:=(L.map (·.1)).Nodup/\∀x∈L,mu[x.1]?=!(!x.2)
def Holds.perm(h:Holds mu L)(p:L'.Perm L):Holds mu L':=#[(p.map _).nodup_iff.mpr h.1,λx j=>h.2 x ∅]
def Holds.sub(h:Holds mu L)(p:L'.Sublist L):Holds mu L':=#[h.1.sublist (p.map _),λx j=>h.2 x ∅]
def Holds.tail{L:vZ}(h:Holds mu (x::L)):Holds mu L:=h.sub (f7 _ _)
def Holds.head{L:vZ}(h:Holds mu ((n,p)::L)):mu[n]?=!(!p):=h.2 _ cS
theorem Holds.set{L:vZ}(h:Holds mu ((n,p)::L)):Holds (mu.set n (!q)) ((n,q)::L):=by
 let z:=(fr.mp h.head).1;show#[h.1,λx j=>?_];obtain rfl|j:=bh.mp j
 . show kt z
 . let ne:=λe=>(h_.mp h.1).1 (dA.mpr #[x,j,e]);rw[rT (λe=>ne e.symm)];show h.2 x (d_ _ j)
def Holds.lt(h:Holds mu L):∀x∈L,x.1< -mu:=λx j=>(fr.mp (h.2 x j)).1
def Holds.push(h:Holds mu L)(p:PV):Holds (mu++[!p]) ((-mu,p)::L):=by
 show#[h_.mpr #[λj=>?_,h.1],λx i=>?_]
 . let(x,i,e):=dA.mp j;have:=h.lt x i;lia
 . obtain rfl|i:=bh.mp i
   . rw[hY (),ky];rfl
   . rw[jJ (h.lt x i)];show h.2 x i
structure fT where
 p:PV
 r:af
 L:vZ
def fT.fit(d:fT):Prop:=d.r.ok/\∀mu k,Holds mu d.L->3*d.r.dep<=k->fQ mu k d.p=d.r.pv
noncomputable def av:List af->Rows
 |[]=>.nil
 |r::l=>.cons r (av l)
theorem Gv:∀l:List af,(av l).pvs=l.map af.pv
 |[]=>rfl
 |r::l=>by simp[av,Rows.pvs,Gv l]
theorem tE:∀l:List af,(∀r∈l,r.ok)->(av l).ok
 |[]=>λ_=>i7
 |r::l=>λh=>#[h r cS,tE l λx i=>h x (d_ _ i)]
theorem uv:∀l:List af,∀r∈l,r.dep+1<=(av l).dep
 |[]=>λr h=>by cases h
 |x::l=>λr h=>by
  simp only[av,Rows.dep];obtain rfl|h:=bh.mp h
  . lia
  . have:=uv l r h;lia
theorem zu(i:1<=n):∀l:List af,(∀r∈l,r.dep+1<=n)->(av l).dep<=n
 |[]=>λ_=>i
 |x::l=>λh=>by let h1:=h x cS;let h2:=zu i l λr j=>h r (d_ _ j);simp only[av,Rows.dep];lia
theorem Az:∀l:List af,(∀r∈l,r.bl<=n)->(av l).bl<=n
 |[]=>λ_=>gz _
 |x::l=>λh=>by let h1:=h x cS;let h2:=Az l λr i=>h r (d_ _ i);simp only[av,Rows.bl];lia
def fZ(l:List af):Nat:=(l.map af.cnt).sum
theorem nD:∀l:List af,(av l).cnt=fZ l
 |[]=>rfl
 |r::l=>by simp[av,Rows.cnt,fZ,nD l]
def Ei(a b:List af):fZ (a++b)=fZ a+fZ b:=by simp[fZ]
abbrev d9(ds:List fT):List PV:=ds.map (·.p)
noncomputable abbrev iM (ds:List fT):List af:=ds.map (·.r)
noncomputable def dL:List fT->vZ
 |[]=>[]
 |d::ds=>d.L++dL ds
theorem NP:∀a b:List fT,dL (a++b)=dL a++dL b
 |[]=>λb=>rfl
 |d::a=>λb=>by simp[dL,NP a]
theorem V0:∀{ds:List fT}{d:fT},d∈ds->d.L.Sublist (dL ds)
 |[],d=>λh=>by cases h
 |x::ds,d=>λh=>by
  obtain rfl|h:=bh.mp h
  . show j6 _ _
  . show(V0 h).trans (nI _ _)
def Ci(z:∀d∈ds,d.fit)(q:mu[n]?=!(!(R (d9 ds))))(H:Holds mu (dL ds))(hk:∀d∈ds,3*d.r.dep<=k):fQ mu (k+2) (ZA n)=R (av (iM ds)).pvs:=by show (match mu[n]? with |some (!p)=>fQ mu (k+1) p |_=>ZA n)=_;rw[q];show PV.lst ((d9 ds).map (fQ mu k))=_;rw[Gv,d9,iM,fE,fE];congr 1;show rX λd j=>?_;show(z d j).2 mu k (H.sub (V0 j)) (hk d j)
def V1(he:XG e)(q:∀d∈ds,d.fit):fT.fit #[ZB [ZH "while",e,ZA n],.wh e (av (iM ds)),(n,R (d9 ds))::dL ds]:=by
 show#[#[he,tE _ λr D=>?_],λmu k H hk=>?_]
 . let(d,z,rfl):=dA.mp D;show(q d z).1
 . simp only[af.dep]at hk;obtain⟨k,rfl⟩:∃j,k=j+3:=#[k-3,()];let F:=Ci (k:=k) q H.head H.tail λd z=>by have:=uv (iM ds) d.r ∅;lia
   show PV.tup [fQ mu (k+2) (ZH "while"),fQ mu (k+2) e,fQ mu (k+2) (ZA n)]=_;rw[F,mQ e _ he.fl.1];rfl
def Hw(he:XG e)(D:∀d∈bs,d.fit)(F:∀d∈ds,d.fit):fT.fit #[ZB [ZH "if",e,ZA m,ZA n],.iff e (av (iM bs)) (av (iM ds)),(m,R (d9 bs))::(n,R (d9 ds))::(dL bs++dL ds)]:=by
 show#[#[he,tE _ λr z=>?_,tE _ λr z=>?_],λmu k H hk=>?_]
 . let(d,q,rfl):=dA.mp z;show(D d q).1
 . let(d,q,rfl):=dA.mp z;show(F d q).1
 . simp only[af.dep]at hk;obtain⟨k,rfl⟩:∃j,k=j+3:=#[k-3,()];let W:=Ci (k:=k) D H.head (H.tail.tail.sub (j6 _ _)) λd q=>by have:=uv (iM bs) d.r ∅;lia
   let N:=Ci (k:=k) F H.tail.head (H.tail.tail.sub (nI _ _)) λd q=>by have:=uv (iM ds) d.r ∅;lia
   show PV.tup [fQ mu (k+2) (ZH "if"),fQ mu (k+2) e,fQ mu (k+2) (ZA m),fQ mu (k+2) (ZA n)]=_;rw[W,N,mQ e _ he.fl.1];rfl
def aa1(h:r.low):fT.fit #[r.pv,r,[]]:=by
 cases r with
 |leaf w ps=>
  let(h1,h2):=h;show#[#[h1,h2],λmu k _ _=>?_];show mQ _ k (by simp[af.pv,di,ck,h2.fls.1])
 |call b n D=>
  let(h1,h2,z,F):=h;show#[#[h1,h2,z,F],λmu k _ hk=>?_];let(x,rfl,_):=h1;simp only[af.dep]at hk;obtain⟨k,rfl⟩:∃j,k=j+1:=#[k-1,()];show PV.tup [fQ mu k (ZH "call"),fQ mu k (ZH x),fQ mu k (ZH n),fQ mu k (R D)]=_;rw[mQ (ZH x) _ O,mQ (ZH "call") k O,mQ (ZH n) k O,Ym (Gm z).1];rfl
 |wh e b=>cases h
 |iff e b c=>cases h
inductive Kd where
 |root
 |W (e:PV)
 |I1 (e:PV) (m:Nat)
 |I2 (e:PV) (m:Nat) (bs:List fT)
structure Fr where
 n:Nat
 s:Nat
 ds:List fT
 kd:Kd
noncomputable def Fr.op (f:Fr):PV:=match f.kd with
 |.root=>.non
 |.W e=>ZB [ZH "while",e,ZA f.n]
 |.I1 e m=>ZB [ZH "if",e,ZA f.n,ZA m]
 |.I2 e m _=>ZB [ZH "if",e,ZA m,ZA f.n]
def Kd.st:Kd->vZ
 |.I1 _ m=>[(m,R [])]
 |.I2 _ m bs=>(m,R (d9 bs))::dL bs
 |_=>[]
def Fr.sc(f:Fr):List PV:=match f.kd with
 |.I1 _ m=>[ZA f.n,ZA m]
 |_=>[ZA f.n]
def Fr.cls(f:Fr):fT:=match f.kd with
 |.root=>#[.non,.leaf "" [],[]]
 |.W e=>#[f.op,.wh e (av (iM f.ds)),(f.n,R (d9 f.ds))::dL f.ds]
 |.I1 e m=>#[f.op,.iff e (av (iM f.ds)) .nil,(f.n,R (d9 f.ds))::(m,R [])::(dL f.ds++[])]
 |.I2 e m bs=>#[f.op,.iff e (av (iM bs)) (av (iM f.ds)),(m,R (d9 bs))::(f.n,R (d9 f.ds))::(dL bs++dL f.ds)]
def Kd.fit:Kd->Prop
 |.root=>True
 |.W e=>XG e
 |.I1 e _=>XG e
 |.I2 e _ bs=>XG e/\∀d∈bs,d.fit
def Fr.fit(f:Fr):Prop:=(∀d∈f.ds,d.fit)/\f.kd.fit
def Ra{f:Fr}(h:f.fit)(q:f.kd≠.root):f.cls.fit:=by
 let(n,s,ds,kd):=f;let(h1,h2):=h;cases kd with
 |root=>grind
 |W e=>show V1 h2 h1
 |I1 e m=>show Hw (ds:=[]) h2 h1 (λd j=>by cases j)
 |I2 e m bs=>show Hw h2.1 h2.2 h1
def aej{f:Fr}(j:f.kd≠.root):f.cls.p=f.op:=by let(n,s,ds,kd):=f;cases kd<;>first |show absurd O j |rfl
def aek{f:Fr}(j:f.kd≠.root):f.cls.L.Perm ((f.n,R (d9 f.ds))::(f.kd.st++dL f.ds)):=by
 let(n,s,ds,kd):=f;cases kd with
 |root=>grind
 |W e=>show Perm.refl _
 |I1 e m=>
  show Perm ((n,PV.lst (d9 ds))::(m,R [])::(dL ds++[])) ((n,R (d9 ds))::([(m,R [])]++dL ds));grind
 |I2 e m bs=>show ga _ _ _
def FS:List Fr->List PV->vZ
 |[],_=>[]
 |f::fs,o=>(f.n,R (d9 f.ds++o))::(f.s,R f.sc)::((f.kd.st++dL f.ds)++FS fs [f.op])
def Gw{f g:Fr}(i:f.kd≠.root):Perm (FS (#[g.n,g.s,g.ds++[f.cls],g.kd]::fs) []) ((f.n,R (d9 f.ds))::((f.kd.st++dL f.ds)++FS (g::fs) [f.op])):=by
 have j:(#[g.n,g.s,g.ds++[f.cls],g.kd]:Fr).op=g.op:=by cases g with |mk n s ds kd=>cases kd<;>rfl
 have es:(#[g.n,g.s,g.ds++[f.cls],g.kd]:Fr).sc=g.sc:=by cases g with |mk n s ds kd=>cases kd<;>rfl
 show Perm ((g.n,PV.lst (d9 (g.ds++[f.cls])++[]))::(g.s,R (#[g.n,g.s,g.ds++[f.cls],g.kd]:Fr).sc)::((g.kd.st++dL (g.ds++[f.cls]))++FS fs [(#[g.n,g.s,g.ds++[f.cls],g.kd]:Fr).op])) _;rw[j,es,fg,NP,show d9 (g.ds++[f.cls])=d9 g.ds++[f.op] by rw[d9,eD,map_singleton,aej i],show dL [f.cls]=f.cls.L from fg _];let z:=aek i;have p2:Perm ((f.n,PV.lst (d9 f.ds))::((f.kd.st++dL f.ds)++FS (g::fs) [f.op])) (f.cls.L++FS (g::fs) [f.op]):=z.symm.append_right _;show Perm.trans ?_ p2.symm;have q:Perm ((g.kd.st++(dL g.ds++f.cls.L))++FS fs [g.op]) (f.cls.L++((g.kd.st++dL g.ds)++FS fs [g.op])):=by rw[<-eK,eK (g.kd.st++dL g.ds),<-eK f.cls.L];rw[<-eK];show(kM).append_right _
 show((q.cons _).cons _).trans ((perm_middle.symm.cons _).trans gx.symm)
def mR:FS (f::fs) []=(f.n,R (d9 f.ds))::(f.s,R f.sc)::((f.kd.st++dL f.ds)++FS fs [f.op]):=by show (f.n,PV.lst (d9 f.ds++[]))::_=_;rw[fg]
def Px(j:f.kd≠.root)(h:Holds mu (FS (f::g::fs) [])):Holds mu (FS (#[g.n,g.s,g.ds++[f.cls],g.kd]::fs) []):=by rw[mR]at h;show(h.sub ((f7 _ _).cons₂ _)).perm (Gw j)
def Holds.grow(h:Holds mu L)(X:Mu):Holds (mu++X) L:=#[h.1,λx j=>by rw[jJ (h.lt x j)];show h.2 x j]
inductive UK where
 |root
 |W (e:PV)
 |I1 (e:PV)
 |I2 (e:PV) (b:List af)
abbrev U_:=List af×UK
def Kd.u:Kd->UK
 |.root=>.root
 |.W e=>.W e
 |.I1 e _=>.I1 e
 |.I2 e _ bs=>.I2 e (iM bs)
def Fr.u(f:Fr):U_:=(iM f.ds,f.kd.u)
def UK.close:UK->List af->af
 |.root,_=>.leaf "" []
 |.W e,rs=>.wh e (av rs)
 |.I1 e,rs=>.iff e (av rs) .nil
 |.I2 e b,rs=>.iff e (av b) (av rs)
def Zn{f:Fr}:f.cls.r=f.kd.u.close (iM f.ds):=by let(n,s,ds,kd):=f;cases kd<;>rfl
def yP:List U_->List U_
 |(rs,.I1 e)::us=>([],.I2 e rs)::us
 |(rs,k)::(k_,k')::us=>(k_++[k.close rs],k')::us
 |us=>us
noncomputable def vy (d:Dr):List U_->List U_
 |[]=>[]
 |(rs,k)::us=>match d with
  |.row r=>(rs++[r],k)::us
  |.wh e=>if -us+1<5 then ([],.W e)::(rs,k)::us else (rs++[.wh e .nil],k)::us
  |.iff e=>if -us+1<5 then ([],.I1 e)::(rs,k)::us else (rs++[.iff e .nil .nil],k)::us
def qC(us:List U_)(c:Int)(d:Dr):List U_:=if ((c%8==0)&&decide ((-us:Int)>1))=G then yP us else vy d us
def iq(b:Nat):List Fr->Prop
 |[]=>False
 |[f]=>f.kd=.root/\f.n=b
 |f::g::r=>f.kd≠.root/\iq b (g::r)
abbrev stk(fs:List Fr):List PV:=fs.reverse.map λf=>ZA f.s
def kJ:stk (f::fs)=stk fs++[ZA f.s]:=by grind
def Rb:-(stk fs)=-fs:=by grind
structure St(mu:Mu)(b S t:Nat)(fs:List Fr):Prop where
 h:Holds mu ((S,.lst (stk fs))::FS fs [])
 fit:∀f∈fs,f.fit
 sh:iq b fs
 ln:-fs<=5
 sz:∀f∈fs,-f.ds<=t
def Hx(h:f Y=!(l,Y1))(i:l.pv=ZA n)(j:Y1.mu[n]?=!(!(R ws))):oO f Y=!(Zp (ZI (-ws:Nat)),Y1):=by unfold oO;grind
def aa2{Y Y1:Ev}{mu:Mu}(h1:fo Y=!(o,Y1))(i:o.pv=ZA n)(j:Y1.mu[n]?=!(!(R (ws++[p]))))(e:Y1.mu.set n (!(R ws))=mu):FZ fo Y=!(Zp p,#[Y1.vs,mu]):=by unfold FZ;grind
def aa3(h:f Y=!(Zs p,Y1))(i:-Y1.mu=n):oh f Y=!(Zp (ZA n),#[Y1.vs,Y1.mu++[!p]]):=by unfold oh;rw[h,c9,i]
abbrev ZE(X:PV)(own ls:List Str)(hs:Hd)(ws:List Str)(b S:Nat)(o7 o8:Option Lc)(mu:Mu):Ev:=#[[zS X,zL (SS own),zL (SS ls),zL (gY hs),zL (SS ws),zS (ZA b),zS (ZA S),o7,o8],mu]
abbrev Ba:EF:=aJ (aa 6) (jq (ai 1))
abbrev y3:SF:=aF (rW (An Ba))
 (cC (tT (au eR (oO Ba) (ai 0)) aY)
 (rW (FZ (aa 6)))
 bR)
abbrev dwT:SF:=cC FE
 Fu
 bR
abbrev Zo:SF:=aF Fh
 (aF (ou (aJ Ba (ai 0)) (aa 8))
 dwT)
abbrev GH:SF:=cC FC y3 Zo
section
variable {X:PV}{own ls:List Str}{hs:Hd}{ws:List Str}{b S:Nat}{o7 o8:Option Lc}{mu:Mu}
def Gx(h:mu[S]?=!(!(R (stk (f::fs))))):Ba (ZE X own ls hs ws b S o7 o8 mu)=!(Zp (ZA f.s),ZE X own ls hs ws b S o7 o8 mu):=
 Vj O O O O h (by rw[kJ];show qN _ _)
def Fr.sc_head(f:Fr):∃t,f.sc=ZA f.n::t:=by let(n,s,ds,kd):=f;cases kd<;>show#[_,O]
def ael(h:mu[S]?=!(!(R (stk (f::fs)))))(h2:mu[f.s]?=!(!(R f.sc))):aJ Ba (ai 0) (ZE X own ls hs ws b S o7 o8 mu)=!(Zp (ZA f.n),ZE X own ls hs ws b S o7 o8 mu):=by let(t,j):=f.sc_head;show Vj (Gx h) O O O h2 (by rw[j];show mo)
def Zq(h:mu[S]?=!(!(R (stk fs)))):oO (aa 6) (ZE X own ls hs ws b S o7 o8 mu)=!(Zp (ZI (-fs:Nat)),ZE X own ls hs ws b S o7 o8 mu):=by have:=Hx (f:=aa 6) (Y:=ZE X own ls hs ws b S o7 o8 mu) O O h;rw[Rb]at this;show this
def Zr{t:Nat}(h:Holds mu ((S,R (stk (f::fs)))::FS (f::fs) []))(i:-f.ds<=1000):ou (aJ Ba (ai 0)) (aa 8) (ZE X own ls hs ws b S o7 (zS p) mu)=!(.nx (ZE X own ls hs ws b S o7 (zS p) (mu.set f.n (!(R (d9 f.ds++[p])))))):=by let h1:=h.head;let h2:=h.tail;rw[mR]at h2;show xg (Y2:=ZE X own ls hs ws b S o7 (zS p) mu) (ael h1 h2.tail.head) O h2.head O O h2.head ∅ O
end
def Gy(h:f Y=!(l,Y1)):rW f Y=!(.nx Y1):=by unfold rW;grind
section
variable {X:PV}{own ls:List Str}{hs:Hd}{ws:List Str}{b S t:Nat}{o7 o8:Option Lc}{mu:Mu}
def aa4(h:mu[S]?=!(!(R (stk fs)))):eE vek vga (ZE X own ls hs ws b S (zI c) o8 mu)=!((c%8==0)&&decide ((-fs:Int)>1),ZE X own ls hs ws b S (zI c) o8 mu):=
 nU O (jU (dj (Zq h) O O O O) O)
def Bb(h:iq b (g::fs)):iq b (#[g.n,g.s,d,g.kd]::fs):=by
 cases fs with
 |nil=>show h
 |cons x fs=>show h
def Rc(h:St mu b S t (f::g::fs))(F:f.sc=[ZA f.n])(W:yP ((f::g::fs).map Fr.u)=((g::fs).map Fr.u).modifyHead λu=>(u.1++[f.kd.u.close (iM f.ds)],u.2)):∃j gE,y3 (ZE X own ls hs ws b S o7 o8 mu)=!(.nx (ZE X own ls hs ws b S o7 o8 j))/\St j b S (t+1) gE/\gE.map Fr.u=yP ((f::g::fs).map Fr.u):=by
 let(H,fit,sh,Q,sz):=h;let N:=sh.1;rw[mR,F]at H;let H1:=H.perm (gx (l₁:=[(S,PV.lst (stk (f::g::fs))),(f.n,R (d9 f.ds))])).symm;let H2:=H1.set (q:=R []);have H3:Holds ((mu.set f.s (!(R []))).set S (!(R (stk (g::fs))))) ((S,R (stk (g::fs)))::(f.s,R [])::(f.n,R (d9 f.ds))::((f.kd.st++dL f.ds)++FS (g::fs) [f.op])):=(H2.perm (ga _ _ _)).set;let H4:=H3.sub ((f7 _ _).cons₂ _);let H5:=H4.perm ((Gw N).cons _);show#[(mu.set f.s (!(R []))).set S (!(R (stk (g::fs)))),#[g.n,g.s,g.ds++[f.cls],g.kd]::fs,?_,#[?_,λx z=>?_,Bb sh.2,?_,λx z=>?_],?_]
 . let i:_:=mu.set f.s (!(R []));show aH (Gy (M3 (Gx H.head) O H1.head O)) ?_;show(lR (jU (dj (Hx (Gx H2.tail.head) O H2.head) O O O O) O)).trans (Gy (aa2 (Y1:=ZE X own ls hs ws b S o7 o8 i) (p:=ZA f.s) O O ?_ O));rw[<-kJ];show H2.tail.head
 . have e:stk (#[g.n,g.s,g.ds++[f.cls],g.kd]::fs)=stk (g::fs):=by rw[kJ,kJ]
   rw[e];show H5
 . obtain rfl|z:=bh.mp z
   . let(g1,g2):=fit g (by simp);show#[λd D=>?_,g2];obtain D|D:=d6.mp D
     . show g1 d D
     . rw[gg.mp D];show Ra (fit f (by simp)) N
   . show fit x ∅
 . simp only[db]at Q ⊢;lia
 . obtain rfl|z:=bh.mp z
   . have:=sz g (by simp);simp only[eS,db,e_];lia
   . have:=sz x ∅;lia
 . rw[W];show (iM (g.ds++[f.cls]),g.kd.u)::fs.map Fr.u=(iM g.ds++[f.kd.u.close (iM f.ds)],g.kd.u)::fs.map Fr.u;rw[iM,eD,map_singleton,Zn]
def Yn(h:St mu b S t (f::g::fs)):∃j gE,y3 (ZE X own ls hs ws b S o7 o8 mu)=!(.nx (ZE X own ls hs ws b S o7 o8 j))/\St j b S (t+1) gE/\gE.map Fr.u=yP ((f::g::fs).map Fr.u):=by
 let(n,s,ds,kd):=f;cases kd with
 |root=>show absurd O h.sh.1
 |W e=>show Rc h O O
 |I2 e m bs=>show Rc h O O
 |I1 e m=>
  let(H,fit,sh,Q,sz):=h;let f:Fr:=#[n,s,ds,.I1 e m];let N:Fr:=#[m,s,[],.I2 e n ds];rw[mR]at H;let D:=H;let H1:=D.perm (gx (l₁:=[(S,PV.lst (stk (f::g::fs))),(n,R (d9 ds))])).symm;let H2:=H1.set (q:=R [ZA m]);show#[mu.set s (!(R [ZA m])),N::g::fs,?_,#[?_,λx z=>?_,#[∅,sh.2],Q,λx z=>?_],?_]
  . show aH (Gy (M3 (Gx D.head) O H1.head O)) ?_;show(lU (jU (dj (Hx (Gx H2.tail.head) O H2.head) O O O O) O)).trans O
  . let e:=(kJ (f:=N)).trans (kJ (f:=f) (fs:=g::fs)).symm;rw[mR,e];show Holds _ ((S,R (stk (f::g::fs)))::(m,R [])::(s,R [ZA m])::(n,R (d9 ds))::((dL ds++[])++FS (g::fs) [f.op]));rw[fg];show H2.perm ?_;show(gx (l₁:=[(S,PV.lst (stk (f::g::fs))),(m,R [])])).trans (((ga _ _ _).cons _).cons _)
  . obtain rfl|z:=bh.mp z
    . let(g1,F):=fit f ∅;show#[(λd hd=>(by cases hd)),F,g1]
    . show fit x ∅
  . obtain rfl|z:=bh.mp z
    . show gz _
    . have:=sz x ∅;lia
  . rfl
def aa5(h:Holds mu ((S,R (stk (f::fs)))::FS (f::fs) []))(h2:Holds mu (L++((S,R (stk (f::fs)))::FS (f::fs) [])))(D:d.L=L):Holds (mu.set f.n (!(R (d9 f.ds++[d.p])))) ((S,R (stk (f::fs)))::FS (#[f.n,f.s,f.ds++[d],f.kd]::fs) []):=by
 rw[mR]at h2;have j:Perm ((f.n,PV.lst (d9 f.ds))::(L++((S,R (stk (f::fs)))::(f.s,R f.sc)::((f.kd.st++dL f.ds)++FS fs [f.op])))) (L++((S,R (stk (f::fs)))::(f.n,R (d9 f.ds))::(f.s,R f.sc)::((f.kd.st++dL f.ds)++FS fs [f.op]))):=by have:=(gx (l₁:=L++[(S,PV.lst (stk (f::fs)))]) (a:=(f.n,PV.lst (d9 f.ds))) (l₂:=(f.s,R f.sc)::((f.kd.st++dL f.ds)++FS fs [f.op]))).symm;simpa using this
 let H1:=(h2.perm j).set (q:=R (d9 f.ds++[d.p]));have z:(#[f.n,f.s,f.ds++[d],f.kd]:Fr).op=f.op:=by cases f with |mk n s ds kd=>cases kd<;>rfl
 have es:(#[f.n,f.s,f.ds++[d],f.kd]:Fr).sc=f.sc:=by cases f with |mk n s ds kd=>cases kd<;>rfl
 rw[mR,z,es];rw[show d9 (f.ds++[d])=d9 f.ds++[d.p] by simp[d9],NP,show dL [d]=L by rw[<-D];show fg _];show H1.perm ?_;have q:Perm ((f.kd.st++(dL f.ds++L))++FS fs [f.op]) (L++((f.kd.st++dL f.ds)++FS fs [f.op])):=by rw[<-eK (f.kd.st),<-eK L];show perm_append_comm.append_right _
 let i:=((q.cons (f.s,PV.lst f.sc)).cons (S,PV.lst (stk (f::fs)))).trans ((perm_middle.symm.cons _).trans gx.symm);show(ga _ _ _).trans (i.cons _)
def adu(h:St mu b S t (f::fs))(z:d.fit)(H:Holds hU ((S,R (stk (f::fs)))::FS (#[f.n,f.s,f.ds++[d],f.kd]::fs) [])):St hU b S (t+1) (#[f.n,f.s,f.ds++[d],f.kd]::fs):=by
 let(_,fit,sh,q,sz):=h;show#[?_,λx j=>?_,Bb sh,by simpa using q,λx j=>?_]
 . have e:stk (#[f.n,f.s,f.ds++[d],f.kd]::fs)=stk (f::fs):=by rw[kJ,kJ]
   rw[e];show H
 . obtain rfl|j:=bh.mp j
   . let(F,D):=fit f (by simp);show#[λy i=>?_,D];obtain i|i:=d6.mp i
     . grind
     . grind
   . show fit x ∅
 . obtain rfl|j:=bh.mp j
   . grind
   . have:=sz x ∅;lia
end
section
variable {X:PV}{own ls:List Str}{hs:Hd}{ws:List Str}{b S t:Nat}{o7 o8:Option Lc}{mu:Mu}
def Yo{f F:Fr}(z:F.ds=[])(i:Holds mu (((F.n,R [])::F.kd.st)++((S,R (stk (f::fs)))::FS (f::fs) [])))(hs:F.s=-mu):
 Holds ((mu.set f.n (!(PV.lst (d9 f.ds++[F.op])))++[!(PV.lst F.sc)]).set S (!(PV.lst (stk (F::f::fs))))) ((S,R (stk (F::f::fs)))::FS (F::f::fs) []):=by
 rw[mR]at i;let K:_:=F.kd.st;let A:Nat×PV:=(F.n,R []);let E:Nat×PV:=(f.s,R f.sc);let ZN:_:=(f.kd.st++dL f.ds)++FS fs [f.op];have N:Perm ((f.n,PV.lst (d9 f.ds))::((S,R (stk (f::fs)))::((A::K)++(E::ZN)))) (((F.n,R [])::F.kd.st)++((S,R (stk (f::fs)))::(f.n,R (d9 f.ds))::E::ZN)):=by show Perm.trans ?_ (gx).symm;show(ga _ _ _).trans ((gx).symm.cons _)
 let H1:=(i.perm N).set (q:=R (d9 f.ds++[F.op]));let H2:=H1.push (R F.sc);rw[rV,<-hs]at H2;let B:Nat×PV:=(F.s,R F.sc);let D:Nat×PV:=(f.n,R (d9 f.ds++[F.op]));let Q:=H2.perm (gx (l₁:=[B,D])).symm;let j:=Q.set (q:=R (stk (F::f::fs)));show j.perm (Perm.cons _ ?_);rw[mR,z];show Perm (A::B::((K++[])++(D::E::ZN))) (B::D::((A::K)++(E::ZN)));rw[fg];show(ga _ _ _).trans ((((gx).cons A).trans (ga _ _ _)).cons B)
def wZ:aJ (aa 8) (ai 0) (ZE X own ls hs ws b S o7 (zS (ZB (ZH w::ps))) mu)=!(Zp (ZH w),ZE X own ls hs ws b S o7 (zS (ZB (ZH w::ps))) mu):=
 dG O O O O (λn h=>by cases h) (by show (fO (PV.str w::ps) 0).map _=_;rw[mo];rfl)
def NQ(h:mu[S]?=!(!(R (stk fs)))):eE Fs Fc (ZE X own ls hs ws b S o7 (zS (ZB (ZH w::ps))) mu)=!(jO w&&decide ((-fs:Int)<5),ZE X own ls hs ws b S o7 (zS (ZB (ZH w::ps))) mu):=
 nU (jU (bC wZ O O) O) (jU (dj (Zq h) O O O O) O)
def Ej{d:Dr}(W:iB [ZI c,R (SS own),R (SS ls),R (gY hs),R (SS ws)] mu=!(Zp (d.pv (-mu)),mu++d.cl))(h:St mu b S t (f::fs))(ht:t<=1000)
 (z:d.pv (-mu)=ZB (ZH w::ps)) (hD:D.p=d.pv (-mu)) (N:D.fit) (hL:Holds (mu++d.cl) (D.L++((S,R (stk (f::fs)))::FS (f::fs) []))) (hb:(jO w&&decide ((-(f::fs):Int)<5))=M):
 ∃i Q,Zo (ZE X own ls hs ws b S (zI c) o8 mu)=!(.nx (ZE X own ls hs ws b S (zI c) Q i))/\St i b S (t+1) (#[f.n,f.s,f.ds++[D],f.kd]::fs):=by
 let F:=h.h.grow d.cl;let hz:=h.sz f cS;let C:Option Lc:=zI c;let P:Option Lc:=zS (d.pv (-mu));let q:=aa5 F hL O;rw[hD]at q;show#[(mu++d.cl).set f.n (!(PV.lst (d9 f.ds++[d.pv (-mu)]))),P,?_,adu h N q];show aH (bu (aR O O O O W) O O) ?_;show aH (Zr (t:=t) F ()) ?_;let j:=NQ (X:=X) (own:=own) (ls:=ls) (hs:=hs) (ws:=ws) (b:=b) (o7:=C) (w:=w) (ps:=ps) q.head;rw[hb]at j;rw[show P=zS (ZB (ZH w::ps)) from gs (λx=>!(Lc.sh x)) z,z];rw[z]at j;show(lU j).trans O
def NT{f F:Fr}{d:Dr}(er:iB [ZI c,R (SS own),R (SS ls),R (gY hs),R (SS ws)] mu=!(Zp (d.pv (-mu)),mu++d.cl))(h:St mu b S t (f::fs))(ht:t<=1000)
 (hp:d.pv (-mu)=ZB (ZH w::ps)) (hF:F.ds=[]) (hop:F.op=d.pv (-mu)) (hk:F.fit) (hr:F.kd≠.root) (Q:F.s=-(mu++d.cl)) (hL:Holds (mu++d.cl) (((F.n,R [])::F.kd.st)++((S,R (stk (f::fs)))::FS (f::fs) []))) (hb:(jO w&&decide ((-(f::fs):Int)<5))=G)
 (hc:∀mu:Mu,bU vgc 1 [] (aC 0) bB (aa 0) (ZE X own ls hs ws b S (zI c) (zS F.op) mu)=!(Zs (R F.sc),ZE X own ls hs ws b S (zI c) (zS F.op) mu)):
 ∃D p8,Zo (ZE X own ls hs ws b S (zI c) o8 mu)=!(.nx (ZE X own ls hs ws b S (zI c) p8 D))/\St D b S (t+1) (F::f::fs):=by
 let Hg:=h.h.grow d.cl;let hz:=h.sz f cS;let C:Option Lc:=zI c;let P:Option Lc:=zS F.op;let H5:=Yo hF hL Q;let(_,fit,sh,ln,sz):=h;have N:-(f::fs)<5:=by let h2:=(iF _ _▸hb).2;lia
 let i:_:=(mu++d.cl).set f.n (!(PV.lst (d9 f.ds++[F.op])));have j:i[S]?=!(!(R (stk (f::fs)))):=by
  have ne:f.n≠S:=by let nd:=Hg.1;show λq=>(h_.mp nd).1 (by rw[<-q];show cS)
  rw[rT ne];show Hg.head
 show#[(i++[!(PV.lst F.sc)]).set S (!(PV.lst (stk (F::f::fs)))),P,?_,#[H5,λx z=>?_,#[hr,sh],by simp only[db]at N ⊢;lia,λx z=>?_]]
 . show aH (bu (l:=Zp F.op) (aR O O O O (by rw[hop];show er)) O O) ?_;show aH (Zr (t:=t) Hg ()) ?_;let tt:=NQ (X:=X) (own:=own) (ls:=ls) (hs:=hs) (ws:=ws) (b:=b) (o7:=C) (w:=w) (ps:=ps) j;rw[hb]at tt;have e9:P=zS (ZB (ZH w::ps)):=gs (λx=>!(Lc.sh x)) ∅;have W:eE Fs Fc (ZE X own ls hs ws b S C P i)=!(G,ZE X own ls hs ws b S C P i):=by rw[e9];show tt
   show(lR W).trans ?_;let lt:=(fr.mp j).1;show xg (ws:=stk (f::fs)) (p:=ZA F.s) O O j (aa3 (hc i) ∅) O ?_ ∅ ?_
   . rw[jJ lt];show j
   . rw[<-kJ]
 . obtain rfl|z:=bh.mp z
   . show hk
   . show fit x z
 . obtain rfl|z:=bh.mp z
   . rw[hF];show gz _
   . have:=sz x z;lia
def Yp(j:d.ok)(Q:∀mu,iB [ZI c,R (SS own),R (SS ls),R (gY hs),R (SS ws)] mu=!(Zp (d.pv (-mu)),mu++d.cl))(h:St mu b S t (f::fs))(ht:t<=1000):
 ∃i gE z,Zo (ZE X own ls hs ws b S (zI c) o8 mu)=!(.nx (ZE X own ls hs ws b S (zI c) z i))/\St i b S (t+1) gE/\gE.map Fr.u=vy d ((f::fs).map Fr.u):=by
 have hl:-(fs.map Fr.u)=-fs:=da _;cases d with
 |row r=>
  let hr:=j;obtain⟨w,ps,e,hw⟩:∃w ps,r.pv=ZB (ZH w::ps)/\jO w=M:=by
   cases r with
   |leaf w ps=>show#[w,ps,O,Hu hr.1]
   |call x n as=>show#["call",_,O,by decide +kernel]
   |wh x c=>cases hr
   |iff x c d=>cases hr
  let(i,z,N,D):=Ej (Q mu) h ht e O (aa1 hr) (by rw[show mu++Dr.cl (.row r)=mu from fg _];show h.h) ∅;show#[i,_,z,N,D,?_];show (iM (f.ds++[#[r.pv,r,[]]]),f.kd.u)::fs.map Fr.u=(iM f.ds++[r],f.kd.u)::fs.map Fr.u;rw[iM,eD];rfl
 |wh e=>
  let he:=j;let H1:=h.h.push (R []);by_cases hb:-fs+1<5
  . let(i,z,N,D):=NT (F:=#[-mu,-mu+1,[],.W e]) (Q mu) h ht (w:="while") O O O #[(λd j=>(by cases j)),he] () (by simp[Dr.cl]) H1 (by rw[show jO "while"=G by decide +kernel,Bool.true_and];show lS (by simp only[db];lia)) (λmu=>O)
    show#[i,_,z,N,D,?_];show _=if -(fs.map Fr.u)+1<5 then _ else _
    rw[hl,ax hb];rfl
  . let(i,z,N,D):=Ej (Q mu) h ht (w:="while") O O (V1 (ds:=[]) he λd j=>by cases j) H1 (by rw[show jO "while"=G by decide +kernel,Bool.true_and];show lP (by simp only[db];lia))
    show#[i,_,z,N,D,?_];show _=if -(fs.map Fr.u)+1<5 then _ else _
    rw[hl,a_ hb];show (iM (f.ds++[_]),f.kd.u)::fs.map Fr.u=_;rw[iM,eD];rfl
 |iff e=>
  let he:=j;let GI:=(h.h.push (R [])).push (R []);have D:(mu++[!(PV.lst [])])++[!(PV.lst [])]=mu++Dr.cl (.iff e):=by simp[Dr.cl]
  rw[D,show -(mu++[!(PV.lst [])])=-mu+1 by simp]at GI;let H1:=GI.perm (ga _ _ _);by_cases hb:-fs+1<5
  . let(i,z,N,D):=NT (F:=#[-mu,-mu+2,[],.I1 e (-mu+1)]) (Q mu) h ht (w:="if") O O O #[(λd j=>(by cases j)),he] (by intro q;cases q) (by simp[Dr.cl]) H1 (by rw[show jO "if"=G by decide +kernel,Bool.true_and];show lS (by simp only[db];lia)) (λmu=>O)
    show#[i,_,z,N,D,?_];show _=if -(fs.map Fr.u)+1<5 then _ else _
    rw[hl,ax hb];rfl
  . let(i,z,N,D):=Ej (Q mu) h ht (w:="if") O O (Hw (bs:=[]) (ds:=[]) he (λd j=>by cases j) λd j=>by cases j) H1 (by rw[show jO "if"=G by decide +kernel,Bool.true_and];show lP (by simp only[db];lia))
    show#[i,_,z,N,D,?_];show _=if -(fs.map Fr.u)+1<5 then _ else _
    rw[hl,a_ hb];show (iM (f.ds++[_]),f.kd.u)::fs.map Fr.u=_;rw[iM,eD];rfl
end
def NZ(gN:Nat)(r:af):Prop:=r.ok/\r.dep<=10-2*gN/\r.bl+1<=3*2 ^ (4-gN)
def UK.ok(gN:Nat):UK->Prop
 |.root=>gN=0
 |.W e=>0<gN/\XG e
 |.I1 e=>0<gN/\XG e
 |.I2 e b=>0<gN/\XG e/\∀r∈b,NZ gN r
def vz:List U_->Prop
 |[]=>True
 |u::us=>(∀r∈u.1,NZ (-us) r)/\u.2.ok (-us)/\vz us
def UK.cnt:UK->Nat
 |.root=>0
 |.W _=>1
 |.I1 _=>1
 |.I2 _ b=>fZ b+1
def ir:List U_->Nat
 |[]=>0
 |u::us=>fZ u.1+u.2.cnt+ir us
def Ek{rs:List af}(z:gN<=4)(h:∀r∈rs,NZ gN r):(av rs).ok/\(av rs).dep<=11-2*gN/\(av rs).bl+1<=3*2 ^ (4-gN):=by
 have q:1<=2 ^ (4-gN):=Nat.one_le_two_pow;show#[tE _ λr j=>(h r j).1,zu () _ λr j=>?_,?_]
 . have:=(h r j).2.1;lia
 . have:=Az (n:=3*2 ^ (4-gN)-1) rs λr j=>by have:=(h r j).2.2;lia
   lia
def Jw{k:UK}{rs:List af}(z:gN+1<=4)(hk:k.ok (gN+1))(h:∀r∈rs,NZ (gN+1) r):NZ gN (k.close rs)/\(k.close rs).cnt=fZ rs+k.cnt:=by
 let(j,g2,Q):=Ek z h;have e:2 ^ (4-gN)=2*2 ^ (4-(gN+1)):=by rw[show 4-gN=(4-(gN+1))+1 by lia,Nat.pow_succ,Nat.mul_comm]
 have D:Rows.dep .nil=1:=O;cases k with
 |root=>cases hk
 |W e=>
  show#[#[#[hk.2,j],?_,?_],?_]
  . show (av rs).dep+1<=_;lia
  . show 1+1<=_;lia
  . show (av rs).cnt+1=_;rw[nD];rfl
 |I1 e=>
  show#[#[#[hk.2,j,i7],?_,?_],?_]
  . show max (av rs).dep (Rows.dep .nil)+1<=_;lia
  . show 1+(av rs).bl+0+1<=_;lia
  . show (av rs).cnt+0+1=_;rw[nD];rfl
 |I2 e b=>
  let(F,N,b3):=Ek z hk.2.2;show#[#[#[hk.2.1,F,j],?_,?_],?_]
  . show max (av b).dep (av rs).dep+1<=_;lia
  . show 1+(av b).bl+(av rs).bl+1<=_;lia
  . show (av b).cnt+(av rs).cnt+1=fZ rs+(fZ b+1);rw[nD,nD];lia
def aa6(F:d.ok)(h:vz i)(hl:-i<=5)(hn:i≠[]):vz (vy d i)/\-(vy d i)<=5/\vy d i≠[]/\ir (vy d i)<=ir i+1:=by
 cases i with
 |nil=>grind
 |cons u i=>
  let(rs,k):=u;let(h1,h2,Q):=h;simp only[db]at hl;have hp:1<=2 ^ (4-(-i)):=Nat.one_le_two_pow;have put:∀r:af,NZ (-i) r->r.cnt=1->vz ((rs++[r],k)::i)/\-((rs++[r],k)::i)<=5/\((rs++[r],k)::i)≠[]/\ir ((rs++[r],k)::i)<=ir ((rs,k)::i)+1:=λr q hc=>by
   show#[#[λx D=>?_,h2,Q],(),∅,?_]
   . obtain D|D:=d6.mp D
     . show h1 x D
     . grind
   . show fZ (rs++[r])+k.cnt+ir i<=fZ rs+k.cnt+ir i+1;rw[Ei];have:fZ [r]=r.cnt:=by simp[fZ]
     lia
  have push:∀z:UK,z.ok (-i+1)->z.cnt=1->-i+1<5->vz (([],z)::(rs,k)::i)/\-(([],z)::(rs,k)::i)<=5/\(([],z)::(rs,k)::i)≠[]/\ir (([],z)::(rs,k)::i)<=ir ((rs,k)::i)+1:=λz hk hc j=>by show#[#[λx D=>(by cases D),hk,h1,h2,Q],(),∅,?_];show fZ []+z.cnt+ir ((rs,k)::i)<=_;have:fZ []=0:=O;lia
  cases d with
  |row r=>
   let q:=F;show put r ?_ ?_
   . cases r with
     |leaf w ps=>show#[q,by show 1<=_;lia,by show 1+1<=_;lia]
     |call x n as=>show#[q,by show 1<=_;lia,by show 2+1<=_;lia]
     |wh x c=>cases q
     |iff x c d=>cases q
   . cases r with
     |leaf w ps=>rfl
     |call x n as=>rfl
     |wh x c=>cases q
     |iff x c d=>cases q
  |wh e=>
   by_cases j:-i+1<5
   . rw[vy,ax j];show push (.W e) #[(),F] O j
   . rw[vy,a_ j];show put (.wh e .nil) #[#[F,i7],by show 1+1<=_;lia,by show 1+1<=_;lia] O
  |iff e=>
   by_cases j:-i+1<5
   . rw[vy,ax j];show push (.I1 e) #[(),F] O j
   . rw[vy,a_ j];show put (.iff e .nil .nil) #[#[F,i7,i7],by show max 1 1+1<=_;lia,by show 1+0+0+1<=_;lia] O
def aa7(h:vz j)(F:-j<=5)(hn:-j>1):vz (yP j)/\-(yP j)<=5/\yP j≠[]/\ir (yP j)<=ir j+1:=by
 match j,h,F,hn with
 |(rs,k)::(i,z)::j,h,F,hn=>
  let(h1,h2,N,h4,h5):=h;simp only[db]at F h1 h2;have low:vz ((i++[k.close rs],z)::j)/\-((i++[k.close rs],z)::j)<=5/\((i++[k.close rs],z)::j)≠[]/\ir ((i++[k.close rs],z)::j)<=ir ((rs,k)::(i,z)::j)+1:=by
   let(aS,c2):=Jw () h2 h1;show#[#[λx D=>?_,h4,h5],∅,∅,?_]
   . obtain D|D:=d6.mp D
     . grind
     . grind
   . show fZ (i++[k.close rs])+z.cnt+ir j<=fZ rs+k.cnt+(fZ i+z.cnt+ir j)+1;rw[Ei];have:fZ [k.close rs]=(k.close rs).cnt:=by simp[fZ]
     lia
  cases k with
  |root=>cases h2
  |W e=>show low
  |I2 e b=>show low
  |I1 e=>
   show#[#[λx D=>(by cases D),#[h2.1,h2.2,h1],N,h4,h5],F,(by intro q;cases q),?_];show fZ []+(fZ rs+1)+ir ((i,z)::j)<=fZ rs+1+ir ((i,z)::j)+1;have:fZ []=0:=O;lia
def uw:List U_->List Int->List Dr->List U_
 |us,c::cs,d::ds=>uw (qC us c d) cs ds
 |us,_,_=>us
def Yq(z:d.ok)(h:vz us)(i:-us<=5)(j:us≠[]):vz (qC us c d)/\-(qC us c d)<=5/\qC us c d≠[]/\ir (qC us c d)<=ir us+1:=by
 unfold qC;split
 . rename_i q;show aa7 h i ()
 . show aa6 z h i j
theorem N5:∀(cs:List Int)(ds:List Dr)(i:List U_),(∀d∈ds,d.ok)->vz i->-i<=5->i≠[]->vz (uw i cs ds)/\-(uw i cs ds)<=5/\uw i cs ds≠[]/\ir (uw i cs ds)<=ir i+-cs
 |[],ds=>λi _ h q j=>#[h,q,j,dP _]
 |c::cs,[]=>λi _ h q j=>#[h,q,j,rS _ _]
 |c::cs,d::ds=>λi z h q j=>by let(g1,F,g3,g4):=Yq (z d cS) h q j;let(Q,D,W,k4):=N5 cs ds (qC i c d) (λx N=>z x (d_ _ N)) g1 F g3;show#[Q,D,W,?_];simp only[db];show ir (uw (qC i c d) cs ds)<=_;lia
def Cj(u v:U_):U_:=(v.1++[u.2.close u.1],v.2)
def Bc:List U_->List af
 |[]=>[]
 |u::us=>(us.foldl Cj u).1
theorem Jx:∀(i:List U_)(u:U_),vz (u::i)->-(u::i)<=5->(∀r∈Bc (u::i),NZ 0 r)/\fZ (Bc (u::i))<=ir (u::i)
 |[]=>λu h _=>#[h.1,by show fZ u.1<=fZ u.1+u.2.cnt+0;lia]
 |v::i=>λu h D=>by
  let(h1,h2,z,N,F):=h;simp only[db]at D h1 h2;let(aS,Q):=Jw () h2 h1;let q:=Jx i (Cj u v) #[λx j=>by
   obtain j|j:=d6.mp j
   . grind
   . rw[gg.mp j];show aS,N,F] ∅
  show#[q.1,fA q.2 ?_];show fZ (v.1++[u.2.close u.1])+v.2.cnt+ir i<=fZ u.1+u.2.cnt+(fZ v.1+v.2.cnt+ir i);rw[Ei];have:fZ [u.2.close u.1]=(u.2.close u.1).cnt:=by simp[fZ]
  lia
theorem Jy:∀(fs:List Fr)(f:Fr),Holds mu (FS (f::fs) [])->(∀x∈f::fs,x.fit)->iq b (f::fs)->∃F:Fr,Holds mu (FS [F] [])/\F.fit/\F.n=b/\iM F.ds=Bc ((f::fs).map Fr.u)
 |[]=>λf h i hs=>#[f,h,i f cS,hs.2,O]
 |g::fs=>λf h i hs=>by
  let z:=hs.1;let H:=Px z h;let(F,W,D,k3,Q):=Jy fs #[g.n,g.s,g.ds++[f.cls],g.kd] H (λx q=>by
   obtain rfl|q:=bh.mp q
   . let(g1,N):=i g (by simp);show#[λd j=>?_,N];obtain j|j:=d6.mp j
     . grind
     . rw[gg.mp j];show Ra (i f cS) z
   . show i x ∅) (Bb hs.2)
  show#[F,W,D,k3,Q.trans ?_];show ((fs.map Fr.u).foldl Cj (Fr.u #[g.n,g.s,g.ds++[f.cls],g.kd])).1=((fs.map Fr.u).foldl Cj (Cj f.u g.u)).1;have e:Fr.u #[g.n,g.s,g.ds++[f.cls],g.kd]=Cj f.u g.u:=by show (iM (g.ds++[f.cls]),g.kd.u)=(iM g.ds++[f.kd.u.close (iM f.ds)],g.kd.u);rw[iM,eD,map_singleton,Zn]
  rw[e]
section
variable {X:PV}{own ls:List Str}{hs:Hd}{ws:List Str}
def aa8(hd:d.ok)(er:∀mu,iB [ZI c,R (SS own),R (SS ls),R (gY hs),R (SS ws)] mu=!(Zp (d.pv (-mu)),mu++d.cl))(h:St mu b S t fs)(ht:t<=1000):
 ∃i gE D,GH (ZE X own ls hs ws b S (zI c) o8 mu)=!(.nx (ZE X own ls hs ws b S (zI c) D i))/\St i b S (t+1) gE/\gE.map Fr.u=qC (fs.map Fr.u) c d:=by
 let j:=aa4 (X:=X) (own:=own) (ls:=ls) (hs:=hs) (ws:=ws) (b:=b) (o8:=o8) (c:=c) h.h.head;have q:qC (fs.map Fr.u) c d=if ((c%8==0)&&decide ((-fs:Int)>1))=G then yP (fs.map Fr.u) else vy d (fs.map Fr.u):=by unfold qC;rw[da]
 cases Q:((c%8==0)&&decide ((-fs:Int)>1)) with
 |true=>
  rw[Q]at j q;let h2:=(iF _ _▸Q).2;let z:=of_decide_eq_true h2
  match fs,h,z,j,q with
  |f::g::fs,h,z,j,q=>
   let(i,gE,F,N,W):=Yn h;show#[i,gE,o8,(lR j).trans F,N,W.trans ∅]
  |[f],h,z,j,q=>grind
  |[],h,z,j,q=>grind
 |false=>
  rw[Q]at j q
  match fs,h,j,q with
  |f::fs,h,j,q=>
   let(i,gE,D,F,N,W):=Yp hd er h ht;show#[i,gE,D,(lU j).trans F,N,W.trans ∅]
  |[],h,j,q=>show h.sh.elim
theorem Rf(ho:Sh own)(i:Sh ls)(hh:∀h∈hs,-h.1<=1000/\-h.2<=26/\FN.fn h.1):∀(cs:List Int),∃ds:List Dr,(∀d∈ds,d.ok)/\∀(X:PV)(b S t:Nat)(o7 o8:Option Lc)(mu:Mu)(fs:List Fr),St mu b S t fs->t+-cs<=1000->
 ∃j gE N z,eN (aC 7) GH (cs.map PV.int) (ZE X own ls hs ws b S o7 o8 mu)=!(.nx (ZE X own ls hs ws b S N z j))/\St j b S (t+-cs) gE/\gE.map Fr.u=uw (fs.map Fr.u) cs ds
 |[]=>#[[],λd q=>(by cases q),λX b S t o7 o8 mu fs h _=>#[mu,fs,o7,o8,O,h,O]]
 |c::cs=>by
  let(d,q,er):=adq c ho i hs ws hh;let(ds,D,ih):=Rf ho i hh cs;show#[d::ds,λx W=>?_,λX b S t o7 o8 mu fs h hl=>?_]
  . obtain rfl|W:=bh.mp W
    . show q
    . grind
  . simp only[db]at hl;let(kg,F,q8,e1,e2,e3):=aa8 q er h ();let(Q,fs2,N,z,k1,k2,k3):=ih X b S (t+1) (zI c) q8 kg F e2 ();show#[Q,fs2,N,z,gw O e1 k1,?_,k3.trans (by rw[e3];rfl)];rw[show t+-(c::cs)=t+1+-cs by simp only[db];omega];show k2
def Rg(ho:Sh own)(ot:Sh ls)(hh:∀h∈hs,-h.1<=1000/\-h.2<=26/\FN.fn h.1)(cs:List Int)(hc:-cs<=900):∃rs:Rows,rs.ok/\rs.dep<=11/\rs.bl<=47/\rs.cnt<=-cs/\∀mu,∃j,sJ [R (cs.map PV.int),R (SS own),R (SS ls),R (gY hs),R (SS ws)] mu=!(Zp (R rs.pvs),j):=by
 let(ds,AT,lp):=Rf ho ot hh cs;let(g1,g2,g3,g4):=N5 cs ds [([],.root)] AT #[λx N=>(by cases N),O,i7] () ();obtain⟨u,D,eu⟩:∃u D,uw [([],.root)] cs ds=u::D:=by
  cases h:uw [([],.root)] cs ds with
  |nil=>show absurd h g3
  |cons u D=>show#[u,D,O]
 rw[eu]at g1 g2 g4;let(k1,k2):=Jx D u g1 g2;let(r1,r2,r3):=Ek () k1;show#[av (Bc (u::D)),r1,r2,?_,?_,λmu=>?_]
 . have:3*2 ^ (4-0)=48:=by decide
   lia
 . rw[nD];have:ir [(([],.root):U_)]=0:=O;lia
 . let b:_:=-mu;let q:Mu:=mu++[!(R [])];let i:Mu:=q++[!(R [ZA b])];let z:Mu:=i++[!(R [ZA (-q)])];let f0:Fr:=#[b,-q,[],.root];let X:PV:=R (cs.map PV.int);have H:Holds z ((-i,R [ZA (-q)])::(-q,R [ZA b])::(b,R [])::[]):=((Holds.push (L:=[]) #[oP,λx N=>(by cases N)] _).push _).push _;have st:St z b (-i) 0 [f0]:=#[H.perm ((ga _ _ _).cons _),λx N=>(by
    rw[gg.mp N];show#[λd W=>(by cases W),i7]),#[O,O],(),λx N=>(by
    rw[gg.mp N];show dP _)]
   let(j,gE,p7,p8,e1,Q,e3):=lp X b (-i) 0 J J z [f0] st ();obtain⟨f,fs,ef⟩:∃f fs,gE=f::fs:=by
    cases gE with
    |nil=>show Q.sh.elim
    |cons f fs=>show#[f,fs,O]
   subst ef;let(F,c1,c2,c3,c4):=Jy fs f Q.h.tail Q.fit Q.sh;let e4:=e3.trans eu;rw[e4]at c4;rw[mR]at c1;have res:fQ j 40 (ZA b)=R (av (Bc (u::D))).pvs:=by
    rw[<-c4,<-c3];show Ci c2.1 c1.head (c1.tail.tail.sub ?_) λd W=>?_
    . show(nI _ _).trans (j6 _ _)
    . have:=(k1 d.r (by rw[<-c4];show dA.mpr #[d,W,O])).2.1;lia
   show#[j.map λ_=>J,?_];let A:Mu->Option Lc->Option Lc->Option Lc->Option Lc->Ev:=λm o5 o6 o7 o8=>#[[zS X,zL (SS own),zL (SS ls),zL (gY hs),zL (SS ws),o5,o6,o7,o8],m];show aO (Y:=A (j.map λ_=>J) (zS (ZA b)) (zS (ZA (-i))) p7 p8) ?_;show aH O (aH O (aH (eO (dC O O) e1) (cT (X8 (Y1:=ZE X own ls hs ws b (-i) p7 p8 j) O res))))
end
theorem Bd:∀ps:List PV,(∀p∈ps,f p p=!G)->uQ f ps ps=!G
 |[]=>λ_=>rfl
 |p::ps=>λh=>by show (f p p).bind _=_;rw[h p cS,c9,Bd ps λq i=>h q (d_ _ i)];rfl
def mU(h:∀p∈ps,dH n p p=!G):dH (n+1) (ZB ps) (ZB ps)=!G:=by show (uQ (dH n) ps ps).map _=_;rw[Bd ps h];rw[mS];rfl
def jr(h:∀p∈ps,dH n p p=!G):dH (n+1) (R ps) (R ps)=!G:=by show (if -ps=-ps then uQ (dH n) ps ps else !M)=_;rw[ax O,Bd ps h]
mutual
theorem Rh:∀(p:PV)(n:Nat),di p=G->vo p<=n->dH n p p=!G
 |.non,n,_,h=>by obtain⟨m,rfl⟩:∃m,n=m+1:=#[n-1,by simp only[vo]at h;lia];rfl
 |.bl x,n,_,h=>by obtain⟨m,rfl⟩:∃m,n=m+1:=#[n-1,by simp only[vo]at h;lia];show some (x==x)=_;rw[mS]
 |ZI x,n,_,h=>by obtain⟨m,rfl⟩:∃m,n=m+1:=#[n-1,by simp only[vo]at h;lia];show some (x==x)=_;rw[mS]
 |ZH x,n,_,h=>by obtain⟨m,rfl⟩:∃m,n=m+1:=#[n-1,by simp only[vo]at h;lia];show some (x==x)=_;rw[mS]
 |ZB ps,n,f,h=>by simp only[vo]at h;obtain⟨m,rfl⟩:∃m,n=m+1:=#[n-1,()];show mU (bE ps m () ())
 |R _,n,f,_=>by simp[di]at f
 |.dk _ _,n,f,_=>by simp[di]at f
 |.dt _ _,n,f,_=>by simp[di]at f
 |.obj _ _ _,n,f,_=>by simp[di]at f
 |.df _ _,n,f,_=>by simp[di]at f
 |.dtf _ _,n,f,_=>by simp[di]at f
 |.dx _ _ _,n,f,_=>by simp[di]at f
 |ZA _,n,f,_=>by simp[di]at f
theorem bE:∀(ps:List PV)(n:Nat),ck ps=G->br ps<=n->∀p∈ps,dH n p p=!G
 |[]=>λn _ _ p i=>by cases i
 |q::ps=>λn f h p i=>by
  simp only[ck,iF]at f;simp only[br]at h;obtain e|i:=bh.mp i
  . rw[e];show Rh q n f.1 ()
  . show bE ps n f.2 () p i
end
def ig{f:PV->Prop}(h:f p)(t:∀q∈ps,f q):∀q∈p::ps,f q:=λq i=>by
 obtain rfl|i:=bh.mp i
 . show h
 . grind
def Ck{f:PV->Prop}:∀q∈([]:List PV),f q:=λq j=>by cases j
def jl(h:fl p)(j:20<=n):dH n p p=!G:=Rh p n h.1 (fA h.2 j)
mutual
theorem Yr:∀(r:af)(n:Nat),r.ok->2*r.dep+22<=n->dH n r.pv r.pv=!G
 |.leaf w ps=>λn ok h=>by simp only[af.dep]at h;obtain⟨m,rfl⟩:∃m,n=m+1:=#[n-1,()];show mU (ig (jl iZ ()) (bE ps m ok.2.fls.1 (by have:=ok.2.fls.2;lia)))
 |.call b x i=>λn ok h=>by simp only[af.dep]at h;obtain⟨m,rfl⟩:∃m,n=m+2:=#[n-2,()];show mU (ig () (ig (by let(x,e,_):=ok.1;rw[e];show jl iZ ()) (ig (jl iZ ()) (ig (jr (bE i m (Gm ok.2.2.1).1 (by have:=(Gm ok.2.2.1).2;lia))) Ck))))
 |.wh e b=>λn ok h=>by simp only[af.dep]at h;obtain⟨m,rfl⟩:∃m,n=m+2:=#[n-2,()];show mU (ig () (ig (jl ok.1.fl ()) (ig (jr (cE b m ok.2 ())) Ck)))
 |.iff e b c=>λn ok h=>by simp only[af.dep]at h;obtain⟨m,rfl⟩:∃m,n=m+2:=#[n-2,()];show mU (ig () (ig (jl ok.1.fl ()) (ig (jr (cE b m ok.2.1 ())) (ig (jr (cE c m ok.2.2 ())) Ck))))
theorem cE:∀(rs:Rows)(n:Nat),rs.ok->2*rs.dep+20<=n->∀p∈rs.pvs,dH n p p=!true
 |.nil=>λn _ _ p i=>by cases i
 |.cons r rs=>λn ok h p i=>by
  simp only[Rows.dep]at h;obtain e|i:=bh.mp i
  . rw[e];show Yr r n ok.1 ()
  . show cE rs n ok.2 () p i
end
structure Pg.fine(P:Pg):Prop where
 ok:P.ok
 bx:fls P.boxes
 gr:fls P.grants
 rk:∀f∈P.fns,fl f.rank
 dd:P.rows.dep<=11
 fd:∀f∈P.fns,f.rows.dep<=11
 mn:("main" : Str)∉P.fns.map Fn.name
def aa9{P:Pg}(h:P.fine):eR P.pv P.pv=zS (.bl G):=by
 have e:dH 150 P.pv P.pv=!G:=by show mU (ig (jr (bE _ 148 h.bx.1 (by have:=h.bx.2;lia))) (ig (jr (bE _ 148 h.gr.1 (by have:=h.gr.2;lia))) (ig (jr λp F=>?_) (ig (jr (cE P.rows 148 h.ok.rw (by have:=h.ok.dp;lia))) Ck))));let(f,j,rfl):=dA.mp F;let(xs,ex,_):=h.ok.pm f j;let(D,N):=h.ok.fn f j;show mU (ig (jl iZ ()) (ig (jl (h.rk f j) ()) (ig (jr λq z=>?_) (ig (jr (cE f.rows 146 D ())) Ck))));rw[ex]at z;let(x,_,rfl):=dA.mp z;show mU (ig (jl iZ ()) ())
 show (dH 150 P.pv P.pv).map _=_;rw[e];rfl
def V2(f:α->β)(xs:List α)(lo hi st:Option Int):pk (xs.map f) lo hi st=(pk xs lo hi st).map f:=by unfold pk;rw[da,map_filterMap];grind
def V3(xs:List α)(N:0<=a)(j:0<n):(-(pk xs (!a) J (!n)):Int)*n<=-xs+n-1:=by
 have l:-(pk xs (!a) J (!n))<=-(sliceRange (sliceBounds (!a) J (!n) xs.length).1 (sliceBounds (!a) J (!n) xs.length).2.1 (sliceBounds (!a) J (!n) xs.length).2.2):=length_filterMap_le _ _;generalize (-(pk xs (!a) J (!n)))=z at l ⊢;have q:(sliceBounds (!a) J (!n) (-xs)).2.1=(-xs:Int):=by show (if n>0 then (-xs:Int) else -1)=_;rw[ax j]
 have D:(sliceBounds (!a) J (!n) (-xs)).2.2=n:=O;have F:0<=(sliceBounds (!a) J (!n) (-xs)).1:=by show 0<=(let i:=if a<0 then a+-xs else a;if n>0 then max 0 (min i (-xs)) else max (-1) (min i ((-xs:Int)-1)));rw[ax j];lia
 unfold sliceRange at l;rw[da,i8,q,D,ax j]at l;generalize (sliceBounds (!a) J (!n) (-xs)).1=s at F l
 split at l
 . let h1:=Int.ediv_mul_le ((-xs:Int)-s+n-1) (b:=n) ();have h2:0<=((-xs:Int)-s+n-1)/n:=Int.ediv_nonneg () ();have Q:(z:Int)*n<=((-xs:Int)-s+n-1)/n*n:=Int.mul_le_mul_of_nonneg_right () ();lia
 . have:(z:Int)=0:=()
   rw[this,Int.zero_mul];lia
def oV{α:Type}(xs:List α)(lo hi:Option Int):List α:=(xs.drop (HT.sIx (-xs) 0 lo)).take (HT.sIx (-xs) (-xs) hi-HT.sIx (-xs) 0 lo)
def Cm(f:α->PV)(xs:List α)(lo hi:Option Int):rm (xs.map f) lo hi=(oV xs lo hi).map f:=by unfold rm oV;grind
def N6(xs:List α)(lo hi:Option Int):-(oV xs lo hi)<=-xs:=by unfold oV;rw[i9,nS];lia
def Em{lo hi:Option Int}(h:x∈oV xs lo hi):x∈xs:=mem_of_mem_drop (mem_of_mem_take h)
abbrev HE(c:Int)(nm:List Str)(acc:List PV)(o3 o4:Option Lc)(mu:Mu):Ev:=#[[zI c,zL (SS nm),zO acc,o3,o4],mu]
def y4(j:Int)(z:0<=j)(h:j<4):∃q:Int,0<q/\q<10000/\qG (R [ZI 75,ZI 375,ZI 1875,ZI 9375]) (ZI j)=zI q:=by
 obtain rfl|rfl|rfl|rfl:=(by omega:j=0\/j=1\/j=2\/j=3)
 . show#[75,by decide,by decide,O]
 . show#[375,by decide,by decide,O]
 . show#[1875,by decide,by decide,O]
 . show#[9375,by decide,by decide,O]
def nl:∀n,PV.lst ps≠ZA n:=λn h=>by cases h
def Cp{lo hi:OF}(h1:f Y=!(l,Y1))(i:l.pv=R ps)(h2:lo Y1=!(a,Y2))(j:hi Y2=!(b,Y3)):mF f lo hi Y=!(Zs (R (rm ps a b)),Y3):=by unfold mF;rw[h1,c9,h2,c9,j,c9,i]
def oW(h:f Y=!(l,Y1))(j:l.pv=ZI i):cM f Y=!(!i,Y1):=by unfold cM;rw[h,c9,j]
def aba(q:0<=i)(h1:i< -ns):∃c,ns[i.toNat]?=!c/\qG (R (SS ns)) (ZI i)=zT c:=by let(x,e,j):=uT q (by rw[tB];show h1);rw[eL]at j;let(c,z,rfl):=Option.map_eq_some_iff.mp j;show#[c,z,by show (fO (SS ns) i).map _=_;rw[e];rfl]
def afh(xs:List α)(j:Nat)(D:0<=z)(q:z<5):-(oV xs (!(10+4*(j:Int))) (!(10+4*(j:Int)+z)))<=4:=by unfold oV;rw[i9,nS];have i:HT.sIx (-xs) 0 (!(10+4*(j:Int)))=min (10+4*j) (-xs):=HT.sIx_nat (-xs) 0 (10+4*j);obtain⟨y,rfl⟩:∃y:Nat,z=y:=#[z.toNat,()];have F:HT.sIx (-xs) (-xs) (!(10+4*(j:Int)+(y:Int)))=min (10+4*j+y) (-xs):=HT.sIx_nat (-xs) (-xs) (10+4*j+y);rw[i,F];lia
def Ys(h0:0<=j)(h1:j<4)(hl:-nm=26):∃h:Str×List Str,nm[(6+j).toNat]?=!h.1/\(-h.2<=4/\∀x∈h.2,x∈nm)/\∃z:Int,∀(acc:List PV)(o4:Option Lc)(mu:Mu),-acc<=100->yb (HE c nm acc (zI j) o4 mu)=!(.nx (HE c nm (acc++[ZB [ZH h.1,R (SS h.2)]]) (zI j) (zI z) mu)):=by
 let(q,F,hq1,N):=y4 j h0 h1;let(x,hx,ex):=aba (ns:=nm) (i:=6+j) () ();let z:Int:=c/q%5;let xs:_:=oV nm (!(10+4*j)) (!(10+4*j+z));show#[(x,xs),hx,#[by
  obtain⟨y,rfl⟩:∃y:Nat,j=y:=#[j.toNat,()];show afh nm y () (),λy W=>Em W],z,λacc o4 mu ha=>?_]
 let D:_:=HE c nm acc (zI j) (zI z) mu;show aH (bu (bC (bC O (dG O O O O nl N) (gU F ())) O ()) O O) ?_;show pR O (dm (ls:=[Zp (ZH x),Zs (R (SS xs))]) (aA (dG O O O O nl ex) (aA (Y1:=D) ?_ O)) O O) O O () O;have Q:au bf vfk (aa 4) D=!(Zp (ZI (10+4*j+z)),D):=bC (bC O () O) O O;show(Cp O O () (oW Q O)).trans ?_;rw[Cm]
theorem N7(hl:-nm=26):∀(i:List Int),(∀j∈i,0<=j/\j<4)->∃hs:Hd,hs.map (λh=>!h.1)=i.map (λj=>nm[(6+j).toNat]?)/\(∀h∈hs,h.1∈nm/\-h.2<=4/\∀x∈h.2,x∈nm)/\∀(acc:List PV)(o3 o4:Option Lc)(mu:Mu),-acc+-i<=100->∃F Q,eN (aC 3) yb (i.map PV.int) (HE c nm acc o3 o4 mu)=!(.nx (HE c nm (acc++gY hs) F Q mu))
 |[]=>λ_=>#[[],O,λh N=>(by cases N),λacc o3 o4 mu _=>#[o3,o4,by simp[eN]]]
 |j::i=>λh=>by
  let(h0,h1):=h j cS;let(d,D,py,z,e1):=Ys h0 h1 hl;let(hs,W,N,ih):=N7 hl i λx q=>h x (d_ _ q);show#[d::hs,by rw[fF,fF,W,D],λx q=>?_,λacc o3 o4 mu ha=>?_]
  . obtain rfl|q:=bh.mp q
    . show#[gt D,py]
    . show N x q
  . let(F,Q,e2):=ih (acc++[ZB [ZH d.1,R (SS d.2)]]) (zI j) (zI z) mu ∅;show#[F,Q,gw O (e1 acc o4 mu ()) (e2.trans ?_)];simp[gY]
def Yt(c:Int)(hl:-nm=26)(hx:∀i j:Nat,6<=i->i<j->j<10->nm[i]?≠nm[j]?)(hm:∀i:Nat,6<=i->i<10->nm[i]?≠!("main" : Str)):∃hs:Hd,-hs<=4/\(hs.map (·.1)).Nodup/\("main" : Str)∉hs.map (·.1)/\(∀h∈hs,h.1∈nm/\-h.2<=4/\∀x∈h.2,x∈nm)/\∀mu,vd [ZI c,R (SS nm)] mu=!(Zs (R (gY hs)),mu):=by
 let(hs,l1,hh,lp):=N7 hl ((range (c/15%5).toNat).map λi:Nat=>(0+(i:Int))) λj hj=>by let(i,hi,rfl):=dA.mp hj;have:=mem_range.mp hi;lia
 let l2:=gs length l1;simp only[da,i8]at l2;have nd:(hs.map (·.1)).Nodup:=by
  have n1:(hs.map λh=>!h.1).Nodup:=by rw[l1,fE];show pairwise_map.mpr (List.Pairwise.imp_of_mem (λ{a b} _ hb l q=>?_) pairwise_lt_range);have:=mem_range.mp hb;show hx (6+(0+(a:Int))).toNat (6+(0+(b:Int))).toNat () () () q
  show pairwise_map.mpr ((pairwise_map.mp n1).imp λq e=>q (gs some e))
 have F:("main" : Str)∉hs.map (·.1):=λq=>by let(x,D,z):=dA.mp q;have Q:some ("main" : Str)∈hs.map λh=>!h.1:=dA.mpr #[x,D,by rw[z]];rw[l1,fE]at Q;let(i,hi,e):=dA.mp Q;have:=mem_range.mp hi;show hm (6+(0+(i:Int))).toNat () () e
 show#[hs,(),nd,F,hh,λmu=>?_];let(N,W,e):=lp [] J J mu (by rw[da,i8];simp only[e_];lia);rw[<-Eh,iS]at e;show aO (Y:=#[[zI c,zL (SS nm),J,N,W],mu]) ?_;show aH O (aH (eO ?_ e) O);show mY (aA (bC (bC O O (gU () ())) O (dI ())) O) O () ()
abbrev rk:List PV:=[.non,ZH "low",ZH "high"]
def ox(a:Int):PV:=(rk[(a%3).toNat]?).getD .non
def y6(a:Int):qG (.lst rk) (.int (a%3))=zS (ox a)/\fl (ox a)/\vo (ox a)<=1:=by
 let h0:=kP a (b:=3) ();let h1:=lE a (b:=3) ();unfold ox;generalize a%3=r at h0 h1;obtain rfl|rfl|rfl:=(by omega:r=0\/r=1\/r=2)
 . show#[rfl,Nk,dP _]
 . show#[rfl,iZ,dP _]
 . show#[rfl,iZ,dP _]
def V4:fl (.tup [.str x,.int i,ox a]):=by
 let h:=(y6 a).2;show#[?_,?_]
 . simp[di,ck,h.1.1]
 . simp only[vo,br];lia
theorem GL:∀{l:List PV},(∀p∈l,fl p)->fls l
 |[],_=>uD
 |p::l,h=>iR (h p cS) (GL λq j=>h q (d_ _ j))
structure Zu(m:Nat)(f:Fn):Prop where
 ok:f.rows.ok
 dp:f.rows.dep<=11
 bl:f.rows.bl<=47
 ct:f.rows.cnt*m<=44
 pm:∃xs:List Str,f.params=xs.map (λx=>.tup [.str x,.non])/\-xs<=4/\Sh xs
 rk:fl f.rank
def GN{xs:List Int}(hx:-xs<=40)(l4:-hs<=4)(z:∀h∈hs,-h.1<=100/\-h.2<=4/\Sh h.2/\FN.fn h.1)(ho:Sh own)(F:Sh ls)(h0:0<=j):∃rs:Rows,(rs.ok/\rs.dep<=11/\rs.bl<=47/\rs.cnt*(-hs+1)<=44)/\∃T:Mu->Mu,∀mu,sJ [R (pk (xs.map λx=>PV.int (x%1000000007)) (!j) J (!(-(gY hs)+1))),R (SS own),R (SS ls),R (gY hs),R [ZH "somebody"]] mu=!(Zp (R rs.pvs),T mu):=by
 have ln:(-(gY hs):Int)=-hs:=by rw[da]
 let hl:=V3 xs (n:=-(gY hs)+1) h0 ();rw[V2];generalize pk xs (!j) J (!(-(gY hs)+1))=c2 at hl;have l2:-c2*(-hs+1)<=44:=by
  have e:((-c2*(-hs+1):Nat):Int)=(-c2:Int)*(-(gY hs)+1):=by rw[ln,Int.natCast_mul];rfl
  lia
 let(rs,r1,r2,r3,r4,er):=Rg (ws:=["somebody"]) ho F (λh D=>#[by have:=(z h D).1;lia,by have:=(z h D).2.1;lia,(z h D).2.2.2]) (c2.map λx=>x%1000000007) (by rw[da];lia);rw[da]at r4;rw[fE]at er;show#[rs,#[r1,r2,r3,fA (Nat.mul_le_mul_right _ r4) l2],Classical.axiomOfChoice er]
def aen(xs:List α):-(oV xs (!2) (!42))<=40:=by unfold oV;rw[i9,nS];let j:=HT.sIx_nat (-xs) 0 2;let i:=HT.sIx_nat (-xs) (-xs) 42;lia
theorem Rp:∀fs:List Fn,(∀f∈fs,f.rows.cnt*m<=44)->d8 fs*m<=44*-fs
 |[]=>λ_=>by simp[d8]
 |f::fs=>λh=>by let h1:=h f cS;let h2:=Rp fs λg i=>h g (d_ _ i);simp only[d8,db];lia
def zdJ:qB (R (xs.map e)) a b=zO ((oV xs a b).map e):=by show some (Lc.own (R _))=_;rw[Cm]
end
local macro_rules | `(tactic| walk_at "x")=>`(tactic| first | exact(y6 _).1 | exact zdJ)
local macro_rules | `(tactic| walk_at "y")=>`(tactic| first
 | (with_reducible apply W1); walk_at "e"; exact rfl
 | (with_reducible apply WZ); walk_at "e"; exact rfl; walk_at "e"; walk_at "e"; walk_at "e"; omega
 | (with_reducible apply xH); walk_at "e"; walk_at "n"; (intro _; apply_assumption)
 | (with_reducible apply WV); exact rfl; assumption; walk_at "n")
local macro_rules | `(tactic| walk_at "l")=>`(tactic| (simp only[eS,da,List.length_zipIdx,db,e_]at *; omega))
section
variable [HK][FN]
omit [FN] in
def Tg(ns:List Int)(hl:-ns<=63):∃(F:FN)(P:Pg),P.fine/\(∀n,FN.fn n->∃f∈P.fns,f.name=n)/\∀mu,∃hU,nq [R (ns.map PV.int)] mu=!(Zp P.pv,hU):=by
 suffices h:∃r,(∃(F:FN)(P:Pg),P.fine/\(∀n,FN.fn n->∃f∈P.fns,f.name=n)/\r=Zp P.pv)/\∀mu,∃hU,nq [R (ns.map PV.int)] mu=some (r,hU) by let(_,(F,P,h1,h2,rfl),e):=h;show#[F,P,h1,h2,e]
 have F0:FN:=#[λ_=>True];let(c,_,ec):=cell_eq (ns:=ns) (k:=0) ();let(aS,_,ec1):=cell_eq (ns:=ns) (k:=1) ();let(nm,y7,ub,hnx,hmx,en):=Yk (c:=aS) (n:=26) () ();have y7:-nm=26:=y7;let(hs,lhs,hnd,B7,y8,eh):=Yt c y7 hnx hmx;clear F0;let F:FN:=#[λn=>∃h∈hs,h.1=n];have hh:∀h∈hs,-h.1<=100/\-h.2<=4/\Sh h.2/\F.fn h.1:=λh hm=>#[ub h.1 (y8 h hm).1,(y8 h hm).2.1,λx hx=>ub x ((y8 h hm).2.2 x hx),h,hm,O];let lb:=N6 nm J (!(c%5));let ll:=N6 nm (!4) (!(4+c/5%3));have GO:Sh (oV nm J (!(c%5))):=λx hx=>ub x (Em hx);have GU:Sh (oV nm (!4) (!(4+c/5%3))):=λx hx=>ub x (Em hx);let lx:=aen ns;show W_ λZN K=>?_
 walk_at "f"
 show nh (λv i w n=>∃fs:List Fn,fs.map Fn.name=(hs.take i).map (·.1)/\(∀f∈fs,Zu (-hs+1) f)/\∃(l8 l9:Lc)(y9 y_ zd:Option Lc),l8.pv=R ((oV ns (!2) (!42)).map λx=>PV.int (x%1000000007))/\l9.pv=R [ZH "somebody"]/\w=(((((v.set 8 (!l8)).set 9 (!l9)).set 10 (zO (fs.map Fn.pv))).set 11 y9).set 12 y_).set 13 zd) ?_ ?_ ?_
 . show#[[],O,λf hf=>(by cases hf),_,_,_,_,_,O,O,O]
 . rintro i x _ m N hx cp ⟨fs,n1,fi,l8,l9,y9,y_,zd,h8,h9,rfl⟩;obtain⟨h,hy,rfl⟩:∃h,hs[i]?=!h/\x=PV.tup [ZI (i:Nat),ZB [ZH h.1,R (SS h.2)]]:=by rw[eL,List.getElem?_zipIdx,eL,Option.map_map,Option.map_map]at hx;let(h,hy,rfl):=d4 hx;show#[h,hy,by simp]
   let(g1,g2,g3,_):=hh h (gt hy);let(rs,(r1,r2,r3,r4),T,eT):=GN (own:=oV nm J (!(c%5))++[h.1]++h.2) (ls:=oV nm (!4) (!(4+c/5%3))) (j:=(i:Nat)) lx lhs hh (Gu (Gu GO (xO g1 Ay)) g3) GU ();rw[show SS (oV nm J (!(c%5))++[h.1]++h.2)=List.map PV.str (oV nm J (!(c%5)))++[PV.str h.1]++SS h.2 by simp]at eT;have lf:-fs<=4:=by have:=congrArg List.length n1;rw[da,da,i9]at this;lia
   walk_at "f"
   show cp _ _ #[fs++[#[h.1,ox (c+i),h.2.map λx=>ZB [ZH x,.non],rs]],?_,λf hf=>?_,Zp _,Zp _,zI (i:Nat),zS (ZB [ZH h.1,R (SS h.2)]),zL rs.pvs,O,O,?_]
   . rw[List.take_add_one,hy,eD,eD,n1];rfl
   . obtain hf|hf:=d6.mp hf
     . show fi f hf
     . rw[gg.mp hf];show#[r1,r2,r3,r4,#[h.2,O,g2,g3],(y6 _).2.1]
   . rw[eD];rfl
 . rintro _ m ⟨fs,n1,fi,l8,l9,y9,y_,zd,h8,h9,rfl⟩;rw[da,List.length_zipIdx,da,List.take_length]at n1;let(rs,(r1,r2,r3,r4),T,eT):=GN (own:=oV nm J (!(c%5))) (ls:=oV nm (!4) (!(4+c/5%3))) (j:=-(gY hs)) lx lhs hh GO GU ()
   walk_at "f"
   let lf:=congrArg List.length n1;rw[da,da]at lf;let hfc:=Rp fs λf hf=>(fi f hf).ct;have hct:d8 fs+rs.cnt<=44:=by show Nat.le_of_mul_le_mul_right (c:=-hs+1) ?_ ();rw[Nat.add_mul];lia
   have hmem:∀n,n∈fs.map Fn.name ↔ n∈hs.map (·.1):=λn=>by rw[n1]
   show K _ _ #[F,#[_,_,fs,rs],#[#[λf hf=>#[(fi f hf).ok,by have:=(fi f hf).dp;lia],r1,by show rs.dep<=30;lia,hct,λf hf=>(fi f hf).pm,by show -fs<=4;lia,by show (fs.map Fn.name).Nodup;rw[n1];show hnd,λf hf=>?_],GL λp hp=>?_,#[O,by show (2:Nat)<=20;decide],λf hf=>(fi f hf).rk,r2,λf hf=>(fi f hf).dp,λq=>B7 ((hmem _).mp q)],λn hn=>?_,O]
   . let(h,hm,e):=dA.mp ((hmem _).mp (List.mem_map_of_mem hf));rw[<-e];show(hh h hm).1
   . obtain hp|hp:=d6.mp hp
     . let(a,ha,rfl):=dA.mp hp;let(x,_,e):=dA.mp (List.fst_mem_of_mem_zipIdx ha);rw[<-e];show V4
     . let(a,ha,rfl):=dA.mp hp;show V4
   . let(h,hm,rfl):=hn;let(f,hf,e):=dA.mp ((hmem _).mpr (dA.mpr #[h,hm,O]));show#[f,hf,e]
end
section
variable [HK][FN]
mutual
theorem af.dep_pos:∀r:af,1<=r.dep
 |.leaf _ _=>dP _
 |.call _ _ _=>dP _
 |.wh _ b=>by simp only[af.dep];lia
 |.iff _ b c=>by simp only[af.dep];lia
end
def Rows.nil_of{rs:Rows}(h:rs.dep<=1):rs=.nil:=by
 cases rs with
 |nil=>rfl
 |cons r rs=>
  have:=r.dep_pos;simp only[Rows.dep]at h;lia
def pI(h:a<=b):2 ^ a<=2 ^ b:=Nat.pow_le_pow_right () h
mutual
theorem af.bl_le:∀r:af,r.bl+1<=3*2 ^ ((r.dep-1)/2)
 |.leaf _ _=>by simp only[af.bl,af.dep];decide
 |.call _ _ _=>by simp only[af.bl,af.dep];decide
 |.wh _ b=>by have:1<=2 ^ (((b.dep+1)-1)/2):=Nat.one_le_two_pow;simp only[af.bl,af.dep];lia
 |.iff _ b c=>by
  let F:=Rows.bl_le b;let N:=Rows.bl_le c;simp only[af.bl,af.dep];by_cases h:max b.dep c.dep<=1
  . let q:=Rows.nil_of (rs:=b) ();let j:=Rows.nil_of (rs:=c) ();rw[q,j];decide
  . let D:=pI (a:=(b.dep-2)/2) (b:=(max b.dep c.dep-2)/2) ();let z:=pI (a:=(c.dep-2)/2) (b:=(max b.dep c.dep-2)/2) ();have e:2 ^ ((max b.dep c.dep+1-1)/2)=2*2 ^ ((max b.dep c.dep-2)/2):=by rw[show (max b.dep c.dep+1-1)/2=(max b.dep c.dep-2)/2+1 by lia,Nat.pow_succ,Nat.mul_comm]
    lia
theorem Rows.bl_le:∀rs:Rows,rs.bl+1<=3*2 ^ ((rs.dep-2)/2)
 |.nil=>by  decide
 |.cons r rs=>by let h1:=af.bl_le r;let h2:=Rows.bl_le rs;let q:=pI (a:=(r.dep-1)/2) (b:=(max (r.dep+1) rs.dep-2)/2) ();let j:=pI (a:=(rs.dep-2)/2) (b:=(max (r.dep+1) rs.dep-2)/2) ();simp only[Rows.bl,Rows.dep];lia
end
def oy{r:af}(h:r.dep<=10):r.bl<=47:=by
 let h1:=r.bl_le;let m:=pI (a:=(r.dep-1)/2) (b:=4) ()
 lia
mutual
theorem af.subs:∀r:af,r.ok->∀x∈r.rws,x.ok/\x.dep<=r.dep
 |.leaf w ps=>λok x i=>by rw[gg.mp i];show#[ok,dP _]
 |.call b n z=>λok x i=>by rw[gg.mp i];show#[ok,dP _]
 |.wh e b=>λok x i=>by
  obtain h|h:=bh.mp i
  . grind
  . let(j,q):=Rows.subs b ok.2 x h;show#[j,by simp only[af.dep];lia]
 |.iff e b c=>λok x i=>by
  obtain h|h:=bh.mp i
  . grind
  . obtain h|h:=d6.mp h
    . let(j,q):=Rows.subs b ok.2.1 x h;show#[j,by simp only[af.dep];lia]
    . let(j,q):=Rows.subs c ok.2.2 x h;show#[j,by simp only[af.dep];lia]
theorem Rows.subs:∀rs:Rows,rs.ok->∀x∈rs.rws,x.ok/\x.dep+1<=rs.dep
 |.nil=>λ_ x i=>by cases i
 |.cons r rs=>λok x i=>by
  simp only[Rows.dep];obtain h|h:=d6.mp i
  . let(j,q):=af.subs r ok.1 x h;show#[j,()]
  . let(j,q):=Rows.subs rs ok.2 x h;show#[j,()]
end
theorem N8:∀fs:List Fn,(∀f∈fs,f.rows.ok/\f.rows.dep<=11)->∀x∈lN fs,x.ok/\x.dep<=10
 |[]=>λ_ x i=>by cases i
 |f::fs=>λh x i=>by
  obtain i|i:=d6.mp i
  . let(h1,h2):=h f cS;let(q,z):=Rows.subs f.rows h1 x i;grind
  . show N8 fs (λg j=>h g (d_ _ j)) x i
def Eo{P:Pg}(h:P.fine):∀x∈P.rws,x.ok/\x.dep<=10:=λx j=>by
 obtain j|j:=d6.mp j
 . show N8 P.fns (λf q=>#[(h.ok.fn f q).1,h.fd f q]) x j
 . let(z,D):=Rows.subs P.rows h.ok.rw x j;have:=h.dd;grind
abbrev srt(ss:List Str):List PV:=(pU (uX ss)).map PV.str
theorem Jz:∀j:List Str,BJ (j.map PV.str)=!j
 |[]=>rfl
 |x::j=>by show (BJ (j.map PV.str)).map _=_;rw[Jz j];rfl
def aeo(h:f Y=!(l,Y1))(j:l.pv=R (c7 ss))(i:-ss<64):yw f Y=!(Zs (R (srt ss)),Y1):=by unfold yw;rw[h,c9,j];show ((BJ (ss.map PV.str)).bind _)=_;rw[Jz,c9,ax i]
def Yu(h:kq es k r):k+r.cnt<=-es:=by let(w,D,bl,((q,j,e,z,_),_)):=h;rw[e,eS,eS,af.es_len];lia
structure nv(P:Pg)(k:Nat)(r:af):Prop where
 sp:kq P.es k r
 ok:r.ok
 dp:r.dep<=10
def abd(h:P.fine)(j:P.rws[k]?=!r):nv P k r:=by let(z,q):=Eo h r (gt j);show#[Yj P k r j,z,q]
def yQ(h:P.fine)(H:nv P k r):k+r.cnt<=256:=by let h1:=Yu H.sp;let h2:=es_len P;let j:=h.ok.ct;lia
theorem V7:∀j:List Str,-(uX j)<=-j
 |[]=>dP _
 |x::j=>by have:=V7 j;unfold uX;split<;>simp only[db]<;>lia
def Hy:x∈pU (uX a) ↔ x∈a:=by rw[uf.mem_iff,Am]
theorem yR{α:Type}(i:Ev->Prop)(q:∀Y,i Y->Y.mu=mu)(g r:α->PV):∀(l:List α)(Y:Ev)(acc:List PV),i Y->-acc+-l<=100000->(∀x∈l,∀Y,i Y->∃Y1 y Y2,b (g x) Y=!Y1/\te Y1=!(y,Y2)/\y.pv=r x/\i Y2)->dF b bB te (l.map g) Y acc=!(acc++l.map r,mu)
 |[]=>λY acc h _ _=>by simp[dF,q Y h]
 |x::l=>λY acc h j hs=>by simp only[db]at j;let(Y1,y,Y2,D,F,N,h2):=hs x cS Y h;show fY D F () ((yR i q g r l Y2 (acc++[y.pv]) h2 ∅ λz j=>hs z (d_ _ j)).trans ?_);rw[N];simp
def ww{α:Type}{g r:α->PV}{l:List α}(h:f Y=!(L,Y1))(q:bJ L.pv=!(l.map g))(F:-l<=100000)(i:(ie dE Y1).vs=vs)(D:nT 1 dE (ie dE Y1)=#[J::lh,Y1.mu])
 (z:∀x∈l,te #[zS (g x)::lh,Y1.mu]=!(Zp (r x),#[zS (g x)::lh,Y1.mu])):bU (dh f bJ) 1 dE (aC 0) bB te Y=!(Zs (R (l.map r)),#[vs,Y1.mu]):=by
 let c:=yR (b:=aC 0) (λY=>∃o,Y=#[o::lh,Y1.mu]) (λY ⟨o,e⟩=>by rw[e]) g r l #[J::lh,Y1.mu] [] #[_,O] ∅ λx j Y ⟨o,e⟩=>#[_,_,_,by rw[e];rfl,z x j,O,_,O];rw[<-i];show eF (dC h q) ∅
def Th{α:Type}{j q r:α->PV}{l:List α}(h:f Y=!(L,Y1))(F:L.pv=R (l.map λx=>ZB [j x,q x]))(hz:-l<=100000)(N:(ie dE Y1).vs=vs)(W:nT 2 dE (ie dE Y1)=#[J::J::lh,Y1.mu])
 (D:∀x∈l,te #[zS (j x)::zS (q x)::lh,Y1.mu]=!(Zp (r x),#[zS (j x)::zS (q x)::lh,Y1.mu])):bU (dh f bJ) 2 dE (fC 2 (aW (aC 0) (aW (aC 1) fu))) bB te Y=!(Zs (R (l.map r)),#[vs,Y1.mu]):=by
 let c:=yR (b:=fC 2 D_) (λY=>∃o p,Y=#[o::p::lh,Y1.mu]) (λY ⟨o,p,e⟩=>by rw[e]) (λx=>ZB [j x,q x]) r l #[J::J::lh,Y1.mu] [] #[_,_,O] ∅ λx z Y ⟨o,p,e⟩=>#[_,_,_,by rw[e];rfl,D x z,O,_,_,O];rw[<-N];show eF (dC h (by rw[F];rfl)) ∅
def Hz(h:-a+-b<=100000):bf (R a) (R b)=zO (a++b):=ax h
def Be(h:-a+-b<=100000):bf (ZH a) (ZH b)=zT (a++b):=ax h
abbrev jc(w:Str×Str):PV:=ZB [ZH w.1,ZH w.2]
def Yv(h:Rd n p a):∀(f:Nat)(mu:Mu),n<=f->-a<=100->∃ws:List (Str×Str),ws.map (·.2)=a/\ ni f [p] mu=!(Zs (R (ws.map jc)),mu):=by
 induction h with
 |num n i=>
  intro f mu z _;obtain⟨f,rfl⟩:∃k,f=k+1:=#[f-1,()];show#[[],O,aO (Y:=E1 (ZB [ZH "num",ZI i]) mu) ?_];show d7 () () O
 |box n x=>
  intro f mu z _;obtain⟨f,rfl⟩:∃k,f=k+1:=#[f-1,()];show#[[("box",x)],O,aO (Y:=E1 (ZB [ZH "box",ZH x]) mu) ?_];show(bG () ()).trans ()
 | @at_ n p a x h Q=>
  intro f mu z N;obtain⟨f,rfl⟩:∃k,f=k+1:=#[f-1,()];simp only[db]at N;let(ws,j,F):=Q f mu () ();let D:=gs length j;show#[("list",x)::ws,by rw[fF,j],aO (Y:=E1 (ZB [ZH "@",ZH x,p]) mu) ?_];show(bG () ()).trans ((bG () ()).trans (d7 () () ?_));show cT (dj (p:=R [jc ("list",x)]) O O (aR O O O O F) O (Hz ∅))
 | @op n s p q a b hs h g Q jh=>
  intro f mu z N;obtain⟨f,rfl⟩:∃k,f=k+1:=#[f-1,()];rw[eS]at N;let(ws,j,F):=Q f mu () ();let(us,e3,e4):=jh f mu () ();let D:=gs length j;let W:=gs length e3;rw[da]at D W;show#[ws++us,by rw[eD,j,e3],aO (Y:=E1 (ZB [ZH s,p,q]) mu) ?_];rw[eD];show(bG () hs.1).trans ((bG () hs.2.1).trans ((bG () hs.2.2).trans ?_));show cT (dj (aR O O O O F) O (aR O O O O e4) O (Hz ∅))
def Xa(p:PV)(a:List Str):Prop:=∃n,Rd n p a/\n<=15/\-a<=9/\Sh a
open Classical in
def zA(p:PV):List Str:=if h:∃a,Xa p a then Classical.choose h else []
def xP(h:XG p):Xa p (zA p):=by let(n,a,h):=h;have h:∃a,Xa p a:=#[a,n,h];unfold zA;grind
abbrev ze(p:PV):List Str:=pU (uX (zA p))
def Rq(p:PV):-(ze p)<=-(zA p):=by rw[uf.length_eq];show V7 _
def Py(h:XG p)(mu:Mu):yL [p] mu=!(Zs (R (c7 (ze p))),mu):=by let(n,h1,h2,z,D):=xP h;let(ws,i,q):=Yv h1 40 mu () ();let j:=gs length i;rw[da]at j;show aO (cT (aeo (Th (aR O O O O q) O () O O λx _=>O) ?_ ()));rw[<-i,c7,fE];rfl
def nZ(x:Str):Str:="box " ++ x
abbrev jy(p:PV):List Str:=(ze p).map nZ
def HD:-("box " : Str)=4:=by decide +kernel
def yS(h:XG p)(mu:Mu):iI [p] mu=!(Zs (R (c7 (jy p))),mu):=by
 let(n,h1,h2,q,j):=xP h;let l:=Rq p;show(aO (cT (ww (r:=λx=>ZH (nZ x)) (aR O O O O (Py h mu)) O () O O λx i=>?_))).trans (by rw[c7,fE];rfl);have:=j x (Hy.mp i)
 show Ga O (ax ()) (by rw[HD];lia)
end
noncomputable section
variable [HK][FN]
structure PA(mu:Mu)(n:Nat)(P:Pg):Prop where
 ex:∃N d,mu[n]?=!(!(gf "Plan" (Q0 P.es N (nG d))))/\Tc P.fns d
def PA.pl(h:PA mu n P):jb mu n P.es:=by let(N,d,h,_):=h;show#[N,_,h]
def kO(h1:fo Y=!(x,Y1))(W:x.pv=ZA n)(h2:a Y1=!(ls,Y2))(i:ls.map Lc.pv=ps)(j:g (ZA n::ps) Y2.mu=!(r,nk))(q:jb Y1.mu n es)(D:(["told","lists","heads"]:List Str).contains m=M:=by decide +kernel):cX "Plan" m g fo a Y=!(r,#[Y2.vs,nk]):=by let(N,Q,F):=q;show xG h1 W F D h2 i j
abbrev dw(n k:Nat)(t:List (Option Lc))(mu:Mu):Ev:=#[zS (ZA n)::zI (k:Nat)::t,mu]
def Oa(h:jb mu n es)(he:es[k]?=!e):aJ Eb (aa 1) (dw n k t mu)=!(Zp e.pv,dw n k t mu):=by let(N,j,i):=h;show dG (sZ O O i O) O O O nl ?_;show (fO (fz es) ((k:Nat):Int)).map _=_;rw[Ht he];rfl
def nt:∀n,PV.tup ps≠ZA n:=λn h=>by cases h
def Rr(h:jb mu n es)(he:es[k]?=!e):mL [ZA n,ZI (k:Nat)] mu=!(Zp (ZH e.w),mu):=
 aO (Y:=dw n k [] mu) (cT (dG (Oa h he) O O O nt O))
def Yx(h:jb mu n es)(he:es[k]?=!e):oH [ZA n,ZI (k:Nat)] mu=!(Zp e.ab,mu):=
 aO (Y:=dw n k [] mu) (cT (dG (Oa h he) O O O nt O))
def Ti(h:jb mu n es)(j:-es<=100000):qm [ZA n] mu=!(Zs (R (aU (range (-es)))),mu):=by let(N,q,i):=h;show aO (Y:=#[[zS (ZA n)],mu]) (cT ?_);unfold SN;rw[jN (aA (sZ O O i O) O) O O,c9];show (if 0<=(-(fz es):Int)/\(-(fz es):Int)<=100000 then _ else _)=_;rw[nC,ax ()];rfl
def V8(h:PA mu n P)(i:f∈P.fns):∃xs:List Str,f.params=xs.map (λx=>ZB [ZH x,.non])/\-xs<=4/\Sh xs/\rN [ZA n,ZH f.name] mu=!(Zs (R (c7 xs)),mu):=by let(N,d,F,z):=h;let(p,(xs,Q,j,D,rfl),q):=z f i;show#[xs,Q,j,D,aO (Y:=#[[zS (ZA n),zT f.name],mu]) (cT (jN (ls:=[Zp (R (c7 xs))]) (aA ?_ O) O O))];unfold xt;rw[sZ (C:="Plan") (f:="heads") O O F O,c9];show ((iG ((d.map (·.1)).zip (d.map (·.2))) (.inr f.name)).map _)=_;rw[VH,q];rfl
theorem Ob{K:List aV}:∀{es:List eI}{i j:Nat},j∈pos K i es->j<i+-es
 |[],i,j=>λh=>by cases h
 |e::es,i,j=>λh=>by
  unfold pos at h;have:=@Ob K es (i+1) j
  grind
def adx{K:List aV}(h:j∈pos K 0 es):j5 (oJ 0 es []) K=!(pos K 0 es):=by
 let e:=Cd (K:=K) es 0 [];cases q:j5 (oJ 0 es []) K with
 |none=>grind
 |some l=>rw[q]at e;show gs some e
abbrev KB(w:Str):List aV:=[!(.inr w),J,!(.inl 0)]
open Classical in
def abe(h:jb mu n es):qu [ZA n,ZH w] mu=!(Zs (R (aU (pos (KB w) 0 es))),mu):=by
 let(N,D,j):=h;let E:Ev:=#[[zS (ZA n),zT w],mu];let S:_:=oJ 0 es [];have z:(j5 S (KB w)).getD []=pos (KB w) 0 es:=Cd es 0 [];have g:∃l,yD (jB "Plan" "lists" (aa 0)) ER E=!(l,E)/\l.pv=R (aU ((j5 S (KB w)).getD [])):=by
  unfold yD;rw[sZ (C:="Plan") (f:="lists") O O j O,c9];show ∃l,(if HK.hk=HK.hk then !((match j0 (((pz N S).map (·.1)).zip (S.map λx=>PV.lst (aU x.2))) (KB w) with |some p=>Lc.sh p |none=>Zs (R [])),E) else J)=!(l,E)/\_;rw[ax O,Kq];cases j5 S (KB w) with
  |none=>show#[_,O,O]
  |some l=>show#[_,O,O]
 let(l,i,q):=g;show aO (cT (jN (ps:=[R (aU (pos (KB w) 0 es))]) (Y1:=E) (aA i O) ∅ O))
theorem Ru:∀l:List Nat,tR (dH 150) (ZI (k:Nat)) (aU l)=!(decide (k∈l))
 |[]=>rfl
 |a::l=>by show ((!(((a:Nat):Int)==((k:Nat):Int))).bind λb=>(tR (dH 150) (ZI (k:Nat)) (aU l)).map λc=>b||c)=_;rw[Ru l];show some ((((a:Nat):Int)==((k:Nat):Int))||decide (k∈l))=_;congr 1;grind
end
noncomputable section
variable [HK][FN]
mutual
theorem af.es_w:∀(r:af)(w:Str)(ab:PV)(bl:Int)(k:Nat),∀e∈r.es w ab bl k,e.w=w
 |.leaf _ _=>λw ab bl k e h=>by rw[gg.mp h]
 |.call _ _ _=>λw ab bl k e h=>by rw[gg.mp h]
 |.wh x b=>λw ab bl k e h=>(bh.mp h).elim (λh=>by rw[h]) (Rows.es_w b _ _ _ _ e)
 |.iff x b c=>λw ab bl k e h=>(bh.mp h).elim (λh=>by rw[h]) λh=>(d6.mp h).elim (Rows.es_w b _ _ _ _ e) (Rows.es_w c _ _ _ _ e)
theorem Rows.es_w:∀(rs:Rows)(w:Str)(ab:PV)(bl:Int)(k:Nat),∀e∈rs.es w ab bl k,e.w=w
 |.nil=>λw ab bl k e h=>by cases h
 |.cons r rs=>λw ab bl k e h=>(d6.mp h).elim (af.es_w r _ _ _ _ e) (Rows.es_w rs _ _ _ _ e)
end
theorem zi:∀{fs:List Fn}{k:Nat}{e:eI},e∈qJ fs k->∃b∈kr fs k,e∈b.1.rows.es b.1.name .non 0 b.2
 |[],k,e=>λh=>by cases h
 |f::fs,k,e=>λh=>by
  obtain h|h:=d6.mp h
  . show#[(f,k),cS,h]
  . let(b,j,q):=zi h;show#[b,d_ _ j,q]
theorem oz:∀{fs:List Fn}{k:Nat}{b:Fn×Nat},b∈kr fs k->b.1∈fs/\b.2+b.1.rows.cnt<=k+d8 fs
 |[],k,b=>λh=>by cases h
 |f::fs,k,b=>λh=>by
  simp only[d8];obtain rfl|h:=bh.mp h
  . grind
  . let(h1,h2):=oz h;grind
def rh{P:Pg}(h:P.fine):∀f∈P.fs,f.rows.ok/\f.rows.dep<=11/\-f.name<=100:=λf j=>by
 obtain q|q:=d6.mp j
 . show#[(h.ok.fn f q).1,h.fd f q,h.ok.nl f q]
 . rw[gg.mp q];show#[h.ok.rw,h.dd,by show -("main" : Str)<=100;decide +kernel]
def rj(P:Pg):d8 P.fs=-P.es:=by rw[<-re,BZ]
structure Pl(P:Pg)(k:Nat)(e:eI):Prop where
 at_:P.es[k]?=!e
 he:nv P k e.r
 ab:vp e.ab k
 wl:-e.w<=100
 bo:∃b∈kr P.fs 0,e∈b.1.rows.es b.1.name .non 0 b.2
 si:qy P.es e.w e.ab e.bl k e.r
def Bf{P:Pg}:-P.rws=-P.es:=by unfold Pg.rws;rw[eS,vq,Rows.rws_len,es_len]
def Ku(h:P.fine)(hk:k< -P.es):∃e,Pl P k e/\P.rws[k]?=!e.r:=by rw[<-Bf]at hk;let j:=ge hk;let H:=abd h j;let(w,D,bl,s):=H.sp;let q:=gt s.get;rw[<-re]at q;let(b,z,q):=zi q;show#[#[w,D,bl,P.rws[k]],#[s.get,H,s.ab,(Rows.es_w _ _ _ _ _ _ q).symm▸(rh h _ (oz z).1).2.2,#[b,z,q],s],j]
def Pl.lt(h:Pl P k e):k< -P.es:=(fr.mp h.at_).1
def oX{P:Pg}(h:P.fine):-P.es<=44:=by rw[es_len];show h.ok.ct
def Pl.num(h:Pl P k e):e.ab=.non\/∃j:Nat,e.ab=ZI j:=h.ab.imp id λz44=>by let(j,q,_):=z44;show #[j,q]
def Zv(h:P.fine)(p:Pl P k e)(j:PA mu n P):dJ 40 [ZA n,ZI (k:Nat)] mu=!(Zs (R (c7 (e.r.bt k))),mu):=
 VJ j.pl e.r 40 k e.w e.ab e.bl p.si p.he.ok (by have:=p.he.dp;lia) (by have:=p.he.dp;lia) (yQ h p.he) (by have:=oy p.he.dp;lia)
def ui(p:Pl P k e):-(e.r.bt k)<=47:=fA (e.r.bt_len k) (oy p.he.dp)
def tG(h:aa i Y=!(Zp (ZI (k:Nat)),Y))(hk:k<256)(j:-c<=10):nW c (aa i) Y=!(Zp (ZH (c++lF k)),Y):=by let(h1,h2,_):=Gq k hk;show Ga h h1 ()
def aep{r:af}(ok:r.ok):(∃e b c,r=.iff e b c)\/∃w t,r.pv=ZB (ZH w::t)/\(w== "if")=M:=by
 cases r with
 |leaf w ps=>show YY #[w,ps,O,ok.1.1]
 |call b n q=>show YY #[_,_,O,by decide +kernel]
 |wh e b=>show YY #[_,_,O,by decide +kernel]
 |iff e b c=>show Zl #[e,b,c,O]
def aeq{r:af}(ok:r.ok):(∃e b,r=.wh e b)\/∃w t,r.pv=ZB (ZH w::t)/\(w== "while")=M:=by
 cases r with
 |leaf w ps=>show YY #[w,ps,O,ok.1.2.1]
 |call b n q=>show YY #[_,_,O,by decide +kernel]
 |iff e b c=>show YY #[_,_,O,by decide +kernel]
 |wh e b=>show Zl #[e,b,O]
def pJ(h:aa i Y=!(Zp (ZB (ZH w::t)),Y)):aJ (aa i) (ai 0) Y=!(Zp (ZH w),Y):=
 dG h O O O nt (by show (fO (PV.str w::t) 0).map _=_;rw[mo];rfl)
def uF(h:XG p):-(jy p)<=9:=by let(n,h1,h2,j,q):=xP h;have:=Rq p;rw[da];lia
def mm{α:Type}(f:α->Str×Str)(l:List α):(l.map f).map jc=l.map λy=>jc (f y):=fE ..
end
noncomputable section
variable [HK][FN]
def GV(a b:List Str):c7 (a++b)=c7 a++c7 b:=eD
def zk(a:List Str):-(c7 a)=-a:=da _
def abg(h:l≠[]):∃j∈l,fO (aU l) (-1)=!(ZI (j:Nat)):=by obtain⟨a,j,rfl⟩:∃a j,l=a++[j]:=#[l.dropLast,l.getLast h,(dropLast_concat_getLast h).symm];show#[j,by simp,by rw[aU,eD,map_singleton,qN]]
def abh(h:P.fine)(p:Pl P k e)(N:e.r=.wh x b):∃A:List Str,-A<=56/\∀mu n,PA mu n P->rM [ZA n,ZI (k:Nat)] mu=!(Zs (R (c7 A)),mu):=by
 let ok:=p.he.ok;rw[N]at ok;let lb:=uF ok.1;let l:_:=pos (gI e.w k 0) 0 P.es;let E3:Nat->Mu->List Str->Ev:=λn mu A=>dw n k [zL (aU l),zO (c7 A)] mu;have F:∀mu n,PA mu n P->∀(g:SF) ZN,g (dw n k [zO (aU l),zO (c7 (jy x))] mu)=ZN->(aF (aL 2 (cX "Plan" "block" dZ (aa 0) (aj (aa 1) (aj (ai 0) ao)))) (aF (aL 3 (aN iI (aj (aJ tN (ai 1)) ao))) g)) (dw n k [J,J] mu)=ZN:=λmu n q g ZN i=>by show aH (bu (kO O O O O (Eg q.pl p.at_) q.pl) O O) ?_;let r:=tu q.pl p.at_;rw[N]at r;show aH (bu (aR (aA (dG (kO O O O O r q.pl) O O O nt O) O) O O O (yS ok.1 mu)) O O) i
 by_cases D:l=[]
 . show#[jy x,(),λmu n q=>?_];show aO (Y:=dw n k [zL (aU l),J] mu) (F mu n q _ _ ((bG (Bv O O (by rw[D];rfl)) O).trans O))
 . let(j,Q,W):=abg D;let(z,p2,_):=Ku h (show j< -P.es by have:=Ob Q;lia);let lt:=ui p2;show#[jy x++z.r.bt j,by rw[eS];lia,λmu n q=>?_];show aO (Y:=dw n k [zL (aU l),J] mu) (F mu n q _ _ ((nA (Y2:=E3 n mu (jy x++z.r.bt j)) (Bv O O ?_) O ?_).trans O))
   . cases h:aU l with
     |nil=>show absurd (map_eq_nil_iff.mp h) D
     |cons _ _=>rfl
   . show jZ O (aR (ls:=[Zp (ZA n),Zp (ZI (j:Nat))]) (aA O (aA (dG O O O O nl (by show (fO (aU l) (-1)).map _=_;rw[W];rfl)) O)) O O O (Zv h p2 q)) O O ∅ ?_;show _=dw n k [_,zO (c7 (jy x++z.r.bt j))] mu;rw[GV];rfl
def af.pos_main(r:af)(w:Str)(k:Nat):pos (KB w) k (r.es w .non 0 k)=[k]:=by
 have sub:∀(rs:Rows)(c:Int)(s:Nat),pos (KB w) s (rs.es w (ZI (k:Nat)) c s)=[]:=λrs c s=>Ca λe z q=>by
  have g:∃m:Nat,e.ab=ZI m:=by
   obtain g|⟨m,g,_⟩:=Rows.abs rs w (ZI (k:Nat)) c s e z
   . show#[k,g]
   . show#[m,g]
  let(m,g):=g;unfold eI.key at q;rw[g]at q;cases (cons.inj (cons.inj q).2).1
 cases r with
 |leaf x ps=>show ax O
 |call x n D=>show ax O
 |wh x c=>
  show(ax O).trans ?_;rw[sub]
 |iff x c d=>
  show(ax O).trans ?_;rw[pF,Rows.es_len,sub,sub];rfl
theorem Rows.pos_main:∀(rs:Rows)(w:Str)(k:Nat),pos (KB w) k (rs.es w .non 0 k)=rs.nums k
 |.nil=>λw k=>rfl
 |.cons r rs=>λw k=>by show pos _ k (r.es w .non 0 k++rs.es w .non 0 (k+r.cnt))=_;rw[pF,af.pos_main r w k,af.es_len,Rows.pos_main rs w (k+r.cnt)];rfl
def GW{e:eI}(h:e.w≠w):e.key≠KB w:=λq=>h (by have:=(cons.inj q).1;injection this with this;injection this)
theorem zl:∀(fs:List Fn)(k:Nat),(fs.map Fn.name).Nodup->∀b∈kr fs k,pos (KB b.1.name) k (qJ fs k)=b.1.rows.nums b.2
 |[]=>λk _ b j=>by cases j
 |f::fs=>λk F b j=>by
  let(D,N):=h_.mp F;show pos _ k (f.rows.es f.name .non 0 k++qJ fs (k+f.rows.cnt))=_;rw[pF,Rows.es_len];obtain rfl|j:=bh.mp j
  . rw[Rows.pos_main,Ca λe z=>GW λq=>?_,fg];let(b,h1,h2):=zi z;show D (dA.mpr #[b.1,(oz h1).1,(Rows.es_w _ _ _ _ _ _ h2).symm.trans q])
  . rw[zl fs (k+f.rows.cnt) N b j,Ca λe z=>GW λq=>?_,iS];show D (dA.mpr #[b.1,(oz j).1,((Rows.es_w _ _ _ _ _ _ z).symm.trans q).symm])
def GY{P:Pg}(h:P.fine):(P.fs.map Fn.name).Nodup:=by unfold Pg.fs;rw[eD];show nX.mpr #[h.ok.nd,by simp,λa j b q e=>h.mn ?_];grind
def rz(b:Fn×Nat)(k:Nat):List (Str×Str):=if k=b.1.rows.lnum b.2/\b.1.rows.sp=G then (b.1.rows.lbt b.2).map λy=>(y,"leave " ++ b.1.name) else []
def G0{rs:Rows}(h:rs.dep<=11):rs.bl<=47:=by
 let h2:=rs.bl_le;let m:=pI (a:=(rs.dep-2)/2) (b:=4) ()
 lia
def za7{P:Pg}(h:P.fine)(j:b∈kr P.fs 0):-(rz b k)<=47:=by
 unfold rz;split
 . rw[da];show fA (b.1.rows.lbt_len b.2) (G0 (rh h _ (oz j).1).2.1)
 . grind
def YD(h:P.fine)(p:Pl P k e)(j:b∈kr P.fs 0)(eb:e∈b.1.rows.es b.1.name .non 0 b.2)(D:PA mu n P):lu [ZA n,ZI (k:Nat)] mu=!(Zs (R ((rz b k).map jc)),mu):=by
 let(f,s):=b;let el:=oX h;let ew:=Rows.es_w _ _ _ _ _ _ eb;let si:=yY P _ j;let(fi,fc):=oz j;let(ok,hd,hw):=rh h _ fi;let ok:=ok;let hd:=hd;let fc:=fc;rw[rj]at fc;let hw:=hw;have hl:pos (KB f.name) 0 P.es=f.rows.nums s:=by rw[<-re];show zl P.fs 0 (GY h) _ j
 let bl:=G0 hd;let lb:=f.rows.lbt_len s;have ne:∃r rs,f.rows=.cons r rs:=by
  cases q:f.rows with
  |nil=>rw[show (f,s).1.rows=.nil from q]at eb;cases eb
  |cons r rs=>show#[r,rs,O]
 have ej:fO (aU (f.rows.nums s)) (-1)=!(ZI (f.rows.lnum s:Nat)):=by let(r,rs,er):=ne;let(a,q):=Rows.nums_last r rs s;rw[er,q];show fO (List.map _ (a++[_])) (-1)=_;rw[eD];show qN _ _
 let l:_:=f.rows.nums s;let E3:Ev:=dw n k [zT f.name,zL (aU l)] mu;let G1:=Rr D.pl p.at_;let F:=abe (w:=f.name) D.pl;rw[ew]at G1;rw[hl]at F;have G2:∀(g:SF) ZN,g (dw n k [zT f.name,zO (aU l)] mu)=ZN->(aF (aL 2 (cX "Plan" "home" mL (aa 0) (aj (aa 1) ao))) (aF (aL 3 (cX "Plan" "body" qu (aa 0) (aj (aa 2) ao))) g)) (dw n k [J,J] mu)=ZN:=λg ZN hg=>
  aH (bu (kO O O O O G1 D.pl) O O) (aH (bu (kO (m:="body") O O O O F D.pl) O O) hg)
 have t:tO (tT (au Mq (aJ (aa 3) (jq (ai 1))) (aa 1)) aY) (Br (tT (cX "Plan" "spending" fV (aa 0) (aj (aa 3) ao)) qW)) (dw n k [zT f.name,zO (aU l)] mu)=!(not (((f.rows.lnum s:Nat):Int)==((k:Nat):Int))||not f.rows.sp,E3):=
  rZ (Bv (dj (dG (Y1:=E3) O O O O nl (by show (fO (aU (f.rows.nums s)) (-1)).map _=_;rw[ej];rfl)) O O O O) O O) (Vi (Bv (p:=.bl f.rows.sp) (l:=Zp (.bl f.rows.sp)) (kO (m:="spending") (Y2:=E3) (Y1:=E3) (ps:=[R (aU l)]) O O O O (Pu D.pl si ok () ()) D.pl) O O))
 have l6:-("leave " : Str)=6:=by decide +kernel
 unfold rz;by_cases j:k=f.rows.lnum s/\f.rows.sp=G
 . rw[ax j];let(h1,h2):=j;show _=!(Lc.own (R (((f.rows.lbt s).map λy=>(y,"leave " ++ f.name)).map jc)),mu);rw[mm];show aO (Y:=E3) (G2 _ _ ((bG t (by rw[h1,h2];simp)).trans (cT (ww (Y1:=E3) (L:=Zs (R (c7 (f.rows.lbt s)))) (g:=PV.str) (l:=f.rows.lbt s) (aR (ps:=[ZA n,ZI (k:Nat)]) O O O O ?_) O () O O λy _=>?_))))
   . rw[h1];show ba D.pl f.rows 40 s _ _ _ ne si ok () () () ()
   . show dm (aA O (aA (Ga (l:=Zp (ZH f.name)) (z:=f.name) O (ax ()) ()) O)) O O
 . rw[a_ j];show aO (Y:=E3) (G2 _ _ (d7 t ?_ O));cases hs:f.rows.sp with
   |false=>simp
   |true=>
    have:f.rows.lnum s≠k:=λq=>j #[q.symm,hs];simp;lia
end
section
variable [HK][FN]
abbrev afj:TF:=tT vc aY
def Gz:afj (E1 (ZB (ZH w::ps)) mu)=!(kl (ZB (ZH w::ps)),E1 (ZB (ZH w::ps)) mu):=
 jU (dj w0 O O O O) O
abbrev afk:TF:=tT FH aY
def Wa:afk (E1 (ZB (ZH w::ps)) mu)=!(not (w== "if"),E1 (ZB (ZH w::ps)) mu):=
 jU (bC w0 O O) O
abbrev Oc(n:Nat):EF:=aN (gW n) (aj (aa 0) ao)
mutual
theorem adA:∀(r:af)(f:Nat),r.ok->r.dep<=f->r.cnt<=1000->gW f [r.pv] mu=!(Zp (.bl r.sp),mu)
 |.leaf x ps=>λf ok i z=>by
  obtain⟨m,rfl⟩:∃m,f=m+1:=#[f-1,by simp only[af.dep]at i;lia];let((h1,h2,N),_):=ok;show aO (Y:=E1 (af.leaf x ps).pv mu) ((bG Gz ?_).trans (d7 Wa ?_ O))
  . show (("while" : Str)==x||(("call" : Str)==x||false))=M;rw[xx h2,xx N];rfl
  . rw[h1];rfl
 |.call b m Q=>λf ok i z=>by obtain⟨f,rfl⟩:∃m,f=m+1:=#[f-1,by simp only[af.dep]at i;lia];show aO (Y:=E1 (af.call b m Q).pv mu) (d7 Gz (by show (("while" : Str)== "call" || (("call" : Str)== "call" || false))=G;decide +kernel) O)
 |.wh e b=>λf ok i z=>by obtain⟨f,rfl⟩:∃m,f=m+1:=#[f-1,by simp only[af.dep]at i;lia];show aO (Y:=E1 (af.wh e b).pv mu) (d7 Gz (by show (("while" : Str)== "while" || (("call" : Str)== "while" || false))=G;decide +kernel) O)
 |.iff e b c=>λf ok i z=>by
  simp only[af.dep]at i;simp only[af.cnt]at z;obtain⟨f,rfl⟩:∃m,f=m+1:=#[f-1,()];let P:_:=(af.iff e b c).pv;let q:=Rows.pvs_len b;let W:=Rows.pvs_len c;let sb:=Rows.sps_len b;have j:dF (aC 0) bB (Oc f) (b.pvs++c.pvs) #[[J],mu] []=!((b.sps++c.sps).map PV.bl,mu):=by let(o1,F):=cy b f c.pvs [] J ok.2.1 () (by simp only[e_];lia);let(o2,D):=cy c f [] ([]++b.sps.map PV.bl) o1 ok.2.2 () (by rw[eS,da,e_];lia);rw[fg]at D;rw[F,D];simp[dF]
  show aO (Y:=E1 P mu) ((bG Gz (by show (("while" : Str)== "if" || (("call" : Str)== "if" || false))=M;decide +kernel)).trans ((bG Wa ()).trans (cT ?_)));show jN (aA ((eF (dC (l:=Zs (R (b.pvs++c.pvs))) (dj O O O O ?_) O) j).trans O) O) O ?_
  . show (if -b.pvs+-c.pvs<=100000 then _ else _)=_;rw[ax ()]
  . show ((eq ((b.sps++c.sps).map PV.bl)).map _)=_;rw[show (b.sps++c.sps).map PV.bl=(b.sps++c.sps).map (λb=>PV.bl (id b)) from O,rP,mM,map_id];rw[any_append,Rows.sps_any,Rows.sps_any];rfl
theorem cy:∀(rs:Rows)(n:Nat)(T acc:List PV)(o:Option Lc),rs.ok->rs.dep<=n+1->-acc+rs.cnt<=1000->∃o',dF (aC 0) bB (Oc n) (rs.pvs++T) #[[o],mu] acc=dF (aC 0) bB (Oc n) T #[[o'],mu] (acc++rs.sps.map PV.bl)
 |.nil=>λn T acc o _ _ _=>#[o,by simp[Rows.pvs,Rows.sps]]
 |.cons r rs=>λn T acc o ok q z=>by simp only[Rows.dep]at q;simp only[Rows.cnt]at z;let h1:=r.cnt_pos;let i:=adA (mu:=mu) r n ok.1 () ();let(o',j):=cy rs n T (acc++[.bl r.sp]) (zS r.pv) ok.2 () (by rw[eS];simp only[db,e_];lia);show#[o',fY O (aR O O O O i) () (j.trans ?_)];simp[Rows.sps]
end
abbrev He:=aj (bU (dh (aa 4) bJ) 1 [] (aC 0) bB (Oc 40)) ao
abbrev vcu:=eB Aj He
def abi{rs:Rows}(z:aa i Y=!(Zp (R rs.pvs),Y))(ok:rs.ok)(D:rs.dep<=41)(F:rs.cnt<=1000):tT (eB Aj (aj (bU (dh (aa i) bJ) 1 [] (aC 0) bB (Oc 40)) ao)) qW Y=!(rs.sp,Y):=by let(o',j):=cy rs 40 [] [] J ok D ∅;rw[fg,iS]at j;show jU (l:=Zp (.bl rs.sp)) (jN (aA (eF (dC z O) j) O) O ?_) O;show ((eq (rs.sps.map PV.bl)).map _)=_;rw[show rs.sps.map PV.bl=rs.sps.map (λb=>PV.bl (id b)) from O,rP,mM,map_id];rw[Rows.sps_any]
def af.inn:af->Nat
 |.wh _ b=>b.cnt
 |.iff _ b c=>b.cnt+c.cnt
 |_=>0
def Rows.inn:Rows->Nat
 |.nil=>0
 |.cons r rs=>r.inn+rs.inn
theorem Rows.inn_eq:∀rs:Rows,-rs.pvs+rs.inn=rs.cnt
 |.nil=>rfl
 |.cons r rs=>by let j:=Rows.inn_eq rs;simp only[Rows.pvs,Rows.inn,Rows.cnt,db];cases r<;>simp only[af.inn,af.cnt]<;>lia
abbrev SE(X:PV)(z:Nat)(o2:Option Lc)(mu:Mu):Ev:=#[[zS X,zI (z:Nat),o2],mu]
abbrev Tj:TF:=tT FK aY
def wS:aJ (aa 2) (ai 0) (SE X z (zS (ZB (ZH w::ps))) mu)=!(Zp (ZH w),SE X z (zS (ZB (ZH w::ps))) mu):=
 dG O O O O (λn h=>by cases h) (by show (fO (PV.str w::ps) 0).map _=_;rw[mo];rfl)
def Zw:Tj (SE X z (zS (ZB (ZH w::ps))) mu)=!(jO w,SE X z (zS (ZB (ZH w::ps))) mu):=
 jU (bC wS O O) O
abbrev zn(n:Nat):EF:=aN (dW n) (aj (aa 0) ao)
abbrev zr(n:Nat):SF:=cC Tj
 (aL 1 (au bf (aa 1) (eB DG (aj (bU FI 1 [] (aC 0) bB (zn n)) ao))))
 bR
def Kv{rs:Rows}(i:rs.cnt<=1000)(h:∃o2,eN (aC 2) (zr n) rs.pvs (SE (R rs.pvs) (-rs.pvs) J mu)=!(.nx (SE (R rs.pvs) (-rs.pvs+rs.inn) o2 mu))):dW (n+1) [R rs.pvs] mu=!(Zp (ZI (rs.cnt:Nat)),mu):=by let(o2,h):=h;rw[Rows.inn_eq]at h;show aO (Y:=#[[zL rs.pvs,J,o2],mu]) ?_;show aH O (aH () O)
def abj(h:a<=1000):DG [R [ZI (a:Nat)]]=zI (a:Nat):=by
 have h1:FQ [PV.int (a:Nat)]=![(a:Int)]:=O;have e:[(a:Int)].sum=(a:Int):=by simp
 unfold DG;unfold XX;dsimp only;rw[h1,c9,e,ax (by simp;lia)]
def abk(h:a+b<=2000):DG [R [ZI (a:Nat),ZI (b:Nat)]]=zI ((a+b:Nat):Int):=by
 have h1:FQ [PV.int (a:Nat),PV.int (b:Nat)]=![(a:Int),(b:Int)]:=O;have e:[(a:Int),(b:Int)].sum=((a+b:Nat):Int):=by simp
 unfold DG;unfold XX;dsimp only;rw[h1,c9,e,ax (by simp;lia)]
mutual
theorem adD:∀(r:af)(n:Nat)(X:PV)(z:Nat),r.ok->r.dep<=n->r.cnt<=1000->zr n (SE X z (zS r.pv) mu)=!(.nx (SE X (z+r.inn) (zS r.pv) mu))
 |.leaf x ps=>λn X z ok j D=>by
  have t:Tj (SE X z (!(Zp (af.leaf x ps).pv)) mu)=!(M,SE X z (!(Zp (af.leaf x ps).pv)) mu):=by rw[<-Hu ok.1];show Zw
  show(lU t).trans O
 |.call b m Q=>λn X z ok j D=>by
  have t:Tj (SE X z (!(Zp (af.call b m Q).pv)) mu)=!(M,SE X z (!(Zp (af.call b m Q).pv)) mu):=by rw[show M=jO "call" by decide +kernel];show Zw
  show(lU t).trans O
 |.wh e b=>λn X z ok j D=>by
  simp only[af.cnt]at D;simp only[af.dep]at j;obtain⟨m,rfl⟩:∃m,n=m+1:=#[n-1,()];let N:=Kv () (aE (mu:=mu) b m (R b.pvs) (-b.pvs) J ok.2 () ());have i:dF (aC 0) bB (zn (m+1)) [R b.pvs] #[[J],mu] []=!([ZI (b.cnt:Nat)],mu):=
   fY O (aR O O O O N) () O
  show bu (dj (m:=Zp (ZI (b.cnt:Nat))) O O (jN (aA ((eF (dC O O) i).trans O) O) O ?_) O ?_) O O
  . show abj ()
  . rfl
 |.iff e b c=>λn X z ok j D=>by
  simp only[af.cnt]at D;simp only[af.dep]at j;obtain⟨m,rfl⟩:∃m,n=m+1:=#[n-1,()];let N:=Kv () (aE (mu:=mu) b m (R b.pvs) (-b.pvs) J ok.2.1 () ());let F:=Kv () (aE (mu:=mu) c m (R c.pvs) (-c.pvs) J ok.2.2 () ());have i:dF (aC 0) bB (zn (m+1)) [R b.pvs,R c.pvs] #[[J],mu] []=!([ZI (b.cnt:Nat),ZI (c.cnt:Nat)],mu):=
   fY O (aR O O O O N) ()
    (fY O (aR O O O O F) (by simp only[iS,db,e_];lia) O)
  show(lR (Zw.trans (by rw[show jO "if"=G by decide +kernel]))).trans ?_;show bu (dj (m:=Zp (ZI ((b.cnt+c.cnt:Nat):Int))) O O (jN (aA ((eF (dC O O) i).trans O) O) O ?_) O ?_) O O
  . show abk ()
  . rfl
theorem aE:∀(rs:Rows)(n:Nat)(X:PV)(z:Nat)(o2:Option Lc),rs.ok->rs.dep<=n+1->rs.cnt<=1000->∃p2,eN (aC 2) (zr n) rs.pvs (SE X z o2 mu)=!(.nx (SE X (z+rs.inn) p2 mu))
 |.nil=>λn X z o2 _ _ _=>#[o2,O]
 |.cons r rs=>λn X z o2 ok q D=>by
  simp only[Rows.dep]at q;simp only[Rows.cnt]at D;let i:=adD (mu:=mu) r n X z ok.1 () ();have hi:r.inn<=r.cnt:=by cases r<;>simp only[af.inn,af.cnt]<;>lia
  let(p2,j):=aE rs n X (z+r.inn) (zS r.pv) ok.2 () ();show#[p2,gw O i (j.trans ?_)];simp only[Rows.inn,Nat.add_assoc]
end
def size_eq{rs:Rows}(ok:rs.ok)(j:rs.dep<=40)(i:rs.cnt<=1000):dW 40 [R rs.pvs] mu=!(Zp (ZI (rs.cnt:Nat)),mu):=
 Kv i (aE rs 39 _ _ J ok () i)
def Rows.dl:Rows->Rows
 |.nil=>.nil
 |.cons _ .nil=>.nil
 |.cons r (.cons r' rs)=>.cons r (Rows.cons r' rs).dl
def jj:af->Rows->af
 |r,.nil=>r
 |_,.cons r' rs=>jj r' rs
theorem Bg:∀(r:af)(rs:Rows),(Rows.cons r rs).pvs=(Rows.cons r rs).dl.pvs++[(jj r rs).pv]
 |r,.nil=>rfl
 |r,.cons j rs=>by show r.pv::(Rows.cons j rs).pvs=r.pv::((Rows.cons j rs).dl.pvs++[(jj j rs).pv]);rw[Bg j rs]
theorem Od:∀(r:af)(rs:Rows)(s:Nat),(Rows.cons r rs).lnum s=s+(Rows.cons r rs).dl.cnt
 |r,.nil=>λs=>rfl
 |r,.cons i rs=>λs=>by show (Rows.cons i rs).lnum (s+r.cnt)=s+(r.cnt+(Rows.cons i rs).dl.cnt);rw[Od i rs];lia
theorem Tn:∀(r:af)(rs:Rows),(Rows.cons r rs).ok->(Rows.cons r rs).dl.ok/\(jj r rs).ok
 |r,.nil=>λh=>#[i7,h.1]
 |r,.cons i rs=>λh=>by let(h1,h2):=Tn i rs h.2;show#[#[h.1,h1],h2]
theorem Oe:∀(r:af)(rs:Rows),(Rows.cons r rs).dl.dep<=(Rows.cons r rs).dep/\(jj r rs).dep+1<=(Rows.cons r rs).dep
 |r,.nil=>by simp only[Rows.dl,jj,Rows.dep];lia
 |r,.cons j rs=>by let(h1,h2):=Oe j rs;have e:(Rows.cons r (.cons j rs)).dep=max (r.dep+1) (Rows.cons j rs).dep:=O;have q:(Rows.cons r (.cons j rs)).dl.dep=max (r.dep+1) (Rows.cons j rs).dl.dep:=O;have z:jj r (.cons j rs)=jj j rs:=O;rw[e,q,z];lia
theorem Og:∀(r:af)(rs:Rows),(Rows.cons r rs).dl.cnt+(jj r rs).cnt=(Rows.cons r rs).cnt
 |r,.nil=>by simp[Rows.dl,jj,Rows.cnt]
 |r,.cons j rs=>by let h:=Og j rs;show r.cnt+(Rows.cons j rs).dl.cnt+(jj j rs).cnt=r.cnt+(Rows.cons j rs).cnt;lia
def Oh:rm (l++[x]) J (!(-1))=l:=by
 unfold rm HT.sIx;have:(-1+((-l:Int)+1)).toNat=-l:=()
 grind
def zaZ{rs:Rows}(j:aa i F=!(Zp (R (Rows.cons r rs).pvs),F)):aJ (aa i) (jq (ai 1)) F=!(Zp (jj r rs).pv,F):=
 dG j O O O (λn h=>by cases h) (by show (fO (Rows.cons r rs).pvs (-1)).map _=_;rw[Bg,qN];rfl)
def zba{rs:Rows}(N:aa i F=!(Zp (R (Rows.cons r rs).pvs),F))(D:aa j F=!(Zp (ZI (s:Nat)),F))(ok:(Rows.cons r rs).ok)(q:(Rows.cons r rs).dep<=38)(hc:(Rows.cons r rs).cnt<=900):au bf (aa j) (aN (dW 40) (aj (mF (aa i) eU (cM (jq (ai 1)))) ao)) F=!(Zp (ZI ((Rows.cons r rs).lnum s:Nat)),F):=by let(z,k2):=Tn r rs ok;let(W,k4):=Oe r rs;let Q:=Og r rs;let sz:=size_eq (mu:=F.mu) z () ();have sl:mF (aa i) eU (cM (jq (ai 1))) F=!(Zs (R (Rows.cons r rs).dl.pvs),F):=(Cp N O O ()).trans (by rw[Bg,Oh]);show dj D O (aR (aA sl O) O O O sz) O ?_;rw[Od,Int.natCast_add];rfl
abbrev VE(p:PV)(k:Nat)(acc:List PV)(o3 o4:Option Lc)(mu:Mu):Ev:=#[[zS p,zI (k:Nat),zO acc,o3,o4],mu]
def wV{o3 o4:Option Lc}:aJ (aa 0) (ai 0) (VE (ZB (ZH w::ps)) k acc o3 o4 mu)=!(Zp (ZH w),VE (ZB (ZH w::ps)) k acc o3 o4 mu):=
 dG O O O O (λn h=>by cases h) (by show (fO (PV.str w::ps) 0).map _=_;rw[mo];rfl)
abbrev HA(f:Nat):SF:=aF (cC (tT vcu qW)
 (aL 2 (au bf (aa 2) (aN (eQ f) FV)))
 bR)
 FU
abbrev lbT(f:Nat):SF:=aF (cC xK
 FO
 bR)
 (aF (cC tF
 (aF (aL 3 (au bf (aa 1) (ai 1)))
 (fX FL (aC 4)
 (HA f)))
 bR)
 (gZ 2))
def Kw{r:af}{o3 o4:Option Lc}(hk:k<256)(i:lbT f (VE r.pv k [ZH (jv k)] J J mu)=!(.rt (Zs (R L)) #[[zS r.pv,zI (k:Nat),J,o3,o4],mu])):
 eQ (f+1) [r.pv,ZI (k:Nat)] mu=!(Zs (R L),mu):=by
 let(z,D,j):=Gq k hk;show aO (Y:=#[[zS r.pv,zI (k:Nat),J,o3,o4],mu]) ?_;show aH (bu (pQ (ls:=[Zp (ZH (jv k))]) (aA (dj O O (jN O O j) O ?_) O) O O) O O) i;show (if -("at " : Str)+-(lF k)<=100000 then _ else _)=_;rw[ax ()];rfl
def Rw{rs:Rows}(ok:rs.ok)(q:rs.dep<=38)(W:rs.cnt<=900)(hz:-acc+-(rs.lbt s)<=1000)
 (F:∀r j,rs=.cons r j->eQ f [(jj r j).pv,ZI (rs.lnum s:Nat)] mu=!(Zs (R (c7 (rs.lbt s))),mu)):
 HA f (VE p k acc (zI (s:Nat)) (zL rs.pvs) mu)=!(.nx (VE p k (acc++c7 (if rs.sp then rs.lbt s else [])) (zI ((s+rs.cnt:Nat):Int)) (zL rs.pvs) mu)):=by
 let E:_:=VE p k acc (zI (s:Nat)) (zL rs.pvs) mu;have t:tT (eB Aj He) qW E=!(rs.sp,E):=abi O ok () ();have last:∀z:List PV,aL 3 FR (VE p k z (zI (s:Nat)) (zL rs.pvs) mu)=!(.nx (VE p k z (zI ((s+rs.cnt:Nat):Int)) (zL rs.pvs) mu)):=λz=>by let N:_:=VE p k z (zI (s:Nat)) (zL rs.pvs) mu;show bu (dj O O (aR O O O O (size_eq ok () ())) O ?_) O O;rfl
 cases D:rs.sp with
 |false=>
  rw[D]at t;show(bG t O).trans ((last acc).trans ?_);simp[c7]
 |true=>
  rw[D]at t;cases rs with
  |nil=>cases D
  |cons r j=>
   let i:=F r j O;show(nA t O ?_).trans (last _);show bu (l:=Zs (R (acc++c7 ((Rows.cons r j).lbt s)))) (dj O O (aR (aA (zaZ O) (aA (zba O O ok q W) O)) O O O i) O ?_) O O;show (if -acc+-(c7 ((Rows.cons r j).lbt s))<=100000 then _ else _)=_;rw[ax (by rw[da];lia)]
mutual
theorem HC:∀(r:af)(f k:Nat),r.ok->r.dep<=f->r.dep<=37->k+r.cnt<=256->r.bl<=900->eQ f [r.pv,ZI (k:Nat)] mu=!(Zs (R (c7 (r.bt k))),mu)
 |.leaf x ps=>λf k ok j i q F=>by obtain⟨m,rfl⟩:∃m,f=m+1:=#[f-1,by simp only[af.dep]at j;lia];let((h1,h2,Q),_):=ok;show Kw () ((bG (bw wV) Q).trans ((bG (bw wV) h1).trans O))
 |.call x m as=>λf k ok j i q F=>by
  obtain⟨f,rfl⟩:∃m,f=m+1:=#[f-1,by simp only[af.dep]at j;lia];let(_,hn,_):=ok;let P:_:=(af.call x m as).pv;show Kw () ((nA (Y2:=VE P k [ZH (jv k),ZH ("leave " ++ m)] J J mu) (bw wV) () ?_).trans ((bG (bw wV) ()).trans O));show pR (l:=Zp (ZH ("leave " ++ m))) (Y1:=VE P k [ZH (jv k)] J J mu) O ?_ O O ∅ O;show dj O O O O ?_;show (if -("leave " : Str)+-m<=100000 then _ else _)=_;have h6:-("leave " : Str)=6:=by decide +kernel
  rw[ax ()]
 |.wh x b=>λf k ok j i q F=>by simp only[af.cnt]at q;obtain⟨m,rfl⟩:∃m,f=m+1:=#[f-1,by simp only[af.dep]at j;lia];show Kw () ((bG (bw wV) ()).trans ((bG (bw wV) ()).trans O))
 |.iff x b c=>λf k ok j i q F=>by
  simp only[af.cnt]at q;simp only[af.dep]at j i;simp only[af.bl]at F;obtain⟨m,rfl⟩:∃m,f=m+1:=#[f-1,()];let P:_:=(af.iff x b c).pv;let z:List PV:=[ZH (jv k)];let D:_:=z++c7 (if b.sp then b.lbt (k+1) else []);let N:_:=D++c7 (if c.sp then c.lbt (k+1+b.cnt) else []);let l1:=Rows.lbt_len b (k+1);let l2:=Rows.lbt_len c (k+1+b.cnt);have yT:-D<=1+b.bl:=by simp only[D,z,eS,da,db];split<;>(try simp only[e_])<;>lia
  let e1:=Rw (k:=k) (p:=P) (acc:=z) (s:=k+1) ok.2.1 () () (by simp only[z,db,e_];lia) λr rs e=>by have:=cv (mu:=mu) b m (k+1) ok.2.1 () () () ();show this r rs e
  let W:=Rw (k:=k) (p:=P) (acc:=D) (s:=k+1+b.cnt) ok.2.2 () () () λr rs e=>by have:=cv (mu:=mu) c m (k+1+b.cnt) ok.2.2 () () () ();show this r rs e
  let o3:Option Lc:=zI ((k+1+b.cnt+c.cnt:Nat):Int);let o4:Option Lc:=zL c.pvs;show Kw (o3:=o3) (o4:=o4) () ((bG (bw wV) ()).trans ((nA (Y2:=VE P k N o3 o4 mu) (bw wV) () ?_).trans ?_))
  . show aH (bu (l:=Zp (ZI ((k+1:Nat):Int))) (dj O O O O (by rw[Int.natCast_add];rfl)) O O) ?_;show eO (dC O O) ?_;show Np O e1 O W
  . have eA:N=c7 ((af.iff x b c).bt k):=by simp only[N,D,z,af.bt,c7,eD,fF,nV]
    rw[<-eA];rfl
theorem cv:∀(rs:Rows)(f s:Nat),rs.ok->rs.dep<=f+1->rs.dep<=38->s+rs.cnt<=256->rs.bl<=900->∀r i,rs=.cons r i->eQ f [(jj r i).pv,ZI (rs.lnum s:Nat)] mu=!(Zs (R (c7 (rs.lbt s))),mu)
 |.nil=>λf s _ _ _ _ _ r i e=>by cases e
 |.cons r .nil=>λf s ok D j W z _ _ e=>by cases e;simp only[Rows.dep,Rows.cnt,Rows.bl]at D j W z;show HC r f s ok.1 () () () ()
 |.cons r (.cons r' rs)=>λf s ok D j W z _ _ e=>by
  cases e;let N:=fA (Nat.le_max_right _ _) D;let q:=fA (Nat.le_max_right _ _) j;let Q:=fA (Nat.le_max_right _ _) z;have F:s+r.cnt+(Rows.cons r' rs).cnt<=256:=by have:(Rows.cons r (.cons r' rs)).cnt=r.cnt+(Rows.cons r' rs).cnt:=O;lia
  show cv (.cons r' rs) f (s+r.cnt) ok.2 N q F Q r' rs O
end
end
noncomputable section
variable [HK][FN]
theorem uG{α:Type}(g:α->PV)(q:List α->Ev->Prop):∀(l i:List α)(Y:Ev),q i Y->(∀j x,-j< -i+-l->x∈l->∀Y,q j Y->∃Y1 Y2,b (g x) Y=!Y1/\body Y1=!(.nx Y2)/\q (j++[x]) Y2)->∃Y',eN b body (l.map g) Y=!(.nx Y')/\q (i++l) Y'
 |[]=>λi Y h _=>#[Y,O,by rw[fg];show h]
 |x::l=>λi Y h hs=>by simp only[db]at hs;let(Y1,Y2,F,N,h2):=hs i x () cS Y h;let(Y',Q,z):=uG g q l (i++[x]) Y2 h2 λp y W D=>hs p y ∅ (d_ _ D);show#[Y',gw F N Q,by rw[eK]at z;show z]
abbrev S3:=Str×Str×Str
noncomputable abbrev mV (y:S3):PV:=ZB [ZH y.1,ZH y.2.1,ZH y.2.2]
def pK{α β:Type}(f:α->List β)(l:List α)(x:α):(l++[x]).flatMap f=l.flatMap f++f x:=by simp
def vB(x:Str)(e:PV):List S3:=(jy e).map λb=>("value",b,nZ x)
def GC(h:XG e):-(vB x e)<=9:=by unfold vB;rw[da];show uF h
def gB(k:Nat)(x:Str)(es:List PV):List S3:=("done","at " ++ lF k,nZ x)::es.flatMap (vB x)
def Zx(h:aa i Y=!(Zp (ZH x),Y))(j:-x<=100):nW "box " (aa i) Y=!(Zp (ZH (nZ x)),Y):=
 Ga h (ax ()) (by rw[HD];lia)
def En(hk:k<256)(q:-x<=100)(he:∀e∈es,XG e)(Q:-es<=26):lr [ZI (k:Nat),ZH x,R es] mu=!(Zs (R ((gB k x es).map mV)),mu):=by
 let D:S3:=("done","at " ++ lF k,nZ x);let E:List S3->Option Lc->Ev:=λA o=>#[[zI (k:Nat),zT x,zL es,zO ((D::A).map mV),o],mu];let(Y',F,o,rfl,_):=uG (b:=aC 4) (body:=gb 3 EQ) id (λi Y=>∃o,Y=E (i.flatMap (vB x)) o/\-(i.flatMap (vB x))<=9*-i) es [] (E [] J) #[J,O,dP _] λi e z j Y W=>by
  let(o,fH,hz):=W
  subst fH;simp only[e_]at z;let N:=GC (x:=x) (he e j);show#[E (i.flatMap (vB x)) (zS e),E ((i++[e]).flatMap (vB x)) (zS e),O,?_,_,O,by rw[pK,eS,eS];simp only[db];lia];rw[pK];show jZ O (ww (r:=λb=>mV ("value",b,nZ x)) (aR O O O O (yS (he e j) mu)) O (by have:=uF (he e j);lia) O O λb _=>?_) O O ?_ ?_
  . show dm (aA O (aA O (aA (Zx O q) O))) O O
  . have:=uF (he e j);simp only[da,db]at this hz ⊢;lia
  . show (#[[_,_,_,!(Zs (R ((D::i.flatMap (vB x)).map mV++(jy e).map λb=>mV ("value",b,nZ x)))),_],mu]:Ev)=#[[_,_,_,zO ((D::(i.flatMap (vB x)++vB x e)).map mV),_],mu];unfold vB;simp only[fF,eD,fE];rfl
 rw[map_id,iS]at F;show aO (Y:=#[[zI (k:Nat),zT x,zL es,J,o],mu]) (aH (bu (pQ (aA (dm (aA O (aA (tG O hk ()) (aA (Zx O q) O))) O O) O) O O) O O) (aH () O))
def zt:∀y∈gB k x es,(y.1== "turns")=M:=λy hy=>by
 obtain rfl|hy:=bh.mp hy
 . show (("done" : Str)== "turns")=M;decide +kernel
 . let(e,_,q):=List.mem_flatMap.mp hy;let(b,_,rfl):=dA.mp q;show (("value" : Str)== "turns")=M;decide +kernel
end
noncomputable section
variable [HK][FN]
abbrev dT(k:Nat)(y:Str):PV:=ZB [ZI (k:Nat),ZI 0,ZH "turns",ZH y,ZH ("at " ++ lF k)]
def map_two{α β γ:Type}(f:α->β)(g:β->γ)(l:List α)(o:List β):(l.map f++o).map g=(l.map λx=>g (f x))++o.map g:=by grind
theorem Zy:∀(xs:List Str)(j:List PV),uW (c7 xs) j=(xs.zip j).map λz=>ZB [ZH z.1,z.2]
 |[],j=>rfl
 |x::xs,[]=>rfl
 |x::xs,a::j=>by show _::uW (c7 xs) j=_;rw[Zy xs j];rfl
def aes(h1:f Y=!(x,Y1))(i:x.pv=R ps)(h2:g Y1=!(y,Y2))(j:y.pv=R qs):Km f g Y=!(uW ps qs,Y2):=by unfold Km;grind
abbrev cB(k:Nat)(z:Str×PV):List S3:=gB k z.1 [z.2]
def Oi(h:XG z.2):-(cB k z)<=10:=by have:=GC (x:=z.1) h;simp[gB];grind
structure Dn(P:Pg)(k:Nat)(e:eI)(B:List S3):Prop where
 lB:-B<=41
 nt:∀y∈B,(y.1== "turns")=false
 told:∀mu n,PA mu n P->qt [.ptr n,.int (k:Nat)] mu=!(.own (.lst (B.map mV)),mu)
def abl:km [ZB [ZH "set",x,e]] mu=!(Zs (R [e]),mu):=
 aO (Y:=E1 (ZB [ZH "set",x,e]) mu) ((bG () ()).trans ((bG () ()).trans ((bG () ()).trans O)))
def abm:km [ZB [ZH "put",x,e,f]] mu=!(Zs (R [e,f]),mu):=
 aO (Y:=E1 (ZB [ZH "put",x,e,f]) mu) ((bG () ()).trans ())
def xR(p:Pl P k e)(j:PA mu n P)(q:g (dw n k [zS e.r.pv,J,J,J] mu)=ZN):aF (aL 2 (cX "Plan" "row" dY (aa 0) (aj (aa 1) ao))) g (dw n k [J,J,J,J] mu)=ZN:=
 aH (bu (kO O O O O (tu j.pl p.at_) j.pl) O O) q
section
variable {P:Pg}{k:Nat}{e:eI}
def adH(p:Pl P k e)(hk:k<256)(er:e.r.pv=.tup [.str "set",.str x,a])(hx:-x<=100)(ha:XG a):Dn P k e (gB k x [a]):=by
 have he:∀y∈[a],XG y:=λy hy=>by rw[gg.mp hy];show ha
 show#[fA (Oi (z:=(x,a)) ha) (),zt,λmu n pa=>?_]
 . show aO (Y:=dw n k [!(.sh (.tup [.str "set",.str x,a])),none,none,none] mu) (xR p pa ?_);rw[er];show d7 (rZ (bw (pJ rfl)) ()) () (cT (aR (aA rfl (aA rfl (aA (aR rfl rfl rfl rfl abl) rfl))) rfl rfl rfl (En hk hx he ())))
def adI(p:Pl P k e)(hk:k<256)(er:e.r.pv=.tup [.str "put",.str x,a,b])(hx:-x<=100)(ha:XG a)(hb:XG b):Dn P k e (gB k x [a,b]):=by
 have he:∀y∈[a,b],XG y:=λy hy=>by
  obtain rfl|hy:=bh.mp hy
  . show ha
  . grind
 let l1:=GC (x:=x) ha;let l2:=GC (x:=x) hb;show#[by simp[gB];lia,zt,λmu n pa=>?_]
 . show aO (Y:=dw n k [!(.sh (.tup [.str "put",.str x,a,b])),none,none,none] mu) (xR p pa ?_);rw[er];show d7 (rZ (bw (pJ rfl)) ()) () (cT (aR (aA rfl (aA rfl (aA (aR rfl rfl rfl rfl abm) rfl))) rfl rfl rfl (En hk hx he ())))
def adJ(p:Pl P k e)(hk:k<256)(er:e.r.pv=.tup [.str "out",.str x,a,.str y])(hx:-x<=100)(ha:XG a):∃B,Dn P k e B:=by
 let lb:=uF ha;let ZY:List S3:=[("out","out " ++ lF k,nZ x),("done","at " ++ lF k,nZ x)];let fB:Str->S3:=λb=>("let",b,"let " ++ lF k);show#[(jy a).map fB++ZY,by simp only[eS,da,ZY,db,e_]at lb ⊢;lia,λz hz=>?_,λmu n pa=>?_]
 . obtain hz|hz:=d6.mp hz
   . let(b,_,rfl):=dA.mp hz;show (("let" : Str)== "turns")=false;decide +kernel
   . obtain rfl|hz:=bh.mp hz
     . show (("out" : Str)== "turns")=false;decide +kernel
     . rw[gg.mp hz];show (("done" : Str)== "turns")=false;decide +kernel
 . let r:PV:=.tup [.str "out",.str x,a,.str y];let E3:Option Lc->Ev:=λo=>dw n k [zS r,o,none,none] mu;show aO (Y:=E3 (zL ((jy a).map λb=>mV (fB b)))) (xR p pa ?_);rw[er];show(bG (rZ (bw (pJ rfl)) (bw (pJ rfl))) ()).trans (d7 (bw (pJ rfl)) () (aH (bu (ww (r:=λb=>mV (fB b)) (aR rfl rfl rfl rfl (yS ha mu)) rfl () rfl rfl λb _=>?_) rfl rfl) (cT ?_)))
   . show dm (aA rfl (aA rfl (aA (tG rfl hk ()) rfl))) rfl rfl
   . let Ef:_:=E3 (zL ((jy a).map λb=>mV (fB b)));have bo:au bf (c6 "box ") (aJ (aa 2) (ai 1)) Ef=!(.sh (.str (nZ x)),Ef):=dj rfl rfl rfl rfl (Be (by rw[HD];lia));rw[map_two];show dj rfl rfl (pQ (aA (dm (aA rfl (aA (tG rfl hk ()) (aA bo rfl))) rfl rfl) (aA (dm (aA rfl (aA (tG rfl hk ()) (aA bo rfl))) rfl rfl) rfl)) rfl rfl) rfl (Hz (by simp only[da,ZY,db,e_]at lb ⊢;lia))
def Zz(p:Pl P k e)(hk:k<256)(er:e.r.pv=.tup (.str w::t))(hw:(w== "set")=false/\(w== "put")=false/\(w== "out")=false/\(w== "call")=false):Dn P k e []:=by
 let(h1,h2,h3,h4):=hw;show#[gz _,λy hy=>(by cases hy),λmu n pa=>?_]
 . show aO (Y:=dw n k [zS (.tup (.str w::t)),none,none,none] mu) (xR p pa ?_);rw[er];show(bG (rZ (bw (pJ rfl)) (bw (pJ rfl))) ∅).trans ((bG (bw (pJ rfl)) h3).trans ((bG (bw (pJ rfl)) h4).trans rfl))
end
end
noncomputable section
variable [HK][FN]
theorem Rx:∀{xs ys:List Str},xs.map (λx=>PV.tup [ZH x,.non])=ys.map (λx=>PV.tup [ZH x,.non])->xs=ys
 |[],[]=>λ_=>rfl
 |[],y::ys=>λh=>by cases h
 |x::xs,[]=>λh=>by cases h
 |x::xs,y::ys=>λh=>by injection h with h1 h2;injection h1 with h1;injection h1 with h1 _;injection h1 with h1;rw[h1,Rx h2]
theorem uM{α β:Type}{f:α->List β}:∀{l:List α},(∀x∈l,-(f x)<=c)->-(l.flatMap f)<=c*-l
 |[]=>λ_=>gz _
 |x::l=>λh=>by let h1:=h x cS;let h2:=uM λy i=>h y (d_ _ i);rw[flatMap_cons,eS,db,Nat.mul_succ];lia
section
variable {P:Pg}{k:Nat}{e:eI}
def abn(h:P.fine)(p:Pl P k e)(hk:k<256)(hF:∀n,FN.fn n->∃f∈P.fns,f.name=n)(er:e.r=.call b m as):∃B,Dn P k e B:=by
 let ok:=p.he.ok;rw[er]at ok;let((x,rfl,hx),hn,ha,hla,mT):=ok;let(f,hf,fe):=hF m mT;let(xs,ex,lx,sx):=h.ok.pm f hf;let C:S3:=("call","at " ++ lF k,"enter " ++ m);let zs:_:=xs.zip as;have hz:∀z∈zs,-z.1<=100/\XG z.2:=λz hz=>by let(h1,h2):=lI hz;show#[sx _ h1,ha _ h2]
 have lz:-zs<=4:=by show -(xs.zip as)<=4;rw[List.length_zip];lia
 have l6:-("enter " : Str)=6:=by decide +kernel
 let r:PV:=(af.call (.str x) m as).pv;have lB:-(zs.flatMap (cB k))<=10*-zs:=uM λz q=>Oi (hz z q).2;show#[C::zs.flatMap (cB k),by simp only[db];lia,λy hy=>?_,λmu n pa=>?_]
 . obtain rfl|hy:=bh.mp hy
   . show (("call" : Str)== "turns")=false;decide +kernel
   . let(z,_,q):=List.mem_flatMap.mp hy;show zt y q
 . let(ys,ey,_,_,pe):=V8 pa hf;rw[<-Rx (ex.symm.trans ey),fe]at pe;let E3:List S3->Option Lc->Option Lc->Ev:=λA o q=>dw n k [zS r,zO ((C::A).map mV),o,q] mu;let(Y',e1,o,q,rfl,_):=uG (b:=fC 2 (aW (aC 4) (aW (aC 5) fu))) (body:=gb 3 (aN lr (aj (aa 1) (aj (aa 4) (aj (cu (aj (aa 5) ao)) ao))))) (λz:Str×PV=>.tup [.str z.1,z.2]) (λpre Y=>∃o q,Y=E3 (pre.flatMap (cB k)) o q/\-(pre.flatMap (cB k))<=10*-pre) zs [] (E3 [] none none) #[none,none,rfl,dP _] λpre z hp hm Y ⟨o,q,eY,hy⟩=>by subst eY;simp only[e_]at hp;let(g1,g2):=hz z hm;let lc:=Oi (k:=k) g2;show#[E3 (pre.flatMap (cB k)) (zT z.1) (zS z.2),E3 ((pre++[z]).flatMap (cB k)) (zT z.1) (zS z.2),rfl,?_,_,_,rfl,by rw[pK,eS,eS];simp only[db,e_];lia];rw[pK];show jZ (ps:=(cB k z).map mV) rfl (aR (ps:=[.int (k:Nat),.str z.1,.lst [z.2]]) (Y1:=E3 (pre.flatMap (cB k)) (zT z.1) (zS z.2)) rfl rfl rfl rfl (En hk g1 (λy hy=>by rw[gg.mp hy];show g2) (by simp))) rfl rfl (by simp only[da,db];lia) ?_;show dw n k [_,zO ((C::pre.flatMap (cB k)).map mV++(cB k z).map mV),_,_] mu=dw n k [_,zO ((C::(pre.flatMap (cB k)++cB k z)).map mV),_,_] mu;rw[<-eD];rfl
   rw[iS,<-Zy]at e1;show aO (Y:=dw n k [zS r,none,o,q] mu) (xR p pa ?_);rw[er];show(bG (rZ (bw (pJ rfl)) (bw (pJ rfl))) ()).trans ((bG (bw (pJ rfl)) ()).trans (d7 (bw (pJ rfl)) () (aH (Y':=E3 [] none none) (bu (pQ (aA (dm (aA (Y1:=dw n k [zS r,none,none,none] mu) rfl (aA (tG rfl hk ()) (aA (dj (p:=.str "enter ") (q:=.str m) rfl rfl rfl rfl (Be ())) rfl))) rfl rfl) rfl) rfl rfl) rfl rfl) (aH (eO (Y1:=E3 [] none none) (aes (Y1:=E3 [] none none) (kO (Y1:=E3 [] none none) (Y2:=E3 [] none none) (ps:=[.str m]) rfl rfl rfl rfl pe pa.pl) rfl rfl rfl) e1) rfl))))
def aet(h:P.fine)(p:Pl P k e)(W:∀n,FN.fn n->∃f∈P.fns,f.name=n):∃B,Dn P k e B:=by
 have hk:k<256:=by have:=oX h;have:=p.lt;lia
 let ok:=p.he.ok;cases j:e.r with
 |leaf w ps=>
  rw[j]at ok;have z:e.r.pv=ZB (ZH w::ps):=by rw[j];rfl
  let(_,N):=ok;cases N with
  |set_ q i=>show#[_,adH p hk z q i]
  |put q i Q=>show#[_,adI p hk z q i Q]
  |out y q i=>show adJ p hk z q i
 |call b n as=>show abn h p hk W j
 |wh x b=>show#[_,Zz p hk (w:="while") (by rw[j];rfl) ()]
 |iff x b c=>show#[_,Zz p hk (w:="if") (by rw[j];rfl) ()]
def abo(p:Pl P k e)(hk:k<256):∃A:List (Str×Str),-A<=3/\∀mu n,PA mu n P->j4 [.ptr n,.int (k:Nat)] mu=!(.own (.lst (A.map jc)),mu):=by
 have hd:∀{mu:Mu}{n:Nat},PA mu n P->∀{g:SF}{ZN:Option Fl},g (dw n k [zS e.r.pv] mu)=ZN->aF (aL 2 (cX "Plan" "row" dY (aa 0) (aj (aa 1) ao))) g (dw n k [none] mu)=ZN:=λ{mu n} pa {g ZN} hg=>aH (bu (kO rfl rfl rfl rfl (tu pa.pl p.at_) pa.pl) rfl rfl) hg;have t:∀{mu:Mu}{n:Nat}{w:Str}{t:List PV},tT (au Mq (aJ (aa 2) (ai 0)) (c6 "call")) aY (dw n k [zS (.tup (.str w::t))] mu)=!(not (w== "call"),dw n k [zS (.tup (.str w::t))] mu):=λ{mu n w t}=>Bv (dj (pJ rfl) rfl rfl rfl rfl) rfl rfl;have no:∀{w:Str}{ps:List PV},e.r.pv=.tup (.str w::ps)->(w== "call")=false->∃A:List (Str×Str),-A<=3/\∀mu n,PA mu n P->j4 [.ptr n,.int (k:Nat)] mu=!(.own (.lst (A.map jc)),mu):=λ{w ps} er hw=>#[[],gz _,λmu n pa=>by show aO (Y:=dw n k [zS (.tup (.str w::ps))] mu) (hd pa ?_);rw[er];show d7 t (by rw[hw];rfl) rfl]
 let ok:=p.he.ok;cases er:e.r with
 |leaf w ps=>rw[er]at ok;show no (by rw[er];rfl) ok.1.2.2
 |wh x b=>show no (w:="while") (by rw[er];rfl) ()
 |iff x b c=>show no (w:="if") (by rw[er];rfl) ()
 |call b m as=>
  rw[er]at ok;let((x,rfl,hx),hn,_):=ok;have l6:-("leave " : Str)=6:=by decide +kernel
  let S:List Str:=[nZ m,"at " ++ lF k,"leave " ++ m];show#[S.map λy=>(y,nZ x),by simp[S],λmu n pa=>?_];let r:PV:=(af.call (.str x) m as).pv;let E3:_:=dw n k [zS r] mu;rw[mm];show aO (Y:=E3) (hd pa ?_);rw[er];show(bG t ()).trans (cT (ww (Y1:=E3) (dm (aA (dj rfl rfl rfl rfl (Be (by rw[HD];lia))) (aA (tG rfl hk ()) (aA (dj rfl rfl rfl rfl (Be ())) rfl))) rfl rfl) rfl (by simp[S]) rfl rfl λy _=>?_));show dm (aA rfl (aA (dj rfl rfl rfl rfl (Be (by rw[HD];lia))) rfl)) rfl rfl
end
end
noncomputable section
variable [HK][FN]
def zea{f:EF}(h:E f v m x v1 m1)(hx:ψ x.pv=!z)(j:-c+-z<=100000):E (nW c f) v m (Zp (ZH (c++z))) v1 m1:=λi=>Ga (h i) hx j
def zeb{fo:EF}{a:AF}(h1:E fo v m x v1 m1)(hx:x.pv=ZA n)(h2:E a v1 m1 ls v2 m2)(z:ls.map Lc.pv=ps)(F:∀i,g (ZA n::ps) (m2 i)=!(l,m3 i))(D:∀i,∃es,jb (m1 i) n es)(j:(["told","lists","heads"]:List Str).contains w=M:=by decide +kernel):E (cX "Plan" w g fo a) v m l v2 m3:=λi=>let #[_,q]:=D i;kO (h1 i) hx (h2 i) z (F i) q j
def HG:qG (ZB (x::t)) (ZI 0)=zS x:=by show (fO (x::t) 0).map _=_;rw[mo];rfl
end
local macro_rules | `(tactic| walk_at "x")=>`(tactic| exact HG)
local macro_rules | `(tactic| walk_at "y")=>`(tactic| first
 | (with_reducible apply zeb); walk_at "e"; exact rfl; walk_at "e"; walk_at "n"; (intro _; assumption); (intro _; exact⟨_,by assumption⟩); decide +kernel
 | (with_reducible apply zea); walk_at "e"; assumption; walk_at "l")
noncomputable section
variable [HK][FN]
theorem HI:∀{z j:List Nat},k∉z->(aU (z++k::j)).findIdx (λq=>(dH 150 q (ZI (k:Nat))).getD M)=-z
 |[],j,_=>by show (PV.int (k:Nat)::aU j).findIdx _=0;rw[List.findIdx_cons,show (dH 150 (ZI (k:Nat)) (ZI (k:Nat))).getD M=G by show (((k:Nat):Int)==((k:Nat):Int))=G;simp];rfl
 |a::z,j,h=>by rw[bh,not_or]at h;show (PV.int (a:Nat)::aU (z++k::j)).findIdx _=_;rw[List.findIdx_cons,show (dH 150 (ZI (a:Nat)) (ZI (k:Nat))).getD M=M by show (((a:Nat):Int)==((k:Nat):Int))=M;simp;lia,HI h.2];rfl
def rL(l0:List Nat):PV:=match l0.getLast? with
 |none=>.non
 |some a=>ZI (a:Nat)
open Classical in
def acx(he:es[k]?=!e)(ha:e.ab=.non\/∃j:Nat,e.ab=ZI j)(hp:pos e.key 0 es=z++k::D)(hk:k∉z)(hz:-(z++k::D)<=100000)(h:jb mu n es):iH [ZA n,ZI (k:Nat)] mu=!(Zp (rL z),mu):=by
 let(N,hd,hm):=id h;have s2:S5 (jB "Plan" "lists" (aa 0)) (j7 (aJ (jB "Plan" "told" (aa 0)) (aa 1)) eU (cM (ai 3))) (dw n k [J,J] mu)=!(Zp (R (aU (z++k::D))),dw n k [J,J] mu):=by
  unfold S5;rw[sZ (C:="Plan") (f:="lists") (Y1:=dw n k [J,J] mu) O O hm O,c9];have sl:j7 (aJ (jB "Plan" "told" (aa 0)) (aa 1)) eU (cM (ai 3)) (dw n k [J,J] mu)=!(Zp (ZB [ZH e.w,e.ab,ZI e.bl]),dw n k [J,J] mu):=by unfold j7;rw[Oa h he,c9];rfl
  rw[sl,c9];show ((pX [ZH e.w,e.ab,ZI e.bl]).bind _)=_;rw[Jt ha,c9,ax O,Kq,adx (j:=k) (by rw[hp];simp),hp];rfl
 have s3:MF (aa 2) (aa 1) (dw n k [zL (aU (z++k::D)),J] mu)=!(Zp (ZI (-z:Nat)),dw n k [zL (aU (z++k::D)),J] mu):=by show (if tR (dH 150) (ZI (k:Nat)) (aU (z++k::D))=!G/\-(aU (z++k::D))<=100000 then _ else _)=_;rw[ax #[by rw[Ru,lS (by simp)],by rw[da];show hz]];show some (Lc.sh (ZI ((aU (z++k::D)).findIdx (λq=>(dH 150 q (ZI (k:Nat))).getD M):Nat)),dw n k _ mu)=_;rw[HI hk];rfl
 show io λZN K=>?_
 walk_at "s"
 show tx (λ_=>s2) O O (xF (tx (λ_=>s3) O O ?_));obtain rfl|⟨l1,a,F⟩:=List.eq_nil_or_concat z
 . show qV (D1 (λ_=>O) (λ_=>e_c) λq=>by cases q) ?_;show K
 . rw[List.concat_eq_append]at F;subst F;have ea:qG (R (aU (l1++[a]++k::D))) (ZI ((-(l1++[a]):Nat)-1))=zI (a:Nat):=by show (fO _ _).map _=_;rw[show ((-(l1++[a]):Nat):Int)-1=((-l1:Nat):Int) by simp,PN (v:=ZI (a:Nat)) (by rw[aU,eL];simp)];rfl
   have ag:rL (l1++[a])=ZI (a:Nat):=by unfold rL;simp
   rw[ag]at K;show qV (D1 (λ_=>O) (λq=>?_) λ_=>DM (λ_=>O) (λ_=>O) ea) ?_
   . simp at q;lia
   . show K
def uj(r:af)(f:PV->List Str):List (Str×Str):=match r with
 |.iff x _ _=>(f x).map λy=>("choice",y)
 |_=>[]
def wi(j:Nat)(r:af)(f:PV->List Str):List (Str×Str):=("within","at " ++ lF j)::uj r f
def HM(ok:r.ok):-(uj r jy)<=9:=by
 cases r with
 |iff x b c=>show -(List.map _ (jy x))<=9;rw[da];show uF ok.1
 |_=>show gz _
def zbr(p:Pl P k e)(q:e.ab=.non)(j:PA mu n P):lW [ZA n,ZI (k:Nat)] mu=!(Zs (R ([(("enter" : Str),"enter " ++ e.w)].map jc)),mu):=by
 let h1:=Yx j.pl p.at_;let h2:=Rr j.pl p.at_;let pl:=j.pl;have z:-("enter " : Str)=6:=by decide +kernel
 have:=p.wl;rw[q]at h1;show io λZN K=>?_
 walk_at "s"
 show K
def zb6(h:P.fine){k j:Nat}{e D:eI}(p:Pl P k e)(q:e.ab=ZI j)(p2:Pl P j D){mu:Mu}{n:Nat}(F:PA mu n P):lW [ZA n,ZI (k:Nat)] mu=!(Zs (R ((wi j D.r jy).map jc)),mu):=by
 let h1:=Yx F.pl p.at_;let h2:=tu F.pl p2.at_;let pl:=F.pl;let hl:=oX h;let hj:=p2.lt;let(f1,f2,_):=Gq j ();let lb:=HM p2.he.ok;rw[q]at h1;obtain⟨x,b,c,z⟩|⟨w,t,z,hw⟩:=aep p2.he.ok
 . let ok:=p2.he.ok;rw[z]at ok h2 lb;let h3:=yS ok.1 mu;have lb:-(jy x)<=9:=uF ok.1;rw[z];show io λZN K=>?_
   walk_at "s"
   show cast (congrArg (λl=>ZN (Zs (R l)) _) ?_) K;show _::(List.map _ (jy x)).map jc=_;rw[fE];rfl
 . rw[z]at h2;have hc:uj D.r jy=[]:=by
    cases q:D.r with
    |iff x b c=>rw[q]at z;cases z;show absurd hw ()
    |_=>rfl
   unfold wi;rw[hc];show io λZN K=>?_
   walk_at "s"
   show K
def HP(h:P.fine)(p:Pl P k e)(hp:pos e.key 0 P.es=D++k::r0)(hk:k∉D)(hz:-(D++k::r0)<=100000)
 (hA:(D=[]/\-A<=10/\∀mu n,PA mu n P->lW [ZA n,ZI (k:Nat)] mu=!(Zs (R (A.map jc)),mu))\/∃l1 j F,D=l1++[j]/\Pl P j F/\A=(F.r.bt j).map λy=>(("behind" : Str),y)):
 ∃T:List Str,-T<=56/\∀mu n,PA mu n P->jH [ZA n,ZI (k:Nat)] mu=!(Zs (R ((A++T.map λy=>(("turns" : Str),y)).map jc)),mu):=by
 have lA:-A<=47:=by
  obtain⟨_,h1,_⟩|⟨_,j,F,_,p2,rfl⟩:=hA
  . lia
  . rw[da];show ui p2
 have go:∀mu n,PA mu n P->∀(ZN:Lc->(Unit->Mu)->Prop)(g:SF),(∀o,eH g [zS (ZA n),zI (k:Nat),o,zO (A.map jc)] (λ_=>mu) (λ_ _=>False) ZN)->eH (aF (aL 2 (cX "Plan" "just_ahead" iH (aa 0) (aj (aa 1) ao))) (aF (aL 3 (cu ao)) (aF (cC (tT (au Sw (aa 2) (eC .non)) aY)
  (gb 3 (aN lW (aj (aa 0) (aj (aa 1) ao))))
  (gb 3 (bU (dh (aN (dJ 40) (aj (aa 0) (aj (aa 2) ao))) bJ) 1 [] (aC 0) bB (aX (aj (c6 "behind") (aj (aa 0) ao)))))) g))) [zS (ZA n),zI (k:Nat),J,J] (λ_=>mu) (λ_ _=>False) ZN:=λmu n z ZN g hg=>by
  let a:=acx p.at_ p.num hp hk hz z.pl;let pl:=z.pl;obtain⟨rfl,h1,h2⟩|⟨l1,j,F,rfl,p2,rfl⟩:=hA
  . let h2:=h2 mu n z;let a:=a
    walk_at "s"
    show hg _
  . rw[show rL (l1++[j])=ZI (j:Nat) by unfold rL;simp]at a;let h2:=Zv h p2 z;have:=ui p2
    walk_at "s"
    rw[fE]at hg;show hg _
 obtain⟨x,b,er⟩|⟨w,t,er,hw⟩:=aeq p.he.ok
 . let(T,lT,eT):=abh h p er;show#[T,lT,λmu n z=>io λZN K=>?_];let h1:=tu z.pl p.at_;let h2:=eT mu n z;let pl:=z.pl;rw[er]at h1
   walk_at "n1"
   show go mu n z ZN _ λo=>?_
   walk_at "s"
   rw[eD,fE]at K;show K
 . show#[[],gz _,λmu n z=>io λZN K=>?_];let h1:=tu z.pl p.at_;let pl:=z.pl;rw[er]at h1
   walk_at "n1"
   show go mu n z ZN _ λo=>?_
   walk_at "s"
   rw[nV,fg]at K;show K
end
noncomputable section
variable [HK][FN]
abbrev gK:=List (Str×Str)
def iA(p:PV):List Str:=(zA p).map nZ
def HU:y∈jy p ↔ y∈iA p:=by simp only[iA,dA];show#[λ⟨z,hz,e⟩=>#[z,Hy.mp hz,e],λ⟨z,hz,e⟩=>#[z,Hy.mpr hz,e]]
def zcU:y∈wi j r jy ↔ y∈wi j r iA:=by
 unfold wi;rw[bh,bh];show or_congr_right ?_;cases r with
 |iff x b c=>
  show y∈List.map _ (jy x) ↔ y∈List.map _ (iA x);rw[dA,dA];show#[λ⟨z,hz,e⟩=>#[z,HU.mp hz,e],λ⟨z,hz,e⟩=>#[z,HU.mpr hz,e]]
 |_=>show Iff.rfl
abbrev O6(r:af)(k:Nat):gK:=(r.bt k).map λy=>(("behind" : Str),y)
mutual
def af.prs:af->Nat->List (Nat×gK)
 |.leaf _ _,_=>[]
 |.call _ _ _,_=>[]
 |.wh x b,k=>b.prs (k+1) (wi k (.wh x b) iA)
 |.iff x b c,k=>b.prs (k+1) (wi k (.iff x b c) iA)++c.prs (k+1+b.cnt) (wi k (.iff x b c) iA)
def Rows.prs:Rows->Nat->gK->List (Nat×gK)
 |.nil,_,_=>[]
 |.cons r rs,k,A=>(k,A)::(r.prs k++rs.prs (k+r.cnt) (O6 r k))
end
mutual
theorem af.prs_fst:∀(r:af)(k:Nat),(r.prs k).map (·.1)=List.range' (k+1) (r.cnt-1)
 |.leaf _ _,k=>rfl
 |.call _ _ _,k=>rfl
 |.wh x b,k=>by rw[af.prs,Rows.prs_fst b];simp[af.cnt]
 |.iff x b c,k=>by rw[af.prs,eD,Rows.prs_fst b,Rows.prs_fst c,List.range'_append_1];congr 1<;>(simp only[af.cnt];lia)
theorem Rows.prs_fst:∀(rs:Rows)(k:Nat)(A:gK),(rs.prs k A).map (·.1)=List.range' k rs.cnt
 |.nil,k,A=>rfl
 |.cons r rs,k,A=>by have:=r.cnt_pos;rw[Rows.prs,fF,eD,af.prs_fst r,Rows.prs_fst rs,show k+r.cnt=k+1+(r.cnt-1) by lia,List.range'_append_1,<-List.range'_succ];congr 1<;>(simp only[Rows.cnt];lia)
end
structure BO(P:Pg)(k:Nat)(B A:gK)(T:List Str):Prop where
 lA:-A<=47
 lT:-T<=56
 mem:∀y,y∈A ↔ y∈B
 nt:∀y∈A,(y.1== "turns")=false
 told:∀mu n,PA mu n P->jH [.ptr n,.int (k:Nat)] mu=!(.own (.lst ((A++T.map λy=>(("turns" : Str),y)).map jc)),mu)
def FA(P:Pg)(w:Str)(ab:PV)(l0:List Nat)(B:gK):Prop:=(l0=[]/\∃A:gK,-A<=10/\(∀y,y∈A ↔ y∈B)/\(∀y∈A,(y.1== "turns")=M)/\∀k e,Pl P k e->e.w=w->e.ab=ab->∀mu n,PA mu n P->lW [ZA n,ZI (k:Nat)] mu=!(Zs (R (A.map jc)),mu))\/∃l1 j e,l0=l1++[j]/\Pl P j e/\B=O6 e.r j
def uk(h:P.fine)(he:P.es[k]?=!e):Pl P k e:=by let(j,p,_):=Ku h (fr.mp he).1;rw[p.at_]at he;grind
def zb4:∀y∈wi j r f,(y.1== "turns")=M:=λy hy=>by
 obtain rfl|hy:=bh.mp hy
 . show (("within" : Str)== "turns")=M;decide +kernel
 . cases r with
   |iff x b c=>
    let(z,_,rfl):=dA.mp hy;show (("choice" : Str)== "turns")=M;decide +kernel
   |_=>cases hy
def zv(h:P.fine)(p:Pl P k e):FA P e.w (ZI (k:Nat)) [] (wi k e.r iA):=
 Zl #[O,wi k e.r jy,by have:=HM p.he.ok;show -(uj e.r jy)+1<=10;lia,λy=>zcU,zb4,λj D p2 _ q mu n z=>zb6 h p2 q p z]
mutual
theorem af.bo(h:P.fine):∀(r:af)(k:Nat)(w:Str)(ab:PV)(bl:Int),qy P.es w ab bl k r->∀x∈r.prs k,∃A T,BO P x.1 x.2 A T
 |.leaf _ _,k,w,ab,bl,s,x,hx=>by cases hx
 |.call _ _ _,k,w,ab,bl,s,x,hx=>by cases hx
 |.wh y b,k,w,ab,bl,s,x,hx=>Rows.bo h b (k+1) w (ZI (k:Nat)) 0 _ [] s.wh (s.pos 0) (λj z=>by cases z) (zv h (uk h s.get)) x hx
 |.iff y b c,k,w,ab,bl,s,x,hx=>by
  obtain hx|hx:=d6.mp hx
  . show Rows.bo h b (k+1) w (ZI (k:Nat)) 0 _ [] s.iff.1 (s.pos 0) (λj z=>by cases z) (zv h (uk h s.get)) x hx
  . show Rows.bo h c (k+1+b.cnt) w (ZI (k:Nat)) 1 _ [] s.iff.2 (s.pos 1) (λj z=>by cases z) (zv h (uk h s.get)) x hx
theorem Rows.bo(h:P.fine):∀(rs:Rows)(k:Nat)(w:Str)(ab:PV)(bl:Int)(B:gK)(D:List Nat),qx P.es w ab bl k rs->pos (eI.key #[w,ab,bl,.leaf "" []]) 0 P.es=D++rs.nums k->(∀j∈D,j<k)->FA P w ab D B->∀x∈rs.prs k B,∃A T,BO P x.1 x.2 A T
 |.nil,k,w,ab,bl,B,D,s,hp,hl,fa,x,hx=>by cases hx
 |.cons r rs,k,w,ab,bl,B,D,s,hp,hl,fa,x,hx=>by
  let(s1,s2):=s.cons;let p:=uk h s1.get;obtain rfl|hx:=bh.mp hx
  . have hz:-(D++k::rs.nums (k+r.cnt))<=100000:=by
     have:∀(K:List aV)(es:List eI)(i:Nat),-(pos K i es)<=-es:=λK es=>by
      induction es with
      |nil=>show λi=>dP _
      |cons x es ih=>intro i;unfold pos;have:=ih (i+1);split<;>simp only[db]<;>lia
     let q:=this (eI.key #[w,ab,bl,.leaf "" []]) P.es 0;rw[hp]at q;have:=oX h;show fA q ()
    have hk:k∉D:=λq=>absurd (hl k q) (ly _);obtain⟨rfl,A,lA,mA,bm,tA⟩|⟨l1,j,e2,rfl,p2,rfl⟩:=fa
    . let(T,lT,tT):=HP h p hp hk hz (Zl #[O,lA,λmu n pa=>tA k _ p O O mu n pa]);show#[A,T,(),lT,mA,bm,tT]
    . let(T,lT,tT):=HP h p hp hk hz (YY #[l1,j,e2,O,p2,O]);show#[O6 e2.r j,T,by rw[da];show ui p2,lT,λy=>Iff.rfl,λy hy=>?_,tT];let(z,_,rfl):=dA.mp hy;show (("behind" : Str)== "turns")=M;decide +kernel
  . obtain hx|hx:=d6.mp hx
    . show af.bo h r k w ab bl s1 x hx
    . show Rows.bo h rs (k+r.cnt) w ab bl _ (D++[k]) s2 (by rw[hp,eK];rfl) (λj F=>?_) (YY #[D,k,_,O,p,O]) x hx;have:=r.cnt_pos;obtain F|F:=d6.mp F
      . have:=hl j F;lia
      . rw[gg.mp F];lia
end
def du:List Fn->Nat->List (Nat×gK)
 |[],_=>[]
 |f::fs,k=>f.rows.prs k [("enter","enter " ++ f.name)]++du fs (k+f.rows.cnt)
theorem ur:∀(fs:List Fn)(k:Nat),(du fs k).map (·.1)=List.range' k (d8 fs)
 |[],k=>rfl
 |f::fs,k=>by rw[du,eD,Rows.prs_fst,ur fs,List.range'_append_1];rfl
theorem R0:∀{fs:List Fn}{k:Nat}{x:Nat×gK},x∈du fs k->∃b∈kr fs k,x∈b.1.rows.prs b.2 [("enter","enter " ++ b.1.name)]
 |[],k,x,h=>by cases h
 |f::fs,k,x,h=>by
  obtain h|h:=d6.mp h
  . show#[(f,k),cS,h]
  . let(b,j,q):=R0 h;show#[b,d_ _ j,q]
def zbx(h:P.fine)(hx:x∈du P.fs 0):∃A T,BO P x.1 x.2 A T:=by
 let((f,s),z,q):=R0 hx;show Rows.bo h f.rows s f.name .non 0 _ [] (yY P _ z) ?_ (λj hj=>by cases hj) (Zl #[O,[("enter","enter " ++ f.name)],Nat.le_add_left 1 9,λy=>Iff.rfl,λy hy=>?_,λk e p D F mu n pa=>?_]) x q
 . rw[<-re];show zl P.fs 0 (GY h) _ z
 . rw[gg.mp hy];show (("enter" : Str)== "turns")=M;decide +kernel
 . rw[<-D];show zbr p F pa
end
noncomputable section
variable [HK][FN]
def zcm(h:Rd n p a):∀(f:Nat)(mu:Mu),n<=f->-a<=100->k9 f [p] mu=!(Zs (R (c7 a)),mu):=by
 induction h with
 |num n i |box n x=>
  intro f mu D _;obtain⟨f,rfl⟩:∃k,f=k+1:=#[f-1,()];show io λZN K=>?_
  walk_at "s"
  show K
 | @at_ n p a x h j=>
  intro f mu D z;obtain⟨f,rfl⟩:∃k,f=k+1:=#[f-1,()];simp only[db]at z;let e2:=j f mu () ();have:=zk a;show io λZN K=>?_
  walk_at "s"
  show K
 | @op n s p q a b hs h g j F=>
  intro f mu D z;obtain⟨f,rfl⟩:∃k,f=k+1:=#[f-1,()];rw[eS]at z;let e2:=j f mu () ();let e4:=F f mu () ();let(h1,h2,h3):=hs;have:=zk a;have:=zk b;show io λZN K=>?_
  walk_at "s"
  rw[GV]at K;show K
def hV(k:Nat)(a:Str×Str):List d3:=[.inl (k:Int),.inl 0,.inr a.1,.inr a.2,.inr ("at " ++ lF k)]
def fS(l:List (Nat×gK)):List (List d3):=l.flatMap λx=>x.2.map (hV x.1)
def d0(ks L:List (List d3)):List (List d3):=L.foldl js ks
def zb2:y∈js ks k ↔ y∈ks\/y=k:=by
 unfold js;split
 . grind
 . simp
def zbz:-(js ks k)<=-ks+1:=by
 unfold js;split
 . lia
 . simp
theorem ut:∀{L ks:List (List d3)},y∈d0 ks L ↔ y∈ks\/y∈L
 |[],ks=>by simp[d0]
 |a::L,ks=>by show y∈d0 (js ks a) L ↔ _;rw[ut,zb2,bh,or_assoc]
theorem ms:∀{L ks:List (List d3)},-(d0 ks L)<=-ks+-L
 |[],ks=>dP _
 |a::L,ks=>by let h1:=ms (L:=L) (ks:=js ks a);let h2:=zbz (ks:=ks) (k:=a);show -(d0 (js ks a) L)<=_;grind
def oB:d0 ks (A++B)=d0 (d0 ks A) B:=List.foldl_append
abbrev MU(mu:Mu)(t:Nat)(ks:List (List d3)):Mu:=mu.set t (!(iP ks))
def zw(h:t< -mu):(MU mu t ks)[t]?=!(!(iP ks)):=kt h
theorem HV(I:Rows->eW->(ι->Mu)->Prop)(hs:∀r rs v m (N:eW->(ι->Mu)->Prop),I (.cons r rs) v m->(∀v m,I rs v m->N v m)->ng b r.pv v λv1=>eH body v1 m N ZN)(j:∀v m,I .nil v m->N v m):∀{rs:Rows}{v:eW}{m:ι->Mu},I rs v m->eH (eN b body rs.pvs) v m N ZN
 |.nil,v,m,h=>DZ (j v m h)
 |.cons r rs,v,m,h=>DV (hs r rs v m _ h λv m h=>HV I hs j h)
def uu:((r.bt k).map λa=>PV.tup [ZH "behind",ZH a])=(O6 r k).map jc:=by rw[fE];rfl
def acB(h:XG x):-(iA x)<=9:=by let(n,_,_,j,_):=xP h;unfold iA;grind
def nw(ok:r.ok):-(wi k r iA)<=47:=by
 cases r with
 |iff x b c=>have:=acB ok.1;show -(List.map _ (iA x))+1<=47;rw[da];lia
 |_=>show Nat.le_add_left 1 46
mutual
theorem af.prs_l:∀(r:af)(k:Nat),r.ok->r.dep<=10->∀x∈r.prs k,-x.2<=47
 |.leaf _ _,k,ok,j,x,hx=>by cases hx
 |.call _ _ _,k,ok,j,x,hx=>by cases hx
 |.wh y b,k,ok,j,x,hx=>Rows.prs_l b (k+1) _ ok.2 (by simp only[af.dep]at j;lia) (nw ok) x hx
 |.iff y b c,k,ok,j,x,hx=>by
  simp only[af.dep]at j;obtain hx|hx:=d6.mp hx
  . show Rows.prs_l b (k+1) _ ok.2.1 () (nw ok) x hx
  . show Rows.prs_l c _ _ ok.2.2 () (nw ok) x hx
theorem Rows.prs_l:∀(rs:Rows)(k:Nat)(B:gK),rs.ok->rs.dep<=11->-B<=47->∀x∈rs.prs k B,-x.2<=47
 |.nil,k,B,ok,j,z,x,hx=>by cases hx
 |.cons r rs,k,B,ok,j,z,x,hx=>by
  simp only[Rows.dep]at j;obtain rfl|hx:=bh.mp hx
  . show z
  . obtain hx|hx:=d6.mp hx
    . show af.prs_l r k ok.1 () x hx
    . show Rows.prs_l rs _ _ ok.2 () (by rw[da];show fA (r.bt_len k) (oy ())) x hx
end
def HZ(h:∀x∈l,-x.2<=47):-(fS l)<=47*-l:=uM λx hx=>by rw[da];show h x hx
def zcK{r:af}(ok:r.ok)(j:r.dep<=10):-(fS (r.prs k))<=47*(r.cnt-1):=by let h1:=HZ (r.prs_l k ok j);let h2:=congrArg List.length (r.prs_fst k);grind
def H_{rs:Rows}(ok:rs.ok)(j:rs.dep<=11)(z:-B<=47):-(fS (rs.prs k B))<=47*rs.cnt:=by let h1:=HZ (rs.prs_l k B ok j z);let h2:=congrArg List.length (rs.prs_fst k B);grind
def rO(a b:List (Nat×gK)):fS (a++b)=fS a++fS b:=List.flatMap_append
end
local macro_rules | `(tactic| walk_at "x")=>`(tactic| exact D0 rfl rfl (by solve_by_elim))
noncomputable section
variable [HK][FN]
theorem uS:∀(n:Nat)(rs:Rows)(k:Nat)(B:gK)(ks:List (List d3))(mu:Mu)(t:Nat),rs.ok->rs.dep<=n->rs.dep<=11->k+rs.cnt<=256->-B<=47->-ks+47*rs.cnt<=90000->t< -mu->kD n [R rs.pvs,ZI (k:Nat),R (B.map jc),ZA t] (MU mu t ks)=!(Zp (ZI ((k+rs.cnt:Nat):Int)),MU mu t (d0 ks (fS (rs.prs k B))))
 |0,rs,k,B,ks,mu,t,ok,hd,_,hk,hB,hz,ht=>absurd hd (by have:=rs.dep_pos;lia)
 |n+1,rs,k,B,ks,mu,t,ok,hd,py,hk,hB,hz,ht=>io λZN K=>by
  walk_at "s"
  show HV (λk_ v m=>∃(k':Nat)(B':gK)(ic:List (List d3))(l:Lc)(o6 o7 o8 o9 kF:Option Lc),v=[zL rs.pvs,zI (k:Nat),zL (B.map jc),zS (ZA t),zI (k':Nat),!l,o6,o7,o8,o9,kF]/\l.pv=R (B'.map jc)/\(m=λ_=>MU mu t ic)/\k_.ok/\k_.dep<=n+1/\k_.dep<=11/\k'+k_.cnt=k+rs.cnt/\-B'<=47/\-ic+47*k_.cnt<=90000/\d0 ic (fS (k_.prs k' B'))=d0 ks (fS (rs.prs k B))) ?_ ?_ #[k,B,ks,_,J,J,J,J,J,O,O,O,ok,hd,py,O,hB,hz,O]
  . rintro r k_ v m N ⟨k',B',ic,l,o6,o7,o8,o9,kF,rfl,el,rfl,i6,h1,h2,h3,h4,h5,h6⟩ cp;simp only[Rows.dep]at h1 h2;simp only[Rows.cnt]at h3 h5;let rc:=r.cnt_pos;let(f1,f2,f3):=Gq k' ()
    walk_at "s"
    show nh (λv0 i v m=>∃p7 p8,v=(v0.set 7 p7).set 8 p8/\m=λ_=>MU mu t (d0 ic ((B'.take i).map (hV k')))) #[o7,o8,O,O] ?_ ?_
    . rintro i x _ _ N1 hx KN1 ⟨p7,p8,rfl,rfl⟩;rw[eL]at hx;let(y,hy,rfl):=d4 hx;let hm:=zw (ks:=d0 ic ((B'.take i).map (hV k'))) ht;let la:=ms (L:=(B'.take i).map (hV k')) (ks:=ic)
      walk_at "s"
      show KN1 _ _ #[_,_,O,funext λ_=>?_];rw[List.take_add_one,hy,eD,oB,nK];rfl
    rintro _ _ ⟨p7,p8,rfl,rfl⟩;rw[da,List.take_length];let la:=ms (L:=B'.map (hV k')) (ks:=ic);rw[da]at la;have fin:∀(l5:Lc)(q6 q7 q8 q9 zC:Option Lc),l5.pv=R ((O6 r k').map jc)->N [zL rs.pvs,zI (k:Nat),zL (B.map jc),zS (ZA t),zI ((k'+r.cnt:Nat):Int),!l5,q6,q7,q8,q9,zC] λ_=>MU mu t (d0 (d0 ic (B'.map (hV k'))) (fS (r.prs k'))):=λl5 q6 q7 q8 q9 zC e5=>by let bq:=zcK (k:=k') i6.1 ();let l2:=ms (L:=fS (r.prs k')) (ks:=d0 ic (B'.map (hV k')));show cp _ _ #[k'+r.cnt,O6 r k',_,l5,q6,q7,q8,q9,zC,O,e5,O,i6.2,(),(),(),by rw[da];show fA (r.bt_len k') (oy ()),(),?_];rw[<-h6,<-oB,<-oB,<-rO];rfl
    generalize d0 ic (B'.map (hV k'))=k6 at la fin;let hb:=HC (mu:=MU mu t k6) r 40 k' i6.1 () () () (by have:=oy (r:=r) ();lia);have hbt:-(r.bt k')<=47:=fA (r.bt_len k') (oy ());cases r with
    |leaf w ps=>
     have hi:(w== "if")=M:=i6.1.1.1;have hw:jO w=M:=Hu i6.1.1
     walk_at "s"
     show fin _ _ _ _ _ _ (congrArg PV.lst uu)
    |call b m as=>
     walk_at "s"
     show fin _ _ _ _ _ _ (congrArg PV.lst uu)
    |wh x b=>
     simp only[af.cnt]at h3 h5;simp only[af.dep]at h1 h2;have ih:kD n [R b.pvs,ZI ((k':Int)+1),R [jc ("within","at " ++ lF k')],ZA t] (MU mu t k6)=_:=uS n b (k'+1) (wi k' (.wh x b) iA) k6 mu t i6.1.2 () () () (nw i6.1) () ht
     walk_at "s"
     show(show eH (eN _ _ [PV.lst b.pvs]) _ _ _ _ from ?_)
     walk_at "s"
     rw[show k'+1+b.cnt=k'+(af.wh x b).cnt by simp only[af.cnt];omega];show fin _ _ _ _ _ _ (congrArg PV.lst uu)
    |iff x b c=>
     simp only[af.cnt]at h3 h5;simp only[af.dep]at h1 h2;let(n0,r1,r2,r3,r4):=xP i6.1.1;let hr:=zcm r1 40 (MU mu t k6) () ();have hS:∀y∈zA x,-("box " : Str)+-y<=100000:=λy hy=>by rw[HD];have:=r4 y hy;lia
     let lb:=H_ (k:=k'+1) i6.1.2.1 () (nw (k:=k') i6.1);let l2:=ms (L:=fS (b.prs (k'+1) (wi k' (.iff x b c) iA))) (ks:=k6);have ew:(wi k' (.iff x b c) iA).map jc=PV.tup [ZH "within",ZH ("at " ++ lF k')]::(zA x).map λa=>PV.tup [ZH "choice",ZH ("box " ++ a)]:=by show _::List.map jc (List.map _ (List.map nZ (zA x)))=_;rw[fE,fE];rfl
     let ih:=uS n b (k'+1) (wi k' (.iff x b c) iA) k6 mu t i6.1.2.1 () () () (nw i6.1) () ht;let yA:=uS n c (k'+1+b.cnt) (wi k' (.iff x b c) iA) _ mu t i6.1.2.2 () () () (nw i6.1) (fA (Nat.add_le_add_right l2 _) ()) ht;rw[ew]at ih yA
     walk_at "s"
     show(show eH (eN _ _ [PV.lst b.pvs,PV.lst c.pvs]) _ _ _ _ from ?_)
     walk_at "s"
     rw[show k'+1+b.cnt+c.cnt=k'+(af.iff x b c).cnt by simp only[af.cnt];lia,<-oB,<-rO];show fin _ _ _ _ _ _ (congrArg PV.lst uu)
  . rintro v m ⟨k',B',ic,l,o6,o7,o8,o9,kF,rfl,el,rfl,i6,h1,h2,h3,h4,h5,h6⟩
    walk_at "s"
    have h3:k'=k+rs.cnt:=h3;have h6:ic=d0 ks (fS (rs.prs k B)):=h6;rw[h3,h6];show K
end
noncomputable section
variable [HK][FN]
abbrev kp(l:List aV):PV:=ZB (l.map wU)
noncomputable abbrev rt (k:Nat) (t:Int) (y:S3):List aV:=[!(.inl (k:Int)),!(.inl t),!(.inr y.1),!(.inr y.2.1),!(.inr y.2.2)]
def JC(l:List aV):Prop:=∃k t y,l=rt k t y
theorem abp:∀k:aV,SQ (wU k)=!k
 |none=>rfl
 |some (.inl _)=>rfl
 |some (.inr _)=>rfl
theorem JD:∀l:List aV,BV (l.map wU)=!l
 |[]=>rfl
 |k::l=>by show ((SQ (wU k)).bind λx=>(BV (l.map wU)).map (x::·))=_;rw[abp,JD l];rfl
theorem JF:∀L:List (List aV),BW (L.map kp)=!L
 |[]=>rfl
 |l::L=>by show ((BV (l.map wU)).bind λx=>(BW (L.map kp)).map (x::·))=_;rw[JD,JF L];rfl
def Ic(h:∀l∈L,JC l):Vu L=G:=by
 cases L with
 |nil=>rfl
 |cons l L=>
  let(k,t,y,rfl):=h l cS;unfold Vu;rw[iF,all_eq_true];show#[O,λx j=>?_];let(q,z,D,rfl):=h x j;rfl
def Oj(h:f Y=!(l,Y1))(j:l.pv=R (L.map kp))(i:-L<9000)(q:∀l∈L,JC l):sX f Y=!(Zs (R ((jV L).map kp)),Y1):=by unfold sX;rw[h,c9,j];show ((BW (L.map kp)).bind _)=_;rw[JF,c9,ax #[i,Ic q]]
def afl(h:JC l):fl (kp l):=by let(k,t,y,rfl):=h;show#[O,by show 1+1<=20;decide]
def We{L:List (List aV)}(h:∀l∈L,JC l):eR (R (L.map kp)) (R (L.map kp))=zS (.bl G):=by
 show (dH 150 (R (L.map kp)) (R (L.map kp))).map _=_;rw[jr λp j=>by let(l,q,rfl):=dA.mp j;show jl (afl (h l q)) ()]
 rfl
def c1:PV->Bool
 |ZB (_::ZI t::_)=>decide (1<t)
 |_=>M
theorem Om:∀l:List (List aV),-(uY k l)<=-l+1
 |[]=>dP _
 |x::l=>by
  have:=Om (k:=k) l;unfold uY;split
  . grind
  . split<;>simp only[db]<;>lia
theorem JG:∀l:List (List aV),-(jV l)<=-l
 |[]=>dP _
 |k::l=>by let h1:=JG l;let h2:=Om (k:=k) (jV l);show -(uY k (jV l))<=_;rw[db];lia
structure RR where
 A:gK
 T:List Str
 B:List S3
 C:gK
 D:gK
structure RR.ok(P:Pg)(x:Nat×gK)(ZN:RR):Prop where
 lt:x.1<44
 bo:BO P x.1 x.2 ZN.A ZN.T
 lB:-ZN.B<=41
 lC:-ZN.C<=3
 lD:-ZN.D<=47
 zdy:∀mu n,PA mu n P->qt [.ptr n,.int (x.1:Nat)] mu=!(.own (.lst (ZN.B.map mV)),mu)
 tC:∀mu n,PA mu n P->j4 [.ptr n,.int (x.1:Nat)] mu=!(.own (.lst (ZN.C.map jc)),mu)
 tD:∀mu n,PA mu n P->lu [.ptr n,.int (x.1:Nat)] mu=!(.own (.lst (ZN.D.map jc)),mu)
def rA(k:Nat)(a:Str×Str):List aV:=rt k 0 (a.1,a.2,"at " ++ lF k)
def rC(k:Nat)(a:Str×Str):List aV:=rt k 2 ("back",a.1,a.2)
def rD(k:Nat)(a:Str×Str):List aV:=rt k 3 ("leave",a.1,a.2)
def RR.ks(k:Nat)(ZN:RR):List (List aV):=(ZN.A++ZN.T.map λy=>(("turns" : Str),y)).map (rA k)++(ZN.B.map (rt k 1)++(ZN.C.map (rC k)++ZN.D.map (rD k)))
def RR.is{ZN:RR}:∀l∈ZN.ks k,JC l:=λl j=>by unfold RR.ks at j;simp only[d6,dA]at j;rcases j with ⟨y,_,rfl⟩|⟨y,_,rfl⟩|⟨y,_,rfl⟩|⟨y,_,rfl⟩<;>show#[_,_,_,O]
def RR.ok.len{ZN:RR}(h:ZN.ok P x):-(ZN.ks x.1)<=194:=by let(_,(h1,h2,_),D,j,z,_):=h;unfold RR.ks;simp only[eS,da];lia
def Iq(P:Pg):-(du P.fs 0)=-P.es:=by
 have:=congrArg List.length (ur P.fs 0)
 rwa [da,List.length_range',rj]at this
def adK(h:P.fine)(hF:∀n,FN.fn n->∃f∈P.fns,f.name=n):∃f:Nat×gK->RR,∀x∈du P.fs 0,(f x).ok P x:=by
 show Classical.axiomOfChoice (r:=λx ZN=>x∈du P.fs 0->RR.ok P x ZN) λx=>?_;by_cases hx:x∈du P.fs 0
 . let hl:=oX h;have hk:x.1< -P.es:=by have:=List.mem_map_of_mem (f:=(·.1)) hx;rw[ur,List.mem_range'_1,rj]at this;lia
   let(e,p,_):=Ku h hk;let(b,hb,eb):=p.bo;let(A,T,bo):=zbx h hx;let(B,dn):=aet h p hF;let(C,lC,tC):=abo p ();show#[#[A,T,B,C,rz b x.1],λ_=>#[(),bo,dn.lB,lC,za7 h hb,dn.told,tC,λmu n pa=>YD h p hb eb pa]]
 . show#[#[[],[],[],[],[]],λq=>absurd q hx]
def zdE(h:P.fine){f:Nat×gK->RR}(hf:∀x∈du P.fs 0,(f x).ok P x)(mu:Mu):∃hU,Hi [P.pv] mu=!(Zs (R ((jV ((du P.fs 0).flatMap λx=>(f x).ks x.1)).map kp)),hU):=by
 let(d,B,hd,ei):=aaW h.ok mu;have pa:PA (mu++some (gf "Plan" (Q0 P.es (-mu+1) (nG d)))::B) (-mu) P:=#[_,_,Td,hd];generalize mu++some (gf "Plan" (Q0 P.es (-mu+1) (nG d)))::B=kg at ei pa;let pl:=pa.pl;let hl:=oX h;let ln:=Iq P;let en:=Ti pl ();rw[show aU (List.range (-P.es))=(du P.fs 0).map λx=>PV.int (x.1:Nat) by rw[<-rj,List.range_eq_range',<-ur,aU,fE];rfl]at en;show#[kg,io λZN K=>?_]
 walk_at "n1"
 show xF (tx (λ_=>aaU O O ei) O O ?_)
 walk_at "s"
 show nh (λv0 i v m=>m=(λ_=>kg)/\∃o,v=[zS P.pv,zS (.ptr (-mu)),zO ((((du P.fs 0).take i).flatMap λx=>(f x).ks x.1).map kp),o]) #[rfl,none,rfl] ?_ ?_
 . rintro i _ _ _ N hx cp ⟨rfl,o,rfl⟩;rw[eL]at hx;let(y,hy,rfl):=d4 hx;let ok:=hf y (gt hy);let lL:=uM (l:=(du P.fs 0).take i) (f:=λx=>(f x).ks x.1) λx hx=>(hf x (List.mem_of_mem_take hx)).len;rw[List.take_add_one,hy,Option.toList_some,pK]at cp;rw[i9]at lL;generalize (((du P.fs 0).take i).flatMap λx=>(f x).ks x.1)=L at lL cp;let(hk,(lA,lT,_,_,tA),lB,lC,lD,zdy,tC,tD):=ok;let tA:=tA kg _ pa;let zdy:=zdy kg _ pa;let tC:=tC kg _ pa;let tD:=tD kg _ pa;let(f1,f2,_):=Gq y.1 ()
   walk_at "s"
   show cp _ _ #[rfl,zI (y.1:Nat),?_];simp only[RR.ks,eD,fE,eK];rfl
 . rintro _ _ ⟨rfl,o,rfl⟩;rw[da,List.take_length]
   walk_at "s"
   show qV (λ_=>Oj (l:=.sh _) (Y1:=#[_,_]) rfl rfl ?_ λl oj=>?_) K
   . let lL:=uM (l:=du P.fs 0) (f:=λx=>(f x).ks x.1) λx hx=>(hf x hx).len;lia
   . let(k,_,q):=List.mem_flatMap.mp oj;show RR.is l q
end
noncomputable section
variable [HK][FN]
def agi(h:∀ZN:Lc->(Unit->Mu)->Prop,(∀m,ZN r m)->qr (env0 n ps []).vs λv=>eH g v (λ_=>mu) (λ_ _=>False) ZN):∃j,cY n g ps mu=!(r,j):=by obtain⟨_,_,⟨⟩,_⟩|⟨x,D,z,rfl,e⟩:=h (λx _=>x=r) λ_=>O;show#[_,aO (e ⟨⟩)]
section
variable {ι:Type}{v v0 v1 v2:eW}{m m1 m2:ι->Mu}{f g:EF}{l:Lc}
def zcZ:E xy v m (Zs (iP [])) v m:=λ_=>O
def ahk(h:E f v m l v1 m1)(h2:kC l.pv C=!b):E (mi C f) v m (Zp (.bl b)) v1 m1:=λi=>Sk (h i) O h2
def zdW(h:E f v0 (λi=>(m i).map λ_=>J) l v1 m1)(z:Sy l=G)(j:v.map Zg=v0):E (vL f) v m l v m:=λi=>Sc (Y1:=#[v1,m1 i]) (by subst j;show h i) z
def zcR(h:E f v m (Zp (.bl G)) v1 m1)(h2:E g v1 m1 l v2 m2):E (Ma f g) v m l v2 m2:=λi=>by unfold Ma;rw[h i,c9];show h2 i
def Ix{ZN:Lc->(Unit->Mu)->Prop}(h0:qA v i=!p)(hv:v.set i (zS (ZA (-mu)))=v1)(h:∀N':eW->(Unit->Mu)->Prop,(∀v2 z q,v2[i]?=!(zS (ZA (-mu)))->z[-mu]?=!(!q)->N (v2.set i (!(Zs q))) (λ_=>z.set (-mu) J)->N' v2 λ_=>z)->eH F v1 (λ_=>mu++[!p]) N' λ_ _=>False):eH (Bw i (wQ i F)) v (λ_=>mu) N ZN:=by
 rcases h (λv2 m2=>∃q,v2[i]?=!(zS (ZA (-mu)))/\(m2 ⟨⟩)[-mu]?=!(!q)/\N (v2.set i (!(Zs q))) λ_=>(m2 ⟨⟩).set (-mu) J) (λv2 z q h1 h2 D=>⟨q,h1,h2,D⟩) with ⟨v2,m2,⟨q,h1,h2,D⟩,e⟩|⟨_,_,_,⟨⟩,_⟩;show Zl #[_,_,D,λj=>?_];have s:sealV i #[v,mu]=!#[v1,mu++[!p]]:=by unfold sealV;rw[xC h0,hv]
 show (((sealV i #[v,mu]).bind F).bind _)=_;rw[s,c9,e ⟨⟩,c9];unfold openV;grind
end
def ahl:kC (R ps) "list"=!G:=rfl
def ahm:kC (ZB ps) "tuple"=!G:=rfl
def ahn:kC (ZI i) "bool"=!M:=rfl
theorem u3:∀a b:List Fn,d8 (a++b)=d8 a+d8 b
 |[],b=>(kc _).symm
 |f::a,b=>by show f.rows.cnt+d8 (a++b)=f.rows.cnt+d8 a+d8 b;rw[u3 a b];lia
theorem zD:∀(a b:List Fn)(k:Nat),du (a++b) k=du a k++du b (k+d8 a)
 |[],b,k=>rfl
 |f::a,b,k=>by show _++du (a++b) _=(_++_)++du b (k+(f.rows.cnt+d8 a));rw[zD a b,eK,IM]
def zc7:MU (mu++[!(iP ks)]) (-mu) ks=mu++[!(iP ks)]:=Te
def Iy{rs:Rows}(ok:rs.ok)(j:rs.dep<=11)(hk:k+rs.cnt<=44)(hz:-ks<=47*k):kD 40 [R rs.pvs,ZI (k:Nat),R [ZB [ZH "enter",ZH ("enter " ++ w)]],ZA (-mu)] (mu++[!(iP ks)])=!(Zp (ZI ((k+rs.cnt:Nat):Int)),MU (mu++[!(iP ks)]) (-mu) (d0 ks (fS (rs.prs k [("enter","enter " ++ w)])))):=by have:=uS 40 rs k [("enter","enter " ++ w)] ks (mu++[!(iP ks)]) (-mu) ok () j () () () (by simp);rw[zc7]at this;show this
theorem u4{P:Pg}(h:P.fine):∀(fs:List Fn)(k:Nat),(∀f∈fs,f∈P.fs)->-(fS (du fs k))<=47*d8 fs
 |[],k,_=>dP _
 |f::fs,k,j=>by let(h1,h2,_):=rh h f (j f cS);let l1:=H_ (k:=k) (B:=[("enter","enter " ++ f.name)]) h1 h2 ();let l2:=u4 h fs (k+f.rows.cnt) λg z=>j g (d_ _ z);rw[du,rO,eS,d8];lia
end
noncomputable section
variable [HK][FN]
def c0:List aV->Bool
 |_::some (.inl t)::some (.inr a)::_=>t==0&&not (a== "turns")
 |_=>M
def zdr{f:Nat×gK->RR}(D:∀x∈du P.fs 0,(f x).ok P x):(jV ((du P.fs 0).flatMap λx=>(f x).ks x.1)).filter c0=jV ((d0 [] (fS (du P.fs 0))).map λk=>k.map some):=by
 show SX (yF.filter _) yF λl=>?_;rw[List.mem_filter,pC,pC,List.mem_flatMap];constructor
 . rintro⟨⟨x,hx,q⟩,j⟩;let(_,(_,_,mem,_),_):=D x hx;unfold RR.ks at q;simp only[d6,dA]at q;obtain⟨y,hy,rfl⟩|⟨y,_,rfl⟩|⟨y,_,rfl⟩|⟨y,_,rfl⟩:=q
   . obtain hy|⟨z,_,rfl⟩:=hy
     . show dA.mpr #[hV x.1 y,ut.mpr (YY (List.mem_flatMap.mpr #[x,hx,List.mem_map_of_mem ((mem y).mp hy)])),O]
     . show absurd (show (G&&not (("turns" : Str)== "turns"))=G from j) ()
   . show absurd (show M=G from j) ()
   . show absurd (show M=G from j) ()
   . show absurd (show M=G from j) ()
 . intro q;let(k,hk,rfl):=dA.mp q;obtain hk|hk:=ut.mp hk
   . cases hk
   . let(x,hx,hk):=List.mem_flatMap.mp hk;let(y,hy,rfl):=dA.mp hk;let(_,(_,_,mem,nt,_),_):=D x hx;let hy:=(mem y).mpr hy;show#[#[x,hx,?_],?_]
     . show ii _ (dA.mpr #[y,ii _ hy,O])
     . show (G&&not (y.1== "turns"))=G;rw[nt y hy];rfl
end
local macro_rules | `(tactic| walk_at "x")=>`(tactic| first | exact HG | exact ahl | exact ahm | exact ahn)
local macro_rules | `(tactic| walk_at "y")=>`(tactic| first
 | (with_reducible apply ahk); walk_at "e"; walk_at "o"
 | (with_reducible exact zcZ))
noncomputable section
variable [HK][FN]
omit [FN] in
def law_true(ns:List Int)(hl:-ns<=63):∃mu,S6 [.lst (ns.map PV.int)] []=!(.sh (.bl true),mu):=by
 let(F,P,h,hF,ep):=Tg ns hl;let(kg,e1):=ep [];let(f,hf):=adK h hF;let el:=oX h;let ec:=es_len P;have l6:-("enter " : Str)=6:=by decide +kernel
 show agi λZN K=>?_
 walk_at "s"
 show(show eH (eN _ _ (P.fns.map Fn.pv)) _ _ _ _ from ?_);show nh (λv0 i v m=>∃mu o4 o5 o6 o7,(m=λ_=>mu)/\v=[zL (ns.map PV.int),zS P.pv,!(.own (iP (d0 [] (fS (du (P.fns.take i) 0))))),zI (d8 (P.fns.take i):Nat),o4,o5,o6,o7,none,none,none]) #[_,_,_,_,_,rfl,rfl] ?_ ?_
 . rintro i _ _ _ N hx cp ⟨mu,o4,o5,o6,o7,rfl,rfl⟩;rw[eL]at hx;let(g,hy,rfl):=d4 hx;let hm:=gt hy;let(ok,hd,hn):=rh h g (ii _ hm);let lD:=u4 h (P.fns.take i) 0 λf hf=>ii _ (List.mem_of_mem_take hf);let lA:=ms (L:=fS (du (P.fns.take i) 0)) (ks:=[]);have ct:d8 (P.fns.take i)+g.rows.cnt<=d8 P.fns:=by have:=u3 (P.fns.take (i+1)) (P.fns.drop (i+1));rw[List.take_append_drop,List.take_add_one,hy,Option.toList_some,u3]at this;have:d8 [g]=g.rows.cnt:=rfl;lia
   let e:=Iy (mu:=mu) (w:=g.name) (k:=d8 (P.fns.take i)) (ks:=d0 [] (fS (du (P.fns.take i) 0))) ok hd () (by simp only[e_]at lA;lia)
   walk_at "s"
   show Ix rfl rfl λN' z_=>?_
   walk_at "s"
   show z_ _ _ _ rfl (zw (by simp)) (cp _ _ #[_,zT g.name,zS g.rank,zL g.params,zL g.rows.pvs,rfl,?_]);rw[List.take_add_one,hy,Option.toList_some,u3,zD,rO,oB,kc];show (_:eW)=[_,_,!(.own (iP (d0 _ (fS (g.rows.prs _ _++[]))))),zI ((_+(g.rows.cnt+0):Nat):Int),_,_,_,_,_,_,_];rw[fg];rfl
 rintro _ _ ⟨mu,o4,o5,o6,o7,rfl,rfl⟩;rw[da,List.take_length];let lD:=u4 h P.fns 0 λf hf=>ii _ hf;let lA:=ms (L:=fS (du P.fns 0)) (ks:=[]);let e:=Iy (mu:=mu) (w:="main") (k:=d8 P.fns) (ks:=d0 [] (fS (du P.fns 0))) h.ok.rw h.dd () (by simp only[e_]at lA;lia);rw[show ("enter " : Str) ++ "main"="enter main" by decide +kernel]at e
 walk_at "s"
 show Ix rfl rfl λN' z_=>?_;have e2:qG P.pv (.int 3)=zL P.rows.pvs:=rfl
 walk_at "s"
 show z_ _ _ _ rfl (zw (by simp)) ?_;have ea:d0 [] (fS (du P.fs 0))=d0 (d0 [] (fS (du P.fns 0))) (fS (P.rows.prs (d8 P.fns) [("enter","enter main")])):=by unfold Pg.fs;rw[zD,rO,oB,kc];show d0 _ (fS (P.rows.prs _ [("enter","enter " ++ "main")]++[]))=_;rw[fg,show ("enter " : Str) ++ "main"="enter main" by decide +kernel]
 rw[<-ea];have lz:-(d0 [] (fS (du P.fs 0)))<9000:=by let h1:=u4 h P.fs 0 λf hf=>hf;let h2:=ms (L:=fS (du P.fs 0)) (ks:=[]);rw[rj]at h1;simp only[e_]at h2;lia
 let hp:=zdr hf;have iD:∀l∈(d0 [] (fS (du P.fs 0))).map λk=>k.map some,JC l:=λl hl=>by
  let(k,hk,rfl):=dA.mp hl;obtain hk|hk:=ut.mp hk
  . cases hk
  . let(x,hx,hk):=List.mem_flatMap.mp hk;let(y,hy,rfl):=dA.mp hk;show#[x.1,0,(y.1,y.2,"at " ++ lF x.1),rfl]
 generalize d0 [] (fS (du P.fs 0))=ks at lz hp iD;generalize (MU (mu++_) (-mu) ks).set (-mu) none=nk;let(IA,e3):=zdE h hf nk;have iL:∀l∈jV ((du P.fs 0).flatMap λx=>(f x).ks x.1),JC l:=λl hl=>by let(x,_,q):=List.mem_flatMap.mp (pC.mp hl);show RR.is l q
 have lL:-(jV ((du P.fs 0).flatMap λx=>(f x).ks x.1))<=8536:=by let h1:=JG ((du P.fs 0).flatMap λx=>(f x).ks x.1);let h2:=uM (l:=du P.fs 0) (f:=λx=>(f x).ks x.1) λx hx=>(hf x hx).len;rw[Iq]at h2;lia
 generalize jV ((du P.fs 0).flatMap λx=>(f x).ks x.1)=L at e3 iL lL hp
 walk_at "s"
 show nh (λv0 i v m=>∃kF,(m=λ_=>IA)/\v=(v0.set 9 (zO (((L.take i).filter c0).map kp))).set 10 kF) #[none,rfl,rfl] ?_ ?_
 . rintro i _ _ _ N hx cp ⟨kF,rfl,rfl⟩;rw[eL]at hx;let(l,hy,rfl):=d4 hx;let bp:=List.length_filter_le c0 (L.take i);rw[i9]at bp;rw[List.take_add_one,hy,Option.toList_some,List.filter_append]at cp;generalize (L.take i).filter c0=ZO at bp cp;let(k,t,y,rfl):=iL l (gt hy)
   walk_at "s"
   . intro q
     walk_at "s"
     show cp _ _ #[zS (kp (rt k t y)),rfl,?_];rw[show [rt k t y].filter c0=[rt k t y] from List.filter_cons_of_pos q,eD];rfl
   . intro q
     walk_at "s"
     show cp _ _ #[zS (kp (rt k t y)),rfl,?_];rw[show [rt k t y].filter c0=[] from List.filter_cons_of_neg (by rw[show c0 (rt k t y)=false from q];simp),fg];rfl
 rintro _ _ ⟨kF,rfl,rfl⟩;rw[da,List.take_length,hp];let(mu4,e4):=ep (IA.map λ_=>none);have s1:xA [iP ks]=zO ((jV (ks.map λk=>k.map some)).map kp):=ax #[lz,Ic iD];let k1:=We λl hl=>iD l (pC.mp hl);let k2:=aa9 h;apply qV
 . apply zdW (v0:=[zL (ns.map PV.int),zS P.pv,zS (iP ks),zI (d8 P.fns:Nat),Zg o4,Zg o5,Zg o6,Zg o7,zL (L.map kp),zL ((jV (ks.map λk=>k.map some)).map kp),Zg kF])
   . apply zcR
     . apply DL
       . walk_at "e"
       . apply e_b
         . walk_at "e"
         . show s1
       . show k1
     . walk_at "e"
   . show rfl
   . show rfl
 . show K _
end
section
variable (K:FG)(x qq:Str)(st:Stmt)(f c:Addr)
abbrev IB:Prop:=∃(oc kV dc pm cd ct:Value)(od an:Option Addr)(sl:Array (Option Value)),K.lookup f=!#[oc,od,.func (W.fnOf x qq (qO st) (jC st) (aG st) .none kV dc pm an cd ct),sl]/\W.codeIn K cd qq=G/\W.keepIn K (YV f)=G
abbrev FD:Prop:=∃f,W.nsIn K mainGlobals x=!(!(YV f))/\IB K x x st f
abbrev FM:Prop:=∃f,W.findIn K (YV c) x=!(!(YV f))/\W.isFn K (YV f)=G/\IB K x qq st f
abbrev KC:Prop:=W.nsIn K mainGlobals x=!(!(YV c))/\W.plainGet K c Str.empty=G/\W.hasDictIn K c=G/\W.plainOver K c=G/\W.findIn K (YV c) "__setattr__"=!(!(.builtin "object.__setattr__"))/\W.makesIn K c=G/\W.keepIn K (YV c)=G
abbrev HB(ps:List Str):Prop:=∀(kV l3 pm:Value)(an:Option Addr)(i_ ct:Value)(us:List Value),-us=-ps->bindArgs (W.fnOf x qq (qO st) (jC st) (aG st) .none kV l3 pm an i_ ct) #[us,[]]=pure (ps.zip us)
end
section
variable {K:FG}{h:Heap}{mg:Str->Option Value}{x qq:Str}{st:Stmt}{c:Addr}{ps:List Str}
def jd(X:K.In h)(ZT:h.Ns mainGlobals mg)(d:FD K x st)(j:HB x x st ps):cL K mg x st ps:=by let(f,a,_,_,_,_,_,_,_,_,_,l,e,k):=d;show#[_,_,zQ l e k,W.mg_of X ZT a,(zQ l e k).binds j]
def Di(d:FM K x qq st c)(j:HB x qq st ps):wO K c x qq st ps:=by let(f,a,i,_,_,_,_,_,_,_,_,_,l,e,k):=d;show#[_,_,zQ l e k,a,i,(zQ l e k).binds j]
def mkT(X:K.In h)(G:h.Ns mainGlobals mg)(d:KC K x c):yx K mg x c:=#[d.1,#[d.2.1,d.2.2.1,d.2.2.2.1,d.2.2.2.2.1],W.mg_of X G d.1]
def Ap(n:W.findIn K (YV c) x=!J)(t:∀f∈l,kW K c f):∀f∈x::l,kW K c f:=by
 intro g i;obtain e|i:=bh.mp i
 . rw[e];show n
 . grind
def nan:∀f∈([]:List Str),kW K c f:=λ_ h=>nomatch h
def bc(X:K.In h)(ZT:h.Ns mainGlobals mg)(n:W.nsIn K mainGlobals x=!J)(t:QG mg l):QG mg (x::l):=by
 intro g j;obtain e|j:=bh.mp j
 . rw[e];show W.mg_none_of X ZT n
 . show t g j
def bn:QG mg []:=λ_ h=>nomatch h
end
local macro_rules | `(tactic| walk_at "b")=>`(tactic| (intro _ _ _ _ _ _ us hl; first | (obtain⟨_,e⟩:=yZ hl; subst e; rfl) | (obtain⟨_,_,e⟩:=qk hl; subst e; rfl) | (obtain⟨_,_,_,e⟩:=CM hl; subst e; rfl) | (obtain⟨_,_,_,_,e⟩:=CO hl; subst e; rfl) | (obtain⟨_,_,_,_,_,e⟩:=P5 hl; subst e; rfl)))
def all_mk{l:W.OpenLaw}{w:World}{K:FG}{h:Heap}{mg:Str->Option Value}{fa:Addr}(X:K.In h)(ZT:h.Ns mainGlobals mg)(hfa:mg "law"=!(.ref fa))
 (akg:∃c,KC K "Plan" c/\(W.findIn K (.ref c) "told"=!none/\W.findIn K (.ref c) "lists"=!none/\W.findIn K (.ref c) "heads"=!none)/\FM K "__init__" "Plan.__init__" j8 c/\FM K "numbers" "Plan.numbers" qg c/\FM K "params" "Plan.params" rH c/\FM K "row" "Plan.row" wk c/\FM K "home" "Plan.home" u5 c/\FM K "outer" "Plan.outer" tU c/\FM K "body" "Plan.body" u6 c/\FM K "block" "Plan.block" tV c/\FM K "just_ahead" "Plan.just_ahead" mJ c/\FM K "spending" "Plan.spending" j9 c)
 (aj1:FD K "blocks_of" wj)
 (ajy:FD K "expressions_of" oR)
 (akc:FD K "copied" yG)
 (ajQ:FD K "all_copied" mG)
 (aj6:FD K "in_order" uh)
 (aj7:FD K "laid_out" ul)
 (aj8:FD K "numbered" yH)
 (ake:FD K "reads" BX)
 (aj9:FD K "names_in" um)
 (akd:FD K "spends" yI)
 (ajR:FD K "behind_row" pY)
 (akf:FD K "rules" rE)
 (ajS:FD K "boxes_read" pZ)
 (ajB:FD K "begin_sources" jF)
 (ajC:FD K "first_sources" lV)
 (ajG:FD K "turn_sources" rF)
 (ajT:FD K "done_steps" qd)
 (ajK:FD K "given_steps" oA)
 (ajU:FD K "back_steps" qe)
 (ajL:FD K "leave_steps" oE)
 (ajH:FD K "_law_cell_at" rG)
 (ajV:FD K "_law_names" mH)
 (ajv:FD K "_law_expression" nO)
 (aka:FD K "_law_row" uo)
 (aj2:FD K "_law_rows" sE)
 (ajW:FD K "_law_heads" uZ)
 (ajI:FD K "_law_program" il)
 (ajM:FD K "_law_spends" lg)
 (aj3:FD K "_law_size" nY)
 (ajN:FD K "_law_behind" lq)
 (aj4:FD K "_law_read" uq)
 (akb:FD K "_law_due" oq)
 (akh:FD K "law" vP)
 (z0:W.nsIn K mainGlobals "any"=!none)
 (z1:W.nsIn K mainGlobals "bool"=!none)
 (z2:W.nsIn K mainGlobals "enumerate"=!none)
 (z3:W.nsIn K mainGlobals "isinstance"=!none)
 (z4:W.nsIn K mainGlobals "len"=!none)
 (z5:W.nsIn K mainGlobals "list"=!none)
 (z6:W.nsIn K mainGlobals "range"=!none)
 (z7:W.nsIn K mainGlobals "set"=!none)
 (z8:W.nsIn K mainGlobals "sorted"=!none)
 (z9:W.nsIn K mainGlobals "str"=!none)
 (vE:W.nsIn K mainGlobals "sum"=!none)
 (z11:W.nsIn K mainGlobals "tuple"=!none)
 (z12:W.nsIn K mainGlobals "zip"=!none)
 (HL:∀[HK] (ns:List Int),-ns<=63->∃mu,S6 [.lst (ns.map PV.int)] []=!(.sh (.bl true),mu))
 : ∃fd:FuncData,(∀(s:Shared)(v:Value),BindsTo s fd #[[v],[]] [("_law_script",v)])/\∀base:Heap,K.In base->base.Ns mainGlobals mg->oK l.prog w K mg base qD 121 fa fd ["_law_script"] (Kl K):=by
 letI:HK:=#[CT l.prog w]
 have d5:HK.hk=CT l.prog w:=rfl;let(eM,As,(n0,n1,n2),ajz,ajD,ajJ,aj5,ajY,ajO,ajZ,ajP,aju,ajA):=akg;let dy:=mkT X ZT As;let dO:=Ap n0 (Ap n1 (Ap n2 (nan)));have B:QG mg BL:=bc X ZT z0 (bc X ZT z1 (bc X ZT z2 (bc X ZT z3 (bc X ZT z4 (bc X ZT z5 (bc X ZT z6 (bc X ZT z7 (bc X ZT z8 (bc X ZT z9 (bc X ZT vE (bc X ZT z11 (bc X ZT z12 (bn)))))))))))));let(_,a,_,kV,dc,pm,cd,ct,_,an,_,lk,ce,kp):=akh;let e:=hfa.symm.trans (W.mg_of X ZT a);cases e;show#[W.fnOf "law" "law" (qO vP) (jC vP) (aG vP) .none kV dc pm an cd ct,λs v=>.of_eq rfl,λbase _ _=>?_];let IC:=Nf (base:=base) B dy dO d5 (jd X ZT aj1 (by walk_at "b"));let ai0:=Cy (base:=base) B dy dO d5 (jd X ZT ajy (by walk_at "b"));let ID:=Gg (base:=base) B dy dO d5 (jd X ZT akc (by walk_at "b")) (jd X ZT ajQ (by walk_at "b")) 40;let bX:=ID.1;let ai2:=ID.2;let ai3:=Aq (base:=base) B dy dO d5 (jd X ZT aj6 (by walk_at "b")) IC 40;let c5:=Ar (base:=base) B dy dO d5 (jd X ZT aj7 (by walk_at "b")) IC bX 40;let ajq:=Ph (base:=base) B dy dO d5 (jd X ZT aj8 (by walk_at "b")) c5;let ai7:=Jo (base:=base) B dy dO d5 (jd X ZT ake (by walk_at "b")) 40;let ajr:=Pj (base:=base) B dy dO d5 (jd X ZT aj9 (by walk_at "b")) ai7;let ajx:=Vy (base:=base) B dy dO d5 (jd X ZT akd (by walk_at "b")) ai3;let IG:=Hk (base:=base) B dy dO d5 (Di ajP (by walk_at "b"));let ny:=Ng (base:=base) B dy dO d5 (Di aj5 (by walk_at "b"));let IH:=Cz (base:=base) B dy dO d5 (Di ajA (by walk_at "b")) ny ajx;let At:=xf (base:=base) B dy dO d5 (jd X ZT ajR (by walk_at "b")) IG ny IH 40;let ai1:=To (CG (base:=base) B dy dO d5 (Di ajz (by walk_at "b")) ajq) As.2.2.2.2.2.1 As.2.2.2.2.2.2;let ai5:=DW (base:=base) B dy dO d5 (Di ajD (by walk_at "b"));let aji:=JV (base:=base) B dy dO d5 (jd X ZT ajU (by walk_at "b")) ny;let cx:=zB (base:=base) B dy dO d5 (Di aju (by walk_at "b"));let II:=JW (base:=base) B dy dO d5 (Di ajY (by walk_at "b"));let ajb:=Hl (base:=base) B dy dO d5 (Di ajO (by walk_at "b"));let u7:=JX (base:=base) B dy dO d5 (jd X ZT ajS (by walk_at "b")) ajr;let ai4:=DX (base:=base) B dy dO d5 (jd X ZT ajC (by walk_at "b")) II ajb ny u7;let ai8:=Gh (base:=base) B dy dO d5 (jd X ZT ajG (by walk_at "b")) IG ny At u7;let ai6:=DY (base:=base) B dy dO d5 (jd X ZT ajB (by walk_at "b")) cx ny At ai4 ai8;let ai9:=Gi (base:=base) B dy dO d5 (Di ajJ (by walk_at "b"));let aiZ:=Hm (base:=base) B dy dO d5 (jd X ZT ajK (by walk_at "b")) u7;let ajj:=JZ (base:=base) B dy dO d5 (jd X ZT ajT (by walk_at "b")) ai9 ny u7 ai0 aiZ;let ajh:=J0 (base:=base) B dy dO d5 (Di ajZ (by walk_at "b"));let ajc:=Hn (base:=base) B dy dO d5 (jd X ZT ajL (by walk_at "b")) ajh II IH At;let yv:=Yg (base:=base) B dy dO d5 (jd X ZT akf (by walk_at "b")) ai1 ai5 aji ai6 ajj ajc;let aiW:=Gj (base:=base) B dy dO d5 (jd X ZT ajH (by walk_at "b"));let ajl:=J1 (base:=base) B dy dO d5 (jd X ZT ajV (by walk_at "b"));let F1:=Av (base:=base) B dy dO d5 (jd X ZT ajv (by walk_at "b"));let ajs:=Pk (base:=base) B dy dO d5 (jd X ZT aka (by walk_at "b")) F1;let aja:=Nh (base:=base) B dy dO d5 (jd X ZT aj2 (by walk_at "b")) ajs;let ajk:=J2 (base:=base) B dy dO d5 (jd X ZT ajW (by walk_at "b"));let t9:=Gk (base:=base) B dy dO d5 (jd X ZT ajI (by walk_at "b")) aiW ajk ajl aja;let aiO:=vW (base:=base) B dy dO d5 (jd X ZT ajM (by walk_at "b")) 40;let aiQ:=zq (base:=base) B dy dO d5 (jd X ZT aj3 (by walk_at "b")) 40;let F3:=vX (base:=base) B dy dO d5 (jd X ZT ajN (by walk_at "b")) aiQ aiO 40;let F4:=F2 (base:=base) B dy dO d5 (jd X ZT aj4 (by walk_at "b")) 40;let q_:=F5 (base:=base) B dy dO d5 (jd X ZT akb (by walk_at "b")) F3 F4 40;show RU (ac8 (base:=base) B dy dO d5 (zQ (st:=vP) lk ce kp) q_ t9 yv) HL
def walk{l:W.OpenLaw}{K:Params->FG}(hn:l.most=!63)(pE:d.params.defaults=[])
 (hY_:∀(w:World)(h:Heap),YP w h->(K w.params).In h)
 (F:∀(w:World)(mg:Str->Option Value)(fa:Addr)(h:Heap),(K w.params).In h->h.Ns mainGlobals mg->mg d.name=!(.ref fa)->
   ∃fd:FuncData,(∀(s:Shared)(u:Value),BindsTo s fd #[[u],[]] [("_law_script",u)])/\∀base:Heap,(K w.params).In base->base.Ns mainGlobals mg->oK l.prog w (K w.params) mg base qD 121 fa fd ["_law_script"] (Kl (K w.params))):
 W.WalkO q loose XP YP l.row.toRowW d [] (λf vs=>PySem.call f vs):=
 L2.walk_of (x:="_law_script") hn () pE #[λ_=>rfl,by decide,by decide,rfl] hY_ F (λ_ _ a ns hl _ hS=>#[a,ns,rfl,hS,hl,λ_=>rfl]) λ_ _ _ _ _ z=>z
end Law
namespace PySem.W.Fast
def tw17634791450173679724:=0
def tw13300090641645958235:=0
def tw2844683310261493630:=0
def tw9566872239219096337:=0
def tw741678476340335664:=0
def tw10544953454712451489:=0
def tw11011734017233298507:=0
def tw9167166780743181267:=0
def tw8328985832379124285:=0
def tw16250483977095942829:=0
def tw5532264741523955885:=0
def tw4057947795555552504:=0
def tw6515171657342076476:=0
def tw4219073037267503462:=0
def tw5308563602691429671:=0
def tw6714590384900554861:=0
def tw13611113519407955495:=0
def tw16980965441670764167:=0
def tw6823092356342202510:=0
def tw9357713635920680906:=0
def tw14595710737921420963:=0
def tw7158927992175680510:=0
def tw14699460503975116275:=0
def tw8224529965066348866:=0
def tw17791950484792942639:=0
def tw6871387108580979742:=0
def tw10164065063267807363:=0
def tw7722191464127050572:=0
def tw10453020103570203104:=0
def tw8073493152954555346:=0
def tw16920607352956084939:=0
def tw3174734328226014744:=0
def tw18034641376846268963:=0
def tw7307030060145645255:=0
def tw8808680707873207536:=0
def tw17244819916813584449:=0
def tw18334483338095084332:=0
def tw18424662039331771385:=0
def tw5571239638678388635:=0
def tw1426073863564029256:=0
def tw10526280118979371445:=0
def tw11014439110368585544:=0
def tw8983236734824315510:=0
def tw7484423424588130812:=0
def tw16156231992518096693:=0
def tw576556459137981030:=0
def tw1588694056941123006:=0
def tw13173663700180469244:=0
def tw8527532966432409102:=0
def tw437330738045409097:=0
def tw11853055131777808382:=0
def tw16500706314348931597:=0
def tw1636920832321926535:=0
def tw16659660760380793887:=0
def tw16438485093990690596:=0
def tw16673217624480728065:=0
def tw6759566767968274250:=0
def tw9166831473633658079:=0
def tw285229974665354401:=0
def tw12804624461300015502:=0
def tw11287127028384389561:=0
def tw3035487964478811229:=0
def tw2846212716438736439:=0
def tw1559038679528283070:=0
def tw3181368244459648051:=0
def tw11598238496640544557:=0
def tw5365363415792869068:=0
def tw1523097694295389458:=0
def tw3910547189842005248:=0
def tw11183390736270168321:=0
def tw3159690982016064939:=0
def tw5043749465464510504:=0
def tw12146925953538548958:=0
def tw14049068661940454656:=0
def tw9840649315715836917:=0
def tw18008371639567683970:=0
def tw17870862370143519626:=0
def tw11193989942724602290:=0
def tw3689039939616560623:=0
def tw7514547048372940215:=0
def tw1865731546256040775:=0
def tw7061200368992745552:=0
def tw1313003866367260540:=0
def tw825697881493934076:=0
def tw15362541575768272505:=0
def tw15375747452987789575:=0
def tw6851743899015370138:=0
def tw14492134392463584131:=0
def tw11340754190606214003:=0
def tw12234666759291180711:=0
def tw14175408568779225287:=0
def tw9149916155516573748:=0
def tw843945889986320221:=0
def tw17602764049206385860:=0
def tw5838459048397680344:=0
def tw7649543673561694569:=0
def tw2183608173455477588:=0
def tw9420077430922793385:=0
def tw91164805938948985:=0
def tw709971302960955610:=0
def tw12044509863198987518:=0
def tw4691234389021179826:=0
def tw14872368264991637193:=0
def tw17459407610128505134:=0
def tw4530841403898745222:=0
def tw12845713360412788467:=0
def tw11596085357568455093:=0
def tw5973704734871607088:=0
def tw7442589687145313284:=0
def tw11095950041777758081:=0
def tw5371211317827662520:=0
def tw15879073701660227033:=0
def tw359876447271508815:=0
def tw12439110973393561456:=0
def tw584181680302865707:=0
def tw3301309333046511815:=0
def tw11886098457785853940:=0
def tw7461008469103973627:=0
def tw16823971768076368365:=0
def tw8067785640049404772:=0
def tw4727080091619105403:=0
def tw9346190733515209140:=0
def tw11763207102688493235:=0
def tw8294050640356678075:=0
def tw11699179722404217241:=0
def tw1431986853675191746:=0
def tw3010912206145712347:=0
def tw5856829889681246519:=0
def tw15032792566104527293:=0
def tw11819037638536499744:=0
def tw4608577088206946461:=0
def tw6660590008131216695:=0
def tw3385713320090721420:=0
def tw8097994961809599439:=0
def tw7570786747497177022:=0
def tw11280163345412932115:=0
def tw8484278537776572502:=0
def tw4937258674556026591:=0
def tw4440998020475040308:=0
def tw1327578235653156586:=0
def tw16085142496313124790:=0
def tw13311213350673388276:=0
def tw13468576458899265229:=0
def tw2443827237789841158:=0
def tw12890868784580135426:=0
def tw4459029423707902690:=0
def tw15313904330511758185:=0
def tw2927037343035979785:=0
def tw16839872567378250465:=0
def tw7376515336111053260:=0
def tw10271550228230000641:=0
def tw8556422533463452457:=0
def tw15965040441895725313:=0
def tw13461903844797967853:=0
end PySem.W.Fast
end
open PySem PySem.W PyProof.Rows
local macro_rules | `(tactic| walk_at "m")=>`(tactic| exact ⟨_,by k_is,by k_is,_,_,_,_,_,_,_,_,_,by k_is,by k_is,by k_is⟩)
local macro_rules | `(tactic| walk_at "d")=>`(tactic| exact ⟨_,by k_is,_,_,_,_,_,_,_,_,_,by k_is,by k_is,by k_is⟩)
set_option maxRecDepth 100000 in
set_option maxHeartbeats 0 in
theorem PySem.Challenge.cw_hushwise_k32_rules_as_a_row_begins_holds : PySem.Challenge.rw_hushwise_k32_rules_as_a_row_begins.Holds := by
 w_on; o_law; k_head; (case hw=>w_witness2)
 k_fill
 refine Law.walk (l:=PySem.Challenge.rw_hushwise_k32_rules_as_a_row_begins) rfl rfl (fun w h Y=>W.kIn_of Y) ?F
 case F=>
  intro w mg fa h KX ZT hmg
  refine' Law.all_mk KX ZT hmg ?_ ?_ ?_ ?_ ?_ ?_ ?_ ?_ ?_ ?_ ?_ ?_ ?_ ?_ ?_ ?_ ?_ ?_ ?_ ?_ ?_ ?_ ?_ ?_ ?_ ?_ ?_ ?_ ?_ ?_ ?_ ?_ ?_ ?_ ?_ ?_ ?_ ?_ ?_ ?_ ?_ ?_ ?_ ?_ ?_ ?_ ?_ Law.law_true
  exact ⟨_,⟨by k_is,by k_is,by k_is,by k_is,by k_is,by k_is,by k_is⟩,⟨by k_is,by k_is,by k_is⟩,by walk_at "m",by walk_at "m",by walk_at "m",by walk_at "m",by walk_at "m",by walk_at "m",by walk_at "m",by walk_at "m",by walk_at "m",by walk_at "m"⟩
  iterate 33 walk_at "d"
  iterate 13 k_is
