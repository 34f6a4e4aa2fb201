import PyProof.Rows.All
import Wide.All
import OpenK.AllK
import PySem.Challenge.RW_hushwise_k39_rows_made_silent
set_option Elab.async false
set_option linter.all false
set_option bootstrap.genMatcherCode false
set_option genSizeOf false
set_option compiler.extract_closed false
set_option maxRecDepth 100000
set_option tactic.hygienic false
set_option maxHeartbeats 8000000
noncomputable section
namespace L2
open PySem Spec PyProof.Rows
def byText(w:World):=w.params.followText "set-order"
abbrev yj6(w:World):Obj:={cls:=.type "set",dict:=none,data:=.set #[] 0 (.fresh 0 0 (!byText w)),slots:=#[]}
section
variable{prog:Program}{w:World}{A:Around}{E:Value->Shared->Prop}{s:Shared}{R:Result->Shared->Prop}{T:Nat->Heap->Prop}
theorem P0(a:Value){Q}(h:Q (.ref s.heap.objs.size) {s with heap:=s.heap.push (yj6 w)}):codeAny (model prog w) A (.call (.builtin "set.__new__") ⟨[.type "set",a],[]⟩) (wants Q E) s:=by
 refine codeAny_of_tree (show wpAny _ A.in1 (do checkBuiltinCall "set.__new__" ⟨[.type "set",a],[]⟩;again (.builtin "set.__new__" ⟨[.type "set",a],[]⟩)) _ _ s from wpAny_bind (wpAny_of_eq (F.newCall_set_1 a) (wpAny_pure ⟨plainId_quiet F.plain_set_new _,codeAny_builtin F.entry_set_new (?_:wpAny _ _ _ _ _ _)⟩)))
 rw[Around.under_plainId F.plain_set_new _];unfold Builtin.«set.__new__» Builtin.Frozenset.newClass;have hs:=sub_set_self;obtain⟨x1,x2,x3,x4,x5⟩:=s;dsimp only
 wp_walk
 refine wpAny_askSetting (wpAny_pure ?_);dsimp only;simp only[newObj];exact wpAny_bind (wpAny_alloc (wpAny_pure (wpAny_pure h)))
theorem loop_G(W:WalksS prog w A.in1 I fp wr G n P U)(hD:D∉fp)(mv:∀{i h h'},T i h->(∀b o,b∉wr->h.get? b=some o->h'.get? b=some o)->T i h')(ad:∀{i v s Q E},i<n->P i v->T i s.heap->(∀b h' k,Heap.SameBut D s.heap h'->T (i+1) h'->Q b {s with heap:=h',toks:=s.toks+k})->wpAny (model prog w) A.in1 (setAdd D v) Q E s):∀(k i:Nat)s,n-i=k->i<=n->U i s->T i s.heap->(∀s',Moved (D::wr) G s s'->T n s'.heap->R (.ok (.ret .none)) s')->codeAny (model prog w) A (.builtin "set.update.loop" ⟨[.ref D,.ref I],[]⟩) R s:=by
 have mw:∀b∈wr,b∈D::wr:=λb=>.tail _
 intro k;induction k with
 |zero=>
  intro i s hk hi st S hR;obtain rfl:i=n:=by omega
  refine codeAny_builtin F.entry_set_update_loop ?_;rw[Around.under_plainId F.plain_set_update_loop _];exact wpAny_bind (m:=pyNext (.ref I)) (W.done s _ _ st λs' m=>wpAny_pure (hR s' (m.mono mw) (mv S m.heap)))
 |succ k ih=>
  intro i s hk hi st S hR;have lt:i<n:=by omega
  refine codeAny_builtin F.entry_set_update_loop ?_;rw[Around.under_plainId F.plain_set_update_loop _];refine wpAny_bind (m:=pyNext (.ref I)) (W.item i s _ _ lt st λv s' hP st' m=>wpAny_bind (m:=holding [v] (setAdd D v)) (wpAny_holding (ad lt hP (mv S m.heap) λb h' j sb S2=>wpAny_pure ⟨plainId_quiet F.plain_set_update_loop _,ih (i+1) _ (by omega) lt (W.frame _ s' _ _ st' (Nat.le_add_right _ _) λc hc o q=>?_) S2 λs'' m2 S3=>hR s'' (Moved.trans W.gtrans ((m.mono mw).then_heap (Nat.le_add_right _ _) λc o hc q=>?_) m2) S3⟩)))
  . rw[sb.2 c (λz=>hD (z▸hc))];exact q
  . rw[sb.2 c (λz=>hc (z▸.head _))];exact q
theorem set_of_G(hh:A.handled=none)(hl:s.heap.IsList l items)(z:∀{h'},h'.get? s.heap.objs.size=some (yj6 w)->(∀b o,s.heap.get? b=some o->h'.get? b=some o)->T 0 h')(mv:∀{i h h'},T i h->(∀b o,b≠s.heap.objs.size+1->h.get? b=some o->h'.get? b=some o)->T i h')(ad:∀{i v s' Q E},i<items.size->items[i]?=some v->T i s'.heap->(∀b h' k,Heap.SameBut s.heap.objs.size s'.heap h'->T (i+1) h'->Q b {s' with heap:=h',toks:=s'.toks+k})->wpAny (model prog w) A.in1.in1.in1 (setAdd s.heap.objs.size v) Q E s')(h:∀h' tk,T items.size h'->(∀b o,b<s.heap.objs.size->s.heap.get? b=some o->h'.get? b=some o)->Q (.ref s.heap.objs.size) {s with heap:=h',toks:=tk}):wpAny (model prog w) A (call (.type "set") [.ref l]) Q E s:=by
 obtain⟨c,tl,hm⟩:=F.called_set.mro;have m1:=F.called_set.made;have m2:=F.called_set.sub
 refine wpAny_call (codeAny_of_tree (show wpAny _ _ (callAny (.type "set") _) _ _ _ from wpAny_pure ⟨Code.quiet_builtin _ (by decide +kernel),codeAny_builtin F.entry_type_call (?_:wpAny _ _ _ _ _ _)⟩))
 rw[Around.under_plain (weight_type_call_type "set" [.ref l] []) rfl];have m3:=F.called_set.notType;have m4:=F.called_set.canCreate;have m5:=F.typeCall_set_1 (.ref l)
 repeat any_goals first|assumption|wp_step
 refine codeAny_mono (P0 (.ref l) (E:=E) (Q:=λo t=>o=.ref s.heap.objs.size/\t={s with heap:=s.heap.push (yj6 w)}) ⟨rfl,rfl⟩) λr t hr=>?_
 cases r with
 |error e=>exact hr
 |ok fl=>
  cases fl with
  |ret obj=>
   obtain⟨rfl,rfl⟩:=hr;have g0:(s.heap.push (yj6 w)).get? s.heap.objs.size=some (yj6 w):=Heap.get?_push_size _ rfl
   have hT:Shared.TypeIs {s with heap:=s.heap.push (yj6 w)} (.ref s.heap.objs.size) "set":=⟨_,g0,rfl⟩
   have m6:=F.called_set.init.lookup;have m7:=F.called_set.init.bind (.ref s.heap.objs.size)
   repeat any_goals first|assumption|wp_step
   refine codeAny_mono (codeAny_call_builtin (R:=wants (λr t=>r=.none/\∃h' tk,t={s with heap:=h',toks:=tk}/\T items.size h'/\(∀b o,b<s.heap.objs.size->s.heap.get? b=some o->h'.get? b=some o)) E) F.called_set.init.plain F.entry_set_init (check_set_init_1 hT ?_)) λr t hr=>?_
   . obtain⟨⟨c1,c2,c3,c4⟩,ho,hc,nl,hd⟩:=hl;simp only at hc hd;subst hc;subst hd;have hp:=Heap.get?_push_of_some (yj6 w) ho
     have n1:=F.sub_list_set;have n2:=F.sub_list_frozenset;have n3:(Value.type "list"==.type "dict")=false:=by decide
     have hl:(s.heap.push (yj6 w)).IsList l items:=⟨_,hp,rfl,nl,rfl⟩
     unfold Builtin.«set.__init__» noKeywords Builtin.Frozenset.updateFrom;generalize e:pyIter=PI
     wp_walk
     subst e;refine wpAny_pyIter_list hl (wpAny_bind (wpAny_runValue ?_));have lS:=Heap.lt_size ho;have h3:A.in1.in1.in1.handled=none:=by simp[hh]
     have eI:(s.heap.push (yj6 w)).objs.size=s.heap.objs.size+1:=Heap.size_push ..
     have nI:l≠(s.heap.push (yj6 w)).objs.size:=by rw[eI];exact Nat.ne_of_lt (Nat.lt_succ_of_lt lS)
     refine loop_G (T:=T) (Walks.list h3 _ l nI items).toS (by rw[eI];simp;exact Nat.ne_of_gt lS) (λp q=>mv p λb o nb=>q b o (by simpa[eI] using nb)) ad (items.size-0) 0 _ rfl (Nat.zero_le _) ⟨⟨_,Heap.get?_push_size _ rfl,rfl,rfl⟩,hl.push _⟩ (z (Heap.get?_push_of_some _ g0) λb o q=>Heap.get?_push_of_some _ (Heap.get?_push_of_some _ q)) λt m S=>?_
     obtain⟨h',g',d',tk',os'⟩:=t;obtain rfl:g'=s.gens:=m.gens
     obtain rfl:d'=s.drawn:=m.drawn
     obtain rfl:os'=s.os:=m.os
     exact wpAny_pure (show wpAny _ _ (ret Value.none) _ _ _ from wpAny_pure ⟨rfl,h',tk',rfl,S,λb o hb q=>m.heap b o (by rw[eI];simp;exact⟨Nat.ne_of_lt hb,Nat.ne_of_lt (Nat.lt_succ_of_lt hb)⟩) (Heap.get?_push_of_some _ (Heap.get?_push_of_some _ q))⟩)
   . cases r with
     |error e=>exact hr
     |ok fl=>
      cases fl with
      |ret r=>
       obtain⟨rfl,h',tk,rfl,q1,q4⟩:=hr
       repeat any_goals first|assumption|wp_step
       exact h _ _ q1 q4
      |_=>exact hr.elim
  |_=>exact hr.elim
end
end L2
local macro_rules | `(tactic| cases $x:ident)=>`(tactic| ((fail_if_success (fail_if_success have:=($x : _=_)));first | subst $x | (injection $x;done) | (injection $x with e f g;cases e;cases f;cases g) | (injection $x with e f;cases e;cases f) | (injection $x with e;cases e)))
local macro_rules | `(command| open A in $c:command)=>`(command| set_option tactic.hygienic true in $c)
def A2{a b g:Prop}(h:a/\b)(z:a->b->g):g:=z h.1 h.2
def A3{a b c g:Prop}(h:a/\b/\c)(z:a->b->c->g):g:=z h.1 h.2.1 h.2.2
def A4{a b c d g:Prop}(h:a/\b/\c/\d)(z:a->b->c->d->g):g:=z h.1 h.2.1 h.2.2.1 h.2.2.2
def A5{a b c d e g:Prop}(h:a/\b/\c/\d/\e)(z:a->b->c->d->e->g):g:=z h.1 h.2.1 h.2.2.1 h.2.2.2.1 h.2.2.2.2
def A6{a b c d e f g:Prop}(h:a/\b/\c/\d/\e/\f)(z:a->b->c->d->e->f->g):g:=z h.1 h.2.1 h.2.2.1 h.2.2.2.1 h.2.2.2.2.1 h.2.2.2.2.2
def A7{a b c d e f k g:Prop}(h:a/\b/\c/\d/\e/\f/\k)(z:a->b->c->d->e->f->k->g):g:=z h.1 h.2.1 h.2.2.1 h.2.2.2.1 h.2.2.2.2.1 h.2.2.2.2.2.1 h.2.2.2.2.2.2
def E1{α:Sort _}{p:α->Prop}{g:Prop}(h:∃a,p a)(z:∀a,p a->g):g:=match h with|⟨a,h⟩=>z a h
def E2{α β:Sort _}{p:α->β->Prop}{g:Prop}(h:∃a b,p a b)(z:∀a b,p a b->g):g:=match h with|⟨a,b,h⟩=>z a b h
def E3{α β γ:Sort _}{p:α->β->γ->Prop}{g:Prop}(h:∃a b c,p a b c)(z:∀a b c,p a b c->g):g:=match h with|⟨a,b,c,h⟩=>z a b c h
def E4{α β γ δ:Sort _}{p:α->β->γ->δ->Prop}{g:Prop}(h:∃a b c d,p a b c d)(z:∀a b c d,p a b c d->g):g:=match h with|⟨a,b,c,d,h⟩=>z a b c d h
def E5{α β γ δ ε:Sort _}{p:α->β->γ->δ->ε->Prop}{g:Prop}(h:∃a b c d e,p a b c d e)(z:∀a b c d e,p a b c d e->g):g:=match h with|⟨a,b,c,d,e,h⟩=>z a b c d e h
def E6{α β γ δ ε ζ:Sort _}{p:α->β->γ->δ->ε->ζ->Prop}{g:Prop}(h:∃a b c d e f,p a b c d e f)(z:∀a b c d e f,p a b c d e f->g):g:=match h with|⟨a,b,c,d,e,f,h⟩=>z a b c d e f h
def X2{α β:Sort _}{p:α->β->Prop}(a:α)(b:β)(h:p a b):∃a b,p a b:=⟨a,b,h⟩
def X3{α β γ:Sort _}{p:α->β->γ->Prop}(a:α)(b:β)(c:γ)(h:p a b c):∃a b c,p a b c:=⟨a,b,c,h⟩
def X4{α β γ δ:Sort _}{p:α->β->γ->δ->Prop}(a:α)(b:β)(c:γ)(d:δ)(h:p a b c d):∃a b c d,p a b c d:=⟨a,b,c,d,h⟩
def X5{α β γ δ ε:Sort _}{p:α->β->γ->δ->ε->Prop}(a:α)(b:β)(c:γ)(d:δ)(e:ε)(h:p a b c d e):∃a b c d e,p a b c d e:=⟨a,b,c,d,e,h⟩
def X6{α β γ δ ε ζ:Sort _}{p:α->β->γ->δ->ε->ζ->Prop}(a:α)(b:β)(c:γ)(d:δ)(e:ε)(f:ζ)(h:p a b c d e f):∃a b c d e f,p a b c d e f:=⟨a,b,c,d,e,f,h⟩
def X7{α β γ δ ε ζ η:Sort _}{p:α->β->γ->δ->ε->ζ->η->Prop}(a:α)(b:β)(c:γ)(d:δ)(e:ε)(f:ζ)(k:η)(h:p a b c d e f k):∃a b c d e f k,p a b c d e f k:=⟨a,b,c,d,e,f,k,h⟩
local macro_rules | `(tactic| let $p:term:=$e)=>do
  let rec f (n:Nat)(p:Lean.Term):Lean.MacroM (Lean.TSyntax `rcasesPat):=do
   match n with
   | 0=>`(rcasesPat| _)
   | n+1=>
    match p with
    | `(($a,$q,*))=>`(rcasesPat| ⟨$(<-(#[a]++q.getElems).mapM λx=>do `(Lean.Parser.Tactic.rcasesPatLo| $(<-f n x):rcasesPat)),*⟩)
    | `($i:ident)=>`(rcasesPat| $i:ident)
    | _=>`(rcasesPat| _)
  let o<-`(tactic| obtain $(<-f 9 p):rcasesPat:=$e)
  let `(($a,$q,*)):=p | return o
  let y:=#[a]++q.getElems
  let n:=y.size
  let v<-`(v)
  let s:=y.any (·.raw.getId == e.raw.getId)
  let e2:=if e.raw.isIdent && s then v else e
  let b<-if e.raw.isIdent && s then `(tactic| (revert $e:term;intro v)) else `(tactic| skip)
  let c<-if e.raw.isIdent then `(tactic| try clear $e2:term) else `(tactic| skip)
  let z (m:String)(k:Nat):Lean.MacroM (Lean.TSyntax `tactic):=do
   let t:Array Lean.Term:=(y.extract 0 k).mapIdx λi x=>if x.raw.getNumArgs>1 then ⟨(Lean.mkIdent (.mkSimple s!"✝{i}")).raw⟩ else x
   let r<-if k=n then pure c else `(tactic| let ($(y[k]!),$(y.extract (k+1) n),*):=w)
   let r<-(y.zip t).foldlM (λr (x,i)=>if x.raw == i.raw then pure r else `(tactic| ($r:tactic;let $x:term:=$i))) r
   let t<-if k=n then pure t else pure (t.push (<-`(w)))
   `(tactic| ($b:tactic;refine $(Lean.mkIdent (.mkSimple m)) $e2 λ $t*=>?_;$c:tactic;$r:tactic;repeat subst $(Lean.mkIdent `rfl):ident))
  let rec g (k:Nat):Lean.MacroM (Lean.TSyntax `tactic):=do
   match k with
   | 0=>if n>2 then `(tactic| first | $(<-z "A2" 1):tactic | $o:tactic) else return o
   | k+1=>`(tactic| first | $(<-z s!"E{k+1}" (k+1+(k+2)/n)):tactic | $(<-g k):tactic)
  `(tactic| first | $(<-z s!"A{n}" n):tactic | $(<-g (min 6 (n-1))):tactic)
local macro_rules | `(tactic| let $i:ident:=$e)=>`(tactic| have $i:ident:=$e)
local macro_rules | `(tactic| show $e)=>`(tactic| first | refine $e | fail)
local macro_rules | `(tactic| lia)=>`(tactic| first | omega | grind)
local macro_rules | `(#[$p,*])=>if p.getElems.isEmpty then Lean.Macro.throwUnsupported else `(⟨$p,*⟩)
local macro_rules | `(tactic| show #[$p,*])=>do
  let p:=p.getElems
  let rec g (k:Nat):Lean.MacroM (Lean.TSyntax `tactic):=do
   match k with
   | 0=>`(tactic| refine ⟨$p,*⟩)
   | k+1=>
    let r:=p.extract (k+2) p.size
    let r<-if k+3=p.size then pure r[0]! else `(⟨$r,*⟩)
    `(tactic| first | refine $(Lean.mkIdent (.mkSimple s!"X{k+2}")) $(p.extract 0 (k+2))* $r | $(<-g k):tactic)
  g (min 6 (p.size-2))
local macro_rules | `(!$x)=>`(some $x)
local macro_rules | `(tactic| omega)=>`(tactic| first | with_reducible first | assumption | contradiction | exact Nat.le_trans ‹_› (by decide) | exact Nat.lt_of_le_of_lt ‹_› (by decide) | exact Nat.lt_of_lt_of_le ‹_› (by decide) | exact Nat.le_add_left _ _ | exact Nat.le_add_right _ _ | exact Nat.sub_le _ _ | exact Nat.zero_le _ | exact Nat.le_of_lt ‹_› | exact Nat.le_of_lt_succ ‹_› | exact Nat.le_of_not_lt ‹_› | exact Nat.add_le_add_left ‹_› _ | exact Nat.add_le_add_right ‹_› _ | exact Nat.sub_lt_left_of_lt_add ‹_› ‹_› | exact Nat.le_sub_one_of_lt ‹_› | exact Nat.sub_lt_of_lt ‹_› | exact Nat.le_of_add_right_le ‹_› | exact Nat.le_trans (Nat.le_max_right _ _) ‹_› | exact Nat.le_trans (Nat.le_max_left _ _) ‹_› | exact Nat.sub_lt (Nat.zero_lt_of_lt ‹_›) Nat.one_pos | exact Nat.lt_of_lt_of_le (Nat.sub_lt (Nat.zero_lt_of_lt ‹_›) Nat.one_pos) ‹_› | exact Nat.le_trans (Nat.min_le_right _ _) (Nat.sub_le _ _) | exact Nat.lt_of_lt_of_le ‹_› (Nat.le_of_eq (Eq.symm ‹_›)) | exact Nat.add_lt_of_lt_sub' ‹_› | exact Nat.add_sub_cancel' ‹_› | exact Nat.le_trans (Nat.sub_le _ _) ‹_› | exact Nat.sub_le_sub_right ‹_› _ | exact Nat.le_trans ‹_› ‹_› | exact Nat.le_trans ‹_› (Nat.le_max_right _ _) | exact Nat.lt_of_lt_of_le ‹_› (Nat.le_add_right _ _) | (refine (?_:(_:Nat)=_);simp;done) | (refine (?_:(_:Nat)≤_);simp;done) | lia -verbose)
local macro_rules | `(tactic| grind)=>`(tactic| first | (simp_all;done) | omega | grind -verbose)
local macro_rules | `(())=>`(by first | omega | assumption | decide | rfl | exact .inl rfl | exact .inr rfl | decide +kernel | walk_at "sc")
local macro_rules | `(∅)=>`(by grind)
local macro_rules | `(~~~$x)=>`(($x).size)
local macro_rules | `(-$x)=>if x.raw.isOfKind `num then Lean.Macro.throwUnsupported else `(($x).length)
abbrev O:=@rfl
open List hiding iter
open PySem.SetTable hiding led ok
open Option renaming none→J
open Bool renaming true→G,false→M
open Or renaming inl→Zl,inr→YY
open PySem.Value renaming ref→YV
abbrev FG:=PySem.W.Frag
section
open PySem PySem.Spec PyProof.Rows
def LU:=@Int.toNat_natCast
def fS:=@Array.getElem?_toList
def c0:=@wpS_bind
def c_:=@wpS_pure
def fU:=@Nat.lt_or_ge
def gX:=@KeyOrd.kle_trans
def m_:=@Array.getElem?_eq_getElem
def fE:=@Nat.le.step
def kq:=@wpAny_holding
def hY:=@KeyOrd.kle_of_klt
def gu:=@List.Perm.swap
abbrev iE:=@sizeLine_eq
def ng:=@wpAny_setState_of
def nh:=@True.intro
def LW:=@List.getElem?_range
abbrev kr:=@getElem?_pos
def nr:=@wpAny_mono
def lK:=@wpS_forRange
abbrev gT:=@congrArg
def oy:=@Builtin.Str.occurrences
def Ce:=@wpAny_newObj_type
def Cf:=@List.map_congr_left
def cr:=@Option.bind_some
def cf:=@List.mem_cons_self
def ck:=@List.length_map
def c5:=@List.length_cons
def cK:=@Nat.le_refl
def bP:=@List.mem_cons
def eI:=@List.length_append
def dP:=@List.mem_cons_of_mem
def d5:=@Heap.get?_push_of_some
def eM:=@List.getElem?_eq_some_iff
def dS:=@List.getElem?_map
def dy:=@List.mem_append
def d6:=@List.append_assoc
def dA:=@List.mem_map
def f_:=@List.length_nil
def d0:=@List.map_append
def dq:=@Heap.lt_size
def fr:=@List.map_cons
def gx:=@List.size_toArray
def ga:=@List.mem_singleton
def gg:=@List.getElem?_eq_getElem
def ff:=@Heap.get?_push_size
def eJ:=@List.append_nil
def fw:=@Option.some.inj
def f6:=@List.sublist_cons_self
def g7:=@Bool.false_eq_true
def fL:=@List.mem_of_getElem?
def hZ:=@List.getElem?_append_right
def eR:=@Nat.ne_of_lt
def fT:=@Nat.lt_of_lt_of_le
def gy:=@List.mem_append_right
def g8:=@Array.length_toList
def gW:=@List.mem_append_left
def fx:=@Nat.le_trans
def g9:=@List.length_range
def gz:=@Nat.zero_le
def fF:=@List.map_map
def gI:=@List.perm_middle
def LY:=@PassesOwn.never
def j1:=@List.filterMap_cons_none
def kt:=@List.getElem?_set_self
def jk:=@List.getElem?_append_left
def h_:=@List.nodup_cons
def kS:=@Array.getElem?_eq_none
def j2:=@List.sublist_append_left
def j3:=@Nat.lt_succ_of_lt
def q9:=@List.zip_cons_cons
def iP:=@Bool.and_eq_true
def kT:=@List.nil_append
def jp:=@List.lookup_cons
def j6:=@List.mem_filterMap
def oz:=@Bool.false_ne_true
def nv:=@Nat.lt_succ_self
def iS:=@List.length_take
def ku:=@List.not_mem_nil
def kU:=@Heap.get?_update_other
def q_:=@List.cons_append
def kX:=@Heap.get?_update_self
def ky:=@List.perm_append_comm
def oC:=@PySem.F.plainAttrs_list
def lP:=@Nat.lt_irrefl
def lS:=@Int.emod_lt_of_pos
def kz:=@Nat.sub_self
def kA:=@Int.emod_nonneg
def iX:=@Nat.zero_add
def kC:=@List.foldl_cons
def oI:=@List.drop_eq_getElem_cons
def oP:=@List.sublist_append_right
def Cg:=@List.getElem?_eq_none
def j_:=@Nat.ne_of_gt
def re:=@Option.map_some
def nw:=@Heap.SameBut.update
def oQ:=@List.set_set
def l5:=@List.prefix_refl
def l_:=@List.of_mem_zip
def u3:=@Nat.le_of_succ_le
def rg:=@Nat.le_add_right
def rh:=@List.nodup_nil
def ma:=@Nat.le_succ
def ny:=@Nat.le_of_lt
def md:=@List.zip_append
def oS:=@List.nodup_append
def u4:=@List.getElem?_set_ne
def u7:=@Heap.size_push
def rj:=@List.length_drop
def xE:=@PySem.F.slot_list_append
def xH:=@PySem.F.type_list_append
def rz:=@PySem.mem_of_lookup
def u8:=@List.length_set
def rL:=@List.take_of_length_le
def rO:=@List.Sublist.refl
def Ch:=@Nat.le_of_not_lt
def xI:=@List.any_cons
def xJ:=@Option.isSome_iff_exists
def rQ:=@List.map_nil
def u_:=@Nat.lt_of_le_of_lt
def va:=@List.prefix_append
def vi:=@PySem.boot_len
def Cn:=@List.find?_cons_of_neg
def rS:=@Nat.succ.inj
def Co:=@List.eq_nil_of_length_eq_zero
def xK:=@List.filterMap_cons
def xL:=@W.cellsFrom_some
def Cr:=@W.methodCall_KW
def al:=@wpAny_bind
def aE:=@if_pos
def bh:=@if_neg
def bv:=@wpAny_pure
def mf:=@decide_eq_false
def k5:=@decide_eq_true
def rV:=@beq_eq_false_iff_ne
def mh:=@beq_self_eq_true
end
namespace L2
open PySem PySem.Spec PyProof.Rows
variable {ae:List (Addr×Obj)}{E:Value->Shared->Prop}{s:Shared}{A:Around}{w:World}{P:Program}
abbrev d_:=Sum Int Str
noncomputable def vA:d_->Value->Bool
 |.inl k,v=>Value.isInt k v
 |.inr x,v=>Value.isStrOf x v
def Cs(w:World):d_->Int
 |.inl k=>hashInt k
 |.inr x=>hashStr w x
theorem dB:∀{k:d_}{v:Value},vA k v=G->(∃i t,k=Sum.inl i/\v=Value.int i t)\/(∃x t,k=Sum.inr x/\v=Value.str x t)
 |.inl i,v,h=>by let(t,e):=Value.isInt_shape h;show Zl #[i,t,O,e]
 |.inr x,v,h=>by let(t,e):=Value.isStrOf_shape h;show YY #[x,t,O,e]
def Tq(i:Int)(t:Tok):vA (.inl i) (.int i t)=G:=by simp[vA,Value.isInt]
def Tr(x:Str)(t:Tok):vA (.inr x) (.str x t)=G:=by simp[vA,Value.isStrOf]
def LZ(a b:Int):decide ((Sum.inl a:d_)=Sum.inl b)=(a==b):=by
 by_cases e:a=b
 . grind
 . grind
def L0(a b:Str):decide ((Sum.inr a:d_)=Sum.inr b)=decide (a=b):=by
 by_cases e:a=b
 .  simp
 . grind
def L1(a:Int)(b:Str):decide ((Sum.inl a:d_)=Sum.inr b)=M:=mf (λq=>nomatch q)
def L3(a:Str)(b:Int):decide ((Sum.inr a:d_)=Sum.inl b)=M:=mf (λq=>nomatch q)
def fW(prog:Program)(w:World):PySem.KeyKind prog w d_ where
 is:=vA
 hash:=Cs w
 inj:=λv a b ha hb=>by
  obtain⟨i,t,rfl,rfl⟩|⟨x,t,rfl,rfl⟩:=dB ha
  . obtain⟨j,u,rfl,e⟩|⟨y,u,rfl,e⟩:=dB hb
    . injection e with e1 _;rw[e1]
    . show nomatch e
  . obtain⟨j,u,rfl,e⟩|⟨y,u,rfl,e⟩:=dB hb
    . show nomatch e
    . injection e with e1 _;rw[e1]
 byValue:=λk v h=>by rcases dB h with ⟨i,t,rfl,rfl⟩|⟨x,t,rfl,rfl⟩<;>rfl
 pyHash:=λhv h=>by
  obtain⟨i,t,rfl,rfl⟩|⟨x,t,rfl,rfl⟩:=dB hv
  . show wpAny_pyHash_int h
  . show wpAny_pyHash_str h
 eqBool:=λhu hv h=>by
  obtain⟨i,t,rfl,rfl⟩|⟨x,t,rfl,rfl⟩:=dB hu
  . obtain⟨j,u,rfl,rfl⟩|⟨y,u,rfl,rfl⟩:=dB hv
    . rw[LZ]at h;show wpAny_eqBool_int h
    . rw[L1]at h;show SeqAt.EqAt.int_str i t y u _ _ _ _ h
  . obtain⟨j,u,rfl,rfl⟩|⟨y,u,rfl,rfl⟩:=dB hv
    . rw[L3]at h;show SeqAt.EqAt.str_int x t j u _ _ _ _ h
    . rw[L0]at h;show wpAny_eqBool_str h
 «strs»:=λk x t v h=>by
  obtain⟨i,u,rfl,e⟩|⟨y,u,rfl,e⟩:=dB h
  . show nomatch e
  . injection e with e1 _;subst e1;cases v<;>rfl
def Oo(prog:Program)(w:World)(i:Int)(t:Tok):(fW prog w).is (.inl i) (.int i t)=true:=Tq i t
def Oq(prog:Program)(w:World)(x:Str)(t:Tok):(fW prog w).is (.inr x) (.str x t)=G:=Tr x t
inductive V where
 |non |bl (b:Bool) |int (i:Int) |str (x:Str) |byt (b:Array UInt8) |flt (b:UInt64) |ref (a:Addr) |ty (n:String)
 deriving DecidableEq
def aI:V->Value->Prop
 |.non,u=>u=Value.none
 |.bl b,u=>u=Value.bool b
 |.int i,u=>∃t,u=Value.int i t
 |.str x,u=>∃t,u=Value.str x t
 |.byt b,u=>∃t,u=Value.bytes b t
 |.flt b,u=>∃t,u=Value.float b t
 |.ref a,u=>u=Value.ref a
 |.ty n,u=>u=Value.type n
abbrev ap:List V->List Value->Prop:=Paired aI
theorem ap.length(r:ap xs us):-xs=-us:=Paired.length r
theorem ap.get:∀{xs:List V}{j:List Value}{i:Nat}{x:V},ap xs j->xs[i]?=!x->∃u,j[i]?=!u/\aI x u
 |_,_,_,_,.nil=>λe=>by grind
 |_,_,0,_,.cons r _=>λe=>by grind
 |_,_,i+1,x,.cons _ t=>λe=>by let(u,h1,h2):=ap.get t ();grind
theorem ap.set(r:aI x u):∀{xs:List V}{j:List Value}(i:Nat),ap xs j->ap (xs.set i x) (j.set i u)
 |_,_,_,.nil=>.nil
 |_,_,0,.cons _ t=>.cons r t
 |_,_,i+1,.cons q t=>.cons q (ap.set r i t)
theorem ap.append:∀{xs ys:List V}{i ws:List Value},ap xs i->ap ys ws->ap (xs++ys) (i++ws)
 |_,_,_,_,.nil=>λs=>s
 |_,_,_,_,.cons r t=>λs=>.cons r (ap.append t s)
theorem ap.take:∀{xs:List V}{j:List Value}(n:Nat),ap xs j->ap (xs.take n) (j.take n)
 |_,_,0,_=>.nil
 |_,_,_+1,.nil=>.nil
 |_,_,n+1,.cons r t=>.cons r (ap.take n t)
theorem ap.drop:∀{xs:List V}{j:List Value}(n:Nat),ap xs j->ap (xs.drop n) (j.drop n)
 |_,_,0,r=>r
 |_,_,_+1,.nil=>.nil
 |_,_,n+1,.cons _ t=>ap.drop n t
def nH:Option V->Option Value->Prop
 |some v,!u=>aI v u
 |none,J=>True
 |_,_=>False
def KV{κ:Type}:List (κ×V)->List (κ×Value)->Prop:=Paired λ(p:κ×V)(q:κ×Value)=>p.1=q.1/\aI p.2 q.2
noncomputable def kV:d_->V
 |.inl i=>.int i
 |.inr x=>.str x
inductive HO where
 |lst (xs:List V)
 |tup (xs:List V)
 |dK (a_:List (d_×V)) |dT (a_:List (List d_×V))
 |set (S:Int->Bool) (n:Nat)
 |ins (C dx:Addr) (fs:List (Str×V))
 |own (x:Addr)
 |xd (fs:List (Str×V))
 |met (f x:Addr)
 |rng (lo hi:Int)
 |frz (o:Obj) (u:HO)
 |tbl (ps:Array Value)
 |ext (φ:Heap->Prop)
abbrev Hp:=Addr->Option HO
noncomputable def bp (H:Hp) (a:Addr) (o:HO):Hp:=λb=>if b=a then !o else H b
def bZ:bp H a o a=!o:=by unfold bp;grind
def cV(h:b≠a):bp H a o b=H b:=by unfold bp;grind
def i5{H:Hp}(h:H a=!o)(h':H b=J):a≠b:=by grind
section
variable (P:Program)(w:World)
def fG(H:Hp)(h:Heap)(a:Addr):HO->Prop
 |.lst xs=>-xs<=sizeLine/\∃(du:List Value)(n:Nat),ap xs du/\h.get? a=some { cls:=.type "list",data:=.seq du.toArray n }
 |.tup xs=>-xs<=sizeLine/\∃du:List Value,ap xs du/\IsTup h a du.toArray
 |.dK a_=>-a_<=sizeLine/\(a==sysModules)=M/\∃vs,KV a_ vs/\h.DictOf (fW P w) a vs
 |.dT a_=>-a_<=sizeLine/\(a==sysModules)=M/\∃xs:List (List d_×Addr×Value),
  Paired (λ(p:List d_×V)(q:List d_×Addr×Value)=>p.1=q.1/\H q.2.1=!(.tup (p.1.map kV))/\aI p.2 q.2.2) a_ xs/\
  ∃o es ep,h.get? a=!o/\o.ExactDict/\o.data=.dict es ep/\es.toList=xs.map (entryOfKey (tupleKind (fW P w)))/\(xs.map (·.1)).Nodup
 |.set S n=>h.SetOf (intKind P w) a S n
 |.ins C dx fs=>H dx=!(.own a)/\-fs<=1000/\dx≠a/\h.get? a=!(W.instObj C dx)/\
  ∃mA,h.Ns1 dx mA/\(∀f,nH (fs.lookup f) (mA f))/\PySem.Within mA (fs.map (·.1))
 |.own _=>∃o,h.get? a=!o
 |.xd fs=>∃mA,h.Ns1 a mA/\∀f,nH (fs.lookup f) (mA f)
 |.rng lo hi=>∃t u v,h.get? a=some { cls:=.type "range",data:=.fields (List.toArray [.int lo t,.int hi u,.int 1 v]) }
 |.frz o u=>h.get? a=!o/\fG H h a u
 |.tbl ps=>h.get? a=some { cls:=.none,data:=.fields ps }
 |.met f x=>h.get? a=!(W.methodObj (YV f) (YV x))
 |.ext φ=>φ h/\(∃o,h.get? a=!o)/\∀h1 h2:Heap,φ h1->(∀o,h1.get? a=!o->h2.get? a=!o)->φ h2
def jm(H:Hp)(h:Heap):Prop:=∀a o,H a=!o->fG P w H h a o
end
section
variable {P:Program}{w:World}{H H':Hp}{h h':Heap}{a:Addr}{o:HO}
theorem fG.lt(x:fG P w H h a o):a< ~~~h.objs:=by
 cases o with
 |lst xs=>let(_,_,_,_,e):=x;show dq e
 |tup xs=>let(_,_,_,p):=x;show p.lt
 |dK i=>let(_,_,_,_,o,_,_,e,_):=x;show dq e
 |dT i=>let(_,_,_,_,o,_,_,e,_):=x;show dq e
 |set S n=>let(o,_,_,_,e,_):=x;show dq e
 |ins C dx fs=>let(_,_,_,e,_):=x;show dq e
 |own y=>let(_,e):=x;show dq e
 |xd fs=>let(_,(_,_,_,e,_),_):=x;show dq e
 |rng lo hi=>let(_,_,_,e):=x;show dq e
 |frz N u=>let(e,_):=x;show dq e
 |tbl ps=>show dq (x)
 |met f y=>show dq (x)
 |ext φ=>let(_,(_,e),_):=x;show dq e
theorem Paired.mapP:∀{l₁:List α}{l₂:List β},Paired F l₁ l₂->(∀a b,F a b->ZT a b)->Paired ZT l₁ l₂
 |_,_,.nil=>λ_=>.nil
 |_,_,.cons r t=>λf=>.cons (f _ _ r) (Paired.mapP t f)
def fG.stay(x:fG P w H h a o)(k:∀b u,(b=a\/H b=!(.own a))->h.get? b=!u->h'.get? b=!u)
 (ho:∀b,H b=!(.own a)->H' b=!(.own a)) (ht:∀b xs,H b=!(.tup xs)->H' b=!(.tup xs)):fG P w H' h' a o:=by
 induction o with
 |lst xs=>let(z,D,n,r,e):=x;show#[z,D,n,r,k _ _ (Zl O) e]
 |tup xs=>let(z,D,r,i,e,c):=x;show#[z,D,r,i,k _ _ (Zl O) e,c]
 |dK N=>let(z,y,W,r,i,es,j,e,c):=x;show#[z,y,W,r,i,es,j,k _ _ (Zl O) e,c]
 |dT N=>
  let(z,y,xs,r,i,es,j,e,c):=x;show#[z,y,xs,Paired.mapP r λp q z=>#[z.1,ht _ _ z.2.1,z.2.2],i,es,j,k _ _ (Zl O) e,c]
 |set S n=>let(i,es,j,t,e,c):=x;show#[i,es,j,t,k _ _ (Zl O) e,c]
 |ins C dx fs=>
  let(d,z,ne,e,mA,(F,es,j,e2,c),r):=x;show#[ho _ d,z,ne,k _ _ (Zl O) e,mA,#[F,es,j,k _ _ (YY d) e2,c],r]
 |own y=>let(i,e):=x;show#[i,k _ _ (Zl O) e]
 |xd fs=>let(mA,(F,es,j,e,c),r):=x;show#[mA,#[F,es,j,k _ _ (Zl O) e,c],r]
 |rng lo hi=>let(t,u,v,e):=x;show#[t,u,v,k _ _ (Zl O) e]
 |frz i u ih=>let(e,q):=x;show#[k _ _ (Zl O) e,ih q]
 |tbl ps=>
  let e:=x;show k a _ (Zl O) e
 |met f y=>
  let e:=x;show k a _ (Zl O) e
 |ext φ=>let(p,(o,e),st):=x;show#[st _ _ p λo q=>k _ _ (Zl O) q,#[o,k _ _ (Zl O) e],st]
theorem jm.lt(x:jm P w H h)(e:H a=!o):a< ~~~h.objs:=(x a o e).lt
def jm.fresh(x:jm P w H h)(e: ~~~h.objs<=a):H a=J:=by
 cases q:H a with
 |none=>rfl
 |some u=>show absurd (fT (x.lt q) e) (lP _)
def jm.kept(x:jm P w H h)(k:∀b u,h.get? b=!u->h'.get? b=!u):jm P w H h':=λa o e=>
 (x a o e).stay (λb u _ q=>k b u q) (λ_ q=>q) λ_ _ q=>q
def jm.laid(x:jm P w H h)(k:∀b u,h.get? b=!u->h'.get? b=!u)(F: ~~~h.objs<=a)(new:fG P w (bp H a o) h' a o):jm P w (bp H a o) h':=λb u e=>by
 let j:=x.fresh F;by_cases D:b=a
 . subst D;rw[bZ]at e;grind
 . rw[cV D]at e;show(x b u e).stay (λc v _ q=>k c v q) (λc q=>by rw[cV (i5 q j)];show q) λc xs q=>by rw[cV (i5 q j)];show q
end
def Rd(H:Hp)(a:Addr)(u:HO):Prop:=H a=!u\/∃o,H a=!(.frz o u)
def Rd.ok(r:Rd H a u)(x:jm P w H h):fG P w H h a u:=by
 obtain r|⟨o,r⟩:=r
 . show x a u r
 . let(_,q):=x a _ r;show q
def Tt:Option HO->Prop
 |some (.lst _)=>True
 |some (.dK _)=>True
 |some (.dT _)=>True
 |some (.set _ _)=>True
 |some (.ins _ _ _)=>True
 |some (.ext _)=>True
 |_=>False
section
variable {P:Program}{w:World}{H:Hp}{h h':Heap}{x e:Addr}{o':HO}
def jm.write(ok:jm P w H h)(mu:Tt (H x))(he:e=x\/H e=!(.own x))(k:∀b u,b≠e->h.get? b=!u->h'.get? b=!u)(D:∃u,h'.get? e=!u)
 (new:fG P w (bp H x o') h' x o'):jm P w (bp H x o') h':=λb u q=>by
 have i:∀c y,H c=!(.own y)->c≠x:=λc y r z=>by subst z;rw[r]at mu;show mu
 have j:∀c xs,H c=!(.tup xs)->c≠x:=λc xs r z=>by subst z;rw[r]at mu;show mu
 by_cases Q:b=x
 . subst Q;rw[bZ]at q;grind
 . rw[cV Q]at q;by_cases F:b=e
   . have N:H b=!(.own x):=by
      obtain z|z:=he
      . grind
      . grind
     rw[q]at N;cases N;let(v,hv):=D;show#[v,by rw[F];show hv]
   . show(ok b u q).stay (λc v W r=>k c v ?_ r) (λc r=>by rw[cV (i c b r)];show r) λc xs r=>by rw[cV (j c xs r)];show r
     obtain rfl|W:=W
     . grind
     . obtain z|z:=he
       . grind
       . grind
end
structure Un(fs ex:List Addr)(H H':Hp)(h h':Heap):Prop where
 keep:∀b o,h.get? b=!o->H b=none->b∉fs->b∉ex->h'.get? b=!o
 slot:∀b o,h.get? b=!o->H b=none->b∈fs->b∉ex->∃sl,h'.get? b=some { o with slots:=sl }
 free:∀b o,h.get? b=!o->H b=none->b∉ex->H' b=none
 there:∀b o,h.get? b=!o->b∉ex->∃o',h'.get? b=!o'
 tups:∀b xs,H b=!(.tup xs)->H' b=!(.tup xs)
 frzs:∀b o u,H b=!(.frz o u)->H' b=!(.frz o u)
 tbls:∀b ps,H b=!(.tbl ps)->∃more,H' b=!(.tbl (ps++more))
section
variable {fs gN ex ex':List Addr}{H H1 H2:Hp}{h h1 h2 h':Heap}{a x e:Addr}{o:HO}
def Un.any(u:Un fs ex H H1 h h1)(q:h.get? b=!ob)(n:H b=J)(z:b∉ex):∃sl,h1.get? b=some { ob with slots:=sl }:=by
 by_cases D:b∈fs
 . show u.slot b ob q n D z
 . show#[ob.slots,u.keep b ob q n D z]
def Un.kept(k:∀b u,h.get? b=!u->h'.get? b=!u):Un fs ex H H h h':=
 #[λb j q _ _ _=>k b j q,λb j q _ _ _=>#[j.slots,k b j q],λ_ _ _ n _=>n,λb j q _=>#[j,k b j q],λ_ _ q=>q,λ_ _ _ q=>q,λ_ ps q=>#[#[],by rw[q];simp]]
def Un.refl:Un fs ex H H h h:=Un.kept λ_ _ q=>q
def Un.laid(k:∀b u,h.get? b=!u->h'.get? b=!u)(D: ~~~h.objs<=a)(j:H a=J):Un fs ex H (bp H a o) h h' where
 keep:=λb u q _ _ _=>k b u q
 slot:=λb u q _ _ _=>#[u.slots,k b u q]
 free:=λb u q n _=>by rw[cV (eR (fT (dq q) D))];show n
 there:=λb u q _=>#[u,k b u q]
 tups:=λb xs q=>by rw[cV (i5 q j)];show q
 frzs:=λb u xs q=>by rw[cV (i5 q j)];show q
 tbls:=λb ps q=>#[#[],by rw[cV (i5 q j),q];simp]
def Un.write(mu:Tt (H x))(he:e=x\/H e=!(.own x))(k:∀b u,b≠e->h.get? b=!u->h'.get? b=!u)(D:∃u,h'.get? e=!u):Un fs ex H (bp H x o) h h':=by
 have N:∀b,H b=J->b≠x:=λb n z=>by subst z;rw[n]at mu;show mu
 have j:∀b,H b=J->b≠e:=λb n z=>by
  obtain r|r:=he
  . grind
  . grind
 have i:∀b u,H b=!u->¬ Tt (!u)->b≠x:=λb u q nm z=>by subst z;rw[q]at mu;show nm mu
 show#[λb u q n _ _=>k b u (j b n) q,λb u q n _ _=>#[u.slots,k b u (j b n) q],λb u q n _=>by rw[cV (N b n)];show n,λb u q _=>?_,
  λb xs q=>by rw[cV (i b _ q λz=>z)];show q,λb u xs q=>by rw[cV (i b _ q λz=>z)];show q,λb ps q=>#[#[],by rw[cV (i b _ q λz=>z),q];simp]]
 by_cases F:b=e
 . grind
 . grind
end
def YG(h:Heap)(H:Hp):List Addr:=(List.range h.objs.size).filter λa=>(H a).isSome
def xT(h:Heap)(H:Hp):Heap:=W.hideAll h (YG h H)
def Tu(h:Heap)(H:Hp):(xT h H).objs.size= ~~~h.objs:=W.hideAll_size _ _
def Wf(e:h.get? b=!o)(n:H b=J):(xT h H).get? b=!o:=
 W.hideAll_get _ e λi=>by let q:=(mem_filter.mp i).2;grind
def ZC(e:(xT h H).get? b=!o):h.get? b=!o/\H b=none:=by
 let e':=W.of_hideAll (YG h H) e;show#[e',?_];cases q:H b with
 |none=>rfl
 |some x=>
  have z:(xT h H).get? b=none:=W.hideAll_none (YG h H) (List.mem_filter.mpr #[List.mem_range.mpr (dq e'),by simp[q]]);grind
structure Mod(K:FG)(mg:Str->Option Value)(base:Heap):Prop where
 kin:K.In base
 glob:base.Ns mainGlobals mg
 blt:∃mb,base.Ns builtinsNs mb/\∀x:Str,x ≠ "__name__"->mb x=bootBuiltins x
 nolimit:base.NoLimit
structure Cx where
 prog:Program
 w:World
 K:FG
 mg:Str->Option Value
 base:Heap
 A:Around
 N:List Str
 s₀:Shared
 H0:Hp
 env:Env
 outer:List Env
 stack:List Env
 ex:List Addr
 fn:Str->Bool
 calm:Bool
 pn:List (Addr×Obj)
 xe:Value->Shared->Prop
noncomputable def frs (l:List Env):List Addr:=l.filterMap (·.frame)
abbrev Cx.fs(X:Cx):List Addr:=frs X.outer
def Tv(sc:Scope)(x:Str):Prop:=sc.names.lookup x=!.local\/sc.names.lookup x=!.cell\/sc.names.lookup x=!.free
def Loc(sc:Scope)(x:Str):Prop:=sc.names.lookup x=!.local\/sc.names.lookup x=!.cell
def xQ(env:Env)(h:Heap)(m:Str->Option Value)(x:Str)(u:Value):Prop:=
 (env.kindOf x=!.local/\m x=!u)\/((env.kindOf x=!.cell\/env.kindOf x=!.free)/\∃c,env.cells.lookup x=!c/\h.IsCell c (!u))
structure Cx.Ok(X:Cx):Prop where
 mod:Mod X.K X.mg X.base
 kind:X.env.scope.kind=.function
 glob:X.env.globals=mainGlobals
 blt:X.env.builtins=builtinsNs
 above: ~~~X.s₀.heap.objs<=X.env.locals
 inj:∀x y c,X.env.cells.lookup x=!c->X.env.cells.lookup y=!c->x=y
 has:∀x,(X.env.kindOf x=!.cell\/X.env.kindOf x=!.free)->∃c,X.env.cells.lookup x=!c
 cab:∀x c,X.fn x=true->X.env.cells.lookup x=!c-> ~~~X.s₀.heap.objs<=c
 hd:X.calm=true->X.A.handled=none
 frames:X.A.frames=!X.stack
 stk:X.stack=X.outer\/(X.stack=X.env::X.outer/\X.env.frame=!X.env.locals)
 exf:∀b∈X.ex,b≠X.env.locals/\∀x c,X.env.cells.lookup x=!c->c≠b
 bs:∀b o,X.base.get? b=!o->X.s₀.heap.get? b=!o/\X.H0 b=none
 bsz: ~~~X.base.objs<= ~~~X.s₀.heap.objs
 noex:∀b o,X.base.get? b=!o->b∉X.ex
 exfs:∀b∈X.ex,b∉X.fs
 funs:X.s₀.heap.FunFrames X.base X.outer
 frf:∀b∈X.fs,X.H0 b=none
structure ai(X:Cx)(ae:List (Addr×Obj))(U:List (Option V))(H:Hp)(s:Shared):Prop where
 ok:X.Ok
 os:s.os=X.s₀.os
 bare:AllBare s.gens
 base:Un X.fs X.ex X.H0 H X.s₀.heap s.heap
 loc:∃m,s.heap.Ns X.env.locals m/\∀(i:Nat)(x:Str)(v:V),X.N[i]?=!x->U[i]?=!(!v)->Tv X.env.scope x->∃u,aI v u/\xQ X.env s.heap m x u
 cell:∀x c,X.env.cells.lookup x=!c->∃v,s.heap.IsCell c v
 free:H X.env.locals=none
 freeC:∀x c,X.env.cells.lookup x=!c->H c=none
 pin:∀p∈X.pn++ae,s.heap.get? p.1=!p.2/\H p.1=none/\p.1≠X.env.locals/\p.1∉X.fs/\∀v,p.2.data≠.cell v
 hok:jm X.prog X.w H s.heap
 len:-U=-X.N
section
variable {X:Cx}{ae:List (Addr×Obj)}{U:List (Option V)}{H H':Hp}{s:Shared}{h':Heap}
def Cx.Ok.nofr(ok:X.Ok)(e:X.base.get? b=!o):b∉X.fs:=λj=>by have:=(ok.funs.mem j).1;rw[e]at this;cases this
theorem ai.bs(I:ai X ae U H s):∀b o,X.base.get? b=!o->s.heap.get? b=!o/\H b=J:=λb o e=>
 #[I.base.keep b o (I.ok.bs b o e).1 (I.ok.bs b o e).2 (I.ok.nofr e) (I.ok.noex b o e),I.base.free b o (I.ok.bs b o e).1 (I.ok.bs b o e).2 (I.ok.noex b o e)]
def ai.bk(I:ai X ae U H s):∀b o,X.base.get? b=!o->s.heap.get? b=!o:=λb o e=>(I.bs b o e).1
theorem ai.mod(I:ai X ae U H s):Mod X.K X.mg X.base:=I.ok.mod
def ai.kIn(I:ai X ae U H s):X.K.In s.heap:=I.ok.mod.kin.keeps I.bk
theorem ai.lt(I:ai X eK U H s):X.env.locals< ~~~s.heap.objs:=let #[_,hn,_]:=I.loc;hn.lt
def ai.sz(I:ai X ae U H s): ~~~X.s₀.heap.objs<= ~~~s.heap.objs:=fx I.ok.above (ny I.lt)
def ai.nofs(I:ai X ae U H s){a:Addr}(h: ~~~s.heap.objs<=a):a∉X.fs:=λD=>by let(_,o,j,_):=I.ok.funs.mem D;show absurd (fT (dq j) (fx I.sz h)) (lP _)
def ai.cne(I:ai X ae U H s):∀x c,X.env.cells.lookup x=!c->c≠X.env.locals:=λx c e z=>by let(v,o,D,F):=I.cell x c e;let(m,(o',es,N,j,q,_),_):=I.loc;rw[z,j]at D;cases D;rw[q]at F;cases F
theorem ai.funs(I:ai X ae U H s):s.heap.FunFrames X.base X.outer:=by
 have all:∀(l:List Env),(∀b∈frs l,b∈X.fs)->X.s₀.heap.FunFrames X.base l->s.heap.FunFrames X.base l:=by
  intro l;induction l with
  |nil=>intro _ _;trivial
  |cons F r ih=>
   intro hs W;let(hk,(L,o,i,N,Q,D),hr):=W;let q:=hs L (by unfold frs;rw[xK,i];show cf);let(sl,e):=I.base.slot L o Q (I.ok.frf L q) q λz=>I.ok.exfs L z q;show#[hk,#[L,_,i,N,e,D],ih (λb j=>hs b (by unfold frs;rw[xK,i];show dP _ j)) hr]
 show all X.outer (λ_ j=>j) I.ok.funs
theorem ai.stack(I:ai X ae U H s):s.heap.FunFrames X.base X.stack:=by
 obtain e|⟨e,q⟩:=I.ok.stk
 . rw[e];show I.funs
 . rw[e];let(m,j,_):=I.loc;show .cons (by rw[I.ok.kind];decide) q j ?_ I.funs;show Heap.get?_none_of_le (fx I.ok.bsz I.ok.above)
def ai.stkSub(I:ai X ae U H s):∀b∈frs X.stack,b∈X.env.locals::X.fs:=λb j=>by
 obtain e|⟨e,q⟩:=I.ok.stk
 . grind
 . rw[e]at j;unfold frs at j;rw[xK,q]at j;show j
def ai.stkFree(I:ai X ae U H s):∀b∈frs X.stack,H b=J:=λb j=>by
 obtain e|j:=bP.mp (I.stkSub b j)
 . rw[e];show I.free
 . let(_,o,q,_):=I.ok.funs.mem j;show I.base.free b o q (I.ok.frf b j) λz=>I.ok.exfs b z j
def ai.step{ch:List Addr}(I:ai X ae U H s)
 (D:∀b∈ch,(b∈X.ex\/X.s₀.heap.objs.size<=b)/\b≠X.env.locals/\(∀x c,X.env.cells.lookup x=!c->c≠b)/\∀p∈X.pn++ae,p.1≠b)
 (keep:∀b o,b≠X.env.locals->b∉X.fs->b∉ch->s.heap.get? b=!o->H b=J->h'.get? b=!o)
 (slot:∀b o,b≠X.env.locals->b∈X.fs->b∉ch->s.heap.get? b=!o->H b=J->∃sl,h'.get? b=some { o with slots:=sl }) (free:∀b o,b∉ch->s.heap.get? b=!o->H b=J->H' b=J)
 (there:∀b o,b∉ch->s.heap.get? b=!o->∃o',h'.get? b=!o')
 (tups:∀b xs,H b=!(.tup xs)->H' b=!(.tup xs)) (frzs:∀b o u,H b=!(.frz o u)->H' b=!(.frz o u)) (tbls:∀b ps,H b=!(.tbl ps)->∃more,H' b=!(.tbl (ps++more)))
 (ns:∀m,s.heap.Ns X.env.locals m->h'.Ns X.env.locals m) (hok:jm X.prog X.w H' h') (hg:AllBare g'):
 ai X ae U H' { s with heap:=h',gens:=g',drawn:=d',toks:=t' }:=by
 have CA:∀b o,X.s₀.heap.get? b=!o->b≠X.env.locals:=λb o e=>eR (fT (dq e) I.ok.above);have Q:∀b o,X.s₀.heap.get? b=!o->b∉X.ex->b∉ch:=λb o e j hb=>by
  obtain z|z:=(D b hb).1
  . show j z
  . show absurd (fT (dq e) z) ()
 have F:∀x c,X.env.cells.lookup x=!c->∀v,s.heap.IsCell c v->h'.IsCell c v:=λx c e v z0=>by
  let(o,ho,hd):=z0
  let N:=λz=>(D c z).2.2.1 x c e O;by_cases hc:c∈X.fs
  . let(sl,q):=slot c o (I.cne x c e) hc N ho (I.freeC x c e);show#[_,q,hd]
  . show#[o,keep c o (I.cne x c e) hc N ho (I.freeC x c e),hd]
 show#[I.ok,I.os,hg,#[λb o e n hb j=>?_,λb o e n hb j=>?_,λb o e n j=>?_,λb o e j=>?_,λb xs e=>tups b xs (I.base.tups b xs e),λb o xs e=>frzs b o xs (I.base.frzs b o xs e),λb ps e=>?_],?_,λx c e=>?_,?_,λx c e=>?_,λp hp=>?_,hok,I.len]
 . show keep b o (CA b o e) hb (Q b o e j) (I.base.keep b o e n hb j) (I.base.free b o e n j)
 . let(sl,W):=I.base.slot b o e n hb j;let(L4,e2):=slot b _ (CA b o e) hb (Q b o e j) W (I.base.free b o e n j);show#[L4,e2]
 . let(o',W):=I.base.there b o e j;show free b o' (Q b o e j) W (I.base.free b o e n j)
 . let(o',W):=I.base.there b o e j;show there b o' (Q b o e j) W
 . let(m1,W):=I.base.tbls b ps e;let(m2,e2):=tbls b _ W;show#[m1++m2,by rw[e2,Array.append_assoc]]
 . let(m,hn,hl):=I.loc;show#[m,ns m hn,λi x v W e2 e3=>?_];let(u,r,l):=hl i x v W e2 e3;show#[u,r,?_];obtain l|⟨k,c,e,z⟩:=l
   . show Zl l
   . show YY #[k,c,e,F x c e _ z]
 . let(v,z):=I.cell x c e;show#[v,F x c e v z]
 . let(m,(o,_,_,ho,_),_):=I.loc;show free _ o (λz=>(D _ z).2.1 O) ho I.free
 . let(v,o,ho,hd):=I.cell x c e;show free c o (λz=>(D c z).2.2.1 x c e O) ho (I.freeC x c e)
 . let(e,n,ne,nf,d):=I.pin p hp;let N:=λz=>(D p.1 z).2.2.2 p hp O;show#[keep p.1 p.2 ne nf N e n,free p.1 p.2 N e n,ne,nf,d]
def ai.un(I:ai X ae U H s)(u:Un X.fs [] H H' s.heap h')(N:jm X.prog X.w H' h'):ai X ae U H' { s with heap:=h',toks:=t' }:=by
 let(m,(o,es,ep,W,r),_):=id I.loc;let(sl,hL):=u.any W I.free (by simp);show I.step (ch:=[]) (λ_ z=>nomatch z) (λb o _ D _ e n=>u.keep b o e n D ()) (λb o _ D _ e n=>u.slot b o e n D ()) (λb o _ e n=>u.free b o e n ()) (λb o _ e=>u.there b o e ()) u.tups u.frzs u.tbls (λm' hm=>by let(o',q,F,j,r'):=hm;rw[W]at j;cases j;show#[_,q,F,hL,r']) N I.bare
def ai.call(I:ai X ae U H s)(u:Un (frs X.stack) ch H H' s.heap h')(N:jm X.prog X.w H' h')(hg:AllBare g')
 (j:∀b∈ch,(b∈X.ex\/X.s₀.heap.objs.size<=b)/\b≠X.env.locals/\(∀x c,X.env.cells.lookup x=!c->c≠b)/\∀p∈X.pn++ae,p.1≠b):
 ai X ae U H' { s with heap:=h',gens:=g',drawn:=d',toks:=t' }:=by
 let(m,(o,es,ep,ho,r),_):=id I.loc;let(sl,W):=u.any ho I.free λz=>(j _ z).2.1 O;show I.step j (λb o W hb i e n=>u.keep b o e n (λz=>(bP.mp (I.stkSub b z)).elim W hb) i) (λb o _ _ i e n=>u.any e n i) (λb o i e n=>u.free b o e n i) (λb o i e=>u.there b o e i) u.tups u.frzs u.tbls (λm' hm=>by let(o',F,Q,q,r'):=hm;rw[ho]at q;cases q;show#[_,F,Q,W,r']) N hg
def ai.turned(I:ai X ae U H s)(k:∀b o,b≠it->s.heap.get? b=!o->h'.get? b=!o)(N:H it=J)(W:it≠X.env.locals)
 (h1:it∈X.ex\/X.s₀.heap.objs.size<=it) (h2:∀x c,X.env.cells.lookup x=!c->c≠it) (Q:∀p∈X.pn++ae,p.1≠it):ai X ae U H { s with heap:=h',toks:=t' }:=by
 have D:∀b u,H b=!u->b≠it:=λb u e z=>by rw[z,N]at e;cases e
 show I.step (ch:=[it]) (λb hb=>?_) (λb o _ _ j e _=>k b o (λz=>j ∅) e) (λb o _ _ j e _=>#[o.slots,k b o (λz=>j ∅) e]) (λ_ _ _ _ n=>n)
  (λb o j e=>#[o,k b o (λz=>j ∅) e]) (λ_ _ e=>e) (λ_ _ _ e=>e) (λb ps e=>#[#[],by rw[e];simp]) (λm hm=>?_) (λb u e=>?_) I.bare
 . have e:b=it:=by simpa using hb
   subst e;show#[h1,W,h2,Q]
 . let(o,es,ep,ho,r):=hm;show#[o,es,ep,k _ o (Ne.symm W) ho,r]
 . show(I.hok b u e).stay (λc v j q=>k c v ?_ q) (λ_ q=>q) λ_ _ q=>q;obtain z|z:=j
   . rw[z];show D b u e
   . show D c _ z
def ai.tok(I:ai X ae U H s)(t:Nat):ai X ae U H { s with toks:=t }:=I.un Un.refl I.hok
theorem ai.kept(I:ai X ae U H s)(k:∀b u,s.heap.get? b=!u->h'.get? b=!u):ai X ae U H { s with heap:=h',toks:=t' }:=I.un (Un.kept k) (I.hok.kept k)
theorem ai.laid{a:Addr}(I:ai X ae U H s)(k:∀b u,s.heap.get? b=!u->h'.get? b=!u)(j: ~~~s.heap.objs<=a)(new:fG X.prog X.w (bp H a o) h' a o):
 ai X ae U (bp H a o) { s with heap:=h',toks:=t' }:=I.un (Un.laid k j (I.hok.fresh j)) (I.hok.laid k j new)
theorem ai.write(I:ai X ae U H s)(mu:Tt (H x))(he:e=x\/H e=!(.own x))(k:∀b u,b≠e->s.heap.get? b=!u->h'.get? b=!u)(j:∃u,h'.get? e=!u)
 (new:fG X.prog X.w (bp H x o) h' x o):ai X ae U (bp H x o) { s with heap:=h',toks:=t' }:=I.un (Un.write mu he k j) (I.hok.write mu he k j new)
def ai.pins_of(I:ai X ae U H s)(h:∀p∈pins',s.heap.get? p.1=!p.2/\H p.1=J/\p.1≠X.env.locals/\p.1∉X.fs/\∀v,p.2.data≠.cell v):ai X pins' U H s:=
 #[I.ok,I.os,I.bare,I.base,I.loc,I.cell,I.free,I.freeC,λp j=>(dy.mp j).elim (λz=>I.pin p (gW _ z)) (h p),I.hok,I.len]
def Ky{N:List Str}(z:N.Nodup){i j:Nat}(a:N[i]?=!x)(b:N[j]?=!x):i=j:=by let(h1,D):=eM.mp a;let(h2,q):=eM.mp b;show(getElem_inj z).mp (D.trans q.symm)
def HF(I:ai X eK U H s)(hN:X.N.Nodup)(hi:X.N[i]?=!x)(hx:Loc X.env.scope x)(r:aI v u)
 (h:∀s',ai X eK (U.set i (!v)) H s'->(∃a,Heap.SameBut a s.heap s'.heap/\(a=X.env.locals\/X.env.cells.lookup x=!a))->Q ⟨⟩ s') (hf:X.fn x=G\/X.env.scope.names.lookup x=!.local:=by first |show Zl O |show YY O |assumption):wpAny ZO A (storeName X.env x u) Q E s:=by
 let(m,hn,hl):=id I.loc;have hcls:(X.env.scope.kind==.class||(X.env.scope.kind==.module&&X.env.locals != X.env.globals))=M:=by rw[I.ok.kind];rfl
 have CB:i< -U:=by rw[I.len];show(eM.mp hi).1
 let cne:=I.cne;have D:∀{a:Addr}{h':Heap},(∃o,s.heap.get? a=!o/\H a=J)->Heap.SameBut a s.heap h'->jm X.prog X.w H h':=λ{a h'} ha hs b ob e=>by
  show(I.hok b ob e).stay (λc w' W q=>(hs.2 c ?_).trans q) (λ_ q=>q) λ_ _ q=>q;obtain rfl|W:=W
  . grind
  . grind
 obtain hk|hk:=hx
 . show wpAny_storeName_local hk hn (λh' oT hs=>?_) hcls;let(oL,_,_,L5,_):=id hn;show h _ #[I.ok,I.os,I.bare,#[λb o e n hb hx=>?_,λb o e n hb hx=>?_,I.base.free,λb o e hx=>?_,I.base.tups,I.base.frzs,I.base.tbls],#[_,oT,λj y v' F e2 e3=>?_],λy c e=>?_,I.free,I.freeC,λp hp=>?_,D #[oL,L5,I.free] hs,by simpa using I.len] #[_,hs,Zl O]
   . show(hs.2 b (eR (fT (dq e) I.ok.above))).trans (I.base.keep b o e n hb hx)
   . let(sl,F):=I.base.slot b o e n hb hx;show#[sl,(hs.2 b (eR (fT (dq e) I.ok.above))).trans F]
   . let(o',F):=I.base.there b o e hx;show#[o',(hs.2 b (eR (fT (dq e) I.ok.above))).trans F]
   . by_cases hj:j=i
     . subst hj;rw[hi]at F;cases F;rw[kt CB]at e2;cases e2;show#[u,r,Zl #[hk,by simp]]
     . rw[u4 (Ne.symm hj)]at e2;let(u',r',q):=hl j y v' F e2 e3;show#[u',r',?_];obtain⟨k,e⟩|⟨k,c,e,z⟩:=q
       . show Zl #[k,?_];have:y≠x:=λe=>hj (Ky hN F (e▸hi));simp[this,e]
       . show YY #[k,c,e,z.sameBut hs (cne y c e)]
   . let(w',z):=I.cell y c e;show#[w',z.sameBut hs (cne y c e)]
   . let(e,n,ne,nf,d):=I.pin p hp;show#[(hs.2 p.1 ne).trans e,n,ne,nf,d]
 . have nz:X.fn x=G:=by
    obtain z|z:=hf
    . show z
    . rw[z]at hk;cases hk
   let(c,W):=I.ok.has x (Zl hk);let(w',z):=I.cell x c W;show wpAny_storeName_cell I.ok.kind hk W z (λh' nB hs=>?_);let(oc,mi,hocd):=id z;show h { s with heap:=h' } #[I.ok,I.os,I.bare,#[λb o e n hb hx=>?_,λb o e n hb hx=>?_,I.base.free,λb o e hx=>?_,I.base.tups,I.base.frzs,I.base.tbls],#[m,hn.sameBut hs (Ne.symm (cne x c W)),λj y v' F e2 e3=>?_],λy c' e=>?_,I.free,I.freeC,λp hp=>?_,D #[oc,mi,I.freeC x c W] hs,by simpa using I.len] #[c,hs,YY W]
   . show(hs.2 b (eR (fT (dq e) (I.ok.cab x c nz W)))).trans (I.base.keep b o e n hb hx)
   . let(sl,F):=I.base.slot b o e n hb hx;show#[sl,(hs.2 b (eR (fT (dq e) (I.ok.cab x c nz W)))).trans F]
   . let(o',F):=I.base.there b o e hx;show#[o',(hs.2 b (eR (fT (dq e) (I.ok.cab x c nz W)))).trans F]
   . by_cases hj:j=i
     . subst hj;rw[hi]at F;cases F;rw[kt CB]at e2;cases e2;show#[u,r,YY #[Zl hk,c,W,nB]]
     . rw[u4 (Ne.symm hj)]at e2;let(u',r',q):=hl j y v' F e2 e3;show#[u',r',?_];obtain q|⟨k,c',e,z'⟩:=q
       . show Zl q
       . show YY #[k,c',e,z'.sameBut hs ?_];rintro rfl;show hj (Ky hN F (I.ok.inj _ _ _ e W▸hi))
   . by_cases vj:c'=c
     . subst vj;show#[_,nB]
     . let(w2,z2):=I.cell y c' e;show#[w2,z2.sameBut hs vj]
   . let(e,n,ne,nf,d):=I.pin p hp;show#[(hs.2 p.1 ?_).trans e,n,ne,nf,d];intro q;rw[q,mi]at e;show d w' ()
def Kz(I:ai X eK U H s)(q:X.N.Nodup)(hi:X.N[i]?=!x)(j:Loc X.env.scope x)(r:aI v u)
 (h:∀s',ai X eK (U.set i (!v)) H s'->Q ⟨⟩ s') (z:X.fn x=G\/X.env.scope.names.lookup x=!.local:=by first |show Zl O |show YY O |assumption):wpAny ZO A (storeName X.env x u) Q E s:=
 HF I q hi j r (λs' D _=>h s' D) z
def ai.call'(I:ai X ae U H s)(z:s'.os=s.os)(u:Un (frs X.stack) ch H H' s.heap s'.heap)(q:jm X.prog X.w H' s'.heap)(D:AllBare s'.gens)
 (j:∀b∈ch,(b∈X.ex\/X.s₀.heap.objs.size<=b)/\b≠X.env.locals/\(∀x c,X.env.cells.lookup x=!c->c≠b)/\∀p∈X.pn++ae,p.1≠b):ai X ae U H' s':=by
 let(h',W,N,F,o'):=s';let e:=z;subst e;show I.call u q D j
end
abbrev XK:=Value->Option Addr->Hp->Prop
abbrev St:=List (Option V)
abbrev VK:=V->Hp->Prop
abbrev TE:=St->Hp->VK->Prop
abbrev TT:=St->Hp->(Bool->Hp->Prop)->Prop
abbrev TA:=St->Hp->(List V->Hp->Prop)->Prop
structure kc where
 nx:St->Hp->Prop
 rt:VK
 bk:St->Hp->Prop:=λ_ _=>False
 ct:St->Hp->Prop:=λ_ _=>False
abbrev TS:=kc->St->Hp->Prop
def EP(X:Cx)(ae:List (Addr×Obj))(U:St)(Q:VK)(u:Value)(s':Shared):Prop:=∃v H',ai X ae U H' s'/\aI v u/\Q v H'
def TP(X:Cx)(ae:List (Addr×Obj))(U:St)(Q:Bool->Hp->Prop)(b:Bool)(s':Shared):Prop:=∃H',ai X ae U H' s'/\Q b H'
def AP(X:Cx)(ae:List (Addr×Obj))(U:St)(Q:List V->Hp->Prop)(us:List Value)(s':Shared):Prop:=∃vs H',ai X ae U H' s'/\ap vs us/\Q vs H'
def SP(X:Cx)(ae:List (Addr×Obj))(D:kc)(f:Flow)(s':Shared):Prop:=
 match f with
 |.next=>∃U' H',ai X ae U' H' s'/\D.nx U' H'
 |.brk=>∃U' H',ai X ae U' H' s'/\D.bk U' H'
 |.cont=>∃U' H',ai X ae U' H' s'/\D.ct U' H'
 |.ret u=>∃v U' H',ai X ae U' H' s'/\aI v u/\D.rt v H'
def PE(X:Cx)(e:Expr)(t:TE):Prop:=
 ∀(ae:List (Addr×Obj))(s:Shared)(U:St)(H:Hp)(Q:VK),ai X ae U H s->t U H Q->wpAny (model X.prog X.w) X.A (eval e X.env) (EP X ae U Q) X.xe s
def PT(X:Cx)(e:Expr)(t:TT):Prop:=
 ∀(ae:List (Addr×Obj))(s:Shared)(U:St)(H:Hp)(Q:Bool->Hp->Prop),ai X ae U H s->t U H Q->wpAny (model X.prog X.w) X.A (isTrue e X.env (eval e X.env)) (TP X ae U Q) X.xe s
def PW(X:Cx)(e:Expr)(t:TT):Prop:=
 ∀(whole:Sem Value)(ae:List (Addr×Obj))(s:Shared)(U:St)(H:Hp)(Q:Bool->Hp->Prop),ai X ae U H s->t U H Q->wpAny (model X.prog X.w) X.A (isTrue e X.env whole) (TP X ae U Q) X.xe s
def PW.pt(h:PW X e t):PT X e t:=h _
def PA(X:Cx)(es:List Expr)(t:TA):Prop:=
 ∀(pos:Pos)(ae:List (Addr×Obj))(s:Shared)(U:St)(H:Hp)(Q:List V->Hp->Prop),ai X ae U H s->t U H Q->wpAny (model X.prog X.w) X.A (spliced (backTo pos (starEach es X.env))) (AP X ae U Q) X.xe s
def PS(X:Cx)(st:Stmt)(t:TS):Prop:=
 ∀(ae:List (Addr×Obj))(s:Shared)(U:St)(H:Hp)(D:kc),ai X ae U H s->t D U H->wpAny (model X.prog X.w) X.A (exec st X.env) (SP X ae D) X.xe s
def jP(X:Cx)(st:List Stmt)(t:TS):Prop:=
 ∀(ae:List (Addr×Obj))(s:Shared)(U:St)(H:Hp)(D:kc),ai X ae U H s->t D U H->wpAny (model X.prog X.w) X.A (execs st X.env) (SP X ae D) X.xe s
def dg(h:wpAny ZO A t Q E s)(j:∀a s,Q a s->Q' a s):wpAny ZO A t Q' E s:=nr h j λ_ _ x=>x
section
variable {X:Cx}
def uH(i:Nat):TE:=λU H Q=>∃v,U[i]?=!(!v)/\Q v H
def tC(v:V):TE:=λ_ H Q=>Q v H
def L6{pos:Pos}(F:X.N[i]?=!x)(hv:Tv X.env.scope x)(q:(x==("__debug__" : Str))=M:=by decide)(z:(x==("__classdict__" : Str))=M:=by decide):PE X (.Name x pos) (uH i):=by
 intro mo s U H Q I h;let(v,e,h):=h;let(m,W,hl):=I.loc;let(u,r,l):=hl i x v F e hv;have fin:EP X mo U Q u s:=#[v,H,I,r,h];obtain⟨hk,hm⟩|⟨hk,c,D,j⟩:=l
 . show wpAny_Name (wpAny_loadName_local I.ok.kind hk W hm fin) q
 . obtain hk|hk:=hk
   . show wpAny_Name (wpAny_loadName_cell I.ok.kind hk D j fin) q
   . show wpAny_Name (wpAny_loadName_free I.ok.kind hk D j fin z) q
def L8{i j pos}:PE X (.Constant (.int i) j pos) (tC (.int i)):=λ_ _ _ H _ I h=>wpAny_Constant_int #[.int i,H,I.tok _,#[_,O],h]
def YH{b j pos}:PE X (.Constant (.bool b) j pos) (tC (.bl b)):=λ_ _ _ H _ I h=>Constant_bool #[.bl b,H,I,O,h]
def L9{j pos}:PE X (.Constant .none j pos) (tC .non):=λ_ _ _ H _ I h=>Constant_none #[.non,H,I,O,h]
def L_{x j pos}:PE X (.Constant (.str x) j pos) (tC (.str x)):=λ_ _ _ H _ I h=>Calls.Constant_str #[.str x,H,I.tok _,#[_,O],h]
def Gl(X:Cx)(x:Str):Prop:=X.env.kindOf x=!.globalImplicit
def Pz{U:St}(I:ai X eK U H s)(q:Gl X x)(j:X.mg x=!u)(h:Q u s)
 (z:(x==("__debug__" : Str))=M:=by decide):wpAny (model X.prog X.w) X.A (eval (.Name x pos) X.env) Q E s:=
 Calls.Name_function_global I.ok.kind q (Calls.loadGlobal_global (by rw[I.ok.glob];show I.mod.glob.keeps I.bk) j h) z
def zE{U:St}{pos:Pos}(I:ai X eK U H s)(j:Gl X x)(z:X.mg x=J)(D:bootBuiltins x=!u)(h:Q u s)
 (q:x ≠ "__name__":=by decide) (F:(x==("__debug__" : Str))=M:=by decide):wpAny (model X.prog X.w) X.A (eval (.Name x pos) X.env) Q E s:=by
 let(N,h1,h2):=I.mod.blt;show Calls.Name_function_global I.ok.kind j (Calls.loadGlobal_builtin (by rw[I.ok.glob];show I.mod.glob.keeps I.bk) z (by rw[I.ok.blt];show h1.keeps I.bk) ((h2 x q).trans D) h) F
variable {a b:Expr}{ta tb:TE}{pos:Pos}
variable {tA vk:TT}{rest:List Expr}
def CD(t u:TT):TT:=λU H Q=>t U H λc H1=>if c=G then u U H1 Q else Q M H1
def CF(t u:TT):TT:=λU H Q=>t U H λc H1=>if c=G then Q G H1 else u U H1 Q
def Ma(t:TT):TT:=λU H Q=>t U H λc H1=>Q (not c) H1
def ZF(j:PT X a tA):PW X (.BoolOp .And [a] pos) tA:=by
 intro wh ae s U H Q I h;show isTrue_and (dg (j ae s U H Q I h) λc q e=>?_);cases c with
 |true=>show isTrue_and_nil e
 |false=>show e
def Mb(j:PT X a tA):PW X (.BoolOp .Or [a] pos) tA:=by
 intro wh ae s U H Q I h;show isTrue_or (dg (j ae s U H Q I h) λc q e=>?_);cases c with
 |false=>show isTrue_or_nil e
 |true=>show e
def Mc(i:PT X a tA)(q:PW X (.BoolOp .And (b::rest) pos) vk):PW X (.BoolOp .And (a::b::rest) pos) (CD tA vk):=by
 intro wh ae s U H Q I h;show isTrue_and (dg (i ae s U H _ I h) λc j F=>?_);let(H1,z,D):=F;cases c with
 |true=>show q wh ae j U H1 Q z D
 |false=>show#[H1,z,D]
def Me(i:PT X a tA)(q:PW X (.BoolOp .Or (b::rest) pos) vk):PW X (.BoolOp .Or (a::b::rest) pos) (CF tA vk):=by
 intro wh ae s U H Q I h;show isTrue_or (dg (i ae s U H _ I h) λc j F=>?_);let(H1,z,D):=F;cases c with
 |true=>show#[H1,z,D]
 |false=>show q wh ae j U H1 Q z D
def Mn(j:PT X a tA):PT X (.UnaryOp .Not a pos) (Ma tA):=by intro ae s U H Q I h;show isTrue_not (j ae s U H (λc H1=>Q (not c) H1) I h)
def Mo(t:TT)(ta tb:TE):TE:=λU H Q=>t U H λc H1=>if c=G then ta U H1 Q else tb U H1 Q
def Wg(z:PT X c tA)(j:PE X a ta)(q:PE X b tb):PE X (.IfExp c a b pos) (Mo tA ta tb):=by
 intro ae s U H Q I h;show wpAny_IfExp (dg (z ae s U H _ I h) λd i N=>?_);let(H1,D,F):=N;cases d with
 |true=>show j ae i U H1 Q D F
 |false=>show q ae i U H1 Q D F
end
def bY(K:FG)(H:Hp)(a:Addr)(xs:List V):Prop:=
 Rd H a (.lst xs)\/
  ∃(o:Obj)(du:Array Value)(n:Nat),K.lookup a=!o/\o.cls=.type "list"/\o.dict=J/\o.data=.seq du n/\du.size<=sizeLine/\ap xs du.toList
def cW(K:FG)(H:Hp)(a:Addr)(xs:List V):Prop:=
 Rd H a (.tup xs)\/
  ∃(o:Obj)(du:Array Value)(n:Nat),K.lookup a=!o/\o.cls=.type "tuple"/\o.data=.seq du n/\du.size<=sizeLine/\ap xs du.toList
noncomputable def My:Value->Option V
 |.none=>!.non
 |.bool b=>!(.bl b)
 |.int i _=>!(.int i)
 |.str x _=>!(.str x)
 |.bytes b _=>!(.byt b)
 |.float b _=>!(.flt b)
 |YV a=>!(.ref a)
 |.type n=>!(.ty n)
 |_=>J
def aI.abs(r:aI x u):My u=!x:=by
 cases x with
 |non=>cases r;rfl
 |bl _=>cases r;rfl
 |int _=>let(t,rfl):=r;rfl
 |str _=>let(t,rfl):=r;rfl
 |byt _=>let(t,rfl):=r;rfl
 |flt _=>let(t,rfl):=r;rfl
 |ref _=>cases r;rfl
 |ty _=>cases r;rfl
def aI.inj(r:aI x u)(q:aI y u):x=y:=fw (r.abs.symm.trans q.abs)
theorem ap.inj:∀{xs ys:List V}{j:List Value},ap xs j->ap ys j->xs=ys
 |_,_,_,.nil,.nil=>rfl
 |_,_,_,.cons r t,.cons z q=>by rw[r.inj z,ap.inj t q]
section
variable {X:Cx}{ae:List (Addr×Obj)}{U:St}{H:Hp}{s:Shared}{a:Addr}{xs ys:List V}
def bY.of{K:FG}(h:H a=!(.lst xs)):bY K H a xs:=Zl (Zl h)
def cW.of{K:FG}(h:H a=!(.tup xs)):cW K H a xs:=Zl (Zl h)
def ai.list(I:ai X ae U H s)(h:bY X.K H a xs):∃j:List Value,ap xs j/\PlainL s.heap a j.toArray/\-xs<=sizeLine:=by
 obtain h|⟨o,j,n,hk,D,q,hs,F,r⟩:=h
 . let(z,j,n,r,e):=h.ok I.hok;show#[j,r,#[_,n,e,O,O,O],z]
 . show#[j.toList,r,#[o,n,I.kIn a o hk,D,q,by simpa using hs],?_];let e:=-r;grind
def ai.tuple(I:ai X ae U H s)(h:cW X.K H a xs):∃j:List Value,ap xs j/\IsTup s.heap a j.toArray/\-xs<=sizeLine:=by
 obtain h|⟨o,j,n,hk,D,hs,F,r⟩:=h
 . let(z,j,r,p):=h.ok I.hok;show#[j,r,p,z]
 . show#[j.toList,r,#[o,I.kIn a o hk,D,n,by simpa using hs],?_];let e:=-r;grind
def ai.list_inj(I:ai X ae U H s)(h:bY X.K H a xs)(h':bY X.K H a ys):xs=ys:=by
 let(q,r,(o,n,e,_,_,d),_):=I.list h;let(j,F,(o',W,D,_,_,z),_):=I.list h';rw[e]at D;cases D;rw[d]at z;injection z with N _;have:q=j:=by simpa using gT Array.toList N
 subst this;show r.inj F
def ai.tuple_inj(I:ai X ae U H s)(h:cW X.K H a xs)(h':cW X.K H a ys):xs=ys:=by
 let(q,r,(o,e,_,n,d),_):=I.tuple h;let(j,F,(o',D,_,W,z),_):=I.tuple h';rw[e]at D;cases D;rw[d]at z;injection z with N _;have:q=j:=by simpa using gT Array.toList N
 subst this;show r.inj F
end
noncomputable abbrev Cx.wish (X:Cx) (E:Value->Shared->Prop):Cx:={ X with xe:=E }
abbrev Cx.nox(X:Cx):Cx:=X.wish λ_ _=>False
theorem Cx.Ok.wish{X:Cx}(ok:X.Ok)(E:Value->Shared->Prop):(X.wish E).Ok:=
 #[ok.mod,ok.kind,ok.glob,ok.blt,ok.above,ok.inj,ok.has,ok.cab,ok.hd,ok.frames,ok.stk,ok.exf,ok.bs,ok.bsz,ok.noex,ok.exfs,ok.funs,ok.frf]
def Cx.Ok.unwish{X:Cx}(ok:(X.wish E).Ok):X.Ok:=
 #[ok.mod,ok.kind,ok.glob,ok.blt,ok.above,ok.inj,ok.has,ok.cab,ok.hd,ok.frames,ok.stk,ok.exf,ok.bs,ok.bsz,ok.noex,ok.exfs,ok.funs,ok.frf]
section
variable {X:Cx}{ae:List (Addr×Obj)}{U:St}{H:Hp}{s:Shared}{E:Value->Shared->Prop}
theorem ai.wish(I:ai X ae U H s)(E:Value->Shared->Prop):ai (X.wish E) ae U H s:=#[I.ok.wish E,I.os,I.bare,I.base,I.loc,I.cell,I.free,I.freeC,I.pin,I.hok,I.len]
theorem ai.unwish(I:ai (X.wish E) ae U H s):ai X ae U H s:=#[I.ok.unwish,I.os,I.bare,I.base,I.loc,I.cell,I.free,I.freeC,I.pin,I.hok,I.len]
theorem SP.unwish(h:SP (X.wish E) ae D f s'):SP X ae D f s':=by
 cases f with
 |next=>let(j,H',I,q):=h;show#[j,H',I.unwish,q]
 |brk=>let(j,H',I,q):=h;show#[j,H',I.unwish,q]
 |cont=>let(j,H',I,q):=h;show#[j,H',I.unwish,q]
 |ret u=>let(v,j,H',I,r,q):=h;show#[v,j,H',I.unwish,r,q]
theorem jP.nox{st:List Stmt}(h:jP X.nox st t):jP X st t:=λae s U H D I j=>
 nr (h ae s U H D (I.wish _) j) (λ_ _ q=>q.unwish) λ_ _ z=>False.elim z
end
section
variable {X:Cx}{st:Stmt}{rest:List Stmt}{t u:TS}{e:Expr}{te:TE}{pos:Pos}
def MA:TS:=λD U H=>D.nx U H
def MB(t u:TS):TS:=λD U H=>t { D with nx:=u D } U H
def ZJ:jP X [] MA:=λ_ _ U H _ I h=>wpAny_execs_nil #[U,H,I,h]
def Wh(h1:PS X st t)(h2:jP X rest u):jP X (st::rest) (MB t u):=by
 intro ae s U H D I h;show wpAny_execs_cons (dg (h1 ae s U H { D with nx:=u D } I h) λf z q=>?_);cases f with
 |next=>
  let(F,H',j,q):=q;show h2 ae z F H' D j q
 |ret v=>show q
 |brk=>show q
 |cont=>show q
def ZK(h1:PS X st t):jP X [st] t:=by
 intro ae s U H D I h;show wpAny_execs_cons (dg (h1 ae s U H D I h) λf N q=>?_);cases f with
 |next=>show wpAny_execs_nil q
 |ret v=>show q
 |brk=>show q
 |cont=>show q
def ai.quiet{U:St}(I:ai X ae U H s):interactive X.env=M:=by simp[interactive,I.ok.kind]
def J3(te:TE):TS:=λD U H=>te U H λ_ H1=>D.nx U H1
def qK(he:PE X e te)(hs:swapsWith e J pos.line X.env=pure M:=by rfl):PS X (.Expr e pos) (J3 te):=by intro ae s U H D I h;show wpAny_Expr_any (dg (he ae s U H _ I h) λv i z=>by let(x,H1,j,F,q):=z;show #[U,H1,j,q]) I.quiet hs
def MC(te:TE):TS:=λD U H=>te U H D.rt
def Tz(he:PE X e te):PS X (.Return (!e) pos) (MC te):=by intro ae s U H D I h;show wpAny_Return_some (dg (he ae s U H _ I h) λv i z=>by let(x,H1,j,q,F):=z;show #[x,U,H1,j,q,F])
def ME(c:TT)(t u:TS):TS:=λD U H=>c U H λb H1=>if b=G then t D U H1 else u D U H1
def MG(z:PT X c tc)(j:jP X a t)(q:jP X b u):PS X (.If c a b pos) (ME tc t u):=by
 intro ae s U H D I h;show wpAny_If (dg (z ae s U H _ I h) λd i Q=>?_);let(H1,F,N):=Q;cases d with
 |true=>show j ae i U H1 D F N
 |false=>show q ae i U H1 D F N
end
abbrev TG:=V->St->Hp->(St->Hp->Prop)->Prop
abbrev yU:=List V->St->Hp->(St->Hp->Prop)->Prop
def PG(X:Cx)(target:Expr)(t:TG):Prop:=
 ∀(ae:List (Addr×Obj))(s:Shared)(U:St)(H:Hp)(v:V)(u:Value)(Q:St->Hp->Prop),ai X ae U H s->aI v u->t v U H Q->
  wpAny (model X.prog X.w) X.A (assign target X.env u) (λ_ s'=>∃U' H',ai X ae U' H' s'/\Q U' H') X.xe s
def TQ(X:Cx)(ts:List Expr)(t:yU):Prop:=
 ∀(ae:List (Addr×Obj))(s:Shared)(U:St)(H:Hp)(vs:List V)(us:List Value)(Q:St->Hp->Prop),ai X ae U H s->ap vs us->t vs U H Q->
  wpAny (model X.prog X.w) X.A (assignInOrder ((assignEach ts X.env).map (·.2)) us) (λ_ s'=>∃U' H',ai X ae U' H' s'/\Q U' H') X.xe s
abbrev Wi:=V->V->V->Hp->(Hp->Prop)->Prop
def Wj(X:Cx)(t:Wi):Prop:=
 ∀(ae:List (Addr×Obj))(s:Shared)(U:St)(H:Hp)(o i v:V)(ov iv u:Value)(Q:Hp->Prop),ai X ae U H s->aI o ov->aI i iv->aI v u->t o i v H Q->
  wpAny (model X.prog X.w) X.A (setItem ov iv u) (λ_ s'=>∃H',ai X ae U H' s'/\Q H') X.xe s
section
variable {X:Cx}{pos:Pos}
def J4(i:Nat):TG:=λv U H Q=>Q (U.set i (!v)) H
def PB(q:X.N.Nodup)(hi:X.N[i]?=!x)(j:Loc X.env.scope x)(D:X.fn x=G\/X.env.scope.names.lookup x=!.local:=by first |show Zl O |show YY O |assumption):PG X (.Name x pos) (J4 i):=by intro ae s U H v u Q I r h;show wpAny_assign_Name (Kz I q hi j r (λs' z=>#[_,H,z,h]) D)
def CH:yU:=λvs U H Q=>vs=[]/\Q U H
def YJ(t:TG)(u:yU):yU:=λvs U H Q=>∃v r,vs=v::r/\t v U H λU' H'=>u r U' H' Q
def gR:TQ X [] CH:=by intro ae s U H j i Q I r h;let(e,h):=h;show assignInOrder_nil #[U,H,I,h]
def bM(h1:PG X e t)(h2:TQ X es u)
 (hs:(assignEach (e::es) X.env).map (·.2)=assign e X.env::(assignEach es X.env).map (·.2):=by rfl):TQ X (e::es) (YJ t u):=by
 intro ae s U H z D Q I r h;let(v,F,i,h):=h;subst i;cases r with
 |cons r q=>
  rw[hs];show assignInOrder_cons (dg (h1 ae s U H _ _ _ I r h) λ_ j W=>?_);let(U1,H1,N,q1):=W;show h2 ae j U1 H1 _ _ Q N q q1
def MI(K:FG)(n:Nat)(t:yU):TG:=λv U H Q=>∃a xs,v=.ref a/\cW K H a xs/\-xs=n/\t xs U H Q
def ML{k:Nat}(hc:X.calm=G)(h:TQ X es t)
 (i:-(assignEach es X.env)=n:=by rfl) (j:(assignEach es X.env).findIdx? (·.1)=J:=by rfl):PG X (.Tuple es k pos) (MI X.K n t):=by
 intro ae s U H v u Q I r q;let(a,xs,e1,hq,hl,q):=q;subst e1;cases r;let(F,z,W,hz):=I.tuple hq;show assign_Tuple_tuple (I.ok.hd hc) W (by simp[i,<-hl,z.length]) j λh' D=>?_;let N:=I.kept (t':=s.toks) λb o e=>D b o (eR (dq e)) e;show h ae _ U H xs _ Q N () q
def Wk(to ti:TE)(t:Wi):TG:=λv U H Q=>to U H λo H1=>ti U H1 λi H2=>t o i v H2 λH3=>Q U H3
def Eo(N:PE X o to)(hi:PE X i ti)(hs:Wj X t)
 (z:∀v,assign (.Subscript o i pos) X.env v=(do
   let j <-holding [v] (eval o X.env)
   let q <-holding [v,j] (eval i X.env)
   standAt pos
   holding [v,j,q] (setItem j q v)
   release [v,j,q] []):=by intro _;rfl):PG X (.Subscript o i pos) (Wk to ti t):=by
 intro ae s U H v u Q I r h
 rw[z]
 show al (kq (dg (N ae s U H _ I h) λj F z4=>?_));let(x,H1,I1,r1,q1):=z4
 show al (kq (dg (hi ae F U H1 _ I1 q1) λq D z5=>?_));let(y,H2,I2,r2,q2):=z5
 show al (wpAny_standAt (al (kq (dg (hs ae D U H2 x y v j q u _ I2 r1 r2 r q2) λ_ W z6=>?_))));let(H3,I3,q3):=z6
 show wpAny_release #[U,H3,I3,q3]
def Rz(te:TE)(g:TG):TS:=λD U H=>te U H λx H1=>g x U H1 D.nx
def KH(he:PE X e te)(j:PG X tg g)(hs:swapsWithSole [tg] e pos.line X.env=pure M:=by rfl)(z:swappedStores [tg] e X.env=pure J:=by rfl)
 (h1:(assignEach [tg] X.env).map (·.2)=[assign tg X.env]:=by rfl):PS X (.Assign [tg] e pos) (Rz te g):=by
 intro ae s U H D I h;show wpAny_Assign_stores (dg (he ae s U H _ I h) λv i N=>?_) hs z;let(x,H1,Q,W,q1):=N;rw[h1];show dg (j ae i U H1 x v _ Q W q1) λ_ F q=>q
def MM(z:X.N.Nodup)(hi:X.N[i]?=!x)(F:Loc X.env.scope x)(he:PE X e te)(hs:swapsWith e (!(.Name x pos')) pos.line X.env=pure M:=by rfl)(j:X.fn x=G\/X.env.scope.names.lookup x=!.local:=by first |show Zl O |show YY O |assumption):
 PS X (.Assign [.Name x pos'] e pos) (Rz te (J4 i)):=by
 intro ae s U H D I h;show wpAny_Assign_Name (dg (he ae s U H _ I h) λv Q MO=>?_) hs;let(y,H1,I1,r1,q1):=MO;show Kz I1 z hi F r1 (λW q=>#[_,H1,q,q1]) j
end
structure It where
 go:Nat->Hp->Prop
 yld:Nat->Hp->V->Hp->Prop
 stop:Nat->Hp->Prop
def nJ(X:Cx)(ae:List (Addr×Obj))(H:Hp)(b:Addr):Prop:=
 H b=J/\b≠X.env.locals/\b∉X.fs/\(b∈X.ex\/X.s₀.heap.objs.size<=b)/\(∀x c,X.env.cells.lookup x=!c->c≠b)/\∀p∈X.pn++ae,p.1≠b
def ai.fpOk{U:St}{b:Addr}(I:ai X eK U H s)(j: ~~~s.heap.objs<=b)(D:H' b=J):nJ X eK H' b:=by
 show#[D,j_ (fT I.lt j),I.nofs j,YY (fx I.sz j),λx c e z=>?_,λp F z=>?_]
 . let(v,q):=I.cell x c e;show absurd (fT q.lt ∅) (lP _)
 . show absurd (fT (dq (I.pin p F).1) ∅) (lP _)
structure hU(P:Program)(w:World)(K:FG)(tg:Expr)(ZU:It)(fp:List Addr)(it:Addr)(tn:Nat->Heap->Prop):Prop where
 mem:it∈fp
 obj:∀i h,tn i h->∀b∈fp,∃o,h.get? b=!o/\∀v,o.data≠.cell v
 keep:∀i h h',tn i h->(∀b∈fp,∀o,h.get? b=!o->h'.get? b=!o)->tn i h'
 item:∀(X:Cx),X.prog=P->X.w=w->X.K=K->X.calm=true->∀(i:Nat)(ae:List (Addr×Obj))(s:Shared)(U:St)(H:Hp)(E:Value->Shared->Prop),ai X ae U H s->(∀b∈fp,nJ X ae H b)->tn i s.heap->ZU.go i H->
  wpAny (model P w) X.A (pyNext (.ref it)) (λr s1=>∃u,r=!u/\
   wpAny (model P w) X.A (letOwnedTupleGo tg (.ref it) u) (λ_ s2=>∃x H',ai X ae U H' s2/\aI x u/\ZU.yld i H x H'/\tn (i+1) s2.heap/\∀b∈fp,H' b=none) E s1) E s
 done:∀(X:Cx),X.prog=P->X.w=w->X.K=K->X.calm=true->∀(i:Nat)(ae:List (Addr×Obj))(s:Shared)(U:St)(H:Hp)(E:Value->Shared->Prop),ai X ae U H s->(∀b∈fp,nJ X ae H b)->tn i s.heap->ZU.stop i H->
  wpAny (model P w) X.A (pyNext (.ref it)) (λr s1=>r=none/\ai X ae U H s1) E s
 self:∀(A:Around)(i:Nat)(s:Shared)(Q:Value->Shared->Prop)(E:Value->Shared->Prop),tn i s.heap->Q (.ref it) s->wpAny (model P w) A (pyIter (.ref it)) Q E s
abbrev TI:=St->Hp->(It->Hp->Prop)->Prop
def vm(X:Cx)(ae:List (Addr×Obj))(U:St)(tg:Expr)(ZN:It->Hp->Prop)(vn:Value)(s2:Shared):Prop:=
 ∃(it:Addr)(fp:List Addr)(tn:Nat->Heap->Prop)(ZU:It)(H':Hp),vn=YV it/\ai X ae U H' s2/\hU X.prog X.w X.K tg ZU fp it tn/\tn 0 s2.heap/\(∀b∈fp,nJ X ae H' b)/\ZN ZU H'
def PI(X:Cx)(tg iter:Expr)(wi:TI):Prop:=
 ∀(ae:List (Addr×Obj))(s:Shared)(U:St)(H:Hp)(ZI:It->Hp->Prop),ai X ae U H s->wi U H ZI->
  wpAny (model X.prog X.w) X.A (eval iter X.env) (λv s1=>wpAny (model X.prog X.w) X.A (pyIter v) (vm X ae U tg ZI) X.xe s1) X.xe s
def RB(ho:s.heap.get? it=!o)(hc:o.cls=.type n)(hd:o.data=.fields vs)
 (hn:["enumerate","zip","dict_itemiterator","dict_reverseitemiterator","odict_iterator","itertools.zip_longest","itertools.pairwise"].contains n=false) (hQ:Q ⟨⟩ s):wpAny ZN A (letOwnedTupleGo tg (.ref it) u) Q E s:=by
 cases tg<;>first
  |show bv hQ
  | (cases u<;>first
      |show bv hQ
      | (show al (wpAny_load ho ?_)
         rw[hc,hd];show wpAny ZN A (if (["enumerate","zip","dict_itemiterator","dict_reverseitemiterator","odict_iterator","itertools.zip_longest","itertools.pairwise"].contains n&&vs[0]?==!(rawInt _))=true then _ else _) Q E s;rw[bh ()];show bv hQ))
def YK(K:FG)(a:Addr):It:=
 #[λi H=>∃xs x,bY K H a xs/\xs[i]?=!x,λi H x H'=>H'=H/\∀xs,bY K H a xs->xs[i]?=!x,λi H=>∃xs,bY K H a xs/\-xs<=i]
def YL(K:FG)(a:Addr):It:=
 #[λi H=>∃xs x,cW K H a xs/\xs[i]?=!x,λi H x H'=>H'=H/\∀xs,cW K H a xs->xs[i]?=!x,λi H=>∃xs,cW K H a xs/\-xs<=i]
def YM(lo:Int)(n:Nat):It:=#[λi _=>i<n,λi H x H'=>H'=H/\x=.int (lo+i),λi _=>n<=i]
def MQ{K:FG}(a it:Addr):hU P w K tg (YK K a) [it] it (λi h=>h.IsListIter it a i) where
 mem:=by simp
 obj:=λi h st b j=>by
  have e:b=it:=by simpa using j
  subst e;let(o,e,c,d):=st;show#[o,e,λv z=>by rw[d]at z;cases z]
 keep:=λi h h' st k=>st.at λo e=>k it (by simp) o e
 item:=by intro X hP hw hK hc i ae s U H E I hf st hg;subst hP hw hK;let(xs,x,hq,hx):=hg;let(du,rv,p,hz):=I.list hq;let(u,hu,ru):=rv.get hx;let(f0,f1,f2,f3,f4,f5):=hf it (by simp);show wpAny_pyNext_list_item st p.isList (by simpa using hu) λh' D sb=>?_;let(o,e,c,d):=id D;show#[u,O,RB e c d () #[x,H,(I.turned (t':=s.toks) (λb o j e=>(sb.2 b j).trans e) f0 f1 f3 f4 f5),ru,#[O,λys hy=>by rw[I.list_inj hy hq];show hx],D,λb j=>(hf b j).1]]
 done:=by intro X hP hw hK hc i ae s U H E I hf st hg;subst hP hw hK;let(xs,hq,hx):=hg;let(du,rv,p,hz):=I.list hq;let(f0,f1,f2,f3,f4,f5):=hf it (by simp);let hl:=-rv;show wpAny_pyNext_list_end (I.ok.hd hc) st p.isList (by simp;lia) λh' eb=>#[O,I.turned (λb o j e=>eb b o j e) f0 f1 f3 f4 f5]
 self:=λ_ _ _ _ _ st h=>wpAny_pyIter_listiter st h
def RC{K:FG}(a q:Addr):hU P w K tg (YL K a) [q] q (λi h=>h.IsTupleIter q a i) where
 mem:=by simp
 obj:=λi h st b j=>by
  have e:b=q:=by simpa using j
  let(o,e,c,d):=st;grind
 keep:=λi h h' st k=>st.at λo e=>k q (by simp) o e
 item:=by intro X hP hw hK hc i mo s U H E I F st hg;subst hP hw hK;let(xs,x,N,hx):=hg;let(du,rv,p,hz):=I.tuple N;let(u,hu,ru):=rv.get hx;let(Q,f1,f2,f3,z,W):=F q (by simp);show wpAny_pyNext_tuple_item st (p) (by simpa using hu) λh' D sb=>?_;let I1:=I.turned (t':=s.toks) (λb o j e=>(sb.2 b j).trans e) Q f1 f3 z W;let(o,e,c,d):=id D;show#[u,O,RB e c d () #[x,H,I1,ru,#[O,λys hy=>by rw[I.tuple_inj hy N];show hx],D,λb j=>(F b j).1]]
 done:=by intro X hP hw hK hc i mo s U H E I F st hg;subst hP hw hK;let(xs,N,hx):=hg;let(du,rv,p,hz):=I.tuple N;let(Q,f1,f2,f3,z,W):=F q (by simp);let hl:=-rv;show wpAny_pyNext_tuple_end (I.ok.hd hc) st (p) ∅ λh' eb=>#[O,I.turned (λb o j e=>eb b o j e) Q f1 f3 z W]
 self:=λ_ _ _ _ _ st h=>wpAny_pyIter_tupleiter st h
def RD{K:FG}(j:Addr)(lo:Int)(n:Nat):hU P w K tg (YM lo n) [j] j (λi h=>IsRangeIter h j (lo+(i:Nat)*1) ((n:Int)-(i:Nat)) 1) where
 mem:=by simp
 obj:=λi h st b q=>by
  have e:b=j:=by simpa using q
  grind
 keep:=λi h h' st k=>k j (by simp) _ st
 item:=by intro X hP hw hK hc i mo s U H E I F st hg;subst hP hw hK;let(N,f1,f2,f3,z,Q):=F j (by simp);let W:=Walks.range (prog:=X.prog) (w:=X.w) (I.ok.hd hc) j lo 1 n;show W.item i s _ _ hg st λv h' tk hv D kk=>?_;let(t,rfl):=hv;show#[_,O,RB (n:="range_iterator") D O O () #[.int (lo+i),H,(I.turned (λb o q e=>kk b o ∅ e) N f1 f3 z Q),#[t,?_],#[O,O],D,λb q=>(F b q).1]];rw[Int.mul_one]
 done:=by intro X hP hw hK hc i mo s U H E I F st hg;let(N,f1,f2,f3,z,Q):=F j (by simp);show wpAny_pyNext_range_end (I.ok.hd hc) st (by have:n<=i:=hg;lia) λh' eb=>#[O,I.turned (λb o q e=>eb b o q e) N f1 f3 z Q]
 self:=λ_ _ _ _ _ st h=>wpAny_pyIter_rangeiter st h
section
variable {X:Cx}{tg:Expr}
def Wl{U:St}{lo hi:Int}(I:ai X eK U H s)(h1:(Neg.neg (2 ^ 62))<=lo)(h2:lo<2 ^ 62)(h3:(Neg.neg (2 ^ 62))<=hi)(h4:hi<2 ^ 62)
 (q:ZN (YM lo (hi-lo).toNat) H):wpAny (model X.prog X.w) X.A (pyIter (YV s.heap.objs.size)) (vm X eK U tg ZN) E { s with heap:=s.heap.push { cls:=.type "range",data:=.fields (List.toArray [.int lo t,.int hi u,.int 1 v]) },toks:=W }:=by
 show wpAny_pyIter_range (IsRange.new ..) (small_one h1 h2 h3 h4) ?_;have D:ai X eK U H { s with heap:=s.heap.push { cls:=.type "range",data:=.fields (List.toArray [.int lo t,.int hi u,.int 1 v]) },toks:=W }:=I.kept λb o e=>d5 _ e;show#[(s.heap.push { cls:=.type "range",data:=.fields (List.toArray [.int lo t,.int hi u,.int 1 v]) }).objs.size,[(s.heap.push { cls:=.type "range",data:=.fields (List.toArray [.int lo t,.int hi u,.int 1 v]) }).objs.size],_,_,H,O,
  D.kept λb o e=>d5 _ e,RD _ lo (hi-lo).toNat,?_,λb Q=>?_,q]
 . have F:lo+((0:Nat):Int)*1=lo:=by simp
   have N:(((hi-lo).toNat:Nat):Int)-((0:Nat):Int)=Builtin.Range.rangeSize lo hi 1:=by rw[rangeSize_one];split<;>lia
   rw[F,N];show ff _ O
 . have e:b=(s.heap.push { cls:=.type "range",data:=.fields (List.toArray [.int lo t,.int hi u,.int 1 v]) }).objs.size:=by simpa using Q
   subst e;show D.fpOk (cK _) (D.hok.fresh (cK _))
def MS(ta:TA):TI:=λU H ZI=>ta U H λvs H1=>∃j:Int,vs=[.int j]/\(Neg.neg (2 ^ 62))<=j/\j<2 ^ 62/\ZI (YM 0 j.toNat) H1
def MU(hg:Gl X "range")(hm:X.mg "range"=J)(ha:PA X [a] ta)(hs:starEach [a] X.env=[(M,eval a X.env)]:=by rfl):PI X tg (.Call (.Name "range" p) [a] [] pos) (MS ta):=by
 intro ae s U H ZI I h;show Call_ (zE I hg hm boot_range (PyProof.Rows.callWith_type1 (dg (ha pos ae s U H _ I h) λus s1 ⟨vs,H1,I1,r1,D⟩=>?_) hs O));let(j,e,D,F,q):=D;subst e;cases r1 with
 |cons r rr=>
  cases rr;let(t,rfl):=r;show call_range_1 (Wl I1 () () D F ())
def MV(wi:TI)(g:TG)(tb:TS):TS:=λD U H=>wi U H λZU H1=>∃W:Nat->Nat->St->Hp->Prop,(∃m,W 0 m U H1)/\∀i m U H,W i m U H->
 (ZU.stop i H/\D.nx U H)\/(ZU.go i H/\∃N:St->Hp->Prop,(∀U' H',N U' H'->∃m',m'<m/\W (i+1) m' U' H')/\∀x H',ZU.yld i H x H'->g x U H' λU2 H2=>tb { D with nx:=N,ct:=N,bk:=D.nx } U2 H2)
def zF(fp:List Addr)(h:Heap):List (Addr×Obj):=fp.filterMap λb=>(h.get? b).map λo=>(b,o)
def xU(j:b∈fp)(e:h.get? b=!o):(b,o)∈zF fp h:=j6.mpr #[b,j,by rw[e];rfl]
def TY(j:p∈zF fp h):p.1∈fp/\h.get? p.1=!p.2:=by
 let(b,z,e):=j6.mp j;cases q:h.get? b with
 |none=>grind
 |some o=>
  grind
def ai.pinned{U:St}(I:ai X ae U H s)(i:∀b∈fp,nJ X ae H b)(D:∀b∈fp,∃o,s.heap.get? b=!o/\∀v,o.data≠.cell v):ai X (ae++zF fp s.heap) U H s:=
 I.pins_of λp j=>(dy.mp j).elim (λz=>I.pin p (gy _ z)) λz=>by let(q,e):=TY z;let(F,N,Q,_):=i p.1 q;grind
def ai.unpinned{U:St}(I:ai X (eK++pl) U H s):ai X eK U H s:=I.pins_of λp j=>I.pin p ∅
def MW(hp:PassesOwn (model X.prog X.w) X.A X.env X.xe)(hc:X.calm=G)(hi:PI X tg iter wi)(hg:PG X tg g)(F:jP X body tb)
 (hs:∀x,foldedSetIterable iter X.env x=pure x:=by intro _;rfl):PS X (.For tg iter body [] pos) (MV wi g tb):=by
 intro ae s U H D I h;show wpAny_For (dg (hi ae s U H _ I h) λv s1 h1=>dg h1 λvn s2 h2=>?_) hs;let(it,fp,tn,ZU,H2,e,I2,T,ms,f2,W,(m0,w0),turn):=h2;subst e;have Q:∀{H':Hp},(∀b∈fp,H' b=J)->∀b∈fp,nJ X ae H' b:=λhn b F=>#[hn b F,(f2 b F).2];show codeAny_forLoop_any (λn s'=>∃i U' H',ai X ae U' H' s'/\tn i s'.heap/\(∀b∈fp,H' b=J)/\W i n U' H') ?_ m0 #[0,U,H2,I2,ms,λb F=>(f2 b F).1,w0];intro n s3 q0;let(i,Vw,H3,I3,i_,CL,w3):=q0;obtain⟨stop,qn⟩|⟨go,N,hN,step⟩:=turn i n Vw H3 w3
 . show wpAny_passesOwn hp (dg (T.done X O O O hc i ae s3 Vw H3 X.xe I3 (Q CL) i_ stop) λr s4 z7=>?_);let(hr,I4):=z7;subst hr;show wpAny_execs_nil #[Vw,H3,I4,qn]
 . show wpAny_passesOwn hp (dg (T.item X O O O hc i ae s3 Vw H3 X.xe I3 (Q CL) i_ go) λr s4 z8=>?_);let(u,hr,h4):=z8;subst hr;show wpAny_passesOwn hp (dg h4 λ_ s5 z9=>?_);let(x,H5,I5,r5,y5,nE,xS):=z9;let MX:=I5.pinned (Q xS) (T.obj _ _ nE);show wpAny_passesOwn hp (dg (hg _ s5 Vw H5 x u _ MX r5 (step x H5 y5)) λ_ s6 MY=>?_);let(Vz,H6,I6,q6):=MY;show wpAny_passesOwn hp (dg (F _ s6 Vz H6 _ I6 q6) λf s7 q7=>?_);have q:∀{z:St}{H7:Hp},ai X (ae++zF fp s5.heap) z H7 s7->N z H7->∃m,m<n/\∃i U' H',ai X ae U' H' s7/\tn i s7.heap/\(∀b∈fp,H' b=J)/\W i m U' H':=λ{z H7} j n7=>by let(m',hm,w7):=hN z H7 n7;show#[m',hm,i+1,z,H7,j.unpinned,T.keep _ _ _ nE λb F o e=>(j.pin (b,o) (gy _ (gy _ (xU F e)))).1,λb F=>?_,w7];let(o,e,d):=T.obj _ _ nE b F;show(j.pin (b,o) (gy _ (gy _ (xU F e)))).2.1
   cases f with
   |next=>let(z,H7,j,n7):=q7;show q j n7
   |cont=>let(z,H7,j,n7):=q7;show q j n7
   |brk=>let(z,H7,j,q7):=q7;show#[z,H7,j.unpinned,q7]
   |ret v=>let(x7,z,H7,j,r7,q7):=q7;show#[x7,z,H7,j.unpinned,r7,q7]
end
abbrev R2:=V->V->Hp->VK->Prop
def ju(X:Cx)(f:Value->Value->Sem Value)(r:R2):Prop:=
 ∀(ae:List (Addr×Obj))(s:Shared)(U:St)(H:Hp)(x y:V)(v u:Value)(Q:VK),ai X ae U H s->aI x v->aI y u->r x y H Q->
  wpAny (model X.prog X.w) X.A (f v u) (EP X ae U Q) X.xe s
def x0(X:Cx)(f:Value->Sem Value)(r:V->Hp->VK->Prop):Prop:=
 ∀(ae:List (Addr×Obj))(s:Shared)(U:St)(H:Hp)(x:V)(v:Value)(Q:VK),ai X ae U H s->aI x v->r x H Q->
  wpAny (model X.prog X.w) X.A (f v) (EP X ae U Q) X.xe s
def lO(X:Cx)(f:Value)(r:List V->Hp->VK->Prop):Prop:=
 ∀(ae:List (Addr×Obj))(s:Shared)(U:St)(H:Hp)(xs:List V)(us:List Value)(Q:VK),ai X ae U H s->ap xs us->r xs H Q->
  wpAny (model X.prog X.w) X.A (call f us) (EP X ae U Q) X.xe s
def MZ(X:Cx)(r:V->Hp->(Bool->Hp->Prop)->Prop):Prop:=
 ∀(ae:List (Addr×Obj))(s:Shared)(U:St)(H:Hp)(x:V)(v:Value)(Q:Bool->Hp->Prop),ai X ae U H s->aI x v->r x H Q->
  wpAny (model X.prog X.w) X.A (truthy v) (TP X ae U Q) X.xe s
def T3(r:R2)(ta tb:TE):TE:=λU H Q=>ta U H λx H1=>tb U H1 λy H2=>r x y H2 Q
def M0(r:V->Hp->VK->Prop)(ta:TE):TE:=λU H Q=>ta U H λx H1=>r x H1 Q
def rI(C:Int->Int->Prop)(g:Int->Int->V):R2:=λx y H Q=>∃i j,x=.int i/\y=.int j/\C i j/\Q (g i j) H
def zG(g:Int->Int->V):R2:=λx y H Q=>∃i j,x=.int i/\y=.int j/\Q (g i j) H
def rU(g:Int->V):V->Hp->VK->Prop:=λx H Q=>∃i,x=.int i/\Q (g i) H
section
variable {X:Cx}{a b c:Expr}{ta tb tc:TE}{pos:Pos}
def Wm(j:PE X a ta)(D:PE X b tb){U:St}{ZN:V->V->Hp->Prop}(I:ai X eK U H s)
 (h:ta U H λx H1=>tb U H1 λy H2=>ZN x y H2) {f:Value->Value->Sem Value}
 (N:∀v u i x y H2,ai X eK U H2 i->aI x v->aI y u->ZN x y H2->wpAny (model X.prog X.w) X.A (f v u) Q X.xe i):
 wpAny (model X.prog X.w) X.A (eval a X.env) (λv q=>wpAny (model X.prog X.w) X.A (eval b X.env) (λu F=>wpAny (model X.prog X.w) X.A (f v u) Q X.xe F) X.xe q) X.xe s:=by
 show dg (j eK s U H _ I h) λv z M1=>?_;let(x,H1,I1,r1,q1):=M1;show dg (D eK z U H1 _ I1 q1) λu i W=>?_;let(y,H2,I2,r2,q2):=W;grind
def M2(N:ju X (binaryOp op) r)(i:PE X a ta)(W:PE X b tb):PE X (.BinOp a op b pos) (T3 r ta tb):=by intro ae s U H Q I h;show wpAny_BinOp (Wm i W I h λv u D x y H2 j F z q=>N ae D U H2 x y v u Q j F z q)
def M_(q:x0 X (unaryOp op) r)(i:PE X a ta):PE X (.UnaryOp op a pos) (M0 r ta):=by intro ae s U H Q I h;show UnaryOp_ (dg (i ae s U H _ I h) λv j z=>by let(x,H1,D,F,N):=z;show q ae j U H1 x v Q D F N)
def o_{g:Int->Int->Int}
 (rule:∀(i j:Int)(t u:Tok)(s:Shared)(Q:Value->Shared->Prop)(E:Value->Shared->Prop),C i j->Q (.int (g i j) s.toks) { s with toks:=s.toks+1 }->wpAny (model X.prog X.w) X.A (f (.int i t) (.int j u)) Q E s):
 ju X f (rI C λi j=>.int (g i j)):=by
 intro ae s U H x y v u Q I rx ry h;let(i,j,rfl,rfl,hc,q):=h;let(t,rfl):=rx;let(t',rfl):=ry;show rule i j t t' s _ _ hc #[.int (g i j),H,I.tok _,#[_,O],q]
def x6{g:Int->Int->Int}
 (rule:∀(i j:Int)(t u:Tok)(s:Shared)(Q:Value->Shared->Prop)(E:Value->Shared->Prop),Q (.int (g i j) s.toks) { s with toks:=s.toks+1 }->wpAny (model X.prog X.w) X.A (f (.int i t) (.int j u)) Q E s):
 ju X f (zG λi j=>.int (g i j)):=by
 intro ae s U H x y v u Q I N W h;let(i,j,rfl,rfl,q):=h;let(t,rfl):=N;let(t',rfl):=W;show rule i j t t' s _ _ #[.int (g i j),H,I.tok _,#[_,O],q]
def CM{g:Int->Int->Bool}
 (rule:∀(i j:Int)(t u:Tok)(s:Shared)(Q:Value->Shared->Prop)(E:Value->Shared->Prop),Q (.bool (g i j)) s->wpAny (model X.prog X.w) X.A (f (.int i t) (.int j u)) Q E s):
 ju X f (zG λi j=>.bl (g i j)):=by
 intro ae s U H x y v u Q I z D h;let(i,j,rfl,rfl,q):=h;let(t,rfl):=z;let(F,rfl):=D;show rule i j t F s _ _ #[.bl (g i j),H,I,O,q]
def CO(i j:Int):Prop:=0<j/\j<1073741824
def vt(i j:Int):Prop:=0<=j/\j<=1000000/\i.natAbs<2 ^ 64
def RG(i j:Int):Prop:=((Neg.neg (2 ^ 64))<i/\i<2 ^ 64)\/((Neg.neg (2 ^ 64))<j/\j<2 ^ 64)
def RG.ok(h:RG i j):IntMulOk i j:=by
 obtain⟨h1,h2⟩|⟨h1,h2⟩:=h
 . show .of_left (intBits_le_64 h1 h2)
 . show .of_right (intBits_le_64 h1 h2)
def Na(k:Nat):(0:Int)<=2 ^ k:=by show Int.natCast_nonneg _
def Nb:ju X (binaryOp .Add) (zG λi j=>.int (i+j)):=x6 λ_ _ _ _ _ _ _ q=>add_int q
def T4:ju X (binaryOp .Sub) (zG λi j=>.int (i-j)):=x6 λ_ _ _ _ _ _ _ q=>sub_int q
def nP:ju X (binaryOp .Mult) (rI RG λi j=>.int (i*j)):=o_ λ_ _ _ _ _ _ _ hc q=>mul_int q hc.ok
def dM:ju X (binaryOp .FloorDiv) (rI CO λi j=>.int (i/j)):=o_ λi j _ _ _ _ _ hc q=>by let h1:=hc.1;let h2:=hc.2;show floordiv_int () (by rw[Int.fdiv_eq_ediv_of_nonneg i ()];show q) (.inl (PyProof.noPylong_small ()))
def cg:ju X (binaryOp .Mod) (rI (λ_ j=>0<j) λi j=>.int (i%j)):=o_ λi j _ _ _ _ _ hc q=>by let h1:=hc;show mod_int' () (by rw[Int.fmod_eq_emod_of_nonneg i ()];show q)
def Nc:ju X (binaryOp .Pow) (rI vt λi j=>.int (i ^ j.toNat)):=o_ λ_ _ _ _ _ _ _ hc q=>pow_int_small hc.1 hc.2.1 hc.2.2 q
def CS:ju X (binaryOp .LShift) (rI vt λi j=>.int (i*2 ^ j.toNat)):=o_ λ_ _ _ _ _ _ _ z q=>lshift_int_small z.1 z.2.1 z.2.2 q
def Ni:ju X (binaryOp .RShift) (rI (λ_ j=>0<=j) λi j=>.int (i/2 ^ j.toNat)):=o_ λi j _ _ _ _ _ z q=>
 rshift_int z (by rw[Int.fdiv_eq_ediv_of_nonneg i (Na _)];show q)
def Nj:ju X (binaryOp .BitAnd) (zG λi j=>.int (Builtin.bitAnd i j)):=x6 λ_ _ _ _ _ _ _ q=>and_int q
def Nl{g:Int->Int}
 (rule:∀(i:Int)(t:Tok)(s:Shared)(Q:Value->Shared->Prop)(E:Value->Shared->Prop),Q (.int (g i) s.toks) { s with toks:=s.toks+1 }->wpAny (model X.prog X.w) X.A (f (.int i t)) Q E s):
 x0 X f (rU λi=>.int (g i)):=by
 intro ae s U H x v Q I F h;let(i,rfl,q):=h;let(t,rfl):=F;show rule i t s _ _ #[.int (g i),H,I.tok _,#[_,O],q]
def Nm:x0 X (unaryOp .USub) (rU λi=>.int ((Neg.neg i))):=Nl λ_ _ _ _ _ q=>neg_int q
end
section
variable {X:Cx}{a b c:Expr}{ta tb tc:TE}{pos:Pos}
def T5{U:St}(I:ai X ae U H s)(q:Q (.bl k) H)(e:k=k'):EP X ae U Q (.bool k') s:=by subst e;show#[.bl k,H,I,O,q]
def YS:ju X (compareOp .Lt) (zG λi j=>.bl (decide (i<j))):=CM λ_ _ _ _ _ _ _ q=>lt_int q
def pL:ju X (compareOp .Gt) (zG λi j=>.bl (decide (j<i))):=CM λ_ _ _ _ _ _ _ q=>gt_int q
def T6:ju X (compareOp .In) (λx y H Q=>∃i j,x=.str i/\y=.str j/\Q (.bl (not (oy j i 0 (-j) 1).isEmpty)) H):=by intro ae s U H x y v u Q I z D h;let(i,j,rfl,rfl,q):=h;let(t,rfl):=z;let(F,rfl):=D;show in_str (T5 I q O)
def T7:ju X (compareOp .Is) (λx y H Q=>y=.non/\Q (.bl (decide (x=.non))) H):=by
 intro ae s U H x y v u Q I j z h;let(rfl,q):=h;cases z;show is_none_gen (T5 I q ?_);cases x<;>first
  |(cases j;rfl)
  |(let(t,rfl):=j;rfl)
def ju.or(h:ju X f r)(h':ju X f r'):ju X f (λx y H Q=>r x y H Q\/r' x y H Q):=by
 intro ae s U H x y v u Q I z j q;obtain q|q:=q
 . show h ae s U H x y v u Q I z j q
 . show h' ae s U H x y v u Q I z j q
def bA(b:Expr)(h:op≠.In:=by decide)(h2:op≠.NotIn:=by decide):behindInMarks op b=M:=by
 have q:(op==CmpOp.In)=M:=by cases op<;>first |rfl |show absurd O h
 have j:(op==CmpOp.NotIn)=M:=by cases op<;>first |rfl |show absurd O h2
 cases b<;>simp[behindInMarks,q,j]
def ZL(N:ju X (compareOp op) r)(i:PE X a ta)(W:PE X b tb)(hm:behindInMarks op b=M):PE X (.Compare a [op] [b] pos) (T3 r ta tb):=by intro ae s U H Q I h;show wpAny_Compare1 (Wm i W I h λv u D x y H2 j F z q=>N ae D U H2 x y v u Q j F z q) hm
def YT(t:TE):TT:=λU H Q=>t U H λx H'=>∃k,x=.bl k/\Q k H'
def ZM(q:ju X (compareOp op) r)(i:PE X a ta)(D:PE X b tb)(N:behindInMarks op b=M):PT X (.Compare a [op] [b] pos) (YT (T3 r ta tb)):=by
 intro ae s U H Q I h;show wpAny_isTrue_Compare1 (dg (i ae s U H _ I h) λv j ⟨x,H1,I1,r1,q1⟩=>dg (D ae j U H1 _ I1 q1) λu F ⟨y,H2,I2,r2,q2⟩=>
  dg (q ae F U H2 x y v u _ I2 r1 r2 q2) λc W ⟨z,H3,I3,r3,k,e,q3⟩=>?_) N
 subst e;cases r3;show wpAny_truthy_bool #[H3,I3,q3]
def Wn(K:FG)(x:V)(H:Hp)(k:Bool):Prop:=
 match x with
 |.non=>k=M
 |.bl b=>k=b
 |.int i=>k=(i != 0)
 |.str y=>-y<=sizeLine/\k=((-y:Int) != 0)
 |.byt y=> ~~~y<=sizeLine/\k=((~~~y:Int) != 0)
 |.ref p=>(∃xs,bY K H p xs/\k=not xs.isEmpty)\/(∃xs,cW K H p xs/\k=not xs.isEmpty)\/∃a_,H p=!(.dK a_)/\k=not a_.isEmpty
 |_=>False
def RJ(r:KV a_ vs):(not vs.isEmpty)=not a_.isEmpty:=by cases r<;>rfl
def Ep(r:ap xs du):(not du.toArray.isEmpty)=not xs.isEmpty:=by cases r<;>simp
def wy:(sizeLine:Nat)<2 ^ 63:=by  decide
def Nn:MZ X (λx H Q=>∃k,Wn X.K x H k/\Q k H):=by
 intro ae s U H x v Q I D h;let(k,e,q):=h;let hs:=iE;cases x with
 |non=>
  cases D;let j:=e;subst j;show truthy_none #[H,I,q]
 |bl b=>
  cases D;let j:=e;subst j;show wpAny_truthy_bool #[H,I,q]
 |int i=>
  let(t,rfl):=D;let j:=e;subst j;show PySem.P.truthy_int #[H,I,q]
 |str y=>
  let(t,rfl):=D;obtain⟨hy,j⟩:-y<=sizeLine/\k=((-y:Int) != 0):=e;subst j;show PySem.P.truthy_str () #[H,I.tok _,q]
 |byt y=>
  let(t,rfl):=D;obtain⟨hy,j⟩: ~~~y<=sizeLine/\k=((~~~y:Int) != 0):=e;subst j;show W.truthy_bytes () #[H,I.tok _,q]
 |ref p=>
  cases D;let j:=e;obtain⟨xs,N,j⟩|⟨xs,N,j⟩|⟨F,N,j⟩:=j
  . subst j;let(du,r,pl,hz):=I.list N;let z:=-r;show wpAny_truthy_list pl.isList ∅ #[H,I.tok _,by rw[Ep r];show q]
  . subst j;let(du,r,pl,hz):=I.tuple N;let z:=-r;show truthy_tuple pl ∅ #[H,I.tok _,by rw[Ep r];show q]
  . subst j;obtain⟨hz,hS,vs,r,m⟩:-F<=sizeLine/\(p==sysModules)=M/\∃vs,KV F vs/\s.heap.DictOf (fW X.prog X.w) p vs:=I.hok p _ N;let z:=Paired.length r;show wpAny_truthy_dict hS m () #[H,I.tok _,by rw[RJ r];show q]
 |_=>show(e).elim
def Wo(j:PE X a ta)(he:∀i,isTrue a X.env i=(do let v <-i;standAt a.pos;holding [v] (truthy v))):
 PT X a (λU H Q=>ta U H λx H'=>∃k,Wn X.K x H' k/\Q k H'):=by
 intro ae s U H Q I h;show isTrue_plain (dg (j ae s U H _ I h) λv q z=>by let(x,H1,D,F,N):=z;show Nn ae q U H1 x v Q D F N) (he _)
def RK:ju X (binaryOp .Add) (λx y H Q=>∃i j,x=.str i/\y=.str j/\-i+-j<=sizeLine/\Q (.str (i++j)) H):=by intro ae s U H x y v u Q I F z h;let(i,j,rfl,rfl,D,q):=h;let(t,rfl):=F;let(N,rfl):=z;show add_str (λN W=>#[.str (i++j),H,I.tok _,#[_,O],q]) D
def fg(r:ap [x] us):∃u,us=[u]/\aI x u:=by
 cases r with
 |cons q j=>cases j;grind
def Wq(K:FG)(x:V)(H:Hp)(n:Nat):Prop:=
 match x with
 |.str y=>-y<=sizeLine/\n=-y
 |.byt y=> ~~~y<=sizeLine/\n= ~~~y
 |.ref p=>(∃xs,bY K H p xs/\n=-xs)\/∃xs,cW K H p xs/\n=-xs
 |_=>False
def uJ:lO X (.builtin "len") (λxs H Q=>∃x n,xs=[x]/\Wq X.K x H n/\Q (.int n) H):=by
 intro ae s U H xs us Q I r h;let(x,n,rfl,e,q):=h;let(u,rfl,F):=fg r;let hs:=iE;cases x with
 |str y=>
  let(t,rfl):=F;obtain⟨hy,j⟩:-y<=sizeLine/\ n=-y:=e;subst j;show len_str () #[.int _,H,I.tok _,#[_,O],q]
 |byt y=>
  let(t,rfl):=F;obtain⟨hy,j⟩: ~~~y<=sizeLine/\ n= ~~~y:=e;subst j;show W.len_bytes () #[.int _,H,I.tok _,#[_,O],q]
 |ref p=>
  cases F;let j:=e;obtain⟨xs,z,j⟩|⟨xs,z,j⟩:=j
  . subst j;let(D,N,pl,hz):=I.list z;let i:=-N;show Calls.call_len_list pl.isList ∅ #[.int (-xs),H,I.tok _,#[_,by simp only[gx];rw[i]],q]
  . subst j;let(D,N,pl,hz):=I.tuple z;let i:=-N;show len_tuple pl ∅ #[.int (-xs),H,I.tok _,#[_,by simp only[gx];rw[i]],q]
 |_=>show(e).elim
end
structure Dj(h:Heap)(x dx C:Addr)(mA:Str->Option Value):Prop where
 obj:h.get? x=!(W.instObj C dx)
 ns:h.Ns1 dx mA
 ne:dx≠x
def T8{h:Heap}(n:h.Ns1 dx mA):∃j,h.get? dx=!j/\∀name,W.lookIn name j=!(mA name):=by
 let(o,es,ep,F,D,hk,_,N):=n;show#[o,F,λname=>?_];let e:=N name;unfold nsFind findBy at e;unfold W.lookIn;rw[D];dsimp only;split
 . grind
 . have a:es.toList.any (·.refKey)=M:=by rw[any_eq_false];intro y hy;let(z,t,i):=hk y ∅;simp[DictEntry.refKey,i]
   have Q:¬ es.toList.any (·.refKey)=G:=by rw[a];show oz
   grind
def Dj.look(I:Dj h x dx C mA):∃j,W.InstAt h x (W.instObj C dx) C (!j)/\∀name,W.lookIn name j=!(mA name):=
 let #[j,ho,hl]:=T8 I.ns
 #[j,#[I.obj,O,O,ho],hl]
section
variable {prog:Program}{w:World}{A:Around}{E:Value->Shared->Prop}{s:Shared}{K:FG}{x dx C f:Addr}{mA:Str->Option Value}{name:Str}{v:Value}
def ZP(X:K.In s.heap)(I:Dj s.heap x dx C mA)(z:W.plainGet K C name=G)(F:W.hasDictIn K C=G)
 (q:W.findIn K (YV C) name=!J) (N:mA name=!v) (i:W.handedIn v=G) (h:Q v { s with toks:=s.toks+1 }):
 wpAny (model prog w) A (getAttr (YV x) name expr) Q E s:=by
 let(od,D,hl):=I.look;show W.get_value X D (W.plainGet_of z).1 (W.findObj_own F q O ∅) i h
def Wr(X:K.In s.heap)(I:Dj s.heap x dx C mA)(i:W.plainGet K C name=G)
 (j:W.findIn K (YV C) name=!(!(YV f))) (N:W.isFn K (YV f)=G) (q:mA name=J) (h:Q (YV f,[YV x]) s):
 wpAny (model prog w) A (getMethod (YV x) name pl) Q E s:=by
 let(F,z,D):=I.look;show W.method_fn X z (W.plainGet_of i).1 (W.plainGet_of i).2 j (beq_iff_eq.mp N) (by show (W.lookIn name F).map (·.isSome)=!M;rw[D,q];rfl) h
def ZQ(X:K.In s.heap)(I:Dj s.heap x dx C mA)
 (hs:W.findIn K (YV C) "__setattr__"=!(!(.builtin "object.__setattr__"))) (hp:W.plainOver K C=G) (ht:W.takerIn K C name=!J) (hh:W.hasDictIn K C=G)
 (hw:PySem.Within mA ns) (gA:-ns<=sizeLine)
 (h:∀h',Dj h' x dx C (λy=>if y=name then !v else mA y)->Heap.SameBut dx s.heap h'->Q ⟨⟩ { s with heap:=h',toks:=s.toks+2 }):
 wpAny (model prog w) A (setAttr (YV x) name v) Q E s:=by
 let(od,ZU,hl):=I.look;show W.set_plain X ZU hs (W.osa_open X ZU hp ht λb=>?_);let(cd,hc,D):=W.any_some hh;let hx:=I.obj;show al (bv (al (al (wpAny_loadPart hx (al (W.Looks.here (W.looks_clsIn X hc) ?_))))));rw[D];show bv (al (bv (al ?_)));show wpAny_nsSet1 I.ns λh' j q=>?_;let(oD,esD,epD,F,z,hcD):=j.count (PySem.Within.cons name v hw);show al (wpAny_lookBehind F (by rw[z];show pastItsLine_dict ∅) ?_);show bv (h _ #[(q.2 _ (Ne.symm I.ne)).trans I.obj,j,I.ne] q)
def Ws(X:K.In s.heap)(z:W.makesIn K C=G)
 (hi:W.findIn K (YV C) "__init__"=!(!(YV f))) (D:W.typeIn K (YV f)=!(.type "function"))
 (h:codeAny (model prog w) (A.under (.builtin "type.__call__" #[YV C::vs,kw])) (.call (YV f) #[YV (~~~s.heap.objs+1)::vs,kw]) (W.InitBack (~~~s.heap.objs+1) ZN)
   { s with heap:=(s.heap.push W.emptyDict).push (W.instObj C s.heap.objs.size) }):
 codeAny (model prog w) A (.call (YV C) #[vs,kw]) ZN s:=by
 show W.make_core (W.makes_of X z) (W.looks_findIn X hi) (λj=>W.bind_fn X j D) (Zl O) h
end
noncomputable def jz (f:Str) (v:V):List (Str×V)->List (Str×V)
 |[]=>[(f,v)]
 |(g,x)::r=>if g=f then (g,v)::r else (g,x)::jz f v r
theorem CJ(f g:Str)(v:V):∀fs:List (Str×V),(jz f v fs).lookup g=if g=f then !v else fs.lookup g
 |[]=>by
  show lookup g [(f,v)]=_;by_cases h:g=f
  . grind
  . grind
 |(k,x)::r=>by
  let i:=CJ f g v r;rw[show jz f v ((k,x)::r)=(if k=f then (k,v)::r else (k,x)::jz f v r) from O];by_cases hk:k=f
  . by_cases h:g=k
    . grind
    . grind
  . by_cases h:g=k
    . grind
    . grind
theorem zH(f:Str)(v:V):∀fs:List (Str×V),f∈(jz f v fs).map (·.1)/\∀g,g∈fs.map (·.1)->g∈(jz f v fs).map (·.1)
 |[]=>#[by simp[jz],λg h=>by simp at h]
 |(k,x)::r=>by
  let(i1,i2):=zH f v r;rw[show jz f v ((k,x)::r)=(if k=f then (k,v)::r else (k,x)::jz f v r) from rfl];by_cases hk:k=f
  . grind
  . rw[bh hk];show#[?_,λg h=>?_]
    . show dP _ i1
    . obtain e|e:=bP.mp h
      . show bP.mpr (.inl e)
      . show dP _ (i2 g e)
theorem CK(f:Str)(v:V):∀fs:List (Str×V),-(jz f v fs)<=-fs+1
 |[]=>by simp[jz]
 |(k,x)::r=>by
  let j:=CK f v r;rw[show jz f v ((k,x)::r)=(if k=f then (k,v)::r else (k,x)::jz f v r) from O];by_cases hk:k=f
  . grind
  . grind
def nH.some_of(r:nH (!v) o):∃u,o=!u/\aI v u:=by
 cases o with
 |none=>show(r).elim
 |some u=>show#[u,O,r]
def nH.none_of(r:nH J o):o=J:=by
 cases o with
 |none=>rfl
 |some u=>show(r).elim
def T9(r:aI v u):W.handedIn u=G:=by
 cases v with
 |non=>cases (r);rfl
 |bl b=>cases (r);rfl
 |int i=>let(t,e):=(r);cases e;rfl
 |str x=>let(t,e):=(r);cases e;rfl
 |byt b=>let(t,e):=(r);cases e;rfl
 |flt b=>let(t,e):=(r);cases e;rfl
 |ref a=>cases (r);rfl
 |ty n=>cases (r);rfl
section
variable {P:Program}{w:World}{H H':Hp}{h h':Heap}{a C dx:Addr}{fs gN:List (Str×V)}
def GJ(j:jm P w H h)(e:H a=!(.ins C dx fs)):∃mA,Dj h a dx C mA/\(∀f,nH (fs.lookup f) (mA f))/\PySem.Within mA (fs.map (·.1))/\-fs<=1000/\H dx=!(.own a):=by let(d,z,ne,D,mA,n,r,q):=(j a _ e);show#[mA,#[D,n,ne],r,q,z,d]
end
structure zJ(K:FG)(C:Addr):Prop where
 pg:W.plainGet K C Str.empty=true
 hd:W.hasDictIn K C=true
 po:W.plainOver K C=true
 sa:W.findIn K (.ref C) "__setattr__"=!(!(.builtin "object.__setattr__"))
def zJ.get{K:FG}(c:zJ K C)(f:Str):W.plainGet K C f=G:=c.pg
def kW(K:FG)(C:Addr)(f:Str):Prop:=W.findIn K (YV C) f=!J
def kW.taker{K:FG}(n:kW K C f):W.takerIn K C f=!J:=by unfold W.takerIn;rw[show W.findIn K (YV C) f=some J from n];rfl
structure k6(K:FG)(C:Addr)(m:Str)(f:Addr):Prop where
 at_:W.findIn K (.ref C) m=!(!(.ref f))
 fn:W.isFn K (.ref f)=true
 kp:W.keepIn K (.ref f)=true
section
variable {X:Cx}{ae:List (Addr×Obj)}{U:St}{H:Hp}{s:Shared}{a C dx:Addr}{fs:List (Str×V)}{f:Str}{v:V}{A:Around}{E:Value->Shared->Prop}
def RM(I:ai X ae U H s)(e:H a=!(.ins C dx fs))(c:zJ X.K C)(n:kW X.K C f)(l:fs.lookup f=!v)
 (h:∀u s',ai X ae U H s'->aI v u->Q u s'):wpAny (model X.prog X.w) A (getAttr (YV a) f b) Q E s:=by
 let(mA,q,r,_):=GJ I.hok e;let(u,z,j):=nH.some_of (by rw[<-l];show r f);show ZP I.kIn q (c.get f) c.hd n z (T9 j) (h u _ (I.tok _) j)
def xV(I:ai X ae U H s)(e:H a=!(.ins C dx fs))(c:zJ X.K C)(k:k6 X.K C m g)(l:fs.lookup m=J)
 (h:Q (YV g,[YV a]) s):wpAny (model X.prog X.w) A (getMethod (YV a) m pl) Q E s:=by
 let(mA,j,r,_):=GJ I.hok e;let q:=nH.none_of (by rw[<-l];show r m);show Wr I.kIn j (c.get m) k.at_ k.fn q h
def RN(I:ai X ae U H s)(e:H a=!(.ins C dx fs))(c:zJ X.K C)(n:kW X.K C f)(hl:-fs<1000)(W:aI y u)
 (h:∀s',ai X ae U (bp H a (.ins C dx (jz f y fs))) s'->Q ⟨⟩ s'):wpAny (model X.prog X.w) A (setAttr (YV a) f u) Q E s:=by
 let(mA,i,r,D,_,F):=GJ I.hok e;have hz:-(fs.map (·.1))<=sizeLine:=by rw[ck,iE];lia
 show ZQ I.kIn i c.sa c.po n.taker c.hd D hz λh' j sb=>h _ ?_;have hd:∃o,h'.get? dx=!o:=let #[o,_,_,e',_]:=j.ns;#[o,e'];show I.write (by rw[e];show nh) (YY F) (λb q hb z=>(sb.2 b hb).trans z) hd ?_;show#[by rw[cV i.ne];show F,?_,i.ne,j.obj,_,j.ns,λg=>?_,λg N=>?_]
 . have:=CK f y fs;lia
 . rw[CJ];by_cases q:g=f
   . rw[aE q,aE q];show W
   . grind
 . by_cases q:g=f
   . rw[q];show(zH f y fs).1
   . show(zH f y fs).2 g (D g λz=>N ?_);grind
def ai.made(I:ai X ae U H s):ai X ae U (bp (bp H s.heap.objs.size (.own (~~~s.heap.objs+1))) (~~~s.heap.objs+1) (.ins C s.heap.objs.size []))
 { s with heap:=(s.heap.push W.emptyDict).push (W.instObj C s.heap.objs.size) }:=by
 have z:(s.heap.push W.emptyDict).get? s.heap.objs.size=!W.emptyDict:=ff s.heap O;have j:((s.heap.push W.emptyDict).push (W.instObj C s.heap.objs.size)).get? (~~~s.heap.objs+1)=!(W.instObj C s.heap.objs.size):=by
  have:=ff (s.heap.push W.emptyDict) (o:=W.instObj C s.heap.objs.size) O
  grind
 let F:=I.laid (o:=.own (~~~s.heap.objs+1)) (t':=s.toks) (λb u q=>d5 _ q) () #[_,z];show F.laid (λb u q=>d5 _ q) () ?_;have ne: ~~~s.heap.objs≠s.heap.objs.size+1:=eR ();show#[by rw[cV ne,bZ],gz _,ne,j,λ_=>J,(Heap.Ns1.of_empty #[W.emptyDict,#[],_,z,O,(λe N=>absurd N (by simp)),λ_=>O]).at λo q=>d5 _ q,λ_=>True.intro,λy D=>absurd O D]
def ZR(q:attributeBase e f env (eval e env)=eval e env)
 (h:wpAny (model prog w) A (eval e env) (λo j=>wpAny (model prog w) A (getAttr o f G) Q E j) E s):wpAny (model prog w) A (eval (.Attribute e f pos) env) Q E s:=
 Attribute_any_ h (by rw[arm_eval_Attribute,q])
end
def No(K:FG)(ta:TE)(f:Str):TE:=λU H Q=>ta U H λx H1=>∃a C dx fs v,x=.ref a/\H1 a=!(.ins C dx fs)/\zJ K C/\kW K C f/\fs.lookup f=!v/\Q v H1
def Nq(K:FG)(ta tv:TE)(f:Str):TS:=λD U H=>tv U H λy H1=>ta U H1 λx H2=>∃a C dx fs,x=.ref a/\H2 a=!(.ins C dx fs)/\zJ K C/\kW K C f/\-fs<1000/\
 D.nx U (bp H2 a (.ins C dx (jz f y fs)))
section
variable {X:Cx}{o e value:Expr}{f:Str}{pos pos' tpos:Pos}{ta tv:TE}
def Nr(he:PE X e ta)(j:attributeBase e f X.env (eval e X.env)=eval e X.env):PE X (.Attribute e f pos) (No X.K ta f):=by intro ae s U H Q I h;show ZR j (dg (he ae s U H _ I h) λu D W=>?_);let(x,H1,I1,rx,a,C,dx,fs,v,ex,ea,c,n,l,q):=W;subst ex;obtain rfl:u=Value.ref a:=rx;show RM I1 ea c n l λF N i z=>#[v,H1,i,z,q]
def Nw(i:PE X o ta)(F:PE X value tv)(hs:swapsWith value (!(.Attribute o f pos')) pos.line X.env=pure M):PS X (.Assign [.Attribute o f pos'] value pos) (Nq X.K ta tv f):=by intro ae s U H D I h;show plainObj_wpAny_Assign_Attribute (dg (F ae s U H _ I h) λu z x8=>?_) hs;let(y,H1,I1,ry,q):=x8;show dg (i ae z U H1 _ I1 q) λN W Nx=>?_;let(x,H2,I2,rx,a,C,dx,fs,ex,ea,c,n,l,q2):=Nx;subst ex;obtain rfl:N=Value.ref a:=rx;show RN I2 ea c n l ry λQ j=>#[U,_,j,q2]
end
structure gn(b:Bool)(k:Nat)(A:Around):Prop where
 hd:b=true->A.handled=none
 dp:A.depth+3*k+5<recursionLimit
 un:A.units+16*k+200<cLine
 gd:A.guards=![]
abbrev qM:=gn G
def gn.mono(r:gn b k A)(h:j<=k):gn b j A:=#[r.hd,by have:=r.dp;lia,by have:=r.un;lia,r.gd]
theorem gn.deeper(r:gn b (k+1) A)(env:Env):gn b k (A.deeper env):=
 #[r.hd,by have:=r.dp;show A.depth+1+3*k+5<_;lia,by have:=r.un;show A.units+3+16*k+200<_;lia,r.gd]
def RP:(A.under (.builtin "type.__call__" #[YV C::us,kw])).depth=A.depth+1:=by
 first |rfl |simp[Code.weight]
def RQ:(A.under (.builtin "type.__call__" #[YV C::us,kw])).units=A.units+1:=by
 first |rfl |simp[Code.cUnits]
def gn.make(r:gn b (k+1) A)(C:Addr)(q:List Value)(j:List (Str×Value)):gn b k (A.under (.builtin "type.__call__" #[YV C::q,j])):=
 #[r.hd,by have:=r.dp;rw[RP];lia,by have:=r.un;rw[RQ];lia,by first |show r.gd |(simpa [Around.under,Code.isGuard,guardIds] using r.gd)]
theorem gn.depth(r:gn b k A):A.depth<recursionLimit:=by have:=r.dp;lia
theorem gn.units(r:gn b k A):A.units+64<cLine:=by have:=r.un;lia
def KJ:TA:=λ_ H Q=>Q [] H
def J5(ta:TE)(tr:TA):TA:=λU H Q=>ta U H λx H1=>tr U H1 λxs H2=>Q (x::xs) H2
section
variable {X:Cx}{e:Expr}{es:List Expr}{te:TE}{t:TA}{pos:Pos}
def zK:PA X [] KJ:=λ_ _ _ _ H Q I h=>Calls.spliced_nil #[[],H,I,.nil,h]
def wz(i:PE X e te)(q:PA X es t)(hs:starEach (e::es) X.env=(M,eval e X.env)::starEach es X.env:=by rfl):PA X (e::es) (J5 te t):=by intro pos ae s U H Q I h;rw[hs];show Calls.spliced_cons (dg (i ae s U H _ I h) λu j N=>?_);let(x,H1,W,r1,q1):=N;show dg (q pos ae j U H1 _ W q1) λD z F=>by let(xs,H2,I2,r2,q2):=F;show #[x::xs,H2,I2,.cons r1 r2,q2]
def NA(t:TA):TE:=λU H Q=>t U H λxs H1=>-xs<=sizeLine/\∀p,H1 p=J->Q (.ref p) (bp H1 p (.tup xs))
def NC(t:TA):TE:=λU H Q=>t U H λxs H1=>-xs<=sizeLine/\∀p,H1 p=J->Q (.ref p) (bp H1 p (.lst xs))
def ND{x1}(h:PA X es t):PE X (.Tuple es x1 pos) (NA t):=by intro ae s U H Q I hq;show wpAny_Tuple_spliced (dg (h pos ae s U H _ I hq) λD j ⟨xs,H1,I1,r,z,q⟩=>#[by rw[<-(-r)];show z,?_]);show#[.ref j.heap.objs.size,bp H1 j.heap.objs.size (.tup xs),I1.laid (λb u e=>d5 _ e) () ?_,O,q _ (I1.hok.fresh (cK _))];show#[z,D,r,#[_,ff _ O,O,_,O]]
def NF(h:PA X es t):PE X (.List es pos) (NC t):=by intro ae s U H Q I hq;show wpAny_List_spliced (dg (h pos ae s U H _ I hq) λD j ⟨xs,H1,I1,r,z,q⟩=>#[by rw[<-(-r)];show z,?_]);show#[.ref j.heap.objs.size,bp H1 j.heap.objs.size (.lst xs),I1.laid (λb u e=>d5 _ e) () ?_,O,q _ (I1.hok.fresh (cK _))];show#[z,D,0,r,ff _ O]
end
abbrev Sp:=List V->Hp->VK->XK->Prop
abbrev yV:=List Env->Hp->Shared->XK->Value->Shared->Prop
structure Dk(P:Program)(w:World)(K:FG)(mg:Str->Option Value)(base:Heap)(A:Around)(outer:List Env)(s:Shared)(H:Hp):Prop where
 frames:A.frames=!outer
 mod:Mod K mg base
 bs:∀b o,base.get? b=!o->s.heap.get? b=!o/\H b=none
 bsz: ~~~base.objs<= ~~~s.heap.objs
 funs:s.heap.FunFrames base outer
 frf:∀b∈frs outer,H b=none
 hok:jm P w H s.heap
 bare:AllBare s.gens
def CE(outer:List Env)(P:Program)(w:World)(H:Hp)(s:Shared)(Q:VK)(u:Value)(s':Shared):Prop:=
 ∃v H',s'.os=s.os/\AllBare s'.gens/\Un (frs outer) [] H H' s.heap s'.heap/\jm P w H' s'.heap/\aI v u/\Q v H'
def CR(CX:yV)(outer:List Env)(P:Program)(w:World)(H:Hp)(s:Shared)(Q:VK)(E:XK)(r:Result)(s':Shared):Prop:=
 match r with
 |.ok (.ret u)=>CE outer P w H s Q u s'
 |.ok _=>False
 |.error e=>CX outer H s E e s'
structure t6(b:Bool)(P:Program)(w:World)(K:FG)(mg:Str->Option Value)(base:Heap)(CX:yV)(k:Nat)(f:Addr)(fd:FuncData)(ps:List Str)(sp:Sp):Prop where
 len:∀vs H Q E,sp vs H Q E->-vs=-ps
 run:∀(A:Around)(outer:List Env)(s:Shared)(H:Hp)(args:Args)(us:List Value)(vs:List V)(Q:VK)(E:XK),gn b k A->Dk P w K mg base A outer s H->BindsTo s fd args (ps.zip us)->ap vs us->sp vs H Q E->
  codeAny (model P w) A (.call (.ref f) args) (CR CX outer P w H s Q E) s
abbrev oK:=t6 G
def t6.imp{K:FG}(F:t6 b P w K mg base CX k f fd ps sp)
 (h:∀vs H Q E,NG vs H Q E->sp vs H Q E):t6 b P w K mg base CX k f fd ps NG:=
 #[λvs H Q E q=>F.len vs H Q E ∅,λA i s H z N vs Q E W j hb D hs=>F.run A i s H z N vs Q E W j hb D ∅]
def Dk.make{K:FG}(e:Dk P w K mg base A outer s H)(C:Addr)(q:List Value)(j:List (Str×Value)):
 Dk P w K mg base (A.under (.builtin "type.__call__" #[YV C::q,j])) outer s H:=#[by first |show e.frames |(simpa [Around.under,Code.envs,Code.isFrame,pushEnvs] using e.frames),e.mod,e.bs,e.bsz,e.funs,e.frf,e.hok,e.bare]
section
variable {X:Cx}{ae:List (Addr×Obj)}{U:St}{H:Hp}{s s':Shared}
def ai.env0(I:ai X ae U H s):Dk X.prog X.w X.K X.mg X.base X.A X.stack s H:=
 #[I.ok.frames,I.ok.mod,I.bs,fx I.ok.bsz I.sz,I.stack,I.stkFree,I.hok,I.bare]
def ai.after(I:ai X ae U H s)(h:CE X.stack X.prog X.w H s Q u s'):EP X ae U Q u s':=by let(v,H',N,j,un,D,r,q):=h;let(W,g,d,t,F):=s';obtain rfl:F=s.os:=N;show#[v,H',I.call un D j (λb z=>absurd z (by simp)),r,q]
end
def YW(sp:Sp)(g_:List V)(E:XK)(t:TA):TE:=λU H Q=>t U H λvs H1=>sp (vs++g_) H1 Q E
def RT(C:Addr)(m:Str)(sp:Sp)(g_:List V)(E:XK)(ta:TE)(t:TA):TE:=λU H Q=>ta U H λx H1=>∃a dx fs,x=.ref a/\H1 a=!(.ins C dx fs)/\fs.lookup m=J/\
 t U H1 λvs H2=>sp (x::(vs++g_)) H2 Q E
def YX(C:Addr)(sp:Sp)(g_:List V)(E:XK)(t:TA):TE:=λU H Q=>t U H λvs H1=>∀x dx,H1 x=J->H1 dx=J->dx≠x->
 sp (.ref x::(vs++g_)) (bp (bp H1 dx (.own x)) x (.ins C dx [])) (λv H2=>v=.non/\Q (.ref x) H2) E
def eH(K:FG)(fd:FuncData)(ps:List Str)(ds:List Value):Prop:=
 ∀(s:Shared)(us:List Value),K.In s.heap->-(us++ds)=-ps->BindsTo s fd #[us,[]] (ps.zip (us++ds))
def eH.all{K:FG}(h:∀j:List Value,-j=-ps->bindArgs fd #[j,[]]=pure (ps.zip j)):eH K fd ps []:=λs j _ q=>by rw[eJ]at q ⊢;show .of_eq (h j q)
def zM(CX:yV)(X:Cx)(E:XK):Prop:=∀(ae:List (Addr×Obj))(U:St)(H:Hp)(s:Shared)(e:Value)(s':Shared),ai X ae U H s->CX X.stack H s E e s'->X.xe e s'
section
variable {X:Cx}{CX:yV}{k:Nat}{f C:Addr}{fd:FuncData}{ps:List Str}{sp:Sp}{g_:List V}{ds:List Value}{E:XK}{x m:Str}{p pos apos:Pos}{e o:Expr}{es:List Expr}{ta:TE}{t:TA}
def KN{U:St}(F:t6 b X.prog X.w X.K X.mg X.base CX k f fd ps sp)(hr:gn b k X.A)(W:eH X.K fd ps ds)(z:ap g_ ds)(D:∀H s e s',ai X eK U H s->CX X.stack H s E e s'->X.xe e s')
 (I:ai X eK U H s) (r:ap vs us) (h:sp (vs++g_) H Q E):wpAny (model X.prog X.w) X.A (call (YV f) us) (EP X eK U Q) X.xe s:=by
 let j:=r.append z;have N:-(us++ds)=-ps:=by rw[<-(-j)];show F.len _ _ _ _ h
 show wpAny_call (codeAny_mono (F.run X.A X.stack s H #[us,[]] (us++ds) (vs++g_) Q E hr I.env0 (W s us I.kIn N) j h) λr s' i=>?_);cases r with
 |error e=>show D H s e s' I i
 |ok fl=>
  cases fl with
  |ret u=>show I.after i
  |next=>show False.elim i
  |brk=>show False.elim i
  |cont=>show False.elim i
def ZS(F:t6 b X.prog X.w X.K X.mg X.base CX k f fd ps sp)(hr:gn b k X.A)(D:Gl X x)(hm:X.mg x=!(YV f))(hk:W.keepIn X.K (YV f)=G)(hb:eH X.K fd ps ds)(N:ap g_ ds)(hx:zM CX X E)
 (z:PA X (e::es) t) (j:(x==("__debug__" : Str))=M:=by decide) (he:starEach (e::es) X.env=(M,eval e X.env)::starEach es X.env:=by rfl) (i:(backTo pos (starEach es X.env)).any (·.1)=M:=by rfl):
 PE X (.Call (.Name x p) (e::es) [] pos) (YW sp g_ E t):=by
 intro ae s U H Q I h;show wpAny_Call_Name_kw (Pz I D hm ?_ j);show W.callWith_K I.ok.mod.kin hk (dg (z pos ae s U H _ I h) λus s1 NH=>?_) he i;let(vs,H1,I1,r,q):=NH;show #[I1.kIn,?_];show KN F hr hb N (hx _ _) I1 r q
def ZV{pl:Sem Bool}(he:PE X o ta)(c:zJ X.K C)(z:k6 X.K C m f)(F:oK X.prog X.w X.K X.mg X.base CX k f fd ps sp)(hr:qM k X.A)(hb:eH X.K fd ps ds)(N:ap g_ ds)(hx:zM CX X E)(D:PA X (e::es) t)
 (i:starEach (e::es) X.env=(M,eval e X.env)::starEach es X.env:=by rfl) (j:(backTo pos (starEach es X.env)).any (·.1)=M:=by rfl)
 (ht:eval (.Call (.Attribute o m apos) (e::es) [] pos) X.env=(do
   let ov <-eval o X.env
   standAt apos.atName
   let (f,first) <-holding [ov] (getMethod ov m pl)
   callWith pos f first (backTo pos (starEach (e::es) X.env)) (backToKw pos (keywordEach [] X.env))):=by rfl):
 PE X (.Call (.Attribute o m apos) (e::es) [] pos) (RT C m sp g_ E ta t):=by
 intro ae s U H Q I h
 show Cr (dg (he ae s U H _ I h) λu s1 NI=>?_) ht;let(x,H1,I1,rx,a,dx,fs,ex,ea,l,q):=NI
 subst ex
 obtain rfl:u=Value.ref a:=rx
 show xV I1 ea c z l ?_
 show W.callWith_K I.ok.mod.kin z.kp (dg (D pos ae s1 U H1 _ I1 q) λus s2 NJ=>?_) i j;let(vs,H2,I2,r,q2):=NJ;show #[I2.kIn,?_]
 show KN (vs:=.ref a::vs) F hr hb N (hx _ _) I2 (.cons O r) q2
def Wu(he:PE X o ta)(c:zJ X.K C)(i:k6 X.K C m f)(F:oK X.prog X.w X.K X.mg X.base CX k f fd ps sp)(N:qM k X.A)(D:eH X.K fd ps ds)(j:ap g_ ds)(z:zM CX X E)
 (ht:eval (.Call (.Attribute o m apos) [] [] pos) X.env=(do
   let ov <-eval o X.env
   standAt apos.atName
   let (f,first) <-holding [ov] (getMethod ov m pl)
   callWith pos f first (backTo pos (starEach [] X.env)) (backToKw pos (keywordEach [] X.env))):=by rfl):
 PE X (.Call (.Attribute o m apos) [] [] pos) (RT C m sp g_ E ta KJ):=by
 intro ae s U H Q I h
 show Cr (dg (he ae s U H _ I h) λu s1 NK=>?_) ht;let(x,H1,I1,rx,a,dx,fs,ex,ea,l,q):=NK
 subst ex
 obtain rfl:u=Value.ref a:=rx
 show xV I1 ea c i l ?_
 show W.callWith_K0 I1.kIn i.kp (KN (vs:=[.ref a]) F N D j (z _ _) I1 (.cons O .nil) q)
structure Mk(K:FG)(C f:Addr):Prop where
 makes:W.makesIn K C=true
 init:W.findIn K (.ref C) "__init__"=!(!(.ref f))
 fn:W.isFn K (.ref f)=true
 kp:W.keepIn K (.ref C)=true
def Wv{U:St}(ZN:Mk X.K C f)(F:oK X.prog X.w X.K X.mg X.base CX k f fd ps sp)(hr:qM (k+1) X.A)(hb:eH X.K fd ps ds)(hd:ap g_ ds)
 (hx:∀H s e s',ai X ae U H s->CX X.stack H s E e s'->X.xe e s') (I:ai X ae U H s) (r:ap vs us)
 (h:∀x dx,H x=none->H dx=none->dx≠x->sp (.ref x::(vs++g_)) (bp (bp H dx (.own x)) x (.ins C dx [])) (λv H2=>v=.non/\Q (.ref x) H2) E):
 wpAny (model X.prog X.w) X.A (call (.ref C) us) (EP X ae U Q) X.xe s:=by
 let hq:=h (~~~s.heap.objs+1) s.heap.objs.size (I.hok.fresh ()) (I.hok.fresh ()) (eR ());let I2:=ai.made (C:=C) I;have r2:ap (V.ref (~~~s.heap.objs+1)::(vs++g_)) (Value.ref (~~~s.heap.objs+1)::(us++ds)):=.cons rfl (r.append hd);have hl:-(Value.ref ()::us++ds)=-ps:=by let e:=-r2;rw[F.len _ _ _ _ hq]at e;show e.symm
 show wpAny_call (Ws I.kIn ZN.makes ZN.init (beq_iff_eq.mp ZN.fn) (codeAny_mono (F.run _ X.stack _ _ #[Value.ref (~~~s.heap.objs+1)::us,[]] (Value.ref (~~~s.heap.objs+1)::(us++ds)) _ _ E (hr.make C us [])
  (I2.env0.make C us []) (hb _ (Value.ref (~~~s.heap.objs+1)::us) I2.kIn hl) r2 hq) λr s' nI=>?_))
 cases r with
 |error e=>show hx _ _ e s' I2 nI
 |ok fl=>
  cases fl with
  |ret u=>
   let(v,H',I3,rv,ev,q3):=I2.after nI;subst ev;show#[rv,#[V.ref (~~~s.heap.objs+1),H',I3,rfl,q3]]
  |next=>show False.elim nI
  |brk=>show False.elim nI
  |cont=>show False.elim nI
def ZW(z:Mk X.K C f)(F:oK X.prog X.w X.K X.mg X.base CX k f fd ps sp)(hr:qM (k+1) X.A)(N:Gl X x)(hm:X.mg x=!(YV C))(hb:eH X.K fd ps ds)(hd:ap g_ ds)(hx:zM CX X E)
 (D:PA X (e::es) t) (j:(x==("__debug__" : Str))=M:=by decide) (he:starEach (e::es) X.env=(M,eval e X.env)::starEach es X.env:=by rfl) (i:(backTo pos (starEach es X.env)).any (·.1)=M:=by rfl):
 PE X (.Call (.Name x p) (e::es) [] pos) (YX C sp g_ E t):=by
 intro ae s U H Q I h;show wpAny_Call_Name_kw (Pz I N hm ?_ j);show W.callWith_K I.ok.mod.kin z.kp (dg (D pos ae s U H _ I h) λus s1 NL=>?_) he i;let(vs,H1,I1,r,q):=NL;show #[I1.kIn,?_];show Wv z F hr hb hd (hx _ _) I1 r q
end
structure bz(N P:List Str)(sc:Scope):Prop where
 kind:sc.kind=.function
 co:sc.isCoroutine=false
 gen:sc.isGenerator=false
 nd:N.Nodup
 pre:N.take (-P)=P
 par:∀x∈P,sc.names.lookup x=!.local\/sc.names.lookup x=!.cell
 nofree:∀y∈sc.names,y.2≠.free
theorem HH:∀{binds:List (Str×Value)}{m:Str->Option Value},(∀v,(x,v)∉binds)->bindL i binds m x=m x
 |[],_=>λ_=>rfl
 |(n,v)::r,m=>λh=>by
  unfold bindL;rw[HH λw j=>h w (dP _ j)];split
  . have:x≠n:=by rintro rfl;show h v cf
    grind
  . rfl
theorem HJ:∀{binds:List (Str×Value)}{m:Str->Option Value},(∀v,(x,v)∉binds)->bindC i binds m x=m x
 |[],_=>λ_=>rfl
 |(n,v)::r,m=>λh=>by
  unfold bindC;rw[HJ λw j=>h w (dP _ j)];split
  . rfl
  . have:x≠n:=by rintro rfl;show h v cf
    grind
theorem HN:∀{P:List Str}{vs:List Value}{i:Nat}{m:Str->Option Value},P.Nodup->P[i]?=!x->vs[i]?=!v->j x=!.local->
 bindL j (P.zip vs) m x=!v
 |[],_,_,_=>λ_ h _ _=>by grind
 |_::_,[],_,_=>λ_ _ h _=>by grind
 |p::P,w::vs,0,m=>λq h1 h2 hk=>by simp at h1 h2;subst h1;subst h2;show bindL j ((p,w)::P.zip vs) m p=_;unfold bindL;rw[HH λv z=>(h_.mp q).1 (l_ z).1,aE hk];simp
 |p::P,w::vs,i+1,m=>λq h1 h2 hk=>by unfold bindL;show HN (h_.mp q).2 () () hk
theorem HR:∀{P:List Str}{vs:List Value}{i:Nat}{m:Str->Option Value},P.Nodup->P[i]?=!x->vs[i]?=!v->j x≠!.local->
 bindC j (P.zip vs) m x=!v
 |[],_,_,_=>λ_ h _ _=>by grind
 |_::_,[],_,_=>λ_ _ h _=>by grind
 |p::P,w::vs,0,m=>λq h1 h2 hk=>by simp at h1 h2;subst h1;subst h2;show bindC j ((p,w)::P.zip vs) m p=_;unfold bindC;rw[HJ λv z=>(h_.mp q).1 (l_ z).1,bh hk];simp
 |p::P,w::vs,i+1,m=>λq h1 h2 hk=>by unfold bindC;show HR (h_.mp q).2 () () hk
def start(N:List Str)(vs:List V):St:=vs.map some++replicate (-N-(-vs)) J
noncomputable def vC (b:Bool) (CX:yV) (P:Program) (w:World) (K:FG) (mg:Str->Option Value) (base:Heap) (N:List Str) (qual:Str) (scope:Scope) (f:Addr) (cd:Value) (A:Around) (outer:List Env) (s:Shared) (H:Hp) (E:XK):Cx where
 prog:=P
 w:=w
 K:=K
 mg:=mg
 base:=base
 A:=A.deeper (envOfC qual scope s.heap.objs.size f cd)
 N:=N
 s₀:=s
 H0:=H
 env:=envOfC qual scope s.heap.objs.size f cd
 outer:=outer
 stack:=envOfC qual scope s.heap.objs.size f cd::outer
 ex:=[]
 calm:=b
 fn:=λ_=>G
 pn:=[]
 xe:=λe s'=>wpAny (model P w) (A.deeper (envOfC qual scope s.heap.objs.size f cd)) (leaving (envOfC qual scope s.heap.objs.size f cd) e) (λ_ s''=>CX outer H s E e s'') (λe' s''=>CX outer H s E e' s'') s'
abbrev Ww:=vC G
def KQ{sc:Scope}(h:sc.names.lookup x=!.cell):∃c,(cellsFrom n sc.names []).lookup x=!c:=by let q:=xL sc.names n [] (Zl h);show xJ.mp q
def Ua{K:FG}{E:XK}
 (S:bz N ps scope) (hd:cm=G->A.handled=J) (j:Dk P w K mg base A outer s H) (hl:-vs=-ps) (r:ap vs us)
 (x:InCallC s s.heap.objs.size (bindL (envOfC qual scope s.heap.objs.size f cd).kindOf (ps.zip us) λ_=>J) (cellsFrom (~~~s.heap.objs+1) scope.names []) (bindC (envOfC qual scope s.heap.objs.size f cd).kindOf (ps.zip us) λ_=>J) s1):
 ai (vC cm CX P w K mg base N qual scope f cd A outer s H E) [] (start N vs) H s1:=by
 have hpl:-ps<=-N:=by have:=gT length S.pre;rw[iS]at this;lia
 let(h1,tk,rfl,hk):=x.done;have D:∀b:Addr,b∉(vC cm CX P w K mg base N qual scope f cd A outer s H E).ex:=λb z=>absurd (show b∈([]:List Addr) from z) (by simp);show#[#[j.mod,S.kind,O,O,cK _,λy z c h1 h2=>?_,λy F=>?_,λy c _ h=>?_,hd,Around.frames_deeper j.frames,YY #[O,O],λb z=>absurd z (D b),j.bs,j.bsz,λb _ _=>D b,λb z=>absurd z (D b),j.funs,j.frf],
  rfl,j.bare,Un.kept hk,#[_,x.toInCall.ns,λi y v h1 h2 h3=>?_],λy c h=>#[_,x.cell y c h],j.hok.fresh (cK _),λy c h=>?_,λp W=>absurd (show p∈([]:List (Addr×Obj)) from W) (by simp),j.hok.kept hk,?_]
 . show name_of_addr x.apart (rz h1) (rz h2)
 . obtain F|F:=F
   . show KQ F
   . show absurd O (S.nofree _ (rz F))
 . show ny (x.above y c (rz h))
 . have hi:i< -vs:=by
    unfold start at h2;by_cases hi:i< -vs
    . show hi
    . grind
   have ha:vs[i]?=!v:=by
    unfold start at h2;rw[jk ∅,dS]at h2;cases e:vs[i]? with
    |none=>grind
    |some a=>grind
   let(u,hu,rv):=r.get ha;have W:ps[i]?=!y:=by rw[<-S.pre,getElem?_take_of_lt ()];show h1
   have Q:ps.Nodup:=by rw[<-S.pre];show S.nd.sublist ∅
   show#[u,rv,?_];obtain k|k:=S.par y (fL W)
   . show Zl #[k,HN Q W hu k]
   . let(c,e):=KQ k;show YY #[Zl k,c,e,?_];let q:=x.cell y c e;rw[HR Q W hu (by show scope.names.lookup y≠_;rw[k];decide)]at q;show q
 . show j.hok.fresh (ny (x.above y c (rz h)))
 . unfold start;show _=-N;grind
def NM{K:FG}{dV kV mw pm F ct oc:Value}
 (lk:K.lookup f=!#[oc,od,.func (W.fnOf name D params body j dV kV mw pm an F ct),pc]) (vw:W.codeIn K F D=G) (S:bz N ps j)
 (len:∀vs H Q E,sp vs H Q E->-vs=-ps)
 (hbody:∀(A:Around)(outer:List Env)(s:Shared)(H:Hp)(vs:List V)(Q:VK)(E:XK),gn b k (A.deeper (envOfC D j s.heap.objs.size f F))->sp vs H Q E->
   ∃t,jP (vC b CX P w K mg base N D j f F A outer s H E) body t/\t { nx:=λ_ H'=>Q .non H',rt:=Q } (start N vs) H):
 t6 b P w K mg base CX (k+1) f (W.fnOf name D params body j dV kV mw pm an F ct) ps sp:=by
 show#[len,λA outer s H args us vs Q E hr e0 hb r pf=>?_];let hl:=len _ _ _ _ pf;let KX:=e0.mod.kin.keeps λb o e=>(e0.bs b o e).1;let NN:=e0.mod.nolimit.keeps λb o e=>(e0.bs b o e).1;have hkind:∀y∈ps.zip us,j.names.lookup y.1=!.local\/(j.names.lookup y.1=!.cell/\((cellsFrom (~~~s.heap.objs+1) j.names []).lookup y.1).isSome=G):=λ⟨n,v⟩ hy=>by
  obtain q|q:=S.par n (l_ hy).1
  . show Zl q
  . show YY #[q,xL _ _ _ (Zl q)]
 show codeAny_call_function hr.depth (KX _ _ lk) O S.co S.gen O (W.codeRec_of KX vw) (hb _ _ _ _ ?_);show wpAny_newFunctionEnv_cells S.kind hkind λenv he s1 x=>?_;subst he;show#[NN.keeps x.toInCall.keep,codeAny_func ?_];let(t,ht,hq):=hbody A outer s H vs Q E (hr.deeper _) pf;show wpAny_mono (ht [] s1 (start N vs) H _ (Ua S hr.hd e0 hl r x) hq) (λfl s' hs=>?_) λe s' hs=>hs;have fin:∀{U':St}{H':Hp}{v:V}{u:Value},ai (vC b CX P w K mg base N D j f F A outer s H E) [] U' H' s'->aI v u->Q v H'->CE outer P w H s Q u s':=
  λ{U' H' v u} ZU rv q=>#[v,H',ZU.os,ZU.bare,ZU.base,ZU.hok,rv,q]
 cases fl with
 |ret u=>
  let(v,U',H',ZU,rv,q):=hs;show fin ZU rv q
 |next=>
  let(U',H',ZU,q):=hs;show fin (v:=V.non) ZU O q
 |brk=>
  let(_,_,_,q):=hs;show False.elim q
 |cont=>
  let(_,_,_,q):=hs;show False.elim q
section
variable {X:Cx}{x:Str}{p pos:Pos}{e:Expr}{es:List Expr}{t:TA}{id T:String}{r:List V->Hp->VK->Prop}
def zN(r:List V->Hp->VK->Prop)(t:TA):TE:=λU H Q=>t U H λvs H1=>r vs H1 Q
def iQ(hc:lO X (.builtin id) r)(z:Gl X x)(hm:X.mg x=J)(N:bootBuiltins x=!(.builtin id))(q:PA X (e::es) t)(D:x ≠ "__name__":=by decide)(j:(x==("__debug__" : Str))=M:=by decide)
 (he:starEach (e::es) X.env=(M,eval e X.env)::starEach es X.env:=by rfl) (i:(backTo pos (starEach es X.env)).any (·.1)=M:=by rfl):PE X (.Call (.Name x p) (e::es) [] pos) (zN r t):=by
 intro ae s U H Q I h;show wpAny_Call_Name_kw (zE I z hm N ?_ D j);show PyProof.Rows.callWith_builtin1 (dg (q pos ae s U H _ I h) λW F NO=>by let(vs,H1,I1,r1,q1):=NO;show hc ae F U H1 vs W Q I1 r1 q1) he i
def ja(F:lO X (.type T) r)(hg:Gl X x)(hm:X.mg x=J)(hv:bootBuiltins x=!(.type T))(ha:PA X (e::es) t)(hn:x ≠ "__name__":=by decide)(D:(x==("__debug__" : Str))=M:=by decide)
 (he:starEach (e::es) X.env=(M,eval e X.env)::starEach es X.env:=by rfl) (j:(backTo pos (starEach es X.env)).any (·.1)=M:=by rfl):PE X (.Call (.Name x p) (e::es) [] pos) (zN r t):=by
 intro ae s U H Q I h;show wpAny_Call_Name_kw (zE I hg hm hv ?_ hn D);show PyProof.Rows.callWith_type1 (dg (ha pos ae s U H _ I h) λus s1 ⟨vs,H1,I1,r1,q1⟩=>F ae s1 U H1 vs us Q I1 r1 q1) he j
end
end L2
namespace HT
open PySem PySem.Spec PyProof.Rows
section
variable {prog:Program}{w:World}{A:Around}{E:Value->Shared->Prop}{s:Shared}
def cat_tup(ht:IsTup s.heap t vs.toArray)(hb:IsTup s.heap b ws.toArray)(hv:vs≠[])
 (h1:ws=[]->Q (YV t) s) (h2:ws≠[]->Q (YV s.heap.objs.size) { s with heap:=s.heap.push { cls:=.type "tuple",data:=.seq (vs++ws).toArray } })
 (gA:-vs+-ws<=sizeLine):wpAny (model prog w) A (binaryOp .Add (YV t) (YV b)) Q E s:=by
 let((cls,dd,data,sl),N,hc,n,hd):=id ht;let((cls2,q,D,z),i,W,n2,x9):=id hb;subst hc hd W x9
 by_cases hw:ws=[]
 . show concat_meets #[_,N,O] #[_,i,O] noFill_tuple_add seq_tuple_add F.slot_tuple_add F.entry_tuple_add (F.args_tuple_add_2 _ _)
    (tuple_addW1 t b vs.toArray ws.toArray n n2 dd q sl z ∅ ∅) #[N,i,h1 hw]
 . show concat_meets #[_,N,O] #[_,i,O] noFill_tuple_add seq_tuple_add F.slot_tuple_add F.entry_tuple_add (F.args_tuple_add_2 _ _)
    (tuple_addW2 t b vs.toArray ws.toArray n n2 dd q sl z ∅ ∅ ()) #[N,i,?_]
   grind
noncomputable def sIx (n d:Nat):Option Int->Nat
 |none=>d
 |some v=>if v<0 then (v+(n:Int)).toNat else min v.toNat n
def sIx_nat(n d k:Nat):sIx n d (!(k:Int))=min k n:=by show (if (k:Int)<0 then ((k:Int)+(n:Int)).toNat else min (k:Int).toNat n)=min k n;rw[bh (),LU]
def sIx_le(n d:Nat)(j:d<=n)(o:Option Int):sIx n d o<=n:=by
 cases o with
 |none=>show j
 |some v=>
  show (if v<0 then (v+(n:Int)).toNat else min v.toNat n)<=n;by_cases i:v<0
  . rw[aE i];lia
  . rw[bh i];show Nat.min_le_right _ _
def PJ(v:Int)(n d:Nat):(if v<0 then max (v+(n:Int)) 0 else min v (n:Int))=((sIx n d (!v):Nat):Int):=by
 show (if v<0 then max (v+(n:Int)) 0 else min v (n:Int))=(((if v<0 then (v+(n:Int)).toNat else min v.toNat n):Nat):Int);by_cases j:v<0
 . grind
 . simp only[bh j];lia
def RV(lo hi:Option Int)(n:Nat):Builtin.Slice.sliceAdjust lo hi 1 (n:Int)=(((sIx n 0 lo:Nat):Int),((sIx n n hi:Nat):Int)):=by
 have h1:¬ ((1:Int)<0):=()
 show Prod.ext ?_ ?_
 . cases lo with
   |none=>rfl
   |some v=>show PJ v n 0
 . cases hi with
   |none=>rfl
   |some v=>show PJ v n n
def RW(i j:Nat):Builtin.Slice.slicePlaces (i:Int) (j:Int) 1=j-i:=by
 unfold Builtin.Slice.slicePlaces;have h1:(1:Int)>0:=()
 simp only[h1,if_true];split<;>lia
def Er(p:IsPart v o)(h:Q o s):wpAny (model prog w) A (Builtin.Slice.slicePartIndex v) Q E s:=by
 cases p with
 |none=>show slicePart_none h
 |int i t=>show slicePart_int h
def Dl{lo hi:Option Int}{Q:Int×Int×Nat->Shared->Prop}(hs:s.heap.IsSliceOf sl vl vu .none)(pl:IsPart vl lo)(F:IsPart vu hi)
 (h:Q (((sIx n 0 lo:Nat):Int),1,sIx n n hi-sIx n 0 lo) s):wpAny (model prog w) A (Builtin.Slice.sliceApplied (YV sl) (pure (n:Int))) Q E s:=by
 let(N,z,D,q):=id hs;show al (al (wpAny_field z q O (al (wpAny_field z q O (al (wpAny_field z q O (bv ?_)))))));show al (slicePart_none ?_);show al (Er pl (al (Er F (al (bv ?_)))));show wpAny _ _ (match Builtin.Slice.sliceAdjust lo hi 1 (n:Int) with |(lo,hi)=>pure (lo,(1:Int),Builtin.Slice.slicePlaces lo hi 1)) _ _ s;rw[RV lo hi n];show wpAny _ _ (pure (((sIx n 0 lo:Nat):Int),(1:Int),Builtin.Slice.slicePlaces ((sIx n 0 lo:Nat):Int) ((sIx n n hi:Nat):Int) 1)) _ _ s;rw[RW];show bv h
def Wx(xs:Array Value)(i k:Nat):((List.range k).filterMap λ(m:Nat)=>xs[((i:Int)+(m:Int)*1).toNat]?).toArray=((xs.toList.drop i).take k).toArray:=by
 have e:(λ(m:Nat)=>xs[((i:Int)+(m:Int)*1).toNat]?)=λm=>xs[i+m]?:=by
  funext m;have:((i:Int)+(m:Int)*1).toNat=i+m:=()
  rw[this]
 rw[e];have:=pick_run xs i k;rw[List.filterMap_map]at this;have j:((λx=>xs[x]?) ∘ λx=>i+x)=λm=>xs[i+m]?:=O;grind
def getItem_tuple_cut{lo hi:Option Int}(ht:IsTup s.heap t items)(hs:s.heap.IsSliceOf sl vl vu .none)(pl:IsPart vl lo)(pu:IsPart vu hi)
 (hw:¬ (sIx items.size 0 lo=0/\sIx items.size items.size hi= ~~~items))
 (h:Q (.ref s.heap.objs.size) { s with heap:=s.heap.push { cls:=.type "tuple",data:=.seq ((items.toList.drop (sIx items.size 0 lo)).take (sIx items.size items.size hi-sIx items.size 0 lo)).toArray } })
 (gA: ~~~items<=sizeLine):wpAny (model prog w) A (getItem (.ref t) (.ref sl)) Q E s:=by
 have htake:sizeOk (.seq ((items.toList.drop (sIx items.size 0 lo)).take (sIx items.size items.size hi-sIx items.size 0 lo)).toArray):=by show ((items.toList.drop (sIx items.size 0 lo)).take (sIx items.size items.size hi-sIx items.size 0 lo)).toArray.size<=sizeLine;rw[gx,iS,rj,g8];lia
 have hj:sIx items.size items.size hi<= ~~~items:=sIx_le _ _ (cK _) hi;let(os,rX,NR,CU):=id hs;unfold getItem
 try with_reducible show wpAny_holding ?_
 first |show al (bv ?_) |skip
 show al (wpAny_sequenceKey ht.typeIs () ?_);show al (wpAny_callSpecial?_slot ht.typeIs PyProof.Rows.slot_tuple_getitem
  (wpAny_call_entry PyProof.Rows.slot_tuple_getitem ht.typeIs entry_tuple_getitem ?_ (args_tuple_getitem _ _)))
 show wpAny _ _ (Builtin.Tuple.tupleItemsOf (.ref t) >>= _) _ _ s;show al (tupleItemsOf_ ht ?_);show al (wpAny_typeOf (#[os,rX,NR]) ?_);rw[aE ()];show al (Dl hs pl pu ?_);have NS:¬ ((((sIx items.size 0 lo:Nat):Int)==0&&(1:Int)==1&&(sIx items.size items.size hi-sIx items.size 0 lo)== ~~~items)=true):=by intro q;rw[iP,iP]at q;let q1:=eq_of_beq q.1.1;let q2:=eq_of_beq q.2;show hw #[(),()]
 show wpAny _ _ (if (((sIx items.size 0 lo:Nat):Int)==0&&(1:Int)==1&&(sIx items.size items.size hi-sIx items.size 0 lo)== ~~~items)=true then _ else _) _ _ s;rw[bh NS,Wx]
 first
  |show al (wpAny_newObj_type (bv #[_,rfl,bv h]) htake)
  |show al (wpAny_newObj_type (al (bv (bv #[_,rfl,bv h]))) htake)
  |show al (al (wpAny_newObj_type (bv (bv #[_,rfl,bv h])) htake))
  |show al (al (wpAny_newObj_type (bv #[_,rfl,bv h]) htake))
end
end HT
namespace L2
open PySem PySem.Spec PyProof.Rows
variable {ae:List (Addr×Obj)}{E:Value->Shared->Prop}{s:Shared}{A:Around}{w:World}{P:Program}
abbrev TO:=St->Hp->(Option Int->Hp->Prop)->Prop
def PO(X:Cx)(e:Option Expr)(t:TO):Prop:=
 ∀(ae:List (Addr×Obj))(s:Shared)(U:St)(H:Hp)(Q:Option Int->Hp->Prop),ai X ae U H s->t U H Q->
  wpAny (model X.prog X.w) X.A (evalPart e X.env) (λu s'=>∃o H',ai X ae U H' s'/\IsPart u o/\Q o H') X.xe s
def ZX:TO:=λ_ H Q=>Q J H
def NU(t:TE):TO:=λU H Q=>t U H λx H1=>∃i,x=.int i/\Q (!i) H1
section
variable {X:Cx}{e:Expr}{te:TE}{lo hi:Option Expr}{tl th:TO}{pos p2:Pos}
def ZZ:PO X J ZX:=by intro ae s U H Q I h;show bv #[J,H,I,.none,h]
def Z3(h:PE X e te):PO X (!e) (NU te):=by intro ae s U H Q I j;show dg (h ae s U H _ I j) λu z D=>?_;let(x,H1,F,N,W):=D;let(i,rfl,q):=W;let(t,rfl):=N;show#[!i,H1,F,.int i t,q]
def HS(X:Cx)(r:V->Option Int->Option Int->Hp->VK->Prop):Prop:=
 ∀(ae:List (Addr×Obj))(s:Shared)(U:St)(H:Hp)(x:V)(v vl vu:Value)(lo hi:Option Int)(sl:Addr)(Q:VK),ai X ae U H s->aI x v->s.heap.IsSliceOf sl vl vu .none->IsPart vl lo->IsPart vu hi->r x lo hi H Q->
  ∃T id,typeLookup (.type T) "__getitem__"=pure (!(.builtin id))/\s.TypeIs v T/\wpAny (model X.prog X.w) X.A (getItem v (YV sl)) (EP X ae U Q) X.xe s
def HS.or(h:HS X r)(h':HS X r'):HS X (λx lo hi H Q=>r x lo hi H Q\/r' x lo hi H Q):=by
 intro ae s U H x v j z lo hi sl Q I F hs pl D q;obtain q|q:=q
 . show h ae s U H x v j z lo hi sl Q I F hs pl D q
 . show h' ae s U H x v j z lo hi sl Q I F hs pl D q
def NV(r:V->Option Int->Option Int->Hp->VK->Prop)(te:TE)(tl th:TO):TE:=λU H Q=>te U H λx H1=>tl U H1 λl H2=>th U H2 λu H3=>r x l u H3 Q
def KR(hr:HS X r)(he:PE X e te)(hl:PO X lo tl)(hu:PO X hi th):PE X (.Subscript e (.Slice lo hi J p2) pos) (NV r te tl th):=by intro ae s U H Q I h;show Subscript_ (dg (he ae s U H _ I h) λv s1 ⟨x,H1,I1,r1,q1⟩=>?_);show wpAny_Slice (dg (hl ae s1 U H1 _ I1 q1) λvl s2 ⟨l,H2,I2,pl,q2⟩=>dg (hu ae s2 U H2 _ I2 q2) λvu j ⟨u,H3,I3,pu,q3⟩=>?_);show bv ?_;let(T,id,hT,ht,hg):=hr ae { j with heap:=j.heap.push { cls:=.type "slice",data:=.fields (List.toArray [vl,vu,.none]) } } U H3 x v vl vu l u j.heap.objs.size Q (I3.kept (t':=j.toks) λb ob q=>d5 _ q) r1 (Heap.IsSliceOf.new ..) pl pu q3;show tail_any ht hT hg ()
def uK(xs:List V)(lo hi:Option Int):List V:=(xs.drop (HT.sIx (-xs) 0 lo)).take (HT.sIx (-xs) (-xs) hi-HT.sIx (-xs) 0 lo)
def CP(xs:List V)(lo hi:Option Int):-(uK xs lo hi)<=-xs:=by unfold uK;rw[iS,rj];lia
def NW(K:FG):V->Option Int->Option Int->Hp->VK->Prop:=λx lo hi H Q=>∃a xs,x=.ref a/\cW K H a xs/\
 ¬ (HT.sIx (-xs) 0 lo=0/\HT.sIx (-xs) (-xs) hi=-xs)/\∀p,H p=J->Q (.ref p) (bp H p (.tup (uK xs lo hi)))
def NX:HS X (NW X.K):=by
 intro ae s U H x v vl vu lo hi sl Q I rx hs pl pu h;let(a,xs,rfl,hx,hw,q):=h;cases rx;let(D,r,ht,F):=I.tuple hx;have j: ~~~D.toArray=-xs:=by rw[gx];show r.length.symm
 show#["tuple",_,PyProof.Rows.slot_tuple_getitem.lookup,ht.typeIs,?_];show HT.getItem_tuple_cut ht hs pl pu (by rw[j];show hw) ?_ ∅;rw[j];show#[.ref s.heap.objs.size,_,I.laid (λb ob q=>d5 _ q) () ?_,O,q _ (I.hok.fresh ())];show#[fx (CP xs lo hi) F,_,(r.drop (HT.sIx (-xs) 0 lo)).take (HT.sIx (-xs) (-xs) hi-HT.sIx (-xs) 0 lo),IsTup.new _ _]
def YZ(K:FG):R2:=λx y H Q=>∃a b xs ys,x=.ref a/\y=.ref b/\cW K H a xs/\cW K H b ys/\xs≠[]/\-xs+-ys<=sizeLine/\
 (ys=[]->Q (.ref a) H)/\(ys≠[]->∀p,H p=J->Q (.ref p) (bp H p (.tup (xs++ys))))
def ap.nil_iff(r:ap xs us):us=[] ↔ xs=[]:=by
 cases r with
 |nil=>simp
 |cons _ _=>simp
def Z4:ju X (binaryOp .Add) (YZ X.K):=by intro ae s U H x y v u Q I rx ry h;let(a,b,xs,ys,rfl,rfl,ha,hb,hx,hz,q1,q2):=h;cases rx;cases ry;let(du,D,p1,_):=I.tuple ha;let(F,j,p2,_):=I.tuple hb;show HT.cat_tup p1 p2 (λz=>hx (D.nil_iff.mp z)) (λz=>#[.ref a,H,I,O,q1 (j.nil_iff.mp z)]) (λz=>?_) (by rw[<-(-D),<-(-j)];show hz);show#[.ref s.heap.objs.size,_,I.laid (λb ob q=>d5 _ q) () ?_,O,q2 (λw=>z (j.nil_iff.mpr w)) _ (I.hok.fresh ())];show#[by rw[eI];show hz,_,D.append j,IsTup.new _ _]
end
noncomputable def uL (n:Nat) (i:Int):Option Nat:=if 0<=i then (if i<n then !i.toNat else J) else if (Neg.neg (n:Int))<=i then !(i+n).toNat else J
def fO{α:Type}(xs:List α)(i:Int):Option α:=(uL (-xs) i).bind λj=>xs[j]?
def PK(h:uL n i=!j):seqIndex? i n=!j/\j<n/\(Neg.neg (n:Int))<=i/\i<n:=by
 unfold uL at h;by_cases q:0<=i
 . rw[aE q]at h;by_cases h1:i<n
   . rw[aE h1]at h;let e:=fw h;show#[by rw[seqIndex_of q h1,e],(),(),h1]
   . grind
 . rw[bh q]at h;by_cases h1:(Neg.neg (n:Int))<=i
   . rw[aE h1]at h;let e:=fw h;show#[by rw[seqIndex_neg () h1,e],(),h1,()]
   . grind
def GK(h:fO xs i=!v):∃j,seqIndex? i (-xs)=!j/\xs[j]?=!v/\j< -xs/\(Neg.neg (-xs:Int))<=i/\i< -xs:=by
 unfold fO at h;cases e:uL (-xs) i with
 |none=>grind
 |some j=>
  let(h1,h2,q,z):=PK e;grind
def PN{j:Nat}(h:xs[j]?=!v):fO xs (j:Int)=!v:=by
 let q:=(eM.mp h).1;have e:uL (-xs) (j:Int)=!j:=by unfold uL;rw[aE (),aE ()];simp
 unfold fO;rw[e];show h
def qN(xs:List α)(v:α):fO (xs++[v]) (-1)=!v:=by
 have i:-(xs++[v])=-xs+1:=by simp
 have e:uL (-(xs++[v])) (-1)=!(-xs):=by unfold uL;rw[i,bh (),aE ()];congr 1;lia
 unfold fO;grind
def Bh(b:Expr):Prop:=∀o i,subscripted b M o i=operate [o,i] (getItem o i)
def zP(X:Cx)(r:R2):Prop:=
 ∀(value slice:Expr)(ae:List (Addr×Obj))(s:Shared)(U:St)(H:Hp)(x y:V)(v u:Value)(Q:VK),ai X ae U H s->aI x v->aI y u->r x y H Q->
  subscripted slice M v u=operate [v,u] (getItem v u)->wpAny (model X.prog X.w) X.A (subscriptTail value slice v u) (EP X ae U Q) X.xe s
def PP(X:Cx)(id:String)(r:V->List V->Hp->VK->Prop):Prop:=
 ∀(ae:List (Addr×Obj))(s:Shared)(U:St)(H:Hp)(x:V)(xs:List V)(v:Value)(us:List Value)(Q:VK),ai X ae U H s->aI x v->ap xs us->r x xs H Q->
  wpAny (model X.prog X.w) X.A (call (.builtin id) (v::us)) (EP X ae U Q) X.xe s
section
variable {X:Cx}{a b:Expr}{ta tb:TE}{pos:Pos}
def zP.or(h:zP X r)(h':zP X r'):zP X (λx y H Q=>r x y H Q\/r' x y H Q):=by
 intro value j ae s U H x y v u Q I D z q hs;obtain q|q:=q
 . show h value j ae s U H x y v u Q I D z q hs
 . show h' value j ae s U H x y v u Q I D z q hs
def RX(W:zP X r)(i:PE X a ta)(N:PE X b tb)(hs:Bh b):PE X (.Subscript a b pos) (T3 r ta tb):=by intro ae s U H Q I h;show Subscript_ (Wm i N I h λv u D x y H2 j F z q=>W a b ae D U H2 x y v u Q j F z q (hs _ _))
def CY(K:FG):R2:=λx y H Q=>∃p xs i v,x=.ref p/\y=.int i/\bY K H p xs/\fO xs i=!v/\Q v H
def C0(K:FG):R2:=λx y H Q=>∃p xs i v,x=.ref p/\y=.int i/\cW K H p xs/\fO xs i=!v/\Q v H
def C1:R2:=λx y H Q=>∃z i c,x=.str z/\y=.int i/\-z<=sizeLine/\fO z.cps.toList i=!c/\Q (.str #[(List.toArray [c])]) H
def Z5:zP X (CY X.K):=by
 intro value N ae s U H x y v u Q I rx ry h hs;let(p,xs,i,z,rfl,rfl,hq,he,q):=h;cases rx;let(t,rfl):=ry;let(F,r,pl,hz):=I.list hq;let(j,h1,h2,h3,h4,h5):=GK he;let(w,ew,D):=r.get h2;let hl:=-r;let hn:=wy;have fin:EP X ae U Q w s:=#[z,H,I,D,q];by_cases W:0<=i
 . have hj:i.toNat=j:=by rw[seqIndex_of W h5]at h1;show fw h1
   show item_listR pl.isList W () ∅ fin hs
 . have hj:(i+(~~~F.toArray:Int)).toNat=j:=by rw[seqIndex_neg () h4]at h1;rw[gx,<-hl];show fw h1
   show subscriptTail_builtinR pl.isList.typeIs slot_list_getitem.lookup
    (wpAny_getItem_list_neg pl.isList () ∅ () ∅ #[O,fin]) hs
def NY:zP X (C0 X.K):=by
 intro value F ae s U H x y v u Q I rx W h hs;let(p,xs,i,z,rfl,rfl,hq,N,q):=h;cases rx;let(t,rfl):=W;let(du,r,pl,hz):=I.tuple hq;let(j,h1,h2,h3,h4,h5):=GK N;let(w,ew,D):=r.get h2;let hl:=-r;let hn:=wy;show subscriptTail_builtinR pl.typeIs slot_tuple_getitem.lookup
  (getItem_tuple pl () () (by rw[gx,<-hl];show h1) ∅ #[O,#[z,H,I,D,q]]) hs
def N0:zP X C1:=by
 intro value D ae s U H x y v u Q I N F h hs;let(z,i,c,rfl,rfl,hz,he,q):=h;let(t,rfl):=N;let(t',rfl):=F;let(j,h1,h2,h3,h4,h5):=GK he;have W:-z.cps.toList=-z:=by simp[Str.length]
 let hn:=wy;show tail_any (typeIs_str s z t) slot_str_getitem.lookup (getItem_str () ∅ #[.str #[(List.toArray [c])],H,I.tok _,#[_,O],q]) hs
def x_(K:FG):R2:=λx y H Q=>CY K x y H Q\/C0 K x y H Q\/C1 x y H Q
def Ub:zP X (x_ X.K):=Z5.or (NY.or N0)
def RZ(q:List Value)(n j:Nat)(u:Value):Obj.mapSeq (·.setIfInBounds j u) { cls:=.type "list",data:=.seq q.toArray n }={ cls:=.type "list",data:=.seq (q.set j u).toArray n }:=by simp[Obj.mapSeq]
theorem ai.lst{U:St}{H:Hp}{p:Addr}{xs:List V}(I:ai X ae U H s)(h:H p=!(.lst xs)):
 ∃(j:List Value)(n:Nat),ap xs j/\s.heap.get? p=some { cls:=.type "list",data:=.seq j.toArray n }/\-xs<=sizeLine:=by
 let(z,j,n,r,e):=I.hok p _ h;show#[j,n,r,e,z]
def ai.lstUpd{U:St}{j i:List Value}(I:ai X eK U H s)(h:H p=!(.lst xs))
 (Q:s.heap.get? p=some { cls:=.type "list",data:=.seq j.toArray n }) (z:f { cls:=.type "list",data:=.seq j.toArray n }={ cls:=.type "list",data:=.seq i.toArray n' }) (r:ap ys i) (N:-ys<=sizeLine) (t:Nat):
 ai X eK U (bp H p (.lst ys)) { s with heap:=s.heap.update p f,toks:=t }:=by
 have e:(s.heap.update p f).get? p=some { cls:=.type "list",data:=.seq i.toArray n' }:=by rw[kX f Q (by rw[z]<;>rfl),z]
 show I.write (by rw[h];trivial) (Zl O) (λb u W q=>(kU _ _ ∅).trans q) #[_,e] ?_;show#[N,i,n',r,e]
def Y0_:V->V->V->Hp->(Hp->Prop)->Prop:=λo i v H Q=>∃p xs k j,o=.ref p/\i=.int k/\H p=!(.lst xs)/\uL (-xs) k=!j/\Q (bp H p (.lst (xs.set j v)))
def set_list:Wj X Y0_:=by
 intro ae s U H o i v ov iv u Q I ro ri rv h;let(p,xs,k,j,rfl,rfl,N,hj,q):=h;cases ro;let(t,rfl):=ri;let(z,n,r,D,hz):=I.lst N;let(h1,h2,h3,h4):=PK hj;let hl:=-r;let hn:=wy;let I':=
  I.lstUpd N D (RZ z n j u) (r.set rv j) ∅ s.toks
 by_cases F:0<=k
 . have hk:k.toNat=j:=by rw[seqIndex_of F h4]at h1;show fw h1
   show W.ki_setAt D F () ∅ ∅
 . have hk:(k+(~~~z.toArray:Int)).toNat=j:=by rw[seqIndex_neg () h3]at h1;rw[gx,<-hl];show fw h1
   show W.ki_setBack D () ∅ () ∅
def KY(lo hi:Option Int)(n:Nat):(sliceBounds lo hi J n).1=((HT.sIx n 0 lo:Nat):Int)/\(sliceBounds lo hi J n).2.1=((HT.sIx n n hi:Nat):Int)/\(sliceBounds lo hi J n).2.2=1:=by
 show#[?_,?_,O]
 . cases lo with
   |none=>simp[sliceBounds,HT.sIx]
   |some i=>
    simp only[sliceBounds,HT.sIx,Option.getD_none,show (1:Int)>0 by decide,if_true];by_cases h:i<0
    . simp only[h,if_true]<;>lia
    . simp only[h,if_false]<;>lia
 . cases hi with
   |none=>simp[sliceBounds,HT.sIx]
   |some i=>
    simp only[sliceBounds,HT.sIx,Option.getD_none,show (1:Int)>0 by decide,if_true];by_cases h:i<0
    . simp only[h,if_true]<;>lia
    . simp only[h,if_false]<;>lia
def JH(j:List Value)(lo hi:Option Int):slicePick j.toArray lo hi J=((j.drop (HT.sIx (-j) 0 lo)).take (HT.sIx (-j) (-j) hi-HT.sIx (-j) 0 lo)).toArray:=by let(h1,h2,q):=KY lo hi j.toArray.size;unfold slicePick;rw[h1,h2,q];simp only[sliceRange_one,pick_run]<;>rfl
def N1(K:FG):V->Option Int->Option Int->Hp->VK->Prop:=λx lo hi H Q=>∃a xs,x=.ref a/\bY K H a xs/\∀p,H p=J->Q (.ref p) (bp H p (.lst (uK xs lo hi)))
def Z6:HS X (N1 X.K):=by intro ae s U H x v vl vu lo hi sl Q I F hs pl pu h;let(a,xs,rfl,hx,q):=h;cases F;let(du,r,D,hz):=I.list hx;let j:=-r;show#["list",_,slot_list_getitem.lookup,D.isList.typeIs,?_];show wpAny_getItem_list_slice D.isList hs pl pu .none () ?_ ∅;rw[JH,<-j];show#[.ref s.heap.objs.size,_,I.laid (λb ob q=>d5 _ q) () ?_,O,q _ (I.hok.fresh ())];show#[fx (CP xs lo hi) hz,_,0,(r.drop (HT.sIx (-xs) 0 lo)).take (HT.sIx (-xs) (-xs) hi-HT.sIx (-xs) 0 lo),ff _ O]
def lX:lO X (.type "list") (λxs H Q=>∃p ys,xs=[.ref p]/\(bY X.K H p ys\/cW X.K H p ys)/\∀l,H l=J->Q (.ref l) (bp H l (.lst ys))):=by
 intro ae s U H xs us Q I r h;let(p,ys,rfl,hq,q):=h;let(u,rfl,rx):=fg r;cases rx;have fin:∀(j:List Value),ap ys j->-ys<=sizeLine->∀(h':Heap)(F:Nat),(∀b o',s.heap.get? b=!o'->h'.get? b=!o')->
  h'.get? s.heap.objs.size=some { cls:=.type "list",dict:=J,data:=.seq j.toArray F,slots:=#[] }->EP X ae U Q (YV s.heap.objs.size) { s with heap:=h' }:=λj D hz h' F kp e=>
  #[.ref s.heap.objs.size,_,I.laid kp () (show fG X.prog X.w _ h' _ (.lst ys) from #[hz,j,F,D,e]),O,q _ (I.hok.fresh ())]
 obtain hq|hq:=hq
 . let(j,D,pl,hz):=I.list hq;let hlen:=-D;let(o,ho,hc,n,hd):=pl.isList;show call_list_seq p (Zl O) ho hc hd (λh' F kp e=>fin j D hz h' F kp e) (by simp only[gx]<;>lia)
 . let(j,D,pl,hz):=I.tuple hq;let hlen:=-D;let(o,ho,hc,n,hd):=pl;show call_list_seq p (YY O) ho hc hd (λh' F kp e=>fin j D hz h' F kp e) (by simp only[gx]<;>lia)
def N2:lO X (.type "tuple") (λxs H Q=>∃p ys,xs=[.ref p]/\((bY X.K H p ys/\∀l,H l=J->Q (.ref l) (bp H l (.tup ys)))\/(cW X.K H p ys/\Q (.ref p) H))):=by
 intro z s U H xs us Q I r h;let(p,ys,rfl,h):=h;let(u,rfl,rx):=fg r;cases rx;obtain⟨hq,q⟩|⟨hq,q⟩:=h
 . let(j,F,pl,hz):=I.list hq;let hlen:=-F;show call_tuple_list pl.isList (λh' kp=>?_) ∅;let I1:=I.kept (t':=s.toks) kp;let I2:=
    I1.laid (t':=s.toks) (λb o e=>d5 _ e) (cK _) (show fG X.prog X.w _ _ _ (.tup ys) from #[hz,j,F,IsTup.new _ _])
   show#[.ref h'.objs.size,_,I2,O,q _ (I1.hok.fresh ())]
 . let(j,F,pl,hz):=I.tuple hq;show call_tuple_same pl #[.ref p,H,I,O,q]
def ya(K:FG)(T:String)(x:V)(H:Hp):Prop:=match x with
 |.str _=>T="str"
 |.int _=>T="int"
 |.ref p=>(T="list"/\∃xs,bY K H p xs)\/(T="tuple"/\∃o,K.lookup p=!o/\o.cls=.type "tuple"/\o.dict=J)\/
  (T="dict"/\((∃a_,H p=!(.dK a_))\/∃a_,H p=!(.dT a_)))\/(T="set"/\∃S n,H p=!(.set S n))
 |_=>False
def Uc{U:St}(I:ai X ae U H s)(r:aI x v)(j:ya X.K T x H):
 s.TypeIs v T/\∀a,v=YV a->∃N,s.heap.get? a=!N/\N.dict=J:=by
 cases x with
 |str z=>
  let(t,rfl):=r;cases (j);show#[typeIs_str s z t,λ_ e=>nomatch e]
 |int i=>
  let(t,rfl):=r;cases (j);show#[typeIs_int s i t,λ_ e=>nomatch e]
 |ref p=>
  cases r;obtain⟨rfl,xs,W⟩|⟨rfl,o,hk,hc,F⟩|⟨rfl,hk⟩|⟨rfl,S,n,hk⟩:=j
  . let(Q,_,pl,_):=I.list W;show#[pl.isList.typeIs,λa e=>?_];let(o,n,e,c,F,_):=pl;grind
  . show#[#[o,I.kIn p o hk,hc],λa e=>?_];cases e;show#[o,I.kIn _ o hk,F]
  . have z:∃o,s.heap.get? p=!o/\o.ExactDict:=by
     obtain⟨D,hk⟩|⟨D,hk⟩:=hk
     . let(_,_,_,_,o,_,_,e,ex,_):=I.hok p _ hk;grind
     . let(_,_,_,_,o,_,_,e,ex,_):=I.hok p _ hk;grind
    let(o,e,ex):=z;show#[#[o,e,ex.1],λa q=>?_];cases q;show#[o,e,ex.2.1]
  . let(o,_,_,_,e,ex,_):=I.hok p _ hk;show#[#[o,e,ex.1],λa q=>?_];cases q;show#[o,e,ex.2.1]
 |_=>show False.elim j
def C2(K:FG)(T:String)(r:V->List V->Hp->VK->Prop)(to:TE):TE:=λU H Q=>to U H λx H1=>ya K T x H1/\r x [] H1 Q
def KZ(K:FG)(T:String)(r:V->List V->Hp->VK->Prop)(to:TE)(t:TA):TE:=λU H Q=>to U H λx H1=>ya K T x H1/\t U H1 λxs H2=>r x xs H2 Q
variable {o e:Expr}{es:List Expr}{to:TE}{t:TA}{name:Str}{apos cpos:Pos}{T id:String}{r:V->List V->Hp->VK->Prop}
def N3(W:PlainAttrs T)(q:Slot T name id)(z:typeOf (.builtin id)=pure (.type "method_descriptor"))(N:PP X id r)(F:PE X o to)
 (j:attributeBase o name X.env (eval o X.env)=eval o X.env:=by rfl) (i:(apos.endLine==cpos.line)=G:=by rfl):PE X (.Call (.Attribute o name apos) [] [] cpos) (C2 X.K T r to):=by
 intro ae s U H Q I h;show wpAny_Call_method0_late j i (dg (F ae s U H _ I h) λv D N4=>?_);let(x,H1,I1,r1,ty,q1):=N4;let(h1,h2):=Uc I1 r1 ty;show#[T,id,W,q,z,h1,h2,Calls.callWith_builtin O (PySem.evalArgs_none (N ae D U H1 x [] v [] Q I1 r1 .nil q1))]
def rR(pa:PlainAttrs T)(q:Slot T name id)(F:typeOf (.builtin id)=pure (.type "method_descriptor"))(hm:PP X id r)(ho:PE X o to)(W:PA X (e::es) t)
 (i:attributeBase o name X.env (eval o X.env)=eval o X.env:=by rfl)
 (z:((backTo cpos (starEach (e::es) X.env)).all (λx=>not x.1)&&(backToKw cpos (keywordEach [] X.env)).all (λx=>x.1.isSome)
   && decide (-(e::es)+-([]:List Keyword)+(if ([]:List Keyword).isEmpty then 0 else 1)<30))=G:=by rfl)
 (j:(apos.endLine==cpos.line)=G:=by rfl) (hs:starEach (e::es) X.env=(M,eval e X.env)::starEach es X.env:=by rfl) (D:(backTo cpos (starEach es X.env)).any (·.1)=M:=by rfl):
 PE X (.Call (.Attribute o name apos) (e::es) [] cpos) (KZ X.K T r to t):=by
 intro ae s U H Q I h;show wpAny_Call_method_late i z j O (dg (ho ae s U H _ I h) λv s1 N9=>?_);let(x,H1,I1,r1,ty,q1):=N9;let(h1,h2):=Uc I1 r1 ty;show#[T,id,pa,q,F,h1,h2,?_];let N:=W cpos ae s1 U H1 _ I1 q1;rw[hs]at N ⊢;show Calls.callWith_builtin () (Calls.evalArgs_plain ?_);show dg N λus s2 N_=>by let(vs,H2,I2,r2,q2):=N_;show hm ae s2 U H2 x vs v us Q I2 r1 r2 q2
end
def r6(X:Cx)(id:String)(r:V->List V->Hp->VK->Prop):Prop:=
 ∀(ae:List (Addr×Obj))(s:Shared)(U:St)(H:Hp)(x:V)(xs:List V)(v:Value)(us:List Value)(Q:VK),ai X ae U H s->aI x v->ap xs us->r x xs H Q->
  wpAny (model X.prog X.w) X.A (call (.builtin id) (v::us)) (EP X ae U Q) X.xe s
theorem ap.one:∀{x:V}{j:List Value},ap [x] j->∃u,j=[u]/\aI x u
 |_,_,.cons r .nil=>#[_,O,r]
theorem ap.two:∀{x y:V}{j:List Value},ap [x,y] j->∃u v,j=[u,v]/\aI x u/\aI y v
 |_,_,_,.cons r (.cons q .nil)=>#[_,_,O,r,q]
theorem ap.zero:∀{j:List Value},ap [] j->j=[]
 |_,.nil=>rfl
theorem ap.dropLast(h:ap xs us):ap xs.dropLast us.dropLast:=by
 induction h with
 |nil=>show .nil
 |cons r t j=>
  cases t with
  |nil=>grind
  |cons q z=>show .cons r j
theorem ap.eraseIdx:∀{xs:List V}{j:List Value}(i:Nat),ap xs j->ap (xs.eraseIdx i) (j.eraseIdx i)
 |_,_,_,.nil=>.nil
 |_,_,0,.cons _ t=>t
 |_,_,i+1,.cons r t=>.cons r (ap.eraseIdx i t)
theorem HW{α:Type}:∀(l:List α)(i:Nat),-(l.eraseIdx i)<=-l
 |[],_=>cK _
 |_::_,0=>ma _
 |_::r,i+1=>Nat.succ_le_succ (HW r i)
section
variable {X:Cx}{ae:List (Addr×Obj)}{U:St}{H:Hp}{s:Shared}{l b:Addr}{xs ys zs:List V}
def ai.lset{j i:List Value}(I:ai X eK U H s)(hH:H l=!(.lst xs))
 (e:s.heap.get? l=some { cls:=.type "list",data:=.seq j.toArray n }) (F:f j.toArray=i.toArray) (W:ap ys i) (N:-ys<=sizeLine):
 ai X eK U (bp H l (.lst ys)) { s with heap:=s.heap.update l (Obj.mapSeq f),toks:=t' }:=by
 let q:=PySem.IsL.update e f;rw[F]at q;show I.write (by rw[hH];show trivial) (Zl O) (λb' u hb Q=>(kU s.heap (Obj.mapSeq f) ∅).trans Q) #[_,q] ?_;show#[N,i,_,W,q]
def ai.lnew(I:ai X ae U H s)(F:ap ys i)(N:-ys<=sizeLine):
 ai X ae U (bp H s.heap.objs.size (.lst ys)) { s with heap:=s.heap.push { cls:=.type "list",data:=.seq i.toArray },toks:=t' }:=
 I.laid (λ_ _ q=>d5 _ q) () #[N,i,0,F,ff _ O]
theorem ai.fresh(I:ai X ae U H s):H s.heap.objs.size=J:=I.hok.fresh ()
def ai.lstM(I:ai X ae U H s)(q:H l=!(.lst xs)):-xs<=sizeLine/\∃(j:List Value)(n:Nat),ap xs j/\-xs=-j/\s.heap.get? l=some { cls:=.type "list",data:=.seq j.toArray n }:=by let(z,j,n,r,e):=I.hok l _ q;show#[z,j,n,r,-r,e]
def Wy(h:n<=sizeLine):Builtin.List.listTooLong n=M:=mf ()
end
section
variable {X:Cx}
def GP:V->List V->Hp->VK->Prop:=λx vs H Q=>∃l xs y,x=.ref l/\vs=[y]/\H l=!(.lst xs)/\-xs<sizeLine/\Q .non (bp H l (.lst (xs++[y])))
def oY:r6 X "list.append" GP:=by intro eK s U H x vs v us Q I D N h;let(l,xs,y,rfl,rfl,j,hz,q):=h;cases D;let(u,rfl,W):=N.one;let(z,i,n,r,hl,e):=I.lstM j;show call_meets F.slot_list_append #[_,e,O] F.entry_list_append (F.args_list_append_2 _ _) (PySem.list_append l i.toArray n u ∅) #[e,?_];show#[.non,_,I.lset j e (by simp) (r.append (.cons W .nil)) ?_,O,q];grind
def C3:V->List V->Hp->VK->Prop:=λx vs H Q=>∃l xs y,x=.ref l/\vs=[]/\H l=!(.lst xs)/\xs[-xs-1]?=!y/\Q y (bp H l (.lst xs.dropLast))
def Oc:r6 X "list.pop" C3:=by
 intro eK s U H x vs v us Q I rx rv h;let(l,xs,y,rfl,rfl,N,W,q):=h;cases rx;let j:=rv.zero;subst j;let(z,i,n,r,hl,e):=I.lstM N;let(u,hu,ru):=r.get W;have D:i.toArray[i.toArray.size-1]?=!u:=by show i.toArray[-i-1]?=!u;rw[<-fS,<-hl];show hu
 show call_meets F.slot_list_pop #[_,e,O] F.entry_list_pop (F.args_list_pop_1 _) (MeetsSeq.list_pop_last l i.toArray n u D ∅) #[e,?_];show#[y,_,I.lset N e ?_ r.dropLast ?_,ru,q]
 . grind
 . rw[length_dropLast];lia
def Ue:V->List V->Hp->VK->Prop:=λx vs H Q=>∃l xs i k y,x=.ref l/\vs=[.int i]/\H l=!(.lst xs)/\(Neg.neg (2 ^ 63))<=i/\i<2 ^ 63/\seqIndex? i (-xs)=!k/\xs[k]?=!y/\Q y (bp H l (.lst (xs.eraseIdx k)))
def Wz:r6 X "list.pop" Ue:=by
 intro eK s U H x vs v us Q I rx rv h;let(l,xs,i,k,y,rfl,rfl,N,h1,h2,hk,W,q):=h;cases rx;let(u,rfl,ru):=rv.one;let(t,rfl):=ru;let(z,D,n,r,hl,e):=I.lstM N;let(w,hw,j):=r.get W;show call_meets F.slot_list_pop #[_,e,O] F.entry_list_pop (F.args_list_pop_2 _ _)
  (MeetsSeq.list_pop_at l D.toArray n i t k w (fitsIndex_both h1 h2) ∅ ∅ ∅) #[e,?_]
 show#[y,_,I.lset N e ?_ (r.eraseIdx k) ?_,j,q]
 . grind
 . have:=HW xs k;lia
end
end L2
namespace C4
open PySem PySem.W PySem.Calls PyProof.Rows
def Es:∀(ns:List Int)(vs:List Value),WellAll P h vs (ns.map WData.int)->IntsAre vs ns:=by
 intro ns;induction ns with
 |nil=>
  intro vs w;cases w;show .nil
 |cons n ns j=>
  intro vs w;cases w with
  |cons a b=>
   cases a;show .cons _ _ (j _ b)
def Ug{l:OpenLaw}(hn:l.most=!n)
 (j:l.row.toRowW.claim.pre args=G) (N:WellAll P h vals args):
 ∃a vs ns,vals=[Value.ref a]/\args=[WData.list (ns.map WData.int)]/\h.get? a=some { cls:=.type "list",data:=.seq vs.toArray }/\IntsAre vs ns/\ -ns<=n:=by
 let Q:=(pre_splitW j).1;let(d,r,rfl,h1,h2):=hasAllW_cons Q;obtain rfl:=hasAllW_nil h2;let(xs,rfl,h3):=hasW_list h1;let(ns,rfl):=items_int h3;have z:-ns<=n:=by
  have F:(WTm.not (.lt (.lit (.int (n:Int))) (.len (.arg 0)))).holds [] { args:=[.list (ns.map .int)] }=G:=by let F:=(holds_andW ((pre_splitW j).2)).1;rw[hn]at F;show F
  let W:=condW_of F (w_not (w_lt w_lit (w_len_list (w_arg O))))
  first
   |(rw[k5 q']at W;show absurd W ())
   |(simp at W;lia)
 cases N with
 |cons q i=>
  cases i;cases q with
  |list ho D=>show#[_,_,ns,O,O,ho,Es ns _ D,z]
def Od(l:OpenLaw)(args:List WData):l.row.toRowW.claim.post args (.bool G) args=G:=
 postW_of
  (show WShape.has [] (.bool G) .bool=G by first |rfl |decide |simp[WShape.arms])
  (w_eq_bool (w_res O) w_lit) O
def attach_call{l:OpenLaw}
 (hn:l.most=!n) (r9:d.params.defaults=[])
 (call:∀(w:World)(s₀ D:Shared)(mg mb:Str->Option Value)(fa:Addr)(o:Obj)(pm cd F:Value)(a:Addr)(vs:List Value)(ns:List Int),
   Ground q j [] XP w s₀ mg mb D.heap->YP w D.heap->
   D.heap.get? fa=!o->o.data=.func (docDef d.name d.params d.body d.scope pm cd F)->D.heap.CodeRec cd d.name->mg d.name=!(YV fa)->
   D.heap.get? a=some { cls:=.type "list",data:=.seq vs.toArray }->IntsAre vs ns->-ns<=n->D.gens=#[]->
   codeAny (model l.prog w) callerA (.call (YV fa) #[[YV a],[]]) (λr s'=>r=.ok (.ret (.bool G))/\OldK D.heap s'.heap/\s'.os=D.os/\AllBare s'.gens) D):
 WalkO q j XP YP l.row.toRowW d [] (λf vs=>PySem.call f vs):=by
 intro w s₀ D mg mb ZT Y_ fa o pm cd F dV kV ho hd vw hD hmg hg args vals as hpre hlay hrd Oe hlo;obtain rfl:dV=.none:=Dflts.none hD r9;obtain rfl:kV=.none:=Dflts.noKw hD;let(a,vs,ns,rfl,rfl,hobj,hints,hlen):=Ug hn hpre Oe;show enter_call (codeAny_mono (call w s₀ D mg mb fa o pm cd F a vs ns ZT Y_ ho (fd_plain hd) vw hmg hobj hints hlen hg) λr s' hq=>?_);let(rfl,h2,h3,h4):=hq;show#[Zl #[.bool G,.bool G,[],O,λ_=>O,.bool G,Od l _,λ_=>#[List.Pairwise.nil,λ_ hm=>(nomatch hm)]],h2,h3,h4]
end C4
namespace L2
open PySem PySem.Spec PyProof.Rows
variable {ae:List (Addr×Obj)}{E:Value->Shared->Prop}{s:Shared}{A:Around}{w:World}{P:Program}
theorem HX:∀{vs:List Value}{ns:List Int},IntsAre vs ns->ap (ns.map V.int) vs
 |_,_,.nil=>.nil
 |_,_,.cons n t h=>.cons #[t,O] (HX h)
def nK(H:Hp):Prop:=∀b,H b=J\/∃o xs,H b=!(.frz o (.lst xs))
def WD{K:FG}
 (KX:K.In s₁.heap) (pj:s₁.heap.Ns mainGlobals mg) (hb:s₁.heap.Ns builtinsNs mb) (Of:∀x:Str,x ≠ "__name__"->mb x=bootBuiltins x) (hlim:s₁.heap.NoLimit) (hg:s₁.gens=#[])
 (ha:s₁.heap.get? a=some { cls:=.type "list",data:=.seq vs.toArray }) (hi:IntsAre vs ns) (hl:-ns<=sizeLine) (hr:qM k callerA)
 (F:∀base:Heap,K.In base->base.Ns mainGlobals mg->oK P w K mg base CX k fa fd [x] sp) (hbind:∀(s:Shared)(u:Value),BindsTo s fd #[[u],[]] [(x,u)])
 (pf:∀H:Hp,nK H->bY K H a (ns.map V.int)->sp [.ref a] H (λv _=>v=.bl true) λ_ _ _=>False)
 (Og:∀H e s',CX [] H s₁ (λ_ _ _=>False) e s'->False):
 codeAny (model P w) callerA (.call (.ref fa) #[[.ref a],[]]) (λr s'=>r=.ok (.ret (.bool true))/\OldK s₁.heap s'.heap/\s'.os=s₁.os/\AllBare s'.gens) s₁:=by
 let rv:=HX hi;let lenV:=-hi;have core:∀H:Hp,nK H->bY K H a (ns.map V.int)->jm P w H s₁.heap->(∀b,H b≠none->b=a)->(H a≠none->K.lookup a=none)->
  codeAny (model P w) callerA (.call (.ref fa) #[[.ref a],[]]) (λr s'=>r=.ok (.ret (.bool true))/\OldK s₁.heap s'.heap/\s'.os=s₁.os/\AllBare s'.gens) s₁:=by
  intro H hO hS hok hA hK;have base_of:∀{b:Addr}{o:Obj},s₁.heap.get? b=!o->H b=none->(xT s₁.heap H).get? b=!o:=λe n=>Wf e n;have Oh:∀{b:Addr}{o:Obj}{es:Array DictEntry}{ep:Nat},s₁.heap.get? b=!o->o.data=.dict es ep->H b=none:=λ{b o es ep} e d=>by
   cases q:H b with
   |none=>rfl
   |some u=>
    let e':=hA b (by rw[q];simp);subst e';rw[ha]at e;cases e;let d':=d;cases d'
  have vx:∀{b:Addr}{m:Str->Option Value},s₁.heap.Ns b m->(xT s₁.heap H).Ns b m:=λ{b m} ⟨o,es,ep,e,d,r⟩=>#[o,es,ep,base_of e (Oh e d),d,r];have C5:K.In (xT s₁.heap H):=λb o e=>base_of (KX b o e) (by
   cases q:H b with
   |none=>rfl
   |some u=>
    have e':b=a:=hA b (by rw[q];simp);subst e';rw[hK (by rw[q];simp)]at e;cases e)
  have hM:Mod K mg (xT s₁.heap H):=#[C5,vx pj,#[mb,vx hb,Of],let #[mc,h1,h2]:=hlim;#[mc,vx h1,h2]];have e0:Dk P w K mg (xT s₁.heap H) callerA [] s₁ H:=#[rfl,hM,λb o e=>ZC e,Nat.le_of_eq (Tu _ _),trivial,λb hb=>absurd (show b∈([]:List Addr) from hb) (by simp),hok,.of_eq hg];show codeAny_mono ((F _ C5 (vx pj)).run callerA [] s₁ H #[[.ref a],[]] [.ref a] [.ref a] _ _ hr e0 (hbind s₁ (.ref a)) (.cons rfl .nil) (pf H hO hS)) λr s' h=>?_;cases r with
  |error e=>show(Og H e s' h).elim
  |ok fl=>
   cases fl with
   |next=>show False.elim h
   |brk=>show False.elim h
   |cont=>show False.elim h
   |ret u=>
    let(v,H',os,bare,un,hok',r',q):=h;have q':v=.bl true:=q;subst q';obtain rfl:u=Value.bool true:=r';show#[rfl,OldK.of_keep λb o e=>?_,os,bare];cases q:H b with
    |none=>show un.keep b o e q (by intro z;show absurd (show b∈([]:List Addr) from z) (by simp)) (by simp)
    |some u=>
     obtain z|⟨ob,xs,z⟩:=hO b
     . rw[q]at z;cases z
     . let z2:=un.frzs b ob _ z;let(e1,_):=hok b _ z;let(e2,_):=hok' b _ z2;rw[e]at e1;cases e1;show e2
 cases hk:K.lookup a with
 |some o=>
  let e:=KX a o hk;rw[ha]at e;cases e;show core (λ_=>none) (λ_=>.inl rfl) (.inr #[_,vs.toArray,_,hk,rfl,rfl,rfl,by rw[gx,lenV];show hl,by simpa using rv]) (λb u z=>by have z':(none:Option HO)=!u:=z;cases z') (λb z=>absurd rfl z) λz=>absurd rfl z
 |none=>
  show core (λb=>if b=a then !(.frz { cls:=.type "list",data:=.seq vs.toArray } (.lst (ns.map V.int))) else none) (λb=>?_) (.inl (.inr #[{ cls:=.type "list",data:=.seq vs.toArray },aE rfl])) (λb u z=>?_) (λb z=>?_) λ_=>hk
  . by_cases hb:b=a
    . show .inr #[_,_,aE hb]
    . show .inl (bh hb)
  . by_cases hb:b=a
    . let z':=(aE hb).symm.trans z;cases z';subst hb;show#[ha,by rw[ck];show hl,vs,_,rv,ha]
    . let z':=(bh hb).symm.trans z;cases z'
  . by_cases hb:b=a
    . show hb
    . show absurd (bh hb) z
def walk_of{l:W.OpenLaw}{K:Params->FG}{CX:World->yV}{sp:World->Sp}
 (hn:l.most=!n) (vE:n<=sizeLine) (r9:d.params.defaults=[]) (hr:qM k callerA)
 (N:∀(w:World)(h:Heap),YP w h->(K w.params).In h)
 (F:∀(w:World)(mg:Str->Option Value)(fa:Addr)(h:Heap),(K w.params).In h->h.Ns mainGlobals mg->mg d.name=!(YV fa)->
   ∃fd:FuncData,(∀(s:Shared)(u:Value),BindsTo s fd #[[u],[]] [(x,u)])/\
    ∀base:Heap,(K w.params).In base->base.Ns mainGlobals mg->oK l.prog w (K w.params) mg base (CX w) k fa fd [x] (sp w))
 (pf:∀(w:World)(H:Hp)(a:Addr)(ns:List Int),-ns<=n->nK H->bY (K w.params) H a (ns.map V.int)->sp w [.ref a] H (λv _=>v=.bl G) λ_ _ _=>False)
 (D:∀(w:World)(H:Hp)(s:Shared)(e:Value)(s':Shared),CX w [] H s (λ_ _ _=>False) e s'->False):
 W.WalkO q loose XP YP l.row.toRowW d [] (λf vs=>PySem.call f vs):=by
 show C4.attach_call hn r9 λw s₀ s₁ mg mb fa o pm cd mw a vs ns ZT Y_ ho hd vw Q z i j hg=>?_;let KX:=N w _ Y_;let(fd,hb,hF):=F w mg fa _ KX ZT.T.g Q;show WD KX ZT.T.g ZT.T.b ZT.T.builtins ZT.T.nolimit hg z i () hr hF hb (λH hO hS=>pf w H a ns j hO hS) λH e s'=>D w H s₁ e s'
def dE(s:Stmt)(j:Nat):Stmt:=match s with
 |.ClassDef _ _ _ body _ _ _ _ _ _ _=>body.getD j (.Pass #[0,0,0,0])
 |_=>.Pass #[0,0,0,0]
def qO(s:Stmt):Arguments:=match s with
 |.FunctionDef _ a _ _ _ _ _ _ _ _=>a
 |_=>{ posonlyargs:=[],args:=[],vararg:=J,kwonlyargs:=[],kw_defaults:=[],kwarg:=J,defaults:=[] }
def jC(s:Stmt):List Stmt:=match s with
 |.FunctionDef _ _ b _ _ _ _ _ _ _=>b
 |_=>[]
def aG(s:Stmt):Scope:=match s with
 |.FunctionDef _ _ _ _ _ _ sc _ _ _=>sc
 |_=>{ kind:=.function,names:=[],isGenerator:=M,isCoroutine:=M }
abbrev qD:yV:=λ_ _ _ _ _ _=>False
abbrev E0:XK:=λ_ _ _=>False
def J6:zM qD X E0:=λ_ _ _ _ _ _ _ h=>h.elim
structure vD(K:FG)(x qual:Str)(st:Stmt)(f:Addr)(fd:FuncData):Prop where
 ex:∃(oc:Value)(od:Option Addr)(kV mw pm:Value)(an:Option Addr)(e6 ct:Value)(pc:Array (Option Value)),
  fd=W.fnOf x qual (qO st) (jC st) (aG st) .none kV mw pm an e6 ct/\K.lookup f=!#[oc,od,.func fd,pc]/\W.codeIn K e6 qual=true
 kp:W.keepIn K (.ref f)=true
section
variable {P:Program}{w:World}{K:FG}{mg:Str->Option Value}{base:Heap}
def vD.ok{st:Stmt}(F:vD K x qual st f fd)(S:bz N ps (aG st))(len:∀vs H Q E,sp vs H Q E->-vs=-ps)
 (z:∀(j:Value)(A:Around)(i:List Env)(s:Shared)(H:Hp)(vs:List V)(Q:VK)(E:XK),gn b k (A.deeper (envOfC qual (aG st) s.heap.objs.size f j))->sp vs H Q E->
   ∃t,jP (vC b qD P w K mg base N qual (aG st) f j A i s H E).nox (jC st) t/\t { nx:=λ_ H'=>Q .non H',rt:=Q } (start N vs) H):t6 b P w K mg base qD (k+1) f fd ps sp:=by
 let(oc,od,kV,mw,pm,an,j,ct,pc,rfl,lk,D):=F.ex;show NM lk D S len λA i s H vs Q E hr W=>?_;let(t,h,q):=z j A i s H vs Q E hr W;show#[t,h.nox,q]
def vD.binds{st:Stmt}(F:vD K x qual st f fd)
 (h:∀(kV i z:Value)(N:Option Addr)(j D:Value)(q:List Value),-q=-ps->bindArgs (W.fnOf x qual (qO st) (jC st) (aG st) .none kV i z N j D) #[q,[]]=pure (ps.zip q)):eH K fd ps []:=by
 let(oc,od,kV,i,z,N,j,D,pc,rfl,lk,Q):=F.ex;show .all ∅
def zQ{st:Stmt}{kV q D j z:Value}(l:K.lookup f=!#[oc,od,.func (W.fnOf x qual (qO st) (jC st) (aG st) .none kV q D an j z),pc])
 (c:W.codeIn K j qual=G) (k:W.keepIn K (YV f)=G):vD K x qual st f (W.fnOf x qual (qO st) (jC st) (aG st) .none kV q D an j z):=#[#[oc,od,kV,q,D,an,j,z,pc,O,l,c],k]
end
def Bj(j:gn b k A):A.units+1<cLine:=u_ () j.units
section
variable {X:Cx}
def pv(i:Nat){pos:Pos}(q:X.N[i]?=!x:=by rfl)(z:Tv X.env.scope x:=by first |show Or.inl O |show Or.inr (Or.inl O) |show Or.inr (Or.inr O))(D:(x==("__debug__" : Str))=M:=by decide)
 (j:(x==("__classdict__" : Str))=M:=by decide):PE X (.Name x pos) (uH i):=L6 q z D j
end
def eY_(H H':Hp):Prop:=∀b o,H b=!o->H' b=!o
def eY_.refl(H:Hp):eY_ H H:=λ_ _ h=>h
def eY_.trans(a:eY_ H H1)(b:eY_ H1 H2):eY_ H H2:=λc o h=>b c o (a c o h)
def eY_.free(e:eY_ H H')(h:H' l=Option.none):H l=Option.none:=by
 cases q:H l with
 |none=>rfl
 |some o=>
  rw[e l o q]at h;cases h
def eY_.seq{K:FG}(e:eY_ H H')(h:bY K H a xs):bY K H' a xs:=by
 obtain (h|⟨o,h⟩)|h:=h
 . show Zl (Zl (e _ _ h))
 . show Zl (YY #[o,e _ _ h])
 . show YY h
section
variable {κ:Type}[DecidableEq κ]
noncomputable def qP (a_:List (κ×V)) (k:κ):Option V:=(a_.find? λkv=>decide (kv.1=k)).map (·.2)
noncomputable def fm (a_:List (κ×V)) (k:κ) (v:V):List (κ×V):=
 if (a_.any λkv=>decide (kv.1=k))=G then a_.map (λkv=>if kv.1=k then (kv.1,v) else kv) else a_++[(k,v)]
def xW{k:κ}(e:p.1=k):qP (p::r) k=!p.2:=by simp[qP,e]
def xX{k:κ}(e:¬ p.1=k):qP (p::r) k=qP r k:=by simp[qP,e]
theorem xY(k:κ):∀i:List (κ×V),(i.any λj=>decide (j.1=k))=(qP i k).isSome
 |[]=>rfl
 |p::r=>by
  rw[xI];by_cases e:p.1=k
  . simp only[xW e,k5 e,Bool.true_or,Option.isSome_some]
  . rw[xX e,mf e,Bool.false_or];show xY k r
def CQ(i:List (κ×V))(k:κ)(v:V):-(fm i k v)<=-i+1:=by
 unfold fm;split
 . grind
 . grind
def WF{k:κ}(v:V)(h:qP a_ k=J):fm a_ k v=a_++[(k,v)]:=by unfold fm;rw[xY,h];grind
def nH.isSome_eq(r:nH o u):o.isSome=u.isSome:=by
 cases o with
 |none=>cases u with
  |none=>rfl
  |some _=>show(r).elim
 |some _=>cases u with
  |none=>show(r).elim
  |some _=>rfl
def KV.val(r:KV a_ vs)(k:κ):nH (qP a_ k) (valueAt vs k):=by
 induction r with
 |nil=>show nh
 | @cons p q ps D h t F=>
  let(h1,h2):=h;by_cases e:p.1=k
  . let j:=h1.symm.trans e;have b:valueAt (q::D) k=!q.2:=by simp[valueAt,j]
    rw[xW e,b];show h2
  . have j:¬ q.1=k:=λz=>e ∅;have b:valueAt (q::D) k=valueAt D k:=by simp[valueAt,j]
    rw[xX e,b];grind
theorem KV.any(r:KV a_ vs)(k:κ):(a_.any λj=>decide (j.1=k))=vs.any λj=>decide (j.1=k):=by
 induction r with
 |nil=>rfl
 |cons h t q=>grind
def KV.repl(r:KV a_ vs)(k:κ)(z:aI y u):
 KV (a_.map λi=>if i.1=k then (i.1,y) else i) (vs.map λi=>if i.1=k then (i.1,u) else i):=by
 induction r with
 |nil=>show .nil
 | @cons p q ps D h t j=>
  show .cons ?_ j;by_cases e:p.1=k
  . grind
  . grind
def KV.put(r:KV a_ vs)(k:κ)(j:aI y u):KV (fm a_ k y) (stored vs k u):=by
 unfold fm stored;rw[r.any k];by_cases e:(vs.any λq=>decide (q.1=k))=G
 . rw[aE e,aE e];show r.repl k j
 . rw[bh e,bh e];show Paired.snoc r #[O,j]
def KV.keys{vs:List (κ×Value)}(r:KV a_ vs):a_.map (·.1)=vs.map (·.1):=by
 induction r with
 |nil=>rfl
 |cons h t j=>grind
theorem KV.length{vs:List (κ×Value)}(r:KV a_ vs):-a_=-vs:=Paired.length r
end
def J7(r:aI (kV k) u):(fW P w).is k u=G:=by
 cases k with
 |inl i=>let(t,e):=(r);subst e;show Oo P w i t
 |inr x=>let(t,e):=(r);subst e;show Oq P w x t
theorem HY:∀{ks:List d_}{i:List Value},ap (ks.map kV) i->ItemsAre (fW P w) ks i
 |[],_=>λr=>by  cases r;show .nil
 |k::ks,_=>λr=>by
  cases r with
  |cons h t=>show .cons (J7 h) (HY t)
abbrev KT(H:Hp):List (List d_×V)->List (List d_×Addr×Value)->Prop:=Paired λp q=>p.1=q.1/\H q.2.1=!(.tup (p.1.map kV))/\aI p.2 q.2.2
def KT.val(r:KT H a_ xs)(k:List d_):nH (qP a_ k) ((atKey xs k).map (·.2)):=by
 induction r with
 |nil=>show nh
 | @cons p q ps D h t F=>
  let(h1,_,h2):=h;by_cases e:p.1=k
  . let j:=h1.symm.trans e;have b:atKey (q::D) k=!q.2:=by simp[atKey,j]
    rw[xW e,b];show h2
  . have j:¬ q.1=k:=λz=>e ∅;have b:atKey (q::D) k=atKey D k:=by simp[atKey,j]
    rw[xX e,b];grind
def KT.repl(r:KT H a_ xs)(k:List d_)(D:aI y u):
 KT H (a_.map λi=>if i.1=k then (i.1,y) else i) (xs.map (putAt k u)):=by
 induction r with
 |nil=>show .nil
 | @cons p q ps F h t j=>
  show .cons ?_ j;unfold putAt;by_cases e:p.1=k
  . grind
  . grind
def KT.put(r:KT H a_ xs)(k:List d_)(D:H b=!(.tup (k.map kV)))(j:aI y u):
 KT H (fm a_ k y) (storedH xs k b u):=by
 have e:(a_.any λz=>decide (z.1=k))=(atKey xs k).isSome:=by rw[xY,(r.val k).isSome_eq,Option.isSome_map]
 unfold fm storedH;rw[e];by_cases q:(atKey xs k).isSome=G
 . rw[aE q,aE q];show r.repl k j
 . rw[bh q,bh q];show Paired.snoc r #[O,D,j]
def KT.keeps(r:KT H a_ xs)(j:∀b ys,H b=!(.tup ys)->H' b=!(.tup ys)):KT H' a_ xs:=
 Paired.mapP r λ_ _ z=>#[z.1,j _ _ z.2.1,z.2.2]
section
variable {P:Program}{w:World}{H:Hp}{h:Heap}{a:Addr}
def Y5(ok:jm P w H h)(e:Rd H a u):fG P w H h a u:=e.ok ok
def R1(ok:jm P w H h)(e:Rd H a (.dK a_)):-a_<=sizeLine/\(a==sysModules)=M/\∃vs,KV a_ vs/\h.DictOf (fW P w) a vs:=
 show fG P w H h a (.dK a_) from Y5 ok e
def Ol(ok:jm P w H h)(e:H a=!(.dK a_)):-a_<=sizeLine/\(a==sysModules)=M/\∃vs,KV a_ vs/\h.DictOf (fW P w) a vs:=R1 ok (Zl e)
def K1(ok:jm P w H h)(e:H a=!(.tup (ks.map kV))):(tupleKind (fW P w)).is h ks a:=by let(_,j,r,o,h1,h2,n,q):=(ok a _ e);show#[o,j.toArray,n,h1,h2,q,by simpa using HY r]
def R3(ok:jm P w H h)(e:Rd H a (.dT a_)):-a_<=sizeLine/\(a==sysModules)=M/\
 ∃xs,KT H a_ xs/\h.DictOfH (tupleKind (fW P w)) a xs:=by
 let(z,y,xs,r,o,es,D,h1,h2,j,N,F):=(Y5 ok e);show#[z,y,xs,r,o,es,D,h1,h2,j,N,λx i=>?_,F];have all:∀{l:List (List d_×V)}{m:List (List d_×Addr×Value)},KT H l m->∀x∈m,(tupleKind (fW P w)).is h x.1 x.2.1:=by
  intro l m q;induction q with
  |nil=>grind
  | @cons p q ps W Q t ih=>
   intro x i;obtain e|i:=bP.mp i
   . show K1 ok ∅
   . grind
 grind
def On(ok:jm P w H h)(e:H a=!(.dT a_)):-a_<=sizeLine/\(a==sysModules)=M/\
 ∃xs,KT H a_ xs/\h.DictOfH (tupleKind (fW P w)) a xs:=R3 ok (Zl e)
end
def WK(H:Hp)(a:Addr)(y:V)(r:Option V):Prop:=
 (∃a_ k,Rd H a (.dK a_)/\y=kV k/\r=qP a_ k)\/∃a_ k b,Rd H a (.dT a_)/\y=.ref b/\H b=!(.tup (k.map kV))/\r=qP a_ k
def C6(H:Hp)(a:Addr)(y v:V)(H':Hp):Prop:=
 (∃a_ k,H a=!(.dK a_)/\y=kV k/\-a_<sizeLine/\H'=bp H a (.dK (fm a_ k v)))\/
 ∃a_ k b,H a=!(.dT a_)/\y=.ref b/\H b=!(.tup (k.map kV))/\-a_<sizeLine/\H'=bp H a (.dT (fm a_ k v))
section
variable {X:Cx}{ae:List (Addr×Obj)}{U:St}{H:Hp}{s:Shared}{a:Addr}{y v:V}{u r:Value}{o:Option V}{A:Around}{E:Value->Shared->Prop}
def ai.big(I:ai X ae U H s):sysModules< ~~~s.heap.objs:=by let h:=(I.mod.glob.keeps I.bk).lt;show Nat.lt_trans () h
def Op(hu:A.units+1<cLine)(I:ai X ae U H s)(g:WK H a y (!v))(ry:aI y u)(h:∀F s',ai X ae U H s'->aI v F->Q F s'):
 wpAny (model X.prog X.w) A (getItem (YV a) u) Q E s:=by
 obtain⟨a_,k,e,ey,l⟩|⟨a_,k,b,e,ey,eb,l⟩:=g
 . subst ey;let(z,hd,vs,D,dd):=R1 I.hok e;let(F,hw,j):=nH.some_of (by rw[l];show D.val k);show wpAny_getItem_of (J7 ry) dd.mapOf hw (h F _ (I.tok _) j)
 . subst ey;cases (ry);let(z,hd,xs,D,dd):=R3 I.hok e;let(F,hw,j):=nH.some_of (by rw[l];show D.val k);let(p,hp,Oy):=Option.map_eq_some_iff.mp hw;show wpAny_getItem_heap (tupleKind_room_in1 hu) (K1 I.hok eb) dd hp ?_;rw[Oy];show h F _ (I.tok _) j
def OA(hu:A.units+1<cLine)(I:ai X ae U H s)(g:WK H a y o)(ry:aI y u)(h:∀s',ai X ae U H s'->Q (.bool (not o.isSome)) s'):
 wpAny (model X.prog X.w) A (compareOp .NotIn u (YV a)) Q E s:=by
 obtain⟨a_,k,e,F,l⟩|⟨a_,k,b,e,F,eb,l⟩:=g
 . subst F;let(z,D,vs,j,dd):=R1 I.hok e;show wpAny_notIn_of (J7 ry) D dd.mapOf ?_;rw[<-(j.val k).isSome_eq,<-l];show h _ (I.tok _)
 . subst F;cases (ry);let(z,D,xs,j,dd):=R3 I.hok e;show wpAny_notIn_heap (tupleKind_room_in1 hu) (K1 I.hok eb) D dd ?_;let q:=(j.val k).isSome_eq;rw[Option.isSome_map]at q;rw[<-q,<-l];show h _ (I.tok _)
def GQ(I:ai X ae U H s)(mu:Tt (H a))(hs:Heap.SameBut a s.heap h')(he:∃q,h'.get? a=!q)(new:fG X.prog X.w (bp H a ob) h' a ob):
 ai X ae U (bp H a ob) { s with heap:=h',toks:=t' }:=
 I.write mu (Zl O) (λb q F z=>(hs.2 b F).trans z) he new
def OB(z:-a_<=sizeLine)(D:(a==sysModules)=M)(j:KV a_ vs)(q:h'.DictOf (fW P w) a vs):
 fG P w H' h' a (.dK a_):=#[z,D,vs,j,q]
def Uj(hu:A.units+1<cLine)(I:ai X eK U H s)(g:C6 H a y v H')(ry:aI y u)(rv:aI v r)(h:∀s',ai X eK U H' s'->Q ⟨⟩ s'):
 wpAny (model X.prog X.w) A (setItem (YV a) u r) Q E s:=by
 obtain⟨j,k,e,ey,l,W⟩|⟨j,k,b,e,ey,eb,l,W⟩:=g
 . subst ey W;let(z,hd,vs,i,N):=Ol I.hok e;have hz:-vs<=sizeLine:=by rw[<-(-i)];show z
   have hl:-(fm j k v)<=sizeLine:=by have:=CQ j k v;lia
   show wpAny_setItem_pairs (J7 ry) N λh' D hs=>h _ ?_;have he:∃q,h'.get? a=!q:=let #[q,_,_,F,_]:=D;#[q,F];show GQ I (by rw[e];show nh) hs he (OB hl hd (i.put k rv) D)
 . subst ey W;cases (ry);let(z,hd,xs,i,N):=On I.hok e;have hz:-xs<=sizeLine:=by rw[<-Paired.length i];show z
   have hl:-(fm j k v)<=sizeLine:=by have:=CQ j k v;lia
   show wpAny_setItem_heap (tupleKind_room_in1 hu) (K1 I.hok eb) N λh' D hs=>h _ ?_;let(q,es,ep,F,h2,h3,h4,_,h5):=D;show GQ I (by rw[e];show nh) hs #[q,F] #[hl,hd,_,(i.put k eb rv).keeps λc ys ec=>?_,q,es,ep,F,h2,h3,h4,h5];rw[cV ∅];show ec
end
def Ot{U:St}(I:ai X ae U H s)(g:WK H a y o):s.TypeIs (YV a) "dict":=by
 obtain⟨i,k,e,_⟩|⟨i,k,b,e,_⟩:=g
 . let(_,_,q,_,j):=R1 I.hok e;show j.typeIs
 . let(_,_,xs,_,j):=R3 I.hok e;show j.typeIs
def WL(h:Heap)(j:sysModules< ~~~h.objs):fG P w H (h.push { cls:=.type "dict",data:=.dict #[] }) h.objs.size (.dK []):=
 #[gz _,rV.mpr (Ne.symm (eR j)),[],.nil,Heap.DictOf.new h]
def OC:TE:=λ_ H Q=>∀p,H p=J->Q (.ref p) (bp H p (.dK []))
section
variable {X:Cx}{pos:Pos}
def WM:PE X (.Dict [] [] pos) OC:=λae s U H Q I h=>
 wpAny_Dict_empty #[.ref s.heap.objs.size,_,I.laid (λ_ _ q=>d5 _ q) () (WL s.heap I.big),O,h _ (I.hok.fresh ())]
end
noncomputable def vG (names:List (Str×NameKind)) (env:Env):List (Str×Addr):=names.foldl (λcs p=>if (p.2==NameKind.free)=G then (p.1,(env.cells.lookup p.1).getD 0)::cs else cs) []
theorem zR{env:Env}:∀(i:List (Str×NameKind))(cs:List (Str×Addr))(x:Str)(c:Addr),
 (∀y d,cs.lookup y=!d->d=(env.cells.lookup y).getD 0)->
 (i.foldl (λcs p=>if (p.2==NameKind.free)=G then (p.1,(env.cells.lookup p.1).getD 0)::cs else cs) cs).lookup x=!c->c=(env.cells.lookup x).getD 0
 |[]=>λcs x c h e=>h x c e
 |(n,k)::r=>λcs x c h e=>by
  simp only[kC]at e;show zR r _ x c ?_ e;intro y d q;split at q
  . simp only[jp]at q;split at q
    . rename_i z
      grind
    . grind
  . grind
theorem Et{env:Env}:∀(i:List (Str×NameKind))(cs:List (Str×Addr))(x:Str)(c:Addr),
 (i.foldl (λcs p=>if (p.2==NameKind.free)=G then (p.1,(env.cells.lookup p.1).getD 0)::cs else cs) cs).lookup x=!c->(∃d,cs.lookup x=!d)\/(x,NameKind.free)∈i
 |[]=>λcs x c e=>Zl #[c,e]
 |(n,k)::r=>λcs x c e=>by
  simp only[kC]at e;obtain⟨d,q⟩|q:=Et r _ x c e
  . split at q
    . rename_i hk;simp only[jp]at q;split at q
      . rename_i z
        have D:k=NameKind.free:=by simpa using hk
        grind
      . grind
    . grind
  . grind
theorem zU{env:Env}:∀(i:List (Str×NameKind))(cs:List (Str×Addr))(x:Str),
 ((∃d,cs.lookup x=!d)\/(x,NameKind.free)∈i)->∃c,(i.foldl (λcs p=>if (p.2==NameKind.free)=G then (p.1,(env.cells.lookup p.1).getD 0)::cs else cs) cs).lookup x=!c
 |[]=>λcs x h=>by
  obtain h|h:=h
  . show h
  . cases h
 |(n,k)::r=>λcs x h=>by
  simp only[kC];show zU r _ x ?_;obtain⟨d,h⟩|h:=h
  . left;split
    . simp only[jp];split
      . grind
      . grind
    . grind
  . obtain e|h:=bP.mp h
    . grind
    . grind
theorem tH:∀(i:List (Str×NameKind))(cs:List (Str×Addr)),(∀p∈i,p.2=NameKind.free->∃c,env.cells.lookup p.1=!c)->
 (forIn i cs λp r=>if (p.2==NameKind.free)=G then do let a <-cellOf env p.1;pure (ForInStep.yield ((p.1,a)::r)) else pure (ForInStep.yield r):Sem (List (Str×Addr)))=
  pure (i.foldl (λcs p=>if (p.2==NameKind.free)=G then (p.1,(env.cells.lookup p.1).getD 0)::cs else cs) cs)
 |[]=>λcs _=>by simp
 |(n,k)::r=>λcs h=>by
  rw[forIn_cons,kC];by_cases hk:(k==NameKind.free)=G
  . let(c,z):=h (n,k) cf ∅;let q:=z;simp only[hk,cellOf,q];show tH r _ λp j=>h p (dP _ j)
  . simp only[hk];show tH r _ λp j=>h p (dP _ j)
def yW(h:∀p∈sc.names,p.2=NameKind.free->∃c,env.cells.lookup p.1=!c):closureFor sc env=pure (vG sc.names env):=by have:=tH sc.names [] h;unfold closureFor vG;grind
theorem qQ{env:Env}:∀(j:List (Str×NameKind))(x:Str),
 (j.map λ(n,k)=>if (k==NameKind.free&&env.scope.kind==.function&&env.kindOf n==!.cell) then (n,NameKind.cell) else (n,k)).lookup x=
  (j.lookup x).map λk=>if (k==NameKind.free&&env.scope.kind==.function&&env.kindOf x==!.cell) then NameKind.cell else k
 |[],x=>rfl
 |(n,k)::r,x=>by
  let D:=qQ (env:=env) r x;simp only[fr];by_cases hx:x=n
  . split<;>simp_all
  . split<;>simp only[jp,(rV.mpr hx),D]
theorem jK:∀(i:List (Str×NameKind))(n:Nat)(acc:List (Str×Addr)),(cellsFrom n i acc).lookup x=!a->n<=a\/acc.lookup x=!a
 |[]=>λ_ _ h=>YY h
 |(y,k)::r=>λn acc h=>by
  unfold cellsFrom at h;split at h
  . obtain q|q:=jK r _ _ h
    . grind
    . rw[jp]at q;split at q
      . grind
      . grind
  . show jK r _ _ h
theorem zV:∀(i:List (Str×NameKind))(n:Nat)(acc:List (Str×Addr)),(∀z b,acc.lookup z=!b->b<n)->(cellsFrom n i acc).lookup x=!a->(cellsFrom n i acc).lookup y=!a->n<=a->x=y
 |[]=>λ_ _ h h1 h2 j=>absurd (h _ _ h1) ∅
 |(z,k)::r=>λn acc h h1 h2 j=>by
  unfold cellsFrom at h1 h2;split at h1
  . rename_i hk;rw[aE hk]at h2;have one:∀{w:Str},(cellsFrom (n+1) r ((z,n)::acc)).lookup w=!a->a=n->w=z:=λ{w} e e'=>by
     obtain q|q:=jK r _ _ e
     . grind
     . rw[jp]at q;split at q
       . grind
       . grind
    by_cases e:a=n
    . grind
    . show zV r (n+1) _ (λw b q=>?_) h1 h2 ∅;rw[jp]at q;split at q
      . grind
      . grind
  . rename_i hk;rw[bh hk]at h2;show zV r n acc h h1 h2 j
theorem zW:∀(i:List (Str×NameKind))(n:Nat)(acc:List (Str×Addr)),i.lookup x=!.cell->(cellsFrom n i acc).lookup x=!a->n<=a
 |[]=>λ_ _ h _=>by cases h
 |(y,k)::r=>λn acc h h1=>by
  rw[jp]at h;unfold cellsFrom at h1;split at h
  . cases h;obtain q|q:=jK r _ _ h1
    . grind
    . grind
  . split at h1
    . show u3 (zW r _ _ h h1)
    . show zW r _ _ h h1
theorem zX:∀(i:List (Str×NameKind))(n:Nat)(acc:List (Str×Addr)),(∀p∈i,p.2=.cell->p.1≠x)->(cellsFrom n i acc).lookup x=acc.lookup x
 |[]=>λ_ _ _=>rfl
 |(y,k)::r=>λn acc h=>by
  unfold cellsFrom;split
  . rw[zX r _ _ λp j=>h p (dP _ j),jp,show (x==y)=M from rV.mpr λe=>h _ cf ∅ e.symm]
  . show zX r _ _ λp j=>h p (dP _ j)
theorem xZ:∀(i:List (Str×NameKind))(h:Heap)(acc:List (Str×Addr))(x:Str)(a:Addr),(cellsFrom h.objs.size i acc).lookup x=!a-> ~~~h.objs<=a->(∀z b,acc.lookup z=!b->b< ~~~h.objs)->(pushCells h i).IsCell a J
 |[]=>λh acc x a e F j=>absurd (j _ _ e) ∅
 |(y,k)::r=>λh acc x a e F j=>by
  unfold cellsFrom at e;unfold pushCells;split at e
  . rename_i hk;rw[aE hk];let N:=u7 h ({ cls:=.type "cell",data:=.cell J }:Obj);by_cases q:a= ~~~h.objs
    . subst q;show#[_,pushCells_keeps r _ _ _ (ff _ O),O]
    . show xZ r _ ((y,~~~h.objs)::acc) x a ∅ ∅ λz b D=>?_;rw[N];rw[jp]at D;split at D
      . grind
      . grind
  . rename_i hk;rw[bh hk];show xZ r h acc x a e F j
abbrev oM(sc:Scope)(C:Addr)(env:Env):List (Str×Addr):=cellsFrom (C+1) sc.names (vG sc.names env)
structure jE(X:Cx)(ZN F:List Str)(c6:List Nat)(sc:Scope):Prop where
 kind:sc.kind=.function
 locs:∀y∈sc.names,y.2=.local->sc.names.lookup y.1=!.local
 cel:∀y∈sc.names,y.2=.cell->sc.names.lookup y.1=!.cell
 own:∀p∈sc.names,p.2=.free->X.env.scope.names.lookup p.1=!.cell\/X.env.scope.names.lookup p.1=!.free
 frs:∀x∈F,sc.names.lookup x=!.free
 ixl:-c6=-F
 ixn:∀(j i:Nat),c6[j]?=!i->X.N[i]?=F[j]?
abbrev zY(m:Nat)(c6:List Nat)(U:St):St:=replicate m J++c6.map λi=>(U[i]?).join
def gC(X:Cx)(ZN F:List Str)(sc:Scope)(C:Addr)(fp:List Addr)(s:Shared)(H:Hp):Cx where
 prog:=X.prog
 w:=X.w
 K:=X.K
 mg:=X.mg
 base:=X.base
 A:=X.A
 N:=ZN++F
 s₀:=s
 H0:=H
 env:=compEnvC sc (oM sc C X.env) C X.env
 outer:=X.stack
 stack:=X.stack
 ex:=fp
 fn:=λx=>sc.names.lookup x==!.cell
 calm:=X.calm
 pn:=[]
 xe:=λ_ _=>False
section
variable {X:Cx}{ae:List (Addr×Obj)}{U:St}{H:Hp}{s:Shared}
def jE.free_of(c:jE X ZO F c6 sc)(h:sc.names.lookup x=!k):(x,k)∈sc.names:=by
 generalize sc.names=l at h;induction l with
 |nil=>cases h
 |cons p r j=>
  rw[jp]at h;split at h
  . rename_i z
    grind
  . grind
def Dm(I:ai X ae U H s)(c:jE X ZO F c6 sc):∀p∈sc.names,p.2=NameKind.free->∃a,X.env.cells.lookup p.1=!a:=λp j e=>
 I.ok.has p.1 (by obtain h|h:=c.own p j e;show Zl h;show YY h)
def je(I:ai X ae U H s)(c:jE X ZO F c6 sc)(h:(vG sc.names X.env).lookup x=!a):X.env.cells.lookup x=!a:=by
 let e:=zR sc.names [] x a (λy d q=>by cases q) h;obtain⟨d,q⟩|q:=Et sc.names [] x a h
 . cases q
 . let(b,j):=Dm I c _ q O;grind
def Uk(I:ai X ae U H s)(c:jE X ZO F c6 sc)(h:(vG sc.names X.env).lookup x=!a):a< ~~~s.heap.objs:=by let(v,o,j,_):=I.cell x a (je I c h);show dq j
def Z7(I:ai X eK U H s)(c:jE X ZO F c6 sc){C:Addr}(N: ~~~s.heap.objs<=C)(Q:∀b∈fp,nJ X eK H b)(ho:∀b∈fp,∃o,s.heap.get? b=!o):(gC X ZO F sc C fp s H).Ok where
 mod:=I.ok.mod
 kind:=c.kind
 glob:=I.ok.glob
 blt:=I.ok.blt
 above:=N
 inj:=λx y a e1 e2=>by
  let j:=e1;let D:=e2;have lt:∀z b,(vG sc.names X.env).lookup z=!b->b<C+1:=λz b q=>j3 (fT (Uk I c q) N);obtain q|q:=jK _ _ _ j
  . show zV _ _ _ lt j D q
  . obtain W|W:=jK _ _ _ D
    . grind
    . show I.ok.inj x y a (je I c q) (je I c W)
 has:=λx h=>by
  have h':((sc.names.lookup x).map λk=>if (k==NameKind.free&&X.env.scope.kind==.function&&X.env.kindOf x==!.cell) then NameKind.cell else k)=!.cell\/((sc.names.lookup x).map λk=>if (k==NameKind.free&&X.env.scope.kind==.function&&X.env.kindOf x==!.cell) then NameKind.cell else k)=!.free:=by rw[<-qQ];show h
  show xJ.mp (xL _ _ _ ?_);cases e:sc.names.lookup x with
  |none=>grind
  |some k=>
   let m:=c.free_of e;cases k with
   |free=>show YY (xJ.mpr (zU sc.names [] x (YY m)))
   |cell=>grind
   |_=>grind
 cab:=λx a h e=>fx N (u3 (zW _ _ _ (beq_iff_eq.mp h) e))
 hd:=I.ok.hd
 frames:=I.ok.frames
 stk:=Zl O
 exf:=λb i=>#[by
  let(o,e):=ho b i;show eR (fT (dq e) N),λx a e=>by
  let(o,eo):=ho b i;obtain q|q:=jK _ _ _ (e)
  . show j_ (fT (dq eo) ())
  . show(Q b i).2.2.2.2.1 x a (je I c q)]
 bs:=I.bs
 bsz:=fx I.ok.bsz I.sz
 noex:=λb o e i=>by
  let(_,_,_,h,_):=Q b i;obtain h|h:=h
  . show I.ok.noex b o e h
  . show absurd (fT (dq (I.ok.bs b o e).1) h) ()
 exfs:=λb i z=>by
  let(_,h1,h2,_):=Q b i;obtain z|z:=bP.mp (I.stkSub b z)
  . grind
  . grind
 funs:=I.stack
 frf:=I.stkFree
def WN(I:ai X ae U H s)(c:jE X ZN F c6 sc)(hf:∀b∈fp,nJ X ae H b)(ho:∀b∈fp,∃o,s.heap.get? b=!o)
 {C:Addr} (hC:C= ~~~s.heap.objs+1) (pj:h₁.Ns C m1) (nN:∀b o,s.heap.get? b=!o->h₁.get? b=!o)
 (hD:h₁.get? s.heap.objs.size=some { cls:=.type "list",data:=.seq #[] 0 }) (yb:∀x a,(oM sc C X.env).lookup x=!a->C+1<=a->h₁.IsCell a none):
 ai (gC X ZN F sc C fp s H) [] (zY (-ZN) c6 U) (bp H s.heap.objs.size (.lst [])) { s with heap:=h₁,toks:=tk }:=by
 let px:=I.hok.fresh (cK _);have hCle: ~~~s.heap.objs<=C:=by rw[hC];show ma _
 let yi:=I.hok.fresh hCle;let hok:=Z7 I c hCle hf ho;show#[hok,rfl,I.bare,Un.laid nN (cK _) px,#[m1,pj,?_],?_,?_,?_,?_,?_,?_]
 . intro i x v e1 e2 hv;have r_:(ZN++F)[i]?=!x:=e1;by_cases hi:i< -ZN
   . rw[jk (by simpa using hi)]at e2;rw[List.getElem?_replicate]at e2;simp[hi]at e2
   . rw[hZ ()]at r_;rw[hZ (by simpa using Ch hi)]at e2;simp only[List.length_replicate,dS]at e2;cases q:c6[i-(-ZN)]? with
     |none=>rw[q]at e2;cases e2
     |some i'=>
      rw[q]at e2;have sd:(U[i']?).join=!v:=by simpa using e2
      have e3:U[i']?=!(!v):=by
       cases z:U[i']? with
       |none=>rw[z]at sd;cases sd
       |some y=>rw[z]at sd;simp at sd;rw[sd]
      let xF:=fL r_;let py:=c.frs x xF;let hm:=c.free_of py;let hX:=c.own _ hm rfl;have hN:X.N[i']?=!x:=by rw[c.ixn _ _ q];show r_
      let(m,hn,hl):=I.loc;have OE:Tv X.env.scope x:=by
       obtain h|h:=hX
       . show .inr (.inl h)
       . show .inr (.inr h)
      let(u,r,l):=hl i' x v hN e3 OE;show#[u,r,.inr #[?_,?_]]
      . show (Env.kindOf (compEnvC sc (oM sc C X.env) C X.env) x=_)\/(Env.kindOf (compEnvC sc (oM sc C X.env) C X.env) x=_);have:Env.kindOf (compEnvC sc (oM sc C X.env) C X.env) x=(sc.names.lookup x).map λk=>if (k==NameKind.free&&X.env.scope.kind==.function&&X.env.kindOf x==!.cell) then NameKind.cell else k:=qQ sc.names x
        rw[this,py];simp only[re];split
        . show .inl rfl
        . show .inr rfl
      . obtain⟨hk,_⟩|⟨_,cc,vj,hcell⟩:=l
        . obtain h|h:=hX
          . have se:X.env.scope.names.lookup x=!.local:=hk;have h':X.env.scope.names.lookup x=!.cell:=h;rw[h']at se;cases se
          . have se:X.env.scope.names.lookup x=!.local:=hk;have h':X.env.scope.names.lookup x=!.free:=h;rw[h']at se;cases se
        . let(a,ha):=zU (env:=X.env) sc.names [] x (.inr hm);let C7:=je I c (x:=x) (a:=a) ha;rw[vj]at C7;cases C7;let(oc,mi,hd):=hcell;show#[cc,(zX _ _ _ λp hp e z=>by have:=c.cel p hp e;rw[z,py]at this;cases this).trans ha,oc,nN _ _ mi,hd]
 . intro x a e;have e':(oM sc C X.env).lookup x=!a:=e;obtain q|q:=jK _ _ _ e'
   . show#[none,yb x a e' q]
   . let(v,oc,mi,hd):=I.cell x a (je I c q);show#[v,oc,nN _ _ mi,hd]
 . show bp H s.heap.objs.size (.lst []) C=none;rw[cV (by rw[hC];show Nat.succ_ne_self _)];show yi
 . intro x a e;obtain q|q:=jK _ _ _ (show (oM sc C X.env).lookup x=some a from e)
   . have q': ~~~s.heap.objs<a:=u_ hCle q;rw[cV (j_ q')];show I.hok.fresh (ny q')
   . let(v,oc,mi,hd):=I.cell x a (je I c q);rw[cV (eR (dq mi))];show I.freeC x a (je I c q)
 . intro p hp;cases hp
 . show I.hok.laid nN (cK _) #[gz _,[],0,.nil,hD]
 . show -(List.replicate ZN.length none++_)=-(ZN++F);simp[c.ixl]
def v5(X:Cx)(iF:List Expr)(t:TT):Prop:=
 ∀(ae:List (Addr×Obj))(s:Shared)(U:St)(H:Hp)(Q:Bool->Hp->Prop),ai X ae U H s->t U H Q->
  wpAny (model X.prog X.w) X.A (forIn iF G λc r=>if r=G then do let ok <-isTrue c X.env (eval c X.env);pure (ForInStep.yield ok) else pure (ForInStep.yield r)) (TP X ae U Q) X.xe s
def WP:v5 X [] (λ_ H Q=>Q G H):=λ_ s U H Q I h=>wpAny_tests_nil #[H,I,h]
def OG(h:PT X c t):v5 X [c] t:=λj s U H Q I q=>wpAny_tests_one (h j s U H Q I q)
def R4(wi:TI)(m:Nat)(c6:List Nat)(g:TG)(tc:TT)(te:TE):TE:=λU H Q=>wi U H λZU H1=>∀p,H1 p=J->
 ∃W:Nat->Nat->St->Hp->Prop,(∃n,W 0 n (zY m c6 U) (bp H1 p (.lst [])))/\∀i n U' H',W i n U' H'->
  ((ZU.stop i H'/\Q (.ref p) H')\/(ZU.go i H'/\∀x H2,ZU.yld i H' x H2->g x U' H2 λU7 H3=>tc U7 H3 λb H4=>
    if b=G then te U7 H4 λv H5=>∃ys,H5 p=!(.lst ys)/\-ys<sizeLine/\∃n',n'<n/\W (i+1) n' U7 (bp H5 p (.lst (ys++[v])))
    else ∃n',n'<n/\W (i+1) n' U7 H4))
def CI(X:Cx)(fp:List Addr)(tn:Nat->Heap->Prop)(W:Nat->Nat->St->Hp->Prop)(n:Nat)(s:Shared):Prop:=∃i U H,ai X [] U H s/\tn i s.heap/\(∀b∈fp,H b=J)/\W i n U H
def zZ{P:Prop}(h:∀ZT:Prop,(P->ZT)->ZT):P:=h P id
def Ul{F:Hp->Prop}(hcalm:X.calm=true)(T:hU X.prog X.w X.K tg ZU fp it tn)(hg:PG X tg g)(hc:v5 X iF tc)(he:PE X io te)(hx:∀u s,X.xe u s->False)
 (stat:∀{H':Hp},(∀b∈fp,H' b=none)->∀b∈fp,nJ X [] H' b)
 (turn:∀i n U' H',W i n U' H'->((ZU.stop i H'/\F H')\/(ZU.go i H'/\∀x H2,ZU.yld i H' x H2->g x U' H2 λU3 H3=>tc U3 H3 λb H4=>
   if b=true then te U3 H4 λv H5=>∃ys,H5 D=!(.lst ys)/\-ys<sizeLine/\∃n',n'<n/\W (i+1) n' U3 (bp H5 D (.lst (ys++[v])))
   else ∃n',n'<n/\W (i+1) n' U3 H4)))
 {ZI:Result->Shared->Prop} (hR:∀U' H' s',ai X [] U' H' s'->F H'->ZI (.ok .next) s') (n:Nat) (s':Shared) (hI:CI X fp tn W n s'):
 wpAny (model X.prog X.w) X.A (compTurn (.ListComp io [#[tg,iter,iF,0]] sc pos) 0 (.ref it) (.ref D) X.env)
  (λfin s'=>match fin with |.done f=>ZI (.ok f) s' |.again c'=>c'=.compLoop (.ListComp io [#[tg,iter,iF,0]] sc pos) 0 (.ref it) (.ref D) X.env/\∃m,m<n/\CI X fp tn W m s') (λ_ _=>False) s':=by
 show zZ λZO kG=>?_;let(i,U',H',I',fB,C8,w'):=hI;rw[compTurn_list]at kG;obtain⟨stop,qn⟩|⟨go,step⟩:=turn i n U' H' w'
 . show kG (al (wpAny_standAt (al (wpAny_mono (T.done X rfl rfl rfl hcalm i [] s' U' H' (λ_ _=>False) I' (stat C8) fB stop) (λr s4 h4=>?_) λ_ _ f=>f))));let(hr,I4):=h4;subst hr;show bv (hR U' H' _ I4 qn)
 . show kG (al (wpAny_standAt (al (wpAny_mono (T.item X rfl rfl rfl hcalm i [] s' U' H' (λ_ _=>False) I' (stat C8) fB go) (λr s4 h4=>?_) λ_ _ f=>f))));let(u,hr,h4):=h4;subst hr;show al (wpAny_mono h4 (λ_ s5 h5=>?_) λ_ _ f=>f);show zZ λZO kG=>?_;let(x,H5,I5,r5,y5,nE,xS):=h5;have again:∀{s7:Shared}{U7:St}{H7:Hp}{n':Nat},ai X ([]++zF fp s5.heap) U7 H7 s7->W (i+1) n' U7 H7->CI X fp tn W n' s7:=λ{s7 U7 H7 n'} I7 w7=>by
    have pn:∀b∈fp,∀o,s5.heap.get? b=!o->s7.heap.get? b=!o/\H7 b=none:=λb hb o e=>by have:=I7.pin (b,o) (gy _ (gy _ (xU hb e)));show#[this.1,this.2.1]
    show#[i+1,U7,H7,I7.unpinned,T.keep _ _ _ nE λb hb o e=>(pn b hb o e).1,λb hb=>?_,w7];let(o,e,d):=T.obj _ _ nE b hb;show(pn b hb o e).2
   show kG (al (wpAny_mono (hg _ s5 U' H5 x u _ (I5.pinned (stat xS) (T.obj _ _ nE)) r5 (step x H5 y5)) (λ_ s6 h6=>?_) hx));show zZ λZO kG=>?_;let(U6,H6,I6,q6):=h6;show kG (al (wpAny_mono (hc _ s6 U6 H6 _ I6 q6) (λok s7 h7=>?_) hx));show zZ λZO kG=>?_;let(H7,I7,q7):=h7;cases ok with
   |false=>
    rw[bh oz]at q7;let(n',oT,w7):=q7;show kG (bv #[rfl,n',oT,again I7 w7])
   |true=>
    rw[aE rfl]at q7;show kG (al (al (wpAny_mono (he _ s7 U6 H7 _ I7 q7) (λv s8 h8=>?_) hx)));show zZ λZO kG=>?_;let(y,H8,I8,r8,ys,OH,hz,n',oT,w8):=h8;show kG (al (wpAny_mono (oY (X:=X) _ s8 U6 H8 (.ref D) [y] (.ref D) [v] (λ_ H9=>W (i+1) n' U6 H9) I8 rfl (.cons r8 .nil) #[_,ys,y,rfl,rfl,OH,hz,w8]) (λ_ s9 h9=>?_) hx));let(_,H9,I9,_,w9):=h9;show bv (bv #[rfl,n',oT,again I9 w9])
def Z8
 (h:Q (newEnv sc s.heap.objs.size gl (cellsFrom (~~~s.heap.objs+1) sc.names OK) j J .none (!env) builtinsNs) { s with heap:=pushCells (s.heap.push { cls:=.type "dict",data:=.dict #[] }) sc.names }):
 wpAny Md A (newFunctionEnv sc gl OK [] j J .none (!env)) Q E s:=by
 simp only[newFunctionEnv,Option.isSome_some,if_true];show al (wpAny_alloc ?_);show al (wpAny_layCells _ (λname kind cells=>by cases OL:kind==NameKind.cell<;>simp[OL]) _ _ _ _ ?_);rw[show ({ s with heap:=s.heap.push { cls:=.type "dict",data:=.dict #[] } }:Shared).heap.objs.size= ~~~s.heap.objs+1 from u7 ..];show al (bv (bv h))
def Eu{te:TE}{pos:Pos}(hcalm:X.calm=true)(c:jE X ZN F c6 sc)
 (hg:∀C fp s H,PG (gC X ZN F sc C fp s H) tg g) (hc:∀C fp s H,v5 (gC X ZN F sc C fp s H) iF tc) (he:∀C fp s H,PE (gC X ZN F sc C fp s H) io te)
 {fp:List Addr} {it:Addr} {tn:Nat->Heap->Prop} {ZU:It} {Q:VK} (I:ai X ae U H s) (T:hU X.prog X.w X.K tg ZU fp it tn) (st:tn 0 s.heap) (hf:∀b∈fp,nJ X ae H b)
 (h:∀p,H p=none->∃W:Nat->Nat->St->Hp->Prop,(∃n,W 0 n (zY (-ZN) c6 U) (bp H p (.lst [])))/\∀i n U' H',W i n U' H'->
   ((ZU.stop i H'/\Q (.ref p) H')\/(ZU.go i H'/\∀x H2,ZU.yld i H' x H2->g x U' H2 λU3 H3=>tc U3 H3 λb H4=>
     if b=true then te U3 H4 λv H5=>∃ys,H5 p=!(.lst ys)/\-ys<sizeLine/\∃n',n'<n/\W (i+1) n' U3 (bp H5 p (.lst (ys++[v])))
     else ∃n',n'<n/\W (i+1) n' U3 H4)))
 {RR:Value->Addr->Result->Shared->Prop} {E:Value->Shared->Prop}
 (hR:∀D C s' H' m,s.heap.get? D=none->s.heap.get? C=none-> ~~~s.heap.objs<=C->H D=none->D≠C->H' C=none->s'.heap.Ns C m->s'.os=s.os->AllBare s'.gens->Un (frs X.stack) fp H H' s.heap s'.heap->jm X.prog X.w H' s'.heap->Q (.ref D) H'->RR (.ref D) C (.ok .next) s'):
 wpAny (model X.prog X.w) X.A (newList []) (λacc s₃=>wpAny (model X.prog X.w) X.A (newFunctionEnv sc X.env.globals (vG sc.names X.env) [] X.env.qual none .none (!X.env)) (λcenv s₄=>
  codeAny (model X.prog X.w) X.A (.compStart (.ListComp io [#[tg,iter,iF,0]] sc pos) 0 (.ref it) acc { cenv with scope:=relabel sc X.env }) (RR acc cenv.locals) s₄) E s₃) E s:=by
 show wpAny_newObj_type (Z8 ?_);dsimp only;generalize yn:s.heap.push { cls:=.type "list",dict:=none,data:=.seq ([]:List Value).toArray }=H2;generalize yu:pushCells (H2.push { cls:=.type "dict",data:=.dict #[] }) sc.names=h₁;have kp:∀b o,H2.get? b=!o->h₁.get? b=!o:=λb o e=>by rw[<-yu];show pushCells_keeps _ _ _ _ (d5 _ e)
 have hns₁:h₁.Ns H2.objs.size (λ_=>none):=by rw[<-yu];show(Heap.Ns.new H2 (.type "dict")).keeps (pushCells_keeps _ _)
 have hC: ~~~H2.objs= ~~~s.heap.objs+1:=by rw[<-yn,u7]
 have yv: ~~~s.heap.objs≠H2.objs.size:=by rw[hC];show eR (nv _)
 have below:∀b,b< ~~~s.heap.objs->b≠H2.objs.size:=λb hb=>by rw[hC];show eR (j3 hb)
 have nN:∀b o,s.heap.get? b=!o->h₁.get? b=!o:=λb o e=>kp b o (yn▸d5 _ e);have hD:h₁.get? s.heap.objs.size=some { cls:=.type "list",data:=.seq #[] 0 }:=kp _ _ (yn▸ff _ rfl);have fresh:∀a,~~~s.heap.objs<=a->s.heap.get? a=none:=λa ha=>by
  cases e:s.heap.get? a with
  |none=>rfl
  |some o'=>show absurd (dq e) (Nat.not_lt.mpr ha)
 have px:H s.heap.objs.size=none:=I.hok.fresh (cK _);have yw:∀b∈fp,∃o,s.heap.get? b=!o:=λb hb=>let #[o,e,_]:=T.obj 0 _ st b hb;#[o,e];have yy:(H2.push { cls:=.type "dict",data:=.dict #[] }).objs.size= ~~~H2.objs+1:=u7 ..;have yb:∀x a,(oM sc H2.objs.size X.env).lookup x=!a-> ~~~H2.objs+1<=a->h₁.IsCell a none:=λx a e q=>by rw[<-yu];show xZ _ _ (vG sc.names X.env) x a (by rw[yy];show e) (by rw[yy];show q) λz b q'=>by rw[yy,hC];show j3 (j3 (Uk I c q'))
 let I0:=WN I c hf yw (tk:=s.toks) hC hns₁ nN hD yb;let(W,(n0,w0),turn):=h _ px;have nf:∀b∈fp,b≠s.heap.objs.size:=λb hb=>by let(o,e):=yw b hb;show eR (dq e)
 have stat:∀{H':Hp},(∀b∈fp,H' b=none)->∀b∈fp,nJ (gC X ZN F sc H2.objs.size fp s H) [] H' b:=λ{H'} hn b hb=>by
  let(f0,f1,f2,f3,f4,f5):=hf b hb;let(o,e):=yw b hb;show#[hn b hb,below b (dq e),λz=>?_,.inl hb,λx a e'=>by
   obtain q|q:=jK _ _ _ (show (oM sc H2.objs.size X.env).lookup x=some a from e')
   . show j_ (fT (dq e) (fx (by rw[hC];show ma _) (u3 q)))
   . show f4 x a (je I c q),λp hp=>by cases hp]
  obtain z|z:=bP.mp (I.stkSub b z)
  . show f1 z
  . show f2 z
 have C9:tn 0 h₁:=T.keep 0 _ _ st λb hb o e=>nN b o e;have loop:codeAny (model X.prog X.w) X.A (.compLoop (.ListComp io [#[tg,iter,iF,0]] sc pos) 0 (.ref it) (.ref s.heap.objs.size) (compEnvC sc (oM sc H2.objs.size X.env) H2.objs.size X.env))
  (RR (.ref s.heap.objs.size) H2.objs.size) { s with heap:=h₁ }:=by
  show codeAny_loop rfl (CI (gC X ZN F sc H2.objs.size fp s H) fp tn W) (λn s' hI=>?_) n0 #[0,_,_,I0,C9,λb hb=>by rw[cV (nf b hb)];show(hf b hb).1,w0];show wpAny _ X.A ((compTurn (.ListComp io [#[tg,iter,iF,0]] sc pos) 0 (.ref it) (.ref s.heap.objs.size) (compEnvC sc (oM sc H2.objs.size X.env) H2.objs.size X.env)).onRaise (λx=>do noteFrame x (compEnvC sc (oM sc H2.objs.size X.env) H2.objs.size X.env);theTreesLotGoes x)) _ _ s';show wpAny_noted (wpAny_mono (Ul (X:=gC X ZN F sc H2.objs.size fp s H) hcalm T (hg _ fp s H) (hc _ fp s H) (he _ fp s H) (λ_ _ f=>f) stat turn (λU' H' s4 I4 qn=>?_) n s' hI) (λ_ _ h=>h) λ_ _ f=>f.elim);let(m4,OM,_):=I4.loc;show hR _ _ _ H' m4 (fresh _ (cK _)) (fresh _ (by rw[hC];show ma _)) (by rw[hC];show ma _) px yv I4.free OM I4.os I4.bare I4.base I4.hok qn
 show codeAny_compStart_list loop (T.self _ 0 _ _ _ C9 loop)
end
section
variable {X:Cx}
def PQ{U q:St}(I:ai X ae U H s)(D:s.heap.get? C=J)(F:ai X ae q H' s')(N:H' C=J){m:Str->Option Value}(hs:Heap.SameBut C s'.heap h')
 (i: ~~~s.heap.objs<=C):ai X ae q H' { s' with heap:=h' }:=by
 have ne:∀a o,s.heap.get? a=!o->C≠a:=λa o e z=>by rw[z,e]at D;cases D
 show F.turned (λb o W e=>(hs.2 b W).trans e) N ?_ (YY (fx I.sz i)) (λx c e=>?_) (λp Q=>?_)
 . show j_ (fT I.lt i)
 . let(v,o,ho,_):=I.cell x c e;grind
 . show Ne.symm (ne _ _ (I.pin p Q).1)
def Z9(z F:List Str)(c6:List Nat)(i:X.calm=G)(c:jE X z F c6 sc)(hi:PI X tg iter wi)
 (hg:∀C fp s H,PG (gC X z F sc C fp s H) tg g) (hc:∀C fp s H,v5 (gC X z F sc C fp s H) iF tc) (he:∀C fp s H,PE (gC X z F sc C fp s H) io te)
 (hs:∀x,foldedSetIterable iter X.env x=pure x:=by intro _;rfl):PE X (.ListComp io [#[tg,iter,iF,0]] sc pos) (R4 wi (-z) c6 g tc te):=by
 intro ae s U H Q I h;show wpAny_comprehension_free O hs (yW (Dm I c)) c.kind c.locs (dg (hi ae s U H _ I h) λv s1 h1=>dg h1 λvn s2 h2=>?_);let(it,fp,tn,ZU,H2,e,I2,T,ms,f2,q):=h2;subst e;show Eu i c hg hc he I2 T ms f2 q ?_;intro D C s' H' m hD hC gA px yv W N rX j yA hok q';let I3:=I2.call' rX yA hok j λb hb=>by let(_,g1,g2,g3,g4,g5):=f2 b hb;show#[g3,g1,g4,g5]
 show#[m,N,λh' kD=>#[.ref D,H',PQ (m:=m) I2 hC I3 W kD gA,O,q']]
def ON(ZO F:List Str)(c6:List Nat){pos pos' pos2:Pos}(hN:X.N.Nodup)(yB:X.N[i]?=!x)(hx:X.env.scope.names.lookup x=!.local)
 (hcalm:X.calm=G) (c:jE X ZO F c6 sc) (hi:PI X tg j wi)
 (hg:∀C fp s H,PG (gC X ZO F sc C fp s H) tg g) (hc:∀C fp s H,v5 (gC X ZO F sc C fp s H) W tc) (he:∀C fp s H,PE (gC X ZO F sc C fp s H) io te)
 (OO:swapsWith (.ListComp io [#[tg,j,W,0]] sc pos) (!(.Name x pos')) pos2.line X.env=pure G:=by rfl)
 (hs:∀x,foldedSetIterable j X.env x=pure x:=by intro _;rfl):PS X (.Assign [.Name x pos'] (.ListComp io [#[tg,j,W,0]] sc pos) pos2) (λD U H=>R4 wi (-ZO) c6 g tc te U H λv H1=>D.nx (U.set i (!v)) H1):=by
 intro ae s U H D I h;rw[exec_Assign_Name_used _ _ _ _ OO];show al (wpAny_standAt (al ?_));show al (nr (wpAny_comprehension_free O hs (yW (Dm I c)) c.kind c.locs
  (dg (hi ae s U H _ I h) λv s1 h1=>dg h1 λvn s2 h2=>?_)) (λ_ s' hq=>bv (bv hq)) λ_ _ e=>e)
 let(it,fp,tn,ZU,H2,e,I2,T,ms,f2,q):=h2;subst e;show Eu (Q:=λv H1=>D.nx (U.set i (!v)) H1) hcalm c hg hc he I2 T ms f2 q ?_;intro D' C s' H' m hD hC gA px yv yi pj rX hbare yA hok q';let I3:=I2.call' rX yA hok hbare λb hb=>by let(_,g1,g2,g3,g4,g5):=f2 b hb;show#[g3,g1,g4,g5]
 show wpAny_assign_Name (HF (v:=.ref D') I3 hN yB (Zl hx) O (λs'' I4 z4=>?_) (YY hx));let(a,OP,ha):=z4;have OQ:C≠a:=by
  obtain ha|ha:=ha
  . rw[ha];show (j_ (fT I2.lt gA))
  . let(v,o,ho,_):=I2.cell x a ha;intro z;grind
 show#[m,pj.sameBut OP OQ,λh' kD=>#[_,H',PQ (m:=m) I2 hC I4 yi kD gA,q']]
end
def K3(l:Addr)(items:Array Value)(n:Nat)(b:Addr)(i:Array Value)(n2:Nat)(j:Option Addr)(q:Array (Option Value))(Q:¬(not items.isEmpty&&Builtin.List.listTooLong (~~~items+ ~~~i))=G)(C_: ~~~items<=sizeLine)(z: ~~~items+ ~~~i<=sizeLine+1):
 Meets (Builtin.«list.extend» #[[YV l,YV b],[]]) (λ_ ZN s=>s.heap.get? l=some { cls:=.type "list",dict:=J,data:=.seq items n,slots:=#[] }/\s.heap.get? b=some { cls:=.type "list",dict:=j,data:=.seq i n2,slots:=q }/\ZN (.ok (.ret Value.none)) { s with heap:=s.heap.update l (Obj.mapSeq λx=>x++i),toks:=s.toks }):=
 .of_wp λprog w A ZN s h=>by
  let(hp,g,d,tk,os):=s;let(N,hb,h):=h;let f1:=AutoSeq1.idx_int;let f2:=AutoSeq1.sub_tuple_tuple;let f3:=AutoSeq1.sub_list_list;let f4:=AutoSeq1.sub_tuple_list;let f5:=AutoSeq1.sub_list_tuple;have W: ~~~(items++i)<=sizeLine+1:=by rw[Array.size_append];show z
  wp_walk using (wpAny_updateSeq N O),AutoSeq1.wpAny_loadPart' N,AutoSeq1.wpAny_loadPart' hb;grind
section
variable {X:Cx}
def OR:ju X (binaryOp .Add) (λx y H Q=>∃a b xs ys,x=.ref a/\y=.ref b/\bY X.K H a xs/\bY X.K H b ys/\-xs+-ys<=sizeLine/\∀p,H p=J->Q (.ref p) (bp H p (.lst (xs++ys)))):=by
 intro ae s U H x y v u Q I rx ry h;let(a,b,xs,ys,rfl,rfl,ha,hb,hz,q):=h;cases rx;cases ry;let(j,z,((aS,d1,dt1,s1),n1,W,e1,e2,e3),_):=I.list ha;let(i,N,((c2,d2,OS,s2),n2,D,f1,f2,f3),_):=I.list hb;subst e1 e2 e3 f1 f2 f3;let Db:=-z;let kF:=-N;show concat_meets #[_,W,O] #[_,D,O] noFill_list_add seq_list_add F.slot_list_add F.entry_list_add (F.args_list_add_2 _ _) (list_addW a b j.toArray i.toArray n1 n2 J J s1 s2 ∅) #[W,D,?_];have ea:j.toArray++i.toArray=(j++i).toArray:=by simp
 rw[ea];show#[.ref _,_,I.lnew (z.append N) ∅,O,q _ I.fresh]
def K4(K:FG):V->List V->Hp->VK->Prop:=λx vs H Q=>∃l b xs zs,x=.ref l/\vs=[.ref b]/\H l=!(.lst xs)/\bY K H b zs/\-xs+-zs<=sizeLine/\Q .non (bp H l (.lst (xs++zs)))
def R5:r6 X "list.extend" (K4 X.K):=by
 intro mo s U H x vs v us Q I rx rv h;let(l,b,xs,zs,rfl,rfl,hH,hB,hz,q):=h;cases rx;let(u,rfl,ru):=rv.one;cases ru;let(z,j,n,r,hl,e):=I.lstM hH;let(i,W,((c2,d2,OS,s2),n2,g2,f1,f2,f3),_):=I.list hB;subst f1 f2 f3;let kF:=-W;have N: ~~~j.toArray+ ~~~i.toArray<=sizeLine:=by rw[gx,gx];lia
 have D:¬ (not j.toArray.isEmpty&&Builtin.List.listTooLong (~~~j.toArray+ ~~~i.toArray))=G:=by rw[Wy N,Bool.and_false];show oz
 show call_meets F.slot_list_extend #[_,e,O] F.entry_list_extend (F.args_list_extend_2 _ _)
  (K3 l j.toArray n b i.toArray n2 J s2 D () ()) #[e,g2,?_]
 show#[.non,_,I.lset hH e (by simp) (r.append W) ?_,O,q];rw[eI];lia
end
def lY(z:Str)(lo hi:Option Int):Str:=#[((z.cps.toList.drop (HT.sIx (-z) 0 lo)).take (HT.sIx (-z) (-z) hi-HT.sIx (-z) 0 lo)).toArray]
def OT(lo hi:Option Int)(n:Nat):Builtin.Str.strSliceIndices lo hi 1 n=(List.range (HT.sIx n n hi-HT.sIx n 0 lo)).map (HT.sIx n 0 lo+·):=by
 have D:∀(o:Option Int)(d:Nat),d<=n->(match o with |none=>(d:Int) |some i=>max 0 (min (if i<0 then i+(n:Int) else i) (n:Int)))=((HT.sIx n d o:Nat):Int):=λo d hd=>by
  cases o with
  |none=>rfl
  |some i=>
   simp only[HT.sIx];by_cases h:i<0
   . simp only[h,if_true]<;>lia
   . simp only[h]<;>lia
 rw[<-sliceRange_one];let a1:=D lo 0 ();let F:=D hi n ();unfold Builtin.Str.strSliceIndices;rw[<-a1,<-F];cases lo<;>cases hi<;>simp
def Um(z:Str)(lo hi:Option Int):Txt.slice z lo hi=lY z lo hi:=by
 unfold Txt.slice lY;rw[OT];let i:=pick_run z.cps (HT.sIx (-z) 0 lo) (HT.sIx (-z) (-z) hi-HT.sIx (-z) 0 lo);split
 . rename_i h;have h2:-(map (HT.sIx z.length 0 lo+·) (range (HT.sIx z.length z.length hi-HT.sIx z.length 0 lo)))=-z:=by simpa using h
   rw[ck,g9]at h2;have D:HT.sIx (-z) (-z) hi<=-z:=HT.sIx_le _ _ () hi;have q:HT.sIx (-z) 0 lo<=-z:=HT.sIx_le _ _ () lo;have j:HT.sIx (-z) 0 lo=0:=()
   rw[h2,j,drop_zero,rL (by rw[g8];show cK _)]
 . rw[i]
def OU:V->Option Int->Option Int->Hp->VK->Prop:=λx lo hi H Q=>∃z,x=.str z/\-z<=sizeLine/\Q (.str (lY z lo hi)) H
section
variable {X:Cx}
def OV:HS X OU:=by
 intro ae s U H x v vl vu lo hi sl Q I rx hs pl pu h;let(z,rfl,hz,q):=h;let(t,rfl):=rx;show#["str",_,F.slot_str_getitem.lookup,typeIs_str _ _ _,?_];have N:∀(l u:Option (Int×Tok)),vl=partValue l->vu=partValue u->l.map (·.1)=lo->u.map (·.1)=hi->wpAny (model X.prog X.w) X.A (getItem (.str z t) (YV sl)) (EP X ae U Q) X.xe s:=λl u e1 e2 e3 e4=>by subst e1 e2 e3 e4;show wpAny_getItem_str_slice (st:=J) hs O (post_val_or_str #[fx (Txt.slice_le z _ _) hz,λt' k=>?_]);show#[.str (lY z (l.map (·.1)) (u.map (·.1))),H,I.tok _,#[t',?_],q];rw[<-Um];rfl
 cases pl with
 |none=>cases pu with
  |none=>show N J J O O O O
  |int j W=>show N J (!(j,W)) O O O O
 |int i ti=>cases pu with
  |none=>show N (!(i,ti)) J O O O O
  |int j W=>show N (!(i,ti)) (!(j,W)) O O O O
end
section
variable {X:Cx}{ae:List (Addr×Obj)}{U:St}{H:Hp}{s:Shared}{h':Heap}

open A in
def WR{h:Heap}(e:h.get? a=!o):o.isFreed=M:=by
 unfold Heap.get? at e;split at e
 . cases e
 . rename_i j;let(c,d,q,sl):=o;cases q<;>first |rfl |show(j _ _ _ e).elim
def ai.turned2(I:ai X ae U H s)(vF:e≠it)(k:∀b o,b≠e->b≠it->s.heap.get? b=!o->h'.get? b=!o)(fe:nJ X ae H e)(fi:nJ X ae H it)(he:∃o,h'.get? e=!o)(z:∃o,s.heap.get? e=!o):ai X ae U H { s with heap:=h',toks:=t' }:=by
 let(o,ho):=he;let(o0,N):=z;let(a0,a1,a2,a3,a4,a5):=fe;let(b0,b1,b2,b3,Q,b5):=fi;show ai.turned (s:={ s with heap:=s.heap.update e (λ_=>o),toks:=s.toks }) (I.turned (λb u W q=>(kU s.heap (λ_=>o) (Ne.symm W)).trans q) a0 a1 a3 a4 a5) (λb u W q=>?_) b0 b1 b3 Q b5;by_cases D:b=e
 . subst D;let F:=q;rw[kX (λ_=>o) N (WR ho)]at F;grind
 . let F:=q;rw[kU s.heap (λ_=>o) (Ne.symm D)]at F;show k b u D W F
end
def yT(K:FG)(a:Addr):It:=
 #[λi H=>∃xs x,bY K H a xs/\xs[i]?=!x,λi H x H'=>∃T y,H T=J/\x=.ref T/\H'=bp H T (.tup [.int i,y])/\∀xs,bY K H a xs->xs[i]?=!y,λi H=>∃xs,bY K H a xs/\-xs<=i]
def Uo{K:FG}{x1}(a e it:Addr)(vF:e≠it):hU P w K (.Tuple gE x1 pos) (yT K a) [e,it] e (λi h=>(∃D,IsEnum h e it i D)/\h.IsListIter it a i) where
 mem:=by simp
 obj:=λi h st b F=>by
  let((D,he),j):=st;obtain rfl|F:=bP.mp F
  . show#[_,he,λv z=>by cases z]
  . have eb:b=it:=by simpa using F
    subst eb;let(o,ho,c,d):=j;show#[o,ho,λv z=>by rw[d]at z;cases z]
 keep:=λi h h' st k=>by let((D,he),j):=st;show#[#[D,k e (by simp) _ he],j.at λo q=>k it (by simp) o q]
 item:=by
  intro X hP hw hK hc i ae s U H E I hf st hg;subst hP hw hK;let((D,he),j):=st;let(xs,x,hq,hx):=hg;let(du,rv,p,hz):=I.list hq;let(u,hu,ru):=rv.get hx;let fe:=hf e (by simp);let fi:=hf it (by simp);have hilt:it< ~~~s.heap.objs:=by let(_,q,_):=j;show dq q
  show wpAny_pyNext_enum_item he j p.isList (by simpa using hu) vF λh1 ho hit' hT gA hk=>?_;show#[_,O,wpAny_letOwnedTupleGo_enum ho λh2 Df kD=>?_];let vM:=j_ (dq he);let vS:=j_ hilt;have I1:ai X ae U (bp H s.heap.objs.size (.tup [.int i,x])) { s with heap:=s.heap.push { cls:=.type "tuple",data:=.seq (List.toArray [.int i s.toks,u]) },toks:=s.toks+1 }:=by show I.laid (λb o q=>d5 _ q) (cK _) #[by simp only[c5,f_];rw[sizeLine_eq];decide,[.int i s.toks,u],.cons #[_,O] (.cons ru .nil),?_];show#[_,ff s.heap O,O,0,O]
  have up:∀b,b≠s.heap.objs.size->H b=J->bp H s.heap.objs.size (.tup [.int i,x]) b=J:=λb F q=>by rw[cV F];show q
  have I2:ai X ae U (bp H s.heap.objs.size (.tup [.int i,x])) { s with heap:=h2,toks:=s.toks+1 }:=by
   show I1.turned2 vF (λb o k7 mx q=>?_) #[up e vM.symm fe.1,fe.2] #[up it vS.symm fi.1,fi.2] #[_,Df] #[_,d5 _ he];rw[kD.2 b k7];by_cases sf:b= ~~~s.heap.objs
   . subst sf;let q':=q;rw[ff s.heap O]at q';cases q';show hT
   . show hk b o k7 mx ?_;let q':=q;rw[Heap.get?_push_ne s.heap b _ sf]at q';show q'
  show#[.ref s.heap.objs.size,_,I2,O,#[s.heap.objs.size,x,(I.hok.fresh (cK _)),O,O,λys hy=>by rw[I.list_inj hy hq];show hx],#[#[u,by simpa using Df],hit'.at λo y=>(kD.2 it vF.symm).trans y],λb F=>?_];obtain rfl|F:=bP.mp F
  . show up _ vM.symm fe.1
  . have eb:b=it:=by simpa using F
    subst eb;show up _ vS.symm fi.1
 done:=by intro X hP hw hK hc i ae s U H E I hf st hg;subst hP hw hK;let((D,he),j):=st;let(xs,hq,hx):=hg;let(du,rv,p,hz):=I.list hq;let(f0,f1,f2,f3,f4,f5):=hf it (by simp);let hl:=-rv;show wpAny_pyNext_enum_end (I.ok.hd hc) he j p.isList (kS (by simp;lia)) λh' eb=>#[O,I.turned (λb o F q=>eb b o F q) f0 f1 f3 f4 f5]
 self:=λ_ _ _ _ _ st h=>by let((D,he),_):=st;show wpAny_pyIter_enum he h
section
variable {X:Cx}
def OW(K:FG)(ta:TA):TI:=λU H ZI=>ta U H λvs H1=>∃a,vs=[.ref a]/\(∃xs,bY K H1 a xs)/\ZI (yT K a) H1
def OX{x1}(hg:Gl X "enumerate")(hm:X.mg "enumerate"=none)(ha:PA X [a] ta)(hs:starEach [a] X.env=[(false,eval a X.env)]:=by rfl):PI X (.Tuple gE x1 tpos) (.Call (.Name "enumerate" p) [a] [] pos) (OW X.K ta):=by
 intro ae s U H ZI I h;show Call_ (zE (u:=.type "enumerate") I hg hm (by kernel_rfl) (PyProof.Rows.callWith_type1 (dg (ha pos ae s U H _ I h) λus s1 ⟨vs,H1,I1,r1,q1⟩=>?_) hs rfl));let(b,e,(xs,hq),q):=q1;subst e;cases r1 with
 |cons r rr=>
  cases rr;cases r;let(du,rv,pl,hz):=I1.list hq;show call_enumerate_list pl.isList λh' he OY gA hk=>?_;show wpAny_pyIter_enum he ?_;show#[s1.heap.objs.size+1,[s1.heap.objs.size+1,~~~s1.heap.objs],_,_,H1,rfl,(I1.kept (t':=s1.toks) hk),Uo b (~~~s1.heap.objs+1) s1.heap.objs.size (Nat.succ_ne_self _),#[#[_,he],OY],λc hc=>?_,q];have nB: ~~~s1.heap.objs<=c:=by
   obtain rfl|hc:=bP.mp hc
   . show ma _
   . have ec:c= ~~~s1.heap.objs:=by simpa using hc
     show Nat.le_of_eq ec.symm
  show I1.fpOk nB (I1.hok.fresh nB)
def OZ:R2:=λx y H Q=>∃a v,x=.ref a/\WK H a y (!v)/\Q v H
def O0(hu:X.A.units+1<cLine):zP X OZ:=by intro value D ae s U H x y v u Q I rx ry h hs;let(a,z,rfl,g,q):=h;cases rx;show tail_any (Ot I g) F.slot_dict_getitem.lookup (Op hu I g ry λw' s3 I3 j=>#[z,H,I3,j,q]) hs
def Y6:V->V->V->Hp->(Hp->Prop)->Prop:=λo i v H Q=>∃a H',o=.ref a/\C6 H a i v H'/\Q H'
def set_dict(N:X.A.units+1<cLine):Wj X Y6:=by intro ae s U H o i v ov W u Q I F D j h;let(a,H',rfl,g,q):=h;cases F;show Uj N I g D j λs4 z=>#[H',z,q]
end
section
variable {X:Cx}{ae:List (Addr×Obj)}{U:St}{H:Hp}{s:Shared}{h':Heap}
def ai.turnedL{fp:List Addr}(I:ai X ae U H s)(k:∀b o,b∉fp->s.heap.get? b=!o->h'.get? b=!o)(f:∀b∈fp,nJ X ae H b):ai X ae U H { s with heap:=h',toks:=t' }:=by
 have N:∀b u,H b=!u->b∉fp:=λb u e z=>by rw[(f b z).1]at e;cases e
 show I.step (λb j=>#[(f b j).2.2.2.1,(f b j).2.1,(f b j).2.2.2.2.1,(f b j).2.2.2.2.2]) (λb o _ _ i e _=>k b o i e) (λb o _ _ i e _=>#[o.slots,k b o i e]) (λ_ _ _ _ n=>n)
  (λb o i e=>#[o,k b o i e]) (λ_ _ e=>e) (λ_ _ _ e=>e) (λb ps e=>#[#[],by rw[e];simp]) (λm hm=>?_) (λb u e=>?_) I.bare
 . let(o,es,Q,W,r):=hm;show#[o,es,Q,k _ o (λz=>(f _ z).2.1 O) W,r]
 . show(I.hok b u e).stay (λc v i q=>k c v ?_ q) (λ_ q=>q) λ_ _ q=>q;obtain z|z:=i
   . grind
   . grind
end
def ai.madeT{U:St}{fp:List Addr}(I:ai X ae U H s)(hl:-xs<=sizeLine)(rv:ap xs us)(hf:∀c∈fp,nJ X ae H c)(lt:∀c∈fp,∃o,s.heap.get? c=!o)
 (hT:g2.get? s.heap.objs.size=some { cls:=.type "tuple",data:=.seq us.toArray }) (k:∀c o,c∉fp->s.heap.get? c=!o->g2.get? c=!o):
 ai X ae U (bp H s.heap.objs.size (.tup xs)) { s with heap:=g2,toks:=t' }/\∀c∈fp,bp H s.heap.objs.size (.tup xs) c=J:=by
 have up:∀c∈fp,bp H s.heap.objs.size (.tup xs) c=J:=λc hc=>by let(o,e):=lt c hc;rw[cV (eR (dq e))];show(hf c hc).1
 have I1:ai X ae U (bp H s.heap.objs.size (.tup xs)) { s with heap:=s.heap.push { cls:=.type "tuple",data:=.seq us.toArray },toks:=t' }:=
  I.laid (λb o q=>d5 _ q) () #[hl,us,rv,#[_,ff s.heap O,O,0,O]]
 show#[ai.turnedL (s:={ s with heap:=s.heap.push { cls:=.type "tuple",data:=.seq us.toArray },toks:=t' }) I1 (λc o hc q=>?_) (λc hc=>#[up c hc,(hf c hc).2]),up];let q':=q;by_cases sf:c= ~~~s.heap.objs
 . subst sf;rw[ff s.heap O]at q';grind
 . rw[Heap.get?_push_ne s.heap c _ sf]at q';show k c o hc q'
def O4{a b:V}:[a,b].length<=sizeLine:=by  show Nat.le_of_ble_eq_true O
def vT(K:FG)(a b:Addr):It:=
 #[λi H=>∃xs ys x y,bY K H a xs/\bY K H b ys/\xs[i]?=!x/\ys[i]?=!y,
  λi H x H'=>∃T y z,H T=J/\x=.ref T/\H'=bp H T (.tup [y,z])/\(∀xs,bY K H a xs->xs[i]?=!y)/\∀ys,bY K H b ys->ys[i]?=!z,
  λi H=>∃xs ys,bY K H a xs/\bY K H b ys/\(-xs<=i\/-ys<=i)]
structure WT(z TI TO i1 i2:Addr):Prop where
 TIz:TI≠z
 TOz:TO≠z
 i1z:i1≠z
 i2z:i2≠z
 TITO:TI≠TO
 TIi1:TI≠i1
 TIi2:TI≠i2
 TOi1:TO≠i1
 TOi2:TO≠i2
 i12:i1≠i2
def pM{h:Heap}(e:h.get? a=!o)(j:h.get? b=!o')(n:o.cls≠o'.cls):a≠b:=λz=>by subst z;rw[e]at j;cases j;show n O
def K5{z TI TO F N a b:Addr}(D:WT z TI TO F N)(W:IsZip h z TI TO .none)(i:IsPair h TO u v)(h1:h.IsListIter F a n)(h2:h.IsListIter N b m)(ha:h.IsList a xs)(hb:h.IsList b ys):ZipApart z TI TO F N a b:=by let(o1,Q,c1,_):=h1;let(o2,q2,c2,_):=h2;let(oa,q,ca,_):=ha;let(ob,j,cb,_):=hb;show#[D.TIz,D.TOz,D.i1z,D.i2z,D.TITO,D.TIi1,D.TIi2,D.TOi1,D.TOi2,D.i12,pM q W ∅,pM q i ∅,pM q Q ∅,pM q q2 ∅,pM j W ∅,pM j i ∅,pM j Q ∅,pM j q2 ∅]
def WW{K:FG}{x1}(a b z TI TO i1 i2:Addr)(D:WT z TI TO i1 i2):hU P w K (.Tuple gE x1 pos) (vT K a b) [z,TI,TO,i1,i2] z
 (λi h=>IsZip h z TI TO .none/\IsPair h TI (.ref i1) (.ref i2)/\(∃u v,IsPair h TO u v)/\h.IsListIter i1 a i/\h.IsListIter i2 b i) where
 mem:=by simp
 obj:=λi h st c hc=>by
  let(hz,k8,(u,v,kH),h1,h2):=st;simp only[bP,ku,or_false]at hc;obtain rfl|rfl|rfl|rfl|rfl:=hc
  . show#[_,hz,λv z=>by let z':=z;cases z']
  . show#[_,k8,λv z=>by let z':=z;cases z']
  . show#[_,kH,λv z=>by let z':=z;cases z']
  . let(o,ho,c,d):=h1;show#[o,ho,λv z=>by rw[d]at z;cases z]
  . let(o,ho,c,d):=h2;show#[o,ho,λv z=>by rw[d]at z;cases z]
 keep:=λi h h' st k=>by let(hz,k8,(u,v,kH),h1,h2):=st;show#[k z (by simp) _ hz,k TI (by simp) _ k8,#[u,v,k TO (by simp) _ kH],h1.at λo q=>k i1 (by simp) o q,h2.at λo q=>k i2 (by simp) o q]
 item:=by
  intro X hP hw hK hc i ae s U H E I hf st hg;subst hP hw hK;show zZ λZO kG=>?_;let(hz,k8,(u0,v0,kH),h1,h2):=st;let(xs,ys,x,y,hq,hr,hx,hy):=hg;let(du,rv,p,O5):=I.list hq;let(Dp,nV,p',hzl'):=I.list hr;let(u,hu,ru):=rv.get hx;let(u',sg,O6):=nV.get hy;let DD:=K5 D hz kH h1 h2 p.isList p'.isList;have O9:∀c∈[z,TI,TO,i1,i2],∃o,s.heap.get? c=!o:=λc hc=>by
   simp only[bP,ku,or_false]at hc;obtain rfl|rfl|rfl|rfl|rfl:=hc
   . show#[_,hz]
   . show#[_,k8]
   . show#[_,kH]
   . let(o,q,_):=h1;show#[o,q]
   . let(o,q,_):=h2;show#[o,q]
  let O_:=I.hok.fresh (cK _);show kG (wpAny_pyNext_zip_item DD hz k8 kH h1 h2 p.isList p'.isList (by simpa using hu) (by simpa using sg) λg1 a1 a2 a3 a4 a5 a6 a7=>#[_,rfl,wpAny_letOwnedTupleGo_zip a1 λg2 b1 b2=>?_]);have mx:∀c o,c≠z->g1.get? c=!o->g2.get? c=!o:=λc o hc q=>(b2.2 c hc).trans q;let big:=j_ (dq hz);let(I2,up):=I.madeT (xs:=[x,y]) (us:=[u,u']) (g2:=g2) (t':=s.toks) (fp:=[z,TI,TO,i1,i2]) O4 (.cons ru (.cons O6 .nil)) hf O9 (mx _ _ big a5) λc o hc q=>by simp only[bP,ku,or_false,not_or]at hc;show mx c o hc.1 (a7 c o hc.1 hc.2.2.1 hc.2.2.2.1 hc.2.2.2.2 q)
  show#[.ref s.heap.objs.size,_,I2,rfl,#[s.heap.objs.size,x,y,O_,rfl,rfl,λys hy=>by rw[I.list_inj hy hq];show hx,λys Pc=>by rw[I.list_inj Pc hr];show hy],#[b1,mx _ _ D.TIz (a7 _ _ D.TIz D.TITO D.TIi1 D.TIi2 k8),#[_,_,mx _ _ D.TOz a2],a3.at λo q=>mx _ o D.i1z q,a4.at λo q=>mx _ o D.i2z q],up]
 done:=by
  intro X hP hw hK hc i ae s U H E I hf st hg;subst hP hw hK;show zZ λZO kG=>?_;let(hz,k8,(u0,v0,kH),h1,h2):=st;let(xs,ys,hq,hr,hx):=hg;let(du,rv,p,O5):=I.list hq;let(Dp,nV,p',hzl'):=I.list hr;let DD:=K5 D hz kH h1 h2 p.isList p'.isList;let e1:=-rv;let e2:=-nV;show kG (wpAny_pyNext_zip_end (I.ok.hd hc) DD hz k8 kH h1 h2 p.isList p'.isList ?_ λg k=>#[rfl,?_])
  . obtain hx|hx:=hx
    . show .inl (kS (by simp;lia))
    . show .inr (kS (by simp;lia))
  . show I.turnedL (h':=g) (t':=s.toks) (fp:=[z,TI,TO,i1,i2]) (λc o hc q=>?_) hf;simp only[bP,ku,or_false,not_or]at hc;show k c o hc.1 hc.2.2.1 hc.2.2.2.1 hc.2.2.2.2 q
 self:=λ_ _ _ _ _ st h=>wpAny_pyIter_zip st.1 h
section
variable {X:Cx}
def Pe(K:FG)(ta:TA):TI:=λU H ZI=>ta U H λvs H1=>∃a b,vs=[.ref a,.ref b]/\(∃xs,bY K H1 a xs)/\(∃ys,bY K H1 b ys)/\ZI (vT K a b) H1
def nQ{n a b:Nat}(h:a≠b):n+a≠n+b:=λe=>h ∅
def Pf{U:St}{x1}{l1 l2 z TI TO i1 i2:Addr}(I1:ai X ae U H s1)(b7:∀c o,s1.heap.get? c=!o->h'.get? c=!o)(hl:∀c∈[z,TI,TO,i1,i2],~~~s1.heap.objs<=c)(D:WT z TI TO i1 i2)
 (st:IsZip h' z TI TO .none/\IsPair h' TI (.ref i1) (.ref i2)/\(∃u v,IsPair h' TO u v)/\h'.IsListIter i1 l1 0/\h'.IsListIter i2 l2 0) (q:ZI (vT X.K l1 l2) H):vm X ae U (.Tuple gE x1 tpos) ZI (.ref z) { s1 with heap:=h' }:=
 #[z,[z,TI,TO,i1,i2],_,_,H,rfl,I1.kept b7,WW l1 l2 z TI TO i1 i2 D,st,λc hc=>I1.fpOk (hl c hc) (I1.hok.fresh (hl c hc)),q]
def Pm{p pos:Pos}{gE:List Expr}{x1}{tpos:Pos}(hg:Gl X "zip")(hm:X.mg "zip"=J)(ha:PA X [a,b] ta)(hs:starEach [a,b] X.env=(M,eval a X.env)::starEach [b] X.env:=by rfl)(j:(backTo pos (starEach [b] X.env)).any (·.1)=M:=by rfl):PI X (.Tuple gE x1 tpos) (.Call (.Name "zip" p) [a,b] [] pos) (Pe X.K ta):=by
 intro ae s U H ZN I h;show Call_ (zE I hg hm () (PyProof.Rows.callWith_type1 (dg (ha pos ae s U H _ I h) λus s1 Pn=>?_) hs j));let(vs,H1,I1,r1,q1):=Pn;show zZ λZT kG=>?_;let(l1,l2,e,(xs,hq),(ys,Q),q):=q1;subst e;cases r1 with
 |cons r z=>
  cases z with
  |cons r' z=>
   cases z;cases r;cases r';let(du,rv,pl,hz):=I1.list hq;let(Dp,rv',i,Dx):=I1.list Q;show kG (call_zip_2 pl.isList i.isList λh' D b2 W N b5 b6 b7=>wpAny_pyIter_zip D ?_);show Pf I1 b7 (λc F=>?_) #[nQ (),nQ (),nQ (),nQ (),nQ (),nQ (),nQ (),nQ (),nQ (),nQ (a:=0) ()] #[D,b2,#[_,_,W],N,b5] q;simp only[bP,ku,or_false]at F;obtain rfl|rfl|rfl|rfl|rfl:=F
   all_goals (first |show cK _ |show rg _ _)
end
def kY:Nat:=9900
def Bk(h:n<kY):n<=sizeLine:=by have h1:kY=9900:=O;rw[iE];lia
def PX(h:n<scanBound):n<kY:=()
def gG(es:Array (Int×Value)):List Str:=es.toList.map λe=>strOf e.2
structure lZ(h:Heap)(a:Addr)(es:Array (Int×Value))(ep:Nat)(t:SetTable)(led:Bool):Prop where
 at_:h.get? a=some { cls:=.type "set",dict:=none,data:=.set es ep t,slots:=#[] }
 bd: ~~~es<kY
 fits:t.fits es.size=true
 led:t.led=led
 plain:0< ~~~es->t.plain=false
structure tK(prog:Program)(w:World)(h:Heap)(a:Addr)(es:Array (Int×Value))(ep:Nat)(t:SetTable)(led:Bool):Prop extends lZ h a es ep t led where
 el:ElemsOf (PySem.strKind prog w) es.toList
 nd:(gG es).Nodup
def R6:(layNew t es h x).2.1.led=t.led:=by
 unfold layNew;split
 . show (orStandIn _ _).led=_;unfold orStandIn;split<;>rfl
 . rfl
def Ew{t t':SetTable}(e:t.relaid hs n=!(t',o)):t'.led=t.led/\t'.plain=t.plain:=by let(ow,h1,h2):=Option.bind_eq_some_iff.mp e;grind
def K6:(relayAll t es n).2.1.led=t.led:=by
 unfold relayAll;split
 . rename_i e;dsimp only;split
   . show(Ew e).1
   . rfl
 . rfl
def GR(j:t.plain=M):(relayAll t es n).2.1.plain=M:=by
 unfold relayAll;split
 . rename_i e;dsimp only;split
   . show(Ew e).2.trans j
   . rfl
 . rfl
def Ex{h:Heap}(e:h.get? a=some { cls:=.type "set",dict:=J,data:=.set es ep t,slots:=#[] }):(h.update a (Obj.putSet es' t')).get? a=some { cls:=.type "set",dict:=J,data:=.set es' (ep+1) t',slots:=#[] }:=
 kX (Obj.putSet es' t') e O
section
variable {prog:Program}
def add_str(S:tK prog w s.heap a es ep t z)(room: ~~~es+1<scanBound)
 (h:∀b h' es' W t',Heap.SameBut a s.heap h'->tK prog w h' a es' W t' z->(∀y,y∈gG es' ↔ y∈gG es\/y=x)-> ~~~es'<= ~~~es+1->Q b { s with heap:=h' }):
 wpAny (model prog w) A (setAddHashed a (.str x tk) (hashStr w x)) Q E s:=by
 have hk:(PySem.strKind prog w).is x (.str x tk)=G:=by show Value.isStrOf x (.str x tk)=G;simp[Value.isStrOf]
 unfold setAddHashed setAddHashedIn
 show kq (al (ng S.at_ O S.fits ?_))
 dsimp only
 rw[byScan_of O () S.el]
 simp only[↓reduceIte]
 unfold setAddByScan
 show al (al (wpAny_rule (al ?_)))
 show wpAny_setScan_of hk S.at_ O S.fits S.el ?_
 have key:∀e∈es.toList,(PySem.strKind prog w).is x e.2=G ↔ strOf e.2=x:=λe he=>by
  let((k,h1,_),_):=S.el e he
  let(u,hu):=Value.isStrOf_shape h1
  rw[hu]
  show Value.isStrOf x (.str k u)=G ↔ k=x
  simp[Value.isStrOf]
 cases hr:findIdx? (λe=>(PySem.strKind prog w).is x e.2) es.toList with
 |some j=>
  dsimp only
  let(hj,Po,_):=findIdx?_eq_some_iff_getElem.mp hr
  have hm:x∈gG es:=dA.mpr #[es.toList[j],getElem_mem hj,(key _ ∅).mp Po]
  show bv (bv ?_)
  show h M s.heap es ep t (Heap.SameBut.refl a s.heap) S (λy=>#[Zl,λq=>q.elim id λq=>q▸hm]) ()
 |none=>
  dsimp only
  have hm:x∉gG es:=λq=>by
   let(e,he,q):=dA.mp q
   have:=findIdx?_eq_none_iff.mp hr e he
   rw[(key e he).mpr q]at this
   grind
  have DA:∀(b:Bool){s₁:Shared}{Q':Unit->Shared->Prop},Q' ⟨⟩ s₁->wpAny (model prog w) A (match b with |true=>rule "set.scan.the-table-gave-way" |false=>pure ⟨⟩) Q' E s₁:=λb s₁ Q' q=>by
   cases b
   . show bv q
   . show wpAny_rule q
  let hp:=layNew_perm t es (hashStr w x) (.str x tk)
  let hf:=layNew_fits t es (hashStr w x) (.str x tk)
  have hl:(layNew t es (hashStr w x) (.str x tk)).2.1.led=z:=R6.trans S.led
  have k1:∀D:Array (Int×Value),List.Perm D.toList (es.push (hashStr w x,.str x tk)).toList->ElemsOf (PySem.strKind prog w) D.toList/\(gG D).Nodup/\D.size= ~~~es+1/\∀y,y∈gG D ↔ y∈gG es\/y=x:=λD q=>by
   rw[Array.toList_push]at q
   have q2:List.Perm (gG D) (gG es++[x]):=by
    have:=q.map λe=>strOf e.2
    simpa [gG,strOf] using this
   show#[(S.el.push hk O).perm q,q2.nodup_iff.mpr (oS.mpr #[S.nd,by simp,λa ha b hb=>?_]),?_,λy=>?_]
   . rw[ga.mp hb]
     grind
   . have:=q.length_eq
     simpa using this
   . rw[q2.mem_iff]
     simp
  generalize layNew t es (hashStr w x) (.str x tk)=L at hp hf hl ⊢
  let(D,t1,wd,gv):=L
  let(Pp,Pq,k13,Ps):=k1 D hp
  dsimp only at hp hf hl ⊢
  show al (DA gv ?_)
  have fin:∀N:SetTable,N.fits D.size=G->N.led=z->N.plain=M->wpAny (model prog w) A (do
   storeSet a D N
   if (not wd&&N.tooFull)=G then do
    (match (relayAll N D (grown D.size)).2.2 with |true=>rule "set.scan.the-table-gave-way" |false=>pure ⟨⟩)
    storeSet a (relayAll N D (grown D.size)).1 (relayAll N D (grown D.size)).2.1
    pure (!G)
    else pure (!G)) (λr s'=>∃h',s'={ s with heap:=h' }/\r=!G/\∃es' W t',Heap.SameBut a s.heap h'/\tK prog w h' a es' W t' z/\(∀y,y∈gG es' ↔ y∈gG es\/y=x)/\es'.size<= ~~~es+1) E s:=by
   intro N f2 l2 p2
   have b1: ~~~D<scanBound:=()
   show al (wpAny_storeSet_of S.at_ O ?_ (fits_of_scanBound b1))
   let g1:=Ex (es':=D) (t':=N) S.at_
   let pE:=nw s.heap a (Obj.putSet D N)
   split
   . show al (DA _ ?_)
     let q:=relayAll_perm N D (grown D.size)
     let qf:=relayAll_fits N D (grown D.size)
     have ql:(relayAll N D (grown D.size)).2.1.led=z:=K6.trans l2
     let qp:=GR (es:=D) (n:=grown D.size) p2
     generalize relayAll N D (grown D.size)=ZN at q qf ql qp ⊢
     let(DB,t3,g3):=ZN
     dsimp only at q qf ql qp ⊢
     let(m1,m2,m3,m4):=k1 DB (q.trans hp)
     show al (wpAny_storeSet_of g1 O ?_ (fits_of_scanBound ()))
     show bv #[_,O,O,DB,_,t3,pE.trans (nw _ a _),#[#[Ex g1,PX (),qf,ql,λ_=>qp],m1,m2],m4,()]
   . show bv #[_,O,O,D,_,N,pE,#[#[g1,PX b1,f2,l2,λ_=>p2],Pp,Pq],Ps,()]
  have out:∀r s',(∃h',s'={ s with heap:=h' }/\r=!G/\∃es' W t',Heap.SameBut a s.heap h'/\tK prog w h' a es' W t' z/\(∀y,y∈gG es' ↔ y∈gG es\/y=x)/\es'.size<= ~~~es+1)->r=!G/\Q G s':=λr s' q=>by
   let(h',rfl,rfl,es',W,t',q1,q2,q3,q4):=q
   show#[O,h G h' es' W t' q1 q2 q3 q4]
  split
  . show al ?_
    rw[hashByValue_scannable 8 O]
    show bv ?_
    show nr (fin { t1 with plain:=M } (fits_plain_off hf) hl O) (λr s' q=>?_) λ_ _ e=>e
    let(rfl,q'):=out r s' q
    show bv q'
  . rename_i np
    show al (bv ?_)
    simp only[↓reduceIte]
    show nr (fin t1 hf hl (by simpa using np)) (λr s' q=>?_) λ_ _ e=>e
    let(rfl,q'):=out r s' q
    show bv q'
def lZ.moved(S:lZ h a es ep t i)(k:∀o,h.get? a=!o->h'.get? a=!o):lZ h' a es ep t i:=#[k _ S.at_,S.bd,S.fits,S.led,S.plain]
theorem tK.moved(S:tK prog w h a es ep t led)(k:∀o,h.get? a=!o->h'.get? a=!o):tK prog w h' a es ep t led:=#[S.1.moved k,S.el,S.nd]
end
section
variable {prog:Program}
theorem Qd:∀{vs:List Value}{j:List Str},StrsAre vs j->∀(i:Nat)(v:Value),vs[i]?=!v->∃t,v=.str (j.getD i #[#[]]) t
 |_,_,.nil,i=>λv h=>by simp at h
 |_,_,.cons y t r,0=>λv h=>by cases h;show#[t,O]
 |_,_,.cons y t r,i+1=>λv h=>by let(u,e):=Qd r i v ();show#[u,by simpa using e]
theorem Do:∀{vs:List Value}{j:List Str},StrsAre vs j->-vs=-j
 |_,_,.nil=>rfl
 |_,_,.cons y t r=>by simp[Do r]
def mem_step{α:Type}{val:Nat->α}{as bs:List α}(h:∀y,y∈as ↔ ∃j,j<n/\val j=y)(h2:∀y,y∈bs ↔ y∈as\/y=val n)(y:α):y∈bs ↔ ∃j,j<n+1/\val j=y:=by
 rw[h2,h];constructor
 . rintro (⟨j,hj,q⟩|q)
   . show#[j,j3 hj,q]
   . show#[n,nv n,q.symm]
 . rintro⟨j,hj,q⟩;obtain g|rfl:=Nat.lt_succ_iff_lt_or_eq.mp hj
   . show .inl #[j,g,q]
   . grind
def Ou(hh:A.handled=none)(hl:s.heap.IsList l items)(hi:StrsAre items.toList ss)(hb: ~~~items+1<scanBound)
 (h:∀(h':Heap)(tk:Nat) es ep t,tK prog w h' s.heap.objs.size es ep t (not (byText w))->(∀y,y∈gG es ↔ y∈ss)-> ~~~es<= ~~~items->(∀b o,b< ~~~s.heap.objs->s.heap.get? b=!o->h'.get? b=!o)->Q (.ref s.heap.objs.size) { s with heap:=h',toks:=tk }):
 wpAny (model prog w) A (call (.type "set") [.ref l]) Q E s:=by
 show set_of_G (T:=λi h=>∃es ep t,tK prog w h s.heap.objs.size es ep t (not (byText w))/\(∀y,y∈gG es ↔ ∃j,j<i/\ss.getD j #[#[]]=y)/\es.size<=i) hh hl ?_ ?_ ?_ ?_
 . intro h' g _;show#[_,_,_,#[#[g,by decide,rfl,rfl,λq=>by simp at q],λe q=>by simp at q,by simp[gG]],by simp[gG],cK _]
 . intro i h h' q k;let(es,ep,t,S,r):=q;show#[es,ep,t,S.moved λo=>k _ o (eR (nv _)),r]
 . intro i v s' Q E lt e q k;let(es,ep,t,S,m,z):=q;let(u,rfl):=Qd hi i v (by rw[Array.getElem?_toList];show e);show wpAny_holding (al (wpAny_pyHash_str ?_));show add_str S () λb h' es' sj t' sb S2 m2 z2=>k b h' 1 sb #[es',sj,t',S2,mem_step m m2,()]
 . intro h' tk q k;let(es,ep,t,S,m,z):=q;show h h' tk es ep t S (λy=>?_) z k;rw[m,List.mem_iff_getElem];let e0:=Do hi;rw[g8]at e0;constructor
   . rintro⟨j,hj,rfl⟩;show#[j,(),by simp[e0▸hj]]
   . rintro⟨j,hj,rfl⟩;show#[j,(),by simp[hj]]
end
def Qe:Manifest.owners.lookup (String.ofList ['r','o','t','a','r','e','t','i','_','t','e','s'].reverse)=!Manifest.sig_set_iterator:=by kernel_rfl
def oN:Slot "set_iterator" "__next__" "set_iterator.__next__":=.of (owner:="set_iterator") (n:="__next__") () () () () () ()
def K7:Slot "set_iterator" "__iter__" "set_iterator.__iter__":=.of (owner:="set_iterator") (n:="__iter__") () () () () () ()
def Qf:entryFor table "set_iterator.__next__"=some Builtin.«set_iterator.__next__»:=entryFor_of_tree ()
def K8(a:Value):argsOk "set_iterator.__next__" #[[a],[]]:=by unfold argsOk;rw[signature?_of (id:="set_iterator.__next__") (n:=['_','_','t','x','e','n','_','_']) () Qe];kernel_rfl
def Uq:entryFor table "set.__iter__"=some Builtin.«frozenset.__iter__»:=entryFor_alias (id':="frozenset.__iter__") () O () ()
theorem yc{α:Type}:∀{l:List α}{i:Nat}(h:i< -l),(l[i]::l.eraseIdx i).Perm l
 |a::l,0,h=>.rfl
 |a::l,i+1,h=>(gu _ _ _).trans ((yc (by simpa using h)).cons a)
theorem Ia(f:Nat->Nat):∀(n k:Nat)(l:List α)(o:Array α),-l<=n->(pickOrder.go f n k l o).toList.Perm (o.toList++l)
 |0=>λk l o h=>by have:l=[]:=length_eq_zero_iff.mp ();subst this;simp[pickOrder.go]
 |n+1=>λk l o h=>by
  unfold pickOrder.go;cases l with
  |nil=>simp
  |cons a l=>
   have i:f k%-(a::l)< -(a::l):=Nat.mod_lt _ (by simp);rw[gg i];show(Ia f n (k+1) _ _ ∅).trans ?_;rw[Array.toList_push,d6];show Perm.append_left _ (yc i)
def WX(f:Nat->Nat)(o:Array α):(pickOrder f o).toList.Perm o.toList:=by have:=Ia f o.size 0 o.toList #[] ();simpa [pickOrder] using this
section
variable {prog:Program}
def K9(N:0<n)(h:∀i d,i<n->Q i { s with drawn:=d }):wpAny W A (choose F n) Q E s:=λΓ p hΓ=>by show Sem.wp W Γ (.choose F n .pure) _ _ p s;rw[Sem.wp_choose];show#[(),h _ _ (Nat.mod_lt _ N)]
theorem vH:∀(n:Nat)(xs:List α){Q:List α->Shared->Prop}{s:Shared},-xs<=n->(∀ys d,ys.Perm xs->Q ys { s with drawn:=d })->wpAny N A (drawOrder n xs) Q E s
 |0,xs,Q,s=>λh q=>by have:xs=[]:=length_eq_zero_iff.mp ();subst this;show bv (q [] s.drawn .rfl)
 |n+1,[],Q,s=>λh q=>bv (q [] s.drawn .rfl)
 |n+1,x::xs,Q,s=>λh q=>by show al (K9 (by simp) λi d hi=>?_);rw[gg hi];show al (vH n _ ∅ λys F p=>bv (q _ F ((p.cons _).trans (yc hi))))
abbrev t7(h:Heap)(it a:Addr)(f:Value)(i n ep:Nat):Prop:=h.get? it=some { cls:=.type "set_iterator",dict:=J,data:=.fields (List.toArray [f,rawInt i,YV a,rawInt n,rawInt ep]),slots:=#[] }
def vI(w:World)(h:Heap)(it P a:Addr)(es:Array (Int×Value))(ep:Nat)(t:SetTable)(vs:List Value)(i:Nat):Prop:=
 (byText w=G/\t7 h it a (rawInt 0) i es.size ep/\vs=(pickOrder (w.params.setOrder a ep) es).toList.map (·.2))
\/(byText w=M/\1< ~~~es/\∃(pl:List Nat)(k:Nat),t7 h it a (YV P) i es.size ep/\h.get? P=!(seqObj "tuple" (pl.map λj:Nat=>rawInt j).toArray k)/\P≠it/\pl.Perm (List.range es.size)/\vs=pl.map λj=>(es.getD j (0,.none)).2)
\/(byText w=M/\es.size<=1/\∃sl:Nat,t7 h it a (rawInt sl) i es.size ep/\vs=es.toList.map (·.2)/\((i=0/\sl=0)\/∃p,t.place=(List.toArray [p])/\i=1/\sl=p+1))
def WY(S:lZ s.heap a es ep t (not (byText w)))
 (h:∀h' d it P vs,(∀b o,s.heap.get? b=!o->h'.get? b=!o)->vI w h' it P a es ep t vs 0->vs.Perm (es.toList.map (·.2))-> ~~~s.heap.objs<=it-> ~~~s.heap.objs<=P->it< ~~~h'.objs->P< ~~~h'.objs->Q (YV it) { s with heap:=h',drawn:=d }):
 wpAny (model prog w) A (pyIter (YV a)) Q E s:=by
 have hT:s.TypeIs (YV a) "set":=#[_,S.at_,O];show wpAny_pyIter_slot hT F.slot_set_iter (wpAny_call_entry F.slot_set_iter hT Uq ?_ (F.args_set_iter_1 _));unfold Builtin.«frozenset.__iter__» Builtin.Frozenset.slot0 slotArgs;simp only[List.isEmpty_nil,Bool.not_true,g7,↓reduceIte,bind_assoc,f_,bne_self_eq_false];unfold Builtin.Frozenset.addrOf Builtin.Frozenset.sizeOf;show al (bv ?_)
 try dsimp only
 show al (bv ?_);show al (al (wpAny_setEntries_of S.at_ O S.fits (bv ?_)));unfold setDrawn setsByText;show al (al (wpAny_setState_of S.at_ O S.fits (al (al (wpAny_askSetting (bv (bv ?_)))))));show wpAny _ _ (if (not (byText w)&&(not t.plain&&decide (~~~es>1)))=G then _ else _) _ _ _;split
 . rename_i hc;simp only[iP,Bool.not_eq_true',decide_eq_true_eq]at hc;show al (vH es.size (List.range es.size) (by simp) λpl d hp=>?_);have hl:-pl= ~~~es:=by rw[hp.length_eq,g9]
   show al (wpAny_newTuple ?_ (by have:=Bk S.bd;simp;lia));have g1:(s.heap.push (seqObj "tuple" (pl.map λj:Nat=>rawInt j).toArray 0)).get? s.heap.objs.size=!(seqObj "tuple" (pl.map λj:Nat=>rawInt j).toArray 0):=ff _ O;show al (wpAny_setEpoch_of (d5 _ S.at_) O S.fits ?_);show al (wpAny_newObj_type (bv #[_,O,"set_iterator",_,#[_,ff _ O,O],oN.lookup,?_]));have D:(s.heap.push (seqObj "tuple" (pl.map λj:Nat=>rawInt j).toArray 0)).objs.size= ~~~s.heap.objs+1:=size_push' ..;show h _ d _ s.heap.objs.size (pl.map λj=>(es.getD j (0,.none)).2) (λb o q=>d5 _ (d5 _ q)) (YY (Zl #[hc.1,hc.2.2,pl,0,ff _ O,d5 _ g1,?_,hp,O])) ?_ ?_ (cK _) ?_ ?_
   . show eR (by show s.heap.objs.size<(s.heap.push _).objs.size;rw[D];show nv _)
   . show(hp.map _).trans (.of_eq ?_);show List.ext_getElem (by simp) λi h1 h2=>?_;have h3:i< ~~~es:=by simpa using h1
     simp[h3]
   . show s.heap.objs.size<=(s.heap.push _).objs.size;rw[D];show ma _
   . show dq (ff _ O)
   . show dq (d5 _ g1)
 . rename_i hc;show al (bv (al (wpAny_setEpoch_of S.at_ O S.fits ?_)));show al (wpAny_newObj_type (bv #[_,O,"set_iterator",_,#[_,ff _ O,O],oN.lookup,?_]));have D:∀o:Obj,~~~s.heap.objs<(s.heap.push o).objs.size:=λo=>by rw[size_push'];show nv _
   by_cases hb:byText w=G
   . show h _ s.drawn _ s.heap.objs.size _ (λb o q=>d5 _ q) (Zl #[hb,ff _ O,O]) ((WX _ es).map _) (cK _) (cK _) (D _) (D _)
   . have kK:byText w=M:=by simpa using hb
     have hz: ~~~es<=1:=by
      rw[kK]at hc;obtain g|g:=Nat.lt_or_ge 1 es.size
      . show absurd (by rw[S.plain ()];simp;lia) hc
      . show g
     show h _ s.drawn _ s.heap.objs.size _ (λb o q=>d5 _ q) (YY (YY #[kK,hz,0,ff _ O,O,Zl #[O,O]])) .rfl (cK _) (cK _) (D _) (D _)
def Ib(S:lZ s.heap a es ep t (not (byText w)))(j:byText w=G)
 (h:Q (((pickOrder (w.params.setOrder a ep) es)[i]?).map λe=>(e.2,sl)) s):wpAny (model prog w) A (setNext a sl i ep) Q E s:=by
 show al (ng S.at_ O S.fits (al (al (wpAny_askSetting (bv ?_)))));show wpAny _ _ (if byText w=G then _ else _) _ _ _;rw[aE j,bh (by simp)];show al ?_;show al (ng S.at_ O S.fits (al (al (wpAny_askSetting (bv ?_)))));show wpAny _ _ (if byText w=G then _ else _) _ _ _;rw[aE j];show al (wpAny_askSetting (bv (bv h)))
def Ie(S:lZ s.heap a es ep t (not (byText w)))(hb:byText w=M)(hz: ~~~es<=1)
 (h:Q (match es[SetTable.below t.place sl]?,t.place[SetTable.below t.place sl]? with |some (_,x),!j=>some (x,j+1) |_,_=>J) s):wpAny (model prog w) A (setNext a sl i ep) Q E s:=by
 show al (wpAny_setState_of S.at_ O S.fits (al (al (wpAny_askSetting (bv ?_)))));show wpAny _ _ (if byText w=G then _ else if (not t.plain&&decide (~~~es>1))=G then _ else _) _ _ _;have n1:¬ ~~~es>1:=()
 rw[bh (),bh (by simp[n1])];show al (show wpAny _ _ (if (not t.led&&not es.isEmpty)=G then unsupported "set:maker-not-led" else pure Unit.unit) _ _ _ from ?_);rw[bh (by rw[S.led,hb];simp)];show bv (bv h)
def Pt(S:lZ s.heap a es ep t b)(q:t7 s.heap it a f i es.size ep):a≠it:=pM S.at_ q (by simp)
def La(z:A.handled=J)(h:∀h' e,(∀b o,s.heap.get? b=!o->h'.get? b=!o)->(∃o,h'.get? e=!o/\o.cls=.type "StopIteration")->E (YV e) { s with heap:=h' }):
 wpAny (model prog w) A (newExc (.type "StopIteration") [] >>= λe=>(raiseNew e:Sem α)) Q' E s:=by
 show al ?_;show al (Ce (al (wpAny_of_eq () (Ce ?_ (by size_fits)))) (by size_fits));show al (wpAny_handled ?_);rw[z];show al (bv (wpAny_throw (h _ _ (λb o q=>d5 _ (d5 _ q)) #[_,ff _ O,O])))
def GX{P:Addr}(i:s.heap.get? P=!(seqObj "tuple" xs k))(h:Q (!xs) s):wpAny (model prog w) A (seqItems? (YV P)) Q E s:=by show al (wpAny_load i ?_);show bv h
def yd{sl:Nat}(hh:A.handled=J)(S:lZ s.heap a es ep t (not (byText w)))(q:t7 s.heap N a (rawInt sl) i es.size ep)(r:Option (Value×Nat))
 (hn:∀{A':Around}{Q':Option (Value×Nat)->Shared->Prop}{E':Value->Shared->Prop},Q' r s->wpAny (model prog w) A' (setNext a sl i ep) Q' E' s)
 (h1:∀x n h',r=!(x,n)->Heap.SameBut N s.heap h'->t7 h' N a (rawInt n) (i+1) es.size ep->Q (!x) { s with heap:=h' })
 (h2:r=J->∀h',Heap.ExtBut N s.heap h'->Q J { s with heap:=h' }):wpAny (model prog w) A (pyNext (YV N)) Q E s:=by
 have hT:s.TypeIs (YV N) "set_iterator":=#[_,q,O];show al (wpAny_attempt (wpAny_callSpecial?_slot hT oN (wpAny_call_entry oN hT Qf ?_ (K8 _))));show al (bv ?_);show al (wpAny_fieldsOf q O (al (wpAny_setEntries_of S.at_ O S.fits ?_)));rw[bh (by simp)];show al (hn ?_);cases r with
 |some x=>
  let(x,n):=x;show al (wpAny_setField_rec q (by simp) λg1 q1 b1=>al (wpAny_setField_rec q1 (by simp) λg2 q2 b2=>bv #[_,O,bv (h1 x n g2 O (b1.trans b2) ?_)]));show q2
 |none=>
  show al (wpAny_setField_rec q (by simp) λg1 q1 b1=>La hh λg2 e k Pw=>?_);let(o,ho,hc):=Pw;show al (wpAny_isInstance (T:="StopIteration") (#[o,ho,hc]) isSubtype_stop (?_:wpAny _ _ _ _ _ _));show bv (h2 O _ λb o hb z=>k b o (b1.extBut b o hb z))
def Ig{F P a:Addr}{pl:List Nat}(hh:A.handled=J)(S:lZ s.heap a es ep t (not (byText w)))(q:t7 s.heap F a (YV P) i es.size ep)
 (hP:s.heap.get? P=!(seqObj "tuple" (pl.map λj:Nat=>rawInt j).toArray k)) (hp:∀j∈pl,j< ~~~es)
 (h1:∀j h',pl[i]?=!j->Heap.SameBut F s.heap h'->t7 h' F a (YV P) (i+1) es.size ep->Q (!(es.getD j (0,.none)).2) { s with heap:=h' })
 (h2:pl[i]?=J->∀h',Heap.ExtBut F s.heap h'->Q J { s with heap:=h' }):wpAny (model prog w) A (pyNext (YV F)) Q E s:=by
 have hT:s.TypeIs (YV F) "set_iterator":=#[_,q,O];show al (wpAny_attempt (wpAny_callSpecial?_slot hT oN (wpAny_call_entry oN hT Qf ?_ (K8 _))));show al (bv ?_);show al (wpAny_fieldsOf q O (al (wpAny_setEntries_of S.at_ O S.fits ?_)));rw[bh (by simp)];show al (GX hP ?_);show wpAny _ _ (match (pl.map λj:Nat=>rawInt j).toArray[i]? with |some (.int place _)=>_ |some _=>_ |none=>_) _ _ _;cases N:pl[i]? with
 |some j=>
  rw[show (pl.map λj:Nat=>rawInt j).toArray[i]?=some (rawInt j) from by simp[N]];let ip:=hp j (fL N);show wpAny _ _ (setNextDrawn a j ep >>= λx=>setField (YV F) 1 (rawInt ((i:Int)+1)) >>= λ_=>ret x) _ _ _;show al ?_;show al (ng S.at_ O S.fits ?_);dsimp only;rw[bh (by simp),m_ ip];have e0:(es.getD j (0,.none)).2=es[j].2:=by simp[ip]
  let W:=h1 j;rw[e0]at W;show bv (al (wpAny_setField_rec q (by simp) λg1 q1 b1=>bv #[_,O,bv (W g1 N b1 ?_)]));show q1
 |none=>
  rw[show (pl.map λj:Nat=>rawInt j).toArray[i]?=J from by simp at N ⊢;show N];show al (wpAny_setField_rec q (by simp) λg0 q0 b0=>al (wpAny_setField_rec q0 (by simp) λg1 q1 b1=>La hh λg2 e k x8=>?_));let(o,ho,hc):=x8;show al (wpAny_isInstance (T:="StopIteration") (#[o,ho,hc]) isSubtype_stop (?_:wpAny _ _ _ _ _ _));show bv (h2 N _ λb o hb z=>k b o (b1.extBut b o hb (b0.extBut b o hb z)))
def vI.keep{z P a:Addr}(W:vI w h z P a es ep t vs i)(F:∀o,h.get? z=!o->h'.get? z=!o)(k2:∀o,h.get? P=!o->h'.get? P=!o):vI w h' z P a es ep t vs i:=by
 obtain⟨j,q,e⟩|⟨j,D,pl,k,q,Q,N,hp,e⟩|⟨j,D,sl,q,e,hs⟩:=W
 . show Zl #[j,F _ q,e]
 . show YY (Zl #[j,D,pl,k,F _ q,k2 _ Q,N,hp,e])
 . show YY (YY #[j,D,sl,F _ q,e,hs])
def Ih:below (List.toArray [p]) 0=0/\below (List.toArray [p]) (p+1)=1:=by
 constructor
 . simp[below,below.go]
 . simp[below,below.go]
theorem lZ.place(S:lZ h a es ep t b): ~~~t.place= ~~~es:=by have:=S.fits;simp only[SetTable.fits,iP,beq_iff_eq]at this;show this.1
def vI.ne{j P a:Addr}(S:lZ s.heap a es ep t b)(W:vI w s.heap j P a es ep t vs i):a≠j:=by rcases W with ⟨z,q,e⟩|⟨z,D,pl,k,q,N,F,Q,e⟩|⟨z,D,sl,q,e,hs⟩<;>show Pt S q
def Lb:entryFor table "set_iterator.__iter__"=some Builtin.«dict_keyiterator.__iter__»:=entryFor_alias (id':="dict_keyiterator.__iter__") () () () ()
def JK(a:Value):argsOk "set_iterator.__iter__" #[[a],[]]:=by unfold argsOk;rw[signature?_of (id:="set_iterator.__iter__") (n:=['_','_','r','e','t','i','_','_']) () Qe];kernel_rfl
def W0(q:t7 s.heap it a f i n ep)(h:Q (.ref it) s):wpAny (model prog w) A (pyIter (.ref it)) Q E s:=by have j:s.TypeIs (.ref it) "set_iterator":=#[_,q,rfl];show wpAny_pyIter_slot j K7 (wpAny_call_entry K7 j Lb ?_ (JK _));show show wpAny _ _ (ret (.ref it)) _ _ s from bv #[_,rfl,"set_iterator",_,j,oN.lookup,h]
def Ur(hh:A.handled=none)(it P a:Addr)(es:Array (Int×Value))(ep:Nat)(t:SetTable)(vs:List Value):
 Walks prog w A it [it,P,a] [it] (-vs) (λi v=>vs[i]?=!v) (λi h=>vI w h it P a es ep t vs i/\lZ h a es ep t (not (byText w))) where
 sub:=λb D=>by
  have:b=it:=by simpa using D
  simp[this]
 frame:=λi h h' st k=>#[st.1.keep (λo q=>k it (by simp) o q) λo q=>k P (by simp) o q,st.2.moved λo q=>k a (by simp) o q]
 item:=λi s Q E hi st hQ=>by
  let(W,S):=st;obtain⟨v,hv⟩:∃v,vs[i]?=!v:=#[_,gg hi];let na:=W.ne S;have fin:∀h',Heap.SameBut it s.heap h'->vI w h' it P a es ep t vs (i+1)->Q (!v) { s with heap:=h' }:=λh' b W'=>hQ _ h' s.toks hv #[W',S.moved λo q=>(b.2 a na).trans q] λc o hc q=>b.extBut c o (λz=>hc (by simp[z])) q;obtain⟨D,q,e⟩|⟨D,N,pl,k,q,hP,vW,hp,e⟩|⟨D,N,sl,q,e,hs⟩:=W
  . have hx:∃z,(pickOrder (w.params.setOrder a ep) es)[i]?=!z/\z.2=v:=by
     let F:=hv;rw[e,dS,fS]at F;cases N:(pickOrder (w.params.setOrder a ep) es)[i]? with
     |none=>rw[N]at F;cases F
     |some z=>rw[N]at F;show#[z,rfl,by simpa using F]
    let(z,N,ez):=hx;show yd hh S q (!(z.2,0)) (λ{A'} {Q'} {E'} hq=>Ib S D (by rw[N];show hq)) (λx n h' er b q'=>?_) (λer=>by cases er);cases er;rw[ez];show fin h' b (.inl #[D,q',e])
  . show Ig hh S q hP (λj hj=>by simpa using hp.mem_iff.mp hj) (λj h' hj b q'=>?_) (λhn=>?_)
    . have:(es.getD j (0,.none)).2=v:=by let F:=hv;rw[e,dS,hj]at F;simpa using F
      rw[this];show fin h' b (.inr (.inl #[D,N,pl,k,q',(b.2 P vW).trans hP,vW,hp,e]))
    . let F:=hv;rw[e,dS,hn]at F;cases F
  . have hl:-vs= ~~~es:=by rw[e];simp
    have PC:i=0:=()
    have PF:sl=0:=by
     obtain⟨_,g⟩|⟨p,_,g,_⟩:=hs
     . show g
     . lia
    have PH: ~~~es=1:=()
    obtain⟨p,hp⟩:∃p,t.place=(List.toArray [p]):=by have:=S.place;rw[PH]at this;show Array.size_eq_one_iff.mp this
    have PM:below t.place sl=0:=by rw[hp,PF];show Ih.1
    have he:es[0]?=some es[0]:=m_ ();have ev:v=es[0].2:=by subst PC;let F:=hv;rw[e,dS,fS,he]at F;simpa using F.symm
    show yd hh S q (!(es[0].2,p+1)) (λ{A'} {Q'} {E'} hq=>Ie S D N (by rw[PM,he,hp];show hq)) (λx n h' er b q'=>?_) (λer=>by cases er);cases er;rw[<-ev];show fin h' b (.inr (.inr #[D,N,p+1,q',e,.inr #[p,hp,(),rfl]]))
 done:=λs Q E st hQ=>by
  let(W,S):=st;have fin:∀h',Heap.ExtBut it s.heap h'->Q none { s with heap:=h' }:=λh' b=>hQ h' s.toks λc o hc q=>b c o (λz=>hc (by simp[z])) q;obtain⟨D,q,e⟩|⟨D,N,pl,k,q,hP,vW,hp,e⟩|⟨D,N,sl,q,e,hs⟩:=W
  . have hn:(pickOrder (w.params.setOrder a ep) es)[-vs]?=none:=by rw[e];simp
    show yd hh S q none (λ{A'} {Q'} {E'} hq=>Ib S D (by rw[hn];show hq)) (λx n h' er b q'=>by cases er) (λ_=>fin)
  . show Ig hh S q hP (λj hj=>by simpa using hp.mem_iff.mp hj) (λj h' hj b q'=>by rw[e]at hj;simp at hj) (λ_=>fin)
  . have hl:-vs= ~~~es:=by rw[e];simp
    show yd hh S q none (λ{A'} {Q'} {E'} hq=>Ie S D N ?_) (λx n h' er b q'=>by cases er) (λ_=>fin);obtain⟨g,g'⟩|⟨p,hp,g,g'⟩:=hs
    . have:es=#[]:=by apply Array.eq_empty_of_size_eq_zero;lia
      subst this;simpa using hq
    . rw[hp,g',Ih.2];have: ~~~es=1:=()
      let hn:=kS ();rw[hn];show hq
 self:=λi s Q E st hQ=>by rcases st.1 with ⟨D,q,e⟩|⟨D,N,pl,k,q,hP,vW,hp,e⟩|⟨D,N,sl,q,e,hs⟩<;>show W0 q hQ
def Ey(prog:Program)(w:World)(A:Around)(d:Addr)(ok:List Value->Prop)(s1:Shared):Prop:=∀(Q':Value->Shared->Prop)(E':Value->Shared->Prop),
 (∀h' dr I fp wr n P St,(∀b o,s1.heap.get? b=!o->h'.get? b=!o)->Walks prog w A I fp wr n P St->St 0 h'->(∀acc,ItemsOf P acc n->ok acc.toList)->(∀b∈fp,b=d\/s1.heap.objs.size<=b)->(∀b∈wr,~~~s1.heap.objs<=b)->n<=sizeLine->Q' (YV I) { s1 with heap:=h',drawn:=dr })->
 wpAny (model prog w) A (pyIter (YV d)) Q' E' s1
abbrev v6:Obj:={ cls:=.type "list",data:=.seq ([]:List Value).toArray }
def R7(h:ItemsOf (λi v=>vs[i]?=!v) acc (-vs)):acc.toList=vs:=by
 show ext_getElem? λi=>?_;rw[fS];cases hi:acc[i]? with
 |some v=>show(h.2 i v hi).symm
 |none=>
  have:-vs<=i:=by rw[<-h.1];show Array.getElem?_eq_none_iff.mp hi
  grind
def Ez(nX:T="set"\/T="dict")(hT:s.TypeIs (YV d) T)(hI:Ey prog w A.in1 d ok { s with heap:=s.heap.push v6 })
 (hQ:∀h' dr tk vs,ok vs->(∀b o,s.heap.get? b=!o->h'.get? b=!o)-> ~~~s.heap.objs<= ~~~h'.objs->Q vs { s with heap:=h',drawn:=dr,toks:=tk }):wpAny (model prog w) A (collect (YV d)) Q E s:=by
 have hd:d< ~~~s.heap.objs:=by let(o,ho,_):=hT;show dq ho
 show al (wpAny_runValue (codeAny_builtin F.entry_proto_collect (?_:wpAny _ _ _ _ _ _)));show(al (wpAny_newObj_type (bv #[plainId_quiet F.plain_list_iadd _,codeAny_builtin F.entry_list_iadd (?_:wpAny _ _ _ _ _ _)])));have pG:Shared.TypeIs { s with heap:=s.heap.push v6 } (YV d) T:=by let(o,ho,hc):=hT;show#[o,d5 _ ho,hc]
 show(show wpAny _ A.in1 (Builtin.List.listExtendWith (YV s.heap.objs.size) (YV d) (YV s.heap.objs.size)) _ _ { s with heap:=s.heap.push v6 } from ?_);show al (wpAny_typeOf pG ?_);have h1:Builtin.List.listSameRef (YV s.heap.objs.size) (YV d)=M:=by have: ~~~s.heap.objs≠d:=j_ hd;simp[Builtin.List.listSameRef,this]
 have z0:(s.heap.push v6).objs.size= ~~~s.heap.objs+1:=size_push' ..;rw[bh (by rcases nX with rfl|rfl<;>(rw[h1];decide))];show al (hI _ _ λh' dr I fp wr n P St k W st hok yY y0 gA=>?_);have jf:Shared.TypeIs { s with heap:=h',drawn:=dr } (YV d) T:=by let(o,ho,hc):=pG;show#[o,k _ _ ho,hc]
 let g1:=k _ _ (ff _ O);have nf: ~~~s.heap.objs∉fp:=λq=>by
  obtain z|z:=yY _ q
  . show absurd z (j_ hd)
  . rw[z0]at z;show absurd z (Nat.not_succ_le_self _)
 have hint:∀{Q':Bool->Shared->Prop}{E':Value->Shared->Prop},Q' M { s with heap:=h',drawn:=dr }->wpAny (model prog w) A.in1 (Builtin.List.listLengthHint (YV d)) Q' E' { s with heap:=h',drawn:=dr }:=by
  intro Q' E' q;unfold Builtin.List.listLengthHint;obtain rfl|rfl:=nX
  . show al (wpAny_specialOf jf F.slot_set_len.lookup ?_);generalize mB:("set.__len__" : String)=sk
    wp_delta
    rw[show splitId sk=some ("set","__len__") from by subst mB;decide +kernel];subst mB;show al (wpAny_isInstance (b:=G) jf (by rw[isSubtype_type];kernel_rfl) ?_);rw[bh (by simp)];dsimp only;rw[aE ()];show al (wpAny_typeOf jf (bv q))
  . show al (wpAny_specialOf jf F.slot_dict_len.lookup ?_);generalize mB:("dict.__len__" : String)=sk
    wp_delta
    rw[show splitId sk=some ("dict","__len__") from by subst mB;decide +kernel];subst mB;show al (wpAny_isInstance (b:=G) jf (by rw[isSubtype_type];kernel_rfl) ?_);rw[bh (by simp)];dsimp only;rw[aE ()];show al (wpAny_typeOf jf (bv q))
 show al (wpAny_holding (hint ?_));rw[aE (by rcases nX with rfl|rfl<;>decide +kernel)];show al (wpAny_rule (al ?_));show(al (wpAny_updateSeq g1 O ?_));let g2:=kX (Obj.mapSeq (·.push Value.none)) g1 O;show wpAny_updateSeq g2 O ?_;let g3:=kX (Obj.mapSeq (·.pop)) g2 O;have k9:∀b o,b≠s.heap.objs.size->h'.get? b=!o->((h'.update s.heap.objs.size (Obj.mapSeq (·.push Value.none))).update s.heap.objs.size (Obj.mapSeq (·.pop))).get? b=!o:=λb o hb q=>(kU _ _ (Ne.symm hb)).trans ((kU _ _ (Ne.symm hb)).trans q);show bv #[plainId_quiet F.plain_extend_loop _,codeAny_extend_loopS W.toS gA s.heap.objs.size nf (YV s.heap.objs.size) n 0 _ _ _ O (gz _) (W.frame 0 h' _ st λb hb o q=>k9 b o (λz=>nf (z▸hb)) q) g3 (ItemsOf.nil _) λs' acc c m g4 it=>?_];show(al (wpAny_load g4 (bv ?_)));let(x1,x2,x3,x4,x5):=s';obtain rfl:x2=s.gens:=m.gens;obtain rfl:x3=dr:=m.drawn;obtain rfl:x5=s.os:=m.os;show hQ x1 x3 x4 acc.toList (hok acc it) (λb o q=>m.heap b o (λz=>?_) (k9 b o (eR (dq q)) (k _ _ (d5 _ q)))) (ny (dq g4));obtain z|z:=bP.mp z
 . show absurd z (eR (dq q))
 . have:=y0 b z;rw[z0]at this;show absurd (fT (dq q) (u3 this)) (lP _)
def EY(F:A.handled=J)(S:lZ s.heap a es ep t (not (byText w))):Ey prog w A a (λvs=>vs.Perm (es.toList.map (·.2))) s:=λQ' z k=>WY S λh' d j P vs ext W D l1 l2 _ _=>by
 have N:-vs= ~~~es:=by rw[D.length_eq];simp
 show k h' d j [j,P,a] [j] _ _ _ ext (Ur F j P a es ep t vs) #[W,S.moved λo q=>ext _ _ q] (λQ q=>by rw[R7 q];show D) (λb i=>?_) (λb i=>?_) (by rw[N];show Bk S.bd)
 . simp only[bP,ku,or_false]at i;obtain rfl|rfl|rfl:=i
   . grind
   . grind
   . show Zl O
 . simp only[bP,ku,or_false]at i;subst i;show l1
end
section
variable {X:Cx}{ae:List (Addr×Obj)}{U:St}{H:Hp}{s:Shared}
def ai.drew(I:ai X ae U H s)(d:Drawn):ai X ae U H { s with drawn:=d }:=
 I.step (ch:=[]) (λb j=>by cases j) (λb o _ _ _ e _=>e) (λb o _ _ _ e _=>#[o.slots,e]) (λ_ _ _ _ n=>n) (λb o _ e=>#[o,e]) (λ_ _ e=>e) (λ_ _ _ e=>e) (λb ps e=>#[#[],by rw[e];simp]) (λm q=>q) I.hok I.bare
theorem Ii:∀{j:List Str}{i:List Value},ap (j.map V.str) i->StrsAre i j
 |[],i=>λr=>by cases r;show .nil
 |x::j,i=>λr=>by
  cases r with
  |cons a b=>
   let(t,rfl):=a;show .cons x t (Ii b)
theorem Ij:∀{i:List Value}{j:List Str},StrsAre i j->ap (j.map V.str) i
 |_,_,.nil=>.nil
 |_,_,.cons y t r=>.cons #[t,O] (Ij r)
def Ld(P:Program)(w:World)(a:Addr)(ss:List Str):Heap->Prop:=λh=>∃es ep t,tK P w h a es ep t (not (byText w))/\(∀y,y∈gG es ↔ y∈ss)/\es.size<=-ss
def DC(X:Cx):List V->Hp->VK->Prop:=λxs H Q=>∃a ss,xs=[.ref a]/\bY X.K H a (ss.map V.str)/\-ss<4000/\∀l,H l=J->Q (.ref l) (bp H l (.ext (Ld X.prog X.w l ss)))
def W2(hc:X.calm=G):lO X (.type "set") (DC X):=by
 intro ae s U H xs us Q I r h;let(a,D,rfl,hq,hl,q):=h;let(u,rfl,rx):=fg r;cases rx;let(j,rv,pl,hz):=I.list hq;let hs:=Ii rv;let e0:=Do hs;show Ou (I.ok.hd hc) pl.isList () (by show j.toArray.size+1<4096;rw[gx];lia) λh' tk es ep t S mem sz kp=>?_;have F: ~~~es<=-D:=by
  have e9: ~~~j.toArray=-j:=by simp
  lia
 show#[.ref s.heap.objs.size,_,I.laid (λb o e=>kp b o (dq e) e) () (show fG X.prog X.w _ h' _ (.ext (Ld X.prog X.w s.heap.objs.size D)) from #[#[es,ep,t,S,mem,F],#[_,S.at_],λh1 h2 ⟨es,ep,t,S,r⟩ k=>#[es,ep,t,S.moved k,r]]),O,q _ (I.hok.fresh ())]
def Uu(p:vs.Perm (es.toList.map (·.2)))(h:StrsAre vs ss):ss.Perm (gG es):=by
 rw[<-h.strs];have:=p.map strOf
 rwa [fF]at this
def PR(hh:A.handled=J)(hd:(d==sysModules)=M)(F:s.heap.DictAt (fW prog w) d vs ep)(hz:-vs<=sizeLine):
 Ey prog w A d (λus=>-us=-vs/\∀(i:Nat) u,us[i]?=!u->∃k x,vs[i]?=!(k,x)/\(fW prog w).is k u=G) s:=λQ' E' k=>by
 have D:d< ~~~s.heap.objs:=by let(o,es,ho,_):=F;show dq ho
 show wpAny_pyIter_dict hd F ?_;show k _ s.drawn s.heap.objs.size [s.heap.objs.size,d] [s.heap.objs.size] (-vs) _ _ (λb o q=>d5 _ q) (Walks.dictKeys hh _ d (eR D) vs ep) #[#[_,ff _ O,O,O],F.at' λo q=>d5 _ q] (λacc q=>#[by rw[g8];show q.1,λi u hu=>q.2 i u ∅]) (λb j=>?_) (λb j=>?_) hz
 . simp only[bP,ku,or_false]at j;obtain rfl|rfl:=j
   . show YY ()
   . show Zl O
 . simp only[bP,ku,or_false]at j;subst j;show cK _
def PU{vs:List (d_×Value)}{ss:List Str}(e:vs.map (·.1)=ss.map Sum.inr):∀{us:List Value},-us=-vs->(∀(i:Nat) u,us[i]?=!u->∃k x,vs[i]?=!(k,x)/\(fW P w).is k u=G)->StrsAre us ss:=by
 induction ss generalizing vs with
 |nil=>
  intro us j h;have:vs=[]:=List.map_eq_nil_iff.mp e;subst this;have:us=[]:=List.length_eq_zero_iff.mp j;subst this;show .nil
 |cons x ss ih=>
  intro us j h;cases vs with
  |nil=>cases e
  |cons v vs=>
   cases us with
   |nil=>cases j
   |cons u us=>
    simp only[fr,List.cons.injEq]at e;let(k,y,hk,hu):=h 0 u O;cases hk;let F:=e.1;subst F;obtain⟨i,t,D,_⟩|⟨z,t,D,rfl⟩:=dB (k:=(Sum.inr x:d_)) hu
    . cases D
    . cases D;show .cons x t (ih e.2 (by simpa using j) λi u hi=>h (i+1) u ())
end
noncomputable def PY:V->Option Str
 |.str z=>!z
 |.int i=>if i.natAbs.log2<1920 then !(toString i) else J
 |_=>J
def Qh(c:Str):Str.empty++c=c:=by show (#[#[]++c.cps]:Str)=c;grind
def PZ(c:Str)(t:TE):TE:=λU H Q=>t U H λv H'=>∃z,PY v=!z/\-(c++z)<=sizeLine/\-z<=sizeLine/\Q (.str (c++z)) H'
section
variable {X:Cx}
def P1(hc:-c<=sizeLine)(he:PE X e t):PE X (.JoinedStr [.Constant (.str c) j p1,.FormattedValue e (-1) J p2] p3) (PZ c t):=λae s U H Q I h=>by
 show JoinedStr_many (joinParts_cons (Calls.Constant_str #[by rw[Qh];show hc,?_]));rw[Qh];show joinParts_cons (FormattedValue_plain (nr (he ae _ U H _ (I.tok _) h) (λu s1 q=>?_) λ_ _ x=>x));let(v,H',I1,rv,z,N,F,W,q):=q;cases v with
 |str x=>
  cases (N);let(tk,rfl):=rv;show formatField_str (λt' tk=>#[F,joinParts_nilE (joinParts_nil #[.str (c++z),H',(I1.tok _).tok _,#[_,O],q] F)]) W
 |int i=>
  have D:(if i.natAbs.log2<1920 then !(toString i) else J:Option Str)=!z:=N;split at D
  . rename_i hi;cases D;let(tk,rfl):=rv;show formatField_int_small hi #[F,joinParts_nilE (joinParts_nil #[.str (c++toString i),H',((I1.tok _).tok _),#[_,O],q] F)]
  . cases D
 |_=>cases N
end
abbrev aV:=Option d_
def nR:aV->V
 |none=>.non
 |some k=>kV k
def W3:aV->Value->Bool
 |none,v=>v==.none
 |some k,v=>vA k v
def P2(w:World):aV->Int
 |none=>0xFCA86420
 |some k=>Cs w k
theorem fH:∀{k:aV}{v:Value},W3 k v=G->(k=J/\v=.none)\/∃x,k=!x/\vA x v=G
 |none,v=>λh=>Zl #[O,by
  cases v<;>first | rfl | (exfalso;revert h;unfold W3;simp)]
 |some x,v=>λh=>YY #[x,O,h]
section
variable {prog:Program}
def Uv(h:Q 0xFCA86420 { s with toks:=s.toks+1 }):wpAny (model prog w) A (pyHash .none) Q E s:=by have i:s.TypeIs .none "NoneType":=O;show al ?_;show bv (al (wpAny_specialOf i F.slot_NoneType_hash.lookup ?_));show al (wpAny_specialOf i F.slot_NoneType_hash.lookup (al (wpAny_callSpecialIfBoundUnlessNone?_slot i F.slot_NoneType_hash (wpAny_call_entry F.slot_NoneType_hash i F.entry_NoneType_hash ?_ ()))));show wpAny_ret_mkInt ?_;show bv h
end
def eV(prog:Program)(w:World):PySem.KeyKind prog w aV where
 is:=W3
 hash:=P2 w
 inj:=λv a b ha hb=>by
  obtain⟨rfl,rfl⟩|⟨x,rfl,hx⟩:=fH ha
  . obtain⟨rfl,_⟩|⟨y,rfl,hy⟩:=fH hb
    . rfl
    . rcases dB hy with ⟨i,t,_,e⟩|⟨i,t,_,e⟩<;>cases e
  . obtain⟨rfl,e⟩|⟨y,rfl,hy⟩:=fH hb
    . subst e;rcases dB hx with ⟨i,t,_,e⟩|⟨i,t,_,e⟩<;>cases e
    . show gT some ((fW prog w).inj v x y hx hy)
 byValue:=λk v h=>by
  obtain⟨rfl,rfl⟩|⟨x,rfl,hx⟩:=fH h
  . rfl
  . show(fW prog w).byValue x v hx
 pyHash:=λhv h=>by
  obtain⟨rfl,rfl⟩|⟨x,rfl,hx⟩:=fH hv
  . show Uv h
  . show(fW prog w).pyHash hx h
 eqBool:=λhu hv h=>by
  obtain⟨rfl,rfl⟩|⟨x,rfl,hx⟩:=fH hu
  . obtain⟨rfl,rfl⟩|⟨y,rfl,hy⟩:=fH hv
    . show SeqAt.EqAt.same _ _ _ _ _ h
    . obtain⟨i,t,rfl,rfl⟩|⟨i,t,rfl,rfl⟩:=dB hy
      . show SeqAt.EqAt.none_int i t _ _ _ _ h
      . show SeqAt.EqAt.none_str i t _ _ _ _ h
  . obtain⟨rfl,rfl⟩|⟨y,rfl,hy⟩:=fH hv
    . obtain⟨i,t,rfl,rfl⟩|⟨i,t,rfl,rfl⟩:=dB hx
      . show SeqAt.EqAt.int_none i t _ _ _ _ h
      . show SeqAt.EqAt.str_none i t _ _ _ _ h
    . show(fW prog w).eqBool hx hy ?_;have e:decide ((some x:aV)=!y)=decide (x=y):=by simp
      rw[e]at h;show h
 «strs»:=λk x t v h=>by
  obtain⟨rfl,e⟩|⟨y,rfl,hy⟩:=fH h
  . cases e
  . show(fW prog w).strs y x t v hy
theorem P4:∀{k:aV}{u:Value},aI (nR k) u->(eV P w).is k u=G
 |none,u=>λr=>by let e:=r;subst e;rfl
 |some k,u=>λr=>J7 (P:=P) (w:=w) r
theorem Qi:∀{ks:List aV}{i:List Value},ap (ks.map nR) i->ItemsAre (eV P w) ks i
 |[],i=>λh=>by let e:=h.zero;subst e;show .nil
 |k::ks,i=>λh=>by
  cases h with
  |cons r t=>show .cons (P4 r) (Qi t)
def CT(P:Program)(w:World):List aV->Int:=(tupleKind (eV P w)).hash
abbrev XD:=List (List aV×Addr×V)
abbrev XV:=List (List aV×Addr×Value)
def XR:XD->XV->Prop:=Paired λx y=>x.1=y.1/\x.2.1=y.2.1/\aI x.2.2 y.2.2
def wA(hk:List aV->Int)(a:Addr)(xs:XD):Heap->Prop:=λh=>-xs<=sizeLine/\(a==sysModules)=M/\∃ys:XV,XR xs ys/\(ys.map (·.1)).Nodup/\
 ∃o es ep,h.get? a=!o/\o.ExactDict/\o.data=.dict es ep/\es.toList=ys.map λy=>#[hk y.1,YV y.2.1,y.2.2]
def dX(P:Program)(w:World)(a:Addr)(xs:XD):HO:=.ext (wA (CT P w) a xs)
def y3(p:wA hk a xs h):fG P w H h a (.ext (wA hk a xs)):=by let q:=p;let(_,_,ys,_,_,o,es,i,e,_):=q;show#[p,#[o,e],λh1 h2 j k=>by let(z,m,ys,r,n,o,es,i,e,g):=j;show #[z,m,ys,r,n,o,es,i,k _ e,g]]
def jT(xs:XD)(k:List aV):Option V:=(xs.find? λx=>decide (x.1=k)).map (·.2.2)
theorem XR.at:∀{xs:XD}{ys:XV},XR xs ys->(∀v,jT xs k=!v->∃p,atKey ys k=!p/\aI v p.2)/\(jT xs k=none->atKey ys k=none)
 |_,_,.nil=>#[λv h=>(by cases h),λ_=>rfl]
 |x::xs,y::ys,.cons #[h1,h2,q] t=>by
  let i:=XR.at (k:=k) t;unfold jT atKey at i ⊢;by_cases e:x.1=k
  . let j:=h1▸e;grind
  . rw[Cn ∅,Cn ∅];show i
theorem XR.snoc(h:x.1=y.1/\x.2.1=y.2.1/\aI x.2.2 y.2.2):∀{xs:XD}{ys:XV},XR xs ys->XR (xs++[x]) (ys++[y])
 |_,_,.nil=>.cons h .nil
 |_,_,.cons a t=>.cons a (XR.snoc h t)
theorem XR.mem:∀{xs:XD}{ys:XV},XR xs ys->∀y∈ys,∃x∈xs,x.1=y.1/\x.2.1=y.2.1
 |_,_,.nil=>λy h=>by cases h
 |x::xs,z::ys,.cons #[h1,h2,_] t=>λy h=>by
  obtain rfl|h:=bP.mp h
  . grind
  . let(i,m,e):=XR.mem t y h;grind
section
variable {prog:Program}{w:World}{A:Around}{E:Value->Shared->Prop}{s:Shared}{K:Type}[DecidableEq K]{knd:HeapKind prog w K}
def Ov(hu:knd.room A)(i:knd.is s.heap k a)(hm:s.heap.DictOfH knd d xs)
 (q1:∀p,atKey xs k=!p->Q p.2 { s with toks:=s.toks+knd.draws k })
 (q2:atKey xs k=none->∀h',h'.DictOfH knd d (xs++[(k,a,v)])->Heap.SameBut d s.heap h'->Q v { s with heap:=h',toks:=s.toks+knd.draws k })
 (gA:-xs<=sizeLine):wpAny (model prog w) A (dictSetDefault d (.ref a) v) Q E s:=by
 let(o,es,ep,F,hc,z,he,DE,hn):=hm;let hsz':=size_of_entries he;show kq ?_;show al (knd.pyHash hu i (al (wpAny_dictFind_heap hu i F z he DE hn (λN=>?_) λj p hj=>?_)))
 . let hq:=atKey_none_of_get N;show al (wpAny_rule (al (wpAny_updateDictKeys (hz:=()) F z (bv (q2 hq _ ?_ (nw ..))))));show#[_,_,ep+1,kX _ F (Obj.isFreed_of_dict (Obj.data_mapDictKeys z _)),hc.mapDictKeys _,Obj.data_mapDictKeys z _,by simp[he,entryOfKey],λx D=>?_,?_]
   . obtain D|D:=dy.mp D
     . show knd.keeps (DE x D) F z (nw ..)
     . rw[ga.mp D];show knd.keeps i F z (nw ..)
   . rw[d0];show oS.mpr #[hn,h_.mpr #[ku,rh],λx D y hy e=>not_mem_keys_of_get N ?_];rw[fr,rQ,ga]at hy;have q:x=k:=e.trans hy;rw[<-q];show D
 . show al (wpAny_dictEntries F z ?_);rw[entry_at he j,hj];show al (wpAny_rule (bv (q1 p (atKey_of_get hn hj))))
end
section
variable {X:Cx}
def ux{U:St}(I:ai X ae U H s)(e:cW X.K H b (k.map nR)):(tupleKind (eV P w)).is s.heap k b:=by let(i,r,(o,h1,h2,n,j),_):=I.tuple e;show#[o,i.toArray,n,h1,h2,j,by simpa using Qi r]
def ai.dx{U:St}(I:ai X ae U H s)(e:H a=!(dX X.prog X.w a xs))(hk:∀x∈xs,cW X.K H x.2.1 (x.1.map nR)):
 -xs<=sizeLine/\(a==sysModules)=M/\∃ys:XV,XR xs ys/\s.heap.DictOfH (tupleKind (eV X.prog X.w)) a ys:=by
 let((z,m,ys,r,n,o,es,F,h1,h2,i,Q),_):=I.hok a _ e;show#[z,m,ys,r,o,es,F,h1,h2,i,Q,λy j=>?_,n];let(x,q,D,N):=r.mem y j;rw[<-D,<-N];show ux I (hk x q)
theorem XR.len:∀{xs:XD}{ys:XV},XR xs ys->-ys=-xs
 |_,_,.nil=>rfl
 |_,_,.cons _ t=>by rw[c5,c5,XR.len t]
def Uw(P:Program)(w:World)(K:FG):V->List V->Hp->VK->Prop:=λx vs H Q=>∃a b xs k v,x=.ref a/\vs=[.ref b,v]/\H a=!(dX P w a xs)/\(∀x∈xs,cW K H x.2.1 (x.1.map nR))/\cW K H b (k.map nR)/\-xs<sizeLine/\
 match jT xs k with
 |some u=>Q u H
 |none=>Q v (bp H a (dX P w a (xs++[(k,b,v)])))
def Ux(hu:X.A.units+1<cLine):PP X "dict.setdefault" (Uw X.prog X.w X.K):=by
 intro eK s U H x vs v us Q I rx rv h;let(a,b,xs,k,y,rfl,rfl,hH,W,hb,hl,q):=h;cases rx;let(u,r,rfl,rb,ry):=rv.two;cases (rb);let(z,m,ys,j,dd):=I.dx hH W;let sw:=j.len;show call_meetsIn F.slot_dict_setdefault dd.typeIs F.entry_dict_setdefault () (S:=λA ZN s'=>A=X.A/\ZN=wants (EP X eK U Q) X.xe/\s'=s) (.of_wp λA ZN s' P5=>?_) #[O,O,O];let(e1,e2,e3):=P5;subst e1 e2 e3;show al ?_;show al (wpAny_notOrdered_dict dd.typeIs ?_);show(bv ?_);dsimp only;rw[bh ∅];show al (Ov (tupleKind_room_in1 hu) (ux I hb) dd (λp hp=>bv #[p.2,O,?_]) (λhn h' D hs=>bv #[r,O,?_]) ())
 . cases e:jT xs k with
   |none=>rw[(j.at).2 e]at hp;grind
   |some N=>
    rw[e]at q;let(p',i,rp):=(j.at).1 N e;rw[hp]at i;cases i;show#[_,_,I.tok _,rp,q]
 . cases e:jT xs k with
   |some N=>
    let(p',i,_):=(j.at).1 N e;grind
   |none=>
    rw[e]at q;let(o,es,ep,h1,h2,h3,h4,h5,h6):=D;show#[_,_,GQ I (by rw[hH];show nh) hs #[o,h1] (y3 #[?_,m,ys++[(k,b,r)],j.snoc #[O,O,ry],h6,o,es,ep,h1,h2,h3,h4]),ry,q];grind
def Y8(P:Program)(w:World)(K:FG):V->List V->Hp->VK->Prop:=λx vs H Q=>∃a b xs k v,x=.ref a/\vs=[.ref b,v]/\H a=!(dX P w a xs)/\(∀x∈xs,cW K H x.2.1 (x.1.map nR))/\cW K H b (k.map nR)/\Q ((jT xs k).getD v) H
def Qj(hu:X.A.units+1<cLine):PP X "dict.get" (Y8 X.prog X.w X.K):=by
 intro ae s U H x vs v us Q I rx rv h;let(a,b,xs,k,y,rfl,rfl,hH,i,hb,q):=h;cases rx;let(u,r,rfl,rb,N):=rv.two;cases (rb);let(z,m,ys,j,D):=I.dx hH i;show call_meetsIn F.slot_dict_get D.typeIs F.entry_dict_get (F.args_dict_get_3 _ _ _) (meetsH_dict_get_default (tupleKind (eV X.prog X.w)) a b m r) #[tupleKind_room_in1 hu,k,ys,ux I hb,D,?_];show#[_,_,I.tok _,?_,q];cases e:jT xs k with
 |none=>
  rw[(j.at).2 e];show N
 |some W=>
  let(p',P6,rp):=(j.at).1 W e;grind
def Lg{apos cpos:Pos}{id:String}(q:Slot "dict" name id)(W:typeOf (.builtin id)=pure (.type "method_descriptor"))(hm:PP X id r)(ho:PE X o to)(ha:PA X [e1,e2] t)
 (j:attributeBase o name X.env (eval o X.env)=eval o X.env:=by rfl)
 (z:((backTo cpos (starEach [e1,e2] X.env)).all (λx=>not x.1)&&(backToKw cpos (keywordEach [] X.env)).all (λx=>x.1.isSome)
   && decide ([e1,e2].length+-([]:List Keyword)+(if ([]:List Keyword).isEmpty then 0 else 1)<30))=G:=by rfl)
 (i:(apos.endLine==cpos.line)=G:=by rfl) (hs:starEach [e1,e2] X.env=(M,eval e1 X.env)::starEach [e2] X.env:=by rfl) (D:(backTo cpos (starEach [e2] X.env)).any (·.1)=M:=by rfl):
 PE X (.Call (.Attribute o name apos) [e1,e2] [] cpos) (λU H Q=>to U H λx H1=>(∃a hk xs,x=.ref a/\H1 a=!(.ext (wA hk a xs)))/\t U H1 λvs H2=>r x vs H2 Q):=by
 intro ae s U H Q I h;show wpAny_Call_method_late j z i O (dg (ho ae s U H _ I h) λv s1 N=>?_);let(x,H1,I1,r1,(a,hk,xs,ea,hH),q1):=N;subst ea;cases r1;let((_,_,ys,_,_,o,es,ep,h1,h2,_),_):=I1.hok a _ hH;show#["dict",id,F.plainAttrs_dict,q,W,#[o,h1,h2.1],λb e=>(by cases e;show#[o,h1,h2.2.1]),?_];let hA:=ha cpos ae s1 U H1 _ I1 q1;rw[hs]at hA ⊢;show Calls.callWith_builtin () (Calls.evalArgs_plain ?_);show dg hA λus s2 P7=>by let(vs,H2,I2,r2,q2):=P7;show hm ae s2 U H2 (.ref a) vs (YV a) us Q I2 O r2 q2
def W4:PE X (.Dict [] [] pos) (λ_ H Q=>∀p,H p=J->Q (.ref p) (bp H p (dX X.prog X.w p []))):=λae s U H Q I h=>
 wpAny_Dict_empty #[.ref s.heap.objs.size,_,I.laid (λ_ _ q=>d5 _ q) () (y3 #[gz _,rV.mpr (Ne.symm (eR I.big)),[],.nil,rh,_,#[],0,ff _ O,#[O,O,O],O,O]),O,h _ (I.hok.fresh ())]
end
def DF(a c:Addr):Heap->Prop:=λh=>∃o,W.InstAt h a o c J
end L2
namespace L2
open PySem PySem.Spec PyProof.Rows PySem.W
theorem Ik:∀(l:List α)(m:List β),-l=-m->(∀(i:Nat) a b,l[i]?=!a->m[i]?=!b->F a b)->Paired F l m
 |[],[],_,_=>.nil
 |a::l,b::m,h,g=>.cons (g 0 a b O O) (Ik l m ∅ λi x y h1 h2=>g (i+1) x y h1 h2)
section
variable {X:Cx}
def W5:lO X (.type "range") (λxs H Q=>∃j,xs=[.int j]/\∀r,H r=J->Q (.ref r) (bp H r (.rng 0 j))):=by intro ae s U H xs D Q I r h;let(j,rfl,q):=h;let(u,rfl,t,rfl):=fg r;show call_range_1 #[.ref s.heap.objs.size,_,I.laid (λb o e=>d5 _ e) () (show fG X.prog X.w _ _ _ (.rng 0 j) from #[_,_,_,ff _ O]),O,q _ (I.hok.fresh ())]
def JL(hc:X.calm=G):lO X (.type "list") (λxs H Q=>∃p j,xs=[.ref p]/\H p=!(.rng 0 j)/\0<=j/\j<=100000/\∀l,H l=J->Q (.ref l) (bp H l (.lst ((List.range j.toNat).map λi=>.int (i:Nat))))):=by
 intro ae s U H xs us Q I r h;let(p,j,rfl,e,h0,h1,q):=h;let(u,rfl,rx):=fg r;cases rx;let(t,u,v,hr):=(I.hok p _ e);show call_list_range (n:=j.toNat) (I.ok.hd hc) hr (small_one () () () ()) ?_ () λh' tk F c' hk y4 D=>?_
 . rw[rangeSize_one];split<;>lia
 . show#[.ref s.heap.objs.size,_,I.laid hk (cK _) (show fG X.prog X.w _ h' _ (.lst _) from #[?_,F.toList,c',?_,by simpa using y4]),O,q _ (I.hok.fresh (cK _))]
   . rw[ck,g9,sizeLine_eq];lia
   . show Ik _ _ (by simp[D.1]) λi a b ha hb=>?_;rw[Array.getElem?_toList]at hb;let(tk,rfl):=D.2 i b hb;rw[dS]at ha;cases hi:(List.range j.toNat)[i]? with
     |none=>rw[hi]at ha;cases ha
     |some k=>
      rw[hi]at ha;cases ha;let lt:=(eM.mp hi).1;rw[g9]at lt;rw[List.getElem?_range lt]at hi;cases hi;show#[tk,by simp]
end
section
variable {prog:Program}
def P8(pG:s.TypeIs (YV d) "dict")(hI:Ey prog w A.in1 d ok s)(sC:Value)(hS:s.heap.get? S=some { cls:=.type "list",data:=.seq #[] c₀ })
 (hR:∀h' dr tk acc c,(∀b o,b≠S->s.heap.get? b=!o->h'.get? b=!o)->h'.get? S=some { cls:=.type "list",dict:=J,data:=.seq acc c,slots:=#[] }->ok acc.toList->ZN (.ok (.ret sC)) { s with heap:=h',drawn:=dr,toks:=tk }):
 wpAny (model prog w) A.in1 (Builtin.List.listExtendWith (YV S) (YV d) sC) (λfin s'=>match fin with |.done f=>ZN (.ok f) s' |.again c'=>c'.quiet=G/\codeAny (model prog w) A c' ZN s') (λe s'=>ZN (.error e) s') s:=by
 have DG:S≠d:=λe=>by let(o,ho,hc):=pG;rw[<-e,hS]at ho;cases ho;let hc:= hc;show absurd hc ()
 unfold Builtin.List.listExtendWith;show al (wpAny_typeOf pG ?_);have h1:Builtin.List.listSameRef (YV S) (YV d)=M:=by simp[Builtin.List.listSameRef,DG]
 rw[bh (by rw[h1];decide)];show al (hI _ _ λh' dr I fp wr n P St k W st hok yY y0 gA=>?_);have jf:Shared.TypeIs { s with heap:=h',drawn:=dr } (YV d) "dict":=by let(o,ho,hc):=pG;show#[o,k _ _ ho,hc]
 let g1:=k _ _ hS;let ip:=dq hS;have nf:S∉fp:=λq=>by
  obtain z|z:=yY _ q
  . show DG z
  . show absurd ip (Nat.not_lt.mpr z)
 have hint:∀{Q':Bool->Shared->Prop}{E':Value->Shared->Prop},Q' M { s with heap:=h',drawn:=dr }->wpAny (model prog w) A.in1 (Builtin.List.listLengthHint (YV d)) Q' E' { s with heap:=h',drawn:=dr }:=by
  intro Q' E' q;unfold Builtin.List.listLengthHint;show al (wpAny_specialOf jf F.slot_dict_len.lookup ?_);generalize mB:("dict.__len__" : String)=sk
  wp_delta
  rw[show splitId sk=some ("dict","__len__") from by subst mB;decide +kernel];subst mB;show al (wpAny_isInstance (b:=G) jf (by rw[isSubtype_type];kernel_rfl) ?_);rw[bh (by simp)];dsimp only;rw[aE ()];show al (wpAny_typeOf jf (bv q))
 show al (wpAny_holding (hint ?_));rw[aE ()];show al (wpAny_rule (al ?_));show(show wpAny _ A.in1 (updateSeq S (·.push .none) >>= λ_=>updateSeq S (·.pop)) _ _ { s with heap:=h',drawn:=dr } from al (wpAny_updateSeq g1 O ?_));let g2:=kX (Obj.mapSeq (·.push Value.none)) g1 O;show wpAny_updateSeq g2 O ?_;let g3:=kX (Obj.mapSeq (·.pop)) g2 O;have k9:∀b o,b≠S->h'.get? b=!o->((h'.update S (Obj.mapSeq (·.push Value.none))).update S (Obj.mapSeq (·.pop))).get? b=!o:=λb o hb q=>(kU _ _ (Ne.symm hb)).trans ((kU _ _ (Ne.symm hb)).trans q);show bv #[plainId_quiet F.plain_extend_loop _,codeAny_extend_loopS W.toS gA S nf sC n 0 _ _ _ O (gz _) (W.frame 0 h' _ st λb hb o q=>k9 b o (λz=>nf (z▸hb)) q) g3 (ItemsOf.nil _) λs' acc c m g4 it=>?_];let(x1,x2,x3,x4,x5):=s';obtain rfl:x2=s.gens:=m.gens;obtain rfl:x3=dr:=m.drawn;obtain rfl:x5=s.os:=m.os;show hR x1 x3 x4 acc c (λb o hb q=>m.heap b o (λz=>?_) (k9 b o hb (k _ _ q))) g4 (hok acc it);obtain z|z:=bP.mp z
 . show hb z
 . show absurd (fT (dq q) (y0 b z)) (lP _)
def P9(hT:s.TypeIs (YV d) "dict")(hI:∀h',(∀b o,s.heap.get? b=!o->h'.get? b=!o)->Ey prog w A.in1.in1 d ok { s with heap:=h' })
 (hQ:∀h' dr tk acc c,(∀b o,s.heap.get? b=!o->h'.get? b=!o)->h'.get? s.heap.objs.size=some { cls:=.type "list",dict:=J,data:=.seq acc c,slots:=#[] }->ok acc.toList->Q (YV s.heap.objs.size) { s with heap:=h',drawn:=dr,toks:=tk }):
 wpAny (model prog w) A (call (.type "list") [YV d]) Q E s:=by
 show callType_codes (Q₁:=λobj s₁=>obj=YV s.heap.objs.size/\s₁={ s with heap:=s.heap.push { cls:=.type "list",data:=.seq #[] } }) F.called_list (F.typeCall_list_1 _) F.entry_list_init
  (code_list_new _ #[O,O]) λobj s₁ h₁=>?_
 let(rfl,rfl):=h₁;have hS:(s.heap.push { cls:=.type "list",data:=.seq #[] }).get? s.heap.objs.size=some { cls:=.type "list",data:=.seq #[] }:=ff _ O;show#[#[_,hS,O],F.args_list_init_2 _ _,?_];generalize P_: ~~~s.heap.objs=S at *;show al ?_;show al (wpAny_seqItems hS O (bv ?_));show al (wpAny_updateSeq hS O ?_);let Qb:=kX (Obj.mapSeq (λ_=>(#[]:Array Value))) hS O;have nS:∀b o,s.heap.get? b=!o->b≠S:=λb o e=>by rw[<-P_];show eR (dq e)
 have k9:∀b o,s.heap.get? b=!o->((s.heap.push { cls:=.type "list",data:=.seq #[] }).update S (Obj.mapSeq (λ_=>(#[]:Array Value)))).get? b=!o:=
  λb o e=>(kU _ _ (Ne.symm (nS b o e))).trans (d5 _ e)
 show P8 (by let(o,ho,hc):=hT;show#[o,k9 _ _ ho,hc]) (hI _ k9) .none Qb λh' dr tk acc c hk y4 hacc=>?_;show#[O,hQ h' dr tk acc c (λb o e=>hk b o (nS b o e) (k9 b o e)) y4 hacc]
end
section
variable {X:Cx}
def DH:List V->Hp->VK->Prop:=λxs H Q=>∃(a:Addr)(a_:_)(ss:List Str),xs=[.ref a]/\H a=!(.dK a_)/\a_.map (·.1)=ss.map Sum.inr/\-ss<4000/\∀l,H l=J->Q (.ref l) (bp H l (.lst (ss.map V.str)))
def Qc(hc:X.calm=G):lO X (.type "list") DH:=by
 intro ae s U H xs us Q I r h;let(a,a_,D,rfl,hq,hk,hl,q):=h;let(u,rfl,rx):=fg r;cases rx;let(z,hd,vs,rr,ob,es,ep,h1,h2,h3,h4):=I.hok a _ hq;have dd:s.heap.DictAt (fW X.prog X.w) a vs ep:=#[ob,es,h1,h2,h3,h4];have ek:vs.map (·.1)=D.map Sum.inr:=by rw[<-rr.keys];show hk
 have hv:-vs=-D:=by simpa using congrArg List.length ek
 show P9 dd.dictOf.typeIs (λh' k=>PR (by simpa using I.ok.hd hc) hd (dd.at' λo e=>k _ _ e) (by rw[sizeLine_eq];lia)) λh' dr tk acc c kp g F=>?_;let I1:=I.laid (t':=tk) kp () (show fG X.prog X.w _ h' _ (.lst (D.map V.str)) from #[by rw[ck,sizeLine_eq];lia,acc.toList,c,Ij (PU ek F.1 F.2),g]);show#[.ref s.heap.objs.size,_,I1.drew dr,O,q _ (I.hok.fresh ())]
end
def qF(κ:KeyKind)(kd:SortKind)(prog:Program)(w:World)(A:Around)(s:Shared):Prop:=
 ∀(E:Value->Shared->Prop)(x y:Value)(a b:κ.α){Q:Bool->Shared->Prop},κ.keyOf x=!a->κ.keyOf y=!b->Q (κ.blt a b) s->wpAny (model prog w) A (keyLt' kd x y) Q E s
def qF.one(h:κ.OneLt):qF κ oneType' prog w A s:=λE x y a b _ h1 h2 q=>by rw[keyLt'_oneType];show h prog w A E s x y a b h1 h2 q
noncomputable def tL:Bool->Keyed->Array Keyed->Nat->Nat->Nat->StateT SortSt Sem (Option Nat):=sortPriv% PySem.Builtin.gallop
noncomputable abbrev Lh (lf:Bool) (key:Keyed) (jv:Array Keyed) (base i:Nat):StateT SortSt Sem (Option Bool):=do
 let x <-elem' jv (base+i)
 if lf then lt' x key else return (<-lt' key x).map not
def Li(lf:Bool)(key:Keyed)(jv:Array Keyed)(base n lo hi:Nat):StateT SortSt Sem (Option Nat):=do
 let mut lo:=lo
 let mut hi:=hi
 for _ in [0:n] do
  if lo ≥ hi then break
  let m:_:=lo+(hi-lo)/2
  let some more <-Lh lf key jv base m |return J
  if more then lo:=m+1 else hi:=m
 return !hi
section
variable {prog:Program}{w:World}{A:Around}{E:Value->Shared->Prop}{s:Shared}{κ:KeyKind}{kd:SortKind}
def wC(j:qF κ kd prog w A s){st:SortSt}(hk:kindOf st=kd)(i:κ.keyOf x.1=!a)(q:κ.keyOf y.1=!b)(h:Q (!(κ.blt a b)) st):wpS (model prog w) A E s (lt' x y) Q st:=by rw[lt'_eq];show c0 (wpS_get ?_);rw[hk];show c0 (wpS_lift (wpAny_attempt (j _ x.1 y.1 a b i q #[O,?_])));show c_ h
def Uy(F:qF κ kd prog w A s){st:SortSt}{i j:Nat}(hk:kindOf st=kd)
 (hi:(arrOf st)[i]?=!(x,p)) (N:(arrOf st)[j]?=!(y,q)) (z:κ.keyOf x=!a) (D:κ.keyOf y=!b) (h:Q (!(κ.blt a b)) st):
 wpS (model prog w) A E s (ltAt' i j) Q st:=by
 show wpS _ _ _ _ (do let x <-elem' (arrOf st) i;let y <-elem' (arrOf st) j;lt' x y) Q st;rw[elem'_eq,elem'_eq,hi,N];show c0 (c_ (c0 (c_ (wC F hk z D h))))
def Lj{st:SortSt}(hi:jv[i]?=!p)(h:Q p st):wpS (model prog w) A E s (elem' jv i) Q st:=by rw[elem'_eq,hi];show c_ h
def iJ(κ:KeyKind)(lf:Bool)(a c:κ.α):Bool:=if lf=G then κ.blt c a else not (κ.blt a c)
def W6(h:κ.kle c d)(i:iJ κ lf a d=G):iJ κ lf a c=G:=by
 unfold iJ at *;cases lf
 . simp only[g7,if_false,Bool.not_eq_true']at *;show gX h i
 . show KeyOrd.klt_of_kle_of_klt h i
def El(κ:KeyKind)(jv:Array Keyed)(base n:Nat)(f:Nat->κ.α):Prop:=∀i,i<n->∃p,jv[base+i]?=!p/\κ.keyOf p.1=!(f i)
def ye(z:qF κ kd prog w A s){st:SortSt}(hk:kindOf st=kd)(j:κ.keyOf key.1=!a)(he:El κ jv base n f)(hi:i<n)(h:Q (!(iJ κ lf a (f i))) st):wpS (model prog w) A E s (Lh lf key jv base i) Q st:=by
 let(p,e,q):=he i hi;show c0 (Lj e ?_);cases lf
 . show c0 (wC z hk j q (c_ h))
 . show wC z hk q j h
def y6{l h:Nat}(i:l<h):l+(h-l)/2<h:=()
def uy(hO:qF κ kd prog w A s){st:SortSt}(hk:kindOf st=kd)(ha:κ.keyOf key.1=!a)(he:El κ jv base n f)(hs:∀i j,i<=j->j<n->κ.kle (f i) (f j))(hh:hint<n)(h:∀k,k<=n->(∀i,i<k->iJ κ lf a (f i)=G)->(∀i,k<=i->i<n->iJ κ lf a (f i)=M)->Q (!k) st):wpS (model prog w) A E s (tL lf key jv base n hint) Q st:=by
 have dn:∀i j,i<=j->j<n->iJ κ lf a (f j)=G->iJ κ lf a (f i)=G:=λi j h1 h2=>W6 (hs i j h1 h2);have up:∀i j,i<=j->j<n->iJ κ lf a (f i)=M->iJ κ lf a (f j)=M:=λi j h1 h2 N=>by
  cases hb:iJ κ lf a (f j)
  . rfl
  . rw[dn i j h1 h2 hb]at N;cases N
 show c0 (ye hO hk ha he hh ?_);have vX:∀lo hi:Nat,lo<=hi->hi<=n->(∀i,i<lo->iJ κ lf a (f i)=G)->(∀i,hi<=i->i<n->iJ κ lf a (f i)=M)->
  wpS (model prog w) A E s (Li lf key jv base n lo hi) Q st:=λlo hi h1 h2 N D=>by
  have fin:∀lo hi:Nat,lo=hi->hi<=n->(∀i,i<lo->iJ κ lf a (f i)=G)->(∀i,hi<=i->i<n->iJ κ lf a (f i)=M)->wpS (model prog w) A E s (match ((J,lo,hi):Option (Option Nat)×Nat×Nat).1 with |some r=>pure r |none=>pure (!hi)) Q st:=λlo hi e h2 N D=>by subst e;show c_ (h lo h2 N D)
  show c0 (lK (I:=λx c z=>z=st/\∃lo hi,c=(J,lo,hi)/\lo<=hi/\hi<=n/\hi+x<=lo+n/\(∀i,i<lo->iJ κ lf a (f i)=G)/\(∀i,hi<=i->i<n->iJ κ lf a (f i)=M)) ?_ ?_ #[O,lo,hi,O,h1,h2,Nat.le_trans h2 (Nat.le_add_left _ _),N,D])
  . intro x c z _ hx q0;let(rfl,lo,hi,rfl,h1,h2,hm,N,D):=q0;dsimp only;by_cases F:lo ≥ hi
    . rw[aE F];show c_ (fin lo hi (Nat.le_antisymm h1 F) h2 N D)
    . rw[bh F];let i:=y6 (Nat.lt_of_not_le F);let j:=Nat.le_add_right lo ((hi-lo)/2);generalize lo+(hi-lo)/2=m at *;clear F;let k:=Nat.lt_of_lt_of_le i h2;show c0 (ye hO hk ha he k ?_);cases hb:iJ κ lf a (f m)
      . simp only[g7,if_false];show c_ #[O,_,_,O,j,Nat.le_of_lt k,(),N,λi W h6=>up _ i W h6 hb]
      . simp only[if_true];show c_ #[O,_,_,O,i,h2,(),λi W=>dn i _ (Nat.le_of_lt_succ W) k hb,D]
  . intro c z q0;let(rfl,lo,hi,rfl,h1,h2,hm,N,D):=q0;show fin lo hi (Nat.le_antisymm h1 (Nat.le_of_add_le_add_right (Nat.le_trans (Nat.add_le_add_left (Nat.le_max_right 0 n) hi) hm))) h2 N D
 cases hr:iJ κ lf a (f hint)
 . simp only[g7,if_false];show c0 (wpS_mono (lK (Q:=λc z=>z=st/\∃last q,c=(J,last,q)/\last<q/\iJ κ lf a (f (hint-last))=M/\(hint+1<=q\/iJ κ lf a (f (hint-q))=G)) (I:=λx c z=>z=st/\∃last q,c=(J,last,q)/\last<q/\x<q/\iJ κ lf a (f (hint-last))=M) ?_ ?_ #[O,0,1,O,Nat.one_pos,Nat.one_pos,hr]) ?_)
   . intro x c z _ hx q0;let(rfl,last,q,rfl,h2,N,D):=q0;dsimp only;by_cases F:q ≥ hint+1
     . rw[aE F];show c_ #[O,last,q,O,h2,D,Zl F]
     . rw[bh F];show c0 (ye hO hk ha he (Nat.lt_of_le_of_lt (Nat.sub_le _ _) hh) ?_);cases hb:iJ κ lf a (f (hint-q))
       . simp only[g7,if_false];show c_ #[O,_,_,O,(),(),hb]
       . simp only[if_true];show c_ #[O,last,q,O,h2,D,YY hb]
   . intro c z q0;let(rfl,last,q,rfl,h2,N,D):=q0;show#[O,last,q,O,h2,D,Zl (Nat.le_trans hh (Nat.le_trans (Nat.le_max_right 0 n) (Nat.le_of_lt N)))]
   . intro c z q0;let(rfl,last,q,rfl,h2,D,W):=q0;dsimp only;let u:=Nat.sub_le hint last;have v:∀j,hint-last<=j->j<n->iJ κ lf a (f j)=M:=λi h6 h7=>up _ i h6 h7 D;by_cases hl:hint+1<=q
     . rw[Nat.min_eq_right hl,Nat.sub_self];show vX 0 _ (Nat.zero_le _) (Nat.le_of_lt (Nat.lt_of_le_of_lt u hh)) (λi hi=>absurd hi (Nat.not_lt_zero _)) v
     . let W:=W.resolve_left hl;rw[Nat.min_eq_left (Nat.le_of_not_le hl)];have z:hint+1-q=hint-q+1:=Nat.succ_sub (Nat.le_of_lt_succ (Nat.lt_of_not_le hl));rw[z];show vX _ _ ?_ (Nat.le_of_lt (Nat.lt_of_le_of_lt u hh)) (λi hi=>dn i (hint-q) (Nat.le_of_lt_succ hi) (Nat.lt_of_le_of_lt (Nat.sub_le _ _) hh) W) v
       show Nat.lt_of_not_le λg=>by rw[v _ g (Nat.lt_of_le_of_lt (Nat.sub_le _ _) hh)]at W;cases W
 . simp only[if_true];show c0 (wpS_mono (lK (Q:=λc z=>z=st/\∃last q,c=(J,last,q)/\hint+last<n/\last<q/\iJ κ lf a (f (hint+last))=G/\(n-hint<=q\/(q<n-hint/\iJ κ lf a (f (hint+q))=M))) (I:=λx c z=>z=st/\∃last q,c=(J,last,q)/\hint+last<n/\last<q/\x<q/\iJ κ lf a (f (hint+last))=G) ?_ ?_ #[O,0,1,O,hh,Nat.one_pos,Nat.one_pos,hr]) ?_)
   . intro x c z _ hx q0;let(rfl,last,q,rfl,h1,h2,N,D):=q0;dsimp only;by_cases F:q ≥ n-hint
     . rw[aE F];show c_ #[O,last,q,O,h1,h2,D,Zl F]
     . rw[bh F];let F:=Nat.lt_of_not_le F;let k:=Nat.add_lt_of_lt_sub' F;show c0 (ye hO hk ha he k ?_);cases hb:iJ κ lf a (f (hint+q))
       . simp only[Bool.not_false,if_true];show c_ #[O,last,q,O,h1,h2,D,YY #[F,hb]]
       . simp only[Bool.not_true,g7,if_false];show c_ #[O,_,_,O,k,(),(),hb]
   . intro c z q0;let(rfl,last,q,rfl,h1,h2,N,D):=q0;show#[O,last,q,O,h1,h2,D,Zl (Nat.le_trans (Nat.sub_le _ _) (Nat.le_trans (Nat.le_max_right 0 n) (Nat.le_of_lt N)))]
   . intro c z q0;let(rfl,last,q,rfl,h1,h2,D,W):=q0;dsimp only;have v:∀i,i<hint+last+1->iJ κ lf a (f i)=G:=λi hi=>dn i _ (Nat.le_of_lt_succ hi) h1 D;obtain W|⟨W,h8⟩:=W
     . rw[Nat.min_eq_right W,Nat.add_sub_cancel' (Nat.le_of_lt hh)];show vX _ n h1 (Nat.le_refl _) v λi h6 h7=>absurd h7 (Nat.not_lt_of_le h6)
     . rw[Nat.min_eq_left (Nat.le_of_lt W)];show vX _ _ (Nat.add_lt_add_left h2 _) (Nat.le_of_lt (Nat.add_lt_of_lt_sub' W)) v λi h6 h7=>up _ i h6 h7 h8
end
def DK(κ:KeyKind)(a:Array Keyed):Prop:=(a.toList.map λp=>κ.keyOf p.1).Nodup
structure Qk(kd:SortKind)(a₀:Array Keyed)(st:SortSt):Prop where
 perm:(arrOf st).Perm a₀
 kind:kindOf st=kd
 failed:failedOf st=none
 pend:pendingOf st=#[]
theorem Qk.atK{st:SortSt}(h:Qk kd a₀ st)(j:KeysOf κ a₀)(hi:i< ~~~a₀):∃x p a,(arrOf st)[i]?=!(x,p)/\κ.keyOf x=!a/\KK κ (arrOf st) i=a:=
 SBase.atK (st:=SortSt.mk' oneType' (arrOf st) (pendingOf st) 7 J) #[h.perm,O,O,h.pend] j hi
def Qk.size{st:SortSt}(h:Qk kd a₀ st): ~~~(arrOf st)= ~~~a₀:=h.perm.size_eq
structure SB(kd:SortKind)(a₀:Array Keyed)(p:Array (Nat×Nat×Nat))(lo:Nat)(xs:Array Keyed)(st:SortSt):Prop where
 perm:(arrOf st).Perm a₀
 kind:kindOf st=kd
 failed:failedOf st=none
 pend:pendingOf st=p
 low:∀i,i<lo->(arrOf st)[i]?=xs[i]?
def Sg(κ:KeyKind)(xs:Array Keyed)(lo n:Nat):Prop:=∀i j,i<=j->j<n->κ.kle (KK κ xs (lo+i)) (KK κ xs (lo+j))
section
variable {prog:Program}{w:World}{A:Around}{E:Value->Shared->Prop}{s:Shared}{κ:KeyKind}{kd:SortKind}{a₀ xs:Array Keyed}{p:Array (Nat×Nat×Nat)}{lo:Nat}{st:SortSt}
def SB.base(h:SB kd a₀ p lo xs st):Qk kd a₀ (setPending st #[]):=#[h.perm,h.kind,h.failed,O]
def SB.size(h:SB kd a₀ p lo xs st): ~~~(arrOf st)= ~~~a₀:=h.perm.size_eq
def SB.setA(h:SB kd a₀ p lo xs st)(j:ys.Perm (arrOf st))(q:∀i,i<lo->ys[i]?=(arrOf st)[i]?):SB kd a₀ p lo xs (setArr st ys):=#[j.trans h.perm,h.kind,h.failed,h.pend,λi hi=>(q i hi).trans (h.low i hi)]
def SB.ne(h:SB kd a₀ p lo xs st)(N:KeysOf κ a₀)(hd:DK κ a₀)(z:i<j)(F:j< ~~~a₀):KK κ (arrOf st) i≠KK κ (arrOf st) j:=by
 let D:=((Array.perm_iff_toList_perm.mp h.perm).map _).nodup_iff.mpr hd;let(x,q,a,e1,h1,h2):=h.base.atK N (Nat.lt_trans z F);let(y,r,b,e3,W,h4):=h.base.atK N F;rw[h2,h4];rintro rfl;have Q:((arrOf st).toList.map λp=>κ.keyOf p.1)[i]?=!(!a):=by rw[dS,fS,e1];simp[h1]
 have g2:((arrOf st).toList.map λp=>κ.keyOf p.1)[j]?=!(!a):=by rw[dS,fS,e3];simp[W]
 have:=(getElem?_inj (eM.mp Q).1 D).mp (Q.trans g2.symm);lia
def uz(hO:qF κ kd prog w A s)(D:KeysOf κ a₀)(z:SB kd a₀ p lo xs st)(hi:i< ~~~a₀)(hj:j< ~~~a₀)
 (h:Q (!(κ.blt (KK κ (arrOf st) i) (KK κ (arrOf st) j))) st):wpS (model prog w) A E s (ltAt' i j) Q st:=by
 let(x,q,a,e1,F,ka):=z.base.atK D hi;let(y,r,b,N,W,kb):=z.base.atK D hj;rw[ka,kb]at h;show Uy hO z.kind e1 N F W h
def Sg.snoc(h:Sg κ xs lo n)(h1:1<=n)(N:κ.kle (KK κ xs (lo+n-1)) (KK κ xs (lo+n))):Sg κ xs lo (n+1):=λi j q Q=>by
 by_cases D:j<n
 . show h i j q D
 . have F:j=n:=()
   subst F;by_cases z:i=j
   . subst z;show KeyOrd.kle_refl _
   . have:=h i (j-1) () ();rw[show lo+(j-1)=lo+j-1 by omega]at this;show gX this N
def DI{lo n i:Nat}(h:i<n):lo+(lo+n)-1-(lo+i)=lo+(n-1-i):=()
def R8(hO:qF κ kd prog w A s)(h0:KeysOf κ a₀)(hd:DK κ a₀)(hn:lo+nrem<= ~~~a₀)(h1:1<=nrem)(D:SB kd a₀ p lo xs st)
 (h:∀m z,SB kd a₀ p lo xs z->1<=m->m<=nrem->Sg κ (arrOf z) lo m->Q (!m) z):wpS (model prog w) A E s (countRun' lo nrem) Q st:=by
 show c0 (wpS_mono (lK (I:=λx c z=>z=st/\c=(J,x)/\Sg κ (arrOf st) lo x)
  (Q:=λc z=>z=st/\∃n,c=(J,n)/\1<=n/\ n<=nrem/\Sg κ (arrOf st) lo n/\(n=nrem\/κ.klt (KK κ (arrOf st) (lo+n)) (KK κ (arrOf st) (lo+n-1)))) ?_ ?_
  #[O,O,λi j N hj=>by have:i=j:=();subst this;show KeyOrd.kle_refl _]) ?_)
 . intro x c z W DJ q0;let(rfl,rfl,hs):=q0;show c0 (uz hO h0 D () () ?_);cases F:κ.blt (KK κ (arrOf z) (lo+x)) (KK κ (arrOf z) (lo+x-1))
   . show c_ #[O,O,hs.snoc W F]
   . show c_ #[O,x,O,W,(),hs,YY F]
 . grind
 intro c z q0;let(rfl,n,rfl,mE,vE,hs,Qr):=q0;dsimp only;by_cases DL:n=nrem
 . rw[aE (by simpa using DL)];show c_ (h n _ D mE vE hs)
 rw[bh ∅];let ip:=Qr.resolve_left DL;by_cases DM:n>1
 . rw[aE DM];show c0 (uz hO h0 D () () ?_);have:κ.blt (KK κ (arrOf z) lo) (KK κ (arrOf z) (lo+n-1))=G:=by
    cases F:κ.blt (KK κ (arrOf z) lo) (KK κ (arrOf z) (lo+n-1))
    . have:=hs 0 (n-1) (Nat.zero_le _) (Nat.sub_lt mE Nat.one_pos);rw[←Nat.add_sub_assoc mE]at this;show absurd (KeyOrd.kle_antisymm this F) (D.ne h0 hd () ())
    . rfl
   rw[this];simp only[if_true];show c_ (h n _ D mE vE hs)
 rw[bh DM];obtain rfl:n=1:=()
 show c0 (wpS_lift (wpAny_rule #[O,?_]));show c0 (wpS_mono (lK (I:=λx c q=>q=z/\c=(J,x,0)/\∀i j,i<=j->j<x->κ.kle (KK κ (arrOf z) (lo+j)) (KK κ (arrOf z) (lo+i)))
  (Q:=λc q=>q=z/\∃n,c=(J,n,0)/\1<=n/\ n<=nrem/\∀i j,i<=j->j<n->κ.kle (KK κ (arrOf z) (lo+j)) (KK κ (arrOf z) (lo+i))) ?_ ?_ #[O,O,?_]) ?_)
 . intro x c q W DJ q0;let(rfl,rfl,hs):=q0;dsimp only;show c0 (uz hO h0 D () () ?_);cases F:κ.blt (KK κ (arrOf q) (lo+x)) (KK κ (arrOf q) (lo+x-1))
   . simp only[g7,if_false];show c0 (uz hO h0 D () () ?_);have:κ.blt (KK κ (arrOf q) (lo+x-1)) (KK κ (arrOf q) (lo+x))=G:=by
      cases hc:κ.blt (KK κ (arrOf q) (lo+x-1)) (KK κ (arrOf q) (lo+x))
      . show absurd (KeyOrd.kle_antisymm F hc) (D.ne h0 hd () ())
      . rfl
     rw[this];simp only[if_true];show c_ #[O,x,O,(),(),hs]
   . simp only[if_true];rw[bh ()];show c_ #[O,O,λi j N hj=>?_];by_cases QE:j<x
     . show hs i j N QE
     . have QH:j=x:=()
       subst QH;by_cases sD:i=j
       . subst sD;show KeyOrd.kle_refl _
       . have DO:1<=j:=Nat.le_of_succ_le W;have:=hs i (j-1) () (Nat.sub_lt DO Nat.one_pos);rw[←Nat.add_sub_assoc DO]at this;show gX (hY F) this
 . intro c q q0;let(rfl,rfl,hs):=q0;rw[show max (1+1) nrem=nrem by omega]at hs ⊢;show#[O,nrem,O,h1,cK _,hs]
 . intro i j N hj;by_cases sD:i=j
   . subst sD;show KeyOrd.kle_refl _
   . obtain rfl:i=0:=()
     obtain rfl:j=1:=()
     show hY ip
 intro c q q0;let(rfl,n,rfl,mE,vE,hs):=q0;dsimp only;rw[bh ()];have gA:lo+n<= ~~~(arrOf q):=by rw[D.size];lia
 show c0 (wpS_reverse ?_);have DS:SB kd a₀ p lo xs (setArr q (mirror (arrOf q) lo (lo+n) ((lo+n-lo)/2))):=D.setA (mirror_perm _ _ _ _) λi hi=>by rw[getElem?_mirror_all gA,bh ()]
 have kD:Sg κ (arrOf (setArr q (mirror (arrOf q) lo (lo+n) ((lo+n-lo)/2)))) lo n:=λi j N hj=>by show κ.kle (KK κ (mirror (arrOf q) lo (lo+n) ((lo+n-lo)/2)) _) (KK κ (mirror (arrOf q) lo (lo+n) ((lo+n-lo)/2)) _);rw[KK_mirror gA,KK_mirror gA,aE (),aE ()];have:=hs (n-1-j) (n-1-i) (Nat.sub_le_sub_left N _) (Nat.lt_of_le_of_lt (Nat.sub_le _ _) (Nat.sub_lt mE Nat.one_pos));rw[DI (Nat.lt_of_le_of_lt N hj),DI hj];show this
 generalize setArr q (mirror (arrOf q) lo (lo+n) ((lo+n-lo)/2))=i_ at *;show c0 (wpS_mono (lK (I:=λx c z=>z=i_/\c=(J,x)/\Sg κ (arrOf i_) lo x)
  (Q:=λc z=>z=i_/\∃n,c=(J,n)/\1<=n/\ n<=nrem/\Sg κ (arrOf i_) lo n) ?_ ?_
  #[O,O,kD]) ?_)
 . intro x c z W DJ q0;let(rfl,rfl,hs):=q0;dsimp only;show c0 (uz hO h0 DS () () ?_);cases F:κ.blt (KK κ (arrOf z) (lo+x)) (KK κ (arrOf z) (lo+x-1))
   . simp only[g7,if_false];show c_ #[O,O,hs.snoc () F]
   . simp only[if_true];show c_ #[O,x,O,(),(),hs]
 . intro c z q0;let(rfl,rfl,hs):=q0;rw[show max n nrem=nrem by omega]at hs ⊢;show#[O,nrem,O,h1,cK _,hs]
 intro c z q0;let(rfl,m,rfl,y7,DT,hs):=q0;show c_ (h m _ DS y7 DT hs)
def QN{l r:Nat}(i:l<r):l<=(l+r)/2/\(l+r)/2<r:=()
def QO(hO:qF κ kd prog w A s)(h0:KeysOf κ a₀)(hn:lo+n<= ~~~a₀)(hok:ok<=n)(hB:SB kd a₀ p lo xs st)(hs:Sg κ (arrOf st) lo ok)
 (h:∀q,SB kd a₀ p lo xs q->Sg κ (arrOf q) lo n->Q G q):wpS (model prog w) A E s (binarySort' lo n ok) Q st:=by
 show c0 (wpS_mono (lK (I:=λk c q=>c=(J,Unit.unit)/\SB kd a₀ p lo xs q/\Sg κ (arrOf q) lo (min k n))
  (Q:=λc q=>c=(J,Unit.unit)/\SB kd a₀ p lo xs q/\Sg κ (arrOf q) lo n) ?step ?fin ?init) ?post)
 case post=>
  intro c q q0;let(rfl,F,D):=q0;show c_ (h q F D)
 case init=>
  show#[O,hB,λi j ke hj=>?_];by_cases h1:ok=0
  . have:i=j:=()
    subst this;show KeyOrd.kle_refl _
  . show hs i j ke ()
 case fin=>
  intro c q q0;let(hc,F,D):=q0;show#[hc,F,?_]
  grind
 case step=>
  intro k c q hak iq q0;let(rfl,F,D):=q0;rw[Nat.min_eq_left (Nat.le_of_lt iq)]at D;show c0 (wpS_mono (lK (I:=λx c z=>z=q/\∃l r,c=(J,l,r)/\l<=r/\r<=k/\r+x<=l+k/\
   (∀i,i<l->κ.kle (KK κ (arrOf q) (lo+i)) (KK κ (arrOf q) (lo+k)))/\(∀i,r<=i->i<k->κ.klt (KK κ (arrOf q) (lo+k)) (KK κ (arrOf q) (lo+i))))
   (Q:=λc z=>z=q/\∃l r,c=(J,l,r)/\l<=k/\
     (∀i,i<l->κ.kle (KK κ (arrOf q) (lo+i)) (KK κ (arrOf q) (lo+k)))/\(∀i,l<=i->i<k->κ.klt (KK κ (arrOf q) (lo+k)) (KK κ (arrOf q) (lo+i)))) ?istep ?ifin ?iinit) ?ipost)
  case iinit=>show⟨O,0,k,O,Nat.zero_le _,Nat.le_refl _,Nat.le_add_left _ _,λi hi=>absurd hi (Nat.not_lt_zero _),λi h1 h2=>absurd h2 (Nat.not_lt_of_le h1)⟩
  case ifin=>
   intro c z q0;let(rfl,l,r,rfl,y8,sF,hm,N,W):=q0;obtain rfl:l=r:=Nat.le_antisymm y8 (Nat.le_of_add_le_add_right (Nat.le_trans (Nat.add_le_add_left (Nat.le_max_right 0 k) r) hm))
   show#[O,l,l,O,sF,N,W]
  case istep=>
   intro x c z _ hxk q0;let(rfl,l,r,rfl,y8,sF,hm,N,W):=q0;dsimp only;by_cases mM:l ≥ r
   . rw[aE mM];obtain rfl:l=r:=Nat.le_antisymm y8 mM
     show c_ #[O,l,l,O,sF,N,W]
   . rw[bh mM];let(i1,i2):=QN (Nat.lt_of_not_le mM);let i3:=Nat.lt_of_lt_of_le i2 sF;let i4:=Nat.lt_of_lt_of_le (Nat.add_lt_add_left iq lo) hn;show c0 (uz hO h0 F i4 (Nat.lt_trans (Nat.add_lt_add_left i3 _) i4) ?_);generalize (l+r)/2=m at *;clear mM;cases hless:κ.blt (KK κ (arrOf z) (lo+k)) (KK κ (arrOf z) (lo+m))
     . simp only[g7,if_false];show c_ #[O,m+1,r,O,i2,sF,(),λi h1=>gX (D i m (Nat.le_of_lt_succ h1) i3) hless,W]
     . simp only[if_true];show c_ #[O,l,m,O,i1,Nat.le_of_lt i3,(),N,λi h1 h2=>KeyOrd.klt_of_klt_of_kle hless (D _ _ h1 h2)]
  case ipost=>
   intro c z q0;let(rfl,l,r,rfl,py,N,W):=q0;show wpS _ _ _ _ (do moveDown' (lo+k) (lo+l);pure (ForInStep.yield (J,Unit.unit))) _ _;rw[moveDown'_eq];have sG:lo+k< ~~~(arrOf z):=F.size.symm▸Nat.lt_of_lt_of_le (Nat.add_lt_add_left iq lo) hn
   show c0 (wpS_modify (c_ #[O,F.setA (bubble_perm _ _ _) λi hi=>?_,?_]))
   . let u:=Nat.lt_of_lt_of_le hi (Nat.le_add_right lo l);rw[getElem?_bubble sG _ (),Nat.sub_sub_self (Nat.add_le_add_left py _),bh (Nat.ne_of_lt u),bh λh=>Nat.lt_asymm u h.1]
   rw[Nat.min_eq_left iq];intro i j ke hj;show κ.kle (KK κ (bubble (arrOf z) (lo+k) (lo+k-(lo+l))) (lo+i)) (KK κ (bubble (arrOf z) (lo+k) (lo+k-(lo+l))) (lo+j));rw[KK_bubble sG (),KK_bubble sG (),Nat.sub_sub_self (Nat.add_le_add_left py _)];have sb:∀i,1<=i->lo+i-1=lo+(i-1):=λi h=>Nat.add_sub_assoc h _
   simp only[Nat.add_left_cancel_iff,Nat.add_lt_add_iff_left,Nat.add_le_add_iff_left]
   repeat' split
   all_goals first
    |(exfalso;lia)
    |show KeyOrd.kle_refl _
    |show N _ ()
    |(rw[sb _ (),sb _ ()];show D _ _ () ())
    |(rw[sb _ ()];show hY (W _ () ()))
    |(rw[sb _ ()];show D _ _ () ())
    |show D _ _ () ()
end
def DU:Array Keyed->Array Keyed->StateT SortSt Sem (Array Keyed):=sortPriv% PySem.Builtin.mergeLo
def DV:Array Keyed->Array Keyed->StateT SortSt Sem (Array Keyed):=sortPriv% PySem.Builtin.mergeHi
def f9[Decidable c]{st:U}(h:c)(k:wpS ZO A E s f Q st):wpS ZO A E s (if c then f else g) Q st:=by grind
def fJ[Decidable c]{st:U}(h:¬ c)(k:wpS ZO A E s g Q st):wpS ZO A E s (if c then f else g) Q st:=by grind
def oZ(I:Nat->β->U->Prop)(P:β->U->Prop){Q:γ->U->Prop}
 (hstep:∀B,B=f->∀i c st,a<=i->i<b->I i c st->wpS ZN A E s (B i c) (λr fB=>match r with |.done c'=>P c' fB |.yield c'=>I (i+1) c' fB) st)
 (hend:∀c st,I (max a b) c st->P c st) {st:U} (h:I a c st) (hpost:∀K,K=k->∀c st,P c st->wpS ZN A E s (K c) Q st):wpS ZN A E s (forIn [a:b] c f >>= k) Q st:=
 wpS_bind (wpS_mono (wpS_forRange I (hstep f rfl) hend h) (hpost k rfl))
def o1(h:0<n)(g:n<=m):n-1<m:=()
def o2(h:1<n)(g:n<=m):n-1<m:=()
def o3(g:n<=m):n-1<=m:=()
def o4(h:1<n)(e:¬ n-1=1):1<n-1:=()
def o5(e:¬ n-1=0):0<n-1:=()
abbrev cJ(st:SortSt)(g:Nat):SortSt:=SortSt.mk' (kindOf st) (arrOf st) (pendingOf st) g (failedOf st)
abbrev L7:=Option (Array Keyed)×Array Keyed×Nat×Nat×Nat×Nat×Nat
noncomputable def y9 (a b:Array Keyed) (m ac bc ia:Nat) (out:Array Keyed) (ib:Nat):StateT SortSt Sem (ForInStep L7):=
 elem' a ia >>= λx=>
 if ia+1+1== ~~~a then pure (.done (!(out.push x++b.extract ib b.size++a.extract (ia+1) a.size),out.push x,ia+1,ib,m,ac,bc))
 else if decide (ac<7)&&decide (bc<7) then pure (.done (J,out.push x,ia+1,ib,m,ac,bc)) else pure (.yield (J,out.push x,ia+1,ib,m,ac,bc))
def y_(a b:Array Keyed)(m ac bc ib:Nat)(out:Array Keyed)(ia:Nat):StateT SortSt Sem (ForInStep L7):=
 elem' b ib >>= λx=>
 if ib+1== ~~~b then pure (.done (!(out.push x++a.extract ia a.size++b.extract (ib+1) b.size),out.push x,ia,ib+1,m,ac,bc))
 else
  elem' a ia >>= λy=>
  tL G y b (ib+1) (~~~b-(ib+1)) 0 >>= λk=>
  match k with
  | some k=>if k>0 then (
   if ib+1+k== ~~~b then pure (.done (!(out.push x++b.extract (ib+1) (ib+1+k)++a.extract ia a.size++b.extract (ib+1+k) b.size),out.push x++b.extract (ib+1) (ib+1+k),ia,ib+1+k,m,ac,k))
   else y9 a b m ac k ia (out.push x++b.extract (ib+1) (ib+1+k)) (ib+1+k))
   else y9 a b m ac k ia (out.push x) (ib+1)
  |_=>pure (.done (!(out.push x++a.extract ia a.size++b.extract (ib+1) b.size),out.push x,ia,ib+1,m,ac,bc))
def v8(a b out:Array Keyed)(ia ib ac bc m:Nat):StateT SortSt Sem (ForInStep L7):=
 (modify λst=>cJ st m) >>= λ_=>
 elem' b ib >>= λx=>
 tL M x a ia (~~~a-ia) 0 >>= λk=>
 match k with
 | some k=>if k>0 then (
  if ia+k+1== ~~~a then pure (.done (!(out++a.extract ia (ia+k)++b.extract ib b.size++a.extract (ia+k) a.size),out++a.extract ia (ia+k),ia+k,ib,m,k,bc))
  else if ia+k== ~~~a then pure (.done (!(out++a.extract ia (ia+k)++a.extract (ia+k) a.size++b.extract ib b.size),out++a.extract ia (ia+k),ia+k,ib,m,k,bc))
  else y_ a b m k bc ib (out++a.extract ia (ia+k)) (ia+k))
  else y_ a b m k bc ib out ia
 |_=>pure (.done (!(out++a.extract ia a.size++b.extract ib b.size),out,ia,ib,m,ac,bc))
section
variable {κ:KeyKind}{kd:SortKind}
def KA(κ:KeyKind)(x:Keyed):κ.α:=(κ.keyOf x.1).getD κ.dflt
def mW(h:a[i]?=!x):KK κ a i=KA κ x:=by unfold KK KA;rw[h]
def SL(κ:KeyKind)(l:List Keyed):Prop:=l.Pairwise λx y=>κ.kle (KA κ x) (KA κ y)
structure MR(κ:KeyKind)(T l1 l2 o:List Keyed):Prop where
 perm:(o++(l1++l2)).Perm T
 s1:SL κ (o++l1)
 s2:SL κ (o++l2)
variable {T l1 l2 o:List Keyed}
def MR.swap(h:MR κ T l1 l2 o):MR κ T l2 l1 o:=#[((Perm.append_left o ky)).trans h.perm,h.s2,h.s1]
def MR.take(h:MR κ T (x++y) l2 o)(z:∀u∈x,∀v∈l2,κ.kle (KA κ u) (KA κ v)):MR κ T y l2 (o++x):=by
 let(h1,h2,q):=h;show#[by simpa using h1,by simpa [SL] using h2,?_];unfold SL at *;rw[<-d6]at h2;rw[pairwise_append]at *;show#[h2.1,q.2.1,λu i v j=>?_];obtain i|i:=dy.mp i
 . show q.2.2 u i v j
 . show z u i v j
def MR.fin(h:MR κ T l1 [] o):(o++l1).Perm T/\SL κ (o++l1):=#[by simpa using h.perm,h.s1]
def Bl(h:u∈(a.extract i k).toList):∃j,i<=j/\j<k/\j< ~~~a/\KK κ a j=KA κ u:=by
 rw[Array.toList_extract,extract_eq_take_drop]at h;let(j,q):=mem_iff_getElem?.mp h;rw[getElem?_take]at q;split at q
 . rw[getElem?_drop,fS]at q;have:=(Array.getElem?_eq_some_iff.mp q).1;show#[i+j,(),(),this,mW q]
 . cases q
def QP(h:u∈a.toList.drop i):∃j,i<=j/\j< ~~~a/\KK κ a j=KA κ u:=by let(j,q):=mem_iff_getElem?.mp h;rw[getElem?_drop,fS]at q;show#[i+j,(),(Array.getElem?_eq_some_iff.mp q).1,mW q]
def Aa{a:Array Keyed}(h:i<=k):a.toList.drop i=(a.extract i k).toList++a.toList.drop k:=by
 rw[Array.toList_extract,extract_eq_take_drop]
 conv=>lhs;rw[<-take_append_drop (k-i) (a.toList.drop i)]
 grind
def DZ{a:Array Keyed}(h:i< ~~~a):(a.extract i (i+1)).toList=[a[i]]:=by rw[Array.toList_extract,extract_eq_take_drop,oI (),show i+1-i=1 by omega];simp
abbrev RL(κ:KeyKind)(T:List Keyed)(a b out:Array Keyed)(ia ib:Nat):Prop:=MR κ T (a.toList.drop ia) (b.toList.drop ib) out.toList
variable {a b out:Array Keyed}{ia ib:Nat}
def RL.takeA(h:RL κ T a b out ia ib)(hk:ia<=k)(Q:∀i,ia<=i->i<k->i< ~~~a->∀j,ib<=j->j< ~~~b->κ.kle (KK κ a i) (KK κ b j)):RL κ T a b (out++a.extract ia k) k ib:=by unfold RL at *;rw[Aa hk]at h;rw[Array.toList_append];show h.take λu N v z=>?_;let(i,h1,h2,D,e):=Bl (κ:=κ) N;let(j,q,W,F):=QP (κ:=κ) z;rw[<-e,<-F];show Q i h1 h2 D j q W
def RL.pushA(h:RL κ T a b out ia ib)(hk:ia< ~~~a)(z:∀j,ib<=j->j< ~~~b->κ.kle (KK κ a ia) (KK κ b j)):RL κ T a b (out.push a[ia]) (ia+1) ib:=by
 have:=h.takeA (k:=ia+1) () λi h1 h2 F j D q=>(show i=ia by lia)▸z j D q;unfold RL at *;rw[Array.toList_append,DZ hk]at this
 grind
theorem RL.swap(h:RL κ T a b out ia ib):RL κ T b a out ib ia:=MR.swap h
def Rs(κ:KeyKind)(T:List Keyed)(r:Array Keyed):Prop:=r.toList.Perm T/\SL κ r.toList
def RL.done(h:RL κ T a b out ia ib)(D:ib= ~~~b)(q:ia<= ~~~a):Rs κ T (out++a.extract ia a.size++b.extract ib b.size):=by
 subst D;have:=h.takeA q λi h1 h2 N j W Q=>()
 unfold RL at this;have e:b.toList.drop b.size=[]:=by simp
 rw[e]at this;have:=this.swap.swap.fin;have z:a.toList.drop a.size=[]:=by simp
 rw[z]at this;have F:(out++a.extract ia a.size++b.extract b.size b.size).toList=(out++a.extract ia a.size).toList++[]:=by simp
 unfold Rs;rw[F];show this
def RL.last(h:RL κ T a b out ia ib)(Q:ib<= ~~~b)(F:ia<= ~~~a)(W:∀i,ia<=i->i< ~~~a->∀j,ib<=j->j< ~~~b->κ.kle (KK κ b j) (KK κ a i)):Rs κ T (out++b.extract ib b.size++a.extract ia a.size):=by
 let h1:=(h.swap.takeA Q λi h1 h2 q j D z=>W j D z i h1 q);have:=RL.takeA (RL.swap h1) F λi h1 h2 q j D z=>()
 unfold RL at this;have e:b.toList.drop b.size=[]:=by simp
 have N:a.toList.drop a.size=[]:=by simp
 rw[e,N]at this;have:=this.fin;rw[eJ]at this;show this
variable {prog:Program}{w:World}{A:Around}{E:Value->Shared->Prop}{s:Shared}{st:SortSt}
def gD(hi:i< ~~~a)(h:Q a[i] st):wpS (model prog w) A E s (elem' a i) Q st:=Lj (kr a i hi) h
def kZ(j:KeysOf κ a)(hi:i< ~~~a):κ.keyOf (a[i]).1=!(KK κ a i):=by let(x,q):=j a[i] (by simp);rw[mW (kr a i hi)];unfold KA;grind
def J8(q:KeysOf κ a)(i n:Nat)(h:i+n<= ~~~a):El κ a i n λj=>KK κ a (i+j):=λj z=>#[a[i+j],kr a _ (),kZ q ()]
section
def RL.lst(z:∀i j,i<=j->j< ~~~b->κ.kle (KK κ b i) (KK κ b j))(h2:κ.klt (KK κ b (~~~b-1)) (KK κ a (~~~a-1)))(r:RL κ T a b out ia ib)(W:ia+1= ~~~a)(q:ib<= ~~~b):Rs κ T (out++b.extract ib b.size++a.extract ia a.size):=r.last q () λi D Q j N F=>by
 obtain rfl:i= ~~~a-1:=()
 show gX (z j (~~~b-1) () ()) (hY h2)
def RL.psA(z:∀i j,i<=j->j< ~~~b->κ.kle (KK κ b i) (KK κ b j))(r:RL κ T a b out ia ib)(hi:ia< ~~~a)(l:ib< ~~~b->κ.kle (KK κ a ia) (KK κ b ib)):RL κ T a b (out.push a[ia]) (ia+1) ib:=r.pushA hi λj q D=>gX (l ()) (z _ _ q D)
def RL.psB(q:∀i j,i<=j->j< ~~~a->κ.kle (KK κ a i) (KK κ a j))(r:RL κ T a b out ia ib)(hi:ib< ~~~b)(l:ia< ~~~a->κ.kle (KK κ b ib) (KK κ a ia)):RL κ T a b (out.push b[ib]) ia (ib+1):=(r.swap.pushA hi λj z D=>gX (l ()) (q _ _ z D)).swap
section
variable {U V W Y:Type}{G_:U->V->W->Nat->Prop}{T:List Keyed}{c:Option (Array Keyed)×U×V×W×Y}{q:SortSt}{x y:Nat}
abbrev k_(G_:U->V->W->Nat->Prop)(st:SortSt)(x:Nat)(c:Option (Array Keyed)×U×V×W×Y)(q:SortSt):Prop:=(∃g,q=cJ st g)/\∃i j k e,c=(J,i,j,k,e)/\G_ i j k x
abbrev lg(κ:KeyKind)(T:List Keyed)(G_:U->V->W->Nat->Prop)(st:SortSt)(x:Nat)(c:Option (Array Keyed)×U×V×W×Y)(q:SortSt):Prop:=(∃g,q=cJ st g)/\((∃r d,c=(!r,d)/\Rs κ T r)\/∃i j k e,c=(J,i,j,k,e)/\G_ i j k x)
abbrev gK(κ:KeyKind)(a:Array Keyed):Prop:=∀i j,i<=j->j< ~~~a->κ.kle (KK κ a i) (KK κ a j)
def f7{P:Option (Array Keyed)×U×V×W×Y->SortSt->Prop}(h:k_ G_ st x c q)(k:∀g i j k e,G_ i j k x->P (J,i,j,k,e) (cJ st g)):P c q:=by let((g,rfl),_,_,_,_,rfl,h):=h;show k _ _ _ _ _ h
def kf{P:Option (Array Keyed)×U×V×W×Y->SortSt->Prop}(h:lg κ T G_ st x c q)(i:∀g r d,Rs κ T r->P (!r,d) (cJ st g))(k:∀g i j k e,G_ i j k x->P (J,i,j,k,e) (cJ st g)):P c q:=by obtain⟨g,⟨r,d,rfl,h⟩|h⟩:=h;(let(g,rfl):=g;show i _ _ _ h);show f7 #[g,h] k
def sI(h:lg κ T G_ st x c q)(l:∀{i j k},G_ i j k x->G_ i j k y):lg κ T G_ st y c q:=kf h (λg r d h=>#[#[g,O],Zl #[r,d,O,h]]) λg i j k e h=>#[#[g,O],YY #[i,j,k,e,O,l h]]
end
structure gk(κ:KeyKind)(a b out:Array Keyed)(ia ib x:Nat):Prop where
 r:RL κ (a.toList++b.toList) a b out ia ib
 e:ia+1< ~~~a
 f:ib< ~~~b
 x:x<=ia+ib
section
variable {x:Nat}
def gk.i(h:gk κ a b out ia ib x):ia< ~~~a:=Nat.lt_of_succ_lt h.e
def gk.no(h:gk κ a b out ia ib x)(g: ~~~a+ ~~~b<=x):False:=Nat.not_le_of_lt (Nat.add_lt_add h.i h.f) (Nat.le_trans g h.x)
def gk.rA(h:gk κ a b out ia ib x)(z:gK κ b)(l:κ.kle (KK κ a ia) (KK κ b ib)):RL κ (a.toList++b.toList) a b (out.push (a[ia]'h.i)) (ia+1) ib:=h.r.psA z h.i λ_=>l
def gk.rB(h:gk κ a b out ia ib x)(z:gK κ a)(l:κ.kle (KK κ b ib) (KK κ a ia)):RL κ (a.toList++b.toList) a b (out.push (b[ib]'h.f)) ia (ib+1):=h.r.psB z h.f λ_=>l
def gk.sA(h:gk κ a b out ia ib x)(z:gK κ b)(l:κ.kle (KK κ a ia) (KK κ b ib))(e:¬ia+1+1= ~~~a):gk κ a b (out.push (a[ia]'h.i)) (ia+1) ib (x+1):=#[h.rA z l,Nat.lt_of_le_of_ne h.e e,h.f,Nat.add_right_comm ia 1 ib▸Nat.succ_le_succ h.x]
def gk.sB(h:gk κ a b out ia ib x)(z:gK κ a)(l:κ.kle (KK κ b ib) (KK κ a ia))(e:¬ib+1= ~~~b):gk κ a b (out.push (b[ib]'h.f)) ia (ib+1) (x+1):=#[h.rB z l,h.e,Nat.lt_of_le_of_ne h.f e,Nat.succ_le_succ h.x]
end
def LQ(κ:KeyKind)(a b:Array Keyed)(st:SortSt)(x:Nat):ForInStep L7->SortSt->Prop
 |.done c,q=>lg κ (a.toList++b.toList) (gk κ a b) st x c q
 |.yield c,q=>k_ (gk κ a b) st x c q
def Ql(D:gK κ b)(h2:κ.klt (KK κ b (~~~b-1)) (KK κ a (~~~a-1)))(q:∃g,fB=cJ st g)(h:gk κ a b out ia ib x)(l:κ.kle (KK κ a ia) (KK κ b ib)):wpS (model prog w) A E s (y9 a b m ac bc ia out ib) (LQ κ a b st (x+1)) fB:=by
 show c0 (gD h.i ?_);by_cases e:ia+1+1= ~~~a
 . show f9 ∅ (c_ #[q,Zl #[_,_,O,(h.rA D l).lst D h2 e (Nat.le_of_lt h.f)]])
 show fJ ∅ ?_;split
 . show c_ #[q,YY #[_,_,_,_,O,h.sA D l e]]
 . show c_ #[q,_,_,_,_,O,h.sA D l e]
def Qm(sa:gK κ a)(sb:gK κ b)(h2:κ.klt (KK κ b (~~~b-1)) (KK κ a (~~~a-1)))(z:∃g,fB=cJ st g)(hO:qF κ kd prog w A s)(hk:kindOf fB=kd)(ka:KeysOf κ a)(kb:KeysOf κ b)(h:gk κ a b out ia ib x)(l:κ.kle (KK κ b ib) (KK κ a ia)):wpS (model prog w) A E s (y_ a b m ac bc ib out ia) (LQ κ a b st (x+1)) fB:=by
 show c0 (gD h.f ?_);let W:=h.rB sa l;by_cases e:ib+1= ~~~b
 . show f9 ∅ (c_ #[z,Zl #[_,_,O,W.done e (Nat.le_of_lt h.i)]])
 have hb:ib+1< ~~~b:=Nat.lt_of_le_of_ne h.f e;have hz:ib+1+(~~~b-(ib+1))= ~~~b:=Nat.add_sub_cancel' h.f
 show fJ ∅ ?_;show c0 (gD h.i (c0 (uy hO hk (kZ ka h.i) (J8 kb (ib+1) (~~~b-(ib+1)) (Nat.le_of_eq hz)) (λi j h5 h6=>sb _ _ (Nat.add_le_add_left h5 _) (Nat.lt_of_lt_of_eq (Nat.add_lt_add_left h6 _) hz)) (Nat.sub_pos_of_lt hb) λk iq h5 h6=>?_)))
 have hn:ib+1+k<= ~~~b:=hz▸Nat.add_le_add_left iq _
 have Q:∀j,ib+1<=j->j<ib+1+k->κ.klt (KK κ b j) (KK κ a ia):=λj D h8=>by let(j,rfl):=Nat.exists_eq_add_of_le D;show h5 j (Nat.lt_of_add_lt_add_left h8)
 have q:ib+1+k< ~~~b->κ.kle (KK κ a ia) (KK κ b (ib+1+k)):=λD=>h6 _ (Nat.le_refl _) (Nat.lt_sub_of_add_lt (Nat.add_comm _ _▸D))
 by_cases h0:k>0
 . show f9 h0 ?_;let r3:=(W.swap.takeA (Nat.le_add_right _ _) λi D h8 h9 j N F=>gX (hY (Q i D h8)) (sa _ _ N F)).swap;by_cases e:ib+1+k= ~~~b
   . show f9 ∅ (c_ #[z,Zl #[_,_,O,r3.done e (Nat.le_of_lt h.i)]])
   let u:=Nat.lt_of_le_of_ne hn e;show fJ ∅ (Ql sb h2 z #[r3,h.e,u,Nat.le_trans h.x (Nat.add_le_add_left (Nat.le_trans (Nat.le_succ _) (Nat.le_add_right _ _)) _)] (q u))
 . obtain rfl:k=0:=Nat.eq_zero_of_not_pos h0
   show Ql sb h2 z #[W,h.e,hb,Nat.le_succ_of_le h.x] (q hb)
def QU(W:gK κ a)(N:gK κ b)(h2:κ.klt (KK κ b (~~~b-1)) (KK κ a (~~~a-1)))(hg:∃g,fB=cJ st g)(hO:qF κ kd prog w A s)(hk:kindOf fB=kd)(ka:KeysOf κ a)(kb:KeysOf κ b)(h:gk κ a b out ia ib x):wpS (model prog w) A E s (v8 a b out ia ib ac bc m) (LQ κ a b st (x+1)) fB:=by
 show c0 (wpS_modify ?_);have q:∃g,cJ fB m=cJ st g:=by let(g,rfl):=hg;show#[m,O]
 have hz:ia+(~~~a-ia)= ~~~a:=Nat.add_sub_cancel' (Nat.le_of_lt h.i)
 show c0 (gD h.f (c0 (uy hO hk (kZ kb h.f) (J8 ka ia (~~~a-ia) (Nat.le_of_eq hz)) (λi j h5 h6=>W _ _ (Nat.add_le_add_left h5 _) (Nat.lt_of_lt_of_eq (Nat.add_lt_add_left h6 _) hz)) (Nat.sub_pos_of_lt h.i) λk iq h5 h6=>?_)))
 have F:∀j,ia<=j->j<ia+k->κ.kle (KK κ a j) (KK κ b ib):=λj D h8=>by let(j,rfl):=Nat.exists_eq_add_of_le D;have:=h5 j (Nat.lt_of_add_lt_add_left h8);unfold iJ at this;show(by simpa using this:κ.blt (KK κ b ib) (KK κ a (ia+j))=M)
 have ip:ia+k< ~~~a:=Nat.lt_of_not_le λD=>by
  let i:=Nat.sub_lt (Nat.lt_of_le_of_lt (Nat.zero_le _) h.i) Nat.one_pos;let j:=Nat.sub_lt (Nat.lt_of_le_of_lt (Nat.zero_le _) h.f) Nat.one_pos;have:=KeyOrd.klt_of_kle_of_klt (gX (F (~~~a-1) (Nat.le_sub_one_of_lt h.i) (Nat.lt_of_lt_of_le i D)) (N ib (~~~b-1) (Nat.le_sub_one_of_lt h.f) j)) h2;unfold KeyOrd.klt at this;rw[KeyOrd.irrefl]at this;cases this
 have z:κ.kle (KK κ b ib) (KK κ a (ia+k)):=by have:=h6 k (Nat.le_refl _) (Nat.lt_sub_of_add_lt (Nat.add_comm _ _▸ip));unfold iJ at this;show hY (by simpa using this:κ.blt (KK κ b ib) (KK κ a (ia+k))=G)
 by_cases h0:k>0
 . show f9 h0 ?_;let r3:=h.r.takeA (Nat.le_add_right _ _) λi D h8 h9 j iN zd=>gX (F i D h8) (N _ _ iN zd);by_cases e:ia+k+1= ~~~a
   . show f9 ∅ (c_ #[q,Zl #[_,_,O,r3.lst N h2 e (Nat.le_of_lt h.f)]])
   show fJ ∅ (fJ ∅ (Qm W N h2 q hO hk ka kb #[r3,Nat.lt_of_le_of_ne ip e,h.f,Nat.le_trans h.x (Nat.add_le_add_right (Nat.le_add_right _ _) _)] z))
 . obtain rfl:k=0:=Nat.eq_zero_of_not_pos h0
   show Qm W N h2 q hO hk ka kb h z
end
def QY(hO:qF κ kd prog w A s)(hk:kindOf st=kd)(ka:KeysOf κ a)(kb:KeysOf κ b)(sa:gK κ a)(sb:gK κ b)(ha:1<= ~~~a)(hb:1<= ~~~b)(h1:κ.klt (KK κ b 0) (KK κ a 0))(h2:κ.klt (KK κ b (~~~b-1)) (KK κ a (~~~a-1)))(h:∀r g,Rs κ (a.toList++b.toList) r->Q r (cJ st g)):wpS (model prog w) A E s (DU a b) Q st:=by
 show c0 (wpS_lift (wpAny_rule #[O,?_]));show c0 (gD hb ?_);have sK:∀{a:Array Keyed},(gK κ a)->SL κ a.toList:=λ{a} sa=>by
  show pairwise_iff_getElem.mpr λi j F z N=>?_;have:=sa i j (Nat.le_of_lt N) z
  rwa [mW (kr a i F),mW (kr a j z)]at this
 let r0:=RL.psB (T:=a.toList++b.toList) (out:=#[]) (ia:=0) (ib:=0) sa (by let i:=sK sa;let j:=sK sb;show#[Perm.refl _,i,j]) hb λ_=>hY h1
 by_cases k7:1= ~~~b
 . show f9 (by simpa using k7) (c_ (h _ (gallopOf st) (r0.done k7 (Nat.zero_le _))))
 show fJ ∅ ?_;by_cases mN:0+1= ~~~a
 . show f9 (by simpa using mN) (c_ (h _ (gallopOf st) (r0.lst sb h2 mN hb)))
 show fJ (by simpa using mN) ?_;show c0 (wpS_get ?_);show oZ (k_ (gk κ a b) st) (λc q=>(∃g,q=cJ st g)/\∃r d,c=(!r,d)/\Rs κ (a.toList++b.toList) r) (λB hB x c q _ _ u=>?_) (λc q u=>(f7 (P:=λ_ _=>False) u λ_ _ _ _ _ u=>u.no (Nat.le_max_right _ _)).elim) #[#[gallopOf st,O],_,_,_,_,O,r0,Nat.lt_of_le_of_ne ha mN,Nat.lt_of_le_of_ne hb k7,Nat.zero_le _] (λK hK c q u=>?_)
 rotate_left
 . let((g,rfl),r,d,rfl,u):=u;subst hK;show c_ (h r g u)
 apply f7 u;intro g out ia ib m u;subst hB;show oZ (λy=>k_ (gk κ a b) st (x+y)) (lg κ (a.toList++b.toList) (gk κ a b) st (x+1)) (λB hB y c q _ _ u=>?_) (λc q u=>(f7 (P:=λ_ _=>False) u λ_ _ _ _ _ u=>u.no (Nat.le_trans (Nat.le_max_right _ _) (Nat.le_add_left _ _))).elim) #[#[g,O],_,_,_,_,O,u] (λK hK c q u=>?_)
 . apply f7 u;intro g out ia ib e u;subst hB;dsimp only;show c0 (gD u.f (c0 (gD u.i ?_)));show c0 (wC hO hk (kZ kb u.f) (kZ ka u.i) ?_);dsimp only;have z:∀{i j k},gk κ a b i j k (x+y+1)->gk κ a b i j k (x+1):=λu=>#[u.r,u.e,u.f,Nat.le_trans (Nat.succ_le_succ (Nat.le_add_right _ _)) u.x];cases hl:κ.blt (KK κ b ib) (KK κ a ia)
   . show fJ oz ?_;show c0 (gD u.i ?_);by_cases e:ia+1+1= ~~~a
     . show f9 (by simpa using e) (c_ #[#[_,O],Zl #[_,_,O,(u.rA sb hl).lst sb h2 e (Nat.le_of_lt u.f)]])
     show fJ (by simpa using e) ?_;split
     . show c_ #[#[_,O],YY #[_,_,_,_,O,z (u.sA sb hl e)]]
     . show c_ #[#[_,O],_,_,_,_,O,u.sA sb hl e]
   . show f9 O ?_;show c0 (gD u.f ?_);by_cases e:ib+1= ~~~b
     . show f9 (by simpa using e) (c_ #[#[_,O],Zl #[_,_,O,(u.rB sa (hY hl)).done e (Nat.le_of_lt u.i)]])
     show fJ (by simpa using e) ?_;split
     . show c_ #[#[_,O],YY #[_,_,_,_,O,z (u.sB sa (hY hl) e)]]
     . show c_ #[#[_,O],_,_,_,_,O,u.sB sa (hY hl) e]
 apply kf u
 . intro g r d u;subst hK;show c_ #[#[g,O],r,_,O,u]
 intro g out ia ib e u;subst hK;dsimp only;show c0 (wpS_lift (wpAny_rule #[O,?_]));show oZ (λy=>k_ (gk κ a b) st (x+1+y)) (lg κ (a.toList++b.toList) (gk κ a b) st (x+1)) (λB hB y c q _ _ u=>?_) (λc q u=>(f7 (P:=λ_ _=>False) u λ_ _ _ _ _ u=>u.no (Nat.le_trans (Nat.le_max_right _ _) (Nat.le_add_left _ _))).elim) #[#[g,O],_,_,_,_,O,u] (λK hK c q u=>?_)
 . apply f7 u;intro g out ia ib e u;subst hB;let(m,ac,bc):=e;have z:∀m,wpS (model prog w) A E s (v8 a b out ia ib ac bc m) (LQ κ a b st (x+1+y+1)) (cJ st g):=λm=>QU sa sb h2 #[g,O] hO hk ka kb u;show wpS (model prog w) A E s (if m>1 then v8 a b out ia ib ac bc (m-1) else v8 a b out ia ib ac bc m) _ (cJ st g);split<;>show wpS_mono (z _) λr q u=>?_
   all_goals
    cases r with
    |done c=>show sI u λu=>#[u.r,u.e,u.f,Nat.le_trans (Nat.le_succ_of_le (Nat.le_add_right _ _)) u.x]
    |yield c=>show u
 apply kf u
 . intro g r d u;subst hK;show c_ #[#[g,O],r,_,O,u]
 . intro g out ia ib e u;subst hK;show c0 (wpS_modify (c_ #[#[_,O],_,_,_,_,O,u]))
end
abbrev H7:=Option (Array Keyed)×Nat×Nat×Array Keyed×Nat×Nat×Nat
noncomputable def ze (a b:Array Keyed) (m ac bc na nb:Nat) (out:Array Keyed):StateT SortSt Sem (ForInStep H7):=
 elem' a (na-1) >>= λx=>
 if na-1==0 then pure (.done (!(a.extract 0 (na-1)++b.extract 0 nb++(out.push x).reverse),na-1,nb,out.push x,m,ac,bc))
 else if decide (ac<7)&&decide (bc<7) then pure (.done (J,na-1,nb,out.push x,m,ac,bc)) else pure (.yield (J,na-1,nb,out.push x,m,ac,bc))
def Uz(a b:Array Keyed)(m ac bc nb na:Nat)(out:Array Keyed):StateT SortSt Sem (ForInStep H7):=
 elem' b (nb-1) >>= λx=>
 if nb-1==1 then pure (.done (!(b.extract 0 (nb-1)++a.extract 0 na++(out.push x).reverse),na,nb-1,out.push x,m,ac,bc))
 else
  elem' a (na-1) >>= λy=>
  tL G y b 0 (nb-1) (nb-1-1) >>= λk=>
  match k with
  | some k=>if nb-1-k>0 then (
   if k==1 then pure (.done (!(b.extract 0 k++a.extract 0 na++(out.push x++(b.extract k (nb-1)).reverse).reverse),na,k,out.push x++(b.extract k (nb-1)).reverse,m,ac,nb-1-k))
   else if k==0 then pure (.done (!(a.extract 0 na++b.extract 0 k++(out.push x++(b.extract k (nb-1)).reverse).reverse),na,k,out.push x++(b.extract k (nb-1)).reverse,m,ac,nb-1-k))
   else ze a b m ac (nb-1-k) na k (out.push x++(b.extract k (nb-1)).reverse))
   else ze a b m ac (nb-1-k) na (nb-1) (out.push x)
  |_=>pure (.done (!(a.extract 0 na++b.extract 0 (nb-1)++(out.push x).reverse),na,nb-1,out.push x,m,ac,bc))
def v9(a b out:Array Keyed)(na nb ac bc m:Nat):StateT SortSt Sem (ForInStep H7):=
 (modify λst=>cJ st m) >>= λ_=>
 elem' b (nb-1) >>= λx=>
 tL M x a 0 na (na-1) >>= λk=>
 match k with
 | some k=>if na-k>0 then (
  if k==0 then pure (.done (!(a.extract 0 k++b.extract 0 nb++(out++(a.extract k na).reverse).reverse),k,nb,out++(a.extract k na).reverse,m,na-k,bc))
  else Uz a b m (na-k) bc nb k (out++(a.extract k na).reverse))
  else Uz a b m (na-k) bc nb na out
 |_=>pure (.done (!(a.extract 0 na++b.extract 0 nb++out.reverse),na,nb,out,m,ac,bc))
section
variable {κ:KeyKind}{kd:SortKind}
structure MH(κ:KeyKind)(T l1 l2 o:List Keyed):Prop where
 perm:(l1++l2++o).Perm T
 s1:SL κ (l1++o)
 s2:SL κ (l2++o)
variable {T l1 l2 o:List Keyed}
def MH.swap(h:MH κ T l1 l2 o):MH κ T l2 l1 o:=#[((Perm.append_right o ky)).trans h.perm,h.s2,h.s1]
def MH.take(h:MH κ T (y++x) l2 o)(z:∀u∈x,∀v∈l2,κ.kle (KA κ v) (KA κ u)):MH κ T y l2 (x++o):=by
 let(h1,h2,j):=h;show#[?_,by simpa [SL] using h2,?_]
 . show Perm.trans ?_ h1;rw[<-d6];show Perm.append_right o ?_;rw[d6,d6];show Perm.append_left y ky
 unfold SL at *;rw[d6]at h2;rw[pairwise_append]at *;show#[j.1,h2.2.1,λu q v i=>?_];obtain i|i:=dy.mp i
 . show z v i u q
 . show j.2.2 u q v i
def Q1(h:u∈a.toList.take n):∃j,j<n/\j< ~~~a/\KK κ a j=KA κ u:=by
 let(j,i):=mem_iff_getElem?.mp h;rw[getElem?_take]at i;split at i
 . rw[fS]at i;show#[j,(),(Array.getElem?_eq_some_iff.mp i).1,mW i]
 . cases i
def W8{a:Array Keyed}(h:k<=n):a.toList.take n=a.toList.take k++(a.extract k n).toList:=by
 rw[Array.toList_extract,extract_eq_take_drop]
 conv=>lhs;rw[show n=k+(n-k) by omega]
 show take_add ..
abbrev RH(κ:KeyKind)(T:List Keyed)(a b out:Array Keyed)(na nb:Nat):Prop:=MH κ T (a.toList.take na) (b.toList.take nb) out.reverse.toList
variable {a b out:Array Keyed}{na nb:Nat}
theorem RH.swap(h:RH κ T a b out na nb):RH κ T b a out nb na:=MH.swap h
def RH.takeA(h:RH κ T a b out na nb)(hk:k<=na)(Q:∀i,k<=i->i<na->i< ~~~a->∀j,j<nb->j< ~~~b->κ.kle (KK κ b j) (KK κ a i)):RH κ T a b (out++(a.extract k na).reverse) k nb:=by
 unfold RH at *;rw[W8 hk]at h;have e:(out++(a.extract k na).reverse).reverse.toList=(a.extract k na).toList++out.reverse.toList:=by simp
 rw[e];show h.take λu N v z=>?_;let(i,h1,h2,D,e):=Bl (κ:=κ) N;let(j,q,W,F):=Q1 (κ:=κ) z;rw[<-e,<-F];show Q i h1 h2 D j q W
def RH.pushA(h:RH κ T a b out na nb)(Q:0<na)(hk:na-1< ~~~a)(D:∀j,j<nb->j< ~~~b->κ.kle (KK κ b j) (KK κ a (na-1))):RH κ T a b (out.push a[na-1]) (na-1) nb:=by
 have:=h.takeA (k:=na-1) () λi h1 h2 N j F z=>(show i=na-1 by lia)▸D j F z;have e:(out++(a.extract (na-1) na).reverse).reverse.toList=(out.push a[na-1]).reverse.toList:=by let q:=DZ hk;rw[show na-1+1=na by omega]at q;simp only[Array.toList_append,q,Array.toList_reverse,Array.toList_push,reverse_cons,reverse_nil,kT]
 unfold RH at *
 rwa [e]at this
def UG(q:KeysOf κ a)(h:n<= ~~~a):El κ a 0 n λj=>KK κ a j:=λj z=>#[a[j],by rw[iX];show kr a _ (),kZ q ()]
def Lk(a:Array Keyed):a.toList.take a.size=a.toList:=rL ()
def UJ(a:Array Keyed)(n:Nat):(a.extract 0 n).toList=a.toList.take n:=by simp
def RH.done(h:RH κ T a b out na nb)(j:na=0):Rs κ T (a.extract 0 na++b.extract 0 nb++out.reverse):=by subst j;unfold Rs;rw[Array.toList_append,Array.toList_append,UJ,UJ,List.take_zero,kT];show#[by simpa using h.perm,h.s2]
def RH.first(h:RH κ T a b out na nb)(D:∀i,i<nb->i< ~~~b->∀j,j<na->j< ~~~a->κ.kle (KK κ b i) (KK κ a j)):Rs κ T (b.extract 0 nb++a.extract 0 na++out.reverse):=by
 let h1:=h.takeA () λi h1 h2 q j F z=>D j F z i h2 q;have:=h1.done O;have e:(a.extract 0 0++b.extract 0 nb++(out++(a.extract 0 na).reverse).reverse).toList=(b.extract 0 nb++a.extract 0 na++out.reverse).toList:=by simp
 unfold Rs at *
 rwa [e]at this
variable {prog:Program}{w:World}{A:Around}{E:Value->Shared->Prop}{s:Shared}{st:SortSt}
section
def RH.fst(q:∀i j,i<=j->j< ~~~a->κ.kle (KK κ a i) (KK κ a j))(h1:κ.klt (KK κ b 0) (KK κ a 0))(r:RH κ T a b out na nb)(F:nb<=1):Rs κ T (b.extract 0 nb++a.extract 0 na++out.reverse):=r.first λi W N j D z=>by
 obtain rfl:i=0:=()
 show gX (hY h1) (q 0 j () z)
def RH.psA(z:∀i j,i<=j->j< ~~~b->κ.kle (KK κ b i) (KK κ b j))(r:RH κ T a b out na nb)(q:0<na)(hi:na-1< ~~~a)(D:nb<= ~~~b)(l:0<nb->κ.kle (KK κ b (nb-1)) (KK κ a (na-1))):RH κ T a b (out.push a[na-1]) (na-1) nb:=r.pushA q hi λj N F=>gX (z j (nb-1) () ()) (l ())
def RH.psB(q:∀i j,i<=j->j< ~~~a->κ.kle (KK κ a i) (KK κ a j))(r:RH κ T a b out na nb)(z:0<nb)(hi:nb-1< ~~~b)(D:na<= ~~~a)(l:0<na->κ.kle (KK κ a (na-1)) (KK κ b (nb-1))):RH κ T a b (out.push b[nb-1]) na (nb-1):=(r.swap.pushA z hi λj N F=>gX (q j (na-1) () ()) (l ())).swap
structure gm(κ:KeyKind)(a b:Array Keyed)(na nb:Nat)(out:Array Keyed)(x:Nat):Prop where
 r:RH κ (a.toList++b.toList) a b out na nb
 i:0<na
 e:na<= ~~~a
 j:1<nb
 f:nb<= ~~~b
 x:na+nb+x<= ~~~a+ ~~~b
def D0{n m x S:Nat}(i:0<n)(h:n+m+x<=S):n-1+m+(x+1)<=S:=by
 cases n with
 |zero=>cases i
 |succ n=>rw[Nat.add_sub_cancel];lia
section
variable {x y:Nat}
def gm.le(h:gm κ a b na nb out x)(g:y<=x):gm κ a b na nb out y:=#[h.r,h.i,h.e,h.j,h.f,Nat.le_trans (Nat.add_le_add_left g _) h.x]
def gm.no(h:gm κ a b na nb out x)(g: ~~~a+ ~~~b<=x):False:=by have:=h.x;have:=h.i;lia
def gm.rA(h:gm κ a b na nb out x)(W:gK κ b)(l:κ.kle (KK κ b (nb-1)) (KK κ a (na-1))):RH κ (a.toList++b.toList) a b (out.push (a[na-1]'(o1 h.i h.e))) (na-1) nb:=h.r.psA W h.i (o1 h.i h.e) h.f λ_=>l
def gm.rB(h:gm κ a b na nb out x)(W:gK κ a)(l:κ.kle (KK κ a (na-1)) (KK κ b (nb-1))):RH κ (a.toList++b.toList) a b (out.push (b[nb-1]'(o2 h.j h.f))) na (nb-1):=h.r.psB W (Nat.lt_trans Nat.zero_lt_one h.j) (o2 h.j h.f) h.e λ_=>l
def gm.sA(h:gm κ a b na nb out x)(W:gK κ b)(l:κ.kle (KK κ b (nb-1)) (KK κ a (na-1)))(e:¬na-1=0):gm κ a b (na-1) nb (out.push (a[na-1]'(o1 h.i h.e))) (x+1):=#[h.rA W l,o5 e,o3 h.e,h.j,h.f,D0 h.i h.x]
def gm.sB(h:gm κ a b na nb out x)(W:gK κ a)(l:κ.kle (KK κ a (na-1)) (KK κ b (nb-1)))(e:¬nb-1=1):gm κ a b na (nb-1) (out.push (b[nb-1]'(o2 h.j h.f))) (x+1):=#[h.rB W l,h.i,h.e,o4 h.j e,o3 h.f,by have:=D0 (m:=na) (Nat.lt_trans Nat.zero_lt_one h.j) (Nat.add_comm na nb▸h.x);rwa[Nat.add_comm na]]
end
def HQ(κ:KeyKind)(a b:Array Keyed)(st:SortSt)(x:Nat):ForInStep H7->SortSt->Prop
 |.done c,q=>lg κ (a.toList++b.toList) (gm κ a b) st x c q
 |.yield c,q=>k_ (gm κ a b) st x c q
def Qn(W:gK κ b)(D:∃g,fB=cJ st g)(h:gm κ a b na nb out x)(l:κ.kle (KK κ b (nb-1)) (KK κ a (na-1))):wpS (model prog w) A E s (ze a b m ac bc na nb out) (HQ κ a b st (x+1)) fB:=by
 show c0 (gD (o1 h.i h.e) ?_);by_cases e:na-1=0
 . show f9 ∅ (c_ #[D,Zl #[_,_,O,(h.rA W l).done e]])
 show fJ ∅ ?_;split
 . show c_ #[D,YY #[_,_,_,_,O,h.sA W l e]]
 . show c_ #[D,_,_,_,_,O,h.sA W l e]
def Qo(N:gK κ a)(sb:gK κ b)(h1:κ.klt (KK κ b 0) (KK κ a 0))(W:∃g,fB=cJ st g)(hO:qF κ kd prog w A s)(hk:kindOf fB=kd)(ka:KeysOf κ a)(kb:KeysOf κ b)(h:gm κ a b na nb out x)(l:κ.kle (KK κ a (na-1)) (KK κ b (nb-1))):wpS (model prog w) A E s (Uz a b m ac bc nb na out) (HQ κ a b st (x+1)) fB:=by
 show c0 (gD (o2 h.j h.f) ?_);by_cases e:nb-1=1
 . show f9 ∅ (c_ #[W,Zl #[_,_,O,(h.rB N l).fst N h1 ()]])
 let j:=o4 h.j e;let f:=o3 h.f;show fJ ∅ ?_;show c0 (gD (o1 h.i h.e) (c0 (uy hO hk (kZ ka (o1 h.i h.e)) (UG kb f) (λi j h5 h6=>sb _ _ h5 (Nat.lt_of_lt_of_le h6 f)) (Nat.sub_lt (Nat.lt_trans Nat.zero_lt_one j) Nat.one_pos) λk iq Q F=>?_)));have mP:0<k:=Nat.pos_of_ne_zero λD=>by
  have:=KeyOrd.klt_of_klt_of_kle h1 (gX (N 0 (na-1) (Nat.zero_le _) (o1 h.i h.e)) (F 0 (Nat.le_of_eq D) (Nat.lt_trans Nat.zero_lt_one j)));unfold KeyOrd.klt at this;rw[KeyOrd.irrefl]at this;cases this
 have z:∀{k},k<=nb-1->na+k+x<= ~~~a+ ~~~b:=λu=>Nat.le_trans (Nat.add_le_add_right (Nat.add_le_add_left (Nat.le_trans u (Nat.sub_le _ _)) _) _) h.x;by_cases h0:nb-1-k>0
 . show f9 h0 ?_;let r3:=((h.rB N l).swap.takeA iq λi D h8 h9 j iN zd=>gX (N j (na-1) (Nat.le_sub_one_of_lt iN) (o1 h.i h.e)) (F i D h8)).swap;by_cases e:k=1
   . show f9 (by simpa using e) (c_ #[W,Zl #[_,_,O,r3.fst N h1 (Nat.le_of_eq e)]])
   show fJ (by simpa using e) (fJ (by simp;lia) ?_);show Qn sb W #[r3,h.i,h.e,Nat.lt_of_le_of_ne mP (Ne.symm e),Nat.le_trans iq f,z iq] (hY (Q (k-1) (Nat.sub_lt mP Nat.one_pos)))
 . show fJ h0 (Qn sb W #[h.rB N l,h.i,h.e,j,f,z (Nat.le_refl _)] (hY (Q (nb-1-1) (Nat.lt_of_lt_of_le (Nat.sub_lt (Nat.lt_trans Nat.zero_lt_one j) Nat.one_pos) (Nat.le_of_sub_eq_zero (Nat.eq_zero_of_not_pos h0))))))
def Q6(N:gK κ a)(sb:gK κ b)(h1:κ.klt (KK κ b 0) (KK κ a 0))(hg:∃g,fB=cJ st g)(Q:qF κ kd prog w A s)(hk:kindOf fB=kd)(ka:KeysOf κ a)(kb:KeysOf κ b)(h:gm κ a b na nb out x):wpS (model prog w) A E s (v9 a b out na nb ac bc m) (HQ κ a b st (x+1)) fB:=by
 show c0 (wpS_modify ?_);have z:∃g,cJ fB m=cJ st g:=by let(g,rfl):=hg;show#[m,O]
 show c0 (gD (o2 h.j h.f) (c0 (uy Q hk (kZ kb (o2 h.j h.f)) (UG ka h.e) (λi j h5 h6=>N _ _ h5 (Nat.lt_of_lt_of_le h6 h.e)) (Nat.sub_lt h.i Nat.one_pos) λk iq h5 h6=>?_)))
 let D:=λj F=>by have:=h5 j F;unfold iJ at this;show(by simpa using this:κ.blt (KK κ b (nb-1)) (KK κ a j)=M)
 let u:=λj F h8=>by have:=h6 j F h8;unfold iJ at this;show hY (by simpa using this:κ.blt (KK κ b (nb-1)) (KK κ a j)=G)
 by_cases h0:na-k>0
 . show f9 h0 ?_;let r3:=h.r.takeA iq λi F h8 h9 j iN zd=>gX (sb j (nb-1) (Nat.le_sub_one_of_lt iN) (o2 h.j h.f)) (u i F h8);by_cases e:k=0
   . show f9 ∅ (c_ #[z,Zl #[_,_,O,r3.done e]])
   show fJ ∅ (Qo N sb h1 z Q hk ka kb #[r3,Nat.pos_of_ne_zero e,Nat.le_trans iq h.e,h.j,h.f,Nat.le_trans (Nat.add_le_add_right (Nat.add_le_add_right iq _) _) h.x] (D (k-1) (Nat.sub_lt (Nat.pos_of_ne_zero e) Nat.one_pos)))
 . show fJ h0 (Qo N sb h1 z Q hk ka kb h (D (na-1) (Nat.lt_of_lt_of_le (Nat.sub_lt h.i Nat.one_pos) (Nat.le_of_sub_eq_zero (Nat.eq_zero_of_not_pos h0)))))
end
def Q7(hO:qF κ kd prog w A s)(hk:kindOf st=kd)(ka:KeysOf κ a)(kb:KeysOf κ b)(sa:gK κ a)(sb:gK κ b)(ha:1<= ~~~a)(hb:1<= ~~~b)(h1:κ.klt (KK κ b 0) (KK κ a 0))(h2:κ.klt (KK κ b (~~~b-1)) (KK κ a (~~~a-1)))(h:∀r g,Rs κ (a.toList++b.toList) r->Q r (cJ st g)):wpS (model prog w) A E s (DV a b) Q st:=by
 show c0 (wpS_lift (wpAny_rule #[O,?_]));show c0 (gD (show a.size-1< ~~~a by lia) ?_);have sK:∀{a:Array Keyed},(gK κ a)->SL κ (a.toList.take a.size++(#[]:Array Keyed).reverse.toList):=λ{a} sa=>by
  rw[Lk,show (#[]:Array Keyed).reverse.toList=[] by simp,eJ];show pairwise_iff_getElem.mpr λi j N z D=>?_;have:=sa i j () (by simpa using z)
  rwa [mW (kr a i (by simpa using N)),mW (kr a j (by simpa using z))]at this
 let r0:=RH.psA sb #[by rw[Lk,Lk,show (#[]:Array Keyed).reverse.toList=[] by simp,eJ],sK sa,sK sb] ha () (cK _) λ_=>hY h2;by_cases mN: ~~~a-1=0
 . show f9 (by simpa using mN) (c_ (h _ (gallopOf st) (r0.done mN)))
 show fJ (by simpa using mN) ?_;by_cases k7: ~~~b=1
 . show f9 (by simpa using k7) (c_ (h _ (gallopOf st) (r0.fst sa h1 ())))
 show fJ (by simpa using k7) ?_;show c0 (wpS_get ?_);show oZ (k_ (gm κ a b) st) (λc q=>(∃g,q=cJ st g)/\∃r d,c=(!r,d)/\Rs κ (a.toList++b.toList) r) (λB hB x c q _ _ u=>?_) (λc q u=>(f7 (P:=λ_ _=>False) u λ_ _ _ _ _ u=>u.no (Nat.le_max_right _ _)).elim) #[#[gallopOf st,O],_,_,_,_,O,r0,(),(),(),(),()] (λK hK c q u=>?_)
 rotate_left
 . let((g,rfl),r,d,rfl,u):=u;subst hK;show c_ (h r g u)
 apply f7 u;intro g na nb out m u;subst hB;dsimp only;show oZ (λy=>k_ (gm κ a b) st (x+y)) (lg κ (a.toList++b.toList) (gm κ a b) st (x+1)) (λB hB y c q _ _ u=>?_) (λc q u=>(f7 (P:=λ_ _=>False) u λ_ _ _ _ _ u=>u.no (Nat.le_trans (Nat.le_max_right _ _) (Nat.le_add_left _ _))).elim) #[#[g,O],_,_,_,_,O,u] (λK hK c q u=>?_)
 . apply f7 u;intro g na nb out e u;subst hB;dsimp only;show c0 (gD (o2 u.j u.f) (c0 (gD (o1 u.i u.e) ?_)));show c0 (wC hO hk (kZ kb (o2 u.j u.f)) (kZ ka (o1 u.i u.e)) ?_);dsimp only;cases hl:κ.blt (KK κ b (nb-1)) (KK κ a (na-1))
   . show fJ oz ?_;show c0 (gD (o2 u.j u.f) ?_);by_cases e:nb-1=1
     . show f9 (by simpa using e) (c_ #[#[_,O],Zl #[_,_,O,(u.rB sa hl).fst sa h1 ()]])
     show fJ (by simpa using e) ?_;split
     . show c_ #[#[_,O],YY #[_,_,_,_,O,(u.sB sa hl e).le ()]]
     . show c_ #[#[_,O],_,_,_,_,O,u.sB sa hl e]
   . show f9 O ?_;show c0 (gD (o1 u.i u.e) ?_);by_cases e:na-1=0
     . show f9 (by simpa using e) (c_ #[#[_,O],Zl #[_,_,O,(u.rA sb (hY hl)).done e]])
     show fJ (by simpa using e) ?_;split
     . show c_ #[#[_,O],YY #[_,_,_,_,O,(u.sA sb (hY hl) e).le ()]]
     . show c_ #[#[_,O],_,_,_,_,O,u.sA sb (hY hl) e]
 apply kf u
 . intro g r d u;subst hK;show c_ #[#[g,O],r,_,O,u]
 intro g na nb out e u;subst hK;dsimp only;show c0 (wpS_lift (wpAny_rule #[O,?_]));show oZ (λy=>k_ (gm κ a b) st (x+1+y)) (lg κ (a.toList++b.toList) (gm κ a b) st (x+1)) (λB hB y c q _ _ u=>?_) (λc q u=>(f7 (P:=λ_ _=>False) u λ_ _ _ _ _ u=>u.no (Nat.le_trans (Nat.le_max_right _ _) (Nat.le_add_left _ _))).elim) #[#[g,O],_,_,_,_,O,u] (λK hK c q u=>?_)
 . apply f7 u;intro g na nb out e u;subst hB;let(m,ac,bc):=e;have z:∀m,wpS (model prog w) A E s (v9 a b out na nb ac bc m) (HQ κ a b st (x+1+y+1)) (cJ st g):=λm=>Q6 sa sb h1 #[g,O] hO hk ka kb u;show wpS (model prog w) A E s (if m>1 then v9 a b out na nb ac bc (m-1) else v9 a b out na nb ac bc m) _ (cJ st g);split<;>show wpS_mono (z _) λr q u=>?_
   all_goals
    cases r with
    |done c=>show sI u (gm.le · ())
    |yield c=>show u
 apply kf u
 . intro g r d u;subst hK;show c_ #[#[g,O],r,_,O,u]
 . intro g na nb out e u;subst hK;show c0 (wpS_modify (c_ #[#[_,O],_,_,_,_,O,u]))
end
def Q8(i:Nat):mergeAt' i=(do
 let s <-get
 let (!(sa,na,power),!(sb,nb,_)):=((pendingOf s)[i]?,(pendingOf s)[i+1]?) |unsupported "internal:list.sort.pending"
 set (setPending s (((pendingOf s).setIfInBounds i (sa,na+nb,power)).eraseIdxIfInBounds (i+1)))
 let some k <-tL M (<-elem' (arrOf s) sb) (arrOf s) sa na 0 |return M
 let (sa,na):=(sa+k,na-k)
 if na==0 then return G
 let some nb <-tL G (<-elem' (arrOf s) (sa+na-1)) (arrOf s) sb nb (nb-1) |return M
 if nb==0 then return G
 let x:_:=(arrOf s).extract sa sb
 let y:_:=(arrOf s).extract sb (sb+nb)
 let merged <-if na<=nb then DU x y else DV x y
 modify λs=>setArr s (merged.toList.zipIdx.foldl (λa (p,j)=>a.setIfInBounds (sa+j) p) (arrOf s))
 return (failedOf (<-get)).isNone):=O
def ow(xs:Array Keyed)(q n:Nat)(l:List Keyed):Array Keyed:=(l.zipIdx n).foldl (λa (p,j)=>a.setIfInBounds (q+j) p) xs
theorem R9:∀(l:List Keyed)(xs:Array Keyed)(q n i:Nat),q+n+-l<= ~~~xs->(ow xs q n l)[i]?=if q+n<=i/\i<q+n+-l then l[i-(q+n)]? else xs[i]?
 |[]=>λxs q n i _=>by rw[bh ∅];rfl
 |x::l=>λxs q n i h=>by
  have e:ow xs q n (x::l)=ow (xs.setIfInBounds (q+n) x) q (n+1) l:=O;rw[c5]at h ⊢;rw[e,R9 l _ q (n+1) i ∅];by_cases h1:q+(n+1)<=i/\i<q+(n+1)+-l
  . rw[aE h1,aE (),show i-(q+n)=i-(q+(n+1))+1 by lia,getElem?_cons_succ]
  . rw[bh h1,Array.getElem?_setIfInBounds];by_cases h2:q+n=i
    . subst h2;grind
    . rw[bh h2,bh ()]
def Q9(l:List Keyed)(xs:Array Keyed)(q:Nat)(h:q+-l<= ~~~xs):(ow xs q 0 l).toList=xs.toList.take q++(l++xs.toList.drop (q+-l)):=by
 show ext_getElem? λi=>?_;rw[fS,R9 l xs q 0 i (),Nat.add_zero];obtain h1|h1:=fU i q
 . rw[bh (),jk (by simp;lia),getElem?_take_of_lt h1,fS]
 rw[hZ (by simp;lia)];have e:-(xs.toList.take q)=q:=by simp;lia
 rw[e];obtain h2|h2:=fU (i-q) (-l)
 . rw[aE (),jk h2]
 . rw[bh (),hZ h2,getElem?_drop,show q+-l+(i-q-(-l))=i by lia,fS]
def Sq(κ:KeyKind)(xs:Array Keyed)(lo hi:Nat):Prop:=∀i j,lo<=i->i<=j->j<hi->κ.kle (KK κ xs i) (KK κ xs j)
section
variable {prog:Program}{w:World}{A:Around}{E:Value->Shared->Prop}{s:Shared}{κ:KeyKind}{kd:SortKind}{a₀ xs₀:Array Keyed}{p:Array (Nat×Nat×Nat)}{lo:Nat}{st:SortSt}
def Sg.sq(h:Sg κ xs lo n):Sq κ xs lo (lo+n):=λi j h1 h2 q=>by
 have:=h (i-lo) (j-lo) () ()
 grind
def Sq.congr(h:Sq κ xs lo hi)(e:∀i,lo<=i->i<hi->ys[i]?=xs[i]?):Sq κ ys lo hi:=λi j h1 h2 q=>by rw[KK_congr (e i h1 ()),KK_congr (e j () q)];show h i j h1 h2 q
def Q_(h:Q ⟨⟩ x):wpS (model prog w) A E s (set x:StateT SortSt Sem PUnit) Q st:=by unfold wpS;rw[StateT.run_set];show bv #[O,h]
def sU(h:i+j<k)(hk:k<= ~~~xs):KK κ (xs.extract i k) j=KK κ xs (i+j):=KK_congr (by rw[Array.getElem?_extract,aE ()])
def Ri(hO:qF κ kd prog w A s)(h0:KeysOf κ a₀)(D:SB kd a₀ p 0 xs₀ st)(e1:p[i]?=!(sa,na,pw))(e2:p[i+1]?=!(sa+na,nb,Rj))(hna:1<=na)(hnb:1<=nb)(gA:sa+na+nb<= ~~~a₀)(s1:Sq κ (arrOf st) sa (sa+na))(s2:Sq κ (arrOf st) (sa+na) (sa+na+nb))
 (h:∀fB,SB kd a₀ ((p.setIfInBounds i (sa,na+nb,pw)).eraseIdxIfInBounds (i+1)) 0 xs₀ fB->(∀j,j<sa\/sa+na+nb<=j->(arrOf fB)[j]?=(arrOf st)[j]?)->Sq κ (arrOf fB) sa (sa+na+nb)->Q G fB):wpS (model prog w) A E s (mergeAt' i) Q st:=by
 rw[Q8]
 show c0 (wpS_get ?_)
 rw[D.pend,e1,e2]
 dsimp only
 show c0 (Q_ ?_)
 have hS:SB kd a₀ ((p.setIfInBounds i (sa,na+nb,pw)).eraseIdxIfInBounds (i+1)) 0 xs₀ (setPending st ((p.setIfInBounds i (sa,na+nb,pw)).eraseIdxIfInBounds (i+1))):=#[D.perm,D.kind,D.failed,O,λ_ hi=>absurd hi ∅]
 let hsiz:= ~~~D
 let kx:=λq hq=>h0 q ((Array.perm_iff_toList_perm.mp D.perm).mem_iff.mp hq)
 generalize hp:(p.setIfInBounds i (sa,na+nb,pw)).eraseIdxIfInBounds (i+1)=p' at *
 have fin:κ.kle (KK κ (arrOf st) (sa+na-1)) (KK κ (arrOf st) (sa+na))->Sq κ (arrOf st) sa (sa+na+nb):=λhl i j h1 h2 h3=>by
  obtain h4|h4:=fU j (sa+na)
  . show s1 i j h1 h2 h4
  obtain h5|h5:=fU i (sa+na)
  . show gX (s1 i (sa+na-1) h1 () ()) (gX hl (s2 _ j () h4 h3))
  . show s2 i j h5 h2 h3
 generalize zi:arrOf st=xs at *
 let ea:=zi
 let hQ:=λq=>h _ hS (λj _=>by rw[ea]) (by rw[ea];show q)
 show c0 (gD (show sa+na< ~~~xs by lia) ?_)
 show c0 (uy hO D.kind (kZ kx ()) (J8 kx sa na ()) (λi j h5 h6=>s1 _ _ () () ()) () λk iq h5 h6=>?_)
 dsimp only
 have D1:∀j,sa<=j->j<sa+k->κ.kle (KK κ xs j) (KK κ xs (sa+na)):=λj h7 h8=>by
  have:=h5 (j-sa) ()
  rw[show sa+(j-sa)=j by omega]at this
  unfold iJ at this
  show(by simpa using this:κ.blt (KK κ xs (sa+na)) (KK κ xs j)=M)
 have Rk:∀j,sa+k<=j->j<sa+na->κ.klt (KK κ xs (sa+na)) (KK κ xs j):=λj h7 h8=>by
  have:=h6 (j-sa) () ()
  rw[show sa+(j-sa)=j by omega]at this
  unfold iJ at this
  show(by simpa using this:κ.blt (KK κ xs (sa+na)) (KK κ xs j)=G)
 by_cases mP:na-k=0
 . rw[aE (by simpa using mP)]
   show c_ (hQ (fin (D1 _ () ())))
 rw[bh (by simpa using mP)]
 rw[show sa+k+(na-k)-1=sa+na-1 by omega]
 show c0 (gD (show sa+na-1< ~~~xs by lia) ?_)
 show c0 (uy hO D.kind (kZ kx ()) (J8 kx (sa+na) nb ()) (λi j h5 h6=>s2 _ _ () () ()) () λm D2 h7 h8=>?_)
 dsimp only
 let Rl:=λj h9 iN=>by
  have:=h7 (j-(sa+na)) ()
  rwa [show sa+na+(j-(sa+na))=j by omega]at this
 have D3:∀j,sa+na+m<=j->j<sa+na+nb->κ.kle (KK κ xs (sa+na-1)) (KK κ xs j):=λj h9 iN=>by
  have:=h8 (j-(sa+na)) () ()
  rwa [show sa+na+(j-(sa+na))=j by omega]at this
 by_cases v_:m=0
 . rw[aE (by simpa using v_)]
   show c_ (hQ (fin (D3 _ () ())))
 rw[bh (by simpa using v_)]
 have zx: ~~~(xs.extract (sa+k) (sa+na))=na-k:=by rw[Array.size_extract];lia
 have zy: ~~~(xs.extract (sa+na) (sa+na+m))=m:=by rw[Array.size_extract];lia
 have key:∀r g,Rs κ ((xs.extract (sa+k) (sa+na)).toList++(xs.extract (sa+na) (sa+na+m)).toList) r->wpS (model prog w) A E s (do
  modify λs=>setArr s (r.toList.zipIdx.foldl (λa (p,j)=>a.setIfInBounds (sa+k+j) p) (arrOf s))
  return (failedOf (<-get)).isNone) Q (cJ (setPending st p') g):=λr g hr=>by
  show c0 (wpS_modify (c0 (wpS_get (c_ ?_))))
  have hl:-r.toList=na-k+m:=by rw[hr.1.length_eq,eI,g8,g8,zx,zy]
  have sw:sa+k+-r.toList=sa+na+m:=()
  have eo:r.toList.zipIdx.foldl (λa (p,j)=>a.setIfInBounds (sa+k+j) p) xs=ow xs (sa+k) 0 r.toList:=O
  show Q (failedOf st).isNone (setArr (cJ (setPending st p') g) (r.toList.zipIdx.foldl (λa (p,j)=>a.setIfInBounds (sa+k+j) p) (arrOf st)))
  rw[zi,eo,D.failed]
  have oa:∀j,(ow xs (sa+k) 0 r.toList)[j]?=if sa+k<=j/\j<sa+na+m then r.toList[j-(sa+k)]? else xs[j]?:=λj=>by rw[R9 _ _ _ _ _ (),Nat.add_zero,sw]
  show h _ #[?_,D.kind,D.failed,O,λ_ hi=>absurd hi (Nat.not_lt_zero _)] (λj hj=>?_) ?_
  . show (ow xs (sa+k) 0 r.toList).Perm a₀
    show Array.Perm.trans (Array.perm_iff_toList_perm.mpr ?_) D.perm
    rw[zi,Q9 _ _ _ (),sw]
    have e3:xs.toList=xs.toList.take (sa+k)++((xs.extract (sa+k) (sa+na)).toList++(xs.extract (sa+na) (sa+na+m)).toList++xs.toList.drop (sa+na+m)):=by
     conv=>lhs;rw[<-take_append_drop (sa+k) xs.toList,Aa (show sa+k<=sa+na by lia),Aa (show sa+na<=sa+na+m by lia)]
     rw[d6]
    conv=>rhs;rw[e3]
    show Perm.append_left _ (Perm.append_right _ hr.1)
  . show (ow xs (sa+k) 0 r.toList)[j]?=_
    rw[oa,bh ()]
  . show Sq κ (ow xs (sa+k) 0 r.toList) sa (sa+na+nb)
    have ko:∀j,sa<=j->j<sa+k\/sa+na+m<=j->KK κ (ow xs (sa+k) 0 r.toList) j=KK κ xs j:=λj _ hj=>KK_congr (by rw[oa,bh ()])
    have ki:∀j,sa+k<=j->j<sa+na+m->∃q,sa+k<=q/\q<sa+na+m/\KK κ (ow xs (sa+k) 0 r.toList) j=KK κ xs q:=λj h9 iN=>by
     have hj:j-(sa+k)< -r.toList:=()
     have e4:(ow xs (sa+k) 0 r.toList)[j]?=!(r.toList[j-(sa+k)]):=by rw[oa,aE #[h9,iN],gg hj]
     rw[mW e4]
     obtain q|q:=dy.mp (hr.1.mem_iff.mp (getElem_mem hj))
     . let(z,z1,z2,z3,z4):=Bl (κ:=κ) q
       show#[z,z1,(),z4.symm]
     . let(z,z1,z2,z3,z4):=Bl (κ:=κ) q
       show#[z,(),z2,z4.symm]
    have lowU:∀i q,sa<=i->i<sa+k->sa+k<=q->q<sa+na+nb->κ.kle (KK κ xs i) (KK κ xs q):=λi q F N q3 q4=>by
     obtain W|W:=fU q (sa+na)
     . show s1 i q F () W
     . show gX (D1 i F N) (s2 _ q (cK _) W q4)
    have Uz:∀q j,sa<=q->q<sa+na+m->sa+na+m<=j->j<sa+na+nb->κ.kle (KK κ xs q) (KK κ xs j):=λq j F N q3 q4=>by
     obtain W|W:=fU q (sa+na)
     . show gX (s1 q (sa+na-1) F () ()) (D3 j q3 q4)
     . show s2 q j W () q4
    intro i j F N q3
    by_cases ci:i<sa+k
    . rw[ko i F (Zl ci)]
      by_cases cj:j<sa+k
      . rw[ko j () (Zl cj)];show s1 i j F N ()
      by_cases D4:j<sa+na+m
      . let(q,W,q6,q7):=ki j () D4
        rw[q7];show lowU i q F ci W ()
      . rw[ko j () (YY ())];show lowU i j F ci () q3
    by_cases Rm:i<sa+na+m
    . by_cases D4:j<sa+na+m
      . by_cases cc:i=j
        . subst cc;show KeyOrd.kle_refl _
        have hi:i-(sa+k)< -r.toList:=()
        have hj:j-(sa+k)< -r.toList:=()
        rw[mW (show (ow xs (sa+k) 0 r.toList)[i]?=some (r.toList[i-(sa+k)]) by rw[oa,aE (),gg hi]),mW (show (ow xs (sa+k) 0 r.toList)[j]?=some (r.toList[j-(sa+k)]) by rw[oa,aE (),gg hj])]
        show pairwise_iff_getElem.mp hr.2 _ _ hi hj ()
      . let(q,W,q6,q7):=ki i () Rm
        rw[q7,ko j () (YY ())];show Uz q j () q6 () q3
    . rw[ko i F (YY ()),ko j () (YY ())]
      show s2 i j () N q3
 have xk:KeysOf κ (xs.extract (sa+k) (sa+na)):=λq hq=>kx q (by
  rw[Array.toList_extract,extract_eq_take_drop]at hq
  show mem_of_mem_drop (mem_of_mem_take hq))
 have yk:KeysOf κ (xs.extract (sa+na) (sa+na+m)):=λq hq=>kx q (by
  rw[Array.toList_extract,extract_eq_take_drop]at hq
  show mem_of_mem_drop (mem_of_mem_take hq))
 have sx:∀i j,i<=j->j< ~~~(xs.extract (sa+k) (sa+na))->κ.kle (KK κ (xs.extract (sa+k) (sa+na)) i) (KK κ (xs.extract (sa+k) (sa+na)) j):=λi j F N=>by
  rw[zx]at N
  rw[sU () (),sU () ()]
  show s1 _ _ () () ()
 have sy:∀i j,i<=j->j< ~~~(xs.extract (sa+na) (sa+na+m))->κ.kle (KK κ (xs.extract (sa+na) (sa+na+m)) i) (KK κ (xs.extract (sa+na) (sa+na+m)) j):=λi j F N=>by
  rw[zy]at N
  rw[sU () (),sU () ()]
  show s2 _ _ () () ()
 have c1:κ.klt (KK κ (xs.extract (sa+na) (sa+na+m)) 0) (KK κ (xs.extract (sa+k) (sa+na)) 0):=by
  rw[sU () (),sU () ()]
  show Rk _ () ()
 have c2:κ.klt (KK κ (xs.extract (sa+na) (sa+na+m)) (~~~(xs.extract (sa+na) (sa+na+m))-1)) (KK κ (xs.extract (sa+k) (sa+na)) (~~~(xs.extract (sa+k) (sa+na))-1)):=by
  rw[zx,zy,sU () (),sU () (),show sa+k+(na-k-1)=sa+na-1 by omega]
  show Rl _ () ()
 split
 . show c0 (QY hO D.kind xk yk sx sy () () c1 c2 key)
 . show c0 (Q7 hO D.kind xk yk sx sy () () c1 c2 key)
end
def rs(p:Array (Nat×Nat×Nat)):List (Nat×Nat):=p.toList.map λr=>(r.1,r.2.1)
def fq(κ:KeyKind)(xs:Array Keyed):Nat->List (Nat×Nat)->Nat->Prop
 |a,[],c=>a=c
 |a,r::l,c=>r.1=a/\1<=r.2/\Sq κ xs a (a+r.2)/\fq κ xs (a+r.2) l c
section
variable {κ:KeyKind}{kd:SortKind}{xs ys:Array Keyed}
theorem fq.le:∀{l:List (Nat×Nat)}{a c:Nat},fq κ xs a l c->a+-l<=c
 |[],_,_=>λh=>Nat.le_of_eq h
 |r::l,a,c=>λi=>by let(_,h1,_,h2):=i;have:=h2.le;rw[c5];lia
theorem fq.congr:∀{l:List (Nat×Nat)}{a c:Nat},fq κ xs a l c->(∀i,a<=i->i<c->ys[i]?=xs[i]?)->fq κ ys a l c
 |[],_,_=>λh _=>h
 |r::l,a,c=>λF e=>by let(D,h1,h2,j):=F;show #[D,h1,h2.congr λi z q=>e i z (by have:=j.le;lia),j.congr λi z q=>e i () q]
theorem fq.app:∀{l m:List (Nat×Nat)}{a c:Nat},fq κ xs a (l++m) c ↔ ∃b,fq κ xs a l b/\fq κ xs b m c
 |[],m,a,c=>#[λh=>#[a,O,h],λF=>by let(b,h1,h2):=F;obtain rfl:a=b:=h1;show h2]
 |r::l,m,a,c=>#[λq=>by let(N,h1,h2,z):=q;let(b,i,j):=fq.app.mp z;show#[b,#[N,h1,h2,i],j],λD=>by let(b,(N,h1,h2,z),i):=D;show #[N,h1,h2,fq.app.mpr #[b,z,i]]]
def Rn{p:Array (Nat×Nat×Nat)}(h:i+1< ~~~p):∃l x y m,p.toList=l++x::y::m/\-l=i/\p[i]?=!x/\p[i+1]?=!y/\∀z,((p.setIfInBounds i z).eraseIdxIfInBounds (i+1)).toList=l++z::m:=by
 have q:-p.toList= ~~~p:=by simp
 have e:p.toList=p.toList.take i++p[i]::p[i+1]::p.toList.drop (i+2):=by
  conv=>lhs;rw[<-take_append_drop i p.toList,oI (),oI (show i+1< -p.toList by lia)]
  rfl
 have j:-(p.toList.take i)=i:=by rw[iS];lia
 show#[p.toList.take i,p[i],p[i+1],p.toList.drop (i+2),e,j,kr p i (),kr p (i+1) h,λz=>?_];rw[Array.toList_eraseIdxIfInBounds,Array.toList_setIfInBounds]
 conv=>lhs;rw[e]
 rw[set_append_right _ _ (),j,kz,set_cons_zero,eraseIdx_append_of_length_le (),j,show i+1-i=1 by omega];rfl
def UL(p:Array (Nat×Nat×Nat))(i q:Nat):rs (p.modify i λx=>(x.1,x.2.1,q))=rs p:=by
 unfold rs;show ext_getElem? λj=>?_;rw[dS,dS,fS,fS,Array.getElem?_modify];split
 . subst_vars;cases p[j]?<;>rfl
 . rfl
def Ro(p:Array (Nat×Nat×Nat))(x:Nat×Nat×Nat):rs (p.push x)=rs p++[(x.1,x.2.1)]:=by unfold rs;grind
def UT(p:Array (Nat×Nat×Nat)):-(rs p)= ~~~p:=by simp[rs]
variable {prog:Program}{w:World}{A:Around}{E:Value->Shared->Prop}{s:Shared}{a₀:Array Keyed}{st:SortSt}
structure SR(kd:SortKind)(κ:KeyKind)(a₀:Array Keyed)(lo n:Nat)(st:SortSt):Prop where
 perm:(arrOf st).Perm a₀
 kind:kindOf st=kd
 failed:failedOf st=none
 runs:fq κ (arrOf st) 0 (rs (pendingOf st)) lo
 hi:lo+n<= ~~~a₀
 nxt:Sq κ (arrOf st) lo (lo+n)
def VM(hO:qF κ kd prog w A s)(h0:KeysOf κ a₀){i lo n:Nat}(D:SR kd κ a₀ lo n st)(hi:i+1< ~~~(pendingOf st))(h:∀j,SR kd κ a₀ lo n j-> ~~~(pendingOf j)+1= ~~~(pendingOf st)->Q G j):wpS (model prog w) A E s (mergeAt' i) Q st:=by
 let(l,(F,na,pw),(sb,nb,Rj),m,ep,el,e1,e2,ez):=Rn hi;let hr:=D.runs;unfold rs at hr;rw[ep,d0]at hr;let(b,q1,q2):=fq.app.mp hr;obtain⟨h1,h2,h3,h4,h5,h6,h7⟩:F=b/\1<=na/\Sq κ (arrOf st) b (b+na)/\sb=b+na/\1<=nb/\Sq κ (arrOf st) (b+na) (b+na+nb)/\fq κ (arrOf st) (b+na+nb) (m.map λ(r:Nat×Nat×Nat)=>(r.1,r.2.1)) lo:=q2;subst h1;subst h4;let Rt:=h7.le;have:=D.hi;show Ri (xs₀:=#[]) hO h0 #[D.perm,D.kind,D.failed,O,λ_ hi=>absurd hi ()] e1 e2 h2 h5 () h3 h6 λj hB hk hq=>h j #[hB.perm,hB.kind,hB.failed,?_,D.hi,D.nxt.congr λi h8 h9=>hk i (YY ())] ?_
 . unfold rs;rw[hB.pend,ez,d0];show fq.app.mpr #[F,q1.congr λi h8 h9=>hk i (Zl h9),O,(by omega:1<=na+nb),(show F+(na+nb)=F+na+nb by lia)▸hq,(show F+(na+nb)=F+na+nb by lia)▸h7.congr λi h8 h9=>hk i (YY h8)]
 . have z1:(pendingOf j).toList.length=-l+(-m+1):=by rw[hB.pend,ez];simp
   have z2:(pendingOf st).toList.length=-l+(-m+2):=by rw[ep];simp
   rw[g8]at z1 z2;lia
theorem D5:∀(f n r:Nat),1<=n->1<=minRun' f n r
 |0,n,r,h=>show 1<=n+r by lia
 |f+1,n,r,h=>by
  rw[minRun'_succ];split
  . lia
  . show D5 f _ _ ()
theorem SR.push{lo n:Nat}(h:SR kd κ a₀ lo n st)(q:1<=n):SR kd κ a₀ (lo+n) 0 (setPending st ((pendingOf st).push (lo,n,0))):=#[h.perm,h.kind,h.failed,by
 rw[Ro];show fq.app.mpr #[lo,h.runs,O,q,h.nxt,O],h.hi,λi j h1 h2 z=>()]
def SR.mod{lo n i j:Nat}(h:SR kd κ a₀ lo n st):SR kd κ a₀ lo n (setPending st ((pendingOf st).modify i λx=>(x.1,x.2.1,j))):=#[h.perm,h.kind,h.failed,by
 rw[UL];show h.runs,h.hi,h.nxt]
def Ow(hO:qF κ kd prog w A s)(h0:KeysOf κ a₀)(hd:DK κ a₀)(hB:Qk kd a₀ st)(h2:2<= ~~~a₀)
 (h:∀D,(arrOf D).Perm a₀->failedOf D=J->SortedToK κ (arrOf D) a₀.size->Q ⟨⟩ D):wpS (model prog w) A E s sortRuns' Q st:=by
 rw[sortRuns'_eq];show wpS_bind (wpS_get ?_);dsimp only;rw[hB.size];let hmr:=D5 a₀.size a₀.size 0 ();generalize minRun' a₀.size a₀.size 0=mr at *;show wpS_bind (wpS_mono (wpS_forRange
  (I:=λx c D=>∃lo,c=(J,lo)/\x<=lo/\SR kd κ a₀ lo 0 D)
  (Q:=λc D=>c=(J,~~~a₀)/\SR kd κ a₀ a₀.size 0 D) ?step ?fin #[0,O,cK _,hB.perm,hB.kind,hB.failed,by rw[hB.pend];show O,(),λi j _ _ h5=>()]) ?post)
 case fin=>
  rintro c D ⟨lo,rfl,hx,F⟩;rw[Nat.max_eq_right (gz _)]at hx;have:=F.hi;obtain rfl:lo= ~~~a₀:=()
  show#[O,F]
 case post=>
  rintro c D ⟨rfl,F⟩;dsimp only;show wpS_bind (wpS_mono (wpS_forRange (I:=λx c D=>c=(J,Unit.unit)/\SR kd κ a₀ a₀.size 0 D/\(~~~(pendingOf D)+x<= ~~~a₀\/(pendingOf D).size<=1)) (Q:=λc D=>c=(J,Unit.unit)/\SR kd κ a₀ a₀.size 0 D/\(pendingOf D).size<=1) ?_ ?_ #[O,F,Zl ?_]) ?_)
  . rintro x c D _ _ ⟨rfl,F,hn⟩;show wpS_bind (wpS_get ?_);by_cases hc: ~~~(pendingOf D)<=1
    . rw[aE hc];show wpS_pure #[O,F,hc]
    rw[bh hc];show wpS_bind (VM hO h0 F ?_ λms zk hz=>?_)
    . split
      all_goals
       split
       all_goals lia
    . simp only[Bool.not_true,g7,if_false];show wpS_pure #[O,zk,()]
  . rintro c D ⟨rfl,F,hn⟩;rw[Nat.max_eq_right (gz _)]at hn;show#[O,F,()]
  . have:=F.runs.le;rw[UT]at this;lia
  . rintro c D ⟨rfl,F,hn⟩;show wpS_pure (h _ F.perm F.failed λi j h3 h4=>?_);let hr:=F.runs;let hl:=UT (pendingOf D)
    match hq:rs (pendingOf D),hr,hl with
    |[],hr,_=>have:0= ~~~a₀:=hr;lia
    |[r],hr,_=>
     let(_,_,q1,q2):=hr;have q2:0+r.2= ~~~a₀:=q2;rw[q2]at q1;show q1 i j () h3 h4
    |r::r'::l,_,hl=>rw[c5,c5]at hl;lia
 case step=>
  rintro x c D _ hx ⟨lo,rfl,Rw,F⟩;dsimp only;by_cases mM:lo ≥ ~~~a₀
  . rw[aE mM];have:=F.hi;obtain rfl:lo= ~~~a₀:=()
    show wpS_pure #[O,F]
  rw[bh mM];have Ry:SB kd a₀ (pendingOf D) lo (arrOf D) D:=#[F.perm,F.kind,F.failed,O,λ_ _=>O];show wpS_bind (R8 hO h0 hd () () Ry λm ms D6 y7 DT D7=>?_);dsimp only;have mk:∀n i_,lo+n<= ~~~a₀->SB kd a₀ (pendingOf D) lo (arrOf D) i_->Sg κ (arrOf i_) lo n->SR kd κ a₀ lo n i_:=λn i_ hn hB hs=>#[hB.perm,hB.kind,hB.failed,hB.pend▸F.runs.congr λi _ hi=>hB.low i hi,hn,hs.sq];split
  case' isTrue=>
   show wpS_bind (wpS_lift (wpAny_rule #[O,?_]));show wpS_bind (QO hO h0 () () D6 D7 λi_ RA RE=>?_);simp only[Bool.not_true,g7,if_false];let hR:=mk _ _ () RA RE;have hn:1<=min (~~~a₀-lo) mr:=()
  case' isFalse=>
   let hR:=mk _ _ () D6 D7;let hn:=y7
  all_goals
   show wpS_bind (wpS_get ?_);split
   . show wpS_bind (wpS_mono (wpS_forRange (I:=λ_ c D=>c=(J,Unit.unit)/\SR kd κ a₀ lo _ D) (Q:=λc D=>c=(J,Unit.unit)/\SR kd κ a₀ lo _ D) ?_ (λ_ _ q=>q) #[O,hR]) ?_)
     . rintro x c D _ _ ⟨rfl,F⟩;show wpS_bind (wpS_get ?_);by_cases hz: ~~~(pendingOf D)>1
       . rw[aE hz,getElem?_pos (pendingOf D) (~~~(pendingOf D)-2) ()];dsimp only;split
         . show wpS_pure #[O,F]
         . show wpS_bind (VM hO h0 F () λms zk _=>?_);show wpS_pure #[O,zk]
       . rw[bh hz];show wpS_pure #[O,F]
     . rintro c D ⟨rfl,F⟩;show wpS_bind (wpS_modify (wpS_bind (wpS_modify (wpS_pure #[_,O,(),F.mod.push hn]))))
   . show wpS_bind (wpS_modify (wpS_pure #[_,O,(),hR.push hn]))
end
section
variable {prog:Program}
def JM(ho:s.heap.get? a=!(seqObj "list" vs.toArray n))
 (hO:∀h',(∀b o,b≠a->s.heap.get? b=!o->h'.get? b=!o)->qF κ kd prog w A { s with heap:=h' })
 (h0:KeysOf κ (pairsOf vs)) (RF:∀h',(∀b o,b≠a->s.heap.get? b=!o->h'.get? b=!o)->∀N W rest,vs=N::W::rest->∀{Q:SortKind->Shared->Prop},Q kd { s with heap:=h' }->wpAny (model prog w) A (keyKind' (N::W::rest).toArray) Q E { s with heap:=h' }) (hd:DK κ (pairsOf vs)) (h64:-vs<100000)
 (h:∀D:SortSt,(arrOf D).Perm (pairsOf vs)->SortedToK κ (arrOf D) (pairsOf vs).size->P (.done (.ret .none)) { s with heap:=sortedHeap s.heap a vs ((arrOf D).map (·.2)) }):
 wpAny (model prog w) A (Builtin.«list.sort» #[[YV a],[]]) P E s:=by
 rw[list_sort_plain];let ha:=dq ho;show al (listItems_at ho O ?_);show al (listUpdate_at ho O ?_);obtain⟨e1,D8⟩:∃e1,(s.heap.update a (Obj.mapSeq λ_=>#[])).get? a=!(seqObj "list" #[] e1):=#[_,get?_update_seq ho (λ_=>#[])];show al (seqEpoch_at D8 O ?_);show al (wpAny_newTuple ?_);show al (wpAny_newList ?_);show kq ?_;have wa:(((s.heap.update a (Obj.mapSeq λ_=>#[])).push (seqObj "tuple" vs.toArray 0)).push (seqObj "list" #[] 0)).get? a=!(seqObj "list" #[] e1):=by rw[Heap.get?_push_ne _ _ _ (by rw[size_push',Heap.size_update];show eR (j3 ha)),Heap.get?_push_ne _ _ _ (by rw[Heap.size_update];show eR ha)];show D8
 dsimp only;have gA: ~~~vs.toArray=-vs:=by simp
 let fin:=h;by_cases h2: ~~~vs.toArray<2
 . rw[aE h2,aE h2];show al (bv ?_);rw[StateT.run_pure];show al (bv ?_);dsimp only;show al (seqEpoch_at wa O ?_);show al (listUpdate_at wa O ?_ (hsz2:=by rw[Array.size_map];show (pairsOf vs).size<=_;rw[pairsOf_size,iE];lia));simp only[bne_self_eq_false,g7,if_false];show bv (fin (SortSt.mk' general' (vs.toArray.zip vs.toArray) #[] 7 J) (Array.Perm.refl _) ?_);intro i j ke hj;have:i=j:=by rw[pairsOf_size]at hj;lia
   subst this;show KeyOrd.kle_refl _
 . rw[bh h2,bh h2];obtain⟨N,W,rest,rfl⟩:∃N W rest,vs=N::W::rest:=by
    match vs,gA,h2 with
    |[],_,h2=>grind
    |[_],_,h2=>simp at h2
    |N::W::rest,_,_=>show#[N,W,rest,O]
   have D9:∀b o,b≠a->s.heap.get? b=!o->(((s.heap.update a (Obj.mapSeq λ_=>#[])).push (seqObj "tuple" (N::W::rest).toArray 0)).push (seqObj "list" #[] 0)).get? b=!o:=λb o hb e=>by let hl:=dq e;rw[Heap.get?_push_ne _ _ _ (by rw[size_push',Heap.size_update];show eR (j3 hl)),Heap.get?_push_ne _ _ _ (by rw[Heap.size_update];show eR hl),Heap.get?_update_ne _ _ _ _ hb];show e
   show al (RF _ D9 _ _ _ O ?_);show al (nr (Ow (κ:=κ) (hO _ D9)
    (Q:=λ_ D=>(arrOf D).Perm (pairsOf (N::W::rest))/\failedOf D=J/\SortedToK κ (arrOf D) (pairsOf (N::W::rest)).size)
    h0 hd #[Array.Perm.refl _,O,O,O] (by rw[pairsOf_size];simp) λD a1 a2 a3=>#[a1,a2,a3]) ?_ λ_ _ e=>e)
   rintro⟨⟨⟩,D⟩ s' ⟨rfl,hp,hf,hs⟩;dsimp only;show al (seqEpoch_at wa O ?_);show al (listUpdate_at wa O ?_ (hsz2:=by show fx (Nat.le_of_eq ((Array.size_map ..).trans (hp.size_eq.trans (pairsOf_size _)))) ?_;rw[iE];lia));rw[hf];simp only[bne_self_eq_false,g7,if_false];show bv (fin D hp hs)
theorem D_:∀{vs:List Value}{ss:List Str},StrsAre vs ss->vs.map strKind.keyOf=ss.map λx=>!x.cps.toList
 |_,_,.nil=>rfl
 |_,_,.cons x t h=>by rw[fr,fr,D_ h]
def RI(h:StrsAre vs ss)(n:ss.Nodup):DK strKind (pairsOf vs):=by
 unfold DK;rw[pairsOf_toList];have e:(vs.zip vs).map (λp=>strKind.keyOf p.1)=((vs.zip vs).map Prod.fst).map strKind.keyOf:=by rw[fF];rfl
 rw[e,List.map_fst_zip (),D_ h];show List.pairwise_map.mpr (List.Pairwise.imp (λ{a b} q e=>q ?_) n);obtain⟨⟨b⟩⟩:=b;cases e;rfl
def RO{Q:Value->Shared->Prop}(nX:T="set"\/T="dict")(hT:s.TypeIs (YV d) T)(hI:Ey prog w A.in1.in1 d ok { s with heap:=s.heap.push v6 })(hok:∀vs,ok vs->(∃ss,StrsAre vs ss/\ss.Nodup)/\-vs<100000)
 (h:∀h' dr tk L out c vs ss D,ok vs->StrsAre vs ss->StrsAre out.toList D->D.Perm ss->sortedS D=G->(∀b o,s.heap.get? b=!o->h'.get? b=!o)->h'.get? L=!(seqObj "list" out c)-> ~~~s.heap.objs<=L->Q (YV L) { s with heap:=h',drawn:=dr,toks:=tk }):
 wpAny (model prog w) A (call (.builtin "sorted") [YV d]) Q E s:=by
 show Calls.call_function_entry kind_sorted plain_sorted entry_sorted (args_sorted1 _) ?_;show al (bv (al (Ez nX hT hI λh1 dr tk vs hv k hz=>?_)));let((ss,hs,hn),hl):=hok vs hv;show al (wpAny_newList ?_ (by rw[sizeLine_eq];lia));have g0:(h1.push (seqObj "list" vs.toArray 0)).get? h1.objs.size=!(seqObj "list" vs.toArray 0):=ff _ O;show al (wpAny_holding (wpAny_call_entry slot_list_sort #[_,g0,O] entry_list_sort (JM g0 (λh' _=>qF.one strKind_oneLt) hs.keysOf (λh' _ v₁ v₂ rest e {Q} q=>by rw[keyKind_strs (by rw[<-e];show hs)];show bv q) (RI hs hn) hl λfB p1 p2=>#[_,O,?_]) (args_list_sort _)));let(D,r1,r2,r3):=sorted_out_str hs p1 p2;let(e,he):=sortedHeap_at g0;show bv #[_,O,h _ dr tk _ _ e vs ss D hv hs r1 r2 r3 (λb o q=>?_) he ?_]
 . show(sortedHeap_old (eR (dq (k b o q))) (by rw[size_push'];show j3 (dq (k b o q)))).trans (d5 _ (k b o q))
 . show hz
end
section
variable {X:Cx}
def Eb(X:Cx):List V->Hp->VK->Prop:=λxs H Q=>∃a ss,xs=[.ref a]/\H a=!(.ext (Ld X.prog X.w a ss))/\-ss<4000/\∀l sL,H l=J->sL.Nodup->(∀y,y∈sL ↔ y∈ss)->sortedS sL=G->Q (.ref l) (bp H l (.lst (sL.map V.str)))
def zl(hc:X.calm=G):lO X (.builtin "sorted") (Eb X):=by
 intro ae s U H xs us Q I r h;let(a,ss,rfl,hq,hl,q):=h;let(u,rfl,rx):=fg r;cases rx;let((es,ep,t,S,mem,sz),_):=I.hok a _ hq;show RO (T:="set") (Zl O) #[_,S.at_,O] (EY (by simpa using I.ok.hd hc) (S.1.moved λo e=>d5 _ e)) (λvs p=>?_) λh' dr tk L out c vs s1 F p t1 t2 p2 so kp g hL=>?_
 . let hs:=strsAre_map vs λv hv=>by let(e,he,rfl):=dA.mp (p.mem_iff.mp hv);let((k,h1,_),_):=S.el e he;let(u,hu):=Value.isStrOf_shape h1;show#[k,u,hu]
   show#[#[_,hs,(Uu p hs).nodup_iff.mpr S.nd],?_];have:=p.length_eq;simp only[ck,g8]at this;lia
 . let pk:=p2.trans (Uu p t1);have kF:-F<=4000:=by have:=pk.length_eq;unfold gG at this;simp only[ck,g8]at this;lia
   let I1:=I.laid (t':=tk) kp hL (show fG X.prog X.w _ h' L (.lst (F.map V.str)) from #[by rw[ck,sizeLine_eq];lia,out.toList,c,Ij t2,g]);show#[.ref L,_,I1.drew dr,O,q L F (I.hok.fresh hL) (pk.nodup_iff.mpr S.nd) (λy=>(pk.mem_iff).trans (mem y)) so]
end
noncomputable def CV (ZN i:Nat):Nat:=(i*5+1)%ZN
def eZ(ZN:Nat):Nat->Nat->Nat
 |0,i=>i
 |n+1,i=>CV ZN (eZ ZN n i)
def Bm(ZN:Nat):Nat->Nat->Nat->Nat
 |0,_,acc=>acc
 |n+1,i,acc=>Bm ZN n (CV ZN i) (acc ||| 2 ^ i)
def RS(ZN n i:Nat):eZ ZN (n+1) i=eZ ZN n (CV ZN i):=by
 induction n with
 |zero=>rfl
 |succ n j=>show CV ZN (eZ ZN (n+1) i)=CV ZN (eZ ZN n (CV ZN i));rw[j]
theorem qR(j m i:Nat):∀n,eZ j (n+m) i=eZ j n (eZ j m i)
 |0=>by rw[iX];rfl
 |n+1=>by rw[Nat.succ_add];show CV j (eZ j (n+m) i)=CV j (eZ j n (eZ j m i));rw[qR j m i n]
theorem Ab(ZN j:Nat):∀n i acc,(Bm ZN n i acc).testBit j=true->acc.testBit j=true\/∃k,k<n/\eZ ZN k i=j
 |0,i,acc,h=>.inl h
 |n+1,i,acc,h=>by
  obtain q|⟨k,hk,q⟩:=Ab ZN j n (CV ZN i) (acc ||| 2 ^ i) h
  . rw[Nat.testBit_or,Bool.or_eq_true]at q;obtain q|q:=q
    . show .inl q
    . rw[Nat.testBit_two_pow]at q;show .inr #[0,Nat.succ_pos _,of_decide_eq_true q]
  . show .inr #[k+1,Nat.succ_lt_succ hk,by rw[RS];show q]
def wD(ZN:Nat):Prop:=ZN=8\/ZN=32\/ZN=128\/ZN=512\/ZN=2048\/ZN=8192\/ZN=32768
def Qp(h:wD ZO):Bm ZO ZO 0 0=2 ^ ZO-1/\eZ ZO ZO 0=0:=by rcases h with rfl|rfl|rfl|rfl|rfl|rfl|rfl<;>show#[by decide +kernel,by decide +kernel]
def Ln(h:wD ZO)(i:j<ZO):∃k,k<ZO/\eZ ZO k 0=j:=by
 have q:(Bm ZO ZO 0 0).testBit j=G:=by rw[(Qp h).1,Nat.testBit_two_pow_sub_one];show k5 i
 obtain q|q:=Ab ZO j ZO 0 0 q
 . grind
 . show q
def Il(h:wD ZO)(hi:i<ZO)(D:j<ZO):∃k,k<ZO/\eZ ZO k i=j:=by
 let(a,F,q):=Ln h hi;let(b,N,z):=Ln h D;obtain g|g:=fU b a
 . show#[b+ZO-a,(),?_];have e:eZ ZO (b+ZO-a+a) 0=eZ ZO (b+ZO-a) (eZ ZO a 0):=qR ZO a 0 _;rw[q]at e;rw[<-e,Nat.sub_add_cancel (),qR,(Qp h).2,z]
 . show#[b-a,(),?_];have e:eZ ZO (b-a+a) 0=eZ ZO (b-a) (eZ ZO a 0):=qR ZO a 0 _;grind
def RU(z:0<p)(i:eZ ZO p s=s)(k:Nat):eZ ZO (k%p) s=eZ ZO k s:=by
 induction k using Nat.strongRecOn with
 |ind k j=>
  obtain c|c:=fU k p
  . rw[Nat.mod_eq_of_lt c]
  . rw[Nat.mod_eq_sub_mod c,j (k-p) ()];let e:=qR ZO p s (k-p);grind
theorem RY{ZN i:Nat}(hi:i<ZN):∀n,eZ ZN n i<ZN
 |0=>hi
 |n+1=>Nat.mod_lt _ ()
def R_(h:wD ZO)(hi:i<ZO)(z:a<b)(F:b<ZO):eZ ZO a i≠eZ ZO b i:=λe=>by
 have q:eZ ZO (b-a) (eZ ZO a i)=eZ ZO a i:=by rw[<-qR,Nat.sub_add_cancel ()];show e.symm
 have sub:range ZO ⊆ (range (b-a)).map λk=>eZ ZO k (eZ ZO a i):=λj D=>by let(k,_,e):=Il h (RY hi a) (mem_range.mp D);show dA.mpr #[k%(b-a),mem_range.mpr (Nat.mod_lt _ ()),(RU () q k).trans e]
 have:=Nodup.length_le_of_subset nodup_range sub;grind
def W9{xs:Array Nat}(h:wD ZO)(hi:i<ZO)(Q: ~~~xs<ZO):∃k,k<= ~~~xs/\∀n:Nat,xs[n]?≠!(eZ ZO k i):=by
 show Classical.byContradiction λz=>?_;have D:((range (~~~xs+1)).map λk=>eZ ZO k i).Nodup:=pairwise_map.mpr (Pairwise.imp_of_mem (λ_ N l=>R_ h hi l ∅) pairwise_lt_range);have:=Nodup.length_le_of_subset D λj F=>by let(k,hk,e):=dA.mp F;show Classical.byContradiction λq=>z #[k,by have:=mem_range.mp hk;lia -verbose,λn en=>q ?_];rw[<-e];show fL (Array.getElem?_toList.trans en)
 grind
def ar(t:SetTable)(h:Int):Nat->SetTable.Probe
 |0=>t.probeStart h
 |n+1=>t.advance (ar t h n)
theorem t8(e:t.mask=t'.mask)(h:Int):∀n,ar t h n=ar t' h n
 |0=>by show t.probeStart h=t'.probeStart h;unfold probeStart;rw[e]
 |n+1=>by show t.advance (ar t h n)=t'.advance (ar t' h n);rw[t8 e h n];unfold advance;rw[e]
noncomputable def lp (m:Nat) (a:Nat×Nat):Nat->Nat×Nat
 |0=>a
 |n+1=>leap m (lp m a n).1 (lp m a n).2
theorem uc(m:Nat)(a:Nat×Nat):∀n,(lp m a n).2=a.2/32 ^ n
 |0=>by show a.2=a.2/1;grind
 |n+1=>by show (lp m a n).2/32=_;rw[uc m a n,Nat.div_div_eq_div_mul,Nat.pow_succ]
theorem Lp(m:Nat)(a:Nat×Nat)(n:Nat):∀k,lp m a (k+n)=lp m (lp m a n) k
 |0=>by rw[iX];rfl
 |k+1=>by rw[Nat.succ_add];show leap _ _ _=leap _ _ _;rw[Lp m a n k]
theorem Lq(m i:Nat):∀k,(lp m (i,0) k).1=eZ (m+1) k i
 |0=>rfl
 |k+1=>by show (((lp m (i,0) k).1*5+1+(lp m (i,0) k).2/32)%(m+1))=CV (m+1) (eZ (m+1) k i);rw[uc,Lq m i k];rw[Nat.zero_div,Nat.zero_div];rfl
theorem Y9(m:Nat)(a:Nat×Nat)(h:a.1<m+1):∀n,(lp m a n).1<m+1
 |0=>h
 |n+1=>Nat.mod_lt _ ∅
def Qq(h:Int):bits h<2 ^ 64:=by unfold bits;lia
def Xb(D:wD (m+1))(h:Int)(q:j<=m):∃n,n<=m+13/\(lp m (bits h%(m+1),bits h) n).1=j:=by
 have z:(lp m (bits h%(m+1),bits h) 13).2=0:=by rw[uc];show Nat.div_eq_of_lt (fT (Qq h) ())
 have l:(lp m (bits h%(m+1),bits h) 13).1<m+1:=Y9 m _ (Nat.mod_lt _ ()) 13;let(k,hk,e):=Il D l (Nat.lt_succ_of_le q);show#[k+13,(),?_];rw[Lp];have i:lp m (bits h%(m+1),bits h) 13=((lp m (bits h%(m+1),bits h) 13).1,0):=by rw[<-z]
 rw[i,Lq];show e
def vJ(m i:Nat):i<=runEnd m i/\runEnd m i<=i+9/\(i<=m->runEnd m i<=m):=by unfold runEnd;split<;>lia
theorem yf(t:SetTable)(h:Int):∀(k r j:Nat),ar t h s=#[j,r,i,p,d]->k<=r->ar t h (s+k)=#[j+k,r-k,i,p,d]
 |0=>λr j e _=>e
 |k+1=>λr j e hk=>by let q:=yf t h k r j e ();show t.advance (ar t h (s+k))=_;rw[q];unfold advance;rw[aE (show r-k>0 by lia)];rfl
theorem Qs(t:SetTable)(h:Int):∀n,∃s,s<=10*n/\ar t h s=#[(lp t.mask (bits h%(t.mask+1),bits h) n).1,runEnd t.mask (lp t.mask (bits h%(t.mask+1),bits h) n).1-(lp t.mask (bits h%(t.mask+1),bits h) n).1,(lp t.mask (bits h%(t.mask+1),bits h) n).1,(lp t.mask (bits h%(t.mask+1),bits h) n).2,J]
 |0=>#[0,cK _,O]
 |n+1=>by let(s,hs,e):=Qs t h n;have i:lp t.mask (bits h%(t.mask+1),bits h) (n+1)=leap t.mask (lp t.mask (bits h%(t.mask+1),bits h) n).1 (lp t.mask (bits h%(t.mask+1),bits h) n).2:=O;rw[i];generalize lp t.mask (bits h%(t.mask+1),bits h) n=a at e;let q:=yf t h _ _ _ e (cK _);rw[kz]at q;let b:=(vJ t.mask a.1);show#[s+(runEnd t.mask a.1-a.1)+1,(),?_];show t.advance _=_;rw[q];rfl
theorem yg(t:SetTable)(h:Int):∀n,(ar t h n).dummy=J
 |0=>rfl
 |n+1=>by
  show (t.advance (ar t h n)).dummy=J;unfold advance;split
  . show yg t h n
  . show yg t h n
theorem GZ(t:SetTable)(h:Int):∀n,(ar t h n).j+(ar t h n).more<=t.mask
 |0=>by have l:bits h%(t.mask+1)<=t.mask:=Nat.le_of_lt_succ (Nat.mod_lt _ ());let b:=vJ t.mask (bits h%(t.mask+1));show bits h%(t.mask+1)+(runEnd t.mask (bits h%(t.mask+1))-bits h%(t.mask+1))<=t.mask;lia
 |n+1=>by
  let q:=GZ t h n;show (t.advance (ar t h n)).j+(t.advance (ar t h n)).more<=t.mask;unfold advance;split
  . lia
  . have l:((ar t h n).i*5+1+(ar t h n).perturb/32)%(t.mask+1)<=t.mask:=Nat.le_of_lt_succ (Nat.mod_lt _ ());let b:=vJ t.mask (((ar t h n).i*5+1+(ar t h n).perturb/32)%(t.mask+1));show ((ar t h n).i*5+1+(ar t h n).perturb/32)%(t.mask+1)+(runEnd t.mask (((ar t h n).i*5+1+(ar t h n).perturb/32)%(t.mask+1))-((ar t h n).i*5+1+(ar t h n).perturb/32)%(t.mask+1))<=t.mask;lia
def wF(t:SetTable)(h:Int)(K:Nat):Prop:=t.slot (ar t h K).j=.empty/\∀l,l<K->t.slot (ar t h l).j≠.empty
def U0:∀{n:Nat},t.slot (ar t h n).j=.empty->∃K,K<=n/\wF t h K:=by
 intro n;induction n using Nat.strongRecOn with
 |_ n F=>
  intro e;by_cases q:∃l,l<n/\t.slot (ar t h l).j=.empty
  . let(l,D,N):=q;let(K,W,f):=F l D N;show#[K,(),f]
  . show#[n,cK _,e,λl D z=>q #[l,D,z]]
theorem Qt{hashAt:Nat->Int}{K:Nat}(nd:∀j,t.slot j≠.dummy)(f:wF t h K):∀(q k:Nat),k<=K->K-k<q->
 (∃l i,k<=l/\l<K/\t.slot (ar t h l).j=.live i/\hashAt i=h/\probe.go t hashAt h q (ar t h k)=!(.candidate (ar t h l).j i (ar t h (l+1)))/\∀z,k<=z->z<l->∀D,t.slot (ar t h z).j=.live D->hashAt D≠h)\/
 ((∀z,k<=z->z<K->∀D,t.slot (ar t h z).j=.live D->hashAt D≠h)/\probe.go t hashAt h q (ar t h k)=!(.empty (ar t h K).j J))
 |0=>λk _ h2=>absurd h2 ()
 |q+1=>λk h1 h2=>by
  unfold probe.go;obtain g|g:=fU k K
  . cases hs:t.slot (ar t h k).j with
    |empty=>show absurd hs (f.2 k g)
    |dummy=>grind
    |live i=>
     dsimp only;by_cases N:hashAt i=h
     . rw[aE ∅];show Zl #[k,i,cK _,g,hs,N,O,λz a b=>absurd b ()]
     . rw[bh ∅];obtain⟨l,D,a1,a2,a3,a4,a5,a6⟩|⟨a1,a2⟩:=Qt nd f q (k+1) g ()
       . show Zl #[l,D,(),a2,a3,a4,a5,λz b1 b2 W F=>?_];obtain c|c:=fU k z
         . show a6 z c b2 W F
         . obtain rfl:z=k:=()
           grind
       . show YY #[λz b1 b2 W F=>?_,a2];obtain c|c:=fU k z
         . show a1 z c b2 W F
         . obtain rfl:z=k:=()
           grind
  . obtain rfl:k=K:=()
    rw[f.1];rw[yg];show YY #[λz a b=>absurd b (),O]
def Fe(xs:Array Nat):Prop:=∀a b x y:Nat,a<b->xs[a]?=!x->xs[b]?=!y->x<y
theorem Dq(D:Fe xs):∀(z lo hi:Nat),lo<=hi->hi<= ~~~xs->hi-lo<=z->(∀i x:Nat,i<lo->xs[i]?=!x->x<j)->(∀i x:Nat,hi<=i->xs[i]?=!x->j<=x)->
 below.go xs j z lo hi<= ~~~xs/\(∀i x:Nat,i<below.go xs j z lo hi->xs[i]?=!x->x<j)/\(∀i x:Nat,below.go xs j z lo hi<=i->xs[i]?=!x->j<=x)
 |0=>λlo hi h1 h2 h3 N F=>by
  obtain rfl:lo=hi:=()
  show#[h2,N,F]
 |z+1=>λlo hi h1 h2 h3 N F=>by
  unfold below.go;split
  . have hm:(lo+hi)/2< ~~~xs:=()
    let e:=m_ hm;dsimp only;rw[Array.getD_eq_getD_getElem?,e];split
    . rename_i q;show Dq D z _ hi () h2 () (λi x Q ex=>?_) F;obtain c|c:=fU i ((lo+hi)/2)
      . show Nat.lt_trans (D _ _ _ _ c ex e) q
      . obtain rfl:i=(lo+hi)/2:=()
        grind
    . rename_i q;let W:=Ch q;show Dq D z lo _ () () () N (λi x Q ex=>?_);obtain c|c:=fU ((lo+hi)/2) i
      . show ny (u_ W (D _ _ _ _ c e ex))
      . obtain rfl:i=(lo+hi)/2:=()
        grind
  . obtain rfl:lo=hi:=()
    show#[h2,N,F]
def ud(q:Fe xs)(j:Nat):below xs j<= ~~~xs/\(∀i x:Nat,i<below xs j->xs[i]?=!x->x<j)/\(∀i x:Nat,below xs j<=i->xs[i]?=!x->j<=x):=
 Dq q xs.size 0 xs.size () () () (λi x h=>absurd h ()) (λi x h e=>by rw[kS h]at e;cases e)
def below_at(z:Fe xs)(e:xs[i]?=!j):below xs j=i:=by
 let(Q,N,F):=ud z j;obtain c|c|c:=Nat.lt_trichotomy (below xs j) i
 . let D:=Nat.lt_trans c (by obtain g|g:=fU i xs.size;show g;rw[kS g]at e;cases e);let q:=m_ D;have:=F _ _ () q;have:=z _ _ _ _ c q e;lia
 . show c
 . show absurd (N _ _ c e) ()
def Ac{t:SetTable}(q:Fe t.place)(e:t.place[i]?=!j):t.slot j=.live i:=by unfold slot;rw[below_at q e,aE ()]
def Im{t:SetTable}(e:t.slot j=.live i):t.place[i]?=!j:=by
 unfold slot at e;dsimp only at e;split at e
 . grind
 . grind
def Qu{t:SetTable}(i:t.dummies=#[])(j:Nat):t.slot j≠.dummy:=by
 intro e;unfold slot at e;dsimp only at e;split at e
 . cases e
 . split at e
   . rename_i q;rw[i]at q;cases q
   . cases e
def pN{t:SetTable}(N:Fe t.place)(W:t.dummies=#[]):t.slot j=.empty ↔ ∀i:Nat,t.place[i]?≠!j:=by
 constructor
 . intro e i q;rw[Ac N q]at e;cases e
 . intro q;cases e:t.slot j with
   |empty=>rfl
   |dummy=>show absurd e (Qu W j)
   |live i=>show absurd (Im e) (q i)
def tM(xs:Array α)(p:Nat)(x:α):(insertAt xs p x).toList=xs.toList.take p++x::xs.toList.drop p:=by unfold insertAt;have e:take (~~~xs-p) (drop p xs.toList)=drop p xs.toList:=rL ∅;simp[e]
def iC(xs:Array α)(z:p<= ~~~xs)(x:α)(i:Nat):(insertAt xs p x)[i]?=if i<p then xs[i]? else if i=p then !x else xs[i-1]?:=by
 rw[<-fS,tM];have j:-(xs.toList.take p)=p:=by rw[iS,g8];lia
 split
 . rename_i g;rw[jk (),getElem?_take_of_lt g,fS]
 . rw[hZ (),j];split
   . grind
   . obtain⟨k,hk⟩:∃k,i-p=k+1:=#[i-p-1,()];rw[hk,getElem?_cons_succ,getElem?_drop,fS];congr 1;lia
def n6(xs:Array α)(p:Nat)(x:α): ~~~(insertAt xs p x)= ~~~xs+1:=by rw[<-g8,tM,eI,c5,iS,rj,g8];lia
def Sd(D:Fe xs)(hj:∀i:Nat,xs[i]?≠!j):Fe (insertAt xs (below xs j) j):=by
 let(W,N,b3):=ud D j;intro a b x y F ex q;rw[iC xs W]at ex q;let st:=λi x h e=>Nat.lt_of_le_of_ne (b3 i x h e) λz=>hj i (z▸e);split at ex
 . rename_i Q;split at q
   . show D _ _ _ _ F ex q
   . split at q
     . cases q;show N _ _ Q ex
     . show Nat.lt_trans (N _ _ Q ex) (st _ _ () q)
 . split at ex
   . cases ex;rw[bh (),bh ()]at q;show st _ _ () q
   . rw[bh (),bh ()]at q;show D _ _ _ _ () ex q
def Ec(t:SetTable)(h:Int)(j:Nat):Prop:=∃n,(ar t h n).j=j/\∀l,l<n->t.slot (ar t h l).j≠.empty
structure sV(t:SetTable)(hs:Nat->Option Int):Prop where
 msz:wD (t.mask+1)
 nod:t.dummies=#[]
 ris:Fe t.place
 bnd:∀i j:Nat,t.place[i]?=!j->j<=t.mask
 room: ~~~t.place<=t.mask
 rch:∀(i j:Nat)(h:Int),t.place[i]?=!j->hs i=!h->Ec t h j
def sV.first(T:sV t hs)(h:Int):∃K,K<10*(~~~t.place+15)/\wF t h K:=by
 have z:(lp t.mask (bits h%(t.mask+1),bits h) 13).2=0:=by rw[uc];show Nat.div_eq_of_lt (fT (Qq h) ())
 let(k,hk,q):=W9 T.msz (Y9 t.mask (bits h%(t.mask+1),bits h) (Nat.mod_lt _ ()) 13) (Nat.lt_succ_of_le T.room);let(s,D,e):=Qs t h (k+13);have F:(ar t h s).j=eZ (t.mask+1) k (lp t.mask (bits h%(t.mask+1),bits h) 13).1:=by rw[e,Lp,<-Lq,<-z]
 have i:t.slot (ar t h s).j=.empty:=by rw[F];show(pN T.ris T.nod).mpr q
 let(K,N,f):=U0 i;show#[K,(),f]
def sV.ahead(T:sV t hs){K i j:Nat}(f:wF t h K)(e:t.place[i]?=!j)(D:hs i=!h):∃l,l<K/\(ar t h l).j=j/\t.slot (ar t h l).j=.live i:=by
 let(n,en,q):=T.rch i j h e D;show#[n,?_,en,by rw[en];show Ac T.ris e];obtain c|c:=fU n K
 . show c
 . obtain d|d:=Nat.eq_or_lt_of_le c
   . let z:=f.1;rw[d,en,Ac T.ris e]at z;cases z
   . show absurd f.1 (q K d)
def U3_{t:SetTable}(q:t.dummies=#[])(j:Nat):(t.put j).1={ t with place:=insertAt t.place (below t.place j) j }/\(t.put j).2=below t.place j:=by
 unfold put;show#[?_,O];have e:has t.dummies j=M:=by rw[q];rfl
 rw[e];rfl
noncomputable def Lr {α:Type} (hs:Nat->Option α) (p:Nat) (h:α) (i:Nat):Option α:=if i<p then hs i else if i=p then !h else hs (i-1)
def sV.put(T:sV t hs){K:Nat}(f:wF t h K)(N: ~~~t.place+1<=t.mask):
 sV { t with place:=insertAt t.place (below t.place (ar t h K).j) (ar t h K).j } (Lr hs (below t.place (ar t h K).j) h):=by
 let nn:=(pN T.ris T.nod).mp f.1;let(W,b2,b3):=ud T.ris (ar t h K).j;let rr:=Sd T.ris nn;have le:(ar t h K).j<=t.mask:=by have:=GZ t h K;lia
 have keep:∀(Q:SetTable),Q={ t with place:=insertAt t.place (below t.place (ar t h K).j) (ar t h K).j }->∀j,t.slot j≠.empty->Q.slot j≠.empty:=by
  intro Q e' j q z;subst e';let z':=(pN (t:={ t with place:=insertAt t.place (below t.place (ar t h K).j) (ar t h K).j }) rr T.nod).mp z;show q ((pN T.ris T.nod).mpr λi e=>?_);obtain c|c:=fU i (below t.place (ar t h K).j)
  . show z' i ?_;rw[iC _ W,aE c];show e
  . show z' (i+1) ?_;rw[iC _ W,bh (),bh ()];show e
 show#[T.msz,T.nod,rr,λi j e=>?_,?_,λi j h' e F=>?_]
 . rw[iC _ W]at e;split at e
   . show T.bnd _ _ e
   . split at e
     . grind
     . show T.bnd _ _ e
 . rw[n6];show N
 . let rc:=λn=>t8 (t:={ t with place:=insertAt t.place (below t.place (ar t h K).j) (ar t h K).j }) (t':=t) O h' n;have mt:Ec t h' j\/(h'=h/\j=(ar t h K).j):=by
    rw[iC _ W]at e;unfold Lr at F;split at e
    . rename_i c;rw[aE c]at F;show Zl (T.rch i j h' e F)
    . rename_i c;rw[bh c]at F;split at e
      . grind
      . rename_i c2;rw[bh c2]at F;show Zl (T.rch _ j h' e F)
   obtain⟨n,en,q⟩|⟨rfl,rfl⟩:=mt
   . show#[n,by rw[rc];show en,λl hl=>by rw[rc];show keep _ O _ (q l hl)]
   . show#[K,by rw[rc],λl hl=>by rw[rc];show keep _ O _ (f.2 l hl)]
abbrev nF(m:Nat)(h:Int):Nat->Nat×Nat:=lp m (bits h%(m+1),bits h)
abbrev rl(m:Nat)(h:Int)(n:Nat):Nat:=runEnd m (nF m h n).1-(nF m h n).1
def sn(m:Nat)(h:Int):Nat->Nat
 |0=>0
 |n+1=>sn m h n+rl m h n+1
theorem Qv(t:SetTable)(h:Int):∀n,ar t h (sn t.mask h n)=#[(nF t.mask h n).1,rl t.mask h n,(nF t.mask h n).1,(nF t.mask h n).2,J]
 |0=>rfl
 |n+1=>by let e:=Qv t h n;let q:=yf t h _ _ _ e (cK _);rw[kz]at q;show t.advance (ar t h (sn t.mask h n+rl t.mask h n))=_;rw[q];rfl
def G3(t:SetTable)(h:Int)(hk:k<=rl t.mask h n):(ar t h (sn t.mask h n+k)).j=(nF t.mask h n).1+k:=by rw[yf t h _ _ _ (Qv t h n) hk]
abbrev Fr(ow:Array (Option Nat))(j:Nat):Prop:=(ow.getD j (!0)).isNone=G
theorem Io(t:SetTable)(ow:Array (Option Nat))(h:Int):∀(i n:Nat),
 (∀j,layClean.free t.mask ow i (nF t.mask h n).1 (nF t.mask h n).2=!j->∃s,sn t.mask h n<=s/\(ar t h s).j=j/\Fr ow j/\∀l,sn t.mask h n<=l->l<s->¬ Fr ow (ar t h l).j)/\
 ((∃n',n<=n'/\ n'<n+i/\Fr ow (nF t.mask h n').1)->∃j,layClean.free t.mask ow i (nF t.mask h n).1 (nF t.mask h n).2=!j)
 |0=>λn=>#[λj e=>by (unfold layClean.free at e;cases e),λD=>by let(n',a,b,_):=D;show absurd b ()]
 |i+1=>λn=>by
  let Q:=Io t ow h i (n+1);have e1:nF t.mask h (n+1)=leap t.mask (nF t.mask h n).1 (nF t.mask h n).2:=O;let hr:=vJ t.mask (nF t.mask h n).1;unfold layClean.free;cases F:(range (runEnd t.mask (nF t.mask h n).1+1-(nF t.mask h n).1)).find? (λk=>(ow.getD ((nF t.mask h n).1+k) (!0)).isNone) with
  |some k=>
   show#[λj e=>?_,λ_=>#[_,O]];cases e;have hk:k<=rl t.mask h n:=by have:=mem_of_find?_eq_some F;rw[mem_range]at this;lia
   show#[sn t.mask h n+k,rg _ _,G3 t h hk,by have:=find?_some F;show this,λl h1 h2=>?_];obtain⟨c,rfl⟩:∃c,l=sn t.mask h n+c:=#[l-sn t.mask h n,()];rw[G3 t h (show c<=rl t.mask h n by lia)];intro z;rw[find?_range_eq_some]at F;have:=F.2.2 c ();grind
  |none=>
   have N:∀c,c<=rl t.mask h n->¬ Fr ow ((nF t.mask h n).1+c):=λc hc z=>by have:=find?_eq_none.mp F c ∅;show this z
   show#[λj e=>?_,λ⟨n',a,b,z⟩=>?_]
   . let(s,a1,a2,a3,a4):=Q.1 j ();have a1':sn t.mask h n+rl t.mask h n+1<=s:=a1;show#[s,(),a2,a3,λl h1 h2=>?_];obtain c|c:=fU (sn t.mask h n+rl t.mask h n) l
     . show a4 l c h2
     . obtain⟨W,rfl⟩:∃c,l=sn t.mask h n+c:=#[l-sn t.mask h n,()];rw[G3 t h (show W<=rl t.mask h n by lia)];show N W ()
   . obtain d|d:=Nat.eq_or_lt_of_le a
     . subst d;show absurd z (by have:=N 0 ();show this)
     . let(j,q):=Q.2 #[n',d,(),z];show#[j,by rw[e1]at q;show q]
def Ls{ow:Array (Option Nat)}:Fr ow j ↔ ow[j]?=!J:=by
 show (ow.getD j (!0)).isNone=G ↔ _;rw[Array.getD_eq_getD_getElem?];cases ow[j]? with
 |none=>grind
 |some x=>
  cases x with
  |none=>grind
  |some y=>grind
structure OI(t:SetTable)(hs:List Int)(ow:Array (Option Nat))(k:Nat):Prop where
 size: ~~~ow=t.mask+1
 free:∃F:List Nat,F.Nodup/\-F+k=t.mask+1/\∀j,j∈F ↔ ow[j]?=!none
 own:∀i,i<k->∃j:Nat,ow[j]?=!(!i)
 lt:∀(j:Nat) i,ow[j]?=!(!i)->i<k
 uni:∀(j j':Nat) i,ow[j]?=!(!i)->ow[j']?=!(!i)->j=j'
 rch:∀(j:Nat)(i:Nat) h,ow[j]?=!(!i)->hs[i]?=!h->∃n,(ar t h n).j=j/\∀l,l<n->ow[(ar t h l).j]?≠!none
def OI.start(t:SetTable)(hs:List Int):OI t hs (Array.replicate (t.mask+1) J) 0:=by
 have g:∀j,(Array.replicate (t.mask+1) (J:Option Nat))[j]?=if j<t.mask+1 then !J else J:=λj=>Array.getElem?_replicate
 show#[Array.size_replicate,#[range (t.mask+1),nodup_range,by rw[g9],λj=>?_],λi h=>absurd h (),λj i e=>?_,λj D i e=>?_,λj i h e=>?_]
 . rw[g,mem_range];split
   . grind
   . grind
 all_goals
  grind
def OI.step{ow:Array (Option Nat)}(hm:wD (t.mask+1))(D:OI t hs ow k)(hk:k<=t.mask)(hh:hs[k]?=!h):
 ∃j,layClean.free t.mask ow (turns t.mask) (bits h%(t.mask+1)) (bits h)=!j/\OI t hs (ow.setIfInBounds j (!k)) (k+1):=by
 let(F,n1,n2,n3):=D.free;obtain⟨Q,W⟩:∃j,j∈F:=by
  cases F with
  |nil=>simp at n2;lia
  |cons a F=>show#[a,cf]
 have Sa:Q<=t.mask:=by
  have:Q< ~~~ow:=by
   obtain c|c:=fU Q ow.size
   . show c
   . grind
  rw[D.size]at this;lia
 let(n',oT,Sb):=Xb hm h Sa;let sp:=Io t ow h (turns t.mask) 0;let(j,ej):=sp.2 #[n',gz _,by unfold turns;lia,by show Fr ow (lp _ _ _).1;rw[Sb];show Ls.mpr ((n3 Q).mp W)];let(s,_,r1,r2,r3):=sp.1 j ej;show#[j,ej,?_];let fj:=Ls.mp r2;have lj:j< ~~~ow:=by
  obtain c|c:=fU j ow.size
  . show c
  . rw[kS c]at fj;grind
 have g:∀x,(ow.setIfInBounds j (!k))[x]?=if x=j then !(!k) else ow[x]?:=λx=>by
  rw[Array.getElem?_setIfInBounds];split
  . grind
  . grind
 have nn:∀x,ow[x]?≠!J->(ow.setIfInBounds j (!k))[x]?≠!J:=λx q=>by
  rw[g];split
  . grind
  . show q
 show#[by rw[Array.size_setIfInBounds];show D.size,#[F.erase j,n1.erase j,?_,λx=>?_],λi hi=>?_,λx i e=>?_,λx x' i e N=>?_,λx i h' e eh=>?_]
 . rw[length_erase_of_mem ((n3 j).mpr fj)];lia
 . rw[n1.mem_erase_iff,n3,g];constructor
   . rintro⟨a,b⟩;rw[bh a];show b
   . intro z;split at z
     . cases z
     . rename_i q;show#[q,z]
 . obtain c|c:=fU i k
   . let(x,ex):=D.own i c;show#[x,?_];rw[g,bh]
     . show ex
     . intro z;rw[z,fj]at ex;cases ex
   . obtain rfl:i=k:=()
     show#[j,by rw[g,aE O]]
 . rw[g]at e;split at e
   . cases e;show nv _
   . show j3 (D.lt _ _ e)
 . rw[g]at e N;split at e
   . rename_i q;split at N
     . rename_i q';rw[q,q']
     . show absurd (D.lt _ _ N) ()
   . split at N
     .  show absurd (D.lt _ _ e) ()
     . show D.uni _ _ _ e N
 . rw[g]at e;split at e
   . rename_i q;cases e;rw[hh]at eh;cases eh;show#[s,by rw[q];show r1,λl hl=>nn _ λz=>r3 l (gz _) hl (Ls.mpr z)]
   . let(n,a,b):=D.rch x i h' e eh;show#[n,a,λl hl=>nn _ (b l hl)]
theorem OI.fold(F:wD (t.mask+1)):∀(rest:List Int)(k:Nat)(ow:Array (Option Nat)),OI t hs ow k->(∀i,rest[i]?=hs[k+i]?)->k+-rest<=t.mask+1->
 ∃q,rest.foldl (λacc h=>do
  let (owner,k) <-acc
  let j <-layClean.free t.mask owner (turns t.mask) (bits h%(t.mask+1)) (bits h)
  pure (owner.setIfInBounds j (!k),k+1)) (!(ow,k))=!(q,k+-rest)/\OI t hs q (k+-rest)
 |[]=>λk ow z _ _=>#[ow,O,z]
 |h::rest=>λk ow z e l=>by
  rw[c5]at l
  let(j,Q,D):=z.step F () (by have:=e 0;simpa using this.symm)
  let(q,N,W):=OI.fold F rest (k+1) _ D (λi=>by have:=e (i+1);rw[getElem?_cons_succ]at this;rw[this];congr 1;lia) ()
  show#[q,?_,by rw[c5,show k+(-rest+1)=k+1+-rest by omega];show W]
  rw[kC,c5]
  have:k+(-rest+1)=k+1+-rest:=()
  rw[this,<-N]
  congr 1
  show (Option.bind (!(ow,k)) _)=_
  rw[cr]
  dsimp only
  rw[Q]
  rfl
def jg(m:Nat)(ow:Array (Option Nat)):List (Nat×Nat):=(range (m+1)).filterMap λj=>(ow.getD j J).map (j,·)
def Xc{ow:Array (Option Nat)}(hs: ~~~ow=m+1):(j,i)∈jg m ow ↔ ow[j]?=!(!i):=by
 unfold jg;rw[j6];constructor
 . rintro⟨a,z,e⟩;rw[Array.getD_eq_getD_getElem?]at e;cases q:ow[a]? with
   |none=>rw[q]at e;cases e
   |some x=>
    rw[q]at e;cases x with
    |none=>cases e
    |some y=>grind
 . intro e;have l:j< ~~~ow:=by
    obtain c|c:=fU j ow.size
    . show c
    . grind
   grind
def Sc(m:Nat)(ow:Array (Option Nat)):(jg m ow).Pairwise λa b=>a.1<b.1:=by
 show Pairwise.filterMap _ (λa b D x j y i=>?_) pairwise_lt_range;have N:x.1=a:=by
  cases q:ow.getD a J with
  |none=>grind
  |some z=>rw[q]at j;grind
 have F:y.1=b:=by
  cases q:ow.getD b J with
  |none=>grind
  |some z=>grind
 grind
def U4(hm:wD (m+1))(hl: ~~~D<=m):
 ∃pl order,laid m f mv Q W D=!(#[m,pl,#[],f,Q,mv,W],order)/\order.toList.Perm (range D.size)/\pl.size= ~~~order/\
  sV #[m,pl,#[],f,Q,mv,W] λi=>(order[i]?).bind λk=>D[k]?:=by
 let t:SetTable:=#[m,#[],#[],f,Q,mv,W];let(ow,e,F):=OI.fold hm D.toList 0 _ (OI.start t _) (λi=>by rw[iX]) (by rw[g8];show _<=m+1;lia);rw[iX]at F e;have ec:layClean m D=!ow:=by unfold layClean;rw[<-Array.foldl_toList];let e':=e;show(gT (Option.map λx:Array (Option Nat)×Nat=>x.1) e').trans O
 let pw:=Sc m ow;have ml:∀{j i:Nat},(j,i)∈jg m ow ↔ ow[j]?=!(!i):=λ{j i}=>Xc F.size;have Se:((jg m ow).map (·.2)).Nodup:=by show pairwise_map.mpr (Pairwise.imp_of_mem (λ{a b} ha hb sM z=>?_) pw);let z2:=ml.mp hb;rw[<-z]at z2;have:=F.uni _ _ _ (ml.mp ha) z2;lia
 have pr:((jg m ow).map (·.2)).Perm (range D.size):=by
  show(perm_ext_iff_of_nodup Se nodup_range).mpr λi=>?_;rw[mem_range,dA];constructor
  . rintro⟨x,hx,rfl⟩;show F.lt _ _ (ml.mp hx)
  . intro hi;let(j,ej):=F.own i hi;show#[(j,i),ml.mpr ej,O]
 have N:∀{i:Nat}{j:Nat},(((jg m ow).map (·.1)).toArray)[i]?=!j->∃k,(jg m ow)[i]?=!(j,k):=λ{i j} q=>by
  rw[getElem?_toArray,dS]at q;cases z:(jg m ow)[i]? with
  |none=>grind
  |some x=>rw[z]at q;cases q;grind
 have rs:Fe ((jg m ow).map (·.1)).toArray:=λa b x y sM ex ey=>by let(k1,e1):=N ex;let(k2,e2):=N ey;let(l1,q1):=eM.mp e1;let(l2,q2):=eM.mp e2;have:=pairwise_iff_getElem.mp pw a b l1 l2 sM;rw[q1,q2]at this;show this
 show#[((jg m ow).map (·.1)).toArray,((jg m ow).map (·.2)).toArray,?_,by simpa using pr,by simp,#[hm,O,rs,λi j q=>?_,?_,λi j h q eh=>?_]]
 . unfold laid;rw[ec];rfl
 . let(k,ek):=N q;let z:=ml.mp (fL ek);obtain c|c:=fU j ow.size
   . have:= ~~~F;show j<=m;have: ~~~ow=m+1:= ~~~F;lia
   . rw[kS c]at z;cases z
 . have:=pr.length_eq;rw[ck,g9]at this;show ((jg m ow).map (·.1)).toArray.size<=m;simp[this];show hl
 . let(k,ek):=N q;let z:=ml.mp (fL ek);have eo:(((jg m ow).map (·.2)).toArray)[i]?=!k:=by rw[getElem?_toArray,dS,ek];rfl
   rw[eo]at eh;have zn:D.toList[k]?=!h:=by rw[fS];show eh
   let(n,r1,r2):=F.rch j k h z zn;let rc:=λx=>t8 (t:=#[m,((jg m ow).map (·.1)).toArray,#[],f,Q,mv,W]) (t':=t) O h x;show#[n,by rw[rc];show r1,λl Sf=>?_];rw[rc];intro em;let Si:=(pN rs O).mp em;have le:(ar t h l).j<=m:=by have:=GZ t h l;have e:t.mask=m:=O;lia
   have lt:(ar t h l).j< ~~~ow:=by have: ~~~ow=m+1:= ~~~F;lia
   let eg:=m_ lt;cases q3:ow[(ar t h l).j] with
   |none=>rw[q3]at eg;show r2 l Sf eg
   |some i3=>
    rw[q3]at eg;let(i4,e4):=getElem?_of_mem (ml.mpr eg);show Si i4 (by show (((jg m ow).map (·.1)).toArray)[i4]?=_;rw[getElem?_toArray,dS,e4];rfl)
section
variable {prog:Program}{w:World}{A:Around}{E:Value->Shared->Prop}{s:Shared}{K:Type}[DecidableEq K]{knd:HeapKind prog w K}
structure EH(knd:HeapKind prog w K)(h:Heap)(es:Array (Int×Value))(ks:List K):Prop where
 sz: ~~~es=-ks
 at_:∀(i:Nat)(e:Int×Value),es[i]?=!e->∃k b,ks[i]?=!k/\e=(knd.hash k,.ref b)/\knd.is h k b
def wH(es:Array (Int×Value))(i:Nat):Option Int:=(es[i]?).map (·.1)
def vK(knd:HeapKind prog w K):Prop:=∀{A:Around}{E:Value->Shared->Prop}{s:Shared}{k:K}{a:Addr}{Q:Bool->Shared->Prop},knd.is s.heap k a->Q M s->wpAny (model prog w) A (ofAClassStatement 8 (YV a)) Q E s
def Sj(N:vK knd)(z:knd.is s.heap x b)(h:Q M s):∀(vs:List Value),(∀v∈vs,∃k c,v=YV c/\knd.is s.heap k c)->
 wpAny (model prog w) A (searchCouldBeSeen (YV b) vs) Q E s:=by
 intro vs W;show al (wpAny_forIn_list _ (λrest r s'=>r.1=J/\s'=s/\∀v∈rest,∃k c,v=YV c/\knd.is s.heap k c) _ ?_ ?_ _ _ #[O,O,W])
 . rintro v rest r s' ⟨q,rfl,j⟩;let(k,c,rfl,hk):=j v cf;have F:∀{D:Option Bool×PUnit},D.1=J->(D.1=J/\s'=s'/\∀v∈rest,∃k c,v=Value.ref c/\knd.is s'.heap k c):=λe=>#[e,O,λu i=>j u (dP _ i)];dsimp only;split
   . show bv (F O)
   . show al (knd.quiet z ?_);show al (knd.quiet hk ?_);show al (N z ?_);show al (N hk ?_);show bv (F O)
 . rintro⟨r1,r2⟩ s' ⟨q,rfl,_⟩;subst q;show bv h
def Ox(h:Q G s):wpAny (model prog w) A (isSame (YV c) (YV c)) Q E s:=by unfold isSame;dsimp only;rw[aE (mh c)];show bv h
def Sk{t:SetTable}(i:wD (t.mask+1)):t.gaveWay=M:=by
 unfold gaveWay;have:t.mask%2=1:=by rcases i with e|e|e|e|e|e<;>lia
 grind
theorem Ip(nc:vK knd){ep KK:Nat}(hr:knd.room A)(ho:s.heap.get? a=!o)(hd:o.data=.set es ep t)(D:t.fits es.size=G)
 (W:EH knd s.heap es ks) (T:sV t (wH es)) (hx:knd.is s.heap x b) (f:wF t (knd.hash x) KK) (hK:KK<10*turns t.mask) (q1:x∈ks->Q (.there J) s) (q2:x∉ks->Q (.free (ar t (knd.hash x) KK).j M) s):
 ∀(q k:Nat)(st:Option Probe),st.getD (t.probeStart (knd.hash x))=ar t (knd.hash x) k->k<=KK->KK-k<q->(∀l,l<k->∀i,t.slot (ar t (knd.hash x) l).j=.live i->ks[i]?≠!x)->
  wpAny (model prog w) A (setSearchFrom a (YV b) (knd.hash x) G q st) Q E s
 |0=>λk st _ _ h3 _=>absurd h3 ∅
 |q+1=>λk st h1 h2 h3 h4=>by
  show al (wpAny_setState_of ho hd D ?_);dsimp only;rw[Sk T.msz];simp only[g7,if_false];rw[h1];unfold probe;generalize hg:probe.go t _ (knd.hash x) (10*turns t.mask) (ar t (knd.hash x) k)=g;obtain⟨l,i,a1,a2,a3,a4,a5,a6⟩|⟨a1,a2⟩:=Qt (hashAt:=λi=>((es[i]?).map (·.1)).getD 0) (Qu T.nod) f (10*turns t.mask) k h2 ()
  . obtain rfl:g=_:=hg.symm.trans a5;dsimp only;let pi:=Im a3;have li:i< ~~~es:=by
     obtain c|c:=Nat.lt_or_ge i t.place.size
     . have: ~~~t.place= ~~~es:=by unfold fits at D;simp at D;show D.1
       lia
     . grind
    let F:=Array.getElem?_eq_getElem li;let(y,c,e1,e2,e3):=W.at_ i _ F;rw[e2]at F;have sv:∀v∈(es.filter λe=>e.1==knd.hash x).toList.map (·.2),∃k c,v=Value.ref c/\knd.is s.heap k c:=λv hv=>by let(e,he,rfl):=dA.mp hv;let(N,sD,rfl):=Array.mem_iff_getElem.mp (Array.mem_of_mem_filter (Array.mem_toList_iff.mp he));let(y',c',f1,f2,f3):=W.at_ N _ (Array.getElem?_eq_getElem sD);show#[y',c',by rw[f2],f3]
    cases hl:t.led
    case' false=>
     simp only[Bool.not_false,if_true];show al (Sj nc hx ?_ _ sv);simp only[g7,if_false]
    case' true=>
     simp only[Bool.not_true,g7,if_false]
    all_goals
     rw[F];dsimp only;show al (wpAny_holding (knd.eqBool hr e3 hx ?_));show al (wpAny_setState_of ho hd D ?_);dsimp only;by_cases hy:y=x
     . rw[k5 hy];simp only[Bool.and_true,if_true];show bv (q1 (hy▸fL e1))
     . rw[mf hy];simp only[Bool.and_false,g7,if_false];have sm:t.sameMemory t.moves t.mask=!G:=by unfold sameMemory;rw[aE (mh _)]
       rw[sm];simp only[if_true];rw[a3];dsimp only;rw[F];dsimp only;show al (Ox ?_);show al (bv ?_);simp only[if_true];show Ip nc hr ho hd D W T hx f hK q1 q2 q (l+1) _ O a2 () λl' sw N e'=>?_;obtain c1|c1:=Nat.lt_or_ge l' k
       . show h4 l' c1 N e'
       . obtain c2|c2:=Nat.lt_or_ge l' l
         . intro z;have zq:N< ~~~es:=by
            rw[W.sz];obtain c3|c3:=Nat.lt_or_ge N (-ks)
            . show c3
            . rw[Cg c3]at z;cases z
           let ee:=Array.getElem?_eq_getElem zq;let(y',c',f1,f2,f3):=W.at_ N _ ee;rw[z]at f1;cases f1;show a6 l' c1 c2 N e' (by rw[ee,f2];rfl)
         . obtain rfl:l'=l:=()
           rw[a3]at e';cases e';rw[e1];show λz=>hy (fw z)
  . obtain rfl:g=_:=hg.symm.trans a2;dsimp only;show bv (q2 λhm=>?_);let(i,F):=getElem?_of_mem hm;have li:i< ~~~es:=by
     rw[W.sz];obtain c|c:=Nat.lt_or_ge i (-ks)
     . show c
     . rw[Cg c]at F;cases F
    let ee:=Array.getElem?_eq_getElem li;let(y,c,e1,e2,e3):=W.at_ i _ ee;rw[F]at e1;cases e1;have hp:i< ~~~t.place:=by
     have: ~~~t.place= ~~~es:=by unfold fits at D;simp at D;show D.1
     lia
    have zn:wH es i=!(knd.hash x):=by unfold wH;rw[ee,e2];rfl
    let(l,hl,e4,e5):=T.ahead f (Array.getElem?_eq_getElem hp) zn;obtain c|c:=Nat.lt_or_ge l k
    . show h4 l c i e5 F
    . show a1 l c hl i e5 (by rw[ee,e2];rfl)
end
def sV.congr(T:sV t hs)(D:t'.mask=t.mask)(z:t'.place=t.place)(N:t'.dummies=t.dummies)(Q:∀i,kD i=hs i):sV t' kD:=by
 have sl:∀j,t'.slot j=t.slot j:=λj=>by unfold slot;rw[z,N]
 show#[by rw[D];show T.msz,by rw[N];show T.nod,by rw[z];show T.ris,λi j e=>?_,by rw[D,z];show T.room,λi j h e q=>?_]
 . rw[z]at e;rw[D];show T.bnd i j e
 . rw[z]at e;rw[Q]at q;let(n,a,b):=T.rch i j h e q;let F:=λn=>t8 D h n;show#[n,by rw[F];show a,λl W=>by rw[F,sl];show b l W]
theorem Ff{α β:Type}{f:α->Option β}:∀{l:List α},(∀x∈l,∃y,f x=!y)->∀i:Nat,(l.filterMap f)[i]?=(l[i]?).bind f
 |[]=>λ_ i=>by simp
 |x::l=>λh i=>by
  let(y,e):=h x cf;rw[filterMap_cons_some e];cases i with
  |zero=>simp[e]
  |succ i=> show Ff (λz j=>h z (dP _ j)) i
theorem uM{α β:Type}{f:α->Option β}:∀{l:List α},(∀x∈l,∃y,f x=!y)->-(l.filterMap f)=-l
 |[]=>λ_=>rfl
 |x::l=>λh=>by let(y,e):=h x cf;rw[filterMap_cons_some e,c5,c5,uM λz i=>h z (dP _ i)]
def Xd{β:Type}(l:List β):(range (-l)).filterMap (λi=>l[i]?)=l:=by
 show ext_getElem? λi=>?_;rw[Ff λx j=>?_]
 . obtain c|c:=fU i (-l)
   . rw[LW c];rfl
   . grind
 . grind
section
variable {prog:Program}{w:World}{A:Around}{E:Value->Shared->Prop}{s:Shared}{K:Type}[DecidableEq K]{knd:HeapKind prog w K}
structure qT(knd:HeapKind prog w K)(h:Heap)(a:Addr)(es:Array (Int×Value))(ep:Nat)(t:SetTable)(led:Bool)(ks:List K):Prop extends lZ h a es ep t led where
 el:EH knd h es ks
 nd:ks.Nodup
 ti:sV t (wH es)
 nf: ~~~t.place*5<t.mask*3
def yh(knd:HeapKind prog w K):Prop:=∀{h h':Heap}{k:K}{b d:Addr}{o:Obj}{es:Array (Int×Value)}{ep:Nat}{t:SetTable},knd.is h k b->h.get? d=!o->o.data=.set es ep t->Heap.SameBut d h h'->knd.is h' k b
def Bo(knd:HeapKind prog w K)(ok:K->Prop):Prop:=∀{A:Around}{E:Value->Shared->Prop}{s:Shared}{k:K}{a:Addr}{Q:Bool->Shared->Prop},ok k->knd.is s.heap k a->Q M s->wpAny (model prog w) A (hashByValue 8 (YV a)) Q E s
def EH.ins(e:EH knd h es ks)(D:p<= ~~~es)(F:knd.is h x b):EH knd h (insertAt es p (knd.hash x,YV b)) (insertAt ks.toArray p x).toList:=by
 have z:p<= ~~~ks.toArray:=by rw[gx,<-e.sz];show D
 show#[by simp only[n6,g8,gx,e.sz],λi y q=>?_];rw[fS,iC _ z];rw[iC _ D]at q;split
 . rename_i c;rw[aE c]at q;rw[getElem?_toArray];show e.at_ i y q
 . rename_i c;rw[bh c]at q;split
   . grind
   . rename_i j;rw[bh j]at q;rw[getElem?_toArray];show e.at_ _ y q
def Xe(ks:List α)(p:Nat)(x:α):(insertAt ks.toArray p x).toList.Perm (x::ks):=by rw[tM];show gI.trans ?_;grind
def Sm(j:p<= ~~~es)(e:Int×Value)(i:Nat):wH (insertAt es p e) i=Lr (wH es) p e.1 i:=by
 unfold wH Lr;rw[iC _ j];split
 . rfl
 . split<;>rfl
def EH.keep(kp:yh knd)(e:EH knd h es ks)(F:h.get? a=!o)(W:o.data=.set es0 ep t)(D:Heap.SameBut a h h'):EH knd h' es ks:=
 #[e.sz,λi y q=>by let(k,b,N,j,z):=e.at_ i y q;show#[k,b,N,j,kp z F W D]]
def sN(i:wD (m+1))(h1:n*5<m*3)(h2:m*3<=(n+1)*5)(j:n+1<19000):wD (sizeAbove (grown (n+1))-1+1)/\4*(n+1)<=sizeAbove (grown (n+1))-1/\sizeAbove (grown (n+1))<=32768:=by
 obtain e|e|e|e|e|e|e:=i
 . obtain rfl:n=4:=()
   show#[YY (Zl O),by decide,by decide]
 . obtain rfl:n=18:=()
   show#[YY (YY (Zl O)),by decide,by decide]
 . obtain rfl:n=76:=()
   show#[YY (YY (YY (Zl O))),by decide,by decide]
 . obtain rfl:n=306:=()
   show#[YY (YY (YY (YY (Zl O)))),by decide,by decide]
 . obtain rfl:n=1228:=()
   show#[YY (YY (YY (YY (YY (Zl O))))),by decide,by decide]
 . obtain rfl:n=4914:=()
   show#[YY (YY (YY (YY (YY (YY O))))),by decide,by decide]
 . lia
def EH.order(e:EH knd h es ks){o:Array Nat}(D:o.toList.Perm (range es.size)):
 ∃j,EH knd h (o.filterMap (es[·]?)) j/\j.Perm ks/\(o.filterMap (es[·]?)).size= ~~~es/\∀i,wH (o.filterMap (es[·]?)) i=(o[i]?).bind λk=>(es.map (·.1))[k]?:=by
 have z:∀k∈o.toList,k< ~~~es:=λk hk=>mem_range.mp ∅;have F:∀k∈o.toList,∃y,es[k]?=!y:=λk hk=>#[es[k]'(z k hk),m_ (z k hk)];have Q:∀k∈o.toList,∃y,ks[k]?=!y:=λk hk=>#[ks[k]'(by rw[<-e.sz];show z k hk),gg _];have tl:(o.filterMap (es[·]?)).toList=o.toList.filterMap (es[·]?):=Array.toList_filterMap;have W:∀i:Nat,(o.filterMap (es[·]?))[i]?=(o[i]?).bind (es[·]?):=λi=>by rw[<-fS,tl,Ff F,fS]
 have ln: ~~~(o.filterMap (es[·]?))= ~~~es:=by rw[<-g8,tl,uM F,D.length_eq,g9]
 show#[o.toList.filterMap (ks[·]?),#[?_,λi y q=>?_],?_,ln,λi=>?_]
 . rw[ln,uM Q,D.length_eq,g9]
 . rw[W]at q;rw[Ff Q,fS];cases N:o[i]? with
   |none=>grind
   |some k=>
    rw[N]at q;show e.at_ k y q
 . have:=D.filterMap (ks[·]?);rw[e.sz,Xd]at this;grind
 . unfold wH;rw[W];cases o[i]? with
   |none=>rfl
   |some k=>grind
def Sn(nc:vK knd)(kp:yh knd)(bt:Bo knd ok)(hr:knd.room A)(S:qT knd s.heap a es ep t led ks)(room: ~~~es+1<kY)(hx:knd.is s.heap x b)(So:ok x)
 (h:∀r h' W sj t' wb,Heap.SameBut a s.heap h'->qT knd h' a W sj t' led wb->(∀y,y∈wb ↔ y∈ks\/y=x)-> ~~~W<= ~~~es+1->Q r { s with heap:=h' }):
 wpAny (model prog w) A (setAddHashed a (YV b) (knd.hash x)) Q E s:=by
 unfold setAddHashed setAddHashedIn
 show kq (al (ng S.at_ O S.fits ?_))
 dsimp only
 have bs:byScan (YV b) es=M:=by unfold byScan;rfl
 rw[bs]
 simp only[g7]
 let(F,hK,f):=S.ti.first (knd.hash x)
 have tm:t.mask<=32767:=by rcases S.ti.msz with e|e|e|e|e|e|e<;>lia
 have ps: ~~~t.place= ~~~es:=by have:=S.fits;unfold fits at this;simp at this;show this.1
 let nf:=S.nf
 unfold setSearch
 show al (Ip nc hr S.at_ O S.fits S.el S.ti hx f (by unfold turns;have:=S.ti.room;lia) ?_ ?_ 100000 0 J O (gz _) (by have:kY=9900:=O;lia) (λl hl=>absurd hl ∅))
 . intro hm
   dsimp only
   show bv (h M s.heap es ep t ks (Heap.SameBut.refl a s.heap) S (λy=>#[Zl,λq=>q.elim id λq=>q▸hm]) (ma _))
 . intro hm
   dsimp only
   show al (ng S.at_ O S.fits ?_)
   dsimp only
   let pp:=U3_ S.ti.nod (ar t (knd.hash x) F).j
   rw[pp.1,pp.2]
   let(b1,b2,b3):=ud S.ti.ris (ar t (knd.hash x) F).j
   let TP:=S.ti.put f (by have:=S.ti.msz;rcases this with e|e|e|e|e|e<;>lia)
   have D: ~~~(insertAt es (below t.place (ar t (knd.hash x) F).j) (knd.hash x,Value.ref b))= ~~~es+1:=n6 _ _ _
   let ei:=S.el.ins (p:=below t.place (ar t (knd.hash x) F).j) () hx
   have Ee:∀i,wH (insertAt es (below t.place (ar t (knd.hash x) F).j) (knd.hash x,Value.ref b)) i=Lr (wH es) (below t.place (ar t (knd.hash x) F).j) (knd.hash x) i:=λi=>Sm () _ i
   have wc: ~~~(insertAt t.place (below t.place (ar t (knd.hash x) F).j) (ar t (knd.hash x) F).j)= ~~~es+1:=by rw[n6,ps]
   let pm:=Xe ks (below t.place (ar t (knd.hash x) F).j) x
   generalize (insertAt ks.toArray (below t.place (ar t (knd.hash x) F).j) x).toList=EA at ei pm
   generalize insertAt es (below t.place (ar t (knd.hash x) F).j) (knd.hash x,Value.ref b)=ii at D ei Ee ⊢
   generalize hP:insertAt t.place (below t.place (ar t (knd.hash x) F).j) (ar t (knd.hash x) F).j=P at TP wc ⊢
   have mem1:∀y,y∈EA ↔ y∈ks\/y=x:=λy=>by rw[pm.mem_iff,bP];show Or.comm
   let EB:=pm.nodup_iff.mpr (h_.mpr #[hm,S.nd])
   have fin:∀z:SetTable,z.mask=t.mask->z.place=P->z.dummies=t.dummies->z.led=t.led->z.plain=M->wpAny (model prog w) A (do
    storeSet a ii z
    if (not M&&z.tooFull)=G then do
     setRelay a (grown (~~~es+1))
     pure G
     else pure G) Q E s:=by
    intro z m2 p2 d2 l2 n2
    let T2:=TP.congr m2 p2 d2 Ee
    have bb: ~~~ii<kY:=by rw[D];show room
    show al (wpAny_storeSet_of S.at_ O ?_ (Bk bb))
    let g1:=Ex (es':=ii) (t':=z) S.at_
    let pE:=nw s.heap a (Obj.putSet ii z)
    let ek:=ei.keep kp S.at_ O pE
    have fl:z.fill= ~~~es+1:=by unfold SetTable.fill;rw[p2,wc,d2,S.ti.nod];rfl
    have ft:z.fits ii.size=G:=by
     unfold fits
     rw[fl,p2,wc,D,m2]
     have: ~~~es+1<=t.mask:=by have:=S.ti.msz;rcases this with e|e|e|e|e|e<;>lia
     simp[this]
    split
    . rename_i N
      have Sr:t.mask*3<=(~~~es+1)*5:=by
       rw[Bool.not_false,Bool.true_and]at N
       unfold tooFull at N
       rw[fl,m2]at N
       simpa using N
      let(Sz,gr2,gr3):=sN S.ti.msz (by rw[<-ps];show nf) Sr (by have:kY=9900:=O;lia)
      have hz: ~~~(ii.map (·.1))<=sizeAbove (SetTable.grown (~~~es+1))-1:=by rw[Array.size_map,D];lia
      let(pl,o,e1,e2,e3,e4):=U4 Sz hz
      have er:z.relaid (ii.map (·.1)) (SetTable.grown (~~~es+1))=_:=e1
      rw[Array.size_map]at e2
      let(SA,k1,k2,k3,k4):=ek.order e2
      show al ?_
      unfold setRelay
      show al (ng g1 O ft ?_)
      dsimp only
      rw[bh (by rw[iE];lia)]
      rw[er]
      show al (m:=(if (o.filterMap (ii[·]?)).size != ~~~ii then unsupported "internal:set-table-lost-an-element" else pure (o.filterMap (ii[·]?),_))) ?_
      rw[bh (by rw[k3];simp)]
      show bv ?_
      dsimp only
      have EC: ~~~(o.filterMap (ii[·]?))<kY:=by rw[k3];show bb
      show wpAny_storeSet_of g1 O ?_ (Bk EC)
      let g2:=Ex (es':=o.filterMap (ii[·]?)) (t':=#[SetTable.sizeAbove (SetTable.grown (~~~es+1))-1,pl,#[],z.finger,z.led,z.movedTo (SetTable.sizeAbove (SetTable.grown (~~~es+1))-1),z.plain]) g1
      let ED:=nw (s.heap.update a (Obj.putSet ii z)) a (Obj.putSet (o.filterMap (ii[·]?)) #[SetTable.sizeAbove (SetTable.grown (~~~es+1))-1,pl,#[],z.finger,z.led,z.movedTo (SetTable.sizeAbove (SetTable.grown (~~~es+1))-1),z.plain])
      have os: ~~~o= ~~~es+1:=by rw[<-g8,e2.length_eq,g9,D]
      have zs: ~~~(o.filterMap (ii[·]?))= ~~~es+1:=by rw[k3,D]
      show bv (h G _ (o.filterMap (ii[·]?)) _ _ SA (pE.trans ED) #[#[g2,EC,?_,l2.trans S.led,λ_=>n2],k1.keep kp g1 O ED,k2.nodup_iff.mpr EB,e4.congr O O O k4,?_] (λy=>by rw[k2.mem_iff];show mem1 y) ())
      . unfold SetTable.fits SetTable.fill
        show (~~~pl==_&&decide (~~~pl+0<=_))=G
        rw[zs,e3,os]
        simp
        lia
      . show pl.size*5<(SetTable.sizeAbove (SetTable.grown (~~~es+1))-1)*3
        rw[e3,os]
        lia
    . rename_i N
      show bv (h G _ ii _ z EA pE #[#[g1,bb,ft,l2.trans S.led,λ_=>n2],ek,EB,T2,?_] mem1 ())
      rw[Bool.not_false,Bool.true_and]at N
      unfold SetTable.tooFull at N
      rw[fl]at N
      rw[p2,wc]
      have:¬ (z.mask*3<=(~~~es+1)*5):=by simpa using N
      lia
   split
   . show al (bt So hx ?_)
     simp only[g7,if_false]
     show fin _ O O O O O
   . rename_i np
     show al (bv ?_)
     simp only[if_true]
     show fin _ O O O O (by simpa using np)
end
section
variable {prog:Program}
def Oz{K:Type}[DecidableEq K]{knd:PySem.KeyKind prog w K}:yh (tupleKind knd):=by
 intro h h' k b d o es W t x D N hs;let(o',items,n,j,F,q,hi):=x;have z:b≠d:=λe=>by rw[e,D]at j;cases j;rw[N]at q;cases q
 show#[o',items,n,(hs.2 b z).trans j,F,q,hi]
def OD(n:Nat)(h:carriedByValue v=G):ofAClassStatement n v=pure M:=by cases v<;>first |(unfold ofAClassStatement;rfl) |cases h
def OJ{K:Type}[DecidableEq K]{knd:PySem.KeyKind prog w K}:vK (tupleKind knd):=by
 intro A E s k a Q hk h;let D:=hk.typeIs;let(o,items,n,F,_,N,hi):=hk;unfold ofAClassStatement;show al (wpAny_typeOf D ?_);show al (bv ?_);show al (wpAny_seqItems F N ?_);show al ?_;rw[<-Array.forIn_toList];show wpAny_forIn_list _ (λrest r s'=>r.1=J/\s'=s/\∀v∈rest,carriedByValue v=G) _ ?_ ?_ _ _ #[O,O,hi.byValue]
 . rintro v rest r s' ⟨z,rfl,j⟩;rw[OD _ ∅];show bv #[O,O,λu q=>j u (dP _ q)]
 . rintro⟨W,i⟩ s' ⟨z,rfl,_⟩;subst z;show bv h
def uN(ks:List aV):Prop:=∃x:Str,some (Sum.inr x)∈ks

open A in
def O1:Bo (tupleKind (eV prog w)) uN:=by
 intro A E s k a Q hok hk h;let hT:=hk.typeIs;let(o,items,n,ho,_,hd,hi):=hk;show al (wpAny_specialOf hT F.slot_tuple_hash.lookup ?_);show al (wpAny_seqItems ho hd ?_);show al ?_;rw[<-Array.forIn_toList];show wpAny_forIn_list _ (λrest r s'=>s'=s/\r.1=J/\∃ks,uN ks/\ItemsAre (eV prog w) ks rest) _ ?_ ?_ _ _ #[O,O,k,hok,hi]
 . rintro v rest r s' ⟨rfl,hr,ks,⟨x,W⟩,N⟩;cases N with
   |cons q D=>
    rename_i k0 j;have go:k0≠!(Sum.inr x)->uN j:=λne=>#[x,(bP.mp W).resolve_left λe=>ne e.symm];obtain⟨rfl,rfl⟩|⟨y,rfl,hy⟩:=fH q
    . show bv #[O,O,j,go (λe=>by cases e),D]
    . obtain⟨i,u,rfl,rfl⟩|⟨z,u,rfl,rfl⟩:=dB hy
      . show bv #[O,O,j,go (λe=>by cases e),D]
      . show bv (bv h)
 . rintro⟨r1,r2⟩ s' ⟨rfl,hr,ks,⟨x,W⟩,N⟩;cases N;cases W
end
def Lw{prog:Program}{K:Type}[DecidableEq K](knd:HeapKind prog w K):Prop:=∀{h h':Heap}{k:K}{b:Addr},knd.is h k b->(∀o,h.get? b=!o->h'.get? b=!o)->knd.is h' k b
def Ad{K:Type}[DecidableEq K]{knd:PySem.KeyKind prog w K}:Lw (tupleKind knd):=by intro h h' k b x q;let(o,items,n,j,z,D,hi):=x;show#[o,items,n,q o j,z,D,hi]
theorem qT.moved{K:Type}[DecidableEq K]{knd:HeapKind prog w K}{ks:List K}(S:qT knd h a es ep t led ks)(k:∀o,h.get? a=!o->h'.get? a=!o)
 (F:∀x∈ks,∀b,knd.is h x b->knd.is h' x b):qT knd h' a es ep t led ks:=
 #[S.1.moved k,#[S.el.sz,λi y q=>by let(x,b,j,z,D):=S.el.at_ i y q;show#[x,b,j,z,F x (fL j) b D]],S.nd,S.ti,S.nf]
def Bp{prog:Program}{K:Type}[DecidableEq K](knd:HeapKind prog w K)(g:Addr->Prop):HeapKind prog w K where
 is:=λh k b=>knd.is h k b/\g b
 hash:=knd.hash
 draws:=knd.draws
 room:=knd.room
 inj:=λx y=>knd.inj x.1 y.1
 keeps:=λx a b c=>#[knd.keeps x.1 a b c,x.2]
 pyHash:=λr x q=>knd.pyHash r x.1 q
 eqBool:=λr x y q=>knd.eqBool r x.1 y.1 q
 quiet:=λx q=>knd.quiet x.1 q
section
variable {prog:Program}{w:World}{K:Type}[DecidableEq K]{knd:HeapKind prog w K}{g:Addr->Prop}
def EE(j:vK knd):vK (Bp knd g):=λx q=>j x.1 q
def SE(kp:yh knd):yh (Bp knd g):=λx a b c=>#[kp x.1 a b c,x.2]
def SG(bt:Bo knd ok):Bo (Bp knd g) ok:=λo x q=>bt o x.1 q
def qT.un(S:qT (Bp knd g) h a es ep t led ks):qT knd h a es ep t led ks:=
 #[S.1,#[S.el.sz,λi y q=>by let(x,b,D,j,z):=S.el.at_ i y q;show#[x,b,D,j,z.1]],S.nd,S.ti,S.nf]
end
theorem sV.fresh:sV (fresh f m l) (wH #[]):=by
 show#[Zl O,O,λa b x y _ e=>?_,λi j e=>?_,gz _,λi j h e=>?_]
 all_goals
  have q:(#[]:Array Nat)[_]?=!_:=e;grind
section
variable {prog:Program}{w:World}{A:Around}{E:Value->Shared->Prop}{s:Shared}{K:Type}[DecidableEq K]{knd:HeapKind prog w K}
def Xf(nc:vK knd)(kp:yh knd)(oo:Lw knd)(bt:Bo knd ok)(EG:knd.room A.in1.in1.in1){ad:Nat->Addr}{val:Nat->K}{Q:Value->Shared->Prop}(hh:A.handled=J)(hl:s.heap.IsList l items)(hi:∀(i:Nat)(v:Value),items[i]?=!v->v=Value.ref (ad i))(hk:∀i,i< ~~~items->knd.is s.heap (val i) (ad i)/\(∃o,s.heap.get? (ad i)=!o)/\ok (val i))(hb: ~~~items+1<kY)
 (h:∀(h':Heap)(tk:Nat) es ep t ks,qT knd h' s.heap.objs.size es ep t (not (byText w)) ks->(∀y,y∈ks ↔ ∃j,j< ~~~items/\val j=y)-> ~~~es<= ~~~items->(∀b o,b< ~~~s.heap.objs->s.heap.get? b=!o->h'.get? b=!o)->Q (YV s.heap.objs.size) { s with heap:=h',toks:=tk }):
 wpAny (model prog w) A (call (.type "set") [YV l]) Q E s:=by
 show set_of_G (T:=λi h=>(∀j,j< ~~~items->knd.is h (val j) (ad j))/\∃es ep t ks,qT (Bp knd (·< ~~~s.heap.objs)) h s.heap.objs.size es ep t (not (byText w)) ks/\(∀y,y∈ks ↔ ∃j,j<i/\val j=y)/\es.size<=i) hh hl ?_ ?_ ?_ ?_
 . intro h' g k;show#[λj D=>oo (hk j D).1 λo=>k _ o,_,_,_,_,#[#[g,by decide,O,O,λq=>by simp at q],#[O,λi e q=>by simp at q],rh,sV.fresh,(by decide:0*5<7*3)],by simp,cK _]
 . intro i h h' q k;let(F,es,ep,t,ks,S,r):=q;have kk:∀b o,b< ~~~s.heap.objs->h.get? b=!o->h'.get? b=!o:=λb o l=>k b o (eR (j3 l));show#[λj D=>oo (F j D) λo=>kk _ o (by let(_,(o,q),_):=hk j D;show dq q),es,ep,t,ks,S.moved (h':=h') (λo=>k _ o (eR (nv _))) λx hx b y=>#[oo y.1 λo=>kk b o y.2,y.2],r]
 . intro i v s' Q E lt e q k;let(F,es,ep,t,ks,S,m,z):=q;obtain rfl:=hi i v e;unfold setAdd;show wpAny_holding (al (knd.pyHash EG (F i lt) ?_));have la:∀j,j< ~~~items->ad j< ~~~s.heap.objs:=λj D=>by let(_,(o,q),_):=hk j D;show dq q
   show Sn (knd:=Bp knd (·< ~~~s.heap.objs)) (s:={ s' with toks:=s'.toks+knd.draws (val i) }) (EE nc) (SE kp) (SG bt) EG S () (x:=val i) #[F i lt,la i lt] (hk i lt).2.2 λb h' es' sj t' wb sb S2 m2 z2=>k b h' _ sb #[λj D=>oo (F j D) λo q=>?_,es',sj,t',wb,S2,mem_step m m2,()];rw[sb.2 (ad j) (eR (la j D))];show q
 . intro h' tk q k;let(F,es,ep,t,ks,S,m,z):=q;show h h' tk es ep t ks S.un m z k
end
noncomputable def da:aV->List Int
 |none=>[2]
 |some (.inl i)=>[0,i]
 |some (.inr x)=>1::x.cps.toList.map Int.ofNat
abbrev TC:=List (List Int)
@[reducible] def tupK (T:Addr->Option TC):PyProof.Rows.KeyKind where
 α:=TC
 blt a b:=decide (a<b)
 irrefl a:=by simpa using List.lt_irrefl a
 trans a b c h1 h2:=by simp only[decide_eq_true_eq]at *;show List.lt_trans h1 h2
 negTrans a b c h:=by
  simp only[decide_eq_true_eq]at *;by_cases sM:a<b
  . show Zl sM
  . show YY (List.lt_of_le_of_lt (List.not_lt.mp sM) h)
 total a b h1 h2:=by simp only[decide_eq_false_iff_not]at *;show List.le_antisymm (List.not_lt.mp h2) (List.not_lt.mp h1)
 keyOf v:=match v with |YV a=>T a |_=>J
 dflt:=[]
noncomputable def ph:aV->Nat
 |none=>2
 |some (.inl _)=>0
 |some (.inr _)=>1
def Ss{i bs:TC}(h:a≠b):(a::i<b::bs) ↔ a<b:=by rw[cons_lt_cons_iff];grind
def Xg{a b:List Nat}:(a.map Int.ofNat<b.map Int.ofNat) ↔ a<b:=by
 induction a generalizing b with
 |nil=>cases b with
  |nil=>grind
  |cons y b=>grind
 |cons x a i=>cases b with
  |nil=>grind
  |cons y b=>
   rw[fr,fr,cons_lt_cons_iff,cons_lt_cons_iff,i];show#[λz=>z.elim (λz=>Zl ∅) λz=>YY #[Int.ofNat.inj z.1,z.2],λz=>z.elim (λz=>Zl ∅) λz=>YY #[gT _ z.1,z.2]]
section
variable {prog:Program}{w:World}{A:Around}{s:Shared}
def SH(N:(eV prog w).is k u=G)(D:(eV prog w).is l v=G)(e:ph k=ph l)(ne:¬ k=l)(h:Q (decide (da k<da l)) s):wpAny (model prog w) A (oneLt' b u v) Q (λ_ _=>False) s:=by
 obtain⟨rfl,rfl⟩|⟨x,rfl,hx⟩:=fH N
 . obtain⟨rfl,_⟩|⟨y,rfl,F⟩:=fH D
   . show absurd O ne
   . rcases y with y|y<;>cases e
 . obtain⟨rfl,_⟩|⟨y,rfl,F⟩:=fH D
   . rcases x with x|x<;>cases e
   . rcases dB hx with ⟨i,t,rfl,rfl⟩|⟨i,t,rfl,rfl⟩<;>obtain⟨j,W,rfl,rfl⟩|⟨j,W,rfl,rfl⟩:=dB F
     . have q:decide (da (!(.inl i))<da (!(.inl j)))=decide (i<j):=decide_eq_decide.mpr (by show [0,i]<[0,j] ↔ _;simp[cons_lt_cons_iff])
       rw[q]at h;cases b with
       |true=>show oneLt_int h
       |false=>show kat_one _ _ (lt_int h)
     . cases e
     . cases e
     . have q:decide (da (!(.inr i))<da (!(.inr j)))=decide (i.cps.toList<j.cps.toList):=decide_eq_decide.mpr (by show (1::_:List Int)<1::_ ↔ _;rw[cons_lt_cons_iff,<-Xg];show#[λz=>z.elim (λz=>absurd z ()) (·.2),λz=>YY #[O,z]])
       rw[q]at h;cases b with
       |true=>show oneLt_str h
       |false=>show kat_one _ _ (lt_str h)
end
def Lx(h:da k=da l):k=l:=by
 obtain _|i|x:=k
 . obtain _|j|y:=l
   . rfl
   . cases h
   . cases h
 . obtain _|j|y:=l
   . cases h
   . cases h;rfl
   . cases h
 . obtain _|j|y:=l
   . cases h
   . cases h
   . let e:=(cons.inj h).2;let z:=(map_inj_right λa b q=>Int.ofNat.inj q).mp e;obtain⟨⟨y⟩⟩:=y;cases z;rfl
def Fg{k l:List aV}(h:k.map da=l.map da):k=l:=(map_inj_right λ_ _ q=>Lx q).mp h
section
variable {prog:Program}
theorem U5:∀{ks ls:List aV}{F vs:List Value}(i:Nat),ItemsAre (eV prog w) ks F->ItemsAre (eV prog w) ls vs->ks.map ph=ls.map ph->Q (decide (ks.map da<ls.map da)) s->KatLex prog w A b M Q (F.zip vs) i s
 |[],[],_,_,i,.nil,.nil=>λ_ h=>kat_nil h
 |[],_::_,_,_,i,.nil,.cons _ _=>λe _=>by cases e
 |_::_,[],_,_,i,.cons _ _,.nil=>λe _=>by cases e
 |k::ks,l::ls,u::F,v::vs,i,.cons N j,.cons W D=>λe h=>by
  let e1:=(cons.inj e).1;let e2:=(cons.inj e).2;show kat_cons ((eV prog w).eqBool N W (kat_go (λq=>?_) λq=>?_))
  . let q:=of_decide_eq_true q;subst q;show kat_yes (U5 (i+1) j D e2 ?_);have:decide ((k::ks).map da<(k::ls).map da)=decide (ks.map da<ls.map da):=by show decide_eq_decide.mpr ?_;rw[fr,fr,cons_lt_cons_iff];show#[λz=>z.elim (λz=>absurd z ∅) λz=>z.2,λz=>YY #[O,z]]
    grind
  . let q:=of_decide_eq_false q;show kat_no (SH N W e1 q ?_);have:decide ((k::ks).map da<(l::ls).map da)=decide (da k<da l):=by show decide_eq_decide.mpr ?_;show Ss λz=>q (Lx z)
    rw[this]at h;show h
def yj(prog:Program)(w:World)(sh:List Nat)(T:Addr->Option TC)(h:Heap):Prop:=∀x c,T x=!c->∃ks,c=ks.map da/\ks.map ph=sh/\(tupleKind (eV prog w)).is h ks x

open A in
def SI(N:yj prog w sh T s.heap):qF (tupK T) (tuples' b) prog w A s:=by
 intro E x y c d Q j i q;cases x<;>simp only[reduceCtorEq]at j;cases y<;>simp only[reduceCtorEq]at i;rename_i x y;let(ks,rfl,k1,o1,i1,n1,g1,_,d1,F):=N x c j;let(ls,rfl,W,o2,i2,n2,g2,_,d2,z):=N y d i;have len:∀{ks:List aV}{D:List Value},ItemsAre (eV prog w) ks D->-D=-ks:=λt=>by
  induction t with
  |nil=>rfl
  |cons _ _ ih=>grind
 have le: ~~~i1= ~~~i2:=by
  rw[<-g8,<-g8,len F,len z];have:=gT length (k1.trans W.symm)
  grind
 show kat_lt g1 d1 g2 d2 ?_;rw[mf ()];show U5 0 F z ∅ q
end
abbrev yX(T:Addr->Option TC)(v:Value):Option TC:=(tupK T).keyOf v
def yj.grown(t:yj prog w sh T h)(k:∀x c,T x=!c->∀o,h.get? x=!o->h'.get? x=!o):yj prog w sh T h':=λx c e=>by let(ks,q,i,j):=t x c e;show#[ks,q,i,Ad j (k x c e)]
section
variable {prog:Program}

open A in
theorem Fi(Q:yj prog w (0::sh) T h):∀(vs:List Value),(∀v∈vs,∃c,yX T v=!c)->∃fs,KatTups h vs fs/\-fs=-vs/\∀f∈fs,∃i t,f=Value.int i t
 |[]=>λ_=>#[[],KatTups.nil,O,λf q=>by cases q]
 |v::vs=>λN=>by
  let(fs,k1,k2,k3):=Fi Q vs λu z=>N u (dP _ z);let(c,ec):=N v cf;cases v<;>simp only[yX,reduceCtorEq]at ec;rename_i a;let(ks,e1,F,o,items,n,g,gc,gd,W):=Q a c ec;cases ks with
  |nil=>cases F
  |cons k ks=>
   generalize hl:items.toList=l at W;cases W with
   |cons z hus=>
    rename_i u us;have i0:items[0]?=!u:=by rw[<-fS,hl];rfl
    show#[u::fs,KatTups.cons g gc gd i0 k1,by rw[c5,c5,k2],λf j=>?_];obtain rfl|j:=bP.mp j
    . let D:=(cons.inj F).1;obtain⟨rfl,rfl⟩|⟨x,rfl,hx⟩:=fH z
      . cases D
      . obtain⟨i,t,rfl,rfl⟩|⟨i,t,rfl,rfl⟩:=dB hx
        . show#[i,t,O]
        . cases D
    . grind
def Xh(F:yj prog w (0::sh) T s.heap){vs:List Value}(q:∀v∈vs,∃c,yX T v=!c)(W:0< -vs)(h:Q (tuples' G) s):wpAny (model prog w) A (keyKind' vs.toArray) Q E s:=by
 let(fs,z,N,D):=Fi F vs q;show kat_kind (T:=.type "int") z () (λf j=>?_) () ?_
 . let(i,t,rfl):=D f j;show .now
 . show h
def Su{TT:String}{Q:Value->Shared->Prop}(nX:TT="set"\/TT="dict")(SK:s.TypeIs (YV d) TT)(hI:Ey prog w A.in1.in1 d ok { s with heap:=s.heap.push v6 })(hT:yj prog w (0::sh) T s.heap)
 (hok:∀vs,ok vs->-vs<100000/\(∀v∈vs,∃c,yX T v=!c)/\(vs.map (yX T)).Nodup)
 (h:∀h' dr tk L (out:Array Value) c vs,ok vs->out.toList.Perm vs->(∀(i j:Nat)(u v:Value)(x y:TC),i<j->out.toList[i]?=!u->out.toList[j]?=!v->yX T u=!x->yX T v=!y->x<y)->(∀b o,s.heap.get? b=!o->h'.get? b=!o)->h'.get? L=!(seqObj "list" out c)-> ~~~s.heap.objs<=L->Q (YV L) { s with heap:=h',drawn:=dr,toks:=tk }):
 wpAny (model prog w) A (call (.builtin "sorted") [YV d]) Q E s:=by
 show Calls.call_function_entry kind_sorted plain_sorted entry_sorted (args_sorted1 _) ?_;show al (bv (al (Ez nX SK hI λh1 dr tk vs hv k hz=>?_)));let(hl,hc,hn):=hok vs hv;show al (wpAny_newList ?_ (by rw[iE];lia));have g0:(h1.push (seqObj "list" vs.toArray 0)).get? h1.objs.size=!(seqObj "list" vs.toArray 0):=ff _ O;have zr:∀x c,T x=!c->∃o,s.heap.get? x=!o:=λx c e=>by let(ks,_,_,o,items,n,g,_):=hT x c e;show#[o,g]
 have ip:∀x c,T x=!c->x< ~~~h1.objs:=λx c e=>by let(o,g):=zr x c e;show dq (k x o g)
 have jf:∀h',(∀b o,b≠h1.objs.size->(h1.push (seqObj "list" vs.toArray 0)).get? b=!o->h'.get? b=!o)->yj prog w (0::sh) T h':=λh' k2=>hT.grown λx c e o g=>k2 x o (eR (ip x c e)) (d5 _ (k x o g));have ko:KeysOf (tupK T) (pairsOf vs):=λp hp=>by rw[pairsOf_toList]at hp;show hc _ (l_ hp).1
 have dk:DK (tupK T) (pairsOf vs):=by
  unfold DK;rw[pairsOf_toList];have e:(vs.zip vs).map (λp=>(tupK T).keyOf p.1)=((vs.zip vs).map Prod.fst).map (yX T):=by rw[fF];rfl
  rw[e,map_fst_zip ()];show hn
 show al (kq (wpAny_call_entry slot_list_sort #[_,g0,O] entry_list_sort (JM (κ:=tupK T) g0 (λh' k2=>SI (jf h' k2)) ko (λh' k2 v₁ v₂ rest e {Q} q=>Xh (jf h' k2) (by rw[<-e];show hc) (by simp) q) dk hl λD p1 p2=>#[_,O,?_]) (args_list_sort _)));let(e,he):=sortedHeap_at g0;have kF:(arrOf D).toList.Perm (vs.zip vs):=by rw[<-pairsOf_toList];show Array.perm_iff_toList_perm.mp p1
 have N:∀p,p∈(arrOf D).toList->p.1=p.2/\p.1∈vs:=λp W=>mem_zip_self (kF.mem_iff.mp W);have eo:((arrOf D).map (·.2)).toList=(arrOf D).toList.map (·.1):=by rw[Array.toList_map];show Cf λp W=>(N p W).1.symm
 have po:((arrOf D).map (·.2)).toList.Perm vs:=by
  rw[eo];have:=kF.map Prod.fst
  rwa [map_fst_zip ()]at this
 show bv #[_,O,h _ dr tk _ _ e vs hv po (λi j u v x y ke F ev ex ey=>?_) (λb o q=>?_) he ?_]
 . let gA:=p1.size_eq.symm;have gi:(arrOf D)[i]?=!(u,u):=by
    rw[eo,dS]at F;rw[<-fS];cases q:(arrOf D).toList[i]? with
    |none=>rw[q]at F;cases F
    |some p=>
     rw[q]at F;let z:=N p (fL q);let(p1,p2):=p;cases F;have:p1=p2:=z.1;subst this;rfl
   have gj:(arrOf D)[j]?=!(v,v):=by
    rw[eo,dS]at ev;rw[<-fS];cases q:(arrOf D).toList[j]? with
    |none=>rw[q]at ev;cases ev
    |some p=>
     rw[q]at ev;let z:=N p (fL q);let(p1,p2):=p;cases ev;have:p1=p2:=z.1;subst this;rfl
   have lj:j< ~~~(arrOf D):=by
    obtain c|c:=fU j (arrOf D).size
    . show c
    . rw[kS c]at gj;cases gj
   let q:=p2 i j () ();have ki:KK (tupK T) (arrOf D) i=x:=by unfold KK;rw[gi];show ((tupK T).keyOf u).getD _=x;rw[show (tupK T).keyOf u=some x from ex];rfl
   have kj:KK (tupK T) (arrOf D) j=y:=by unfold KK;rw[gj];show ((tupK T).keyOf v).getD _=y;rw[show (tupK T).keyOf v=some y from ey];rfl
   rw[ki,kj]at q;let q':=of_decide_eq_false q;obtain z|z:=Classical.em (x=y)
   . exfalso;let nd:=(po.map _).nodup_iff.mpr hn;have:=pairwise_iff_getElem.mp nd i j;let(zq,SO):=eM.mp F;let(SU,SV):=eM.mp ev;show this (by rw[ck];show zq) (by rw[ck];show SU) ke ?_;rw[getElem_map,getElem_map,SO,SV,ex,ey,z]
   . show Classical.byContradiction λz2=>z (List.le_antisymm () ())
 . show(sortedHeap_old (eR (dq (k b o q))) (by rw[size_push'];show j3 (dq (k b o q)))).trans (d5 _ (k b o q))
 . show hz
end
def SW{prog:Program}{K:Type}[DecidableEq K](knd:HeapKind prog w K)(ZI:K->Addr->Prop):HeapKind prog w K where
 is:=λh k b=>knd.is h k b/\ZI k b
 hash:=knd.hash
 draws:=knd.draws
 room:=knd.room
 inj:=λx y=>knd.inj x.1 y.1
 keeps:=λx a b c=>#[knd.keeps x.1 a b c,x.2]
 pyHash:=λr x q=>knd.pyHash r x.1 q
 eqBool:=λr x y q=>knd.eqBool r x.1 y.1 q
 quiet:=λx q=>knd.quiet x.1 q
abbrev BK:=List (Addr×List aV)
def Fj(P:Program)(w:World)(a:Addr)(bs:BK):Heap->Prop:=λh=>∃es ep t,∃ks:List (List aV),lZ h a es ep t (not (byText w))/\es.size=-ks/\(∀(i:Nat) e,es[i]?=!e->∃k b,ks[i]?=!k/\e=((tupleKind (eV P w)).hash k,Value.ref b)/\(b,k)∈bs)/\ks.Nodup/\(∀y,y∈ks ↔ ∃p∈bs,p.2=y)/\es.size<=-bs
section
variable {X:Cx}
theorem Ir:∀{bs:BK}{i:List Value},ap (bs.map λp=>V.ref p.1) i->i=bs.map λp=>Value.ref p.1
 |[],i=>λh=>h.zero
 |p::bs,i=>λh=>by
  cases h with
  |cons r t=>
   rw[fr,Ir t];let e:=r;rw[e]
def Za(X:Cx):List V->Hp->VK->Prop:=λxs H Q=>∃a bs,xs=[.ref a]/\bY X.K H a (bs.map λp:Addr×List aV=>V.ref p.1)/\(∀p∈bs,cW X.K H p.1 (p.2.map nR)/\uN p.2)/\-bs<9000/\∀l,H l=J->Q (.ref l) (bp H l (.ext (Fj X.prog X.w l bs)))
def Iu(hc:X.calm=G)(hu:X.A.units+64<cLine):lO X (.type "set") (Za X):=by
 intro ae s U H xs us Q I r h;let(a,bs,rfl,hq,hb,hl,q):=h;let(u,rfl,rx):=fg r;cases rx;let(du,rv,pl,hz):=I.list hq;let ei:=Ir rv;subst ei;have hs:(bs.map λp=>Value.ref p.1).toArray.size=-bs:=by simp
 have F:∀i (hi:i< -bs),bs.getD i (0,[])=bs[i]:=λi hi=>by simp[hi]
 have SY:∀p∈bs,(tupleKind (eV X.prog X.w)).is s.heap p.2 p.1:=λp hp=>ux I (hb p hp).1;show Xf (knd:=SW (tupleKind (eV X.prog X.w)) λk b=>(b,k)∈bs) (λx q=>OJ x.1 q) (λx a b c=>#[Oz x.1 a b c,x.2]) (λx q=>#[Ad x.1 q,x.2]) (λo x q=>O1 o x.1 q)
  (by show X.A.units+1+1+1<cLine;lia) (val:=λi=>(bs.getD i (0,[])).2) (ad:=λi=>(bs.getD i (0,[])).1) (I.ok.hd hc) pl.isList (λi v e=>?_) (λi hi=>?_) (by rw[hs];show -bs+1<9900;lia) λh' tk es ep t ks S mem sz kp=>?_
 . rw[List.getElem?_toArray,dS]at e;cases q:bs[i]? with
   |none=>rw[q]at e;cases e
   |some p=>
    rw[q]at e;cases e;let(hi,ep):=eM.mp q;rw[F i hi,ep]
 . have hi:i< -bs:=by rw[hs]at hi;show hi
   let hm:=List.getElem_mem hi;rw[F i hi];let z:=SY _ hm;show#[#[z,hm],?_,(hb _ hm).2];let(o,items,n,g,_):=z;show#[o,g]
 . have S0: ~~~es<=-bs:=by rw[hs]at sz;show sz
   have ml:∀y,y∈ks ↔ ∃p∈bs,p.2=y:=λy=>by
    rw[mem y];constructor
    . rintro⟨j,D,e⟩;have D:j< -bs:=by rw[hs]at D;show D
      show#[bs[j],List.getElem_mem D,?_];rw[<-F j D];show e
    . rintro⟨p,hp,e⟩;let(j,D,ej):=List.mem_iff_getElem.mp hp;show#[j,by rw[hs];show D,by rw[F j D,ej];show e]
   show#[.ref s.heap.objs.size,_,I.laid (λb o e=>kp b o (dq e) e) (cK _) (show fG X.prog X.w _ h' _ (.ext (Fj X.prog X.w s.heap.objs.size bs)) from #[#[es,ep,t,ks,S.1,S.el.sz,λi e q=>?_,S.nd,ml,S0],#[_,S.at_],λh1 h2 ⟨es,ep,t,ks,S,r⟩ k=>#[es,ep,t,ks,S.moved k,r]]),O,q _ (I.hok.fresh (cK _))];let(k,b,e1,e2,e3):=S.el.at_ i e q;show#[k,b,e1,e2,e3.2]
def uO(bs:BK)(b:Addr):Option TC:=(bs.find? λp=>p.1==b).map λp=>p.2.map da
def U6_(h:uO bs b=!c):∃k,(b,k)∈bs/\c=k.map da:=by
 unfold uO at h;cases q:bs.find? λp=>p.1==b with
 |none=>grind
 |some p=>
  rw[q]at h;cases h;have e:p.1=b:=by have:=find?_some q;show eq_of_beq this
  show#[p.2,by rw[<-e];show mem_of_find?_eq_some q,O]
def Xi{k:List aV}(hi:∀k',(b,k')∈bs->k'=k)(h:(b,k)∈bs):uO bs b=!(k.map da):=by
 unfold uO;cases q:bs.find? λp=>p.1==b with
 |none=>
  grind
 |some p=>
  have e:p.1=b:=by have:=find?_some q;show eq_of_beq this
  grind
theorem Iv{bs:BK}:∀(vs:List Value),(∀v∈vs,∃b k,v=Value.ref b/\(b,k)∈bs)->∃cs:BK,vs=cs.map (λp=>Value.ref p.1)/\∀p∈cs,p∈bs
 |[]=>λ_=>#[[],O,λp h=>by cases h]
 |v::vs=>λh=>by
  let(cs,e,m):=Iv vs λu j=>h u (dP _ j);let(b,k,rfl,hk):=h v cf;show#[(b,k)::cs,by rw[fr,e],λp i=>?_];obtain rfl|i:=bP.mp i
  . show hk
  . show m p i
def U7_(X:Cx):List V->Hp->VK->Prop:=λxs H Q=>∃a bs sh,xs=[.ref a]/\H a=!(.ext (Fj X.prog X.w a bs))/\(∀p∈bs,cW X.K H p.1 (p.2.map nR)/\p.2.map ph=0::sh)/\-bs<9000/\
 ∀l (cs:BK),H l=J->(∀p∈cs,p∈bs)->(∀p∈bs,∃q∈cs,q.2=p.2)->cs.Pairwise (λp q=>p.2.map da<q.2.map da)->Q (.ref l) (bp H l (.lst (cs.map λp=>V.ref p.1)))
theorem Iw:∀{bs:BK},ap (bs.map λp=>V.ref p.1) (bs.map λp=>Value.ref p.1)
 |[]=>.nil
 |p::bs=>.cons O Iw
def Ae(hc:X.calm=G):lO X (.builtin "sorted") (U7_ X):=by
 intro ae s U H xs us Q I r h;let(a,bs,sh,rfl,hq,hb,hl,q):=h;let(u,rfl,rx):=fg r;cases rx;let((es,ep,t,ks,S,sz,el,nd,mem,sz2),_):=I.hok a _ hq;have N:∀p∈bs,(tupleKind (eV X.prog X.w)).is s.heap p.2 p.1:=λp hp=>ux I (hb p hp).1;have W:∀{b k k'},(b,k)∈bs->(b,k')∈bs->k'=k:=λh1 h2=>(tupleKind (eV X.prog X.w)).inj (N _ h2) (N _ h1);have hT:yj X.prog X.w (0::sh) (uO bs) s.heap:=λx c e=>by let(k,hk,rfl):=U6_ e;show#[k,O,(hb _ hk).2,N _ hk]
 have tm:∀{b k},(b,k)∈bs->uO bs b=!(k.map da):=λh1=>Xi (λk' h2=>W h1 h2) h1;have cd:es.toList.map (λe=>yX (uO bs) e.2)=ks.map λk=>!(k.map da):=by
  show ext_getElem? λi=>?_;rw[dS,dS,fS];cases e:es[i]? with
  |none=>
   have:ks[i]?=J:=by rw[getElem?_eq_none_iff];rw[Array.getElem?_eq_none_iff]at e;lia
   rw[this];rfl
  |some x=>
   let(k,b,F,rfl,D):=el i x e;rw[F];show some (uO bs b)=!(!(k.map da));rw[tm D]
 show Su (TT:="set") (Zl O) #[_,S.at_,O] (EY (by simpa using I.ok.hd hc) (S.moved λo e=>d5 _ e)) hT (λvs p=>?_) λh' dr tk L out c vs p po so kp g hL=>?_
 . show#[?_,λv hv=>?_,?_]
   . have:=p.length_eq;simp only[ck,g8]at this;lia
   . let(e,he,rfl):=dA.mp (p.mem_iff.mp hv);let(i,hi):=getElem?_of_mem he;rw[fS]at hi;let(k,b,F,rfl,D):=el i e hi;show#[_,tm D]
   . let pp:=p.map (yX (uO bs));rw[fF]at pp;have e:es.toList.map (yX (uO bs) ∘ λx=>x.2)=ks.map λk=>!(k.map da):=cd;rw[e]at pp;show pp.nodup_iff.mpr (pairwise_map.mpr (List.Pairwise.imp (λ{x y} ne z=>ne ?_) nd));show Fg (fw z)
 . have zt:∀v∈out.toList,∃b k,v=Value.ref b/\(b,k)∈bs:=λv hv=>by let(e,he,rfl):=dA.mp (p.mem_iff.mp (po.mem_iff.mp hv));let(i,hi):=getElem?_of_mem he;rw[fS]at hi;let(k,b,F,rfl,D):=el i e hi;show#[b,k,O,D]
   let(cs,ec,mc):=Iv out.toList zt;have lc:-cs<=9000:=by let F:=gT length ec;let e2:=po.length_eq;let D:=p.length_eq;simp only[ck,g8]at F e2 D;lia
   let I1:=I.laid (t':=tk) kp hL (show fG X.prog X.w _ h' L (.lst (cs.map λp=>V.ref p.1)) from #[by rw[ck,iE];lia,out.toList,c,by rw[ec];show Iw,g]);show#[.ref L,_,I1.drew dr,O,q L cs (I.hok.fresh hL) mc (λx hx=>?_) ?_]
   . let(i,hi):=getElem?_of_mem ((mem x.2).mpr #[x,hx,O]);have li:i< ~~~es:=by rw[sz];show(eM.mp hi).1
     let(k,b,F,e2,D):=el i _ (m_ li);rw[hi]at F;cases F;have m1:Value.ref b∈out.toList:=by show po.mem_iff.mpr (p.mem_iff.mpr (dA.mpr #[es[i],by simp,?_]));rw[e2]
     rw[ec]at m1;let(y,hy,ey):=dA.mp m1;let(y1,y2):=y;have S1:y1=b:=by cases (ey);rfl
     subst S1;show#[_,hy,W D (mc _ hy)]
   . show pairwise_iff_getElem.mpr λi j hi hj ke=>?_;have gi:out.toList[i]?=!(Value.ref cs[i].1):=by rw[ec,dS,gg hi];rfl
     have gj:out.toList[j]?=!(Value.ref cs[j].1):=by rw[ec,dS,gg hj];rfl
     show so i j _ _ _ _ ke gi gj (tm (mc _ (getElem_mem hi))) (tm (mc _ (getElem_mem hj)))
end
inductive nY:List Value->List aV->Prop
 |nil:nY [] []
 |int (i:Int) (t:Tok) {vs ks}:nY vs ks->nY (.int i t::vs) (some (.inl i)::ks)
 |str (x:Str) (t:Tok) {vs ks}:nY vs ks->nY (.str x t::vs) (some (.inr x)::ks)
def nY.length(h:nY vs ks):-vs=-ks:=by
 induction h with
 |nil=>rfl
 |int i t _ j=>simp[j]
 |str x t _ j=>simp[j]
section
variable {X:Cx}
def pb{α:Type}(xs:List α)(lo hi st:Option Int):List α:=
 (sliceRange (sliceBounds lo hi st (-xs)).1 (sliceBounds lo hi st (-xs)).2.1 (sliceBounds lo hi st (-xs)).2.2).filterMap λi=>xs[i]?
def MT{lo hi st:Option Int}:slicePick du.toArray lo hi st=(pb du lo hi st).toArray:=by unfold slicePick pb;simp
theorem ap.pick(r:ap xs du):∀{l:List Nat},ap (l.filterMap λi=>xs[i]?) (l.filterMap λi=>du[i]?)
 |[]=>.nil
 |i::l=>by
  let q:=-r;cases h:xs[i]? with
  |none=>
   have h':du[i]?=J:=by rw[getElem?_eq_none_iff]at h ⊢;lia
   rw[j1 h,j1 h'];show r.pick
  |some x=>
   let(u,h',j):=r.get h;rw[filterMap_cons_some h,filterMap_cons_some h'];show .cons j r.pick
theorem ap.pb{lo hi st:Option Int}(r:ap xs du):ap (pb xs lo hi st) (L2.pb du lo hi st):=by unfold L2.pb;rw[r.length];show r.pick
def S4(K:FG)(te:TE)(tl th tt:TO):TE:=λU H Q=>te U H λx H1=>tl U H1 λl H2=>th U H2 λu H3=>tt U H3 λk H4=>∃a xs,x=.ref a/\bY K H4 a xs/\k≠!0/\∀p,H4 p=J->Q (.ref p) (bp H4 p (.lst (pb xs l u k)))
def Vs{lo hi:Option Expr}{st:Expr}(he:PE X e te)(hl:PO X lo tl)(hu:PO X hi th)(ht:PO X (!st) tt):PE X (.Subscript e (.Slice lo hi (!st) p2) pos) (S4 X.K te tl th tt):=by
 intro ae s U H Q I h;show Subscript_ (dg (he ae s U H _ I h) λv s1 ⟨x,H1,I1,r1,q1⟩=>?_);show wpAny_Slice (dg (hl ae s1 U H1 _ I1 q1) λvl s2 ⟨l,H2,I2,pl,q2⟩=>dg (hu ae s2 U H2 _ I2 q2) λvu s3 ⟨u,H3,I3,pu,q3⟩=>dg (ht ae s3 U H3 _ I3 q3) λvs D ⟨k,H4,I4,S8,q4⟩=>?_);let(a,xs,rfl,hx,hk,q):=q4;cases r1;have I5:ai X ae U H4 { D with heap:=D.heap.push { cls:=.type "slice",data:=.fields (List.toArray [vl,vu,vs]) } }:=I4.kept (t':=D.toks) λb ob q=>d5 _ q;let(du,r,ht,hz):=I5.list hx;let hlen:=-r;have hg:wpAny (model X.prog X.w) X.A (getItem (YV a) (YV D.heap.objs.size)) (EP X ae U Q) X.xe { D with heap:=D.heap.push { cls:=.type "slice",data:=.fields (List.toArray [vl,vu,vs]) } }:=by show wpAny_getItem_list_slice ht.isList (Heap.IsSliceOf.new ..) pl pu S8 hk ?_ (by rw[gx]<;>lia);let gA:=slicePick_size_le du.toArray l u k;rw[MT]at gA ⊢;show#[.ref (D.heap.push { cls:=.type "slice",data:=.fields (List.toArray [vl,vu,vs]) }).objs.size,_,I5.laid (t':=D.toks) (o:=.lst (pb xs l u k)) (λb ob q=>d5 _ q) (cK _) ?_,O,q _ (I5.hok.fresh (cK _))];show#[?_,_,0,r.pb,ff _ O];let e:=-(r.pb (lo:=l) (hi:=u) (st:=k));rw[gx,gx]at gA;lia
 show wpAny (model X.prog X.w) X.A (subscriptTail e (.Slice lo hi (!st) p2) (YV a) (YV D.heap.objs.size)) (EP X ae U Q) X.xe { D with heap:=D.heap.push { cls:=.type "slice",data:=.fields (List.toArray [vl,vu,vs]) } };show tail_any (ops:=[YV a,YV D.heap.objs.size]) ht.isList.typeIs slot_list_getitem.lookup hg (by with_unfolding_all rfl)
end
end L2
namespace PL
open PySem PySem.Spec PyProof.Rows L2
inductive PV where
 |non
 |bl (b:Bool)
 |int (i:Int)
 |str (x:Str)
 |tup (ps:List PV)
 |lst (ps:List PV)
 |dk (ks:List d_) (ps:List PV)
 |dt (ks:List (List d_)) (ps:List PV)
 |obj (C:Str) (ks:List Str) (ps:List PV)
 |df (ks:List d_) (ps:List PV)
 |dtf (ks:List (List d_)) (ps:List PV)
 |dx (hk:List aV->Int) (ks:List (List aV)) (ps:List PV)
 |exc (C:Str)
 |fn (x:Str)
 |ptr (n:Nat)
structure ZG where
 z:Hp
 g:List Addr
def iu(Z Z':ZG):Prop:=eY_ Z.z Z'.z/\Z.g <+: Z'.g
theorem iu.refl(Z:ZG):iu Z Z:=#[eY_.refl _,l5 _]
theorem iu.trans(a:iu Z Z1)(b:iu Z1 Z2):iu Z Z2:=#[a.1.trans b.1,a.2.trans b.2]
def S_{α:Type}{l r:List α}{n:Nat}{a:α}(h:l <+: r)(e:l[n]?=!a):r[n]?=!a:=by let(t,rfl):=h;rw[jk (eM.mp e).1];show e
def CN(K:FG)(C:Str)(c:Addr):Prop:=W.nsIn K mainGlobals C=!(!(YV c))
mutual
noncomputable def b9 (K:FG) (Z:ZG):PV->V->Prop
 |.non,v=>v=.non
 |.bl b,v=>v=.bl b
 |.int i,v=>v=.int i
 |.str x,v=>v=.str x
 |.tup ps,v=>∃a vs,v=.ref a/\cW K Z.z a vs/\aK K Z ps vs
 |.lst ps,v=>∃a vs,v=.ref a/\bY K Z.z a vs/\aK K Z ps vs
 |.dk ks ps,v=>∃a a_,v=.ref a/\Z.z a=!(.dK a_)/\a_.map (·.1)=ks/\aK K Z ps (a_.map (·.2))
 |.dt ks ps,v=>∃a a_,v=.ref a/\Z.z a=!(.dT a_)/\a_.map (·.1)=ks/\aK K Z ps (a_.map (·.2))
 |.obj C ks ps,v=>∃a c dx fs,v=.ref a/\CN K C c/\Z.z a=!(.ins c dx fs)/\fs.map (·.1)=ks/\aK K Z ps (fs.map (·.2))
 |.df ks ps,v=>∃a o a_,v=.ref a/\Z.z a=!(.frz o (.dK a_))/\a_.map (·.1)=ks/\aK K Z ps (a_.map (·.2))
 |.dtf ks ps,v=>∃a o a_,v=.ref a/\Z.z a=!(.frz o (.dT a_))/\a_.map (·.1)=ks/\aK K Z ps (a_.map (·.2))
 |.dx hk ks ps,v=>∃a xs,v=.ref a/\Z.z a=!(.ext (wA hk a xs))/\xs.map (·.1)=ks/\(∀x∈xs,cW K Z.z x.2.1 (x.1.map nR))/\aK K Z ps (xs.map (·.2.2))
 |.exc C,v=>∃a c,v=.ref a/\CN K C c/\Z.z a=!(.ext (DF a c))
 |.fn x,v=>∃a,v=.ref a/\CN K x a
 |.ptr n,v=>∃a,v=.ref a/\Z.g[n]?=!a
noncomputable def aK (K:FG) (Z:ZG):List PV->List V->Prop
 |[],vs=>vs=[]
 |p::ps,vs=>∃v r,vs=v::r/\b9 K Z p v/\aK K Z ps r
end
def bY.same{K:FG}(s:eY_ Z Z')(h:bY K Z a vs):bY K Z' a vs:=s.seq h
def cW.same{K:FG}(s:eY_ Z Z')(h:cW K Z a vs):cW K Z' a vs:=by
 obtain (h|⟨o,h⟩)|h:=h
 . show Zl (Zl (s _ _ h))
 . show Zl (YY #[o,s _ _ h])
 . show YY h
mutual
theorem b9.mono{K:FG}(s:iu Z Z'):∀{p:PV}{v:V},b9 K Z p v->b9 K Z' p v
 |.non,v=>λh=>h
 |.bl _,v=>λh=>h
 |.int _,v=>λh=>h
 |.str _,v=>λh=>h
 |.tup ps,v=>λh=>by let(a,q,e,h1,h2):=h;show#[a,q,e,cW.same s.1 h1,aK.mono s h2]
 |.lst ps,v=>λh=>by let(a,q,e,h1,h2):=h;show#[a,q,e,bY.same s.1 h1,aK.mono s h2]
 |.dk ks ps,v=>λh=>by let(a,i,e,h1,h2,j):=h;show#[a,i,e,s.1 _ _ h1,h2,aK.mono s j]
 |.dt ks ps,v=>λh=>by let(a,i,e,h1,h2,j):=h;show#[a,i,e,s.1 _ _ h1,h2,aK.mono s j]
 |.obj C ks ps,v=>λh=>by let(a,c,dx,fs,e,z,h1,h2,j):=h;show#[a,c,dx,fs,e,z,s.1 _ _ h1,h2,aK.mono s j]
 |.df ks ps,v=>λh=>by let(a,o,i,e,h1,h2,j):=h;show#[a,o,i,e,s.1 _ _ h1,h2,aK.mono s j]
 |.dtf ks ps,v=>λh=>by let(a,o,i,e,h1,h2,j):=h;show#[a,o,i,e,s.1 _ _ h1,h2,aK.mono s j]
 |.dx hk ks ps,v=>λh=>by let(a,xs,e,h1,h2,D,j):=h;show#[a,xs,e,s.1 _ _ h1,h2,λx F=>cW.same s.1 (D x F),aK.mono s j]
 |.exc C,v=>λh=>by let(a,c,e,z,h1):=h;show#[a,c,e,z,s.1 _ _ h1]
 |.fn x,v=>λh=>by  show h
 |.ptr n,v=>λh=>by let(a,e,h1):=h;show#[a,e,S_ s.2 h1]
theorem aK.mono{K:FG}(s:iu Z Z'):∀{ps:List PV}{vs:List V},aK K Z ps vs->aK K Z' ps vs
 |[],vs=>λh=>by  show h
 |p::ps,vs=>λh=>by let(v,r,e,h1,h2):=h;show#[v,r,e,b9.mono s h1,aK.mono s h2]
end
section
variable {K:FG}{Z:ZG}
theorem aK.length:∀{ps:List PV}{vs:List V},aK K Z ps vs->-vs=-ps
 |[],vs=>λh=>by  subst h;rfl
 |p::ps,vs=>λh=>by let(v,r,rfl,_,h2):=h;simp[aK.length h2]
def aK.nil:aK K Z [] []:=by  rfl
def aK.cons{p:PV}{ps:List PV}{v:V}{vs:List V}(h:b9 K Z p v)(t:aK K Z ps vs):aK K Z (p::ps) (v::vs):=by  show#[v,vs,O,h,t]
def aK.inv(h:aK K Z (p::ps) vs):∃v r,vs=v::r/\b9 K Z p v/\aK K Z ps r:=by  show h
def aK.inv0(h:aK K Z [] vs):vs=[]:=by  show h
theorem aK.append:∀{ps i:List PV}{vs ws:List V},aK K Z ps vs->aK K Z i ws->aK K Z (ps++i) (vs++ws)
 |[],i,vs,ws=>λh g=>by have:=h.inv0;grind
 |p::ps,i,vs,ws=>λh g=>by let(v,r,rfl,h1,h2):=h.inv;show aK.cons h1 (aK.append h2 g)
theorem aK.get:∀{ps:List PV}{vs:List V}{i:Nat}{p:PV},aK K Z ps vs->ps[i]?=!p->∃v,vs[i]?=!v/\b9 K Z p v
 |[],vs,i,p=>λh e=>by grind
 |q::ps,vs,0,p=>λh e=>by let(v,r,rfl,h1,h2):=h.inv;grind
 |q::ps,vs,i+1,p=>λh e=>by let(v,r,rfl,h1,h2):=h.inv;let(u,j,z):=aK.get h2 ();grind
def aK.getV{i:Nat}(h:aK K Z ps vs)(e:vs[i]?=!v):∃p,ps[i]?=!p/\b9 K Z p v:=by
 have hi:i< -ps:=by rw[<-(-h)];show(eM.mp e).1
 let(u,h1,h2):=h.get (gg hi);grind
theorem aK.set(j:b9 K Z q u):∀{ps:List PV}{vs:List V}(i:Nat),aK K Z ps vs->aK K Z (ps.set i q) (vs.set i u)
 |[],vs,i=>λh=>by have:=h.inv0;grind
 |p::ps,vs,0=>λh=>by let(v,r,rfl,h1,h2):=h.inv;show aK.cons j h2
 |p::ps,vs,i+1=>λh=>by let(v,r,rfl,h1,h2):=h.inv;show aK.cons h1 (aK.set j i h2)
theorem aK.take:∀{ps:List PV}{vs:List V}(n:Nat),aK K Z ps vs->aK K Z (ps.take n) (vs.take n)
 |[],vs,n=>λh=>by have:=h.inv0;grind
 |p::ps,vs,0=>λh=>by  show .nil
 |p::ps,vs,n+1=>λh=>by let(v,r,rfl,h1,h2):=h.inv;show aK.cons h1 (aK.take n h2)
theorem aK.drop:∀{ps:List PV}{vs:List V}(n:Nat),aK K Z ps vs->aK K Z (ps.drop n) (vs.drop n)
 |[],vs,n=>λh=>by have:=h.inv0;grind
 |p::ps,vs,0=>λh=>h
 |p::ps,vs,n+1=>λh=>by let(v,r,rfl,h1,h2):=h.inv;show aK.drop n h2
end
inductive Lc where
 |sh (p:PV)
 |own (p:PV)
open PL.PV renaming lst→R,int→ZI,str→ZH,tup→ZB,ptr→ZA
open PL.Lc renaming own→Zs,sh→Zp
noncomputable def Lc.pv:Lc->PV
 |Zp p=>p
 |Zs p=>p
abbrev Mu:=List (Option PV)
structure Ev where
 vs:List (Option Lc)
 mu:Mu
abbrev Pd:=List (V×Lc)
def qU(K:FG)(Z:ZG)(H:Hp)(a:Addr):PV->Prop
 |R ps=>∃vs,H a=!(.lst vs)/\aK K Z ps vs
 |.dk ks ps=>∃a_,H a=!(.dK a_)/\a_.map (·.1)=ks/\aK K Z ps (a_.map (·.2))
 |.dt ks ps=>∃a_,H a=!(.dT a_)/\a_.map (·.1)=ks/\aK K Z ps (a_.map (·.2))
 |.dx hk ks ps=>∃xs,H a=!(.ext (wA hk a xs))/\xs.map (·.1)=ks/\(∀x∈xs,cW K Z.z x.2.1 (x.1.map nR))/\aK K Z ps (xs.map (·.2.2))
 |.exc C=>∃c,CN K C c/\H a=!(.ext (DF a c))
 |.obj C ks ps=>∃c dx fs,CN K C c/\H a=!(.ins c dx fs)/\fs.map (·.1)=ks/\aK K Z ps (fs.map (·.2))
 |_=>False
def VR(K:FG)(H0:Hp)(Z:ZG)(H:Hp)(v:Option V):Option Lc->Prop
 |none=>True
 |some (Zp p)=>∃x,v=!x/\b9 K Z p x
 |some (Zs p)=>∃a,v=!(.ref a)/\qU K Z H a p/\Z.z a=J/\H0 a=J
noncomputable def mj:Option V×Option Lc->Option Addr
 |(!(.ref a),!(Zs _))=>!a
 |_=>J
abbrev Sl:=List (Option V×Option Lc)
def ag(K:FG)(H0:Hp)(Z:ZG)(H:Hp)(L:Sl):Prop:=(∀e∈L,VR K H0 Z H e.1 e.2)/\(L.filterMap mj).Nodup
noncomputable def cel (g:List Addr) (mu:Mu):Sl:=(g.map λa=>!(V.ref a)).zip (mu.map λo=>o.map Lc.own)
def uP(g:List Addr)(mu:Mu):List Addr:=(cel g mu).filterMap mj
def sl(g:List Addr)(U:L2.St)(Y:Ev)(pd:Pd):Sl:=cel g Y.mu++(U.zip Y.vs++pd.map λe=>(!e.1,!e.2))
def J9:HO->Prop
 |.tup _=>True
 |.frz _ _=>True
 |_=>False
structure jQ(H0:Hp)(Z0 Z:ZG)(H:Hp):Prop where
 zh:eY_ Z.z H
 h0:eY_ H0 H
 z0:iu Z0 Z
 new:∀b o,Z.z b=!o->Z0.z b=!o\/H0 b=none\/J9 o
def SR(K:FG)(H0:Hp)(Z0:ZG)(U:L2.St)(H:Hp)(Y:Ev)(pd:Pd):Prop:=-U=-Y.vs/\∃Z,-Y.mu=-Z.g/\jQ H0 Z0 Z H/\ag K H0 Z H (sl Z.g U Y pd)
section
variable {K:FG}{H0 H H':Hp}{Z0 Z Z':ZG}{L L':Sl}{U:L2.St}{Y:Ev}{pd:Pd}
def ag.sub(h:ag K H0 Z H L)(s:List.Sublist L' L):ag K H0 Z H L':=#[λe j=>h.1 e (s.subset j),h.2.sublist (s.filterMap mj)]
def ag.perm(h:ag K H0 Z H L)(s:List.Perm L' L):ag K H0 Z H L':=#[λe j=>h.1 e (s.subset j),(s.filterMap mj).nodup_iff.mpr h.2]
def qU.keep(h:qU K Z H a p)(z:iu Z Z')(e:H' a=H a):qU K Z' H' a p:=by
 cases p with
 |lst ps=>let(j,h1,h2):=h;show#[j,by rw[e];show h1,h2.mono z]
 |dk ks ps=>let(j,h1,h2,i):=h;show#[j,by rw[e];show h1,h2,i.mono z]
 |dt ks ps=>let(j,h1,h2,i):=h;show#[j,by rw[e];show h1,h2,i.mono z]
 |dx hk ks ps=>let(j,h1,h2,N,i):=h;show#[j,by rw[e];show h1,h2,λx D=>cW.same z.1 (N x D),i.mono z]
 |exc C=>let(c,q,h1):=h;show#[c,q,by rw[e];show h1]
 |obj C ks ps=>let(c,dx,fs,q,h1,h2,i):=h;show#[c,dx,fs,q,by rw[e];show h1,h2,i.mono z]
 |_=>show h
def qU.some(h:qU K Z H a p):∃o,H a=!o/\¬ J9 o:=by
 cases p with
 |lst ps=>let(j,h1,h2):=h;show#[_,h1,λz=>z]
 |dk ks ps=>let(j,h1,h2,i):=h;show#[_,h1,λz=>z]
 |dt ks ps=>let(j,h1,h2,i):=h;show#[_,h1,λz=>z]
 |dx hk ks ps=>let(j,h1,h2,i):=h;show#[_,h1,λz=>z]
 |exc C=>let(c,D,h1):=h;show#[_,h1,λz=>z]
 |obj C ks ps=>let(c,dx,fs,D,h1,h2,i):=h;show#[_,h1,λz=>z]
 |_=>show h.elim
def qU.rep(h:qU K Z H a p)(z:iu Z Z')(e:Z'.z a=H a):b9 K Z' p (.ref a):=by
 cases p with
 |lst ps=>let(vs,h1,h2):=h;unfold b9;show#[a,vs,rfl,bY.of (),h2.mono z]
 |dk ks ps=>let(vs,h1,h2,h3):=h;unfold b9;show#[a,vs,rfl,by rw[e];show h1,h2,h3.mono z]
 |dt ks ps=>let(vs,h1,h2,h3):=h;unfold b9;show#[a,vs,rfl,by rw[e];show h1,h2,h3.mono z]
 |dx hk ks ps=>let(vs,h1,h2,h4,h3):=h;unfold b9;show#[a,vs,rfl,by rw[e];show h1,h2,λx hx=>cW.same z.1 (h4 x hx),h3.mono z]
 |exc C=>let(c,cn,h1):=h;unfold b9;show#[a,c,rfl,cn,by rw[e];show h1]
 |obj C ks ps=>let(c,dx,fs,cn,h1,h2,h3):=h;unfold b9;show#[a,c,dx,fs,rfl,cn,by rw[e];show h1,h2,h3.mono z]
 |_=>show h.elim
def ag.step(h:ag K H0 Z H L)(z:iu Z Z')(hk:∀e∈L,∀a,mj e=!a->H' a=H a/\Z'.z a=J):ag K H0 Z' H' L:=by
 show#[λe F=>?_,h.2];let q:=h.1 e F;let(v,l):=e;cases l with
 |none=>trivial
 |some l=>
  cases l with
  |sh p=>let(x,i,D):=q;show#[x,i,D.mono z]
  |own p=>
   let(a,i,D,e3,N):=q;let j:=i;subst j;let(W,Q):=hk _ F a O;show#[a,O,D.keep z W,Q,N]
def jn(h:ag K H0 Z H L)(he:e∈L)(i:mj e=!a):Z.z a=J/\H0 a=J/\∃o,H a=!o/\¬ J9 o:=by
 let(v,l):=e;let q:=h.1 _ he;cases l with
 |none=>cases v with
  |none=>cases i
  |some x=>cases x<;>cases i
 |some l=>
  cases l with
  |sh p=>cases v with
   |none=>cases i
   |some x=>cases x<;>cases i
  |own p=>
   let(b,F,N,Q,D):=q;let j:=F;subst j;cases i;show#[Q,D,N.some]
theorem ag.new(h:ag K H0 Z H L)(F:jQ H0 Z0 Z H)(ha:H a=J)(hp:qU K Z (bp H a o) a p):jQ H0 Z0 Z (bp H a o)/\ag K H0 Z (bp H a o) ((!(.ref a),!(Zs p))::L):=by
 let hz:=F.zh.free ha;let h0:=F.h0.free ha;show#[#[λb u e=>by rw[cV (i5 e hz)];show F.zh b u e,λb u e=>by rw[cV (i5 e h0)];show F.h0 b u e,F.z0,F.new],?_];have zv:∀e∈L,∀b,mj e=!b->b≠a:=λe j b D=>by let(_,_,o',h3,_):=jn h j D;show i5 h3 ha
 let st:=h.step (H':=bp H a o) (iu.refl Z) λe j b D=>#[cV (zv e j b D),(jn h j D).1];show#[λe j=>?_,?_]
 . obtain rfl|j:=bP.mp j
   . show#[a,O,hp,hz,h0]
   . show st.1 e j
 . show h_.mpr #[λhm=>?_,st.2];grind
abbrev ZG.put(Z:ZG)(a:Addr)(o:HO):ZG:=#[bp Z.z a o,Z.g]
def ag.newF(h:ag K H0 Z H L)(j:jQ H0 Z0 Z H)(F:H a=J):jQ H0 Z0 (Z.put a o) (bp H a o)/\iu Z (Z.put a o)/\ag K H0 (Z.put a o) (bp H a o) L:=by
 let h0:=j.h0.free F;have sz:eY_ Z.z (bp Z.z a o):=λb u e=>by rw[cV (i5 e (j.zh.free F))];show e
 have lz:iu Z (Z.put a o):=#[sz,l5 _];show#[#[λb u e=>?_,λb u e=>by rw[cV (i5 e h0)];show j.h0 b u e,j.z0.trans lz,λb u e=>?_],lz,?_]
 . have e:bp Z.z a o b=!u:=e;unfold bp at e ⊢;split
   . grind
   . rename_i q;rw[bh q]at e;show j.zh b u e
 . have e:bp Z.z a o b=!u:=e;unfold bp at e;split at e
   . grind
   . show j.new b u e
 . show h.step lz λe he b hb=>?_;let(h1,h2,o',h3,_):=jn h he hb;let D:=i5 h3 F;show#[cV D,by show bp Z.z a o b=J;rw[cV D];show h1]
def ag.freeze(h:ag K H0 Z H ((v,!(Zs p))::L))(F:jQ H0 Z0 Z H):∃Z',iu Z Z'/\Z'.g=Z.g/\jQ H0 Z0 Z' H/\ag K H0 Z' H ((v,!(Zp p))::L):=by
 let(a,e1,e2,e3,e4):=h.1 _ cf;subst e1;let(o,ho,_):=e2.some;have sz:eY_ Z.z (bp Z.z a o):=λb u e=>by rw[cV (i5 e e3)];show e
 have D:iu Z (Z.put a o):=#[sz,l5 _];let nd:=h.2;let hL:=h.sub (f6 _ _);show#[Z.put a o,D,O,#[λb u e=>?_,F.h0,F.z0.trans D,λb u e=>?_],λe he=>?_,(h_.mp nd).2]
 . have e:bp Z.z a o b=!u:=e;unfold bp at e;split at e
   . grind
   . show F.zh b u e
 . have e:bp Z.z a o b=!u:=e;unfold bp at e;split at e
   . grind
   . show F.new b u e
 . obtain rfl|he:=bP.mp he
   . show#[.ref a,O,e2.rep D (by show bp Z.z a o a=_;rw[bZ,ho])]
   . show(hL.step D λe' j b hb=>#[O,?_]).1 e he;have:b≠a:=λq=>by rw[q]at hb;show(h_.mp nd).1 (j6.mpr #[e',j,hb])
     show bp Z.z a o b=J;rw[cV this];show(jn hL j hb).1
def ag.write(h:ag K H0 Z H ((!(.ref a),!(Zs p))::L))(D:jQ H0 Z0 Z H)(hq:qU K Z (bp H a o) a q):jQ H0 Z0 Z (bp H a o)/\ag K H0 Z (bp H a o) ((!(.ref a),!(Zs q))::L):=by
 let(b,e1,e2,e3,e4):=h.1 _ cf;cases e1;let nd:=h.2;let hL:=h.sub (f6 _ _);show#[#[λb u e=>by rw[cV (i5 e e3)];show D.zh b u e,λb u e=>by rw[cV (i5 e e4)];show D.h0 b u e,D.z0,D.new],λe F=>?_,nd];obtain rfl|F:=bP.mp F
 . show#[a,O,hq,e3,e4]
 . show(hL.step (iu.refl Z) λe' j b hb=>#[cV λq=>?_,(jn hL j hb).1]).1 e F;rw[q]at hb;show(h_.mp nd).1 (j6.mpr #[e',j,hb])
end
variable {K:FG}{H0 H:Hp}{Z0:ZG}{U:L2.St}{Y:Ev}{pd:Pd}
theorem Af{α:Type}:∀{l:List α}{i:Nat}{a:α},l[i]?=!a->∃ZN,Perm l (a::ZN)/\∀b,Perm (l.set i b) (b::ZN)
 |[],i,a=>λh=>by grind
 |x::r,0,a=>λh=>by simp at h;subst h;show#[r,Perm.refl _,λb=>Perm.refl _]
 |x::r,i+1,a=>λh=>by let(ZN,h1,h2):=Af (by simpa using h);show#[x::ZN,(h1.cons x).trans (gu _ _ _),λb=>?_];show((h2 b).cons x).trans (gu _ _ _)
theorem G4{α β:Type}:∀(l:List α)(r:List β)(i:Nat)(a:α)(b:β),(l.set i a).zip (r.set i b)=(l.zip r).set i (a,b)
 |[],r,i=>λa b=>by simp
 |x::l,[],i=>λa b=>by simp
 |x::l,y::r,0=>λa b=>by simp
 |x::l,y::r,i+1=>λa b=>by simp[G4 l r i a b]
theorem zip_get{α β:Type}:∀{l:List α}{r:List β}{i:Nat}{a:α}{b:β},l[i]?=!a->r[i]?=!b->(l.zip r)[i]?=!(a,b)
 |[],r,i,a,b=>λh g=>by simp at h
 |x::l,[],i,a,b=>λh g=>by simp at g
 |x::l,y::r,0,a,b=>λh g=>by simp at h g;simp[h,g]
 |x::l,y::r,i+1,a,b=>λh g=>by have:=zip_get (by simpa using h) ();simpa using this
theorem lm{α:Type}:∀{l:List α}{i:Nat}{a:α},l[i]?=!a->l.set i a=l
 |[],i,a=>λh=>by grind
 |x::r,0,a=>λh=>by grind
 |x::r,i+1,a=>λh=>by simp[lm (by simpa using h)]
noncomputable def Ev.set (Y:Ev) (i:Nat) (x:Option Lc):Ev:=#[Y.vs.set i x,Y.mu]
section
variable {K:FG}{H0 H H':Hp}{Z0 Z:ZG}{U:L2.St}{Y:Ev}{pd ij:Pd}{v w:V}{l:Lc}{p:PV}{L:Sl}{g:List Addr}
def dD:Perm (sl g U Y ((v,l)::pd)) ((!v,!l)::sl g U Y pd):=by show(perm_middle.append_left _).trans gI
def SR.top(h:SR K H0 Z0 U H Y ((v,l)::pd)):-U=-Y.vs/\∃Z,-Y.mu=-Z.g/\jQ H0 Z0 Z H/\ag K H0 Z H ((!v,!l)::sl Z.g U Y pd):=
 let #[e,Z,hg,z,s]:=h
 #[e,Z,hg,z,s.perm dD.symm]
def SR.mk(e:-U=-Y.vs)(i:-Y.mu=-Z.g)(z:jQ H0 Z0 Z H)(s:ag K H0 Z H ((!v,!l)::sl Z.g U Y pd)):SR K H0 Z0 U H Y ((v,l)::pd):=#[e,Z,i,z,s.perm dD]
def SR.pop(h:SR K H0 Z0 U H Y ((v,l)::pd)):SR K H0 Z0 U H Y pd:=
 let #[e,Z,hg,z,s]:=h.top
 #[e,Z,hg,z,s.sub (f6 _ _)]
theorem SR.perm(h:SR K H0 Z0 U H Y pd)(q:Perm ij pd):SR K H0 Z0 U H Y ij:=
 let #[e,Z,hg,z,s]:=h
 #[e,Z,hg,z,s.perm (((q.map _).append_left _).append_left _)]
def SR.swap(h:SR K H0 Z0 U H Y ((v,l)::(w,l2)::pd)):SR K H0 Z0 U H Y ((w,l2)::(v,l)::pd):=h.perm (gu _ _ _)
theorem SR.freeze(h:SR K H0 Z0 U H Y ((v,l)::pd)):SR K H0 Z0 U H Y ((v,Zp l.pv)::pd):=by
 cases l with
 |sh p=>show h
 |own p=>
  let(e,Z,q,z,s):=h.top;let(Z',_,j,i,s'):=s.freeze z;show .mk e ∅ i ?_;rw[j];show s'
def SR.sh(h:SR K H0 Z0 U H Y ((v,Zp p)::pd)):-U=-Y.vs/\∃Z,-Y.mu=-Z.g/\jQ H0 Z0 Z H/\b9 K Z p v/\ag K H0 Z H (sl Z.g U Y pd):=by let(e,Z,i,z,s):=h.top;let(x,q,j):=s.1 _ cf;cases q;show#[e,Z,i,z,j,s.sub (f6 _ _)]
def SR.rep(h:SR K H0 Z0 U H Y ((v,Zp p)::pd)):∃Z:ZG,eY_ Z.z H/\b9 K Z p v:=let #[_,Z,_,z,r,_]:=h.sh;#[Z,z.zh,r]
def SR.repH(h:SR K H0 Z0 U H Y ((v,Zp p)::pd)):∃g,b9 K #[H,g] p v:=let #[_,Z,_,z,r,_]:=h.sh;#[Z.g,r.mono (Z':=#[H,Z.g]) #[z.zh,l5 _]]
def ag.consS(s:ag K H0 Z H L)(r:b9 K Z p v):ag K H0 Z H ((!v,!(Zp p))::L):=by
 show#[λe i=>?_,?_]
 . obtain rfl|i:=bP.mp i
   . show#[v,O,r]
   . show s.1 e i
 . have:mj (!v,!(Lc.sh p))=J:=by cases v<;>rfl
   rw[j1 this];show s.2
def SR.scal(h:SR K H0 Z0 U H Y pd)(r:∀Z,b9 K Z p v):SR K H0 Z0 U H Y ((v,Zp p)::pd):=
 let #[e,Z,hg,z,s]:=h
 .mk e hg z (s.consS (r Z))
def Ly(q:-U=-Y.vs)(e:Y.vs[i]?=!o):∃ZN:Sl,∃x,U[i]?=!x/\(∀g pd,List.Perm (sl g U Y pd) ((x,o)::(cel g Y.mu++(ZN++pd.map λe=>(!e.1,!e.2)))))/\
 ∀g pd y o',Perm (sl g (U.set i y) (Y.set i o') pd) ((y,o')::(cel g Y.mu++(ZN++pd.map λe=>(!e.1,!e.2)))):=by
 have hi:i< -U:=by rw[q];show(eM.mp e).1
 let j:=gg hi;let(ZN,h1,h2):=Af (zip_get j e);show#[ZN,U[i],j,λg pd=>?_,λg pd y o'=>?_]
 . show((h1.append_right _).append_left _).trans gI
 . show List.Perm (cel g Y.mu++((U.set i y).zip (Y.vs.set i o')++_)) _;rw[G4];show(((h2 _).append_right _).append_left _).trans gI
def Ev.set_mu:(Y.set i x).mu=Y.mu:=rfl
def Ev.set_len:(Y.set i x).vs.length=-Y.vs:=by show -(Y.vs.set i x)=_;rw[u8]
def SR.var(h:SR K H0 Z0 U H Y pd)(e:Y.vs[i]?=!(!l)):∃v,U[i]?=!(!v)/\SR K H0 Z0 U H (Y.set i (!(.sh l.pv))) ((v,.sh l.pv)::pd):=by
 let(W,Z,hg,z,s):=h;let(ZN,x,Q,h1,h2):=Ly W e;let N:=s.perm (h1 Z.g pd).symm;have D:-U=(Y.set i (!(.sh l.pv))).vs.length:=by rw[Ev.set_len];show W
 have fin:∀{Z':ZG}{v:V},Z'.g=Z.g->jQ H0 Z0 Z' H->x=!v->ag K H0 Z' H ((x,!(.sh l.pv))::(cel Z.g Y.mu++(ZN++pd.map λe=>(!e.1,!e.2))))->b9 K Z' l.pv v->SR K H0 Z0 U H (Y.set i (!(.sh l.pv))) ((v,.sh l.pv)::pd):=
  λ{Z' v} q z ev s2 r=>by let p2:=h2 Z.g pd x (!(.sh l.pv));rw[lm Q]at p2;show .mk D (by rw[q,Ev.set_mu];show hg) z ?_;rw[q];show(s2.perm p2).consS r
 cases l with
 |sh p=>
  let(v,j,F):=N.1 _ cf;show#[v,Q.trans ∅,fin rfl z j N F]
 |own p=>
  let(Z',sz,q,z',s'):=N.freeze z;let(v,j,F):=s'.1 _ cf;show#[v,Q.trans ∅,fin q z' j s' F]
def SR.store(h:SR K H0 Z0 U H Y ((v,l)::pd))(hi:i< -Y.vs):SR K H0 Z0 (U.set i (!v)) H (Y.set i (!l)) pd:=by let(j,Z,q,z,s):=h.top;let D:=gg hi;let(ZN,x,F,h1,h2):=Ly j D;show#[by rw[u8,Ev.set_len];show j,Z,q,z,?_];show(ag.sub (s.perm ((h1 Z.g pd).symm.cons _)) ?_).perm (h2 Z.g pd (!v) (!l));grind
def SR.take(h:SR K H0 Z0 U H Y pd)(e:Y.vs[i]?=!(!l)):∃v,U[i]?=!(!v)/\SR K H0 Z0 U H (Y.set i none) ((v,l)::pd):=by
 let(Q,Z,hg,z,s):=h;let(ZN,x,N,h1,h2):=Ly Q e;let F:=s.perm (h1 Z.g pd).symm;obtain⟨v,W⟩:∃v,x=!v:=by
  let q:=F.1 _ cf;cases l with
  |sh p=>let(x,D,_):=q;show#[x,D]
  |own p=>let(a,D,_):=q;show#[_,D]
 subst W;show#[v,N,.mk (by rw[Ev.set_len];show Q) hg z ?_];let p2:=h2 Z.g pd (!v) none;rw[lm N]at p2;show ag.perm ?_ (p2.cons _);have ht:ag K H0 Z H ((!v,none)::(!v,!l)::(cel Z.g Y.mu++(ZN++pd.map λe=>(!e.1,!e.2)))):=by
  show#[λe j=>?_,?_]
  . obtain rfl|j:=bP.mp j
    . trivial
    . show F.1 e j
  . have:mj (!v,none)=none:=by cases v<;>rfl
    rw[j1 this];show F.2
 show ht.perm (List.Perm.swap _ _ _)
def SR.put(h:SR K H0 Z0 U H Y ((v,l)::pd))(e:U[i]?=!(!v)):SR K H0 Z0 U H (Y.set i (!l)) pd:=by
 have hi:i< -Y.vs:=by rw[<-h.1];show(eM.mp e).1
 have:=h.store hi;rw[lm e]at this;grind
end
abbrev EF:=Ev->Option (Lc×Ev)
abbrev TF:=Ev->Option (Bool×Ev)
abbrev AF:=Ev->Option (List Lc×Ev)
inductive Fl where
 |nx (Y:Ev)
 |rt (r:Lc) (Y:Ev)
 |bk (Y:Ev)
 |ct (Y:Ev)
abbrev SF:=Ev->Option Fl
def tP(K:FG)(f:EF):TE:=λU H Q=>∃H0 Z0 Y pd r Y',SR K H0 Z0 U H Y pd/\f Y=!(r,Y')/\∀v H',SR K H0 Z0 U H' Y' ((v,r)::pd)->Q v H'
def jw(K:FG)(f:TF):TT:=λU H Q=>∃H0 Z0 Y pd b Y',SR K H0 Z0 U H Y pd/\f Y=!(b,Y')/\∀H',SR K H0 Z0 U H' Y' pd->Q b H'
def jR(K:FG)(f:AF):TA:=λU H Q=>∃H0 Z0 Y pd ls Y',SR K H0 Z0 U H Y pd/\f Y=!(ls,Y')/\∀vs H',-vs=-ls->SR K H0 Z0 U H' Y' (vs.zip ls++pd)->Q vs H'
def Lz(K:FG)(H0:Hp)(Z0:ZG)(pd:Pd)(D:kc):Fl->Prop
 |.nx Y'=>∀U' H',SR K H0 Z0 U' H' Y' pd->D.nx U' H'
 |.rt r Y'=>∀v U' H',SR K H0 Z0 U' H' Y' ((v,r)::pd)->D.rt v H'
 |.bk Y'=>∀U' H',SR K H0 Z0 U' H' Y' pd->D.bk U' H'
 |.ct Y'=>∀U' H',SR K H0 Z0 U' H' Y' pd->D.ct U' H'
def iw(K:FG)(g:SF):TS:=λD U H=>∃H0 Z0 Y pd fl,SR K H0 Z0 U H Y pd/\g Y=!fl/\Lz K H0 Z0 pd D fl
section
variable {X:Cx}{e:Expr}{es:List Expr}{st:Stmt}{EI:List Stmt}
def PE.imp(h:PE X e t)(i:∀U H Q,t' U H Q->t U H Q):PE X e t':=λae s U H Q I q=>h ae s U H Q I (i U H Q q)
def PT.imp(h:PT X e t)(i:∀U H Q,t' U H Q->t U H Q):PT X e t':=λae s U H Q I q=>h ae s U H Q I (i U H Q q)
def PW.imp(h:PW X e t)(i:∀U H Q,t' U H Q->t U H Q):PW X e t':=λwh ae s U H Q I q=>h wh ae s U H Q I (i U H Q q)
def PA.imp(h:PA X es t)(i:∀U H Q,t' U H Q->t U H Q):PA X es t':=λpos ae s U H Q I q=>h pos ae s U H Q I (i U H Q q)
def PS.imp(h:PS X st t)(i:∀D U H,t' D U H->t D U H):PS X st t':=λae s U H D I q=>h ae s U H D I (i D U H q)
def jP.imp(h:jP X EI t)(i:∀D U H,t' D U H->t D U H):jP X EI t':=λae s U H D I q=>h ae s U H D I (i D U H q)
def aa(i:Nat):EF:=λY=>match Y.vs[i]? with
 |some (!l)=>!(Zp l.pv,Y.set i (!(Zp l.pv)))
 |_=>J
def eC(p:PV):EF:=λY=>!(Zp p,Y)
abbrev bg(i:Int):=eC (ZI i)
abbrev fI(s:Str):=eC (ZH s)
abbrev ay(i:Int):=eC (ZI i)
abbrev dW(s:Str):=eC (ZH s)

open A in
def qv(h:PE X e (uH i)):PE X e (tP X.K (aa i)):=PE.imp h λU H Q q=>by
 let(H0,Z0,Y,pd,r,Y',s,f,k):=q;unfold aa at f;split at f
 . rename_i l j;cases f;let(v,h1,h2):=s.var j;show#[v,h1,k v H h2]
 . cases f
def qc(h:PE X e (tC v))(r:∀Z,b9 X.K Z p v):PE X e (tP X.K (eC p)):=PE.imp h λU H Q q=>by let(H0,Z0,Y,pd,l,Y',s,f,k):=q;cases f;show k v H (s.scal r)
def gF:∀Z,b9 K Z (ZI i) (.int i):=λZ=>by unfold b9;rfl
def pq:∀Z,b9 K Z (ZH i) (.str i):=λZ=>by unfold b9;rfl
def mq:∀Z,b9 K Z (.bl i) (.bl i):=λZ=>by unfold b9;rfl
def Bq:∀Z,b9 K Z .non .non:=λZ=>by unfold b9;rfl
def pA(K:FG)(r:R2)(g:PV->PV->Option Lc):Prop:=∀H0 Z0 U Y pd H v w x y l Q,SR K H0 Z0 U H Y ((w,Zp y)::(v,Zp x)::pd)->g x y=!l->(∀u H',SR K H0 Z0 U H' Y ((u,l)::pd)->Q u H')->r v w H Q
def au(g:PV->PV->Option Lc)(fa fb:EF):EF:=λY=>(fa Y).bind λx=>(fb x.2).bind λy=>(g x.1.pv y.1.pv).map λl=>(l,y.2)
def Xj(h:au g fa fb Y=!(l,Y')):∃x Y1 y,fa Y=!(x,Y1)/\fb Y1=!(y,Y')/\g x.pv y.pv=!l:=by
 unfold au at h;cases h1:fa Y with
 |none=>grind
 |some x=>
  cases h2:fb x.2 with
  |none=>grind
  |some y=>
   cases i:g x.1.pv y.1.pv with
   |none=>grind
   |some z=>
    grind
def LC(hs:pA X.K r g):∀U H Q,tP X.K (au g fa fb) U H Q->T3 r (tP X.K fa) (tP X.K fb) U H Q:=λU H Q q=>by let(H0,Z0,Y,pd,l,Y',s,f,k):=q;let(x,Y1,y,h1,h2,z):=Xj f;show#[H0,Z0,Y,pd,x,Y1,s,h1,λv H1 j=>#[H0,Z0,Y1,_,y,Y',j,h2,λw H2 D=>?_]];show hs H0 Z0 U Y' pd H2 v w x.pv y.pv l Q (D.freeze.swap.freeze.swap) z λu H' F=>k u H' F
def bj(j:ju X (binaryOp op) r)(hs:pA X.K r g)(z:PE X a (tP X.K fa))(q:PE X b (tP X.K fb)):PE X (.BinOp a op b pos) (tP X.K (au g fa fb)):=
 PE.imp (M2 j z q) (LC hs)
def Xk(j:ju X (compareOp op) r)(hs:pA X.K r g)(z:PE X a (tP X.K fa))(D:PE X b (tP X.K fb))(q:behindInMarks op b=M):PE X (.Compare a [op] [b] pos) (tP X.K (au g fa fb)):=
 PE.imp (ZL j z D q) (LC hs)
noncomputable def CZ (C:Int->Int->Bool) (g:Int->Int->PV):PV->PV->Option Lc
 |ZI i,ZI j=>if C i j=G then !(Zp (g i j)) else J
 |_,_=>J
def LK(h:CZ C g x y=!l):∃i j,x=ZI i/\y=ZI j/\C i j=G/\l=Zp (g i j):=by
 cases x with
 |int i=>
  cases y with
  |int j=>
   have h':(if C i j=G then !(Lc.sh (g i j)) else J)=!l:=h;split at h'
   . grind
   . cases h'
  |_=>cases h
 |_=>cases h
def cF(h:b9 K Z (ZI i) v):v=.int i:=by  show h
def dN(h:b9 K Z (ZH i) v):v=.str i:=by  show h
def ji(h:b9 K Z (.bl i) v):v=.bl i:=by  show h
def jL(h:b9 K Z .non v):v=.non:=by  show h
def Ka(F:∀i j,C i j=G->C' i j)(D:∀i j Z,b9 K Z (g i j) (gV i j)):pA K (rI C' gV) (CZ C g):=by intro H0 Z0 U Y pd H v w x y l Q s e k;let(i,j,rfl,rfl,c,rfl):=LK e;let(_,q):=s.repH;let(_,z):=s.pop.repH;let N:=cF q;let W:=cF z;show#[i,j,W,N,F i j c,k _ H (s.pop.pop.scal (D i j))]
def LR(D:∀i j Z,b9 K Z (g i j) (gV i j)):pA K (zG gV) (CZ (λ_ _=>G) g):=by intro H0 Z0 U Y pd H v w x y l Q s e k;let(i,j,rfl,rfl,c,rfl):=LK e;let(_,q):=s.repH;let(_,z):=s.pop.repH;show#[i,j,cF z,cF q,k _ H (s.pop.pop.scal (D i j))]
end
section
variable {X:Cx}
section
variable {K:FG}{H0 H H':Hp}{Z0 Z:ZG}{U:L2.St}{Y:Ev}{pd ij:Pd}{v w:V}{l:Lc}{p:PV}{g:List Addr}
def SR.newO(h:SR K H0 Z0 U H Y pd)(q:H a=J)(F:∀Z,jQ H0 Z0 Z H->ag K H0 Z H (sl Z.g U Y pd)->qU K Z (bp H a o) a p):SR K H0 Z0 U (bp H a o) Y ((.ref a,Zs p)::pd):=by let(e,Z,D,z,s):=h;let(j,s'):=s.new z q (F Z z s);show .mk e D j s'
def Kc{α:Type}(A B C:List α):Perm (A++(B++C)) (B++(A++C)):=by rw[<-d6 A B C,<-d6 B A C];show perm_append_comm.append_right _
def U8:Perm (sl g U Y (pe++pd)) (pe.map (λe=>((some e.1:Option V),(some e.2:Option Lc)))++sl g U Y pd):=by unfold sl;rw[d0];show((Kc _ _ _).append_left _).trans (Kc _ _ _)
theorem SR.freezeAll:∀{vs:List V}{ls:List Lc}{pd:Pd},SR K H0 Z0 U H Y (vs.zip ls++pd)->SR K H0 Z0 U H Y (vs.zip (ls.map λl=>.sh l.pv)++pd)
 |[],ls,pd=>λh=>by simpa using h
 |v::vs,[],pd=>λh=>by grind
 |v::vs,l::ls,pd=>λh=>by let h1:=h;let h2:=h1.freeze.perm gI;let i:=SR.freezeAll h2;show i.perm gI.symm
theorem ag.repl:∀{vs:List V}{ps:List PV},-vs=-ps->ag K H0 Z H ((vs.zip (ps.map λp=>Lc.sh p)).map (λe=>(!e.1,!e.2))++L)->aK K Z ps vs
 |[],[]=>λ_ _=>.nil
 |v::vs,p::ps=>λe h=>by let h1:=h;let(x,j,i):=h1.1 _ cf;cases j;show aK.cons i (ag.repl ∅ (h1.sub (f6 _ _)))
 |[],p::ps=>λe _=>by grind
 |v::vs,[]=>λe _=>by grind
theorem SR.repl{vs:List V}{ls:List Lc}(h:SR K H0 Z0 U H Y (vs.zip ls++pd))(e:-vs=-ls):-U=-Y.vs/\∃Z,-Y.mu=-Z.g/\jQ H0 Z0 Z H/\aK K Z (ls.map Lc.pv) vs/\ag K H0 Z H (sl Z.g U Y pd):=by
 let(i,Z,j,z,s):=h.freezeAll;have D:(ls.map λl=>Lc.sh l.pv)=(ls.map Lc.pv).map λp=>Lc.sh p:=by rw[fF];rfl
 rw[D]at s;have q:Perm (sl Z.g U Y (vs.zip ((ls.map Lc.pv).map λp=>Lc.sh p)++pd)) ((vs.zip ((ls.map Lc.pv).map λp=>Lc.sh p)).map (λe=>(!e.1,!e.2))++sl Z.g U Y pd):=U8;let s':=s.perm q.symm;show#[i,Z,j,z,ag.repl ∅ s',s'.sub (oP _ _)]
end
def yZ{α:Type}{l:List α}(h:-l=1):∃a,l=[a]:=length_eq_one_iff.mp h
def sP{α:Type}{l:List α}(h:-l=2):∃a b,l=[a,b]:=by
 cases l with
 |nil=>cases h
 |cons a l=>let(b,rfl):=yZ (rS h);show#[a,b,O]
def EJ{α:Type}{l:List α}(h:-l=3):∃a b c,l=[a,b,c]:=by
 cases l with
 |nil=>cases h
 |cons a l=>let(b,c,rfl):=sP (rS h);show#[a,b,c,O]
def EK{α:Type}{l:List α}(h:-l=4):∃a b c d,l=[a,b,c,d]:=by
 cases l with
 |nil=>cases h
 |cons a l=>let(b,c,d,rfl):=EJ (rS h);show#[a,b,c,d,O]
def Ta{α:Type}{l:List α}(h:-l=5):∃a b c d e,l=[a,b,c,d,e]:=by
 cases l with
 |nil=>cases h
 |cons a l=>let(b,c,d,e,rfl):=EK (rS h);show#[a,b,c,d,e,O]
def ao:AF:=λY=>!([],Y)
noncomputable def aj (f:EF) (g:AF):AF:=λY=>(f Y).bind λx=>(g x.2).map λy=>(x.1::y.1,y.2)
def aq:PA X [] (jR X.K ao):=PA.imp zK λU H Q q=>by let(H0,Z0,Y,pd,l,Y',s,f,k):=q;cases f;show k [] H O s
def ak(i:PE X e (tP X.K f))(F:PA X es (jR X.K g))(hs:starEach (e::es) X.env=(M,eval e X.env)::starEach es X.env:=by rfl):PA X (e::es) (jR X.K (aj f g)):=PA.imp (wz i F hs) λU H Q q=>by
 let(H0,Z0,Y,pd,l,Y',s,h,k):=q;unfold aj at h;cases h1:f Y with
 |none=>grind
 |some x=>
  rw[h1,cr]at h;cases h2:g x.2 with
  |none=>grind
  |some y=>
   rw[h2]at h;cases h;show#[H0,Z0,Y,pd,x.1,x.2,s,h1,λv H1 D=>#[H0,Z0,x.2,_,y.1,y.2,D,h2,λz H2 N j=>?_]];show k (v::z) H2 ∅ (j.perm gI.symm)
def cu(g:AF):EF:=λY=>(g Y).bind λy=>if -y.1<=1000 then !(Zs (R (y.1.map Lc.pv)),y.2) else J
def aX(g:AF):EF:=λY=>(g Y).bind λy=>if -y.1<=1000 then !(Zp (ZB (y.1.map Lc.pv)),y.2) else J
def fz(h:n<=100000):n<=sizeLine:=by  lia
def dz(h:PA X es (jR X.K g)):PE X (.List es pos) (tP X.K (cu g)):=PE.imp (NF h) λU H Q q=>by
 let(H0,Z0,Y,pd,l,Y',s,f,k):=q;unfold cu at f;cases h2:g Y with
 |none=>grind
 |some y=>
  rw[h2,cr]at f;split at f
  . cases f;show#[H0,Z0,Y,pd,y.1,y.2,s,h2,λW H2 e2 N=>#[fz (),λp hp=>k _ _ ?_]];let(j,Z,D,z,r,i):=N.repl e2;let(F,s'):=i.new (p:=R (y.1.map Lc.pv)) z hp #[W,bZ,r];show .mk j D F s'
  . cases f
def cP{x1}(h:PA X es (jR X.K g)):PE X (.Tuple es x1 pos) (tP X.K (aX g)):=PE.imp (ND h) λU H Q q=>by
 let(H0,Z0,Y,pd,l,Y',s,f,k):=q;unfold aX at f;cases h2:g Y with
 |none=>grind
 |some y=>
  rw[h2,cr]at f;split at f
  . cases f;show#[H0,Z0,Y,pd,y.1,y.2,s,h2,λj H2 e2 W=>#[fz (),λp hp=>k _ _ ?_]];let(D,Z,F,z,r,i):=W.repl e2;let(N,sz,s'):=i.newF z hp;show .mk (Z:=Z.put p (.tup j)) D F N (s'.consS ?_);show#[p,j,O,cW.of bZ,r.mono sz]
  . cases f
def tT(f:EF)(tr:PV->Option Bool):TF:=λY=>(f Y).bind λx=>(tr x.1.pv).map λb=>(b,x.2)
noncomputable def qW:PV->Option Bool
 |.non=>!M
 |.bl b=>!b
 |ZI i=>!(i != 0)
 |ZH x=>if -x<=100000 then !((-x:Int) != 0) else J
 |ZB ps=>!(not ps.isEmpty)
 |R ps=>!(not ps.isEmpty)
 |.dk ks ps=>!(not ps.isEmpty)
 |_=>J
def Tb(r:b9 K #[H,g] p v)(h:qW p=!b):Wn K v H b:=by
 cases p with
 |non=>have:=jL r;subst this;cases h;show O
 |bl c=>have:=ji r;subst this;cases h;show O
 |int i=>have:=cF r;subst this;cases h;show O
 |str x=>
  have:=dN r;subst this;have h:(if -x<=100000 then !((-x:Int) != 0) else J)=!b:=h;split at h
  . rename_i F;cases h;show#[fz F,O]
  . cases h
 |tup ps=>
  let(a,j,rfl,h1,h2):=r;cases h;show YY (Zl #[j,h1,?_]);have:=-h2;grind
 |lst ps=>
  let(a,j,rfl,h1,h2):=r;cases h;show Zl #[j,h1,?_];have:=-h2;grind
 |dk ks ps=>
  let(a,q,rfl,h1,W,h2):=r;cases h;show YY (YY #[q,h1,?_]);have:=-h2;grind
 |_=>cases h
def Qw(h:tT f tr Y=!(b,Y')):∃x,f Y=!(x,Y')/\tr x.pv=!b:=by
 unfold tT at h;cases h1:f Y with
 |none=>grind
 |some x=>
  cases h2:tr x.1.pv with
  |none=>grind
  |some y=>grind
def Fo(D:PE X a (tP X.K f))(he:∀j,isTrue a X.env j=(do let v <-j;standAt a.pos;holding [v] (truthy v))):PT X a (jw X.K (tT f qW)):=PT.imp (Wo D he) λU H Q q=>by let(H0,Z0,Y,pd,b,Y',s,F,k):=q;let(x,h1,h2):=Qw F;show#[H0,Z0,Y,pd,x,Y',s,h1,λv H1 z=>#[b,Tb z.freeze.repH.choose_spec h2,k H1 z.pop]]
def aY:PV->Option Bool
 |.bl b=>!b
 |_=>J
def Tj(z:PT X a (YT (tP X.K f))):PT X a (jw X.K (tT f aY)):=PT.imp z λU H Q q=>by
 let(H0,Z0,Y,pd,b,Y',s,D,k):=q;let(x,h1,h2):=Qw D;show#[H0,Z0,Y,pd,x,Y',s,h1,λv H1 j=>#[b,?_,k H1 j.pop]];let(_,r):=j.freeze.repH;cases e:x.pv with
 |bl c=>rw[e]at h2 r;cases h2;show ji r
 |_=>rw[e]at h2;cases h2
def bN(z:ju X (compareOp op) r)(hs:pA X.K r g)(F:PE X a (tP X.K fa))(j:PE X b (tP X.K fb))(D:behindInMarks op b=M):PT X (.Compare a [op] [b] pos) (jw X.K (tT (au g fa fb) aY)):=
 Tj (PT.imp (ZM z F j D) λU H Q q=>LC hs U H _ q)
def eE(f g:TF):TF:=λY=>(f Y).bind λx=>if x.1=G then g x.2 else !(M,x.2)
def tO(f g:TF):TF:=λY=>(f Y).bind λx=>if x.1=G then !(G,x.2) else g x.2
noncomputable def Br (f:TF):TF:=λY=>(f Y).map λx=>(not x.1,x.2)
def Tk:∀U H Q,jw X.K (eE f g) U H Q->CD (jw X.K f) (jw X.K g) U H Q:=λU H Q q=>by
 let(H0,Z0,Y,pd,b,Y',s,h,k):=q;unfold eE at h;cases h1:f Y with
 |none=>grind
 |some x=>
  rw[h1,cr]at h;show#[H0,Z0,Y,pd,x.1,x.2,s,h1,λH1 j=>?_];dsimp only;split
  . rename_i c;rw[aE c]at h;show#[H0,Z0,x.2,pd,b,Y',j,h,k]
  . grind
def Tl:∀U H Q,jw X.K (tO f g) U H Q->CF (jw X.K f) (jw X.K g) U H Q:=λU H Q q=>by
 let(H0,Z0,Y,pd,b,Y',s,h,k):=q;unfold tO at h;cases h1:f Y with
 |none=>grind
 |some x=>
  rw[h1,cr]at h;show#[H0,Z0,Y,pd,x.1,x.2,s,h1,λH1 j=>?_];dsimp only;split
  . grind
  . rename_i c;rw[bh c]at h;show#[H0,Z0,x.2,pd,b,Y',j,h,k]
def mX(j:PT X a (jw X.K f)):PW X (.BoolOp .And [a] pos) (jw X.K f):=ZF j
def Fp(j:PT X a (jw X.K f)):PW X (.BoolOp .Or [a] pos) (jw X.K f):=Mb j
def pO{rest:List Expr}(j:PT X a (jw X.K f))(q:PW X (.BoolOp .And (b::rest) pos) (jw X.K g)):PW X (.BoolOp .And (a::b::rest) pos) (jw X.K (eE f g)):=PW.imp (Mc j q) Tk
def Ke{rest:List Expr}(j:PT X a (jw X.K f))(q:PW X (.BoolOp .Or (b::rest) pos) (jw X.K g)):PW X (.BoolOp .Or (a::b::rest) pos) (jw X.K (tO f g)):=PW.imp (Me j q) Tl
def we(z:PT X a (jw X.K f)):PT X (.UnaryOp .Not a pos) (jw X.K (Br f)):=PT.imp (Mn z) λU H Q q=>by
 let(H0,Z0,Y,pd,b,Y',s,h,k):=q;unfold Br at h;cases h1:f Y with
 |none=>grind
 |some x=>
  rw[h1]at h;cases h;show#[H0,Z0,Y,pd,x.1,x.2,s,h1,λH1 j=>k H1 j]
def Zb(c:TF)(f g:EF):EF:=λY=>(c Y).bind λx=>if x.1=G then f x.2 else g x.2
def Tn(F:PT X c (jw X.K fc))(D:PE X a (tP X.K f))(z:PE X b (tP X.K g)):PE X (.IfExp c a b pos) (tP X.K (Zb fc f g)):=PE.imp (Wg F D z) λU H Q q=>by
 let(H0,Z0,Y,pd,b,Y',s,h,k):=q;unfold Zb at h;cases h1:fc Y with
 |none=>grind
 |some x=>
  rw[h1,cr]at h;show#[H0,Z0,Y,pd,x.1,x.2,s,h1,λH1 j=>?_];dsimp only;split
  . rename_i c;rw[aE c]at h;show#[H0,Z0,x.2,pd,b,Y',j,h,k]
  . rename_i c;rw[bh c]at h;show#[H0,Z0,x.2,pd,b,Y',j,h,k]
def bR:SF:=λY=>!(.nx Y)
def aF(f g:SF):SF:=λY=>(f Y).bind λx=>match x with
 |.nx Y'=>g Y'
 |y=>!y
def bH:jP X [] (iw X.K bR):=jP.imp ZJ λD U H q=>by let(H0,Z0,Y,pd,fl,s,h,k):=q;cases h;show k U H s
def az{st:Stmt}{rest:List Stmt}(h1:PS X st (iw X.K f))(h2:jP X rest (iw X.K g)):jP X (st::rest) (iw X.K (aF f g)):=jP.imp (Wh h1 h2) λD U H q=>by
 let(H0,Z0,Y,pd,fl,s,h,k):=q;unfold aF at h;cases e:f Y with
 |none=>rw[e]at h;cases h
 |some x=>
  rw[e,cr]at h;show#[H0,Z0,Y,pd,x,s,e,?_];cases x with
  |nx Y'=>show λz H' s'=>#[H0,Z0,Y',pd,fl,s',h,k]
  |rt r Y'=>cases h;show k
  |bk Y'=>cases h;show k
  |ct Y'=>cases h;show k
def aD{st:Stmt}(h1:PS X st (iw X.K f)):jP X [st] (iw X.K f):=ZK h1
def rW(f:EF):SF:=λY=>(f Y).map λx=>.nx x.2
def de{α β:Type}{o:Option α}{f:α->β}{b:β}(h:o.map f=!b):∃a,o=!a/\f a=b:=by
 cases o with
 |none=>cases h
 |some a=>grind
def b_{α β:Type}{o:Option α}{f:α->Option β}{b:β}(h:o.bind f=!b):∃a,o=!a/\f a=!b:=by
 cases o with
 |none=>cases h
 |some a=>show#[a,O,h]
def G5(he:PE X e (tP X.K f))(hs:swapsWith e J pos.line X.env=pure M:=by rfl):PS X (.Expr e pos) (iw X.K (rW f)):=PS.imp (qK he hs) λD U H q=>by let(H0,Z0,Y,pd,fl,s,h,k):=q;let(x,h1,rfl):=de h;show#[H0,Z0,Y,pd,x.1,x.2,s,h1,λv H' s'=>k U H' s'.pop]
def cI(f:EF):SF:=λY=>(f Y).map λx=>.rt x.1 x.2
def bK(he:PE X e (tP X.K f)):PS X (.Return (!e) pos) (iw X.K (cI f)):=PS.imp (Tz he) λD U H q=>by let(H0,Z0,Y,pd,fl,s,h,k):=q;let(x,h1,rfl):=de h;show#[H0,Z0,Y,pd,x.1,x.2,s,h1,λv H' s'=>k v U H' s']
def gZ(i:Nat):SF:=λY=>match Y.vs[i]? with
 |some (!l)=>!(.rt l (Y.set i J))
 |_=>J

open A in
def gh(he:PE X e (uH i)):PS X (.Return (!e) pos) (iw X.K (gZ i)):=PS.imp (Tz he) λD U H q=>by
 let(H0,Z0,Y,pd,fl,s,h,k):=q;unfold gZ at h;split at h
 . rename_i l j;cases h;let(v,h1,h2):=s.take j;show#[v,h1,k v U H h2]
 . cases h
def cC(c:TF)(f g:SF):SF:=λY=>(c Y).bind λx=>if x.1=G then f x.2 else g x.2
def b8(N:PT X c (jw X.K fc))(F:jP X a (iw X.K f))(z:jP X b (iw X.K g)):PS X (.If c a b pos) (iw X.K (cC fc f g)):=PS.imp (MG N F z) λD U H q=>by
 let(H0,Z0,Y,pd,fl,s,h,k):=q;let(x,h1,h2):=b_ h;show#[H0,Z0,Y,pd,x.1,x.2,s,h1,λH1 j=>?_];dsimp only;split
 . rename_i c;rw[aE c]at h2;show#[H0,Z0,x.2,pd,fl,j,h2,k]
 . rename_i c;rw[bh c]at h2;show#[H0,Z0,x.2,pd,fl,j,h2,k]
def aL(i:Nat)(f:EF):SF:=λY=>(f Y).bind λx=>if i< -x.2.vs then !(.nx (x.2.set i (!x.1))) else J
def Qx{t:TS}(h:∀D U H,(tP X.K f U H λv H1=>D.nx (U.set i (!v)) H1)->t D U H):∀D U H,iw X.K (aL i f) D U H->t D U H:=λD U H q=>by
 let(H0,Z0,Y,pd,fl,s,h',k):=q;let(x,h1,h2):=b_ h';split at h2
 . rename_i z;cases h2;show h D U H #[H0,Z0,Y,pd,x.1,x.2,s,h1,λv H1 j=>k _ _ (j.store z)]
 . cases h2
def wI{pos pos':Pos}(z:X.N.Nodup)(hi:X.N[i]?=!x)(j:L2.Loc X.env.scope x)(he:PE X e (tP X.K f))(hs:swapsWith e (!(.Name x pos')) pos.line X.env=pure M:=by rfl)(F:X.fn x=G\/X.env.scope.names.lookup x=!.local:=by first |show Zl O |show YY O |assumption):
 PS X (.Assign [.Name x pos'] e pos) (iw X.K (aL i f)):=PS.imp (MM z hi j he hs F) (Qx λD U H q=>q)
abbrev GF:=List PV->Mu->Option (Lc×Mu)
def my(H:Hp)(g:List Addr):Hp:=λb=>if b∈g then J else H b
def To(h:my H g b=!o):H b=!o/\b∉g:=by
 unfold my at h;split at h
 . cases h
 . grind
def Xl(h:b∈g):my H g b=J:=by unfold my;grind
def Mf(h:b∉g):my H g b=H b:=by unfold my;grind
def EL(K:FG)(H:Hp)(Z:ZG)(g:List Addr)(H':Hp)(e7:Mu)(v:V)(r:Lc):Prop:=∃Z',-e7=-Z'.g/\jQ (my H g) Z Z' H'/\ag K (my H g) Z' H' ((!v,!r)::cel Z'.g e7)
def bW(K:FG)(n:Nat)(g:GF):Sp:=λvs H Q _=>∃(Z:ZG)(ps:List PV)(mu:Mu)(r:Lc)(e7:Mu),-vs=n/\-mu=-Z.g/\eY_ Z.z H/\aK K Z ps vs/\ag K (my H (uP Z.g mu)) Z H (cel Z.g mu)/\g ps mu=!(r,e7)/\∀v H',EL K H Z (uP Z.g mu) H' e7 v r->Q v H'
def aN(g:GF)(a:AF):EF:=λY=>(a Y).bind λy=>(g (y.1.map Lc.pv) y.2.mu).map λr=>(r.1,#[y.2.vs,r.2])
def Tp(he:e∈cel g mu):∃a,e.1=!(.ref a)/\(e.2=J\/∃p,e.2=!(Zs p)):=by
 let(h1,h2):=l_ he;let(a,_,j):=dA.mp h1;let(o,_,q):=dA.mp h2;show#[a,j.symm,?_];cases o with
 |none=>grind
 |some p=>grind
def ag.cells(Q:-Y.mu=-Z.g)(s:ag K H0 Z H (sl Z.g U Y pd)):ag K (my H (uP Z.g Y.mu)) Z H (cel Z.g Y.mu):=by
 let z:=s.sub (j2 _ _);show#[λe q=>?_,z.2];let(a,h1,h2):=Tp q;let(v,l):=e;let j:=h1;subst j;obtain h2|⟨p,h2⟩:=h2
 . let i:=h2;subst i;trivial
 . let i:=h2;subst i;let(b,N,D,F,W):=z.1 _ q;cases N;show#[a,O,D,F,Xl (j6.mpr #[_,q,O])]
def SR.called(el:-U=-Y.vs)(hg:-Y.mu=-Z.g)(z:jQ H0 Z0 Z H)(s:ag K H0 Z H (sl Z.g U Y pd))(h:EL K H Z (uP Z.g Y.mu) H' j v r):SR K H0 Z0 U H' #[Y.vs,j] ((v,r)::pd):=by
 let(Z',zw,F,q):=h;let s0:=s.sub (oP _ _);have nd:(uP Z.g Y.mu++(U.zip Y.vs++pd.map λe=>(!e.1,!e.2)).filterMap mj).Nodup:=by have:=s.2;unfold sl at this;rw[filterMap_append]at this;show this
 have Ts:∀a∈uP Z.g Y.mu,H0 a=J:=λa D=>by let(e,i,hb):=j6.mp D;show(jn (s.sub (j2 _ _)) i hb).2.1
 have h0:eY_ H0 (my H (uP Z.g Y.mu)):=λb o e=>by rw[Mf λhm=>by rw[Ts b hm]at e;cases e];show z.h0 b o e
 have z2:jQ H0 Z0 Z' H':=#[F.zh,h0.trans F.h0,z.z0.trans F.z0,λb o e=>by
  obtain e|e|e:=F.new b o e
  . show z.new b o e
  . show YY (Zl (h0.free e))
  . show YY (YY e)]
 have EM:∀e∈(U.zip Y.vs++pd.map λe=>((some e.1:Option V),(some e.2:Option Lc))),∀a,mj e=!a->a∉uP Z.g Y.mu/\my H (uP Z.g Y.mu) a=H a:=λe i a D=>by let hn:=λhm=>(oS.mp nd).2.2 a hm a (j6.mpr #[e,i,D]) O;show#[hn,Mf hn]
 have hk:∀e∈(U.zip Y.vs++pd.map λe=>((some e.1:Option V),(some e.2:Option Lc))),∀a,mj e=!a->H' a=H a/\Z'.z a=J:=λe i a D=>by
  let(h1,h2,o,W,h4):=jn s0 i D;let(hn,ho):=EM e i a D;let h5:=F.h0 a o ();show#[by rw[W];show h5,?_];cases q:Z'.z a with
  |none=>rfl
  |some u=>
   obtain e|e|e:=F.new a u q
   . grind
   . grind
   . have:=F.zh a u q;grind
 let s2:=s0.step F.z0 hk;have q':ag K H0 Z' H' ((!v,!r)::cel Z'.g j):=by
  show#[λe i=>?_,q.2];have:=q.1 e i;let(w,l):=e;cases l with
  |none=>trivial
  |some l=>
   cases l with
   |sh p=>show this
   |own p=>let(a,e1,e2,e3,e4):=this;show#[a,e1,e2,e3,h0.free e4]
 have Tx:∀e∈((!v,!r)::cel Z'.g j),∀a,mj e=!a->∀e'∈(U.zip Y.vs++pd.map λe=>((some e.1:Option V),(some e.2:Option Lc))),mj e'≠!a:=λe i a D e' N Q=>by let(_,h2,_):=jn q i D;let(_,_,o,W,_):=jn s0 N Q;rw[(EM e' N a Q).2,W]at h2;cases h2
 show .mk el zw z2 ?_;show#[λe i=>?_,?_]
 . obtain rfl|i:=bP.mp i
   . show q'.1 _ cf
   . obtain i|i:=dy.mp i
     . show q'.1 _ (dP _ i)
     . show s2.1 e i
 . show (((!v,!r)::(cel Z'.g j++(U.zip Y.vs++pd.map λe=>(!e.1,!e.2)))).filterMap mj).Nodup;rw[<-q_,filterMap_append];show oS.mpr #[q'.2,s2.2,λa D b hb e=>?_];subst e;let(e1,TB,h1):=j6.mp D;let(e2,TD,h2):=j6.mp hb;show Tx e1 TB a h1 e2 TD h2
def Xm:∀U H Q,(∃H0 Z0 Y pd r Y',SR X.K H0 Z0 U H Y pd/\aN g a Y=!(r,Y')/\(∀ls Y1,a Y=!(ls,Y1)->-ls=n)/\∀v H',SR X.K H0 Z0 U H' Y' ((v,r)::pd)->Q v H')->YW (bW X.K n g) [] E (jR X.K a) U H Q:=λU H Q q=>by
 let(H0,Z0,Y,pd,r,Y',s,h,hn,k):=q;let(y,h1,h2):=b_ h;let(r',F,h4):=de h2;cases h4;show#[H0,Z0,Y,pd,y.1,y.2,s,h1,λvs H2 D W=>?_];let(N,Z,j,z,rl,i):=W.repl D;show#[Z,y.1.map Lc.pv,y.2.mu,_,_,?_,j,z.zh,?_,i.cells j,F,λv H' rr=>k v H' (SR.called N j z i rr)]
 . rw[eJ,D];show hn _ _ h1
 . grind
end
section
variable {P:Program}{w:World}{K:FG}{mg:Str->Option Value}{base:Heap}
def cL(K:FG)(mg:Str->Option Value)(x:Str)(st:Stmt)(ps:List Str):Prop:=∃f fd,vD K x x st f fd/\mg x=!(YV f)/\eH K fd ps []
def Mg(b:Bool)(P:Program)(w:World)(K:FG)(mg:Str->Option Value)(base:Heap)(x:Str)(k:Nat)(ps:List Str)(sp:Sp):Prop:=∃f fd,t6 b P w K mg base qD k f fd ps sp/\mg x=!(YV f)/\W.keepIn K (YV f)=G/\eH K fd ps []
abbrev bI:=Mg G
noncomputable def env0 (n:Nat) (ps:List PV) (mu:Mu):Ev:=#[ps.map (λp=>!(Lc.sh p))++replicate (n-(-ps)) J,mu]
def cY(n:Nat)(g:SF):GF:=λps mu=>(g (env0 n ps mu)).bind λx=>match x with
 |.rt r Y=>!(r,Y.mu)
 |.nx Y=>!(Zp .non,Y.mu)
 |_=>J
theorem Qy(s:ag K H0 Z H L):∀{ps:List PV}{vs:List V},aK K Z ps vs->ag K H0 Z H ((vs.map some).zip (ps.map λp=>!(Lc.sh p))++L)
 |[],vs=>λh=>by have:=h.inv0;subst this;simpa using s
 |p::ps,vs=>λh=>by let(v,r,rfl,h1,h2):=h.inv;show(Qy s h2).consS h1
theorem nones(s:ag K H0 Z H L):∀n:Nat,ag K H0 Z H ((replicate n (J:Option V)).zip (replicate n (J:Option Lc))++L)
 |0=>s
 |n+1=>by
  let j:=nones s n;show#[λe i=>?_,?_]
  . obtain rfl|i:=bP.mp i
    . trivial
    . show j.1 e i
  .  show j.2
def Ds(q:-mu=-Z.g)(z:eY_ Z.z H)(r:aK K Z ps vs)(c:ag K (my H (uP Z.g mu)) Z H (cel Z.g mu)):SR K (my H (uP Z.g mu)) Z (L2.start N vs) H (env0 (-N) ps mu) []:=by let j:=-r;show#[by simp[L2.start,env0,j],Z,q,#[z,λb o e=>(To e).1,iu.refl _,λb o e=>Zl e],?_];unfold sl L2.start env0;rw[md ∅,rQ,eJ,j];show(Qy (nones c _) r).perm ((ky).trans (by rw[d6]))
theorem cL.ok{st:Stmt}(F:cL K mg x st ps)(S:bz N ps (aG st))
 (h:∀(f:Addr)(j:Value)(A:Around)(i:List PySem.Env)(s:Shared)(H:Hp)(E:XK),gn b k (A.deeper (envOfC x (aG st) s.heap.objs.size f j))->
   ∃g':SF,(∀a mu,g a mu=cY (-N) g' a mu)/\jP (vC b qD P w K mg base N x (aG st) f j A i s H E).nox (jC st) (iw K g')):Mg b P w K mg base x (k+1) ps (bW K (-ps) g):=by
 let(f,fd,F,hm,hb):=F;show#[f,fd,F.ok S (λvs H Q E q=>?_) (λj A i s H vs Q E hr q=>?_),hm,F.kp,hb]
 . let(Z,qs,mu,r,e7,e,_):=q;show e
 . let(g',eg,b):=h f j A i s H E hr;let(Z,qs,mu,r,e7,e,hg,z,rl,c,mS,kk):=q;rw[eg]at mS;let(fl,h1,h2):=b_ mS;show#[_,b,my H (uP Z.g mu),Z,_,[],fl,Ds hg z rl c,h1,?_];cases fl with
   |rt r' Y'=>
    cases h2;intro v U' H' s';let(el,Z',D,z',W):=s'.top;show kk v H' #[Z',D,z',W.sub ?_];show(j2 _ _).cons_cons _
   |nx Y'=>
    cases h2;intro U' H' s';let(el,Z',D,z',W):=s';show kk .non H' #[Z',D,z',(W.sub (j2 _ _)).consS (Bq _)]
   |bk Y'=>cases h2
   |ct Y'=>cases h2
end
section
variable {X:Cx}
def bL{p pos:Pos}(D:Mg b X.prog X.w X.K X.mg X.base x k ps (bW X.K (-ps) g))(hr:gn b k X.A)(N:Gl X x)
 (z:PA X (e::es) (jR X.K a)) (hn:∀Y ls Y1,a Y=!(ls,Y1)->-ls=-ps) (i:(x==("__debug__" : Str))=M:=by decide) (he:starEach (e::es) X.env=(M,eval e X.env)::starEach es X.env:=by rfl) (j:(backTo pos (starEach es X.env)).any (·.1)=M:=by rfl):PE X (.Call (.Name x p) (e::es) [] pos) (tP X.K (aN g a)):=by
 let(f,fd,F,W,hk,hb):=D;show PE.imp (ZS F hr N W hk hb .nil J6 z i he j) λU H Q q=>?_;let(H0,Z0,Y,pd,r,Y',s,h,kk):=q;show Xm U H Q #[H0,Z0,Y,pd,r,Y',s,h,λls Y1 e=>hn Y ls Y1 e,kk]
section
variable {K:FG}{H0 H H':Hp}{Z0 Z:ZG}{U:L2.St}{Y:Ev}{pd ij:Pd}{v w:V}{l:Lc}{p:PV}
theorem SR.sub(h:SR K H0 Z0 U H Y ij)(q:Sublist pd ij):SR K H0 Z0 U H Y pd:=
 let #[e,Z,hg,z,s]:=h
 #[e,Z,hg,z,s.sub ((rO _).append ((rO _).append (q.map _)))]
def SR.part(h:SR K H0 Z0 U H Y ((v,Zp p)::pd))(k:∀Z:ZG,eY_ Z.z H->b9 K Z p v->b9 K Z q u):SR K H0 Z0 U H Y ((u,Zp q)::(v,Zp p)::pd):=by let(e,Z,F,z,s):=h.top;let(x,D,j):=s.1 _ cf;cases D;show .mk e F z ((s.perm dD).consS (k Z z.zh j))
end
abbrev BF:=PV->Ev->Option Ev
def GS(K:FG)(g:TG)(b:BF):Prop:=∀H0 Z0 U H Y pd v p Y' Q,SR K H0 Z0 U H Y ((v,Zp p)::pd)->b p Y=!Y'->(∀U',SR K H0 Z0 U' H Y' pd->Q U' H)->g v U H Q
abbrev Mh:=List PV->Ev->Option Ev
def Zc(K:FG)(g:yU)(b:Mh):Prop:=∀H0 Z0 U H Y pd vs ps Y' Q,-vs=-ps->SR K H0 Z0 U H Y (vs.zip (ps.map Lc.sh)++pd)->b ps Y=!Y'->(∀U',SR K H0 Z0 U' H Y' pd->Q U' H)->g vs U H Q
def aC(i:Nat):BF:=λp Y=>if i< -Y.vs then !(Y.set i (!(Zp p))) else J
def aM:GS K (J4 i) (aC i):=by
 intro H0 Z0 U H Y pd v p Y' Q s h k;unfold aC at h;split at h
 . rename_i j;cases h;show k _ (s.store j)
 . cases h
def fu:Mh:=λps Y=>match ps with
 |[]=>!Y
 |_=>J
def aW(b:BF)(bs:Mh):Mh:=λps Y=>match ps with
 |p::r=>(b p Y).bind λY1=>bs r Y1
 |[]=>J
def iU:Zc K CH fu:=by
 intro H0 Z0 U H Y pd j ps Y' Q e s h k;cases ps with
 |nil=>
  cases h;have:j=[]:=Co ();subst this;show#[O,k U s]
 |cons p r=>cases h
def bV(h1:GS K t b)(h2:Zc K u bs):Zc K (YJ t u) (aW b bs):=by
 intro H0 Z0 U H Y pd D ps Y' Q e s h k;cases ps with
 |nil=>cases h
 |cons p r=>
  cases D with
  |nil=>grind
  |cons v ws=>
   let(Y1,z,q):=b_ h;show#[v,ws,O,h1 H0 Z0 U H Y _ v p Y1 _ s z λj s'=>?_];show h2 H0 Z0 j H Y1 pd ws r Y' Q ∅ s' q k
theorem U9(s:ag K H0 Z H L):∀{ps:List PV}{vs:List V},aK K Z ps vs->ag K H0 Z H ((vs.zip (ps.map Lc.sh)).map (λe=>(!e.1,!e.2))++L)
 |[],vs=>λh=>by have:=h.inv0;subst this;simpa using s
 |p::ps,vs=>λh=>by let(v,r,rfl,h1,h2):=h.inv;show(U9 s h2).consS h1
def SR.items(e:-U=-Y.vs)(j:-Y.mu=-Z.g)(z:jQ H0 Z0 Z H)(r:aK K Z ps vs)(s:ag K H0 Z H (sl Z.g U Y pd)):SR K H0 Z0 U H Y (vs.zip (ps.map Lc.sh)++pd):=
 #[e,Z,j,z,(U9 s r).perm U8]
def Xn(f:EF)(b:BF):SF:=λY=>(f Y).bind λx=>(b x.1.pv x.2).map Fl.nx
def wf{pos:Pos}(he:PE X e (tP X.K f))(F:PG X tg g)(j:GS X.K g b)(hs:swapsWithSole [tg] e pos.line X.env=pure M:=by rfl)(i:swappedStores [tg] e X.env=pure J:=by rfl)
 (h1:(assignEach [tg] X.env).map (·.2)=[assign tg X.env]:=by rfl):PS X (.Assign [tg] e pos) (iw X.K (Xn f b)):=PS.imp (KH he F hs i h1) λD U H q=>by
 let(H0,Z0,Y,pd,fl,s,h,k):=q;let(x,h1,h2):=b_ h;let(Y',W,rfl):=de h2;show#[H0,Z0,Y,pd,x.1,x.2,s,h1,λv H1 z=>j H0 Z0 U H1 x.2 pd v _ Y' D.nx z.freeze W λN s'=>k N H1 s']
def qX(K:FG)(H0:Hp)(Z0:ZG)(pd:Pd)(ZU:It)(xs:List PV):Prop:=∀U H Y (i:Nat),SR K H0 Z0 U H Y pd->
 (∀x,xs[i]?=!x->ZU.go i H/\∀v H',ZU.yld i H v H'->SR K H0 Z0 U H' Y ((v,Zp x)::pd))/\(i=-xs->ZU.stop i H)
abbrev IF:=Ev->Option (List PV×Ev)
def Iz(K:FG)(f:IF):TI:=λU H ZI=>∃H0 Z0 Y pd xs Y',SR K H0 Z0 U H Y pd/\f Y=!(xs,Y')/\∀ZU H' ij,SR K H0 Z0 U H' Y' ij->qX K H0 Z0 ij ZU xs->List.Sublist pd ij->ZI ZU H'
def PI.imp(h:PI X tg iter t)(i:∀U H ZN,t' U H ZN->t U H ZN):PI X tg iter t':=λae s U H R I q=>h ae s U H R I (i U H R q)
def dh(f:EF)(g:PV->Option (List PV)):IF:=λY=>(f Y).bind λx=>(g x.1.pv).map λxs=>(xs,x.2)
def Va:qX K H0 Z0 ((.ref a,Zp (R ps))::pd) (YK K a) ps:=by intro U H Y i s;let(Z,z,r):=s.rep;let(b,W,e,h1,h2):=r;cases e;let hq:=bY.same z h1;show#[λx hx=>?_,λhl=>#[W,hq,by rw[h2.length];lia]];let(v,hv,rv):=h2.get hx;show#[#[W,v,hq,hv],λv' H' y=>?_];let(N,y):=y;subst N;have:=y W hq;rw[hv]at this;cases this;show s.part λZ' z' r'=>?_;let(b',j,N,D,F):=r';cases N;have:j[i]?=!v:=y j (bY.same z' D);let(p',q,Q):=F.getV this;grind
def Xo:qX K H0 Z0 ((.ref a,Zp (ZB ps))::pd) (YL K a) ps:=by intro U H Y i s;let(Z,z,r):=s.rep;let(b,W,e,h1,h2):=r;cases e;let hq:=cW.same z h1;show#[λx hx=>?_,λhl=>#[W,hq,by rw[h2.length];lia]];let(v,hv,rv):=h2.get hx;show#[#[W,v,hq,hv],λv' H' y=>?_];let(N,y):=y;subst N;have:=y W hq;rw[hv]at this;cases this;show s.part λZ' z' r'=>?_;let(b',j,N,D,F):=r';cases N;have:j[i]?=!v:=y j (cW.same z' D);let(p',q,Q):=F.getV this;grind
def jo(lo:Int)(n:Nat):List PV:=(range n).map λi=>ZI (lo+(i:Nat))
def iK(a:AF):IF:=λY=>(a Y).bind λy=>match y.1.map Lc.pv with
 |[ZI j]=>if (Neg.neg (2 ^ 62))<=j/\j<2 ^ 62 then !(jo 0 j.toNat,y.2) else J
 |_=>J
def Xp{lo:Int}:qX K H0 Z0 pd (YM lo n) (jo lo n):=by
 intro U H Y i s;show#[λx hx=>?_,λj=>?_]
 . have hi:i<n:=by have:=(eM.mp hx).1;simpa [jo] using this
   show#[hi,λv H' y=>?_];let(rfl,rfl):=y;unfold jo at hx;rw[dS,List.getElem?_range hi]at hx;cases hx;show s.scal gF
 . show n<=i;simp[jo]at j;lia
def SR.ints{vs:List V}{ls:List Lc}{ns:List Int}(s:SR K H0 Z0 U H Y (vs.zip ls++pd))(e:-vs=-ls)(h:ls.map Lc.pv=ns.map PV.int):vs=ns.map V.int/\SR K H0 Z0 U H Y pd:=by
 let(F,Z,q,z,r,j):=s.repl e;show#[?_,F,Z,q,z,j];rw[h]at r;clear h e s j;induction ns generalizing vs with
 |nil=>show r.inv0
 |cons n ns D=>
  let(v,w,rfl,h1,h2):=r.inv;rw[cF h1,D h2];rfl

open A in
def mz(hg:Gl X "range")(hm:X.mg "range"=none)(ha:PA X [a] (jR X.K f))(hs:starEach [a] X.env=[(false,eval a X.env)]:=by rfl):PI X tg (.Call (.Name "range" p) [a] [] pos) (Iz X.K (iK f)):=PI.imp (MU hg hm ha hs) λU H ZI q=>by
 let(H0,Z0,Y,pd,xs,Y',s,h,k):=q;let(y,h1,h2):=b_ h;show#[H0,Z0,Y,pd,y.1,y.2,s,h1,λvs H1 e1 s1=>?_];split at h2
 . rename_i j e;split at h2
   . rename_i hj;cases h2;let(rfl,s2):=s1.ints (ns:=[j]) e1 e;show#[j,rfl,hj.1,hj.2,k _ _ _ s2 Xp (rO _)]
   . cases h2
 . cases h2
noncomputable def eN (b:BF) (body:SF):List PV->SF
 |[],Y=>!(.nx Y)
 |x::xs,Y=>(b x Y).bind λY1=>(body Y1).bind λfl=>match fl with
  |.nx Y'=>eN b body xs Y'
  |.ct Y'=>eN b body xs Y'
  |.bk Y'=>!(.nx Y')
  |.rt r Y'=>!(.rt r Y')
def fX(f:IF)(b:BF)(body:SF):SF:=λY=>(f Y).bind λy=>eN b body y.1 y.2
def ym{P:Prop}(h:∀G:Prop,(P->G)->G):P:=h P id
def FW(K:FG)(H0:Hp)(Z0:ZG)(pd:Pd)(b:BF)(fb:SF)(xs:List PV)(fl:Fl)(i m:Nat)(U:L2.St)(H:Hp):Prop:=m=-xs-i/\i<=-xs/\∃Y,SR K H0 Z0 U H Y pd/\eN b fb (xs.drop i) Y=!fl
def Xq(hb:GS K g b)(it:qX K H0 Z0 pd ZU xs)(k:Lz K H0 Z0 pd D fl)(s:SR K H0 Z0 U H Y pd)(h:eN b fb xs Y=!fl):
 ∃W:Nat->Nat->L2.St->Hp->Prop,(∃m,W 0 m U H)/\∀i m U H,W i m U H->
  (ZU.stop i H/\D.nx U H)\/(ZU.go i H/\∃N:L2.St->Hp->Prop,(∀F H',N F H'->∃m',m'<m/\W (i+1) m' F H')/\∀x H',ZU.yld i H x H'->g x U H' λU2 H2=>iw K fb { D with nx:=N,ct:=N,bk:=D.nx } U2 H2):=by
 show#[FW K H0 Z0 pd b fb xs fl,#[_,O,gz _,Y,s,h],λi m F H' w=>?_];show ym λZO kG=>?_;let(rfl,hi,Y',s',h'):=w;let(i1,i2):=it F H' Y' i s';by_cases j:i< -xs
 . let(go,yl):=i1 _ (gg j);rw[oI j]at h';let(Y1,e1,e2):=b_ h';let(EN,e3,e4):=b_ e2;show kG (YY #[go,λU'' H''=>FW K H0 Z0 pd b fb xs fl (i+1) (-xs-(i+1)) U'' H'',λU'' H'' w=>#[_,(),w],λx H2 hy=>hb H0 Z0 F H2 Y' pd x _ Y1 _ (yl x H2 hy) e1 λU2 s2=>#[H0,Z0,Y1,pd,EN,s2,e3,?_]]);cases EN with
   |nx Y2=>show λU3 H3 s3=>#[O,j,Y2,s3,e4]
   |ct Y2=>show λU3 H3 s3=>#[O,j,Y2,s3,e4]
   |bk Y2=>cases e4;show k
   |rt r Y2=>cases e4;show k
 . let e:=Nat.le_antisymm hi ();subst e;rw[List.drop_length]at h';cases h';show kG (Zl #[i2 O,k F H' s'])
def Lz.imp(k:Lz K H0 Z0 pd D fl)(w:∀{τ:L2.St}{j:Hp}{q:Ev},SR K H0 Z₁ τ j q ij->SR K H0 Z0 τ j q pd)(z:∀{τ:L2.St}{j:Hp}{q:Ev}{e:V×Lc},SR K H0 Z₁ τ j q (e::ij)->SR K H0 Z0 τ j q (e::pd)):Lz K H0 Z₁ ij D fl:=by
 cases fl with
 |rt r Y=>show λv U H s=>k v U H (z s)
 |_=>show λU H s=>k U H (w s)
def fK(hp:PassesOwn (model X.prog X.w) X.A X.env X.xe)(hc:X.calm=true)(hi:PI X tg iter (Iz X.K f))(hg:PG X tg g)(kK:GS X.K g b)(hb:jP X body (iw X.K fb))
 (hs:∀x,foldedSetIterable iter X.env x=pure x:=by intro _;rfl):PS X (.For tg iter body [] pos) (iw X.K (fX f b fb)):=PS.imp (MW hp hc hi hg hb hs) λD U H q=>by
 show ym λZO kG=>?_;let(H0,Z0,Y,pd,fl,s,h,k):=q;let(y,h1,h2):=b_ h;show kG #[H0,Z0,Y,pd,y.1,y.2,s,h1,λZU H1 ij s1 it sub=>Xq kK it (k.imp (λs=>s.sub sub) λs=>s.sub ∅) s1 h2]
end
section
variable {K:FG}{H0 H H':Hp}{Z0 Z:ZG}{U:L2.St}{Y:Ev}{pd pe:Pd}{v w:V}{l:Lc}{p:PV}{g:List Addr}
def Ev.app(Y:Ev)(pe:Pd):Ev:=#[Y.vs++pe.map (λx=>!x.2),Y.mu]
def Mi(e:-U=-Y.vs):sl g (U++pe.map λx=>!x.1) (Y.app pe) pd=sl g U Y (pe++pd):=by
 unfold sl Ev.app;rw[md e,d0,d6];congr 3;induction pe with
 |nil=>rfl
 |cons a r j=>simp[j]
def SR.shift(h:SR K H0 Z0 U H Y (pe++pd)):SR K H0 Z0 (U++pe.map λx=>!x.1) H (Y.app pe) pd:=by let(e,Z,j,z,s):=h;show#[by simp[Ev.app,e],Z,j,z,?_];rw[Mi e];show s
def SR.unshift(e:-U=-Y.vs)(h:SR K H0 Z0 (U++pe.map λx=>!x.1) H (Y.app pe) pd):SR K H0 Z0 U H Y (pe++pd):=by let(_,Z,j,z,s):=h;show#[e,Z,j,z,?_];rw[Mi e]at s;show s
def qX.more(h:qX K H0 Z0 pd ZU xs):qX K H0 Z0 (pe++pd) ZU xs:=by intro U H Y i s;let(h1,h2):=h _ H _ i s.shift;show#[λx j=>?_,h2];let(g,y):=h1 x j;show#[g,λv H' q=>?_];let s':=y v H' q;let e:=s.1;let z:=s';show(SR.unshift e z).perm gI.symm
def tQ(U:L2.St)(Y:Ev):Pd:=(U.zip Y.vs).filterMap λe=>match e with
 |(!v,!l)=>!(v,l)
 |_=>J
theorem yo:∀{L:Sl},(∀e∈L,e.2=J\/∃v l,e=(!v,!l))->∀{T:Sl},
 (ag K H0 Z H (L++T) ↔ ag K H0 Z H ((L.filterMap λe=>match e with |(!v,!l)=>some (v,l) |_=>J).map (λe=>((some e.1:Option V),(some e.2:Option Lc)))++T))
 |[],_,T=>by simp
 |(v,l)::L,h,T=>by
  let h':=λe D=>h e (dP _ D);obtain e|⟨j,q,e⟩:=h (v,l) cf
  . let N:=e;subst N;have F:((v,(J:Option Lc))::L).filterMap (λe=>match e with |(!v,!l)=>some (v,l) |_=>J)=L.filterMap (λe=>match e with |(!v,!l)=>some (v,l) |_=>J):=by rw[j1];cases v<;>rfl
    rw[F,<-yo h'];have o1:mj (v,J)=J:=by
     cases v with
     |none=>rfl
     |some x=>cases x<;>rfl
    constructor
    . show λs=>s.sub (f6 _ _)
    . intro s;show#[λe D=>?_,?_]
      . obtain rfl|D:=bP.mp D
        . trivial
        . show s.1 e D
      . rw[q_,j1 o1];show s.2
  . cases e
    let z:=yo h' (T:=T++[(!j,!q)]);have i:∀A:Sl,Perm ((!j,!q)::(A++T)) (A++(T++[(!j,!q)])):=λA=>by rw[<-d6];show(perm_append_singleton _ _).symm
    constructor
    . intro s;show(z.mp (s.perm (i L).symm)).perm (i _)
    . intro s;show(z.mpr (s.perm (i _).symm)).perm (i L)
def SR.both(s:SR K H0 Z0 U H Y pd):∀e∈U.zip Y.vs,e.2=J\/∃v l,e=(!v,!l):=by
 let(_,Z,_,z,s):=s;intro e D;let q:=s.1 e (gy _ (gW _ D));let(v,l):=e;cases l with
 |none=>grind
 |some l=>
  cases l with
  |sh p=>let(x,j,_):=q;grind
  |own p=>let(x,j,_):=q;grind
def IK(j:∀e∈U.zip Y.vs,e.2=J\/∃v l,e=(!v,!l)):ag K H0 Z H (sl g U Y pd) ↔ ag K H0 Z H (cel g Y.mu++(tQ U Y++pd).map λe=>(!e.1,!e.2)):=by
 let h1:=yo (K:=K) (H0:=H0) (Z:=Z) (H:=H) j (T:=(pd.map λe=>(!e.1,!e.2))++cel g Y.mu);have aS:Perm (sl g U Y pd) (U.zip Y.vs++((pd.map λe=>(!e.1,!e.2))++cel g Y.mu)):=by unfold sl;rw[<-d6 (U.zip Y.vs)];show ky
 have i:Perm (cel g Y.mu++(tQ U Y++pd).map λe=>((some e.1:Option V),(some e.2:Option Lc))) ((tQ U Y).map (λe=>(!e.1,!e.2))++((pd.map λe=>(!e.1,!e.2))++cel g Y.mu)):=by rw[d0,<-d6 ((tQ U Y).map _)];show ky
 show#[λs=>(h1.mp (s.perm aS.symm)).perm i,λs=>(h1.mpr (s.perm i.symm)).perm aS]
def SR.back(j:-U=-Y.vs)(q:∀e∈U.zip Y.vs,e.2=J\/∃v l,e=(!v,!l))(s:SR K H0 Z0 U' H Y' (tQ U Y++pd)):SR K H0 Z0 U H #[Y.vs,Y'.mu] pd:=by let(_,Z,D,z,s):=s;show#[j,Z,D,z,(IK (Y:=#[Y.vs,Y'.mu]) q).mpr ?_];show s.sub ((rO _).append (oP _ _))
def ie(c6:List Nat)(Y:Ev):Ev:=c6.foldl (λY i=>match Y.vs[i]? with
 |some (!l)=>Y.set i (!(Zp l.pv))
 | _=>Y) Y

open A in
theorem SR.frz:∀{j:List Nat}{Y:Ev},SR K H0 Z0 U H Y pd->SR K H0 Z0 U H (ie j Y) pd
 |[],Y=>λs=>s
 |i::r,Y=>λs=>by
  unfold ie;rw[kC];show SR.frz ?_;split
  . rename_i l e;let(v,_,h2):=s.var e;show h2.pop
  . show s
def Dt:Option Lc->Bool
 |some (Zs _)=>M
 |_=>G

open A in
theorem Mj{j:Nat}:∀{z:List Nat}{Y:Ev},Dt (Y.vs[j]?).join=G->Dt ((ie z Y).vs[j]?).join=G
 |[],Y=>λh=>h
 |i::r,Y=>λh=>by
  unfold ie;rw[kC];show Mj ?_;split
  . rename_i l e;by_cases q:i=j
    . subst q;let hi:=(eM.mp e).1;show Dt ((Y.vs.set i _)[i]?).join=G;rw[kt hi];rfl
    . show Dt ((Y.vs.set i _)[j]?).join=G;grind
  . show h

open A in
theorem Vb:∀{z:List Nat}{Y:Ev},j∈z->Dt ((ie z Y).vs[j]?).join=G
 |[],Y=>λh=>by cases h
 |i::r,Y=>λh=>by
  unfold ie;rw[kC];obtain e|h:=bP.mp h
  . subst e;show Mj ?_;split
    . rename_i l e;let hi:=(eM.mp e).1;show Dt ((Y.vs.set j _)[j]?).join=G;rw[kt hi];rfl
    . cases q:Y.vs[j]? with
      |none=>rfl
      |some o=>
       cases o with
       |none=>rfl
       |some l=>grind
  . show Vb h
def nT(m:Nat)(c6:List Nat)(Y:Ev):Ev:=#[replicate m J++c6.map λi=>(Y.vs[i]?).join,Y.mu]
def SR.block(s:SR K H0 Z0 U H Y pd)(hs:∀j∈c6,Dt (Y.vs[j]?).join=G):SR K H0 Z0 (zY m c6 U) H (nT m c6 Y) (tQ U Y++pd):=by
 let hb:=s.both;let(el,Z,hg,z,Q):=s;show#[by simp[nT],Z,hg,z,?_];let s3:=(IK hb).mp Q;have fin:ag K H0 Z H ((c6.map λi=>(U[i]?).join).zip (c6.map λi=>(Y.vs[i]?).join)++(cel Z.g Y.mu++(tQ U Y++pd).map λe=>(!e.1,!e.2)))->ag K H0 Z H (sl Z.g (zY m c6 U) (nT m c6 Y) (tQ U Y++pd)):=λh=>by unfold sl zY nT;rw[md (),d6];show(nones h m).perm ?_;show(Kc _ _ _).trans ((Kc _ _ _).append_left _)
 show fin ?_;clear fin;induction c6 with
 |nil=>simpa using s3
 |cons i r ih=>
  let D:=ih λj hj=>hs j (dP _ hj);rw[fr,fr,q9,q_];let h1:=hs i cf;cases q:Y.vs[i]? with
  |none=>
   show#[λe F=>?_,?_]
   . obtain rfl|F:=bP.mp F
     . trivial
     . show D.1 e F
   . rw[j1]
     . show D.2
     . cases (U[i]?).join with
       |none=>rfl
       |some x=>cases x<;>rfl
  |some o=>
   cases o with
   |none=>
    show#[λe F=>?_,?_]
    . obtain rfl|F:=bP.mp F
      . trivial
      . show D.1 e F
    . rw[j1]
      . show D.2
      . cases (U[i]?).join with
        |none=>rfl
        |some x=>cases x<;>rfl
   |some l=>
    rw[q]at h1;cases l with
    |own p=>cases h1
    |sh p=>
     have hi:i< -U:=by rw[el];show(eM.mp q).1
     let W:=gg hi;let hm:=fL (zip_get W q);let(x,e1,e2):=Q.1 _ (gy _ (gW _ hm));have N:U[i]=!x:=e1;have ej:(U[i]?).join=!x:=by rw[W,N];rfl
     rw[ej];show D.consS e2
end
def SR.pushO(s:SR K H0 Z0 U H Y ((v,l)::(.ref a,Zs (R ws))::pd)):
 ∃i,H a=!(.lst i)/\-i=-ws/\SR K H0 Z0 U (bp H a (.lst (i++[v]))) Y ((.ref a,Zs (R (ws++[l.pv])))::pd):=by
 let(F,Z,Q,z,r,N):=s.freeze.sh;let j:=N.perm dD.symm;let(b,eb,(i,hu,D),_):=j.1 _ cf;cases eb;show#[i,hu,-D,?_];let(W,s'):=j.write (q:=R (ws++[l.pv])) z #[i++[v],bZ,D.append (aK.cons r .nil)];show .mk F Q W s'
def dF(b:BF)(tc:TF)(te:EF):List PV->Ev->List PV->Option (List PV×Mu)
 |[],Y,acc=>!(acc,Y.mu)
 |x::xs,Y,acc=>(b x Y).bind λY1=>(tc Y1).bind λc=>if c.1=G then (te c.2).bind λv=>if -acc<100000 then dF b tc te xs v.2 (acc++[v.1.pv]) else J else dF b tc te xs c.2 acc
def bU(f:IF)(m:Nat)(c6:List Nat)(b:BF)(tc:TF)(te:EF):EF:=λY=>(f Y).bind λy=>(dF b tc te y.1 (nT m c6 (ie c6 y.2)) []).map λys=>(Zs (R ys.1),#[(ie c6 y.2).vs,ys.2])
def CW(K:FG)(H0:Hp)(Z0:ZG)(b:BF)(tc:TF)(te:EF)(p:Addr)(PD:Pd)(xs:List PV)(zs:List PV×Mu)(i n:Nat)(U':L2.St)(H':Hp):Prop:=
 n=-xs-i/\i<=-xs/\∃Yi ws,SR K H0 Z0 U' H' Yi ((.ref p,Zs (R ws))::PD)/\dF b tc te (xs.drop i) Yi ws=!zs
def Vc(hb:GS K g b){PD:Pd}{Q:VK}
 (it:∀ws,qX K H0 Z0 ((.ref p,Zs (R ws))::PD) ZU xs) (fin:∀z H' Ax ws,SR K H0 Z0 z H' Ax ((.ref p,Zs (R ws))::PD)->dF b tc te [] Ax ws=!zs->Q (.ref p) H') (i n:Nat) (z:L2.St) (H':Hp) (w:CW K H0 Z0 b tc te p PD xs zs i n z H'):
 (ZU.stop i H'/\Q (.ref p) H')\/(ZU.go i H'/\∀x H2,ZU.yld i H' x H2->g x z H2 λj H3=>jw K tc j H3 λb' H4=>
   if b'=G then tP K te j H4 λv W=>∃ys,W p=!(.lst ys)/\-ys<sizeLine/\∃n',n'<n/\CW K H0 Z0 b tc te p PD xs zs (i+1) n' j (bp W p (.lst (ys++[v])))
   else ∃n',n'<n/\CW K H0 Z0 b tc te p PD xs zs (i+1) n' j H4):=by
 show ym λZT D=>?_;let(rfl,hi,Ax,ws,s',h'):=w;let(i1,i2):=it ws z H' Ax i s';by_cases q:i< -xs
 . let(go,yl):=i1 _ (gg q);rw[oI q]at h';let(Y1,e1,e2):=b_ h';let(c,e3,F):=b_ e2;have hn:-xs-(i+1)< -xs-i:=()
   show D (YY #[go,λx H2 hy=>hb H0 Z0 z H2 Ax _ x _ Y1 _ (yl x H2 hy) e1 λU2 s5=>#[H0,Z0,Y1,_,c.1,c.2,s5,e3,λH4 s6=>?_]]);dsimp only;split
   . rename_i hc;show ym λZT D=>?_;rw[aE hc]at F;let(v,e5,N):=b_ F;split at N
     . show D #[H0,Z0,c.2,_,v.1,v.2,s6,e5,λvv W s7=>?_];show ym λZT D=>?_;let(us,hu,hl,s8):=s7.pushO;show D #[us,hu,by rw[hl,iE];lia,_,hn,O,q,v.2,_,s8,N]
     . cases N
   . rename_i hc;rw[bh hc]at F;show#[_,hn,O,q,c.2,ws,s6,F]
 . grind
def Ml(N:GS K g b):∀U H Q,tP K (bU f m c6 b tc te) U H Q->R4 (Iz K f) m c6 g (jw K tc) (tP K te) U H Q:=λU H Q q=>by show ym λZT z=>?_;let(H0,Z0,Y,pd,r,Y',s,h,k):=q;let(y,h1,h2):=b_ h;let(zs,h3,D):=de h2;cases D;show z #[H0,Z0,Y,pd,y.1,y.2,s,h1,λZU H1 ij s1 F sub p hp=>?_];have i:SR K H0 Z0 U H1 (ie c6 y.2) ij:=s1.frz;let s3:=i.block (m:=m) λj hj=>Vb hj;show#[CW K H0 Z0 b tc te p (tQ U (ie c6 y.2)++ij) y.1 zs,#[_,O,gz _,_,[],(s3.newO hp λZ _ _=>#[[],bZ,.nil]),h3],Vc N (λws=>qX.more (pe:=(.ref p,Zs (R ws))::tQ U (ie c6 y.2)) F) λW H' Yi_ ws s' h'=>?_];cases h';show k _ _ ((SR.back i.1 i.both (s'.perm gI)).sub ∅)
section
variable {X:Cx}
def gH(j F:List Str)(N:List Nat)(i:X.calm=G)(c:jE X j F N sc)(hi:PI X tg iter (Iz X.K f))
 (q:∀C fp s H,PG (gC X j F sc C fp s H) tg g) (z:GS X.K g b) (D:∀C fp s H,v5 (gC X j F sc C fp s H) iF (jw X.K tc)) (he:∀C fp s H,PE (gC X j F sc C fp s H) io (tP X.K te))
 (hs:∀x,foldedSetIterable iter X.env x=pure x:=by intro _;rfl):PE X (.ListComp io [#[tg,iter,iF,0]] sc pos) (tP X.K (bU f (-j) N b tc te)):=PE.imp (Z9 j F N i c hi q D he hs) (Ml z)
def uA(Q F:List Str)(c6:List Nat){pos pos' j:Pos}(hN:X.N.Nodup)(yB:X.N[i]?=!x)(hx:X.env.scope.names.lookup x=!.local)
 (z:X.calm=G) (c:jE X Q F c6 sc) (hi:PI X tg iter (Iz X.K f))
 (hg:∀C fp s H,PG (gC X Q F sc C fp s H) tg g) (hb:GS X.K g b) (hc:∀C fp s H,v5 (gC X Q F sc C fp s H) iF (jw X.K tc)) (he:∀C fp s H,PE (gC X Q F sc C fp s H) io (tP X.K te))
 (W:swapsWith (.ListComp io [#[tg,iter,iF,0]] sc pos) (!(.Name x pos')) j.line X.env=pure G:=by rfl)
 (hs:∀x,foldedSetIterable iter X.env x=pure x:=by intro _;rfl):PS X (.Assign [.Name x pos'] (.ListComp io [#[tg,iter,iF,0]] sc pos) j) (iw X.K (aL i (bU f (-Q) c6 b tc te))):=
 PS.imp (ON Q F c6 hN yB hx z c hi hg hc he W hs) (Qx λD U H q=>Ml hb U H _ q)
def bB:TF:=λY=>!(G,Y)
def cN:v5 X [] (jw X.K bB):=λae s U H Q I q=>WP ae s U H Q I (by let(H0,Z0,Y,pd,b,Y',s,h,k):=q;cases h;show k H s)
def wm(h:PT X c (jw X.K f)):v5 X [c] (jw X.K f):=OG h
end
noncomputable def uQ (f:PV->PV->Option Bool):List PV->List PV->Option Bool
 |p::ps,q::qs=>(f p q).bind λb=>(uQ f ps qs).map λc=>b&&c
 |_,_=>!G
def dH:Nat->PV->PV->Option Bool
 |0,_,_=>J
 |n+1,p,q=>match p,q with
  |ZB ps,ZB qs=>(uQ (dH n) ps qs).map λb=>b&&(-ps==-qs)
  |R ps,R qs=>if -ps=-qs then uQ (dH n) ps qs else !M
  |.non,.non=>!G
  |.bl a,.bl b=>!(a==b)
  |ZI a,ZI b=>!(a==b)
  |ZH a,ZH b=>!(a==b)
  |.bl a,ZI b=>!((if a then 1 else 0)==b)
  |ZI a,.bl b=>!(a==(if b then 1 else 0))
  |.non,.bl _=>!M
  |.non,ZI _=>!M
  |.non,ZH _=>!M
  |.non,ZB _=>!M
  |.non,R _=>!M
  |.bl _,.non=>!M
  |.bl _,ZH _=>!M
  |.bl _,ZB _=>!M
  |.bl _,R _=>!M
  |ZI _,.non=>!M
  |ZI _,ZH _=>!M
  |ZI _,ZB _=>!M
  |ZI _,R _=>!M
  |ZH _,.non=>!M
  |ZH _,.bl _=>!M
  |ZH _,ZI _=>!M
  |ZH _,ZB _=>!M
  |ZH _,R _=>!M
  |ZB _,.non=>!M
  |ZB _,.bl _=>!M
  |ZB _,ZI _=>!M
  |ZB _,ZH _=>!M
  |ZB _,R _=>!M
  |R _,.non=>!M
  |R _,.bl _=>!M
  |R _,ZI _=>!M
  |R _,ZH _=>!M
  |R _,ZB _=>!M
  |_,_=>J
theorem Bs:∀{ps i:List PV}{b:Bool},uQ f ps i=!b->(∀(j:Nat) p q,ps[j]?=!p->i[j]?=!q->f p q=!((f (ps.getD j .non) (i.getD j .non)).getD false))/\
 b=(range (min (-ps) (-i))).all λj=>(f (ps.getD j .non) (i.getD j .non)).getD false
 |[],i,b=>λh=>by cases h;show#[λj p q e=>by simp at e,by simp]
 |p::ps,[],b=>λh=>by cases h;show#[λj p q _ e=>by simp at e,by simp]
 |p::ps,q::i,b=>λh=>by
  let(c,h1,h2):=b_ h;let(d,N,rfl):=de h2;let(i1,W):=Bs N;show#[λj Q q' D z=>?_,?_]
  . cases j with
    |zero=>
     grind
    |succ j=>
     have:=i1 j Q q' () ();simpa using this
  . have e:min (-(p::ps)) (-(q::i))=min (-ps) (-i)+1:=by simp only[c5];lia
    rw[e,range_succ_eq_map,all_cons,all_map];have F:(f ((p::ps).getD 0 .non) ((q::i).getD 0 .non)).getD false=c:=by simp[h1]
    rw[F,W];rfl
def gE(r:aK K Z ps vs)(rv:ap vs D)(h:j< -D):∃p v,ps[j]?=!p/\b9 K Z p v/\aI v D[j]:=by let hl:=-rv;have hv:vs[j]?=some vs[j]:=gg ();let(u,F,e2):=rv.get hv;rw[gg h]at F;cases F;let(p,e3,e4):=r.getV hv;show#[p,vs[j],e3,e4,e2]
section
open PySem.SeqAt
variable {X:Cx}{ae:List (Addr×Obj)}{U:L2.St}{H:Hp}{s:Shared}{g:List Addr}
def Fq(I:ai X ae U H s)(r:b9 X.K #[H,g] (ZB ps) v)(D:aI v u):∃a vs j,u=YV a/\cW X.K H a vs/\aK X.K #[H,g] ps vs/\ap vs j/\s.heap.IsTuple a j.toArray:=by let(a,vs,rfl,h1,h2):=r;let(j,z,q,_):=I.tuple h1;show#[a,vs,j,D,h1,h2,z,q]
def Ag(I:ai X ae U H s)(r:b9 X.K #[H,g] (R ps) v)(D:aI v u):∃a vs j,u=YV a/\bY X.K H a vs/\aK X.K #[H,g] ps vs/\ap vs j/\s.heap.IsList a j.toArray:=by let(a,vs,rfl,h1,h2):=r;let(j,z,q,_):=I.list h1;show#[a,vs,j,D,h1,h2,z,q.isList]
def kn:PV->Nat
 |.non=>0 |.bl _=>1 |ZI _=>2 |ZH _=>3 |ZB _=>4 |R _=>5 |_=>6
def EO(h:kn p=4):∃ps,p=ZB ps:=by cases p<;>first |show#[_,O] |cases h
def EQ(h:kn p=5):∃ps,p=R ps:=by cases p<;>first |show#[_,O] |cases h
def Ft(h:dH (n+1) p q=!b):kn p<6:=by cases p<;>first |cases h;done |show fE (fE (fE (fE (fE .refl)))) |show fE (fE (fE (fE .refl))) |show fE (fE (fE .refl)) |show fE (fE .refl) |show fE .refl |show Nat.le.refl
def Zd(h:dH (n+1) p q=!b):kn q<6:=by
 have j:dH (n+1) p q=J->kn q<6:=λe=>absurd ∅ (Option.some_ne_none b);cases q with
 |dk _ _=>show j (by cases p<;>rfl)
 |dt _ _=>show j (by cases p<;>rfl)
 |obj _ _ _=>show j (by cases p<;>rfl)
 |df _ _=>show j (by cases p<;>rfl)
 |dtf _ _=>show j (by cases p<;>rfl)
 |dx _ _ _=>show j (by cases p<;>rfl)
 |exc _=>show j (by cases p<;>rfl)
 |fn _=>show j (by cases p<;>rfl)
 |ptr _=>show j (by cases p<;>rfl)
 |_=>first |show fE (fE (fE (fE (fE .refl)))) |show fE (fE (fE (fE .refl))) |show fE (fE (fE .refl)) |show fE (fE .refl) |show fE .refl |show Nat.le.refl
def back:V->Option PV
 |.non=>some .non |.bl b=>some (.bl b) |.int i=>some (ZI i) |.str x=>some (ZH x) |_=>J
inductive Sh(K:FG)(Z:ZG)(v:V):PV->Prop
 |at {p:PV}:back v=!p->Sh K Z v p
 |tup {a:Addr} {ps:List PV} {vs:List V}:v=.ref a->cW K Z.z a vs->aK K Z ps vs->Sh K Z v (.tup ps)
 |lst {a:Addr} {ps:List PV} {vs:List V}:v=.ref a->bY K Z.z a vs->aK K Z ps vs->Sh K Z v (.lst ps)
def Kf(r:b9 K Z p v)(h:kn p<6):Sh K Z v p:=by
 cases p with
 |non=>show .at (gT back (jL r))
 |bl b=>show .at (gT back (ji r))
 |int b=>show .at (gT back (cF r))
 |str b=>show .at (gT back (dN r))
 |tup ps=> let(a,F,e,h1,h2):=r;show .tup e h1 h2
 |lst ps=> let(a,F,e,h1,h2):=r;show .lst e h1 h2
 |_=>show absurd h (lP 6)
inductive Tw(K:FG)(Z:ZG):PV->PV->Prop
 |at {v:V} {p:PV}:back v=!p->Tw K Z p p
 |tup {ps qs:List PV} {vs:List V}:aK K Z ps vs->aK K Z qs vs->Tw K Z (.tup ps) (.tup qs)
 |lst {ps qs:List PV} {vs:List V}:aK K Z ps vs->aK K Z qs vs->Tw K Z (.lst ps) (.lst qs)
def Ze(I:ai X ae U H s)(h1:cW X.K H a vs)(j:bY X.K H a ws):False:=by let(q,z,(o1,F,N,c1,_),_):=I.list j;let(i,W,(o2,Q,D,_),_):=I.tuple h1;grind
def yp(e:v=.ref a)(h:back v=!p):False:=by subst e;cases h
def Sh.two(I:ai X ae U H s)(h1:Sh X.K #[H,g] v p)(h2:Sh X.K #[H,g] v q):Tw X.K #[H,g] p q:=by
 cases h1 with
 |«at» e=>
  cases h2 with
  |«at» j=>show(fw (e.symm.trans j))▸.at e
  |tup j=>show(yp j e).elim
  |lst j=>show(yp j e).elim
 |tup e F W=>
  cases h2 with
  |«at» j=>show(yp e j).elim
  |tup j z N=>show .tup W (I.tuple_inj F (V.ref.inj (j.symm.trans e)▸z)▸N)
  |lst j z=>show(Ze I F (V.ref.inj (j.symm.trans e)▸z)).elim
 |lst e F W=>
  cases h2 with
  |«at» j=>show(yp e j).elim
  |tup j z=>show(Ze I z (V.ref.inj (e.symm.trans j)▸F)).elim
  |lst j z N=>show .lst W (I.list_inj F (V.ref.inj (j.symm.trans e)▸z)▸N)
def TH(e:back v=!p)(h:dH (n+1) p p=!b):b=G:=by
 cases v with
 |non=>cases e;cases h;rfl
 |bl z=>cases e;cases h;grind
 |int z=>cases e;cases h;grind
 |str z=>cases e;cases h;grind
 |_=>cases e
theorem Ah(j:∀(p q:PV)(v:V)(b:Bool),b9 K Z p v->b9 K Z q v->f p q=!b->b=G):∀{ps i:List PV}{vs:List V}{c:Bool},aK K Z ps vs->aK K Z i vs->uQ f ps i=!c->c=G
 |[],i,vs,c=>λa b h=>by cases h;rfl
 |p::ps,[],vs,c=>λa b h=>by cases h;rfl
 |p::ps,q::i,vs,c=>λa b h=>by let(w1,r1,F,W,e3):=a.inv;let(w2,r2,z,N,f3):=b.inv;let(g1,D):=cons.inj (F.symm.trans z);subst g1 D;let(c,h1,h2):=b_ h;let(d,Q,rfl):=de h2;rw[j _ _ _ _ W N h1,Ah j e3 f3 Q];rfl
theorem yq(z:∀(p q r:PV)(v:V)(b c:Bool),b9 K Z p v->b9 K Z q v->f p r=!b->f q r=!c->b=c):∀{ps j rs:List PV}{vs:List V}{b c:Bool},aK K Z ps vs->aK K Z j vs->uQ f ps rs=!b->uQ f j rs=!c->b=c
 |[],[],rs,vs,b,c=>λ_ _ h k=>fw ()
 |[],q::j,rs,vs,b,c=>λa i h k=>by let(_,_,e,_):=i.inv;show absurd (a.inv0.symm.trans e) (by simp)
 |p::ps,[],rs,vs,b,c=>λa i h k=>by let(_,_,e,_):=a.inv;show absurd (i.inv0.symm.trans e) (by simp)
 |p::ps,q::j,[],vs,b,c=>λa i h k=>fw (h.symm.trans k)
 |p::ps,q::j,r::rs,vs,b,c=>λa i h k=>by let(w1,r1,Q,e2,e3):=a.inv;let(w2,r2,D,W,f3):=i.inv;let(g1,N):=cons.inj (Q.symm.trans D);subst g1 N;let(x1,h1,h2):=b_ h;let(d1,h3,rfl):=de h2;let(x2,F,k2):=b_ k;let(d2,k3,rfl):=de k2;rw[z _ _ _ _ _ _ e2 W h1 F,yq z e3 f3 h3 k3]
theorem eq_self(I:ai X ae U H s):∀(n:Nat){p q:PV}{v:V}{b:Bool},b9 X.K #[H,g] p v->b9 X.K #[H,g] q v->dH n p q=!b->b=G
 |0,p,q,v,b=>λ_ _ h=>by cases h
 |n+1,p,q,v,b=>λz j h=>by
  cases Sh.two I (Kf z (Ft h)) (Kf j (Zd h)) with
  |«at» e=>show TH e h
  |tup h2 i=>
   let(c,F,rfl):=de h;rw[Ah (λ_ _ _ _=>eq_self I n) h2 i F,h2.length.symm.trans (-i),mh];rfl
  |lst h2 i=>show Ah (λ_ _ _ _=>eq_self I n) h2 i ((aE (h2.length.symm.trans (-i))).symm.trans h)
inductive U_(s:Shared):PV->Value->Prop
 |non:U_ s .non .none
 |bl {b:Bool}:U_ s (.bl b) (.bool b)
 |int {i:Int} {t}:U_ s (.int i) (.int i t)
 |str {x:Str} {t}:U_ s (.str x) (.str x t)
 |tup {ps:List PV} {a:Addr} {du}:s.heap.IsTuple a du->U_ s (.tup ps) (.ref a)
 |lst {ps:List PV} {a:Addr} {du}:s.heap.IsList a du->U_ s (.lst ps) (.ref a)
def ER(I:ai X ae U H s)(r:b9 X.K #[H,g] p v)(j:aI v u)(h:kn p<6):U_ s p u:=by
 cases p with
 |non=>cases jL r;cases j;show .non
 |bl b=>cases ji r;cases j;show .bl
 |int b=>cases cF r;let(t,rfl):=j;show .int
 |str b=>cases dN r;let(t,rfl):=j;show .str
 |tup ps=>let(a,W,q,rfl,_,_,_,x):=Fq I r j;show .tup x
 |lst ps=>let(a,W,q,rfl,_,_,_,x):=Ag I r j;show .lst x
 |_=>show absurd h (lP 6)
def E3(A:Around)(s:Shared)(x y:Value)(b:Bool):Prop:=EqAt A s x y b/\RcAt A s x y b/\RcNeAt A s x y (not b)
def E3.of(h:some c=!b)(e:EqAt A s x y c)(r:RcAt A s x y c)(q:RcNeAt A s x y (not c)):E3 A s x y b:=fw h▸#[e,r,q]
def two(p q:PV):Bool:=kn p==kn q&&Nat.ble 4 (kn p)
def TJ(i:A.units<cLine)(h1:U_ s p u1)(h2:U_ s q u2)(e:two p q=M)(h:dH (n+1) p q=!b):E3 A s u1 u2 b:=by
 cases h1 with
 |non=>
  cases h2 with
  |non=>show E3.of h (EqAt.same .none) RcAt.none_none RcNeAt.none_none
  |bl=>show E3.of h (EqAt.none_bool _) (RcAt.none_bool _) (RcNeAt.none_bool _)
  |int=>show E3.of h (EqAt.none_int _ _) (RcAt.none_int _ _) (RcNeAt.none_int _ _)
  |str=>show E3.of h (EqAt.none_str _ _) (RcAt.none_str _ _) (RcNeAt.none_str _ _)
  |tup j=>show E3.of h (EqAt.none_tuple j i) (RcAt.none_tuple j i) (RcNeAt.none_tuple j i)
  |lst j=>show E3.of h (EqAt.none_list j i) (RcAt.none_list j i) (RcNeAt.none_list j i)
 |bl=>
  cases h2 with
  |non=>show E3.of h (EqAt.bool_none _) (RcAt.bool_none _) (RcNeAt.bool_none _)
  |bl=>show E3.of h (EqAt.bool_bool _ _) (RcAt.bool_bool _ _) (RcNeAt.bool_bool _ _)
  |int=>show E3.of h (EqAt.bool_int _ _ _) (RcAt.bool_int _ _ _) (RcNeAt.bool_int _ _ _)
  |str=>show E3.of h (EqAt.bool_str _ _ _) (RcAt.bool_str _ _ _) (RcNeAt.bool_str _ _ _)
  |tup j=>show E3.of h (EqAt.bool_tuple _ j i) (RcAt.bool_tuple _ j i) (RcNeAt.bool_tuple _ j i)
  |lst j=>show E3.of h (EqAt.bool_list _ j i) (RcAt.bool_list _ j i) (RcNeAt.bool_list _ j i)
 |int=>
  cases h2 with
  |non=>show E3.of h (EqAt.int_none _ _) (RcAt.int_none _ _) (RcNeAt.int_none _ _)
  |bl=>show E3.of h (EqAt.int_bool _ _ _) (RcAt.int_bool _ _ _) (RcNeAt.int_bool _ _ _)
  |int=>show E3.of h (EqAt.int_int _ _ _ _) (RcAt.int_int _ _ _ _) (RcNeAt.int_int _ _ _ _)
  |str=>show E3.of h (EqAt.int_str _ _ _ _) (RcAt.int_str _ _ _ _) (RcNeAt.int_str _ _ _ _)
  |tup j=>show E3.of h (EqAt.int_tuple _ _ j i) (RcAt.int_tuple _ _ j i) (RcNeAt.int_tuple _ _ j i)
  |lst j=>show E3.of h (EqAt.int_list _ _ j i) (RcAt.int_list _ _ j i) (RcNeAt.int_list _ _ j i)
 |str=>
  cases h2 with
  |non=>show E3.of h (EqAt.str_none _ _) (RcAt.str_none _ _) (RcNeAt.str_none _ _)
  |bl=>show E3.of h (EqAt.str_bool _ _ _) (RcAt.str_bool _ _ _) (RcNeAt.str_bool _ _ _)
  |int=>show E3.of h (EqAt.str_int _ _ _ _) (RcAt.str_int _ _ _ _) (RcNeAt.str_int _ _ _ _)
  |str=>show E3.of h (EqAt.str_str _ _ _ _) (RcAt.str_str _ _ _ _) (RcNeAt.str_str _ _ _ _)
  |tup j=>show E3.of h (EqAt.str_tuple _ _ j i) (RcAt.str_tuple _ _ j i) (RcNeAt.str_tuple _ _ j i)
  |lst j=>show E3.of h (EqAt.str_list _ _ j i) (RcAt.str_list _ _ j i) (RcNeAt.str_list _ _ j i)
 |tup z=>
  cases h2 with
  |non=>show E3.of h (EqAt.tuple_none z i) (RcAt.tuple_none z i) (RcNeAt.tuple_none z i)
  |bl=>show E3.of h (EqAt.tuple_bool _ z i) (RcAt.tuple_bool _ z i) (RcNeAt.tuple_bool _ z i)
  |int=>show E3.of h (EqAt.tuple_int _ _ z i) (RcAt.tuple_int _ _ z i) (RcNeAt.tuple_int _ _ z i)
  |str=>show E3.of h (EqAt.tuple_str _ _ z i) (RcAt.tuple_str _ _ z i) (RcNeAt.tuple_str _ _ z i)
  |tup j=>cases e
  |lst j=>show E3.of h (EqAt.tuple_list z j i) (RcAt.tuple_list z j i) (RcNeAt.tuple_list z j i)
 |lst z=>
  cases h2 with
  |non=>show E3.of h (EqAt.list_none z i) (RcAt.list_none z i) (RcNeAt.list_none z i)
  |bl=>show E3.of h (EqAt.list_bool _ z i) (RcAt.list_bool _ z i) (RcNeAt.list_bool _ z i)
  |int=>show E3.of h (EqAt.list_int _ _ z i) (RcAt.list_int _ _ z i) (RcNeAt.list_int _ _ z i)
  |str=>show E3.of h (EqAt.list_str _ _ z i) (RcAt.list_str _ _ z i) (RcNeAt.list_str _ _ z i)
  |tup j=>show E3.of h (EqAt.list_tuple z j i) (RcAt.list_tuple z j i) (RcNeAt.list_tuple z j i)
  |lst j=>cases e
def yr(r:aI v (YV a)):v=.ref a:=by
 cases v with
 |ref b=>cases r;rfl
 |non=>cases r
 |bl _=>cases r
 |ty _=>cases r
 |_=>let(t,e):=r;cases e
def Mm(I:ai X ae U H s)(z:b9 X.K #[H,g] p (.ref a1))(F:b9 X.K #[H,g] q (.ref a2))(h:dH n p q=!b)(D:RcAt A s (YV a1) (YV a2) b):EqAt A s (YV a1) (YV a2) b:=by
 by_cases j:a1=a2
 . subst j;show eq_self I n z F h▸EqAt.same _
 . show EqAt.of_refs j D
theorem Kg(I:ai X ae U H s):∀(n:Nat){p q:PV}{v w:V}{u1 u2:Value}{b:Bool},b9 X.K #[H,g] p v->b9 X.K #[H,g] q w->aI v u1->aI w u2->dH n p q=!b->∀A:Around,A.units+n<cLine->
 EqAt A s u1 u2 b/\RcAt A s u1 u2 b/\RcNeAt A s u1 u2 (not b)
 |0,p,q,v,w,u1,u2,b=>λ_ _ _ _ h _ _=>by cases h
 |n+1,p,q,v,w,u1,u2,b=>λrp rq r1 r2 h A hA=>by
  let hu:=u_ (rg _ _) hA;have TK:A.in1.units+n<cLine:=by show A.units+1+n<cLine;lia
  have item:∀{ps Q:List PV}{vs ws:List V}{W i:List Value}{c:Bool},aK X.K #[H,g] ps vs->ap vs W->aK X.K #[H,g] Q ws->ap ws i->uQ (dH n) ps Q=!c->
   ∀j (h1:j< ~~~W.toArray) (h2:j< ~~~i.toArray),EqAt A.in1 s W.toArray[j] i.toArray[j] ((dH n (ps.getD j .non) (Q.getD j .non)).getD M):=λ{ps Q vs ws W i c} a b c' d e j h1 h2=>by
   let(p,v,e1,e2,e3):=gE a b ();let(q,w,f1,f2,f3):=gE c' d ();have:=(Bs e).1 j p q e1 f1;show(Kg I n e2 f2 e3 f3 this A.in1 TK).1
  cases e:two p q with
  |false=>show TJ hu (ER I rp r1 (Ft h)) (ER I rq r2 (Zd h)) e h
  |true=>
   have e':kn p=kn q/\4<=kn p:=by unfold two at e;simpa using e
   let hk:=Ft h;obtain hp|hp:=(by omega:kn p=4\/kn p=5)
   . let(ps,rfl):=EO hp;let(Q,rfl):=EO (e'.1.symm.trans hp);let(a1,TL,z,rfl,q1,l1,F,x1):=Fq I rp r1;let(a2,TM,i,rfl,q2,l2,D,x2):=Fq I rq r2;let e1:=yr r1;let e2:=yr r2;subst e1 e2;let(c,h5,rfl):=de h;let it:=item l1 F l2 D h5;have z1: ~~~z.toArray=-ps:=by rw[gx,<-(-F),l1.length]
     have z2: ~~~i.toArray=-Q:=by rw[gx,<-(-D),l2.length]
     let N:=RcAt.tuples x1 x2 hu it;let rn:=RcNeAt.tuples x1 x2 hu it;rw[z1,z2,<-(Bs h5).2]at N rn;show#[Mm I rp rq h N,N,rn]
   . let(ps,rfl):=EQ hp;let(Q,rfl):=EQ (e'.1.symm.trans hp);let(a1,TL,z,rfl,q1,l1,F,x1):=Ag I rp r1;let(a2,TM,i,rfl,q2,l2,D,x2):=Ag I rq r2;let e1:=yr r1;let e2:=yr r2;subst e1 e2;have z1: ~~~z.toArray=-ps:=by rw[gx,<-(-F),l1.length]
     have z2: ~~~i.toArray=-Q:=by rw[gx,<-(-D),l2.length]
     by_cases hl:-ps=-Q
     . let h':=(aE hl).symm.trans h;let it:=item l1 F l2 D h';let hz:=(z1.trans hl).trans z2.symm;let N:=RcAt.lists x1 x2 hz hu it;let rn:=RcNeAt.lists x1 x2 hz hu it;rw[z1,<-(show min (-ps) (-Q)=-ps by rw[<-hl,Nat.min_self]),<-(Bs h').2]at N rn;show#[Mm I rp rq h N,N,rn]
     . let h':=fw ((bh hl).symm.trans h);subst h';have hz:(~~~z.toArray != ~~~i.toArray)=G:=by rw[z1,z2];show bne_iff_ne.mpr hl
       let N:=RcAt.lists_lengths x1 x2 hz hu;show#[Mm I rp rq h N,N,RcNeAt.lists_lengths x1 x2 hz hu]
end
section
open PySem.SeqAt
variable {X:Cx}{ae:List (Addr×Obj)}{U:L2.St}{H:Hp}{s:Shared}{g:List Addr}
def Qz(h:dH (n+1) (ZB ps) r=!b):b=M\/∃rs,r=ZB rs:=by
 cases r with
 |tup rs=>grind
 |_=>cases h<;>show Zl O
def QB(h:dH (n+1) (R ps) r=!b):b=M\/∃rs,r=R rs:=by
 cases r with
 |lst rs=>grind
 |_=>cases h<;>show Zl O
theorem Fv(I:ai X ae U H s):∀(n:Nat){p q r:PV}{v:V}{b c:Bool},b9 X.K #[H,g] p v->b9 X.K #[H,g] q v->dH n p r=!b->dH n q r=!c->b=c
 |0,p,q,r,v,b,c=>λ_ _ h _=>by cases h
 |n+1,p,q,r,v,b,c=>λrp rq h k=>by
  cases Sh.two I (Kf rp (Ft h)) (Kf rq (Ft k)) with
  |«at» e=>grind
  | @tup ps N _ h2 i=>
   let j:=h2.length.symm.trans (-i);obtain rfl|⟨rs,rfl⟩:=Qz h
   . obtain rfl|⟨rs,rfl⟩:=Qz k
     . rfl
     . let(c1,F,Q):=de h;let(c2,z,rfl):=de k;rw[<-yq (f:=dH n) (λ_ _ _ _ _ _=>Fv I n) h2 i F z,<-j,Q]
   . let(c1,F,rfl):=de h;let(c2,z,rfl):=de k;rw[yq (f:=dH n) (λ_ _ _ _ _ _=>Fv I n) h2 i F z,j]
  | @lst ps N _ h2 i=>
   let j:=h2.length.symm.trans (-i);have W:∀rs,r=R rs->b=c:=λrs e=>by
    subst e;by_cases D:-N=-rs
    . show yq (f:=dH n) (λ_ _ _ _ _ _=>Fv I n) h2 i ((aE ()).symm.trans h) ((aE D).symm.trans k)
    . show fw ((((bh λe=>D ()).symm.trans h).symm.trans ((bh D).symm.trans k)))
   obtain Q|⟨rs,e⟩:=QB h
   . obtain e2|⟨rs,e⟩:=QB k
     . grind
     . grind
   . grind
noncomputable def tR (f:PV->PV->Option Bool) (x:PV):List PV->Option Bool
 |[]=>!M
 |q::qs=>(f q x).bind λb=>(tR f x qs).map λc=>b||c
theorem G6:∀{N:List PV}{b:Bool},tR f x N=!b->(∀q∈N,∃c,f q x=!c)/\b=N.any λq=>(f q x).getD M
 |[],b=>λh=>by cases h;grind
 |q::N,b=>λh=>by
  let(c,h1,h2):=b_ h;let(d,j,rfl):=de h2;let(F,z):=G6 j;show#[λD i=>?_,?_]
  . obtain rfl|i:=bP.mp i
    . grind
    . grind
  . grind
open Classical in
def eP(K:FG)(Z:ZG)(x:PV)(qs:List PV)(vs:List V)(du:List Value)(u:Value):Bool:=
 if h:∃(j:Nat)(q:PV),qs[j]?=!q/\du[j]?=!u then (dH 150 h.choose_spec.choose x).getD M else M
def Du(I:ai X ae U H s){xv:V}{xu:Value}(r:aK X.K #[H,g] qs vs)(N:ap vs du)(F:∀q∈qs,∃c,dH 150 q x=!c){j:Nat}(z:qs[j]?=!q)(Q:du[j]?=!u):
 eP X.K #[H,g] x qs vs du u=(dH 150 q x).getD M:=by
 have h:∃(j:Nat)(q:PV),qs[j]?=!q/\du[j]?=!u:=#[j,q,z,Q];unfold eP;rw[dif_pos h];let(i,D):=h.choose_spec.choose_spec;generalize h.choose_spec.choose=q' at i D;let(v1,g1,g2):=r.get z;let(v2,k1,k2):=r.get i;let(u1,W,m2):=N.get g1;let(u2,n1,n2):=N.get k1;rw[Q]at W;cases W;rw[D]at n1;cases n1;let ev:=aI.inj m2 n2;subst ev;let(c1,h1):=F q (fL z);let(c2,h2):=F q' (fL i);rw[h1,h2,Fv I 150 k2 g2 h2 h1]
def Dv(I:ai X ae U H s)(rx:b9 X.K #[H,g] x xv)(ru:aI xv xu)(r:aK X.K #[H,g] qs vs)(D:ap vs du)(F:∀q∈qs,∃c,dH 150 q x=!c)(hA:A.units+150<cLine):
 ∀u,u∈du.toArray->EqAt A s u xu (eP X.K #[H,g] x qs vs du u):=λu hu=>by
 let(j,hj,e):=getElem_of_mem (by simpa using hu);have Q:du[j]?=!u:=by rw[gg hj,e]
 let hl:=-D;let i:=-r;have z:qs[j]?=!(qs[j]'()):=gg _;rw[Du (xv:=xv) (xu:=xu) I r D F z Q];let(v1,g1,g2):=r.get z;let(u1,N,W):=D.get g1;rw[Q]at N;cases N;let(c1,h1):=F _ (fL z);rw[h1];show(Kg I 150 g2 rx W ru h1 A hA).1
def IW(I:ai X ae U H s){xv:V}{xu:Value}(r:aK X.K #[H,g] D vs)(F:ap vs z)(i:∀q∈D,∃c,dH 150 q x=!c):
 z.toArray.any (eP X.K #[H,g] x D vs z)=D.any λq=>(dH 150 q x).getD M:=by
 have hl:-z=-D:=by rw[<-(-F),r.length]
 have key:z.map (eP X.K #[H,g] x D vs z)=D.map λq=>(dH 150 q x).getD M:=by
  apply ext_getElem?;intro j;rw[dS,dS];by_cases hj:j< -z
  . let W:=gg hj;have N:D[j]?=!(D[j]'()):=gg _;rw[W,N,re,re,Du (xv:=xv) (xu:=xu) I r F i N W]
  . grind
 rw[show z.toArray.any (eP X.K #[H,g] x D vs z)=z.any (eP X.K #[H,g] x D vs z) by simp];have a1:z.any (eP X.K #[H,g] x D vs z)=(z.map (eP X.K #[H,g] x D vs z)).any id:=by simp[any_map]
 have Q:(D.any λq=>(dH 150 q x).getD M)=(D.map λq=>(dH 150 q x).getD M).any id:=by simp[any_map]
 rw[a1,Q,key]
end
section
variable {X:Cx}
def SR.rep2(h:SR K H0 Z0 U H Y ((w,Zp q)::(v,Zp p)::pd)):∃Z:ZG,eY_ Z.z H/\b9 K Z p v/\b9 K Z q w:=by let(_,Z,_,z,r,s):=h.sh;let(x,D,j):=(s.perm dD.symm).1 _ cf;cases D;show#[Z,z.zh,j,r]
def SR.rep2H(h:SR K H0 Z0 U H Y ((w,Zp q)::(v,Zp p)::pd)):∃g,b9 K #[H,g] p v/\b9 K #[H,g] q w:=by let(Z,z,a,b):=h.rep2;show#[Z.g,a.mono (Z':=#[H,Z.g]) #[z,l5 _],b.mono (Z':=#[H,Z.g]) #[z,l5 _]]
def Sv(K:FG)(neg:Bool):R2:=λx y H Q=>∃g p q b,b9 K #[H,g] p x/\b9 K #[H,g] q y/\dH 150 p q=!b/\Q (.bl (if neg then not b else b)) H
def cG(hr:gn b k X.A):ju X (compareOp .Eq) (Sv X.K M):=by
 intro ae s U H x y v u Q I N z h;let(g,p,q,b,W,F,e,i):=h;have j:X.A.units+150<cLine:=by have:=hr.un;lia
 let(_,D,_):=Kg I 150 W F N z e X.A j;show D _ _ _ _ #[.bl b,H,I,O,i]
def Mp(W:gn b k X.A):ju X (compareOp .NotEq) (Sv X.K G):=by
 intro ae s U H x y v u Q I F z h;let(g,p,q,b,N,D,e,i):=h;have j:X.A.units+150<cLine:=by have:=W.un;lia
 let(_,_,rn):=Kg I 150 N D F z e X.A j;show rn _ _ _ _ #[.bl (not b),H,I,O,i]
def eW(p q:PV):Option Lc:=(dH 150 p q).map λb=>Zp (.bl b)
def Mq(p q:PV):Option Lc:=(dH 150 p q).map λb=>Zp (.bl (not b))
def cH:pA K (Sv K M) eW:=by intro H0 Z0 U Y pd H v w x y l Q s e k;let(b,z,rfl):=de e;let(g,j,q):=s.rep2H;show#[g,x,y,b,j,q,z,k _ H (s.pop.pop.scal mq)]
def Mr:pA K (Sv K G) Mq:=by intro H0 Z0 U Y pd H v w x y l Q s e k;let(b,z,rfl):=de e;let(g,j,q):=s.rep2H;show#[g,x,y,b,j,q,z,k _ H (s.pop.pop.scal mq)]
def Xu(K:FG)(neg:Bool):R2:=λx y H Q=>(∃g p qs b,b9 K #[H,g] p x/\(b9 K #[H,g] (R qs) y\/b9 K #[H,g] (ZB qs) y)/\tR (dH 150) p qs=!b/\Q (.bl (if neg then not b else b)) H)\/
 ∃i j,x=.str i/\y=.str j/\Q (.bl (if neg then (oy j i 0 (-j) 1).isEmpty else not (oy j i 0 (-j) 1).isEmpty)) H
def uR(hr:gn b k X.A):ju X (compareOp .In) (Xu X.K M):=by
 intro ae s U H x y v u Q I rx ry h;have hA:X.A.in1.units+150<cLine:=by have:=hr.un;show X.A.units+1+150<cLine;lia
 obtain⟨g,p,qs,b,rp,D,e,F⟩|⟨i,j,rfl,rfl,F⟩:=h
 . let(N,i2):=G6 e;obtain D|D:=D
   . let(a,vs,z,rfl,q1,l1,q,W):=Ag I D ry;show SeqAt.in_listAt (eP X.K #[H,g] p qs vs z) W (Dv I rp rx l1 q N hA) #[.bl b,H,I,?_,F];rw[IW (xv:=x) (xu:=v) I l1 q N,<-i2];rfl
   . let(a,vs,z,rfl,q1,l1,q,W):=Fq I D ry;show SeqAt.in_tupleAt (eP X.K #[H,g] p qs vs z) W (Dv I rp rx l1 q N hA) #[.bl b,H,I,?_,F];rw[IW (xv:=x) (xu:=v) I l1 q N,<-i2];rfl
 . show T6 ae s U H (.str i) (.str j) v u Q I rx ry #[i,j,O,O,F]
def sQ(x y:PV):Option Bool:=match y with
 |R qs=>tR (dH 150) x qs
 |ZB qs=>tR (dH 150) x qs
 |ZH j=>match x with
  |ZH i=>!(not (oy j i 0 (-j) 1).isEmpty)
  |_=>J
 |_=>J
def pB(p q:PV):Option Lc:=(sQ p q).map λb=>Zp (.bl b)
def TN:pA K (Xu K neg) (λp q=>(sQ p q).map λb=>Zp (.bl (if neg then not b else b))):=by
 intro H0 Z0 U Y pd H v w x y l Q s e k;let(b,z,rfl):=de e;let(g,D,F):=s.rep2H;cases y with
 |lst N=>show Zl #[g,x,N,b,D,Zl F,z,k _ H (s.pop.pop.scal mq)]
 |tup N=>show Zl #[g,x,N,b,D,YY F,z,k _ H (s.pop.pop.scal mq)]
 |str j=>
  cases x with
  |str i=>
   let W:=fw z;subst W;show YY #[i,j,dN D,dN F,?_];have:=k (.bl (if neg then (oy j i 0 (-j) 1).isEmpty else not (oy j i 0 (-j) 1).isEmpty)) H;show this (s.pop.pop.scal λZ=>?_);cases neg<;>simp[b9]
  |_=>cases z
 |_=>cases z
def qY:pA K (Xu K M) pB:=TN
def Zf:PV->Bool
 |.non=>G
 |_=>M
def Sw(p q:PV):Option Lc:=match q with
 |.non=>!(Zp (.bl (Zf p)))
 |_=>J
def TR(r:b9 K Z p v):decide (v=.non)=Zf p:=by
 cases p with
 |non=>have:=jL r;subst this;rfl
 |bl b=>have:=ji r;subst this;rfl
 |int b=>have:=cF r;subst this;rfl
 |str b=>have:=dN r;subst this;rfl
 |tup ps=> let(a,i,rfl,_):=r;rfl
 |lst ps=> let(a,i,rfl,_):=r;rfl
 |dk ks ps=> let(a,i,rfl,_):=r;rfl
 |dt ks ps=> let(a,i,rfl,_):=r;rfl
 |obj c ks ps=> let(a,c,dx,fs,rfl,_):=r;rfl
 |df ks ps=> let(a,o,j,rfl,_):=r;rfl
 |dtf ks ps=> let(a,o,j,rfl,_):=r;rfl
 |dx hk ks ps=> let(a,xs,rfl,_):=r;rfl
 |exc n=> let(a,c,rfl,_):=r;rfl
 |fn n=> let(a,rfl,_):=r;rfl
 |ptr n=> let(a,rfl,_):=r;rfl
def QC:pA K (λx y H Q=>y=.non/\Q (.bl (decide (x=.non))) H) Sw:=by
 intro H0 Z0 U Y pd H v w x y l Q s e k;let(g,j,q):=s.rep2H;cases y with
 |non=>
  let D:=fw e;subst D;show#[jL q,?_];rw[TR j];show k _ H (s.pop.pop.scal mq)
 |_=>cases e
def Ms:=CZ (λ_ _=>G) λi j=>.bl (decide (i<j))
def iV:=CZ (λ_ _=>G) λi j=>.bl (decide (j<i))
def Vd:pA K (zG λi j=>.bl (decide (i<j))) Ms:=LR λ_ _ _=>mq _
def mC:pA K (zG λi j=>.bl (decide (j<i))) iV:=LR λ_ _ _=>mq _
def Mt:=CZ (λ_ _=>G) λi j=>ZI (i-j)
def aZ:=CZ (λ_ j=>decide (0<j)) λi j=>ZI (i%j)
def bO:=CZ (λ_ j=>decide (0<j/\j<1073741824)) λi j=>ZI (i/j)
def gM:=CZ (λi j=>decide (((Neg.neg (2 ^ 64))<i/\i<2 ^ 64)\/((Neg.neg (2 ^ 64))<j/\j<2 ^ 64))) λi j=>ZI (i*j)
def Xv:=CZ (λi j=>decide (0<=j/\j<=1000000/\i.natAbs<2 ^ 64)) λi j=>ZI (i ^ j.toNat)
def QD:pA K (zG λi j=>.int (i-j)) Mt:=LR λ_ _ _=>gF _
def bQ:pA K (rI (λ_ j=>0<j) λi j=>.int (i%j)) aZ:=Ka (λ_ _ h=>of_decide_eq_true h) λ_ _ _=>gF _
def cZ:pA K (rI CO λi j=>.int (i/j)) bO:=Ka (λi j h=>(of_decide_eq_true h:0<j/\j<1073741824)) λ_ _ _=>gF _
def lG:pA K (rI RG λi j=>.int (i*j)) gM:=Ka (λi j h=>(of_decide_eq_true h:((Neg.neg (2 ^ 64))<i/\i<2 ^ 64)\/((Neg.neg (2 ^ 64))<j/\j<2 ^ 64))) λ_ _ _=>gF _
def TU:pA K (rI vt λi j=>.int (i ^ j.toNat)) Xv:=Ka (λi j h=>(of_decide_eq_true h:0<=j/\j<=1000000/\i.natAbs<2 ^ 64)) λ_ _ _=>gF _
def Wt(K:FG):R2:=λx y H Q=>zG (λi j=>.int (i+j)) x y H Q\/(∃i j,x=.str i/\y=.str j/\-i+-j<=sizeLine/\Q (.str (i++j)) H)\/
 (∃a b xs ys,x=.ref a/\y=.ref b/\bY K H a xs/\bY K H b ys/\-xs+-ys<=sizeLine/\∀p,H p=J->Q (.ref p) (bp H p (.lst (xs++ys))))\/YZ K x y H Q
def bD:ju X (binaryOp .Add) (Wt X.K):=Nb.or (RK.or (OR.or Z4))
noncomputable def bf:PV->PV->Option Lc
 |ZI i,ZI j=>!(Zp (ZI (i+j)))
 |ZH i,ZH j=>if -i+-j<=100000 then !(Zp (ZH (i++j))) else J
 |R ps,R qs=>if -ps+-qs<=100000 then !(Zs (R (ps++qs))) else J
 |ZB (p::ps),ZB qs=>if -ps+-qs<=10000 then !(Zp (ZB (p::ps++qs))) else J
 |_,_=>J
def qZ{α:Type}[Decidable c]{a b:α}(e:(if c then !a else J)=!b):c/\a=b:=by
 split at e
 . grind
 . cases e
def TV(e:bf x y=!l):(∃i j,x=ZI i/\y=ZI j/\l=Zp (ZI (i+j)))\/(∃i j,x=ZH i/\y=ZH j/\-i+-j<=100000/\l=Zp (ZH (i++j)))
\/(∃ps D,x=R ps/\y=R D/\-ps+-D<=100000/\l=Zs (R (ps++D)))\/∃p ps D,x=ZB (p::ps)/\y=ZB D/\-ps+-D<=10000/\l=Zp (ZB (p::ps++D)):=by
 unfold bf at e;split at e
 . grind
 . let(h,e):=qZ e;show YY (Zl #[_,_,O,O,h,e.symm])
 . grind
 . let(h,e):=qZ e;show YY (YY (YY #[_,_,_,O,O,h,e.symm]))
 . cases e
def bF:pA K (Wt K) bf:=by
 intro H0 Z0 U Y pd H v w x y l Q s e k;let(g,r1,r2):=s.rep2H;obtain⟨i,j,rfl,rfl,rfl⟩|⟨i,j,rfl,rfl,N,rfl⟩|⟨ps,qs,rfl,rfl,N,rfl⟩|⟨p,ps,qs,rfl,rfl,N,rfl⟩:=TV e
 . show Zl #[i,j,cF r1,cF r2,k _ H (s.pop.pop.scal gF)]
 . show YY (Zl #[i,j,dN r1,dN r2,fz N,k _ H (s.pop.pop.scal pq)])
 . let(el,Z,hg,z,rq,W):=s.sh;let F:=W.perm dD.symm;let(_,e1,rp):=F.1 _ cf;cases e1;let(a,xs,rfl,h1,h2):=rp;let(b,ys,rfl,h3,D):=rq;show YY (YY (Zl #[a,b,xs,ys,O,O,bY.same z.zh h1,bY.same z.zh h3,by rw[h2.length,D.length];show fz N,λp hp=>k _ _ ?_]));let(z',s'):=(F.sub (f6 _ _)).new (p:=R (ps++qs)) z hp #[xs++ys,bZ,h2.append D];show .mk el hg z' s'
 . let(el,Z,hg,z,rq,W):=s.sh;let F:=W.perm dD.symm;let(_,e1,rp):=F.1 _ cf;cases e1;let(a,xs,rfl,h1,h2):=rp;let(b,ys,rfl,h3,D):=rq;have hx:xs≠[]:=λh=>by have:=-h2;rw[h]at this;simp at this
   let hz:=-h2;let Dx:=-D;rw[c5]at hz;show YY (YY (YY #[a,b,xs,ys,O,O,cW.same z.zh h1,cW.same z.zh h3,hx,fz (),λh=>?_,λh q hq=>?_]))
   . subst h;have:qs=[]:=Co Dx.symm;subst this;rw[eJ]at k;show k _ H s.pop
   . let s3:=F.sub (f6 _ _);let(z',sz,s'):=s3.newF z hq;show k _ _ (.mk (Z:=Z.put q (.tup (xs++ys))) el hg z' (s'.consS ?_));show#[q,xs++ys,O,cW.of bZ,(h2.append D).mono sz]
def qG:PV->PV->Option Lc
 |R ps,ZI i=>(fO ps i).map Zp
 |ZB ps,ZI i=>(fO ps i).map Zp
 |ZH x,ZI i=>if -x<=100000 then (fO x.cps.toList i).map λc=>Zp (ZH #[(List.toArray [c])]) else J
 |_,_=>J
def Bt{r:List β}(h:fO l i=!x)(e:-r=-l):∃(j:Nat),l[j]?=!x/\∀y,r[j]?=!y->fO r i=!y:=by let(j,h1,h2):=b_ h;show#[j,h2,λy q=>?_];unfold fO;grind
def TW(e:qG x y=!l):∃i,y=ZI i/\((∃ps,(x=R ps\/x=ZB ps)/\(fO ps i).map Lc.sh=!l)\/∃t c,x=ZH t/\-t<=100000/\fO t.cps.toList i=!c/\l=Zp (ZH #[(List.toArray [c])])):=by
 unfold qG at e;split at e
 . show#[_,O,Zl #[_,Zl O,e]]
 . show#[_,O,Zl #[_,YY O,e]]
 . split at e
   . rename_i h;let(c,h1,rfl):=de e;show#[_,O,YY #[_,c,O,h,h1,O]]
   . cases e
 . cases e
def Ve:pA K (x_ K) qG:=by
 intro H0 Z0 U Y pd H v w x y l Q s e k;let(i,rfl,F):=TW e;let(el,Z,hg,z,r2,s1):=s.sh;let s2:=s1.perm dD.symm;let(_,q,r1):=s2.1 _ cf;cases q;let s3:=s2.sub (f6 _ _);let N:=cF r2;obtain⟨ps,F,h0⟩|⟨x,c,rfl,hl,h1,rfl⟩:=F
 . let(p,h1,rfl):=de h0;obtain rfl|rfl:=F
   . let(a,vs,rfl,h2,D):=r1;let(j,q,e2):=Bt h1 (-D);let(u,W,e4):=D.get q;show Zl #[a,vs,i,u,O,N,bY.same z.zh h2,e2 u W,k _ H (.mk el hg z (s3.consS e4))]
   . let(a,vs,rfl,h2,D):=r1;let(j,q,e2):=Bt h1 (-D);let(u,W,e4):=D.get q;show YY (Zl #[a,vs,i,u,O,N,cW.same z.zh h2,e2 u W,k _ H (.mk el hg z (s3.consS e4))])
 . show YY (YY #[x,i,c,dN r1,N,fz hl,h1,k _ H (s.pop.pop.scal pq)])
def rm(ps:List PV)(lo hi:Option Int):List PV:=(ps.drop (HT.sIx (-ps) 0 lo)).take (HT.sIx (-ps) (-ps) hi-HT.sIx (-ps) 0 lo)
abbrev OF:=Ev->Option (Option Int×Ev)
def Fw(K:FG)(f:OF):TO:=λU H Q=>∃H0 Z0 Y pd r Y',SR K H0 Z0 U H Y pd/\f Y=!(r,Y')/\∀H',SR K H0 Z0 U H' Y' pd->Q r H'
def PO.imp(h:PO X e t)(i:∀U H Q,t' U H Q->t U H Q):PO X e t':=λae s U H Q I q=>h ae s U H Q I (i U H Q q)
def eU:OF:=λY=>!(J,Y)
def cM(f:EF):OF:=λY=>(f Y).bind λx=>match x.1.pv with
 |ZI i=>!(!i,x.2)
 |_=>J
def jX:PO X J (Fw X.K eU):=PO.imp ZZ λU H Q q=>by let(H0,Z0,Y,pd,r,Y',s,h,k):=q;cases h;show k H s
def eX(h:PE X e (tP X.K f)):PO X (!e) (Fw X.K (cM f)):=PO.imp (Z3 h) λU H Q q=>by
 let(H0,Z0,Y,pd,r,Y',s,h,k):=q;let(x,h1,h2):=b_ h;show#[H0,Z0,Y,pd,x.1,x.2,s,h1,λv H1 z=>?_];let(_,j):=z.freeze.repH;cases e:x.1.pv with
 |int i=>
  rw[e]at h2 j;cases h2;show#[i,cF j,k H1 z.pop]
 |_=>grind
def aK.cut{lo hi:Option Int}(h:aK K Z ps vs):aK K Z (rm ps lo hi) (uK vs lo hi):=by unfold rm uK;rw[h.length];show(h.drop _).take _
def lQ(K:FG)(r:List V->Hp->VK->Prop)(g:List PV->Option Lc):Prop:=∀H0 Z0 U Y pd H vs ps l Q,-vs=-ps->SR K H0 Z0 U H Y (vs.zip (ps.map Lc.sh)++pd)->g ps=!l->(∀u H',SR K H0 Z0 U H' Y ((u,l)::pd)->Q u H')->r vs H Q
def eB(g:List PV->Option Lc)(a:AF):EF:=λY=>(a Y).bind λy=>(g (y.1.map Lc.pv)).map λl=>(l,y.2)
def pP(hs:lQ X.K r g):∀U H Q,tP X.K (eB g a) U H Q->zN r (jR X.K a) U H Q:=λU H Q q=>by
 let(H0,Z0,Y,pd,l,Y',s,f,k):=q;let(y,h1,h2):=b_ f;let(l',j,N):=de h2;cases N;show#[H0,Z0,Y,pd,y.1,y.2,s,h1,λF H2 W D=>?_];let i:=D.freezeAll;have z:(y.1.map λl=>Lc.sh l.pv)=(y.1.map Lc.pv).map Lc.sh:=by rw[fF];rfl
 rw[z]at i;show hs H0 Z0 U y.2 pd H2 F (y.1.map Lc.pv) _ Q ∅ i j k
def wJ{id:String}(j:lO X (.builtin id) r)(hs:lQ X.K r g)(h:PE X (.Call (.Name x p) (e::es) [] pos) (zN r (jR X.K a))):PE X (.Call (.Name x p) (e::es) [] pos) (tP X.K (eB g a)):=PE.imp h (pP hs)
def lQ.one{g:PV->Option Lc}(h:∀H0 Z0 U Y pd H v p l Q,SR K H0 Z0 U H Y ((v,Zp p)::pd)->g p=!l->(∀u H',SR K H0 Z0 U H' Y ((u,l)::pd)->Q u H')->r [v] H Q):
 lQ K r (λps=>match ps with |[p]=>g p |_=>J):=by
 intro H0 Z0 U Y pd H j ps l Q e s i k
 match ps,j,e,s,i with
 |[p],[v],_,s,i=>show h H0 Z0 U Y pd H v p l Q s i k
 |[p],[],e,_,_=>simp at e
 |[p],_::_::_,e,_,_=>simp at e
 |[],_,_,_,i=>cases i
 |_::_::_,_,_,_,i=>cases i
noncomputable def ES:PV->Option Lc
 |ZH x=>if -x<=100000 then !(Zp (ZI (-x))) else J
 |R ps=>!(Zp (ZI (-ps)))
 |ZB ps=>!(Zp (ZI (-ps)))
 |_=>J
abbrev cz:List PV->Option Lc:=λps=>match ps with |[p]=>ES p |_=>J
def Vf:lQ K (λxs H Q=>∃x n,xs=[x]/\Wq K x H n/\Q (.int n) H) cz:=lQ.one λH0 Z0 U Y pd H v p l Q s e k=>by
 let(_,r):=s.repH;cases p with
 |str x=>
  have j:(if -x<=100000 then !(Lc.sh (ZI (-x))) else J)=!l:=e;split at j
  . rename_i D;cases j;have:=dN r;subst this;show#[_,-x,O,#[fz D,O],k _ H (s.pop.scal gF)]
  . cases j
 |lst ps=>
  cases e;let(a,q,rfl,h1,h2):=r;show#[_,-ps,O,Zl #[q,h1,h2.length.symm],k _ H (s.pop.scal gF)]
 |tup ps=>
  cases e;let(a,q,rfl,h1,h2):=r;show#[_,-ps,O,YY #[q,h1,h2.length.symm],k _ H (s.pop.scal gF)]
 |_=>cases e
def TZ:PV->Option Lc
 |R ps=>!(Zs (R ps))
 |ZB ps=>!(Zs (R ps))
 |_=>J
abbrev hE:List PV->Option Lc:=λps=>match ps with |[p]=>TZ p |_=>J
def wK:lQ K (λxs H Q=>∃p ys,xs=[.ref p]/\(bY K H p ys\/cW K H p ys)/\∀l,H l=J->Q (.ref l) (bp H l (.lst ys))) hE:=lQ.one λH0 Z0 U Y pd H v p l Q s e k=>by
 let(F,Z,N,z,r,W):=s.sh;cases p with
 |lst ps=>
  cases e;let(a,D,rfl,h1,h2):=r;show#[a,D,O,Zl (bY.same z.zh h1),λq i=>k _ _ ?_];let(j,s'):=W.new (p:=R ps) z i #[_,bZ,h2];show .mk F N j s'
 |tup ps=>
  cases e;let(a,D,rfl,h1,h2):=r;show#[a,D,O,YY (cW.same z.zh h1),λq i=>k _ _ ?_];let(j,s'):=W.new (p:=R ps) z i #[_,bZ,h2];show .mk F N j s'
 |_=>cases e
def Ev.set_set:(Y.set i x).set i y=Y.set i y:=by show Ev.mk ((Y.vs.set i x).set i y) Y.mu=_;rw[oQ];rfl
def SR.takeO(s:SR K H0 Z0 U H Y pd)(e:Y.vs[i]?=!(!(Zs (R ws)))):
 ∃a,U[i]?=!(!(.ref a))/\(∃j,H a=!(.lst j))/\SR K H0 Z0 U H (Y.set i J) ((.ref a,Zs (R ws))::pd):=by
 let(v,F,D):=s.take e;let(_,Z,_,z,q):=D.top;let(a,N,(j,W,_),_):=q.1 _ cf;grind
def jM(i:Nat)(f:EF):SF:=λY=>match Y.vs[i]? with
 |some (!(Zs (R _)))=>(f Y).bind λy=>match y.2.vs[i]? with
  |some (!(Zs (R ws)))=>if -ws<100000 then !(.nx (y.2.set i (!(Zs (R (ws++[y.1.pv])))))) else J
  |_=>J
 |_=>J

open A in
def T0(h:PS X (.Expr (.Call (.Attribute o "append" apos) [e] [] cpos) pos) (J3 (KZ X.K "list" GP (uH i) (jR X.K (aj f ao))))):
 PS X (.Expr (.Call (.Attribute o "append" apos) [e] [] cpos) pos) (iw X.K (jM i f)):=PS.imp h λD U H q=>by
 let(H0,Z0,Y,pd,fl,s,h,k):=q;unfold jM at h;split at h
 . rename_i ws0 e0;let(y,h1,h2):=b_ h;let(a,z,(us,hu),_):=s.takeO e0;show#[.ref a,z,Zl #[O,us,bY.of hu],H0,Z0,Y,pd,[y.1],y.2,s,?_,λvs H2 e2 s2=>?_]
   . unfold aj ao;grind
   . let(v1,rfl):=yZ e2;split at h2
     . rename_i ws e3;split at h2
       . cases h2;let(a',j,_,s3):=SR.takeO s2 e3;rw[z]at j;cases j;let W:=s3.swap;let(N,F,hl,s5):=W.pushO;show#[a,N,v1,O,O,F,by rw[hl,iE];lia,k U _ ?_];let Q:=s5.put z;rw[Ev.set_set]at Q;show Q
       . cases h2
     . cases h2
 . cases h
def SR.extO(s:SR K H0 Z0 U H Y ((v,Zp (R ps))::(.ref a,Zs (R ws))::pd)):
 ∃b i zs,v=.ref b/\bY K H b zs/\H a=!(.lst i)/\-i=-ws/\-zs=-ps/\SR K H0 Z0 U (bp H a (.lst (i++zs))) Y ((.ref a,Zs (R (ws++ps)))::pd):=by
 let(F,Z,Q,z,r,N):=s.sh;let(b,zs,rfl,h1,h2):=r;let j:=N.perm dD.symm;let(_,eb,(i,hu,D),_):=j.1 _ cf;cases eb;show#[b,i,zs,O,bY.same z.zh h1,hu,-D,-h2,?_];let(W,s'):=j.write (q:=R (ws++ps)) z #[i++zs,bZ,D.append h2];show .mk F Q W s'
def gb(i:Nat)(f:EF):SF:=λY=>match Y.vs[i]? with
 |some (!(Zs (R _)))=>(f Y).bind λy=>match y.1.pv,y.2.vs[i]? with
  |R ps,!(!(Zs (R ws)))=>if -ws+-ps<=100000 then !(.nx (y.2.set i (!(Zs (R (ws++ps)))))) else J
  |_,_=>J
 |_=>J

open A in
def T1(h:PS X (.Expr (.Call (.Attribute o "extend" apos) [e] [] cpos) pos) (J3 (KZ X.K "list" (K4 X.K) (uH i) (jR X.K (aj f ao))))):
 PS X (.Expr (.Call (.Attribute o "extend" apos) [e] [] cpos) pos) (iw X.K (gb i f)):=PS.imp h λD U H q=>by
 let(H0,Z0,Y,pd,fl,s,h,k):=q;unfold gb at h;split at h
 . rename_i ws0 e0;let(y,h1,h2):=b_ h;let(a,z,(us,hu),_):=s.takeO e0;show#[.ref a,z,Zl #[O,us,bY.of hu],H0,Z0,Y,pd,[y.1],y.2,s,?_,λvs H2 e2 s2=>?_]
   . unfold aj ao;grind
   . let(v1,rfl):=yZ e2;split at h2
     . rename_i ps ws ep e3;split at h2
       . rename_i hz;cases h2;let(a',j,_,s3):=SR.takeO s2 e3;rw[z]at j;cases j;let W:=s3.swap.freeze;rw[ep]at W;let(b,F,zs,rfl,hb,Q,hl,N,s5):=W.extO;show#[a,b,F,zs,O,O,Q,hb,by rw[hl,N];show fz hz,k U _ ?_];let s6:=s5.put z;rw[Ev.set_set]at s6;show s6
       . cases h2
     . cases h2
 . cases h
def SR.setO(s:SR K H0 Z0 U H Y ((v,Zp p)::(.ref a,Zs (R ws))::pd)):
 ∃i,H a=!(.lst i)/\-i=-ws/\SR K H0 Z0 U (bp H a (.lst (i.set j v))) Y ((.ref a,Zs (R (ws.set j p)))::pd):=by
 let(N,Z,W,z,r,Q):=s.sh;let D:=Q.perm dD.symm;let(_,eb,(i,hu,F),_):=D.1 _ cf;cases eb;show#[i,hu,-F,?_];let(z',s'):=D.write (q:=R (ws.set j p)) z #[i.set j v,bZ,F.set r j];show .mk N W z' s'
def Bu(i:Nat)(fi fv:EF):SF:=λY=>(fv Y).bind λx=>match x.2.vs[i]? with
 |some (!(Zs (R _)))=>(fi x.2).bind λy=>match y.1.pv,y.2.vs[i]? with
  |ZI k,!(!(Zs (R ws)))=>(uL (-ws) k).map λj=>.nx (y.2.set i (!(Zs (R (ws.set j x.1.pv)))))
  |_,_=>J
 |_=>J

open A in
def T_(h:PS X (.Assign [.Subscript o ix tpos] e pos) (Rz (tP X.K W) (Wk (uH i) (tP X.K fi) Y0_))):PS X (.Assign [.Subscript o ix tpos] e pos) (iw X.K (Bu i fi W)):=PS.imp h λD U H q=>by
 let(H0,Z0,Y,pd,fl,s,h,k):=q;let(x,h1,h2):=b_ h;show#[H0,Z0,Y,pd,x.1,x.2,s,h1,λv H1 s1=>?_];split at h2
 . rename_i ws0 e0;let(y,h3,N):=b_ h2;let(a,Q,_):=s1.takeO e0;show#[.ref a,Q,H0,Z0,x.2,_,y.1,y.2,s1.freeze,h3,λw H2 s2=>?_];split at N
   . rename_i kk ws ek e3;let(j,h5,rfl):=de N;let(_,F):=s2.freeze.repH;rw[ek]at F;let ew:=cF F;let(a',z,_,s3):=s2.pop.takeO e3;rw[Q]at z;cases z;let(us,hu,hl,s4):=s3.swap.setO;show#[a,us,kk,j,O,ew,hu,by rw[hl];show h5,k U _ ?_];let s5:=s4.put Q;rw[Ev.set_set]at s5;show s5
   . cases N
 . cases h2
def Ai(z:g[n]?=!a)(q:mu[n]?=!o):∃ZN:Sl,List.Perm (cel g mu) ((!(.ref a),o.map Lc.own)::ZN)/\∀o',List.Perm (cel g (mu.set n o')) ((!(.ref a),o'.map Lc.own)::ZN):=by
 have h1:(g.map λa=>!(V.ref a))[n]?=!(!(.ref a)):=by rw[dS,z];rfl
 have h2:(mu.map λo=>o.map Lc.own)[n]?=!(o.map Lc.own):=by rw[dS,q];rfl
 let(ZN,j,p2):=Af (zip_get h1 h2);show#[ZN,j,λo'=>?_];have:=p2 (!(.ref a),o'.map Lc.own);rw[<-G4,lm h1]at this;unfold cel;grind
def SR.cellO(s:SR K H0 Z0 U H Y ((v,Zp (ZA n))::pd))(hm:Y.mu[n]?=!(!p)):
 ∃a,v=.ref a/\SR K H0 Z0 U H #[Y.vs,Y.mu.set n J] ((.ref a,Zs p)::(.ref a,Zp (ZA n))::pd):=by
 let(F,Z,hg,z,r,Q):=s.sh;let W:=r;let(a,rfl,N):=r;let(ZN,p1,p2):=Ai N hm;show#[a,O,.mk F ∅ z ?_];let i:=Q.perm (p1.append_right _).symm;have j:ag K H0 Z H ((!(.ref a),J)::(!(.ref a),!(Zs p))::(ZN++(U.zip Y.vs++pd.map λe=>(!e.1,!e.2)))):=by
  show#[λe D=>?_,?_]
  . obtain rfl|D:=bP.mp D
    . trivial
    . show i.1 e D
  .  show i.2
 let q:=(j.perm (gu _ _ _)).perm (Perm.cons _ ((p2 J).append_right _));show((q.consS W).perm (gu _ _ _)).perm (Perm.cons _ dD)
def SR.cellP(s:SR K H0 Z0 U H Y ((.ref a,Zs q)::(.ref a,Zp (ZA n))::pd))(hm:Y.mu[n]?=!J):SR K H0 Z0 U H #[Y.vs,Y.mu.set n (!q)] pd:=by let(N,Z,hg,z,r,W):=s.swap.sh;let(b,eb,Q):=r;cases eb;let(ZN,p1,p2):=Ai Q hm;let D:=W.perm dD.symm;show#[N,Z,by simpa using hg,z,?_];have F:Perm (sl Z.g U Y pd) ((!(.ref a),J)::(ZN++(U.zip Y.vs++pd.map λe=>(!e.1,!e.2)))):=p1.append_right _;let i:=D.perm (F.symm.cons _);let j:=i.sub ((f6 _ _).cons_cons _);show j.perm ((p2 (!q)).append_right _)
def aJ(fa fb:EF):EF:=λY=>(fa Y).bind λx=>(fb x.2).bind λy=>match x.1.pv,y.1.pv with
 |ZA n,ZI k=>match y.2.mu[n]? with
  |some (!(R ws))=>(fO ws k).map λp=>(Zp p,y.2)
  |_=>J
 |p,q=>(qG p q).map λl=>(l,y.2)

open A in
def fP(ha:PE X a (tP X.K fa))(hb:PE X b (tP X.K fb))(hm:Bh b):PE X (.Subscript a b pos) (tP X.K (aJ fa fb)):=PE.imp (RX Ub ha hb hm) λU H Q q=>by
 let(H0,Z0,Y,pd,l,Y',s,f,k):=q;let(x,h1,h2):=b_ f;let(y,h3,D):=b_ h2;show#[H0,Z0,Y,pd,x.1,x.2,s,h1,λv H1 s1=>#[H0,Z0,x.2,_,y.1,y.2,s1,h3,λw H2 s2=>?_]];let F:=s2.freeze.swap.freeze.swap;split at D
 . rename_i n kk en ek;split at D
   . rename_i ws i;let(p,h5,W):=de D;rw[en,ek]at F;let(_,N):=F.repH;let ew:=cF N;let(a,rfl,s5):=F.pop.cellO i;let(el,Z,hg,z,so):=s5.top;let(_,ea,(us,hu,hr),_):=so.1 _ cf;cases ea;let(j,e1,e2):=Bt h5 (-hr);let(u,e3,e4):=hr.get e1;show Zl #[a,us,kk,u,O,ew,bY.of hu,e2 u e3,k u H2 ?_];have s6:SR X.K H0 Z0 U H2 #[y.2.vs,y.2.mu.set n J] ((u,Zp p)::(.ref a,Zs (R ws))::(.ref a,Zp (ZA n))::pd):=.mk el hg z ((so.perm dD).consS e4);let hn:=(eM.mp i).1;let s7:=s6.perm (((List.Perm.swap _ _ _).cons _).trans (List.Perm.swap _ _ _));let s8:=s7.cellP ∅;have e8:(y.2.mu.set n J).set n (!(R ws))=y.2.mu:=by rw[oQ];show lm i
     grind
   . cases D
 . let(l',h5,W):=de D;cases W;show Ve H0 Z0 U y.2 pd H2 v w x.1.pv y.1.pv _ Q F h5 k
def Sx(g:AF):EF:=λY=>(cu g Y).bind λx=>match x.1 with
 |Zs p=>!(Zp (ZA (-x.2.mu)),#[x.2.vs,x.2.mu++[!p]])
 |_=>J

open A in
def Vg(h:PE X (.List es pos) (tP X.K (cu g))):PE X (.List es pos) (tP X.K (Sx g)):=PE.imp h λU H Q q=>by
 let(H0,Z0,Y,pd,l,Y',s,f,k):=q;let(x,h1,h2):=b_ f;show#[H0,Z0,Y,pd,x.1,x.2,s,h1,λv H1 N=>?_];split at h2
 . rename_i p ep;cases h2;rw[ep]at N;let(W,Z,hg,z,j):=N.top;let(a,ea,ra,za,ET):=j.1 _ cf;let i:=fw ea;subst i;have F:iu Z #[Z.z,Z.g++[a]]:=#[eY_.refl _,va _ _];let D:=j.step F λe he b hb=>#[O,(jn j he hb).1];show k _ H1 (.mk (Z:=#[Z.z,Z.g++[a]]) W ∅ #[z.zh,z.h0,z.z0.trans F,z.new] (ag.consS ?_ ?_))
   . show D.perm ?_;have ec:cel (Z.g++[a]) (x.2.mu++[!p])=cel Z.g x.2.mu++[(!(.ref a),!(Zs p))]:=by unfold cel;rw[d0,d0,md ∅];rfl
     show Perm (cel (Z.g++[a]) (x.2.mu++[!p])++_) _;rw[ec,d6];show gI
   . show#[a,O,by show (Z.g++[a])[-x.2.mu]?=!a;rw[hg,hZ ()];simp]
 . cases h2
mutual
def di:PV->Bool
 |.non=>G
 |.bl _=>G
 |ZI _=>G
 |ZH _=>G
 |ZB ps=>cq ps
 |_=>M
def cq:List PV->Bool
 |[]=>G
 |p::ps=>di p&&cq ps
end
def Sy:Lc->Bool
 |.sh p=>di p
 |.own (.lst ps)=>cq ps
 |.own (.dk _ ps)=>cq ps
 |_=>false
def Zg:Option Lc->Option Lc
 |some l=>!(Zp l.pv)
 |none=>J
def Ev.peek(Y:Ev):Ev:=#[Y.vs.map Zg,Y.mu.map λ_=>J]
def vL(f:EF):EF:=λY=>(f Y.peek).bind λx=>if Sy x.1=G then !(x.1,Y) else J
def sR(f:TF):TF:=λY=>(f Y.peek).map λx=>(x.1,Y)
noncomputable def zb:Option HO->Option HO->Option HO->Option HO
 |some (.tup vs),_,_=>!(.tup vs)
 |some (.frz o u),_,_=>!(.frz o u)
 |some _,z,_=>z
 |none,_,z=>z
def n8(H:Hp)(Z Z':ZG):ZG:=#[λb=>zb (H b) (Z.z b) (Z'.z b),Z.g]
def Vh(D:eY_ H H')(F:eY_ Z'.z H')(h:cW K Z'.z a vs):cW K (n8 H Z Z').z a vs:=by
 obtain (h|⟨o,h⟩)|h:=h
 . show Zl (Zl ?_);show zb (H a) (Z.z a) (Z'.z a)=_;cases q:H a with
   |none=>show h
   |some o=>
    let j:=D a o q;rw[F a _ h]at j;cases j;rfl
 . show Zl (YY #[o,?_]);show zb (H a) (Z.z a) (Z'.z a)=_;cases q:H a with
   |none=>show h
   |some o'=>
    let j:=D a o' q;rw[F a _ h]at j;cases j;rfl
 . show YY h
mutual
theorem Mv(hh:eY_ H H')(zh:eY_ Z'.z H'):∀{p:PV}{v:V},di p=true->b9 K Z' p v->b9 K (n8 H Z Z') p v
 |.non,v,_,h=>by  show h
 |.bl _,v,_,h=>by  show h
 |.int _,v,_,h=>by  show h
 |.str _,v,_,h=>by  show h
 |.tup ps,v,f,h=>by let(a,vs,e,h1,h2):=h;show#[a,vs,e,Vh hh zh h1,aT hh zh f h2]
 |.lst _,v,f,_=>by  cases f
 |.dk _ _,v,f,_=>by  cases f
 |.dt _ _,v,f,_=>by  cases f
 |.obj _ _ _,v,f,_=>by  cases f
 |.df _ _,v,f,_=>by  cases f
 |.dtf _ _,v,f,_=>by  cases f
 |.dx _ _ _,v,f,_=>by  cases f
 |.exc _,v,f,_=>by  cases f
 |.fn _,v,f,_=>by  cases f
 |.ptr _,v,f,_=>by  cases f
theorem aT(hh:eY_ H H')(zh:eY_ Z'.z H'):∀{ps:List PV}{vs:List V},cq ps=true->aK K Z' ps vs->aK K (n8 H Z Z') ps vs
 |[],vs,_,h=>by  show h
 |p::ps,vs,f,h=>by let(v,r,rfl,h1,h2):=h.inv;unfold cq at f;rw[iP]at f;show aK.cons (Mv hh zh f.1 h1) (aT hh zh f.2 h2)
end
def SR.lookB(s:SR K H0 Z0 U H Y pd):
 ∃Z,(-U=-Y.vs/\-Y.mu=-Z.g/\iu Z #[H,Z.g]/\ag K H0 Z H (sl Z.g U Y pd))/\(∀H' v r Y1,SR K H #[H,Z.g] U H' Y1 [(v,r)]->Sy r=true->SR K H0 Z0 U H' Y ((v,r)::pd))/\∀H' Y1,SR K H #[H,Z.g] U H' Y1 []->SR K H0 Z0 U H' Y pd:=by
 let(el,Z,hg,z,so):=s;have back:∀{H':Hp}{Z':ZG},jQ H #[H,Z.g] Z' H'->jQ H0 Z0 (n8 H Z Z') H'/\ag K H0 (n8 H Z Z') H' (sl Z.g U Y pd):=λ{H' Z'} z'=>by
  have zz:iu Z (n8 H Z Z'):=#[λb o e=>by show zb (H b) (Z.z b) (Z'.z b)=_;let hb:=z.zh b o e;rw[hb];cases o<;>first |rfl |show e,l5 _]
  have EU:∀b o,(n8 H Z Z').z b=!o->(∃u,H b=!u/\((J9 u/\o=u)\/Z.z b=!o))\/(H b=none/\Z'.z b=!o):=λb o e=>by
   have e:zb (H b) (Z.z b) (Z'.z b)=!o:=e;cases q:H b with
   |none=>rw[q]at e;show .inr #[rfl,e]
   |some u=>
    rw[q]at e;show .inl #[u,rfl,?_];cases u with
    |tup vs=>cases e;show .inl #[trivial,rfl]
    |frz o' u=>cases e;show .inl #[trivial,rfl]
    |_=>show .inr e
  show#[#[λb o e=>?_,z.h0.trans z'.h0,z.z0.trans zz,λb o e=>?_],?_]
  . obtain⟨u,hu,⟨_,rfl⟩|hz⟩|⟨_,hz⟩:=EU b o e
    . show z'.h0 b _ hu
    . show z'.h0 b o (z.zh b o hz)
    . show z'.zh b o hz
  . obtain⟨u,hu,⟨hi,rfl⟩|hz⟩|⟨hn,hz⟩:=EU b o e
    . show .inr (.inr hi)
    . show z.new b o hz
    . show .inr (.inl (z.h0.free hn))
  . show so.step zz λe he a ha=>?_;let(h1,h2,o,h3,h4):=jn so he ha;show#[by rw[h3];show z'.h0 a o h3,?_];show zb (H a) (Z.z a) (Z'.z a)=_;rw[h3];cases o with
    |tup vs=>show(h4 trivial).elim
    |frz o u=>show(h4 trivial).elim
    |_=>show h1
 show#[Z,#[el,hg,#[z.zh,l5 _],so],λH' v r Y1 s1 hf=>?_,λH' Y1 s1=>?_]
 . let(_,Z',zw,z',s2):=s1.top;let(zo,ss):=back z';let q:=s2.1 _ cf;show .mk (Z:=n8 H Z Z') el hg zo ?_;cases r with
   |sh p=>
    let(x,e1,e2):=q;cases e1;show ss.consS (Mv z'.h0 z'.zh hf e2)
   |own p=>
    let(a,e1,e2,e3,e4):=q;let r_:=fw e1;subst r_;have fin:∀{q:PV},qU K (n8 H Z Z') H' a q->ag K H0 (n8 H Z Z') H' ((!(.ref a),!(.own q))::sl Z.g U Y pd):=λe2=>by
     show#[λe he=>?_,?_]
     . obtain rfl|he:=bP.mp he
       . show#[a,rfl,e2,?_,z.h0.free e4];show zb (H a) (Z.z a) (Z'.z a)=_;rw[e4];show e3
       . show ss.1 e he
     . show (a::(sl Z.g U Y pd).filterMap mj).Nodup;show h_.mpr #[λhm=>?_,ss.2];let(e,he,hb):=j6.mp hm;let(_,_,o,h3,_):=jn so he hb;rw[h3]at e4;cases e4
    suffices h:qU K (n8 H Z Z') H' a p by show fin h
    cases p with
    |lst ps=>
     let(vs,g1,g2):=e2;show#[vs,g1,aT z'.h0 z'.zh hf g2]
    |dk ks ps=>
     let(a_,g1,g2,g3):=e2;show#[a_,g1,g2,aT z'.h0 z'.zh hf g3]
    |_=>cases hf
 . let(_,Z',zw,z',s2):=s1;let(zo,ss):=back z';show#[el,n8 H Z Z',hg,zo,ss]
def SR.peeked{Z:ZG}(N:-U=-Y.vs)(D:-Y.mu=-Z.g)
 (hs:∀v o,(v,o)∈U.zip Y.vs->pk o=J\/∃x p,pk o=!(Zp p)/\v=!x/\b9 K #[H,Z.g] p x):SR K H #[H,Z.g] U H #[Y.vs.map pk,Y.mu.map λ_=>J] []:=by
 have key:∀v l,(v,l)∈sl Z.g U #[Y.vs.map pk,Y.mu.map λ_=>J] []->l=J\/∃x p,l=!(Zp p)/\v=!x/\b9 K #[H,Z.g] p x:=λv l i=>by
  obtain i|i:=dy.mp i
  . let(_,h2):=l_ i;grind
  . rw[rQ,eJ]at i;rw[zip_map_right]at i;let(e,j,z):=dA.mp i;cases z;show hs _ _ j
 show#[by simp[N],#[H,Z.g],by simp[D],#[eY_.refl _,eY_.refl _,iu.refl _,λb o e=>Zl e],λe i=>?_,?_]
 . let(v,l):=e;obtain rfl|⟨x,p,rfl,rfl,r⟩:=key v l i
   . trivial
   . show#[x,O,r]
 . have:(sl Z.g U #[Y.vs.map pk,Y.mu.map λ_=>J] []).filterMap mj=[]:=by
    rw[filterMap_eq_nil_iff];intro e i;let(v,l):=e;obtain rfl|⟨x,p,rfl,rfl,_⟩:=key v l i
    . cases v with
      |none=>rfl
      |some x=>cases x<;>rfl
    . cases x<;>rfl
   rw[this];grind
def SR.look(s:SR K H0 Z0 U H Y pd):
 ∃i,SR K H i U H Y.peek []/\(∀H' v r Y1,SR K H i U H' Y1 [(v,r)]->Sy r=G->SR K H0 Z0 U H' Y ((v,r)::pd))/\∀H' Y1,SR K H i U H' Y1 []->SR K H0 Z0 U H' Y pd:=by
 let(Z,(F,Q,D,N),W,b2):=s.lookB;show#[_,SR.peeked F Q λv o he=>?_,W,b2];let q:=N.1 _ (gy _ (gW _ he))
 match o,q with
 |none,_=>show Zl O
 |some (Zp p),#[x,j,z]=>show YY #[x,p,O,j,z.mono D]
 |some (Zs p),#[a,j,z,_]=>show YY #[.ref a,p,O,j,z.rep D O]
def Xw:∀U H Q,tP K (vL f) U H Q->tP K f U H Q:=λU H Q q=>by
 let(H0,Z0,Y,pd,r,Y',s,h,k):=q;let(x,h1,h2):=b_ h;let(N,z,j,_):=s.look;split at h2
 . rename_i D;cases h2;show#[H,N,Y.peek,[],x.1,x.2,z,h1,λv H' F=>k v H' (j H' v x.1 x.2 F D)]
 . cases h2
def Kh(h:PE X e (tP X.K f)):PE X e (tP X.K (vL f)):=PE.imp h Xw
def EV(h:PT X e (jw X.K f)):PT X e (jw X.K (sR f)):=PT.imp h λU H Q q=>by let(H0,Z0,Y,pd,r,Y',s,h,k):=q;let(x,h1,h2):=de h;cases h2;let(D,j,_,b2):=s.look;show#[H,D,Y.peek,[],x.1,x.2,j,h1,λH' F=>k H' (b2 H' x.2 F)]
end
def yt(x:Str):It:=#[λi _=>i< ~~~x.cps,λi H v H'=>H'=H/\∃c,x.cps[i]?=!c/\v=.str #[(List.toArray [c])],λi _=>i= ~~~x.cps]
def Mw(j:Addr)(x:Str){St:Nat->Heap->Prop}(W:∀A':Around,A'.handled=J->Walks P w A' j [j] [j] x.cps.size (SignAt x) St)
 (hob:∀i h,St i h->∃o,h.get? j=!o/\∀v,o.data≠.cell v) (Ud:∀(A:Around)(i:Nat)(s:Shared)(Q:Value->Shared->Prop)(E:Value->Shared->Prop),St i s.heap->Q (YV j) s->wpAny (model P w) A (pyIter (YV j)) Q E s):hU P w K tg (yt x) [j] j St where
 mem:=by simp
 obj:=λi h st b q=>by
  have e:b=j:=by simpa using q
  grind
 keep:=λi h h' st k=>(W {} O).frame i h h' st k
 item:=by intro X hP hw hK hc i ae s U H E I D st N;let(F,f1,f2,f3,f4,f5):=D j (by simp);show(W X.A (I.ok.hd hc)).item i s _ E N st λv h' tk hv fB hk=>?_;let(c,u,e1,rfl):=hv;show#[_,O,?_];have fin:∃z H',ai X ae U H' { s with heap:=h',toks:=tk }/\aI z (.str #[(List.toArray [c])] u)/\(yt x).yld i H z H'/\St (i+1) h'/\∀b∈[j],H' b=J:=#[.str #[(List.toArray [c])],H,(I.turned (λb o q e=>hk b o ∅ e) F f1 f3 f4 f5),#[u,O],#[O,c,e1,O],fB,λb q=>(D b q).1];cases tg<;>show bv fin
 done:=by intro X hP hw hK hc i ae s U H E I D st N;let(F,f1,f2,f3,f4,f5):=D j (by simp);subst N;show(W X.A (I.ok.hd hc)).done s _ E st λh' tk hk=>#[O,I.turned (λb o q e=>hk b o ∅ e) F f1 f3 f4 f5]
 self:=λA i s Q E st h=>Ud A i s Q E st h
section
variable {X:Cx}
noncomputable def i6 (x:Str):List PV:=x.cps.toList.map λc=>ZH #[(List.toArray [c])]
def Uf:qX K H0 Z0 pd (yt x) (i6 x):=by
 intro U H Y i s;show#[λp F=>?_,λhl=>?_]
 . unfold i6 at F;rw[dS]at F;let(c,D,rfl):=de F;let hi:=(eM.mp D).1;show#[(show i< ~~~x.cps by simpa using hi),λv H' y=>?_];let(rfl,c',j,rfl):=y;have:c'=c:=by rw[Array.getElem?_toList]at D;rw[D]at j;show(fw j).symm
   subst this;show s.scal pq
 . show i= ~~~x.cps;simpa [i6] using hl
def O2{bs:List Bool}(z:ap ys du)(e:ys=bs.map V.bl):TruthOf P w A (λi v=>du.toArray[i]?=!v) (λi=>bs.getD i M):=by
 intro i v s Q E N q;have j:du[i]?=!v:=by simpa using N
 let hi:=(eM.mp j).1;let W:=-z;have F:i< -bs:=by rw[e,ck]at W;lia
 let(u,h1,h2):=z.get (by rw[e,dS,gg F];rfl);rw[j]at h1;cases h1;cases h2;have:bs.getD i M=bs[i]:=by simp[F]
 have D:Q (bs.getD i M) s:=q;rw[this]at D;show wpAny_truthy_bool D
def range_any{bs:List Bool}:((range (-bs)).any λi=>bs.getD i M)=bs.any id:=by
 induction bs with
 |nil=>rfl
 |cons b r j=>
  rw[c5,range_succ_eq_map,xI,any_map,xI];have:((range (-r)).any ((λi=>(b::r).getD i M) ∘ Nat.succ))=(range (-r)).any λi=>r.getD i M:=O;rw[this,j];rfl
def mD(hc:X.calm=G):lO X (.builtin "any") (λxs H Q=>∃(p:Addr)(bs:List Bool),xs=[.ref p]/\bY X.K H p (bs.map V.bl)/\Q (.bl (bs.any id)) H):=by
 intro ae s U H xs us Q I r h;let(p,bs,rfl,hq,q):=h;let(u,rfl,ru):=fg r;cases ru;let(j,rv,pl,_):=I.list hq;have F:p< ~~~s.heap.objs:=by let(o,n,g1,_):=pl;show dq g1
 show call_any_walk (wpAny_pyIter_list pl.isList ?_);have D:∀b o,s.heap.get? b=!o->(s.heap.push { cls:=.type "list_iterator",data:=.fields (List.toArray [YV p,.int 0 0]) }).get? b=!o:=λb o e=>d5 _ e;have hl: ~~~j.toArray=-bs:=by rw[gx,<-(-rv),ck]
 show#[s.heap.objs.size,_,_,_,_,_,λi=>bs.getD i M,O,Walks.list (show X.A.in1.handled=J from I.ok.hd hc) _ p (eR F) j.toArray,#[#[_,ff _ O,O,O],?_],O2 rv O,λh' tk hk=>?_]
 . let(o,g1,g2):=pl.isList;show#[o,D _ _ g1,g2]
 . rw[hl,range_any];show#[.bl _,H,I.kept λb o e=>hk b o ?_ (D b o e),O,q];have:=dq e;simp;show eR this
noncomputable def eS:List PV->Option (List Bool)
 |[]=>![]
 |.bl b::r=>(eS r).map (b::·)
 |_=>J
theorem Ja:∀{ps:List PV}{bs:List Bool}{vs:List V},eS ps=!bs->aK K Z ps vs->vs=bs.map V.bl
 |[],bs,vs=>λh r=>by cases h;show r.inv0
 |p::ps,bs,vs=>λh r=>by
  cases p with
  |bl b=>
   let(cs,h1,rfl):=de h;let(v,w,rfl,i,j):=r.inv;rw[ji i,Ja h1 j];rfl
  |_=>cases h
def Uh:PV->Option Lc
 |R ps=>(eS ps).map λbs=>Zp (.bl (bs.any id))
 |_=>J
abbrev Aj:List PV->Option Lc:=λps=>match ps with |[p]=>Uh p |_=>J
def Fx:lQ K (λxs H Q=>∃(p:Addr)(bs:List Bool),xs=[.ref p]/\bY K H p (bs.map V.bl)/\Q (.bl (bs.any id)) H) Aj:=lQ.one λH0 Z0 U Y pd H v p l Q s e k=>by
 let(_,r):=s.repH;cases p with
 |lst ps=>
  let(bs,h1,rfl):=de (e);let(a,q,rfl,h2,j):=r;have:=Ja h1 j;subst this;show#[a,bs,O,h2,k _ H (s.pop.scal mq)]
 |_=>cases e
noncomputable def f8:List PV->Option (List Str)
 |[]=>![]
 |ZH x::r=>(f8 r).map (x::·)
 |_=>J
theorem Mx:∀{ps:List PV}{xs:List Str}{vs:List V},f8 ps=!xs->aK K Z ps vs->vs=xs.map V.str
 |[],xs,vs=>λh r=>by cases h;show r.inv0
 |p::ps,xs,vs=>λh r=>by
  cases p with
  |str b=>
   let(cs,h1,rfl):=de h;let(v,w,rfl,j,q):=r.inv;rw[dN j,Mx h1 q];rfl
  |_=>cases h
theorem Fy:∀{xs:List Str}{i:List Value},ap (xs.map V.str) i->StrsAre i xs
 |[],_,.nil=>.nil
 |x::xs,_,.cons r t=>by let(j,rfl):=r;show .cons _ _ (Fy t)
def QF:r6 X "str.join" (λx xs H Q=>∃(z:Str)(p:Addr)(ys:List Str),x=.str z/\xs=[.ref p]/\bY X.K H p (ys.map V.str)/\(ys.map (·.length)).sum+-ys*-z<=16777216/\Q (.str (Txt.join z ys)) H):=by intro ae s U H x vs v us Q I rx rv h;let(z,p,ys,rfl,rfl,hq,hz,q):=h;let(t,rfl):=rx;let(u,rfl,ru):=rv.one;cases ru;let(du,hV,pl,_):=I.list hq;show join_list pl.isList (by simpa using Fy hV) hz λt' k=>#[.str _,H,I.tok k,#[t',rfl],q]
def rY(f:EF)(a:AF):EF:=λY=>(f Y).bind λx=>(a x.2).bind λy=>match x.1.pv,y.1.map Lc.pv with
 |ZH z,[R ps]=>(f8 ps).bind λxs=>if (xs.map (·.length)).sum+-xs*-z<=100000 then !(Zp (ZH (Txt.join z xs)),y.2) else J
 |_,_=>J

open A in
def Zh(h:PE X (.Call (.Attribute o "join" apos) [e] [] cpos) (KZ X.K "str" (λx xs H Q=>∃(z:Str)(p:Addr)(ys:List Str),x=.str z/\xs=[.ref p]/\bY X.K H p (ys.map V.str)/\(ys.map (·.length)).sum+-ys*-z<=16777216/\Q (.str (Txt.join z ys)) H) (tP X.K f) (jR X.K a))):
 PE X (.Call (.Attribute o "join" apos) [e] [] cpos) (tP X.K (rY f a)):=PE.imp h λU H Q q=>by
 let(H0,Z0,Y,pd,r,Y',s,h,k):=q;let(x,h1,h2):=b_ h;let(y,h3,i):=b_ h2;show#[H0,Z0,Y,pd,x.1,x.2,s,h1,λv H1 D=>?_];split at i
 . rename_i z ps ez ep;let(xs,h5,j):=b_ i;split at j
   . cases j;let(_,N):=D.freeze.repH;rw[ez]at N;have:=dN N;subst this;show#[O,H0,Z0,x.2,pd,y.1,y.2,D.pop,h3,λvs H2 e2 s2=>?_];let(W,Z,hg,F,rl,ss):=s2.repl e2;rw[ep]at rl;let(w,rr,rfl,r1,r2):=rl.inv;have:=r2.inv0;subst this;let(b,ws,rfl,g1,g2):=r1;have:=Mx h5 g2;subst this;show#[z,b,xs,O,O,bY.same F.zh g1,(),k _ H2 (.mk W hg F (ss.consS (pq _)))]
   . cases j
 . cases i
noncomputable def Ui:PV->Option Lc
 |ZI i=>if i.natAbs.log2<1920 then !(Zp (ZH (toString i))) else J
 |_=>J
abbrev zC:List PV->Option Lc:=λps=>match ps with |[p]=>Ui p |_=>J
end
section
variable {prog:Program}{w:World}{A:Around}{E:Value->Shared->Prop}{s:Shared}
theorem Jb(D:t≠F):∀(n i:Nat)(s:Shared)(Q:List Value->Shared->Prop),s.heap.IsListIter F t i->s.heap.IsList t items->i+n<= ~~~items->
 (∀h',h'.IsListIter F t (i+n)->Heap.SameBut F s.heap h'->Q ((items.toList.drop i).take n) { s with heap:=h' })->wpAny (model prog w) A (draw (YV F) n) Q E s
 |0=>λi s Q j _ _ hQ=>bv (by simpa using hQ s.heap j (Heap.SameBut.refl ..))
 |n+1=>λi s Q j ht Rt hQ=>by
  have W:i< ~~~items:=()
  show al (wpAny_pyNext_list_item j ht (x:=items[i]) ∅ λh₁ z q=>?_);show al (kq (Jb D n (i+1) _ _ z (ht.extBut q.extBut D) () λh₂ hit₂ Us=>bv ?_));have hd:items.toList.drop i=items[i]::items.toList.drop (i+1):=by simp[oI,W]
  have:=hQ h₂ ∅ (q.trans Us);grind
def Dw(hh:A.handled=J)(F:s.heap.IsList t items)
 (hQ:∀h',Heap.ExtBut s.heap.objs.size s.heap h'->Q items.toList { s with heap:=h' }):wpAny (model prog w) A (unpackItems (YV t) items.size J) Q E s:=by
 have ip:t≠s.heap.objs.size:=by let(o,ho,_):=F;show eR (dq ho)
 show al ?_
 . show al (wpAny_specialOf F.typeIs slot_list_iter.lookup ?_);show bv ?_;show al (wpAny_holding (wpAny_pyIter_list F ?_));show al (wpAny_holding (Jb ip items.size 0 _ _ #[_,ff _ O,O,O] (by let(o,g1,g2):=F;show#[o,d5 _ g1,g2]) () λh₁ D EW=>?_));have hall:List.take items.size (List.drop 0 items.toList)=items.toList:=by rw[List.drop_zero];show rL (by simp)
   rw[hall];rw[bh (by simp)];show al (wpAny_holding (wpAny_pyNext_list_end hh D (Heap.IsList.extBut (by let(o,g1,g2):=F;show#[o,d5 _ g1,g2]) EW.extBut ip) (by simp) λh₂ Ut=>?_));simp only[Option.isSome_none,g7,if_false];show bv (hQ h₂ λb o hb e=>Ut b o hb (EW.extBut b o hb (d5 _ e)))
end
section
variable {X:Cx}{pos:Pos}
def EX(K:FG)(n:Nat)(t:yU):TG:=λv U H Q=>∃a xs,v=.ref a/\(cW K H a xs\/bY K H a xs)/\-xs=n/\t xs U H Q
def iW{k:Nat}(hc:X.calm=G)(h:TQ X es t)
 (N:-(assignEach es X.env)=n:=by rfl) (i:(assignEach es X.env).findIdx? (·.1)=J:=by rfl):PG X (.Tuple es k pos) (EX X.K n t):=by
 intro ae s U H v u Q I r q;let(a,xs,F,j,W,q):=q;obtain j|j:=j
 . show ML hc h N i ae s U H v u Q I r #[a,xs,F,j,W,q]
 . subst F;cases r;let(D,rv,ht,hz):=I.list j;show al (wpAny_standAt ?_);unfold unpack;have z:-(assignEach es X.env)= ~~~D.toArray:=by simp[N,<-W,rv.length]
   rw[z,i];show al (kq (Dw (I.ok.hd hc) ht.isList λh' hx=>?_));let I1:=I.kept (t':=s.toks) λb o e=>hx b o (eR (dq e)) e;show h ae _ U H xs _ Q I1 () q
noncomputable def fC (n:Nat) (bs:Mh):BF:=λp Y=>match p with
 |ZB ps=>if -ps=n then bs ps Y else J
 |R ps=>if -ps=n then bs ps Y else J
 |_=>J
def iY(h1:Zc K t bs):GS K (EX K n t) (fC n bs):=by
 intro H0 Z0 U H Y pd v p Y' Q s h k;cases p with
 |tup ps=>
  have h':(if -ps=n then bs ps Y else J)=!Y':=h;split at h'
  . rename_i N;let(e,Z,F,z,r,j):=s.sh;let(a,D,rfl,h2,q):=r;show#[a,D,O,Zl (cW.same z.zh h2),by rw[q.length];show N,h1 H0 Z0 U H Y pd D ps Y' Q (-q) (SR.items e F z q j) h' k]
  . cases h'
 |lst ps=>
  have h':(if -ps=n then bs ps Y else J)=!Y':=h;split at h'
  . rename_i N;let(e,Z,F,z,r,j):=s.sh;let(a,D,rfl,h2,q):=r;show#[a,D,O,YY (bY.same z.zh h2),by rw[q.length];show N,h1 H0 Z0 U H Y pd D ps Y' Q (-q) (SR.items e F z q j) h' k]
  . cases h'
 |_=>cases h
def UA(K:FG)(tl:TE):TI:=λU H ZI=>tl U H λx H1=>(∃a,x=.ref a/\(∃xs,bY K H1 a xs)/\ZI (YK K a) H1)\/(∃a,x=.ref a/\(∃xs,cW K H1 a xs)/\ZI (YL K a) H1)\/∃z,x=.str z/\ZI (yt z) H1
def UB(hl:PE X l tl):PI X tg l (UA X.K tl):=by
 intro ae s U H ZI I h;have at':∀(v:Value)(s1:Shared)(x:V)(H1:Hp),ai X ae U H1 s1->aI x v->((∃a,x=.ref a/\(∃xs,bY X.K H1 a xs)/\ZI (YK X.K a) H1)\/(∃a,x=.ref a/\(∃xs,cW X.K H1 a xs)/\ZI (YL X.K a) H1)\/∃z,x=.str z/\ZI (yt z) H1)->
  wpAny (model X.prog X.w) X.A (pyIter v) (vm X ae U tg ZI) X.xe s1:=λv s1 x H1 I1 r1 q=>by
  have fp:∀b,b∈[s1.heap.objs.size]->nJ X ae H1 b:=λb hb=>by
   have e:b= ~~~s1.heap.objs:=by simpa using hb
   subst e;show I1.fpOk (cK _) (I1.hok.fresh (cK _))
  obtain⟨a,rfl,⟨xs,hq⟩,q⟩|⟨a,rfl,⟨xs,hq⟩,q⟩|⟨z,rfl,q⟩:=q
  . cases r1;let(du,rv,p,hz):=I1.list hq;show wpAny_pyIter_list p.isList #[s1.heap.objs.size,[s1.heap.objs.size],_,_,H1,rfl,I1.kept (t':=s1.toks) λb o e=>d5 _ e,MQ a _,#[_,ff _ rfl,rfl,rfl],fp,q]
  . cases r1;let(du,rv,p,hz):=I1.tuple hq;show wpAny_pyIter_tuple p #[s1.heap.objs.size,[s1.heap.objs.size],_,_,H1,rfl,I1.kept (t':=s1.toks) λb o e=>d5 _ e,RC a _,#[_,ff _ rfl,rfl,rfl],fp,q]
  . let(t,rfl):=r1;have kp:∀(o:Obj),ai X ae U H1 { s1 with heap:=s1.heap.push o }:=λo=>I1.kept (t':=s1.toks) λb u e=>d5 _ e;have ob:∀{n:String}(i:Nat)(h:Heap),h.IsStrIter s1.heap.objs.size n z t i->∃o,h.get? s1.heap.objs.size=!o/\∀v,o.data≠.cell v:=λi h st=>by let(o,ho,_,hd):=st;show#[o,ho,λv e=>by rw[hd]at e;cases e]
    cases ha:z.cps.all (·<128)
    . show wpAny_pyIter_wide ha #[s1.heap.objs.size,[s1.heap.objs.size],_,yt z,H1,rfl,kp _,Mw _ z (λA' hA=>Walks.strWide hA _ z t) ob (λA i s Q E st h=>wpAny_pyIter_striter_wide st h),#[_,ff _ rfl,rfl,rfl],fp,q]
    . show wpAny_pyIter_ascii ha #[s1.heap.objs.size,[s1.heap.objs.size],_,yt z,H1,rfl,kp _,Mw _ z (λA' hA=>Walks.strAscii hA _ z t) ob (λA i s Q E st h=>wpAny_pyIter_striter_ascii st h),#[_,ff _ rfl,rfl,rfl],fp,q]
 show dg (hl ae s U H _ I h) λv s1 ⟨x,H1,I1,r1,q⟩=>at' v s1 x H1 I1 r1 q
def bJ:PV->Option (List PV)
 |R ps=>!ps
 |ZB ps=>!ps
 |ZH x=>!(i6 x)
 |_=>J
def cA(hl:PE X l (tP X.K f)):PI X tg l (Iz X.K (dh f bJ)):=PI.imp (UB hl) λU H ZI q=>by
 let(H0,Z0,Y,pd,xs,Y',s,h,k):=q;let(x,h1,h2):=b_ h;let(ys,h3,h4):=de h2;cases h4;show#[H0,Z0,Y,pd,x.1,x.2,s,h1,λv H1 s1=>?_];let s2:=s1.freeze;cases e:x.1.pv with
 |lst ps=>
  rw[e]at h3 s2;cases h3;let(Z,z,r):=s2.rep;let(b,vs,rfl,sT,wn):=r;show .inl #[b,rfl,#[vs,bY.same z sT],k _ _ _ s2 Va (f6 _ _)]
 |tup ps=>
  rw[e]at h3 s2;cases h3;let(Z,z,r):=s2.rep;let(b,vs,rfl,sT,wn):=r;show .inr (.inl #[b,rfl,#[vs,cW.same z sT],k _ _ _ s2 Xo (f6 _ _)])
 |str z=>
  rw[e]at h3 s2;cases h3;let(_,r):=s2.repH;show .inr (.inr #[z,dN r,k _ _ _ s2.pop Uf (rO _)])
 |_=>rw[e]at h3;cases h3
end
section
variable {P:Program}{w:World}{K:FG}{mg:Str->Option Value}{base:Heap}
def QG(mg:Str->Option Value)(L:List Str):Prop:=∀x∈L,mg x=J
def jY{st:Stmt}(F:cL K mg x st ps):bI P w K mg base x k ps (bW K (-ps) λ_ _=>J):=by
 let(f,fd,F,z,D):=F;have W:∀i H Q E,¬ bW K (-ps) (λ_ _=>J) i H Q E:=λi H Q E h=>by let(_,_,_,_,_,_,_,_,_,_,h,_):=h;cases h
 show#[f,fd,#[λi H Q E h=>absurd h ∅,λA j s H q N i Q E _ _ _ _ h=>absurd h ∅],z,F.kp,D]
def Kl(K:FG):Sp:=λvs H Q _=>∃(a:Addr)(ns:List Int),vs=[.ref a]/\bY K H a (ns.map V.int)/\ -ns<=63/\∀H',Q (.bl G) H'
def UC(F:oK P w K mg base qD k f fd ["_law_script"] (bW K 1 g))(h:∀ns:List Int,-ns<=63->∃j,g [R (ns.map PV.int)] []=!(Zp (.bl G),j)):oK P w K mg base qD k f fd ["_law_script"] (Kl K):=
 F.imp λvs H Q E q=>by
  let(a,ns,rfl,hs,z,k):=q;let(j,e):=h ns z;show#[#[H,[]],[R (ns.map PV.int)],[],_,j,O,O,eY_.refl _,aK.cons ?_ .nil,#[λe D=>(by cases D),rh],e,λv H' r=>?_]
  . show#[a,ns.map V.int,O,hs,?_];clear hs e z;induction ns with
    |nil=>show .nil
    |cons n r W=>show aK.cons (gF _) W
  . let(Z',_,_,s):=r;let(x,i,N):=s.1 _ cf;cases i;rw[ji N];grind
end
def aP:∀Y ls Y1,ao Y=!(ls,Y1)->-ls=0:=λY ls Y1 h=>by cases h;rfl
def aB(h:∀Y ls Y1,g Y=!(ls,Y1)->-ls=n):∀Y ls Y1,aj f g Y=!(ls,Y1)->-ls=n+1:=λY ls Y1 e=>by let(x,h1,h2):=b_ e;let(y,j,q):=de h2;cases q;rw[c5,h _ _ _ j]
def UD(S:Scope)(hS:X.env.scope=S)(D:sc.kind=.function)(z:∀y∈sc.names,y.2=.local->sc.names.lookup y.1=!.local)(cel:∀y∈sc.names,y.2=.cell->sc.names.lookup y.1=!.cell)
 (own:∀p∈sc.names,p.2=.free->S.names.lookup p.1=!.cell\/S.names.lookup p.1=!.free) (frs:∀x∈F,sc.names.lookup x=!.free) (Q:c6.map (λi=>X.N[i]?)=F.map some):jE X ZO F c6 sc:=by
 show#[D,z,cel,λp W e=>by rw[hS];show own p W e,frs,?_,λj i h=>?_]
 . have:=gT length Q;grind
 . have h2:(c6.map (λi=>X.N[i]?))[j]?=some X.N[i]?:=by rw[dS,h];rfl
   cases q:F[j]? with
   |none=>grind
   |some x=>grind
section
variable {P:Program}{w:World}{K:FG}{mg:Str->Option Value}{base:Heap}
def vD.okP{st:Stmt}(F:vD K x x st f fd)(S:bz N ps (aG st))
 (h:∀(j:Value)(A:Around)(i:List PySem.Env)(s:Shared)(H:Hp)(E:XK),qM k (A.deeper (envOfC x (aG st) s.heap.objs.size f j))->
   ∃g':SF,(∀a mu,g a mu=cY (-N) g' a mu)/\jP (Ww qD P w K mg base N x (aG st) f j A i s H E).nox (jC st) (iw K g')):oK P w K mg base qD (k+1) f fd ps (bW K (-ps) g):=by
 show F.ok S (λvs H Q E q=>?_) (λj A i s H vs Q E hr q=>?_)
 . let(Z,qs,mu,r,e7,e,_):=q;show e
 . let(g',eg,b):=h j A i s H E hr;let(Z,qs,mu,r,e7,e,hg,z,rl,c,mS,kk):=q;rw[eg]at mS;let(fl,h1,h2):=b_ mS;show#[_,b,my H (uP Z.g mu),Z,_,[],fl,Ds hg z rl c,h1,?_];cases fl with
   |rt r' Y'=>
    cases h2;intro v U' H' s';let(el,Z',D,z',W):=s'.top;show kk v H' #[Z',D,z',W.sub ?_];show(j2 _ _).cons_cons _
   |nx Y'=>
    cases h2;intro U' H' s';let(el,Z',D,z',W):=s';show kk .non H' #[Z',D,z',(W.sub (j2 _ _)).consS (Bq _)]
   |bk Y'=>cases h2
   |ct Y'=>cases h2
end
section
variable {X:Cx}
def UE:PV->Option PV
 |ZI i=>!(ZI ((Neg.neg i)))
 |_=>J
def jq(f:EF):EF:=λY=>(f Y).bind λx=>(UE x.1.pv).map λp=>(Zp p,x.2)
def v7(F:PE X a (tP X.K f)):PE X (.UnaryOp .USub a pos) (tP X.K (jq f)):=PE.imp (M_ Nm F) λU H Q q=>by
 let(H0,Z0,Y,pd,r,Y',s,h,k):=q;let(x,h1,h2):=b_ h;let(p,j,N):=de h2;cases N;show#[H0,Z0,Y,pd,x.1,x.2,s,h1,λv H1 D=>?_];let(_,z):=D.freeze.repH;cases e:x.1.pv with
 |int i=>
  rw[e]at j z;cases j;show#[i,cF z,k _ H1 (D.pop.scal gF)]
 |_=>rw[e]at j;cases j
end
def dI(h:0<b):aZ (ZI a) (ZI b)=!(Zp (ZI (a%b))):=by show (if decide (0<b)=G then _ else _)=_;grind
def gU(h:0<b)(h2:b<1073741824):bO (ZI a) (ZI b)=!(Zp (ZI (a/b))):=by show (if decide (0<b/\b<1073741824)=G then _ else _)=_;grind
def Mz(h:-18446744073709551616<a)(h2:a<18446744073709551616):gM (ZI a) (ZI b)=!(Zp (ZI (a*b))):=by show (if decide (((Neg.neg (2 ^ 64))<a/\a<2 ^ 64)\/((Neg.neg (2 ^ 64))<b/\b<2 ^ 64))=G then _ else _)=_;grind
def wL(h:-18446744073709551616<b)(h2:b<18446744073709551616):gM (ZI a) (ZI b)=!(Zp (ZI (a*b))):=by show (if decide (((Neg.neg (2 ^ 64))<a/\a<2 ^ 64)\/((Neg.neg (2 ^ 64))<b/\b<2 ^ 64))=G then _ else _)=_;grind
def bC(h1:fa Y=!(x,Y1))(h2:fb Y1=!(y,Y2))(j:g x.pv y.pv=!l):au g fa fb Y=!(l,Y2):=by unfold au;grind
def uT(j:0<=i)(h1:i< -l):∃x,fO l i=!x/\l[i.toNat]?=!x:=by
 unfold fO uL;grind
def wM{lo:Int}:-(jo lo n)=n:=by simp[jo]
def G7(h:f Y=!(.nx Y')):aF f g Y=g Y':=by unfold aF;rw[h,cr]
def G8(h:f Y=!(.rt r Y')):aF f g Y=!(.rt r Y'):=by unfold aF;rw[h,cr]
def UF(h:f Y=!(l,Y1))(hi:i< -Y1.vs):aL i f Y=!(.nx (Y1.set i (!l))):=by unfold aL;grind
def lR(h:c Y=!(G,Y1)):cC c f g Y=f Y1:=by unfold cC;grind
def lU(h:c Y=!(M,Y1)):cC c f g Y=g Y1:=by unfold cC;grind
def EZ(h:f Y=!(l,Y1)):cI f Y=!(.rt l Y1):=by unfold cI;grind
def E7(h:f Y=!(xs,Y1)):fX f b body Y=eN b body xs Y1:=by unfold fX;grind
def aO(h:g (env0 n ps mu)=!(.rt r Y)):cY n g ps mu=!(r,Y.mu):=by unfold cY;rw[h,cr]
def UH(h:g (env0 n ps mu)=!(.nx Y)):cY n g ps mu=!(.sh .non,Y.mu):=by unfold cY;rw[h,cr]
def Xy(h:a Y=!(ls,Y1))(h2:g (ls.map Lc.pv) Y1.mu=!(r,mu)):aN g a Y=!(r,#[Y1.vs,mu]):=by unfold aN;grind
def Xz(h:f Y=!(l,Y1))(h2:a Y1=!(ls,Y2)):aj f a Y=!(l::ls,Y2):=by unfold aj;grind
def E8(h:a Y=!(ls,Y1))(h2:g (ls.map Lc.pv)=!r):eB g a Y=!(r,Y1):=by unfold eB;grind
def eF(h:f Y=!(xs,Y1))(h2:dF b tc te xs (nT m c6 (ie c6 Y1)) []=!(ys,mu)):bU f m c6 b tc te Y=!(Zs (R ys),#[(ie c6 Y1).vs,mu]):=by unfold bU;grind
def dC(h:f Y=!(l,Y1))(h2:g l.pv=!xs):dh f g Y=!(xs,Y1):=by unfold dh;grind
def mY(h:a Y=!([l],Y1))(i:l.pv=ZI n)(h1:-4611686018427387904<=n)(h2:n<4611686018427387904):iK a Y=!(jo 0 n.toNat,Y1):=by unfold iK;rw[h,cr];grind
def UI(h:f Y.peek=!(l,Y1))(j:Sy l=G):vL f Y=!(l,Y):=by unfold vL;grind
def jU(h:f Y=!(l,Y1))(h2:tr l.pv=!b):tT f tr Y=!(b,Y1):=by unfold tT;grind
def XC(h:f Y=!(l,Y1))(h2:a Y1=!([m],Y2))(i:l.pv=ZH z)(j:m.pv=R ps)(q:f8 ps=!xs)(hs:(xs.map (·.length)).sum+-xs*-z<=100000):rY f a Y=!(Zp (ZH (Txt.join z xs)),Y2):=by unfold rY;grind
section
variable {f g:SF}{Y Y1 Y2 Y':Ev}{ZI:Option Fl}{l m r:Lc}{fa fb fc:EF}{c d:TF}{a:AF}{b:Bool}
def aH(h:f Y=!(.nx Y'))(h2:g Y'=ZN):aF f g Y=ZN:=(G7 h).trans h2
def bu(h:fa Y=!(l,Y1))(hi:Nat.blt i (-Y1.vs)=G)(e:Y1.set i (!l)=Y'):aL i fa Y=!(.nx Y'):=by rw[UF h ∅,e]
def cT(h:fa Y=!(l,Y1)):cI fa Y=!(.rt l Y1):=EZ h
def dj(h1:fa Y=!(l,Y1))(z:l.pv=p)(h2:fb Y1=!(m,Y2))(j:m.pv=q)(D:o p q=!r):au o fa fb Y=!(r,Y2):=bC h1 h2 ∅
def aR(h:a Y=!(ls,Y1))(q:ls.map Lc.pv=ps)(z:Y1.vs=v)(j:Y1.mu=fN)(h2:ZT ps fN=!(r,mu)):aN ZT a Y=!(r,#[v,mu]):=by subst q z j;show Xy h h2
def jN(h:a Y=!(ls,Y1))(j:ls.map Lc.pv=ps)(h2:ZT ps=!r):eB ZT a Y=!(r,Y1):=by subst j;show E8 h h2
def aA(h:fa Y=!(l,Y1))(h2:a Y1=!(ls,Y2)):aj fa a Y=!(l::ls,Y2):=Xz h h2
def Bv(h:fa Y=!(l,Y1))(j:l.pv=p)(h2:tr p=!b):tT fa tr Y=!(b,Y1):=by subst j;show jU h h2
def Vi(h:c Y=!(b,Y1)):Br c Y=!(not b,Y1):=by unfold Br;grind
def nU(h:c Y=!(b,Y1))(h2:d Y1=!(b2,Y1)):eE c d Y=!(b&&b2,Y1):=by
 unfold eE;rw[h,cr];cases b with
 |true=>grind
 |false=>rfl
def UM(h:c Y=!(b,Y1))(h2:b=G->d Y1=!(b2,Y1)):eE c d Y=!(b&&b2,Y1):=by
 unfold eE;rw[h,cr];cases b with
 |true=>grind
 |false=>rfl
def rZ(h:c Y=!(b,Y1))(h2:d Y1=!(b2,Y1)):tO c d Y=!(b||b2,Y1):=by
 unfold tO;rw[h,cr];cases b with
 |true=>rfl
 |false=>grind
def UN(h:c Y=!(b,Y1))(h2:b=M->d Y1=!(b2,Y1)):tO c d Y=!(b||b2,Y1):=by
 unfold tO;rw[h,cr];cases b with
 |true=>rfl
 |false=>grind
def pQ(h:a Y=!(ls,Y1))(i:Nat.ble (-ls) 1000=G)(j:ls.map Lc.pv=ps):cu a Y=!(Zs (R ps),Y1):=by unfold cu;grind
def dm(h:a Y=!(ls,Y1))(i:Nat.ble (-ls) 1000=G)(j:ls.map Lc.pv=ps):aX a Y=!(Zp (ZB ps),Y1):=by unfold aX;grind
def dG(h1:fa Y=!(l,Y1))(z:l.pv=p)(h2:fb Y1=!(m,Y2))(j:m.pv=q)(D:∀n,p≠ZA n)(F:qG p q=!r):aJ fa fb Y=!(r,Y2):=by
 subst z j;unfold aJ;rw[h1,cr,h2,cr];split
 . grind
 . grind
def Vj(h1:fa Y=!(l,Y1))(hx:l.pv=.ptr n)(h2:fb Y1=!(m,Y2))(hy:m.pv=.int k)(hm:Y2.mu[n]?=!(!(.lst ws)))(h3:fO ws k=!p):aJ fa fb Y=!(.sh p,Y2):=by unfold aJ;grind
def pR(h0:Y.vs[i]?=!(!(.own (.lst ws0))))(h:fa Y=!(l,Y1))(hp:l.pv=p)(h1:Y1.vs[i]?=!(!(.own (.lst ws))))(hz:-ws<100000)(e:Y1.set i (!(.own (.lst (ws++[p]))))=Y'):jM i fa Y=!(.nx Y'):=by subst hp;unfold jM;grind
def jZ(h0:Y.vs[i]?=!(!(.own (.lst ws0))))(h:fa Y=!(l,Y1))(hp:l.pv=.lst ps)(h1:Y1.vs[i]?=!(!(.own (.lst ws))))(hz:-ws+-ps<=100000)(e:Y1.set i (!(.own (.lst (ws++ps))))=Y'):gb i fa Y=!(.nx Y'):=by unfold gb;grind
def UO(h:fv Y=!(x,Y1))(UP:x.pv=p)(h0:Y1.vs[i]?=!(!(.own (.lst ws0))))(h2:fi Y1=!(y,Y2))(hy:y.pv=.int k)(h1:Y2.vs[i]?=!(!(.own (.lst ws))))(hj:uL (-ws) k=!j)(e:Y2.set i (!(.own (.lst (ws.set j p))))=Y'):Bu i fi fv Y=!(.nx Y'):=by subst UP;unfold Bu;grind
def eO(h:F Y=!(xs,Y1))(h2:eN B body xs Y1=ZN):fX F B body Y=ZN:=(E7 h).trans h2
def UQ(hx:x=.int p)(hy:y=.int q)(h:0<q):aZ x y=!(.sh (.int (p%q))):=by subst hx hy;show dI h
def M7(hx:x=.int p)(hy:y=.int q)(h:0<q)(h2:q<1073741824):bO x y=!(.sh (.int (p/q))):=by subst hx hy;show gU h h2
def UR(hx:x=.int p)(hy:y=.int q)(h:-18446744073709551616<p)(h2:p<18446744073709551616):gM x y=!(.sh (.int (p*q))):=by subst hx hy;show Mz h h2
def US(hx:x=.int p)(hy:y=.int q)(h:-18446744073709551616<q)(h2:q<18446744073709551616):gM x y=!(.sh (.int (p*q))):=by subst hx hy;show wL h h2
end
section
variable {X:Cx}
noncomputable def oh (f:EF):EF:=λY=>(f Y).bind λx=>match x.1 with
 |Zs p=>!(Zp (ZA (-x.2.mu)),#[x.2.vs,x.2.mu++[!p]])
 |_=>J
def Fz(h:PE X e (tP X.K f)):PE X e (tP X.K (oh f)):=PE.imp h λU H Q q=>by
 let(H0,Z0,Y,pd,l,Y',s,f,k):=q;let(x,h1,h2):=b_ f;show#[H0,Z0,Y,pd,x.1,x.2,s,h1,λv H1 N=>?_];split at h2
 . rename_i p ep;cases h2;rw[ep]at N;let(W,Z,hg,z,j):=N.top;let(a,ea,ra,za,ET):=j.1 _ cf;let i:=fw ea;subst i;have F:iu Z #[Z.z,Z.g++[a]]:=#[eY_.refl _,va _ _];let D:=j.step F λe he b hb=>#[O,(jn j he hb).1];show k _ H1 (.mk (Z:=#[Z.z,Z.g++[a]]) W ∅ #[z.zh,z.h0,z.z0.trans F,z.new] (ag.consS ?_ ?_))
   . show D.perm ?_;have ec:cel (Z.g++[a]) (x.2.mu++[!p])=cel Z.g x.2.mu++[(!(.ref a),!(Zs p))]:=by unfold cel;rw[d0,d0,md ∅];rfl
     show Perm (cel (Z.g++[a]) (x.2.mu++[!p])++_) _;rw[ec,d6];show gI
   . show#[a,O,by show (Z.g++[a])[-x.2.mu]?=!a;rw[hg,hZ ()];simp]
 . cases h2
noncomputable def openV (i:Nat) (Y:Ev):Option Ev:=match Y.vs[i]? with
 |some (!(Zp (ZA n)))=>match Y.mu[n]? with
  |some (!p)=>!#[Y.vs.set i (!(Zs p)),Y.mu.set n J]
  |_=>J
 |_=>J
def Bw(i:Nat)(f:SF):SF:=λY=>(f Y).bind λfl=>match fl with
 |.nx Y'=>(openV i Y').map .nx
 |_=>J

open A in
theorem SR.openV(s:SR K H0 Z0 U H Y pd)(h:PL.openV i Y=!Y'):SR K H0 Z0 U H Y' pd:=by
 unfold PL.openV at h;split at h
 . rename_i n en;split at h
   . rename_i p W;let(v,D,N):=s.var en;let(a,rfl,z):=N.cellO W;let F:=SR.sub z ((f6 _ _).cons_cons _);let hi:=(eM.mp en).1;let j:=F.store (by show i< -(Y.vs.set i _);rw[u8];show hi);rw[lm D]at j
     have q:SR K H0 Z0 U H #[(Y.vs.set i (!(Zp (ZA n)))).set i (!(Zs p)),Y.mu.set n J] pd:=j;grind
   . cases h
 . cases h
def QJ{st:Stmt}(h:PS X st (iw X.K f)):PS X st (iw X.K (Bw i f)):=PS.imp h λD U H q=>by
 let(H0,Z0,Y,pd,fl,s,h,k):=q;let(y,h1,h2):=b_ h;cases y with
 |nx Y'=>
  let(Y2,z,rfl):=de h2;show#[H0,Z0,Y,pd,.nx Y',s,h1,λj H' s'=>k j H' (s'.openV z)]
 |rt r Y'=>cases h2
 |bk Y'=>cases h2
 |ct Y'=>cases h2
def mF(f:EF)(lo hi:OF):EF:=λY=>(f Y).bind λx=>(lo x.2).bind λy=>(hi y.2).bind λz=>match x.1.pv with
 |R ps=>!(Zs (R (rm ps y.1 z.1)),z.2)
 |ZH t=>if -t<=100000 then !(Zp (ZH (lY t y.1 z.1)),z.2) else J
 |_=>J
def rB{lo hi:Option Expr}(he:PE X e (tP X.K f))(hl:PO X lo (Fw X.K fl))(hu:PO X hi (Fw X.K fh)):PE X (.Subscript e (.Slice lo hi J p2) pos) (tP X.K (mF f fl fh)):=PE.imp (KR (Z6.or OV) he hl hu) λU H Q q=>by
 let(H0,Z0,Y,pd,r,Y',s,h,k):=q;let(x,h1,h2):=b_ h;let(y,h3,h4):=b_ h2;let(z,h5,D):=b_ h4;show#[H0,Z0,Y,pd,x.1,x.2,s,h1,λv H1 s1=>#[H0,Z0,x.2,_,y.1,y.2,s1.freeze,h3,λH2 s2=>#[H0,Z0,y.2,_,z.1,z.2,s2,h5,λH3 i=>?_]]];cases e:x.1.pv with
 |lst ps=>
  rw[e]at D i;cases D;let(W,Z,hg,N,F,s4):=i.sh;let(a,vs,rfl,g1,g2):=F;show Zl #[a,vs,O,bY.same N.zh g1,λp hp=>k _ _ ?_];let(z',s'):=s4.new (p:=R (rm ps y.1 z.1)) N hp #[_,bZ,g2.cut];show .mk W hg z' s'
 |str t=>
  rw[e]at D i;have j:(if -t<=100000 then !(Lc.sh (ZH (lY t y.1 z.1)),z.2) else J)=!(r,Y'):=D;split at j
  . rename_i hz;cases j;let(_,F):=i.repH;show YY #[t,F,fz hz,k _ H3 (i.pop.scal pq)]
  . grind
 |_=>grind
def SR.popO(s:SR K H0 Z0 U H Y ((.ref a,Zs (R ws))::pd))(hp:ws[-ws-1]?=!p):
 ∃i y,H a=!(.lst i)/\i[-i-1]?=!y/\SR K H0 Z0 U (bp H a (.lst i.dropLast)) Y ((.ref a,Zs (R ws.dropLast))::(y,Zp p)::pd):=by
 let(N,Z,hg,z,F):=s.top;let(b,eb,(i,hu,j),_):=F.1 _ cf;cases eb;let(y,hy,Q):=j.get hp;let D:=-j;show#[i,y,hu,by rw[D];show hy,?_];have W:aK K Z ws.dropLast i.dropLast:=by rw[dropLast_eq_take,dropLast_eq_take,D];show j.take _
 let(z',s'):=F.write (q:=R ws.dropLast) z #[i.dropLast,bZ,W];let s2:=(s'.consS Q).perm (gu (!y,!(Lc.sh p)) (!(V.ref a),!(Lc.own (R ws.dropLast))) _);show .mk N hg z' (s2.perm (dD.cons _))
def QK(K:FG):V->List V->Hp->VK->Prop:=λx vs H Q=>∃g p qs w,vs=[w]/\b9 K #[H,g] p w/\b9 K #[H,g] (R qs) x/\tR (dH 150) p qs=!G/\-qs<=100000/\Q (.int (qs.findIdx λq=>(dH 150 q p).getD M)) H
def XF(hr:qM k X.A):PP X "list.index" (QK X.K):=by
 intro ae s U H x W v us Q I rx rv h;let(g,p,D,w,rfl,rp,rq,e,hz,q):=h;have hA:X.A.in1.units+150<cLine:=by have:=hr.un;show X.A.units+1+150<cLine;lia
 let(u,rfl,ru):=rv.one;let(i1,i2):=G6 e;let(a,W,i,rfl,q1,l1,j,t1):=Ag I rq rx;have hl:-i=-D:=by rw[<-(-j),l1.length]
 let zr:=any_eq_true.mp i2.symm;let hj:=findIdx_lt_length.mpr zr;have z:∀m (N:m< ~~~i.toArray),eP X.K #[H,g] p D W i i.toArray[m]=(dH 150 (D[m]'(by rw[gx]at N;lia)) p).getD M:=λm N=>by
  have hm':m< -i:=by simpa using N
  show Du (xv:=w) (xu:=u) I l1 j i1 (gg ()) (by simp)
 let((oc,od,oD,os),ht,hc,n,hd):=t1;let nB:= hc;let UU:=hd;subst nB UU;show call_meets F.slot_list_index #[_,ht,O] F.entry_list_index (F.args_list_index_2 _ _) (SeqAt.list_indexAt a i.toArray n od os u (eP X.K #[H,g] p D W i) (D.findIdx λq=>(dH 150 q p).getD M) ∅ () ?_ ?_) #[ht,Dv I rp ru l1 j i1 hA,?_]
 . rw[z];show findIdx_getElem (w:=hj)
 . intro m N ip;rw[z];have:=not_of_lt_findIdx ip;simpa using this
 . show#[.int _,H,I.tok _,#[_,O],q]
def MF(f g:EF):EF:=λY=>(f Y).bind λx=>(g x.2).bind λy=>match x.1.pv with
 |R qs=>if tR (dH 150) y.1.pv qs=!G/\-qs<=100000 then !(Zp (ZI (qs.findIdx λq=>(dH 150 q y.1.pv).getD M)),y.2) else J
 |_=>J
def UX(h:PE X (.Call (.Attribute o "index" apos) [e] [] cpos) (KZ X.K "list" (QK X.K) (tP X.K f) (jR X.K (aj g ao)))):PE X (.Call (.Attribute o "index" apos) [e] [] cpos) (tP X.K (MF f g)):=PE.imp h λU H Q q=>by
 let(H0,Z0,Y,pd,r,Y',s,h,k):=q;let(x,h1,h2):=b_ h;let(y,h3,D):=b_ h2;show#[H0,Z0,Y,pd,x.1,x.2,s,h1,λv H1 s1=>?_];let j:=s1.freeze;cases e:x.1.pv with
 |lst z=>
  rw[e]at D j;have i:(if tR (dH 150) y.1.pv z=!G/\-z<=100000 then !(Lc.sh (ZI (z.findIdx λq=>(dH 150 q y.1.pv).getD M)),y.2) else J)=!(r,Y'):=D;split at i
  . rename_i N;cases i;let(_,r1):=j.repH;let F:=r1;let(a,us,rfl,hq,_):=F;show#[Zl #[O,us,hq],H0,Z0,x.2,_,[y.1],y.2,j,?_,λvs H2 e2 s2=>?_]
    . unfold aj ao;grind
    . let(w,rfl):=yZ e2;let W:=SR.freeze s2;let(g,ra,rb):=W.rep2H;show#[g,y.1.pv,z,w,O,rb,ra,N.1,N.2,k _ H2 (W.pop.pop.scal gF)]
  . cases i
 |_=>grind
def ue(ps:List PV):List PV:=ps.zipIdx.map λx=>ZB [ZI (x.2:Nat),x.1]
def Vl{i:Nat}:(ue ps)[i]?=ps[i]?.map λp=>.tup [.int (i:Nat),p]:=by unfold ue;rw[dS,getElem?_zipIdx];cases ps[i]?<;>simp
def Vm:-(ue ps)=-ps:=by unfold ue;simp
def Vn:qX K H0 Z0 ((.ref a,Zp (R ps))::pd) (yT K a) (ue ps):=by intro U H Y i s;let(W,Z,hg,z,r,so):=s.sh;let r0:=r;let(b,j,e,h1,h2):=r;cases e;let D:=bY.same z.zh h1;show#[λx F=>?_,λhl=>#[j,D,by rw[h2.length];rw[Vm]at hl;lia]];rw[Vl]at F;let(p,hp,rfl):=de F;let(v,Q,rv):=h2.get hp;show#[#[j,v,D,Q],λv' H' y=>?_];let(T,y,hT,rfl,rfl,hy):=y;let N:=hy j D;rw[Q]at N;cases N;let(z',lz,q):=(so.consS r0).newF z hT;show .mk (Z:=Z.put T (.tup [.int (i:Nat),v])) W hg z' (ag.perm (ag.consS q ?_) (dD.cons _));show#[T,[.int (i:Nat),v],O,Zl (Zl (by show bp Z.z T _ T=_;rw[bZ])),aK.cons (gF _) (aK.cons (rv.mono lz) .nil)]
def uU(f:EF):IF:=λY=>(f Y).bind λx=>match x.1.pv with
 |R ps=>!(ue ps,x.2)
 |_=>J
def Bx{gE:List Expr}{x1}(hg:Gl X "enumerate")(hm:X.mg "enumerate"=J)(W:PA X [a] (jR X.K (aj f ao)))(hs:starEach [a] X.env=[(M,eval a X.env)]:=by rfl):PI X (.Tuple gE x1 tpos) (.Call (.Name "enumerate" p) [a] [] pos) (Iz X.K (uU f)):=PI.imp (OX hg hm W hs) λU H ZN q=>by
 let(H0,Z0,Y,pd,xs,Y',s,h,k):=q;let(x,h1,h2):=b_ h;show#[H0,Z0,Y,pd,[x.1],x.2,s,?_,λvs H1 F N=>?_]
 . unfold aj ao;grind
 . let(v,rfl):=yZ F;let i:=SR.freeze N;cases e:x.1.pv with
   |lst ps=>
    rw[e]at h2 i;cases h2;let(Z,z,r):=i.rep;let(b,Q,rfl,j,D):=r;show#[b,O,#[Q,bY.same z j],k _ _ _ i Vn (f6 _ _)]
   |_=>grind
abbrev PD:=List (d_×PV)
noncomputable def iG:PD->d_->Option PV
 |[],_=>J
 |kv::r,k=>if kv.1=k then !kv.2 else iG r k
noncomputable def vN (k:d_) (v:PV):PD->PD
 |[]=>[]
 |kv::r=>(if kv.1=k then (kv.1,v) else kv)::vN k v r
def uV(l:PD)(k:d_)(v:PV):PD:=match iG l k with
 |some _=>vN k v l
 |none=>l++[(k,v)]
def MJ:PV->Option d_
 |ZI i=>!(.inl i)
 |ZH x=>!(.inr x)
 |_=>J
def nG(l:PD):PV:=.dk (l.map (·.1)) (l.map (·.2))
def jA(K:FG)(Z:ZG):PD->List (d_×V)->Prop:=Paired λp q=>p.1=q.1/\b9 K Z p.2 q.2
section
variable {K:FG}{Z Z':ZG}
theorem uB:∀{i:List (d_×V)}{ks:List d_}{ps:List PV},i.map (·.1)=ks->aK K Z ps (i.map (·.2))->jA K Z (ks.zip ps) i
 |[],ks,ps=>λh1 h2=>by subst h1;show .nil
 |F::r,ks,ps=>λh1 h2=>by
  subst h1;cases ps with
  |nil=>have:=h2.inv0;grind
  |cons p ps=>
   let(v,N,e,j,z):=h2.inv;injection e with D q;subst D q;show .cons #[O,j] (uB O z)
theorem jA.keys:∀{l:PD}{i:List (d_×V)},jA K Z l i->i.map (·.1)=l.map (·.1)
 |_,_,.nil=>rfl
 |_,_,.cons h t=>by rw[fr,fr,h.1,jA.keys t]
theorem jA.vals:∀{l:PD}{i:List (d_×V)},jA K Z l i->aK K Z (l.map (·.2)) (i.map (·.2))
 |_,_,.nil=>.nil
 |_,_,.cons h t=>aK.cons h.2 (jA.vals t)
theorem jA.val:∀{l:PD}{i:List (d_×V)},jA K Z l i->(∀p,iG l k=!p->∃v,qP i k=!v/\b9 K Z p v)/\(iG l k=J->qP i k=J)
 |_,_,.nil=>#[λp h=>(by cases h),λ_=>O]
 |p::l,q::i,.cons h t=>by
  let D:=jA.val (k:=k) t;by_cases e:p.1=k
  . have j:q.1=k:=by rw[<-h.1];show e
    show#[λx z=>#[q.2,xW j,?_],λz=>?_]
    . unfold iG at z;grind
    . unfold iG at z;grind
  . have j:¬ q.1=k:=by rw[<-h.1];show e
    rw[xX j];unfold iG;grind
theorem jA.repl(r:b9 K Z p v):∀{l:PD}{i:List (d_×V)},jA K Z l i->jA K Z (vN k p l) (i.map λj=>if j.1=k then (j.1,v) else j)
 |_,_,.nil=>.nil
 |a::l,b::i,.cons h t=>by
  show .cons ?_ (jA.repl r t);by_cases e:a.1=k
  . have q:b.1=k:=by rw[<-h.1];show e
    grind
  . have q:¬ b.1=k:=by rw[<-h.1];show e
    grind
theorem jA.app:∀{l q:PD}{j i:List (d_×V)},jA K Z l j->jA K Z q i->jA K Z (l++q) (j++i)
 |_,_,_,_,.nil=>λh=>h
 |_,_,_,_,.cons a t=>λh=>.cons a (jA.app t h)
def jA.put(h:jA K Z l a_)(r:b9 K Z p v):jA K Z (uV l k p) (fm a_ k v):=by
 let z:=h.val (k:=k);unfold uV;cases e:iG l k with
 |none=>
  rw[WF v (z.2 e)];show h.app (.cons #[O,r] .nil)
 |some q=>
  let(u,F,_):=z.1 q e;have D:fm a_ k v=a_.map λj=>if j.1=k then (j.1,v) else j:=by unfold fm;rw[xY,F];rfl
  rw[D];show h.repl r
def G9(h:MJ p=!k)(r:b9 K Z p v):v=kV k:=by
 cases p with
 |int i=>cases h;show cF r
 |str x=>cases h;show dN r
 |_=>cases h
end
def zD(fa fb:EF):EF:=λY=>(fa Y).bind λx=>(fb x.2).bind λy=>match x.1.pv with
 |.dk ks ps=>(MJ y.1.pv).bind λk=>(iG (ks.zip ps) k).map λp=>(Zp p,y.2)
 |.df ks ps=>(MJ y.1.pv).bind λk=>(iG (ks.zip ps) k).map λp=>(Zp p,y.2)
 |_=>aJ (λ_=>!x) (λ_=>!y) Y

open A in
def UY(hy:y.2=Y)(s3:SR X.K H0 Z0 U H Y ((w,.sh y.1.pv)::(v,.sh x.1.pv)::pd))(h:aJ (λ_=>!x) (λ_=>!y) Y0=!(l,Y'))(k:∀u H',SR X.K H0 Z0 U H' Y' ((u,l)::pd)->Q u H'):x_ X.K v w H Q:=by
 unfold aJ at h;rw[cr,cr]at h;subst hy;split at h
 . rename_i n kk en ek;split at h
   . rename_i ws em;let(p,h5,h6):=de h;cases h6;rw[en,ek]at s3;let(_,nV):=s3.repH;let ew:=cF nV;let(a,rfl,s5):=s3.pop.cellO em;let(el,Z,hg,z,so):=s5.top;let(_,ea,(us,hu,hr),_):=so.1 _ cf;cases ea;let(j,e1,e2):=Bt h5 (-hr);let(u,e3,e4):=hr.get e1;show .inl #[a,us,kk,u,rfl,ew,bY.of hu,e2 u e3,k u H ?_];have s6:SR X.K H0 Z0 U H #[y.2.vs,y.2.mu.set n none] ((u,.sh p)::(.ref a,.own (.lst ws))::(.ref a,.sh (.ptr n))::pd):=.mk el hg z ((so.perm dD).consS e4);let s7:=s6.perm (((List.Perm.swap _ _ _).cons _).trans (List.Perm.swap _ _ _));let s8:=s7.cellP (by show (y.2.mu.set n none)[n]?=_;rw[kt ((eM.mp em).1)]);have e8:(y.2.mu.set n none).set n (!(.lst ws))=y.2.mu:=by rw[oQ];show lm em
     let s9:=s8;rw[e8]at s9;show s9
   . cases h
 . let(l',h5,h6):=de h;cases h6;show Ve H0 Z0 U y.2 pd H v w x.1.pv y.1.pv _ Q s3 h5 k

open A in
def UZ(hu:X.A.units+1<cLine)(ha:PE X a (tP X.K fa))(hb:PE X b (tP X.K fb))(hm:Bh b):PE X (.Subscript a b pos) (tP X.K (zD fa fb)):=PE.imp (RX (Ub.or (O0 hu)) ha hb hm) λU H Q q=>by
 let(H0,Z0,Y,pd,l,Y',s,f,k):=q;let(x,h1,h2):=b_ f;let(y,h3,h4):=b_ h2;show#[H0,Z0,Y,pd,x.1,x.2,s,h1,λv H1 s1=>#[H0,Z0,x.2,_,y.1,y.2,s1,h3,λw H2 s2=>?_]];let s3:=s2.freeze.swap.freeze.swap;split at h4
 . rename_i ks ps en;let(kk,h5,h6):=b_ h4;let(p,h7,h8):=de h6;cases h8;let(_,F):=s3.repH;let ew:=G9 h5 F;let i:=s3.pop;rw[en]at i;let(Z,z,r):=i.rep;let(b',D,rfl,g1,g2,g3):=r;let(u,N,ru):=(uB g2 g3).val.1 p h7;let e1:=z _ _ g1;show YY #[b',u,O,Zl #[D,kk,Zl e1,ew,N.symm],k u H2 ?_];show(i.part λZ' z' r'=>?_).sub ((f6 _ _).cons_cons _);let(b2,kvs2,eb,j,W,z_):=r';cases eb;let e2:=z' _ _ j;let(u2,Vk,Vr):=(uB W z_).val.1 p h7;grind
 . rename_i ks ps en;let(kk,h5,h6):=b_ h4;let(p,h7,h8):=de h6;cases h8;let(_,F):=s3.repH;let ew:=G9 h5 F;let i:=s3.pop;rw[en]at i;let(Z,z,r):=i.rep;let(b',ob,D,rfl,g1,g2,g3):=r;let(u,N,ru):=(uB g2 g3).val.1 p h7;let e1:=z _ _ g1;show YY #[b',u,O,Zl #[D,kk,YY #[ob,e1],ew,N.symm],k u H2 ?_];show(i.part λZ' z' r'=>?_).sub ((f6 _ _).cons_cons _);let(b2,ob2,kvs2,eb,j,W,z_):=r';cases eb;let e2:=z' _ _ j;rw[e1]at e2;let(u2,Vk,Vr):=(uB W z_).val.1 p h7;grind
 . show Zl (UY O s3 h4 k)
def SR.takeD(s:SR K H0 Z0 U H Y pd)(e:Y.vs[i]?=!(!(Zs (.dk ks ps)))):
 ∃a,U[i]?=!(!(.ref a))/\SR K H0 Z0 U H (Y.set i J) ((.ref a,Zs (.dk ks ps))::pd):=by
 let(v,D,q):=s.take e;let(_,Z,_,z,j):=q.top;let(a,F,_):=j.1 _ cf;grind
def SR.setD(s:SR K H0 Z0 U H Y ((v,Zp p)::(.ref a,Zs (.dk ks ps))::pd)):
 ∃i,H a=!(.dK i)/\-i=-ks/\SR K H0 Z0 U (bp H a (.dK (fm i k v))) Y ((.ref a,Zs (nG (uV (ks.zip ps) k p)))::pd):=by
 let(D,Z,N,z,r,F):=s.sh;let j:=F.perm dD.symm;let(_,eb,(i,hu,hk,W),_):=j.1 _ cf;cases eb;show#[i,hu,by rw[<-hk,ck],?_];let d:=(uB hk W).put (k:=k) r;let(Q,s'):=j.write (q:=nG (uV (ks.zip ps) k p)) z #[fm i k v,bZ,d.keys,d.vals];show .mk D N Q s'
def FJ(i:Nat)(fi fv:EF):SF:=λY=>(fv Y).bind λx=>match x.2.vs[i]? with
 |some (!(Zs (.dk _ _)))=>(fi x.2).bind λy=>match MJ y.1.pv,y.2.vs[i]? with
  |some k,!(!(Zs (.dk ks ps)))=>if -ks<100000 then !(.nx (y.2.set i (!(Zs (nG (uV (ks.zip ps) k x.1.pv)))))) else J
  |_,_=>J
 |_=>J

open A in
def E9(h:PS X (.Assign [.Subscript o ix tpos] e pos) (Rz (tP X.K fv) (Wk (uH i) (tP X.K fi) Y6))):PS X (.Assign [.Subscript o ix tpos] e pos) (iw X.K (FJ i fi fv)):=PS.imp h λD U H q=>by
 let(H0,Z0,Y,pd,fl,s,h,k):=q;let(x,h1,h2):=b_ h;show#[H0,Z0,Y,pd,x.1,x.2,s,h1,λv H1 s1=>?_];split at h2
 . rename_i E_ Fa e0;let(y,h3,z):=b_ h2;let(a,Q,_):=s1.takeD e0;show#[.ref a,Q,H0,Z0,x.2,_,y.1,y.2,s1.freeze,h3,λw H2 W=>?_];split at z
   . rename_i kk ks ps ek e3;split at z
     . cases z;let(_,N):=W.freeze.repH;let ew:=G9 ek N;let(a',j,s3):=W.pop.takeD e3;rw[Q]at j;cases j;let(F,hu,hl,s4):=s3.swap.setD;show#[a,_,O,Zl #[F,kk,hu,ew,by rw[hl,iE];lia,O],k U _ ?_];let s5:=s4.put Q;rw[Ev.set_set]at s5;show s5
     . cases z
   . cases z
 . cases h2
def ou(fo fv:EF):SF:=λY=>(fo Y).bind λo=>match o.1.pv with
 |ZA n=>match o.2.mu[n]? with
  |some (!(R _))=>(fv o.2).bind λy=>match y.2.mu[n]? with
   |some (!(R ws))=>if -ws<100000 then !(.nx #[y.2.vs,y.2.mu.set n (!(R (ws++[y.1.pv])))]) else J
   |_=>J
  |_=>J
 |_=>J

open A in
def By(h:PS X (.Expr (.Call (.Attribute o "append" apos) [e] [] cpos) pos) (J3 (KZ X.K "list" GP (tP X.K fo) (jR X.K (aj fv ao))))):
 PS X (.Expr (.Call (.Attribute o "append" apos) [e] [] cpos) pos) (iw X.K (ou fo fv)):=PS.imp h λD U H q=>by
 let(H0,Z0,Y,pd,fl,s,h,k):=q;let(o',h1,h2):=b_ h;show#[H0,Z0,Y,pd,o'.1,o'.2,s,h1,λv H1 s1=>?_];split at h2
 . rename_i n en;split at h2
   . rename_i ws0 F;let(y,h3,i):=b_ h2;let Q:=s1.freeze;rw[en]at Q;let(a,rfl,s5):=Q.cellO F;let(_,Z,_,z,so):=s5.top;let(_,ea,(us,hu,_),_):=so.1 _ cf;cases ea;show#[Zl #[O,us,bY.of hu],H0,Z0,o'.2,_,[y.1],y.2,Q,?_,λvs H2 e2 sv=>?_]
     . unfold aj ao;grind
     . let(v1,rfl):=yZ e2;split at i
       . rename_i ws em;split at i
         . cases i;let s3:=SR.freeze sv;let(a',W,s6):=s3.swap.cellO em;cases W;let s7:=s6.perm ((gu _ _ _).trans ((gu _ _ _).cons _));let(j,N,hl,s8):=s7.pushO;let hn:=(eM.mp em).1;let s9:=s8.cellP ∅;show#[a,j,v1,O,O,N,by rw[hl,iE];lia,k U _ ?_];have s10:SR X.K H0 Z0 U (bp H2 a (.lst (j++[v1]))) #[y.2.vs,(y.2.mu.set n J).set n (!(R (ws++[y.1.pv])))] pd:=s9;grind
         . cases i
       . cases i
   . cases h2
 . cases h2
def Vo:EF:=λY=>!(Zs (.dk [] []),Y)
def Ap:PE X (.Dict [] [] pos) (tP X.K Vo):=PE.imp WM λU H Q q=>by let(H0,Z0,Y,pd,l,Y',s,f,k):=q;cases f;show λp j=>k _ _ (s.newO j λZ _ _=>#[[],bZ,O,.nil])
def oO(f:EF):EF:=λY=>(f Y).bind λx=>match x.1.pv with
 |ZA n=>match x.2.mu[n]? with
  |some (!(R ws))=>!(Zp (ZI (-ws:Nat)),x.2)
  |_=>J
 |p=>(ES p).map λl=>(l,x.2)

open A in
def XH(h:PE X (.Call (.Name x p) [e] [] pos) (zN (λxs H Q=>∃x n,xs=[x]/\Wq X.K x H n/\Q (.int n) H) (jR X.K (aj f ao)))):PE X (.Call (.Name x p) [e] [] pos) (tP X.K (oO f)):=PE.imp h λU H Q q=>by
 let(H0,Z0,Y,pd,l,Y',s,N,k):=q;let(y,h1,h2):=b_ N;show#[H0,Z0,Y,pd,[y.1],y.2,s,?_,λvs H1 D F=>?_]
 . unfold aj ao;grind
 . let(v,rfl):=yZ D;let i:=SR.freeze F;split at h2
   . rename_i n en;split at h2
     . rename_i ws j;cases h2;rw[en]at i;let(a,rfl,s5):=i.cellO j;let(_,Z,_,z,so):=s5.top;let(_,ea,(W,hu,hr),_):=so.1 _ cf;cases ea;show#[.ref a,-ws,O,Zl #[W,bY.of hu,hr.length.symm],k _ H1 (i.pop.scal gF)]
     . cases h2
   . let(l',h3,h4):=de h2;cases h4;show Vf H0 Z0 U y.2 pd H1 [v] [y.1.pv] _ Q O i h3 k
def UW:=CZ (λi j=>decide (0<=j/\j<=1000000/\i.natAbs<2 ^ 64)) λi j=>ZI (i*2 ^ j.toNat)
def R0:pA K (rI vt λi j=>.int (i*2 ^ j.toNat)) UW:=Ka (λi j h=>(of_decide_eq_true h:0<=j/\j<=1000000/\i.natAbs<2 ^ 64)) λ_ _ _=>gF _
def As:=CZ (λ_ j=>decide (0<=j)) λi j=>ZI (i/2 ^ j.toNat)
def VA:pA K (rI (λ_ j=>0<=j) λi j=>.int (i/2 ^ j.toNat)) As:=Ka (λi j h=>of_decide_eq_true h) λ_ _ _=>gF _
def Fb:=CZ (λ_ _=>G) λi j=>ZI (Builtin.bitAnd i j)
def VC:pA K (zG λi j=>.int (Builtin.bitAnd i j)) Fb:=LR λ_ _ _=>gF _
end
open PySem.SeqAt
section
variable {X:Cx}
def uW(ps qs:List PV):List PV:=zipWith (λp q=>ZB [p,q]) ps qs
def XJ{i:Nat}(h:(uW ps qs)[i]?=!x):∃p q,ps[i]?=!p/\qs[i]?=!q/\x=ZB [p,q]:=by
 unfold uW at h;rw[getElem?_zipWith]at h;cases h1:ps[i]? with
 |none=>grind
 |some p=>
  cases h2:qs[i]? with
  |none=>grind
  |some q=>grind
def XM:-(uW ps qs)=min (-ps) (-qs):=by unfold uW;simp
def XN:qX K H0 Z0 ((.ref a,.sh (.lst ps))::(.ref b,.sh (.lst qs))::pd) (vT K a b) (uW ps qs):=by
 intro U H Y i s;show ym λZO kG=>?_;let(el,Z,hg,z,rl,so):=SR.repl (vs:=[.ref a,.ref b]) (ls:=[.sh (.lst ps),.sh (.lst qs)]) s rfl;let(_,_,ev,r,rl):=rl;cases ev;let(_,_,ev,r',_):=rl;cases ev;simp only[Lc.pv]at r r';let r0:=r;let VE:=r';let(a',vs,e,h1,h2):=r;let(b',ws,e',sT,wn):=r';cases e;cases e';let hq:=bY.same z.zh h1;let hr:=bY.same z.zh sT;show kG #[λx hx=>?_,λhl=>#[vs,ws,hq,hr,?_]]
 . show ym λZO kG=>?_;let(p,q,hp,nI,rfl):=XJ hx;let(v,hv,rv):=h2.get hp;let(u,hu,ru):=wn.get nI;show kG #[#[vs,ws,v,u,hq,hr,hv,hu],λv' H' y=>?_];let(T,y1,y2,hT,rfl,rfl,VI,VL):=y;let e1:=VI vs hq;rw[hv]at e1;cases e1;let e2:=VL ws hr;rw[hu]at e2;cases e2;let(z',lz,n4):=((so.consS VE).consS r0).newF z hT;show .mk (Z:=Z.put T (.tup [v,u])) el hg z' (ag.perm (ag.consS n4 ?_) ((dD.trans (dD.cons _)).cons _));unfold b9;show#[T,[v,u],rfl,.inl (.inl (by show bp Z.z T _ T=_;rw[bZ])),aK.cons (rv.mono lz) (aK.cons (ru.mono lz) .nil)]
 . rw[XM]at hl;rw[h2.length,wn.length];lia
def Km(f g:EF):IF:=λY=>(f Y).bind λx=>(g x.2).bind λy=>match x.1.pv,y.1.pv with
 |R ps,R qs=>!(uW ps qs,y.2)
 |_,_=>J
theorem VO{α:Type}{w r:α}(h:(match p,q with
 |R ps,R i=>!(uW ps i,w)
 | _,_=>J)=!(zs,r)):∃ps i,p=R ps/\q=R i/\zs=uW ps i/\w=r:=by
 split at h
 . grind
 . cases h
def VQ{p pos:Pos}{gE:List Expr}{x1}{tpos:Pos}(hg:Gl X "zip")(hm:X.mg "zip"=J)(ha:PA X [a,b] (jR X.K (aj f (aj g ao))))(hs:starEach [a,b] X.env=(M,eval a X.env)::starEach [b] X.env:=by rfl)(D:(backTo pos (starEach [b] X.env)).any (·.1)=M:=by rfl):PI X (.Tuple gE x1 tpos) (.Call (.Name "zip" p) [a,b] [] pos) (Iz X.K (Km f g)):=PI.imp (Pm hg hm ha hs D) λU H ZN q=>by
 let(H0,Z0,Y,pd,xs,Y',s,h,k):=q;let(x,h1,h2):=b_ h;let(y,h3,h4):=b_ h2;show#[H0,Z0,Y,pd,[x.1,y.1],y.2,s,?_,λvs H1 W s1=>?_]
 . unfold aj ao;grind
 . show ym λZT kG=>?_;let(v,u,rfl):=sP W;have j:SR X.K H0 Z0 U H1 y.2 ((v,Zp x.1.pv)::(u,Zp y.1.pv)::pd):=SR.freezeAll s1;let(ps,qs,e,N,rfl,rfl):=VO h4;rw[e,N]at j;let(Z,z,r,r'):=j.rep2;let(F,us,rfl,i,g2'):=r;let(a',Q,rfl,g1,g2):=r';show kG #[a',F,O,#[_,bY.same z g1],#[_,bY.same z i],k _ _ _ j XN ((f6 _ _).cons _)]
end
def wN(a b:Str):Prop:=ltCps b.cps.toList a.cps.toList=M
def mZ:wN a b ↔ a.cps.toList<=b.cps.toList:=by unfold wN;rw[ltCps_eq,decide_eq_false_iff_not];show Iff.rfl
theorem Ak:∀(p:Str)(l:List Str),risingS p l=G->(p::l).Pairwise wN
 |p,[]=>λ_=>by simp
 |p,x::r=>λh=>by
  have h':(not (ltCps x.cps.toList p.cps.toList)&&risingS x r)=G:=h;simp only[iP,Bool.not_eq_true']at h';let j:=Ak x r h'.2;let q:=h'.1;show pairwise_cons.mpr #[λy i=>?_,j];obtain rfl|i:=bP.mp i
  . show q
  . show mZ.mpr (List.le_trans (mZ.mp q) (mZ.mp (rel_of_pairwise_cons j i)))
theorem Vp:∀{l:List Str},sortedS l=G->l.Pairwise wN
 |[]=>λ_=>.nil
 |x::r=>λh=>Ak x r h
def VS{a b:Str}(h:a.cps.toList=b.cps.toList):a=b:=by obtain⟨⟨b⟩⟩:=b;cases h;rfl
def Vq{a b:List Str}(p:a.Perm b)(i:a.Pairwise wN)(j:b.Pairwise wN):a=b:=
 Perm.eq_of_pairwise (λx y _ _ h1 h2=>VS (List.le_antisymm (mZ.mp h1) (mZ.mp h2))) i j p
noncomputable def Dy (x:Str):List Str->List Str
 |[]=>[x]
 |y::l=>if ltCps x.cps.toList y.cps.toList then x::y::l else y::Dy x l
def pU:List Str->List Str
 |[]=>[]
 |x::l=>Dy x (pU l)
theorem Al:∀{l:List Str},(Dy x l).Perm (x::l)
 |[]=>.rfl
 |y::l=>by
  unfold Dy;split
  . grind
  . show(Al.cons y).trans (.swap _ _ _)
theorem QL:∀{l:List Str},l.Pairwise wN->(Dy x l).Pairwise wN
 |[]=>λ_=>by simp[Dy]
 |y::l=>λh=>by
  let(h1,h2):=pairwise_cons.mp h;unfold Dy;split
  . rename_i g;rw[ltCps_eq,decide_eq_true_eq]at g;let j:=mZ.mpr (List.le_of_lt g);show pairwise_cons.mpr #[λz i=>?_,h];obtain rfl|i:=bP.mp i
    . show j
    . show mZ.mpr (List.le_trans (mZ.mp j) (mZ.mp (h1 z i)))
  . rename_i g;show pairwise_cons.mpr #[λz i=>?_,QL h2];obtain rfl|i:=bP.mp (Al.mem_iff.mp i)
    . simpa [wN] using g
    . grind
theorem uf:∀{l:List Str},(pU l).Perm l
 |[]=>.rfl
 |x::l=>Al.trans (uf.cons x)
theorem MK:∀{l:List Str},(pU l).Pairwise wN
 |[]=>.nil
 |x::l=>QL MK
def VT(p:t.Perm ss)(h:sortedS t=G):t=pU ss:=Vq (p.trans uf.symm) (Vp h) MK
def uX:List Str->List Str
 |[]=>[]
 |x::l=>if x∈l then uX l else x::uX l
theorem Am:∀{l:List Str},y∈uX l ↔ y∈l
 |[]=>Iff.rfl
 |x::l=>by
  unfold uX;split
  . rw[Am,bP];grind
  . rw[bP,bP,Am]
theorem Dz:∀{l:List Str},(uX l).Nodup
 |[]=>.nil
 |x::l=>by
  unfold uX;split
  . show Dz
  . rename_i h;show h_.mpr #[λq=>h (Am.mp q),Dz]
theorem FP:∀{a b:List Str},a.Nodup->b.Nodup->(∀y,y∈a ↔ y∈b)->a.Perm b
 |[],b=>λ_ _ h=>by
  have:b=[]:=eq_nil_iff_forall_not_mem.mpr λy i=>by have:=(h y).mpr i;cases this
  rw[this]
 |x::a,b=>λj D h=>by
  let(h1,h2):=h_.mp j;let z:=(h x).mp cf;let p:=perm_cons_erase z;show((FP h2 ∅ λy=>?_).cons x).trans p.symm;rw[D.mem_erase_iff];constructor
  . grind
  . rintro⟨n,i⟩;obtain e|q:=bP.mp ((h y).mpr i)
    . grind
    . show q
def XS(n:t.Nodup)(m:∀y,y∈t ↔ y∈ss)(h:sortedS t=G):t=pU (uX ss):=VT (FP n Dz λy=>(m y).trans Am.symm) h
def BJ:List PV->Option (List Str)
 |[]=>![]
 |ZH x::ps=>(BJ ps).map (x::·)
 |_::_=>J
def pH:List d_->Option (List Str)
 |[]=>![]
 |.inr x::ks=>(pH ks).map (x::·)
 |.inl _::_=>J
theorem Fc:∀{ks:List d_}{ss:List Str},pH ks=!ss->ks=ss.map Sum.inr
 |[],ss,h=>by cases h;rfl
 |.inr x::ks,ss,h=>by let(t,h1,h2):=de h;cases h2;rw[Fc h1];rfl
 |.inl _::ks,ss,h=>by cases h
theorem Jd:∀{ps:List PV}{vs:List V}{i:List Str},BJ ps=!i->aK K Z ps vs->vs=i.map V.str
 |[],vs,i=>λh r=>by cases h;show r
 |p::ps,vs,i=>λh r=>by
  let(v,D,rfl,h1,h2):=r;cases p with
  |str x=>
   let(t,z,j):=de h;cases j;rw[Jd z h2];rw[h1];rfl
  |_=>cases h
theorem MN:∀{j:List Str},aK K Z (j.map PV.str) (j.map V.str)
 |[]=>by  rfl
 |x::j=>#[.str x,j.map V.str,O,by unfold b9;rfl,MN]
section
variable {X:Cx}
def SR.ext(s:SR K H0 Z0 U H Y pd)(F:H l=J):SR K H0 Z0 U (bp H l o) Y pd:=by let(j,Z,D,z,q):=s;let(N,Q,i):=q.newF z F;show#[j,Z.put l o,D,N,i]
abbrev FD:=List (Str×PV)
noncomputable def sr:FD->Str->Option PV
 |[],_=>J
 |kv::r,k=>if kv.1=k then !kv.2 else sr r k
noncomputable def su (f:Str) (p:PV):FD->FD
 |[]=>[(f,p)]
 |kv::r=>if kv.1=f then (kv.1,p)::r else kv::su f p r
def gf(C:Str)(l:FD):PV:=.obj C (l.map (·.1)) (l.map (·.2))
def pW(K:FG)(Z:ZG):FD->List (Str×V)->Prop:=Paired λp q=>p.1=q.1/\b9 K Z p.2 q.2
section
variable {K:FG}{Z Z':ZG}
theorem Ha:∀{i:List (Str×V)}{ks:List Str}{ps:List PV},i.map (·.1)=ks->aK K Z ps (i.map (·.2))->pW K Z (ks.zip ps) i
 |[],ks,ps=>λh1 h2=>by subst h1;show .nil
 |F::r,ks,ps=>λh1 h2=>by
  subst h1;cases ps with
  |nil=>have:=h2.inv0;grind
  |cons p ps=>
   let(v,N,e,j,z):=h2.inv;injection e with D q;subst D q;show .cons #[O,j] (Ha O z)
theorem pW.keys:∀{l:FD}{i:List (Str×V)},pW K Z l i->i.map (·.1)=l.map (·.1)
 |_,_,.nil=>rfl
 |_,_,.cons h t=>by rw[fr,fr,h.1,pW.keys t]
theorem pW.vals:∀{l:FD}{i:List (Str×V)},pW K Z l i->aK K Z (l.map (·.2)) (i.map (·.2))
 |_,_,.nil=>.nil
 |_,_,.cons h t=>aK.cons h.2 (pW.vals t)
theorem pW.look:∀{l:FD}{i:List (Str×V)},pW K Z l i->(∀p,sr l f=!p->∃v,i.lookup f=!v/\b9 K Z p v)/\(sr l f=J->i.lookup f=J)
 |_,_,.nil=>#[λp h=>(by cases h),λ_=>O]
 |p::l,q::i,.cons h t=>by
  let Q:=pW.look (f:=f) t;have F:(q::i).lookup f=if f=q.1 then !q.2 else i.lookup f:=by
   let(N,W):=q;by_cases e:f=N
   . grind
   . grind
  rw[F];by_cases e:p.1=f
  . have j:f=q.1:=by rw[<-h.1];show e.symm
    rw[aE j];show#[λx D=>#[q.2,O,?_],λD=>?_]
    . unfold sr at D;grind
    . unfold sr at D;grind
  . have j:¬ f=q.1:=by rw[<-h.1];show λz=>e z.symm
    rw[bh j];unfold sr;grind
theorem pW.put(r:b9 K Z p v):∀{l:FD}{i:List (Str×V)},pW K Z l i->pW K Z (su f p l) (jz f v i)
 |_,_,.nil=>.cons #[O,r] .nil
 |a::l,b::i,.cons h t=>by
  unfold su jz;by_cases e:a.1=f
  . rw[aE e,aE ∅];show .cons #[h.1,r] t
  . rw[bh e,bh ∅];show .cons h (pW.put r t)
end
structure yx(K:FG)(mg:Str->Option Value)(C:Str)(c:Addr):Prop where
 cn:CN K C c
 cl:zJ K c
 mgC:mg C=!(.ref c)
def SJ(h:CN K C c)(g:CN K C d):c=d:=by have:(!(!(Value.ref c)))=!(!(YV d)):=h.symm.trans g;grind
def jB(C f:Str)(fo:EF):EF:=λY=>(fo Y).bind λx=>match x.1.pv with
 |ZA n=>match x.2.mu[n]? with
  |some (!(.obj D ks ps))=>if D=C then (sr (ks.zip ps) f).map λp=>(Zp p,x.2) else J
  |_=>J
 |_=>J
def SR.cellB{pd pe:Pd}(q:Y.mu[n]?=!(!p))(s:SR K H0 Z0 U H #[Y.vs,Y.mu.set n J] ((.ref a,Zs p)::(.ref a,Zp (ZA n))::pd)):SR K H0 Z0 U H Y pd:=by
 let F:=(eM.mp q).1;let D:=s.cellP ∅;have z:(Y.mu.set n J).set n (!p)=Y.mu:=by rw[oQ];show lm q
 grind
def SR.objAt(s:SR K H0 Z0 U H Y ((v,Zp (ZA n))::pd))(F:Y.mu[n]?=!(!(.obj C ks ps))):
 ∃a c dx fs,v=.ref a/\CN K C c/\H a=!(.ins c dx fs)/\fs.map (·.1)=ks/\(∀f p,sr (ks.zip ps) f=!p->∃u,fs.lookup f=!u/\SR K H0 Z0 U H Y ((u,Zp p)::(v,Zp (ZA n))::pd))/\∀f,sr (ks.zip ps) f=J->fs.lookup f=J:=by
 let i:=s.part λZ _ r=>r;let(a,rfl,Q):=i.cellO F;let(N,Z,W,z,q):=Q.top;let(_,ea,(c,dx,fs,cn,hu,hk,hr),_):=q.1 _ cf;cases ea;let D:=Ha hk hr;show#[a,c,dx,fs,O,cn,hu,hk,λf p j=>?_,λf j=>D.look.2 j];let(u,h1,h2):=D.look.1 p j;show#[u,h1,?_];have s6:SR K H0 Z0 U H #[Y.vs,Y.mu.set n J] ((u,Zp p)::(.ref a,Zs (.obj C ks ps))::(.ref a,Zp (ZA n))::(.ref a,Zp (ZA n))::pd):=.mk N W z ((q.perm dD).consS h2);let s7:=s6.perm (((gu _ _ _).cons _).trans (gu _ _ _));show SR.cellB (pe:=pd) F s7

open A in
def wg(T:yx X.K X.mg C c)(na:kW X.K c f)(F:PE X o (tP X.K fo))(hb:attributeBase o f X.env (eval o X.env)=eval o X.env:=by rfl):PE X (.Attribute o f pos) (tP X.K (jB C f fo)):=PE.imp (Nr F hb) λU H Q q=>by
 let(H0,Z0,Y,pd,l,Y',s,h,k):=q;let(x,h1,h2):=b_ h;show#[H0,Z0,Y,pd,x.1,x.2,s,h1,λv H1 N=>?_];split at h2
 . rename_i n en;split at h2
   . rename_i D ks ps i;split at h2
     . rename_i z;subst z;let(p,h3,W):=de h2;cases W;let j:=N.freeze;rw[en]at j;let(a,c',dx,fs,rfl,cn,hH,hk,hl,_):=j.objAt i;have:=SJ T.cn cn;subst this;let(u,h5,s6):=hl f p h3;show#[a,c,dx,fs,u,O,hH,T.cl,na,h5,k u H1 (s6.sub ((f6 _ _).cons_cons _))]
     . cases h2
   . cases h2
 . cases h2
def BP(C f:Str)(fo fv:EF):SF:=λY=>(fv Y).bind λy=>(fo y.2).bind λx=>match x.1.pv with
 |ZA n=>match x.2.mu[n]? with
  |some (!(.obj D ks ps))=>if D=C/\-ks<1000 then !(.nx #[x.2.vs,x.2.mu.set n (!(gf C (su f y.1.pv (ks.zip ps))))]) else J
  |_=>J
 |_=>J

open A in
def Hb(T:yx X.K X.mg C c)(na:kW X.K c f)(ho:PE X o (tP X.K fo))(hv:PE X value (tP X.K fv))(hs:swapsWith value (!(.Attribute o f pos')) pos.line X.env=pure M:=by rfl):PS X (.Assign [.Attribute o f pos'] value pos) (iw X.K (BP C f fo fv)):=PS.imp (Nw ho hv hs) λD U H q=>by
 let(H0,Z0,Y,pd,fl,s,h,k):=q;let(y,h1,h2):=b_ h;let(x,h3,i):=b_ h2;show#[H0,Z0,Y,pd,y.1,y.2,s,h1,λv H1 s1=>#[H0,Z0,y.2,_,x.1,x.2,s1.freeze,h3,λw H2 s2=>?_]];split at i
 . rename_i n en;split at i
   . rename_i F ks ps Q;split at i
     . rename_i N;let(N,hz):=N;subst N;cases i;let W:=s2.freeze;rw[en]at W;let(a,rfl,s5):=W.cellO Q;let s6:=s5.perm ((gu _ _ _).trans ((gu _ _ _).cons _));let(el,Z,hg,z,r,so):=s6.sh;let j:=so.perm dD.symm;let(_,eb,(c',dx,fs,cn,hu,hk,hr),_):=j.1 _ cf;cases eb;have:=SJ T.cn cn;subst this;let rf:=Ha hk hr;let rp:=rf.put (f:=f) r;have hlen:-fs=-ks:=by rw[<-hk,ck]
       show#[a,c,dx,fs,O,hu,T.cl,na,(),k U _ ?_];let(z',s'):=j.write (q:=gf F (su f y.1.pv (ks.zip ps))) z #[c,dx,jz f v fs,cn,bZ,rp.keys,rp.vals];have s7:SR X.K H0 Z0 U (bp H2 a (.ins c dx (jz f v fs))) #[x.2.vs,x.2.mu.set n J] ((.ref a,Zs (gf F (su f y.1.pv (ks.zip ps))))::(.ref a,Zp (ZA n))::pd):=.mk el hg z' s';let hn:=(eM.mp Q).1;let s8:=s7.cellP ∅;grind
     . cases i
   . cases i
 . cases i
end
section
variable {P:Program}{w:World}{K:FG}{mg:Str->Option Value}{base:Heap}
def wO(K:FG)(c:Addr)(m qual:Str)(st:Stmt)(ps:List Str):Prop:=∃f fd,vD K m qual st f fd/\W.findIn K (YV c) m=!(!(YV f))/\W.isFn K (YV f)=G/\eH K fd ps []
def vO(P:Program)(w:World)(K:FG)(mg:Str->Option Value)(base:Heap)(c:Addr)(m:Str)(k:Nat)(ps:List Str)(sp:Sp):Prop:=∃f fd,oK P w K mg base qD k f fd ps sp/\k6 K c m f/\eH K fd ps []
def vD.okQ{st:Stmt}(F:vD K x qual st f fd)(S:bz N ps (aG st))
 (h:∀(j:Value)(A:Around)(i:List PySem.Env)(s:Shared)(H:Hp)(E:XK),qM k (A.deeper (envOfC qual (aG st) s.heap.objs.size f j))->
   ∃g':SF,(∀a mu,g a mu=cY (-N) g' a mu)/\jP (Ww qD P w K mg base N qual (aG st) f j A i s H E).nox (jC st) (iw K g')):oK P w K mg base qD (k+1) f fd ps (bW K (-ps) g):=by
 show F.ok S (λvs H Q E q=>?_) (λj A i s H vs Q E hr q=>?_)
 . let(Z,qs,mu,r,e7,e,_):=q;show e
 . let(g',eg,b):=h j A i s H E hr;let(Z,qs,mu,r,e7,e,hg,z,rl,c,mS,kk):=q;rw[eg]at mS;let(fl,h1,h2):=b_ mS;show#[_,b,my H (uP Z.g mu),Z,_,[],fl,Ds hg z rl c,h1,?_];cases fl with
   |rt r' Y'=>
    cases h2;intro v U' H' s';let(el,Z',D,z',W):=s'.top;show kk v H' #[Z',D,z',W.sub ?_];show(j2 _ _).cons_cons _
   |nx Y'=>
    cases h2;intro U' H' s';let(el,Z',D,z',W):=s';show kk .non H' #[Z',D,z',(W.sub (j2 _ _)).consS (Bq _)]
   |bk Y'=>cases h2
   |ct Y'=>cases h2
def wO.ok{st:Stmt}(F:wO K c m qual st ps)(S:bz N ps (aG st))
 (h:∀(f:Addr)(j:Value)(A:Around)(i:List PySem.Env)(s:Shared)(H:Hp)(E:XK),qM k (A.deeper (envOfC qual (aG st) s.heap.objs.size f j))->
   ∃q:SF,(∀a mu,g a mu=cY (-N) q a mu)/\jP (Ww qD P w K mg base N qual (aG st) f j A i s H E).nox (jC st) (iw K q)):vO P w K mg base c m (k+1) ps (bW K (-ps) g):=by
 let(f,fd,F,h1,h2,z):=F;show#[f,fd,vD.okQ F S (h f),#[h1,h2,F.kp],z]
end
section
variable {X:Cx}
def cX(C m:Str)(g:GF)(fo:EF)(a:AF):EF:=λY=>(fo Y).bind λx=>match x.1.pv with
 |ZA n=>match x.2.mu[n]? with
  |some (!(.obj D ks _))=>if D=C/\ks.contains m=M then (a x.2).bind λy=>(g (ZA n::y.1.map Lc.pv) y.2.mu).map λr=>(r.1,#[y.2.vs,r.2]) else J
  |_=>J
 |_=>J
theorem Jf:∀{fs:List (Str×V)},(fs.map (·.1)).contains m=false->fs.lookup m=none
 |[],_=>rfl
 |(g,x)::r,h=>by rw[fr,List.contains_cons,Bool.or_eq_false_iff]at h;rw[jp,h.1];show Jf h.2

open A in
def MP(T:yx X.K X.mg C c)(hn:∀Y ls Y1,a Y=!(ls,Y1)->-ls+1=n'):∀U H Q,tP X.K (cX C m g fo a) U H Q->RT c m (bW X.K n' g) [] E (tP X.K fo) (jR X.K a) U H Q:=λU H Q q=>by
 let(H0,Z0,Y,pd,l,Y',s,h,k):=q;let(x,h1,h2):=b_ h;show#[H0,Z0,Y,pd,x.1,x.2,s,h1,λv H1 s1=>?_];split at h2
 . rename_i n en;split at h2
   . rename_i D ks ps em;split at h2
     . rename_i eD;let(eD,hk):=eD;subst eD;let(y,h3,h4):=b_ h2;let(r,h5,h6):=de h4;cases h6;let F:=s1.freeze;rw[en]at F;let(a',c',dx,fs,rfl,cn,hH,sG,_):=F.objAt em;have:=SJ T.cn cn;subst this;show#[a',dx,fs,O,hH,Jf (by rw[sG];show hk),H0,Z0,x.2,_,y.1,y.2,F,h3,λvs H2 e2 s3=>?_];have s4:SR X.K H0 Z0 U H2 y.2 ((V.ref a'::vs).zip (Lc.sh (ZA n)::y.1)++pd):=s3.perm (by rw[q9,q_];show gI.symm)
       let(el,Z,hg,z,rl,j):=s4.repl (by rw[c5,c5,e2]);show#[Z,ZA n::y.1.map Lc.pv,y.2.mu,r.1,r.2,?_,hg,z.zh,?_,j.cells hg,h5,λv H' rr=>k v H' (SR.called el hg z j rr)]
       . rw[eJ,c5,e2];show hn _ _ _ h3
       . rw[eJ];show rl
     . cases h2
   . cases h2
 . cases h2
def jt{apos pos:Pos}{pl:Sem Bool}(T:yx X.K X.mg C c)(N:vO X.prog X.w X.K X.mg X.base c m k ps (bW X.K (-ps) g))(W:qM k X.A)(D:PE X o (tP X.K fo))(q:PA X (e::es) (jR X.K a))(z:∀Y ls Y1,a Y=!(ls,Y1)->-ls+1=-ps)
 (i:starEach (e::es) X.env=(M,eval e X.env)::starEach es X.env:=by rfl) (j:(backTo pos (starEach es X.env)).any (·.1)=M:=by rfl)
 (ht:eval (.Call (.Attribute o m apos) (e::es) [] pos) X.env=(do
   let ov <-eval o X.env
   standAt apos.atName
   let (f,first) <-holding [ov] (getMethod ov m pl)
   callWith pos f first (backTo pos (starEach (e::es) X.env)) (backToKw pos (keywordEach [] X.env))):=by rfl):PE X (.Call (.Attribute o m apos) (e::es) [] pos) (tP X.K (cX C m g fo a)):=by
 let(f,fd,F,hm,Q):=N
 show PE.imp (ZV D T.cl hm F W Q .nil J6 q i j ht) (MP T z)
def At(T:yx X.K X.mg C c)(W:vO X.prog X.w X.K X.mg X.base c m k ps (bW X.K (-ps) g))(hr:qM k X.A)(N:PE X o (tP X.K fo))(z:1=-ps)
 (ht:eval (.Call (.Attribute o m apos) [] [] pos) X.env=(do
   let ov <-eval o X.env
   standAt apos.atName
   let (f,first) <-holding [ov] (getMethod ov m pl)
   callWith pos f first (backTo pos (starEach [] X.env)) (backToKw pos (keywordEach [] X.env))):=by rfl):PE X (.Call (.Attribute o m apos) [] [] pos) (tP X.K (cX C m g fo ao)):=by
 let(f,fd,F,hm,hb):=W
 show PE.imp (Wu N T.cl hm F hr hb .nil J6 ht) λU H Q q=>?_
 have:=MP (E:=E0) (n':=-ps) T (λY ls Y1 h=>by cases h;rw[<-z];rfl) U H Q q
 let(H0,Z0,Y,pd,l,Y',s,h,k):=this
 show#[H0,Z0,Y,pd,l,Y',s,h,λv H1 D=>?_]
 let(a,dx,fs,j,e2,e3,H0',Z0',Y2,pd2,ls,Y3,i,h2,k2):=k v H1 D
 cases h2
 show#[a,dx,fs,j,e2,e3,k2 [] H1 O i]
def SR.toCell(s:SR K H0 Z0 U H Y ((.ref a,Zs p)::pd)):SR K H0 Z0 U H #[Y.vs,Y.mu++[!p]] ((.ref a,Zp (ZA (-Y.mu)))::pd):=by
 let(D,Z,F,z,j):=s.top;have q:iu Z #[Z.z,Z.g++[a]]:=#[eY_.refl _,va _ _];let i:=j.step q λe W b Q=>#[O,(jn j W Q).1];show .mk (Z:=#[Z.z,Z.g++[a]]) D ∅ #[z.zh,z.h0,z.z0.trans q,z.new] (ag.consS ?_ ?_)
 . show i.perm ?_;have N:cel (Z.g++[a]) (Y.mu++[!p])=cel Z.g Y.mu++[(!(.ref a),!(Zs p))]:=by unfold cel;rw[d0,d0,md ∅];rfl
   show Perm (cel (Z.g++[a]) (Y.mu++[!p])++_) _;rw[N,d6];show gI
 . show#[a,O,by show (Z.g++[a])[-Y.mu]?=!a;rw[F,hZ ()];simp]
def FT(C:Str)(g:GF)(a:AF):EF:=λY=>(a Y).bind λy=>(g (ZA (-y.2.mu)::y.1.map Lc.pv) (y.2.mu++[!(.obj C [] [])])).bind λr=>match r.1 with
 |Zp .non=>!(Zp (ZA (-y.2.mu)),#[y.2.vs,r.2])
 |_=>J
def X4(P:Program)(w:World)(K:FG)(mg:Str->Option Value)(base:Heap)(c:Addr)(k:Nat)(ps:List Str)(sp:Sp):Prop:=∃f fd,oK P w K mg base qD k f fd ps sp/\Mk K c f/\eH K fd ps []
def X5(T:yx X.K X.mg C c)(hn:∀Y ls Y1,a Y=!(ls,Y1)->-ls+1=n'):∀U H Q,tP X.K (FT C g a) U H Q->YX c (bW X.K n' g) [] E (jR X.K a) U H Q:=λU H Q q=>by
 let(H0,Z0,Y,pd,l,Y',s,h,k):=q;let(y,h1,h2):=b_ h;let(r,h3,D):=b_ h2;split at D
 . rename_i er;cases D;show#[H0,Z0,Y,pd,y.1,y.2,s,h1,λj H1 e1 s1 x dx hx N zv=>?_];have s2:SR X.K H0 Z0 U (bp H1 dx (.own x)) y.2 (j.zip y.1++pd):=s1.ext N;have s3:SR X.K H0 Z0 U (bp (bp H1 dx (.own x)) x (.ins c dx [])) y.2 ((.ref x,Zs (.obj C [] []))::(j.zip y.1++pd)):=s2.newO (by rw[cV zv.symm];show hx) λZ _ _=>#[c,dx,[],T.cn,bZ,O,.nil];let s4:=s3.toCell;let s5:=s4.part λZ _ r=>r;have s6:SR X.K H0 Z0 U (bp (bp H1 dx (.own x)) x (.ins c dx [])) #[y.2.vs,y.2.mu++[!(.obj C [] [])]] ((V.ref x::j).zip (Lc.sh (ZA (-y.2.mu))::y.1)++(.ref x,Zp (ZA (-y.2.mu)))::pd):=s5.perm ∅
   let(el,Z,F,z,rl,i):=s6.repl ∅;show#[Z,ZA (-y.2.mu)::y.1.map Lc.pv,y.2.mu++[!(.obj C [] [])],r.1,r.2,?_,F,z.zh,?_,i.cells F,h3,λv H' rr=>?_]
   . grind
   . rw[eJ];show rl
   . let W:=SR.called el F z i rr;rw[er]at W;let(_,r0):=W.repH;show#[jL r0,k _ _ W.pop]
 . cases D
def Au{p pos:Pos}(T:yx X.K X.mg C c)(N:X4 X.prog X.w X.K X.mg X.base c k ps (bW X.K (-ps) g))(W:qM (k+1) X.A)(z:Gl X C)(q:PA X (e::es) (jR X.K a))(D:∀Y ls Y1,a Y=!(ls,Y1)->-ls+1=-ps)
 (i:(C==("__debug__" : Str))=M:=by decide) (he:starEach (e::es) X.env=(M,eval e X.env)::starEach es X.env:=by rfl) (j:(backTo pos (starEach es X.env)).any (·.1)=M:=by rfl):PE X (.Call (.Name C p) (e::es) [] pos) (tP X.K (FT C g a)):=by
 let(f,fd,F,hm,Q):=N;show PE.imp (ZW hm F W z T.mgC Q .nil J6 q i he j) (X5 T D)
end
def gO{a:AF}(h:∀Y ls Y1,a Y=!(ls,Y1)->-ls=n)(e:n+1=m:=by rfl):∀Y ls Y1,a Y=!(ls,Y1)->-ls+1=m:=λY ls Y1 g=>by rw[h _ _ _ g,e]
def VU(h:vO P w K mg base c "__init__" k ps sp)(mk:W.makesIn K c=G)(j:W.keepIn K (YV c)=G):X4 P w K mg base c k ps sp:=by let(f,fd,F,m,b):=h;show#[f,fd,F,#[mk,m.at_,m.fn,j],b]
section
variable {X:Cx}
theorem aK.pick(r:aK K Z ps vs):∀{l:List Nat},aK K Z (l.filterMap λi=>ps[i]?) (l.filterMap λi=>vs[i]?)
 |[]=>aK.nil
 |i::l=>by
  let q:=-r;cases h:ps[i]? with
  |none=>
   have h':vs[i]?=J:=by rw[getElem?_eq_none_iff]at h ⊢;lia
   rw[j1 h,j1 h'];show r.pick
  |some x=>
   let(u,h',j):=r.get h;rw[filterMap_cons_some h,filterMap_cons_some h'];show aK.cons j r.pick
theorem aK.pb{lo hi st:Option Int}(r:aK K Z ps vs):aK K Z (L2.pb ps lo hi st) (L2.pb vs lo hi st):=by unfold L2.pb;rw[r.length];show r.pick
def DN(f:EF)(lo hi st:OF):EF:=λY=>(f Y).bind λx=>(lo x.2).bind λy=>(hi y.2).bind λz=>(st z.2).bind λt=>match x.1.pv with
 |R ps=>if t.1≠!0 then !(Zs (R (pb ps y.1 z.1 t.1)),t.2) else J
 |_=>J

open A in
def QM{lo hi:Option Expr}{st:Expr}(he:PE X e (tP X.K f))(hl:PO X lo (Fw X.K fl))(hu:PO X hi (Fw X.K fh))(ht:PO X (!st) (Fw X.K fs)):
 PE X (.Subscript e (.Slice lo hi (!st) p2) pos) (tP X.K (DN f fl fh fs)):=PE.imp (Vs he hl hu ht) λU H Q q=>by
 let(H0,Z0,Y,pd,r,Y',s,h,k):=q;let(x,h1,h2):=b_ h;let(y,h3,h4):=b_ h2;let(z,h5,h6):=b_ h4;let(t,h7,i):=b_ h6;show#[H0,Z0,Y,pd,x.1,x.2,s,h1,λv H1 s1=>#[H0,Z0,x.2,_,y.1,y.2,s1.freeze,h3,λH2 s2=>#[H0,Z0,y.2,_,z.1,z.2,s2,h5,λH3 W=>#[H0,Z0,z.2,_,t.1,t.2,W,h7,λH4 j=>?_]]]];split at i
 . rename_i ps e;split at i
   . rename_i hk;cases i;rw[e]at j;let(N,Z,hg,D,F,s5):=j.sh;let(a,vs,rfl,g1,g2):=F;show#[a,vs,O,bY.same D.zh g1,hk,λp hp=>k _ _ ?_];let(z',s'):=s5.new (p:=R (pb ps y.1 z.1 t.1)) D hp #[_,bZ,g2.pb];show .mk N hg z' s'
   . cases i
 . cases i
noncomputable def sealV (i:Nat) (Y:Ev):Option Ev:=match Y.vs[i]? with
 |some (!(Zs p))=>!#[Y.vs.set i (!(Zp (ZA (-Y.mu)))),Y.mu++[!p]]
 |_=>J
def wQ(i:Nat)(f:SF):SF:=λY=>(sealV i Y).bind f

open A in
theorem SR.sealV(s:SR K H0 Z0 U H Y pd)(h:PL.sealV i Y=!Y'):SR K H0 Z0 U H Y' pd:=by
 unfold PL.sealV at h;split at h
 . rename_i p F;let(v,N,q):=s.take F;let(_,Z,_,z,D):=q.top;let(a,W,_):=D.1 _ cf;let j:=fw W;subst j;let Q:=q.toCell.put N;have s3:SR K H0 Z0 U H #[(Y.vs.set i J).set i (!(Lc.sh (ZA (-Y.mu)))),Y.mu++[!p]] pd:=Q;grind
 . cases h
def QQ{st:Stmt}(h:PS X st (iw X.K f)):PS X st (iw X.K (wQ i f)):=PS.imp h λD U H q=>by let(H0,Z0,Y,pd,fl,s,h,k):=q;let(Y1,h1,h2):=b_ h;show#[H0,Z0,Y1,pd,fl,s.sealV h1,h2,k]
end
noncomputable def fQ (mu:Mu):Nat->PV->PV
 |0,p=>p
 |k+1,ZA n=>match mu[n]? with
  |some (!p)=>fQ mu k p
  |_=>ZA n
 |k+1,ZB ps=>ZB (ps.map (fQ mu k))
 |k+1,R ps=>R (ps.map (fQ mu k))
 |k+1,.dk ks ps=>.dk ks (ps.map (fQ mu k))
 |_+1,p=>p
theorem yz(i:∀p x,b9 K Z p x->b9 K Z (f p) x):∀{ps:List PV}{vs:List V},aK K Z ps vs->aK K Z (ps.map f) vs
 |[],vs=>λh=>h
 |p::ps,vs=>λh=>by let(v,r,rfl,h1,h2):=h.inv;show aK.cons (i p v h1) (yz i h2)
section
variable {X:Cx}
def FZ(fo:EF):EF:=λY=>(fo Y).bind λo=>match o.1.pv with
 |ZA n=>match o.2.mu[n]? with
  |some (!(R ws))=>(ws[-ws-1]?).map λp=>(Zp p,#[o.2.vs,o.2.mu.set n (!(R ws.dropLast))])
  |_=>J
 |_=>J
def VW(h:PE X (.Call (.Attribute o "pop" apos) [] [] cpos) (C2 X.K "list" C3 (tP X.K F))):PE X (.Call (.Attribute o "pop" apos) [] [] cpos) (tP X.K (FZ F)):=PE.imp h λU H Q q=>by
 let(H0,Z0,Y,pd,r,Y',s,h,k):=q;let(o',h1,h2):=b_ h;show#[H0,Z0,Y,pd,o'.1,o'.2,s,h1,λv H1 s1=>?_];split at h2
 . rename_i n en;split at h2
   . rename_i ws W;let(p,h3,h4):=de h2;let N:=s1.freeze;rw[en]at N;let(a,rfl,D):=N.cellO W;let(_,Z,_,z,so):=D.top;let(_,ea,(us,hu,_),_):=so.1 _ cf;cases ea;let(j,y,i,hy,s6):=D.popO h3;let s7:=(s6.perm ((gu _ _ _).cons _)).cellP (by show (o'.2.mu.set n J)[n]?=_;rw[kt ((eM.mp W).1)]);show#[Zl #[O,us,bY.of hu],a,j,y,O,O,i,hy,k _ _ ?_];grind
   . cases h2
 . cases h2
def j7(f:EF)(fl fh:OF):EF:=λY=>(f Y).bind λx=>(fl x.2).bind λy=>(fh y.2).bind λz=>match x.1.pv with
 |ZB ps=>if HT.sIx (-ps) 0 y.1=0/\HT.sIx (-ps) (-ps) z.1=-ps then J else !(Zp (ZB (rm ps y.1 z.1)),z.2)
 |_=>J
def uC{lo hi:Option Expr}(he:PE X e (tP X.K f))(hl:PO X lo (Fw X.K fl))(hu:PO X hi (Fw X.K fh)):PE X (.Subscript e (.Slice lo hi J p2) pos) (tP X.K (j7 f fl fh)):=PE.imp (KR NX he hl hu) λU H Q q=>by
 let(H0,Z0,Y,pd,r,Y',s,h,k):=q;let(x,h1,h2):=b_ h;let(y,h3,h4):=b_ h2;let(z,h5,i):=b_ h4;show#[H0,Z0,Y,pd,x.1,x.2,s,h1,λv H1 s1=>#[H0,Z0,x.2,_,y.1,y.2,s1.freeze,h3,λH2 s2=>#[H0,Z0,y.2,_,z.1,z.2,s2,h5,λH3 j=>?_]]];cases e:x.1.pv with
 |tup ps=>
  rw[e]at i j;have i:(if HT.sIx (-ps) 0 y.1=0/\HT.sIx (-ps) (-ps) z.1=-ps then J else !(Lc.sh (ZB (rm ps y.1 z.1)),z.2))=!(r,Y'):=i;split at i
  . cases i
  . rename_i hw;cases i;let(el,Z,hg,N,W,s4):=j.sh;let(a,F,rfl,g1,D):=W;show#[a,F,O,cW.same N.zh g1,by rw[D.length];show hw,λp hp=>k _ _ ?_];let(z',lz,s'):=s4.newF N hp;show .mk (Z:=Z.put p (.tup (uK F y.1 z.1))) el hg z' (s'.consS ?_);show#[p,_,O,cW.of bZ,D.cut.mono lz]
 |_=>grind
def VX{mu:Mu}:∀e∈cel g (mu.map λ_=>J),e.2=J:=λe F=>by let(v,l):=e;let(_,h2):=l_ F;let(o,ho,j):=dA.mp h2;let(o',_,D):=dA.mp ho;subst D;show j.symm
noncomputable def ψ:PV->Option Str
 |ZH z=>if -z<=100000 then !z else J
 |ZI i=>if i.natAbs.log2<1920 then (if -(toString i:Str)<=100000 then !(toString i) else J) else J
 |_=>J
def nW(c:Str)(f:EF):EF:=λY=>(f Y).bind λx=>(ψ x.1.pv).bind λz=>if -c+-z<=100000 then !(Zp (ZH (c++z)),x.2) else J
def wR(hc:-c<=100000)(he:PE X e (tP X.K f)):PE X (.JoinedStr [.Constant (.str c) j p1,.FormattedValue e (-1) J p2] p3) (tP X.K (nW c f)):=PE.imp (P1 () he) λU H Q q=>by
 let(H0,Z0,Y,pd,r,Y',s,h,k):=q;let(x,h1,h2):=b_ h;let(z,N,W):=b_ h2;let(hl,h5):=qZ W;cases h5;show#[H0,Z0,Y,pd,x.1,x.2,s,h1,λv H1 s1=>?_];let s2:=SR.freeze s1;have VY:-(c++z)<=sizeLine:=by rw[PySem.Str.length_append];show fx hl ()
 show#[z,?_,VY,(fx (fx () hl) ()),k _ H1 (s2.pop.scal pq)];let(_,r):=s2.repH;cases e:x.1.pv with
 |str y=>
  rw[e]at N r;let(_,rfl):=qZ N;have:=dN r;subst this;rfl
 |int i=>
  rw[e]at N r;obtain⟨hi,W⟩:i.natAbs.log2<1920/\(if -(toString i:Str)<=100000 then !(toString i) else J:Option Str)=!z:=by
   have F:(if i.natAbs.log2<1920 then (if -(toString i:Str)<=100000 then !(toString i) else J) else J:Option Str)=!z:=N;split at F
   . rename_i h;show#[h,F]
   . cases F
  let(_,rfl):=qZ W;have:=cF r;subst this;show aE hi
 |_=>rw[e]at N;cases N
def Ga(h:f Y=!(l,Y1))(j:ψ l.pv=!z)(i:-c+-z<=100000):nW c f Y=!(Zp (ZH (c++z)),Y1):=by unfold nW;grind
def SR.pop0O(s:SR K H0 Z0 U H Y ((.ref a,Zs (R (p::ws)))::pd)):
 ∃j y,H a=!(.lst (y::j))/\SR K H0 Z0 U (bp H a (.lst j)) Y ((.ref a,Zs (R ws))::(y,Zp p)::pd):=by
 let(F,Z,N,z,D):=s.top;let(b,eb,(j,hu,hr),_):=D.1 _ cf;cases eb;let(y,i,rfl,W,hd):=aK.inv hr;show#[i,y,hu,?_];let(Q,s'):=D.write (q:=R ws) z #[i,bZ,hd];let s2:=(s'.consS W).perm (gu (!y,!(Lc.sh p)) (!(V.ref a),!(Lc.own (R ws))) _);show .mk F N Q (s2.perm (dD.cons _))
def An(fo:EF):EF:=λY=>(fo Y).bind λo=>match o.1.pv with
 |ZA n=>match o.2.mu[n]? with
  |some (!(R (p::ws)))=>!(Zp p,#[o.2.vs,o.2.mu.set n (!(R ws))])
  |_=>J
 |_=>J

open A in
def VZ(h:PE X (.Call (.Attribute o "pop" apos) [z] [] cpos) (KZ X.K "list" Ue (tP X.K fo) (jR X.K (aj (ay 0) ao)))):PE X (.Call (.Attribute o "pop" apos) [z] [] cpos) (tP X.K (An fo)):=PE.imp h λU H Q q=>by
 let(H0,Z0,Y,pd,r,Y',s,h,k):=q;let(o',h1,h2):=b_ h;show#[H0,Z0,Y,pd,o'.1,o'.2,s,h1,λv H1 s1=>?_];split at h2
 . rename_i n en;split at h2
   . rename_i p ws W;let F:=s1.freeze;rw[en]at F;let(a,rfl,s5):=F.cellO W;let(_,Z,_,z,so):=s5.top;let(_,ea,(us,hu,_),_):=so.1 _ cf;cases ea;show#[Zl #[O,us,bY.of hu],H0,Z0,o'.2,_,[Zp (ZI 0)],o'.2,F,O,λvs H2 e2 sv=>?_];let(v1,rfl):=yZ e2;let s3:=sv;let(_,r):=s3.repH;have:=cF r;subst this;let s4:=s3.pop;let(a',j,D):=s4.cellO W;cases j;let(N,y,i,D):=D.pop0O;let hn:=(eM.mp W).1;let s7:=(D.perm ((gu _ _ _).cons _)).cellP ∅;show#[a,y::N,0,0,y,O,O,i,by decide,by decide,?_,O,?_]
     . unfold seqIndex?;simp
     . grind
   . cases h2
 . cases h2
def M3{Y Y1:Ev}{mu:Mu}(h1:fo Y=!(o,Y1))(j:o.pv=ZA n)(i:Y1.mu[n]?=!(!(R (p::ws))))(e:Y1.mu.set n (!(R ws))=mu):An fo Y=!(Zp p,#[Y1.vs,mu]):=by unfold An;grind
end
theorem ag.freezeC:∀(C:Sl){Z:ZG},ag K H0 Z H (C++ZN)->jQ H0 Z0 Z H->∃Z',iu Z Z'/\Z'.g=Z.g/\jQ H0 Z0 Z' H/\ag K H0 Z' H ZN/\∀e∈C,∀q,e.2=!(Zs q)->∃x,e.1=!x/\b9 K Z' q x
 |[],Z=>λQ z=>#[Z,iu.refl Z,O,z,Q,λe N=>by cases N]
 |(v,l)::C,Z=>λQ z=>by
  have rest:∀{j:ZG},iu Z j->j.g=Z.g->jQ H0 Z0 j H->ag K H0 j H (C++ZN)->(∀q,l=!(Zs q)->∃x,v=!x/\b9 K j q x)->∃Z',iu Z Z'/\Z'.g=Z.g/\jQ H0 Z0 Z' H/\ag K H0 Z' H ZN/\∀e∈(v,l)::C,∀q,e.2=!(Zs q)->∃x,e.1=!x/\b9 K Z' q x:=λ{j} lz W z1 i hv=>by
   let(Z',D,V5,z',n4,hc):=ag.freezeC C i z1;show#[Z',lz.trans D,V5.trans W,z',n4,λe N q hq=>?_];obtain rfl|N:=bP.mp N
   . let(x,ex,rx):=hv q hq;show#[x,ex,rx.mono D]
   . grind
  let i:=Q;cases l with
  |none=>show rest (iu.refl Z) O z (i.sub (f6 _ _)) λq h=>by cases h
  |some l=>
   cases l with
   |sh p=>show rest (iu.refl Z) O z (i.sub (f6 _ _)) λq h=>by cases h
   |own p=>
    let(j,lz,W,z1,F):=i.freeze z;let(x,ex,rx):=F.1 _ cf;show rest lz W z1 (F.sub (f6 _ _)) λq h=>by cases h;grind

open A in
theorem sW(j:∀(n:Nat)(a:Addr)(q:PV),Z.g[n]?=!a->mu[n]?=!(!q)->b9 K Z q (.ref a)):∀(k:Nat)(p:PV)(x:V),b9 K Z p x->b9 K Z (fQ mu k p) x
 |0=>λp x r=>r
 |k+1=>λp x r=>by
  cases p with
  |ptr n=>
   show b9 K Z (match mu[n]? with |some (!p)=>fQ mu k p |_=>ZA n) x;split
   . rename_i q Q;let(a,rfl,N):=r;show sW j k q _ ∅
   . show r
  |tup ps=>
   let(a,i,e,h1,h2):=r;show#[a,i,e,h1,yz (sW j k) h2]
  |lst ps=>
   let(a,i,e,h1,h2):=r;show#[a,i,e,h1,yz (sW j k) h2]
  |dk ks ps=>
   let(a,i,e,h1,z,h2):=r;show#[a,i,e,h1,z,yz (sW j k) h2]
  |_=>show r
theorem ag.nones:∀(C:Sl),(∀e∈C,e.2=J)->ag K H0 Z H ZN->ag K H0 Z H (C++ZN)
 |[]=>λ_ j=>j
 |(v,l)::C=>λh j=>by
  let e:=h _ cf;subst e;let s:=ag.nones C (λe i=>h e (dP _ i)) j;show#[λe i=>?_,?_]
  . obtain rfl|i:=bP.mp i
    . trivial
    . show s.1 e i
  . show ((((v,J):Option V×Option Lc)::(C++ZN)).filterMap mj).Nodup;rw[j1 (by cases v with |none=>rfl |some x=>cases x<;>rfl)];show s.2
def SR.meltD(k:Nat)(s:SR K H0 Z0 U H Y ((v,Zp p)::pd)):
 SR K H0 Z0 U H #[Y.vs,Y.mu.map λ_=>J] ((v,Zp (fQ Y.mu k p))::pd):=by
 let(el,Z,hg,z,r,so):=s.sh;let(Z',lz,eg,z',D,hc):=ag.freezeC (cel Z.g Y.mu) so z;let j:=ag.nones (cel Z'.g (Y.mu.map λ_=>J)) VX D;show .mk el ∅ z' (j.consS ?_);show sW (λn a q F hq=>?_) k p v (r.mono lz);rw[eg]at F;let(x,ex,rx):=hc _ (fL (zip_get (i:=n) (by rw[dS,F];rfl) (by rw[dS,hq];rfl))) q O;grind
section
variable {X:Cx}
def Gb(f:EF):EF:=λY=>(f Y).map λx=>(Zp (fQ x.2.mu 40 x.1.pv),#[x.2.vs,x.2.mu.map λ_=>J])
def V6(h:PE X e (tP X.K f)):PE X e (tP X.K (Gb f)):=PE.imp h λU H Q q=>by let(H0,Z0,Y,pd,l,Y',s,f,k):=q;let(x,h1,h2):=de f;cases h2;show#[H0,Z0,Y,pd,x.1,x.2,s,h1,λv H1 j=>k v H1 (j.freeze.meltD 40)]
def V9(h:f Y=!(l,Y1))(j:fQ Y1.mu 40 l.pv=p):Gb f Y=!(Zp p,#[Y1.vs,Y1.mu.map λ_=>J]):=by unfold Gb;grind
end
class HK where
 hk:List aV->Int
noncomputable def okP:PV->Option aV
 |.non=>!J
 |ZI i=>!(!(.inl i))
 |ZH x=>!(!(.inr x))
 |_=>J
def pX:List PV->Option (List aV)
 |[]=>![]
 |p::ps=>(okP p).bind λk=>(pX ps).map (k::·)
def V_(h:okP p=!k)(r:b9 K Z p v):v=nR k:=by
 cases p with
 |non=>cases h;show jL r
 |int i=>cases h;show cF r
 |str x=>cases h;show dN r
 |_=>cases h
theorem ug:∀{ps:List PV}{vs:List V}{ks:List aV},pX ps=!ks->aK K Z ps vs->vs=ks.map nR
 |[],vs,ks=>λh r=>by cases h;show r.inv0
 |p::ps,vs,ks=>λh r=>by let(v,D,rfl,h1,h2):=r.inv;let(k,z,i):=b_ h;let(t,q,j):=de i;cases j;rw[V_ z h1,ug q h2];rfl
abbrev Aw:=List (List aV×PV)
def j0:Aw->List aV->Option PV
 |[],_=>J
 |kv::r,k=>if kv.1=k then !kv.2 else j0 r k
def SM{xs:XD}:jT (x::xs) k=if x.1=k then !x.2.2 else jT xs k:=by
 unfold jT;by_cases e:x.1=k
 . grind
 . grind
theorem yC:∀{xs:XD}{ps:List PV},aK K Z ps (xs.map (·.2.2))->(∀p,j0 ((xs.map (·.1)).zip ps) k=!p->∃v,jT xs k=!v/\b9 K Z p v)/\(j0 ((xs.map (·.1)).zip ps) k=J->jT xs k=J)
 |[],ps=>λh=>#[λp e=>(by cases e),λ_=>O]
 |x::xs,[]=>λh=>by have:=h.inv0;grind
 |x::xs,p::ps=>λh=>by
  let(v,r,e,h1,h2):=h.inv;injection e with i j;subst i j;let z:=yC (k:=k) h2;rw[SM];show (∀q,(if x.1=k then !p else j0 ((xs.map (·.1)).zip ps) k)=!q->_)/\((if x.1=k then !p else j0 ((xs.map (·.1)).zip ps) k)=J->_);by_cases e:x.1=k
  . grind
  . grind
def SR.setX(s:SR K H0 Z0 U H Y ((v,Zp p)::(kb,Zp (ZB kp))::(.ref a,Zs (.dx hk ks ps))::pd))(ek:pX kp=!k):
 ∃b xs,kb=.ref b/\H a=!(.ext (wA hk a xs))/\(∀x∈xs,cW K H x.2.1 (x.1.map nR))/\cW K H b (k.map nR)/\-xs=-ks/\
  (j0 (ks.zip ps) k=J->jT xs k=J/\SR K H0 Z0 U (bp H a (.ext (wA hk a (xs++[(k,b,v)])))) Y ((.ref a,Zs (.dx hk (ks++[k]) (ps++[p])))::(v,Zp p)::pd))/\
  (∀q,j0 (ks.zip ps) k=!q->∃u,jT xs k=!u/\SR K H0 Z0 U H Y ((u,Zp q)::(.ref a,Zs (.dx hk ks ps))::pd)):=by
 let(el,Z,hg,z,r,so):=s.sh;let j:=so.perm dD.symm;let(x,e1,rk):=j.1 _ cf;cases e1;let(b,ws,rfl,hb,Q):=rk;let ew:=ug ek Q;subst ew;let F:=j.sub (f6 _ _);let D:=F.perm dD.symm;let(_,eb,(xs,hu,W,Wa,hr),_):=D.1 _ cf;cases eb;subst W;let hv:=yC (k:=k) hr;show#[b,xs,O,hu,λx i=>cW.same z.zh (Wa x i),cW.same z.zh hb,by rw[ck],λhn=>#[hv.2 hn,?_],λq hq=>?_]
 . let N:=(D.consS r).perm (gu _ _ _);let(z',s'):=N.write (q:=.dx hk (xs.map (·.1)++[k]) (ps++[p])) z #[xs++[(k,b,v)],bZ,by rw[d0];rfl,(λx i=>(by
    obtain i|i:=dy.mp i
    . grind
    . rw[ga.mp i];show hb)),by rw[d0];show hr.append (aK.cons r .nil)]
   show .mk el hg z' (s'.perm (dD.symm.cons _).symm)
 . let(u,e,ru):=hv.1 q hq;show#[u,e,.mk el hg z (F.consS ru)]
def SR.takeX(s:SR K H0 Z0 U H Y pd)(e:Y.vs[i]?=!(!(Zs (.dx hk ks ps)))):
 ∃a xs,U[i]?=!(!(.ref a))/\H a=!(.ext (wA hk a xs))/\SR K H0 Z0 U H (Y.set i J) ((.ref a,Zs (.dx hk ks ps))::pd):=by
 let(v,N,q):=s.take e;let(_,Z,_,z,D):=q.top;let(a,F,(xs,Q,_),_):=D.1 _ cf;let j:=fw F;subst j;show#[a,xs,N,Q,q]
def SR.seal(N:SR K H0 Z0 U H Y ((v,Zs p)::pd)):SR K H0 Z0 U H #[Y.vs,Y.mu++[!p]] ((v,Zp (ZA (-Y.mu)))::pd):=by
 let(F,Z,W,z,j):=N.top;let(a,ea,ra,za,ET):=j.1 _ cf;let i:=fw ea;subst i;have D:iu Z #[Z.z,Z.g++[a]]:=#[eY_.refl _,va _ _];let q:=j.step D λe he b Q=>#[O,(jn j he Q).1];show .mk (Z:=#[Z.z,Z.g++[a]]) F ∅ #[z.zh,z.h0,z.z0.trans D,z.new] (ag.consS ?_ ?_)
 . show q.perm ?_;have ec:cel (Z.g++[a]) (Y.mu++[!p])=cel Z.g Y.mu++[(!(.ref a),!(Zs p))]:=by unfold cel;rw[d0,d0,md ∅];rfl
   show Perm (cel (Z.g++[a]) (Y.mu++[!p])++_) _;rw[ec,d6];show gI
 . show#[a,O,by show (Z.g++[a])[-Y.mu]?=!a;rw[W,hZ ()];simp]
def Ev.set_self(e:Y.vs[i]?=!l):Y.set i l=Y:=by show Ev.mk (Y.vs.set i l) Y.mu=Y;let(hi,j):=eM.mp e;rw[<-j,set_getElem_self]
section
variable {X:Cx}[HK]
def Vt:EF:=λY=>!(Zs (.dx HK.hk [] []),Y)
def Fd(j:HK.hk=CT X.prog X.w):PE X (.Dict [] [] pos) (tP X.K Vt):=PE.imp W4 λU H Q q=>by let(H0,Z0,Y,pd,l,Y',s,f,k):=q;cases f;show λp z=>k _ _ (s.newO z λZ _ _=>#[[],by rw[bZ,j];rfl,O,(λx j=>(by cases j)),aK.nil])
open Classical in
def BR(i:Nat)(fk:EF):EF:=λY=>match Y.vs[i]? with
 |some (!(Zs (.dx _ _ _)))=>(fk Y).bind λy=>match y.1.pv,y.2.vs[i]? with
  |ZB kp,!(!(Zs (.dx hk ks ps)))=>(pX kp).bind λk=>if hk=HK.hk/\-ks<100000 then
   (match j0 (ks.zip ps) k with
   |some p=>!(Zp p,y.2)
   | none=>!(Zp (ZA (-y.2.mu)),#[y.2.vs.set i (!(Zs (.dx hk (ks++[k]) (ps++[ZA (-y.2.mu)])))),y.2.mu++[!(R [])]]))
   else J
  |_,_=>J
 |_=>J

open A in
def Wb(hx:HK.hk=CT X.prog X.w)(h:PE X (.Call (.Attribute o "setdefault" apos) [e1,e2] [] cpos) (λU H Q=>uH i U H λx H1=>(∃a hk xs,x=.ref a/\H1 a=!(.ext (wA hk a xs)))/\jR X.K (aj fk (aj (cu ao) ao)) U H1 λvs H2=>Uw X.prog X.w X.K x vs H2 Q)):
 PE X (.Call (.Attribute o "setdefault" apos) [e1,e2] [] cpos) (tP X.K (BR i fk)):=PE.imp h λU H Q q=>by
 let(H0,Z0,Y,pd,r,Y',s,h,k):=q;unfold BR at h;split at h
 . rename_i mP E_ Fa e0;let(y,h1,h2):=b_ h;let(a,xs,ea,hu,_):=s.takeX e0;show#[.ref a,ea,#[a,mP,xs,O,hu],H0,Z0,Y,pd,[y.1,Zs (R [])],y.2,s,?_,λvs H2 e2 s2=>?_]
   . unfold aj ao cu;simp[h1]
   . let(v1,D,rfl):=sP e2;let Wc:=s2;split at h2
     . rename_i kp hk ks ps e3 e4;let(W,ek,F):=b_ h2;split at F
       . rename_i hc;let(C_,wo):=hc;subst C_;let s3:=Wc.freeze;rw[e3]at s3;cases hv:j0 (ks.zip ps) W with
         |some p=>
          rw[hv]at F;cases F;let(a',Fh,j,sg,s4):=s3.swap.freeze.takeX e4;rw[ea]at j;cases j;let s5:=s4.perm (ky (l₁:=[(D,Lc.sh (R [])),(v1,Zp (ZB kp))]) (l₂:=[(.ref a,Zs (.dx HK.hk ks ps))]) |>.append_right pd);let(b,z,rfl,g1,g2,g3,g4,_,g6):=s5.setX ek;let(u,eu,s6):=g6 p hv;show#[a,b,z,W,D,O,O,by rw[g1];unfold dX;rw[hx],g2,g3,by rw[g4,iE];lia,?_];rw[eu];let N:=s6.swap.put ea;rw[Ev.set_set,Ev.set_self e4]at N;show k _ _ N
         |none=>
          rw[hv]at F;cases F;let Wd:=s3.swap.seal;let(a',Fh,j,sg,s4):=Wd.takeX e4;rw[ea]at j;cases j;let s5:=s4.perm (ky (l₁:=[(D,Lc.sh (ZA (-y.2.mu))),(v1,Zp (ZB kp))]) (l₂:=[(.ref a,Zs (.dx HK.hk ks ps))]) |>.append_right pd);let(b,z,rfl,g1,g2,g3,g4,g5,_):=s5.setX ek;let(eu,s6):=g5 hv;show#[a,b,z,W,D,O,O,by rw[g1];unfold dX;rw[hx],g2,g3,by rw[g4,iE];lia,?_];rw[eu];let N:=s6.put ea;rw[Ev.set_set]at N;have e9:(.ext (wA (CT X.prog X.w) a (z++[(W,b,D)])):HO)=dX X.prog X.w a (z++[(W,b,D)]):=O;rw[<-e9,<-hx];show k _ _ N
       . cases F
     . cases h2
 . cases h
open Classical in
def yD(fo fk:EF):EF:=λY=>(fo Y).bind λx=>match x.1.pv with
 |.dx hk ks ps=>(fk x.2).bind λy=>match y.1.pv with
  |ZB kp=>(pX kp).bind λk=>if hk=HK.hk then !(match j0 (ks.zip ps) k with |some p=>Zp p |none=>Zs (R []),y.2) else J
  |_=>J
 |_=>J

open A in
def Zi(hx:HK.hk=CT X.prog X.w)(h:PE X (.Call (.Attribute o "get" apos) [e1,e2] [] cpos) (λU H Q=>tP X.K fo U H λx H1=>(∃a hk xs,x=.ref a/\H1 a=!(.ext (wA hk a xs)))/\jR X.K (aj fk (aj (cu ao) ao)) U H1 λvs H2=>Y8 X.prog X.w X.K x vs H2 Q)):
 PE X (.Call (.Attribute o "get" apos) [e1,e2] [] cpos) (tP X.K (yD fo fk)):=PE.imp h λU H Q q=>by
 let(H0,Z0,Y,pd,r,Y',s,h,k):=q;let(x,h1,h2):=b_ h;show#[H0,Z0,Y,pd,x.1,x.2,s,h1,λv H1 s1=>?_];split at h2
 . rename_i hk ks ps e0;let(y,h3,h4):=b_ h2;let s2:=s1.freeze;rw[e0]at s2;let(el,Z,hg,z,rd,so):=s2.sh;let(a,xs,rfl,g1,g2,g3,g4):=rd;show#[#[a,hk,xs,O,z.zh _ _ g1],H0,Z,x.2,pd,[y.1,Zs (R [])],y.2,#[el,Z,hg,#[z.zh,z.h0,iu.refl Z,λb o e=>Zl e],so],?_,λvs H2 e2 s3=>?_]
   . unfold aj ao cu;simp[h3]
   . let(v1,v2,rfl):=sP e2;let We:=s3;split at h4
     . rename_i kp e3;let(W,ek,h5):=b_ h4;split at h5
       . rename_i hc;subst hc;cases h5;let s4:=We.freeze;rw[e3]at s4;let(D,Z2,j,i,rk,F):=s4.sh;let(b,ws,rfl,hb,nV):=rk;let ew:=ug ek nV;subst ew;subst g2;let hv:=yC (k:=W) g4;show#[a,b,xs,W,v2,O,O,?_,λx hx=>cW.same i.zh (cW.same i.z0.1 (g3 x hx)),cW.same i.zh hb,?_]
         . rw[i.zh _ _ (i.z0.1 _ _ g1),hx];rfl
         have zz:jQ H0 Z0 Z2 H2:=#[i.zh,i.h0,z.z0.trans i.z0,λb o e=>by
          obtain q|q:=i.new b o e
          . show z.new b o q
          . show YY q]
         cases N:j0 ((xs.map (·.1)).zip ps) W with
         |some p=>
          let(u,eu,ru):=hv.1 p N;rw[eu];rw[N]at k;show k _ _ (.mk D j zz ((F.perm dD.symm).sub (f6 _ _) |>.consS (ru.mono i.z0)))
         |none=>
          rw[hv.2 N];rw[N]at k;show k _ _ (.mk D j zz (F.perm dD.symm))
       . cases h5
     . cases h4
 . cases h2
noncomputable def meltL:Mu->List PV->Option (List PV×Mu)
 |mu,[]=>!([],mu)
 |mu,ZA n::ps=>match mu[n]? with
  |some (!q)=>(meltL (mu.set n J) ps).map λr=>(q::r.1,r.2)
  |_=>J
 |_,_=>J
theorem ag.meltL:∀{ps qs:List PV}{mu i:Mu}{vs:List V}{Z:ZG},PL.meltL mu ps=!(qs,i)->aK K Z ps vs->-mu=-Z.g->jQ H0 Z0 Z H->ag K H0 Z H (cel Z.g mu++ZN)->
 ∃Z',iu Z Z'/\Z'.g=Z.g/\jQ H0 Z0 Z' H/\ag K H0 Z' H (cel Z'.g i++ZN)/\aK K Z' qs vs/\-i=-mu
 |[],qs,mu,i,vs,Z=>λh r hg z W=>by cases h;show#[Z,iu.refl Z,O,z,W,r,O]
 |p::ps,qs,mu,i,vs,Z=>λh r hg z W=>by
  cases p with
  |ptr n=>
   unfold PL.meltL at h;split at h
   . rename_i q hm;let(t,h1,h2):=de h;cases h2;let(v,vr,rfl,r1,r2):=r.inv;let(a,rfl,ha):=r1;let(C,p1,p2):=Ai ha hm;let Wp:=W.perm (p1.append_right _).symm;let(Q,lz,eg,z1,j):=Wp.freeze z;let(x,ex,rx):=j.1 _ cf;cases ex;let D:=j.sub (f6 _ _);have WA:ag K H0 Q H ((!(.ref a),J)::(C++ZN)):=by
      show#[λe he=>?_,?_]
      . obtain rfl|he:=bP.mp he
        . trivial
        . show D.1 e he
      .  show D.2
     have N:ag K H0 Q H (cel Q.g (mu.set n J)++ZN):=by rw[eg];show WA.perm ((p2 J).append_right _)
     let(Z2,F,WB,z2,WC,r7,l7):=ag.meltL h1 (r2.mono lz) ∅ z1 N;show#[Z2,lz.trans F,WB.trans eg,z2,WC,aK.cons (rx.mono F) r7,by simpa using l7]
   . cases h
  |_=>cases h
def M4(f:EF):EF:=λY=>(f Y).bind λx=>match x.1.pv with
 |.dx hk ks ps=>(meltL x.2.mu ps).map λr=>(Zp (.dx hk ks r.1),#[x.2.vs,r.2])
 |_=>J

open A in
def WE(h:PE X e (tP X.K f)):PE X e (tP X.K (M4 f)):=PE.imp h λU H Q q=>by
 let(H0,Z0,Y,pd,l,Y',s,f,k):=q;let(x,h1,h2):=b_ f;show#[H0,Z0,Y,pd,x.1,x.2,s,h1,λv H1 s1=>?_];split at h2
 . rename_i hk ks ps N;let(r,h3,h4):=de h2;cases h4;let j:=s1.freeze;rw[N]at j;let(F,Z,hg,z,rd,so):=j.sh;let(a,xs,rfl,g1,g2,g3,g4):=rd;let(Z2,D,eg,W,i,r2,l2):=ag.meltL h3 g4 hg z so;show k _ H1 (.mk F ∅ W (ag.consS i ?_));show#[a,xs,O,D.1 _ _ g1,g2,λx hx=>cW.same D.1 (g3 x hx),r2]
 . cases h2
end
section
variable {X:Cx}
def qw(i:Nat){pos:Pos}(q:X.N[i]?=!x:=by rfl)(z:Tv X.env.scope x:=by first |show Or.inl O |show Or.inr (Or.inl O) |show Or.inr (Or.inr O))(D:(x==("__debug__" : Str))=M:=by decide)(j:(x==("__classdict__" : Str))=M:=by decide):PE X (.Name x pos) (tP X.K (aa i)):=qv (pv i q z D j)
def aQ{j}:PE X (.Constant (.int i) j pos) (tP X.K (ay i)):=qc L8 gF
def bT{j}:PE X (.Constant (.str i) j pos) (tP X.K (dW i)):=qc L_ pq
def Jg{j}:PE X (.Constant .none j pos) (tP X.K (eC .non)):=qc L9 Bq
def qI{j}(q:PE X a (tP X.K fa)):PE X (.Subscript a (.Constant (.int i) j p) pos) (tP X.K (aJ fa (ay i))):=fP q aQ (λ_ _=>O)
def qL{p pos:Pos}(b:X.mg "len"=J)(h:PE X e (tP X.K f))(q:Gl X "len":=by rfl)(j:starEach [e] X.env=(M,eval e X.env)::starEach [] X.env:=by rfl):PE X (.Call (.Name "len" p) [e] [] pos) (tP X.K (eB cz (aj f ao))):=wJ uJ Vf (iQ uJ q b vi (ak h aq j) (he:=j))
def cU(i:Nat){pos pos':Pos}(q:X.N.Nodup)(he:PE X e (tP X.K f))(hi:X.N[i]?=!x:=by rfl)(j:L2.Loc X.env.scope x:=by show Or.inl O)(hs:swapsWith e (!(.Name x pos')) pos.line X.env=pure M:=by rfl)(z:X.fn x=G\/X.env.scope.names.lookup x=!.local:=by first |show Zl O |show YY O |assumption):
 PS X (.Assign [.Name x pos'] e pos) (iw X.K (aL i f)):=wI q hi j he hs z
def cQ(i:Nat){pos:Pos}(q:X.N.Nodup)(hi:X.N[i]?=!x:=by rfl)(j:L2.Loc X.env.scope x:=by show Or.inl O)(z:X.fn x=G\/X.env.scope.names.lookup x=!.local:=by first |show Zl O |show YY O |assumption):PG X (.Name x pos) (J4 i):=PB q hi j z
def jx{z F:List Str}{W:List Nat}{sc:Scope}(S:Scope)(Q:X.env.scope=S:=by rfl)(q:sc.kind=.function:=by rfl)(j:∀y∈sc.names,y.2=.local->sc.names.lookup y.1=!.local:=by decide +kernel)(cel:∀y∈sc.names,y.2=.cell->sc.names.lookup y.1=!.cell:=by decide +kernel)
 (own:∀p∈sc.names,p.2=.free->S.names.lookup p.1=!.cell\/S.names.lookup p.1=!.free:=by decide +kernel) (frs:∀x∈F,sc.names.lookup x=!.free:=by decide +kernel) (D:W.map (λi=>X.N[i]?)=F.map some:=by rfl):jE X z F W sc:=UD S Q q j cel own frs D
def yE{apos cpos pos:Pos}(q:PE X o (uH i))(he:PE X e (tP X.K f))(j:starEach [e] X.env=(M,eval e X.env)::starEach [] X.env:=by rfl)(h1:attributeBase o "append" X.env (eval o X.env)=eval o X.env:=by rfl)
 (h2:((backTo cpos (starEach [e] X.env)).all (λx=>not x.1)&&(backToKw cpos (keywordEach [] X.env)).all (λx=>x.1.isSome)
   && decide (-([e]:List Expr)+-([]:List Keyword)+(if ([]:List Keyword).isEmpty then 0 else 1)<30))=G:=by rfl) (z:(apos.endLine==cpos.line)=G:=by rfl) (hs:swapsWith (.Call (.Attribute o "append" apos) [e] [] cpos) J pos.line X.env=pure M:=by rfl):
 PS X (.Expr (.Call (.Attribute o "append" apos) [e] [] cpos) pos) (iw X.K (jM i f)):=T0 (qK (rR F.plainAttrs_list F.slot_list_append F.type_list_append oY q (ak he aq j) h1 h2 z j) hs)
def nM{apos cpos pos:Pos}(q:PE X o (uH i))(he:PE X e (tP X.K f))(j:starEach [e] X.env=(M,eval e X.env)::starEach [] X.env:=by rfl)(h1:attributeBase o "extend" X.env (eval o X.env)=eval o X.env:=by rfl)
 (h2:((backTo cpos (starEach [e] X.env)).all (λx=>not x.1)&&(backToKw cpos (keywordEach [] X.env)).all (λx=>x.1.isSome)
   && decide (-([e]:List Expr)+-([]:List Keyword)+(if ([]:List Keyword).isEmpty then 0 else 1)<30))=G:=by rfl) (z:(apos.endLine==cpos.line)=G:=by rfl) (hs:swapsWith (.Call (.Attribute o "extend" apos) [e] [] cpos) J pos.line X.env=pure M:=by rfl):
 PS X (.Expr (.Call (.Attribute o "extend" apos) [e] [] cpos) pos) (iw X.K (gb i f)):=T1 (qK (rR F.plainAttrs_list F.slot_list_extend F.type_list_extend R5 q (ak he aq j) h1 h2 z j) hs)
def wq(f:EF):EF:=λY=>(f Y).bind λx=>match x.1.pv with
 |R ps=>!(Zp (ZB ps),x.2)
 |_=>J
open A in
def WG(h:PE X (.Call (.Name "tuple" p) [e] [] pos) (zN (λxs H Q=>∃p ys,xs=[.ref p]/\((bY X.K H p ys/\∀l,H l=J->Q (.ref l) (bp H l (.tup ys)))\/(cW X.K H p ys/\Q (.ref p) H))) (jR X.K (aj f ao)))):PE X (.Call (.Name "tuple" p) [e] [] pos) (tP X.K (wq f)):=PE.imp h λU H Q q=>by
 let(H0,Z0,Y,pd,l,Y',s,h,k):=q;let(x,h1,h2):=b_ h;show#[H0,Z0,Y,pd,[x.1],x.2,s,?_,λvs H1 e1 s1=>?_]
 . unfold aj ao;rw[h1];rfl
 . let(v,rfl):=yZ e1;let j:=SR.freeze s1;split at h2
   . rename_i ps e;cases h2;rw[e]at j;let(F,Z,hg,z,r,so):=j.sh;let(a,ws,rfl,r1,r2):=r;show#[a,ws,O,Zl #[bY.same z.zh r1,λb hb=>k _ _ ?_]];let(D,sz,s'):=so.newF z hb;show .mk (Z:=Z.put b (.tup ws)) F hg D (s'.consS ?_);show#[b,ws,O,cW.of bZ,r2.mono sz]
   . cases h2
def wt(fo fi fv:EF):SF:=λY=>(fv Y).bind λx=>(fo x.2).bind λo=>(fi o.2).bind λy=>match o.1.pv,MJ y.1.pv with
 |ZA n,!k=>match y.2.mu[n]? with
  |some (!(.dk ks ps))=>if -ks<100000 then !(.nx #[y.2.vs,y.2.mu.set n (!(nG (uV (ks.zip ps) k x.1.pv)))]) else J
  |_=>J
 |_,_=>J
open A in
def WH(h:PS X (.Assign [.Subscript o ix tpos] e pos) (Rz (tP X.K fv) (Wk (tP X.K fo) (tP X.K fi) Y6))):PS X (.Assign [.Subscript o ix tpos] e pos) (iw X.K (wt fo fi fv)):=PS.imp h λD U H q=>by
 let(H0,Z0,Y,pd,fl,s,h,k):=q;let(x,h1,h2):=b_ h;let(o,h3,h4):=b_ h2;let(y,h5,j):=b_ h4;show#[H0,Z0,Y,pd,x.1,x.2,s,h1,λv H1 s1=>#[H0,Z0,x.2,_,o.1,o.2,s1.freeze,h3,λw H2 s2=>#[H0,Z0,o.2,_,y.1,y.2,s2.freeze,h5,λt H3 s3=>?_]]];split at j
 . rename_i n z en ek;split at j
   . rename_i ks ps em;split at j
     . cases j;let(_,WI):=s3.freeze.repH;let et:=G9 ek WI;let s4:=s3.pop;rw[en]at s4;let(a,rfl,s5):=s4.cellO em;let s6:=s5.perm ((List.Perm.swap _ _ _).trans ((List.Perm.swap _ _ _).cons _));let(F,hu,hl,s7):=s6.setD;let s8:=s7.cellP (by show (y.2.mu.set n J)[n]?=_;rw[kt ((eM.mp em).1)]);show#[a,_,O,Zl #[F,z,hu,et,by rw[hl,sizeLine_eq];lia,O],k U _ ?_];let s9:=s8;rw[(oQ ..)]at s9;show s9
     . cases j
   . cases j
 . cases j
end
section
variable {X:Cx}
def rT(f:EF):EF:=λY=>(f Y).bind λx=>match x.1.pv with
 |R ps=>(BJ ps).bind λss=>if -ss<4000 then !(Zs (R ((pU (uX ss)).map PV.str)),x.2) else J
 |_=>J
def Az(h:PE X (.Call (.Name "sorted" p) [.Call (.Name "set" p') [e] [] pos'] [] pos) (zN (Eb X) (J5 (zN (DC X) (jR X.K (aj f ao))) KJ))):PE X (.Call (.Name "sorted" p) [.Call (.Name "set" p') [e] [] pos'] [] pos) (tP X.K (rT f)):=PE.imp h λU H Q q=>by
 let(H0,Z0,Y,pd,l,Y',s,h,k):=q;let(x,h1,h2):=b_ h;show#[H0,Z0,Y,pd,[x.1],x.2,s,?_,λvs H1 e1 s1=>?_]
 . unfold aj ao;rw[h1];rfl
 . let(v,rfl):=yZ e1;let s2:=SR.freeze s1;cases e:x.1.pv with
   |lst ps=>
    rw[e]at h2 s2;let(j,g1,F):=b_ h2;split at F
    . rename_i hl;cases F;let(el,Z,hg,z,r,so):=s2.sh;let(a,us,rfl,r1,r2):=r;let eu:=Jd g1 r2;subst eu;show#[a,j,O,bY.same z.zh r1,hl,λb hb=>?_];let(z',lz,n4):=so.newF z hb;show#[b,j,O,bZ,hl,λc sL hc n m D=>k _ _ ?_];rw[XS n m D];let(z2,s3):=n4.new (p:=R ((pU (uX j)).map PV.str)) z' hc #[_,bZ,MN];show .mk (Z:=Z.put b (.ext (Ld X.prog X.w b j))) el hg z2 s3
    . cases F
   |_=>rw[e]at h2;cases h2
def WJ:PV->Option Lc
 |.dk ks _=>(pH ks).bind λss=>if -ss<4000 then !(Zs (R (ss.map PV.str))) else J
 |_=>J
abbrev AA:List PV->Option Lc:=λps=>match ps with |[p]=>WJ p |_=>J
def WO:lQ K DH AA:=lQ.one λH0 Z0 U Y pd H v p l Q s e k=>by
 let(D,Z,hg,z,r,s1):=s.sh;cases p with
 |dk ks ps=>
  let(j,h1,h2):=b_ e;split at h2
  . rename_i hl;cases h2;let(a,a_,rfl,h3,h4,h5):=r;show#[a,a_,j,O,z.zh _ _ h3,by rw[h4];show Fc h1,hl,λq hq=>k _ _ ?_];let(F,s'):=s1.new (p:=R (j.map PV.str)) z hq #[_,bZ,MN];show .mk D hg F s'
  . cases h2
 |_=>cases e
theorem M5:∀{l:List Nat},aK K Z (l.map λi=>PV.int (i:Nat)) (l.map λi=>V.int (i:Nat))
 |[]=>by  rfl
 |x::l=>#[.int x,l.map λi=>V.int (i:Nat),O,by unfold b9;rfl,M5]
def SN(f:EF):EF:=λY=>(f Y).bind λx=>match x.1.pv with
 |ZI j=>if 0<=j/\j<=100000 then !(Zs (R ((range j.toNat).map λi=>PV.int (i:Nat))),x.2) else J
 |_=>J
def WQ(h:PE X (.Call (.Name "list" p) [.Call (.Name "range" p') [e] [] pos'] [] pos) (zN (λxs H Q=>∃p j,xs=[.ref p]/\H p=!(.rng 0 j)/\0<=j/\j<=100000/\∀l,H l=J->Q (.ref l) (bp H l (.lst ((range j.toNat).map λi=>.int (i:Nat))))) (J5 (zN (λxs H Q=>∃j,xs=[.int j]/\∀r,H r=J->Q (.ref r) (bp H r (.rng 0 j))) (jR X.K (aj f ao))) KJ))):PE X (.Call (.Name "list" p) [.Call (.Name "range" p') [e] [] pos'] [] pos) (tP X.K (SN f)):=PE.imp h λU H Q q=>by
 let(H0,Z0,Y,pd,l,Y',s,h,k):=q;let(x,h1,h2):=b_ h;show#[H0,Z0,Y,pd,[x.1],x.2,s,?_,λvs H1 e1 s1=>?_]
 . unfold aj ao;rw[h1];rfl
 . let(v,rfl):=yZ e1;let F:=SR.freeze s1;cases e:x.1.pv with
   |int j=>
    rw[e]at h2 F;have h2:(if 0<=j/\j<=100000 then !(Lc.own (R ((range j.toNat).map λi=>PV.int (i:Nat))),x.2) else J)=!(l,Y'):=h2;split at h2
    . rename_i N;cases h2;let(el,Z,hg,z,r,so):=F.sh;subst r;show#[j,O,λb W=>?_];let(z',lz,D):=so.newF z W;show#[b,j,O,bZ,N.1,N.2,λc hc=>k _ _ ?_];let(z2,s3):=D.new (p:=R ((range j.toNat).map λi=>PV.int (i:Nat))) z' hc #[_,bZ,M5];show .mk (Z:=Z.put b (.rng 0 j)) el hg z2 s3
    . cases h2
   |_=>grind
end
section
variable {X:Cx}
def Fk:PV->Option Nat
 |.dk ks _=>!(-ks)
 |.df ks _=>!(-ks)
 |_=>J
def SR.dict(s:SR K H0 Z0 U H Y ((v,Zp p)::pd))(h:Fk p=!n):∃a a_,v=.ref a/\Rd H a (.dK a_)/\-a_=n:=by
 let(Z,z,r):=s.rep;unfold Fk at h;split at h
 . cases h;let(b,a_,rfl,j,D,_):=r;show#[b,a_,O,Zl (z _ _ j),by rw[<-D,ck]]
 . cases h;let(b,F,a_,rfl,j,D,_):=r;show#[b,a_,O,YY #[F,z _ _ j],by rw[<-D,ck]]
 . cases h
end
noncomputable def SQ:PV->Option aV
 |.non=>!J
 |ZI i=>!(!(.inl i))
 |ZH x=>!(!(.inr x))
 |_=>J
def BV:List PV->Option (List aV)
 |[]=>![]
 |p::ps=>(SQ p).bind λk=>(BV ps).map (k::·)
def BW:List PV->Option (List (List aV))
 |[]=>![]
 |ZB qs::ps=>(BV qs).bind λk=>(BW ps).map (k::·)
 |_::_=>J
def wU:aV->PV
 |none=>.non
 |some (.inl i)=>ZI i
 |some (.inr x)=>ZH x
abbrev Jh(a b:List aV):Prop:=a.map da<b.map da
def uY(k:List aV):List (List aV)->List (List aV)
 |[]=>[k]
 |l::r=>if Jh k l then k::l::r else if k=l then l::r else l::uY k r
def jV:List (List aV)->List (List aV)
 |[]=>[]
 |k::r=>uY k (jV r)
def WS(h1:¬ Jh a b)(h2:¬ a=b):Jh b a:=
 Classical.byContradiction λz=>h2 (Fg ∅)
theorem DP:∀{l:List (List aV)},y∈uY k l ↔ y=k\/y∈l
 |[]=>by unfold uY;simp
 |l::r=>by
  unfold uY;split
  . rw[bP]
  . split
    . grind
    . rw[bP,DP,bP];grind
theorem pC:∀{l:List (List aV)},y∈jV l ↔ y∈l
 |[]=>Iff.rfl
 |k::r=>by unfold jV;rw[DP,pC,bP]
theorem QR:∀{l:List (List aV)},l.Pairwise Jh->(uY k l).Pairwise Jh
 |[]=>λ_=>by  show pairwise_singleton _ _
 |l::r=>λh=>by
  let j:=pairwise_cons.mp h;unfold uY;split
  . rename_i q;show pairwise_cons.mpr #[λy i=>by
     obtain rfl|i:=bP.mp i
     . show q
     . show List.lt_trans q (j.1 y i),h]
  . rename_i q;split
    . show h
    . rename_i z;show pairwise_cons.mpr #[λy i=>?_,QR j.2];obtain rfl|i:=DP.mp i
      . show WS q z
      . show j.1 y i
theorem yF:∀{l:List (List aV)},(jV l).Pairwise Jh
 |[]=>.nil
 |k::r=>QR yF
theorem SX:∀{a b:List (List aV)},a.Pairwise Jh->b.Pairwise Jh->(∀y,y∈a ↔ y∈b)->a=b
 |[],[]=>λ_ _ _=>rfl
 |[],y::b=>λ_ _ m=>by cases (m y).mpr cf
 |x::a,[]=>λ_ _ m=>by cases (m x).mp cf
 |x::a,y::b=>λh1 h2 m=>by
  let aS:=pairwise_cons.mp h1;let q:=pairwise_cons.mp h2;have e:x=y:=by
   obtain e|e:=bP.mp ((m x).mp cf)
   . show e
   . obtain j|j:=bP.mp ((m y).mpr cf)
     . grind
     . grind
  subst e;rw[SX aS.2 q.2 λz=>?_];constructor
  . intro i;obtain e|e:=bP.mp ((m z).mp (dP _ i))
    . grind
    . show e
  . intro i;obtain e|e:=bP.mp ((m z).mpr (dP _ i))
    . grind
    . show e
def Vu:List (List aV)->Bool
 |[]=>G
 |k::r=>(k.map ph).head?==some 0&&(k::r).all λl=>l.map ph==k.map ph&&l.any λx=>ph x==1
def WU(h:Vu ks=G):∃sh,∀k∈ks,k.map ph=0::sh/\uN k:=by
 cases ks with
 |nil=>grind
 |cons k r=>
  unfold Vu at h;rw[iP,all_eq_true]at h;let(h1,h2):=h;let e:=eq_of_beq h1;cases q:k.map ph with
  |nil=>grind
  |cons x sh=>
   rw[q]at e;cases e;show#[sh,λl F=>?_];let z:=h2 l F;rw[iP,any_eq_true]at z;let(N,x,Q,D):=z;show#[by rw[<-q];show eq_of_beq N,?_];let j:=eq_of_beq D;obtain _|i|y:=x
   . cases j
   . cases j
   . show#[y,Q]
section
variable {X:Cx}
def Yb(h:SQ p=!k)(r:b9 K Z p v):v=nR k/\p=wU k:=by cases p<;>first |(cases h;unfold b9 at r;show#[r,O]) |cases h
theorem Ji:∀{ps:List PV}{vs:List V}{k:List aV},BV ps=!k->aK K Z ps vs->vs=k.map nR/\ps=k.map wU
 |[],vs,k=>λh r=>by cases h;show#[r,O]
 |p::ps,vs,k=>λh r=>by let(v,W,rfl,h1,h2):=r;let(x,Q,q):=b_ h;let(y,F,z):=de q;cases z;let(j,N):=Yb Q h1;let(i,D):=Ji F h2;show#[by rw[j,i];rfl,by rw[N,D];rfl]
theorem Jj:∀{ps:List PV}{vs:List V}{ks:List (List aV)},BW ps=!ks->aK K Z ps vs->∃bs:BK,vs=bs.map (λp=>V.ref p.1)/\bs.map (·.2)=ks/\∀p∈bs,cW K Z.z p.1 (p.2.map nR)/\b9 K Z (ZB (p.2.map wU)) (.ref p.1)
 |[],vs,ks=>λh r=>by cases h;show#[[],r,O,λp i=>by cases i]
 |p::ps,vs,ks=>λh r=>by
  let(v,r',rfl,h1,h2):=r;cases p with
  |tup qs=>
   let(k,g1,F):=b_ h;let(y,g3,W):=de F;cases W;let(bs,Q,e2,e3):=Jj g3 h2;let j:=h1;let(a,ws,rfl,q,q2):=h1;let(N,D):=Ji g1 q2;show#[(a,k)::bs,by rw[Q];rfl,by rw[fr,e2],λp i=>?_];obtain rfl|i:=bP.mp i
   . grind
   . show e3 p i
  |_=>cases h
theorem Jk:∀{cs:BK},(∀p∈cs,b9 K Z (ZB (p.2.map wU)) (.ref p.1))->aK K Z ((cs.map (·.2)).map λk=>PV.tup (k.map wU)) (cs.map λp=>V.ref p.1)
 |[]=>λ_=>.nil
 |p::cs=>λh=>aK.cons (h p cf) (Jk λq i=>h q (dP _ i))
def sX(f:EF):EF:=λY=>(f Y).bind λx=>match x.1.pv with
 |R ps=>(BW ps).bind λks=>if -ks<9000/\Vu ks=G then !(Zs (R ((jV ks).map λk=>ZB (k.map wU))),x.2) else J
 |_=>J
def Gd(h:PE X (.Call (.Name "sorted" p) [.Call (.Name "set" p') [e] [] pos'] [] pos) (zN (U7_ X) (J5 (zN (Za X) (jR X.K (aj f ao))) KJ))):PE X (.Call (.Name "sorted" p) [.Call (.Name "set" p') [e] [] pos'] [] pos) (tP X.K (sX f)):=PE.imp h λU H Q q=>by
 let(H0,Z0,Y,pd,l,Y',s,h,k):=q;let(x,h1,h2):=b_ h;show#[H0,Z0,Y,pd,[x.1],x.2,s,?_,λvs H1 e1 s1=>?_]
 . unfold aj ao;rw[h1];rfl
 . let(v,rfl):=yZ e1;let s2:=SR.freeze s1;cases e:x.1.pv with
   |lst ps=>
    rw[e]at h2 s2;let(ks,g1,F):=b_ h2;split at F
    . rename_i D;let(D,ho):=D;cases F;let(el,Z,hg,z,r,so):=s2.sh;let(a,us,rfl,r1,r2):=r;let(bs,eu,ek,N):=Jj g1 r2;let(sh,hs):=WU ho;subst eu;have lb:-bs<9000:=by rw[<-ek,ck]at D;show D
      have j:∀p∈bs,p.2.map ph=0::sh/\uN p.2:=λp i=>hs _ ∅;show#[a,bs,O,bY.same z.zh r1,λp i=>#[cW.same z.zh (N p i).1,(j p i).2],lb,λb kK=>?_];let(z',lz,n4):=so.newF z kK;show#[b,bs,sh,O,bZ,λp i=>#[cW.same z'.zh (cW.same lz.1 (N p i).1),(j p i).1],lb,λc cs hc m1 m2 pw=>k _ _ ?_];have es:cs.map (·.2)=jV ks:=by
       show SX ∅ yF λy=>?_;rw[pC,<-ek];constructor
       . intro W;let(p,i,rfl):=dA.mp W;show mem_map_of_mem (m1 p i)
       . intro W;let(p,i,rfl):=dA.mp W;grind
      rw[<-es];let(z2,s3):=n4.new (p:=R ((cs.map (·.2)).map λk=>PV.tup (k.map wU))) z' hc #[_,bZ,Jk λp i=>(N p (m1 p i)).2.mono lz];show .mk (Z:=Z.put b (.ext (Fj X.prog X.w b bs))) el hg z2 s3
    . cases F
   |_=>grind
def WV(P:Program)(w:World)(K:FG):R2:=λx y H Q=>∃a b xs k v,x=.ref a/\y=.ref b/\H a=!(dX P w a xs)/\(∀x∈xs,cW K H x.2.1 (x.1.map nR))/\cW K H b (k.map nR)/\jT xs k=!v/\Q v H
def WZ(hu:X.A.units+1<cLine):zP X (WV X.prog X.w X.K):=by intro value D ae s U H x y v u Q I rx W h hs;let(a,b,xs,k,z,rfl,rfl,hH,i,hb,hl,q):=h;cases rx;cases (W);let(z',m,ys,xr,N):=I.dx hH i;let(p',j,rp):=(xr.at).1 z hl;show tail_any N.typeIs F.slot_dict_getitem.lookup (wpAny_getItem_heap (tupleKind_room_in1 hu) (ux I hb) N j #[z,H,I.tok _,rp,q]) hs
variable [HK]
open Classical in
def S5(fa fb:EF):EF:=λY=>(fa Y).bind λx=>(fb x.2).bind λy=>match x.1.pv with
 |.dx hk ks ps=>match y.1.pv with
  |ZB kp=>(pX kp).bind λk=>if hk=HK.hk then (j0 (ks.zip ps) k).map λp=>(Zp p,y.2) else J
  |_=>J
 |_=>J

open A in
def W1(F:HK.hk=CT X.prog X.w)(hu:X.A.units+1<cLine)(ha:PE X a (tP X.K fa))(hb:PE X b (tP X.K fb))(hm:Bh b):PE X (.Subscript a b pos) (tP X.K (S5 fa fb)):=PE.imp (RX (WZ hu) ha hb hm) λU H Q q=>by
 let(H0,Z0,Y,pd,l,Y',s,f,k):=q;let(x,h1,h2):=b_ f;let(y,h3,j):=b_ h2;show#[H0,Z0,Y,pd,x.1,x.2,s,h1,λv H1 s1=>#[H0,Z0,x.2,_,y.1,y.2,s1.freeze,h3,λw H2 s2=>?_]];let(el,Z,hg,z,rl,so):=SR.repl (vs:=[w,v]) (ls:=[y.1,Zp x.1.pv]) s2 O;let(_,_,W,r1,D):=rl;cases W;let(_,_,W,D,_):=D;cases W;split at j
 . rename_i hk ks ps e0;split at j
   . rename_i kp e3;let(kk,ek,h5):=b_ j;split at h5
     . rename_i hc;subst hc;let(p,hp,h6):=de h5;cases h6;rw[e3]at r1;rw[e0]at D;let(b,ws,rfl,i,N):=r1;let(a,xs,rfl,g1,g2,g3,g4):=D;let ew:=ug ek N;subst ew;subst g2;let(u,eu,ru):=(yC g4).1 p hp;show#[a,b,xs,kk,u,O,O,?_,λx F=>cW.same z.zh (g3 x F),cW.same z.zh i,eu,k _ _ (.mk el hg z (so.consS ru))];rw[z.zh _ _ g1,F];rfl
     . cases h5
   . cases j
 . cases j
end
abbrev d4:=List (Option Lc)
def wu{α:Type}(o:Option α)(Q:α->Prop):Prop:=∃a,o=!a/\Q a
abbrev AB:=List (Option Lc)
def gv(e:o=!a)(q:Q a):wu o Q:=#[a,e,q]
def s_{α:Type}(v:α)(K:α->Prop):Prop:=K v
def nx{K:α->Prop}(e:v=j)(k:K j):s_ v K:=by subst e;show k
def lq(b:BF)(x:PV)(w:d4)(K:d4->Prop):Prop:=∃v1,(∀mu,b x #[w,mu]=!#[v1,mu])/\K v1
def bd{K:d4->Prop}(h:∀mu,b x #[w,mu]=!#[v1,mu])(e:v1=j)(k:K j):lq b x w K:=#[v1,h,e▸k]
def AC(v:d4)(i:Nat):Option PV:=match v[i]? with
 |some (!(Zp p))=>!p
 |_=>J
def lv(v:d4)(i:Nat):Option PV:=match v[i]? with
 |some (!(Zs p))=>!p
 |_=>J
def ly:PV->Option (List PV)
 |R ps=>!ps
 |_=>J
def Ea(v:d4)(i:Nat):Option (List PV):=(lv v i).bind ly
def Fm(h:AC v i=!p):v[i]?=!(!(Zp p)):=by
 unfold AC at h;split at h
 . grind
 . cases h
def n5(h:lv v i=!p):v[i]?=!(!(Zs p)):=by
 unfold lv at h;split at h
 . grind
 . cases h
def pI(h:Ea v i=!ps):v[i]?=!(!(Zs (R ps))):=by let(p,h1,h2):=b_ h;cases p<;>cases h2;show n5 h1
section
variable {ι α β:Type}
def W(f:Ev->Option (α×Ev))(v:d4)(m:ι->Mu)(Q:α->d4->(ι->Mu)->Prop):Prop:=∃a v' m',Q a v' m'/\∀i,f #[v,m i]=!(a,#[v',m' i])
def ZT(g:GF)(ps:List PV)(Q:Lc->Prop):Prop:=∃r,Q r/\∀mu,g ps mu=!(r,mu)
def dv(f:SF)(v:d4)(m:ι->Mu)(N:d4->(ι->Mu)->Prop)(ZI:Lc->(ι->Mu)->Prop):Prop:=(∃v' m',N v' m'/\∀i,f #[v,m i]=!(.nx #[v',m' i]))\/∃r v' m',ZI r m'/\∀i,f #[v,m i]=!(.rt r #[v',m' i])
variable {v v1:d4}{m:ι->Mu}{fa fb f:EF}{a:AF}{Q:Lc->d4->(ι->Mu)->Prop}{QA:List Lc->d4->(ι->Mu)->Prop}{am:Bool->d4->(ι->Mu)->Prop}{QI:List PV->d4->(ι->Mu)->Prop}{N:d4->(ι->Mu)->Prop}{ZI:Lc->(ι->Mu)->Prop}
def dv.mono(h:dv g v m N ZI)(k:∀v m,N v m->D v m)(k':∀r m,ZI r m->j r m):dv g v m D j:=h.elim (λ⟨v',m',q,e⟩=>Zl #[v',m',k _ _ q,e]) λ⟨r,v',m',q,e⟩=>YY #[r,v',m',k' _ _ q,e]
def dv.of(h:dv g' j D N ZI)(e:∀i,g #[v,m i]=g' #[j,D i]):dv g v m N ZI:=h.elim (λ⟨j,D,q,e2⟩=>Zl #[j,D,q,λi=>(e i).trans (e2 i)]) λ⟨r,j,D,q,e2⟩=>YY #[r,j,D,q,λi=>(e i).trans (e2 i)]
def W7{γ:Type}{ns:List γ}{e:γ->PV}{i:Int}(h0:0<=i)(h1:i< -ns)(q:∀c∈ns,S (.sh (e c))):wu (qG (.lst (ns.map e)) (.int i)) S:=by let(x,e1,e2):=uT (l:=ns.map e) h0 ∅;rw[dS]at e2;let(c,hc,rfl):=de e2;show#[_,by show (fO (ns.map e) i).map _=_;rw[e1];rfl,q c (fL hc)]
def W_{i n:Int}(h:0<n):0<=i%n/\i%n<n:=#[kA _ (Int.ne_of_gt h),lS _ h]
def wv:PV->Option Int
 |.int i=>!i
 |_=>none
def AD(h:wv p=!i):p=.int i:=by cases p<;>cases h;rfl
def AG:List PV->Option Int
 |[.int n]=>!n
 |_=>none
def Xr(h:AG (ls.map Lc.pv)=!n):∃l,ls=[l]/\l.pv=.int n:=by
 unfold AG at h;split at h
 . grind
 . cases h
def td(p:PV)(y z:Option Int):Option Lc:=match p with
 |R ps=>!(Zs (R (rm ps y z)))
 |ZH t=>if -t<=100000 then !(Zp (ZH (lY t y z))) else J
 |_=>J
def Xs{lo hi:OF}(h:W f v m λx v1 m1=>W lo v1 m1 λy v2 m2=>W hi v2 m2 λz v3 m3=>wu (td x.pv y z) λl=>Q l v3 m3):W (mF f lo hi) v m Q:=by
 let(x,_,_,(y,_,_,(z,v3,m3,(l,j,q),D),e2),e1):=h;show#[l,v3,m3,q,λi=>?_];unfold mF;rw[e1,cr,e2,cr,D,cr];cases e:x.pv<;>rw[e]at j<;>first
  |(cases j;rfl)
  |cases j
  |(unfold td at j;dsimp only at j ⊢;split at j<;>cases j;rename_i F;show aE F)
section
variable {x y:PV}{p q:Int}{S:Lc->Prop}(hx:x=.int p)(hy:y=.int q)
include hx hy
end
def tf:Nat->(d4->Prop)->Prop
 |0,P=>P []
 |n+1,P=>∀o,tf n λl=>P (o::l)
def Xt(h:P []):tf 0 P:=h
theorem tf.at:∀{n:Nat}{P:d4->Prop}{l:d4},tf n P->-l=n->P l
 |0,P,[],h,_=>h
 |n+1,P,o::l,h,e=>(h o).at (rS e)
def Fs(b:BF)(te:EF)(k:Nat)(r:d4)(xs:List PV)(S:List PV->Prop):Prop:=∃ys,S ys/\∀mu,dF b bB te xs #[List.replicate k J++r,mu] []=!(ys,mu)
def Ct(b:BF)(te:EF)(k:Nat)(r:d4)(x:PV)(P:PV->Prop):Prop:=tf k λl=>lq b x (l++r) λv1=>W te v1 (λmu:Mu=>mu) λy v2 m2=>m2=(λmu=>mu)/\v2.drop k=r/\Nat.ble k (-v2)=G/\P y.pv
theorem Fu:∀{L:List γ}{l:AB}{acc:List PV},-l=k->-acc+-L<=100000->(∀a∈L,Ct b te k r (e a) (P a))->
 ∃ys,Paired P L ys/\∀mu,dF b bB te (L.map e) #[l++r,mu] acc=!(acc++ys,mu)
 |[],l,acc,_,_,_=>#[[],.nil,λmu=>by rw[eJ];rfl]
 |a::L,l,acc,hl,F,hs=>by let(v1,e1,y,v2,m2,(rfl,hd,hk,z),e2):=(hs a cf).at hl;let hk:=Nat.le_of_ble_eq_true hk;rw[c5]at F;let(ys,p,D):=Fu (l:=v2.take k) (acc:=acc++[y.pv]) ∅ ∅ λc hc=>hs c (dP _ hc);show#[y.pv::ys,.cons z p,λmu=>?_];let j:=D mu;rw[<-hd,List.take_append_drop]at j;show (b (e a) _).bind _=_;rw[e1,cr];show (if G=G then (te _).bind _ else dF b bB te () #[v1,mu] acc)=_;rw[aE O,e2,cr,aE (),j];simp
def cw(L:List γ)(e:γ->PV)(P:γ->PV->Prop)(hx:xs=L.map e)(hl:-L<=100000)(hs:∀a∈L,Ct b te k r (e a) (P a))(q:∀ys,Paired P L ys->S ys):Fs b te k r xs S:=by subst hx;let(ys,p,h):=Fu (acc:=[]) List.length_replicate ∅ hs;show#[ys,q ys p,h]
theorem FA{f:γ->PV}:∀{L:List γ}{ys:List PV},Paired (λa y=>y=f a) L ys->ys=L.map f
 |_,_,.nil=>rfl
 |_,_,.cons h t=>by rw[h,FA t];rfl
def Xx{γ:Type}(L:List γ)(e:γ->PV)(f:γ->PV)(hx:xs=L.map e)(hl:-L<=100000)(hs:∀a∈L,Ct b te k r (e a) λy=>y=f a)(q:S (L.map f)):Fs b te k r xs S:=cw L e _ hx hl hs λys p=>by rw[FA p];show q
def tj(c6:List Nat)(v:d4):d4:=(ie c6 #[v,[]]).vs
theorem n9:∀{c6:List Nat}{v:AB}{mu:Mu},ie c6 #[v,mu]=#[tj c6 v,mu]
 |[],v,mu=>rfl
 |i::r,v,mu=>by
  unfold tj ie;rw[kC,kC];cases e:v[i]? with
  |none=> show n9
  |some o=>cases o with
   |none=> show n9
   |some l=> show n9
def n_{f g:SF}(h:dv f v m (λv1 m1=>dv g v1 m1 N ZI) ZI):dv (aF f g) v m N ZI:=by
 obtain⟨v1,m1,q,e⟩|⟨r,v1,m1,q,e⟩:=h
 . show q.of λi=>G7 (e i)
 . show .inr #[r,v1,m1,q,λi=>G8 (e i)]
def XA(h:wu (v[i]?).join λl=>ZI l m):dv (gZ i) v m N ZI:=let #[l,e,q]:=h;.inr #[l,v.set i none,m,q,λj=>by
 have e:v[i]?=!(!l):=by cases h:v[i]?<;>rw[h]at e<;>cases e;rfl
 show (match v[i]? with | some (!l)=>some (Fl.rt l (Ev.set #[v,m j] i none)) | _=>none)=_;rw[e];rfl]
def wx(q:N v m):dv bR v m N ZI:=.inl #[v,m,q,λ_=>rfl]
theorem FC:∀{xs:List PV}{v:d4}{m:ι->Mu}(I:Nat->d4->(ι->Mu)->Prop),I 0 v m->(∀(i:Nat) x v m,xs[i]?=!x->I i v m->lq b x v λv1=>dv body v1 m (I (i+1)) ZI)->(∀v m,I (-xs) v m->N v m)->dv (eN b body xs) v m N ZI
 |[],v,m,I,h0,_,hN=>.inl #[v,m,hN _ _ h0,λ_=>rfl]
 |x::xs,v,m,I,h0,hs,hN=>by
  let(v1,e1,h):=hs 0 x v m rfl h0;obtain⟨v2,m2,q,e2⟩|⟨r,v2,m2,q,e2⟩:=h
  . show dv.of (FC (λi=>I (i+1)) q (λi y v m e=>hs (i+1) y v m ()) hN) λi=>?_;show (b x _).bind _=_;rw[e1,cr,e2,cr]
  . show .inr #[r,v2,m2,q,λi=>by show (b x _).bind _=_;rw[e1,cr,e2,cr]]
def i7(I:d4->Nat->d4->(ι->Mu)->Prop)(h0:I v 0 v m)(hs:∀(i:Nat) x w m (N:d4->(ι->Mu)->Prop),xs[i]?=!x->(∀w m,I v (i+1) w m->N w m)->I v i w m->lq b x w λv1=>dv body v1 m N ZI)(hN:∀w m,I v (-xs) w m->N w m):dv (eN b body xs) v m N ZI:=FC (I v) h0 (λi x w m e h=>hs i x w m _ e (λ_ _ h=>h) h) hN
def Ny{lo:Int}(h:(jo lo n)[i]?=!x):i<n/\x=.int (lo+i):=by unfold jo at h;rw[dS]at h;let(j,hj,rfl):=de h;let(h1,h2):=eM.mp hj;rw[List.getElem_range]at h2;grind
def AH(h:∀ZI:Lc->(Mu->Mu)->Prop,(∀r,S r->ZI r λmu=>mu)->s_ (env0 n ps []).vs λv=>dv g v (λmu:Mu=>mu) (λ_ _=>False) ZI):ZT (cY n g) ps S:=by obtain⟨_,_,⟨⟩,_⟩|⟨r,v',m',⟨rfl,q⟩,e⟩:=h (λr m=>m=(λmu=>mu)/\S r) (λ_ h=>#[rfl,h]);show#[r,q,λmu=>aO (e mu)]
end
section
variable {ι α:Type}
def E(f:Ev->Option (α×Ev))(v:d4)(m:ι->Mu)(a:α)(v':d4)(m':ι->Mu):Prop:=∀i,f #[v,m i]=!(a,#[v',m' i])
variable {v v1 v2 v3:d4}{m m1 m2 m3:ι->Mu}{fa fb f:EF}{a:AF}{l x y:Lc}{ls:List Lc}{ps ws ws0:List PV}{p:PV}{b b2:Bool}{i:Nat}{N:d4->(ι->Mu)->Prop}{ZI:Lc->(ι->Mu)->Prop}
def E.w{f:Ev->Option (α×Ev)}{a:α}(h:E f v m a v1 m1)(q:Q a v1 m1):W f v m Q:=#[a,v1,m1,q,h]
def e_v(h:AC v i=!p):E (aa i) v m (Zp p) v m:=λj=>by show (match v[i]? with |some (!l)=>some (Lc.sh l.pv,Ev.set #[v,m j] i (!(Zp l.pv))) |_=>J)=_;rw[Fm h];show some (Lc.sh p,Ev.set #[v,m j] i (!(Zp p)))=_;rw[Ev.set_self (Fm h)]
def FE(h:lv v i=!p)(z:v.set i (!(Zp p))=v1):E (aa i) v m (Zp p) v1 m:=λj=>by subst z;show (match v[i]? with |some (!l)=>some (Lc.sh l.pv,Ev.set #[v,m j] i (!(Zp l.pv))) |_=>J)=_;rw[n5 h];rfl
def e_c:E (eC p) v m (Zp p) v m:=λ_=>O
def AI(h1:E fa v m x v1 m1)(h2:E fb v1 m1 y v2 m2)(j:g x.pv y.pv=!l):E (au g fa fb) v m l v2 m2:=λi=>bC (h1 i) (h2 i) j
def FF:E ao v m [] v m:=λ_=>O
def FH(h1:E fa v m x v1 m1)(h2:E a v1 m1 ls v2 m2):E (aj fa a) v m (x::ls) v2 m2:=λi=>Xz (h1 i) (h2 i)
def XB(h1:E a v m ls v1 m1)(j:Nat.ble (-ls) 1000=G)(z:ls.map Lc.pv=ps):E (aX a) v m (Zp (ZB ps)) v1 m1:=λi=>dm (h1 i) j z
def XE(h1:E a v m ls v1 m1)(j:Nat.ble (-ls) 1000=G)(z:ls.map Lc.pv=ps):E (cu a) v m (Zs (R ps)) v1 m1:=λi=>pQ (h1 i) j z
def e_b(h1:E a v m ls v1 m1)(h2:g (ls.map Lc.pv)=!l):E (eB g a) v m l v1 m1:=λi=>E8 (h1 i) h2
def AJ(h1:E a v m ls v1 m1)(j:ls.map Lc.pv=ps)(h2:∀i,g ps (m1 i)=!(l,m2 i)):E (aN g a) v m l v1 m2:=λi=>Xy (h1 i) ∅
def e_T(h1:E f v m x v1 m1)(h2:j x.pv=!b):E (tT f j) v m b v1 m1:=λi=>jU (h1 i) h2
def FI{c d:TF}(h1:E c v m b v1 m1)(h2:b=G->E d v1 m1 b2 v1 m1):E (eE c d) v m (b&&b2) v1 m1:=λi=>and_goD' (h1 i) λe=>h2 e i
where and_goD' {c d:TF} {Y Y1:Ev} {b b2:Bool} (h:c Y=!(b,Y1)) (h2:b=G->d Y1=!(b2,Y1)):eE c d Y=!(b&&b2,Y1):=UM h h2
def XI{c d:TF}(h1:E c v m b v1 m1)(h2:b=M->E d v1 m1 b2 v1 m1):E (tO c d) v m (b||b2) v1 m1:=λi=>UN (h1 i) λe=>h2 e i
def XO{c:TF}(h1:E c v m b v1 m1):E (Br c) v m (not b) v1 m1:=λi=>Vi (h1 i)
def XQ(h1:E fa v m x v1 m1)(h2:E fb v1 m1 y v2 m2)(j:qG x.pv y.pv=!l):E (aJ fa fb) v m l v2 m2:=λi=>dG (h1 i) O (h2 i) O (λn z=>by rw[z]at j;cases j) j
def XT(h1:E f v m x v1 m1)(h2:g x.pv=!xs):E (dh f g) v m xs v1 m1:=λi=>dC (h1 i) h2
def XU(h1:E a v m ls v1 m1)(h2:AG (ls.map Lc.pv)=!n)(z:-1000000<n/\ n<1000000):E (iK a) v m (jo 0 n.toNat) v1 m1:=by let(l,rfl,j):=Xr h2;show λi=>mY (h1 i) j () ()
def XW(h1:E f v m x v1 m1)(h2:wv x.pv=!n):E (cM f) v m (!n) v1 m1:=λi=>by unfold cM;rw[h1 i,cr,AD h2]
def XX:E eU v m J v m:=λ_=>O
def XY{lo hi:OF}(h1:E f v m x v1 m1)(h2:E lo v1 m1 s v2 m2)(h3:E hi v2 m2 t v3 m3)(z:td x.pv s t=!l):E (mF f lo hi) v m l v3 m3:=by let(_,_,_,(j,D,F),e):=Xs (Q:=λa b c=>a=l/\b=v3/\c=m3) (h1.w (h2.w (h3.w (gv z #[O,O,O]))));subst j D F;show e
def FK(p:PV)(y z:Option Int):Option Lc:=match p with
 |ZB ps=>if HT.sIx (-ps) 0 y=0/\HT.sIx (-ps) (-ps) z=-ps then J else !(Zp (ZB (rm ps y z)))
 |_=>J
def XZ{lo hi:OF}(h1:E f v m x v1 m1)(h2:E lo v1 m1 s v2 m2)(z:E hi v2 m2 t v3 m3)(j:FK x.pv s t=!l):E (j7 f lo hi) v m l v3 m3:=λi=>by
 unfold j7;rw[h1,cr,h2,cr,z,cr];unfold FK at j;cases e:x.pv<;>rw[e]at j<;>first
  |cases j
  | (dsimp only at j ⊢;split at j;· cases j
     . rename_i q;cases j;show bh q)
def Cq(b:BF)(te:EF)(k:Nat)(r:d4)(xs ys:List PV):Prop:=∀mu,dF b bB te xs #[List.replicate k J++r,mu] []=!(ys,mu)
def tp{F:IF}{r:AB}(h1:E F v m xs v1 m1)(j:tj c6 v1=v2)(z:(c6.map λi=>(v2[i]?).join)=r)(h2:Cq B te k r xs ys):E (bU F k c6 B bB te) v m (Zs (R ys)) v2 m1:=λi=>by subst z j;rw[eF (h1 i) (by rw[n9];show h2 _),n9]
def pV{γ:Type}{b:BF}{L:List γ}{e:γ->PV}(f:γ->PV)(j:-L<=100000)(hs:∀a∈L,Ct b te k r (e a) λy=>y=f a):Cq b te k r (L.map e) (L.map f):=by let(ys,rfl,h):=Xx L e f O j hs O;show h
def X0{b:BF}(f:Nat->PV)(hl:n<=100000)(hs:∀i:Nat,i<n->Ct b te k r (.int (0+i)) λy=>y=f i):Cq b te k r (jo 0 n) ((List.range n).map f):=pV f ∅ λi hi=>hs i ∅
def p6(h:E f v m l v1 m1)(hb:Nat.blt i (-v1)=true)(hv:v1.set i (!l)=v2)(k:N v2 m1):dv (aL i f) v m N ZI:=.inl #[v2,m1,k,λj=>bu (h j) hb (by rw[<-hv];rfl)]
def p_(h:E f v m l v1 m1)(k:ZI l m1):dv (cI f) v m N ZI:=.inr #[l,v1,m1,k,λi=>EZ (h i)]
def FL{c:TF}{f g:SF}(h:E c v m true v1 m1)(k:dv f v1 m1 N ZI):dv (cC c f g) v m N ZI:=k.of λi=>lR (h i)
def tq{c:TF}{f g:SF}(h:E c v m false v1 m1)(k:dv g v1 m1 N ZI):dv (cC c f g) v m N ZI:=k.of λi=>lU (h i)
def X1{c:TF}{f g:SF}(h:E c v m b v1 m1)(k:(b=true/\dv f v1 m1 N ZI)\/(b=false/\dv g v1 m1 N ZI)):dv (cC c f g) v m N ZI:=by
 obtain⟨rfl,k⟩|⟨rfl,k⟩:=k
 . show FL h k
 . show tq h k
def FO{c:TF}{f g:SF}(h:E c v m b v1 m1)(k1:b=true->dv f v1 m1 N ZI)(k2:b=false->dv g v1 m1 N ZI):dv (cC c f g) v m N ZI:=by
 cases b with
 |true=>show FL h (k1 rfl)
 |false=>show tq h (k2 rfl)
def X9(h0:Ea v i=!ws0)(h:E f v m l v1 m1)(h1:Ea v1 i=!ws)(hl:-ws<100000)(hv:v1.set i (!(.own (.lst (ws++[l.pv]))))=v2)(k:N v2 m1):dv (jM i f) v m N ZI:=.inl #[v2,m1,k,λi=>pR (pI h0) (h i) rfl (pI h1) hl (by rw[<-hv];rfl)]
def X_(h0:Ea v i=!ws0)(h:E f v m l v1 m1)(hp:ly l.pv=!ps)(h1:Ea v1 i=!ws)(hl:-ws+-ps<=100000)(hv:v1.set i (!(.own (.lst (ws++ps))))=v2)(k:N v2 m1):dv (gb i f) v m N ZI:=by
 have ep:l.pv=.lst ps:=by cases h:l.pv<;>rw[h]at hp<;>cases hp;rfl
 show .inl #[v2,m1,k,λi=>jZ (pI h0) (h i) ep (pI h1) hl (by rw[<-hv];rfl)]
def Ya{fi fv:EF}(h:E fv v m l v1 m1)(h0:Ea v1 i=!ws0)(h2:E fi v1 m1 x v2 m2)(hk:wv x.pv=!k)(h1:Ea v2 i=!ws)(hl:0<=k/\k< -ws)(hv:v2.set i (!(.own (.lst (ws.set k.toNat l.pv))))=v3)(q:N v3 m2):dv (Bu i fi fv) v m N ZI:=.inl #[v3,m2,q,λi=>UO (h i) rfl (pI h0) (h2 i) (AD hk) (pI h1) (by unfold uL;rw[aE hl.1,aE hl.2]) (by rw[<-hv];rfl)]
def Yf{F:IF}(h:E F v m xs v1 m1)(k:dv (eN B body xs) v1 m1 N ZI):dv (fX F B body) v m N ZI:=k.of λi=>E7 (h i)
def Yl(h:E f v m l v1 m1)(k:lq B l.pv v1 λv2=>N v2 m1):dv (Xn f B) v m N ZI:=let #[v2,e,q]:=k;.inl #[v2,m1,q,λi=>by unfold Xn;rw[h i];show congrArg (Option.map _) (e _)]
def FQ(h:lq B q v λv1=>dv body v1 m (λv2 m2=>dv (eN B body xs) v2 m2 N ZI) ZI):dv (eN B body (q::xs)) v m N ZI:=by
 let(v1,e1,h):=h;obtain⟨v2,m2,h,e2⟩|⟨r,v2,m2,h,e2⟩:=h
 . show h.of λi=>by show (B q _).bind _=_;rw[e1,cr,e2,cr]
 . show .inr #[r,v2,m2,h,λi=>by show (B q _).bind _=_;rw[e1,cr,e2,cr]]
def FU(h:N v m):dv (eN B body []) v m N ZI:=.inl #[v,m,h,λ_=>rfl]
def Yw{x y:PV}{a b:Str}(hx:x=ZH a)(hy:y=ZH b)(h:-a+-b<=100000):bf x y=!(Zp (ZH (a++b))):=by subst hx hy;show aE h
def Yy{x y:PV}{a b:List PV}(hx:x=R a)(hy:y=R b)(h:-a+-b<=100000):bf x y=!(Zs (R (a++b))):=by subst hx hy;show aE h
def Yz(h:E f v m x v1 m1)(hx:wv x.pv=!n):E (jq f) v m (.sh (.int ((Neg.neg n)))) v1 m1:=λi=>by unfold jq;rw[h i,cr,AD hx];rfl
def YA{x y:PV}{p q:Int}(hx:x=.int p)(hy:y=.int q)(h:(-18446744073709551616<p/\p<18446744073709551616)\/(-18446744073709551616<q/\q<18446744073709551616)):gM x y=!(.sh (.int (p*q))):=h.elim (λh=>UR hx hy h.1 h.2) λh=>US hx hy h.1 h.2
def YB{x y:PV}{p q:Int}(hx:x=.int p)(hy:y=.int q)(h:0<q/\q<1073741824):bO x y=!(.sh (.int (p/q))):=M7 hx hy h.1 h.2
end
def fD(h:∀ZI:Lc->(Unit->Mu)->Prop,(ZI r λ_=>e7)->s_ (env0 n ps []).vs λv=>dv g v (λ_=>mu) (λ_ _=>False) ZI):cY n g ps mu=!(r,e7):=by obtain⟨_,_,⟨⟩,_⟩|⟨x,v',m',⟨rfl,rfl⟩,e⟩:=h (λx m=>x=r/\m=λ_=>e7) #[rfl,rfl];show aO (e ⟨⟩)
def Up{ZI:Lc->(ι->Mu)->Prop}(I:d4->d4->(ι->Mu)->Prop)(h:∀N',(∀w n,I v w n->N' w n)->dv f v m N' ZI)(k:∀w n,I v w n->N w n):dv f v m N ZI:=(h _ λ_ _ h=>h).mono k λ_ _ h=>h
def YC{f:EF}(h:E (ι:=Unit) f v (λ_=>mu) (Zs p) v1 λ_=>j):E (ι:=Unit) (oh f) v (λ_=>mu) (Zp (ZA (-j))) v1 λ_=>j++[!p]:=λi=>by unfold oh;rw[h i];rfl
section
variable {ι:Type}{v v1 v2 v3 v4:d4}{m m1 m2 m3 m4:ι->Mu}{f:EF}{x l:Lc}{i:Nat}{p:PV}{ps:List PV}
def YD(h:v[i]?=!(!l))(D:l.pv=p)(z:v.set i (!(Zp p))=v1):E (aa i) v m (Zp p) v1 m:=λj=>by show (match v[i]? with |some (!l)=>some (Lc.sh l.pv,Ev.set #[v,m j] i (!(Zp l.pv))) |_=>J)=_;rw[h,<-z,<-D];rfl
def YE{lo hi st:OF}(h1:E f v m x v1 m1)(j:ly x.pv=!ps)(h2:E lo v1 m1 a v2 m2)(D:E hi v2 m2 b v3 m3)(z:E st v3 m3 (!n) be m4)(F:0<n):E (DN f lo hi st) v m (Zs (R (pb ps a b (!n)))) be m4:=λi=>by
 have q:x.pv=R ps:=by cases e:x.pv<;>rw[e]at j<;>cases j;rfl
 unfold DN;rw[h1,cr,h2,cr,D,cr,z,cr,q];grind
def FV(h:E f v m x v1 m1)(j:ly x.pv=!ps):E (uU f) v m (ps.zipIdx.map λx=>ZB [ZI (x.2:Nat),x.1]) v1 m1:=λi=>by
 have q:x.pv=R ps:=by cases e:x.pv<;>rw[e]at j<;>cases j;rfl
 unfold uU;rw[h,cr,q];rfl
end
def YF{S:Lc->Prop}(h:∀ZI:Lc->(Mu->Mu)->Prop,(∀r m,S r->ZI r m)->s_ (env0 n ps []).vs λv=>dv g v (λmu:Mu=>mu) (λ_ _=>False) ZI):∃r,S r/\∀mu,∃e7,cY n g ps mu=!(r,e7):=by obtain⟨_,_,⟨⟩,_⟩|⟨r,v',m',s,e⟩:=h (λr _=>S r) λ_ _ s=>s;show#[r,s,λmu=>#[m' mu,aO (e mu)]]
def FX:R2:=λx y H Q=>∃a o,y=.ref a/\WK H a x o/\Q (.bl (not o.isSome)) H
def FY(D:X.A.units+1<cLine):ju X (compareOp .NotIn) FX:=by intro ae s U H x y v u Q I F ry h;let(a,o,rfl,g,q):=h;obtain rfl:u=Value.ref a:=ry;show OA D I g F λs3 j=>#[.bl (not o.isSome),H,j,O,q]
def qa(p q:PV):Option Lc:=match q,MJ p with
 |.dk ks ps,!k=>!(Zp (.bl (not (iG (ks.zip ps) k).isSome)))
 |_,_=>J

open A in
def F1:pA K FX qa:=by
 intro H0 Z0 U Y pd H v w x y l Q s e k;unfold qa at e;split at e
 . rename_i ks ps kk ek;cases e;let(g,r1,r2):=s.rep2H;let ew:=G9 ek r1;let(b,a_,rfl,g1,g2,g3):=r2;let hv:=(uB g2 g3).val (k:=kk);have e2:(qP a_ kk).isSome=(iG (ks.zip ps) kk).isSome:=by
    cases h:iG (ks.zip ps) kk with
    |none=>rw[hv.2 h];rfl
    |some p=>let(u,sg,_):=hv.1 p h;grind
   show#[b,qP a_ kk,rfl,.inl #[a_,kk,.inl g1,ew,rfl],?_];rw[e2];show k _ H (s.pop.pop.scal mq)
 . cases e
def F2(hk:List aV->Int)(K:FG):V->V->V->Hp->(Hp->Prop)->Prop:=λo i v H Q=>∃a b xs k,o=.ref a/\i=.ref b/\H a=!(.ext (wA hk a xs))/\(∀x∈xs,cW K H x.2.1 (x.1.map nR))/\cW K H b (k.map nR)/\-xs<sizeLine/\jT xs k=J/\Q (bp H a (.ext (wA hk a (xs++[(k,b,v)]))))
def YI(hx:hk=CT X.prog X.w)(hu:X.A.units+1<cLine):Wj X (F2 hk X.K):=by subst hx;intro YN s U H o i v ov iv u Q I ro ri rv h;let(a,b,xs,k,rfl,rfl,hH,D,hb,hl,hn,q):=h;cases ro;obtain rfl:iv=Value.ref b:=ri;let(z,m,ys,F,dd):=I.dx hH D;let sw:=F.len;let ha:=(F.at).2 hn;show wpAny_setItem_heap (tupleKind_room_in1 hu) (ux I hb) dd λh' j hs=>?_;rw[storedH_new ha]at j;let(o,es,ep,h1,h2,h3,h4,h5,h6):=j;show#[_,GQ I (by rw[hH];show True.intro) hs #[o,h1] (y3 #[by rw[eI];show hl,m,ys++[(k,b,u)],F.snoc #[O,O,rv],h6,o,es,ep,h1,h2,h3,h4]),q]
def F3(hk:List aV->Int)(K:FG):R2:=λx y H Q=>∃a b xs k,y=.ref a/\x=.ref b/\H a=!(.ext (wA hk a xs))/\(∀x∈xs,cW K H x.2.1 (x.1.map nR))/\cW K H b (k.map nR)/\Q (.bl (not (jT xs k).isSome)) H
def YO(hx:hk=CT X.prog X.w)(hu:X.A.units+1<cLine):ju X (compareOp .NotIn) (F3 hk X.K):=by
 subst hx;intro YN s U H x y v u Q I rx ry h;let(a,b,xs,k,rfl,rfl,hH,j,hb,q):=h;cases ry;obtain rfl:v=Value.ref b:=rx;let(z,m,ys,F,dd):=I.dx hH j;show wpAny_notIn_heap (tupleKind_room_in1 hu) (ux I hb) m dd #[_,H,I.tok _,?_,q];have e:(jT xs k).isSome=(atKey ys k).isSome:=by
  cases h:jT xs k with
  |none=>rw[(F.at).2 h];rfl
  |some w'=>let(p',D,_):=(F.at).1 w' h;grind
 rw[e];show O
section
variable [HK]
open Classical in
def wE(p q:PV):Option Lc:=match p,q with
 |ZB kp,.dx hk ks ps=>(pX kp).bind λk=>if hk=HK.hk then !(Zp (.bl (not (j0 (ks.zip ps) k).isSome))) else J
 |_,_=>J
end
section
variable [HK]
open A in
def YQ:pA K (F3 HK.hk K) wE:=by
 intro H0 Z0 U Y pd H v w x y l Q s e k;unfold wE at e;split at e
 . rename_i kp hk ks ps;let(j,ek,F):=b_ e;split at F
   . rename_i hc;subst hc;cases F;let(g,r1,r2):=s.rep2H;let(b,ws,rfl,hb,D):=r1;let(a,xs,rfl,g1,g2,g3,g4):=r2;let ew:=ug ek D;subst ew;subst g2;let hv:=yC (k:=j) g4;have e2:(jT xs j).isSome=(j0 ((xs.map (·.1)).zip ps) j).isSome:=by
      cases h:j0 ((xs.map (·.1)).zip ps) j with
      |none=>rw[hv.2 h];rfl
      |some p=>let(u,z,_):=hv.1 p h;grind
     show#[a,b,xs,j,O,O,g1,g3,hb,?_];rw[e2];show k _ H (s.pop.pop.scal mq)
   . cases F
 . cases e
end
section
variable [HK]
open Classical in
def wG(i:Nat)(fi fv:EF):SF:=λY=>(fv Y).bind λx=>match x.2.vs[i]? with
 |some (!(Zs (.dx _ _ _)))=>(fi x.2).bind λy=>match y.1.pv,y.2.vs[i]? with
  |ZB kp,!(!(Zs (.dx hk ks ps)))=>(pX kp).bind λk=>if hk=HK.hk/\-ks<100000/\j0 (ks.zip ps) k=J then !(.nx (y.2.set i (!(Zs (.dx hk (ks++[k]) (ps++[x.1.pv])))))) else J
  |_,_=>J
 |_=>J
end
section
variable [HK]
open A in
def YR(h:PS X (.Assign [.Subscript o ix tpos] e pos) (Rz (tP X.K fv) (Wk (uH i) (tP X.K fi) (F2 HK.hk X.K)))):PS X (.Assign [.Subscript o ix tpos] e pos) (iw X.K (wG i fi fv)):=PS.imp h λD U H q=>by
 let(H0,Z0,Y,pd,fl,s,h,k):=q;let(x,h1,h2):=b_ h;show#[H0,Z0,Y,pd,x.1,x.2,s,h1,λv H1 s1=>?_];split at h2
 . rename_i mP E_ Fa e0;let(y,h3,F):=b_ h2;let(a,_,ea,_):=s1.takeX e0;show#[.ref a,ea,H0,Z0,x.2,_,y.1,y.2,s1.freeze,h3,λw H2 s2=>?_];split at F
   . rename_i kp hk ks ps e3 e4;let(kk,ek,h5):=b_ F;split at h5
     . rename_i hc;let(hc,wo,YU):=hc;subst hc;cases h5;let s3:=s2.freeze;rw[e3]at s3;let(a',Fh,j,sg,s4):=s3.swap.takeX e4;rw[ea]at j;cases j;let s5:=s4.perm (ky (l₁:=[(v,Lc.sh x.1.pv),(w,Zp (ZB kp))]) (l₂:=[(.ref a,Zs (.dx HK.hk ks ps))]) |>.append_right pd);let(b,z,rfl,g1,g2,g3,g4,g5,_):=s5.setX ek;let(eu,s6):=g5 YU;show#[a,b,z,kk,O,O,g1,g2,g3,by rw[g4,sizeLine_eq];lia,eu,k U _ ?_];let s7:=s6.swap.pop.put ea;rw[Ev.set_set]at s7;show s7
     . cases h5
   . cases F
 . cases h2
end
end PL
namespace Law
open PL.PV renaming lst→R,int→ZI,str→ZH,tup→ZB,ptr→ZA
open PL.Lc renaming own→Zs,sh→Zp
open PySem PySem.Spec PyProof.Rows L2 PL
local macro_rules | `(tactic| walk_at "sc")=>`(tactic| exact⟨rfl,rfl,rfl,by decide +kernel,rfl,by decide +kernel,by decide +kernel⟩)
def mI{l:List Str}(i:Nat)(h:l[i]?=!a):a∈l:=fL h
noncomputable def top (i:Nat):Stmt:=PySem.Challenge.pw_hushwise_k39_rows_made_silent.main.body.getD i (.Pass #[0,0,0,0])
abbrev wj:Stmt:=top 1
abbrev oR:Stmt:=top 2
abbrev yG:Stmt:=top 3
abbrev mG:Stmt:=top 4
abbrev uh:Stmt:=top 5
abbrev ul:Stmt:=top 6
abbrev yH:Stmt:=top 7
abbrev BX:Stmt:=top 8
abbrev um:Stmt:=top 9
abbrev yI:Stmt:=top 10
abbrev tw:Stmt:=top 11
abbrev wP:Stmt:=top 12
abbrev wS:Stmt:=top 16
abbrev pY:Stmt:=top 18
abbrev rE:Stmt:=top 19
abbrev pZ:Stmt:=top 20
abbrev jF:Stmt:=top 21
abbrev lV:Stmt:=top 22
abbrev rF:Stmt:=top 23
abbrev qd:Stmt:=top 24
abbrev oA:Stmt:=top 25
abbrev qe:Stmt:=top 26
abbrev oE:Stmt:=top 27
abbrev rG:Stmt:=top 29
abbrev mH:Stmt:=top 30
abbrev nO:Stmt:=top 31
abbrev uo:Stmt:=top 32
abbrev sE:Stmt:=top 33
abbrev uZ:Stmt:=top 34
abbrev il:Stmt:=top 35
abbrev vP:Stmt:=top 38
abbrev AK:Stmt:=top 17
abbrev wT:Stmt:=top 36
abbrev AL:Stmt:=top 37
abbrev F4:Stmt:=top 37
abbrev j8:Stmt:=dE (top 14) 0
abbrev qg:Stmt:=dE (top 14) 1
abbrev AM:Stmt:=dE (top 14) 2
abbrev rH:Stmt:=dE (top 14) 3
abbrev wk:Stmt:=dE (top 14) 4
abbrev u5:Stmt:=dE (top 14) 5
abbrev tU:Stmt:=dE (top 14) 6
abbrev u6:Stmt:=dE (top 14) 7
abbrev tV:Stmt:=dE (top 14) 8
abbrev mJ:Stmt:=dE (top 14) 9
abbrev j9:Stmt:=dE (top 14) 10
def M6:bz ["row"] ["row"] (aG wj):=()
def Cu:bz ["row"] ["row"] (aG oR):=()
def Vv:bz ["row"] ["row"] (aG yG):=()
def JN:bz ["rows"] ["rows"] (aG mG):=()
def sH:bz ["rows","told","row","block"] ["rows"] (aG uh):=()
def lH:bz ["where","above","block","rows","start","told","row","number","place","inner"] ["where","above","block","rows","start"] (aG ul):=()
def lJ:bz ["program","told","name","rank","params","rows"] ["program"] (aG yH):=()
def Yc:bz ["expression"] ["expression"] (aG BX):=()
def O3:bz ["expression"] ["expression"] (aG um):=()
def Vw:bz ["row"] ["row"] (aG yI):=()
def AN:bz ["program","told","name","rank","params","rows"] ["program"] (aG tw):=()
def Y7:bz ["program"] ["program"] (aG wP):=()
def AO:bz ["program","plan","told","name","k"] ["program"] (aG wS):=()
def oF:bz ["plan","k","row","told","numbers"] ["plan","k"] (aG pY):=()
def yJ:bz ["program","plan","told","k"] ["program"] (aG rE):=()
def JP:bz ["expression"] ["expression"] (aG pZ):=()
def oU:bz ["plan","k","ahead","told"] ["plan","k"] (aG jF):=()
def kh:bz ["plan","k","outer","told","row"] ["plan","k"] (aG lV):=()
def qi:bz ["plan","k","numbers","told"] ["plan","k"] (aG rF):=()
def jD:bz ["plan","k","row","told","param","expression"] ["plan","k"] (aG qd):=()
def rJ:bz ["k","name","some","told","expression"] ["k","name","some"] (aG oA):=()
def zc:bz ["plan","k","row"] ["plan","k"] (aG qe):=()
def rK:bz ["plan","k","home","numbers"] ["plan","k"] (aG oE):=()
def Ge:bz ["_law_script","_law_k"] ["_law_script","_law_k"] (aG rG):=()
def gq:bz ["_law_cell","_law_count","_law_letters","_law_names_here","_law_text","_law_k","_law_size","_law_at","_law_signs"] ["_law_cell","_law_count"] (aG mH):=()
def cR:bz ["_law_cell","_law_own","_law_lists","_law_made","_law_k","_law_step","_law_other","_law_sign"] ["_law_cell","_law_own","_law_lists"] (aG nO):=()
def iy:bz ["_law_cell","_law_own","_law_lists","_law_heads_here","_law_whos","_law_one","_law_other","_law_kind","_law_goal","_law_name","_law_params","_law_some"] ["_law_cell","_law_own","_law_lists","_law_heads_here","_law_whos"] (aG uo):=()
def mK:bz ["_law_cells","_law_own","_law_lists","_law_heads_here","_law_whos","_law_body","_law_stack","_law_cell","_law_row_here"] ["_law_cells","_law_own","_law_lists","_law_heads_here","_law_whos"] (aG sE):=()
def oG:bz ["_law_cell","_law_names_here","_law_heads_here","_law_j","_law_size"] ["_law_cell","_law_names_here"] (aG uZ):=()
def cD:bz ["_law_script","_law_cell","_law_names_here","_law_ranks","_law_numbers","_law_lists","_law_heads_here","_law_boxes","_law_cells","_law_whos","_law_functions","_law_j","_law_head","_law_rows_here"] ["_law_script"] (aG il):=()
def jG:bz ["_law_script","_law_program_here","_law_bits","_law_silenced","_law_functions","_law_k","_law_name","_law_rank","_law_params","_law_rows_here","_law_inner","_law_twin","_law_before","_law_got","_law_stayed","_law_kinds","_law_j"] ["_law_script"] (aG vP):=()
def Zj:bz ["program","k"] ["program","k"] (aG AK):=()
def F5:bz ["_law_rows_here","_law_first","_law_bits","_law_silenced","_law_got","_law_k","_law_row_here","_law_blocks","_law_after","_law_block","_law_inner"] ["_law_rows_here","_law_first","_law_bits","_law_silenced"] (aG wT):=()
def F6:bz ["_law_some","_law_others","_law_there","_law_one"] ["_law_some","_law_others"] (aG AL):=()
def jJ:bz ["_law_some","_law_others","_law_there","_law_one"] ["_law_some","_law_others"] (aG F4):=()
def dR:bz ["self","program","told","lists","number","one","heads","name","rank","params","rows"] ["self","program"] (aG j8):=()
def DQ:bz ["self"] ["self"] (aG qg):=()
def Zk:bz ["self"] ["self"] (aG AM):=()
def Gf:bz ["self","name"] ["self","name"] (aG rH):=()
def M8:bz ["self","k"] ["self","k"] (aG wk):=()
def JQ:bz ["self","k"] ["self","k"] (aG u5):=()
def Hf:bz ["self","k"] ["self","k"] (aG tU):=()
def JR:bz ["self","name"] ["self","name"] (aG u6):=()
def Hh:bz ["self","k","which"] ["self","k","which"] (aG tV):=()
def lM:bz ["self","k","beside","place"] ["self","k"] (aG mJ):=()
def Cv:bz ["self","numbers"] ["self","numbers"] (aG j9):=()
section
variable [HK]
abbrev F7:=aj (aJ (aa 0) (ay 2)) ao
abbrev F8:=cI (cu (aj (aJ (aa 0) (ay 2)) ao))
abbrev F9:=tT (au eW (aJ (aa 0) (ay 0)) (dW "if")) aY
abbrev F_:=tT (au eW (aJ (aa 0) (ay 0)) (dW "while")) aY
abbrev Gc:=cI (cu (aj (aJ (aa 0) (ay 2)) (aj (aJ (aa 0) (ay 3)) ao)))
def gJ:GF:=cY 1 (aF (cC F9
 Gc
 bR)
 (aF (cC F_
 F8
 bR)
 (cI (cu ao))))
abbrev AQ:=aj (aJ (aa 0) (ay 1)) ao
abbrev Zm:=cI (cu (aj (aJ (aa 0) (ay 1)) ao))
abbrev Zo:=eB hE (aj (aJ (aa 0) (ay 3)) ao)
abbrev Zt:=tT (au eW (aJ (aa 0) (ay 0)) (dW "call")) aY
def km:GF:=cY 1 (aF (cC (tO F9 F_)
 Zm
 bR)
 (aF (cC (tT (au eW (aJ (aa 0) (ay 0)) (dW "put")) aY)
 Gc
 bR)
 (aF (cC Zt
 (cI Zo)
 bR)
 F8)))
mutual
def kE:Nat->GF
 |0=>λ_ _=>J
 | n+1=>cY 1 (aF (cC (tT (au eW (aJ (aa 0) (bg 0)) (fI "if")) aY)
  (cI (aX (aj (fI "if") (aj (aJ (aa 0) (bg 1)) (aj (aN (cv n) (aj (aJ (aa 0) (bg 2)) ao)) (aj (aN (cv n) (aj (aJ (aa 0) (bg 3)) ao)) ao))))))
  bR)
  (aF (cC (tT (au eW (aJ (aa 0) (bg 0)) (fI "while")) aY)
  (cI (aX (aj (fI "while") (aj (aJ (aa 0) (bg 1)) (aj (aN (cv n) (aj (aJ (aa 0) (bg 2)) ao)) ao)))))
  bR)
  (aF (cC (tT (au eW (aJ (aa 0) (bg 0)) (fI "call")) aY)
  (cI (aX (aj (fI "call") (aj (aJ (aa 0) (bg 1)) (aj (aJ (aa 0) (bg 2)) (aj (eB hE (aj (aJ (aa 0) (bg 3)) ao)) ao))))))
  bR)
  (gZ 0))))
def cv:Nat->GF
 |0=>λ_ _=>J
 |n+1=>cY 1 (cI (bU (dh (aa 0) bJ) 1 [] (aC 0) bB (aN (kE n) (aj (aa 0) ao))))
end
def iz:Nat->GF
 |0=>λ_ _=>J
 | n+1=>cY 4 (aF (aL 1 (cu ao))
  (aF (fX (dh (aa 0) bJ) (aC 2)
  (aF (jM 1 (aa 2))
  (fX (dh (aN gJ (aj (aa 2) ao)) bJ) (aC 3)
  (gb 1 (aN (iz n) (aj (aa 3) ao))))))
  (gZ 1)))
abbrev Zw:=fC 2 (aW (aC 8) (aW (aC 9) fu))
abbrev ZD:=vL (au bf (aa 4) (eB cz (aj (aa 5) ao)))
abbrev ZY:=aL 7 ZD
abbrev Z_:=aX (aj (aa 0) (aj (aa 1) (aj (aa 2) (aj (aN (kE 40) (aj (aa 6) ao)) ao))))
abbrev vbo:=jM 5 Z_
abbrev vbn:=aj (aa 7) (aj (aa 8) (aj (aa 9) (aj (vL (au bf (aa 4) (eB cz (aj (aa 5) ao)))) ao)))
abbrev vbb:=aj (aa 0) vbn
def gP:Nat->GF
 |0=>λ_ _=>J
 | n+1=>cY 10 (aF (aL 5 (cu ao))
  (aF (fX (dh (aa 3) bJ) (aC 6)
  (aF ZY
  (aF vbo
  (fX (uU (aN gJ (aj (aa 6) ao))) Zw
  (gb 5 (aN (gP n) vbb))))))
  (gZ 5)))
abbrev AR:SF:=(gb 1 (aN (gP 40) (aj (aa 2) (aj (eC .non) (aj (bg 0) (aj (aa 5) (aj (vL (eB cz (aj (aa 1) ao))) ao)))))))
abbrev vfy:=aj (vL (eB cz (aj (aa 1) ao))) ao
abbrev Gn:=aW (aC 4) (aW (aC 5) fu)
abbrev vcv:=fC 4 (aW (aC 2) (aW (aC 3) Gn))
def yK:GF:=cY 6 (aF (aL 1 (cu ao))
 (aF (fX (dh (aJ (aa 0) (ay 2)) bJ) vcv
 AR)
 (aF (gb 1 (aN (gP 40) (aj (dW "main") (aj (eC .non) (aj (ay 0) (aj (aJ (aa 0) (ay 3)) vfy))))))
 (gZ 1))))
abbrev vel:=tT (au eW (aJ (aa 0) (ay 0)) (dW "@")) aY
abbrev vdy:=tT (au eW (aJ (aa 0) (ay 0)) (dW "num")) aY
abbrev vdz:=tT (au eW (aJ (aa 0) (ay 0)) (dW "box")) aY
def ni:Nat->GF
 |0=>λ_ _=>J
 | n+1=>cY 1 (aF (cC vdy
  (cI (cu ao))
  bR)
  (aF (cC vdz
  (cI (cu (aj (aX (aj (dW "box") AQ)) ao)))
  bR)
  (aF (cC vel
  (cI (au bf (cu (aj (aX (aj (dW "list") AQ)) ao)) (aN (ni n) F7)))
  bR)
  (cI (au bf (aN (ni n) AQ) (aN (ni n) F7))))))
abbrev Go:=aW (aC 0) (aW (aC 1) fu)
abbrev wV:=fC 2 Go
def yL:GF:=cY 1 (cI (rT (bU (dh (aN (ni 40) (aj (aa 0) ao)) bJ) 2 [] (fC 2 (aW (aC 0) (aW (aC 1) fu))) bB (aa 1))))
abbrev vc:=au pB (aJ (aa 0) (ay 0)) (aX (aj (dW "while") (aj (dW "call") ao)))
def yM:GF:=cY 1 (cI (eB Aj (aj (bU (dh (aN (iz 40) (aj (cu (aj (aa 0) ao)) ao)) bJ) 1 [] (aC 0) bB vc) ao)))
def AS:GF:=cY 6 (aF (aL 1 (bU (dh (aJ (aa 0) (bg 0)) bJ) 3 [] (fC 3 (aW (aC 0) (aW (aC 1) (aW (aC 2) fu)))) bB (aX (aj (aa 0) (aj (aa 2) ao)))))
 (aF (fX (dh (aJ (aa 0) (bg 2)) bJ) (fC 4 (aW (aC 2) (aW (aC 3) (aW (aC 4) (aW (aC 5) fu)))))
 (aF (jM 1 (aX (aj (aa 2) (aj (aa 3) ao))))
 (gb 1 (bU (dh (aa 4) bJ) 2 [] (fC 2 (aW (aC 0) (aW (aC 1) fu))) bB (aX (aj (aa 0) (aj (aa 1) ao)))))))
 (gZ 1)))
def AT:GF:=cY 1 (cI (bU (dh (aN AS (aj (aa 0) ao)) bJ) 2 [] (fC 2 (aW (aC 0) (aW (aC 1) fu))) bB (aa 0)))
abbrev AU:=fC 2 Gn
abbrev Gp:=BR 3 (j7 (aa 5) eU (cM (ay 3)))
abbrev Gr:=fC 4 (aW (aC 7) (aW (aC 8) (aW (aC 9) (aW (aC 10) fu))))
def kI:GF:=cY 11 (aF (aL 2 (aN yK (aj (aa 1) ao)))
 (aF (aL 3 Vt)
 (aF (fX (uU (aa 2)) AU
 (ou Gp (aa 4)))
 (aF (aL 6 Vo)
 (aF (fX (dh (aJ (aa 1) (ay 2)) bJ) Gr
 (FJ 6 (aa 7) (bU (dh (aa 9) bJ) 2 [] wV bB (aa 0))))
 (aF (BP "Plan" "told" (aa 0) (aa 2))
 (aF (BP "Plan" "lists" (aa 0) (M4 (aa 3)))
 (BP "Plan" "heads" (aa 0) (aa 6)))))))))
def AV:GF:=cY 1 (cI (au bf (eB AA (aj (jB "Plan" "heads" (aa 0)) ao)) (cu (aj (fI "main") ao))))
def qm:GF:=cY 1 (cI (SN (eB cz (aj (jB "Plan" "told" (aa 0)) ao))))
def dY:GF:=cY 2 (cI (aJ (aJ (jB "Plan" "told" (aa 0)) (aa 1)) (bg 3)))
def w4:GF:=cY 5 (aF (aL 1 (FT "Plan" kI (aj (aa 0) ao)))
 (aF (aL 2 (bU (dh (aN AT (aj (aa 0) ao)) bJ) 1 [] (aC 0) bB (nW "box " (aa 0))))
 (aF (fX (dh (cX "Plan" "bodies" AV (aa 1) ao) bJ) (aC 3)
 (gb 2 (cu (aj (nW "enter " (aa 3)) (aj (nW "leave " (aa 3)) ao)))))
 (aF (fX (dh (cX "Plan" "numbers" qm (aa 1) ao) bJ) (aC 4)
 (aF (jM 2 (nW "at " (aa 4)))
 (cC (tT (au eW (aJ (cX "Plan" "row" dY (aa 1) (aj (aa 4) ao)) (bg 0)) (fI "out")) aY)
 (gb 2 (cu (aj (nW "let " (aa 4)) (aj (nW "out " (aa 4)) ao))))
 bR)))
 (cI (rT (aa 2)))))))
abbrev vhf:=jB "Plan" "told" (aa 0)
abbrev AW:=jB "Plan" "lists" (aa 0)
abbrev w6:=aj (aa 1) (aj (aa 2) ao)
abbrev AX:=aJ (jB "Plan" "told" (aa 0)) (aa 1)
abbrev vdj:=aJ AX (ay 0)
abbrev Gs:=aJ (aJ (jB "Plan" "told" (aa 0)) (aa 1)) (ay 0)
abbrev Gz:=aj Gs w6
abbrev GA:=aX (aj Gs w6)
def dZ:GF:=cY 3 (cI (eB hE (aj (yD AW GA) ao)))
abbrev GB:=aj (cX "Plan" "row" dY (aa 1) (aj (aa 0) ao)) ao
def fV:GF:=cY 2 (cI (eB Aj (aj (bU (dh (aa 1) bJ) 1 [0] (aC 0) bB (aN yM GB)) ao)))
abbrev vfb:=au bf (dW "leave ") (aJ (aa 2) (ay 2))
abbrev GD:=aj (aa 0) (aj (aJ (aa 4) (jq (ay 1))) ao)
abbrev GG:=tT (au eW (aJ (aa 2) (ay 0)) (dW "if")) aY
abbrev vef:=cX "Plan" "spending" fV (aa 0) (aj (aa 4) ao)
abbrev AY:=cX "Plan" "row" dY (aa 0) (aj (aa 1) ao)
abbrev AZ:=aL 2 AY
abbrev A0:=tT (au eW (aJ (aa 2) (ay 0)) (dW "call")) aY
abbrev GH:=jM 3 (au bf (dW "leave ") (aJ (aa 2) (ay 2)))
abbrev GI:=tT (cX "Plan" "spending" fV (aa 0) (aj (aa 4) ao)) qW
abbrev GL:=cX "Plan" "block" dZ (aa 0) (aj (aa 1) (aj (ay 0) ao))
abbrev GN:=dh (aX (aj GL (aj (cX "Plan" "block" dZ (aa 0) (aj (aa 1) (aj (ay 1) ao))) ao))) bJ
def dJ:Nat->GF
 |0=>λ_ _=>J
 | n+1=>cY 5 (aF AZ
  (aF (aL 3 (cu (aj (nW "at " (aa 1)) ao)))
  (aF (cC A0
  GH
  bR)
  (aF (cC GG
  (fX GN (aC 4)
  (cC GI
  (gb 3 (aN (dJ n) GD))
  bR))
  bR)
  (gZ 3)))))
abbrev vfi:=au Mq (aJ (aa 2) (ay 0)) (dW "call")
def j4:GF:=cY 3 (aF AZ
 (aF (cC (tT vfi aY)
 (cI (cu ao))
 bR)
 (cI (bU (dh (aX (aj (au bf (dW "box ") (aJ (aa 2) (ay 2))) (aj (nW "at " (aa 1)) (aj vfb ao)))) bJ) 1 [2] (aC 0) bB (aX (aj (aa 0) (aj (au bf (dW "box ") (aJ (aa 1) (ay 1))) ao)))))))
abbrev vgq:=tT (au eW (aa 3) (ay 0)) aY
abbrev vgi:=aJ (aa 2) (au Mt (aa 3) (ay 1))
abbrev vcr:=j7 AX eU (cM (ay 3))
def iH:GF:=cY 4 (aF (aL 2 (S5 AW vcr))
 (aF (aL 3 (MF (aa 2) (aa 1)))
 (cI (Zb vgq (eC .non) vgi))))
def mL:GF:=cY 2 (cI vdj)
def oH:GF:=cY 2 (cI (aJ AX (ay 1)))
def iI:GF:=cY 1 (cI (bU (dh (aN yL (aj (aa 0) ao)) bJ) 1 [] (aC 0) bB (nW "box " (aa 0))))
abbrev GO:=tT (au Sw (aa 2) (eC .non)) aY
abbrev GU:=cX "Plan" "home" mL (aa 0) (aj (aa 1) ao)
abbrev vev:=cX "Plan" "outer" oH (aa 0) (aj (aa 1) ao)
abbrev vhe:=cX "Plan" "row" dY (aa 0) (aj (aa 2) ao)
abbrev vdv:=aL 4 vhe
abbrev GV:=aj (nW "at " (aa 2)) ao
abbrev vca:=aL 3 (cu (aj (aX (aj (dW "within") GV)) ao))
def lW:GF:=cY 5 (aF (aL 2 vev)
 (aF (cC GO
 (cI (cu (aj (aX (aj (dW "enter") (aj (au bf (dW "enter ") GU) ao))) ao)))
 bR)
 (aF vca
 (aF vdv
 (aF (cC (tT (au eW (aJ (aa 4) (ay 0)) (dW "if")) aY)
 (gb 3 (bU (dh (aN iI (aj (aJ (aa 4) (ay 1)) ao)) bJ) 1 [] (aC 0) bB (aX (aj (dW "choice") (aj (aa 0) ao)))))
 bR)
 (gZ 3))))))
abbrev vci:=aL 2 GL
abbrev vbt:=aL 3 (aN iI (aj (aJ AY (ay 1)) ao))
def rM:GF:=cY 4 (aF vci
 (aF vbt
 (aF (cC (tT (aa 2) qW)
 (gb 3 (aN (dJ 40) (aj (aa 0) (aj (aJ (aa 2) (jq (ay 1))) ao))))
 bR)
 (gZ 3))))
abbrev w_:=aj (aa 0) (aj (aa 1) ao)
abbrev vhw:=aN lW (aj (aa 0) (aj (aa 1) ao))
abbrev vfg:=gb 3 vhw
abbrev veq:=cX "Plan" "just_ahead" iH (aa 0) (aj (aa 1) ao)
abbrev vcy:=aL 2 veq
abbrev vbu:=au eW (aJ AY (ay 0)) (dW "while")
abbrev vfa:=dh (aN (dJ 40) (aj (aa 0) (aj (aa 2) ao))) bJ
abbrev vao:=gb 3 (bU vfa 1 [] (aC 0) bB (aX (aj (dW "behind") (aj (aa 0) ao))))
def jH:GF:=cY 4 (aF vcy
 (aF (aL 3 (cu ao))
 (aF (cC GO
 vfg
 vao)
 (aF (cC (tT vbu aY)
 (gb 3 (bU (dh (aN rM w_) bJ) 1 [] (aC 0) bB (aX (aj (dW "turns") (aj (aa 0) ao)))))
 bR)
 (gZ 3)))))
def rN:GF:=cY 2 (cI (eB hE (aj (zD (jB "Plan" "heads" (aa 0)) (aa 1)) ao)))
abbrev vap:=bU (dh (aN iI (aj (aa 4) ao)) bJ) 1 [1] (aC 0) bB (aX (aj (dW "value") (aj (aa 0) (aj (nW "box " (aa 1)) ao))))
def lr:GF:=cY 5 (aF (aL 3 (cu (aj (aX (aj (dW "done") (aj (nW "at " (aa 0)) (aj (nW "box " (aa 1)) ao)))) ao)))
 (aF (fX (dh (aa 2) bJ) (aC 4)
 (gb 3 vap))
 (gZ 3)))
abbrev ve:=aj (au bf (dW "box ") (aJ (aa 2) (ay 1))) ao
abbrev vea:=aj (aa 1) (aj (aa 4) (aj (cu (aj (aa 5) ao)) ao))
abbrev vcp:=aN lr vea
def qt:GF:=cY 6 (aF AZ
 (aF (cC (tO (tT (au eW (aJ (aa 2) (ay 0)) (dW "set")) aY) (tT (au eW (aJ (aa 2) (ay 0)) (dW "put")) aY))
 (cI (aN lr (aj (aa 1) (aj (aJ (aa 2) (ay 1)) (aj (aN km (aj (aa 2) ao)) ao)))))
 bR)
 (aF (cC (tT (au eW (aJ (aa 2) (ay 0)) (dW "out")) aY)
 (aF (aL 3 (bU (dh (aN iI (aj (aJ (aa 2) (ay 2)) ao)) bJ) 1 [1] (aC 0) bB (aX (aj (dW "let") (aj (aa 0) (aj (nW "let " (aa 1)) ao))))))
 (cI (au bf (aa 3) (cu (aj (aX (aj (dW "out") (aj (nW "out " (aa 1)) ve))) (aj (aX (aj (dW "done") (aj (nW "at " (aa 1)) ve))) ao))))))
 bR)
 (aF (cC A0
 (aF (aL 3 (cu (aj (aX (aj (dW "call") (aj (nW "at " (aa 1)) (aj (au bf (dW "enter ") (aJ (aa 2) (ay 2))) ao)))) ao)))
 (aF (fX (Km (cX "Plan" "params" rN (aa 0) (aj (aJ (aa 2) (ay 2)) ao)) (aJ (aa 2) (ay 3))) AU
 (gb 3 vcp))
 (gZ 3)))
 bR)
 (cI (cu ao))))))
abbrev GW:=aX (aj (aa 1) (aj (eC .non) (aj (ay 0) ao)))
def qu:GF:=cY 2 (cI (eB hE (aj (yD AW GW) ao)))
abbrev veh:=tT (au Mq (aJ (aa 3) (jq (ay 1))) (aa 1)) aY
abbrev vdl:=aL 2 GU
abbrev vgp:=cX "Plan" "body" qu (aa 0) (aj (aa 2) ao)
abbrev vdm:=aL 3 vgp
abbrev vdf:=tT (cX "Plan" "spending" fV (aa 0) (aj (aa 3) ao)) qW
abbrev vco:=Br vdf
def lu:GF:=cY 4 (aF vdl
 (aF vdm
 (aF (cC (tO veh vco)
 (cI (cu ao))
 bR)
 (cI (bU (dh (aN (dJ 40) w_) bJ) 1 [2] (aC 0) bB (aX (aj (aa 0) (aj (nW "leave " (aa 1)) ao))))))))
abbrev xa:=aj (aa 1) (aj (aa 3) ao)
abbrev A1:=fC 2 (aW (aC 0) (aW (aC 1) fu))
abbrev vad:=gb 2 (bU (dh (aN j4 xa) bJ) 2 [3] A1 bB (aX (aj (aa 2) (aj (ay 2) (aj (dW "back") w_)))))
abbrev vac:=gb 2 (bU (dh (aN lu xa) bJ) 2 [3] A1 bB (aX (aj (aa 2) (aj (ay 3) (aj (dW "leave") w_)))))
abbrev vab:=gb 2 (bU (dh (aN jH xa) bJ) 2 [3] A1 bB (aX (aj (aa 2) (aj (ay 0) (aj (aa 0) (aj (aa 1) GV))))))
abbrev vfp:=fC 3 (aW (aC 0) (aW (aC 1) (aW (aC 2) fu)))
abbrev vaa:=gb 2 (bU (dh (aN qt xa) bJ) 3 [3] vfp bB (aX (aj (aa 3) (aj (ay 1) (aj (aa 0) w6)))))
def Hi:GF:=cY 4 (aF (aL 1 (FT "Plan" kI (aj (aa 0) ao)))
 (aF (aL 2 (cu ao))
 (aF (fX (dh (cX "Plan" "numbers" qm (aa 1) ao) bJ) (aC 3)
 (aF vab
 (aF vaa
 (aF vad
 vac))))
 (cI (sX (aa 2))))))
abbrev vfx:=au Ms (aa 1) (eB cz (aj (aa 0) ao))
def nj:GF:=cY 2 (aF (cC (tT vfx aY)
 (cI (au aZ (aJ (aa 0) (aa 1)) (ay 1000000007)))
 bR)
 (cI (ay 0)))
abbrev vfz:=jM 3 (rY (dW "") (aj (aa 8) ao))
abbrev vfn:=au aZ (au bO (aa 0) (ay 14)) (aa 6)
abbrev vfj:=au eW (au aZ (aa 0) (ay 2)) (ay 1)
abbrev vfh:=aL 2 (dW "abcdefghijklmnopqrstuvwxyz")
abbrev vbr:=Bu 8 (aa 7) (aJ (aa 2) (au aZ (au bf (au bO (aa 0) (ay 112)) (aa 5)) (ay 26)))
abbrev vaq:=mF (aa 4) (cM (au aZ (aa 5) (ay 5))) (cM (au bf (au bf (au aZ (aa 5) (ay 5)) (ay 1)) (au bO (aa 5) (ay 5))))
abbrev vag:=aJ (cu (aj (ay 1) (aj (ay 2) (aj (ay 3) (aj (ay 5) (aj (ay 6) (aj (ay 7) (aj (ay 8) ao)))))))) (au aZ (au bO (aa 0) (ay 2)) (ay 7))
abbrev vaf:=aL 8 (bU (iK (aj (aa 6) ao)) 1 [2,0] (aC 0) bB (aJ (aa 1) (au aZ (au bf (au bO (aa 2) (au bf (aa 0) (ay 1))) (au gM (aa 0) (aa 0))) (ay 26))))
abbrev vae:=rY (dW "") (aj (bU (iK (aj (ay 10) ao)) 1 [2,0] (aC 0) bB (aJ (aa 1) (au aZ (au bf (au bO (aa 2) (ay 2)) (au gM (ay 3) (aa 0))) (ay 26)))) ao)
def u9:GF:=cY 9 (aF vfh
 (aF (aL 3 (cu ao))
 (aF (cC (tT vfj aY)
 (aF (aL 4 vae)
 (aF (fX (iK (aj (aa 1) ao)) (aC 5)
 (jM 3 vaq))
 (gZ 3)))
 bR)
 (aF (aL 6 vag)
 (aF (aL 7 vfn)
 (aF (fX (iK (aj (aa 1) ao)) (aC 5)
 (aF vaf
 (aF vbr
 vfz)))
 (gZ 3)))))))
abbrev xpB:SF:=(aF (aL 5 (au aZ (au gM (au aZ (au gM (aa 0) (au bf (aa 4) (bg 2))) (bg 2147483647)) (bg 16807)) (bg 2147483647)))
 (aF (aL 6 (aX (aj (fI "num") (aj (au aZ (aa 5) (bg 1000)) ao))))
 (aF (cC (eE (tT (au iV (eB cz (aj (aa 1) ao)) (bg 0)) aY) (tT (au iV (au aZ (aa 5) (bg 6)) (bg 0)) aY))
 (aL 6 (aX (aj (fI "box") (aj (aJ (aa 1) (au aZ (au bO (aa 5) (bg 6)) (eB cz (aj (aa 1) ao)))) ao))))
 bR)
 (aF (cC (eE (tT (au iV (eB cz (aj (aa 2) ao)) (bg 0)) aY) (tT (au eW (au aZ (aa 5) (bg 7)) (bg 5)) aY))
 (aL 6 (aX (aj (fI "@") (aj (aJ (aa 2) (au aZ (au bO (aa 5) (bg 42)) (eB cz (aj (aa 2) ao)))) (aj (aa 6) ao)))))
 bR)
 (aF (aL 7 (aJ (fI "+-*<=") (au aZ (au bO (aa 5) (bg 77)) (bg 5))))
 (cC (eE (tT (au iV (eB cz (aj (aa 2) ao)) (bg 0)) aY) (tT (au eW (au aZ (au bO (aa 5) (bg 5)) (bg 3)) (bg 0)) aY))
 (aL 3 (aX (aj (fI "@") (aj (aJ (aa 2) (au aZ (au bO (aa 5) (bg 15)) (eB cz (aj (aa 2) ao)))) (aj (aa 3) ao)))))
 (cC (tT (au eW (au aZ (au bO (aa 5) (bg 5)) (bg 3)) (bg 1)) aY)
 (aL 3 (aX (aj (aa 7) (aj (aa 3) (aj (aa 6) ao)))))
 (aL 3 (aX (aj (aa 7) (aj (aa 6) (aj (aa 3) ao))))))))))))
abbrev vfe:=tT (au iV (eB cz (aj (aa 1) ao)) (ay 0)) aY
abbrev vhs:=au iV (au aZ (aa 0) (ay 5)) (ay 0)
abbrev vbj:=aX (aj (dW "num") (aj (au aZ (au gM (aa 0) (ay 7919)) (au Xv (ay 10) (ay 12))) ao))
abbrev vbd:=eE vfe (tT vhs aY)
abbrev vaz:=aL 3 (aX (aj (dW "box") (aj (aJ (aa 1) (au aZ (au bO (aa 0) (ay 5)) (eB cz (aj (aa 1) ao)))) ao)))
def dU:GF:=cY 8 (aF (aL 3 vbj)
 (aF (cC vbd
 vaz
 bR)
 (aF (fX (iK (aj (aJ (cu (aj (ay 0) (aj (ay 0) (aj (ay 1) (aj (ay 1) (aj (ay 2) (aj (ay 2) (aj (ay 3) (aj (ay 4) ao))))))))) (au aZ (au bO (aa 0) (ay 60)) (ay 8))) ao)) (aC 4)
 xpB)
 (gZ 3))))
def iB:GF:=cY 12 (aF (aL 5 (aN dU (aj (au aZ (au gM (aa 0) (bg 48271)) (bg 2147483647)) (aj (aa 1) (aj (aa 2) ao)))))
 (aF (aL 6 (aN dU (aj (au aZ (au gM (aa 0) (bg 69621)) (bg 2147483647)) (aj (aa 1) (aj (aa 2) ao)))))
 (aF (aL 7 (au aZ (au bO (aa 0) (bg 8)) (bg 9)))
 (aF (cC (eE (tT (au eW (aa 7) (bg 1)) aY) (tT (au iV (eB cz (aj (aa 2) ao)) (bg 0)) aY))
 (cI (aX (aj (fI "put") (aj (aJ (aa 2) (au aZ (au bO (aa 0) (bg 72)) (eB cz (aj (aa 2) ao)))) (aj (aa 5) (aj (aa 6) ao))))))
 bR)
 (aF (cC (tT (au eW (aa 7) (bg 6)) aY)
 (cI (aX (aj (fI "while") (aj (aa 6) (aj (oh (cu ao)) ao)))))
 bR)
 (aF (cC (tO (tT (au pB (aa 7) (aX (aj (bg 4) (aj (bg 5) ao)))) aY) (tT (au eW (eB cz (aj (aa 1) ao)) (bg 0)) aY))
 (cI (aX (aj (fI "if") (aj (aa 5) (aj (oh (cu ao)) (aj (oh (cu ao)) ao))))))
 bR)
 (aF (aL 8 (aJ (aa 1) (au aZ (au bO (aa 0) (bg 72)) (eB cz (aj (aa 1) ao)))))
 (aF (cC (eE (tT (au eW (aa 7) (bg 2)) aY) (tT (au iV (eB cz (aj (aa 4) ao)) (bg 0)) aY))
 (cI (aX (aj (fI "out") (aj (aa 8) (aj (aa 5) (aj (aJ (aa 4) (au aZ (au bO (aa 0) (bg 7)) (eB cz (aj (aa 4) ao)))) ao))))))
 bR)
 (aF (cC (eE (tT (au pB (aa 7) (aX (aj (bg 3) (aj (bg 8) ao)))) aY) (tT (au iV (eB cz (aj (aa 3) ao)) (bg 0)) aY))
 (aF (Xn (aJ (aa 3) (au aZ (au bO (aa 0) (bg 792)) (eB cz (aj (aa 3) ao)))) (fC 2 (aW (aC 9) (aW (aC 10) fu))))
 (aF (aL 11 (bU (iK (aj (eB cz (aj (aa 10) ao)) ao)) 1 [0,1,2] (aC 0) bB (aN dU (aj (au aZ (au gM (aa 1) (bg 40692)) (au Mt (bg 2147483399) (aa 0))) (aj (aa 2) (aj (aa 3) ao))))))
 (cI (aX (aj (fI "call") (aj (aa 8) (aj (aa 9) (aj (aa 11) ao))))))))
 bR)
 (cI (aX (aj (fI "set") (aj (aa 8) (aj (aa 6) ao))))))))))))))
abbrev A8:=aJ (aa 6) (jq (ay 1))
abbrev vga:=tT (au iV (oO (aa 6)) (ay 1)) aY
abbrev GY:=tT (au Ms (oO (aa 6)) (ay 5)) aY
abbrev vgc:=dh (j7 (aa 8) (cM (ay 2)) eU) bJ
abbrev G0:=au eW (au aZ (aa 7) (ay 8)) (ay 0)
abbrev vek:=tT G0 aY
abbrev G1:=aL 8 (aN iB (aj (aa 7) (aj (aa 1) (aj (aa 2) (aj (aa 3) (aj (aa 4) ao))))))
abbrev G2:=au pB (aJ (aa 8) (ay 0)) (aX (aj (dW "if") (aj (dW "while") ao)))
abbrev Hc:=tT G2 aY
abbrev He:=ou (aa 6) (oh (bU (dh (j7 (aa 8) (cM (ay 2)) eU) bJ) 1 [] (aC 0) bB (aa 0)))
abbrev vbk:=eE (tT G0 aY) (tT (au iV (oO (aa 6)) (ay 1)) aY)
abbrev Hj:=eE (tT G2 aY) (tT (au Ms (oO (aa 6)) (ay 5)) aY)
def sJ:GF:=cY 9 (aF (aL 5 (Sx ao))
 (aF (aL 6 (Sx (aj (oh (cu (aj (aa 5) ao))) ao)))
 (aF (fX (dh (aa 0) bJ) (aC 7)
 (cC vbk
 (aF (rW (An A8))
 (cC (tT (au eW (oO A8) (ay 0)) aY)
 (rW (FZ (aa 6)))
 bR))
 (aF G1
 (aF (ou (aJ A8 (ay 0)) (aa 8))
 (cC Hj
 He
 bR)))))
 (cI (Gb (aa 5))))))
abbrev A9:SF:=(aF (aL 4 (au aZ (au bO (aa 0) (aJ (cu (aj (bg 75) (aj (bg 375) (aj (bg 1875) (aj (bg 9375) ao))))) (aa 3))) (bg 5)))
 (jM 2 (aX (aj (aJ (aa 1) (au bf (bg 6) (aa 3))) (aj (mF (aa 1) (cM (au bf (bg 10) (au gM (bg 4) (aa 3)))) (cM (au bf (au bf (bg 10) (au gM (bg 4) (aa 3))) (aa 4)))) ao)))))
abbrev vfk:=au bf (ay 10) (au gM (ay 4) (aa 3))
def vd:GF:=cY 5 (aF (aL 2 (cu ao))
 (aF (fX (iK (aj (au aZ (au bO (aa 0) (bg 15)) (bg 5)) ao)) (aC 3)
 A9)
 (gZ 2)))
abbrev fnB:SF:=(aF (aL 13 (aN sJ (aj (DN (aa 8) (cM (aa 11)) eU (cM (au bf (eB cz (aj (aa 6) ao)) (bg 1)))) (aj (au bf (au bf (aa 4) (cu (aj (aJ (aa 12) (bg 0)) ao))) (aJ (aa 12) (bg 1))) (aj (aa 5) (aj (aa 6) (aj (aa 9) ao)))))))
 (jM 10 (aX (aj (aJ (aa 12) (bg 0)) (aj (aJ (aa 3) (au aZ (au bf (aa 1) (aa 11)) (bg 3))) (aj (bU (dh (aJ (aa 12) (bg 1)) bJ) 1 [] (aC 0) bB (aX (aj (aa 0) (aj (eC .non) ao)))) (aj (aa 13) ao)))))))
abbrev vfr:=aj (aa 5) (aj (aa 6) (aj (aa 9) ao))
abbrev vex:=cM (au bf (eB cz (aj (aa 6) ao)) (ay 1))
abbrev vgu:=au aZ (aa 0) (ay 1000000007)
abbrev vgd:=fC 2 (aW (aC 11) (aW (aC 12) fu))
abbrev vb:=aj (aa 1) (aj (ay 0) (aj (aJ (aa 2) (au aZ (au bf (au bO (aa 3) (ay 3072)) (aa 0)) (ay 3))) ao))
abbrev vaj:=aj (aa 0) (aj (au bf (ay 1) (au aZ (au bO (aa 1) (ay 48)) (ay 8))) (aj (aJ (aa 2) (au aZ (au bO (aa 1) (ay 9216)) (ay 3))) ao))
def nq:GF:=cY 14 (aF (aL 1 (aN nj (aj (aa 0) (aj (ay 0) ao))))
 (aF (aL 2 (aN u9 (aj (aN nj (aj (aa 0) (aj (ay 1) ao))) (aj (ay 26) ao))))
 (aF (aL 3 (cu (aj (eC .non) (aj (dW "low") (aj (dW "high") ao)))))
 (aF (aL 4 (mF (aa 2) eU (cM (au aZ (aa 1) (ay 5)))))
 (aF (aL 5 (mF (aa 2) (cM (ay 4)) (cM (au bf (ay 4) (au aZ (au bO (aa 1) (ay 5)) (ay 3))))))
 (aF (aL 6 (aN vd w6))
 (aF (aL 7 (bU (uU (aa 4)) 2 [3,1] wV bB (aX vb)))
 (aF (aL 7 (au bf (aa 7) (bU (dh (aa 5) bJ) 1 [1,3] (aC 0) bB (aX vaj))))
 (aF (aL 8 (bU (dh (mF (aa 0) (cM (ay 2)) (cM (ay 42))) bJ) 1 [] (aC 0) bB vgu))
 (aF (aL 9 (cu (aj (dW "somebody") ao)))
 (aF (aL 10 (cu ao))
 (aF (fX (uU (aa 6)) vgd
 fnB)
 (aF (aL 13 (aN sJ (aj (DN (aa 8) (cM (eB cz (aj (aa 6) ao))) eU vex) (aj (aa 4) vfr))))
 (cI (aX (aj (aa 7) (aj (cu (aj (aX (aj (dW "somebody") (aj (dW "high") (aj (dW "low") ao)))) ao)) (aj (aa 10) (aj (aa 13) ao)))))))))))))))))))
def xb:GF:=cY 2 (cI (rT (aN (dJ 40) (aj (FT "Plan" kI (aj (aa 0) ao)) (aj (aa 1) ao)))))
def mT:Nat->GF
 |0=>λ_ _=>J
 | n+1=>cY 11 (aF (aL 4 (cu ao))
  (aF (aL 5 (aa 1))
  (aF (fX (dh (aa 0) bJ) (aC 6)
  (cC (tT (au pB (aJ (aa 6) (bg 0)) (aX (aj (fI "if") (aj (fI "while") ao)))) aY)
  (aF (aL 7 (cu ao))
  (aF (aL 8 (au bf (aa 5) (bg 1)))
  (aF (fX (dh (j7 (aa 6) (cM (bg 2)) eU) bJ) (aC 9)
  (aF (Xn (aN (mT n) (aj (aa 9) (aj (aa 8) (aj (aa 2) (aj (aa 3) ao))))) (fC 2 (aW (aC 10) (aW (aC 8) fu))))
  (jM 7 (aa 10))))
  (aF (jM 4 (au bf (aX (aj (aJ (aa 6) (bg 0)) (aj (aJ (aa 6) (bg 1)) ao))) (wq (aa 7))))
  (aL 5 (aa 8))))))
  (aF (cC (tT (au eW (au Fb (au As (aa 2) (au aZ (aa 5) (bg 40))) (bg 1)) (bg 1)) aY)
  (aF (wt (aa 3) (aa 5) (eC (.bl G)))
  (jM 4 (aX (aj (fI "if") (aj (aX (aj (fI "num") (aj (bg 0) ao))) (aj (cu ao) (aj (cu ao) ao)))))))
  (jM 4 (aa 6)))
  (aL 5 (au bf (aa 5) (bg 1))))))
  (cI (aX (aj (aa 4) (aj (aa 5) ao)))))))
def xc:GF:=cY 4 (aF (aL 2 Vo)
 (aF (fX (dh (aa 1) bJ) (aC 3)
 (FJ 2 (aa 3) (eC (.bl G))))
 (aF (fX (dh (aa 0) bJ) (aC 3)
 (cC (sR (tT (au qa (aa 3) (aa 2)) aY))
 (cI (eC (.bl M)))
 bR))
 (cI (eC (.bl G))))))
def A_:GF:=cY 4 (aF (aL 2 Vt)
 (aF (fX (dh (aa 1) bJ) (aC 3)
 (wG 2 (aa 3) (eC (.bl G))))
 (aF (fX (dh (aa 0) bJ) (aC 3)
 (cC (sR (tT (au wE (aa 3) (aa 2)) aY))
 (cI (eC (.bl M)))
 bR))
 (cI (eC (.bl G))))))
def S6:GF:=cY 17 (aF (aL 1 (aN nq (aj (aa 0) ao)))
 (aF (aL 2 (au aZ (au gM (aN nj (aj (aa 0) (aj (bg 1) ao))) (bg 982451653)) (au UW (bg 1) (bg 40))))
 (aF (cC (tT (au eW (au aZ (aN nj (aj (aa 0) (aj (bg 1) ao))) (bg 5)) (bg 0)) aY)
 (aL 2 (au Mt (au UW (bg 1) (bg 40)) (bg 1)))
 bR)
 (aF (aL 3 Vo)
 (aF (aL 4 (cu ao))
 (aF (aL 5 (bg 0))
 (aF (fX (dh (aJ (aa 1) (bg 2)) bJ) (fC 4 (aW (aC 6) (aW (aC 7) (aW (aC 8) (aW (aC 9) fu)))))
 (aF (Bw 3 (wQ 3 (Xn (aN (mT 40) (aj (aa 9) (aj (aa 5) (aj (aa 2) (aj (aa 3) ao))))) (fC 2 (aW (aC 10) (aW (aC 5) fu))))))
 (jM 4 (aX (aj (aa 6) (aj (aa 7) (aj (aa 8) (aj (aa 10) ao))))))))
 (aF (Bw 3 (wQ 3 (Xn (aN (mT 40) (aj (aJ (aa 1) (bg 3)) (aj (aa 5) (aj (aa 2) (aj (aa 3) ao))))) (fC 2 (aW (aC 10) (aW (aC 5) fu))))))
 (aF (aL 11 (aX (aj (aJ (aa 1) (bg 0)) (aj (aJ (aa 1) (bg 1)) (aj (aa 4) (aj (aa 10) ao))))))
 (aF (aL 12 (aN Hi (aj (aa 1) ao)))
 (aF (aL 13 (aN Hi (aj (aa 11) ao)))
 (aF (cC (tO (Br (tT (aN A_ (aj (aa 13) (aj (aa 12) ao))) qW)) (Br (tT (aN xc (aj (aN w4 (aj (aa 11) ao)) (aj (aN w4 (aj (aa 1) ao)) ao))) qW)))
 (cI (eC (.bl M)))
 bR)
 (aF (aL 14 (bU (dh (aa 12) bJ) 1 [3] (aC 0) (eE (tT (au pB (aJ (aa 0) (bg 1)) (aX (aj (bg 1) (aj (bg 2) ao)))) aY) (tT (au qa (aJ (aa 0) (bg 0)) (aa 1)) aY)) (aa 0)))
 (aF (cC (tT (au Mq (bU (dh (aa 13) bJ) 1 [] (aC 0) (tT (au pB (aJ (aa 0) (bg 1)) (aX (aj (bg 1) (aj (bg 2) ao)))) aY) (aa 0)) (aa 14)) aY)
 (cI (eC (.bl M)))
 bR)
 (aF (aL 15 (aX (aj (fI "enter") (aj (fI "within") (aj (fI "choice") ao)))))
 (aF (cC (tT (au Mq (bU (dh (aa 13) bJ) 1 [15] (aC 0) (tT (au pB (aJ (aa 0) (bg 2)) (aa 1)) aY) (aa 0)) (bU (dh (aa 12) bJ) 1 [15] (aC 0) (tT (au pB (aJ (aa 0) (bg 2)) (aa 1)) aY) (aa 0))) aY)
 (cI (eC (.bl M)))
 bR)
 (aF (fX (iK (aj (aa 5) ao)) (aC 16)
 (cC (Br (tT (aN xc (aj (aN xb (aj (aa 11) (aj (aa 16) ao))) (aj (aN xb (aj (aa 1) (aj (aa 16) ao))) ao))) qW))
 (cI (eC (.bl M)))
 bR))
 (cI (eC (.bl G))))))))))))))))))))
variable {P:Program}{w:World}{K:FG}{mg:Str->Option Value}{base:Heap}
noncomputable abbrev BL:List Str:=["any","enumerate","len","list","range","set","sorted","tuple","zip"]
section
variable {mg:Str->Option Value}(B:QG mg BL)
include B
theorem Ko:mg "any"=J:=B _ ()
theorem sO:mg "enumerate"=J:=B _ ()
theorem eG:mg "len"=J:=B _ ()
theorem wW:mg "list"=J:=B _ ()
theorem pD:mg "range"=J:=B _ ()
theorem S7:mg "set"=J:=B _ ()
theorem DR:mg "sorted"=J:=B _ ()
theorem zcL:mg "tuple"=J:=B _ ()
theorem aef:mg "zip"=J:=B _ ()
end
section
variable (P:Program)(w:World)(K:FG)(mg:Str->Option Value)(base:Heap)(c:Addr)
abbrev mO:=bI P w K mg base "blocks_of" 1 ["row"] (bW K 1 gJ)
abbrev tZ:=bI P w K mg base "expressions_of" 1 ["row"] (bW K 1 km)
abbrev Jl:=bI P w K mg base "copied" 40 ["row"] (bW K 1 (kE 40))
abbrev O7:=bI P w K mg base "in_order" 41 ["rows"] (bW K 1 (iz 40))
abbrev O8:=bI P w K mg base "laid_out" 80 ["where","above","block","rows","start"] (bW K 5 (gP 40))
abbrev Dc:=bI P w K mg base "numbered" 81 ["program"] (bW K 1 yK)
abbrev Yd:=bI P w K mg base "reads" 40 ["expression"] (bW K 1 (ni 40))
abbrev Dd:=bI P w K mg base "names_in" 41 ["expression"] (bW K 1 yL)
abbrev Jm:=bI P w K mg base "spends" 42 ["row"] (bW K 1 yM)
abbrev Ho:=bI P w K mg base "head_pairs" 1 ["program"] (bW K 1 AS)
abbrev Hq:=bI P w K mg base "head_names" 2 ["program"] (bW K 1 AT)
abbrev Cw:=X4 P w K mg base c 82 ["self","program"] (bW K 2 kI)
abbrev HA:=vO P w K mg base c "bodies" 1 ["self"] (bW K 1 AV)
abbrev vf:=vO P w K mg base c "numbers" 1 ["self"] (bW K 1 qm)
abbrev gQ:=vO P w K mg base c "row" 1 ["self","k"] (bW K 2 dY)
abbrev HC:=bI P w K mg base "nodes" 84 ["program"] (bW K 1 w4)
abbrev nu:=vO P w K mg base c "block" 1 ["self","k","which"] (bW K 3 dZ)
abbrev jW:=vO P w K mg base c "spending" 43 ["self","numbers"] (bW K 2 fV)
abbrev tW:=bI P w K mg base "behind_row" 83 ["plan","k"] (bW K 2 (dJ 40))
abbrev zf:=bI P w K mg base "back_steps" 2 ["plan","k"] (bW K 2 j4)
abbrev qH:=vO P w K mg base c "just_ahead" 1 ["self","k"] (bW K 2 iH)
abbrev tX:=vO P w K mg base c "home" 1 ["self","k"] (bW K 2 mL)
abbrev wX:=vO P w K mg base c "outer" 1 ["self","k"] (bW K 2 oH)
abbrev lw:=bI P w K mg base "boxes_read" 42 ["expression"] (bW K 1 iI)
abbrev vg:=bI P w K mg base "first_sources" 43 ["plan","k"] (bW K 2 lW)
abbrev vQ:=bI P w K mg base "turn_sources" 84 ["plan","k"] (bW K 2 rM)
abbrev vh:=bI P w K mg base "begin_sources" 85 ["plan","k"] (bW K 2 jH)
abbrev vR:=vO P w K mg base c "params" 1 ["self","name"] (bW K 2 rN)
abbrev wY:=bI P w K mg base "given_steps" 43 ["k","name","some"] (bW K 3 lr)
abbrev zg:=bI P w K mg base "done_steps" 44 ["plan","k"] (bW K 2 qt)
abbrev zj:=vO P w K mg base c "body" 1 ["self","name"] (bW K 2 qu)
abbrev w5:=bI P w K mg base "leave_steps" 84 ["plan","k"] (bW K 2 lu)
abbrev M9:=bI P w K mg base "rules" 86 ["program"] (bW K 1 Hi)
abbrev vU:=bI P w K mg base "_law_cell_at" 1 ["_law_script","_law_k"] (bW K 2 nj)
abbrev zm:=bI P w K mg base "_law_names" 1 ["_law_cell","_law_count"] (bW K 2 u9)
abbrev sY:=bI P w K mg base "_law_expression" 1 ["_law_cell","_law_own","_law_lists"] (bW K 3 dU)
abbrev De:=bI P w K mg base "_law_row" 2 ["_law_cell","_law_own","_law_lists","_law_heads_here","_law_whos"] (bW K 5 iB)
abbrev Ao:=bI P w K mg base "_law_rows" 3 ["_law_cells","_law_own","_law_lists","_law_heads_here","_law_whos"] (bW K 5 sJ)
abbrev zp:=bI P w K mg base "_law_heads" 1 ["_law_cell","_law_names_here"] (bW K 2 vd)
abbrev vV:=bI P w K mg base "_law_program" 4 ["_law_script"] (bW K 1 nq)
abbrev HG:=bI P w K mg base "behind" 84 ["program","k"] (bW K 2 xb)
abbrev zbN:=bI P w K mg base "_law_silent" 40 ["_law_rows_here","_law_first","_law_bits","_law_silenced"] (bW K 4 (mT 40))
abbrev HI:=bI P w K mg base "_law_all_in" 1 ["_law_some","_law_others"] (bW K 2 xc)
abbrev HM:=bI P w K mg base "_law_all_in" 1 ["_law_some","_law_others"] (bW K 2 A_)
end
class CC(P:outParam Program)(w:outParam World)(K:outParam FG)(mg:outParam (Str->Option Value))(base:outParam Heap)(dQ:outParam Addr):Prop where
 b:QG mg BL
 l:yx K mg "Plan" dQ
 m:∀f∈(["told","lists","heads"]:List Str),kW K dQ f
 k:HK.hk=CT P w
namespace Y
variable {dQ:Addr}[z:CC P w K mg base dQ]
include z
theorem B:QG mg BL:=z.b
theorem eQ:yx K mg "Plan" dQ:=z.l
theorem iA:∀f∈(["told","lists","heads"]:List Str),kW K dQ f:=z.m
theorem kL:HK.hk=CT P w:=z.k
section
seal jP PS PE PT PA PI PG ju PO v5 TQ GS Zc pA aF cC aJ au tT cI cu aX aj binaryOp compareOp
local macro_rules | `(tactic| ac_rfl)=>`(tactic| walk_at "kk"<;>walk_at "kk")
local macro_rules | `(tactic| walk_at "kk")=>`(tactic| repeat' first | exact aq | exact aP | exact aQ | exact bT | exact bH | exact iU | exact gR | exact cN | exact aM | exact qw _ | exact cG ‹_› | exact bA _ | exact pv _ | refine ak ?_ ?_ | apply az | apply b8 | apply aB | apply aD | apply bj bD bF | apply bj cg bQ | apply bj dM cZ | apply bj nP lG | apply qI | refine cU _ ‹_› ?_ | refine bN ?_ cH ?_ ?_ ?_ | refine bN ?_ mC ?_ ?_ ?_ | refine bN ?_ qY ?_ ?_ ?_ | refine bN ?_ Mr ?_ ?_ ?_ | apply bK | refine bL ‹_› ?_ O ?_ ?_ | apply dz | apply cP | apply cA | exact cQ _ ‹_› | exact cQ _ (by show List.Nodup (_::_);decide +kernel) | apply bV aM | refine qL ?_ ?_ | exact eG B | refine fP ?_ ?_ λ_ _=>O | refine' fK LY O ?_ ?_ ?_ ?_ | refine' bM ?_ ?_ | apply eX | apply gO | apply gh | refine jt ahg ‹_› ?_ ?_ ?_ ?_ | refine nM ?_ ?_ | refine' iY ?_ | refine PW.pt (pO ?_ (mX ?_)) | refine mz O (pD B) ?_ | refine uC ?_ ?_ jX | refine yE ?_ ?_ | refine' iW O ?_ | refine wR ?_ ?_ | exact mD O | refine PW.pt (Ke ?_ (Fp ?_)) | refine Fo ?_ λ_=>O | exact v7 aQ | exact uR ‹_› | exact Or.inr O | exact Jg | exact pL | exact .mono ‹_› (by omega) | exact PySem.Around.mono ‹_› (by omega) | exact () | fail)
local macro_rules | `(∅)=>`(by ac_rfl)
theorem Nf(F:cL K mg "blocks_of" wj ["row"]):mO P w K mg base:=
 F.ok M6 λf q A i s H E j=>#[_,λ_ _=>O,by ac_rfl]
theorem Cy(F:cL K mg "expressions_of" oR ["row"]):tZ P w K mg base:=
 F.ok Cu λf e6 A outer s H E hr=>#[_,λ_ _=>rfl,by ac_rfl;show PE.imp (ja lX () (wW B) (by kernel_rfl) ∅) (pP wK)]
theorem Vx(F:cL K mg "copied" yG ["row"])(HP:bI P w K mg base "all_copied" (0+n) ["rows"] (bW K 1 (cv n))):bI P w K mg base "copied" (0+n+1) ["row"] (bW K 1 (kE (n+1))):=
 F.ok Vv λf e6 A outer s H E hr=>#[_,λ_ _=>rfl,by ac_rfl;show PE.imp (ja lX () (wW B) (by kernel_rfl) ∅) (pP wK)]
theorem JS(F:cL K mg "all_copied" mG ["rows"])(oe:bI P w K mg base "copied" (0+n) ["row"] (bW K 1 (kE n))):bI P w K mg base "all_copied" (0+n+1) ["rows"] (bW K 1 (cv (n+1))):=
 F.ok JN λf e6 A outer s H E hr=>#[_,λ_ _=>rfl,by ac_rfl;show gH ["row"] [] [] rfl (jx (aG mG)) ∅ (λ_ _ _ _=>∅) aM (λ_ _ _ _=>cN) (λ_ _ _ _=>∅)]
theorem Gg(qb:cL K mg "copied" yG ["row"])(qh:cL K mg "all_copied" mG ["rows"]):∀n:Nat,bI P w K mg base "copied" (0+n) ["row"] (bW K 1 (kE n))/\bI P w K mg base "all_copied" (0+n) ["rows"] (bW K 1 (cv n))
 |0=>#[jY qb,jY qh]
 |n+1=>by let ih:=Gg qb qh n;show#[Vx qb ih.2,JS qh ih.1]
theorem Pa(F:cL K mg "in_order" uh ["rows"])(i:mO P w K mg base)(q:bI P w K mg base "in_order" (1+n) ["rows"] (bW K 1 (iz n))):bI P w K mg base "in_order" (1+n+1) ["rows"] (bW K 1 (iz (n+1))):=
 F.ok sH λf D A j s H E z=>#[_,λ_ _=>O,by have:=sH.nd;ac_rfl]
theorem Aq(tx:cL K mg "in_order" uh ["rows"])(kM:mO P w K mg base):∀n:Nat,bI P w K mg base "in_order" (1+n) ["rows"] (bW K 1 (iz n))
 |0=>jY tx
 |n+1=>by let ih:=Aq tx kM n;show Pa tx kM ih
theorem Pb(F:cL K mg "laid_out" ul ["where","above","block","rows","start"])(q:mO P w K mg base)(i:Jl P w K mg base)(j:bI P w K mg base "laid_out" (40+n) ["where","above","block","rows","start"] (bW K 5 (gP n))):bI P w K mg base "laid_out" (40+n+1) ["where","above","block","rows","start"] (bW K 5 (gP (n+1))):=
 F.ok lH λf N A z s H E D=>#[_,λ_ _=>O,by have:=lH.nd;ac_rfl;show Kh ∅;show Bx O (sO B) ∅;show Kh ∅]
theorem Ar(tz:cL K mg "laid_out" ul ["where","above","block","rows","start"])(kM:mO P w K mg base)(oe:Jl P w K mg base):∀n:Nat,bI P w K mg base "laid_out" (40+n) ["where","above","block","rows","start"] (bW K 5 (gP n))
 |0=>jY tz
 |n+1=>by let ih:=Ar tz kM oe n;show Pb tz kM oe ih
theorem Ph(F:cL K mg "numbered" yH ["program"])(i:O8 P w K mg base):Dc P w K mg base:=
 F.ok lJ λf z A j s H E q=>#[_,λ_ _=>O,by have:=lJ.nd;ac_rfl;show Kh ∅;show Kh ∅]
theorem Ye(F:cL K mg "reads" BX ["expression"])(i:bI P w K mg base "reads" (0+n) ["expression"] (bW K 1 (ni n))):bI P w K mg base "reads" (0+n+1) ["expression"] (bW K 1 (ni (n+1))):=
 F.ok Yc λf z A q s H E j=>#[_,λ_ _=>O,by ac_rfl]
theorem Jo(tF:cL K mg "reads" BX ["expression"]):∀n:Nat,bI P w K mg base "reads" (0+n) ["expression"] (bW K 1 (ni n))
 |0=>jY tF
 |n+1=>by let ih:=Jo tF n;show Ye tF ih
theorem Pj(F:cL K mg "names_in" um ["expression"])(aja:Yd P w K mg base):Dd P w K mg base:=
 F.ok O3 λf e6 A outer s H E hr=>#[_,λ_ _=>rfl,by ac_rfl;show Az (iQ (zl rfl) () (DR B) (by kernel_rfl) (wz (ja (W2 rfl) () (S7 B) (by kernel_rfl) (ak (gH ["word","name"] [] [] rfl (jx (aG um)) ∅ (λ_ _ _ _=>∅) (iY (bV aM (bV aM iU))) (λ_ _ _ _=>cN) (λ_ _ _ _=>∅)) aq)) zK))]
theorem Vy(F:cL K mg "spends" yI ["row"])(j:O7 P w K mg base):Jm P w K mg base:=
 F.ok Vw λf z A i s H E q=>#[_,λ_ _=>O,by ac_rfl;show wJ ∅ Fx (iQ ∅ O (Ko B) () (ak (gH ["inner"] [] [] O (jx (aG yI)) ∅ (λ_ _ _ _=>∅) aM (λ_ _ _ _=>cN) (λ_ _ _ _=>(Xk ∅ qY ∅ ∅ (by with_unfolding_all rfl)))) aq))]
theorem zfQ(F:cL K mg "head_pairs" tw ["program"]):Ho P w K mg base:=
 F.ok AN λf j A outer s H E D=>#[_,λ_ _=>O,by have:=AN.nd;ac_rfl;show uA ["name","size","rank"] [] [] AN.nd O O O (jx (aG tw)) ∅ (λ_ _ _ _=>∅) (iY (bV aM (bV aM (bV aM iU)))) (λ_ _ _ _=>cN) (λ_ _ _ _=>∅);show gH ["param","known"] [] [] O (jx (aG tw)) ∅ (λ_ _ _ _=>∅) (iY (bV aM (bV aM iU))) (λ_ _ _ _=>cN) (λ_ _ _ _=>∅)]
theorem zef(F:cL K mg "head_names" wP ["program"])(j:Ho P w K mg base):Hq P w K mg base:=
 F.ok Y7 λf e6 A outer s H E D=>#[_,λ_ _=>O,by ac_rfl;show gH ["name","rank"] [] [] O (jx (aG wP)) ∅ (λ_ _ _ _=>∅) (iY (bV aM (bV aM iU))) (λ_ _ _ _=>cN) (λ_ _ _ _=>∅)]
theorem CG(F:wO K dQ "__init__" "Plan.__init__" j8 ["self","program"])(HU:Dc P w K mg base):vO P w K mg base dQ "__init__" 82 ["self","program"] (bW K 2 kI):=
 F.ok dR λf e6 A outer s H E hr=>#[_,λ_ _=>rfl,by have:=dR.nd;ac_rfl;show Fd kL;show Bx rfl (sO B) ∅;show By (qK (rR oC xE xH oY (Wb kL (Lg PySem.F.slot_dict_setdefault PySem.F.type_dict_setdefault (Ux (Bj hr)) ∅ (ak (uC ∅ jX ∅) ∅))) ∅));show Ap;show E9 (KH (gH ["param","known"] [] [] rfl (jx (aG j8)) ∅ (λ_ _ _ _=>∅) (iY (bV aM (bV aM iU))) (λ_ _ _ _=>cN) (λ_ _ _ _=>∅)) (Eo ∅ ∅ (set_dict (Bj hr))));show Hb eQ (iA _ (.head _)) ∅ ∅;show Hb eQ (iA _ (mI 1 rfl)) ∅ (WE ∅);show Hb eQ (iA _ (mI 2 rfl)) ∅ ∅]
theorem zcb(F:wO K dQ "bodies" "Plan.bodies" AM ["self"]):HA P w K mg base dQ:=
 F.ok Zk λf e6 A outer s H E hr=>#[_,λ_ _=>rfl,by ac_rfl;show PE.imp (ja (Qc rfl) () (wW B) () (ak (wg eQ (iA _ (mI 2 rfl)) ∅) aq)) (pP WO)]
theorem DW(F:wO K dQ "numbers" "Plan.numbers" qg ["self"]):vf P w K mg base dQ:=
 F.ok DQ λf e6 A outer s H E hr=>#[_,λ_ _=>rfl,by ac_rfl;show WQ (ja (JL rfl) () (wW B) () (wz (ja W5 () (pD B) (by kernel_rfl) (ak (qL ∅ (wg eQ (iA _ (.head _)) ∅)) aq)) zK))]
theorem Ng(F:wO K dQ "row" "Plan.row" wk ["self","k"]):gQ P w K mg base dQ:=
 F.ok M8 λf e6 A outer s H E hr=>#[_,λ_ _=>rfl,by ac_rfl;show wg eQ (iA _ ()) ∅]
theorem zaQ(F:cL K mg "nodes" wS ["program"])(cx:Cw P w K mg base dQ)(Bg:HA P w K mg base dQ)(eK:vf P w K mg base dQ)(ic:gQ P w K mg base dQ)(HV:Hq P w K mg base):HC P w K mg base:=
 F.ok AO λf e6 A outer s H E hr=>#[_,λ_ _=>rfl,by have:=AO.nd;ac_rfl;show Au eQ cx ∅ rfl ∅ ∅;show uA ["name"] [] [] AO.nd rfl rfl rfl (jx (aG wS)) ∅ (λ_ _ _ _=>∅) aM (λ_ _ _ _=>cN) (λ_ _ _ _=>∅);show At eQ Bg ∅ ∅ rfl;show At eQ eK ∅ ∅ rfl;show jt eQ ic ∅ ∅ ∅ ∅;show Az (iQ (zl rfl) () (DR B) (by kernel_rfl) (wz (ja (W2 rfl) () (S7 B) (by kernel_rfl) ∅) zK))]
theorem Hk(F:wO K dQ "block" "Plan.block" tV ["self","k","which"]):nu P w K mg base dQ:=
 F.ok Hh λf e6 A outer s H E hr=>#[_,λ_ _=>rfl,by ac_rfl;show PE.imp (ja lX () (wW B) () (ak (Zi kL (Lg PySem.F.slot_dict_get PySem.F.type_dict_get (Qj (Bj hr)) (wg eQ (iA _ (mI 1 rfl)) ∅) (by ac_rfl;show wg eQ (iA _ (.head _)) ∅))) aq)) (pP wK)]
theorem Cz(F:wO K dQ "spending" "Plan.spending" j9 ["self","numbers"])(ic:gQ P w K mg base dQ)(Bi:Jm P w K mg base):jW P w K mg base dQ:=
 F.ok Cv λf e6 A outer s H E hr=>#[_,λ_ _=>rfl,by ac_rfl;show wJ ∅ Fx (iQ ∅ () (Ko B) () (ak (gH ["k"] ["self"] [0] rfl (jx (aG j9)) ∅ (λ_ _ _ _=>∅) aM (λ_ _ _ _=>cN) (λ_ _ _ _=>(by ac_rfl;show jt eQ ic ∅ ∅ ∅ ∅))) aq))]
theorem JT(F:cL K mg "behind_row" pY ["plan","k"])(bS:nu P w K mg base dQ)(ic:gQ P w K mg base dQ)(qj:jW P w K mg base dQ)(jj:bI P w K mg base "behind_row" (43+n) ["plan","k"] (bW K 2 (dJ n))):bI P w K mg base "behind_row" (43+n+1) ["plan","k"] (bW K 2 (dJ (n+1))):=
 F.ok oF λf e6 A outer s H E hr=>#[_,λ_ _=>rfl,by have:=oF.nd;ac_rfl;show jt eQ ic ∅ ∅ ∅ ∅;show jt eQ bS ∅ ∅ ∅ ∅;show jt eQ bS ∅ ∅ ∅ ∅;show jt eQ qj ∅ ∅ ∅ ∅]
theorem xf(tI:cL K mg "behind_row" pY ["plan","k"])(bS:nu P w K mg base dQ)(ic:gQ P w K mg base dQ)(qj:jW P w K mg base dQ):∀n:Nat,bI P w K mg base "behind_row" (43+n) ["plan","k"] (bW K 2 (dJ n))
 |0=>jY tI
 |n+1=>by let ih:=xf tI bS ic qj n;show JT tI bS ic qj ih
theorem JV(F:cL K mg "back_steps" qe ["plan","k"])(ic:gQ P w K mg base dQ):zf P w K mg base:=
 F.ok zc λf e6 A outer s H E hr=>#[_,λ_ _=>rfl,by have:=zc.nd;ac_rfl;show wI zc.nd rfl ∅ (jt eQ ic ∅ ∅ ∅ ∅);show Mp hr;show gH ["source"] ["row"] [2] rfl (jx (aG qe)) ∅ (λ_ _ _ _=>∅) aM (λ_ _ _ _=>cN) (λ_ _ _ _=>∅)]
theorem zB(F:wO K dQ "just_ahead" "Plan.just_ahead" mJ ["self","k"]):qH P w K mg base dQ:=
 F.ok lM λf e6 A outer s H E hr=>#[_,λ_ _=>rfl,by have:=lM.nd;ac_rfl;show W1 kL (Bj hr) (wg eQ (iA _ ()) ∅) (uC (by ac_rfl;show wg eQ (iA _ (.head _)) ∅) jX ∅) (λ_ _=>rfl);show UX (rR oC PySem.F.slot_list_index PySem.F.type_list_index (XF hr) ∅ ∅);show Tn ∅ Jg (by ac_rfl;show bj T4 QD ∅ aQ)]
theorem JW(F:wO K dQ "home" "Plan.home" u5 ["self","k"]):tX P w K mg base dQ:=
 F.ok JQ λf e6 A outer s H E hr=>#[_,λ_ _=>rfl,by ac_rfl;show wg eQ (iA _ ()) ∅]
theorem Hl(F:wO K dQ "outer" "Plan.outer" tU ["self","k"]):wX P w K mg base dQ:=
 F.ok Hf λf e6 A outer s H E hr=>#[_,λ_ _=>rfl,by ac_rfl;show wg eQ (iA _ ()) ∅]
theorem JX(F:cL K mg "boxes_read" pZ ["expression"])(j:Dd P w K mg base):lw P w K mg base:=
 F.ok JP λf q A i s H E z=>#[_,λ_ _=>O,by ac_rfl;show gH ["name"] [] [] O (jx (aG pZ)) ∅ (λ_ _ _ _=>∅) aM (λ_ _ _ _=>cN) (λ_ _ _ _=>∅)]
theorem DX(F:cL K mg "first_sources" lV ["plan","k"])(qk:tX P w K mg base dQ)(Bn:wX P w K mg base dQ)(ic:gQ P w K mg base dQ)(HZ:lw P w K mg base):vg P w K mg base:=
 F.ok kh λf e6 A outer s H E hr=>#[_,λ_ _=>rfl,by have:=kh.nd;ac_rfl;show jt eQ Bn ∅ ∅ ∅ ∅;show bN T7 QC ∅ Jg ∅;show jt eQ qk ∅ ∅ ∅ ∅;show jt eQ ic ∅ ∅ ∅ ∅;show gH ["node"] [] [] rfl (jx (aG lV)) ∅ (λ_ _ _ _=>∅) aM (λ_ _ _ _=>cN) (λ_ _ _ _=>∅)]
theorem Gh(F:cL K mg "turn_sources" rF ["plan","k"])(bS:nu P w K mg base dQ)(ic:gQ P w K mg base dQ)(jj:tW P w K mg base)(HZ:lw P w K mg base):vQ P w K mg base:=
 F.ok qi λf e6 A outer s H E hr=>#[_,λ_ _=>rfl,by have:=qi.nd;ac_rfl;show jt eQ bS ∅ ∅ ∅ ∅;show jt eQ ic ∅ ∅ ∅ ∅]
theorem DY(F:cL K mg "begin_sources" jF ["plan","k"])(xh:qH P w K mg base dQ)(ic:gQ P w K mg base dQ)(jj:tW P w K mg base)(H_:vg P w K mg base)(Ic:vQ P w K mg base):vh P w K mg base:=
 F.ok oU λf e6 A outer s H E hr=>#[_,λ_ _=>rfl,by have:=oU.nd;ac_rfl;show jt eQ xh ∅ ∅ ∅ ∅;show bN T7 QC ∅ Jg ∅;show gH ["node"] [] [] rfl (jx (aG jF)) ∅ (λ_ _ _ _=>∅) aM (λ_ _ _ _=>cN) (λ_ _ _ _=>∅);show jt eQ ic ∅ ∅ ∅ ∅;show gH ["node"] [] [] rfl (jx (aG jF)) ∅ (λ_ _ _ _=>∅) aM (λ_ _ _ _=>cN) (λ_ _ _ _=>∅)]
theorem Gi(F:wO K dQ "params" "Plan.params" rH ["self","name"]):vR P w K mg base dQ:=
 F.ok Gf λf e6 A outer s H E hr=>#[_,λ_ _=>rfl,by ac_rfl;show PE.imp (ja lX () (wW B) () (ak (UZ (Bj hr) (wg eQ (iA _ (mI 2 rfl)) ∅) ∅ (λ_ _=>rfl)) aq)) (pP wK)]
theorem Hm(F:cL K mg "given_steps" oA ["k","name","some"])(oz:lw P w K mg base):wY P w K mg base:=
 F.ok rJ λf q A i s H E j=>#[_,λ_ _=>O,by have:=rJ.nd;ac_rfl;show gH ["node"] ["name"] [1] O (jx (aG oA)) ∅ (λ_ _ _ _=>∅) aM (λ_ _ _ _=>cN) (λ_ _ _ _=>∅)]
theorem JZ(F:cL K mg "done_steps" qd ["plan","k"])(Bz:vR P w K mg base dQ)(ic:gQ P w K mg base dQ)(HZ:lw P w K mg base)(Iq:tZ P w K mg base)(Ix:wY P w K mg base):zg P w K mg base:=
 F.ok jD λf e6 A outer s H E hr=>#[_,λ_ _=>rfl,by have:=jD.nd;ac_rfl;show jt eQ ic ∅ ∅ ∅ ∅;show uA ["node"] ["k"] [1] jD.nd rfl rfl rfl (jx (aG qd)) ∅ (λ_ _ _ _=>∅) aM (λ_ _ _ _=>cN) (λ_ _ _ _=>∅);show VQ rfl (aef B) (ak (jt eQ Bz ∅ ∅ ∅ ∅) ∅)]
theorem J0(F:wO K dQ "body" "Plan.body" u6 ["self","name"]):zj P w K mg base dQ:=
 F.ok JR λf e6 A outer s H E hr=>#[_,λ_ _=>rfl,by ac_rfl;show PE.imp (ja lX () (wW B) () (ak (Zi kL (Lg PySem.F.slot_dict_get PySem.F.type_dict_get (Qj (Bj hr)) (wg eQ (iA _ (mI 1 rfl)) ∅) ∅)) aq)) (pP wK)]
theorem Hn(F:cL K mg "leave_steps" oE ["plan","k"])(ajm:zj P w K mg base dQ)(qk:tX P w K mg base dQ)(qj:jW P w K mg base dQ)(jj:tW P w K mg base):w5 P w K mg base:=
 F.ok rK λf e6 A outer s H E hr=>#[_,λ_ _=>rfl,by have:=rK.nd;ac_rfl;show wI rK.nd rfl ∅ (jt eQ qk ∅ ∅ ∅ ∅);show jt eQ ajm ∅ ∅ ∅ ∅;show Mp hr;show we (Fo (jt eQ qj ∅ ∅ ∅ ∅) (λ_=>rfl));show gH ["source"] ["home"] [2] rfl (jx (aG oE)) ∅ (λ_ _ _ _=>∅) aM (λ_ _ _ _=>cN) (λ_ _ _ _=>∅)]
theorem Yg(F:cL K mg "rules" rE ["program"])(cx:Cw P w K mg base dQ)(eK:vf P w K mg base dQ)(ajn:zf P w K mg base)(BA:vh P w K mg base)(Iy:zg P w K mg base)(IA:w5 P w K mg base):M9 P w K mg base:=
 F.ok yJ λf e6 A outer s H E hr=>#[_,λ_ _=>rfl,by have:=yJ.nd;ac_rfl;show Au eQ cx ∅ rfl ∅ ∅;show At eQ eK ∅ ∅ rfl;show PB yJ.nd rfl ∅;show gH ["kind","source"] ["k"] [3] rfl (jx (aG rE)) ∅ (λ_ _ _ _=>∅) (iY (bV aM (bV aM iU))) (λ_ _ _ _=>cN) (λ_ _ _ _=>∅);show gH ["kind","source","target"] ["k"] [3] rfl (jx (aG rE)) ∅ (λ_ _ _ _=>∅) (iY (bV aM (bV aM (bV aM iU)))) (λ_ _ _ _=>cN) (λ_ _ _ _=>∅);show gH ["source","target"] ["k"] [3] rfl (jx (aG rE)) ∅ (λ_ _ _ _=>∅) (iY (bV aM (bV aM iU))) (λ_ _ _ _=>cN) (λ_ _ _ _=>∅);show gH ["source","target"] ["k"] [3] rfl (jx (aG rE)) ∅ (λ_ _ _ _=>∅) (iY (bV aM (bV aM iU))) (λ_ _ _ _=>cN) (λ_ _ _ _=>∅);show Gd (iQ (Ae rfl) () (DR B) (by kernel_rfl) (wz (ja (Iu rfl hr.units) () (S7 B) (by kernel_rfl) ∅) zK))]
theorem Gj(F:cL K mg "_law_cell_at" rG ["_law_script","_law_k"]):vU P w K mg base:=
 F.ok Ge λf j A i s H E q=>#[_,λ_ _=>O,by ac_rfl;show bN YS Vd ∅ ∅ ∅]
theorem J1(F:cL K mg "_law_names" mH ["_law_cell","_law_count"]):zm P w K mg base:=
 F.ok gq λf e6 A outer s H E hr=>#[_,λ_ _=>O,by have:=gq.nd;ac_rfl;show wI gq.nd O ∅ bT;show Zh (rR PySem.F.plainAttrs_str PySem.F.slot_str_join PySem.F.type_str_join QF bT (ak (gH ["_law_j"] ["_law_letters","_law_cell"] [2,0] O (jx (aG mH)) ∅ (λ_ _ _ _=>∅) aM (λ_ _ _ _=>cN) (λ_ _ _ _=>∅)) aq));show rB ∅ ∅ ∅;show uA ["_law_j"] ["_law_letters","_law_cell"] [2,0] gq.nd O O O (jx (aG mH)) ∅ (λ_ _ _ _=>∅) aM (λ_ _ _ _=>cN) (λ_ _ _ _=>∅);show T_ (KH ∅ (Eo ∅ ∅ set_list));show Zh (rR PySem.F.plainAttrs_str PySem.F.slot_str_join PySem.F.type_str_join QF bT ∅)]
theorem Av(F:cL K mg "_law_expression" nO ["_law_cell","_law_own","_law_lists"]):sY P w K mg base:=
 F.ok cR λf e6 A outer s H E hr=>#[_,λ_ _=>O,by have:=cR.nd;ac_rfl;show bj Nc TU aQ aQ]
theorem Pk(F:cL K mg "_law_row" uo ["_law_cell","_law_own","_law_lists","_law_heads_here","_law_whos"])(jj:sY P w K mg base):De P w K mg base:=
 F.ok iy λf e6 A outer s H E hr=>#[_,λ_ _=>rfl,by have:=iy.nd;ac_rfl;show Fz ∅;show Fz ∅;show Fz ∅;show wf ∅ ∅ (iY (bV aM (bV aM iU)));show uA ["_law_k"] ["_law_cell","_law_own","_law_lists"] [0,1,2] iy.nd rfl rfl rfl (jx (aG uo)) ∅ (λ_ _ _ _=>∅) aM (λ_ _ _ _=>cN) (λ_ _ _ _=>(by ac_rfl;show bj T4 QD aQ ∅))]
theorem Nh(F:cL K mg "_law_rows" sE ["_law_cells","_law_own","_law_lists","_law_heads_here","_law_whos"])(EE:De P w K mg base):Ao P w K mg base:=
 F.ok mK λf e6 A outer s H E hr=>#[_,λ_ _=>rfl,by have:=mK.nd;ac_rfl;show Vg ∅;show Vg (dz (ak (Fz ∅) aq));show XH (iQ uJ rfl ∅ vi ∅);show G5 (VZ (rR oC PySem.F.slot_list_pop PySem.F.type_list_pop Wz ∅ ∅));show XH (iQ uJ rfl ∅ vi ∅);show G5 (VW (N3 oC PySem.F.slot_list_pop PySem.F.type_list_pop Oc ∅));show By (qK (rR oC xE xH oY ∅ ∅));show bN YS Vd (XH (iQ uJ rfl ∅ vi ∅)) aQ ∅;show By (qK (rR oC xE xH oY ∅ (ak (Fz (gH ["_law_inner"] [] [] rfl (jx (aG sE)) ∅ (λ_ _ _ _=>∅) aM (λ_ _ _ _=>cN) (λ_ _ _ _=>∅))) aq)));show V6 ∅]
theorem J2(F:cL K mg "_law_heads" uZ ["_law_cell","_law_names_here"]):zp P w K mg base:=
 F.ok oG λf j A outer s H E q=>#[_,λ_ _=>O,by have:=oG.nd;ac_rfl;show rB ∅ ∅ ∅]
theorem Gk(F:cL K mg "_law_program" il ["_law_script"])(q9:vU P w K mg base)(rL:zp P w K mg base)(oS:zm P w K mg base)(md:Ao P w K mg base):vV P w K mg base:=
 F.ok cD λf q A outer s H E j=>#[_,λ_ _=>O,by have:=cD.nd;ac_rfl;show wI cD.nd O ∅ ∅;show wI cD.nd O ∅ ∅;show rB ∅ jX ∅;show rB ∅ ∅ ∅;show uA ["_law_k","_law_name"] ["_law_ranks","_law_cell"] [3,1] cD.nd O O O (jx (aG il)) (Bx O (sO B) ∅) (λ_ _ _ _=>∅) (iY (bV aM (bV aM iU))) (λ_ _ _ _=>cN) (λ_ _ _ _=>∅);show gH ["_law_name"] ["_law_cell","_law_ranks"] [1,3] O (jx (aG il)) ∅ (λ_ _ _ _=>∅) aM (λ_ _ _ _=>cN) (λ_ _ _ _=>∅);show uA ["_law_number"] [] [] cD.nd O O O (jx (aG il)) (cA (rB ∅ ∅ ∅)) (λ_ _ _ _=>∅) aM (λ_ _ _ _=>cN) (λ_ _ _ _=>∅);show Bx O (sO B) ∅;show QM ∅ ∅ jX ∅;show gH ["_law_name"] [] [] O (jx (aG il)) ∅ (λ_ _ _ _=>∅) aM (λ_ _ _ _=>cN) (λ_ _ _ _=>∅);show QM ∅ ∅ jX ∅]
theorem zdm(F:cL K mg "behind" AK ["program","k"])(D:Cw P w K mg base dQ)(j:tW P w K mg base):HG P w K mg base:=
 F.ok Zj λf e6 A z s H E hr=>#[_,λ_ _=>O,by ac_rfl;show Az (iQ (zl O) () (DR B) (by kernel_rfl) (wz (ja (W2 O) () (S7 B) (by kernel_rfl) (by ac_rfl;show Au eQ D ∅ O ∅ ∅)) zK))]
theorem zcj(F:cL K mg "_law_silent" wT ["_law_rows_here","_law_first","_law_bits","_law_silenced"])(z:bI P w K mg base "_law_silent" (0+n) ["_law_rows_here","_law_first","_law_bits","_law_silenced"] (bW K 4 (mT n))):bI P w K mg base "_law_silent" (0+n+1) ["_law_rows_here","_law_first","_law_bits","_law_silenced"] (bW K 4 (mT (n+1))):=
 F.ok F5 λf e6 A D s H E j=>#[_,λ_ _=>O,by have:=F5.nd;ac_rfl;show wf ∅ ∅ (iY (bV aM (bV aM iU)));show WG (ja N2 () (zcL B) (by kernel_rfl) ∅);show bj Nj VC (bj Ni VA ∅ ∅) aQ;show WH (KH (qc YH mq) (Eo ∅ ∅ (set_dict (Bj j))))]
theorem vY(j:cL K mg "_law_silent" wT ["_law_rows_here","_law_first","_law_bits","_law_silenced"]):∀n:Nat,bI P w K mg base "_law_silent" (0+n) ["_law_rows_here","_law_first","_law_bits","_law_silenced"] (bW K 4 (mT n))
 |0=>jY j
 |n+1=>by let z:=vY j n;show zcj j z
theorem zce(F:cL K mg "_law_all_in" AL ["_law_some","_law_others"]):HI P w K mg base:=
 F.ok F6 λf D A j s H E z=>#[_,λ_ _=>O,by have:=F6.nd;ac_rfl;show Ap;show E9 (KH (qc YH mq) (Eo ∅ ∅ (set_dict (Bj z))));show EV (bN (FY (Bj z)) F1 ∅ ∅ (by with_unfolding_all rfl));show qc YH mq;show qc YH mq]
theorem Dh(F:cL K mg "_law_all_in" F4 ["_law_some","_law_others"]):HM P w K mg base:=
 F.ok jJ λf D A j s H E z=>#[_,λ_ _=>O,by have:=jJ.nd;ac_rfl;show Fd (by show kL);show YR (KH (qc YH mq) (Eo ∅ ∅ (YI (by show kL) (Bj z))));show EV (bN (YO (by show kL) (Bj z)) YQ ∅ ∅ (by with_unfolding_all rfl));show qc YH mq;show qc YH mq]
theorem ac8{f:Addr}{fd:FuncData}(F:vD K "law" "law" vP f fd)(IB:HI P w K mg base)(BA:HM P w K mg base)(oe:vU P w K mg base)(qh:vV P w K mg base)(IC:zbN P w K mg base)(qb:HG P w K mg base)(ID:HC P w K mg base)(IE:M9 P w K mg base):oK P w K mg base qD 87 f fd ["_law_script"] (bW K 1 S6):=
 vD.okP (k:=86) F jG λe6 A outer s H E hr=>#[_,λ_ _=>O,by have:=jG.nd;ac_rfl;show bj CS R0 aQ aQ;show bj T4 QD (bj CS R0 aQ aQ) aQ;show wI (i:=3) jG.nd O ∅ Ap;show QJ (i:=3) (QQ (i:=3) (wf ∅ ∅ (iY (bV aM (bV aM iU)))));show QJ (i:=3) (QQ (i:=3) (wf ∅ ∅ (iY (bV aM (bV aM iU)))));show we ∅;show we ∅;show qc YH mq;show uA (i:=14) ["_law_rule"] ["_law_silenced"] [3] jG.nd O rfl rfl (jx (aG vP)) ∅ (λ_ _ _ _=>∅) aM (λ_ _ _ _=>(wm (by ac_rfl;show bN (FY (Bj hr)) F1 ∅ ∅ (by with_unfolding_all rfl)))) (λ_ _ _ _=>∅);show Mp hr;show gH ["_law_rule"] [] [] rfl (jx (aG vP)) ∅ (λ_ _ _ _=>∅) aM (λ_ _ _ _=>(wm ∅)) (λ_ _ _ _=>∅);show qc YH mq;show wI (i:=15) jG.nd rfl ∅ ∅;show Mp hr;show gH ["_law_rule"] ["_law_kinds"] [15] rfl (jx (aG vP)) ∅ (λ_ _ _ _=>∅) aM (λ_ _ _ _=>(wm ∅)) (λ_ _ _ _=>∅);show gH ["_law_rule"] ["_law_kinds"] [15] rfl (jx (aG vP)) ∅ (λ_ _ _ _=>∅) aM (λ_ _ _ _=>(wm ∅)) (λ_ _ _ _=>∅);show qc YH mq;show we ∅;show qc YH mq;show qc YH mq]
end
end Y
end
local macro_rules | `(tactic| walk_at "l")=>`(tactic| first | omega | (simp only[c5,f_,eI,ck,g9,iS]at *; omega))
local macro_rules | `(tactic| walk_at "n")=>`(tactic| ((try dsimp only[env0,tj,ie,List.foldl,List.map,List.set,List.replicate,List.cons_append,List.nil_append,List.length_cons,List.length_nil,List.getElem?_cons_zero,List.getElem?_cons_succ,Option.join,Option.bind,Ev.set,Lc.pv,Nat.reduceAdd,Nat.reduceSub])<;>exact rfl))
local macro_rules | `(tactic| walk_at "x")=>`(tactic| fail)
local macro_rules | `(tactic| walk_at "o")=>`(tactic| first
 | (with_reducible first | apply UQ | apply YB | apply YA); exact rfl; exact rfl; walk_at "l"
 | (with_reducible apply Yw); exact rfl; exact rfl; walk_at "l"
 | (with_reducible apply Yy); exact rfl; exact rfl; walk_at "l"
 | walk_at "x" | assumption | exact rfl | exact congrArg some ())
local macro_rules | `(tactic| walk_at "e")=>`(tactic| first
 | (with_reducible first | apply e_c | apply FF | apply XX)
 | (with_reducible apply e_v); exact rfl
 | (with_reducible apply FE); exact rfl; walk_at "n"
 | (with_reducible first | apply AI | apply XQ); walk_at "e"; walk_at "e"; walk_at "o"
 | (with_reducible apply FH); walk_at "e"; walk_at "e"
 | (with_reducible first | apply XB | apply XE); walk_at "e"; exact rfl; walk_at "n"
 | (with_reducible first | apply e_b | apply e_T | apply XT | apply XW | apply Yz); walk_at "e"; walk_at "o"
 | (with_reducible apply AJ); walk_at "e"; walk_at "n"; first | assumption | (intro _; assumption)
 | (with_reducible first | apply FI | apply XI); walk_at "e"; intro _; walk_at "e"
 | (with_reducible apply XO); walk_at "e"
 | (with_reducible apply XU); walk_at "e"; exact rfl; omega
 | (with_reducible first | apply XY | apply XZ); walk_at "e"; walk_at "e"; walk_at "e"; walk_at "o"
 | (with_reducible apply tp); walk_at "e"; walk_at "n"; walk_at "n"; walk_at "c"
 | walk_at "y")
local macro_rules | `(tactic| walk_at "y")=>`(tactic| fail)
local macro_rules | `(tactic| walk_at "c")=>`(tactic| ((with_reducible first | apply X0 | apply pV); walk_at "l"; (intro _ _; repeat intro _); walk_at "s"; exact⟨rfl,rfl,rfl,rfl⟩))
local macro_rules | `(tactic| walk_at "s1")=>`(tactic| first
 | (with_reducible apply n_)
 | (with_reducible apply p6); walk_at "e"; exact rfl; walk_at "n"
 | (with_reducible apply p_); walk_at "e"
 | (with_reducible apply XA); refine gv rfl ?_
 | (with_reducible first | apply wx | apply Xt)
 | (with_reducible apply X1); walk_at "e"; first | refine .inl ⟨by assumption,?_⟩ | refine .inr ⟨by assumption,?_⟩ | refine .inl ⟨rfl,?_⟩ | refine .inr ⟨rfl,?_⟩
 | (with_reducible apply X9); exact rfl; walk_at "e"; exact rfl; (first | walk_at "l" | rotate_left); walk_at "n"
 | (with_reducible apply X_); exact rfl; walk_at "e"; exact rfl; exact rfl; (first | walk_at "l" | rotate_left); walk_at "n"
 | (with_reducible apply Ya); walk_at "e"; exact rfl; walk_at "e"; exact rfl; exact rfl; (first | walk_at "l" | rotate_left); walk_at "n"
 | (with_reducible first | apply Yf | apply s_expr | apply Yl); walk_at "e"
 | (with_reducible first | apply FQ | apply FU)
 | (with_reducible apply s_setU); walk_at "e"; walk_at "e"; walk_at "e"; exact rfl; exact rfl; exact rfl; (intro _; assumption); walk_at "l"
 | (with_reducible apply nx); walk_at "n"
 | (with_reducible apply bd); exact λ_=>rfl; walk_at "n"
 | (with_reducible apply E.w); walk_at "e")
local macro_rules | `(tactic| walk_at "f")=>`(tactic| repeat walk_at "s1")
local macro_rules | `(tactic| walk_at "s")=>`(tactic| repeat first | walk_at "s1" | ((with_reducible apply FO); walk_at "e"))
local macro_rules | `(tactic| walk_at "n1")=>`(tactic| (refine nx (by walk_at "n") ?_))
mutual
def vo:PV->Nat
 |ZB ps=>br ps+1
 |_=>1
def br:List PV->Nat
 |[]=>0
 |p::ps=>max (vo p) (br ps)
end
def fl(p:PV):Prop:=di p=G/\vo p<=20
def fls(ps:List PV):Prop:=cq ps=true/\br ps<=20
def iR(h:fl p)(t:fls ps):fls (p::ps):=by
 let(h1,h2):=h;let(t1,t2):=t;show#[?_,?_]
 . show (di p&&cq ps)=true;grind
 . show max (vo p) (br ps)<=20;lia
def uD:fls []:=#[O,gz _]
def iZ:fl (ZH x):=#[O,by show 1<=20;decide]
def IG:fl (ZI i):=#[O,by show 1<=20;decide]
def Nk:fl .non:=#[O,by show 1<=20;decide]
noncomputable abbrev zI (x:Int):Option Lc:=!(Zp (ZI x))
abbrev zT(x:Str):Option Lc:=!(Zp (ZH x))
abbrev zL(x:List PV):Option Lc:=!(Zp (R x))
abbrev zO(x:List PV):Option Lc:=!(Zs (R x))
noncomputable abbrev zS (x:PV):Option Lc:=!(Zp x)
mutual
inductive ah where
 |leaf (w:Str) (ps:List PV)
 |call (b:PV) (n:Str) (as:List PV)
 |wh (e:PV) (b:Rows)
 |iff (e:PV) (b c:Rows)
inductive Rows where
 |nil
 |cons (r:ah) (rs:Rows)
end
mutual
noncomputable def ah.pv:ah->PV
 |.leaf w ps=>ZB (ZH w::ps)
 |.call b n as=>ZB [ZH "call",b,ZH n,R as]
 |.wh e b=>ZB [ZH "while",e,R b.pvs]
 |.iff e b c=>ZB [ZH "if",e,R b.pvs,R c.pvs]
noncomputable def Rows.pvs:Rows->List PV
 |.nil=>[]
 |.cons r rs=>r.pv::rs.pvs
end
mutual
def ah.dep:ah->Nat
 |.leaf _ _=>1
 |.call _ _ _=>1
 |.wh _ b=>b.dep+1
 |.iff _ b c=>max b.dep c.dep+1
def Rows.dep:Rows->Nat
 |.nil=>1
 |.cons r rs=>max (r.dep+1) rs.dep
end
theorem Rows.dep_pos:∀b:Rows,1<=b.dep
 |.nil=>cK _
 |.cons r rs=>fx (Rows.dep_pos rs) (Nat.le_max_right _ _)
def ik(w:Str):Prop:=(w== "if")=M/\(w== "while")=M/\(w== "call")=M
def IH(s:Str):Prop:=(s== "num")=M/\(s== "box")=M/\(s== "@")=M
inductive Rd:Nat->PV->List Str->Prop
 |num (n:Nat) (i:Int):Rd (n+1) (.tup [.str "num",.int i]) []
 |box (n:Nat) (x:Str):Rd (n+1) (.tup [.str "box",.str x]) [x]
 |at_ {n:Nat} {p:PV} {a:List Str} (x:Str) (h:Rd n p a):Rd (n+1) (.tup [.str "@",.str x,p]) (x::a)
 |op {n:Nat} {s:Str} {p q:PV} {a b:List Str} (hs:IH s) (h:Rd n p a) (g:Rd n q b):Rd (n+1) (.tup [.str s,p,q]) (a++b)
def Rd.mono(h:Rd n p a):n<=m->Rd m p a:=by
 induction h generalizing m with
 |num n i=>intro l;obtain⟨k,rfl⟩:∃k,m=k+1:=#[m-1,()];show .num k i
 |box n x=>intro l;obtain⟨k,rfl⟩:∃k,m=k+1:=#[m-1,()];show .box k x
 |at_ x _ j=>intro l;obtain⟨k,rfl⟩:∃k,m=k+1:=#[m-1,()];show .at_ x (j ())
 |op hs _ _ j F=>intro l;obtain⟨k,rfl⟩:∃k,m=k+1:=#[m-1,()];show .op hs (j ()) (F ())
def kN{p:PV}{ps:List PV}{n:Nat}(h:di p=true/\vo p<=n)(t:cq ps=true/\br ps<=n):cq (p::ps)=true/\br (p::ps)<=n:=#[(congr (congrArg Bool.and h.1) t.1:(di p&&cq ps)=(true&&true)),Nat.max_le.mpr #[h.2,t.2]]
def xi:cq []=G/\br []<=n:=#[O,gz _]
def qo:di (ZH x)=G/\vo (ZH x)<=n+1:=#[O,Nat.le_add_left 1 n]
def xj(h:cq ps=G/\br ps<=n):di (ZB ps)=G/\vo (ZB ps)<=n+1:=#[h.1,Nat.succ_le_succ h.2]
def Rd.flat(h:Rd n p a):di p=true/\vo p<=n+1:=by
 induction h with
 |num n i=>show xj (kN qo (kN #[rfl,Nat.le_add_left 1 n] xi))
 |box n x=>show xj (kN qo (kN qo xi))
 |at_ x _ ih=>show xj (kN qo (kN qo (kN ih xi)))
 |op hs _ _ ih jh=>show xj (kN qo (kN ih (kN jh xi)))
class FN where
 fn:Str->Prop
 bx:Str->Prop
 fb:∀n,fn n->bx n
section
variable [FN]
abbrev i8(x:Str):Prop:=-x<=100/\FN.bx x
abbrev Sh(a:List Str):Prop:=∀x∈a,i8 x
def XG(p:PV):Prop:=∃n a,Rd n p a/\n<=15/\-a<=9/\Sh a
theorem XG.fl(h:XG p):fl p:=by let(n,a,h,l,_):=h;show#[h.flat.1,by have:=h.flat.2;lia]
theorem Gm:∀{j:List PV},(∀a∈j,XG a)->fls j
 |[],_=>uD
 |a::j,h=>iR (h a cf).fl (Gm λb D=>h b (dP _ D))
inductive Lf:Str->List PV->Prop
 |set_ {x:Str} {e:PV} (h:i8 x) (g:XG e):Lf "set" [.str x,e]
 |put {x:Str} {e f:PV} (h:i8 x) (g:XG e) (g2:XG f):Lf "put" [.str x,e,f]
 |out {x:Str} {e:PV} (y:Str) (h:i8 x) (g:XG e):Lf "out" [.str x,e,.str y]
theorem Lf.fls(h:Lf w ps):fls ps:=by
 cases h with
 |set_ _ g=>show iR iZ (iR g.fl uD)
 |put _ g D=>show iR iZ (iR g.fl (iR D.fl uD))
 |out y _ g=>show iR iZ (iR g.fl (iR iZ uD))
end
section
variable [HK][FN]
mutual
def ah.ok:ah->Prop
 |.leaf w ps=>ik w/\Lf w ps
 |.call b n as=>(∃x:Str,b=ZH x/\i8 x)/\-n<=1000/\(∀a∈as,XG a)/\-as<=26/\FN.fn n
 |.wh e b=>XG e/\b.ok
 |.iff e b c=>XG e/\b.ok/\c.ok
def Rows.ok:Rows->Prop
 |.nil=>True
 |.cons r rs=>r.ok/\rs.ok
end
mutual
noncomputable def ah.cnt:ah->Nat
 |.leaf _ _=>1
 |.call _ _ _=>1
 |.wh _ b=>b.cnt+1
 |.iff _ b c=>b.cnt+c.cnt+1
noncomputable def Rows.cnt:Rows->Nat
 |.nil=>0
 |.cons r rs=>r.cnt+rs.cnt
end
def ah.cnt_pos:∀r:ah,1<=r.cnt:=λr=>by cases r<;>simp[ah.cnt]
def bw(h:f Y=!(.sh (.str a),Y1)):tT (au eW f (fI b)) aY Y=!(a==b,Y1):=jU (bC h rfl rfl) rfl
def bG(h:c Y=!(b,Y1))(j:b=M):aF (cC c f bR) g Y=g Y1:=by subst j;show G7 ((lU h).trans O)
def d7(h:c Y=!(b,Y1))(j:b=G)(h2:f Y1=!(.rt r Y2)):aF (cC c f bR) g Y=!(.rt r Y2):=by subst j;show G8 ((lR h).trans h2)
def nA(h:c Y=!(b,Y1))(j:b=G)(h2:f Y1=!(.nx Y2)):aF (cC c f bR) g Y=g Y2:=by subst j;show G7 ((lR h).trans h2)
def qr{t:List PV}:fO (p::t) 0=!p:=by let(x,h,h2):=uT (l:=p::t) (i:=0) () ∅;rw[h,<-h2];rfl
abbrev E1(p:PV)(mu:Mu):Ev:=#[[zS p],mu]
def w0:aJ (aa 0) (bg 0) (E1 (.tup (.str w::ps)) mu)=!(.sh (.str w),E1 (.tup (.str w::ps)) mu):=
 dG rfl rfl rfl rfl (λn h=>by cases h) (by show (fO (PV.str w::ps) 0).map _=_;rw[qr];rfl)
def fY{ZI:Option (List PV×Mu)}(h1:b x Y=!Y1)(h2:te Y1=!(l,Y2))(hz:-acc<100000)(h3:dF b bB te xs Y2 (acc++[l.pv])=ZI):dF b bB te (x::xs) Y acc=ZI:=by show (b x Y).bind _=ZI;rw[h1,cr];show (te Y1).bind _=ZI;grind
section
def qA:qG (ZB (x::t)) (ZI 0)=zS x:=by show (fO (x::t) 0).map _=_;rw[qr];rfl
local macro_rules | `(tactic| walk_at "x")=>`(tactic| exact qA)
theorem xl{ZI:Lc->(ι->Mu)->Prop}(I:Rows->d4->(ι->Mu)->Prop)(hs:∀r rs v m (N:d4->(ι->Mu)->Prop),I (.cons r rs) v m->(∀v m,I rs v m->N v m)->lq b r.pv v λv1=>dv body v1 m N ZI)(hN:∀v m,I .nil v m->N v m):∀{rs:Rows}{v:d4}{m:ι->Mu},I rs v m->dv (eN b body rs.pvs) v m N ZI
 |.nil,v,m,h=>FU (hN v m h)
 |.cons r rs,v,m,h=>FQ (hs r rs v m _ h λv m h=>xl I hs hN h)
def Rows.ls:Rows->List ah
 |.nil=>[]
 |.cons r rs=>r::rs.ls
theorem Rows.pvs_ls:∀rs:Rows,rs.pvs=rs.ls.map ah.pv
 |.nil=>rfl
 |.cons r rs=>congrArg (r.pv:: ·) rs.pvs_ls
theorem Rows.mem:∀{rs:Rows},rs.ok->∀r ∈ rs.ls,r.ok/\r.dep+1<=rs.dep/\r.cnt<=rs.cnt
 |.nil,_,r,h=>by cases h
 |.cons r' rs,ok,r,h=>by
  simp only [Rows.dep,Rows.cnt]
  obtain rfl|h:=List.mem_cons.mp h
  . show #[ok.1,(),()]
  . let(h1,h2,h3):=Rows.mem ok.2 r h
    show #[h1,(),()]
theorem Rows.pvs_len:∀rs:Rows,-rs.pvs<=rs.cnt
 |.nil=>Nat.le_refl _
 |.cons r rs=>by
  have:=Rows.pvs_len rs
  let h:=r.cnt_pos
  simp only [Rows.pvs,List.length_cons,Rows.cnt]
  lia
theorem copied_x:∀n:Nat,(∀(r:ah)(mu:Mu),r.ok->r.dep<=n->r.cnt<=1000->kE n [r.pv] mu=!(Zp r.pv,mu))/\∀(rs:Rows)(mu:Mu),rs.ok->rs.dep<=n->rs.cnt<=1000->cv n [.lst rs.pvs] mu=!(Zs (.lst rs.pvs),mu)
 |0=>#[λr mu _ hd _=>(by cases r <;> cases hd),λrs mu _ hd _=>absurd hd (by have:=rs.dep_pos;lia)]
 |n+1=>by
  let(ih1,qB):=copied_x n
  show #[λr mu ok hd hc=>fD λR K=>?_,λrs mu ok hd hc=>fD λR K=>?_]
  . cases r with
    |leaf w ps=>
     let((h1,h2,h3),_):=ok
     walk_at "s"
     show K
    |call b m as=>
     walk_at "s"
     show K
    |wh e b=>
     simp only [ah.dep] at hd
     simp only [ah.cnt] at hc
     let e1:=qB b mu ok.2 () ()
     walk_at "s"
     show K
    |iff e b c=>
     simp only [ah.dep] at hd
     simp only [ah.cnt] at hc
     let e1:=qB b mu ok.2.1 () ()
     let e2:=qB c mu ok.2.2 () ()
     walk_at "s"
     show K
  . let l:=rs.pvs_len
    rw [rs.pvs_ls,List.length_map] at l
    rw [rs.pvs_ls] at K ⊢
    walk_at "n1"
    apply p_
    . apply tp
      . walk_at "e"
      . walk_at "n"
      . walk_at "n"
      . show pV ah.pv () λa ha=>?_
        let(h1,h2,h3):=Rows.mem ok a ha
        let e1:=λmu=>ih1 a mu h1 () ()
        intro _
        walk_at "s"
        show #[rfl,rfl,rfl,rfl]
    . show K
def Jp(r:ah)(f:Nat)(mu:Mu):r.ok->r.dep<=f->r.cnt<=1000->kE f [r.pv] mu=!(Zp r.pv,mu):=(copied_x f).1 r mu
end
structure cS where
 w:Str
 ab:PV
 bl:Int
 r:ah
def cS.pv(e:cS):PV:=ZB [ZH e.w,e.ab,ZI e.bl,e.r.pv]
mutual
noncomputable def ah.es:ah->Str->PV->Int->Nat->List cS
 |.leaf x ps,w,ab,bl,_=>[#[w,ab,bl,.leaf x ps]]
 |.call b n as,w,ab,bl,_=>[#[w,ab,bl,.call b n as]]
 |.wh e b,w,ab,bl,k=>#[w,ab,bl,.wh e b]::b.es w (ZI k) 0 (k+1)
 |.iff e b c,w,ab,bl,k=>#[w,ab,bl,.iff e b c]::(b.es w (ZI k) 0 (k+1)++c.es w (ZI k) 1 (k+1+b.cnt))
noncomputable def Rows.es:Rows->Str->PV->Int->Nat->List cS
 |.nil,_,_,_,_=>[]
 |.cons r rs,w,ab,bl,k=>r.es w ab bl k++rs.es w ab bl (k+r.cnt)
end
mutual
theorem ah.es_len:∀(r:ah)(w:Str)(ab:PV)(bl:Int)(k:Nat),-(r.es w ab bl k)=r.cnt
 |.leaf _ _,w,ab,bl,k=>rfl
 |.call _ _ _,w,ab,bl,k=>rfl
 |.wh e b,w,ab,bl,k=>by simp[ah.es,ah.cnt,Rows.es_len b]
 |.iff e b c,w,ab,bl,k=>by simp[ah.es,ah.cnt,Rows.es_len b,Rows.es_len c]
theorem Rows.es_len:∀(rs:Rows)(w:Str)(ab:PV)(bl:Int)(k:Nat),-(rs.es w ab bl k)=rs.cnt
 |.nil,w,ab,bl,k=>rfl
 |.cons r rs,w,ab,bl,k=>by simp[Rows.es,Rows.cnt,ah.es_len r,Rows.es_len rs]
end
abbrev fy(l:List cS):List PV:=l.map cS.pv
def Hr(a b:List cS):fy (a++b)=fy a++fy b:=d0
def nC(a:List cS):-(fy a)=-a:=ck _
def xg{Y Y1 Y2:Ev}{mu:Mu}(h1:fo Y=!(o,Y1))(D:o.pv=ZA n)(F:Y1.mu[n]?=!(!(R ws0)))(h2:fv Y1=!(y,Y2))(hy:y.pv=p)(j:Y2.mu[n]?=!(!(R ws)))(hz:-ws<100000)(e:Y2.mu.set n (!(R (ws++[p])))=mu):ou fo fv Y=!(.nx #[Y2.vs,mu]):=by unfold ou;rw[h1,cr,D];dsimp only;rw[F];rw[h2,cr,j];grind
def gw{ZI:Option Fl}(h1:b x Y=!Y1)(h2:body Y1=!(.nx Y2))(h3:eN b body xs Y2=ZI):eN b body (x::xs) Y=ZI:=by show (b x Y).bind _=_;grind
def S9(h1:b x Y=!Y1)(h2:body Y1=!(.nx Y2)):eN b body [x] Y=!(.nx Y2):=gw h1 h2 O
def Np(h1:b x Y=!Y1)(h2:body Y1=!(.nx Y2))(h3:b y Y2=!Y3)(h4:body Y3=!(.nx Y4)):eN b body [x,y] Y=!(.nx Y4):=gw h1 h2 (S9 h3 h4)
abbrev en(w:Str)(ab:PV)(bl:Int)(r:ah):PV:=ZB [ZH w,ab,ZI bl,r.pv]
section
local macro_rules | `(tactic| walk_at "x")=>`(tactic| exact qA)
def sS{w:Str}{ps:List PV}{mu:Mu}(h1:(w== "if")=M)(h2:(w== "while")=M):gJ [ZB (ZH w::ps)] mu=!(Zs (.lst []),mu):=fD λR K=>by
 walk_at "s"
 show K
def Jq{e p:PV}{mu:Mu}:gJ [ZB [ZH "while",e,p]] mu=!(Zs (.lst [p]),mu):=fD λR K=>by
 walk_at "s"
 show K
def Jr{e p q:PV}{mu:Mu}:gJ [ZB [ZH "if",e,p,q]] mu=!(Zs (.lst [p,q]),mu):=fD λR K=>by
 walk_at "s"
 show K
def zec{ι:Type}{v v0 v1:d4}{m m1:ι->Mu}{f:EF}{l:Lc}(hv:v.map Zg=v0)(h:E f v0 (λi=>(m i).map λ_=>J) l v1 m1)(hf:Sy l=G):E (vL f) v m l v m:=λi=>UI (Y1:=#[v1,m1 i]) (by subst hv;show h i) hf
local macro_rules | `(tactic| walk_at "y")=>`(tactic| first
 | (with_reducible apply zec); (dsimp only [List.map,Zg,Lc.pv] <;> exact rfl); walk_at "e"; exact rfl
 | (with_reducible apply FV); walk_at "e"; exact rfl)
def blocks_lo{r:ah}(ok:r.ok):(∃w ps,r.pv=ZB (ZH w::ps)/\(w== "if")=M/\(w== "while")=M)\/(∃e b,r=.wh e b)\/∃e b c,r=.iff e b c:=by
 cases r with
 |leaf w ps=>show .inl #[w,ps,rfl,ok.1.1,ok.1.2.1]
 |call b n as=>show .inl #[_,_,rfl,by decide +kernel,by decide +kernel]
 |wh e b=>show .inr (.inl #[e,b,rfl])
 |iff e b c=>show .inr (.inr #[e,b,c,rfl])
theorem lo_x:∀(n:Nat)(rs:Rows)(w:Str)(ab:PV)(bl:Int)(st:Nat)(mu:Mu),rs.ok->rs.dep<=n->rs.dep<=41->rs.cnt<=1000->gP n [ZH w,ab,ZI bl,.lst rs.pvs,ZI (st:Nat)] mu=!(Zs (.lst (fy (rs.es w ab bl st))),mu)
 |0,rs,w,ab,bl,st,mu,ok,hd,_,_=>absurd hd (by have:=rs.dep_pos;lia)
 |n+1,rs,w,ab,bl,st,mu,ok,hd,h40,hc=>fD λR K=>by
  walk_at "s"
  show xl (λfA v m=>∃(k:Nat)(acc:List PV)(o6 o7 o8 o9:Option Lc),v=[!(Zp (ZH w)),!(Zp ab),!(Zp (ZI bl)),!(Zp (.lst rs.pvs)),!(Zp (ZI (st:Nat))),!(Zs (.lst acc)),o6,o7,o8,o9]/\(m=λ_=>mu)/\k=st+-acc/\fA.ok/\fA.dep<=n+1/\fA.dep<=41/\-acc+fA.cnt<=1000/\acc++fy (fA.es w ab bl k)=fy (rs.es w ab bl st)) ?_ ?_ #[st,[],J,J,J,J,rfl,rfl,rfl,ok,hd,h40,by simpa using hc,rfl]
  . rintro r fA v m N ⟨k,acc,o6,o7,o8,o9,rfl,rfl,hk,hW,h1,h2,h3,h4⟩ KN
    simp only [Rows.dep] at h1 h2
    simp only [Rows.cnt] at h3
    let e1:=Jp r 40 mu hW.1 () ()
    have ea:∀(a:List PV)(j:Nat),j=st+-a->bf (ZI (st:Nat)) (ZI (-a:Nat))=!(Zp (ZI (j:Nat))):=λa j h=>by rw [h,Int.natCast_add];rfl
    let e2:=ea acc k hk
    let acc1:_:=acc++[PV.tup [ZH w,ab,ZI bl,r.pv]]
    have II:k+1=st+-acc1:=by rw [List.length_append,List.length_singleton];lia
    have fin:∀(L:List PV)(o6 o7 o8 o9:Option Lc),L=acc++fy (r.es w ab bl k)->N [!(Zp (ZH w)),!(Zp ab),!(Zp (ZI bl)),!(Zp (.lst rs.pvs)),!(Zp (ZI (st:Nat))),!(Zs (.lst L)),o6,o7,o8,o9] λ_=>mu:=λL o6 o7 o8 o9 eL=>by
     let el:=congrArg List.length eL
     rw [List.length_append,nC,ah.es_len] at el
     show KN _ _ #[k+r.cnt,L,_,_,_,_,rfl,rfl,(),hW.2,(),(),(),?_]
     rw [← h4,eL,List.append_assoc,← Hr]
     rfl
    obtain⟨x,ps,er,hi,hw⟩|⟨e,b,rfl⟩|⟨e,b,c,rfl⟩:=blocks_lo hW.1
    . have e3:gJ [r.pv] mu=!(Zs (.lst []),mu):=by rw [er];show sS hi hw
      walk_at "s"
      show (show dv (eN _ _ []) _ _ _ _ from ?_)
      walk_at "s"
      show fin _ _ _ _ _ (by cases r <;> first |rfl |(cases er;show absurd hi (by decide +kernel)) |(cases er;show absurd hw (by decide +kernel)))
    . simp only [ah.dep] at h1 h2
      simp only [ah.cnt] at h3
      have e3:gJ [(ah.wh e b).pv] mu=!(Zs (.lst [.lst b.pvs]),mu):=Jq
      let e4:=ea acc1 (k+1) II
      let ih:=lo_x n b w (ZI (k:Nat)) 0 (k+1) mu hW.1.2 () () ()
      have l1:-(fy (b.es w (ZI (k:Nat)) 0 (k+1)))=b.cnt:=by rw [nC,Rows.es_len]
      walk_at "s"
      show (show dv (eN _ _ [PV.tup [ZI 0,.lst b.pvs]]) _ _ _ _ from ?_)
      walk_at "s"
      show fin _ _ _ _ _ (by simp [ah.es,fy,cS.pv])
    . simp only [ah.dep] at h1 h2
      simp only [ah.cnt] at h3
      have e3:gJ [(ah.iff e b c).pv] mu=!(Zs (.lst [.lst b.pvs,.lst c.pvs]),mu):=Jr
      let e4:=ea acc1 (k+1) II
      let ih:=lo_x n b w (ZI (k:Nat)) 0 (k+1) mu hW.1.2.1 () () ()
      have l1:-(fy (b.es w (ZI (k:Nat)) 0 (k+1)))=b.cnt:=by rw [nC,Rows.es_len]
      let e5:=ea (acc1++fy (b.es w (ZI (k:Nat)) 0 (k+1))) (k+1+b.cnt) (by rw [List.length_append,l1];lia)
      let qB:=lo_x n c w (ZI (k:Nat)) 1 (k+1+b.cnt) mu hW.1.2.2 () () ()
      have l2:-(fy (c.es w (ZI (k:Nat)) 1 (k+1+b.cnt)))=c.cnt:=by rw [nC,Rows.es_len]
      walk_at "s"
      show (show dv (eN _ _ [PV.tup [ZI 0,.lst b.pvs],PV.tup [ZI 1,.lst c.pvs]]) _ _ _ _ from ?_)
      walk_at "s"
      show fin _ _ _ _ _ (by simp [ah.es,fy,cS.pv])
  . rintro v m ⟨k,acc,o6,o7,o8,o9,rfl,rfl,hk,hW,h1,h2,h3,h4⟩
    walk_at "s"
    rw [show acc=fy (rs.es w ab bl st) from by rw [← h4];show (List.append_nil _).symm]
    show K
def Dg{rs:Rows}{w:Str}{ab:PV}{bl:Int}{st:Nat}{mu:Mu}(ok:rs.ok)(hd:rs.dep<=40)(hc:rs.cnt<=1000) :
 gP 40 [ZH w,ab,ZI bl,.lst rs.pvs,ZI st] mu=!(Zs (.lst (fy (rs.es w ab bl st))),mu):=lo_x 40 rs w ab bl st mu ok hd () hc
end
structure Fn where
 name:Str
 rank:PV
 params:List PV
 rows:Rows
def Fn.pv(f:Fn):PV:=ZB [ZH f.name,f.rank,R f.params,R f.rows.pvs]
structure Pg where
 boxes:List PV
 grants:List PV
 fns:List Fn
 rows:Rows
def Pg.pv(P:Pg):PV:=ZB [R P.boxes,R P.grants,R (P.fns.map Fn.pv),R P.rows.pvs]
def d8:List Fn->Nat
 |[]=>0
 |f::fs=>f.rows.cnt+d8 fs
def qJ:List Fn->Nat->List cS
 |[],_=>[]
 |f::fs,k=>f.rows.es f.name .non 0 k++qJ fs (k+f.rows.cnt)
theorem BZ:∀(fs:List Fn)(k:Nat),-(qJ fs k)=d8 fs
 |[],k=>rfl
 |f::fs,k=>by simp[qJ,d8,Rows.es_len,BZ fs]
def Pg.es(P:Pg):List cS:=qJ P.fns 0++P.rows.es "main" .non 0 (d8 P.fns)
structure Pg.ok(P:Pg):Prop where
 fn:∀f∈P.fns,f.rows.ok/\f.rows.dep<=30
 rw:P.rows.ok
 dp:P.rows.dep<=30
 ct:d8 P.fns+P.rows.cnt<=44
 pm:∀f∈P.fns,∃xs:List Str,f.params=xs.map (λx=>.tup [.str x,.non])/\-xs<=4/\Sh xs
 fl:-P.fns<=4
 nd:(P.fns.map Fn.name).Nodup
 nl:∀f∈P.fns,-f.name<=100
abbrev NE(p:PV)(acc:List PV)(o2 o3 o4 o5:Option Lc)(mu:Mu):Ev:=#[[zS p,zO acc,o2,o3,o4,o5],mu]
theorem QS:∀(fs:List Fn)(acc:List PV)(o2 o3 o4 o5:Option Lc)(mu:Mu),(∀f∈fs,f.rows.ok/\f.rows.dep<=30)->-acc+d8 fs<=1000->
 ∃p2 D p4 F,eN (fC 4 (aW (aC 2) (aW (aC 3) (aW (aC 4) (aW (aC 5) fu))))) AR (fs.map Fn.pv) (NE p acc o2 o3 o4 o5 mu)=!(.nx (NE p (acc++fy (qJ fs (-acc))) p2 D p4 F mu))
 |[],acc,o2,o3,o4,o5,mu,_,_=>#[o2,o3,o4,o5,by simp[eN,qJ]]
 |f::fs,acc,o2,o3,o4,o5,mu,h,hl=>by
  simp only[d8]at hl;let(ok,hd):=h f cf;let e:=Dg (w:=f.name) (ab:=.non) (bl:=0) (st:=-acc) (mu:=mu) ok () ();have j:-(acc++fy (f.rows.es f.name .non 0 acc.length))=-acc+f.rows.cnt:=by rw[eI,nC,Rows.es_len]
  let E:_:=NE p acc (zT f.name) (zS f.rank) (zL f.params) (zL f.rows.pvs) mu;let(p2,D,p4,F,ih):=QS fs (acc++fy (f.rows.es f.name .non 0 (-acc))) (zT f.name) (zS f.rank) (zL f.params) (zL f.rows.pvs) mu (λx hx=>h x (dP _ hx)) (by rw[j];lia);have st:AR E=!(.nx (NE p (acc++fy (f.rows.es f.name .non 0 (-acc))) (zT f.name) (zS f.rank) (zL f.params) (zL f.rows.pvs) mu)):=
   jZ O
    (aR O O O O e) O O (by rw[nC,Rows.es_len];lia) O
  show#[p2,D,p4,F,(gw O st (ih.trans ?_))];rw[j];simp only[qJ,Hr,d6]
def Pr{P:Pg}(ok:P.ok):yK [P.pv] mu=!(Zs (R (fy P.es)),mu):=by
 let hc:=ok.ct;let(p2,F,D,p5,e1):=QS P.fns [] J J J J mu ok.fn (by simp only[f_];lia);simp only[kT,f_]at e1;let j:_:=fy (qJ P.fns 0);have ha:-j=d8 P.fns:=by simp only[j,nC,BZ]
 let e2:=Dg (w:="main") (ab:=.non) (bl:=0) (st:=-j) (mu:=mu) ok.rw (by have:=ok.dp;lia) ();rw[ha]at e2;let b:_:=fy (P.rows.es "main" .non 0 (d8 P.fns));show(aO (Y:=#[[zS P.pv,J,p2,F,D,p5],mu]) (r:=Zs (R (j++b))) ?_).trans ?_
 . show aH O (aH (eO (dC O O) e1) (aH (Y':=NE P.pv (j++b) p2 F D p5 mu) ?_ O));show jZ O
    (aR O O O O (by rw[ha];show e2)) O O (by simp only[b];rw[ha,nC,Rows.es_len];lia) O
 . simp only[j,b,Pg.es,Hr]
def cS.key(e:cS):List aV:=[!(.inr e.w),(okP e.ab).getD J,!(.inl e.bl)]
def pos(K:List aV):Nat->List cS->List Nat
 |_,[]=>[]
 |i,e::es=>if e.key=K then i::pos K (i+1) es else pos K (i+1) es
theorem pF(K:List aV):∀(i:Nat)(a b:List cS),pos K i (a++b)=pos K i a++pos K (i+-a) b
 |i,[],b=>rfl
 |i,e::a,b=>by show (if e.key=K then i::pos K (i+1) (a++b) else pos K (i+1) (a++b))=(if e.key=K then i::pos K (i+1) a else pos K (i+1) a)++_;rw[pF K (i+1) a b,show i+-(e::a)=i+1+-a by simp only[c5];omega];split<;>rfl
theorem Ca{K:List aV}:∀{i:Nat}{a:List cS},(∀e∈a,e.key≠K)->pos K i a=[]
 |i,[],_=>rfl
 |i,e::a,h=>by show (if e.key=K then i::pos K (i+1) a else pos K (i+1) a)=[];rw[bh (h e cf)];show Ca λx hx=>h x (dP _ hx)
def Rows.nums:Rows->Nat->List Nat
 |.nil,_=>[]
 |.cons r rs,k=>k::rs.nums (k+r.cnt)
abbrev gs(w:Str)(m:Nat)(b:Int):List aV:=[!(.inr w),!(.inl (m:Int)),!(.inl b)]
def key_ne{e:cS}{m:Nat}(h:e.ab≠ZI m)(F:e.ab=.non\/∃j:Nat,e.ab=ZI j):e.key≠gs w m b:=by
 intro q;injection q with _ q;injection q with q _;obtain D|⟨j,D⟩:=F
 . rw[D]at q;cases q
 . rw[D]at q h;injection q with q;grind
def yN{e:cS}(h:e.bl≠b):e.key≠gs w m b:=by intro q;injection q with _ q;grind
def tY(ab:PV)(s t:Nat)(e:cS):Prop:=e.ab=ab\/∃m:Nat,e.ab=ZI m/\s<=m/\m<t
def tY.mono(h:tY ab s t e)(h1:s'<=s)(h2:t<=t'):tY ab s' t' e:=by
 obtain h|⟨m,h,D,j⟩:=h
 . show Zl h
 . show YY #[m,h,(),()]
def tY.up(h:tY (ZI (k:Nat)) s t e)(h1:k<s)(h2:k<t):tY ab k t e:=by
 obtain h|⟨m,h,D,j⟩:=h
 . show YY #[k,h,cK _,h2]
 . show YY #[m,h,(),j]
mutual
theorem ah.abs:∀(r:ah)(w:Str)(ab:PV)(bl:Int)(k:Nat),∀e∈r.es w ab bl k,tY ab k (k+r.cnt) e
 |.leaf _ _,w,ab,bl,k,e,j=>by rw[ga.mp j];show Zl O
 |.call _ _ _,w,ab,bl,k,e,j=>by rw[ga.mp j];show Zl O
 |.wh x b,w,ab,bl,k,e,j=>by
  obtain rfl|j:=bP.mp j
  . show Zl O
  . let h:=Rows.abs b w (ZI (k:Nat)) 0 (k+1) e j;simp only[ah.cnt];show(h.up () ()).mono () ()
 |.iff x b c,w,ab,bl,k,e,j=>by
  simp only[ah.cnt];obtain rfl|j:=bP.mp j
  . show Zl O
  . obtain j|j:=dy.mp j
    . let h:=Rows.abs b w (ZI (k:Nat)) 0 (k+1) e j;show(h.up () ()).mono () ()
    . let h:=Rows.abs c w (ZI (k:Nat)) 1 (k+1+b.cnt) e j;show(h.up () ()).mono () ()
theorem Rows.abs:∀(rs:Rows)(w:Str)(ab:PV)(bl:Int)(k:Nat),∀e∈rs.es w ab bl k,tY ab k (k+rs.cnt) e
 |.nil,w,ab,bl,k,e,j=>by cases j
 |.cons r rs,w,ab,bl,k,e,j=>by
  simp only[Rows.cnt];obtain j|j:=dy.mp j
  . show(ah.abs r w ab bl k e j).mono () ()
  . show(Rows.abs rs w ab bl (k+r.cnt) e j).mono () ()
end
def vp(ab:PV)(k:Nat):Prop:=ab=.non\/∃j:Nat,ab=ZI j/\j<k
def tY.num(h:tY ab s t e)(a:vp ab k):e.ab=.non\/∃j:Nat,e.ab=ZI j:=by
 obtain h|⟨m,h,_⟩:=h
 . obtain a|⟨j,a,_⟩:=a
   . show Zl (h.trans a)
   . show YY #[j,h.trans a]
 . show YY #[m,h]
def xn(h:a≠b):(PV.int (a:Nat))≠ZI (b:Nat):=λq=>by injection q with q;show h ()
def tY.ne{s t m:Nat}(h:tY ab s t e)(h1:ab≠ZI m)(h2:m<s\/t<=m):e.ab≠ZI m:=by
 obtain h|⟨j,h,F,D⟩:=h
 . grind
 . grind
def vp.ne(a:vp ab k)(h:k<=m):ab≠ZI m:=by
 obtain a|⟨j,a,D⟩:=a
 . grind
 . grind
def ah.pos_top(r:ah)(w:Str)(m:Nat)(b:Int)(k:Nat)(h:m<k):pos (gs w m b) k (r.es w (ZI m) b k)=[k]:=by
 have own:∀(e:cS),e.w=w->e.ab=ZI m->e.bl=b->e.key=gs w m b:=λe h1 h2 F=>by unfold cS.key;rw[h1,h2,F];rfl
 have sub:∀(rs:Rows)(c:Int)(s:Nat),k<s->pos (gs w m b) s (rs.es w (ZI (k:Nat)) c s)=[]:=λrs c s hs=>Ca λe D=>by let g:=Rows.abs rs w (ZI (k:Nat)) c s e D;show key_ne (g.ne () (Zl ())) (g.num (YY #[k,O,hs]))
 cases r with
 |leaf x ps=>show (if _ then _ else _)=_;rw[aE (own _ O O O)];rfl
 |call x n as=>show (if _ then _ else _)=_;rw[aE (own _ O O O)];rfl
 |wh x c=>
  show (if _ then _ else _)=_;grind
 |iff x c d=>
  show (if _ then _ else _)=_;rw[aE (own _ O O O),pF,Rows.es_len,sub c 0 (k+1) (),sub d 1 (k+1+c.cnt) ()];rfl
theorem Rows.pos_top:∀(rs:Rows)(w:Str)(m:Nat)(b:Int)(k:Nat),m<k->pos (gs w m b) k (rs.es w (ZI m) b k)=rs.nums k
 |.nil,w,m,b,k,h=>rfl
 |.cons r rs,w,m,b,k,h=>by show pos _ k (r.es w (ZI m) b k++rs.es w (ZI m) b (k+r.cnt))=_;rw[pF,ah.pos_top r w m b k h,ah.es_len,Rows.pos_top rs w m b (k+r.cnt) ()];rfl
def ah.bnums:ah->Nat->Int->List Nat
 |.wh _ b,k,i=>if i=0 then b.nums (k+1) else []
 |.iff _ b c,k,i=>if i=0 then b.nums (k+1) else if i=1 then c.nums (k+1+b.cnt) else []
 |_,_,_=>[]
def ah.pos_in(r:ah)(w:Str)(ab:PV)(bl:Int)(k:Nat)(i:Int)(a:vp ab k):pos (gs w k i) k (r.es w ab bl k)=r.bnums k i:=by
 have own:∀(e:cS),e.ab=ab->e.key≠gs w k i:=λe h=>key_ne (by rw[h];show a.ne (cK _)) (by
  obtain a|⟨j,a,_⟩:=a
  . show Zl (h.trans a)
  . show YY #[j,h.trans a])
 have sub:∀(rs:Rows)(c:Int)(s:Nat),k<s->c≠i->pos (gs w k i) s (rs.es w (ZI (k:Nat)) c s)=[]:=λrs c s hs hc=>by
  have go:∀(rs:Rows)(s:Nat),k<s->pos (gs w k i) s (rs.es w (ZI (k:Nat)) c s)=[]:=by
   intro rs;induction rs using Rows.rec (motive_1:=λ_=>True) with
   |nil=>intro s _;rfl
   |cons r rs _ ih=>
    intro s hs;show pos _ s (r.es w (ZI (k:Nat)) c s++rs.es w (ZI (k:Nat)) c (s+r.cnt))=_;rw[pF,ah.es_len,ih (s+r.cnt) (),eJ];have D:∀(bs:Rows)(d:Int)(t:Nat),s<t->pos (gs w k i) t (bs.es w (ZI (s:Nat)) d t)=[]:=λbs d t ht=>Ca λe he=>by let g:=Rows.abs bs w (ZI (s:Nat)) d t e he;show key_ne (g.ne (xn ()) (Zl ())) (g.num (YY #[s,O,ht]))
    cases r with
    |leaf x ps=>show (if _ then _ else _)=_;rw[bh (yN hc)];rfl
    |call x n as=>show (if _ then _ else _)=_;rw[bh (yN hc)];rfl
    |wh x bs=>show (if _ then _ else _)=_;rw[bh (yN hc)];show D bs 0 (s+1) ()
    |iff x bs cs=>show (if _ then _ else _)=_;rw[bh (yN hc),pF,Rows.es_len,D bs 0 (s+1) (),D cs 1 (s+1+bs.cnt) ()];rfl
   |_=>trivial
  show go rs s hs
 cases r with
 |leaf x ps=>show (if _ then _ else _)=_;rw[bh (own _ O)];rfl
 |call x n as=>show (if _ then _ else _)=_;rw[bh (own _ O)];rfl
 |wh x c=>
  show (if _ then _ else _)=_;rw[bh (own _ O)];show _=if i=0 then c.nums (k+1) else []
  by_cases hi:i=0
  . subst hi;rw[aE O];show Rows.pos_top c w k 0 (k+1) ()
  . rw[bh hi];show sub c 0 (k+1) () (λq=>hi q.symm)
 |iff x c d=>
  show (if _ then _ else _)=_;rw[bh (own _ O),pF,Rows.es_len];show _=if i=0 then c.nums (k+1) else if i=1 then d.nums (k+1+c.cnt) else []
  by_cases hi:i=0
  . subst hi;rw[aE O,Rows.pos_top c w k 0 (k+1) (),sub d 1 (k+1+c.cnt) () (),eJ]
  . rw[bh hi,sub c 0 (k+1) () (λq=>hi q.symm),kT];by_cases h1:i=1
    . subst h1;rw[aE O];show Rows.pos_top d w k 1 (k+1+c.cnt) ()
    . rw[bh h1];show sub d 1 (k+1+c.cnt) () (λq=>h1 q.symm)
structure qx(es:List cS)(w:Str)(ab:PV)(bl:Int)(k:Nat)(rs:Rows):Prop where
 ex:∃pre post,es=pre++(rs.es w ab bl k++post)/\-pre=k/\∀e∈pre++post,(e.ab=.non\/∃j:Nat,e.ab=.int j)/\∀m:Nat,k<=m->m<k+rs.cnt->e.ab≠.int m
 ab:vp ab k
structure qy(es:List cS)(w:Str)(ab:PV)(bl:Int)(k:Nat)(r:ah):Prop where
 ex:∃pre post,es=pre++(r.es w ab bl k++post)/\-pre=k/\∀e∈pre++post,(e.ab=.non\/∃j:Nat,e.ab=.int j)/\∀m:Nat,k<=m->m<k+r.cnt->e.ab≠.int m
 ab:vp ab k
def vp.mono(a:vp ab k)(h:k<=k'):vp ab k':=by
 obtain a|⟨j,a,D⟩:=a
 . show Zl a
 . show YY #[j,a,()]
theorem qx.cons{es:List cS}{w:Str}{ab:PV}{bl:Int}{k:Nat}{r:ah}{rs:Rows}(h:qx es w ab bl k (.cons r rs)):qy es w ab bl k r/\qx es w ab bl (k+r.cnt) rs:=by
 let((pre,j,e,hl,hx),ha):=h;simp only[Rows.cnt]at hx;show#[#[#[pre,rs.es w ab bl (k+r.cnt)++j,by rw[e];simp only[Rows.es,d6],hl,λx F=>?_],ha],#[#[pre++r.es w ab bl k,j,by rw[e];simp only[Rows.es,d6],by rw[eI,ah.es_len,hl],λx F=>?_],ha.mono ()]]
 . obtain q|q:=dy.mp F
   . let(g1,D):=hx x (gW _ q);show#[g1,λm h1 h2=>D m h1 ()]
   . obtain q|q:=dy.mp q
     . let g:=Rows.abs rs w ab bl (k+r.cnt) x q;show#[g.num ha,λm h1 h2=>g.ne (ha.ne h1) (Zl ())]
     . let(g1,D):=hx x (gy _ q);show#[g1,λm h1 h2=>D m h1 ()]
 . obtain q|q:=dy.mp F
   . obtain q|q:=dy.mp q
     . let(g1,D):=hx x (gW _ q);show#[g1,λm h1 h2=>D m () ()]
     . let g:=ah.abs r w ab bl k x q;show#[g.num ha,λm h1 h2=>g.ne (ha.ne ()) (YY h1)]
   . let(g1,D):=hx x (gy _ q);show#[g1,λm h1 h2=>D m () ()]
theorem qy.wh{ab:PV}(h:qy es w ab bl k (.wh x b)):qx es w (ZI (k:Nat)) 0 (k+1) b:=by
 let((pre,D,e,hl,hx),ha):=h;simp only[ah.cnt]at hx;show#[#[pre++[#[w,ab,bl,.wh x b]],D,by rw[e];simp[ah.es],by simp[hl],λy hy=>?_],YY #[k,O,()]];obtain q|q:=dy.mp hy
 . obtain q|q:=dy.mp q
   . let(g1,F):=hx y (gW _ q);show#[g1,λm h1 h2=>F m () ()]
   . rw[ga.mp q];show#[by obtain a|⟨j,a,_⟩:=ha;show Zl a;show YY #[j,a],λm h1 _=>ha.ne ()]
 . let(g1,F):=hx y (gy _ q);show#[g1,λm h1 h2=>F m () ()]
theorem qy.iff{ab:PV}(h:qy es w ab bl k (.iff x b c)):qx es w (ZI (k:Nat)) 0 (k+1) b/\qx es w (ZI (k:Nat)) 1 (k+1+b.cnt) c:=by
 let((pre,D,e,hl,hx),ha):=h;simp only[ah.cnt]at hx;have own:(ab=.non\/∃j:Nat,ab=ZI j):=by obtain a|⟨j,a,_⟩:=ha;show Zl a;show YY #[j,a]
 have hk:∀s,k<s->vp (ZI (k:Nat)) s:=λs hs=>YY #[k,O,hs];show#[#[#[pre++[#[w,ab,bl,.iff x b c]],c.es w (ZI (k:Nat)) 1 (k+1+b.cnt)++D,by rw[e];simp[ah.es],by simp[hl],λy hy=>?_],hk _ ()],#[#[pre++(#[w,ab,bl,.iff x b c]::b.es w (ZI (k:Nat)) 0 (k+1)),D,by rw[e];simp[ah.es],by simp[hl,Rows.es_len];lia,λy hy=>?_],hk _ ()]]
 . obtain q|q:=dy.mp hy
   . obtain q|q:=dy.mp q
     . let(g1,F):=hx y (gW _ q);show#[g1,λm h1 h2=>F m () ()]
     . rw[ga.mp q];show#[own,λm h1 _=>ha.ne ()]
   . obtain q|q:=dy.mp q
     . let g:=Rows.abs c w (ZI (k:Nat)) 1 (k+1+b.cnt) y q;show#[g.num (hk (k+1) ()),λm h1 h2=>g.ne (xn ()) (Zl ())]
     . let(g1,F):=hx y (gy _ q);show#[g1,λm h1 h2=>F m () ()]
 . obtain q|q:=dy.mp hy
   . obtain q|q:=dy.mp q
     . let(g1,F):=hx y (gW _ q);show#[g1,λm h1 h2=>F m () ()]
     . obtain rfl|q:=bP.mp q
       . show#[own,λm h1 _=>ha.ne ()]
       . let g:=Rows.abs b w (ZI (k:Nat)) 0 (k+1) y q;show#[g.num (hk (k+1) ()),λm h1 h2=>g.ne (xn ()) (YY ())]
   . let(g1,F):=hx y (gy _ q);show#[g1,λm h1 h2=>F m () ()]
def ah.es_head(r:ah)(w:Str)(ab:PV)(bl:Int)(k:Nat):∃t,r.es w ab bl k=#[w,ab,bl,r]::t:=by cases r<;>show#[_,O]
def qy.get{ab:PV}(h:qy es w ab bl k r):es[k]?=!#[w,ab,bl,r]:=by let((z,i,e,q,F),D):=h;let(t,j):=r.es_head w ab bl k;grind
theorem qy.pos{ab:PV}(h:qy es w ab bl k r)(i:Int):Law.pos (gs w k i) 0 es=r.bnums k i:=by
 let((z,q,e,D,Q),N):=h;let hc:=r.cnt_pos;have out:∀(l:List cS)(j:Nat),(∀x∈l,x∈z++q)->Law.pos (gs w k i) j l=[]:=λl j D=>Ca λx F=>by let(g1,W):=Q x (D x F);show key_ne (W k () ()) g1
 rw[e,pF,pF,out z 0 λx h=>gW _ h,out q _ λx h=>gy _ h,kT,eJ,iX,D];show r.pos_in w ab bl k i N
mutual
def ah.sp:ah->Bool
 |.leaf _ _=>M
 |.call _ _ _=>G
 |.wh _ _=>G
 |.iff _ b c=>b.sp||c.sp
def Rows.sp:Rows->Bool
 |.nil=>M
 |.cons r rs=>r.sp||rs.sp
end
noncomputable def kP (k:Nat):Str:="at " ++ (toString (k:Int):Str)
mutual
def ah.bt:ah->Nat->List Str
 |.leaf _ _,k=>[kP k]
 |.call _ n _,k=>[kP k,"leave " ++ n]
 |.wh _ _,k=>[kP k]
 |.iff _ b c,k=>[kP k]++(if b.sp then b.lbt (k+1) else [])++(if c.sp then c.lbt (k+1+b.cnt) else [])
def Rows.lbt:Rows->Nat->List Str
 |.nil,_=>[]
 |.cons r .nil,k=>r.bt k
 |.cons r (.cons r' rs),k=>(Rows.cons r' rs).lbt (k+r.cnt)
end
mutual
def ah.bl:ah->Nat
 |.leaf _ _=>1
 |.call _ _ _=>2
 |.wh _ _=>1
 |.iff _ b c=>1+b.bl+c.bl
def Rows.bl:Rows->Nat
 |.nil=>0
 |.cons r rs=>max r.bl rs.bl
end
mutual
theorem ah.bt_len:∀(r:ah)(k:Nat),-(r.bt k)<=r.bl
 |.leaf _ _,k=>cK _
 |.call _ _ _,k=>cK _
 |.wh _ _,k=>cK _
 |.iff _ b c,k=>by let h1:=Rows.lbt_len b (k+1);let h2:=Rows.lbt_len c (k+1+b.cnt);simp only[ah.bt,ah.bl,eI,c5,f_];split<;>split<;>(try simp only[f_])<;>lia
theorem Rows.lbt_len:∀(rs:Rows)(k:Nat),-(rs.lbt k)<=rs.bl
 |.nil,k=>cK _
 |.cons r .nil,k=>by have:=ah.bt_len r k;simp only[Rows.lbt,Rows.bl];lia
 |.cons r (.cons j rs),k=>by have:=Rows.lbt_len (.cons j rs) (k+r.cnt);simp only[Rows.lbt,Rows.bl]at this ⊢;lia
end
mutual
noncomputable def ah.rws:ah->List ah
 |.leaf w ps=>[.leaf w ps]
 |.call b n as=>[.call b n as]
 |.wh e b=>.wh e b::b.rws
 |.iff e b c=>.iff e b c::(b.rws++c.rws)
noncomputable def Rows.rws:Rows->List ah
 |.nil=>[]
 |.cons r rs=>r.rws++rs.rws
end
mutual
theorem ah.rws_len:∀r:ah,-r.rws=r.cnt
 |.leaf _ _=>rfl
 |.call _ _ _=>rfl
 |.wh _ b=>by simp[ah.rws,ah.cnt,Rows.rws_len b]
 |.iff _ b c=>by simp[ah.rws,ah.cnt,Rows.rws_len b,Rows.rws_len c]
theorem Rows.rws_len:∀rs:Rows,-rs.rws=rs.cnt
 |.nil=>rfl
 |.cons r rs=>by simp[Rows.rws,Rows.cnt,ah.rws_len r,Rows.rws_len rs]
end
abbrev hV(l:List ah):List PV:=l.map ah.pv
def uE(l:List ah):-(hV l)=-l:=ck _
section
local macro_rules | `(tactic| walk_at "x")=>`(tactic| exact qA)
theorem in_x:∀(n:Nat)(rs:Rows)(mu:Mu),rs.ok->rs.dep<=n->rs.cnt<=1000->iz n [.lst rs.pvs] mu=!(Zs (.lst (hV rs.rws)),mu)
 |0,rs,mu,ok,hd,_=>absurd hd (by have:=rs.dep_pos;lia)
 |n+1,rs,mu,ok,hd,hc=>fD λR K=>by
  walk_at "s"
  show xl (λfA v m=>∃(acc:List PV)(o2 o3:Option Lc),v=[!(Zp (.lst rs.pvs)),!(Zs (.lst acc)),o2,o3]/\(m=λ_=>mu)/\fA.ok/\fA.dep<=n+1/\-acc+fA.cnt<=1000/\acc++hV fA.rws=hV rs.rws) ?_ ?_ #[[],J,J,rfl,rfl,ok,hd,by simpa using hc,rfl]
  . rintro r fA v m N ⟨acc,o2,o3,rfl,rfl,hW,h1,h3,h4⟩ KN
    simp only [Rows.dep] at h1
    simp only [Rows.cnt] at h3
    have fin:∀(L:List PV)(o2 o3:Option Lc),L=acc++hV r.rws->N [!(Zp (.lst rs.pvs)),!(Zs (.lst L)),o2,o3] λ_=>mu:=λL o2 o3 eL=>by
     let el:=congrArg List.length eL
     rw [List.length_append,uE,ah.rws_len] at el
     show KN _ _ #[L,_,_,rfl,rfl,hW.2,(),(),by rw [← h4,eL,List.append_assoc,← List.map_append];rfl]
    let rc:=r.cnt_pos
    obtain⟨x,ps,er,hi,hw⟩|⟨e,b,rfl⟩|⟨e,b,c,rfl⟩:=blocks_lo hW.1
    . have e3:gJ [r.pv] mu=!(Zs (.lst []),mu):=by rw [er];show sS hi hw
      walk_at "s"
      show fin _ _ _ (by cases r <;> first |rfl |(cases er;show absurd hi (by decide +kernel)) |(cases er;show absurd hw (by decide +kernel)))
    . simp only [ah.dep] at h1
      simp only [ah.cnt] at h3
      have e3:gJ [(ah.wh e b).pv] mu=!(Zs (.lst [.lst b.pvs]),mu):=Jq
      let ih:=in_x n b mu hW.1.2 () ()
      have l1:-(hV b.rws)=b.cnt:=by rw [uE,Rows.rws_len]
      walk_at "s"
      show fin _ _ _ (by simp [ah.rws])
    . simp only [ah.dep] at h1
      simp only [ah.cnt] at h3
      have e3:gJ [(ah.iff e b c).pv] mu=!(Zs (.lst [.lst b.pvs,.lst c.pvs]),mu):=Jr
      let ih:=in_x n b mu hW.1.2.1 () ()
      let qB:=in_x n c mu hW.1.2.2 () ()
      have l1:-(hV b.rws)=b.cnt:=by rw [uE,Rows.rws_len]
      have l2:-(hV c.rws)=c.cnt:=by rw [uE,Rows.rws_len]
      walk_at "s"
      show fin _ _ _ (by simp [ah.rws])
  . rintro v m ⟨acc,o2,o3,rfl,rfl,_,_,_,h4⟩
    walk_at "s"
    rw [show acc=hV rs.rws from by rw [← h4];show (List.append_nil _).symm]
    show K
end
def og:PV->Bool
 |ZB (ZH s::_)=>(("while" : Str)==s||(("call" : Str)==s||false))
 |_=>M
def xx{a b:Str}(h:(a==b)=M):(b==a)=M:=by grind
mutual
theorem ah.hots:∀r:ah,r.ok->(hV r.rws).any og=r.sp
 |.leaf w ps=>λok=>by let((_,h2,i),_):=ok;show ((("while" : Str)==w||(("call" : Str)==w||false))||false)=M;rw[xx h2,xx i];rfl
 |.call b n j=>λok=>by show ((("while" : Str)== "call" || (("call" : Str)== "call" || false))||false)=G;decide +kernel
 |.wh e b=>λok=>by show ((("while" : Str)== "while" || (("call" : Str)== "while" || false))||(hV b.rws).any og)=G;rfl
 |.iff e b c=>λok=>by show ((("while" : Str)== "if" || (("call" : Str)== "if" || false))||(hV (b.rws++c.rws)).any og)=(b.sp||c.sp);rw[show (("while" : Str)== "if" || (("call" : Str)== "if" || false))=M by decide +kernel,Bool.false_or,hV,d0,any_append,Rows.hots b ok.2.1,Rows.hots c ok.2.2]
theorem Rows.hots:∀rs:Rows,rs.ok->(hV rs.rws).any og=rs.sp
 |.nil=>λ_=>rfl
 |.cons r rs=>λok=>by show (hV (r.rws++rs.rws)).any og=(r.sp||rs.sp);rw[hV,d0,any_append,ah.hots r ok.1,Rows.hots rs ok.2]
end
theorem rP{α:Type}(f:α->Bool):∀j:List α,eS (j.map λc=>.bl (f c))=!(j.map f)
 |[]=>rfl
 |c::j=>by show (eS (j.map λc=>.bl (f c))).map _=_;rw[rP f j];rfl
def ah.head(r:ah):∃w t,r.pv=ZB (ZH w::t):=by cases r<;>show#[_,_,O]
section
local macro_rules | `(tactic| walk_at "x")=>`(tactic| exact qA)
def Js{mu:Mu}{r:ah}(ok:r.ok)(hd:r.dep<=38)(hc:r.cnt<=900):yM [r.pv] mu=!(Zp (.bl r.sp),mu):=by
 have o:iz 40 [.lst [r.pv]] mu=_:=in_x 40 (.cons r .nil) mu #[ok,True.intro] (by simp only [Rows.dep];lia) (by simp only [Rows.cnt];lia)
 let hL:=Rows.rws_len (.cons r .nil)
 have e:(hV (Rows.cons r .nil).rws).any og=(r.sp || M):=Rows.hots (.cons r .nil) #[ok,True.intro]
 rw [Bool.or_false] at e
 simp only [Rows.cnt] at hL
 show fD λR K=>?_
 walk_at "n1"
 apply p_
 . apply e_b
   . apply FH
     . apply tp
       . walk_at "e"
       . walk_at "n"
       . walk_at "n"
       . show pV (e:=ah.pv) (λr=>.bl (og r.pv)) () λa _=>?_
         let(s,t,ey):=a.head
         rw [ey]
         intro _
         walk_at "s"
         show #[rfl,rfl,rfl,rfl]
     . show FF
   . show ((eS (List.map _ _)).map _)=_
     rw [rP,Option.map_some]
 . rw [← e,List.any_map] at K
   rw [List.any_map]
   show K
end
noncomputable abbrev aU (l:List Nat):List PV:=l.map λ(i:Nat)=>PV.int (i:Nat)
abbrev SD:=List (List aV×List Nat)
noncomputable def iT (K:List aV) (i:Nat):SD->SD
 |[]=>[(K,[i])]
 |x::r=>if x.1=K then (x.1,x.2++[i])::r else x::iT K i r
noncomputable def j5:SD->List aV->Option (List Nat)
 |[],_=>J
 |x::r,K=>if x.1=K then !x.2 else j5 r K
noncomputable def pz:Nat->SD->Aw
 |_,[]=>[]
 |N,x::r=>(x.1,ZA N)::pz (N+1) r
abbrev fM(S:SD):Mu:=S.map λx=>!(R (aU x.2))
theorem Vz:∀(N:Nat)(S:SD),-(pz N S)=-S
 |_,[]=>rfl
 |N,x::r=>by simp[pz,Vz]
theorem IJ:∀l:Aw,(l.map (·.1)).zip (l.map (·.2))=l
 |[]=>rfl
 |x::r=>by rw[fr,fr,q9,IJ r]
theorem VB:∀{S:SD}{N i:Nat}{K:List aV},j5 S K=J->j0 (pz N S) K=J/\iT K i S=S++[(K,[i])]/\pz N (iT K i S)=pz N S++[(K,ZA (N+-S))]
 |[],N,i,K=>λ_=>#[O,O,O]
 |x::r,N,i,K=>λh=>by
  unfold j5 at h;split at h
  . cases h
  . rename_i j;let(h1,h2,q):=VB h;show#[?_,?_,?_]
    . show (if x.1=K then _ else _)=_;rw[bh j];grind
    . show (if x.1=K then _ else _)=_;rw[bh j,h2];rfl
    . unfold iT;rw[bh j];show (x.1,PV.ptr N)::pz (N+1) (iT K i r)=_;rw[q,show N+1+-r=N+-(x::r) by simp only[c5];omega];rfl
theorem VD:∀{S:SD}{N i:Nat}{K:List aV}{l:List Nat},j5 S K=!l->∃j,j0 (pz N S) K=!(ZA (N+j))/\(fM S)[j]?=!(!(R (aU l)))/\(fM S).set j (!(R (aU (l++[i]))))=fM (iT K i S)/\pz N (iT K i S)=pz N S
 |[],N,i,K,l=>λh=>by cases h
 |x::r,N,i,K,l=>λh=>by
  unfold j5 at h;split at h
  . rename_i q;cases h;show#[0,?_,O,?_,?_]
    . show (if x.1=K then _ else _)=_;grind
    . unfold iT;rw[aE q];rfl
    . unfold iT;rw[aE q];rfl
  . rename_i q;let(j,h1,h2,z,D):=VD h;show#[j+1,?_,?_,?_,?_]
    . show (if x.1=K then _ else _)=_;rw[bh q,h1,show N+1+j=N+(j+1) by omega]
    . grind
    . unfold iT;rw[bh q];show _::(fM r).set j _=_::fM (iT K i r);rw[z]
    . unfold iT;rw[bh q];show (x.1,PV.ptr N)::pz (N+1) (iT K i r)=_;rw[D];rfl
def ade{K j:List aV}:(j5 (iT j i S) K).getD []=(j5 S K).getD []++if j=K then [i] else []:=by
 induction S with
 |nil=>
  show (if j=K then ![i] else J).getD []=[]++_;split<;>rfl
 |cons x r D=>
  unfold iT;by_cases z:x.1=j
  . rw[aE z];show (if x.1=K then !(x.2++[i]) else j5 r K).getD []=(if x.1=K then !x.2 else j5 r K).getD []++_;by_cases h:x.1=K
    . grind
    . grind
  . rw[bh z];show (if x.1=K then !x.2 else j5 (iT j i r) K).getD []=(if x.1=K then !x.2 else j5 r K).getD []++_;by_cases h:x.1=K
    . rw[aE h,aE h,bh (λq=>z ∅),eJ]
    . grind
def oJ:Nat->List cS->SD->SD
 |_,[],S=>S
 |i,e::es,S=>oJ (i+1) es (iT e.key i S)
theorem Cd{K:List aV}:∀(es:List cS)(i:Nat)(S:SD),(j5 (oJ i es S) K).getD []=(j5 S K).getD []++pos K i es
 |[]=>λi S=>(eJ _).symm
 |e::es=>λi S=>by
  show (j5 (oJ (i+1) es (iT e.key i S)) K).getD []=_++if e.key=K then i::pos K (i+1) es else pos K (i+1) es
  rw[Cd es,ade,d6];split<;>rfl
theorem Nt{K:List aV}:∀S:SD,-(iT K i S)<=-S+1
 |[]=>cK _
 |x::r=>by
  unfold iT;split
  . simp
  . have:=Nt (K:=K) (i:=i) r;grind
def hG(m:Nat)(S:SD):Prop:=∀x∈S,-x.2<=m
theorem hG.put{K:List aV}:∀{S:SD},hG m S->hG (m+1) (iT K i S)
 |[]=>λ_ x j=>by rw[ga.mp j];simp
 |y::r=>λh x j=>by
  unfold iT at j;split at j
  . obtain rfl|j:=bP.mp j
    . have:=h y cf;grind
    . have:=h x (dP _ j);lia
  . obtain rfl|j:=bP.mp j
    . have:=h x cf;lia
    . show hG.put (λz q=>h z (dP _ q)) x j
theorem VF:∀{S:SD}{K:List aV}{l:List Nat},j5 S K=!l->∃x∈S,x.2=l
 |[],K,l=>λh=>by cases h
 |y::r,K,l=>λh=>by
  unfold j5 at h;split at h
  . grind
  . let(x,i,e):=VF h;show#[x,dP _ i,e]
theorem QT:∀(S:SD)(A:Mu),meltL (A++fM S) ((pz (-A) S).map (·.2))=!(S.map λx=>R (aU x.2),A++S.map λ_=>J)
 |[]=>λA=>by simp[pz,meltL]
 |x::r=>λA=>by
  let i:=QT r (A++[J]);rw[eI]at i;have q:(A++fM (x::r))[-A]?=!(!(R (aU x.2))):=by rw[hZ (),kz];rfl
  have j:(A++fM (x::r)).set (-A) J=(A++[J])++fM r:=by rw[set_append_right _ _ (),kz,d6];rfl
  show meltL (A++fM (x::r)) (ZA (-A)::(pz (-A+1) r).map (·.2))=_;unfold meltL;grind
theorem Kq:∀(S:SD)(N:Nat)(K:List aV),j0 (((pz N S).map (·.1)).zip (S.map λx=>PV.lst (aU x.2))) K=(j5 S K).map λl=>R (aU l)
 |[]=>λN K=>rfl
 |x::r=>λN K=>by
  show (if x.1=K then !(PV.lst (aU x.2)) else j0 (((pz (N+1) r).map (·.1)).zip (r.map λx=>PV.lst (aU x.2))) K)=(if x.1=K then !x.2 else j5 r K).map _;by_cases h:x.1=K
  . grind
  . rw[bh h,bh h];show Kq r (N+1) K
noncomputable def Ax:Nat->List PV->List PV
 |_,[]=>[]
 |i,p::ps=>ZB [ZI (i:Nat),p]::Ax (i+1) ps
theorem VG:∀(ps:List PV)(i:Nat),(ps.zipIdx i).map (λx=>PV.tup [ZI (x.2:Nat),x.1])=Ax i ps
 |[]=>λi=>rfl
 |p::ps=>λi=>by rw[zipIdx_cons,fr,VG ps (i+1)];rfl
def Ed(ps:List PV):ue ps=Ax 0 ps:=VG ps 0
section
abbrev qz(N:Nat)(S:SD):PV:=.dx HK.hk ((pz N S).map (·.1)) ((pz N S).map (·.2))
noncomputable abbrev AE (o0 o1 o2 o3 o4 o5 o6 o7 o8 o9 iO:Option Lc) (mu:Mu):Ev:=#[[o0,o1,o2,o3,o4,o5,o6,o7,o8,o9,iO],mu]
abbrev IL:SF:=ou Gp (aa 4)
def Jt{e:cS}(i:e.ab=.non\/∃j:Nat,e.ab=ZI j):pX [ZH e.w,e.ab,ZI e.bl]=!e.key:=by unfold cS.key;rcases i with h|⟨j,h⟩<;>rw[h]<;>rfl
open Classical in
def aaT{e:cS}{F o1 o2 o6 o7 o8 D q:Option Lc}(Q:e.ab=.non\/∃j:Nat,e.ab=ZI j)(hS:-S<=1000)(hs:hG 1000 S):
 IL (AE F o1 o2 (!(Zs (qz (-A) S))) (zI (i:Nat)) (zS e.pv) o6 o7 o8 D q (A++fM S))=!(.nx (AE F o1 o2 (!(Zs (qz (-A) (iT e.key i S)))) (zI (i:Nat)) (zS e.pv) o6 o7 o8 D q (A++fM (iT e.key i S)))):=by
 let E:_:=AE F o1 o2 (!(Zs (qz (-A) S))) (zI (i:Nat)) (zS e.pv) o6 o7 o8 D q (A++fM S);have set:BR 3 (j7 (aa 5) eU (cM (ay 3))) E=(match j0 (pz (-A) S) e.key with
  |some p=>!(Zp p,E)
  | none=>!(Zp (ZA (-(A++fM S))),#[E.vs.set 3 (!(Zs (.dx HK.hk ((pz (-A) S).map (·.1)++[e.key]) ((pz (-A) S).map (·.2)++[ZA (-(A++fM S))])))),(A++fM S)++[!(R [])]])):=by
  unfold BR;show ((pX [ZH e.w,e.ab,ZI e.bl]).bind _)=_;rw[Jt Q,cr,aE #[O,by rw[ck,Vz];lia],IJ]
  all_goals (cases j0 (pz (-A) S) e.key<;>rfl)
 cases h:j5 S e.key with
 |none=>
  let(h1,h2,z):=VB h;rw[h1]at set;have N:-(A++fM S)=-A+-S:=by rw[eI,ck]
  show(xg set O (ws0:=[]) (ws:=[]) ?_ O O ?_ () O).trans ?_
  . rw[hZ (),kz];rfl
  . show ((A++fM S)++[!(PV.lst [])])[-(A++fM S)]?=_;rw[hZ (),kz];rfl
  . show some (Fl.nx #[_,((A++fM S)++[!(PV.lst [])]).set (-(A++fM S)) _])=_;rw[set_append_right _ _ (),kz,qz,z,h2,d0,d0,N,show fM (S++[(e.key,[i])])=fM S++[!(R (aU [i]))] from d0,<-d6];rfl
 |some l=>
  let(j,h1,h2,z,W):=VD h;rw[h1]at set;let(x,hx,ex):=VF h;let N:=hs x hx;have g:(A++fM S)[-A+j]?=!(!(R (aU l))):=by rw[hZ (),show -A+j-(-A)=j by omega];show h2
  show(xg set O (p:=ZI (i:Nat)) g (Y2:=E) O O g ∅ O).trans ?_;rw[set_append_right _ _ (),show -A+j-(-A)=j by lia,show aU l++[PV.int (i:Nat)]=aU (l++[i]) by simp[aU],z,qz,W]
theorem QV{Q o1 o2 o6 o7 o8 W q:Option Lc}:∀(es:List cS)(i:Nat)(S:SD)(o4 o5:Option Lc),(∀e∈es,e.ab=.non\/∃j:Nat,e.ab=ZI j)->-S+-es<=1000->∀m,hG m S->m+-es<=1000->
 ∃D z,eN AU IL (Ax i (fy es)) (AE Q o1 o2 (!(Zs (qz (-A) S))) o4 o5 o6 o7 o8 W q (A++fM S))=!(.nx (AE Q o1 o2 (!(Zs (qz (-A) (oJ i es S)))) D z o6 o7 o8 W q (A++fM (oJ i es S))))
 |[]=>λi S o4 o5 _ _ m _ _=>#[o4,o5,O]
 |e::es=>λi S o4 o5 N hl m hs hm=>by simp only[c5]at hl hm;let hp:=Nt (K:=e.key) (i:=i) S;let(D,z,ih):=QV es (i+1) (iT e.key i S) (zI (i:Nat)) (zS e.pv) (λx F=>N x (dP _ F)) () (m+1) hs.put ();show#[D,z,gw O (aaT (N e cf) () λx F=>by have:=hs x F;lia) ih]
end
theorem VH{α β:Type}:∀l:List (α×β),(l.map (·.1)).zip (l.map (·.2))=l
 |[]=>rfl
 |x::r=>by rw[fr,fr,q9,VH r]
def Hs(h1:fv Y=!(y,Y1))(i:y.pv=p)(h2:fo Y1=!(x,Y2))(j:x.pv=ZA n)(z:Y2.mu[n]?=!(!(gf C l)))(q:-l<1000):BP C f fo fv Y=!(.nx #[Y2.vs,Y2.mu.set n (!(gf C (su f p l)))]):=by unfold BP;rw[h1,cr,h2,cr,j];dsimp only;rw[z];unfold gf;dsimp only;rw[aE #[O,by rw[ck];show q],VH,i]
def sZ(h2:fo Y=!(x,Y1))(q:x.pv=ZA n)(j:Y1.mu[n]?=!(!(gf C l)))(i:sr l f=!p):jB C f fo Y=!(Zp p,Y1):=by unfold jB;rw[h2,cr,q];dsimp only;rw[j];unfold gf;dsimp only;rw[aE O,VH,i];rfl
def xG(h1:fo Y=!(x,Y1))(z:x.pv=ZA n)(D:Y1.mu[n]?=!(!(gf C l)))(j:(l.map (·.1)).contains m=M)(h2:a Y1=!(ls,Y2))(i:ls.map Lc.pv=ps)(q:g (ZA n::ps) Y2.mu=!(r,gS)):cX C m g fo a Y=!(r,#[Y2.vs,gS]):=by unfold cX;rw[h1,cr,z];dsimp only;rw[D];unfold gf;dsimp only;rw[aE #[O,j],h2,cr,i,q];rfl
def BB(h:a Y=!(ls,Y1))(i:ls.map Lc.pv=ps)(h2:g (ZA (-Y1.mu)::ps) (Y1.mu++[!(gf C [])])=!(Zp .non,gS)):FT C g a Y=!(Zp (ZA (-Y1.mu)),#[Y1.vs,gS]):=by unfold FT;rw[h,cr,i];rw[show g (ZA (-Y1.mu)::ps) (Y1.mu++[!(.obj C [] [])])=_ from h2];rfl
theorem Ju:∀l:PD,-(vN k v l)=-l
 |[]=>rfl
 |x::r=>by simp[vN,Ju r]
def Yh:-(uV l k v)<=-l+1:=by
 unfold uV;split
 . rw[Ju];lia
 . simp
section
abbrev BC:EF:=bU (dh (aa 9) bJ) 2 [] wV bB (aa 0)
theorem QW:∀(xs:List Str)(i o1:Option Lc)(acc:List PV),-acc+-xs<=1000->dF wV bB (aa 0) (xs.map λx=>ZB [ZH x,.non]) #[[i,o1],mu] acc=!(acc++xs.map PV.str,mu)
 |[]=>λi o1 acc _=>by simp[dF]
 |x::xs=>λi o1 acc h=>by simp only[c5]at h;show fY (Y2:=#[[zT x,!(Zp .non)],mu]) O O () ((QW xs _ _ (acc++[ZH x]) ∅).trans ?_);simp
def IM(f:Fn)(p:PV):Prop:=∃xs:List Str,f.params=xs.map (λx=>ZB [ZH x,.non])/\-xs<=4/\Sh xs/\p=R (xs.map PV.str)
theorem Nu:∀l:PD,iG (vN k v l) k'=if k=k' then (iG l k).map λ_=>v else iG l k'
 |[]=>by simp[vN,iG]
 |x::r=>by have:=Nu (k:=k) (k':=k') (v:=v) r;grind [vN,iG]
theorem Nv:∀l:PD,iG l k=J->iG (l++[(k,v)]) k'=if k=k' then !v else iG l k'
 |[]=>λ_=>rfl
 |x::r=>λh=>by have:=Nv (k:=k) (k':=k') (v:=v) r;grind [iG]
def QX:iG (uV l k v) k'=if k=k' then !v else iG l k':=by
 unfold uV;cases h:iG l k with
 |none=>show Nv l h
 |some w=>rw[Nu,h];rfl
def aaV{j o1 o2 o3 o4 o5 o8 i:Option Lc}(q:∃xs:List Str,f.params=xs.map (λx=>ZB [ZH x,.non])/\-xs<=4/\Sh xs)(F:-d<=1000):∃p,IM f p/\
 FJ 6 (aa 7) BC (AE j o1 o2 o3 o4 o5 (!(Zs (nG d))) (zT f.name) o8 (zL f.params) i mu)=!(.nx (AE j o1 o2 o3 o4 o5 (!(Zs (nG (uV d (.inr f.name) p)))) (zT f.name) o8 (zL f.params) i mu)):=by
 let(xs,e,z,D):=q;let E:_:=AE j o1 o2 o3 o4 o5 (!(Zs (nG d))) (zT f.name) o8 (zL f.params) i mu;show#[R (xs.map PV.str),#[xs,e,z,D,O],?_];have c:BC E=!(Zs (R (xs.map PV.str)),E):=eF (Y1:=E) () (by rw[e];show QW xs J J [] ∅);unfold FJ;rw[c,cr];show (if -(d.map (·.1))<100000 then _ else _)=_;rw[aE ∅,VH];rfl
def Tc(fs:List Fn)(d:PD):Prop:=∀f∈fs,∃p,IM f p/\iG d (.inr f.name)=!p
theorem QZ{o0 o1 o2 o3 o4 o5:Option Lc}:∀(fs:List Fn)(d:PD)(o7 o8 F i:Option Lc),(∀f∈fs,∃xs:List Str,f.params=xs.map (λx=>ZB [ZH x,.non])/\-xs<=4/\Sh xs)->(fs.map Fn.name).Nodup->-d+-fs<=1000->
 ∃z W N Q j,Tc fs z/\(∀x∉fs.map Fn.name,iG z (.inr x)=iG d (.inr x))/\((∀f∈fs,iG d (.inr f.name)=none)->z.map (·.1)=d.map (·.1)++fs.map λf=>Sum.inr f.name)/\eN Gr (FJ 6 (aa 7) BC) (fs.map Fn.pv) (AE o0 o1 o2 o3 o4 o5 (!(Zs (nG d))) o7 o8 F i mu)=!(.nx (AE o0 o1 o2 o3 o4 o5 (!(Zs (nG z))) W N Q j mu))
 |[]=>λd o7 o8 F i _ _ _=>#[d,o7,o8,F,i,λf hf=>(by cases hf),λ_ _=>O,λ_=>(eJ _).symm,O]
 |f::fs=>λd o7 o8 F i h nd hl=>by
  simp only[c5]at hl;let(n1,n2):=h_.mp nd;let(p,hp,st):=aaV (d:=d) (h f cf) ();let P6:=Yh (k:=.inr f.name) (v:=p) (l:=d);let(z,W,N,Q,j,k1,k2,k3,ih):=QZ fs (uV d (.inr f.name) p) (zT f.name) (zS f.rank) (zL f.params) (zL f.rows.pvs) (λx D=>h x (dP _ D)) n2 ();show#[z,W,N,Q,j,λg hg=>?_,λx D=>?_,λhn=>?_,gw O st ih]
  . obtain rfl|hg:=bP.mp hg
    . show#[p,hp,by rw[k2 _ n1,QX,aE O]]
    . show k1 g hg
  . rw[k2 x λq=>D (dP _ q),QX,bh];grind
  . let h0:=hn f cf;rw[k3 λg hg=>by rw[QX,bh,hn g (dP _ hg)];intro q;injection q with q;show n1 (by rw[q];show List.mem_map_of_mem hg)]
    unfold uV;rw[h0];simp

abbrev LX(N:Nat)(S:SD):PV:=.dx HK.hk ((pz N S).map (·.1)) (S.map λx=>R (aU x.2))
abbrev Q0(es:List cS)(N:Nat)(hd:PV):FD:=[("told",R (fy es)),("lists",LX N (oJ 0 es [])),("heads",hd)]
def aeg(P:Pg):∀e∈P.es,e.ab=.non\/∃j:Nat,e.ab=ZI j:=by
 have f:∀(fs:List Fn)(k:Nat),∀e∈qJ fs k,e.ab=.non\/∃j:Nat,e.ab=ZI j:=by
  intro fs;induction fs with
  |nil=>intro k e i;cases i
  |cons f fs q=>
   intro k e i;obtain i|i:=dy.mp i
   . show(Rows.abs f.rows f.name .non 0 k e i).num (k:=0) (Zl O)
   . show q _ e i
 intro e i;obtain i|i:=dy.mp i
 . show f _ _ e i
 . show(Rows.abs P.rows "main" .non 0 _ e i).num (k:=0) (Zl O)
theorem es_len(P:Pg):-P.es=d8 P.fns+P.rows.cnt:=by unfold Pg.es;rw[eI,BZ,Rows.es_len]
def Td{α:Type}{A B:List α}{x:α}:(A++x::B)[-A]?=!x:=by rw[hZ (),kz];rfl
def Te{α:Type}{A B:List α}{x y:α}:(A++x::B).set (-A) y=A++y::B:=by grind
def BD{P:Pg}(ok:P.ok)(A:Mu):∃d B,Tc P.fns d/\d.map (·.1)=P.fns.map (λf=>Sum.inr f.name)/\kI [ZA (-A),P.pv] (A++[!(gf "Plan" [])])=!(Zp .non,A++some (gf "Plan" (Q0 P.es (-A+1) (nG d)))::B):=by
 let hc:=ok.ct;let hlen:=es_len P;let i:Mu:=A++[!(gf "Plan" [])];have IN:-i=-A+1:=by simp[i]
 let S:_:=oJ 0 P.es [];let o0:Option Lc:=zS (ZA (-A));let o1:Option Lc:=zS P.pv;let o2:Option Lc:=zL (fy P.es);let(p4,z,e1):=QV P.es 0 [] J J (aeg P) ∅ 0 (λx hx=>by cases hx) ();let(d,D,N,p9,j,F,_,hdk,e2):=QZ P.fns [] J J J J ok.pm ok.nd (by have:=ok.fl;simp only[f_];lia);let n1:=Pr (mu:=i) ok;let T:PV:=R (fy P.es);let q:Mu:=A++[!(gf "Plan" [("told",T)])];let B:Mu:=S.map λ_=>J;have hA2:-q=-i:=by simp[i,q]
 let hm:=QT S q;rw[hA2]at hm;let Q:_:=AE o0 o1 o2 (!(Zs (qz (-i) S))) p4 z (!(Zs (nG d))) D N p9 j;let Q2:_:=AE o0 o1 o2 (zS (qz (-i) S)) p4 z (!(Zs (nG d))) D N p9 j;let Q3:_:=AE o0 o1 o2 (zS (qz (-i) S)) p4 z (zS (nG d)) D N p9 j;show#[d,B,F,hdk λf _=>O,?_];have W:∀{g:SF}{Y1:Ev},g (env0 11 [ZA (-A),P.pv] i)=!(.nx Y1)->cY 11 g [ZA (-A),P.pv] i=!(Zp .non,Y1.mu):=λh=>UH h;show W (Y1:=Q3 (A++some (gf "Plan" (Q0 P.es (-A+1) (nG d)))::B)) ?_;show aH (bu (aR O O O O n1) O O) ?_;show aH O ?_;show aH (eO ?_ e1) ?_
 . rw[<-Ed,show i++fM []=i from eJ _];rfl
 show aH O ?_;show aH () ?_;show aH (Y':=Q (q++fM S)) ((Hs (C:="Plan") (f:="told") (l:=[]) O O O O ?_ ()).trans ?_) ?_
 . rw[d6];show Td
 . show some (Fl.nx #[_,(A++[!(gf "Plan" [])]++fM S).set (-A) _])=!(Fl.nx #[_,A++[!(gf "Plan" [("told",T)])]++fM S]);rw[d6,d6,singleton_append,Te];rfl
 show aH (Y':=Q2 (A++some (gf "Plan" [("told",T),("lists",LX (-i) S)])::B)) ((Hs (C:="Plan") (f:="lists") (l:=[("told",T)]) (y:=Zp (LX (-i) S)) (Y1:=Q2 (q++B)) ?_ O O O ?_ ∅).trans ?_) ?_
 . show ((meltL (q++fM S) ((pz (-i) S).map (·.2))).map _)=_;rw[hm];rfl
 . rw[d6];show Td
 . show some (Fl.nx #[_,(A++[!(gf "Plan" [("told",T)])]++B).set (-A) _])=!(Fl.nx #[_,A++some (gf "Plan" [("told",T),("lists",LX (-i) S)])::B]);rw[d6,singleton_append,Te];rfl
 show(Hs (C:="Plan") (f:="heads") O O O O Td ∅).trans ?_;show some (Fl.nx #[_,(A++some (gf "Plan" [("told",T),("lists",LX (-i) S)])::B).set (-A) _])=!(Fl.nx #[_,A++some (gf "Plan" (Q0 P.es (-A+1) (nG d)))::B]);rw[Te,<-IN];rfl
end
abbrev c7(l:List Str):List PV:=l.map PV.str
abbrev lF(k:Nat):Str:=(toString ((k:Nat):Int):Str)
def Gq:∀k<256,ψ (ZI ((k:Nat):Int))=!(lF k)/\-("at " : Str)+-(lF k)<=1000/\zC [ZI ((k:Nat):Int)]=zT (lF k):=by
 have g:∀k<256,-("at " : Str)+-(lF k)<=1000/\((k:Nat):Int).natAbs.log2<1920:=by decide +kernel
 intro k hk;let(j,i):=g k hk;show#[?_,j,?_]
 . show (if ((k:Nat):Int).natAbs.log2<1920 then (if -(lF k)<=100000 then !(lF k) else J) else J)=_;rw[aE i,aE ()]
 . show (if ((k:Nat):Int).natAbs.log2<1920 then !(Lc.sh (ZH (lF k))) else J)=_;rw[aE i]
section
structure jb(mu:Mu)(n:Nat)(es:List cS):Prop where
 ex:∃N hd,mu[n]?=!(!(gf "Plan" (Q0 es N hd)))
def Ht(h:es[k]?=!e):fO (fy es) ((k:Nat):Int)=!e.pv:=PN ∅
def tu(h:jb mu n es)(he:es[k]?=!e):dY [ZA n,ZI (k:Nat)] mu=!(Zp e.r.pv,mu):=by let(N,j,i):=h;let E:Ev:=#[[zS (ZA n),zI (k:Nat)],mu];show aO (cT (dG (Y2:=E) (l:=Zp e.pv) (dG (sZ O O i O) O O O (λn h=>by cases h) ?_) O O O (λn h=>by cases h) O));show (fO (fy es) ((k:Nat):Int)).map _=_;rw[Ht he];rfl
open Classical in
def Eg(h:jb mu n es)(he:es[k]?=!e):dZ [ZA n,ZI (k:Nat),ZI i] mu=!(Zs (R (aU (pos (gs e.w k i) 0 es))),mu):=by
 let(N,F,j):=h;let E:Ev:=#[[zS (ZA n),zI (k:Nat),zI i],mu];have hk:aX Gz E=!(Zp (ZB [ZH e.w,ZI (k:Nat),ZI i]),E):=by show dm (aA (dG (l:=Zp e.pv) (dG (sZ O O j O) O O O (λn h=>by cases h) ?_) O O O (λn h=>by cases h) O) O) O O;show (fO (fy es) ((k:Nat):Int)).map _=_;rw[Ht he];rfl
 let S:_:=oJ 0 es [];have D:(j5 S (gs e.w k i)).getD []=pos (gs e.w k i) 0 es:=Cd es 0 [];have g:∃l,yD (jB "Plan" "lists" (aa 0)) GA E=!(l,E)/\l.pv=R (aU ((j5 S (gs e.w k i)).getD [])):=by
  unfold yD;rw[sZ (C:="Plan") (f:="lists") O O j O,cr];show ∃l,((aX Gz E).bind _)=!(l,E)/\_;rw[hk,cr];show ∃l,(if HK.hk=HK.hk then !((match j0 (((pz N S).map (·.1)).zip (S.map λx=>PV.lst (aU x.2))) (gs e.w k i) with |some p=>Lc.sh p |none=>Zs (R [])),E) else J)=!(l,E)/\_;rw[aE O,Kq];cases j5 S (gs e.w k i) with
  |none=>show#[_,O,O]
  |some l=>show#[_,O,O]
 let(l,q,z):=g;show aO (cT (jN (ps:=[R (aU (pos (gs e.w k i) 0 es))]) (Y1:=E) (aA q O) ∅ O))
def Rows.sps:Rows->List Bool
 |.nil=>[]
 |.cons r rs=>r.sp::rs.sps
theorem Rows.sps_any:∀rs:Rows,rs.sps.any id=rs.sp
 |.nil=>rfl
 |.cons r rs=>by simp[Rows.sps,Rows.sp,Rows.sps_any rs]
abbrev IP:EF:=aN yM GB
theorem Q4(h:jb mu n es):∀(rs:Rows)(s:Nat)(o:Option Lc)(acc:List PV),qx es w ab bl s rs->rs.ok->rs.dep<=38->-acc+rs.cnt<=900->dF (aC 0) bB IP (aU (rs.nums s)) #[[o,zS (ZA n)],mu] acc=!(acc++rs.sps.map PV.bl,mu)
 |.nil=>λs o acc _ _ _ _=>by simp[Rows.nums,Rows.sps,dF]
 |.cons r rs=>λs o acc hs ok q D=>by simp only[Rows.dep]at q;simp only[Rows.cnt]at D;let h1:=r.cnt_pos;let(F,z):=hs.cons;let E:Ev:=#[[zI (s:Nat),zS (ZA n)],mu];let(N,i,j):=h;have st:IP E=!(Zp (.bl r.sp),E):=aR (aA (xG O O j () O O (tu #[N,i,j] F.get)) O) O O O (Js ok.1 () ());show fY O st () ((Q4 #[N,i,j] rs (s+r.cnt) _ (acc++[.bl r.sp]) z ok.2 () ∅).trans ?_);simp[Rows.sps]
def Pu{rs:Rows}(h:jb mu n es)(hs:qx es w ab bl s rs)(ok:rs.ok)(i:rs.dep<=38)(j:rs.cnt<=900):fV [ZA n,R (aU (rs.nums s))] mu=!(Zp (.bl rs.sp),mu):=by let E:Ev:=#[[zS (ZA n),zL (aU (rs.nums s))],mu];let c:=Q4 h rs s J [] hs ok i ∅;show aO (Y:=E) (cT ?_);show jN (aA ((eF () c).trans O) O) O ?_;show ((eS (rs.sps.map PV.bl)).map _)=_;rw[show rs.sps.map PV.bl=rs.sps.map (λb=>PV.bl (id b)) from O,rP,re,map_id];rw[Rows.sps_any]
def Rows.lnum:Rows->Nat->Nat
 |.nil,k=>k
 |.cons _ .nil,k=>k
 |.cons r (.cons r' rs),k=>(Rows.cons r' rs).lnum (k+r.cnt)
theorem Rows.nums_last:∀(r:ah)(rs:Rows)(s:Nat),∃a,(Rows.cons r rs).nums s=a++[(Rows.cons r rs).lnum s]
 |r,.nil=>λs=>#[[],O]
 |r,.cons i rs=>λs=>by let(a,e):=Rows.nums_last i rs (s+r.cnt);show#[s::a,?_];show s::(Rows.cons i rs).nums (s+r.cnt)=_;rw[e];rfl
abbrev BE(n k:Nat)(p:PV)(acc:List PV)(o4:Option Lc)(mu:Mu):Ev:=#[[zS (ZA n),zI (k:Nat),zS p,zO acc,o4],mu]
abbrev IQ(f:Nat):SF:=cC GI
 (gb 3 (aN (dJ f) GD))
 bR
def Q5{rs:Rows}(h:jb mu n es)(hs:qx es w ab bl s rs)(ok:rs.ok)(hd:rs.dep<=38)(Q:rs.cnt<=900)(hz:-acc+-(rs.lbt s)<=1000)
 (F:∀r i,rs=.cons r i->dJ f [ZA n,ZI (rs.lnum s:Nat)] mu=!(Zs (R (c7 (rs.lbt s))),mu)):
 IQ f (BE n k p acc (zL (aU (rs.nums s))) mu)=!(.nx (BE n k p (acc++c7 (if rs.sp then rs.lbt s else [])) (zL (aU (rs.nums s))) mu)):=by
 let E:_:=BE n k p acc (zL (aU (rs.nums s))) mu;let(N,q,z):=h;have t:tT vef qW E=!(rs.sp,E):=jU (xG (Y2:=E) O O z () O O (Pu #[N,q,z] hs ok hd Q)) O;cases j:rs.sp with
 |false=>
  rw[j]at t;show(lU t).trans ?_;simp[c7];rfl
 |true=>
  rw[j]at t;show(lR t).trans ?_;cases rs with
  |nil=>cases j
  |cons r i=>
   let D:=F r i O;let(a,ea):=Rows.nums_last r i s;have W:aJ (aa 4) (jq (ay 1)) E=!(Zp (ZI ((Rows.cons r i).lnum s:Nat)),E):=by show dG O O O O (λn h=>by cases h) ?_;show (fO (aU ((Rows.cons r i).nums s)) (-1)).map _=_;rw[ea,aU,d0,map_singleton,qN];rfl
   show(jZ O (aR (aA O (aA W O)) O O O D) O O ∅ O).trans ?_;rfl
end
section
def wB{o4:Option Lc}:aJ (aa 2) (ay 0) (BE n k (ZB (ZH w::ps)) acc o4 mu)=!(Zp (ZH w),BE n k (ZB (ZH w::ps)) acc o4 mu):=
 dG O O O O (λn h=>by cases h) (by show (fO (PV.str w::ps) 0).map _=_;rw[qr];rfl)
abbrev bhT(f:Nat):SF:=aF (cC A0
 GH
 bR)
 (aF (cC GG
 (fX GN (aC 4)
 (IQ f))
 bR)
 (gZ 3))
def Kr{o4:Option Lc}(h:jb mu n es)(hs:qy es w ab bl k r)(hk:k<256)(j:bhT f (BE n k r.pv [ZH (kP k)] J mu)=!(.rt (Zs (R L)) #[[zS (ZA n),zI (k:Nat),zS r.pv,J,o4],mu])):
 dJ (f+1) [ZA n,ZI (k:Nat)] mu=!(Zs (R L),mu):=by
 let(z,Q,F):=Gq k hk;let i:=tu h hs.get;let(N,D,q):=h;show aO (Y:=#[[zS (ZA n),zI (k:Nat),zS r.pv,J,o4],mu]) ?_;show aH (bu (xG O O q () O O i) O O) ?_;show aH (bu (pQ (aA (Ga O z ()) O) O O) O O) j
mutual
theorem VJ(h:jb mu n es):∀(r:ah)(f k:Nat)(w:Str)(ab:PV)(bl:Int),qy es w ab bl k r->r.ok->r.dep<=f->r.dep<=37->k+r.cnt<=256->r.bl<=900->dJ f [ZA n,ZI (k:Nat)] mu=!(Zs (R (c7 (r.bt k))),mu)
 |.leaf x ps=>λf k w ab bl hs ok F j z W=>by simp only[ah.cnt]at z;obtain⟨m,rfl⟩:∃m,f=m+1:=#[f-1,by simp only[ah.dep]at F;lia];let((h1,h2,h3),_):=ok;show Kr h hs () ((bG (bw wB) h3).trans ((bG (bw wB) h1).trans O))
 |.call x m as=>λf k w ab bl hs ok F j z W=>by
  simp only[ah.cnt]at z;obtain⟨f,rfl⟩:∃m,f=m+1:=#[f-1,by simp only[ah.dep]at F;lia];let(_,hn,_):=ok;let P:_:=(ah.call x m as).pv;show Kr h hs () ((nA (Y2:=BE n k P [ZH (kP k),ZH ("leave " ++ m)] J mu) (bw wB) () ?_).trans ((bG (bw wB) ()).trans O));show pR (l:=Zp (ZH ("leave " ++ m))) (Y1:=BE n k P [ZH (kP k)] J mu) O ?_ O O ∅ O;show dj O O O O ?_;show (if -("leave " : Str)+-m<=100000 then _ else _)=_;have h6:-("leave " : Str)=6:=by decide +kernel
  rw[aE ()]
 |.wh x b=>λf k w ab bl hs ok F j z W=>by simp only[ah.cnt]at z;obtain⟨m,rfl⟩:∃m,f=m+1:=#[f-1,by simp only[ah.dep]at F;lia];show Kr (o4:=J) h hs () ((bG (bw wB) ()).trans ((bG (bw wB) ()).trans O))
 |.iff x b c=>λf k w ab bl hs ok F j z W=>by
  simp only[ah.cnt]at z;simp only[ah.dep]at F j;simp only[ah.bl]at W;obtain⟨m,rfl⟩:∃m,f=m+1:=#[f-1,()];let(s1,s2):=hs.iff;have p0:pos (gs w k 0) 0 es=b.nums (k+1):=hs.pos 0;have p1:pos (gs w k 1) 0 es=c.nums (k+1+b.cnt):=hs.pos 1;let b0:=Eg (i:=0) h hs.get;let b1:=Eg (i:=1) h hs.get;have q0:dZ [ZA n,ZI (k:Nat),ZI 0] mu=!(Zs (R (aU (b.nums (k+1)))),mu):=by rw[b0,p0]
  have q1:dZ [ZA n,ZI (k:Nat),ZI 1] mu=!(Zs (R (aU (c.nums (k+1+b.cnt)))),mu):=by rw[b1,p1]
  let P:_:=(ah.iff x b c).pv;let D:List PV:=[ZH (kP k)];let Q:_:=D++c7 (if b.sp then b.lbt (k+1) else []);let A2:_:=Q++c7 (if c.sp then c.lbt (k+1+b.cnt) else []);let l1:=Rows.lbt_len b (k+1);let l2:=Rows.lbt_len c (k+1+b.cnt);have IN:-Q<=1+b.bl:=by simp only[Q,D,eI,ck,c5,f_];split<;>(try simp only[f_])<;>lia
  let e1:=Q5 (f:=m) (k:=k) (p:=P) (acc:=D) h s1 ok.2.1 () () (by simp only[D,c5,f_];lia) λr rs e=>ba h b m (k+1) w (ZI (k:Nat)) 0 #[r,rs,e] s1 ok.2.1 () () () ();let e2:=Q5 (f:=m) (k:=k) (p:=P) (acc:=Q) h s2 ok.2.2 () () () λr rs e=>ba h c m (k+1+b.cnt) w (ZI (k:Nat)) 1 #[r,rs,e] s2 ok.2.2 () () () ();let(N,hdd,hm):=h;let E:_:=BE n k P D J mu;have me:∀(i:Int)(l:List PV),dZ [ZA n,ZI (k:Nat),ZI i] mu=!(Zs (R l),mu)->cX "Plan" "block" dZ (aa 0) (aj (aa 1) (aj (ay i) ao)) E=!(Zs (R l),E):=λi l q=>xG (n:=n) (x:=Zp (ZA n)) (Y1:=E) (Y2:=E) (ls:=[Zp (ZI (k:Nat)),Zp (ZI i)]) O O hm (by show (["told","lists","heads"]:List Str).contains "block"=M;decide +kernel) O O q;show Kr (o4:=zL (aU (c.nums (k+1+b.cnt)))) #[N,hdd,hm] hs () ((bG (bw wB) ()).trans ((nA (Y2:=BE n k P A2 (zL (aU (c.nums (k+1+b.cnt)))) mu) (bw wB) () ?_).trans ?_))
  . show eO (xs:=[R (aU (b.nums (k+1))),R (aU (c.nums (k+1+b.cnt)))]) (Y1:=E) (dC (l:=Zp (ZB [R (aU (b.nums (k+1))),R (aU (c.nums (k+1+b.cnt)))])) (dm (ls:=[Zs (R (aU (b.nums (k+1)))),Zs (R (aU (c.nums (k+1+b.cnt))))]) (aA (me 0 _ q0) (aA (me 1 _ q1) O)) O O) O) ?_;show Np (Y1:=BE n k P D (zL (aU (b.nums (k+1)))) mu) (Y3:=BE n k P Q (zL (aU (c.nums (k+1+b.cnt)))) mu) O e1 O e2
  . have eA:A2=c7 ((ah.iff x b c).bt k):=by simp only[A2,Q,D,ah.bt,c7,d0,fr,rQ]
    rw[<-eA];rfl
theorem ba{mu:Mu}{n:Nat}{es:List cS}(h:jb mu n es):∀(rs:Rows)(f s:Nat)(w:Str)(ab:PV)(bl:Int),(∃r D,rs=.cons r D)->qx es w ab bl s rs->rs.ok->rs.dep<=f+1->rs.dep<=38->s+rs.cnt<=256->rs.bl<=900->dJ f [ZA n,ZI (rs.lnum s:Nat)] mu=!(Zs (R (c7 (rs.lbt s))),mu)
 |.nil=>λf s w ab bl z6 _ _ _ _ _ _=>by let(_,_,e):=z6;cases e
 |.cons r .nil=>λf s w ab bl _ hs ok W j hc Q=>by simp only[Rows.dep,Rows.cnt,Rows.bl]at W j hc Q;show VJ h r f s w ab bl hs.cons.1 ok.1 () () () ()
 |.cons r (.cons i rs)=>λf s w ab bl _ hs ok W j hc Q=>by
  have z:(Rows.cons i rs).dep<=f+1:=fx (Nat.le_max_right _ _) W;have q:(Rows.cons i rs).dep<=38:=fx (Nat.le_max_right _ _) j;have F:(Rows.cons i rs).bl<=900:=fx (Nat.le_max_right _ _) Q;have N:s+r.cnt+(Rows.cons i rs).cnt<=256:=by have:(Rows.cons r (.cons i rs)).cnt=r.cnt+(Rows.cons i rs).cnt:=O;lia
  show ba h (.cons i rs) f (s+r.cnt) w ab bl #[i,rs,O] hs.cons.2 ok.2 z q N F
end
end
def jO(w:Str):Bool:=("if"== w)||(("while"== w)||false)
def Hu(h:ik w):jO w=M:=by unfold jO;rw[xx h.1,xx h.2.1];rfl
section
mutual
theorem ah.es_rws:∀(r:ah)(w:Str)(ab:PV)(bl:Int)(k:Nat),(r.es w ab bl k).map cS.r=r.rws
 |.leaf _ _,w,ab,bl,k=>rfl
 |.call _ _ _,w,ab,bl,k=>rfl
 |.wh e b,w,ab,bl,k=>by simp[ah.es,ah.rws,Rows.es_rws b]
 |.iff e b c,w,ab,bl,k=>by simp[ah.es,ah.rws,Rows.es_rws b,Rows.es_rws c]
theorem Rows.es_rws:∀(rs:Rows)(w:Str)(ab:PV)(bl:Int)(k:Nat),(rs.es w ab bl k).map cS.r=rs.rws
 |.nil,w,ab,bl,k=>rfl
 |.cons r rs,w,ab,bl,k=>by simp[Rows.es,Rows.rws,ah.es_rws r,Rows.es_rws rs]
end
def kg(es:List cS)(k:Nat)(r:ah):Prop:=∃w ab bl,qy es w ab bl k r
mutual
theorem ah.spots:∀(r:ah){es:List cS}{w:Str}{ab:PV}{bl:Int}{k:Nat},qy es w ab bl k r->∀(i:Nat) x,r.rws[i]?=!x->kg es (k+i) x
 |.leaf a ps,es,w,ab,bl,k=>λh i x j=>by
  match i,j with
  |0,j=>cases j;show#[w,ab,bl,h]
 |.call a n z,es,w,ab,bl,k=>λh i x j=>by
  match i,j with
  |0,j=>cases j;show#[w,ab,bl,h]
 |.wh e b,es,w,ab,bl,k=>λh i x j=>by
  match i,j with
  |0,j=>cases j;show#[w,ab,bl,h]
  |i+1,j=>
   have:=Rows.spots b h.wh i x ();grind
 |.iff e b c,es,w,ab,bl,k=>λh i x j=>by
  match i,j with
  |0,j=>cases j;show#[w,ab,bl,h]
  |i+1,j=>
   have q:(b.rws++c.rws)[i]?=!x:=by simpa [ah.rws] using j
   obtain hi|hi:=fU i (-b.rws)
   . rw[jk hi]at q;have:=Rows.spots b h.iff.1 i x q;grind
   . rw[hZ hi]at q;have:=Rows.spots c h.iff.2 _ x q;rw[Rows.rws_len]at this hi;rw[show k+(i+1)=k+1+b.cnt+(i-b.cnt) by omega];grind
theorem Rows.spots:∀(rs:Rows){es:List cS}{w:Str}{ab:PV}{bl:Int}{k:Nat},qx es w ab bl k rs->∀(i:Nat) x,rs.rws[i]?=!x->kg es (k+i) x
 |.nil,es,w,ab,bl,k=>λh i x q=>by cases q
 |.cons r rs,es,w,ab,bl,k=>λh i x q=>by
  let(h1,h2):=h.cons;have j:(r.rws++rs.rws)[i]?=!x:=q;obtain hi|hi:=fU i (-r.rws)
  . rw[jk hi]at j;show ah.spots r h1 i x j
  . rw[hZ hi]at j;have:=Rows.spots rs h2 _ x j;rw[ah.rws_len]at this hi;rw[show k+i=k+r.cnt+(i-r.cnt) by omega];grind
end
def lN:List Fn->List ah
 |[]=>[]
 |f::fs=>f.rows.rws++lN fs
theorem vq:∀fs:List Fn,-(lN fs)=d8 fs
 |[]=>rfl
 |f::fs=>by simp[lN,d8,Rows.rws_len,vq fs]
def Pg.rws(P:Pg):List ah:=lN P.fns++P.rows.rws
def i9:List Fn->Nat->List (Fn×Nat)
 |[],_=>[]
 |f::fs,k=>(f,k)::i9 fs (k+f.rows.cnt)
def Pg.fs(P:Pg):List Fn:=P.fns++[#["main",.non,[],P.rows]]
theorem IR:∀(a b:List Fn)(k:Nat),qJ (a++b) k=qJ a k++qJ b (k+d8 a)
 |[]=>λb k=>rfl
 |f::a=>λb k=>by show _++qJ (a++b) (k+f.rows.cnt)=(_++_)++qJ b (k+(f.rows.cnt+d8 a));rw[IR a b,d6,Nat.add_assoc]
def qE(P:Pg):qJ P.fs 0=P.es:=by show qJ (P.fns++_) 0=qJ P.fns 0++_;rw[IR,iX];show gT _ (eJ _)
theorem BG:∀(a b:List Fn),lN (a++b)=lN a++lN b
 |[]=>λb=>rfl
 |f::a=>λb=>by show _++lN (a++b)=(_++_)++_;rw[BG a b,d6]
def zaI(P:Pg):lN P.fs=P.rws:=by show lN (P.fns++_)=lN P.fns++_;rw[BG];show gT _ (eJ _)
theorem IS:∀(fs:List Fn)(k:Nat)(z i:List cS),es=z++(qJ fs k++i)->-z=k->(∀e∈z++i,(e.ab=.non\/∃j:Nat,e.ab=.int j)/\∀m:Nat,k<=m->m<k+d8 fs->e.ab≠.int m)->∀b∈i9 fs k,qx es b.1.name .non 0 b.2 b.1.rows
 |[]=>λk z i _ _ _ b W=>by cases W
 |f::fs=>λk z i e hl F b W=>by
  simp only[d8]at F;have fab:∀(fs:List Fn)(k:Nat),∀e∈qJ fs k,(e.ab=.non\/∃j:Nat,e.ab=.int j)/\∀m:Nat,m<k->e.ab≠.int m:=by
   intro fs;induction fs with
   |nil=>intro k e Q;cases Q
   |cons f fs ih=>
    intro k e Q;obtain Q|Q:=dy.mp Q
    . let g:=Rows.abs f.rows f.name .non 0 k e Q;show#[g.num (k:=0) (.inl rfl),λm hm=>g.ne () (.inl hm)]
    . let(N,D):=ih _ e Q;show#[N,λm hm=>D m ()]
  obtain rfl|W:=bP.mp W
  . show#[#[z,qJ fs (k+f.rows.cnt)++i,by rw[e];simp[qJ],hl,λy hy=>?_],.inl rfl];obtain q|q:=dy.mp hy
    . let(N,D):=F y (gW _ q);show#[N,λm h1 h2=>D m h1 ()]
    . obtain q|q:=dy.mp q
      . let(N,D):=fab fs _ y q;show#[N,λm h1 h2=>D m h2]
      . let(N,D):=F y (gy _ q);show#[N,λm h1 h2=>D m h1 ()]
  . show IS fs (k+f.rows.cnt) (z++f.rows.es f.name .non 0 k) i (by rw[e];simp[qJ]) (by rw[eI,Rows.es_len,hl]) (λy hy=>by
     obtain q|q:=dy.mp hy
     . obtain q|q:=dy.mp q
       . let(N,D):=F y (gW _ q);show#[N,λm h1 h2=>D m () ()]
       . let g:=Rows.abs f.rows f.name .non 0 k y q;show#[g.num (k:=0) (.inl rfl),λm h1 h2=>g.ne () (.inr h1)]
     . let(N,D):=F y (gy _ q);show#[N,λm h1 h2=>D m () ()]) b W
theorem IT:∀(fs:List Fn)(k i:Nat)(x:ah),(lN fs)[i]?=!x->∃b∈i9 fs k,∃j,b.1.rows.rws[j]?=!x/\k+i=b.2+j
 |[]=>λk i x z=>by cases z
 |f::fs=>λk i x z=>by
  have q:(f.rows.rws++lN fs)[i]?=!x:=z;obtain hi|hi:=fU i (-f.rows.rws)
  . rw[jk hi]at q;show#[(f,k),cf,i,q,O]
  . rw[hZ hi]at q;let(b,D,j,h1,h2):=IT fs (k+f.rows.cnt) _ x q;rw[Rows.rws_len]at hi h2;show#[b,dP _ D,j,h1,()]
def IU(P:Pg):∀b∈i9 P.fs 0,qx P.es b.1.name .non 0 b.2 b.1.rows:=
 IS P.fs 0 [] [] (by rw[qE];simp) O λe j=>by cases j
def Yj(P:Pg)(i:Nat)(x:ah)(q:P.rws[i]?=!x):kg P.es i x:=by rw[<-zaI]at q;let(b,z,j,h1,h2):=IT P.fs 0 i x q;rw[iX]at h2;rw[h2];show Rows.spots b.1.rows (IU P b z) j x h1
end
noncomputable abbrev SS (xs:List Str):List PV:=xs.map ZH
abbrev IV:Str:="abcdefghijklmnopqrstuvwxyz"
noncomputable def xM (i:Int):Nat:=97+(i%26).toNat
abbrev one(c:Nat):Str:=#[(List.toArray [c])]
open A in
def Nz(i:Int):qG (ZH IV) (ZI (i%26))=zT (one (xM i)):=by
 unfold xM;let q:=kA i (b:=26) ();let h1:=lS i (b:=26) ();generalize i%26=r at q h1;let(n,rfl):=Int.eq_ofNat_of_zero_le q
 have:∀n:Nat,n<26->(match qG (ZH IV) (ZI (n:Int)) with |some (Zp (ZH x))=>x.cps.toList==[97+n] |_=>M)=G:=by decide +kernel
 let j:=this n ();split at j
 . rename_i x e;rw[e]
   have F:x=one (97+n):=by
    cases x with |mk z=>
    congr 1;show Array.toList_inj.mp ∅
   grind
 . cases j
def Tf:∀cs:List Nat,Txt.join "" (cs.map one)=#[cs.toArray]:=by
 intro cs;unfold Txt.join;rw[StrLaws.glued_eq_join];induction cs with
 |nil=>rfl
 |cons c cs j=>
  cases cs with
  |nil=>rfl
  |cons d cs=>
   show (one c ++ "" ++ Str.join "" ((d::cs).map one):Str)=_;rw[j];show Str.mk (((List.toArray [c])++#[])++(d::cs).toArray)=_;simp
theorem strs_map:∀xs:List Str,f8 (SS xs)=!xs
 |[]=>rfl
 |x::xs=>by show (f8 (SS xs)).map _=_;rw[strs_map xs];rfl
theorem NB:∀cs:List Nat,((cs.map one).map (·.length)).sum=-cs
 |[]=>rfl
 |c::cs=>by rw[fr,fr,sum_cons,NB cs,c5];show 1+_=_;lia
def aeh:∃m:Int,0<m/\m<=8/\m≠4/\qG (R [ZI 1,ZI 2,ZI 3,ZI 5,ZI 6,ZI 7,ZI 8]) (ZI (c%7))=zI m:=by
 let j:=kA c (b:=7) ();let h1:=lS c (b:=7) ();generalize c%7=r at j h1;obtain rfl|rfl|rfl|rfl|rfl|rfl|rfl:=(by omega:r=0\/r=1\/r=2\/r=3\/r=4\/r=5\/r=6)
 . show#[1,by decide,by decide,by decide,O]
 . show#[2,by decide,by decide,by decide,O]
 . show#[3,by decide,by decide,by decide,O]
 . show#[5,by decide,by decide,by decide,O]
 . show#[6,by decide,by decide,by decide,O]
 . show#[7,by decide,by decide,by decide,O]
 . show#[8,by decide,by decide,by decide,O]
def cO(d:Int):List Nat:=(range 10).map λi:Nat=>xM (d/2+3*(0+i))
def Jv(d:Int)(k:Nat):Str:=lY #[(cO d).toArray] (!((0+k:Int)%5)) (!((0+k:Int)%5+1+(0+k:Int)/5))
def oi(l:List Nat)(d:Int)(a:Nat)(k:Nat):Str:=#[(l.set a (xM (d/112+(0+k)))).toArray]
def zbG:((List.range k).map λi=>PV.str (one (c i))).set j (ZH (one x))=(((List.range k).map c).set j x).map λa=>PV.str (one a):=by rw[List.map_set,fF];rfl
def aaY(k:Nat):-(Jv d k)<=100:=by
 have h:-(cO d)=10:=by unfold cO;simp
 unfold Jv lY Str.length;simp only[gx,iS,rj];lia
def zap(z:6<=i)(j:i<10):Jv d i ≠ "main":=λq=>by
 have g:-(Jv d i)=2:=by rcases (by omega:i=6\/i=7\/i=8\/i=9) with rfl|rfl|rfl|rfl<;>rfl
 rw[q]at g;grind
def adn(F:6<=i)(N:i<j)(q:j<10):Jv d i≠Jv d j:=by
 have g:∀k:Nat,6<=k->k<10->(Jv d k).cps[0]?=!(xM (d/2+3*((k:Int)-5))):=λk h1 h2=>by rcases (by omega:k=6\/k=7\/k=8\/k=9) with rfl|rfl|rfl|rfl<;>rfl
 intro e;let z:=g i F ();rw[e,g j () q]at z;let D:=fw z;unfold xM at D;lia
def ado(N:a< -l)(D:i<j)(F:j<26):oi l d a i≠oi l d a j:=by have g:∀k:Nat,(oi l d a k).cps.toList[a]?=!(xM (d/112+(0+k))):=λk=>kt N;intro e;let q:=g i;rw[e,g j]at q;let z:=fw q;unfold xM at z;lia
def Rv:SS ((List.range (i+1)).map f)=SS ((List.range i).map f)++[ZH (f i)]:=by rw[List.range_succ];simp
def BH{γ:Type}{ns:List γ}{e:γ->PV}{i:Int}(z:0<=i)(h1:i< -ns):∃c∈ns,qG (R (ns.map e)) (ZI i)=zS (e c):=by let(l,D,c,j,rfl):=W7 (S:=λl=>∃c∈ns,l=Zp (e c)) z h1 λc j=>#[c,j,O];show#[c,j,D]
def zb3(h:-x<=100000):td (ZH x) y z=zT (lY x y z):=aE h
def adm(h0:0<=i)(h1:i< -ns):∃c∈ns,qG (.lst (SS ns)) (.int i)=zT c:=BH h0 h1
def zcs{ns:List Int}(j:0<=k):ZT nj [R (ns.map ZI),ZI k] λr=>∃c,0<=c/\r=Zp (ZI c):=by
 apply AH;intro ZN K
 walk_at "s"
 . intro h;let(c,_,e):=BH j (by simpa using h)
   walk_at "s"
   show K _ #[_,kA _ (),O]
 . intro h
   walk_at "s"
   grind
def zdN{ι γ:Type}{m m1:ι->Mu}{a:AF}{L:List γ}{c:γ->Nat}(h:E a v m [l] v1 m1)(j:l.pv=R (L.map λa=>ZH (one (c a))))(hz:-L<=100):E (rY (dW "") a) v m (Zp (ZH #[(L.map c).toArray])) v1 m1:=λi=>by
 rw[<-Tf];show XC O (h i) O (j.trans ?_) (strs_map _) ?_
 . grind
 . rw[NB,ck,ck,show -("" : Str)=0 from O];lia
local macro_rules | `(tactic| walk_at "x")=>`(tactic| exact Nz _)
local macro_rules | `(tactic| walk_at "y")=>`(tactic| ((with_reducible apply zdN); walk_at "e"; exact rfl; (simp; try omega)))
def zbF{d n:Int}(hn0:10<=n)(hn:n<=26):ZT u9 [ZI d,ZI n] λr=>∃xs:List Str,r=Zs (R (SS xs))/\-xs=n.toNat/\(∀x∈xs,-x<=100)/\(∀i j:Nat,6<=i->i<j->j<10->xs[i]?≠xs[j]?)/\(∀i:Nat,6<=i->i<10->xs[i]?≠!("main" : Str)):=by
 apply AH;intro ZN K
 walk_at "s" <;> intro h
 . walk_at "s"
   show i7 (λv0 i v m=>m=(λmu=>mu)/\∃o,v=(v0.set 5 o).set 3 (zO (SS ((List.range i).map (Jv d))))) #[O,J,O] ?_ ?_
   . rintro i x _ _ N hx k ⟨rfl,o,rfl⟩;let(hi,rfl):=Ny hx;let e:=zb3 (y:=!((0+i:Int)%5)) (z:=!((0+i:Int)%5+1+(0+i)/5)) (show -(#[(cO d).toArray]:Str)<=100000 by show (cO d).toArray.size<=_;simp[cO])
     walk_at "s"
     show k _ _ #[O,_,by rw[Rv];rfl]
   . rintro _ _ ⟨rfl,o,rfl⟩
     walk_at "s"
     rw[wM];show K _ #[_,O,by simp,λx hx=>?_,λi j h6 ke iN q=>?_,λi h6 iN q=>?_]
     . let(k,_,rfl):=dA.mp hx;show aaY k
     . rw[dS,dS,List.getElem?_range (),List.getElem?_range ()]at q;show adn h6 ke iN (fw q)
     . rw[dS,List.getElem?_range ()]at q;show zap h6 iN (fw q)
 . let(a,v_,hm8,hm4,em):=aeh (c:=d/2)
   walk_at "s"
   let(k0,k1):=W_ (i:=d/14) v_;generalize d/14%a=at_ at k0 k1;let l:_:=(List.range a.toNat).map λi:Nat=>xM (d/((0+i:Int)+1)+(0+i)*(0+i));have ll:-l=a.toNat:=by simp[l]
   show i7 (λv0 i v m=>m=(λmu=>mu)/\∃o o2,v=((v0.set 5 o).set 8 o2).set 3 (zO (SS ((List.range i).map (oi l d at_.toNat))))) #[O,J,none,rfl] ?_ ?_
   . rintro i x _ _ N hx k ⟨rfl,o,o2,rfl⟩;let(hi,rfl):=Ny hx
     walk_at "s"
     rw[zbG]
     walk_at "s"
     show k _ _ #[rfl,_,_,by rw[Rv,List.map_id'];rfl]
   . rintro _ _ ⟨rfl,o,o2,rfl⟩
     walk_at "s"
     rw[wM];show K _ #[_,rfl,by simp,λx hx=>?_,λi j h6 ke iN q=>?_,λi h6 iN q=>?_]
     . let(k,_,rfl):=dA.mp hx;unfold oi Str.length;simp;lia
     . rw[dS,dS,List.getElem?_range (),List.getElem?_range ()]at q;show ado () ke () (fw q)
     . rw[dS,List.getElem?_range ()]at q;have q2:-(oi l d at_.toNat i)=4:=by rw[fw q];decide +kernel
       unfold oi Str.length at q2;simp at q2;lia
def cell_eq{ns:List Int}(j:0<=k):∃c,0<=c/\∀mu,nj [R (ns.map ZI),ZI k] mu=!(Zp (ZI c),mu):=let #[_,#[c,h,e],q]:=zcs (ns:=ns) j;#[c,h,λmu=>by rw[q,e]]
def Yk(z:10<=n)(D:n<=26):∃xs:List Str,-xs=n.toNat/\(∀x∈xs,-x<=100)/\(∀i j:Nat,6<=i->i<j->j<10->xs[i]?≠xs[j]?)/\(∀i:Nat,6<=i->i<10->xs[i]?≠!("main" : Str))/\∀mu,u9 [ZI c,ZI n] mu=!(Zs (R (SS xs)),mu):=let #[_,#[xs,e,h1,h2,h3,h4],q]:=zbF (d:=c) z D;#[xs,h1,h2,h3,h4,λmu=>by rw[q,e]]
def tB(xs:List Str):-(SS xs)=-xs:=ck _
def Eh(n:Nat):jo 0 n=((range n).map λi:Nat=>(0+(i:Int))).map PV.int:=by rw[fF];rfl
open A in
def adp(a:Int):∃s,IH s/\qG (ZH "+-*<=") (ZI (a%5))=zT s:=by
 let j:=kA a (b:=5) ();let h1:=lS a (b:=5) ();generalize a%5=r at j h1;have h:∀n:Nat,n<5->(match qG (ZH "+-*<=") (ZI (n:Int)) with |some (Zp (ZH s))=>not (s== "num")&&not (s== "box")&&not (s== "@") |_=>M)=G:=by decide +kernel
 let g:=h r.toNat ();rw[Int.toNat_of_nonneg j]at g;split at g
 . rename_i x e;simp only[iP,Bool.not_eq_true']at g;show#[x,#[g.1.1,g.1.2,g.2],e]
 . cases g
def Ay:Sh []:=λx h=>by cases h
def xO(h:i8 x)(t:Sh a):Sh (x::a):=λy hy=>by
 obtain rfl|hy:=bP.mp hy
 . show h
 . show t y hy
def Gu(h:Sh a)(t:Sh b):Sh (a++b):=λy j=>(dy.mp j).elim (h y) (t y)
def tJ(c:Int):∃m:Nat,m<=4/\qG (R [ZI 0,ZI 0,ZI 1,ZI 1,ZI 2,ZI 2,ZI 3,ZI 4]) (ZI (c%8))=zI (m:Nat):=by
 let j:=kA c (b:=8) ();let h1:=lS c (b:=8) ();generalize c%8=r at j h1;obtain rfl|rfl|rfl|rfl|rfl|rfl|rfl|rfl:=(by omega:r=0\/r=1\/r=2\/r=3\/r=4\/r=5\/r=6\/r=7)
 . show#[0,by decide,O]
 . show#[0,by decide,O]
 . show#[1,by decide,O]
 . show#[1,by decide,O]
 . show#[2,by decide,O]
 . show#[2,by decide,O]
 . show#[3,by decide,O]
 . show#[4,by decide,O]
def xo(a:Int)(h:(decide ((-(SS xs):Int)>0)&&b)=G):(0:Int)< -(SS xs)/\∃x∈xs,qG (R (SS xs)) (ZI (a%-(SS xs)))=zT x:=by let j:=of_decide_eq_true (Bool.and_eq_true_iff.mp h).1;rw[ck]at j ⊢;show#[j,adm (kA _ ()) (lS _ j)]
def Hv(c:Int)(ho:Sh own)(kl:Sh ls):∃p,XG p/\∀mu,dU [.int c,.lst (SS own),.lst (SS ls)] mu=!(.sh p,mu):=by
 suffices h:ZT dU [.int c,.lst (SS own),.lst (SS ls)] λr=>∃p,XG p/\r=.sh p by let(_,(p,x,rfl),e):=h;show#[p,x,e]
 show AH λZI K=>?_
 walk_at "f"
 show Up (λv w n=>n=(λmu=>mu)/\∃p a,w=v.set 3 (zS p)/\Rd 2 p a/\-a<=1/\Sh a) (λN bq=>?_) ?_
 . walk_at "s"
   . intro q;let(h1,x,xm,e):=xo (c/5) q
     walk_at "s"
     show bq _ _ #[rfl,_,[x],rfl,.box 1 x,cK _,xO (ho x xm) Ay]
   . intro q
     walk_at "s"
     show bq _ _ #[rfl,_,[],rfl,.num 1 _,gz _,Ay]
 rintro _ _ ⟨rfl,p,a,rfl,f1,d1,c1⟩;let(m,hm,em):=tJ (c/60)
 walk_at "f"
 show i7 (λv i w n=>n=(λmu=>mu)/\∃p a o4 o5 o6 o7,w=[zI c,zL (SS own),zL (SS ls),zS p,o4,o5,o6,o7]/\Rd (2+i) p a/\-a<=1+2*i/\Sh a) #[rfl,p,a,_,_,_,_,rfl,f1,d1,c1] ?_ ?_
 . rintro i _ _ _ N hx bq ⟨rfl,p,a,o4,o5,o6,o7,rfl,f1,d1,c1⟩;let(hi,rfl):=Ny hx
   walk_at "f"
   generalize c*(0+(i:Int)+2)%2147483647*16807%2147483647=z;show Up (λv w n=>n=(λmu=>mu)/\∃p a,w=v.set 6 (zS p)/\Rd 1 p a/\-a<=1/\Sh a) (λN bq=>?_) ?_
   . walk_at "s" <;> intro q
     . let(h1,x,xm,e):=xo (z/6) q
       walk_at "s"
       show bq _ _ #[rfl,_,[x],rfl,.box 0 x,cK _,xO (ho x xm) Ay]
     . walk_at "s"
       show bq _ _ #[rfl,_,[],rfl,.num 0 _,gz _,Ay]
   rintro _ _ ⟨rfl,p1,a1,rfl,f2,d2,c2⟩
   walk_at "f"
   show Up (λv w n=>n=(λmu=>mu)/\∃p a,w=v.set 6 (zS p)/\Rd 2 p a/\-a<=2/\Sh a) (λN bq=>?_) ?_
   . walk_at "s" <;> intro q
     . let(h1,x,xm,e):=xo (z/42) q
       walk_at "s"
       show bq _ _ #[rfl,_,x::a1,rfl,.at_ x f2,Nat.succ_le_succ d2,xO (kl x xm) c2]
     . walk_at "s"
       show bq _ _ #[rfl,p1,a1,rfl,f2.mono (),(),c2]
   rintro _ _ ⟨rfl,p2,a2,rfl,f3,d3,c3⟩;let(s,hs,es):=adp (z/77);let f3:=f3.mono (rg 2 i)
   walk_at "s" <;> intro q
   . let(h1,x,xm,e):=xo (z/15) q
     walk_at "s"
     show bq _ _ #[rfl,_,x::a,_,_,_,_,rfl,.at_ x f1,by rw[c5];lia,xO (kl x xm) c1]
   . walk_at "s" <;> intro q<;>walk_at "s"
     . show bq _ _ #[rfl,_,a++a2,_,_,_,_,rfl,.op hs f1 f3,by rw[eI];lia,Gu c1 c3]
     . show bq _ _ #[rfl,_,a2++a,_,_,_,_,rfl,.op hs f3 f1,by rw[eI];lia,Gu c3 c1]
 rintro _ _ ⟨rfl,p,a,o4,o5,o6,o7,rfl,f1,d1,c1⟩
 walk_at "f"
 show K _ #[p,#[_,a,f1,?_,?_,c1],rfl]<;>rw[wM] at*<;> lia
inductive Dr where
 |row (r:ah)
 |wh (e:PV)
 |iff (e:PV)
def Dr.pv:Dr->Nat->PV
 |.row r,_=>r.pv
 |.wh e,n=>ZB [ZH "while",e,ZA n]
 |.iff e,n=>ZB [ZH "if",e,ZA n,ZA (n+1)]
noncomputable def Dr.cl:Dr->Mu
 |.row _=>[]
 |.wh _=>[!(R [])]
 |.iff _=>[!(R []),!(R [])]
def ah.low:ah->Prop
 |.leaf w ps=>(ah.leaf w ps).ok
 |.call b n as=>(ah.call b n as).ok
 |_=>False
def Dr.ok:Dr->Prop
 |.row r=>r.low
 |.wh e=>XG e
 |.iff e=>XG e
abbrev Hd:=List (Str×List Str)
abbrev gY(hs:Hd):List PV:=hs.map λh=>ZB [ZH h.1,R (SS h.2)]
def VN:ik "put":=#[by decide +kernel,by decide +kernel,by decide +kernel]
def VP:ik "out":=#[by decide +kernel,by decide +kernel,by decide +kernel]
def VV:ik "set":=#[by decide +kernel,by decide +kernel,by decide +kernel]
def xp{γ:Type}{e:γ->PV}{ns:List γ}(a:Int)(h:decide ((-(ns.map e):Int)>0)=G):(0:Int)< -(ns.map e)/\∃x∈ns,qG (R (ns.map e)) (ZI (a%-(ns.map e)))=zS (e x):=by let j:=of_decide_eq_true h;rw[ck]at j ⊢;show#[j,BH (kA _ ()) (lS _ j)]
local macro_rules | `(tactic| walk_at "y")=>`(tactic| first
 | (with_reducible apply YC); walk_at "e"
 | (with_reducible apply AJ); walk_at "e"; walk_at "n"; (intro _; apply_assumption))
def adq(c:Int)(ho:Sh own)(kl:Sh ls)(hs:Hd)(ws:List Str)(hh:∀h∈hs,-h.1<=1000/\-h.2<=26/\FN.fn h.1):∃d:Dr,d.ok/\∀mu,iB [ZI c,R (SS own),R (SS ls),R (gY hs),R (SS ws)] mu=!(Zp (d.pv (-mu)),mu++d.cl):=by
 let(p1,f1,e1):=Hv (c*48271%2147483647) ho kl;let(p2,f2,e2):=Hv (c*69621%2147483647) ho kl;let(g,hg):=Classical.axiomOfChoice λi:Nat=>Hv (c*40692%(2147483399-(0+(i:Int)))) ho kl;let hg2:=λi mu=>(hg i).2 mu;cases b1:(c/8%9==1)&&decide ((-(SS ls):Int)>0) with
 |true=>
  let(h1,x,xm,e):=xp (c/72) (Bool.and_eq_true_iff.mp b1).2;show#[.row (.leaf "put" [ZH x,p1,p2]),#[VN,.put (kl x xm) f1 f2],λmu=>fD λZN K=>?_];let e1:=e1 mu;let e2:=e2 mu
  walk_at "f"
  rw[show mu++Dr.cl (.row (.leaf "put" [ZH x,p1,p2]))=mu from eJ _]at K;show K
 |false=>
 cases b2:(c/8%9==6) with
 |true=>
  show#[.wh p2,f2,λmu=>fD λZN K=>?_];let e1:=e1 mu;let e2:=e2 mu
  walk_at "f"
  show K
 |false=>
 obtain⟨b3,t3⟩:∃b,pB (ZI (c/8%9)) (ZB [ZI 4,ZI 5])=zS (.bl b):=#[_,O];cases hb3:b3||(-(SS own):Int)==0 with
 |true=>
  show#[.iff p1,f1,λmu=>fD λZN K=>?_];let e1:=e1 mu;let e2:=e2 mu
  walk_at "f"
  rw[eI,d6];show K
 |false=>
 let(h1,x,xm,e):=xp (c/72) (k5 (show (-(SS own):Int)>0 by have:=rV.mp (Bool.or_eq_false_iff.mp hb3).2;lia));cases b4:(c/8%9==2)&&decide ((-(SS ws):Int)>0) with
 |true=>
  let(h2,w,_,e4):=xp (c/7) (Bool.and_eq_true_iff.mp b4).2;show#[.row (.leaf "out" [ZH x,p1,ZH w]),#[VP,.out w (ho x xm) f1],λmu=>fD λZN K=>?_];let e1:=e1 mu;let e2:=e2 mu
  walk_at "f"
  rw[show mu++Dr.cl (.row (.leaf "out" [ZH x,p1,ZH w]))=mu from eJ _]at K;show K
 |false=>
 obtain⟨b5,t5⟩:∃b,pB (ZI (c/8%9)) (ZB [ZI 3,ZI 8])=zS (.bl b):=#[_,O];cases hb5:b5&&decide ((-(gY hs):Int)>0) with
 |true=>
  let(h2,h,hm,e5):=xp (c/792) (Bool.and_eq_true_iff.mp hb5).2;let(Db,kF,nz):=hh h hm;show#[.row (.call (ZH x) h.1 ((List.range (-(SS h.2):Int).toNat).map g)),#[#[x,O,ho x xm],Db,λa ha=>?_,by simp;lia,nz],λmu=>fD λZN K=>?_]
  . let(i,_,rfl):=dA.mp ha;show(hg i).1
  let e1:=e1 mu;let e2:=e2 mu;have kF:-(SS h.2)<=26:=by rw[ck];show kF
  walk_at "f"
  rw[show mu++Dr.cl (.row (.call (ZH x) h.1 ((List.range (-(SS h.2):Int).toNat).map g)))=mu from eJ _]at K;show K
 |false=>
  show#[.row (.leaf "set" [ZH x,p2]),#[VV,.set_ (ho x xm) f2],λmu=>fD λZN K=>?_];let e1:=e1 mu;let e2:=e2 mu
  walk_at "f"
  rw[show mu++Dr.cl (.row (.leaf "set" [ZH x,p2]))=mu from eJ _]at K;show K
mutual
theorem mQ:∀(p:PV)(k:Nat),di p=true->fQ mu k p=p
 |.non,k,_=>by cases k<;>rfl
 |.bl _,k,_=>by cases k<;>rfl
 |.int _,k,_=>by cases k<;>rfl
 |.str _,k,_=>by cases k<;>rfl
 |.tup ps,k,h=>by
  cases k with
  |zero=>rfl
  |succ k=>
   show PV.tup (ps.map (fQ mu k))=_;rw[yO ps k ()]
 |.lst _,k,h=>by simp[di]at h
 |.dk _ _,k,h=>by simp[di]at h
 |.dt _ _,k,h=>by simp[di]at h
 |.obj _ _ _,k,h=>by simp[di]at h
 |.df _ _,k,h=>by simp[di]at h
 |.dtf _ _,k,h=>by simp[di]at h
 |.dx _ _ _,k,h=>by simp[di]at h
 |.ptr _,k,h=>by simp[di]at h
theorem yO:∀(ps:List PV)(k:Nat),cq ps=true->ps.map (fQ mu k)=ps
 |[],k,_=>rfl
 |p::ps,k,h=>by simp only[cq,iP]at h;rw[fr,mQ p k h.1,yO ps k h.2]
end
def Ym(h:cq ps=true):fQ mu k (.lst ps)=.lst ps:=by
 cases k with
 |zero=>rfl
 |succ k=>
  show PV.lst (ps.map (fQ mu k))=_;rw[yO ps k h]
abbrev vZ:=List (Nat×PV)
def Holds(mu:Mu)(L:vZ):Prop:=(L.map (·.1)).Nodup/\∀x∈L,mu[x.1]?=!(!x.2)
def Holds.perm(h:Holds mu L)(p:L'.Perm L):Holds mu L':=#[(p.map _).nodup_iff.mpr h.1,λx hx=>h.2 x (p.mem_iff.mp hx)]
def Holds.sub(h:Holds mu L)(p:L'.Sublist L):Holds mu L':=#[h.1.sublist (p.map _),λx hx=>h.2 x (p.subset hx)]
def Holds.tail{L:vZ}(h:Holds mu (x::L)):Holds mu L:=h.sub (f6 _ _)
def Holds.head{L:vZ}(h:Holds mu ((n,p)::L)):mu[n]?=!(!p):=h.2 _ cf
theorem Holds.set{L:vZ}(h:Holds mu ((n,p)::L)):Holds (mu.set n (!q)) ((n,q)::L):=by
 let z:=(eM.mp h.head).1;show#[h.1,λx j=>?_];obtain rfl|j:=bP.mp j
 . show kt z
 . let ne:=λe=>(h_.mp h.1).1 (dA.mpr #[x,j,e]);rw[u4 (λe=>ne e.symm)];show h.2 x (dP _ j)
def Holds.lt(h:Holds mu L):∀x∈L,x.1< -mu:=λx j=>(eM.mp (h.2 x j)).1
def Holds.push(h:Holds mu L)(p:PV):Holds (mu++[!p]) ((-mu,p)::L):=by
 show#[h_.mpr #[λj=>?_,h.1],λx i=>?_]
 . let(x,i,e):=dA.mp j;have:=h.lt x i;lia
 . obtain rfl|i:=bP.mp i
   . rw[hZ (),kz];rfl
   . rw[jk (h.lt x i)];show h.2 x i
structure fR where
 p:PV
 r:ah
 L:vZ
def fR.fit(d:fR):Prop:=d.r.ok/\∀mu k,Holds mu d.L->3*d.r.dep<=k->fQ mu k d.p=d.r.pv
noncomputable def a8:List ah->Rows
 |[]=>.nil
 |r::l=>.cons r (a8 l)
theorem Gv:∀l:List ah,(a8 l).pvs=l.map ah.pv
 |[]=>rfl
 |r::l=>by simp[a8,Rows.pvs,Gv l]
theorem tE:∀l:List ah,(∀r∈l,r.ok)->(a8 l).ok
 |[]=>λ_=>nh
 |r::l=>λh=>#[h r cf,tE l λx i=>h x (dP _ i)]
theorem uv:∀l:List ah,∀r∈l,r.dep+1<=(a8 l).dep
 |[]=>λr h=>by cases h
 |x::l=>λr h=>by
  simp only[a8,Rows.dep];obtain rfl|h:=bP.mp h
  . lia
  . have:=uv l r h;lia
theorem zu(i:1<=n):∀l:List ah,(∀r∈l,r.dep+1<=n)->(a8 l).dep<=n
 |[]=>λ_=>i
 |x::l=>λh=>by let h1:=h x cf;let h2:=zu i l λr j=>h r (dP _ j);simp only[a8,Rows.dep];lia
def fZ(l:List ah):Nat:=(l.map ah.cnt).sum
theorem nD:∀l:List ah,(a8 l).cnt=fZ l
 |[]=>rfl
 |r::l=>by simp[a8,Rows.cnt,fZ,nD l]
def Ei(a b:List ah):fZ (a++b)=fZ a+fZ b:=by simp[fZ]
abbrev d9(ds:List fR):List PV:=ds.map (·.p)
noncomputable abbrev iM (ds:List fR):List ah:=ds.map (·.r)
noncomputable def dL:List fR->vZ
 |[]=>[]
 |d::ds=>d.L++dL ds
theorem NP:∀a b:List fR,dL (a++b)=dL a++dL b
 |[]=>λb=>rfl
 |d::a=>λb=>by simp[dL,NP a]
theorem V0:∀{ds:List fR}{d:fR},d∈ds->d.L.Sublist (dL ds)
 |[],d=>λh=>by cases h
 |x::ds,d=>λh=>by
  obtain rfl|h:=bP.mp h
  . show j2 _ _
  . show(V0 h).trans (oP _ _)
def Ci(z:∀d∈ds,d.fit)(q:mu[n]?=!(!(R (d9 ds))))(H:Holds mu (dL ds))(hk:∀d∈ds,3*d.r.dep<=k):fQ mu (k+2) (ZA n)=R (a8 (iM ds)).pvs:=by show (match mu[n]? with |some (!p)=>fQ mu (k+1) p |_=>ZA n)=_;rw[q];show PV.lst ((d9 ds).map (fQ mu k))=_;rw[Gv,d9,iM,fF,fF];congr 1;show Cf λd j=>?_;show(z d j).2 mu k (H.sub (V0 j)) (hk d j)
def V1(he:XG e)(q:∀d∈ds,d.fit):fR.fit #[ZB [ZH "while",e,ZA n],.wh e (a8 (iM ds)),(n,R (d9 ds))::dL ds]:=by
 show#[#[he,tE _ λr D=>?_],λmu k H hk=>?_]
 . let(d,z,rfl):=dA.mp D;show(q d z).1
 . simp only[ah.dep]at hk;obtain⟨k,rfl⟩:∃j,k=j+3:=#[k-3,()];let F:=Ci (k:=k) q H.head H.tail λd z=>by have:=uv (iM ds) d.r ∅;lia
   show PV.tup [fQ mu (k+2) (ZH "while"),fQ mu (k+2) e,fQ mu (k+2) (ZA n)]=_;rw[F,mQ e _ he.fl.1];rfl
def Hw(he:XG e)(D:∀d∈bs,d.fit)(F:∀d∈ds,d.fit):fR.fit #[ZB [ZH "if",e,ZA m,ZA n],.iff e (a8 (iM bs)) (a8 (iM ds)),(m,R (d9 bs))::(n,R (d9 ds))::(dL bs++dL ds)]:=by
 show#[#[he,tE _ λr z=>?_,tE _ λr z=>?_],λmu k H hk=>?_]
 . let(d,q,rfl):=dA.mp z;show(D d q).1
 . let(d,q,rfl):=dA.mp z;show(F d q).1
 . simp only[ah.dep]at hk;obtain⟨k,rfl⟩:∃j,k=j+3:=#[k-3,()];let W:=Ci (k:=k) D H.head (H.tail.tail.sub (j2 _ _)) λd q=>by have:=uv (iM bs) d.r ∅;lia
   let N:=Ci (k:=k) F H.tail.head (H.tail.tail.sub (oP _ _)) λd q=>by have:=uv (iM ds) d.r ∅;lia
   show PV.tup [fQ mu (k+2) (ZH "if"),fQ mu (k+2) e,fQ mu (k+2) (ZA m),fQ mu (k+2) (ZA n)]=_;rw[W,N,mQ e _ he.fl.1];rfl
def aa1(h:r.low):fR.fit #[r.pv,r,[]]:=by
 cases r with
 |leaf w ps=>
  let(h1,h2):=h;show#[#[h1,h2],λmu k _ _=>?_];show mQ _ k (by simp[ah.pv,di,cq,h2.fls.1])
 |call b n as=>
  let(h1,h2,h3,h4):=h;show#[#[h1,h2,h3,h4],λmu k _ hk=>?_];let(x,rfl,_):=h1;simp only[ah.dep]at hk;obtain⟨k,rfl⟩:∃j,k=j+1:=#[k-1,()];show PV.tup [fQ mu k (.str "call"),fQ mu k (.str x),fQ mu k (.str n),fQ mu k (.lst as)]=_;rw[mQ (.str x) _ rfl,mQ (.str "call") k rfl,mQ (.str n) k rfl,Ym (Gm h3).1];rfl
 |wh e b=>cases h
 |iff e b c=>cases h
inductive Kd where
 |root
 |W (e:PV)
 |I1 (e:PV) (m:Nat)
 |I2 (e:PV) (m:Nat) (bs:List fR)
structure Fr where
 n:Nat
 s:Nat
 ds:List fR
 kd:Kd
noncomputable def Fr.op (f:Fr):PV:=match f.kd with
 |.root=>.non
 |.W e=>ZB [ZH "while",e,ZA f.n]
 |.I1 e m=>ZB [ZH "if",e,ZA f.n,ZA m]
 |.I2 e m _=>ZB [ZH "if",e,ZA m,ZA f.n]
def Kd.st:Kd->vZ
 |.I1 _ m=>[(m,R [])]
 |.I2 _ m bs=>(m,R (d9 bs))::dL bs
 |_=>[]
def Fr.sc(f:Fr):List PV:=match f.kd with
 |.I1 _ m=>[ZA f.n,ZA m]
 |_=>[ZA f.n]
def Fr.cls(f:Fr):fR:=match f.kd with
 |.root=>#[.non,.leaf "" [],[]]
 |.W e=>#[f.op,.wh e (a8 (iM f.ds)),(f.n,R (d9 f.ds))::dL f.ds]
 |.I1 e m=>#[f.op,.iff e (a8 (iM f.ds)) .nil,(f.n,R (d9 f.ds))::(m,R [])::(dL f.ds++[])]
 |.I2 e m bs=>#[f.op,.iff e (a8 (iM bs)) (a8 (iM f.ds)),(m,R (d9 bs))::(f.n,R (d9 f.ds))::(dL bs++dL f.ds)]
def Kd.fit:Kd->Prop
 |.root=>True
 |.W e=>XG e
 |.I1 e _=>XG e
 |.I2 e _ bs=>XG e/\∀d∈bs,d.fit
def Fr.fit(f:Fr):Prop:=(∀d∈f.ds,d.fit)/\f.kd.fit
def Ra{f:Fr}(h:f.fit)(q:f.kd≠.root):f.cls.fit:=by
 let(n,s,ds,kd):=f;let(h1,h2):=h;cases kd with
 |root=>grind
 |W e=>show V1 h2 h1
 |I1 e m=>show Hw (ds:=[]) h2 h1 (λd j=>by cases j)
 |I2 e m bs=>show Hw h2.1 h2.2 h1
def aej{f:Fr}(j:f.kd≠.root):f.cls.p=f.op:=by let(n,s,ds,kd):=f;cases kd<;>first |show absurd O j |rfl
def aek{f:Fr}(j:f.kd≠.root):f.cls.L.Perm ((f.n,R (d9 f.ds))::(f.kd.st++dL f.ds)):=by
 let(n,s,ds,kd):=f;cases kd with
 |root=>grind
 |W e=>show Perm.refl _
 |I1 e m=>
  show Perm ((n,PV.lst (d9 ds))::(m,R [])::(dL ds++[])) ((n,R (d9 ds))::([(m,R [])]++dL ds));grind
 |I2 e m bs=>show gu _ _ _
def FS:List Fr->List PV->vZ
 |[],_=>[]
 |f::fs,o=>(f.n,R (d9 f.ds++o))::(f.s,R f.sc)::((f.kd.st++dL f.ds)++FS fs [f.op])
def Gw{f g:Fr}(i:f.kd≠.root):Perm (FS (#[g.n,g.s,g.ds++[f.cls],g.kd]::fs) []) ((f.n,R (d9 f.ds))::((f.kd.st++dL f.ds)++FS (g::fs) [f.op])):=by
 have j:(#[g.n,g.s,g.ds++[f.cls],g.kd]:Fr).op=g.op:=by cases g with |mk n s ds kd=>cases kd<;>rfl
 have es:(#[g.n,g.s,g.ds++[f.cls],g.kd]:Fr).sc=g.sc:=by cases g with |mk n s ds kd=>cases kd<;>rfl
 show Perm ((g.n,PV.lst (d9 (g.ds++[f.cls])++[]))::(g.s,R (#[g.n,g.s,g.ds++[f.cls],g.kd]:Fr).sc)::((g.kd.st++dL (g.ds++[f.cls]))++FS fs [(#[g.n,g.s,g.ds++[f.cls],g.kd]:Fr).op])) _;rw[j,es,eJ,NP,show d9 (g.ds++[f.cls])=d9 g.ds++[f.op] by rw[d9,d0,map_singleton,aej i],show dL [f.cls]=f.cls.L from eJ _];let z:=aek i;have p2:Perm ((f.n,PV.lst (d9 f.ds))::((f.kd.st++dL f.ds)++FS (g::fs) [f.op])) (f.cls.L++FS (g::fs) [f.op]):=z.symm.append_right _;show Perm.trans ?_ p2.symm;have q:Perm ((g.kd.st++(dL g.ds++f.cls.L))++FS fs [g.op]) (f.cls.L++((g.kd.st++dL g.ds)++FS fs [g.op])):=by rw[<-d6,d6 (g.kd.st++dL g.ds),<-d6 f.cls.L];rw[<-d6];show(ky).append_right _
 show((q.cons _).cons _).trans ((perm_middle.symm.cons _).trans gI.symm)
def mR:FS (f::fs) []=(f.n,R (d9 f.ds))::(f.s,R f.sc)::((f.kd.st++dL f.ds)++FS fs [f.op]):=by show (f.n,PV.lst (d9 f.ds++[]))::_=_;rw[eJ]
def Px(j:f.kd≠.root)(h:Holds mu (FS (f::g::fs) [])):Holds mu (FS (#[g.n,g.s,g.ds++[f.cls],g.kd]::fs) []):=by rw[mR]at h;show(h.sub ((f6 _ _).cons₂ _)).perm (Gw j)
def Holds.grow(h:Holds mu L)(X:Mu):Holds (mu++X) L:=#[h.1,λx j=>by rw[jk (h.lt x j)];show h.2 x j]
inductive UK where
 |root
 |W (e:PV)
 |I1 (e:PV)
 |I2 (e:PV) (b:List ah)
abbrev U_:=List ah×UK
def Kd.u:Kd->UK
 |.root=>.root
 |.W e=>.W e
 |.I1 e _=>.I1 e
 |.I2 e _ bs=>.I2 e (iM bs)
def Fr.u(f:Fr):U_:=(iM f.ds,f.kd.u)
def UK.close:UK->List ah->ah
 |.root,_=>.leaf "" []
 |.W e,rs=>.wh e (a8 rs)
 |.I1 e,rs=>.iff e (a8 rs) .nil
 |.I2 e b,rs=>.iff e (a8 b) (a8 rs)
def Zn{f:Fr}:f.cls.r=f.kd.u.close (iM f.ds):=by let(n,s,ds,kd):=f;cases kd<;>rfl
def yP:List U_->List U_
 |(rs,.I1 e)::us=>([],.I2 e rs)::us
 |(rs,k)::(fA,k')::us=>(fA++[k.close rs],k')::us
 |us=>us
noncomputable def vy (d:Dr):List U_->List U_
 |[]=>[]
 |(rs,k)::us=>match d with
  |.row r=>(rs++[r],k)::us
  |.wh e=>if -us+1<5 then ([],.W e)::(rs,k)::us else (rs++[.wh e .nil],k)::us
  |.iff e=>if -us+1<5 then ([],.I1 e)::(rs,k)::us else (rs++[.iff e .nil .nil],k)::us
def qC(us:List U_)(c:Int)(d:Dr):List U_:=if ((c%8==0)&&decide ((-us:Int)>1))=G then yP us else vy d us
def im(b:Nat):List Fr->Prop
 |[]=>False
 |[f]=>f.kd=.root/\f.n=b
 |f::g::r=>f.kd≠.root/\im b (g::r)
abbrev stk(fs:List Fr):List PV:=fs.reverse.map λf=>ZA f.s
def kJ:stk (f::fs)=stk fs++[ZA f.s]:=by grind
def Rb:-(stk fs)=-fs:=by grind
structure St(mu:Mu)(b S t:Nat)(fs:List Fr):Prop where
 h:Holds mu ((S,.lst (stk fs))::FS fs [])
 fit:∀f∈fs,f.fit
 sh:im b fs
 ln:-fs<=5
 sz:∀f∈fs,-f.ds<=t
def Hx(h:f Y=!(l,Y1))(D:l.pv=ZA n)(j:Y1.mu[n]?=!(!(R ws))):oO f Y=!(Zp (ZI (-ws:Nat)),Y1):=by unfold oO;rw[h,cr,D];grind
def aa2{Y Y1:Ev}{mu:Mu}(h1:fo Y=!(o,Y1))(j:o.pv=ZA n)(D:Y1.mu[n]?=!(!(R (ws++[p]))))(e:Y1.mu.set n (!(R ws))=mu):FZ fo Y=!(Zp p,#[Y1.vs,mu]):=by unfold FZ;rw[h1,cr,j];grind
def aa3(h:f Y=!(Zs p,Y1))(i:-Y1.mu=n):oh f Y=!(Zp (ZA n),#[Y1.vs,Y1.mu++[!p]]):=by unfold oh;rw[h,cr,i]
abbrev ZE(X:PV)(own ls:List Str)(hs:Hd)(ws:List Str)(b S:Nat)(o7 o8:Option Lc)(mu:Mu):Ev:=#[[zS X,zL (SS own),zL (SS ls),zL (gY hs),zL (SS ws),zS (ZA b),zS (ZA S),o7,o8],mu]
abbrev Ba:EF:=aJ (aa 6) (jq (bg 1))
abbrev BI:SF:=aF (rW (An Ba))
 (cC (tT (au eW (oO Ba) (bg 0)) aY)
 (rW (FZ (aa 6)))
 bR)
abbrev IX:SF:=cC Hj
 He
 bR
abbrev dwR:SF:=aF (aL 8 (aN iB (aj (aa 7) (aj (aa 1) (aj (aa 2) (aj (aa 3) (aj (aa 4) ao)))))))
 (aF (ou (aJ Ba (bg 0)) (aa 8))
 IX)
abbrev IY:SF:=cC (eE (tT (au eW (au aZ (aa 7) (bg 8)) (bg 0)) aY) (tT (au iV (oO (aa 6)) (bg 1)) aY)) BI dwR
section
variable {X:PV}{own ls:List Str}{hs:Hd}{ws:List Str}{b S:Nat}{o7 o8:Option Lc}{mu:Mu}
abbrev YY:SF:=aF G1
 (aF (ou (aJ Ba (ay 0)) (aa 8))
 IX)
def Gx(h:mu[S]?=!(!(R (stk (f::fs))))):Ba (ZE X own ls hs ws b S o7 o8 mu)=!(Zp (ZA f.s),ZE X own ls hs ws b S o7 o8 mu):=
 Vj O O O O h (by rw[kJ];show qN _ _)
def Fr.sc_head(f:Fr):∃t,f.sc=ZA f.n::t:=by let(n,s,ds,kd):=f;cases kd<;>show#[_,O]
def ael(h:mu[S]?=!(!(R (stk (f::fs)))))(h2:mu[f.s]?=!(!(R f.sc))):aJ Ba (ay 0) (ZE X own ls hs ws b S o7 o8 mu)=!(Zp (ZA f.n),ZE X own ls hs ws b S o7 o8 mu):=by let(t,j):=f.sc_head;show Vj (Gx h) O O O h2 (by rw[j];show qr)
def Zq(h:mu[S]?=!(!(R (stk fs)))):oO (aa 6) (ZE X own ls hs ws b S o7 o8 mu)=!(Zp (ZI (-fs:Nat)),ZE X own ls hs ws b S o7 o8 mu):=by have:=Hx (f:=aa 6) (Y:=ZE X own ls hs ws b S o7 o8 mu) O O h;rw[Rb]at this;show this
def Zr{t:Nat}(h:Holds mu ((S,R (stk (f::fs)))::FS (f::fs) []))(i:-f.ds<=1000):ou (aJ Ba (ay 0)) (aa 8) (ZE X own ls hs ws b S o7 (zS p) mu)=!(.nx (ZE X own ls hs ws b S o7 (zS p) (mu.set f.n (!(R (d9 f.ds++[p])))))):=by let h1:=h.head;let h2:=h.tail;rw[mR]at h2;show xg (Y2:=ZE X own ls hs ws b S o7 (zS p) mu) (ael h1 h2.tail.head) O h2.head O O h2.head ∅ O
end
def Gy(h:f Y=!(l,Y1)):rW f Y=!(.nx Y1):=by unfold rW;grind
section
variable {X:PV}{own ls:List Str}{hs:Hd}{ws:List Str}{b S t:Nat}{o7 o8:Option Lc}{mu:Mu}
def aa4(h:mu[S]?=!(!(R (stk fs)))):eE vek vga (ZE X own ls hs ws b S (zI c) o8 mu)=!((c%8==0)&&decide ((-fs:Int)>1),ZE X own ls hs ws b S (zI c) o8 mu):=
 nU O (jU (dj (Zq h) O O O O) O)
def Bb(h:im b (g::fs)):im b (#[g.n,g.s,d,g.kd]::fs):=by
 cases fs with
 |nil=>show h
 |cons x fs=>show h
def Rc(h:St mu b S t (f::g::fs))(F:f.sc=[ZA f.n])(W:yP ((f::g::fs).map Fr.u)=((g::fs).map Fr.u).modifyHead λu=>(u.1++[f.kd.u.close (iM f.ds)],u.2)):∃j gN,BI (ZE X own ls hs ws b S o7 o8 mu)=!(.nx (ZE X own ls hs ws b S o7 o8 j))/\St j b S (t+1) gN/\gN.map Fr.u=yP ((f::g::fs).map Fr.u):=by
 let(H,fit,sh,Q,sz):=h;let N:=sh.1;rw[mR,F]at H;let H1:=H.perm (gI (l₁:=[(S,PV.lst (stk (f::g::fs))),(f.n,R (d9 f.ds))])).symm;let H2:=H1.set (q:=R []);have H3:Holds ((mu.set f.s (!(R []))).set S (!(R (stk (g::fs))))) ((S,R (stk (g::fs)))::(f.s,R [])::(f.n,R (d9 f.ds))::((f.kd.st++dL f.ds)++FS (g::fs) [f.op])):=(H2.perm (gu _ _ _)).set;let H4:=H3.sub ((f6 _ _).cons₂ _);let H5:=H4.perm ((Gw N).cons _);show#[(mu.set f.s (!(R []))).set S (!(R (stk (g::fs)))),#[g.n,g.s,g.ds++[f.cls],g.kd]::fs,?_,#[?_,λx z=>?_,Bb sh.2,?_,λx z=>?_],?_]
 . let i:_:=mu.set f.s (!(R []));show aH (Gy (M3 (Gx H.head) O H1.head O)) ?_;show(lR (jU (dj (Hx (Gx H2.tail.head) O H2.head) O O O O) O)).trans (Gy (aa2 (Y1:=ZE X own ls hs ws b S o7 o8 i) (p:=ZA f.s) O O ?_ O));rw[<-kJ];show H2.tail.head
 . have e:stk (#[g.n,g.s,g.ds++[f.cls],g.kd]::fs)=stk (g::fs):=by rw[kJ,kJ]
   rw[e];show H5
 . obtain rfl|z:=bP.mp z
   . let(g1,g2):=fit g (by simp);show#[λd D=>?_,g2];obtain D|D:=dy.mp D
     . show g1 d D
     . rw[ga.mp D];show Ra (fit f (by simp)) N
   . show fit x ∅
 . simp only[c5]at Q ⊢;lia
 . obtain rfl|z:=bP.mp z
   . have:=sz g (by simp);simp only[eI,c5,f_];lia
   . have:=sz x ∅;lia
 . rw[W];show (iM (g.ds++[f.cls]),g.kd.u)::fs.map Fr.u=(iM g.ds++[f.kd.u.close (iM f.ds)],g.kd.u)::fs.map Fr.u;rw[iM,d0,map_singleton,Zn]
def Yn(h:St mu b S t (f::g::fs)):∃j gN,BI (ZE X own ls hs ws b S o7 o8 mu)=!(.nx (ZE X own ls hs ws b S o7 o8 j))/\St j b S (t+1) gN/\gN.map Fr.u=yP ((f::g::fs).map Fr.u):=by
 let(n,s,ds,kd):=f;cases kd with
 |root=>show absurd O h.sh.1
 |W e=>show Rc h O O
 |I2 e m bs=>show Rc h O O
 |I1 e m=>
  let(H,fit,sh,Q,sz):=h;let f:Fr:=#[n,s,ds,.I1 e m];let N:Fr:=#[m,s,[],.I2 e n ds];rw[mR]at H;let D:=H;let H1:=D.perm (gI (l₁:=[(S,PV.lst (stk (f::g::fs))),(n,R (d9 ds))])).symm;let H2:=H1.set (q:=R [ZA m]);show#[mu.set s (!(R [ZA m])),N::g::fs,?_,#[?_,λx z=>?_,#[∅,sh.2],Q,λx z=>?_],?_]
  . show aH (Gy (M3 (Gx D.head) O H1.head O)) ?_;show(lU (jU (dj (Hx (Gx H2.tail.head) O H2.head) O O O O) O)).trans O
  . let e:=(kJ (f:=N)).trans (kJ (f:=f) (fs:=g::fs)).symm;rw[mR,e];show Holds _ ((S,R (stk (f::g::fs)))::(m,R [])::(s,R [ZA m])::(n,R (d9 ds))::((dL ds++[])++FS (g::fs) [f.op]));rw[eJ];show H2.perm ?_;show(gI (l₁:=[(S,PV.lst (stk (f::g::fs))),(m,R [])])).trans (((gu _ _ _).cons _).cons _)
  . obtain rfl|z:=bP.mp z
    . let(g1,F):=fit f ∅;show#[(λd hd=>(by cases hd)),F,g1]
    . show fit x ∅
  . obtain rfl|z:=bP.mp z
    . show gz _
    . have:=sz x ∅;lia
  . rfl
def aa5(h:Holds mu ((S,R (stk (f::fs)))::FS (f::fs) []))(h2:Holds mu (L++((S,R (stk (f::fs)))::FS (f::fs) [])))(D:d.L=L):Holds (mu.set f.n (!(R (d9 f.ds++[d.p])))) ((S,R (stk (f::fs)))::FS (#[f.n,f.s,f.ds++[d],f.kd]::fs) []):=by
 rw[mR]at h2;have j:Perm ((f.n,PV.lst (d9 f.ds))::(L++((S,R (stk (f::fs)))::(f.s,R f.sc)::((f.kd.st++dL f.ds)++FS fs [f.op])))) (L++((S,R (stk (f::fs)))::(f.n,R (d9 f.ds))::(f.s,R f.sc)::((f.kd.st++dL f.ds)++FS fs [f.op]))):=by have:=(gI (l₁:=L++[(S,PV.lst (stk (f::fs)))]) (a:=(f.n,PV.lst (d9 f.ds))) (l₂:=(f.s,R f.sc)::((f.kd.st++dL f.ds)++FS fs [f.op]))).symm;simpa using this
 let H1:=(h2.perm j).set (q:=R (d9 f.ds++[d.p]));have z:(#[f.n,f.s,f.ds++[d],f.kd]:Fr).op=f.op:=by cases f with |mk n s ds kd=>cases kd<;>rfl
 have es:(#[f.n,f.s,f.ds++[d],f.kd]:Fr).sc=f.sc:=by cases f with |mk n s ds kd=>cases kd<;>rfl
 rw[mR,z,es];rw[show d9 (f.ds++[d])=d9 f.ds++[d.p] by simp[d9],NP,show dL [d]=L by rw[<-D];show eJ _];show H1.perm ?_;have q:Perm ((f.kd.st++(dL f.ds++L))++FS fs [f.op]) (L++((f.kd.st++dL f.ds)++FS fs [f.op])):=by rw[<-d6 (f.kd.st),<-d6 L];show perm_append_comm.append_right _
 let i:=((q.cons (f.s,PV.lst f.sc)).cons (S,PV.lst (stk (f::fs)))).trans ((perm_middle.symm.cons _).trans gI.symm);show(gu _ _ _).trans (i.cons _)
def adu(h:St mu b S t (f::fs))(z:d.fit)(H:Holds e7 ((S,R (stk (f::fs)))::FS (#[f.n,f.s,f.ds++[d],f.kd]::fs) [])):St e7 b S (t+1) (#[f.n,f.s,f.ds++[d],f.kd]::fs):=by
 let(_,fit,sh,q,sz):=h;show#[?_,λx j=>?_,Bb sh,by simpa using q,λx j=>?_]
 . have e:stk (#[f.n,f.s,f.ds++[d],f.kd]::fs)=stk (f::fs):=by rw[kJ,kJ]
   rw[e];show H
 . obtain rfl|j:=bP.mp j
   . let(F,D):=fit f (by simp);show#[λy i=>?_,D];obtain i|i:=dy.mp i
     . grind
     . grind
   . show fit x ∅
 . obtain rfl|j:=bP.mp j
   . grind
   . have:=sz x ∅;lia
def Yo{f F:Fr}(z:F.ds=[])(i:Holds mu (((F.n,R [])::F.kd.st)++((S,R (stk (f::fs)))::FS (f::fs) [])))(hs:F.s=-mu):
 Holds ((mu.set f.n (!(PV.lst (d9 f.ds++[F.op])))++[!(PV.lst F.sc)]).set S (!(PV.lst (stk (F::f::fs))))) ((S,R (stk (F::f::fs)))::FS (F::f::fs) []):=by
 rw[mR]at i;let K:_:=F.kd.st;let A:Nat×PV:=(F.n,R []);let E:Nat×PV:=(f.s,R f.sc);let ZN:_:=(f.kd.st++dL f.ds)++FS fs [f.op];have N:Perm ((f.n,PV.lst (d9 f.ds))::((S,R (stk (f::fs)))::((A::K)++(E::ZN)))) (((F.n,R [])::F.kd.st)++((S,R (stk (f::fs)))::(f.n,R (d9 f.ds))::E::ZN)):=by show Perm.trans ?_ (gI).symm;show(gu _ _ _).trans ((gI).symm.cons _)
 let H1:=(i.perm N).set (q:=R (d9 f.ds++[F.op]));let H2:=H1.push (R F.sc);rw[u8,<-hs]at H2;let B:Nat×PV:=(F.s,R F.sc);let D:Nat×PV:=(f.n,R (d9 f.ds++[F.op]));let Q:=H2.perm (gI (l₁:=[B,D])).symm;let j:=Q.set (q:=R (stk (F::f::fs)));show j.perm (Perm.cons _ ?_);rw[mR,z];show Perm (A::B::((K++[])++(D::E::ZN))) (B::D::((A::K)++(E::ZN)));rw[eJ];show(gu _ _ _).trans ((((gI).cons A).trans (gu _ _ _)).cons B)
def wZ:aJ (aa 8) (ay 0) (ZE X own ls hs ws b S o7 (zS (ZB (ZH w::ps))) mu)=!(Zp (ZH w),ZE X own ls hs ws b S o7 (zS (ZB (ZH w::ps))) mu):=
 dG O O O O (λn h=>by cases h) (by show (fO (PV.str w::ps) 0).map _=_;rw[qr];rfl)
def NQ(h:mu[S]?=!(!(R (stk fs)))):eE Hc GY (ZE X own ls hs ws b S o7 (zS (ZB (ZH w::ps))) mu)=!(jO w&&decide ((-fs:Int)<5),ZE X own ls hs ws b S o7 (zS (ZB (ZH w::ps))) mu):=
 nU (jU (bC wZ O O) O) (jU (dj (Zq h) O O O O) O)
def Ej{d:Dr}(W:iB [ZI c,R (SS own),R (SS ls),R (gY hs),R (SS ws)] mu=!(Zp (d.pv (-mu)),mu++d.cl))(h:St mu b S t (f::fs))(ht:t<=1000)
 (z:d.pv (-mu)=ZB (ZH w::ps)) (hD:D.p=d.pv (-mu)) (N:D.fit) (hL:Holds (mu++d.cl) (D.L++((S,R (stk (f::fs)))::FS (f::fs) []))) (hb:(jO w&&decide ((-(f::fs):Int)<5))=M):
 ∃i Q,YY (ZE X own ls hs ws b S (zI c) o8 mu)=!(.nx (ZE X own ls hs ws b S (zI c) Q i))/\St i b S (t+1) (#[f.n,f.s,f.ds++[D],f.kd]::fs):=by
 let F:=h.h.grow d.cl;let hz:=h.sz f cf;let C:Option Lc:=zI c;let P:Option Lc:=zS (d.pv (-mu));let q:=aa5 F hL O;rw[hD]at q;show#[(mu++d.cl).set f.n (!(PV.lst (d9 f.ds++[d.pv (-mu)]))),P,?_,adu h N q];show aH (bu (aR O O O O W) O O) ?_;show aH (Zr (t:=t) F ()) ?_;let j:=NQ (X:=X) (own:=own) (ls:=ls) (hs:=hs) (ws:=ws) (b:=b) (o7:=C) (w:=w) (ps:=ps) q.head;rw[hb]at j;rw[show P=zS (ZB (ZH w::ps)) from gT (λx=>!(Lc.sh x)) z,z];rw[z]at j;show(lU j).trans O
def NT{f F:Fr}{d:Dr}(er:iB [ZI c,R (SS own),R (SS ls),R (gY hs),R (SS ws)] mu=!(Zp (d.pv (-mu)),mu++d.cl))(h:St mu b S t (f::fs))(ht:t<=1000)
 (hp:d.pv (-mu)=ZB (ZH w::ps)) (hF:F.ds=[]) (hop:F.op=d.pv (-mu)) (hk:F.fit) (hr:F.kd≠.root) (Q:F.s=-(mu++d.cl)) (hL:Holds (mu++d.cl) (((F.n,R [])::F.kd.st)++((S,R (stk (f::fs)))::FS (f::fs) []))) (hb:(jO w&&decide ((-(f::fs):Int)<5))=G)
 (hc:∀mu:Mu,bU vgc 1 [] (aC 0) bB (aa 0) (ZE X own ls hs ws b S (zI c) (zS F.op) mu)=!(Zs (R F.sc),ZE X own ls hs ws b S (zI c) (zS F.op) mu)):
 ∃D p8,YY (ZE X own ls hs ws b S (zI c) o8 mu)=!(.nx (ZE X own ls hs ws b S (zI c) p8 D))/\St D b S (t+1) (F::f::fs):=by
 let Hg:=h.h.grow d.cl;let hz:=h.sz f cf;let C:Option Lc:=zI c;let P:Option Lc:=zS F.op;let H5:=Yo hF hL Q;let(_,fit,sh,ln,sz):=h;have N:-(f::fs)<5:=by let h2:=(iP _ _▸hb).2;lia
 let i:_:=(mu++d.cl).set f.n (!(PV.lst (d9 f.ds++[F.op])));have j:i[S]?=!(!(R (stk (f::fs)))):=by
  have ne:f.n≠S:=by let nd:=Hg.1;show λq=>(h_.mp nd).1 (by rw[<-q];show cf)
  rw[u4 ne];show Hg.head
 show#[(i++[!(PV.lst F.sc)]).set S (!(PV.lst (stk (F::f::fs)))),P,?_,#[H5,λx z=>?_,#[hr,sh],by simp only[c5]at N ⊢;lia,λx z=>?_]]
 . show aH (bu (l:=Zp F.op) (aR O O O O (by rw[hop];show er)) O O) ?_;show aH (Zr (t:=t) Hg ()) ?_;let tt:=NQ (X:=X) (own:=own) (ls:=ls) (hs:=hs) (ws:=ws) (b:=b) (o7:=C) (w:=w) (ps:=ps) j;rw[hb]at tt;have e9:P=zS (ZB (ZH w::ps)):=gT (λx=>!(Lc.sh x)) ∅;have W:eE Hc GY (ZE X own ls hs ws b S C P i)=!(G,ZE X own ls hs ws b S C P i):=by rw[e9];show tt
   show(lR W).trans ?_;let lt:=(eM.mp j).1;show xg (ws:=stk (f::fs)) (p:=ZA F.s) O O j (aa3 (hc i) ∅) O ?_ ∅ ?_
   . rw[jk lt];show j
   . rw[<-kJ]
 . obtain rfl|z:=bP.mp z
   . show hk
   . show fit x z
 . obtain rfl|z:=bP.mp z
   . rw[hF];show gz _
   . have:=sz x z;lia
def Yp(j:d.ok)(Q:∀mu,iB [ZI c,R (SS own),R (SS ls),R (gY hs),R (SS ws)] mu=!(Zp (d.pv (-mu)),mu++d.cl))(h:St mu b S t (f::fs))(ht:t<=1000):
 ∃i gN z,YY (ZE X own ls hs ws b S (zI c) o8 mu)=!(.nx (ZE X own ls hs ws b S (zI c) z i))/\St i b S (t+1) gN/\gN.map Fr.u=vy d ((f::fs).map Fr.u):=by
 have hl:-(fs.map Fr.u)=-fs:=ck _;cases d with
 |row r=>
  let hr:=j;obtain⟨w,ps,e,hw⟩:∃w ps,r.pv=ZB (ZH w::ps)/\jO w=M:=by
   cases r with
   |leaf w ps=>show#[w,ps,O,Hu hr.1]
   |call x n as=>show#["call",_,O,by decide +kernel]
   |wh x c=>cases hr
   |iff x c d=>cases hr
  let(i,z,N,D):=Ej (Q mu) h ht e O (aa1 hr) (by rw[show mu++Dr.cl (.row r)=mu from eJ _];show h.h) ∅;show#[i,_,z,N,D,?_];show (iM (f.ds++[#[r.pv,r,[]]]),f.kd.u)::fs.map Fr.u=(iM f.ds++[r],f.kd.u)::fs.map Fr.u;rw[iM,d0];rfl
 |wh e=>
  let he:=j;let H1:=h.h.push (R []);by_cases hb:-fs+1<5
  . let(i,z,N,D):=NT (F:=#[-mu,-mu+1,[],.W e]) (Q mu) h ht (w:="while") O O O #[(λd j=>(by cases j)),he] () (by simp[Dr.cl]) H1 (by rw[show jO "while"=G by decide +kernel,Bool.true_and];show k5 (by simp only[c5];lia)) (λmu=>O)
    show#[i,_,z,N,D,?_];show _=if -(fs.map Fr.u)+1<5 then _ else _
    rw[hl,aE hb];rfl
  . let(i,z,N,D):=Ej (Q mu) h ht (w:="while") O O (V1 (ds:=[]) he λd j=>by cases j) H1 (by rw[show jO "while"=G by decide +kernel,Bool.true_and];show mf (by simp only[c5];lia))
    show#[i,_,z,N,D,?_];show _=if -(fs.map Fr.u)+1<5 then _ else _
    rw[hl,bh hb];show (iM (f.ds++[_]),f.kd.u)::fs.map Fr.u=_;rw[iM,d0];rfl
 |iff e=>
  let he:=j;let IZ:=(h.h.push (R [])).push (R []);have D:(mu++[!(PV.lst [])])++[!(PV.lst [])]=mu++Dr.cl (.iff e):=by simp[Dr.cl]
  rw[D,show -(mu++[!(PV.lst [])])=-mu+1 by simp]at IZ;let H1:=IZ.perm (gu _ _ _);by_cases hb:-fs+1<5
  . let(i,z,N,D):=NT (F:=#[-mu,-mu+2,[],.I1 e (-mu+1)]) (Q mu) h ht (w:="if") O O O #[(λd j=>(by cases j)),he] (by intro q;cases q) (by simp[Dr.cl]) H1 (by rw[show jO "if"=G by decide +kernel,Bool.true_and];show k5 (by simp only[c5];lia)) (λmu=>O)
    show#[i,_,z,N,D,?_];show _=if -(fs.map Fr.u)+1<5 then _ else _
    rw[hl,aE hb];rfl
  . let(i,z,N,D):=Ej (Q mu) h ht (w:="if") O O (Hw (bs:=[]) (ds:=[]) he (λd j=>by cases j) λd j=>by cases j) H1 (by rw[show jO "if"=G by decide +kernel,Bool.true_and];show mf (by simp only[c5];lia))
    show#[i,_,z,N,D,?_];show _=if -(fs.map Fr.u)+1<5 then _ else _
    rw[hl,bh hb];show (iM (f.ds++[_]),f.kd.u)::fs.map Fr.u=_;rw[iM,d0];rfl
end
def NZ(iD:Nat)(r:ah):Prop:=r.ok/\r.dep<=10-2*iD
def UK.ok(iD:Nat):UK->Prop
 |.root=>iD=0
 |.W e=>0<iD/\XG e
 |.I1 e=>0<iD/\XG e
 |.I2 e b=>0<iD/\XG e/\∀r∈b,NZ iD r
def vz:List U_->Prop
 |[]=>True
 |u::us=>(∀r∈u.1,NZ (-us) r)/\u.2.ok (-us)/\vz us
def UK.cnt:UK->Nat
 |.root=>0
 |.W _=>1
 |.I1 _=>1
 |.I2 _ b=>fZ b+1
def ir:List U_->Nat
 |[]=>0
 |u::us=>fZ u.1+u.2.cnt+ir us
def Ek{iD:Nat}{rs:List ah}(hl:iD<=4)(h:∀r∈rs,NZ iD r):(a8 rs).ok/\(a8 rs).dep<=11-2*iD:=by show#[tE _ λr hr=>(h r hr).1,zu () _ λr hr=>?_];have:=(h r hr).2;lia
def Jw{iD:Nat}{k:UK}{rs:List ah}(hl:iD+1<=4)(hk:k.ok (iD+1))(h:∀r∈rs,NZ (iD+1) r):NZ iD (k.close rs)/\(k.close rs).cnt=fZ rs+k.cnt:=by
 let(g1,g2):=Ek hl h;cases k with
 |root=>cases hk
 |W e=>
  show#[#[#[hk.2,g1],?_],?_]
  . show (a8 rs).dep+1<=_;lia
  . show (a8 rs).cnt+1=_;rw[nD];rfl
 |I1 e=>
  show#[#[#[hk.2,g1,True.intro],?_],?_]
  . show max (a8 rs).dep 1+1<=_;lia
  . show (a8 rs).cnt+0+1=_;rw[nD];rfl
 |I2 e b=>
  let(b1,b2):=Ek hl hk.2.2;show#[#[#[hk.2.1,b1,g1],?_],?_]
  . show max (a8 b).dep (a8 rs).dep+1<=_;lia
  . show (a8 b).cnt+(a8 rs).cnt+1=fZ rs+(fZ b+1);rw[nD,nD];lia
def aa6(hd:d.ok)(h:vz us)(hl:-us<=5)(hn:us≠[]):vz (vy d us)/\-(vy d us)<=5/\vy d us≠[]/\ir (vy d us)<=ir us+1:=by
 cases us with
 |nil=>show absurd rfl hn
 |cons u us=>
  let(rs,k):=u;let(h1,h2,h3):=h;simp only[c5]at hl;have put:∀r:ah,NZ (-us) r->r.cnt=1->vz ((rs++[r],k)::us)/\-((rs++[r],k)::us)<=5/\((rs++[r],k)::us)≠[]/\ir ((rs++[r],k)::us)<=ir ((rs,k)::us)+1:=λr hr hc=>by
   show#[#[λx hx=>?_,h2,h3],(by simp only[c5];lia),(by intro q;cases q),?_]
   . obtain hx|hx:=dy.mp hx
     . show h1 x hx
     . rw[ga.mp hx];show hr
   . show fZ (rs++[r])+k.cnt+ir us<=fZ rs+k.cnt+ir us+1;rw[Ei];have:fZ [r]=r.cnt:=by simp[fZ]
     lia
  have push:∀k':UK,k'.ok (-us+1)->k'.cnt=1->-us+1<5->vz (([],k')::(rs,k)::us)/\-(([],k')::(rs,k)::us)<=5/\(([],k')::(rs,k)::us)≠[]/\ir (([],k')::(rs,k)::us)<=ir ((rs,k)::us)+1:=λk' hk hc hb=>by show#[#[λx hx=>(by cases hx),hk,h1,h2,h3],(by simp only[c5];lia),(by intro q;cases q),?_];show fZ []+k'.cnt+ir ((rs,k)::us)<=_;have:fZ []=0:=rfl;lia
  cases d with
  |row r=>
   let hr:=hd;show put r ?_ ?_
   . cases r with
     |leaf w ps=>show#[hr,by show 1<=_;lia]
     |call x n as=>show#[hr,by show 1<=_;lia]
     |wh x c=>cases hr
     |iff x c d=>cases hr
   . cases r with
     |leaf w ps=>rfl
     |call x n as=>rfl
     |wh x c=>cases hr
     |iff x c d=>cases hr
  |wh e=>
   show vz (if -us+1<5 then _ else _)/\_;by_cases hb:-us+1<5
   . rw[vy,aE hb];show push (.W e) #[(),hd] rfl hb
   . rw[vy,bh hb];show put (.wh e .nil) #[#[hd,True.intro],by show 1+1<=_;lia] rfl
  |iff e=>
   show vz (if -us+1<5 then _ else _)/\_;by_cases hb:-us+1<5
   . rw[vy,aE hb];show push (.I1 e) #[(),hd] rfl hb
   . rw[vy,bh hb];show put (.iff e .nil .nil) #[#[hd,True.intro,True.intro],by show max 1 1+1<=_;lia] rfl
def aa7(h:vz j)(F:-j<=5)(hn:-j>1):vz (yP j)/\-(yP j)<=5/\yP j≠[]/\ir (yP j)<=ir j+1:=by
 match j,h,F,hn with
 |(rs,k)::(i,z)::j,h,F,hn=>
  let(h1,h2,N,h4,h5):=h;simp only[c5]at F h1 h2;have low:vz ((i++[k.close rs],z)::j)/\-((i++[k.close rs],z)::j)<=5/\((i++[k.close rs],z)::j)≠[]/\ir ((i++[k.close rs],z)::j)<=ir ((rs,k)::(i,z)::j)+1:=by
   let(aS,c2):=Jw () h2 h1;show#[#[λx D=>?_,h4,h5],∅,∅,?_]
   . obtain D|D:=dy.mp D
     . grind
     . grind
   . show fZ (i++[k.close rs])+z.cnt+ir j<=fZ rs+k.cnt+(fZ i+z.cnt+ir j)+1;rw[Ei];have:fZ [k.close rs]=(k.close rs).cnt:=by simp[fZ]
     lia
  cases k with
  |root=>cases h2
  |W e=>show low
  |I2 e b=>show low
  |I1 e=>
   show#[#[λx D=>(by cases D),#[h2.1,h2.2,h1],N,h4,h5],F,(by intro q;cases q),?_];show fZ []+(fZ rs+1)+ir ((i,z)::j)<=fZ rs+1+ir ((i,z)::j)+1;have:fZ []=0:=O;lia
def uw:List U_->List Int->List Dr->List U_
 |us,c::cs,d::ds=>uw (qC us c d) cs ds
 |us,_,_=>us
def Yq(z:d.ok)(h:vz us)(i:-us<=5)(j:us≠[]):vz (qC us c d)/\-(qC us c d)<=5/\qC us c d≠[]/\ir (qC us c d)<=ir us+1:=by
 unfold qC;split
 . rename_i q;show aa7 h i ()
 . show aa6 z h i j
theorem N5:∀(cs:List Int)(ds:List Dr)(i:List U_),(∀d∈ds,d.ok)->vz i->-i<=5->i≠[]->vz (uw i cs ds)/\-(uw i cs ds)<=5/\uw i cs ds≠[]/\ir (uw i cs ds)<=ir i+-cs
 |[],ds=>λi _ h q j=>#[h,q,j,cK _]
 |c::cs,[]=>λi _ h q j=>#[h,q,j,rg _ _]
 |c::cs,d::ds=>λi z h q j=>by let(g1,F,g3,g4):=Yq (z d cf) h q j;let(Q,D,W,k4):=N5 cs ds (qC i c d) (λx N=>z x (dP _ N)) g1 F g3;show#[Q,D,W,?_];simp only[c5];show ir (uw (qC i c d) cs ds)<=_;lia
def Cj(u v:U_):U_:=(v.1++[u.2.close u.1],v.2)
def Bc:List U_->List ah
 |[]=>[]
 |u::us=>(us.foldl Cj u).1
theorem Jx:∀(i:List U_)(u:U_),vz (u::i)->-(u::i)<=5->(∀r∈Bc (u::i),NZ 0 r)/\fZ (Bc (u::i))<=ir (u::i)
 |[]=>λu h _=>#[h.1,by show fZ u.1<=fZ u.1+u.2.cnt+0;lia]
 |v::i=>λu h D=>by
  let(h1,h2,z,N,F):=h;simp only[c5]at D h1 h2;let(aS,Q):=Jw () h2 h1;let q:=Jx i (Cj u v) #[λx j=>by
   obtain j|j:=dy.mp j
   . grind
   . rw[ga.mp j];show aS,N,F] ∅
  show#[q.1,fx q.2 ?_];show fZ (v.1++[u.2.close u.1])+v.2.cnt+ir i<=fZ u.1+u.2.cnt+(fZ v.1+v.2.cnt+ir i);rw[Ei];have:fZ [u.2.close u.1]=(u.2.close u.1).cnt:=by simp[fZ]
  lia
theorem Jy:∀(fs:List Fr)(f:Fr),Holds mu (FS (f::fs) [])->(∀x∈f::fs,x.fit)->im b (f::fs)->∃F:Fr,Holds mu (FS [F] [])/\F.fit/\F.n=b/\iM F.ds=Bc ((f::fs).map Fr.u)
 |[]=>λf h i hs=>#[f,h,i f cf,hs.2,O]
 |g::fs=>λf h i hs=>by
  let z:=hs.1;let H:=Px z h;let(F,W,D,k3,Q):=Jy fs #[g.n,g.s,g.ds++[f.cls],g.kd] H (λx q=>by
   obtain rfl|q:=bP.mp q
   . let(g1,N):=i g (by simp);show#[λd j=>?_,N];obtain j|j:=dy.mp j
     . grind
     . rw[ga.mp j];show Ra (i f cf) z
   . show i x ∅) (Bb hs.2)
  show#[F,W,D,k3,Q.trans ?_];show ((fs.map Fr.u).foldl Cj (Fr.u #[g.n,g.s,g.ds++[f.cls],g.kd])).1=((fs.map Fr.u).foldl Cj (Cj f.u g.u)).1;have e:Fr.u #[g.n,g.s,g.ds++[f.cls],g.kd]=Cj f.u g.u:=by show (iM (g.ds++[f.cls]),g.kd.u)=(iM g.ds++[f.kd.u.close (iM f.ds)],g.kd.u);rw[iM,d0,map_singleton,Zn]
  rw[e]
section
variable {X:PV}{own ls:List Str}{hs:Hd}{ws:List Str}
def aa8(hd:d.ok)(er:∀mu,iB [ZI c,R (SS own),R (SS ls),R (gY hs),R (SS ws)] mu=!(Zp (d.pv (-mu)),mu++d.cl))(h:St mu b S t fs)(ht:t<=1000):
 ∃i gN D,IY (ZE X own ls hs ws b S (zI c) o8 mu)=!(.nx (ZE X own ls hs ws b S (zI c) D i))/\St i b S (t+1) gN/\gN.map Fr.u=qC (fs.map Fr.u) c d:=by
 let j:=aa4 (X:=X) (own:=own) (ls:=ls) (hs:=hs) (ws:=ws) (b:=b) (o8:=o8) (c:=c) h.h.head;have q:qC (fs.map Fr.u) c d=if ((c%8==0)&&decide ((-fs:Int)>1))=G then yP (fs.map Fr.u) else vy d (fs.map Fr.u):=by unfold qC;rw[ck]
 cases Q:((c%8==0)&&decide ((-fs:Int)>1)) with
 |true=>
  rw[Q]at j q;let h2:=(iP _ _▸Q).2;let z:=of_decide_eq_true h2
  match fs,h,z,j,q with
  |f::g::fs,h,z,j,q=>
   let(i,gN,F,N,W):=Yn h;show#[i,gN,o8,(lR j).trans F,N,W.trans ∅]
  |[f],h,z,j,q=>grind
  |[],h,z,j,q=>grind
 |false=>
  rw[Q]at j q
  match fs,h,j,q with
  |f::fs,h,j,q=>
   let(i,gN,D,F,N,W):=Yp hd er h ht;show#[i,gN,D,(lU j).trans F,N,W.trans ∅]
  |[],h,j,q=>show h.sh.elim
theorem Rf(ho:Sh own)(i:Sh ls)(hh:∀h∈hs,-h.1<=1000/\-h.2<=26/\FN.fn h.1):∀(cs:List Int),∃ds:List Dr,(∀d∈ds,d.ok)/\∀(X:PV)(b S t:Nat)(o7 o8:Option Lc)(mu:Mu)(fs:List Fr),St mu b S t fs->t+-cs<=1000->
 ∃j gN N z,eN (aC 7) IY (cs.map PV.int) (ZE X own ls hs ws b S o7 o8 mu)=!(.nx (ZE X own ls hs ws b S N z j))/\St j b S (t+-cs) gN/\gN.map Fr.u=uw (fs.map Fr.u) cs ds
 |[]=>#[[],λd q=>(by cases q),λX b S t o7 o8 mu fs h _=>#[mu,fs,o7,o8,O,h,O]]
 |c::cs=>by
  let(d,q,er):=adq c ho i hs ws hh;let(ds,D,ih):=Rf ho i hh cs;show#[d::ds,λx W=>?_,λX b S t o7 o8 mu fs h hl=>?_]
  . obtain rfl|W:=bP.mp W
    . show q
    . grind
  . simp only[c5]at hl;let(fN,F,q8,e1,e2,e3):=aa8 q er h ();let(Q,fs2,N,z,k1,k2,k3):=ih X b S (t+1) (zI c) q8 fN F e2 ();show#[Q,fs2,N,z,gw O e1 k1,?_,k3.trans (by rw[e3];rfl)];rw[show t+-(c::cs)=t+1+-cs by simp only[c5];omega];show k2
def Rg(ho:Sh own)(kl:Sh ls)(hh:∀h∈hs,-h.1<=1000/\-h.2<=26/\FN.fn h.1)(cs:List Int)(hc:-cs<=900):∃rs:Rows,rs.ok/\rs.dep<=11/\rs.cnt<=-cs/\∀mu,∃e7,sJ [.lst (cs.map PV.int),.lst (SS own),.lst (SS ls),.lst (gY hs),.lst (SS ws)] mu=!(.sh (.lst rs.pvs),e7):=by
 let(ds,CU,lp):=Rf ho kl hh cs;let(g1,g2,g3,g4):=N5 cs ds [([],.root)] CU #[λx hx=>(by cases hx),rfl,True.intro] () (by intro q;cases q);obtain⟨u,us,eu⟩:∃u us,uw [([],.root)] cs ds=u::us:=by
  cases h:uw [([],.root)] cs ds with
  |nil=>show absurd h g3
  |cons u us=>show#[u,us,rfl]
 rw[eu]at g1 g2 g4;let(k1,k2):=Jx us u g1 g2;let(r1,r2):=Ek () k1;show#[a8 (Bc (u::us)),r1,r2,?_,λmu=>?_]
 . rw[nD];have:ir [(([],.root):U_)]=0:=rfl;lia
 . let b:_:=-mu;let fN:Mu:=mu++[!(.lst [])];let gS:Mu:=fN++[!(.lst [.ptr b])];let oj:Mu:=gS++[!(.lst [.ptr (-fN)])];let f0:Fr:=#[b,-fN,[],.root];let X:PV:=.lst (cs.map PV.int);have H:Holds oj ((-gS,.lst [.ptr (-fN)])::(-fN,.lst [.ptr b])::(b,.lst [])::[]):=((Holds.push (L:=[]) #[rh,λx hx=>(by cases hx)] _).push _).push _;have st:St oj b (-gS) 0 [f0]:=#[H.perm ((List.Perm.swap _ _ _).cons _),λx hx=>(by
    rw[ga.mp hx];show#[λd hd=>(by cases hd),True.intro]),#[rfl,rfl],(by simp),λx hx=>(by
    rw[ga.mp hx];show cK _)]
   let(e7,gN,p7,p8,e1,e2,e3):=lp X b (-gS) 0 none none oj [f0] st ();obtain⟨f,fs,ef⟩:∃f fs,gN=f::fs:=by
    cases gN with
    |nil=>show e2.sh.elim
    |cons f fs=>show#[f,fs,rfl]
   subst ef;let(F,c1,c2,c3,c4):=Jy fs f e2.h.tail e2.fit e2.sh;have e4:(f::fs).map Fr.u=u::us:=e3.trans eu;rw[e4]at c4;rw[mR]at c1;have sC:fQ e7 40 (.ptr b)=.lst (a8 (Bc (u::us))).pvs:=by
    rw[<-c4,<-c3];show Ci (k:=38) c2.1 c1.head (c1.tail.tail.sub ?_) λd hd=>?_
    . show(oP _ _).trans (j2 _ _)
    . have:=(k1 d.r (by rw[<-c4];show dA.mpr #[d,hd,rfl])).2;lia
   show#[e7.map λ_=>none,?_];let A:Mu->Option Lc->Option Lc->Option Lc->Option Lc->Ev:=λm o5 o6 o7 o8=>#[[zS X,zL (SS own),zL (SS ls),zL (gY hs),zL (SS ws),o5,o6,o7,o8],m];show aO (Y:=A (e7.map λ_=>none) (zS (.ptr b)) (zS (.ptr (-gS))) p7 p8) ?_;show aH (Y':=A fN (zS (.ptr b)) none none none) rfl (aH (Y':=ZE X own ls hs ws b (-gS) none none oj) rfl (aH (Y':=ZE X own ls hs ws b (-gS) p7 p8 e7) (eO (xs:=cs.map PV.int) (Y1:=ZE X own ls hs ws b (-gS) none none oj) (dC (l:=.sh X) rfl rfl) e1) (cT (V9 (l:=.sh (.ptr b)) (Y1:=ZE X own ls hs ws b (-gS) p7 p8 e7) rfl sC))))
end
theorem Bd:∀ps:List PV,(∀p∈ps,f p p=!G)->uQ f ps ps=!G
 |[]=>λ_=>rfl
 |p::ps=>λh=>by show (f p p).bind _=_;rw[h p cf,cr,Bd ps λq i=>h q (dP _ i)];rfl
def mU(h:∀p∈ps,dH n p p=!G):dH (n+1) (ZB ps) (ZB ps)=!G:=by show (uQ (dH n) ps ps).map _=_;rw[Bd ps h];rw[mh];rfl
def jr(h:∀p∈ps,dH n p p=!G):dH (n+1) (R ps) (R ps)=!G:=by show (if -ps=-ps then uQ (dH n) ps ps else !M)=_;rw[aE O,Bd ps h]
mutual
theorem Rh:∀(p:PV)(n:Nat),di p=true->vo p<=n->dH n p p=!true
 |.non,n,_,h=>by obtain⟨m,rfl⟩:∃m,n=m+1:=#[n-1,by simp only[vo]at h;lia];rfl
 |.bl x,n,_,h=>by obtain⟨m,rfl⟩:∃m,n=m+1:=#[n-1,by simp only[vo]at h;lia];show some (x==x)=_;rw[mh]
 |.int x,n,_,h=>by obtain⟨m,rfl⟩:∃m,n=m+1:=#[n-1,by simp only[vo]at h;lia];show some (x==x)=_;rw[mh]
 |.str x,n,_,h=>by obtain⟨m,rfl⟩:∃m,n=m+1:=#[n-1,by simp only[vo]at h;lia];show some (x==x)=_;rw[mh]
 |.tup ps,n,f,h=>by simp only[vo]at h;obtain⟨m,rfl⟩:∃m,n=m+1:=#[n-1,()];show mU (a9 ps m (by simpa [di] using f) ())
 |.lst _,n,f,_=>by simp[di]at f
 |.dk _ _,n,f,_=>by simp[di]at f
 |.dt _ _,n,f,_=>by simp[di]at f
 |.obj _ _ _,n,f,_=>by simp[di]at f
 |.df _ _,n,f,_=>by simp[di]at f
 |.dtf _ _,n,f,_=>by simp[di]at f
 |.dx _ _ _,n,f,_=>by simp[di]at f
 |.ptr _,n,f,_=>by simp[di]at f
theorem a9:∀(ps:List PV)(n:Nat),cq ps=true->br ps<=n->∀p∈ps,dH n p p=!true
 |[],n,_,_,p,hp=>by cases hp
 |q::ps,n,f,h,p,hp=>by
  simp only[cq,iP]at f;simp only[br]at h;obtain e|hp:=bP.mp hp
  . rw[e];show Rh q n f.1 ()
  . show a9 ps n f.2 () p hp
end
def ig{f:PV->Prop}(h:f p)(t:∀q∈ps,f q):∀q∈p::ps,f q:=λq i=>by
 obtain rfl|i:=bP.mp i
 . show h
 . grind
def Ck{f:PV->Prop}:∀q∈([]:List PV),f q:=λq j=>by cases j
def jl(h:fl p)(j:20<=n):dH n p p=!G:=Rh p n h.1 (fx h.2 j)
mutual
theorem Yr:∀(r:ah)(n:Nat),r.ok->2*r.dep+22<=n->dH n r.pv r.pv=!true
 |.leaf w ps,n,ok,h=>by simp only[ah.dep]at h;obtain⟨m,rfl⟩:∃m,n=m+1:=#[n-1,()];show mU (ig (jl iZ ()) (a9 ps m ok.2.fls.1 (by have:=ok.2.fls.2;lia)))
 |.call b x as,n,ok,h=>by simp only[ah.dep]at h;obtain⟨m,rfl⟩:∃m,n=m+2:=#[n-2,()];show mU (ig (jl iZ ()) (ig (by let(x,e,_):=ok.1;rw[e];show jl iZ ()) (ig (jl iZ ()) (ig (jr (a9 as m (Gm ok.2.2.1).1 (by have:=(Gm ok.2.2.1).2;lia))) Ck))))
 |.wh e b,n,ok,h=>by simp only[ah.dep]at h;obtain⟨m,rfl⟩:∃m,n=m+2:=#[n-2,()];show mU (ig (jl iZ ()) (ig (jl ok.1.fl ()) (ig (jr (cE b m ok.2 ())) Ck)))
 |.iff e b c,n,ok,h=>by simp only[ah.dep]at h;obtain⟨m,rfl⟩:∃m,n=m+2:=#[n-2,()];show mU (ig (jl iZ ()) (ig (jl ok.1.fl ()) (ig (jr (cE b m ok.2.1 ())) (ig (jr (cE c m ok.2.2 ())) Ck))))
theorem cE:∀(rs:Rows)(n:Nat),rs.ok->2*rs.dep+20<=n->∀p∈rs.pvs,dH n p p=!true
 |.nil,n,_,_,p,hp=>by cases hp
 |.cons r rs,n,ok,h,p,hp=>by
  simp only[Rows.dep]at h;obtain e|hp:=bP.mp hp
  . rw[e];show Yr r n ok.1 ()
  . show cE rs n ok.2 () p hp
end
structure Pg.fine(P:Pg):Prop where
 ok:P.ok
 bx:fls P.boxes
 gr:fls P.grants
 rk:∀f∈P.fns,fl f.rank
 dd:P.rows.dep<=11
 fd:∀f∈P.fns,f.rows.dep<=11
 mn:("main" : Str)∉P.fns.map Fn.name
def V2(f:α->β)(xs:List α)(lo hi st:Option Int):pb (xs.map f) lo hi st=(pb xs lo hi st).map f:=by unfold pb;rw[ck,map_filterMap];grind
def V3(xs:List α)(N:0<=a)(j:0<n):(-(pb xs (!a) J (!n)):Int)*n<=-xs+n-1:=by
 have l:-(pb xs (!a) J (!n))<=-(sliceRange (sliceBounds (!a) J (!n) xs.length).1 (sliceBounds (!a) J (!n) xs.length).2.1 (sliceBounds (!a) J (!n) xs.length).2.2):=length_filterMap_le _ _;generalize (-(pb xs (!a) J (!n)))=z at l ⊢;have q:(sliceBounds (!a) J (!n) (-xs)).2.1=(-xs:Int):=by show (if n>0 then (-xs:Int) else -1)=_;rw[aE j]
 have D:(sliceBounds (!a) J (!n) (-xs)).2.2=n:=O;have F:0<=(sliceBounds (!a) J (!n) (-xs)).1:=by show 0<=(let i:=if a<0 then a+-xs else a;if n>0 then max 0 (min i (-xs)) else max (-1) (min i ((-xs:Int)-1)));rw[aE j];lia
 unfold sliceRange at l;rw[ck,g9,q,D,aE j]at l;generalize (sliceBounds (!a) J (!n) (-xs)).1=s at F l
 split at l
 . let h1:=Int.ediv_mul_le ((-xs:Int)-s+n-1) (b:=n) ();have h2:0<=((-xs:Int)-s+n-1)/n:=Int.ediv_nonneg () ();have Q:(z:Int)*n<=((-xs:Int)-s+n-1)/n*n:=Int.mul_le_mul_of_nonneg_right () ();lia
 . have:(z:Int)=0:=()
   rw[this,Int.zero_mul];lia
def oV{α:Type}(xs:List α)(lo hi:Option Int):List α:=(xs.drop (HT.sIx (-xs) 0 lo)).take (HT.sIx (-xs) (-xs) hi-HT.sIx (-xs) 0 lo)
def Cm(f:α->PV)(xs:List α)(lo hi:Option Int):rm (xs.map f) lo hi=(oV xs lo hi).map f:=by unfold rm oV;grind
def N6(xs:List α)(lo hi:Option Int):-(oV xs lo hi)<=-xs:=by unfold oV;rw[iS,rj];lia
def Em{lo hi:Option Int}(h:x∈oV xs lo hi):x∈xs:=mem_of_mem_drop (mem_of_mem_take h)
abbrev HE(c:Int)(nm:List Str)(acc:List PV)(o3 o4:Option Lc)(mu:Mu):Ev:=#[[zI c,zL (SS nm),zO acc,o3,o4],mu]
def BM(j:Int)(z:0<=j)(h:j<4):∃q:Int,0<q/\q<10000/\qG (R [ZI 75,ZI 375,ZI 1875,ZI 9375]) (ZI j)=zI q:=by
 obtain rfl|rfl|rfl|rfl:=(by omega:j=0\/j=1\/j=2\/j=3)
 . show#[75,by decide,by decide,O]
 . show#[375,by decide,by decide,O]
 . show#[1875,by decide,by decide,O]
 . show#[9375,by decide,by decide,O]
def nl:∀n,PV.lst ps≠ZA n:=λn h=>by cases h
def Cp{lo hi:OF}(h1:f Y=!(l,Y1))(i:l.pv=R ps)(h2:lo Y1=!(a,Y2))(j:hi Y2=!(b,Y3)):mF f lo hi Y=!(Zs (R (rm ps a b)),Y3):=by unfold mF;rw[h1,cr,h2,cr,j,cr,i]
def oW(h:f Y=!(l,Y1))(j:l.pv=ZI i):cM f Y=!(!i,Y1):=by unfold cM;rw[h,cr,j]
def aba(q:0<=i)(h1:i< -ns):∃c,ns[i.toNat]?=!c/\qG (R (SS ns)) (ZI i)=zT c:=by let(x,e,j):=uT q (by rw[tB];show h1);rw[dS]at j;let(c,z,rfl):=Option.map_eq_some_iff.mp j;show#[c,z,by show (fO (SS ns) i).map _=_;rw[e];rfl]
def I_{α:Type}(xs:List α)(a b:Nat):-(oV xs (!(a:Nat)) (!((a+b:Nat):Int)))<=b:=by show fx (List.length_take_le ..) ?_;rw[show HT.sIx _ 0 (!(a:Nat))=_ from HT.sIx_nat (-xs) 0 a,show HT.sIx _ (-xs) (!((a+b:Nat):Int))=_ from HT.sIx_nat ..];lia
def afh{α:Type}(xs:List α)(j:Nat){z:Int}(h0:0<=z)(h4:z<5):-(oV xs (!(10+4*(j:Int))) (!(10+4*(j:Int)+z)))<=4:=by let(y,rfl):=Int.eq_ofNat_of_zero_le h0;show fx (I_ xs (10+4*j) y) (Nat.le_of_lt_succ (Int.ofNat_lt.mp h4))
def Ys(h0:0<=j)(h1:j<4)(hl:-nm=26):∃h:Str×List Str,nm[(6+j).toNat]?=!h.1/\(-h.2<=4/\∀x∈h.2,x∈nm)/\∃z:Int,∀(acc:List PV)(o4:Option Lc)(mu:Mu),-acc<=100->A9 (HE c nm acc (zI j) o4 mu)=!(.nx (HE c nm (acc++[ZB [ZH h.1,R (SS h.2)]]) (zI j) (zI z) mu)):=by
 let(q,F,hq1,N):=BM j h0 h1;let(x,hx,ex):=aba (ns:=nm) (i:=6+j) () ();let z:Int:=c/q%5;let xs:_:=oV nm (!(10+4*j)) (!(10+4*j+z));show#[(x,xs),hx,#[by
  obtain⟨y,rfl⟩:∃y:Nat,j=y:=#[j.toNat,()];show afh nm y () (),λy W=>Em W],z,λacc o4 mu ha=>?_]
 let D:_:=HE c nm acc (zI j) (zI z) mu;show aH (bu (bC (bC O (dG O O O O nl N) (gU F ())) O ()) O O) ?_;show pR O (dm (ls:=[Zp (ZH x),Zs (R (SS xs))]) (aA (dG O O O O nl ex) (aA (Y1:=D) ?_ O)) O O) O O () O;have Q:au bf vfk (aa 4) D=!(Zp (ZI (10+4*j+z)),D):=bC (bC O () O) O O;show(Cp O O () (oW Q O)).trans ?_;rw[Cm]
theorem N7(hl:-nm=26):∀(js:List Int),(∀j∈js,0<=j/\j<4)->∃hs:Hd,hs.map (λh=>!h.1)=js.map (λj=>nm[(6+j).toNat]?)/\(∀h∈hs,h.1∈nm/\-h.2<=4/\∀x∈h.2,x∈nm)/\∀(acc:List PV)(o3 o4:Option Lc)(mu:Mu),-acc+-js<=100->∃p3 p4,eN (aC 3) A9 (js.map PV.int) (HE c nm acc o3 o4 mu)=!(.nx (HE c nm (acc++gY hs) p3 p4 mu))
 |[],_=>#[[],rfl,λh hh=>(by cases hh),λacc o3 o4 mu _=>#[o3,o4,by simp[eN]]]
 |j::js,h=>by
  let(h0,h1):=h j cf;let(d,Jc,x9,z,e1):=Ys h0 h1 hl;let(hs,kF,hh,ih):=N7 hl js λx hx=>h x (dP _ hx);show#[d::hs,by rw[fr,fr,kF,Jc],λx hx=>?_,λacc o3 o4 mu ha=>?_]
  . obtain rfl|hx:=bP.mp hx
    . show#[fL Jc,x9]
    . show hh x hx
  . simp only[c5]at ha;let(p3,p4,e2):=ih (acc++[.tup [.str d.1,.lst (SS d.2)]]) (zI j) (zI z) mu (by rw[eI];simp only[c5,f_];lia);show#[p3,p4,gw rfl (e1 acc o4 mu ()) (e2.trans ?_)];simp[gY]
def Yt(c:Int)(hl:-nm=26)(hx:∀i j:Nat,6<=i->i<j->j<10->nm[i]?≠nm[j]?)(hm:∀i:Nat,6<=i->i<10->nm[i]?≠!("main" : Str)):∃hs:Hd,-hs<=4/\(hs.map (·.1)).Nodup/\("main" : Str)∉hs.map (·.1)/\(∀h∈hs,h.1∈nm/\-h.2<=4/\∀x∈h.2,x∈nm)/\∀mu,vd [ZI c,R (SS nm)] mu=!(Zs (R (gY hs)),mu):=by
 let(hs,l1,hh,lp):=N7 hl ((range (c/15%5).toNat).map λi:Nat=>(0+(i:Int))) λj hj=>by let(i,hi,rfl):=dA.mp hj;have:=mem_range.mp hi;lia
 let l2:=gT length l1;simp only[ck,g9]at l2;have nd:(hs.map (·.1)).Nodup:=by
  have n1:(hs.map λh=>!h.1).Nodup:=by rw[l1,fF];show pairwise_map.mpr (List.Pairwise.imp_of_mem (λ{a b} _ hb l q=>?_) pairwise_lt_range);have:=mem_range.mp hb;show hx (6+(0+(a:Int))).toNat (6+(0+(b:Int))).toNat () () () q
  show pairwise_map.mpr ((pairwise_map.mp n1).imp λq e=>q (gT some e))
 have F:("main" : Str)∉hs.map (·.1):=λq=>by let(x,D,z):=dA.mp q;have Q:some ("main" : Str)∈hs.map λh=>!h.1:=dA.mpr #[x,D,by rw[z]];rw[l1,fF]at Q;let(i,hi,e):=dA.mp Q;have:=mem_range.mp hi;show hm (6+(0+(i:Int))).toNat () () e
 show#[hs,(),nd,F,hh,λmu=>?_];let(N,W,e):=lp [] J J mu (by rw[ck,g9];simp only[f_];lia);rw[<-Eh,kT]at e;show aO (Y:=#[[zI c,zL (SS nm),J,N,W],mu]) ?_;show aH O (aH (eO ?_ e) O);show mY (aA (bC (bC O O (gU () ())) O (dI ())) O) O () ()
abbrev rk:List PV:=[.non,ZH "low",ZH "high"]
def m5(a:Int):PV:=(rk[(a%3).toNat]?).getD .non
def BN(a:Int):qG (R rk) (ZI (a%3))=zS (m5 a)/\fl (m5 a)/\vo (m5 a)<=1:=by
 let j:=kA a (b:=3) ();let h1:=lS a (b:=3) ();unfold m5;generalize a%3=r at j h1;obtain rfl|rfl|rfl:=(by omega:r=0\/r=1\/r=2)
 . show#[O,Nk,cK _]
 . show#[O,iZ,cK _]
 . show#[O,iZ,cK _]
def V4:fl (.tup [.str x,.int i,m5 a]):=by
 let h:=(BN a).2;show#[?_,?_]
 . simp[di,cq,h.1.1]
 . simp only[vo,br];lia
theorem Je:∀{l:List PV},(∀p∈l,fl p)->fls l
 |[],_=>uD
 |p::l,h=>iR (h p cf) (Je λq j=>h q (dP _ j))
abbrev xq(t:Str×PV×PV):PV:=ZB [ZH t.1,t.2.1,t.2.2]
def Jn(P:Pg):Prop:=∃ts:List (Str×PV×PV),P.boxes=ts.map xq/\-ts<=60/\(∀t∈ts,-t.1<=100)/\∀x,FN.bx x->(∃t∈ts,t.1=x)\/∃f∈P.fns,x=f.name\/ZB [ZH x,.non]∈f.params
structure Zu(m:Nat)(f:Fn):Prop where
 ok:f.rows.ok
 dp:f.rows.dep<=11
 ct:f.rows.cnt*m<=44
 pm:∃xs:List Str,f.params=xs.map (λx=>.tup [.str x,.non])/\-xs<=4/\Sh xs
 rk:fl f.rank
def JA{xs:List Int}(hx:-xs<=40)(l4:-hs<=4)(hh:∀h∈hs,-h.1<=100/\-h.2<=4/\Sh h.2/\FN.fn h.1)(ho:Sh own)(kl:Sh ls)(h0:0<=j):∃rs:Rows,(rs.ok/\rs.dep<=11/\rs.cnt*(-hs+1)<=44)/\∃T:Mu->Mu,∀mu,sJ [.lst (pb (xs.map λx=>PV.int (x%1000000007)) (!j) none (!(-(gY hs)+1))),.lst (SS own),.lst (SS ls),.lst (gY hs),.lst [.str "somebody"]] mu=!(.sh (.lst rs.pvs),T mu):=by
 have ln:(-(gY hs):Int)=-hs:=by rw[ck]
 let hl:=V3 xs (n:=-(gY hs)+1) h0 ();rw[V2];generalize pb xs (!j) none (!(-(gY hs)+1))=c2 at hl;have l2:-c2*(-hs+1)<=44:=by
  have e:((-c2*(-hs+1):Nat):Int)=(-c2:Int)*(-(gY hs)+1):=by rw[ln,Int.natCast_mul];rfl
  lia
 have l3:-c2<=-c2*(-hs+1):=Nat.le_mul_of_pos_right _ ();let(rs,r1,r2,r4,er):=Rg (ws:=["somebody"]) ho kl (λh hm=>#[by have:=(hh h hm).1;lia,by have:=(hh h hm).2.1;lia,(hh h hm).2.2.2]) (c2.map λx=>x%1000000007) (by rw[ck];lia);rw[ck]at r4;rw[fF]at er;show#[rs,#[r1,r2,fx (Nat.mul_le_mul_right _ r4) l2],Classical.axiomOfChoice er]
def aen{α:Type}(xs:List α):-(oV xs (!2) (!42))<=40:=I_ xs 2 40
theorem Rp:∀fs:List Fn,(∀f∈fs,f.rows.cnt*m<=44)->d8 fs*m<=44*-fs
 |[]=>λ_=>by simp[d8]
 |f::fs=>λh=>by let h1:=h f cf;let h2:=Rp fs λg i=>h g (dP _ i);simp only[d8,c5];lia
def zdJ:td (R (xs.map e)) a b=zO ((oV xs a b).map e):=by show some (Lc.own (R _))=_;rw[Cm]
local macro_rules | `(tactic| walk_at "x")=>`(tactic| first | exact(BN _).1 | exact zdJ)
local macro_rules | `(tactic| walk_at "y")=>`(tactic| first
 | (with_reducible apply FV); walk_at "e"; exact rfl
 | (with_reducible apply YE); walk_at "e"; exact rfl; walk_at "e"; walk_at "e"; walk_at "e"; omega
 | (with_reducible apply AJ); walk_at "e"; walk_at "n"; (intro _; apply_assumption)
 | (with_reducible apply YD); exact rfl; assumption; walk_at "n")
local macro_rules | `(tactic| walk_at "l")=>`(tactic| (simp only[eI,ck,List.length_zipIdx,c5,f_]at *; omega))
omit [FN] in
def Tg(ns:List Int)(hl:-ns<=63):∃(F:FN)(P:Pg),P.fine/\(∀n,FN.fn n->∃f∈P.fns,f.name=n)/\Jn P/\∀mu,∃e7,nq [.lst (ns.map PV.int)] mu=!(.sh P.pv,e7):=by
 suffices h:∃r,(∃(F:FN)(P:Pg),P.fine/\(∀n,FN.fn n->∃f∈P.fns,f.name=n)/\Jn P/\r=.sh P.pv)/\∀mu,∃e7,nq [.lst (ns.map PV.int)] mu=some (r,e7) by let(_,(F,P,h1,h2,h3,rfl),e):=h;show#[F,P,h1,h2,h3,e]
 have F0:FN:=#[λ_=>True,λ_=>True,λ_ h=>h];let(c,_,ec):=cell_eq (ns:=ns) (k:=0) ();let(c1,_,ec1):=cell_eq (ns:=ns) (k:=1) ();let(nm,BO,tN,hnx,hmx,en):=Yk (c:=c1) (n:=26) () ();have BO:-nm=26:=BO;let(hs,lhs,hnd,D2,xt,eh):=Yt c BO hnx hmx;clear F0;let bl:_:=oV nm none (!(c%5))++oV nm (!4) (!(4+c/5%3));let F:FN:=#[λn=>∃h∈hs,h.1=n,λx=>x∈bl\/∃h∈hs,x=h.1\/x∈h.2,λn ⟨h,hm,e⟩=>.inr #[h,hm,.inl e.symm]];have hh:∀h∈hs,-h.1<=100/\-h.2<=4/\Sh h.2/\F.fn h.1:=λh hm=>#[tN h.1 (xt h hm).1,(xt h hm).2.1,λx hx=>#[tN x ((xt h hm).2.2 x hx),.inr #[h,hm,.inr hx]],h,hm,rfl];let lb:=N6 nm none (!(c%5));let ll:=N6 nm (!4) (!(4+c/5%3));have mE:∀h∈hs,i8 h.1:=λh hm=>#[tN h.1 (xt h hm).1,.inr #[h,hm,.inl rfl]];have BQ:Sh (oV nm none (!(c%5))):=λx hx=>#[tN x (Em hx),.inl (gW _ hx)];have BS:Sh (oV nm (!4) (!(4+c/5%3))):=λx hx=>#[tN x (Em hx),.inl (gy _ hx)];let lx:=aen ns;show YF λZI K=>?_
 walk_at "f"
 show i7 (λv i w n=>∃fs:List Fn,fs.map Fn.name=(hs.take i).map (·.1)/\fs.map Fn.params=(hs.take i).map (λh=>h.2.map λx=>.tup [.str x,.non])/\(∀f∈fs,Zu (-hs+1) f)/\∃(l8 l9:Lc)(tS t0 t4:Option Lc),l8.pv=.lst ((oV ns (!2) (!42)).map λx=>PV.int (x%1000000007))/\l9.pv=.lst [.str "somebody"]/\w=(((((v.set 8 (!l8)).set 9 (!l9)).set 10 (zO (fs.map Fn.pv))).set 11 tS).set 12 t0).set 13 t4) ?_ ?_ ?_
 . show#[[],rfl,rfl,λf hf=>(by cases hf),_,_,_,_,_,rfl,rfl,rfl]
 . rintro i x _ m N hx bq ⟨fs,n1,n2,fi,l8,l9,tS,t0,t4,h8,h9,rfl⟩;obtain⟨h,hy,rfl⟩:∃h,hs[i]?=!h/\x=PV.tup [.int (i:Nat),.tup [.str h.1,.lst (SS h.2)]]:=by rw[dS,List.getElem?_zipIdx,dS,Option.map_map,Option.map_map]at hx;let(h,hy,rfl):=de hx;show#[h,hy,by simp]
   let(g1,g2,g3,_):=hh h (fL hy);let(rs,(r1,r2,r4),T,eT):=JA (own:=oV nm none (!(c%5))++[h.1]++h.2) (ls:=oV nm (!4) (!(4+c/5%3))) (j:=(i:Nat)) lx lhs hh (Gu (Gu BQ (xO (mE h (fL hy)) Ay)) g3) BS ();rw[show SS (oV nm none (!(c%5))++[h.1]++h.2)=List.map PV.str (oV nm none (!(c%5)))++[PV.str h.1]++SS h.2 by simp]at eT;have lf:-fs<=4:=by have:=congrArg List.length n1;rw[ck,ck,iS]at this;lia
   walk_at "f"
   show bq _ _ #[fs++[#[h.1,m5 (c+i),h.2.map λx=>.tup [.str x,.non],rs]],?_,?_,λf hf=>?_,.sh _,.sh _,zI (i:Nat),zS (.tup [.str h.1,.lst (SS h.2)]),zL rs.pvs,rfl,rfl,?_]
   . rw[List.take_add_one,hy,d0,d0,n1];rfl
   . rw[List.take_add_one,hy,d0,d0,n2];rfl
   . obtain hf|hf:=dy.mp hf
     . show fi f hf
     . rw[ga.mp hf];show#[r1,r2,r4,#[h.2,rfl,g2,g3],(BN _).2.1]
   . rw[d0];rfl
 . rintro _ m ⟨fs,n1,n2,fi,l8,l9,tS,t0,t4,h8,h9,rfl⟩;rw[ck,List.length_zipIdx,ck,List.take_length]at n1 n2;let(rs,(r1,r2,r4),T,eT):=JA (own:=oV nm none (!(c%5))) (ls:=oV nm (!4) (!(4+c/5%3))) (j:=-(gY hs)) lx lhs hh BQ BS ()
   walk_at "f"
   let lf:=congrArg List.length n1;rw[ck,ck]at lf;let hfc:=Rp fs λf hf=>(fi f hf).ct;have hct:d8 fs+rs.cnt<=44:=by show Nat.le_of_mul_le_mul_right (c:=-hs+1) ?_ ();rw[Nat.add_mul];lia
   have hmem:∀n,n∈fs.map Fn.name ↔ n∈hs.map (·.1):=λn=>by rw[n1]
   show K _ _ #[F,#[_,_,fs,rs],#[#[λf hf=>#[(fi f hf).ok,by have:=(fi f hf).dp;lia],r1,by show rs.dep<=30;lia,hct,λf hf=>(fi f hf).pm,by show -fs<=4;lia,by show (fs.map Fn.name).Nodup;rw[n1];show hnd,λf hf=>?_],Je λp hp=>?_,#[rfl,by show (2:Nat)<=20;decide],λf hf=>(fi f hf).rk,r2,λf hf=>(fi f hf).dp,λq=>D2 ((hmem _).mp q)],λn hn=>?_,?_,rfl]
   . let(h,hm,e):=dA.mp ((hmem _).mp (List.mem_map_of_mem hf));rw[<-e];show(hh h hm).1
   . obtain hp|hp:=dy.mp hp
     . let(a,ha,rfl):=dA.mp hp;let(x,_,e):=dA.mp (List.fst_mem_of_mem_zipIdx ha);rw[<-e];show V4
     . let(a,ha,rfl):=dA.mp hp;show V4
   . let(h,hm,rfl):=hn;let(f,hf,e):=dA.mp ((hmem _).mpr (dA.mpr #[h,hm,rfl]));show#[f,hf,e]
   . show#[(oV nm none (!(c%5))).zipIdx.map (λa=>(a.1,.int 0,m5 (c/3072+a.2)))++(oV nm (!4) (!(4+c/5%3))).map λa=>(a,.int (1+c/48%8),m5 (c/9216)),?_,?_,λt ht=>?_,?_]
     . show _++_=_;rw[d0,fF,fF,List.zipIdx_map,fF];rfl
     . rw[eI,ck,ck,List.length_zipIdx];lia
     . obtain h|h:=dy.mp ht
       . let(a,ha,rfl):=dA.mp h;show(BQ _ (List.fst_mem_of_mem_zipIdx ha)).1
       . let(a,ha,rfl):=dA.mp h;show(BS _ ha).1
     . rintro x (hx|⟨h,hm,hx⟩)
       . show .inl ?_;obtain hx|hx:=dy.mp hx
         . let(i,hi):=List.getElem?_of_mem hx;show#[_,gW _ (List.mem_map_of_mem (List.mem_zipIdx_iff_getElem?.mpr hi:(x,i)∈_)),rfl]
         . show#[_,gy _ (List.mem_map_of_mem hx),rfl]
       . let(i,hi):=List.getElem?_of_mem hm;let e1:=congrArg (·[i]?) n1;let e2:=congrArg (·[i]?) n2;simp only[dS,hi,re]at e1 e2;let(f,hf,e1):=de e1;rw[hf]at e2;let e2:=fw e2;show .inr #[f,fL hf,hx.imp (λe=>e.trans e1.symm) λq=>?_];rw[e2];show dA.mpr #[x,q,rfl]
mutual
theorem ah.dep_pos:∀r:ah,1<=r.dep
 |.leaf _ _=>cK _
 |.call _ _ _=>cK _
 |.wh _ b=>by simp only[ah.dep];lia
 |.iff _ b c=>by simp only[ah.dep];lia
end
theorem xw(h:∀r:ah,r.dep<=2*m+2->r.bl<3*2 ^ m):∀rs:Rows,rs.dep<=2*m+3->rs.bl<3*2 ^ m
 |.nil,_=>Nat.mul_pos () (Nat.two_pow_pos m)
 |.cons r rs,j=>Nat.max_lt.mpr #[h r (Nat.le_of_succ_le_succ (fx (Nat.le_max_left ..) j)),xw h rs (fx (Nat.le_max_right ..) j)]
theorem xy:∀(m:Nat)(r:ah),r.dep<=2*m+2->r.bl<3*2 ^ m
 |m,.leaf _ _,_=>fT (by decide:1<3) (Nat.le_mul_of_pos_right 3 (Nat.two_pow_pos m))
 |m,.call _ _ _,_=>fT (by decide:2<3) (Nat.le_mul_of_pos_right 3 (Nat.two_pow_pos m))
 |m,.wh _ _,_=>fT (by decide:1<3) (Nat.le_mul_of_pos_right 3 (Nat.two_pow_pos m))
 |0,.iff _ b c,j=>by
  have F:b.bl=0:=by
   cases b with
   |nil=>rfl
   |cons r rs=>cases r<;>show absurd j (by simp only[ah.dep,Rows.dep];lia)
  have D:c.bl=0:=by
   cases c with
   |nil=>rfl
   |cons r rs=>cases r<;>show absurd j (by simp only[ah.dep,Rows.dep];lia)
  show 1+b.bl+c.bl<3;lia
 |m+1,.iff _ b c,j=>by let j:=Nat.le_of_succ_le_succ j;let h1:=xw (xy m) b (fx (Nat.le_max_left ..) j);let h2:=xw (xy m) c (fx (Nat.le_max_right ..) j);show 1+b.bl+c.bl<3*(2 ^ m*2);lia
def JB{r:ah}(h:r.dep<=10):r.bl<=47:=Nat.le_of_lt_succ (xy 4 r h)
mutual
theorem ah.subs:∀r:ah,r.ok->∀x∈r.rws,x.ok/\x.dep<=r.dep
 |.leaf w ps=>λok x i=>by rw[ga.mp i];show#[ok,cK _]
 |.call b n z=>λok x i=>by rw[ga.mp i];show#[ok,cK _]
 |.wh e b=>λok x i=>by
  obtain h|h:=bP.mp i
  . grind
  . let(j,q):=Rows.subs b ok.2 x h;show#[j,by simp only[ah.dep];lia]
 |.iff e b c=>λok x i=>by
  obtain h|h:=bP.mp i
  . grind
  . obtain h|h:=dy.mp h
    . let(j,q):=Rows.subs b ok.2.1 x h;show#[j,by simp only[ah.dep];lia]
    . let(j,q):=Rows.subs c ok.2.2 x h;show#[j,by simp only[ah.dep];lia]
theorem Rows.subs:∀rs:Rows,rs.ok->∀x∈rs.rws,x.ok/\x.dep+1<=rs.dep
 |.nil=>λ_ x i=>by cases i
 |.cons r rs=>λok x i=>by
  simp only[Rows.dep];obtain h|h:=dy.mp i
  . let(j,q):=ah.subs r ok.1 x h;show#[j,()]
  . let(j,q):=Rows.subs rs ok.2 x h;show#[j,()]
end
theorem N8:∀fs:List Fn,(∀f∈fs,f.rows.ok/\f.rows.dep<=11)->∀x∈lN fs,x.ok/\x.dep<=10
 |[]=>λ_ x i=>by cases i
 |f::fs=>λh x i=>by
  obtain i|i:=dy.mp i
  . let(h1,h2):=h f cf;let(q,z):=Rows.subs f.rows h1 x i;grind
  . show N8 fs (λg j=>h g (dP _ j)) x i
def Eo{P:Pg}(h:P.fine):∀x∈P.rws,x.ok/\x.dep<=10:=λx j=>by
 obtain j|j:=dy.mp j
 . show N8 P.fns (λf q=>#[(h.ok.fn f q).1,h.fd f q]) x j
 . let(z,D):=Rows.subs P.rows h.ok.rw x j;have:=h.dd;grind
abbrev BU(ss:List Str):List PV:=(pU (uX ss)).map PV.str
theorem Jz:∀j:List Str,BJ (j.map PV.str)=!j
 |[]=>rfl
 |x::j=>by show (BJ (j.map PV.str)).map _=_;rw[Jz j];rfl
def BY(h:f Y=!(l,Y1))(D:l.pv=R (c7 ss))(j:-ss<4000):rT f Y=!(Zs (R (BU ss)),Y1):=by unfold rT;rw[h,cr,D];show ((BJ (ss.map PV.str)).bind _)=_;rw[Jz,cr,aE j]
def Yu(h:kg es k r):k+r.cnt<=-es:=by let(w,D,bl,((q,j,e,z,_),_)):=h;rw[e,eI,eI,ah.es_len];lia
structure ol(P:Pg)(k:Nat)(r:ah):Prop where
 sp:kg P.es k r
 ok:r.ok
 dp:r.dep<=10
def abd(h:P.fine)(j:P.rws[k]?=!r):ol P k r:=by let(z,q):=Eo h r (fL j);show#[Yj P k r j,z,q]
def yQ(h:P.fine)(H:ol P k r):k+r.cnt<=256:=by let h1:=Yu H.sp;let h2:=es_len P;let j:=h.ok.ct;lia
theorem V7:∀j:List Str,-(uX j)<=-j
 |[]=>cK _
 |x::j=>by have:=V7 j;unfold uX;split<;>simp only[c5]<;>lia
def JE(ss:List Str):-(BU ss)<=-ss:=by rw[ck,uf.length_eq];show V7 ss
def Hy:x∈pU (uX a) ↔ x∈a:=by rw[uf.mem_iff,Am]
theorem yR{α:Type}(i:Ev->Prop)(q:∀Y,i Y->Y.mu=mu)(g r:α->PV):∀(l:List α)(Y:Ev)(acc:List PV),i Y->-acc+-l<=100000->(∀x∈l,∀Y,i Y->∃Y1 y Y2,b (g x) Y=!Y1/\te Y1=!(y,Y2)/\y.pv=r x/\i Y2)->dF b bB te (l.map g) Y acc=!(acc++l.map r,mu)
 |[]=>λY acc h _ _=>by simp[dF,q Y h]
 |x::l=>λY acc h j hs=>by simp only[c5]at j;let(Y1,y,Y2,D,F,N,h2):=hs x cf Y h;show fY D F () ((yR i q g r l Y2 (acc++[y.pv]) h2 ∅ λz j=>hs z (dP _ j)).trans ?_);rw[N];simp
def ww{α:Type}{g r:α->PV}{l:List α}(h:f Y=!(L,Y1))(q:bJ L.pv=!(l.map g))(F:-l<=100000)(i:(ie c6 Y1).vs=vs)(D:nT 1 c6 (ie c6 Y1)=#[J::lE,Y1.mu])
 (z:∀x∈l,te #[zS (g x)::lE,Y1.mu]=!(Zp (r x),#[zS (g x)::lE,Y1.mu])):bU (dh f bJ) 1 c6 (aC 0) bB te Y=!(Zs (R (l.map r)),#[vs,Y1.mu]):=by
 let c:=yR (b:=aC 0) (λY=>∃o,Y=#[o::lE,Y1.mu]) (λY ⟨o,e⟩=>by rw[e]) g r l #[J::lE,Y1.mu] [] #[_,O] ∅ λx j Y ⟨o,e⟩=>#[_,_,_,by rw[e];rfl,z x j,O,_,O];rw[<-i];show eF (dC h q) ∅
def Th{α:Type}{j q r:α->PV}{l:List α}(h:f Y=!(L,Y1))(F:L.pv=R (l.map λx=>ZB [j x,q x]))(hz:-l<=100000)(N:(ie c6 Y1).vs=vs)(W:nT 2 c6 (ie c6 Y1)=#[J::J::lE,Y1.mu])
 (D:∀x∈l,te #[zS (j x)::zS (q x)::lE,Y1.mu]=!(Zp (r x),#[zS (j x)::zS (q x)::lE,Y1.mu])):bU (dh f bJ) 2 c6 (fC 2 (aW (aC 0) (aW (aC 1) fu))) bB te Y=!(Zs (R (l.map r)),#[vs,Y1.mu]):=by
 let c:=yR (b:=fC 2 Go) (λY=>∃o p,Y=#[o::p::lE,Y1.mu]) (λY ⟨o,p,e⟩=>by rw[e]) (λx=>ZB [j x,q x]) r l #[J::J::lE,Y1.mu] [] #[_,_,O] ∅ λx z Y ⟨o,p,e⟩=>#[_,_,_,by rw[e];rfl,D x z,O,_,_,O];rw[<-N];show eF (dC h (by rw[F];rfl)) ∅
def Hz(h:-a+-b<=100000):bf (R a) (R b)=zO (a++b):=aE h
def Be(h:-a+-b<=100000):bf (ZH a) (ZH b)=zT (a++b):=aE h
abbrev jc(w:Str×Str):PV:=ZB [ZH w.1,ZH w.2]
def Yv(h:Rd n p a):∀(f:Nat)(mu:Mu),n<=f->-a<=100->∃ws:List (Str×Str),ws.map (·.2)=a/\ni f [p] mu=!(.own (.lst (ws.map jc)),mu):=by
 induction h with
 |num n i=>
  intro f mu hf _;obtain⟨f,rfl⟩:∃k,f=k+1:=#[f-1,()];show#[[],rfl,aO (Y:=E1 (.tup [.str "num",.int i]) mu) ?_];show d7 (bw w0) () rfl
 |box n x=>
  intro f mu hf _;obtain⟨f,rfl⟩:∃k,f=k+1:=#[f-1,()];show#[[("box",x)],rfl,aO (Y:=E1 (.tup [.str "box",.str x]) mu) ?_];show(bG (bw w0) ()).trans (d7 (bw w0) () rfl)
 | @at_ n p a x h ih=>
  intro f mu hf hl;obtain⟨f,rfl⟩:∃k,f=k+1:=#[f-1,()];simp only[c5]at hl;let(ws,e1,e2):=ih f mu () ();let el:=congrArg List.length e1;rw[ck]at el;show#[("list",x)::ws,by rw[fr,e1],aO (Y:=E1 (.tup [.str "@",.str x,p]) mu) ?_];show(bG (bw w0) ()).trans ((bG (bw w0) ()).trans (d7 (bw w0) () ?_));show cT (dj (p:=.lst [jc ("list",x)]) rfl rfl (aR rfl rfl rfl rfl e2) rfl (Hz (by rw[ck];simp only[c5,f_];lia)))
 | @op n s p q a b hs h g ih jh=>
  intro f mu hf hl;obtain⟨f,rfl⟩:∃k,f=k+1:=#[f-1,()];rw[eI]at hl;let(ws,e1,e2):=ih f mu () ();let(us,e3,e4):=jh f mu () ();let el:=congrArg List.length e1;let zt:=congrArg List.length e3;rw[ck]at el zt;show#[ws++us,by rw[d0,e1,e3],aO (Y:=E1 (.tup [.str s,p,q]) mu) ?_];rw[d0];show(bG (bw w0) hs.1).trans ((bG (bw w0) hs.2.1).trans ((bG (bw w0) hs.2.2).trans ?_));show cT (dj (aR rfl rfl rfl rfl e2) rfl (aR rfl rfl rfl rfl e4) rfl (Hz (by rw[ck,ck];lia)))
def Xa(p:PV)(a:List Str):Prop:=∃n,Rd n p a/\n<=15/\-a<=9/\Sh a
open Classical in
def zA(p:PV):List Str:=if h:∃a,Xa p a then Classical.choose h else []
def xP(h:XG p):Xa p (zA p):=by let(n,a,h):=h;have h:∃a,Xa p a:=#[a,n,h];unfold zA;grind
abbrev xz(p:PV):List Str:=pU (uX (zA p))
def Rq(p:PV):-(xz p)<=-(zA p):=by rw[uf.length_eq];show V7 _
def Py(h:XG p)(mu:Mu):yL [p] mu=!(Zs (R (c7 (xz p))),mu):=by let(n,h1,h2,z,D):=xP h;let(ws,i,q):=Yv h1 40 mu () ();let j:=gT length i;rw[ck]at j;show aO (cT (BY (Th (aR O O O O q) O () O O λx _=>O) ?_ ()));rw[<-i,c7,fF];rfl
def nZ(x:Str):Str:="box " ++ x
abbrev jy(p:PV):List Str:=(xz p).map nZ
def HD:-("box " : Str)=4:=by decide +kernel
def yS(h:XG p)(mu:Mu):iI [p] mu=!(Zs (R (c7 (jy p))),mu):=by
 let(n,h1,h2,q,j):=xP h;let l:=Rq p;show(aO (cT (ww (r:=λx=>ZH (nZ x)) (aR O O O O (Py h mu)) O () O O λx i=>?_))).trans (by rw[c7,fF];rfl);have:=j x (Hy.mp i)
 show Ga O (aE ()) (by rw[HD];lia)
end
noncomputable section
variable [HK][FN]
structure PA(mu:Mu)(n:Nat)(P:Pg):Prop where
 ex:∃N d,mu[n]?=!(!(gf "Plan" (Q0 P.es N (nG d))))/\Tc P.fns d
def PA.pl(h:PA mu n P):jb mu n P.es:=by let(N,d,h,_):=h;show#[N,_,h]
def kO(h1:fo Y=!(x,Y1))(W:x.pv=ZA n)(h2:a Y1=!(ls,Y2))(i:ls.map Lc.pv=ps)(j:g (ZA n::ps) Y2.mu=!(r,gS))(q:jb Y1.mu n es)(D:(["told","lists","heads"]:List Str).contains m=M:=by decide +kernel):cX "Plan" m g fo a Y=!(r,#[Y2.vs,gS]):=by let(N,Q,F):=q;show xG h1 W F D h2 i j
abbrev dw(n k:Nat)(t:List (Option Lc))(mu:Mu):Ev:=#[zS (ZA n)::zI (k:Nat)::t,mu]
def Oa(h:jb mu n es)(he:es[k]?=!e):aJ vhf (aa 1) (dw n k t mu)=!(Zp e.pv,dw n k t mu):=by let(N,j,i):=h;show dG (sZ O O i O) O O O nl ?_;show (fO (fy es) ((k:Nat):Int)).map _=_;rw[Ht he];rfl
def nt:∀n,PV.tup ps≠ZA n:=λn h=>by cases h
def Rr(h:jb mu n es)(he:es[k]?=!e):mL [ZA n,ZI (k:Nat)] mu=!(Zp (ZH e.w),mu):=
 aO (Y:=dw n k [] mu) (cT (dG (Oa h he) O O O nt O))
def Yx(h:jb mu n es)(he:es[k]?=!e):oH [ZA n,ZI (k:Nat)] mu=!(Zp e.ab,mu):=
 aO (Y:=dw n k [] mu) (cT (dG (Oa h he) O O O nt O))
def Ti(h:jb mu n es)(j:-es<=100000):qm [ZA n] mu=!(Zs (R (aU (range (-es)))),mu):=by let(N,q,i):=h;show aO (Y:=#[[zS (ZA n)],mu]) (cT ?_);unfold SN;rw[jN (aA (sZ O O i O) O) O O,cr];show (if 0<=(-(fy es):Int)/\(-(fy es):Int)<=100000 then _ else _)=_;rw[nC,aE ()];rfl
def V8(h:PA mu n P)(i:f∈P.fns):∃xs:List Str,f.params=xs.map (λx=>ZB [ZH x,.non])/\-xs<=4/\Sh xs/\rN [ZA n,ZH f.name] mu=!(Zs (R (c7 xs)),mu):=by let(N,d,F,z):=h;let(p,(xs,Q,j,D,rfl),q):=z f i;show#[xs,Q,j,D,aO (Y:=#[[zS (ZA n),zT f.name],mu]) (cT (jN (ls:=[Zp (R (c7 xs))]) (aA ?_ O) O O))];unfold zD;rw[sZ (C:="Plan") (f:="heads") O O F O,cr];show ((iG ((d.map (·.1)).zip (d.map (·.2))) (.inr f.name)).map _)=_;rw[VH,q];rfl
theorem Ob{K:List aV}:∀{es:List cS}{i j:Nat},j∈pos K i es->j<i+-es
 |[],i,j=>λh=>by cases h
 |e::es,i,j=>λh=>by
  unfold pos at h;have:=@Ob K es (i+1) j
  grind
def zeM:∀{i k:Nat}{e:cS},es[k]?=!e->i+k∈pos e.key i es:=by
 induction es with
 |nil=>grind
 |cons x es j=>
  intro i k e h;unfold pos;cases k with
  |zero=>
   grind
  |succ k=>
   have:=j (i:=i+1) h;rw[show i+(k+1)=i+1+k by omega];split
   . show dP _ this
   . show this
def adx{K:List aV}(h:j∈pos K 0 es):j5 (oJ 0 es []) K=!(pos K 0 es):=by
 let e:=Cd (K:=K) es 0 [];cases q:j5 (oJ 0 es []) K with
 |none=>grind
 |some l=>rw[q]at e;show gT some e
abbrev KB(w:Str):List aV:=[!(.inr w),J,!(.inl 0)]
open Classical in
def abe(h:jb mu n es):qu [ZA n,ZH w] mu=!(Zs (R (aU (pos (KB w) 0 es))),mu):=by
 let(N,D,j):=h;let E:Ev:=#[[zS (ZA n),zT w],mu];let S:_:=oJ 0 es [];have z:(j5 S (KB w)).getD []=pos (KB w) 0 es:=Cd es 0 [];have g:∃l,yD (jB "Plan" "lists" (aa 0)) GW E=!(l,E)/\l.pv=R (aU ((j5 S (KB w)).getD [])):=by
  unfold yD;rw[sZ (C:="Plan") (f:="lists") O O j O,cr];show ∃l,(if HK.hk=HK.hk then !((match j0 (((pz N S).map (·.1)).zip (S.map λx=>PV.lst (aU x.2))) (KB w) with |some p=>Lc.sh p |none=>Zs (R [])),E) else J)=!(l,E)/\_;rw[aE O,Kq];cases j5 S (KB w) with
  |none=>show#[_,O,O]
  |some l=>show#[_,O,O]
 let(l,i,q):=g;show aO (cT (jN (ps:=[R (aU (pos (KB w) 0 es))]) (Y1:=E) (aA i O) ∅ O))
theorem Ru:∀l:List Nat,tR (dH 150) (.int (k:Nat)) (aU l)=!(decide (k∈l))
 |[]=>rfl
 |a::l=>by show ((!(((a:Nat):Int)==((k:Nat):Int))).bind λb=>(tR (dH 150) (.int (k:Nat)) (aU l)).map λc=>b||c)=_;rw[Ru l];show some ((((a:Nat):Int)==((k:Nat):Int))||decide (k∈l))=_;congr 1;grind
open Classical in
def zfo(he:es[k]?=!e)(ha:e.ab=.non\/∃j:Nat,e.ab=ZI j)(hl:-es<=1000):∃r,(r=.non\/∃a:Nat,a< -es/\r=ZI (a:Nat))/\∀(es':List cS)(e':cS),es'[k]?=!e'->e'.w=e.w->e'.ab=e.ab->e'.bl=e.bl->pos e.key 0 es'=pos e.key 0 es->∀mu n,jb mu n es'->iH [ZA n,ZI (k:Nat)] mu=!(Zp r,mu):=by
 let hk:=zeM (i:=0) he;rw[iX]at hk;let l:_:=pos e.key 0 es;let hk:=hk;have ll:-l<=100000:=by
  have:∀(es:List cS)(i:Nat),-(pos e.key i es)<=-es:=λes=>by
   induction es with
   |nil=>show λi=>cK _
   |cons x es ih=>intro i;unfold pos;have:=ih (i+1);split<;>simp only[c5]<;>lia
  have:=this es 0;show -(pos e.key 0 es)<=_;lia
 let j:_:=(aU l).findIdx λq=>(dH 150 q (ZI (k:Nat))).getD M;have hj:j< -(aU l):=List.findIdx_lt_length_of_exists #[ZI (k:Nat),dA.mpr #[k,hk,O],by show (((k:Nat):Int)==((k:Nat):Int))=G;simp];rw[ck]at hj;have fin:∃r,(r=.non\/∃a:Nat,a< -es/\r=ZI (a:Nat))/\∀(n:Nat)(mu:Mu),Zb (tT (au eW (aa 3) (bg 0)) aY) (eC .non) (aJ (aa 2) (au Mt (aa 3) (bg 1))) (dw n k [zL (aU l),zI (j:Nat)] mu)=!(Zp r,dw n k [zL (aU l),zI (j:Nat)] mu):=by
  by_cases h0:j=0
  . show#[.non,Zl O,λn mu=>?_];rw[h0];rfl
  . have hx:l[j-1]?=some l[j-1]:=gg ();show#[ZI (l[j-1]:Nat),.inr #[l[j-1],by have:=Ob (fL hx);lia,O],λn mu=>?_];show (if (((j:Nat):Int)==0)=G then _ else _)=_;rw[bh (by simp;lia)];show dG O O O O nl ?_;show (fO (aU l) (((j:Nat):Int)-1)).map _=_;rw[show ((j:Nat):Int)-1=((j-1:Nat):Int) by lia,PN (by rw[dS,hx];rfl)];rfl
 let(r,hr,fin):=fin;show#[r,hr,λes' e' F w' z bl' hp mu n h=>?_];let h':=h;let(N,hd,hm):=h';let E0:_:=dw n k [J,J] mu;let D:_:=dw n k [zL (aU l),J] mu;let E3:_:=dw n k [zL (aU l),zI (j:Nat)] mu;have s2:S5 (jB "Plan" "lists" (aa 0)) (j7 (aJ (jB "Plan" "told" (aa 0)) (aa 1)) eU (cM (bg 3))) E0=!(Zp (R (aU l)),E0):=by
  unfold S5;rw[sZ (C:="Plan") (f:="lists") (Y1:=E0) O O hm O,cr];have sl:j7 (aJ (jB "Plan" "told" (aa 0)) (aa 1)) eU (cM (bg 3)) E0=!(Zp (ZB [ZH e.w,e.ab,ZI e.bl]),E0):=by unfold j7;rw[Oa h F,cr,<-w',<-z,<-bl'];rfl
  rw[sl,cr];show ((pX [ZH e.w,e.ab,ZI e.bl]).bind _)=_;rw[Jt ha,cr,aE O,Kq,adx (by rw[hp];show hk),hp];rfl
 have s3:MF (aa 2) (aa 1) D=!(Zp (ZI (j:Nat)),D):=by show (if tR (dH 150) (ZI (k:Nat)) (aU l)=!G/\-(aU l)<=100000 then _ else _)=_;rw[aE #[by rw[Ru,k5 hk],by rw[ck];show ll]];rfl
 show aO (aH (bu s2 O O) (aH (Y':=E3) (bu s3 O O) (cT (fin n mu))))
end
noncomputable section
variable [HK][FN]
mutual
theorem ah.es_w:∀(r:ah)(w:Str)(ab:PV)(bl:Int)(k:Nat),∀e∈r.es w ab bl k,e.w=w
 |.leaf _ _=>λw ab bl k e h=>by rw[ga.mp h]
 |.call _ _ _=>λw ab bl k e h=>by rw[ga.mp h]
 |.wh x b=>λw ab bl k e h=>(bP.mp h).elim (λh=>by rw[h]) (Rows.es_w b _ _ _ _ e)
 |.iff x b c=>λw ab bl k e h=>(bP.mp h).elim (λh=>by rw[h]) λh=>(dy.mp h).elim (Rows.es_w b _ _ _ _ e) (Rows.es_w c _ _ _ _ e)
theorem Rows.es_w:∀(rs:Rows)(w:Str)(ab:PV)(bl:Int)(k:Nat),∀e∈rs.es w ab bl k,e.w=w
 |.nil=>λw ab bl k e h=>by cases h
 |.cons r rs=>λw ab bl k e h=>(dy.mp h).elim (ah.es_w r _ _ _ _ e) (Rows.es_w rs _ _ _ _ e)
end
theorem B0:∀{fs:List Fn}{k:Nat}{e:cS},e∈qJ fs k->∃b∈i9 fs k,e∈b.1.rows.es b.1.name .non 0 b.2
 |[],k,e=>λh=>by cases h
 |f::fs,k,e=>λh=>by
  obtain h|h:=dy.mp h
  . show#[(f,k),cf,h]
  . let(b,j,q):=B0 h;show#[b,dP _ j,q]
theorem qS:∀{fs:List Fn}{k:Nat}{b:Fn×Nat},b∈i9 fs k->b.1∈fs/\b.2+b.1.rows.cnt<=k+d8 fs
 |[],k,b=>λh=>by cases h
 |f::fs,k,b=>λh=>by
  simp only[d8];obtain rfl|h:=bP.mp h
  . grind
  . let(h1,h2):=qS h;grind
def t9{P:Pg}(h:P.fine):∀f∈P.fs,f.rows.ok/\f.rows.dep<=11/\-f.name<=100:=λf j=>by
 obtain q|q:=dy.mp j
 . show#[(h.ok.fn f q).1,h.fd f q,h.ok.nl f q]
 . rw[ga.mp q];show#[h.ok.rw,h.dd,by show -("main" : Str)<=100;decide +kernel]
def za6(P:Pg):d8 P.fs=-P.es:=by rw[<-qE,BZ]
structure Pl(P:Pg)(k:Nat)(e:cS):Prop where
 at_:P.es[k]?=!e
 he:ol P k e.r
 ab:vp e.ab k
 wl:-e.w<=100
 bo:∃b∈i9 P.fs 0,e∈b.1.rows.es b.1.name .non 0 b.2
 si:qy P.es e.w e.ab e.bl k e.r
def Bf{P:Pg}:-P.rws=-P.es:=by unfold Pg.rws;rw[eI,vq,Rows.rws_len,es_len]
def Ku(h:P.fine)(hk:k< -P.es):∃e,Pl P k e/\P.rws[k]?=!e.r:=by rw[<-Bf]at hk;let j:=gg hk;let H:=abd h j;let(w,D,bl,s):=H.sp;let q:=fL s.get;rw[<-qE]at q;let(b,z,q):=B0 q;show#[#[w,D,bl,P.rws[k]],#[s.get,H,s.ab,(Rows.es_w _ _ _ _ _ _ q).symm▸(t9 h _ (qS z).1).2.2,#[b,z,q],s],j]
def Pl.lt(h:Pl P k e):k< -P.es:=(eM.mp h.at_).1
def oX{P:Pg}(h:P.fine):-P.es<=44:=by rw[es_len];show h.ok.ct
def Pl.num(h:Pl P k e):e.ab=.non\/∃j:Nat,e.ab=ZI j:=h.ab.imp id λz44=>by let(j,q,_):=z44;show #[j,q]
def Zv(h:P.fine)(p:Pl P k e)(j:PA mu n P):dJ 40 [ZA n,ZI (k:Nat)] mu=!(Zs (R (c7 (e.r.bt k))),mu):=
 VJ j.pl e.r 40 k e.w e.ab e.bl p.si p.he.ok (by have:=p.he.dp;lia) (by have:=p.he.dp;lia) (yQ h p.he) (by have:=JB p.he.dp;lia)
def xA(p:Pl P k e):-(e.r.bt k)<=47:=fx (e.r.bt_len k) (JB p.he.dp)
def tG(h:aa i Y=!(Zp (ZI (k:Nat)),Y))(hk:k<256)(j:-c<=10):nW c (aa i) Y=!(Zp (ZH (c++lF k)),Y):=by let(h1,h2,_):=Gq k hk;show Ga h h1 ()
def aep{r:ah}(ok:r.ok):(∃e b c,r=.iff e b c)\/∃w t,r.pv=ZB (ZH w::t)/\(w== "if")=M:=by
 cases r with
 |leaf w ps=>show .inr #[w,ps,O,ok.1.1]
 |call b n D=>show .inr #[_,_,O,by decide +kernel]
 |wh e b=>show .inr #[_,_,O,by decide +kernel]
 |iff e b c=>show Zl #[e,b,c,O]
def aeq{r:ah}(ok:r.ok):(∃e b,r=.wh e b)\/∃w t,r.pv=ZB (ZH w::t)/\(w== "while")=M:=by
 cases r with
 |leaf w ps=>show .inr #[w,ps,O,ok.1.2.1]
 |call b n D=>show .inr #[_,_,O,by decide +kernel]
 |iff e b c=>show .inr #[_,_,O,by decide +kernel]
 |wh e b=>show Zl #[e,b,O]
def pJ(h:aa i Y=!(Zp (ZB (ZH w::t)),Y)):aJ (aa i) (ay 0) Y=!(Zp (ZH w),Y):=
 dG h O O O nt (by show (fO (PV.str w::t) 0).map _=_;rw[qr];rfl)
def uF(h:XG p):-(jy p)<=9:=by let(n,h1,h2,j,q):=xP h;have:=Rq p;rw[ck];lia
def mm{α:Type}(f:α->Str×Str)(l:List α):(l.map f).map jc=l.map λy=>jc (f y):=fF ..
abbrev S3:=Str×Str×Str
def ah.out:ah->Bool
 |.leaf w _=>w== "out"
 |_=>M
def hJ(w:Str):Bool:=("enter"== w)||(("within"== w)||(("choice"== w)||false))
end
noncomputable section
variable [HK][FN]
inductive Nd(P:Pg):Str->Prop
 |at_ {j:Nat} (h:j< -P.es):Nd P ("at " ++ lF j)
 |box {x:Str} (h:FN.bx x):Nd P (nZ x)
 |ent {f:Fn} (h:f∈P.fs):Nd P ("enter " ++ f.name)
 |lve {f:Fn} (h:f∈P.fs):Nd P ("leave " ++ f.name)
 |let_ {j:Nat} {e:cS} (h:P.es[j]?=!e) (o:e.r.out=true):Nd P ("let " ++ lF j)
 |out {j:Nat} {e:cS} (h:P.es[j]?=!e) (o:e.r.out=true):Nd P ("out " ++ lF j)
def K0(w:Str):Prop:=w="enter"\/w="within"\/w="choice"\/w="behind"\/w="turns"
inductive om(P:Pg)(k:Nat)(r:ah):Int->S3->Prop
 |zero {w x:Str} (hw:K0 w) (hx:Nd P x):om P k r 0 (w,x,"at " ++ lF k)
 |val {w x y:Str} (hw:w="value"\/w="done"\/w="out") (hx:Nd P x) (hy:i8 y):om P k r 1 (w,x,nZ y)
 |let_ {x:Str} (hx:Nd P x) (o:r.out=true):om P k r 1 ("let",x,"let " ++ lF k)
 |call {b:PV} {as:List PV} {f:Fn} (hf:f∈P.fs) (er:r=.call b f.name as):om P k r 1 ("call","at " ++ lF k,"enter " ++ f.name)
 |back {b n x:Str} {as:List PV} (er:r=.call (.str b) n as) (hb:i8 b) (hx:Nd P x):om P k r 2 ("back",x,nZ b)
 |lve {x:Str} {f:Fn} (hx:Nd P x) (hf:f∈P.fs):om P k r 3 ("leave",x,"leave " ++ f.name)
def t_(a b:List Str):c7 (a++b)=c7 a++c7 b:=d0
def ua(a:List Str):-(c7 a)=-a:=ck _
def ah.pos_main(r:ah)(w:Str)(k:Nat):pos (KB w) k (r.es w .non 0 k)=[k]:=by
 have sub:∀(rs:Rows)(c:Int)(s:Nat),pos (KB w) s (rs.es w (ZI (k:Nat)) c s)=[]:=λrs c s=>Ca λe z q=>by
  have g:∃m:Nat,e.ab=ZI m:=by
   obtain g|⟨m,g,_⟩:=Rows.abs rs w (ZI (k:Nat)) c s e z
   . show#[k,g]
   . show#[m,g]
  let(m,g):=g;unfold cS.key at q;rw[g]at q;cases (cons.inj (cons.inj q).2).1
 cases r with
 |leaf x ps=>show aE O
 |call x n D=>show aE O
 |wh x c=>
  show(aE O).trans ?_;rw[sub]
 |iff x c d=>
  show(aE O).trans ?_;rw[pF,Rows.es_len,sub,sub];rfl
theorem Rows.pos_main:∀(rs:Rows)(w:Str)(k:Nat),pos (KB w) k (rs.es w .non 0 k)=rs.nums k
 |.nil=>λw k=>rfl
 |.cons r rs=>λw k=>by show pos _ k (r.es w .non 0 k++rs.es w .non 0 (k+r.cnt))=_;rw[pF,ah.pos_main r w k,ah.es_len,Rows.pos_main rs w (k+r.cnt)];rfl
def JI{e:cS}(h:e.w≠w):e.key≠KB w:=λq=>h (by have:=(cons.inj q).1;injection this with this;injection this)
theorem JJ:∀(fs:List Fn)(k:Nat),(fs.map Fn.name).Nodup->∀b∈i9 fs k,pos (KB b.1.name) k (qJ fs k)=b.1.rows.nums b.2
 |[]=>λk _ b j=>by cases j
 |f::fs=>λk F b j=>by
  let(D,N):=h_.mp F;show pos _ k (f.rows.es f.name .non 0 k++qJ fs (k+f.rows.cnt))=_;rw[pF,Rows.es_len];obtain rfl|j:=bP.mp j
  . rw[Rows.pos_main,Ca λe z=>JI λq=>?_,eJ];let(b,h1,h2):=B0 z;show D (dA.mpr #[b.1,(qS h1).1,(Rows.es_w _ _ _ _ _ _ h2).symm.trans q])
  . rw[JJ fs (k+f.rows.cnt) N b j,Ca λe z=>JI λq=>?_,kT];show D (dA.mpr #[b.1,(qS j).1,((Rows.es_w _ _ _ _ _ _ z).symm.trans q).symm])
def zaf{P:Pg}(h:P.fine):(P.fs.map Fn.name).Nodup:=by unfold Pg.fs;rw[d0];show oS.mpr #[h.ok.nd,by simp,λa j b q e=>h.mn ?_];grind
def m6(b:Fn×Nat)(k:Nat):List (Str×Str):=if k=b.1.rows.lnum b.2/\b.1.rows.sp=G then (b.1.rows.lbt b.2).map λy=>(y,"leave " ++ b.1.name) else []
def JO{rs:Rows}(h:rs.dep<=11):rs.bl<=47:=Nat.le_of_lt_succ (xw (xy 4) rs h)
def JU{P:Pg}(h:P.fine)(j:b∈i9 P.fs 0):-(m6 b k)<=47:=by
 unfold m6;split
 . rw[ck];show fx (b.1.rows.lbt_len b.2) (JO (t9 h _ (qS j).1).2.1)
 . grind
def JY{P:Pg}(h:P.fine){k:Nat}{e:cS}(p:Pl P k e){b:Fn×Nat}(hb:b∈i9 P.fs 0)(ew:e.w=b.1.name)(ne:b.1.rows≠.nil){mu:Mu}{n:Nat}(pa:PA mu n P):lu [.ptr n,.int (k:Nat)] mu=!(.own (.lst ((m6 b k).map jc)),mu):=by
 let(f,s):=b;let el:=oX h;have ew:e.w=f.name:=ew;have si:qx P.es f.name .non 0 s f.rows:=IU P _ hb;let(fi,fc):=qS hb;let(ok,hd,hw):=t9 h _ fi;have ok:f.rows.ok:=ok;have hd:f.rows.dep<=11:=hd;have fc:s+f.rows.cnt<=0+d8 P.fs:=fc;rw[za6]at fc;have hw:-f.name<=100:=hw;have hl:pos (KB f.name) 0 P.es=f.rows.nums s:=by rw[<-qE];show JJ P.fs 0 (zaf h) _ hb
 let bl:=JO hd;let lb:=f.rows.lbt_len s;have ne:∃r rs,f.rows=.cons r rs:=by
  cases q:f.rows with
  |nil=>show absurd q ne
  |cons r rs=>show#[r,rs,rfl]
 have ej:fO (aU (f.rows.nums s)) (-1)=!(.int (f.rows.lnum s:Nat)):=by let(r,rs,er):=ne;let(a,q):=Rows.nums_last r rs s;rw[er,q];show fO (List.map _ (a++[_])) (-1)=_;rw[d0];show qN _ _
 let l:_:=f.rows.nums s;let E3:Ev:=dw n k [zT f.name,zL (aU l)] mu;let J_:=Rr pa.pl p.at_;let Kb:=abe (w:=f.name) pa.pl;rw[ew]at J_;rw[hl]at Kb;have Ki:∀(g:SF) R,g (dw n k [zT f.name,zO (aU l)] mu)=R->(aF (aL 2 (cX "Plan" "home" mL (aa 0) (aj (aa 1) ao))) (aF (aL 3 (cX "Plan" "body" qu (aa 0) (aj (aa 2) ao))) g)) (dw n k [none,none] mu)=R:=λg R hg=>
  aH (Y':=dw n k [zT f.name,none] mu) (bu (kO rfl rfl rfl rfl J_ pa.pl) rfl rfl) (aH (bu (Y1:=dw n k [zT f.name,none] mu) (kO (m:="body") (Y1:=dw n k [zT f.name,none] mu) (Y2:=dw n k [zT f.name,none] mu) (ps:=[.str f.name]) rfl rfl rfl rfl Kb pa.pl) rfl rfl) hg)
 have t:tO (tT (au Mq (aJ (aa 3) (jq (bg 1))) (aa 1)) aY) (Br (tT (cX "Plan" "spending" fV (aa 0) (aj (aa 3) ao)) qW)) (dw n k [zT f.name,zO (aU l)] mu)=!(not (((f.rows.lnum s:Nat):Int)==((k:Nat):Int))||not f.rows.sp,E3):=
  rZ (Y1:=E3) (Bv (p:=.bl (not (((f.rows.lnum s:Nat):Int)==((k:Nat):Int)))) (dj (dG (p:=.lst (aU l)) (q:=.int (-1)) (l:=.sh (.lst (aU l))) (Y1:=E3) rfl rfl rfl rfl nl (by show (fO (aU (f.rows.nums s)) (-1)).map _=_;rw[ej];rfl)) rfl rfl rfl rfl) rfl rfl) (Vi (Bv (p:=.bl f.rows.sp) (l:=.sh (.bl f.rows.sp)) (kO (m:="spending") (Y2:=E3) (Y1:=E3) (ps:=[.lst (aU l)]) rfl rfl rfl rfl (Pu pa.pl si ok () ()) pa.pl) rfl rfl))
 have l6:-("leave " : Str)=6:=by decide +kernel
 unfold m6;by_cases hb:k=f.rows.lnum s/\f.rows.sp=true
 . rw[aE hb];let(h1,h2):=hb;show _=!(Lc.own (.lst (((f.rows.lbt s).map λy=>(y,"leave " ++ f.name)).map jc)),mu);rw[mm];show aO (Y:=E3) (Ki _ _ ((bG t (by rw[h1,h2];simp)).trans (cT (ww (Y1:=E3) (L:=.own (.lst (c7 (f.rows.lbt s)))) (g:=PV.str) (l:=f.rows.lbt s) (aR (ps:=[.ptr n,.int (k:Nat)]) rfl rfl rfl rfl ?_) rfl () rfl rfl λy _=>?_))))
   . rw[h1];show ba pa.pl f.rows 40 s _ _ _ ne si ok () () () ()
   . show dm (aA rfl (aA (Ga (l:=.sh (.str f.name)) (z:=f.name) rfl (aE ()) ()) rfl)) rfl rfl
 . rw[bh hb];show aO (Y:=E3) (Ki _ _ (d7 t ?_ rfl));cases hs:f.rows.sp with
   |false=>simp
   |true=>
    have:f.rows.lnum s≠k:=λq=>hb #[q.symm,hs];simp;lia
end
noncomputable section
variable [HK][FN]
theorem uG{α:Type}(g:α->PV)(q:List α->Ev->Prop):∀(l i:List α)(Y:Ev),q i Y->(∀j x,-j< -i+-l->x∈l->∀Y,q j Y->∃Y1 Y2,b (g x) Y=!Y1/\body Y1=!(.nx Y2)/\q (j++[x]) Y2)->∃Y',eN b body (l.map g) Y=!(.nx Y')/\q (i++l) Y'
 |[]=>λi Y h _=>#[Y,O,by rw[eJ];show h]
 |x::l=>λi Y h hs=>by simp only[c5]at hs;let(Y1,Y2,F,N,h2):=hs i x () cf Y h;let(Y',Q,z):=uG g q l (i++[x]) Y2 h2 λp y W D=>hs p y ∅ (dP _ D);show#[Y',gw F N Q,by rw[d6]at z;show z]
noncomputable abbrev mV (y:S3):PV:=ZB [ZH y.1,ZH y.2.1,ZH y.2.2]
def pK{α β:Type}(f:α->List β)(l:List α)(x:α):(l++[x]).flatMap f=l.flatMap f++f x:=by simp
def vB(x:Str)(e:PV):List S3:=(jy e).map λb=>("value",b,nZ x)
def GC(h:XG e):-(vB x e)<=9:=by unfold vB;rw[ck];show uF h
def gB(k:Nat)(x:Str)(es:List PV):List S3:=("done","at " ++ lF k,nZ x)::es.flatMap (vB x)
def Zx(h:aa i Y=!(Zp (ZH x),Y))(j:-x<=100):nW "box " (aa i) Y=!(Zp (ZH (nZ x)),Y):=
 Ga h (aE ()) (by rw[HD];lia)
def En(hk:k<256)(hx:i8 x)(he:∀e∈es,XG e)(hl:-es<=26):lr [.int (k:Nat),.str x,.lst es] mu=!(.own (.lst ((gB k x es).map mV)),mu):=by
 let D:S3:=("done","at " ++ lF k,nZ x);let E:List S3->Option Lc->Ev:=λA o=>#[[zI (k:Nat),zT x,zL es,zO ((D::A).map mV),o],mu];let(Y',e1,o,rfl,_):=uG (b:=aC 4) (body:=gb 3 (bU (dh (aN iI (aj (aa 4) ao)) bJ) 1 [1] (aC 0) bB (aX (aj (fI "value") (aj (aa 0) (aj (nW "box " (aa 1)) ao)))))) id (λpre Y=>∃o,Y=E (pre.flatMap (vB x)) o/\-(pre.flatMap (vB x))<=9*-pre) es [] (E [] none) #[none,rfl,cK _] λpre e hp hm Y ⟨o,eY,hz⟩=>by
  subst eY;simp only[f_]at hp;let lb:=GC (x:=x) (he e hm);show#[E (pre.flatMap (vB x)) (zS e),E ((pre++[e]).flatMap (vB x)) (zS e),rfl,?_,_,rfl,by rw[pK,eI,eI];simp only[c5,f_];lia];rw[pK];show jZ rfl (ww (r:=λb=>mV ("value",b,nZ x)) (aR rfl rfl rfl rfl (yS (he e hm) mu)) rfl (by have:=uF (he e hm);lia) rfl rfl λb _=>?_) rfl rfl ?_ ?_
  . show dm (aA rfl (aA rfl (aA (Zx rfl hx.1) rfl))) rfl rfl
  . have:=uF (he e hm);simp only[ck,c5]at this hz ⊢;lia
  . show (#[[_,_,_,!(.own (.lst ((D::pre.flatMap (vB x)).map mV++(jy e).map λb=>mV ("value",b,nZ x)))),_],mu]:Ev)=#[[_,_,_,zO ((D::(pre.flatMap (vB x)++vB x e)).map mV),_],mu];unfold vB;simp only[fr,d0,fF,q_];rfl
 rw[List.map_id,kT]at e1;show aO (Y:=#[[zI (k:Nat),zT x,zL es,none,o],mu]) (aH (bu (pQ (aA (dm (aA rfl (aA (tG rfl hk ()) (aA (Zx rfl hx.1) rfl))) rfl rfl) rfl) rfl rfl) rfl rfl) (aH (eO (dC rfl rfl) e1) rfl))
def B1:∀y∈gB k x es,hJ y.1=M:=λy hy=>by
 obtain rfl|hy:=bP.mp hy
 . show(by decide +kernel:hJ "done"=M)
 . let(e,_,hy):=List.mem_flatMap.mp hy;let(b,_,rfl):=dA.mp hy;show(by decide +kernel:hJ "value"=M)
end
noncomputable section
variable [HK][FN]
def map_two{α β γ:Type}(f:α->β)(g:β->γ)(l:List α)(o:List β):(l.map f++o).map g=(l.map λx=>g (f x))++o.map g:=by grind
theorem Zy:∀(xs:List Str)(j:List PV),uW (c7 xs) j=(xs.zip j).map λz=>ZB [ZH z.1,z.2]
 |[],j=>rfl
 |x::xs,[]=>rfl
 |x::xs,a::j=>by show _::uW (c7 xs) j=_;rw[Zy xs j];rfl
def aes(h1:f Y=!(x,Y1))(hx:x.pv=.lst ps)(h2:g Y1=!(y,Y2))(hy:y.pv=.lst qs):Km f g Y=!(uW ps qs,Y2):=by unfold Km;grind
abbrev cB(k:Nat)(z:Str×PV):List S3:=gB k z.1 [z.2]
def Oi(h:XG z.2):-(cB k z)<=10:=by have:=GC (x:=z.1) h;simp[gB];grind
structure Dn(P:Pg)(k:Nat)(B:List S3):Prop where
 lB:-B<=41
 nk:∀y∈B,hJ y.1=false
 told:∀mu n,PA mu n P->qt [.ptr n,.int (k:Nat)] mu=!(.own (.lst (B.map mV)),mu)
def abl:km [ZB [ZH "set",x,e]] mu=!(Zs (R [e]),mu):=
 aO (Y:=E1 (ZB [ZH "set",x,e]) mu) ((bG () ()).trans ((bG () ()).trans ((bG (bw w0) ()).trans O)))
def abm:km [ZB [ZH "put",x,e,f]] mu=!(Zs (R [e,f]),mu):=
 aO (Y:=E1 (ZB [ZH "put",x,e,f]) mu) ((bG () ()).trans ())
def xR(p:Pl P k e)(j:PA mu n P)(q:g (dw n k [zS e.r.pv,J,J,J] mu)=ZN):aF (aL 2 (cX "Plan" "row" dY (aa 0) (aj (aa 1) ao))) g (dw n k [J,J,J,J] mu)=ZN:=
 aH (bu (kO O O O O (tu j.pl p.at_) j.pl) O O) q
section
variable {P:Pg}{k:Nat}{e:cS}
def Kj(p:Pl P k e)(hk:k<256)(er:e.r.pv=ZB [ZH "set",ZH x,a])(hx:i8 x)(j:XG a):Dn P k (gB k x [a]):=by
 have D:∀y∈[a],XG y:=λy hy=>by rw[ga.mp hy];show j
 show#[fx (Oi (z:=(x,a)) j) (),B1,λmu n F=>?_]
 . show aO (Y:=dw n k [!(Zp (ZB [ZH "set",ZH x,a])),J,J,J] mu) (xR p F ?_);rw[er];show d7 (rZ (bw (pJ O)) ()) () (cT (aR (aA O (aA O (aA (aR O O O O abl) O))) O O O (En hk hx D ())))
def Kk(p:Pl P k e)(hk:k<256)(D:e.r.pv=ZB [ZH "put",ZH x,a,b])(hx:i8 x)(j:XG a)(z:XG b):Dn P k (gB k x [a,b]):=by
 have F:∀y∈[a,b],XG y:=λy hy=>by
  obtain rfl|hy:=bP.mp hy
  . show j
  . grind
 let l1:=GC (x:=x) j;let l2:=GC (x:=x) z;show#[by simp[gB];lia,B1,λmu n pa=>?_]
 . show aO (Y:=dw n k [!(Zp (ZB [ZH "put",ZH x,a,b])),J,J,J] mu) (xR p pa ?_);rw[D];show d7 (rZ (bw (pJ O)) ()) () (cT (aR (aA O (aA O (aA (aR O O O O abm) O))) O O O (En hk hx F ())))
def oB(k:Nat)(x:Str)(a:PV):List S3:=(jy a).map (λb=>(("let",b,"let " ++ lF k):S3))++([("out","out " ++ lF k,nZ x),("done","at " ++ lF k,nZ x)]:List S3)
def Kn(p:Pl P k e)(hk:k<256){x y:Str}{a:PV}(er:e.r=.leaf "out" [ZH x,a,ZH y])(hx:i8 x)(F:XG a):Dn P k (oB k x a):=by
 let(n,h1,h2,h3,h4):=xP F;let lb:=uF F;let cp:List S3:=[("out","out " ++ lF k,nZ x),("done","at " ++ lF k,nZ x)];let D:Str->S3:=λb=>("let",b,"let " ++ lF k);unfold oB;show#[by simp only[eI,ck,c5,f_]at lb ⊢;lia,λz j=>?_,λmu n pa=>?_]
 . obtain j|j:=dy.mp j
   . let(b,hb,rfl):=dA.mp j;show(by decide +kernel:hJ "let"=M)
   . obtain rfl|j:=bP.mp j
     . show(by decide +kernel:hJ "out"=M)
     . rw[ga.mp j];show(by decide +kernel:hJ "done"=M)
 . let r:PV:=ZB [ZH "out",ZH x,a,ZH y];let E3:Option Lc->Ev:=λo=>dw n k [zS r,o,J,J] mu;show aO (Y:=E3 (zL ((jy a).map λb=>mV (D b)))) (xR p pa ?_);rw[er];show(bG (rZ (bw (pJ O)) (bw (pJ O))) ()).trans (d7 (bw (pJ O)) () (aH (Y':=E3 (zO ((jy a).map λb=>mV (D b)))) (bu (ww (Y1:=E3 J) (g:=PV.str) (r:=λb=>mV (D b)) (l:=jy a) (aR (ps:=[a]) O O O O (yS F mu)) O () O O λb _=>?_) O O) (cT ?_)))
   . show dm (aA O (aA O (aA (tG O hk ()) O))) O O
   . let Ef:_:=E3 (zL ((jy a).map λb=>mV (D b)));have bo:au bf (fI "box ") (aJ (aa 2) (bg 1)) Ef=!(Zp (ZH (nZ x)),Ef):=dj (p:=ZH "box ") (q:=ZH x) O O O O (Be (by rw[HD];lia));rw[map_two];show dj (p:=R ((jy a).map λb=>mV (D b))) (q:=R (cp.map mV)) (l:=Zp (R ((jy a).map λb=>mV (D b)))) (Y1:=Ef) O O (pQ (aA (dm (aA O (aA (tG O hk ()) (aA bo O))) O O) (aA (dm (aA O (aA (tG O hk ()) (aA bo O))) O O) O)) O O) O (Hz (by simp only[ck,cp,c5,f_]at lb ⊢;lia))
def Zz(p:Pl P k e)(hk:k<256){w:Str}{t:List PV}(er:e.r.pv=ZB (ZH w::t))(j:(w== "set")=M/\(w== "put")=M/\(w== "out")=M/\(w== "call")=M):Dn P k []:=by
 let(h1,h2,D,z):=j;show#[gz _,λy hy=>(by cases hy),λmu n F=>?_]
 . show aO (Y:=dw n k [zS (ZB (ZH w::t)),J,J,J] mu) (xR p F ?_);rw[er];show(bG (rZ (bw (pJ O)) (bw (pJ O))) (by rw[h1,h2];rfl)).trans ((bG (bw (pJ O)) D).trans ((bG (bw (pJ O)) z).trans O))
end
end
noncomputable section
variable [HK][FN]
theorem Rx:∀{xs ys:List Str},xs.map (λx=>PV.tup [ZH x,.non])=ys.map (λx=>PV.tup [ZH x,.non])->xs=ys
 |[],[]=>λ_=>rfl
 |[],y::ys=>λh=>by cases h
 |x::xs,[]=>λh=>by cases h
 |x::xs,y::ys=>λh=>by injection h with h1 h2;injection h1 with h1;injection h1 with h1 _;injection h1 with h1;rw[h1,Rx h2]
theorem uM{α β:Type}{f:α->List β}:∀{l:List α},(∀x∈l,-(f x)<=c)->-(l.flatMap f)<=c*-l
 |[]=>λ_=>gz _
 |x::l=>λh=>by let h1:=h x cf;let h2:=uM λy i=>h y (dP _ i);rw[flatMap_cons,eI,c5,Nat.mul_succ];lia
section
variable {P:Pg}{k:Nat}{e:cS}
def kB(k:Nat)(m:Str)(xs:List Str)(as:List PV):List S3:=("call","at " ++ lF k,"enter " ++ m)::(xs.zip as).flatMap (cB k)
def Kp(h:P.fine)(p:Pl P k e)(hk:k<256){b:PV}{m:Str}{D:List PV}(er:e.r=.call b m D){f:Fn}(hf:f∈P.fns)(fe:f.name=m){xs:List Str}(ex:f.params=xs.map λx=>ZB [ZH x,.non])(lx:-xs<=4)(sx:Sh xs):Dn P k (kB k m xs D):=by
 let ok:=p.he.ok;rw[er]at ok;let((x,rfl,hx),hn,ha,hla,nz):=ok;let C:S3:=("call","at " ++ lF k,"enter " ++ m);let zs:_:=xs.zip D;have F:∀z∈zs,i8 z.1/\XG z.2:=λz F=>by let(h1,h2):=l_ (a:=z.1) (b:=z.2) F;show#[sx _ h1,ha _ h2]
 have lz:-zs<=4:=by show -(xs.zip D)<=4;rw[List.length_zip];lia
 have l6:-("enter " : Str)=6:=by decide +kernel
 let r:PV:=(ah.call (ZH x) m D).pv;have lB:-(zs.flatMap (cB k))<=10*-zs:=uM λz q=>Oi (F z q).2;unfold kB;show#[by show -(zs.flatMap (cB k))+1<=41;lia,λy hy=>?_,λmu n pa=>?_]
 . obtain rfl|hy:=bP.mp hy
   . show(by decide +kernel:hJ "call"=M)
   . let(z,hm,q):=List.mem_flatMap.mp hy;show B1 y q
 . let(ys,ey,_,_,pe):=V8 pa hf;rw[<-Rx (ex.symm.trans ey),fe]at pe;let E3:List S3->Option Lc->Option Lc->Ev:=λA o q=>dw n k [zS r,zO ((C::A).map mV),o,q] mu;let(Y',e1,o,q,rfl,_):=uG (b:=fC 2 (aW (aC 4) (aW (aC 5) fu))) (body:=gb 3 (aN lr (aj (aa 1) (aj (aa 4) (aj (cu (aj (aa 5) ao)) ao))))) (λz:Str×PV=>ZB [ZH z.1,z.2]) (λj Y=>∃o q,Y=E3 (j.flatMap (cB k)) o q/\-(j.flatMap (cB k))<=10*-j) zs [] (E3 [] J J) #[J,J,O,cK _] λj z hp hm Y ⟨o,q,eY,hy⟩=>by subst eY;simp only[f_]at hp;let(g1,g2):=F z hm;let lc:=Oi (k:=k) g2;show#[E3 (j.flatMap (cB k)) (zT z.1) (zS z.2),E3 ((j++[z]).flatMap (cB k)) (zT z.1) (zS z.2),O,?_,_,_,O,by rw[pK,eI,eI];simp only[c5,f_];lia];rw[pK];show jZ (ws0:=(C::j.flatMap (cB k)).map mV) (ws:=(C::j.flatMap (cB k)).map mV) (ps:=(cB k z).map mV) O (aR (ps:=[ZI (k:Nat),ZH z.1,R [z.2]]) (Y1:=E3 (j.flatMap (cB k)) (zT z.1) (zS z.2)) O O O O (En hk g1 (λy hy=>by rw[ga.mp hy];show g2) (by simp))) O O (by simp only[ck,c5];lia) ?_;show dw n k [_,zO ((C::j.flatMap (cB k)).map mV++(cB k z).map mV),_,_] mu=dw n k [_,zO ((C::(j.flatMap (cB k)++cB k z)).map mV),_,_] mu;rw[<-d0];rfl
   rw[kT,<-Zy]at e1;show aO (Y:=dw n k [zS r,J,o,q] mu) (xR p pa ?_);rw[er];show(bG (rZ (bw (pJ O)) (bw (pJ O))) ()).trans ((bG (bw (pJ O)) ()).trans (d7 (bw (pJ O)) () (aH (Y':=E3 [] J J) (bu (pQ (aA (dm (aA (Y1:=dw n k [zS r,J,J,J] mu) O (aA (tG O hk ()) (aA (dj (p:=ZH "enter ") (q:=ZH m) O O O O (Be ())) O))) O O) O) O O) O O) (aH (eO (Y1:=E3 [] J J) (aes (Y1:=E3 [] J J) (kO (Y1:=E3 [] J J) (Y2:=E3 [] J J) (ps:=[ZH m]) O O O O pe pa.pl) O O O) e1) O))))
def Ks(h:P.fine)(hQ:Q.fine)(p:Pl P k e)(q:Pl Q k e')(hk:k<256)(hF:∀n,FN.fn n->∃f∈P.fns,f.name=n)(hp:∀f∈P.fns,∃g∈Q.fns,g.name=f.name/\g.params=f.params)(D:e'.r=e.r):∃B,Dn P k B/\Dn Q k B:=by
 let ok:=p.he.ok;cases j:e.r with
 |leaf w ps=>
  rw[j]at ok;have F:e.r.pv=ZB (ZH w::ps):=by rw[j];rfl
  have e3:e'.r.pv=ZB (ZH w::ps):=by rw[D];show F
  let(_,lf):=ok;cases lf with
  |set_ hx z=>show#[_,Kj p hk F hx z,Kj q hk e3 hx z]
  |put hx z hb=>show#[_,Kk p hk F hx z hb,Kk q hk e3 hx z hb]
  |out y hx z=>show#[_,Kn p hk j hx z,Kn q hk (D.trans j) hx z]
 |call b n as=>
  rw[j]at ok;let(f,hf,fe):=hF n ok.2.2.2.2;let(xs,ex,lx,sx):=h.ok.pm f hf;let(g,hg,ge,gp):=hp f hf;show#[_,Kp h p hk j hf fe ex lx sx,Kp hQ q hk (D.trans j) hg (ge.trans fe) (gp.trans ex) lx sx]
 |wh x b=>show#[_,Zz p hk (w:="while") (by rw[j];rfl) (),Zz q hk (w:="while") (by rw[D,j];rfl) ()]
 |iff x b c=>show#[_,Zz p hk (w:="if") (by rw[j];rfl) (),Zz q hk (w:="if") (by rw[D,j];rfl) ()]
end
end
noncomputable section
variable [HK][FN]
def ahj(h:E f v m x v1 m1)(hx:ψ x.pv=!z)(j:-c+-z<=100000):E (nW c f) v m (Zp (ZH (c++z))) v1 m1:=λi=>Ga (h i) hx j
def zd7(h1:E fo v m x v1 m1)(hx:x.pv=ZA n)(h2:E a v1 m1 ls v2 m2)(F:ls.map Lc.pv=ps)(h3:∀i,g (ZA n::ps) (m2 i)=!(l,m3 i))(D:∀i,∃es,jb (m1 i) n es)(j:(["told","lists","heads"]:List Str).contains w=M:=by decide +kernel):E (cX "Plan" w g fo a) v m l v2 m3:=λi=>let #[_,q]:=D i;kO (h1 i) hx (h2 i) F (h3 i) q j
end
local macro_rules | `(tactic| walk_at "x")=>`(tactic| exact qA)
local macro_rules | `(tactic| walk_at "y")=>`(tactic| first
 | (with_reducible apply zd7); walk_at "e"; exact rfl; walk_at "e"; walk_at "n"; (intro _; assumption); (intro _; exact⟨_,by assumption⟩); decide +kernel
 | (with_reducible apply ahj); walk_at "e"; assumption; walk_at "l")
noncomputable section
variable [HK][FN]
def on(r:ah)(f:PV->List Str):List (Str×Str):=match r with
 |.iff x _ _=>(f x).map λy=>("choice",y)
 |_=>[]
def wi(j:Nat)(r:ah)(f:PV->List Str):List (Str×Str):=("within","at " ++ lF j)::on r f
def Kt(ok:r.ok):-(on r jy)<=9:=by
 cases r with
 |iff x b c=>show -(List.map _ (jy x))<=9;rw[ck];show uF ok.1
 |_=>show gz _
def zbr(p:Pl P k e)(q:e.ab=.non)(j:PA mu n P):lW [ZA n,ZI (k:Nat)] mu=!(Zs (R ([(("enter" : Str),"enter " ++ e.w)].map jc)),mu):=by
 let h1:=Yx j.pl p.at_;let h2:=Rr j.pl p.at_;let pl:=j.pl;have z:-("enter " : Str)=6:=by decide +kernel
 have:=p.wl;rw[q]at h1;show fD λZN K=>?_
 walk_at "s"
 show K
def zb6(h:P.fine){k j:Nat}{e D:cS}(p:Pl P k e)(q:e.ab=ZI j)(p2:Pl P j D){mu:Mu}{n:Nat}(F:PA mu n P):lW [ZA n,ZI (k:Nat)] mu=!(Zs (R ((wi j D.r jy).map jc)),mu):=by
 let h1:=Yx F.pl p.at_;let h2:=tu F.pl p2.at_;let pl:=F.pl;let hl:=oX h;let hj:=p2.lt;let(f1,f2,_):=Gq j ();let lb:=Kt p2.he.ok;rw[q]at h1;obtain⟨x,b,c,z⟩|⟨w,t,z,hw⟩:=aep p2.he.ok
 . let ok:=p2.he.ok;rw[z]at ok h2 lb;let h3:=yS ok.1 mu;have lb:-(jy x)<=9:=uF ok.1;rw[z];show fD λZN K=>?_
   walk_at "s"
   show cast (congrArg (λl=>ZN (Zs (R l)) _) ?_) K;show _::(List.map _ (jy x)).map jc=_;rw[fF];rfl
 . rw[z]at h2;have hc:on D.r jy=[]:=by
    cases q:D.r with
    |iff x b c=>rw[q]at z;cases z;show absurd hw ()
    |_=>rfl
   unfold wi;rw[hc];show fD λZN K=>?_
   walk_at "s"
   show K
def Qg(es:List cS)(a:Nat):List Str:=match es[a]? with
 |some e=>e.r.bt a
 |none=>[]
def oq(es:List cS)(w:Str)(k:Nat)(x:PV):List Str:=jy x++match (pos (gs w k 0) 0 es).getLast? with
 |some j=>Qg es j
 |none=>[]
def Pl.bta(p:Pl P k e):Qg P.es k=e.r.bt k:=by unfold Qg;rw[p.at_]
def zfL(h:P.fine)(p:Pl P k e)(F:e.r=.wh x b):-(oq P.es e.w k x)<=56/\∀mu n,PA mu n P->rM [ZA n,ZI (k:Nat)] mu=!(Zs (R (c7 (oq P.es e.w k x))),mu):=by
 let ok:=p.he.ok;rw[F]at ok;let lb:=uF ok.1;unfold oq;obtain D|⟨a,j,D⟩:=List.eq_nil_or_concat (pos (gs e.w k 0) 0 P.es)
 . rw[D];simp only[List.getLast?_nil,eJ];show#[(),λmu n z=>fD λR K=>?_];let h1:=Eg (i:=0) z.pl p.at_;let h2:=tu z.pl p.at_;let h3:=yS ok.1 mu;let pl:=z.pl;rw[F]at h2;rw[D]at h1
   walk_at "s"
   show K
 . have hj:j∈pos (gs e.w k 0) 0 P.es:=by rw[D];simp
   let(e2,p2,_):=Ku h (show j< -P.es by have:=Ob hj;lia);let l2:=xA p2;let l3:=ua (e2.r.bt j);rw[D];simp only[List.concat_eq_append,List.getLast?_append,List.getLast?_singleton,Option.some_or,p2.bta];show#[by rw[eI];lia,λmu n z=>fD λR K=>?_];let h1:=Eg (i:=0) z.pl p.at_;let h2:=tu z.pl p.at_;let h3:=yS ok.1 mu;let h4:=Zv h p2 z;let pl:=z.pl;rw[F]at h2;rw[D,List.concat_eq_append]at h1;have h5:qG (.lst (aU (a++[j]))) (ZI (-1))=zI (j:Nat):=by show (fO _ _).map _=_;rw[aU,d0,List.map_singleton,qN];rfl
   have h6:qW (.lst (aU (a++[j])))=!G:=by cases a<;>rfl
   walk_at "s"
   rw[t_]at K;show K
end
noncomputable section
variable [HK][FN]
abbrev ot:=List (Str×Str)
def ub(es:List cS)(a:Nat):ah:=match es[a]? with
 |some e=>e.r
 |none=>.leaf "" []
def Pl.rwa(p:Pl P k e):ub P.es k=e.r:=by unfold ub;rw[p.at_]
def m7(es:List cS)(e:cS):ot:=match e.ab with
 |ZI j=>wi j.toNat (ub es j.toNat) jy
 |_=>[("enter","enter " ++ e.w)]
def jI(es:List cS)(e:cS):PV->ot
 |ZI a=>(Qg es a.toNat).map λy=>("behind",y)
 |_=>m7 es e
def kQ(es:List cS)(k:Nat)(e:cS):ot:=match e.r with
 |.wh x _=>(oq es e.w k x).map λy=>("turns",y)
 |_=>[]
def zeW{P:Pg}(h:P.fine){k:Nat}{e:cS}(p:Pl P k e):-(m7 P.es e)<=10/\∀mu n,PA mu n P->lW [.ptr n,.int (k:Nat)] mu=!(.own (.lst ((m7 P.es e).map jc)),mu):=by
 unfold m7;obtain q|⟨j,q,hj⟩:=p.ab
 . rw[q];show#[Nat.le_add_left 1 9,λmu n pa=>zbr p q pa]
 . let(e2,p2,_):=Ku h (show j< -P.es by have:=p.lt;lia);rw[q];dsimp only[Int.toNat_natCast];rw[p2.rwa];show#[by have:=Kt p2.he.ok;show -(on e2.r jy)+1<=10;lia,λmu n pa=>zb6 h p q p2 pa]
def Kv{P:Pg}(h:P.fine){k:Nat}{e:cS}(p:Pl P k e){r:PV}(hr:r=.non\/∃a:Nat,a< -P.es/\r=.int (a:Nat))(ha:∀mu n,jb mu n P.es->iH [.ptr n,.int (k:Nat)] mu=!(.sh r,mu)):-(jI P.es e r++kQ P.es k e)<=103/\∀mu n,PA mu n P->jH [.ptr n,.int (k:Nat)] mu=!(.own (.lst ((jI P.es e r++kQ P.es k e).map jc)),mu):=by
 let hl:=oX h;have part:-(jI P.es e r)<=47/\∀mu n,PA mu n P->∀(R:Lc->(Unit->Mu)->Prop)(g:SF),(∀o,dv g [zS (.ptr n),zI (k:Nat),o,zO ((jI P.es e r).map jc)] (λ_=>mu) (λ_ _=>False) R)->dv (aF (aL 2 (cX "Plan" "just_ahead" iH (aa 0) (aj (aa 1) ao))) (aF (aL 3 (cu ao)) (aF (cC (tT (au Sw (aa 2) (eC .non)) aY)
  (gb 3 (aN lW (aj (aa 0) (aj (aa 1) ao))))
  (gb 3 (bU (dh (aN (dJ 40) (aj (aa 0) (aj (aa 2) ao))) bJ) 1 [] (aC 0) bB (aX (aj (fI "behind") (aj (aa 0) ao)))))) g))) [zS (.ptr n),zI (k:Nat),none,none] (λ_=>mu) (λ_ _=>False) R:=by
  obtain rfl|⟨a,hal,rfl⟩:=hr
  . let(lA,tA):=zeW h p;show#[by show -(m7 P.es e)<=_;lia,λmu n pa R g hg=>?_];let a:=ha mu n pa.pl;let h2:=tA mu n pa;let pl:=pa.pl
    walk_at "s"
    show hg _
  . let(e2,p2,_):=Ku h hal;let lt:=xA p2;have ea:jI P.es e (.int (a:Nat))=(e2.r.bt a).map λy=>(("behind" : Str),y):=by rw[<-p2.bta];rfl
    rw[ea];show#[by rw[ck];show lt,λmu n pa R g hg=>?_];let a:=ha mu n pa.pl;let h2:=Zv h p2 pa;let pl:=pa.pl
    walk_at "s"
    rw[fF]at hg;show hg _
 let(lA,go):=part;generalize jI P.es e r=A at lA go;obtain⟨x,b,er⟩|⟨w,t,er,hw⟩:=aeq p.he.ok
 . let(lT,eT):=zfL h p er;have et:kQ P.es k e=(oq P.es e.w k x).map λy=>(("turns" : Str),y):=by unfold kQ;rw[er]
   rw[et];show#[by rw[eI,ck];lia,λmu n pa=>fD λR K=>?_];let h1:=tu pa.pl p.at_;let h2:=eT mu n pa;let pl:=pa.pl;let l3:=ua (oq P.es e.w k x);rw[er]at h1
   walk_at "n1"
   show go mu n pa R _ λo=>?_
   walk_at "s"
   rw[d0,fF]at K;show K
 . have et:kQ P.es k e=[]:=by
    unfold kQ;cases q:e.r with
    |wh x b=>rw[q]at er;cases er;show absurd hw ()
    |_=>rfl
   rw[et,eJ];show#[(),λmu n pa=>fD λR K=>?_];let h1:=tu pa.pl p.at_;let pl:=pa.pl;rw[er]at h1
   walk_at "n1"
   show go mu n pa R _ λo=>?_
   walk_at "s"
   show K
def cqi(f:PV->PV)(j:-L<=100000)(hs:∀a∈L,Ct b te k r a λy=>y=f a):Cq b te k r L (L.map f):=by
 have:=pV f j hs
 grind
def zfF{r:ah}(ok:r.ok):(∃b n j,r=.call b n j)\/∃w t,r.pv=ZB (ZH w::t)/\(w== "call")=M:=by
 cases r with
 |leaf w ps=>show .inr #[w,ps,O,ok.1.2.2]
 |call b n j=>show Zl #[b,n,j,O]
 |wh e b=>show .inr #[_,_,O,by decide +kernel]
 |iff e b c=>show .inr #[_,_,O,by decide +kernel]
def ox(k:Nat):ah->ot
 |.call (ZH x) m _=>[nZ m,"at " ++ lF k,"leave " ++ m].map λy=>(y,nZ x)
 |_=>[]
open A in
def Kw{P:Pg}(h:P.fine){k:Nat}{e:cS}(p:Pl P k e):-(ox k e.r)<=3/\∀mu n,PA mu n P->j4 [.ptr n,.int (k:Nat)] mu=!(.own (.lst ((ox k e.r).map jc)),mu):=by
 let hl:=oX h;let hk:=p.lt;let ok:=p.he.ok;obtain⟨b,m,as,er⟩|⟨w,t,er,hw⟩:=zfF ok
 . rw[er]at ok ⊢;let((x,rfl,hx),hn,_,_,nz):=ok;let(f1,f2,_):=Gq k ();have l6:-("leave " : Str)=6:=by decide +kernel
   let l4:=HD;let Rw:=hx.1;show#[cK _,λmu n pa=>fD λR K=>?_];let h1:=tu pa.pl p.at_;let pl:=pa.pl;rw[er]at h1
   walk_at "f"
   apply p_
   . apply tp
     . walk_at "e"
     . walk_at "n"
     . walk_at "n"
     . show cqi (λa=>.tup [a,.str (nZ x)]) (Nat.le_add_left 3 99997) λa _=>?_;intro _
       walk_at "s"
       show#[rfl,rfl,rfl,rfl]
   . show K
 . have eb:ox k e.r=[]:=by
    unfold ox;split
    . rename_i q;rw[q]at er;cases er;show absurd hw ()
    . rfl
   rw[eb];show#[gz _,λmu n pa=>fD λR K=>?_];let h1:=tu pa.pl p.at_;let pl:=pa.pl;rw[er]at h1;have hw:(not (w== "call"))=true:=by rw[hw];rfl
   walk_at "s"
   show K
end
noncomputable section
variable [HK][FN](s:Nat->Bool)
def ah.lc:ah->Bool
 |.leaf _ _=>G
 |.call _ _ _=>G
 |_=>M
def m8:ah:=.iff (ZB [ZH "num",ZI 0]) .nil .nil
mutual
def ah.sil:ah->Nat->ah
 |.leaf w ps,k=>if s k then m8 else .leaf w ps
 |.call b n as,k=>if s k then m8 else .call b n as
 |.wh x b,k=>.wh x (b.sil (k+1))
 |.iff x b c,k=>.iff x (b.sil (k+1)) (c.sil (k+1+b.cnt))
def Rows.sil:Rows->Nat->Rows
 |.nil,_=>.nil
 |.cons r rs,k=>.cons (r.sil k) (rs.sil (k+r.cnt))
end
def Kx:m8.ok:=#[#[1,[],.num 0 0,by decide,gz _,λx h=>(by cases h)],trivial,trivial]
structure ui(r r':ah)(k:Nat):Prop where
 cnt:r'.cnt=r.cnt
 ok:r.ok->r'.ok
 dep:r'.dep<=2*((r.dep+1)/2)
 sp:r'.sp=true->r.sp=true
 bt:∀y∈r'.bt k,y∈r.bt k
 es:∀w ab bl,r'.es w ab bl k=((r.es w ab bl k).zipIdx k).map λx=>{ x.1 with r:=x.1.r.sil s x.2 }
structure SsR(rs fA:Rows)(k:Nat):Prop where
 cnt:fA.cnt=rs.cnt
 ok:rs.ok->fA.ok
 dep:fA.dep<=2*(rs.dep/2)+1
 sp:fA.sp=true->rs.sp=true
 bt:∀y∈fA.lbt k,y∈rs.lbt k
 es:∀w ab bl,fA.es w ab bl k=((rs.es w ab bl k).zipIdx k).map λx=>{ x.1 with r:=x.1.r.sil s x.2 }
 ln:fA.lnum k=rs.lnum k
 nn:rs≠.nil->fA≠.nil
def ui.one(F:r.cnt=1)(z:r.dep=1)(D:kP k∈r.bt k)(he:∀(j:ah),j=r\/j=m8->∀w ab bl,j.es w ab bl k=[#[w,ab,bl,j]])(hs:r.sil s k=if s k then m8 else r):ui s r (r.sil s k) k:=by
 have es:∀w ab bl,(r.sil s k).es w ab bl k=((r.es w ab bl k).zipIdx k).map λx=>{ x.1 with r:=x.1.r.sil s x.2 }:=λw ab bl=>by rw[he r (Zl O),he (r.sil s k) ()];rfl
 by_cases h:s k=G
 . rw[aE h]at hs;show#[?_,λ_=>?_,?_,λq=>?_,λy hy=>?_,es]
   . rw[hs,F];rfl
   . rw[hs];show Kx
   . rw[hs,z];show cK _
   . rw[hs]at q;cases q
   . rw[hs]at hy;rw[ga.mp hy];show D
 . rw[bh h]at hs;show#[?_,λg=>?_,?_,λq=>?_,λy hy=>?_,es]
   . rw[hs]
   . grind
   . rw[hs,z];decide
   . rwa [hs]at q
   . rwa [hs]at hy
open A in
mutual
theorem ah.ss:∀(r:ah)(k:Nat),ui s r (r.sil s k) k
 |.leaf w ps,k=>ui.one s O O cf (λz h _ _ _=>by rcases h with rfl|rfl<;>rfl) O
 |.call b n D,k=>ui.one s O O cf (λz h _ _ _=>by rcases h with rfl|rfl<;>rfl) O
 |.wh x b,k=>by
  let h:=b.ss (k+1);show#[congrArg (·+1) h.cnt,λq=>#[q.1,h.ok q.2],?_,λ_=>O,λy hy=>hy,λw j bl=>?_]
  . have:=h.dep;show (b.sil s (k+1)).dep+1<=2*((b.dep+1+1)/2);lia
  . show _::(b.sil s (k+1)).es w _ 0 (k+1)=List.map _ ((_::b.es w _ 0 (k+1)).zipIdx k);rw[h.es];rfl
 |.iff x b c,k=>by
  let h:=b.ss (k+1);let g:=c.ss (k+1+b.cnt);show#[?_,λq=>#[q.1,h.ok q.2.1,g.ok q.2.2],?_,λq=>?_,λy hy=>?_,λw j bl=>?_]
  . show (b.sil s (k+1)).cnt+(c.sil s _).cnt+1=b.cnt+c.cnt+1;rw[h.cnt,g.cnt]
  . have:=h.dep;have:=g.dep;show max (b.sil s (k+1)).dep (c.sil s _).dep+1<=2*((max b.dep c.dep+1+1)/2);lia
  . obtain q|q:=Bool.or_eq_true_iff.mp q
    . show Bool.or_eq_true_iff.mpr (Zl (h.sp q))
    . show Bool.or_eq_true_iff.mpr (.inr (g.sp q))
  . have hy:y∈[kP k]++(if (b.sil s (k+1)).sp then (b.sil s (k+1)).lbt (k+1) else [])++(if (c.sil s (k+1+b.cnt)).sp then (c.sil s (k+1+b.cnt)).lbt (k+1+(b.sil s (k+1)).cnt) else []):=hy;rw[h.cnt]at hy;obtain hy|hy:=dy.mp hy
    . show gW _ ?_;obtain hy|hy:=dy.mp hy
      . show gW _ hy
      . show gy _ ?_;split at hy
        . rename_i q;rw[aE (h.sp q)];show h.bt y hy
        . cases hy
    . show gy _ ?_;split at hy
      . rename_i q;rw[aE (g.sp q)];show g.bt y hy
      . cases hy
  . show _::((b.sil s (k+1)).es w _ 0 (k+1)++(c.sil s (k+1+b.cnt)).es w _ 1 (k+1+(b.sil s (k+1)).cnt))=List.map _ ((_::(b.es w _ 0 (k+1)++c.es w _ 1 (k+1+b.cnt))).zipIdx k);rw[h.cnt,h.es,g.es,List.zipIdx_cons,List.zipIdx_append,Rows.es_len,fr,d0];rfl
theorem Rows.ss:∀(rs:Rows)(k:Nat),SsR s rs (rs.sil s k) k
 |.nil,k=>#[O,id,cK 1,id,λy h=>h,λw j bl=>O,O,id]
 |.cons r rs,k=>by
  let h:=r.ss k;let g:=rs.ss (k+r.cnt);show#[?_,λq=>#[h.ok q.1,g.ok q.2],?_,λq=>?_,λy hy=>?_,λw j bl=>?_,?_,λ_ q=>by cases q]
  . show (r.sil s k).cnt+(rs.sil s _).cnt=r.cnt+rs.cnt;rw[h.cnt,g.cnt]
  . have:=h.dep;have:=g.dep;show max ((r.sil s k).dep+1) (rs.sil s _).dep<=2*(max (r.dep+1) rs.dep/2)+1;lia
  . obtain q|q:=Bool.or_eq_true_iff.mp q
    . show Bool.or_eq_true_iff.mpr (Zl (h.sp q))
    . show Bool.or_eq_true_iff.mpr (.inr (g.sp q))
  . cases rs with
    |nil=>show h.bt y hy
    |cons z rs=>
     have hy:y∈((Rows.cons z rs).sil s (k+r.cnt)).lbt (k+(r.sil s k).cnt):=hy;rw[h.cnt]at hy;show g.bt y hy
  . show (r.sil s k).es w j bl k++(rs.sil s (k+r.cnt)).es w j bl (k+(r.sil s k).cnt)=List.map _ ((r.es w j bl k++rs.es w j bl (k+r.cnt)).zipIdx k);rw[h.cnt,h.es,g.es,List.zipIdx_append,ah.es_len,d0]
  . cases rs with
    |nil=>rfl
    |cons z rs=>
     show ((Rows.cons z rs).sil s (k+r.cnt)).lnum (k+(r.sil s k).cnt)=_;rw[h.cnt];show g.ln
end
def Fn.sil(f:Fn)(k:Nat):Fn:={ f with rows:=f.rows.sil s k }
def gL:List Fn->Nat->List Fn
 |[],_=>[]
 |f::fs,k=>f.sil s k::gL fs (k+f.rows.cnt)
def Pg.sil(P:Pg):Pg:=#[P.boxes,P.grants,gL s P.fns 0,P.rows.sil s (d8 P.fns)]
abbrev uj(es:List cS)(k:Nat):List cS:=(es.zipIdx k).map λx=>{ x.1 with r:=x.1.r.sil s x.2 }
theorem B2:∀(a b:List Fn)(k:Nat),gL s (a++b) k=gL s a k++gL s b (k+d8 a)
 |[],b,k=>rfl
 |f::a,b,k=>by show f.sil s k::gL s (a++b) (k+f.rows.cnt)=f.sil s k::(_++gL s b (k+(f.rows.cnt+d8 a)));rw[B2 a b,Nat.add_assoc]
def B3(P:Pg):(P.sil s).fs=gL s P.fs 0:=by show gL s P.fns 0++_=gL s (P.fns++_) 0;rw[B2,iX];rfl
theorem KD:∀(fs:List Fn)(k:Nat),d8 (gL s fs k)=d8 fs
 |[],k=>rfl
 |f::fs,k=>by show (f.rows.sil s k).cnt+d8 (gL s fs _)=f.rows.cnt+d8 fs;rw[(f.rows.ss s k).cnt,KD fs]
theorem KG:∀{fs:List Fn}{k:Nat},∀g∈gL s fs k,∃f∈fs,∃j,g=f.sil s j
 |[],k,g,h=>by cases h
 |f::fs,k,g,h=>by
  obtain rfl|h:=bP.mp h
  . show#[f,cf,k,O]
  . let(z,h1,h2):=KG g h;show#[z,dP _ h1,h2]
theorem B4:∀{fs:List Fn}{k:Nat},∀b∈i9 fs k,(b.1.sil s b.2,b.2)∈i9 (gL s fs k) k/\b.1.sil s b.2∈gL s fs k
 |[],k,b,h=>by cases h
 |f::fs,k,b,h=>by
  show _∈(f.sil s k,k)::i9 (gL s fs (k+f.rows.cnt)) (k+(f.rows.sil s k).cnt)/\_;rw[(f.rows.ss s k).cnt];obtain rfl|h:=bP.mp h
  . show#[cf,cf]
  . let(h1,h2):=B4 b h;show#[dP _ h1,dP _ h2]
theorem X8:∀{fs:List Fn}{k:Nat},∀f∈fs,∃j,(f,j)∈i9 fs k
 |f::fs,k,g,h=>by
  obtain rfl|h:=bP.mp h
  . show#[k,cf]
  . let(j,h):=X8 g h;show#[j,dP _ h]
theorem uk{α:Type}(g:Fn->α)(j:∀f k,g (f.sil s k)=g f):∀(fs:List Fn)(k:Nat),(gL s fs k).map g=fs.map g
 |[],k=>rfl
 |f::fs,k=>by show g (f.sil s k)::(gL s fs _).map g=_;rw[j,uk g j fs];rfl
theorem KI:∀(fs:List Fn)(k:Nat),qJ (gL s fs k) k=uj s (qJ fs k) k
 |[],k=>rfl
 |f::fs,k=>by show (f.rows.sil s k).es f.name .non 0 k++qJ (gL s fs (k+f.rows.cnt)) (k+(f.rows.sil s k).cnt)=List.map _ ((f.rows.es f.name .non 0 k++qJ fs (k+f.rows.cnt)).zipIdx k);let h:=f.rows.ss s k;rw[h.cnt,h.es,KI fs,List.zipIdx_append,Rows.es_len,d0]
def B5(P:Pg):(P.sil s).es=uj s P.es 0:=by rw[<-qE,B3,KI,qE]
def uq{P:Pg}{e:cS}(h:P.es[k]?=!e):(P.sil s).es[k]?=some { e with r:=e.r.sil s k }:=by rw[B5,dS,List.getElem?_zipIdx,h];simp
theorem KL{K:List aV}:∀(es:List cS)(i:Nat),pos K i (uj s es i)=pos K i es
 |[],i=>rfl
 |e::es,i=>by have:=KL (K:=K) es (i+1);show (if _=K then i::pos K (i+1) (uj s es (i+1)) else pos K (i+1) (uj s es (i+1)))=_;rw[this];rfl
def KO(P:Pg)(K:List aV):pos K 0 (P.sil s).es=pos K 0 P.es:=by rw[B5,KL]
def KP{P:Pg}(h:P.fine):(P.sil s).fine:=by
 have F:(P.sil s).fns.map Fn.name=P.fns.map Fn.name:=uk s Fn.name (λ_ _=>O) _ _;let dd:=(P.rows.ss s (d8 P.fns)).dep;let d1:=h.dd;have fd:∀f∈(P.sil s).fns,f.rows.ok/\f.rows.dep<=11/\∃g∈P.fns,g.name=f.name/\g.params=f.params/\g.rank=f.rank:=λf z=>by let(g,D,j,rfl):=KG s f z;let q:=g.rows.ss s j;have:=q.dep;have:=h.fd g D;show#[q.ok (h.ok.fn g D).1,by show (g.rows.sil s j).dep<=11;lia,g,D,O,O,O]
 show#[#[λf z=>#[(fd f z).1,fx (fd f z).2.1 ()],(P.rows.ss s _).ok h.ok.rw,by show (P.rows.sil s _).dep<=30;lia,?_,λf z=>?_,?_,by rw[F];show h.ok.nd,λf z=>?_],h.bx,h.gr,λf z=>?_,by show (P.rows.sil s _).dep<=11;lia,λf z=>(fd f z).2.1,by rw[F];show h.mn]
 . show d8 (gL s P.fns 0)+(P.rows.sil s _).cnt<=44;rw[KD,(P.rows.ss s _).cnt];show h.ok.ct
 . let(_,_,g,D,_,e,_):=fd f z;rw[<-e];show h.ok.pm g D
 . have:=congrArg List.length F;rw[ck,ck]at this;rw[this];show h.ok.fl
 . let(_,_,g,D,e,_):=fd f z;rw[<-e];show h.ok.nl g D
 . let(_,_,g,D,_,_,e):=fd f z;rw[<-e];show h.rk g D
end
noncomputable section
variable [HK][FN]
def KS:PV->Str
 |ZB (ZH x::_)=>x
 |_=>""
abbrev qV(q:Str×PV):PV:=ZB [ZH q.1,q.2]
def hq(f:Fn):List (Str×PV):=(f.name,f.rank)::f.params.map λp=>(KS p,PV.non)
def gt(ts:List (Str×PV×PV))(fs:List Fn):List (Str×PV):=ts.map (λt=>(t.1,t.2.2))++fs.flatMap hq
def KU(h:-x<=100000):ψ (ZH x)=!x:=aE h
def zeo{P:Pg}(h:P.fine)(eb:P.boxes=j.map xq)(hb:-j<=60)(mu:Mu):AT [P.pv] mu=!(Zs (R (c7 ((gt j P.fns).map (·.1)))),mu):=by
 let(bx,gr,fns,D):=P;let eb:=eb;subst eb;let P:Pg:=#[j.map xq,gr,fns,D];have e2:qG P.pv (ZI 2)=zL (P.fns.map Fn.pv):=O;let hf:=h.ok.fl;have F:∀f∈P.fns,-(hq f)<=5:=λf hm=>by let(xs,ex,lx,_):=h.ok.pm f hm;simp[hq,ex,lx]
 have ep:AS [P.pv] mu=!(Zs (R ((gt j P.fns).map qV)),mu):=by
  show fD λZN K=>?_
  walk_at "s"
  show i7 (λv i w n=>(n=λ_=>mu)/\∃o2 o3 o4 o5,w=[zS P.pv,zO ((gt j (P.fns.take i)).map qV),o2,o3,o4,o5]) #[O,J,J,J,J,?_] ?_ ?_
  . rw[List.take_zero,gt,List.flatMap_nil,eJ,fF];rfl
  . rintro i _ _ _ N hx av ⟨rfl,o2,o3,o4,o5,rfl⟩;rw[dS]at hx;let(f,hy,rfl):=de hx;let hm:=fL hy;let(xs,ex,lx,_):=h.ok.pm f hm;let l0:=uM (l:=P.fns.take i) λg hg=>F g (List.mem_of_mem_take hg);rw[iS]at l0;have lL:-((gt j (P.fns.take i)).map qV)<=60+5*4:=by rw[ck,gt,eI,ck];lia
    have eq:(gt j (P.fns.take (i+1))).map qV=(gt j (P.fns.take i)).map qV++[PV.tup [ZH f.name,f.rank]]++xs.map λx=>PV.tup [ZH x,.non]:=by rw[List.take_add_one,hy,gt,Option.toList_some,List.flatMap_append,gt];simp[hq,ex,KS]
    have e4:aa 4=aa 4:=O;generalize (gt j (P.fns.take i)).map qV=L at lL eq;let av:=av [zS P.pv,zO (L++[PV.tup [ZH f.name,f.rank]]++xs.map λx=>PV.tup [ZH x,.non]),zT f.name,zS f.rank,zL f.params,zL f.rows.pvs] _ #[O,_,_,_,_,by rw[eq]];rw[ex]at av;show lq _ (ZB [ZH f.name,f.rank,R f.params,R f.rows.pvs]) _ _;rw[ex]
    walk_at "s"
    show av
  . rintro _ _ ⟨rfl,o2,o3,o4,o5,rfl⟩;rw[ck,List.take_length]
    walk_at "s"
    show K
 have lh:-(gt j P.fns)<=100:=by let l0:=uM (l:=P.fns) (f:=hq) F;rw[gt,eI,ck];lia
 rw[c7,fF];show fD λZN K=>?_
 walk_at "s"
 show K
def zf0(h:E fo v m x v1 m1)(hx:x.pv=ZA n)(j:∀i,(m1 i)[n]?=!(!(gf C l)))(D:sr l f=!p):E (jB C f fo) v m (Zp p) v1 m1:=λi=>sZ (h i) hx (j i) D
def zeL{r:ah}(ok:r.ok):∃w t,r.pv=ZB (ZH w::t)/\(w== "out")=r.out:=by
 cases r with
 |leaf w ps=>show#[w,ps,O,O]
 |call b n D=>show#[_,_,O,by show (("call" : Str)== "out")=M;decide +kernel]
 |wh e b=>show#[_,_,O,by show (("while" : Str)== "out")=M;decide +kernel]
 |iff e b c=>show#[_,_,O,by show (("if" : Str)== "out")=M;decide +kernel]
theorem KW:∀ss:List Str,pH (ss.map Sum.inr)=!ss
 |[]=>rfl
 |x::ss=>by show (pH (ss.map Sum.inr)).map _=_;rw[KW ss];rfl
def nd(es:List cS)(k:Nat):List Str:=("at " ++ lF k)::match es[k]? with
 |some e=>if e.r.out then ["let " ++ lF k,"out " ++ lF k] else []
 |none=>[]
def K2(es:List cS)(k:Nat):-(nd es k)<=3:=by
 unfold nd;split
 . split<;>simp
 . simp
def kR(x:Str):List Str:=["enter " ++ x,"leave " ++ x]
def nL(ts:List (Str×PV×PV))(P:Pg):List Str:=((gt ts P.fns).map λq=>("box " ++ q.1:Str))++(P.fs.map Fn.name).flatMap kR++(List.range (-P.es)).flatMap (nd P.es)
def K_(h:P.fine)(hb:-j<=60):-(nL j P)<4000:=by
 let el:=oX h;let hf:=h.ok.fl;let l1:=uM (f:=hq) (c:=5) λf hm=>by let(xs,ex,D,_):=h.ok.pm f hm;simp[hq,ex,D]
 let l2:=uM (l:=P.fs.map Fn.name) (f:=kR) λx _=>cK 2;let F:=uM (l:=List.range (-P.es)) λk _=>K2 P.es k;have af:-(P.fs.map Fn.name)<=5:=by simp[Pg.fs];lia
 rw[g9]at F;rw[nL,eI,eI,ck,gt,eI,ck];lia
end
local macro_rules | `(tactic| walk_at "y")=>`(tactic| (with_reducible apply zf0); walk_at "e"; exact rfl; (intro _; assumption); exact rfl)
noncomputable section
variable [HK][FN]
def Le{P:Pg}(h:P.fine){D:List (Str×PV×PV)}(eb:P.boxes=D.map xq)(hb:-D<=60)(hl:∀t∈D,-t.1<=100)(mu:Mu):∃e7,w4 [P.pv] mu=!(Zs (R (c7 (pU (uX (nL D P))))),e7):=by
 let(d,B,hd,dk,ei):=BD h.ok mu;have hm:(mu++some (gf "Plan" (Q0 P.es (-mu+1) (nG d)))::B)[-mu]?=!(!(gf "Plan" (Q0 P.es (-mu+1) (nG d)))):=Td;have pl:jb (mu++some (gf "Plan" (Q0 P.es (-mu+1) (nG d)))::B) (-mu) P.es:=#[_,_,hm];generalize mu++some (gf "Plan" (Q0 P.es (-mu+1) (nG d)))::B=fN at ei hm pl;let el:=oX h;let hf:=h.ok.fl;have hql:∀f∈P.fns,-(hq f)<=5:=λf hm=>by let(xs,ex,lx,_):=h.ok.pm f hm;simp[hq,ex,lx]
 have lh:-(gt D P.fns)<=100:=by let F:=uM (l:=P.fns) (f:=hq) hql;rw[gt,eI,ck];lia
 have hx:∀q∈gt D P.fns,-q.1<=100:=λq hq=>by
  obtain hq|hq:=dy.mp hq
  . let(t,ht,rfl):=dA.mp hq;show hl t ht
  . let(f,hf,hq):=List.mem_flatMap.mp hq;obtain rfl|hq:=bP.mp hq
    . show h.ok.nl f hf
    . let(xs,ex,_,sx):=h.ok.pm f hf;rw[ex,fF]at hq;let(x,hx,rfl):=dA.mp hq;show(sx x hx).1
 let en:=zeo h eb hb fN;rw[c7,fF]at en;have ebd:AV [ZA (-mu)] fN=!(Zs (R (c7 (P.fs.map Fn.name))),fN):=by
  have e1:AA [nG d]=zO (c7 (P.fns.map Fn.name)):=by show ((pH (d.map (·.1))).bind _)=_;rw[dk,show (P.fns.map λf=>(Sum.inr f.name:d_))=(P.fns.map Fn.name).map Sum.inr from (fF ..).symm,KW,cr,aE (by rw[ck];lia)]
  have e2:c7 (P.fs.map Fn.name)=c7 (P.fns.map Fn.name)++[ZH "main"]:=by simp[Pg.fs]
  rw[e2];have l1:-(c7 (P.fns.map Fn.name))<=4:=by simpa using hf
  show fD λZN K=>?_
  walk_at "s"
  show K
 let enm:=Ti pl ();have l6:-("enter " : Str)=6/\-("leave " : Str)=6/\-("let " : Str)=4/\-("out " : Str)=4:=by decide +kernel
 let(l61,l62,l63,l64):=l6;let l4:=HD;show#[fN,fD λZN K=>?_]
 walk_at "n1"
 show n_ (p6 (λ_=>BB (ls:=[Zp P.pv]) (Y1:=#[_,mu]) O O ei) O O ?_);apply n_;apply p6
 . apply tp
   . walk_at "e"
   . walk_at "n"
   . walk_at "n"
   . show pV (λq:Str×PV=>ZH ("box " ++ q.1)) () λa ha=>?_;let h1:=KU (x:=a.1) (by have:=hx a ha;lia);have:=hx a ha;intro _
     walk_at "s"
     show#[O,O,O,O]
 . show O
 . walk_at "n"
 walk_at "s"
 have lA:-(List.map (λq:Str×PV=>PV.str ("box " ++ q.1)) (gt D P.fns))<=100:=by rwa [ck]
 have eA:List.map (λq:Str×PV=>PV.str ("box " ++ q.1)) (gt D P.fns)=c7 ((gt D P.fns).map λq=>("box " ++ q.1:Str)):=(fF ..).symm;have af:-(P.fs.map Fn.name)<=5:=by simp[Pg.fs];lia
 have hN:∀x∈P.fs.map Fn.name,-x<=100:=λx hx=>by let(f,hf,rfl):=dA.mp hx;show(t9 h f hf).2.2
 have le:∀L:List Str,-(L.flatMap kR)<=2*-L:=λL=>uM λx _=>cK 2;have ek:c7 (nL D P)=c7 ((gt D P.fns).map λq=>("box " ++ q.1:Str))++c7 ((P.fs.map Fn.name).flatMap kR)++c7 ((List.range (-P.es)).flatMap (nd P.es)):=by rw[nL,t_,t_]
 rw[<-eA]at ek;generalize List.map (λq:Str×PV=>PV.str ("box " ++ q.1)) (gt D P.fns)=A at lA ek;generalize P.fs.map Fn.name=ns at af hN ek;show i7 (λv0 i v m=>(m=λ_=>fN)/\∃o,v=[zS P.pv,zS (ZA (-mu)),zO (A++c7 ((ns.take i).flatMap kR)),o,J]) #[O,J,?_] ?_ ?_
 . rw[List.take_zero,List.flatMap_nil];show _=[_,_,!(Lc.own (R (A++[]))),_,_];rw[eJ]
 . rintro i _ _ _ N hi j ⟨rfl,o,rfl⟩;rw[dS]at hi;let(x,hy,rfl):=de hi;let h1:=hN x (fL hy);let h2:=KU (x:=x) ();let F:=le (ns.take i);rw[iS]at F;rw[List.take_add_one,hy,Option.toList_some,pK,t_,<-d6]at j;let l1:=ua ((ns.take i).flatMap kR);generalize (ns.take i).flatMap kR=L at F l1 j
   walk_at "s"
   show j _ _ #[O,_,O]
 rintro _ _ ⟨rfl,o3,rfl⟩;rw[ck,List.take_length];let F:=le ns;let l1:=ua (ns.flatMap kR);have lB:-(A++c7 (ns.flatMap kR))<=110:=by rw[eI];lia
 generalize A++c7 (ns.flatMap kR)=B at lB ek
 walk_at "s"
 show i7 (λv0 i v m=>(m=λ_=>fN)/\∃o,v=[zS P.pv,zS (ZA (-mu)),zO (B++c7 ((List.range i).flatMap (nd P.es))),o3,o]) #[O,J,?_] ?_ ?_
 . show _=[_,_,!(Lc.own (R (B++[]))),_,_];rw[eJ]
 . rintro i _ _ _ N hi j ⟨rfl,o,rfl⟩;rw[dS]at hi;let(k,hy,rfl):=de hi;let(hk,e):=eM.mp hy;rw[List.getElem_range]at e;subst e;rw[g9]at hk;let(e,p,_):=Ku h hk;let(f1,f2,_):=Gq i ();let hr:=tu pl p.at_;let(w,t,er,ew):=zeL p.he.ok;rw[er]at hr;let F:=uM (l:=List.range i) (f:=nd P.es) λk _=>K2 P.es k;rw[g9]at F;rw[List.range_succ,pK,t_,<-d6]at j;let l1:=ua ((List.range i).flatMap (nd P.es));generalize (List.range i).flatMap (nd P.es)=L at F l1 j;unfold nd at j;rw[p.at_]at j;dsimp only at j;rw[<-ew]at j
   walk_at "f"
   apply FO
   . walk_at "e"
   . intro q;rw[aE q,show ∀X:List PV,X++c7 (("at " ++ lF i)::["let " ++ lF i,"out " ++ lF i])=X++[ZH ("at " ++ lF i)]++[ZH ("let " ++ lF i),ZH ("out " ++ lF i)] from λX=>(d6 X [_] [_,_]).symm]at j
     walk_at "s"
     show j _ _ #[O,_,O]
   . intro q;rw[bh (by rw[q];simp)]at j
     walk_at "s"
     show j _ _ #[O,_,O]
 rintro _ _ ⟨rfl,o,rfl⟩;rw[ck,g9,<-ek];show p_ (λ_=>BY (l:=Zp _) O O (K_ h hb)) K
section
variable (s:Nat->Bool)
def q5(P:Pg):(P.sil s).es.length=-P.es:=by rw[B5,ck,List.length_zipIdx]
open A in
def zfX(P:Pg)(j:List (Str×PV×PV)):∀y∈nL j (P.sil s),y∈nL j P:=λy hy=>by
 have h1:gt j (P.sil s).fns=gt j P.fns:=by unfold gt;rw[List.flatMap_def,List.flatMap_def,show (P.sil s).fns.map hq=P.fns.map hq from uk s hq (λ_ _=>O) _ _]
 have h2:(P.sil s).fs.map Fn.name=P.fs.map Fn.name:=by rw[B3];show uk s Fn.name (λ_ _=>O) _ _
 unfold nL at hy ⊢;rw[h1,h2,q5]at hy;obtain hy|hy:=dy.mp hy
 . show gW _ hy
 . show gy _ ?_;let(k,hk,hy):=List.mem_flatMap.mp hy;show List.mem_flatMap.mpr #[k,hk,?_];obtain⟨e,D⟩:∃e,P.es[k]?=!e:=#[_,gg ∅];unfold nd at hy ⊢;rw[uq s D]at hy;rw[D];obtain rfl|hy:=bP.mp hy
   . show cf
   . show dP _ ?_;dsimp only at hy ⊢;split at hy
     . rename_i q;rw[aE]
       . show hy
       . revert q;cases e.r with
         |leaf w ps=>unfold ah.sil;split<;>intro q;cases q;show q
         |call b n F=>unfold ah.sil;split<;>intro q<;>cases q
         |wh x b=>intro q;cases q
         |iff x b c=>intro q;cases q
     . cases hy
end
end
noncomputable section
variable [HK][FN]
abbrev kp(l:List aV):PV:=ZB (l.map wU)
noncomputable abbrev rt (k:Nat) (t:Int) (y:S3):List aV:=[!(.inl (k:Int)),!(.inl t),!(.inr y.1),!(.inr y.2.1),!(.inr y.2.2)]
def JC(l:List aV):Prop:=∃k t y,l=rt k t y
theorem abp:∀k:aV,SQ (wU k)=!k
 |none=>rfl
 |some (.inl _)=>rfl
 |some (.inr _)=>rfl
theorem JD:∀l:List aV,BV (l.map wU)=!l
 |[]=>rfl
 |k::l=>by show ((SQ (wU k)).bind λx=>(BV (l.map wU)).map (x::·))=_;rw[abp,JD l];rfl
theorem JF:∀L:List (List aV),BW (L.map kp)=!L
 |[]=>rfl
 |l::L=>by show ((BV (l.map wU)).bind λx=>(BW (L.map kp)).map (x::·))=_;rw[JD,JF L];rfl
def aeu(h:∀l∈L,JC l):Vu L=G:=by
 cases L with
 |nil=>rfl
 |cons l L=>
  let(k,t,y,rfl):=h l cf;unfold Vu;rw[iP,all_eq_true];show#[O,λx j=>?_];let(q,z,D,rfl):=h x j;rfl
def Oj(h:f Y=!(l,Y1))(D:l.pv=R (L.map kp))(hz:-L<9000)(j:∀l∈L,JC l):sX f Y=!(Zs (R ((jV L).map kp)),Y1):=by unfold sX;rw[h,cr,D];show ((BW (L.map kp)).bind _)=_;rw[JF,cr,aE #[hz,aeu j]]
theorem Om:∀l:List (List aV),-(uY k l)<=-l+1
 |[]=>cK _
 |x::l=>by
  have:=Om (k:=k) l;unfold uY;split
  . grind
  . split<;>simp only[c5]<;>lia
theorem JG:∀l:List (List aV),-(jV l)<=-l
 |[]=>cK _
 |k::l=>by let h1:=JG l;let h2:=Om (k:=k) (jV l);show -(uY k (jV l))<=_;rw[c5];lia
structure RR where
 A:ot
 B:List S3
 C:ot
 D:ot
def rA(k:Nat)(a:Str×Str):List aV:=rt k 0 (a.1,a.2,"at " ++ lF k)
def rC(k:Nat)(a:Str×Str):List aV:=rt k 2 ("back",a.1,a.2)
def rD(k:Nat)(a:Str×Str):List aV:=rt k 3 ("leave",a.1,a.2)
def RR.ks(k:Nat)(ZI:RR):List (List aV):=ZI.A.map (rA k)++(ZI.B.map (rt k 1)++(ZI.C.map (rC k)++ZI.D.map (rD k)))
def FR(P:Pg)(l:List aV):Prop:=∃k t y e,Pl P k e/\om P k e.r t y/\l=rt k t y
def FR.is:FR P l->JC l:=λ⟨k,t,y,_,_,_,e⟩=>#[k,t,y,e]
structure RR.ok(P:Pg)(k:Nat)(R:RR):Prop where
 lA:-R.A<=103
 lB:-R.B<=41
 lC:-R.C<=3
 lD:-R.D<=47
 tA:∀mu n,PA mu n P->jH [.ptr n,.int (k:Nat)] mu=!(.own (.lst (R.A.map jc)),mu)
 zfy:∀mu n,PA mu n P->qt [.ptr n,.int (k:Nat)] mu=!(.own (.lst (R.B.map mV)),mu)
 tC:∀mu n,PA mu n P->j4 [.ptr n,.int (k:Nat)] mu=!(.own (.lst (R.C.map jc)),mu)
 tD:∀mu n,PA mu n P->lu [.ptr n,.int (k:Nat)] mu=!(.own (.lst (R.D.map jc)),mu)
def RR.ok.len{ZI:RR}(h:ZI.ok P k):-(ZI.ks k)<=194:=by let(h1,h2,h3,h4,_):=h;unfold RR.ks;simp only[eI,ck];lia
def RR.isR{R:RR}:∀l∈R.ks k,JC l:=λl j=>by unfold RR.ks at j;simp only[dy,dA]at j;rcases j with ⟨y,_,rfl⟩|⟨y,_,rfl⟩|⟨y,_,rfl⟩|⟨y,_,rfl⟩<;>show#[_,_,_,O]
section
variable (s:Nat->Bool)
def jS(P:Pg)(k:Nat):Bool:=(ub P.es k).lc&&s k
structure Re(P:Pg)(k:Nat)(F ZT:RR):Prop where
 a:∀y∈ZT.A,y∈F.A
 a2:∀y∈F.A,hJ y.1=true->y∈ZT.A
 si:jS s P k=true->ZT.B=[]/\ZT.C=[]
 st:jS s P k=false->ZT.B=F.B/\ZT.C=F.C
 d:∀y∈ZT.D,y∈F.D
 nk:∀y∈F.B,hJ y.1=false
def Ll{P:Pg}:∀y∈Qg (P.sil s).es a,y∈Qg P.es a:=λy hy=>by
 unfold Qg at hy ⊢;cases h:P.es[a]? with
 |none=>
  have:(P.sil s).es[a]?=J:=by rw[List.getElem?_eq_none_iff,q5];show List.getElem?_eq_none_iff.mp h
  grind
 |some e=>
  rw[uq s h]at hy;show(e.r.ss s a).bt y hy
def zf4:jy (ZB [ZH "num",ZI 0])=[]:=by
 let(n,h1,_):=xP Kx.1;have:zA (ZB [ZH "num",ZI 0])=[]:=by
  generalize zA (ZB [ZH "num",ZI 0])=a at h1;cases h1 with
  |num=>rfl
 unfold jy xz;rw[this];rfl
def zgu(r:ah)(k:Nat):on (r.sil s k) jy=on r jy:=by
 have h:on m8 jy=[]:=by show List.map _ (jy _)=_;rw[zf4];rfl
 cases r with
 |leaf w ps=>unfold ah.sil;split;show h;rfl
 |call b n z=>unfold ah.sil;split;show h;rfl
 |wh x b=>rfl
 |iff x b c=>rfl
open A in
def zeh{P:Pg}(z:e'.w=e.w)(D:e'.ab=e.ab):m7 (P.sil s).es e'=m7 P.es e:=by
 unfold m7;rw[z,D];split
 . rename_i j _;unfold wi ub;cases h:P.es[j.toNat]? with
   |none=>
    have:(P.sil s).es[j.toNat]?=J:=by rw[List.getElem?_eq_none_iff,q5];show List.getElem?_eq_none_iff.mp h
    rw[this]
   |some e=>
    rw[uq s h];show congrArg _ (zgu s e.r _)
 . rfl
def zcZ{P:Pg}(D:e'.w=e.w)(F:e'.ab=e.ab)(r:PV):(∀y∈jI (P.sil s).es e' r,y∈jI P.es e r)/\∀y∈jI P.es e r,hJ y.1=G->y∈jI (P.sil s).es e' r:=by
 let h:=zeh s (P:=P) D F;cases r with
 |int a=>
  show#[λy hy=>?_,λy hy q=>?_]
  . let(z,j,rfl):=dA.mp hy;show dA.mpr #[z,Ll s z j,O]
  . let(z,j,rfl):=dA.mp hy;show absurd q (by show ¬ hJ "behind"=G;decide +kernel)
 |_=>show#[λy hy=>by unfold jI at hy ⊢;rwa [h]at hy,λy hy _=>by unfold jI at hy ⊢;rwa [h]]
open A in
def zf6{P:Pg}:(∀y∈kQ (P.sil s).es k { e with r:=e.r.sil s k },y∈kQ P.es k e)/\∀y∈kQ P.es k e,hJ y.1=M:=by
 unfold kQ;cases h:e.r with
 |wh x b=>
  show#[λy hy=>?_,λy hy=>?_]
  . let(z,D,rfl):=dA.mp hy;show dA.mpr #[z,?_,O];unfold oq at D ⊢;rw[KO]at D;obtain D|D:=dy.mp D
    . show gW _ D
    . show gy _ ?_;revert D;cases (pos (gs e.w k 0) 0 P.es).getLast? with
      |some j=>show Ll s z
      |none=>show id
  . let(z,D,rfl):=dA.mp hy;show(by decide +kernel:hJ "turns"=M)
 |leaf w ps=>show#[λy hy=>by dsimp only at hy;unfold ah.sil at hy;split at hy<;>first |cases hy |(rename_i q;split at q<;>cases q),λy hy=>by cases hy]
 |call b n as=>show#[λy hy=>by dsimp only at hy;unfold ah.sil at hy;split at hy<;>first |cases hy |(rename_i q;split at q<;>cases q),λy hy=>by cases hy]
 |iff x b c=>show#[λy hy=>(by cases hy),λy hy=>(by cases hy)]
open A in
def adK(h:P.fine)(hF:∀n,FN.fn n->∃f∈P.fns,f.name=n):∃f g:Nat->RR,∀k,k< -P.es->(f k).ok P k/\(g k).ok (P.sil s) k/\Re s P k (f k) (g k):=by
 suffices w:∀k,∃UV:RR×RR,k< -P.es->UV.1.ok P k/\UV.2.ok (P.sil s) k/\Re s P k UV.1 UV.2 by let(f,hf):=Classical.axiomOfChoice w;show#[λk=>(f k).1,λk=>(f k).2,hf]
 intro k;by_cases hk:k< -P.es
 . let hQ:=KP s h;let hl:=oX h;let(e,p,_):=Ku h hk;let(e',q,_):=Ku hQ (by rw[q5];show hk);let ee:=q.at_;rw[uq s p.at_]at ee;let ee:=fw ee;subst ee;let(r,hr,ha):=zfo p.at_ p.num ();let(lA,tA):=Kv h p hr (ha _ _ p.at_ O O O O);let(lA',tA'):=Kv hQ q (by rw[q5];show hr) (ha _ _ q.at_ O O O (KO s P _));let(lC,tC):=Kw h p;let(lC',tC'):=Kw hQ q;let(b,hb,eb):=p.bo;let(kK,_):=B4 s b hb;rw[<-B3]at kK;have nn:b.1.rows≠.nil:=λz=>by rw[z]at eb;cases eb
   let ew:=Rows.es_w _ _ _ _ _ _ eb;let bs:=b.1.rows.ss s b.2;let a1:=zcZ s (P:=P) (e':={ e with r:=e.r.sil s k }) O O r;let a2:=zf6 s (P:=P) (k:=k) (e:=e);have hp:∀f∈P.fns,∃g∈(P.sil s).fns,g.name=f.name/\g.params=f.params:=λf hf=>by let(j,hj):=X8 f hf;show#[_,(B4 s _ hj).2,O,O]
   have fin:∀B B',Dn P k B->Dn (P.sil s) k B'->(jS s P k=G->B'=[]/\ox k (e.r.sil s k)=[])->(jS s P k=M->B'=B/\ox k (e.r.sil s k)=ox k e.r)->∃UV:RR×RR,k< -P.es->UV.1.ok P k/\UV.2.ok (P.sil s) k/\Re s P k UV.1 UV.2:=λB B' d d' h1 h2=>by
    show#[(#[_,B,_,m6 b k],#[_,B',_,m6 (b.1.sil s b.2,b.2) k]),λ_=>#[#[lA,d.lB,lC,JU h hb,tA,d.told,tC,λmu n pa=>JY h p hb ew nn pa],#[lA',d'.lB,lC',JU hQ kK,tA',d'.told,tC',λmu n pa=>JY hQ q kK ew (bs.nn nn) pa],λy hy=>?_,λy hy z=>?_,h1,h2,λy hy=>?_,d.nk]]
    . obtain hy|hy:=dy.mp hy
      . show gW _ (a1.1 y hy)
      . show gy _ (a2.1 y hy)
    . obtain hy|hy:=dy.mp hy
      . show gW _ (a1.2 y hy z)
      . show absurd z (by rw[a2.2 y hy];simp)
    . revert hy;show y∈m6 (b.1.sil s b.2,b.2) k->_;unfold m6;show y∈(if k=(b.1.rows.sil s b.2).lnum b.2/\(b.1.rows.sil s b.2).sp=G then ((b.1.rows.sil s b.2).lbt b.2).map _ else [])->_;rw[bs.ln];intro hy;split at hy
      . rename_i z;rw[aE #[z.1,bs.sp z.2]];let(x,hx,rfl):=dA.mp hy;show dA.mpr #[x,bs.bt x hx,O]
      . cases hy
   have D:k<256:=()
   let er:=p.rwa;cases F:jS s P k with
   |true=>
    let(z1,z2):=Bool.and_eq_true_iff.mp F;rw[er]at z1;have en:e.r.sil s k=m8:=by
     cases h:e.r with
     |leaf w ps=>show aE z2
     |call b n as=>show aE z2
     |wh x b=>rw[h]at z1;cases z1
     |iff x b c=>rw[h]at z1;cases z1
    obtain⟨B,d⟩:∃B,Dn P k B:=by let(B,d,_):=Ks h h p p D hF (λf hf=>#[f,hf,O,O]) O;show#[B,d]
    show fin B [] d (Zz q D (w:="if") (by show (e.r.sil s k).pv=_;rw[en];rfl) ()) (λ_=>#[O,by rw[en];rfl]) λz=>by rw[F]at z;cases z
   |false=>
    have no:∀z:jS s P k=G,False:=λz=>by rw[F]at z;cases z
    unfold jS at F;rw[er]at F;by_cases z:e.r.lc=G
    . rw[z]at F;have en:e.r.sil s k=e.r:=by
       have F:s k=M:=F;cases h:e.r with
       |leaf w ps=>show bh (by rw[F];simp)
       |call b n as=>show bh (by rw[F];simp)
       |wh x b=>rw[h]at z;cases z
       |iff x b c=>rw[h]at z;cases z
      let(B,d,d'):=Ks h hQ p q D hF hp en;show fin B B d d' (λz=>(no z).elim) λ_=>#[O,by rw[en]]
    . cases h:e.r with
      |leaf w ps=>rw[h]at z;show absurd O z
      |call b n as=>rw[h]at z;show absurd O z
      |wh x b=>show fin [] [] (Zz p D (w:="while") (by rw[h];rfl) ()) (Zz q D (w:="while") (by show (e.r.sil s k).pv=_;rw[h];rfl) ()) (λz=>(no z).elim) λ_=>#[O,by rw[h];rfl]
      |iff x b c=>show fin [] [] (Zz p D (w:="if") (by rw[h];rfl) ()) (Zz q D (w:="if") (by show (e.r.sil s k).pv=_;rw[h];rfl) ()) (λz=>(no z).elim) λ_=>#[O,by rw[h];rfl]
 . show#[(#[[],[],[],[]],#[[],[],[],[]]),λq=>absurd q hk]
end
def rl(f:Nat->RR)(n:Nat):List (List aV):=(List.range n).flatMap λk=>(f k).ks k
def Qa(j:∀k,k< -P.es->(f k).ok P k)(z:n<=-P.es):-(rl f n)<=194*n:=by
 have:=uM (l:=List.range n) λk hk=>(j k ∅).len
 rwa [g9]at this
def Lm:∀l∈rl f n,JC l:=λl j=>by let(k,_,q):=List.mem_flatMap.mp j;show RR.isR l q
def Lo{P:Pg}(h:P.fine){f:Nat->RR}(hf:∀k,k< -P.es->(f k).ok P k)(mu:Mu):∃e7,Hi [P.pv] mu=!(.own (.lst ((jV (rl f (-P.es))).map kp)),e7):=by
 let(d,B,hd,_,ei):=BD h.ok mu;have pa:PA (mu++some (gf "Plan" (Q0 P.es (-mu+1) (nG d)))::B) (-mu) P:=#[_,_,Td,hd];generalize mu++some (gf "Plan" (Q0 P.es (-mu+1) (nG d)))::B=fN at ei pa;let pl:=pa.pl;let hl:=oX h;let en:=Ti pl ();show#[fN,fD λR K=>?_]
 walk_at "n1"
 show n_ (p6 (λ_=>BB (ls:=[.sh P.pv]) (Y1:=#[_,mu]) rfl rfl ei) rfl rfl ?_)
 walk_at "s"
 show i7 (λv0 i v m=>m=(λ_=>fN)/\∃o,v=[zS P.pv,zS (.ptr (-mu)),zO ((rl f i).map kp),o]) #[rfl,none,rfl] ?_ ?_
 . rintro i _ _ _ N hx bm ⟨rfl,o,rfl⟩;rw[dS]at hx;let(k,hy,rfl):=de hx;let(hk,e):=eM.mp hy;rw[List.getElem_range]at e;subst e;rw[g9]at hk;let lL:=Qa hf (ny hk);have er:rl f (i+1)=rl f i++(f i).ks i:=by unfold rl;rw[List.range_succ,pK]
   rw[er]at bm;generalize rl f i=L at lL bm;let(lA,lB,lC,lD,tA,zfy,tC,tD):=hf i hk;let tA:=tA fN _ pa;let zfy:=zfy fN _ pa;let tC:=tC fN _ pa;let tD:=tD fN _ pa;let(f1,f2,_):=Gq i ()
   walk_at "s"
   show bm _ _ #[rfl,zI (i:Nat),?_];simp only[RR.ks,d0,fF,d6];rfl
 . rintro _ _ ⟨rfl,o,rfl⟩;rw[ck,g9]
   walk_at "s"
   let lL:=Qa hf (cK _);show p_ (λ_=>Oj (l:=.sh _) (Y1:=#[_,_]) rfl rfl () Lm) K
end
noncomputable section
variable [HK][FN]
section
variable {ι:Type}{v v0 v1 v2 v3:d4}{m m1 m2 m3:ι->Mu}{f g fo fv fk:EF}{l x y o:Lc}{N:d4->(ι->Mu)->Prop}{R:Lc->(ι->Mu)->Prop}
def eq_self(x:Str):eW (ZH x) (ZH x)=zS (.bl G):=by show some (Lc.sh (.bl (x==x)))=_;rw[mh]
def zfT(j:v.map Zg=v0)(h:E c v0 (λi=>(m i).map λ_=>J) b v1 m1):E (sR c) v m b v m:=λi=>by subst j;unfold sR;rw[show c (Ev.peek #[v,m i])=some (b,#[v1,m1 i]) from h i];rfl
def zfN(h1:E fv v m x v1 m1)(D:lv v1 i=!(nG d))(h2:E fk v1 m1 y v2 m2)(hk:MJ y.pv=!k)(h3:lv v2 i=!(nG d))(hl:-d<100000)(F:v2.set i (!(Zs (nG (uV d k x.pv))))=v3)(q:N v3 m2):dv (FJ i fk fv) v m N R:=Zl #[v3,m2,q,λj=>by let z:=n5 D;let a1:=n5 h3;subst F;unfold FJ;rw[h1,cr,z];dsimp only;rw[h2,cr,hk,a1];show (if -(d.map (·.1))<100000 then _ else _)=_;rw[aE ∅,VH];rfl]
def Lu{N:d4->(Unit->Mu)->Prop}{ZI:Lc->(Unit->Mu)->Prop}(h0:lv v i=!p)(hv:v.set i (zS (.ptr (-mu)))=v1)(h:∀N':d4->(Unit->Mu)->Prop,(∀v2 gS q,v2[i]?=!(zS (.ptr (-mu)))->gS[-mu]?=!(!q)->N (v2.set i (!(.own q))) (λ_=>gS.set (-mu) none)->N' v2 λ_=>gS)->dv F v1 (λ_=>mu++[!p]) N' λ_ _=>False):dv (Bw i (wQ i F)) v (λ_=>mu) N ZI:=by
 rcases h (λv2 m2=>∃q,v2[i]?=!(zS (.ptr (-mu)))/\(m2 ⟨⟩)[-mu]?=!(!q)/\N (v2.set i (!(.own q))) λ_=>(m2 ⟨⟩).set (-mu) none) (λv2 gS q h1 h2 h3=>⟨q,h1,h2,h3⟩) with ⟨v2,m2,⟨q,h1,h2,h3⟩,e⟩|⟨_,_,_,⟨⟩,_⟩;show .inl #[_,_,h3,λj=>?_];have s:sealV i #[v,mu]=!#[v1,mu++[!p]]:=by unfold sealV;rw[n5 h0,hv]
 show (((sealV i #[v,mu]).bind F).bind _)=_;rw[s,cr,e ⟨⟩,cr];unfold openV;grind
end
def agi(h:∀ZI:Lc->(Unit->Mu)->Prop,(∀m,ZI r m)->s_ (env0 n ps []).vs λv=>dv g v (λ_=>mu) (λ_ _=>False) ZI):∃e7,cY n g ps mu=!(r,e7):=by obtain⟨_,_,⟨⟩,_⟩|⟨x,v',m',rfl,e⟩:=h (λx _=>x=r) λ_=>rfl;show#[_,aO (e ⟨⟩)]
section
variable {ι:Type}{v v0 v1 v2 v3:d4}{m m1 m2 m3:ι->Mu}{f fo fi fv:EF}{l x y o:Lc}{N:d4->(ι->Mu)->Prop}{R:Lc->(ι->Mu)->Prop}
def zfp:E Vo v m (Zs (nG [])) v m:=λ_=>O
def m9(ks:List (List aV)):PV:=.dx HK.hk ks (ks.map λ_=>.bl G)
def zcm:E Vt v m (Zs (m9 [])) v m:=λ_=>O
theorem B6:∀l:List aV,pX (l.map wU)=!l
 |[]=>rfl
 |k::l=>by show (okP (wU k)).bind _=_;rw[show okP (wU k)=some k by rcases k with _|_|_<;>rfl,cr,B6 l];rfl
theorem Lv:∀{ks:List (List aV)},k∈ks->(j0 (ks.zip (ks.map λ_=>PV.bl G)) k).isSome=G
 |x::ks,h=>by
  show (if x=k then _ else _:Option PV).isSome=_;by_cases e:x=k
  . rw[aE e];rfl
  . rw[bh e];show Lv ((bP.mp h).resolve_left (Ne.symm e))
theorem LA:∀{ks:List (List aV)},k∉ks->j0 (ks.zip (ks.map λ_=>PV.bl G)) k=J
 |[],_=>rfl
 |x::ks,h=>by show (if x=k then _ else _:Option PV)=_;rw[bh λe:x=k=>h (e▸cf)];show LA λq=>h (dP _ q)
def ahB(h:k∈ks):wE (kp k) (m9 ks)=zS (.bl M):=by show (pX (k.map wU)).bind _=_;rw[B6,cr,aE O,Lv h];rfl
def afG(h1:E fv v m (Zp (.bl G)) v1 m1)(D:lv v1 i=!(m9 ks))(h2:E fi v1 m1 (Zp (kp k)) v2 m2)(h3:lv v2 i=!(m9 ks))(hl:-ks<100000)(hn:k∉ks)(F:v2.set i (!(Zs (m9 (ks++[k]))))=v3)(q:N v3 m2):dv (wG i fi fv) v m N R:=Zl #[v3,m2,q,λj=>by let z:=n5 D;let a1:=n5 h3;let e:=LA hn;subst F;unfold wG;rw[h1,cr];dsimp only;rw[z];show ((fi #[v1,m1 j]).bind _)=_;rw[h2,cr];dsimp only;rw[a1];show (pX (k.map wU)).bind _=_;rw[B6,cr,aE #[O,hl,e]];unfold m9;rw[d0];rfl]
def za9(h1:E fv v m x v1 m1)(h2:E fo v1 m1 o v2 m2)(j:o.pv=ZA n)(D:E fi v2 m2 y v3 m3)(hk:MJ y.pv=!k)(z:∀i,(m3 i)[n]?=!(!(nG d)))(F:-d<100000)(q:N v3 λi=>(m3 i).set n (!(nG (uV d k x.pv)))):dv (wt fo fi fv) v m N R:=Zl #[v3,_,q,λi=>by unfold wt;rw[h1,cr,h2,cr,D,cr,j,hk];show (match (m3 i)[n]? with |some (!(.dk ks ps))=>_ |_=>_)=_;rw[z];show (if -(d.map (·.1))<100000 then _ else _)=_;rw[aE ∅,VH]]
def zgo(h:E f v m x v1 m1)(hx:x.pv=.lst ps):E (wq f) v m (Zp (ZB ps)) v1 m1:=λi=>by unfold wq;rw[h,cr,hx]
theorem B7{γ:Type}{tc:TF}{e:γ->PV}{p:γ->Bool}{r:d4}:∀{L:List γ}{o:Option Lc}{acc:List PV}{mu:Mu},-acc+-L<=100000->(∀a∈L,E tc (zS (e a)::r) (λmu:Mu=>mu) (p a) (zS (e a)::r) λmu=>mu)->dF (aC 0) tc (aa 0) (L.map e) #[o::r,mu] acc=!(acc++(L.filter p).map e,mu)
 |[],o,acc,mu,_,_=>by rw[List.filter_nil,rQ,eJ];rfl
 |a::L,o,acc,mu,D,hs=>by
  let h:=hs a cf mu;rw[c5]at D;show (tc #[zS (e a)::r,mu]).bind _=_;rw[h,cr];cases z:p a with
  |true=>
   show (if -acc<100000 then dF (aC 0) tc (aa 0) (L.map e) #[zS (e a)::r,mu] (acc++[e a]) else J)=_;rw[aE (),B7 (by rw[eI,List.length_singleton];lia) λc j=>hs c (dP _ j),List.filter_cons_of_pos z,fr,d6];rfl
  |false=>
   show dF (aC 0) tc (aa 0) (L.map e) #[zS (e a)::r,mu] acc=_;rw[B7 () λc j=>hs c (dP _ j),List.filter_cons_of_neg ()]
def xB{γ:Type}{F:IF}{tc:TF}{L:List γ}{e:γ->PV}(p:γ->Bool){r:d4}(h1:E F v m (L.map e) v1 m1)(z:tj j v1=v2)(D:(j.map λi=>(v2[i]?).join)=r)(hl:-L<=100000)(hs:∀a∈L,E tc (zS (e a)::r) (λmu:Mu=>mu) (p a) (zS (e a)::r) λmu=>mu):E (bU F 1 j (aC 0) tc (aa 0)) v m (Zs (.lst ((L.filter p).map e))) v2 m1:=λi=>by subst D z;let h2:=B7 (o:=J) (mu:=m1 i) (by rw[f_];lia) hs;rw[eF (h1 i) (by rw[n9];show h2),n9];rfl
end
end
local macro_rules | `(tactic| walk_at "y")=>`(tactic| first
 | (with_reducible first | exact zfp | exact zcm)
 | (with_reducible apply zfT); (dsimp only[List.map,Zg,Lc.pv]<;>exact rfl); walk_at "e"
 | (with_reducible apply zgo); walk_at "e"; exact rfl)
noncomputable section
variable [HK][FN]
open A in
def LB{L M:List Str}(h:∀x∈L,x∈M)(ax:-M<=90000):xc [R (L.map PV.str),R (M.map PV.str)] mu=!(Zp (.bl G),mu):=by
 show fD λR K=>?_
 walk_at "s"
 show i7 (λv0 i v m=>(m=λ_=>mu)/\∃d o,v=[zL (L.map PV.str),zL (M.map PV.str),!(Zs (nG d)),o]/\-d<=i/\∀y∈M.take i,(iG d (.inr y)).isSome=G) #[O,[],J,O,cK _,λy hy=>(by cases hy)] ?_ ?_
 . rintro i _ _ _ N hx bm ⟨rfl,d,o,rfl,ld,hd⟩;rw[dS]at hx;let(y,hy,rfl):=de hx;let hi:=(eM.mp hy).1;let lp:=Yh (k:=.inr y) (v:=.bl G) (l:=d)
   walk_at "f"
   show zfN e_c O (e_v O) O O () O (bm _ _ #[O,uV d (.inr y) (.bl G),zT y,O,(),λz hz=>?_]);rw[List.take_add_one,hy,Option.toList_some]at hz;rw[QX];split
   . rfl
   . rename_i q;obtain hz|hz:=dy.mp hz
     . show hd z hz
     . show absurd (by rw[ga.mp hz]) q
 rintro _ _ ⟨rfl,d,o,rfl,ld,hd⟩;rw[ck,List.take_length]at hd
 walk_at "s"
 show i7 (λv0 i v m=>(m=λ_=>mu)/\∃o,v=[zL (L.map PV.str),zL (M.map PV.str),!(Zs (nG d)),o]) #[O,_,O] ?_ ?_
 . rintro i _ _ _ N hx bm ⟨rfl,o,rfl⟩;rw[dS]at hx;let(y,hy,rfl):=de hx;have q:qa (ZH y) (nG d)=zS (.bl false):=by show some (Lc.sh (.bl (not (iG ((d.map (·.1)).zip (d.map (·.2))) (.inr y)).isSome)))=_;rw[VH,hd y (h y (fL hy))];rfl
   walk_at "s"
   show bm _ _ #[rfl,_,rfl]
 rintro _ _ ⟨rfl,o,rfl⟩
 walk_at "s"
 show K
def afI{L M:List (List aV)}(h:∀x∈L,x∈M)(F:M.Pairwise Jh)(ax:-M<=90000):A_ [R (L.map kp),R (M.map kp)] mu=!(Zp (.bl G),mu):=by
 show fD λR K=>?_
 walk_at "s"
 show i7 (λv0 i v m=>(m=λ_=>mu)/\∃o,v=[zL (L.map kp),zL (M.map kp),!(Zs (m9 (M.take i))),o]) #[O,J,O] ?_ ?_
 . rintro i _ _ _ N hx D ⟨rfl,o,rfl⟩;rw[dS]at hx;let(y,hy,rfl):=de hx;let(hi,e):=eM.mp hy;rw[List.take_add_one,hy,Option.toList_some]at D
   walk_at "f"
   show afG e_c O (e_v O) O (by rw[iS];lia) (λz=>?_) O (D _ _ #[O,_,O]);let(j,hj,q):=List.mem_take_iff_getElem.mp z;have:=List.pairwise_iff_getElem.mp F j i () hi ();rw[q,e]at this;show absurd this (List.lt_irrefl _)
 rintro _ _ ⟨rfl,o,rfl⟩;rw[ck,List.take_length]
 walk_at "s"
 show i7 (λv0 i v m=>(m=λ_=>mu)/\∃o,v=[zL (L.map kp),zL (M.map kp),!(Zs (m9 M)),o]) #[O,_,O] ?_ ?_
 . rintro i _ _ _ N hx D ⟨rfl,o,rfl⟩;rw[dS]at hx;let(y,hy,rfl):=de hx;let q:=ahB (h y (fL hy))
   walk_at "s"
   show D _ _ #[O,_,O]
 rintro _ _ ⟨rfl,o,rfl⟩
 walk_at "s"
 show K
def dO(B:Int)(j:Nat):Bool:=Builtin.bitAnd (B/2 ^ ((j:Int)%40).toNat) 1==1
section
variable (s:Nat->Bool)
def e_:List ah->Nat->PD->PD
 |[],_,d=>d
 |r::rs,k,d=>e_ rs (k+1) (bif r.lc&&s k then uV d (.inl (k:Int)) (.bl G) else d)
theorem ur:∀(a b:List ah)(k:Nat)(d:PD),e_ s (a++b) k d=e_ s b (k+-a) (e_ s a k d)
 |[],b,k,d=>rfl
 |r::a,b,k,d=>by show e_ s (a++b) (k+1) _=_;rw[ur a b,show k+1+-a=k+-(r::a) by simp only[c5];omega];rfl
theorem xN:∀(a:List ah)(k:Nat)(d:PD),-(e_ s a k d)<=-d+-a
 |[],k,d=>cK _
 |r::a,k,d=>by let h1:=xN a (k+1) (bif r.lc&&s k then uV d (.inl (k:Int)) (.bl G) else d);let h2:=Yh (k:=.inl (k:Int)) (v:=.bl G) (l:=d);show -(e_ s a (k+1) _)<=-d+(-a+1);cases h:r.lc&&s k<;>rw[h]at h1<;>simp only[cond_true,cond_false]at h1 ⊢<;>lia
theorem TX:∀(a:List ah)(k:Nat)(d:PD)(j:Nat)(r:ah),a[j]?=!r->(∀i:Nat,k<=i->(iG d (.inl (i:Int))).isSome=M)->(iG (e_ s a k d) (.inl ((k+j:Nat):Int))).isSome=(r.lc&&s (k+j))
 |[],k,d,j,r,h,_=>by cases h
 |x::a,k,d,0,r,h,z=>by
  cases h;have keep:∀(a:List ah)(i:Nat)(d:PD),k<i->(iG (e_ s a i d) (.inl (k:Int))).isSome=(iG d (.inl (k:Int))).isSome:=λa=>by
   induction a with
   |nil=>show λ_ _ _=>O
   |cons y a D=>
    intro i d hi;show (iG (e_ s a (i+1) _) _).isSome=_;rw[D _ _ ()];cases y.lc&&s i
    . rfl
    . show (iG (uV d _ _) _).isSome=_;rw[QX,bh ()]
  show (iG (e_ s a (k+1) _) (.inl ((k:Nat):Int))).isSome=(x.lc&&s k);rw[keep _ _ _ ()];cases x.lc&&s k
  . show z k ()
  . show (iG (uV d _ _) _).isSome=_;rw[QX,aE O];rfl
 |x::a,k,d,j+1,r,h,z=>by
  have:=TX a (k+1) (bif x.lc&&s k then uV d (.inl (k:Int)) (.bl G) else d) j r h λi hi=>by
   cases x.lc&&s k
   . show z i ()
   . show (iG (uV d _ _) _).isSome=_;rw[QX,bh ()];show z i ()
  rwa [show k+1+j=k+(j+1) by omega]at this
end
abbrev MD(mu:Mu)(t:Nat)(d:PD):Mu:=mu.set t (!(nG d))
def B8(h:t< -mu):(MD mu t d)[t]?=!(!(nG d)):=kt h
theorem ut(B:Int):∀(n:Nat)(rs:Rows)(k:Nat)(d:PD)(mu:Mu)(t:Nat),rs.ok->rs.dep<=n->rs.cnt<=1000->-d+rs.cnt<=1000->t< -mu->mT n [R rs.pvs,ZI (k:Nat),ZI B,ZA t] (MD mu t d)=!(Zp (ZB [R (rs.sil (dO B) k).pvs,ZI ((k+rs.cnt:Nat):Int)]),MD mu t (e_ (dO B) rs.rws k d))
 |0,rs,k,d,mu,t,ok,hd,hc,wo,ht=>absurd hd (by have:=rs.dep_pos;lia)
 |n+1,rs,k,d,mu,t,ok,hd,hc,wo,ht=>fD λR K=>by
  walk_at "s"
  show xl (λfA v m=>∃(k':Nat)(acc':List PV)(d':PD)(o6 o7 o8 o9 iO:Option Lc),v=[zL rs.pvs,zI (k:Nat),zI B,zS (ZA t),zO acc',zI (k':Nat),o6,o7,o8,o9,iO]/\(m=λ_=>MD mu t d')/\fA.ok/\fA.dep<=n+1/\k'+fA.cnt=k+rs.cnt/\-acc'+fA.cnt<=1000/\-d'+fA.cnt<=1000/\acc'++(fA.sil (dO B) k').pvs=(rs.sil (dO B) k).pvs/\e_ (dO B) fA.rws k' d'=e_ (dO B) rs.rws k d) ?_ ?_ #[k,[],d,J,J,J,J,J,O,O,ok,hd,O,by rw[f_];lia,wo,O,O]
  . rintro r fA v m N ⟨k',acc',d',o6,o7,o8,o9,iO,rfl,rfl,hW,h1,h2,h3,h5,h4,h6⟩ bm;simp only[Rows.dep]at h1;simp only[Rows.cnt]at h2 h3 h5;let rc:=r.cnt_pos;have hm:∀D,∀_:Unit,(MD mu t D)[t]?=_:=λD _=>B8 ht;let lk:=xN (dO B) r.rws k' d';rw[ah.rws_len]at lk;have fin:∀(o6 o7 o8 o9 iO:Option Lc)(p:PV)(D:PD),p=(r.sil (dO B) k').pv->D=e_ (dO B) r.rws k' d'->N [zL rs.pvs,zI (k:Nat),zI B,zS (.ptr t),zO (acc'++[p]),zI ((k'+r.cnt:Nat):Int),o6,o7,o8,o9,iO] λ_=>MD mu t D:=λo6 o7 o8 o9 iO p D ep eD=>by
     subst ep eD;show bm _ _ #[k'+r.cnt,_,_,o6,o7,o8,o9,iO,rfl,rfl,hW.2,(),(),by rw[eI,List.length_singleton];lia,(),?_,?_]
     . rw[<-h4,d6];rfl
     . rw[<-h6,Rows.rws,ur,ah.rws_len]
    have ea:bf (.int (k':Nat)) (.int 1)=zI ((k'+1:Nat):Int):=rfl;have eh:As (.int B) (.int ((k':Int)%40))=zI (B/2 ^ ((k':Int)%40).toNat):=by have:(0:Int)<=(k':Int)%40:=kA _ ();show (if decide ((0:Int)<=(k':Int)%40)=true then !(Lc.sh (.int (B/2 ^ ((k':Int)%40).toNat))) else none)=_;rw[k5 this];rfl
    have en:∀b,dO B k'=b->eW (.int (Builtin.bitAnd (B/2 ^ ((k':Int)%40).toNat) 1)) (.int 1)=zS (.bl b):=λb h=>by subst h;rfl
    show(show lq (aC 6) r.pv _ _ from ?_);cases q:r.lc with
    |true=>
     obtain⟨w,t',er,hw⟩:∃w t',r.pv=ZB (ZH w::t')/\jO w=M:=by cases r with
      |leaf w ps=>show#[w,ps,O,Hu hW.1.1]
      |call b m as=>show#[_,_,O,()]
      |_=>cases q
     have es:r.sil (dO B) k'=if dO B k'=G then m8 else r:=by cases r<;>first |rfl |cases q
     have em:e_ (dO B) r.rws k' d'=bif dO B k' then uV d' (.inl (k':Int)) (.bl G) else d':=by cases r<;>first |rfl |cases q
     have ec:r.cnt=1:=by cases r<;>first |rfl |cases q
     rw[er];cases hs:dO B k' with
     |true=>
      let en:=en _ hs
      walk_at "f"
      show za9 (x:=Zp (.bl G)) (o:=Zp (ZA t)) (y:=Zp (ZI (k':Nat))) (by walk_at "e") (by walk_at "e") rfl (by walk_at "e") rfl (hm _) () ?_;simp only[oQ,Lc.pv]
      walk_at "s"
      rw[<-ec];show fin _ _ _ _ _ _ _ (by rw[es,hs];rfl) (by rw[em,hs];rfl)
     |false=>
      let en:=en _ hs
      walk_at "s"
      rw[<-ec];show fin _ _ _ _ _ _ _ (by rw[es,hs];show er.symm) (by rw[em,hs];rfl)
    |false=>
     cases r with
     |leaf w ps=>cases q
     |call b m as=>cases q
     |wh x b=>
      simp only[ah.cnt]at h2 h3 h5;simp only[ah.dep]at h1;let ih:=ut B n b (k'+1) d' mu t hW.1.2 () () () ht
      walk_at "s"
      show(show dv (eN _ _ [PV.lst b.pvs]) _ _ _ _ from ?_)
      walk_at "s"
      rw[show k'+1+b.cnt=k'+(ah.wh x b).cnt by simp only[ah.cnt];omega];show fin _ _ _ _ _ _ _ rfl rfl
     |iff x b c=>
      simp only[ah.cnt]at h2 h3 h5;simp only[ah.dep]at h1;let ih:=ut B n b (k'+1) d' mu t hW.1.2.1 () () () ht;let lb:=xN (dO B) b.rws (k'+1) d';rw[Rows.rws_len]at lb;let qB:=ut B n c (k'+1+b.cnt) (e_ (dO B) b.rws (k'+1) d') mu t hW.1.2.2 () () () ht
      walk_at "s"
      show(show dv (eN _ _ [PV.lst b.pvs,PV.lst c.pvs]) _ _ _ _ from ?_)
      walk_at "s"
      rw[show k'+1+b.cnt+c.cnt=k'+(ah.iff x b c).cnt by simp only[ah.cnt];omega];show fin _ _ _ _ _ _ _ rfl (by show _=e_ (dO B) (b.rws++c.rws) (k'+1) d';rw[ur,Rows.rws_len])
  . rintro v m ⟨k',acc',d',o6,o7,o8,o9,iO,rfl,rfl,_,_,h2,_,_,h4,h6⟩
    walk_at "s"
    rw[show k'=k+rs.cnt from h2,show acc'=(rs.sil (dO B) k).pvs from (eJ _).symm.trans h4,show d'=e_ (dO B) rs.rws k d from h6];show K
end
noncomputable section
variable [HK][FN]
def LD(h:P.fine)(p:Pl P k e)(mu:Mu):∃j,xb [P.pv,ZI (k:Nat)] mu=!(Zs (R (BU (e.r.bt k))),j):=by let(d,B,F,_,z):=BD h.ok mu;have D:PA (mu++some (gf "Plan" (Q0 P.es (-mu+1) (nG d)))::B) (-mu) P:=#[_,_,Td,F];generalize mu++some (gf "Plan" (Q0 P.es (-mu+1) (nG d)))::B=fN at z D;let e1:=Zv h p D;let lb:=xA p;show#[fN,aO (cT (BY (aR (aA (BB O O z) O) O O O e1) O ()))]
theorem xC:∀a b:List Fn,d8 (a++b)=d8 a+d8 b
 |[],b=>(iX _).symm
 |f::a,b=>by show f.rows.cnt+d8 (a++b)=f.rows.cnt+d8 a+d8 b;rw[xC a b];lia
def xD(t:Int):Bool:=(1==t)||((2==t)||false)
def pT:List aV->Bool
 |_::some (.inl t)::_=>xD t
 |_=>M
def pS(d:PD):List aV->Bool
 |some (.inl k)::some (.inl t)::_=>xD t&&not (iG d (.inl k)).isSome
 |_=>M
def uu:List aV->Bool
 |_::_::some (.inr w)::_=>hJ w
 |_=>M
section
variable {s:Nat->Bool}{P:Pg}{f g:Nat->RR}
def uI:l∈rl f n ↔ ∃k,k<n/\l∈(f k).ks k:=by unfold rl;grind
def lI{R:RR}:l∈R.ks k ↔ (∃y∈R.A,rA k y=l)\/(∃y∈R.B,rt k 1 y=l)\/(∃y∈R.C,rC k y=l)\/∃y∈R.D,rD k y=l:=by unfold RR.ks;simp only[dy,dA]
variable (hR:∀k,k< -P.es->Re s P k (f k) (g k))
include hR
theorem LF:∀l∈jV (rl g (-P.es)),l∈jV (rl f (-P.es)):=λl j=>by
 rw[pC,uI]at j ⊢;let(k,hk,j):=j;let r:=hR k hk;show#[k,hk,?_];rw[lI]at j ⊢;cases hs:jS s P k with
 |true=>
  let(b,c):=r.si hs;rw[b,c]at j;obtain⟨y,hy,e⟩|⟨y,hy,e⟩|⟨y,hy,e⟩|⟨y,hy,e⟩:=j
  . show Zl #[y,r.a y hy,e]
  . cases hy
  . cases hy
  . show .inr (.inr (.inr #[y,r.d y hy,e]))
 |false=>
  let(b,c):=r.st hs;rw[b,c]at j;obtain⟨y,hy,e⟩|j|j|⟨y,hy,e⟩:=j
  . show Zl #[y,r.a y hy,e]
  . show .inr (Zl j)
  . show .inr (.inr (Zl j))
  . show .inr (.inr (.inr #[y,r.d y hy,e]))
theorem zga(F:∀k,k< -P.es->(iG d (.inl (k:Int))).isSome=jS s P k):(jV (rl g (-P.es))).filter pT=(jV (rl f (-P.es))).filter (pS d):=by
 show SX (yF.filter _) (yF.filter _) λl=>?_;rw[List.mem_filter,List.mem_filter,pC,pC,uI,uI];constructor
 . rintro⟨⟨k,hk,z⟩,j⟩;let r:=hR k hk;let D:=F k hk;rw[lI]at z;cases hs:jS s P k with
   |true=>
    let(b,c):=r.si hs;rw[b,c]at z;obtain⟨y,hy,rfl⟩|⟨y,hy,e⟩|⟨y,hy,e⟩|⟨y,hy,rfl⟩:=z
    . cases j
    . cases hy
    . cases hy
    . cases j
   |false=>
    let(b,c):=r.st hs;rw[b,c]at z;rw[hs]at D;obtain⟨y,hy,rfl⟩|⟨y,hy,rfl⟩|⟨y,hy,rfl⟩|⟨y,hy,rfl⟩:=z
    . cases j
    . show#[#[k,hk,lI.mpr (.inr (Zl #[y,hy,O]))],by show (G&&not (iG d (.inl (k:Int))).isSome)=G;rw[D];rfl]
    . show#[#[k,hk,lI.mpr (.inr (.inr (Zl #[y,hy,O])))],by show (G&&not (iG d (.inl (k:Int))).isSome)=G;rw[D];rfl]
    . cases j
 . rintro⟨⟨k,hk,z⟩,j⟩;let r:=hR k hk;let D:=F k hk;have st:(not (iG d (.inl (k:Int))).isSome)=G->(g k).B=(f k).B/\(g k).C=(f k).C:=λq=>r.st ();rw[lI]at z;obtain⟨y,hy,rfl⟩|⟨y,hy,rfl⟩|⟨y,hy,rfl⟩|⟨y,hy,rfl⟩:=z
   . cases j
   . show#[#[k,hk,lI.mpr (.inr (Zl #[y,by rw[(st j).1];show hy,O]))],O]
   . show#[#[k,hk,lI.mpr (.inr (.inr (Zl #[y,by rw[(st j).2];show hy,O])))],O]
   . cases j
theorem zcA:(jV (rl g (-P.es))).filter uu=(jV (rl f (-P.es))).filter uu:=by
 show SX (yF.filter _) (yF.filter _) λl=>?_;rw[List.mem_filter,List.mem_filter];show#[λh=>#[LF hR l h.1,h.2],?_];rw[pC,pC,uI,uI];rintro⟨⟨k,hk,z⟩,j⟩;let r:=hR k hk;rw[lI]at z;obtain⟨y,hy,rfl⟩|⟨y,hy,rfl⟩|⟨y,hy,rfl⟩|⟨y,hy,rfl⟩:=z
 . show#[#[k,hk,lI.mpr (Zl #[y,r.a2 y hy j,O])],j]
 . show absurd (r.nk y hy) (by rw[show hJ y.1=G from j];simp)
 . show absurd (show hJ "back"=G from j) ()
 . show absurd (show hJ "leave"=G from j) ()
end
def LG{L:List (List aV)}(h:∀l∈L,JC l):Mq (R (L.map kp)) (R (L.map kp))=zS (.bl M):=by
 have:dH 150 (R (L.map kp)) (R (L.map kp))=!G:=jr λp j=>by let(l,z,rfl):=dA.mp j;let(k,t,y,rfl):=h l z;show mU (ig (jl IG ()) (ig (jl IG ()) (ig (jl iZ ()) (ig (jl iZ ()) (ig (jl iZ ()) Ck)))))
 show (dH 150 _ _).map _=_;rw[this];rfl
section
variable {ι:Type}{v v1 v2:d4}{m m1 m2:ι->Mu}{b:Bool}{c c':TF}
def zgC(h1:E c v m M v1 m1)(h2:E c' v1 m1 b v2 m2):E (tO c c') v m b v2 m2:=λi=>by unfold tO;rw[h1 i];show h2 i
def LH(h:E c v m G v1 m1):E (Br c) v m M v1 m1:=λi=>Vi (h i)
end
abbrev LV(p q:PV)(B:Int)(d f k o6 o7 o8 o9 iO tS t0 t4 o14 o15 o16:Option Lc):d4:=[zS p,zS q,zI B,d,f,k,o6,o7,o8,o9,iO,tS,t0,t4,o14,o15,o16]
end
local macro_rules | `(tactic| walk_at "x")=>`(tactic| exact qA)
noncomputable section
variable [HK][FN]
omit [FN] in
def law_true(ns:List Int)(hl:-ns<=63):∃mu,S6 [R (ns.map PV.int)] []=!(Zp (.bl G),mu):=by
 let(F,P,h,hF,(ts,eb,hb,LI,hB),ep):=Tg ns hl;let(fN,e1):=ep [];let(c,bi,ec):=cell_eq (ns:=ns) (k:=1) ();let ec:=ec fN;let el:=oX h;let els:=es_len P;have es:UW (ZI 1) (ZI 40)=zI 1099511627776:=O;show agi λR K=>?_
 walk_at "f"
 show Up (λv0 v m=>(m=λ_=>fN)/\∃B,v=v0.set 2 (zI B)) ?_ ?_
 . intro N' bm
   walk_at "s"
   . intro _
     walk_at "s"
     show bm _ _ #[O,_,O]
   . intro _
     walk_at "s"
     show bm _ _ #[rfl,_,rfl]
 rintro _ _ ⟨rfl,B,rfl⟩
 walk_at "s"
 show(show dv (eN _ _ (P.fns.map Fn.pv)) _ _ _ _ from ?_);show i7 (λv0 i v m=>∃mu o6 o7 o8 o9 iO,(m=λ_=>mu)/\v=LV (.lst (ns.map PV.int)) P.pv B (!(.own (nG (e_ (dO B) (lN (P.fns.take i)) 0 [])))) (zO ((gL (dO B) (P.fns.take i) 0).map Fn.pv)) (zI (d8 (P.fns.take i):Nat)) o6 o7 o8 o9 iO none none none none none none) #[_,_,_,_,_,_,rfl,rfl] ?_ ?_
 . rintro i _ _ _ N hx bm ⟨mu,o6,o7,o8,o9,iO,rfl,rfl⟩;rw[dS]at hx;let(g,hy,rfl):=de hx;let hm:=fL hy;let(ok,hd,hn):=t9 h g (gW _ hm);let lD:=xN (dO B) (lN (P.fns.take i)) 0 [];rw[vq,f_]at lD;have ct:d8 (P.fns.take i)+g.rows.cnt<=d8 P.fns:=by have:=xC (P.fns.take (i+1)) (P.fns.drop (i+1));rw[List.take_append_drop,List.take_add_one,hy,Option.toList_some,xC]at this;have:d8 [g]=g.rows.cnt:=rfl;lia
   have lA:-((gL (dO B) (P.fns.take i) 0).map Fn.pv)<=4:=by have:=congrArg List.length (uk (dO B) (λ_=>Unit.unit) (λ_ _=>rfl) (P.fns.take i) 0);rw[ck,ck,iS]at this;have:=h.ok.fl;rw[ck];lia
   let e:=ut B 40 g.rows (d8 (P.fns.take i)) (e_ (dO B) (lN (P.fns.take i)) 0 []) (mu++[!(nG (e_ (dO B) (lN (P.fns.take i)) 0 []))]) (-mu) ok () () () (by simp);rw[show MD (mu++[!(nG (e_ (dO B) (lN (P.fns.take i)) 0 []))]) (-mu) (e_ (dO B) (lN (P.fns.take i)) 0 [])=mu++[!(nG (e_ (dO B) (lN (P.fns.take i)) 0 []))] from Te]at e
   walk_at "s"
   show Lu rfl rfl λN' B9=>?_
   walk_at "s"
   show B9 _ _ _ rfl (B8 (by simp)) ?_;dsimp only[List.set]
   walk_at "s"
   show bm _ _ #[_,zT g.name,zS g.rank,zL g.params,zL g.rows.pvs,zS (.lst (g.rows.sil (dO B) (d8 (P.fns.take i))).pvs),rfl,?_];rw[List.take_add_one,hy,Option.toList_some,xC,BG,B2,ur,vq,d0,iX];show (_:d4)=LV _ _ _ (!(.own (nG (e_ _ (g.rows.rws++[]) _ _)))) (zO (_++[(g.sil _ _).pv])) (zI ((_+(g.rows.cnt+0):Nat):Int)) _ _ _ _ _ _ _ _ _ _ _;rw[eJ];rfl
 rintro _ _ ⟨mu,o6,o7,o8,o9,iO,rfl,rfl⟩;rw[ck,List.take_length];let lD:=xN (dO B) (lN P.fns) 0 [];rw[vq,f_]at lD;let e:=ut B 40 P.rows (d8 P.fns) (e_ (dO B) (lN P.fns) 0 []) (mu++[!(nG (e_ (dO B) (lN P.fns) 0 []))]) (-mu) h.ok.rw (by have:=h.dd;lia) () () (by simp);rw[show MD (mu++[!(nG (e_ (dO B) (lN P.fns) 0 []))]) (-mu) (e_ (dO B) (lN P.fns) 0 [])=mu++[!(nG (e_ (dO B) (lN P.fns) 0 []))] from Te]at e;have e2:qG P.pv (.int 3)=zL P.rows.pvs:=rfl
 walk_at "s"
 show Lu rfl rfl λN' B9=>?_
 walk_at "s"
 show B9 _ _ _ rfl (B8 (by simp)) ?_;dsimp only[List.set];have ed:e_ (dO B) P.rows.rws (d8 P.fns) (e_ (dO B) (lN P.fns) 0 [])=e_ (dO B) P.rws 0 []:=by unfold Pg.rws;rw[ur,vq,iX]
 rw[ed];let hQ:=KP (dO B) h;let(f,g,uS):=adK (dO B) h hF;have hd:∀k,k< -P.es->(iG (e_ (dO B) P.rws 0 []) (.inl (k:Int))).isSome=jS (dO B) P k:=λk hk=>by let(e,p,hr):=Ku h hk;have:=TX (dO B) P.rws 0 [] k e.r hr λ_ _=>rfl;rw[iX]at this;rw[this];unfold jS;rw[p.rwa]
 have eL:d8 P.fns+P.rows.cnt=-P.es:=els.symm;rw[eL];generalize e_ (dO B) P.rws 0 []=d at hd;generalize ((mu++_).set (-mu) (!(nG d))).set (-mu) none=gS;have aw:(P.sil (dO B)).es.length=-P.es:=q5 (dO B) P;have e20:qG P.pv (.int 0)=zL P.boxes:=rfl;have e21:qG P.pv (.int 1)=zL P.grants:=rfl;apply n_;apply p6
 . walk_at "e"
 . show rfl
 . show rfl
 show(show dv _ (LV (.lst (ns.map PV.int)) P.pv B (!(.own (nG d))) (zL ((gL (dO B) P.fns 0).map Fn.pv)) (zI (-P.es:Nat)) o6 o7 o8 o9 (zS (.lst (P.rows.sil (dO B) (d8 P.fns)).pvs)) (!(.sh (P.sil (dO B)).pv)) none none none none none) _ _ _ from ?_);let(oj,r1):=Lo h (λk hk=>(uS k hk).1) gS;let(LJ,r2):=Lo hQ (f:=g) (λk hk=>(uS k (by rwa [aw]at hk)).2.1) oj;rw[aw]at r2;let(mu5,n1):=Le hQ (D:=ts) eb hb LI LJ;let(mu6,n2):=Le h eb hb LI mu5;have hR:∀k,k< -P.es->Re (dO B) P k (f k) (g k):=λk hk=>(uS k hk).2.2;let sub:=LF hR;let st:=zga hR hd;let kd:=zcA hR;have iL:∀l∈jV (rl f (-P.es)),JC l:=λl q=>Lm l (pC.mp q);have pw:(jV (rl f (-P.es))).Pairwise Jh:=yF;have lL:-(jV (rl f P.es.length))<=8536:=by let h1:=JG (rl f (-P.es));let h2:=Qa (λk hk=>(uS k hk).1) (cK _);lia
 have ax:-(jV (rl g P.es.length))<=8536:=by let h1:=JG (rl g (-P.es));let h2:=Qa (λk hk=>(uS k (by rwa [aw]at hk)).2.1) (cK (P.sil (dO B)).es.length);rw[aw]at h2;lia
 generalize jV (rl f (-P.es))=L at r1 sub st kd iL pw lL;generalize jV (rl g (-P.es))=M at r2 sub st kd ax;have bX:∀l∈M,JC l:=λl q=>iL l (sub l q);let a1:=afI sub pw () (mu:=LJ);let a2:=LB (L:=pU (uX (nL ts (P.sil (dO B))))) (M:=pU (uX (nL ts P))) (λx hx=>Hy.mpr (zfX (dO B) P ts x (Hy.mp hx))) (by have:=JE (nL ts P);rw[ck]at this;have:=K_ h hb;lia) (mu:=mu6);have cy:∀k:Nat,qa (.int (k:Nat)) (nG d)=!(.sh (.bl (not (iG d (.inl (k:Int))).isSome))):=λk=>by show some (Lc.sh (.bl (not (iG ((d.map (·.1)).zip (d.map (·.2))) (.inl (k:Int))).isSome)))=_;rw[VH]
 walk_at "f"
 apply tq
 . apply zgC
   . apply LH
     walk_at "e"
   . apply LH
     walk_at "e"
 apply wx;apply n_;apply p6
 . apply xB (L:=L) (e:=kp) (pS d)
   . walk_at "e"
   . walk_at "n"
   . walk_at "n"
   . lia
   . intro l hl;let(k,t,y,rfl):=iL l hl;let cy:=cy k;show(show E _ _ _ (xD t&&not (iG d (.inl (k:Int))).isSome) _ _ from FI ?_ λ_=>?_)
     . walk_at "e"
     . walk_at "e"
 . show rfl
 . walk_at "n"
 let vM:=LG (L:=L.filter (pS d)) λl q=>iL l (List.mem_filter.mp q).1;let vS:=LG (L:=L.filter uu) λl q=>iL l (List.mem_filter.mp q).1;apply n_;apply tq
 . apply e_T
   . apply AI
     . apply xB (L:=M) (e:=kp) pT
       . walk_at "e"
       . walk_at "n"
       . walk_at "n"
       . lia
       . intro l hl;let(k,t,y,rfl):=bX l hl;show(show E _ _ _ (xD t) _ _ from ?_)
         walk_at "e"
     . apply FE
       . show rfl
       . walk_at "n"
     . rw[st];show vM
   . show rfl
 apply wx
 walk_at "f"
 apply tq
 . apply e_T
   . apply AI
     . apply xB (L:=M) (e:=kp) uu
       . walk_at "e"
       . walk_at "n"
       . walk_at "n"
       . lia
       . intro l hl;let(k,t,y,rfl):=bX l hl;show(show E _ _ _ (hJ y.1) _ _ from ?_)
         walk_at "e"
     . apply xB (L:=L) (e:=kp) uu
       . walk_at "e"
       . walk_at "n"
       . walk_at "n"
       . lia
       . intro l hl;let(k,t,y,rfl):=iL l hl;show(show E _ _ _ (hJ y.1) _ _ from ?_)
         walk_at "e"
     . rw[kd];show vS
   . show rfl
 apply wx
 walk_at "s"
 show i7 (λv0 i v m=>∃mu o,(m=λ_=>mu)/\v=v0.set 16 o) #[_,none,rfl,rfl] ?_ ?_
 . rintro i _ _ _ N hx bm ⟨LL,o,rfl,rfl⟩;let(hi,rfl):=Ny hx;let(e,p,_):=Ku h (show i< -P.es by lia);let p':=(Ku hQ (show i<(P.sil (dO B)).es.length by lia));let(e',p',_):=p';let(mu8,b1):=LD hQ p' LL;let(mu9,b2):=LD h p mu8;let ee:=p'.at_;rw[uq (dO B) p.at_]at ee;let ee:=fw ee;subst ee;let a3:=LB (L:=pU (uX ((e.r.sil (dO B) i).bt i))) (M:=pU (uX (e.r.bt i))) (λx hx=>Hy.mpr ((e.r.ss (dO B) i).bt x (Hy.mp hx))) (by have:=JE (e.r.bt i);rw[ck]at this;have:=xA p;lia) (mu:=mu9);rw[<-Int.zero_add (i:Int)]at b1 b2
   walk_at "s"
   show bm _ _ #[_,zI (0+i),rfl,rfl]
 rintro _ _ ⟨LL,o,rfl,rfl⟩
 walk_at "s"
 show K _
end
section
variable (K:FG)(x qq:Str)(st:Stmt)(f c:Addr)
abbrev LM:Prop:=∃(oc kV dc pm cd ct:Value)(od an:Option Addr)(sl:Array (Option Value)),K.lookup f=!#[oc,od,.func (W.fnOf x qq (qO st) (jC st) (aG st) .none kV dc pm an cd ct),sl]/\W.codeIn K cd qq=G/\W.keepIn K (YV f)=G
abbrev FD:Prop:=∃f,W.nsIn K mainGlobals x=!(!(YV f))/\LM K x x st f
abbrev FM:Prop:=∃f,W.findIn K (YV c) x=!(!(YV f))/\W.isFn K (YV f)=G/\LM K x qq st f
abbrev KC:Prop:=W.nsIn K mainGlobals x=!(!(YV c))/\W.plainGet K c Str.empty=G/\W.hasDictIn K c=G/\W.plainOver K c=G/\W.findIn K (YV c) "__setattr__"=!(!(.builtin "object.__setattr__"))/\W.makesIn K c=G/\W.keepIn K (YV c)=G
abbrev HB(ps:List Str):Prop:=∀(kV mw pm:Value)(an:Option Addr)(e6 ct:Value)(us:List Value),-us=-ps->bindArgs (W.fnOf x qq (qO st) (jC st) (aG st) .none kV mw pm an e6 ct) #[us,[]]=pure (ps.zip us)
end
local macro_rules | `(tactic| walk_at "b")=>`(tactic| (intro _ _ _ _ _ _ us hl; first | (obtain⟨_,e⟩:=yZ hl; subst e; rfl) | (obtain⟨_,_,e⟩:=sP hl; subst e; rfl) | (obtain⟨_,_,_,e⟩:=EJ hl; subst e; rfl) | (obtain⟨_,_,_,_,e⟩:=EK hl; subst e; rfl) | (obtain⟨_,_,_,_,_,e⟩:=Ta hl; subst e; rfl)))
section
variable {K:FG}{h:Heap}{mg:Str->Option Value}{x qq:Str}{st:Stmt}{c:Addr}{ps:List Str}
def jd(X:K.In h)(ZT:h.Ns mainGlobals mg)(d:FD K x st)(j:HB x x st ps:=by walk_at "b"):cL K mg x st ps:=by let(f,a,_,_,_,_,_,_,_,_,_,l,e,k):=d;show#[_,_,zQ l e k,W.mg_of X ZT a,(zQ l e k).binds j]
def Di(d:FM K x qq st c)(j:HB x qq st ps:=by walk_at "b"):wO K c x qq st ps:=by let(f,a,i,_,_,_,_,_,_,_,_,_,l,e,k):=d;show#[_,_,zQ l e k,a,i,(zQ l e k).binds j]
def mkT(X:K.In h)(G:h.Ns mainGlobals mg)(d:KC K x c):yx K mg x c:=#[d.1,#[d.2.1,d.2.2.1,d.2.2.2.1,d.2.2.2.2.1],W.mg_of X G d.1]
def B_(n:W.findIn K (YV c) x=!J)(t:∀f∈l,kW K c f):∀f∈x::l,kW K c f:=by
 intro g i;obtain e|i:=bP.mp i
 . rw[e];show n
 . grind
def nan:∀f∈([]:List Str),kW K c f:=λ_ h=>nomatch h
def bc(X:K.In h)(ZT:h.Ns mainGlobals mg)(n:W.nsIn K mainGlobals x=!J)(t:QG mg l):QG mg (x::l):=by
 intro g j;obtain e|j:=bP.mp j
 . rw[e];show W.mg_none_of X ZT n
 . show t g j
def bn:QG mg []:=λ_ h=>nomatch h
end
open Y in
def all_mk{l:W.OpenLaw}{w:World}{K:FG}{h:Heap}{mg:Str->Option Value}{fa:Addr}(X:K.In h)(ZT:h.Ns mainGlobals mg)(hfa:mg "law"=!(.ref fa))
 (db:∃c,KC K "Plan" c/\(W.findIn K (.ref c) "told"=!none/\W.findIn K (.ref c) "lists"=!none/\W.findIn K (.ref c) "heads"=!none)/\FM K "__init__" "Plan.__init__" j8 c/\FM K "numbers" "Plan.numbers" qg c/\FM K "bodies" "Plan.bodies" AM c/\FM K "params" "Plan.params" rH c/\FM K "row" "Plan.row" wk c/\FM K "home" "Plan.home" u5 c/\FM K "outer" "Plan.outer" tU c/\FM K "body" "Plan.body" u6 c/\FM K "block" "Plan.block" tV c/\FM K "just_ahead" "Plan.just_ahead" mJ c/\FM K "spending" "Plan.spending" j9 c)
 (akd:FD K "blocks_of" wj)
 (tF:FD K "expressions_of" oR)
 (akl:FD K "copied" yG)
 (aj0:FD K "all_copied" mG)
 (akg:FD K "in_order" uh)
 (akh:FD K "laid_out" ul)
 (aki:FD K "numbered" yH)
 (c9:FD K "reads" BX)
 (akj:FD K "names_in" um)
 (akm:FD K "spends" yI)
 (aj1:FD K "head_pairs" tw)
 (aj2:FD K "head_names" wP)
 (akp:FD K "nodes" wS)
 (c8:FD K "behind" AK)
 (aj3:FD K "behind_row" pY)
 (akq:FD K "rules" rE)
 (aj4:FD K "boxes_read" pZ)
 (ajM:FD K "begin_sources" jF)
 (ajN:FD K "first_sources" lV)
 (ajQ:FD K "turn_sources" rF)
 (aj5:FD K "done_steps" qd)
 (ajV:FD K "given_steps" oA)
 (aj6:FD K "back_steps" qe)
 (ajW:FD K "leave_steps" oE)
 (ajR:FD K "_law_cell_at" rG)
 (aj7:FD K "_law_names" mH)
 (ajG:FD K "_law_expression" nO)
 (mo:FD K "_law_row" uo)
 (ake:FD K "_law_rows" sE)
 (aj8:FD K "_law_heads" uZ)
 (ajS:FD K "_law_program" il)
 (ajX:FD K "_law_silent" wT)
 (Bi:FD K "_law_all_in" AL)
 (bE:FD K "law" vP)
 (z0:W.nsIn K mainGlobals "any"=!none)
 (z1:W.nsIn K mainGlobals "enumerate"=!none)
 (z2:W.nsIn K mainGlobals "len"=!none)
 (z3:W.nsIn K mainGlobals "list"=!none)
 (z4:W.nsIn K mainGlobals "range"=!none)
 (z5:W.nsIn K mainGlobals "set"=!none)
 (z6:W.nsIn K mainGlobals "sorted"=!none)
 (z7:W.nsIn K mainGlobals "tuple"=!none)
 (z8:W.nsIn K mainGlobals "zip"=!none)
 (HL:∀[HK] (ns:List Int),-ns<=63->∃mu,S6 [.lst (ns.map PV.int)] []=!(.sh (.bl true),mu))
 : ∃fd:FuncData,(∀(s:Shared)(v:Value),BindsTo s fd #[[v],[]] [("_law_script",v)])/\∀base:Heap,K.In base->base.Ns mainGlobals mg->oK l.prog w K mg base qD 87 fa fd ["_law_script"] (Kl K):=by
 letI:HK:=#[CT l.prog w]
 have kL:HK.hk=CT l.prog w:=rfl;let(dQ,Cb,(n0,n1,n2),ajK,ajO,ajT,ajU,akf,aka,ajY,akb,ajZ,ajD,ajL):=db;let eQ:=mkT X ZT Cb;let iA:=B_ n0 (B_ n1 (B_ n2 (nan)));have B:QG mg BL:=bc X ZT z0 (bc X ZT z1 (bc X ZT z2 (bc X ZT z3 (bc X ZT z4 (bc X ZT z5 (bc X ZT z6 (bc X ZT z7 (bc X ZT z8 (bn)))))))));let(_,a,_,kV,dc,pm,cd,ct,_,an,_,lk,ce,kp):=bE;let e:=hfa.symm.trans (W.mg_of X ZT a);cases e;show#[W.fnOf "law" "law" (qO vP) (jC vP) (aG vP) .none kV dc pm an cd ct,λs v=>.of_eq rfl,λbase _ _=>?_];have:=CC.mk (base:=base) B eQ iA kL;let LN:=Nf (jd X ZT akd);let H_:=Cy (jd X ZT tF);let LO:=Gg (jd X ZT akl) (jd X ZT aj0) 40;let Ix:=LO.1;let aja:=LO.2;let Bg:=Aq (jd X ZT akg) LN 40;let Iq:=Ar (jd X ZT akh) LN Ix 40;let ajy:=Ph (jd X ZT aki) Iq;let aje:=Jo (jd X ZT c9) 40;let ajz:=Pj (jd X ZT akj) aje;let ajI:=Vy (jd X ZT akm) Bg;let Iy:=zfQ (jd X ZT aj1);let ajp:=zef (jd X ZT aj2) Iy;let Cc:=VU (CG (Di ajK) ajy) Cb.2.2.2.2.2.1 Cb.2.2.2.2.2.2;let ajf:=zcb (Di ajT);let xh:=DW (Di ajO);let jj:=Ng (Di akf);let ID:=zaQ (jd X ZT akp) Cc ajf xh jj ajp;let qk:=Hk (Di ajZ);let LP:=Cz (Di ajL) jj ajI;let kM:=xf (jd X ZT aj3) qk jj LP 40;let qb:=zdm (jd X ZT c8) Cc kM;let ajs:=JV (jd X ZT aj6) jj;let ai4:=zB (Di ajD);let LS:=JW (Di aka);let HV:=Hl (Di ajY);let eK:=JX (jd X ZT aj4) ajz;let Ic:=DX (jd X ZT ajN) LS HV jj eK;let Bn:=Gh (jd X ZT ajQ) qk jj kM eK;let Bz:=DY (jd X ZT ajM) ai4 jj kM Ic Bn;let IA:=Gi (Di ajU);let HP:=Hm (jd X ZT ajV) eK;let tx:=JZ (jd X ZT aj5) IA jj eK H_ HP;let ajr:=J0 (Di akb);let tI:=Hn (jd X ZT ajW) ajr LS LP kM;let IE:=Yg (jd X ZT akq) Cc xh ajs Bz tx tI;let oe:=Gj (jd X ZT ajR);let HU:=J1 (jd X ZT aj7);let ai0:=Av (jd X ZT ajG);let ajA:=Pk (jd X ZT mo) ai0;let ajj:=Nh (jd X ZT ake) ajA;let tz:=J2 (jd X ZT aj8);let qh:=Gk (jd X ZT ajS) oe tz HU ajj;let IC:=vY (jd X ZT ajX) 40;let IB:=zce (jd X ZT Bi);let BA:=Dh (jd X ZT Bi);show UC (ac8 (zQ (st:=vP) lk ce kp) IB BA oe qh IC qb ID IE) HL
def walk{l:W.OpenLaw}{K:Params->FG}(hn:l.most=!63)(r9:d.params.defaults=[])
 (D:∀(w:World)(h:Heap),YP w h->(K w.params).In h)
 (F:∀(w:World)(mg:Str->Option Value)(fa:Addr)(h:Heap),(K w.params).In h->h.Ns mainGlobals mg->mg d.name=!(YV fa)->
   ∃fd:FuncData,(∀(s:Shared)(u:Value),BindsTo s fd #[[u],[]] [("_law_script",u)])/\∀base:Heap,(K w.params).In base->base.Ns mainGlobals mg->oK l.prog w (K w.params) mg base qD 87 fa fd ["_law_script"] (Kl (K w.params))):
 W.WalkO q j XP YP l.row.toRowW d [] (λf vs=>PySem.call f vs):=
 L2.walk_of (x:="_law_script") hn () r9 #[λ_=>O,by decide,by decide,O] D F (λ_ _ a ns hl _ hS=>#[a,ns,O,hS,hl,λ_=>O]) λ_ _ _ _ _ z=>z
end Law
namespace PySem.W.Fast
def tw12441745506859991701:=0
def tw18240905371710752230:=0
def tw9722278058551068144:=0
def tw12050290529037759227:=0
def tw9233576858054273280:=0
def tw8553382171148200936:=0
def tw5141632753297921910:=0
def tw11185037780409389221:=0
def tw11465143963417613418:=0
def tw9409221559814553172:=0
def tw12595810327505759317:=0
def tw15944061773453784995:=0
def tw16716156511384633985:=0
def tw7777494650475033770:=0
def tw8867944467626491982:=0
def tw15469443724697383694:=0
def tw14686791717888960757:=0
def tw9376646968810614273:=0
def tw4262098997836765219:=0
def tw6311667647123915003:=0
def tw5742789990926076495:=0
def tw4482233371955063008:=0
def tw14188199604362342494:=0
def tw11044333418770693796:=0
def tw9417513779261640290:=0
def tw8527804418415286698:=0
def tw7421155672851063728:=0
def tw14477636505793250112:=0
def tw13401708437232096145:=0
def tw4776163470445901750:=0
def tw7689263624946468311:=0
def tw211938352490792261:=0
def tw10208284491909059988:=0
def tw13557473691563439872:=0
def tw3373661543583950959:=0
def tw16774611100637158880:=0
def tw7389703977158795147:=0
def tw479934444458656155:=0
def tw17660000344458704401:=0
def tw10721494020436689263:=0
def tw15420173794566616599:=0
def tw3686191260049259485:=0
def tw1203054770487777803:=0
def tw11088158668499554477:=0
def tw6639381520592762696:=0
def tw8488133899204544437:=0
def tw16954201682368981433:=0
def tw9055546849715633691:=0
def tw5341447418782634937:=0
def tw18002135495251356065:=0
def tw11033536514623517285:=0
def tw9788848703024504376:=0
def tw10470444460651801774:=0
def tw8123154878970846158:=0
def tw13136610185182963634:=0
def tw17584148842561469154:=0
def tw15633455590199645830:=0
def tw13819272277041454624:=0
def tw10564803626496885715:=0
def tw6614461074826326818:=0
def tw944876561105382343:=0
def tw4480683811035240827:=0
def tw2448884759694651521:=0
def tw16518564316907614773:=0
def tw18374692333740768451:=0
def tw10924984460970094802:=0
def tw14216536849938001920:=0
def tw14053327113180246613:=0
def tw3942112255032533721:=0
def tw13183461244934809089:=0
def tw529172426579532243:=0
def tw419181135777579768:=0
def tw17590905286611771276:=0
def tw3217984026734603851:=0
def tw8730998951179906022:=0
def tw897080558295167005:=0
def tw2968133706277159482:=0
def tw9571008136613474135:=0
def tw9126416749951059177:=0
def tw1512843799572520590:=0
def tw17059803176734418655:=0
def tw8799939639895192241:=0
def tw15059368156731595607:=0
def tw3143744039013726791:=0
def tw11750301584915289349:=0
def tw5604445984946673656:=0
def tw10878131138440126868:=0
def tw8029241883163061769:=0
def tw3430466769242304474:=0
def tw9866727683682955352:=0
def tw3023628606902389783:=0
def tw332606796356380541:=0
def tw7699533725405783253:=0
def tw17799097734926161577:=0
def tw10411220336306647937:=0
def tw15751470821386395106:=0
def tw6424182286300670372:=0
def tw2091136262006943832:=0
def tw15721228935848483149:=0
def tw14913056146018123058:=0
def tw3271621422810509566:=0
def tw4186972090153127676:=0
def tw10040570623172299224:=0
def tw8327979700402604287:=0
def tw8981712840822773472:=0
def tw15695801226080717942:=0
def tw5431726278313348272:=0
def tw1939941121630013112:=0
def tw6039341569798948818:=0
def tw368859124678316950:=0
def tw14086041012470798780:=0
def tw7173090667550511231:=0
def tw6043997314161939145:=0
def tw10114464975439059276:=0
def tw8410749349024874740:=0
def tw14271921096082443213:=0
end PySem.W.Fast
end
open PySem PySem.W PyProof.Rows
local macro_rules | `(tactic| walk_at "m")=>`(tactic| exact ⟨_,by k_is,by k_is,_,_,_,_,_,_,_,_,_,by k_is,by k_is,by k_is⟩)
local macro_rules | `(tactic| walk_at "d")=>`(tactic| exact ⟨_,by k_is,_,_,_,_,_,_,_,_,_,by k_is,by k_is,by k_is⟩)
set_option maxRecDepth 100000 in
set_option maxHeartbeats 0 in
theorem PySem.Challenge.cw_hushwise_k39_rows_made_silent_holds : PySem.Challenge.rw_hushwise_k39_rows_made_silent.Holds := by
 w_on; o_law; k_head; (case hw=>w_witness2)
 k_fill
 refine Law.walk (l:=PySem.Challenge.rw_hushwise_k39_rows_made_silent) rfl rfl (fun w h Y=>W.kIn_of Y) ?F
 case F=>
  intro w mg fa h KX ZT hmg
  refine' Law.all_mk KX ZT hmg ?_ ?_ ?_ ?_ ?_ ?_ ?_ ?_ ?_ ?_ ?_ ?_ ?_ ?_ ?_ ?_ ?_ ?_ ?_ ?_ ?_ ?_ ?_ ?_ ?_ ?_ ?_ ?_ ?_ ?_ ?_ ?_ ?_ ?_ ?_ ?_ ?_ ?_ ?_ ?_ ?_ ?_ ?_ ?_ Law.law_true
  exact ⟨_,⟨by k_is,by k_is,by k_is,by k_is,by k_is,by k_is,by k_is⟩,⟨by k_is,by k_is,by k_is⟩,by walk_at "m",by walk_at "m",by walk_at "m",by walk_at "m",by walk_at "m",by walk_at "m",by walk_at "m",by walk_at "m",by walk_at "m",by walk_at "m",by walk_at "m"⟩
  iterate 34 walk_at "d"
  iterate 9 k_is
