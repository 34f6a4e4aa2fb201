import PyProof.Rows.All
import Wide.All
import OpenK.AllK
import PySem.Challenge.RW_hushwise_k33_rules_of_rounds
set_option Elab.async false
set_option linter.all false
set_option bootstrap.genMatcherCode false
set_option genSizeOf false
set_option compiler.extract_closed false
set_option maxRecDepth 100000
set_option maxHeartbeats 8000000
noncomputable section
namespace L2
open PySem Spec PyProof.Rows
def byText(w:World):=w.params.followText "set-order"
abbrev yj6(w:World):Obj:={cls:=.type "set",dict:=none,data:=.set #[] 0 (.fresh 0 0 (!byText w)),slots:=#[]}
section
variable{prog:Program}{w:World}{A:Around}{E:Value->Shared->Prop}{s:Shared}{R:Result->Shared->Prop}{T:Nat->Heap->Prop}
theorem P0(a:Value){Q}(h:Q (.ref s.heap.objs.size) {s with heap:=s.heap.push (yj6 w)}):codeAny (model prog w) A (.call (.builtin "set.__new__") ⟨[.type "set",a],[]⟩) (wants Q E) s:=by
 refine codeAny_of_tree (show wpAny _ A.in1 (do checkBuiltinCall "set.__new__" ⟨[.type "set",a],[]⟩;again (.builtin "set.__new__" ⟨[.type "set",a],[]⟩)) _ _ s from wpAny_bind (wpAny_of_eq (F.newCall_set_1 a) (wpAny_pure ⟨plainId_quiet F.plain_set_new _,codeAny_builtin F.entry_set_new (?_:wpAny _ _ _ _ _ _)⟩)))
 rw[Around.under_plainId F.plain_set_new _];unfold Builtin.«set.__new__» Builtin.Frozenset.newClass;have hs:=sub_set_self;obtain⟨x1,x2,x3,x4,x5⟩:=s;dsimp only
 wp_walk
 refine wpAny_askSetting (wpAny_pure ?_);dsimp only;simp only[newObj];exact wpAny_bind (wpAny_alloc (wpAny_pure (wpAny_pure h)))
theorem loop_G(W:WalksS prog w A.in1 I fp wr G n P U)(hD:D∉fp)(mv:∀{i h h'},T i h->(∀b o,b∉wr->h.get? b=some o->h'.get? b=some o)->T i h')(ad:∀{i v s Q E},i<n->P i v->T i s.heap->(∀b h' k,Heap.SameBut D s.heap h'->T (i+1) h'->Q b {s with heap:=h',toks:=s.toks+k})->wpAny (model prog w) A.in1 (setAdd D v) Q E s):∀(k i:Nat)s,n-i=k->i<=n->U i s->T i s.heap->(∀s',Moved (D::wr) G s s'->T n s'.heap->R (.ok (.ret .none)) s')->codeAny (model prog w) A (.builtin "set.update.loop" ⟨[.ref D,.ref I],[]⟩) R s:=by
 have mw:∀b∈wr,b∈D::wr:=λb=>.tail _
 intro k;induction k with
 |zero=>
  intro i s hk hi st S hR;obtain rfl:i=n:=by omega
  refine codeAny_builtin F.entry_set_update_loop ?_;rw[Around.under_plainId F.plain_set_update_loop _];exact wpAny_bind (m:=pyNext (.ref I)) (W.done s _ _ st λs' m=>wpAny_pure (hR s' (m.mono mw) (mv S m.heap)))
 |succ k ih=>
  intro i s hk hi st S hR;have lt:i<n:=by omega
  refine codeAny_builtin F.entry_set_update_loop ?_;rw[Around.under_plainId F.plain_set_update_loop _];refine wpAny_bind (m:=pyNext (.ref I)) (W.item i s _ _ lt st λv s' hP st' m=>wpAny_bind (m:=holding [v] (setAdd D v)) (wpAny_holding (ad lt hP (mv S m.heap) λb h' j sb S2=>wpAny_pure ⟨plainId_quiet F.plain_set_update_loop _,ih (i+1) _ (by omega) lt (W.frame _ s' _ _ st' (Nat.le_add_right _ _) λc hc o q=>?_) S2 λs'' m2 S3=>hR s'' (Moved.trans W.gtrans ((m.mono mw).then_heap (Nat.le_add_right _ _) λc o hc q=>?_) m2) S3⟩)))
  . rw[sb.2 c (λz=>hD (z▸hc))];exact q
  . rw[sb.2 c (λz=>hc (z▸.head _))];exact q
theorem set_of_G(hh:A.handled=none)(hl:s.heap.IsList l items)(z:∀{h'},h'.get? s.heap.objs.size=some (yj6 w)->(∀b o,s.heap.get? b=some o->h'.get? b=some o)->T 0 h')(mv:∀{i h h'},T i h->(∀b o,b≠s.heap.objs.size+1->h.get? b=some o->h'.get? b=some o)->T i h')(ad:∀{i v s' Q E},i<items.size->items[i]?=some v->T i s'.heap->(∀b h' k,Heap.SameBut s.heap.objs.size s'.heap h'->T (i+1) h'->Q b {s' with heap:=h',toks:=s'.toks+k})->wpAny (model prog w) A.in1.in1.in1 (setAdd s.heap.objs.size v) Q E s')(h:∀h' tk,T items.size h'->(∀b o,b<s.heap.objs.size->s.heap.get? b=some o->h'.get? b=some o)->Q (.ref s.heap.objs.size) {s with heap:=h',toks:=tk}):wpAny (model prog w) A (call (.type "set") [.ref l]) Q E s:=by
 obtain⟨c,tl,hm⟩:=F.called_set.mro;have m1:=F.called_set.made;have m2:=F.called_set.sub
 refine wpAny_call (codeAny_of_tree (show wpAny _ _ (callAny (.type "set") _) _ _ _ from wpAny_pure ⟨Code.quiet_builtin _ (by decide +kernel),codeAny_builtin F.entry_type_call (?_:wpAny _ _ _ _ _ _)⟩))
 rw[Around.under_plain (weight_type_call_type "set" [.ref l] []) rfl];have m3:=F.called_set.notType;have m4:=F.called_set.canCreate;have m5:=F.typeCall_set_1 (.ref l)
 repeat any_goals first|assumption|wp_step
 refine codeAny_mono (P0 (.ref l) (E:=E) (Q:=λo t=>o=.ref s.heap.objs.size/\t={s with heap:=s.heap.push (yj6 w)}) ⟨rfl,rfl⟩) λr t hr=>?_
 cases r with
 |error e=>exact hr
 |ok fl=>
  cases fl with
  |ret obj=>
   obtain⟨rfl,rfl⟩:=hr;have g0:(s.heap.push (yj6 w)).get? s.heap.objs.size=some (yj6 w):=Heap.get?_push_size _ rfl
   have hT:Shared.TypeIs {s with heap:=s.heap.push (yj6 w)} (.ref s.heap.objs.size) "set":=⟨_,g0,rfl⟩
   have m6:=F.called_set.init.lookup;have m7:=F.called_set.init.bind (.ref s.heap.objs.size)
   repeat any_goals first|assumption|wp_step
   refine codeAny_mono (codeAny_call_builtin (R:=wants (λr t=>r=.none/\∃h' tk,t={s with heap:=h',toks:=tk}/\T items.size h'/\(∀b o,b<s.heap.objs.size->s.heap.get? b=some o->h'.get? b=some o)) E) F.called_set.init.plain F.entry_set_init (check_set_init_1 hT ?_)) λr t hr=>?_
   . obtain⟨⟨c1,c2,c3,c4⟩,ho,hc,nl,hd⟩:=hl;simp only at hc hd;subst hc;subst hd;have hp:=Heap.get?_push_of_some (yj6 w) ho
     have n1:=F.sub_list_set;have n2:=F.sub_list_frozenset;have n3:(Value.type "list"==.type "dict")=false:=by decide
     have hl:(s.heap.push (yj6 w)).IsList l items:=⟨_,hp,rfl,nl,rfl⟩
     unfold Builtin.«set.__init__» noKeywords Builtin.Frozenset.updateFrom;generalize e:pyIter=PI
     wp_walk
     subst e;refine wpAny_pyIter_list hl (wpAny_bind (wpAny_runValue ?_));have lS:=Heap.lt_size ho;have h3:A.in1.in1.in1.handled=none:=by simp[hh]
     have eI:(s.heap.push (yj6 w)).objs.size=s.heap.objs.size+1:=Heap.size_push ..
     have nI:l≠(s.heap.push (yj6 w)).objs.size:=by rw[eI];exact Nat.ne_of_lt (Nat.lt_succ_of_lt lS)
     refine loop_G (T:=T) (Walks.list h3 _ l nI items).toS (by rw[eI];simp;exact Nat.ne_of_gt lS) (λp q=>mv p λb o nb=>q b o (by simpa[eI] using nb)) ad (items.size-0) 0 _ rfl (Nat.zero_le _) ⟨⟨_,Heap.get?_push_size _ rfl,rfl,rfl⟩,hl.push _⟩ (z (Heap.get?_push_of_some _ g0) λb o q=>Heap.get?_push_of_some _ (Heap.get?_push_of_some _ q)) λt m S=>?_
     obtain⟨h',g',d',tk',os'⟩:=t;obtain rfl:g'=s.gens:=m.gens
     obtain rfl:d'=s.drawn:=m.drawn
     obtain rfl:os'=s.os:=m.os
     exact wpAny_pure (show wpAny _ _ (ret Value.none) _ _ _ from wpAny_pure ⟨rfl,h',tk',rfl,S,λb o hb q=>m.heap b o (by rw[eI];simp;exact⟨Nat.ne_of_lt hb,Nat.ne_of_lt (Nat.lt_succ_of_lt hb)⟩) (Heap.get?_push_of_some _ (Heap.get?_push_of_some _ q))⟩)
   . cases r with
     |error e=>exact hr
     |ok fl=>
      cases fl with
      |ret r=>
       obtain⟨rfl,h',tk,rfl,q1,q4⟩:=hr
       repeat any_goals first|assumption|wp_step
       exact h _ _ q1 q4
      |_=>exact hr.elim
  |_=>exact hr.elim
end
end L2
def A2{a b g:Prop}(h:a/\b)(z:a->b->g):g:=z h.1 h.2
def A3{a b c g:Prop}(h:a/\b/\c)(z:a->b->c->g):g:=z h.1 h.2.1 h.2.2
def A4{a b c d g:Prop}(h:a/\b/\c/\d)(z:a->b->c->d->g):g:=z h.1 h.2.1 h.2.2.1 h.2.2.2
def A5{a b c d e g:Prop}(h:a/\b/\c/\d/\e)(z:a->b->c->d->e->g):g:=z h.1 h.2.1 h.2.2.1 h.2.2.2.1 h.2.2.2.2
def A6{a b c d e f g:Prop}(h:a/\b/\c/\d/\e/\f)(z:a->b->c->d->e->f->g):g:=z h.1 h.2.1 h.2.2.1 h.2.2.2.1 h.2.2.2.2.1 h.2.2.2.2.2
def A7{a b c d e f k g:Prop}(h:a/\b/\c/\d/\e/\f/\k)(z:a->b->c->d->e->f->k->g):g:=z h.1 h.2.1 h.2.2.1 h.2.2.2.1 h.2.2.2.2.1 h.2.2.2.2.2.1 h.2.2.2.2.2.2
def E1{α:Sort _}{p:α->Prop}{g:Prop}(h:∃a,p a)(z:∀a,p a->g):g:=match h with|⟨a,h⟩=>z a h
def E2{α β:Sort _}{p:α->β->Prop}{g:Prop}(h:∃a b,p a b)(z:∀a b,p a b->g):g:=match h with|⟨a,b,h⟩=>z a b h
def E3{α β γ:Sort _}{p:α->β->γ->Prop}{g:Prop}(h:∃a b c,p a b c)(z:∀a b c,p a b c->g):g:=match h with|⟨a,b,c,h⟩=>z a b c h
def E4{α β γ δ:Sort _}{p:α->β->γ->δ->Prop}{g:Prop}(h:∃a b c d,p a b c d)(z:∀a b c d,p a b c d->g):g:=match h with|⟨a,b,c,d,h⟩=>z a b c d h
def E5{α β γ δ ε:Sort _}{p:α->β->γ->δ->ε->Prop}{g:Prop}(h:∃a b c d e,p a b c d e)(z:∀a b c d e,p a b c d e->g):g:=match h with|⟨a,b,c,d,e,h⟩=>z a b c d e h
def E6{α β γ δ ε ζ:Sort _}{p:α->β->γ->δ->ε->ζ->Prop}{g:Prop}(h:∃a b c d e f,p a b c d e f)(z:∀a b c d e f,p a b c d e f->g):g:=match h with|⟨a,b,c,d,e,f,h⟩=>z a b c d e f h
def X2{α β:Sort _}{p:α->β->Prop}(a:α)(b:β)(h:p a b):∃a b,p a b:=⟨a,b,h⟩
def X3{α β γ:Sort _}{p:α->β->γ->Prop}(a:α)(b:β)(c:γ)(h:p a b c):∃a b c,p a b c:=⟨a,b,c,h⟩
def X4{α β γ δ:Sort _}{p:α->β->γ->δ->Prop}(a:α)(b:β)(c:γ)(d:δ)(h:p a b c d):∃a b c d,p a b c d:=⟨a,b,c,d,h⟩
def X5{α β γ δ ε:Sort _}{p:α->β->γ->δ->ε->Prop}(a:α)(b:β)(c:γ)(d:δ)(e:ε)(h:p a b c d e):∃a b c d e,p a b c d e:=⟨a,b,c,d,e,h⟩
def X6{α β γ δ ε ζ:Sort _}{p:α->β->γ->δ->ε->ζ->Prop}(a:α)(b:β)(c:γ)(d:δ)(e:ε)(f:ζ)(h:p a b c d e f):∃a b c d e f,p a b c d e f:=⟨a,b,c,d,e,f,h⟩
def X7{α β γ δ ε ζ η:Sort _}{p:α->β->γ->δ->ε->ζ->η->Prop}(a:α)(b:β)(c:γ)(d:δ)(e:ε)(f:ζ)(k:η)(h:p a b c d e f k):∃a b c d e f k,p a b c d e f k:=⟨a,b,c,d,e,f,k,h⟩
local macro_rules | `(tactic| let $p:term:=$e)=>do
  let rec f (n:Nat)(p:Lean.Term):Lean.MacroM (Lean.TSyntax `rcasesPat):=do
   match n with
   | 0=>`(rcasesPat| _)
   | n+1=>
    match p with
    | `(($a,$q,*))=>`(rcasesPat| ⟨$(<-(#[a]++q.getElems).mapM λx=>do `(Lean.Parser.Tactic.rcasesPatLo| $(<-f n x):rcasesPat)),*⟩)
    | `($i:ident)=>`(rcasesPat| $i:ident)
    | _=>`(rcasesPat| _)
  let o<-`(tactic| obtain $(<-f 9 p):rcasesPat:=$e)
  let `(($a,$q,*)):=p | return o
  let y:=#[a]++q.getElems
  let n:=y.size
  let v<-`(v)
  let s:=y.any (·.raw.getId == e.raw.getId)
  let e2:=if e.raw.isIdent && s then v else e
  let b<-if e.raw.isIdent && s then `(tactic| (revert $e:term;intro v)) else `(tactic| skip)
  let c<-if e.raw.isIdent then `(tactic| try clear $e2:term) else `(tactic| skip)
  let z (m:String)(k:Nat):Lean.MacroM (Lean.TSyntax `tactic):=do
   let t:Array Lean.Term:=(y.extract 0 k).mapIdx λi x=>if x.raw.getNumArgs>1 then ⟨(Lean.mkIdent (.mkSimple s!"✝{i}")).raw⟩ else x
   let r<-if k=n then pure c else `(tactic| let ($(y[k]!),$(y.extract (k+1) n),*):=w)
   let r<-(y.zip t).foldlM (λr (x,i)=>if x.raw == i.raw then pure r else `(tactic| ($r:tactic;let $x:term:=$i))) r
   let t<-if k=n then pure t else pure (t.push (<-`(w)))
   `(tactic| ($b:tactic;refine $(Lean.mkIdent (.mkSimple m)) $e2 λ $t*=>?_;$c:tactic;$r:tactic;repeat subst $(Lean.mkIdent `rfl):ident))
  let rec g (k:Nat):Lean.MacroM (Lean.TSyntax `tactic):=do
   match k with
   | 0=>if n>2 then `(tactic| first | $(<-z "A2" 1):tactic | $o:tactic) else return o
   | k+1=>`(tactic| first | $(<-z s!"E{k+1}" (k+1+(k+2)/n)):tactic | $(<-g k):tactic)
  `(tactic| first | $(<-z s!"A{n}" n):tactic | $(<-g (min 6 (n-1))):tactic)
local macro_rules | `(tactic| let $i:ident:=$e)=>`(tactic| have $i:ident:=$e)
local macro_rules | `(tactic| show $e)=>`(tactic| first | refine $e | fail)
local macro_rules | `(tactic| lia)=>`(tactic| first | omega | grind)
local macro_rules | `(#[$p,*])=>if p.getElems.isEmpty then Lean.Macro.throwUnsupported else `(⟨$p,*⟩)
local macro_rules | `(tactic| show #[$p,*])=>do
  let p:=p.getElems
  let rec g (k:Nat):Lean.MacroM (Lean.TSyntax `tactic):=do
   match k with
   | 0=>`(tactic| refine ⟨$p,*⟩)
   | k+1=>
    let r:=p.extract (k+2) p.size
    let r<-if k+3=p.size then pure r[0]! else `(⟨$r,*⟩)
    `(tactic| first | refine $(Lean.mkIdent (.mkSimple s!"X{k+2}")) $(p.extract 0 (k+2))* $r | $(<-g k):tactic)
  g (min 6 (p.size-2))
local macro_rules | `(!$x)=>`(some $x)
local macro_rules | `(tactic| omega)=>`(tactic| first | with_reducible first | assumption | contradiction | exact Nat.le_trans (by assumption) (by decide) | exact Nat.lt_of_le_of_lt (by assumption) (by decide) | exact Nat.lt_of_lt_of_le (by assumption) (by decide) | exact Nat.le_add_left _ _ | exact Nat.le_add_right _ _ | exact Nat.sub_le _ _ | exact Nat.zero_le _ | exact Nat.le_of_lt (by assumption) | exact Nat.le_of_lt_succ (by assumption) | exact Nat.le_of_not_lt (by assumption) | exact Nat.add_le_add_left (by assumption) _ | exact Nat.add_le_add_right (by assumption) _ | exact Nat.sub_lt_left_of_lt_add (by assumption) (by assumption) | (refine (?_:(_:Nat)=_);simp;done) | (refine (?_:(_:Nat)≤_);simp;done) | lia -verbose)
local macro_rules | `(tactic| grind)=>`(tactic| first | (simp_all;done) | omega | grind -verbose)
local macro_rules | `(())=>`(by first | omega | assumption | decide | rfl | exact .inl rfl | exact .inr rfl | decide +kernel)
local macro_rules | `(∅)=>`(by grind)
open List hiding iter
open PySem.SetTable hiding led ok
local macro_rules | `(~~~$x)=>`(($x).size)
local macro_rules | `(-$x)=>if x.raw.isOfKind `num then Lean.Macro.throwUnsupported else `(($x).length)
abbrev O:=@rfl
open Option renaming none→J
open Bool renaming true→G,false→M
open Or renaming inl→Zl,inr→YY
open PySem.Value renaming ref→YV
abbrev FG:=PySem.W.Frag
section
open PySem PySem.Spec PyProof.Rows
abbrev bi:=@length_cons
abbrev be:=@mem_cons_self
def bq:=@Option.bind_some
abbrev bo:=@length_map
def br:=@Nat.le_refl
abbrev a_:=@mem_cons
abbrev bX:=@length_append
def cE:=@Heap.get?_push_of_some
abbrev cv:=@length_nil
abbrev cw:=@mem_cons_of_mem
def c9:=@List.getElem?_eq_some_iff
def cx:=@List.append_assoc
def cr:=@List.mem_append
abbrev eP:=@size_toArray
def c5:=@List.getElem?_map
def bP:=@Heap.lt_size
def cy:=@List.map_append
def dE:=@Heap.get?_push_size
def ck:=@List.mem_map
abbrev dP:=@map_cons
def ed:=@List.getElem?_eq_getElem
abbrev d5:=@sublist_cons_self
def d0:=@Option.some.inj
abbrev da:=@append_nil
def fB:=@Bool.false_eq_true
def eW:=@List.getElem?_append_right
def de:=@Nat.ne_of_lt
def eR:=@List.mem_singleton
def eT:=@List.mem_append_right
def eI:=@List.mem_of_getElem?
def e_:=@Array.length_toList
def eJ:=@Nat.lt_of_lt_of_le
def d6:=@Nat.zero_le
def d4:=@Nat.le_trans
abbrev et:=@perm_middle
abbrev eK:=@nil_append
def eH:=@PassesOwn.never
abbrev fy:=@length_range
abbrev gE:=@filterMap_cons_none
def gu:=@List.getElem?_append_left
def ga:=@List.mem_append_left
def hW:=@List.getElem?_set_self
def gI:=@Nat.lt_succ_of_lt
def fF:=@Bool.and_eq_true
def kB:=@Array.getElem?_eq_none
abbrev gL:=@sublist_append_left
abbrev fI:=@nodup_cons
def fE:=@List.map_map
abbrev gX:=@lookup_cons
abbrev iN:=@not_mem_nil
def hY:=@List.mem_filterMap
def hZ:=@Int.emod_lt_of_pos
def lv:=@Heap.size_push
abbrev h_:=@perm_append_comm
def kC:=@Nat.lt_irrefl
def m6:=@Bool.false_ne_true
def g7:=@Int.emod_nonneg
def jp:=@Nat.lt_succ_self
abbrev js:=@cons_append
def gN:=@Nat.sub_self
def ic:=@Option.map_some
def jv:=@PySem.F.plainAttrs_list
abbrev g9:=@length_take
def g_:=@Nat.ne_of_gt
def kD:=@drop_eq_getElem_cons
abbrev kF:=@sublist_append_right
def oI:=@List.getElem?_eq_none
abbrev m7:=@zip_cons_cons
def jI:=@Heap.SameBut.update
def m_:=@Nat.le_succ
def kH:=@Heap.get?_update_other
def kK:=@List.set_set
abbrev kL:=@length_drop
abbrev iO:=@prefix_refl
def kM:=@Heap.get?_update_self
def iP:=@List.of_mem_zip
abbrev iS:=@foldl_cons
def hG:=@Nat.zero_add
def oP:=@Nat.le_of_succ_le
abbrev ly:=@length_set
def jS:=@List.zip_append
def ng:=@List.getElem?_set_ne
def lI:=@Nat.le_of_lt
abbrev j1:=@map_nil
def nh:=@Nat.le_add_right
def nk:=@PySem.F.slot_list_append
def no:=@PySem.F.type_list_append
def ii:=@PySem.mem_of_lookup
abbrev nr:=@take_of_length_le
def lP:=@Sublist.refl
abbrev nv:=@nodup_nil
def FA:=@Nat.le_of_not_lt
abbrev oQ:=@any_cons
def kN:=@Option.isSome_iff_exists
def kP:=@Nat.lt_of_le_of_lt
abbrev nw:=@prefix_append
abbrev ny:=@nodup_append
abbrev we:=@eq_nil_of_length_eq_zero
abbrev oS:=@filterMap_cons
def oT:=@List.map_congr_left
def nz:=@PySem.boot_len
def o_:=@Int.toNat_natCast
def pb:=@W.cellsFrom_some
def nB:=@Nat.succ.inj
def lS:=@W.methodCall_KW
def al:=@wpAny_bind
def aw:=@if_pos
def ay:=@if_neg
def aI:=@wpAny_pure
def iX:=@decide_eq_false
def i5:=@decide_eq_true
def nE:=@beq_eq_false_iff_ne
def ij:=@beq_self_eq_true
end
namespace L2
open PySem PySem.Spec PyProof.Rows
variable {ae:List (Addr×Obj)}{E:Value->Shared->Prop}{s:Shared}{A:Around}{w:World}{P:Program}
abbrev c8:=Sum Int Str
noncomputable def vA:c8->Value->Bool
 |.inl k,v=>Value.isInt k v
 |.inr x,v=>Value.isStrOf x v
def wf(w:World):c8->Int
 |.inl k=>hashInt k
 |.inr x=>hashStr w x
theorem dB:∀{k:c8}{v:Value},vA k v=G->(∃i t,k=Sum.inl i/\v=Value.int i t)\/(∃x t,k=Sum.inr x/\v=Value.str x t)
 |.inl i,v=>λh=>by let(t,e):=Value.isInt_shape h;grind
 |.inr x,v=>λh=>by let(t,e):=Value.isStrOf_shape h;grind
def Tq(i:Int)(t:Tok):vA (.inl i) (.int i t)=G:=by simp[vA,Value.isInt]
def Tr(x:Str)(t:Tok):vA (.inr x) (.str x t)=G:=by simp[vA,Value.isStrOf]
def FC(a b:Int):decide ((Sum.inl a:c8)=Sum.inl b)=(a==b):=by
 by_cases e:a=b
 . grind
 . grind
def FE(a b:Str):decide ((Sum.inr a:c8)=Sum.inr b)=decide (a=b):=by
 by_cases e:a=b
 .  simp
 . grind
def FF(a:Int)(b:Str):decide ((Sum.inl a:c8)=Sum.inr b)=M:=iX (λq=>nomatch q)
def FH(a:Str)(b:Int):decide ((Sum.inr a:c8)=Sum.inl b)=M:=iX (λq=>nomatch q)
def fW(prog:Program)(w:World):PySem.KeyKind prog w c8 where
 is:=vA
 hash:=wf w
 inj:=λv a b ha hb=>by
  obtain⟨i,t,rfl,rfl⟩|⟨x,t,rfl,rfl⟩:=dB ha
  . obtain⟨j,u,rfl,e⟩|⟨y,u,rfl,e⟩:=dB hb
    . injection e with e1 _;rw[e1]
    . show nomatch e
  . obtain⟨j,u,rfl,e⟩|⟨y,u,rfl,e⟩:=dB hb
    . show nomatch e
    . injection e with e1 _;rw[e1]
 byValue:=λk v h=>by rcases dB h with ⟨i,t,rfl,rfl⟩|⟨x,t,rfl,rfl⟩<;>rfl
 pyHash:=λhv h=>by
  obtain⟨i,t,rfl,rfl⟩|⟨x,t,rfl,rfl⟩:=dB hv
  . show wpAny_pyHash_int h
  . show wpAny_pyHash_str h
 eqBool:=λhu hv h=>by
  obtain⟨i,t,rfl,rfl⟩|⟨x,t,rfl,rfl⟩:=dB hu
  . obtain⟨j,u,rfl,rfl⟩|⟨y,u,rfl,rfl⟩:=dB hv
    . rw[FC]at h;show wpAny_eqBool_int h
    . rw[FF]at h;show SeqAt.EqAt.int_str i t y u _ _ _ _ h
  . obtain⟨j,u,rfl,rfl⟩|⟨y,u,rfl,rfl⟩:=dB hv
    . rw[FH]at h;show SeqAt.EqAt.str_int x t j u _ _ _ _ h
    . rw[FE]at h;show wpAny_eqBool_str h
 «strs»:=λk x t v h=>by
  obtain⟨i,u,rfl,e⟩|⟨y,u,rfl,e⟩:=dB h
  . show nomatch e
  . injection e with e1 _;subst e1;cases v<;>rfl
def Oo(prog:Program)(w:World)(i:Int)(t:Tok):(fW prog w).is (.inl i) (.int i t)=G:=Tq i t
def Oq(prog:Program)(w:World)(x:Str)(t:Tok):(fW prog w).is (.inr x) (.str x t)=G:=Tr x t
inductive V where
 |non |bl (b:Bool) |int (i:Int) |str (x:Str) |byt (b:Array UInt8) |flt (b:UInt64) |ref (a:Addr) |ty (n:String)
 deriving DecidableEq
def av:V->Value->Prop
 |.non,u=>u=Value.none
 |.bl b,u=>u=Value.bool b
 |.int i,u=>∃t,u=Value.int i t
 |.str x,u=>∃t,u=Value.str x t
 |.byt b,u=>∃t,u=Value.bytes b t
 |.flt b,u=>∃t,u=Value.float b t
 |.ref a,u=>u=Value.ref a
 |.ty n,u=>u=Value.type n
abbrev am:List V->List Value->Prop:=Paired av
theorem am.length(r:am xs us):-xs=-us:=Paired.length r
theorem am.get:∀{xs:List V}{j:List Value}{i:Nat}{x:V},am xs j->xs[i]?=!x->∃u,j[i]?=!u/\av x u
 |_,_,_,_,.nil=>λe=>by grind
 |_,_,0,_,.cons r _=>λe=>by grind
 |_,_,i+1,x,.cons _ t=>λe=>by let(u,h1,h2):=am.get t ();grind
theorem am.set(r:av x u):∀{xs:List V}{j:List Value}(i:Nat),am xs j->am (xs.set i x) (j.set i u)
 |_,_,_,.nil=>.nil
 |_,_,0,.cons _ t=>.cons r t
 |_,_,i+1,.cons q t=>.cons q (am.set r i t)
theorem am.append:∀{xs ys:List V}{i ws:List Value},am xs i->am ys ws->am (xs++ys) (i++ws)
 |_,_,_,_,.nil=>λs=>s
 |_,_,_,_,.cons r t=>λs=>.cons r (am.append t s)
theorem am.take:∀{xs:List V}{i:List Value}(n:Nat),am xs i->am (xs.take n) (i.take n)
 |_,_,0,_=>.nil
 |_,_,_+1,.nil=>.nil
 |_,_,n+1,.cons r t=>.cons r (am.take n t)
theorem am.drop:∀{xs:List V}{i:List Value}(n:Nat),am xs i->am (xs.drop n) (i.drop n)
 |_,_,0,r=>r
 |_,_,_+1,.nil=>.nil
 |_,_,n+1,.cons _ t=>am.drop n t
def nH:Option V->Option Value->Prop
 |some v,!u=>av v u
 |none,J=>True
 |_,_=>False
def KV{κ:Type}:List (κ×V)->List (κ×Value)->Prop:=Paired λ(p:κ×V)(q:κ×Value)=>p.1=q.1/\av p.2 q.2
noncomputable def kV:c8->V
 |.inl i=>.int i
 |.inr x=>.str x
inductive HO where
 |lst (xs:List V)
 |tup (xs:List V)
 |dK (aS:List (c8×V)) |dT (aS:List (List c8×V))
 |set (S:Int->Bool) (n:Nat)
 |ins (C dx:Addr) (fs:List (Str×V))
 |own (x:Addr)
 |xd (fs:List (Str×V))
 |met (f x:Addr)
 |rng (lo hi:Int)
 |frz (o:Obj) (u:HO)
 |tbl (ps:Array Value)
 |ext (φ:Heap->Prop)
abbrev Hp:=Addr->Option HO
noncomputable def aE (H:Hp) (a:Addr) (o:HO):Hp:=λb=>if b=a then !o else H b
def bZ:aE H a o a=!o:=by unfold aE;grind
def cV(h:b≠a):aE H a o b=H b:=by unfold aE;grind
def fD{H:Hp}(h:H a=!o)(h':H b=J):a≠b:=by grind
section
variable (P:Program)(w:World)
def fG(H:Hp)(h:Heap)(a:Addr):HO->Prop
 |.lst xs=>-xs<=sizeLine/\∃(bp:List Value)(n:Nat),am xs bp/\h.get? a=some { cls:=.type "list",data:=.seq bp.toArray n }
 |.tup xs=>-xs<=sizeLine/\∃bp:List Value,am xs bp/\IsTup h a bp.toArray
 |.dK aS=>-aS<=sizeLine/\(a==sysModules)=M/\∃vs,KV aS vs/\h.DictOf (fW P w) a vs
 |.dT aS=>-aS<=sizeLine/\(a==sysModules)=M/\∃xs:List (List c8×Addr×Value),
  Paired (λ(p:List c8×V)(q:List c8×Addr×Value)=>p.1=q.1/\H q.2.1=!(.tup (p.1.map kV))/\av p.2 q.2.2) aS xs/\
  ∃o es ep,h.get? a=!o/\o.ExactDict/\o.data=.dict es ep/\es.toList=xs.map (entryOfKey (tupleKind (fW P w)))/\(xs.map (·.1)).Nodup
 |.set S n=>h.SetOf (intKind P w) a S n
 |.ins C dx fs=>H dx=!(.own a)/\-fs<=1000/\dx≠a/\h.get? a=!(W.instObj C dx)/\
  ∃mA,h.Ns1 dx mA/\(∀f,nH (fs.lookup f) (mA f))/\PySem.Within mA (fs.map (·.1))
 |.own _=>∃o,h.get? a=!o
 |.xd fs=>∃mA,h.Ns1 a mA/\∀f,nH (fs.lookup f) (mA f)
 |.rng lo hi=>∃t u v,h.get? a=some { cls:=.type "range",data:=.fields (List.toArray [.int lo t,.int hi u,.int 1 v]) }
 |.frz o u=>h.get? a=!o/\fG H h a u
 |.tbl ps=>h.get? a=some { cls:=.none,data:=.fields ps }
 |.met f x=>h.get? a=!(W.methodObj (YV f) (YV x))
 |.ext φ=>φ h/\(∃o,h.get? a=!o)/\∀h1 h2:Heap,φ h1->(∀o,h1.get? a=!o->h2.get? a=!o)->φ h2
def jm(H:Hp)(h:Heap):Prop:=∀a o,H a=!o->fG P w H h a o
end
section
variable {P:Program}{w:World}{H H':Hp}{h h':Heap}{a:Addr}{o:HO}
theorem fG.lt(x:fG P w H h a o):a< ~~~h.objs:=by
 cases o with
 |lst xs=>let(_,_,_,_,e):=x;show bP e
 |tup xs=>let(_,_,_,p):=x;show p.lt
 |dK i=>let(_,_,_,_,o,_,_,e,_):=x;show bP e
 |dT i=>let(_,_,_,_,o,_,_,e,_):=x;show bP e
 |set S n=>let(o,_,_,_,e,_):=x;show bP e
 |ins C dx fs=>let(_,_,_,e,_):=x;show bP e
 |own y=>let(_,e):=x;show bP e
 |xd fs=>let(_,(_,_,_,e,_),_):=x;show bP e
 |rng lo hi=>let(_,_,_,e):=x;show bP e
 |frz N u=>let(e,_):=x;show bP e
 |tbl ps=>show bP (x)
 |met f y=>show bP (x)
 |ext φ=>let(_,(_,e),_):=x;show bP e
theorem Paired.mapP:∀{l₁:List α}{l₂:List β},Paired F l₁ l₂->(∀a b,F a b->ZT a b)->Paired ZT l₁ l₂
 |_,_,.nil=>λ_=>.nil
 |_,_,.cons r t=>λf=>.cons (f _ _ r) (Paired.mapP t f)
def fG.stay(x:fG P w H h a o)(k:∀b u,(b=a\/H b=!(.own a))->h.get? b=!u->h'.get? b=!u)
 (ho:∀b,H b=!(.own a)->H' b=!(.own a)) (ht:∀b xs,H b=!(.tup xs)->H' b=!(.tup xs)):fG P w H' h' a o:=by
 induction o with
 |lst xs=>let(z,D,n,r,e):=x;show#[z,D,n,r,k _ _ (Zl O) e]
 |tup xs=>let(z,D,r,i,e,c):=x;show#[z,D,r,i,k _ _ (Zl O) e,c]
 |dK N=>let(z,y,W,r,i,es,j,e,c):=x;show#[z,y,W,r,i,es,j,k _ _ (Zl O) e,c]
 |dT N=>
  let(z,y,xs,r,i,es,j,e,c):=x;show#[z,y,xs,Paired.mapP r λp q z=>#[z.1,ht _ _ z.2.1,z.2.2],i,es,j,k _ _ (Zl O) e,c]
 |set S n=>let(i,es,j,t,e,c):=x;show#[i,es,j,t,k _ _ (Zl O) e,c]
 |ins C dx fs=>
  let(d,z,ne,e,mA,(F,es,j,e2,c),r):=x;show#[ho _ d,z,ne,k _ _ (Zl O) e,mA,#[F,es,j,k _ _ (YY d) e2,c],r]
 |own y=>let(i,e):=x;show#[i,k _ _ (Zl O) e]
 |xd fs=>let(mA,(F,es,j,e,c),r):=x;show#[mA,#[F,es,j,k _ _ (Zl O) e,c],r]
 |rng lo hi=>let(t,u,v,e):=x;show#[t,u,v,k _ _ (Zl O) e]
 |frz i u ih=>let(e,q):=x;show#[k _ _ (Zl O) e,ih q]
 |tbl ps=>
  let e:=x;show k a _ (Zl O) e
 |met f y=>
  let e:=x;show k a _ (Zl O) e
 |ext φ=>let(p,(o,e),st):=x;show#[st _ _ p λo q=>k _ _ (Zl O) q,#[o,k _ _ (Zl O) e],st]
theorem jm.lt(x:jm P w H h)(e:H a=!o):a< ~~~h.objs:=(x a o e).lt
def jm.fresh(x:jm P w H h)(e: ~~~h.objs<=a):H a=J:=by
 cases q:H a with
 |none=>rfl
 |some u=>show absurd (eJ (x.lt q) e) (kC _)
def jm.kept(x:jm P w H h)(k:∀b u,h.get? b=!u->h'.get? b=!u):jm P w H h':=λa o e=>
 (x a o e).stay (λb u _ q=>k b u q) (λ_ q=>q) λ_ _ q=>q
def jm.laid(x:jm P w H h)(k:∀b u,h.get? b=!u->h'.get? b=!u)(z: ~~~h.objs<=a)(new:fG P w (aE H a o) h' a o):jm P w (aE H a o) h':=λb u e=>by
 let i:=x.fresh z;by_cases j:b=a
 . subst j;rw[bZ]at e;grind
 . rw[cV j]at e;show(x b u e).stay (λc v _ q=>k c v q) (λc q=>by rw[cV (fD q i)];show q) λc xs q=>by rw[cV (fD q i)];show q
end
def Rd(H:Hp)(a:Addr)(u:HO):Prop:=H a=!u\/∃o,H a=!(.frz o u)
def Rd.ok(r:Rd H a u)(x:jm P w H h):fG P w H h a u:=by
 obtain r|⟨o,r⟩:=r
 . show x a u r
 . let(_,q):=x a _ r;show q
def Tt:Option HO->Prop
 |some (.lst _)=>True
 |some (.dK _)=>True
 |some (.dT _)=>True
 |some (.set _ _)=>True
 |some (.ins _ _ _)=>True
 |some (.ext _)=>True
 |_=>False
section
variable {P:Program}{w:World}{H:Hp}{h h':Heap}{x e:Addr}{o':HO}
def jm.write(ok:jm P w H h)(mu:Tt (H x))(he:e=x\/H e=!(.own x))(k:∀b u,b≠e->h.get? b=!u->h'.get? b=!u)(D:∃u,h'.get? e=!u)
 (new:fG P w (aE H x o') h' x o'):jm P w (aE H x o') h':=λb u q=>by
 have i:∀c y,H c=!(.own y)->c≠x:=λc y r z=>by subst z;rw[r]at mu;show mu
 have j:∀c xs,H c=!(.tup xs)->c≠x:=λc xs r z=>by subst z;rw[r]at mu;show mu
 by_cases Q:b=x
 . subst Q;rw[bZ]at q;grind
 . rw[cV Q]at q;by_cases F:b=e
   . have N:H b=!(.own x):=by
      obtain z|z:=he
      . grind
      . grind
     rw[q]at N;cases N;let(v,hv):=D;show#[v,by rw[F];show hv]
   . show(ok b u q).stay (λc v W r=>k c v ?_ r) (λc r=>by rw[cV (i c b r)];show r) λc xs r=>by rw[cV (j c xs r)];show r
     obtain rfl|W:=W
     . grind
     . obtain z|z:=he
       . grind
       . grind
end
structure Un(fs ex:List Addr)(H H':Hp)(h h':Heap):Prop where
 keep:∀b o,h.get? b=!o->H b=none->b∉fs->b∉ex->h'.get? b=!o
 slot:∀b o,h.get? b=!o->H b=none->b∈fs->b∉ex->∃sl,h'.get? b=some { o with slots:=sl }
 free:∀b o,h.get? b=!o->H b=none->b∉ex->H' b=none
 there:∀b o,h.get? b=!o->b∉ex->∃o',h'.get? b=!o'
 tups:∀b xs,H b=!(.tup xs)->H' b=!(.tup xs)
 frzs:∀b o u,H b=!(.frz o u)->H' b=!(.frz o u)
 tbls:∀b ps,H b=!(.tbl ps)->∃more,H' b=!(.tbl (ps++more))
section
variable {fs eL ex ex':List Addr}{H H1 H2:Hp}{h h1 h2 h':Heap}{a x e:Addr}{o:HO}
def Un.any(u:Un fs ex H H1 h h1)(q:h.get? b=!ob)(n:H b=J)(j:b∉ex):∃sl,h1.get? b=some { ob with slots:=sl }:=by
 by_cases z:b∈fs
 . show u.slot b ob q n z j
 . show#[ob.slots,u.keep b ob q n z j]
def Un.kept(k:∀b u,h.get? b=!u->h'.get? b=!u):Un fs ex H H h h':=
 #[λb i q _ _ _=>k b i q,λb i q _ _ _=>#[i.slots,k b i q],λ_ _ _ n _=>n,λb i q _=>#[i,k b i q],λ_ _ q=>q,λ_ _ _ q=>q,λ_ ps q=>#[#[],by rw[q];simp]]
def Un.refl:Un fs ex H H h h:=Un.kept λ_ _ q=>q
def Un.laid(k:∀b u,h.get? b=!u->h'.get? b=!u)(j: ~~~h.objs<=a)(i:H a=J):Un fs ex H (aE H a o) h h' where
 keep:=λb u q _ _ _=>k b u q
 slot:=λb u q _ _ _=>#[u.slots,k b u q]
 free:=λb u q n _=>by rw[cV (de (eJ (bP q) j))];show n
 there:=λb u q _=>#[u,k b u q]
 tups:=λb xs q=>by rw[cV (fD q i)];show q
 frzs:=λb u xs q=>by rw[cV (fD q i)];show q
 tbls:=λb ps q=>#[#[],by rw[cV (fD q i),q];simp]
def Un.write(mu:Tt (H x))(he:e=x\/H e=!(.own x))(k:∀b u,b≠e->h.get? b=!u->h'.get? b=!u)(D:∃u,h'.get? e=!u):Un fs ex H (aE H x o) h h':=by
 have N:∀b,H b=J->b≠x:=λb n z=>by subst z;rw[n]at mu;show mu
 have j:∀b,H b=J->b≠e:=λb n z=>by
  obtain r|r:=he
  . grind
  . grind
 have i:∀b u,H b=!u->¬ Tt (!u)->b≠x:=λb u q nm z=>by subst z;rw[q]at mu;show nm mu
 show#[λb u q n _ _=>k b u (j b n) q,λb u q n _ _=>#[u.slots,k b u (j b n) q],λb u q n _=>by rw[cV (N b n)];show n,λb u q _=>?_,
  λb xs q=>by rw[cV (i b _ q λz=>z)];show q,λb u xs q=>by rw[cV (i b _ q λz=>z)];show q,λb ps q=>#[#[],by rw[cV (i b _ q λz=>z),q];simp]]
 by_cases F:b=e
 . grind
 . grind
end
def YG(h:Heap)(H:Hp):List Addr:=(List.range h.objs.size).filter λa=>(H a).isSome
def xT(h:Heap)(H:Hp):Heap:=W.hideAll h (YG h H)
def Tu(h:Heap)(H:Hp):(xT h H).objs.size= ~~~h.objs:=W.hideAll_size _ _
def Wf(e:h.get? b=!o)(n:H b=J):(xT h H).get? b=!o:=
 W.hideAll_get _ e λi=>by let q:=(mem_filter.mp i).2;grind
def ZC(e:(xT h H).get? b=!o):h.get? b=!o/\H b=J:=by
 let i:=W.of_hideAll (YG h H) e;show#[i,?_];cases q:H b with
 |none=>rfl
 |some x=>
  have z:(xT h H).get? b=J:=W.hideAll_none (YG h H) (mem_filter.mpr #[mem_range.mpr (bP i),by simp[q]]);grind
def ZD(g h:Heap)(L:Addr):List (Addr×Obj):=(List.range h.objs.size).filterMap λa=>if a=L\/(g.get? a).isSome=G then J else (h.get? a).map λo=>(a,o)
def ax(g h:Heap)(L d:Addr):List (Addr×Obj):=(ZD g h L).filter λp=>decide (p.1≠d)
structure Mod(K:FG)(mg:Str->Option Value)(base:Heap):Prop where
 kin:K.In base
 glob:base.Ns mainGlobals mg
 blt:∃mb,base.Ns builtinsNs mb/\∀x:Str,x ≠ "__name__"->mb x=bootBuiltins x
 nolimit:base.NoLimit
structure Cx where
 prog:Program
 w:World
 K:FG
 mg:Str->Option Value
 base:Heap
 A:Around
 N:List Str
 s₀:Shared
 H0:Hp
 env:Env
 outer:List Env
 stack:List Env
 ex:List Addr
 fn:Str->Bool
 calm:Bool
 pn:List (Addr×Obj)
 xe:Value->Shared->Prop
noncomputable def frs (l:List Env):List Addr:=l.filterMap (·.frame)
abbrev Cx.fs(X:Cx):List Addr:=frs X.outer
def Tv(sc:Scope)(x:Str):Prop:=sc.names.lookup x=!.local\/sc.names.lookup x=!.cell\/sc.names.lookup x=!.free
def Loc(sc:Scope)(x:Str):Prop:=sc.names.lookup x=!.local\/sc.names.lookup x=!.cell
def pc(env:Env)(h:Heap)(m:Str->Option Value)(x:Str)(u:Value):Prop:=
 (env.kindOf x=!.local/\m x=!u)\/((env.kindOf x=!.cell\/env.kindOf x=!.free)/\∃c,env.cells.lookup x=!c/\h.IsCell c (!u))
structure Cx.Ok(X:Cx):Prop where
 mod:Mod X.K X.mg X.base
 kind:X.env.scope.kind=.function
 glob:X.env.globals=mainGlobals
 blt:X.env.builtins=builtinsNs
 above: ~~~X.s₀.heap.objs<=X.env.locals
 inj:∀x y c,X.env.cells.lookup x=!c->X.env.cells.lookup y=!c->x=y
 has:∀x,(X.env.kindOf x=!.cell\/X.env.kindOf x=!.free)->∃c,X.env.cells.lookup x=!c
 cab:∀x c,X.fn x=true->X.env.cells.lookup x=!c-> ~~~X.s₀.heap.objs<=c
 hd:X.calm=true->X.A.handled=none
 frames:X.A.frames=!X.stack
 stk:X.stack=X.outer\/(X.stack=X.env::X.outer/\X.env.frame=!X.env.locals)
 exf:∀b∈X.ex,b≠X.env.locals/\∀x c,X.env.cells.lookup x=!c->c≠b
 bs:∀b o,X.base.get? b=!o->X.s₀.heap.get? b=!o/\X.H0 b=none
 bsz: ~~~X.base.objs<= ~~~X.s₀.heap.objs
 noex:∀b o,X.base.get? b=!o->b∉X.ex
 exfs:∀b∈X.ex,b∉X.fs
 funs:X.s₀.heap.FunFrames X.base X.outer
 frf:∀b∈X.fs,X.H0 b=none
structure ai(X:Cx)(ae:List (Addr×Obj))(U:List (Option V))(H:Hp)(s:Shared):Prop where
 ok:X.Ok
 os:s.os=X.s₀.os
 bare:AllBare s.gens
 base:Un X.fs X.ex X.H0 H X.s₀.heap s.heap
 loc:∃m,s.heap.Ns X.env.locals m/\∀(i:Nat)(x:Str)(v:V),X.N[i]?=!x->U[i]?=!(!v)->Tv X.env.scope x->∃u,av v u/\pc X.env s.heap m x u
 cell:∀x c,X.env.cells.lookup x=!c->∃v,s.heap.IsCell c v
 free:H X.env.locals=none
 freeC:∀x c,X.env.cells.lookup x=!c->H c=none
 pin:∀p∈X.pn++ae,s.heap.get? p.1=!p.2/\H p.1=none/\p.1≠X.env.locals/\p.1∉X.fs/\∀v,p.2.data≠.cell v
 hok:jm X.prog X.w H s.heap
 len:-U=-X.N
section
variable {X:Cx}{ae:List (Addr×Obj)}{U:List (Option V)}{H H':Hp}{s:Shared}{h':Heap}
def Cx.Ok.nofr(ok:X.Ok)(e:X.base.get? b=!o):b∉X.fs:=λi=>by have:=(ok.funs.mem i).1;rw[e]at this;cases this
theorem ai.bs(I:ai X ae U H s):∀b o,X.base.get? b=!o->s.heap.get? b=!o/\H b=J:=λb o e=>
 #[I.base.keep b o (I.ok.bs b o e).1 (I.ok.bs b o e).2 (I.ok.nofr e) (I.ok.noex b o e),I.base.free b o (I.ok.bs b o e).1 (I.ok.bs b o e).2 (I.ok.noex b o e)]
def ai.bk(I:ai X ae U H s):∀b o,X.base.get? b=!o->s.heap.get? b=!o:=λb o e=>(I.bs b o e).1
theorem ai.mod(I:ai X ae U H s):Mod X.K X.mg X.base:=I.ok.mod
def ai.kIn(I:ai X ae U H s):X.K.In s.heap:=I.ok.mod.kin.keeps I.bk
theorem ai.lt(I:ai X ae U H s):X.env.locals< ~~~s.heap.objs:=let #[_,hn,_]:=I.loc;hn.lt
def ai.sz(I:ai X ae U H s): ~~~X.s₀.heap.objs<= ~~~s.heap.objs:=d4 I.ok.above (lI I.lt)
def ai.nofs(I:ai X ae U H s){a:Addr}(h: ~~~s.heap.objs<=a):a∉X.fs:=λj=>by let(_,o,i,_):=I.ok.funs.mem j;show absurd (eJ (bP i) (d4 I.sz h)) ()
def ai.cne(I:ai X ae U H s):∀x c,X.env.cells.lookup x=!c->c≠X.env.locals:=λx c e z=>by let(v,o,q,D):=I.cell x c e;let(m,(o',es,F,i,j,_),_):=I.loc;rw[z,i]at q;cases q;rw[j]at D;cases D
theorem ai.funs(I:ai X ae U H s):s.heap.FunFrames X.base X.outer:=by
 have all:∀(l:List Env),(∀b∈frs l,b∈X.fs)->X.s₀.heap.FunFrames X.base l->s.heap.FunFrames X.base l:=by
  intro l;induction l with
  |nil=>intro _ _;trivial
  |cons F r ih=>
   intro hs W;let(hk,(L,o,i,N,Q,D),hr):=W;let q:=hs L (by unfold frs;rw[oS,i];show be);let(sl,e):=I.base.slot L o Q (I.ok.frf L q) q λz=>I.ok.exfs L z q;show#[hk,#[L,_,i,N,e,D],ih (λb j=>hs b (by unfold frs;rw[oS,i];show cw _ j)) hr]
 show all X.outer (λ_ j=>j) I.ok.funs
theorem ai.stack(I:ai X ae U H s):s.heap.FunFrames X.base X.stack:=by
 obtain e|⟨e,i⟩:=I.ok.stk
 . rw[e];show I.funs
 . rw[e];let(m,j,_):=I.loc;show .cons (by rw[I.ok.kind];decide) i j ?_ I.funs;show Heap.get?_none_of_le (d4 I.ok.bsz I.ok.above)
def ai.stkSub(I:ai X ae U H s):∀b∈frs X.stack,b∈X.env.locals::X.fs:=λb i=>by
 obtain e|⟨e,j⟩:=I.ok.stk
 . grind
 . rw[e]at i;unfold frs at i;rw[oS,j]at i;show i
def ai.stkFree(I:ai X ae U H s):∀b∈frs X.stack,H b=J:=λb i=>by
 obtain e|i:=a_.mp (I.stkSub b i)
 . rw[e];show I.free
 . let(_,o,j,_):=I.ok.funs.mem i;show I.base.free b o j (I.ok.frf b i) λz=>I.ok.exfs b z i
def ai.step{ch:List Addr}(I:ai X ae U H s)
 (N:∀b∈ch,(b∈X.ex\/X.s₀.heap.objs.size<=b)/\b≠X.env.locals/\(∀x c,X.env.cells.lookup x=!c->c≠b)/\∀p∈X.pn++ae,p.1≠b)
 (keep:∀b o,b≠X.env.locals->b∉X.fs->b∉ch->s.heap.get? b=!o->H b=J->h'.get? b=!o)
 (slot:∀b o,b≠X.env.locals->b∈X.fs->b∉ch->s.heap.get? b=!o->H b=J->∃sl,h'.get? b=some { o with slots:=sl }) (free:∀b o,b∉ch->s.heap.get? b=!o->H b=J->H' b=J)
 (there:∀b o,b∉ch->s.heap.get? b=!o->∃o',h'.get? b=!o')
 (tups:∀b xs,H b=!(.tup xs)->H' b=!(.tup xs)) (frzs:∀b o u,H b=!(.frz o u)->H' b=!(.frz o u)) (tbls:∀b ps,H b=!(.tbl ps)->∃more,H' b=!(.tbl (ps++more)))
 (ns:∀m,s.heap.Ns X.env.locals m->h'.Ns X.env.locals m) (hok:jm X.prog X.w H' h') (hg:AllBare g'):
 ai X ae U H' { s with heap:=h',gens:=g',drawn:=d',toks:=t' }:=by
 have wm:∀b o,X.s₀.heap.get? b=!o->b≠X.env.locals:=λb o e=>de (eJ (bP e) I.ok.above);have W:∀b o,X.s₀.heap.get? b=!o->b∉X.ex->b∉ch:=λb o e j hb=>by
  obtain z|z:=(N b hb).1
  . show j z
  . show absurd (eJ (bP e) z) ()
 have F:∀x c,X.env.cells.lookup x=!c->∀v,s.heap.IsCell c v->h'.IsCell c v:=λx c e v z0=>by
  let(o,ho,hd):=z0
  let D:=λz=>(N c z).2.2.1 x c e O;by_cases hc:c∈X.fs
  . let(sl,q):=slot c o (I.cne x c e) hc D ho (I.freeC x c e);show#[_,q,hd]
  . show#[o,keep c o (I.cne x c e) hc D ho (I.freeC x c e),hd]
 show#[I.ok,I.os,hg,#[λb o e n hb j=>?_,λb o e n hb j=>?_,λb o e n j=>?_,λb o e j=>?_,λb xs e=>tups b xs (I.base.tups b xs e),λb o xs e=>frzs b o xs (I.base.frzs b o xs e),λb ps e=>?_],?_,λx c e=>?_,?_,λx c e=>?_,λp hp=>?_,hok,I.len]
 . show keep b o (wm b o e) hb (W b o e j) (I.base.keep b o e n hb j) (I.base.free b o e n j)
 . let(sl,Q):=I.base.slot b o e n hb j;let(FI,e2):=slot b _ (wm b o e) hb (W b o e j) Q (I.base.free b o e n j);show#[FI,e2]
 . let(o',Q):=I.base.there b o e j;show free b o' (W b o e j) Q (I.base.free b o e n j)
 . let(o',Q):=I.base.there b o e j;show there b o' (W b o e j) Q
 . let(m1,Q):=I.base.tbls b ps e;grind
 . let(m,hn,hl):=I.loc;show#[m,ns m hn,λi x v Q e2 e3=>?_];let(u,r,l):=hl i x v Q e2 e3;show#[u,r,?_];obtain l|⟨k,c,e,z⟩:=l
   . show Zl l
   . show YY #[k,c,e,F x c e _ z]
 . let(v,z):=I.cell x c e;show#[v,F x c e v z]
 . let(m,(o,_,_,ho,_),_):=I.loc;show free _ o (λz=>(N _ z).2.1 O) ho I.free
 . let(v,o,ho,hd):=I.cell x c e;show free c o (λz=>(N c z).2.2.1 x c e O) ho (I.freeC x c e)
 . let(e,n,ne,nf,d):=I.pin p hp;let D:=λz=>(N p.1 z).2.2.2 p hp O;show#[keep p.1 p.2 ne nf D e n,free p.1 p.2 D e n,ne,nf,d]
def ai.un(I:ai X ae U H s)(u:Un X.fs [] H H' s.heap h')(F:jm X.prog X.w H' h'):ai X ae U H' { s with heap:=h',toks:=t' }:=by
 let(m,(o,es,ep,W,r),_):=id I.loc;let(sl,hL):=u.any W I.free (by simp);show I.step (ch:=[]) (λ_ z=>nomatch z) (λb o _ D _ e n=>u.keep b o e n D ()) (λb o _ D _ e n=>u.slot b o e n D ()) (λb o _ e n=>u.free b o e n ()) (λb o _ e=>u.there b o e ()) u.tups u.frzs u.tbls (λm' hm=>by let(o',q,j,i,r'):=hm;rw[W]at i;cases i;show#[_,q,j,hL,r']) F I.bare
def ai.call(I:ai X ae U H s)(u:Un (frs X.stack) ch H H' s.heap h')(N:jm X.prog X.w H' h')(hg:AllBare g')
 (j:∀b∈ch,(b∈X.ex\/X.s₀.heap.objs.size<=b)/\b≠X.env.locals/\(∀x c,X.env.cells.lookup x=!c->c≠b)/\∀p∈X.pn++ae,p.1≠b):
 ai X ae U H' { s with heap:=h',gens:=g',drawn:=d',toks:=t' }:=by
 let(m,(o,es,ep,ho,r),_):=id I.loc;let(sl,W):=u.any ho I.free λz=>(j _ z).2.1 O;show I.step j (λb o W hb i e n=>u.keep b o e n (λz=>(a_.mp (I.stkSub b z)).elim W hb) i) (λb o _ _ i e n=>u.any e n i) (λb o i e n=>u.free b o e n i) (λb o i e=>u.there b o e i) u.tups u.frzs u.tbls (λm' hm=>by let(o',F,Q,q,r'):=hm;rw[ho]at q;cases q;show#[_,F,Q,W,r']) N hg
def ai.turned(I:ai X ae U H s)(k:∀b o,b≠it->s.heap.get? b=!o->h'.get? b=!o)(Q:H it=J)(hL:it≠X.env.locals)
 (h1:it∈X.ex\/X.s₀.heap.objs.size<=it) (h2:∀x c,X.env.cells.lookup x=!c->c≠it) (h3:∀p∈X.pn++ae,p.1≠it):ai X ae U H { s with heap:=h',toks:=t' }:=by
 have F:∀b u,H b=!u->b≠it:=λb u e z=>by rw[z,Q]at e;cases e
 show I.step (ch:=[it]) (λb hb=>?_) (λb o _ _ i e _=>k b o (λz=>i ∅) e) (λb o _ _ i e _=>#[o.slots,k b o (λz=>i ∅) e]) (λ_ _ _ _ n=>n)
  (λb o i e=>#[o,k b o (λz=>i ∅) e]) (λ_ _ e=>e) (λ_ _ _ e=>e) (λb ps e=>#[#[],by rw[e];simp]) (λm hm=>?_) (λb u e=>?_) I.bare
 . have e:b=it:=by simpa using hb
   grind
 . let(o,es,N,W,r):=hm;show#[o,es,N,k _ o ∅ W,r]
 . show(I.hok b u e).stay (λc v i q=>k c v ?_ q) (λ_ q=>q) λ_ _ q=>q;obtain z|z:=i
   . grind
   . grind
def ai.tok(I:ai X ae U H s)(t:Nat):ai X ae U H { s with toks:=t }:=I.un Un.refl I.hok
theorem ai.kept(I:ai X ae U H s)(k:∀b u,s.heap.get? b=!u->h'.get? b=!u):ai X ae U H { s with heap:=h',toks:=t' }:=I.un (Un.kept k) (I.hok.kept k)
theorem ai.laid{a:Addr}(I:ai X ae U H s)(k:∀b u,s.heap.get? b=!u->h'.get? b=!u)(i: ~~~s.heap.objs<=a)(new:fG X.prog X.w (aE H a o) h' a o):
 ai X ae U (aE H a o) { s with heap:=h',toks:=t' }:=I.un (Un.laid k i (I.hok.fresh i)) (I.hok.laid k i new)
theorem ai.write(I:ai X ae U H s)(mu:Tt (H x))(he:e=x\/H e=!(.own x))(k:∀b u,b≠e->s.heap.get? b=!u->h'.get? b=!u)(i:∃u,h'.get? e=!u)
 (new:fG X.prog X.w (aE H x o) h' x o):ai X ae U (aE H x o) { s with heap:=h',toks:=t' }:=I.un (Un.write mu he k i) (I.hok.write mu he k i new)
def ai.pins_of(I:ai X ae U H s)(h:∀p∈pins',s.heap.get? p.1=!p.2/\H p.1=J/\p.1≠X.env.locals/\p.1∉X.fs/\∀v,p.2.data≠.cell v):ai X pins' U H s:=
 #[I.ok,I.os,I.bare,I.base,I.loc,I.cell,I.free,I.freeC,λp i=>(cr.mp i).elim (λz=>I.pin p (ga _ z)) (h p),I.hok,I.len]
def Ky{N:List Str}(z:N.Nodup){i j:Nat}(a:N[i]?=!x)(b:N[j]?=!x):i=j:=by let(h1,D):=c9.mp a;let(h2,q):=c9.mp b;show(getElem_inj z).mp (D.trans q.symm)
def HF(I:ai X ae U H s)(hN:X.N.Nodup)(hi:X.N[i]?=!x)(W:Loc X.env.scope x)(r:av v u)
 (h:∀s',ai X ae (U.set i (!v)) H s'->(∃a,Heap.SameBut a s.heap s'.heap/\(a=X.env.locals\/X.env.cells.lookup x=!a))->Q ⟨⟩ s') (hf:X.fn x=G\/X.env.scope.names.lookup x=!.local:=by first |show Zl O |show YY O |assumption):wpAny ZO A (storeName X.env x u) Q E s:=by
 let(m,hn,hl):=id I.loc;have hcls:(X.env.scope.kind==.class||(X.env.scope.kind==.module&&X.env.locals != X.env.globals))=M:=by rw[I.ok.kind];rfl
 have wn:i< -U:=by rw[I.len];show(c9.mp hi).1
 let cne:=I.cne;have D:∀{a:Addr}{h':Heap},(∃o,s.heap.get? a=!o/\H a=J)->Heap.SameBut a s.heap h'->jm X.prog X.w H h':=λ{a h'} ha hs b ob e=>by
  show(I.hok b ob e).stay (λc w' hc q=>(hs.2 c ?_).trans q) (λ_ q=>q) λ_ _ q=>q;obtain rfl|hc:=hc
  . grind
  . grind
 obtain hk|hk:=W
 . show wpAny_storeName_local hk hn (λh' kQ hs=>?_) hcls;let(oL,_,_,FK,_):=id hn;show h _ #[I.ok,I.os,I.bare,#[λb o e n hb W=>?_,λb o e n hb W=>?_,I.base.free,λb o e W=>?_,I.base.tups,I.base.frzs,I.base.tbls],#[_,kQ,λj y v' F e2 e3=>?_],λy c e=>?_,I.free,I.freeC,λp hp=>?_,D #[oL,FK,I.free] hs,by simpa using I.len] #[_,hs,Zl O]
   . show(hs.2 b (de (eJ (bP e) I.ok.above))).trans (I.base.keep b o e n hb W)
   . let(sl,F):=I.base.slot b o e n hb W;show#[sl,(hs.2 b (de (eJ (bP e) I.ok.above))).trans F]
   . let(o',F):=I.base.there b o e W;show#[o',(hs.2 b (de (eJ (bP e) I.ok.above))).trans F]
   . by_cases hj:j=i
     . subst hj;rw[hi]at F;cases F;rw[hW wn]at e2;cases e2;show#[u,r,Zl #[hk,by simp]]
     . rw[ng ()]at e2;let(u',r',q):=hl j y v' F e2 e3;show#[u',r',?_];obtain⟨k,e⟩|⟨k,c,e,z⟩:=q
       . show Zl #[k,?_];have:y≠x:=λe=>hj (Ky hN F (e▸hi));grind
       . show YY #[k,c,e,z.sameBut hs (cne y c e)]
   . let(w',z):=I.cell y c e;show#[w',z.sameBut hs (cne y c e)]
   . let(e,n,ne,nf,d):=I.pin p hp;show#[(hs.2 p.1 ne).trans e,n,ne,nf,d]
 . have l0:X.fn x=G:=by
    obtain z|z:=hf
    . show z
    . grind
   let(c,hc):=I.ok.has x (Zl hk);let(w',z):=I.cell x c hc;show wpAny_storeName_cell I.ok.kind hk hc z (λh' l5 hs=>?_);let(oc,FL,hocd):=id z;show h { s with heap:=h' } #[I.ok,I.os,I.bare,#[λb o e n hb W=>?_,λb o e n hb W=>?_,I.base.free,λb o e W=>?_,I.base.tups,I.base.frzs,I.base.tbls],#[m,hn.sameBut hs ∅,λj y v' F e2 e3=>?_],λy c' e=>?_,I.free,I.freeC,λp hp=>?_,D #[oc,FL,I.freeC x c hc] hs,by simpa using I.len] #[c,hs,YY hc]
   . show(hs.2 b (de (eJ (bP e) (I.ok.cab x c l0 hc)))).trans (I.base.keep b o e n hb W)
   . let(sl,F):=I.base.slot b o e n hb W;show#[sl,(hs.2 b (de (eJ (bP e) (I.ok.cab x c l0 hc)))).trans F]
   . let(o',F):=I.base.there b o e W;show#[o',(hs.2 b (de (eJ (bP e) (I.ok.cab x c l0 hc)))).trans F]
   . by_cases hj:j=i
     . subst hj;rw[hi]at F;cases F;rw[hW wn]at e2;cases e2;show#[u,r,YY #[Zl hk,c,hc,l5]]
     . rw[ng ()]at e2;let(u',r',q):=hl j y v' F e2 e3;show#[u',r',?_];obtain q|⟨k,c',e,z'⟩:=q
       . show Zl q
       . show YY #[k,c',e,z'.sameBut hs ?_];rintro rfl;show hj (Ky hN F (I.ok.inj _ _ _ e hc▸hi))
   . by_cases l_:c'=c
     . grind
     . let(w2,z2):=I.cell y c' e;show#[w2,z2.sameBut hs l_]
   . let(e,n,ne,nf,d):=I.pin p hp;show#[(hs.2 p.1 ?_).trans e,n,ne,nf,d];grind
def Kz(I:ai X ae U H s)(z:X.N.Nodup)(hi:X.N[i]?=!x)(D:Loc X.env.scope x)(r:av v u)
 (h:∀s',ai X ae (U.set i (!v)) H s'->Q ⟨⟩ s') (j:X.fn x=G\/X.env.scope.names.lookup x=!.local:=by first |show Zl O |show YY O |assumption):wpAny ZO A (storeName X.env x u) Q E s:=
 HF I z hi D r (λs' q _=>h s' q) j
def ai.call'(I:ai X ae U H s)(q:s'.os=s.os)(u:Un (frs X.stack) ch H H' s.heap s'.heap)(i:jm X.prog X.w H' s'.heap)(z:AllBare s'.gens)
 (j:∀b∈ch,(b∈X.ex\/X.s₀.heap.objs.size<=b)/\b≠X.env.locals/\(∀x c,X.env.cells.lookup x=!c->c≠b)/\∀p∈X.pn++ae,p.1≠b):ai X ae U H' s':=by
 let(h',D,N,F,o'):=s';let e:=q;subst e;show I.call u i z j
end
abbrev XK:=Value->Option Addr->Hp->Prop
abbrev St:=List (Option V)
abbrev VK:=V->Hp->Prop
abbrev TE:=St->Hp->VK->Prop
abbrev TT:=St->Hp->(Bool->Hp->Prop)->Prop
abbrev TA:=St->Hp->(List V->Hp->Prop)->Prop
structure fN where
 nx:St->Hp->Prop
 rt:VK
 bk:St->Hp->Prop:=λ_ _=>False
 ct:St->Hp->Prop:=λ_ _=>False
abbrev TS:=fN->St->Hp->Prop
def EP(X:Cx)(ae:List (Addr×Obj))(U:St)(Q:VK)(u:Value)(s':Shared):Prop:=∃v H',ai X ae U H' s'/\av v u/\Q v H'
def TP(X:Cx)(ae:List (Addr×Obj))(U:St)(Q:Bool->Hp->Prop)(b:Bool)(s':Shared):Prop:=∃H',ai X ae U H' s'/\Q b H'
def AP(X:Cx)(ae:List (Addr×Obj))(U:St)(Q:List V->Hp->Prop)(us:List Value)(s':Shared):Prop:=∃vs H',ai X ae U H' s'/\am vs us/\Q vs H'
def SP(X:Cx)(ae:List (Addr×Obj))(D:fN)(f:Flow)(s':Shared):Prop:=
 match f with
 |.next=>∃U' H',ai X ae U' H' s'/\D.nx U' H'
 |.brk=>∃U' H',ai X ae U' H' s'/\D.bk U' H'
 |.cont=>∃U' H',ai X ae U' H' s'/\D.ct U' H'
 |.ret u=>∃v U' H',ai X ae U' H' s'/\av v u/\D.rt v H'
def PE(X:Cx)(e:Expr)(t:TE):Prop:=
 ∀(ae:List (Addr×Obj))(s:Shared)(U:St)(H:Hp)(Q:VK),ai X ae U H s->t U H Q->wpAny (model X.prog X.w) X.A (eval e X.env) (EP X ae U Q) X.xe s
def PT(X:Cx)(e:Expr)(t:TT):Prop:=
 ∀(ae:List (Addr×Obj))(s:Shared)(U:St)(H:Hp)(Q:Bool->Hp->Prop),ai X ae U H s->t U H Q->wpAny (model X.prog X.w) X.A (isTrue e X.env (eval e X.env)) (TP X ae U Q) X.xe s
def PW(X:Cx)(e:Expr)(t:TT):Prop:=
 ∀(whole:Sem Value)(ae:List (Addr×Obj))(s:Shared)(U:St)(H:Hp)(Q:Bool->Hp->Prop),ai X ae U H s->t U H Q->wpAny (model X.prog X.w) X.A (isTrue e X.env whole) (TP X ae U Q) X.xe s
def PW.pt(h:PW X e t):PT X e t:=h _
def PA(X:Cx)(es:List Expr)(t:TA):Prop:=
 ∀(pos:Pos)(ae:List (Addr×Obj))(s:Shared)(U:St)(H:Hp)(Q:List V->Hp->Prop),ai X ae U H s->t U H Q->wpAny (model X.prog X.w) X.A (spliced (backTo pos (starEach es X.env))) (AP X ae U Q) X.xe s
def PS(X:Cx)(st:Stmt)(t:TS):Prop:=
 ∀(ae:List (Addr×Obj))(s:Shared)(U:St)(H:Hp)(D:fN),ai X ae U H s->t D U H->wpAny (model X.prog X.w) X.A (exec st X.env) (SP X ae D) X.xe s
def jP(X:Cx)(st:List Stmt)(t:TS):Prop:=
 ∀(ae:List (Addr×Obj))(s:Shared)(U:St)(H:Hp)(D:fN),ai X ae U H s->t D U H->wpAny (model X.prog X.w) X.A (execs st X.env) (SP X ae D) X.xe s
def dg(h:wpAny ZO A t Q E s)(i:∀a s,Q a s->Q' a s):wpAny ZO A t Q' E s:=wpAny_mono h i λ_ _ x=>x
section
variable {X:Cx}
def pf(j:PE X a ta)(D:PE X b tb){U:St}{ZN:V->V->Hp->Prop}(I:ai X ae U H s)(h:ta U H λx H1=>tb U H1 λy H2=>ZN x y H2)
 {f:Value->Value->Sem α}
 (N:∀v u i x y H2,ai X ae U H2 i->av x v->av y u->ZN x y H2->wpAny (model X.prog X.w) X.A (f v u) Q X.xe i):
 wpAny (model X.prog X.w) X.A (eval a X.env) (λv q=>wpAny (model X.prog X.w) X.A (eval b X.env) (λu F=>wpAny (model X.prog X.w) X.A (f v u) Q X.xe F) X.xe q) X.xe s:=by
 show dg (j ae s U H _ I h) λv z z1=>?_;let(x,H1,I1,r1,q1):=z1;show dg (D ae z U H1 _ I1 q1) λu i z2=>?_;let(y,H2,I2,r2,q2):=z2;grind
def uH(i:Nat):TE:=λU H Q=>∃v,U[i]?=!(!v)/\Q v H
def tC(v:V):TE:=λ_ H Q=>Q v H
def FO{pos:Pos}(hN:X.N[i]?=!x)(hv:Tv X.env.scope x)(q:(x==("__debug__" : Str))=M:=by decide)(z:(x==("__classdict__" : Str))=M:=by decide):PE X (.Name x pos) (uH i):=by
 intro ae s U H Q I h;let(v,e,h):=h;let(m,W,hl):=I.loc;let(u,r,l):=hl i x v hN e hv;have fin:EP X ae U Q u s:=#[v,H,I,r,h];obtain⟨hk,F⟩|⟨hk,c,D,j⟩:=l
 . show wpAny_Name (wpAny_loadName_local I.ok.kind hk W F fin) q
 . obtain hk|hk:=hk
   . show wpAny_Name (wpAny_loadName_cell I.ok.kind hk D j fin) q
   . show wpAny_Name (wpAny_loadName_free I.ok.kind hk D j fin z) q
def FR{i j pos}:PE X (.Constant (.int i) j pos) (tC (.int i)):=λ_ _ _ H _ I h=>wpAny_Constant_int #[.int i,H,I.tok _,#[_,O],h]
def YH{b j pos}:PE X (.Constant (.bool b) j pos) (tC (.bl b)):=λ_ _ _ H _ I h=>Constant_bool #[.bl b,H,I,O,h]
def FU{j pos}:PE X (.Constant .none j pos) (tC .non):=λ_ _ _ H _ I h=>Constant_none #[.non,H,I,O,h]
def FV{x j pos}:PE X (.Constant (.str x) j pos) (tC (.str x)):=λ_ _ _ H _ I h=>Calls.Constant_str #[.str x,H,I.tok _,#[_,O],h]
def Gl(X:Cx)(x:Str):Prop:=X.env.kindOf x=!.globalImplicit
def Pz{U:St}(I:ai X ae U H s)(i:Gl X x)(q:X.mg x=!u)(h:Q u s)
 (j:(x==("__debug__" : Str))=M:=by decide):wpAny (model X.prog X.w) X.A (eval (.Name x pos) X.env) Q E s:=
 Calls.Name_function_global I.ok.kind i (Calls.loadGlobal_global (by rw[I.ok.glob];show I.mod.glob.keeps I.bk) q h) j
def zE{U:St}{pos:Pos}(I:ai X ae U H s)(j:Gl X x)(D:X.mg x=J)(q:bootBuiltins x=!u)(h:Q u s)
 (i:x ≠ "__name__":=by decide) (z:(x==("__debug__" : Str))=M:=by decide):wpAny (model X.prog X.w) X.A (eval (.Name x pos) X.env) Q E s:=by
 let(F,h1,h2):=I.mod.blt;show Calls.Name_function_global I.ok.kind j (Calls.loadGlobal_builtin (by rw[I.ok.glob];show I.mod.glob.keeps I.bk) D (by rw[I.ok.blt];show h1.keeps I.bk) ((h2 x i).trans q) h) z
variable {a b:Expr}{ta tb:TE}{pos:Pos}
variable {tA nI:TT}{ax:List Expr}
def wo(t u:TT):TT:=λU H Q=>t U H λc H1=>if c=G then u U H1 Q else Q M H1
def wq(t u:TT):TT:=λU H Q=>t U H λc H1=>if c=G then Q G H1 else u U H1 Q
def FX(t:TT):TT:=λU H Q=>t U H λc H1=>Q (not c) H1
def ZF(i:PT X a tA):PW X (.BoolOp .And [a] pos) tA:=by
 intro wh ae s U H Q I h;show isTrue_and (dg (i ae s U H Q I h) λc j e=>?_);cases c with
 |true=>show isTrue_and_nil e
 |false=>show e
def FY(i:PT X a tA):PW X (.BoolOp .Or [a] pos) tA:=by
 intro wh ae s U H Q I h;show isTrue_or (dg (i ae s U H Q I h) λc j e=>?_);cases c with
 |false=>show isTrue_or_nil e
 |true=>show e
def F1(i:PT X a tA)(q:PW X (.BoolOp .And (b::ax) pos) nI):PW X (.BoolOp .And (a::b::ax) pos) (wo tA nI):=by
 intro wh ae s U H Q I h;show isTrue_and (dg (i ae s U H _ I h) λc j z3=>?_);let(H1,I1,q1):=z3;cases c with
 |true=>show q wh ae j U H1 Q I1 q1
 |false=>show#[H1,I1,q1]
def F2(i:PT X a tA)(q:PW X (.BoolOp .Or (b::ax) pos) nI):PW X (.BoolOp .Or (a::b::ax) pos) (wq tA nI):=by
 intro wh ae s U H Q I h;show isTrue_or (dg (i ae s U H _ I h) λc j z4=>?_);let(H1,I1,q1):=z4;cases c with
 |true=>show#[H1,I1,q1]
 |false=>show q wh ae j U H1 Q I1 q1
def F3(i:PT X a tA):PT X (.UnaryOp .Not a pos) (FX tA):=by intro ae s U H Q I h;show isTrue_not (i ae s U H (λc H1=>Q (not c) H1) I h)
def F4(ta tb:TE):TE:=λU H Q=>ta U H λx H1=>∃c,x=.bl c/\if c=G then tb U H1 Q else Q (.bl M) H1
def F5{op}(h:PE X a t):PE X (.BoolOp op [a] pos) t:=λae s U H Q I i=>BoolOp_one (h ae s U H Q I i)
def F6(j:PE X a ta)(z:PE X (.BoolOp .And (b::ax) pos) tb):PE X (.BoolOp .And (a::b::ax) pos) (F4 ta tb):=by
 intro ae s U H Q I h;show BoolOp_and (dg (j ae s U H _ I h) λv q z5=>?_);let(x,H1,I1,r1,i):=z5;let(c,rfl,i):=i;cases r1;show wpAny_truthy_bool ?_;cases c with
 |true=>show z ae q U H1 Q I1 i
 |false=>show#[.bl M,H1,I1,O,i]
def F7(t:TT)(ta tb:TE):TE:=λU H Q=>t U H λc H1=>if c=G then ta U H1 Q else tb U H1 Q
def Wg(z:PT X c tA)(j:PE X a ta)(q:PE X b tb):PE X (.IfExp c a b pos) (F7 tA ta tb):=by
 intro ae s U H Q I h;show wpAny_IfExp (dg (z ae s U H _ I h) λd i z6=>?_);let(H1,I1,q1):=z6;cases d with
 |true=>show j ae i U H1 Q I1 q1
 |false=>show q ae i U H1 Q I1 q1
end
def bY(K:FG)(H:Hp)(a:Addr)(xs:List V):Prop:=
 Rd H a (.lst xs)\/
  ∃(o:Obj)(bp:Array Value)(n:Nat),K.lookup a=!o/\o.cls=.type "list"/\o.dict=J/\o.data=.seq bp n/\bp.size<=sizeLine/\am xs bp.toList
def cW(K:FG)(H:Hp)(a:Addr)(xs:List V):Prop:=
 Rd H a (.tup xs)\/
  ∃(o:Obj)(bp:Array Value)(n:Nat),K.lookup a=!o/\o.cls=.type "tuple"/\o.data=.seq bp n/\bp.size<=sizeLine/\am xs bp.toList
noncomputable def F8:Value->Option V
 |.none=>!.non
 |.bool b=>!(.bl b)
 |.int i _=>!(.int i)
 |.str x _=>!(.str x)
 |.bytes b _=>!(.byt b)
 |.float b _=>!(.flt b)
 |YV a=>!(.ref a)
 |.type n=>!(.ty n)
 |_=>J
def av.abs(r:av x u):F8 u=!x:=by
 cases x with
 |non=>cases r;rfl
 |bl _=>cases r;rfl
 |int _=>let(t,rfl):=r;rfl
 |str _=>let(t,rfl):=r;rfl
 |byt _=>let(t,rfl):=r;rfl
 |flt _=>let(t,rfl):=r;rfl
 |ref _=>cases r;rfl
 |ty _=>cases r;rfl
def av.inj(r:av x u)(q:av y u):x=y:=d0 (r.abs.symm.trans q.abs)
theorem am.inj:∀{xs ys:List V}{i:List Value},am xs i->am ys i->xs=ys
 |_,_,_,.nil,.nil=>rfl
 |_,_,_,.cons r t,.cons q j=>by rw[r.inj q,am.inj t j]
section
variable {X:Cx}{ae:List (Addr×Obj)}{U:St}{H:Hp}{s:Shared}{a:Addr}{xs ys:List V}
def bY.of{K:FG}(h:H a=!(.lst xs)):bY K H a xs:=Zl (Zl h)
def cW.of{K:FG}(h:H a=!(.tup xs)):cW K H a xs:=Zl (Zl h)
def ai.list(I:ai X ae U H s)(h:bY X.K H a xs):∃i:List Value,am xs i/\PlainL s.heap a i.toArray/\-xs<=sizeLine:=by
 obtain h|⟨o,i,n,hk,q,j,hs,D,r⟩:=h
 . let(z,i,n,r,e):=h.ok I.hok;show#[i,r,#[_,n,e,O,O,O],z]
 . show#[i.toList,r,#[o,n,I.kIn a o hk,q,j,by simpa using hs],?_];let e:=-r;grind
def ai.tuple(I:ai X ae U H s)(h:cW X.K H a xs):∃i:List Value,am xs i/\IsTup s.heap a i.toArray/\-xs<=sizeLine:=by
 obtain h|⟨o,i,n,hk,j,hs,q,r⟩:=h
 . let(z,i,r,p):=h.ok I.hok;grind
 . show#[i.toList,r,#[o,I.kIn a o hk,j,n,by simpa using hs],?_];let e:=-r;grind
def ai.list_inj(I:ai X ae U H s)(h:bY X.K H a xs)(h':bY X.K H a ys):xs=ys:=by
 let(j,r,(o,n,e,_,_,d),_):=I.list h;let(i,F,(o',N,q,_,_,z),_):=I.list h';rw[e]at q;cases q;rw[d]at z;injection z with D _;have:j=i:=by simpa using congrArg Array.toList D
 subst this;show r.inj F
def ai.tuple_inj(I:ai X ae U H s)(h:cW X.K H a xs)(h':cW X.K H a ys):xs=ys:=by
 let(j,r,(o,e,_,n,d),_):=I.tuple h;let(i,F,(o',q,_,N,z),_):=I.tuple h';rw[e]at q;cases q;rw[d]at z;injection z with D _;have:j=i:=by simpa using congrArg Array.toList D
 subst this;show r.inj F
end
noncomputable abbrev Cx.wish (X:Cx) (E:Value->Shared->Prop):Cx:={ X with xe:=E }
abbrev Cx.nox(X:Cx):Cx:=X.wish λ_ _=>False
theorem Cx.Ok.wish{X:Cx}(ok:X.Ok)(E:Value->Shared->Prop):(X.wish E).Ok:=
 #[ok.mod,ok.kind,ok.glob,ok.blt,ok.above,ok.inj,ok.has,ok.cab,ok.hd,ok.frames,ok.stk,ok.exf,ok.bs,ok.bsz,ok.noex,ok.exfs,ok.funs,ok.frf]
def Cx.Ok.unwish{X:Cx}(ok:(X.wish E).Ok):X.Ok:=
 #[ok.mod,ok.kind,ok.glob,ok.blt,ok.above,ok.inj,ok.has,ok.cab,ok.hd,ok.frames,ok.stk,ok.exf,ok.bs,ok.bsz,ok.noex,ok.exfs,ok.funs,ok.frf]
section
variable {X:Cx}{ae:List (Addr×Obj)}{U:St}{H:Hp}{s:Shared}{E:Value->Shared->Prop}
theorem ai.wish(I:ai X ae U H s)(E:Value->Shared->Prop):ai (X.wish E) ae U H s:=#[I.ok.wish E,I.os,I.bare,I.base,I.loc,I.cell,I.free,I.freeC,I.pin,I.hok,I.len]
theorem ai.unwish(I:ai (X.wish E) ae U H s):ai X ae U H s:=#[I.ok.unwish,I.os,I.bare,I.base,I.loc,I.cell,I.free,I.freeC,I.pin,I.hok,I.len]
theorem SP.unwish(h:SP (X.wish E) ae D f s'):SP X ae D f s':=by
 cases f with
 |next=>let(i,H',I,q):=h;show#[i,H',I.unwish,q]
 |brk=>let(i,H',I,q):=h;show#[i,H',I.unwish,q]
 |cont=>let(i,H',I,q):=h;show#[i,H',I.unwish,q]
 |ret u=>let(v,i,H',I,r,q):=h;show#[v,i,H',I.unwish,r,q]
theorem jP.nox{st:List Stmt}(h:jP X.nox st t):jP X st t:=λae s U H D I i=>
 wpAny_mono (h ae s U H D (I.wish _) i) (λ_ _ q=>q.unwish) λ_ _ z=>False.elim z
end
section
variable {X:Cx}{st:Stmt}{ax:List Stmt}{t u:TS}{e:Expr}{te:TE}{pos:Pos}
def F9:TS:=λD U H=>D.nx U H
def F_(t u:TS):TS:=λD U H=>t { D with nx:=u D } U H
def ZJ:jP X [] F9:=λ_ _ U H _ I h=>wpAny_execs_nil #[U,H,I,h]
def Wh(h1:PS X st t)(h2:jP X ax u):jP X (st::ax) (F_ t u):=by
 intro ae s U H D I h;show wpAny_execs_cons (dg (h1 ae s U H { D with nx:=u D } I h) λf z q=>?_);cases f with
 |next=>
  let(F,H',j,q):=q;show h2 ae z F H' D j q
 |ret v=>show q
 |brk=>show q
 |cont=>show q
def ZK(h1:PS X st t):jP X [st] t:=by
 intro ae s U H D I h;show wpAny_execs_cons (dg (h1 ae s U H D I h) λf F q=>?_);cases f with
 |next=>show wpAny_execs_nil q
 |ret v=>show q
 |brk=>show q
 |cont=>show q
def ai.quiet{U:St}(I:ai X ae U H s):interactive X.env=M:=by simp[interactive,I.ok.kind]
def J3(te:TE):TS:=λD U H=>te U H λ_ H1=>D.nx U H1
def qK(he:PE X e te)(hs:swapsWith e J pos.line X.env=pure M:=by rfl):PS X (.Expr e pos) (J3 te):=by intro ae s U H D I h;show wpAny_Expr_any (dg (he ae s U H _ I h) λv i z1=>by let(x,H1,I1,r1,q1):=z1;show #[U,H1,I1,q1]) I.quiet hs
def Gc(te:TE):TS:=λD U H=>te U H D.rt
def Tz(he:PE X e te):PS X (.Return (!e) pos) (Gc te):=by intro ae s U H D I h;show wpAny_Return_some (dg (he ae s U H _ I h) λv i z2=>by let(x,H1,I1,r1,q1):=z2;show #[x,U,H1,I1,r1,q1])
def Go(c:TT)(t u:TS):TS:=λD U H=>c U H λb H1=>if b=G then t D U H1 else u D U H1
def GA(z:PT X c tc)(j:jP X a t)(q:jP X b u):PS X (.If c a b pos) (Go tc t u):=by
 intro ae s U H D I h;show wpAny_If (dg (z ae s U H _ I h) λd i Nb=>?_);let(H1,I1,q1):=Nb;cases d with
 |true=>show j ae i U H1 D I1 q1
 |false=>show q ae i U H1 D I1 q1
end
abbrev TG:=V->St->Hp->(St->Hp->Prop)->Prop
abbrev yU:=List V->St->Hp->(St->Hp->Prop)->Prop
def PG(X:Cx)(target:Expr)(t:TG):Prop:=
 ∀(ae:List (Addr×Obj))(s:Shared)(U:St)(H:Hp)(v:V)(u:Value)(Q:St->Hp->Prop),ai X ae U H s->av v u->t v U H Q->
  wpAny (model X.prog X.w) X.A (assign target X.env u) (λ_ s'=>∃U' H',ai X ae U' H' s'/\Q U' H') X.xe s
def TQ(X:Cx)(ts:List Expr)(t:yU):Prop:=
 ∀(ae:List (Addr×Obj))(s:Shared)(U:St)(H:Hp)(vs:List V)(us:List Value)(Q:St->Hp->Prop),ai X ae U H s->am vs us->t vs U H Q->
  wpAny (model X.prog X.w) X.A (assignInOrder ((assignEach ts X.env).map (·.2)) us) (λ_ s'=>∃U' H',ai X ae U' H' s'/\Q U' H') X.xe s
abbrev Wi:=V->V->V->Hp->(Hp->Prop)->Prop
def Wj(X:Cx)(t:Wi):Prop:=
 ∀(ae:List (Addr×Obj))(s:Shared)(U:St)(H:Hp)(o i v:V)(ov iv u:Value)(Q:Hp->Prop),ai X ae U H s->av o ov->av i iv->av v u->t o i v H Q->
  wpAny (model X.prog X.w) X.A (setItem ov iv u) (λ_ s'=>∃H',ai X ae U H' s'/\Q H') X.xe s
section
variable {X:Cx}{pos:Pos}
def J4(i:Nat):TG:=λv U H Q=>Q (U.set i (!v)) H
def PB(D:X.N.Nodup)(hi:X.N[i]?=!x)(z:Loc X.env.scope x)(j:X.fn x=G\/X.env.scope.names.lookup x=!.local:=by first |show Zl O |show YY O |assumption):PG X (.Name x pos) (J4 i):=by intro ae s U H v u Q I r h;show wpAny_assign_Name (Kz I D hi z r (λs' q=>#[_,H,q,h]) j)
def wt:yU:=λvs U H Q=>vs=[]/\Q U H
def YJ(t:TG)(u:yU):yU:=λvs U H Q=>∃v r,vs=v::r/\t v U H λU' H'=>u r U' H' Q
def gR:TQ X [] wt:=by intro ae s U H j i Q I r h;let(e,h):=h;show assignInOrder_nil #[U,H,I,h]
def bM(h1:PG X e t)(h2:TQ X es u)
 (hs:(assignEach (e::es) X.env).map (·.2)=assign e X.env::(assignEach es X.env).map (·.2):=by rfl):TQ X (e::es) (YJ t u):=by
 intro ae s U H z D Q I r h;let(v,F,i,h):=h;subst i;cases r with
 |cons r q=>
  rw[hs];show assignInOrder_cons (dg (h1 ae s U H _ _ _ I r h) λ_ j z3=>?_);let(U1,H1,I1,q1):=z3;show h2 ae j U1 H1 _ _ Q I1 q q1
def GB(K:FG)(n:Nat)(t:yU):TG:=λv U H Q=>∃a xs,v=.ref a/\cW K H a xs/\-xs=n/\t xs U H Q
def GG{k:Nat}(hc:X.calm=true)(h:TQ X es t)
 (hn:-(assignEach es X.env)=n:=by rfl) (GH:(assignEach es X.env).findIdx? (·.1)=none:=by rfl):PG X (.Tuple es k pos) (GB X.K n t):=by
 intro ae s U H v u Q I r hw;let(a,xs,e1,hq,hl,hw):=hw;subst e1;cases r;let(bp,rv,ht,hz):=I.tuple hq;show assign_Tuple_tuple (I.ok.hd hc) ht (by simp[hn,<-hl,rv.length]) GH λh' hx=>?_;let I1:=I.kept (t':=s.toks) λb o e=>hx b o (de (bP e)) e;show h ae _ U H xs _ Q I1 () hw
def Wk(to ti:TE)(t:Wi):TG:=λv U H Q=>to U H λo H1=>ti U H1 λi H2=>t o i v H2 λH3=>Q U H3
def Eo(N:PE X o to)(hi:PE X i ti)(hs:Wj X t)
 (z:∀v,assign (.Subscript o i pos) X.env v=(do
   let j <-holding [v] (eval o X.env)
   let q <-holding [v,j] (eval i X.env)
   standAt pos
   holding [v,j,q] (setItem j q v)
   release [v,j,q] []):=by intro _;rfl):PG X (.Subscript o i pos) (Wk to ti t):=by
 intro ae s U H v u Q I r h
 rw[z]
 show al (wpAny_holding (dg (N ae s U H _ I h) λj F z4=>?_));let(x,H1,I1,r1,q1):=z4
 show al (wpAny_holding (dg (hi ae F U H1 _ I1 q1) λq D z5=>?_));let(y,H2,I2,r2,q2):=z5
 show al (wpAny_standAt (al (wpAny_holding (dg (hs ae D U H2 x y v j q u _ I2 r1 r2 r q2) λ_ W z6=>?_))));let(H3,I3,q3):=z6
 show wpAny_release #[U,H3,I3,q3]
def Rz(te:TE)(g:TG):TS:=λD U H=>te U H λx H1=>g x U H1 D.nx
def KH(he:PE X e te)(j:PG X tg g)(hs:swapsWithSole [tg] e pos.line X.env=pure M:=by rfl)(z:swappedStores [tg] e X.env=pure J:=by rfl)
 (h1:(assignEach [tg] X.env).map (·.2)=[assign tg X.env]:=by rfl):PS X (.Assign [tg] e pos) (Rz te g):=by
 intro ae s U H D I h;show wpAny_Assign_stores (dg (he ae s U H _ I h) λv i GI=>?_) hs z;let(x,H1,I1,r1,q1):=GI;rw[h1];show dg (j ae i U H1 x v _ I1 r1 q1) λ_ F q=>q
def GN(z:X.N.Nodup)(hi:X.N[i]?=!x)(F:Loc X.env.scope x)(he:PE X e te)(hs:swapsWith e (!(.Name x pos')) pos.line X.env=pure M:=by rfl)(j:X.fn x=G\/X.env.scope.names.lookup x=!.local:=by first |show Zl O |show YY O |assumption):
 PS X (.Assign [.Name x pos'] e pos) (Rz te (J4 i)):=by
 intro ae s U H D I h;show wpAny_Assign_Name (dg (he ae s U H _ I h) λv Q pj=>?_) hs;let(y,H1,I1,r1,q1):=pj;show Kz I1 z hi F r1 (λW q=>#[_,H1,q,q1]) j
end
structure It where
 go:Nat->Hp->Prop
 yld:Nat->Hp->V->Hp->Prop
 stop:Nat->Hp->Prop
def nJ(X:Cx)(ae:List (Addr×Obj))(H:Hp)(b:Addr):Prop:=
 H b=J/\b≠X.env.locals/\b∉X.fs/\(b∈X.ex\/X.s₀.heap.objs.size<=b)/\(∀x c,X.env.cells.lookup x=!c->c≠b)/\∀p∈X.pn++ae,p.1≠b
def ai.fpOk{U:St}{b:Addr}(I:ai X ae U H s)(i: ~~~s.heap.objs<=b)(j:H' b=J):nJ X ae H' b:=by
 show#[j,g_ (eJ I.lt i),I.nofs i,YY (d4 I.sz i),λx c e z=>?_,λp D z=>?_]
 . let(v,q):=I.cell x c e;show absurd (eJ q.lt ∅) (kC _)
 . show absurd (eJ (bP (I.pin p D).1) ∅) (kC _)
structure fz(P:Program)(w:World)(K:FG)(tg:Expr)(ZU:It)(fp:List Addr)(it:Addr)(tn:Nat->Heap->Prop):Prop where
 mem:it∈fp
 obj:∀i h,tn i h->∀b∈fp,∃o,h.get? b=!o/\∀v,o.data≠.cell v
 keep:∀i h h',tn i h->(∀b∈fp,∀o,h.get? b=!o->h'.get? b=!o)->tn i h'
 item:∀(X:Cx),X.prog=P->X.w=w->X.K=K->X.calm=true->∀(i:Nat)(ae:List (Addr×Obj))(s:Shared)(U:St)(H:Hp)(E:Value->Shared->Prop),ai X ae U H s->(∀b∈fp,nJ X ae H b)->tn i s.heap->ZU.go i H->
  wpAny (model P w) X.A (pyNext (.ref it)) (λr s1=>∃u,r=!u/\
   wpAny (model P w) X.A (letOwnedTupleGo tg (.ref it) u) (λ_ s2=>∃x H',ai X ae U H' s2/\av x u/\ZU.yld i H x H'/\tn (i+1) s2.heap/\∀b∈fp,H' b=none) E s1) E s
 done:∀(X:Cx),X.prog=P->X.w=w->X.K=K->X.calm=true->∀(i:Nat)(ae:List (Addr×Obj))(s:Shared)(U:St)(H:Hp)(E:Value->Shared->Prop),ai X ae U H s->(∀b∈fp,nJ X ae H b)->tn i s.heap->ZU.stop i H->
  wpAny (model P w) X.A (pyNext (.ref it)) (λr s1=>r=none/\ai X ae U H s1) E s
 self:∀(A:Around)(i:Nat)(s:Shared)(Q:Value->Shared->Prop)(E:Value->Shared->Prop),tn i s.heap->Q (.ref it) s->wpAny (model P w) A (pyIter (.ref it)) Q E s
abbrev TI:=St->Hp->(It->Hp->Prop)->Prop
def nK(X:Cx)(ae:List (Addr×Obj))(U:St)(tg:Expr)(ZN:It->Hp->Prop)(nL:Value)(s2:Shared):Prop:=
 ∃(it:Addr)(fp:List Addr)(tn:Nat->Heap->Prop)(ZU:It)(H':Hp),nL=YV it/\ai X ae U H' s2/\fz X.prog X.w X.K tg ZU fp it tn/\tn 0 s2.heap/\(∀b∈fp,nJ X ae H' b)/\ZN ZU H'
def PI(X:Cx)(tg iter:Expr)(wi:TI):Prop:=
 ∀(ae:List (Addr×Obj))(s:Shared)(U:St)(H:Hp)(ZN:It->Hp->Prop),ai X ae U H s->wi U H ZN->
  wpAny (model X.prog X.w) X.A (eval iter X.env) (λv s1=>wpAny (model X.prog X.w) X.A (pyIter v) (nK X ae U tg ZN) X.xe s1) X.xe s
def RB(q:s.heap.get? it=!o)(j:o.cls=.type n)(z:o.data=.fields vs)
 (D:["enumerate","zip","dict_itemiterator","dict_reverseitemiterator","odict_iterator","itertools.zip_longest","itertools.pairwise"].contains n=M) (i:Q ⟨⟩ s):wpAny ZO A (letOwnedTupleGo tg (YV it) u) Q E s:=by
 cases tg<;>first
  |show aI i
  | (cases u<;>first
      |show aI i
      | (show al (wpAny_load q ?_)
         rw[j,z];show wpAny ZO A (if (["enumerate","zip","dict_itemiterator","dict_reverseitemiterator","odict_iterator","itertools.zip_longest","itertools.pairwise"].contains n&&vs[0]?==!(rawInt _))=G then _ else _) Q E s;rw[ay ∅];show aI i))
def YK(K:FG)(a:Addr):It:=
 #[λi H=>∃xs x,bY K H a xs/\xs[i]?=!x,λi H x H'=>H'=H/\∀xs,bY K H a xs->xs[i]?=!x,λi H=>∃xs,bY K H a xs/\-xs<=i]
def YL(K:FG)(a:Addr):It:=
 #[λi H=>∃xs x,cW K H a xs/\xs[i]?=!x,λi H x H'=>H'=H/\∀xs,cW K H a xs->xs[i]?=!x,λi H=>∃xs,cW K H a xs/\-xs<=i]
def YM(lo:Int)(n:Nat):It:=#[λi _=>i<n,λi H x H'=>H'=H/\x=.int (lo+i),λi _=>n<=i]
def TV{K:FG}(a q:Addr):fz P w K tg (YK K a) [q] q (λi h=>h.IsListIter q a i) where
 mem:=by simp
 obj:=λi h st b j=>by
  have e:b=q:=by simpa using j
  subst e;let(o,e,c,d):=st;grind
 keep:=λi h h' st k=>st.at λo e=>k q (by simp) o e
 item:=by intro X hP hw hK hc i ae s U H E I F st hg;subst hP hw hK;let(xs,x,N,hx):=hg;let(bp,rv,p,hz):=I.list N;let(u,hu,ru):=rv.get hx;let(Q,f1,f2,f3,f4,W):=F q (by simp);show wpAny_pyNext_list_item st p.isList (by simpa using hu) λh' D sb=>?_;let I1:=I.turned (t':=s.toks) (λb o j e=>(sb.2 b j).trans e) Q f1 f3 f4 W;let(o,e,c,d):=id D;show#[u,O,RB e c d () #[x,H,I1,ru,#[O,λys hy=>by rw[I.list_inj hy N];show hx],D,λb j=>(F b j).1]]
 done:=by intro X hP hw hK hc i ae s U H E I F st hg;subst hP hw hK;let(xs,N,hx):=hg;let(bp,rv,p,hz):=I.list N;let(Q,f1,f2,f3,f4,W):=F q (by simp);let hl:=-rv;show wpAny_pyNext_list_end (I.ok.hd hc) st p.isList ∅ λh' eb=>#[O,I.turned (λb o j e=>eb b o j e) Q f1 f3 f4 W]
 self:=λ_ _ _ _ _ st h=>wpAny_pyIter_listiter st h
def RC{K:FG}(a q:Addr):fz P w K tg (YL K a) [q] q (λi h=>h.IsTupleIter q a i) where
 mem:=by simp
 obj:=λi h st b j=>by
  have e:b=q:=by simpa using j
  subst e;let(o,e,c,d):=st;grind
 keep:=λi h h' st k=>st.at λo e=>k q (by simp) o e
 item:=by intro X hP hw hK hc i ae s U H E I F st hg;subst hP hw hK;let(xs,x,N,hx):=hg;let(bp,rv,p,hz):=I.tuple N;let(u,hu,ru):=rv.get hx;let(Q,f1,f2,f3,f4,W):=F q (by simp);show wpAny_pyNext_tuple_item st (p) (by simpa using hu) λh' D sb=>?_;let I1:=I.turned (t':=s.toks) (λb o j e=>(sb.2 b j).trans e) Q f1 f3 f4 W;let(o,e,c,d):=id D;show#[u,O,RB e c d () #[x,H,I1,ru,#[O,λys hy=>by rw[I.tuple_inj hy N];show hx],D,λb j=>(F b j).1]]
 done:=by intro X hP hw hK hc i ae s U H E I F st hg;subst hP hw hK;let(xs,N,hx):=hg;let(bp,rv,p,hz):=I.tuple N;let(Q,f1,f2,f3,f4,W):=F q (by simp);let hl:=-rv;show wpAny_pyNext_tuple_end (I.ok.hd hc) st (p) ∅ λh' eb=>#[O,I.turned (λb o j e=>eb b o j e) Q f1 f3 f4 W]
 self:=λ_ _ _ _ _ st h=>wpAny_pyIter_tupleiter st h
def RD{K:FG}(j:Addr)(lo:Int)(n:Nat):fz P w K tg (YM lo n) [j] j (λi h=>IsRangeIter h j (lo+(i:Nat)*1) ((n:Int)-(i:Nat)) 1) where
 mem:=by simp
 obj:=λi h st b q=>by
  have e:b=j:=by simpa using q
  grind
 keep:=λi h h' st k=>k j (by simp) _ st
 item:=by intro X hP hw hK hc i ae s U H E I F st hg;subst hP hw hK;let(N,f1,f2,f3,f4,Q):=F j (by simp);let W:=Walks.range (prog:=X.prog) (w:=X.w) (I.ok.hd hc) j lo 1 n;show W.item i s _ _ hg st λv h' tk hv D kk=>?_;let(t,rfl):=hv;show#[_,O,RB (n:="range_iterator") D O O () #[.int (lo+i),H,(I.turned (λb o q e=>kk b o ∅ e) N f1 f3 f4 Q),#[t,?_],#[O,O],D,λb q=>(F b q).1]];rw[Int.mul_one]
 done:=by intro X hP hw hK hc i ae s U H E I F st hg;let(N,f1,f2,f3,f4,Q):=F j (by simp);show wpAny_pyNext_range_end (I.ok.hd hc) st (by have:n<=i:=hg;lia) λh' eb=>#[O,I.turned (λb o q e=>eb b o q e) N f1 f3 f4 Q]
 self:=λ_ _ _ _ _ st h=>wpAny_pyIter_rangeiter st h
section
variable {X:Cx}{tg:Expr}
def Wl{U:St}{lo hi:Int}(I:ai X ae U H s)(h1:(Neg.neg (2 ^ 62))<=lo)(h2:lo<2 ^ 62)(h3:(Neg.neg (2 ^ 62))<=hi)(h4:hi<2 ^ 62)
 (q:ZN (YM lo (hi-lo).toNat) H):wpAny (model X.prog X.w) X.A (pyIter (YV s.heap.objs.size)) (nK X ae U tg ZN) E { s with heap:=s.heap.push { cls:=.type "range",data:=.fields (List.toArray [.int lo t,.int hi u,.int 1 v]) },toks:=W }:=by
 show wpAny_pyIter_range (IsRange.new ..) (small_one h1 h2 h3 h4) ?_;have D:ai X ae U H { s with heap:=s.heap.push { cls:=.type "range",data:=.fields (List.toArray [.int lo t,.int hi u,.int 1 v]) },toks:=W }:=I.kept λb o e=>cE _ e;show#[(s.heap.push { cls:=.type "range",data:=.fields (List.toArray [.int lo t,.int hi u,.int 1 v]) }).objs.size,[(s.heap.push { cls:=.type "range",data:=.fields (List.toArray [.int lo t,.int hi u,.int 1 v]) }).objs.size],_,_,H,O,
  D.kept λb o e=>cE _ e,RD _ lo (hi-lo).toNat,?_,λb Q=>?_,q]
 . have F:lo+((0:Nat):Int)*1=lo:=by simp
   have N:(((hi-lo).toNat:Nat):Int)-((0:Nat):Int)=Builtin.Range.rangeSize lo hi 1:=by rw[rangeSize_one];split<;>lia
   rw[F,N];show dE _ O
 . have e:b=(s.heap.push { cls:=.type "range",data:=.fields (List.toArray [.int lo t,.int hi u,.int 1 v]) }).objs.size:=by simpa using Q
   subst e;show D.fpOk (br _) (D.hok.fresh (br _))
def GO(ta:TA):TI:=λU H ZN=>ta U H λvs H1=>∃j:Int,vs=[.int j]/\(Neg.neg (2 ^ 62))<=j/\j<2 ^ 62/\ZN (YM 0 j.toNat) H1
def TX(D:Gl X "range")(N:X.mg "range"=J)(z:PA X [a] ta)(hs:starEach [a] X.env=[(M,eval a X.env)]:=by rfl):PI X tg (.Call (.Name "range" p) [a] [] pos) (GO ta):=by
 intro ae s U H ZN I h;show Call_ (zE I D N boot_range (PyProof.Rows.callWith_type1 (dg (z pos ae s U H _ I h) λus W px=>?_) hs O));let(vs,H1,I1,r1,i):=px;let(j,e,i,F,q):=i;subst e;cases r1 with
 |cons r Q=>
  cases Q;let(t,rfl):=r;show call_range_1 (Wl I1 () () i F ∅)
def GU(wi:TI)(g:TG)(tb:TS):TS:=λD U H=>wi U H λZU H1=>∃W:Nat->Nat->St->Hp->Prop,(∃m,W 0 m U H1)/\∀i m U H,W i m U H->
 (ZU.stop i H/\D.nx U H)\/(ZU.go i H/\∃N:St->Hp->Prop,(∀U' H',N U' H'->∃m',m'<m/\W (i+1) m' U' H')/\∀x H',ZU.yld i H x H'->g x U H' λU2 H2=>tb { D with nx:=N,ct:=N,bk:=D.nx } U2 H2)
def zF(fp:List Addr)(h:Heap):List (Addr×Obj):=fp.filterMap λb=>(h.get? b).map λo=>(b,o)
def xU(i:b∈fp)(e:h.get? b=!o):(b,o)∈zF fp h:=hY.mpr #[b,i,by rw[e];rfl]
def TY(i:p∈zF fp h):p.1∈fp/\h.get? p.1=!p.2:=by
 let(b,j,e):=hY.mp i;cases q:h.get? b with
 |none=>grind
 |some o=>
  grind
def ai.pinned{U:St}(I:ai X ae U H s)(i:∀b∈fp,nJ X ae H b)(D:∀b∈fp,∃o,s.heap.get? b=!o/\∀v,o.data≠.cell v):ai X (ae++zF fp s.heap) U H s:=
 I.pins_of λp j=>(cr.mp j).elim (λz=>I.pin p (eT _ z)) λz=>by let(q,e):=TY z;let(F,N,Q,_):=i p.1 q;grind
def ai.unpinned{U:St}(I:ai X (ae++pl) U H s):ai X ae U H s:=I.pins_of λp i=>I.pin p ∅
def GV(hp:PassesOwn (model X.prog X.w) X.A X.env X.xe)(hc:X.calm=G)(hi:PI X tg iter wi)(hg:PG X tg g)(F:jP X body tb)
 (hs:∀x,foldedSetIterable iter X.env x=pure x:=by intro _;rfl):PS X (.For tg iter body [] pos) (GU wi g tb):=by
 intro ae s U H D I h;show wpAny_For (dg (hi ae s U H _ I h) λv s1 h1=>dg h1 λnL s2 h2=>?_) hs;let(it,fp,tn,ZU,H2,e,I2,T,hJ,f2,W,(m0,w0),turn):=h2;subst e;have Q:∀{H':Hp},(∀b∈fp,H' b=J)->∀b∈fp,nJ X ae H' b:=λhn b F=>#[hn b F,(f2 b F).2];show codeAny_forLoop_any (λn s'=>∃i U' H',ai X ae U' H' s'/\tn i s'.heap/\(∀b∈fp,H' b=J)/\W i n U' H') ?_ m0 #[0,U,H2,I2,hJ,λb F=>(f2 b F).1,w0];intro n s3 q0;let(i,Vw,H3,I3,j2,wv,w3):=q0;obtain⟨stop,qn⟩|⟨go,N,hN,step⟩:=turn i n Vw H3 w3
 . show wpAny_passesOwn hp (dg (T.done X O O O hc i ae s3 Vw H3 X.xe I3 (Q wv) j2 stop) λr s4 z7=>?_);let(hr,I4):=z7;subst hr;show wpAny_execs_nil #[Vw,H3,I4,qn]
 . show wpAny_passesOwn hp (dg (T.item X O O O hc i ae s3 Vw H3 X.xe I3 (Q wv) j2 go) λr s4 z8=>?_);let(u,hr,h4):=z8;subst hr;show wpAny_passesOwn hp (dg h4 λ_ s5 z9=>?_);let(x,H5,I5,r5,y5,j3,py):=z9;let GW:=I5.pinned (Q py) (T.obj _ _ j3);show wpAny_passesOwn hp (dg (hg _ s5 Vw H5 x u _ GW r5 (step x H5 y5)) λ_ s6 GY=>?_);let(Vz,H6,I6,q6):=GY;show wpAny_passesOwn hp (dg (F _ s6 Vz H6 _ I6 q6) λf s7 q7=>?_);have q:∀{z:St}{H7:Hp},ai X (ae++zF fp s5.heap) z H7 s7->N z H7->∃m,m<n/\∃i U' H',ai X ae U' H' s7/\tn i s7.heap/\(∀b∈fp,H' b=J)/\W i m U' H':=λ{z H7} j n7=>by let(m',hm,w7):=hN z H7 n7;show#[m',hm,i+1,z,H7,j.unpinned,T.keep _ _ _ j3 λb F o e=>(j.pin (b,o) (eT _ (eT _ (xU F e)))).1,λb F=>?_,w7];let(o,e,d):=T.obj _ _ j3 b F;show(j.pin (b,o) (eT _ (eT _ (xU F e)))).2.1
   cases f with
   |next=>let(z,H7,j,n7):=q7;show q j n7
   |cont=>let(z,H7,j,n7):=q7;show q j n7
   |brk=>let(z,H7,j,q7):=q7;show#[z,H7,j.unpinned,q7]
   |ret v=>let(x7,z,H7,j,r7,q7):=q7;show#[x7,z,H7,j.unpinned,r7,q7]
end
abbrev R2:=V->V->Hp->VK->Prop
def ju(X:Cx)(f:Value->Value->Sem Value)(r:R2):Prop:=
 ∀(ae:List (Addr×Obj))(s:Shared)(U:St)(H:Hp)(x y:V)(v u:Value)(Q:VK),ai X ae U H s->av x v->av y u->r x y H Q->
  wpAny (model X.prog X.w) X.A (f v u) (EP X ae U Q) X.xe s
def pE(X:Cx)(f:Value->Sem Value)(r:V->Hp->VK->Prop):Prop:=
 ∀(ae:List (Addr×Obj))(s:Shared)(U:St)(H:Hp)(x:V)(v:Value)(Q:VK),ai X ae U H s->av x v->r x H Q->
  wpAny (model X.prog X.w) X.A (f v) (EP X ae U Q) X.xe s
def lO(X:Cx)(f:Value)(r:List V->Hp->VK->Prop):Prop:=
 ∀(ae:List (Addr×Obj))(s:Shared)(U:St)(H:Hp)(xs:List V)(us:List Value)(Q:VK),ai X ae U H s->am xs us->r xs H Q->
  wpAny (model X.prog X.w) X.A (call f us) (EP X ae U Q) X.xe s
def G0(X:Cx)(r:V->Hp->(Bool->Hp->Prop)->Prop):Prop:=
 ∀(ae:List (Addr×Obj))(s:Shared)(U:St)(H:Hp)(x:V)(v:Value)(Q:Bool->Hp->Prop),ai X ae U H s->av x v->r x H Q->
  wpAny (model X.prog X.w) X.A (truthy v) (TP X ae U Q) X.xe s
def T3(r:R2)(ta tb:TE):TE:=λU H Q=>ta U H λx H1=>tb U H1 λy H2=>r x y H2 Q
def G1(r:V->Hp->VK->Prop)(ta:TE):TE:=λU H Q=>ta U H λx H1=>r x H1 Q
def rI(C:Int->Int->Prop)(g:Int->Int->V):R2:=λx y H Q=>∃i j,x=.int i/\y=.int j/\C i j/\Q (g i j) H
def zG(g:Int->Int->V):R2:=λx y H Q=>∃i j,x=.int i/\y=.int j/\Q (g i j) H
def rU(g:Int->V):V->Hp->VK->Prop:=λx H Q=>∃i,x=.int i/\Q (g i) H
section
variable {X:Cx}{a b c:Expr}{ta tb tc:TE}{pos:Pos}
def Wm(j:PE X a ta)(D:PE X b tb){U:St}{ZN:V->V->Hp->Prop}(I:ai X ae U H s)
 (h:ta U H λx H1=>tb U H1 λy H2=>ZN x y H2) {f:Value->Value->Sem Value}
 (N:∀v u i x y H2,ai X ae U H2 i->av x v->av y u->ZN x y H2->wpAny (model X.prog X.w) X.A (f v u) Q X.xe i):
 wpAny (model X.prog X.w) X.A (eval a X.env) (λv q=>wpAny (model X.prog X.w) X.A (eval b X.env) (λu F=>wpAny (model X.prog X.w) X.A (f v u) Q X.xe F) X.xe q) X.xe s:=by
 show dg (j ae s U H _ I h) λv z pS=>?_;let(x,H1,I1,r1,q1):=pS;show dg (D ae z U H1 _ I1 q1) λu i pT=>?_;let(y,H2,I2,r2,q2):=pT;grind
def G2(N:ju X (binaryOp op) r)(i:PE X a ta)(W:PE X b tb):PE X (.BinOp a op b pos) (T3 r ta tb):=by intro ae s U H Q I h;show wpAny_BinOp (Wm i W I h λv u D x y H2 j F z q=>N ae D U H2 x y v u Q j F z q)
def G_(q:pE X (unaryOp op) r)(i:PE X a ta):PE X (.UnaryOp op a pos) (G1 r ta):=by intro ae s U H Q I h;show UnaryOp_ (dg (i ae s U H _ I h) λv j He=>by let(x,H1,I1,r1,q1):=He;show q ae j U H1 x v Q I1 r1 q1)
def YQ{g:Int->Int->Int}
 (rule:∀(i j:Int)(t u:Tok)(s:Shared)(Q:Value->Shared->Prop)(E:Value->Shared->Prop),C i j->Q (.int (g i j) s.toks) { s with toks:=s.toks+1 }->wpAny (model X.prog X.w) X.A (f (.int i t) (.int j u)) Q E s):
 ju X f (rI C λi j=>.int (g i j)):=by
 intro ae s U H x y v u Q I W N h;let(i,j,rfl,rfl,hc,q):=h;let(t,rfl):=W;let(t',rfl):=N;show rule i j t t' s _ _ hc #[.int (g i j),H,I.tok _,#[_,O],q]
def wx{g:Int->Int->Int}
 (rule:∀(i j:Int)(t u:Tok)(s:Shared)(Q:Value->Shared->Prop)(E:Value->Shared->Prop),Q (.int (g i j) s.toks) { s with toks:=s.toks+1 }->wpAny (model X.prog X.w) X.A (f (.int i t) (.int j u)) Q E s):
 ju X f (zG λi j=>.int (g i j)):=by
 intro ae s U H x y v u Q I W N h;let(i,j,rfl,rfl,q):=h;let(t,rfl):=W;let(t',rfl):=N;show rule i j t t' s _ _ #[.int (g i j),H,I.tok _,#[_,O],q]
def wE{g:Int->Int->Bool}
 (rule:∀(i j:Int)(t u:Tok)(s:Shared)(Q:Value->Shared->Prop)(E:Value->Shared->Prop),Q (.bool (g i j)) s->wpAny (model X.prog X.w) X.A (f (.int i t) (.int j u)) Q E s):
 ju X f (zG λi j=>.bl (g i j)):=by
 intro ae s U H x y v u Q I D z h;let(i,j,rfl,rfl,q):=h;let(t,rfl):=D;let(F,rfl):=z;show rule i j t F s _ _ #[.bl (g i j),H,I,O,q]
def wP(i j:Int):Prop:=0<j/\j<1073741824
def wT(i j:Int):Prop:=0<=j/\j<=1000000/\i.natAbs<2 ^ 64
def RG(i j:Int):Prop:=((Neg.neg (2 ^ 64))<i/\i<2 ^ 64)\/((Neg.neg (2 ^ 64))<j/\j<2 ^ 64)
def RG.ok(h:RG i j):IntMulOk i j:=by
 obtain⟨h1,h2⟩|⟨h1,h2⟩:=h
 . show .of_left (intBits_le_64 h1 h2)
 . show .of_right (intBits_le_64 h1 h2)
def HA:ju X (binaryOp .Add) (zG λi j=>.int (i+j)):=wx λ_ _ _ _ _ _ _ q=>add_int q
def T4:ju X (binaryOp .Sub) (zG λi j=>.int (i-j)):=wx λ_ _ _ _ _ _ _ q=>sub_int q
def nP:ju X (binaryOp .Mult) (rI RG λi j=>.int (i*j)):=YQ λ_ _ _ _ _ _ _ z q=>mul_int q z.ok
def dM:ju X (binaryOp .FloorDiv) (rI wP λi j=>.int (i/j)):=YQ λi j _ _ _ _ _ z q=>by let h1:=z.1;let h2:=z.2;show floordiv_int () ∅ (Zl (PyProof.noPylong_small ()))
def cg:ju X (binaryOp .Mod) (rI (λ_ j=>0<j) λi j=>.int (i%j)):=YQ λi j _ _ _ _ _ z q=>by let h1:=z;show mod_int' () ∅
def HC:ju X (binaryOp .Pow) (rI wT λi j=>.int (i ^ j.toNat)):=YQ λ_ _ _ _ _ _ _ z q=>pow_int_small z.1 z.2.1 z.2.2 q
def HG{g:Int->Int}
 (rule:∀(i:Int)(t:Tok)(s:Shared)(Q:Value->Shared->Prop)(E:Value->Shared->Prop),Q (.int (g i) s.toks) { s with toks:=s.toks+1 }->wpAny (model X.prog X.w) X.A (f (.int i t)) Q E s):
 pE X f (rU λi=>.int (g i)):=by
 intro ae s U H x v Q I F h;let(i,rfl,q):=h;let(t,rfl):=F;show rule i t s _ _ #[.int (g i),H,I.tok _,#[_,O],q]
def HI:pE X (unaryOp .USub) (rU λi=>.int ((Neg.neg i))):=HG λ_ _ _ _ _ q=>neg_int q
end
noncomputable def scal:V->V->Bool
 |.non,.non=>G |.non,.int _=>G |.int _,.non=>G |.non,.bl _=>G |.bl _,.non=>G |.non,.str _=>G |.str _,.non=>G
 |.int _,.int _=>G |.bl _,.bl _=>G |.str _,.str _=>G |.byt _,.byt _=>G
 |.int _,.str _=>G |.str _,.int _=>G |.bl _,.str _=>G |.str _,.bl _=>G
 |_,_=>M
section
variable {X:Cx}{a b c:Expr}{ta tb tc:TE}{pos:Pos}
def T5{U:St}(I:ai X ae U H s)(q:Q (.bl k) H)(e:k=k'):EP X ae U Q (.bool k') s:=by subst e;show#[.bl k,H,I,O,q]
def YS:ju X (compareOp .Lt) (zG λi j=>.bl (decide (i<j))):=wE λ_ _ _ _ _ _ _ q=>lt_int q
def pL:ju X (compareOp .Gt) (zG λi j=>.bl (decide (j<i))):=wE λ_ _ _ _ _ _ _ q=>gt_int q
def T6:ju X (compareOp .In) (λx y H Q=>∃i j,x=.str i/\y=.str j/\Q (.bl (not (Builtin.Str.occurrences j i 0 (-j) 1).isEmpty)) H):=by intro ae s U H x y v u Q I D z h;let(i,j,rfl,rfl,q):=h;let(t,rfl):=D;let(F,rfl):=z;show in_str (T5 I q O)
def T7:ju X (compareOp .Is) (λx y H Q=>y=.non/\Q (.bl (decide (x=.non))) H):=by
 intro ae s U H x y v u Q I i j h;let(rfl,q):=h;cases j;show is_none_gen (T5 I q ?_);cases x<;>first
  |(cases i;rfl)
  |(let(t,rfl):=i;rfl)
def ju.or(h:ju X f r)(h':ju X f r'):ju X f (λx y H Q=>r x y H Q\/r' x y H Q):=by
 intro ae s U H x y v u Q I j i q;obtain q|q:=q
 . show h ae s U H x y v u Q I j i q
 . show h' ae s U H x y v u Q I j i q
def bA(b:Expr)(h:op≠.In:=by decide)(h2:op≠.NotIn:=by decide):behindInMarks op b=M:=by
 have j:(op==CmpOp.In)=M:=by cases op<;>first |rfl |show absurd O h
 have i:(op==CmpOp.NotIn)=M:=by cases op<;>first |rfl |show absurd O h2
 cases b<;>simp[behindInMarks,j,i]
def ZL(N:ju X (compareOp op) r)(i:PE X a ta)(W:PE X b tb)(hm:behindInMarks op b=M):PE X (.Compare a [op] [b] pos) (T3 r ta tb):=by intro ae s U H Q I h;show wpAny_Compare1 (Wm i W I h λv u D x y H2 j F z q=>N ae D U H2 x y v u Q j F z q) hm
def YT(t:TE):TT:=λU H Q=>t U H λx H'=>∃k,x=.bl k/\Q k H'
def ZM(q:ju X (compareOp op) r)(i:PE X a ta)(D:PE X b tb)(N:behindInMarks op b=M):PT X (.Compare a [op] [b] pos) (YT (T3 r ta tb)):=by
 intro ae s U H Q I h;show wpAny_isTrue_Compare1 (dg (i ae s U H _ I h) λv j ⟨x,H1,I1,r1,q1⟩=>dg (D ae j U H1 _ I1 q1) λu F ⟨y,H2,I2,r2,q2⟩=>
  dg (q ae F U H2 x y v u _ I2 r1 r2 q2) λc W ⟨z,H3,I3,r3,k,e,q3⟩=>?_) N
 subst e;cases r3;show wpAny_truthy_bool #[H3,I3,q3]
def Wn(K:FG)(x:V)(H:Hp)(k:Bool):Prop:=
 match x with
 |.non=>k=M
 |.bl b=>k=b
 |.int i=>k=(i != 0)
 |.str y=>-y<=sizeLine/\k=((-y:Int) != 0)
 |.byt y=> ~~~y<=sizeLine/\k=((~~~y:Int) != 0)
 |.ref p=>(∃xs,bY K H p xs/\k=not xs.isEmpty)\/(∃xs,cW K H p xs/\k=not xs.isEmpty)\/∃aS,H p=!(.dK aS)/\k=not aS.isEmpty
 |_=>False
def RJ(r:KV aS vs):(not vs.isEmpty)=not aS.isEmpty:=by cases r<;>rfl
def Ep(r:am xs bp):(not bp.toArray.isEmpty)=not xs.isEmpty:=by cases r<;>simp
def wy:(sizeLine:Nat)<2 ^ 63:=by  decide
def HM:G0 X (λx H Q=>∃k,Wn X.K x H k/\Q k H):=by
 intro ae s U H x v Q I D h;let(k,e,q):=h;let hs:=sizeLine_eq;cases x with
 |non=>
  cases D;let j:=e;subst j;show truthy_none #[H,I,q]
 |bl b=>
  cases D;let j:=e;subst j;show wpAny_truthy_bool #[H,I,q]
 |int i=>
  let(t,rfl):=D;let j:=e;subst j;show PySem.P.truthy_int #[H,I,q]
 |str y=>
  let(t,rfl):=D;obtain⟨hy,j⟩:-y<=sizeLine/\k=((-y:Int) != 0):=e;subst j;show PySem.P.truthy_str () #[H,I.tok _,q]
 |byt y=>
  let(t,rfl):=D;obtain⟨hy,j⟩: ~~~y<=sizeLine/\k=((~~~y:Int) != 0):=e;subst j;show W.truthy_bytes () #[H,I.tok _,q]
 |ref p=>
  cases D;let j:=e;obtain⟨xs,N,j⟩|⟨xs,N,j⟩|⟨F,N,j⟩:=j
  . subst j;let(bp,r,pl,hz):=I.list N;let z:=-r;show wpAny_truthy_list pl.isList ∅ #[H,I.tok _,by rw[Ep r];show q]
  . subst j;let(bp,r,pl,hz):=I.tuple N;let z:=-r;show truthy_tuple pl ∅ #[H,I.tok _,by rw[Ep r];show q]
  . subst j;obtain⟨hz,hS,vs,r,m⟩:-F<=sizeLine/\(p==sysModules)=M/\∃vs,KV F vs/\s.heap.DictOf (fW X.prog X.w) p vs:=I.hok p _ N;let z:=Paired.length r;show wpAny_truthy_dict hS m () #[H,I.tok _,by rw[RJ r];show q]
 |_=>show(e).elim
def Wo(j:PE X a ta)(he:∀i,isTrue a X.env i=(do let v <-i;standAt a.pos;holding [v] (truthy v))):
 PT X a (λU H Q=>ta U H λx H'=>∃k,Wn X.K x H' k/\Q k H'):=by
 intro ae s U H Q I h;show isTrue_plain (dg (j ae s U H _ I h) λv q pj=>by let(x,H1,I1,r1,q1):=pj;show HM ae q U H1 x v Q I1 r1 q1) (he _)
def RK:ju X (binaryOp .Add) (λx y H Q=>∃i j,x=.str i/\y=.str j/\-i+-j<=sizeLine/\Q (.str (i++j)) H):=by intro ae s U H x y v u Q I F z h;let(i,j,rfl,rfl,D,q):=h;let(t,rfl):=F;let(N,rfl):=z;show add_str (λN W=>#[.str (i++j),H,I.tok _,#[_,O],q]) D
def dv(r:am [x] us):∃u,us=[u]/\av x u:=by
 cases r with
 |cons j i=>cases i;grind
def uI:lO X (.type "str") (λxs H Q=>∃i,xs=[.int i]/\i.natAbs.log2<1920/\Q (.str (toString i)) H):=by intro ae s U H xs z Q I r h;let(i,rfl,j,q):=h;let(u,rfl,t,rfl):=dv r;show PySem.P.str_of_int j #[.str _,H,I.tok _,#[_,O],q]
def Wq(K:FG)(x:V)(H:Hp)(n:Nat):Prop:=
 match x with
 |.str y=>-y<=sizeLine/\n=-y
 |.byt y=> ~~~y<=sizeLine/\n= ~~~y
 |.ref p=>(∃xs,bY K H p xs/\n=-xs)\/∃xs,cW K H p xs/\n=-xs
 |_=>False
def uJ:lO X (.builtin "len") (λxs H Q=>∃x n,xs=[x]/\Wq X.K x H n/\Q (.int n) H):=by
 intro ae s U H xs us Q I r h;let(x,n,rfl,e,q):=h;let(u,rfl,F):=dv r;let hs:=sizeLine_eq;cases x with
 |str y=>
  let(t,rfl):=F;obtain⟨hy,j⟩:-y<=sizeLine/\ n=-y:=e;subst j;show len_str () #[.int _,H,I.tok _,#[_,O],q]
 |byt y=>
  let(t,rfl):=F;obtain⟨hy,j⟩: ~~~y<=sizeLine/\ n= ~~~y:=e;subst j;show W.len_bytes () #[.int _,H,I.tok _,#[_,O],q]
 |ref p=>
  cases F;let j:=e;obtain⟨xs,z,j⟩|⟨xs,z,j⟩:=j
  . subst j;let(D,N,pl,hz):=I.list z;let i:=-N;show Calls.call_len_list pl.isList ∅ #[.int (-xs),H,I.tok _,#[_,by simp only[eP];rw[i]],q]
  . subst j;let(D,N,pl,hz):=I.tuple z;let i:=-N;show len_tuple pl ∅ #[.int (-xs),H,I.tok _,#[_,by simp only[eP];rw[i]],q]
 |_=>show(e).elim
end
structure Dj(h:Heap)(x dx C:Addr)(mA:Str->Option Value):Prop where
 obj:h.get? x=!(W.instObj C dx)
 ns:h.Ns1 dx mA
 ne:dx≠x
def T8{h:Heap}(n:h.Ns1 dx mA):∃j,h.get? dx=!j/\∀name,W.lookIn name j=!(mA name):=by
 let(o,es,ep,F,D,hk,_,N):=n;show#[o,F,λname=>?_];let e:=N name;unfold nsFind findBy at e;rw[<-Array.find?_toList]at e;unfold W.lookIn;rw[D];dsimp only;split
 . grind
 . rename_i q;have a:es.toList.any (·.refKey)=M:=by rw[List.any_eq_false];intro y hy;let(z,t,i):=hk y ∅;simp[DictEntry.refKey,i]
   have Q:¬ es.toList.any (·.refKey)=G:=by rw[a];show m6
   grind
def Dj.look(I:Dj h x dx C mA):∃i,W.InstAt h x (W.instObj C dx) C (!i)/\∀name,W.lookIn name i=!(mA name):=
 let #[i,ho,hl]:=T8 I.ns
 #[i,#[I.obj,O,O,ho],hl]
section
variable {prog:Program}{w:World}{A:Around}{E:Value->Shared->Prop}{s:Shared}{K:FG}{x dx C f:Addr}{mA:Str->Option Value}{name:Str}{v:Value}
def ZP(X:K.In s.heap)(I:Dj s.heap x dx C mA)(z:W.plainGet K C name=G)(F:W.hasDictIn K C=G)
 (q:W.findIn K (YV C) name=!J) (N:mA name=!v) (i:W.handedIn v=G) (h:Q v { s with toks:=s.toks+1 }):
 wpAny (model prog w) A (getAttr (YV x) name expr) Q E s:=by
 let(od,D,hl):=I.look;show W.get_value X D (W.plainGet_of z).1 (W.findObj_own F q O ∅) i h
def Wr(X:K.In s.heap)(I:Dj s.heap x dx C mA)(i:W.plainGet K C name=G)
 (j:W.findIn K (YV C) name=!(!(YV f))) (N:W.isFn K (YV f)=G) (q:mA name=J) (h:Q (YV f,[YV x]) s):
 wpAny (model prog w) A (getMethod (YV x) name pl) Q E s:=by
 let(F,z,D):=I.look;show W.method_fn X z (W.plainGet_of i).1 (W.plainGet_of i).2 j (beq_iff_eq.mp N) (by show (W.lookIn name F).map (·.isSome)=!M;rw[D,q];rfl) h
def ZQ(X:K.In s.heap)(I:Dj s.heap x dx C mA)
 (hs:W.findIn K (YV C) "__setattr__"=!(!(.builtin "object.__setattr__"))) (hp:W.plainOver K C=G) (ht:W.takerIn K C name=!J) (hh:W.hasDictIn K C=G)
 (hw:PySem.Within mA ns) (fg:-ns<=sizeLine)
 (h:∀h',Dj h' x dx C (λy=>if y=name then !v else mA y)->Heap.SameBut dx s.heap h'->Q ⟨⟩ { s with heap:=h',toks:=s.toks+2 }):
 wpAny (model prog w) A (setAttr (YV x) name v) Q E s:=by
 let(od,ZU,hl):=I.look;show W.set_plain X ZU hs (W.osa_open X ZU hp ht λb=>?_);let(cd,hc,q):=W.any_some hh;let hx:=I.obj;show al (aI (al (al (wpAny_loadPart hx (al (W.Looks.here (W.looks_clsIn X hc) ?_))))));rw[q];show aI (al (aI (al ?_)));show wpAny_nsSet1 I.ns λh' i j=>?_;let(oD,esD,epD,D,z,hcD):=i.count (PySem.Within.cons name v hw);show al (wpAny_lookBehind D (by rw[z];show pastItsLine_dict ∅) ?_);show aI (h _ #[(j.2 _ (Ne.symm I.ne)).trans I.obj,i,I.ne] j)
def Ws(X:K.In s.heap)(z:W.makesIn K C=G)
 (hi:W.findIn K (YV C) "__init__"=!(!(YV f))) (q:W.typeIn K (YV f)=!(.type "function"))
 (h:codeAny (model prog w) (A.under (.builtin "type.__call__" #[YV C::vs,kw])) (.call (YV f) #[YV (~~~s.heap.objs+1)::vs,kw]) (W.InitBack (~~~s.heap.objs+1) ZN)
   { s with heap:=(s.heap.push W.emptyDict).push (W.instObj C s.heap.objs.size) }):
 codeAny (model prog w) A (.call (YV C) #[vs,kw]) ZN s:=by
 show W.make_core (W.makes_of X z) (W.looks_findIn X hi) (λi=>W.bind_fn X i q) (Zl O) h
end
noncomputable def jz (f:Str) (v:V):List (Str×V)->List (Str×V)
 |[]=>[(f,v)]
 |(g,x)::r=>if g=f then (g,v)::r else (g,x)::jz f v r
theorem CJ(f g:Str)(v:V):∀fs:List (Str×V),(jz f v fs).lookup g=if g=f then !v else fs.lookup g
 |[]=>by
  show lookup g [(f,v)]=_;by_cases h:g=f
  . grind
  . grind
 |(k,x)::r=>by
  let i:=CJ f g v r;rw[show jz f v ((k,x)::r)=(if k=f then (k,v)::r else (k,x)::jz f v r) from O];by_cases hk:k=f
  . rw[aw hk];by_cases h:g=k
    . grind
    . grind
  . rw[ay hk];by_cases h:g=k
    . grind
    . grind
theorem zH(f:Str)(v:V):∀fs:List (Str×V),f∈(jz f v fs).map (·.1)/\∀g,g∈fs.map (·.1)->g∈(jz f v fs).map (·.1)
 |[]=>#[by simp[jz],λg h=>by simp at h]
 |(k,x)::r=>by
  let(i,j):=zH f v r;rw[show jz f v ((k,x)::r)=(if k=f then (k,v)::r else (k,x)::jz f v r) from O];by_cases hk:k=f
  . grind
  . rw[ay hk];show#[?_,λg h=>?_]
    . grind
    . obtain e|e:=a_.mp h
      . grind
      . grind
theorem CK(f:Str)(v:V):∀fs:List (Str×V),-(jz f v fs)<=-fs+1
 |[]=>by simp[jz]
 |(k,x)::r=>by
  let i:=CK f v r;rw[show jz f v ((k,x)::r)=(if k=f then (k,v)::r else (k,x)::jz f v r) from O];by_cases hk:k=f
  . grind
  . grind
def nH.some_of(r:nH (!v) o):∃u,o=!u/\av v u:=by
 cases o with
 |none=>show(r).elim
 |some u=>show#[u,O,r]
def nH.none_of(r:nH J o):o=J:=by
 cases o with
 |none=>rfl
 |some u=>show(r).elim
def T9(r:av v u):W.handedIn u=G:=by
 cases v with
 |non=>cases (r);rfl
 |bl b=>cases (r);rfl
 |int i=>let(t,e):=(r);cases e;rfl
 |str x=>let(t,e):=(r);cases e;rfl
 |byt b=>let(t,e):=(r);cases e;rfl
 |flt b=>let(t,e):=(r);cases e;rfl
 |ref a=>cases (r);rfl
 |ty n=>cases (r);rfl
section
variable {P:Program}{w:World}{H H':Hp}{h h':Heap}{a C dx:Addr}{fs eL:List (Str×V)}
def GJ(i:jm P w H h)(e:H a=!(.ins C dx fs)):∃mA,Dj h a dx C mA/\(∀f,nH (fs.lookup f) (mA f))/\PySem.Within mA (fs.map (·.1))/\-fs<=1000/\H dx=!(.own a):=by let(d,z,ne,j,mA,n,r,q):=(i a _ e);show#[mA,#[j,n,ne],r,q,z,d]
end
structure zJ(K:FG)(C:Addr):Prop where
 pg:W.plainGet K C Str.empty=true
 hd:W.hasDictIn K C=true
 po:W.plainOver K C=true
 sa:W.findIn K (.ref C) "__setattr__"=!(!(.builtin "object.__setattr__"))
def zJ.get{K:FG}(c:zJ K C)(f:Str):W.plainGet K C f=G:=c.pg
def kW(K:FG)(C:Addr)(f:Str):Prop:=W.findIn K (YV C) f=!J
def kW.taker{K:FG}(n:kW K C f):W.takerIn K C f=!J:=by unfold W.takerIn;rw[show W.findIn K (YV C) f=some J from n];rfl
structure im(K:FG)(C:Addr)(m:Str)(f:Addr):Prop where
 at_:W.findIn K (.ref C) m=!(!(.ref f))
 fn:W.isFn K (.ref f)=true
 kp:W.keepIn K (.ref f)=true
section
variable {X:Cx}{ae:List (Addr×Obj)}{U:St}{H:Hp}{s:Shared}{a C dx:Addr}{fs:List (Str×V)}{f:Str}{v:V}{A:Around}{E:Value->Shared->Prop}
def RM(I:ai X ae U H s)(e:H a=!(.ins C dx fs))(c:zJ X.K C)(n:kW X.K C f)(l:fs.lookup f=!v)
 (h:∀u s',ai X ae U H s'->av v u->Q u s'):wpAny (model X.prog X.w) A (getAttr (YV a) f b) Q E s:=by
 let(mA,j,r,_):=GJ I.hok e;let(u,q,i):=nH.some_of (by rw[<-l];show r f);show ZP I.kIn j (c.get f) c.hd n q (T9 i) (h u _ (I.tok _) i)
def xV(I:ai X ae U H s)(e:H a=!(.ins C dx fs))(c:zJ X.K C)(k:im X.K C m g)(l:fs.lookup m=J)
 (h:Q (YV g,[YV a]) s):wpAny (model X.prog X.w) A (getMethod (YV a) m pl) Q E s:=by
 let(mA,j,r,_):=GJ I.hok e;let i:=nH.none_of (by rw[<-l];show r m);show Wr I.kIn j (c.get m) k.at_ k.fn i h
def RN(I:ai X ae U H s)(e:H a=!(.ins C dx fs))(c:zJ X.K C)(n:kW X.K C f)(hl:-fs<1000)(W:av y u)
 (h:∀s',ai X ae U (aE H a (.ins C dx (jz f y fs))) s'->Q ⟨⟩ s'):wpAny (model X.prog X.w) A (setAttr (YV a) f u) Q E s:=by
 let(mA,i,r,D,_,F):=GJ I.hok e;have hz:-(fs.map (·.1))<=sizeLine:=by rw[bo,sizeLine_eq];lia
 show ZQ I.kIn i c.sa c.po n.taker c.hd D hz λh' j sb=>h _ ?_;have hd:∃o,h'.get? dx=!o:=let #[o,_,_,e',_]:=j.ns;#[o,e'];show I.write (by rw[e];show True.intro) (YY F) (λb q hb z=>(sb.2 b hb).trans z) hd ?_;show#[by rw[cV i.ne];show F,?_,i.ne,j.obj,_,j.ns,λg=>?_,λg N=>?_]
 . have:=CK f y fs;lia
 . rw[CJ];by_cases q:g=f
   . rw[aw q,aw q];show W
   . grind
 . by_cases q:g=f
   . rw[q];show(zH f y fs).1
   . show(zH f y fs).2 g (D g λz=>N ?_);grind
def ai.made(I:ai X ae U H s):ai X ae U (aE (aE H s.heap.objs.size (.own (~~~s.heap.objs+1))) (~~~s.heap.objs+1) (.ins C s.heap.objs.size []))
 { s with heap:=(s.heap.push W.emptyDict).push (W.instObj C s.heap.objs.size) }:=by
 have e1:(s.heap.push W.emptyDict).get? s.heap.objs.size=!W.emptyDict:=dE s.heap rfl;have e2:((s.heap.push W.emptyDict).push (W.instObj C s.heap.objs.size)).get? (~~~s.heap.objs+1)=!(W.instObj C s.heap.objs.size):=by
  have:=dE (s.heap.push W.emptyDict) (o:=W.instObj C s.heap.objs.size) rfl
  grind
 let I1:=I.laid (o:=.own (~~~s.heap.objs+1)) (t':=s.toks) (λb u q=>cE _ q) () #[_,e1];show I1.laid (λb u q=>cE _ q) () ?_;have ne: ~~~s.heap.objs≠s.heap.objs.size+1:=de ();show#[by rw[cV ne,bZ],d6 _,ne,e2,λ_=>none,(Heap.Ns1.of_empty #[W.emptyDict,#[],_,e1,rfl,(λe he=>absurd he (by simp)),λ_=>rfl]).at λo q=>cE _ q,λ_=>True.intro,λy hy=>absurd rfl hy]
def ZR(j:attributeBase e f env (eval e env)=eval e env)
 (h:wpAny (model prog w) A (eval e env) (λo i=>wpAny (model prog w) A (getAttr o f G) Q E i) E s):wpAny (model prog w) A (eval (.Attribute e f pos) env) Q E s:=
 Attribute_any_ h (by rw[arm_eval_Attribute,j])
end
def HP(K:FG)(ta:TE)(f:Str):TE:=λU H Q=>ta U H λx H1=>∃a C dx fs v,x=.ref a/\H1 a=!(.ins C dx fs)/\zJ K C/\kW K C f/\fs.lookup f=!v/\Q v H1
def HU(K:FG)(ta tv:TE)(f:Str):TS:=λD U H=>tv U H λy H1=>ta U H1 λx H2=>∃a C dx fs,x=.ref a/\H2 a=!(.ins C dx fs)/\zJ K C/\kW K C f/\-fs<1000/\
 D.nx U (aE H2 a (.ins C dx (jz f y fs)))
section
variable {X:Cx}{o e value:Expr}{f:Str}{pos pos' tpos:Pos}{ta tv:TE}
def HV(he:PE X e ta)(j:attributeBase e f X.env (eval e X.env)=eval e X.env):PE X (.Attribute e f pos) (HP X.K ta f):=by intro ae s U H Q I h;show ZR j (dg (he ae s U H _ I h) λu D pV=>?_);let(x,H1,I1,rx,a,C,dx,fs,v,ex,ea,c,n,l,q):=pV;subst ex;obtain rfl:u=Value.ref a:=rx;show RM I1 ea c n l λF N i z=>#[v,H1,i,z,q]
def HZ(i:PE X o ta)(F:PE X value tv)(hs:swapsWith value (!(.Attribute o f pos')) pos.line X.env=pure M):PS X (.Assign [.Attribute o f pos'] value pos) (HU X.K ta tv f):=by intro ae s U H D I h;show plainObj_wpAny_Assign_Attribute (dg (F ae s U H _ I h) λu z p_=>?_) hs;let(y,H1,I1,ry,q):=p_;show dg (i ae z U H1 _ I1 q) λN W qa=>?_;let(x,H2,I2,rx,a,C,dx,fs,ex,ea,c,n,l,q2):=qa;subst ex;obtain rfl:N=Value.ref a:=rx;show RN I2 ea c n l ry λQ j=>#[U,_,j,q2]
def Wt:V->V->Hp->VK->Prop:=λx y H Q=>∃i j,x=.int i/\y=.int j/\Q (.int (i+j)) H
end
structure gn(b:Bool)(k:Nat)(A:Around):Prop where
 hd:b=true->A.handled=none
 dp:A.depth+3*k+5<recursionLimit
 un:A.units+16*k+200<cLine
 gd:A.guards=![]
abbrev qM:=gn G
def gn.mono(r:gn b k A)(h:j<=k):gn b j A:=#[r.hd,by have:=r.dp;lia,by have:=r.un;lia,r.gd]
theorem gn.deeper(r:gn b (k+1) A)(env:Env):gn b k (A.deeper env):=
 #[r.hd,by have:=r.dp;show A.depth+1+3*k+5<_;lia,by have:=r.un;show A.units+3+16*k+200<_;lia,r.gd]
def RP:(A.under (.builtin "type.__call__" #[YV C::us,kw])).depth=A.depth+1:=by
 first |rfl |simp[Code.weight]
def RQ:(A.under (.builtin "type.__call__" #[YV C::us,kw])).units=A.units+1:=by
 first |rfl |simp[Code.cUnits]
def gn.make(r:gn b (k+1) A)(C:Addr)(i:List Value)(j:List (Str×Value)):gn b k (A.under (.builtin "type.__call__" #[YV C::i,j])):=
 #[r.hd,by have:=r.dp;rw[RP];lia,by have:=r.un;rw[RQ];lia,by first |show r.gd |(simpa [Around.under,Code.isGuard,guardIds] using r.gd)]
theorem gn.depth(r:gn b k A):A.depth<recursionLimit:=by have:=r.dp;lia
theorem gn.units(r:gn b k A):A.units+64<cLine:=by have:=r.un;lia
def KJ:TA:=λ_ H Q=>Q [] H
def J5(ta:TE)(tr:TA):TA:=λU H Q=>ta U H λx H1=>tr U H1 λxs H2=>Q (x::xs) H2
section
variable {X:Cx}{e:Expr}{es:List Expr}{te:TE}{t:TA}{pos:Pos}
def zK:PA X [] KJ:=λ_ _ _ _ H Q I h=>Calls.spliced_nil #[[],H,I,.nil,h]
def wz(i:PE X e te)(q:PA X es t)(hs:starEach (e::es) X.env=(M,eval e X.env)::starEach es X.env:=by rfl):PA X (e::es) (J5 te t):=by intro pos ae s U H Q I h;rw[hs];show Calls.spliced_cons (dg (i ae s U H _ I h) λu j px=>?_);let(x,H1,I1,r1,q1):=px;show dg (q pos ae j U H1 _ I1 q1) λD z H_=>by let(xs,H2,I2,r2,q2):=H_;show #[x::xs,H2,I2,.cons r1 r2,q2]
def Ic(t:TA):TE:=λU H Q=>t U H λxs H1=>-xs<=sizeLine/\∀p,H1 p=J->Q (.ref p) (aE H1 p (.tup xs))
def Iq(t:TA):TE:=λU H Q=>t U H λxs H1=>-xs<=sizeLine/\∀p,H1 p=J->Q (.ref p) (aE H1 p (.lst xs))
def Ix{x1}(h:PA X es t):PE X (.Tuple es x1 pos) (Ic t):=by intro ae s U H Q I F;show wpAny_Tuple_spliced (dg (h pos ae s U H _ I F) λD i Iy=>?_);let(xs,H1,I1,r,z,q):=Iy;show #[by rw[<-(-r)];show z,?_];let j:=I1.hok.fresh (br _);show#[.ref i.heap.objs.size,aE H1 i.heap.objs.size (.tup xs),I1.laid (λb u e=>cE _ e) () ?_,O,q _ j];show#[z,D,r,#[_,dE _ O,O,_,O]]
def IA(h:PA X es t):PE X (.List es pos) (Iq t):=by intro ae s U H Q I F;show wpAny_List_spliced (dg (h pos ae s U H _ I F) λD i IB=>?_);let(xs,H1,I1,r,z,q):=IB;show #[by rw[<-(-r)];show z,?_];let j:=I1.hok.fresh (br _);show#[.ref i.heap.objs.size,aE H1 i.heap.objs.size (.lst xs),I1.laid (λb u e=>cE _ e) () ?_,O,q _ j];show#[z,D,0,r,dE _ O]
end
abbrev Sp:=List V->Hp->VK->XK->Prop
abbrev yV:=List Env->Hp->Shared->XK->Value->Shared->Prop
structure Dk(P:Program)(w:World)(K:FG)(mg:Str->Option Value)(base:Heap)(A:Around)(outer:List Env)(s:Shared)(H:Hp):Prop where
 frames:A.frames=!outer
 mod:Mod K mg base
 bs:∀b o,base.get? b=!o->s.heap.get? b=!o/\H b=none
 bsz: ~~~base.objs<= ~~~s.heap.objs
 funs:s.heap.FunFrames base outer
 frf:∀b∈frs outer,H b=none
 hok:jm P w H s.heap
 bare:AllBare s.gens
def CE(outer:List Env)(P:Program)(w:World)(H:Hp)(s:Shared)(Q:VK)(u:Value)(s':Shared):Prop:=
 ∃v H',s'.os=s.os/\AllBare s'.gens/\Un (frs outer) [] H H' s.heap s'.heap/\jm P w H' s'.heap/\av v u/\Q v H'
def CR(CX:yV)(outer:List Env)(P:Program)(w:World)(H:Hp)(s:Shared)(Q:VK)(E:XK)(r:Result)(s':Shared):Prop:=
 match r with
 |.ok (.ret u)=>CE outer P w H s Q u s'
 |.ok _=>False
 |.error e=>CX outer H s E e s'
structure t6(b:Bool)(P:Program)(w:World)(K:FG)(mg:Str->Option Value)(base:Heap)(CX:yV)(k:Nat)(f:Addr)(fd:FuncData)(ps:List Str)(sp:Sp):Prop where
 len:∀vs H Q E,sp vs H Q E->-vs=-ps
 run:∀(A:Around)(outer:List Env)(s:Shared)(H:Hp)(args:Args)(us:List Value)(vs:List V)(Q:VK)(E:XK),gn b k A->Dk P w K mg base A outer s H->BindsTo s fd args (ps.zip us)->am vs us->sp vs H Q E->
  codeAny (model P w) A (.call (.ref f) args) (CR CX outer P w H s Q E) s
abbrev oK:=t6 G
def t6.imp{K:FG}(F:t6 b P w K mg base CX k f fd ps sp)
 (h:∀vs H Q E,IC vs H Q E->sp vs H Q E):t6 b P w K mg base CX k f fd ps IC:=
 #[λvs H Q E q=>F.len vs H Q E ∅,λA i s H z N vs Q E W he hb D hs=>F.run A i s H z N vs Q E W he hb D ∅]
def Dk.make{K:FG}(e:Dk P w K mg base A outer s H)(C:Addr)(j:List Value)(i:List (Str×Value)):
 Dk P w K mg base (A.under (.builtin "type.__call__" #[YV C::j,i])) outer s H:=#[by first |show e.frames |(simpa [Around.under,Code.envs,Code.isFrame,pushEnvs] using e.frames),e.mod,e.bs,e.bsz,e.funs,e.frf,e.hok,e.bare]
section
variable {X:Cx}{ae:List (Addr×Obj)}{U:St}{H:Hp}{s s':Shared}
def ai.env0(I:ai X ae U H s):Dk X.prog X.w X.K X.mg X.base X.A X.stack s H:=
 #[I.ok.frames,I.ok.mod,I.bs,d4 I.ok.bsz I.sz,I.stack,I.stkFree,I.hok,I.bare]
def ai.after(I:ai X ae U H s)(h:CE X.stack X.prog X.w H s Q u s'):EP X ae U Q u s':=by let(v,H',F,i,un,D,r,q):=h;let(N,g,d,t,j):=s';obtain rfl:j=s.os:=F;show#[v,H',I.call un D i (λb z=>absurd z (by simp)),r,q]
end
def YW(sp:Sp)(fm:List V)(E:XK)(t:TA):TE:=λU H Q=>t U H λvs H1=>sp (vs++fm) H1 Q E
def RT(C:Addr)(m:Str)(sp:Sp)(fm:List V)(E:XK)(ta:TE)(t:TA):TE:=λU H Q=>ta U H λx H1=>∃a dx fs,x=.ref a/\H1 a=!(.ins C dx fs)/\fs.lookup m=J/\
 t U H1 λvs H2=>sp (x::(vs++fm)) H2 Q E
def YX(C:Addr)(sp:Sp)(fm:List V)(E:XK)(t:TA):TE:=λU H Q=>t U H λvs H1=>∀x dx,H1 x=J->H1 dx=J->dx≠x->
 sp (.ref x::(vs++fm)) (aE (aE H1 dx (.own x)) x (.ins C dx [])) (λv H2=>v=.non/\Q (.ref x) H2) E
def c0(K:FG)(fd:FuncData)(ps:List Str)(ds:List Value):Prop:=
 ∀(s:Shared)(us:List Value),K.In s.heap->-(us++ds)=-ps->BindsTo s fd #[us,[]] (ps.zip (us++ds))
def c0.all{K:FG}(h:∀i:List Value,-i=-ps->bindArgs fd #[i,[]]=pure (ps.zip i)):c0 K fd ps []:=λs i _ j=>by rw[da]at j ⊢;show .of_eq (h i j)
def zM(CX:yV)(X:Cx)(E:XK):Prop:=∀(ae:List (Addr×Obj))(U:St)(H:Hp)(s:Shared)(e:Value)(s':Shared),ai X ae U H s->CX X.stack H s E e s'->X.xe e s'
section
variable {X:Cx}{CX:yV}{k:Nat}{f C:Addr}{fd:FuncData}{ps:List Str}{sp:Sp}{fm:List V}{ds:List Value}{E:XK}{x m:Str}{p pos apos:Pos}{e o:Expr}{es:List Expr}{ta:TE}{t:TA}
def KN{U:St}(F:t6 b X.prog X.w X.K X.mg X.base CX k f fd ps sp)(hr:gn b k X.A)(W:c0 X.K fd ps ds)(z:am fm ds)(D:∀H s e s',ai X ae U H s->CX X.stack H s E e s'->X.xe e s')
 (I:ai X ae U H s) (r:am vs us) (h:sp (vs++fm) H Q E):wpAny (model X.prog X.w) X.A (call (YV f) us) (EP X ae U Q) X.xe s:=by
 let j:=r.append z;have N:-(us++ds)=-ps:=by rw[<-(-j)];show F.len _ _ _ _ h
 show wpAny_call (codeAny_mono (F.run X.A X.stack s H #[us,[]] (us++ds) (vs++fm) Q E hr I.env0 (W s us I.kIn N) j h) λr s' i=>?_);cases r with
 |error e=>show D H s e s' I i
 |ok fl=>
  cases fl with
  |ret u=>show I.after i
  |next=>show False.elim i
  |brk=>show False.elim i
  |cont=>show False.elim i
def ZS(F:t6 b X.prog X.w X.K X.mg X.base CX k f fd ps sp)(hr:gn b k X.A)(D:Gl X x)(hm:X.mg x=!(YV f))(hk:W.keepIn X.K (YV f)=G)(hb:c0 X.K fd ps ds)(N:am fm ds)(hx:zM CX X E)
 (z:PA X (e::es) t) (j:(x==("__debug__" : Str))=M:=by decide) (he:starEach (e::es) X.env=(M,eval e X.env)::starEach es X.env:=by rfl) (i:(backTo pos (starEach es X.env)).any (·.1)=M:=by rfl):
 PE X (.Call (.Name x p) (e::es) [] pos) (YW sp fm E t):=by
 intro ae s U H Q I h;show wpAny_Call_Name_kw (Pz I D hm ?_ j);show W.callWith_K I.ok.mod.kin hk (dg (z pos ae s U H _ I h) λus s1 ID=>?_) he i;let(vs,H1,I1,r,q):=ID;show #[I1.kIn,?_];show KN F hr hb N (hx _ _) I1 r q
def ZV{pl:Sem Bool}(he:PE X o ta)(c:zJ X.K C)(z:im X.K C m f)(F:oK X.prog X.w X.K X.mg X.base CX k f fd ps sp)(hr:qM k X.A)(hb:c0 X.K fd ps ds)(N:am fm ds)(hx:zM CX X E)(D:PA X (e::es) t)
 (i:starEach (e::es) X.env=(M,eval e X.env)::starEach es X.env:=by rfl) (j:(backTo pos (starEach es X.env)).any (·.1)=M:=by rfl)
 (ht:eval (.Call (.Attribute o m apos) (e::es) [] pos) X.env=(do
   let ov <-eval o X.env
   standAt apos.atName
   let (f,first) <-holding [ov] (getMethod ov m pl)
   callWith pos f first (backTo pos (starEach (e::es) X.env)) (backToKw pos (keywordEach [] X.env))):=by rfl):
 PE X (.Call (.Attribute o m apos) (e::es) [] pos) (RT C m sp fm E ta t):=by
 intro ae s U H Q I h
 show lS (dg (he ae s U H _ I h) λu s1 qb=>?_) ht;let(x,H1,I1,rx,a,dx,fs,ex,ea,l,q):=qb
 subst ex
 obtain rfl:u=Value.ref a:=rx
 show xV I1 ea c z l ?_
 show W.callWith_K I.ok.mod.kin z.kp (dg (D pos ae s1 U H1 _ I1 q) λus s2 qh=>?_) i j;let(vs,H2,I2,r,q2):=qh;show #[I2.kIn,?_]
 show KN (vs:=.ref a::vs) F hr hb N (hx _ _) I2 (.cons O r) q2
def Wu(he:PE X o ta)(c:zJ X.K C)(i:im X.K C m f)(F:oK X.prog X.w X.K X.mg X.base CX k f fd ps sp)(N:qM k X.A)(D:c0 X.K fd ps ds)(j:am fm ds)(z:zM CX X E)
 (ht:eval (.Call (.Attribute o m apos) [] [] pos) X.env=(do
   let ov <-eval o X.env
   standAt apos.atName
   let (f,first) <-holding [ov] (getMethod ov m pl)
   callWith pos f first (backTo pos (starEach [] X.env)) (backToKw pos (keywordEach [] X.env))):=by rfl):
 PE X (.Call (.Attribute o m apos) [] [] pos) (RT C m sp fm E ta KJ):=by
 intro ae s U H Q I h
 show lS (dg (he ae s U H _ I h) λu s1 IG=>?_) ht;let(x,H1,I1,rx,a,dx,fs,ex,ea,l,q):=IG
 subst ex
 obtain rfl:u=Value.ref a:=rx
 show xV I1 ea c i l ?_
 show W.callWith_K0 I1.kIn i.kp (KN (vs:=[.ref a]) F N D j (z _ _) I1 (.cons O .nil) q)
structure Mk(K:FG)(C f:Addr):Prop where
 makes:W.makesIn K C=true
 init:W.findIn K (.ref C) "__init__"=!(!(.ref f))
 fn:W.isFn K (.ref f)=true
 kp:W.keepIn K (.ref C)=true
def Wv{U:St}(q:Mk X.K C f)(F:oK X.prog X.w X.K X.mg X.base CX k f fd ps sp)(hr:qM (k+1) X.A)(hb:c0 X.K fd ps ds)(hd:am fm ds)
 (hx:∀H s e s',ai X ae U H s->CX X.stack H s E e s'->X.xe e s') (I:ai X ae U H s) (r:am vs us)
 (h:∀x dx,H x=J->H dx=J->dx≠x->sp (.ref x::(vs++fm)) (aE (aE H dx (.own x)) x (.ins C dx [])) (λv H2=>v=.non/\Q (.ref x) H2) E):
 wpAny (model X.prog X.w) X.A (call (YV C) us) (EP X ae U Q) X.xe s:=by
 let N:=h (~~~s.heap.objs+1) s.heap.objs.size (I.hok.fresh ()) (I.hok.fresh ()) ∅;let j:=ai.made (C:=C) I;have z:am (V.ref (~~~s.heap.objs+1)::(vs++fm)) (Value.ref (~~~s.heap.objs+1)::(us++ds)):=.cons O (r.append hd);have hl:-(Value.ref ()::us++ds)=-ps:=by let e:=-z;rw[F.len _ _ _ _ N]at e;show e.symm
 show wpAny_call (Ws I.kIn q.makes q.init (beq_iff_eq.mp q.fn) (codeAny_mono (F.run _ X.stack _ _ #[Value.ref (~~~s.heap.objs+1)::us,[]] (Value.ref (~~~s.heap.objs+1)::(us++ds)) _ _ E (hr.make C us [])
  (j.env0.make C us []) (hb _ (Value.ref (~~~s.heap.objs+1)::us) j.kIn hl) z N) λr s' i=>?_))
 cases r with
 |error e=>show hx _ _ e s' j i
 |ok fl=>
  cases fl with
  |ret u=>
   let(v,H',W,rv,ev,q3):=j.after i;subst ev;show#[rv,#[V.ref (~~~s.heap.objs+1),H',W,O,q3]]
  |next=>show False.elim i
  |brk=>show False.elim i
  |cont=>show False.elim i
def ZW(z:Mk X.K C f)(F:oK X.prog X.w X.K X.mg X.base CX k f fd ps sp)(hr:qM (k+1) X.A)(N:Gl X x)(hm:X.mg x=!(YV C))(hb:c0 X.K fd ps ds)(hd:am fm ds)(hx:zM CX X E)
 (D:PA X (e::es) t) (j:(x==("__debug__" : Str))=M:=by decide) (he:starEach (e::es) X.env=(M,eval e X.env)::starEach es X.env:=by rfl) (i:(backTo pos (starEach es X.env)).any (·.1)=M:=by rfl):
 PE X (.Call (.Name x p) (e::es) [] pos) (YX C sp fm E t):=by
 intro ae s U H Q I h;show wpAny_Call_Name_kw (Pz I N hm ?_ j);show W.callWith_K I.ok.mod.kin z.kp (dg (D pos ae s U H _ I h) λus s1 IH=>?_) he i;let(vs,H1,I1,r,q):=IH;show #[I1.kIn,?_];show Wv z F hr hb hd (hx _ _) I1 r q
end
structure bz(N P:List Str)(sc:Scope):Prop where
 kind:sc.kind=.function
 co:sc.isCoroutine=false
 gen:sc.isGenerator=false
 nd:N.Nodup
 pre:N.take (-P)=P
 par:∀x∈P,sc.names.lookup x=!.local\/sc.names.lookup x=!.cell
 nofree:∀y∈sc.names,y.2≠.free
theorem HH:∀{binds:List (Str×Value)}{m:Str->Option Value},(∀v,(x,v)∉binds)->bindL i binds m x=m x
 |[],_=>λ_=>rfl
 |(n,v)::r,m=>λh=>by
  unfold bindL;rw[HH λw j=>h w (cw _ j)];split
  . have:x≠n:=by rintro rfl;show h v be
    grind
  . rfl
theorem HJ:∀{binds:List (Str×Value)}{m:Str->Option Value},(∀v,(x,v)∉binds)->bindC i binds m x=m x
 |[],_=>λ_=>rfl
 |(n,v)::r,m=>λh=>by
  unfold bindC;rw[HJ λw j=>h w (cw _ j)];split
  . rfl
  . have:x≠n:=by rintro rfl;show h v be
    grind
theorem HN:∀{P:List Str}{vs:List Value}{i:Nat}{m:Str->Option Value},P.Nodup->P[i]?=!x->vs[i]?=!v->j x=!.local->
 bindL j (P.zip vs) m x=!v
 |[],_,_,_=>λ_ h _ _=>by grind
 |_::_,[],_,_=>λ_ _ h _=>by grind
 |p::P,w::vs,0,m=>λq h1 h2 hk=>by simp at h1 h2;subst h1;subst h2;show bindL j ((p,w)::P.zip vs) m p=_;unfold bindL;rw[HH λv z=>(fI.mp q).1 (iP z).1,aw hk];simp
 |p::P,w::vs,i+1,m=>λq h1 h2 hk=>by unfold bindL;show HN (fI.mp q).2 () () hk
theorem HR:∀{P:List Str}{vs:List Value}{i:Nat}{m:Str->Option Value},P.Nodup->P[i]?=!x->vs[i]?=!v->j x≠!.local->
 bindC j (P.zip vs) m x=!v
 |[],_,_,_=>λ_ h _ _=>by grind
 |_::_,[],_,_=>λ_ _ h _=>by grind
 |p::P,w::vs,0,m=>λq h1 h2 hk=>by simp at h1 h2;subst h1;subst h2;show bindC j ((p,w)::P.zip vs) m p=_;unfold bindC;rw[HJ λv z=>(fI.mp q).1 (iP z).1,ay hk];simp
 |p::P,w::vs,i+1,m=>λq h1 h2 hk=>by unfold bindC;show HR (fI.mp q).2 () () hk
def start(N:List Str)(vs:List V):St:=vs.map some++List.replicate (-N-(-vs)) J
noncomputable def vC (b:Bool) (CX:yV) (P:Program) (w:World) (K:FG) (mg:Str->Option Value) (base:Heap) (N:List Str) (qual:Str) (scope:Scope) (f:Addr) (cd:Value) (A:Around) (outer:List Env) (s:Shared) (H:Hp) (E:XK):Cx where
 prog:=P
 w:=w
 K:=K
 mg:=mg
 base:=base
 A:=A.deeper (envOfC qual scope s.heap.objs.size f cd)
 N:=N
 s₀:=s
 H0:=H
 env:=envOfC qual scope s.heap.objs.size f cd
 outer:=outer
 stack:=envOfC qual scope s.heap.objs.size f cd::outer
 ex:=[]
 calm:=b
 fn:=λ_=>G
 pn:=[]
 xe:=λe s'=>wpAny (model P w) (A.deeper (envOfC qual scope s.heap.objs.size f cd)) (leaving (envOfC qual scope s.heap.objs.size f cd) e) (λ_ s''=>CX outer H s E e s'') (λe' s''=>CX outer H s E e' s'') s'
abbrev Ww:=vC G
def KQ{sc:Scope}(h:sc.names.lookup x=!.cell):∃c,(cellsFrom n sc.names []).lookup x=!c:=by let q:=pb sc.names n [] (Zl h);show kN.mp q
def Ua{K:FG}{E:XK}
 (S:bz N ps scope) (hd:cm=G->A.handled=J) (j:Dk P w K mg base A outer s H) (hl:-vs=-ps) (r:am vs us)
 (x:InCallC s s.heap.objs.size (bindL (envOfC qual scope s.heap.objs.size f cd).kindOf (ps.zip us) λ_=>J) (cellsFrom (~~~s.heap.objs+1) scope.names []) (bindC (envOfC qual scope s.heap.objs.size f cd).kindOf (ps.zip us) λ_=>J) s1):
 ai (vC cm CX P w K mg base N qual scope f cd A outer s H E) [] (start N vs) H s1:=by
 have hpl:-ps<=-N:=by have:=congrArg length S.pre;rw[g9]at this;lia
 let(h1,tk,rfl,hk):=x.done;have D:∀b:Addr,b∉(vC cm CX P w K mg base N qual scope f cd A outer s H E).ex:=λb z=>absurd (show b∈([]:List Addr) from z) (by simp);show#[#[j.mod,S.kind,O,O,br _,λy z c h1 h2=>?_,λy F=>?_,λy c _ h=>?_,hd,Around.frames_deeper j.frames,YY #[O,O],λb z=>absurd z (D b),j.bs,j.bsz,λb _ _=>D b,λb z=>absurd z (D b),j.funs,j.frf],
  rfl,j.bare,Un.kept hk,#[_,x.toInCall.ns,λi y v h1 h2 h3=>?_],λy c h=>#[_,x.cell y c h],j.hok.fresh (br _),λy c h=>?_,λp W=>absurd (show p∈([]:List (Addr×Obj)) from W) (by simp),j.hok.kept hk,?_]
 . show name_of_addr x.apart (ii h1) (ii h2)
 . obtain F|F:=F
   . show KQ F
   . show absurd O (S.nofree _ (ii F))
 . show lI (x.above y c (ii h))
 . have hi:i< -vs:=by
    unfold start at h2;by_cases hi:i< -vs
    . show hi
    . grind
   have ha:vs[i]?=!v:=by
    unfold start at h2;rw[gu ∅,c5]at h2;cases e:vs[i]? with
    |none=>grind
    |some a=>grind
   let(u,hu,rv):=r.get ha;have W:ps[i]?=!y:=by rw[<-S.pre,getElem?_take_of_lt ()];show h1
   have Q:ps.Nodup:=by rw[<-S.pre];show S.nd.sublist ∅
   show#[u,rv,?_];obtain k|k:=S.par y (eI W)
   . show Zl #[k,HN Q W hu k]
   . let(c,e):=KQ k;show YY #[Zl k,c,e,?_];let q:=x.cell y c e;rw[HR Q W hu (by show scope.names.lookup y≠_;rw[k];decide)]at q;show q
 . show j.hok.fresh (lI (x.above y c (ii h)))
 . unfold start;show _=-N;grind
def II{K:FG}{dV kV i6 pm j ct oc:Value}
 (lk:K.lookup f=!#[oc,od,.func (W.fnOf name qual params body scope dV kV i6 pm an j ct),kR]) (nN:W.codeIn K j qual=G) (S:bz N ps scope)
 (len:∀vs H Q E,sp vs H Q E->-vs=-ps)
 (D:∀(A:Around)(i:List Env)(s:Shared)(H:Hp)(vs:List V)(Q:VK)(E:XK),gn b k (A.deeper (envOfC qual scope s.heap.objs.size f j))->sp vs H Q E->
   ∃t,jP (vC b CX P w K mg base N qual scope f j A i s H E) body t/\t { nx:=λ_ H'=>Q .non H',rt:=Q } (start N vs) H):
 t6 b P w K mg base CX (k+1) f (W.fnOf name qual params body scope dV kV i6 pm an j ct) ps sp:=by
 show#[len,λA i s H args us vs Q E hr e0 hb r kS=>?_];let hl:=len _ _ _ _ kS;let KX:=e0.mod.kin.keeps λb o e=>(e0.bs b o e).1;let IJ:=e0.mod.nolimit.keeps λb o e=>(e0.bs b o e).1;have F:∀y∈ps.zip us,scope.names.lookup y.1=!.local\/(scope.names.lookup y.1=!.cell/\((cellsFrom (~~~s.heap.objs+1) scope.names []).lookup y.1).isSome=G):=λpS hy=>by
  let(n,v):=pS
  obtain q|q:=S.par n (iP hy).1
  . grind
  . show YY #[q,pb _ _ _ (Zl q)]
 show codeAny_call_function hr.depth (KX _ _ lk) O S.co S.gen O (W.codeRec_of KX nN) (hb _ _ _ _ ?_);show wpAny_newFunctionEnv_cells S.kind F λenv he s1 x=>?_;subst he;show#[IJ.keeps x.toInCall.keep,codeAny_func ?_];let(t,ht,hq):=D A i s H vs Q E (hr.deeper _) kS;show wpAny_mono (ht [] s1 (start N vs) H _ (Ua S hr.hd e0 hl r x) hq) (λfl s' hs=>?_) λe s' hs=>hs;have fin:∀{U':St}{H':Hp}{v:V}{u:Value},ai (vC b CX P w K mg base N qual scope f j A i s H E) [] U' H' s'->av v u->Q v H'->CE i P w H s Q u s':=
  λ{U' H' v u} z rv q=>#[v,H',z.os,z.bare,z.base,z.hok,rv,q]
 cases fl with
 |ret u=>
  let(v,U',H',z,rv,q):=hs;show fin z rv q
 |next=>
  let(U',H',z,q):=hs;show fin (v:=V.non) z O q
 |brk=>
  let(_,_,_,q):=hs;grind
 |cont=>
  let(_,_,_,q):=hs;grind
section
variable {X:Cx}{x:Str}{p pos:Pos}{e:Expr}{es:List Expr}{t:TA}{id T:String}{r:List V->Hp->VK->Prop}
def zN(r:List V->Hp->VK->Prop)(t:TA):TE:=λU H Q=>t U H λvs H1=>r vs H1 Q
def iQ(hc:lO X (.builtin id) r)(z:Gl X x)(hm:X.mg x=J)(N:bootBuiltins x=!(.builtin id))(q:PA X (e::es) t)(D:x ≠ "__name__":=by decide)(j:(x==("__debug__" : Str))=M:=by decide)
 (he:starEach (e::es) X.env=(M,eval e X.env)::starEach es X.env:=by rfl) (i:(backTo pos (starEach es X.env)).any (·.1)=M:=by rfl):PE X (.Call (.Name x p) (e::es) [] pos) (zN r t):=by
 intro ae s U H Q I h;show wpAny_Call_Name_kw (zE I z hm N ?_ D j);show PyProof.Rows.callWith_builtin1 (dg (q pos ae s U H _ I h) λW F pT=>by let(vs,H1,I1,r1,q1):=pT;show hc ae F U H1 vs W Q I1 r1 q1) he i
def gA(hc:lO X (.type T) r)(z:Gl X x)(hm:X.mg x=J)(N:bootBuiltins x=!(.type T))(q:PA X (e::es) t)(D:x ≠ "__name__":=by decide)(j:(x==("__debug__" : Str))=M:=by decide)
 (he:starEach (e::es) X.env=(M,eval e X.env)::starEach es X.env:=by rfl) (i:(backTo pos (starEach es X.env)).any (·.1)=M:=by rfl):PE X (.Call (.Name x p) (e::es) [] pos) (zN r t):=by
 intro ae s U H Q I h;show wpAny_Call_Name_kw (zE I z hm N ?_ D j);show PyProof.Rows.callWith_type1 (dg (q pos ae s U H _ I h) λW F IL=>by let(vs,H1,I1,r1,q1):=IL;show hc ae F U H1 vs W Q I1 r1 q1) he i
end
end L2
namespace HT
open PySem PySem.Spec PyProof.Rows
section
variable {prog:Program}{w:World}{A:Around}{E:Value->Shared->Prop}{s:Shared}
def cat_tup(ht:IsTup s.heap t vs.toArray)(hb:IsTup s.heap b ws.toArray)(hv:vs≠[])
 (h1:ws=[]->Q (YV t) s) (h2:ws≠[]->Q (YV s.heap.objs.size) { s with heap:=s.heap.push { cls:=.type "tuple",data:=.seq (vs++ws).toArray } })
 (fg:-vs+-ws<=sizeLine):wpAny (model prog w) A (binaryOp .Add (YV t) (YV b)) Q E s:=by
 let((cls,dd,data,sl),N,hc,n,hd):=id ht;let((cls2,q,data2,z),i,W,n2,qk):=id hb;subst hc hd W qk
 by_cases hw:ws=[]
 . show concat_meets #[_,N,O] #[_,i,O] noFill_tuple_add seq_tuple_add F.slot_tuple_add F.entry_tuple_add (F.args_tuple_add_2 _ _)
    (tuple_addW1 t b vs.toArray ws.toArray n n2 dd q sl z ∅ ∅) #[N,i,h1 hw]
 . show concat_meets #[_,N,O] #[_,i,O] noFill_tuple_add seq_tuple_add F.slot_tuple_add F.entry_tuple_add (F.args_tuple_add_2 _ _)
    (tuple_addW2 t b vs.toArray ws.toArray n n2 dd q sl z ∅ ∅ ()) #[N,i,?_]
   grind
noncomputable def sIx (n d:Nat):Option Int->Nat
 |none=>d
 |some v=>if v<0 then (v+(n:Int)).toNat else min v.toNat n
def sIx_nat(n d k:Nat):sIx n d (!(k:Int))=min k n:=by show (if (k:Int)<0 then ((k:Int)+(n:Int)).toNat else min (k:Int).toNat n)=min k n;rw[ay (),o_]
def sIx_le(n d:Nat)(hd:d<=n)(o:Option Int):sIx n d o<=n:=by
 cases o with
 |none=>show hd
 |some v=>
  show (if v<0 then (v+(n:Int)).toNat else min v.toNat n)<=n;by_cases hv:v<0
  . rw[aw hv];lia
  . rw[ay hv];show Nat.min_le_right _ _
def PJ(v:Int)(n d:Nat):(if v<0 then max (v+(n:Int)) 0 else min v (n:Int))=((sIx n d (!v):Nat):Int):=by
 show (if v<0 then max (v+(n:Int)) 0 else min v (n:Int))=(((if v<0 then (v+(n:Int)).toNat else min v.toNat n):Nat):Int);by_cases i:v<0
 . grind
 . grind
def RV(lo hi:Option Int)(n:Nat):Builtin.Slice.sliceAdjust lo hi 1 (n:Int)=(((sIx n 0 lo:Nat):Int),((sIx n n hi:Nat):Int)):=by
 have h1:¬ ((1:Int)<0):=()
 show Prod.ext ?_ ?_
 . cases lo with
   |none=>rfl
   |some v=>show PJ v n 0
 . cases hi with
   |none=>rfl
   |some v=>show PJ v n n
def RW(i j:Nat):Builtin.Slice.slicePlaces (i:Int) (j:Int) 1=j-i:=by
 unfold Builtin.Slice.slicePlaces;have h1:(1:Int)>0:=()
 simp only[h1,if_true];split<;>lia
def Er(p:IsPart v o)(h:Q o s):wpAny (model prog w) A (Builtin.Slice.slicePartIndex v) Q E s:=by
 cases p with
 |none=>show slicePart_none h
 |int i t=>show slicePart_int h
def Dl{lo hi:Option Int}{Q:Int×Int×Nat->Shared->Prop}(hs:s.heap.IsSliceOf sl vl vu .none)(pl:IsPart vl lo)(D:IsPart vu hi)
 (h:Q (((sIx n 0 lo:Nat):Int),1,sIx n n hi-sIx n 0 lo) s):wpAny (model prog w) A (Builtin.Slice.sliceApplied (YV sl) (pure (n:Int))) Q E s:=by
 let(F,j,z,q):=id hs;show al (al (wpAny_field j q O (al (wpAny_field j q O (al (wpAny_field j q O (aI ?_)))))));show al (slicePart_none ?_);show al (Er pl (al (Er D (al (aI ?_)))));show wpAny _ _ (match Builtin.Slice.sliceAdjust lo hi 1 (n:Int) with |(lo,hi)=>pure (lo,(1:Int),Builtin.Slice.slicePlaces lo hi 1)) _ _ s;rw[RV lo hi n];show wpAny _ _ (pure (((sIx n 0 lo:Nat):Int),(1:Int),Builtin.Slice.slicePlaces ((sIx n 0 lo:Nat):Int) ((sIx n n hi:Nat):Int) 1)) _ _ s;rw[RW];show aI h
def Wx(xs:Array Value)(i k:Nat):((List.range k).filterMap λ(m:Nat)=>xs[((i:Int)+(m:Int)*1).toNat]?).toArray=((xs.toList.drop i).take k).toArray:=by
 have e:(λ(m:Nat)=>xs[((i:Int)+(m:Int)*1).toNat]?)=λm=>xs[i+m]?:=by
  funext m;have:((i:Int)+(m:Int)*1).toNat=i+m:=()
  rw[this]
 rw[e];have:=pick_run xs i k;have j:((λx=>xs[x]?) ∘ λx=>i+x)=λm=>xs[i+m]?:=O;grind
def getItem_tuple_cut{lo hi:Option Int}(j:IsTup s.heap t items)(hs:s.heap.IsSliceOf sl vl vu .none)(pl:IsPart vl lo)(pu:IsPart vu hi)
 (hw:¬ (sIx items.size 0 lo=0/\sIx items.size items.size hi= ~~~items))
 (h:Q (YV s.heap.objs.size) { s with heap:=s.heap.push { cls:=.type "tuple",data:=.seq ((items.toList.drop (sIx items.size 0 lo)).take (sIx items.size items.size hi-sIx items.size 0 lo)).toArray } })
 (fg: ~~~items<=sizeLine):wpAny (model prog w) A (getItem (YV t) (YV sl)) Q E s:=by
 have i:sizeOk (.seq ((items.toList.drop (sIx items.size 0 lo)).take (sIx items.size items.size hi-sIx items.size 0 lo)).toArray):=by show ((items.toList.drop (sIx items.size 0 lo)).take (sIx items.size items.size hi-sIx items.size 0 lo)).toArray.size<=sizeLine;rw[eP,g9,length_drop,e_];lia
 let(os,D,F,w4):=id hs;unfold getItem
 try with_reducible show wpAny_holding ?_
 first |show al () |skip
 show al (wpAny_sequenceKey j.typeIs () ?_);show al (wpAny_callSpecial?_slot j.typeIs PyProof.Rows.slot_tuple_getitem
  (wpAny_call_entry PyProof.Rows.slot_tuple_getitem j.typeIs entry_tuple_getitem ?_ (args_tuple_getitem _ _)))
 show wpAny _ _ (Builtin.Tuple.tupleItemsOf (YV t) >>= _) _ _ s;show al (tupleItemsOf_ j ?_);show al (wpAny_typeOf (#[os,D,F]) ?_);show al (Dl hs pl pu ?_);have z:¬ ((((sIx items.size 0 lo:Nat):Int)==0&&(1:Int)==1&&(sIx items.size items.size hi-sIx items.size 0 lo)== ~~~items)=G):=by intro q;rw[fF,fF]at q;show hw #[(),()]
 show wpAny _ _ (if (((sIx items.size 0 lo:Nat):Int)==0&&(1:Int)==1&&(sIx items.size items.size hi-sIx items.size 0 lo)== ~~~items)=G then _ else _) _ _ s;rw[ay z,Wx]
 first
  |show al (wpAny_newObj_type () i)
  |show al (wpAny_newObj_type (al (aI (aI #[_,rfl,aI h]))) i)
  |show al ()
  |show al ()
end
end HT
namespace L2
open PySem PySem.Spec PyProof.Rows
variable {ae:List (Addr×Obj)}{E:Value->Shared->Prop}{s:Shared}{A:Around}{w:World}{P:Program}
abbrev TO:=St->Hp->(Option Int->Hp->Prop)->Prop
def PO(X:Cx)(e:Option Expr)(t:TO):Prop:=
 ∀(ae:List (Addr×Obj))(s:Shared)(U:St)(H:Hp)(Q:Option Int->Hp->Prop),ai X ae U H s->t U H Q->
  wpAny (model X.prog X.w) X.A (evalPart e X.env) (λu s'=>∃o H',ai X ae U H' s'/\IsPart u o/\Q o H') X.xe s
def ZX:TO:=λ_ H Q=>Q J H
def IM(t:TE):TO:=λU H Q=>t U H λx H1=>∃i,x=.int i/\Q (!i) H1
section
variable {X:Cx}{e:Expr}{te:TE}{lo hi:Option Expr}{tl th:TO}{pos p2:Pos}
def ZZ:PO X J ZX:=by intro ae s U H Q I h;show aI #[J,H,I,.none,h]
def Z3(h:PE X e te):PO X (!e) (IM te):=by intro ae s U H Q I j;show dg (h ae s U H _ I j) λu z IN=>?_;let(x,H1,I1,r1,q1):=IN;let(i,rfl,q):=q1;let(t,rfl):=r1;show#[!i,H1,I1,.int i t,q]
def HS(X:Cx)(r:V->Option Int->Option Int->Hp->VK->Prop):Prop:=
 ∀(ae:List (Addr×Obj))(s:Shared)(U:St)(H:Hp)(x:V)(v vl vu:Value)(lo hi:Option Int)(sl:Addr)(Q:VK),ai X ae U H s->av x v->s.heap.IsSliceOf sl vl vu .none->IsPart vl lo->IsPart vu hi->r x lo hi H Q->
  ∃T id,typeLookup (.type T) "__getitem__"=pure (!(.builtin id))/\s.TypeIs v T/\wpAny (model X.prog X.w) X.A (getItem v (YV sl)) (EP X ae U Q) X.xe s
def HS.or(h:HS X r)(h':HS X r'):HS X (λx lo hi H Q=>r x lo hi H Q\/r' x lo hi H Q):=by
 intro ae s U H x v j D lo hi sl Q I z hs pl i q;obtain q|q:=q
 . show h ae s U H x v j D lo hi sl Q I z hs pl i q
 . show h' ae s U H x v j D lo hi sl Q I z hs pl i q
def IP(r:V->Option Int->Option Int->Hp->VK->Prop)(te:TE)(tl th:TO):TE:=λU H Q=>te U H λx H1=>tl U H1 λl H2=>th U H2 λu H3=>r x l u H3 Q
def KR(hr:HS X r)(he:PE X e te)(hl:PO X lo tl)(hu:PO X hi th):PE X (.Subscript e (.Slice lo hi J p2) pos) (IP r te tl th):=by intro ae s U H Q I h;show Subscript_ (dg (he ae s U H _ I h) λv s1 IQ=>?_);let(x,H1,I1,W,q1):=IQ;show wpAny_Slice (dg (hl ae s1 U H1 _ I1 q1) λF s2 IR=>?_);let(l,H2,I2,pl,q2):=IR;show dg (hu ae s2 U H2 _ I2 q2) λD i IS=>?_;let(u,H3,N,pu,q3):=IS;show aI ?_;let(T,id,hT,ht,hg):=hr ae { i with heap:=i.heap.push { cls:=.type "slice",data:=.fields (List.toArray [F,D,.none]) } } U H3 x v F D l u i.heap.objs.size Q (N.kept λb ob q=>cE _ q) W (Heap.IsSliceOf.new ..) pl pu q3;show tail_any ht hT hg ()
def uK(xs:List V)(lo hi:Option Int):List V:=(xs.drop (HT.sIx (-xs) 0 lo)).take (HT.sIx (-xs) (-xs) hi-HT.sIx (-xs) 0 lo)
def CP(xs:List V)(lo hi:Option Int):-(uK xs lo hi)<=-xs:=by unfold uK;rw[g9,kL];lia
def IT(K:FG):V->Option Int->Option Int->Hp->VK->Prop:=λx lo hi H Q=>∃a xs,x=.ref a/\cW K H a xs/\
 ¬ (HT.sIx (-xs) 0 lo=0/\HT.sIx (-xs) (-xs) hi=-xs)/\∀p,H p=J->Q (.ref p) (aE H p (.tup (uK xs lo hi)))
def IU:HS X (IT X.K):=by
 intro ae s U H x v vl vu lo hi sl Q I W hs pl D h;let(a,xs,rfl,N,hw,q):=h;cases W;let(j,r,z,F):=I.tuple N;have i: ~~~j.toArray=-xs:=by rw[eP];show r.length.symm
 show#["tuple",_,PyProof.Rows.slot_tuple_getitem.lookup,z.typeIs,?_];show HT.getItem_tuple_cut z hs pl D ∅ ?_ ();rw[i];show#[.ref s.heap.objs.size,_,I.laid (λb ob q=>cE _ q) () ?_,O,q _ (I.hok.fresh ())];show#[d4 (CP xs lo hi) F,_,(r.drop (HT.sIx (-xs) 0 lo)).take (HT.sIx (-xs) (-xs) hi-HT.sIx (-xs) 0 lo),IsTup.new _ _]
def YZ(K:FG):R2:=λx y H Q=>∃a b xs ys,x=.ref a/\y=.ref b/\cW K H a xs/\cW K H b ys/\xs≠[]/\-xs+-ys<=sizeLine/\
 (ys=[]->Q (.ref a) H)/\(ys≠[]->∀p,H p=J->Q (.ref p) (aE H p (.tup (xs++ys))))
def am.nil_iff(r:am xs us):us=[] ↔ xs=[]:=by
 cases r with
 |nil=>simp
 |cons _ _=>simp
def Z4:ju X (binaryOp .Add) (YZ X.K):=by intro ae s U H x y v u Q I rx ry h;let(a,b,xs,ys,rfl,rfl,N,hb,hx,D,W,q2):=h;cases rx;cases ry;let(bp,j,p1,_):=I.tuple N;let(F,i,p2,_):=I.tuple hb;show HT.cat_tup p1 p2 (λz=>hx (j.nil_iff.mp z)) (λz=>#[.ref a,H,I,O,W (i.nil_iff.mp z)]) (λz=>?_) (by rw[<-(-j),<-(-i)];show D);show#[.ref s.heap.objs.size,_,I.laid (λb ob q=>cE _ q) () ?_,O,q2 (λw=>z (i.nil_iff.mpr w)) _ (I.hok.fresh ())];show#[by rw[bX];show D,_,j.append i,IsTup.new _ _]
end
noncomputable def uL (n:Nat) (i:Int):Option Nat:=if 0<=i then (if i<n then !i.toNat else J) else if (Neg.neg (n:Int))<=i then !(i+n).toNat else J
def fO{α:Type}(xs:List α)(i:Int):Option α:=(uL (-xs) i).bind λj=>xs[j]?
def PK(h:uL n i=!j):seqIndex? i n=!j/\j<n/\(Neg.neg (n:Int))<=i/\i<n:=by
 unfold uL at h;by_cases q:0<=i
 . rw[aw q]at h;by_cases h1:i<n
   . rw[aw h1]at h;let e:=d0 h;show#[by rw[seqIndex_of q h1,e],(),(),h1]
   . grind
 . rw[ay q]at h;by_cases h1:(Neg.neg (n:Int))<=i
   . rw[aw h1]at h;let e:=d0 h;show#[by rw[seqIndex_neg () h1,e],(),h1,()]
   . grind
def GK(h:fO xs i=!v):∃j,seqIndex? i (-xs)=!j/\xs[j]?=!v/\j< -xs/\(Neg.neg (-xs:Int))<=i/\i< -xs:=by
 unfold fO at h;cases e:uL (-xs) i with
 |none=>grind
 |some j=>
  let(h1,h2,q,z):=PK e;grind
def PN{j:Nat}(h:xs[j]?=!v):fO xs (j:Int)=!v:=by
 let i:=(c9.mp h).1;have e:uL (-xs) (j:Int)=!j:=by unfold uL;rw[aw (),aw ()];simp
 unfold fO;rw[e];show h
def qN(xs:List α)(v:α):fO (xs++[v]) (-1)=!v:=by
 have i:-(xs++[v])=-xs+1:=by simp
 have e:uL (-(xs++[v])) (-1)=!(-xs):=by unfold uL;rw[i,ay (),aw ()];congr 1;lia
 unfold fO;grind
def Bh(b:Expr):Prop:=∀o i,subscripted b M o i=operate [o,i] (getItem o i)
def zP(X:Cx)(r:R2):Prop:=
 ∀(value slice:Expr)(ae:List (Addr×Obj))(s:Shared)(U:St)(H:Hp)(x y:V)(v u:Value)(Q:VK),ai X ae U H s->av x v->av y u->r x y H Q->
  subscripted slice M v u=operate [v,u] (getItem v u)->wpAny (model X.prog X.w) X.A (subscriptTail value slice v u) (EP X ae U Q) X.xe s
def PP(X:Cx)(id:String)(r:V->List V->Hp->VK->Prop):Prop:=
 ∀(ae:List (Addr×Obj))(s:Shared)(U:St)(H:Hp)(x:V)(xs:List V)(v:Value)(us:List Value)(Q:VK),ai X ae U H s->av x v->am xs us->r x xs H Q->
  wpAny (model X.prog X.w) X.A (call (.builtin id) (v::us)) (EP X ae U Q) X.xe s
section
variable {X:Cx}{a b:Expr}{ta tb:TE}{pos:Pos}
def zP.or(h:zP X r)(h':zP X r'):zP X (λx y H Q=>r x y H Q\/r' x y H Q):=by
 intro value i ae s U H x y v u Q I z j q hs;obtain q|q:=q
 . show h value i ae s U H x y v u Q I z j q hs
 . show h' value i ae s U H x y v u Q I z j q hs
def RX(W:zP X r)(i:PE X a ta)(N:PE X b tb)(hs:Bh b):PE X (.Subscript a b pos) (T3 r ta tb):=by intro ae s U H Q I h;show Subscript_ (Wm i N I h λv u D x y H2 j F z q=>W a b ae D U H2 x y v u Q j F z q (hs _ _))
def w_(K:FG):R2:=λx y H Q=>∃p xs i v,x=.ref p/\y=.int i/\bY K H p xs/\fO xs i=!v/\Q v H
def xa(K:FG):R2:=λx y H Q=>∃p xs i v,x=.ref p/\y=.int i/\cW K H p xs/\fO xs i=!v/\Q v H
def xb:R2:=λx y H Q=>∃z i c,x=.str z/\y=.int i/\-z<=sizeLine/\fO z.cps.toList i=!c/\Q (.str #[(List.toArray [c])]) H
def Z5:zP X (w_ X.K):=by
 intro value D ae s U H x y v u Q I rx ry h hs;let(p,xs,i,z,rfl,rfl,hq,he,q):=h;cases rx;let(t,rfl):=ry;let(N,r,pl,hz):=I.list hq;let(j,h1,h2,h3,h4,h5):=GK he;let(w,ew,F):=r.get h2;let hl:=-r;let hn:=wy;have fin:EP X ae U Q w s:=#[z,H,I,F,q];by_cases W:0<=i
 . have hj:i.toNat=j:=by rw[seqIndex_of W h5]at h1;show d0 h1
   show item_listR pl.isList W () ∅ fin hs
 . have hj:(i+(~~~N.toArray:Int)).toNat=j:=by rw[seqIndex_neg () h4]at h1;rw[eP,<-hl];show d0 h1
   show subscriptTail_builtinR pl.isList.typeIs slot_list_getitem.lookup
    (wpAny_getItem_list_neg pl.isList () ∅ () ∅ #[O,fin]) hs
def IV:zP X (xa X.K):=by
 intro value D ae s U H x y v u Q I rx N h hs;let(p,xs,i,z,rfl,rfl,hq,he,q):=h;cases rx;let(t,rfl):=N;let(bp,r,pl,hz):=I.tuple hq;let(j,h1,h2,h3,h4,h5):=GK he;let(w,ew,F):=r.get h2;let W:=-r;let hn:=wy;show subscriptTail_builtinR pl.typeIs slot_tuple_getitem.lookup
  (getItem_tuple pl () () (by rw[eP,<-W];show h1) ∅ #[O,#[z,H,I,F,q]]) hs
def IX:zP X xb:=by
 intro value D ae s U H x y v u Q I N F h hs;let(z,i,c,rfl,rfl,hz,he,q):=h;let(t,rfl):=N;let(t',rfl):=F;let(j,h1,h2,h3,h4,h5):=GK he;have W:-z.cps.toList=-z:=by simp[Str.length]
 let hn:=wy;show tail_any (typeIs_str s z t) slot_str_getitem.lookup (getItem_str () ∅ #[.str #[(List.toArray [c])],H,I.tok _,#[_,O],q]) hs
def qo(K:FG):R2:=λx y H Q=>w_ K x y H Q\/xa K x y H Q\/xb x y H Q
def Ub:zP X (qo X.K):=Z5.or (IV.or IX)
def RZ(i:List Value)(n j:Nat)(u:Value):Obj.mapSeq (·.setIfInBounds j u) { cls:=.type "list",data:=.seq i.toArray n }={ cls:=.type "list",data:=.seq (i.set j u).toArray n }:=by simp[Obj.mapSeq]
theorem ai.lst{U:St}{H:Hp}{p:Addr}{xs:List V}(I:ai X ae U H s)(h:H p=!(.lst xs)):
 ∃(i:List Value)(n:Nat),am xs i/\s.heap.get? p=some { cls:=.type "list",data:=.seq i.toArray n }/\-xs<=sizeLine:=by
 let(z,i,n,r,e):=I.hok p _ h;grind
def ai.lstUpd{U:St}{j i:List Value}(I:ai X ae U H s)(h:H p=!(.lst xs))
 (Q:s.heap.get? p=some { cls:=.type "list",data:=.seq j.toArray n }) (z:f { cls:=.type "list",data:=.seq j.toArray n }={ cls:=.type "list",data:=.seq i.toArray n' }) (r:am ys i) (N:-ys<=sizeLine) (t:Nat):
 ai X ae U (aE H p (.lst ys)) { s with heap:=s.heap.update p f,toks:=t }:=by
 have e:(s.heap.update p f).get? p=some { cls:=.type "list",data:=.seq i.toArray n' }:=by rw[kM f Q (by rw[z]<;>rfl),z]
 show I.write (by rw[h];trivial) (Zl O) (λb u W q=>(kH _ _ ∅).trans q) #[_,e] ?_;show#[N,i,n',r,e]
def Y0_:V->V->V->Hp->(Hp->Prop)->Prop:=λo i v H Q=>∃p xs k j,o=.ref p/\i=.int k/\H p=!(.lst xs)/\uL (-xs) k=!j/\Q (aE H p (.lst (xs.set j v)))
def set_list:Wj X Y0_:=by
 intro ae s U H o i v ov iv u Q I ro ri rv h;let(p,xs,k,j,rfl,rfl,N,hj,q):=h;cases ro;let(t,rfl):=ri;let(z,n,r,D,hz):=I.lst N;let(h1,h2,h3,h4):=PK hj;let hl:=-r;let hn:=wy;let I':=
  I.lstUpd N D (RZ z n j u) (r.set rv j) ∅ s.toks
 by_cases F:0<=k
 . have hk:k.toNat=j:=by rw[seqIndex_of F h4]at h1;show d0 h1
   show W.ki_setAt D F () ∅ ∅
 . have hk:(k+(~~~z.toArray:Int)).toNat=j:=by rw[seqIndex_neg () h3]at h1;rw[eP,<-hl];show d0 h1
   show W.ki_setBack D () ∅ () ∅
def KY(lo hi:Option Int)(n:Nat):(sliceBounds lo hi J n).1=((HT.sIx n 0 lo:Nat):Int)/\(sliceBounds lo hi J n).2.1=((HT.sIx n n hi:Nat):Int)/\(sliceBounds lo hi J n).2.2=1:=by
 show#[?_,?_,O]
 . cases lo with
   |none=>simp[sliceBounds,HT.sIx]
   |some i=>
    simp only[sliceBounds,HT.sIx,Option.getD_none];by_cases h:i<0
    . grind
    . grind
 . cases hi with
   |none=>simp[sliceBounds,HT.sIx]
   |some i=>
    simp only[sliceBounds,HT.sIx,Option.getD_none];by_cases h:i<0
    . grind
    . grind
def JH(i:List Value)(lo hi:Option Int):slicePick i.toArray lo hi J=((i.drop (HT.sIx (-i) 0 lo)).take (HT.sIx (-i) (-i) hi-HT.sIx (-i) 0 lo)).toArray:=by let(h1,h2,j):=KY lo hi i.toArray.size;unfold slicePick;rw[h1,h2,j];simp only[sliceRange_one,pick_run]<;>rfl
def IY(K:FG):V->Option Int->Option Int->Hp->VK->Prop:=λx lo hi H Q=>∃a xs,x=.ref a/\bY K H a xs/\∀p,H p=J->Q (.ref p) (aE H p (.lst (uK xs lo hi)))
def Z6:HS X (IY X.K):=by intro ae s U H x v vl vu lo hi sl Q I W hs pl z h;let(a,xs,rfl,F,q):=h;cases W;let(N,r,j,D):=I.list F;let i:=-r;show#["list",_,slot_list_getitem.lookup,j.isList.typeIs,?_];show wpAny_getItem_list_slice j.isList hs pl z .none () ?_ ∅;rw[JH,<-i];show#[.ref s.heap.objs.size,_,I.laid (λb ob q=>cE _ q) () ?_,O,q _ (I.hok.fresh ())];show#[d4 (CP xs lo hi) D,_,0,(r.drop (HT.sIx (-xs) 0 lo)).take (HT.sIx (-xs) (-xs) hi-HT.sIx (-xs) 0 lo),dE _ O]
noncomputable def Y4_:V->Bool
 |.non=>G
 |.bl _=>G
 |.int _=>G
 |.str _=>G
 |_=>M
def lX:lO X (.type "list") (λxs H Q=>∃p ys,xs=[.ref p]/\(bY X.K H p ys\/cW X.K H p ys)/\∀l,H l=J->Q (.ref l) (aE H l (.lst ys))):=by
 intro ae s U H xs us Q I r h;let(p,ys,rfl,N,q):=h;let(u,rfl,rx):=dv r;cases rx;have fin:∀(i:List Value),am ys i->-ys<=sizeLine->∀(h':Heap)(j:Nat),(∀b o',s.heap.get? b=!o'->h'.get? b=!o')->
  h'.get? s.heap.objs.size=some { cls:=.type "list",dict:=J,data:=.seq i.toArray j,slots:=#[] }->EP X ae U Q (YV s.heap.objs.size) { s with heap:=h' }:=λi z D h' j kp e=>
  #[.ref s.heap.objs.size,_,I.laid kp () (show fG X.prog X.w _ h' _ (.lst ys) from #[D,i,j,z,e]),O,q _ (I.hok.fresh ())]
 obtain N|N:=N
 . let(i,z,pl,D):=I.list N;let F:=-z;let(o,ho,hc,n,W):=pl.isList;show call_list_seq p (Zl O) ho hc W (λh' j kp e=>fin i z D h' j kp e) ∅
 . let(i,z,pl,D):=I.tuple N;let F:=-z;let(o,ho,hc,n,W):=pl;show call_list_seq p (YY O) ho hc W (λh' j kp e=>fin i z D h' j kp e) ∅
def qr(K:FG)(T:String)(x:V)(H:Hp):Prop:=match x with
 |.str _=>T="str"
 |.int _=>T="int"
 |.ref p=>(T="list"/\∃xs,bY K H p xs)\/(T="tuple"/\∃o,K.lookup p=!o/\o.cls=.type "tuple"/\o.dict=J)\/
  (T="dict"/\((∃aS,H p=!(.dK aS))\/∃aS,H p=!(.dT aS)))\/(T="set"/\∃S n,H p=!(.set S n))
 |_=>False
def Uc{U:St}(I:ai X ae U H s)(r:av x v)(j:qr X.K T x H):
 s.TypeIs v T/\∀a,v=YV a->∃N,s.heap.get? a=!N/\N.dict=J:=by
 cases x with
 |str z=>
  let(t,rfl):=r;cases (j);show#[typeIs_str s z t,λ_ e=>nomatch e]
 |int i=>
  let(t,rfl):=r;cases (j);show#[typeIs_int s i t,λ_ e=>nomatch e]
 |ref p=>
  cases r;obtain⟨rfl,xs,W⟩|⟨rfl,o,hk,hc,F⟩|⟨rfl,hk⟩|⟨rfl,S,n,hk⟩:=j
  . let(bp,_,pl,_):=I.list W;show#[pl.isList.typeIs,λa e=>?_];let(o,n,e,c,F,_):=pl;grind
  . show#[#[o,I.kIn p o hk,hc],λa e=>?_];cases e;show#[o,I.kIn _ o hk,F]
  . have z:∃o,s.heap.get? p=!o/\o.ExactDict:=by
     obtain⟨D,hk⟩|⟨D,hk⟩:=hk
     . let(_,_,_,_,o,_,_,e,ex,_):=I.hok p _ hk;grind
     . let(_,_,_,_,o,_,_,e,ex,_):=I.hok p _ hk;grind
    let(o,e,ex):=z;show#[#[o,e,ex.1],λa q=>?_];cases q;show#[o,e,ex.2.1]
  . let(o,_,_,_,e,ex,_):=I.hok p _ hk;show#[#[o,e,ex.1],λa q=>?_];cases q;show#[o,e,ex.2.1]
 |_=>show False.elim j
def xh(K:FG)(T:String)(r:V->List V->Hp->VK->Prop)(to:TE):TE:=λU H Q=>to U H λx H1=>qr K T x H1/\r x [] H1 Q
def KZ(K:FG)(T:String)(r:V->List V->Hp->VK->Prop)(to:TE)(t:TA):TE:=λU H Q=>to U H λx H1=>qr K T x H1/\t U H1 λxs H2=>r x xs H2 Q
variable {o e:Expr}{es:List Expr}{to:TE}{t:TA}{name:Str}{apos cpos:Pos}{T id:String}{r:V->List V->Hp->VK->Prop}
def IZ(W:PlainAttrs T)(q:Slot T name id)(z:typeOf (.builtin id)=pure (.type "method_descriptor"))(N:PP X id r)(F:PE X o to)
 (j:attributeBase o name X.env (eval o X.env)=eval o X.env:=by rfl) (i:(apos.endLine==cpos.line)=G:=by rfl):PE X (.Call (.Attribute o name apos) [] [] cpos) (xh X.K T r to):=by
 intro ae s U H Q I h;show wpAny_Call_method0_late j i (dg (F ae s U H _ I h) λv D qA=>?_);let(x,H1,I1,r1,ty,q1):=qA;let(h1,h2):=Uc I1 r1 ty;show#[T,id,W,q,z,h1,h2,Calls.callWith_builtin O (PySem.evalArgs_none (N ae D U H1 x [] v [] Q I1 r1 .nil q1))]
def rR(pa:PlainAttrs T)(q:Slot T name id)(F:typeOf (.builtin id)=pure (.type "method_descriptor"))(hm:PP X id r)(ho:PE X o to)(W:PA X (e::es) t)
 (i:attributeBase o name X.env (eval o X.env)=eval o X.env:=by rfl)
 (z:((backTo cpos (starEach (e::es) X.env)).all (λx=>not x.1)&&(backToKw cpos (keywordEach [] X.env)).all (λx=>x.1.isSome)
   && decide (-(e::es)+-([]:List Keyword)+(if ([]:List Keyword).isEmpty then 0 else 1)<30))=G:=by rfl)
 (j:(apos.endLine==cpos.line)=G:=by rfl) (hs:starEach (e::es) X.env=(M,eval e X.env)::starEach es X.env:=by rfl) (D:(backTo cpos (starEach es X.env)).any (·.1)=M:=by rfl):
 PE X (.Call (.Attribute o name apos) (e::es) [] cpos) (KZ X.K T r to t):=by
 intro ae s U H Q I h;show wpAny_Call_method_late i z j O (dg (ho ae s U H _ I h) λv s1 qB=>?_);let(x,H1,I1,r1,ty,q1):=qB;let(h1,h2):=Uc I1 r1 ty;show#[T,id,pa,q,F,h1,h2,?_];let N:=W cpos ae s1 U H1 _ I1 q1;rw[hs]at N ⊢;show Calls.callWith_builtin () (Calls.evalArgs_plain ?_);show dg N λus s2 qE=>by let(vs,H2,I2,r2,q2):=qE;show hm ae s2 U H2 x vs v us Q I2 r1 r2 q2
end
def Ud(X:Cx)(id:String)(r:V->List V->Hp->VK->Prop):Prop:=
 ∀(ae:List (Addr×Obj))(s:Shared)(U:St)(H:Hp)(x:V)(xs:List V)(v:Value)(us:List Value)(Q:VK),ai X ae U H s->av x v->am xs us->r x xs H Q->
  wpAny (model X.prog X.w) X.A (call (.builtin id) (v::us)) (EP X ae U Q) X.xe s
theorem am.one:∀{x:V}{i:List Value},am [x] i->∃u,i=[u]/\av x u
 |_,_,.cons r .nil=>#[_,O,r]
theorem am.two:∀{x y:V}{i:List Value},am [x,y] i->∃u v,i=[u,v]/\av x u/\av y v
 |_,_,_,.cons r (.cons q .nil)=>#[_,_,O,r,q]
theorem am.zero:∀{i:List Value},am [] i->i=[]
 |_,.nil=>rfl
theorem am.dropLast(h:am xs us):am xs.dropLast us.dropLast:=by
 induction h with
 |nil=>show .nil
 |cons r t i=>
  cases t with
  |nil=>grind
  |cons q j=>show .cons r i
theorem am.eraseIdx:∀{xs:List V}{j:List Value}(i:Nat),am xs j->am (xs.eraseIdx i) (j.eraseIdx i)
 |_,_,_,.nil=>.nil
 |_,_,0,.cons _ t=>t
 |_,_,i+1,.cons r t=>.cons r (am.eraseIdx i t)
def R0{α:Type}(l:List α):l.eraseIdx (-l-1)=l.dropLast:=by
 induction l with
 |nil=>rfl
 |cons a r i=>
  cases r with
  |nil=>rfl
  |cons b r=>
   have e:-(a::b::r)-1=(-(b::r)-1)+1:=by have h1:-(a::b::r)=-r+2:=O;lia
   rw[e,eraseIdx_cons_succ,i]
   grind
theorem HW{α:Type}:∀(l:List α)(i:Nat),-(l.eraseIdx i)<=-l
 |[],_=>br _
 |_::_,0=>m_ _
 |_::r,i+1=>Nat.succ_le_succ (HW r i)
section
variable {X:Cx}{ae:List (Addr×Obj)}{U:St}{H:Hp}{s:Shared}{l b:Addr}{xs ys zs:List V}
def ai.lset{j i:List Value}(I:ai X ae U H s)(hH:H l=!(.lst xs))
 (e:s.heap.get? l=some { cls:=.type "list",data:=.seq j.toArray n }) (F:f j.toArray=i.toArray) (W:am ys i) (N:-ys<=sizeLine):
 ai X ae U (aE H l (.lst ys)) { s with heap:=s.heap.update l (Obj.mapSeq f),toks:=t' }:=by
 let q:=PySem.IsL.update e f;rw[F]at q;show I.write (by rw[hH];show trivial) (Zl O) (λb' u hb Q=>(kH s.heap (Obj.mapSeq f) ∅).trans Q) #[_,q] ?_;show#[N,i,_,W,q]
def ai.lnew(I:ai X ae U H s)(F:am ys i)(N:-ys<=sizeLine):
 ai X ae U (aE H s.heap.objs.size (.lst ys)) { s with heap:=s.heap.push { cls:=.type "list",data:=.seq i.toArray },toks:=t' }:=
 I.laid (λ_ _ q=>cE _ q) () #[N,i,0,F,dE _ O]
theorem ai.fresh(I:ai X ae U H s):H s.heap.objs.size=J:=I.hok.fresh ()
def ai.lstM(I:ai X ae U H s)(j:H l=!(.lst xs)):-xs<=sizeLine/\∃(i:List Value)(n:Nat),am xs i/\-xs=-i/\s.heap.get? l=some { cls:=.type "list",data:=.seq i.toArray n }:=by let(z,i,n,r,e):=I.hok l _ j;show#[z,i,n,r,-r,e]
def Wy(h:n<=sizeLine):Builtin.List.listTooLong n=M:=iX ()
end
section
variable {X:Cx}
def GP:V->List V->Hp->VK->Prop:=λx vs H Q=>∃l xs y,x=.ref l/\vs=[y]/\H l=!(.lst xs)/\-xs<sizeLine/\Q .non (aE H l (.lst (xs++[y])))
def oY:Ud X "list.append" GP:=by intro ae s U H x vs v us Q I D N h;let(l,xs,y,rfl,rfl,j,hz,q):=h;cases D;let(u,rfl,W):=N.one;let(z,i,n,r,hl,e):=I.lstM j;show call_meets F.slot_list_append #[_,e,O] F.entry_list_append (F.args_list_append_2 _ _) (PySem.list_append l i.toArray n u ∅) #[e,?_];show#[.non,_,I.lset j e (by simp) (r.append (.cons W .nil)) ?_,O,q];rw[bX,length_singleton];lia
def xi:V->List V->Hp->VK->Prop:=λx vs H Q=>∃l xs y,x=.ref l/\vs=[]/\H l=!(.lst xs)/\xs[-xs-1]?=!y/\Q y (aE H l (.lst xs.dropLast))
def I_:Ud X "list.pop" xi:=by
 intro ae s U H x vs v us Q I rx rv h;let(l,xs,y,rfl,rfl,N,W,q):=h;cases rx;let j:=rv.zero;subst j;let(z,i,n,r,hl,e):=I.lstM N;let(u,hu,ru):=r.get W;have D:i.toArray[i.toArray.size-1]?=!u:=by show i.toArray[-i-1]?=!u;rw[<-Array.getElem?_toList,<-hl];show hu
 show call_meets F.slot_list_pop #[_,e,O] F.entry_list_pop (F.args_list_pop_1 _) (MeetsSeq.list_pop_last l i.toArray n u D ∅) #[e,?_];show#[y,_,I.lset N e ?_ r.dropLast ?_,ru,q]
 . grind
 . rw[length_dropLast];lia
def Ue:V->List V->Hp->VK->Prop:=λx vs H Q=>∃l xs i k y,x=.ref l/\vs=[.int i]/\H l=!(.lst xs)/\(Neg.neg (2 ^ 63))<=i/\i<2 ^ 63/\seqIndex? i (-xs)=!k/\xs[k]?=!y/\Q y (aE H l (.lst (xs.eraseIdx k)))
def Wz:Ud X "list.pop" Ue:=by
 intro ae s U H x vs v us Q I rx rv h;let(l,xs,i,k,y,rfl,rfl,N,h1,h2,hk,W,q):=h;cases rx;let(u,rfl,ru):=rv.one;let(t,rfl):=ru;let(z,D,n,r,hl,e):=I.lstM N;let(w,hw,j):=r.get W;show call_meets F.slot_list_pop #[_,e,O] F.entry_list_pop (F.args_list_pop_2 _ _)
  (MeetsSeq.list_pop_at l D.toArray n i t k w (fitsIndex_both h1 h2) ∅ ∅ ∅) #[e,?_]
 show#[y,_,I.lset N e ?_ (r.eraseIdx k) ?_,j,q]
 . grind
 . have:=HW xs k;lia
end
end L2
namespace xl
open PySem PySem.W PySem.Calls PyProof.Rows
def Es:∀(ns:List Int)(vs:List Value),WellAll P h vs (ns.map WData.int)->IntsAre vs ns:=by
 intro ns;induction ns with
 |nil=>
  intro vs w;cases w;show .nil
 |cons n ns i=>
  intro vs w;cases w with
  |cons a b=>
   cases a;show .cons _ _ (i _ b)
def Ug{l:OpenLaw}(hn:l.most=!n)
 (j:l.row.toRowW.claim.pre args=G) (N:WellAll P h vals args):
 ∃a vs ns,vals=[Value.ref a]/\args=[WData.list (ns.map WData.int)]/\h.get? a=some { cls:=.type "list",data:=.seq vs.toArray }/\IntsAre vs ns/\ -ns<=n:=by
 let Q:=(pre_splitW j).1;let(d,r,rfl,h1,h2):=hasAllW_cons Q;obtain rfl:=hasAllW_nil h2;let(xs,rfl,h3):=hasW_list h1;let(ns,rfl):=items_int h3;have z:-ns<=n:=by
  have F:(WTm.not (.lt (.lit (.int (n:Int))) (.len (.arg 0)))).holds [] { args:=[.list (ns.map .int)] }=G:=by let F:=(holds_andW ((pre_splitW j).2)).1;rw[hn]at F;show F
  let W:=condW_of F (w_not (w_lt w_lit (w_len_list (w_arg O))))
  first
   |(rw[i5 q']at W;show absurd W ())
   |(simp at W;lia)
 cases N with
 |cons w1 w2=>
  cases w2;cases w1 with
  |list ho D=>show#[_,_,ns,O,O,ho,Es ns _ D,z]
def Uh(l:OpenLaw)(i:List WData):l.row.toRowW.claim.post i (.bool G) i=G:=
 postW_of
  (show WShape.has [] (.bool G) .bool=G by first |rfl |decide |simp[WShape.arms])
  (w_eq_bool (w_res O) w_lit) O
def attach_call{l:OpenLaw}
 (hn:l.most=!n) (qS:d.params.defaults=[])
 (call:∀(w:World)(s₀ i:Shared)(mg mb:Str->Option Value)(fa:Addr)(o:Obj)(pm Q j:Value)(a:Addr)(vs:List Value)(ns:List Int),
   Ground q loose [] XP w s₀ mg mb i.heap->YP w i.heap->
   i.heap.get? fa=!o->o.data=.func (docDef d.name d.params d.body d.scope pm Q j)->i.heap.CodeRec Q d.name->mg d.name=!(YV fa)->
   i.heap.get? a=some { cls:=.type "list",data:=.seq vs.toArray }->IntsAre vs ns->-ns<=n->i.gens=#[]->
   codeAny (model l.prog w) callerA (.call (YV fa) #[[YV a],[]]) (λr s'=>r=.ok (.ret (.bool G))/\OldK i.heap s'.heap/\s'.os=i.os/\AllBare s'.gens) i):
 WalkO q loose XP YP l.row.toRowW d [] (λf vs=>PySem.call f vs):=by
 intro w s₀ i mg mb ZT Y_ fa o pm Q j dV kV ho hd nN hD W hg args vals as F hlay hrd Jn hlo;obtain rfl:dV=.none:=Dflts.none hD qS;obtain rfl:kV=.none:=Dflts.noKw hD;let(a,vs,ns,rfl,rfl,N,z,D):=Ug hn F Jn;show enter_call (codeAny_mono (call w s₀ i mg mb fa o pm Q j a vs ns ZT Y_ ho (fd_plain hd) nN W N z D hg) λr s' hq=>?_);let(rfl,h2,h3,h4):=hq;show#[Zl #[.bool G,.bool G,[],O,λ_=>O,.bool G,Uh l _,λ_=>#[Pairwise.nil,λ_ hm=>(nomatch hm)]],h2,h3,h4]
end xl
namespace L2
open PySem PySem.Spec PyProof.Rows
variable {ae:List (Addr×Obj)}{E:Value->Shared->Prop}{s:Shared}{A:Around}{w:World}{P:Program}
theorem HX:∀{vs:List Value}{ns:List Int},IntsAre vs ns->am (ns.map V.int) vs
 |_,_,.nil=>.nil
 |_,_,.cons n t h=>.cons #[t,O] (HX h)
def j6(H:Hp):Prop:=∀b,H b=J\/∃o xs,H b=!(.frz o (.lst xs))
def WD{K:FG}
 (KX:K.In i.heap) (kT:i.heap.Ns mainGlobals mg) (D:i.heap.Ns builtinsNs mb) (JA:∀x:Str,x ≠ "__name__"->mb x=bootBuiltins x) (hlim:i.heap.NoLimit) (hg:i.gens=#[])
 (ha:i.heap.get? a=some { cls:=.type "list",data:=.seq vs.toArray }) (hi:IntsAre vs ns) (hl:-ns<=sizeLine) (hr:qM k callerA)
 (F:∀base:Heap,K.In base->base.Ns mainGlobals mg->oK P w K mg base CX k fa fd [x] sp) (W:∀(s:Shared)(u:Value),BindsTo s fd #[[u],[]] [(x,u)])
 (kS:∀H:Hp,j6 H->bY K H a (ns.map V.int)->sp [.ref a] H (λv _=>v=.bl G) λ_ _ _=>False)
 (JE:∀H e s',CX [] H i (λ_ _ _=>False) e s'->False):
 codeAny (model P w) callerA (.call (YV fa) #[[YV a],[]]) (λr s'=>r=.ok (.ret (.bool G))/\OldK i.heap s'.heap/\s'.os=i.os/\AllBare s'.gens) i:=by
 let rv:=HX hi;let lenV:=-hi;have Q:∀H:Hp,j6 H->bY K H a (ns.map V.int)->jm P w H i.heap->(∀b,H b≠J->b=a)->(H a≠J->K.lookup a=J)->
  codeAny (model P w) callerA (.call (YV fa) #[[YV a],[]]) (λr s'=>r=.ok (.ret (.bool G))/\OldK i.heap s'.heap/\s'.os=i.os/\AllBare s'.gens) i:=by
  intro H hO hS hok hA hK;have j:∀{b:Addr}{o:Obj},i.heap.get? b=!o->H b=J->(xT i.heap H).get? b=!o:=λe n=>Wf e n;have JI:∀{b:Addr}{o:Obj}{es:Array DictEntry}{ep:Nat},i.heap.get? b=!o->o.data=.dict es ep->H b=J:=λ{b o es ep} e d=>by
   cases q:H b with
   |none=>rfl
   |some u=>
    grind
  have N:∀{b:Addr}{m:Str->Option Value},i.heap.Ns b m->(xT i.heap H).Ns b m:=λ{b m} ⟨o,es,ep,e,d,r⟩=>#[o,es,ep,j e (JI e d),d,r];let xo:=λb o e=>j (KX b o e) (by
   cases q:H b with
   |none=>rfl
   |some u=>
    let e':=hA b ();subst e';rw[hK ()]at e;cases e)
  have e0:Dk P w K mg (xT i.heap H) callerA [] i H:=#[O,#[xo,N kT,#[mb,N D,JA],let #[mc,h1,h2]:=hlim;#[mc,N h1,h2]],λb o e=>ZC e,Nat.le_of_eq (Tu _ _),trivial,λb D=>absurd (show b∈([]:List Addr) from D) (by simp),hok,.of_eq hg];show codeAny_mono ((F _ xo (N kT)).run callerA [] i H #[[YV a],[]] [YV a] [.ref a] _ _ hr e0 (W i (YV a)) (.cons O .nil) (kS H hO hS)) λr s' h=>?_;cases r with
  |error e=>show(JE H e s' h).elim
  |ok fl=>
   cases fl with
   |next=>show False.elim h
   |brk=>show False.elim h
   |cont=>show False.elim h
   |ret u=>
    let(v,H',os,bare,un,hok',r',q):=h;subst q;obtain rfl:u=Value.bool G:=r';show#[O,OldK.of_keep λb o e=>?_,os,bare];cases q:H b with
    |none=>show un.keep b o e q (by intro z;show absurd (show b∈([]:List Addr) from z) (by simp)) (by simp)
    |some u=>
     obtain z|⟨ob,xs,z⟩:=hO b
     . grind
     . let z2:=un.frzs b ob _ z;let(e1,_):=hok b _ z;let(e2,_):=hok' b _ z2;rw[e]at e1;cases e1;show e2
 cases hk:K.lookup a with
 |some o=>
  let e:=KX a o hk;rw[ha]at e;cases e;show Q (λ_=>J) (λ_=>Zl O) (YY #[_,vs.toArray,_,hk,O,O,O,by rw[eP,lenV];show hl,by simpa using rv]) (λb u z=>by let z':=z;cases z') (λb z=>absurd O z) λz=>absurd O z
 |none=>
  show Q (λb=>if b=a then !(.frz { cls:=.type "list",data:=.seq vs.toArray } (.lst (ns.map V.int))) else J) (λb=>?_) (Zl (YY #[{ cls:=.type "list",data:=.seq vs.toArray },aw O])) (λb u z=>?_) (λb z=>?_) λ_=>hk
  . by_cases D:b=a
    . show YY #[_,_,aw D]
    . show Zl (ay D)
  . by_cases D:b=a
    . let z':=(aw D).symm.trans z;cases z';subst D;show#[ha,by rw[bo];show hl,vs,_,rv,ha]
    . let z':=(ay D).symm.trans z;cases z'
  . by_cases D:b=a
    . show D
    . show absurd (ay D) z
def walk_of{l:W.OpenLaw}{K:Params->FG}{CX:World->yV}{sp:World->Sp}
 (hn:l.most=!n) (nS:n<=sizeLine) (qS:d.params.defaults=[]) (hr:qM k callerA)
 (N:∀(w:World)(h:Heap),YP w h->(K w.params).In h)
 (F:∀(w:World)(mg:Str->Option Value)(fa:Addr)(h:Heap),(K w.params).In h->h.Ns mainGlobals mg->mg d.name=!(YV fa)->
   ∃fd:FuncData,(∀(s:Shared)(u:Value),BindsTo s fd #[[u],[]] [(x,u)])/\
    ∀base:Heap,(K w.params).In base->base.Ns mainGlobals mg->oK l.prog w (K w.params) mg base (CX w) k fa fd [x] (sp w))
 (kS:∀(w:World)(H:Hp)(a:Addr)(ns:List Int),-ns<=n->j6 H->bY (K w.params) H a (ns.map V.int)->sp w [.ref a] H (λv _=>v=.bl G) λ_ _ _=>False)
 (D:∀(w:World)(H:Hp)(s:Shared)(e:Value)(s':Shared),CX w [] H s (λ_ _ _=>False) e s'->False):
 W.WalkO q loose XP YP l.row.toRowW d [] (λf vs=>PySem.call f vs):=by
 show xl.attach_call hn qS λw s₀ s₁ mg mb fa o pm cd i6 a vs ns ZT Y_ ho hd nN Q z i j hg=>?_;let KX:=N w _ Y_;let(fd,hb,hF):=F w mg fa _ KX ZT.T.g Q;show WD KX ZT.T.g ZT.T.b ZT.T.builtins ZT.T.nolimit hg z i () hr hF hb (λH hO hS=>kS w H a ns j hO hS) λH e s'=>D w H s₁ e s'
def b_(s:Stmt)(j:Nat):Stmt:=match s with
 |.ClassDef _ _ _ body _ _ _ _ _ _ _=>body.getD j (.Pass #[0,0,0,0])
 |_=>.Pass #[0,0,0,0]
def qO(s:Stmt):Arguments:=match s with
 |.FunctionDef _ a _ _ _ _ _ _ _ _=>a
 |_=>{ posonlyargs:=[],args:=[],vararg:=J,kwonlyargs:=[],kw_defaults:=[],kwarg:=J,defaults:=[] }
def jC(s:Stmt):List Stmt:=match s with
 |.FunctionDef _ _ b _ _ _ _ _ _ _=>b
 |_=>[]
def aG(s:Stmt):Scope:=match s with
 |.FunctionDef _ _ _ _ _ _ sc _ _ _=>sc
 |_=>{ kind:=.function,names:=[],isGenerator:=M,isCoroutine:=M }
abbrev qD:yV:=λ_ _ _ _ _ _=>False
abbrev E0:XK:=λ_ _ _=>False
def J6:zM qD X E0:=λ_ _ _ _ _ _ _ h=>h.elim
structure vD(K:FG)(x qual:Str)(st:Stmt)(f:Addr)(fd:FuncData):Prop where
 ex:∃(oc:Value)(od:Option Addr)(kV i6 pm:Value)(an:Option Addr)(fA ct:Value)(kR:Array (Option Value)),
  fd=W.fnOf x qual (qO st) (jC st) (aG st) .none kV i6 pm an fA ct/\K.lookup f=!#[oc,od,.func fd,kR]/\W.codeIn K fA qual=true
 kp:W.keepIn K (.ref f)=true
section
variable {P:Program}{w:World}{K:FG}{mg:Str->Option Value}{base:Heap}
def vD.ok{st:Stmt}(F:vD K x qual st f fd)(S:bz N ps (aG st))(len:∀vs H Q E,sp vs H Q E->-vs=-ps)
 (z:∀(j:Value)(A:Around)(i:List Env)(s:Shared)(H:Hp)(vs:List V)(Q:VK)(E:XK),gn b k (A.deeper (envOfC qual (aG st) s.heap.objs.size f j))->sp vs H Q E->
   ∃t,jP (vC b qD P w K mg base N qual (aG st) f j A i s H E).nox (jC st) t/\t { nx:=λ_ H'=>Q .non H',rt:=Q } (start N vs) H):t6 b P w K mg base qD (k+1) f fd ps sp:=by
 let(oc,od,kV,i6,pm,an,j,ct,kR,rfl,lk,D):=F.ex;show II lk D S len λA i s H vs Q E hr W=>?_;let(t,h,q):=z j A i s H vs Q E hr W;show#[t,h.nox,q]
def vD.binds{st:Stmt}(F:vD K x qual st f fd)
 (h:∀(kV i z:Value)(N:Option Addr)(j D:Value)(q:List Value),-q=-ps->bindArgs (W.fnOf x qual (qO st) (jC st) (aG st) .none kV i z N j D) #[q,[]]=pure (ps.zip q)):c0 K fd ps []:=by
 let(oc,od,kV,i,z,N,j,D,kR,rfl,lk,Q):=F.ex;show .all ∅
def zQ{st:Stmt}{kV j z i q:Value}(l:K.lookup f=!#[oc,od,.func (W.fnOf x qual (qO st) (jC st) (aG st) .none kV j z an i q),kR])
 (c:W.codeIn K i qual=G) (k:W.keepIn K (YV f)=G):vD K x qual st f (W.fnOf x qual (qO st) (jC st) (aG st) .none kV j z an i q):=#[#[oc,od,kV,j,z,an,i,q,kR,O,l,c],k]
end
def Bj(i:gn b k A):A.units+1<cLine:=kP () i.units
section
variable {X:Cx}
def pv(i:Nat){pos:Pos}(D:X.N[i]?=!x:=by rfl)(q:Tv X.env.scope x:=by first |show Or.inl O |show Or.inr (Or.inl O) |show Or.inr (Or.inr O))(z:(x==("__debug__" : Str))=M:=by decide)
 (j:(x==("__classdict__" : Str))=M:=by decide):PE X (.Name x pos) (uH i):=FO D q z j
end
def eY_(H H':Hp):Prop:=∀b o,H b=!o->H' b=!o
def eY_.refl(H:Hp):eY_ H H:=λ_ _ h=>h
def eY_.trans(a:eY_ H H1)(b:eY_ H1 H2):eY_ H H2:=λc o h=>b c o (a c o h)
def eY_.free(e:eY_ H H')(h:H' l=Option.none):H l=Option.none:=by
 cases q:H l with
 |none=>rfl
 |some o=>
  rw[e l o q]at h;cases h
def eY_.seq{K:FG}(e:eY_ H H')(h:bY K H a xs):bY K H' a xs:=by
 obtain (h|⟨o,h⟩)|h:=h
 . show Zl (Zl (e _ _ h))
 . show Zl (YY #[o,e _ _ h])
 . show YY h
section
variable {κ:Type}[DecidableEq κ]
noncomputable def qP (aS:List (κ×V)) (k:κ):Option V:=(aS.find? λkv=>decide (kv.1=k)).map (·.2)
noncomputable def dy (aS:List (κ×V)) (k:κ) (v:V):List (κ×V):=
 if (aS.any λkv=>decide (kv.1=k))=G then aS.map (λkv=>if kv.1=k then (kv.1,v) else kv) else aS++[(k,v)]
def xW{k:κ}(e:p.1=k):qP (p::r) k=!p.2:=by simp[qP,e]
def xX{k:κ}(e:¬ p.1=k):qP (p::r) k=qP r k:=by simp[qP,e]
theorem xY(k:κ):∀i:List (κ×V),(i.any λj=>decide (j.1=k))=(qP i k).isSome
 |[]=>rfl
 |p::r=>by
  rw[oQ];by_cases e:p.1=k
  . simp only[xW e,i5 e,Bool.true_or,Option.isSome_some]
  . rw[xX e,iX e,Bool.false_or];show xY k r
def CQ(i:List (κ×V))(k:κ)(v:V):-(dy i k v)<=-i+1:=by
 unfold dy;split
 . grind
 . grind
def WF{k:κ}(v:V)(h:qP aS k=J):dy aS k v=aS++[(k,v)]:=by unfold dy;rw[xY,h];grind
def nH.isSome_eq(r:nH o u):o.isSome=u.isSome:=by
 cases o with
 |none=>cases u with
  |none=>rfl
  |some _=>show(r).elim
 |some _=>cases u with
  |none=>show(r).elim
  |some _=>rfl
def KV.val(r:KV aS vs)(k:κ):nH (qP aS k) (valueAt vs k):=by
 induction r with
 |nil=>show True.intro
 | @cons p q ps j h t D=>
  let(h1,h2):=h;by_cases e:p.1=k
  . let i:=h1.symm.trans e;have b:valueAt (q::j) k=!q.2:=by simp[valueAt,i]
    rw[xW e,b];show h2
  . have i:¬ q.1=k:=λz=>e ∅;have b:valueAt (q::j) k=valueAt j k:=by simp[valueAt,i]
    rw[xX e,b];grind
theorem KV.any(r:KV aS vs)(k:κ):(aS.any λi=>decide (i.1=k))=vs.any λi=>decide (i.1=k):=by
 induction r with
 |nil=>rfl
 |cons h t j=>grind
def KV.repl(r:KV aS vs)(k:κ)(z:av y u):
 KV (aS.map λi=>if i.1=k then (i.1,y) else i) (vs.map λi=>if i.1=k then (i.1,u) else i):=by
 induction r with
 |nil=>show .nil
 | @cons p q ps D h t j=>
  show .cons ?_ j;by_cases e:p.1=k
  . grind
  . grind
def KV.put(r:KV aS vs)(k:κ)(i:av y u):KV (dy aS k y) (stored vs k u):=by
 unfold dy stored;rw[r.any k];by_cases e:(vs.any λj=>decide (j.1=k))=G
 . rw[aw e,aw e];show r.repl k i
 . rw[ay e,ay e];show Paired.snoc r #[O,i]
theorem KV.length{vs:List (κ×Value)}(r:KV aS vs):-aS=-vs:=Paired.length r
end
def J7(r:av (kV k) u):(fW P w).is k u=G:=by
 cases k with
 |inl i=>let(t,e):=(r);subst e;show Oo P w i t
 |inr x=>let(t,e):=(r);subst e;show Oq P w x t
theorem HY:∀{ks:List c8}{i:List Value},am (ks.map kV) i->ItemsAre (fW P w) ks i
 |[],_=>λr=>by  cases r;show .nil
 |k::ks,_=>λr=>by
  cases r with
  |cons h t=>show .cons (J7 h) (HY t)
abbrev KT(H:Hp):List (List c8×V)->List (List c8×Addr×Value)->Prop:=Paired λp q=>p.1=q.1/\H q.2.1=!(.tup (p.1.map kV))/\av p.2 q.2.2
def KT.val(r:KT H aS xs)(k:List c8):nH (qP aS k) ((atKey xs k).map (·.2)):=by
 induction r with
 |nil=>show True.intro
 | @cons p q ps j h t D=>
  let(h1,_,h2):=h;by_cases e:p.1=k
  . let i:=h1.symm.trans e;have b:atKey (q::j) k=!q.2:=by simp[atKey,i]
    rw[xW e,b];show h2
  . have i:¬ q.1=k:=λz=>e ∅;have b:atKey (q::j) k=atKey j k:=by simp[atKey,i]
    rw[xX e,b];grind
def KT.repl(r:KT H aS xs)(k:List c8)(D:av y u):
 KT H (aS.map λi=>if i.1=k then (i.1,y) else i) (xs.map (putAt k u)):=by
 induction r with
 |nil=>show .nil
 | @cons p q ps F h t j=>
  show .cons ?_ j;unfold putAt;by_cases e:p.1=k
  . grind
  . grind
def KT.put(r:KT H aS xs)(k:List c8)(z:H b=!(.tup (k.map kV)))(i:av y u):
 KT H (dy aS k y) (storedH xs k b u):=by
 have e:(aS.any λj=>decide (j.1=k))=(atKey xs k).isSome:=by rw[xY,(r.val k).isSome_eq,Option.isSome_map]
 unfold dy storedH;rw[e];by_cases q:(atKey xs k).isSome=G
 . rw[aw q,aw q];show r.repl k i
 . rw[ay q,ay q];show Paired.snoc r #[O,z,i]
def KT.keeps(r:KT H aS xs)(i:∀b ys,H b=!(.tup ys)->H' b=!(.tup ys)):KT H' aS xs:=
 Paired.mapP r λ_ _ z=>#[z.1,i _ _ z.2.1,z.2.2]
section
variable {P:Program}{w:World}{H:Hp}{h:Heap}{a:Addr}
def Y5(ok:jm P w H h)(e:Rd H a u):fG P w H h a u:=e.ok ok
def R1(ok:jm P w H h)(e:Rd H a (.dK aS)):-aS<=sizeLine/\(a==sysModules)=M/\∃vs,KV aS vs/\h.DictOf (fW P w) a vs:=
 show fG P w H h a (.dK aS) from Y5 ok e
def JJ(ok:jm P w H h)(e:H a=!(.dK aS)):-aS<=sizeLine/\(a==sysModules)=M/\∃vs,KV aS vs/\h.DictOf (fW P w) a vs:=R1 ok (Zl e)
def K1(ok:jm P w H h)(e:H a=!(.tup (ks.map kV))):(tupleKind (fW P w)).is h ks a:=by let(_,i,r,o,h1,h2,n,j):=(ok a _ e);show#[o,i.toArray,n,h1,h2,j,by simpa using HY r]
def R3(ok:jm P w H h)(e:Rd H a (.dT aS)):-aS<=sizeLine/\(a==sysModules)=M/\
 ∃xs,KT H aS xs/\h.DictOfH (tupleKind (fW P w)) a xs:=by
 let(z,y,xs,r,o,es,D,h1,h2,j,N,F):=(Y5 ok e);show#[z,y,xs,r,o,es,D,h1,h2,j,N,λx i=>?_,F];have all:∀{l:List (List c8×V)}{m:List (List c8×Addr×Value)},KT H l m->∀x∈m,(tupleKind (fW P w)).is h x.1 x.2.1:=by
  intro l m q;induction q with
  |nil=>grind
  | @cons p q ps W Q t ih=>
   intro x i;obtain e|i:=a_.mp i
   . show K1 ok ∅
   . grind
 grind
def JO(ok:jm P w H h)(e:H a=!(.dT aS)):-aS<=sizeLine/\(a==sysModules)=M/\
 ∃xs,KT H aS xs/\h.DictOfH (tupleKind (fW P w)) a xs:=R3 ok (Zl e)
end
def WK(H:Hp)(a:Addr)(y:V)(r:Option V):Prop:=
 (∃aS k,Rd H a (.dK aS)/\y=kV k/\r=qP aS k)\/∃aS k b,Rd H a (.dT aS)/\y=.ref b/\H b=!(.tup (k.map kV))/\r=qP aS k
def xp(H:Hp)(a:Addr)(y v:V)(H':Hp):Prop:=
 (∃aS k,H a=!(.dK aS)/\y=kV k/\-aS<sizeLine/\H'=aE H a (.dK (dy aS k v)))\/
 ∃aS k b,H a=!(.dT aS)/\y=.ref b/\H b=!(.tup (k.map kV))/\-aS<sizeLine/\H'=aE H a (.dT (dy aS k v))
section
variable {X:Cx}{ae:List (Addr×Obj)}{U:St}{H:Hp}{s:Shared}{a:Addr}{y v:V}{u r:Value}{o:Option V}{A:Around}{E:Value->Shared->Prop}
def ai.big(I:ai X ae U H s):sysModules< ~~~s.heap.objs:=by let h:=(I.mod.glob.keeps I.bk).lt;show Nat.lt_trans () h
def Ui(hu:A.units+1<cLine)(I:ai X ae U H s)(g:WK H a y (!v))(ry:av y u)(h:∀q s',ai X ae U H s'->av v q->Q q s'):
 wpAny (model X.prog X.w) A (getItem (YV a) u) Q E s:=by
 obtain⟨W,k,e,N,l⟩|⟨W,k,b,e,N,eb,l⟩:=g
 . subst N;let(z,hd,vs,j,D):=R1 I.hok e;let(q,hw,i):=nH.some_of (by rw[l];show j.val k);show wpAny_getItem_of (J7 ry) D.mapOf hw (h q _ (I.tok _) i)
 . subst N;cases (ry);let(z,hd,xs,j,D):=R3 I.hok e;let(q,hw,i):=nH.some_of (by rw[l];show j.val k);let(p,hp,F):=Option.map_eq_some_iff.mp hw;show wpAny_getItem_heap (tupleKind_room_in1 hu) (K1 I.hok eb) D hp ?_;rw[F];show h q _ (I.tok _) i
def GQ(I:ai X ae U H s)(mu:Tt (H a))(hs:Heap.SameBut a s.heap h')(he:∃q,h'.get? a=!q)(new:fG X.prog X.w (aE H a ob) h' a ob):
 ai X ae U (aE H a ob) { s with heap:=h',toks:=t' }:=
 I.write mu (Zl O) (λb q D z=>(hs.2 b D).trans z) he new
def JU(z:-aS<=sizeLine)(j:(a==sysModules)=M)(i:KV aS vs)(q:h'.DictOf (fW P w) a vs):
 fG P w H' h' a (.dK aS):=#[z,j,vs,i,q]
def Uj(hu:A.units+1<cLine)(I:ai X ae U H s)(g:xp H a y v H')(ry:av y u)(rv:av v r)(h:∀s',ai X ae U H' s'->Q ⟨⟩ s'):
 wpAny (model X.prog X.w) A (setItem (YV a) u r) Q E s:=by
 obtain⟨j,k,e,ey,l,W⟩|⟨j,k,b,e,ey,eb,l,W⟩:=g
 . subst ey W;let(z,hd,vs,i,N):=JJ I.hok e;have hz:-vs<=sizeLine:=by rw[<-(-i)];show z
   have hl:-(dy j k v)<=sizeLine:=by have:=CQ j k v;lia
   show wpAny_setItem_pairs (J7 ry) N λh' D hs=>h _ ?_;have he:∃q,h'.get? a=!q:=let #[q,_,_,F,_]:=D;#[q,F];show GQ I (by rw[e];show True.intro) hs he (JU hl hd (i.put k rv) D)
 . subst ey W;cases (ry);let(z,hd,xs,i,N):=JO I.hok e;have hz:-xs<=sizeLine:=by rw[<-Paired.length i];show z
   have hl:-(dy j k v)<=sizeLine:=by have:=CQ j k v;lia
   show wpAny_setItem_heap (tupleKind_room_in1 hu) (K1 I.hok eb) N λh' D hs=>h _ ?_;let(q,es,ep,F,h2,h3,h4,_,h5):=D;show GQ I (by rw[e];show True.intro) hs #[q,F] #[hl,hd,_,(i.put k eb rv).keeps λc ys ec=>?_,q,es,ep,F,h2,h3,h4,h5];rw[cV ∅];show ec
end
def Ot{U:St}(I:ai X ae U H s)(g:WK H a y o):s.TypeIs (YV a) "dict":=by
 obtain⟨i,k,e,_⟩|⟨i,k,b,e,_⟩:=g
 . let(_,_,q,_,j):=R1 I.hok e;show j.typeIs
 . let(_,_,xs,_,j):=R3 I.hok e;show j.typeIs
def WL(h:Heap)(i:sysModules< ~~~h.objs):fG P w H (h.push { cls:=.type "dict",data:=.dict #[] }) h.objs.size (.dK []):=
 #[d6 _,nE.mpr ∅,[],.nil,Heap.DictOf.new h]
def JY:TE:=λ_ H Q=>∀p,H p=J->Q (.ref p) (aE H p (.dK []))
section
variable {X:Cx}{pos:Pos}
def WM:PE X (.Dict [] [] pos) JY:=λae s U H Q I h=>
 wpAny_Dict_empty #[.ref s.heap.objs.size,_,I.laid (λ_ _ q=>cE _ q) () (WL s.heap I.big),O,h _ (I.hok.fresh ())]
end
noncomputable def vG (names:List (Str×NameKind)) (env:Env):List (Str×Addr):=names.foldl (λcs p=>if (p.2==NameKind.free)=G then (p.1,(env.cells.lookup p.1).getD 0)::cs else cs) []
theorem zR{env:Env}:∀(i:List (Str×NameKind))(cs:List (Str×Addr))(x:Str)(c:Addr),
 (∀y d,cs.lookup y=!d->d=(env.cells.lookup y).getD 0)->
 (i.foldl (λcs p=>if (p.2==NameKind.free)=G then (p.1,(env.cells.lookup p.1).getD 0)::cs else cs) cs).lookup x=!c->c=(env.cells.lookup x).getD 0
 |[]=>λcs x c h e=>h x c e
 |(n,k)::r=>λcs x c h e=>by
  simp only[iS]at e;show zR r _ x c ?_ e;intro y d q;split at q
  . simp only[gX]at q;split at q
    . rename_i z
      grind
    . grind
  . grind
theorem Et{env:Env}:∀(i:List (Str×NameKind))(cs:List (Str×Addr))(x:Str)(c:Addr),
 (i.foldl (λcs p=>if (p.2==NameKind.free)=G then (p.1,(env.cells.lookup p.1).getD 0)::cs else cs) cs).lookup x=!c->(∃d,cs.lookup x=!d)\/(x,NameKind.free)∈i
 |[]=>λcs x c e=>Zl #[c,e]
 |(n,k)::r=>λcs x c e=>by
  simp only[iS]at e;obtain⟨d,q⟩|q:=Et r _ x c e
  . split at q
    . rename_i hk;simp only[gX]at q;split at q
      . rename_i z
        have D:k=NameKind.free:=by simpa using hk
        grind
      . grind
    . grind
  . grind
theorem zU{env:Env}:∀(i:List (Str×NameKind))(cs:List (Str×Addr))(x:Str),
 ((∃d,cs.lookup x=!d)\/(x,NameKind.free)∈i)->∃c,(i.foldl (λcs p=>if (p.2==NameKind.free)=G then (p.1,(env.cells.lookup p.1).getD 0)::cs else cs) cs).lookup x=!c
 |[]=>λcs x h=>by
  obtain h|h:=h
  . show h
  . cases h
 |(n,k)::r=>λcs x h=>by
  simp only[iS];show zU r _ x ?_;obtain⟨d,h⟩|h:=h
  . left;split
    . simp only[gX];split
      . grind
      . grind
    . grind
  . obtain e|h:=a_.mp h
    . grind
    . grind
theorem tH:∀(i:List (Str×NameKind))(cs:List (Str×Addr)),(∀p∈i,p.2=NameKind.free->∃c,env.cells.lookup p.1=!c)->
 (forIn i cs λp r=>if (p.2==NameKind.free)=G then do let a <-cellOf env p.1;pure (ForInStep.yield ((p.1,a)::r)) else pure (ForInStep.yield r):Sem (List (Str×Addr)))=
  pure (i.foldl (λcs p=>if (p.2==NameKind.free)=G then (p.1,(env.cells.lookup p.1).getD 0)::cs else cs) cs)
 |[]=>λcs _=>by simp
 |(n,k)::r=>λcs h=>by
  rw[forIn_cons,iS];by_cases hk:(k==NameKind.free)=G
  . let(c,z):=h (n,k) be ∅;let q:=z;simp only[hk,cellOf,q];show tH r _ λp j=>h p (cw _ j)
  . simp only[hk];show tH r _ λp j=>h p (cw _ j)
def yW(h:∀p∈sc.names,p.2=NameKind.free->∃c,env.cells.lookup p.1=!c):closureFor sc env=pure (vG sc.names env):=by have:=tH sc.names [] h;unfold closureFor vG;grind
theorem qQ{env:Env}:∀(i:List (Str×NameKind))(x:Str),
 (i.map λ(n,k)=>if (k==NameKind.free&&env.scope.kind==.function&&env.kindOf n==!.cell) then (n,NameKind.cell) else (n,k)).lookup x=
  (i.lookup x).map λk=>if (k==NameKind.free&&env.scope.kind==.function&&env.kindOf x==!.cell) then NameKind.cell else k
 |[]=>λx=>rfl
 |(n,k)::r=>λx=>by
  let j:=qQ (env:=env) r x;by_cases q:x=n
  . grind
  . grind
theorem jK:∀(i:List (Str×NameKind))(n:Nat)(acc:List (Str×Addr)),(cellsFrom n i acc).lookup x=!a->n<=a\/acc.lookup x=!a
 |[]=>λ_ _ h=>YY h
 |(y,k)::r=>λn acc h=>by
  unfold cellsFrom at h;split at h
  . obtain q|q:=jK r _ _ h
    . grind
    . rw[gX]at q;split at q
      . grind
      . grind
  . show jK r _ _ h
theorem zV:∀(i:List (Str×NameKind))(n:Nat)(acc:List (Str×Addr)),(∀z b,acc.lookup z=!b->b<n)->(cellsFrom n i acc).lookup x=!a->(cellsFrom n i acc).lookup y=!a->n<=a->x=y
 |[]=>λ_ _ h h1 h2 j=>absurd (h _ _ h1) ∅
 |(z,k)::r=>λn acc h h1 h2 j=>by
  unfold cellsFrom at h1 h2;split at h1
  . rename_i hk;rw[aw hk]at h2;have one:∀{w:Str},(cellsFrom (n+1) r ((z,n)::acc)).lookup w=!a->a=n->w=z:=λ{w} e e'=>by
     obtain q|q:=jK r _ _ e
     . grind
     . rw[gX]at q;split at q
       . grind
       . grind
    by_cases e:a=n
    . grind
    . show zV r (n+1) _ (λw b q=>?_) h1 h2 ∅;rw[gX]at q;split at q
      . grind
      . grind
  . rename_i hk;rw[ay hk]at h2;show zV r n acc h h1 h2 j
theorem zW:∀(i:List (Str×NameKind))(n:Nat)(acc:List (Str×Addr)),i.lookup x=!.cell->(cellsFrom n i acc).lookup x=!a->n<=a
 |[]=>λ_ _ h _=>by cases h
 |(y,k)::r=>λn acc h h1=>by
  rw[gX]at h;unfold cellsFrom at h1;split at h
  . cases h;obtain q|q:=jK r _ _ h1
    . grind
    . grind
  . split at h1
    . show oP (zW r _ _ h h1)
    . show zW r _ _ h h1
theorem zX:∀(i:List (Str×NameKind))(n:Nat)(acc:List (Str×Addr)),(∀p∈i,p.2=.cell->p.1≠x)->(cellsFrom n i acc).lookup x=acc.lookup x
 |[]=>λ_ _ _=>rfl
 |(y,k)::r=>λn acc h=>by
  unfold cellsFrom;split
  . rw[zX r _ _ λp j=>h p (cw _ j),gX,show (x==y)=M from nE.mpr λe=>h _ be ∅ e.symm]
  . show zX r _ _ λp j=>h p (cw _ j)
theorem xZ:∀(i:List (Str×NameKind))(h:Heap)(acc:List (Str×Addr))(x:Str)(a:Addr),(cellsFrom h.objs.size i acc).lookup x=!a-> ~~~h.objs<=a->(∀z b,acc.lookup z=!b->b< ~~~h.objs)->(pushCells h i).IsCell a J
 |[]=>λh acc x a e F j=>absurd (j _ _ e) ∅
 |(y,k)::r=>λh acc x a e F j=>by
  unfold cellsFrom at e;unfold pushCells;split at e
  . rename_i hk;rw[aw hk];let N:=lv h ({ cls:=.type "cell",data:=.cell J }:Obj);by_cases q:a= ~~~h.objs
    . subst q;show#[_,pushCells_keeps r _ _ _ (dE _ O),O]
    . show xZ r _ ((y,~~~h.objs)::acc) x a ∅ ∅ λz b D=>?_;rw[N];rw[gX]at D;split at D
      . grind
      . grind
  . rename_i hk;rw[ay hk];show xZ r h acc x a e F j
abbrev oM(sc:Scope)(C:Addr)(env:Env):List (Str×Addr):=cellsFrom (C+1) sc.names (vG sc.names env)
structure jE(X:Cx)(ZO F:List Str)(bm:List Nat)(sc:Scope):Prop where
 kind:sc.kind=.function
 locs:∀y∈sc.names,y.2=.local->sc.names.lookup y.1=!.local
 cel:∀y∈sc.names,y.2=.cell->sc.names.lookup y.1=!.cell
 own:∀p∈sc.names,p.2=.free->X.env.scope.names.lookup p.1=!.cell\/X.env.scope.names.lookup p.1=!.free
 frs:∀x∈F,sc.names.lookup x=!.free
 ixl:-bm=-F
 ixn:∀(j i:Nat),bm[j]?=!i->X.N[i]?=F[j]?
abbrev zY(m:Nat)(bm:List Nat)(U:St):St:=List.replicate m J++bm.map λi=>(U[i]?).join
def gC(X:Cx)(ZO F:List Str)(sc:Scope)(C:Addr)(fp:List Addr)(s:Shared)(H:Hp):Cx where
 prog:=X.prog
 w:=X.w
 K:=X.K
 mg:=X.mg
 base:=X.base
 A:=X.A
 N:=ZO++F
 s₀:=s
 H0:=H
 env:=compEnvC sc (oM sc C X.env) C X.env
 outer:=X.stack
 stack:=X.stack
 ex:=fp
 fn:=λx=>sc.names.lookup x==!.cell
 calm:=X.calm
 pn:=[]
 xe:=λ_ _=>False
section
variable {X:Cx}{ae:List (Addr×Obj)}{U:St}{H:Hp}{s:Shared}
def jE.free_of(c:jE X ZO F bm sc)(h:sc.names.lookup x=!k):(x,k)∈sc.names:=by
 generalize sc.names=l at h;induction l with
 |nil=>cases h
 |cons p r j=>
  rw[gX]at h;split at h
  . rename_i z
    grind
  . grind
def Dm(I:ai X ae U H s)(c:jE X ZO F bm sc):∀p∈sc.names,p.2=NameKind.free->∃a,X.env.cells.lookup p.1=!a:=λp i e=>
 I.ok.has p.1 (by obtain h|h:=c.own p i e;show Zl h;show YY h)
def je(I:ai X ae U H s)(c:jE X ZO F bm sc)(h:(vG sc.names X.env).lookup x=!a):X.env.cells.lookup x=!a:=by
 let e:=zR sc.names [] x a (λy d q=>by cases q) h;obtain⟨d,q⟩|q:=Et sc.names [] x a h
 . cases q
 . let(b,i):=Dm I c _ q O;grind
def Uk(I:ai X ae U H s)(c:jE X ZO F bm sc)(h:(vG sc.names X.env).lookup x=!a):a< ~~~s.heap.objs:=by let(v,o,i,_):=I.cell x a (je I c h);show bP i
def Z7(I:ai X ae U H s)(c:jE X ZO F bm sc){C:Addr}(N: ~~~s.heap.objs<=C)(Q:∀b∈fp,nJ X ae H b)(ho:∀b∈fp,∃o,s.heap.get? b=!o):(gC X ZO F sc C fp s H).Ok where
 mod:=I.ok.mod
 kind:=c.kind
 glob:=I.ok.glob
 blt:=I.ok.blt
 above:=N
 inj:=λx y a e1 e2=>by
  let j:=e1;let D:=e2;have lt:∀z b,(vG sc.names X.env).lookup z=!b->b<C+1:=λz b q=>gI (eJ (Uk I c q) N);obtain q|q:=jK _ _ _ j
  . show zV _ _ _ lt j D q
  . obtain W|W:=jK _ _ _ D
    . grind
    . show I.ok.inj x y a (je I c q) (je I c W)
 has:=λx h=>by
  have h':((sc.names.lookup x).map λk=>if (k==NameKind.free&&X.env.scope.kind==.function&&X.env.kindOf x==!.cell) then NameKind.cell else k)=!.cell\/((sc.names.lookup x).map λk=>if (k==NameKind.free&&X.env.scope.kind==.function&&X.env.kindOf x==!.cell) then NameKind.cell else k)=!.free:=by rw[<-qQ];show h
  show kN.mp (pb _ _ _ ?_);cases e:sc.names.lookup x with
  |none=>grind
  |some k=>
   let m:=c.free_of e;cases k with
   |free=>show YY (kN.mpr (zU sc.names [] x (YY m)))
   |cell=>grind
   |_=>grind
 cab:=λx a h e=>d4 N (oP (zW _ _ _ (beq_iff_eq.mp h) e))
 hd:=I.ok.hd
 frames:=I.ok.frames
 stk:=Zl O
 exf:=λb i=>#[by
  let(o,e):=ho b i;show de (eJ (bP e) N),λx a e=>by
  let(o,eo):=ho b i;obtain q|q:=jK _ _ _ (e)
  . show g_ (eJ (bP eo) ())
  . show(Q b i).2.2.2.2.1 x a (je I c q)]
 bs:=I.bs
 bsz:=d4 I.ok.bsz I.sz
 noex:=λb o e i=>by
  let(_,_,_,h,_):=Q b i;obtain h|h:=h
  . show I.ok.noex b o e h
  . show absurd (eJ (bP (I.ok.bs b o e).1) h) ()
 exfs:=λb i z=>by
  let(_,h1,h2,_):=Q b i;obtain z|z:=a_.mp (I.stkSub b z)
  . grind
  . grind
 funs:=I.stack
 frf:=I.stkFree
def WN(I:ai X ae U H s)(c:jE X ZO F bm sc)(hf:∀b∈fp,nJ X ae H b)(ho:∀b∈fp,∃o,s.heap.get? b=!o)
 {C:Addr} (hC:C= ~~~s.heap.objs+1) (kT:h₁.Ns C m1) (Q:∀b o,s.heap.get? b=!o->h₁.get? b=!o)
 (hD:h₁.get? s.heap.objs.size=some { cls:=.type "list",data:=.seq #[] 0 }) (qV:∀x a,(oM sc C X.env).lookup x=!a->C+1<=a->h₁.IsCell a J):
 ai (gC X ZO F sc C fp s H) [] (zY (-ZO) bm U) (aE H s.heap.objs.size (.lst [])) { s with heap:=h₁,toks:=tk }:=by
 let kU:=I.hok.fresh (br _);have j: ~~~s.heap.objs<=C:=by rw[hC];show m_ _
 let q_:=I.hok.fresh j;let hok:=Z7 I c j hf ho;show#[hok,O,I.bare,Un.laid Q (br _) kU,#[m1,kT,?_],?_,?_,?_,?_,?_,?_]
 . intro i x v e1 e2 hv;have ma:(ZO++F)[i]?=!x:=e1;by_cases hi:i< -ZO
   . grind
   . rw[eW ()]at ma;rw[eW ∅]at e2;simp only[length_replicate,c5]at e2;cases q:bm[i-(-ZO)]? with
     |none=>grind
     |some i'=>
      rw[q]at e2
      have e3:U[i']?=!(!v):=by
       cases z:U[i']? with
       |none=>grind
       |some y=>grind
      let xF:=eI ma;let W:=c.frs x xF;let hm:=c.free_of W;let hX:=c.own _ hm O;have hN:X.N[i']?=!x:=by rw[c.ixn _ _ q];show ma
      let(m,hn,hl):=I.loc;have J_:Tv X.env.scope x:=by
       obtain h|h:=hX
       . show YY (Zl h)
       . show YY (YY h)
      let(u,r,l):=hl i' x v hN e3 J_;show#[u,r,YY #[?_,?_]]
      . show (Env.kindOf (compEnvC sc (oM sc C X.env) C X.env) x=_)\/(Env.kindOf (compEnvC sc (oM sc C X.env) C X.env) x=_);have:Env.kindOf (compEnvC sc (oM sc C X.env) C X.env) x=(sc.names.lookup x).map λk=>if (k==NameKind.free&&X.env.scope.kind==.function&&X.env.kindOf x==!.cell) then NameKind.cell else k:=qQ sc.names x
        rw[this,W];simp only[ic];split
        . grind
        . grind
      . obtain⟨hk,_⟩|⟨_,cc,l_,hcell⟩:=l
        . obtain h|h:=hX
          . have Kb:X.env.scope.names.lookup x=!.local:=hk;grind
          . have Kb:X.env.scope.names.lookup x=!.local:=hk;grind
        . let(a,ha):=zU sc.names [] x (YY hm);let xt:=je I c ha;rw[l_]at xt;cases xt;let(oc,D,hd):=hcell;show#[cc,(zX _ _ _ λp hp e z=>by have:=c.cel p hp e;rw[z,W]at this;cases this).trans ha,oc,Q _ _ D,hd]
 . intro x a e;let e':=e;obtain q|q:=jK _ _ _ e'
   . show#[J,qV x a e' q]
   . let(v,oc,D,hd):=I.cell x a (je I c q);show#[v,oc,Q _ _ D,hd]
 . rw[cV (by rw[hC];show Nat.succ_ne_self _)];show q_
 . intro x a e;obtain q|q:=jK _ _ _ (e)
   . let q':=kP j q;rw[cV (g_ q')];show I.hok.fresh ()
   . let(v,oc,D,hd):=I.cell x a (je I c q);rw[cV ∅];show I.freeC x a (je I c q)
 . intro p hp;cases hp
 . show I.hok.laid Q () #[d6 _,[],0,.nil,hD]
 . show -(List.replicate ZO.length J++_)=-(ZO++F);simp[c.ixl]
def v5(X:Cx)(fR:List Expr)(t:TT):Prop:=
 ∀(ae:List (Addr×Obj))(s:Shared)(U:St)(H:Hp)(Q:Bool->Hp->Prop),ai X ae U H s->t U H Q->
  wpAny (model X.prog X.w) X.A (forIn fR G λc r=>if r=G then do let ok <-isTrue c X.env (eval c X.env);pure (ForInStep.yield ok) else pure (ForInStep.yield r)) (TP X ae U Q) X.xe s
def WP:v5 X [] (λ_ H Q=>Q G H):=λ_ s U H Q I h=>wpAny_tests_nil #[H,I,h]
def WQ(h:PT X c t):v5 X [c] t:=λae s U H Q I q=>wpAny_tests_one (h ae s U H Q I q)
def R4(wi:TI)(m:Nat)(bm:List Nat)(g:TG)(tc:TT)(te:TE):TE:=λU H Q=>wi U H λZU H1=>∀p,H1 p=J->
 ∃W:Nat->Nat->St->Hp->Prop,(∃n,W 0 n (zY m bm U) (aE H1 p (.lst [])))/\∀i n U' H',W i n U' H'->
  ((ZU.stop i H'/\Q (.ref p) H')\/(ZU.go i H'/\∀x H2,ZU.yld i H' x H2->g x U' H2 λU3 H3=>tc U3 H3 λb H4=>
    if b=G then te U3 H4 λv H5=>∃ys,H5 p=!(.lst ys)/\-ys<sizeLine/\∃n',n'<n/\W (i+1) n' U3 (aE H5 p (.lst (ys++[v])))
    else ∃n',n'<n/\W (i+1) n' U3 H4))
def CI(X:Cx)(fp:List Addr)(tn:Nat->Heap->Prop)(W:Nat->Nat->St->Hp->Prop)(n:Nat)(s:Shared):Prop:=∃i U H,ai X [] U H s/\tn i s.heap/\(∀b∈fp,H b=J)/\W i n U H
def zZ{P:Prop}(h:∀ZT:Prop,(P->ZT)->ZT):P:=h P id
def Ul{F:Hp->Prop}(Q:X.calm=G)(T:fz X.prog X.w X.K tg ZU fp it tn)(hg:PG X tg g)(hc:v5 X fR tc)(he:PE X elt te)(hx:∀u s,X.xe u s->False)
 (z:∀{H':Hp},(∀b∈fp,H' b=J)->∀b∈fp,nJ X [] H' b)
 (turn:∀i n U' H',W i n U' H'->((ZU.stop i H'/\F H')\/(ZU.go i H'/\∀x H2,ZU.yld i H' x H2->g x U' H2 λVw H3=>tc Vw H3 λb H4=>
   if b=G then te Vw H4 λv H5=>∃ys,H5 D=!(.lst ys)/\-ys<sizeLine/\∃n',n'<n/\W (i+1) n' Vw (aE H5 D (.lst (ys++[v])))
   else ∃n',n'<n/\W (i+1) n' Vw H4)))
 {ZN:Result->Shared->Prop} (hR:∀U' H' s',ai X [] U' H' s'->F H'->ZN (.ok .next) s') (n:Nat) (s':Shared) (hI:CI X fp tn W n s'):
 wpAny (model X.prog X.w) X.A (compTurn (.ListComp elt [#[tg,iter,fR,0]] sc pos) 0 (YV it) (YV D) X.env)
  (λfin s'=>match fin with |.done f=>ZN (.ok f) s' |.again c'=>c'=.compLoop (.ListComp elt [#[tg,iter,fR,0]] sc pos) 0 (YV it) (YV D) X.env/\∃m,m<n/\CI X fp tn W m s') (λ_ _=>False) s':=by
 show zZ λZT q=>?_;let(i,U',H',I',db,xw,w'):=hI;obtain⟨stop,qn⟩|⟨go,step⟩:=turn i n U' H' w'
 . show q (al (wpAny_standAt (al (wpAny_mono (T.done X O O O Q i [] s' U' H' (λ_ _=>False) I' (z xw) db stop) (λr s4 h4=>?_) λ_ _ f=>f))));let(hr,I4):=h4;subst hr;show aI (hR U' H' _ I4 qn)
 . show q (al (wpAny_standAt (al (wpAny_mono (T.item X O O O Q i [] s' U' H' (λ_ _=>False) I' (z xw) db go) (λr s4 h4=>?_) λ_ _ f=>f))));let(u,hr,h4):=h4;subst hr;show al (wpAny_mono h4 (λ_ s5 h5=>?_) λ_ _ f=>f);show zZ λZT q=>?_;let(x,H5,I5,r5,y5,j3,py):=h5;have N:∀{s7:Shared}{VB:St}{H7:Hp}{n':Nat},ai X ([]++zF fp s5.heap) VB H7 s7->W (i+1) n' VB H7->CI X fp tn W n' s7:=λ{s7 VB H7 n'} I7 w7=>by
    have pn:∀b∈fp,∀o,s5.heap.get? b=!o->s7.heap.get? b=!o/\H7 b=J:=λb hb o e=>by have:=I7.pin (b,o) (eT _ (eT _ (xU hb e)));show#[this.1,this.2.1]
    show#[i+1,VB,H7,I7.unpinned,T.keep _ _ _ j3 λb hb o e=>(pn b hb o e).1,λb hb=>?_,w7];let(o,e,d):=T.obj _ _ j3 b hb;show(pn b hb o e).2
   show q (al (wpAny_mono (hg _ s5 U' H5 x u _ (I5.pinned (z py) (T.obj _ _ j3)) r5 (step x H5 y5)) (λ_ s6 h6=>?_) hx));show zZ λZT q=>?_;let(Vz,H6,I6,q6):=h6;show q (al (wpAny_mono (hc _ s6 Vz H6 _ I6 q6) (λok s7 h7=>?_) hx));show zZ λZT q=>?_;let(H7,I7,q7):=h7;cases ok with
   |false=>
    let(n',kQ,w7):=q7;show q (aI #[O,n',kQ,N I7 w7])
   |true=>
    show q (al (al (wpAny_mono (he _ s7 Vz H7 _ I7 q7) (λv s8 h8=>?_) hx)));show zZ λZT q=>?_;let(y,H8,I8,r8,ys,Ki,hz,n',kQ,w8):=h8;show q (al (wpAny_mono (oY _ s8 Vz H8 (.ref D) [y] (YV D) [v] (λ_ H9=>W (i+1) n' Vz H9) I8 O (.cons r8 .nil) #[_,ys,y,O,O,Ki,hz,w8]) (λ_ s9 h9=>?_) hx));let(_,H9,I9,_,w9):=h9;show aI (aI #[O,n',kQ,N I9 w9])
def Z8
 (h:Q (newEnv sc s.heap.objs.size gl (cellsFrom (~~~s.heap.objs+1) sc.names Kj) qual J .none (!env) builtinsNs) { s with heap:=pushCells (s.heap.push { cls:=.type "dict",data:=.dict #[] }) sc.names }):
 wpAny Md A (newFunctionEnv sc gl Kj [] qual J .none (!env)) Q E s:=by
 simp only[newFunctionEnv,Option.isSome_some,if_true];show al (wpAny_alloc ?_);show al (wpAny_layCells _ (λname j cells=>by cases D:j==NameKind.cell<;>simp[D]) _ _ _ _ ?_);rw[show ({ s with heap:=s.heap.push { cls:=.type "dict",data:=.dict #[] } }:Shared).heap.objs.size= ~~~s.heap.objs+1 from lv ..];show al (aI (aI h))
def Eu(hcalm:X.calm=G)(c:jE X ZO F bm sc)
 (hg:∀C fp s H,PG (gC X ZO F sc C fp s H) tg g) (hc:∀C fp s H,v5 (gC X ZO F sc C fp s H) fR tc) (he:∀C fp s H,PE (gC X ZO F sc C fp s H) elt te)
 {Q:VK} (I:ai X ae U H s) (T:fz X.prog X.w X.K tg ZU fp it tn) (st:tn 0 s.heap) (hf:∀b∈fp,nJ X ae H b)
 (h:∀p,H p=J->∃W:Nat->Nat->St->Hp->Prop,(∃n,W 0 n (zY (-ZO) bm U) (aE H p (.lst [])))/\∀i n U' H',W i n U' H'->
   ((ZU.stop i H'/\Q (.ref p) H')\/(ZU.go i H'/\∀x H2,ZU.yld i H' x H2->g x U' H2 λj H3=>tc j H3 λb H4=>
     if b=G then te j H4 λv H5=>∃ys,H5 p=!(.lst ys)/\-ys<sizeLine/\∃n',n'<n/\W (i+1) n' j (aE H5 p (.lst (ys++[v])))
     else ∃n',n'<n/\W (i+1) n' j H4)))
 {RR:Value->Addr->Result->Shared->Prop}
 (hR:∀D C s' H' m,s.heap.get? D=J->s.heap.get? C=J-> ~~~s.heap.objs<=C->H D=J->D≠C->H' C=J->s'.heap.Ns C m->s'.os=s.os->AllBare s'.gens->Un (frs X.stack) fp H H' s.heap s'.heap->jm X.prog X.w H' s'.heap->Q (.ref D) H'->RR (YV D) C (.ok .next) s'):
 wpAny (model X.prog X.w) X.A (newList []) (λacc s₃=>wpAny (model X.prog X.w) X.A (newFunctionEnv sc X.env.globals (vG sc.names X.env) [] X.env.qual J .none (!X.env)) (λcenv s₄=>
  codeAny (model X.prog X.w) X.A (.compStart (.ListComp elt [#[tg,iter,fR,0]] sc pos) 0 (YV it) acc { cenv with scope:=relabel sc X.env }) (RR acc cenv.locals) s₄) E s₃) E s:=by
 show wpAny_newObj_type (Z8 ?_);generalize re:s.heap.push { cls:=.type "list",dict:=J,data:=.seq ([]:List Value).toArray }=H2;generalize rh:pushCells (H2.push { cls:=.type "dict",data:=.dict #[] }) sc.names=h₁;have kp:∀b o,H2.get? b=!o->h₁.get? b=!o:=λb o e=>by rw[<-rh];show pushCells_keeps _ _ _ _ (cE _ e)
 have hns₁:h₁.Ns H2.objs.size (λ_=>J):=by rw[<-rh];show(Heap.Ns.new H2 (.type "dict")).keeps (pushCells_keeps _ _)
 have hC: ~~~H2.objs= ~~~s.heap.objs+1:=by rw[<-re,lv]
 have rj: ~~~s.heap.objs≠H2.objs.size:=by rw[hC];show de ()
 have below:∀b,b< ~~~s.heap.objs->b≠H2.objs.size:=λb N=>by rw[hC];show de ()
 let xy:=λb o e=>kp b o (re▸cE _ e);let hD:=kp _ _ (re▸dE _ O);have fresh:∀a,~~~s.heap.objs<=a->s.heap.get? a=J:=λa ha=>by
  cases e:s.heap.get? a with
  |none=>rfl
  |some o'=>show absurd (bP e) ∅
 let kU:=I.hok.fresh (br _);have rz:∀b∈fp,∃o,s.heap.get? b=!o:=λb N=>let #[o,e,_]:=T.obj 0 _ st b N;#[o,e];have Kk:(H2.push { cls:=.type "dict",data:=.dict #[] }).objs.size= ~~~H2.objs+1:=lv ..;have qV:∀x a,(oM sc H2.objs.size X.env).lookup x=!a-> ~~~H2.objs+1<=a->h₁.IsCell a J:=λx a e q=>by rw[<-rh];show xZ _ _ (vG sc.names X.env) x a ∅ () λz b q'=>by rw[Kk,hC];show gI (gI (Uk I c q'))
 let I0:=WN I c hf rz (tk:=s.toks) hC hns₁ xy hD qV;let(W,(n0,w0),turn):=h _ kU;have nf:∀b∈fp,b≠s.heap.objs.size:=λb N=>by let(o,e):=rz b N;show de (bP e)
 have stat:∀{H':Hp},(∀b∈fp,H' b=J)->∀b∈fp,nJ (gC X ZO F sc H2.objs.size fp s H) [] H' b:=λ{H'} hn b N=>by
  let(f0,f1,f2,f3,f4,f5):=hf b N;let(o,e):=rz b N;show#[hn b N,below b (bP e),λz=>?_,Zl N,λx a e'=>by
   obtain q|q:=jK _ _ _ (e')
   . grind
   . show f4 x a (je I c q),λp hp=>by cases hp]
  obtain z|z:=a_.mp (I.stkSub b z)
  . grind
  . grind
 let xz:=T.keep 0 _ _ st λb N o e=>xy b o e;have loop:codeAny (model X.prog X.w) X.A (.compLoop (.ListComp elt [#[tg,iter,fR,0]] sc pos) 0 (YV it) (YV s.heap.objs.size) (compEnvC sc (oM sc H2.objs.size X.env) H2.objs.size X.env))
  (RR (YV s.heap.objs.size) H2.objs.size) { s with heap:=h₁ }:=by
  show codeAny_loop O (CI (gC X ZO F sc H2.objs.size fp s H) fp tn W) (λn s' hI=>?_) n0 #[0,_,_,I0,xz,λb N=>by rw[cV (nf b N)];show(hf b N).1,w0];show wpAny_noted (wpAny_mono (Ul (X:=gC X ZO F sc H2.objs.size fp s H) hcalm T (hg _ fp s H) (hc _ fp s H) (he _ fp s H) (λ_ _ f=>f) stat turn (λU' H' s4 I4 qn=>?_) n s' hI) (λ_ _ h=>h) λ_ _ f=>f.elim);let(m4,Kn,_):=I4.loc;show hR _ _ _ H' m4 (fresh _ ()) (fresh _ ()) () kU rj I4.free Kn I4.os I4.bare I4.base I4.hok qn
 show codeAny_compStart_list loop (T.self _ 0 _ _ _ xz loop)
end
section
variable {X:Cx}
def PQ{U q:St}(I:ai X ae U H s)(D:s.heap.get? C=J)(F:ai X ae q H' s')(N:H' C=J){m:Str->Option Value}(hs:Heap.SameBut C s'.heap h')
 (i: ~~~s.heap.objs<=C):ai X ae q H' { s' with heap:=h' }:=by
 have ne:∀a o,s.heap.get? a=!o->C≠a:=λa o e z=>by rw[z,e]at D;cases D
 show F.turned (λb o W e=>(hs.2 b W).trans e) N ?_ (YY (d4 I.sz i)) (λx c e=>?_) (λp Q=>?_)
 . show g_ (eJ I.lt i)
 . let(v,o,ho,_):=I.cell x c e;grind
 . show Ne.symm (ne _ _ (I.pin p Q).1)
def Z9(z F:List Str)(bm:List Nat)(i:X.calm=G)(c:jE X z F bm sc)(hi:PI X tg iter wi)
 (hg:∀C fp s H,PG (gC X z F sc C fp s H) tg g) (hc:∀C fp s H,v5 (gC X z F sc C fp s H) fR tc) (he:∀C fp s H,PE (gC X z F sc C fp s H) elt te)
 (hs:∀x,foldedSetIterable iter X.env x=pure x:=by intro _;rfl):PE X (.ListComp elt [#[tg,iter,fR,0]] sc pos) (R4 wi (-z) bm g tc te):=by
 intro ae s U H Q I h;show wpAny_comprehension_free O hs (yW (Dm I c)) c.kind c.locs (dg (hi ae s U H _ I h) λv s1 h1=>dg h1 λnL s2 h2=>?_);let(it,fp,tn,ZU,H2,e,I2,T,hJ,f2,q):=h2;subst e;show Eu i c hg hc he I2 T hJ f2 q ?_;intro D C s' H' m hD hC fg kU rj W N rL j rV hok q';let I3:=I2.call' rL rV hok j λb hb=>by let(_,g1,g2,g3,g4,g5):=f2 b hb;show#[g3,g1,g4,g5]
 show#[m,N,λh' hM=>#[.ref D,H',PQ (m:=m) I2 hC I3 W hM fg,O,q']]
def Kt(ZO F:List Str)(bm:List Nat){pos pos' j:Pos}(hN:X.N.Nodup)(rX:X.N[i]?=!x)(hx:X.env.scope.names.lookup x=!.local)
 (z:X.calm=G) (c:jE X ZO F bm sc) (hi:PI X tg iter wi)
 (hg:∀C fp s H,PG (gC X ZO F sc C fp s H) tg g) (hc:∀C fp s H,v5 (gC X ZO F sc C fp s H) fR tc) (he:∀C fp s H,PE (gC X ZO F sc C fp s H) elt te)
 (Kx:swapsWith (.ListComp elt [#[tg,iter,fR,0]] sc pos) (!(.Name x pos')) j.line X.env=pure G:=by rfl)
 (hs:∀x,foldedSetIterable iter X.env x=pure x:=by intro _;rfl):PS X (.Assign [.Name x pos'] (.ListComp elt [#[tg,iter,fR,0]] sc pos) j) (λD U H=>R4 wi (-ZO) bm g tc te U H λv H1=>D.nx (U.set i (!v)) H1):=by
 intro ae s U H D I h;rw[exec_Assign_Name_used _ _ _ _ Kx];show al (wpAny_standAt (al ?_));show al (wpAny_mono (wpAny_comprehension_free O hs (yW (Dm I c)) c.kind c.locs
  (dg (hi ae s U H _ I h) λv s1 h1=>dg h1 λnL s2 h2=>?_)) (λ_ s' hq=>aI (aI hq)) λ_ _ e=>e)
 let(it,fp,tn,ZU,H2,e,I2,T,hJ,f2,q):=h2;subst e;show Eu (Q:=λv H1=>D.nx (U.set i (!v)) H1) z c hg hc he I2 T hJ f2 q ?_;intro D' C s' H' m hD hC fg kU rj q_ kT rL W rV hok q';let I3:=I2.call' rL rV hok W λb hb=>by let(_,g1,g2,g3,g4,g5):=f2 b hb;show#[g3,g1,g4,g5]
 let hLC:=g_ (eJ I2.lt fg);show wpAny_assign_Name (HF (v:=.ref D') I3 hN rX (Zl hx) O (λs'' I4 KG=>?_) (YY hx));let(a,KI,ha):=KG;have KL:C≠a:=by
  obtain ha|ha:=ha
  . grind
  . let(v,o,ho,_):=I2.cell x a ha;grind
 show#[m,kT.sameBut KI KL,λh' hM=>#[_,H',PQ (m:=m) I2 hC I4 q_ hM fg,q']]
end
def K3(l:Addr)(items:Array Value)(n:Nat)(b:Addr)(i:Array Value)(n2:Nat)(j:Option Addr)(q:Array (Option Value))(Q:¬(not items.isEmpty&&Builtin.List.listTooLong (~~~items+ ~~~i))=G)(xA: ~~~items<=sizeLine)(z: ~~~items+ ~~~i<=sizeLine+1):
 Meets (Builtin.«list.extend» #[[YV l,YV b],[]]) (λ_ ZN s=>s.heap.get? l=some { cls:=.type "list",dict:=J,data:=.seq items n,slots:=#[] }/\s.heap.get? b=some { cls:=.type "list",dict:=j,data:=.seq i n2,slots:=q }/\ZN (.ok (.ret Value.none)) { s with heap:=s.heap.update l (Obj.mapSeq λx=>x++i),toks:=s.toks }):=
 .of_wp λprog w A ZN s h=>by
  let(hp,g,d,tk,os):=s;let(N,hb,h):=h;let f1:=AutoSeq1.idx_int;let f2:=AutoSeq1.sub_tuple_tuple;let f3:=AutoSeq1.sub_list_list;let f4:=AutoSeq1.sub_tuple_list;let f5:=AutoSeq1.sub_list_tuple;have W: ~~~(items++i)<=sizeLine+1:=by rw[Array.size_append];show z
  wp_walk using (wpAny_updateSeq N O),AutoSeq1.wpAny_loadPart' N,AutoSeq1.wpAny_loadPart' hb;grind
section
variable {X:Cx}
def KO:ju X (binaryOp .Add) (λx y H Q=>∃a b xs ys,x=.ref a/\y=.ref b/\bY X.K H a xs/\bY X.K H b ys/\-xs+-ys<=sizeLine/\∀p,H p=J->Q (.ref p) (aE H p (.lst (xs++ys)))):=by
 intro ae s U H x y v u Q I rx ry h;let(a,b,xs,ys,rfl,rfl,ha,hb,hz,q):=h;cases rx;cases ry;let(j,z,((c1,d1,dt1,s1),n1,W,e1,e2,e3),_):=I.list ha;let(i,N,((c2,d2,KP,s2),n2,D,f1,f2,f3),_):=I.list hb;subst e1 e2 e3 f1 f2 f3;let xB:=-z;let j_:=-N;show concat_meets #[_,W,O] #[_,D,O] noFill_list_add seq_list_add F.slot_list_add F.entry_list_add (F.args_list_add_2 _ _) (list_addW a b j.toArray i.toArray n1 n2 J J s1 s2 ∅) #[W,D,?_];have ea:j.toArray++i.toArray=(j++i).toArray:=by simp
 rw[ea];show#[.ref _,_,I.lnew (z.append N) ∅,O,q _ I.fresh]
def K4(K:FG):V->List V->Hp->VK->Prop:=λx vs H Q=>∃l b xs zs,x=.ref l/\vs=[.ref b]/\H l=!(.lst xs)/\bY K H b zs/\-xs+-zs<=sizeLine/\Q .non (aE H l (.lst (xs++zs)))
def R5:Ud X "list.extend" (K4 X.K):=by
 intro ae s U H x vs v us Q I rx rv h;let(l,b,xs,zs,rfl,rfl,hH,hB,hz,q):=h;cases rx;let(u,rfl,ru):=rv.one;cases ru;let(z,j,n,r,hl,e):=I.lstM hH;let(i,W,((c2,d2,KP,s2),n2,g2,f1,f2,f3),_):=I.list hB;subst f1 f2 f3;let j_:=-W;have N: ~~~j.toArray+ ~~~i.toArray<=sizeLine:=by rw[eP,eP];lia
 have D:¬ (not j.toArray.isEmpty&&Builtin.List.listTooLong (~~~j.toArray+ ~~~i.toArray))=G:=by rw[Wy N,Bool.and_false];show m6
 show call_meets F.slot_list_extend #[_,e,O] F.entry_list_extend (F.args_list_extend_2 _ _)
  (K3 l j.toArray n b i.toArray n2 J s2 D () ()) #[e,g2,?_]
 show#[.non,_,I.lset hH e (by simp) (r.append W) ?_,O,q];rw[bX];lia
end
def lY(z:Str)(lo hi:Option Int):Str:=#[((z.cps.toList.drop (HT.sIx (-z) 0 lo)).take (HT.sIx (-z) (-z) hi-HT.sIx (-z) 0 lo)).toArray]
def KS(lo hi:Option Int)(n:Nat):Builtin.Str.strSliceIndices lo hi 1 n=(List.range (HT.sIx n n hi-HT.sIx n 0 lo)).map (HT.sIx n 0 lo+·):=by
 have q:∀(o:Option Int)(d:Nat),d<=n->(match o with |none=>(d:Int) |some i=>max 0 (min (if i<0 then i+(n:Int) else i) (n:Int)))=((HT.sIx n d o:Nat):Int):=λo d z=>by
  cases o with
  |none=>rfl
  |some i=>
   simp only[HT.sIx];by_cases h:i<0
   . grind
   . grind
 rw[<-sliceRange_one];let D:=q lo 0 ();let F:=q hi n ();unfold Builtin.Str.strSliceIndices;grind
def Um(z:Str)(lo hi:Option Int):Txt.slice z lo hi=lY z lo hi:=by
 unfold Txt.slice lY;rw[KS];let i:=pick_run z.cps (HT.sIx (-z) 0 lo) (HT.sIx (-z) (-z) hi-HT.sIx (-z) 0 lo);split
 . rename_i h;have h2:-(map (HT.sIx z.length 0 lo+·) (List.range (HT.sIx z.length z.length hi-HT.sIx z.length 0 lo)))=-z:=by simpa using h
   rw[bo,fy]at h2;have D:HT.sIx (-z) (-z) hi<=-z:=HT.sIx_le _ _ () hi;have q:HT.sIx (-z) 0 lo<=-z:=HT.sIx_le _ _ () lo;have j:HT.sIx (-z) 0 lo=0:=()
   rw[h2,j,drop_zero,nr (by rw[e_];show br _)]
 . rw[i]
def KU:V->Option Int->Option Int->Hp->VK->Prop:=λx lo hi H Q=>∃z,x=.str z/\-z<=sizeLine/\Q (.str (lY z lo hi)) H
section
variable {X:Cx}
def KW:HS X KU:=by
 intro ae s U H x v vl vu lo hi sl Q I rx hs pl pu h;let(z,rfl,hz,q):=h;let(t,rfl):=rx;show#["str",_,F.slot_str_getitem.lookup,typeIs_str _ _ _,?_];have N:∀(l u:Option (Int×Tok)),vl=partValue l->vu=partValue u->l.map (·.1)=lo->u.map (·.1)=hi->wpAny (model X.prog X.w) X.A (getItem (.str z t) (YV sl)) (EP X ae U Q) X.xe s:=λl u e1 e2 e3 e4=>by subst e1 e2 e3 e4;show wpAny_getItem_str_slice (st:=J) hs O (post_val_or_str #[d4 (Txt.slice_le z _ _) hz,λt' k=>?_]);show#[.str (lY z (l.map (·.1)) (u.map (·.1))),H,I.tok _,#[t',?_],q];rw[<-Um];rfl
 cases pl with
 |none=>cases pu with
  |none=>show N J J O O O O
  |int j W=>show N J (!(j,W)) O O O O
 |int i ti=>cases pu with
  |none=>show N (!(i,ti)) J O O O O
  |int j W=>show N (!(i,ti)) (!(j,W)) O O O O
end
section
variable {X:Cx}{ae:List (Addr×Obj)}{U:St}{H:Hp}{s:Shared}{h':Heap}
def WR{h:Heap}(e:h.get? a=!o):o.isFreed=M:=by
 unfold Heap.get? at e;split at e
 . cases e
 . rename_i i;let(c,d,j,sl):=o;cases j<;>first |rfl |show(i _ _ _ e).elim
def ai.turned2(I:ai X ae U H s)(hei:e≠it)(k:∀b o,b≠e->b≠it->s.heap.get? b=!o->h'.get? b=!o)(fe:nJ X ae H e)(fi:nJ X ae H it)(he:∃o,h'.get? e=!o)(z:∃o,s.heap.get? e=!o):ai X ae U H { s with heap:=h',toks:=t' }:=by
 let(o,ho):=he;let(o0,D):=z;let(a0,a1,a2,a3,a4,a5):=fe;let(W,b1,b2,b3,Q,b5):=fi;show ai.turned (s:={ s with heap:=s.heap.update e (λ_=>o),toks:=s.toks }) (I.turned (λb u hb q=>(kH s.heap (λ_=>o) ∅).trans q) a0 a1 a3 a4 a5) (λb u hb q=>?_) W b1 b3 Q b5;by_cases F:b=e
 . subst F;let N:=q;rw[kM (λ_=>o) D (WR ho)]at N;grind
 . let N:=q;rw[kH s.heap (λ_=>o) ∅]at N;grind
end
def r9(K:FG)(a:Addr):It:=
 #[λi H=>∃xs x,bY K H a xs/\xs[i]?=!x,λi H x H'=>∃T y,H T=J/\x=.ref T/\H'=aE H T (.tup [.int i,y])/\∀xs,bY K H a xs->xs[i]?=!y,λi H=>∃xs,bY K H a xs/\-xs<=i]
def Uo{K:FG}{x1}(a e D:Addr)(Q:e≠D):fz P w K (.Tuple eq x1 pos) (r9 K a) [e,D] e (λi h=>(∃z,IsEnum h e D i z)/\h.IsListIter D a i) where
 mem:=by simp
 obj:=λi h st b F=>by
  let((z,N),j):=st;obtain rfl|F:=a_.mp F
  . grind
  . have eb:b=D:=by simpa using F
    let(o,ho,c,d):=j;grind
 keep:=λi h h' st k=>by let((z,N),j):=st;show#[#[z,k e (by simp) _ N],j.at λo q=>k D (by simp) o q]
 item:=by
  intro X hP hw hK hc i ae s U H E I hf st hg;subst hP hw hK;let((z,N),j):=st;let(xs,x,hq,hx):=hg;let(bp,rv,p,hz):=I.list hq;let(u,hu,ru):=rv.get hx;let fe:=hf e (by simp);let fi:=hf D (by simp);let W:=bP N;have hilt:D< ~~~s.heap.objs:=by let(_,q,_):=j;show bP q
  let r_:=I.hok.fresh (br _);show wpAny_pyNext_enum_item N j p.isList (by simpa using hu) Q λh1 ho hit' hT fg hk=>?_;show#[_,O,wpAny_letOwnedTupleGo_enum ho λh2 xC hM=>?_];let xD:=g_ W;let xE:=g_ hilt;have I1:ai X ae U (aE H s.heap.objs.size (.tup [.int i,x])) { s with heap:=s.heap.push { cls:=.type "tuple",data:=.seq (List.toArray [.int i s.toks,u]) },toks:=s.toks+1 }:=by show I.laid (λb o q=>cE _ q) () #[by simp only[bi];rw[sizeLine_eq];decide,[.int i s.toks,u],.cons #[_,O] (.cons ru .nil),?_];show#[_,dE s.heap O,O,0,O]
  have up:∀b,b≠s.heap.objs.size->H b=J->aE H s.heap.objs.size (.tup [.int i,x]) b=J:=λb F q=>by rw[cV F];show q
  have I2:ai X ae U (aE H s.heap.objs.size (.tup [.int i,x])) { s with heap:=h2,toks:=s.toks+1 }:=by
   show I1.turned2 Q (λb o i7 K0 q=>?_) #[up e xD.symm fe.1,fe.2] #[up D xE.symm fi.1,fi.2] #[_,xC] #[_,cE _ N];rw[hM.2 b i7];by_cases xI:b= ~~~s.heap.objs
   . subst xI;let q':=q;rw[dE s.heap O]at q';grind
   . show hk b o i7 K0 ?_;let q':=q;rw[Heap.get?_push_ne s.heap b _ xI]at q';show q'
  show#[.ref s.heap.objs.size,_,I2,O,#[s.heap.objs.size,x,r_,O,O,λys hy=>by rw[I.list_inj hy hq];show hx],#[#[u,by simpa using xC],hit'.at λo y=>(hM.2 D Q.symm).trans y],λb F=>?_];obtain rfl|F:=a_.mp F
  . show up _ xD.symm fe.1
  . have eb:b=D:=by simpa using F
    subst eb;show up _ xE.symm fi.1
 done:=by intro X hP hw hK hc i ae s U H E I hf st hg;subst hP hw hK;let((z,N),j):=st;let(xs,hq,hx):=hg;let(bp,rv,p,hz):=I.list hq;let(f0,f1,f2,f3,f4,f5):=hf D (by simp);let hl:=-rv;show wpAny_pyNext_enum_end (I.ok.hd hc) N j p.isList ∅ λh' eb=>#[O,I.turned (λb o F q=>eb b o F q) f0 f1 f3 f4 f5]
 self:=λ_ _ _ _ _ st h=>by let((z,N),_):=st;show wpAny_pyIter_enum N h
section
variable {X:Cx}
def K2(K:FG)(ta:TA):TI:=λU H ZN=>ta U H λvs H1=>∃a,vs=[.ref a]/\(∃xs,bY K H1 a xs)/\ZN (r9 K a) H1
def K_{x1}(Q:Gl X "enumerate")(hm:X.mg "enumerate"=J)(N:PA X [a] ta)(hs:starEach [a] X.env=[(M,eval a X.env)]:=by rfl):PI X (.Tuple eq x1 tpos) (.Call (.Name "enumerate" p) [a] [] pos) (K2 X.K ta):=by
 intro ae s U H ZN I h;show Call_ (zE I Q hm () (PyProof.Rows.callWith_type1 (dg (N pos ae s U H _ I h) λus i sd=>?_) hs O));let(vs,H1,I1,r1,q1):=sd;let(b,e,(xs,hq),q):=q1;subst e;cases r1 with
 |cons r rr=>
  cases rr;cases r;let(bp,rv,pl,hz):=I1.list hq;show call_enumerate_list pl.isList λh' F D fg hk=>?_;let W:=I1.kept (t':=i.toks) hk;show wpAny_pyIter_enum F ?_;show#[i.heap.objs.size+1,[i.heap.objs.size+1,~~~i.heap.objs],_,_,H1,O,W,Uo b (~~~i.heap.objs+1) i.heap.objs.size ∅,#[#[_,F],D],λc z=>?_,q];have j: ~~~i.heap.objs<=c:=by
   obtain rfl|z:=a_.mp z
   . grind
   . have ec:c= ~~~i.heap.objs:=by simpa using z
     grind
  show I1.fpOk j (I1.hok.fresh j)
def Ll:R2:=λx y H Q=>∃a v,x=.ref a/\WK H a y (!v)/\Q v H
def Lm(W:X.A.units+1<cLine):zP X Ll:=by intro value j ae s U H x y v u Q I rx N h hs;let(a,z,rfl,g,q):=h;cases rx;show tail_any (Ot I g) F.slot_dict_getitem.lookup (Ui W I g N λw' s3 D i=>#[z,H,D,i,q]) hs
def Y6:V->V->V->Hp->(Hp->Prop)->Prop:=λo i v H Q=>∃a H',o=.ref a/\xp H a i v H'/\Q H'
def set_dict(j:X.A.units+1<cLine):Wj X Y6:=by intro ae s U H o i v ov iv u Q I N D F h;let(a,H',rfl,g,q):=h;cases N;show Uj j I g D F λW z=>#[H',z,q]
end
section
variable {X:Cx}{ae:List (Addr×Obj)}{U:St}{H:Hp}{s:Shared}{h':Heap}
def ai.turnedL{fp:List Addr}(I:ai X ae U H s)(k:∀b o,b∉fp->s.heap.get? b=!o->h'.get? b=!o)(f:∀b∈fp,nJ X ae H b):ai X ae U H { s with heap:=h',toks:=t' }:=by
 have N:∀b u,H b=!u->b∉fp:=λb u e z=>by rw[(f b z).1]at e;cases e
 show I.step (λb j=>#[(f b j).2.2.2.1,(f b j).2.1,(f b j).2.2.2.2.1,(f b j).2.2.2.2.2]) (λb o _ _ i e _=>k b o i e) (λb o _ _ i e _=>#[o.slots,k b o i e]) (λ_ _ _ _ n=>n)
  (λb o i e=>#[o,k b o i e]) (λ_ _ e=>e) (λ_ _ _ e=>e) (λb ps e=>#[#[],by rw[e];simp]) (λm hm=>?_) (λb u e=>?_) I.bare
 . let(o,es,Q,W,r):=hm;show#[o,es,Q,k _ o (λz=>(f _ z).2.1 O) W,r]
 . show(I.hok b u e).stay (λc v i q=>k c v ?_ q) (λ_ q=>q) λ_ _ q=>q;obtain z|z:=i
   . grind
   . grind
end
def ai.madeT{U:St}{fp:List Addr}(I:ai X ae U H s)(hl:-xs<=sizeLine)(rv:am xs N)(W:∀c∈fp,nJ X ae H c)(lt:∀c∈fp,∃o,s.heap.get? c=!o)
 (hT:g2.get? s.heap.objs.size=some { cls:=.type "tuple",data:=.seq N.toArray }) (k:∀c o,c∉fp->s.heap.get? c=!o->g2.get? c=!o):
 ai X ae U (aE H s.heap.objs.size (.tup xs)) { s with heap:=g2,toks:=t' }/\∀c∈fp,aE H s.heap.objs.size (.tup xs) c=J:=by
 have up:∀c∈fp,aE H s.heap.objs.size (.tup xs) c=J:=λc D=>by let(o,e):=lt c D;rw[cV (de (bP e))];show(W c D).1
 have I1:ai X ae U (aE H s.heap.objs.size (.tup xs)) { s with heap:=s.heap.push { cls:=.type "tuple",data:=.seq N.toArray },toks:=t' }:=
  I.laid (λb o q=>cE _ q) () #[hl,N,rv,#[_,dE s.heap O,O,0,O]]
 show#[ai.turnedL (s:={ s with heap:=s.heap.push { cls:=.type "tuple",data:=.seq N.toArray },toks:=t' }) I1 (λc o D q=>?_) (λc D=>#[up c D,(W c D).2]),up];let Q:=q;by_cases F:c= ~~~s.heap.objs
 . subst F;rw[dE s.heap O]at Q;grind
 . rw[Heap.get?_push_ne s.heap c _ F]at Q;show k c o D Q
def Lo{a b:V}:[a,b].length<=sizeLine:=by  show Nat.le_of_ble_eq_true O
def Y7(K:FG)(a b:Addr):It:=
 #[λi H=>∃xs ys x y,bY K H a xs/\bY K H b ys/\xs[i]?=!x/\ys[i]?=!y,
  λi H x H'=>∃T y z,H T=J/\x=.ref T/\H'=aE H T (.tup [y,z])/\(∀xs,bY K H a xs->xs[i]?=!y)/\∀ys,bY K H b ys->ys[i]?=!z,
  λi H=>∃xs ys,bY K H a xs/\bY K H b ys/\(-xs<=i\/-ys<=i)]
structure WT(z TI TO i1 i2:Addr):Prop where
 TIz:TI≠z
 TOz:TO≠z
 i1z:i1≠z
 i2z:i2≠z
 TITO:TI≠TO
 TIi1:TI≠i1
 TIi2:TI≠i2
 TOi1:TO≠i1
 TOi2:TO≠i2
 i12:i1≠i2
def pM{h:Heap}(e:h.get? a=!o)(i:h.get? b=!o')(n:o.cls≠o'.cls):a≠b:=λz=>by subst z;rw[e]at i;cases i;show n O
def K5{z TI TO F N a b:Addr}(D:WT z TI TO F N)(W:IsZip h z TI TO .none)(i:IsPair h TO u v)(h1:h.IsListIter F a n)(h2:h.IsListIter N b m)(ha:h.IsList a xs)(hb:h.IsList b ys):ZipApart z TI TO F N a b:=by let(o1,Q,c1,_):=h1;let(o2,q2,c2,_):=h2;let(oa,q,ca,_):=ha;let(ob,j,cb,_):=hb;show#[D.TIz,D.TOz,D.i1z,D.i2z,D.TITO,D.TIi1,D.TIi2,D.TOi1,D.TOi2,D.i12,pM q W ∅,pM q i ∅,pM q Q ∅,pM q q2 ∅,pM j W ∅,pM j i ∅,pM j Q ∅,pM j q2 ∅]
def WW{K:FG}{x1}(a b z TI TO i1 i2:Addr)(D:WT z TI TO i1 i2):fz P w K (.Tuple eq x1 pos) (Y7 K a b) [z,TI,TO,i1,i2] z
 (λi h=>IsZip h z TI TO .none/\IsPair h TI (YV i1) (YV i2)/\(∃u v,IsPair h TO u v)/\h.IsListIter i1 a i/\h.IsListIter i2 b i) where
 mem:=by simp
 obj:=λi h st c j=>by
  let(W,N,(u,v,F),h1,h2):=st;simp only[a_,iN,or_false]at j;obtain rfl|rfl|rfl|rfl|rfl:=j
  . grind
  . grind
  . grind
  . let(o,ho,c,d):=h1;grind
  . let(o,ho,c,d):=h2;grind
 keep:=λi h h' st k=>by let(W,N,(u,v,F),h1,h2):=st;show#[k z (by simp) _ W,k TI (by simp) _ N,#[u,v,k TO (by simp) _ F],h1.at λo q=>k i1 (by simp) o q,h2.at λo q=>k i2 (by simp) o q]
 item:=by
  intro X hP hw hK j i ae s U H E I hf st hg;subst hP hw hK;show zZ λZT kG=>?_;let(W,N,(u0,v0,F),h1,h2):=st;let(xs,ys,x,y,hq,hr,hx,hy):=hg;let(bp,rv,p,Lu):=I.list hq;let(xL,kc,p',hzl'):=I.list hr;let(u,hu,ru):=rv.get hx;let(u',se,Lv):=kc.get hy;let DD:=K5 D W F h1 h2 p.isList p'.isList;have LA:∀c∈[z,TI,TO,i1,i2],∃o,s.heap.get? c=!o:=λc j=>by
   simp only[a_,iN,or_false]at j;obtain rfl|rfl|rfl|rfl|rfl:=j
   . show#[_,W]
   . show#[_,N]
   . show#[_,F]
   . let(o,q,_):=h1;show#[o,q]
   . let(o,q,_):=h2;show#[o,q]
  let r_:=I.hok.fresh (br _);show kG (wpAny_pyNext_zip_item DD W N F h1 h2 p.isList p'.isList (by simpa using hu) (by simpa using se) λg1 a1 a2 a3 a4 a5 a6 a7=>#[_,O,wpAny_letOwnedTupleGo_zip a1 λg2 b1 b2=>?_]);have Q:∀c o,c≠z->g1.get? c=!o->g2.get? c=!o:=λc o j q=>(b2.2 c j).trans q;let big:=g_ (bP W);let(I2,up):=I.madeT Lo (.cons ru (.cons Lv .nil)) hf LA (Q _ _ big a5) λc o j q=>by simp only[a_,iN,or_false,not_or]at j;show Q c o j.1 (a7 c o j.1 j.2.2.1 j.2.2.2.1 j.2.2.2.2 q)
  show#[.ref s.heap.objs.size,_,I2,O,#[s.heap.objs.size,x,y,r_,O,O,λys hy=>by rw[I.list_inj hy hq];show hx,λys LB=>by rw[I.list_inj LB hr];show hy],#[b1,Q _ _ D.TIz (a7 _ _ D.TIz D.TITO D.TIi1 D.TIi2 N),#[_,_,Q _ _ D.TOz a2],a3.at λo q=>Q _ o D.i1z q,a4.at λo q=>Q _ o D.i2z q],up]
 done:=by
  intro X hP hw hK j i ae s U H E I hf st hg;subst hP hw hK;show zZ λZT kG=>?_;let(W,N,(u0,v0,F),h1,h2):=st;let(xs,ys,hq,hr,hx):=hg;let(bp,rv,p,Lu):=I.list hq;let(xL,kc,p',hzl'):=I.list hr;let DD:=K5 D W F h1 h2 p.isList p'.isList;let e1:=-rv;let e2:=-kc;show kG (wpAny_pyNext_zip_end (I.ok.hd j) DD W N F h1 h2 p.isList p'.isList ?_ λg k=>#[O,?_])
  . obtain hx|hx:=hx
    . show Zl ∅
    . show YY ∅
  . show I.turnedL (λc o j q=>?_) hf;grind
 self:=λ_ _ _ _ _ st h=>wpAny_pyIter_zip st.1 h
section
variable {X:Cx}
def LF(K:FG)(ta:TA):TI:=λU H ZN=>ta U H λvs H1=>∃a b,vs=[.ref a,.ref b]/\(∃xs,bY K H1 a xs)/\(∃ys,bY K H1 b ys)/\ZN (Y7 K a b) H1
def nQ{n a b:Nat}(h:a≠b):n+a≠n+b:=λe=>h ()
def LG{U:St}{x1}{l1 l2 z TI TO i j:Addr}(F:ai X ae U H s1)(b7:∀c o,s1.heap.get? c=!o->h'.get? c=!o)(Q:∀c∈[z,TI,TO,i,j],~~~s1.heap.objs<=c)(D:WT z TI TO i j)
 (st:IsZip h' z TI TO .none/\IsPair h' TI (YV i) (YV j)/\(∃u v,IsPair h' TO u v)/\h'.IsListIter i l1 0/\h'.IsListIter j l2 0) (q:ZN (Y7 X.K l1 l2) H):nK X ae U (.Tuple eq x1 tpos) ZN (YV z) { s1 with heap:=h' }:=
 #[z,[z,TI,TO,i,j],_,_,H,O,F.kept b7,WW l1 l2 z TI TO i j D,st,λc W=>F.fpOk (Q c W) (F.hok.fresh (Q c W)),q]
def LH{p pos:Pos}{eq:List Expr}{x1}{tpos:Pos}(hg:Gl X "zip")(hm:X.mg "zip"=J)(ha:PA X [a,b] ta)(hs:starEach [a,b] X.env=(M,eval a X.env)::starEach [b] X.env:=by rfl)(j:(backTo pos (starEach [b] X.env)).any (·.1)=M:=by rfl):PI X (.Tuple eq x1 tpos) (.Call (.Name "zip" p) [a,b] [] pos) (LF X.K ta):=by
 intro ae s U H ZN I h;show Call_ (zE I hg hm () (PyProof.Rows.callWith_type1 (dg (ha pos ae s U H _ I h) λus s1 LI=>?_) hs j));let(vs,H1,I1,r1,q1):=LI;show zZ λZT kG=>?_;let(l1,l2,e,(xs,hq),(ys,Q),q):=q1;subst e;cases r1 with
 |cons r z=>
  cases z with
  |cons r' z=>
   cases z;cases r;cases r';let(bp,rv,pl,hz):=I1.list hq;let(xL,rv',i,xS):=I1.list Q;show kG (call_zip_2 pl.isList i.isList λh' D b2 W N b5 b6 b7=>wpAny_pyIter_zip D ?_);show LG I1 b7 (λc F=>?_) #[nQ (),nQ (),nQ (),nQ (),nQ (),nQ (),nQ (),nQ (),nQ (),nQ (a:=0) ()] #[D,b2,#[_,_,W],N,b5] q;simp only[a_,iN,or_false]at F;obtain rfl|rfl|rfl|rfl|rfl:=F
   all_goals (first |show br _ |show nh _ _)
end
def kY:Nat:=9900
def Bk(h:n<kY):n<=sizeLine:=by have h1:kY=9900:=O;rw[sizeLine_eq];lia
def PX(h:n<scanBound):n<kY:=()
def gG(es:Array (Int×Value)):List Str:=es.toList.map λe=>strOf e.2
structure lZ(h:Heap)(a:Addr)(es:Array (Int×Value))(ep:Nat)(t:SetTable)(led:Bool):Prop where
 at_:h.get? a=some { cls:=.type "set",dict:=none,data:=.set es ep t,slots:=#[] }
 bd: ~~~es<kY
 fits:t.fits es.size=true
 led:t.led=led
 plain:0< ~~~es->t.plain=false
structure tK(prog:Program)(w:World)(h:Heap)(a:Addr)(es:Array (Int×Value))(ep:Nat)(t:SetTable)(led:Bool):Prop extends lZ h a es ep t led where
 el:ElemsOf (PySem.strKind prog w) es.toList
 nd:(gG es).Nodup
def R6:(layNew t es h x).2.1.led=t.led:=by
 unfold layNew;split
 . show (orStandIn _ _).led=_;unfold orStandIn;split<;>rfl
 . rfl
def Ew{t t':SetTable}(e:t.relaid hs n=!(t',o)):t'.led=t.led/\t'.plain=t.plain:=by let(ow,h1,h2):=Option.bind_eq_some_iff.mp e;grind
def K6:(relayAll t es n).2.1.led=t.led:=by
 unfold relayAll;split
 . rename_i e;dsimp only;split
   . show(Ew e).1
   . rfl
 . rfl
def GR(i:t.plain=M):(relayAll t es n).2.1.plain=M:=by
 unfold relayAll;split
 . rename_i e;dsimp only;split
   . show(Ew e).2.trans i
   . rfl
 . rfl
def Ex{h:Heap}(e:h.get? a=some { cls:=.type "set",dict:=J,data:=.set es ep t,slots:=#[] }):(h.update a (Obj.putSet es' t')).get? a=some { cls:=.type "set",dict:=J,data:=.set es' (ep+1) t',slots:=#[] }:=
 kM (Obj.putSet es' t') e O
section
variable {prog:Program}
def add_str(S:tK prog w s.heap a es ep t led)(room: ~~~es+1<scanBound)
 (h:∀b h' es' W t',Heap.SameBut a s.heap h'->tK prog w h' a es' W t' led->(∀y,y∈gG es' ↔ y∈gG es\/y=x)-> ~~~es'<= ~~~es+1->Q b { s with heap:=h' }):
 wpAny (model prog w) A (setAddHashed a (.str x tk) (hashStr w x)) Q E s:=by
 have hk:(PySem.strKind prog w).is x (.str x tk)=G:=by show Value.isStrOf x (.str x tk)=G;simp[Value.isStrOf]
 unfold setAddHashed setAddHashedIn
 show wpAny_holding (al (wpAny_setState_of S.at_ O S.fits ?_))
 dsimp only
 rw[byScan_of O () S.el]
 simp only[↓reduceIte]
 unfold setAddByScan
 show al (al (wpAny_rule (al ?_)))
 show wpAny_setScan_of hk S.at_ O S.fits S.el ?_
 have key:∀e∈es.toList,(PySem.strKind prog w).is x e.2=G ↔ strOf e.2=x:=λe he=>by
  let((k,h1,_),_):=S.el e he
  let(u,hu):=Value.isStrOf_shape h1
  rw[hu]
  show Value.isStrOf x (.str k u)=G ↔ k=x
  simp[Value.isStrOf]
 cases hr:List.findIdx? (λe=>(PySem.strKind prog w).is x e.2) es.toList with
 |some j=>
  dsimp only
  let(hj,LJ,_):=List.findIdx?_eq_some_iff_getElem.mp hr
  have hm:x∈gG es:=ck.mpr #[es.toList[j],List.getElem_mem hj,(key _ ∅).mp LJ]
  show aI (aI ?_)
  show h M s.heap es ep t (Heap.SameBut.refl a s.heap) S (λy=>#[Zl,λq=>q.elim id λq=>q▸hm]) ()
 |none=>
  dsimp only
  have hm:x∉gG es:=λq=>by
   let(e,he,q):=ck.mp q
   have:=List.findIdx?_eq_none_iff.mp hr e he
   rw[(key e he).mpr q]at this
   grind
  have x0:∀(b:Bool){s₁:Shared}{Q':Unit->Shared->Prop},Q' ⟨⟩ s₁->wpAny (model prog w) A (match b with |true=>rule "set.scan.the-table-gave-way" |false=>pure ⟨⟩) Q' E s₁:=λb s₁ Q' q=>by
   cases b
   . show aI q
   . show wpAny_rule q
  let hp:=layNew_perm t es (hashStr w x) (.str x tk)
  let hf:=layNew_fits t es (hashStr w x) (.str x tk)
  have hl:(layNew t es (hashStr w x) (.str x tk)).2.1.led=led:=R6.trans S.led
  have k1:∀D:Array (Int×Value),List.Perm D.toList (es.push (hashStr w x,.str x tk)).toList->ElemsOf (PySem.strKind prog w) D.toList/\(gG D).Nodup/\D.size= ~~~es+1/\∀y,y∈gG D ↔ y∈gG es\/y=x:=λD q=>by
   rw[Array.toList_push]at q
   have q2:List.Perm (gG D) (gG es++[x]):=by
    have:=q.map λe=>strOf e.2
    simpa [gG,strOf] using this
   show#[(S.el.push hk O).perm q,q2.nodup_iff.mpr (ny.mpr #[S.nd,by simp,λa ha b hb=>?_]),?_,λy=>?_]
   . rw[eR.mp hb]
     grind
   . have:=q.length_eq
     simpa using this
   . rw[q2.mem_iff]
     simp
  generalize layNew t es (hashStr w x) (.str x tk)=L at hp hf hl ⊢
  let(D,t1,wd,gv):=L
  let(LL,LM,k13,LN):=k1 D hp
  dsimp only at hp hf hl ⊢
  show al (x0 gv ?_)
  have fin:∀N:SetTable,N.fits D.size=G->N.led=led->N.plain=M->wpAny (model prog w) A (do
   storeSet a D N
   if (not wd&&N.tooFull)=G then do
    (match (relayAll N D (SetTable.grown D.size)).2.2 with |true=>rule "set.scan.the-table-gave-way" |false=>pure ⟨⟩)
    storeSet a (relayAll N D (SetTable.grown D.size)).1 (relayAll N D (SetTable.grown D.size)).2.1
    pure (!G)
    else pure (!G)) (λr s'=>∃h',s'={ s with heap:=h' }/\r=!G/\∃es' W t',Heap.SameBut a s.heap h'/\tK prog w h' a es' W t' led/\(∀y,y∈gG es' ↔ y∈gG es\/y=x)/\es'.size<= ~~~es+1) E s:=by
   intro N f2 l2 p2
   have b1: ~~~D<scanBound:=()
   show al (wpAny_storeSet_of S.at_ O ?_ (fits_of_scanBound b1))
   let g1:=Ex (es':=D) (t':=N) S.at_
   let kX:=jI s.heap a (Obj.putSet D N)
   split
   . show al (x0 _ ?_)
     let q:=relayAll_perm N D (SetTable.grown D.size)
     let qf:=relayAll_fits N D (SetTable.grown D.size)
     have ql:(relayAll N D (SetTable.grown D.size)).2.1.led=led:=K6.trans l2
     let qp:=GR (es:=D) (n:=SetTable.grown D.size) p2
     generalize relayAll N D (SetTable.grown D.size)=ZN at q qf ql qp ⊢
     let(x6,t3,g3):=ZN
     dsimp only at q qf ql qp ⊢
     let(m1,m2,m3,m4):=k1 x6 (q.trans hp)
     show al (wpAny_storeSet_of g1 O ?_ (fits_of_scanBound ()))
     show aI #[_,O,O,x6,_,t3,kX.trans (jI _ a _),#[#[Ex g1,PX (),qf,ql,λ_=>qp],m1,m2],m4,()]
   . show aI #[_,O,O,D,_,N,kX,#[#[g1,PX b1,f2,l2,λ_=>p2],LL,LM],LN,()]
  have out:∀r s',(∃h',s'={ s with heap:=h' }/\r=!G/\∃es' W t',Heap.SameBut a s.heap h'/\tK prog w h' a es' W t' led/\(∀y,y∈gG es' ↔ y∈gG es\/y=x)/\es'.size<= ~~~es+1)->r=!G/\Q G s':=λr s' q=>by
   let(h',rfl,rfl,es',W,t',q1,q2,q3,q4):=q
   show#[O,h G h' es' W t' q1 q2 q3 q4]
  split
  . show al ?_
    rw[hashByValue_scannable 8 O]
    show aI ?_
    show wpAny_mono (fin { t1 with plain:=M } (SetTable.fits_plain_off hf) hl O) (λr s' q=>?_) λ_ _ e=>e
    let(rfl,q'):=out r s' q
    show aI q'
  . rename_i np
    show al (aI ?_)
    simp only[↓reduceIte]
    show wpAny_mono (fin t1 hf hl (by simpa using np)) (λr s' q=>?_) λ_ _ e=>e
    let(rfl,q'):=out r s' q
    show aI q'
def lZ.moved(S:lZ h a es ep t i)(k:∀o,h.get? a=!o->h'.get? a=!o):lZ h' a es ep t i:=#[k _ S.at_,S.bd,S.fits,S.led,S.plain]
theorem tK.moved(S:tK prog w h a es ep t led)(k:∀o,h.get? a=!o->h'.get? a=!o):tK prog w h' a es ep t led:=#[S.1.moved k,S.el,S.nd]
end
section
variable {prog:Program}
theorem Qd:∀{vs:List Value}{j:List Str},StrsAre vs j->∀(i:Nat)(v:Value),vs[i]?=!v->∃t,v=.str (j.getD i #[#[]]) t
 |_,_,.nil,i=>λv h=>by simp at h
 |_,_,.cons y t r,0=>λv h=>by cases h;show#[t,O]
 |_,_,.cons y t r,i+1=>λv h=>by let(u,e):=Qd r i v ();show#[u,by simpa using e]
theorem Do:∀{vs:List Value}{i:List Str},StrsAre vs i->-vs=-i
 |_,_,.nil=>rfl
 |_,_,.cons y t r=>by simp[Do r]
def mem_step{α:Type}{n:Nat}{val:Nat->α}{as bs:List α}(h:∀y,y∈as ↔ ∃j,j<n/\val j=y)(h2:∀y,y∈bs ↔ y∈as\/y=val n)(y:α):y∈bs ↔ ∃j,j<n+1/\val j=y:=by
 rw[h2,h]
 constructor
 . rintro (⟨j,hj,q⟩|q)
   . show#[j,gI hj,q]
   . show#[n,jp n,q.symm]
 . rintro ⟨j,hj,q⟩
   obtain g|rfl:=Nat.lt_succ_iff_lt_or_eq.mp hj
   . show .inl #[j,g,q]
   . show .inr q.symm
def Ou{l:Addr}{items:Array Value}{ss:List Str}{Q:Value->Shared->Prop}(hh:A.handled=J)(hl:s.heap.IsList l items)(hi:StrsAre items.toList ss)(hb: ~~~items+1<scanBound)
 (h:∀(h':Heap)(tk:Nat) es ep t,tK prog w h' s.heap.objs.size es ep t (not (byText w))->(∀y,y∈gG es ↔ y∈ss)-> ~~~es<= ~~~items->(∀b o,b< ~~~s.heap.objs->s.heap.get? b=!o->h'.get? b=!o)->Q (YV s.heap.objs.size) { s with heap:=h',toks:=tk }) :
 wpAny (model prog w) A (call (.type "set") [YV l]) Q E s:=by
 show set_of_G (T:=λi h=>∃es ep t,tK prog w h s.heap.objs.size es ep t (not (byText w))/\(∀y,y∈gG es ↔ ∃j,j<i/\ss.getD j #[#[]]=y)/\es.size<=i) hh hl ?_ ?_ ?_ ?_
 . intro h' g _
   show#[_,_,_,#[#[g,by decide,O,O,λq=>by simp at q],λe q=>by simp at q,by simp[gG]],by simp[gG],br _]
 . intro i h h' q k
   let(es,ep,t,S,r):=q
   show#[es,ep,t,S.moved λo=>k _ o (de (jp _)),r]
 . intro i v s' Q E lt e q k
   let(es,ep,t,S,m,z):=q
   let(u,rfl):=Qd hi i v (by rw[Array.getElem?_toList];show e)
   unfold setAdd
   show wpAny_holding (al (wpAny_pyHash_str ?_))
   show add_str (s:={ s' with toks:=s'.toks+1 }) S (()) λb h' es' md t' sb S2 m2 z2=>k b h' 1 sb #[es',md,t',S2,mem_step m m2,()]
 . intro h' tk q k
   let(es,ep,t,S,m,z):=q
   show h h' tk es ep t S (λy=>?_) z k
   rw[m,List.mem_iff_getElem]
   let e0:=Do hi
   rw[e_] at e0
   constructor
   . rintro ⟨j,hj,rfl⟩
     show#[j,(),by simp[e0 ▸ hj]]
   . rintro ⟨j,hj,rfl⟩
     show#[j,(),by simp[hj]]
end
def Qe:Manifest.owners.lookup (String.ofList ['r','o','t','a','r','e','t','i','_','t','e','s'].reverse)=!Manifest.sig_set_iterator:=by kernel_rfl
def oN:Slot "set_iterator" "__next__" "set_iterator.__next__":=.of (owner:="set_iterator") (n:="__next__") () () () () () ()
def K7:Slot "set_iterator" "__iter__" "set_iterator.__iter__":=.of (owner:="set_iterator") (n:="__iter__") () () () () () ()
def Qf:entryFor table "set_iterator.__next__"=some Builtin.«set_iterator.__next__»:=entryFor_of_tree ()
def K8(a:Value):argsOk "set_iterator.__next__" #[[a],[]]:=by unfold argsOk;rw[signature?_of (id:="set_iterator.__next__") (n:=['_','_','t','x','e','n','_','_']) () Qe];kernel_rfl
def Uq:entryFor table "set.__iter__"=some Builtin.«frozenset.__iter__»:=entryFor_alias (id':="frozenset.__iter__") () O () ()
theorem yc{α:Type}:∀{l:List α}{i:Nat}(h:i< -l),(l[i]::l.eraseIdx i).Perm l
 |a::l,0,h=>.rfl
 |a::l,i+1,h=>(Perm.swap _ _ _).trans ((yc (by simpa using h)).cons a)
theorem Ia(f:Nat->Nat):∀(n k:Nat)(l:List α)(o:Array α),-l<=n->(pickOrder.go f n k l o).toList.Perm (o.toList++l)
 |0=>λk l o h=>by have:l=[]:=length_eq_zero_iff.mp ();subst this;simp[pickOrder.go]
 |n+1=>λk l o h=>by
  unfold pickOrder.go;cases l with
  |nil=>simp
  |cons a l=>
   have i:f k%-(a::l)< -(a::l):=Nat.mod_lt _ (by simp);rw[ed i];show(Ia f n (k+1) _ _ ∅).trans ?_;rw[Array.toList_push,cx];show Perm.append_left _ (yc i)
def WX(f:Nat->Nat)(o:Array α):(pickOrder f o).toList.Perm o.toList:=by have:=Ia f o.size 0 o.toList #[] ();simpa [pickOrder] using this
section
variable {prog:Program}
def K9(N:0<n)(h:∀i d,i<n->Q i { s with drawn:=d }):wpAny W A (choose F n) Q E s:=λΓ p hΓ=>by show Sem.wp W Γ (.choose F n .pure) _ _ p s;rw[Sem.wp_choose];show#[(),h _ _ (Nat.mod_lt _ N)]
theorem vH:∀(n:Nat)(xs:List α){Q:List α->Shared->Prop}{s:Shared},-xs<=n->(∀ys d,ys.Perm xs->Q ys { s with drawn:=d })->wpAny N A (drawOrder n xs) Q E s
 |0,xs,Q,s=>λh q=>by have:xs=[]:=length_eq_zero_iff.mp ();subst this;show aI (q [] s.drawn .rfl)
 |n+1,[],Q,s=>λh q=>aI (q [] s.drawn .rfl)
 |n+1,x::xs,Q,s=>λh q=>by show al (K9 (by simp) λi d hi=>?_);rw[ed hi];show al (vH n _ ∅ λys F p=>aI (q _ F ((p.cons _).trans (yc hi))))
abbrev t7(h:Heap)(it a:Addr)(f:Value)(i n ep:Nat):Prop:=h.get? it=some { cls:=.type "set_iterator",dict:=J,data:=.fields (List.toArray [f,rawInt i,YV a,rawInt n,rawInt ep]),slots:=#[] }
def vI(w:World)(h:Heap)(it P a:Addr)(es:Array (Int×Value))(ep:Nat)(t:SetTable)(vs:List Value)(i:Nat):Prop:=
 (byText w=G/\t7 h it a (rawInt 0) i es.size ep/\vs=(pickOrder (w.params.setOrder a ep) es).toList.map (·.2))
\/(byText w=M/\1< ~~~es/\∃(pl:List Nat)(k:Nat),t7 h it a (YV P) i es.size ep/\h.get? P=!(seqObj "tuple" (pl.map λj:Nat=>rawInt j).toArray k)/\P≠it/\pl.Perm (range es.size)/\vs=pl.map λj=>(es.getD j (0,.none)).2)
\/(byText w=M/\es.size<=1/\∃sl:Nat,t7 h it a (rawInt sl) i es.size ep/\vs=es.toList.map (·.2)/\((i=0/\sl=0)\/∃p,t.place=(List.toArray [p])/\i=1/\sl=p+1))
def WY(S:lZ s.heap a es ep t (not (byText w)))
 (h:∀h' d W P vs,(∀b o,s.heap.get? b=!o->h'.get? b=!o)->vI w h' W P a es ep t vs 0->vs.Perm (es.toList.map (·.2))-> ~~~s.heap.objs<=W-> ~~~s.heap.objs<=P->W< ~~~h'.objs->P< ~~~h'.objs->Q (YV W) { s with heap:=h',drawn:=d }):
 wpAny (model prog w) A (pyIter (YV a)) Q E s:=by
 have hT:s.TypeIs (YV a) "set":=#[_,S.at_,O];show wpAny_pyIter_slot hT F.slot_set_iter (wpAny_call_entry F.slot_set_iter hT Uq ?_ ());unfold Builtin.«frozenset.__iter__» Builtin.Frozenset.slot0 slotArgs;simp only[bind_assoc];show al (aI ?_)
 try dsimp only
 show al (aI ?_);show al (al (wpAny_setEntries_of S.at_ O S.fits (aI ?_)));show al (al (wpAny_setState_of S.at_ O S.fits (al (al (wpAny_askSetting (aI (aI ?_)))))));show wpAny _ _ (if (not (byText w)&&(not t.plain&&decide (~~~es>1)))=G then _ else _) _ _ _;split
 . rename_i D;simp only[fF,Bool.not_eq_true',decide_eq_true_eq]at D;show al (vH es.size (range es.size) (by simp) λpl d hp=>?_);have hl:-pl= ~~~es:=by rw[hp.length_eq,fy]
   show al (wpAny_newTuple ?_ (by have:=Bk S.bd;simp;lia));have g1:(s.heap.push (seqObj "tuple" (pl.map λj:Nat=>rawInt j).toArray 0)).get? s.heap.objs.size=!(seqObj "tuple" (pl.map λj:Nat=>rawInt j).toArray 0):=dE _ O;show al (wpAny_setEpoch_of (cE _ S.at_) O S.fits ?_);show al (wpAny_newObj_type (aI #[_,O,"set_iterator",_,#[_,dE _ O,O],oN.lookup,?_]));have z:(s.heap.push (seqObj "tuple" (pl.map λj:Nat=>rawInt j).toArray 0)).objs.size= ~~~s.heap.objs+1:=size_push' ..;show h _ d _ s.heap.objs.size (pl.map λj=>(es.getD j (0,.none)).2) (λb o q=>cE _ (cE _ q)) (YY (Zl #[D.1,D.2.2,pl,0,dE _ O,cE _ g1,?_,hp,O])) ?_ ?_ (br _) ?_ ?_
   . show de (by show s.heap.objs.size<(s.heap.push _).objs.size;rw[z];show jp _)
   . show(hp.map _).trans (.of_eq ?_);show ext_getElem (by simp) λi h1 h2=>?_
     simp[(by simpa using h1)]
   .  rw[z];show m_ _
   . show bP (dE _ O)
   . show bP (cE _ g1)
 . rename_i D;show al (aI (al (wpAny_setEpoch_of S.at_ O S.fits ?_)));show al (wpAny_newObj_type (aI #[_,O,"set_iterator",_,#[_,dE _ O,O],oN.lookup,?_]));have z:∀o:Obj,~~~s.heap.objs<(s.heap.push o).objs.size:=λo=>by rw[size_push'];show jp _
   by_cases hb:byText w=G
   . show h _ s.drawn _ s.heap.objs.size _ (λb o q=>cE _ q) (Zl #[hb,dE _ O,O]) ((WX _ es).map _) (br _) (br _) (z _) (z _)
   . have N:byText w=M:=by simpa using hb
     have hz: ~~~es<=1:=by
      rw[N]at D;obtain g|g:=Nat.lt_or_ge 1 es.size
      . show absurd (by rw[S.plain ()];simp;lia) D
      . show g
     show h _ s.drawn _ s.heap.objs.size _ (λb o q=>cE _ q) (YY (YY #[N,hz,0,dE _ O,O,Zl #[O,O]])) .rfl (br _) (br _) (z _) (z _)
def Ib(S:lZ s.heap a es ep t (not (byText w)))(j:byText w=G)
 (h:Q (((pickOrder (w.params.setOrder a ep) es)[i]?).map λe=>(e.2,sl)) s):wpAny (model prog w) A (setNext a sl i ep) Q E s:=by
 show al (wpAny_setState_of S.at_ O S.fits (al (al (wpAny_askSetting (aI ?_)))));show wpAny _ _ (if byText w=G then _ else _) _ _ _;rw[aw j,ay (by simp)];show al ?_;show al (wpAny_setState_of S.at_ O S.fits (al (al (wpAny_askSetting (aI ?_)))));show wpAny _ _ (if byText w=G then _ else _) _ _ _;rw[aw j];show al (wpAny_askSetting (aI (aI h)))
def Ie(S:lZ s.heap a es F t (not (byText w)))(N:byText w=M)(hz: ~~~es<=1)
 (h:Q (match es[below t.place sl]?,t.place[below t.place sl]? with |some (_,x),!j=>some (x,j+1) |_,_=>J) s):wpAny (model prog w) A (setNext a sl i F) Q E s:=by
 show al (wpAny_setState_of S.at_ O S.fits (al (al (wpAny_askSetting (aI ?_)))));show wpAny _ _ (if byText w=G then _ else if (not t.plain&&decide (~~~es>1))=G then _ else _) _ _ _;have W:¬ ~~~es>1:=()
 rw[ay (),ay (by simp[W])];show al (show wpAny _ _ (if (not t.led&&not es.isEmpty)=G then unsupported "set:maker-not-led" else pure Unit.unit) _ _ _ from ?_);rw[ay (by rw[S.led,N];simp)];show aI (aI h)
def LO(S:lZ s.heap a es ep t b)(q:t7 s.heap it a f i es.size ep):a≠it:=pM S.at_ q (by simp)
def La(z:A.handled=J)(h:∀h' e,(∀b o,s.heap.get? b=!o->h'.get? b=!o)->(∃o,h'.get? e=!o/\o.cls=.type "StopIteration")->E (YV e) { s with heap:=h' }):
 wpAny (model prog w) A (newExc (.type "StopIteration") [] >>= λe=>(raiseNew e:Sem α)) Q' E s:=by
 show al ?_;show al (wpAny_newObj_type (al (wpAny_of_eq () (wpAny_newObj_type ?_ (by size_fits)))) (by size_fits));show al (wpAny_handled ?_);rw[z];show al (aI (wpAny_throw (h _ _ (λb o q=>cE _ (cE _ q)) #[_,dE _ O,O])))
def GX{P:Addr}(i:s.heap.get? P=!(seqObj "tuple" xs k))(h:Q (!xs) s):wpAny (model prog w) A (seqItems? (YV P)) Q E s:=by show al (wpAny_load i ?_);show aI h
def yd{sl:Nat}(hh:A.handled=J)(S:lZ s.heap a es ep t (not (byText w)))(q:t7 s.heap N a (rawInt sl) i es.size ep)(r:Option (Value×Nat))
 (hn:∀{A':Around}{Q':Option (Value×Nat)->Shared->Prop}{E':Value->Shared->Prop},Q' r s->wpAny (model prog w) A' (setNext a sl i ep) Q' E' s)
 (h1:∀x n h',r=!(x,n)->Heap.SameBut N s.heap h'->t7 h' N a (rawInt n) (i+1) es.size ep->Q (!x) { s with heap:=h' })
 (h2:r=J->∀h',Heap.ExtBut N s.heap h'->Q J { s with heap:=h' }):wpAny (model prog w) A (pyNext (YV N)) Q E s:=by
 have hT:s.TypeIs (YV N) "set_iterator":=#[_,q,O];show al (wpAny_attempt (wpAny_callSpecial?_slot hT oN (wpAny_call_entry oN hT Qf ?_ (K8 _))));show al (aI ?_);show al (wpAny_fieldsOf q O (al (wpAny_setEntries_of S.at_ O S.fits ?_)));rw[ay (by simp)];show al (hn ?_);cases r with
 |some x=>
  let(x,n):=x;show al (wpAny_setField_rec q (by simp) λg1 q1 b1=>al (wpAny_setField_rec q1 (by simp) λg2 q2 b2=>aI #[_,O,aI (h1 x n g2 O (b1.trans b2) ?_)]));show q2
 |none=>
  show al (wpAny_setField_rec q (by simp) λg1 q1 b1=>La hh λg2 e k pV=>?_);let(o,ho,hc):=pV;show al (wpAny_isInstance (T:="StopIteration") (#[o,ho,hc]) isSubtype_stop (?_:wpAny _ _ _ _ _ _));show aI (h2 O _ λb o hb z=>k b o (b1.extBut b o hb z))
def Ig{F P a:Addr}{pl:List Nat}(hh:A.handled=J)(S:lZ s.heap a es ep t (not (byText w)))(q:t7 s.heap F a (YV P) i es.size ep)
 (hP:s.heap.get? P=!(seqObj "tuple" (pl.map λj:Nat=>rawInt j).toArray k)) (hp:∀j∈pl,j< ~~~es)
 (h1:∀j h',pl[i]?=!j->Heap.SameBut F s.heap h'->t7 h' F a (YV P) (i+1) es.size ep->Q (!(es.getD j (0,.none)).2) { s with heap:=h' })
 (h2:pl[i]?=J->∀h',Heap.ExtBut F s.heap h'->Q J { s with heap:=h' }):wpAny (model prog w) A (pyNext (YV F)) Q E s:=by
 have hT:s.TypeIs (YV F) "set_iterator":=#[_,q,O];show al (wpAny_attempt (wpAny_callSpecial?_slot hT oN (wpAny_call_entry oN hT Qf ?_ (K8 _))));show al (aI ?_);show al (wpAny_fieldsOf q O (al (wpAny_setEntries_of S.at_ O S.fits ?_)));rw[ay (by simp)];show al (GX hP ?_);show wpAny _ _ (match (pl.map λj:Nat=>rawInt j).toArray[i]? with |some (.int place _)=>_ |some _=>_ |none=>_) _ _ _;cases N:pl[i]? with
 |some j=>
  rw[show (pl.map λj:Nat=>rawInt j).toArray[i]?=some (rawInt j) from by simp[N]];let io:=hp j (eI N);show wpAny _ _ (setNextDrawn a j ep >>= λx=>setField (YV F) 1 (rawInt ((i:Int)+1)) >>= λ_=>ret x) _ _ _;show al ?_;show al (wpAny_setState_of S.at_ O S.fits ?_);dsimp only;rw[ay (by simp),Array.getElem?_eq_getElem io];have e0:(es.getD j (0,.none)).2=es[j].2:=by simp[io]
  let x8:=h1 j;rw[e0]at x8;show aI (al (wpAny_setField_rec q (by simp) λg1 q1 b1=>aI #[_,O,aI (x8 g1 N b1 ?_)]));show q1
 |none=>
  rw[show (pl.map λj:Nat=>rawInt j).toArray[i]?=J from by simp at N ⊢;show N];show al (wpAny_setField_rec q (by simp) λg0 q0 b0=>al (wpAny_setField_rec q0 (by simp) λg1 q1 b1=>La hh λg2 e k p_=>?_));let(o,ho,hc):=p_;show al (wpAny_isInstance (T:="StopIteration") (#[o,ho,hc]) isSubtype_stop (?_:wpAny _ _ _ _ _ _));show aI (h2 N _ λb o hb z=>k b o (b1.extBut b o hb (b0.extBut b o hb z)))
def vI.keep{z P a:Addr}(W:vI w h z P a es ep t vs i)(F:∀o,h.get? z=!o->h'.get? z=!o)(k2:∀o,h.get? P=!o->h'.get? P=!o):vI w h' z P a es ep t vs i:=by
 obtain⟨j,q,e⟩|⟨j,D,pl,k,q,Q,N,hp,e⟩|⟨j,D,sl,q,e,hs⟩:=W
 . show Zl #[j,F _ q,e]
 . show YY (Zl #[j,D,pl,k,F _ q,k2 _ Q,N,hp,e])
 . show YY (YY #[j,D,sl,F _ q,e,hs])
def Ih:below (List.toArray [p]) 0=0/\below (List.toArray [p]) (p+1)=1:=by
 constructor
 . simp[below,below.go]
 . simp[below,below.go]
theorem lZ.place(S:lZ h a es ep t b): ~~~t.place= ~~~es:=by have:=S.fits;simp only[SetTable.fits,fF,beq_iff_eq]at this;show this.1
def vI.ne{j P a:Addr}(S:lZ s.heap a es ep t b)(W:vI w s.heap j P a es ep t vs i):a≠j:=by rcases W with ⟨z,q,e⟩|⟨z,D,pl,k,q,N,F,Q,e⟩|⟨z,D,sl,q,e,hs⟩<;>show LO S q
def Lb:entryFor table "set_iterator.__iter__"=some Builtin.«dict_keyiterator.__iter__»:=entryFor_alias (id':="dict_keyiterator.__iter__") () () () ()
def JK(a:Value):argsOk "set_iterator.__iter__" #[[a],[]]:=by unfold argsOk;rw[signature?_of (id:="set_iterator.__iter__") (n:=['_','_','r','e','t','i','_','_']) () Qe];kernel_rfl
def W0(q:t7 s.heap it a f i n ep)(h:Q (.ref it) s):wpAny (model prog w) A (pyIter (.ref it)) Q E s:=by have hT:s.TypeIs (.ref it) "set_iterator":=#[_,q,rfl];show wpAny_pyIter_slot hT K7 (wpAny_call_entry K7 hT Lb ?_ (JK _));show show wpAny _ _ (ret (.ref it)) _ _ s from aI #[_,rfl,"set_iterator",_,hT,oN.lookup,h]
def Ur(hh:A.handled=none)(it P a:Addr)(es:Array (Int×Value))(ep:Nat)(t:SetTable)(vs:List Value):
 Walks prog w A it [it,P,a] [it] (-vs) (λi v=>vs[i]?=!v) (λi h=>vI w h it P a es ep t vs i/\lZ h a es ep t (not (byText w))) where
 sub:=λb hb=>by
  have:b=it:=by simpa using hb
  simp[this]
 frame:=λi h h' st k=>#[st.1.keep (λo q=>k it (by simp) o q) λo q=>k P (by simp) o q,st.2.moved λo q=>k a (by simp) o q]
 item:=λi s Q E hi st hQ=>by
  let(W,S):=st;obtain⟨v,hv⟩:∃v,vs[i]?=!v:=#[_,ed hi];let na:=W.ne S;have fin:∀h',Heap.SameBut it s.heap h'->vI w h' it P a es ep t vs (i+1)->Q (!v) { s with heap:=h' }:=λh' b W'=>hQ _ h' s.toks hv #[W',S.moved λo q=>(b.2 a na).trans q] λc o hc q=>b.extBut c o (λz=>hc (by simp[z])) q;obtain⟨hb,q,e⟩|⟨hb,hz,pl,k,q,hP,nV,hp,e⟩|⟨hb,hz,sl,q,e,hs⟩:=W
  . have hx:∃z,(pickOrder (w.params.setOrder a ep) es)[i]?=!z/\z.2=v:=by
     let h0:=hv;rw[e,c5,Array.getElem?_toList]at h0;cases hz:(pickOrder (w.params.setOrder a ep) es)[i]? with
     |none=>rw[hz]at h0;cases h0
     |some z=>rw[hz]at h0;show#[z,rfl,by simpa using h0]
    let(z,hz,ez):=hx;show yd hh S q (!(z.2,0)) (λ{A'} {Q'} {E'} hq=>Ib S hb (by rw[hz];show hq)) (λx n h' er b q'=>?_) (λer=>by cases er);cases er;rw[ez];show fin h' b (.inl #[hb,q',e])
  . show Ig hh S q hP (λj hj=>by simpa using hp.mem_iff.mp hj) (λj h' hj b q'=>?_) (λhn=>?_)
    . have:(es.getD j (0,.none)).2=v:=by let h0:=hv;rw[e,c5,hj]at h0;simpa using h0
      rw[this];show fin h' b (.inr (.inl #[hb,hz,pl,k,q',(b.2 P nV).trans hP,nV,hp,e]))
    . let h0:=hv;rw[e,c5,hn]at h0;cases h0
  . have hl:-vs= ~~~es:=by rw[e];simp
    have LP:i=0:=()
    have LS:sl=0:=by
     obtain⟨_,g⟩|⟨p,_,g,_⟩:=hs
     . show g
     . lia
    have LU: ~~~es=1:=()
    obtain⟨p,hp⟩:∃p,t.place=(List.toArray [p]):=by have:=S.place;rw[LU]at this;show Array.size_eq_one_iff.mp this
    have LV:below t.place sl=0:=by rw[hp,LS];show Ih.1
    have he:es[0]?=some es[0]:=Array.getElem?_eq_getElem ();have ev:v=es[0].2:=by subst LP;let h0:=hv;rw[e,c5,Array.getElem?_toList,he]at h0;simpa using h0.symm
    show yd hh S q (!(es[0].2,p+1)) (λ{A'} {Q'} {E'} hq=>Ie S hb hz (by rw[LV,he,hp];show hq)) (λx n h' er b q'=>?_) (λer=>by cases er);cases er;rw[<-ev];show fin h' b (.inr (.inr #[hb,hz,p+1,q',e,.inr #[p,hp,(),rfl]]))
 done:=λs Q E st hQ=>by
  let(W,S):=st;have fin:∀h',Heap.ExtBut it s.heap h'->Q none { s with heap:=h' }:=λh' b=>hQ h' s.toks λc o hc q=>b c o (λz=>hc (by simp[z])) q;obtain⟨hb,q,e⟩|⟨hb,hz,pl,k,q,hP,nV,hp,e⟩|⟨hb,hz,sl,q,e,hs⟩:=W
  . have hn:(pickOrder (w.params.setOrder a ep) es)[-vs]?=none:=by rw[e];simp
    show yd hh S q none (λ{A'} {Q'} {E'} hq=>Ib S hb (by rw[hn];show hq)) (λx n h' er b q'=>by cases er) (λ_=>fin)
  . show Ig hh S q hP (λj hj=>by simpa using hp.mem_iff.mp hj) (λj h' hj b q'=>by rw[e]at hj;simp at hj) (λ_=>fin)
  . have hl:-vs= ~~~es:=by rw[e];simp
    show yd hh S q none (λ{A'} {Q'} {E'} hq=>Ie S hb hz ?_) (λx n h' er b q'=>by cases er) (λ_=>fin);obtain⟨g,g'⟩|⟨p,hp,g,g'⟩:=hs
    . have:es=#[]:=by apply Array.eq_empty_of_size_eq_zero;lia
      subst this;simpa using hq
    . rw[hp,g',Ih.2];have: ~~~es=1:=()
      let hn:=kB ();rw[hn];show hq
 self:=λi s Q E st hQ=>by rcases st.1 with ⟨hb,q,e⟩|⟨hb,hz,pl,k,q,hP,nV,hp,e⟩|⟨hb,hz,sl,q,e,hs⟩<;>show W0 q hQ
def Ey(prog:Program)(w:World)(A:Around)(d:Addr)(ok:List Value->Prop)(s1:Shared):Prop:=∀(Q':Value->Shared->Prop)(E':Value->Shared->Prop),
 (∀h' dr I fp wr n P St,(∀b o,s1.heap.get? b=!o->h'.get? b=!o)->Walks prog w A I fp wr n P St->St 0 h'->(∀acc,ItemsOf P acc n->ok acc.toList)->(∀b∈fp,b=d\/s1.heap.objs.size<=b)->(∀b∈wr,~~~s1.heap.objs<=b)->n<=sizeLine->Q' (YV I) { s1 with heap:=h',drawn:=dr })->
 wpAny (model prog w) A (pyIter (YV d)) Q' E' s1
abbrev v6:Obj:={ cls:=.type "list",data:=.seq ([]:List Value).toArray }
def R7(h:ItemsOf (λi v=>vs[i]?=!v) acc (-vs)):acc.toList=vs:=by
 show ext_getElem? λi=>?_;rw[Array.getElem?_toList];cases hi:acc[i]? with
 |some v=>show(h.2 i v hi).symm
 |none=>
  have:-vs<=i:=by rw[<-h.1];show Array.getElem?_eq_none_iff.mp hi
  show(oI this).symm
def Ez(ke:T="set"\/T="dict")(hT:s.TypeIs (YV d) T)(hI:Ey prog w A.in1 d ok { s with heap:=s.heap.push v6 })
 (hQ:∀h' dr tk vs,ok vs->(∀b o,s.heap.get? b=!o->h'.get? b=!o)-> ~~~s.heap.objs<= ~~~h'.objs->Q vs { s with heap:=h',drawn:=dr,toks:=tk }):wpAny (model prog w) A (collect (YV d)) Q E s:=by
 have hd:d< ~~~s.heap.objs:=by let(o,ho,_):=hT;show bP ho
 show al (wpAny_runValue (codeAny_builtin F.entry_proto_collect (?_:wpAny _ _ _ _ _ _)));show(al (wpAny_newObj_type (aI #[plainId_quiet F.plain_list_iadd _,codeAny_builtin F.entry_list_iadd (?_:wpAny _ _ _ _ _ _)])));have x9:Shared.TypeIs { s with heap:=s.heap.push v6 } (YV d) T:=by let(o,ho,hc):=hT;show#[o,cE _ ho,hc]
 show(show wpAny _ A.in1 (Builtin.List.listExtendWith (YV s.heap.objs.size) (YV d) (YV s.heap.objs.size)) _ _ { s with heap:=s.heap.push v6 } from ?_);show al (wpAny_typeOf x9 ?_);have h1:Builtin.List.listSameRef (YV s.heap.objs.size) (YV d)=M:=by have: ~~~s.heap.objs≠d:=g_ hd;simp[Builtin.List.listSameRef,this]
 have z0:(s.heap.push v6).objs.size= ~~~s.heap.objs+1:=size_push' ..;rw[ay (by rcases ke with rfl|rfl<;>(rw[h1];decide))];show al (hI _ _ λh' dr I fp wr n P St k W st hok LY LZ fg=>?_);have ip:Shared.TypeIs { s with heap:=h',drawn:=dr } (YV d) T:=by let(o,ho,hc):=x9;show#[o,k _ _ ho,hc]
 let g1:=k _ _ (dE _ O);have nf: ~~~s.heap.objs∉fp:=λq=>by
  obtain z|z:=LY _ q
  . show absurd z (g_ hd)
  . rw[z0]at z;show absurd z (Nat.not_succ_le_self _)
 have hint:∀{Q':Bool->Shared->Prop}{E':Value->Shared->Prop},Q' M { s with heap:=h',drawn:=dr }->wpAny (model prog w) A.in1 (Builtin.List.listLengthHint (YV d)) Q' E' { s with heap:=h',drawn:=dr }:=by
  intro Q' E' q;unfold Builtin.List.listLengthHint;obtain rfl|rfl:=ke
  . show al (wpAny_specialOf ip F.slot_set_len.lookup ?_);generalize mf:("set.__len__" : String)=sf
    wp_delta
    rw[show splitId sf=some ("set","__len__") from by subst mf;decide +kernel];subst mf;show al (wpAny_isInstance (b:=G) ip (by rw[isSubtype_type];kernel_rfl) ?_);rw[ay (by simp)];dsimp only;rw[aw ()];show al (wpAny_typeOf ip (aI q))
  . show al (wpAny_specialOf ip F.slot_dict_len.lookup ?_);generalize mf:("dict.__len__" : String)=sf
    wp_delta
    rw[show splitId sf=some ("dict","__len__") from by subst mf;decide +kernel];subst mf;show al (wpAny_isInstance (b:=G) ip (by rw[isSubtype_type];kernel_rfl) ?_);rw[ay (by simp)];dsimp only;rw[aw ()];show al (wpAny_typeOf ip (aI q))
 show al (wpAny_holding (hint ?_));rw[aw (by rcases ke with rfl|rfl<;>decide +kernel)];show al (wpAny_rule (al ?_));show(al (wpAny_updateSeq g1 O ?_));let g2:=kM (Obj.mapSeq (·.push Value.none)) g1 O;show wpAny_updateSeq g2 O ?_;let g3:=kM (Obj.mapSeq (·.pop)) g2 O;have x_:∀b o,b≠s.heap.objs.size->h'.get? b=!o->((h'.update s.heap.objs.size (Obj.mapSeq (·.push Value.none))).update s.heap.objs.size (Obj.mapSeq (·.pop))).get? b=!o:=λb o hb q=>(kH _ _ (Ne.symm hb)).trans ((kH _ _ (Ne.symm hb)).trans q);show aI #[plainId_quiet F.plain_extend_loop _,codeAny_extend_loopS W.toS fg s.heap.objs.size nf (YV s.heap.objs.size) n 0 _ _ _ O (d6 _) (W.frame 0 h' _ st λb hb o q=>x_ b o (λz=>nf (z▸hb)) q) g3 (ItemsOf.nil _) λs' acc c m g4 it=>?_];show(al (wpAny_load g4 (aI ?_)));let(x1,x2,x3,x4,x5):=s';obtain rfl:x2=s.gens:=m.gens;obtain rfl:x3=dr:=m.drawn;obtain rfl:x5=s.os:=m.os;show hQ x1 x3 x4 acc.toList (hok acc it) (λb o q=>m.heap b o (λz=>?_) (x_ b o (de (bP q)) (k _ _ (cE _ q)))) (lI (bP g4));obtain z|z:=a_.mp z
 . show absurd z (de (bP q))
 . have:=LZ b z;rw[z0]at this;show absurd (eJ (bP q) (oP this)) (kC _)
def EY(F:A.handled=J)(S:lZ s.heap a es ep t (not (byText w))):Ey prog w A a (λvs=>vs.Perm (es.toList.map (·.2))) s:=λQ' E' k=>WY S λh' d j P vs ext W D l1 l2 _ _=>by
 have N:-vs= ~~~es:=by rw[D.length_eq];simp
 show k h' d j [j,P,a] [j] _ _ _ ext (Ur F j P a es ep t vs) #[W,S.moved λo q=>ext _ _ q] (λQ q=>by rw[R7 q];show D) (λb i=>?_) (λb i=>?_) (by rw[N];show Bk S.bd)
 . simp only[a_,iN,or_false]at i;obtain rfl|rfl|rfl:=i
   . show YY l1
   . show YY l2
   . show Zl O
 . simp only[a_,iN,or_false]at i;subst i;show l1
def Us(ke:T="set"\/T="dict")(hT:s.TypeIs (YV d) T)(hI:Ey prog w A.in1.in1 d ok { s with heap:=s.heap.push v6 })(hok:∀vs,ok vs->(∃D,StrsAre vs D)/\-vs<64)
 (h:∀h' dr tk L out c vs D j,ok vs->StrsAre vs D->StrsAre out.toList j->j.Perm D->sortedS j=G->(∀b o,s.heap.get? b=!o->h'.get? b=!o)->h'.get? L=!(seqObj "list" out c)-> ~~~s.heap.objs<=L->Q (YV L) { s with heap:=h',drawn:=dr,toks:=tk }):
 wpAny (model prog w) A (call (.builtin "sorted") [YV d]) Q E s:=by
 show Calls.call_function_entry kind_sorted plain_sorted entry_sorted (args_sorted1 _) ?_;show al (aI (al (Ez ke hT hI λh1 dr tk vs hv k hz=>?_)));let((D,hs),hl):=hok vs hv;show al (wpAny_newList ?_ (by rw[sizeLine_eq];lia));have W:(h1.push (seqObj "list" vs.toArray 0)).get? h1.objs.size=!(seqObj "list" vs.toArray 0):=dE _ O;show al (wpAny_holding (wpAny_call_entry slot_list_sort #[_,W,O] entry_list_sort (list_sort_treeK strKind_oneLt W hs.keysOf (λv₁ v₂ ax e=>keyKind_strs (by rw[<-e];show hs)) hl λdb p1 p2=>#[_,O,?_]) (args_list_sort _)));let(j,r1,r2,r3):=sorted_out_str hs p1 p2;let(e,he):=sortedHeap_at W;show aI #[_,O,h _ dr tk _ _ e vs D j hv hs r1 r2 r3 (λb o q=>?_) he ?_]
 . show(sortedHeap_old (de (bP (k b o q))) (by rw[size_push'];show gI (bP (k b o q)))).trans (cE _ (k b o q))
 . show hz
end
section
variable {X:Cx}{ae:List (Addr×Obj)}{U:St}{H:Hp}{s:Shared}
def ai.drew(I:ai X ae U H s)(d:Drawn):ai X ae U H { s with drawn:=d }:=
 I.step (ch:=[]) (λb j=>by cases j) (λb o _ _ _ e _=>e) (λb o _ _ _ e _=>#[o.slots,e]) (λ_ _ _ _ n=>n) (λb o _ e=>#[o,e]) (λ_ _ e=>e) (λ_ _ _ e=>e) (λb ps e=>#[#[],by rw[e];simp]) (λm q=>q) I.hok I.bare
theorem Ii:∀{j:List Str}{i:List Value},am (j.map V.str) i->StrsAre i j
 |[],i=>λr=>by cases r;show .nil
 |x::j,i=>λr=>by
  cases r with
  |cons a b=>
   let(t,rfl):=a;show .cons x t (Ii b)
theorem Ij:∀{i:List Value}{j:List Str},StrsAre i j->am (j.map V.str) i
 |_,_,.nil=>.nil
 |_,_,.cons y t r=>.cons #[t,O] (Ij r)
def Ld(P:Program)(w:World)(a:Addr)(ss:List Str):Heap->Prop:=λh=>∃es ep t,tK P w h a es ep t (not (byText w))/\(∀y,y∈gG es ↔ y∈ss)/\es.size<=-ss
def ya(X:Cx):List V->Hp->VK->Prop:=λxs H Q=>∃a ss,xs=[.ref a]/\bY X.K H a (ss.map V.str)/\-ss<4000/\∀l,H l=J->Q (.ref l) (aE H l (.ext (Ld X.prog X.w l ss)))
def W2(F:X.calm=G):lO X (.type "set") (ya X):=by
 intro ae s U H xs us Q I r h;let(a,D,rfl,N,hl,q):=h;let(u,rfl,W):=dv r;cases W;let(i,rv,pl,hz):=I.list N;let hs:=Ii rv;let e0:=Do hs;show Ou (I.ok.hd F) pl.isList () (by show i.toArray.size+1<4096;rw[eP];lia) λh' tk es j t S mem sz kp=>?_;have z: ~~~es<=-D:=by
  have e9: ~~~i.toArray=-i:=by simp
  lia
 show#[.ref s.heap.objs.size,_,I.laid (λb o e=>kp b o (bP e) e) () (show fG X.prog X.w _ h' _ (.ext (Ld X.prog X.w s.heap.objs.size D)) from #[#[es,j,t,S,mem,z],#[_,S.at_],λh1 h2 L0 k=>by let(es,j,t,S,r):=L0;show #[es,j,t,S.moved k,r]]),O,q _ (I.hok.fresh ())]
def Ut(X:Cx):List V->Hp->VK->Prop:=λxs H Q=>∃a ss,xs=[.ref a]/\H a=!(.ext (Ld X.prog X.w a ss))/\-ss<64/\∀l nX,H l=J->nX.Nodup->(∀y,y∈nX ↔ y∈ss)->sortedS nX=G->Q (.ref l) (aE H l (.lst (nX.map V.str)))
def Uu(p:vs.Perm (es.toList.map (·.2)))(h:StrsAre vs ss):ss.Perm (gG es):=by
 rw[<-h.strs];have:=p.map strOf
 rwa [fE]at this
def Fb(hc:X.calm=G):lO X (.builtin "sorted") (Ut X):=by
 intro ae s U H xs us Q I r h;let(a,ss,rfl,W,hl,q):=h;let(u,rfl,rx):=dv r;cases rx;let((es,ep,t,S,mem,sz),_):=I.hok a _ W;show Us (T:="set") (Zl O) #[_,S.at_,O] (EY (by simpa using I.ok.hd hc) (S.1.moved λo e=>cE _ e)) (λj p=>#[#[_,strsAre_map j λv F=>?_],?_]) λh' dr N L out c j s1 i p t1 t2 p2 so kp g z=>?_
 . let(e,he,rfl):=ck.mp (p.mem_iff.mp F);let((k,h1,_),_):=S.el e he;let(u,hu):=Value.isStrOf_shape h1;show#[k,u,hu]
 . have:=p.length_eq;simp only[bo,e_]at this;lia
 . let pk:=p2.trans (Uu p t1);have j_:-i<=64:=by have:=pk.length_eq;unfold gG at this;simp only[bo,e_]at this;lia
   let D:=I.laid (t':=N) kp z (show fG X.prog X.w _ h' L (.lst (i.map V.str)) from #[by rw[bo,sizeLine_eq];lia,out.toList,c,Ij t2,g]);show#[.ref L,_,D.drew dr,O,q L i (I.hok.fresh z) (pk.nodup_iff.mpr S.nd) (λy=>(pk.mem_iff).trans (mem y)) so]
end
section
variable {X:Cx}
theorem Qg:∀{ns:List Int}{j:List Value},am (ns.map V.int) j->∀(i:Nat)(v:Value),j[i]?=!v->∃t,v=.int (ns.getD i 0) t
 |[],j=>λr i v h=>by cases r;simp at h
 |n::ns,j=>λr i v h=>by
  cases r with
  |cons a b=>
   let(t,rfl):=a;cases i with
   |zero=>cases h;show#[t,O]
   |succ i=>
    let(u,e):=Qg b i v ();show#[u,by simpa using e]
theorem Dp:∀{ns:List Int},(∀n∈ns,0<=n)->∀j,0<=(ns.take j).sum/\(ns.take j).sum<=ns.sum/\0<=ns.getD j 0/\ns.getD j 0<=ns.sum
 |[],_,j=>by simp
 |n::ns,h,j=>by
  let D:=h n be;let i:=Dp λx q=>h x (cw _ q);let z:=i 0;cases j with
  |zero=>simp at z ⊢;lia
  |succ j=>
   have:=i j;simp only[take_succ_cons,sum_cons,getD_cons_succ]at this ⊢;lia
def Le(hc:X.calm=G):lO X (.builtin "sum") (λxs H Q=>∃(p:Addr)(ns:List Int),xs=[.ref p]/\bY X.K H p (ns.map V.int)/\(∀n∈ns,0<=n)/\ns.sum<4611686018427387904/\Q (.int ns.sum) H):=by
 intro ae s U H xs us Q I r h;let(p,ns,rfl,hq,hp,hs,q):=h;let(u,rfl,rx):=dv r;cases rx;let(D,rv,pl,hz):=I.list hq
 have F:p< ~~~s.heap.objs:=by let(o,ho,_):=pl.isList;show bP ho
 let N:=de F;show call_sum_walk (wpAny_pyIter_list pl.isList #[s.heap.objs.size,_,_,_,_,_,λi=>ns.getD i 0,O,Walks.list (by simpa using I.ok.hd hc) s.heap.objs.size p N D.toArray,#[#[_,dE _ O,O,O],pl.isList.push _],λb W=>?_,λi v hv=>Qg rv i v ∅,λj hj=>?_,λh' tk t' k=>?_])
 . rw[lv];simp only[a_,iN,or_false]at W;obtain rfl|rfl:=W
   . show jp _
   . show gI F
 . let a:=Dp hp j;let b:=Dp hp (j+1);rw[preSum_getD];unfold InLong;lia
 . rw[preSum_getD];have e: ~~~D.toArray=-ns:=by simp[(by simpa using (-rv))]
   rw[e,take_length];show#[.int ns.sum,H,?_,#[t',O],q];show I.kept λb o z=>k b o (λm=>by
    have:b= ~~~s.heap.objs:=by simpa using m
    show absurd (bP z) ∅) (cE _ z)
end
noncomputable def L1:V->Option Str
 |.str z=>!z
 |.int i=>if i.natAbs.log2<1920 then !(toString i) else J
 |_=>J
def Qh(c:Str):Str.empty++c=c:=by show (#[#[]++c.cps]:Str)=c;rw[Array.empty_append]
def L3(c:Str)(t:TE):TE:=λU H Q=>t U H λv H'=>∃z,L1 v=!z/\-(c++z)<=sizeLine/\-z<=sizeLine/\Q (.str (c++z)) H'
section
variable {X:Cx}
def L4(hc:-c<=sizeLine)(he:PE X e t):PE X (.JoinedStr [.Constant (.str c) j p1,.FormattedValue e (-1) J p2] p3) (L3 c t):=λae s U H Q I h=>by
 show JoinedStr_many (joinParts_cons (Calls.Constant_str #[by rw[Qh];show hc,?_]));rw[Qh];show joinParts_cons (FormattedValue_plain (wpAny_mono (he ae _ U H _ (I.tok _) h) (λu s1 q=>?_) λ_ _ x=>x));let(v,H',I1,rv,z,N,F,W,q):=q;cases v with
 |str x=>
  cases N;let(tk,rfl):=rv;show formatField_str (λt' tk=>#[F,joinParts_nilE (joinParts_nil #[.str (c++z),H',(I1.tok _).tok _,#[_,O],q] F)]) W
 |int i=>
  have D:(if i.natAbs.log2<1920 then !(toString i) else J:Option Str)=!z:=N;split at D
  . rename_i hi;cases D;let(tk,rfl):=rv;show formatField_int_small hi #[F,joinParts_nilE (joinParts_nil #[.str (c++toString i),H',((I1.tok _).tok _),#[_,O],q] F)]
  . cases D
 |_=>cases N
end
abbrev aV:=Option c8
def nR:aV->V
 |none=>.non
 |some k=>kV k
def W3:aV->Value->Bool
 |none,v=>v==.none
 |some k,v=>vA k v
def L5(w:World):aV->Int
 |none=>0xFCA86420
 |some k=>wf w k
theorem fH:∀{k:aV}{v:Value},W3 k v=G->(k=J/\v=.none)\/∃x,k=!x/\vA x v=G
 |none,v=>λh=>Zl #[O,by
  cases v<;>first | rfl | (exfalso;revert h;unfold W3;simp)]
 |some x,v=>λh=>YY #[x,O,h]
section
variable {prog:Program}
def Uv(h:Q 0xFCA86420 { s with toks:=s.toks+1 }):wpAny (model prog w) A (pyHash .none) Q E s:=by have i:s.TypeIs .none "NoneType":=O;show al ?_;show aI (al (wpAny_specialOf i F.slot_NoneType_hash.lookup ?_));show al (wpAny_specialOf i F.slot_NoneType_hash.lookup (al (wpAny_callSpecialIfBoundUnlessNone?_slot i F.slot_NoneType_hash (wpAny_call_entry F.slot_NoneType_hash i F.entry_NoneType_hash ?_ ()))));show wpAny_ret_mkInt ?_;show aI h
end
def eV(prog:Program)(w:World):PySem.KeyKind prog w aV where
 is:=W3
 hash:=L5 w
 inj:=λv a b ha hb=>by
  obtain⟨rfl,rfl⟩|⟨x,rfl,hx⟩:=fH ha
  . obtain⟨rfl,_⟩|⟨y,rfl,hy⟩:=fH hb
    . rfl
    . rcases dB hy with ⟨i,t,_,e⟩|⟨i,t,_,e⟩<;>cases e
  . obtain⟨rfl,e⟩|⟨y,rfl,hy⟩:=fH hb
    . subst e;rcases dB hx with ⟨i,t,_,e⟩|⟨i,t,_,e⟩<;>cases e
    . show congrArg some ((fW prog w).inj v x y hx hy)
 byValue:=λk v h=>by
  obtain⟨rfl,rfl⟩|⟨x,rfl,hx⟩:=fH h
  . rfl
  . show(fW prog w).byValue x v hx
 pyHash:=λhv h=>by
  obtain⟨rfl,rfl⟩|⟨x,rfl,hx⟩:=fH hv
  . show Uv h
  . show(fW prog w).pyHash hx h
 eqBool:=λhu hv h=>by
  obtain⟨rfl,rfl⟩|⟨x,rfl,hx⟩:=fH hu
  . obtain⟨rfl,rfl⟩|⟨y,rfl,hy⟩:=fH hv
    . show SeqAt.EqAt.same _ _ _ _ _ h
    . obtain⟨i,t,rfl,rfl⟩|⟨i,t,rfl,rfl⟩:=dB hy
      . show SeqAt.EqAt.none_int i t _ _ _ _ h
      . show SeqAt.EqAt.none_str i t _ _ _ _ h
  . obtain⟨rfl,rfl⟩|⟨y,rfl,hy⟩:=fH hv
    . obtain⟨i,t,rfl,rfl⟩|⟨i,t,rfl,rfl⟩:=dB hx
      . show SeqAt.EqAt.int_none i t _ _ _ _ h
      . show SeqAt.EqAt.str_none i t _ _ _ _ h
    . show(fW prog w).eqBool hx hy ?_;have e:decide ((some x:aV)=!y)=decide (x=y):=by simp
      rw[e]at h;show h
 «strs»:=λk x t v h=>by
  obtain⟨rfl,e⟩|⟨y,rfl,hy⟩:=fH h
  . cases e
  . show(fW prog w).strs y x t v hy
theorem L6:∀{k:aV}{u:Value},av (nR k) u->(eV P w).is k u=G
 |none,u=>λr=>by let e:=r;subst e;rfl
 |some k,u=>λr=>J7 (P:=P) (w:=w) r
theorem Qi:∀{ks:List aV}{i:List Value},am (ks.map nR) i->ItemsAre (eV P w) ks i
 |[],i=>λh=>by let e:=h.zero;subst e;show .nil
 |k::ks,i=>λh=>by
  cases h with
  |cons r t=>show .cons (L6 r) (Qi t)
def CT(P:Program)(w:World):List aV->Int:=(tupleKind (eV P w)).hash
abbrev XD:=List (List aV×Addr×V)
abbrev XV:=List (List aV×Addr×Value)
def XR:XD->XV->Prop:=Paired λx y=>x.1=y.1/\x.2.1=y.2.1/\av x.2.2 y.2.2
def wA(hk:List aV->Int)(a:Addr)(xs:XD):Heap->Prop:=λh=>-xs<=sizeLine/\(a==sysModules)=M/\∃ys:XV,XR xs ys/\(ys.map (·.1)).Nodup/\
 ∃o es ep,h.get? a=!o/\o.ExactDict/\o.data=.dict es ep/\es.toList=ys.map λy=>#[hk y.1,YV y.2.1,y.2.2]
def dX(P:Program)(w:World)(a:Addr)(xs:XD):HO:=.ext (wA (CT P w) a xs)
def yb(p:wA hk a xs h):fG P w H h a (.ext (wA hk a xs)):=by let q:=p;let(_,_,ys,_,_,o,es,i,e,_):=q;show#[p,#[o,e],λh1 h2 qa k=>by let(z,m,ys,r,n,o,es,i,e,g):=qa;show #[z,m,ys,r,n,o,es,i,k _ e,g]]
def jT(xs:XD)(k:List aV):Option V:=(xs.find? λx=>decide (x.1=k)).map (·.2.2)
theorem XR.at:∀{xs:XD}{ys:XV},XR xs ys->(∀v,jT xs k=!v->∃p,atKey ys k=!p/\av v p.2)/\(jT xs k=J->atKey ys k=J)
 |_,_,.nil=>#[λv h=>(by cases h),λ_=>O]
 |x::xs,y::ys,.cons #[h1,h2,j] t=>by
  let i:=XR.at (k:=k) t;unfold jT atKey at i ⊢;by_cases e:x.1=k
  . grind
  . grind
theorem XR.snoc(h:x.1=y.1/\x.2.1=y.2.1/\av x.2.2 y.2.2):∀{xs:XD}{ys:XV},XR xs ys->XR (xs++[x]) (ys++[y])
 |_,_,.nil=>.cons h .nil
 |_,_,.cons a t=>.cons a (XR.snoc h t)
theorem XR.mem:∀{xs:XD}{ys:XV},XR xs ys->∀y∈ys,∃x∈xs,x.1=y.1/\x.2.1=y.2.1
 |_,_,.nil=>λy h=>by cases h
 |x::xs,z::ys,.cons #[h1,h2,_] t=>λy h=>by
  obtain rfl|h:=a_.mp h
  . grind
  . let(i,m,e):=XR.mem t y h;grind
section
variable {prog:Program}{w:World}{A:Around}{E:Value->Shared->Prop}{s:Shared}{K:Type}[DecidableEq K]{knd:HeapKind prog w K}
def Ov(hu:knd.room A)(i:knd.is s.heap k a)(hm:s.heap.DictOfH knd d xs)
 (q1:∀p,atKey xs k=!p->Q p.2 { s with toks:=s.toks+knd.draws k })
 (q2:atKey xs k=J->∀h',h'.DictOfH knd d (xs++[(k,a,v)])->Heap.SameBut d s.heap h'->Q v { s with heap:=h',toks:=s.toks+knd.draws k })
 (fg:-xs<=sizeLine):wpAny (model prog w) A (dictSetDefault d (YV a) v) Q E s:=by
 let(o,es,ep,D,hc,q,he,N,hn):=hm;let hsz':=size_of_entries he;show wpAny_holding ?_;show al (knd.pyHash hu i (al (wpAny_dictFind_heap hu i D q he N hn (λF=>?_) λj p hj=>?_)))
 . let hq:=atKey_none_of_get F;show al (wpAny_rule (al (wpAny_updateDictKeys D q (aI (q2 hq _ ?_ (jI ..))))));show#[_,_,ep+1,kM _ D (Obj.isFreed_of_dict (Obj.data_mapDictKeys q _)),hc.mapDictKeys _,Obj.data_mapDictKeys q _,by simp[he,entryOfKey],λx z=>?_,?_]
   . obtain z|z:=cr.mp z
     . show knd.keeps (N x z) D q (jI ..)
     . rw[eR.mp z];show knd.keeps i D q (jI ..)
   . rw[cy];show ny.mpr #[hn,fI.mpr #[iN,nv],λx z y hy e=>not_mem_keys_of_get F ?_];grind
 . show al (wpAny_dictEntries D q ?_);rw[entry_at he j,hj];show al (wpAny_rule (aI (q1 p (atKey_of_get hn hj))))
end
section
variable {X:Cx}
def ux{U:St}(I:ai X ae U H s)(e:cW X.K H b (k.map nR)):(tupleKind (eV P w)).is s.heap k b:=by let(i,r,(o,h1,h2,n,j),_):=I.tuple e;show#[o,i.toArray,n,h1,h2,j,by simpa using Qi r]
def ai.dx{U:St}(I:ai X ae U H s)(e:H a=!(dX X.prog X.w a xs))(hk:∀x∈xs,cW X.K H x.2.1 (x.1.map nR)):
 -xs<=sizeLine/\(a==sysModules)=M/\∃ys:XV,XR xs ys/\s.heap.DictOfH (tupleKind (eV X.prog X.w)) a ys:=by
 let((z,m,ys,r,n,o,es,F,h1,h2,i,Q),_):=I.hok a _ e;show#[z,m,ys,r,o,es,F,h1,h2,i,Q,λy j=>?_,n];let(x,q,D,N):=r.mem y j;rw[<-D,<-N];show ux I (hk x q)
theorem XR.len:∀{xs:XD}{ys:XV},XR xs ys->-ys=-xs
 |_,_,.nil=>rfl
 |_,_,.cons _ t=>by rw[bi,bi,XR.len t]
def Uw(P:Program)(w:World)(K:FG):V->List V->Hp->VK->Prop:=λx vs H Q=>∃a b xs k v,x=.ref a/\vs=[.ref b,v]/\H a=!(dX P w a xs)/\(∀x∈xs,cW K H x.2.1 (x.1.map nR))/\cW K H b (k.map nR)/\-xs<sizeLine/\
 match jT xs k with
 |some u=>Q u H
 |none=>Q v (aE H a (dX P w a (xs++[(k,b,v)])))
def Ux(hu:X.A.units+1<cLine):PP X "dict.setdefault" (Uw X.prog X.w X.K):=by
 intro ae s U H x vs v us Q I rx rv h;let(a,b,xs,k,y,rfl,rfl,hH,W,hb,hl,q):=h;cases rx;let(u,r,rfl,rb,ry):=rv.two;cases (rb);let(z,m,ys,j,dd):=I.dx hH W;let n4:=j.len;show call_meetsIn F.slot_dict_setdefault dd.typeIs F.entry_dict_setdefault () (S:=λA ZN s'=>A=X.A/\ZN=wants (EP X ae U Q) X.xe/\s'=s) (.of_wp λA ZN s' L_=>?_) #[O,O,O];let(e1,e2,e3):=L_;subst e1 e2 e3;show al ?_;show al (wpAny_notOrdered_dict dd.typeIs ?_);show(aI ?_);dsimp only;rw[ay ∅];show al (Ov (tupleKind_room_in1 hu) (ux I hb) dd (λp hp=>aI #[p.2,O,?_]) (λhn h' D hs=>aI #[r,O,?_]) ())
 . cases e:jT xs k with
   |none=>rw[(j.at).2 e]at hp;grind
   |some N=>
    rw[e]at q;let(p',i,rp):=(j.at).1 N e;rw[hp]at i;cases i;show#[_,_,I.tok _,rp,q]
 . cases e:jT xs k with
   |some N=>
    let(p',i,_):=(j.at).1 N e;grind
   |none=>
    rw[e]at q;let(o,es,ep,h1,h2,h3,h4,h5,h6):=D;show#[_,_,GQ I (by rw[hH];show True.intro) hs #[o,h1] (yb #[?_,m,ys++[(k,b,r)],j.snoc #[O,O,ry],h6,o,es,ep,h1,h2,h3,h4]),ry,q];grind
def Y8(P:Program)(w:World)(K:FG):V->List V->Hp->VK->Prop:=λx vs H Q=>∃a b xs k v,x=.ref a/\vs=[.ref b,v]/\H a=!(dX P w a xs)/\(∀x∈xs,cW K H x.2.1 (x.1.map nR))/\cW K H b (k.map nR)/\Q ((jT xs k).getD v) H
def Qj(hu:X.A.units+1<cLine):PP X "dict.get" (Y8 X.prog X.w X.K):=by
 intro ae s U H x vs v us Q I rx rv h;let(a,b,xs,k,y,rfl,rfl,hH,i,hb,q):=h;cases rx;let(u,r,rfl,rb,N):=rv.two;cases (rb);let(z,m,ys,j,D):=I.dx hH i;show call_meetsIn F.slot_dict_get D.typeIs F.entry_dict_get (F.args_dict_get_3 _ _ _) (meetsH_dict_get_default (tupleKind (eV X.prog X.w)) a b m r) #[tupleKind_room_in1 hu,k,ys,ux I hb,D,?_];show#[_,_,I.tok _,?_,q];cases e:jT xs k with
 |none=>
  rw[(j.at).2 e];show N
 |some W=>
  let(p',Mb,rp):=(j.at).1 W e;grind
def Lg{apos cpos:Pos}{id:String}(q:Slot "dict" name id)(W:typeOf (.builtin id)=pure (.type "method_descriptor"))(hm:PP X id r)(ho:PE X o to)(ha:PA X [e1,e2] t)
 (j:attributeBase o name X.env (eval o X.env)=eval o X.env:=by rfl)
 (z:((backTo cpos (starEach [e1,e2] X.env)).all (λx=>not x.1)&&(backToKw cpos (keywordEach [] X.env)).all (λx=>x.1.isSome)
   && decide ([e1,e2].length+-([]:List Keyword)+(if ([]:List Keyword).isEmpty then 0 else 1)<30))=G:=by rfl)
 (i:(apos.endLine==cpos.line)=G:=by rfl) (hs:starEach [e1,e2] X.env=(M,eval e1 X.env)::starEach [e2] X.env:=by rfl) (D:(backTo cpos (starEach [e2] X.env)).any (·.1)=M:=by rfl):
 PE X (.Call (.Attribute o name apos) [e1,e2] [] cpos) (λU H Q=>to U H λx H1=>(∃a hk xs,x=.ref a/\H1 a=!(.ext (wA hk a xs)))/\t U H1 λvs H2=>r x vs H2 Q):=by
 intro ae s U H Q I h;show wpAny_Call_method_late j z i O (dg (ho ae s U H _ I h) λv s1 Mc=>?_);let(x,H1,I1,r1,(a,hk,xs,ea,hH),q1):=Mc;subst ea;cases r1;let((_,_,ys,_,_,o,es,ep,h1,h2,_),_):=I1.hok a _ hH;show#["dict",id,F.plainAttrs_dict,q,W,#[o,h1,h2.1],λb e=>(by cases e;show#[o,h1,h2.2.1]),?_];let hA:=ha cpos ae s1 U H1 _ I1 q1;rw[hs]at hA ⊢;show Calls.callWith_builtin () (Calls.evalArgs_plain ?_);show dg hA λus s2 Me=>by let(vs,H2,I2,r2,q2):=Me;show hm ae s2 U H2 (.ref a) vs (YV a) us Q I2 O r2 q2
def W4:PE X (.Dict [] [] pos) (λ_ H Q=>∀p,H p=J->Q (.ref p) (aE H p (dX X.prog X.w p []))):=λae s U H Q I h=>
 wpAny_Dict_empty #[.ref s.heap.objs.size,_,I.laid (λ_ _ q=>cE _ q) () (yb #[d6 _,nE.mpr (Ne.symm (de I.big)),[],.nil,nv,_,#[],0,dE _ O,#[O,O,O],O,O]),O,h _ (I.hok.fresh ())]
end
def yi(a c:Addr):Heap->Prop:=λh=>∃o,W.InstAt h a o c J
end L2
namespace L2
open PySem PySem.Spec PyProof.Rows PySem.W
def fN.un(i:Nat)(D:fN):fN:={ nx:=λU H=>D.nx (U.set i J) H,rt:=D.rt,bk:=λU H=>D.bk (U.set i J) H,ct:=λU H=>D.ct (U.set i J) H }
theorem Ik:∀(l:List α)(m:List β),-l=-m->(∀(i:Nat) a b,l[i]?=!a->m[i]?=!b->F a b)->Paired F l m
 |[],[],_,_=>.nil
 |a::l,b::m,h,g=>.cons (g 0 a b O O) (Ik l m ∅ λi x y h1 h2=>g (i+1) x y h1 h2)
section
variable {X:Cx}
def W5:lO X (.type "range") (λxs H Q=>∃j,xs=[.int j]/\∀r,H r=J->Q (.ref r) (aE H r (.rng 0 j))):=by intro ae s U H xs i Q I r h;let(j,rfl,q):=h;let(u,rfl,t,rfl):=dv r;show call_range_1 #[.ref s.heap.objs.size,_,I.laid (λb o e=>cE _ e) () (show fG X.prog X.w _ _ _ (.rng 0 j) from #[_,_,_,dE _ O]),O,q _ (I.hok.fresh ())]
def JL(hc:X.calm=G):lO X (.type "list") (λxs H Q=>∃p j,xs=[.ref p]/\H p=!(.rng 0 j)/\0<=j/\j<=100000/\∀l,H l=J->Q (.ref l) (aE H l (.lst ((List.range j.toNat).map λi=>.int (i:Nat))))):=by
 intro ae s U H xs us Q I r h;let(p,j,rfl,e,h0,h1,q):=h;let(u,rfl,rx):=dv r;cases rx;let(t,u,v,hr):=(I.hok p _ e);show call_list_range (n:=j.toNat) (I.ok.hd hc) hr (small_one () () () ()) ?_ () λh' tk D c' hk N z=>?_
 . rw[rangeSize_one];split<;>lia
 . show#[.ref s.heap.objs.size,_,I.laid hk () (show fG X.prog X.w _ h' _ (.lst _) from #[?_,D.toList,c',?_,by simpa using N]),O,q _ (I.hok.fresh ())]
   . rw[bo,fy,sizeLine_eq];lia
   . show Ik _ _ (by simp[z.1]) λi a b F W=>?_;rw[Array.getElem?_toList]at W;let(tk,rfl):=z.2 i b W;rw[c5]at F;cases hi:(List.range j.toNat)[i]? with
     |none=>rw[hi]at F;cases F
     |some k=>
      rw[hi]at F;cases F;let lt:=(c9.mp hi).1;rw[fy]at lt;rw[getElem?_range lt]at hi;cases hi;show#[tk,by simp]
end
def qF(κ:KeyKind)(kd:SortKind)(prog:Program)(w:World)(A:Around)(s:Shared):Prop:=
 ∀(E:Value->Shared->Prop)(x y:Value)(a b:κ.α){Q:Bool->Shared->Prop},κ.keyOf x=!a->κ.keyOf y=!b->Q (κ.blt a b) s->wpAny (model prog w) A (keyLt' kd x y) Q E s
noncomputable def tL:Bool->Keyed->Array Keyed->Nat->Nat->Nat->StateT SortSt Sem (Option Nat):=sortPriv% PySem.Builtin.gallop
noncomputable abbrev Lh (lf:Bool) (key:Keyed) (gy:Array Keyed) (base i:Nat):StateT SortSt Sem (Option Bool):=do
 let x <-elem' gy (base+i)
 if lf then lt' x key else return (<-lt' key x).map not
def Li(lf:Bool)(key:Keyed)(gy:Array Keyed)(base n lo hi:Nat):StateT SortSt Sem (Option Nat):=do
 let mut lo:=lo
 let mut hi:=hi
 for _ in [0:n] do
  if lo ≥ hi then break
  let m:_:=lo+(hi-lo)/2
  let some more <-Lh lf key gy base m |return J
  if more then lo:=m+1 else hi:=m
 return !hi
section
variable {prog:Program}{w:World}{A:Around}{E:Value->Shared->Prop}{s:Shared}{κ:KeyKind}{kd:SortKind}
def wC(j:qF κ kd prog w A s){st:SortSt}(hk:kindOf st=kd)(i:κ.keyOf x.1=!a)(q:κ.keyOf y.1=!b)(h:Q (!(κ.blt a b)) st):wpS (model prog w) A E s (lt' x y) Q st:=by rw[lt'_eq];show wpS_bind (wpS_get ?_);rw[hk];show wpS_bind (wpS_lift (wpAny_attempt (j _ x.1 y.1 a b i q #[O,?_])));show wpS_pure h
def Uy(F:qF κ kd prog w A s){st:SortSt}{i j:Nat}(hk:kindOf st=kd)
 (hi:(arrOf st)[i]?=!(x,p)) (N:(arrOf st)[j]?=!(y,q)) (z:κ.keyOf x=!a) (D:κ.keyOf y=!b) (h:Q (!(κ.blt a b)) st):
 wpS (model prog w) A E s (ltAt' i j) Q st:=by
 show wpS _ _ _ _ (do let x <-elem' (arrOf st) i;let y <-elem' (arrOf st) j;lt' x y) Q st;rw[elem'_eq,elem'_eq,hi,N];show wpS_bind (wpS_pure (wpS_bind (wpS_pure (wC F hk z D h))))
def Lj{st:SortSt}(hi:gy[i]?=!p)(h:Q p st):wpS (model prog w) A E s (elem' gy i) Q st:=by rw[elem'_eq,hi];show wpS_pure h
def iJ(κ:KeyKind)(lf:Bool)(a c:κ.α):Bool:=if lf=G then κ.blt c a else not (κ.blt a c)
def W6(h:κ.kle c d)(i:iJ κ lf a d=G):iJ κ lf a c=G:=by
 unfold iJ at *;cases lf
 . simp only[fB,if_false,Bool.not_eq_true']at *;show KeyOrd.kle_trans h i
 . show KeyOrd.klt_of_kle_of_klt h i
def El(κ:KeyKind)(gy:Array Keyed)(base n:Nat)(f:Nat->κ.α):Prop:=∀i,i<n->∃p,gy[base+i]?=!p/\κ.keyOf p.1=!(f i)
def ye(z:qF κ kd prog w A s){st:SortSt}(hk:kindOf st=kd)(j:κ.keyOf key.1=!a)(he:El κ gy base n f)(hi:i<n)(h:Q (!(iJ κ lf a (f i))) st):wpS (model prog w) A E s (Lh lf key gy base i) Q st:=by
 let(p,e,q):=he i hi;show wpS_bind (Lj e ?_);cases lf
 . show wpS_bind (wC z hk j q (wpS_pure h))
 . show wC z hk q j h
def uy(hO:qF κ kd prog w A s){st:SortSt}(hk:kindOf st=kd)(ha:κ.keyOf key.1=!a)(he:El κ gy base n f)(hs:∀i j,i<=j->j<n->κ.kle (f i) (f j))(hh:hint<n)(h:∀k,k<=n->(∀i,i<k->iJ κ lf a (f i)=G)->(∀i,k<=i->i<n->iJ κ lf a (f i)=M)->Q (!k) st):wpS (model prog w) A E s (tL lf key gy base n hint) Q st:=by
 have dn:∀i j,i<=j->j<n->iJ κ lf a (f j)=G->iJ κ lf a (f i)=G:=λi j h1 h2=>W6 (hs i j h1 h2);have up:∀i j,i<=j->j<n->iJ κ lf a (f i)=M->iJ κ lf a (f j)=M:=λi j h1 h2 N=>by
  cases hb:iJ κ lf a (f j)
  . rfl
  . rw[dn i j h1 h2 hb]at N;cases N
 show wpS_bind (ye hO hk ha he hh ?_);have pf:∀lo hi:Nat,lo<=hi->hi<=n->(∀i,i<lo->iJ κ lf a (f i)=G)->(∀i,hi<=i->i<n->iJ κ lf a (f i)=M)->
  wpS (model prog w) A E s (Li lf key gy base n lo hi) Q st:=λlo hi h1 h2 N D=>by
  have fin:∀lo hi:Nat,lo=hi->hi<=n->(∀i,i<lo->iJ κ lf a (f i)=G)->(∀i,hi<=i->i<n->iJ κ lf a (f i)=M)->wpS (model prog w) A E s (match ((J,lo,hi):Option (Option Nat)×Nat×Nat).1 with |some r=>pure r |none=>pure (!hi)) Q st:=λlo hi e h2 N D=>by subst e;show wpS_pure (h lo h2 N D)
  show wpS_bind (wpS_forRange (I:=λx c z=>z=st/\∃lo hi,c=(J,lo,hi)/\lo<=hi/\hi<=n/\hi-lo<=n-x/\(∀i,i<lo->iJ κ lf a (f i)=G)/\(∀i,hi<=i->i<n->iJ κ lf a (f i)=M)) ?_ ?_ #[O,lo,hi,O,h1,h2,(),N,D])
  . intro x c z _ hx q0;let(rfl,lo,hi,rfl,h1,h2,hm,N,D):=q0;dsimp only;by_cases F:lo ≥ hi
    . rw[aw F];show wpS_pure (fin lo hi () h2 N D)
    . rw[ay F];show wpS_bind (ye hO hk ha he () ?_);cases hb:iJ κ lf a (f (lo+(hi-lo)/2))
      . simp only[fB,if_false];show wpS_pure #[O,_,_,O,(),(),(),N,λi W h6=>up _ i W h6 hb]
      . simp only[if_true];show wpS_pure #[O,_,_,O,(),(),(),λi W=>dn i _ () () hb,D]
  . intro c z q0;let(rfl,lo,hi,rfl,h1,h2,hm,N,D):=q0;show fin lo hi () h2 N D
 cases hr:iJ κ lf a (f hint)
 . simp only[fB,if_false];show wpS_bind (wpS_mono (wpS_forRange (Q:=λc z=>z=st/\∃last q,c=(J,last,q)/\last<=hint/\last<q/\iJ κ lf a (f (hint-last))=M/\(q ≥ hint+1\/iJ κ lf a (f (hint-q))=G)) (I:=λx c z=>z=st/\∃last q,c=(J,last,q)/\last<=hint/\last<q/\x<q/\iJ κ lf a (f (hint-last))=M) ?_ ?_ #[O,0,1,O,(),(),(),hr]) ?_)
   . intro x c z _ hx q0;let(rfl,last,q,rfl,h1,h2,N,D):=q0;dsimp only;by_cases F:q ≥ hint+1
     . rw[aw F];show wpS_pure #[O,last,q,O,h1,h2,D,Zl F]
     . rw[ay F];show wpS_bind (ye hO hk ha he () ?_);cases hb:iJ κ lf a (f (hint-q))
       . simp only[fB,if_false];show wpS_pure #[O,_,_,O,(),(),(),hb]
       . simp only[if_true];show wpS_pure #[O,last,q,O,h1,h2,D,YY hb]
   . intro c z q0;let(rfl,last,q,rfl,h1,h2,N,D):=q0;show#[O,last,q,O,h1,h2,D,Zl ()]
   . intro c z q0;let(rfl,last,q,rfl,h1,h2,D,W):=q0;dsimp only;show(pf (hint+1-min q (hint+1)) (hint-last) ?_ () (λi hi=>?_) λi h6 h7=>up _ i h6 h7 D)
     . obtain W|W:=W
       . lia
       . by_cases hl:q ≥ hint+1
         . lia
         . obtain h8|h8:=Nat.lt_or_ge (hint-last) (hint+1-q)
           . rw[dn (hint-last) (hint-q) () () W]at D;cases D
           . lia
     . obtain W|W:=W
       . lia
       . show dn i (hint-q) () () W
 . simp only[if_true];show wpS_bind (wpS_mono (wpS_forRange (Q:=λc z=>z=st/\∃last q,c=(J,last,q)/\hint+last<n/\last<q/\iJ κ lf a (f (hint+last))=G/\(q ≥ n-hint\/(q<n-hint/\iJ κ lf a (f (hint+q))=M))) (I:=λx c z=>z=st/\∃last q,c=(J,last,q)/\hint+last<n/\last<q/\x<q/\iJ κ lf a (f (hint+last))=G) ?_ ?_ #[O,0,1,O,(),(),(),hr]) ?_)
   . intro x c z _ hx q0;let(rfl,last,q,rfl,h1,h2,N,D):=q0;dsimp only;by_cases F:q ≥ n-hint
     . rw[aw F];show wpS_pure #[O,last,q,O,h1,h2,D,Zl F]
     . rw[ay F];show wpS_bind (ye hO hk ha he () ?_);cases hb:iJ κ lf a (f (hint+q))
       . simp only[Bool.not_false,if_true];show wpS_pure #[O,last,q,O,h1,h2,D,YY #[(),hb]]
       . simp only[Bool.not_true,fB,if_false];show wpS_pure #[O,_,_,O,(),(),(),hb]
   . intro c z q0;let(rfl,last,q,rfl,h1,h2,N,D):=q0;show#[O,last,q,O,h1,h2,D,Zl ()]
   . intro c z q0;let(rfl,last,q,rfl,h1,h2,D,W):=q0;dsimp only;show(pf (hint+last+1) (hint+min q (n-hint)) () () (λi hi=>dn i _ () h1 D) λi h6 h7=>?_);obtain W|⟨W,h8⟩:=W
     . lia
     . show up _ i () h7 h8
end
def DK(κ:KeyKind)(a:Array Keyed):Prop:=(a.toList.map λp=>κ.keyOf p.1).Nodup
structure Qk(kd:SortKind)(a₀:Array Keyed)(st:SortSt):Prop where
 perm:(arrOf st).Perm a₀
 kind:kindOf st=kd
 failed:failedOf st=none
 pend:pendingOf st=#[]
theorem Qk.atK{st:SortSt}(h:Qk kd a₀ st)(j:KeysOf κ a₀)(hi:i< ~~~a₀):∃x p a,(arrOf st)[i]?=!(x,p)/\κ.keyOf x=!a/\KK κ (arrOf st) i=a:=
 SBase.atK (st:=SortSt.mk' oneType' (arrOf st) (pendingOf st) 7 J) #[h.perm,O,O,h.pend] j hi
def Qk.size{st:SortSt}(h:Qk kd a₀ st): ~~~(arrOf st)= ~~~a₀:=h.perm.size_eq
structure SB(kd:SortKind)(a₀:Array Keyed)(p:Array (Nat×Nat×Nat))(lo:Nat)(xs:Array Keyed)(st:SortSt):Prop where
 perm:(arrOf st).Perm a₀
 kind:kindOf st=kd
 failed:failedOf st=none
 pend:pendingOf st=p
 low:∀i,i<lo->(arrOf st)[i]?=xs[i]?
def Sg(κ:KeyKind)(xs:Array Keyed)(lo n:Nat):Prop:=∀i j,i<=j->j<n->κ.kle (KK κ xs (lo+i)) (KK κ xs (lo+j))
section
variable {prog:Program}{w:World}{A:Around}{E:Value->Shared->Prop}{s:Shared}{κ:KeyKind}{kd:SortKind}{a₀ xs:Array Keyed}{p:Array (Nat×Nat×Nat)}{lo:Nat}{st:SortSt}
def SB.base(h:SB kd a₀ p lo xs st):Qk kd a₀ (setPending st #[]):=#[h.perm,h.kind,h.failed,O]
def SB.size(h:SB kd a₀ p lo xs st): ~~~(arrOf st)= ~~~a₀:=h.perm.size_eq
def SB.setA(h:SB kd a₀ p lo xs st)(j:ys.Perm (arrOf st))(q:∀i,i<lo->ys[i]?=(arrOf st)[i]?):SB kd a₀ p lo xs (setArr st ys):=#[j.trans h.perm,h.kind,h.failed,h.pend,λi hi=>(q i hi).trans (h.low i hi)]
def SB.ne(h:SB kd a₀ p lo xs st)(N:KeysOf κ a₀)(hd:DK κ a₀)(z:i<j)(F:j< ~~~a₀):KK κ (arrOf st) i≠KK κ (arrOf st) j:=by
 let D:=((Array.perm_iff_toList_perm.mp h.perm).map _).nodup_iff.mpr hd;let(x,q,a,e1,h1,h2):=h.base.atK N (Nat.lt_trans z F);let(y,r,b,e3,W,h4):=h.base.atK N F;rw[h2,h4];rintro rfl;have Q:((arrOf st).toList.map λp=>κ.keyOf p.1)[i]?=!(!a):=by rw[c5,Array.getElem?_toList,e1];simp[h1]
 have g2:((arrOf st).toList.map λp=>κ.keyOf p.1)[j]?=!(!a):=by rw[c5,Array.getElem?_toList,e3];simp[W]
 have:=(getElem?_inj (c9.mp Q).1 D).mp (Q.trans g2.symm);lia
def uz(hO:qF κ kd prog w A s)(D:KeysOf κ a₀)(z:SB kd a₀ p lo xs st)(hi:i< ~~~a₀)(hj:j< ~~~a₀)
 (h:Q (!(κ.blt (KK κ (arrOf st) i) (KK κ (arrOf st) j))) st):wpS (model prog w) A E s (ltAt' i j) Q st:=by
 let(x,q,a,e1,F,ka):=z.base.atK D hi;let(y,r,b,N,W,kb):=z.base.atK D hj;rw[ka,kb]at h;show Uy hO z.kind e1 N F W h
def Sg.snoc(h:Sg κ xs lo n)(h1:1<=n)(N:κ.kle (KK κ xs (lo+n-1)) (KK κ xs (lo+n))):Sg κ xs lo (n+1):=λi j q Q=>by
 by_cases D:j<n
 . show h i j q D
 . have F:j=n:=()
   subst F;by_cases z:i=j
   . subst z;show KeyOrd.kle_refl _
   . have:=h i (j-1) () ();rw[show lo+(j-1)=lo+j-1 by omega]at this;show KeyOrd.kle_trans this N
def R8(hO:qF κ kd prog w A s)(h0:KeysOf κ a₀)(hd:DK κ a₀)(hn:lo+nrem<= ~~~a₀)(h1:1<=nrem)(D:SB kd a₀ p lo xs st)
 (h:∀m z,SB kd a₀ p lo xs z->1<=m->m<=nrem->Sg κ (arrOf z) lo m->Q (!m) z):wpS (model prog w) A E s (countRun' lo nrem) Q st:=by
 show wpS_bind (wpS_mono (wpS_forRange (I:=λx c z=>z=st/\c=(J,x)/\Sg κ (arrOf st) lo x)
  (Q:=λc z=>z=st/\∃n,c=(J,n)/\1<=n/\ n<=nrem/\Sg κ (arrOf st) lo n/\(n=nrem\/κ.klt (KK κ (arrOf st) (lo+n)) (KK κ (arrOf st) (lo+n-1)))) ?_ ?_
  #[O,O,λi j N hj=>by have:i=j:=();subst this;show KeyOrd.kle_refl _]) ?_)
 . intro x c z W yn q0;let(rfl,rfl,hs):=q0;show wpS_bind (uz hO h0 D () () ?_);cases F:κ.blt (KK κ (arrOf z) (lo+x)) (KK κ (arrOf z) (lo+x-1))
   . show wpS_pure #[O,O,hs.snoc W F]
   . show wpS_pure #[O,x,O,W,(),hs,YY F]
 . grind
 intro c z q0;let(rfl,n,rfl,sg,nS,hs,Mn):=q0;dsimp only;by_cases yv:n=nrem
 . rw[aw (by simpa using yv)];show wpS_pure (h n _ D sg nS hs)
 rw[ay ∅];let io:=Mn.resolve_left yv;by_cases yy:n>1
 . rw[aw yy];show wpS_bind (uz hO h0 D () () ?_);have:κ.blt (KK κ (arrOf z) lo) (KK κ (arrOf z) (lo+n-1))=G:=by
    cases F:κ.blt (KK κ (arrOf z) lo) (KK κ (arrOf z) (lo+n-1))
    . have:=hs 0 (n-1) () ();rw[show lo+(n-1)=lo+n-1 by omega]at this;show absurd (KeyOrd.kle_antisymm this F) (D.ne h0 hd () ())
    . rfl
   rw[this];simp only[if_true];show wpS_pure (h n _ D sg nS hs)
 rw[ay yy];obtain rfl:n=1:=()
 show wpS_bind (wpS_lift (wpAny_rule #[O,?_]));show wpS_bind (wpS_mono (wpS_forRange (I:=λx c q=>q=z/\c=(J,x,0)/\∀i j,i<=j->j<x->κ.kle (KK κ (arrOf z) (lo+j)) (KK κ (arrOf z) (lo+i)))
  (Q:=λc q=>q=z/\∃n,c=(J,n,0)/\1<=n/\ n<=nrem/\∀i j,i<=j->j<n->κ.kle (KK κ (arrOf z) (lo+j)) (KK κ (arrOf z) (lo+i))) ?_ ?_ #[O,O,?_]) ?_)
 . intro x c q W yn q0;let(rfl,rfl,hs):=q0;dsimp only;show wpS_bind (uz hO h0 D () () ?_);cases F:κ.blt (KK κ (arrOf q) (lo+x)) (KK κ (arrOf q) (lo+x-1))
   . simp only[fB,if_false];show wpS_bind (uz hO h0 D () () ?_);have:κ.blt (KK κ (arrOf q) (lo+x-1)) (KK κ (arrOf q) (lo+x))=G:=by
      cases hc:κ.blt (KK κ (arrOf q) (lo+x-1)) (KK κ (arrOf q) (lo+x))
      . show absurd (KeyOrd.kle_antisymm F hc) (D.ne h0 hd () ())
      . rfl
     rw[this];simp only[if_true];show wpS_pure #[O,x,O,(),(),hs]
   . simp only[if_true];rw[ay ()];show wpS_pure #[O,O,λi j N hj=>?_];by_cases Mo:j<x
     . show hs i j N Mo
     . have MB:j=x:=()
       subst MB;by_cases mh:i=j
       . subst mh;show KeyOrd.kle_refl _
       . have:=hs i (j-1) () ();rw[show lo+(j-1)=lo+j-1 by omega]at this;show KeyOrd.kle_trans (KeyOrd.kle_of_klt F) this
 . intro c q q0;let(rfl,rfl,hs):=q0;rw[show max (1+1) nrem=nrem by omega]at hs ⊢;show#[O,nrem,O,h1,br _,hs]
 . intro i j N hj;by_cases mh:i=j
   . subst mh;show KeyOrd.kle_refl _
   . obtain rfl:i=0:=()
     obtain rfl:j=1:=()
     show KeyOrd.kle_of_klt io
 intro c q q0;let(rfl,n,rfl,sg,nS,hs):=q0;dsimp only;rw[ay ()];have fg:lo+n<= ~~~(arrOf q):=by rw[D.size];lia
 show wpS_bind (wpS_reverse ?_);have yA:SB kd a₀ p lo xs (setArr q (mirror (arrOf q) lo (lo+n) ((lo+n-lo)/2))):=D.setA (mirror_perm _ _ _ _) λi hi=>by rw[getElem?_mirror_all fg,ay ()]
 have hM:Sg κ (arrOf (setArr q (mirror (arrOf q) lo (lo+n) ((lo+n-lo)/2)))) lo n:=λi j N hj=>by show κ.kle (KK κ (mirror (arrOf q) lo (lo+n) ((lo+n-lo)/2)) _) (KK κ (mirror (arrOf q) lo (lo+n) ((lo+n-lo)/2)) _);rw[KK_mirror fg,KK_mirror fg,aw (),aw ()];have:=hs (n-1-j) (n-1-i) () ();rw[show lo+(lo+n)-1-(lo+i)=lo+(n-1-i) by lia,show lo+(lo+n)-1-(lo+j)=lo+(n-1-j) by omega];show this
 generalize setArr q (mirror (arrOf q) lo (lo+n) ((lo+n-lo)/2))=j2 at *;show wpS_bind (wpS_mono (wpS_forRange (I:=λx c z=>z=j2/\c=(J,x)/\Sg κ (arrOf j2) lo x)
  (Q:=λc z=>z=j2/\∃n,c=(J,n)/\1<=n/\ n<=nrem/\Sg κ (arrOf j2) lo n) ?_ ?_
  #[O,O,hM]) ?_)
 . intro x c z W yn q0;let(rfl,rfl,hs):=q0;dsimp only;show wpS_bind (uz hO h0 yA () () ?_);cases F:κ.blt (KK κ (arrOf z) (lo+x)) (KK κ (arrOf z) (lo+x-1))
   . simp only[fB,if_false];show wpS_pure #[O,O,hs.snoc () F]
   . simp only[if_true];show wpS_pure #[O,x,O,(),(),hs]
 . intro c z q0;let(rfl,rfl,hs):=q0;rw[show max n nrem=nrem by omega]at hs ⊢;show#[O,nrem,O,h1,br _,hs]
 intro c z q0;let(rfl,m,rfl,sj,yB,hs):=q0;show wpS_pure (h m _ yA sj yB hs)
def W7(hO:qF κ kd prog w A s)(h0:KeysOf κ a₀)(hn:lo+n<= ~~~a₀)(hok:ok<=n)(hB:SB kd a₀ p lo xs st)(hs:Sg κ (arrOf st) lo ok)
 (h:∀q,SB kd a₀ p lo xs q->Sg κ (arrOf q) lo n->Q G q):wpS (model prog w) A E s (binarySort' lo n ok) Q st:=by
 show wpS_bind (wpS_mono (wpS_forRange (I:=λk c q=>c=(J,Unit.unit)/\SB kd a₀ p lo xs q/\Sg κ (arrOf q) lo (min k n))
  (Q:=λc q=>c=(J,Unit.unit)/\SB kd a₀ p lo xs q/\Sg κ (arrOf q) lo n) ?step ?fin ?init) ?post)
 case post=>
  intro c q q0;let(rfl,F,D):=q0;show wpS_pure (h q F D)
 case init=>
  show#[O,hB,λi j kf hj=>?_];by_cases h1:ok=0
  . have:i=j:=()
    subst this;show KeyOrd.kle_refl _
  . show hs i j kf ()
 case fin=>
  intro c q q0;let(hc,F,D):=q0;show#[hc,F,?_]
  grind
 case step=>
  intro k c q hak mi q0;let(rfl,F,D):=q0;rw[show min k n=k by omega]at D;show wpS_bind (wpS_mono (wpS_forRange (I:=λx c z=>z=q/\∃l r,c=(J,l,r)/\l<=r/\r<=k/\r-l<=k-x/\
   (∀i,i<l->κ.kle (KK κ (arrOf q) (lo+i)) (KK κ (arrOf q) (lo+k)))/\(∀i,r<=i->i<k->κ.klt (KK κ (arrOf q) (lo+k)) (KK κ (arrOf q) (lo+i))))
   (Q:=λc z=>z=q/\∃l r,c=(J,l,r)/\l<=k/\
     (∀i,i<l->κ.kle (KK κ (arrOf q) (lo+i)) (KK κ (arrOf q) (lo+k)))/\(∀i,l<=i->i<k->κ.klt (KK κ (arrOf q) (lo+k)) (KK κ (arrOf q) (lo+i)))) ?istep ?ifin ?iinit) ?ipost)
  case iinit=>show⟨O,0,k,O,(),(),(),λi hi=>(),λi h1 h2=>()⟩
  case ifin=>
   intro c z q0;let(rfl,l,r,rfl,yT,sk,hm,N,W):=q0;obtain rfl:l=r:=()
   show#[O,l,l,O,sk,N,W]
  case istep=>
   intro x c z _ hxk q0;let(rfl,l,r,rfl,yT,sk,hm,N,W):=q0;dsimp only;by_cases mn:l ≥ r
   . rw[aw mn];obtain rfl:l=r:=()
     show wpS_pure #[O,l,l,O,sk,N,W]
   . rw[ay mn];show wpS_bind (uz hO h0 F () () ?_);cases hless:κ.blt (KK κ (arrOf z) (lo+k)) (KK κ (arrOf z) (lo+(l+r)/2))
     . simp only[fB,if_false];show wpS_pure #[O,(l+r)/2+1,r,O,(),(),(),λi h1=>KeyOrd.kle_trans (D i ((l+r)/2) () ()) hless,W]
     . simp only[if_true];show wpS_pure #[O,l,(l+r)/2,O,(),(),(),N,λi h1 h2=>KeyOrd.klt_of_klt_of_kle hless (D _ _ h1 h2)]
  case ipost=>
   intro c z q0;let(rfl,l,r,rfl,hlk,N,W):=q0;show wpS _ _ _ _ (do moveDown' (lo+k) (lo+l);pure (ForInStep.yield (J,Unit.unit))) _ _;rw[moveDown'_eq];have n5:lo+k< ~~~(arrOf z):=by rw[F.size];lia
   show wpS_bind (wpS_modify (wpS_pure #[O,F.setA (bubble_perm _ _ _) λi hi=>?_,?_]))
   . rw[getElem?_bubble n5 _ (),ay (),ay ()]
   rw[show min (k+1) n=k+1 by omega];intro i j kf hj;show κ.kle (KK κ (bubble (arrOf z) (lo+k) (lo+k-(lo+l))) (lo+i)) (KK κ (bubble (arrOf z) (lo+k) (lo+k-(lo+l))) (lo+j));rw[KK_bubble n5 (),KK_bubble n5 (),show lo+k-(lo+k-(lo+l))=lo+l by omega];have sb:∀i,1<=i->lo+i-1=lo+(i-1):=λi h=>()
   repeat' split
   all_goals first
    |(exfalso;lia)
    |show KeyOrd.kle_refl _
    |show N _ ()
    |(rw[sb _ (),sb _ ()];show D _ _ () ())
    |(rw[sb _ ()];show KeyOrd.kle_of_klt (W _ () ()))
    |(rw[sb _ ()];show D _ _ () ())
    |show D _ _ () ()
end
def yY:Array Keyed->Array Keyed->StateT SortSt Sem (Array Keyed):=sortPriv% PySem.Builtin.mergeLo
def y0:Array Keyed->Array Keyed->StateT SortSt Sem (Array Keyed):=sortPriv% PySem.Builtin.mergeHi
def f9[Decidable c]{st:U}(h:c)(k:wpS ZO A E s f Q st):wpS ZO A E s (if c then f else g) Q st:=by grind
def fJ[Decidable c]{st:U}(h:¬ c)(k:wpS ZO A E s g Q st):wpS ZO A E s (if c then f else g) Q st:=by grind
def oZ(I:Nat->β->U->Prop)(P:β->U->Prop){Q:γ->U->Prop}
 (z:∀B,B=f->∀i c st,a<=i->i<b->I i c st->wpS ZO A E s (B i c) (λr q=>match r with |.done D=>P D q |.yield D=>I (i+1) D q) st)
 (j:∀c st,I (max a b) c st->P c st) {st:U} (h:I a c st) (F:∀K,K=k->∀c st,P c st->wpS ZO A E s (K c) Q st):wpS ZO A E s (forIn [a:b] c f >>= k) Q st:=
 wpS_bind (wpS_mono (wpS_forRange I ∅ j h) ∅)
def o1(h:0<n)(g:n<=m):n-1<m:=()
def o2(h:1<n)(g:n<=m):n-1<m:=()
def o3(g:n<=m):n-1<=m:=()
def o4(h:1<n)(e:¬ n-1=1):1<n-1:=()
def o5(e:¬ n-1=0):0<n-1:=()
abbrev cJ(st:SortSt)(g:Nat):SortSt:=SortSt.mk' (kindOf st) (arrOf st) (pendingOf st) g (failedOf st)
abbrev L7:=Option (Array Keyed)×Array Keyed×Nat×Nat×Nat×Nat×Nat
noncomputable def sw (a b:Array Keyed) (m ac bc ia:Nat) (out:Array Keyed) (ib:Nat):StateT SortSt Sem (ForInStep L7):=
 elem' a ia >>= λx=>
 if ia+1+1== ~~~a then pure (.done (!(out.push x++b.extract ib b.size++a.extract (ia+1) a.size),out.push x,ia+1,ib,m,ac,bc))
 else if decide (ac<7)&&decide (bc<7) then pure (.done (J,out.push x,ia+1,ib,m,ac,bc)) else pure (.yield (J,out.push x,ia+1,ib,m,ac,bc))
def sA(a b:Array Keyed)(m ac bc ib:Nat)(out:Array Keyed)(ia:Nat):StateT SortSt Sem (ForInStep L7):=
 elem' b ib >>= λx=>
 if ib+1== ~~~b then pure (.done (!(out.push x++a.extract ia a.size++b.extract (ib+1) b.size),out.push x,ia,ib+1,m,ac,bc))
 else
  elem' a ia >>= λy=>
  tL G y b (ib+1) (~~~b-(ib+1)) 0 >>= λk=>
  match k with
  | some k=>if k>0 then (
   if ib+1+k== ~~~b then pure (.done (!(out.push x++b.extract (ib+1) (ib+1+k)++a.extract ia a.size++b.extract (ib+1+k) b.size),out.push x++b.extract (ib+1) (ib+1+k),ia,ib+1+k,m,ac,k))
   else sw a b m ac k ia (out.push x++b.extract (ib+1) (ib+1+k)) (ib+1+k))
   else sw a b m ac k ia (out.push x) (ib+1)
  |_=>pure (.done (!(out.push x++a.extract ia a.size++b.extract (ib+1) b.size),out.push x,ia,ib+1,m,ac,bc))
def n9(a b out:Array Keyed)(ia ib ac bc m:Nat):StateT SortSt Sem (ForInStep L7):=
 (modify λst=>cJ st m) >>= λ_=>
 elem' b ib >>= λx=>
 tL M x a ia (~~~a-ia) 0 >>= λk=>
 match k with
 | some k=>if k>0 then (
  if ia+k+1== ~~~a then pure (.done (!(out++a.extract ia (ia+k)++b.extract ib b.size++a.extract (ia+k) a.size),out++a.extract ia (ia+k),ia+k,ib,m,k,bc))
  else if ia+k== ~~~a then pure (.done (!(out++a.extract ia (ia+k)++a.extract (ia+k) a.size++b.extract ib b.size),out++a.extract ia (ia+k),ia+k,ib,m,k,bc))
  else sA a b m k bc ib (out++a.extract ia (ia+k)) (ia+k))
  else sA a b m k bc ib out ia
 |_=>pure (.done (!(out++a.extract ia a.size++b.extract ib b.size),out,ia,ib,m,ac,bc))
section
variable {κ:KeyKind}{kd:SortKind}
def KA(κ:KeyKind)(x:Keyed):κ.α:=(κ.keyOf x.1).getD κ.dflt
def mW(h:a[i]?=!x):KK κ a i=KA κ x:=by unfold KK KA;rw[h]
def SL(κ:KeyKind)(l:List Keyed):Prop:=l.Pairwise λx y=>κ.kle (KA κ x) (KA κ y)
structure MR(κ:KeyKind)(T l1 l2 o:List Keyed):Prop where
 perm:(o++(l1++l2)).Perm T
 s1:SL κ (o++l1)
 s2:SL κ (o++l2)
variable {T l1 l2 o:List Keyed}
def MR.swap(h:MR κ T l1 l2 o):MR κ T l2 l1 o:=#[((Perm.append_left o h_)).trans h.perm,h.s2,h.s1]
def MR.take(h:MR κ T (x++y) l2 o)(z:∀u∈x,∀v∈l2,κ.kle (KA κ u) (KA κ v)):MR κ T y l2 (o++x):=by
 let(h1,h2,q):=h;show#[by simpa using h1,by simpa [SL] using h2,?_];unfold SL at *;rw[<-cx]at h2;rw[pairwise_append]at *;show#[h2.1,q.2.1,λu i v j=>?_];obtain i|i:=cr.mp i
 . show q.2.2 u i v j
 . show z u i v j
def MR.fin(h:MR κ T l1 [] o):(o++l1).Perm T/\SL κ (o++l1):=#[by simpa using h.perm,h.s1]
def Bl(h:u∈(a.extract i k).toList):∃j,i<=j/\j<k/\j< ~~~a/\KK κ a j=KA κ u:=by
 rw[Array.toList_extract,extract_eq_take_drop]at h;let(j,q):=mem_iff_getElem?.mp h;rw[getElem?_take]at q;split at q
 . rw[getElem?_drop,Array.getElem?_toList]at q;have:=(Array.getElem?_eq_some_iff.mp q).1;show#[i+j,(),(),this,mW q]
 . cases q
def MC(h:u∈a.toList.drop i):∃j,i<=j/\j< ~~~a/\KK κ a j=KA κ u:=by let(j,q):=mem_iff_getElem?.mp h;rw[getElem?_drop,Array.getElem?_toList]at q;show#[i+j,(),(Array.getElem?_eq_some_iff.mp q).1,mW q]
def Aa{a:Array Keyed}(h:i<=k):a.toList.drop i=(a.extract i k).toList++a.toList.drop k:=by
 rw[Array.toList_extract,extract_eq_take_drop]
 conv=>lhs;rw[<-take_append_drop (k-i) (a.toList.drop i)]
 grind
def y3{a:Array Keyed}(h:i< ~~~a):(a.extract i (i+1)).toList=[a[i]]:=by rw[Array.toList_extract,extract_eq_take_drop,kD (),show i+1-i=1 by omega];simp
abbrev RL(κ:KeyKind)(T:List Keyed)(a b out:Array Keyed)(ia ib:Nat):Prop:=MR κ T (a.toList.drop ia) (b.toList.drop ib) out.toList
variable {a b out:Array Keyed}{ia ib:Nat}
def RL.takeA(h:RL κ T a b out ia ib)(hk:ia<=k)(Q:∀i,ia<=i->i<k->i< ~~~a->∀j,ib<=j->j< ~~~b->κ.kle (KK κ a i) (KK κ b j)):RL κ T a b (out++a.extract ia k) k ib:=by unfold RL at *;rw[Aa hk]at h;rw[Array.toList_append];show h.take λu N v z=>?_;let(i,h1,h2,D,e):=Bl (κ:=κ) N;let(j,q,W,F):=MC (κ:=κ) z;rw[<-e,<-F];show Q i h1 h2 D j q W
def RL.pushA(h:RL κ T a b out ia ib)(hk:ia< ~~~a)(z:∀j,ib<=j->j< ~~~b->κ.kle (KK κ a ia) (KK κ b j)):RL κ T a b (out.push a[ia]) (ia+1) ib:=by
 have:=h.takeA (k:=ia+1) () λi h1 h2 F j D q=>(show i=ia by lia)▸z j D q;unfold RL at *;rw[Array.toList_append,y3 hk]at this
 grind
theorem RL.swap(h:RL κ T a b out ia ib):RL κ T b a out ib ia:=MR.swap h
def Rs(κ:KeyKind)(T:List Keyed)(r:Array Keyed):Prop:=r.toList.Perm T/\SL κ r.toList
def RL.done(h:RL κ T a b out ia ib)(D:ib= ~~~b)(q:ia<= ~~~a):Rs κ T (out++a.extract ia a.size++b.extract ib b.size):=by
 subst D;have:=h.takeA q λi h1 h2 N j W Q=>()
 unfold RL at this;have e:b.toList.drop b.size=[]:=by simp
 rw[e]at this;have:=this.swap.swap.fin;have z:a.toList.drop a.size=[]:=by simp
 rw[z]at this;have F:(out++a.extract ia a.size++b.extract b.size b.size).toList=(out++a.extract ia a.size).toList++[]:=by simp
 unfold Rs;rw[F];show this
def RL.last(h:RL κ T a b out ia ib)(Q:ib<= ~~~b)(F:ia<= ~~~a)(W:∀i,ia<=i->i< ~~~a->∀j,ib<=j->j< ~~~b->κ.kle (KK κ b j) (KK κ a i)):Rs κ T (out++b.extract ib b.size++a.extract ia a.size):=by
 let h1:=(h.swap.takeA Q λi h1 h2 q j D z=>W j D z i h1 q);have:=RL.takeA (RL.swap h1) F λi h1 h2 q j D z=>()
 unfold RL at this;have e:b.toList.drop b.size=[]:=by simp
 have N:a.toList.drop a.size=[]:=by simp
 rw[e,N]at this;have:=this.fin;rw[da]at this;show this
variable {prog:Program}{w:World}{A:Around}{E:Value->Shared->Prop}{s:Shared}{st:SortSt}
def gD(hi:i< ~~~a)(h:Q a[i] st):wpS (model prog w) A E s (elem' a i) Q st:=Lj (getElem?_pos a i hi) h
def kZ(j:KeysOf κ a)(hi:i< ~~~a):κ.keyOf (a[i]).1=!(KK κ a i):=by let(x,q):=j a[i] (by simp);rw[mW (getElem?_pos a i hi)];unfold KA;rw[q];rfl
def J8(q:KeysOf κ a)(i n:Nat)(h:i+n<= ~~~a):El κ a i n λj=>KK κ a (i+j):=λj z=>#[a[i+j],getElem?_pos a _ (),kZ q ()]
section
def RL.lst(z:∀i j,i<=j->j< ~~~b->κ.kle (KK κ b i) (KK κ b j))(h2:κ.klt (KK κ b (~~~b-1)) (KK κ a (~~~a-1)))(r:RL κ T a b out ia ib)(W:ia+1= ~~~a)(q:ib<= ~~~b):Rs κ T (out++b.extract ib b.size++a.extract ia a.size):=r.last q () λi D Q j N F=>by
 obtain rfl:i= ~~~a-1:=()
 show KeyOrd.kle_trans (z j (~~~b-1) () ()) (KeyOrd.kle_of_klt h2)
def RL.psA(z:∀i j,i<=j->j< ~~~b->κ.kle (KK κ b i) (KK κ b j))(r:RL κ T a b out ia ib)(hi:ia< ~~~a)(l:ib< ~~~b->κ.kle (KK κ a ia) (KK κ b ib)):RL κ T a b (out.push a[ia]) (ia+1) ib:=r.pushA hi λj q D=>KeyOrd.kle_trans (l ()) (z _ _ q D)
def RL.psB(q:∀i j,i<=j->j< ~~~a->κ.kle (KK κ a i) (KK κ a j))(r:RL κ T a b out ia ib)(hi:ib< ~~~b)(l:ia< ~~~a->κ.kle (KK κ b ib) (KK κ a ia)):RL κ T a b (out.push b[ib]) ia (ib+1):=(r.swap.pushA hi λj z D=>KeyOrd.kle_trans (l ()) (q _ _ z D)).swap
def LQ(κ:KeyKind)(T:List Keyed)(a b:Array Keyed)(st:SortSt)(x:Nat):ForInStep L7->SortSt->Prop
 |.done c,db=>(∃g,db=cJ st g)/\((∃r d,c=(!r,d)/\Rs κ T r)\/∃out ia ib m ac bc,c=(J,out,ia,ib,m,ac,bc)/\RL κ T a b out ia ib/\ia+1< ~~~a/\ib< ~~~b/\x<=ia+ib)
 |.yield c,db=>(∃g,db=cJ st g)/\∃out ia ib m ac bc,c=(J,out,ia,ib,m,ac,bc)/\RL κ T a b out ia ib/\ia+1< ~~~a/\ib< ~~~b/\x<=ia+ib
def Ql(D:∀i j,i<=j->j< ~~~b->κ.kle (KK κ b i) (KK κ b j))(h2:κ.klt (KK κ b (~~~b-1)) (KK κ a (~~~a-1)))(q:∃g,db=cJ st g)(r:RL κ T a b out ia ib)(hi:ia+1< ~~~a)(F:ib< ~~~b)(l:κ.kle (KK κ a ia) (KK κ b ib))(N:x<=ia+1+ib):wpS (model prog w) A E s (sw a b m ac bc ia out ib) (LQ κ T a b st x) db:=by
 show wpS_bind (gD (show ia< ~~~a by lia) ?_);let z:=r.psA D () λ_=>l;by_cases e:ia+1+1= ~~~a
 . show f9 ∅ ?_;show wpS_pure #[q,Zl #[_,_,O,z.lst D h2 e ()]]
 show fJ ∅ ?_;split
 . show wpS_pure #[q,YY #[_,_,_,_,_,_,O,z,(),(),()]]
 . show wpS_pure #[q,_,_,_,_,_,_,O,z,(),(),()]
def Qm(sa:∀i j,i<=j->j< ~~~a->κ.kle (KK κ a i) (KK κ a j))(sb:∀i j,i<=j->j< ~~~b->κ.kle (KK κ b i) (KK κ b j))(h2:κ.klt (KK κ b (~~~b-1)) (KK κ a (~~~a-1)))(z:∃g,db=cJ st g)(hO:qF κ kd prog w A s)(hk:kindOf db=kd)(ka:KeysOf κ a)(kb:KeysOf κ b)(r:RL κ T a b out ia ib)(hi:ia+1< ~~~a)(hb:ib< ~~~b)(l:κ.kle (KK κ b ib) (KK κ a ia))(hx:x<=ia+1+ib):wpS (model prog w) A E s (sA a b m ac bc ib out ia) (LQ κ T a b st x) db:=by
 show wpS_bind (gD hb ?_);let W:=r.psB sa hb λ_=>l;by_cases e:ib+1= ~~~b
 . show f9 ∅ ?_;show wpS_pure #[z,Zl #[_,_,O,W.done e ()]]
 show fJ ∅ ?_;show wpS_bind (gD (show ia< ~~~a by lia) (wpS_bind (uy hO hk (kZ ka ()) (J8 kb (ib+1) (~~~b-(ib+1)) ()) (λi j h5 h6=>sb _ _ () ()) () λk mi h5 h6=>?_)));have Q:∀j,ib+1<=j->j<ib+1+k->κ.klt (KK κ b j) (KK κ a ia):=λj D h8=>by have:=h5 (j-(ib+1)) ();rw[show ib+1+(j-(ib+1))=j by omega]at this;show this
 have q:ib+1+k< ~~~b->κ.kle (KK κ a ia) (KK κ b (ib+1+k)):=λD=>h6 k () ();by_cases h0:k>0
 . show f9 h0 ?_;let r3:=(W.swap.takeA () λi D h8 h9 j N F=>KeyOrd.kle_trans (KeyOrd.kle_of_klt (Q i D h8)) (sa _ _ N F)).swap;by_cases e:ib+1+k= ~~~b
   . show f9 ∅ ?_;show wpS_pure #[z,Zl #[_,_,O,r3.done e ()]]
   show fJ ∅ ?_;show Ql sb h2 z r3 hi () (q ()) ()
 . obtain rfl:k=0:=()
   show Ql sb h2 z W hi () (q ()) ()
def MD(W:∀i j,i<=j->j< ~~~a->κ.kle (KK κ a i) (KK κ a j))(N:∀i j,i<=j->j< ~~~b->κ.kle (KK κ b i) (KK κ b j))(h2:κ.klt (KK κ b (~~~b-1)) (KK κ a (~~~a-1)))(hg:∃g,db=cJ st g)(hO:qF κ kd prog w A s)(hk:kindOf db=kd)(ka:KeysOf κ a)(kb:KeysOf κ b)(r:RL κ T a b out ia ib)(hi:ia+1< ~~~a)(Q:ib< ~~~b)(hx:x<=ia+1+ib):wpS (model prog w) A E s (n9 a b out ia ib ac bc m) (LQ κ T a b st x) db:=by
 show wpS_bind (wpS_modify ?_);have q:∃g,cJ db m=cJ st g:=by let(g,rfl):=hg;show#[m,O]
 show wpS_bind (gD Q (wpS_bind (uy hO hk (kZ kb Q) (J8 ka ia (~~~a-ia) ()) (λi j h5 h6=>W _ _ () ()) () λk mi h5 h6=>?_)));have F:∀j,ia<=j->j<ia+k->κ.kle (KK κ a j) (KK κ b ib):=λj D h8=>by have:=h5 (j-ia) ();rw[show ia+(j-ia)=j by omega]at this;unfold iJ at this;show(by simpa using this:κ.blt (KK κ b ib) (KK κ a j)=M)
 have io:ia+k< ~~~a:=by
  obtain D|D:=Nat.lt_or_ge (ia+k) a.size
  . show D
  . have:=KeyOrd.klt_of_kle_of_klt (KeyOrd.kle_trans (F (~~~a-1) () ()) (N ib (~~~b-1) () ())) h2;unfold KeyOrd.klt at this;rw[KeyOrd.irrefl]at this;grind
 have z:κ.kle (KK κ b ib) (KK κ a (ia+k)):=by have:=h6 k () ();unfold iJ at this;show KeyOrd.kle_of_klt (by simpa using this:κ.blt (KK κ b ib) (KK κ a (ia+k))=G)
 by_cases h0:k>0
 . show f9 h0 ?_;let r3:=r.takeA () λi D h8 h9 j hU sB=>KeyOrd.kle_trans (F i D h8) (N _ _ hU sB);by_cases e:ia+k+1= ~~~a
   . show f9 ∅ ?_;show wpS_pure #[q,Zl #[_,_,O,r3.lst N h2 e ()]]
   show fJ ∅ (fJ ∅ ?_);show Qm W N h2 q hO hk ka kb r3 () Q z ()
 . obtain rfl:k=0:=()
   show Qm W N h2 q hO hk ka kb r hi Q z ()
end
def ME(hO:qF κ kd prog w A s)(hk:kindOf st=kd)(ka:KeysOf κ a)(kb:KeysOf κ b)(sa:∀i j,i<=j->j< ~~~a->κ.kle (KK κ a i) (KK κ a j))(sb:∀i j,i<=j->j< ~~~b->κ.kle (KK κ b i) (KK κ b j))(ha:1<= ~~~a)(hb:1<= ~~~b)(h1:κ.klt (KK κ b 0) (KK κ a 0))(h2:κ.klt (KK κ b (~~~b-1)) (KK κ a (~~~a-1)))(h:∀r g,Rs κ (a.toList++b.toList) r->Q r (cJ st g)):wpS (model prog w) A E s (yY a b) Q st:=by
 show wpS_bind (wpS_lift (wpAny_rule #[O,?_]));show wpS_bind (gD hb ?_);let r0:=RL.psB (out:=#[]) sa #[Perm.refl _,by
  show pairwise_iff_getElem.mpr λi j F z N=>?_;have:=sa i j () ∅
  rwa [mW (getElem?_pos a i ∅),mW (getElem?_pos a j ∅)]at this,by
  show pairwise_iff_getElem.mpr λi j F z N=>?_;have:=sb i j () ∅
  rwa [mW (getElem?_pos b i ∅),mW (getElem?_pos b j ∅)]at this] hb λ_=>KeyOrd.kle_of_klt h1
 by_cases i7:1= ~~~b
 . show f9 (by simpa using i7) ?_;show wpS_pure (h _ (gallopOf st) (r0.done i7 ()))
 show fJ ∅ ?_;by_cases iq:0+1= ~~~a
 . show f9 (by simpa using iq) ?_;show wpS_pure (h _ (gallopOf st) (r0.lst sb h2 iq hb))
 show fJ (by simpa using iq) ?_;show wpS_bind (wpS_get ?_);show oZ (I:=λx c q=>(∃g,q=cJ st g)/\∃out ia ib m,c=(J,out,ia,ib,m)/\RL κ (a.toList++b.toList) a b out ia ib/\ia+1< ~~~a/\ib< ~~~b/\x<=ia+ib)
  (P:=λc q=>(∃g,q=cJ st g)/\∃r d,c=(!r,d)/\Rs κ (a.toList++b.toList) r) ?step ?fin #[#[gallopOf st,O],_,0,1,_,O,r0,(),(),()] ?post
 case post=>
  intro K hK;intro c q q0;let((g,rfl),r,d,rfl,hr):=q0;subst hK;show wpS_pure (h r g hr)
 case fin=>
  intro c q q0;let(_,out,ia,ib,m,rfl,_,F,z,N):=q0;lia
 intro B hB;intro x c q _ hx q0;let((g,rfl),out,ia,ib,m,rfl,W,F,z,N):=q0;subst hB;show oZ (I:=λy c q=>q=cJ st g/\∃out ia ib D bc,c=(J,out,ia,ib,D,bc)/\RL κ (a.toList++b.toList) a b out ia ib/\ia+1< ~~~a/\ib< ~~~b/\x+y<=ia+ib)
  (P:=λc q=>q=cJ st g/\((∃r d,c=(!r,d)/\Rs κ (a.toList++b.toList) r)\/∃out ia ib D bc,c=(J,out,ia,ib,D,bc)/\RL κ (a.toList++b.toList) a b out ia ib/\ia+1< ~~~a/\ib< ~~~b/\x+1<=ia+ib)) ?_ ?_ #[O,_,ia,ib,_,_,O,W,F,z,()] ?_
 . intro B hB;intro y c q _ hy q0;let(rfl,out,ia,ib,D,bc,rfl,W,F,z,N):=q0;subst hB;dsimp only;show wpS_bind (gD z (wpS_bind (gD (show ia< ~~~a by lia) ?_)));show wpS_bind (wC hO hk (kZ kb z) (kZ ka ()) ?_);dsimp only;cases hl:κ.blt (KK κ b ib) (KK κ a ia)
   . show fJ m6 ?_;show wpS_bind (gD (show ia< ~~~a by lia) ?_);let r2:=W.psA sb () λ_=>hl;by_cases e:ia+1+1= ~~~a
     . show f9 (by simpa using e) ?_;show wpS_pure #[O,Zl #[_,_,O,r2.lst sb h2 e ()]]
     show fJ (by simpa using e) ?_;split
     . show wpS_pure #[O,YY #[_,_,_,_,_,O,r2,(),(),()]]
     . show wpS_pure #[O,_,_,_,_,_,O,r2,(),(),()]
   . show f9 O ?_;show wpS_bind (gD z ?_);let r2:=W.psB sa z λ_=>KeyOrd.kle_of_klt hl;by_cases e:ib+1= ~~~b
     . show f9 (by simpa using e) ?_;show wpS_pure #[O,Zl #[_,_,O,r2.done e ()]]
     show fJ (by simpa using e) ?_;split
     . show wpS_pure #[O,YY #[_,_,_,_,_,O,r2,(),(),()]]
     . show wpS_pure #[O,_,_,_,_,_,O,r2,(),(),()]
 . intro c q q0;let(_,out,ia,ib,D,bc,rfl,_,F,z,N):=q0;exfalso;simp only[Nat.max_eq_right (d6 _)]at N;lia
 clear F z N W;intro K hK;rintro c q ⟨rfl,⟨r,d,rfl,hr⟩|⟨out,ia,ib,D,bc,rfl,W,F,z,N⟩⟩
 . subst hK;show wpS_pure #[#[g,O],r,_,O,hr]
 subst hK;dsimp only;show wpS_bind (wpS_lift (wpAny_rule #[O,?_]));show oZ (I:=λy c q=>(∃g,q=cJ st g)/\∃out ia ib m D bc,c=(J,out,ia,ib,m,D,bc)/\RL κ (a.toList++b.toList) a b out ia ib/\ia+1< ~~~a/\ib< ~~~b/\x+1+y<=ia+ib)
  (P:=λc q=>(∃g,q=cJ st g)/\((∃r d,c=(!r,d)/\Rs κ (a.toList++b.toList) r)\/∃out ia ib m D bc,c=(J,out,ia,ib,m,D,bc)/\RL κ (a.toList++b.toList) a b out ia ib/\ia+1< ~~~a/\ib< ~~~b/\x+1<=ia+ib)) ?step2 ?fin2 #[#[g,O],_,ia,ib,_,_,_,O,W,F,z,()] ?post2
 case post2=>
  intro K hK;rintro c q ⟨⟨g,rfl⟩,⟨r,d,rfl,hr⟩|⟨out,ia,ib,m,D,bc,rfl,W,F,z,N⟩⟩
  . subst hK;show wpS_pure #[#[g,O],r,_,O,hr]
  . subst hK;show wpS_bind (wpS_modify (wpS_pure #[#[_,O],_,ia,ib,_,O,W,F,z,N]))
 case fin2=>
  intro c q q0;let(_,out,ia,ib,m,D,bc,rfl,_,F,z,N):=q0;exfalso;simp only[Nat.max_eq_right (d6 _)]at N;lia
 clear F z N W;intro B hB;intro y c q _ hy q0;let((g,rfl),out,ia,ib,m,D,bc,rfl,W,F,z,N):=q0;subst hB;show wpS (model prog w) A E s (if m>1 then n9 a b out ia ib D bc (m-1) else n9 a b out ia ib D bc m) _ (cJ st g);have fin:∀m',wpS (model prog w) A E s (n9 a b out ia ib D bc m') (LQ κ (a.toList++b.toList) a b st (x+1+(y+1))) (cJ st g):=λm'=>MD sa sb h2 #[g,O] hO hk ka kb W F z ();split<;>show wpS_mono (fin _) λr q hq=>?_
 all_goals
  cases r with
  |done c=>
   obtain⟨hg,hq|⟨out,ia,ib,m,D,bc,e,q1,q2,q3,q4⟩⟩:=hq
   . show#[hg,Zl hq]
   . show#[hg,YY #[out,ia,ib,m,D,bc,e,q1,q2,q3,()]]
  |yield c=>show hq
end
abbrev H7:=Option (Array Keyed)×Nat×Nat×Array Keyed×Nat×Nat×Nat
noncomputable def sC (a b:Array Keyed) (m ac bc na nb:Nat) (out:Array Keyed):StateT SortSt Sem (ForInStep H7):=
 elem' a (na-1) >>= λx=>
 if na-1==0 then pure (.done (!(a.extract 0 (na-1)++b.extract 0 nb++(out.push x).reverse),na-1,nb,out.push x,m,ac,bc))
 else if decide (ac<7)&&decide (bc<7) then pure (.done (J,na-1,nb,out.push x,m,ac,bc)) else pure (.yield (J,na-1,nb,out.push x,m,ac,bc))
def Uz(a b:Array Keyed)(m ac bc nb na:Nat)(out:Array Keyed):StateT SortSt Sem (ForInStep H7):=
 elem' b (nb-1) >>= λx=>
 if nb-1==1 then pure (.done (!(b.extract 0 (nb-1)++a.extract 0 na++(out.push x).reverse),na,nb-1,out.push x,m,ac,bc))
 else
  elem' a (na-1) >>= λy=>
  tL G y b 0 (nb-1) (nb-1-1) >>= λk=>
  match k with
  | some k=>if nb-1-k>0 then (
   if k==1 then pure (.done (!(b.extract 0 k++a.extract 0 na++(out.push x++(b.extract k (nb-1)).reverse).reverse),na,k,out.push x++(b.extract k (nb-1)).reverse,m,ac,nb-1-k))
   else if k==0 then pure (.done (!(a.extract 0 na++b.extract 0 k++(out.push x++(b.extract k (nb-1)).reverse).reverse),na,k,out.push x++(b.extract k (nb-1)).reverse,m,ac,nb-1-k))
   else sC a b m ac (nb-1-k) na k (out.push x++(b.extract k (nb-1)).reverse))
   else sC a b m ac (nb-1-k) na (nb-1) (out.push x)
  |_=>pure (.done (!(a.extract 0 na++b.extract 0 (nb-1)++(out.push x).reverse),na,nb-1,out.push x,m,ac,bc))
def n_(a b out:Array Keyed)(na nb ac bc m:Nat):StateT SortSt Sem (ForInStep H7):=
 (modify λst=>cJ st m) >>= λ_=>
 elem' b (nb-1) >>= λx=>
 tL M x a 0 na (na-1) >>= λk=>
 match k with
 | some k=>if na-k>0 then (
  if k==0 then pure (.done (!(a.extract 0 k++b.extract 0 nb++(out++(a.extract k na).reverse).reverse),k,nb,out++(a.extract k na).reverse,m,na-k,bc))
  else Uz a b m (na-k) bc nb k (out++(a.extract k na).reverse))
  else Uz a b m (na-k) bc nb na out
 |_=>pure (.done (!(a.extract 0 na++b.extract 0 nb++out.reverse),na,nb,out,m,ac,bc))
section
variable {κ:KeyKind}{kd:SortKind}
structure MH(κ:KeyKind)(T l1 l2 o:List Keyed):Prop where
 perm:(l1++l2++o).Perm T
 s1:SL κ (l1++o)
 s2:SL κ (l2++o)
variable {T l1 l2 o:List Keyed}
def MH.swap(h:MH κ T l1 l2 o):MH κ T l2 l1 o:=#[((Perm.append_right o h_)).trans h.perm,h.s2,h.s1]
def MH.take(h:MH κ T (y++x) l2 o)(z:∀u∈x,∀v∈l2,κ.kle (KA κ v) (KA κ u)):MH κ T y l2 (x++o):=by
 let(h1,h2,j):=h;show#[?_,by simpa [SL] using h2,?_]
 . show Perm.trans ?_ h1;rw[<-cx];show Perm.append_right o ?_;rw[cx,cx];show Perm.append_left y h_
 unfold SL at *;rw[cx]at h2;rw[pairwise_append]at *;show#[j.1,h2.2.1,λu q v i=>?_];obtain i|i:=cr.mp i
 . show z v i u q
 . show j.2.2 u q v i
def MG(h:u∈a.toList.take n):∃j,j<n/\j< ~~~a/\KK κ a j=KA κ u:=by
 let(j,i):=mem_iff_getElem?.mp h;rw[getElem?_take]at i;split at i
 . rw[Array.getElem?_toList]at i;show#[j,(),(Array.getElem?_eq_some_iff.mp i).1,mW i]
 . cases i
def W8{a:Array Keyed}(h:k<=n):a.toList.take n=a.toList.take k++(a.extract k n).toList:=by
 rw[Array.toList_extract,extract_eq_take_drop]
 conv=>lhs;rw[show n=k+(n-k) by omega]
 show take_add ..
abbrev RH(κ:KeyKind)(T:List Keyed)(a b out:Array Keyed)(na nb:Nat):Prop:=MH κ T (a.toList.take na) (b.toList.take nb) out.reverse.toList
variable {a b out:Array Keyed}{na nb:Nat}
theorem RH.swap(h:RH κ T a b out na nb):RH κ T b a out nb na:=MH.swap h
def RH.takeA(h:RH κ T a b out na nb)(hk:k<=na)(Q:∀i,k<=i->i<na->i< ~~~a->∀j,j<nb->j< ~~~b->κ.kle (KK κ b j) (KK κ a i)):RH κ T a b (out++(a.extract k na).reverse) k nb:=by
 unfold RH at *;rw[W8 hk]at h;have e:(out++(a.extract k na).reverse).reverse.toList=(a.extract k na).toList++out.reverse.toList:=by simp
 rw[e];show h.take λu N v z=>?_;let(i,h1,h2,D,e):=Bl (κ:=κ) N;let(j,q,W,F):=MG (κ:=κ) z;rw[<-e,<-F];show Q i h1 h2 D j q W
def RH.pushA(h:RH κ T a b out na nb)(Q:0<na)(hk:na-1< ~~~a)(D:∀j,j<nb->j< ~~~b->κ.kle (KK κ b j) (KK κ a (na-1))):RH κ T a b (out.push a[na-1]) (na-1) nb:=by
 have:=h.takeA (k:=na-1) () λi h1 h2 N j F z=>(show i=na-1 by lia)▸D j F z;have e:(out++(a.extract (na-1) na).reverse).reverse.toList=(out.push a[na-1]).reverse.toList:=by let q:=y3 hk;rw[show na-1+1=na by omega]at q;simp only[Array.toList_append,q,Array.toList_reverse,Array.toList_push,reverse_cons,reverse_nil,eK]
 unfold RH at *
 rwa [e]at this
def UG(i:KeysOf κ a)(h:n<= ~~~a):El κ a 0 n λj=>KK κ a j:=λj q=>#[a[j],by rw[hG];show getElem?_pos a _ (),kZ i ()]
def Lk(a:Array Keyed):a.toList.take a.size=a.toList:=nr ()
def UJ(a:Array Keyed)(n:Nat):(a.extract 0 n).toList=a.toList.take n:=by simp
def RH.done(h:RH κ T a b out na nb)(i:na=0):Rs κ T (a.extract 0 na++b.extract 0 nb++out.reverse):=by subst i;unfold Rs;rw[Array.toList_append,Array.toList_append,UJ,UJ,take_zero,eK];show#[by simpa using h.perm,h.s2]
def RH.first(h:RH κ T a b out na nb)(D:∀i,i<nb->i< ~~~b->∀j,j<na->j< ~~~a->κ.kle (KK κ b i) (KK κ a j)):Rs κ T (b.extract 0 nb++a.extract 0 na++out.reverse):=by
 let h1:=h.takeA () λi h1 h2 q j F z=>D j F z i h2 q;have:=h1.done O;have e:(a.extract 0 0++b.extract 0 nb++(out++(a.extract 0 na).reverse).reverse).toList=(b.extract 0 nb++a.extract 0 na++out.reverse).toList:=by simp
 unfold Rs at *
 rwa [e]at this
variable {prog:Program}{w:World}{A:Around}{E:Value->Shared->Prop}{s:Shared}{st:SortSt}
section
def RH.fst(q:∀i j,i<=j->j< ~~~a->κ.kle (KK κ a i) (KK κ a j))(h1:κ.klt (KK κ b 0) (KK κ a 0))(r:RH κ T a b out na nb)(Q:nb<=1):Rs κ T (b.extract 0 nb++a.extract 0 na++out.reverse):=r.first λi D N j F z=>by
 obtain rfl:i=0:=()
 show KeyOrd.kle_trans (KeyOrd.kle_of_klt h1) (q 0 j () z)
def RH.psA(q:∀i j,i<=j->j< ~~~b->κ.kle (KK κ b i) (KK κ b j))(r:RH κ T a b out na nb)(z:0<na)(hi:na-1< ~~~a)(D:nb<= ~~~b)(l:0<nb->κ.kle (KK κ b (nb-1)) (KK κ a (na-1))):RH κ T a b (out.push a[na-1]) (na-1) nb:=r.pushA z hi λj F N=>KeyOrd.kle_trans (q j (nb-1) () ()) (l ())
def RH.psB(q:∀i j,i<=j->j< ~~~a->κ.kle (KK κ a i) (KK κ a j))(r:RH κ T a b out na nb)(z:0<nb)(hi:nb-1< ~~~b)(D:na<= ~~~a)(l:0<na->κ.kle (KK κ a (na-1)) (KK κ b (nb-1))):RH κ T a b (out.push b[nb-1]) na (nb-1):=(r.swap.pushA z hi λj F N=>KeyOrd.kle_trans (q j (na-1) () ()) (l ())).swap
def HQ(κ:KeyKind)(T:List Keyed)(a b:Array Keyed)(st:SortSt)(x:Nat):ForInStep H7->SortSt->Prop
 |.done c,db=>(∃g,db=cJ st g)/\((∃r d,c=(!r,d)/\Rs κ T r)\/∃na nb out m ac bc,c=(J,na,nb,out,m,ac,bc)/\RH κ T a b out na nb/\0<na/\na<= ~~~a/\1<nb/\nb<= ~~~b/\na+nb+x<= ~~~a+ ~~~b)
 |.yield c,db=>(∃g,db=cJ st g)/\∃na nb out m ac bc,c=(J,na,nb,out,m,ac,bc)/\RH κ T a b out na nb/\0<na/\na<= ~~~a/\1<nb/\nb<= ~~~b/\na+nb+x<= ~~~a+ ~~~b
def Qn(W:∀i j,i<=j->j< ~~~b->κ.kle (KK κ b i) (KK κ b j))(D:∃g,db=cJ st g)(r:RH κ T a b out na nb)(hi:0<na)(q:na<= ~~~a)(N:1<nb)(z:nb<= ~~~b)(l:κ.kle (KK κ b (nb-1)) (KK κ a (na-1)))(Q:na-1+nb+x<= ~~~a+ ~~~b):wpS (model prog w) A E s (sC a b m ac bc na nb out) (HQ κ T a b st x) db:=by
 show wpS_bind (gD () ?_);let F:=r.psA W hi () z λ_=>l;by_cases e:na-1=0
 . show f9 ∅ ?_;show wpS_pure #[D,Zl #[_,_,O,F.done e]]
 show fJ ∅ ?_;split
 . show wpS_pure #[D,YY #[_,_,_,_,_,_,O,F,o5 e,o3 q,N,z,Q]]
 . show wpS_pure #[D,_,_,_,_,_,_,O,F,o5 e,o3 q,N,z,Q]
def Qo(N:∀i j,i<=j->j< ~~~a->κ.kle (KK κ a i) (KK κ a j))(sb:∀i j,i<=j->j< ~~~b->κ.kle (KK κ b i) (KK κ b j))(h1:κ.klt (KK κ b 0) (KK κ a 0))(W:∃g,db=cJ st g)(hO:qF κ kd prog w A s)(hk:kindOf db=kd)(ka:KeysOf κ a)(kb:KeysOf κ b)(r:RH κ T a b out na nb)(hi:0<na)(z:na<= ~~~a)(hb:1<nb)(oe:nb<= ~~~b)(l:κ.kle (KK κ a (na-1)) (KK κ b (nb-1)))(hx:na-1+nb+x<= ~~~a+ ~~~b):wpS (model prog w) A E s (Uz a b m ac bc nb na out) (HQ κ T a b st x) db:=by
 show wpS_bind (gD () ?_);let r2:=r.psB N () () z λ_=>l;by_cases e:nb-1=1
 . show f9 ∅ ?_;show wpS_pure #[W,Zl #[_,_,O,r2.fst N h1 ()]]
 show fJ ∅ ?_;show wpS_bind (gD (o1 hi z) (wpS_bind (uy hO hk (kZ ka ()) (UG kb ()) (λi j h5 h6=>sb _ _ () ()) () λk mi h5 h6=>?_)));let Q:=λj D=>h5 j D;let F:=λj D h8=>h6 j D h8;have kg:0<k:=by
  obtain D|D:=Nat.eq_zero_or_pos k
  . let q:=F 0 () ();have:=KeyOrd.klt_of_klt_of_kle h1 (KeyOrd.kle_trans (N 0 (na-1) () ()) q);unfold KeyOrd.klt at this;rw[KeyOrd.irrefl]at this;grind
  . show D
 by_cases h0:nb-1-k>0
 . show f9 h0 ?_;let r3:=(r2.swap.takeA () λi D h8 h9 j hU sB=>KeyOrd.kle_trans (N j (na-1) () ()) (F i D h8)).swap;by_cases e:k=1
   . show f9 (by simpa using e) ?_;show wpS_pure #[W,Zl #[_,_,O,r3.fst N h1 ()]]
   show fJ (by simpa using e) (fJ (by simp;lia) ?_);show Qn sb W r3 hi z () () (KeyOrd.kle_of_klt (Q (k-1) ())) ()
 . show fJ h0 ?_;show Qn sb W r2 hi z () () (KeyOrd.kle_of_klt (Q (nb-1-1) ())) ()
def MI(N:∀i j,i<=j->j< ~~~a->κ.kle (KK κ a i) (KK κ a j))(sb:∀i j,i<=j->j< ~~~b->κ.kle (KK κ b i) (KK κ b j))(h1:κ.klt (KK κ b 0) (KK κ a 0))(hg:∃g,db=cJ st g)(Q:qF κ kd prog w A s)(hk:kindOf db=kd)(ka:KeysOf κ a)(kb:KeysOf κ b)(r:RH κ T a b out na nb)(hi:0<na)(W:na<= ~~~a)(hb:1<nb)(q:nb<= ~~~b)(hx:na-1+nb+x<= ~~~a+ ~~~b):wpS (model prog w) A E s (n_ a b out na nb ac bc m) (HQ κ T a b st x) db:=by
 show wpS_bind (wpS_modify ?_);have z:∃g,cJ db m=cJ st g:=by let(g,rfl):=hg;show#[m,O]
 show wpS_bind (gD () (wpS_bind (uy Q hk (kZ kb ()) (UG ka ()) (λi j h5 h6=>N _ _ () ()) () λk mi h5 h6=>?_)));let D:=λj F=>by have:=h5 j F;unfold iJ at this;show(by simpa using this:κ.blt (KK κ b (nb-1)) (KK κ a j)=M)
 let y4:=λj F h8=>by have:=h6 j F h8;unfold iJ at this;show KeyOrd.kle_of_klt (by simpa using this:κ.blt (KK κ b (nb-1)) (KK κ a j)=G)
 by_cases h0:na-k>0
 . show f9 h0 ?_;let r3:=r.takeA () λi F h8 h9 j hU sB=>KeyOrd.kle_trans (sb j (nb-1) () ()) ∅;by_cases e:k=0
   . show f9 ∅ ?_;show wpS_pure #[z,Zl #[_,_,O,r3.done e]]
   show fJ ∅ ?_;show Qo N sb h1 z Q hk ka kb r3 () () hb q (D (k-1) ()) ()
 . show fJ h0 ?_;show Qo N sb h1 z Q hk ka kb r hi W hb q (D (na-1) ()) ()
end
def ML(hO:qF κ kd prog w A s)(hk:kindOf st=kd)(ka:KeysOf κ a)(kb:KeysOf κ b)(sa:∀i j,i<=j->j< ~~~a->κ.kle (KK κ a i) (KK κ a j))(sb:∀i j,i<=j->j< ~~~b->κ.kle (KK κ b i) (KK κ b j))(ha:1<= ~~~a)(hb:1<= ~~~b)(h1:κ.klt (KK κ b 0) (KK κ a 0))(h2:κ.klt (KK κ b (~~~b-1)) (KK κ a (~~~a-1)))(h:∀r g,Rs κ (a.toList++b.toList) r->Q r (cJ st g)):wpS (model prog w) A E s (y0 a b) Q st:=by
 show wpS_bind (wpS_lift (wpAny_rule #[O,?_]));show wpS_bind (gD (show a.size-1< ~~~a by lia) ?_);have y6:∀{a:Array Keyed},(∀i j,i<=j->j< ~~~a->κ.kle (KK κ a i) (KK κ a j))->SL κ (a.toList.take a.size++(#[]:Array Keyed).reverse.toList):=λ{a} sa=>by
  rw[Lk,show (#[]:Array Keyed).reverse.toList=[] by simp,da];show pairwise_iff_getElem.mpr λi j F z D=>?_;have:=sa i j () ∅
  rwa [mW (getElem?_pos a i ∅),mW (getElem?_pos a j ∅)]at this
 let r0:=RH.psA sb #[by rw[Lk,Lk,show (#[]:Array Keyed).reverse.toList=[] by simp,da],y6 sa,y6 sb] ha () (br _) λ_=>KeyOrd.kle_of_klt h2;by_cases iq: ~~~a-1=0
 . show f9 (by simpa using iq) ?_;show wpS_pure (h _ (gallopOf st) (r0.done iq))
 show fJ (by simpa using iq) ?_;by_cases i7: ~~~b=1
 . show f9 (by simpa using i7) ?_;show wpS_pure (h _ (gallopOf st) (r0.fst sa h1 ()))
 show fJ (by simpa using i7) ?_;show wpS_bind (wpS_get ?_);show oZ (I:=λx c q=>(∃g,q=cJ st g)/\∃na nb out m,c=(J,na,nb,out,m)/\RH κ (a.toList++b.toList) a b out na nb/\0<na/\ na<= ~~~a/\1<nb/\ nb<= ~~~b/\ na+nb+x<= ~~~a+ ~~~b)
  (P:=λc q=>(∃g,q=cJ st g)/\∃r d,c=(!r,d)/\Rs κ (a.toList++b.toList) r) ?step ?fin #[#[gallopOf st,O],_,_,_,_,O,r0,(),(),(),(),()] ?post
 case post=>
  intro K hK;intro c q q0;let((g,rfl),r,d,rfl,hr):=q0;subst hK;show wpS_pure (h r g hr)
 case fin=>
  intro c q q0;let(_,na,nb,out,m,rfl,_,F,z,D,N,h7):=q0;exfalso;simp only[Nat.max_eq_right (d6 _)]at h7;lia
 intro B hB;intro x c q _ hx q0;let((g,rfl),na,nb,out,m,rfl,r1,F,z,D,N,h7):=q0;subst hB;dsimp only;show oZ (I:=λy c q=>q=cJ st g/\∃na nb out W bc,c=(J,na,nb,out,W,bc)/\RH κ (a.toList++b.toList) a b out na nb/\0<na/\ na<= ~~~a/\1<nb/\ nb<= ~~~b/\ na+nb+(x+y)<= ~~~a+ ~~~b)
  (P:=λc q=>q=cJ st g/\((∃r d,c=(!r,d)/\Rs κ (a.toList++b.toList) r)\/∃na nb out W bc,c=(J,na,nb,out,W,bc)/\RH κ (a.toList++b.toList) a b out na nb/\0<na/\ na<= ~~~a/\1<nb/\ nb<= ~~~b/\ na+nb+(x+1)<= ~~~a+ ~~~b)) ?_ ?_ #[O,_,_,_,_,_,O,r1,F,z,D,N,()] ?_
 . clear F z D N h7 r1;intro B hB;intro y c q _ hy q0;let(rfl,na,nb,out,W,bc,rfl,r1,F,z,D,N,h7):=q0;subst hB;dsimp only;show wpS_bind (gD (o2 D N) (wpS_bind (gD (o1 F z) ?_)));show wpS_bind (wC hO hk (kZ kb (o2 D N)) (kZ ka (o1 F z)) ?_);dsimp only;cases hl:κ.blt (KK κ b (nb-1)) (KK κ a (na-1))
   . show fJ m6 ?_;show wpS_bind (gD (o2 D N) ?_);let r2:=r1.psB sa (Nat.lt_trans Nat.zero_lt_one D) (o2 D N) z λ_=>hl;by_cases e:nb-1=1
     . show f9 (by simpa using e) ?_;show wpS_pure #[O,Zl #[_,_,O,r2.fst sa h1 ()]]
     show fJ (by simpa using e) ?_;split
     . show wpS_pure #[O,YY #[_,_,_,_,_,O,r2,F,z,o4 D e,o3 N,()]]
     . show wpS_pure #[O,_,_,_,_,_,O,r2,F,z,o4 D e,o3 N,()]
   . show f9 O ?_;show wpS_bind (gD (o1 F z) ?_);let r2:=r1.psA sb F (o1 F z) N λ_=>KeyOrd.kle_of_klt hl;by_cases e:na-1=0
     . show f9 (by simpa using e) ?_;show wpS_pure #[O,Zl #[_,_,O,r2.done e]]
     show fJ (by simpa using e) ?_;split
     . show wpS_pure #[O,YY #[_,_,_,_,_,O,r2,o5 e,o3 z,D,N,()]]
     . show wpS_pure #[O,_,_,_,_,_,O,r2,o5 e,o3 z,D,N,()]
 . intro c q q0;let(_,na,nb,out,W,bc,rfl,_,F,z,D,N,h7):=q0;exfalso;simp only[Nat.max_eq_right (d6 _)]at h7;lia
 clear F z D N h7 r1;intro K hK;rintro c q ⟨rfl,⟨r,d,rfl,hr⟩|⟨na,nb,out,W,bc,rfl,r1,F,z,D,N,h7⟩⟩
 . subst hK;show wpS_pure #[#[g,O],r,_,O,hr]
 subst hK;dsimp only;show wpS_bind (wpS_lift (wpAny_rule #[O,?_]));show oZ (I:=λy c q=>(∃g,q=cJ st g)/\∃na nb out m W bc,c=(J,na,nb,out,m,W,bc)/\RH κ (a.toList++b.toList) a b out na nb/\0<na/\ na<= ~~~a/\1<nb/\ nb<= ~~~b/\ na+nb+(x+1+y)<= ~~~a+ ~~~b)
  (P:=λc q=>(∃g,q=cJ st g)/\((∃r d,c=(!r,d)/\Rs κ (a.toList++b.toList) r)\/∃na nb out m W bc,c=(J,na,nb,out,m,W,bc)/\RH κ (a.toList++b.toList) a b out na nb/\0<na/\ na<= ~~~a/\1<nb/\ nb<= ~~~b/\ na+nb+(x+1)<= ~~~a+ ~~~b)) ?step2 ?fin2 #[#[g,O],_,_,_,_,_,_,O,r1,F,z,D,N,()] ?post2
 case post2=>
  intro K hK;rintro c q ⟨⟨g,rfl⟩,⟨r,d,rfl,hr⟩|⟨na,nb,out,m,W,bc,rfl,r1,F,z,D,N,h7⟩⟩
  . subst hK;show wpS_pure #[#[g,O],r,_,O,hr]
  . subst hK;show wpS_bind (wpS_modify (wpS_pure #[#[_,O],_,_,_,_,O,r1,F,z,D,N,h7]))
 case fin2=>
  intro c q q0;let(_,na,nb,out,m,W,bc,rfl,_,F,z,D,N,h7):=q0;exfalso;simp only[Nat.max_eq_right (d6 _)]at h7;lia
 clear F z D N h7 r1;intro B hB;intro y c q _ hy q0;let((g,rfl),na,nb,out,m,W,bc,rfl,r1,F,z,D,N,h7):=q0;subst hB;show wpS (model prog w) A E s (if m>1 then n_ a b out na nb W bc (m-1) else n_ a b out na nb W bc m) _ (cJ st g);have fin:∀m',wpS (model prog w) A E s (n_ a b out na nb W bc m') (HQ κ (a.toList++b.toList) a b st (x+1+(y+1))) (cJ st g):=λm'=>MI sa sb h1 #[g,O] hO hk ka kb r1 F z D N ();split<;>show wpS_mono (fin _) λr q hq=>?_
 all_goals
  cases r with
  |done c=>
   obtain⟨hg,hq|⟨na,nb,out,m,W,bc,e,q1,q2,q3,q4,q5,q6⟩⟩:=hq
   . show#[hg,Zl hq]
   . show#[hg,YY #[na,nb,out,m,W,bc,e,q1,q2,q3,q4,q5,()]]
  |yield c=>show hq
end
def MM(i:Nat):mergeAt' i=(do
 let s <-get
 let (!(sa,na,power),!(sb,nb,_)):=((pendingOf s)[i]?,(pendingOf s)[i+1]?) |unsupported "internal:list.sort.pending"
 set (setPending s (((pendingOf s).setIfInBounds i (sa,na+nb,power)).eraseIdxIfInBounds (i+1)))
 let some k <-tL M (<-elem' (arrOf s) sb) (arrOf s) sa na 0 |return M
 let (sa,na):=(sa+k,na-k)
 if na==0 then return G
 let some nb <-tL G (<-elem' (arrOf s) (sa+na-1)) (arrOf s) sb nb (nb-1) |return M
 if nb==0 then return G
 let x:_:=(arrOf s).extract sa sb
 let y:_:=(arrOf s).extract sb (sb+nb)
 let merged <-if na<=nb then yY x y else y0 x y
 modify λs=>setArr s (merged.toList.zipIdx.foldl (λa (p,j)=>a.setIfInBounds (sa+j) p) (arrOf s))
 return (failedOf (<-get)).isNone):=O
def ow(xs:Array Keyed)(q n:Nat)(l:List Keyed):Array Keyed:=(l.zipIdx n).foldl (λa (p,j)=>a.setIfInBounds (q+j) p) xs
theorem R9:∀(l:List Keyed)(xs:Array Keyed)(q n i:Nat),q+n+-l<= ~~~xs->(ow xs q n l)[i]?=if q+n<=i/\i<q+n+-l then l[i-(q+n)]? else xs[i]?
 |[]=>λxs q n i _=>by rw[ay ∅];rfl
 |x::l=>λxs q n i h=>by
  have e:ow xs q n (x::l)=ow (xs.setIfInBounds (q+n) x) q (n+1) l:=O;rw[bi]at h ⊢;rw[e,R9 l _ q (n+1) i ∅];by_cases h1:q+(n+1)<=i/\i<q+(n+1)+-l
  . rw[aw h1,aw (),show i-(q+n)=i-(q+(n+1))+1 by lia,getElem?_cons_succ]
  . rw[ay h1,Array.getElem?_setIfInBounds];by_cases h2:q+n=i
    . subst h2;grind
    . rw[ay h2,ay ()]
def MO(l:List Keyed)(xs:Array Keyed)(q:Nat)(h:q+-l<= ~~~xs):(ow xs q 0 l).toList=xs.toList.take q++(l++xs.toList.drop (q+-l)):=by
 show ext_getElem? λi=>?_;rw[Array.getElem?_toList,R9 l xs q 0 i (),Nat.add_zero];obtain h1|h1:=Nat.lt_or_ge i q
 . rw[ay (),gu (by simp;lia),getElem?_take_of_lt h1,Array.getElem?_toList]
 rw[eW (by simp;lia)];have e:-(xs.toList.take q)=q:=by simp;lia
 rw[e];obtain h2|h2:=Nat.lt_or_ge (i-q) (-l)
 . rw[aw (),gu h2]
 . rw[ay (),eW h2,getElem?_drop,show q+-l+(i-q-(-l))=i by lia,Array.getElem?_toList]
def Sq(κ:KeyKind)(xs:Array Keyed)(lo hi:Nat):Prop:=∀i j,lo<=i->i<=j->j<hi->κ.kle (KK κ xs i) (KK κ xs j)
section
variable {prog:Program}{w:World}{A:Around}{E:Value->Shared->Prop}{s:Shared}{κ:KeyKind}{kd:SortKind}{a₀ xs₀:Array Keyed}{p:Array (Nat×Nat×Nat)}{lo:Nat}{st:SortSt}
def Sg.sq(h:Sg κ xs lo n):Sq κ xs lo (lo+n):=λi j h1 h2 q=>by
 have:=h (i-lo) (j-lo) () ()
 grind
def Sq.congr(h:Sq κ xs lo hi)(e:∀i,lo<=i->i<hi->ys[i]?=xs[i]?):Sq κ ys lo hi:=λi j h1 h2 q=>by rw[KK_congr (e i h1 ()),KK_congr (e j () q)];show h i j h1 h2 q
def MQ(h:Q ⟨⟩ x):wpS (model prog w) A E s (set x:StateT SortSt Sem PUnit) Q st:=by unfold wpS;rw[StateT.run_set];show aI #[O,h]
def sU(h:i+j<k)(hk:k<= ~~~xs):KK κ (xs.extract i k) j=KK κ xs (i+j):=KK_congr (by rw[Array.getElem?_extract,aw ()])
def MS(hO:qF κ kd prog w A s)(h0:KeysOf κ a₀)(D:SB kd a₀ p 0 xs₀ st)(e1:p[i]?=!(sa,na,pw))(e2:p[i+1]?=!(sa+na,nb,MU))(hna:1<=na)(og:1<=nb)(fg:sa+na+nb<= ~~~a₀)(s1:Sq κ (arrOf st) sa (sa+na))(s2:Sq κ (arrOf st) (sa+na) (sa+na+nb))
 (h:∀db,SB kd a₀ ((p.setIfInBounds i (sa,na+nb,pw)).eraseIdxIfInBounds (i+1)) 0 xs₀ db->(∀j,j<sa\/sa+na+nb<=j->(arrOf db)[j]?=(arrOf st)[j]?)->Sq κ (arrOf db) sa (sa+na+nb)->Q G db):wpS (model prog w) A E s (mergeAt' i) Q st:=by
 rw[MM]
 show wpS_bind (wpS_get ?_)
 rw[D.pend,e1,e2]
 dsimp only
 show wpS_bind (MQ ?_)
 have hS:SB kd a₀ ((p.setIfInBounds i (sa,na+nb,pw)).eraseIdxIfInBounds (i+1)) 0 xs₀ (setPending st ((p.setIfInBounds i (sa,na+nb,pw)).eraseIdxIfInBounds (i+1))):=#[D.perm,D.kind,D.failed,O,λ_ hi=>absurd hi ∅]
 let hsiz:= ~~~D
 let kx:=λq hq=>h0 q ((Array.perm_iff_toList_perm.mp D.perm).mem_iff.mp hq)
 generalize hp:(p.setIfInBounds i (sa,na+nb,pw)).eraseIdxIfInBounds (i+1)=p' at *
 have fin:κ.kle (KK κ (arrOf st) (sa+na-1)) (KK κ (arrOf st) (sa+na))->Sq κ (arrOf st) sa (sa+na+nb):=λhl i j h1 h2 h3=>by
  obtain h4|h4:=Nat.lt_or_ge j (sa+na)
  . show s1 i j h1 h2 h4
  obtain h5|h5:=Nat.lt_or_ge i (sa+na)
  . show KeyOrd.kle_trans (s1 i (sa+na-1) h1 () ()) (KeyOrd.kle_trans hl (s2 _ j () h4 h3))
  . show s2 i j h5 h2 h3
 generalize sD:arrOf st=xs at *
 let ea:=sD
 let hQ:=λq=>h _ hS (λj _=>by rw[ea]) (by rw[ea];show q)
 show wpS_bind (gD (show sa+na< ~~~xs by lia) ?_)
 show wpS_bind (uy hO D.kind (kZ kx ()) (J8 kx sa na ()) (λi j h5 h6=>s1 _ _ () () ()) () λk mi h5 h6=>?_)
 dsimp only
 have y7:∀j,sa<=j->j<sa+k->κ.kle (KK κ xs j) (KK κ xs (sa+na)):=λj h7 h8=>by
  have:=h5 (j-sa) ()
  rw[show sa+(j-sa)=j by omega]at this
  unfold iJ at this
  show(by simpa using this:κ.blt (KK κ xs (sa+na)) (KK κ xs j)=M)
 have y4:∀j,sa+k<=j->j<sa+na->κ.klt (KK κ xs (sa+na)) (KK κ xs j):=λj h7 h8=>by
  have:=h6 (j-sa) () ()
  rw[show sa+(j-sa)=j by omega]at this
  unfold iJ at this
  show(by simpa using this:κ.blt (KK κ xs (sa+na)) (KK κ xs j)=G)
 by_cases kg:na-k=0
 . rw[aw (by simpa using kg)]
   show wpS_pure (hQ (fin (y7 _ () ())))
 rw[ay (by simpa using kg)]
 rw[show sa+k+(na-k)-1=sa+na-1 by omega]
 show wpS_bind (gD (show sa+na-1< ~~~xs by lia) ?_)
 show wpS_bind (uy hO D.kind (kZ kx ()) (J8 kx (sa+na) nb ()) (λi j h5 h6=>s2 _ _ () () ()) () λm hmn h7 h8=>?_)
 dsimp only
 let MV:=λj h9 hU=>by
  have:=h7 (j-(sa+na)) ()
  rwa [show sa+na+(j-(sa+na))=j by omega]at this
 have y8:∀j,sa+na+m<=j->j<sa+na+nb->κ.kle (KK κ xs (sa+na-1)) (KK κ xs j):=λj h9 hU=>by
  have:=h8 (j-(sa+na)) () ()
  rwa [show sa+na+(j-(sa+na))=j by omega]at this
 by_cases mo:m=0
 . rw[aw (by simpa using mo)]
   show wpS_pure (hQ (fin (y8 _ () ())))
 rw[ay (by simpa using mo)]
 have zx: ~~~(xs.extract (sa+k) (sa+na))=na-k:=by rw[Array.size_extract];lia
 have zy: ~~~(xs.extract (sa+na) (sa+na+m))=m:=by rw[Array.size_extract];lia
 have key:∀r g,Rs κ ((xs.extract (sa+k) (sa+na)).toList++(xs.extract (sa+na) (sa+na+m)).toList) r->wpS (model prog w) A E s (do
  modify λs=>setArr s (r.toList.zipIdx.foldl (λa (p,j)=>a.setIfInBounds (sa+k+j) p) (arrOf s))
  return (failedOf (<-get)).isNone) Q (cJ (setPending st p') g):=λr g hr=>by
  show wpS_bind (wpS_modify (wpS_bind (wpS_get (wpS_pure ?_))))
  have hl:-r.toList=na-k+m:=by rw[hr.1.length_eq,bX,e_,e_,zx,zy]
  have n4:sa+k+-r.toList=sa+na+m:=()
  have eo:r.toList.zipIdx.foldl (λa (p,j)=>a.setIfInBounds (sa+k+j) p) xs=ow xs (sa+k) 0 r.toList:=O
  show Q (failedOf st).isNone (setArr (cJ (setPending st p') g) (r.toList.zipIdx.foldl (λa (p,j)=>a.setIfInBounds (sa+k+j) p) (arrOf st)))
  rw[sD,eo,D.failed]
  have oa:∀j,(ow xs (sa+k) 0 r.toList)[j]?=if sa+k<=j/\j<sa+na+m then r.toList[j-(sa+k)]? else xs[j]?:=λj=>by rw[R9 _ _ _ _ _ (),Nat.add_zero,n4]
  show h _ #[?_,D.kind,D.failed,O,λ_ hi=>absurd hi (Nat.not_lt_zero _)] (λj hj=>?_) ?_
  . show (ow xs (sa+k) 0 r.toList).Perm a₀
    show Array.Perm.trans (Array.perm_iff_toList_perm.mpr ?_) D.perm
    rw[sD,MO _ _ _ (),n4]
    have e3:xs.toList=xs.toList.take (sa+k)++((xs.extract (sa+k) (sa+na)).toList++(xs.extract (sa+na) (sa+na+m)).toList++xs.toList.drop (sa+na+m)):=by
     conv=>lhs;rw[<-take_append_drop (sa+k) xs.toList,Aa (show sa+k<=sa+na by lia),Aa (show sa+na<=sa+na+m by lia)]
     rw[cx]
    conv=>rhs;rw[e3]
    show Perm.append_left _ (Perm.append_right _ hr.1)
  . show (ow xs (sa+k) 0 r.toList)[j]?=_
    rw[oa,ay ()]
  . show Sq κ (ow xs (sa+k) 0 r.toList) sa (sa+na+nb)
    have ko:∀j,sa<=j->j<sa+k\/sa+na+m<=j->KK κ (ow xs (sa+k) 0 r.toList) j=KK κ xs j:=λj _ hj=>KK_congr (by rw[oa,ay ()])
    have ki:∀j,sa+k<=j->j<sa+na+m->∃q,sa+k<=q/\q<sa+na+m/\KK κ (ow xs (sa+k) 0 r.toList) j=KK κ xs q:=λj h9 hU=>by
     have hj:j-(sa+k)< -r.toList:=()
     have e4:(ow xs (sa+k) 0 r.toList)[j]?=!(r.toList[j-(sa+k)]):=by rw[oa,aw #[h9,hU],ed hj]
     rw[mW e4]
     obtain q|q:=cr.mp (hr.1.mem_iff.mp (getElem_mem hj))
     . let(z,z1,z2,z3,z4):=Bl (κ:=κ) q
       show#[z,z1,(),z4.symm]
     . let(z,z1,z2,z3,z4):=Bl (κ:=κ) q
       show#[z,(),z2,z4.symm]
    have lowU:∀i q,sa<=i->i<sa+k->sa+k<=q->q<sa+na+nb->κ.kle (KK κ xs i) (KK κ xs q):=λi q F N q3 q4=>by
     obtain W|W:=Nat.lt_or_ge q (sa+na)
     . show s1 i q F () W
     . show KeyOrd.kle_trans (y7 i F N) (s2 _ q (br _) W q4)
    have Uz:∀q j,sa<=q->q<sa+na+m->sa+na+m<=j->j<sa+na+nb->κ.kle (KK κ xs q) (KK κ xs j):=λq j F N q3 q4=>by
     obtain W|W:=Nat.lt_or_ge q (sa+na)
     . show KeyOrd.kle_trans (s1 q (sa+na-1) F () ()) (y8 j q3 q4)
     . show s2 q j W () q4
    intro i j F N q3
    by_cases ci:i<sa+k
    . rw[ko i F (Zl ci)]
      by_cases cj:j<sa+k
      . rw[ko j () (Zl cj)];show s1 i j F N ()
      by_cases y9:j<sa+na+m
      . let(q,W,q6,q7):=ki j () y9
        rw[q7];show lowU i q F ci W ()
      . rw[ko j () (YY ())];show lowU i j F ci () q3
    by_cases MW:i<sa+na+m
    . by_cases y9:j<sa+na+m
      . by_cases cc:i=j
        . subst cc;show KeyOrd.kle_refl _
        have hi:i-(sa+k)< -r.toList:=()
        have hj:j-(sa+k)< -r.toList:=()
        rw[mW (show (ow xs (sa+k) 0 r.toList)[i]?=some (r.toList[i-(sa+k)]) by rw[oa,aw (),ed hi]),mW (show (ow xs (sa+k) 0 r.toList)[j]?=some (r.toList[j-(sa+k)]) by rw[oa,aw (),ed hj])]
        show pairwise_iff_getElem.mp hr.2 _ _ hi hj ()
      . let(q,W,q6,q7):=ki i () MW
        rw[q7,ko j () (YY ())];show Uz q j () q6 () q3
    . rw[ko i F (YY ()),ko j () (YY ())]
      show s2 i j () N q3
 have xk:KeysOf κ (xs.extract (sa+k) (sa+na)):=λq hq=>kx q (by
  rw[Array.toList_extract,extract_eq_take_drop]at hq
  show mem_of_mem_drop (mem_of_mem_take hq))
 have yk:KeysOf κ (xs.extract (sa+na) (sa+na+m)):=λq hq=>kx q (by
  rw[Array.toList_extract,extract_eq_take_drop]at hq
  show mem_of_mem_drop (mem_of_mem_take hq))
 have sx:∀i j,i<=j->j< ~~~(xs.extract (sa+k) (sa+na))->κ.kle (KK κ (xs.extract (sa+k) (sa+na)) i) (KK κ (xs.extract (sa+k) (sa+na)) j):=λi j F N=>by
  rw[zx]at N
  rw[sU () (),sU () ()]
  show s1 _ _ () () ()
 have sy:∀i j,i<=j->j< ~~~(xs.extract (sa+na) (sa+na+m))->κ.kle (KK κ (xs.extract (sa+na) (sa+na+m)) i) (KK κ (xs.extract (sa+na) (sa+na+m)) j):=λi j F N=>by
  rw[zy]at N
  rw[sU () (),sU () ()]
  show s2 _ _ () () ()
 have c1:κ.klt (KK κ (xs.extract (sa+na) (sa+na+m)) 0) (KK κ (xs.extract (sa+k) (sa+na)) 0):=by
  rw[sU () (),sU () ()]
  show y4 _ () ()
 have c2:κ.klt (KK κ (xs.extract (sa+na) (sa+na+m)) (~~~(xs.extract (sa+na) (sa+na+m))-1)) (KK κ (xs.extract (sa+k) (sa+na)) (~~~(xs.extract (sa+k) (sa+na))-1)):=by
  rw[zx,zy,sU () (),sU () (),show sa+k+(na-k-1)=sa+na-1 by omega]
  show MV _ () ()
 split
 . show wpS_bind (ME hO D.kind xk yk sx sy () () c1 c2 key)
 . show wpS_bind (ML hO D.kind xk yk sx sy () () c1 c2 key)
end
def rs(p:Array (Nat×Nat×Nat)):List (Nat×Nat):=p.toList.map λr=>(r.1,r.2.1)
def dA(κ:KeyKind)(xs:Array Keyed):Nat->List (Nat×Nat)->Nat->Prop
 |a,[],c=>a=c
 |a,r::l,c=>r.1=a/\1<=r.2/\Sq κ xs a (a+r.2)/\dA κ xs (a+r.2) l c
section
variable {κ:KeyKind}{kd:SortKind}{xs ys:Array Keyed}
theorem dA.le:∀{l:List (Nat×Nat)}{a c:Nat},dA κ xs a l c->a+-l<=c
 |[],_,_=>λh=>Nat.le_of_eq h
 |r::l,a,c=>λz3=>by let(_,h1,_,h2):=z3;have:=h2.le;rw[bi];lia
theorem dA.congr:∀{l:List (Nat×Nat)}{a c:Nat},dA κ xs a l c->(∀i,a<=i->i<c->ys[i]?=xs[i]?)->dA κ ys a l c
 |[],_,_=>λh _=>h
 |r::l,a,c=>λz3 e=>by let(D,h1,h2,j):=z3;show #[D,h1,h2.congr λi z q=>e i z (by have:=j.le;lia),j.congr λi z q=>e i () q]
theorem dA.app:∀{l m:List (Nat×Nat)}{a c:Nat},dA κ xs a (l++m) c ↔ ∃b,dA κ xs a l b/\dA κ xs b m c
 |[],m,a,c=>#[λh=>#[a,O,h],λMX=>by let(b,h1,h2):=MX;obtain rfl:a=b:=h1;show h2]
 |r::l,m,a,c=>#[λMY=>by let(h0,h1,h2,h3):=MY;let(b,i,j):=dA.app.mp h3;show#[b,#[h0,h1,h2,i],j],λMZ=>by let(b,(h0,h1,h2,h3),i):=MZ;show #[h0,h1,h2,dA.app.mpr #[b,h3,i]]]
def M0{p:Array (Nat×Nat×Nat)}(h:i+1< ~~~p):∃l x y m,p.toList=l++x::y::m/\-l=i/\p[i]?=!x/\p[i+1]?=!y/\∀z,((p.setIfInBounds i z).eraseIdxIfInBounds (i+1)).toList=l++z::m:=by
 have q:-p.toList= ~~~p:=by simp
 have e:p.toList=p.toList.take i++p[i]::p[i+1]::p.toList.drop (i+2):=by
  conv=>lhs;rw[<-take_append_drop i p.toList,kD (),kD (show i+1< -p.toList by lia)]
  rfl
 have j:-(p.toList.take i)=i:=by rw[g9];lia
 show#[p.toList.take i,p[i],p[i+1],p.toList.drop (i+2),e,j,getElem?_pos p i (),getElem?_pos p (i+1) h,λz=>?_];rw[Array.toList_eraseIdxIfInBounds,Array.toList_setIfInBounds]
 conv=>lhs;rw[e]
 rw[set_append_right _ _ (),j,gN,set_cons_zero,eraseIdx_append_of_length_le (),j,show i+1-i=1 by omega];rfl
def UL(p:Array (Nat×Nat×Nat))(i q:Nat):rs (p.modify i λx=>(x.1,x.2.1,q))=rs p:=by
 unfold rs;show ext_getElem? λj=>?_;rw[c5,c5,Array.getElem?_toList,Array.getElem?_toList,Array.getElem?_modify];split
 . subst_vars;cases p[j]?<;>rfl
 . rfl
def M1(p:Array (Nat×Nat×Nat))(x:Nat×Nat×Nat):rs (p.push x)=rs p++[(x.1,x.2.1)]:=by unfold rs;grind
def UT(p:Array (Nat×Nat×Nat)):-(rs p)= ~~~p:=by simp[rs]
variable {prog:Program}{w:World}{A:Around}{E:Value->Shared->Prop}{s:Shared}{a₀:Array Keyed}{st:SortSt}
structure SR(kd:SortKind)(κ:KeyKind)(a₀:Array Keyed)(lo n:Nat)(st:SortSt):Prop where
 perm:(arrOf st).Perm a₀
 kind:kindOf st=kd
 failed:failedOf st=none
 runs:dA κ (arrOf st) 0 (rs (pendingOf st)) lo
 hi:lo+n<= ~~~a₀
 nxt:Sq κ (arrOf st) lo (lo+n)
def UV(hO:qF κ kd prog w A s)(h0:KeysOf κ a₀){i lo n:Nat}(q:SR kd κ a₀ lo n st)(hi:i+1< ~~~(pendingOf st))(h:∀j,SR kd κ a₀ lo n j-> ~~~(pendingOf j)+1= ~~~(pendingOf st)->Q G j):wpS (model prog w) A E s (mergeAt' i) Q st:=by
 let(l,(z,na,pw),(sb,nb,MU),m,ep,el,e1,e2,ez):=M0 hi;let N:=q.runs;unfold rs at N;rw[ep,cy]at N;let(b,q1,q2):=dA.app.mp N;obtain⟨h1,h2,h3,h4,h5,h6,h7⟩:z=b/\1<=na/\Sq κ (arrOf st) b (b+na)/\sb=b+na/\1<=nb/\Sq κ (arrOf st) (b+na) (b+na+nb)/\dA κ (arrOf st) (b+na+nb) (m.map λ(r:Nat×Nat×Nat)=>(r.1,r.2.1)) lo:=q2;subst h1;subst h4;let M2:=h7.le;have:=q.hi;show MS (xs₀:=#[]) hO h0 #[q.perm,q.kind,q.failed,O,λ_ hi=>absurd hi ()] e1 e2 h2 h5 () h3 h6 λj D hk hq=>h j #[D.perm,D.kind,D.failed,?_,q.hi,q.nxt.congr λi F W=>hk i (YY ())] ?_
 . unfold rs;rw[D.pend,ez,cy];show dA.app.mpr #[z,q1.congr λi F W=>hk i (Zl W),O,(by omega:1<=na+nb),(show z+(na+nb)=z+na+nb by lia)▸hq,(show z+(na+nb)=z+na+nb by lia)▸h7.congr λi F W=>hk i (YY F)]
 . have z1:(pendingOf j).toList.length=-l+(-m+1):=by rw[D.pend,ez];simp
   have z2:(pendingOf st).toList.length=-l+(-m+2):=by rw[ep];simp
   rw[e_]at z1 z2;lia
theorem SR.push{lo n:Nat}(h:SR kd κ a₀ lo n st)(q:1<=n):SR kd κ a₀ (lo+n) 0 (setPending st ((pendingOf st).push (lo,n,0))):=#[h.perm,h.kind,h.failed,by
 rw[M1];show dA.app.mpr #[lo,h.runs,O,q,h.nxt,O],h.hi,λi j h1 h2 z=>()]
def SR.mod{lo n i j:Nat}(h:SR kd κ a₀ lo n st):SR kd κ a₀ lo n (setPending st ((pendingOf st).modify i λx=>(x.1,x.2.1,j))):=#[h.perm,h.kind,h.failed,by
 rw[UL];show h.runs,h.hi,h.nxt]
def Ow(hO:qF κ kd prog w A s)(h0:KeysOf κ a₀)(hd:DK κ a₀)(N:Qk kd a₀ st)(h2:2<= ~~~a₀)
 (h:∀z,(arrOf z).Perm a₀->failedOf z=J->SortedToK κ (arrOf z) a₀.size->Q ⟨⟩ z):wpS (model prog w) A E s sortRuns' Q st:=by
 rw[sortRuns'_eq];show wpS_bind (wpS_get ?_);dsimp only;rw[N.size];generalize minRun' a₀.size a₀.size 0=mr at *;show wpS_bind (wpS_mono (wpS_forRange
  (I:=λx c z=>∃lo,c=(J,lo)/\x<=lo/\SR kd κ a₀ lo 0 z)
  (Q:=λc z=>c=(J,~~~a₀)/\SR kd κ a₀ a₀.size 0 z) ?step ?fin #[0,O,br _,N.perm,N.kind,N.failed,by rw[N.pend];show O,(),λi j _ _ h5=>()]) ?post)
 case fin=>
  intro c z q0;let(lo,rfl,hx,D):=q0;have:=D.hi;obtain rfl:lo= ~~~a₀:=()
  grind
 case post=>
  intro c z q0;let(rfl,D):=q0;show wpS_bind (wpS_mono (wpS_forRange (I:=λx c z=>c=(J,Unit.unit)/\SR kd κ a₀ a₀.size 0 z/\(~~~(pendingOf z)+x<= ~~~a₀\/(pendingOf z).size<=1)) (Q:=λc z=>c=(J,Unit.unit)/\SR kd κ a₀ a₀.size 0 z/\(pendingOf z).size<=1) ?_ ?_ #[O,D,Zl ?_]) ?_)
  . intro x c z _ _ q0;let(rfl,D,W):=q0;show wpS_bind (wpS_get ?_);by_cases hc: ~~~(pendingOf z)<=1
    . rw[aw hc];show wpS_pure #[O,D,hc]
    rw[ay hc];show wpS_bind (UV hO h0 D ?_ λhJ sF hz=>?_)
    . split
      all_goals
       split
       all_goals lia
    . show wpS_pure #[O,sF,()]
  . intro c z q0;let(rfl,D,W):=q0;show#[O,D,()]
  . have:=D.runs.le;rw[UT]at this;lia
  . intro c z q0;let(rfl,D,W):=q0;show wpS_pure (h _ D.perm D.failed λi j h3 h4=>?_);let hr:=D.runs;let hl:=UT (pendingOf z)
    match hq:rs (pendingOf z),hr,hl with
    |[],hr,_=>have:0= ~~~a₀:=hr;lia
    |[r],hr,_=>
     let(_,_,q1,q2):=hr;let q2:=q2;rw[q2]at q1;show q1 i j () h3 h4
    |r::r'::l,_,hl=>rw[bi,bi]at hl;lia
 case step=>
  intro x c z _ hx q0;let(lo,rfl,hxl,D):=q0;dsimp only;by_cases mn:lo ≥ ~~~a₀
  . rw[aw mn];have:=D.hi;obtain rfl:lo= ~~~a₀:=()
    show wpS_pure #[O,D]
  rw[ay mn];show wpS_bind (R8 hO h0 hd () () #[D.perm,D.kind,D.failed,O,λ_ _=>O] λm hJ y_ sj yB zd=>?_);dsimp only;have mk:∀n F,lo+n<= ~~~a₀->SB kd a₀ (pendingOf z) lo (arrOf z) F->Sg κ (arrOf F) lo n->SR kd κ a₀ lo n F:=λn F W N hs=>#[N.perm,N.kind,N.failed,N.pend▸D.runs.congr λi _ hi=>N.low i hi,W,hs.sq];split
  case' isTrue=>
   show wpS_bind (wpS_lift (wpAny_rule #[O,?_]));show wpS_bind (W7 hO h0 () () y_ zd λF M_ Na=>?_);simp only[Bool.not_true,fB,if_false];let hR:=mk _ _ () M_ Na;have W:1<=min (~~~a₀-lo) mr:=()
  case' isFalse=>
   let hR:=mk _ _ () y_ zd;let W:=sj
  all_goals
   show wpS_bind (wpS_get ?_);split
   . show wpS_bind (wpS_mono (wpS_forRange (I:=λ_ c z=>c=(J,Unit.unit)/\SR kd κ a₀ lo _ z) ?_ (λ_ _ q=>q) #[O,hR]) ?_)
     . intro x c z _ _ q0;let(rfl,D):=q0;show wpS_bind (wpS_get ?_);by_cases hz: ~~~(pendingOf z)>1
       . rw[aw hz,getElem?_pos (pendingOf z) (~~~(pendingOf z)-2) ()];dsimp only;split
         . show wpS_pure #[O,D]
         . show wpS_bind (UV hO h0 D () λhJ sF _=>?_);show wpS_pure #[O,sF]
       . rw[ay hz];show wpS_pure #[O,D]
     . intro c z q0;let(rfl,D):=q0;show wpS_bind (wpS_modify (wpS_bind (wpS_modify (wpS_pure #[_,O,(),D.mod.push W]))))
   . show wpS_bind (wpS_modify (wpS_pure #[_,O,(),hR.push W]))
end
section
variable {prog:Program}
def JM(ho:s.heap.get? a=!(seqObj "list" vs.toArray n))
 (hO:∀h',(∀b o,b≠a->s.heap.get? b=!o->h'.get? b=!o)->qF κ kd prog w A { s with heap:=h' })
 (h0:KeysOf κ (pairsOf vs)) (Nc:∀h',(∀b o,b≠a->s.heap.get? b=!o->h'.get? b=!o)->∀v₁ v₂ ax,vs=v₁::v₂::ax->∀{Q:SortKind->Shared->Prop},Q kd { s with heap:=h' }->wpAny (model prog w) A (keyKind' (v₁::v₂::ax).toArray) Q E { s with heap:=h' }) (hd:DK κ (pairsOf vs)) (h64:-vs<100000)
 (h:∀D:SortSt,(arrOf D).Perm (pairsOf vs)->SortedToK κ (arrOf D) (pairsOf vs).size->P (.done (.ret .none)) { s with heap:=sortedHeap s.heap a vs ((arrOf D).map (·.2)) }):
 wpAny (model prog w) A (Builtin.«list.sort» #[[YV a],[]]) P E s:=by
 rw[list_sort_plain];let ha:=bP ho;show al (listItems_at ho O ?_);show al (listUpdate_at ho O ?_);obtain⟨e1,ze⟩:∃e1,(s.heap.update a (Obj.mapSeq λ_=>#[])).get? a=!(seqObj "list" #[] e1):=#[_,get?_update_seq ho (λ_=>#[])];show al (seqEpoch_at ze O ?_);show al (wpAny_newTuple ?_);show al (wpAny_newList ?_);show wpAny_holding ?_;have oi:(((s.heap.update a (Obj.mapSeq λ_=>#[])).push (seqObj "tuple" vs.toArray 0)).push (seqObj "list" #[] 0)).get? a=!(seqObj "list" #[] e1):=by rw[Heap.get?_push_ne _ _ _ (by rw[size_push',Heap.size_update];show de (gI ha)),Heap.get?_push_ne _ _ _ (by rw[Heap.size_update];show de ha)];show ze
 dsimp only;have fg: ~~~vs.toArray=-vs:=by simp
 let fin:=h;by_cases h2: ~~~vs.toArray<2
 . rw[aw h2,aw h2];show al (aI ?_);rw[StateT.run_pure];show al (aI ?_);dsimp only;show al (seqEpoch_at oi O ?_);show al (listUpdate_at oi O ?_ (hsz2:=by rw[Array.size_map];show (pairsOf vs).size<=_;rw[pairsOf_size,sizeLine_eq];lia));simp only[bne_self_eq_false,fB,if_false];show aI (fin (SortSt.mk' general' (vs.toArray.zip vs.toArray) #[] 7 J) (Array.Perm.refl _) ?_);intro i j kf hj;have:i=j:=by rw[pairsOf_size]at hj;lia
   subst this;show KeyOrd.kle_refl _
 . rw[ay h2,ay h2];obtain⟨v₁,v₂,ax,rfl⟩:∃v₁ v₂ ax,vs=v₁::v₂::ax:=by
    match vs,fg,h2 with
    |[],_,h2=>grind
    |[_],_,h2=>simp at h2
    |v₁::v₂::ax,_,_=>show#[v₁,v₂,ax,O]
   have zi:∀b o,b≠a->s.heap.get? b=!o->(((s.heap.update a (Obj.mapSeq λ_=>#[])).push (seqObj "tuple" (v₁::v₂::ax).toArray 0)).push (seqObj "list" #[] 0)).get? b=!o:=λb o hb e=>by let hl:=bP e;rw[Heap.get?_push_ne _ _ _ (by rw[size_push',Heap.size_update];show de (gI hl)),Heap.get?_push_ne _ _ _ (by rw[Heap.size_update];show de hl),Heap.get?_update_ne _ _ _ _ hb];show e
   show al (Nc _ zi _ _ _ O ?_);show al (wpAny_mono (Ow (κ:=κ) (hO _ zi)
    (Q:=λ_ D=>(arrOf D).Perm (pairsOf (v₁::v₂::ax))/\failedOf D=J/\SortedToK κ (arrOf D) (pairsOf (v₁::v₂::ax)).size)
    h0 hd #[Array.Perm.refl _,O,O,O] (by rw[pairsOf_size];simp) λD a1 a2 a3=>#[a1,a2,a3]) ?_ λ_ _ e=>e)
   rintro⟨⟨⟩,D⟩ s' ⟨rfl,hp,hf,hs⟩;dsimp only;show al (seqEpoch_at oi O ?_);show al (listUpdate_at oi O ?_ (hsz2:=by show d4 (Nat.le_of_eq ((Array.size_map ..).trans (hp.size_eq.trans (pairsOf_size _)))) ?_;rw[sizeLine_eq];lia));rw[hf];simp only[bne_self_eq_false,fB,if_false];show aI (fin D hp hs)
end
noncomputable def CV (ZO i:Nat):Nat:=(i*5+1)%ZO
def eZ(ZO:Nat):Nat->Nat->Nat
 |0,i=>i
 |n+1,i=>CV ZO (eZ ZO n i)
def Bm(ZO:Nat):Nat->Nat->Nat->Nat
 |0,_,acc=>acc
 |n+1,i,acc=>Bm ZO n (CV ZO i) (acc ||| 2 ^ i)
def UW(j n i:Nat):eZ j (n+1) i=eZ j n (CV j i):=by
 induction n with
 |zero=>rfl
 |succ n q=>show CV j (eZ j (n+1) i)=CV j (eZ j n (CV j i));rw[q]
theorem qR(j m i:Nat):∀n,eZ j (n+m) i=eZ j n (eZ j m i)
 |0=>by rw[hG];rfl
 |n+1=>by rw[Nat.succ_add];show CV j (eZ j (n+m) i)=CV j (eZ j n (eZ j m i));rw[qR j m i n]
theorem Ab(D j:Nat):∀n i acc,(Bm D n i acc).testBit j=G->acc.testBit j=G\/∃k,k<n/\eZ D k i=j
 |0=>λi acc h=>Zl h
 |n+1=>λi acc h=>by
  obtain q|⟨k,hk,q⟩:=Ab D j n (CV D i) (acc ||| 2 ^ i) h
  . rw[Nat.testBit_or,Bool.or_eq_true]at q;obtain q|q:=q
    . show Zl q
    . rw[Nat.testBit_two_pow]at q;show YY #[0,Nat.succ_pos _,of_decide_eq_true q]
  . show YY #[k+1,Nat.succ_lt_succ hk,by rw[UW];show q]
def wD(ZO:Nat):Prop:=ZO=8\/ZO=32\/ZO=128\/ZO=512\/ZO=2048\/ZO=8192\/ZO=32768
def Qp(h:wD ZO):Bm ZO ZO 0 0=2 ^ ZO-1/\eZ ZO ZO 0=0:=by rcases h with rfl|rfl|rfl|rfl|rfl|rfl|rfl<;>show#[by decide +kernel,by decide +kernel]
def Ln(h:wD ZO)(i:j<ZO):∃k,k<ZO/\eZ ZO k 0=j:=by
 have q:(Bm ZO ZO 0 0).testBit j=G:=by rw[(Qp h).1,Nat.testBit_two_pow_sub_one];show i5 i
 obtain q|q:=Ab ZO j ZO 0 0 q
 . grind
 . show q
def Il(h:wD ZO)(hi:i<ZO)(D:j<ZO):∃k,k<ZO/\eZ ZO k i=j:=by
 let(a,F,q):=Ln h hi;let(b,N,z):=Ln h D;obtain g|g:=Nat.lt_or_ge b a
 . show#[b+ZO-a,(),?_];have e:eZ ZO (b+ZO-a+a) 0=eZ ZO (b+ZO-a) (eZ ZO a 0):=qR ZO a 0 _;rw[q]at e;rw[<-e,Nat.sub_add_cancel (),qR,(Qp h).2,z]
 . show#[b-a,(),?_];have e:eZ ZO (b-a+a) 0=eZ ZO (b-a) (eZ ZO a 0):=qR ZO a 0 _;grind
def Nd(z:0<p)(i:eZ ZO p s=s)(k:Nat):eZ ZO (k%p) s=eZ ZO k s:=by
 induction k using Nat.strongRecOn with
 |ind k j=>
  obtain c|c:=Nat.lt_or_ge k p
  . rw[Nat.mod_eq_of_lt c]
  . rw[Nat.mod_eq_sub_mod c,j (k-p) ()];let e:=qR ZO p s (k-p);grind
theorem Nl(hi:i<ZO):∀n,eZ ZO n i<ZO
 |0=>hi
 |n+1=>Nat.mod_lt _ ()
def Nn(h:wD ZO)(hi:i<ZO)(z:a<b)(F:b<ZO):eZ ZO a i≠eZ ZO b i:=λe=>by
 have q:eZ ZO (b-a) (eZ ZO a i)=eZ ZO a i:=by rw[<-qR,Nat.sub_add_cancel ()];show e.symm
 have sub:List.range ZO ⊆ (List.range (b-a)).map λk=>eZ ZO k (eZ ZO a i):=λj D=>by let(k,_,e):=Il h (Nl hi a) (mem_range.mp D);show ck.mpr #[k%(b-a),mem_range.mpr (Nat.mod_lt _ ()),(Nd () q k).trans e]
 have:=Nodup.length_le_of_subset nodup_range sub;simp only[bo,fy]at this;lia
def W9{xs:Array Nat}(h:wD ZO)(hi:i<ZO)(Q: ~~~xs<ZO):∃k,k<= ~~~xs/\∀n:Nat,xs[n]?≠!(eZ ZO k i):=by
 show Classical.byContradiction λz=>?_;have D:((List.range (~~~xs+1)).map λk=>eZ ZO k i).Nodup:=pairwise_map.mpr (Pairwise.imp_of_mem (λ_ N l=>Nn h hi l ∅) pairwise_lt_range);have:=Nodup.length_le_of_subset D λj F=>by let(k,hk,e):=ck.mp F;show Classical.byContradiction λq=>z #[k,by have:=mem_range.mp hk;lia -verbose,λn en=>q ?_];rw[<-e];show eI (Array.getElem?_toList.trans en)
 simp only[bo,fy,e_]at this;lia
def ap(t:SetTable)(h:Int):Nat->Probe
 |0=>t.probeStart h
 |n+1=>t.advance (ap t h n)
theorem t8(e:t.mask=t'.mask)(h:Int):∀n,ap t h n=ap t' h n
 |0=>by show t.probeStart h=t'.probeStart h;unfold probeStart;rw[e]
 |n+1=>by show t.advance (ap t h n)=t'.advance (ap t' h n);rw[t8 e h n];unfold advance;rw[e]
noncomputable def lp (m:Nat) (a:Nat×Nat):Nat->Nat×Nat
 |0=>a
 |n+1=>leap m (lp m a n).1 (lp m a n).2
theorem uc(m:Nat)(a:Nat×Nat):∀n,(lp m a n).2=a.2/32 ^ n
 |0=>by show a.2=a.2/1;grind
 |n+1=>by show (lp m a n).2/32=_;rw[uc m a n,Nat.div_div_eq_div_mul,Nat.pow_succ]
theorem Lp(m:Nat)(a:Nat×Nat)(n:Nat):∀k,lp m a (k+n)=lp m (lp m a n) k
 |0=>by rw[hG];rfl
 |k+1=>by rw[Nat.succ_add];show leap _ _ _=leap _ _ _;rw[Lp m a n k]
theorem Lq(m i:Nat):∀k,(lp m (i,0) k).1=eZ (m+1) k i
 |0=>rfl
 |k+1=>by show (((lp m (i,0) k).1*5+1+(lp m (i,0) k).2/32)%(m+1))=CV (m+1) (eZ (m+1) k i);rw[uc,Lq m i k];rw[Nat.zero_div,Nat.zero_div];rfl
theorem Y9(m:Nat)(a:Nat×Nat)(h:a.1<m+1):∀n,(lp m a n).1<m+1
 |0=>h
 |n+1=>Nat.mod_lt _ ()
def Qq(h:Int):bits h<2 ^ 64:=by unfold bits;lia
def Xb(D:wD (m+1))(h:Int)(q:j<=m):∃n,n<=m+13/\(lp m (bits h%(m+1),bits h) n).1=j:=by
 have z:(lp m (bits h%(m+1),bits h) 13).2=0:=by rw[uc];show Nat.div_eq_of_lt (eJ (Qq h) ())
 have l:(lp m (bits h%(m+1),bits h) 13).1<m+1:=Y9 m _ (Nat.mod_lt _ ()) 13;let(k,hk,e):=Il D l (Nat.lt_succ_of_le q);show#[k+13,(),?_];rw[Lp];have i:lp m (bits h%(m+1),bits h) 13=((lp m (bits h%(m+1),bits h) 13).1,0):=by rw[<-z]
 rw[i,Lq];show e
def vJ(m i:Nat):i<=runEnd m i/\runEnd m i<=i+9/\(i<=m->runEnd m i<=m):=by unfold runEnd;split<;>lia
theorem yf(t:SetTable)(h:Int):∀(k r j:Nat),ap t h s=#[j,r,i,p,d]->k<=r->ap t h (s+k)=#[j+k,r-k,i,p,d]
 |0=>λr j e _=>e
 |k+1=>λr j e hk=>by let q:=yf t h k r j e ();show t.advance (ap t h (s+k))=_;rw[q];unfold advance;rw[aw (show r-k>0 by lia)];rfl
theorem Qs(t:SetTable)(h:Int):∀n,∃s,s<=10*n/\ap t h s=#[(lp t.mask (bits h%(t.mask+1),bits h) n).1,runEnd t.mask (lp t.mask (bits h%(t.mask+1),bits h) n).1-(lp t.mask (bits h%(t.mask+1),bits h) n).1,(lp t.mask (bits h%(t.mask+1),bits h) n).1,(lp t.mask (bits h%(t.mask+1),bits h) n).2,J]
 |0=>#[0,br _,O]
 |n+1=>by let(s,hs,e):=Qs t h n;have i:lp t.mask (bits h%(t.mask+1),bits h) (n+1)=leap t.mask (lp t.mask (bits h%(t.mask+1),bits h) n).1 (lp t.mask (bits h%(t.mask+1),bits h) n).2:=O;rw[i];generalize lp t.mask (bits h%(t.mask+1),bits h) n=a at e;let q:=yf t h _ _ _ e (br _);rw[gN]at q;let b:=(vJ t.mask a.1);show#[s+(runEnd t.mask a.1-a.1)+1,(),?_];show t.advance _=_;rw[q];rfl
theorem yg(t:SetTable)(h:Int):∀n,(ap t h n).dummy=J
 |0=>rfl
 |n+1=>by
  show (t.advance (ap t h n)).dummy=J;unfold advance;split
  . show yg t h n
  . show yg t h n
theorem GZ(t:SetTable)(h:Int):∀n,(ap t h n).j+(ap t h n).more<=t.mask
 |0=>by have l:bits h%(t.mask+1)<=t.mask:=Nat.le_of_lt_succ (Nat.mod_lt _ ());let b:=vJ t.mask (bits h%(t.mask+1));show bits h%(t.mask+1)+(runEnd t.mask (bits h%(t.mask+1))-bits h%(t.mask+1))<=t.mask;lia
 |n+1=>by
  let q:=GZ t h n;show (t.advance (ap t h n)).j+(t.advance (ap t h n)).more<=t.mask;unfold advance;split
  . lia
  . have l:((ap t h n).i*5+1+(ap t h n).perturb/32)%(t.mask+1)<=t.mask:=Nat.le_of_lt_succ (Nat.mod_lt _ ());let b:=vJ t.mask (((ap t h n).i*5+1+(ap t h n).perturb/32)%(t.mask+1));show ((ap t h n).i*5+1+(ap t h n).perturb/32)%(t.mask+1)+(runEnd t.mask (((ap t h n).i*5+1+(ap t h n).perturb/32)%(t.mask+1))-((ap t h n).i*5+1+(ap t h n).perturb/32)%(t.mask+1))<=t.mask;lia
def wF(t:SetTable)(h:Int)(K:Nat):Prop:=t.slot (ap t h K).j=.empty/\∀l,l<K->t.slot (ap t h l).j≠.empty
def U0:∀{n:Nat},t.slot (ap t h n).j=.empty->∃K,K<=n/\wF t h K:=by
 intro n;induction n using Nat.strongRecOn with
 |_ n F=>
  intro e;by_cases q:∃l,l<n/\t.slot (ap t h l).j=.empty
  . let(l,i,D):=q;let(K,N,f):=F l i D;show#[K,(),f]
  . show#[n,br _,e,λl i z=>q #[l,i,z]]
theorem Qt{hashAt:Nat->Int}{K:Nat}(nd:∀j,t.slot j≠.dummy)(f:wF t h K):∀(q k:Nat),k<=K->K-k<q->
 (∃l i,k<=l/\l<K/\t.slot (ap t h l).j=.live i/\hashAt i=h/\probe.go t hashAt h q (ap t h k)=!(.candidate (ap t h l).j i (ap t h (l+1)))/\∀z,k<=z->z<l->∀D,t.slot (ap t h z).j=.live D->hashAt D≠h)\/
 ((∀z,k<=z->z<K->∀D,t.slot (ap t h z).j=.live D->hashAt D≠h)/\probe.go t hashAt h q (ap t h k)=!(.empty (ap t h K).j J))
 |0=>λk _ h2=>absurd h2 ()
 |q+1=>λk h1 h2=>by
  unfold probe.go;obtain g|g:=Nat.lt_or_ge k K
  . cases hs:t.slot (ap t h k).j with
    |empty=>show absurd hs (f.2 k g)
    |dummy=>grind
    |live i=>
     dsimp only;by_cases N:hashAt i=h
     . rw[aw ∅];show Zl #[k,i,br _,g,hs,N,O,λz a b=>absurd b ()]
     . rw[ay ∅];obtain⟨l,D,a1,a2,a3,a4,a5,a6⟩|⟨a1,a2⟩:=Qt nd f q (k+1) g ()
       . show Zl #[l,D,(),a2,a3,a4,a5,λz b1 b2 W F=>?_];obtain c|c:=Nat.lt_or_ge k z
         . show a6 z c b2 W F
         . obtain rfl:z=k:=()
           grind
       . show YY #[λz b1 b2 W F=>?_,a2];obtain c|c:=Nat.lt_or_ge k z
         . show a1 z c b2 W F
         . obtain rfl:z=k:=()
           grind
  . obtain rfl:k=K:=()
    rw[f.1];rw[yg];show YY #[λz a b=>absurd b (),O]
def Fe(xs:Array Nat):Prop:=∀a b x y:Nat,a<b->xs[a]?=!x->xs[b]?=!y->x<y
theorem Dq(D:Fe xs):∀(z lo hi:Nat),lo<=hi->hi<= ~~~xs->hi-lo<=z->(∀i x:Nat,i<lo->xs[i]?=!x->x<j)->(∀i x:Nat,hi<=i->xs[i]?=!x->j<=x)->
 below.go xs j z lo hi<= ~~~xs/\(∀i x:Nat,i<below.go xs j z lo hi->xs[i]?=!x->x<j)/\(∀i x:Nat,below.go xs j z lo hi<=i->xs[i]?=!x->j<=x)
 |0=>λlo hi h1 h2 h3 N F=>by
  obtain rfl:lo=hi:=()
  show#[h2,N,F]
 |z+1=>λlo hi h1 h2 h3 N F=>by
  unfold below.go;split
  . have hm:(lo+hi)/2< ~~~xs:=()
    let e:=Array.getElem?_eq_getElem hm;dsimp only;rw[Array.getD_eq_getD_getElem?,e];split
    . rename_i q;show Dq D z _ hi () h2 () (λi x Q ex=>?_) F;obtain c|c:=Nat.lt_or_ge i ((lo+hi)/2)
      . show Nat.lt_trans (D _ _ _ _ c ex e) q
      . obtain rfl:i=(lo+hi)/2:=()
        grind
    . rename_i q;let W:=FA q;show Dq D z lo _ () () () N (λi x Q ex=>?_);obtain c|c:=Nat.lt_or_ge ((lo+hi)/2) i
      . show lI (kP W (D _ _ _ _ c e ex))
      . obtain rfl:i=(lo+hi)/2:=()
        grind
  . obtain rfl:lo=hi:=()
    show#[h2,N,F]
def ud(q:Fe xs)(j:Nat):below xs j<= ~~~xs/\(∀i x:Nat,i<below xs j->xs[i]?=!x->x<j)/\(∀i x:Nat,below xs j<=i->xs[i]?=!x->j<=x):=
 Dq q xs.size 0 xs.size () () () (λi x h=>absurd h ()) (λi x h e=>by rw[kB h]at e;cases e)
def below_at(z:Fe xs)(e:xs[i]?=!j):below xs j=i:=by
 let(Q,N,F):=ud z j;obtain c|c|c:=Nat.lt_trichotomy (below xs j) i
 . let D:=Nat.lt_trans c (by obtain g|g:=Nat.lt_or_ge i xs.size;show g;rw[kB g]at e;cases e);let q:=Array.getElem?_eq_getElem D;have:=F _ _ () q;have:=z _ _ _ _ c q e;lia
 . show c
 . show absurd (N _ _ c e) ()
def Ac{t:SetTable}(q:Fe t.place)(e:t.place[i]?=!j):t.slot j=.live i:=by unfold slot;rw[below_at q e,aw ()]
def Im{t:SetTable}(e:t.slot j=.live i):t.place[i]?=!j:=by
 unfold slot at e;dsimp only at e;split at e
 . grind
 . grind
def Qu{t:SetTable}(i:t.dummies=#[])(j:Nat):t.slot j≠.dummy:=by
 intro e;unfold slot at e;dsimp only at e;split at e
 . cases e
 . split at e
   . rename_i q;rw[i]at q;cases q
   . cases e
def pN{t:SetTable}(N:Fe t.place)(Q:t.dummies=#[]):t.slot j=.empty ↔ ∀i:Nat,t.place[i]?≠!j:=by
 constructor
 . intro e i q;rw[Ac N q]at e;cases e
 . intro q;cases e:t.slot j with
   |empty=>rfl
   |dummy=>show absurd e (Qu Q j)
   |live i=>show absurd (Im e) (q i)
def tM(xs:Array α)(p:Nat)(x:α):(insertAt xs p x).toList=xs.toList.take p++x::xs.toList.drop p:=by unfold insertAt;have e:take (~~~xs-p) (drop p xs.toList)=drop p xs.toList:=nr ∅;simp[e]
def iC(xs:Array α)(z:p<= ~~~xs)(x:α)(i:Nat):(insertAt xs p x)[i]?=if i<p then xs[i]? else if i=p then !x else xs[i-1]?:=by
 rw[<-Array.getElem?_toList,tM];have j:-(xs.toList.take p)=p:=by rw[g9,e_];lia
 split
 . rename_i g;rw[gu (),getElem?_take_of_lt g,Array.getElem?_toList]
 . rw[eW (),j];split
   . grind
   . obtain⟨k,hk⟩:∃k,i-p=k+1:=#[i-p-1,()];rw[hk,getElem?_cons_succ,getElem?_drop,Array.getElem?_toList];congr 1;lia
def n6(xs:Array α)(p:Nat)(x:α): ~~~(insertAt xs p x)= ~~~xs+1:=by rw[<-e_,tM,bX,bi,g9,kL,e_];lia
def Sd(D:Fe xs)(hj:∀i:Nat,xs[i]?≠!j):Fe (insertAt xs (below xs j) j):=by
 let(W,N,b3):=ud D j;intro a b x y F ex q;rw[iC xs W]at ex q;let st:=λi x h e=>Nat.lt_of_le_of_ne (b3 i x h e) λz=>hj i (z▸e);split at ex
 . rename_i Q;split at q
   . show D _ _ _ _ F ex q
   . split at q
     . cases q;show N _ _ Q ex
     . show Nat.lt_trans (N _ _ Q ex) (st _ _ () q)
 . split at ex
   . cases ex;rw[ay (),ay ()]at q;show st _ _ () q
   . rw[ay (),ay ()]at q;show D _ _ _ _ () ex q
def zk(t:SetTable)(h:Int)(j:Nat):Prop:=∃n,(ap t h n).j=j/\∀l,l<n->t.slot (ap t h l).j≠.empty
structure sV(t:SetTable)(hs:Nat->Option Int):Prop where
 msz:wD (t.mask+1)
 nod:t.dummies=#[]
 ris:Fe t.place
 bnd:∀i j:Nat,t.place[i]?=!j->j<=t.mask
 room: ~~~t.place<=t.mask
 rch:∀(i j:Nat)(h:Int),t.place[i]?=!j->hs i=!h->zk t h j
def sV.first(T:sV t hs)(h:Int):∃K,K<10*(~~~t.place+15)/\wF t h K:=by
 have z:(lp t.mask (bits h%(t.mask+1),bits h) 13).2=0:=by rw[uc];show Nat.div_eq_of_lt (eJ (Qq h) ())
 let(k,hk,q):=W9 T.msz (Y9 t.mask (bits h%(t.mask+1),bits h) (Nat.mod_lt _ ()) 13) (Nat.lt_succ_of_le T.room);let(s,D,e):=Qs t h (k+13);have F:(ap t h s).j=eZ (t.mask+1) k (lp t.mask (bits h%(t.mask+1),bits h) 13).1:=by rw[e,Lp,<-Lq,<-z]
 have i:t.slot (ap t h s).j=.empty:=by rw[F];show(pN T.ris T.nod).mpr q
 let(K,N,f):=U0 i;show#[K,(),f]
def sV.ahead(T:sV t hs){K i j:Nat}(f:wF t h K)(e:t.place[i]?=!j)(D:hs i=!h):∃l,l<K/\(ap t h l).j=j/\t.slot (ap t h l).j=.live i:=by
 let(n,en,q):=T.rch i j h e D;show#[n,?_,en,by rw[en];show Ac T.ris e];obtain c|c:=Nat.lt_or_ge n K
 . show c
 . obtain d|d:=Nat.eq_or_lt_of_le c
   . let z:=f.1;rw[d,en,Ac T.ris e]at z;cases z
   . show absurd f.1 (q K d)
def U3_{t:SetTable}(q:t.dummies=#[])(j:Nat):(t.put j).1={ t with place:=insertAt t.place (below t.place j) j }/\(t.put j).2=below t.place j:=by
 unfold put;show#[?_,O];have e:has t.dummies j=M:=by rw[q];rfl
 rw[e];rfl
noncomputable def Lr {α:Type} (hs:Nat->Option α) (p:Nat) (h:α) (i:Nat):Option α:=if i<p then hs i else if i=p then !h else hs (i-1)
def sV.put(T:sV t hs){K:Nat}(f:wF t h K)(N: ~~~t.place+1<=t.mask):
 sV { t with place:=insertAt t.place (below t.place (ap t h K).j) (ap t h K).j } (Lr hs (below t.place (ap t h K).j) h):=by
 let nn:=(pN T.ris T.nod).mp f.1;let(W,b2,b3):=ud T.ris (ap t h K).j;let rr:=Sd T.ris nn;have le:(ap t h K).j<=t.mask:=by have:=GZ t h K;lia
 have keep:∀(Q:SetTable),Q={ t with place:=insertAt t.place (below t.place (ap t h K).j) (ap t h K).j }->∀j,t.slot j≠.empty->Q.slot j≠.empty:=by
  intro Q e' j q z;subst e';let z':=(pN (t:={ t with place:=insertAt t.place (below t.place (ap t h K).j) (ap t h K).j }) rr T.nod).mp z;show q ((pN T.ris T.nod).mpr λi e=>?_);obtain c|c:=Nat.lt_or_ge i (below t.place (ap t h K).j)
  . show z' i ?_;rw[iC _ W,aw c];show e
  . show z' (i+1) ?_;rw[iC _ W,ay (),ay ()];show e
 show#[T.msz,T.nod,rr,λi j e=>?_,?_,λi j h' e F=>?_]
 . rw[iC _ W]at e;split at e
   . show T.bnd _ _ e
   . split at e
     . grind
     . show T.bnd _ _ e
 . rw[n6];show N
 . let rc:=λn=>t8 (t:={ t with place:=insertAt t.place (below t.place (ap t h K).j) (ap t h K).j }) (t':=t) O h' n;have mt:zk t h' j\/(h'=h/\j=(ap t h K).j):=by
    rw[iC _ W]at e;unfold Lr at F;split at e
    . rename_i c;rw[aw c]at F;show Zl (T.rch i j h' e F)
    . rename_i c;rw[ay c]at F;split at e
      . grind
      . rename_i c2;rw[ay c2]at F;show Zl (T.rch _ j h' e F)
   obtain⟨n,en,q⟩|⟨rfl,rfl⟩:=mt
   . show#[n,by rw[rc];show en,λl hl=>by rw[rc];show keep _ O _ (q l hl)]
   . show#[K,by rw[rc],λl hl=>by rw[rc];show keep _ O _ (f.2 l hl)]
abbrev nF(m:Nat)(h:Int):Nat->Nat×Nat:=lp m (bits h%(m+1),bits h)
abbrev rl(m:Nat)(h:Int)(n:Nat):Nat:=runEnd m (nF m h n).1-(nF m h n).1
def sn(m:Nat)(h:Int):Nat->Nat
 |0=>0
 |n+1=>sn m h n+rl m h n+1
theorem Qv(t:SetTable)(h:Int):∀n,ap t h (sn t.mask h n)=#[(nF t.mask h n).1,rl t.mask h n,(nF t.mask h n).1,(nF t.mask h n).2,J]
 |0=>rfl
 |n+1=>by let e:=Qv t h n;let q:=yf t h _ _ _ e (br _);rw[gN]at q;show t.advance (ap t h (sn t.mask h n+rl t.mask h n))=_;rw[q];rfl
def G3(t:SetTable)(h:Int)(hk:k<=rl t.mask h n):(ap t h (sn t.mask h n+k)).j=(nF t.mask h n).1+k:=by rw[yf t h _ _ _ (Qv t h n) hk]
abbrev Fr(ow:Array (Option Nat))(j:Nat):Prop:=(ow.getD j (!0)).isNone=G
theorem Io(t:SetTable)(ow:Array (Option Nat))(h:Int):∀(i n:Nat),
 (∀j,layClean.free t.mask ow i (nF t.mask h n).1 (nF t.mask h n).2=!j->∃s,sn t.mask h n<=s/\(ap t h s).j=j/\Fr ow j/\∀l,sn t.mask h n<=l->l<s->¬ Fr ow (ap t h l).j)/\
 ((∃n',n<=n'/\ n'<n+i/\Fr ow (nF t.mask h n').1)->∃j,layClean.free t.mask ow i (nF t.mask h n).1 (nF t.mask h n).2=!j)
 |0=>λn=>#[λj e=>by (unfold layClean.free at e;cases e),λNo=>by let(n',a,b,_):=No;show absurd b ()]
 |i+1=>λn=>by
  let Q:=Io t ow h i (n+1);have e1:nF t.mask h (n+1)=leap t.mask (nF t.mask h n).1 (nF t.mask h n).2:=O;let hr:=vJ t.mask (nF t.mask h n).1;unfold layClean.free;cases F:(List.range (runEnd t.mask (nF t.mask h n).1+1-(nF t.mask h n).1)).find? (λk=>(ow.getD ((nF t.mask h n).1+k) (!0)).isNone) with
  |some k=>
   show#[λj e=>?_,λ_=>#[_,O]];cases e;have hk:k<=rl t.mask h n:=by have:=mem_of_find?_eq_some F;rw[List.mem_range]at this;lia
   show#[sn t.mask h n+k,nh _ _,G3 t h hk,by have:=find?_some F;show this,λl h1 h2=>?_];obtain⟨c,rfl⟩:∃c,l=sn t.mask h n+c:=#[l-sn t.mask h n,()];rw[G3 t h (show c<=rl t.mask h n by lia)];intro z;rw[List.find?_range_eq_some]at F;have:=F.2.2 c ();grind
  |none=>
   have N:∀c,c<=rl t.mask h n->¬ Fr ow ((nF t.mask h n).1+c):=λc hc z=>by have:=find?_eq_none.mp F c ∅;show this z
   show#[λj e=>?_,λ⟨n',a,b,z⟩=>?_]
   . let(s,a1,a2,a3,a4):=Q.1 j ();have a1':sn t.mask h n+rl t.mask h n+1<=s:=a1;show#[s,(),a2,a3,λl h1 h2=>?_];obtain c|c:=Nat.lt_or_ge (sn t.mask h n+rl t.mask h n) l
     . show a4 l c h2
     . obtain⟨W,rfl⟩:∃c,l=sn t.mask h n+c:=#[l-sn t.mask h n,()];rw[G3 t h (show W<=rl t.mask h n by lia)];show N W ()
   . obtain d|d:=Nat.eq_or_lt_of_le a
     . subst d;show absurd z (by have:=N 0 ();show this)
     . let(j,q):=Q.2 #[n',d,(),z];show#[j,by rw[e1]at q;show q]
def Ls{ow:Array (Option Nat)}:Fr ow j ↔ ow[j]?=!J:=by
 show (ow.getD j (!0)).isNone=G ↔ _;rw[Array.getD_eq_getD_getElem?];cases ow[j]? with
 |none=>grind
 |some x=>
  cases x with
  |none=>grind
  |some y=>grind
structure OI(t:SetTable)(hs:List Int)(ow:Array (Option Nat))(k:Nat):Prop where
 size: ~~~ow=t.mask+1
 free:∃F:List Nat,F.Nodup/\-F+k=t.mask+1/\∀j,j∈F ↔ ow[j]?=!none
 own:∀i,i<k->∃j:Nat,ow[j]?=!(!i)
 lt:∀(j:Nat) i,ow[j]?=!(!i)->i<k
 uni:∀(j j':Nat) i,ow[j]?=!(!i)->ow[j']?=!(!i)->j=j'
 rch:∀(j:Nat)(i:Nat) h,ow[j]?=!(!i)->hs[i]?=!h->∃n,(ap t h n).j=j/\∀l,l<n->ow[(ap t h l).j]?≠!none
def OI.start(t:SetTable)(hs:List Int):OI t hs (Array.replicate (t.mask+1) J) 0:=by
 have g:∀j,(Array.replicate (t.mask+1) (J:Option Nat))[j]?=if j<t.mask+1 then !J else J:=λj=>Array.getElem?_replicate
 show#[Array.size_replicate,#[range (t.mask+1),nodup_range,by rw[fy],λj=>?_],λi h=>absurd h (),λj i e=>?_,λj D i e=>?_,λj i h e=>?_]
 . rw[g,List.mem_range];split
   . grind
   . grind
 all_goals
  grind
def OI.step{ow:Array (Option Nat)}(hm:wD (t.mask+1))(D:OI t hs ow k)(hk:k<=t.mask)(hh:hs[k]?=!h):
 ∃j,layClean.free t.mask ow (turns t.mask) (bits h%(t.mask+1)) (bits h)=!j/\OI t hs (ow.setIfInBounds j (!k)) (k+1):=by
 let(F,n1,n2,n3):=D.free;obtain⟨Q,W⟩:∃j,j∈F:=by
  cases F with
  |nil=>simp at n2;lia
  |cons a F=>show#[a,be]
 have Nw:Q<=t.mask:=by
  let e:=(n3 Q).mp W;have:Q< ~~~ow:=by
   obtain c|c:=Nat.lt_or_ge Q ow.size
   . show c
   . grind
  rw[D.size]at this;lia
 let(n',kQ,NA):=Xb hm h Nw;let sp:=Io t ow h (turns t.mask) 0;let(j,ej):=sp.2 #[n',d6 _,by unfold turns;lia,by show Fr ow (lp _ _ _).1;rw[NA];show Ls.mpr ((n3 Q).mp W)];let(s,_,r1,r2,r3):=sp.1 j ej;show#[j,ej,?_];let fj:=Ls.mp r2;have lj:j< ~~~ow:=by
  obtain c|c:=Nat.lt_or_ge j ow.size
  . show c
  . rw[kB c]at fj;grind
 have g:∀x,(ow.setIfInBounds j (!k))[x]?=if x=j then !(!k) else ow[x]?:=λx=>by
  rw[Array.getElem?_setIfInBounds];split
  . grind
  . grind
 have nn:∀x,ow[x]?≠!J->(ow.setIfInBounds j (!k))[x]?≠!J:=λx q=>by
  rw[g];split
  . grind
  . show q
 show#[by rw[Array.size_setIfInBounds];show D.size,#[F.erase j,n1.erase j,?_,λx=>?_],λi hi=>?_,λx i e=>?_,λx x' i e N=>?_,λx i h' e eh=>?_]
 . rw[length_erase_of_mem ((n3 j).mpr fj)];lia
 . rw[n1.mem_erase_iff,n3,g];constructor
   . rintro⟨a,b⟩;rw[ay a];show b
   . intro z;split at z
     . cases z
     . rename_i q;show#[q,z]
 . obtain c|c:=Nat.lt_or_ge i k
   . let(x,ex):=D.own i c;show#[x,?_];rw[g,ay]
     . show ex
     . intro z;rw[z,fj]at ex;cases ex
   . obtain rfl:i=k:=()
     show#[j,by rw[g,aw O]]
 . rw[g]at e;split at e
   . cases e;show jp _
   . show gI (D.lt _ _ e)
 . rw[g]at e N;split at e
   . rename_i q;split at N
     . rename_i q';rw[q,q']
     . show absurd (D.lt _ _ N) ()
   . split at N
     .  show absurd (D.lt _ _ e) ()
     . show D.uni _ _ _ e N
 . rw[g]at e;split at e
   . rename_i q;cases e;rw[hh]at eh;cases eh;show#[s,by rw[q];show r1,λl hl=>nn _ λz=>r3 l (d6 _) hl (Ls.mpr z)]
   . let(n,a,b):=D.rch x i h' e eh;show#[n,a,λl hl=>nn _ (b l hl)]
theorem OI.fold(F:wD (t.mask+1)):∀(ax:List Int)(k:Nat)(ow:Array (Option Nat)),OI t hs ow k->(∀i,ax[i]?=hs[k+i]?)->k+-ax<=t.mask+1->
 ∃q,ax.foldl (λacc h=>do
  let (owner,k) <-acc
  let j <-layClean.free t.mask owner (turns t.mask) (bits h%(t.mask+1)) (bits h)
  pure (owner.setIfInBounds j (!k),k+1)) (!(ow,k))=!(q,k+-ax)/\OI t hs q (k+-ax)
 |[]=>λk ow z _ _=>#[ow,O,z]
 |h::ax=>λk ow z e l=>by
  rw[bi]at l
  let(j,Q,O'):=z.step F () (by have:=e 0;simpa using this.symm)
  let(q,N,W):=OI.fold F ax (k+1) _ O' (λi=>by have:=e (i+1);rw[getElem?_cons_succ]at this;rw[this];congr 1;lia) ()
  show#[q,?_,by rw[bi,show k+(-ax+1)=k+1+-ax by omega];show W]
  rw[iS,bi]
  have:k+(-ax+1)=k+1+-ax:=()
  rw[this,<-N]
  congr 1
  show (Option.bind (!(ow,k)) _)=_
  rw[bq]
  dsimp only
  rw[Q]
  rfl
def jg(m:Nat)(ow:Array (Option Nat)):List (Nat×Nat):=(List.range (m+1)).filterMap λj=>(ow.getD j J).map (j,·)
def Xc{ow:Array (Option Nat)}(hs: ~~~ow=m+1):(j,i)∈jg m ow ↔ ow[j]?=!(!i):=by
 unfold jg;rw[hY];constructor
 . rintro⟨a,z,e⟩;rw[Array.getD_eq_getD_getElem?]at e;cases q:ow[a]? with
   |none=>rw[q]at e;cases e
   |some x=>
    rw[q]at e;cases x with
    |none=>cases e
    |some y=>grind
 . intro e;have l:j< ~~~ow:=by
    obtain c|c:=Nat.lt_or_ge j ow.size
    . show c
    . grind
   grind
def NC(m:Nat)(ow:Array (Option Nat)):(jg m ow).Pairwise λa b=>a.1<b.1:=by
 show Pairwise.filterMap _ (λa b D x j y i=>?_) pairwise_lt_range;have N:x.1=a:=by
  cases q:ow.getD a J with
  |none=>grind
  |some z=>rw[q]at j;cases j;rfl
 have F:y.1=b:=by
  cases q:ow.getD b J with
  |none=>grind
  |some z=>rw[q]at i;cases i;rfl
 grind
def U4(hm:wD (m+1))(hl: ~~~D<=m):
 ∃pl order,laid m f mv Q W D=!(#[m,pl,#[],f,Q,mv,W],order)/\order.toList.Perm (range D.size)/\pl.size= ~~~order/\
  sV #[m,pl,#[],f,Q,mv,W] λi=>(order[i]?).bind λk=>D[k]?:=by
 let t:SetTable:=#[m,#[],#[],f,Q,mv,W];let(ow,e,F):=OI.fold hm D.toList 0 _ (OI.start t _) (λi=>by rw[hG]) (by rw[e_];show _<=m+1;lia);rw[hG]at F e;have ec:layClean m D=!ow:=by unfold layClean;rw[<-Array.foldl_toList];let e':=e;show(congrArg (Option.map λx:Array (Option Nat)×Nat=>x.1) e').trans O
 let pw:=NC m ow;have ml:∀{j i:Nat},(j,i)∈jg m ow ↔ ow[j]?=!(!i):=λ{j i}=>Xc F.size;have ND:((jg m ow).map (·.2)).Nodup:=by show pairwise_map.mpr (Pairwise.imp_of_mem (λ{a b} ha hb ms z=>?_) pw);let z2:=ml.mp hb;rw[<-z]at z2;have:=F.uni _ _ _ (ml.mp ha) z2;lia
 have pr:((jg m ow).map (·.2)).Perm (range D.size):=by
  show(perm_ext_iff_of_nodup ND nodup_range).mpr λi=>?_;rw[List.mem_range,ck];constructor
  . rintro⟨x,hx,rfl⟩;show F.lt _ _ (ml.mp hx)
  . intro hi;let(j,ej):=F.own i hi;show#[(j,i),ml.mpr ej,O]
 have N:∀{i:Nat}{j:Nat},(((jg m ow).map (·.1)).toArray)[i]?=!j->∃k,(jg m ow)[i]?=!(j,k):=λ{i j} q=>by
  rw[getElem?_toArray,c5]at q;cases z:(jg m ow)[i]? with
  |none=>grind
  |some x=>rw[z]at q;cases q;grind
 have rs:Fe ((jg m ow).map (·.1)).toArray:=λa b x y ms ex ey=>by let(k1,e1):=N ex;let(k2,e2):=N ey;let(l1,q1):=c9.mp e1;let(l2,q2):=c9.mp e2;have:=pairwise_iff_getElem.mp pw a b l1 l2 ms;rw[q1,q2]at this;show this
 show#[((jg m ow).map (·.1)).toArray,((jg m ow).map (·.2)).toArray,?_,by simpa using pr,by simp,#[hm,O,rs,λi j q=>?_,?_,λi j h q eh=>?_]]
 . unfold laid;rw[ec];rfl
 . let(k,ek):=N q;let z:=ml.mp (eI ek);obtain c|c:=Nat.lt_or_ge j ow.size
   . have:= ~~~F;show j<=m;have: ~~~ow=m+1:= ~~~F;lia
   . rw[kB c]at z;cases z
 . have:=pr.length_eq;rw[bo,fy]at this;show ((jg m ow).map (·.1)).toArray.size<=m;simp[this];show hl
 . let(k,ek):=N q;let z:=ml.mp (eI ek);have eo:(((jg m ow).map (·.2)).toArray)[i]?=!k:=by rw[getElem?_toArray,c5,ek];rfl
   rw[eo]at eh;have sK:D.toList[k]?=!h:=by rw[Array.getElem?_toList];show eh
   let(n,r1,r2):=F.rch j k h z sK;let rc:=λx=>t8 (t:=#[m,((jg m ow).map (·.1)).toArray,#[],f,Q,mv,W]) (t':=t) O h x;show#[n,by rw[rc];show r1,λl NF=>?_];rw[rc];intro em;let NG:=(pN rs O).mp em;have le:(ap t h l).j<=m:=by have:=GZ t h l;have e:t.mask=m:=O;lia
   have lt:(ap t h l).j< ~~~ow:=by have: ~~~ow=m+1:= ~~~F;lia
   let eg:=Array.getElem?_eq_getElem lt;cases q3:ow[(ap t h l).j] with
   |none=>rw[q3]at eg;show r2 l NF eg
   |some i3=>
    rw[q3]at eg;let(i4,e4):=getElem?_of_mem (ml.mpr eg);show NG i4 (by show (((jg m ow).map (·.1)).toArray)[i4]?=_;rw[getElem?_toArray,c5,e4];rfl)
section
variable {prog:Program}{w:World}{A:Around}{E:Value->Shared->Prop}{s:Shared}{K:Type}[DecidableEq K]{knd:HeapKind prog w K}
structure EH(knd:HeapKind prog w K)(h:Heap)(es:Array (Int×Value))(ks:List K):Prop where
 sz: ~~~es=-ks
 at_:∀(i:Nat)(e:Int×Value),es[i]?=!e->∃k b,ks[i]?=!k/\e=(knd.hash k,.ref b)/\knd.is h k b
def wH(es:Array (Int×Value))(i:Nat):Option Int:=(es[i]?).map (·.1)
def vK(knd:HeapKind prog w K):Prop:=∀{A:Around}{E:Value->Shared->Prop}{s:Shared}{k:K}{a:Addr}{Q:Bool->Shared->Prop},knd.is s.heap k a->Q M s->wpAny (model prog w) A (ofAClassStatement 8 (YV a)) Q E s
def NH(D:vK knd)(z:knd.is s.heap x b)(h:Q M s):∀(vs:List Value),(∀v∈vs,∃k c,v=YV c/\knd.is s.heap k c)->
 wpAny (model prog w) A (searchCouldBeSeen (YV b) vs) Q E s:=by
 intro vs W;show al (wpAny_forIn_list _ (λax r s'=>r.1=J/\s'=s/\∀v∈ax,∃k c,v=YV c/\knd.is s.heap k c) _ ?_ ?_ _ _ #[O,O,W])
 . intro v ax r s' q0;let(j,rfl,i):=q0;let(k,c,rfl,hk):=i v be;have q:∀{F:Option Bool×PUnit},F.1=J->(F.1=J/\s'=s'/\∀v∈ax,∃k c,v=Value.ref c/\knd.is s'.heap k c):=λe=>#[e,O,λu N=>i u (cw _ N)];dsimp only;split
   . show aI (q O)
   . show al (knd.quiet z ?_);show al (knd.quiet hk ?_);show al (D z ?_);show al (D hk ?_);show aI (q O)
 . rintro⟨r1,r2⟩ s' ⟨j,rfl,_⟩;subst j;show aI h
def Ox(h:Q G s):wpAny (model prog w) A (isSame (YV c) (YV c)) Q E s:=by unfold isSame;dsimp only;rw[aw (ij c)];show aI h
def NI{t:SetTable}(i:wD (t.mask+1)):t.gaveWay=M:=by
 unfold gaveWay;have:t.mask%2=1:=by rcases i with e|e|e|e|e|e<;>lia
 grind
theorem Ip(nc:vK knd){ep KK:Nat}(hr:knd.room A)(ho:s.heap.get? a=!o)(hd:o.data=.set es ep t)(D:t.fits es.size=G)
 (W:EH knd s.heap es ks) (T:sV t (wH es)) (hx:knd.is s.heap x b) (f:wF t (knd.hash x) KK) (hK:KK<10*turns t.mask) (q1:x∈ks->Q (.there J) s) (q2:x∉ks->Q (.free (ap t (knd.hash x) KK).j M) s):
 ∀(q k:Nat)(st:Option Probe),st.getD (t.probeStart (knd.hash x))=ap t (knd.hash x) k->k<=KK->KK-k<q->(∀l,l<k->∀i,t.slot (ap t (knd.hash x) l).j=.live i->ks[i]?≠!x)->
  wpAny (model prog w) A (setSearchFrom a (YV b) (knd.hash x) G q st) Q E s
 |0=>λk st _ _ h3 _=>absurd h3 ∅
 |q+1=>λk st h1 h2 h3 h4=>by
  show al (wpAny_setState_of ho hd D ?_);dsimp only;rw[NI T.msz];simp only[fB,if_false];rw[h1];unfold probe;generalize hg:probe.go t _ (knd.hash x) (10*turns t.mask) (ap t (knd.hash x) k)=g;obtain⟨l,i,a1,a2,a3,a4,a5,a6⟩|⟨a1,a2⟩:=Qt (hashAt:=λi=>((es[i]?).map (·.1)).getD 0) (Qu T.nod) f (10*turns t.mask) k h2 ()
  . obtain rfl:g=_:=hg.symm.trans a5;dsimp only;let pi:=Im a3;have li:i< ~~~es:=by
     obtain c|c:=Nat.lt_or_ge i t.place.size
     . have: ~~~t.place= ~~~es:=by unfold fits at D;simp at D;show D.1
       lia
     . grind
    let F:=Array.getElem?_eq_getElem li;let(y,c,e1,e2,e3):=W.at_ i _ F;rw[e2]at F;have sv:∀v∈(es.filter λe=>e.1==knd.hash x).toList.map (·.2),∃k c,v=Value.ref c/\knd.is s.heap k c:=λv hv=>by let(e,he,rfl):=ck.mp hv;let(N,mh,rfl):=Array.mem_iff_getElem.mp (Array.mem_of_mem_filter (Array.mem_toList_iff.mp he));let(y',c',f1,f2,f3):=W.at_ N _ (Array.getElem?_eq_getElem mh);show#[y',c',by rw[f2],f3]
    cases hl:t.led
    case' false=>
     simp only[Bool.not_false,if_true];show al (NH nc hx ?_ _ sv);simp only[fB,if_false]
    case' true=>
     simp only[Bool.not_true,fB,if_false]
    all_goals
     rw[F];dsimp only;show al (wpAny_holding (knd.eqBool hr e3 hx ?_));show al (wpAny_setState_of ho hd D ?_);dsimp only;by_cases hy:y=x
     . rw[i5 hy];simp only[Bool.and_true,if_true];show aI (q1 (hy▸eI e1))
     . rw[iX hy];simp only[Bool.and_false,fB,if_false];have sm:t.sameMemory t.moves t.mask=!G:=by unfold sameMemory;rw[aw (ij _)]
       rw[sm];simp only[if_true];rw[a3];dsimp only;rw[F];dsimp only;show al (Ox ?_);show al (aI ?_);simp only[if_true];show Ip nc hr ho hd D W T hx f hK q1 q2 q (l+1) _ O a2 () λl' n4 N e'=>?_;obtain c1|c1:=Nat.lt_or_ge l' k
       . show h4 l' c1 N e'
       . obtain c2|c2:=Nat.lt_or_ge l' l
         . intro z;have sL:N< ~~~es:=by
            rw[W.sz];obtain c3|c3:=Nat.lt_or_ge N (-ks)
            . show c3
            . rw[oI c3]at z;cases z
           let ee:=Array.getElem?_eq_getElem sL;let(y',c',f1,f2,f3):=W.at_ N _ ee;rw[z]at f1;cases f1;show a6 l' c1 c2 N e' (by rw[ee,f2];rfl)
         . obtain rfl:l'=l:=()
           rw[a3]at e';cases e';rw[e1];show λz=>hy (d0 z)
  . obtain rfl:g=_:=hg.symm.trans a2;dsimp only;show aI (q2 λhm=>?_);let(i,F):=getElem?_of_mem hm;have li:i< ~~~es:=by
     rw[W.sz];obtain c|c:=Nat.lt_or_ge i (-ks)
     . show c
     . rw[oI c]at F;cases F
    let ee:=Array.getElem?_eq_getElem li;let(y,c,e1,e2,e3):=W.at_ i _ ee;rw[F]at e1;cases e1;have hp:i< ~~~t.place:=by
     have: ~~~t.place= ~~~es:=by unfold fits at D;simp at D;show D.1
     lia
    have sK:wH es i=!(knd.hash x):=by unfold wH;rw[ee,e2];rfl
    let(l,hl,e4,e5):=T.ahead f (Array.getElem?_eq_getElem hp) sK;obtain c|c:=Nat.lt_or_ge l k
    . show h4 l c i e5 F
    . show a1 l c hl i e5 (by rw[ee,e2];rfl)
end
def sV.congr(T:sV t hs)(D:t'.mask=t.mask)(z:t'.place=t.place)(N:t'.dummies=t.dummies)(Q:∀i,hM i=hs i):sV t' hM:=by
 have sl:∀j,t'.slot j=t.slot j:=λj=>by unfold slot;rw[z,N]
 show#[by rw[D];show T.msz,by rw[N];show T.nod,by rw[z];show T.ris,λi j e=>?_,by rw[D,z];show T.room,λi j h e q=>?_]
 . rw[z]at e;rw[D];show T.bnd i j e
 . rw[z]at e;rw[Q]at q;let(n,a,b):=T.rch i j h e q;let F:=λn=>t8 D h n;show#[n,by rw[F];show a,λl W=>by rw[F,sl];show b l W]
theorem Ff{α β:Type}{f:α->Option β}:∀{l:List α},(∀x∈l,∃y,f x=!y)->∀i:Nat,(l.filterMap f)[i]?=(l[i]?).bind f
 |[]=>λ_ i=>by simp
 |x::l=>λh i=>by
  let(y,e):=h x be;rw[filterMap_cons_some e];cases i with
  |zero=>simp[e]
  |succ i=> show Ff (λz j=>h z (cw _ j)) i
theorem uM{α β:Type}{f:α->Option β}:∀{l:List α},(∀x∈l,∃y,f x=!y)->-(l.filterMap f)=-l
 |[]=>λ_=>rfl
 |x::l=>λh=>by let(y,e):=h x be;rw[filterMap_cons_some e,bi,bi,uM λz i=>h z (cw _ i)]
def Xd{β:Type}(l:List β):(List.range (-l)).filterMap (λi=>l[i]?)=l:=by
 show ext_getElem? λi=>?_;rw[Ff λx j=>?_]
 . obtain c|c:=Nat.lt_or_ge i (-l)
   . rw[getElem?_range c];rfl
   . grind
 . grind
section
variable {prog:Program}{w:World}{A:Around}{E:Value->Shared->Prop}{s:Shared}{K:Type}[DecidableEq K]{knd:HeapKind prog w K}
structure qT(knd:HeapKind prog w K)(h:Heap)(a:Addr)(es:Array (Int×Value))(ep:Nat)(t:SetTable)(led:Bool)(ks:List K):Prop extends lZ h a es ep t led where
 el:EH knd h es ks
 nd:ks.Nodup
 ti:sV t (wH es)
 nf: ~~~t.place*5<t.mask*3
def yh(knd:HeapKind prog w K):Prop:=∀{h h':Heap}{k:K}{b d:Addr}{o:Obj}{es:Array (Int×Value)}{ep:Nat}{t:SetTable},knd.is h k b->h.get? d=!o->o.data=.set es ep t->Heap.SameBut d h h'->knd.is h' k b
def Bo(knd:HeapKind prog w K)(ok:K->Prop):Prop:=∀{A:Around}{E:Value->Shared->Prop}{s:Shared}{k:K}{a:Addr}{Q:Bool->Shared->Prop},ok k->knd.is s.heap k a->Q M s->wpAny (model prog w) A (hashByValue 8 (YV a)) Q E s
def EH.ins(e:EH knd h es ks)(D:p<= ~~~es)(F:knd.is h x b):EH knd h (insertAt es p (knd.hash x,YV b)) (insertAt ks.toArray p x).toList:=by
 have z:p<= ~~~ks.toArray:=by rw[eP,<-e.sz];show D
 show#[by simp only[n6,e_,eP,e.sz],λi y q=>?_];rw[Array.getElem?_toList,iC _ z];rw[iC _ D]at q;split
 . rename_i c;rw[aw c]at q;rw[getElem?_toArray];show e.at_ i y q
 . rename_i c;rw[ay c]at q;split
   . grind
   . rename_i j;rw[ay j]at q;rw[getElem?_toArray];show e.at_ _ y q
def Xe(ks:List α)(p:Nat)(x:α):(insertAt ks.toArray p x).toList.Perm (x::ks):=by rw[tM];show et.trans ?_;grind
def NJ(j:p<= ~~~es)(e:Int×Value)(i:Nat):wH (insertAt es p e) i=Lr (wH es) p e.1 i:=by
 unfold wH Lr;rw[iC _ j];split
 . rfl
 . split<;>rfl
def EH.keep(kp:yh knd)(e:EH knd h es ks)(j:h.get? a=!o)(F:o.data=.set es0 ep t)(D:Heap.SameBut a h h'):EH knd h' es ks:=
 #[e.sz,λi y q=>by let(k,b,Q,z,N):=e.at_ i y q;show#[k,b,Q,z,kp N j F D]]
def mw(i:wD (m+1))(h1:n*5<m*3)(h2:m*3<=(n+1)*5)(j:n+1<19000):wD (sizeAbove (grown (n+1))-1+1)/\4*(n+1)<=sizeAbove (grown (n+1))-1/\sizeAbove (grown (n+1))<=32768:=by
 obtain e|e|e|e|e|e|e:=i
 . obtain rfl:n=4:=()
   show#[YY (Zl O),by decide,by decide]
 . obtain rfl:n=18:=()
   show#[YY (YY (Zl O)),by decide,by decide]
 . obtain rfl:n=76:=()
   show#[YY (YY (YY (Zl O))),by decide,by decide]
 . obtain rfl:n=306:=()
   show#[YY (YY (YY (YY (Zl O)))),by decide,by decide]
 . obtain rfl:n=1228:=()
   show#[YY (YY (YY (YY (YY (Zl O))))),by decide,by decide]
 . obtain rfl:n=4914:=()
   show#[YY (YY (YY (YY (YY (YY O))))),by decide,by decide]
 . lia
def EH.order(e:EH knd h es ks){o:Array Nat}(D:o.toList.Perm (range es.size)):
 ∃j,EH knd h (o.filterMap (es[·]?)) j/\j.Perm ks/\(o.filterMap (es[·]?)).size= ~~~es/\∀i,wH (o.filterMap (es[·]?)) i=(o[i]?).bind λk=>(es.map (·.1))[k]?:=by
 have z:∀k∈o.toList,k< ~~~es:=λk hk=>List.mem_range.mp ∅;have F:∀k∈o.toList,∃y,es[k]?=!y:=λk hk=>#[es[k]'(z k hk),Array.getElem?_eq_getElem (z k hk)];have Q:∀k∈o.toList,∃y,ks[k]?=!y:=λk hk=>#[ks[k]'(by rw[<-e.sz];show z k hk),ed _];have tl:(o.filterMap (es[·]?)).toList=o.toList.filterMap (es[·]?):=Array.toList_filterMap;have W:∀i:Nat,(o.filterMap (es[·]?))[i]?=(o[i]?).bind (es[·]?):=λi=>by rw[<-Array.getElem?_toList,tl,Ff F,Array.getElem?_toList]
 have ln: ~~~(o.filterMap (es[·]?))= ~~~es:=by rw[<-e_,tl,uM F,D.length_eq,fy]
 show#[o.toList.filterMap (ks[·]?),#[?_,λi y q=>?_],?_,ln,λi=>?_]
 . rw[ln,uM Q,D.length_eq,fy]
 . rw[W]at q;rw[Ff Q,Array.getElem?_toList];cases N:o[i]? with
   |none=>grind
   |some k=>
    rw[N]at q;show e.at_ k y q
 . have:=D.filterMap (ks[·]?);rw[e.sz,Xd]at this;grind
 . unfold wH;rw[W];cases o[i]? with
   |none=>rfl
   |some k=>grind
def NL(nc:vK knd)(kp:yh knd)(bt:Bo knd ok)(hr:knd.room A)(S:qT knd s.heap a es ep t led ks)(room: ~~~es+1<kY)(hx:knd.is s.heap x b)(NM:ok x)
 (h:∀r h' W md t' oj,Heap.SameBut a s.heap h'->qT knd h' a W md t' led oj->(∀y,y∈oj ↔ y∈ks\/y=x)-> ~~~W<= ~~~es+1->Q r { s with heap:=h' }):
 wpAny (model prog w) A (setAddHashed a (YV b) (knd.hash x)) Q E s:=by
 unfold setAddHashed setAddHashedIn
 show wpAny_holding (al (wpAny_setState_of S.at_ O S.fits ?_))
 dsimp only
 have bs:byScan (YV b) es=M:=by unfold byScan;rfl
 rw[bs]
 simp only[fB]
 let(F,hK,f):=S.ti.first (knd.hash x)
 have tm:t.mask<=32767:=by rcases S.ti.msz with e|e|e|e|e|e|e<;>lia
 have ps: ~~~t.place= ~~~es:=by have:=S.fits;unfold SetTable.fits at this;simp at this;show this.1
 let nf:=S.nf
 unfold setSearch
 show al (Ip nc hr S.at_ O S.fits S.el S.ti hx f (by unfold SetTable.turns;have:=S.ti.room;lia) ?_ ?_ 100000 0 J O (d6 _) (by have:kY=9900:=O;lia) (λl hl=>absurd hl ∅))
 . intro hm
   dsimp only
   show aI (h M s.heap es ep t ks (Heap.SameBut.refl a s.heap) S (λy=>#[Zl,λq=>q.elim id λq=>q▸hm]) (m_ _))
 . intro hm
   dsimp only
   show al (wpAny_setState_of S.at_ O S.fits ?_)
   dsimp only
   let pp:=U3_ S.ti.nod (ap t (knd.hash x) F).j
   rw[pp.1,pp.2]
   let(b1,b2,b3):=ud S.ti.ris (ap t (knd.hash x) F).j
   let TP:=S.ti.put f (by have:=S.ti.msz;rcases this with e|e|e|e|e|e<;>lia)
   have D: ~~~(SetTable.insertAt es (SetTable.below t.place (ap t (knd.hash x) F).j) (knd.hash x,Value.ref b))= ~~~es+1:=n6 _ _ _
   let ei:=S.el.ins (p:=SetTable.below t.place (ap t (knd.hash x) F).j) () hx
   have zl:∀i,wH (SetTable.insertAt es (SetTable.below t.place (ap t (knd.hash x) F).j) (knd.hash x,Value.ref b)) i=Lr (wH es) (SetTable.below t.place (ap t (knd.hash x) F).j) (knd.hash x) i:=λi=>NJ () _ i
   have ol: ~~~(SetTable.insertAt t.place (SetTable.below t.place (ap t (knd.hash x) F).j) (ap t (knd.hash x) F).j)= ~~~es+1:=by rw[n6,ps]
   let pm:=Xe ks (SetTable.below t.place (ap t (knd.hash x) F).j) x
   generalize (SetTable.insertAt ks.toArray (SetTable.below t.place (ap t (knd.hash x) F).j) x).toList=zn at ei pm
   generalize SetTable.insertAt es (SetTable.below t.place (ap t (knd.hash x) F).j) (knd.hash x,Value.ref b)=fS at D ei zl ⊢
   generalize hP:SetTable.insertAt t.place (SetTable.below t.place (ap t (knd.hash x) F).j) (ap t (knd.hash x) F).j=P at TP ol ⊢
   have mem1:∀y,y∈zn ↔ y∈ks\/y=x:=λy=>by rw[pm.mem_iff,a_];show Or.comm
   let zt:=pm.nodup_iff.mpr (fI.mpr #[hm,S.nd])
   have fin:∀z:SetTable,z.mask=t.mask->z.place=P->z.dummies=t.dummies->z.led=t.led->z.plain=M->wpAny (model prog w) A (do
    storeSet a fS z
    if (not M&&z.tooFull)=G then do
     setRelay a (SetTable.grown (~~~es+1))
     pure G
     else pure G) Q E s:=by
    intro z m2 p2 d2 l2 n2
    let T2:=TP.congr m2 p2 d2 zl
    have bb: ~~~fS<kY:=by rw[D];show room
    show al (wpAny_storeSet_of S.at_ O ?_ (Bk bb))
    let g1:=Ex (es':=fS) (t':=z) S.at_
    let kX:=jI s.heap a (Obj.putSet fS z)
    let ek:=ei.keep kp S.at_ O kX
    have fl:z.fill= ~~~es+1:=by unfold SetTable.fill;rw[p2,ol,d2,S.ti.nod];rfl
    have ft:z.fits fS.size=G:=by
     unfold SetTable.fits
     rw[fl,p2,ol,D,m2]
     have: ~~~es+1<=t.mask:=by have:=S.ti.msz;rcases this with e|e|e|e|e|e<;>lia
     simp[this]
    split
    . rename_i N
      have NN:t.mask*3<=(~~~es+1)*5:=by
       rw[Bool.not_false,Bool.true_and]at N
       unfold SetTable.tooFull at N
       rw[fl,m2]at N
       simpa using N
      let(NO,gr2,gr3):=mw S.ti.msz (by rw[<-ps];show nf) NN (by have:kY=9900:=O;lia)
      have hz: ~~~(fS.map (·.1))<=SetTable.sizeAbove (SetTable.grown (~~~es+1))-1:=by rw[Array.size_map,D];lia
      let(pl,o,e1,e2,e3,e4):=U4 NO hz
      have er:z.relaid (fS.map (·.1)) (SetTable.grown (~~~es+1))=_:=e1
      rw[Array.size_map]at e2
      let(NR,k1,k2,k3,k4):=ek.order e2
      show al ?_
      unfold setRelay
      show al (wpAny_setState_of g1 O ft ?_)
      dsimp only
      rw[ay (by rw[sizeLine_eq];lia)]
      rw[er]
      show al (m:=(if (o.filterMap (fS[·]?)).size != ~~~fS then unsupported "internal:set-table-lost-an-element" else pure (o.filterMap (fS[·]?),_))) ?_
      rw[ay (by rw[k3];simp)]
      show aI ?_
      dsimp only
      have zv: ~~~(o.filterMap (fS[·]?))<kY:=by rw[k3];show bb
      show wpAny_storeSet_of g1 O ?_ (Bk zv)
      let g2:=Ex (es':=o.filterMap (fS[·]?)) (t':=#[SetTable.sizeAbove (SetTable.grown (~~~es+1))-1,pl,#[],z.finger,z.led,z.movedTo (SetTable.sizeAbove (SetTable.grown (~~~es+1))-1),z.plain]) g1
      let zw:=jI (s.heap.update a (Obj.putSet fS z)) a (Obj.putSet (o.filterMap (fS[·]?)) #[SetTable.sizeAbove (SetTable.grown (~~~es+1))-1,pl,#[],z.finger,z.led,z.movedTo (SetTable.sizeAbove (SetTable.grown (~~~es+1))-1),z.plain])
      have os: ~~~o= ~~~es+1:=by rw[<-e_,e2.length_eq,fy,D]
      have zs: ~~~(o.filterMap (fS[·]?))= ~~~es+1:=by rw[k3,D]
      show aI (h G _ (o.filterMap (fS[·]?)) _ _ NR (kX.trans zw) #[#[g2,zv,?_,l2.trans S.led,λ_=>n2],k1.keep kp g1 O zw,k2.nodup_iff.mpr zt,e4.congr O O O k4,?_] (λy=>by rw[k2.mem_iff];show mem1 y) ())
      . unfold SetTable.fits SetTable.fill
        show (~~~pl==_&&decide (~~~pl+0<=_))=G
        rw[zs,e3,os]
        simp
        lia
      . show pl.size*5<(SetTable.sizeAbove (SetTable.grown (~~~es+1))-1)*3
        rw[e3,os]
        lia
    . rename_i N
      show aI (h G _ fS _ z zn kX #[#[g1,bb,ft,l2.trans S.led,λ_=>n2],ek,zt,T2,?_] mem1 ())
      rw[Bool.not_false,Bool.true_and]at N
      unfold SetTable.tooFull at N
      rw[fl]at N
      rw[p2,ol]
      have:¬ (z.mask*3<=(~~~es+1)*5):=by simpa using N
      lia
   split
   . show al (bt NM hx ?_)
     simp only[fB,if_false]
     show fin _ O O O O O
   . rename_i np
     show al (aI ?_)
     simp only[if_true]
     show fin _ O O O O (by simpa using np)
end
section
variable {prog:Program}
def Oz{K:Type}[DecidableEq K]{knd:PySem.KeyKind prog w K}:yh (tupleKind knd):=by
 intro h h' k b d o es N t x D z hs;let(o',items,n,i,F,j,hi):=x;have q:b≠d:=λe=>by rw[e,D]at i;cases i;rw[z]at j;cases j
 show#[o',items,n,(hs.2 b q).trans i,F,j,hi]
def OD(n:Nat)(h:carriedByValue v=G):ofAClassStatement n v=pure M:=by cases v<;>first |(unfold ofAClassStatement;rfl) |cases h
def OJ{K:Type}[DecidableEq K]{knd:PySem.KeyKind prog w K}:vK (tupleKind knd):=by
 intro A E s k a Q hk h;let F:=hk.typeIs;let(o,items,n,D,_,z,hi):=hk;unfold ofAClassStatement;show al (wpAny_typeOf F ?_);show al (aI ?_);show al (wpAny_seqItems D z ?_);show al ?_;rw[<-Array.forIn_toList];show wpAny_forIn_list _ (λax r s'=>r.1=J/\s'=s/\∀v∈ax,carriedByValue v=G) _ ?_ ?_ _ _ #[O,O,hi.byValue]
 . intro v ax r s' q0;let(q,rfl,i):=q0;rw[OD _ ∅];show aI #[O,O,λu j=>i u (cw _ j)]
 . rintro⟨N,W⟩ s' ⟨q,rfl,_⟩;subst q;show aI h
def uN(ks:List aV):Prop:=∃x:Str,some (Sum.inr x)∈ks
def O1:Bo (tupleKind (eV prog w)) uN:=by
 intro A E s k a Q N hk h;let hT:=hk.typeIs;let(o,items,n,ho,_,hd,hi):=hk;show al (wpAny_specialOf hT F.slot_tuple_hash.lookup ?_);show al (wpAny_seqItems ho hd ?_);show al ?_;rw[<-Array.forIn_toList];show wpAny_forIn_list _ (λax r s'=>s'=s/\r.1=J/\∃ks,uN ks/\ItemsAre (eV prog w) ks ax) _ ?_ ?_ _ _ #[O,O,k,N,hi]
 . intro v ax r s' q0;let(rfl,hr,ks,(x,hx),W):=q0;cases W with
   |cons q D=>
    rename_i k0 j;have go:k0≠!(Sum.inr x)->uN j:=λne=>#[x,(a_.mp hx).resolve_left λe=>ne e.symm];obtain⟨rfl,rfl⟩|⟨y,rfl,hy⟩:=fH q
    . show aI #[O,O,j,go (λe=>by cases e),D]
    . obtain⟨i,u,rfl,rfl⟩|⟨z,u,rfl,rfl⟩:=dB hy
      . show aI #[O,O,j,go (λe=>by cases e),D]
      . show aI (aI h)
 . rintro⟨r1,r2⟩ s' ⟨rfl,hr,ks,⟨x,hx⟩,W⟩;cases W;cases hx
end
def Lw{prog:Program}{K:Type}[DecidableEq K](knd:HeapKind prog w K):Prop:=∀{h h':Heap}{k:K}{b:Addr},knd.is h k b->(∀o,h.get? b=!o->h'.get? b=!o)->knd.is h' k b
def Ad{K:Type}[DecidableEq K]{knd:PySem.KeyKind prog w K}:Lw (tupleKind knd):=by intro h h' k b x q;let(o,items,n,i,z,j,hi):=x;show#[o,items,n,q o i,z,j,hi]
theorem qT.moved{K:Type}[DecidableEq K]{knd:HeapKind prog w K}{ks:List K}(S:qT knd h a es ep t led ks)(k:∀o,h.get? a=!o->h'.get? a=!o)
 (F:∀x∈ks,∀b,knd.is h x b->knd.is h' x b):qT knd h' a es ep t led ks:=
 #[S.1.moved k,#[S.el.sz,λi y q=>by let(x,b,j,z,D):=S.el.at_ i y q;show#[x,b,j,z,F x (eI j) b D]],S.nd,S.ti,S.nf]
def Bp{prog:Program}{K:Type}[DecidableEq K](knd:HeapKind prog w K)(g:Addr->Prop):HeapKind prog w K where
 is:=λh k b=>knd.is h k b/\g b
 hash:=knd.hash
 draws:=knd.draws
 room:=knd.room
 inj:=λx y=>knd.inj x.1 y.1
 keeps:=λx a b c=>#[knd.keeps x.1 a b c,x.2]
 pyHash:=λr x q=>knd.pyHash r x.1 q
 eqBool:=λr x y q=>knd.eqBool r x.1 y.1 q
 quiet:=λx q=>knd.quiet x.1 q
section
variable {prog:Program}{w:World}{K:Type}[DecidableEq K]{knd:HeapKind prog w K}{g:Addr->Prop}
def NS(i:vK knd):vK (Bp knd g):=λx q=>i x.1 q
def NU(kp:yh knd):yh (Bp knd g):=λx a b c=>#[kp x.1 a b c,x.2]
def NV(bt:Bo knd ok):Bo (Bp knd g) ok:=λo x q=>bt o x.1 q
def qT.un(S:qT (Bp knd g) h a es ep t led ks):qT knd h a es ep t led ks:=
 #[S.1,#[S.el.sz,λi y q=>by let(x,b,D,j,z):=S.el.at_ i y q;show#[x,b,D,j,z.1]],S.nd,S.ti,S.nf]
end
theorem sV.fresh:sV (fresh f m l) (wH #[]):=by
 show#[Zl O,O,λa b x y _ e=>?_,λi j e=>?_,d6 _,λi j h e=>?_]
 all_goals
  have q:(#[]:Array Nat)[_]?=!_:=e;grind
section
variable {prog:Program}{w:World}{A:Around}{E:Value->Shared->Prop}{s:Shared}{K:Type}[DecidableEq K]{knd:HeapKind prog w K}
def Xf(nc:vK knd)(kp:yh knd)(oo:Lw knd){ok:K->Prop}(bt:Bo knd ok)(zC:knd.room A.in1.in1.in1){l:Addr}{items:Array Value}{ad:Nat->Addr}{val:Nat->K}{Q:Value->Shared->Prop}(hh:A.handled=J)(hl:s.heap.IsList l items)(hi:∀(i:Nat)(v:Value),items[i]?=!v->v=Value.ref (ad i))(hk:∀i,i< ~~~items->knd.is s.heap (val i) (ad i)/\(∃o,s.heap.get? (ad i)=!o)/\ok (val i))(hb: ~~~items+1<kY)
 (h:∀(h':Heap)(tk:Nat) es ep t ks,qT knd h' s.heap.objs.size es ep t (not (byText w)) ks->(∀y,y∈ks ↔ ∃j,j< ~~~items/\val j=y)-> ~~~es<= ~~~items->(∀b o,b< ~~~s.heap.objs->s.heap.get? b=!o->h'.get? b=!o)->Q (YV s.heap.objs.size) { s with heap:=h',toks:=tk }) :
 wpAny (model prog w) A (call (.type "set") [YV l]) Q E s:=by
 show set_of_G (T:=λi h=>(∀j,j< ~~~items->knd.is h (val j) (ad j))/\∃es ep t ks,qT (Bp knd (·< ~~~s.heap.objs)) h s.heap.objs.size es ep t (not (byText w)) ks/\(∀y,y∈ks ↔ ∃j,j<i/\val j=y)/\es.size<=i) hh hl ?_ ?_ ?_ ?_
 . intro h' g k
   show#[λj hj=>oo (hk j hj).1 λo=>k _ o,_,_,_,_,#[#[g,by decide,O,O,λq=>by simp at q],#[O,λi e q=>by simp at q],List.nodup_nil,sV.fresh,(by decide:0*5<7*3)],by simp,br _]
 . intro i h h' q k
   let(iv,es,ep,t,ks,S,r):=q
   have kk:∀b o,b< ~~~s.heap.objs->h.get? b=!o->h'.get? b=!o:=λb o l=>k b o (de (gI l))
   show#[λj hj=>oo (iv j hj) λo=>kk _ o (by let(_,(o,q),_):=hk j hj;show bP q),es,ep,t,ks,S.moved (h':=h') (λo=>k _ o (de (jp _))) λx hx b y=>#[oo y.1 λo=>kk b o y.2,y.2],r]
 . intro i v s' Q E lt e q k
   let(iv,es,ep,t,ks,S,m,z):=q
   obtain rfl:=hi i v e
   unfold setAdd
   show wpAny_holding (al (knd.pyHash zC (iv i lt) ?_))
   have la:∀j,j< ~~~items->ad j< ~~~s.heap.objs:=λj hj=>by let(_,(o,q),_):=hk j hj;show bP q
   show NL (knd:=Bp knd (·< ~~~s.heap.objs)) (s:={ s' with toks:=s'.toks+knd.draws (val i) }) (NS nc) (NU kp) (NV bt) zC S (()) (x:=val i) #[iv i lt,la i lt] (hk i lt).2.2 λb h' es' md t' oj sb S2 m2 z2=>k b h' _ sb #[λj hj=>oo (iv j hj) λo q=>?_,es',md,t',oj,S2,mem_step m m2,()]
   rw[sb.2 (ad j) (de (la j hj))]
   show q
 . intro h' tk q k
   let(iv,es,ep,t,ks,S,m,z):=q
   show h h' tk es ep t ks S.un m z k
end
end L2
namespace L2
open PySem PySem.Spec PyProof.Rows PySem.W
noncomputable def bE:aV->List Int
 |none=>[2]
 |some (.inl i)=>[0,i]
 |some (.inr x)=>1::x.cps.toList.map Int.ofNat
abbrev TC:=List (List Int)
@[reducible] def tupK (T:Addr->Option TC):PyProof.Rows.KeyKind where
 α:=TC
 blt a b:=decide (a<b)
 irrefl a:=by simpa using lt_irrefl a
 trans a b c h1 h2:=by simp only[decide_eq_true_eq]at *;show List.lt_trans h1 h2
 negTrans a b c h:=by
  simp only[decide_eq_true_eq]at *;by_cases ms:a<b
  . show Zl ms
  . show YY (List.lt_of_le_of_lt (List.not_lt.mp ms) h)
 total a b h1 h2:=by simp only[decide_eq_false_iff_not]at *;show List.le_antisymm (List.not_lt.mp h2) (List.not_lt.mp h1)
 keyOf v:=match v with |YV a=>T a |_=>J
 dflt:=[]
noncomputable def ph:aV->Nat
 |none=>2
 |some (.inl _)=>0
 |some (.inr _)=>1
def Ss{i bs:TC}(h:a≠b):(a::i<b::bs) ↔ a<b:=by rw[cons_lt_cons_iff];show#[λz=>z.elim id λz=>absurd z.1 h,Zl]
def Xg{a b:List Nat}:(a.map Int.ofNat<b.map Int.ofNat) ↔ a<b:=by
 induction a generalizing b with
 |nil=>cases b with
  |nil=>show#[λh=>absurd h (),λh=>absurd h ()]
  |cons y b=>show#[λ_=>nil_lt_cons _ _,λ_=>nil_lt_cons _ _]
 |cons x a i=>cases b with
  |nil=>show#[λh=>absurd h (not_lt_nil _),λh=>absurd h (not_lt_nil _)]
  |cons y b=>
   rw[dP,dP,cons_lt_cons_iff,cons_lt_cons_iff,i];show#[λz=>z.elim (λz=>Zl ∅) λz=>YY #[Int.ofNat.inj z.1,z.2],λz=>z.elim (λz=>Zl ∅) λz=>YY #[congrArg _ z.1,z.2]]
section
variable {prog:Program}{w:World}{A:Around}{s:Shared}
def NW(N:(eV prog w).is k u=G)(D:(eV prog w).is l v=G)(e:ph k=ph l)(ne:¬ k=l)(h:Q (decide (bE k<bE l)) s):wpAny (model prog w) A (oneLt' b u v) Q (λ_ _=>False) s:=by
 obtain⟨rfl,rfl⟩|⟨x,rfl,hx⟩:=fH N
 . obtain⟨rfl,_⟩|⟨y,rfl,F⟩:=fH D
   . show absurd O ne
   . rcases y with y|y<;>cases e
 . obtain⟨rfl,_⟩|⟨y,rfl,F⟩:=fH D
   . rcases x with x|x<;>cases e
   . rcases dB hx with ⟨i,t,rfl,rfl⟩|⟨i,t,rfl,rfl⟩<;>obtain⟨j,W,rfl,rfl⟩|⟨j,W,rfl,rfl⟩:=dB F
     . have q:decide (bE (!(.inl i))<bE (!(.inl j)))=decide (i<j):=decide_eq_decide.mpr (by show [0,i]<[0,j] ↔ _;simp[cons_lt_cons_iff])
       rw[q]at h;cases b with
       |true=>show oneLt_int h
       |false=>show kat_one _ _ (lt_int h)
     . cases e
     . cases e
     . have q:decide (bE (!(.inr i))<bE (!(.inr j)))=decide (i.cps.toList<j.cps.toList):=decide_eq_decide.mpr (by show (1::_:List Int)<1::_ ↔ _;rw[cons_lt_cons_iff,<-Xg];show#[λz=>z.elim (λz=>absurd z ()) (·.2),λz=>YY #[O,z]])
       rw[q]at h;cases b with
       |true=>show oneLt_str h
       |false=>show kat_one _ _ (lt_str h)
end
end L2
namespace L2
open PySem PySem.Spec PyProof.Rows PySem.W
def Lx(h:bE k=bE l):k=l:=by
 obtain _|i|x:=k
 . obtain _|j|y:=l
   . rfl
   . cases h
   . cases h
 . obtain _|j|y:=l
   . cases h
   . cases h;rfl
   . cases h
 . obtain _|j|y:=l
   . cases h
   . cases h
   . let e:=(cons.inj h).2;let z:=(List.map_inj_right λa b q=>Int.ofNat.inj q).mp e;obtain⟨⟨y⟩⟩:=y;cases z;rfl
def Fg{k l:List aV}(h:k.map bE=l.map bE):k=l:=(List.map_inj_right λ_ _ q=>Lx q).mp h
section
variable {prog:Program}
theorem U5:∀{ks ls:List aV}{F vs:List Value}(i:Nat),ItemsAre (eV prog w) ks F->ItemsAre (eV prog w) ls vs->ks.map ph=ls.map ph->Q (decide (ks.map bE<ls.map bE)) s->KatLex prog w A b M Q (F.zip vs) i s
 |[],[],_,_,i,.nil,.nil=>λ_ h=>kat_nil h
 |[],_::_,_,_,i,.nil,.cons _ _=>λe _=>by cases e
 |_::_,[],_,_,i,.cons _ _,.nil=>λe _=>by cases e
 |k::ks,l::ls,u::F,v::vs,i,.cons N j,.cons W D=>λe h=>by
  let e1:=(cons.inj e).1;let e2:=(cons.inj e).2;show kat_cons ((eV prog w).eqBool N W (kat_go (λq=>?_) λq=>?_))
  . let q:=of_decide_eq_true q;subst q;show kat_yes (U5 (i+1) j D e2 ?_);have:decide ((k::ks).map bE<(k::ls).map bE)=decide (ks.map bE<ls.map bE):=by show decide_eq_decide.mpr ?_;rw[dP,dP,cons_lt_cons_iff];show#[λz=>z.elim (λz=>absurd z ∅) λz=>z.2,λz=>YY #[O,z]]
    rw[this]at h;show h
  . let q:=of_decide_eq_false q;show kat_no (NW N W e1 q ?_);have:decide ((k::ks).map bE<(l::ls).map bE)=decide (bE k<bE l):=by show decide_eq_decide.mpr ?_;show Ss λz=>q (Lx z)
    rw[this]at h;show h
def yj(prog:Program)(w:World)(sh:List Nat)(T:Addr->Option TC)(h:Heap):Prop:=∀x c,T x=!c->∃ks,c=ks.map bE/\ks.map ph=sh/\(tupleKind (eV prog w)).is h ks x
def NX(N:yj prog w sh T s.heap):qF (tupK T) (tuples' b) prog w A s:=by
 intro E x y c d Q j i q;cases x<;>simp only[reduceCtorEq]at j;cases y<;>simp only[reduceCtorEq]at i;rename_i x y;let(ks,rfl,k1,o1,i1,n1,g1,_,d1,F):=N x c j;let(ls,rfl,W,o2,i2,n2,g2,_,d2,z):=N y d i;have len:∀{ks:List aV}{D:List Value},ItemsAre (eV prog w) ks D->-D=-ks:=λt=>by
  induction t with
  |nil=>rfl
  |cons _ _ ih=>rw[bi,bi,ih]
 have le: ~~~i1= ~~~i2:=by
  rw[<-e_,<-e_,len F,len z];have:=congrArg length (k1.trans W.symm)
  rwa [bo,bo]at this
 show kat_lt g1 d1 g2 d2 ?_;rw[iX ()];show U5 0 F z ∅ q
end
end L2
namespace L2
open PySem PySem.Spec PyProof.Rows PySem.W
abbrev yX(T:Addr->Option TC)(v:Value):Option TC:=(tupK T).keyOf v
def yj.grown(t:yj prog w sh T h)(k:∀x c,T x=!c->∀o,h.get? x=!o->h'.get? x=!o):yj prog w sh T h':=λx c e=>by let(ks,q,i,j):=t x c e;show#[ks,q,i,Ad j (k x c e)]
section
variable {prog:Program}
theorem Fi(Q:yj prog w (0::sh) T h):∀(vs:List Value),(∀v∈vs,∃c,yX T v=!c)->∃fs,KatTups h vs fs/\-fs=-vs/\∀f∈fs,∃i t,f=Value.int i t
 |[]=>λ_=>#[[],KatTups.nil,O,λf q=>by cases q]
 |v::vs=>λN=>by
  let(fs,k1,k2,k3):=Fi Q vs λu z=>N u (cw _ z);let(c,ec):=N v be;cases v<;>simp only[yX,reduceCtorEq]at ec;rename_i a;let(ks,e1,F,o,items,n,g,gc,gd,W):=Q a c ec;cases ks with
  |nil=>cases F
  |cons k ks=>
   generalize hl:items.toList=l at W;cases W with
   |cons z hus=>
    rename_i u us;have i0:items[0]?=!u:=by rw[<-Array.getElem?_toList,hl];rfl
    show#[u::fs,KatTups.cons g gc gd i0 k1,by rw[bi,bi,k2],λf j=>?_];obtain rfl|j:=a_.mp j
    . let D:=(cons.inj F).1;obtain⟨rfl,rfl⟩|⟨x,rfl,hx⟩:=fH z
      . cases D
      . obtain⟨i,t,rfl,rfl⟩|⟨i,t,rfl,rfl⟩:=dB hx
        . show#[i,t,O]
        . cases D
    . show k3 f j
def Xh(F:yj prog w (0::sh) T s.heap){vs:List Value}(q:∀v∈vs,∃c,yX T v=!c)(W:0< -vs)(h:Q (tuples' G) s):wpAny (model prog w) A (keyKind' vs.toArray) Q E s:=by
 let(fs,z,N,D):=Fi F vs q;show kat_kind (T:=.type "int") z () (λf j=>?_) () ?_
 . let(i,t,rfl):=D f j;show .now
 . show h
def Su{TT:String}{Q:Value->Shared->Prop}(ke:TT="set"\/TT="dict")(NY:s.TypeIs (YV d) TT)(hI:Ey prog w A.in1.in1 d ok { s with heap:=s.heap.push v6 })(hT:yj prog w (0::sh) T s.heap)
 (hok:∀vs,ok vs->-vs<100000/\(∀v∈vs,∃c,yX T v=!c)/\(vs.map (yX T)).Nodup)
 (h:∀h' dr tk L (out:Array Value) c vs,ok vs->out.toList.Perm vs->(∀(i j:Nat)(u v:Value)(x y:TC),i<j->out.toList[i]?=!u->out.toList[j]?=!v->yX T u=!x->yX T v=!y->x<y)->(∀b o,s.heap.get? b=!o->h'.get? b=!o)->h'.get? L=!(seqObj "list" out c)-> ~~~s.heap.objs<=L->Q (YV L) { s with heap:=h',drawn:=dr,toks:=tk }):
 wpAny (model prog w) A (call (.builtin "sorted") [YV d]) Q E s:=by
 show Calls.call_function_entry kind_sorted plain_sorted entry_sorted (args_sorted1 _) ?_;show al (aI (al (Ez ke NY hI λh1 dr tk vs hv k hz=>?_)));let(hl,hc,hn):=hok vs hv;show al (wpAny_newList ?_ (by rw[sizeLine_eq];lia));have g0:(h1.push (seqObj "list" vs.toArray 0)).get? h1.objs.size=!(seqObj "list" vs.toArray 0):=dE _ O;have sM:∀x c,T x=!c->∃o,s.heap.get? x=!o:=λx c e=>by let(ks,_,_,o,items,n,g,_):=hT x c e;show#[o,g]
 have io:∀x c,T x=!c->x< ~~~h1.objs:=λx c e=>by let(o,g):=sM x c e;show bP (k x o g)
 have ip:∀h',(∀b o,b≠h1.objs.size->(h1.push (seqObj "list" vs.toArray 0)).get? b=!o->h'.get? b=!o)->yj prog w (0::sh) T h':=λh' k2=>hT.grown λx c e o g=>k2 x o (de (io x c e)) (cE _ (k x o g));have ko:KeysOf (tupK T) (pairsOf vs):=λp hp=>by rw[pairsOf_toList]at hp;show hc _ (iP hp).1
 have dk:DK (tupK T) (pairsOf vs):=by
  unfold DK;rw[pairsOf_toList];have e:(vs.zip vs).map (λp=>(tupK T).keyOf p.1)=((vs.zip vs).map Prod.fst).map (yX T):=by rw[fE];rfl
  rw[e,List.map_fst_zip ()];show hn
 show al (wpAny_holding (wpAny_call_entry slot_list_sort #[_,g0,O] entry_list_sort (JM (κ:=tupK T) g0 (λh' k2=>NX (ip h' k2)) ko (λh' k2 v₁ v₂ ax e {Q} q=>Xh (ip h' k2) (by rw[<-e];show hc) (by simp) q) dk hl λD p1 p2=>#[_,O,?_]) (args_list_sort _)));let(e,he):=sortedHeap_at g0;have j_:(arrOf D).toList.Perm (vs.zip vs):=by rw[<-pairsOf_toList];show Array.perm_iff_toList_perm.mp p1
 have N:∀p,p∈(arrOf D).toList->p.1=p.2/\p.1∈vs:=λp W=>mem_zip_self (j_.mem_iff.mp W);have eo:((arrOf D).map (·.2)).toList=(arrOf D).toList.map (·.1):=by rw[Array.toList_map];show oT λp W=>(N p W).1.symm
 have po:((arrOf D).map (·.2)).toList.Perm vs:=by
  rw[eo];have:=j_.map Prod.fst
  rwa [List.map_fst_zip ()]at this
 show aI #[_,O,h _ dr tk _ _ e vs hv po (λi j u v x y kf eu ev ex ey=>?_) (λb o q=>?_) he ?_]
 . let fg:=p1.size_eq.symm;have gi:(arrOf D)[i]?=!(u,u):=by
    rw[eo,c5]at eu;rw[<-Array.getElem?_toList];cases q:(arrOf D).toList[i]? with
    |none=>rw[q]at eu;cases eu
    |some p=>
     rw[q]at eu;let z:=N p (eI q);let(p1,p2):=p;cases eu;have:p1=p2:=z.1;subst this;rfl
   have gj:(arrOf D)[j]?=!(v,v):=by
    rw[eo,c5]at ev;rw[<-Array.getElem?_toList];cases q:(arrOf D).toList[j]? with
    |none=>rw[q]at ev;cases ev
    |some p=>
     rw[q]at ev;let z:=N p (eI q);let(p1,p2):=p;cases ev;have:p1=p2:=z.1;subst this;rfl
   have lj:j< ~~~(arrOf D):=by
    obtain c|c:=Nat.lt_or_ge j (arrOf D).size
    . show c
    . rw[kB c]at gj;cases gj
   let q:=p2 i j () ();have ki:KK (tupK T) (arrOf D) i=x:=by unfold KK;rw[gi];show ((tupK T).keyOf u).getD _=x;rw[show (tupK T).keyOf u=some x from ex];rfl
   have kj:KK (tupK T) (arrOf D) j=y:=by unfold KK;rw[gj];show ((tupK T).keyOf v).getD _=y;rw[show (tupK T).keyOf v=some y from ey];rfl
   rw[ki,kj]at q;let q':=of_decide_eq_false q;obtain z|z:=Classical.em (x=y)
   . exfalso;let nd:=(po.map _).nodup_iff.mpr hn;have:=List.pairwise_iff_getElem.mp nd i j;let(sL,N0):=c9.mp eu;let(N1,N2):=c9.mp ev;show this (by rw[bo];show sL) (by rw[bo];show N1) kf ?_;rw[List.getElem_map,List.getElem_map,N0,N2,ex,ey,z]
   . show Classical.byContradiction λz2=>z (List.le_antisymm () ())
 . show(sortedHeap_old (de (bP (k b o q))) (by rw[size_push'];show gI (bP (k b o q)))).trans (cE _ (k b o q))
 . show hz
end
end L2
namespace L2
open PySem PySem.Spec PyProof.Rows PySem.W
def N3{prog:Program}{K:Type}[DecidableEq K](knd:HeapKind prog w K)(ZN:K->Addr->Prop):HeapKind prog w K where
 is:=λh k b=>knd.is h k b/\ZN k b
 hash:=knd.hash
 draws:=knd.draws
 room:=knd.room
 inj:=λx y=>knd.inj x.1 y.1
 keeps:=λx a b c=>#[knd.keeps x.1 a b c,x.2]
 pyHash:=λr x q=>knd.pyHash r x.1 q
 eqBool:=λr x y q=>knd.eqBool r x.1 y.1 q
 quiet:=λx q=>knd.quiet x.1 q
abbrev BK:=List (Addr×List aV)
def Fj(P:Program)(w:World)(a:Addr)(bs:BK):Heap->Prop:=λh=>∃es ep t,∃ks:List (List aV),lZ h a es ep t (not (byText w))/\es.size=-ks/\(∀(i:Nat) e,es[i]?=!e->∃k b,ks[i]?=!k/\e=((tupleKind (eV P w)).hash k,Value.ref b)/\(b,k)∈bs)/\ks.Nodup/\(∀y,y∈ks ↔ ∃p∈bs,p.2=y)/\es.size<=-bs
section
variable {X:Cx}
theorem Ir:∀{bs:BK}{i:List Value},am (bs.map λp=>V.ref p.1) i->i=bs.map λp=>Value.ref p.1
 |[],i=>λh=>h.zero
 |p::bs,i=>λh=>by
  cases h with
  |cons r t=>
   rw[dP,Ir t];let e:=r;rw[e]
def Za(X:Cx):List V->Hp->VK->Prop:=λxs H Q=>∃a bs,xs=[.ref a]/\bY X.K H a (bs.map λp:Addr×List aV=>V.ref p.1)/\(∀p∈bs,cW X.K H p.1 (p.2.map nR)/\uN p.2)/\-bs<9000/\∀l,H l=J->Q (.ref l) (aE H l (.ext (Fj X.prog X.w l bs)))
def Iu(hc:X.calm=G)(hu:X.A.units+64<cLine):lO X (.type "set") (Za X):=by
 intro ae s U H xs us Q I r h;let(a,bs,rfl,hq,hb,hl,q):=h;let(u,rfl,rx):=dv r;cases rx;let(bp,rv,pl,hz):=I.list hq;let ei:=Ir rv;subst ei;have hs:(bs.map λp=>Value.ref p.1).toArray.size=-bs:=by simp
 have N:∀i (hi:i< -bs),bs.getD i (0,[])=bs[i]:=λi hi=>by simp[hi]
 have W:∀p∈bs,(tupleKind (eV X.prog X.w)).is s.heap p.2 p.1:=λp hp=>ux I (hb p hp).1;show Xf (knd:=N3 (tupleKind (eV X.prog X.w)) λk b=>(b,k)∈bs) (λx q=>OJ x.1 q) (λx a b c=>#[Oz x.1 a b c,x.2]) (λx q=>#[Ad x.1 q,x.2]) (λo x q=>O1 o x.1 q)
  (by show X.A.units+1+1+1<cLine;lia) (val:=λi=>(bs.getD i (0,[])).2) (ad:=λi=>(bs.getD i (0,[])).1) (I.ok.hd hc) pl.isList (λi v e=>?_) (λi hi=>?_) (by rw[hs];show -bs+1<9900;lia) λh' tk es F t ks S mem sz kp=>?_
 . rw[getElem?_toArray,c5]at e;cases q:bs[i]? with
   |none=>grind
   |some p=>
    grind
 . have hi:i< -bs:=by rw[hs]at hi;show hi
   let hm:=List.getElem_mem hi;rw[N i hi];let z:=W _ hm;show#[#[z,hm],?_,(hb _ hm).2];let(o,items,n,g,_):=z;show#[o,g]
 . have N4: ~~~es<=-bs:=by rw[hs]at sz;show sz
   have ml:∀y,y∈ks ↔ ∃p∈bs,p.2=y:=λy=>by
    rw[mem y];constructor
    . rintro⟨j,D,e⟩;have D:j< -bs:=by rw[hs]at D;show D
      show#[bs[j],getElem_mem D,?_];rw[<-N j D];show e
    . rintro⟨p,hp,e⟩;let(j,D,ej):=mem_iff_getElem.mp hp;show#[j,by rw[hs];show D,by rw[N j D,ej];show e]
   show#[.ref s.heap.objs.size,_,I.laid (λb o e=>kp b o (bP e) e) () (show fG X.prog X.w _ h' _ (.ext (Fj X.prog X.w s.heap.objs.size bs)) from #[#[es,F,t,ks,S.1,S.el.sz,λi e q=>?_,S.nd,ml,N4],#[_,S.at_],λh1 h2 N9 k=>by let(es,F,t,ks,S,r):=N9;show #[es,F,t,ks,S.moved k,r]]),O,q _ (I.hok.fresh ())];let(k,b,e1,e2,e3):=S.el.at_ i e q;show#[k,b,e1,e2,e3.2]
def uO(bs:BK)(b:Addr):Option TC:=(bs.find? λp=>p.1==b).map λp=>p.2.map bE
def U6_(h:uO bs b=!c):∃k,(b,k)∈bs/\c=k.map bE:=by
 unfold uO at h;cases q:bs.find? λp=>p.1==b with
 |none=>grind
 |some p=>
  rw[q]at h;cases h;have e:p.1=b:=by have:=find?_some q;show eq_of_beq this
  show#[p.2,by rw[<-e];show mem_of_find?_eq_some q,O]
def Xi{k:List aV}(hi:∀k',(b,k')∈bs->k'=k)(h:(b,k)∈bs):uO bs b=!(k.map bE):=by
 unfold uO;cases q:bs.find? λp=>p.1==b with
 |none=>
  have:=find?_eq_none.mp q (b,k) h;grind
 |some p=>
  have e:p.1=b:=by have:=find?_some q;show eq_of_beq this
  grind
theorem Iv{bs:BK}:∀(vs:List Value),(∀v∈vs,∃b k,v=Value.ref b/\(b,k)∈bs)->∃cs:BK,vs=cs.map (λp=>Value.ref p.1)/\∀p∈cs,p∈bs
 |[]=>λ_=>#[[],O,λp h=>by cases h]
 |v::vs=>λh=>by
  let(cs,e,m):=Iv vs λu j=>h u (cw _ j);let(b,k,rfl,hk):=h v be;show#[(b,k)::cs,by rw[dP,e],λp i=>?_];obtain rfl|i:=a_.mp i
  . show hk
  . show m p i
def U7_(X:Cx):List V->Hp->VK->Prop:=λxs H Q=>∃a bs sh,xs=[.ref a]/\H a=!(.ext (Fj X.prog X.w a bs))/\(∀p∈bs,cW X.K H p.1 (p.2.map nR)/\p.2.map ph=0::sh)/\-bs<9000/\
 ∀l (cs:BK),H l=J->(∀p∈cs,p∈bs)->(∀p∈bs,∃q∈cs,q.2=p.2)->cs.Pairwise (λp q=>p.2.map bE<q.2.map bE)->Q (.ref l) (aE H l (.lst (cs.map λp=>V.ref p.1)))
theorem Iw:∀{bs:BK},am (bs.map λp=>V.ref p.1) (bs.map λp=>Value.ref p.1)
 |[]=>.nil
 |p::bs=>.cons O Iw
def Ae(hc:X.calm=G):lO X (.builtin "sorted") (U7_ X):=by
 intro ae s U H xs us Q I r h;let(a,bs,sh,rfl,hq,hb,hl,q):=h;let(u,rfl,rx):=dv r;cases rx;let((es,ep,t,ks,S,sz,el,nd,mem,sz2),_):=I.hok a _ hq;have N:∀p∈bs,(tupleKind (eV X.prog X.w)).is s.heap p.2 p.1:=λp hp=>ux I (hb p hp).1;have W:∀{b k k'},(b,k)∈bs->(b,k')∈bs->k'=k:=λh1 h2=>(tupleKind (eV X.prog X.w)).inj (N _ h2) (N _ h1);have hT:yj X.prog X.w (0::sh) (uO bs) s.heap:=λx c e=>by let(k,hk,rfl):=U6_ e;show#[k,O,(hb _ hk).2,N _ hk]
 have tm:∀{b k},(b,k)∈bs->uO bs b=!(k.map bE):=λh1=>Xi (λk' h2=>W h1 h2) h1;have cd:es.toList.map (λe=>yX (uO bs) e.2)=ks.map λk=>!(k.map bE):=by
  show List.ext_getElem? λi=>?_;rw[c5,c5,Array.getElem?_toList];cases e:es[i]? with
  |none=>
   have:ks[i]?=J:=by rw[List.getElem?_eq_none_iff];rw[Array.getElem?_eq_none_iff]at e;lia
   rw[this];rfl
  |some x=>
   let(k,b,F,rfl,D):=el i x e;rw[F];show some (uO bs b)=!(!(k.map bE));rw[tm D]
 show Su (TT:="set") (Zl O) #[_,S.at_,O] (EY (by simpa using I.ok.hd hc) (S.moved λo e=>cE _ e)) hT (λvs p=>?_) λh' dr tk L out c vs p po so kp g hL=>?_
 . show#[?_,λv hv=>?_,?_]
   . have:=p.length_eq;simp only[bo,e_]at this;lia
   . let(e,he,rfl):=ck.mp (p.mem_iff.mp hv);let(i,hi):=List.getElem?_of_mem he;rw[Array.getElem?_toList]at hi;let(k,b,F,rfl,D):=el i e hi;show#[_,tm D]
   . let pp:=p.map (yX (uO bs));rw[fE]at pp;have e:es.toList.map (yX (uO bs) ∘ λx=>x.2)=ks.map λk=>!(k.map bE):=cd;rw[e]at pp;show pp.nodup_iff.mpr (List.pairwise_map.mpr (List.Pairwise.imp (λ{x y} ne z=>ne ?_) nd));show Fg (d0 z)
 . have N_:∀v∈out.toList,∃b k,v=Value.ref b/\(b,k)∈bs:=λv hv=>by let(e,he,rfl):=ck.mp (p.mem_iff.mp (po.mem_iff.mp hv));let(i,hi):=List.getElem?_of_mem he;rw[Array.getElem?_toList]at hi;let(k,b,F,rfl,D):=el i e hi;show#[b,k,O,D]
   let(cs,ec,mc):=Iv out.toList N_;have lc:-cs<=9000:=by let F:=congrArg List.length ec;let e2:=po.length_eq;let D:=p.length_eq;simp only[bo,e_]at F e2 D;lia
   let I1:=I.laid (t':=tk) kp hL (show fG X.prog X.w _ h' L (.lst (cs.map λp=>V.ref p.1)) from #[by rw[bo,sizeLine_eq];lia,out.toList,c,by rw[ec];show Iw,g]);show#[.ref L,_,I1.drew dr,O,q L cs (I.hok.fresh hL) mc (λx hx=>?_) ?_]
   . let(i,hi):=List.getElem?_of_mem ((mem x.2).mpr #[x,hx,O]);have li:i< ~~~es:=by rw[sz];show(c9.mp hi).1
     let(k,b,F,e2,D):=el i _ (Array.getElem?_eq_getElem li);rw[hi]at F;cases F;have m1:Value.ref b∈out.toList:=by show po.mem_iff.mpr (p.mem_iff.mpr (ck.mpr #[es[i],by simp,?_]));rw[e2]
     rw[ec]at m1;let(y,hy,ey):=ck.mp m1;let(y1,y2):=y;have Of:y1=b:=by cases ey;rfl
     subst Of;show#[_,hy,W D (mc _ hy)]
   . show List.pairwise_iff_getElem.mpr λi j hi hj kf=>?_;have gi:out.toList[i]?=!(Value.ref cs[i].1):=by rw[ec,c5,ed hi];rfl
     have gj:out.toList[j]?=!(Value.ref cs[j].1):=by rw[ec,c5,ed hj];rfl
     show so i j _ _ _ _ kf gi gj (tm (mc _ (List.getElem_mem hi))) (tm (mc _ (List.getElem_mem hj)))
end
end L2
namespace PL
open PySem PySem.Spec PyProof.Rows L2
inductive PV where
 |non
 |bl (b:Bool)
 |int (i:Int)
 |str (x:Str)
 |tup (ps:List PV)
 |lst (ps:List PV)
 |dk (ks:List c8) (ps:List PV)
 |dt (ks:List (List c8)) (ps:List PV)
 |obj (C:Str) (ks:List Str) (ps:List PV)
 |df (ks:List c8) (ps:List PV)
 |dtf (ks:List (List c8)) (ps:List PV)
 |dx (hk:List aV->Int) (ks:List (List aV)) (ps:List PV)
 |exc (C:Str)
 |fn (x:Str)
 |ptr (n:Nat)
structure ZG where
 z:Hp
 g:List Addr
def iu(Z Z':ZG):Prop:=eY_ Z.z Z'.z/\Z.g <+: Z'.g
theorem iu.refl(Z:ZG):iu Z Z:=#[eY_.refl _,iO _]
theorem iu.trans(a:iu Z Z1)(b:iu Z1 Z2):iu Z Z2:=#[a.1.trans b.1,a.2.trans b.2]
def On{α:Type}{l r:List α}{n:Nat}{a:α}(h:l <+: r)(e:l[n]?=!a):r[n]?=!a:=by let(t,rfl):=h;rw[gu (c9.mp e).1];show e
def CN(K:FG)(C:Str)(c:Addr):Prop:=W.nsIn K mainGlobals C=!(!(YV c))
mutual
noncomputable def aT (K:FG) (Z:ZG):PV->V->Prop
 |.non,v=>v=.non
 |.bl b,v=>v=.bl b
 |.int i,v=>v=.int i
 |.str x,v=>v=.str x
 |.tup ps,v=>∃a vs,v=.ref a/\cW K Z.z a vs/\aK K Z ps vs
 |.lst ps,v=>∃a vs,v=.ref a/\bY K Z.z a vs/\aK K Z ps vs
 |.dk ks ps,v=>∃a aS,v=.ref a/\Z.z a=!(.dK aS)/\aS.map (·.1)=ks/\aK K Z ps (aS.map (·.2))
 |.dt ks ps,v=>∃a aS,v=.ref a/\Z.z a=!(.dT aS)/\aS.map (·.1)=ks/\aK K Z ps (aS.map (·.2))
 |.obj C ks ps,v=>∃a c dx fs,v=.ref a/\CN K C c/\Z.z a=!(.ins c dx fs)/\fs.map (·.1)=ks/\aK K Z ps (fs.map (·.2))
 |.df ks ps,v=>∃a o aS,v=.ref a/\Z.z a=!(.frz o (.dK aS))/\aS.map (·.1)=ks/\aK K Z ps (aS.map (·.2))
 |.dtf ks ps,v=>∃a o aS,v=.ref a/\Z.z a=!(.frz o (.dT aS))/\aS.map (·.1)=ks/\aK K Z ps (aS.map (·.2))
 |.dx hk ks ps,v=>∃a xs,v=.ref a/\Z.z a=!(.ext (wA hk a xs))/\xs.map (·.1)=ks/\(∀x∈xs,cW K Z.z x.2.1 (x.1.map nR))/\aK K Z ps (xs.map (·.2.2))
 |.exc C,v=>∃a c,v=.ref a/\CN K C c/\Z.z a=!(.ext (yi a c))
 |.fn x,v=>∃a,v=.ref a/\CN K x a
 |.ptr n,v=>∃a,v=.ref a/\Z.g[n]?=!a
noncomputable def aK (K:FG) (Z:ZG):List PV->List V->Prop
 |[],vs=>vs=[]
 |p::ps,vs=>∃v r,vs=v::r/\aT K Z p v/\aK K Z ps r
end
def bY.same{K:FG}(s:eY_ Z Z')(h:bY K Z a vs):bY K Z' a vs:=s.seq h
def cW.same{K:FG}(s:eY_ Z Z')(h:cW K Z a vs):cW K Z' a vs:=by
 obtain (h|⟨o,h⟩)|h:=h
 . show Zl (Zl (s _ _ h))
 . show Zl (YY #[o,s _ _ h])
 . show YY h
mutual
theorem aT.mono{K:FG}{Z Z':ZG}(s:iu Z Z'):∀{p:PV}{v:V},aT K Z p v->aT K Z' p v
 |.non,v=>λh=>h
 |.bl _,v=>λh=>h
 |.int _,v=>λh=>h
 |.str _,v=>λh=>h
 |.tup ps,v=>λh=>by let(a,q,e,h1,h2):=h;show#[a,q,e,cW.same s.1 h1,aK.mono s h2]
 |.lst ps,v=>λh=>by let(a,q,e,h1,h2):=h;show#[a,q,e,bY.same s.1 h1,aK.mono s h2]
 |.dk ks ps,v=>λh=>by let(a,i,e,h1,h2,j):=h;show#[a,i,e,s.1 _ _ h1,h2,aK.mono s j]
 |.dt ks ps,v=>λh=>by let(a,i,e,h1,h2,j):=h;show#[a,i,e,s.1 _ _ h1,h2,aK.mono s j]
 |.obj C ks ps,v=>λh=>by let(a,c,dx,fs,e,z,h1,h2,j):=h;show#[a,c,dx,fs,e,z,s.1 _ _ h1,h2,aK.mono s j]
 |.df ks ps,v=>λh=>by let(a,o,i,e,h1,h2,j):=h;show#[a,o,i,e,s.1 _ _ h1,h2,aK.mono s j]
 |.dtf ks ps,v=>λh=>by let(a,o,i,e,h1,h2,j):=h;show#[a,o,i,e,s.1 _ _ h1,h2,aK.mono s j]
 |.dx hk ks ps,v=>λh=>by let(a,xs,e,h1,h2,D,j):=h;show#[a,xs,e,s.1 _ _ h1,h2,λx F=>cW.same s.1 (D x F),aK.mono s j]
 |.exc C,v=>λh=>by let(a,c,e,z,h1):=h;show#[a,c,e,z,s.1 _ _ h1]
 |.fn x,v=>λh=>by  show h
 |.ptr n,v=>λh=>by let(a,e,h1):=h;show#[a,e,On s.2 h1]
theorem aK.mono{K:FG}(s:iu Z Z'):∀{ps:List PV}{vs:List V},aK K Z ps vs->aK K Z' ps vs
 |[],vs=>λh=>by  show h
 |p::ps,vs=>λh=>by let(v,r,e,h1,h2):=h;show#[v,r,e,aT.mono s h1,aK.mono s h2]
end
section
variable {K:FG}{Z:ZG}
theorem aK.length:∀{ps:List PV}{vs:List V},aK K Z ps vs->-vs=-ps
 |[],vs=>λh=>by  subst h;rfl
 |p::ps,vs=>λh=>by let(v,r,rfl,_,h2):=h;simp[aK.length h2]
def aK.nil:aK K Z [] []:=by  rfl
def aK.cons{p:PV}{ps:List PV}{v:V}{vs:List V}(h:aT K Z p v)(t:aK K Z ps vs):aK K Z (p::ps) (v::vs):=by  show#[v,vs,O,h,t]
def aK.inv(h:aK K Z (p::ps) vs):∃v r,vs=v::r/\aT K Z p v/\aK K Z ps r:=by  show h
def aK.inv0(h:aK K Z [] vs):vs=[]:=by  show h
theorem aK.append:∀{ps qs:List PV}{vs ws:List V},aK K Z ps vs->aK K Z qs ws->aK K Z (ps++qs) (vs++ws)
 |[],qs,vs,ws=>λh g=>by have:=h.inv0;grind
 |p::ps,qs,vs,ws=>λh g=>by let(v,r,rfl,h1,h2):=h.inv;show aK.cons h1 (aK.append h2 g)
theorem aK.get:∀{ps:List PV}{vs:List V}{i:Nat}{p:PV},aK K Z ps vs->ps[i]?=!p->∃v,vs[i]?=!v/\aT K Z p v
 |[],vs,i,p=>λh e=>by grind
 |q::ps,vs,0,p=>λh e=>by let(v,r,rfl,h1,h2):=h.inv;grind
 |q::ps,vs,i+1,p=>λh e=>by let(v,r,rfl,h1,h2):=h.inv;let(u,j,z):=aK.get h2 ();grind
def aK.getV{i:Nat}(h:aK K Z ps vs)(e:vs[i]?=!v):∃p,ps[i]?=!p/\aT K Z p v:=by
 have hi:i< -ps:=by rw[<-(-h)];show(c9.mp e).1
 let(u,h1,h2):=h.get (ed hi);grind
theorem aK.set(j:aT K Z q u):∀{ps:List PV}{vs:List V}(i:Nat),aK K Z ps vs->aK K Z (ps.set i q) (vs.set i u)
 |[],vs,i=>λh=>by have:=h.inv0;grind
 |p::ps,vs,0=>λh=>by let(v,r,rfl,h1,h2):=h.inv;show aK.cons j h2
 |p::ps,vs,i+1=>λh=>by let(v,r,rfl,h1,h2):=h.inv;show aK.cons h1 (aK.set j i h2)
theorem aK.take:∀{ps:List PV}{vs:List V}(n:Nat),aK K Z ps vs->aK K Z (ps.take n) (vs.take n)
 |[],vs,n=>λh=>by have:=h.inv0;grind
 |p::ps,vs,0=>λh=>by  show .nil
 |p::ps,vs,n+1=>λh=>by let(v,r,rfl,h1,h2):=h.inv;show aK.cons h1 (aK.take n h2)
theorem aK.drop:∀{ps:List PV}{vs:List V}(n:Nat),aK K Z ps vs->aK K Z (ps.drop n) (vs.drop n)
 |[],vs,n=>λh=>by have:=h.inv0;grind
 |p::ps,vs,0=>λh=>h
 |p::ps,vs,n+1=>λh=>by let(v,r,rfl,h1,h2):=h.inv;show aK.drop n h2
end
inductive Lc where
 |sh (p:PV)
 |own (p:PV)
open PL.PV renaming lst→R,int→ZI,str→ZH,tup→ZB,ptr→ZA
open PL.Lc renaming own→Zs,sh→Zp
noncomputable def Lc.pv:Lc->PV
 |Zp p=>p
 |Zs p=>p
abbrev Mu:=List (Option PV)
structure Ev where
 vs:List (Option Lc)
 mu:Mu
abbrev Pd:=List (V×Lc)
def qU(K:FG)(Z:ZG)(H:Hp)(a:Addr):PV->Prop
 |R ps=>∃vs,H a=!(.lst vs)/\aK K Z ps vs
 |.dk ks ps=>∃aS,H a=!(.dK aS)/\aS.map (·.1)=ks/\aK K Z ps (aS.map (·.2))
 |.dt ks ps=>∃aS,H a=!(.dT aS)/\aS.map (·.1)=ks/\aK K Z ps (aS.map (·.2))
 |.dx hk ks ps=>∃xs,H a=!(.ext (wA hk a xs))/\xs.map (·.1)=ks/\(∀x∈xs,cW K Z.z x.2.1 (x.1.map nR))/\aK K Z ps (xs.map (·.2.2))
 |.exc C=>∃c,CN K C c/\H a=!(.ext (yi a c))
 |.obj C ks ps=>∃c dx fs,CN K C c/\H a=!(.ins c dx fs)/\fs.map (·.1)=ks/\aK K Z ps (fs.map (·.2))
 |_=>False
def VR(K:FG)(H0:Hp)(Z:ZG)(H:Hp)(v:Option V):Option Lc->Prop
 |none=>True
 |some (Zp p)=>∃x,v=!x/\aT K Z p x
 |some (Zs p)=>∃a,v=!(.ref a)/\qU K Z H a p/\Z.z a=J/\H0 a=J
noncomputable def mj:Option V×Option Lc->Option Addr
 |(!(.ref a),!(Zs _))=>!a
 |_=>J
abbrev Sl:=List (Option V×Option Lc)
def ah(K:FG)(H0:Hp)(Z:ZG)(H:Hp)(L:Sl):Prop:=(∀e∈L,VR K H0 Z H e.1 e.2)/\(L.filterMap mj).Nodup
noncomputable def cel (g:List Addr) (mu:Mu):Sl:=(g.map λa=>!(V.ref a)).zip (mu.map λo=>o.map Lc.own)
def uP(g:List Addr)(mu:Mu):List Addr:=(cel g mu).filterMap mj
def sl(g:List Addr)(U:L2.St)(Y:Ev)(pd:Pd):Sl:=cel g Y.mu++(U.zip Y.vs++pd.map λe=>(!e.1,!e.2))
def J9:HO->Prop
 |.tup _=>True
 |.frz _ _=>True
 |_=>False
structure jQ(H0:Hp)(Z0 Z:ZG)(H:Hp):Prop where
 zh:eY_ Z.z H
 h0:eY_ H0 H
 z0:iu Z0 Z
 new:∀b o,Z.z b=!o->Z0.z b=!o\/H0 b=none\/J9 o
def SR(K:FG)(H0:Hp)(Z0:ZG)(U:L2.St)(H:Hp)(Y:Ev)(pd:Pd):Prop:=-U=-Y.vs/\∃Z,-Y.mu=-Z.g/\jQ H0 Z0 Z H/\ah K H0 Z H (sl Z.g U Y pd)
section
variable {K:FG}{H0 H H':Hp}{Z0 Z Z':ZG}{L L':Sl}{U:L2.St}{Y:Ev}{pd:Pd}
def ah.sub(h:ah K H0 Z H L)(s:Sublist L' L):ah K H0 Z H L':=#[λe i=>h.1 e ∅,h.2.sublist ∅]
def ah.perm(h:ah K H0 Z H L)(s:Perm L' L):ah K H0 Z H L':=#[λe i=>h.1 e ∅,(s.filterMap mj).nodup_iff.mpr h.2]
def qU.keep(h:qU K Z H a p)(z:iu Z Z')(e:H' a=H a):qU K Z' H' a p:=by
 cases p with
 |lst ps=>let(j,h1,h2):=h;show#[j,by rw[e];show h1,h2.mono z]
 |dk ks ps=>let(j,h1,h2,i):=h;show#[j,by rw[e];show h1,h2,i.mono z]
 |dt ks ps=>let(j,h1,h2,i):=h;show#[j,by rw[e];show h1,h2,i.mono z]
 |dx hk ks ps=>let(j,h1,h2,N,i):=h;show#[j,by rw[e];show h1,h2,λx D=>cW.same z.1 (N x D),i.mono z]
 |exc C=>let(c,q,h1):=h;show#[c,q,by rw[e];show h1]
 |obj C ks ps=>let(c,dx,fs,q,h1,h2,i):=h;show#[c,dx,fs,q,by rw[e];show h1,h2,i.mono z]
 |_=>show h
def qU.some(h:qU K Z H a p):∃o,H a=!o/\¬ J9 o:=by
 cases p with
 |lst ps=>let(j,h1,h2):=h;show#[_,h1,λz=>z]
 |dk ks ps=>let(j,h1,h2,i):=h;show#[_,h1,λz=>z]
 |dt ks ps=>let(j,h1,h2,i):=h;show#[_,h1,λz=>z]
 |dx hk ks ps=>let(j,h1,h2,i):=h;show#[_,h1,λz=>z]
 |exc C=>let(c,D,h1):=h;show#[_,h1,λz=>z]
 |obj C ks ps=>let(c,dx,fs,D,h1,h2,i):=h;show#[_,h1,λz=>z]
 |_=>show h.elim
def qU.rep(h:qU K Z H a p)(z:iu Z Z')(e:Z'.z a=H a):aT K Z' p (.ref a):=by
 cases p with
 |lst ps=>let(j,h1,h2):=h;unfold aT;show#[a,j,O,bY.of ∅,h2.mono z]
 |dk ks ps=>let(j,h1,h2,i):=h;unfold aT;show#[a,j,O,by rw[e];show h1,h2,i.mono z]
 |dt ks ps=>let(j,h1,h2,i):=h;unfold aT;show#[a,j,O,by rw[e];show h1,h2,i.mono z]
 |dx hk ks ps=>let(j,h1,h2,N,i):=h;unfold aT;show#[a,j,O,by rw[e];show h1,h2,λx D=>cW.same z.1 (N x D),i.mono z]
 |exc C=>let(c,q,h1):=h;unfold aT;grind
 |obj C ks ps=>let(c,dx,fs,q,h1,h2,i):=h;unfold aT;show#[a,c,dx,fs,O,q,by rw[e];show h1,h2,i.mono z]
 |_=>show h.elim
def ah.step(h:ah K H0 Z H L)(z:iu Z Z')(hk:∀e∈L,∀a,mj e=!a->H' a=H a/\Z'.z a=J):ah K H0 Z' H' L:=by
 show#[λe F=>?_,h.2];let q:=h.1 e F;let(v,l):=e;cases l with
 |none=>trivial
 |some l=>
  cases l with
  |sh p=>let(x,i,D):=q;show#[x,i,D.mono z]
  |own p=>
   let(a,i,D,e3,N):=q;let j:=i;subst j;let(W,Q):=hk _ F a O;show#[a,O,D.keep z W,Q,N]
def jn(h:ah K H0 Z H L)(he:e∈L)(i:mj e=!a):Z.z a=J/\H0 a=J/\∃o,H a=!o/\¬ J9 o:=by
 let(v,l):=e;let q:=h.1 _ he;cases l with
 |none=>cases v with
  |none=>cases i
  |some x=>cases x<;>cases i
 |some l=>
  cases l with
  |sh p=>cases v with
   |none=>cases i
   |some x=>cases x<;>cases i
  |own p=>
   let(b,F,N,Q,D):=q;let j:=F;subst j;cases i;show#[Q,D,N.some]
theorem ah.new(h:ah K H0 Z H L)(j:jQ H0 Z0 Z H)(q:H a=J)(N:qU K Z (aE H a o) a p):jQ H0 Z0 Z (aE H a o)/\ah K H0 Z (aE H a o) ((!(.ref a),!(Zs p))::L):=by
 let D:=j.zh.free q;let F:=j.h0.free q;show#[#[λb u e=>by rw[cV (fD e D)];show j.zh b u e,λb u e=>by rw[cV (fD e F)];show j.h0 b u e,j.z0,j.new],?_];have W:∀e∈L,∀b,mj e=!b->b≠a:=λe i b z=>by let(_,_,o',Q,_):=jn h i z;show fD Q q
 let st:=h.step (H':=aE H a o) (iu.refl Z) λe i b z=>#[cV ∅,(jn h i z).1];show#[λe i=>?_,?_]
 . obtain rfl|i:=a_.mp i
   . show#[a,O,N,D,F]
   . show st.1 e i
 . show fI.mpr #[λhm=>?_,st.2];grind
abbrev ZG.put(Z:ZG)(a:Addr)(o:HO):ZG:=#[aE Z.z a o,Z.g]
def ah.newF(h:ah K H0 Z H L)(i:jQ H0 Z0 Z H)(F:H a=J):jQ H0 Z0 (Z.put a o) (aE H a o)/\iu Z (Z.put a o)/\ah K H0 (Z.put a o) (aE H a o) L:=by
 let N:=i.zh.free F;let h0:=i.h0.free F;have sz:eY_ Z.z (aE Z.z a o):=λb u e=>by rw[cV (fD e N)];show e
 have D:iu Z (Z.put a o):=#[sz,iO _];show#[#[λb u e=>?_,λb u e=>by rw[cV (fD e h0)];show i.h0 b u e,i.z0.trans D,λb u e=>?_],D,?_]
 . have e:aE Z.z a o b=!u:=e;unfold aE at e ⊢;split
   . grind
   . rename_i q;rw[ay q]at e;show i.zh b u e
 . have e:aE Z.z a o b=!u:=e;unfold aE at e;split at e
   . grind
   . show i.new b u e
 . show h.step D λe W b Q=>?_;let(h1,h2,o',h3,_):=jn h W Q;let j:=fD h3 F;show#[cV j,by show aE Z.z a o b=J;rw[cV j];show h1]
def ah.freeze(h:ah K H0 Z H ((v,!(Zs p))::L))(i:jQ H0 Z0 Z H):∃Z',iu Z Z'/\Z'.g=Z.g/\jQ H0 Z0 Z' H/\ah K H0 Z' H ((v,!(Zp p))::L):=by
 let(a,e1,e2,e3,e4):=h.1 _ be;let D:=e1;subst D;let(o,ho,_):=e2.some;have sz:eY_ Z.z (aE Z.z a o):=λb u e=>by rw[cV (fD e e3)];show e
 have j:iu Z (Z.put a o):=#[sz,iO _];let Q:=h.2;let W:=h.sub (d5 _ _);show#[Z.put a o,j,O,#[λb u e=>?_,i.h0,i.z0.trans j,λb u e=>?_],λe N=>?_,(fI.mp Q).2]
 . have e:aE Z.z a o b=!u:=e;unfold aE at e;split at e
   . grind
   . show i.zh b u e
 . have e:aE Z.z a o b=!u:=e;unfold aE at e;split at e
   . grind
   . show i.new b u e
 . obtain rfl|N:=a_.mp N
   . show#[.ref a,O,e2.rep j (by show aE Z.z a o a=_;rw[bZ,ho])]
   . show(W.step j λe' F b hb=>#[O,?_]).1 e N;have:b≠a:=λq=>by rw[q]at hb;show(fI.mp Q).1 ∅
     show aE Z.z a o b=J;rw[cV this];show(jn W F hb).1
def ah.write(h:ah K H0 Z H ((!(.ref a),!(Zs p))::L))(i:jQ H0 Z0 Z H)(hq:qU K Z (aE H a o) a q):jQ H0 Z0 Z (aE H a o)/\ah K H0 Z (aE H a o) ((!(.ref a),!(Zs q))::L):=by
 let(b,e1,e2,Q,D):=h.1 _ be;cases e1;let N:=h.2;let W:=h.sub (d5 _ _);show#[#[λb u e=>by rw[cV (fD e Q)];show i.zh b u e,λb u e=>by rw[cV (fD e D)];show i.h0 b u e,i.z0,i.new],λe z=>?_,N];obtain rfl|z:=a_.mp z
 . show#[a,O,hq,Q,D]
 . show(W.step (iu.refl Z) λe' j b F=>#[cV λq=>?_,(jn W j F).1]).1 e z;rw[q]at F;show(fI.mp N).1 ∅
end
variable {K:FG}{H0 H:Hp}{Z0:ZG}{U:L2.St}{Y:Ev}{pd:Pd}
theorem Af{α:Type}:∀{l:List α}{i:Nat}{a:α},l[i]?=!a->∃ZN,Perm l (a::ZN)/\∀b,Perm (l.set i b) (b::ZN)
 |[],i,a=>λh=>by grind
 |x::r,0,a=>λh=>by simp at h;subst h;show#[r,Perm.refl _,λb=>Perm.refl _]
 |x::r,i+1,a=>λh=>by let(ZN,h1,h2):=Af (by simpa using h);show#[x::ZN,(h1.cons x).trans (Perm.swap _ _ _),λb=>?_];show((h2 b).cons x).trans (Perm.swap _ _ _)
theorem G4{α β:Type}:∀(l:List α)(r:List β)(i:Nat)(a:α)(b:β),(l.set i a).zip (r.set i b)=(l.zip r).set i (a,b)
 |[],r,i=>λa b=>by simp
 |x::l,[],i=>λa b=>by simp
 |x::l,y::r,0=>λa b=>by simp
 |x::l,y::r,i+1=>λa b=>by simp[G4 l r i a b]
theorem zip_get{α β:Type}:∀{l:List α}{r:List β}{i:Nat}{a:α}{b:β},l[i]?=!a->r[i]?=!b->(l.zip r)[i]?=!(a,b)
 |[],r,i,a,b=>λh g=>by simp at h
 |x::l,[],i,a,b=>λh g=>by simp at g
 |x::l,y::r,0,a,b=>λh g=>by simp at h g;simp[h,g]
 |x::l,y::r,i+1,a,b=>λh g=>by have:=zip_get (by simpa using h) ();simpa using this
theorem iA{α:Type}:∀{l:List α}{i:Nat}{a:α},l[i]?=!a->l.set i a=l
 |[],i,a=>λh=>by simp at h
 |x::r,0,a=>λh=>by simp at h;subst h;simp
 |x::r,i+1,a=>λh=>by simp[iA (by simpa using h)]
noncomputable def Ev.set (Y:Ev) (i:Nat) (x:Option Lc):Ev:=#[Y.vs.set i x,Y.mu]
section
variable {K:FG}{H0 H H':Hp}{Z0 Z:ZG}{U:L2.St}{Y:Ev}{pd fT:Pd}{v w:V}{l:Lc}{p:PV}{L:Sl}{g:List Addr}
def dD:Perm (sl g U Y ((v,l)::pd)) ((!v,!l)::sl g U Y pd):=by show(perm_middle.append_left _).trans et
def SR.top(h:SR K H0 Z0 U H Y ((v,l)::pd)):-U=-Y.vs/\∃Z,-Y.mu=-Z.g/\jQ H0 Z0 Z H/\ah K H0 Z H ((!v,!l)::sl Z.g U Y pd):=
 let #[e,Z,hg,z,s]:=h
 #[e,Z,hg,z,s.perm dD.symm]
def SR.mk(e:-U=-Y.vs)(i:-Y.mu=-Z.g)(z:jQ H0 Z0 Z H)(s:ah K H0 Z H ((!v,!l)::sl Z.g U Y pd)):SR K H0 Z0 U H Y ((v,l)::pd):=#[e,Z,i,z,s.perm dD]
def SR.pop(h:SR K H0 Z0 U H Y ((v,l)::pd)):SR K H0 Z0 U H Y pd:=
 let #[e,Z,hg,z,s]:=h.top
 #[e,Z,hg,z,s.sub (d5 _ _)]
theorem SR.perm(h:SR K H0 Z0 U H Y pd)(q:Perm fT pd):SR K H0 Z0 U H Y fT:=
 let #[e,Z,hg,z,s]:=h
 #[e,Z,hg,z,s.perm (((q.map _).append_left _).append_left _)]
theorem SR.swap(h:SR K H0 Z0 U H Y ((v,l)::(w,l2)::pd)):SR K H0 Z0 U H Y ((w,l2)::(v,l)::pd):=h.perm (Perm.swap _ _ _)
theorem SR.freeze(h:SR K H0 Z0 U H Y ((v,l)::pd)):SR K H0 Z0 U H Y ((v,Zp l.pv)::pd):=by
 cases l with
 |sh p=>show h
 |own p=>
  let(e,Z,q,z,s):=h.top;let(Z',_,j,i,s'):=s.freeze z;show .mk e ∅ i ?_;rw[j];show s'
def SR.sh(h:SR K H0 Z0 U H Y ((v,Zp p)::pd)):-U=-Y.vs/\∃Z,-Y.mu=-Z.g/\jQ H0 Z0 Z H/\aT K Z p v/\ah K H0 Z H (sl Z.g U Y pd):=by let(e,Z,i,z,s):=h.top;let(x,q,j):=s.1 _ be;cases q;show#[e,Z,i,z,j,s.sub (d5 _ _)]
def SR.rep(h:SR K H0 Z0 U H Y ((v,Zp p)::pd)):∃Z:ZG,eY_ Z.z H/\aT K Z p v:=let #[_,Z,_,z,r,_]:=h.sh;#[Z,z.zh,r]
def SR.repH(h:SR K H0 Z0 U H Y ((v,Zp p)::pd)):∃g,aT K #[H,g] p v:=let #[_,Z,_,z,r,_]:=h.sh;#[Z.g,r.mono (Z':=#[H,Z.g]) #[z.zh,iO _]]
def ah.consS(s:ah K H0 Z H L)(r:aT K Z p v):ah K H0 Z H ((!v,!(Zp p))::L):=by
 show#[λe i=>?_,?_]
 . obtain rfl|i:=a_.mp i
   . show#[v,O,r]
   . show s.1 e i
 . have:mj (!v,!(Lc.sh p))=J:=by cases v<;>rfl
   rw[gE this];show s.2
def SR.scal(h:SR K H0 Z0 U H Y pd)(r:∀Z,aT K Z p v):SR K H0 Z0 U H Y ((v,Zp p)::pd):=
 let #[e,Z,hg,z,s]:=h
 .mk e hg z (s.consS (r Z))
def Ly(q:-U=-Y.vs)(e:Y.vs[i]?=!o):∃ZN:Sl,∃x,U[i]?=!x/\(∀g pd,List.Perm (sl g U Y pd) ((x,o)::(cel g Y.mu++(ZN++pd.map λe=>(!e.1,!e.2)))))/\
 ∀g pd y o',Perm (sl g (U.set i y) (Y.set i o') pd) ((y,o')::(cel g Y.mu++(ZN++pd.map λe=>(!e.1,!e.2)))):=by
 have hi:i< -U:=by rw[q];show(c9.mp e).1
 let j:=ed hi;let(ZN,h1,h2):=Af (zip_get j e);show#[ZN,U[i],j,λg pd=>?_,λg pd y o'=>?_]
 . show((h1.append_right _).append_left _).trans et
 . show List.Perm (cel g Y.mu++((U.set i y).zip (Y.vs.set i o')++_)) _;rw[G4];show(((h2 _).append_right _).append_left _).trans et
def Ev.set_mu:(Y.set i x).mu=Y.mu:=rfl
def Ev.set_len:(Y.set i x).vs.length=-Y.vs:=by show -(Y.vs.set i x)=_;rw[ly]
def SR.var(h:SR K H0 Z0 U H Y pd)(e:Y.vs[i]?=!(!l)):∃v,U[i]?=!(!v)/\SR K H0 Z0 U H (Y.set i (!(Zp l.pv))) ((v,Zp l.pv)::pd):=by
 let(W,Z,hg,z,s):=h;let(ZN,x,Q,h1,h2):=Ly W e;let F:=s.perm (h1 Z.g pd).symm;have D:-U=(Y.set i (!(Zp l.pv))).vs.length:=by rw[Ev.set_len];show W
 have fin:∀{Z':ZG}{v:V},Z'.g=Z.g->jQ H0 Z0 Z' H->x=!v->ah K H0 Z' H ((x,!(Zp l.pv))::(cel Z.g Y.mu++(ZN++pd.map λe=>(!e.1,!e.2))))->aT K Z' l.pv v->SR K H0 Z0 U H (Y.set i (!(Zp l.pv))) ((v,Zp l.pv)::pd):=
  λ{Z' v} q z ev s2 r=>by let p2:=h2 Z.g pd x (!(Zp l.pv));rw[iA Q]at p2;show .mk D (by rw[q,Ev.set_mu];show hg) z ?_;rw[q];show(s2.perm p2).consS r
 cases l with
 |sh p=>
  let(v,j,N):=F.1 _ be;show#[v,Q.trans (congrArg some j),fin O z j F N]
 |own p=>
  let(Z',sz,q,z',s'):=F.freeze z;let(v,j,N):=s'.1 _ be;show#[v,Q.trans (congrArg some j),fin q z' j s' N]
def SR.store(h:SR K H0 Z0 U H Y ((v,l)::pd))(hi:i< -Y.vs):SR K H0 Z0 (U.set i (!v)) H (Y.set i (!l)) pd:=by let(j,Z,q,z,s):=h.top;let D:=ed hi;let(ZN,x,F,h1,h2):=Ly j D;show#[by rw[ly,Ev.set_len];show j,Z,q,z,?_];show(ah.sub (s.perm ((h1 Z.g pd).symm.cons _)) ?_).perm (h2 Z.g pd (!v) (!l));grind
def SR.take(h:SR K H0 Z0 U H Y pd)(e:Y.vs[i]?=!(!l)):∃v,U[i]?=!(!v)/\SR K H0 Z0 U H (Y.set i J) ((v,l)::pd):=by
 let(N,Z,W,z,s):=h;let(ZN,x,Q,h1,h2):=Ly N e;let D:=s.perm (h1 Z.g pd).symm;obtain⟨v,hv⟩:∃v,x=!v:=by
  let q:=D.1 _ be;cases l with
  |sh p=>let(x,j,_):=q;show#[x,j]
  |own p=>let(a,j,_):=q;show#[_,j]
 subst hv;show#[v,Q,.mk (by rw[Ev.set_len];show N) W z ?_];let p2:=h2 Z.g pd (!v) J;rw[iA Q]at p2;show ah.perm ?_ (p2.cons _);have ht:ah K H0 Z H ((!v,J)::(!v,!l)::(cel Z.g Y.mu++(ZN++pd.map λe=>(!e.1,!e.2)))):=by
  show#[λe F=>?_,?_]
  . obtain rfl|F:=a_.mp F
    . trivial
    . show D.1 e F
  . have:mj (!v,J)=J:=by cases v<;>rfl
    rw[gE this];show D.2
 show ht.perm (Perm.swap _ _ _)
def SR.put(h:SR K H0 Z0 U H Y ((v,l)::pd))(e:U[i]?=!(!v)):SR K H0 Z0 U H (Y.set i (!l)) pd:=by
 have hi:i< -Y.vs:=by rw[<-h.1];show(c9.mp e).1
 have:=h.store hi;rw[iA e]at this;grind
end
abbrev EF:=Ev->Option (Lc×Ev)
abbrev TF:=Ev->Option (Bool×Ev)
abbrev AF:=Ev->Option (List Lc×Ev)
inductive Fl where
 |nx (Y:Ev)
 |rt (r:Lc) (Y:Ev)
 |bk (Y:Ev)
 |ct (Y:Ev)
abbrev SF:=Ev->Option Fl
def tP(K:FG)(f:EF):TE:=λU H Q=>∃H0 Z0 Y pd r Y',SR K H0 Z0 U H Y pd/\f Y=!(r,Y')/\∀v H',SR K H0 Z0 U H' Y' ((v,r)::pd)->Q v H'
def jw(K:FG)(f:TF):TT:=λU H Q=>∃H0 Z0 Y pd b Y',SR K H0 Z0 U H Y pd/\f Y=!(b,Y')/\∀H',SR K H0 Z0 U H' Y' pd->Q b H'
def jR(K:FG)(f:AF):TA:=λU H Q=>∃H0 Z0 Y pd ls Y',SR K H0 Z0 U H Y pd/\f Y=!(ls,Y')/\∀vs H',-vs=-ls->SR K H0 Z0 U H' Y' (vs.zip ls++pd)->Q vs H'
def Lz(K:FG)(H0:Hp)(Z0:ZG)(pd:Pd)(D:fN):Fl->Prop
 |.nx Y'=>∀U' H',SR K H0 Z0 U' H' Y' pd->D.nx U' H'
 |.rt r Y'=>∀v U' H',SR K H0 Z0 U' H' Y' ((v,r)::pd)->D.rt v H'
 |.bk Y'=>∀U' H',SR K H0 Z0 U' H' Y' pd->D.bk U' H'
 |.ct Y'=>∀U' H',SR K H0 Z0 U' H' Y' pd->D.ct U' H'
def iw(K:FG)(g:SF):TS:=λD U H=>∃H0 Z0 Y pd fl,SR K H0 Z0 U H Y pd/\g Y=!fl/\Lz K H0 Z0 pd D fl
section
variable {X:Cx}{e:Expr}{es:List Expr}{st:Stmt}{zD:List Stmt}
def PE.imp(h:PE X e t)(i:∀U H Q,t' U H Q->t U H Q):PE X e t':=λae s U H Q I q=>h ae s U H Q I (i U H Q q)
def PT.imp(h:PT X e t)(i:∀U H Q,t' U H Q->t U H Q):PT X e t':=λae s U H Q I q=>h ae s U H Q I (i U H Q q)
def PW.imp(h:PW X e t)(i:∀U H Q,t' U H Q->t U H Q):PW X e t':=λwh ae s U H Q I q=>h wh ae s U H Q I (i U H Q q)
def PA.imp(h:PA X es t)(i:∀U H Q,t' U H Q->t U H Q):PA X es t':=λpos ae s U H Q I q=>h pos ae s U H Q I (i U H Q q)
def PS.imp(h:PS X st t)(i:∀D U H,t' D U H->t D U H):PS X st t':=λae s U H D I q=>h ae s U H D I (i D U H q)
def jP.imp(h:jP X zD t)(i:∀D U H,t' D U H->t D U H):jP X zD t':=λae s U H D I q=>h ae s U H D I (i D U H q)
def aa(i:Nat):EF:=λY=>match Y.vs[i]? with
 |some (!l)=>!(Zp l.pv,Y.set i (!(Zp l.pv)))
 |_=>J
def eC(p:PV):EF:=λY=>!(Zp p,Y)
abbrev af(i:Int):=eC (ZI i)
abbrev bg(s:Str):=eC (ZH s)
def qv(h:PE X e (uH i)):PE X e (tP X.K (aa i)):=PE.imp h λU H Q q=>by
 let(H0,Z0,Y,pd,r,Y',s,f,k):=q;unfold aa at f;split at f
 . rename_i l j;cases f;let(v,h1,h2):=s.var j;show#[v,h1,k v H h2]
 . cases f
def qc(h:PE X e (tC v))(r:∀Z,aT X.K Z p v):PE X e (tP X.K (eC p)):=PE.imp h λU H Q q=>by let(H0,Z0,Y,pd,l,Y',s,f,k):=q;cases f;show k v H (s.scal r)
def gF:∀Z,aT K Z (ZI i) (.int i):=λZ=>by unfold aT;rfl
def pq:∀Z,aT K Z (ZH i) (.str i):=λZ=>by unfold aT;rfl
def mq:∀Z,aT K Z (.bl i) (.bl i):=λZ=>by unfold aT;rfl
def Bq:∀Z,aT K Z .non .non:=λZ=>by unfold aT;rfl
def pA(K:FG)(r:R2)(g:PV->PV->Option Lc):Prop:=∀H0 Z0 U Y pd H v w x y l Q,SR K H0 Z0 U H Y ((w,Zp y)::(v,Zp x)::pd)->g x y=!l->(∀u H',SR K H0 Z0 U H' Y ((u,l)::pd)->Q u H')->r v w H Q
def au(g:PV->PV->Option Lc)(fa fb:EF):EF:=λY=>(fa Y).bind λx=>(fb x.2).bind λy=>(g x.1.pv y.1.pv).map λl=>(l,y.2)
def Xj(h:au g fa fb Y=!(l,Y')):∃x Y1 y,fa Y=!(x,Y1)/\fb Y1=!(y,Y')/\g x.pv y.pv=!l:=by
 unfold au at h;cases h1:fa Y with
 |none=>grind
 |some x=>
  rw[h1,bq]at h;cases h2:fb x.2 with
  |none=>grind
  |some y=>
   cases i:g x.1.pv y.1.pv with
   |none=>grind
   |some z=>
    grind
def LC(hs:pA X.K r g):∀U H Q,tP X.K (au g fa fb) U H Q->T3 r (tP X.K fa) (tP X.K fb) U H Q:=λU H Q q=>by let(H0,Z0,Y,pd,l,Y',s,f,k):=q;let(x,Y1,y,h1,h2,i):=Xj f;show#[H0,Z0,Y,pd,x,Y1,s,h1,λv H1 D=>#[H0,Z0,Y1,_,y,Y',D,h2,λw H2 z=>?_]];show hs H0 Z0 U Y' pd H2 v w x.pv y.pv l Q (z.freeze.swap.freeze.swap) i λu H' j=>k u H' j
def bj(j:ju X (binaryOp op) r)(hs:pA X.K r g)(i:PE X a (tP X.K fa))(q:PE X b (tP X.K fb)):PE X (.BinOp a op b pos) (tP X.K (au g fa fb)):=
 PE.imp (G2 j i q) (LC hs)
def Xk(j:ju X (compareOp op) r)(hs:pA X.K r g)(i:PE X a (tP X.K fa))(q:PE X b (tP X.K fb))(z:behindInMarks op b=M):PE X (.Compare a [op] [b] pos) (tP X.K (au g fa fb)):=
 PE.imp (ZL j i q z) (LC hs)
noncomputable def CZ (C:Int->Int->Bool) (g:Int->Int->PV):PV->PV->Option Lc
 |ZI i,ZI j=>if C i j=G then !(Zp (g i j)) else J
 |_,_=>J
def LK(h:CZ C g x y=!l):∃i j,x=ZI i/\y=ZI j/\C i j=G/\l=Zp (g i j):=by
 cases x with
 |int i=>
  cases y with
  |int j=>
   have h':(if C i j=G then !(Lc.sh (g i j)) else J)=!l:=h;split at h'
   . grind
   . cases h'
  |_=>cases h
 |_=>cases h
def cF(h:aT K Z (ZI i) v):v=.int i:=by  show h
def dN(h:aT K Z (ZH i) v):v=.str i:=by  show h
def ji(h:aT K Z (.bl i) v):v=.bl i:=by  show h
def jL(h:aT K Z .non v):v=.non:=by  show h
def Ka(N:∀i j,C i j=G->C' i j)(D:∀i j Z,aT K Z (g i j) (gV i j)):pA K (rI C' gV) (CZ C g):=by intro H0 Z0 U Y pd H v w x y l Q s e k;let(i,j,rfl,rfl,c,rfl):=LK e;let(_,q):=s.repH;let(_,z):=s.pop.repH;let W:=cF q;let F:=cF z;show#[i,j,F,W,N i j c,k _ H (s.pop.pop.scal (D i j))]
def LR(D:∀i j Z,aT K Z (g i j) (gV i j)):pA K (zG gV) (CZ (λ_ _=>G) g):=by intro H0 Z0 U Y pd H v w x y l Q s e k;let(i,j,rfl,rfl,c,rfl):=LK e;let(_,q):=s.repH;let(_,z):=s.pop.repH;show#[i,j,cF z,cF q,k _ H (s.pop.pop.scal (D i j))]
end
section
variable {X:Cx}
section
variable {K:FG}{H0 H H':Hp}{Z0 Z:ZG}{U:L2.St}{Y:Ev}{pd fT:Pd}{v w:V}{l:Lc}{p:PV}{g:List Addr}
def SR.newO(h:SR K H0 Z0 U H Y pd)(i:H a=J)(j:∀Z,jQ H0 Z0 Z H->ah K H0 Z H (sl Z.g U Y pd)->qU K Z (aE H a o) a p):SR K H0 Z0 U (aE H a o) Y ((.ref a,Zs p)::pd):=by let(e,Z,q,z,s):=h;let(D,s'):=s.new z i (j Z z s);show .mk e q D s'
def Kc{α:Type}(A B C:List α):Perm (A++(B++C)) (B++(A++C)):=by rw[<-cx A B C,<-cx B A C];show perm_append_comm.append_right _
def U8:Perm (sl g U Y (pe++pd)) (pe.map (λe=>((some e.1:Option V),(some e.2:Option Lc)))++sl g U Y pd):=by unfold sl;rw[cy];show((Kc _ _ _).append_left _).trans (Kc _ _ _)
theorem SR.freezeAll:∀{vs:List V}{ls:List Lc}{pd:Pd},SR K H0 Z0 U H Y (vs.zip ls++pd)->SR K H0 Z0 U H Y (vs.zip (ls.map λl=>.sh l.pv)++pd)
 |[],ls,pd=>λh=>by simpa using h
 |v::vs,[],pd=>λh=>by grind
 |v::vs,l::ls,pd=>λh=>by let h1:=h;let h2:=h1.freeze.perm et;let i:=SR.freezeAll h2;show i.perm et.symm
theorem ah.repl:∀{vs:List V}{ps:List PV},-vs=-ps->ah K H0 Z H ((vs.zip (ps.map λp=>Lc.sh p)).map (λe=>(!e.1,!e.2))++L)->aK K Z ps vs
 |[],[]=>λ_ _=>.nil
 |v::vs,p::ps=>λe h=>by let h1:=h;let(x,j,i):=h1.1 _ be;cases j;show aK.cons i (ah.repl ∅ (h1.sub (d5 _ _)))
 |[],p::ps=>λe _=>by grind
 |v::vs,[]=>λe _=>by grind
theorem SR.repl{vs:List V}{ls:List Lc}(h:SR K H0 Z0 U H Y (vs.zip ls++pd))(e:-vs=-ls):-U=-Y.vs/\∃Z,-Y.mu=-Z.g/\jQ H0 Z0 Z H/\aK K Z (ls.map Lc.pv) vs/\ah K H0 Z H (sl Z.g U Y pd):=by
 let(i,Z,j,z,s):=h.freezeAll;have D:(ls.map λl=>Lc.sh l.pv)=(ls.map Lc.pv).map λp=>Lc.sh p:=by rw[fE];rfl
 rw[D]at s;have q:Perm (sl Z.g U Y (vs.zip ((ls.map Lc.pv).map λp=>Lc.sh p)++pd)) ((vs.zip ((ls.map Lc.pv).map λp=>Lc.sh p)).map (λe=>(!e.1,!e.2))++sl Z.g U Y pd):=U8;let s':=s.perm q.symm;show#[i,Z,j,z,ah.repl ∅ s',s'.sub (kF _ _)]
end
def yZ{α:Type}{l:List α}(h:-l=1):∃a,l=[a]:=length_eq_one_iff.mp h
def mx{α:Type}{l:List α}(h:-l=2):∃a b,l=[a,b]:=by
 cases l with
 |nil=>cases h
 |cons a l=>let(b,rfl):=yZ (nB h);grind
def z_{α:Type}{l:List α}(h:-l=3):∃a b c,l=[a,b,c]:=by
 cases l with
 |nil=>cases h
 |cons a l=>let(b,c,rfl):=mx (nB h);grind
def Op{α:Type}{l:List α}(h:-l=4):∃a b c d,l=[a,b,c,d]:=by
 cases l with
 |nil=>cases h
 |cons a l=>let(b,c,d,rfl):=z_ (nB h);grind
def Oy{α:Type}{l:List α}(h:-l=5):∃a b c d e,l=[a,b,c,d,e]:=by
 cases l with
 |nil=>cases h
 |cons a l=>let(b,c,d,e,rfl):=Op (nB h);show#[a,b,c,d,e,rfl]
def ao:AF:=λY=>!([],Y)
noncomputable def aj (f:EF) (g:AF):AF:=λY=>(f Y).bind λx=>(g x.2).map λy=>(x.1::y.1,y.2)
def aq:PA X [] (jR X.K ao):=PA.imp zK λU H Q q=>by let(H0,Z0,Y,pd,l,Y',s,f,k):=q;cases f;show k [] H O s
def ak(i:PE X e (tP X.K f))(F:PA X es (jR X.K g))(hs:starEach (e::es) X.env=(M,eval e X.env)::starEach es X.env:=by rfl):PA X (e::es) (jR X.K (aj f g)):=PA.imp (wz i F hs) λU H Q q=>by
 let(H0,Z0,Y,pd,l,Y',s,h,k):=q;unfold aj at h;cases h1:f Y with
 |none=>grind
 |some x=>
  rw[h1,bq]at h;cases h2:g x.2 with
  |none=>grind
  |some y=>
   rw[h2]at h;cases h;show#[H0,Z0,Y,pd,x.1,x.2,s,h1,λv H1 D=>#[H0,Z0,x.2,_,y.1,y.2,D,h2,λz H2 N j=>?_]];show k (v::z) H2 ∅ (j.perm et.symm)
def cu(g:AF):EF:=λY=>(g Y).bind λy=>if -y.1<=1000 then !(Zs (R (y.1.map Lc.pv)),y.2) else J
def aX(g:AF):EF:=λY=>(g Y).bind λy=>if -y.1<=1000 then !(Zp (ZB (y.1.map Lc.pv)),y.2) else J
def dQ(h:n<=100000):n<=sizeLine:=by  lia
def dz(h:PA X es (jR X.K g)):PE X (.List es pos) (tP X.K (cu g)):=PE.imp (IA h) λU H Q q=>by
 let(H0,Z0,Y,pd,l,Y',s,f,k):=q;unfold cu at f;cases h2:g Y with
 |none=>grind
 |some y=>
  rw[h2,bq]at f;split at f
  . cases f;show#[H0,Z0,Y,pd,y.1,y.2,s,h2,λW H2 e2 N=>#[dQ (),λp hp=>k _ _ ?_]];let(j,Z,D,z,r,i):=N.repl e2;let(F,s'):=i.new (p:=R (y.1.map Lc.pv)) z hp #[W,bZ,r];show .mk j D F s'
  . cases f
def cP{x1}(h:PA X es (jR X.K g)):PE X (.Tuple es x1 pos) (tP X.K (aX g)):=PE.imp (Ix h) λU H Q q=>by
 let(H0,Z0,Y,pd,l,Y',s,f,k):=q;unfold aX at f;cases h2:g Y with
 |none=>grind
 |some y=>
  rw[h2,bq]at f;split at f
  . cases f;show#[H0,Z0,Y,pd,y.1,y.2,s,h2,λj H2 e2 W=>#[dQ (),λp hp=>k _ _ ?_]];let(D,Z,F,z,r,i):=W.repl e2;let(N,sz,s'):=i.newF z hp;show .mk (Z:=Z.put p (.tup j)) D F N (s'.consS ?_);show#[p,j,O,cW.of bZ,r.mono sz]
  . cases f
def tT(f:EF)(tr:PV->Option Bool):TF:=λY=>(f Y).bind λx=>(tr x.1.pv).map λb=>(b,x.2)
noncomputable def qW:PV->Option Bool
 |.non=>!M
 |.bl b=>!b
 |ZI i=>!(i != 0)
 |ZH x=>if -x<=100000 then !((-x:Int) != 0) else J
 |ZB ps=>!(not ps.isEmpty)
 |R ps=>!(not ps.isEmpty)
 |.dk ks ps=>!(not ps.isEmpty)
 |_=>J
def OA(r:aT K #[H,g] p v)(h:qW p=!b):Wn K v H b:=by
 cases p with
 |non=>have:=jL r;subst this;cases h;show O
 |bl c=>have:=ji r;subst this;cases h;show O
 |int i=>have:=cF r;subst this;cases h;show O
 |str x=>
  have:=dN r;subst this;have h:(if -x<=100000 then !((-x:Int) != 0) else J)=!b:=h;split at h
  . rename_i F;cases h;show#[dQ F,O]
  . cases h
 |tup ps=>
  let(a,j,rfl,h1,h2):=r;cases h;show YY (Zl #[j,h1,?_]);have:=-h2;grind
 |lst ps=>
  let(a,j,rfl,h1,h2):=r;cases h;show Zl #[j,h1,?_];have:=-h2;grind
 |dk ks ps=>
  let(a,q,rfl,h1,W,h2):=r;cases h;show YY (YY #[q,h1,?_]);have:=-h2;grind
 |_=>cases h
def Qw(h:tT f tr Y=!(b,Y')):∃x,f Y=!(x,Y')/\tr x.pv=!b:=by
 unfold tT at h;cases h1:f Y with
 |none=>grind
 |some x=>
  cases h2:tr x.1.pv with
  |none=>grind
  |some y=>grind
def Fo(z:PE X a (tP X.K f))(he:∀i,isTrue a X.env i=(do let v <-i;standAt a.pos;holding [v] (truthy v))):PT X a (jw X.K (tT f qW)):=PT.imp (Wo z he) λU H Q q=>by let(H0,Z0,Y,pd,b,Y',s,D,k):=q;let(x,h1,h2):=Qw D;show#[H0,Z0,Y,pd,x,Y',s,h1,λv H1 j=>#[b,OA j.freeze.repH.choose_spec h2,k H1 j.pop]]
def aY:PV->Option Bool
 |.bl b=>!b
 |_=>J
def OB(j:PT X a (YT (tP X.K f))):PT X a (jw X.K (tT f aY)):=PT.imp j λU H Q q=>by
 let(H0,Z0,Y,pd,b,Y',s,z,k):=q;let(x,h1,h2):=Qw z;show#[H0,Z0,Y,pd,x,Y',s,h1,λv H1 i=>#[b,?_,k H1 i.pop]];let(_,r):=i.freeze.repH;cases e:x.pv with
 |bl c=>rw[e]at h2 r;cases h2;show ji r
 |_=>rw[e]at h2;cases h2
def bN(j:ju X (compareOp op) r)(hs:pA X.K r g)(i:PE X a (tP X.K fa))(z:PE X b (tP X.K fb))(D:behindInMarks op b=M):PT X (.Compare a [op] [b] pos) (jw X.K (tT (au g fa fb) aY)):=
 OB (PT.imp (ZM j i z D) λU H Q q=>LC hs U H _ q)
def eE(f g:TF):TF:=λY=>(f Y).bind λx=>if x.1=G then g x.2 else !(M,x.2)
def tO(f g:TF):TF:=λY=>(f Y).bind λx=>if x.1=G then !(G,x.2) else g x.2
noncomputable def Br (f:TF):TF:=λY=>(f Y).map λx=>(not x.1,x.2)
def OC:∀U H Q,jw X.K (eE f g) U H Q->wo (jw X.K f) (jw X.K g) U H Q:=λU H Q q=>by
 let(H0,Z0,Y,pd,b,Y',s,h,k):=q;unfold eE at h;cases h1:f Y with
 |none=>grind
 |some x=>
  rw[h1,bq]at h;show#[H0,Z0,Y,pd,x.1,x.2,s,h1,λH1 i=>?_];dsimp only;split
  . rename_i c;rw[aw c]at h;show#[H0,Z0,x.2,pd,b,Y',i,h,k]
  . grind
def OE:∀U H Q,jw X.K (tO f g) U H Q->wq (jw X.K f) (jw X.K g) U H Q:=λU H Q q=>by
 let(H0,Z0,Y,pd,b,Y',s,h,k):=q;unfold tO at h;cases h1:f Y with
 |none=>grind
 |some x=>
  rw[h1,bq]at h;show#[H0,Z0,Y,pd,x.1,x.2,s,h1,λH1 i=>?_];dsimp only;split
  . grind
  . rename_i c;rw[ay c]at h;show#[H0,Z0,x.2,pd,b,Y',i,h,k]
def mX(i:PT X a (jw X.K f)):PW X (.BoolOp .And [a] pos) (jw X.K f):=ZF i
def Fp(i:PT X a (jw X.K f)):PW X (.BoolOp .Or [a] pos) (jw X.K f):=FY i
def pO{ax:List Expr}(i:PT X a (jw X.K f))(j:PW X (.BoolOp .And (b::ax) pos) (jw X.K g)):PW X (.BoolOp .And (a::b::ax) pos) (jw X.K (eE f g)):=PW.imp (F1 i j) OC
def Ke{ax:List Expr}(i:PT X a (jw X.K f))(j:PW X (.BoolOp .Or (b::ax) pos) (jw X.K g)):PW X (.BoolOp .Or (a::b::ax) pos) (jw X.K (tO f g)):=PW.imp (F2 i j) OE
def OG(i:PT X a (jw X.K f)):PT X (.UnaryOp .Not a pos) (jw X.K (Br f)):=PT.imp (F3 i) λU H Q q=>by
 let(H0,Z0,Y,pd,b,Y',s,h,k):=q;unfold Br at h;cases h1:f Y with
 |none=>grind
 |some x=>
  rw[h1]at h;cases h;show#[H0,Z0,Y,pd,x.1,x.2,s,h1,λH1 j=>k H1 j]
def Ma(f g:EF):EF:=λY=>(f Y).bind λx=>match x.1.pv with
 |.bl G=>g x.2
 |.bl M=>!(Zp (.bl M),x.2)
 |_=>J
def OH{op}(h:PE X a (tP X.K f)):PE X (.BoolOp op [a] pos) (tP X.K f):=F5 h
def OK{ax:List Expr}(j:PE X a (tP X.K f))(z:PE X (.BoolOp .And (b::ax) pos) (tP X.K g)):PE X (.BoolOp .And (a::b::ax) pos) (tP X.K (Ma f g)):=PE.imp (F6 j z) λU H Q q=>by
 let(H0,Z0,Y,pd,b,Y',s,h,k):=q;unfold Ma at h;cases h1:f Y with
 |none=>grind
 |some x=>
  rw[h1,bq]at h;show#[H0,Z0,Y,pd,x.1,x.2,s,h1,λv H1 i=>?_];let(_,r):=i.freeze.repH;split at h
  . rename_i e;rw[e]at r;show#[G,ji r,?_];show#[H0,Z0,x.2,pd,b,Y',i.pop,h,k]
  . rename_i e;rw[e]at r;show#[M,ji r,?_];cases h;show k _ H1 (i.pop.scal mq)
  . cases h
def Zb(c:TF)(f g:EF):EF:=λY=>(c Y).bind λx=>if x.1=G then f x.2 else g x.2
def OL(D:PT X c (jw X.K fc))(j:PE X a (tP X.K f))(z:PE X b (tP X.K g)):PE X (.IfExp c a b pos) (tP X.K (Zb fc f g)):=PE.imp (Wg D j z) λU H Q q=>by
 let(H0,Z0,Y,pd,b,Y',s,h,k):=q;unfold Zb at h;cases h1:fc Y with
 |none=>grind
 |some x=>
  rw[h1,bq]at h;show#[H0,Z0,Y,pd,x.1,x.2,s,h1,λH1 i=>?_];dsimp only;split
  . rename_i c;rw[aw c]at h;show#[H0,Z0,x.2,pd,b,Y',i,h,k]
  . rename_i c;rw[ay c]at h;show#[H0,Z0,x.2,pd,b,Y',i,h,k]
def bR:SF:=λY=>!(.nx Y)
def aF(f g:SF):SF:=λY=>(f Y).bind λx=>match x with
 |.nx Y'=>g Y'
 |y=>!y
def bH:jP X [] (iw X.K bR):=jP.imp ZJ λD U H q=>by let(H0,Z0,Y,pd,fl,s,h,k):=q;cases h;show k U H s
def az{st:Stmt}{ax:List Stmt}(h1:PS X st (iw X.K f))(h2:jP X ax (iw X.K g)):jP X (st::ax) (iw X.K (aF f g)):=jP.imp (Wh h1 h2) λD U H q=>by
 let(H0,Z0,Y,pd,fl,s,h,k):=q;unfold aF at h;cases e:f Y with
 |none=>rw[e]at h;cases h
 |some x=>
  rw[e,bq]at h;show#[H0,Z0,Y,pd,x,s,e,?_];cases x with
  |nx Y'=>show λU' H' s'=>#[H0,Z0,Y',pd,fl,s',h,k]
  |rt r Y'=>cases h;show k
  |bk Y'=>cases h;show k
  |ct Y'=>cases h;show k
def aD{st:Stmt}(h1:PS X st (iw X.K f)):jP X [st] (iw X.K f):=ZK h1
def rW(f:EF):SF:=λY=>(f Y).map λx=>.nx x.2
def cp{α β:Type}{o:Option α}{f:α->β}{b:β}(h:o.map f=!b):∃a,o=!a/\f a=b:=by
 cases o with
 |none=>cases h
 |some a=>grind
def ba{α β:Type}{o:Option α}{f:α->Option β}{b:β}(h:o.bind f=!b):∃a,o=!a/\f a=!b:=by
 cases o with
 |none=>cases h
 |some a=>grind
def G5(he:PE X e (tP X.K f))(hs:swapsWith e J pos.line X.env=pure M:=by rfl):PS X (.Expr e pos) (iw X.K (rW f)):=PS.imp (qK he hs) λD U H q=>by let(H0,Z0,Y,pd,fl,s,h,k):=q;let(x,h1,rfl):=cp h;show#[H0,Z0,Y,pd,x.1,x.2,s,h1,λv H' s'=>k U H' s'.pop]
def cI(f:EF):SF:=λY=>(f Y).map λx=>.rt x.1 x.2
def bK(he:PE X e (tP X.K f)):PS X (.Return (!e) pos) (iw X.K (cI f)):=PS.imp (Tz he) λD U H q=>by let(H0,Z0,Y,pd,fl,s,h,k):=q;let(x,h1,rfl):=cp h;show#[H0,Z0,Y,pd,x.1,x.2,s,h1,λv H' s'=>k v U H' s']
def gZ(i:Nat):SF:=λY=>match Y.vs[i]? with
 |some (!l)=>!(.rt l (Y.set i J))
 |_=>J
def gh(he:PE X e (uH i)):PS X (.Return (!e) pos) (iw X.K (gZ i)):=PS.imp (Tz he) λD U H q=>by
 let(H0,Z0,Y,pd,fl,s,h,k):=q;unfold gZ at h;split at h
 . rename_i l j;cases h;let(v,h1,h2):=s.take j;show#[v,h1,k v U H h2]
 . cases h
def cC(c:TF)(f g:SF):SF:=λY=>(c Y).bind λx=>if x.1=G then f x.2 else g x.2
def b8(F:PT X c (jw X.K fc))(j:jP X a (iw X.K f))(z:jP X b (iw X.K g)):PS X (.If c a b pos) (iw X.K (cC fc f g)):=PS.imp (GA F j z) λD U H q=>by
 let(H0,Z0,Y,pd,fl,s,h,k):=q;let(x,h1,h2):=ba h;show#[H0,Z0,Y,pd,x.1,x.2,s,h1,λH1 i=>?_];dsimp only;split
 . rename_i c;rw[aw c]at h2;show#[H0,Z0,x.2,pd,fl,i,h2,k]
 . rename_i c;rw[ay c]at h2;show#[H0,Z0,x.2,pd,fl,i,h2,k]
def aL(i:Nat)(f:EF):SF:=λY=>(f Y).bind λx=>if i< -x.2.vs then !(.nx (x.2.set i (!x.1))) else J
def Qx{t:TS}(h:∀D U H,(tP X.K f U H λv H1=>D.nx (U.set i (!v)) H1)->t D U H):∀D U H,iw X.K (aL i f) D U H->t D U H:=λD U H q=>by
 let(H0,Z0,Y,pd,fl,s,h',k):=q;let(x,h1,h2):=ba h';split at h2
 . rename_i z;cases h2;show h D U H #[H0,Z0,Y,pd,x.1,x.2,s,h1,λv H1 j=>k _ _ (j.store z)]
 . cases h2
def wI{pos pos':Pos}(z:X.N.Nodup)(hi:X.N[i]?=!x)(F:L2.Loc X.env.scope x)(he:PE X e (tP X.K f))(hs:swapsWith e (!(.Name x pos')) pos.line X.env=pure M:=by rfl)(j:X.fn x=G\/X.env.scope.names.lookup x=!.local:=by first |show Zl O |show YY O |assumption):
 PS X (.Assign [.Name x pos'] e pos) (iw X.K (aL i f)):=PS.imp (GN z hi F he hs j) (Qx λD U H q=>q)
abbrev GF:=List PV->Mu->Option (Lc×Mu)
def my(H:Hp)(g:List Addr):Hp:=λb=>if b∈g then J else H b
def OM(h:my H g b=!o):H b=!o/\b∉g:=by
 unfold my at h;split at h
 . cases h
 . grind
def Xl(h:b∈g):my H g b=J:=by unfold my;grind
def Mf(h:b∉g):my H g b=H b:=by unfold my;grind
def Ap(K:FG)(H:Hp)(Z:ZG)(g:List Addr)(H':Hp)(f6:Mu)(v:V)(r:Lc):Prop:=∃Z',-f6=-Z'.g/\jQ (my H g) Z Z' H'/\ah K (my H g) Z' H' ((!v,!r)::cel Z'.g f6)
def bW(K:FG)(n:Nat)(g:GF):Sp:=λvs H Q _=>∃(Z:ZG)(ps:List PV)(mu:Mu)(r:Lc)(f6:Mu),-vs=n/\-mu=-Z.g/\eY_ Z.z H/\aK K Z ps vs/\ah K (my H (uP Z.g mu)) Z H (cel Z.g mu)/\g ps mu=!(r,f6)/\∀v H',Ap K H Z (uP Z.g mu) H' f6 v r->Q v H'
def aN(g:GF)(a:AF):EF:=λY=>(a Y).bind λy=>(g (y.1.map Lc.pv) y.2.mu).map λr=>(r.1,#[y.2.vs,r.2])
def ON(he:e∈cel g mu):∃a,e.1=!(.ref a)/\(e.2=J\/∃p,e.2=!(Zs p)):=by
 let(h1,h2):=iP he;let(a,_,i):=ck.mp h1;let(o,_,j):=ck.mp h2;show#[a,i.symm,?_];cases o with
 |none=>grind
 |some p=>grind
def ah.cells(Q:-Y.mu=-Z.g)(s:ah K H0 Z H (sl Z.g U Y pd)):ah K (my H (uP Z.g Y.mu)) Z H (cel Z.g Y.mu):=by
 let z:=s.sub (gL _ _);show#[λe q=>?_,z.2];let(a,h1,h2):=ON q;let(v,l):=e;let j:=h1;subst j;obtain h2|⟨p,h2⟩:=h2
 . let i:=h2;subst i;trivial
 . let i:=h2;subst i;let(b,N,D,F,W):=z.1 _ q;cases N;show#[a,O,D,F,Xl (hY.mpr #[_,q,O])]
def SR.called(el:-U=-Y.vs)(hg:-Y.mu=-Z.g)(z:jQ H0 Z0 Z H)(s:ah K H0 Z H (sl Z.g U Y pd))(h:Ap K H Z (uP Z.g Y.mu) H' j v r):SR K H0 Z0 U H' #[Y.vs,j] ((v,r)::pd):=by
 let(Z',sN,F,q):=h;let s0:=s.sub (kF _ _);have nd:(uP Z.g Y.mu++(U.zip Y.vs++pd.map λe=>(!e.1,!e.2)).filterMap mj).Nodup:=by have:=s.2;unfold sl at this;rw[List.filterMap_append]at this;show this
 have OO:∀a∈uP Z.g Y.mu,H0 a=J:=λa D=>by let(e,i,hb):=hY.mp D;show(jn (s.sub (gL _ _)) i hb).2.1
 have h0:eY_ H0 (my H (uP Z.g Y.mu)):=λb o e=>by rw[Mf λhm=>by rw[OO b hm]at e;cases e];show z.h0 b o e
 have z2:jQ H0 Z0 Z' H':=#[F.zh,h0.trans F.h0,z.z0.trans F.z0,λb o e=>by
  obtain e|e|e:=F.new b o e
  . show z.new b o e
  . show YY (Zl (h0.free e))
  . show YY (YY e)]
 have As:∀e∈(U.zip Y.vs++pd.map λe=>((some e.1:Option V),(some e.2:Option Lc))),∀a,mj e=!a->a∉uP Z.g Y.mu/\my H (uP Z.g Y.mu) a=H a:=λe i a D=>by let hn:=λhm=>(ny.mp nd).2.2 a hm a (hY.mpr #[e,i,D]) O;show#[hn,Mf hn]
 have hk:∀e∈(U.zip Y.vs++pd.map λe=>((some e.1:Option V),(some e.2:Option Lc))),∀a,mj e=!a->H' a=H a/\Z'.z a=J:=λe i a D=>by
  let(h1,h2,o,W,h4):=jn s0 i D;let(hn,ho):=As e i a D;let h5:=F.h0 a o ();show#[by rw[W];show h5,?_];cases q:Z'.z a with
  |none=>rfl
  |some u=>
   obtain e|e|e:=F.new a u q
   . grind
   . grind
   . have:=F.zh a u q;grind
 let s2:=s0.step F.z0 hk;have q':ah K H0 Z' H' ((!v,!r)::cel Z'.g j):=by
  show#[λe i=>?_,q.2];have:=q.1 e i;let(w,l):=e;cases l with
  |none=>trivial
  |some l=>
   cases l with
   |sh p=>show this
   |own p=>let(a,e1,e2,e3,e4):=this;show#[a,e1,e2,e3,h0.free e4]
 have OP:∀e∈((!v,!r)::cel Z'.g j),∀a,mj e=!a->∀e'∈(U.zip Y.vs++pd.map λe=>((some e.1:Option V),(some e.2:Option Lc))),mj e'≠!a:=λe i a D e' N Q=>by let(_,h2,_):=jn q i D;let(_,_,o,W,_):=jn s0 N Q;rw[(As e' N a Q).2,W]at h2;cases h2
 show .mk el sN z2 ?_;show#[λe i=>?_,?_]
 . obtain rfl|i:=a_.mp i
   . show q'.1 _ be
   . obtain i|i:=cr.mp i
     . show q'.1 _ (cw _ i)
     . show s2.1 e i
 . show (((!v,!r)::(cel Z'.g j++(U.zip Y.vs++pd.map λe=>(!e.1,!e.2)))).filterMap mj).Nodup;rw[<-js,List.filterMap_append];show ny.mpr #[q'.2,s2.2,λa D b hb e=>?_];subst e;let(e1,OQ,h1):=hY.mp D;let(e2,sP,h2):=hY.mp hb;show OP e1 OQ a h1 e2 sP h2
def Xm:∀U H Q,(∃H0 Z0 Y pd r Y',SR X.K H0 Z0 U H Y pd/\aN g a Y=!(r,Y')/\(∀ls Y1,a Y=!(ls,Y1)->-ls=n)/\∀v H',SR X.K H0 Z0 U H' Y' ((v,r)::pd)->Q v H')->YW (bW X.K n g) [] E (jR X.K a) U H Q:=λU H Q q=>by
 let(H0,Z0,Y,pd,r,Y',s,h,hn,k):=q;let(y,h1,h2):=ba h;let(r',F,h4):=cp h2;cases h4;show#[H0,Z0,Y,pd,y.1,y.2,s,h1,λvs H2 D W=>?_];let(N,Z,j,z,rl,i):=W.repl D;show#[Z,y.1.map Lc.pv,y.2.mu,_,_,?_,j,z.zh,?_,i.cells j,F,λv H' rr=>k v H' (SR.called N j z i rr)]
 . rw[da,D];show hn _ _ h1
 . grind
end
section
variable {P:Program}{w:World}{K:FG}{mg:Str->Option Value}{base:Heap}
def cL(K:FG)(mg:Str->Option Value)(x:Str)(st:Stmt)(ps:List Str):Prop:=∃f fd,vD K x x st f fd/\mg x=!(YV f)/\c0 K fd ps []
def Mg(b:Bool)(P:Program)(w:World)(K:FG)(mg:Str->Option Value)(base:Heap)(x:Str)(k:Nat)(ps:List Str)(sp:Sp):Prop:=∃f fd,t6 b P w K mg base qD k f fd ps sp/\mg x=!(YV f)/\W.keepIn K (YV f)=G/\c0 K fd ps []
abbrev bI:=Mg G
noncomputable def env0 (n:Nat) (ps:List PV) (mu:Mu):Ev:=#[ps.map (λp=>!(Lc.sh p))++List.replicate (n-(-ps)) J,mu]
def cY(n:Nat)(g:SF):GF:=λps mu=>(g (env0 n ps mu)).bind λx=>match x with
 |.rt r Y=>!(r,Y.mu)
 |.nx Y=>!(Zp .non,Y.mu)
 |_=>J
theorem Qy(s:ah K H0 Z H L):∀{ps:List PV}{vs:List V},aK K Z ps vs->ah K H0 Z H ((vs.map some).zip (ps.map λp=>!(Lc.sh p))++L)
 |[],vs=>λh=>by have:=h.inv0;subst this;simpa using s
 |p::ps,vs=>λh=>by let(v,r,rfl,h1,h2):=h.inv;show(Qy s h2).consS h1
theorem nones(s:ah K H0 Z H L):∀n:Nat,ah K H0 Z H ((List.replicate n (J:Option V)).zip (replicate n (J:Option Lc))++L)
 |0=>s
 |n+1=>by
  let j:=nones s n;show#[λe i=>?_,?_]
  . obtain rfl|i:=a_.mp i
    . trivial
    . show j.1 e i
  .  show j.2
def Ds(j:-mu=-Z.g)(z:eY_ Z.z H)(r:aK K Z ps vs)(c:ah K (my H (uP Z.g mu)) Z H (cel Z.g mu)):SR K (my H (uP Z.g mu)) Z (L2.start N vs) H (env0 (-N) ps mu) []:=by let i:=-r;show#[by simp[L2.start,env0,i],Z,j,#[z,λb o e=>(OM e).1,iu.refl _,λb o e=>Zl e],?_];unfold sl L2.start env0;rw[jS ∅,j1,da,i];show(Qy (nones c _) r).perm ((h_).trans (by rw[cx]))
theorem cL.ok{st:Stmt}(F:cL K mg x st ps)(S:bz N ps (aG st))
 (h:∀(f:Addr)(j:Value)(A:Around)(i:List PySem.Env)(s:Shared)(H:Hp)(E:XK),gn b k (A.deeper (envOfC x (aG st) s.heap.objs.size f j))->
   ∃g':SF,(∀a mu,g a mu=cY (-N) g' a mu)/\jP (vC b qD P w K mg base N x (aG st) f j A i s H E).nox (jC st) (iw K g')):Mg b P w K mg base x (k+1) ps (bW K (-ps) g):=by
 let(f,fd,F,hm,hb):=F;show#[f,fd,F.ok S (λvs H Q E q=>?_) (λj A i s H vs Q E hr q=>?_),hm,F.kp,hb]
 . let(Z,qs,mu,r,f6,e,_):=q;show e
 . let(g',eg,b):=h f j A i s H E hr;let(Z,qs,mu,r,f6,e,hg,z,rl,c,i8,kk):=q;rw[eg]at i8;let(fl,h1,h2):=ba i8;show#[_,b,my H (uP Z.g mu),Z,_,[],fl,Ds hg z rl c,h1,?_];cases fl with
   |rt r' Y'=>
    cases h2;intro v U' H' s';let(el,Z',D,z',W):=s'.top;show kk v H' #[Z',D,z',W.sub ?_];show(gL _ _).cons_cons _
   |nx Y'=>
    cases h2;intro U' H' s';let(el,Z',D,z',W):=s';show kk .non H' #[Z',D,z',(W.sub (gL _ _)).consS (Bq _)]
   |bk Y'=>cases h2
   |ct Y'=>cases h2
end
section
variable {X:Cx}
def bL{p pos:Pos}(D:Mg b X.prog X.w X.K X.mg X.base x k ps (bW X.K (-ps) g))(hr:gn b k X.A)(N:Gl X x)
 (z:PA X (e::es) (jR X.K a)) (hn:∀Y ls Y1,a Y=!(ls,Y1)->-ls=-ps) (i:(x==("__debug__" : Str))=M:=by decide) (he:starEach (e::es) X.env=(M,eval e X.env)::starEach es X.env:=by rfl) (j:(backTo pos (starEach es X.env)).any (·.1)=M:=by rfl):PE X (.Call (.Name x p) (e::es) [] pos) (tP X.K (aN g a)):=by
 let(f,fd,F,W,hk,hb):=D;show PE.imp (ZS F hr N W hk hb .nil J6 z i he j) λU H Q q=>?_;let(H0,Z0,Y,pd,r,Y',s,h,kk):=q;show Xm U H Q #[H0,Z0,Y,pd,r,Y',s,h,λls Y1 e=>hn Y ls Y1 e,kk]
section
variable {K:FG}{H0 H H':Hp}{Z0 Z:ZG}{U:L2.St}{Y:Ev}{pd fT:Pd}{v w:V}{l:Lc}{p:PV}
theorem SR.sub(h:SR K H0 Z0 U H Y fT)(q:Sublist pd fT):SR K H0 Z0 U H Y pd:=
 let #[e,Z,hg,z,s]:=h
 #[e,Z,hg,z,s.sub ((lP _).append ((lP _).append (q.map _)))]
def SR.part(h:SR K H0 Z0 U H Y ((v,Zp p)::pd))(k:∀Z:ZG,eY_ Z.z H->aT K Z p v->aT K Z q u):SR K H0 Z0 U H Y ((u,Zp q)::(v,Zp p)::pd):=by let(e,Z,i,z,s):=h.top;let(x,D,j):=s.1 _ be;cases D;show .mk e i z ((s.perm dD).consS (k Z z.zh j))
end
abbrev BF:=PV->Ev->Option Ev
def GS(K:FG)(g:TG)(b:BF):Prop:=∀H0 Z0 U H Y pd v p Y' Q,SR K H0 Z0 U H Y ((v,Zp p)::pd)->b p Y=!Y'->(∀U',SR K H0 Z0 U' H Y' pd->Q U' H)->g v U H Q
abbrev Mh:=List PV->Ev->Option Ev
def Zc(K:FG)(g:yU)(b:Mh):Prop:=∀H0 Z0 U H Y pd vs ps Y' Q,-vs=-ps->SR K H0 Z0 U H Y (vs.zip (ps.map Lc.sh)++pd)->b ps Y=!Y'->(∀U',SR K H0 Z0 U' H Y' pd->Q U' H)->g vs U H Q
def aC(i:Nat):BF:=λp Y=>if i< -Y.vs then !(Y.set i (!(Zp p))) else J
def aM:GS K (J4 i) (aC i):=by
 intro H0 Z0 U H Y pd v p Y' Q s h k;unfold aC at h;split at h
 . rename_i j;cases h;show k _ (s.store j)
 . cases h
def fu:Mh:=λps Y=>match ps with
 |[]=>!Y
 |_=>J
def aW(b:BF)(bs:Mh):Mh:=λps Y=>match ps with
 |p::r=>(b p Y).bind λY1=>bs r Y1
 |[]=>J
def iU:Zc K wt fu:=by
 intro H0 Z0 U H Y pd i ps Y' Q e s h k;cases ps with
 |nil=>
  cases h;have:i=[]:=we ();subst this;show#[O,k U s]
 |cons p r=>cases h
def bV(h1:GS K t b)(h2:Zc K u bs):Zc K (YJ t u) (aW b bs):=by
 intro H0 Z0 U H Y pd i ps Y' Q e s h k;cases ps with
 |nil=>cases h
 |cons p r=>
  cases i with
  |nil=>grind
  |cons v ws=>
   let(Y1,j,q):=ba h;show#[v,ws,O,h1 H0 Z0 U H Y _ v p Y1 _ s j λz s'=>?_];show h2 H0 Z0 z H Y1 pd ws r Y' Q ∅ s' q k
theorem U9(s:ah K H0 Z H L):∀{ps:List PV}{vs:List V},aK K Z ps vs->ah K H0 Z H ((vs.zip (ps.map Lc.sh)).map (λe=>(!e.1,!e.2))++L)
 |[],vs=>λh=>by have:=h.inv0;subst this;simpa using s
 |p::ps,vs=>λh=>by let(v,r,rfl,h1,h2):=h.inv;show(U9 s h2).consS h1
def SR.items(e:-U=-Y.vs)(i:-Y.mu=-Z.g)(z:jQ H0 Z0 Z H)(r:aK K Z ps vs)(s:ah K H0 Z H (sl Z.g U Y pd)):SR K H0 Z0 U H Y (vs.zip (ps.map Lc.sh)++pd):=
 #[e,Z,i,z,(U9 s r).perm U8]
def Xn(f:EF)(b:BF):SF:=λY=>(f Y).bind λx=>(b x.1.pv x.2).map Fl.nx
def OS{pos:Pos}(he:PE X e (tP X.K f))(F:PG X tg g)(N:GS X.K g b)(hs:swapsWithSole [tg] e pos.line X.env=pure M:=by rfl)(i:swappedStores [tg] e X.env=pure J:=by rfl)
 (h1:(assignEach [tg] X.env).map (·.2)=[assign tg X.env]:=by rfl):PS X (.Assign [tg] e pos) (iw X.K (Xn f b)):=PS.imp (KH he F hs i h1) λD U H q=>by
 let(H0,Z0,Y,pd,fl,s,h,k):=q;let(x,h1,h2):=ba h;let(Y',j,rfl):=cp h2;show#[H0,Z0,Y,pd,x.1,x.2,s,h1,λv H1 z=>N H0 Z0 U H1 x.2 pd v _ Y' D.nx z.freeze j λQ s'=>k Q H1 s']
def qX(K:FG)(H0:Hp)(Z0:ZG)(pd:Pd)(ZU:It)(xs:List PV):Prop:=∀U H Y (i:Nat),SR K H0 Z0 U H Y pd->
 (∀x,xs[i]?=!x->ZU.go i H/\∀v H',ZU.yld i H v H'->SR K H0 Z0 U H' Y ((v,Zp x)::pd))/\(i=-xs->ZU.stop i H)
abbrev IF:=Ev->Option (List PV×Ev)
def Iz(K:FG)(f:IF):TI:=λU H ZN=>∃H0 Z0 Y pd xs Y',SR K H0 Z0 U H Y pd/\f Y=!(xs,Y')/\∀ZU H' fT,SR K H0 Z0 U H' Y' fT->qX K H0 Z0 fT ZU xs->Sublist pd fT->ZN ZU H'
def PI.imp(h:PI X tg iter t)(i:∀U H ZN,t' U H ZN->t U H ZN):PI X tg iter t':=λae s U H R I q=>h ae s U H R I (i U H R q)
def dh(f:EF)(g:PV->Option (List PV)):IF:=λY=>(f Y).bind λx=>(g x.1.pv).map λxs=>(xs,x.2)
def Va:qX K H0 Z0 ((.ref a,Zp (R ps))::pd) (YK K a) ps:=by intro U H Y i s;let(Z,z,r):=s.rep;let(b,W,e,h1,h2):=r;cases e;let hq:=bY.same z h1;show#[λx hx=>?_,λhl=>#[W,hq,by rw[h2.length];lia]];let(v,hv,rv):=h2.get hx;show#[#[W,v,hq,hv],λv' H' y=>?_];let(N,y):=y;subst N;have:=y W hq;rw[hv]at this;cases this;show s.part λZ' z' r'=>?_;let(b',j,N,D,F):=r';cases N;have:j[i]?=!v:=y j (bY.same z' D);let(p',q,Q):=F.getV this;grind
def Xo:qX K H0 Z0 ((.ref a,Zp (ZB ps))::pd) (YL K a) ps:=by intro U H Y i s;let(Z,z,r):=s.rep;let(b,W,e,h1,h2):=r;cases e;let hq:=cW.same z h1;show#[λx hx=>?_,λhl=>#[W,hq,by rw[h2.length];lia]];let(v,hv,rv):=h2.get hx;show#[#[W,v,hq,hv],λv' H' y=>?_];let(N,y):=y;subst N;have:=y W hq;rw[hv]at this;cases this;show s.part λZ' z' r'=>?_;let(b',j,N,D,F):=r';cases N;have:j[i]?=!v:=y j (cW.same z' D);let(p',q,Q):=F.getV this;grind
def jo(lo:Int)(n:Nat):List PV:=(List.range n).map λi=>ZI (lo+(i:Nat))
def iK(a:AF):IF:=λY=>(a Y).bind λy=>match y.1.map Lc.pv with
 |[ZI j]=>if (Neg.neg (2 ^ 62))<=j/\j<2 ^ 62 then !(jo 0 j.toNat,y.2) else J
 |_=>J
def Xp{lo:Int}:qX K H0 Z0 pd (YM lo n) (jo lo n):=by
 intro U H Y i s;show#[λx j=>?_,λq=>?_]
 . have hi:i<n:=by have:=(c9.mp j).1;simpa [jo] using this
   show#[hi,λv H' y=>?_];let(rfl,rfl):=y;unfold jo at j;rw[c5,getElem?_range hi]at j;cases j;show s.scal gF
 . show n<=i;simp[jo]at q;lia
def SR.ints{vs:List V}{ls:List Lc}{ns:List Int}(s:SR K H0 Z0 U H Y (vs.zip ls++pd))(e:-vs=-ls)(h:ls.map Lc.pv=ns.map PV.int):vs=ns.map V.int/\SR K H0 Z0 U H Y pd:=by
 let(j,Z,q,z,r,i):=s.repl e;show#[?_,j,Z,q,z,i];rw[h]at r;clear h e s i;induction ns generalizing vs with
 |nil=>show r.inv0
 |cons n ns D=>
  let(v,w,rfl,h1,h2):=r.inv;rw[cF h1,D h2];rfl
def mz(D:Gl X "range")(W:X.mg "range"=J)(z:PA X [a] (jR X.K f))(hs:starEach [a] X.env=[(M,eval a X.env)]:=by rfl):PI X tg (.Call (.Name "range" p) [a] [] pos) (Iz X.K (iK f)):=PI.imp (TX D W z hs) λU H ZN q=>by
 let(H0,Z0,Y,pd,xs,Y',s,h,k):=q;let(y,h1,h2):=ba h;show#[H0,Z0,Y,pd,y.1,y.2,s,h1,λvs H1 N Q=>?_];split at h2
 . rename_i j e;split at h2
   . rename_i i;cases h2;let(rfl,F):=Q.ints (ns:=[j]) N e;show#[j,O,i.1,i.2,k _ _ _ F Xp (lP _)]
   . cases h2
 . cases h2
noncomputable def eN (b:BF) (body:SF):List PV->SF
 |[],Y=>!(.nx Y)
 |x::xs,Y=>(b x Y).bind λY1=>(body Y1).bind λfl=>match fl with
  |.nx Y'=>eN b body xs Y'
  |.ct Y'=>eN b body xs Y'
  |.bk Y'=>!(.nx Y')
  |.rt r Y'=>!(.rt r Y')
def fX(f:IF)(b:BF)(body:SF):SF:=λY=>(f Y).bind λy=>eN b body y.1 y.2
def ym{P:Prop}(h:∀G:Prop,(P->G)->G):P:=h P id
def FW(K:FG)(H0:Hp)(Z0:ZG)(pd:Pd)(b:BF)(fb:SF)(xs:List PV)(fl:Fl)(i m:Nat)(U:L2.St)(H:Hp):Prop:=m=-xs-i/\i<=-xs/\∃Y,SR K H0 Z0 U H Y pd/\eN b fb (xs.drop i) Y=!fl
def Xq(hb:GS K g b)(it:qX K H0 Z0 pd ZU xs)(k:Lz K H0 Z0 pd D fl)(s:SR K H0 Z0 U H Y pd)(h:eN b fb xs Y=!fl):
 ∃W:Nat->Nat->L2.St->Hp->Prop,(∃m,W 0 m U H)/\∀i m U H,W i m U H->
  (ZU.stop i H/\D.nx U H)\/(ZU.go i H/\∃N:L2.St->Hp->Prop,(∀q H',N q H'->∃m',m'<m/\W (i+1) m' q H')/\∀x H',ZU.yld i H x H'->g x U H' λU2 H2=>iw K fb { D with nx:=N,ct:=N,bk:=D.nx } U2 H2):=by
 show#[FW K H0 Z0 pd b fb xs fl,#[_,O,d6 _,Y,s,h],λi m q H' w=>?_];show ym λZT kG=>?_;let(rfl,hi,Y',s',h'):=w;let(i1,i2):=it q H' Y' i s';by_cases j:i< -xs
 . let(go,yl):=i1 _ (ed j);rw[kD j]at h';let(Y1,e1,e2):=ba h';let(F,e3,e4):=ba e2;show kG (YY #[go,λz Q=>FW K H0 Z0 pd b fb xs fl (i+1) (-xs-(i+1)) z Q,λz Q w=>#[_,(),w],λx H2 hy=>hb H0 Z0 q H2 Y' pd x _ Y1 _ (yl x H2 hy) e1 λU2 s2=>#[H0,Z0,Y1,pd,F,s2,e3,?_]]);cases F with
   |nx Y2=>show λVw H3 s3=>#[O,j,Y2,s3,e4]
   |ct Y2=>show λVw H3 s3=>#[O,j,Y2,s3,e4]
   |bk Y2=>cases e4;show k
   |rt r Y2=>cases e4;show k
 . let e:=Nat.le_antisymm hi ();subst e;rw[drop_length]at h';cases h';show kG (Zl #[i2 O,k q H' s'])
def Lz.imp(k:Lz K H0 Z0 pd D fl)(w:∀{τ:L2.St}{i:Hp}{q:Ev},SR K H0 Z₁ τ i q fT->SR K H0 Z0 τ i q pd)(j:∀{τ:L2.St}{i:Hp}{q:Ev}{e:V×Lc},SR K H0 Z₁ τ i q (e::fT)->SR K H0 Z0 τ i q (e::pd)):Lz K H0 Z₁ fT D fl:=by
 cases fl with
 |rt r Y=>show λv U H s=>k v U H (j s)
 |_=>show λU H s=>k U H (w s)
def fK(Q:PassesOwn (model X.prog X.w) X.A X.env X.xe)(hc:X.calm=G)(hi:PI X tg iter (Iz X.K f))(j:PG X tg g)(i:GS X.K g b)(W:jP X body (iw X.K fb))
 (hs:∀x,foldedSetIterable iter X.env x=pure x:=by intro _;rfl):PS X (.For tg iter body [] pos) (iw X.K (fX f b fb)):=PS.imp (GV Q hc hi j W hs) λD U H q=>by
 show ym λZT z=>?_;let(H0,Z0,Y,pd,fl,s,h,k):=q;let(y,h1,h2):=ba h;show z #[H0,Z0,Y,pd,y.1,y.2,s,h1,λZU H1 fT N F sub=>Xq i F (k.imp (λs=>s.sub sub) λs=>s.sub ∅) N h2]
end
section
variable {K:FG}{H0 H H':Hp}{Z0 Z:ZG}{U:L2.St}{Y:Ev}{pd pe:Pd}{v w:V}{l:Lc}{p:PV}{g:List Addr}
def Ev.app(Y:Ev)(pe:Pd):Ev:=#[Y.vs++pe.map (λx=>!x.2),Y.mu]
def Mi(e:-U=-Y.vs):sl g (U++pe.map λx=>!x.1) (Y.app pe) pd=sl g U Y (pe++pd):=by
 unfold sl Ev.app;rw[jS e,cy,cx];congr 3;induction pe with
 |nil=>rfl
 |cons a r i=>simp[i]
def SR.shift(h:SR K H0 Z0 U H Y (pe++pd)):SR K H0 Z0 (U++pe.map λx=>!x.1) H (Y.app pe) pd:=by let(e,Z,i,z,s):=h;show#[by simp[Ev.app,e],Z,i,z,?_];rw[Mi e];show s
def SR.unshift(e:-U=-Y.vs)(h:SR K H0 Z0 (U++pe.map λx=>!x.1) H (Y.app pe) pd):SR K H0 Z0 U H Y (pe++pd):=by let(_,Z,i,z,s):=h;show#[e,Z,i,z,?_];rw[Mi e]at s;show s
def qX.more(h:qX K H0 Z0 pd ZU xs):qX K H0 Z0 (pe++pd) ZU xs:=by intro U H Y i s;let(h1,h2):=h _ H _ i s.shift;show#[λx z=>?_,h2];let(g,y):=h1 x z;show#[g,λv H' q=>?_];let s':=y v H' q;let e:=s.1;let j:=s';show(SR.unshift e j).perm et.symm
def tQ(U:L2.St)(Y:Ev):Pd:=(U.zip Y.vs).filterMap λe=>match e with
 |(!v,!l)=>!(v,l)
 |_=>J
theorem yo:∀{L:Sl},(∀e∈L,e.2=J\/∃v l,e=(!v,!l))->∀{T:Sl},
 (ah K H0 Z H (L++T) ↔ ah K H0 Z H ((L.filterMap λe=>match e with |(!v,!l)=>some (v,l) |_=>J).map (λe=>((some e.1:Option V),(some e.2:Option Lc)))++T))
 |[],_,T=>by simp
 |(v,l)::L,h,T=>by
  let h':=λe D=>h e (cw _ D);obtain e|⟨j,q,e⟩:=h (v,l) be
  . let N:=e;subst N;have F:((v,(J:Option Lc))::L).filterMap (λe=>match e with |(!v,!l)=>some (v,l) |_=>J)=L.filterMap (λe=>match e with |(!v,!l)=>some (v,l) |_=>J):=by rw[gE];cases v<;>rfl
    rw[F,<-yo h'];have o1:mj (v,J)=J:=by
     cases v with
     |none=>rfl
     |some x=>cases x<;>rfl
    constructor
    . show λs=>s.sub (d5 _ _)
    . intro s;show#[λe D=>?_,?_]
      . obtain rfl|D:=a_.mp D
        . trivial
        . show s.1 e D
      . rw[js,gE o1];show s.2
  . cases e
    let z:=yo h' (T:=T++[(!j,!q)]);have i:∀A:Sl,Perm ((!j,!q)::(A++T)) (A++(T++[(!j,!q)])):=λA=>by rw[<-cx];show(perm_append_singleton _ _).symm
    constructor
    . intro s;show(z.mp (s.perm (i L).symm)).perm (i _)
    . intro s;show(z.mpr (s.perm (i _).symm)).perm (i L)
def SR.both(s:SR K H0 Z0 U H Y pd):∀e∈U.zip Y.vs,e.2=J\/∃v l,e=(!v,!l):=by
 let(_,Z,_,z,s):=s;intro e j;let q:=s.1 e (eT _ (ga _ j));let(v,l):=e;cases l with
 |none=>grind
 |some l=>
  cases l with
  |sh p=>let(x,i,_):=q;grind
  |own p=>let(x,i,_):=q;grind
def IK(j:∀e∈U.zip Y.vs,e.2=J\/∃v l,e=(!v,!l)):ah K H0 Z H (sl g U Y pd) ↔ ah K H0 Z H (cel g Y.mu++(tQ U Y++pd).map λe=>(!e.1,!e.2)):=by
 let h1:=yo (K:=K) (H0:=H0) (Z:=Z) (H:=H) j (T:=(pd.map λe=>(!e.1,!e.2))++cel g Y.mu);have c1:Perm (sl g U Y pd) (U.zip Y.vs++((pd.map λe=>(!e.1,!e.2))++cel g Y.mu)):=by unfold sl;rw[<-cx (U.zip Y.vs)];show h_
 have i:Perm (cel g Y.mu++(tQ U Y++pd).map λe=>((some e.1:Option V),(some e.2:Option Lc))) ((tQ U Y).map (λe=>(!e.1,!e.2))++((pd.map λe=>(!e.1,!e.2))++cel g Y.mu)):=by rw[cy,<-cx ((tQ U Y).map _)];show h_
 show#[λs=>(h1.mp (s.perm c1.symm)).perm i,λs=>(h1.mpr (s.perm i.symm)).perm c1]
def SR.back(i:-U=-Y.vs)(q:∀e∈U.zip Y.vs,e.2=J\/∃v l,e=(!v,!l))(s:SR K H0 Z0 U' H Y' (tQ U Y++pd)):SR K H0 Z0 U H #[Y.vs,Y'.mu] pd:=by let(_,Z,j,z,s):=s;show#[i,Z,j,z,(IK (Y:=#[Y.vs,Y'.mu]) q).mpr ?_];show s.sub ((lP _).append (kF _ _))
def ie(bm:List Nat)(Y:Ev):Ev:=bm.foldl (λY i=>match Y.vs[i]? with
 |some (!l)=>Y.set i (!(Zp l.pv))
 | _=>Y) Y
theorem SR.frz:∀{bm:List Nat}{Y:Ev},SR K H0 Z0 U H Y pd->SR K H0 Z0 U H (ie bm Y) pd
 |[],Y=>λs=>s
 |i::r,Y=>λs=>by
  unfold ie;rw[iS];show SR.frz ?_;split
  . rename_i l e;let(v,_,h2):=s.var e;show h2.pop
  . show s
def Dt:Option Lc->Bool
 |some (Zs _)=>M
 |_=>G
theorem Mj{j:Nat}:∀{bm:List Nat}{Y:Ev},Dt (Y.vs[j]?).join=G->Dt ((ie bm Y).vs[j]?).join=G
 |[],Y=>λh=>h
 |i::r,Y=>λh=>by
  unfold ie;rw[iS];show Mj ?_;split
  . rename_i l e;by_cases q:i=j
    . subst q;let hi:=(c9.mp e).1;show Dt ((Y.vs.set i _)[i]?).join=G;rw[hW hi];rfl
    . show Dt ((Y.vs.set i _)[j]?).join=G;grind
  . show h
theorem Vb:∀{bm:List Nat}{Y:Ev},j∈bm->Dt ((ie bm Y).vs[j]?).join=G
 |[],Y=>λh=>by cases h
 |i::r,Y=>λh=>by
  unfold ie;rw[iS];obtain e|h:=a_.mp h
  . subst e;show Mj ?_;split
    . rename_i l e;let hi:=(c9.mp e).1;show Dt ((Y.vs.set j _)[j]?).join=G;rw[hW hi];rfl
    . cases q:Y.vs[j]? with
      |none=>rfl
      |some o=>
       cases o with
       |none=>rfl
       |some l=>grind
  . show Vb h
def nT(m:Nat)(bm:List Nat)(Y:Ev):Ev:=#[List.replicate m J++bm.map λi=>(Y.vs[i]?).join,Y.mu]
def SR.block(s:SR K H0 Z0 U H Y pd)(hs:∀j∈bm,Dt (Y.vs[j]?).join=G):SR K H0 Z0 (zY m bm U) H (nT m bm Y) (tQ U Y++pd):=by
 let hb:=s.both;let(el,Z,hg,z,Q):=s;show#[by simp[nT],Z,hg,z,?_];let s3:=(IK hb).mp Q;have fin:ah K H0 Z H ((bm.map λi=>(U[i]?).join).zip (bm.map λi=>(Y.vs[i]?).join)++(cel Z.g Y.mu++(tQ U Y++pd).map λe=>(!e.1,!e.2)))->ah K H0 Z H (sl Z.g (zY m bm U) (nT m bm Y) (tQ U Y++pd)):=λh=>by unfold sl zY nT;rw[jS (),cx];show(nones h m).perm ?_;show(Kc _ _ _).trans ((Kc _ _ _).append_left _)
 show fin ?_;clear fin;induction bm with
 |nil=>simpa using s3
 |cons i r ih=>
  let D:=ih λj hj=>hs j (cw _ hj);rw[dP,dP,m7,js];let h1:=hs i be;cases q:Y.vs[i]? with
  |none=>
   show#[λe F=>?_,?_]
   . obtain rfl|F:=a_.mp F
     . trivial
     . show D.1 e F
   . rw[gE]
     . show D.2
     . cases (U[i]?).join with
       |none=>rfl
       |some x=>cases x<;>rfl
  |some o=>
   cases o with
   |none=>
    show#[λe F=>?_,?_]
    . obtain rfl|F:=a_.mp F
      . trivial
      . show D.1 e F
    . rw[gE]
      . show D.2
      . cases (U[i]?).join with
        |none=>rfl
        |some x=>cases x<;>rfl
   |some l=>
    rw[q]at h1;cases l with
    |own p=>cases h1
    |sh p=>
     have hi:i< -U:=by rw[el];show(c9.mp q).1
     let W:=ed hi;let hm:=eI (zip_get W q);let(x,e1,e2):=Q.1 _ (eT _ (ga _ hm));have N:U[i]=!x:=e1;have ej:(U[i]?).join=!x:=by rw[W,N];rfl
     rw[ej];show D.consS e2
end
def SR.pushO(s:SR K H0 Z0 U H Y ((v,l)::(.ref a,Zs (R ws))::pd)):
 ∃i,H a=!(.lst i)/\-i=-ws/\SR K H0 Z0 U (aE H a (.lst (i++[v]))) Y ((.ref a,Zs (R (ws++[l.pv])))::pd):=by
 let(F,Z,Q,z,r,N):=s.freeze.sh;let j:=N.perm dD.symm;let(b,eb,(i,hu,D),_):=j.1 _ be;cases eb;show#[i,hu,-D,?_];let(W,s'):=j.write (q:=R (ws++[l.pv])) z #[i++[v],bZ,D.append (aK.cons r .nil)];show .mk F Q W s'
def dF(b:BF)(tc:TF)(te:EF):List PV->Ev->List PV->Option (List PV×Mu)
 |[],Y,acc=>!(acc,Y.mu)
 |x::xs,Y,acc=>(b x Y).bind λY1=>(tc Y1).bind λc=>if c.1=G then (te c.2).bind λv=>if -acc<100000 then dF b tc te xs v.2 (acc++[v.1.pv]) else J else dF b tc te xs c.2 acc
def bU(f:IF)(m:Nat)(bm:List Nat)(b:BF)(tc:TF)(te:EF):EF:=λY=>(f Y).bind λy=>(dF b tc te y.1 (nT m bm (ie bm y.2)) []).map λys=>(Zs (R ys.1),#[(ie bm y.2).vs,ys.2])
def CW(K:FG)(H0:Hp)(Z0:ZG)(b:BF)(tc:TF)(te:EF)(p:Addr)(PD:Pd)(xs:List PV)(zs:List PV×Mu)(i n:Nat)(U':L2.St)(H':Hp):Prop:=
 n=-xs-i/\i<=-xs/\∃Yi ws,SR K H0 Z0 U' H' Yi ((.ref p,Zs (R ws))::PD)/\dF b tc te (xs.drop i) Yi ws=!zs
def Vc(hb:GS K g b){PD:Pd}{Q:VK}
 (it:∀ws,qX K H0 Z0 ((.ref p,Zs (R ws))::PD) ZU xs) (fin:∀z H' Ax ws,SR K H0 Z0 z H' Ax ((.ref p,Zs (R ws))::PD)->dF b tc te [] Ax ws=!zs->Q (.ref p) H') (i n:Nat) (z:L2.St) (H':Hp) (w:CW K H0 Z0 b tc te p PD xs zs i n z H'):
 (ZU.stop i H'/\Q (.ref p) H')\/(ZU.go i H'/\∀x H2,ZU.yld i H' x H2->g x z H2 λj H3=>jw K tc j H3 λb' H4=>
   if b'=G then tP K te j H4 λv H5=>∃ys,H5 p=!(.lst ys)/\-ys<sizeLine/\∃n',n'<n/\CW K H0 Z0 b tc te p PD xs zs (i+1) n' j (aE H5 p (.lst (ys++[v])))
   else ∃n',n'<n/\CW K H0 Z0 b tc te p PD xs zs (i+1) n' j H4):=by
 show ym λZT D=>?_;let(rfl,hi,Ax,ws,s',h'):=w;let(i1,i2):=it ws z H' Ax i s';by_cases q:i< -xs
 . let(go,yl):=i1 _ (ed q);rw[kD q]at h';let(Y1,e1,e2):=ba h';let(c,e3,N):=ba e2;have hn:-xs-(i+1)< -xs-i:=()
   show D (YY #[go,λx H2 hy=>hb H0 Z0 z H2 Ax _ x _ Y1 _ (yl x H2 hy) e1 λU2 s5=>#[H0,Z0,Y1,_,c.1,c.2,s5,e3,λH4 s6=>?_]]);dsimp only;split
   . rename_i hc;show ym λZT D=>?_;rw[aw hc]at N;let(v,e5,W):=ba N;split at W
     . show D #[H0,Z0,c.2,_,v.1,v.2,s6,e5,λvv H5 s7=>?_];show ym λZT D=>?_;let(us,hu,hl,s8):=s7.pushO;show D #[us,hu,by rw[hl,sizeLine_eq];lia,_,hn,O,q,v.2,_,s8,W]
     . cases W
   . rename_i hc;rw[ay hc]at N;show#[_,hn,O,q,c.2,ws,s6,N]
 . grind
def Ml(N:GS K g b):∀U H Q,tP K (bU f m bm b tc te) U H Q->R4 (Iz K f) m bm g (jw K tc) (tP K te) U H Q:=λU H Q q=>by show ym λZT z=>?_;let(H0,Z0,Y,pd,r,Y',s,h,k):=q;let(y,h1,h2):=ba h;let(zs,h3,D):=cp h2;cases D;show z #[H0,Z0,Y,pd,y.1,y.2,s,h1,λZU H1 fT s1 it sub p hp=>?_];have i:SR K H0 Z0 U H1 (ie bm y.2) fT:=s1.frz;let s3:=i.block (m:=m) λj hj=>Vb hj;show#[CW K H0 Z0 b tc te p (tQ U (ie bm y.2)++fT) y.1 zs,#[_,O,d6 _,_,[],(s3.newO hp λZ _ _=>#[[],bZ,.nil]),h3],Vc N (λws=>qX.more (pe:=(.ref p,Zs (R ws))::tQ U (ie bm y.2)) it) λW H' Yi ws s' h'=>?_];cases h';show k _ _ ((SR.back i.1 i.both (s'.perm et)).sub ∅)
section
variable {X:Cx}
def gH(j F:List Str)(bm:List Nat)(i:X.calm=G)(c:jE X j F bm sc)(hi:PI X tg iter (Iz X.K f))
 (q:∀C fp s H,PG (gC X j F sc C fp s H) tg g) (z:GS X.K g b) (D:∀C fp s H,v5 (gC X j F sc C fp s H) fR (jw X.K tc)) (he:∀C fp s H,PE (gC X j F sc C fp s H) elt (tP X.K te))
 (hs:∀x,foldedSetIterable iter X.env x=pure x:=by intro _;rfl):PE X (.ListComp elt [#[tg,iter,fR,0]] sc pos) (tP X.K (bU f (-j) bm b tc te)):=PE.imp (Z9 j F bm i c hi q D he hs) (Ml z)
def uA(Q F:List Str)(bm:List Nat){pos pos' j:Pos}(hN:X.N.Nodup)(rX:X.N[i]?=!x)(hx:X.env.scope.names.lookup x=!.local)
 (z:X.calm=G) (c:jE X Q F bm sc) (hi:PI X tg iter (Iz X.K f))
 (hg:∀C fp s H,PG (gC X Q F sc C fp s H) tg g) (hb:GS X.K g b) (hc:∀C fp s H,v5 (gC X Q F sc C fp s H) fR (jw X.K tc)) (he:∀C fp s H,PE (gC X Q F sc C fp s H) elt (tP X.K te))
 (W:swapsWith (.ListComp elt [#[tg,iter,fR,0]] sc pos) (!(.Name x pos')) j.line X.env=pure G:=by rfl)
 (hs:∀x,foldedSetIterable iter X.env x=pure x:=by intro _;rfl):PS X (.Assign [.Name x pos'] (.ListComp elt [#[tg,iter,fR,0]] sc pos) j) (iw X.K (aL i (bU f (-Q) bm b tc te))):=
 PS.imp (Kt Q F bm hN rX hx z c hi hg hc he W hs) (Qx λD U H q=>Ml hb U H _ q)
def bB:TF:=λY=>!(G,Y)
def cN:v5 X [] (jw X.K bB):=λae s U H Q I q=>WP ae s U H Q I (by let(H0,Z0,Y,pd,b,Y',s,h,k):=q;cases h;show k H s)
def Xr(h:PT X c (jw X.K f)):v5 X [c] (jw X.K f):=WQ h
end
noncomputable def uQ (f:PV->PV->Option Bool):List PV->List PV->Option Bool
 |p::ps,q::qs=>(f p q).bind λb=>(uQ f ps qs).map λc=>b&&c
 |_,_=>!G
def dH:Nat->PV->PV->Option Bool
 |0,_,_=>J
 |n+1,p,q=>match p,q with
  |ZB ps,ZB qs=>(uQ (dH n) ps qs).map λb=>b&&(-ps==-qs)
  |R ps,R qs=>if -ps=-qs then uQ (dH n) ps qs else !M
  |.non,.non=>!G
  |.bl a,.bl b=>!(a==b)
  |ZI a,ZI b=>!(a==b)
  |ZH a,ZH b=>!(a==b)
  |.bl a,ZI b=>!((if a then 1 else 0)==b)
  |ZI a,.bl b=>!(a==(if b then 1 else 0))
  |.non,.bl _=>!M
  |.non,ZI _=>!M
  |.non,ZH _=>!M
  |.non,ZB _=>!M
  |.non,R _=>!M
  |.bl _,.non=>!M
  |.bl _,ZH _=>!M
  |.bl _,ZB _=>!M
  |.bl _,R _=>!M
  |ZI _,.non=>!M
  |ZI _,ZH _=>!M
  |ZI _,ZB _=>!M
  |ZI _,R _=>!M
  |ZH _,.non=>!M
  |ZH _,.bl _=>!M
  |ZH _,ZI _=>!M
  |ZH _,ZB _=>!M
  |ZH _,R _=>!M
  |ZB _,.non=>!M
  |ZB _,.bl _=>!M
  |ZB _,ZI _=>!M
  |ZB _,ZH _=>!M
  |ZB _,R _=>!M
  |R _,.non=>!M
  |R _,.bl _=>!M
  |R _,ZI _=>!M
  |R _,ZH _=>!M
  |R _,ZB _=>!M
  |_,_=>J
theorem Bs:∀{ps qs:List PV}{b:Bool},uQ f ps qs=!b->(∀(j:Nat) p q,ps[j]?=!p->qs[j]?=!q->f p q=!((f (ps.getD j .non) (qs.getD j .non)).getD false))/\
 b=(List.range (min (-ps) (-qs))).all λj=>(f (ps.getD j .non) (qs.getD j .non)).getD false
 |[],qs,b=>λh=>by cases h;show#[λj p q e=>by simp at e,by simp]
 |p::ps,[],b=>λh=>by cases h;show#[λj p q _ e=>by simp at e,by simp]
 |p::ps,q::qs,b=>λh=>by
  let(c,h1,h2):=ba h;let(d,h3,rfl):=cp h2;let(i1,i2):=Bs h3;show#[λj p' q' e1 e2=>?_,?_]
  . cases j with
    |zero=>
     simp at e1 e2;subst e1 e2;simp[h1]
    |succ j=>
     have:=i1 j p' q' () ();simpa using this
  . have e:min (-(p::ps)) (-(q::qs))=min (-ps) (-qs)+1:=by simp only[bi];lia
    rw[e,List.range_succ_eq_map,all_cons,List.all_map];have e0:(f ((p::ps).getD 0 .non) ((q::qs).getD 0 .non)).getD false=c:=by simp[h1]
    rw[e0,i2];rfl
def eq(r:aK K Z ps vs)(i:am vs bp)(h:j< -bp):∃p v,ps[j]?=!p/\aT K Z p v/\av v bp[j]:=by let N:=-i;have q:vs[j]?=some vs[j]:=ed ();let(u,z,D):=i.get q;rw[ed h]at z;let(p,Q,F):=r.getV q;grind
section
open PySem.SeqAt
variable {X:Cx}{ae:List (Addr×Obj)}{U:L2.St}{H:Hp}{s:Shared}{g:List Addr}
def Fq(I:ai X ae U H s)(r:aT X.K #[H,g] (ZB ps) v)(D:av v u):∃a vs i,u=YV a/\cW X.K H a vs/\aK X.K #[H,g] ps vs/\am vs i/\s.heap.IsTuple a i.toArray:=by let(a,vs,rfl,h1,h2):=r;let(i,q,z,_):=I.tuple h1;show#[a,vs,i,D,h1,h2,q,z]
def Ag(I:ai X ae U H s)(r:aT X.K #[H,g] (R ps) v)(D:av v u):∃a vs i,u=YV a/\bY X.K H a vs/\aK X.K #[H,g] ps vs/\am vs i/\s.heap.IsList a i.toArray:=by let(a,vs,rfl,h1,h2):=r;let(i,q,z,_):=I.list h1;show#[a,vs,i,D,h1,h2,q,z.isList]
def kn:PV->Nat
 |.non=>0 |.bl _=>1 |ZI _=>2 |ZH _=>3 |ZB _=>4 |R _=>5 |_=>6
def At(h:kn p=4):∃ps,p=ZB ps:=by cases p<;>first |show#[_,O] |cases h
def Au(h:kn p=5):∃ps,p=R ps:=by cases p<;>first |show#[_,O] |cases h
def Ft(h:dH (n+1) p q=!b):kn p<6:=by cases p<;>first |cases h;done |show Nat.le.step (Nat.le.step (Nat.le.step (Nat.le.step (Nat.le.step .refl)))) |show Nat.le.step (Nat.le.step (Nat.le.step (Nat.le.step .refl))) |show Nat.le.step (Nat.le.step (Nat.le.step .refl)) |show Nat.le.step (Nat.le.step .refl) |show Nat.le.step .refl |show Nat.le.refl
def Zd(h:dH (n+1) p q=!b):kn q<6:=by
 have i:dH (n+1) p q=J->kn q<6:=λe=>absurd ∅ (Option.some_ne_none b);cases q with
 |dk _ _=>show i (by cases p<;>rfl)
 |dt _ _=>show i (by cases p<;>rfl)
 |obj _ _ _=>show i (by cases p<;>rfl)
 |df _ _=>show i (by cases p<;>rfl)
 |dtf _ _=>show i (by cases p<;>rfl)
 |dx _ _ _=>show i (by cases p<;>rfl)
 |exc _=>show i (by cases p<;>rfl)
 |fn _=>show i (by cases p<;>rfl)
 |ptr _=>show i (by cases p<;>rfl)
 |_=>first |show Nat.le.step (Nat.le.step (Nat.le.step (Nat.le.step (Nat.le.step .refl)))) |show Nat.le.step (Nat.le.step (Nat.le.step (Nat.le.step .refl))) |show Nat.le.step (Nat.le.step (Nat.le.step .refl)) |show Nat.le.step (Nat.le.step .refl) |show Nat.le.step .refl |show Nat.le.refl
def back:V->Option PV
 |.non=>some .non |.bl b=>some (.bl b) |.int i=>some (ZI i) |.str x=>some (ZH x) |_=>J
inductive Sh(K:FG)(Z:ZG)(v:V):PV->Prop
 |at {p:PV}:back v=!p->Sh K Z v p
 |tup {a:Addr} {ps:List PV} {vs:List V}:v=.ref a->cW K Z.z a vs->aK K Z ps vs->Sh K Z v (.tup ps)
 |lst {a:Addr} {ps:List PV} {vs:List V}:v=.ref a->bY K Z.z a vs->aK K Z ps vs->Sh K Z v (.lst ps)
def Kf(r:aT K Z p v)(h:kn p<6):Sh K Z v p:=by
 cases p with
 |non=>show .at (congrArg back (jL r))
 |bl b=>show .at (congrArg back (ji r))
 |int b=>show .at (congrArg back (cF r))
 |str b=>show .at (congrArg back (dN r))
 |tup ps=> let(a,D,e,h1,h2):=r;show .tup e h1 h2
 |lst ps=> let(a,D,e,h1,h2):=r;show .lst e h1 h2
 |_=>show absurd h (kC 6)
inductive Tw(K:FG)(Z:ZG):PV->PV->Prop
 |at {v:V} {p:PV}:back v=!p->Tw K Z p p
 |tup {ps qs:List PV} {vs:List V}:aK K Z ps vs->aK K Z qs vs->Tw K Z (.tup ps) (.tup qs)
 |lst {ps qs:List PV} {vs:List V}:aK K Z ps vs->aK K Z qs vs->Tw K Z (.lst ps) (.lst qs)
def Ze(I:ai X ae U H s)(h1:cW X.K H a vs)(j:bY X.K H a ws):False:=by let(q,z,(o1,F,N,c1,_),_):=I.list j;let(i,W,(o2,Q,D,_),_):=I.tuple h1;grind
def yp(e:v=.ref a)(h:back v=!p):False:=by subst e;cases h
def Sh.two(I:ai X ae U H s)(h1:Sh X.K #[H,g] v p)(h2:Sh X.K #[H,g] v q):Tw X.K #[H,g] p q:=by
 cases h1 with
 |«at» e=>
  cases h2 with
  |«at» i=>show(d0 (e.symm.trans i))▸.at e
  |tup i=>show(yp i e).elim
  |lst i=>show(yp i e).elim
 |tup e D N=>
  cases h2 with
  |«at» i=>show(yp e i).elim
  |tup i j F=>show .tup N (I.tuple_inj D (V.ref.inj (i.symm.trans e)▸j)▸F)
  |lst i j=>show(Ze I D (V.ref.inj (i.symm.trans e)▸j)).elim
 |lst e D N=>
  cases h2 with
  |«at» i=>show(yp e i).elim
  |tup i j=>show(Ze I j (V.ref.inj (e.symm.trans i)▸D)).elim
  |lst i j F=>show .lst N (I.list_inj D (V.ref.inj (i.symm.trans e)▸j)▸F)
def OT(e:back v=!p)(h:dH (n+1) p p=!b):b=G:=by
 cases v with
 |non=>cases e;cases h;rfl
 |bl z=>cases e;cases h;grind
 |int z=>cases e;cases h;grind
 |str z=>cases e;cases h;grind
 |_=>cases e
theorem Ah(j:∀(p q:PV)(v:V)(b:Bool),aT K Z p v->aT K Z q v->f p q=!b->b=G):∀{ps i:List PV}{vs:List V}{c:Bool},aK K Z ps vs->aK K Z i vs->uQ f ps i=!c->c=G
 |[],i,vs,c=>λa b h=>by cases h;rfl
 |p::ps,[],vs,c=>λa b h=>by cases h;rfl
 |p::ps,q::i,vs,c=>λa b h=>by let(w1,r1,F,W,e3):=a.inv;let(w2,r2,z,N,f3):=b.inv;let(g1,D):=cons.inj (F.symm.trans z);subst g1 D;let(c,h1,h2):=ba h;let(d,Q,rfl):=cp h2;rw[j _ _ _ _ W N h1,Ah j e3 f3 Q];rfl
theorem yq(z:∀(p q r:PV)(v:V)(b c:Bool),aT K Z p v->aT K Z q v->f p r=!b->f q r=!c->b=c):∀{ps j rs:List PV}{vs:List V}{b c:Bool},aK K Z ps vs->aK K Z j vs->uQ f ps rs=!b->uQ f j rs=!c->b=c
 |[],[],rs,vs,b,c=>λ_ _ h k=>d0 (h.symm.trans k)
 |[],q::j,rs,vs,b,c=>λa i h k=>by let(_,_,e,_):=i.inv;show absurd (a.inv0.symm.trans e) (by simp)
 |p::ps,[],rs,vs,b,c=>λa i h k=>by let(_,_,e,_):=a.inv;show absurd (i.inv0.symm.trans e) (by simp)
 |p::ps,q::j,[],vs,b,c=>λa i h k=>d0 (h.symm.trans k)
 |p::ps,q::j,r::rs,vs,b,c=>λa i h k=>by let(w1,r1,Q,e2,e3):=a.inv;let(w2,r2,D,W,f3):=i.inv;let(g1,N):=cons.inj (Q.symm.trans D);subst g1 N;let(x1,h1,h2):=ba h;let(d1,h3,rfl):=cp h2;let(x2,F,k2):=ba k;let(d2,k3,rfl):=cp k2;rw[z _ _ _ _ _ _ e2 W h1 F,yq z e3 f3 h3 k3]
theorem eq_self(I:ai X ae U H s):∀(n:Nat){p q:PV}{v:V}{b:Bool},aT X.K #[H,g] p v->aT X.K #[H,g] q v->dH n p q=!b->b=G
 |0,p,q,v,b=>λ_ _ h=>by cases h
 |n+1,p,q,v,b=>λz j h=>by
  cases Sh.two I (Kf z (Ft h)) (Kf j (Zd h)) with
  |«at» e=>show OT e h
  |tup h2 i=>
   let(c,F,rfl):=cp h;rw[Ah (λ_ _ _ _=>eq_self I n) h2 i F,h2.length.symm.trans (-i),ij];rfl
  |lst h2 i=>show Ah (λ_ _ _ _=>eq_self I n) h2 i ((aw (h2.length.symm.trans (-i))).symm.trans h)
inductive U_(s:Shared):PV->Value->Prop
 |non:U_ s .non .none
 |bl {b:Bool}:U_ s (.bl b) (.bool b)
 |int {i:Int} {t}:U_ s (.int i) (.int i t)
 |str {x:Str} {t}:U_ s (.str x) (.str x t)
 |tup {ps:List PV} {a:Addr} {bp}:s.heap.IsTuple a bp->U_ s (.tup ps) (.ref a)
 |lst {ps:List PV} {a:Addr} {bp}:s.heap.IsList a bp->U_ s (.lst ps) (.ref a)
def AA(I:ai X ae U H s)(r:aT X.K #[H,g] p v)(i:av v u)(h:kn p<6):U_ s p u:=by
 cases p with
 |non=>cases jL r;cases i;show .non
 |bl b=>cases ji r;cases i;show .bl
 |int b=>cases cF r;let(t,rfl):=i;show .int
 |str b=>cases dN r;let(t,rfl):=i;show .str
 |tup ps=>let(a,z,j,rfl,_,_,_,x):=Fq I r i;show .tup x
 |lst ps=>let(a,z,j,rfl,_,_,_,x):=Ag I r i;show .lst x
 |_=>show absurd h (kC 6)
def E3(A:Around)(s:Shared)(x y:Value)(b:Bool):Prop:=EqAt A s x y b/\RcAt A s x y b/\RcNeAt A s x y (not b)
def E3.of(h:some c=!b)(e:EqAt A s x y c)(r:RcAt A s x y c)(q:RcNeAt A s x y (not c)):E3 A s x y b:=d0 h▸#[e,r,q]
def two(p q:PV):Bool:=kn p==kn q&&Nat.ble 4 (kn p)
def OU(i:A.units<cLine)(h1:U_ s p u1)(h2:U_ s q u2)(e:two p q=M)(h:dH (n+1) p q=!b):E3 A s u1 u2 b:=by
 cases h1 with
 |non=>
  cases h2 with
  |non=>show E3.of h (EqAt.same .none) RcAt.none_none RcNeAt.none_none
  |bl=>show E3.of h (EqAt.none_bool _) (RcAt.none_bool _) (RcNeAt.none_bool _)
  |int=>show E3.of h (EqAt.none_int _ _) (RcAt.none_int _ _) (RcNeAt.none_int _ _)
  |str=>show E3.of h (EqAt.none_str _ _) (RcAt.none_str _ _) (RcNeAt.none_str _ _)
  |tup j=>show E3.of h (EqAt.none_tuple j i) (RcAt.none_tuple j i) (RcNeAt.none_tuple j i)
  |lst j=>show E3.of h (EqAt.none_list j i) (RcAt.none_list j i) (RcNeAt.none_list j i)
 |bl=>
  cases h2 with
  |non=>show E3.of h (EqAt.bool_none _) (RcAt.bool_none _) (RcNeAt.bool_none _)
  |bl=>show E3.of h (EqAt.bool_bool _ _) (RcAt.bool_bool _ _) (RcNeAt.bool_bool _ _)
  |int=>show E3.of h (EqAt.bool_int _ _ _) (RcAt.bool_int _ _ _) (RcNeAt.bool_int _ _ _)
  |str=>show E3.of h (EqAt.bool_str _ _ _) (RcAt.bool_str _ _ _) (RcNeAt.bool_str _ _ _)
  |tup j=>show E3.of h (EqAt.bool_tuple _ j i) (RcAt.bool_tuple _ j i) (RcNeAt.bool_tuple _ j i)
  |lst j=>show E3.of h (EqAt.bool_list _ j i) (RcAt.bool_list _ j i) (RcNeAt.bool_list _ j i)
 |int=>
  cases h2 with
  |non=>show E3.of h (EqAt.int_none _ _) (RcAt.int_none _ _) (RcNeAt.int_none _ _)
  |bl=>show E3.of h (EqAt.int_bool _ _ _) (RcAt.int_bool _ _ _) (RcNeAt.int_bool _ _ _)
  |int=>show E3.of h (EqAt.int_int _ _ _ _) (RcAt.int_int _ _ _ _) (RcNeAt.int_int _ _ _ _)
  |str=>show E3.of h (EqAt.int_str _ _ _ _) (RcAt.int_str _ _ _ _) (RcNeAt.int_str _ _ _ _)
  |tup j=>show E3.of h (EqAt.int_tuple _ _ j i) (RcAt.int_tuple _ _ j i) (RcNeAt.int_tuple _ _ j i)
  |lst j=>show E3.of h (EqAt.int_list _ _ j i) (RcAt.int_list _ _ j i) (RcNeAt.int_list _ _ j i)
 |str=>
  cases h2 with
  |non=>show E3.of h (EqAt.str_none _ _) (RcAt.str_none _ _) (RcNeAt.str_none _ _)
  |bl=>show E3.of h (EqAt.str_bool _ _ _) (RcAt.str_bool _ _ _) (RcNeAt.str_bool _ _ _)
  |int=>show E3.of h (EqAt.str_int _ _ _ _) (RcAt.str_int _ _ _ _) (RcNeAt.str_int _ _ _ _)
  |str=>show E3.of h (EqAt.str_str _ _ _ _) (RcAt.str_str _ _ _ _) (RcNeAt.str_str _ _ _ _)
  |tup j=>show E3.of h (EqAt.str_tuple _ _ j i) (RcAt.str_tuple _ _ j i) (RcNeAt.str_tuple _ _ j i)
  |lst j=>show E3.of h (EqAt.str_list _ _ j i) (RcAt.str_list _ _ j i) (RcNeAt.str_list _ _ j i)
 |tup z=>
  cases h2 with
  |non=>show E3.of h (EqAt.tuple_none z i) (RcAt.tuple_none z i) (RcNeAt.tuple_none z i)
  |bl=>show E3.of h (EqAt.tuple_bool _ z i) (RcAt.tuple_bool _ z i) (RcNeAt.tuple_bool _ z i)
  |int=>show E3.of h (EqAt.tuple_int _ _ z i) (RcAt.tuple_int _ _ z i) (RcNeAt.tuple_int _ _ z i)
  |str=>show E3.of h (EqAt.tuple_str _ _ z i) (RcAt.tuple_str _ _ z i) (RcNeAt.tuple_str _ _ z i)
  |tup j=>cases e
  |lst j=>show E3.of h (EqAt.tuple_list z j i) (RcAt.tuple_list z j i) (RcNeAt.tuple_list z j i)
 |lst z=>
  cases h2 with
  |non=>show E3.of h (EqAt.list_none z i) (RcAt.list_none z i) (RcNeAt.list_none z i)
  |bl=>show E3.of h (EqAt.list_bool _ z i) (RcAt.list_bool _ z i) (RcNeAt.list_bool _ z i)
  |int=>show E3.of h (EqAt.list_int _ _ z i) (RcAt.list_int _ _ z i) (RcNeAt.list_int _ _ z i)
  |str=>show E3.of h (EqAt.list_str _ _ z i) (RcAt.list_str _ _ z i) (RcNeAt.list_str _ _ z i)
  |tup j=>show E3.of h (EqAt.list_tuple z j i) (RcAt.list_tuple z j i) (RcNeAt.list_tuple z j i)
  |lst j=>cases e
def yr(r:av v (YV a)):v=.ref a:=by
 cases v with
 |ref b=>cases r;rfl
 |non=>cases r
 |bl _=>cases r
 |ty _=>cases r
 |_=>let(t,e):=r;cases e
def Mm(I:ai X ae U H s)(j:aT X.K #[H,g] p (.ref a1))(z:aT X.K #[H,g] q (.ref a2))(h:dH n p q=!b)(D:RcAt A s (YV a1) (YV a2) b):EqAt A s (YV a1) (YV a2) b:=by
 by_cases i:a1=a2
 . subst i;show eq_self I n j z h▸EqAt.same _
 . show EqAt.of_refs i D
theorem Kg(I:ai X ae U H s):∀(n:Nat){p q:PV}{v w:V}{u1 u2:Value}{b:Bool},aT X.K #[H,g] p v->aT X.K #[H,g] q w->av v u1->av w u2->dH n p q=!b->∀A:Around,A.units+n<cLine->
 EqAt A s u1 u2 b/\RcAt A s u1 u2 b/\RcNeAt A s u1 u2 (not b)
 |0,p,q,v,w,u1,u2,b=>λ_ _ _ _ h _ _=>by cases h
 |n+1,p,q,v,w,u1,u2,b=>λrp rq r1 r2 h A hA=>by
  let hu:=kP (nh _ _) hA;have OV:A.in1.units+n<cLine:=by show A.units+1+n<cLine;lia
  have item:∀{ps Q:List PV}{vs ws:List V}{W i:List Value}{c:Bool},aK X.K #[H,g] ps vs->am vs W->aK X.K #[H,g] Q ws->am ws i->uQ (dH n) ps Q=!c->
   ∀j (h1:j< ~~~W.toArray) (h2:j< ~~~i.toArray),EqAt A.in1 s W.toArray[j] i.toArray[j] ((dH n (ps.getD j .non) (Q.getD j .non)).getD M):=λ{ps Q vs ws W i c} a b c' d e j h1 h2=>by
   let(p,v,e1,e2,e3):=eq a b ();let(q,w,f1,f2,f3):=eq c' d ();have:=(Bs e).1 j p q e1 f1;show(Kg I n e2 f2 e3 f3 this A.in1 OV).1
  cases e:two p q with
  |false=>show OU hu (AA I rp r1 (Ft h)) (AA I rq r2 (Zd h)) e h
  |true=>
   have e':kn p=kn q/\4<=kn p:=by unfold two at e;simpa using e
   let hk:=Ft h;obtain hp|hp:=(by omega:kn p=4\/kn p=5)
   . let(ps,rfl):=At hp;let(Q,rfl):=At (e'.1.symm.trans hp);let(a1,OW,z,rfl,q1,l1,F,x1):=Fq I rp r1;let(a2,OX,i,rfl,q2,l2,D,x2):=Fq I rq r2;let e1:=yr r1;let e2:=yr r2;subst e1 e2;let(c,h5,rfl):=cp h;let it:=item l1 F l2 D h5;have z1: ~~~z.toArray=-ps:=by rw[eP,<-(-F),l1.length]
     have z2: ~~~i.toArray=-Q:=by rw[eP,<-(-D),l2.length]
     let N:=RcAt.tuples x1 x2 hu it;let rn:=RcNeAt.tuples x1 x2 hu it;rw[z1,z2,<-(Bs h5).2]at N rn;show#[Mm I rp rq h N,N,rn]
   . let(ps,rfl):=Au hp;let(Q,rfl):=Au (e'.1.symm.trans hp);let(a1,OW,z,rfl,q1,l1,F,x1):=Ag I rp r1;let(a2,OX,i,rfl,q2,l2,D,x2):=Ag I rq r2;let e1:=yr r1;let e2:=yr r2;subst e1 e2;have z1: ~~~z.toArray=-ps:=by rw[eP,<-(-F),l1.length]
     have z2: ~~~i.toArray=-Q:=by rw[eP,<-(-D),l2.length]
     by_cases hl:-ps=-Q
     . let h':=(aw hl).symm.trans h;let it:=item l1 F l2 D h';let hz:=(z1.trans hl).trans z2.symm;let N:=RcAt.lists x1 x2 hz hu it;let rn:=RcNeAt.lists x1 x2 hz hu it;rw[z1,<-(show min (-ps) (-Q)=-ps by rw[<-hl,Nat.min_self]),<-(Bs h').2]at N rn;show#[Mm I rp rq h N,N,rn]
     . let h':=d0 ((ay hl).symm.trans h);subst h';have hz:(~~~z.toArray != ~~~i.toArray)=G:=by rw[z1,z2];show bne_iff_ne.mpr hl
       let N:=RcAt.lists_lengths x1 x2 hz hu;show#[Mm I rp rq h N,N,RcNeAt.lists_lengths x1 x2 hz hu]
end
section
open PySem.SeqAt
variable {X:Cx}{ae:List (Addr×Obj)}{U:L2.St}{H:Hp}{s:Shared}{g:List Addr}
def Qz(h:dH (n+1) (ZB ps) r=!b):b=M\/∃rs,r=ZB rs:=by
 cases r with
 |tup rs=>grind
 |_=>cases h<;>show Zl O
def QB(h:dH (n+1) (R ps) r=!b):b=M\/∃rs,r=R rs:=by
 cases r with
 |lst rs=>grind
 |_=>cases h<;>show Zl O
theorem Fv(I:ai X ae U H s):∀(n:Nat){p q r:PV}{v:V}{b c:Bool},aT X.K #[H,g] p v->aT X.K #[H,g] q v->dH n p r=!b->dH n q r=!c->b=c
 |0,p,q,r,v,b,c=>λ_ _ h _=>by cases h
 |n+1,p,q,r,v,b,c=>λrp rq h k=>by
  cases Sh.two I (Kf rp (Ft h)) (Kf rq (Ft k)) with
  |«at» e=>grind
  | @tup ps N _ h2 i=>
   let j:=h2.length.symm.trans (-i);obtain rfl|⟨rs,rfl⟩:=Qz h
   . obtain rfl|⟨rs,rfl⟩:=Qz k
     . rfl
     . let(c1,F,Q):=cp h;let(c2,z,rfl):=cp k;rw[<-yq (f:=dH n) (λ_ _ _ _ _ _=>Fv I n) h2 i F z,<-j,Q]
   . let(c1,F,rfl):=cp h;let(c2,z,rfl):=cp k;rw[yq (f:=dH n) (λ_ _ _ _ _ _=>Fv I n) h2 i F z,j]
  | @lst ps N _ h2 i=>
   let j:=h2.length.symm.trans (-i);have W:∀rs,r=R rs->b=c:=λrs e=>by
    subst e;by_cases D:-N=-rs
    . show yq (f:=dH n) (λ_ _ _ _ _ _=>Fv I n) h2 i ((aw ()).symm.trans h) ((aw D).symm.trans k)
    . show d0 ((((ay λe=>D ()).symm.trans h).symm.trans ((ay D).symm.trans k)))
   obtain Q|⟨rs,e⟩:=QB h
   . obtain e2|⟨rs,e⟩:=QB k
     . grind
     . grind
   . grind
noncomputable def tR (f:PV->PV->Option Bool) (x:PV):List PV->Option Bool
 |[]=>!M
 |q::qs=>(f q x).bind λb=>(tR f x qs).map λc=>b||c
theorem G6:∀{qs:List PV}{b:Bool},tR f x qs=!b->(∀q∈qs,∃c,f q x=!c)/\b=qs.any λq=>(f q x).getD M
 |[],b=>λh=>by cases h;grind
 |q::qs,b=>λh=>by
  let(c,h1,h2):=ba h;let(d,j,rfl):=cp h2;let(F,z):=G6 j;show#[λD i=>?_,?_]
  . obtain rfl|i:=a_.mp i
    . grind
    . grind
  . grind
open Classical in
def c6(K:FG)(Z:ZG)(x:PV)(qs:List PV)(vs:List V)(bp:List Value)(u:Value):Bool:=
 if h:∃(j:Nat)(q:PV),qs[j]?=!q/\bp[j]?=!u then (dH 150 h.choose_spec.choose x).getD M else M
def Du(I:ai X ae U H s){xv:V}{xu:Value}(r:aK X.K #[H,g] qs vs)(N:am vs bp)(F:∀q∈qs,∃c,dH 150 q x=!c){j:Nat}(z:qs[j]?=!q)(Q:bp[j]?=!u):
 c6 X.K #[H,g] x qs vs bp u=(dH 150 q x).getD M:=by
 have h:∃(j:Nat)(q:PV),qs[j]?=!q/\bp[j]?=!u:=#[j,q,z,Q];unfold c6;rw[dif_pos h];let(i,D):=h.choose_spec.choose_spec;generalize h.choose_spec.choose=q' at i D;let(v1,g1,g2):=r.get z;let(v2,k1,k2):=r.get i;let(u1,W,m2):=N.get g1;let(u2,n1,n2):=N.get k1;rw[Q]at W;cases W;rw[D]at n1;cases n1;let ev:=av.inj m2 n2;subst ev;let(c1,h1):=F q (eI z);let(c2,h2):=F q' (eI i);rw[h1,h2,Fv I 150 k2 g2 h2 h1]
def Dv(I:ai X ae U H s)(rx:aT X.K #[H,g] x xv)(ru:av xv xu)(r:aK X.K #[H,g] qs vs)(D:am vs bp)(F:∀q∈qs,∃c,dH 150 q x=!c)(hA:A.units+150<cLine):
 ∀u,u∈bp.toArray->EqAt A s u xu (c6 X.K #[H,g] x qs vs bp u):=λu hu=>by
 let(j,hj,e):=getElem_of_mem (by simpa using hu);have Q:bp[j]?=!u:=by rw[ed hj,e]
 let hl:=-D;let yT:=-r;have z:qs[j]?=!(qs[j]'()):=ed _;rw[Du (xv:=xv) (xu:=xu) I r D F z Q];let(v1,g1,g2):=r.get z;let(u1,N,W):=D.get g1;rw[Q]at N;cases N;let(c1,h1):=F _ (eI z);rw[h1];show(Kg I 150 g2 rx W ru h1 A hA).1
def IW(I:ai X ae U H s){xv:V}{xu:Value}(r:aK X.K #[H,g] qs vs)(i:am vs bp)(F:∀q∈qs,∃c,dH 150 q x=!c):
 bp.toArray.any (c6 X.K #[H,g] x qs vs bp)=qs.any λq=>(dH 150 q x).getD M:=by
 have Q:-bp=-qs:=by rw[<-(-i),r.length]
 have key:bp.map (c6 X.K #[H,g] x qs vs bp)=qs.map λq=>(dH 150 q x).getD M:=by
  apply List.ext_getElem?;intro j;rw[c5,c5];by_cases N:j< -bp
  . let z:=ed N;have D:qs[j]?=!(qs[j]'()):=ed _;rw[z,D,ic,ic,Du (xv:=xv) (xu:=xu) I r i F D z]
  . grind
 rw[show bp.toArray.any (c6 X.K #[H,g] x qs vs bp)=bp.any (c6 X.K #[H,g] x qs vs bp) by simp];have W:bp.any (c6 X.K #[H,g] x qs vs bp)=(bp.map (c6 X.K #[H,g] x qs vs bp)).any id:=by simp[List.any_map]
 have a2:(qs.any λq=>(dH 150 q x).getD M)=(qs.map λq=>(dH 150 q x).getD M).any id:=by simp[List.any_map]
 grind
end
section
variable {X:Cx}
def SR.rep2(h:SR K H0 Z0 U H Y ((w,Zp q)::(v,Zp p)::pd)):∃Z:ZG,eY_ Z.z H/\aT K Z p v/\aT K Z q w:=by let(_,Z,_,z,r,s):=h.sh;let(x,j,i):=(s.perm dD.symm).1 _ be;cases j;show#[Z,z.zh,i,r]
def SR.rep2H(h:SR K H0 Z0 U H Y ((w,Zp q)::(v,Zp p)::pd)):∃g,aT K #[H,g] p v/\aT K #[H,g] q w:=by let(Z,z,a,b):=h.rep2;show#[Z.g,a.mono (Z':=#[H,Z.g]) #[z,iO _],b.mono (Z':=#[H,Z.g]) #[z,iO _]]
def Sv(K:FG)(neg:Bool):R2:=λx y H Q=>∃g p q b,aT K #[H,g] p x/\aT K #[H,g] q y/\dH 150 p q=!b/\Q (.bl (if neg then not b else b)) H
def cG(hr:gn b k X.A):ju X (compareOp .Eq) (Sv X.K M):=by
 intro ae s U H x y v u Q I N z h;let(g,p,q,b,W,F,e,i):=h;have j:X.A.units+150<cLine:=by have:=hr.un;lia
 let(_,D,_):=Kg I 150 W F N z e X.A j;show D _ _ _ _ #[.bl b,H,I,O,i]
def Mp(W:gn b k X.A):ju X (compareOp .NotEq) (Sv X.K G):=by
 intro ae s U H x y v u Q I F z h;let(g,p,q,b,N,D,e,i):=h;have j:X.A.units+150<cLine:=by have:=W.un;lia
 let(_,_,rn):=Kg I 150 N D F z e X.A j;show rn _ _ _ _ #[.bl (not b),H,I,O,i]
def cK(p q:PV):Option Lc:=(dH 150 p q).map λb=>Zp (.bl b)
def Mq(p q:PV):Option Lc:=(dH 150 p q).map λb=>Zp (.bl (not b))
def cH:pA K (Sv K M) cK:=by intro H0 Z0 U Y pd H v w x y l Q s e k;let(b,j,rfl):=cp e;let(g,i,q):=s.rep2H;show#[g,x,y,b,i,q,j,k _ H (s.pop.pop.scal mq)]
def Mr:pA K (Sv K G) Mq:=by intro H0 Z0 U Y pd H v w x y l Q s e k;let(b,j,rfl):=cp e;let(g,i,q):=s.rep2H;show#[g,x,y,b,i,q,j,k _ H (s.pop.pop.scal mq)]
def Xu(K:FG)(neg:Bool):R2:=λx y H Q=>(∃g p qs b,aT K #[H,g] p x/\(aT K #[H,g] (R qs) y\/aT K #[H,g] (ZB qs) y)/\tR (dH 150) p qs=!b/\Q (.bl (if neg then not b else b)) H)\/
 ∃i j,x=.str i/\y=.str j/\Q (.bl (if neg then (Builtin.Str.occurrences j i 0 (-j) 1).isEmpty else not (Builtin.Str.occurrences j i 0 (-j) 1).isEmpty)) H
def uR(hr:gn b k X.A):ju X (compareOp .In) (Xu X.K M):=by
 intro ae s U H x y v u Q I rx W h;have hA:X.A.in1.units+150<cLine:=by have:=hr.un;show X.A.units+1+150<cLine;lia
 obtain⟨g,p,qs,b,rp,D,e,F⟩|⟨i,j,rfl,rfl,F⟩:=h
 . let(N,i2):=G6 e;obtain D|D:=D
   . let(a,vs,z,rfl,q1,l1,q,t1):=Ag I D W;show SeqAt.in_listAt (c6 X.K #[H,g] p qs vs z) t1 (Dv I rp rx l1 q N hA) #[.bl b,H,I,?_,F];rw[IW (xv:=x) (xu:=v) I l1 q N,<-i2];rfl
   . let(a,vs,z,rfl,q1,l1,q,t1):=Fq I D W;show SeqAt.in_tupleAt (c6 X.K #[H,g] p qs vs z) t1 (Dv I rp rx l1 q N hA) #[.bl b,H,I,?_,F];rw[IW (xv:=x) (xu:=v) I l1 q N,<-i2];rfl
 . show T6 ae s U H (.str i) (.str j) v u Q I rx W #[i,j,O,O,F]
def mB(x y:PV):Option Bool:=match y with
 |R qs=>tR (dH 150) x qs
 |ZB qs=>tR (dH 150) x qs
 |ZH j=>match x with
  |ZH i=>!(not (Builtin.Str.occurrences j i 0 (-j) 1).isEmpty)
  |_=>J
 |_=>J
def pB(p q:PV):Option Lc:=(mB p q).map λb=>Zp (.bl b)
def OY:pA K (Xu K neg) (λp q=>(mB p q).map λb=>Zp (.bl (if neg then not b else b))):=by
 intro H0 Z0 U Y pd H v w x y l Q s e k;let(b,z,rfl):=cp e;let(g,D,N):=s.rep2H;cases y with
 |lst F=>show Zl #[g,x,F,b,D,Zl N,z,k _ H (s.pop.pop.scal mq)]
 |tup F=>show Zl #[g,x,F,b,D,YY N,z,k _ H (s.pop.pop.scal mq)]
 |str j=>
  cases x with
  |str i=>
   let W:=d0 z;subst W;show YY #[i,j,dN D,dN N,?_];have:=k (.bl (if neg then (Builtin.Str.occurrences j i 0 (-j) 1).isEmpty else not (Builtin.Str.occurrences j i 0 (-j) 1).isEmpty)) H;show this (s.pop.pop.scal λZ=>?_);cases neg<;>simp[aT]
  |_=>cases z
 |_=>cases z
def qY:pA K (Xu K M) pB:=OY
def Zf:PV->Bool
 |.non=>G
 |_=>M
def Sw(p q:PV):Option Lc:=match q with
 |.non=>!(Zp (.bl (Zf p)))
 |_=>J
def OZ(r:aT K Z p v):decide (v=.non)=Zf p:=by
 cases p with
 |non=>have:=jL r;subst this;rfl
 |bl b=>have:=ji r;subst this;rfl
 |int b=>have:=cF r;subst this;rfl
 |str b=>have:=dN r;subst this;rfl
 |tup ps=> let(a,i,rfl,_):=r;rfl
 |lst ps=> let(a,i,rfl,_):=r;rfl
 |dk ks ps=> let(a,i,rfl,_):=r;rfl
 |dt ks ps=> let(a,i,rfl,_):=r;rfl
 |obj c ks ps=> let(a,c,dx,fs,rfl,_):=r;rfl
 |df ks ps=> let(a,o,j,rfl,_):=r;rfl
 |dtf ks ps=> let(a,o,j,rfl,_):=r;rfl
 |dx hk ks ps=> let(a,xs,rfl,_):=r;rfl
 |exc n=> let(a,c,rfl,_):=r;rfl
 |fn n=> let(a,rfl,_):=r;rfl
 |ptr n=> let(a,rfl,_):=r;rfl
def QC:pA K (λx y H Q=>y=.non/\Q (.bl (decide (x=.non))) H) Sw:=by
 intro H0 Z0 U Y pd H v w x y l Q s e k;let(g,i,q):=s.rep2H;cases y with
 |non=>
  let j:=d0 e;subst j;show#[jL q,?_];rw[OZ i];show k _ H (s.pop.pop.scal mq)
 |_=>cases e
def Ms:=CZ (λ_ _=>G) λi j=>.bl (decide (i<j))
def iV:=CZ (λ_ _=>G) λi j=>.bl (decide (j<i))
def Vd:pA K (zG λi j=>.bl (decide (i<j))) Ms:=LR λ_ _ _=>mq _
def mC:pA K (zG λi j=>.bl (decide (j<i))) iV:=LR λ_ _ _=>mq _
def Mt:=CZ (λ_ _=>G) λi j=>ZI (i-j)
def aZ:=CZ (λ_ j=>decide (0<j)) λi j=>ZI (i%j)
def bO:=CZ (λ_ j=>decide (0<j/\j<1073741824)) λi j=>ZI (i/j)
def gM:=CZ (λi j=>decide (((Neg.neg (2 ^ 64))<i/\i<2 ^ 64)\/((Neg.neg (2 ^ 64))<j/\j<2 ^ 64))) λi j=>ZI (i*j)
def Xv:=CZ (λi j=>decide (0<=j/\j<=1000000/\i.natAbs<2 ^ 64)) λi j=>ZI (i ^ j.toNat)
def QD:pA K (zG λi j=>.int (i-j)) Mt:=LR λ_ _ _=>gF _
def bQ:pA K (rI (λ_ j=>0<j) λi j=>.int (i%j)) aZ:=Ka (λ_ _ h=>of_decide_eq_true h) λ_ _ _=>gF _
def cZ:pA K (rI wP λi j=>.int (i/j)) bO:=Ka (λi j h=>(of_decide_eq_true h:0<j/\j<1073741824)) λ_ _ _=>gF _
def lG:pA K (rI RG λi j=>.int (i*j)) gM:=Ka (λi j h=>(of_decide_eq_true h:((Neg.neg (2 ^ 64))<i/\i<2 ^ 64)\/((Neg.neg (2 ^ 64))<j/\j<2 ^ 64))) λ_ _ _=>gF _
def O0:pA K (rI wT λi j=>.int (i ^ j.toNat)) Xv:=Ka (λi j h=>(of_decide_eq_true h:0<=j/\j<=1000000/\i.natAbs<2 ^ 64)) λ_ _ _=>gF _
def Wt(K:FG):R2:=λx y H Q=>zG (λi j=>.int (i+j)) x y H Q\/(∃i j,x=.str i/\y=.str j/\-i+-j<=sizeLine/\Q (.str (i++j)) H)\/
 (∃a b xs ys,x=.ref a/\y=.ref b/\bY K H a xs/\bY K H b ys/\-xs+-ys<=sizeLine/\∀p,H p=J->Q (.ref p) (aE H p (.lst (xs++ys))))\/YZ K x y H Q
def bD:ju X (binaryOp .Add) (Wt X.K):=HA.or (RK.or (KO.or Z4))
noncomputable def bf:PV->PV->Option Lc
 |ZI i,ZI j=>!(Zp (ZI (i+j)))
 |ZH i,ZH j=>if -i+-j<=100000 then !(Zp (ZH (i++j))) else J
 |R ps,R qs=>if -ps+-qs<=100000 then !(Zs (R (ps++qs))) else J
 |ZB (p::ps),ZB qs=>if -ps+-qs<=10000 then !(Zp (ZB (p::ps++qs))) else J
 |_,_=>J
def qZ{α:Type}[Decidable c]{a b:α}(e:(if c then !a else J)=!b):c/\a=b:=by
 split at e
 . grind
 . cases e
def O_(e:bf x y=!l):(∃i j,x=ZI i/\y=ZI j/\l=Zp (ZI (i+j)))\/(∃i j,x=ZH i/\y=ZH j/\-i+-j<=100000/\l=Zp (ZH (i++j)))
\/(∃ps qs,x=R ps/\y=R qs/\-ps+-qs<=100000/\l=Zs (R (ps++qs)))\/∃p ps qs,x=ZB (p::ps)/\y=ZB qs/\-ps+-qs<=10000/\l=Zp (ZB (p::ps++qs)):=by
 unfold bf at e;split at e
 . grind
 . grind
 . grind
 . grind
 . cases e
def bF:pA K (Wt K) bf:=by
 intro H0 Z0 U Y pd H v w x y l Q s e k;let(g,r1,r2):=s.rep2H;obtain⟨i,j,rfl,rfl,rfl⟩|⟨i,j,rfl,rfl,N,rfl⟩|⟨ps,qs,rfl,rfl,N,rfl⟩|⟨p,ps,qs,rfl,rfl,N,rfl⟩:=O_ e
 . show Zl #[i,j,cF r1,cF r2,k _ H (s.pop.pop.scal gF)]
 . show YY (Zl #[i,j,dN r1,dN r2,dQ N,k _ H (s.pop.pop.scal pq)])
 . let(W,Z,hg,z,rq,s1):=s.sh;let D:=s1.perm dD.symm;let(_,e1,rp):=D.1 _ be;cases e1;let(a,xs,rfl,h1,h2):=rp;let(b,ys,rfl,h3,F):=rq;show YY (YY (Zl #[a,b,xs,ys,O,O,bY.same z.zh h1,bY.same z.zh h3,by rw[h2.length,F.length];show dQ N,λp hp=>k _ _ ?_]));let(z',s'):=(D.sub (d5 _ _)).new (p:=R (ps++qs)) z hp #[xs++ys,bZ,h2.append F];show .mk W hg z' s'
 . let(W,Z,hg,z,rq,s1):=s.sh;let D:=s1.perm dD.symm;let(_,e1,rp):=D.1 _ be;cases e1;let(a,xs,rfl,h1,h2):=rp;let(b,ys,rfl,h3,F):=rq;have hx:xs≠[]:=λh=>by have:=-h2;rw[h]at this;simp at this
   let hz:=-h2;let xS:=-F;rw[bi]at hz;show YY (YY (YY #[a,b,xs,ys,O,O,cW.same z.zh h1,cW.same z.zh h3,hx,dQ (),λh=>?_,λh q hq=>?_]))
   . subst h;have:qs=[]:=we xS.symm;subst this;rw[da]at k;show k _ H s.pop
   . let s3:=D.sub (d5 _ _);let(z',sz,s'):=s3.newF z hq;show k _ _ (.mk (Z:=Z.put q (.tup (xs++ys))) W hg z' (s'.consS ?_));show#[q,xs++ys,O,cW.of bZ,(h2.append F).mono sz]
def qG:PV->PV->Option Lc
 |R ps,ZI i=>(fO ps i).map Zp
 |ZB ps,ZI i=>(fO ps i).map Zp
 |ZH x,ZI i=>if -x<=100000 then (fO x.cps.toList i).map λc=>Zp (ZH #[(List.toArray [c])]) else J
 |_,_=>J
def Bt{r:List β}(h:fO l i=!x)(e:-r=-l):∃(j:Nat),l[j]?=!x/\∀y,r[j]?=!y->fO r i=!y:=by let(j,h1,h2):=ba h;show#[j,h2,λy q=>?_];unfold fO;grind
def Pc(e:qG x y=!l):∃i,y=ZI i/\((∃ps,(x=R ps\/x=ZB ps)/\(fO ps i).map Lc.sh=!l)\/∃t c,x=ZH t/\-t<=100000/\fO t.cps.toList i=!c/\l=Zp (ZH #[(List.toArray [c])])):=by
 unfold qG at e;split at e
 . grind
 . grind
 . split at e
   . let(c,h1,rfl):=cp e;grind
   . cases e
 . cases e
def Ve:pA K (qo K) qG:=by
 intro H0 Z0 U Y pd H v w x y l Q s e k;let(i,rfl,hx):=Pc e;let(el,Z,hg,z,r2,s1):=s.sh;let s2:=s1.perm dD.symm;let(_,q,F):=s2.1 _ be;cases q;let s3:=s2.sub (d5 _ _);let ew:=cF r2;obtain⟨ps,hx,h0⟩|⟨x,c,rfl,hl,h1,rfl⟩:=hx
 . let(p,h1,rfl):=cp h0;obtain rfl|rfl:=hx
   . let(a,W,rfl,h2,D):=F;let(j,q,e2):=Bt h1 (-D);let(u,e3,N):=D.get q;show Zl #[a,W,i,u,O,ew,bY.same z.zh h2,e2 u e3,k _ H (.mk el hg z (s3.consS N))]
   . let(a,W,rfl,h2,D):=F;let(j,q,e2):=Bt h1 (-D);let(u,e3,N):=D.get q;show YY (Zl #[a,W,i,u,O,ew,cW.same z.zh h2,e2 u e3,k _ H (.mk el hg z (s3.consS N))])
 . show YY (YY #[x,i,c,dN F,ew,dQ hl,h1,k _ H (s.pop.pop.scal pq)])
def rm(ps:List PV)(lo hi:Option Int):List PV:=(ps.drop (HT.sIx (-ps) 0 lo)).take (HT.sIx (-ps) (-ps) hi-HT.sIx (-ps) 0 lo)
abbrev OF:=Ev->Option (Option Int×Ev)
def Fw(K:FG)(f:OF):TO:=λU H Q=>∃H0 Z0 Y pd r Y',SR K H0 Z0 U H Y pd/\f Y=!(r,Y')/\∀H',SR K H0 Z0 U H' Y' pd->Q r H'
def PO.imp(h:PO X e t)(i:∀U H Q,t' U H Q->t U H Q):PO X e t':=λae s U H Q I q=>h ae s U H Q I (i U H Q q)
def eU:OF:=λY=>!(J,Y)
def cM(f:EF):OF:=λY=>(f Y).bind λx=>match x.1.pv with
 |ZI i=>!(!i,x.2)
 |_=>J
def jX:PO X J (Fw X.K eU):=PO.imp ZZ λU H Q q=>by let(H0,Z0,Y,pd,r,Y',s,h,k):=q;cases h;show k H s
def eX(h:PE X e (tP X.K f)):PO X (!e) (Fw X.K (cM f)):=PO.imp (Z3 h) λU H Q q=>by
 let(H0,Z0,Y,pd,r,Y',s,h,k):=q;let(x,h1,h2):=ba h;show#[H0,Z0,Y,pd,x.1,x.2,s,h1,λv H1 z=>?_];let(_,j):=z.freeze.repH;cases e:x.1.pv with
 |int i=>
  rw[e]at h2 j;cases h2;show#[i,cF j,k H1 z.pop]
 |_=>grind
def aK.cut{lo hi:Option Int}(h:aK K Z ps vs):aK K Z (rm ps lo hi) (uK vs lo hi):=by unfold rm uK;rw[h.length];show(h.drop _).take _
def lQ(K:FG)(r:List V->Hp->VK->Prop)(g:List PV->Option Lc):Prop:=∀H0 Z0 U Y pd H vs ps l Q,-vs=-ps->SR K H0 Z0 U H Y (vs.zip (ps.map Lc.sh)++pd)->g ps=!l->(∀u H',SR K H0 Z0 U H' Y ((u,l)::pd)->Q u H')->r vs H Q
def eB(g:List PV->Option Lc)(a:AF):EF:=λY=>(a Y).bind λy=>(g (y.1.map Lc.pv)).map λl=>(l,y.2)
def pP(hs:lQ X.K r g):∀U H Q,tP X.K (eB g a) U H Q->zN r (jR X.K a) U H Q:=λU H Q q=>by
 let(H0,Z0,Y,pd,l,Y',s,f,k):=q;let(y,h1,h2):=ba f;let(l',j,N):=cp h2;cases N;show#[H0,Z0,Y,pd,y.1,y.2,s,h1,λF H2 W D=>?_];let i:=D.freezeAll;have z:(y.1.map λl=>Lc.sh l.pv)=(y.1.map Lc.pv).map Lc.sh:=by rw[fE];rfl
 rw[z]at i;show hs H0 Z0 U y.2 pd H2 F (y.1.map Lc.pv) _ Q ∅ i j k
def wJ{id:String}(i:lO X (.builtin id) r)(hs:lQ X.K r g)(h:PE X (.Call (.Name x p) (e::es) [] pos) (zN r (jR X.K a))):PE X (.Call (.Name x p) (e::es) [] pos) (tP X.K (eB g a)):=PE.imp h (pP hs)
def lQ.one{g:PV->Option Lc}(h:∀H0 Z0 U Y pd H v p l Q,SR K H0 Z0 U H Y ((v,Zp p)::pd)->g p=!l->(∀u H',SR K H0 Z0 U H' Y ((u,l)::pd)->Q u H')->r [v] H Q):
 lQ K r (λps=>match ps with |[p]=>g p |_=>J):=by
 intro H0 Z0 U Y pd H vs ps l Q e s hg k
 match ps,vs,e,s,hg with
 |[p],[v],_,s,hg=>show h H0 Z0 U Y pd H v p l Q s hg k
 |[p],[],e,_,_=>simp at e
 |[p],_::_::_,e,_,_=>simp at e
 |[],_,_,_,hg=>cases hg
 |_::_::_,_,_,_,hg=>cases hg
noncomputable def AB:PV->Option Lc
 |ZH x=>if -x<=100000 then !(Zp (ZI (-x))) else J
 |R ps=>!(Zp (ZI (-ps)))
 |ZB ps=>!(Zp (ZI (-ps)))
 |_=>J
abbrev cz:List PV->Option Lc:=λps=>match ps with |[p]=>AB p |_=>J
def Vf:lQ K (λxs H Q=>∃x n,xs=[x]/\Wq K x H n/\Q (.int n) H) cz:=lQ.one λH0 Z0 U Y pd H v p l Q s e k=>by
 let(_,r):=s.repH;cases p with
 |str x=>
  have i:(if -x<=100000 then !(Lc.sh (ZI (-x))) else J)=!l:=e;split at i
  . rename_i z;cases i;have:=dN r;subst this;show#[_,-x,O,#[dQ z,O],k _ H (s.pop.scal gF)]
  . cases i
 |lst ps=>
  cases e;let(a,j,rfl,h1,h2):=r;show#[_,-ps,O,Zl #[j,h1,h2.length.symm],k _ H (s.pop.scal gF)]
 |tup ps=>
  cases e;let(a,j,rfl,h1,h2):=r;show#[_,-ps,O,YY #[j,h1,h2.length.symm],k _ H (s.pop.scal gF)]
 |_=>cases e
def Pe:PV->Option Lc
 |R ps=>!(Zs (R ps))
 |ZB ps=>!(Zs (R ps))
 |_=>J
abbrev f7:List PV->Option Lc:=λps=>match ps with |[p]=>Pe p |_=>J
def wK:lQ K (λxs H Q=>∃p ys,xs=[.ref p]/\(bY K H p ys\/cW K H p ys)/\∀l,H l=J->Q (.ref l) (aE H l (.lst ys))) f7:=lQ.one λH0 Z0 U Y pd H v p l Q s e k=>by
 let(F,Z,N,z,r,W):=s.sh;cases p with
 |lst ps=>
  cases e;let(a,D,rfl,h1,h2):=r;show#[a,D,O,Zl (bY.same z.zh h1),λq i=>k _ _ ?_];let(j,s'):=W.new (p:=R ps) z i #[_,bZ,h2];show .mk F N j s'
 |tup ps=>
  cases e;let(a,D,rfl,h1,h2):=r;show#[a,D,O,YY (cW.same z.zh h1),λq i=>k _ _ ?_];let(j,s'):=W.new (p:=R ps) z i #[_,bZ,h2];show .mk F N j s'
 |_=>cases e
def Ev.set_set:(Y.set i x).set i y=Y.set i y:=by show Ev.mk ((Y.vs.set i x).set i y) Y.mu=_;rw[kK];rfl
def SR.takeO(s:SR K H0 Z0 U H Y pd)(e:Y.vs[i]?=!(!(Zs (R ws)))):
 ∃a,U[i]?=!(!(.ref a))/\(∃j,H a=!(.lst j))/\SR K H0 Z0 U H (Y.set i J) ((.ref a,Zs (R ws))::pd):=by
 let(v,Q,q):=s.take e;let(_,Z,_,z,D):=q.top;let(a,F,(j,N,_),_):=D.1 _ be;grind
def jM(i:Nat)(f:EF):SF:=λY=>match Y.vs[i]? with
 |some (!(Zs (R _)))=>(f Y).bind λy=>match y.2.vs[i]? with
  |some (!(Zs (R ws)))=>if -ws<100000 then !(.nx (y.2.set i (!(Zs (R (ws++[y.1.pv])))))) else J
  |_=>J
 |_=>J
def Pf(h:PS X (.Expr (.Call (.Attribute o "append" apos) [e] [] cpos) pos) (J3 (KZ X.K "list" GP (uH i) (jR X.K (aj f ao))))):
 PS X (.Expr (.Call (.Attribute o "append" apos) [e] [] cpos) pos) (iw X.K (jM i f)):=PS.imp h λD U H q=>by
 let(H0,Z0,Y,pd,fl,s,h,k):=q;unfold jM at h;split at h
 . rename_i ws0 e0;let(y,h1,h2):=ba h;let(a,z,(us,hu),_):=s.takeO e0;show#[.ref a,z,Zl #[O,us,bY.of hu],H0,Z0,Y,pd,[y.1],y.2,s,?_,λvs H2 e2 s2=>?_]
   . unfold aj ao;grind
   . let(v1,rfl):=yZ e2;split at h2
     . rename_i ws e3;split at h2
       . cases h2;let(a',j,_,s3):=SR.takeO s2 e3;rw[z]at j;cases j;let W:=s3.swap;let(N,F,hl,s5):=W.pushO;show#[a,N,v1,O,O,F,by rw[hl,sizeLine_eq];lia,k U _ ?_];let Q:=s5.put z;rw[Ev.set_set]at Q;show Q
       . cases h2
     . cases h2
 . cases h
def SR.extO(s:SR K H0 Z0 U H Y ((v,Zp (R ps))::(.ref a,Zs (R ws))::pd)):
 ∃b i zs,v=.ref b/\bY K H b zs/\H a=!(.lst i)/\-i=-ws/\-zs=-ps/\SR K H0 Z0 U (aE H a (.lst (i++zs))) Y ((.ref a,Zs (R (ws++ps)))::pd):=by
 let(F,Z,Q,z,r,N):=s.sh;let(b,zs,rfl,h1,h2):=r;let j:=N.perm dD.symm;let(_,eb,(i,hu,D),_):=j.1 _ be;cases eb;show#[b,i,zs,O,bY.same z.zh h1,hu,-D,-h2,?_];let(W,s'):=j.write (q:=R (ws++ps)) z #[i++zs,bZ,D.append h2];show .mk F Q W s'
def gb(i:Nat)(f:EF):SF:=λY=>match Y.vs[i]? with
 |some (!(Zs (R _)))=>(f Y).bind λy=>match y.1.pv,y.2.vs[i]? with
  |R ps,!(!(Zs (R ws)))=>if -ws+-ps<=100000 then !(.nx (y.2.set i (!(Zs (R (ws++ps)))))) else J
  |_,_=>J
 |_=>J
def Pm(h:PS X (.Expr (.Call (.Attribute o "extend" apos) [e] [] cpos) pos) (J3 (KZ X.K "list" (K4 X.K) (uH i) (jR X.K (aj f ao))))):
 PS X (.Expr (.Call (.Attribute o "extend" apos) [e] [] cpos) pos) (iw X.K (gb i f)):=PS.imp h λD U H q=>by
 let(H0,Z0,Y,pd,fl,s,h,k):=q;unfold gb at h;split at h
 . rename_i ws0 e0;let(y,h1,h2):=ba h;let(a,z,(us,hu),_):=s.takeO e0;show#[.ref a,z,Zl #[O,us,bY.of hu],H0,Z0,Y,pd,[y.1],y.2,s,?_,λvs H2 e2 s2=>?_]
   . unfold aj ao;grind
   . let(v1,rfl):=yZ e2;split at h2
     . rename_i ps ws ep e3;split at h2
       . rename_i hz;cases h2;let(a',j,_,s3):=SR.takeO s2 e3;rw[z]at j;cases j;let W:=s3.swap.freeze;rw[ep]at W;let(b,F,zs,rfl,hb,Q,hl,N,s5):=W.extO;show#[a,b,F,zs,O,O,Q,hb,by rw[hl,N];show dQ hz,k U _ ?_];let s6:=s5.put z;rw[Ev.set_set]at s6;show s6
       . cases h2
     . cases h2
 . cases h
def SR.setO(s:SR K H0 Z0 U H Y ((v,Zp p)::(.ref a,Zs (R ws))::pd)):
 ∃i,H a=!(.lst i)/\-i=-ws/\SR K H0 Z0 U (aE H a (.lst (i.set j v))) Y ((.ref a,Zs (R (ws.set j p)))::pd):=by
 let(N,Z,W,z,r,Q):=s.sh;let D:=Q.perm dD.symm;let(_,eb,(i,hu,F),_):=D.1 _ be;cases eb;show#[i,hu,-F,?_];let(z',s'):=D.write (q:=R (ws.set j p)) z #[i.set j v,bZ,F.set r j];show .mk N W z' s'
def Bu(i:Nat)(fi fv:EF):SF:=λY=>(fv Y).bind λx=>match x.2.vs[i]? with
 |some (!(Zs (R _)))=>(fi x.2).bind λy=>match y.1.pv,y.2.vs[i]? with
  |ZI k,!(!(Zs (R ws)))=>(uL (-ws) k).map λj=>.nx (y.2.set i (!(Zs (R (ws.set j x.1.pv)))))
  |_,_=>J
 |_=>J
def Po(h:PS X (.Assign [.Subscript o ix tpos] e pos) (Rz (tP X.K W) (Wk (uH i) (tP X.K fi) Y0_))):PS X (.Assign [.Subscript o ix tpos] e pos) (iw X.K (Bu i fi W)):=PS.imp h λD U H q=>by
 let(H0,Z0,Y,pd,fl,s,h,k):=q;let(x,h1,h2):=ba h;show#[H0,Z0,Y,pd,x.1,x.2,s,h1,λv H1 s1=>?_];split at h2
 . rename_i ws0 e0;let(y,h3,N):=ba h2;let(a,Q,_):=s1.takeO e0;show#[.ref a,Q,H0,Z0,x.2,_,y.1,y.2,s1.freeze,h3,λw H2 s2=>?_];split at N
   . rename_i kk ws ek e3;let(j,h5,rfl):=cp N;let(_,F):=s2.freeze.repH;rw[ek]at F;let ew:=cF F;let(a',z,_,s3):=s2.pop.takeO e3;rw[Q]at z;cases z;let(us,hu,hl,s4):=s3.swap.setO;show#[a,us,kk,j,O,ew,hu,by rw[hl];show h5,k U _ ?_];let s5:=s4.put Q;rw[Ev.set_set]at s5;show s5
   . cases N
 . cases h2
def Ai(i:g[n]?=!a)(q:mu[n]?=!o):∃ZN:Sl,Perm (cel g mu) ((!(.ref a),o.map Lc.own)::ZN)/\∀o',Perm (cel g (mu.set n o')) ((!(.ref a),o'.map Lc.own)::ZN):=by
 have h1:(g.map λa=>!(V.ref a))[n]?=!(!(.ref a)):=by rw[c5,i];rfl
 have h2:(mu.map λo=>o.map Lc.own)[n]?=!(o.map Lc.own):=by rw[c5,q];rfl
 let(ZN,j,p2):=Af (zip_get h1 h2);show#[ZN,j,λo'=>?_];have:=p2 (!(.ref a),o'.map Lc.own);rw[<-G4,iA h1]at this;unfold cel;grind
def SR.cellO(s:SR K H0 Z0 U H Y ((v,Zp (ZA n))::pd))(hm:Y.mu[n]?=!(!p)):
 ∃a,v=.ref a/\SR K H0 Z0 U H #[Y.vs,Y.mu.set n J] ((.ref a,Zs p)::(.ref a,Zp (ZA n))::pd):=by
 let(F,Z,hg,z,r,Q):=s.sh;let W:=r;let(a,rfl,N):=r;let(ZN,p1,p2):=Ai N hm;show#[a,O,.mk F ∅ z ?_];let i:=Q.perm (p1.append_right _).symm;have j:ah K H0 Z H ((!(.ref a),J)::(!(.ref a),!(Zs p))::(ZN++(U.zip Y.vs++pd.map λe=>(!e.1,!e.2)))):=by
  show#[λe D=>?_,?_]
  . obtain rfl|D:=a_.mp D
    . trivial
    . show i.1 e D
  .  show i.2
 let q:=(j.perm (Perm.swap _ _ _)).perm (Perm.cons _ ((p2 J).append_right _));show((q.consS W).perm (Perm.swap _ _ _)).perm (Perm.cons _ dD)
def SR.cellP(s:SR K H0 Z0 U H Y ((.ref a,Zs q)::(.ref a,Zp (ZA n))::pd))(hm:Y.mu[n]?=!J):SR K H0 Z0 U H #[Y.vs,Y.mu.set n (!q)] pd:=by let(N,Z,hg,z,r,W):=s.swap.sh;let(b,eb,Q):=r;cases eb;let(ZN,p1,p2):=Ai Q hm;let D:=W.perm dD.symm;show#[N,Z,by simpa using hg,z,?_];have F:Perm (sl Z.g U Y pd) ((!(.ref a),J)::(ZN++(U.zip Y.vs++pd.map λe=>(!e.1,!e.2)))):=p1.append_right _;let i:=D.perm (F.symm.cons _);let j:=i.sub ((d5 _ _).cons_cons _);show j.perm ((p2 (!q)).append_right _)
def aJ(fa fb:EF):EF:=λY=>(fa Y).bind λx=>(fb x.2).bind λy=>match x.1.pv,y.1.pv with
 |ZA n,ZI k=>match y.2.mu[n]? with
  |some (!(R ws))=>(fO ws k).map λp=>(Zp p,y.2)
  |_=>J
 |p,q=>(qG p q).map λl=>(l,y.2)
def fP(ha:PE X a (tP X.K fa))(hb:PE X b (tP X.K fb))(hm:Bh b):PE X (.Subscript a b pos) (tP X.K (aJ fa fb)):=PE.imp (RX Ub ha hb hm) λU H Q q=>by
 let(H0,Z0,Y,pd,l,Y',s,f,k):=q;let(x,h1,h2):=ba f;let(y,h3,i):=ba h2;show#[H0,Z0,Y,pd,x.1,x.2,s,h1,λv H1 s1=>#[H0,Z0,x.2,_,y.1,y.2,s1,h3,λw H2 s2=>?_]];let D:=s2.freeze.swap.freeze.swap;split at i
 . rename_i n kk en ek;split at i
   . rename_i ws F;let(p,h5,W):=cp i;cases W;rw[en,ek]at D;let(_,N):=D.repH;let ew:=cF N;let(a,rfl,s5):=D.pop.cellO F;let(el,Z,hg,z,so):=s5.top;let(_,ea,(us,hu,hr),_):=so.1 _ be;cases ea;let(j,e1,e2):=Bt h5 (-hr);let(u,e3,e4):=hr.get e1;show Zl #[a,us,kk,u,O,ew,bY.of hu,e2 u e3,k u H2 ?_];have s6:SR X.K H0 Z0 U H2 #[y.2.vs,y.2.mu.set n J] ((u,Zp p)::(.ref a,Zs (R ws))::(.ref a,Zp (ZA n))::pd):=.mk el hg z ((so.perm dD).consS e4);let hn:=(c9.mp F).1;let s7:=s6.perm (((Perm.swap _ _ _).cons _).trans (Perm.swap _ _ _));let s8:=s7.cellP ∅;have e8:(y.2.mu.set n J).set n (!(R ws))=y.2.mu:=by rw[kK];show iA F
     grind
   . cases i
 . let(l',h5,W):=cp i;cases W;show Ve H0 Z0 U y.2 pd H2 v w x.1.pv y.1.pv _ Q D h5 k
def Sx(g:AF):EF:=λY=>(cu g Y).bind λx=>match x.1 with
 |Zs p=>!(Zp (ZA (-x.2.mu)),#[x.2.vs,x.2.mu++[!p]])
 |_=>J
def Vg(h:PE X (.List es pos) (tP X.K (cu g))):PE X (.List es pos) (tP X.K (Sx g)):=PE.imp h λU H Q q=>by
 let(H0,Z0,Y,pd,l,Y',s,f,k):=q;let(x,h1,h2):=ba f;show#[H0,Z0,Y,pd,x.1,x.2,s,h1,λv H1 N=>?_];split at h2
 . rename_i p ep;cases h2;rw[ep]at N;let(W,Z,hg,z,j):=N.top;let(a,ea,ra,za,mE):=j.1 _ be;let i:=d0 ea;subst i;have F:iu Z #[Z.z,Z.g++[a]]:=#[eY_.refl _,nw _ _];let D:=j.step F λe he b hb=>#[O,(jn j he hb).1];show k _ H1 (.mk (Z:=#[Z.z,Z.g++[a]]) W ∅ #[z.zh,z.h0,z.z0.trans F,z.new] (ah.consS ?_ ?_))
   . show D.perm ?_;have ec:cel (Z.g++[a]) (x.2.mu++[!p])=cel Z.g x.2.mu++[(!(.ref a),!(Zs p))]:=by unfold cel;rw[cy,cy,jS ∅];rfl
     show Perm (cel (Z.g++[a]) (x.2.mu++[!p])++_) _;rw[ec,cx];show et
   . show#[a,O,by show (Z.g++[a])[-x.2.mu]?=!a;rw[hg,eW ()];simp]
 . cases h2
mutual
def di:PV->Bool
 |.non=>G
 |.bl _=>G
 |ZI _=>G
 |ZH _=>G
 |ZB ps=>ik ps
 |_=>M
def ik:List PV->Bool
 |[]=>G
 |p::ps=>di p&&ik ps
end
def Sy:Lc->Bool
 |Zp p=>di p
 |Zs (R ps)=>ik ps
 |Zs (.dk _ ps)=>ik ps
 |_=>M
def Zg:Option Lc->Option Lc
 |some l=>!(Zp l.pv)
 |none=>J
def Ev.peek(Y:Ev):Ev:=#[Y.vs.map Zg,Y.mu.map λ_=>J]
def vL(f:EF):EF:=λY=>(f Y.peek).bind λx=>if Sy x.1=G then !(x.1,Y) else J
noncomputable def zb:Option HO->Option HO->Option HO->Option HO
 |some (.tup vs),_,_=>!(.tup vs)
 |some (.frz o u),_,_=>!(.frz o u)
 |some _,z,_=>z
 |none,_,z=>z
def n8(H:Hp)(Z Z':ZG):ZG:=#[λb=>zb (H b) (Z.z b) (Z'.z b),Z.g]
def Vh(j:eY_ H H')(D:eY_ Z'.z H')(h:cW K Z'.z a vs):cW K (n8 H Z Z').z a vs:=by
 obtain (h|⟨o,h⟩)|h:=h
 . show Zl (Zl ?_);show zb (H a) (Z.z a) (Z'.z a)=_;cases q:H a with
   |none=>show h
   |some o=>
    let i:=j a o q;rw[D a _ h]at i;cases i;rfl
 . show Zl (YY #[o,?_]);show zb (H a) (Z.z a) (Z'.z a)=_;cases q:H a with
   |none=>show h
   |some o'=>
    let i:=j a o' q;rw[D a _ h]at i;cases i;rfl
 . show YY h
mutual
theorem Mv(i:eY_ H H')(j:eY_ Z'.z H'):∀{p:PV}{v:V},di p=G->aT K Z' p v->aT K (n8 H Z Z') p v
 |.non,v=>λ_ h=>by  show h
 |.bl _,v=>λ_ h=>by  show h
 |ZI _,v=>λ_ h=>by  show h
 |ZH _,v=>λ_ h=>by  show h
 |ZB ps,v=>λf h=>by let(a,q,e,h1,h2):=h;show#[a,q,e,Vh i j h1,vM i j f h2]
 |R _,v=>λf _=>by  cases f
 |.dk _ _,v=>λf _=>by  cases f
 |.dt _ _,v=>λf _=>by  cases f
 |.obj _ _ _,v=>λf _=>by  cases f
 |.df _ _,v=>λf _=>by  cases f
 |.dtf _ _,v=>λf _=>by  cases f
 |.dx _ _ _,v=>λf _=>by  cases f
 |.exc _,v=>λf _=>by  cases f
 |.fn _,v=>λf _=>by  cases f
 |ZA _,v=>λf _=>by  cases f
theorem vM(i:eY_ H H')(j:eY_ Z'.z H'):∀{ps:List PV}{vs:List V},ik ps=G->aK K Z' ps vs->aK K (n8 H Z Z') ps vs
 |[],vs=>λ_ h=>by  show h
 |p::ps,vs=>λf h=>by let(v,r,rfl,h1,h2):=h.inv;unfold ik at f;rw[fF]at f;show aK.cons (Mv i j f.1 h1) (vM i j f.2 h2)
end
def SR.lookB(s:SR K H0 Z0 U H Y pd):
 ∃Z,(-U=-Y.vs/\-Y.mu=-Z.g/\iu Z #[H,Z.g]/\ah K H0 Z H (sl Z.g U Y pd))/\(∀H' v r Y1,SR K H #[H,Z.g] U H' Y1 [(v,r)]->Sy r=G->SR K H0 Z0 U H' Y ((v,r)::pd))/\∀H' Y1,SR K H #[H,Z.g] U H' Y1 []->SR K H0 Z0 U H' Y pd:=by
 let(el,Z,hg,z,so):=s;have back:∀{H':Hp}{Z':ZG},jQ H #[H,Z.g] Z' H'->jQ H0 Z0 (n8 H Z Z') H'/\ah K H0 (n8 H Z Z') H' (sl Z.g U Y pd):=λ{H' Z'} i=>by
  have zz:iu Z (n8 H Z Z'):=#[λb o e=>by show zb (H b) (Z.z b) (Z'.z b)=_;let hb:=z.zh b o e;rw[hb];cases o<;>first |rfl |show e,iO _]
  have N:∀b o,(n8 H Z Z').z b=!o->(∃u,H b=!u/\((J9 u/\o=u)\/Z.z b=!o))\/(H b=J/\Z'.z b=!o):=λb o e=>by
   have e:zb (H b) (Z.z b) (Z'.z b)=!o:=e;cases q:H b with
   |none=>rw[q]at e;show YY #[O,e]
   |some u=>
    rw[q]at e;show Zl #[u,O,?_];cases u with
    |tup vs=>cases e;show Zl #[trivial,O]
    |frz o' u=>cases e;show Zl #[trivial,O]
    |_=>show YY e
  show#[#[λb o e=>?_,z.h0.trans i.h0,z.z0.trans zz,λb o e=>?_],?_]
  . obtain⟨u,hu,⟨_,rfl⟩|D⟩|⟨_,D⟩:=N b o e
    . show i.h0 b _ hu
    . show i.h0 b o (z.zh b o D)
    . show i.zh b o D
  . obtain⟨u,hu,⟨hi,rfl⟩|D⟩|⟨hn,D⟩:=N b o e
    . grind
    . show z.new b o D
    . show YY (Zl (z.h0.free hn))
  . show so.step zz λe j a ha=>?_;let(h1,h2,o,h3,h4):=jn so j ha;show#[by rw[h3];show i.h0 a o h3,?_];show zb (H a) (Z.z a) (Z'.z a)=_;rw[h3];cases o with
    |tup vs=>show(h4 trivial).elim
    |frz o u=>show(h4 trivial).elim
    |_=>show h1
 show#[Z,#[el,hg,#[z.zh,iO _],so],λH' v r Y1 s1 W=>?_,λH' Y1 s1=>?_]
 . let(_,Z',sN,i,s2):=s1.top;let(zo,Q):=back i;let q:=s2.1 _ be;show .mk (Z:=n8 H Z Z') el hg zo ?_;cases r with
   |sh p=>
    let(x,e1,F):=q;cases e1;show Q.consS (Mv i.h0 i.zh W F)
   |own p=>
    let(a,e1,F,e3,e4):=q;let ma:=d0 e1;subst ma;have fin:∀{q:PV},qU K (n8 H Z Z') H' a q->ah K H0 (n8 H Z Z') H' ((!(.ref a),!(Zs q))::sl Z.g U Y pd):=λF=>by
     show#[λe j=>?_,?_]
     . obtain rfl|j:=a_.mp j
       . show#[a,O,F,?_,z.h0.free e4];show zb (H a) (Z.z a) (Z'.z a)=_;rw[e4];show e3
       . show Q.1 e j
     . show fI.mpr #[λhm=>?_,Q.2];let(e,j,hb):=hY.mp hm;let(_,_,o,h3,_):=jn so j hb;grind
    suffices h:qU K (n8 H Z Z') H' a p by show fin h
    cases p with
    |lst ps=>
     let(vs,g1,g2):=F;show#[vs,g1,vM i.h0 i.zh W g2]
    |dk ks ps=>
     let(aS,g1,g2,g3):=F;show#[aS,g1,g2,vM i.h0 i.zh W g3]
    |_=>cases W
 . let(_,Z',sN,i,s2):=s1;let(zo,Q):=back i;show#[el,n8 H Z Z',hg,zo,Q]
def SR.peeked{Z:ZG}(N:-U=-Y.vs)(D:-Y.mu=-Z.g)
 (hs:∀v o,(v,o)∈U.zip Y.vs->pk o=J\/∃x p,pk o=!(Zp p)/\v=!x/\aT K #[H,Z.g] p x):SR K H #[H,Z.g] U H #[Y.vs.map pk,Y.mu.map λ_=>J] []:=by
 have key:∀v l,(v,l)∈sl Z.g U #[Y.vs.map pk,Y.mu.map λ_=>J] []->l=J\/∃x p,l=!(Zp p)/\v=!x/\aT K #[H,Z.g] p x:=λv l i=>by
  obtain i|i:=cr.mp i
  . let(_,h2):=iP i;grind
  . rw[j1,da]at i;rw[List.zip_map_right]at i;let(e,j,z):=ck.mp i;cases z;show hs _ _ j
 show#[by simp[N],#[H,Z.g],by simp[D],#[eY_.refl _,eY_.refl _,iu.refl _,λb o e=>Zl e],λe i=>?_,?_]
 . let(v,l):=e;obtain rfl|⟨x,p,rfl,rfl,r⟩:=key v l i
   . trivial
   . show#[x,O,r]
 . have:(sl Z.g U #[Y.vs.map pk,Y.mu.map λ_=>J] []).filterMap mj=[]:=by
    rw[filterMap_eq_nil_iff];intro e i;let(v,l):=e;obtain rfl|⟨x,p,rfl,rfl,_⟩:=key v l i
    . cases v with
      |none=>rfl
      |some x=>cases x<;>rfl
    . cases x<;>rfl
   rw[this];grind
def SR.look(s:SR K H0 Z0 U H Y pd):
 ∃i,SR K H i U H Y.peek []/\(∀H' v r Y1,SR K H i U H' Y1 [(v,r)]->Sy r=G->SR K H0 Z0 U H' Y ((v,r)::pd))/\∀H' Y1,SR K H i U H' Y1 []->SR K H0 Z0 U H' Y pd:=by
 let(Z,(F,Q,D,N),W,b2):=s.lookB;show#[_,SR.peeked F Q λv o he=>?_,W,b2];let q:=N.1 _ (eT _ (ga _ he))
 match o,q with
 |none,_=>show Zl O
 |some (Zp p),#[x,j,z]=>show YY #[x,p,O,j,z.mono D]
 |some (Zs p),#[a,j,z,_]=>show YY #[.ref a,p,O,j,z.rep D O]
def Pp(mu:Mu):PV->PV
 |ZA n=>match mu[n]? with
  |some (!p)=>p
  |_=>ZA n
 |p=>p
def peekC(mu:Mu):Option Lc->Option Lc
 |some l=>!(Zp (Pp mu l.pv))
 |none=>J
def Ev.peekC(Y:Ev):Ev:=#[Y.vs.map (PL.peekC Y.mu),Y.mu.map λ_=>J]
def Xw:∀U H Q,tP K (vL f) U H Q->tP K f U H Q:=λU H Q q=>by
 let(H0,Z0,Y,pd,r,Y',s,h,k):=q;let(x,h1,h2):=ba h;let(z,F,j,_):=s.look;split at h2
 . rename_i i;cases h2;show#[H,z,Y.peek,[],x.1,x.2,F,h1,λv H' D=>k v H' (j H' v x.1 x.2 D i)]
 . cases h2
def Kh(h:PE X e (tP X.K f)):PE X e (tP X.K (vL f)):=PE.imp h Xw
end
def yt(x:Str):It:=#[λi _=>i< ~~~x.cps,λi H v H'=>H'=H/\∃c,x.cps[i]?=!c/\v=.str #[(List.toArray [c])],λi _=>i= ~~~x.cps]
def Mw(j:Addr)(x:Str){St:Nat->Heap->Prop}(W:∀A':Around,A'.handled=J->Walks P w A' j [j] [j] x.cps.size (SignAt x) St)
 (hob:∀i h,St i h->∃o,h.get? j=!o/\∀v,o.data≠.cell v) (Ps:∀(A:Around)(i:Nat)(s:Shared)(Q:Value->Shared->Prop)(E:Value->Shared->Prop),St i s.heap->Q (YV j) s->wpAny (model P w) A (pyIter (YV j)) Q E s):fz P w K tg (yt x) [j] j St where
 mem:=by simp
 obj:=λi h st b q=>by
  have e:b=j:=by simpa using q
  grind
 keep:=λi h h' st k=>(W {} O).frame i h h' st k
 item:=by intro X hP hw hK hc i ae s U H E I D st N;let(F,f1,f2,f3,f4,f5):=D j (by simp);show(W X.A (I.ok.hd hc)).item i s _ E N st λv h' tk hv db hk=>?_;let(c,u,e1,rfl):=hv;show#[_,O,?_];have fin:∃z H',ai X ae U H' { s with heap:=h',toks:=tk }/\av z (.str #[(List.toArray [c])] u)/\(yt x).yld i H z H'/\St (i+1) h'/\∀b∈[j],H' b=J:=#[.str #[(List.toArray [c])],H,(I.turned (λb o q e=>hk b o ∅ e) F f1 f3 f4 f5),#[u,O],#[O,c,e1,O],db,λb q=>(D b q).1];cases tg<;>show aI fin
 done:=by intro X hP hw hK hc i ae s U H E I D st N;let(F,f1,f2,f3,f4,f5):=D j (by simp);subst N;show(W X.A (I.ok.hd hc)).done s _ E st λh' tk hk=>#[O,I.turned (λb o q e=>hk b o ∅ e) F f1 f3 f4 f5]
 self:=λA i s Q E st h=>Ps A i s Q E st h
section
variable {X:Cx}
noncomputable def ge (x:Str):List PV:=x.cps.toList.map λc=>ZH #[(List.toArray [c])]
def Xx:qX K H0 Z0 pd (yt x) (ge x):=by
 intro U H Y i s;show#[λp q=>?_,λD=>?_]
 . unfold ge at q;rw[c5]at q;let(c,z,rfl):=cp q;let hi:=(c9.mp z).1;show#[(show i< ~~~x.cps by simpa using hi),λv H' y=>?_];let(rfl,F,j,rfl):=y;have:F=c:=by rw[Array.getElem?_toList]at z;rw[z]at j;show(d0 j).symm
   subst this;show s.scal pq
 . show i= ~~~x.cps;simpa [ge] using D
def O2{bs:List Bool}(z:am ys bp)(e:ys=bs.map V.bl):TruthOf P w A (λi v=>bp.toArray[i]?=!v) (λi=>bs.getD i M):=by
 intro i v s Q E N q;have j:bp[i]?=!v:=by simpa using N
 let hi:=(c9.mp j).1;let W:=-z;have D:i< -bs:=by rw[e,bo]at W;lia
 let(u,h1,h2):=z.get (by rw[e,c5,ed D];rfl);rw[j]at h1;cases h1;cases h2;have:bs.getD i M=bs[i]:=by simp[D]
 have F:Q (bs.getD i M) s:=q;rw[this]at F;show wpAny_truthy_bool F
def range_any{bs:List Bool}:((List.range (-bs)).any λi=>bs.getD i M)=bs.any id:=by
 induction bs with
 |nil=>rfl
 |cons b r j=>
  rw[bi,List.range_succ_eq_map,oQ,List.any_map,oQ];have:((List.range (-r)).any ((λi=>(b::r).getD i M) ∘ Nat.succ))=(List.range (-r)).any λi=>r.getD i M:=O;rw[this,j];rfl
def mD(hc:X.calm=G):lO X (.builtin "any") (λxs H Q=>∃(p:Addr)(bs:List Bool),xs=[.ref p]/\bY X.K H p (bs.map V.bl)/\Q (.bl (bs.any id)) H):=by
 intro ae s U H xs us Q I r h;let(p,bs,rfl,hq,q):=h;let(u,rfl,ru):=dv r;cases ru;let(j,N,pl,_):=I.list hq;have D:p< ~~~s.heap.objs:=by let(o,n,F,_):=pl;show bP F
 show call_any_walk (wpAny_pyIter_list pl.isList ?_);have z:∀b o,s.heap.get? b=!o->(s.heap.push { cls:=.type "list_iterator",data:=.fields (List.toArray [YV p,.int 0 0]) }).get? b=!o:=λb o e=>cE _ e;have hl: ~~~j.toArray=-bs:=by rw[eP,<-(-N),bo]
 show#[s.heap.objs.size,_,_,_,_,_,λi=>bs.getD i M,O,Walks.list (show X.A.in1.handled=J from I.ok.hd hc) _ p (de D) j.toArray,#[#[_,dE _ O,O,O],?_],O2 N O,λh' tk hk=>?_]
 . let(o,F,W):=pl.isList;show#[o,z _ _ F,W]
 . rw[hl,range_any];show#[.bl _,H,I.kept λb o e=>hk b o ?_ (z b o e),O,q];have:=bP e;simp;show de this
noncomputable def cf:List PV->Option (List Bool)
 |[]=>![]
 |.bl b::r=>(cf r).map (b::·)
 |_=>J
theorem Ja:∀{ps:List PV}{bs:List Bool}{vs:List V},cf ps=!bs->aK K Z ps vs->vs=bs.map V.bl
 |[],bs,vs=>λh r=>by cases h;show r.inv0
 |p::ps,bs,vs=>λh r=>by
  cases p with
  |bl b=>
   let(cs,h1,rfl):=cp h;let(v,w,rfl,i,j):=r.inv;rw[ji i,Ja h1 j];rfl
  |_=>cases h
def Pt:PV->Option Lc
 |R ps=>(cf ps).map λbs=>Zp (.bl (bs.any id))
 |_=>J
abbrev Aj:List PV->Option Lc:=λps=>match ps with |[p]=>Pt p |_=>J
def Fx:lQ K (λxs H Q=>∃(p:Addr)(bs:List Bool),xs=[.ref p]/\bY K H p (bs.map V.bl)/\Q (.bl (bs.any id)) H) Aj:=lQ.one λH0 Z0 U Y pd H v p l Q s e k=>by
 let(_,r):=s.repH;cases p with
 |lst ps=>
  let(bs,h1,rfl):=cp (e);let(a,j,rfl,h2,i):=r;have:=Ja h1 i;subst this;show#[a,bs,O,h2,k _ H (s.pop.scal mq)]
 |_=>cases e
noncomputable def d_:List PV->Option (List Str)
 |[]=>![]
 |ZH x::r=>(d_ r).map (x::·)
 |_=>J
theorem Mx:∀{ps:List PV}{xs:List Str}{vs:List V},d_ ps=!xs->aK K Z ps vs->vs=xs.map V.str
 |[],xs,vs=>λh r=>by cases h;show r.inv0
 |p::ps,xs,vs=>λh r=>by
  cases p with
  |str b=>
   let(cs,h1,rfl):=cp h;let(v,w,rfl,j,q):=r.inv;rw[dN j,Mx h1 q];rfl
  |_=>cases h
theorem Fy:∀{xs:List Str}{i:List Value},am (xs.map V.str) i->StrsAre i xs
 |[],_,.nil=>.nil
 |x::xs,_,.cons r t=>by let(j,rfl):=r;show .cons _ _ (Fy t)
def QF:Ud X "str.join" (λx xs H Q=>∃(z:Str)(p:Addr)(ys:List Str),x=.str z/\xs=[.ref p]/\bY X.K H p (ys.map V.str)/\(ys.map (·.length)).sum+-ys*-z<=16777216/\Q (.str (Txt.join z ys)) H):=by intro ae s U H x vs v us Q I D F h;let(z,p,ys,rfl,rfl,W,i,q):=h;let(t,rfl):=D;let(u,rfl,ru):=F.one;cases ru;let(j,fw,pl,_):=I.list W;show join_list pl.isList (by simpa using Fy fw) i λN k=>#[.str _,H,I.tok k,#[N,O],q]
def rY(f:EF)(a:AF):EF:=λY=>(f Y).bind λx=>(a x.2).bind λy=>match x.1.pv,y.1.map Lc.pv with
 |ZH z,[R ps]=>(d_ ps).bind λxs=>if (xs.map (·.length)).sum+-xs*-z<=100000 then !(Zp (ZH (Txt.join z xs)),y.2) else J
 |_,_=>J
def Zh(h:PE X (.Call (.Attribute o "join" apos) [e] [] cpos) (KZ X.K "str" (λx xs H Q=>∃(z:Str)(p:Addr)(ys:List Str),x=.str z/\xs=[.ref p]/\bY X.K H p (ys.map V.str)/\(ys.map (·.length)).sum+-ys*-z<=16777216/\Q (.str (Txt.join z ys)) H) (tP X.K f) (jR X.K a))):
 PE X (.Call (.Attribute o "join" apos) [e] [] cpos) (tP X.K (rY f a)):=PE.imp h λU H Q q=>by
 let(H0,Z0,Y,pd,r,Y',s,h,k):=q;let(x,h1,h2):=ba h;let(y,h3,i):=ba h2;show#[H0,Z0,Y,pd,x.1,x.2,s,h1,λv H1 D=>?_];split at i
 . rename_i z ps ez ep;let(xs,h5,j):=ba i;split at j
   . cases j;let(_,N):=D.freeze.repH;rw[ez]at N;have:=dN N;subst this;show#[O,H0,Z0,x.2,pd,y.1,y.2,D.pop,h3,λvs H2 e2 s2=>?_];let(W,Z,hg,F,rl,ss):=s2.repl e2;rw[ep]at rl;let(w,rr,rfl,r1,r2):=rl.inv;have:=r2.inv0;subst this;let(b,ws,rfl,g1,g2):=r1;have:=Mx h5 g2;subst this;show#[z,b,xs,O,O,bY.same F.zh g1,(),k _ H2 (.mk W hg F (ss.consS (pq _)))]
   . cases j
 . cases i
noncomputable def Pw:PV->Option Lc
 |ZI i=>if i.natAbs.log2<1920 then !(Zp (ZH (toString i))) else J
 |_=>J
abbrev gp:List PV->Option Lc:=λps=>match ps with |[p]=>Pw p |_=>J
def My:lQ K (λxs H Q=>∃i,xs=[.int i]/\i.natAbs.log2<1920/\Q (.str (toString i)) H) gp:=lQ.one λH0 Z0 U Y pd H v p l Q s e k=>by
 let(_,r):=s.repH;cases p with
 |int i=>
  have j:(if i.natAbs.log2<1920 then !(Lc.sh (ZH (toString i))) else J)=!l:=e;split at j
  . rename_i z;cases j;have:=cF r;subst this;show#[i,O,z,k _ H (s.pop.scal pq)]
  . cases j
 |_=>cases e
end
section
variable {prog:Program}{w:World}{A:Around}{E:Value->Shared->Prop}{s:Shared}
theorem Jb(D:t≠F):∀(n i:Nat)(s:Shared)(Q:List Value->Shared->Prop),s.heap.IsListIter F t i->s.heap.IsList t items->i+n<= ~~~items->
 (∀h',h'.IsListIter F t (i+n)->Heap.SameBut F s.heap h'->Q ((items.toList.drop i).take n) { s with heap:=h' })->wpAny (model prog w) A (draw (YV F) n) Q E s
 |0=>λi s Q j _ _ hQ=>aI (by simpa using hQ s.heap j (Heap.SameBut.refl ..))
 |n+1=>λi s Q j ht M2 hQ=>by
  have W:i< ~~~items:=()
  show al (wpAny_pyNext_list_item j ht (x:=items[i]) ∅ λh₁ z q=>?_);show al (wpAny_holding (Jb D n (i+1) _ _ z (ht.extBut q.extBut D) () λh₂ hit₂ PC=>aI ?_));have hd:items.toList.drop i=items[i]::items.toList.drop (i+1):=by simp[kD,W]
  have:=hQ h₂ ∅ (q.trans PC);grind
def Dw(hh:A.handled=J)(F:s.heap.IsList t items)
 (hQ:∀h',Heap.ExtBut s.heap.objs.size s.heap h'->Q items.toList { s with heap:=h' }):wpAny (model prog w) A (unpackItems (YV t) items.size J) Q E s:=by
 have z:t≠s.heap.objs.size:=by let(o,ho,_):=F;show de (bP ho)
 show al ?_
 . show al (wpAny_specialOf F.typeIs slot_list_iter.lookup ?_);show aI ?_;show al (wpAny_holding (wpAny_pyIter_list F ?_));show al (wpAny_holding (Jb z items.size 0 _ _ #[_,dE _ O,O,O] (by let(o,g1,W):=F;show#[o,cE _ g1,W]) () λh₁ q j=>?_));have D:take items.size (drop 0 items.toList)=items.toList:=by rw[drop_zero];show nr ()
   rw[D];rw[ay (by simp)];let PF:=Heap.IsList.extBut (by let(o,g1,W):=F;show#[o,cE _ g1,W]) j.extBut z;show al (wpAny_holding (wpAny_pyNext_list_end hh q PF (by simp) λh₂ PH=>?_));show aI (hQ h₂ λb o hb e=>PH b o hb (j.extBut b o hb (cE _ e)))
end
section
variable {X:Cx}{pos:Pos}
def AC(K:FG)(n:Nat)(t:yU):TG:=λv U H Q=>∃a xs,v=.ref a/\(cW K H a xs\/bY K H a xs)/\-xs=n/\t xs U H Q
def iW{k:Nat}(hc:X.calm=G)(h:TQ X es t)
 (N:-(assignEach es X.env)=n:=by rfl) (i:(assignEach es X.env).findIdx? (·.1)=J:=by rfl):PG X (.Tuple es k pos) (AC X.K n t):=by
 intro ae s U H v u Q I r q;let(a,xs,F,j,W,q):=q;obtain j|j:=j
 . show GG hc h N i ae s U H v u Q I r #[a,xs,F,j,W,q]
 . subst F;cases r;let(D,rv,ht,hz):=I.list j;show al (wpAny_standAt ?_);unfold unpack;have z:-(assignEach es X.env)= ~~~D.toArray:=by simp[N,<-W,rv.length]
   rw[z,i];show al (wpAny_holding (Dw (I.ok.hd hc) ht.isList λh' hx=>?_));let I1:=I.kept (t':=s.toks) λb o e=>hx b o (de (bP e)) e;show h ae _ U H xs _ Q I1 () q
noncomputable def fC (n:Nat) (bs:Mh):BF:=λp Y=>match p with
 |ZB ps=>if -ps=n then bs ps Y else J
 |R ps=>if -ps=n then bs ps Y else J
 |_=>J
def iY(h1:Zc K t bs):GS K (AC K n t) (fC n bs):=by
 intro H0 Z0 U H Y pd v p Y' Q s h k;cases p with
 |tup ps=>
  have h':(if -ps=n then bs ps Y else J)=!Y':=h;split at h'
  . rename_i F;let(e,Z,D,z,r,j):=s.sh;let(a,q,rfl,h2,i):=r;show#[a,q,O,Zl (cW.same z.zh h2),by rw[i.length];show F,h1 H0 Z0 U H Y pd q ps Y' Q (-i) (SR.items e D z i j) h' k]
  . cases h'
 |lst ps=>
  have h':(if -ps=n then bs ps Y else J)=!Y':=h;split at h'
  . rename_i F;let(e,Z,D,z,r,j):=s.sh;let(a,q,rfl,h2,i):=r;show#[a,q,O,YY (bY.same z.zh h2),by rw[i.length];show F,h1 H0 Z0 U H Y pd q ps Y' Q (-i) (SR.items e D z i j) h' k]
  . cases h'
 |_=>cases h
def PM(K:FG)(tl:TE):TI:=λU H ZN=>tl U H λx H1=>(∃a,x=.ref a/\(∃xs,bY K H1 a xs)/\ZN (YK K a) H1)\/(∃a,x=.ref a/\(∃xs,cW K H1 a xs)/\ZN (YL K a) H1)\/∃z,x=.str z/\ZN (yt z) H1
def PR(hl:PE X l tl):PI X tg l (PM X.K tl):=by
 intro ae s U H ZN I h;have PU:∀(v:Value)(j:Shared)(x:V)(H1:Hp),ai X ae U H1 j->av x v->((∃a,x=.ref a/\(∃xs,bY X.K H1 a xs)/\ZN (YK X.K a) H1)\/(∃a,x=.ref a/\(∃xs,cW X.K H1 a xs)/\ZN (YL X.K a) H1)\/∃z,x=.str z/\ZN (yt z) H1)->
  wpAny (model X.prog X.w) X.A (pyIter v) (nK X ae U tg ZN) X.xe j:=λv j x H1 D F q=>by
  have fp:∀b,b∈[j.heap.objs.size]->nJ X ae H1 b:=λb hb=>by
   have e:b= ~~~j.heap.objs:=by simpa using hb
   subst e;show D.fpOk () (D.hok.fresh ())
  obtain⟨a,rfl,⟨xs,N⟩,q⟩|⟨a,rfl,⟨xs,N⟩,q⟩|⟨z,rfl,q⟩:=q
  . cases F;let(bp,rv,p,hz):=D.list N;show wpAny_pyIter_list p.isList #[j.heap.objs.size,[j.heap.objs.size],_,_,H1,O,D.kept λb o e=>cE _ e,TV a _,#[_,dE _ O,O,O],fp,q]
  . cases F;let(bp,rv,p,hz):=D.tuple N;show wpAny_pyIter_tuple p #[j.heap.objs.size,[j.heap.objs.size],_,_,H1,O,D.kept λb o e=>cE _ e,RC a _,#[_,dE _ O,O,O],fp,q]
  . let(t,rfl):=F;have kp:∀(o:Obj),ai X ae U H1 { j with heap:=j.heap.push o }:=λo=>D.kept λb u e=>cE _ e;have ob:∀{n:String}(i:Nat)(h:Heap),h.IsStrIter j.heap.objs.size n z t i->∃o,h.get? j.heap.objs.size=!o/\∀v,o.data≠.cell v:=λi h st=>by let(o,ho,_,hd):=st;show#[o,ho,λv e=>by rw[hd]at e;cases e]
    cases ha:z.cps.all (·<128)
    . show wpAny_pyIter_wide ha #[j.heap.objs.size,[j.heap.objs.size],_,yt z,H1,O,kp _,Mw _ z (λA' W=>Walks.strWide W _ z t) ob (λA i s Q E st h=>wpAny_pyIter_striter_wide st h),#[_,dE _ O,O,O],fp,q]
    . show wpAny_pyIter_ascii ha #[j.heap.objs.size,[j.heap.objs.size],_,yt z,H1,O,kp _,Mw _ z (λA' W=>Walks.strAscii W _ z t) ob (λA i s Q E st h=>wpAny_pyIter_striter_ascii st h),#[_,dE _ O,O,O],fp,q]
 show dg (hl ae s U H _ I h) λv j PY=>by let(x,H1,D,F,q):=PY;show PU v j x H1 D F q
def bJ:PV->Option (List PV)
 |R ps=>!ps
 |ZB ps=>!ps
 |ZH x=>!(ge x)
 |_=>J
def cA(W:PE X l (tP X.K f)):PI X tg l (Iz X.K (dh f bJ)):=PI.imp (PR W) λU H ZN q=>by
 let(H0,Z0,Y,pd,xs,Y',s,h,k):=q;let(x,h1,h2):=ba h;let(ys,j,h4):=cp h2;cases h4;show#[H0,Z0,Y,pd,x.1,x.2,s,h1,λv H1 Q=>?_];let i:=Q.freeze;cases e:x.1.pv with
 |lst ps=>
  rw[e]at j i;cases j;let(Z,z,r):=i.rep;let(b,N,rfl,D,F):=r;show Zl #[b,O,#[N,bY.same z D],k _ _ _ i Va (d5 _ _)]
 |tup ps=>
  rw[e]at j i;cases j;let(Z,z,r):=i.rep;let(b,N,rfl,D,F):=r;show YY (Zl #[b,O,#[N,cW.same z D],k _ _ _ i Xo (d5 _ _)])
 |str z=>
  rw[e]at j i;cases j;let(_,r):=i.repH;show YY (YY #[z,dN r,k _ _ _ i.pop Xx (lP _)])
 |_=>rw[e]at j;cases j
end
section
variable {P:Program}{w:World}{K:FG}{mg:Str->Option Value}{base:Heap}
def QG(mg:Str->Option Value)(L:List Str):Prop:=∀x∈L,mg x=J
def jY{st:Stmt}(F:cL K mg x st ps):bI P w K mg base x k ps (bW K (-ps) λ_ _=>J):=by
 let(f,fd,F,z,D):=F;have W:∀i H Q E,¬ bW K (-ps) (λ_ _=>J) i H Q E:=λi H Q E h=>by let(_,_,_,_,_,_,_,_,_,_,h,_):=h;cases h
 show#[f,fd,#[λi H Q E h=>absurd h ∅,λA j s H q N i Q E _ _ _ _ h=>absurd h ∅],z,F.kp,D]
def Kl(K:FG):Sp:=λvs H Q _=>∃(a:Addr)(ns:List Int),vs=[.ref a]/\bY K H a (ns.map V.int)/\-ns<=63/\∀H',Q (.bl G) H'
def PZ(F:oK P w K mg base qD k f fd ["_law_script"] (bW K 1 g))(h:∀ns:List Int,-ns<=63->∃i,g [R (ns.map PV.int)] []=!(Zp (.bl G),i)):oK P w K mg base qD k f fd ["_law_script"] (Kl K):=
 F.imp λvs H Q E q=>by
  let(a,ns,rfl,hs,z,k):=q;let(i,e):=h ns z;show#[#[H,[]],[R (ns.map PV.int)],[],_,i,O,O,eY_.refl _,aK.cons ?_ .nil,#[λe he=>(by cases he),nv],e,λv H' r=>?_]
  . show#[a,ns.map V.int,O,hs,?_];clear hs e z;induction ns with
    |nil=>show .nil
    |cons n r W=>show aK.cons (gF _) W
  . let(Z',_,_,s):=r;let(x,D,N):=s.1 _ be;cases D;rw[ji N];grind
end
def aP:∀Y ls Y1,ao Y=!(ls,Y1)->-ls=0:=λY ls Y1 h=>by cases h;rfl
def aB(h:∀Y ls Y1,g Y=!(ls,Y1)->-ls=n):∀Y ls Y1,aj f g Y=!(ls,Y1)->-ls=n+1:=λY ls Y1 e=>by let(x,h1,h2):=ba e;let(y,i,j):=cp h2;cases j;rw[bi,h _ _ _ i]
def P1(S:Scope)(hS:X.env.scope=S)(D:sc.kind=.function)(z:∀y∈sc.names,y.2=.local->sc.names.lookup y.1=!.local)(cel:∀y∈sc.names,y.2=.cell->sc.names.lookup y.1=!.cell)
 (own:∀p∈sc.names,p.2=.free->S.names.lookup p.1=!.cell\/S.names.lookup p.1=!.free) (frs:∀x∈F,sc.names.lookup x=!.free) (Q:bm.map (λi=>X.N[i]?)=F.map some):jE X ZO F bm sc:=by
 show#[D,z,cel,λp W e=>by rw[hS];show own p W e,frs,?_,λj i h=>?_]
 . have:=congrArg length Q;grind
 . have h2:(bm.map (λi=>X.N[i]?))[j]?=some X.N[i]?:=by rw[c5,h];rfl
   cases q:F[j]? with
   |none=>grind
   |some x=>grind
section
variable {P:Program}{w:World}{K:FG}{mg:Str->Option Value}{base:Heap}
def vD.okP{st:Stmt}(F:vD K x x st f fd)(S:bz N ps (aG st))
 (h:∀(j:Value)(A:Around)(i:List PySem.Env)(s:Shared)(H:Hp)(E:XK),qM k (A.deeper (envOfC x (aG st) s.heap.objs.size f j))->
   ∃g':SF,(∀a mu,g a mu=cY (-N) g' a mu)/\jP (Ww qD P w K mg base N x (aG st) f j A i s H E).nox (jC st) (iw K g')):oK P w K mg base qD (k+1) f fd ps (bW K (-ps) g):=by
 show F.ok S (λvs H Q E q=>?_) (λj A i s H vs Q E hr q=>?_)
 . let(Z,qs,mu,r,f6,e,_):=q;show e
 . let(g',eg,b):=h j A i s H E hr;let(Z,qs,mu,r,f6,e,hg,z,rl,c,i8,kk):=q;rw[eg]at i8;let(fl,h1,h2):=ba i8;show#[_,b,my H (uP Z.g mu),Z,_,[],fl,Ds hg z rl c,h1,?_];cases fl with
   |rt r' Y'=>
    cases h2;intro v U' H' s';let(el,Z',D,z',W):=s'.top;show kk v H' #[Z',D,z',W.sub ?_];show(gL _ _).cons_cons _
   |nx Y'=>
    cases h2;intro U' H' s';let(el,Z',D,z',W):=s';show kk .non H' #[Z',D,z',(W.sub (gL _ _)).consS (Bq _)]
   |bk Y'=>cases h2
   |ct Y'=>cases h2
end
section
variable {X:Cx}
def P2:PV->Option PV
 |ZI i=>!(ZI ((Neg.neg i)))
 |_=>J
def jq(f:EF):EF:=λY=>(f Y).bind λx=>(P2 x.1.pv).map λp=>(Zp p,x.2)
def v7(F:PE X a (tP X.K f)):PE X (.UnaryOp .USub a pos) (tP X.K (jq f)):=PE.imp (G_ HI F) λU H Q q=>by
 let(H0,Z0,Y,pd,r,Y',s,h,k):=q;let(x,h1,h2):=ba h;let(p,j,W):=cp h2;cases W;show#[H0,Z0,Y,pd,x.1,x.2,s,h1,λv H1 D=>?_];let(_,z):=D.freeze.repH;cases e:x.1.pv with
 |int i=>
  rw[e]at j z;cases j;show#[i,cF z,k _ H1 (D.pop.scal gF)]
 |_=>rw[e]at j;cases j
end
def QH(I:Nat->Ev->Prop)(q:I 0 Y)(hs:∀(i:Nat) x Y,xs[i]?=!x->I i Y->∃Y1,b x Y=!Y1/\∃Y2,(body Y1=!(.nx Y2)\/body Y1=!(.ct Y2))/\I (i+1) Y2):∃Y',eN b body xs Y=!(.nx Y')/\I (-xs) Y':=by
 induction xs generalizing Y I with
 |nil=>show#[Y,O,q]
 |cons x xs F=>
  let(Y1,D,Y2,j,h2):=hs 0 x Y O q;let(Y',N,z):=F (λi Y=>I (i+1) Y) h2 (λi y Y h=>hs (i+1) y Y ());show#[Y',?_,z];show (b x Y).bind _=_;rw[D,bq];rcases j with j|j<;>rw[j,bq]<;>show N
theorem yu(i:Ev->Prop)(z:∀Y,i Y->Y.mu=mu)(c:PV->Bool)(f:PV->PV):∀{xs:List PV}{Y:Ev}{acc:List PV},i Y->-acc+-xs<=100000->
 (∀x∈xs,∀Y,i Y->∃Y1,b x Y=!Y1/\∃Y2,tc Y1=!(c x,Y2)/\i Y2/\(c x=G->∃l Y3,te Y2=!(l,Y3)/\l.pv=f x/\i Y3))->dF b tc te xs Y acc=!(acc++(xs.filter c).map f,mu)
 |[],Y,acc=>λh _ _=>by show some (acc,Y.mu)=_;grind
 |x::xs,Y,acc=>λh W hs=>by
  let(Y1,N,Y2,Q,h2,D):=hs x be Y h;let j:=λy F=>hs y (cw _ F);rw[bi]at W;show (b x Y).bind _=_;rw[N,bq,Q,bq];cases hc:c x with
  |false=>
   simp only[fB,if_false];rw[yu i z c f h2 () j,filter_cons_of_neg ∅]
  |true=>
   let(l,Y3,e3,ef,h4):=D hc;simp only[if_true];rw[e3,bq,aw (),yu i z c f h4 ∅ j,filter_cons_of_pos (),ef];simp
def Jc(i:Ev->Prop)(F:∀Y,i Y->Y.mu=mu)(f:PV->PV)(h:i Y)(W:-xs<=100000)
 (hs:∀x∈xs,∀Y,i Y->∃Y1,b x Y=!Y1/\∃l Y3,te Y1=!(l,Y3)/\l.pv=f x/\i Y3) (N:∀x∈xs,∀Y Y1,i Y->b x Y=!Y1->i Y1):dF b bB te xs Y []=!(xs.map f,mu):=by
 rw[yu i F (λ_=>G) f h ∅ λx q Y D=>?_]
 . rw[eK,List.filter_eq_self.mpr (λ_ _=>O)]
 . let(Y1,z,l,Y3,Q):=hs x q Y D;show#[Y1,z,Y1,O,N x q Y Y1 D z,λ_=>#[l,Y3,Q]]
def dI(h:0<b):aZ (ZI a) (ZI b)=!(Zp (ZI (a%b))):=by show (if decide (0<b)=G then _ else _)=_;grind
def gU(h:0<b)(h2:b<1073741824):bO (ZI a) (ZI b)=!(Zp (ZI (a/b))):=by show (if decide (0<b/\b<1073741824)=G then _ else _)=_;grind
def Mz(h:-18446744073709551616<a)(h2:a<18446744073709551616):gM (ZI a) (ZI b)=!(Zp (ZI (a*b))):=by show (if decide (((Neg.neg (2 ^ 64))<a/\a<2 ^ 64)\/((Neg.neg (2 ^ 64))<b/\b<2 ^ 64))=G then _ else _)=_;grind
def wL(h:-18446744073709551616<b)(h2:b<18446744073709551616):gM (ZI a) (ZI b)=!(Zp (ZI (a*b))):=by show (if decide (((Neg.neg (2 ^ 64))<a/\a<2 ^ 64)\/((Neg.neg (2 ^ 64))<b/\b<2 ^ 64))=G then _ else _)=_;grind
def bC(h1:fa Y=!(x,Y1))(h2:fb Y1=!(y,Y2))(i:g x.pv y.pv=!l):au g fa fb Y=!(l,Y2):=by unfold au;grind
def uT(j:0<=i)(h1:i< -l):∃x,fO l i=!x/\l[i.toNat]?=!x:=by
 unfold fO uL;grind
def wM{lo:Int}:-(jo lo n)=n:=by simp[jo]
def P4{lo:Int}(h:p∈jo lo n):∃i:Nat,i<n/\p=ZI (lo+i):=by let(i,hi,rfl):=ck.mp h;show#[i,mem_range.mp hi,O]
def G7(h:f Y=!(.nx Y')):aF f g Y=g Y':=by unfold aF;rw[h,bq]
def G8(h:f Y=!(.rt r Y')):aF f g Y=!(.rt r Y'):=by unfold aF;rw[h,bq]
def P5(h:f Y=!(l,Y1))(hi:i< -Y1.vs):aL i f Y=!(.nx (Y1.set i (!l))):=by unfold aL;grind
def lR(h:c Y=!(G,Y1)):cC c f g Y=f Y1:=by unfold cC;grind
def lU(h:c Y=!(M,Y1)):cC c f g Y=g Y1:=by unfold cC;grind
def P6(h:f Y=!(l,Y1)):cI f Y=!(.rt l Y1):=by unfold cI;grind
def P7(h:f Y=!(xs,Y1)):fX f b body Y=eN b body xs Y1:=by unfold fX;grind
def aO(h:g (env0 n ps mu)=!(.rt r Y)):cY n g ps mu=!(r,Y.mu):=by unfold cY;rw[h,bq]
def P8(h:g (env0 n ps mu)=!(.nx Y)):cY n g ps mu=!(.sh .non,Y.mu):=by unfold cY;rw[h,bq]
def Xy(h:a Y=!(ls,Y1))(h2:g (ls.map Lc.pv) Y1.mu=!(r,mu)):aN g a Y=!(r,#[Y1.vs,mu]):=by unfold aN;grind
def Xz(h:f Y=!(l,Y1))(h2:a Y1=!(ls,Y2)):aj f a Y=!(l::ls,Y2):=by unfold aj;grind
def P9(h:a Y=!(ls,Y1))(h2:g (ls.map Lc.pv)=!r):eB g a Y=!(r,Y1):=by unfold eB;grind
def eF(h:f Y=!(xs,Y1))(h2:dF b tc te xs (nT m bm (ie bm Y1)) []=!(ys,mu)):bU f m bm b tc te Y=!(Zs (R ys),#[(ie bm Y1).vs,mu]):=by unfold bU;grind
def dC(h:f Y=!(l,Y1))(h2:g l.pv=!xs):dh f g Y=!(xs,Y1):=by unfold dh;grind
def mY(h:a Y=!([l],Y1))(i:l.pv=ZI n)(h1:-4611686018427387904<=n)(h2:n<4611686018427387904):iK a Y=!(jo 0 n.toNat,Y1):=by unfold iK;rw[h,bq];grind
def jU(h:f Y=!(l,Y1))(h2:tr l.pv=!b):tT f tr Y=!(b,Y1):=by unfold tT;grind
def XC(h:f Y=!(l,Y1))(h2:a Y1=!([m],Y2))(hl:l.pv=ZH z)(hm:m.pv=R ps)(hx:d_ ps=!xs)(hs:(xs.map (·.length)).sum+-xs*-z<=100000):rY f a Y=!(Zp (ZH (Txt.join z xs)),Y2):=by unfold rY;grind
section
variable {f g:SF}{Y Y1 Y2 Y':Ev}{ZN:Option Fl}{l m r:Lc}{fa fb fc:EF}{c d:TF}{a:AF}{b:Bool}
def aH(h:f Y=!(.nx Y'))(h2:g Y'=ZN):aF f g Y=ZN:=(G7 h).trans h2
def bu(h:fa Y=!(l,Y1))(hi:Nat.blt i (-Y1.vs)=G)(e:Y1.set i (!l)=Y'):aL i fa Y=!(.nx Y'):=by rw[P5 h ∅,e]
def cT(h:fa Y=!(l,Y1)):cI fa Y=!(.rt l Y1):=P6 h
def dj(h1:fa Y=!(l,Y1))(z:l.pv=p)(h2:fb Y1=!(m,Y2))(i:m.pv=q)(j:o p q=!r):au o fa fb Y=!(r,Y2):=bC h1 h2 ∅
def aR(h:a Y=!(ls,Y1))(j:ls.map Lc.pv=ps)(i:Y1.vs=v)(q:Y1.mu=gz)(h2:ZT ps gz=!(r,mu)):aN ZT a Y=!(r,#[v,mu]):=by subst j i q;show Xy h h2
def jN(h:a Y=!(ls,Y1))(i:ls.map Lc.pv=ps)(h2:ZT ps=!r):eB ZT a Y=!(r,Y1):=by subst i;show P9 h h2
def aA(h:fa Y=!(l,Y1))(h2:a Y1=!(ls,Y2)):aj fa a Y=!(l::ls,Y2):=Xz h h2
def Bv(h:fa Y=!(l,Y1))(i:l.pv=p)(h2:tr p=!b):tT fa tr Y=!(b,Y1):=by subst i;show jU h h2
def Vi(h:c Y=!(b,Y1)):Br c Y=!(not b,Y1):=by unfold Br;grind
def nU(h:c Y=!(b,Y1))(h2:d Y1=!(b2,Y1)):eE c d Y=!(b&&b2,Y1):=by
 unfold eE;rw[h,bq];cases b with
 |true=>grind
 |false=>rfl
def rZ(h:c Y=!(b,Y1))(h2:d Y1=!(b2,Y1)):tO c d Y=!(b||b2,Y1):=by
 unfold tO;rw[h,bq];cases b with
 |true=>rfl
 |false=>grind
def pQ(h:a Y=!(ls,Y1))(i:Nat.ble (-ls) 1000=G)(j:ls.map Lc.pv=ps):cu a Y=!(Zs (R ps),Y1):=by subst j;unfold cu;grind
def dm(h:a Y=!(ls,Y1))(i:Nat.ble (-ls) 1000=G)(j:ls.map Lc.pv=ps):aX a Y=!(Zp (ZB ps),Y1):=by subst j;unfold aX;grind
def dG(h1:fa Y=!(l,Y1))(j:l.pv=p)(h2:fb Y1=!(m,Y2))(i:m.pv=q)(z:∀n,p≠ZA n)(D:qG p q=!r):aJ fa fb Y=!(r,Y2):=by
 subst j i;unfold aJ;rw[h1,bq,h2,bq];split
 . grind
 . grind
def Vj(h1:fa Y=!(l,Y1))(q:l.pv=ZA n)(h2:fb Y1=!(m,Y2))(i:m.pv=ZI k)(z:Y2.mu[n]?=!(!(R ws)))(j:fO ws k=!p):aJ fa fb Y=!(Zp p,Y2):=by unfold aJ;grind
def pR(h0:Y.vs[i]?=!(!(Zs (R ws0))))(h:fa Y=!(l,Y1))(hp:l.pv=p)(h1:Y1.vs[i]?=!(!(Zs (R ws))))(hz:-ws<100000)(e:Y1.set i (!(Zs (R (ws++[p]))))=Y'):jM i fa Y=!(.nx Y'):=by unfold jM;grind
def jZ(h0:Y.vs[i]?=!(!(Zs (R ws0))))(h:fa Y=!(l,Y1))(hp:l.pv=R ps)(h1:Y1.vs[i]?=!(!(Zs (R ws))))(hz:-ws+-ps<=100000)(e:Y1.set i (!(Zs (R (ws++ps))))=Y'):gb i fa Y=!(.nx Y'):=by unfold gb;grind
def P_(h:fv Y=!(x,Y1))(Qr:x.pv=p)(h0:Y1.vs[i]?=!(!(Zs (R ws0))))(h2:fi Y1=!(y,Y2))(hy:y.pv=ZI k)(h1:Y2.vs[i]?=!(!(Zs (R ws))))(hj:uL (-ws) k=!j)(e:Y2.set i (!(Zs (R (ws.set j p))))=Y'):Bu i fi fv Y=!(.nx Y'):=by subst Qr;unfold Bu;rw[h,bq];rw[h0];rw[h2,bq,hy];grind
def eO(h:F Y=!(xs,Y1))(h2:eN B body xs Y1=ZN):fX F B body Y=ZN:=(P7 h).trans h2
def Vk(h:fa Y=!(l,Y1))(i:l.pv=p)(h2:ZT p=!xs):dh fa ZT Y=!(xs,Y1):=by subst i;show dC h h2
end
section
variable {X:Cx}
noncomputable def oh (f:EF):EF:=λY=>(f Y).bind λx=>match x.1 with
 |Zs p=>!(Zp (ZA (-x.2.mu)),#[x.2.vs,x.2.mu++[!p]])
 |_=>J
def Fz(h:PE X e (tP X.K f)):PE X e (tP X.K (oh f)):=PE.imp h λU H Q q=>by
 let(H0,Z0,Y,pd,l,Y',s,f,k):=q;let(x,h1,h2):=ba f;show#[H0,Z0,Y,pd,x.1,x.2,s,h1,λv H1 N=>?_];split at h2
 . rename_i p ep;cases h2;rw[ep]at N;let(W,Z,hg,z,j):=N.top;let(a,ea,ra,za,mE):=j.1 _ be;let i:=d0 ea;subst i;have F:iu Z #[Z.z,Z.g++[a]]:=#[eY_.refl _,nw _ _];let D:=j.step F λe he b hb=>#[O,(jn j he hb).1];show k _ H1 (.mk (Z:=#[Z.z,Z.g++[a]]) W ∅ #[z.zh,z.h0,z.z0.trans F,z.new] (ah.consS ?_ ?_))
   . show D.perm ?_;have ec:cel (Z.g++[a]) (x.2.mu++[!p])=cel Z.g x.2.mu++[(!(.ref a),!(Zs p))]:=by unfold cel;rw[cy,cy,jS ∅];rfl
     show Perm (cel (Z.g++[a]) (x.2.mu++[!p])++_) _;rw[ec,cx];show et
   . show#[a,O,by show (Z.g++[a])[-x.2.mu]?=!a;rw[hg,eW ()];simp]
 . cases h2
noncomputable def openV (i:Nat) (Y:Ev):Option Ev:=match Y.vs[i]? with
 |some (!(Zp (ZA n)))=>match Y.mu[n]? with
  |some (!p)=>!#[Y.vs.set i (!(Zs p)),Y.mu.set n J]
  |_=>J
 |_=>J
def Bw(i:Nat)(f:SF):SF:=λY=>(f Y).bind λfl=>match fl with
 |.nx Y'=>(openV i Y').map .nx
 |_=>J
theorem SR.openV(s:SR K H0 Z0 U H Y pd)(h:PL.openV i Y=!Y'):SR K H0 Z0 U H Y' pd:=by
 unfold PL.openV at h;split at h
 . rename_i n en;split at h
   . rename_i p D;cases h;let(v,F,z):=s.var en;let(a,rfl,Q):=z.cellO D;let N:=SR.sub Q ((d5 _ _).cons_cons _);let hi:=(c9.mp en).1;let j:=N.store (by show i< -(Y.vs.set i _);rw[ly];show hi);rw[iA F]at j;have e:(#[(Y.vs.set i (!(Zp (ZA n)))).set i (!(Zs p)),Y.mu.set n J]:Ev)=#[Y.vs.set i (!(Zs p)),Y.mu.set n J]:=by rw[kK]
     have q:SR K H0 Z0 U H #[(Y.vs.set i (!(Zp (ZA n)))).set i (!(Zs p)),Y.mu.set n J] pd:=j;grind
   . cases h
 . cases h
def QJ{st:Stmt}(h:PS X st (iw X.K f)):PS X st (iw X.K (Bw i f)):=PS.imp h λD U H q=>by
 let(H0,Z0,Y,pd,fl,s,h,k):=q;let(y,h1,h2):=ba h;cases y with
 |nx Y'=>
  let(Y2,j,rfl):=cp h2;show#[H0,Z0,Y,pd,.nx Y',s,h1,λz H' s'=>k z H' (s'.openV j)]
 |rt r Y'=>cases h2
 |bk Y'=>cases h2
 |ct Y'=>cases h2
def mF(f:EF)(lo hi:OF):EF:=λY=>(f Y).bind λx=>(lo x.2).bind λy=>(hi y.2).bind λz=>match x.1.pv with
 |R ps=>!(Zs (R (rm ps y.1 z.1)),z.2)
 |ZH t=>if -t<=100000 then !(Zp (ZH (lY t y.1 z.1)),z.2) else J
 |_=>J
def rB{lo hi:Option Expr}(he:PE X e (tP X.K f))(hl:PO X lo (Fw X.K fl))(hu:PO X hi (Fw X.K fh)):PE X (.Subscript e (.Slice lo hi J p2) pos) (tP X.K (mF f fl fh)):=PE.imp (KR (Z6.or KW) he hl hu) λU H Q q=>by
 let(H0,Z0,Y,pd,r,Y',s,h,k):=q;let(x,h1,h2):=ba h;let(y,h3,h4):=ba h2;let(z,h5,D):=ba h4;show#[H0,Z0,Y,pd,x.1,x.2,s,h1,λv H1 s1=>#[H0,Z0,x.2,_,y.1,y.2,s1.freeze,h3,λH2 s2=>#[H0,Z0,y.2,_,z.1,z.2,s2,h5,λH3 i=>?_]]];cases e:x.1.pv with
 |lst ps=>
  rw[e]at D i;cases D;let(W,Z,hg,N,F,s4):=i.sh;let(a,vs,rfl,g1,g2):=F;show Zl #[a,vs,O,bY.same N.zh g1,λp hp=>k _ _ ?_];let(z',s'):=s4.new (p:=R (rm ps y.1 z.1)) N hp #[_,bZ,g2.cut];show .mk W hg z' s'
 |str t=>
  rw[e]at D i;have j:(if -t<=100000 then !(Lc.sh (ZH (lY t y.1 z.1)),z.2) else J)=!(r,Y'):=D;split at j
  . rename_i hz;cases j;let(_,F):=i.repH;show YY #[t,F,dQ hz,k _ H3 (i.pop.scal pq)]
  . grind
 |_=>grind
def SR.popO(s:SR K H0 Z0 U H Y ((.ref a,Zs (R ws))::pd))(hp:ws[-ws-1]?=!p):
 ∃i y,H a=!(.lst i)/\i[-i-1]?=!y/\SR K H0 Z0 U (aE H a (.lst i.dropLast)) Y ((.ref a,Zs (R ws.dropLast))::(y,Zp p)::pd):=by
 let(N,Z,hg,z,F):=s.top;let(b,eb,(i,hu,j),_):=F.1 _ be;cases eb;let(y,hy,Q):=j.get hp;let D:=-j;show#[i,y,hu,by rw[D];show hy,?_];have W:aK K Z ws.dropLast i.dropLast:=by rw[dropLast_eq_take,dropLast_eq_take,D];show j.take _
 let(z',s'):=F.write (q:=R ws.dropLast) z #[i.dropLast,bZ,W];let s2:=(s'.consS Q).perm (Perm.swap (!y,!(Lc.sh p)) (!(V.ref a),!(Lc.own (R ws.dropLast))) _);show .mk N hg z' (s2.perm (dD.cons _))
def QK(K:FG):V->List V->Hp->VK->Prop:=λx vs H Q=>∃g p qs w,vs=[w]/\aT K #[H,g] p w/\aT K #[H,g] (R qs) x/\tR (dH 150) p qs=!G/\-qs<=100000/\Q (.int (qs.findIdx λq=>(dH 150 q p).getD M)) H
def XF(hr:qM k X.A):PP X "list.index" (QK X.K):=by
 intro ae s U H x W v us Q I rx rv h;let(g,p,D,w,rfl,rp,rq,e,hz,q):=h;have hA:X.A.in1.units+150<cLine:=by have:=hr.un;show X.A.units+1+150<cLine;lia
 let(u,rfl,ru):=rv.one;let(i1,i2):=G6 e;let(a,W,i,rfl,q1,l1,j,t1):=Ag I rq rx;have hl:-i=-D:=by rw[<-(-j),l1.length]
 let sM:=any_eq_true.mp i2.symm;let hj:=findIdx_lt_length.mpr sM;have z:∀m (N:m< ~~~i.toArray),c6 X.K #[H,g] p D W i i.toArray[m]=(dH 150 (D[m]'(by rw[eP]at N;lia)) p).getD M:=λm N=>by
  have hm':m< -i:=by simpa using N
  show Du (xv:=w) (xu:=u) I l1 j i1 (ed ()) (by simp)
 let((oc,od,oD,os),ht,hc,n,hd):=t1;let l5:= hc;let sQ:=hd;subst l5 sQ;show call_meets F.slot_list_index #[_,ht,O] F.entry_list_index (F.args_list_index_2 _ _) (SeqAt.list_indexAt a i.toArray n od os u (c6 X.K #[H,g] p D W i) (D.findIdx λq=>(dH 150 q p).getD M) ∅ () ?_ ?_) #[ht,Dv I rp ru l1 j i1 hA,?_]
 . rw[z];show findIdx_getElem (w:=hj)
 . intro m N io;rw[z];have:=not_of_lt_findIdx io;simpa using this
 . show#[.int _,H,I.tok _,#[_,O],q]
def MF(f g:EF):EF:=λY=>(f Y).bind λx=>(g x.2).bind λy=>match x.1.pv with
 |R qs=>if tR (dH 150) y.1.pv qs=!G/\-qs<=100000 then !(Zp (ZI (qs.findIdx λq=>(dH 150 q y.1.pv).getD M)),y.2) else J
 |_=>J
def QA(h:PE X (.Call (.Attribute o "index" apos) [e] [] cpos) (KZ X.K "list" (QK X.K) (tP X.K f) (jR X.K (aj g ao)))):PE X (.Call (.Attribute o "index" apos) [e] [] cpos) (tP X.K (MF f g)):=PE.imp h λU H Q q=>by
 let(H0,Z0,Y,pd,r,Y',s,h,k):=q;let(x,h1,h2):=ba h;let(y,h3,D):=ba h2;show#[H0,Z0,Y,pd,x.1,x.2,s,h1,λv H1 s1=>?_];let j:=s1.freeze;cases e:x.1.pv with
 |lst z=>
  rw[e]at D j;have i:(if tR (dH 150) y.1.pv z=!G/\-z<=100000 then !(Lc.sh (ZI (z.findIdx λq=>(dH 150 q y.1.pv).getD M)),y.2) else J)=!(r,Y'):=D;split at i
  . rename_i N;cases i;let(_,r1):=j.repH;let F:=r1;let(a,us,rfl,hq,_):=F;show#[Zl #[O,us,hq],H0,Z0,x.2,_,[y.1],y.2,j,?_,λvs H2 e2 s2=>?_]
    . unfold aj ao;rw[h3];rfl
    . let(w,rfl):=yZ e2;let W:=SR.freeze s2;let(g,ra,rb):=W.rep2H;show#[g,y.1.pv,z,w,O,rb,ra,N.1,N.2,k _ H2 (W.pop.pop.scal gF)]
  . cases i
 |_=>grind
def ue(ps:List PV):List PV:=ps.zipIdx.map λx=>ZB [ZI (x.2:Nat),x.1]
def Vl{i:Nat}:(ue ps)[i]?=ps[i]?.map λp=>.tup [.int (i:Nat),p]:=by unfold ue;rw[c5,List.getElem?_zipIdx];cases ps[i]?<;>simp
def Vm:-(ue ps)=-ps:=by unfold ue;simp
def Vn:qX K H0 Z0 ((.ref a,Zp (R ps))::pd) (r9 K a) (ue ps):=by intro U H Y i s;let(W,Z,hg,z,r,so):=s.sh;let r0:=r;let(b,j,e,h1,h2):=r;cases e;let D:=bY.same z.zh h1;show#[λx F=>?_,λhl=>#[j,D,by rw[h2.length];rw[Vm]at hl;lia]];rw[Vl]at F;let(p,hp,rfl):=cp F;let(v,Q,rv):=h2.get hp;show#[#[j,v,D,Q],λv' H' y=>?_];let(T,y,hT,rfl,rfl,hy):=y;let N:=hy j D;rw[Q]at N;cases N;let(z',lz,q):=(so.consS r0).newF z hT;show .mk (Z:=Z.put T (.tup [.int (i:Nat),v])) W hg z' (ah.perm (ah.consS q ?_) (dD.cons _));show#[T,[.int (i:Nat),v],O,Zl (Zl (by show aE Z.z T _ T=_;rw[bZ])),aK.cons (gF _) (aK.cons (rv.mono lz) .nil)]
def uU(f:EF):IF:=λY=>(f Y).bind λx=>match x.1.pv with
 |R ps=>!(ue ps,x.2)
 |_=>J
def Bx{eq:List Expr}{x1}(hg:Gl X "enumerate")(hm:X.mg "enumerate"=J)(W:PA X [a] (jR X.K (aj f ao)))(hs:starEach [a] X.env=[(M,eval a X.env)]:=by rfl):PI X (.Tuple eq x1 tpos) (.Call (.Name "enumerate" p) [a] [] pos) (Iz X.K (uU f)):=PI.imp (K_ hg hm W hs) λU H ZN q=>by
 let(H0,Z0,Y,pd,xs,Y',s,h,k):=q;let(x,h1,h2):=ba h;show#[H0,Z0,Y,pd,[x.1],x.2,s,?_,λvs H1 F N=>?_]
 . unfold aj ao;grind
 . let(v,rfl):=yZ F;let i:=SR.freeze N;cases e:x.1.pv with
   |lst ps=>
    rw[e]at h2 i;cases h2;let(Z,z,r):=i.rep;let(b,Q,rfl,j,D):=r;show#[b,O,#[Q,bY.same z j],k _ _ _ i Vn (d5 _ _)]
   |_=>grind
abbrev PD:=List (c8×PV)
noncomputable def iG:PD->c8->Option PV
 |[],_=>J
 |kv::r,k=>if kv.1=k then !kv.2 else iG r k
noncomputable def vN (k:c8) (v:PV):PD->PD
 |[]=>[]
 |kv::r=>(if kv.1=k then (kv.1,v) else kv)::vN k v r
def uV(l:PD)(k:c8)(v:PV):PD:=match iG l k with
 |some _=>vN k v l
 |none=>l++[(k,v)]
def MJ:PV->Option c8
 |ZI i=>!(.inl i)
 |ZH x=>!(.inr x)
 |_=>J
def nG(l:PD):PV:=.dk (l.map (·.1)) (l.map (·.2))
def jA(K:FG)(Z:ZG):PD->List (c8×V)->Prop:=Paired λp q=>p.1=q.1/\aT K Z p.2 q.2
section
variable {K:FG}{Z Z':ZG}
theorem uB:∀{i:List (c8×V)}{ks:List c8}{ps:List PV},i.map (·.1)=ks->aK K Z ps (i.map (·.2))->jA K Z (ks.zip ps) i
 |[],ks,ps=>λh1 h2=>by subst h1;show .nil
 |F::r,ks,ps=>λh1 h2=>by
  subst h1;cases ps with
  |nil=>have:=h2.inv0;grind
  |cons p ps=>
   let(v,N,e,j,z):=h2.inv;injection e with D q;subst D q;show .cons #[O,j] (uB O z)
theorem jA.keys:∀{l:PD}{i:List (c8×V)},jA K Z l i->i.map (·.1)=l.map (·.1)
 |_,_,.nil=>rfl
 |_,_,.cons h t=>by rw[dP,dP,h.1,jA.keys t]
theorem jA.vals:∀{l:PD}{i:List (c8×V)},jA K Z l i->aK K Z (l.map (·.2)) (i.map (·.2))
 |_,_,.nil=>.nil
 |_,_,.cons h t=>aK.cons h.2 (jA.vals t)
theorem jA.val:∀{l:PD}{i:List (c8×V)},jA K Z l i->(∀p,iG l k=!p->∃v,qP i k=!v/\aT K Z p v)/\(iG l k=J->qP i k=J)
 |_,_,.nil=>#[λp h=>(by cases h),λ_=>O]
 |p::l,q::i,.cons h t=>by
  let D:=jA.val (k:=k) t;by_cases e:p.1=k
  . have j:q.1=k:=by rw[<-h.1];show e
    show#[λx z=>#[q.2,xW j,?_],λz=>?_]
    . unfold iG at z;grind
    . unfold iG at z;grind
  . have j:¬ q.1=k:=by rw[<-h.1];show e
    rw[xX j];unfold iG;grind
theorem jA.repl(r:aT K Z p v):∀{l:PD}{i:List (c8×V)},jA K Z l i->jA K Z (vN k p l) (i.map λj=>if j.1=k then (j.1,v) else j)
 |_,_,.nil=>.nil
 |a::l,b::i,.cons h t=>by
  show .cons ?_ (jA.repl r t);by_cases e:a.1=k
  . have q:b.1=k:=by rw[<-h.1];show e
    grind
  . have q:¬ b.1=k:=by rw[<-h.1];show e
    grind
theorem jA.app:∀{l q:PD}{j i:List (c8×V)},jA K Z l j->jA K Z q i->jA K Z (l++q) (j++i)
 |_,_,_,_,.nil=>λh=>h
 |_,_,_,_,.cons a t=>λh=>.cons a (jA.app t h)
def jA.put(h:jA K Z l aS)(r:aT K Z p v):jA K Z (uV l k p) (dy aS k v):=by
 let j:=h.val (k:=k);unfold uV;cases e:iG l k with
 |none=>
  rw[WF v (j.2 e)];show h.app (.cons #[O,r] .nil)
 |some q=>
  let(u,z,_):=j.1 q e;have D:dy aS k v=aS.map λi=>if i.1=k then (i.1,v) else i:=by unfold dy;rw[xY,z];rfl
  rw[D];show h.repl r
def G9(h:MJ p=!k)(r:aT K Z p v):v=kV k:=by
 cases p with
 |int i=>cases h;show cF r
 |str x=>cases h;show dN r
 |_=>cases h
end
def sR(fa fb:EF):EF:=λY=>(fa Y).bind λx=>(fb x.2).bind λy=>match x.1.pv with
 |.dk ks ps=>(MJ y.1.pv).bind λk=>(iG (ks.zip ps) k).map λp=>(Zp p,y.2)
 |.df ks ps=>(MJ y.1.pv).bind λk=>(iG (ks.zip ps) k).map λp=>(Zp p,y.2)
 |_=>aJ (λ_=>!x) (λ_=>!y) Y
def QI(hy:y.2=Y)(i:SR X.K H0 Z0 U H Y ((w,Zp y.1.pv)::(v,Zp x.1.pv)::pd))(h:aJ (λ_=>!x) (λ_=>!y) Y0=!(l,Y'))(k:∀u H',SR X.K H0 Z0 U H' Y' ((u,l)::pd)->Q u H'):qo X.K v w H Q:=by
 unfold aJ at h;rw[bq,bq]at h;subst hy;split at h
 . rename_i n kk en ek;split at h
   . rename_i ws F;let(p,q,D):=cp h;cases D;rw[en,ek]at i;let(_,N):=i.repH;let ew:=cF N;let(a,rfl,s5):=i.pop.cellO F;let(el,Z,hg,z,so):=s5.top;let(_,ea,(us,hu,W),_):=so.1 _ be;cases ea;let(j,e1,e2):=Bt q (-W);let(u,e3,e4):=W.get e1;show Zl #[a,us,kk,u,O,ew,bY.of hu,e2 u e3,k u H ?_];have s6:SR X.K H0 Z0 U H #[y.2.vs,y.2.mu.set n J] ((u,Zp p)::(.ref a,Zs (R ws))::(.ref a,Zp (ZA n))::pd):=.mk el hg z ((so.perm dD).consS e4);let s7:=s6.perm (((Perm.swap _ _ _).cons _).trans (Perm.swap _ _ _));let s8:=s7.cellP (by show (y.2.mu.set n J)[n]?=_;rw[hW ((c9.mp F).1)]);have e8:(y.2.mu.set n J).set n (!(R ws))=y.2.mu:=by rw[kK];show iA F
     grind
   . cases h
 . let(l',q,D):=cp h;cases D;show Ve H0 Z0 U y.2 pd H v w x.1.pv y.1.pv _ Q i q k
def QN(hu:X.A.units+1<cLine)(ha:PE X a (tP X.K fa))(hb:PE X b (tP X.K fb))(hm:Bh b):PE X (.Subscript a b pos) (tP X.K (sR fa fb)):=PE.imp (RX (Ub.or (Lm hu)) ha hb hm) λU H Q q=>by
 let(H0,Z0,Y,pd,l,Y',s,f,k):=q;let(x,h1,h2):=ba f;let(y,h3,h4):=ba h2;show#[H0,Z0,Y,pd,x.1,x.2,s,h1,λv H1 s1=>#[H0,Z0,x.2,_,y.1,y.2,s1,h3,λw H2 s2=>?_]];let s3:=s2.freeze.swap.freeze.swap;split at h4
 . rename_i ks ps en;let(kk,h5,h6):=ba h4;let(p,h7,h8):=cp h6;cases h8;let(_,F):=s3.repH;let ew:=G9 h5 F;let i:=s3.pop;rw[en]at i;let(Z,z,r):=i.rep;let(b',D,rfl,g1,g2,g3):=r;let(u,N,ru):=(uB g2 g3).val.1 p h7;let e1:=z _ _ g1;show YY #[b',u,O,Zl #[D,kk,Zl e1,ew,N.symm],k u H2 ?_];show(i.part λZ' z' r'=>?_).sub ((d5 _ _).cons_cons _);let(b2,kvs2,eb,j,W,sT):=r';cases eb;let e2:=z' _ _ j;rw[e1]at e2;let(u2,QO,QP):=(uB W sT).val.1 p h7;grind
 . rename_i ks ps en;let(kk,h5,h6):=ba h4;let(p,h7,h8):=cp h6;cases h8;let(_,F):=s3.repH;let ew:=G9 h5 F;let i:=s3.pop;rw[en]at i;let(Z,z,r):=i.rep;let(b',ob,D,rfl,g1,g2,g3):=r;let(u,N,ru):=(uB g2 g3).val.1 p h7;let e1:=z _ _ g1;show YY #[b',u,O,Zl #[D,kk,YY #[ob,e1],ew,N.symm],k u H2 ?_];show(i.part λZ' z' r'=>?_).sub ((d5 _ _).cons_cons _);let(b2,ob2,kvs2,eb,j,W,sT):=r';cases eb;let e2:=z' _ _ j;rw[e1]at e2;let(u2,QO,QP):=(uB W sT).val.1 p h7;grind
 . show Zl (QI O s3 h4 k)
def SR.takeD(s:SR K H0 Z0 U H Y pd)(e:Y.vs[i]?=!(!(Zs (.dk ks ps)))):
 ∃a,U[i]?=!(!(.ref a))/\SR K H0 Z0 U H (Y.set i J) ((.ref a,Zs (.dk ks ps))::pd):=by
 let(v,F,j):=s.take e;let(_,Z,_,z,q):=j.top;let(a,D,_):=q.1 _ be;grind
def SR.setD(s:SR K H0 Z0 U H Y ((v,Zp p)::(.ref a,Zs (.dk ks ps))::pd)):
 ∃i,H a=!(.dK i)/\-i=-ks/\SR K H0 Z0 U (aE H a (.dK (dy i k v))) Y ((.ref a,Zs (nG (uV (ks.zip ps) k p)))::pd):=by
 let(D,Z,N,z,r,F):=s.sh;let j:=F.perm dD.symm;let(_,eb,(i,hu,hk,W),_):=j.1 _ be;cases eb;show#[i,hu,by rw[<-hk,bo],?_];let d:=(uB hk W).put (k:=k) r;let(Q,s'):=j.write (q:=nG (uV (ks.zip ps) k p)) z #[dy i k v,bZ,d.keys,d.vals];show .mk D N Q s'
def FJ(i:Nat)(fi fv:EF):SF:=λY=>(fv Y).bind λx=>match x.2.vs[i]? with
 |some (!(Zs (.dk _ _)))=>(fi x.2).bind λy=>match MJ y.1.pv,y.2.vs[i]? with
  |some k,!(!(Zs (.dk ks ps)))=>if -ks<100000 then !(.nx (y.2.set i (!(Zs (nG (uV (ks.zip ps) k x.1.pv)))))) else J
  |_,_=>J
 |_=>J
def QU(h:PS X (.Assign [.Subscript o ix tpos] e pos) (Rz (tP X.K fv) (Wk (uH i) (tP X.K fi) Y6))):PS X (.Assign [.Subscript o ix tpos] e pos) (iw X.K (FJ i fi fv)):=PS.imp h λD U H q=>by
 let(H0,Z0,Y,pd,fl,s,h,k):=q;let(x,h1,h2):=ba h;show#[H0,Z0,Y,pd,x.1,x.2,s,h1,λv H1 s1=>?_];split at h2
 . rename_i QY Q_ e0;let(y,h3,z):=ba h2;let(a,Q,_):=s1.takeD e0;show#[.ref a,Q,H0,Z0,x.2,_,y.1,y.2,s1.freeze,h3,λw H2 W=>?_];split at z
   . rename_i kk ks ps ek e3;split at z
     . cases z;let(_,N):=W.freeze.repH;let ew:=G9 ek N;let(a',j,s3):=W.pop.takeD e3;rw[Q]at j;cases j;let(F,hu,hl,s4):=s3.swap.setD;show#[a,_,O,Zl #[F,kk,hu,ew,by rw[hl,sizeLine_eq];lia,O],k U _ ?_];let s5:=s4.put Q;rw[Ev.set_set]at s5;show s5
     . cases z
   . cases z
 . cases h2
def ou(fo fv:EF):SF:=λY=>(fo Y).bind λo=>match o.1.pv with
 |ZA n=>match o.2.mu[n]? with
  |some (!(R _))=>(fv o.2).bind λy=>match y.2.mu[n]? with
   |some (!(R ws))=>if -ws<100000 then !(.nx #[y.2.vs,y.2.mu.set n (!(R (ws++[y.1.pv])))]) else J
   |_=>J
  |_=>J
 |_=>J
def By(h:PS X (.Expr (.Call (.Attribute o "append" apos) [e] [] cpos) pos) (J3 (KZ X.K "list" GP (tP X.K fo) (jR X.K (aj fv ao))))):
 PS X (.Expr (.Call (.Attribute o "append" apos) [e] [] cpos) pos) (iw X.K (ou fo fv)):=PS.imp h λD U H q=>by
 let(H0,Z0,Y,pd,fl,s,h,k):=q;let(o',h1,h2):=ba h;show#[H0,Z0,Y,pd,o'.1,o'.2,s,h1,λv H1 s1=>?_];split at h2
 . rename_i n en;split at h2
   . rename_i ws0 F;let(y,h3,i):=ba h2;let Q:=s1.freeze;rw[en]at Q;let(a,rfl,s5):=Q.cellO F;let(_,Z,_,z,so):=s5.top;let(_,ea,(us,hu,_),_):=so.1 _ be;cases ea;show#[Zl #[O,us,bY.of hu],H0,Z0,o'.2,_,[y.1],y.2,Q,?_,λvs H2 e2 sv=>?_]
     . unfold aj ao;grind
     . let(v1,rfl):=yZ e2;split at i
       . rename_i ws em;split at i
         . cases i;let s3:=SR.freeze sv;let(a',W,s6):=s3.swap.cellO em;cases W;let s7:=s6.perm ((Perm.swap _ _ _).trans ((Perm.swap _ _ _).cons _));let(j,N,hl,s8):=s7.pushO;let hn:=(c9.mp em).1;let s9:=s8.cellP ∅;show#[a,j,v1,O,O,N,by rw[hl,sizeLine_eq];lia,k U _ ?_];have s10:SR X.K H0 Z0 U (aE H2 a (.lst (j++[v1]))) #[y.2.vs,(y.2.mu.set n J).set n (!(R (ws++[y.1.pv])))] pd:=s9;grind
         . cases i
       . cases i
   . cases h2
 . cases h2
def Y4_:List (V×V)->List V
 |[]=>[]
 |p::r=>p.1::p.2::Y4_ r
def keysOf:List (Lc×Lc)->Option PD
 |[]=>![]
 |p::r=>(MJ p.1.pv).bind λk=>(keysOf r).map λl=>(k,p.2.pv)::l
def Vo:EF:=λY=>!(Zs (.dk [] []),Y)
def Re:PE X (.Dict [] [] pos) (tP X.K Vo):=PE.imp WM λU H Q q=>by let(H0,Z0,Y,pd,l,Y',s,f,k):=q;cases f;show λp i=>k _ _ (s.newO i λZ _ _=>#[[],bZ,O,.nil])
def oO(f:EF):EF:=λY=>(f Y).bind λx=>match x.1.pv with
 |ZA n=>match x.2.mu[n]? with
  |some (!(R ws))=>!(Zp (ZI (-ws:Nat)),x.2)
  |_=>J
 |p=>(AB p).map λl=>(l,x.2)
def XH(h:PE X (.Call (.Name x p) [e] [] pos) (zN (λxs H Q=>∃x n,xs=[x]/\Wq X.K x H n/\Q (.int n) H) (jR X.K (aj f ao)))):PE X (.Call (.Name x p) [e] [] pos) (tP X.K (oO f)):=PE.imp h λU H Q q=>by
 let(H0,Z0,Y,pd,l,Y',s,N,k):=q;let(y,h1,h2):=ba N;show#[H0,Z0,Y,pd,[y.1],y.2,s,?_,λvs H1 D F=>?_]
 . unfold aj ao;grind
 . let(v,rfl):=yZ D;let i:=SR.freeze F;split at h2
   . rename_i n en;split at h2
     . rename_i ws j;cases h2;rw[en]at i;let(a,rfl,s5):=i.cellO j;let(_,Z,_,z,so):=s5.top;let(_,ea,(W,hu,hr),_):=so.1 _ be;cases ea;show#[.ref a,-ws,O,Zl #[W,bY.of hu,hr.length.symm],k _ H1 (i.pop.scal gF)]
     . cases h2
   . let(l',h3,h4):=cp h2;cases h4;show Vf H0 Z0 U y.2 pd H1 [v] [y.1.pv] _ Q O i h3 k
end
open PySem.SeqAt
section
variable {X:Cx}
def uW(ps qs:List PV):List PV:=zipWith (λp q=>ZB [p,q]) ps qs
def XJ{i:Nat}(h:(uW ps qs)[i]?=!x):∃p q,ps[i]?=!p/\qs[i]?=!q/\x=ZB [p,q]:=by
 unfold uW at h;rw[List.getElem?_zipWith]at h;cases h1:ps[i]? with
 |none=>grind
 |some p=>
  cases h2:qs[i]? with
  |none=>grind
  |some q=>grind
def XM:-(uW ps qs)=min (-ps) (-qs):=by unfold uW;simp
def XN:qX K H0 Z0 ((.ref a,Zp (R ps))::(.ref b,Zp (R qs))::pd) (Y7 K a b) (uW ps qs):=by
 intro U H Y i s;show ym λZT kG=>?_;let(el,Z,hg,z,rl,so):=SR.repl (vs:=[.ref a,.ref b]) (ls:=[Zp (R ps),Zp (R qs)]) s O;let(_,_,ev,r,rl):=rl;cases ev;let(_,_,ev,r',_):=rl;cases ev;let r0:=r;let W:=r';let(a',D,e,h1,h2):=r;let(b',ws,e',Q,j):=r';cases e;cases e';let N:=bY.same z.zh h1;let F:=bY.same z.zh Q;show kG #[λx hx=>?_,λhl=>#[D,ws,N,F,?_]]
 . show ym λZT kG=>?_;let(p,q,hp,Rl,rfl):=XJ hx;let(v,hv,rv):=h2.get hp;let(u,hu,ru):=j.get Rl;show kG #[#[D,ws,v,u,N,F,hv,hu],λv' H' y=>?_];let(T,y1,y2,hT,rfl,rfl,RA,RF):=y;let e1:=RA D N;rw[hv]at e1;cases e1;let e2:=RF ws F;rw[hu]at e2;cases e2;let(z',lz,mM):=((so.consS W).consS r0).newF z hT;show .mk (Z:=Z.put T (.tup [v,u])) el hg z' (ah.perm (ah.consS mM ?_) ((dD.trans (dD.cons _)).cons _));show#[T,[v,u],O,Zl (Zl (by show aE Z.z T _ T=_;rw[bZ])),aK.cons (rv.mono lz) (aK.cons (ru.mono lz) .nil)]
 . rw[XM]at hl;rw[h2.length,j.length];lia
def Km(f g:EF):IF:=λY=>(f Y).bind λx=>(g x.2).bind λy=>match x.1.pv,y.1.pv with
 |R ps,R qs=>!(uW ps qs,y.2)
 |_,_=>J
theorem RI{α:Type}{w r:α}(h:(match p,q with
 |R ps,R qs=>!(uW ps qs,w)
 | _,_=>J)=!(zs,r)):∃ps qs,p=R ps/\q=R qs/\zs=uW ps qs/\w=r:=by
 split at h
 . grind
 . cases h
def RO{p pos:Pos}{eq:List Expr}{x1}{tpos:Pos}(hg:Gl X "zip")(hm:X.mg "zip"=J)(ha:PA X [a,b] (jR X.K (aj f (aj g ao))))(hs:starEach [a,b] X.env=(M,eval a X.env)::starEach [b] X.env:=by rfl)(D:(backTo pos (starEach [b] X.env)).any (·.1)=M:=by rfl):PI X (.Tuple eq x1 tpos) (.Call (.Name "zip" p) [a,b] [] pos) (Iz X.K (Km f g)):=PI.imp (LH hg hm ha hs D) λU H ZN q=>by
 let(H0,Z0,Y,pd,xs,Y',s,h,k):=q;let(x,h1,h2):=ba h;let(y,h3,h4):=ba h2;show#[H0,Z0,Y,pd,[x.1,y.1],y.2,s,?_,λvs H1 W s1=>?_]
 . unfold aj ao;grind
 . show ym λZT kG=>?_;let(v,u,rfl):=mx W;have j:SR X.K H0 Z0 U H1 y.2 ((v,Zp x.1.pv)::(u,Zp y.1.pv)::pd):=SR.freezeAll s1;let(ps,qs,e,N,rfl,rfl):=RI h4;rw[e,N]at j;let(Z,z,r,r'):=j.rep2;let(F,us,rfl,i,g2'):=r;let(a',Q,rfl,g1,g2):=r';show kG #[a',F,O,#[_,bY.same z g1],#[_,bY.same z i],k _ _ _ j XN ((d5 _ _).cons _)]
end
end PL
namespace L2
open PL.PV renaming lst→R,int→ZI,str→ZH,tup→ZB,ptr→ZA
open PL.Lc renaming own→Zs,sh→Zp
open PySem PySem.Spec PyProof.Rows
variable {ae:List (Addr×Obj)}{E:Value->Shared->Prop}{s:Shared}{A:Around}{w:World}{P:Program}
end L2
namespace PL
open PL.PV renaming lst→R,int→ZI,str→ZH,tup→ZB,ptr→ZA
open PL.Lc renaming own→Zs,sh→Zp
open PySem PySem.Spec PyProof.Rows L2
variable {K:FG}{H0 H:Hp}{Z0:ZG}{U:L2.St}{Y:Ev}{pd:Pd}
def wN(a b:Str):Prop:=ltCps b.cps.toList a.cps.toList=M
def mZ:wN a b ↔ a.cps.toList<=b.cps.toList:=by unfold wN;rw[ltCps_eq,decide_eq_false_iff_not];show Iff.rfl
theorem Ak:∀(p:Str)(l:List Str),risingS p l=G->(p::l).Pairwise wN
 |p,[]=>λ_=>by simp
 |p,x::r=>λh=>by
  have h':(not (ltCps x.cps.toList p.cps.toList)&&risingS x r)=G:=h;simp only[fF,Bool.not_eq_true']at h';let j:=Ak x r h'.2;let q:=h'.1;show pairwise_cons.mpr #[λy i=>?_,j];obtain rfl|i:=a_.mp i
  . show q
  . show mZ.mpr (List.le_trans (mZ.mp q) (mZ.mp (rel_of_pairwise_cons j i)))
theorem Vp:∀{l:List Str},sortedS l=G->l.Pairwise wN
 |[]=>λ_=>.nil
 |x::r=>λh=>Ak x r h
def RS{a b:Str}(h:a.cps.toList=b.cps.toList):a=b:=by obtain⟨⟨b⟩⟩:=b;cases h;rfl
def Vq{a b:List Str}(p:a.Perm b)(i:a.Pairwise wN)(j:b.Pairwise wN):a=b:=
 Perm.eq_of_pairwise (λx y _ _ h1 h2=>RS (List.le_antisymm (mZ.mp h1) (mZ.mp h2))) i j p
noncomputable def Dy (x:Str):List Str->List Str
 |[]=>[x]
 |y::l=>if ltCps x.cps.toList y.cps.toList then x::y::l else y::Dy x l
def pU:List Str->List Str
 |[]=>[]
 |x::l=>Dy x (pU l)
theorem Al:∀{l:List Str},(Dy x l).Perm (x::l)
 |[]=>.rfl
 |y::l=>by
  unfold Dy;split
  . grind
  . show(Al.cons y).trans (.swap _ _ _)
theorem QL:∀{l:List Str},l.Pairwise wN->(Dy x l).Pairwise wN
 |[]=>λ_=>by simp[Dy]
 |y::l=>λh=>by
  let(h1,h2):=pairwise_cons.mp h;unfold Dy;split
  . rename_i g;rw[ltCps_eq,decide_eq_true_eq]at g;let j:=mZ.mpr (List.le_of_lt g);show pairwise_cons.mpr #[λz i=>?_,h];obtain rfl|i:=a_.mp i
    . show j
    . show mZ.mpr (List.le_trans (mZ.mp j) (mZ.mp (h1 z i)))
  . rename_i g;show pairwise_cons.mpr #[λz i=>?_,QL h2];obtain rfl|i:=a_.mp (Al.mem_iff.mp i)
    . simpa [wN] using g
    . grind
theorem uf:∀{l:List Str},(pU l).Perm l
 |[]=>.rfl
 |x::l=>Al.trans (uf.cons x)
theorem MK:∀{l:List Str},(pU l).Pairwise wN
 |[]=>.nil
 |x::l=>QL MK
def XQ(p:t.Perm ss)(h:sortedS t=G):t=pU ss:=Vq (p.trans uf.symm) (Vp h) MK
def uX:List Str->List Str
 |[]=>[]
 |x::l=>if x∈l then uX l else x::uX l
theorem Am:∀{l:List Str},y∈uX l ↔ y∈l
 |[]=>Iff.rfl
 |x::l=>by
  unfold uX;split
  . rename_i h;rw[Am,a_];grind
  . rw[a_,a_,Am]
theorem Dz:∀{l:List Str},(uX l).Nodup
 |[]=>.nil
 |x::l=>by
  unfold uX;split
  . show Dz
  . rename_i h;show fI.mpr #[λq=>h (Am.mp q),Dz]
theorem FP:∀{a b:List Str},a.Nodup->b.Nodup->(∀y,y∈a ↔ y∈b)->a.Perm b
 |[],b=>λ_ _ h=>by
  have:b=[]:=eq_nil_iff_forall_not_mem.mpr λy i=>by have:=(h y).mpr i;cases this
  rw[this]
 |x::a,b=>λj D h=>by
  let(h1,h2):=fI.mp j;let z:=(h x).mp be;let p:=perm_cons_erase z;show((FP h2 ∅ λy=>?_).cons x).trans p.symm;rw[D.mem_erase_iff];constructor
  . intro i;show#[λe=>h1 (e▸i),(h y).mp (cw _ i)]
  . rintro⟨n,i⟩;obtain e|q:=a_.mp ((h y).mpr i)
    . show absurd e n
    . show q
def XS(n:t.Nodup)(m:∀y,y∈t ↔ y∈ss)(h:sortedS t=G):t=pU (uX ss):=XQ (FP n Dz λy=>(m y).trans Am.symm) h
def BJ:List PV->Option (List Str)
 |[]=>![]
 |ZH x::ps=>(BJ ps).map (x::·)
 |_::_=>J
theorem Jd:∀{ps:List PV}{vs:List V}{i:List Str},BJ ps=!i->aK K Z ps vs->vs=i.map V.str
 |[],vs,i=>λh r=>by cases h;show r
 |p::ps,vs,i=>λh r=>by
  let(v,D,rfl,h1,h2):=r;cases p with
  |str x=>
   let(t,z,j):=cp h;cases j;rw[Jd z h2];rw[h1];rfl
  |_=>cases h
theorem MN:∀{i:List Str},aK K Z (i.map PV.str) (i.map V.str)
 |[]=>by  rfl
 |x::i=>#[.str x,i.map V.str,O,by unfold aT;rfl,MN]
section
variable {X:Cx}
def yw(f:EF):EF:=λY=>(f Y).bind λx=>match x.1.pv with
 |R ps=>(BJ ps).bind λss=>if -ss<64 then !(Zs (R ((pU (uX ss)).map PV.str)),x.2) else J
 |_=>J
def Vr(h:PE X (.Call (.Name "sorted" p) [.Call (.Name "set" p') [e] [] pos'] [] pos) (zN (Ut X) (J5 (zN (ya X) (jR X.K (aj f ao))) KJ))):PE X (.Call (.Name "sorted" p) [.Call (.Name "set" p') [e] [] pos'] [] pos) (tP X.K (yw f)):=PE.imp h λU H Q q=>by
 let(H0,Z0,Y,pd,l,Y',s,h,k):=q;let(x,h1,h2):=ba h;show#[H0,Z0,Y,pd,[x.1],x.2,s,?_,λvs H1 e1 s1=>?_]
 . unfold aj ao;rw[h1];rfl
 . let(v,rfl):=yZ e1;let N:=SR.freeze s1;cases e:x.1.pv with
   |lst ps=>
    rw[e]at h2 N;let(i,g1,j):=ba h2;split at j
    . rename_i hl;cases j;let(el,Z,hg,z,r,so):=N.sh;let(a,us,rfl,r1,r2):=r;let eu:=Jd g1 r2;subst eu;show#[a,i,O,bY.same z.zh r1,(),λb hb=>?_];let(z',lz,F):=so.newF z hb;show#[b,i,O,bZ,hl,λc W hc n m D=>k _ _ ?_];rw[XS n m D];let(z2,s3):=F.new (p:=R ((pU (uX i)).map PV.str)) z' hc #[_,bZ,MN];show .mk (Z:=Z.put b (.ext (Ld X.prog X.w b i))) el hg z2 s3
    . cases j
   |_=>grind
def FQ:List PV->Option (List Int)
 |[]=>![]
 |ZI x::ps=>(FQ ps).map (x::·)
 |_::_=>J
theorem Je:∀{ps:List PV}{vs:List V}{ns:List Int},FQ ps=!ns->aK K Z ps vs->vs=ns.map V.int
 |[],vs,ns=>λh r=>by cases h;show r
 |p::ps,vs,ns=>λh r=>by
  let(v,z,rfl,h1,h2):=r;cases p with
  |int x=>
   let(t,q,i):=cp h;cases i;rw[Je q h2];rw[h1];rfl
  |_=>cases h
def XX:PV->Option Lc
 |R ps=>(FQ ps).bind λns=>if (ns.all λn=>decide (0<=n))&&decide (ns.sum<4611686018427387904) then !(Zp (ZI ns.sum)) else J
 |_=>J
abbrev DG:List PV->Option Lc:=λps=>match ps with |[p]=>XX p |_=>J
def RY:lQ K (λxs H Q=>∃(p:Addr)(ns:List Int),xs=[.ref p]/\bY K H p (ns.map V.int)/\(∀n∈ns,0<=n)/\ns.sum<4611686018427387904/\Q (.int ns.sum) H) DG:=lQ.one λH0 Z0 U Y pd H v p l Q s e k=>by
 let D:=s.pop;let(el,Z,W,z,r,N):=s.sh;cases p with
 |lst ps=>
  let(ns,h1,h2):=ba e;split at h2
  . rename_i i;cases h2;simp only[fF,List.all_eq_true,decide_eq_true_eq]at i;let(a,vs,rfl,q,j):=r;let F:=Je h1 j;subst F;show#[a,ns,O,bY.same z.zh q,i.1,i.2,k _ _ (D.scal λZ=>gF _)]
  . cases h2
 |_=>cases e
def SR.ext(s:SR K H0 Z0 U H Y pd)(F:H l=J):SR K H0 Z0 U (aE H l o) Y pd:=by let(j,Z,D,z,q):=s;let(N,Q,i):=q.newF z F;show#[j,Z.put l o,D,N,i]
abbrev FD:=List (Str×PV)
noncomputable def sr:FD->Str->Option PV
 |[],_=>J
 |kv::r,k=>if kv.1=k then !kv.2 else sr r k
noncomputable def su (f:Str) (p:PV):FD->FD
 |[]=>[(f,p)]
 |kv::r=>if kv.1=f then (kv.1,p)::r else kv::su f p r
def gf(C:Str)(l:FD):PV:=.obj C (l.map (·.1)) (l.map (·.2))
def pW(K:FG)(Z:ZG):FD->List (Str×V)->Prop:=Paired λp q=>p.1=q.1/\aT K Z p.2 q.2
section
variable {K:FG}{Z Z':ZG}
theorem Ha:∀{i:List (Str×V)}{ks:List Str}{ps:List PV},i.map (·.1)=ks->aK K Z ps (i.map (·.2))->pW K Z (ks.zip ps) i
 |[],ks,ps=>λh1 h2=>by subst h1;show .nil
 |F::r,ks,ps=>λh1 h2=>by
  subst h1;cases ps with
  |nil=>have:=h2.inv0;grind
  |cons p ps=>
   let(v,N,e,j,z):=h2.inv;injection e with D q;subst D q;show .cons #[O,j] (Ha O z)
theorem pW.keys:∀{l:FD}{i:List (Str×V)},pW K Z l i->i.map (·.1)=l.map (·.1)
 |_,_,.nil=>rfl
 |_,_,.cons h t=>by rw[dP,dP,h.1,pW.keys t]
theorem pW.vals:∀{l:FD}{i:List (Str×V)},pW K Z l i->aK K Z (l.map (·.2)) (i.map (·.2))
 |_,_,.nil=>.nil
 |_,_,.cons h t=>aK.cons h.2 (pW.vals t)
theorem pW.look:∀{l:FD}{i:List (Str×V)},pW K Z l i->(∀p,sr l f=!p->∃v,i.lookup f=!v/\aT K Z p v)/\(sr l f=J->i.lookup f=J)
 |_,_,.nil=>#[λp h=>(by cases h),λ_=>O]
 |p::l,q::i,.cons h t=>by
  let Q:=pW.look (f:=f) t;have F:(q::i).lookup f=if f=q.1 then !q.2 else i.lookup f:=by
   let(N,W):=q;by_cases e:f=N
   . grind
   . grind
  rw[F];by_cases e:p.1=f
  . have j:f=q.1:=by rw[<-h.1];show e.symm
    rw[aw j];show#[λx D=>#[q.2,O,?_],λD=>?_]
    . unfold sr at D;grind
    . unfold sr at D;grind
  . have j:¬ f=q.1:=by rw[<-h.1];show λz=>e z.symm
    rw[ay j];unfold sr;grind
theorem pW.put(r:aT K Z p v):∀{l:FD}{i:List (Str×V)},pW K Z l i->pW K Z (su f p l) (jz f v i)
 |_,_,.nil=>.cons #[O,r] .nil
 |a::l,b::i,.cons h t=>by
  unfold su jz;by_cases e:a.1=f
  . rw[aw e,aw ∅];show .cons #[h.1,r] t
  . rw[ay e,ay ∅];show .cons h (pW.put r t)
end
structure yx(K:FG)(mg:Str->Option Value)(C:Str)(c:Addr):Prop where
 cn:CN K C c
 cl:zJ K c
 mgC:mg C=!(.ref c)
def SJ(h:CN K C c)(g:CN K C d):c=d:=by have:(!(!(Value.ref c)))=!(!(YV d)):=h.symm.trans g;grind
def jB(C f:Str)(fo:EF):EF:=λY=>(fo Y).bind λx=>match x.1.pv with
 |ZA n=>match x.2.mu[n]? with
  |some (!(.obj D ks ps))=>if D=C then (sr (ks.zip ps) f).map λp=>(Zp p,x.2) else J
  |_=>J
 |_=>J
def SR.cellB{pd pe:Pd}(j:Y.mu[n]?=!(!p))(s:SR K H0 Z0 U H #[Y.vs,Y.mu.set n J] ((.ref a,Zs p)::(.ref a,Zp (ZA n))::pd)):SR K H0 Z0 U H Y pd:=by
 let D:=(c9.mp j).1;let q:=s.cellP ∅;have z:(Y.mu.set n J).set n (!p)=Y.mu:=by rw[kK];show iA j
 grind
def SR.objAt(s:SR K H0 Z0 U H Y ((v,Zp (ZA n))::pd))(F:Y.mu[n]?=!(!(.obj C ks ps))):
 ∃a c dx fs,v=.ref a/\CN K C c/\H a=!(.ins c dx fs)/\fs.map (·.1)=ks/\(∀f p,sr (ks.zip ps) f=!p->∃u,fs.lookup f=!u/\SR K H0 Z0 U H Y ((u,Zp p)::(v,Zp (ZA n))::pd))/\∀f,sr (ks.zip ps) f=J->fs.lookup f=J:=by
 let i:=s.part λZ _ r=>r;let(a,rfl,Q):=i.cellO F;let(N,Z,W,z,q):=Q.top;let(_,ea,(c,dx,fs,cn,hu,hk,hr),_):=q.1 _ be;cases ea;let D:=Ha hk hr;show#[a,c,dx,fs,O,cn,hu,hk,λf p j=>?_,λf j=>D.look.2 j];let(u,h1,h2):=D.look.1 p j;show#[u,h1,?_];have s6:SR K H0 Z0 U H #[Y.vs,Y.mu.set n J] ((u,Zp p)::(.ref a,Zs (.obj C ks ps))::(.ref a,Zp (ZA n))::(.ref a,Zp (ZA n))::pd):=.mk N W z ((q.perm dD).consS h2);let s7:=s6.perm (((Perm.swap _ _ _).cons _).trans (Perm.swap _ _ _));show SR.cellB (pe:=pd) F s7
def wg(T:yx X.K X.mg C c)(na:kW X.K c f)(ho:PE X o (tP X.K i))(W:attributeBase o f X.env (eval o X.env)=eval o X.env:=by rfl):PE X (.Attribute o f pos) (tP X.K (jB C f i)):=PE.imp (HV ho W) λU H Q q=>by
 let(H0,Z0,Y,pd,l,Y',s,h,k):=q;let(x,h1,h2):=ba h;show#[H0,Z0,Y,pd,x.1,x.2,s,h1,λv H1 s1=>?_];split at h2
 . rename_i n en;split at h2
   . rename_i D ks ps em;split at h2
     . rename_i eD;subst eD;let(p,h3,z):=cp h2;cases z;let j:=s1.freeze;rw[en]at j;let(a,c',dx,fs,rfl,cn,hH,hk,N,_):=j.objAt em;have:=SJ T.cn cn;subst this;let(u,h5,F):=N f p h3;show#[a,c,dx,fs,u,O,hH,T.cl,na,h5,k u H1 (F.sub ((d5 _ _).cons_cons _))]
     . cases h2
   . cases h2
 . cases h2
def BP(C f:Str)(fo fv:EF):SF:=λY=>(fv Y).bind λy=>(fo y.2).bind λx=>match x.1.pv with
 |ZA n=>match x.2.mu[n]? with
  |some (!(.obj D ks ps))=>if D=C/\-ks<1000 then !(.nx #[x.2.vs,x.2.mu.set n (!(gf C (su f y.1.pv (ks.zip ps))))]) else J
  |_=>J
 |_=>J
def Hb(T:yx X.K X.mg C c)(na:kW X.K c f)(ho:PE X o (tP X.K fo))(hv:PE X value (tP X.K fv))(hs:swapsWith value (!(.Attribute o f pos')) pos.line X.env=pure M:=by rfl):PS X (.Assign [.Attribute o f pos'] value pos) (iw X.K (BP C f fo fv)):=PS.imp (HZ ho hv hs) λD U H q=>by
 let(H0,Z0,Y,pd,fl,s,h,k):=q;let(y,h1,h2):=ba h;let(x,h3,i):=ba h2;show#[H0,Z0,Y,pd,y.1,y.2,s,h1,λv H1 s1=>#[H0,Z0,y.2,_,x.1,x.2,s1.freeze,h3,λw H2 s2=>?_]];split at i
 . rename_i n en;split at i
   . rename_i F ks ps Q;split at i
     . rename_i N;let(N,hz):=N;subst N;cases i;let W:=s2.freeze;rw[en]at W;let(a,rfl,s5):=W.cellO Q;let s6:=s5.perm ((Perm.swap _ _ _).trans ((Perm.swap _ _ _).cons _));let(el,Z,hg,z,r,so):=s6.sh;let j:=so.perm dD.symm;let(_,eb,(c',dx,fs,cn,hu,hk,hr),_):=j.1 _ be;cases eb;have:=SJ T.cn cn;subst this;let rf:=Ha hk hr;let rp:=rf.put (f:=f) r;have hlen:-fs=-ks:=by rw[<-hk,bo]
       show#[a,c,dx,fs,O,hu,T.cl,na,(),k U _ ?_];let(z',s'):=j.write (q:=gf F (su f y.1.pv (ks.zip ps))) z #[c,dx,jz f v fs,cn,bZ,rp.keys,rp.vals];have s7:SR X.K H0 Z0 U (aE H2 a (.ins c dx (jz f v fs))) #[x.2.vs,x.2.mu.set n J] ((.ref a,Zs (gf F (su f y.1.pv (ks.zip ps))))::(.ref a,Zp (ZA n))::pd):=.mk el hg z' s';let hn:=(c9.mp Q).1;let s8:=s7.cellP ∅;grind
     . cases i
   . cases i
 . cases i
end
section
variable {P:Program}{w:World}{K:FG}{mg:Str->Option Value}{base:Heap}
def wO(K:FG)(c:Addr)(m qual:Str)(st:Stmt)(ps:List Str):Prop:=∃f fd,vD K m qual st f fd/\W.findIn K (YV c) m=!(!(YV f))/\W.isFn K (YV f)=G/\c0 K fd ps []
def vO(P:Program)(w:World)(K:FG)(mg:Str->Option Value)(base:Heap)(c:Addr)(m:Str)(k:Nat)(ps:List Str)(sp:Sp):Prop:=∃f fd,oK P w K mg base qD k f fd ps sp/\im K c m f/\c0 K fd ps []
def vD.okQ{st:Stmt}(F:vD K x qual st f fd)(S:bz N ps (aG st))
 (h:∀(j:Value)(A:Around)(i:List PySem.Env)(s:Shared)(H:Hp)(E:XK),qM k (A.deeper (envOfC qual (aG st) s.heap.objs.size f j))->
   ∃g':SF,(∀a mu,g a mu=cY (-N) g' a mu)/\jP (Ww qD P w K mg base N qual (aG st) f j A i s H E).nox (jC st) (iw K g')):oK P w K mg base qD (k+1) f fd ps (bW K (-ps) g):=by
 show F.ok S (λvs H Q E q=>?_) (λj A i s H vs Q E hr q=>?_)
 . let(Z,qs,mu,r,f6,e,_):=q;show e
 . let(g',eg,b):=h j A i s H E hr;let(Z,qs,mu,r,f6,e,hg,z,rl,c,i8,kk):=q;rw[eg]at i8;let(fl,h1,h2):=ba i8;show#[_,b,my H (uP Z.g mu),Z,_,[],fl,Ds hg z rl c,h1,?_];cases fl with
   |rt r' Y'=>
    cases h2;intro v U' H' s';let(el,Z',D,z',W):=s'.top;show kk v H' #[Z',D,z',W.sub ?_];show(gL _ _).cons_cons _
   |nx Y'=>
    cases h2;intro U' H' s';let(el,Z',D,z',W):=s';show kk .non H' #[Z',D,z',(W.sub (gL _ _)).consS (Bq _)]
   |bk Y'=>cases h2
   |ct Y'=>cases h2
def wO.ok{st:Stmt}(F:wO K c m qual st ps)(S:bz N ps (aG st))
 (h:∀(f:Addr)(j:Value)(A:Around)(i:List PySem.Env)(s:Shared)(H:Hp)(E:XK),qM k (A.deeper (envOfC qual (aG st) s.heap.objs.size f j))->
   ∃q:SF,(∀a mu,g a mu=cY (-N) q a mu)/\jP (Ww qD P w K mg base N qual (aG st) f j A i s H E).nox (jC st) (iw K q)):vO P w K mg base c m (k+1) ps (bW K (-ps) g):=by
 let(f,fd,F,h1,h2,z):=F;show#[f,fd,vD.okQ F S (h f),#[h1,h2,F.kp],z]
end
section
variable {X:Cx}
def cX(C m:Str)(g:GF)(fo:EF)(a:AF):EF:=λY=>(fo Y).bind λx=>match x.1.pv with
 |ZA n=>match x.2.mu[n]? with
  |some (!(.obj D ks _))=>if D=C/\ks.contains m=M then (a x.2).bind λy=>(g (ZA n::y.1.map Lc.pv) y.2.mu).map λr=>(r.1,#[y.2.vs,r.2]) else J
  |_=>J
 |_=>J
theorem Jf:∀{fs:List (Str×V)},(fs.map (·.1)).contains m=M->fs.lookup m=J
 |[]=>λ_=>rfl
 |(g,x)::r=>λh=>by grind
def MP(T:yx X.K X.mg C c)(hn:∀Y ls Y1,a Y=!(ls,Y1)->-ls+1=n'):∀U H Q,tP X.K (cX C m g fo a) U H Q->RT c m (bW X.K n' g) [] E (tP X.K fo) (jR X.K a) U H Q:=λU H Q q=>by
 let(H0,Z0,Y,pd,l,Y',s,h,k):=q;let(x,h1,h2):=ba h;show#[H0,Z0,Y,pd,x.1,x.2,s,h1,λv H1 s1=>?_];split at h2
 . rename_i n en;split at h2
   . rename_i D ks ps em;split at h2
     . rename_i F;let(F,hk):=F;subst F;let(y,h3,h4):=ba h2;let(r,h5,h6):=cp h4;cases h6;let j:=s1.freeze;rw[en]at j;let(W,c',dx,fs,rfl,cn,hH,n5,_):=j.objAt em;have:=SJ T.cn cn;subst this;show#[W,dx,fs,O,hH,Jf ∅,H0,Z0,x.2,_,y.1,y.2,j,h3,λvs H2 e2 s3=>?_];have s4:SR X.K H0 Z0 U H2 y.2 ((V.ref W::vs).zip (Lc.sh (ZA n)::y.1)++pd):=s3.perm (by rw[m7,js];show et.symm)
       let(el,Z,N,z,rl,i):=s4.repl ∅;show#[Z,ZA n::y.1.map Lc.pv,y.2.mu,r.1,r.2,?_,N,z.zh,?_,i.cells N,h5,λv H' rr=>k v H' (SR.called el N z i rr)]
       . grind
       . rw[da];show rl
     . cases h2
   . cases h2
 . cases h2
def jt{apos pos:Pos}{pl:Sem Bool}(T:yx X.K X.mg C c)(N:vO X.prog X.w X.K X.mg X.base c m k ps (bW X.K (-ps) g))(W:qM k X.A)(D:PE X o (tP X.K fo))(q:PA X (e::es) (jR X.K a))(z:∀Y ls Y1,a Y=!(ls,Y1)->-ls+1=-ps)
 (i:starEach (e::es) X.env=(M,eval e X.env)::starEach es X.env:=by rfl) (j:(backTo pos (starEach es X.env)).any (·.1)=M:=by rfl)
 (ht:eval (.Call (.Attribute o m apos) (e::es) [] pos) X.env=(do
   let ov <-eval o X.env
   standAt apos.atName
   let (f,first) <-holding [ov] (getMethod ov m pl)
   callWith pos f first (backTo pos (starEach (e::es) X.env)) (backToKw pos (keywordEach [] X.env))):=by rfl):PE X (.Call (.Attribute o m apos) (e::es) [] pos) (tP X.K (cX C m g fo a)):=by
 let(f,fd,F,hm,Q):=N
 show PE.imp (ZV D T.cl hm F W Q .nil J6 q i j ht) (MP T z)
def R_(T:yx X.K X.mg C c)(W:vO X.prog X.w X.K X.mg X.base c m k ps (bW X.K (-ps) g))(hr:qM k X.A)(N:PE X o (tP X.K fo))(z:1=-ps)
 (ht:eval (.Call (.Attribute o m apos) [] [] pos) X.env=(do
   let ov <-eval o X.env
   standAt apos.atName
   let (f,first) <-holding [ov] (getMethod ov m pl)
   callWith pos f first (backTo pos (starEach [] X.env)) (backToKw pos (keywordEach [] X.env))):=by rfl):PE X (.Call (.Attribute o m apos) [] [] pos) (tP X.K (cX C m g fo ao)):=by
 let(f,fd,F,hm,hb):=W
 show PE.imp (Wu N T.cl hm F hr hb .nil J6 ht) λU H Q q=>?_
 have:=MP (E:=E0) (n':=-ps) T (λY ls Y1 h=>by cases h;rw[<-z];rfl) U H Q q
 let(H0,Z0,Y,pd,l,Y',s,h,k):=this
 show#[H0,Z0,Y,pd,l,Y',s,h,λv H1 D=>?_]
 let(a,dx,fs,j,e2,e3,H0',Z0',Y2,pd2,ls,Y3,i,h2,k2):=k v H1 D
 cases h2
 show#[a,dx,fs,j,e2,e3,k2 [] H1 O i]
def SR.toCell(s:SR K H0 Z0 U H Y ((.ref a,Zs p)::pd)):SR K H0 Z0 U H #[Y.vs,Y.mu++[!p]] ((.ref a,Zp (ZA (-Y.mu)))::pd):=by
 let(D,Z,F,z,j):=s.top;have q:iu Z #[Z.z,Z.g++[a]]:=#[eY_.refl _,nw _ _];let i:=j.step q λe W b Q=>#[O,(jn j W Q).1];show .mk (Z:=#[Z.z,Z.g++[a]]) D ∅ #[z.zh,z.h0,z.z0.trans q,z.new] (ah.consS ?_ ?_)
 . show i.perm ?_;have N:cel (Z.g++[a]) (Y.mu++[!p])=cel Z.g Y.mu++[(!(.ref a),!(Zs p))]:=by unfold cel;rw[cy,cy,jS ∅];rfl
   show Perm (cel (Z.g++[a]) (Y.mu++[!p])++_) _;rw[N,cx];show et
 . show#[a,O,by show (Z.g++[a])[-Y.mu]?=!a;rw[F,eW ()];simp]
def FT(C:Str)(g:GF)(a:AF):EF:=λY=>(a Y).bind λy=>(g (ZA (-y.2.mu)::y.1.map Lc.pv) (y.2.mu++[!(.obj C [] [])])).bind λr=>match r.1 with
 |Zp .non=>!(Zp (ZA (-y.2.mu)),#[y.2.vs,r.2])
 |_=>J
def X4(P:Program)(w:World)(K:FG)(mg:Str->Option Value)(base:Heap)(c:Addr)(k:Nat)(ps:List Str)(sp:Sp):Prop:=∃f fd,oK P w K mg base qD k f fd ps sp/\Mk K c f/\c0 K fd ps []
def X5(T:yx X.K X.mg C c)(hn:∀Y ls Y1,a Y=!(ls,Y1)->-ls+1=n'):∀U H Q,tP X.K (FT C g a) U H Q->YX c (bW X.K n' g) [] E (jR X.K a) U H Q:=λU H Q q=>by
 let(H0,Z0,Y,pd,l,Y',s,h,k):=q;let(y,h1,h2):=ba h;let(r,h3,D):=ba h2;split at D
 . rename_i er;cases D;show#[H0,Z0,Y,pd,y.1,y.2,s,h1,λj H1 e1 s1 x dx hx N Sa=>?_];have s2:SR X.K H0 Z0 U (aE H1 dx (.own x)) y.2 (j.zip y.1++pd):=s1.ext N;have s3:SR X.K H0 Z0 U (aE (aE H1 dx (.own x)) x (.ins c dx [])) y.2 ((.ref x,Zs (.obj C [] []))::(j.zip y.1++pd)):=s2.newO (by rw[cV Sa.symm];show hx) λZ _ _=>#[c,dx,[],T.cn,bZ,O,.nil];let s4:=s3.toCell;let s5:=s4.part λZ _ r=>r;have s6:SR X.K H0 Z0 U (aE (aE H1 dx (.own x)) x (.ins c dx [])) #[y.2.vs,y.2.mu++[!(.obj C [] [])]] ((V.ref x::j).zip (Lc.sh (ZA (-y.2.mu))::y.1)++(.ref x,Zp (ZA (-y.2.mu)))::pd):=s5.perm ∅
   let(el,Z,F,z,rl,i):=s6.repl ∅;show#[Z,ZA (-y.2.mu)::y.1.map Lc.pv,y.2.mu++[!(.obj C [] [])],r.1,r.2,?_,F,z.zh,?_,i.cells F,h3,λv H' rr=>?_]
   . grind
   . rw[da];show rl
   . let W:=SR.called el F z i rr;rw[er]at W;let(_,r0):=W.repH;show#[jL r0,k _ _ W.pop]
 . cases D
def Sb{p pos:Pos}(T:yx X.K X.mg C c)(N:X4 X.prog X.w X.K X.mg X.base c k ps (bW X.K (-ps) g))(W:qM (k+1) X.A)(z:Gl X C)(q:PA X (e::es) (jR X.K a))(D:∀Y ls Y1,a Y=!(ls,Y1)->-ls+1=-ps)
 (i:(C==("__debug__" : Str))=M:=by decide) (he:starEach (e::es) X.env=(M,eval e X.env)::starEach es X.env:=by rfl) (j:(backTo pos (starEach es X.env)).any (·.1)=M:=by rfl):PE X (.Call (.Name C p) (e::es) [] pos) (tP X.K (FT C g a)):=by
 let(f,fd,F,hm,Q):=N;show PE.imp (ZW hm F W z T.mgC Q .nil J6 q i he j) (X5 T D)
end
def gO{a:AF}(h:∀Y ls Y1,a Y=!(ls,Y1)->-ls=n)(e:n+1=m:=by rfl):∀Y ls Y1,a Y=!(ls,Y1)->-ls+1=m:=λY ls Y1 g=>by rw[h _ _ _ g,e]
def Sc(h:vO P w K mg base c "__init__" k ps sp)(mk:W.makesIn K c=G)(i:W.keepIn K (YV c)=G):X4 P w K mg base c k ps sp:=by let(f,fd,F,m,b):=h;show#[f,fd,F,#[mk,m.at_,m.fn,i],b]
end PL
namespace L2
open PL.PV renaming lst→R,int→ZI,str→ZH,tup→ZB,ptr→ZA
open PL.Lc renaming own→Zs,sh→Zp
open PySem PySem.Spec PyProof.Rows
variable {ae:List (Addr×Obj)}{E:Value->Shared->Prop}{s:Shared}{A:Around}{w:World}{P:Program}
end L2
namespace PL
open PL.PV renaming lst→R,int→ZI,str→ZH,tup→ZB,ptr→ZA
open PL.Lc renaming own→Zs,sh→Zp
open PySem PySem.Spec PyProof.Rows L2
variable {K:FG}{H0 H:Hp}{Z0:ZG}{U:L2.St}{Y:Ev}{pd:Pd}
end PL
namespace L2
open PL.PV renaming lst→R,int→ZI,str→ZH,tup→ZB,ptr→ZA
open PL.Lc renaming own→Zs,sh→Zp
open PySem PySem.Spec PyProof.Rows
variable {ae:List (Addr×Obj)}{E:Value->Shared->Prop}{s:Shared}{A:Around}{w:World}{P:Program}
section
variable {X:Cx}
noncomputable def pk {α:Type} (xs:List α) (lo hi st:Option Int):List α:=
 (sliceRange (sliceBounds lo hi st (-xs)).1 (sliceBounds lo hi st (-xs)).2.1 (sliceBounds lo hi st (-xs)).2.2).filterMap λi=>xs[i]?
def MT{lo hi st:Option Int}:slicePick bp.toArray lo hi st=(pk bp lo hi st).toArray:=by unfold slicePick pk;simp
theorem am.pick(r:am xs bp):∀{l:List Nat},am (l.filterMap λi=>xs[i]?) (l.filterMap λi=>bp[i]?)
 |[]=>.nil
 |i::l=>by
  let q:=-r;cases h:xs[i]? with
  |none=>
   have h':bp[i]?=J:=by rw[List.getElem?_eq_none_iff]at h ⊢;lia
   rw[gE h,gE h'];show r.pick
  |some x=>
   let(u,h',j):=r.get h;rw[filterMap_cons_some h,filterMap_cons_some h'];show .cons j r.pick
theorem am.pk{lo hi st:Option Int}(r:am xs bp):am (pk xs lo hi st) (L2.pk bp lo hi st):=by unfold L2.pk;rw[r.length];show r.pick
def Se(K:FG)(te:TE)(tl th tt:TO):TE:=λU H Q=>te U H λx H1=>tl U H1 λl H2=>th U H2 λu H3=>tt U H3 λk H4=>∃a xs,x=.ref a/\bY K H4 a xs/\k≠!0/\∀p,H4 p=J->Q (.ref p) (aE H4 p (.lst (pk xs l u k)))
def Vs{lo hi:Option Expr}{st:Expr}(he:PE X e te)(hl:PO X lo tl)(hu:PO X hi th)(N:PO X (!st) tt):PE X (.Subscript e (.Slice lo hi (!st) p2) pos) (Se X.K te tl th tt):=by
 intro ae s U H Q I h;show Subscript_ (dg (he ae s U H _ I h) λv s1 Sf=>?_);let(x,H1,I1,r1,q1):=Sf;show wpAny_Slice (dg (hl ae s1 U H1 _ I1 q1) λvl s2 Si=>?_);let(l,H2,I2,pl,q2):=Si;show dg (hu ae s2 U H2 _ I2 q2) λvu s3 Sj=>?_;let(u,H3,I3,pu,q3):=Sj;show dg (N ae s3 U H3 _ I3 q3) λW z Sk=>?_;let(k,H4,I4,Sm,q4):=Sk;let(a,xs,rfl,hx,hk,q):=q4;cases r1;have I5:ai X ae U H4 { z with heap:=z.heap.push { cls:=.type "slice",data:=.fields (List.toArray [vl,vu,W]) } }:=I4.kept λb ob q=>cE _ q;let(bp,r,N,hz):=I5.list hx;let hlen:=-r;have hg:wpAny (model X.prog X.w) X.A (getItem (YV a) (YV z.heap.objs.size)) (EP X ae U Q) X.xe { z with heap:=z.heap.push { cls:=.type "slice",data:=.fields (List.toArray [vl,vu,W]) } }:=by show wpAny_getItem_list_slice N.isList (Heap.IsSliceOf.new ..) pl pu Sm hk ?_ ∅;let F:=slicePick_size_le bp.toArray l u k;rw[MT]at F ⊢;show#[.ref (z.heap.push { cls:=.type "slice",data:=.fields (List.toArray [vl,vu,W]) }).objs.size,_,I5.laid (λb ob q=>cE _ q) (br _) ?_,O,q _ (I5.hok.fresh (br _))];show#[?_,_,0,r.pk,dE _ O];let e:=-(r.pk (lo:=l) (hi:=u) (st:=k));rw[eP,eP]at F;lia
 show tail_any N.isList.typeIs slot_list_getitem.lookup hg ()
end
end L2
namespace PL
open PL.PV renaming lst→R,int→ZI,str→ZH,tup→ZB,ptr→ZA
open PL.Lc renaming own→Zs,sh→Zp
open PySem PySem.Spec PyProof.Rows L2
variable {K:FG}{H0 H:Hp}{Z0:ZG}{U:L2.St}{Y:Ev}{pd:Pd}
section
variable {X:Cx}
theorem aK.pick(r:aK K Z ps vs):∀{l:List Nat},aK K Z (l.filterMap λi=>ps[i]?) (l.filterMap λi=>vs[i]?)
 |[]=>aK.nil
 |i::l=>by
  let q:=-r;cases h:ps[i]? with
  |none=>
   have h':vs[i]?=J:=by rw[List.getElem?_eq_none_iff]at h ⊢;lia
   rw[gE h,gE h'];show r.pick
  |some x=>
   let(u,h',j):=r.get h;rw[filterMap_cons_some h,filterMap_cons_some h'];show aK.cons j r.pick
theorem aK.pk{lo hi st:Option Int}(r:aK K Z ps vs):aK K Z (L2.pk ps lo hi st) (L2.pk vs lo hi st):=by unfold L2.pk;rw[r.length];show r.pick
def DN(f:EF)(lo hi st:OF):EF:=λY=>(f Y).bind λx=>(lo x.2).bind λy=>(hi y.2).bind λz=>(st z.2).bind λt=>match x.1.pv with
 |R ps=>if t.1≠!0 then !(Zs (R (pk ps y.1 z.1 t.1)),t.2) else J
 |_=>J
def QM{lo hi:Option Expr}{st:Expr}(he:PE X e (tP X.K f))(hl:PO X lo (Fw X.K fl))(hu:PO X hi (Fw X.K fh))(ht:PO X (!st) (Fw X.K fs)):
 PE X (.Subscript e (.Slice lo hi (!st) p2) pos) (tP X.K (DN f fl fh fs)):=PE.imp (Vs he hl hu ht) λU H Q q=>by
 let(H0,Z0,Y,pd,r,Y',s,h,k):=q;let(x,h1,h2):=ba h;let(y,h3,h4):=ba h2;let(z,h5,h6):=ba h4;let(t,h7,i):=ba h6;show#[H0,Z0,Y,pd,x.1,x.2,s,h1,λv H1 s1=>#[H0,Z0,x.2,_,y.1,y.2,s1.freeze,h3,λH2 s2=>#[H0,Z0,y.2,_,z.1,z.2,s2,h5,λH3 W=>#[H0,Z0,z.2,_,t.1,t.2,W,h7,λH4 j=>?_]]]];split at i
 . rename_i ps e;split at i
   . rename_i hk;cases i;rw[e]at j;let(N,Z,hg,D,F,s5):=j.sh;let(a,vs,rfl,g1,g2):=F;show#[a,vs,O,bY.same D.zh g1,hk,λp hp=>k _ _ ?_];let(z',s'):=s5.new (p:=R (pk ps y.1 z.1 t.1)) D hp #[_,bZ,g2.pk];show .mk N hg z' s'
   . cases i
 . cases i
def Holds(o:Option Nat)(ps:List PV)(Y:Ev):Prop:=∀n,o=!n->Y.mu[n]?=!(!(R ps))
noncomputable def sealV (i:Nat) (Y:Ev):Option Ev:=match Y.vs[i]? with
 |some (!(Zs p))=>!#[Y.vs.set i (!(Zp (ZA (-Y.mu)))),Y.mu++[!p]]
 |_=>J
def wQ(i:Nat)(f:SF):SF:=λY=>(sealV i Y).bind f
theorem SR.sealV(s:SR K H0 Z0 U H Y pd)(h:PL.sealV i Y=!Y'):SR K H0 Z0 U H Y' pd:=by
 unfold PL.sealV at h;split at h
 . rename_i p F;let(v,N,q):=s.take F;let(_,Z,_,z,D):=q.top;let(a,W,_):=D.1 _ be;let j:=d0 W;subst j;let Q:=q.toCell.put N;have s3:SR K H0 Z0 U H #[(Y.vs.set i J).set i (!(Lc.sh (ZA (-Y.mu)))),Y.mu++[!p]] pd:=Q;grind
 . cases h
def QQ{st:Stmt}(h:PS X st (iw X.K f)):PS X st (iw X.K (wQ i f)):=PS.imp h λD U H q=>by let(H0,Z0,Y,pd,fl,s,h,k):=q;let(Y1,h1,h2):=ba h;show#[H0,Z0,Y1,pd,fl,s.sealV h1,h2,k]
end
noncomputable def fQ (mu:Mu):Nat->PV->PV
 |0,p=>p
 |k+1,ZA n=>match mu[n]? with
  |some (!p)=>fQ mu k p
  |_=>ZA n
 |k+1,ZB ps=>ZB (ps.map (fQ mu k))
 |k+1,R ps=>R (ps.map (fQ mu k))
 |k+1,.dk ks ps=>.dk ks (ps.map (fQ mu k))
 |_+1,p=>p
theorem yz(i:∀p x,aT K Z p x->aT K Z (f p) x):∀{ps:List PV}{vs:List V},aK K Z ps vs->aK K Z (ps.map f) vs
 |[],vs=>λh=>h
 |p::ps,vs=>λh=>by let(v,r,rfl,h1,h2):=h.inv;show aK.cons (i p v h1) (yz i h2)
def peekD(mu:Mu):Option Lc->Option Lc
 |some l=>!(Zp (fQ mu 40 l.pv))
 |none=>J
def Ev.peekD(Y:Ev):Ev:=#[Y.vs.map (PL.peekD Y.mu),Y.mu.map λ_=>J]
section
variable {X:Cx}
def FZ(fo:EF):EF:=λY=>(fo Y).bind λo=>match o.1.pv with
 |ZA n=>match o.2.mu[n]? with
  |some (!(R ws))=>(ws[-ws-1]?).map λp=>(Zp p,#[o.2.vs,o.2.mu.set n (!(R ws.dropLast))])
  |_=>J
 |_=>J
def Sn(h:PE X (.Call (.Attribute o "pop" apos) [] [] cpos) (xh X.K "list" xi (tP X.K F))):PE X (.Call (.Attribute o "pop" apos) [] [] cpos) (tP X.K (FZ F)):=PE.imp h λU H Q q=>by
 let(H0,Z0,Y,pd,r,Y',s,h,k):=q;let(o',h1,h2):=ba h;show#[H0,Z0,Y,pd,o'.1,o'.2,s,h1,λv H1 s1=>?_];split at h2
 . rename_i n en;split at h2
   . rename_i ws W;let(p,h3,h4):=cp h2;cases h4;let N:=s1.freeze;rw[en]at N;let(a,rfl,D):=N.cellO W;let(_,Z,_,z,so):=D.top;let(_,ea,(us,hu,_),_):=so.1 _ be;cases ea;let(j,y,i,hy,s6):=D.popO h3;let s7:=(s6.perm ((Perm.swap _ _ _).cons _)).cellP (by show (o'.2.mu.set n J)[n]?=_;rw[hW ((c9.mp W).1)]);show#[Zl #[O,us,bY.of hu],a,j,y,O,O,i,hy,k _ _ ?_];grind
   . cases h2
 . cases h2
def j7(f:EF)(fl fh:OF):EF:=λY=>(f Y).bind λx=>(fl x.2).bind λy=>(fh y.2).bind λz=>match x.1.pv with
 |ZB ps=>if HT.sIx (-ps) 0 y.1=0/\HT.sIx (-ps) (-ps) z.1=-ps then J else !(Zp (ZB (rm ps y.1 z.1)),z.2)
 |_=>J
def uC{lo hi:Option Expr}(he:PE X e (tP X.K f))(hl:PO X lo (Fw X.K fl))(hu:PO X hi (Fw X.K fh)):PE X (.Subscript e (.Slice lo hi J p2) pos) (tP X.K (j7 f fl fh)):=PE.imp (KR IU he hl hu) λU H Q q=>by
 let(H0,Z0,Y,pd,r,Y',s,h,k):=q;let(x,h1,h2):=ba h;let(y,h3,h4):=ba h2;let(z,h5,i):=ba h4;show#[H0,Z0,Y,pd,x.1,x.2,s,h1,λv H1 s1=>#[H0,Z0,x.2,_,y.1,y.2,s1.freeze,h3,λH2 s2=>#[H0,Z0,y.2,_,z.1,z.2,s2,h5,λH3 j=>?_]]];cases e:x.1.pv with
 |tup ps=>
  rw[e]at i j;have i:(if HT.sIx (-ps) 0 y.1=0/\HT.sIx (-ps) (-ps) z.1=-ps then J else !(Lc.sh (ZB (rm ps y.1 z.1)),z.2))=!(r,Y'):=i;split at i
  . cases i
  . rename_i hw;cases i;let(el,Z,hg,N,W,s4):=j.sh;let(a,F,rfl,g1,D):=W;show#[a,F,O,cW.same N.zh g1,by rw[D.length];show hw,λp hp=>k _ _ ?_];let(z',lz,s'):=s4.newF N hp;show .mk (Z:=Z.put p (.tup (uK F y.1 z.1))) el hg z' (s'.consS ?_);show#[p,_,O,cW.of bZ,D.cut.mono lz]
 |_=>grind
def X6{mu:Mu}:∀e∈cel g (mu.map λ_=>J),e.2=J:=λe z=>by let(v,l):=e;let(_,h2):=iP z;let(o,i,j):=ck.mp h2;let(o',_,q):=ck.mp i;subst q;show j.symm
noncomputable def ψ:PV->Option Str
 |ZH z=>if -z<=100000 then !z else J
 |ZI i=>if i.natAbs.log2<1920 then (if -(toString i:Str)<=100000 then !(toString i) else J) else J
 |_=>J
def nW(c:Str)(f:EF):EF:=λY=>(f Y).bind λx=>(ψ x.1.pv).bind λz=>if -c+-z<=100000 then !(Zp (ZH (c++z)),x.2) else J
def wR(hc:-c<=100000)(he:PE X e (tP X.K f)):PE X (.JoinedStr [.Constant (.str c) j p1,.FormattedValue e (-1) J p2] p3) (tP X.K (nW c f)):=PE.imp (L4 () he) λU H Q q=>by
 let(H0,Z0,Y,pd,r,Y',s,h,k):=q;let(x,h1,h2):=ba h;let(z,N,W):=ba h2;let(hl,h5):=qZ W;cases h5;show#[H0,Z0,Y,pd,x.1,x.2,s,h1,λv H1 s1=>?_];let s2:=SR.freeze s1;have So:-(c++z)<=sizeLine:=by rw[PySem.Str.length_append];show d4 hl ()
 show#[z,?_,So,(d4 (d4 () hl) ()),k _ H1 (s2.pop.scal pq)];let(_,r):=s2.repH;cases e:x.1.pv with
 |str y=>
  rw[e]at N r;let(_,rfl):=qZ N;have:=dN r;subst this;rfl
 |int i=>
  rw[e]at N r;obtain⟨hi,W⟩:i.natAbs.log2<1920/\(if -(toString i:Str)<=100000 then !(toString i) else J:Option Str)=!z:=by
   have F:(if i.natAbs.log2<1920 then (if -(toString i:Str)<=100000 then !(toString i) else J) else J:Option Str)=!z:=N;split at F
   . rename_i h;show#[h,F]
   . cases F
  let(_,rfl):=qZ W;have:=cF r;subst this;show aw hi
 |_=>rw[e]at N;cases N
def Ga(h:f Y=!(l,Y1))(j:ψ l.pv=!z)(i:-c+-z<=100000):nW c f Y=!(Zp (ZH (c++z)),Y1):=by unfold nW;grind
def SR.pop0O(s:SR K H0 Z0 U H Y ((.ref a,Zs (R (p::ws)))::pd)):
 ∃j y,H a=!(.lst (y::j))/\SR K H0 Z0 U (aE H a (.lst j)) Y ((.ref a,Zs (R ws))::(y,Zp p)::pd):=by
 let(F,Z,N,z,D):=s.top;let(b,eb,(j,hu,hr),_):=D.1 _ be;cases eb;let(y,i,rfl,W,hd):=aK.inv hr;show#[i,y,hu,?_];let(Q,s'):=D.write (q:=R ws) z #[i,bZ,hd];let s2:=(s'.consS W).perm (Perm.swap (!y,!(Lc.sh p)) (!(V.ref a),!(Lc.own (R ws))) _);show .mk F N Q (s2.perm (dD.cons _))
def An(fo:EF):EF:=λY=>(fo Y).bind λo=>match o.1.pv with
 |ZA n=>match o.2.mu[n]? with
  |some (!(R (p::ws)))=>!(Zp p,#[o.2.vs,o.2.mu.set n (!(R ws))])
  |_=>J
 |_=>J
def Sr(h:PE X (.Call (.Attribute o "pop" apos) [z] [] cpos) (KZ X.K "list" Ue (tP X.K fo) (jR X.K (aj (af 0) ao)))):PE X (.Call (.Attribute o "pop" apos) [z] [] cpos) (tP X.K (An fo)):=PE.imp h λU H Q q=>by
 let(H0,Z0,Y,pd,r,Y',s,h,k):=q;let(o',h1,h2):=ba h;show#[H0,Z0,Y,pd,o'.1,o'.2,s,h1,λv H1 s1=>?_];split at h2
 . rename_i n en;split at h2
   . rename_i p ws W;cases h2;let F:=s1.freeze;rw[en]at F;let(a,rfl,s5):=F.cellO W;let(_,Z,_,z,so):=s5.top;let(_,ea,(us,hu,_),_):=so.1 _ be;cases ea;show#[Zl #[O,us,bY.of hu],H0,Z0,o'.2,_,[Zp (ZI 0)],o'.2,F,O,λvs H2 e2 sv=>?_];let(v1,rfl):=yZ e2;let s3:=sv;let(_,r):=s3.repH;have:=cF r;subst this;let s4:=s3.pop;let(a',j,D):=s4.cellO W;cases j;let(N,y,i,D):=D.pop0O;let hn:=(c9.mp W).1;let s7:=(D.perm ((Perm.swap _ _ _).cons _)).cellP ∅;show#[a,y::N,0,0,y,O,O,i,by decide,by decide,?_,O,?_]
     . unfold seqIndex?;simp
     . grind
   . cases h2
 . cases h2
def M3{Y Y1:Ev}{mu:Mu}(h1:fo Y=!(o,Y1))(ho:o.pv=ZA n)(hm:Y1.mu[n]?=!(!(R (p::ws))))(e:Y1.mu.set n (!(R ws))=mu):An fo Y=!(Zp p,#[Y1.vs,mu]):=by unfold An;grind
end
theorem ah.freezeC:∀(C:Sl){Z:ZG},ah K H0 Z H (C++ZN)->jQ H0 Z0 Z H->∃Z',iu Z Z'/\Z'.g=Z.g/\jQ H0 Z0 Z' H/\ah K H0 Z' H ZN/\∀e∈C,∀q,e.2=!(Zs q)->∃x,e.1=!x/\aT K Z' q x
 |[],Z=>λQ z=>#[Z,iu.refl Z,O,z,Q,λe N=>by cases N]
 |(v,l)::C,Z=>λQ z=>by
  have ax:∀{j:ZG},iu Z j->j.g=Z.g->jQ H0 Z0 j H->ah K H0 j H (C++ZN)->(∀q,l=!(Zs q)->∃x,v=!x/\aT K j q x)->∃Z',iu Z Z'/\Z'.g=Z.g/\jQ H0 Z0 Z' H/\ah K H0 Z' H ZN/\∀e∈(v,l)::C,∀q,e.2=!(Zs q)->∃x,e.1=!x/\aT K Z' q x:=λ{j} lz W z1 i hv=>by
   let(Z',D,Sz,z',mM,hc):=ah.freezeC C i z1;show#[Z',lz.trans D,Sz.trans W,z',mM,λe N q hq=>?_];obtain rfl|N:=a_.mp N
   . let(x,ex,rx):=hv q hq;show#[x,ex,rx.mono D]
   . grind
  let i:=Q;cases l with
  |none=>show ax (iu.refl Z) O z (i.sub (d5 _ _)) λq h=>by cases h
  |some l=>
   cases l with
   |sh p=>show ax (iu.refl Z) O z (i.sub (d5 _ _)) λq h=>by cases h
   |own p=>
    let(j,lz,W,z1,F):=i.freeze z;let(x,ex,rx):=F.1 _ be;show ax lz W z1 (F.sub (d5 _ _)) λq h=>by cases h;grind
theorem sW(j:∀(n:Nat)(a:Addr)(q:PV),Z.g[n]?=!a->mu[n]?=!(!q)->aT K Z q (.ref a)):∀(k:Nat)(p:PV)(x:V),aT K Z p x->aT K Z (fQ mu k p) x
 |0=>λp x r=>r
 |k+1=>λp x r=>by
  cases p with
  |ptr n=>
   show aT K Z (match mu[n]? with |some (!p)=>fQ mu k p |_=>ZA n) x;split
   . rename_i q Q;let(a,rfl,N):=r;show sW j k q _ ∅
   . show r
  |tup ps=>
   let(a,i,e,h1,h2):=r;show#[a,i,e,h1,yz (sW j k) h2]
  |lst ps=>
   let(a,i,e,h1,h2):=r;show#[a,i,e,h1,yz (sW j k) h2]
  |dk ks ps=>
   let(a,i,e,h1,z,h2):=r;show#[a,i,e,h1,z,yz (sW j k) h2]
  |_=>show r
theorem ah.nones:∀(C:Sl),(∀e∈C,e.2=J)->ah K H0 Z H ZN->ah K H0 Z H (C++ZN)
 |[]=>λ_ j=>j
 |(v,l)::C=>λh j=>by
  let e:=h _ be;subst e;let s:=ah.nones C (λe i=>h e (cw _ i)) j;show#[λe i=>?_,?_]
  . obtain rfl|i:=a_.mp i
    . trivial
    . show s.1 e i
  . show ((((v,J):Option V×Option Lc)::(C++ZN)).filterMap mj).Nodup;rw[gE (by cases v with |none=>rfl |some x=>cases x<;>rfl)];show s.2
def SR.meltD(k:Nat)(s:SR K H0 Z0 U H Y ((v,Zp p)::pd)):
 SR K H0 Z0 U H #[Y.vs,Y.mu.map λ_=>J] ((v,Zp (fQ Y.mu k p))::pd):=by
 let(F,Z,hg,z,r,N):=s.sh;let(Z',lz,W,Q,j,hc):=ah.freezeC (cel Z.g Y.mu) N z;let i:=ah.nones (cel Z'.g (Y.mu.map λ_=>J)) X6 j;show .mk F ∅ Q (i.consS ?_);show sW (λn a q D hq=>?_) k p v (r.mono lz);rw[W]at D;have hm:(!(V.ref a),!(Lc.own q))∈cel Z.g Y.mu:=eI (zip_get (by rw[c5,D];rfl) ∅);grind
section
variable {X:Cx}
def Gb(f:EF):EF:=λY=>(f Y).map λx=>(Zp (fQ x.2.mu 40 x.1.pv),#[x.2.vs,x.2.mu.map λ_=>J])
def SA(h:PE X e (tP X.K f)):PE X e (tP X.K (Gb f)):=PE.imp h λU H Q q=>by let(H0,Z0,Y,pd,l,Y',s,f,k):=q;let(x,h1,h2):=cp f;cases h2;show#[H0,Z0,Y,pd,x.1,x.2,s,h1,λv H1 i=>k v H1 (i.freeze.meltD 40)]
def X8(h:f Y=!(l,Y1))(i:fQ Y1.mu 40 l.pv=p):Gb f Y=!(Zp p,#[Y1.vs,Y1.mu.map λ_=>J]):=by unfold Gb;grind
end
class HK where
 hk:List aV->Int
noncomputable def okP:PV->Option aV
 |.non=>!J
 |ZI i=>!(!(.inl i))
 |ZH x=>!(!(.inr x))
 |_=>J
def pX:List PV->Option (List aV)
 |[]=>![]
 |p::ps=>(okP p).bind λk=>(pX ps).map (k::·)
def SG(h:okP p=!k)(r:aT K Z p v):v=nR k:=by
 cases p with
 |non=>cases h;show jL r
 |int i=>cases h;show cF r
 |str x=>cases h;show dN r
 |_=>cases h
theorem ug:∀{ps:List PV}{vs:List V}{ks:List aV},pX ps=!ks->aK K Z ps vs->vs=ks.map nR
 |[],vs,ks=>λh r=>by cases h;show r.inv0
 |p::ps,vs,ks=>λh r=>by let(v,D,rfl,h1,h2):=r.inv;let(k,z,i):=ba h;let(t,q,j):=cp i;cases j;rw[SG z h1,ug q h2];rfl
abbrev s_:=List (List aV×PV)
def j0:s_->List aV->Option PV
 |[],_=>J
 |kv::r,k=>if kv.1=k then !kv.2 else j0 r k
def SM{xs:XD}:jT (x::xs) k=if x.1=k then !x.2.2 else jT xs k:=by
 unfold jT;by_cases e:x.1=k
 . grind
 . grind
theorem yC:∀{xs:XD}{ps:List PV},aK K Z ps (xs.map (·.2.2))->(∀p,j0 ((xs.map (·.1)).zip ps) k=!p->∃v,jT xs k=!v/\aT K Z p v)/\(j0 ((xs.map (·.1)).zip ps) k=J->jT xs k=J)
 |[],ps=>λh=>#[λp e=>(by cases e),λ_=>O]
 |x::xs,[]=>λh=>by have:=h.inv0;grind
 |x::xs,p::ps=>λh=>by
  let(v,r,e,h1,h2):=h.inv;injection e with i j;subst i j;let z:=yC (k:=k) h2;rw[SM];show (∀q,(if x.1=k then !p else j0 ((xs.map (·.1)).zip ps) k)=!q->_)/\((if x.1=k then !p else j0 ((xs.map (·.1)).zip ps) k)=J->_);by_cases e:x.1=k
  . grind
  . grind
def SR.setX(s:SR K H0 Z0 U H Y ((v,Zp p)::(kb,Zp (ZB kp))::(.ref a,Zs (.dx hk ks ps))::pd))(ek:pX kp=!k):
 ∃b xs,kb=.ref b/\H a=!(.ext (wA hk a xs))/\(∀x∈xs,cW K H x.2.1 (x.1.map nR))/\cW K H b (k.map nR)/\-xs=-ks/\
  (j0 (ks.zip ps) k=J->jT xs k=J/\SR K H0 Z0 U (aE H a (.ext (wA hk a (xs++[(k,b,v)])))) Y ((.ref a,Zs (.dx hk (ks++[k]) (ps++[p])))::(v,Zp p)::pd))/\
  (∀q,j0 (ks.zip ps) k=!q->∃u,jT xs k=!u/\SR K H0 Z0 U H Y ((u,Zp q)::(.ref a,Zs (.dx hk ks ps))::pd)):=by
 let(el,Z,hg,z,r,so):=s.sh;let j:=so.perm dD.symm;let(x,e1,rk):=j.1 _ be;cases e1;let(b,ws,rfl,hb,Q):=rk;let ew:=ug ek Q;subst ew;let F:=j.sub (d5 _ _);let D:=F.perm dD.symm;let(_,eb,(xs,hu,W,SH,hr),_):=D.1 _ be;cases eb;subst W;let hv:=yC (k:=k) hr;show#[b,xs,O,hu,λx i=>cW.same z.zh (SH x i),cW.same z.zh hb,by rw[bo],λhn=>#[hv.2 hn,?_],λq hq=>?_]
 . let N:=(D.consS r).perm (Perm.swap _ _ _);let(z',s'):=N.write (q:=.dx hk (xs.map (·.1)++[k]) (ps++[p])) z #[xs++[(k,b,v)],bZ,by rw[cy];rfl,(λx i=>(by
    obtain i|i:=cr.mp i
    . grind
    . rw[eR.mp i];show hb)),by rw[cy];show hr.append (aK.cons r .nil)]
   show .mk el hg z' (s'.perm (dD.symm.cons _).symm)
 . let(u,e,ru):=hv.1 q hq;show#[u,e,.mk el hg z (F.consS ru)]
def SR.takeX(s:SR K H0 Z0 U H Y pd)(e:Y.vs[i]?=!(!(Zs (.dx hk ks ps)))):
 ∃a xs,U[i]?=!(!(.ref a))/\H a=!(.ext (wA hk a xs))/\SR K H0 Z0 U H (Y.set i J) ((.ref a,Zs (.dx hk ks ps))::pd):=by
 let(v,e1,s1):=s.take e;let(_,Z,_,z,so):=s1.top;let(a,ea,(xs,hu,_),_):=so.1 _ be;let SI:=d0 ea;subst SI;show#[a,xs,e1,hu,s1]
def SR.seal(N:SR K H0 Z0 U H Y ((v,Zs p)::pd)):SR K H0 Z0 U H #[Y.vs,Y.mu++[!p]] ((v,Zp (ZA (-Y.mu)))::pd):=by
 let(F,Z,W,z,j):=N.top;let(a,ea,ra,za,mE):=j.1 _ be;let i:=d0 ea;subst i;have D:iu Z #[Z.z,Z.g++[a]]:=#[eY_.refl _,nw _ _];let q:=j.step D λe he b Q=>#[O,(jn j he Q).1];show .mk (Z:=#[Z.z,Z.g++[a]]) F ∅ #[z.zh,z.h0,z.z0.trans D,z.new] (ah.consS ?_ ?_)
 . show q.perm ?_;have ec:cel (Z.g++[a]) (Y.mu++[!p])=cel Z.g Y.mu++[(!(.ref a),!(Zs p))]:=by unfold cel;rw[cy,cy,jS ∅];rfl
   show Perm (cel (Z.g++[a]) (Y.mu++[!p])++_) _;rw[ec,cx];show et
 . show#[a,O,by show (Z.g++[a])[-Y.mu]?=!a;rw[W,eW ()];simp]
def Ev.set_self(e:Y.vs[i]?=!l):Y.set i l=Y:=by show Ev.mk (Y.vs.set i l) Y.mu=Y;let(hi,j):=c9.mp e;rw[<-j,List.set_getElem_self]
section
variable {X:Cx}[HK]
def Vt:EF:=λY=>!(Zs (.dx HK.hk [] []),Y)
def SK(i:HK.hk=CT X.prog X.w):PE X (.Dict [] [] pos) (tP X.K Vt):=PE.imp W4 λU H Q q=>by let(H0,Z0,Y,pd,l,Y',s,f,k):=q;cases f;show λp j=>k _ _ (s.newO j λZ _ _=>#[[],by rw[bZ,i];rfl,O,(λx i=>(by cases i)),aK.nil])
open Classical in
def BR(i:Nat)(fk:EF):EF:=λY=>match Y.vs[i]? with
 |some (!(Zs (.dx _ _ _)))=>(fk Y).bind λy=>match y.1.pv,y.2.vs[i]? with
  |ZB kp,!(!(Zs (.dx hk ks ps)))=>(pX kp).bind λk=>if hk=HK.hk/\-ks<100000 then
   (match j0 (ks.zip ps) k with
   |some p=>!(Zp p,y.2)
   | none=>!(Zp (ZA (-y.2.mu)),#[y.2.vs.set i (!(Zs (.dx hk (ks++[k]) (ps++[ZA (-y.2.mu)])))),y.2.mu++[!(R [])]]))
   else J
  |_,_=>J
 |_=>J
def SO(hx:HK.hk=CT X.prog X.w)(h:PE X (.Call (.Attribute o "setdefault" apos) [e1,e2] [] cpos) (λU H Q=>uH i U H λx H1=>(∃a hk xs,x=.ref a/\H1 a=!(.ext (wA hk a xs)))/\jR X.K (aj fk (aj (cu ao) ao)) U H1 λvs H2=>Uw X.prog X.w X.K x vs H2 Q)):
 PE X (.Call (.Attribute o "setdefault" apos) [e1,e2] [] cpos) (tP X.K (BR i fk)):=PE.imp h λU H Q q=>by
 let(H0,Z0,Y,pd,r,Y',s,h,k):=q;unfold BR at h;split at h
 . rename_i kg QY Q_ e0;let(y,h1,h2):=ba h;let(a,xs,W,hu,_):=s.takeX e0;show#[.ref a,W,#[a,kg,xs,O,hu],H0,Z0,Y,pd,[y.1,Zs (R [])],y.2,s,?_,λvs H2 e2 s2=>?_]
   . unfold aj ao cu;simp[h1]
   . let(v1,F,rfl):=mx e2;let SU:=s2;split at h2
     . rename_i kp hk ks ps e3 e4;let(N,ek,D):=ba h2;split at D
       . rename_i hc;let(xA,hc2):=hc;subst xA;let s3:=SU.freeze;rw[e3]at s3;cases hv:j0 (ks.zip ps) N with
         |some p=>
          rw[hv]at D;cases D;let(a',SV,j,se,s4):=s3.swap.freeze.takeX e4;rw[W]at j;cases j;let s5:=s4.perm (h_ (l₁:=[(F,Lc.sh (R [])),(v1,Zp (ZB kp))]) (l₂:=[(.ref a,Zs (.dx HK.hk ks ps))]) |>.append_right pd);let(b,z,rfl,g1,g2,g3,g4,_,g6):=s5.setX ek;let(u,eu,s6):=g6 p hv;show#[a,b,z,N,F,O,O,by rw[g1];unfold dX;rw[hx],g2,g3,by rw[g4,sizeLine_eq];lia,?_];rw[eu];let s7:=s6.swap.put W;rw[Ev.set_set,Ev.set_self e4]at s7;show k _ _ s7
         |none=>
          rw[hv]at D;cases D;let SW:=s3.swap.seal;let(a',SV,j,se,s4):=SW.takeX e4;rw[W]at j;cases j;let s5:=s4.perm (h_ (l₁:=[(F,Lc.sh (ZA (-y.2.mu))),(v1,Zp (ZB kp))]) (l₂:=[(.ref a,Zs (.dx HK.hk ks ps))]) |>.append_right pd);let(b,z,rfl,g1,g2,g3,g4,g5,_):=s5.setX ek;let(eu,s6):=g5 hv;show#[a,b,z,N,F,O,O,by rw[g1];unfold dX;rw[hx],g2,g3,by rw[g4,sizeLine_eq];lia,?_];rw[eu];let s7:=s6.put W;rw[Ev.set_set]at s7;have e9:(.ext (wA (CT X.prog X.w) a (z++[(N,b,F)])):HO)=dX X.prog X.w a (z++[(N,b,F)]):=O;rw[<-e9,<-hx];show k _ _ s7
       . cases D
     . cases h2
 . cases h
open Classical in
def yD(fo fk:EF):EF:=λY=>(fo Y).bind λx=>match x.1.pv with
 |.dx hk ks ps=>(fk x.2).bind λy=>match y.1.pv with
  |ZB kp=>(pX kp).bind λk=>if hk=HK.hk then !(match j0 (ks.zip ps) k with |some p=>Zp p |none=>Zs (R []),y.2) else J
  |_=>J
 |_=>J
def Zi(hx:HK.hk=CT X.prog X.w)(h:PE X (.Call (.Attribute o "get" apos) [e1,e2] [] cpos) (λU H Q=>tP X.K fo U H λx H1=>(∃a hk xs,x=.ref a/\H1 a=!(.ext (wA hk a xs)))/\jR X.K (aj fk (aj (cu ao) ao)) U H1 λvs H2=>Y8 X.prog X.w X.K x vs H2 Q)):
 PE X (.Call (.Attribute o "get" apos) [e1,e2] [] cpos) (tP X.K (yD fo fk)):=PE.imp h λU H Q q=>by
 let(H0,Z0,Y,pd,r,Y',s,h,k):=q;let(x,h1,h2):=ba h;show#[H0,Z0,Y,pd,x.1,x.2,s,h1,λv H1 s1=>?_];split at h2
 . rename_i hk ks ps e0;let(y,h3,h4):=ba h2;let s2:=s1.freeze;rw[e0]at s2;let(el,Z,hg,z,rd,so):=s2.sh;let(a,xs,rfl,g1,g2,g3,g4):=rd;show#[#[a,hk,xs,O,z.zh _ _ g1],H0,Z,x.2,pd,[y.1,Zs (R [])],y.2,#[el,Z,hg,#[z.zh,z.h0,iu.refl Z,λb o e=>Zl e],so],?_,λvs H2 e2 s3=>?_]
   . unfold aj ao cu;simp[h3]
   . let(v1,v2,rfl):=mx e2;let SY:=s3;split at h4
     . rename_i kp e3;let(W,ek,h5):=ba h4;split at h5
       . rename_i hc;subst hc;cases h5;let s4:=SY.freeze;rw[e3]at s4;let(D,Z2,j,i,rk,F):=s4.sh;let(b,ws,rfl,hb,kc):=rk;let ew:=ug ek kc;subst ew;subst g2;let hv:=yC (k:=W) g4;show#[a,b,xs,W,v2,O,O,?_,λx hx=>cW.same i.zh (cW.same i.z0.1 (g3 x hx)),cW.same i.zh hb,?_]
         . rw[i.zh _ _ (i.z0.1 _ _ g1),hx];rfl
         have zz:jQ H0 Z0 Z2 H2:=#[i.zh,i.h0,z.z0.trans i.z0,λb o e=>by
          obtain q|q:=i.new b o e
          . show z.new b o q
          . show YY q]
         cases N:j0 ((xs.map (·.1)).zip ps) W with
         |some p=>
          let(u,eu,ru):=hv.1 p N;rw[eu];rw[N]at k;show k _ _ (.mk D j zz ((F.perm dD.symm).sub (d5 _ _) |>.consS (ru.mono i.z0)))
         |none=>
          rw[hv.2 N];rw[N]at k;show k _ _ (.mk D j zz (F.perm dD.symm))
       . cases h5
     . cases h4
 . cases h2
noncomputable def meltL:Mu->List PV->Option (List PV×Mu)
 |mu,[]=>!([],mu)
 |mu,ZA n::ps=>match mu[n]? with
  |some (!q)=>(meltL (mu.set n J) ps).map λr=>(q::r.1,r.2)
  |_=>J
 |_,_=>J
theorem ah.meltL:∀{ps qs:List PV}{mu i:Mu}{vs:List V}{Z:ZG},PL.meltL mu ps=!(qs,i)->aK K Z ps vs->-mu=-Z.g->jQ H0 Z0 Z H->ah K H0 Z H (cel Z.g mu++ZN)->
 ∃Z',iu Z Z'/\Z'.g=Z.g/\jQ H0 Z0 Z' H/\ah K H0 Z' H (cel Z'.g i++ZN)/\aK K Z' qs vs/\-i=-mu
 |[],qs,mu,i,vs,Z=>λh r hg z W=>by cases h;show#[Z,iu.refl Z,O,z,W,r,O]
 |p::ps,qs,mu,i,vs,Z=>λh r hg z W=>by
  cases p with
  |ptr n=>
   unfold PL.meltL at h;split at h
   . rename_i q hm;let(t,h1,h2):=cp h;cases h2;let(v,vr,rfl,r1,r2):=r.inv;let(a,rfl,ha):=r1;let(C,p1,p2):=Ai ha hm;let S0:=W.perm (p1.append_right _).symm;let(Q,lz,eg,z1,j):=S0.freeze z;let(x,ex,rx):=j.1 _ be;cases ex;let D:=j.sub (d5 _ _);have S1:ah K H0 Q H ((!(.ref a),J)::(C++ZN)):=by
      show#[λe he=>?_,?_]
      . obtain rfl|he:=a_.mp he
        . trivial
        . show D.1 e he
      .  show D.2
     have N:ah K H0 Q H (cel Q.g (mu.set n J)++ZN):=by rw[eg];show S1.perm ((p2 J).append_right _)
     let(Z2,F,S4,z2,S_,r7,l7):=ah.meltL h1 (r2.mono lz) ∅ z1 N;show#[Z2,lz.trans F,S4.trans eg,z2,S_,aK.cons (rx.mono F) r7,by simpa using l7]
   . cases h
  |_=>cases h
def M4(f:EF):EF:=λY=>(f Y).bind λx=>match x.1.pv with
 |.dx hk ks ps=>(meltL x.2.mu ps).map λr=>(Zp (.dx hk ks r.1),#[x.2.vs,r.2])
 |_=>J
def Ta(h:PE X e (tP X.K f)):PE X e (tP X.K (M4 f)):=PE.imp h λU H Q q=>by
 let(H0,Z0,Y,pd,l,Y',s,f,k):=q;let(x,h1,h2):=ba f;show#[H0,Z0,Y,pd,x.1,x.2,s,h1,λv H1 s1=>?_];split at h2
 . rename_i hk ks ps N;let(r,h3,h4):=cp h2;cases h4;let j:=s1.freeze;rw[N]at j;let(F,Z,hg,z,rd,so):=j.sh;let(a,xs,rfl,g1,g2,g3,g4):=rd;let(Z2,D,eg,W,i,r2,l2):=ah.meltL h3 g4 hg z so;show k _ H1 (.mk F ∅ W (ah.consS i ?_));show#[a,xs,O,D.1 _ _ g1,g2,λx hx=>cW.same D.1 (g3 x hx),r2]
 . cases h2
end
section
variable {X:Cx}
def qw(i:Nat){pos:Pos}(D:X.N[i]?=!x:=by rfl)(q:Tv X.env.scope x:=by first |show Or.inl O |show Or.inr (Or.inl O) |show Or.inr (Or.inr O))(z:(x==("__debug__" : Str))=M:=by decide)(j:(x==("__classdict__" : Str))=M:=by decide):PE X (.Name x pos) (tP X.K (aa i)):=qv (pv i D q z j)
def aQ{j}:PE X (.Constant (.int i) j pos) (tP X.K (af i)):=qc FR gF
def bT{j}:PE X (.Constant (.str i) j pos) (tP X.K (bg i)):=qc FV pq
def Jg{j}:PE X (.Constant .none j pos) (tP X.K (eC .non)):=qc FU Bq
def qI{j}(q:PE X a (tP X.K fa)):PE X (.Subscript a (.Constant (.int i) j p) pos) (tP X.K (aJ fa (af i))):=fP q aQ (λ_ _=>O)
def qL{p pos:Pos}(b:X.mg "len"=J)(h:PE X e (tP X.K f))(j:Gl X "len":=by rfl)(i:starEach [e] X.env=(M,eval e X.env)::starEach [] X.env:=by rfl):PE X (.Call (.Name "len" p) [e] [] pos) (tP X.K (eB cz (aj f ao))):=wJ uJ Vf (iQ uJ j b nz (ak h aq i) (he:=i))
def cU(i:Nat){pos pos':Pos}(q:X.N.Nodup)(he:PE X e (tP X.K f))(hi:X.N[i]?=!x:=by rfl)(z:L2.Loc X.env.scope x:=by show Or.inl O)(hs:swapsWith e (!(.Name x pos')) pos.line X.env=pure M:=by rfl)(j:X.fn x=G\/X.env.scope.names.lookup x=!.local:=by first |show Zl O |show YY O |assumption):
 PS X (.Assign [.Name x pos'] e pos) (iw X.K (aL i f)):=wI q hi z he hs j
def cQ(i:Nat){pos:Pos}(z:X.N.Nodup)(hi:X.N[i]?=!x:=by rfl)(q:L2.Loc X.env.scope x:=by show Or.inl O)(j:X.fn x=G\/X.env.scope.names.lookup x=!.local:=by first |show Zl O |show YY O |assumption):PG X (.Name x pos) (J4 i):=PB z hi q j
def jx{z F:List Str}{bm:List Nat}{sc:Scope}(S:Scope)(Q:X.env.scope=S:=by rfl)(q:sc.kind=.function:=by rfl)(j:∀y∈sc.names,y.2=.local->sc.names.lookup y.1=!.local:=by decide +kernel)(cel:∀y∈sc.names,y.2=.cell->sc.names.lookup y.1=!.cell:=by decide +kernel)
 (own:∀p∈sc.names,p.2=.free->S.names.lookup p.1=!.cell\/S.names.lookup p.1=!.free:=by decide +kernel) (frs:∀x∈F,sc.names.lookup x=!.free:=by decide +kernel) (D:bm.map (λi=>X.N[i]?)=F.map some:=by rfl):jE X z F bm sc:=P1 S Q q j cel own frs D
def yE{apos cpos pos:Pos}(q:PE X o (uH i))(he:PE X e (tP X.K f))(j:starEach [e] X.env=(M,eval e X.env)::starEach [] X.env:=by rfl)(h1:attributeBase o "append" X.env (eval o X.env)=eval o X.env:=by rfl)
 (h2:((backTo cpos (starEach [e] X.env)).all (λx=>not x.1)&&(backToKw cpos (keywordEach [] X.env)).all (λx=>x.1.isSome)
   && decide (-([e]:List Expr)+-([]:List Keyword)+(if ([]:List Keyword).isEmpty then 0 else 1)<30))=G:=by rfl) (z:(apos.endLine==cpos.line)=G:=by rfl) (hs:swapsWith (.Call (.Attribute o "append" apos) [e] [] cpos) J pos.line X.env=pure M:=by rfl):
 PS X (.Expr (.Call (.Attribute o "append" apos) [e] [] cpos) pos) (iw X.K (jM i f)):=Pf (qK (rR F.plainAttrs_list F.slot_list_append F.type_list_append oY q (ak he aq j) h1 h2 z j) hs)
def nM{apos cpos pos:Pos}(q:PE X o (uH i))(he:PE X e (tP X.K f))(j:starEach [e] X.env=(M,eval e X.env)::starEach [] X.env:=by rfl)(h1:attributeBase o "extend" X.env (eval o X.env)=eval o X.env:=by rfl)
 (h2:((backTo cpos (starEach [e] X.env)).all (λx=>not x.1)&&(backToKw cpos (keywordEach [] X.env)).all (λx=>x.1.isSome)
   && decide (-([e]:List Expr)+-([]:List Keyword)+(if ([]:List Keyword).isEmpty then 0 else 1)<30))=G:=by rfl) (z:(apos.endLine==cpos.line)=G:=by rfl) (hs:swapsWith (.Call (.Attribute o "extend" apos) [e] [] cpos) J pos.line X.env=pure M:=by rfl):
 PS X (.Expr (.Call (.Attribute o "extend" apos) [e] [] cpos) pos) (iw X.K (gb i f)):=Pm (qK (rR F.plainAttrs_list F.slot_list_extend F.type_list_extend R5 q (ak he aq j) h1 h2 z j) hs)
end
inductive XR(α:Type) where
 |ok (a:α)
 |xc (C:Str) (Y:Ev)
section
variable {X:Cx}
theorem M5:∀{l:List Nat},aK K Z (l.map λi=>PV.int (i:Nat)) (l.map λi=>V.int (i:Nat))
 |[]=>by  rfl
 |x::l=>#[.int x,l.map λi=>V.int (i:Nat),O,by unfold aT;rfl,M5]
def SN(f:EF):EF:=λY=>(f Y).bind λx=>match x.1.pv with
 |ZI j=>if 0<=j/\j<=100000 then !(Zs (R ((List.range j.toNat).map λi=>PV.int (i:Nat))),x.2) else J
 |_=>J
def Tb(h:PE X (.Call (.Name "list" p) [.Call (.Name "range" p') [e] [] pos'] [] pos) (zN (λxs H Q=>∃p j,xs=[.ref p]/\H p=!(.rng 0 j)/\0<=j/\j<=100000/\∀l,H l=J->Q (.ref l) (aE H l (.lst ((List.range j.toNat).map λi=>.int (i:Nat))))) (J5 (zN (λxs H Q=>∃j,xs=[.int j]/\∀r,H r=J->Q (.ref r) (aE H r (.rng 0 j))) (jR X.K (aj f ao))) KJ))):PE X (.Call (.Name "list" p) [.Call (.Name "range" p') [e] [] pos'] [] pos) (tP X.K (SN f)):=PE.imp h λU H Q q=>by
 let(H0,Z0,Y,pd,l,Y',s,h,k):=q;let(x,h1,h2):=ba h;show#[H0,Z0,Y,pd,[x.1],x.2,s,?_,λvs H1 e1 s1=>?_]
 . unfold aj ao;rw[h1];rfl
 . let(v,rfl):=yZ e1;let F:=SR.freeze s1;cases e:x.1.pv with
   |int j=>
    rw[e]at h2 F;have h2:(if 0<=j/\j<=100000 then !(Lc.own (R ((List.range j.toNat).map λi=>PV.int (i:Nat))),x.2) else J)=!(l,Y'):=h2;split at h2
    . rename_i N;cases h2;let(el,Z,hg,z,r,so):=F.sh;subst r;show#[j,O,λb hb=>?_];let(z',lz,D):=so.newF z hb;show#[b,j,O,bZ,N.1,N.2,λc hc=>k _ _ ?_];let(z2,s3):=D.new (p:=R ((List.range j.toNat).map λi=>PV.int (i:Nat))) z' hc #[_,bZ,M5];show .mk (Z:=Z.put b (.rng 0 j)) el hg z2 s3
    . cases h2
   |_=>grind
end
noncomputable def SQ:PV->Option aV
 |.non=>!J
 |ZI i=>!(!(.inl i))
 |ZH x=>!(!(.inr x))
 |_=>J
def BV:List PV->Option (List aV)
 |[]=>![]
 |p::ps=>(SQ p).bind λk=>(BV ps).map (k::·)
def BW:List PV->Option (List (List aV))
 |[]=>![]
 |ZB qs::ps=>(BV qs).bind λk=>(BW ps).map (k::·)
 |_::_=>J
def wU:aV->PV
 |none=>.non
 |some (.inl i)=>ZI i
 |some (.inr x)=>ZH x
abbrev Jh(a b:List aV):Prop:=a.map bE<b.map bE
def uY(k:List aV):List (List aV)->List (List aV)
 |[]=>[k]
 |l::r=>if Jh k l then k::l::r else if k=l then l::r else l::uY k r
def jV:List (List aV)->List (List aV)
 |[]=>[]
 |k::r=>uY k (jV r)
def Tk(h1:¬ Jh a b)(h2:¬ a=b):Jh b a:=
 Classical.byContradiction λz=>h2 (Fg ∅)
theorem DP:∀{l:List (List aV)},y∈uY k l ↔ y=k\/y∈l
 |[]=>by unfold uY;simp
 |l::r=>by
  unfold uY;split
  . rw[a_]
  . split
    . grind
    . rw[a_,DP,a_];show#[λq=>q.elim (λq=>YY (Zl q)) λq=>q.elim Zl λq=>YY (YY q),λq=>q.elim (λq=>YY (Zl q)) λq=>q.elim Zl λq=>YY (YY q)]
theorem pC:∀{l:List (List aV)},y∈jV l ↔ y∈l
 |[]=>Iff.rfl
 |k::r=>by unfold jV;rw[DP,pC,a_]
theorem QR:∀{l:List (List aV)},l.Pairwise Jh->(uY k l).Pairwise Jh
 |[]=>λ_=>by  show pairwise_singleton _ _
 |l::r=>λh=>by
  let j:=pairwise_cons.mp h;unfold uY;split
  . rename_i q;show pairwise_cons.mpr #[λy i=>by
     obtain rfl|i:=a_.mp i
     . show q
     . show List.lt_trans q (j.1 y i),h]
  . rename_i q;split
    . show h
    . rename_i z;show pairwise_cons.mpr #[λy i=>?_,QR j.2];obtain rfl|i:=DP.mp i
      . show Tk q z
      . show j.1 y i
theorem yF:∀{l:List (List aV)},(jV l).Pairwise Jh
 |[]=>.nil
 |k::r=>QR yF
theorem SX:∀{a b:List (List aV)},a.Pairwise Jh->b.Pairwise Jh->(∀y,y∈a ↔ y∈b)->a=b
 |[],[]=>λ_ _ _=>rfl
 |[],y::b=>λ_ _ m=>by cases (m y).mpr be
 |x::a,[]=>λ_ _ m=>by cases (m x).mp be
 |x::a,y::b=>λh1 h2 m=>by
  let c1:=pairwise_cons.mp h1;let q:=pairwise_cons.mp h2;have e:x=y:=by
   obtain e|e:=a_.mp ((m x).mp be)
   . show e
   . obtain j|j:=a_.mp ((m y).mpr be)
     . grind
     . grind
  subst e;rw[SX c1.2 q.2 λz=>?_];constructor
  . intro i;obtain e|e:=a_.mp ((m z).mp (cw _ i))
    . grind
    . show e
  . intro i;obtain e|e:=a_.mp ((m z).mpr (cw _ i))
    . grind
    . show e
def Vu:List (List aV)->Bool
 |[]=>G
 |k::r=>(k.map ph).head?==some 0&&(k::r).all λl=>l.map ph==k.map ph&&l.any λx=>ph x==1
def Tl(h:Vu ks=G):∃sh,∀k∈ks,k.map ph=0::sh/\uN k:=by
 cases ks with
 |nil=>grind
 |cons k r=>
  unfold Vu at h;rw[fF,List.all_eq_true]at h;let(h1,h2):=h;let e:=eq_of_beq h1;cases q:k.map ph with
  |nil=>grind
  |cons x sh=>
   rw[q]at e;cases e;show#[sh,λl F=>?_];let z:=h2 l F;rw[fF,List.any_eq_true]at z;let(N,x,Q,D):=z;show#[by rw[<-q];show eq_of_beq N,?_];let j:=eq_of_beq D;obtain _|i|y:=x
   . cases j
   . cases j
   . show#[y,Q]
section
variable {X:Cx}
def Yb(h:SQ p=!k)(r:aT K Z p v):v=nR k/\p=wU k:=by cases p<;>first |(cases h;unfold aT at r;show#[r,O]) |cases h
theorem Ji:∀{ps:List PV}{vs:List V}{k:List aV},BV ps=!k->aK K Z ps vs->vs=k.map nR/\ps=k.map wU
 |[],vs,k=>λh r=>by cases h;show#[r,O]
 |p::ps,vs,k=>λh r=>by let(v,W,rfl,h1,h2):=r;let(x,Q,q):=ba h;let(y,F,z):=cp q;cases z;let(j,N):=Yb Q h1;let(i,D):=Ji F h2;show#[by rw[j,i];rfl,by rw[N,D];rfl]
theorem Jj:∀{ps:List PV}{vs:List V}{ks:List (List aV)},BW ps=!ks->aK K Z ps vs->∃bs:BK,vs=bs.map (λp=>V.ref p.1)/\bs.map (·.2)=ks/\∀p∈bs,cW K Z.z p.1 (p.2.map nR)/\aT K Z (ZB (p.2.map wU)) (.ref p.1)
 |[],vs,ks=>λh r=>by cases h;show#[[],r,O,λp i=>by cases i]
 |p::ps,vs,ks=>λh r=>by
  let(v,r',rfl,h1,h2):=r;cases p with
  |tup qs=>
   let(k,g1,F):=ba h;let(y,g3,W):=cp F;cases W;let(bs,Q,e2,e3):=Jj g3 h2;let j:=h1;let(a,ws,rfl,q,q2):=h1;let(N,D):=Ji g1 q2;show#[(a,k)::bs,by rw[Q];rfl,by rw[dP,e2],λp i=>?_];obtain rfl|i:=a_.mp i
   . grind
   . show e3 p i
  |_=>cases h
theorem Jk:∀{cs:BK},(∀p∈cs,aT K Z (ZB (p.2.map wU)) (.ref p.1))->aK K Z ((cs.map (·.2)).map λk=>PV.tup (k.map wU)) (cs.map λp=>V.ref p.1)
 |[]=>λ_=>.nil
 |p::cs=>λh=>aK.cons (h p be) (Jk λq i=>h q (cw _ i))
def sX(f:EF):EF:=λY=>(f Y).bind λx=>match x.1.pv with
 |R ps=>(BW ps).bind λks=>if -ks<9000/\Vu ks=G then !(Zs (R ((jV ks).map λk=>ZB (k.map wU))),x.2) else J
 |_=>J
def Gd(h:PE X (.Call (.Name "sorted" p) [.Call (.Name "set" p') [e] [] pos'] [] pos) (zN (U7_ X) (J5 (zN (Za X) (jR X.K (aj f ao))) KJ))):PE X (.Call (.Name "sorted" p) [.Call (.Name "set" p') [e] [] pos'] [] pos) (tP X.K (sX f)):=PE.imp h λU H Q q=>by
 let(H0,Z0,Y,pd,l,Y',s,h,k):=q;let(x,h1,h2):=ba h;show#[H0,Z0,Y,pd,[x.1],x.2,s,?_,λvs H1 e1 s1=>?_]
 . unfold aj ao;rw[h1];rfl
 . let(v,rfl):=yZ e1;let s2:=SR.freeze s1;cases e:x.1.pv with
   |lst ps=>
    rw[e]at h2 s2;let(ks,g1,F):=ba h2;split at F
    . rename_i D;let(D,ho):=D;cases F;let(el,Z,hg,z,r,so):=s2.sh;let(a,us,rfl,r1,r2):=r;let(bs,eu,ek,N):=Jj g1 r2;let(sh,hs):=Tl ho;subst eu;have lb:-bs<9000:=by rw[<-ek,bo]at D;show D
      have j:∀p∈bs,p.2.map ph=0::sh/\uN p.2:=λp i=>hs _ ∅;show#[a,bs,O,bY.same z.zh r1,λp i=>#[cW.same z.zh (N p i).1,(j p i).2],lb,λb oe=>?_];let(z',lz,mM):=so.newF z oe;show#[b,bs,sh,O,bZ,λp i=>#[cW.same z'.zh (cW.same lz.1 (N p i).1),(j p i).1],lb,λc cs hc m1 m2 pw=>k _ _ ?_];have es:cs.map (·.2)=jV ks:=by
       show SX ∅ yF λy=>?_;rw[pC,<-ek];constructor
       . intro W;let(p,i,rfl):=ck.mp W;show mem_map_of_mem (m1 p i)
       . intro W;let(p,i,rfl):=ck.mp W;grind
      rw[<-es];let(z2,s3):=mM.new (p:=R ((cs.map (·.2)).map λk=>PV.tup (k.map wU))) z' hc #[_,bZ,Jk λp i=>(N p (m1 p i)).2.mono lz];show .mk (Z:=Z.put b (.ext (Fj X.prog X.w b bs))) el hg z2 s3
    . cases F
   |_=>grind
def To(P:Program)(w:World)(K:FG):R2:=λx y H Q=>∃a b xs k v,x=.ref a/\y=.ref b/\H a=!(dX P w a xs)/\(∀x∈xs,cW K H x.2.1 (x.1.map nR))/\cW K H b (k.map nR)/\jT xs k=!v/\Q v H
def Ts(hu:X.A.units+1<cLine):zP X (To X.prog X.w X.K):=by intro value D ae s U H x y v u Q I rx W h hs;let(a,b,xs,k,z,rfl,rfl,hH,i,hb,hl,q):=h;cases rx;cases (W);let(z',m,ys,xr,N):=I.dx hH i;let(p',j,rp):=(xr.at).1 z hl;show tail_any N.typeIs F.slot_dict_getitem.lookup (wpAny_getItem_heap (tupleKind_room_in1 hu) (ux I hb) N j #[z,H,I.tok _,rp,q]) hs
variable [HK]
open Classical in
def S5(fa fb:EF):EF:=λY=>(fa Y).bind λx=>(fb x.2).bind λy=>match x.1.pv with
 |.dx hk ks ps=>match y.1.pv with
  |ZB kp=>(pX kp).bind λk=>if hk=HK.hk then (j0 (ks.zip ps) k).map λp=>(Zp p,y.2) else J
  |_=>J
 |_=>J
def Tx(hx:HK.hk=CT X.prog X.w)(hu:X.A.units+1<cLine)(ha:PE X a (tP X.K fa))(hb:PE X b (tP X.K fb))(hm:Bh b):PE X (.Subscript a b pos) (tP X.K (S5 fa fb)):=PE.imp (RX (Ts hu) ha hb hm) λU H Q q=>by
 let(H0,Z0,Y,pd,l,Y',s,f,k):=q;let(x,h1,h2):=ba f;let(y,h3,j):=ba h2;show#[H0,Z0,Y,pd,x.1,x.2,s,h1,λv H1 s1=>#[H0,Z0,x.2,_,y.1,y.2,s1.freeze,h3,λw H2 s2=>?_]];let(el,Z,hg,z,rl,so):=SR.repl (vs:=[w,v]) (ls:=[y.1,Zp x.1.pv]) s2 O;let(_,_,F,N,i):=rl;cases F;let(_,_,F,i,_):=i;cases F;split at j
 . rename_i hk ks ps e0;split at j
   . rename_i kp e3;let(kk,ek,W):=ba j;split at W
     . rename_i hc;subst hc;let(p,hp,h6):=cp W;cases h6;rw[e3]at N;have i:aT X.K Z x.1.pv v:=i;rw[e0]at i;let(b,ws,rfl,D,kc):=N;let(a,xs,rfl,g1,g2,g3,g4):=i;let ew:=ug ek kc;subst ew;subst g2;let(u,eu,ru):=(yC g4).1 p hp;show#[a,b,xs,kk,u,O,O,?_,λx hx=>cW.same z.zh (g3 x hx),cW.same z.zh D,eu,k _ _ (.mk el hg z (so.consS ru))];rw[z.zh _ _ g1,hx];rfl
     . cases W
   . cases j
 . cases j
end
end PL
namespace Law
open PL.PV renaming lst→R,int→ZI,str→ZH,tup→ZB,ptr→ZA
open PL.Lc renaming own→Zs,sh→Zp
open PySem PySem.Spec PyProof.Rows L2 PL
local macro_rules | `(tactic| walk_at "sc")=>`(tactic| exact⟨rfl,rfl,rfl,by decide +kernel,rfl,by decide +kernel,by decide +kernel⟩)
def mI{l:List Str}(i:Nat)(h:l[i]?=!a):a∈l:=eI h
noncomputable def top (i:Nat):Stmt:=PySem.Challenge.pw_hushwise_k33_rules_of_rounds.main.body.getD i (.Pass #[0,0,0,0])
abbrev wj:Stmt:=top 1
abbrev oR:Stmt:=top 2
abbrev yG:Stmt:=top 3
abbrev mG:Stmt:=top 4
abbrev uh:Stmt:=top 5
abbrev ul:Stmt:=top 6
abbrev yH:Stmt:=top 7
abbrev BX:Stmt:=top 8
abbrev um:Stmt:=top 9
abbrev yI:Stmt:=top 10
abbrev pY:Stmt:=top 14
abbrev rE:Stmt:=top 15
abbrev pZ:Stmt:=top 16
abbrev jF:Stmt:=top 17
abbrev lV:Stmt:=top 18
abbrev rF:Stmt:=top 19
abbrev qd:Stmt:=top 20
abbrev oA:Stmt:=top 21
abbrev qe:Stmt:=top 22
abbrev oE:Stmt:=top 23
abbrev rG:Stmt:=top 25
abbrev mH:Stmt:=top 26
abbrev nO:Stmt:=top 27
abbrev uo:Stmt:=top 28
abbrev sE:Stmt:=top 29
abbrev uZ:Stmt:=top 30
abbrev il:Stmt:=top 31
abbrev lg:Stmt:=top 32
abbrev nY:Stmt:=top 33
abbrev lq:Stmt:=top 34
abbrev sG:Stmt:=top 35
abbrev uq:Stmt:=top 36
abbrev ur:Stmt:=top 37
abbrev vP:Stmt:=top 38
abbrev j8:Stmt:=b_ (top 12) 0
abbrev qg:Stmt:=b_ (top 12) 1
abbrev rH:Stmt:=b_ (top 12) 3
abbrev wk:Stmt:=b_ (top 12) 4
abbrev u5:Stmt:=b_ (top 12) 5
abbrev tU:Stmt:=b_ (top 12) 6
abbrev u6:Stmt:=b_ (top 12) 7
abbrev tV:Stmt:=b_ (top 12) 8
abbrev mJ:Stmt:=b_ (top 12) 9
abbrev j9:Stmt:=b_ (top 12) 10
def M6:bz ["row"] ["row"] (aG wj):=by walk_at "sc"
def Cu:bz ["row"] ["row"] (aG oR):=by walk_at "sc"
def Vv:bz ["row"] ["row"] (aG yG):=by walk_at "sc"
def JN:bz ["rows"] ["rows"] (aG mG):=by walk_at "sc"
def sH:bz ["rows","told","row","block"] ["rows"] (aG uh):=by walk_at "sc"
def lH:bz ["where","above","block","rows","start","told","row","number","place","inner"] ["where","above","block","rows","start"] (aG ul):=by walk_at "sc"
def lJ:bz ["program","told","name","rank","params","rows"] ["program"] (aG yH):=by walk_at "sc"
def Yc:bz ["expression"] ["expression"] (aG BX):=by walk_at "sc"
def O3:bz ["expression"] ["expression"] (aG um):=by walk_at "sc"
def Vw:bz ["row"] ["row"] (aG yI):=by walk_at "sc"
def oF:bz ["plan","k","row","told","numbers"] ["plan","k"] (aG pY):=by walk_at "sc"
def yJ:bz ["program","plan","told","k"] ["program"] (aG rE):=by walk_at "sc"
def JP:bz ["expression"] ["expression"] (aG pZ):=by walk_at "sc"
def oU:bz ["plan","k","ahead","told"] ["plan","k"] (aG jF):=by walk_at "sc"
def kh:bz ["plan","k","outer","told","row"] ["plan","k"] (aG lV):=by walk_at "sc"
def qi:bz ["plan","k","numbers","told"] ["plan","k"] (aG rF):=by walk_at "sc"
def jD:bz ["plan","k","row","told","param","expression"] ["plan","k"] (aG qd):=by walk_at "sc"
def rJ:bz ["k","name","some","told","expression"] ["k","name","some"] (aG oA):=by walk_at "sc"
def zc:bz ["plan","k","row"] ["plan","k"] (aG qe):=by walk_at "sc"
def rK:bz ["plan","k","home","numbers"] ["plan","k"] (aG oE):=by walk_at "sc"
def Ge:bz ["_law_script","_law_k"] ["_law_script","_law_k"] (aG rG):=by walk_at "sc"
def gq:bz ["_law_cell","_law_count","_law_letters","_law_names_here","_law_text","_law_k","_law_size_here","_law_at","_law_signs"] ["_law_cell","_law_count"] (aG mH):=by walk_at "sc"
def cR:bz ["_law_cell","_law_own","_law_lists","_law_made","_law_k","_law_step","_law_other","_law_sign"] ["_law_cell","_law_own","_law_lists"] (aG nO):=by walk_at "sc"
def iy:bz ["_law_cell","_law_own","_law_lists","_law_heads_here","_law_whos","_law_one","_law_other","_law_kind","_law_goal","_law_name","_law_params","_law_some"] ["_law_cell","_law_own","_law_lists","_law_heads_here","_law_whos"] (aG uo):=by walk_at "sc"
def mK:bz ["_law_cells","_law_own","_law_lists","_law_heads_here","_law_whos","_law_body","_law_stack","_law_cell","_law_row_here"] ["_law_cells","_law_own","_law_lists","_law_heads_here","_law_whos"] (aG sE):=by walk_at "sc"
def oG:bz ["_law_cell","_law_names_here","_law_heads_here","_law_j","_law_size_here"] ["_law_cell","_law_names_here"] (aG uZ):=by walk_at "sc"
def cD:bz ["_law_script","_law_cell","_law_names_here","_law_ranks","_law_numbers","_law_lists","_law_heads_here","_law_boxes","_law_cells","_law_whos","_law_functions","_law_j","_law_head","_law_rows_here"] ["_law_script"] (aG il):=by walk_at "sc"
def Hc:bz ["_law_row_here"] ["_law_row_here"] (aG lg):=by walk_at "sc"
def qj:bz ["_law_rows_here","_law_size_here","_law_row_here"] ["_law_rows_here"] (aG nY):=by walk_at "sc"
def jk:bz ["_law_row_here","_law_k","_law_got","_law_first","_law_block"] ["_law_row_here","_law_k"] (aG lq):=by walk_at "sc"
def M7:bz ["_law_expression_here"] ["_law_expression_here"] (aG sG):=by walk_at "sc"
def lK:bz ["_law_rows_here","_law_first","_law_told","_law_k","_law_row_here","_law_block"] ["_law_rows_here","_law_first","_law_told"] (aG uq):=by walk_at "sc"
def sI:bz ["_law_k","_law_row_here","_law_due_here","_law_block","_law_node"] ["_law_k","_law_row_here"] (aG ur):=by walk_at "sc"
def jG:bz ["_law_script","_law_program_here","_law_told","_law_k","_law_name","_law_rank","_law_params","_law_rows_here","_law_due_here","_law_row_here","_law_got"] ["_law_script"] (aG vP):=by walk_at "sc"
def dR:bz ["self","program","told","lists","number","one","heads","name","rank","params","rows"] ["self","program"] (aG j8):=by walk_at "sc"
def DQ:bz ["self"] ["self"] (aG qg):=by walk_at "sc"
def Gf:bz ["self","name"] ["self","name"] (aG rH):=by walk_at "sc"
def M8:bz ["self","k"] ["self","k"] (aG wk):=by walk_at "sc"
def JQ:bz ["self","k"] ["self","k"] (aG u5):=by walk_at "sc"
def Hf:bz ["self","k"] ["self","k"] (aG tU):=by walk_at "sc"
def JR:bz ["self","name"] ["self","name"] (aG u6):=by walk_at "sc"
def Hh:bz ["self","k","which"] ["self","k","which"] (aG tV):=by walk_at "sc"
def lM:bz ["self","k","beside","place"] ["self","k"] (aG mJ):=by walk_at "sc"
def Cv:bz ["self","numbers"] ["self","numbers"] (aG j9):=by walk_at "sc"
section
variable [HK]
abbrev AD:=aj (aJ (aa 0) (af 3)) ao
abbrev i9:=aj (aJ (aa 0) (af 2)) ao
abbrev AG:=cI (cu (aj (aJ (aa 0) (af 2)) ao))
abbrev mN:=tT (au cK (aJ (aa 0) (af 0)) (bg "if")) aY
abbrev td:=tT (au cK (aJ (aa 0) (af 0)) (bg "while")) aY
abbrev AH:=cI (cu (aj (aJ (aa 0) (af 2)) (aj (aJ (aa 0) (af 3)) ao)))
def gJ:GF:=cY 1 (aF (cC mN
 AH
 bR)
 (aF (cC td
 AG
 bR)
 (cI (cu ao))))
abbrev om:=aj (aJ (aa 0) (af 1)) ao
abbrev TB:=cu (aj (aJ (aa 0) (af 1)) ao)
abbrev AI:=cI (cu (aj (aJ (aa 0) (af 1)) ao))
abbrev AJ:=eB f7 (aj (aJ (aa 0) (af 3)) ao)
abbrev on:=tT (au cK (aJ (aa 0) (af 0)) (bg "call")) aY
def km:GF:=cY 1 (aF (cC (tO mN td)
 AI
 bR)
 (aF (cC (tT (au cK (aJ (aa 0) (af 0)) (bg "put")) aY)
 AH
 bR)
 (aF (cC on
 (cI AJ)
 bR)
 AG)))
mutual
def kE:Nat->GF
 |0=>λ_ _=>J
 | n+1=>cY 1 (aF (cC mN
  (cI (aX (aj (bg "if") (aj (aJ (aa 0) (af 1)) (aj (aN (fU n) i9) (aj (aN (fU n) AD) ao))))))
  bR)
  (aF (cC td
  (cI (aX (aj (bg "while") (aj (aJ (aa 0) (af 1)) (aj (aN (fU n) i9) ao)))))
  bR)
  (aF (cC on
  (cI (aX (aj (bg "call") (aj (aJ (aa 0) (af 1)) (aj (aJ (aa 0) (af 2)) (aj AJ ao))))))
  bR)
  (gZ 0))))
def fU:Nat->GF
 |0=>λ_ _=>J
 |n+1=>cY 1 (cI (bU (dh (aa 0) bJ) 1 [] (aC 0) bB (aN (kE n) (aj (aa 0) ao))))
end
def iz:Nat->GF
 |0=>λ_ _=>J
 | n+1=>cY 4 (aF (aL 1 (cu ao))
  (aF (fX (dh (aa 0) bJ) (aC 2)
  (aF (jM 1 (aa 2))
  (fX (dh (aN gJ (aj (aa 2) ao)) bJ) (aC 3)
  (gb 1 (aN (iz n) (aj (aa 3) ao))))))
  (gZ 1)))
abbrev tf:=fC 2 (aW (aC 8) (aW (aC 9) fu))
abbrev AK:=aL 7 (vL (au bf (aa 4) (eB cz (aj (aa 5) ao))))
abbrev AL:=jM 5 (aX (aj (aa 0) (aj (aa 1) (aj (aa 2) (aj (aN (kE 40) (aj (aa 6) ao)) ao)))))
abbrev AM:=aj (aa 0) (aj (aa 7) (aj (aa 8) (aj (aa 9) (aj (vL (au bf (aa 4) (eB cz (aj (aa 5) ao)))) ao))))
def gP:Nat->GF
 |0=>λ_ _=>J
 | n+1=>cY 10 (aF (aL 5 (cu ao))
  (aF (fX (dh (aa 3) bJ) (aC 6)
  (aF AK
  (aF AL
  (fX (uU (aN gJ (aj (aa 6) ao))) tf
  (gb 5 (aN (gP n) AM))))))
  (gZ 5)))
abbrev AN:=aj (vL (eB cz (aj (aa 1) ao))) ao
abbrev tj:SF:=(gb 1 (aN (gP 40) (aj (aa 2) (aj (eC .non) (aj (af 0) (aj (aa 5) AN))))))
abbrev TD:=aW (aC 4) (aW (aC 5) fu)
abbrev AO:=fC 4 (aW (aC 2) (aW (aC 3) (aW (aC 4) (aW (aC 5) fu))))
def yK:GF:=cY 6 (aF (aL 1 (cu ao))
 (aF (fX (dh (aJ (aa 0) (af 2)) bJ) AO
 tj)
 (aF (gb 1 (aN (gP 40) (aj (bg "main") (aj (eC .non) (aj (af 0) (aj (aJ (aa 0) (af 3)) AN))))))
 (gZ 1))))
abbrev AQ:=tT (au cK (aJ (aa 0) (af 0)) (bg "@")) aY
abbrev AR:=tT (au cK (aJ (aa 0) (af 0)) (bg "num")) aY
abbrev AS:=tT (au cK (aJ (aa 0) (af 0)) (bg "box")) aY
def ni:Nat->GF
 |0=>λ_ _=>J
 | n+1=>cY 1 (aF (cC AR
  (cI (cu ao))
  bR)
  (aF (cC AS
  (cI (cu (aj (aX (aj (bg "box") om)) ao)))
  bR)
  (aF (cC AQ
  (cI (au bf (cu (aj (aX (aj (bg "list") om)) ao)) (aN (ni n) i9)))
  bR)
  (cI (au bf (aN (ni n) om) (aN (ni n) i9))))))
abbrev kl:=fC 2 (aW (aC 0) (aW (aC 1) fu))
def yL:GF:=cY 1 (cI (yw (bU (dh (aN (ni 40) (aj (aa 0) ao)) bJ) 2 [] kl bB (aa 1))))
abbrev vc:=au pB (aJ (aa 0) (af 0)) (aX (aj (bg "while") (aj (bg "call") ao)))
def yM:GF:=cY 1 (cI (eB Aj (aj (bU (dh (aN (iz 40) (aj (cu (aj (aa 0) ao)) ao)) bJ) 1 [] (aC 0) bB vc) ao)))
abbrev tp:=jB "Plan" "told" (aa 0)
abbrev tq:=jB "Plan" "lists" (aa 0)
abbrev TH:=aj (aa 1) (aj (aa 2) ao)
abbrev tw:=aJ (jB "Plan" "told" (aa 0)) (aa 1)
abbrev TJ:=aJ (aJ (jB "Plan" "told" (aa 0)) (aa 1)) (af 0)
abbrev AT:=aj (aJ (aJ (jB "Plan" "told" (aa 0)) (aa 1)) (af 0)) (aj (aa 1) (aj (aa 2) ao))
abbrev AU:=aX (aj (aJ (aJ (jB "Plan" "told" (aa 0)) (aa 1)) (af 0)) (aj (aa 1) (aj (aa 2) ao)))
def dZ:GF:=cY 3 (cI (eB f7 (aj (yD tq AU) ao)))
def dY:GF:=cY 2 (cI (aJ tw (af 3)))
abbrev AV:=aj (cX "Plan" "row" dY (aa 1) (aj (aa 0) ao)) ao
def fV:GF:=cY 2 (cI (eB Aj (aj (bU (dh (aa 1) bJ) 1 [0] (aC 0) bB (aN yM AV)) ao)))
abbrev TK:=au bf (bg "leave ") (aJ (aa 2) (af 2))
abbrev AW:=aj (aa 0) (aj (aJ (aa 4) (jq (af 1))) ao)
abbrev AX:=tT (au cK (aJ (aa 2) (af 0)) (bg "if")) aY
abbrev TL:=cX "Plan" "spending" fV (aa 0) (aj (aa 4) ao)
abbrev mP:=aL 2 (cX "Plan" "row" dY (aa 0) (aj (aa 1) ao))
abbrev tx:=tT (au cK (aJ (aa 2) (af 0)) (bg "call")) aY
abbrev AY:=jM 3 (au bf (bg "leave ") (aJ (aa 2) (af 2)))
abbrev AZ:=tT (cX "Plan" "spending" fV (aa 0) (aj (aa 4) ao)) qW
abbrev A8:=dh (aX (aj (cX "Plan" "block" dZ (aa 0) (aj (aa 1) (aj (af 0) ao))) (aj (cX "Plan" "block" dZ (aa 0) (aj (aa 1) (aj (af 1) ao))) ao))) bJ
def dJ:Nat->GF
 |0=>λ_ _=>J
 | n+1=>cY 5 (aF mP
  (aF (aL 3 (cu (aj (nW "at " (aa 1)) ao)))
  (aF (cC tx
  AY
  bR)
  (aF (cC AX
  (fX A8 (aC 4)
  (cC AZ
  (gb 3 (aN (dJ n) AW))
  bR))
  bR)
  (gZ 3)))))
abbrev tz:=fC 2 (aW (aC 4) (aW (aC 5) fu))
abbrev A9:=BR 3 (j7 (aa 5) eU (cM (af 3)))
abbrev A_:=fC 4 (aW (aC 7) (aW (aC 8) (aW (aC 9) (aW (aC 10) fu))))
def kI:GF:=cY 11 (aF (aL 2 (aN yK (aj (aa 1) ao)))
 (aF (aL 3 Vt)
 (aF (fX (uU (aa 2)) tz
 (ou A9 (aa 4)))
 (aF (aL 6 Vo)
 (aF (fX (dh (aJ (aa 1) (af 2)) bJ) A_
 (FJ 6 (aa 7) (bU (dh (aa 9) bJ) 2 [] kl bB (aa 0))))
 (aF (BP "Plan" "told" (aa 0) (aa 2))
 (aF (BP "Plan" "lists" (aa 0) (M4 (aa 3)))
 (BP "Plan" "heads" (aa 0) (aa 6)))))))))
def qm:GF:=cY 1 (cI (SN (eB cz (aj tp ao))))
abbrev Bi:=au Mq (aJ (aa 2) (af 0)) (bg "call")
def j4:GF:=cY 3 (aF mP
 (aF (cC (tT Bi aY)
 (cI (cu ao))
 bR)
 (cI (bU (dh (aX (aj (au bf (bg "box ") (aJ (aa 2) (af 2))) (aj (nW "at " (aa 1)) (aj TK ao)))) bJ) 1 [2] (aC 0) bB (aX (aj (aa 0) (aj (au bf (bg "box ") (aJ (aa 1) (af 1))) ao)))))))
abbrev Bn:=tT (au cK (aa 3) (af 0)) aY
abbrev Bz:=aJ (aa 2) (au Mt (aa 3) (af 1))
abbrev TM:=j7 (aJ (jB "Plan" "told" (aa 0)) (aa 1)) eU (cM (af 3))
def iH:GF:=cY 4 (aF (aL 2 (S5 tq TM))
 (aF (aL 3 (MF (aa 2) (aa 1)))
 (cI (Zb Bn (eC .non) Bz))))
def mL:GF:=cY 2 (cI TJ)
def oH:GF:=cY 2 (cI (aJ tw (af 1)))
def iI:GF:=cY 1 (cI (bU (dh (aN yL (aj (aa 0) ao)) bJ) 1 [] (aC 0) bB (nW "box " (aa 0))))
abbrev tF:=tT (au Sw (aa 2) (eC .non)) aY
abbrev TN:=cX "Plan" "home" mL (aa 0) (aj (aa 1) ao)
abbrev BA:=cX "Plan" "outer" oH (aa 0) (aj (aa 1) ao)
abbrev BB:=aL 4 (cX "Plan" "row" dY (aa 0) (aj (aa 2) ao))
abbrev BC:=aL 3 (cu (aj (aX (aj (bg "within") (aj (nW "at " (aa 2)) ao))) ao))
def lW:GF:=cY 5 (aF (aL 2 BA)
 (aF (cC tF
 (cI (cu (aj (aX (aj (bg "enter") (aj (au bf (bg "enter ") TN) ao))) ao)))
 bR)
 (aF BC
 (aF BB
 (aF (cC (tT (au cK (aJ (aa 4) (af 0)) (bg "if")) aY)
 (gb 3 (bU (dh (aN iI (aj (aJ (aa 4) (af 1)) ao)) bJ) 1 [] (aC 0) bB (aX (aj (bg "choice") (aj (aa 0) ao)))))
 bR)
 (gZ 3))))))
abbrev BD:=aL 2 (cX "Plan" "block" dZ (aa 0) (aj (aa 1) (aj (af 0) ao)))
abbrev BG:=aL 3 (aN iI (aj (aJ (cX "Plan" "row" dY (aa 0) (aj (aa 1) ao)) (af 1)) ao))
def rM:GF:=cY 4 (aF BD
 (aF BG
 (aF (cC (tT (aa 2) qW)
 (gb 3 (aN (dJ 40) (aj (aa 0) (aj (aJ (aa 2) (jq (af 1))) ao))))
 bR)
 (gZ 3))))
abbrev BH:=aj (aa 0) (aj (aa 1) ao)
abbrev BI:=gb 3 (aN lW (aj (aa 0) (aj (aa 1) ao)))
abbrev tI:=aL 2 (cX "Plan" "just_ahead" iH (aa 0) (aj (aa 1) ao))
abbrev BM:=au cK (aJ (cX "Plan" "row" dY (aa 0) (aj (aa 1) ao)) (af 0)) (bg "while")
abbrev BN:=gb 3 (bU (dh (aN (dJ 40) (aj (aa 0) (aj (aa 2) ao))) bJ) 1 [] (aC 0) bB (aX (aj (bg "behind") (aj (aa 0) ao))))
def jH:GF:=cY 4 (aF tI
 (aF (aL 3 (cu ao))
 (aF (cC tF
 BI
 BN)
 (aF (cC (tT BM aY)
 (gb 3 (bU (dh (aN rM BH) bJ) 1 [] (aC 0) bB (aX (aj (bg "turns") (aj (aa 0) ao)))))
 bR)
 (gZ 3)))))
def rN:GF:=cY 2 (cI (eB f7 (aj (sR (jB "Plan" "heads" (aa 0)) (aa 1)) ao)))
abbrev BO:=bU (dh (aN iI (aj (aa 4) ao)) bJ) 1 [1] (aC 0) bB (aX (aj (bg "value") (aj (aa 0) (aj (nW "box " (aa 1)) ao))))
def lr:GF:=cY 5 (aF (aL 3 (cu (aj (aX (aj (bg "done") (aj (nW "at " (aa 0)) (aj (nW "box " (aa 1)) ao)))) ao)))
 (aF (fX (dh (aa 2) bJ) (aC 4)
 (gb 3 BO))
 (gZ 3)))
abbrev ve:=aj (au bf (bg "box ") (aJ (aa 2) (af 1))) ao
abbrev BQ:=aN lr (aj (aa 1) (aj (aa 4) (aj (cu (aj (aa 5) ao)) ao)))
def qt:GF:=cY 6 (aF mP
 (aF (cC (tO (tT (au cK (aJ (aa 2) (af 0)) (bg "set")) aY) (tT (au cK (aJ (aa 2) (af 0)) (bg "put")) aY))
 (cI (aN lr (aj (aa 1) (aj (aJ (aa 2) (af 1)) (aj (aN km (aj (aa 2) ao)) ao)))))
 bR)
 (aF (cC (tT (au cK (aJ (aa 2) (af 0)) (bg "out")) aY)
 (aF (aL 3 (bU (dh (aN iI (aj (aJ (aa 2) (af 2)) ao)) bJ) 1 [1] (aC 0) bB (aX (aj (bg "let") (aj (aa 0) (aj (nW "let " (aa 1)) ao))))))
 (cI (au bf (aa 3) (cu (aj (aX (aj (bg "out") (aj (nW "out " (aa 1)) ve))) (aj (aX (aj (bg "done") (aj (nW "at " (aa 1)) ve))) ao))))))
 bR)
 (aF (cC tx
 (aF (aL 3 (cu (aj (aX (aj (bg "call") (aj (nW "at " (aa 1)) (aj (au bf (bg "enter ") (aJ (aa 2) (af 2))) ao)))) ao)))
 (aF (fX (Km (cX "Plan" "params" rN (aa 0) (aj (aJ (aa 2) (af 2)) ao)) (aJ (aa 2) (af 3))) tz
 (gb 3 BQ))
 (gZ 3)))
 bR)
 (cI (cu ao))))))
abbrev BS:=aX (aj (aa 1) (aj (eC .non) (aj (af 0) ao)))
def qu:GF:=cY 2 (cI (eB f7 (aj (yD tq BS) ao)))
abbrev BU:=tT (au Mq (aJ (aa 3) (jq (af 1))) (aa 1)) aY
abbrev BY:=aL 2 (cX "Plan" "home" mL (aa 0) (aj (aa 1) ao))
abbrev B0:=aL 3 (cX "Plan" "body" qu (aa 0) (aj (aa 2) ao))
abbrev B1:=Br (tT (cX "Plan" "spending" fV (aa 0) (aj (aa 3) ao)) qW)
def lu:GF:=cY 4 (aF BY
 (aF B0
 (aF (cC (tO BU B1)
 (cI (cu ao))
 bR)
 (cI (bU (dh (aN (dJ 40) BH) bJ) 1 [2] (aC 0) bB (aX (aj (aa 0) (aj (nW "leave " (aa 1)) ao))))))))
abbrev TR:=aW (aC 0) (aW (aC 1) (aW (aC 2) fu))
abbrev TU:=fC 3 (aW (aC 0) (aW (aC 1) (aW (aC 2) fu)))
abbrev B2:=gb 2 (bU (dh (aN j4 (aj (aa 1) (aj (aa 3) ao))) bJ) 2 [3] (fC 2 (aW (aC 0) (aW (aC 1) fu))) bB (aX (aj (aa 2) (aj (af 2) (aj (bg "back") (aj (aa 0) (aj (aa 1) ao)))))))
abbrev B6:=gb 2 (bU (dh (aN lu (aj (aa 1) (aj (aa 3) ao))) bJ) 2 [3] (fC 2 (aW (aC 0) (aW (aC 1) fu))) bB (aX (aj (aa 2) (aj (af 3) (aj (bg "leave") (aj (aa 0) (aj (aa 1) ao)))))))
abbrev B7:=gb 2 (bU (dh (aN jH (aj (aa 1) (aj (aa 3) ao))) bJ) 2 [3] (fC 2 (aW (aC 0) (aW (aC 1) fu))) bB (aX (aj (aa 2) (aj (af 0) (aj (aa 0) (aj (aa 1) (aj (nW "at " (aa 2)) ao)))))))
abbrev B8:=gb 2 (bU (dh (aN qt (aj (aa 1) (aj (aa 3) ao))) bJ) 3 [3] (fC 3 (aW (aC 0) (aW (aC 1) (aW (aC 2) fu)))) bB (aX (aj (aa 3) (aj (af 1) (aj (aa 0) (aj (aa 1) (aj (aa 2) ao)))))))
def Hi:GF:=cY 4 (aF (aL 1 (FT "Plan" kI (aj (aa 0) ao)))
 (aF (aL 2 (cu ao))
 (aF (fX (dh (cX "Plan" "numbers" qm (aa 1) ao) bJ) (aC 3)
 (aF B7
 (aF B8
 (aF B2
 B6))))
 (cI (sX (aa 2))))))
abbrev B9:=au Ms (aa 1) (eB cz (aj (aa 0) ao))
def nj:GF:=cY 2 (aF (cC (tT B9 aY)
 (cI (au aZ (aJ (aa 0) (aa 1)) (af 1000000007)))
 bR)
 (cI (af 0)))
abbrev B_:=jM 3 (rY (bg "") (aj (aa 8) ao))
abbrev Cb:=au aZ (au bO (aa 0) (af 14)) (aa 6)
abbrev Cc:=au cK (au aZ (aa 0) (af 2)) (af 1)
abbrev Cf:=aL 2 (bg "abcdefghijklmnopqrstuvwxyz")
abbrev TW:=aJ (aa 2) (au aZ (au bf (au bO (aa 0) (af 112)) (aa 5)) (af 26))
abbrev TZ:=au aZ (au bf (au bO (aa 2) (af 2)) (au gM (af 3) (aa 0))) (af 26)
abbrev T0:=cM (au bf (au bf (au aZ (aa 5) (af 5)) (af 1)) (au bO (aa 5) (af 5)))
abbrev Ch:=Bu 8 (aa 7) (aJ (aa 2) (au aZ (au bf (au bO (aa 0) (af 112)) (aa 5)) (af 26)))
abbrev T1:=au aZ (au bf (au bO (aa 2) (au bf (aa 0) (af 1))) (au gM (aa 0) (aa 0))) (af 26)
abbrev Cn:=mF (aa 4) (cM (au aZ (aa 5) (af 5))) (cM (au bf (au bf (au aZ (aa 5) (af 5)) (af 1)) (au bO (aa 5) (af 5))))
abbrev T_:=bU (iK (aj (aa 6) ao)) 1 [2,0] (aC 0) bB (aJ (aa 1) (au aZ (au bf (au bO (aa 2) (au bf (aa 0) (af 1))) (au gM (aa 0) (aa 0))) (af 26)))
abbrev Co:=aJ (cu (aj (af 1) (aj (af 2) (aj (af 3) (aj (af 5) (aj (af 6) (aj (af 7) (aj (af 8) ao)))))))) (au aZ (au bO (aa 0) (af 2)) (af 7))
abbrev Cs:=aL 8 (bU (iK (aj (aa 6) ao)) 1 [2,0] (aC 0) bB (aJ (aa 1) (au aZ (au bf (au bO (aa 2) (au bf (aa 0) (af 1))) (au gM (aa 0) (aa 0))) (af 26))))
abbrev Ct:=rY (bg "") (aj (bU (iK (aj (af 10) ao)) 1 [2,0] (aC 0) bB (aJ (aa 1) (au aZ (au bf (au bO (aa 2) (af 2)) (au gM (af 3) (aa 0))) (af 26)))) ao)
def u9:GF:=cY 9 (aF Cf
 (aF (aL 3 (cu ao))
 (aF (cC (tT Cc aY)
 (aF (aL 4 Ct)
 (aF (fX (iK (aj (aa 1) ao)) (aC 5)
 (jM 3 Cn))
 (gZ 3)))
 bR)
 (aF (aL 6 Co)
 (aF (aL 7 Cb)
 (aF (fX (iK (aj (aa 1) ao)) (aC 5)
 (aF Cs
 (aF Ch
 B_)))
 (gZ 3)))))))
abbrev CA:=tT (au iV (eB cz (aj (aa 1) ao)) (af 0)) aY
abbrev Uf:=tT (au iV (au aZ (aa 5) (af 6)) (af 0)) aY
abbrev tJ:=tT (au iV (eB cz (aj (aa 2) ao)) (af 0)) aY
abbrev Up:=tT (au cK (au aZ (aa 5) (af 7)) (af 5)) aY
abbrev CB:=aL 3 (aX (aj (aa 7) (aj (aa 3) (aj (aa 6) ao))))
abbrev CC:=aL 3 (aX (aj (aa 7) (aj (aa 6) (aj (aa 3) ao))))
abbrev UA:=aX (aj (bg "num") (aj (au aZ (aa 5) (af 1000)) ao))
abbrev UB:=au cK (au aZ (au bO (aa 5) (af 5)) (af 3)) (af 1)
abbrev CD:=aJ (bg "+-*<=") (au aZ (au bO (aa 5) (af 77)) (af 5))
abbrev UC:=tT (au cK (au aZ (au bO (aa 5) (af 5)) (af 3)) (af 0)) aY
abbrev CF:=tT (au cK (au aZ (au bO (aa 5) (af 5)) (af 3)) (af 1)) aY
abbrev CH:=eE (tT (au iV (eB cz (aj (aa 1) ao)) (af 0)) aY) (tT (au iV (au aZ (aa 5) (af 6)) (af 0)) aY)
abbrev CL:=eE (tT (au iV (eB cz (aj (aa 2) ao)) (af 0)) aY) (tT (au cK (au aZ (aa 5) (af 7)) (af 5)) aY)
abbrev CM:=aL 6 (aX (aj (bg "box") (aj (aJ (aa 1) (au aZ (au bO (aa 5) (af 6)) (eB cz (aj (aa 1) ao)))) ao)))
abbrev CO:=au aZ (au gM (au aZ (au gM (aa 0) (au bf (aa 4) (af 2))) (af 2147483647)) (af 16807)) (af 2147483647)
abbrev CS:=aL 6 (aX (aj (bg "@") (aj (aJ (aa 2) (au aZ (au bO (aa 5) (af 42)) (eB cz (aj (aa 2) ao)))) (aj (aa 6) ao))))
abbrev CU:=aL 3 (aX (aj (bg "@") (aj (aJ (aa 2) (au aZ (au bO (aa 5) (af 15)) (eB cz (aj (aa 2) ao)))) (aj (aa 3) ao))))
abbrev CY:=eE (tT (au iV (eB cz (aj (aa 2) ao)) (af 0)) aY) (tT (au cK (au aZ (au bO (aa 5) (af 5)) (af 3)) (af 0)) aY)
abbrev tN:SF:=(aF (aL 5 CO)
 (aF (aL 6 UA)
 (aF (cC CH
 CM
 bR)
 (aF (cC CL
 CS
 bR)
 (aF (aL 7 CD)
 (cC CY
 CU
 (cC CF
 CB
 CC)))))))
abbrev UD:=tT (au iV (au aZ (aa 0) (af 5)) (af 0)) aY
abbrev C0:=aX (aj (bg "num") (aj (au aZ (au gM (aa 0) (af 7919)) (au Xv (af 10) (af 12))) ao))
abbrev C1:=eE (tT (au iV (eB cz (aj (aa 1) ao)) (af 0)) aY) (tT (au iV (au aZ (aa 0) (af 5)) (af 0)) aY)
abbrev C2:=aL 3 (aX (aj (bg "box") (aj (aJ (aa 1) (au aZ (au bO (aa 0) (af 5)) (eB cz (aj (aa 1) ao)))) ao)))
def dU:GF:=cY 8 (aF (aL 3 C0)
 (aF (cC C1
 C2
 bR)
 (aF (fX (iK (aj (aJ (cu (aj (af 0) (aj (af 0) (aj (af 1) (aj (af 1) (aj (af 2) (aj (af 2) (aj (af 3) (aj (af 4) ao))))))))) (au aZ (au bO (aa 0) (af 60)) (af 8))) ao)) (aC 4)
 tN)
 (gZ 3))))
abbrev UE:=tT (au cK (aa 7) (af 1)) aY
abbrev C3:=tT (au cK (aa 7) (af 6)) aY
abbrev C4:=tT (au cK (aa 7) (af 2)) aY
abbrev UF:=au aZ (au bO (aa 0) (af 8)) (af 9)
abbrev UH:=au iV (eB cz (aj (aa 3) ao)) (af 0)
abbrev tS:=aL 7 (au aZ (au bO (aa 0) (af 8)) (af 9))
abbrev C5:=tT (au iV (eB cz (aj (aa 4) ao)) (af 0)) aY
abbrev t0:=tT (au iV (eB cz (aj (aa 3) ao)) (af 0)) aY
abbrev UI:=tT (au cK (eB cz (aj (aa 1) ao)) (af 0)) aY
abbrev UM:=au pB (aa 7) (aX (aj (af 4) (aj (af 5) ao)))
abbrev UN:=au pB (aa 7) (aX (aj (af 3) (aj (af 8) ao)))
abbrev UO:=au cK (au aZ (au bO (aa 0) (af 8)) (af 3)) (af 0)
abbrev UP:=tT (au pB (aa 7) (aX (aj (af 4) (aj (af 5) ao)))) aY
abbrev C6:=tT (au pB (aa 7) (aX (aj (af 3) (aj (af 8) ao)))) aY
abbrev C7:=cI (aX (aj (bg "while") (aj (aa 6) (aj (oh (cu ao)) ao))))
abbrev UQ:=tT (au cK (au aZ (au bO (aa 0) (af 8)) (af 3)) (af 0)) aY
abbrev UR:=aJ (aa 1) (au aZ (au bO (aa 0) (af 72)) (eB cz (aj (aa 1) ao)))
abbrev C_:=aL 8 (aJ (aa 1) (au aZ (au bO (aa 0) (af 72)) (eB cz (aj (aa 1) ao))))
abbrev Db:=cI (aX (aj (bg "if") (aj (aa 5) (aj (oh (cu ao)) (aj (oh (cu ao)) ao)))))
abbrev Dx:=eE (tT (au cK (aa 7) (af 1)) aY) (tT (au iV (eB cz (aj (aa 2) ao)) (af 0)) aY)
abbrev US:=aN dU (aj (au aZ (au gM (aa 0) (af 48271)) (af 2147483647)) (aj (aa 1) (aj (aa 2) ao)))
abbrev UU:=aN dU (aj (au aZ (au gM (aa 0) (af 69621)) (af 2147483647)) (aj (aa 1) (aj (aa 2) ao)))
abbrev DA:=aL 5 (aN dU (aj (au aZ (au gM (aa 0) (af 48271)) (af 2147483647)) (aj (aa 1) (aj (aa 2) ao))))
abbrev DB:=aL 6 (aN dU (aj (au aZ (au gM (aa 0) (af 69621)) (af 2147483647)) (aj (aa 1) (aj (aa 2) ao))))
abbrev DC:=aj (au aZ (au gM (aa 1) (af 40692)) (au Mt (af 2147483399) (aa 0))) (aj (aa 2) (aj (aa 3) ao))
abbrev DE:=tO (tT (au pB (aa 7) (aX (aj (af 4) (aj (af 5) ao)))) aY) (tT (au cK (eB cz (aj (aa 1) ao)) (af 0)) aY)
abbrev DF:=cI (aX (aj (bg "put") (aj (aJ (aa 2) (au aZ (au bO (aa 0) (af 72)) (eB cz (aj (aa 2) ao)))) (aj (aa 5) (aj (aa 6) ao)))))
def iB:GF:=cY 12 (aF DA
 (aF DB
 (aF tS
 (aF (cC UQ
 (aL 7 (af 6))
 bR)
 (aF (cC Dx
 DF
 bR)
 (aF (cC C3
 C7
 bR)
 (aF (cC DE
 Db
 bR)
 (aF C_
 (aF (cC (eE C4 C5)
 (cI (aX (aj (bg "out") (aj (aa 8) (aj (aa 5) (aj (aJ (aa 4) (au aZ (au bO (aa 0) (af 7)) (eB cz (aj (aa 4) ao)))) ao))))))
 bR)
 (aF (cC (eE C6 t0)
 (aF (Xn (aJ (aa 3) (au aZ (au bO (aa 0) (af 792)) (eB cz (aj (aa 3) ao)))) (fC 2 (aW (aC 9) (aW (aC 10) fu))))
 (aF (aL 11 (bU (iK (aj (eB cz (aj (aa 10) ao)) ao)) 1 [0,1,2] (aC 0) bB (aN dU DC)))
 (cI (aX (aj (bg "call") (aj (aa 8) (aj (aa 9) (aj (aa 11) ao))))))))
 bR)
 (cI (aX (aj (bg "set") (aj (aa 8) (aj (aa 6) ao)))))))))))))))
abbrev t9:=aJ (aa 6) (jq (af 1))
abbrev UX:=tT (au iV (oO (aa 6)) (af 1)) aY
abbrev DH:=tT (au Ms (oO (aa 6)) (af 5)) aY
abbrev UY:=dh (j7 (aa 8) (cM (af 2)) eU) bJ
abbrev UZ:=tT (au cK (au aZ (aa 7) (af 8)) (af 0)) aY
abbrev DI:=aL 8 (aN iB (aj (aa 7) (aj (aa 1) (aj (aa 2) (aj (aa 3) (aj (aa 4) ao))))))
abbrev DJ:=tT (au pB (aJ (aa 8) (af 0)) (aX (aj (bg "if") (aj (bg "while") ao)))) aY
abbrev DL:=ou (aa 6) (oh (bU (dh (j7 (aa 8) (cM (af 2)) eU) bJ) 1 [] (aC 0) bB (aa 0)))
abbrev DM:=eE (tT (au cK (au aZ (aa 7) (af 8)) (af 0)) aY) (tT (au iV (oO (aa 6)) (af 1)) aY)
abbrev DO:=eE (tT (au pB (aJ (aa 8) (af 0)) (aX (aj (bg "if") (aj (bg "while") ao)))) aY) (tT (au Ms (oO (aa 6)) (af 5)) aY)
def sJ:GF:=cY 9 (aF (aL 5 (Sx ao))
 (aF (aL 6 (Sx (aj (oh (cu (aj (aa 5) ao))) ao)))
 (aF (fX (dh (aa 0) bJ) (aC 7)
 (cC DM
 (aF (rW (An t9))
 (cC (tT (au cK (oO t9) (af 0)) aY)
 (rW (FZ (aa 6)))
 bR))
 (aF DI
 (aF (ou (aJ t9 (af 0)) (aa 8))
 (cC DO
 DL
 bR)))))
 (cI (Gb (aa 5))))))
abbrev t_:=au bf (af 10) (au gM (af 4) (aa 3))
abbrev ua:SF:=(aF (aL 4 (au aZ (au bO (aa 0) (aJ (cu (aj (af 75) (aj (af 375) (aj (af 1875) (aj (af 9375) ao))))) (aa 3))) (af 5)))
 (jM 2 (aX (aj (aJ (aa 1) (au bf (af 6) (aa 3))) (aj (mF (aa 1) (cM t_) (cM (au bf t_ (aa 4)))) ao)))))
def vd:GF:=cY 5 (aF (aL 2 (cu ao))
 (aF (fX (iK (aj (au aZ (au bO (aa 0) (af 15)) (af 5)) ao)) (aC 3)
 ua)
 (gZ 2)))
abbrev DS:=aX (aj (aa 0) (aj (eC .non) ao))
abbrev DT:=aj (aa 5) (aj (aa 6) (aj (aa 9) ao))
abbrev oq:=cM (au bf (eB cz (aj (aa 6) ao)) (af 1))
abbrev DU:=au bf (aa 4) (cu (aj (aJ (aa 12) (af 0)) ao))
abbrev ub:SF:=(aF (aL 13 (aN sJ (aj (DN (aa 8) (cM (aa 11)) eU oq) (aj (au bf DU (aJ (aa 12) (af 1))) DT))))
 (jM 10 (aX (aj (aJ (aa 12) (af 0)) (aj (aJ (aa 3) (au aZ (au bf (aa 1) (aa 11)) (af 3))) (aj (bU (dh (aJ (aa 12) (af 1)) bJ) 1 [] (aC 0) bB DS) (aj (aa 13) ao)))))))
abbrev DV:=au aZ (aa 0) (af 1000000007)
abbrev DZ:=fC 2 (aW (aC 11) (aW (aC 12) fu))
abbrev vb:=aj (aa 1) (aj (af 0) (aj (aJ (aa 2) (au aZ (au bf (au bO (aa 3) (af 3072)) (aa 0)) (af 3))) ao))
abbrev D0:=aj (aa 0) (aj (au bf (af 1) (au aZ (au bO (aa 1) (af 48)) (af 8))) (aj (aJ (aa 2) (au aZ (au bO (aa 1) (af 9216)) (af 3))) ao))
def nq:GF:=cY 14 (aF (aL 1 (aN nj (aj (aa 0) (aj (af 0) ao))))
 (aF (aL 2 (aN u9 (aj (aN nj (aj (aa 0) (aj (af 1) ao))) (aj (af 26) ao))))
 (aF (aL 3 (cu (aj (eC .non) (aj (bg "low") (aj (bg "high") ao)))))
 (aF (aL 4 (mF (aa 2) eU (cM (au aZ (aa 1) (af 5)))))
 (aF (aL 5 (mF (aa 2) (cM (af 4)) (cM (au bf (af 4) (au aZ (au bO (aa 1) (af 5)) (af 3))))))
 (aF (aL 6 (aN vd TH))
 (aF (aL 7 (bU (uU (aa 4)) 2 [3,1] kl bB (aX vb)))
 (aF (aL 7 (au bf (aa 7) (bU (dh (aa 5) bJ) 1 [1,3] (aC 0) bB (aX D0))))
 (aF (aL 8 (bU (dh (mF (aa 0) (cM (af 2)) (cM (af 42))) bJ) 1 [] (aC 0) bB DV))
 (aF (aL 9 (cu (aj (bg "somebody") ao)))
 (aF (aL 10 (cu ao))
 (aF (fX (uU (aa 6)) DZ
 ub)
 (aF (aL 13 (aN sJ (aj (DN (aa 8) (cM (eB cz (aj (aa 6) ao))) eU oq) (aj (aa 4) DT))))
 (cI (aX (aj (aa 7) (aj (cu (aj (aX (aj (bg "somebody") (aj (bg "high") (aj (bg "low") ao)))) ao)) (aj (aa 10) (aj (aa 13) ao)))))))))))))))))))
abbrev D1:=au Mq (aJ (aa 0) (af 0)) (bg "if")
def gW:Nat->GF
 |0=>λ_ _=>J
 | n+1=>cY 1 (aF (cC (tT vc aY)
  (cI (eC (.bl G)))
  bR)
  (aF (cC (tT D1 aY)
  (cI (eC (.bl M)))
  bR)
  (cI (eB Aj (aj (bU (dh (au bf (aJ (aa 0) (af 2)) (aJ (aa 0) (af 3))) bJ) 1 [] (aC 0) bB (aN (gW n) (aj (aa 0) ao))) ao)))))
abbrev D2:=dh (j7 (aa 2) (cM (af 2)) eU) bJ
abbrev D3:=au pB (aJ (aa 2) (af 0)) (aX (aj (bg "if") (aj (bg "while") ao)))
def dW:Nat->GF
 |0=>λ_ _=>J
 | n+1=>cY 3 (aF (aL 1 (eB cz (aj (aa 0) ao)))
  (aF (fX (dh (aa 0) bJ) (aC 2)
  (cC (tT D3 aY)
  (aL 1 (au bf (aa 1) (eB DG (aj (bU D2 1 [] (aC 0) bB (aN (dW n) (aj (aa 0) ao))) ao))))
  bR))
  (gZ 1)))
abbrev D4:=dh (j7 (aa 0) (cM (af 2)) eU) bJ
abbrev U6:=au bf (aa 3) (aN (dW 40) (aj (aa 4) ao))
abbrev D5:=jM 2 (au bf (bg "leave ") (aJ (aa 0) (af 2)))
abbrev D6:=aL 3 (au bf (aa 3) (aN (dW 40) (aj (aa 4) ao)))
abbrev U7:=aj (au bf (bg "at ") (eB gp (aj (aa 1) ao))) ao
abbrev VA:=aN (dW 40) (aj (mF (aa 4) eU (cM (jq (af 1)))) ao)
abbrev D7:=aj (aJ (aa 4) (jq (af 1))) (aj (au bf (aa 3) (aN (dW 40) (aj (mF (aa 4) eU (cM (jq (af 1)))) ao))) ao)
def eQ:Nat->GF
 |0=>λ_ _=>J
 | n+1=>cY 5 (aF (aL 2 (cu U7))
  (aF (cC on
  D5
  bR)
  (aF (cC mN
  (aF (aL 3 (au bf (aa 1) (af 1)))
  (fX D4 (aC 4)
  (aF (cC (tT (eB Aj (aj (bU (dh (aa 4) bJ) 1 [] (aC 0) bB (aN (gW 40) (aj (aa 0) ao))) ao)) qW)
  (aL 2 (au bf (aa 2) (aN (eQ n) D7)))
  bR)
  D6)))
  bR)
  (gZ 2))))
def gK:Nat->GF
 |0=>λ_ _=>J
 | n+1=>cY 1 (aF (cC AR
  (cI (cu ao))
  bR)
  (aF (cC AS
  AI
  bR)
  (aF (cC AQ
  (cI (au bf TB (aN (gK n) i9)))
  bR)
  (cI (au bf (aN (gK n) om) (aN (gK n) i9))))))
abbrev ui:=dh (j7 (aa 4) (cM (af 2)) eU) bJ
abbrev D8:=aj (aa 5) (aj (aa 3) (aj (aa 2) ao))
abbrev D9:=ou (aa 2) (aX (aj (aa 3) (aj (aa 4) ao)))
abbrev D_:=au pB (aJ (aa 4) (af 0)) (aX (aj (bg "if") (aj (bg "while") ao)))
def fL:Nat->GF
 |0=>λ_ _=>J
 | n+1=>cY 6 (aF (aL 3 (aa 1))
  (aF (fX (dh (aa 0) bJ) (aC 4)
  (aF D9
  (aF (aL 3 (au bf (aa 3) (af 1)))
  (cC (tT D_ aY)
  (fX ui (aC 5)
  (aL 3 (aN (fL n) D8)))
  bR))))
  (gZ 3)))
abbrev Ea:=aN (dW 40) (aj (mF (aa 3) eU (cM (jq (af 1)))) ao)
abbrev Ec:=aX (aj (aa 0) (aj (af 0) (aj (bg "turns") (aj (aa 4) (aj (au bf (bg "at ") (eB gp (aj (aa 0) ao))) ao)))))
abbrev va:=bU (dh (aN (gK 40) (aj (aJ (aa 1) (af 1)) ao)) bJ) 1 [0] (aC 0) bB (aX (aj (aa 1) (aj (af 0) (aj (bg "turns") (aj (au bf (bg "box ") (aa 0)) (aj (au bf (bg "at ") (eB gp (aj (aa 1) ao))) ao))))))
def ut:GF:=cY 5 (aF (aL 2 va)
 (aF (aL 3 (aJ (aa 1) (af 2)))
 (aF (cC t0
 (fX (dh (aN (eQ 40) (aj (aJ (aa 3) (jq (af 1))) (aj (au bf (au bf (aa 0) (af 1)) Ea) ao))) bJ) (aC 4)
 (jM 2 Ec))
 bR)
 (gZ 2))))
abbrev Ee:SF:=(cC (tT (au cK (aJ (aa 9) (af 0)) (bg "while")) aY)
 (aL 8 (au bf (aa 8) (aN ut (aj (aa 3) (aj (aa 9) ao)))))
 bR)
abbrev VC:=au cK (aJ (aa 0) (af 2)) (bg "turns")
abbrev Ef:=tT (au cK (aJ (aa 0) (af 2)) (bg "turns")) aY
abbrev EA:=fC 4 (aW (aC 4) (aW (aC 5) (aW (aC 6) (aW (aC 7) fu))))
abbrev uj:=wQ 2 (aL 3 (aN (fL 40) (aj (aa 7) (aj (aa 3) (aj (aa 2) ao)))))
abbrev EB:=rW (aN (fL 40) (aj (aJ (aa 1) (af 3)) (aj (aa 3) (aj (aa 2) ao))))
def S6:GF:=cY 11 (aF (aL 1 (aN nq (aj (aa 0) ao)))
 (aF (aL 2 (cu ao))
 (aF (aL 3 (af 0))
 (aF (fX (dh (aJ (aa 1) (af 2)) bJ) EA
 (Bw 2 uj))
 (aF (Bw 2 (wQ 2 EB))
 (aF (aL 8 (cu ao))
 (aF (fX (dh (aa 2) bJ) (fC 2 (aW (aC 3) (aW (aC 9) fu)))
 Ee)
 (aF (aL 10 (aN Hi (aj (aa 1) ao)))
 (cI (Ma (au cK (bU (dh (aa 10) bJ) 1 [] (aC 0) Ef (aa 0)) (sX (aa 8))) (au cK (aa 1) (aN nq (aj (aa 0) ao)))))))))))))
variable {P:Program}{w:World}{K:FG}{mg:Str->Option Value}{base:Heap}
noncomputable abbrev BL:List Str:=["any","enumerate","len","list","range","set","sorted","str","sum","zip"]
section
variable {mg:Str->Option Value}(B:QG mg BL)
include B
theorem Ko:mg "any"=J:=B _ ()
theorem sO:mg "enumerate"=J:=B _ ()
theorem eG:mg "len"=J:=B _ ()
theorem wW:mg "list"=J:=B _ ()
theorem pD:mg "range"=J:=B _ ()
theorem S7:mg "set"=J:=B _ ()
theorem DR:mg "sorted"=J:=B _ ()
theorem S8:mg "str"=J:=B _ ()
theorem VI:mg "sum"=J:=B _ ()
theorem VO:mg "zip"=J:=B _ ()
end
section
variable (P:Program)(w:World)(K:FG)(mg:Str->Option Value)(base:Heap)(c:Addr)
abbrev mO:=bI P w K mg base "blocks_of" 1 ["row"] (bW K 1 gJ)
abbrev tZ:=bI P w K mg base "expressions_of" 1 ["row"] (bW K 1 km)
abbrev Jl:=bI P w K mg base "copied" 40 ["row"] (bW K 1 (kE 40))
abbrev O7:=bI P w K mg base "in_order" 41 ["rows"] (bW K 1 (iz 40))
abbrev O8:=bI P w K mg base "laid_out" 80 ["where","above","block","rows","start"] (bW K 5 (gP 40))
abbrev Dc:=bI P w K mg base "numbered" 81 ["program"] (bW K 1 yK)
abbrev Yd:=bI P w K mg base "reads" 40 ["expression"] (bW K 1 (ni 40))
abbrev Dd:=bI P w K mg base "names_in" 41 ["expression"] (bW K 1 yL)
abbrev Jm:=bI P w K mg base "spends" 42 ["row"] (bW K 1 yM)
abbrev nu:=vO P w K mg base c "block" 1 ["self","k","which"] (bW K 3 dZ)
abbrev gQ:=vO P w K mg base c "row" 1 ["self","k"] (bW K 2 dY)
abbrev jW:=vO P w K mg base c "spending" 43 ["self","numbers"] (bW K 2 fV)
abbrev tW:=bI P w K mg base "behind_row" 83 ["plan","k"] (bW K 2 (dJ 40))
abbrev Cw:=X4 P w K mg base c 82 ["self","program"] (bW K 2 kI)
abbrev vf:=vO P w K mg base c "numbers" 1 ["self"] (bW K 1 qm)
abbrev zf:=bI P w K mg base "back_steps" 2 ["plan","k"] (bW K 2 j4)
abbrev qH:=vO P w K mg base c "just_ahead" 1 ["self","k"] (bW K 2 iH)
abbrev tX:=vO P w K mg base c "home" 1 ["self","k"] (bW K 2 mL)
abbrev wX:=vO P w K mg base c "outer" 1 ["self","k"] (bW K 2 oH)
abbrev lw:=bI P w K mg base "boxes_read" 42 ["expression"] (bW K 1 iI)
abbrev vg:=bI P w K mg base "first_sources" 43 ["plan","k"] (bW K 2 lW)
abbrev vQ:=bI P w K mg base "turn_sources" 84 ["plan","k"] (bW K 2 rM)
abbrev vh:=bI P w K mg base "begin_sources" 85 ["plan","k"] (bW K 2 jH)
abbrev vR:=vO P w K mg base c "params" 1 ["self","name"] (bW K 2 rN)
abbrev wY:=bI P w K mg base "given_steps" 43 ["k","name","some"] (bW K 3 lr)
abbrev zg:=bI P w K mg base "done_steps" 44 ["plan","k"] (bW K 2 qt)
abbrev zj:=vO P w K mg base c "body" 1 ["self","name"] (bW K 2 qu)
abbrev w5:=bI P w K mg base "leave_steps" 84 ["plan","k"] (bW K 2 lu)
abbrev M9:=bI P w K mg base "rules" 86 ["program"] (bW K 1 Hi)
abbrev vU:=bI P w K mg base "_law_cell_at" 1 ["_law_script","_law_k"] (bW K 2 nj)
abbrev zm:=bI P w K mg base "_law_names" 1 ["_law_cell","_law_count"] (bW K 2 u9)
abbrev sY:=bI P w K mg base "_law_expression" 1 ["_law_cell","_law_own","_law_lists"] (bW K 3 dU)
abbrev De:=bI P w K mg base "_law_row" 2 ["_law_cell","_law_own","_law_lists","_law_heads_here","_law_whos"] (bW K 5 iB)
abbrev Ao:=bI P w K mg base "_law_rows" 3 ["_law_cells","_law_own","_law_lists","_law_heads_here","_law_whos"] (bW K 5 sJ)
abbrev zp:=bI P w K mg base "_law_heads" 1 ["_law_cell","_law_names_here"] (bW K 2 vd)
abbrev vV:=bI P w K mg base "_law_program" 4 ["_law_script"] (bW K 1 nq)
abbrev w6:=bI P w K mg base "_law_spends" 40 ["_law_row_here"] (bW K 1 (gW 40))
abbrev vm:=bI P w K mg base "_law_size" 40 ["_law_rows_here"] (bW K 1 (dW 40))
abbrev Hj:=bI P w K mg base "_law_behind" 80 ["_law_row_here","_law_k"] (bW K 2 (eQ 40))
abbrev Nb:=bI P w K mg base "_law_read" 40 ["_law_expression_here"] (bW K 1 (gK 40))
abbrev O9:=bI P w K mg base "_law_all" 40 ["_law_rows_here","_law_first","_law_told"] (bW K 3 (fL 40))
abbrev Df:=bI P w K mg base "_law_due" 81 ["_law_k","_law_row_here"] (bW K 2 ut)
end
variable (B:QG mg BL){cS:Addr}(bh:yx K mg "Plan" cS)(bv:∀f∈(["told","lists","heads"]:List Str),kW K cS f)(bS:HK.hk=CT P w)
include B bh bv bS
theorem Nf(F:cL K mg "blocks_of" wj ["row"]):mO P w K mg base:=
 F.ok M6 λf q A i s H E j=>#[_,λ_ _=>O,(az (b8 (bN (cG j) cH (qI (qw 0)) bT (bA _))
  (aD (bK (dz (ak (qI (qw 0)) (ak (qI (qw 0)) aq)))))
  bH)
  (az (b8 (bN (cG j) cH (qI (qw 0)) bT (bA _))
  (aD (bK (dz (ak (qI (qw 0)) aq))))
  bH)
  (aD (bK (dz aq)))))]
theorem Cy(F:cL K mg "expressions_of" oR ["row"]):tZ P w K mg base:=
 F.ok Cu λf q A j s H E i=>#[_,λ_ _=>O,(az (b8 (PW.pt (Ke (bN (cG i) cH (qI (qw 0)) bT (bA _)) (Fp (bN (cG i) cH (qI (qw 0)) bT (bA _)))))
  (aD (bK (dz (ak (qI (qw 0)) aq))))
  bH)
  (az (b8 (bN (cG i) cH (qI (qw 0)) bT (bA _))
  (aD (bK (dz (ak (qI (qw 0)) (ak (qI (qw 0)) aq)))))
  bH)
  (az (b8 (bN (cG i) cH (qI (qw 0)) bT (bA _))
  (aD (bK (PE.imp (gA lX O (wW B) (by kernel_rfl) (ak (qI (qw 0)) aq)) (pP wK))))
  bH)
  (aD (bK (dz (ak (qI (qw 0)) aq)))))))]
theorem Vx(F:cL K mg "copied" yG ["row"])(i:bI P w K mg base "all_copied" (0+n) ["rows"] (bW K 1 (fU n))):bI P w K mg base "copied" (0+n+1) ["row"] (bW K 1 (kE (n+1))):=
 F.ok Vv λf z A q s H E j=>#[_,λ_ _=>O,(az (b8 (bN (cG j) cH (qI (qw 0)) bT (bA _))
  (aD (bK (cP (ak bT (ak (qI (qw 0)) (ak (bL i (j.mono ()) O (ak (qI (qw 0)) aq) (aB aP)) (ak (bL i (j.mono ()) O (ak (qI (qw 0)) aq) (aB aP)) aq)))))))
  bH)
  (az (b8 (bN (cG j) cH (qI (qw 0)) bT (bA _))
  (aD (bK (cP (ak bT (ak (qI (qw 0)) (ak (bL i (j.mono ()) O (ak (qI (qw 0)) aq) (aB aP)) aq))))))
  bH)
  (az (b8 (bN (cG j) cH (qI (qw 0)) bT (bA _))
  (aD (bK (cP (ak bT (ak (qI (qw 0)) (ak (qI (qw 0)) (ak (PE.imp (gA lX O (wW B) (by kernel_rfl) (ak (qI (qw 0)) aq)) (pP wK)) aq)))))))
  bH)
  (aD (gh (pv 0))))))]
theorem JS(F:cL K mg "all_copied" mG ["rows"])(i:bI P w K mg base "copied" (0+n) ["row"] (bW K 1 (kE n))):bI P w K mg base "all_copied" (0+n+1) ["rows"] (bW K 1 (fU (n+1))):=
 F.ok JN λf q A j s H E z=>#[_,λ_ _=>O,(aD (bK (gH ["row"] [] [] O (jx (aG mG)) (cA (qw 0)) (λ_ _ _ _=>(cQ 0 (show (["row"]:List Str).Nodup from by decide +kernel))) aM (λ_ _ _ _=>cN) (λ_ _ _ _=>(bL i () O (ak (qw 0) aq) (aB aP))))))]
theorem Gg(j:cL K mg "copied" yG ["row"])(i:cL K mg "all_copied" mG ["rows"]):∀n:Nat,bI P w K mg base "copied" (0+n) ["row"] (bW K 1 (kE n))/\bI P w K mg base "all_copied" (0+n) ["rows"] (bW K 1 (fU n))
 |0=>#[jY j,jY i]
 |n+1=>by let q:=Gg j i n;show#[Vx B bh bv bS j q.2,JS B bh bv bS i q.1]
theorem Pa(F:cL K mg "in_order" uh ["rows"])(i:mO P w K mg base)(q:bI P w K mg base "in_order" (1+n) ["rows"] (bW K 1 (iz n))):bI P w K mg base "in_order" (1+n+1) ["rows"] (bW K 1 (iz (n+1))):=
 F.ok sH λf D A j s H E z=>#[_,λ_ _=>O,(az (cU 1 sH.nd (dz aq))
  (az (fK eH O (cA (qw 0)) (cQ 2 sH.nd) aM
  (az (yE (pv 1) (qw 2))
  (aD (fK eH O (cA (bL i (z.mono ()) O (ak (qw 2) aq) (aB aP))) (cQ 3 sH.nd) aM
  (aD (nM (pv 1) (bL q () O (ak (qw 3) aq) (aB aP))))))))
  (aD (gh (pv 1)))))]
theorem Aq(i:cL K mg "in_order" uh ["rows"])(j:mO P w K mg base):∀n:Nat,bI P w K mg base "in_order" (1+n) ["rows"] (bW K 1 (iz n))
 |0=>jY i
 |n+1=>by let q:=Aq i j n;show Pa B bh bv bS i j q
theorem Pb(F:cL K mg "laid_out" ul ["where","above","block","rows","start"])(q:mO P w K mg base)(i:Jl P w K mg base)(j:bI P w K mg base "laid_out" (40+n) ["where","above","block","rows","start"] (bW K 5 (gP n))):bI P w K mg base "laid_out" (40+n+1) ["where","above","block","rows","start"] (bW K 5 (gP (n+1))):=
 F.ok lH λf N A z s H E D=>#[_,λ_ _=>O,(az (cU 5 lH.nd (dz aq))
  (az (fK eH O (cA (qw 3)) (cQ 6 lH.nd) aM
  (az (cU 7 lH.nd (Kh (bj bD bF (qw 4) (qL (eG B) (qw 5)))))
  (az (yE (pv 5) (cP (ak (qw 0) (ak (qw 1) (ak (qw 2) (ak (bL i (D.mono ()) O (ak (qw 6) aq) (aB aP)) aq))))))
  (aD (fK eH O (Bx O (sO B) (ak (bL q (D.mono ()) O (ak (qw 6) aq) (aB aP)) aq)) (iW O (bM (cQ 8 lH.nd) (bM (cQ 9 lH.nd) gR))) (iY (bV aM (bV aM iU)))
  (aD (nM (pv 5) (bL j (D.mono ()) O (ak (qw 0) (ak (qw 7) (ak (qw 8) (ak (qw 9) (ak (Kh (bj bD bF (qw 4) (qL (eG B) (qw 5)))) aq))))) (aB (aB (aB (aB (aB aP)))))))))))))
  (aD (gh (pv 5)))))]
theorem Ar(i:cL K mg "laid_out" ul ["where","above","block","rows","start"])(q:mO P w K mg base)(j:Jl P w K mg base):∀n:Nat,bI P w K mg base "laid_out" (40+n) ["where","above","block","rows","start"] (bW K 5 (gP n))
 |0=>jY i
 |n+1=>by let z:=Ar i q j n;show Pb B bh bv bS i q j z
theorem Ph(F:cL K mg "numbered" yH ["program"])(i:O8 P w K mg base):Dc P w K mg base:=
 F.ok lJ λf z A j s H E q=>#[_,λ_ _=>O,(az (cU 1 lJ.nd (dz aq))
  (az (fK eH O (cA (qI (qw 0))) (iW O (bM (cQ 2 lJ.nd) (bM (cQ 3 lJ.nd) (bM (cQ 4 lJ.nd) (bM (cQ 5 lJ.nd) gR))))) (iY (bV aM (bV aM (bV aM (bV aM iU)))))
  (aD (nM (pv 1) (bL i (q.mono ()) O (ak (qw 2) (ak Jg (ak aQ (ak (qw 5) (ak (Kh (qL (eG B) (qw 1))) aq))))) (aB (aB (aB (aB (aB aP)))))))))
  (az (nM (pv 1) (bL i (q.mono ()) O (ak bT (ak Jg (ak aQ (ak (qI (qw 0)) (ak (Kh (qL (eG B) (qw 1))) aq))))) (aB (aB (aB (aB (aB aP)))))))
  (aD (gh (pv 1))))))]
theorem Ye(F:cL K mg "reads" BX ["expression"])(i:bI P w K mg base "reads" (0+n) ["expression"] (bW K 1 (ni n))):bI P w K mg base "reads" (0+n+1) ["expression"] (bW K 1 (ni (n+1))):=
 F.ok Yc λf z A q s H E j=>#[_,λ_ _=>O,(az (b8 (bN (cG j) cH (qI (qw 0)) bT (bA _))
  (aD (bK (dz aq)))
  bH)
  (az (b8 (bN (cG j) cH (qI (qw 0)) bT (bA _))
  (aD (bK (dz (ak (cP (ak bT (ak (qI (qw 0)) aq))) aq))))
  bH)
  (az (b8 (bN (cG j) cH (qI (qw 0)) bT (bA _))
  (aD (bK (bj bD bF (dz (ak (cP (ak bT (ak (qI (qw 0)) aq))) aq)) (bL i (j.mono ()) O (ak (qI (qw 0)) aq) (aB aP)))))
  bH)
  (aD (bK (bj bD bF (bL i (j.mono ()) O (ak (qI (qw 0)) aq) (aB aP)) (bL i (j.mono ()) O (ak (qI (qw 0)) aq) (aB aP))))))))]
theorem Jo(i:cL K mg "reads" BX ["expression"]):∀n:Nat,bI P w K mg base "reads" (0+n) ["expression"] (bW K 1 (ni n))
 |0=>jY i
 |n+1=>by let j:=Jo i n;show Ye B bh bv bS i j
theorem Pj(F:cL K mg "names_in" um ["expression"])(j:Yd P w K mg base):Dd P w K mg base:=
 F.ok O3 λf q A i s H E z=>#[_,λ_ _=>O,(aD (bK (Vr (iQ (Fb O) O (DR B) () (wz (gA (W2 O) O (S7 B) () (ak (gH ["word","name"] [] [] O (jx (aG um)) (cA (bL j () O (ak (qw 0) aq) (aB aP))) (λ_ _ _ _=>(iW O (bM (cQ 0 (show (["word","name"]:List Str).Nodup from by decide +kernel)) (bM (cQ 1 (show (["word","name"]:List Str).Nodup from by decide +kernel)) gR)))) (iY (bV aM (bV aM iU))) (λ_ _ _ _=>cN) (λ_ _ _ _=>(qw 1))) aq)) zK)))))]
theorem Vy(F:cL K mg "spends" yI ["row"])(j:O7 P w K mg base):Jm P w K mg base:=
 F.ok Vw λf z A i s H E q=>#[_,λ_ _=>O,(aD (bK (wJ (mD O) Fx (iQ (mD O) O (Ko B) () (ak (gH ["inner"] [] [] O (jx (aG yI)) (cA (bL j () O (ak (dz (ak (qw 0) aq)) aq) (aB aP))) (λ_ _ _ _=>(cQ 0 (show (["inner"]:List Str).Nodup from by decide +kernel))) aM (λ_ _ _ _=>cN) (λ_ _ _ _=>(Xk (uR q) qY (qI (qw 0)) (cP (ak bT (ak bT aq))) (by with_unfolding_all rfl)))) aq)))))]
theorem Hk(F:wO K cS "block" "Plan.block" tV ["self","k","which"]):nu P w K mg base cS:=
 F.ok Hh λf q A i s H E j=>#[_,λ_ _=>O,(aD (bK (PE.imp (gA lX () (wW B) () (ak (Zi () (Lg PySem.F.slot_dict_get PySem.F.type_dict_get (Qj (Bj j)) (wg bh (bv _ ()) (qw 0)) (ak (cP (ak (qI (fP (wg bh (bv _ (.head _)) (qw 0)) (qw 1) (λ_ _=>O))) (ak (qw 1) (ak (qw 2) aq)))) (ak (dz aq) aq)))) aq)) (pP wK))))]
theorem Ng(F:wO K cS "row" "Plan.row" wk ["self","k"]):gQ P w K mg base cS:=
 F.ok M8 λf j A i s H E q=>#[_,λ_ _=>O,(aD (bK (qI (fP (wg bh (bv _ ()) (qw 0)) (qw 1) (λ_ _=>O)))))]
theorem Cz(F:wO K cS "spending" "Plan.spending" j9 ["self","numbers"])(j:gQ P w K mg base cS)(i:Jm P w K mg base):jW P w K mg base cS:=
 F.ok Cv λf D A q s H E z=>#[_,λ_ _=>O,(aD (bK (wJ (mD O) Fx (iQ (mD O) () (Ko B) () (ak (gH ["k"] ["self"] [0] O (jx (aG j9)) (cA (qw 1)) (λ_ _ _ _=>(cQ 0 (show (["k","self"]:List Str).Nodup from by decide +kernel))) aM (λ_ _ _ _=>cN) (λ_ _ _ _=>(bL i () O (ak (jt bh j (z.mono ()) (qw 1) (ak (qw 0) aq) (gO (aB aP))) aq) (aB aP)))) aq)))))]
theorem JT(F:cL K mg "behind_row" pY ["plan","k"])(j:nu P w K mg base cS)(q:gQ P w K mg base cS)(D:jW P w K mg base cS)(N:bI P w K mg base "behind_row" (43+n) ["plan","k"] (bW K 2 (dJ n))):bI P w K mg base "behind_row" (43+n+1) ["plan","k"] (bW K 2 (dJ (n+1))):=
 F.ok oF λf Q A z s H E i=>#[_,λ_ _=>O,(az (cU 2 oF.nd (jt bh q (i.mono ()) (qw 0) (ak (qw 1) aq) (gO (aB aP))))
  (az (cU 3 oF.nd (dz (ak (wR () (qw 1)) aq)))
  (az (b8 (bN (cG i) cH (qI (qw 2)) bT (bA _))
  (aD (yE (pv 3) (bj bD bF bT (qI (qw 2)))))
  bH)
  (az (b8 (bN (cG i) cH (qI (qw 2)) bT (bA _))
  (aD (fK eH O (cA (cP (ak (jt bh j (i.mono ()) (qw 0) (ak (qw 1) (ak aQ aq)) (gO (aB (aB aP)))) (ak (jt bh j (i.mono ()) (qw 0) (ak (qw 1) (ak aQ aq)) (gO (aB (aB aP)))) aq)))) (cQ 4 oF.nd) aM
  (aD (b8 (Fo (jt bh D (i.mono ()) (qw 0) (ak (qw 4) aq) (gO (aB aP))) (λ_=>O))
  (aD (nM (pv 3) (bL N (i.mono ()) O (ak (qw 0) (ak (fP (qw 4) (v7 aQ) (λ_ _=>O)) aq)) (aB (aB aP)))))
  bH))))
  bH)
  (aD (gh (pv 3)))))))]
theorem xf(i:cL K mg "behind_row" pY ["plan","k"])(q:nu P w K mg base cS)(z:gQ P w K mg base cS)(j:jW P w K mg base cS):∀n:Nat,bI P w K mg base "behind_row" (43+n) ["plan","k"] (bW K 2 (dJ n))
 |0=>jY i
 |n+1=>by let D:=xf i q z j n;show JT B bh bv bS i q z j D
theorem CG(F:wO K cS "__init__" "Plan.__init__" j8 ["self","program"])(q:Dc P w K mg base):vO P w K mg base cS "__init__" 82 ["self","program"] (bW K 2 kI):=
 F.ok dR λf z A j s H E i=>#[_,λ_ _=>O,(az (cU 2 dR.nd (bL q () O (ak (qw 1) aq) (aB aP)))
  (az (cU 3 dR.nd (SK ()))
  (az (fK eH O (Bx O (sO B) (ak (qw 2) aq)) (iW O (bM (cQ 4 dR.nd) (bM (cQ 5 dR.nd) gR))) (iY (bV aM (bV aM iU)))
  (aD (By (qK (rR jv nk no oY (SO (bS) (Lg PySem.F.slot_dict_setdefault PySem.F.type_dict_setdefault (Ux (Bj i)) (pv 3) (ak (uC (qw 5) jX (eX aQ)) (ak (dz aq) aq)))) (ak (qw 4) aq))))))
  (az (cU 6 dR.nd Re)
  (az (fK eH O (cA (qI (qw 1))) (iW O (bM (cQ 7 dR.nd) (bM (cQ 8 dR.nd) (bM (cQ 9 dR.nd) (bM (cQ 10 dR.nd) gR))))) (iY (bV aM (bV aM (bV aM (bV aM iU)))))
  (aD (QU (KH (gH ["param","known"] [] [] O (jx (aG j8)) (cA (qw 9)) (λ_ _ _ _=>(iW O (bM (cQ 0 (show (["param","known"]:List Str).Nodup from by decide +kernel)) (bM (cQ 1 (show (["param","known"]:List Str).Nodup from by decide +kernel)) gR)))) (iY (bV aM (bV aM iU))) (λ_ _ _ _=>cN) (λ_ _ _ _=>(qw 0))) (Eo (pv 6) (qw 7) (set_dict (Bj i)))))))
  (az (Hb bh (bv _ (.head _)) (qw 0) (qw 2))
  (az (Hb bh (bv _ (mI 1 O)) (qw 0) (Ta (qw 3)))
  (aD (Hb bh (bv _ (mI 2 O)) (qw 0) (qw 6))))))))))]
theorem DW(F:wO K cS "numbers" "Plan.numbers" qg ["self"]):vf P w K mg base cS:=
 F.ok DQ λf j A i s H E q=>#[_,λ_ _=>O,(aD (bK (Tb (gA (JL O) () (wW B) () (wz (gA W5 () (pD B) (by kernel_rfl) (ak (qL (eG B) (wg bh (bv _ ()) (qw 0))) aq)) zK)))))]
theorem JV(F:cL K mg "back_steps" qe ["plan","k"])(j:gQ P w K mg base cS):zf P w K mg base:=
 F.ok zc λf D A q s H E z=>#[_,λ_ _=>O,(az (wI zc.nd O () (jt bh j () (qw 0) (ak (qw 1) aq) (gO (aB aP))))
  (az (b8 (bN (Mp z) Mr (qI (qw 2)) bT (bA _))
  (aD (bK (dz aq)))
  bH)
  (aD (bK (gH ["source"] ["row"] [2] O (jx (aG qe)) (cA (cP (ak (bj bD bF bT (qI (qw 2))) (ak (wR () (qw 1)) (ak (bj bD bF bT (qI (qw 2))) aq))))) (λ_ _ _ _=>(cQ 0 (show (["source","row"]:List Str).Nodup from by decide +kernel))) aM (λ_ _ _ _=>cN) (λ_ _ _ _=>(cP (ak (qw 0) (ak (bj bD bF bT (qI (qw 1))) aq)))))))))]
theorem zB(F:wO K cS "just_ahead" "Plan.just_ahead" mJ ["self","k"]):qH P w K mg base cS:=
 F.ok lM λf q A j s H E i=>#[_,λ_ _=>O,(az (cU 2 lM.nd (Tx bS (Bj i) (wg bh (bv _ ()) (qw 0)) (uC (fP (wg bh (bv _ ()) (qw 0)) (qw 1) (λ_ _=>O)) jX (eX aQ)) (λ_ _=>O)))
  (az (cU 3 lM.nd (QA (rR jv PySem.F.slot_list_index PySem.F.type_list_index (XF i) (qw 2) (ak (qw 1) aq))))
  (aD (bK (OL (bN (cG i) cH (qw 3) aQ (bA _)) Jg (fP (qw 2) (bj T4 QD (qw 3) aQ) (λ_ _=>O)))))))]
theorem JW(F:wO K cS "home" "Plan.home" u5 ["self","k"]):tX P w K mg base cS:=
 F.ok JQ λf j A i s H E q=>#[_,λ_ _=>O,(aD (bK (qI (fP (wg bh (bv _ ()) (qw 0)) (qw 1) (λ_ _=>O)))))]
theorem Hl(F:wO K cS "outer" "Plan.outer" tU ["self","k"]):wX P w K mg base cS:=
 F.ok Hf λf j A i s H E q=>#[_,λ_ _=>O,(aD (bK (qI (fP (wg bh (bv _ ()) (qw 0)) (qw 1) (λ_ _=>O)))))]
theorem JX(F:cL K mg "boxes_read" pZ ["expression"])(j:Dd P w K mg base):lw P w K mg base:=
 F.ok JP λf q A i s H E z=>#[_,λ_ _=>O,(aD (bK (gH ["name"] [] [] O (jx (aG pZ)) (cA (bL j () O (ak (qw 0) aq) (aB aP))) (λ_ _ _ _=>(cQ 0 (show (["name"]:List Str).Nodup from by decide +kernel))) aM (λ_ _ _ _=>cN) (λ_ _ _ _=>(wR () (qw 0))))))]
theorem DX(F:cL K mg "first_sources" lV ["plan","k"])(D:tX P w K mg base cS)(N:wX P w K mg base cS)(q:gQ P w K mg base cS)(j:lw P w K mg base):vg P w K mg base:=
 F.ok kh λf Q A z s H E i=>#[_,λ_ _=>O,(az (cU 2 kh.nd (jt bh N (i.mono ()) (qw 0) (ak (qw 1) aq) (gO (aB aP))))
  (az (b8 (bN T7 QC (qw 2) Jg (bA _))
  (aD (bK (dz (ak (cP (ak bT (ak (bj bD bF bT (jt bh D (i.mono ()) (qw 0) (ak (qw 1) aq) (gO (aB aP)))) aq))) aq))))
  bH)
  (az (cU 3 kh.nd (dz (ak (cP (ak bT (ak (wR () (qw 2)) aq))) aq)))
  (az (cU 4 kh.nd (jt bh q (i.mono ()) (qw 0) (ak (qw 2) aq) (gO (aB aP))))
  (az (b8 (bN (cG i) cH (qI (qw 4)) bT (bA _))
  (aD (nM (pv 3) (gH ["node"] [] [] O (jx (aG lV)) (cA (bL j (i.mono ()) O (ak (qI (qw 4)) aq) (aB aP))) (λ_ _ _ _=>(cQ 0 (show (["node"]:List Str).Nodup from by decide +kernel))) aM (λ_ _ _ _=>cN) (λ_ _ _ _=>(cP (ak bT (ak (qw 0) aq)))))))
  bH)
  (aD (gh (pv 3))))))))]
theorem Gh(F:cL K mg "turn_sources" rF ["plan","k"])(N:nu P w K mg base cS)(q:gQ P w K mg base cS)(D:tW P w K mg base)(j:lw P w K mg base):vQ P w K mg base:=
 F.ok qi λf Q A z s H E i=>#[_,λ_ _=>O,(az (cU 2 qi.nd (jt bh N (i.mono ()) (qw 0) (ak (qw 1) (ak aQ aq)) (gO (aB (aB aP)))))
  (az (cU 3 qi.nd (bL j (i.mono ()) O (ak (qI (jt bh q (i.mono ()) (qw 0) (ak (qw 1) aq) (gO (aB aP)))) aq) (aB aP)))
  (az (b8 (Fo (qw 2) (λ_=>O))
  (aD (nM (pv 3) (bL D (i.mono ()) O (ak (qw 0) (ak (fP (qw 2) (v7 aQ) (λ_ _=>O)) aq)) (aB (aB aP)))))
  bH)
  (aD (gh (pv 3))))))]
theorem DY(F:cL K mg "begin_sources" jF ["plan","k"])(j:qH P w K mg base cS)(q:gQ P w K mg base cS)(N:tW P w K mg base)(Q:vg P w K mg base)(D:vQ P w K mg base):vh P w K mg base:=
 F.ok oU λf W A z s H E i=>#[_,λ_ _=>O,(az (cU 2 oU.nd (jt bh j (i.mono ()) (qw 0) (ak (qw 1) aq) (gO (aB aP))))
  (az (cU 3 oU.nd (dz aq))
  (az (b8 (bN T7 QC (qw 2) Jg (bA _))
  (aD (nM (pv 3) (bL Q (i.mono ()) O (ak (qw 0) (ak (qw 1) aq)) (aB (aB aP)))))
  (aD (nM (pv 3) (gH ["node"] [] [] O (jx (aG jF)) (cA (bL N (i.mono ()) O (ak (qw 0) (ak (qw 2) aq)) (aB (aB aP)))) (λ_ _ _ _=>(cQ 0 (show (["node"]:List Str).Nodup from by decide +kernel))) aM (λ_ _ _ _=>cN) (λ_ _ _ _=>(cP (ak bT (ak (qw 0) aq))))))))
  (az (b8 (bN (cG i) cH (qI (jt bh q (i.mono ()) (qw 0) (ak (qw 1) aq) (gO (aB aP)))) bT (bA _))
  (aD (nM (pv 3) (gH ["node"] [] [] O (jx (aG jF)) (cA (bL D (i.mono ()) O (ak (qw 0) (ak (qw 1) aq)) (aB (aB aP)))) (λ_ _ _ _=>(cQ 0 (show (["node"]:List Str).Nodup from by decide +kernel))) aM (λ_ _ _ _=>cN) (λ_ _ _ _=>(cP (ak bT (ak (qw 0) aq)))))))
  bH)
  (aD (gh (pv 3)))))))]
theorem Gi(F:wO K cS "params" "Plan.params" rH ["self","name"]):vR P w K mg base cS:=
 F.ok Gf λf q A i s H E j=>#[_,λ_ _=>O,(aD (bK (PE.imp (gA lX () (wW B) () (ak (QN (Bj j) (wg bh (bv _ ()) (qw 0)) (qw 1) (λ_ _=>O)) aq)) (pP wK))))]
theorem Hm(F:cL K mg "given_steps" oA ["k","name","some"])(j1:lw P w K mg base):wY P w K mg base:=
 F.ok rJ λf fA A outer s H E hr=>#[_,λ_ _=>rfl,(az (cU 3 rJ.nd (dz (ak (cP (ak bT (ak (wR () (qw 0)) (ak (wR () (qw 1)) aq)))) aq)))
  (az (fK eH rfl (cA (qw 2)) (cQ 4 rJ.nd) aM
  (aD (nM (pv 3) (gH ["node"] ["name"] [1] rfl (jx (aG oA)) (cA (bL j1 (hr.mono ()) rfl (ak (qw 4) aq) (aB aP))) (λ_ _ _ _=>(cQ 0 (show (["node","name"]:List Str).Nodup from by decide +kernel))) aM (λ_ _ _ _=>cN) (λ_ _ _ _=>(cP (ak bT (ak (qw 0) (ak (wR () (qw 1)) aq)))))))))
  (aD (gh (pv 3)))))]
theorem JZ(F:cL K mg "done_steps" qd ["plan","k"])(D:vR P w K mg base cS)(N:gQ P w K mg base cS)(z:lw P w K mg base)(W:tZ P w K mg base)(q:wY P w K mg base):zg P w K mg base:=
 F.ok jD λf fA A Q s H E j=>#[_,λ_ _=>O,(az (cU 2 jD.nd (jt bh N (j.mono ()) (qw 0) (ak (qw 1) aq) (gO (aB aP))))
  (az (b8 (PW.pt (Ke (bN (cG j) cH (qI (qw 2)) bT (bA _)) (Fp (bN (cG j) cH (qI (qw 2)) bT (bA _)))))
  (aD (bK (bL q (j.mono ()) O (ak (qw 1) (ak (qI (qw 2)) (ak (bL W (j.mono ()) O (ak (qw 2) aq) (aB aP)) aq))) (aB (aB (aB aP))))))
  bH)
  (az (b8 (bN (cG j) cH (qI (qw 2)) bT (bA _))
  (az (uA ["node"] ["k"] [1] jD.nd O O O (jx (aG qd)) (cA (bL z (j.mono ()) O (ak (qI (qw 2)) aq) (aB aP))) (λ_ _ _ _=>(cQ 0 (show (["node","k"]:List Str).Nodup from by decide +kernel))) aM (λ_ _ _ _=>cN) (λ_ _ _ _=>(cP (ak bT (ak (qw 0) (ak (wR () (qw 1)) aq))))))
  (aD (bK (bj bD bF (qw 3) (dz (ak (cP (ak bT (ak (wR () (qw 1)) (ak (bj bD bF bT (qI (qw 2))) aq)))) (ak (cP (ak bT (ak (wR () (qw 1)) (ak (bj bD bF bT (qI (qw 2))) aq)))) aq)))))))
  bH)
  (az (b8 (bN (cG j) cH (qI (qw 2)) bT (bA _))
  (az (cU 3 jD.nd (dz (ak (cP (ak bT (ak (wR () (qw 1)) (ak (bj bD bF bT (qI (qw 2))) aq)))) aq)))
  (az (fK eH O (RO O (VO B) (ak (jt bh D (j.mono ()) (qw 0) (ak (qI (qw 2)) aq) (gO (aB aP))) (ak (qI (qw 2)) aq))) (iW O (bM (cQ 4 jD.nd) (bM (cQ 5 jD.nd) gR))) (iY (bV aM (bV aM iU)))
  (aD (nM (pv 3) (bL q (j.mono ()) O (ak (qw 1) (ak (qw 4) (ak (dz (ak (qw 5) aq)) aq))) (aB (aB (aB aP)))))))
  (aD (gh (pv 3)))))
  bH)
  (aD (bK (dz aq)))))))]
theorem J0(F:wO K cS "body" "Plan.body" u6 ["self","name"]):zj P w K mg base cS:=
 F.ok JR λf q A i s H E j=>#[_,λ_ _=>O,(aD (bK (PE.imp (gA lX () (wW B) () (ak (Zi () (Lg PySem.F.slot_dict_get PySem.F.type_dict_get (Qj (Bj j)) (wg bh (bv _ ()) (qw 0)) (ak (cP (ak (qw 1) (ak Jg (ak aQ aq)))) (ak (dz aq) aq)))) aq)) (pP wK))))]
theorem Hn(F:cL K mg "leave_steps" oE ["plan","k"])(Q:zj P w K mg base cS)(z:tX P w K mg base cS)(D:jW P w K mg base cS)(N:tW P w K mg base):w5 P w K mg base:=
 F.ok rK λf W A q s H E j=>#[_,λ_ _=>O,(az (wI rK.nd O () (jt bh z (j.mono ()) (qw 0) (ak (qw 1) aq) (gO (aB aP))))
  (az (cU 3 rK.nd (jt bh Q (j.mono ()) (qw 0) (ak (qw 2) aq) (gO (aB aP))))
  (az (b8 (PW.pt (Ke (bN (Mp j) Mr (fP (qw 3) (v7 aQ) (λ_ _=>O)) (qw 1) (bA _)) (Fp (OG (Fo (jt bh D (j.mono ()) (qw 0) (ak (qw 3) aq) (gO (aB aP))) (λ_=>O))))))
  (aD (bK (dz aq)))
  bH)
  (aD (bK (gH ["source"] ["home"] [2] O (jx (aG oE)) (cA (bL N (j.mono ()) O (ak (qw 0) (ak (qw 1) aq)) (aB (aB aP)))) (λ_ _ _ _=>(cQ 0 (show (["source","home"]:List Str).Nodup from by decide +kernel))) aM (λ_ _ _ _=>cN) (λ_ _ _ _=>(cP (ak (qw 0) (ak (wR () (qw 1)) aq))))))))))]
theorem Yg(F:cL K mg "rules" rE ["program"])(N:Cw P w K mg base cS)(D:vf P w K mg base cS)(uk:zf P w K mg base)(q:vh P w K mg base)(W:zg P w K mg base)(z:w5 P w K mg base):M9 P w K mg base:=
 F.ok yJ λf fA A Q s H E j=>#[_,λ_ _=>O,(az (cU 1 yJ.nd (Sb bh N (j.mono ()) O (ak (qw 0) aq) (gO (aB aP))))
  (az (cU 2 yJ.nd (dz aq))
  (az (fK eH O (cA (R_ bh D (j.mono ()) (qw 1) O)) (PB yJ.nd O (Or.inr O)) aM
  (az (nM (pv 2) (gH ["kind","source"] ["k"] [3] O (jx (aG rE)) (cA (bL q (j.mono ()) O (ak (qw 1) (ak (qw 3) aq)) (aB (aB aP)))) (λ_ _ _ _=>(iW O (bM (cQ 0 (show (["kind","source","k"]:List Str).Nodup from by decide +kernel)) (bM (cQ 1 (show (["kind","source","k"]:List Str).Nodup from by decide +kernel)) gR)))) (iY (bV aM (bV aM iU))) (λ_ _ _ _=>cN) (λ_ _ _ _=>(cP (ak (qw 2) (ak aQ (ak (qw 0) (ak (qw 1) (ak (wR () (qw 2)) aq)))))))))
  (az (nM (pv 2) (gH ["kind","source","target"] ["k"] [3] O (jx (aG rE)) (cA (bL W (j.mono ()) O (ak (qw 1) (ak (qw 3) aq)) (aB (aB aP)))) (λ_ _ _ _=>(iW O (bM (cQ 0 (show (["kind","source","target","k"]:List Str).Nodup from by decide +kernel)) (bM (cQ 1 (show (["kind","source","target","k"]:List Str).Nodup from by decide +kernel)) (bM (cQ 2 (show (["kind","source","target","k"]:List Str).Nodup from by decide +kernel)) gR))))) (iY (bV aM (bV aM (bV aM iU)))) (λ_ _ _ _=>cN) (λ_ _ _ _=>(cP (ak (qw 3) (ak aQ (ak (qw 0) (ak (qw 1) (ak (qw 2) aq)))))))))
  (az (nM (pv 2) (gH ["source","target"] ["k"] [3] O (jx (aG rE)) (cA (bL uk (j.mono ()) O (ak (qw 1) (ak (qw 3) aq)) (aB (aB aP)))) (λ_ _ _ _=>(iW O (bM (cQ 0 (show (["source","target","k"]:List Str).Nodup from by decide +kernel)) (bM (cQ 1 (show (["source","target","k"]:List Str).Nodup from by decide +kernel)) gR)))) (iY (bV aM (bV aM iU))) (λ_ _ _ _=>cN) (λ_ _ _ _=>(cP (ak (qw 2) (ak aQ (ak bT (ak (qw 0) (ak (qw 1) aq)))))))))
  (aD (nM (pv 2) (gH ["source","target"] ["k"] [3] O (jx (aG rE)) (cA (bL z (j.mono ()) O (ak (qw 1) (ak (qw 3) aq)) (aB (aB aP)))) (λ_ _ _ _=>(iW O (bM (cQ 0 (show (["source","target","k"]:List Str).Nodup from by decide +kernel)) (bM (cQ 1 (show (["source","target","k"]:List Str).Nodup from by decide +kernel)) gR)))) (iY (bV aM (bV aM iU))) (λ_ _ _ _=>cN) (λ_ _ _ _=>(cP (ak (qw 2) (ak aQ (ak bT (ak (qw 0) (ak (qw 1) aq))))))))))))))
  (aD (bK (Gd (iQ (Ae O) () (DR B) (by kernel_rfl) (wz (gA (Iu O j.units) () (S7 B) (by kernel_rfl) (ak (qw 2) aq)) zK))))))))]
theorem Gj(F:cL K mg "_law_cell_at" rG ["_law_script","_law_k"]):vU P w K mg base:=
 F.ok Ge λf fA A outer s H E hr=>#[_,λ_ _=>rfl,(az (b8 (bN YS Vd (qw 1) (qL (eG B) (qw 0)) (bA _))
  (aD (bK (bj cg bQ (fP (qw 0) (qw 1) (λ_ _=>rfl)) aQ)))
  bH)
  (aD (bK aQ)))]
theorem J1(F:cL K mg "_law_names" mH ["_law_cell","_law_count"]):zm P w K mg base:=
 F.ok gq λf fA A outer s H E hr=>#[_,λ_ _=>rfl,(az (wI gq.nd rfl (Or.inr rfl) bT)
  (az (cU 3 gq.nd (dz aq))
  (az (b8 (bN (cG hr) cH (bj cg bQ (qw 0) aQ) aQ (bA _))
  (az (cU 4 gq.nd (Zh (rR PySem.F.plainAttrs_str PySem.F.slot_str_join PySem.F.type_str_join QF bT (ak (gH ["_law_j"] ["_law_letters","_law_cell"] [2,0] rfl (jx (aG mH)) (mz rfl (pD B) (ak aQ aq)) (λ_ _ _ _=>(cQ 0 (show (["_law_j","_law_letters","_law_cell"]:List Str).Nodup from by decide +kernel))) aM (λ_ _ _ _=>cN) (λ_ _ _ _=>(fP (qw 1) (bj cg bQ (bj bD bF (bj dM cZ (qw 2) aQ) (bj nP lG aQ (qw 0))) aQ) (λ_ _=>rfl)))) aq))))
  (az (fK eH rfl (mz rfl (pD B) (ak (qw 1) aq)) (cQ 5 gq.nd) aM
  (aD (yE (pv 3) (rB (qw 4) (eX (bj cg bQ (qw 5) aQ)) (eX (bj bD bF (bj bD bF (bj cg bQ (qw 5) aQ) aQ) (bj dM cZ (qw 5) aQ)))))))
  (aD (gh (pv 3)))))
  bH)
  (az (cU 6 gq.nd (fP (dz (ak aQ (ak aQ (ak aQ (ak aQ (ak aQ (ak aQ (ak aQ aq)))))))) (bj cg bQ (bj dM cZ (qw 0) aQ) aQ) (λ_ _=>rfl)))
  (az (cU 7 gq.nd (bj cg bQ (bj dM cZ (qw 0) aQ) (qw 6)))
  (az (fK eH rfl (mz rfl (pD B) (ak (qw 1) aq)) (cQ 5 gq.nd) aM
  (az (uA ["_law_j"] ["_law_letters","_law_cell"] [2,0] gq.nd rfl rfl rfl (jx (aG mH)) (mz rfl (pD B) (ak (qw 6) aq)) (λ_ _ _ _=>(cQ 0 (show (["_law_j","_law_letters","_law_cell"]:List Str).Nodup from by decide +kernel))) aM (λ_ _ _ _=>cN) (λ_ _ _ _=>(fP (qw 1) (bj cg bQ (bj bD bF (bj dM cZ (qw 2) (bj bD bF (qw 0) aQ)) (bj nP lG (qw 0) (qw 0))) aQ) (λ_ _=>rfl))))
  (az (Po (KH (fP (qw 2) (bj cg bQ (bj bD bF (bj dM cZ (qw 0) aQ) (qw 5)) aQ) (λ_ _=>rfl)) (Eo (pv 8) (qw 7) set_list)))
  (aD (yE (pv 3) (Zh (rR PySem.F.plainAttrs_str PySem.F.slot_str_join PySem.F.type_str_join QF bT (ak (qw 8) aq))))))))
  (aD (gh (pv 3)))))))))]
theorem Av(F:cL K mg "_law_expression" nO ["_law_cell","_law_own","_law_lists"]):sY P w K mg base:=
 F.ok cR λf fA A outer s H E hr=>#[_,λ_ _=>rfl,(az (cU 3 cR.nd (cP (ak bT (ak (bj cg bQ (bj nP lG (qw 0) aQ) (bj HC O0 aQ aQ)) aq))))
  (az (b8 (PW.pt (pO (bN pL mC (qL (eG B) (qw 1)) aQ (bA _)) (mX (bN pL mC (bj cg bQ (qw 0) aQ) aQ (bA _)))))
  (aD (cU 3 cR.nd (cP (ak bT (ak (fP (qw 1) (bj cg bQ (bj dM cZ (qw 0) aQ) (qL (eG B) (qw 1))) (λ_ _=>rfl)) aq)))))
  bH)
  (az (fK eH rfl (mz rfl (pD B) (ak (fP (dz (ak aQ (ak aQ (ak aQ (ak aQ (ak aQ (ak aQ (ak aQ (ak aQ aq))))))))) (bj cg bQ (bj dM cZ (qw 0) aQ) aQ) (λ_ _=>rfl)) aq)) (cQ 4 cR.nd) aM
  (az (cU 5 cR.nd (bj cg bQ (bj nP lG (bj cg bQ (bj nP lG (qw 0) (bj bD bF (qw 4) aQ)) aQ) aQ) aQ))
  (az (cU 6 cR.nd (cP (ak bT (ak (bj cg bQ (qw 5) aQ) aq))))
  (az (b8 (PW.pt (pO (bN pL mC (qL (eG B) (qw 1)) aQ (bA _)) (mX (bN pL mC (bj cg bQ (qw 5) aQ) aQ (bA _)))))
  (aD (cU 6 cR.nd (cP (ak bT (ak (fP (qw 1) (bj cg bQ (bj dM cZ (qw 5) aQ) (qL (eG B) (qw 1))) (λ_ _=>rfl)) aq)))))
  bH)
  (az (b8 (PW.pt (pO (bN pL mC (qL (eG B) (qw 2)) aQ (bA _)) (mX (bN (cG hr) cH (bj cg bQ (qw 5) aQ) aQ (bA _)))))
  (aD (cU 6 cR.nd (cP (ak bT (ak (fP (qw 2) (bj cg bQ (bj dM cZ (qw 5) aQ) (qL (eG B) (qw 2))) (λ_ _=>rfl)) (ak (qw 6) aq))))))
  bH)
  (az (cU 7 cR.nd (fP bT (bj cg bQ (bj dM cZ (qw 5) aQ) aQ) (λ_ _=>rfl)))
  (aD (b8 (PW.pt (pO (bN pL mC (qL (eG B) (qw 2)) aQ (bA _)) (mX (bN (cG hr) cH (bj cg bQ (bj dM cZ (qw 5) aQ) aQ) aQ (bA _)))))
  (aD (cU 3 cR.nd (cP (ak bT (ak (fP (qw 2) (bj cg bQ (bj dM cZ (qw 5) aQ) (qL (eG B) (qw 2))) (λ_ _=>rfl)) (ak (qw 3) aq))))))
  (aD (b8 (bN (cG hr) cH (bj cg bQ (bj dM cZ (qw 5) aQ) aQ) aQ (bA _))
  (aD (cU 3 cR.nd (cP (ak (qw 7) (ak (qw 3) (ak (qw 6) aq))))))
  (aD (cU 3 cR.nd (cP (ak (qw 7) (ak (qw 6) (ak (qw 3) aq))))))))))))))))
  (aD (gh (pv 3))))))]
theorem Pk(F:cL K mg "_law_row" uo ["_law_cell","_law_own","_law_lists","_law_heads_here","_law_whos"])(mS:sY P w K mg base):De P w K mg base:=
 F.ok iy λf fA A outer s H E hr=>#[_,λ_ _=>rfl,(az (cU 5 iy.nd (bL mS (hr.mono ()) rfl (ak (bj cg bQ (bj nP lG (qw 0) aQ) aQ) (ak (qw 1) (ak (qw 2) aq))) (aB (aB (aB aP)))))
  (az (cU 6 iy.nd (bL mS (hr.mono ()) rfl (ak (bj cg bQ (bj nP lG (qw 0) aQ) aQ) (ak (qw 1) (ak (qw 2) aq))) (aB (aB (aB aP)))))
  (az (cU 7 iy.nd (bj cg bQ (bj dM cZ (qw 0) aQ) aQ))
  (az (b8 (bN (cG hr) cH (bj cg bQ (bj dM cZ (qw 0) aQ) aQ) aQ (bA _))
  (aD (cU 7 iy.nd aQ))
  bH)
  (az (b8 (PW.pt (pO (bN (cG hr) cH (qw 7) aQ (bA _)) (mX (bN pL mC (qL (eG B) (qw 2)) aQ (bA _)))))
  (aD (bK (cP (ak bT (ak (fP (qw 2) (bj cg bQ (bj dM cZ (qw 0) aQ) (qL (eG B) (qw 2))) (λ_ _=>rfl)) (ak (qw 5) (ak (qw 6) aq)))))))
  bH)
  (az (b8 (bN (cG hr) cH (qw 7) aQ (bA _))
  (aD (bK (cP (ak bT (ak (qw 6) (ak (Fz (dz aq)) aq))))))
  bH)
  (az (b8 (PW.pt (Ke (bN (uR hr) qY (qw 7) (cP (ak aQ (ak aQ aq))) (by with_unfolding_all rfl)) (Fp (bN (cG hr) cH (qL (eG B) (qw 1)) aQ (bA _)))))
  (aD (bK (cP (ak bT (ak (qw 5) (ak (Fz (dz aq)) (ak (Fz (dz aq)) aq)))))))
  bH)
  (az (cU 8 iy.nd (fP (qw 1) (bj cg bQ (bj dM cZ (qw 0) aQ) (qL (eG B) (qw 1))) (λ_ _=>rfl)))
  (az (b8 (PW.pt (pO (bN (cG hr) cH (qw 7) aQ (bA _)) (mX (bN pL mC (qL (eG B) (qw 4)) aQ (bA _)))))
  (aD (bK (cP (ak bT (ak (qw 8) (ak (qw 5) (ak (fP (qw 4) (bj cg bQ (bj dM cZ (qw 0) aQ) (qL (eG B) (qw 4))) (λ_ _=>rfl)) aq)))))))
  bH)
  (az (b8 (PW.pt (pO (bN (uR hr) qY (qw 7) (cP (ak aQ (ak aQ aq))) (by with_unfolding_all rfl)) (mX (bN pL mC (qL (eG B) (qw 3)) aQ (bA _)))))
  (az (OS (fP (qw 3) (bj cg bQ (bj dM cZ (qw 0) aQ) (qL (eG B) (qw 3))) (λ_ _=>rfl)) (iW rfl (bM (cQ 9 iy.nd) (bM (cQ 10 iy.nd) gR))) (iY (bV aM (bV aM iU))))
  (az (uA ["_law_k"] ["_law_cell","_law_own","_law_lists"] [0,1,2] iy.nd rfl rfl rfl (jx (aG uo)) (mz rfl (pD B) (ak (qL (eG B) (qw 10)) aq)) (λ_ _ _ _=>(cQ 0 (show (["_law_k","_law_cell","_law_own","_law_lists"]:List Str).Nodup from by decide +kernel))) aM (λ_ _ _ _=>cN) (λ_ _ _ _=>(bL mS (hr.mono ()) rfl (ak (bj cg bQ (bj nP lG (qw 1) aQ) (bj T4 QD aQ (qw 0))) (ak (qw 2) (ak (qw 3) aq))) (aB (aB (aB aP))))))
  (aD (bK (cP (ak bT (ak (qw 8) (ak (qw 9) (ak (qw 11) aq)))))))))
  bH)
  (aD (bK (cP (ak bT (ak (qw 8) (ak (qw 6) aq))))))))))))))))]
theorem Nh(F:cL K mg "_law_rows" sE ["_law_cells","_law_own","_law_lists","_law_heads_here","_law_whos"])(VQ:De P w K mg base):Ao P w K mg base:=
 F.ok mK λf fA A outer s H E hr=>#[_,λ_ _=>rfl,(az (cU 5 mK.nd (Vg (dz aq)))
  (az (cU 6 mK.nd (Vg (dz (ak (Fz (dz (ak (qw 5) aq))) aq))))
  (az (fK eH rfl (cA (qw 0)) (cQ 7 mK.nd) aM
  (aD (b8 (PW.pt (pO (bN (cG hr) cH (bj cg bQ (qw 7) aQ) aQ (bA _)) (mX (bN pL mC (XH (iQ uJ rfl (eG B) nz (ak (qw 6) aq))) aQ (bA _)))))
  (az (G5 (Sr (rR jv PySem.F.slot_list_pop PySem.F.type_list_pop Wz (fP (qw 6) (v7 aQ) (λ_ _=>rfl)) (ak aQ aq))))
  (aD (b8 (bN (cG hr) cH (XH (iQ uJ rfl (eG B) nz (ak (fP (qw 6) (v7 aQ) (λ_ _=>rfl)) aq))) aQ (bA _))
  (aD (G5 (Sn (IZ jv PySem.F.slot_list_pop PySem.F.type_list_pop I_ (qw 6)))))
  bH)))
  (az (cU 8 mK.nd (bL VQ (hr.mono ()) rfl (ak (qw 7) (ak (qw 1) (ak (qw 2) (ak (qw 3) (ak (qw 4) aq))))) (aB (aB (aB (aB (aB aP)))))))
  (az (By (qK (rR jv nk no oY (qI (fP (qw 6) (v7 aQ) (λ_ _=>rfl))) (ak (qw 8) aq))))
  (aD (b8 (PW.pt (pO (bN (uR hr) qY (qI (qw 8)) (cP (ak bT (ak bT aq))) (by with_unfolding_all rfl)) (mX (bN YS Vd (XH (iQ uJ rfl (eG B) nz (ak (qw 6) aq))) aQ (bA _)))))
  (aD (By (qK (rR jv nk no oY (qw 6) (ak (Fz (gH ["_law_inner"] [] [] rfl (jx (aG sE)) (cA (uC (qw 8) (eX aQ) jX)) (λ_ _ _ _=>(cQ 0 (show (["_law_inner"]:List Str).Nodup from by decide +kernel))) aM (λ_ _ _ _=>cN) (λ_ _ _ _=>(qw 0)))) aq)))))
  bH)))))))
  (aD (bK (SA (qw 5)))))))]
theorem J2(F:cL K mg "_law_heads" uZ ["_law_cell","_law_names_here"]):zp P w K mg base:=
 F.ok oG λf fA A outer s H E hr=>#[_,λ_ _=>rfl,(az (cU 2 oG.nd (dz aq))
  (az (fK eH rfl (mz rfl (pD B) (ak (bj cg bQ (bj dM cZ (qw 0) aQ) aQ) aq)) (cQ 3 oG.nd) aM
  (az (cU 4 oG.nd (bj cg bQ (bj dM cZ (qw 0) (fP (dz (ak aQ (ak aQ (ak aQ (ak aQ aq))))) (qw 3) (λ_ _=>rfl))) aQ))
  (aD (yE (pv 2) (cP (ak (fP (qw 1) (bj bD bF aQ (qw 3)) (λ_ _=>rfl)) (ak (rB (qw 1) (eX (bj bD bF aQ (bj nP lG aQ (qw 3)))) (eX (bj bD bF (bj bD bF aQ (bj nP lG aQ (qw 3))) (qw 4)))) aq)))))))
  (aD (gh (pv 2)))))]
theorem Gk(F:cL K mg "_law_program" il ["_law_script"])(kN:vU P w K mg base)(ij:zp P w K mg base)(ba:zm P w K mg base)(lS:Ao P w K mg base):vV P w K mg base:=
 F.ok cD λf fA A outer s H E hr=>#[_,λ_ _=>rfl,(az (wI cD.nd rfl (Or.inr rfl) (bL kN (hr.mono ()) rfl (ak (qw 0) (ak aQ aq)) (aB (aB aP))))
  (az (cU 2 cD.nd (bL ba (hr.mono ()) rfl (ak (bL kN (hr.mono ()) rfl (ak (qw 0) (ak aQ aq)) (aB (aB aP))) (ak aQ aq)) (aB (aB aP))))
  (az (wI cD.nd rfl (Or.inr rfl) (dz (ak Jg (ak bT (ak bT aq)))))
  (az (cU 4 cD.nd (rB (qw 2) jX (eX (bj cg bQ (qw 1) aQ))))
  (az (cU 5 cD.nd (rB (qw 2) (eX aQ) (eX (bj bD bF aQ (bj cg bQ (bj dM cZ (qw 1) aQ) aQ)))))
  (az (cU 6 cD.nd (bL ij (hr.mono ()) rfl (ak (qw 1) (ak (qw 2) aq)) (aB (aB aP))))
  (az (uA ["_law_k","_law_name"] ["_law_ranks","_law_cell"] [3,1] cD.nd rfl rfl rfl (jx (aG il)) (Bx rfl (sO B) (ak (qw 4) aq)) (λ_ _ _ _=>(iW rfl (bM (cQ 0 (show (["_law_k","_law_name","_law_ranks","_law_cell"]:List Str).Nodup from by decide +kernel)) (bM (cQ 1 (show (["_law_k","_law_name","_law_ranks","_law_cell"]:List Str).Nodup from by decide +kernel)) gR)))) (iY (bV aM (bV aM iU))) (λ_ _ _ _=>cN) (λ_ _ _ _=>(cP (ak (qw 1) (ak aQ (ak (fP (qw 2) (bj cg bQ (bj bD bF (bj dM cZ (qw 3) aQ) (qw 0)) aQ) (λ_ _=>rfl)) aq))))))
  (az (cU 7 cD.nd (bj bD bF (qw 7) (gH ["_law_name"] ["_law_cell","_law_ranks"] [1,3] rfl (jx (aG il)) (cA (qw 5)) (λ_ _ _ _=>(cQ 0 (show (["_law_name","_law_cell","_law_ranks"]:List Str).Nodup from by decide +kernel))) aM (λ_ _ _ _=>cN) (λ_ _ _ _=>(cP (ak (qw 0) (ak (bj bD bF aQ (bj cg bQ (bj dM cZ (qw 1) aQ) aQ)) (ak (fP (qw 2) (bj cg bQ (bj dM cZ (qw 1) aQ) aQ) (λ_ _=>rfl)) aq))))))))
  (az (uA ["_law_number"] [] [] cD.nd rfl rfl rfl (jx (aG il)) (cA (rB (qw 0) (eX aQ) (eX aQ))) (λ_ _ _ _=>(cQ 0 (show (["_law_number"]:List Str).Nodup from by decide +kernel))) aM (λ_ _ _ _=>cN) (λ_ _ _ _=>(bj cg bQ (qw 0) aQ)))
  (az (cU 9 cD.nd (dz (ak bT aq)))
  (az (cU 10 cD.nd (dz aq))
  (az (fK eH rfl (Bx rfl (sO B) (ak (qw 6) aq)) (iW rfl (bM (cQ 11 cD.nd) (bM (cQ 12 cD.nd) gR))) (iY (bV aM (bV aM iU)))
  (az (cU 13 cD.nd (bL lS (hr.mono ()) rfl (ak (QM (qw 8) (eX (qw 11)) jX (eX (bj bD bF (qL (eG B) (qw 6)) aQ))) (ak (bj bD bF (bj bD bF (qw 4) (dz (ak (qI (qw 12)) aq))) (qI (qw 12))) (ak (qw 5) (ak (qw 6) (ak (qw 9) aq))))) (aB (aB (aB (aB (aB aP)))))))
  (aD (yE (pv 10) (cP (ak (qI (qw 12)) (ak (fP (qw 3) (bj cg bQ (bj bD bF (qw 1) (qw 11)) aQ) (λ_ _=>rfl)) (ak (gH ["_law_name"] [] [] rfl (jx (aG il)) (cA (qI (qw 12))) (λ_ _ _ _=>(cQ 0 (show (["_law_name"]:List Str).Nodup from by decide +kernel))) aM (λ_ _ _ _=>cN) (λ_ _ _ _=>(cP (ak (qw 0) (ak Jg aq))))) (ak (qw 13) aq)))))))))
  (az (cU 13 cD.nd (bL lS (hr.mono ()) rfl (ak (QM (qw 8) (eX (qL (eG B) (qw 6))) jX (eX (bj bD bF (qL (eG B) (qw 6)) aQ))) (ak (qw 4) (ak (qw 5) (ak (qw 6) (ak (qw 9) aq))))) (aB (aB (aB (aB (aB aP)))))))
  (aD (bK (cP (ak (qw 7) (ak (dz (ak (cP (ak bT (ak bT (ak bT aq)))) aq)) (ak (qw 10) (ak (qw 13) aq))))))))))))))))))))]
theorem Ho(F:cL K mg "_law_spends" lg ["_law_row_here"])(i_:bI P w K mg base "_law_spends" (0+n) ["_law_row_here"] (bW K 1 (gW n))):bI P w K mg base "_law_spends" (0+n+1) ["_law_row_here"] (bW K 1 (gW (n+1))):=
 F.ok Hc λf fA A outer s H E hr=>#[_,λ_ _=>rfl,(az (b8 (bN (uR hr) qY (qI (qw 0)) (cP (ak bT (ak bT aq))) ())
  (aD (bK (qc YH mq)))
  bH)
  (az (b8 (bN (Mp hr) Mr (qI (qw 0)) bT (bA _))
  (aD (bK (qc YH mq)))
  bH)
  (aD (bK (wJ (mD rfl) Fx (iQ (mD rfl) () (Ko B) (by kernel_rfl) (ak (gH ["_law_inner"] [] [] rfl (jx (aG lg)) (cA (bj bD bF (qI (qw 0)) (qI (qw 0)))) (λ_ _ _ _=>(cQ 0 (show (["_law_inner"]:List Str).Nodup from by decide +kernel))) aM (λ_ _ _ _=>cN) (λ_ _ _ _=>(bL i_ (hr.mono ()) rfl (ak (qw 0) aq) (aB aP)))) aq)))))))]
theorem vW(uu:cL K mg "_law_spends" lg ["_law_row_here"]):∀n:Nat,bI P w K mg base "_law_spends" (0+n) ["_law_row_here"] (bW K 1 (gW n))
 |0=>jY uu
 |n+1=>by let ih:=vW uu n;show Ho B bh bv bS uu ih
theorem Ni(F:cL K mg "_law_size" nY ["_law_rows_here"])(kq:bI P w K mg base "_law_size" (0+n) ["_law_rows_here"] (bW K 1 (dW n))):bI P w K mg base "_law_size" (0+n+1) ["_law_rows_here"] (bW K 1 (dW (n+1))):=
 F.ok qj λf fA A outer s H E hr=>#[_,λ_ _=>rfl,(az (cU 1 qj.nd (qL (eG B) (qw 0)))
  (az (fK eH rfl (cA (qw 0)) (cQ 2 qj.nd) aM
  (aD (b8 (bN (uR hr) qY (qI (qw 2)) (cP (ak bT (ak bT aq))) ())
  (aD (cU 1 qj.nd (bj bD bF (qw 1) (wJ (Le rfl) RY (iQ (Le rfl) () (VI B) (by kernel_rfl) (ak (gH ["_law_block"] [] [] rfl (jx (aG nY)) (cA (uC (qw 2) (eX aQ) jX)) (λ_ _ _ _=>(cQ 0 (show (["_law_block"]:List Str).Nodup from by decide +kernel))) aM (λ_ _ _ _=>cN) (λ_ _ _ _=>(bL kq (hr.mono ()) rfl (ak (qw 0) aq) (aB aP)))) aq))))))
  bH)))
  (aD (gh (pv 1)))))]
theorem zq(uS:cL K mg "_law_size" nY ["_law_rows_here"]):∀n:Nat,bI P w K mg base "_law_size" (0+n) ["_law_rows_here"] (bW K 1 (dW n))
 |0=>jY uS
 |n+1=>by let ih:=zq uS n;show Ni B bh bv bS uS ih
theorem Hq(F:cL K mg "_law_behind" lq ["_law_row_here","_law_k"])(u3:bI P w K mg base "_law_behind" (40+n) ["_law_row_here","_law_k"] (bW K 2 (eQ n)))(kq:vm P w K mg base)(i_:w6 P w K mg base):bI P w K mg base "_law_behind" (40+n+1) ["_law_row_here","_law_k"] (bW K 2 (eQ (n+1))):=
 F.ok jk λf fA A outer s H E hr=>#[_,λ_ _=>rfl,(az (cU 2 jk.nd (dz (ak (bj bD bF bT (PE.imp (gA uI () (S8 B) (by kernel_rfl) (ak (qw 1) aq)) (pP My))) aq)))
  (az (b8 (bN (cG hr) cH (qI (qw 0)) bT (bA _))
  (aD (yE (pv 2) (bj bD bF bT (qI (qw 0)))))
  bH)
  (az (b8 (bN (cG hr) cH (qI (qw 0)) bT (bA _))
  (az (cU 3 jk.nd (bj bD bF (qw 1) aQ))
  (aD (fK eH rfl (cA (uC (qw 0) (eX aQ) jX)) (cQ 4 jk.nd) aM
  (az (b8 (Fo (wJ (mD rfl) Fx (iQ (mD rfl) () (Ko B) (by kernel_rfl) (ak (gH ["_law_inner"] [] [] rfl (jx (aG lq)) (cA (qw 4)) (λ_ _ _ _=>(cQ 0 (show (["_law_inner"]:List Str).Nodup from by decide +kernel))) aM (λ_ _ _ _=>cN) (λ_ _ _ _=>(bL i_ (hr.mono ()) rfl (ak (qw 0) aq) (aB aP)))) aq))) (λ_=>rfl))
  (aD (cU 2 jk.nd (bj bD bF (qw 2) (bL u3 (hr.mono ()) rfl (ak (fP (qw 4) (v7 aQ) (λ_ _=>rfl)) (ak (bj bD bF (qw 3) (bL kq (hr.mono ()) rfl (ak (rB (qw 4) jX (eX (v7 aQ))) aq) (aB aP))) aq)) (aB (aB aP))))))
  bH)
  (aD (cU 3 jk.nd (bj bD bF (qw 3) (bL kq (hr.mono ()) rfl (ak (qw 4) aq) (aB aP)))))))))
  bH)
  (aD (gh (pv 2))))))]
theorem vX(u4:cL K mg "_law_behind" lq ["_law_row_here","_law_k"])(kq:vm P w K mg base)(i_:w6 P w K mg base):∀n:Nat,bI P w K mg base "_law_behind" (40+n) ["_law_row_here","_law_k"] (bW K 2 (eQ n))
 |0=>jY u4
 |n+1=>by let ih:=vX u4 kq i_ n;show Hq B bh bv bS u4 ih kq i_
theorem Nj(F:cL K mg "_law_read" sG ["_law_expression_here"])(ii:bI P w K mg base "_law_read" (0+n) ["_law_expression_here"] (bW K 1 (gK n))):bI P w K mg base "_law_read" (0+n+1) ["_law_expression_here"] (bW K 1 (gK (n+1))):=
 F.ok M7 λf fA A outer s H E hr=>#[_,λ_ _=>rfl,(az (b8 (bN (cG hr) cH (qI (qw 0)) bT (bA _))
  (aD (bK (dz aq)))
  bH)
  (az (b8 (bN (cG hr) cH (qI (qw 0)) bT (bA _))
  (aD (bK (dz (ak (qI (qw 0)) aq))))
  bH)
  (az (b8 (bN (cG hr) cH (qI (qw 0)) bT (bA _))
  (aD (bK (bj bD bF (dz (ak (qI (qw 0)) aq)) (bL ii (hr.mono ()) rfl (ak (qI (qw 0)) aq) (aB aP)))))
  bH)
  (aD (bK (bj bD bF (bL ii (hr.mono ()) rfl (ak (qI (qw 0)) aq) (aB aP)) (bL ii (hr.mono ()) rfl (ak (qI (qw 0)) aq) (aB aP))))))))]
theorem zr(i:cL K mg "_law_read" sG ["_law_expression_here"]):∀n:Nat,bI P w K mg base "_law_read" (0+n) ["_law_expression_here"] (bW K 1 (gK n))
 |0=>jY i
 |n+1=>by let j:=zr i n;show Nj B bh bv bS i j
theorem Pn(F:cL K mg "_law_all" uq ["_law_rows_here","_law_first","_law_told"])(kP:bI P w K mg base "_law_all" (0+n) ["_law_rows_here","_law_first","_law_told"] (bW K 3 (fL n))):bI P w K mg base "_law_all" (0+n+1) ["_law_rows_here","_law_first","_law_told"] (bW K 3 (fL (n+1))):=
 F.ok lK λf fA A outer s H E hr=>#[_,λ_ _=>rfl,(az (cU 3 lK.nd (qw 1))
  (az (fK eH rfl (cA (qw 0)) (cQ 4 lK.nd) aM
  (az (By (qK (rR jv nk no oY (qw 2) (ak (cP (ak (qw 3) (ak (qw 4) aq))) aq))))
  (az (cU 3 lK.nd (bj bD bF (qw 3) aQ))
  (aD (b8 (bN (uR hr) qY (qI (qw 4)) (cP (ak bT (ak bT aq))) ())
  (aD (fK eH rfl (cA (uC (qw 4) (eX aQ) jX)) (cQ 5 lK.nd) aM
  (aD (cU 3 lK.nd (bL kP (hr.mono ()) rfl (ak (qw 5) (ak (qw 3) (ak (qw 2) aq))) (aB (aB (aB aP))))))))
  bH)))))
  (aD (gh (pv 3)))))]
theorem Aw(i:cL K mg "_law_all" uq ["_law_rows_here","_law_first","_law_told"]):∀n:Nat,bI P w K mg base "_law_all" (0+n) ["_law_rows_here","_law_first","_law_told"] (bW K 3 (fL n))
 |0=>jY i
 |n+1=>by let j:=Aw i n;show Pn B bh bv bS i j
theorem Pq(F:cL K mg "_law_due" ur ["_law_k","_law_row_here"])(N:Hj P w K mg base)(q:Nb P w K mg base)(D:vm P w K mg base):Df P w K mg base:=
 F.ok sI λf Q A z s H E j=>#[_,λ_ _=>O,(az (uA ["_law_name"] ["_law_k"] [0] sI.nd O O O (jx (aG ur)) (cA (bL q (j.mono ()) O (ak (qI (qw 1)) aq) (aB aP))) (λ_ _ _ _=>(cQ 0 (show (["_law_name","_law_k"]:List Str).Nodup from by decide +kernel))) aM (λ_ _ _ _=>cN) (λ_ _ _ _=>(cP (ak (qw 1) (ak aQ (ak bT (ak (bj bD bF bT (qw 0)) (ak (bj bD bF bT (PE.imp (gA uI () (S8 B) (by kernel_rfl) (ak (qw 1) aq)) (pP My))) aq))))))))
  (az (cU 3 sI.nd (qI (qw 1)))
  (az (b8 (bN pL mC (qL (eG B) (qw 3)) aQ (bA _))
  (aD (fK eH O (cA (bL N (j.mono ()) O (ak (fP (qw 3) (v7 aQ) (λ_ _=>O)) (ak (bj bD bF (bj bD bF (qw 0) aQ) (bL D (j.mono ()) O (ak (rB (qw 3) jX (eX (v7 aQ))) aq) (aB aP))) aq)) (aB (aB aP)))) (cQ 4 sI.nd) aM
  (aD (yE (pv 2) (cP (ak (qw 0) (ak aQ (ak bT (ak (qw 4) (ak (bj bD bF bT (PE.imp (gA uI () (S8 B) (by kernel_rfl) (ak (qw 0) aq)) (pP My))) aq))))))))))
  bH)
  (aD (gh (pv 2))))))]
theorem VS(F:vD K "law" "law" vP f fd)(z:O9 P w K mg base)(D:Df P w K mg base)(q:vV P w K mg base)(N:M9 P w K mg base):oK P w K mg base qD 87 f fd ["_law_script"] (bW K 1 S6):=
 vD.okP F jG λW A Q s H E j=>#[_,λ_ _=>O,(az (cU 1 jG.nd (bL q (j.mono ()) O (ak (qw 0) aq) (aB aP)))
  (az (cU 2 jG.nd (dz aq))
  (az (cU 3 jG.nd aQ)
  (az (fK eH O (cA (qI (qw 1))) (iW O (bM (cQ 4 jG.nd) (bM (cQ 5 jG.nd) (bM (cQ 6 jG.nd) (bM (cQ 7 jG.nd) gR))))) (iY (bV aM (bV aM (bV aM (bV aM iU)))))
  (aD (QJ (QQ (cU 3 jG.nd (bL z (j.mono ()) O (ak (qw 7) (ak (qw 3) (ak (qw 2) aq))) (aB (aB (aB aP)))))))))
  (az (QJ (QQ (G5 (bL z (j.mono ()) O (ak (qI (qw 1)) (ak (qw 3) (ak (qw 2) aq))) (aB (aB (aB aP)))))))
  (az (cU 8 jG.nd (dz aq))
  (az (fK eH O (cA (qw 2)) (iW O (bM (cQ 3 jG.nd) (bM (cQ 9 jG.nd) gR))) (iY (bV aM (bV aM iU)))
  (aD (b8 (bN (cG j) cH (qI (qw 9)) bT (bA _))
  (aD (cU 8 jG.nd (bj bD bF (qw 8) (bL D (j.mono ()) O (ak (qw 3) (ak (qw 9) aq)) (aB (aB aP))))))
  bH)))
  (az (cU 10 jG.nd (bL N (j.mono ()) O (ak (qw 1) aq) (aB aP)))
  (aD (bK (OK (Xk (cG j) cH (gH ["_law_rule"] [] [] O (jx (aG vP)) (cA (qw 10)) (λ_ _ _ _=>(cQ 0 (show (["_law_rule"]:List Str).Nodup from by decide +kernel))) aM (λ_ _ _ _=>(Xr (bN (cG j) cH (qI (qw 0)) bT (bA _)))) (λ_ _ _ _=>(qw 0))) (Gd (iQ (Ae O) () (DR B) (by kernel_rfl) (wz (gA (Iu O j.units) () (S7 B) (by kernel_rfl) (ak (qw 8) aq)) zK))) (bA _)) (OH (Xk (cG j) cH (qw 1) (bL q (j.mono ()) O (ak (qw 0) aq) (aB aP)) (bA _))))))))))))))]
end
mutual
def vo:PV->Nat
 |ZB ps=>wu ps+1
 |_=>1
def wu:List PV->Nat
 |[]=>0
 |p::ps=>max (vo p) (wu ps)
end
def fl(p:PV):Prop:=di p=G/\vo p<=20
def fls(ps:List PV):Prop:=ik ps=G/\wu ps<=20
def iR(h:fl p)(t:fls ps):fls (p::ps):=by
 let(h1,h2):=h;let(t1,t2):=t;show#[?_,?_]
 . show (di p&&ik ps)=true;rw[h1,t1];rfl
 . show max (vo p) (wu ps)<=20;lia
def uD:fls []:=#[rfl,d6 _]
def iZ:fl (.str x):=#[rfl,by show 1<=20;decide]
def Nk:fl .non:=#[rfl,by show 1<=20;decide]
noncomputable abbrev zI (x:Int):Option Lc:=!(Zp (ZI x))
abbrev zT(x:Str):Option Lc:=!(Zp (ZH x))
abbrev zL(x:List PV):Option Lc:=!(Zp (R x))
abbrev zO(x:List PV):Option Lc:=!(Zs (R x))
noncomputable abbrev zS (x:PV):Option Lc:=!(Zp x)
mutual
inductive ag where
 |leaf (w:Str) (ps:List PV)
 |call (b:PV) (n:Str) (as:List PV)
 |wh (e:PV) (b:Rows)
 |iff (e:PV) (b c:Rows)
inductive Rows where
 |nil
 |cons (r:ag) (rs:Rows)
end
mutual
noncomputable def ag.pv:ag->PV
 |.leaf w ps=>ZB (ZH w::ps)
 |.call b n as=>ZB [ZH "call",b,ZH n,R as]
 |.wh e b=>ZB [ZH "while",e,R b.pvs]
 |.iff e b c=>ZB [ZH "if",e,R b.pvs,R c.pvs]
noncomputable def Rows.pvs:Rows->List PV
 |.nil=>[]
 |.cons r rs=>r.pv::rs.pvs
end
mutual
def ag.dep:ag->Nat
 |.leaf _ _=>1
 |.call _ _ _=>1
 |.wh _ b=>b.dep+1
 |.iff _ b c=>max b.dep c.dep+1
def Rows.dep:Rows->Nat
 |.nil=>1
 |.cons r rs=>max (r.dep+1) rs.dep
end
theorem Rows.dep_pos:∀b:Rows,1<=b.dep
 |.nil=>br _
 |.cons r rs=>d4 (Rows.dep_pos rs) (Nat.le_max_right _ _)
def f8(w:Str):Prop:=(w== "if")=M/\(w== "while")=M/\(w== "call")=M
def EC(s:Str):Prop:=(s== "num")=M/\(s== "box")=M/\(s== "@")=M
inductive Rd:Nat->PV->List Str->Prop
 |num (n:Nat) (i:Int):Rd (n+1) (.tup [.str "num",.int i]) []
 |box (n:Nat) (x:Str):Rd (n+1) (.tup [.str "box",.str x]) [x]
 |at_ {n:Nat} {p:PV} {a:List Str} (x:Str) (h:Rd n p a):Rd (n+1) (.tup [.str "@",.str x,p]) (x::a)
 |op {n:Nat} {s:Str} {p q:PV} {a b:List Str} (hs:EC s) (h:Rd n p a) (g:Rd n q b):Rd (n+1) (.tup [.str s,p,q]) (a++b)
def Rd.mono(h:Rd n p a):n<=m->Rd m p a:=by
 induction h generalizing m with
 |num n i=>intro l;obtain⟨k,rfl⟩:∃k,m=k+1:=#[m-1,()];show .num k i
 |box n x=>intro l;obtain⟨k,rfl⟩:∃k,m=k+1:=#[m-1,()];show .box k x
 |at_ x _ ih=>intro l;obtain⟨k,rfl⟩:∃k,m=k+1:=#[m-1,()];show .at_ x (ih ())
 |op hs _ _ ih jh=>intro l;obtain⟨k,rfl⟩:∃k,m=k+1:=#[m-1,()];show .op hs (ih ()) (jh ())
def Rd.flat(h:Rd n p a):di p=G/\vo p<=n+1:=by
 induction h with
 |num n i=>show#[O,by show 1+1<=_;lia]
 |box n x=>show#[O,by show 1+1<=_;lia]
 |at_ x _ j=>show#[by simp[di,ik,j.1],by simp only[vo,wu];lia]
 |op hs _ _ j q=>show#[by simp[di,ik,j.1,q.1],by simp only[vo,wu];lia]
abbrev Sh(a:List Str):Prop:=∀x∈a,-x<=100
def XG(p:PV):Prop:=∃n a,Rd n p a/\n<=15/\-a<=9/\Sh a
theorem XG.fl(h:XG p):fl p:=by let(n,a,h,l,_):=h;show#[h.flat.1,by have:=h.flat.2;lia]
theorem Gm:∀{i:List PV},(∀a∈i,XG a)->fls i
 |[]=>λ_=>uD
 |a::i=>λh=>iR (h a be).fl (Gm λb j=>h b (cw _ j))
inductive Lf:Str->List PV->Prop
 |set_ {x:Str} {e:PV} (h:-x<=100) (g:XG e):Lf "set" [.str x,e]
 |put {x:Str} {e f:PV} (h:-x<=100) (g:XG e) (g2:XG f):Lf "put" [.str x,e,f]
 |out {x:Str} {e:PV} (y:Str) (h:-x<=100) (g:XG e):Lf "out" [.str x,e,.str y]
theorem Lf.fls(h:Lf w ps):fls ps:=by
 cases h with
 |set_ _ g=>show iR iZ (iR g.fl uD)
 |put _ g j=>show iR iZ (iR g.fl (iR j.fl uD))
 |out y _ g=>show iR iZ (iR g.fl (iR iZ uD))
class FN where
 fn:Str->Prop
section
variable [HK][FN]
mutual
def ag.ok:ag->Prop
 |.leaf w ps=>f8 w/\Lf w ps
 |.call b n as=>(∃x:Str,b=ZH x/\-x<=100)/\-n<=1000/\(∀a∈as,XG a)/\-as<=26/\FN.fn n
 |.wh e b=>XG e/\b.ok
 |.iff e b c=>XG e/\b.ok/\c.ok
def Rows.ok:Rows->Prop
 |.nil=>True
 |.cons r rs=>r.ok/\rs.ok
end
mutual
noncomputable def ag.cnt:ag->Nat
 |.leaf _ _=>1
 |.call _ _ _=>1
 |.wh _ b=>b.cnt+1
 |.iff _ b c=>b.cnt+c.cnt+1
noncomputable def Rows.cnt:Rows->Nat
 |.nil=>0
 |.cons r rs=>r.cnt+rs.cnt
end
def ag.cnt_pos:∀r:ag,1<=r.cnt:=λr=>by cases r<;>simp[ag.cnt]
theorem Rows.pvs_len:∀rs:Rows,-rs.pvs<=rs.cnt
 |.nil=>br _
 |.cons r rs=>by have:=Rows.pvs_len rs;let h:=r.cnt_pos;simp only[Rows.pvs,bi,Rows.cnt];lia
def bw(h:f Y=!(Zp (ZH a),Y1)):tT (au cK f (bg b)) aY Y=!(a==b,Y1):=jU (bC h O O) O
def bG(h:c Y=!(b,Y1))(i:b=M):aF (cC c f bR) g Y=g Y1:=by subst i;show G7 ((lU h).trans O)
def d7(h:c Y=!(b,Y1))(i:b=G)(h2:f Y1=!(.rt r Y2)):aF (cC c f bR) g Y=!(.rt r Y2):=by subst i;show G8 ((lR h).trans h2)
def nA(h:c Y=!(b,Y1))(i:b=G)(h2:f Y1=!(.nx Y2)):aF (cC c f bR) g Y=g Y2:=by subst i;show G7 ((lR h).trans h2)
def iE{t:List PV}:fO (p::t) 0=!p:=by let(x,h,h2):=uT (l:=p::t) (i:=0) () (by simp only[bi];lia);rw[h,<-h2];rfl
abbrev E1(p:PV)(mu:Mu):Ev:=#[[zS p],mu]
def w0:aJ (aa 0) (af 0) (E1 (ZB (ZH w::ps)) mu)=!(Zp (ZH w),E1 (ZB (ZH w::ps)) mu):=
 dG O O O O (λn h=>by cases h) (by show (fO (PV.str w::ps) 0).map _=_;rw[iE];rfl)
def fY(h1:b x Y=!Y1)(h2:te Y1=!(l,Y2))(j:-acc<100000)(i:dF b bB te xs Y2 (acc++[l.pv])=ZN):dF b bB te (x::xs) Y acc=ZN:=by show (b x Y).bind _=ZN;rw[h1,bq];show (te Y1).bind _=ZN;rw[h2,bq,aw j];show i
abbrev ED(n:Nat):EF:=aN (kE n) (aj (aa 0) ao)
def Nm{rs:Rows}(h:dF (aC 0) bB (ED n) rs.pvs #[[J],mu] []=!([]++rs.pvs,mu)):fU (n+1) [R rs.pvs] mu=!(Zs (R rs.pvs),mu):=
 aO (cT (eF () h))
mutual
theorem Jp:∀(r:ag)(f:Nat)(mu:Mu),r.ok->r.dep<=f->r.cnt<=1000->kE f [r.pv] mu=!(Zp r.pv,mu)
 |.leaf w ps=>λf mu ok j q=>by obtain⟨m,rfl⟩:∃m,f=m+1:=#[f-1,by simp only[ag.dep]at j;lia];let((h1,h2,N),_):=ok;show aO (Y:=#[[J],mu]) ?_;show(bG (bw w0) h1).trans ((bG (bw w0) h2).trans ((bG (bw w0) N).trans O))
 |.call b n i=>λf mu ok j q=>by obtain⟨m,rfl⟩:∃m,f=m+1:=#[f-1,by simp only[ag.dep]at j;lia];show aO (Y:=E1 (ag.call b n i).pv mu) ?_;show(bG (bw w0) ()).trans ((bG (bw w0) ()).trans (d7 (bw w0) () (cT (dm (ls:=[Zp (ZH "call"),Zp b,Zp (ZH n),Zs (R i)]) ?_ O O))));show aA (Y1:=E1 (ag.call b n i).pv mu) O (aA (Y1:=E1 (ag.call b n i).pv mu) O (aA (Y1:=E1 (ag.call b n i).pv mu) O (aA (Y1:=E1 (ag.call b n i).pv mu) (jN (ls:=[Zp (R i)]) (Y1:=E1 (ag.call b n i).pv mu) (aA (Y1:=E1 (ag.call b n i).pv mu) O O) O O) O)))
 |.wh e b=>λf mu ok j q=>by
  simp only[ag.dep]at j;simp only[ag.cnt]at q;obtain⟨m,rfl⟩:∃m,f=m+1:=#[f-1,()];have W:1<=b.dep:=Rows.dep_pos b;obtain⟨m,rfl⟩:∃k,m=k+1:=#[m-1,()];let F:=Nm (vY b m mu J [] ok.2 () (by simp only[cv];lia));let P:_:=(ag.wh e b).pv;have z:aN (fU (m+1)) i9 (E1 P mu)=!(Zs (R b.pvs),E1 P mu):=
   aR (ls:=[Zp (R b.pvs)]) (ps:=[R b.pvs]) (Y1:=E1 P mu) O O O O F
  show aO (Y:=E1 P mu) ?_;show(bG (bw w0) ()).trans (d7 (bw w0) () (cT (dm (ls:=[Zp (ZH "while"),Zp e,Zs (R b.pvs)]) (Y1:=E1 P mu) (aA (Y1:=E1 P mu) O (aA (Y1:=E1 P mu) O (aA z O))) O O)))
 |.iff e b c=>λf mu ok j q=>by
  simp only[ag.dep]at j;simp only[ag.cnt]at q;obtain⟨m,rfl⟩:∃m,f=m+1:=#[f-1,()];have W:1<=b.dep:=Rows.dep_pos b;obtain⟨m,rfl⟩:∃k,m=k+1:=#[m-1,()];let F:=Nm (vY b m mu J [] ok.2.1 () (by simp only[cv];lia));let D:=Nm (vY c m mu J [] ok.2.2 () (by simp only[cv];lia));let P:_:=(ag.iff e b c).pv;have z:aN (fU (m+1)) i9 (E1 P mu)=!(Zs (R b.pvs),E1 P mu):=
   aR (ls:=[Zp (R b.pvs)]) (ps:=[R b.pvs]) (Y1:=E1 P mu) O O O O F
  have Q:aN (fU (m+1)) AD (E1 P mu)=!(Zs (R c.pvs),E1 P mu):=
   aR (ls:=[Zp (R c.pvs)]) (ps:=[R c.pvs]) (Y1:=E1 P mu) O O O O D
  show aO (Y:=E1 P mu) ?_;show d7 (bw w0) () (cT (dm (ls:=[Zp (ZH "if"),Zp e,Zs (R b.pvs),Zs (R c.pvs)]) (aA (Y1:=E1 P mu) O (aA (Y1:=E1 P mu) O (aA z (aA Q O)))) O O))
theorem vY:∀(rs:Rows)(n:Nat)(mu:Mu)(o:Option Lc)(acc:List PV),rs.ok->rs.dep<=n+1->-acc+rs.cnt<=1000->dF (aC 0) bB (ED n) rs.pvs #[[o],mu] acc=!(acc++rs.pvs,mu)
 |.nil=>λn mu o acc _ _ _=>by simp[Rows.pvs,dF]
 |.cons r rs=>λn mu o acc ok j q=>by simp only[Rows.dep]at j;simp only[Rows.cnt]at q;let h1:=r.cnt_pos;let z:=Jp r n mu ok.1 () ();let i:=vY rs n mu (zS r.pv) (acc++[r.pv]) ok.2 () (by rw[bX];simp only[bi,cv];lia);show fY (Y1:=E1 r.pv mu) (Y2:=E1 r.pv mu) (l:=Zp r.pv) O (aR (ls:=[Zp r.pv]) (ps:=[r.pv]) (Y1:=E1 r.pv mu) O O O O z) () (i.trans ?_);simp only[Rows.pvs,cx];rfl
end
structure b9 where
 w:Str
 ab:PV
 bl:Int
 r:ag
def b9.pv(e:b9):PV:=ZB [ZH e.w,e.ab,ZI e.bl,e.r.pv]
mutual
noncomputable def ag.es:ag->Str->PV->Int->Nat->List b9
 |.leaf x ps,w,ab,bl,_=>[#[w,ab,bl,.leaf x ps]]
 |.call b n as,w,ab,bl,_=>[#[w,ab,bl,.call b n as]]
 |.wh e b,w,ab,bl,k=>#[w,ab,bl,.wh e b]::b.es w (ZI k) 0 (k+1)
 |.iff e b c,w,ab,bl,k=>#[w,ab,bl,.iff e b c]::(b.es w (ZI k) 0 (k+1)++c.es w (ZI k) 1 (k+1+b.cnt))
noncomputable def Rows.es:Rows->Str->PV->Int->Nat->List b9
 |.nil,_,_,_,_=>[]
 |.cons r rs,w,ab,bl,k=>r.es w ab bl k++rs.es w ab bl (k+r.cnt)
end
mutual
theorem ag.es_len:∀(r:ag)(w:Str)(ab:PV)(bl:Int)(k:Nat),-(r.es w ab bl k)=r.cnt
 |.leaf _ _=>λw ab bl k=>rfl
 |.call _ _ _=>λw ab bl k=>rfl
 |.wh e b=>λw ab bl k=>by simp[ag.es,ag.cnt,Rows.es_len b]
 |.iff e b c=>λw ab bl k=>by simp[ag.es,ag.cnt,Rows.es_len b,Rows.es_len c]
theorem Rows.es_len:∀(rs:Rows)(w:Str)(ab:PV)(bl:Int)(k:Nat),-(rs.es w ab bl k)=rs.cnt
 |.nil=>λw ab bl k=>rfl
 |.cons r rs=>λw ab bl k=>by simp[Rows.es,Rows.cnt,ag.es_len r,Rows.es_len rs]
end
abbrev c_(l:List b9):List PV:=l.map b9.pv
def Hr(a b:List b9):c_ (a++b)=c_ a++c_ b:=cy
def nC(a:List b9):-(c_ a)=-a:=bo _
def xg{j q:EF}{Y Y1 Y2:Ev}{o y:Lc}{n:Nat}{ws0 ws:List PV}{p:PV}{mu:Mu}(h1:j Y=!(o,Y1))(F:o.pv=ZA n)(N:Y1.mu[n]?=!(!(R ws0)))(h2:q Y1=!(y,Y2))(z:y.pv=p)(i:Y2.mu[n]?=!(!(R ws)))(D:-ws<100000)(e:Y2.mu.set n (!(R (ws++[p])))=mu):ou j q Y=!(.nx #[Y2.vs,mu]):=by unfold ou;rw[h1,bq,F];dsimp only;rw[N];dsimp only;rw[h2,bq,i];dsimp only;rw[aw D,z,e]
def gw{b:BF}{body:SF}{x:PV}{xs:List PV}{Y Y1 Y2:Ev}{ZN:Option Fl}(h1:b x Y=!Y1)(h2:body Y1=!(.nx Y2))(i:eN b body xs Y2=ZN):eN b body (x::xs) Y=ZN:=by show (b x Y).bind _=_;rw[h1,bq,h2,bq];show i
def S9{b:BF}{body:SF}{x:PV}{Y Y1 Y2:Ev}(h1:b x Y=!Y1)(h2:body Y1=!(.nx Y2)):eN b body [x] Y=!(.nx Y2):=gw h1 h2 O
def Np{b:BF}{body:SF}{x y:PV}{Y Y1 Y2 Y3 ZD:Ev}(h1:b x Y=!Y1)(h2:body Y1=!(.nx Y2))(i:b y Y2=!Y3)(j:body Y3=!(.nx ZD)):eN b body [x,y] Y=!(.nx ZD):=gw h1 h2 (S9 i j)
def sS{w:Str}{ps:List PV}{mu:Mu}(h1:(w== "if")=M)(h2:(w== "while")=M):gJ [ZB (ZH w::ps)] mu=!(Zs (R []),mu):=
 aO (Y:=E1 (ZB (ZH w::ps)) mu) ((bG (bw w0) h1).trans ((bG (bw w0) h2).trans O))
def Jq{e p:PV}{mu:Mu}:gJ [ZB [ZH "while",e,p]] mu=!(Zs (R [p]),mu):=
 aO (Y:=E1 (ZB [ZH "while",e,p]) mu) ((bG (bw w0) ()).trans (d7 (bw w0) () O))
def Jr{e p q:PV}{mu:Mu}:gJ [ZB [ZH "if",e,p,q]] mu=!(Zs (R [p,q]),mu):=
 aO (Y:=E1 (ZB [ZH "if",e,p,q]) mu) (d7 (bw w0) () O)
abbrev LE(w:Str)(ab:PV)(bl:Int)(X:PV)(st:Nat)(acc:List PV)(o6 o7 o8 o9:Option Lc)(mu:Mu):Ev:=#[[zT w,zS ab,zI bl,zS X,zI st,zO acc,o6,o7,o8,o9],mu]
abbrev u7(n:Nat):SF:=gb 5 (aN (gP n) AM)
abbrev Zj(n:Nat):SF:=aF AK
 (aF AL
 (fX (uU (aN gJ (aj (aa 6) ao))) tf (u7 n)))
def Nq{n:Nat}{w:Str}{ab X:PV}{bl pl:Int}{st k:Nat}{acc qs:List PV}{o6:Option Lc}{p:PV}{mu:Mu}(h:gP n [ZH w,ZI k,ZI pl,p,ZI ((st+-acc:Nat):Int)] mu=!(Zs (R qs),mu))(j:-acc+-qs<=100000):
 u7 n (LE w ab bl X st acc o6 (zI k) (zI pl) (zS p) mu)=!(.nx (LE w ab bl X st (acc++qs) o6 (zI k) (zI pl) (zS p) mu)):=
 jZ (i:=5) (ws0:=acc) (ws:=acc) (ps:=qs) (l:=Zs (R qs)) (Y1:=LE w ab bl X st acc o6 (zI k) (zI pl) (zS p) mu) O
  (aR (ls:=[Zp (ZH w),Zp (ZI k),Zp (ZI pl),Zp p,Zp (ZI ((st:Int)+-acc))]) (ps:=[ZH w,ZI k,ZI pl,p,ZI ((st+-acc:Nat):Int)]) (Y1:=LE w ab bl X st acc o6 (zI k) (zI pl) (zS p) mu) O (by simp[Lc.pv]) O O h) O O j O
abbrev en(w:Str)(ab:PV)(bl:Int)(r:ag):PV:=ZB [ZH w,ab,ZI bl,r.pv]
def Gn{n:Nat}{w:Str}{ab X:PV}{bl:Int}{st:Nat}{acc:List PV}{o7 o8 j:Option Lc}{mu:Mu}{r:ag}{ZN:Option Fl}{bs:List PV}(ok:r.ok)(q:r.dep<=40)(F:r.cnt<=1000)(N:-acc<1000)(D:∀mu,gJ [r.pv] mu=!(Zs (R bs),mu))
 (h:eN tf (u7 n) (ue bs) (LE w ab bl X st (acc++[en w ab bl r]) (zS r.pv) (zI ((st+-acc:Nat):Int)) o8 j mu)=ZN):
 Zj n (LE w ab bl X st acc (zS r.pv) o7 o8 j mu)=ZN:=by
 let z:=Jp r 40 mu ok q F;let E:_:=LE w ab bl X st acc (zS r.pv) (zI ((st+-acc:Nat):Int)) o8 j mu;show aH (Y':=E) (bu (l:=Zp (ZI ((st:Int)+-acc))) (Y1:=LE w ab bl X st acc (zS r.pv) o7 o8 j mu) O O (by show _=LE w ab bl X st acc (zS r.pv) (zI ((st+-acc:Nat):Int)) o8 j mu;rw[Int.natCast_add];rfl)) ?_;show aH (Y':=LE w ab bl X st (acc++[en w ab bl r]) (zS r.pv) (zI ((st+-acc:Nat):Int)) o8 j mu) ?_ ?_
 . show pR (i:=5) (ws0:=acc) (ws:=acc) (p:=en w ab bl r) (l:=Zp (en w ab bl r)) (Y1:=E) O
    (dm (ls:=[Zp (ZH w),Zp ab,Zp (ZI bl),Zp r.pv]) (aA (Y1:=E) O (aA (Y1:=E) O (aA (Y1:=E) O (aA (aR (ls:=[Zp r.pv]) (ps:=[r.pv]) (Y1:=E) O O O O z) O)))) O O) O O () O
 . show eO (xs:=ue bs) (Y1:=LE w ab bl X st (acc++[en w ab bl r]) (zS r.pv) (zI ((st+-acc:Nat):Int)) o8 j mu) ?_ h;unfold uU;rw[aR (ls:=[Zp r.pv]) (ps:=[r.pv]) (Y1:=LE w ab bl X st (acc++[en w ab bl r]) (zS r.pv) (zI ((st+-acc:Nat):Int)) o8 j mu) O O O O (D _),bq];rfl
def Kp{rs:Rows}{n:Nat}{w:Str}{ab:PV}{bl:Int}{st:Nat}{mu:Mu}
 (h:∃o6 o7 o8 i,eN (aC 6) (Zj n) rs.pvs (LE w ab bl (R rs.pvs) st [] J J J J mu)=!(.nx (LE w ab bl (R rs.pvs) st ([]++c_ (rs.es w ab bl (st+0))) o6 o7 o8 i mu))):
 gP (n+1) [ZH w,ab,ZI bl,R rs.pvs,ZI st] mu=!(Zs (R (c_ (rs.es w ab bl st))),mu):=by
 let(o6,o7,o8,i,h):=h;show aO (Y:=#[[zT w,zS ab,zI bl,zL rs.pvs,zI st,J,o6,o7,o8,i],mu]) ?_;show aH (Y':=LE w ab bl (R rs.pvs) st [] J J J J mu) O (aH (eO (xs:=rs.pvs) (Y1:=LE w ab bl (R rs.pvs) st [] J J J J mu) (dC (l:=Zp (R rs.pvs)) O O) h) O)
mutual
theorem VT:∀(r:ag)(n:Nat)(w:Str)(ab:PV)(bl:Int)(X:PV)(st:Nat)(acc:List PV)(o7 o8 D:Option Lc)(mu:Mu),r.ok->r.dep<=n->r.dep<=40->-acc+r.cnt<=1000->
 ∃p7 p8 p9,Zj n (LE w ab bl X st acc (zS r.pv) o7 o8 D mu)=!(.nx (LE w ab bl X st (acc++c_ (r.es w ab bl (st+-acc))) (zS r.pv) p7 p8 p9 mu))
 |.leaf x ps=>λn w ab bl X st acc o7 o8 D mu ok W q F=>by simp only[ag.cnt]at F;show#[zI ((st+-acc:Nat):Int),o8,D,Gn (r:=.leaf x ps) ok q (by simp only[ag.cnt];lia) () (λmu=>sS ok.1.1 ok.1.2.1) O]
 |.call b m as=>λn w ab bl X st acc o7 o8 D mu ok W q F=>by simp only[ag.cnt]at F;show#[zI ((st+-acc:Nat):Int),o8,D,Gn (r:=.call b m as) ok q (by simp only[ag.cnt];lia) () (λmu=>sS () ()) O]
 |.wh e b=>λn w ab bl X st acc o7 o8 D mu ok W q F=>by
  simp only[ag.cnt]at F;simp only[ag.dep]at W q;let hb:=Rows.dep_pos b;obtain⟨m,rfl⟩:∃m,n=m+1:=#[n-1,()];let r:ag:=.wh e b;let k:_:=st+-acc;let i:_:=acc++[en w ab bl r];have z:-i=-acc+1:=by simp[i]
  let ih:=Kp (n:=m) (w:=w) (ab:=ZI (k:Nat)) (bl:=0) (st:=st+-i) (mu:=mu) (rs:=b) (xj b m w (ZI (k:Nat)) 0 (R b.pvs) (st+-i) [] J J J J mu ok.2 () () (by simp only[cv];lia));have he:-(c_ (b.es w (ZI (k:Nat)) 0 (st+i.length)))=b.cnt:=by rw[nC,Rows.es_len]
  let N:=Nq (n:=m+1) (w:=w) (ab:=ab) (X:=X) (bl:=bl) (pl:=0) (st:=st) (k:=k) (acc:=i) (o6:=zS r.pv) (p:=R b.pvs) ih (by rw[he,z];lia);show#[zI (k:Nat),zI 0,zL b.pvs,Gn (r:=.wh e b) ok (by simp only[ag.dep];lia) (by simp only[ag.cnt];lia) () (λmu=>Jq) ((S9 (Y1:=LE w ab bl X st i (zS r.pv) (zI (k:Nat)) (zI 0) (zL b.pvs) mu) O N).trans ?_)];have ek:st+-i=k+1:=by rw[z];lia
  rw[ek];simp only[ag.es,i,cx,js,eK,c_,dP];rfl
 |.iff e b c=>λn w ab bl X st acc o7 o8 D mu ok W q F=>by
  simp only[ag.cnt]at F;simp only[ag.dep]at W q;let hb:=Rows.dep_pos b;obtain⟨m,rfl⟩:∃m,n=m+1:=#[n-1,()];let r:ag:=.iff e b c;let k:_:=st+-acc;let i:_:=acc++[en w ab bl r];have z:-i=-acc+1:=by simp[i]
  let ih:=Kp (n:=m) (w:=w) (ab:=ZI (k:Nat)) (bl:=0) (st:=st+-i) (mu:=mu) (rs:=b) (xj b m w (ZI (k:Nat)) 0 (R b.pvs) (st+-i) [] J J J J mu ok.2.1 () () (by simp only[cv];lia));have he:-(c_ (b.es w (ZI (k:Nat)) 0 (st+i.length)))=b.cnt:=by rw[nC,Rows.es_len]
  let N:=Nq (n:=m+1) (w:=w) (ab:=ab) (X:=X) (bl:=bl) (pl:=0) (st:=st) (k:=k) (acc:=i) (o6:=zS r.pv) (p:=R b.pvs) ih (by rw[he,z];lia);let j:_:=i++c_ (b.es w (ZI (k:Nat)) 0 (st+-i));have Q:-j=-acc+1+b.cnt:=by show -(i++_)=_;rw[bX,he,z]
  let VU:=Kp (n:=m) (w:=w) (ab:=ZI (k:Nat)) (bl:=1) (st:=st+-j) (mu:=mu) (rs:=c) (xj c m w (ZI (k:Nat)) 1 (R c.pvs) (st+-j) [] J J J J mu ok.2.2 () () (by simp only[cv];lia));have sP:-(c_ (c.es w (ZI (k:Nat)) 1 (st+j.length)))=c.cnt:=by rw[nC,Rows.es_len]
  let hJ:=Nq (n:=m+1) (w:=w) (ab:=ab) (X:=X) (bl:=bl) (pl:=1) (st:=st) (k:=k) (acc:=j) (o6:=zS r.pv) (p:=R c.pvs) VU (by rw[sP,Q];lia);show#[zI (k:Nat),zI 1,zL c.pvs,Gn (r:=.iff e b c) ok (by simp only[ag.dep];lia) (by simp only[ag.cnt];lia) () (λmu=>Jr) ((Np (Y1:=LE w ab bl X st i (zS r.pv) (zI (k:Nat)) (zI 0) (zL b.pvs) mu) (Y3:=LE w ab bl X st j (zS r.pv) (zI (k:Nat)) (zI 1) (zL c.pvs) mu) O N O hJ).trans ?_)];have ek:st+-i=k+1:=by rw[z];lia
  have VW:st+-j=k+1+b.cnt:=by rw[Q];lia
  rw[VW];simp only[j,ek];simp only[ag.es,c_,dP,cy,i,cx,js,eK];rfl
theorem xj:∀(rs:Rows)(n:Nat)(w:Str)(ab:PV)(bl:Int)(X:PV)(st:Nat)(acc:List PV)(o6 o7 o8 i:Option Lc)(mu:Mu),rs.ok->rs.dep<=n+1->rs.dep<=41->-acc+rs.cnt<=1000->
 ∃F q z D,eN (aC 6) (Zj n) rs.pvs (LE w ab bl X st acc o6 o7 o8 i mu)=!(.nx (LE w ab bl X st (acc++c_ (rs.es w ab bl (st+-acc))) F q z D mu))
 |.nil=>λn w ab bl X st acc o6 o7 o8 i mu ok W j Q=>#[o6,o7,o8,i,by simp[Rows.pvs,eN,Rows.es,c_]]
 |.cons r rs=>λn w ab bl X st acc o6 o7 o8 i mu ok W j Q=>by
  simp only[Rows.dep]at W j;simp only[Rows.cnt]at Q;let(q7,q8,q9,e1):=VT r n w ab bl X st acc o7 o8 i mu ok.1 () () ();have N:-(acc++c_ (r.es w ab bl (st+acc.length)))=-acc+r.cnt:=by rw[bX,nC,ag.es_len]
  let(F,q,z,D,e2):=xj rs n w ab bl X st (acc++c_ (r.es w ab bl (st+-acc))) (zS r.pv) q7 q8 q9 mu ok.2 () () (by rw[N];lia);show#[F,q,z,D,gw (Y1:=LE w ab bl X st acc (zS r.pv) o7 o8 i mu) O e1 (e2.trans ?_)];rw[N,<-Nat.add_assoc];simp only[Rows.es,Hr,cx]
end
def Dg{rs:Rows}{w:Str}{ab:PV}{bl:Int}{st:Nat}{mu:Mu}(ok:rs.ok)(i:rs.dep<=40)(j:rs.cnt<=1000):
 gP 40 [ZH w,ab,ZI bl,R rs.pvs,ZI st] mu=!(Zs (R (c_ (rs.es w ab bl st))),mu):=
 Kp (n:=39) (xj rs 39 w ab bl _ st [] J J J J mu ok () () (by simp only[cv];lia))
structure Fn where
 name:Str
 rank:PV
 params:List PV
 rows:Rows
def Fn.pv(f:Fn):PV:=ZB [ZH f.name,f.rank,R f.params,R f.rows.pvs]
structure Pg where
 boxes:List PV
 grants:List PV
 fns:List Fn
 rows:Rows
def Pg.pv(P:Pg):PV:=ZB [R P.boxes,R P.grants,R (P.fns.map Fn.pv),R P.rows.pvs]
def d8:List Fn->Nat
 |[]=>0
 |f::fs=>f.rows.cnt+d8 fs
def qJ:List Fn->Nat->List b9
 |[],_=>[]
 |f::fs,k=>f.rows.es f.name .non 0 k++qJ fs (k+f.rows.cnt)
theorem BZ:∀(fs:List Fn)(k:Nat),-(qJ fs k)=d8 fs
 |[]=>λk=>rfl
 |f::fs=>λk=>by simp[qJ,d8,Rows.es_len,BZ fs]
def Pg.es(P:Pg):List b9:=qJ P.fns 0++P.rows.es "main" .non 0 (d8 P.fns)
structure Pg.ok(P:Pg):Prop where
 fn:∀f∈P.fns,f.rows.ok/\f.rows.dep<=30
 rw:P.rows.ok
 dp:P.rows.dep<=30
 ct:d8 P.fns+P.rows.cnt<=44
 pm:∀f∈P.fns,∃xs:List Str,f.params=xs.map (λx=>.tup [.str x,.non])/\-xs<=4/\Sh xs
 fl:-P.fns<=4
 nd:(P.fns.map Fn.name).Nodup
 nl:∀f∈P.fns,-f.name<=100
abbrev NE(p:PV)(acc:List PV)(o2 o3 o4 o5:Option Lc)(mu:Mu):Ev:=#[[zS p,zO acc,o2,o3,o4,o5],mu]
theorem QS{p:PV}:∀(fs:List Fn)(acc:List PV)(o2 o3 o4 o5:Option Lc)(mu:Mu),(∀f∈fs,f.rows.ok/\f.rows.dep<=30)->-acc+d8 fs<=1000->
 ∃p2 q D z,eN AO tj (fs.map Fn.pv) (NE p acc o2 o3 o4 o5 mu)=!(.nx (NE p (acc++c_ (qJ fs (-acc))) p2 q D z mu))
 |[]=>λacc o2 o3 o4 o5 mu _ _=>#[o2,o3,o4,o5,by simp[eN,qJ,c_]]
 |f::fs=>λacc o2 o3 o4 o5 mu h N=>by
  simp only[d8]at N;let(ok,W):=h f be;let e:=Dg (w:=f.name) (ab:=.non) (bl:=0) (st:=-acc) (mu:=mu) ok () ();have j:-(acc++c_ (f.rows.es f.name .non 0 acc.length))=-acc+f.rows.cnt:=by rw[bX,nC,Rows.es_len]
  let E:_:=NE p acc (zT f.name) (zS f.rank) (zL f.params) (zL f.rows.pvs) mu;let(p2,q,D,z,Q):=QS (p:=p) fs (acc++c_ (f.rows.es f.name .non 0 (-acc))) (zT f.name) (zS f.rank) (zL f.params) (zL f.rows.pvs) mu (λx F=>h x (cw _ F)) (by rw[j];lia);have st:tj E=!(.nx (NE p (acc++c_ (f.rows.es f.name .non 0 (-acc))) (zT f.name) (zS f.rank) (zL f.params) (zL f.rows.pvs) mu)):=
   jZ (i:=1) (ws0:=acc) (ws:=acc) (ps:=c_ (f.rows.es f.name .non 0 (-acc))) (l:=Zs (R (c_ (f.rows.es f.name .non 0 (-acc))))) (Y1:=E) O
    (aR (ls:=[Zp (ZH f.name),Zp .non,Zp (ZI 0),Zp (R f.rows.pvs),Zp (ZI (-acc))]) (ps:=[ZH f.name,.non,ZI 0,R f.rows.pvs,ZI (-acc)]) (Y1:=E) O O O O e) O O (by rw[nC,Rows.es_len];lia) O
  show#[p2,q,D,z,(gw (Y1:=E) O st (Q.trans ?_))];rw[j];simp only[qJ,Hr,cx]
def Pr{P:Pg}{mu:Mu}(ok:P.ok):yK [P.pv] mu=!(Zs (R (c_ P.es)),mu):=by
 let W:=ok.ct;let(p2,q,D,z,Q):=QS (p:=P.pv) P.fns [] J J J J mu ok.fn (by simp only[cv];lia);simp only[eK,cv]at Q;let j:_:=c_ (qJ P.fns 0);have F:-j=d8 P.fns:=by simp only[j,nC,BZ]
 let N:=Dg (w:="main") (ab:=.non) (bl:=0) (st:=-j) (mu:=mu) ok.rw (by have:=ok.dp;lia) ();rw[F]at N;let b:_:=c_ (P.rows.es "main" .non 0 (d8 P.fns));show(aO (Y:=#[[zS P.pv,J,p2,q,D,z],mu]) (r:=Zs (R (j++b))) ?_).trans ?_
 . show aH (Y':=NE P.pv [] J J J J mu) O (aH (Y':=NE P.pv j p2 q D z mu) (eO (xs:=P.fns.map Fn.pv) (Y1:=NE P.pv [] J J J J mu) (dC (l:=Zp (R (P.fns.map Fn.pv))) O O) Q) (aH (Y':=NE P.pv (j++b) p2 q D z mu) ?_ O));show jZ (i:=1) (ws0:=j) (ws:=j) (ps:=b) (l:=Zs (R b)) (Y1:=NE P.pv j p2 q D z mu) O
    (aR (ls:=[Zp (ZH "main"),Zp .non,Zp (ZI 0),Zp (R P.rows.pvs),Zp (ZI (-j))]) (ps:=[ZH "main",.non,ZI 0,R P.rows.pvs,ZI (-j)]) (Y1:=NE P.pv j p2 q D z mu) O O O O (by rw[F];show N)) O O (by simp only[b];rw[F,nC,Rows.es_len];lia) O
 . simp only[j,b,Pg.es,Hr]
def b9.key(e:b9):List aV:=[!(.inr e.w),(okP e.ab).getD J,!(.inl e.bl)]
def pos(K:List aV):Nat->List b9->List Nat
 |_,[]=>[]
 |i,e::es=>if e.key=K then i::pos K (i+1) es else pos K (i+1) es
theorem pF(K:List aV):∀(i:Nat)(a b:List b9),pos K i (a++b)=pos K i a++pos K (i+-a) b
 |i,[]=>λb=>rfl
 |i,e::a=>λb=>by show (if e.key=K then i::pos K (i+1) (a++b) else pos K (i+1) (a++b))=(if e.key=K then i::pos K (i+1) a else pos K (i+1) a)++_;rw[pF K (i+1) a b,show i+-(e::a)=i+1+-a by simp only[bi];omega];split<;>rfl
theorem Ca{K:List aV}:∀{i:Nat}{a:List b9},(∀e∈a,e.key≠K)->pos K i a=[]
 |i,[]=>λ_=>rfl
 |i,e::a=>λh=>by show (if e.key=K then i::pos K (i+1) a else pos K (i+1) a)=[];rw[ay (h e be)];show Ca λx j=>h x (cw _ j)
def Rows.nums:Rows->Nat->List Nat
 |.nil,_=>[]
 |.cons r rs,k=>k::rs.nums (k+r.cnt)
abbrev eM(w:Str)(m:Nat)(b:Int):List aV:=[!(.inr w),!(.inl (m:Int)),!(.inl b)]
def key_ne{e:b9}{w:Str}{m:Nat}{b:Int}(h:e.ab≠ZI m)(z:e.ab=.non\/∃j:Nat,e.ab=ZI j):e.key≠eM w m b:=by
 intro q;unfold b9.key at q;injection q with _ q;injection q with q _;obtain i|⟨j,i⟩:=z
 . rw[i]at q;cases q
 . rw[i]at q h;have q:some (Sum.inl (j:Int))=!(Sum.inl (m:Int)):=q;injection q with q;injection q with q;show h (by rw[q])
def yN{e:b9}{w:Str}{m:Nat}{b:Int}(h:e.bl≠b):e.key≠eM w m b:=by intro q;unfold b9.key at q;injection q with _ q;injection q with _ q;injection q with q _;injection q with q;injection q with q;show h q
def tY(ab:PV)(s t:Nat)(e:b9):Prop:=e.ab=ab\/∃m:Nat,e.ab=ZI m/\s<=m/\m<t
def tY.mono{ab:PV}{s t s' t':Nat}{e:b9}(h:tY ab s t e)(h1:s'<=s)(h2:t<=t'):tY ab s' t' e:=by
 obtain h|⟨m,h,j,i⟩:=h
 . show Zl h
 . show YY #[m,h,(),()]
def tY.up{k s t:Nat}{ab:PV}{e:b9}(h:tY (ZI (k:Nat)) s t e)(h1:k<s)(h2:k<t):tY ab k t e:=by
 obtain h|⟨m,h,j,i⟩:=h
 . show YY #[k,h,br _,h2]
 . show YY #[m,h,(),i]
mutual
theorem ag.abs:∀(r:ag)(w:Str)(ab:PV)(bl:Int)(k:Nat),∀e∈r.es w ab bl k,tY ab k (k+r.cnt) e
 |.leaf _ _=>λw ab bl k e i=>by rw[eR.mp i];show Zl O
 |.call _ _ _=>λw ab bl k e i=>by rw[eR.mp i];show Zl O
 |.wh x b=>λw ab bl k e i=>by
  obtain rfl|i:=a_.mp i
  . show Zl O
  . let h:=Rows.abs b w (ZI (k:Nat)) 0 (k+1) e i;simp only[ag.cnt];show(h.up () ()).mono (br _) ()
 |.iff x b c=>λw ab bl k e i=>by
  simp only[ag.cnt];obtain rfl|i:=a_.mp i
  . show Zl O
  . obtain i|i:=cr.mp i
    . let h:=Rows.abs b w (ZI (k:Nat)) 0 (k+1) e i;show(h.up () ()).mono (br _) ()
    . let h:=Rows.abs c w (ZI (k:Nat)) 1 (k+1+b.cnt) e i;show(h.up () ()).mono (br _) ()
theorem Rows.abs:∀(rs:Rows)(w:Str)(ab:PV)(bl:Int)(k:Nat),∀e∈rs.es w ab bl k,tY ab k (k+rs.cnt) e
 |.nil=>λw ab bl k e i=>by cases i
 |.cons r rs=>λw ab bl k e i=>by
  simp only[Rows.cnt];obtain i|i:=cr.mp i
  . show(ag.abs r w ab bl k e i).mono (br _) ()
  . show(Rows.abs rs w ab bl (k+r.cnt) e i).mono () ()
end
def vp(ab:PV)(k:Nat):Prop:=ab=.non\/∃j:Nat,ab=ZI j/\j<k
def tY.num{ab:PV}{s t k:Nat}{e:b9}(h:tY ab s t e)(a:vp ab k):e.ab=.non\/∃j:Nat,e.ab=ZI j:=by
 obtain h|⟨m,h,_⟩:=h
 . obtain a|⟨j,a,_⟩:=a
   . show Zl (h.trans a)
   . show YY #[j,h.trans a]
 . show YY #[m,h]
def xn{a b:Nat}(h:a≠b):(PV.int (a:Nat))≠ZI (b:Nat):=λq=>by injection q with q;show h ()
def tY.ne{ab:PV}{s t m:Nat}{e:b9}(h:tY ab s t e)(h1:ab≠ZI m)(h2:m<s\/t<=m):e.ab≠ZI m:=by
 obtain h|⟨j,h,q,i⟩:=h
 . rw[h];show h1
 . rw[h];show xn ()
def vp.ne{ab:PV}{k m:Nat}(a:vp ab k)(h:k<=m):ab≠ZI m:=by
 obtain a|⟨j,a,i⟩:=a
 . rw[a];intro q;cases q
 . rw[a];show xn ()
def ag.pos_top(r:ag)(w:Str)(m:Nat)(b:Int)(k:Nat)(h:m<k):pos (eM w m b) k (r.es w (ZI m) b k)=[k]:=by
 have own:∀(e:b9),e.w=w->e.ab=ZI m->e.bl=b->e.key=eM w m b:=λe h1 h2 j=>by unfold b9.key;rw[h1,h2,j];rfl
 have sub:∀(rs:Rows)(c:Int)(s:Nat),k<s->pos (eM w m b) s (rs.es w (ZI (k:Nat)) c s)=[]:=λrs c s hs=>Ca λe q=>by let g:=Rows.abs rs w (ZI (k:Nat)) c s e q;show key_ne (g.ne (xn ()) (Zl ())) (g.num (k:=s) (YY #[k,O,hs]))
 cases r with
 |leaf x ps=>show (if _ then _ else _)=_;rw[aw (own _ O O O)];rfl
 |call x n z=>show (if _ then _ else _)=_;rw[aw (own _ O O O)];rfl
 |wh x c=>
  show (if _ then _ else _)=_;rw[aw (own _ O O O),sub c 0 (k+1) ()]
 |iff x c d=>
  show (if _ then _ else _)=_;rw[aw (own _ O O O),pF,Rows.es_len,sub c 0 (k+1) (),sub d 1 (k+1+c.cnt) ()];rfl
theorem Rows.pos_top:∀(rs:Rows)(w:Str)(m:Nat)(b:Int)(k:Nat),m<k->pos (eM w m b) k (rs.es w (ZI m) b k)=rs.nums k
 |.nil=>λw m b k h=>rfl
 |.cons r rs=>λw m b k h=>by show pos _ k (r.es w (ZI m) b k++rs.es w (ZI m) b (k+r.cnt))=_;rw[pF,ag.pos_top r w m b k h,ag.es_len,Rows.pos_top rs w m b (k+r.cnt) ()];rfl
def ag.bnums:ag->Nat->Int->List Nat
 |.wh _ b,k,i=>if i=0 then b.nums (k+1) else []
 |.iff _ b c,k,i=>if i=0 then b.nums (k+1) else if i=1 then c.nums (k+1+b.cnt) else []
 |_,_,_=>[]
def ag.pos_in(r:ag)(w:Str)(ab:PV)(bl:Int)(k:Nat)(i:Int)(a:vp ab k):pos (eM w k i) k (r.es w ab bl k)=r.bnums k i:=by
 have own:∀(e:b9),e.ab=ab->e.key≠eM w k i:=λe h=>key_ne (by rw[h];show a.ne (br _)) (by
  obtain a|⟨j,a,_⟩:=a
  . show Zl (h.trans a)
  . show YY #[j,h.trans a])
 have sub:∀(rs:Rows)(c:Int)(s:Nat),k<s->c≠i->pos (eM w k i) s (rs.es w (ZI (k:Nat)) c s)=[]:=λrs c s hs F=>by
  have go:∀(rs:Rows)(s:Nat),k<s->pos (eM w k i) s (rs.es w (ZI (k:Nat)) c s)=[]:=by
   intro rs;induction rs using Rows.rec (motive_1:=λ_=>True) with
   |nil=>intro s _;rfl
   |cons r rs _ N=>
    intro s hs;show pos _ s (r.es w (ZI (k:Nat)) c s++rs.es w (ZI (k:Nat)) c (s+r.cnt))=_;rw[pF,ag.es_len,N (s+r.cnt) (),da];have z:∀(bs:Rows)(d:Int)(t:Nat),s<t->pos (eM w k i) t (bs.es w (ZI (s:Nat)) d t)=[]:=λbs d t Q=>Ca λe W=>by let g:=Rows.abs bs w (ZI (s:Nat)) d t e W;show key_ne (g.ne (xn ()) (Zl ())) (g.num (k:=t) (YY #[s,O,Q]))
    cases r with
    |leaf x ps=>show (if _ then _ else _)=_;rw[ay (yN F)];rfl
    |call x n as=>show (if _ then _ else _)=_;rw[ay (yN F)];rfl
    |wh x bs=>show (if _ then _ else _)=_;rw[ay (yN F)];show z bs 0 (s+1) ()
    |iff x bs cs=>show (if _ then _ else _)=_;rw[ay (yN F),pF,Rows.es_len,z bs 0 (s+1) (),z cs 1 (s+1+bs.cnt) ()];rfl
   |_=>trivial
  show go rs s hs
 cases r with
 |leaf x ps=>show (if _ then _ else _)=_;rw[ay (own _ O)];rfl
 |call x n as=>show (if _ then _ else _)=_;rw[ay (own _ O)];rfl
 |wh x c=>
  show (if _ then _ else _)=_;rw[ay (own _ O)];show _=if i=0 then c.nums (k+1) else []
  by_cases hi:i=0
  . subst hi;rw[aw O];show Rows.pos_top c w k 0 (k+1) ()
  . rw[ay hi];show sub c 0 (k+1) () (λq=>hi q.symm)
 |iff x c d=>
  show (if _ then _ else _)=_;rw[ay (own _ O),pF,Rows.es_len];show _=if i=0 then c.nums (k+1) else if i=1 then d.nums (k+1+c.cnt) else []
  by_cases hi:i=0
  . subst hi;rw[aw O,Rows.pos_top c w k 0 (k+1) (),sub d 1 (k+1+c.cnt) () (),da]
  . rw[ay hi,sub c 0 (k+1) () (λq=>hi q.symm),eK];by_cases h1:i=1
    . subst h1;rw[aw O];show Rows.pos_top d w k 1 (k+1+c.cnt) ()
    . rw[ay h1];show sub d 1 (k+1+c.cnt) () (λq=>h1 q.symm)
structure qx(es:List b9)(w:Str)(ab:PV)(bl:Int)(k:Nat)(rs:Rows):Prop where
 ex:∃pre post,es=pre++(rs.es w ab bl k++post)/\-pre=k/\∀e∈pre++post,(e.ab=.non\/∃j:Nat,e.ab=.int j)/\∀m:Nat,k<=m->m<k+rs.cnt->e.ab≠.int m
 ab:vp ab k
structure qy(es:List b9)(w:Str)(ab:PV)(bl:Int)(k:Nat)(r:ag):Prop where
 ex:∃pre post,es=pre++(r.es w ab bl k++post)/\-pre=k/\∀e∈pre++post,(e.ab=.non\/∃j:Nat,e.ab=.int j)/\∀m:Nat,k<=m->m<k+r.cnt->e.ab≠.int m
 ab:vp ab k
def vp.mono(a:vp ab k)(h:k<=k'):vp ab k':=by
 obtain a|⟨j,a,i⟩:=a
 . show Zl a
 . show YY #[j,a,()]
theorem qx.cons{es:List b9}{w:Str}{ab:PV}{bl:Int}{k:Nat}{r:ag}{rs:Rows}(h:qx es w ab bl k (.cons r rs)):qy es w ab bl k r/\qx es w ab bl (k+r.cnt) rs:=by
 let((Q,i,e,W,N),F):=h;simp only[Rows.cnt]at N;show#[#[#[Q,rs.es w ab bl (k+r.cnt)++i,by rw[e];simp only[Rows.es,cx],W,λx j=>?_],F],#[#[Q++r.es w ab bl k,i,by rw[e];simp only[Rows.es,cx],by rw[bX,ag.es_len,W],λx j=>?_],F.mono ()]]
 . obtain q|q:=cr.mp j
   . let(D,z):=N x (ga _ q);show#[D,λm h1 h2=>z m h1 ()]
   . obtain q|q:=cr.mp q
     . let g:=Rows.abs rs w ab bl (k+r.cnt) x q;show#[g.num F,λm h1 h2=>g.ne (F.ne h1) (Zl ())]
     . let(D,z):=N x (eT _ q);show#[D,λm h1 h2=>z m h1 ()]
 . obtain q|q:=cr.mp j
   . obtain q|q:=cr.mp q
     . let(D,z):=N x (ga _ q);show#[D,λm h1 h2=>z m () ()]
     . let g:=ag.abs r w ab bl k x q;show#[g.num F,λm h1 h2=>g.ne (F.ne ()) (YY h1)]
   . let(D,z):=N x (eT _ q);show#[D,λm h1 h2=>z m () ()]
theorem qy.wh{ab:PV}(h:qy es w ab bl k (.wh x b)):qx es w (ZI (k:Nat)) 0 (k+1) b:=by
 let((F,i,e,hl,D),Q):=h;simp only[ag.cnt]at D;show#[#[F++[#[w,ab,bl,.wh x b]],i,by rw[e];simp[ag.es],by simp[hl],λy W=>?_],YY #[k,O,()]];obtain q|q:=cr.mp W
 . obtain q|q:=cr.mp q
   . let(N,z):=D y (ga _ q);show#[N,λm h1 h2=>z m () ()]
   . rw[eR.mp q];show#[by obtain a|⟨j,a,_⟩:=Q;show Zl a;show YY #[j,a],λm h1 _=>Q.ne ()]
 . let(N,z):=D y (eT _ q);show#[N,λm h1 h2=>z m () ()]
theorem qy.iff{ab:PV}(h:qy es w ab bl k (.iff x b c)):qx es w (ZI (k:Nat)) 0 (k+1) b/\qx es w (ZI (k:Nat)) 1 (k+1+b.cnt) c:=by
 let((N,i,e,hl,F),Q):=h;simp only[ag.cnt]at F;have own:(ab=.non\/∃j:Nat,ab=ZI j):=by obtain a|⟨j,a,_⟩:=Q;show Zl a;show YY #[j,a]
 have hk:∀s,k<s->vp (ZI (k:Nat)) s:=λs hs=>YY #[k,O,hs];show#[#[#[N++[#[w,ab,bl,.iff x b c]],c.es w (ZI (k:Nat)) 1 (k+1+b.cnt)++i,by rw[e];simp[ag.es],by simp[hl],λy W=>?_],hk _ ()],#[#[N++(#[w,ab,bl,.iff x b c]::b.es w (ZI (k:Nat)) 0 (k+1)),i,by rw[e];simp[ag.es],by simp[Rows.es_len];lia,λy W=>?_],hk _ ()]]
 . obtain q|q:=cr.mp W
   . obtain q|q:=cr.mp q
     . let(D,z):=F y (ga _ q);show#[D,λm h1 h2=>z m () ()]
     . rw[eR.mp q];show#[own,λm h1 _=>Q.ne ()]
   . obtain q|q:=cr.mp q
     . let g:=Rows.abs c w (ZI (k:Nat)) 1 (k+1+b.cnt) y q;show#[g.num (hk (k+1) ()),λm h1 h2=>g.ne () (Zl ())]
     . let(D,z):=F y (eT _ q);show#[D,λm h1 h2=>z m () ()]
 . obtain q|q:=cr.mp W
   . obtain q|q:=cr.mp q
     . let(D,z):=F y (ga _ q);show#[D,λm h1 h2=>z m () ()]
     . obtain rfl|q:=a_.mp q
       . show#[own,λm h1 _=>Q.ne ()]
       . let g:=Rows.abs b w (ZI (k:Nat)) 0 (k+1) y q;show#[g.num (hk (k+1) ()),λm h1 h2=>g.ne () (YY ())]
   . let(D,z):=F y (eT _ q);show#[D,λm h1 h2=>z m () ()]
def ag.es_head(r:ag)(w:Str)(ab:PV)(bl:Int)(k:Nat):∃t,r.es w ab bl k=#[w,ab,bl,r]::t:=by cases r<;>show#[_,O]
def qy.get{ab:PV}(h:qy es w ab bl k r):es[k]?=!#[w,ab,bl,r]:=by let((z,i,e,q,F),D):=h;let(t,j):=r.es_head w ab bl k;rw[e,j,eW (),q,gN];rfl
theorem qy.pos{ab:PV}(h:qy es w ab bl k r)(i:Int):Law.pos (eM w k i) 0 es=r.bnums k i:=by
 let((z,q,e,D,Q),N):=h;let hc:=r.cnt_pos;have out:∀(l:List b9)(j:Nat),(∀x∈l,x∈z++q)->Law.pos (eM w k i) j l=[]:=λl j D=>Ca λx F=>by let(g1,W):=Q x (D x F);show key_ne (W k () ()) g1
 rw[e,pF,pF,out z 0 λx h=>ga _ h,out q _ λx h=>eT _ h,eK,da,hG,D];show r.pos_in w ab bl k i N
mutual
def ag.sp:ag->Bool
 |.leaf _ _=>M
 |.call _ _ _=>G
 |.wh _ _=>G
 |.iff _ b c=>b.sp||c.sp
def Rows.sp:Rows->Bool
 |.nil=>M
 |.cons r rs=>r.sp||rs.sp
end
noncomputable def gs (k:Nat):Str:="at " ++ (toString (k:Int):Str)
mutual
def ag.bt:ag->Nat->List Str
 |.leaf _ _,k=>[gs k]
 |.call _ n _,k=>[gs k,"leave " ++ n]
 |.wh _ _,k=>[gs k]
 |.iff _ b c,k=>[gs k]++(if b.sp then b.lbt (k+1) else [])++(if c.sp then c.lbt (k+1+b.cnt) else [])
def Rows.lbt:Rows->Nat->List Str
 |.nil,_=>[]
 |.cons r .nil,k=>r.bt k
 |.cons r (.cons r' rs),k=>(Rows.cons r' rs).lbt (k+r.cnt)
end
mutual
def ag.bl:ag->Nat
 |.leaf _ _=>1
 |.call _ _ _=>2
 |.wh _ _=>1
 |.iff _ b c=>1+b.bl+c.bl
def Rows.bl:Rows->Nat
 |.nil=>0
 |.cons r rs=>max r.bl rs.bl
end
mutual
theorem ag.bt_len:∀(r:ag)(k:Nat),-(r.bt k)<=r.bl
 |.leaf _ _=>λk=>br _
 |.call _ _ _=>λk=>br _
 |.wh _ _=>λk=>br _
 |.iff _ b c=>λk=>by let h1:=Rows.lbt_len b (k+1);let h2:=Rows.lbt_len c (k+1+b.cnt);simp only[ag.bt,ag.bl,bX,bi,cv];split<;>split<;>(try simp only[cv])<;>lia
theorem Rows.lbt_len:∀(rs:Rows)(k:Nat),-(rs.lbt k)<=rs.bl
 |.nil,k=>br _
 |.cons r .nil,k=>by have:=ag.bt_len r k;simp only[Rows.lbt,Rows.bl];lia
 |.cons r (.cons i rs),k=>by have:=Rows.lbt_len (.cons i rs) (k+r.cnt);simp only[Rows.lbt,Rows.bl]at this ⊢;lia
end
mutual
noncomputable def ag.rws:ag->List ag
 |.leaf w ps=>[.leaf w ps]
 |.call b n as=>[.call b n as]
 |.wh e b=>.wh e b::b.rws
 |.iff e b c=>.iff e b c::(b.rws++c.rws)
noncomputable def Rows.rws:Rows->List ag
 |.nil=>[]
 |.cons r rs=>r.rws++rs.rws
end
mutual
theorem ag.rws_len:∀r:ag,-r.rws=r.cnt
 |.leaf _ _=>rfl
 |.call _ _ _=>rfl
 |.wh _ b=>by simp[ag.rws,ag.cnt,Rows.rws_len b]
 |.iff _ b c=>by simp[ag.rws,ag.cnt,Rows.rws_len b,Rows.rws_len c]
theorem Rows.rws_len:∀rs:Rows,-rs.rws=rs.cnt
 |.nil=>rfl
 |.cons r rs=>by simp[Rows.rws,Rows.cnt,ag.rws_len r,Rows.rws_len rs]
end
abbrev fw(l:List ag):List PV:=l.map ag.pv
def uE(l:List ag):-(fw l)=-l:=bo _
abbrev IE(X:PV)(acc:List PV)(o2 o3:Option Lc)(mu:Mu):Ev:=#[[zS X,zO acc,o2,o3],mu]
abbrev u8(n:Nat):SF:=gb 1 (aN (iz n) (aj (aa 3) ao))
abbrev ot(n:Nat):SF:=aF (jM 1 (aa 2)) (fX (dh (aN gJ (aj (aa 2) ao)) bJ) (aC 3) (u8 n))
def Nr{o2:Option Lc}(h:iz n [p] mu=!(Zs (R qs),mu))(i:-acc+-qs<=100000):u8 n (IE X acc o2 (zS p) mu)=!(.nx (IE X (acc++qs) o2 (zS p) mu)):=
 jZ O (aR O O O O h) O O i O
def Gp{o3:Option Lc}{r:ag}(j:-acc<1000)(i:∀mu,gJ [r.pv] mu=!(Zs (R bs),mu))(h:eN (aC 3) (u8 n) bs (IE X (acc++[r.pv]) (zS r.pv) o3 mu)=ZN):ot n (IE X acc (zS r.pv) o3 mu)=ZN:=
 aH (pR O O O O () O)
  (eO (dC (aR O O O O (i _)) O) h)
def in_of{rs:Rows}(h:∃o2 o3,eN (aC 2) (ot n) rs.pvs (IE (R rs.pvs) [] J J mu)=!(.nx (IE (R rs.pvs) ([]++fw rs.rws) o2 o3 mu))):iz (n+1) [R rs.pvs] mu=!(Zs (R (fw rs.rws)),mu):=by let(o2,o3,h):=h;show aO (Y:=#[[zL rs.pvs,J,o2,o3],mu]) ?_;show aH O (aH () O)
mutual
theorem VX:∀(r:ag)(n:Nat)(X:PV)(acc:List PV)(o3:Option Lc)(mu:Mu),r.ok->r.dep<=n->-acc+r.cnt<=1000->∃F,ot n (IE X acc (zS r.pv) o3 mu)=!(.nx (IE X (acc++fw r.rws) (zS r.pv) F mu))
 |.leaf x ps=>λn X acc o3 mu ok j i=>by show#[o3,Gp () (λmu=>sS ok.1.1 ok.1.2.1) O]
 |.call b m Q=>λn X acc o3 mu ok j i=>by show#[o3,Gp () (λmu=>sS () ()) O]
 |.wh e b=>λn X acc o3 mu ok j i=>by simp only[ag.cnt]at i;simp only[ag.dep]at j;obtain⟨m,rfl⟩:∃m,n=m+1:=#[n-1,()];let r:ag:=.wh e b;let z:=in_of (xq b m (R b.pvs) [] J J mu ok.2 () (by simp only[cv];lia));let st:=Nr (X:=X) (acc:=acc++[r.pv]) (o2:=zS r.pv) z (by rw[uE,Rows.rws_len,bX];simp only[bi,cv];lia);show#[zL b.pvs,Gp () (λmu=>Jq) ((S9 O st).trans ?_)];simp only[cx];rfl
 |.iff e b c=>λn X acc o3 mu ok j i=>by simp only[ag.cnt]at i;simp only[ag.dep]at j;obtain⟨m,rfl⟩:∃m,n=m+1:=#[n-1,()];let r:ag:=.iff e b c;let z:=in_of (xq b m (R b.pvs) [] J J mu ok.2.1 () (by simp only[cv];lia));let q:=in_of (xq c m (R c.pvs) [] J J mu ok.2.2 () (by simp only[cv];lia));let st:=Nr (X:=X) (acc:=acc++[r.pv]) (o2:=zS r.pv) z (by rw[uE,Rows.rws_len,bX];simp only[bi,cv];lia);let D:=Nr (X:=X) (acc:=acc++[r.pv]++fw b.rws) (o2:=zS r.pv) q (by rw[uE,Rows.rws_len,bX,bX,uE,Rows.rws_len];simp only[bi,cv];lia);show#[zL c.pvs,Gp () (λmu=>Jr) ((Np O st O D).trans ?_)];simp only[ag.rws,cx,js,eK,fw,dP,cy];rfl
theorem xq:∀(rs:Rows)(n:Nat)(X:PV)(acc:List PV)(o2 o3:Option Lc)(mu:Mu),rs.ok->rs.dep<=n+1->-acc+rs.cnt<=1000->∃p2 i,eN (aC 2) (ot n) rs.pvs (IE X acc o2 o3 mu)=!(.nx (IE X (acc++fw rs.rws) p2 i mu))
 |.nil=>λn X acc o2 o3 mu ok j q=>#[o2,o3,by simp[Rows.pvs,eN,Rows.rws,fw]]
 |.cons r rs=>λn X acc o2 o3 mu ok j q=>by simp only[Rows.dep]at j;simp only[Rows.cnt]at q;let(D,z):=VX r n X acc o3 mu ok.1 () ();let(p2,i,F):=xq rs n X (acc++fw r.rws) (zS r.pv) D mu ok.2 () (by rw[bX,uE,ag.rws_len];lia);show#[p2,i,gw O z (F.trans ?_)];simp only[Rows.rws,fw,cy,cx]
end
def gS:PV->Bool
 |ZB (ZH s::_)=>(("while" : Str)==s||(("call" : Str)==s||false))
 |_=>M
def xx{a b:Str}(h:(a==b)=M):(b==a)=M:=by rw[nE]at h ⊢;show λq=>h q.symm
mutual
theorem ag.hots:∀r:ag,r.ok->(fw r.rws).any gS=r.sp
 |.leaf w ps=>λok=>by let((_,h2,i),_):=ok;show ((("while" : Str)==w||(("call" : Str)==w||false))||false)=M;rw[xx h2,xx i];rfl
 |.call b n j=>λok=>by show ((("while" : Str)== "call" || (("call" : Str)== "call" || false))||false)=G;decide +kernel
 |.wh e b=>λok=>by show ((("while" : Str)== "while" || (("call" : Str)== "while" || false))||(fw b.rws).any gS)=G;rfl
 |.iff e b c=>λok=>by show ((("while" : Str)== "if" || (("call" : Str)== "if" || false))||(fw (b.rws++c.rws)).any gS)=(b.sp||c.sp);rw[show (("while" : Str)== "if" || (("call" : Str)== "if" || false))=M by decide +kernel,Bool.false_or,fw,cy,List.any_append,Rows.hots b ok.2.1,Rows.hots c ok.2.2]
theorem Rows.hots:∀rs:Rows,rs.ok->(fw rs.rws).any gS=rs.sp
 |.nil=>λ_=>rfl
 |.cons r rs=>λok=>by show (fw (r.rws++rs.rws)).any gS=(r.sp||rs.sp);rw[fw,cy,List.any_append,ag.hots r ok.1,Rows.hots rs ok.2]
end
theorem rP{α:Type}(f:α->Bool):∀cs:List α,cf (cs.map λc=>.bl (f c))=!(cs.map f)
 |[]=>rfl
 |c::cs=>by show (cf (cs.map λc=>.bl (f c))).map _=_;rw[rP f cs];rfl
def ag.head(r:ag):∃w t,r.pv=ZB (ZH w::t):=by cases r<;>show#[_,_,O]
def Js{r:ag}(ok:r.ok)(F:r.dep<=38)(N:r.cnt<=900):yM [r.pv] mu=!(Zp (.bl r.sp),mu):=by
 let o:=in_of (xq (.cons r .nil) 39 _ [] J J mu #[ok,True.intro] (by simp only[Rows.dep];lia) (by simp only[Rows.cnt,cv];lia));let L:_:=fw (Rows.cons r .nil).rws;have D:-L<=1000:=by simp only[L,uE,Rows.rws_len,Rows.cnt];lia
 have c:dF (aC 0) bB vc L #[[J],mu] []=!(L.map λq=>.bl (gS q),mu):=by
  show Jc (λY=>∃o,Y=#[[o],mu]) (λY qb=>by let(o,e):=qb;rw[e]) (λq=>.bl (gS q)) #[J,O] () ?_ ?_
  . rintro x j Y ⟨o,rfl⟩;let(y,_,rfl):=ck.mp j;let(s,t,i):=y.head;rw[i];show#[_,O,Zp (.bl (gS (ZB (ZH s::t)))),#[[zS (ZB (ZH s::t))],mu],?_,O,_,O];show dj w0 O O O ?_;rfl
  . rintro y z Y Y1 ⟨o,rfl⟩ h;cases h;show#[_,O]
 show aO (Y:=#[[zS r.pv],mu]) (cT ?_);show jN (aA ((eF (Vk (aR (aA (pQ (aA O O) O O) O) O O O o) O O) c).trans O) O) O ?_;show ((cf (L.map λq=>.bl (gS q))).map _)=_;rw[rP,ic];have e:L.any gS=r.sp:=by have:=Rows.hots (.cons r .nil) #[ok,True.intro];rw[show (Rows.cons r .nil).sp=(r.sp||false) from O,Bool.or_false]at this;show this
 rw[<-e];simp[List.any_map]
noncomputable abbrev aU (l:List Nat):List PV:=l.map λ(i:Nat)=>PV.int (i:Nat)
abbrev SD:=List (List aV×List Nat)
noncomputable def iT (K:List aV) (i:Nat):SD->SD
 |[]=>[(K,[i])]
 |x::r=>if x.1=K then (x.1,x.2++[i])::r else x::iT K i r
noncomputable def j5:SD->List aV->Option (List Nat)
 |[],_=>J
 |x::r,K=>if x.1=K then !x.2 else j5 r K
noncomputable def pz:Nat->SD->s_
 |_,[]=>[]
 |N,x::r=>(x.1,ZA N)::pz (N+1) r
abbrev fM(S:SD):Mu:=S.map λx=>!(R (aU x.2))
theorem Vz:∀(N:Nat)(S:SD),-(pz N S)=-S
 |_,[]=>rfl
 |N,x::r=>by simp[pz,Vz]
theorem EE:∀l:s_,(l.map (·.1)).zip (l.map (·.2))=l
 |[]=>rfl
 |x::r=>by rw[dP,dP,m7,EE r]
theorem VB:∀{S:SD}{N i:Nat}{K:List aV},j5 S K=J->j0 (pz N S) K=J/\iT K i S=S++[(K,[i])]/\pz N (iT K i S)=pz N S++[(K,ZA (N+-S))]
 |[],N,i,K=>λ_=>#[O,O,O]
 |x::r,N,i,K=>λh=>by
  unfold j5 at h;split at h
  . cases h
  . rename_i j;let(h1,h2,q):=VB h;show#[?_,?_,?_]
    . show (if x.1=K then _ else _)=_;rw[ay j];show h1
    . show (if x.1=K then _ else _)=_;rw[ay j,h2];rfl
    . unfold iT;rw[ay j];show (x.1,PV.ptr N)::pz (N+1) (iT K i r)=_;rw[q,show N+1+-r=N+-(x::r) by simp only[bi];omega];rfl
theorem VD:∀{S:SD}{N i:Nat}{K:List aV}{l:List Nat},j5 S K=!l->∃j,j0 (pz N S) K=!(ZA (N+j))/\(fM S)[j]?=!(!(R (aU l)))/\(fM S).set j (!(R (aU (l++[i]))))=fM (iT K i S)/\pz N (iT K i S)=pz N S
 |[],N,i,K,l=>λh=>by cases h
 |x::r,N,i,K,l=>λh=>by
  unfold j5 at h;split at h
  . rename_i q;cases h;show#[0,?_,O,?_,?_]
    . show (if x.1=K then _ else _)=_;rw[aw q];rfl
    . unfold iT;rw[aw q];rfl
    . unfold iT;rw[aw q];rfl
  . rename_i q;let(j,h1,h2,z,D):=VD h;show#[j+1,?_,?_,?_,?_]
    . show (if x.1=K then _ else _)=_;rw[ay q,h1,show N+1+j=N+(j+1) by omega]
    . simpa using h2
    . unfold iT;rw[ay q];show _::(fM r).set j _=_::fM (iT K i r);rw[z]
    . unfold iT;rw[ay q];show (x.1,PV.ptr N)::pz (N+1) (iT K i r)=_;rw[D];rfl
def VY{K j:List aV}:(j5 (iT j i S) K).getD []=(j5 S K).getD []++if j=K then [i] else []:=by
 induction S with
 |nil=>
  show (if j=K then ![i] else J).getD []=[]++_;split<;>rfl
 |cons x r D=>
  unfold iT;by_cases z:x.1=j
  . rw[aw z];show (if x.1=K then !(x.2++[i]) else j5 r K).getD []=(if x.1=K then !x.2 else j5 r K).getD []++_;by_cases h:x.1=K
    . rw[aw h,aw h,aw (z▸h)];rfl
    . rw[ay h,ay h,ay (λq=>h ∅),da]
  . rw[ay z];show (if x.1=K then !x.2 else j5 (iT j i r) K).getD []=(if x.1=K then !x.2 else j5 r K).getD []++_;by_cases h:x.1=K
    . rw[aw h,aw h,ay (λq=>z ∅),da]
    . rw[ay h,ay h];show D
def oJ:Nat->List b9->SD->SD
 |_,[],S=>S
 |i,e::es,S=>oJ (i+1) es (iT e.key i S)
theorem Cd{K:List aV}:∀(es:List b9)(i:Nat)(S:SD),(j5 (oJ i es S) K).getD []=(j5 S K).getD []++pos K i es
 |[]=>λi S=>(da _).symm
 |e::es=>λi S=>by
  show (j5 (oJ (i+1) es (iT e.key i S)) K).getD []=_++if e.key=K then i::pos K (i+1) es else pos K (i+1) es
  rw[Cd es,VY,cx];split<;>rfl
theorem Nt{K:List aV}:∀S:SD,-(iT K i S)<=-S+1
 |[]=>br _
 |x::r=>by
  unfold iT;split
  . simp
  . have:=Nt (K:=K) (i:=i) r;simp only[bi];lia
def fx(m:Nat)(S:SD):Prop:=∀x∈S,-x.2<=m
theorem fx.put{K:List aV}:∀{S:SD},fx m S->fx (m+1) (iT K i S)
 |[]=>λ_ x j=>by rw[eR.mp j];simp
 |y::r=>λh x j=>by
  unfold iT at j;split at j
  . obtain rfl|j:=a_.mp j
    . have:=h y be;simp only[bX,bi,cv];lia
    . have:=h x (cw _ j);lia
  . obtain rfl|j:=a_.mp j
    . have:=h x be;lia
    . show fx.put (λz q=>h z (cw _ q)) x j
theorem VF:∀{S:SD}{K:List aV}{l:List Nat},j5 S K=!l->∃x∈S,x.2=l
 |[],K,l=>λh=>by cases h
 |y::r,K,l=>λh=>by
  unfold j5 at h;split at h
  . cases h;show#[y,be,O]
  . let(x,i,e):=VF h;show#[x,cw _ i,e]
theorem QT:∀(S:SD)(A:Mu),meltL (A++fM S) ((pz (-A) S).map (·.2))=!(S.map λx=>R (aU x.2),A++S.map λ_=>J)
 |[]=>λA=>by simp[pz,meltL]
 |x::r=>λA=>by
  let i:=QT r (A++[J]);rw[bX]at i;have q:(A++fM (x::r))[-A]?=!(!(R (aU x.2))):=by rw[eW (),gN];rfl
  have j:(A++fM (x::r)).set (-A) J=(A++[J])++fM r:=by rw[List.set_append_right _ _ (),gN,cx];rfl
  show meltL (A++fM (x::r)) (ZA (-A)::(pz (-A+1) r).map (·.2))=_;unfold meltL;rw[q];dsimp only;rw[j,show -A+1=-A+[(J:Option PV)].length from O,i,ic];simp
theorem Kq:∀(S:SD)(N:Nat)(K:List aV),j0 (((pz N S).map (·.1)).zip (S.map λx=>PV.lst (aU x.2))) K=(j5 S K).map λl=>R (aU l)
 |[]=>λN K=>rfl
 |x::r=>λN K=>by
  show (if x.1=K then !(PV.lst (aU x.2)) else j0 (((pz (N+1) r).map (·.1)).zip (r.map λx=>PV.lst (aU x.2))) K)=(if x.1=K then !x.2 else j5 r K).map _;by_cases h:x.1=K
  . rw[aw h,aw h];rfl
  . rw[ay h,ay h];show Kq r (N+1) K
noncomputable def Ax:Nat->List PV->List PV
 |_,[]=>[]
 |i,p::ps=>ZB [ZI (i:Nat),p]::Ax (i+1) ps
theorem VG:∀(ps:List PV)(i:Nat),(ps.zipIdx i).map (λx=>PV.tup [ZI (x.2:Nat),x.1])=Ax i ps
 |[]=>λi=>rfl
 |p::ps=>λi=>by rw[List.zipIdx_cons,dP,VG ps (i+1)];rfl
def Ed(ps:List PV):ue ps=Ax 0 ps:=VG ps 0
section
abbrev qz(N:Nat)(S:SD):PV:=.dx HK.hk ((pz N S).map (·.1)) ((pz N S).map (·.2))
noncomputable abbrev AE (o0 o1 o2 o3 o4 o5 o6 o7 o8 o9 u_:Option Lc) (mu:Mu):Ev:=#[[o0,o1,o2,o3,o4,o5,o6,o7,o8,o9,u_],mu]
abbrev EG:SF:=ou A9 (aa 4)
def Jt{e:b9}(i:e.ab=.non\/∃j:Nat,e.ab=ZI j):pX [ZH e.w,e.ab,ZI e.bl]=!e.key:=by unfold b9.key;rcases i with h|⟨j,h⟩<;>rw[h]<;>rfl
open Classical in
def VZ{e:b9}{F o1 o2 o6 o7 o8 D q:Option Lc}(Q:e.ab=.non\/∃j:Nat,e.ab=ZI j)(hS:-S<=1000)(hs:fx 1000 S):
 EG (AE F o1 o2 (!(Zs (qz (-A) S))) (zI (i:Nat)) (zS e.pv) o6 o7 o8 D q (A++fM S))=!(.nx (AE F o1 o2 (!(Zs (qz (-A) (iT e.key i S)))) (zI (i:Nat)) (zS e.pv) o6 o7 o8 D q (A++fM (iT e.key i S)))):=by
 let E:_:=AE F o1 o2 (!(Zs (qz (-A) S))) (zI (i:Nat)) (zS e.pv) o6 o7 o8 D q (A++fM S);have set:BR 3 (j7 (aa 5) eU (cM (af 3))) E=(match j0 (pz (-A) S) e.key with
  |some p=>!(Zp p,E)
  | none=>!(Zp (ZA (-(A++fM S))),#[E.vs.set 3 (!(Zs (.dx HK.hk ((pz (-A) S).map (·.1)++[e.key]) ((pz (-A) S).map (·.2)++[ZA (-(A++fM S))])))),(A++fM S)++[!(R [])]])):=by
  unfold BR;show ((pX [ZH e.w,e.ab,ZI e.bl]).bind _)=_;rw[Jt Q,bq,aw #[O,by rw[bo,Vz];lia],EE]
  all_goals (cases j0 (pz (-A) S) e.key<;>rfl)
 cases h:j5 S e.key with
 |none=>
  let(h1,h2,z):=VB h;rw[h1]at set;have N:-(A++fM S)=-A+-S:=by rw[bX,bo]
  show(xg set O (ws0:=[]) (ws:=[]) ?_ O O ?_ () O).trans ?_
  . rw[eW (),gN];rfl
  . show ((A++fM S)++[!(PV.lst [])])[-(A++fM S)]?=_;rw[eW (),gN];rfl
  . show some (Fl.nx #[_,((A++fM S)++[!(PV.lst [])]).set (-(A++fM S)) _])=_;rw[List.set_append_right _ _ (),gN,qz,z,h2,cy,cy,N,show fM (S++[(e.key,[i])])=fM S++[!(R (aU [i]))] from cy,<-cx];rfl
 |some l=>
  let(j,h1,h2,z,W):=VD h;rw[h1]at set;let(x,hx,ex):=VF h;let N:=hs x hx;have g:(A++fM S)[-A+j]?=!(!(R (aU l))):=by rw[eW (),show -A+j-(-A)=j by omega];show h2
  show(xg set O (p:=ZI (i:Nat)) g (Y2:=E) O O g ∅ O).trans ?_;rw[List.set_append_right _ _ (),show -A+j-(-A)=j by lia,show aU l++[PV.int (i:Nat)]=aU (l++[i]) by simp[aU],z,qz,W]
theorem QV{Q o1 o2 o6 o7 o8 W q:Option Lc}:∀(es:List b9)(i:Nat)(S:SD)(o4 o5:Option Lc),(∀e∈es,e.ab=.non\/∃j:Nat,e.ab=ZI j)->-S+-es<=1000->∀m,fx m S->m+-es<=1000->
 ∃D z,eN tz EG (Ax i (c_ es)) (AE Q o1 o2 (!(Zs (qz (-A) S))) o4 o5 o6 o7 o8 W q (A++fM S))=!(.nx (AE Q o1 o2 (!(Zs (qz (-A) (oJ i es S)))) D z o6 o7 o8 W q (A++fM (oJ i es S))))
 |[]=>λi S o4 o5 _ _ m _ _=>#[o4,o5,O]
 |e::es=>λi S o4 o5 N hl m hs hm=>by simp only[bi]at hl hm;let hp:=Nt (K:=e.key) (i:=i) S;let(D,z,ih):=QV es (i+1) (iT e.key i S) (zI (i:Nat)) (zS e.pv) (λx F=>N x (cw _ F)) () (m+1) hs.put ();show#[D,z,gw O (VZ (N e be) () λx F=>by have:=hs x F;lia) ih]
end
theorem VH{α β:Type}:∀l:List (α×β),(l.map (·.1)).zip (l.map (·.2))=l
 |[]=>rfl
 |x::r=>by rw[dP,dP,m7,VH r]
def Hs(h1:fv Y=!(y,Y1))(i:y.pv=p)(h2:fo Y1=!(x,Y2))(j:x.pv=ZA n)(z:Y2.mu[n]?=!(!(gf C l)))(q:-l<1000):BP C f fo fv Y=!(.nx #[Y2.vs,Y2.mu.set n (!(gf C (su f p l)))]):=by unfold BP;rw[h1,bq,h2,bq,j];dsimp only;rw[z];unfold gf;dsimp only;rw[aw #[O,by rw[bo];show q],VH,i]
def sZ(h2:fo Y=!(x,Y1))(q:x.pv=ZA n)(j:Y1.mu[n]?=!(!(gf C l)))(i:sr l f=!p):jB C f fo Y=!(Zp p,Y1):=by unfold jB;rw[h2,bq,q];dsimp only;rw[j];unfold gf;dsimp only;rw[aw O,VH,i];rfl
def xG(h1:fo Y=!(x,Y1))(z:x.pv=ZA n)(D:Y1.mu[n]?=!(!(gf C l)))(j:(l.map (·.1)).contains m=M)(h2:a Y1=!(ls,Y2))(i:ls.map Lc.pv=ps)(q:g (ZA n::ps) Y2.mu=!(r,hV)):cX C m g fo a Y=!(r,#[Y2.vs,hV]):=by unfold cX;rw[h1,bq,z];dsimp only;rw[D];unfold gf;dsimp only;rw[aw #[O,j],h2,bq,i,q];rfl
def V_(h:a Y=!(ls,Y1))(i:ls.map Lc.pv=ps)(h2:g (ZA (-Y1.mu)::ps) (Y1.mu++[!(gf C [])])=!(Zp .non,hV)):FT C g a Y=!(Zp (ZA (-Y1.mu)),#[Y1.vs,hV]):=by unfold FT;rw[h,bq,i];rw[show g (ZA (-Y1.mu)::ps) (Y1.mu++[!(.obj C [] [])])=_ from h2];rfl
theorem Ju:∀l:PD,-(vN k v l)=-l
 |[]=>rfl
 |x::r=>by simp[vN,Ju r]
def Yh:-(uV l k v)<=-l+1:=by
 unfold uV;split
 . rw[Ju];lia
 . simp
section
abbrev vi:EF:=bU (dh (aa 9) bJ) 2 [] kl bB (aa 0)
theorem QW:∀(xs:List Str)(i o1:Option Lc)(acc:List PV),-acc+-xs<=1000->dF kl bB (aa 0) (xs.map λx=>ZB [ZH x,.non]) #[[i,o1],mu] acc=!(acc++xs.map PV.str,mu)
 |[]=>λi o1 acc _=>by simp[dF]
 |x::xs=>λi o1 acc h=>by simp only[bi]at h;show fY (Y2:=#[[zT x,!(Zp .non)],mu]) O O () ((QW xs _ _ (acc++[ZH x]) ∅).trans ?_);simp
def EI(f:Fn)(p:PV):Prop:=∃xs:List Str,f.params=xs.map (λx=>ZB [ZH x,.non])/\-xs<=4/\Sh xs/\p=R (xs.map PV.str)
theorem Nu:∀l:PD,iG (vN k v l) k'=if k=k' then (iG l k).map λ_=>v else iG l k'
 |[]=>by simp[vN,iG]
 |x::r=>by have:=Nu (k:=k) (k':=k') (v:=v) r;grind [vN,iG]
theorem Nv:∀l:PD,iG l k=J->iG (l++[(k,v)]) k'=if k=k' then !v else iG l k'
 |[]=>λ_=>rfl
 |x::r=>λh=>by have:=Nv (k:=k) (k':=k') (v:=v) r;grind [iG]
def QX:iG (uV l k v) k'=if k=k' then !v else iG l k':=by
 unfold uV;cases h:iG l k with
 |none=>show Nv l h
 |some w=>rw[Nu,h];rfl
def Wp{j o1 o2 o3 o4 o5 o8 i:Option Lc}(q:∃xs:List Str,f.params=xs.map (λx=>ZB [ZH x,.non])/\-xs<=4/\Sh xs)(F:-d<=1000):∃p,EI f p/\
 FJ 6 (aa 7) vi (AE j o1 o2 o3 o4 o5 (!(Zs (nG d))) (zT f.name) o8 (zL f.params) i mu)=!(.nx (AE j o1 o2 o3 o4 o5 (!(Zs (nG (uV d (.inr f.name) p)))) (zT f.name) o8 (zL f.params) i mu)):=by
 let(xs,e,z,D):=q;let E:_:=AE j o1 o2 o3 o4 o5 (!(Zs (nG d))) (zT f.name) o8 (zL f.params) i mu;show#[R (xs.map PV.str),#[xs,e,z,D,O],?_];have c:vi E=!(Zs (R (xs.map PV.str)),E):=eF (Y1:=E) () (by rw[e];show QW xs J J [] ∅);unfold FJ;rw[c,bq];show (if -(d.map (·.1))<100000 then _ else _)=_;rw[aw ∅,VH];rfl
def Tc(fs:List Fn)(d:PD):Prop:=∀f∈fs,∃p,EI f p/\iG d (.inr f.name)=!p
theorem QZ{o0 o1 o2 o3 o4 o5:Option Lc}:∀(fs:List Fn)(d:PD)(o7 o8 F i:Option Lc),(∀f∈fs,∃xs:List Str,f.params=xs.map (λx=>ZB [ZH x,.non])/\-xs<=4/\Sh xs)->(fs.map Fn.name).Nodup->-d+-fs<=1000->
 ∃z W N Q j,Tc fs z/\(∀x∉fs.map Fn.name,iG z (.inr x)=iG d (.inr x))/\eN A_ (FJ 6 (aa 7) vi) (fs.map Fn.pv) (AE o0 o1 o2 o3 o4 o5 (!(Zs (nG d))) o7 o8 F i mu)=!(.nx (AE o0 o1 o2 o3 o4 o5 (!(Zs (nG z))) W N Q j mu))
 |[]=>λd o7 o8 F i _ _ _=>#[d,o7,o8,F,i,λf hf=>(by cases hf),λ_ _=>O,O]
 |f::fs=>λd o7 o8 F i h nd hl=>by
  simp only[bi]at hl;let(n1,n2):=fI.mp nd;let(p,hp,st):=Wp (d:=d) (h f be) ();let Mb:=Yh (k:=.inr f.name) (v:=p) (l:=d);let(z,W,N,Q,j,k1,k2,ih):=QZ fs (uV d (.inr f.name) p) (zT f.name) (zS f.rank) (zL f.params) (zL f.rows.pvs) (λx D=>h x (cw _ D)) n2 ();show#[z,W,N,Q,j,λg hg=>?_,λx D=>?_,gw O st ih]
  . obtain rfl|hg:=a_.mp hg
    . show#[p,hp,by rw[k2 _ n1,QX,aw O]]
    . show k1 g hg
  . rw[k2 x λq=>D (cw _ q),QX,ay];intro q;show D ∅
abbrev LX(N:Nat)(S:SD):PV:=.dx HK.hk ((pz N S).map (·.1)) (S.map λx=>R (aU x.2))
abbrev Q0(es:List b9)(N:Nat)(hd:PV):FD:=[("told",R (c_ es)),("lists",LX N (oJ 0 es [])),("heads",hd)]
def WA(P:Pg):∀e∈P.es,e.ab=.non\/∃j:Nat,e.ab=ZI j:=by
 have f:∀(fs:List Fn)(k:Nat),∀e∈qJ fs k,e.ab=.non\/∃j:Nat,e.ab=ZI j:=by
  intro fs;induction fs with
  |nil=>intro k e i;cases i
  |cons f fs q=>
   intro k e i;obtain i|i:=cr.mp i
   . show(Rows.abs f.rows f.name .non 0 k e i).num (k:=0) (Zl O)
   . show q _ e i
 intro e i;obtain i|i:=cr.mp i
 . show f _ _ e i
 . show(Rows.abs P.rows "main" .non 0 _ e i).num (k:=0) (Zl O)
theorem es_len(P:Pg):-P.es=d8 P.fns+P.rows.cnt:=by unfold Pg.es;rw[bX,BZ,Rows.es_len]
def Td{α:Type}{A B:List α}{x:α}:(A++x::B)[-A]?=!x:=by rw[eW (),gN];rfl
def Te{α:Type}{A B:List α}{x y:α}:(A++x::B).set (-A) y=A++y::B:=by grind
def WB{P:Pg}(ok:P.ok)(A:Mu):∃d B,Tc P.fns d/\kI [ZA (-A),P.pv] (A++[!(gf "Plan" [])])=!(Zp .non,A++some (gf "Plan" (Q0 P.es (-A+1) (nG d)))::B):=by
 let hc:=ok.ct;let hlen:=es_len P;let i:Mu:=A++[!(gf "Plan" [])];have ox:-i=-A+1:=by simp[i]
 let S:_:=oJ 0 P.es [];let o0:Option Lc:=zS (ZA (-A));let o1:Option Lc:=zS P.pv;let o2:Option Lc:=zL (c_ P.es);let(p4,z,e1):=QV P.es 0 [] J J (WA P) ∅ 0 (λx hx=>by cases hx) ();let(d,D,N,p9,j,F,_,e2):=QZ P.fns [] J J J J ok.pm ok.nd (by have:=ok.fl;simp only[cv];lia);let n1:=Pr (mu:=i) ok;let T:PV:=R (c_ P.es);let q:Mu:=A++[!(gf "Plan" [("told",T)])];let B:Mu:=S.map λ_=>J;have EJ:-q=-i:=by simp[i,q]
 let hm:=QT S q;rw[EJ]at hm;let Q:_:=AE o0 o1 o2 (!(Zs (qz (-i) S))) p4 z (!(Zs (nG d))) D N p9 j;let Q2:_:=AE o0 o1 o2 (zS (qz (-i) S)) p4 z (!(Zs (nG d))) D N p9 j;let Q3:_:=AE o0 o1 o2 (zS (qz (-i) S)) p4 z (zS (nG d)) D N p9 j;show#[d,B,F,?_];have W:∀{g:SF}{Y1:Ev},g (env0 11 [ZA (-A),P.pv] i)=!(.nx Y1)->cY 11 g [ZA (-A),P.pv] i=!(Zp .non,Y1.mu):=λh=>P8 h;show W (Y1:=Q3 (A++some (gf "Plan" (Q0 P.es (-A+1) (nG d)))::B)) ?_;show aH (bu (aR O O O O n1) O O) ?_;show aH O ?_;show aH (eO ?_ e1) ?_
 . rw[<-Ed,show i++fM []=i from da _];rfl
 show aH O ?_;show aH () ?_;show aH (Y':=Q (q++fM S)) ((Hs (C:="Plan") (f:="told") (l:=[]) O O O O ?_ ()).trans ?_) ?_
 . rw[cx];show Td
 . show some (Fl.nx #[_,(A++[!(gf "Plan" [])]++fM S).set (-A) _])=!(Fl.nx #[_,A++[!(gf "Plan" [("told",T)])]++fM S]);rw[cx,cx,List.singleton_append,Te];rfl
 show aH (Y':=Q2 (A++some (gf "Plan" [("told",T),("lists",LX (-i) S)])::B)) ((Hs (C:="Plan") (f:="lists") (l:=[("told",T)]) (y:=Zp (LX (-i) S)) (Y1:=Q2 (q++B)) ?_ O O O ?_ ∅).trans ?_) ?_
 . show ((meltL (q++fM S) ((pz (-i) S).map (·.2))).map _)=_;rw[hm];rfl
 . rw[cx];show Td
 . show some (Fl.nx #[_,(A++[!(gf "Plan" [("told",T)])]++B).set (-A) _])=!(Fl.nx #[_,A++some (gf "Plan" [("told",T),("lists",LX (-i) S)])::B]);rw[cx,List.singleton_append,Te];rfl
 show(Hs (C:="Plan") (f:="heads") O O O O Td ∅).trans ?_;show some (Fl.nx #[_,(A++some (gf "Plan" [("told",T),("lists",LX (-i) S)])::B).set (-A) _])=!(Fl.nx #[_,A++some (gf "Plan" (Q0 P.es (-A+1) (nG d)))::B]);rw[Te,<-ox];rfl
end
abbrev c7(l:List Str):List PV:=l.map PV.str
abbrev lF(k:Nat):Str:=(toString ((k:Nat):Int):Str)
def Gq:∀k<256,ψ (ZI ((k:Nat):Int))=!(lF k)/\-("at " : Str)+-(lF k)<=1000/\gp [ZI ((k:Nat):Int)]=zT (lF k):=by
 have g:∀k<256,-("at " : Str)+-(lF k)<=1000/\((k:Nat):Int).natAbs.log2<1920:=by decide +kernel
 intro k hk;let(j,i):=g k hk;show#[?_,j,?_]
 . show (if ((k:Nat):Int).natAbs.log2<1920 then (if -(lF k)<=100000 then !(lF k) else J) else J)=_;rw[aw i,aw ()]
 . show (if ((k:Nat):Int).natAbs.log2<1920 then !(Lc.sh (ZH (lF k))) else J)=_;rw[aw i]
section
structure jb(mu:Mu)(n:Nat)(es:List b9):Prop where
 ex:∃N hd,mu[n]?=!(!(gf "Plan" (Q0 es N hd)))
def Ht(h:es[k]?=!e):fO (c_ es) ((k:Nat):Int)=!e.pv:=PN ∅
def tu(h:jb mu n es)(he:es[k]?=!e):dY [ZA n,ZI (k:Nat)] mu=!(Zp e.r.pv,mu):=by let(N,j,i):=h;let E:Ev:=#[[zS (ZA n),zI (k:Nat)],mu];show aO (cT (dG (Y2:=E) (l:=Zp e.pv) (dG (sZ O O i O) O O O (λn h=>by cases h) ?_) O O O (λn h=>by cases h) O));show (fO (c_ es) ((k:Nat):Int)).map _=_;rw[Ht he];rfl
open Classical in
def Eg(h:jb mu n es)(he:es[k]?=!e):dZ [ZA n,ZI (k:Nat),ZI i] mu=!(Zs (R (aU (pos (eM e.w k i) 0 es))),mu):=by
 let(N,F,j):=h;let E:Ev:=#[[zS (ZA n),zI (k:Nat),zI i],mu];have hk:aX AT E=!(Zp (ZB [ZH e.w,ZI (k:Nat),ZI i]),E):=by show dm (aA (dG (l:=Zp e.pv) (dG (sZ O O j O) O O O (λn h=>by cases h) ?_) O O O (λn h=>by cases h) O) O) O O;show (fO (c_ es) ((k:Nat):Int)).map _=_;rw[Ht he];rfl
 let S:_:=oJ 0 es [];have D:(j5 S (eM e.w k i)).getD []=pos (eM e.w k i) 0 es:=Cd es 0 [];have g:∃l,yD (jB "Plan" "lists" (aa 0)) AU E=!(l,E)/\l.pv=R (aU ((j5 S (eM e.w k i)).getD [])):=by
  unfold yD;rw[sZ (C:="Plan") (f:="lists") O O j O,bq];show ∃l,((aX AT E).bind _)=!(l,E)/\_;rw[hk,bq];show ∃l,(if HK.hk=HK.hk then !((match j0 (((pz N S).map (·.1)).zip (S.map λx=>PV.lst (aU x.2))) (eM e.w k i) with |some p=>Lc.sh p |none=>Zs (R [])),E) else J)=!(l,E)/\_;rw[aw O,Kq];cases j5 S (eM e.w k i) with
  |none=>show#[_,O,O]
  |some l=>show#[_,O,O]
 let(l,q,z):=g;show aO (cT (jN (ps:=[R (aU (pos (eM e.w k i) 0 es))]) (Y1:=E) (aA q O) ∅ O))
def Rows.sps:Rows->List Bool
 |.nil=>[]
 |.cons r rs=>r.sp::rs.sps
theorem Rows.sps_any:∀rs:Rows,rs.sps.any id=rs.sp
 |.nil=>rfl
 |.cons r rs=>by simp[Rows.sps,Rows.sp,Rows.sps_any rs]
theorem Rows.sps_len:∀rs:Rows,-rs.sps<=rs.cnt
 |.nil=>br _
 |.cons r rs=>by have:=Rows.sps_len rs;have:=r.cnt_pos;simp only[Rows.sps,Rows.cnt,bi];lia
abbrev EK:EF:=aN yM AV
theorem Q4(h:jb mu n es):∀(rs:Rows)(s:Nat)(o:Option Lc)(acc:List PV),qx es w ab bl s rs->rs.ok->rs.dep<=38->-acc+rs.cnt<=900->dF (aC 0) bB EK (aU (rs.nums s)) #[[o,zS (ZA n)],mu] acc=!(acc++rs.sps.map PV.bl,mu)
 |.nil=>λs o acc _ _ _ _=>by simp[Rows.nums,Rows.sps,dF]
 |.cons r rs=>λs o acc hs ok q D=>by simp only[Rows.dep]at q;simp only[Rows.cnt]at D;let h1:=r.cnt_pos;let(F,z):=hs.cons;let E:Ev:=#[[zI (s:Nat),zS (ZA n)],mu];let(N,i,j):=h;have st:EK E=!(Zp (.bl r.sp),E):=aR (aA (xG O O j () O O (tu #[N,i,j] F.get)) O) O O O (Js ok.1 () ());show fY O st () ((Q4 #[N,i,j] rs (s+r.cnt) _ (acc++[.bl r.sp]) z ok.2 () ∅).trans ?_);simp[Rows.sps]
def Pu{rs:Rows}(h:jb mu n es)(hs:qx es w ab bl s rs)(ok:rs.ok)(i:rs.dep<=38)(j:rs.cnt<=900):fV [ZA n,R (aU (rs.nums s))] mu=!(Zp (.bl rs.sp),mu):=by let E:Ev:=#[[zS (ZA n),zL (aU (rs.nums s))],mu];let c:=Q4 h rs s J [] hs ok i ∅;show aO (Y:=E) (cT ?_);show jN (aA ((eF () c).trans O) O) O ?_;show ((cf (rs.sps.map PV.bl)).map _)=_;rw[show rs.sps.map PV.bl=rs.sps.map (λb=>PV.bl (id b)) from O,rP,ic,List.map_id];rw[Rows.sps_any]
def Rows.lnum:Rows->Nat->Nat
 |.nil,k=>k
 |.cons _ .nil,k=>k
 |.cons r (.cons r' rs),k=>(Rows.cons r' rs).lnum (k+r.cnt)
theorem Rows.nums_last:∀(r:ag)(rs:Rows)(s:Nat),∃a,(Rows.cons r rs).nums s=a++[(Rows.cons r rs).lnum s]
 |r,.nil=>λs=>#[[],O]
 |r,.cons i rs=>λs=>by let(a,e):=Rows.nums_last i rs (s+r.cnt);show#[s::a,?_];show s::(Rows.cons i rs).nums (s+r.cnt)=_;rw[e];rfl
abbrev BE(n k:Nat)(p:PV)(acc:List PV)(o4:Option Lc)(mu:Mu):Ev:=#[[zS (ZA n),zI (k:Nat),zS p,zO acc,o4],mu]
abbrev EL(f:Nat):SF:=cC AZ
 (gb 3 (aN (dJ f) AW))
 bR
def Q5{rs:Rows}(h:jb mu n es)(hs:qx es w ab bl s rs)(ok:rs.ok)(hd:rs.dep<=38)(Q:rs.cnt<=900)(hz:-acc+-(rs.lbt s)<=1000)
 (F:∀r i,rs=.cons r i->dJ f [ZA n,ZI (rs.lnum s:Nat)] mu=!(Zs (R (c7 (rs.lbt s))),mu)):
 EL f (BE n k p acc (zL (aU (rs.nums s))) mu)=!(.nx (BE n k p (acc++c7 (if rs.sp then rs.lbt s else [])) (zL (aU (rs.nums s))) mu)):=by
 let E:_:=BE n k p acc (zL (aU (rs.nums s))) mu;let(N,q,z):=h;have t:tT TL qW E=!(rs.sp,E):=jU (xG (Y2:=E) O O z () O O (Pu #[N,q,z] hs ok hd Q)) O;cases j:rs.sp with
 |false=>
  rw[j]at t;show(lU t).trans ?_;simp[c7];rfl
 |true=>
  rw[j]at t;show(lR t).trans ?_;cases rs with
  |nil=>cases j
  |cons r i=>
   let D:=F r i O;let(a,ea):=Rows.nums_last r i s;have W:aJ (aa 4) (jq (af 1)) E=!(Zp (ZI ((Rows.cons r i).lnum s:Nat)),E):=by show dG O O O O (λn h=>by cases h) ?_;show (fO (aU ((Rows.cons r i).nums s)) (-1)).map _=_;rw[ea,aU,cy,List.map_singleton,qN];rfl
   show(jZ O (aR (aA O (aA W O)) O O O D) O O ∅ O).trans ?_;rfl
end
section
def wB{o4:Option Lc}:aJ (aa 2) (af 0) (BE n k (ZB (ZH w::ps)) acc o4 mu)=!(Zp (ZH w),BE n k (ZB (ZH w::ps)) acc o4 mu):=
 dG O O O O (λn h=>by cases h) (by show (fO (PV.str w::ps) 0).map _=_;rw[iE];rfl)
abbrev WC(f:Nat):SF:=aF (cC tx
 AY
 bR)
 (aF (cC AX
 (fX A8 (aC 4)
 (EL f))
 bR)
 (gZ 3))
def Kr{o4:Option Lc}(h:jb mu n es)(hs:qy es w ab bl k r)(hk:k<256)(j:WC f (BE n k r.pv [ZH (gs k)] J mu)=!(.rt (Zs (R L)) #[[zS (ZA n),zI (k:Nat),zS r.pv,J,o4],mu])):
 dJ (f+1) [ZA n,ZI (k:Nat)] mu=!(Zs (R L),mu):=by
 let(z,Q,F):=Gq k hk;let i:=tu h hs.get;let(N,D,q):=h;show aO (Y:=#[[zS (ZA n),zI (k:Nat),zS r.pv,J,o4],mu]) ?_;show aH (bu (xG O O q () O O i) O O) ?_;show aH (bu (pQ (aA (Ga O z ()) O) O O) O O) j
mutual
theorem VJ(h:jb mu n es):∀(r:ag)(f k:Nat)(w:Str)(ab:PV)(bl:Int),qy es w ab bl k r->r.ok->r.dep<=f->r.dep<=37->k+r.cnt<=256->r.bl<=900->dJ f [ZA n,ZI (k:Nat)] mu=!(Zs (R (c7 (r.bt k))),mu)
 |.leaf x ps=>λf k w ab bl hs ok F j z W=>by simp only[ag.cnt]at z;obtain⟨m,rfl⟩:∃m,f=m+1:=#[f-1,by simp only[ag.dep]at F;lia];let((h1,h2,h3),_):=ok;show Kr h hs () ((bG (bw wB) h3).trans ((bG (bw wB) h1).trans O))
 |.call x m as=>λf k w ab bl hs ok F j z W=>by
  simp only[ag.cnt]at z;obtain⟨f,rfl⟩:∃m,f=m+1:=#[f-1,by simp only[ag.dep]at F;lia];let(_,hn,_):=ok;let P:_:=(ag.call x m as).pv;show Kr h hs () ((nA (Y2:=BE n k P [ZH (gs k),ZH ("leave " ++ m)] J mu) (bw wB) () ?_).trans ((bG (bw wB) ()).trans O));show pR (l:=Zp (ZH ("leave " ++ m))) (Y1:=BE n k P [ZH (gs k)] J mu) O ?_ O O ∅ O;show dj O O O O ?_;show (if -("leave " : Str)+-m<=100000 then _ else _)=_;have h6:-("leave " : Str)=6:=by decide +kernel
  rw[aw ()]
 |.wh x b=>λf k w ab bl hs ok F j z W=>by simp only[ag.cnt]at z;obtain⟨m,rfl⟩:∃m,f=m+1:=#[f-1,by simp only[ag.dep]at F;lia];show Kr (o4:=J) h hs () ((bG (bw wB) ()).trans ((bG (bw wB) ()).trans O))
 |.iff x b c=>λf k w ab bl hs ok F j z W=>by
  simp only[ag.cnt]at z;simp only[ag.dep]at F j;simp only[ag.bl]at W;obtain⟨m,rfl⟩:∃m,f=m+1:=#[f-1,()];let(s1,s2):=hs.iff;have p0:pos (eM w k 0) 0 es=b.nums (k+1):=hs.pos 0;have p1:pos (eM w k 1) 0 es=c.nums (k+1+b.cnt):=hs.pos 1;let b0:=Eg (i:=0) h hs.get;let b1:=Eg (i:=1) h hs.get;have q0:dZ [ZA n,ZI (k:Nat),ZI 0] mu=!(Zs (R (aU (b.nums (k+1)))),mu):=by rw[b0,p0]
  have q1:dZ [ZA n,ZI (k:Nat),ZI 1] mu=!(Zs (R (aU (c.nums (k+1+b.cnt)))),mu):=by rw[b1,p1]
  let P:_:=(ag.iff x b c).pv;let D:List PV:=[ZH (gs k)];let Q:_:=D++c7 (if b.sp then b.lbt (k+1) else []);let A2:_:=Q++c7 (if c.sp then c.lbt (k+1+b.cnt) else []);let l1:=Rows.lbt_len b (k+1);let l2:=Rows.lbt_len c (k+1+b.cnt);have ox:-Q<=1+b.bl:=by simp only[Q,D,bX,bo,bi,cv];split<;>(try simp only[cv])<;>lia
  let e1:=Q5 (f:=m) (k:=k) (p:=P) (acc:=D) h s1 ok.2.1 () () (by simp only[D,bi,cv];lia) λr rs e=>Ce h b m (k+1) w (ZI (k:Nat)) 0 #[r,rs,e] s1 ok.2.1 () () () ();let e2:=Q5 (f:=m) (k:=k) (p:=P) (acc:=Q) h s2 ok.2.2 () () () λr rs e=>Ce h c m (k+1+b.cnt) w (ZI (k:Nat)) 1 #[r,rs,e] s2 ok.2.2 () () () ();let(N,WE,hm):=h;let E:_:=BE n k P D J mu;have me:∀(i:Int)(l:List PV),dZ [ZA n,ZI (k:Nat),ZI i] mu=!(Zs (R l),mu)->cX "Plan" "block" dZ (aa 0) (aj (aa 1) (aj (af i) ao)) E=!(Zs (R l),E):=λi l q=>xG (n:=n) (x:=Zp (ZA n)) (Y1:=E) (Y2:=E) (ls:=[Zp (ZI (k:Nat)),Zp (ZI i)]) O O hm (by show (["told","lists","heads"]:List Str).contains "block"=M;decide +kernel) O O q;show Kr (o4:=zL (aU (c.nums (k+1+b.cnt)))) #[N,WE,hm] hs () ((bG (bw wB) ()).trans ((nA (Y2:=BE n k P A2 (zL (aU (c.nums (k+1+b.cnt)))) mu) (bw wB) () ?_).trans ?_))
  . show eO (xs:=[R (aU (b.nums (k+1))),R (aU (c.nums (k+1+b.cnt)))]) (Y1:=E) (dC (l:=Zp (ZB [R (aU (b.nums (k+1))),R (aU (c.nums (k+1+b.cnt)))])) (dm (ls:=[Zs (R (aU (b.nums (k+1)))),Zs (R (aU (c.nums (k+1+b.cnt))))]) (aA (me 0 _ q0) (aA (me 1 _ q1) O)) O O) O) ?_;show Np (Y1:=BE n k P D (zL (aU (b.nums (k+1)))) mu) (Y3:=BE n k P Q (zL (aU (c.nums (k+1+b.cnt)))) mu) O e1 O e2
  . have eA:A2=c7 ((ag.iff x b c).bt k):=by simp only[A2,Q,D,ag.bt,c7,cy,dP,j1]
    rw[<-eA];rfl
theorem Ce{mu:Mu}{n:Nat}{es:List b9}(h:jb mu n es):∀(rs:Rows)(f s:Nat)(w:Str)(ab:PV)(bl:Int),(∃r D,rs=.cons r D)->qx es w ab bl s rs->rs.ok->rs.dep<=f+1->rs.dep<=38->s+rs.cnt<=256->rs.bl<=900->dJ f [ZA n,ZI (rs.lnum s:Nat)] mu=!(Zs (R (c7 (rs.lbt s))),mu)
 |.nil=>λf s w ab bl z6 _ _ _ _ _ _=>by let(_,_,e):=z6;cases e
 |.cons r .nil=>λf s w ab bl _ hs ok W j hc Q=>by simp only[Rows.dep,Rows.cnt,Rows.bl]at W j hc Q;show VJ h r f s w ab bl hs.cons.1 ok.1 () () () ()
 |.cons r (.cons i rs)=>λf s w ab bl _ hs ok W j hc Q=>by
  have z:(Rows.cons i rs).dep<=f+1:=d4 (Nat.le_max_right _ _) W;have q:(Rows.cons i rs).dep<=38:=d4 (Nat.le_max_right _ _) j;have F:(Rows.cons i rs).bl<=900:=d4 (Nat.le_max_right _ _) Q;have N:s+r.cnt+(Rows.cons i rs).cnt<=256:=by have:(Rows.cons r (.cons i rs)).cnt=r.cnt+(Rows.cons i rs).cnt:=O;lia
  show Ce h (.cons i rs) f (s+r.cnt) w ab bl #[i,rs,O] hs.cons.2 ok.2 z q N F
end
end
def jO(w:Str):Bool:=("if"== w)||(("while"== w)||false)
def Hu(h:f8 w):jO w=M:=by unfold jO;rw[xx h.1,xx h.2.1];rfl
section
def gm:Nat->List ag->List PV
 |_,[]=>[]
 |i,r::rs=>ZB [ZI (i:Nat),r.pv]::gm (i+1) rs
theorem xH:∀(i:Nat)(a b:List ag),gm i (a++b)=gm i a++gm (i+-a) b
 |i,[]=>λb=>rfl
 |i,r::a=>λb=>by show _::gm (i+1) (a++b)=_::(gm (i+1) a++_);rw[xH (i+1) a b,show i+-(r::a)=i+1+-a by simp only[bi];omega]
theorem xJ:∀(i:Nat)(a:List ag),-(gm i a)=-a
 |i,[]=>rfl
 |i,r::a=>by simp[gm,xJ]
abbrev MA(mu:Mu)(t:Nat)(acc:List PV):Mu:=mu.set t (!(R acc))
def Gr(h:t< -mu):(MA mu t acc)[t]?=!(!(R acc)):=hW h
def WG:(MA mu t acc).set t (!(R acc'))=MA mu t acc':=kK ..
abbrev GE(X:PV)(f0 t k:Nat)(o4 o5:Option Lc)(mu:Mu):Ev:=#[[zS X,zI (f0:Nat),zS (ZA t),zI (k:Nat),o4,o5],mu]
abbrev Yi_:TF:=tT D_ aY
def wG{o5:Option Lc}:aJ (aa 4) (af 0) (GE X f0 t k (zS (ZB (ZH w::ps))) o5 mu)=!(Zp (ZH w),GE X f0 t k (zS (ZB (ZH w::ps))) o5 mu):=
 dG O O O O (λn h=>by cases h) (by show (fO (PV.str w::ps) 0).map _=_;rw[iE];rfl)
def Zk{o5:Option Lc}:Yi_ (GE X i t k (zS (ZB (ZH w::ps))) o5 mu)=!(jO w,GE X i t k (zS (ZB (ZH w::ps))) o5 mu):=
 jU (bC wG O O) O
abbrev vj(n:Nat):SF:=aL 3 (aN (fL n) D8)
abbrev Zm(n:Nat):SF:=aF D9
 (aF (aL 3 (au bf (aa 3) (af 1)))
 (cC Yi_
 (fX ui (aC 5)
 (vj n))
 bR))
def Gs{r:ag}{o5:Option Lc}(j:t< -mu)(z:-acc<1000)(q:Yi_ (GE X i t (k+1) (zS r.pv) o5 (MA mu t (acc++[ZB [ZI (k:Nat),r.pv]])))=!(b,GE X i t (k+1) (zS r.pv) o5 (MA mu t (acc++[ZB [ZI (k:Nat),r.pv]]))))
 (h:(if b then fX ui (aC 5) (vj n) else bR) (GE X i t (k+1) (zS r.pv) o5 (MA mu t (acc++[ZB [ZI (k:Nat),r.pv]])))=ZN):
 Zm n (GE X i t k (zS r.pv) o5 (MA mu t acc))=ZN:=by
 show aH (xg O O (Gr j) O O (Gr j) () WG) ?_;cases b with
 |true=>show(lR q).trans h
 |false=>show(lU q).trans h
def Nx{o4:Option Lc}(h:fL n [p,ZI (k:Nat),ZA t] mu=!(Zp (ZI (k':Nat)),f6)):vj n (GE X f0 t k o4 (zS p) mu)=!(.nx (GE X f0 t k' o4 (zS p) f6)):=
 bu (aR O O O O h) O O
def Ks{rs:Rows}(h:∃o4 o5,eN (aC 4) (Zm n) rs.pvs (GE (R rs.pvs) k t k J J (MA mu t acc))=!(.nx (GE (R rs.pvs) k t (k+rs.cnt) o4 o5 (MA mu t (acc++gm k rs.rws))))):fL (n+1) [R rs.pvs,ZI (k:Nat),ZA t] (MA mu t acc)=!(Zp (ZI ((k+rs.cnt:Nat):Int)),MA mu t (acc++gm k rs.rws)):=by let(o4,o5,h):=h;show aO (Y:=#[[zL rs.pvs,zI (k:Nat),zS (ZA t),J,o4,o5],MA mu t (acc++gm k rs.rws)]) ?_;show aH O (aH () O)
mutual
theorem WH(z:t< -mu):∀(r:ag)(n:Nat)(X:PV)(j k:Nat)(acc:List PV)(o5:Option Lc),r.ok->r.dep<=n->-acc+r.cnt<=1000->∃p5,Zm n (GE X j t k (zS r.pv) o5 (MA mu t acc))=!(.nx (GE X j t (k+r.cnt) (zS r.pv) p5 (MA mu t (acc++gm k r.rws))))
 |.leaf x ps=>λn X j k acc o5 ok F q=>by simp only[ag.cnt]at q;show#[o5,Gs (b:=M) z () (by rw[<-Hu ok.1];show Zk) O]
 |.call b m as=>λn X j k acc o5 ok F q=>by simp only[ag.cnt]at q;show#[o5,Gs (b:=M) z () (by rw[show M=jO "call" by decide +kernel];show Zk) O]
 |.wh e b=>λn X j k acc o5 ok F q=>by
  simp only[ag.cnt]at q;simp only[ag.dep]at F;let hb:=Rows.dep_pos b;obtain⟨m,rfl⟩:∃m,n=m+1:=#[n-1,()];let P:_:=(ag.wh e b).pv;let i:_:=acc++[ZB [ZI (k:Nat),P]];have hA:-i=-acc+1:=by simp[i]
  let W:=Ks (xK z b m (R b.pvs) (k+1) (k+1) i J J ok.2 () ());show#[zL b.pvs,Gs (b:=G) z () (by rw[show G=jO "while" by decide +kernel];show Zk) ?_];show eO (dC O O) ((S9 (Y1:=GE X j t (k+1) (zS P) (zL b.pvs) (MA mu t i)) O (Nx W)).trans ?_);have Q:k+1+b.cnt=k+(ag.wh e b).cnt:=by simp only[ag.cnt];lia
  have e2:i++gm (k+1) b.rws=acc++gm k (ag.wh e b).rws:=by simp[i,ag.rws,gm,P]
  rw[Q,e2]
 |.iff e b c=>λn X j k acc o5 ok F q=>by
  simp only[ag.cnt]at q;simp only[ag.dep]at F;let hb:=Rows.dep_pos b;obtain⟨m,rfl⟩:∃m,n=m+1:=#[n-1,()];let P:_:=(ag.iff e b c).pv;let i:_:=acc++[ZB [ZI (k:Nat),P]];have hA:-i=-acc+1:=by simp[i]
  let W:=Ks (xK z b m (R b.pvs) (k+1) (k+1) i J J ok.2.1 () ());let D:_:=i++gm (k+1) b.rws;have EJ:-D=-acc+1+b.cnt:=by show -(i++gm (k+1) b.rws)=_;rw[bX,xJ,Rows.rws_len,hA]
  let N:=Ks (xK z c m (R c.pvs) (k+1+b.cnt) (k+1+b.cnt) D J J ok.2.2 () ());show#[zL c.pvs,Gs (b:=G) z () (by rw[show G=jO "if" by decide +kernel];show Zk) ?_];show eO (dC O O) ((Np (Y3:=GE X j t (k+1+b.cnt) (zS P) (zL c.pvs) (MA mu t D)) O (Nx W) O (Nx N)).trans ?_);have Q:k+1+b.cnt+c.cnt=k+(ag.iff e b c).cnt:=by simp only[ag.cnt];lia
  have e2:D++gm (k+1+b.cnt) c.rws=acc++gm k (ag.iff e b c).rws:=by simp[D,i,ag.rws,gm,P,xH,Rows.rws_len]
  rw[Q,e2]
theorem xK(z:t< -mu):∀(rs:Rows)(n:Nat)(X:PV)(i k:Nat)(acc:List PV)(o4 o5:Option Lc),rs.ok->rs.dep<=n+1->-acc+rs.cnt<=1000->∃q j,eN (aC 4) (Zm n) rs.pvs (GE X i t k o4 o5 (MA mu t acc))=!(.nx (GE X i t (k+rs.cnt) q j (MA mu t (acc++gm k rs.rws))))
 |.nil=>λn X i k acc o4 o5 ok D F=>#[o4,o5,by simp[Rows.pvs,eN,Rows.rws,gm,Rows.cnt]]
 |.cons r rs=>λn X i k acc o4 o5 ok D F=>by
  simp only[Rows.dep]at D;simp only[Rows.cnt]at F;let(N,W):=WH z r n X i k acc o5 ok.1 () ();let(q,j,e2):=xK z rs n X i (k+r.cnt) (acc++gm k r.rws) (zS r.pv) N ok.2 () (by rw[bX,xJ,ag.rws_len];lia);show#[q,j,gw O W (e2.trans ?_)];have e3:k+r.cnt+rs.cnt=k+(Rows.cons r rs).cnt:=by simp only[Rows.cnt];lia
  have Q:acc++gm k r.rws++gm (k+r.cnt) rs.rws=acc++gm k (Rows.cons r rs).rws:=by simp[Rows.rws,xH,ag.rws_len]
  rw[e3,Q]
end
def VL{rs:Rows}(j:t< -mu)(ok:rs.ok)(q:rs.dep<=40)(i:-acc+rs.cnt<=1000):fL 40 [R rs.pvs,ZI (k:Nat),ZA t] (MA mu t acc)=!(Zp (ZI ((k+rs.cnt:Nat):Int)),MA mu t (acc++gm k rs.rws)):=
 Ks (xK j rs 39 _ k k acc J J ok () i)
mutual
theorem ag.es_rws:∀(r:ag)(w:Str)(ab:PV)(bl:Int)(k:Nat),(r.es w ab bl k).map b9.r=r.rws
 |.leaf _ _=>λw ab bl k=>rfl
 |.call _ _ _=>λw ab bl k=>rfl
 |.wh e b=>λw ab bl k=>by simp[ag.es,ag.rws,Rows.es_rws b]
 |.iff e b c=>λw ab bl k=>by simp[ag.es,ag.rws,Rows.es_rws b,Rows.es_rws c]
theorem Rows.es_rws:∀(rs:Rows)(w:Str)(ab:PV)(bl:Int)(k:Nat),(rs.es w ab bl k).map b9.r=rs.rws
 |.nil=>λw ab bl k=>rfl
 |.cons r rs=>λw ab bl k=>by simp[Rows.es,Rows.rws,ag.es_rws r,Rows.es_rws rs]
end
def gt(es:List b9)(k:Nat)(r:ag):Prop:=∃w ab bl,qy es w ab bl k r
mutual
theorem ag.spots:∀(r:ag){es:List b9}{w:Str}{ab:PV}{bl:Int}{k:Nat},qy es w ab bl k r->∀(i:Nat) x,r.rws[i]?=!x->gt es (k+i) x
 |.leaf a ps,es,w,ab,bl,k=>λh i x j=>by
  match i,j with
  |0,j=>cases j;show#[w,ab,bl,h]
 |.call a n z,es,w,ab,bl,k=>λh i x j=>by
  match i,j with
  |0,j=>cases j;show#[w,ab,bl,h]
 |.wh e b,es,w,ab,bl,k=>λh i x j=>by
  match i,j with
  |0,j=>cases j;show#[w,ab,bl,h]
  |i+1,j=>
   have:=Rows.spots b h.wh i x ();grind
 |.iff e b c,es,w,ab,bl,k=>λh i x j=>by
  match i,j with
  |0,j=>cases j;show#[w,ab,bl,h]
  |i+1,j=>
   have q:(b.rws++c.rws)[i]?=!x:=by simpa [ag.rws] using j
   obtain hi|hi:=Nat.lt_or_ge i (-b.rws)
   . rw[gu hi]at q;have:=Rows.spots b h.iff.1 i x q;grind
   . rw[eW hi]at q;have:=Rows.spots c h.iff.2 _ x q;rw[Rows.rws_len]at this hi;rw[show k+(i+1)=k+1+b.cnt+(i-b.cnt) by omega];grind
theorem Rows.spots:∀(rs:Rows){es:List b9}{w:Str}{ab:PV}{bl:Int}{k:Nat},qx es w ab bl k rs->∀(i:Nat) x,rs.rws[i]?=!x->gt es (k+i) x
 |.nil,es,w,ab,bl,k=>λh i x q=>by cases q
 |.cons r rs,es,w,ab,bl,k=>λh i x q=>by
  let(h1,h2):=h.cons;have j:(r.rws++rs.rws)[i]?=!x:=q;obtain hi|hi:=Nat.lt_or_ge i (-r.rws)
  . rw[gu hi]at j;show ag.spots r h1 i x j
  . rw[eW hi]at j;have:=Rows.spots rs h2 _ x j;rw[ag.rws_len]at this hi;rw[show k+i=k+r.cnt+(i-r.cnt) by omega];grind
end
def lN:List Fn->List ag
 |[]=>[]
 |f::fs=>f.rows.rws++lN fs
theorem vq:∀fs:List Fn,-(lN fs)=d8 fs
 |[]=>rfl
 |f::fs=>by simp[lN,d8,Rows.rws_len,vq fs]
def Pg.rws(P:Pg):List ag:=lN P.fns++P.rows.rws
theorem Ny:∀(fs:List Fn)(k:Nat)(D z:List b9),es=D++(qJ fs k++z)->-D=k->(∀e∈D++z,(e.ab=.non\/∃j:Nat,e.ab=ZI j)/\∀m:Nat,k<=m->m<k+d8 fs->e.ab≠ZI m)->∀(i:Nat) x,(lN fs)[i]?=!x->gt es (k+i) x
 |[]=>λk D z _ _ _ i x hx=>by cases hx
 |f::fs=>λk D z e hl N i x hx=>by
  simp only[d8]at N;have WI:∀(fs:List Fn)(k:Nat),∀e∈qJ fs k,(e.ab=.non\/∃j:Nat,e.ab=ZI j)/\∀m:Nat,m<k->e.ab≠ZI m:=by
   intro fs;induction fs with
   |nil=>intro k e he;cases he
   |cons f fs ih=>
    intro k e he;obtain he|he:=cr.mp he
    . let g:=Rows.abs f.rows f.name .non 0 k e he;show#[g.num (k:=0) (Zl O),λm hm=>g.ne ∅ (Zl hm)]
    . let(Q,F):=ih _ e he;show#[Q,λm hm=>F m ()]
  have W:(f.rows.rws++lN fs)[i]?=!x:=hx;obtain hi|hi:=Nat.lt_or_ge i (-f.rows.rws)
  . rw[gu hi]at W;show Rows.spots f.rows (w:=f.name) (bl:=0) #[#[D,qJ fs (k+f.rows.cnt)++z,by rw[e];simp[qJ],hl,λy hy=>?_],Zl O] i x W;obtain q|q:=cr.mp hy
    . let(Q,F):=N y (ga _ q);show#[Q,λm h1 h2=>F m h1 ()]
    . obtain q|q:=cr.mp q
      . let(Q,F):=WI fs _ y q;show#[Q,λm h1 h2=>F m h2]
      . let(Q,F):=N y (eT _ q);show#[Q,λm h1 h2=>F m h1 ()]
  . rw[eW hi]at W;have:=Ny (es:=es) fs (k+f.rows.cnt) (D++f.rows.es f.name .non 0 k) z (by rw[e];simp[qJ]) (by rw[bX,Rows.es_len,hl]) (λy hy=>by
     obtain q|q:=cr.mp hy
     . obtain q|q:=cr.mp q
       . let(Q,F):=N y (ga _ q);show#[Q,λm h1 h2=>F m () ()]
       . let g:=Rows.abs f.rows f.name .non 0 k y q;show#[g.num (k:=0) (Zl O),λm h1 h2=>g.ne ∅ (YY h1)]
     . let(Q,F):=N y (eT _ q);show#[Q,λm h1 h2=>F m () ()]) _ x W
    rw[Rows.rws_len]at this hi;rw[show k+i=k+f.rows.cnt+(i-f.rows.cnt) by omega];show this
def Yj(P:Pg)(i:Nat)(x:ag)(hx:P.rws[i]?=!x):gt P.es i x:=by
 have N:∀e∈P.rows.es "main" .non 0 (d8 P.fns),(e.ab=.non\/∃j:Nat,e.ab=ZI j)/\∀m:Nat,m<d8 P.fns->e.ab≠ZI m:=λe z=>by let g:=Rows.abs P.rows "main" .non 0 _ e z;show#[g.num (k:=0) (Zl O),λm W=>g.ne ∅ (Zl W)]
 have Q:∀(fs:List Fn)(k:Nat),∀e∈qJ fs k,(e.ab=.non\/∃j:Nat,e.ab=ZI j)/\∀m:Nat,k+d8 fs<=m->e.ab≠ZI m:=by
  intro fs;induction fs with
  |nil=>intro k e z;cases z
  |cons f fs ih=>
   intro k e z;simp only[d8];obtain z|z:=cr.mp z
   . let g:=Rows.abs f.rows f.name .non 0 k e z;show#[g.num (k:=0) (Zl O),λm W=>g.ne ∅ (YY ())]
   . let(F,D):=ih _ e z;show#[F,λm W=>D m ()]
 have q:(lN P.fns++P.rows.rws)[i]?=!x:=hx;obtain hi|hi:=Nat.lt_or_ge i (-(lN P.fns))
 . rw[gu hi]at q;have:=Ny P.fns 0 [] (P.rows.es "main" .non 0 (d8 P.fns)) O O (λy hy=>by let(F,D):=N y ();show#[F,λm _ h2=>D m ()]) i x q
   rwa [hG]at this
 . rw[eW hi]at q;have:=Rows.spots P.rows (es:=P.es) (w:="main") (bl:=0) #[#[qJ P.fns 0,[],by simp[Pg.es],BZ _ _,λy hy=>by let(F,D):=Q P.fns 0 y ∅;show#[F,λm h1 _=>D m ()]],Zl O] _ x q
   rw[vq]at this hi;grind
end
noncomputable abbrev SS (xs:List Str):List PV:=xs.map ZH
def WJ{ns:List Int}{i:Int}(z:0<=i)(h1:i< -ns):∃c∈ns,qG (R (ns.map ZI)) (ZI i)=zI c:=by let(x,e,j):=uT (l:=ns.map PV.int) z ∅;rw[c5]at j;let(c,q,rfl):=cp j;show#[c,eI q,by show (fO (ns.map PV.int) i).map _=_;rw[e];rfl]
def WO(q:0<=i)(h1:i< -ns):∃c∈ns,qG (R (SS ns)) (ZI i)=zT c:=by let(x,e,j):=uT (l:=SS ns) q ∅;rw[c5]at j;let(c,z,rfl):=cp j;show#[c,eI z,by show (fO (SS ns) i).map _=_;rw[e];rfl]
def cell_eq{ns:List Int}(i:0<=k):∃c,0<=c/\∀mu,nj [R (ns.map ZI),ZI k] mu=!(Zp (ZI c),mu):=by
 have t:∀mu,tT B9 aY (env0 2 [R (ns.map ZI),ZI k] mu)=!(decide (k< -(ns.map PV.int)),#[[zL (ns.map ZI),zI k],mu]):=λmu=>O;by_cases h:k< -(ns.map PV.int)
 . let(c,_,e):=WJ i (by rw[bo]at h;show h);show#[c%1000000007,g7 _ (),λmu=>aO (Y:=#[[zL (ns.map ZI),zI k],mu]) (G8 ((lR ((t mu).trans (by rw[i5 h]))).trans (cT (dj (dG (l:=Zp (R (ns.map ZI))) (m:=Zp (ZI k)) O O O O (λn h=>by cases h) e) O O O ()))))]
 . show#[0,by decide,λmu=>aO (Y:=#[[zL (ns.map ZI),zI k],mu]) (aH ((lU ((t mu).trans ∅)).trans O) O)]
abbrev ja:Str:="abcdefghijklmnopqrstuvwxyz"
noncomputable def xM (i:Int):Nat:=97+(i%26).toNat
abbrev one(c:Nat):Str:=#[(List.toArray [c])]
def Nz(i:Int):qG (ZH ja) (ZI (i%26))=zT (one (xM i)):=by
 unfold xM;let q:=g7 i (b:=26) ();let h1:=hZ i (b:=26) ();generalize i%26=r at q h1;let(n,rfl):=Int.eq_ofNat_of_zero_le q
 have:∀n:Nat,n<26->(match qG (ZH ja) (ZI (n:Int)) with |some (Zp (ZH x))=>x.cps.toList==[97+n] |_=>M)=G:=by decide +kernel
 let j:=this n (());split at j
 . rename_i x e;rw[e]
   have F:x=one (97+n):=by
    cases x with |mk z=>
    congr 1;show Array.toList_inj.mp ∅
   rw[F];rfl
 . cases j
def Tf:∀cs:List Nat,Txt.join "" (cs.map one)=#[cs.toArray]:=by
 intro cs;unfold Txt.join;rw[StrLaws.glued_eq_join];induction cs with
 |nil=>rfl
 |cons c cs i=>
  cases cs with
  |nil=>rfl
  |cons d cs=>
   show (one c ++ "" ++ Str.join "" ((d::cs).map one):Str)=_;rw[i];show Str.mk (((List.toArray [c])++#[])++(d::cs).toArray)=_;simp
theorem strs_map:∀xs:List Str,d_ (SS xs)=!xs
 |[]=>rfl
 |x::xs=>by show (d_ (SS xs)).map _=_;rw[strs_map xs];rfl
theorem NB:∀cs:List Nat,((cs.map one).map (·.length)).sum=-cs
 |[]=>rfl
 |c::cs=>by rw[dP,dP,sum_cons,NB cs,bi];show 1+_=_;lia
def Q6{cs:List Nat}(h:fa Y=!(m,Y1))(i:m.pv=R (SS (cs.map one)))(j:-cs<=100):rY (bg "") (aj fa ao) Y=!(Zp (ZH #[cs.toArray]),Y1):=by rw[<-Tf];show XC O (aA h O) O i (strs_map _) ?_;rw[NB,bo,show -("" : Str)=0 from O];lia
def gg(kg:0<=k)(hk:k<100)(he:∀i:Nat,(i:Int)<k->elt #[[zI (0+i),zT ja,zI c],mu]=!(Zp (ZH (one (g i))),#[[zI (0+i),zT ja,zI c],mu])):
 dF (aC 0) bB elt (jo 0 k.toNat) #[[J,zT ja,zI c],mu] []=!(SS (((List.range k.toNat).map g).map one),mu):=by
 have:=Jc (b:=aC 0) (λY=>∃o,Y=#[[o,zT ja,zI c],mu]) (λY qh=>by let(o,e):=qh;rw[e]) (λp=>match p with |ZI i=>ZH (one (g i.toNat)) |_=>.non)
  (xs:=jo 0 k.toNat) #[J,O] (by rw[wM];lia) (by
    intro x j Y q0;let(o,rfl):=q0;let(i,hi,rfl):=P4 j;show#[_,O,_,_,he i (),?_,_,O];show PV.str _=PV.str (one (g (0+(i:Int)).toNat));rw[Int.zero_add,o_]) (by
    rintro x j Y Y1 ⟨o,rfl⟩ e;cases e;show#[_,O])
 rw[this];congr 2;unfold jo SS;rw[fE,fE,fE];show oT λi _=>?_;show PV.str (one (g (0+(i:Int)).toNat))=PV.str (one (g i));rw[Int.zero_add,o_]
def WS:∃m:Int,0<m/\m<=8/\qG (R [ZI 1,ZI 2,ZI 3,ZI 5,ZI 6,ZI 7,ZI 8]) (ZI (c%7))=zI m:=by
 let i:=g7 c (b:=7) ();let h1:=hZ c (b:=7) ();generalize c%7=r at i h1;obtain rfl|rfl|rfl|rfl|rfl|rfl|rfl:=(by omega:r=0\/r=1\/r=2\/r=3\/r=4\/r=5\/r=6)
 . show#[1,by decide,by decide,O]
 . show#[2,by decide,by decide,O]
 . show#[3,by decide,by decide,O]
 . show#[5,by decide,by decide,O]
 . show#[6,by decide,by decide,O]
 . show#[7,by decide,by decide,O]
 . show#[8,by decide,by decide,O]
def VM:SS xs++[ZH x]=SS (xs++[x]):=by grind
abbrev jJ(c n:Int)(l3 o4 o5 o6 o7 o8:Option Lc)(mu:Mu):Ev:=#[[zI c,zI n,zT ja,l3,o4,o5,o6,o7,o8],mu]
def cO(d:Int):List Nat:=(List.range 10).map λi:Nat=>xM (d/2+3*(0+i))
def Jv(d:Int)(k:Nat):Str:=lY #[(cO d).toArray] (!((0+k:Int)%5)) (!((0+k:Int)%5+1+(0+k:Int)/5))
def kr(l:List Nat)(d:Int)(a:Nat)(k:Nat):Str:=#[(l.set a (xM (d/112+(0+k)))).toArray]
def WU{l:List Nat}:(SS (l.map one)).set a (ZH (one c))=SS ((l.set a c).map one):=by grind
def WV(k:Nat):-(Jv d k)<=100:=by
 have h:-(cO d)=10:=by unfold cO;simp
 unfold Jv lY Str.length;simp only[eP,g9,kL];lia
def WZ(N:6<=i)(F:i<j)(q:j<10):Jv d i≠Jv d j:=by
 have g:∀k:Nat,6<=k->k<10->(Jv d k).cps[0]?=!(xM (d/2+3*((k:Int)-5))):=λk h1 h2=>by rcases (by omega:k=6\/k=7\/k=8\/k=9) with rfl|rfl|rfl|rfl<;>rfl
 intro e;let z:=g i N ();rw[e,g j () q]at z;let D:=d0 z;unfold xM at D;lia
def W1(z:a< -l)(F:i<j)(N:j<26):kr l d a i≠kr l d a j:=by have g:∀k:Nat,(kr l d a k).cps.toList[a]?=!(xM (d/112+(0+k))):=λk=>hW z;intro e;let q:=g i;rw[e,g j]at q;let D:=d0 q;unfold xM at D;lia
def Yk(EM:10<=n)(hn:n<=26):∃xs:List Str,-xs=n.toNat/\(∀x∈xs,-x<=100)/\(∀i j:Nat,6<=i->i<j->j<10->xs[i]?≠xs[j]?)/\∀mu,u9 [ZI c,ZI n] mu=!(Zs (R (SS xs)),mu):=by
 obtain⟨d,l_⟩:∃d,c=d:=#[c,O];have head:∀(mu:Mu)(g:SF) ZN,g (jJ d n (zO (SS [])) J J J J J mu)=ZN->(aF Cf (aF (aL 3 (cu ao)) g)) (env0 9 [ZI c,ZI n] mu)=ZN:=λmu g ZN hg=>by subst l_;show aH O (aH O hg)
 have t1:∀mu:Mu,tT Cc aY (jJ d n (zO (SS [])) J J J J J mu)=!(d%2==1,jJ d n (zO (SS [])) J J J J J mu):=λmu=>O;have rg:∀(mu:Mu) l3 o4 o6 o7 o8,iK (aj (aa 1) ao) (jJ d n l3 o4 J o6 o7 o8 mu)=!(jo 0 n.toNat,jJ d n l3 o4 J o6 o7 o8 mu):=λmu l3 o4 o6 o7 o8=>mY O O () ();cases h2:(d%2==1) with
 |true=>
  show#[(List.range n.toNat).map (Jv d),by simp,λx z=>?_,λi j h6 F hU q=>?_,λmu=>?_]
  . let(k,_,rfl):=ck.mp z;show WV k
  . rw[c5,c5,getElem?_range (),getElem?_range ()]at q;show WZ h6 F hU (d0 q)
  let ec:=gg (elt:=aJ (aa 1) TZ) (k:=10) (mu:=mu) () () (λi _=>dG O O (bC (bC (bC O O (gU () ())) (bC O O (Mz () ())) O) O (dI ())) O (λn h=>by cases h) (Nz (d/2+3*(0+i))));obtain⟨t,rt,lt⟩:∃t:Str,t=⟨(cO d).toArray⟩/\-t<=100000:=#[_,O,by show (cO d).toArray.size<=_;unfold cO;simp];have ej:∀(fa:EF)(Y Y1:Ev)(m:Lc),fa Y=!(m,Y1)->m.pv=R (SS ((cO d).map one))->rY (bg "") (aj fa ao) Y=!(Zp (ZH t),Y1):=λfa Y Y1 m h hm=>by rw[rt];show Q6 h hm (by unfold cO;simp)
  have k7:∀j:Nat,lY t (!((0+j:Int)%5)) (!((0+j:Int)%5+1+(0+j:Int)/5))=Jv d j:=λj=>by rw[rt];rfl
  clear rt;have s4:aL 4 Ct (jJ d n (zO (SS [])) J J J J J mu)=!(.nx (jJ d n (zO (SS [])) (zT t) J J J J mu)):=
   bu (ej _ _ (jJ d n (zO (SS [])) J J J J J mu) (Zs (R (SS ((cO d).map one)))) ((eF (mY O O () ()) ec).trans O) O) O O
  let(Y',ef,xs,o5,rfl,z):=QH (b:=aC 5) (body:=jM 3 Cn) (xs:=jo 0 n.toNat)
   (λi Y=>∃xs o5,Y=jJ d n (zO (SS xs)) (zT t) o5 J J J mu/\xs=(List.range i).map (Jv d)) #[[],J,O,O] (by
     rintro i x Y z ⟨xs,o5,rfl,W⟩;have hi:i<n.toNat:=by have:=(c9.mp z).1;rw[wM]at this;show this
     obtain⟨j,rfl,rfl⟩:∃j:Nat,j=i/\x=ZI (0+(j:Int)):=#[i,O,by unfold jo at z;rw[c5,getElem?_range hi]at z;cases z;rfl];have W_:-xs=j:=by rw[W];simp
     have es:mF (aa 4) (cM (au aZ (aa 5) (af 5))) T0 (jJ d n (zO (SS xs)) (zT t) (zI (0+j)) J J J mu)=!(Zp (ZH (lY t (!((0+j:Int)%5)) (!((0+j:Int)%5+1+(0+j:Int)/5)))),jJ d n (zO (SS xs)) (zT t) (zI (0+j)) J J J mu):=by show (if -t<=100000 then _ else J)=_;rw[aw lt];rfl
     show#[_,O,jJ d n (!(Zs (R (SS (xs++[lY t (!((0+j:Int)%5)) (!((0+j:Int)%5+1+(0+j:Int)/5))]))))) (zT t) (zI (0+j)) J J J mu,Zl ((pR O es O O (by rw[bo];lia) O).trans ?_),_,_,O,by rw[k7,W,List.range_succ,cy];rfl];rw[<-VM];rfl)
  rw[wM]at z;subst z;show aO (Y:=jJ d n J (zT t) o5 J J J mu) (head mu _ _ (G8 ((lR ((t1 mu).trans (by rw[h2]))).trans (aH s4 (aH (eO (rg mu _ _ _ _ _) ef) O)))))
 |false=>
  let(m,mo,hm8,em):=WS (c:=d/2);let mE:=g7 (d/14) (b:=m) ();let iq:=hZ (d/14) (b:=m) mo;show#[(List.range n.toNat).map (kr ((List.range m.toNat).map λi:Nat=>xM (d/((0+i:Int)+1)+(0+i)*(0+i))) d (d/14%m).toNat),by simp,λx z=>?_,λi j h6 F hU q=>?_,λmu=>?_]
  . let(k,_,rfl):=ck.mp z;unfold kr Str.length;simp;lia
  . rw[c5,c5,getElem?_range (),getElem?_range ()]at q;show W1 (by simp;lia) F () (d0 q)
  have s6:aL 6 Co (jJ d n (zO (SS [])) J J J J J mu)=!(.nx (jJ d n (zO (SS [])) J J (zI m) J J mu)):=
   bu (dG (l:=Zs (R [ZI 1,ZI 2,ZI 3,ZI 5,ZI 6,ZI 7,ZI 8])) (q:=ZI (d/2%7)) O O O O (λn h=>by cases h) em) O O
  have s7:aL 7 Cb (jJ d n (zO (SS [])) J J (zI m) J J mu)=!(.nx (jJ d n (zO (SS [])) J J (zI m) (zI (d/14%m)) J mu)):=
   bu (dj O O O O (dI mo)) O O
  generalize d/14%m=at_ at s7 mE iq;let Q:=gg (elt:=aJ (aa 1) T1) (c:=d) (k:=m) (mu:=mu) (g:=λi:Nat=>xM (d/((0+i:Int)+1)+(0+i)*(0+i))) () () (λi hi=>dG (q:=ZI ((d/((0+i:Int)+1)+(0+i)*(0+i))%26)) O O (bC (bC (bC O O (gU () ())) (bC O O (Mz () ())) O) O (dI ())) O (λn h=>by cases h) (Nz (d/((0+i:Int)+1)+(0+i)*(0+i))));obtain⟨l,rl⟩:∃l,l=(List.range m.toNat).map λi:Nat=>xM (d/((0+i:Int)+1)+(0+i)*(0+i)):=#[_,O];rw[<-rl]at Q;have l1:-l=m.toNat:=by rw[rl];simp
  obtain⟨ps,N⟩:∃ps,ps=SS (l.map one):=#[_,O];let ec:=Q;rw[<-N]at ec;have lps:-ps=m.toNat:=by rw[N,bo,bo,l1]
  let(Y',ef,xs,o5,o8,rfl,z):=QH (b:=aC 5) (body:=aF Cs
   (aF Ch
   B_)) (xs:=jo 0 n.toNat) (Y:=jJ d n (zO (SS [])) J J (zI m) (zI at_) J mu)
   (λi Y=>∃xs o5 o8,Y=jJ d n (zO (SS xs)) J o5 (zI m) (zI at_) o8 mu/\xs=(List.range i).map (kr l d at_.toNat)) #[[],J,J,O,O] (by
     rintro i x Y z ⟨xs,o5,o8,rfl,W⟩;have hi:i<n.toNat:=by have:=(c9.mp z).1;rw[wM]at this;show this
     obtain⟨j,rfl,rfl⟩:∃j:Nat,j=i/\x=ZI (0+(j:Int)):=#[i,O,by unfold jo at z;rw[c5,getElem?_range hi]at z;cases z;rfl];have W_:-xs=j:=by rw[W];simp
     obtain⟨D,Xs,e⟩:∃D,D=xM (d/112+(0+j))/\qG (ZH ja) (ZI ((d/112+(0+j))%26))=zS (ZH ⟨(List.toArray [D])⟩):=#[_,O,Nz _];obtain⟨t,rt⟩:∃t:Str,t=kr l d at_.toNat j:=#[_,O];have ej:∀(fa:EF)(Y Y1:Ev)(m:Lc),fa Y=!(m,Y1)->m.pv=R (ps.set at_.toNat (ZH #[(List.toArray [D])]))->rY (bg "") (aj fa ao) Y=!(Zp (ZH t),Y1):=λfa Y Y1 m h hm=>by rw[rt];rw[N,WU,Xs]at hm;show Q6 h hm (by rw[ly,l1];lia)
     have g1:aL 8 T_ (jJ d n (zO (SS xs)) J (zI (0+j)) (zI m) (zI at_) o8 mu)=!(.nx (jJ d n (zO (SS xs)) J (zI (0+j)) (zI m) (zI at_) (zO ps) mu)):=
      bu ((eF (Y1:=jJ d n (zO (SS xs)) J (zI (0+j)) (zI m) (zI at_) o8 mu) (mY (l:=Zp (ZI m)) (n:=m) O O () ()) ec).trans O) O O
     have g2:Bu 8 (aa 7) TW (jJ d n (zO (SS xs)) J (zI (0+j)) (zI m) (zI at_) (zO ps) mu)=!(.nx (jJ d n (zO (SS xs)) J (zI (0+j)) (zI m) (zI at_) (zO (ps.set at_.toNat (ZH #[(List.toArray [D])]))) mu)):=by show P_ (k:=at_) (j:=at_.toNat) (dG (q:=ZI ((d/112+(0+j))%26)) O O O O (λn h=>by cases h) e) O O O O O ?_ O;unfold uL;rw[aw mE,aw ()]
     show#[_,O,jJ d n (zO (SS (xs++[t]))) J (zI (0+j)) (zI m) (zI at_) (zL (ps.set at_.toNat (ZH #[(List.toArray [D])]))) mu,Zl (aH g1 (aH g2 ((pR O (ej (aa 8) _ (jJ d n (zO (SS xs)) J (zI (0+j)) (zI m) (zI at_) (zL (ps.set at_.toNat (ZH #[(List.toArray [D])]))) mu) (Zp (R (ps.set at_.toNat (ZH #[(List.toArray [D])])))) O O) O O (by rw[bo];lia) O).trans ?_))),_,_,_,O,by rw[rt,W,List.range_succ,cy];rfl];rw[<-VM];rfl)
  rw[wM]at z;subst z;rw[rl]at *;show aO (Y:=jJ d n J J o5 (zI m) (zI at_) o8 mu) (head mu _ _ (aH ((lU ((t1 mu).trans (by rw[h2]))).trans O) (aH s6 (aH s7 (aH (eO (rg mu _ _ _ _ _) ef) O)))))
def tB(xs:List Str):-(SS xs)=-xs:=bo _
def xN(j:aa i Y=!(Zp (R (SS xs)),Y)):tT (au iV (eB cz (aj (aa i) ao)) (af 0)) aY Y=!(not xs.isEmpty,Y):=by
 show jU (l:=Zp (.bl (not xs.isEmpty))) (dj (jN (aA j O) O O) O O O ?_) O;show some (Lc.sh (.bl (decide ((-(SS xs):Int)>0))))=_;cases xs with
 |nil=>rfl
 |cons x xs=>simp
def Xt(j:aa i Y=!(Zp (R (SS xs)),Y)):tT (au cK (eB cz (aj (aa i) ao)) (af 0)) aY Y=!(xs.isEmpty,Y):=by
 show jU (l:=Zp (.bl xs.isEmpty)) (dj (jN (aA j O) O O) O O O ?_) O;show some (Lc.sh (.bl ((-(SS xs):Int)==0)))=_;cases xs with
 |nil=>rfl
 |cons x xs=>simp;lia
def pick(h:xs≠[])(a d:Int)(N:0<d)(j:d<1073741824):∃x∈xs,∀(i:Nat)(fa:EF)(Y:Ev),aa i Y=!(Zp (R (SS xs)),Y)->fa Y=!(Zp (ZI a),Y)->aJ (aa i) (au aZ (au bO fa (af d)) (eB cz (aj (aa i) ao))) Y=!(Zp (ZH x),Y):=by
 have q:(0:Int)< -xs:=by have:=length_pos_iff.mpr h;lia
 let(x,F,e):=WO (g7 _ ()) (hZ _ q);show#[x,F,λi fa Y z D=>dG (m:=Zp (ZI (a/d%-xs))) z O (bC (bC D O (gU N j)) (jN (aA z O) O O) ?_) O (λn h=>by cases h) e];rw[tB];show dI q
abbrev XE(c:Int)(own ls:List Str)(p:PV)(o4 o5 o6 o7:Option Lc)(mu:Mu):Ev:=#[[zI c,zL (SS own),zL (SS ls),zS p,o4,o5,o6,o7],mu]
def XA(a:Int):∃s,EC s/\qG (ZH "+-*<=") (ZI (a%5))=zT s:=by
 let i:=g7 a (b:=5) ();let h1:=hZ a (b:=5) ();generalize a%5=r at i h1;have h:∀n:Nat,n<5->(match qG (ZH "+-*<=") (ZI (n:Int)) with |some (Zp (ZH s))=>not (s== "num")&&not (s== "box")&&not (s== "@") |_=>M)=G:=by decide +kernel
 let g:=h r.toNat ();rw[Int.toNat_of_nonneg i]at g;split at g
 . rename_i x e;simp only[fF,Bool.not_eq_true']at g;show#[x,#[g.1.1,g.1.2,g.2],e]
 . cases g
def Ay:Sh []:=λx h=>by cases h
def xO(h:-x<=100)(t:Sh a):Sh (x::a):=λy i=>by
 obtain rfl|i:=a_.mp i
 . show h
 . grind
def Gu(h:Sh a)(t:Sh b):Sh (a++b):=λy i=>(cr.mp i).elim (h y) (t y)
def Cg{xs:List Str}(h:(not xs.isEmpty&&b)=G):xs≠[]:=by grind
def XB(ho:Sh own)(W:Sh ls)(kg:0<=k)(hk:k<100)(hn:2<=n)(hp:Rd n p a)(ha:Sh a):∃q b p5 p6 p7,(Rd (n+1) q b/\-b<=-a+2/\Sh b)/\∀(mu:Mu)(o5 o6 o7:Option Lc),tN (XE c own ls p (zI k) o5 o6 o7 mu)=!(.nx (XE c own ls q (zI k) (!p5) (!p6) (!p7) mu)):=by
 let z:Int:=c*(k+2)%2147483647*16807%2147483647;let K:Option Lc:=zI k;let Z:Option Lc:=zI z;have s1:∀(mu:Mu)(o5 o6 o7:Option Lc),aL 5 CO (XE c own ls p K o5 o6 o7 mu)=!(.nx (XE c own ls p K Z o6 o7 mu)):=λmu o5 o6 o7=>
  bu (bC (bC (bC (bC O O (wL () ())) O (dI ())) O (wL () ())) O ()) O O
 let n0:PV:=ZB [ZH "num",ZI (z%1000)];have g3:∃D N,(Rd 1 D N/\-N<=1/\Sh N)/\∀(g:SF)(mu:Mu)(o7:Option Lc),aF (cC CH
  CM
  bR) g (XE c own ls p K Z (zS n0) o7 mu)=g (XE c own ls p K Z (zS D) o7 mu):=by
  have t:∀(mu:Mu)(o7:Option Lc),eE CA Uf (XE c own ls p K Z (zS n0) o7 mu)=!(not own.isEmpty&&decide (z%6>0),XE c own ls p K Z (zS n0) o7 mu):=λmu o7=>nU (xN O) O;cases i:(not own.isEmpty&&decide (z%6>0)) with
  |false=>show#[n0,[],#[.num 0 _,d6 _,Ay],λg mu o7=>bG (t mu o7) i]
  |true=>
   let(x,xm,hx):=pick (Cg i) z 6 () ();show#[ZB [ZH "box",ZH x],[x],#[.box 0 x,br _,xO (ho x xm) Ay],λg mu o7=>nA (t mu o7) i (bu (dm (aA O (aA (hx 1 (aa 5) _ O O) O)) O O) O O)]
 let(D,N,(f1,d1,c1),g3):=g3;have g4:∃F Q,(Rd 2 F Q/\-Q<=2/\Sh Q)/\∀(g:SF)(mu:Mu)(o7:Option Lc),aF (cC CL
  CS
  bR) g (XE c own ls p K Z (zS D) o7 mu)=g (XE c own ls p K Z (zS F) o7 mu):=by
  have t:∀(mu:Mu)(o7:Option Lc),eE tJ Up (XE c own ls p K Z (zS D) o7 mu)=!(not ls.isEmpty&&(z%7==5),XE c own ls p K Z (zS D) o7 mu):=λmu o7=>nU (xN O) O;cases i:(not ls.isEmpty&&(z%7==5)) with
  |false=>show#[D,N,#[f1.mono (),(),c1],λg mu o7=>bG (t mu o7) i]
  |true=>
   let(x,xm,hx):=pick (Cg i) z 42 () ();show#[ZB [ZH "@",ZH x,D],x::N,#[.at_ x f1,by simp only[bi];lia,xO (W x xm) c1],λg mu o7=>nA (t mu o7) i (bu (dm (aA O (aA (hx 2 (aa 5) _ O O) O)) O O) O O)]
 let(F,Q,(f2,d2,c2),g4):=g4;let(s,EN,es):=XA (z/77);let j:Option Lc:=zS F;let ZT:Option Lc:=zT s;have s7:∀(mu:Mu)(o7:Option Lc),aL 7 CD (XE c own ls p K Z j o7 mu)=!(.nx (XE c own ls p K Z j ZT mu)):=λmu o7=>
  bu (dG O O (bC (bC O O (gU () ())) O (dI ())) O (λn h=>by cases h) es) O O
 have g8:∃q b,(Rd (n+1) q b/\-b<=-a+2/\Sh b)/\∀(mu:Mu),cC CY
  CU
  (cC CF
  CB
  CC) (XE c own ls p K Z j ZT mu)=!(.nx (XE c own ls q K Z j ZT mu)):=by
  have t:∀(mu:Mu),eE tJ UC (XE c own ls p K Z j ZT mu)=!(not ls.isEmpty&&(z/5%3==0),XE c own ls p K Z j ZT mu):=λmu=>nU (xN O) O;have t2:∀(mu:Mu),tT UB aY (XE c own ls p K Z j ZT mu)=!(z/5%3==1,XE c own ls p K Z j ZT mu):=λmu=>O;cases i:(not ls.isEmpty&&(z/5%3==0)) with
  |true=>
   let(x,xm,hx):=pick (Cg i) z 15 () ();show#[ZB [ZH "@",ZH x,p],x::a,#[.at_ x hp,by simp only[bi];lia,xO (W x xm) ha],λmu=>(lR ((t mu).trans (by rw[i]))).trans (bu (dm (aA O (aA (hx 2 (aa 5) _ O O) O)) O O) O O)]
  |false=>
   cases hc:(z/5%3==1) with
   |true=>show#[ZB [ZH s,p,F],a++Q,#[.op EN hp (f2.mono hn),by simp only[bX];lia,Gu ha c2],λmu=>(lU ((t mu).trans (by rw[i]))).trans ((lR ((t2 mu).trans (by rw[hc]))).trans O)]
   |false=>show#[ZB [ZH s,F,p],Q++a,#[.op EN (f2.mono hn) hp,by simp only[bX];lia,Gu c2 ha],λmu=>(lU ((t mu).trans (by rw[i]))).trans ((lU ((t2 mu).trans (by rw[hc]))).trans O)]
 let(q,b,fq,g8):=g8;show#[q,b,Zp (ZI z),Zp F,Zp (ZH s),fq,λmu o5 o6 o7=>aH (s1 mu o5 o6 o7) (aH ((λmu o6 o7=>O) mu o6 o7) ((g3 _ mu o7).trans ((g4 _ mu o7).trans (aH (s7 mu o7) (g8 mu)))))]
theorem Q7(W:Sh own)(i:Sh ls):∀(ks:List Int)(p:PV)(n:Nat)(a:List Str),(∀k∈ks,0<=k/\k<100)->2<=n->Rd n p a->Sh a->∃q b,(Rd (n+-ks) q b/\-b<=-a+2*-ks/\Sh b)/\∀(mu:Mu)(o4 o5 o6 o7:Option Lc),∃p4 j z F,eN (aC 4) tN (ks.map PV.int) (XE c own ls p o4 o5 o6 o7 mu)=!(.nx (XE c own ls q p4 j z F mu))
 |[]=>λp n a _ Q N D=>#[p,a,#[N,br _,D],λmu o4 o5 o6 o7=>#[o4,o5,o6,o7,O]]
 |k::ks=>λp n a h Q N D=>by let(h0,h1):=h k be;let(q1,b1,j,z,F,(f1,d1,c1),e1):=XB W i h0 h1 Q N D;let(q,b,(fq,dq,cq),ih):=Q7 W i ks q1 (n+1) b1 (λx hx=>h x (cw _ hx)) () f1 c1;show#[q,b,#[by rw[show n+-(k::ks)=n+1+-ks by simp only[bi];omega];show fq,by simp only[bi];lia,cq],λmu o4 o5 o6 o7=>?_];let(r4,r5,r6,r7,e2):=ih mu (zI k) (!j) (!z) (!F);show#[r4,r5,r6,r7,gw O (e1 mu o5 o6 o7) e2]
def mT(c:Int):∃m:Nat,m<=4/\qG (R [ZI 0,ZI 0,ZI 1,ZI 1,ZI 2,ZI 2,ZI 3,ZI 4]) (ZI (c%8))=zI (m:Nat):=by
 let i:=g7 c (b:=8) ();let h1:=hZ c (b:=8) ();generalize c%8=r at i h1;obtain rfl|rfl|rfl|rfl|rfl|rfl|rfl|rfl:=(by omega:r=0\/r=1\/r=2\/r=3\/r=4\/r=5\/r=6\/r=7)
 . show#[0,by decide,O]
 . show#[0,by decide,O]
 . show#[1,by decide,O]
 . show#[1,by decide,O]
 . show#[2,by decide,O]
 . show#[2,by decide,O]
 . show#[3,by decide,O]
 . show#[4,by decide,O]
def Eh(n:Nat):jo 0 n=((List.range n).map λi:Nat=>(0+(i:Int))).map PV.int:=by rw[fE];rfl
def Hv(c:Int)(ho:Sh own)(N:Sh ls):∃p,XG p/\∀mu,dU [ZI c,R (SS own),R (SS ls)] mu=!(Zp p,mu):=by
 let j:PV:=ZB [ZH "num",ZI (c*7919%10 ^ 12)];let E0:Mu->Ev:=λmu=>#[[zI c,zL (SS own),zL (SS ls),J,J,J,J,J],mu];have s1:∀mu,aL 3 C0 (E0 mu)=!(.nx (XE c own ls j J J J J mu)):=λmu=>
  bu (dm (aA O (aA (bC (bC O O (wL () ())) O ()) O)) O O) O O
 have F:∃D z,(Rd 2 D z/\-z<=1/\Sh z)/\∀(g:SF)(mu:Mu),aF (cC C1
  C2
  bR) g (XE c own ls j J J J J mu)=g (XE c own ls D J J J J mu):=by
  have t:∀(mu:Mu),eE CA UD (XE c own ls j J J J J mu)=!(not own.isEmpty&&decide (c%5>0),XE c own ls j J J J J mu):=λmu=>nU (xN O) O;cases Q:(not own.isEmpty&&decide (c%5>0)) with
  |false=>show#[j,[],#[.num 1 _,d6 _,Ay],λg mu=>bG (t mu) Q]
  |true=>
   let(x,xm,hx):=pick (Cg Q) c 5 () ();show#[ZB [ZH "box",ZH x],[x],#[.box 1 x,br _,xO (ho x xm) Ay],λg mu=>nA (t mu) Q (bu (dm (aA O (aA (hx 1 (aa 0) _ O O) O)) O O) O O)]
 let(D,z,(f1,d1,c1),F):=F;let(m,hm,em):=mT (c/60);let(q,b,(fq,dq,cq),W):=Q7 ho N ((List.range m).map λi:Nat=>(0+(i:Int))) D 2 z (λk hk=>by let(i,hi,rfl):=ck.mp hk;have:=mem_range.mp hi;lia) () f1 c1
 rw[bo,fy]at dq fq;show#[q,#[_,b,fq,(),(),cq],λmu=>?_];let(p4,p5,p6,p7,W):=W mu J J J J;show aO (Y:=#[[zI c,zL (SS own),zL (SS ls),J,p4,p5,p6,p7],mu]) (aH (s1 mu) ((F _ mu).trans (aH (eO (xs:=jo 0 m) ?_ (by rw[Eh];show W)) O)));show mY (aA (dG (q:=ZI (c/60%8)) (l:=Zs (R [ZI 0,ZI 0,ZI 1,ZI 1,ZI 2,ZI 2,ZI 3,ZI 4])) O O O O (λn h=>by cases h) em) O) O () ()
inductive Dr where
 |row (r:ag)
 |wh (e:PV)
 |iff (e:PV)
def Dr.pv:Dr->Nat->PV
 |.row r,_=>r.pv
 |.wh e,n=>ZB [ZH "while",e,ZA n]
 |.iff e,n=>ZB [ZH "if",e,ZA n,ZA (n+1)]
noncomputable def Dr.cl:Dr->Mu
 |.row _=>[]
 |.wh _=>[!(R [])]
 |.iff _=>[!(R []),!(R [])]
def ag.low:ag->Prop
 |.leaf w ps=>(ag.leaf w ps).ok
 |.call b n as=>(ag.call b n as).ok
 |_=>False
def Dr.ok:Dr->Prop
 |.row r=>r.low
 |.wh e=>XG e
 |.iff e=>XG e
def Q8(j:aa i Y=!(Zp (R ps),Y)):tT (au iV (eB cz (aj (aa i) ao)) (af 0)) aY Y=!(not ps.isEmpty,Y):=by
 show jU (l:=Zp (.bl (not ps.isEmpty))) (dj (jN (aA j O) O O) O O O ?_) O;show some (Lc.sh (.bl (decide ((-ps:Int)>0))))=_;cases ps with
 |nil=>rfl
 |cons x xs=>simp
def XI(h:ps≠[])(a d:Int)(N:0<d)(j:d<1073741824):∃x∈ps,∀(i:Nat)(fa:EF)(Y:Ev),aa i Y=!(Zp (R ps),Y)->fa Y=!(Zp (ZI a),Y)->aJ (aa i) (au aZ (au bO fa (af d)) (eB cz (aj (aa i) ao))) Y=!(Zp x,Y):=by
 have q:(0:Int)< -ps:=by have:=length_pos_iff.mpr h;lia
 let(x,e,F):=uT (g7 _ ()) (hZ _ q);show#[x,eI F,λi fa Y z D=>dG z O (bC (bC D O (gU N j)) (jN (aA z O) O O) (dI q)) O (λn h=>by cases h) ?_];show (fO ps (a/d%-ps)).map _=_;rw[e];rfl
abbrev Hd:=List (Str×List Str)
abbrev gY(hs:Hd):List PV:=hs.map λh=>ZB [ZH h.1,R (SS h.2)]
abbrev RE(c:Int)(own ls:List Str)(hs:Hd)(ws:List Str)(o5 o6 o7 o8 o9 u_ iF:Option Lc)(mu:Mu):Ev:=#[[zI c,zL (SS own),zL (SS ls),zL (gY hs),zL (SS ws),o5,o6,o7,o8,o9,u_,iF],mu]
abbrev XO:EF:=aN dU DC
theorem Q9(c:Int)(q:Sh own)(j:Sh ls):∀(ks:List Int),(∀k∈ks,0<=k/\k<100)->∃i:List PV,(∀a∈i,XG a)/\-i=-ks/\∀(mu:Mu)(o:Option Lc)(acc:List PV),-acc+-ks<=1000->
 dF (aC 0) bB XO (ks.map PV.int) #[[o,zI c,zL (SS own),zL (SS ls)],mu] acc=!(acc++i,mu)
 |[]=>λ_=>#[[],λa h=>(by cases h),O,λmu o acc _=>by simp[dF]]
 |k::ks=>λh=>by let(W,h1):=h k be;let(p,fp,F):=Hv (c*40692%(2147483399-k)) q j;let(i,fa,z,Q):=Q9 c q j ks λx D=>h x (cw _ D);show#[p::i,λa h=>(a_.mp h).elim (λe=>e▸fp) (fa a),by simp[z],λmu o acc N=>?_];show fY O (aR (aA (bC (bC O O (wL () ())) O (dI ())) O) O O O (F mu)) () ((Q mu _ (acc++[p]) ∅).trans ?_);simp
def Yl{ps:List PV}(h:(b&&not ps.isEmpty)=G):ps≠[]:=by grind
def NK{xs:List Str}(h:(b&&not xs.isEmpty)=G):xs≠[]:=by grind
def VN:f8 "put":=#[by decide +kernel,by decide +kernel,by decide +kernel]
def VP:f8 "out":=#[by decide +kernel,by decide +kernel,by decide +kernel]
def VV:f8 "set":=#[by decide +kernel,by decide +kernel,by decide +kernel]
abbrev EO:=cC (tT (au cK (au aZ (au bO (aa 0) (af 8)) (af 3)) (af 0)) aY) (aL 7 (af 6)) bR
def XT(c:Int)(ho:Sh own)(gT:Sh ls)(hs:Hd)(ws:List Str)(hh:∀h∈hs,-h.1<=1000/\-h.2<=26/\FN.fn h.1):∃d:Dr,d.ok/\∀mu,iB [ZI c,R (SS own),R (SS ls),R (gY hs),R (SS ws)] mu=!(Zp (d.pv (-mu)),mu++d.cl):=by
 let(Q,f1,e1):=Hv (c*48271%2147483647) ho gT;let(p2,f2,e2):=Hv (c*69621%2147483647) ho gT;let j:Option Lc:=zS Q;let z:Option Lc:=zS p2;let E0:Mu->Ev:=λmu=>RE c own ls hs ws J J J J J J J mu;let W:Mu->Ev:=λmu=>RE c own ls hs ws j J J J J J J mu;let E2:Mu->Ev:=λmu=>RE c own ls hs ws j z J J J J J mu;have s5:∀mu,aL 5 US (E0 mu)=!(.nx (W mu)):=λmu=>
  bu (aR (aA (bC (bC O O (wL () ())) O (dI ())) O) O O O (e1 mu)) O O
 have s6:∀mu,aL 6 UU (W mu)=!(.nx (E2 mu)):=λmu=>
  bu (aR (aA (bC (bC (x:=Zp (ZI c)) O O (wL () ())) O (dI ())) O) O O O (e2 mu)) O O
 have hk:∃kd:Int,∀(mu:Mu)(g:SF) ZN,g (RE c own ls hs ws j z (zI kd) J J J J mu)=ZN->(aF tS (aF EO g)) (E2 mu)=ZN:=by
  have s7:∀mu,aL 7 UF (E2 mu)=!(.nx (RE c own ls hs ws j z (zI (c/8%9)) J J J J mu)):=λmu=>bu (l:=Zp (ZI (c/8%9))) (Y1:=E2 mu) (bC (x:=Zp (ZI (c/8))) (bC (x:=Zp (ZI c)) O O (gU () ())) O (dI ())) O O;have t:∀mu,tT UO aY (RE c own ls hs ws j z (zI (c/8%9)) J J J J mu)=!(c/8%3==0,RE c own ls hs ws j z (zI (c/8%9)) J J J J mu):=λmu=>O;cases h:(c/8%3==0) with
  |true=>show#[6,λmu g ZN hg=>aH (s7 mu) ((nA (t mu) h O).trans hg)]
  |false=>show#[c/8%9,λmu g ZN hg=>aH (s7 mu) ((bG (t mu) h).trans hg)]
 let(kd,hk):=hk;let KD:Option Lc:=zI kd;let E3:Mu->Ev:=λmu=>RE c own ls hs ws j z KD J J J J mu;have head:∀(mu:Mu)(g:SF) ZN,g (E3 mu)=ZN->(aF DA (aF DB (aF tS (aF EO g)))) (E0 mu)=ZN:=λmu g ZN hg=>aH (s5 mu) (aH (s6 mu) (hk mu g ZN hg));have t1:∀mu,eE UE tJ (E3 mu)=!((kd==1)&&not ls.isEmpty,E3 mu):=λmu=>nU O (xN O);cases b1:((kd==1)&&not ls.isEmpty) with
 |true=>
  let(x,xm,hx):=pick (NK b1) c 72 () ();show#[.row (.leaf "put" [ZH x,Q,p2]),#[VN,.put (gT x xm) f1 f2],λmu=>?_];rw[show mu++Dr.cl (.row (.leaf "put" [ZH x,Q,p2]))=mu from da _];show aO (Y:=E3 mu) (head mu _ _ (d7 (t1 mu) b1 (cT (dm (ls:=[Zp (ZH "put"),Zp (ZH x),Zp Q,Zp p2]) (aA (Y1:=E3 mu) O (aA (hx 2 (aa 0) _ O O) O)) O O))))
 |false=>
 have t2:∀mu,tT (au cK (aa 7) (af 6)) aY (E3 mu)=!(kd==6,E3 mu):=λmu=>O;cases b2:(kd==6) with
 |true=>
  show#[.wh p2,f2,λmu=>?_];show iB _ mu=!(Zp (ZB [ZH "while",p2,ZA (-mu)]),mu++[!(R [])]);show aO (Y:=RE c own ls hs ws j z KD J J J J (mu++[!(R [])])) (r:=Zp (ZB [ZH "while",p2,ZA (-mu)])) ?_;show head mu _ _ ?_;show(bG (t1 mu) b1).trans ?_;show d7 (t2 mu) b2 ?_;show cT (dm (ls:=[Zp (ZH "while"),Zp p2,Zp (ZA (-mu))]) (aA (Y1:=E3 mu) O (aA (Y1:=E3 mu) O (aA (Y1:=RE c own ls hs ws j z KD J J J J (mu++[!(R [])])) O O))) O O)
 |false=>
 have t3:∃b,∀mu,tT UM aY (E3 mu)=!(b,E3 mu):=#[_,λmu=>O];let(b3,t3):=t3;have EQ:∀mu,tO UP UI (E3 mu)=!(b3||own.isEmpty,E3 mu):=λmu=>rZ (t3 mu) (Xt O);cases oy:(b3||own.isEmpty) with
 |true=>
  show#[.iff Q,f1,λmu=>?_];show iB _ mu=!(Zp (ZB [ZH "if",Q,ZA (-mu),ZA (-mu+1)]),mu++[!(R []),!(R [])]);show aO (Y:=RE c own ls hs ws j z KD J J J J (mu++[!(R []),!(R [])])) (r:=Zp (ZB [ZH "if",Q,ZA (-mu),ZA (-mu+1)])) ?_;show head mu _ _ ?_;show(bG (t1 mu) b1).trans ?_;show(bG (t2 mu) b2).trans ?_;show d7 (EQ mu) oy ?_;show cT (dm (ls:=[Zp (ZH "if"),Zp Q,Zp (ZA (-mu)),Zp (ZA (-mu+1))]) (aA (Y1:=E3 mu) O (aA (Y1:=E3 mu) O (aA (Y1:=RE c own ls hs ws j z KD J J J J (mu++[!(R [])])) O (aA (Y1:=RE c own ls hs ws j z KD J J J J (mu++[!(R []),!(R [])])) ?_ O)))) O O);show some (Lc.sh (ZA (-(mu++[!(PV.lst [])]))),RE c own ls hs ws j z KD J J J J ((mu++[!(PV.lst [])])++[!(PV.lst [])]))=_;rw[bX,cx];rfl
 |false=>
 have hown:own≠[]:=by intro e;rw[e]at oy;simp at oy
 let(F,vk,hx):=pick hown c 72 () ();let GL:Option Lc:=zT F;let N:Mu->Ev:=λmu=>RE c own ls hs ws j z KD GL J J J mu;have s8:∀mu,aL 8 UR (E3 mu)=!(.nx (N mu)):=λmu=>bu (l:=Zp (ZH F)) (Y1:=E3 mu) (hx 1 (aa 0) _ O O) O O;have D:∀(mu:Mu)(g:SF) ZN,g (N mu)=ZN->(aF (cC Dx
  DF
  bR)
  (aF (cC C3
  C7
  bR)
  (aF (cC DE
  Db
  bR)
  (aF C_ g)))) (E3 mu)=ZN:=λmu g ZN hg=>(bG (t1 mu) b1).trans ((bG (t2 mu) b2).trans ((bG (EQ mu) oy).trans (aH (s8 mu) hg)))
 have t4:∀mu,eE C4 C5 (N mu)=!((kd==2)&&not ws.isEmpty,N mu):=λmu=>nU O (xN O);cases b4:((kd==2)&&not ws.isEmpty) with
 |true=>
  let(wh,_,hw):=pick (NK b4) c 7 () ();show#[.row (.leaf "out" [ZH F,Q,ZH wh]),#[VP,.out wh (ho F vk) f1],λmu=>?_];rw[show mu++Dr.cl (.row (.leaf "out" [ZH F,Q,ZH wh]))=mu from da _];show aO (Y:=N mu) (head mu _ _ (D mu _ _ (d7 (t4 mu) b4 (cT (dm (ls:=[Zp (ZH "out"),Zp (ZH F),Zp Q,Zp (ZH wh)]) (aA (Y1:=N mu) O (aA (Y1:=N mu) O (aA (Y1:=N mu) O (aA (hw 4 (aa 0) _ O O) O)))) O O)))))
 |false=>
 have t5:∃b,∀mu,tT UN aY (N mu)=!(b,N mu):=#[_,λmu=>O];let(b5,t5):=t5;have ER:∀mu,eE C6 t0 (N mu)=!(b5&&not (gY hs).isEmpty,N mu):=λmu=>nU (t5 mu) (Q8 O);cases vn:(b5&&not (gY hs).isEmpty) with
 |true=>
  let(q,hq,XU):=XI (Yl vn) c 792 () ();let(h,hm,rfl):=ck.mp hq;let(xB,j_,l0):=hh h hm;let(as,fa,la,ea):=Q9 c ho gT ((List.range (-h.2)).map λi:Nat=>(0+(i:Int))) λk hk=>by let(i,hi,rfl):=ck.mp hk;have:=mem_range.mp hi;lia
  rw[bo,fy]at la;show#[.row (.call (ZH F) h.1 as),#[#[F,O,ho F vk],xB,fa,(),l0],λmu=>?_];rw[show mu++Dr.cl (.row (.call (ZH F) h.1 as))=mu from da _];let E5:_:=RE c own ls hs ws j z KD GL (zT h.1) (zL (SS h.2)) J mu;let E6:_:=RE c own ls hs ws j z KD GL (zT h.1) (zL (SS h.2)) (zO as) mu;let E7:_:=RE c own ls hs ws j z KD GL (zT h.1) (zL (SS h.2)) (zL as) mu;let ec:=ea mu J [] (by rw[bo,fy];simp only[cv];lia);rw[<-Eh,eK]at ec;show aO (Y:=E7) (head mu _ _ (D mu _ _ ((bG (t4 mu) b4).trans (d7 (ER mu) vn ?_))));show aH (Y':=E5) ?_ (aH (Y':=E6) (bu (l:=Zs (R as)) (Y1:=E5) ((eF (Y1:=E5) (xs:=jo 0 (-h.2)) (mY (Y1:=E5) (l:=Zp (ZI (-(SS h.2):Nat))) (n:=((-h.2:Nat):Int)) (aA (jN (ls:=[Zp (R (SS h.2))]) (ps:=[R (SS h.2)]) (Y1:=E5) O O O) O) (by rw[tB];rfl) () ()) ec).trans O) O O) O);unfold Xn;rw[XU 3 (aa 0) _ O O];rfl
 |false=>
  show#[.row (.leaf "set" [ZH F,p2]),#[VV,.set_ (ho F vk) f2],λmu=>?_];rw[show mu++Dr.cl (.row (.leaf "set" [ZH F,p2]))=mu from da _];show aO (Y:=N mu) (head mu _ _ (D mu _ _ ((bG (t4 mu) b4).trans ((bG (ER mu) vn).trans O))))
mutual
theorem mQ:∀(p:PV)(k:Nat),di p=G->fQ mu k p=p
 |.non,k,_=>by cases k<;>rfl
 |.bl _,k,_=>by cases k<;>rfl
 |ZI _,k,_=>by cases k<;>rfl
 |ZH _,k,_=>by cases k<;>rfl
 |ZB ps,k,h=>by
  cases k with
  |zero=>rfl
  |succ k=>
   show PV.tup (ps.map (fQ mu k))=_;rw[yO ps k ()]
 |R _,k,h=>by simp[di]at h
 |.dk _ _,k,h=>by simp[di]at h
 |.dt _ _,k,h=>by simp[di]at h
 |.obj _ _ _,k,h=>by simp[di]at h
 |.df _ _,k,h=>by simp[di]at h
 |.dtf _ _,k,h=>by simp[di]at h
 |.dx _ _ _,k,h=>by simp[di]at h
 |ZA _,k,h=>by simp[di]at h
theorem yO:∀(ps:List PV)(k:Nat),ik ps=G->ps.map (fQ mu k)=ps
 |[]=>λk _=>rfl
 |p::ps=>λk h=>by simp only[ik,fF]at h;rw[dP,mQ p k h.1,yO ps k h.2]
end
def Ym(h:ik ps=G):fQ mu k (R ps)=R ps:=by
 cases k with
 |zero=>rfl
 |succ k=>
  show PV.lst (ps.map (fQ mu k))=_;rw[yO ps k h]
abbrev vZ:=List (Nat×PV)
def Holds(mu:Mu)(L:vZ):Prop:=(L.map (·.1)).Nodup/\∀x∈L,mu[x.1]?=!(!x.2)
def Holds.perm(h:Holds mu L)(p:L'.Perm L):Holds mu L':=#[(p.map _).nodup_iff.mpr h.1,λx i=>h.2 x ∅]
def Holds.sub(h:Holds mu L)(p:L'.Sublist L):Holds mu L':=#[h.1.sublist (p.map _),λx i=>h.2 x ∅]
def Holds.tail{L:vZ}(h:Holds mu (x::L)):Holds mu L:=h.sub (d5 _ _)
def Holds.head{L:vZ}(h:Holds mu ((n,p)::L)):mu[n]?=!(!p):=h.2 _ be
theorem Holds.set{L:vZ}(h:Holds mu ((n,p)::L)):Holds (mu.set n (!q)) ((n,q)::L):=by
 let j:=(c9.mp h.head).1;show#[h.1,λx i=>?_];obtain rfl|i:=a_.mp i
 . show hW j
 . let ne:=λe=>(fI.mp h.1).1 (ck.mpr #[x,i,e]);rw[ng (λe=>ne e.symm)];show h.2 x (cw _ i)
def Holds.lt(h:Holds mu L):∀x∈L,x.1< -mu:=λx i=>(c9.mp (h.2 x i)).1
def Holds.push(h:Holds mu L)(p:PV):Holds (mu++[!p]) ((-mu,p)::L):=by
 show#[fI.mpr #[λj=>?_,h.1],λx i=>?_]
 . let(x,i,e):=ck.mp j;have:=h.lt x i;lia
 . obtain rfl|i:=a_.mp i
   . rw[eW (),gN];rfl
   . rw[gu (h.lt x i)];show h.2 x i
structure d3 where
 p:PV
 r:ag
 L:vZ
def d3.fit(d:d3):Prop:=d.r.ok/\∀mu k,Holds mu d.L->3*d.r.dep<=k->fQ mu k d.p=d.r.pv
noncomputable def ar:List ag->Rows
 |[]=>.nil
 |r::l=>.cons r (ar l)
theorem Gv:∀l:List ag,(ar l).pvs=l.map ag.pv
 |[]=>rfl
 |r::l=>by simp[ar,Rows.pvs,Gv l]
theorem tE:∀l:List ag,(∀r∈l,r.ok)->(ar l).ok
 |[]=>λ_=>True.intro
 |r::l=>λh=>#[h r be,tE l λx i=>h x (cw _ i)]
theorem uv:∀l:List ag,∀r∈l,r.dep+1<=(ar l).dep
 |[]=>λr h=>by cases h
 |x::l=>λr h=>by
  simp only[ar,Rows.dep];obtain rfl|h:=a_.mp h
  . lia
  . have:=uv l r h;lia
theorem zu(i:1<=n):∀l:List ag,(∀r∈l,r.dep+1<=n)->(ar l).dep<=n
 |[]=>λ_=>i
 |x::l=>λh=>by let h1:=h x be;let h2:=zu i l λr j=>h r (cw _ j);simp only[ar,Rows.dep];lia
theorem Az:∀l:List ag,(∀r∈l,r.bl<=n)->(ar l).bl<=n
 |[]=>λ_=>d6 _
 |x::l=>λh=>by let h1:=h x be;let h2:=Az l λr i=>h r (cw _ i);simp only[ar,Rows.bl];lia
def fZ(l:List ag):Nat:=(l.map ag.cnt).sum
theorem nD:∀l:List ag,(ar l).cnt=fZ l
 |[]=>rfl
 |r::l=>by simp[ar,Rows.cnt,fZ,nD l]
def Ei(a b:List ag):fZ (a++b)=fZ a+fZ b:=by simp[fZ]
abbrev d9(ds:List d3):List PV:=ds.map (·.p)
noncomputable abbrev iM (ds:List d3):List ag:=ds.map (·.r)
noncomputable def dL:List d3->vZ
 |[]=>[]
 |d::ds=>d.L++dL ds
theorem NP:∀a b:List d3,dL (a++b)=dL a++dL b
 |[]=>λb=>rfl
 |d::a=>λb=>by simp[dL,NP a]
theorem V0:∀{ds:List d3}{d:d3},d∈ds->d.L.Sublist (dL ds)
 |[],d=>λh=>by cases h
 |x::ds,d=>λh=>by
  obtain rfl|h:=a_.mp h
  . show gL _ _
  . show(V0 h).trans (kF _ _)
def Ci(j:∀d∈ds,d.fit)(q:mu[n]?=!(!(R (d9 ds))))(H:Holds mu (dL ds))(hk:∀d∈ds,3*d.r.dep<=k):fQ mu (k+2) (ZA n)=R (ar (iM ds)).pvs:=by show (match mu[n]? with |some (!p)=>fQ mu (k+1) p |_=>ZA n)=_;rw[q];show PV.lst ((d9 ds).map (fQ mu k))=_;rw[Gv,d9,iM,fE,fE];congr 1;show oT λd i=>?_;show(j d i).2 mu k (H.sub (V0 i)) (hk d i)
def V1(he:XG e)(i:∀d∈ds,d.fit):d3.fit #[ZB [ZH "while",e,ZA n],.wh e (ar (iM ds)),(n,R (d9 ds))::dL ds]:=by
 show#[#[he,tE _ λr z=>?_],λmu k H hk=>?_]
 . let(d,q,rfl):=ck.mp z;show(i d q).1
 . simp only[ag.dep]at hk;obtain⟨k,rfl⟩:∃j,k=j+3:=#[k-3,()];let D:=Ci (k:=k) i H.head H.tail λd q=>by have:=uv (iM ds) d.r ∅;lia
   show PV.tup [fQ mu (k+2) (ZH "while"),fQ mu (k+2) e,fQ mu (k+2) (ZA n)]=_;rw[D,mQ e _ he.fl.1];rfl
def Hw(he:XG e)(D:∀d∈bs,d.fit)(z:∀d∈ds,d.fit):d3.fit #[ZB [ZH "if",e,ZA m,ZA n],.iff e (ar (iM bs)) (ar (iM ds)),(m,R (d9 bs))::(n,R (d9 ds))::(dL bs++dL ds)]:=by
 show#[#[he,tE _ λr q=>?_,tE _ λr q=>?_],λmu k H hk=>?_]
 . let(d,i,rfl):=ck.mp q;show(D d i).1
 . let(d,i,rfl):=ck.mp q;show(z d i).1
 . simp only[ag.dep]at hk;obtain⟨k,rfl⟩:∃j,k=j+3:=#[k-3,()];let N:=Ci (k:=k) D H.head (H.tail.tail.sub (gL _ _)) λd i=>by have:=uv (iM bs) d.r ∅;lia
   let F:=Ci (k:=k) z H.tail.head (H.tail.tail.sub (kF _ _)) λd i=>by have:=uv (iM ds) d.r ∅;lia
   show PV.tup [fQ mu (k+2) (ZH "if"),fQ mu (k+2) e,fQ mu (k+2) (ZA m),fQ mu (k+2) (ZA n)]=_;rw[N,F,mQ e _ he.fl.1];rfl
def XW(h:r.low):d3.fit #[r.pv,r,[]]:=by
 cases r with
 |leaf w ps=>
  let(h1,h2):=h;show#[#[h1,h2],λmu k _ _=>?_];show mQ _ k (by simp[ag.pv,di,ik,h2.fls.1])
 |call b n z=>
  let(h1,h2,i,D):=h;show#[#[h1,h2,i,D],λmu k _ hk=>?_];let(x,rfl,_):=h1;simp only[ag.dep]at hk;obtain⟨k,rfl⟩:∃j,k=j+1:=#[k-1,()];show PV.tup [fQ mu k (ZH "call"),fQ mu k (ZH x),fQ mu k (ZH n),fQ mu k (R z)]=_;rw[mQ (ZH x) _ O,mQ (ZH "call") k O,mQ (ZH n) k O,Ym (Gm i).1];rfl
 |wh e b=>cases h
 |iff e b c=>cases h
inductive Kd where
 |root
 |W (e:PV)
 |I1 (e:PV) (m:Nat)
 |I2 (e:PV) (m:Nat) (bs:List d3)
structure Fr where
 n:Nat
 s:Nat
 ds:List d3
 kd:Kd
noncomputable def Fr.op (f:Fr):PV:=match f.kd with
 |.root=>.non
 |.W e=>ZB [ZH "while",e,ZA f.n]
 |.I1 e m=>ZB [ZH "if",e,ZA f.n,ZA m]
 |.I2 e m _=>ZB [ZH "if",e,ZA m,ZA f.n]
def Kd.st:Kd->vZ
 |.I1 _ m=>[(m,R [])]
 |.I2 _ m bs=>(m,R (d9 bs))::dL bs
 |_=>[]
def Fr.sc(f:Fr):List PV:=match f.kd with
 |.I1 _ m=>[ZA f.n,ZA m]
 |_=>[ZA f.n]
def Fr.cls(f:Fr):d3:=match f.kd with
 |.root=>#[.non,.leaf "" [],[]]
 |.W e=>#[f.op,.wh e (ar (iM f.ds)),(f.n,R (d9 f.ds))::dL f.ds]
 |.I1 e m=>#[f.op,.iff e (ar (iM f.ds)) .nil,(f.n,R (d9 f.ds))::(m,R [])::(dL f.ds++[])]
 |.I2 e m bs=>#[f.op,.iff e (ar (iM bs)) (ar (iM f.ds)),(m,R (d9 bs))::(f.n,R (d9 f.ds))::(dL bs++dL f.ds)]
def Kd.fit:Kd->Prop
 |.root=>True
 |.W e=>XG e
 |.I1 e _=>XG e
 |.I2 e _ bs=>XG e/\∀d∈bs,d.fit
def Fr.fit(f:Fr):Prop:=(∀d∈f.ds,d.fit)/\f.kd.fit
def Ra{f:Fr}(h:f.fit)(q:f.kd≠.root):f.cls.fit:=by
 let(n,s,ds,kd):=f;let(h1,h2):=h;cases kd with
 |root=>grind
 |W e=>show V1 h2 h1
 |I1 e m=>show Hw (ds:=[]) h2 h1 (λd j=>by cases j)
 |I2 e m bs=>show Hw h2.1 h2.2 h1
def XY{f:Fr}(i:f.kd≠.root):f.cls.p=f.op:=by let(n,s,ds,kd):=f;cases kd<;>first |show absurd O i |rfl
def XZ{f:Fr}(j:f.kd≠.root):f.cls.L.Perm ((f.n,R (d9 f.ds))::(f.kd.st++dL f.ds)):=by
 let(n,s,ds,kd):=f;cases kd with
 |root=>grind
 |W e=>show Perm.refl _
 |I1 e m=>
  show Perm ((n,PV.lst (d9 ds))::(m,R [])::(dL ds++[])) ((n,R (d9 ds))::([(m,R [])]++dL ds));grind
 |I2 e m bs=>show Perm.swap _ _ _
def FS:List Fr->List PV->vZ
 |[],_=>[]
 |f::fs,o=>(f.n,R (d9 f.ds++o))::(f.s,R f.sc)::((f.kd.st++dL f.ds)++FS fs [f.op])
def Gw{f g:Fr}(i:f.kd≠.root):Perm (FS (#[g.n,g.s,g.ds++[f.cls],g.kd]::fs) []) ((f.n,R (d9 f.ds))::((f.kd.st++dL f.ds)++FS (g::fs) [f.op])):=by
 have j:(#[g.n,g.s,g.ds++[f.cls],g.kd]:Fr).op=g.op:=by cases g with |mk n s ds kd=>cases kd<;>rfl
 have es:(#[g.n,g.s,g.ds++[f.cls],g.kd]:Fr).sc=g.sc:=by cases g with |mk n s ds kd=>cases kd<;>rfl
 show Perm ((g.n,PV.lst (d9 (g.ds++[f.cls])++[]))::(g.s,R (#[g.n,g.s,g.ds++[f.cls],g.kd]:Fr).sc)::((g.kd.st++dL (g.ds++[f.cls]))++FS fs [(#[g.n,g.s,g.ds++[f.cls],g.kd]:Fr).op])) _;rw[j,es,da,NP,show d9 (g.ds++[f.cls])=d9 g.ds++[f.op] by rw[d9,cy,List.map_singleton,XY i],show dL [f.cls]=f.cls.L from da _];let z:=XZ i;have p2:Perm ((f.n,PV.lst (d9 f.ds))::((f.kd.st++dL f.ds)++FS (g::fs) [f.op])) (f.cls.L++FS (g::fs) [f.op]):=z.symm.append_right _;show Perm.trans ?_ p2.symm;have q:Perm ((g.kd.st++(dL g.ds++f.cls.L))++FS fs [g.op]) (f.cls.L++((g.kd.st++dL g.ds)++FS fs [g.op])):=by rw[<-cx,cx (g.kd.st++dL g.ds),<-cx f.cls.L];rw[<-cx];show(h_).append_right _
 show((q.cons _).cons _).trans ((perm_middle.symm.cons _).trans et.symm)
def mR:FS (f::fs) []=(f.n,R (d9 f.ds))::(f.s,R f.sc)::((f.kd.st++dL f.ds)++FS fs [f.op]):=by show (f.n,PV.lst (d9 f.ds++[]))::_=_;rw[da]
def Px(i:f.kd≠.root)(h:Holds mu (FS (f::g::fs) [])):Holds mu (FS (#[g.n,g.s,g.ds++[f.cls],g.kd]::fs) []):=by rw[mR]at h;show(h.sub ((d5 _ _).cons₂ _)).perm (Gw i)
def Holds.grow(h:Holds mu L)(X:Mu):Holds (mu++X) L:=#[h.1,λx i=>by rw[gu (h.lt x i)];show h.2 x i]
inductive UK where
 |root
 |W (e:PV)
 |I1 (e:PV)
 |I2 (e:PV) (b:List ag)
abbrev U_:=List ag×UK
def Kd.u:Kd->UK
 |.root=>.root
 |.W e=>.W e
 |.I1 e _=>.I1 e
 |.I2 e _ bs=>.I2 e (iM bs)
def Fr.u(f:Fr):U_:=(iM f.ds,f.kd.u)
def UK.close:UK->List ag->ag
 |.root,_=>.leaf "" []
 |.W e,rs=>.wh e (ar rs)
 |.I1 e,rs=>.iff e (ar rs) .nil
 |.I2 e b,rs=>.iff e (ar b) (ar rs)
def Zn{f:Fr}:f.cls.r=f.kd.u.close (iM f.ds):=by let(n,s,ds,kd):=f;cases kd<;>rfl
def yP:List U_->List U_
 |(rs,.I1 e)::us=>([],.I2 e rs)::us
 |(rs,k)::(m5,k')::us=>(m5++[k.close rs],k')::us
 |us=>us
noncomputable def vy (d:Dr):List U_->List U_
 |[]=>[]
 |(rs,k)::us=>match d with
  |.row r=>(rs++[r],k)::us
  |.wh e=>if -us+1<5 then ([],.W e)::(rs,k)::us else (rs++[.wh e .nil],k)::us
  |.iff e=>if -us+1<5 then ([],.I1 e)::(rs,k)::us else (rs++[.iff e .nil .nil],k)::us
def qC(us:List U_)(c:Int)(d:Dr):List U_:=if ((c%8==0)&&decide ((-us:Int)>1))=G then yP us else vy d us
def f_(b:Nat):List Fr->Prop
 |[]=>False
 |[f]=>f.kd=.root/\f.n=b
 |f::g::r=>f.kd≠.root/\f_ b (g::r)
abbrev stk(fs:List Fr):List PV:=fs.reverse.map λf=>ZA f.s
def kJ:stk (f::fs)=stk fs++[ZA f.s]:=by grind
def Rb:-(stk fs)=-fs:=by grind
structure St(mu:Mu)(b S t:Nat)(fs:List Fr):Prop where
 h:Holds mu ((S,.lst (stk fs))::FS fs [])
 fit:∀f∈fs,f.fit
 sh:f_ b fs
 ln:-fs<=5
 sz:∀f∈fs,-f.ds<=t
def Hx(h:f Y=!(l,Y1))(hl:l.pv=ZA n)(hm:Y1.mu[n]?=!(!(R ws))):oO f Y=!(Zp (ZI (-ws:Nat)),Y1):=by unfold oO;rw[h,bq,hl];grind
def X0{Y Y1:Ev}{mu:Mu}(h1:fo Y=!(o,Y1))(i:o.pv=ZA n)(j:Y1.mu[n]?=!(!(R (ws++[p]))))(e:Y1.mu.set n (!(R ws))=mu):FZ fo Y=!(Zp p,#[Y1.vs,mu]):=by unfold FZ;rw[h1,bq,i];grind
def X1(h:f Y=!(Zs p,Y1))(hn:-Y1.mu=n):oh f Y=!(Zp (ZA n),#[Y1.vs,Y1.mu++[!p]]):=by unfold oh;rw[h,bq,hn]
abbrev ZE(X:PV)(own ls:List Str)(hs:Hd)(ws:List Str)(b S:Nat)(o7 o8:Option Lc)(mu:Mu):Ev:=#[[zS X,zL (SS own),zL (SS ls),zL (gY hs),zL (SS ws),zS (ZA b),zS (ZA S),o7,o8],mu]
abbrev Ba:EF:=aJ (aa 6) (jq (af 1))
abbrev X_:=au cK (oO Ba) (af 0)
abbrev vt:SF:=aF (rW (An Ba))
 (cC (tT X_ aY)
 (rW (FZ (aa 6)))
 bR)
abbrev Ya:SF:=cC DO
 DL
 bR
abbrev Zo:SF:=aF DI
 (aF (ou (aJ Ba (af 0)) (aa 8))
 Ya)
abbrev ES:SF:=cC DM vt Zo
section
variable {X:PV}{own ls:List Str}{hs:Hd}{ws:List Str}{b S:Nat}{o7 o8:Option Lc}{mu:Mu}
def Gx(h:mu[S]?=!(!(R (stk (f::fs))))):Ba (ZE X own ls hs ws b S o7 o8 mu)=!(Zp (ZA f.s),ZE X own ls hs ws b S o7 o8 mu):=
 Vj O O O O h (by rw[kJ];show qN _ _)
def Fr.sc_head(f:Fr):∃t,f.sc=ZA f.n::t:=by let(n,s,ds,kd):=f;cases kd<;>show#[_,O]
def Yf(h:mu[S]?=!(!(R (stk (f::fs)))))(h2:mu[f.s]?=!(!(R f.sc))):aJ Ba (af 0) (ZE X own ls hs ws b S o7 o8 mu)=!(Zp (ZA f.n),ZE X own ls hs ws b S o7 o8 mu):=by let(t,i):=f.sc_head;show Vj (Gx h) O O O h2 (by rw[i];show iE)
def Zq(h:mu[S]?=!(!(R (stk fs)))):oO (aa 6) (ZE X own ls hs ws b S o7 o8 mu)=!(Zp (ZI (-fs:Nat)),ZE X own ls hs ws b S o7 o8 mu):=by have:=Hx (f:=aa 6) (Y:=ZE X own ls hs ws b S o7 o8 mu) O O h;rw[Rb]at this;show this
def Zr{t:Nat}(h:Holds mu ((S,R (stk (f::fs)))::FS (f::fs) []))(i:-f.ds<=1000):ou (aJ Ba (af 0)) (aa 8) (ZE X own ls hs ws b S o7 (zS p) mu)=!(.nx (ZE X own ls hs ws b S o7 (zS p) (mu.set f.n (!(R (d9 f.ds++[p])))))):=by let h1:=h.head;let h2:=h.tail;rw[mR]at h2;show xg (Y2:=ZE X own ls hs ws b S o7 (zS p) mu) (Yf h1 h2.tail.head) O h2.head O O h2.head ∅ O
end
def Gy(h:f Y=!(l,Y1)):rW f Y=!(.nx Y1):=by unfold rW;grind
section
variable {X:PV}{own ls:List Str}{hs:Hd}{ws:List Str}{b S t:Nat}{o7 o8:Option Lc}{mu:Mu}
def YA(h:mu[S]?=!(!(R (stk fs)))):eE UZ UX (ZE X own ls hs ws b S (zI c) o8 mu)=!((c%8==0)&&decide ((-fs:Int)>1),ZE X own ls hs ws b S (zI c) o8 mu):=
 nU O (jU (dj (Zq h) O O O O) O)
def Bb(h:f_ b (g::fs)):f_ b (#[g.n,g.s,d,g.kd]::fs):=by
 cases fs with
 |nil=>show h
 |cons x fs=>show h
def Rc(h:St mu b S t (f::g::fs))(F:f.sc=[ZA f.n])(W:yP ((f::g::fs).map Fr.u)=((g::fs).map Fr.u).modifyHead λu=>(u.1++[f.kd.u.close (iM f.ds)],u.2)):∃j eL,vt (ZE X own ls hs ws b S o7 o8 mu)=!(.nx (ZE X own ls hs ws b S o7 o8 j))/\St j b S (t+1) eL/\eL.map Fr.u=yP ((f::g::fs).map Fr.u):=by
 let(H,fit,sh,Q,sz):=h;let N:=sh.1;rw[mR,F]at H;let H1:=H.perm (et (l₁:=[(S,PV.lst (stk (f::g::fs))),(f.n,R (d9 f.ds))])).symm;let H2:=H1.set (q:=R []);have H3:Holds ((mu.set f.s (!(R []))).set S (!(R (stk (g::fs))))) ((S,R (stk (g::fs)))::(f.s,R [])::(f.n,R (d9 f.ds))::((f.kd.st++dL f.ds)++FS (g::fs) [f.op])):=(H2.perm (Perm.swap _ _ _)).set;let H4:=H3.sub ((d5 _ _).cons₂ _);let H5:=H4.perm ((Gw N).cons _);show#[(mu.set f.s (!(R []))).set S (!(R (stk (g::fs)))),#[g.n,g.s,g.ds++[f.cls],g.kd]::fs,?_,#[?_,λx z=>?_,Bb sh.2,?_,λx z=>?_],?_]
 . let i:_:=mu.set f.s (!(R []));show aH (Gy (M3 (Gx H.head) O H1.head O)) ?_;show(lR (jU (dj (Hx (Gx H2.tail.head) O H2.head) O O O O) O)).trans (Gy (X0 (Y1:=ZE X own ls hs ws b S o7 o8 i) (p:=ZA f.s) O O ?_ O));rw[<-kJ];show H2.tail.head
 . have e:stk (#[g.n,g.s,g.ds++[f.cls],g.kd]::fs)=stk (g::fs):=by rw[kJ,kJ]
   rw[e];show H5
 . obtain rfl|z:=a_.mp z
   . let(g1,g2):=fit g (by simp);show#[λd D=>?_,g2];obtain D|D:=cr.mp D
     . show g1 d D
     . rw[eR.mp D];show Ra (fit f (by simp)) N
   . show fit x ∅
 . simp only[bi]at Q ⊢;lia
 . obtain rfl|z:=a_.mp z
   . have:=sz g (by simp);simp only[bX,bi,cv];lia
   . have:=sz x ∅;lia
 . rw[W];show (iM (g.ds++[f.cls]),g.kd.u)::fs.map Fr.u=(iM g.ds++[f.kd.u.close (iM f.ds)],g.kd.u)::fs.map Fr.u;rw[iM,cy,List.map_singleton,Zn]
def Yn(h:St mu b S t (f::g::fs)):∃j eL,vt (ZE X own ls hs ws b S o7 o8 mu)=!(.nx (ZE X own ls hs ws b S o7 o8 j))/\St j b S (t+1) eL/\eL.map Fr.u=yP ((f::g::fs).map Fr.u):=by
 let(n,s,ds,kd):=f;cases kd with
 |root=>show absurd O h.sh.1
 |W e=>show Rc h O O
 |I2 e m bs=>show Rc h O O
 |I1 e m=>
  let(H,fit,sh,Q,sz):=h;let f:Fr:=#[n,s,ds,.I1 e m];let N:Fr:=#[m,s,[],.I2 e n ds];rw[mR]at H;let D:=H;let H1:=D.perm (et (l₁:=[(S,PV.lst (stk (f::g::fs))),(n,R (d9 ds))])).symm;let H2:=H1.set (q:=R [ZA m]);show#[mu.set s (!(R [ZA m])),N::g::fs,?_,#[?_,λx z=>?_,#[∅,sh.2],Q,λx z=>?_],?_]
  . show aH (Gy (M3 (Gx D.head) O H1.head O)) ?_;show(lU (jU (dj (Hx (Gx H2.tail.head) O H2.head) O O O O) O)).trans O
  . let e:=(kJ (f:=N)).trans (kJ (f:=f) (fs:=g::fs)).symm;rw[mR,e];show Holds _ ((S,R (stk (f::g::fs)))::(m,R [])::(s,R [ZA m])::(n,R (d9 ds))::((dL ds++[])++FS (g::fs) [f.op]));rw[da];show H2.perm ?_;show(et (l₁:=[(S,PV.lst (stk (f::g::fs))),(m,R [])])).trans (((Perm.swap _ _ _).cons _).cons _)
  . obtain rfl|z:=a_.mp z
    . let(g1,g2):=fit f ∅;show#[(λd hd=>(by cases hd)),g2,g1]
    . show fit x ∅
  . obtain rfl|z:=a_.mp z
    . show d6 _
    . have:=sz x ∅;lia
  . rfl
def YE(h:Holds mu ((S,R (stk (f::fs)))::FS (f::fs) []))(h2:Holds mu (L++((S,R (stk (f::fs)))::FS (f::fs) [])))(D:d.L=L):Holds (mu.set f.n (!(R (d9 f.ds++[d.p])))) ((S,R (stk (f::fs)))::FS (#[f.n,f.s,f.ds++[d],f.kd]::fs) []):=by
 rw[mR]at h2;have j:Perm ((f.n,PV.lst (d9 f.ds))::(L++((S,R (stk (f::fs)))::(f.s,R f.sc)::((f.kd.st++dL f.ds)++FS fs [f.op])))) (L++((S,R (stk (f::fs)))::(f.n,R (d9 f.ds))::(f.s,R f.sc)::((f.kd.st++dL f.ds)++FS fs [f.op]))):=by have:=(et (l₁:=L++[(S,PV.lst (stk (f::fs)))]) (a:=(f.n,PV.lst (d9 f.ds))) (l₂:=(f.s,R f.sc)::((f.kd.st++dL f.ds)++FS fs [f.op]))).symm;simpa using this
 let H1:=(h2.perm j).set (q:=R (d9 f.ds++[d.p]));have z:(#[f.n,f.s,f.ds++[d],f.kd]:Fr).op=f.op:=by cases f with |mk n s ds kd=>cases kd<;>rfl
 have es:(#[f.n,f.s,f.ds++[d],f.kd]:Fr).sc=f.sc:=by cases f with |mk n s ds kd=>cases kd<;>rfl
 rw[mR,z,es];rw[show d9 (f.ds++[d])=d9 f.ds++[d.p] by simp[d9],NP,show dL [d]=L by rw[<-D];show da _];show H1.perm ?_;have q:Perm ((f.kd.st++(dL f.ds++L))++FS fs [f.op]) (L++((f.kd.st++dL f.ds)++FS fs [f.op])):=by rw[<-cx (f.kd.st),<-cx L];show perm_append_comm.append_right _
 let i:=((q.cons (f.s,PV.lst f.sc)).cons (S,PV.lst (stk (f::fs)))).trans ((perm_middle.symm.cons _).trans et.symm);show(Perm.swap _ _ _).trans (i.cons _)
def YI(h:St mu b S t (f::fs))(z:d.fit)(H:Holds f6 ((S,R (stk (f::fs)))::FS (#[f.n,f.s,f.ds++[d],f.kd]::fs) [])):St f6 b S (t+1) (#[f.n,f.s,f.ds++[d],f.kd]::fs):=by
 let(_,fit,sh,q,sz):=h;show#[?_,λx j=>?_,Bb sh,by simpa using q,λx j=>?_]
 . have e:stk (#[f.n,f.s,f.ds++[d],f.kd]::fs)=stk (f::fs):=by rw[kJ,kJ]
   rw[e];show H
 . obtain rfl|j:=a_.mp j
   . let(F,D):=fit f (by simp);show#[λy i=>?_,D];obtain i|i:=cr.mp i
     . grind
     . grind
   . show fit x ∅
 . obtain rfl|j:=a_.mp j
   . grind
   . have:=sz x ∅;lia
end
section
variable {X:PV}{own ls:List Str}{hs:Hd}{ws:List Str}{b S t:Nat}{o7 o8:Option Lc}{mu:Mu}
def Yo{f F:Fr}(z:F.ds=[])(i:Holds mu (((F.n,R [])::F.kd.st)++((S,R (stk (f::fs)))::FS (f::fs) [])))(hs:F.s=-mu):
 Holds ((mu.set f.n (!(PV.lst (d9 f.ds++[F.op])))++[!(PV.lst F.sc)]).set S (!(PV.lst (stk (F::f::fs))))) ((S,R (stk (F::f::fs)))::FS (F::f::fs) []):=by
 rw[mR]at i;let K:_:=F.kd.st;let A:Nat×PV:=(F.n,R []);let E:Nat×PV:=(f.s,R f.sc);let ZN:_:=(f.kd.st++dL f.ds)++FS fs [f.op];have N:Perm ((f.n,PV.lst (d9 f.ds))::((S,R (stk (f::fs)))::((A::K)++(E::ZN)))) (((F.n,R [])::F.kd.st)++((S,R (stk (f::fs)))::(f.n,R (d9 f.ds))::E::ZN)):=by show Perm.trans ?_ (et).symm;show(Perm.swap _ _ _).trans ((et).symm.cons _)
 let H1:=(i.perm N).set (q:=R (d9 f.ds++[F.op]));let H2:=H1.push (R F.sc);rw[ly,<-hs]at H2;let B:Nat×PV:=(F.s,R F.sc);let D:Nat×PV:=(f.n,R (d9 f.ds++[F.op]));let Q:=H2.perm (et (l₁:=[B,D])).symm;let j:=Q.set (q:=R (stk (F::f::fs)));show j.perm (Perm.cons _ ?_);rw[mR,z];show Perm (A::B::((K++[])++(D::E::ZN))) (B::D::((A::K)++(E::ZN)));rw[da];show(Perm.swap _ _ _).trans ((((et).cons A).trans (Perm.swap _ _ _)).cons B)
def wZ:aJ (aa 8) (af 0) (ZE X own ls hs ws b S o7 (zS (ZB (ZH w::ps))) mu)=!(Zp (ZH w),ZE X own ls hs ws b S o7 (zS (ZB (ZH w::ps))) mu):=
 dG O O O O (λn h=>by cases h) (by show (fO (PV.str w::ps) 0).map _=_;rw[iE];rfl)
def NQ(h:mu[S]?=!(!(R (stk fs)))):eE DJ DH (ZE X own ls hs ws b S o7 (zS (ZB (ZH w::ps))) mu)=!(jO w&&decide ((-fs:Int)<5),ZE X own ls hs ws b S o7 (zS (ZB (ZH w::ps))) mu):=
 nU (jU (bC wZ O O) O) (jU (dj (Zq h) O O O O) O)
def Ej{d:Dr}(W:iB [ZI c,R (SS own),R (SS ls),R (gY hs),R (SS ws)] mu=!(Zp (d.pv (-mu)),mu++d.cl))(h:St mu b S t (f::fs))(ht:t<=1000)
 (z:d.pv (-mu)=ZB (ZH w::ps)) (hD:D.p=d.pv (-mu)) (N:D.fit) (hL:Holds (mu++d.cl) (D.L++((S,R (stk (f::fs)))::FS (f::fs) []))) (hb:(jO w&&decide ((-(f::fs):Int)<5))=M):
 ∃i Q,Zo (ZE X own ls hs ws b S (zI c) o8 mu)=!(.nx (ZE X own ls hs ws b S (zI c) Q i))/\St i b S (t+1) (#[f.n,f.s,f.ds++[D],f.kd]::fs):=by
 let F:=h.h.grow d.cl;let hz:=h.sz f be;let C:Option Lc:=zI c;let P:Option Lc:=zS (d.pv (-mu));let q:=YE F hL O;rw[hD]at q;show#[(mu++d.cl).set f.n (!(PV.lst (d9 f.ds++[d.pv (-mu)]))),P,?_,YI h N q];show aH (bu (aR O O O O W) O O) ?_;show aH (Zr (t:=t) F ()) ?_;let j:=NQ (X:=X) (own:=own) (ls:=ls) (hs:=hs) (ws:=ws) (b:=b) (o7:=C) (w:=w) (ps:=ps) q.head;rw[hb]at j;rw[show P=zS (ZB (ZH w::ps)) from congrArg (λx=>!(Lc.sh x)) z,z];rw[z]at j;show(lU j).trans O
def NT{f F:Fr}{d:Dr}(er:iB [ZI c,R (SS own),R (SS ls),R (gY hs),R (SS ws)] mu=!(Zp (d.pv (-mu)),mu++d.cl))(h:St mu b S t (f::fs))(ht:t<=1000)
 (hp:d.pv (-mu)=ZB (ZH w::ps)) (hF:F.ds=[]) (YN:F.op=d.pv (-mu)) (hk:F.fit) (hr:F.kd≠.root) (Q:F.s=-(mu++d.cl)) (hL:Holds (mu++d.cl) (((F.n,R [])::F.kd.st)++((S,R (stk (f::fs)))::FS (f::fs) []))) (hb:(jO w&&decide ((-(f::fs):Int)<5))=G)
 (hc:∀mu:Mu,bU UY 1 [] (aC 0) bB (aa 0) (ZE X own ls hs ws b S (zI c) (zS F.op) mu)=!(Zs (R F.sc),ZE X own ls hs ws b S (zI c) (zS F.op) mu)):
 ∃D p8,Zo (ZE X own ls hs ws b S (zI c) o8 mu)=!(.nx (ZE X own ls hs ws b S (zI c) p8 D))/\St D b S (t+1) (F::f::fs):=by
 let Hg:=h.h.grow d.cl;let hz:=h.sz f be;let C:Option Lc:=zI c;let P:Option Lc:=zS F.op;let H5:=Yo hF hL Q;let(_,fit,sh,ln,sz):=h;have N:-(f::fs)<5:=by let h2:=(fF _ _▸hb).2;lia
 let i:_:=(mu++d.cl).set f.n (!(PV.lst (d9 f.ds++[F.op])));have j:i[S]?=!(!(R (stk (f::fs)))):=by
  have ne:f.n≠S:=by let nd:=Hg.1;show λq=>(fI.mp nd).1 (by rw[<-q];show be)
  rw[ng ne];show Hg.head
 show#[(i++[!(PV.lst F.sc)]).set S (!(PV.lst (stk (F::f::fs)))),P,?_,#[H5,λx z=>?_,#[hr,sh],by simp only[bi]at N ⊢;lia,λx z=>?_]]
 . show aH (bu (l:=Zp F.op) (aR O O O O (by rw[YN];show er)) O O) ?_;show aH (Zr (t:=t) Hg ()) ?_;let tt:=NQ (X:=X) (own:=own) (ls:=ls) (hs:=hs) (ws:=ws) (b:=b) (o7:=C) (w:=w) (ps:=ps) j;rw[hb]at tt;have e9:P=zS (ZB (ZH w::ps)):=congrArg (λx=>!(Lc.sh x)) ∅;have W:eE DJ DH (ZE X own ls hs ws b S C P i)=!(G,ZE X own ls hs ws b S C P i):=by rw[e9];show tt
   show(lR W).trans ?_;let lt:=(c9.mp j).1;show xg (ws:=stk (f::fs)) (p:=ZA F.s) O O j (X1 (hc i) ∅) O ?_ ∅ ?_
   . rw[gu lt];show j
   . rw[<-kJ]
 . obtain rfl|z:=a_.mp z
   . show hk
   . show fit x z
 . obtain rfl|z:=a_.mp z
   . rw[hF];show d6 _
   . have:=sz x z;lia
def Yp(j:d.ok)(Q:∀mu,iB [ZI c,R (SS own),R (SS ls),R (gY hs),R (SS ws)] mu=!(Zp (d.pv (-mu)),mu++d.cl))(h:St mu b S t (f::fs))(ht:t<=1000):
 ∃i eL z,Zo (ZE X own ls hs ws b S (zI c) o8 mu)=!(.nx (ZE X own ls hs ws b S (zI c) z i))/\St i b S (t+1) eL/\eL.map Fr.u=vy d ((f::fs).map Fr.u):=by
 have hl:-(fs.map Fr.u)=-fs:=bo _;cases d with
 |row r=>
  let hr:=j;obtain⟨w,ps,e,hw⟩:∃w ps,r.pv=ZB (ZH w::ps)/\jO w=M:=by
   cases r with
   |leaf w ps=>show#[w,ps,O,Hu hr.1]
   |call x n as=>show#["call",_,O,by decide +kernel]
   |wh x c=>cases hr
   |iff x c d=>cases hr
  let(i,z,N,D):=Ej (Q mu) h ht e O (XW hr) (by rw[show mu++Dr.cl (.row r)=mu from da _];show h.h) ∅;show#[i,_,z,N,D,?_];show (iM (f.ds++[#[r.pv,r,[]]]),f.kd.u)::fs.map Fr.u=(iM f.ds++[r],f.kd.u)::fs.map Fr.u;rw[iM,cy];rfl
 |wh e=>
  let he:=j;let H1:=h.h.push (R []);by_cases hb:-fs+1<5
  . let(i,z,N,D):=NT (F:=#[-mu,-mu+1,[],.W e]) (Q mu) h ht (w:="while") O O O #[(λd j=>(by cases j)),he] () (by simp[Dr.cl]) H1 (by rw[show jO "while"=G by decide +kernel,Bool.true_and];show i5 (by simp only[bi];lia)) (λmu=>O)
    show#[i,_,z,N,D,?_];show _=if -(fs.map Fr.u)+1<5 then _ else _
    rw[hl,aw hb];rfl
  . let(i,z,N,D):=Ej (Q mu) h ht (w:="while") O O (V1 (ds:=[]) he λd j=>by cases j) H1 (by rw[show jO "while"=G by decide +kernel,Bool.true_and];show iX (by simp only[bi];lia))
    show#[i,_,z,N,D,?_];show _=if -(fs.map Fr.u)+1<5 then _ else _
    rw[hl,ay hb];show (iM (f.ds++[_]),f.kd.u)::fs.map Fr.u=_;rw[iM,cy];rfl
 |iff e=>
  let he:=j;let ET:=(h.h.push (R [])).push (R []);have D:(mu++[!(PV.lst [])])++[!(PV.lst [])]=mu++Dr.cl (.iff e):=by simp[Dr.cl]
  rw[D,show -(mu++[!(PV.lst [])])=-mu+1 by simp]at ET;let H1:=ET.perm (Perm.swap _ _ _);by_cases hb:-fs+1<5
  . let(i,z,N,D):=NT (F:=#[-mu,-mu+2,[],.I1 e (-mu+1)]) (Q mu) h ht (w:="if") O O O #[(λd j=>(by cases j)),he] (by intro q;cases q) (by simp[Dr.cl]) H1 (by rw[show jO "if"=G by decide +kernel,Bool.true_and];show i5 (by simp only[bi];lia)) (λmu=>O)
    show#[i,_,z,N,D,?_];show _=if -(fs.map Fr.u)+1<5 then _ else _
    rw[hl,aw hb];rfl
  . let(i,z,N,D):=Ej (Q mu) h ht (w:="if") O O (Hw (bs:=[]) (ds:=[]) he (λd j=>by cases j) λd j=>by cases j) H1 (by rw[show jO "if"=G by decide +kernel,Bool.true_and];show iX (by simp only[bi];lia))
    show#[i,_,z,N,D,?_];show _=if -(fs.map Fr.u)+1<5 then _ else _
    rw[hl,ay hb];show (iM (f.ds++[_]),f.kd.u)::fs.map Fr.u=_;rw[iM,cy];rfl
end
def NZ(eS:Nat)(r:ag):Prop:=r.ok/\r.dep<=10-2*eS/\r.bl+1<=3*2 ^ (4-eS)
def UK.ok(eS:Nat):UK->Prop
 |.root=>eS=0
 |.W e=>0<eS/\XG e
 |.I1 e=>0<eS/\XG e
 |.I2 e b=>0<eS/\XG e/\∀r∈b,NZ eS r
def vz:List U_->Prop
 |[]=>True
 |u::us=>(∀r∈u.1,NZ (-us) r)/\u.2.ok (-us)/\vz us
def UK.cnt:UK->Nat
 |.root=>0
 |.W _=>1
 |.I1 _=>1
 |.I2 _ b=>fZ b+1
def ir:List U_->Nat
 |[]=>0
 |u::us=>fZ u.1+u.2.cnt+ir us
def Ek{rs:List ag}(q:eS<=4)(h:∀r∈rs,NZ eS r):(ar rs).ok/\(ar rs).dep<=11-2*eS/\(ar rs).bl+1<=3*2 ^ (4-eS):=by
 have j:1<=2 ^ (4-eS):=Nat.one_le_two_pow;show#[tE _ λr i=>(h r i).1,zu () _ λr i=>?_,?_]
 . have:=(h r i).2.1;lia
 . have:=Az (n:=3*2 ^ (4-eS)-1) rs λr i=>by have:=(h r i).2.2;lia
   lia
def Jw{k:UK}{rs:List ag}(q:eS+1<=4)(hk:k.ok (eS+1))(h:∀r∈rs,NZ (eS+1) r):NZ eS (k.close rs)/\(k.close rs).cnt=fZ rs+k.cnt:=by
 let(i,N,g3):=Ek q h;have e:2 ^ (4-eS)=2*2 ^ (4-(eS+1)):=by rw[show 4-eS=(4-(eS+1))+1 by lia,Nat.pow_succ,Nat.mul_comm]
 have D:Rows.dep .nil=1:=O;cases k with
 |root=>cases hk
 |W e=>
  show#[#[#[hk.2,i],?_,?_],?_]
  . show (ar rs).dep+1<=_;lia
  . show 1+1<=_;lia
  . show (ar rs).cnt+1=_;rw[nD];rfl
 |I1 e=>
  show#[#[#[hk.2,i,True.intro],?_,?_],?_]
  . show max (ar rs).dep (Rows.dep .nil)+1<=_;lia
  . show 1+(ar rs).bl+0+1<=_;lia
  . show (ar rs).cnt+0+1=_;rw[nD];rfl
 |I2 e b=>
  let(z,b2,b3):=Ek q hk.2.2;show#[#[#[hk.2.1,z,i],?_,?_],?_]
  . show max (ar b).dep (ar rs).dep+1<=_;lia
  . show 1+(ar b).bl+(ar rs).bl+1<=_;lia
  . show (ar b).cnt+(ar rs).cnt+1=fZ rs+(fZ b+1);rw[nD,nD];lia
def YO(F:d.ok)(h:vz i)(hl:-i<=5)(hn:i≠[]):vz (vy d i)/\-(vy d i)<=5/\vy d i≠[]/\ir (vy d i)<=ir i+1:=by
 cases i with
 |nil=>grind
 |cons u i=>
  let(rs,k):=u;let(h1,h2,Q):=h;simp only[bi]at hl;have hp:1<=2 ^ (4-(-i)):=Nat.one_le_two_pow;have put:∀r:ag,NZ (-i) r->r.cnt=1->vz ((rs++[r],k)::i)/\-((rs++[r],k)::i)<=5/\((rs++[r],k)::i)≠[]/\ir ((rs++[r],k)::i)<=ir ((rs,k)::i)+1:=λr q hc=>by
   show#[#[λx D=>?_,h2,Q],(),∅,?_]
   . obtain D|D:=cr.mp D
     . show h1 x D
     . grind
   . show fZ (rs++[r])+k.cnt+ir i<=fZ rs+k.cnt+ir i+1;rw[Ei];have:fZ [r]=r.cnt:=by simp[fZ]
     lia
  have push:∀z:UK,z.ok (-i+1)->z.cnt=1->-i+1<5->vz (([],z)::(rs,k)::i)/\-(([],z)::(rs,k)::i)<=5/\(([],z)::(rs,k)::i)≠[]/\ir (([],z)::(rs,k)::i)<=ir ((rs,k)::i)+1:=λz hk hc j=>by show#[#[λx D=>(by cases D),hk,h1,h2,Q],(),∅,?_];show fZ []+z.cnt+ir ((rs,k)::i)<=_;have:fZ []=0:=O;lia
  cases d with
  |row r=>
   let q:=F;show put r ?_ ?_
   . cases r with
     |leaf w ps=>show#[q,by show 1<=_;lia,by show 1+1<=_;lia]
     |call x n as=>show#[q,by show 1<=_;lia,by show 2+1<=_;lia]
     |wh x c=>cases q
     |iff x c d=>cases q
   . cases r with
     |leaf w ps=>rfl
     |call x n as=>rfl
     |wh x c=>cases q
     |iff x c d=>cases q
  |wh e=>
   by_cases j:-i+1<5
   . rw[vy,aw j];show push (.W e) #[(),F] O j
   . rw[vy,ay j];show put (.wh e .nil) #[#[F,True.intro],by show 1+1<=_;lia,by show 1+1<=_;lia] O
  |iff e=>
   by_cases j:-i+1<5
   . rw[vy,aw j];show push (.I1 e) #[(),F] O j
   . rw[vy,ay j];show put (.iff e .nil .nil) #[#[F,True.intro,True.intro],by show max 1 1+1<=_;lia,by show 1+0+0+1<=_;lia] O
def YR(h:vz j)(F:-j<=5)(hn:-j>1):vz (yP j)/\-(yP j)<=5/\yP j≠[]/\ir (yP j)<=ir j+1:=by
 match j,h,F,hn with
 |(rs,k)::(i,z)::j,h,F,hn=>
  let(h1,h2,N,h4,h5):=h;simp only[bi]at F h1 h2;have low:vz ((i++[k.close rs],z)::j)/\-((i++[k.close rs],z)::j)<=5/\((i++[k.close rs],z)::j)≠[]/\ir ((i++[k.close rs],z)::j)<=ir ((rs,k)::(i,z)::j)+1:=by
   let(c1,c2):=Jw () h2 h1;show#[#[λx D=>?_,h4,h5],∅,∅,?_]
   . obtain D|D:=cr.mp D
     . show N x D
     . grind
   . show fZ (i++[k.close rs])+z.cnt+ir j<=fZ rs+k.cnt+(fZ i+z.cnt+ir j)+1;rw[Ei];have:fZ [k.close rs]=(k.close rs).cnt:=by simp[fZ]
     lia
  cases k with
  |root=>cases h2
  |W e=>show low
  |I2 e b=>show low
  |I1 e=>
   show#[#[λx D=>(by cases D),#[h2.1,h2.2,h1],N,h4,h5],F,(by intro q;cases q),?_];show fZ []+(fZ rs+1)+ir ((i,z)::j)<=fZ rs+1+ir ((i,z)::j)+1;have:fZ []=0:=O;lia
def uw:List U_->List Int->List Dr->List U_
 |us,c::cs,d::ds=>uw (qC us c d) cs ds
 |us,_,_=>us
def Yq(z:d.ok)(h:vz us)(i:-us<=5)(j:us≠[]):vz (qC us c d)/\-(qC us c d)<=5/\qC us c d≠[]/\ir (qC us c d)<=ir us+1:=by
 unfold qC;split
 . rename_i q;let h2:=(fF _ _▸q).2;show YR h i ()
 . show YO z h i j
theorem N5:∀(cs:List Int)(ds:List Dr)(i:List U_),(∀d∈ds,d.ok)->vz i->-i<=5->i≠[]->vz (uw i cs ds)/\-(uw i cs ds)<=5/\uw i cs ds≠[]/\ir (uw i cs ds)<=ir i+-cs
 |[],ds=>λi _ h q j=>#[h,q,j,br _]
 |c::cs,[]=>λi _ h q j=>#[h,q,j,nh _ _]
 |c::cs,d::ds=>λi z h q j=>by let(g1,F,g3,g4):=Yq (z d be) h q j;let(Q,D,W,k4):=N5 cs ds (qC i c d) (λx N=>z x (cw _ N)) g1 F g3;show#[Q,D,W,?_];simp only[bi];show ir (uw (qC i c d) cs ds)<=_;lia
def Cj(u v:U_):U_:=(v.1++[u.2.close u.1],v.2)
def Bc:List U_->List ag
 |[]=>[]
 |u::us=>(us.foldl Cj u).1
theorem Jx:∀(i:List U_)(u:U_),vz (u::i)->-(u::i)<=5->(∀r∈Bc (u::i),NZ 0 r)/\fZ (Bc (u::i))<=ir (u::i)
 |[]=>λu h _=>#[h.1,by show fZ u.1<=fZ u.1+u.2.cnt+0;lia]
 |v::i=>λu h D=>by
  let(h1,h2,z,N,F):=h;simp only[bi]at D h1 h2;let(c1,Q):=Jw () h2 h1;let q:=Jx i (Cj u v) #[λx j=>by
   obtain j|j:=cr.mp j
   . grind
   . rw[eR.mp j];show c1,N,F] ∅
  show#[q.1,d4 q.2 ?_];show fZ (v.1++[u.2.close u.1])+v.2.cnt+ir i<=fZ u.1+u.2.cnt+(fZ v.1+v.2.cnt+ir i);rw[Ei];have:fZ [u.2.close u.1]=(u.2.close u.1).cnt:=by simp[fZ]
  lia
theorem Jy:∀(fs:List Fr)(f:Fr),Holds mu (FS (f::fs) [])->(∀x∈f::fs,x.fit)->f_ b (f::fs)->∃F:Fr,Holds mu (FS [F] [])/\F.fit/\F.n=b/\iM F.ds=Bc ((f::fs).map Fr.u)
 |[]=>λf h i hs=>#[f,h,i f be,hs.2,O]
 |g::fs=>λf h i hs=>by
  let z:=hs.1;let H:=Px z h;let(F,W,D,k3,Q):=Jy fs #[g.n,g.s,g.ds++[f.cls],g.kd] H (λx q=>by
   obtain rfl|q:=a_.mp q
   . let(g1,N):=i g (by simp);show#[λd j=>?_,N];obtain j|j:=cr.mp j
     . grind
     . rw[eR.mp j];show Ra (i f be) z
   . show i x ∅) (Bb hs.2)
  show#[F,W,D,k3,Q.trans ?_];show ((fs.map Fr.u).foldl Cj (Fr.u #[g.n,g.s,g.ds++[f.cls],g.kd])).1=((fs.map Fr.u).foldl Cj (Cj f.u g.u)).1;have e:Fr.u #[g.n,g.s,g.ds++[f.cls],g.kd]=Cj f.u g.u:=by show (iM (g.ds++[f.cls]),g.kd.u)=(iM g.ds++[f.kd.u.close (iM f.ds)],g.kd.u);rw[iM,cy,List.map_singleton,Zn]
  rw[e]
section
variable {X:PV}{own ls:List Str}{hs:Hd}{ws:List Str}
def YU(hd:d.ok)(er:∀mu,iB [ZI c,R (SS own),R (SS ls),R (gY hs),R (SS ws)] mu=!(Zp (d.pv (-mu)),mu++d.cl))(h:St mu b S t fs)(ht:t<=1000):
 ∃i eL D,ES (ZE X own ls hs ws b S (zI c) o8 mu)=!(.nx (ZE X own ls hs ws b S (zI c) D i))/\St i b S (t+1) eL/\eL.map Fr.u=qC (fs.map Fr.u) c d:=by
 let j:=YA (X:=X) (own:=own) (ls:=ls) (hs:=hs) (ws:=ws) (b:=b) (o8:=o8) (c:=c) h.h.head;have q:qC (fs.map Fr.u) c d=if ((c%8==0)&&decide ((-fs:Int)>1))=G then yP (fs.map Fr.u) else vy d (fs.map Fr.u):=by unfold qC;rw[bo]
 cases Q:((c%8==0)&&decide ((-fs:Int)>1)) with
 |true=>
  rw[Q]at j q;let h2:=(fF _ _▸Q).2;let z:=of_decide_eq_true h2
  match fs,h,z,j,q with
  |f::g::fs,h,z,j,q=>
   let(i,eL,F,N,W):=Yn h;show#[i,eL,o8,(lR j).trans F,N,W.trans ∅]
  |[f],h,z,j,q=>grind
  |[],h,z,j,q=>grind
 |false=>
  rw[Q]at j q
  match fs,h,j,q with
  |f::fs,h,j,q=>
   let(i,eL,D,F,N,W):=Yp hd er h ht;show#[i,eL,D,(lU j).trans F,N,W.trans ∅]
  |[],h,j,q=>show h.sh.elim
theorem Rf(ho:Sh own)(i:Sh ls)(hh:∀h∈hs,-h.1<=1000/\-h.2<=26/\FN.fn h.1):∀(cs:List Int),∃ds:List Dr,(∀d∈ds,d.ok)/\∀(X:PV)(b S t:Nat)(o7 o8:Option Lc)(mu:Mu)(fs:List Fr),St mu b S t fs->t+-cs<=1000->
 ∃j eL N z,eN (aC 7) ES (cs.map PV.int) (ZE X own ls hs ws b S o7 o8 mu)=!(.nx (ZE X own ls hs ws b S N z j))/\St j b S (t+-cs) eL/\eL.map Fr.u=uw (fs.map Fr.u) cs ds
 |[]=>#[[],λd q=>(by cases q),λX b S t o7 o8 mu fs h _=>#[mu,fs,o7,o8,O,h,O]]
 |c::cs=>by
  let(d,q,er):=XT c ho i hs ws hh;let(ds,D,ih):=Rf ho i hh cs;show#[d::ds,λx W=>?_,λX b S t o7 o8 mu fs h hl=>?_]
  . obtain rfl|W:=a_.mp W
    . show q
    . grind
  . simp only[bi]at hl;let(gz,F,q8,e1,e2,e3):=YU q er h ();let(Q,Zt,N,z,k1,k2,k3):=ih X b S (t+1) (zI c) q8 gz F e2 ();show#[Q,Zt,N,z,gw O e1 k1,?_,k3.trans (by rw[e3];rfl)];rw[show t+-(c::cs)=t+1+-cs by simp only[bi];omega];show k2
def Rg(ho:Sh own)(gT:Sh ls)(hh:∀h∈hs,-h.1<=1000/\-h.2<=26/\FN.fn h.1)(cs:List Int)(hc:-cs<=900):∃rs:Rows,rs.ok/\rs.dep<=11/\rs.bl<=47/\rs.cnt<=-cs/\∀mu,∃j,sJ [R (cs.map PV.int),R (SS own),R (SS ls),R (gY hs),R (SS ws)] mu=!(Zp (R rs.pvs),j):=by
 let(ds,w4,lp):=Rf ho gT hh cs;let(g1,g2,g3,g4):=N5 cs ds [([],.root)] w4 #[λx N=>(by cases N),O,True.intro] () ();obtain⟨u,D,eu⟩:∃u D,uw [([],.root)] cs ds=u::D:=by
  cases h:uw [([],.root)] cs ds with
  |nil=>show absurd h g3
  |cons u D=>show#[u,D,O]
 rw[eu]at g1 g2 g4;let(k1,k2):=Jx D u g1 g2;let(r1,r2,r3):=Ek () k1;show#[ar (Bc (u::D)),r1,r2,?_,?_,λmu=>?_]
 . have:3*2 ^ (4-0)=48:=by decide
   lia
 . rw[nD];have:ir [(([],.root):U_)]=0:=O;lia
 . let b:_:=-mu;let q:Mu:=mu++[!(R [])];let i:Mu:=q++[!(R [ZA b])];let z:Mu:=i++[!(R [ZA (-q)])];let f0:Fr:=#[b,-q,[],.root];let X:PV:=R (cs.map PV.int);have H:Holds z ((-i,R [ZA (-q)])::(-q,R [ZA b])::(b,R [])::[]):=((Holds.push (L:=[]) #[nv,λx N=>(by cases N)] _).push _).push _;have st:St z b (-i) 0 [f0]:=#[H.perm ((Perm.swap _ _ _).cons _),λx N=>(by
    rw[eR.mp N];show#[λd W=>(by cases W),True.intro]),#[O,O],(),λx N=>(by
    rw[eR.mp N];show br _)]
   let(j,eL,p7,p8,e1,Q,e3):=lp X b (-i) 0 J J z [f0] st ();obtain⟨f,fs,ef⟩:∃f fs,eL=f::fs:=by
    cases eL with
    |nil=>show Q.sh.elim
    |cons f fs=>show#[f,fs,O]
   subst ef;let(F,c1,c2,c3,c4):=Jy fs f Q.h.tail Q.fit Q.sh;let e4:=e3.trans eu;rw[e4]at c4;rw[mR]at c1;have ZY:fQ j 40 (ZA b)=R (ar (Bc (u::D))).pvs:=by
    rw[<-c4,<-c3];show Ci c2.1 c1.head (c1.tail.tail.sub ?_) λd W=>?_
    . show(kF _ _).trans (gL _ _)
    . have:=(k1 d.r (by rw[<-c4];show ck.mpr #[d,W,O])).2.1;lia
   show#[j.map λ_=>J,?_];let A:Mu->Option Lc->Option Lc->Option Lc->Option Lc->Ev:=λm o5 o6 o7 o8=>#[[zS X,zL (SS own),zL (SS ls),zL (gY hs),zL (SS ws),o5,o6,o7,o8],m];show aO (Y:=A (j.map λ_=>J) (zS (ZA b)) (zS (ZA (-i))) p7 p8) ?_;show aH O (aH O (aH (eO (dC O O) e1) (cT (X8 (Y1:=ZE X own ls hs ws b (-i) p7 p8 j) O ZY))))
end
theorem Bd:∀ps:List PV,(∀p∈ps,f p p=!G)->uQ f ps ps=!G
 |[]=>λ_=>rfl
 |p::ps=>λh=>by show (f p p).bind _=_;rw[h p be,bq,Bd ps λq i=>h q (cw _ i)];rfl
def mU(h:∀p∈ps,dH n p p=!G):dH (n+1) (ZB ps) (ZB ps)=!G:=by show (uQ (dH n) ps ps).map _=_;rw[Bd ps h];rw[ij];rfl
def jr(h:∀p∈ps,dH n p p=!G):dH (n+1) (R ps) (R ps)=!G:=by show (if -ps=-ps then uQ (dH n) ps ps else !M)=_;rw[aw O,Bd ps h]
mutual
theorem Rh:∀(p:PV)(n:Nat),di p=G->vo p<=n->dH n p p=!G
 |.non,n,_,h=>by obtain⟨m,rfl⟩:∃m,n=m+1:=#[n-1,by simp only[vo]at h;lia];rfl
 |.bl x,n,_,h=>by obtain⟨m,rfl⟩:∃m,n=m+1:=#[n-1,by simp only[vo]at h;lia];show some (x==x)=_;rw[ij]
 |ZI x,n,_,h=>by obtain⟨m,rfl⟩:∃m,n=m+1:=#[n-1,by simp only[vo]at h;lia];show some (x==x)=_;rw[ij]
 |ZH x,n,_,h=>by obtain⟨m,rfl⟩:∃m,n=m+1:=#[n-1,by simp only[vo]at h;lia];show some (x==x)=_;rw[ij]
 |ZB ps,n,f,h=>by simp only[vo]at h;obtain⟨m,rfl⟩:∃m,n=m+1:=#[n-1,()];show mU (rQ ps m () ())
 |R _,n,f,_=>by simp[di]at f
 |.dk _ _,n,f,_=>by simp[di]at f
 |.dt _ _,n,f,_=>by simp[di]at f
 |.obj _ _ _,n,f,_=>by simp[di]at f
 |.df _ _,n,f,_=>by simp[di]at f
 |.dtf _ _,n,f,_=>by simp[di]at f
 |.dx _ _ _,n,f,_=>by simp[di]at f
 |ZA _,n,f,_=>by simp[di]at f
theorem rQ:∀(ps:List PV)(n:Nat),ik ps=G->wu ps<=n->∀p∈ps,dH n p p=!G
 |[]=>λn _ _ p i=>by cases i
 |q::ps=>λn f h p i=>by
  simp only[ik,fF]at f;simp only[wu]at h;obtain e|i:=a_.mp i
  . rw[e];show Rh q n f.1 ()
  . show rQ ps n f.2 () p i
end
def ig{f:PV->Prop}(h:f p)(t:∀q∈ps,f q):∀q∈p::ps,f q:=λq i=>by
 obtain rfl|i:=a_.mp i
 . show h
 . grind
def Ck{f:PV->Prop}:∀q∈([]:List PV),f q:=λq i=>by cases i
def jl(h:fl p)(i:20<=n):dH n p p=!G:=Rh p n h.1 (d4 h.2 i)
mutual
theorem Yr:∀(r:ag)(n:Nat),r.ok->2*r.dep+22<=n->dH n r.pv r.pv=!G
 |.leaf w ps=>λn ok h=>by simp only[ag.dep]at h;obtain⟨m,rfl⟩:∃m,n=m+1:=#[n-1,()];show mU (ig (jl iZ ()) (rQ ps m ok.2.fls.1 (by have:=ok.2.fls.2;lia)))
 |.call b x i=>λn ok h=>by simp only[ag.dep]at h;obtain⟨m,rfl⟩:∃m,n=m+2:=#[n-2,()];show mU (ig () (ig (by let(x,e,_):=ok.1;rw[e];show jl iZ ()) (ig (jl iZ ()) (ig (jr (rQ i m (Gm ok.2.2.1).1 (by have:=(Gm ok.2.2.1).2;lia))) Ck))))
 |.wh e b=>λn ok h=>by simp only[ag.dep]at h;obtain⟨m,rfl⟩:∃m,n=m+2:=#[n-2,()];show mU (ig () (ig (jl ok.1.fl ()) (ig (jr (pG b m ok.2 ())) Ck)))
 |.iff e b c=>λn ok h=>by simp only[ag.dep]at h;obtain⟨m,rfl⟩:∃m,n=m+2:=#[n-2,()];show mU (ig () (ig (jl ok.1.fl ()) (ig (jr (pG b m ok.2.1 ())) (ig (jr (pG c m ok.2.2 ())) Ck))))
theorem pG:∀(rs:Rows)(n:Nat),rs.ok->2*rs.dep+20<=n->∀p∈rs.pvs,dH n p p=!true
 |.nil=>λn _ _ p hp=>by cases hp
 |.cons r rs=>λn ok h p hp=>by
  simp only[Rows.dep]at h;obtain e|hp:=a_.mp hp
  . rw[e];show Yr r n ok.1 ()
  . show pG rs n ok.2 () p hp
end
structure Pg.fine(P:Pg):Prop where
 ok:P.ok
 bx:fls P.boxes
 gr:fls P.grants
 rk:∀f∈P.fns,fl f.rank
 dd:P.rows.dep<=11
 fd:∀f∈P.fns,f.rows.dep<=11
def Z_{P:Pg}(h:P.fine):cK P.pv P.pv=zS (.bl G):=by
 have e:dH 150 P.pv P.pv=!G:=by show mU (ig (jr (rQ _ 148 h.bx.1 (by have:=h.bx.2;lia))) (ig (jr (rQ _ 148 h.gr.1 (by have:=h.gr.2;lia))) (ig (jr λp z=>?_) (ig (jr (pG P.rows 148 h.ok.rw (by have:=h.ok.dp;lia))) Ck))));let(f,i,rfl):=ck.mp z;let(xs,ex,_):=h.ok.pm f i;let(D,F):=h.ok.fn f i;show mU (ig (jl iZ ()) (ig (jl (h.rk f i) ()) (ig (jr λq j=>?_) (ig (jr (pG f.rows 146 D ())) Ck))));rw[ex]at j;let(x,_,rfl):=ck.mp j;show mU (ig (jl iZ ()) ())
 show (dH 150 P.pv P.pv).map _=_;rw[e];rfl
def V2(f:α->β)(xs:List α)(lo hi st:Option Int):pk (xs.map f) lo hi st=(pk xs lo hi st).map f:=by unfold pk;rw[bo,List.map_filterMap];grind
def V3(xs:List α)(N:0<=a)(j:0<n):(-(pk xs (!a) J (!n)):Int)*n<=-xs+n-1:=by
 have l:-(pk xs (!a) J (!n))<=-(sliceRange (sliceBounds (!a) J (!n) xs.length).1 (sliceBounds (!a) J (!n) xs.length).2.1 (sliceBounds (!a) J (!n) xs.length).2.2):=length_filterMap_le _ _;generalize (-(pk xs (!a) J (!n)))=z at l ⊢;have q:(sliceBounds (!a) J (!n) (-xs)).2.1=(-xs:Int):=by show (if n>0 then (-xs:Int) else -1)=_;rw[aw j]
 have D:(sliceBounds (!a) J (!n) (-xs)).2.2=n:=O;have F:0<=(sliceBounds (!a) J (!n) (-xs)).1:=by show 0<=(let i:=if a<0 then a+-xs else a;if n>0 then max 0 (min i (-xs)) else max (-1) (min i ((-xs:Int)-1)));rw[aw j];lia
 unfold sliceRange at l;rw[bo,fy,q,D,aw j]at l;generalize (sliceBounds (!a) J (!n) (-xs)).1=s at F l
 split at l
 . let h1:=Int.ediv_mul_le ((-xs:Int)-s+n-1) (b:=n) ();have h2:0<=((-xs:Int)-s+n-1)/n:=Int.ediv_nonneg () ();have Q:(z:Int)*n<=((-xs:Int)-s+n-1)/n*n:=Int.mul_le_mul_of_nonneg_right () ();lia
 . have:(z:Int)=0:=()
   rw[this,Int.zero_mul];lia
def oV{α:Type}(xs:List α)(lo hi:Option Int):List α:=(xs.drop (HT.sIx (-xs) 0 lo)).take (HT.sIx (-xs) (-xs) hi-HT.sIx (-xs) 0 lo)
def Cm(f:α->PV)(xs:List α)(lo hi:Option Int):rm (xs.map f) lo hi=(oV xs lo hi).map f:=by unfold rm oV;grind
def N6(xs:List α)(lo hi:Option Int):-(oV xs lo hi)<=-xs:=by unfold oV;rw[g9,kL];lia
def Em{lo hi:Option Int}(h:x∈oV xs lo hi):x∈xs:=mem_of_mem_drop (mem_of_mem_take h)
abbrev HE(c:Int)(nm:List Str)(acc:List PV)(o3 o4:Option Lc)(mu:Mu):Ev:=#[[zI c,zL (SS nm),zO acc,o3,o4],mu]
def vw(j:Int)(i:0<=j)(h:j<4):∃q:Int,0<q/\q<10000/\qG (R [ZI 75,ZI 375,ZI 1875,ZI 9375]) (ZI j)=zI q:=by
 obtain rfl|rfl|rfl|rfl:=(by omega:j=0\/j=1\/j=2\/j=3)
 . show#[75,by decide,by decide,O]
 . show#[375,by decide,by decide,O]
 . show#[1875,by decide,by decide,O]
 . show#[9375,by decide,by decide,O]
def nl:∀n,PV.lst ps≠ZA n:=λn h=>by cases h
def Cp{lo hi:OF}(h1:f Y=!(l,Y1))(hl:l.pv=R ps)(h2:lo Y1=!(a,Y2))(h3:hi Y2=!(b,Y3)):mF f lo hi Y=!(Zs (R (rm ps a b)),Y3):=by unfold mF;rw[h1,bq,h2,bq,h3,bq,hl]
def oW(h:f Y=!(l,Y1))(hl:l.pv=ZI i):cM f Y=!(!i,Y1):=by unfold cM;rw[h,bq,hl]
def aba(z:0<=i)(h1:i< -ns):∃c,ns[i.toNat]?=!c/\qG (R (SS ns)) (ZI i)=zT c:=by let(x,e,j):=uT z (by rw[tB];show h1);rw[c5]at j;let(c,q,rfl):=Option.map_eq_some_iff.mp j;show#[c,q,by show (fO (SS ns) i).map _=_;rw[e];rfl]
def afh(xs:List α)(j:Nat)(D:0<=z)(q:z<5):-(oV xs (!(10+4*(j:Int))) (!(10+4*(j:Int)+z)))<=4:=by unfold oV;rw[g9,kL];have e1:HT.sIx (-xs) 0 (!(10+4*(j:Int)))=min (10+4*j) (-xs):=HT.sIx_nat (-xs) 0 (10+4*j);obtain⟨y,rfl⟩:∃y:Nat,z=y:=#[z.toNat,()];have e2:HT.sIx (-xs) (-xs) (!(10+4*(j:Int)+(y:Int)))=min (10+4*j+y) (-xs):=HT.sIx_nat (-xs) (-xs) (10+4*j+y);rw[e1,e2];lia
def Ys(h0:0<=j)(h1:j<4)(hl:-nm=26):∃h:Str×List Str,nm[(6+j).toNat]?=!h.1/\(-h.2<=4/\∀x∈h.2,x∈nm)/\∃z:Int,∀(acc:List PV)(o4:Option Lc)(mu:Mu),-acc<=100->ua (HE c nm acc (zI j) o4 mu)=!(.nx (HE c nm (acc++[ZB [ZH h.1,R (SS h.2)]]) (zI j) (zI z) mu)):=by
 let(q,F,hq1,N):=vw j h0 h1;let(x,hx,ex):=aba (ns:=nm) (i:=6+j) () ();let z:Int:=c/q%5;let xs:_:=oV nm (!(10+4*j)) (!(10+4*j+z));show#[(x,xs),hx,#[by
  obtain⟨y,rfl⟩:∃y:Nat,j=y:=#[j.toNat,()];show afh nm y () (),λy W=>Em W],z,λacc o4 mu ha=>?_]
 let D:_:=HE c nm acc (zI j) (zI z) mu;show aH (bu (bC (bC O (dG O O O O nl N) (gU F ())) O ()) O O) ?_;show pR O (dm (ls:=[Zp (ZH x),Zs (R (SS xs))]) (aA (dG O O O O nl ex) (aA (Y1:=D) ?_ O)) O O) O O () O;have e2:au bf t_ (aa 4) D=!(Zp (ZI (10+4*j+z)),D):=bC (bC O () O) O O;show(Cp O O () (oW e2 O)).trans ?_;rw[Cm]
theorem N7(hl:-nm=26):∀(i:List Int),(∀j∈i,0<=j/\j<4)->∃hs:Hd,hs.map (λh=>!h.1)=i.map (λj=>nm[(6+j).toNat]?)/\(∀h∈hs,h.1∈nm/\-h.2<=4/\∀x∈h.2,x∈nm)/\∀(acc:List PV)(o3 o4:Option Lc)(mu:Mu),-acc+-i<=100->∃F Q,eN (aC 3) ua (i.map PV.int) (HE c nm acc o3 o4 mu)=!(.nx (HE c nm (acc++gY hs) F Q mu))
 |[]=>λ_=>#[[],O,λh N=>(by cases N),λacc o3 o4 mu _=>#[o3,o4,by simp[eN]]]
 |j::i=>λh=>by
  let(h0,h1):=h j be;let(d,D,qk,z,e1):=Ys h0 h1 hl;let(hs,W,N,ih):=N7 hl i λx q=>h x (cw _ q);show#[d::hs,by rw[dP,dP,W,D],λx q=>?_,λacc o3 o4 mu ha=>?_]
  . obtain rfl|q:=a_.mp q
    . show#[eI D,qk]
    . show N x q
  . let(F,Q,e2):=ih (acc++[ZB [ZH d.1,R (SS d.2)]]) (zI j) (zI z) mu ∅;show#[F,Q,gw O (e1 acc o4 mu ()) (e2.trans ?_)];simp[gY]
def Yt(c:Int)(W:-nm=26)(Q:∀i j:Nat,6<=i->i<j->j<10->nm[i]?≠nm[j]?):∃hs:Hd,-hs<=4/\(hs.map (·.1)).Nodup/\(∀h∈hs,h.1∈nm/\-h.2<=4/\∀x∈h.2,x∈nm)/\∀mu,vd [ZI c,R (SS nm)] mu=!(Zs (R (gY hs)),mu):=by
 let(hs,l1,F,lp):=N7 W ((List.range (c/15%5).toNat).map λi:Nat=>(0+(i:Int))) λj hj=>by let(i,hi,rfl):=ck.mp hj;have:=mem_range.mp hi;lia
 let l2:=congrArg length l1;simp only[bo,fy]at l2;have D:(hs.map (·.1)).Nodup:=by
  have n1:(hs.map λh=>!h.1).Nodup:=by rw[l1,fE];show pairwise_map.mpr (Pairwise.imp_of_mem (λ{a b} _ hb l q=>?_) pairwise_lt_range);have:=mem_range.mp hb;show Q (6+(0+(a:Int))).toNat (6+(0+(b:Int))).toNat () () () q
  show pairwise_map.mpr ((pairwise_map.mp n1).imp λq e=>q (congrArg some e))
 show#[hs,(),D,F,λmu=>?_];let(z,N,e):=lp [] J J mu ∅;rw[<-Eh,eK]at e;show aO (Y:=#[[zI c,zL (SS nm),J,z,N],mu]) ?_;show aH O (aH (eO ?_ e) O);show mY () O () ()
abbrev rk:List PV:=[.non,ZH "low",ZH "high"]
def aem(a:Int):∃r,fl r/\qG (R rk) (ZI (a%3))=zS r:=by
 let i:=g7 a (b:=3) ();let h1:=hZ a (b:=3) ();generalize a%3=r at i h1;obtain rfl|rfl|rfl:=(by omega:r=0\/r=1\/r=2)
 . show#[.non,Nk,O]
 . show#[ZH "low",iZ,O]
 . show#[ZH "high",iZ,O]
def V4(h:fl r)(j:vo r<=1):fl (ZB [ZH x,ZI i,r]):=by
 show#[?_,?_]
 . simp[di,ik,h.1]
 . simp only[vo,wu];lia
def V5(a:Int):∃r,(fl r/\vo r<=1)/\qG (R rk) (ZI (a%3))=zS r:=by
 let i:=g7 a (b:=3) ();let h1:=hZ a (b:=3) ();generalize a%3=r at i h1;obtain rfl|rfl|rfl:=(by omega:r=0\/r=1\/r=2)
 . show#[.non,#[Nk,br _],O]
 . show#[ZH "low",#[iZ,br _],O]
 . show#[ZH "high",#[iZ,br _],O]
abbrev b1E:EF:=aX vb
theorem Ri(c:Int):∀(xs:List Str)(i:Nat),∃bs:List PV,fls bs/\-bs=-xs/\∀(j o1:Option Lc)(mu:Mu)(acc:List PV),-acc+-xs<=1000->
 dF kl bB b1E (Ax i (SS xs)) #[[j,o1,zL rk,zI c],mu] acc=!(acc++bs,mu)
 |[]=>λi=>#[[],uD,O,λj o1 mu acc _=>by simp[Ax,dF]]
 |x::xs=>λi=>by let(r,(D,N),z):=V5 (c/3072+(i:Nat));let(bs,fb,Q,F):=Ri c xs (i+1);show#[ZB [ZH x,ZI 0,r]::bs,iR (V4 D N) fb,by simp[Q],λj o1 mu acc q=>?_];show fY O (dm (aA O (aA O (aA (dG O O (bC (bC (bC O O (gU () ())) O O) O (dI ())) O nl z) O))) O O) () ((F _ _ mu (acc++[ZB [ZH x,ZI 0,r]]) ∅).trans ?_);simp
abbrev b2E:EF:=aX D0
theorem Rj(c:Int):∀(xs:List Str),∃bs:List PV,fls bs/\-bs=-xs/\∀(i:Option Lc)(mu:Mu)(acc:List PV),-acc+-xs<=1000->
 dF (aC 0) bB b2E (SS xs) #[[i,zI c,zL rk],mu] acc=!(acc++bs,mu)
 |[]=>#[[],uD,O,λi mu acc _=>by simp[dF]]
 |x::xs=>by let(r,(N,z),D):=V5 (c/9216);let(bs,fb,F,q):=Rj c xs;show#[ZB [ZH x,ZI (1+c/48%8),r]::bs,iR (V4 N z) fb,by simp[F],λi mu acc j=>?_];let E:Ev:=#[[zT x,zI c,zL rk],mu];show fY O (dm (aA O (aA (bC O (bC (bC O O ()) O ()) O) (aA (Y1:=E) (dG O O (bC (bC O O (gU () ())) O (dI ())) O nl D) O))) O O) () ((q _ mu (acc++[ZB [ZH x,ZI (1+c/48%8),r]]) ∅).trans ?_);simp
theorem Rk:∀(xs:List Int)(o:Option Lc)(mu:Mu)(acc:List PV),-acc+-xs<=1000->dF (aC 0) bB DV (xs.map PV.int) #[[o],mu] acc=!(acc++(xs.map λx=>x%1000000007).map PV.int,mu)
 |[]=>λo mu acc _=>by simp[dF]
 |x::xs=>λo mu acc i=>by show fY O () () ((Rk xs _ mu (acc++[ZI (x%1000000007)]) ∅).trans ?_);simp
theorem Rm:∀(xs:List Str)(o:Option Lc)(acc:List PV),-acc+-xs<=1000->dF (aC 0) bB DS (SS xs) #[[o],mu] acc=!(acc++xs.map (λx=>ZB [ZH x,.non]),mu)
 |[]=>λo acc _=>by simp[dF]
 |x::xs=>λo acc i=>by simp only[bi]at i;show fY (Y2:=#[[zT x],mu]) O O () ((Rm xs _ (acc++[ZB [ZH x,.non]]) ∅).trans ?_);simp
abbrev QE(S:PV)(c:Int)(nm nb ls:List Str)(hs:Hd)(bx:List PV)(l8 l9:Lc)(fns:List PV)(iF kt ku:Option Lc)(mu:Mu):Ev:=#[[zS S,zI c,zL (SS nm),zL rk,zL (SS nb),zL (SS ls),zL (gY hs),zO bx,!l8,!l9,zO fns,iF,kt,ku],mu]
abbrev v4:List Str:=["somebody"]
section
variable {S:PV}{c:Int}{nm nb ls:List Str}{hs:Hd}{bx:List PV}{cs:List Int}
def V6{lo hi st:OF}(h1:f Y=!(l,Y1))(z:l.pv=R ps)(h2:lo Y1=!(a,Y2))(j:hi Y2=!(b,Y3))(i:st Y3=!(!n,Y4))(D:0<n):DN f lo hi st Y=!(Zs (R (pk ps a b (!n))),Y4):=by unfold DN;rw[h1,bq,h2,bq,j,bq,i,bq,z];show (if some n≠!0 then _ else _)=_;rw[aw ()]
structure Zu(m:Nat)(f:Fn):Prop where
 ok:f.rows.ok
 dp:f.rows.dep<=11
 bl:f.rows.bl<=47
 ct:f.rows.cnt*m<=44
 pm:∃xs:List Str,f.params=xs.map (λx=>.tup [.str x,.non])/\-xs<=4/\Sh xs
 rk:fl f.rank
def v8(h:l8.pv=p):aa 8 (QE S c nm nb ls hs bx l8 l9 fns iF kt ku mu)=!(Zp p,QE S c nm nb ls hs bx (Zp p) l9 fns iF kt ku mu):=by subst h;cases l8<;>rfl
def v9(h:l9.pv=p):aa 9 (QE S c nm nb ls hs bx l8 l9 fns iF kt ku mu)=!(Zp p,QE S c nm nb ls hs bx l8 (Zp p) fns iF kt ku mu):=by subst h;cases l9<;>rfl
def EU:au bf (eB cz (aj (aa 6) ao)) (af 1) (QE S c nm nb ls hs bx l8 l9 fns iF kt ku mu)=!(Zp (ZI (-(gY hs)+1)),QE S c nm nb ls hs bx l8 l9 fns iF kt ku mu):=rfl
def abb(ky:Sh nb)(gT:Sh ls)(hh:∀h∈hs,-h.1<=100/\-h.2<=4/\Sh h.2/\FN.fn h.1)(hm:h∈hs)(l4:-hs<=4)(og:-nb<=26)(hc:-cs<=40):∃f:Fn,Zu (-hs+1) f/\f.name=h.1/\∀(l8 l9:Lc)(z:List PV)(F:Option Lc)(mu:Mu),l8.pv=R (cs.map PV.int)->l9.pv=R (SS v4)->-z<=100->
 ∃D k_,ub (QE S c nm nb ls hs bx l8 l9 z (zI (j:Nat)) (zS (ZB [ZH h.1,R (SS h.2)])) F mu)=!(.nx (QE S c nm nb ls hs bx (Zp (R (cs.map PV.int))) (Zp (R (SS v4))) (z++[f.pv]) (zI (j:Nat)) (zS (ZB [ZH h.1,R (SS h.2)])) k_ D)):=by
 let n:Int:=-(gY hs)+1;let Q:_:=pk cs (!(j:Int)) J (!n);have hn:0<n:=by show (0:Int)< -(gY hs)+1;lia
 let j_:=V3 cs (a:=(j:Int)) () hn;let own:_:=nb++[h.1]++h.2;let(h1,h26,h3,_):=hh h hm;have ln:n=-hs+1:=by show (-(gY hs):Int)+1=_;rw[bo]
 have l2:-Q*(-hs+1)<=44:=by
  have e:((-Q*(-hs+1):Nat):Int)=(-Q:Int)*n:=by rw[ln,Int.natCast_mul];rfl
  grind
 have l3:-Q<=-Q*(-hs+1):=Nat.le_mul_of_pos_right _ ();let(rs,r1,r2,r3,r4,er):=Rg (own:=own) (Gu (Gu ky (xO h1 Ay)) h3) gT (λh hm=>#[by have:=(hh h hm).1;lia,by have:=(hh h hm).2.1;lia,(hh h hm).2.2.2]) Q ();let(r,fr,err):=aem (c+(j:Nat));let f:Fn:=#[h.1,r,h.2.map (λx=>ZB [ZH x,.non]),rs];show#[f,#[r1,r2,r3,d4 (Nat.mul_le_mul_right _ r4) l2,#[h.2,O,h26,h3],fr],O,λl8 l9 z F mu h8 h9 hf=>?_];let(D,er):=er mu;let ZU:Option Lc:=zI (j:Nat);let T:PV:=ZB [ZH h.1,R (SS h.2)];let C8:Lc:=Zp (R (cs.map PV.int));let C9:Lc:=Zp (R (SS v4));let N:_:=QE S c nm nb ls hs bx C8 l9 z ZU (zS T) F mu;let Eb:_:=QE S c nm nb ls hs bx C8 C9 z ZU (zS T) F mu;let W:_:=QE S c nm nb ls hs bx C8 C9 z ZU (zS T) (zL rs.pvs) D;have sl:DN (aa 8) (cM (aa 11)) eU oq (QE S c nm nb ls hs bx l8 l9 z ZU (zS T) F mu)=!(Zs (R (Q.map PV.int)),N):=by show(V6 (Y4:=N) (v8 h8) O O O (oW EU O) hn).trans ?_;rw[V2]
 have ow:au bf DU (aJ (aa 12) (af 1)) N=!(Zs (R (SS own)),N):=by
  show bC (x:=Zs (R (SS nb++[ZH h.1]))) (bC (y:=Zs (R [ZH h.1])) O O ?_) O ?_
  . show (if -(SS nb)+1<=100000 then _ else _)=_;rw[aw (by rw[tB];lia)]
  . show (if -(SS nb++[PV.str h.1])+-(SS h.2)<=100000 then _ else _)=_;rw[aw (by rw[bX,tB,tB];simp only[bi,cv];lia)];simp[own]
 show#[D,zL rs.pvs,?_];show aH (bu (aR (aA sl (aA ow (aA O (aA O (aA (v9 h9) O))))) O O O er) O O) ?_;let ec:=Rm (mu:=D) h.2 J [] (by simp only[cv];lia);rw[eK]at ec;show pR O (dm (aA O (aA (dG O O (bC O O (dI ())) O nl err) (aA ((eF (dC O O) ec).trans O) (aA O O)))) O O) O O () O
theorem Rn(ky:Sh nb)(gT:Sh ls)(hh:∀h∈hs,-h.1<=100/\-h.2<=4/\Sh h.2/\FN.fn h.1)(l4:-hs<=4)(og:-nb<=26)(hc:-cs<=40):∀(Q:Hd)(i:Nat),(∀h∈Q,h∈hs)->∃fs:List Fn,fs.map Fn.name=Q.map (·.1)/\(∀f∈fs,Zu (-hs+1) f)/\∀(W l9:Lc)(j:List PV)(D z q:Option Lc)(mu:Mu),W.pv=R (cs.map PV.int)->l9.pv=R (SS v4)->-j+-Q<=100->
 ∃m8 m9 F p11 p12 N,m8.pv=R (cs.map PV.int)/\m9.pv=R (SS v4)/\eN DZ ub (Ax i (gY Q)) (QE S c nm nb ls hs bx W l9 j D z q mu)=!(.nx (QE S c nm nb ls hs bx m8 m9 (j++fs.map Fn.pv) p11 p12 N F))
 |[]=>λi _=>#[[],O,λf hf=>(by cases hf),λW l9 j D z q mu h8 h9 _=>#[W,l9,mu,D,z,q,h8,h9,by simp[Ax,eN]]]
 |h::Q=>λi hg=>by
  let(f,ff,fe,st):=abb ky gT hh (hg h be) l4 og hc;let(fs,lf,ffs,ih):=Rn ky gT hh l4 og hc Q (i+1) λx hx=>hg x (cw _ hx);show#[f::fs,by rw[dP,dP,lf,fe],λx hx=>?_,λW l9 j D z q mu h8 h9 hl=>?_]
  . obtain rfl|hx:=a_.mp hx
    . show ff
    . grind
  . let(gz,N,e1):=st W l9 j q mu h8 h9 ();let(m8,m9,F,q11,q12,q13,k8,k9,e2):=ih (Zp (R (cs.map PV.int))) (Zp (R (SS v4))) (j++[f.pv]) (zI (i:Nat)) (zS (ZB [ZH h.1,R (SS h.2)])) N gz O O ∅;show#[m8,m9,F,q11,q12,q13,k8,k9,gw O e1 (e2.trans ?_)];simp
end
end
section
variable [HK]
theorem Ro:∀{a b:List PV},fls a->fls b->fls (a++b)
 |[],b=>λ_ h=>h
 |p::a,b=>λh g=>by let(h1,h2):=h;simp only[ik,fF]at h1;simp only[wu]at h2;show iR #[h1.1,()] (Ro #[h1.2,()] g)
def aen(xs:List α):-(oV xs (!2) (!42))<=40:=by unfold oV;rw[g9,kL];let j:=HT.sIx_nat (-xs) 0 2;let i:=HT.sIx_nat (-xs) (-xs) 42;lia
theorem Rp:∀fs:List Fn,(∀f∈fs,f.rows.cnt*m<=44)->d8 fs*m<=44*-fs
 |[]=>λ_=>by simp[d8]
 |f::fs=>λh=>by let h1:=h f be;let h2:=Rp fs λg i=>h g (cw _ i);simp only[d8,bi];lia
abbrev pH(S:PV)(a1 a2 a3 a4 a5 a6 a7 a8 a9 jf a11 a12 a13:Option Lc)(mu:Mu):Ev:=#[[zS S,a1,a2,a3,a4,a5,a6,a7,a8,a9,jf,a11,a12,a13],mu]
section
def Tg(ns:List Int)(hl:-ns<=63):∃(F:FN)(P:Pg),P.fine/\(∀n,FN.fn n->∃f∈P.fns,f.name=n)/\∀mu,∃f6,nq [R (ns.map PV.int)] mu=!(Zp P.pv,f6):=by
 have F0:FN:=#[λ_=>True];let(c,_,ec):=cell_eq (ns:=ns) (k:=0) ();let(c1,_,ec1):=cell_eq (ns:=ns) (k:=1) ();let(nm,vx,k7,hnx,en):=Yk (c:=c1) (n:=26) () ();let vx:=vx;let nb:_:=oV nm J (!(c%5));let ls:_:=oV nm (!4) (!(4+c/5%3));have lnb:-nb<=26:=by have:=N6 nm J (!(c%5));show -(oV nm J (!(c%5)))<=26;lia
 have lls:-ls<=26:=by have:=N6 nm (!4) (!(4+c/5%3));show -(oV nm (!4) (!(4+c/5%3)))<=26;lia
 let(hs,lhs,hnd,vE,eh):=Yt c vx hnx;clear F0;let F:FN:=#[λn=>∃h∈hs,h.1=n];have hh:∀h∈hs,-h.1<=100/\-h.2<=4/\Sh h.2/\F.fn h.1:=λh q=>#[k7 h.1 (vE h q).1,(vE h q).2.1,λx hx=>k7 x ((vE h q).2.2 x hx),h,q,O];have ky:Sh nb:=λx hx=>k7 x (Em hx);have EV:Sh ls:=λx hx=>k7 x (Em hx);let(i,f1,l1,e7):=Ri c nb 0;let(vF,f2,l2,e8):=Rj c ls;let xs:_:=oV ns (!2) (!42);let lxs:=aen ns;let cs:_:=xs.map λx=>x%1000000007;have lcs:-cs<=40:=by show -(xs.map _)<=40;rw[bo];show lxs
 let S:PV:=R (ns.map PV.int);let bx:_:=i++vF;let(fs,lf,D,oz):=Rn ky EV hh lhs lnb lcs hs 0 λh q=>q;have lf2:-fs=-hs:=by have:=congrArg length lf;simpa using this
 let n:Int:=-(gY hs);have EM:0<=n:=by show (0:Int)<=-(gY hs);lia
 let c2:_:=pk cs (!n) J (!(n+1));let lc2:=V3 cs (n:=n+1) EM ();have ln:n=-hs:=by show (-(gY hs):Int)=_;rw[bo]
 have l2:-c2*(-hs+1)<=44:=by
  have e:((-c2*(-hs+1):Nat):Int)=(-c2:Int)*(n+1):=by rw[ln,Int.natCast_mul];rfl
  have:(-c2:Int)*(n+1)<=-cs+(n+1)-1:=lc2;lia
 have l3:-c2<=-c2*(-hs+1):=Nat.le_mul_of_pos_right _ ();let(rs,r1,r2,r3,r4,er):=Rg (own:=nb) (ls:=ls) (ws:=v4) ky EV (λh q=>#[by have:=(hh h q).1;lia,by have:=(hh h q).2.1;lia,(hh h q).2.2.2]) c2 ();let gr:List PV:=[ZB [ZH "somebody",ZH "high",ZH "low"]];let P:Pg:=#[bx,gr,fs,rs];let hfc:=Rp fs λf j=>(D f j).ct;have EW:d8 fs+rs.cnt<=44:=by have h1:rs.cnt*(-hs+1)<=44:=d4 (Nat.mul_le_mul_right _ r4) l2;show Nat.le_of_mul_le_mul_right (c:=-hs+1) ?_ ();rw[Nat.add_mul];lia
 show#[F,P,#[#[λf j=>#[(D f j).ok,by have:=(D f j).dp;lia],r1,by show rs.dep<=30;lia,EW,λf j=>(D f j).pm,by show -fs<=4;lia,by show (fs.map Fn.name).Nodup;rw[lf];show hnd,λf j=>by
  have:f.name∈hs.map (·.1):=by rw[<-lf];show mem_map_of_mem j
  let(h,q,e):=ck.mp this;rw[<-e];show(hh h q).1],Ro f1 f2,#[O,by show (2:Nat)<=20;decide],λf j=>(D f j).rk,r2,λf j=>(D f j).dp],λn hn=>?_,λmu=>?_]
 . let(h,q,rfl):=hn;have:h.1∈fs.map Fn.name:=by rw[lf];show ck.mpr #[h,q,O]
   let(f,j,e):=ck.mp this;show#[f,j,e]
 let C:Option Lc:=zI c;let N:Option Lc:=zL (SS nm);let ZN:Option Lc:=zL rk;let B4:Option Lc:=zL (SS nb);let B5:Option Lc:=zL (SS ls);let O4:Option Lc:=zO (SS nb);let O5:Option Lc:=zO (SS ls);let O6:Option Lc:=zO (gY hs);let OR:Option Lc:=zO rk;let L8:Lc:=Zs (R (cs.map PV.int));let L9:Lc:=Zs (R (SS v4));let E0:_:=pH S J J J J J J J J J J J J J mu;let W:_:=pH S C J J J J J J J J J J J J mu;let E2:_:=pH S C (zO (SS nm)) J J J J J J J J J J J mu;let E3:_:=pH S C (zO (SS nm)) OR J J J J J J J J J J mu;let E4:_:=pH S C N OR O4 J J J J J J J J J mu;let E5:_:=pH S C N OR O4 O5 J J J J J J J J mu;let E6:_:=pH S C N OR O4 O5 O6 J J J J J J J mu;let E7:_:=pH S C N ZN B4 O5 O6 (zO i) J J J J J J mu;let E8:_:=pH S C N ZN B4 B5 O6 (zO bx) J J J J J J mu;let E9:_:=pH S C N ZN B4 B5 O6 (zO bx) (!L8) J J J J J mu;let E10:_:=pH S C N ZN B4 B5 O6 (zO bx) (!L8) (!L9) J J J J mu;let E11:_:=pH S C N ZN B4 B5 O6 (zO bx) (!L8) (!L9) (zO []) J J J mu;let(m8,m9,gz,Q,z,k_,k8,k9,oz):=oz L8 L9 [] J J J mu O O (by simp only[cv];lia);rw[eK]at oz;let(hV,er):=er gz;let Q1:_:=QE S c nm nb ls hs bx m8 m9 (fs.map Fn.pv) Q z k_ gz;let C8:Lc:=Zp (R (cs.map PV.int));let C9:Lc:=Zp (R (SS v4));let Qa:_:=QE S c nm nb ls hs bx C8 m9 (fs.map Fn.pv) Q z k_ gz;let Qb:_:=QE S c nm nb ls hs bx C8 C9 (fs.map Fn.pv) Q z k_ gz;let Qc:_:=QE S c nm nb ls hs bx C8 C9 (fs.map Fn.pv) Q z (zL rs.pvs) hV;show#[hV,?_];show aO (r:=Zp P.pv) (Y:=pH S C N ZN B4 B5 (zL (gY hs)) (zL bx) (!C8) (!C9) (zL (fs.map Fn.pv)) Q z (zL rs.pvs) hV) ?_;show aH (Y':=W) (bu (l:=Zp (ZI c)) (Y1:=E0) (aR (ls:=[Zp S,Zp (ZI 0)]) (ps:=[S,ZI 0]) (Y1:=E0) O O O O (ec mu)) O O) ?_;show aH (Y':=E2) (bu (l:=Zs (R (SS nm))) (Y1:=W) (aR (ls:=[Zp (ZI c1),Zp (ZI 26)]) (ps:=[ZI c1,ZI 26]) (Y1:=W) (aA (Y1:=W) (aR (ls:=[Zp S,Zp (ZI 1)]) (ps:=[S,ZI 1]) (Y1:=W) O O O O (ec1 mu)) O) O O O (en mu)) O O) ?_;show aH (Y':=E3) O ?_;show aH (Y':=E4) (bu (l:=Zs (R (SS nb))) (Y1:=pH S C N OR J J J J J J J J J J mu) ((Cp (ps:=SS nm) (l:=Zp (R (SS nm))) (Y1:=pH S C N OR J J J J J J J J J J mu) (a:=J) (b:=!(c%5)) O O O (oW (l:=Zp (ZI (c%5))) (bC (x:=Zp (ZI c)) O O (dI ())) O)).trans (by rw[Cm]<;>rfl)) O O) ?_;show aH (Y':=E5) (bu (l:=Zs (R (SS ls))) (Y1:=E4) ((Cp (ps:=SS nm) (l:=Zp (R (SS nm))) (Y1:=E4) (a:=!4) (b:=!(4+c/5%3)) O O O (oW (l:=Zp (ZI (4+c/5%3))) (bC (x:=Zp (ZI 4)) (y:=Zp (ZI (c/5%3))) O (bC (x:=Zp (ZI (c/5))) (bC (x:=Zp (ZI c)) O O (gU () ())) O (dI ())) O) O)).trans (by rw[Cm]<;>rfl)) O O) ?_;show aH (Y':=E6) (bu (l:=Zs (R (gY hs))) (Y1:=E5) (aR (ls:=[Zp (ZI c),Zp (R (SS nm))]) (ps:=[ZI c,R (SS nm)]) (Y1:=E5) O O O O (eh mu)) O O) ?_;show aH (Y':=E7) (bu (l:=Zs (R i)) (Y1:=pH S C N ZN B4 O5 O6 J J J J J J J mu) ((eF (Y1:=pH S C N OR B4 O5 O6 J J J J J J J mu) (xs:=Ax 0 (SS nb)) (by rw[<-Ed];rfl) (e7 J J mu [] (by simp only[cv];lia))).trans O) O O) ?_;show aH (Y':=E8) (bu (l:=Zs (R bx)) (Y1:=pH S C N ZN B4 B5 O6 (zL i) J J J J J J mu) (bC (x:=Zp (R i)) (y:=Zs (R vF)) (Y1:=pH S C N ZN B4 O5 O6 (zL i) J J J J J J mu) O ((eF (Y1:=pH S C N ZN B4 B5 O6 (zL i) J J J J J J mu) (xs:=SS ls) (dC (l:=Zp (R (SS ls))) O O) (e8 J mu [] (by simp only[cv];lia))).trans O) ?_) O O) ?_
 . show (if -i+-vF<=100000 then _ else _)=_;rw[aw ()]
 let EX:=Rk xs J mu [] (by simp only[cv];lia);rw[eK]at EX;show aH (Y':=E9) (bu (l:=L8) (Y1:=E8) ((eF (Y1:=E8) (xs:=xs.map PV.int) (dC (l:=Zs (R (xs.map PV.int))) ((Cp (ps:=ns.map PV.int) (l:=Zp S) (Y1:=E8) (a:=!2) (b:=!42) O O O O).trans (by rw[Cm]<;>rfl)) O) EX).trans O) O O) ?_;show aH (Y':=E10) O ?_;show aH (Y':=E11) O ?_;show aH (Y':=Q1) (eO (xs:=Ax 0 (gY hs)) (Y1:=QE S c nm nb ls hs bx L8 L9 [] J J J mu) (by rw[<-Ed];rfl) oz) ?_;have sl:DN (aa 8) (cM (eB cz (aj (aa 6) ao))) eU oq Q1=!(Zs (R (c2.map PV.int)),Qa):=by show(V6 (Y1:=Qa) (Y2:=Qa) (Y3:=Qa) (Y4:=Qa) (l:=C8) (ps:=cs.map PV.int) (a:=!n) (b:=J) (n:=n+1) (v8 k8) O (oW (l:=Zp (ZI n)) O O) O (oW EU O) ()).trans ?_;rw[V2]
 show aH (Y':=Qc) (bu (l:=Zp (R rs.pvs)) (Y1:=QE S c nm nb ls hs bx C8 C9 (fs.map Fn.pv) Q z k_ hV) (aR (ls:=[Zs (R (c2.map PV.int)),Zp (R (SS nb)),Zp (R (SS ls)),Zp (R (gY hs)),Zp (R (SS v4))]) (ps:=[R (c2.map PV.int),R (SS nb),R (SS ls),R (gY hs),R (SS v4)]) (Y1:=Qb) (aA sl (aA (Y1:=Qa) O (aA (Y1:=Qa) O (aA (Y1:=Qa) O (aA (v9 k9) O))))) O O O er) O O) ?_;rfl
end
end
section
variable [HK][FN]
mutual
theorem ag.dep_pos:∀r:ag,1<=r.dep
 |.leaf _ _=>br _
 |.call _ _ _=>br _
 |.wh _ b=>by simp only[ag.dep];lia
 |.iff _ b c=>by simp only[ag.dep];lia
end
def Rows.nil_of{rs:Rows}(h:rs.dep<=1):rs=.nil:=by
 cases rs with
 |nil=>rfl
 |cons r rs=>
  have:=r.dep_pos;simp only[Rows.dep]at h;lia
def pI(h:a<=b):2 ^ a<=2 ^ b:=Nat.pow_le_pow_right () h
mutual
theorem ag.bl_le:∀r:ag,r.bl+1<=3*2 ^ ((r.dep-1)/2)
 |.leaf _ _=>by simp only[ag.bl,ag.dep];decide
 |.call _ _ _=>by simp only[ag.bl,ag.dep];decide
 |.wh _ b=>by have:1<=2 ^ (((b.dep+1)-1)/2):=Nat.one_le_two_pow;simp only[ag.bl,ag.dep];lia
 |.iff _ b c=>by
  let D:=Rows.bl_le b;let Q:=Rows.bl_le c;let q:=Rows.dep_pos b;let F:=Rows.dep_pos c;simp only[ag.bl,ag.dep];by_cases h:max b.dep c.dep<=1
  . let j:=Rows.nil_of (rs:=b) ();let i:=Rows.nil_of (rs:=c) ();rw[j,i];decide
  . let N:=pI (a:=(b.dep-2)/2) (b:=(max b.dep c.dep-2)/2) ();let z:=pI (a:=(c.dep-2)/2) (b:=(max b.dep c.dep-2)/2) ();have e:2 ^ ((max b.dep c.dep+1-1)/2)=2*2 ^ ((max b.dep c.dep-2)/2):=by rw[show (max b.dep c.dep+1-1)/2=(max b.dep c.dep-2)/2+1 by lia,Nat.pow_succ,Nat.mul_comm]
    rw[e];lia
theorem Rows.bl_le:∀rs:Rows,rs.bl+1<=3*2 ^ ((rs.dep-2)/2)
 |.nil=>by simp only[Rows.bl,Rows.dep];decide
 |.cons r rs=>by let h1:=ag.bl_le r;let h2:=Rows.bl_le rs;let j:=pI (a:=(r.dep-1)/2) (b:=(max (r.dep+1) rs.dep-2)/2) ();let i:=pI (a:=(rs.dep-2)/2) (b:=(max (r.dep+1) rs.dep-2)/2) ();simp only[Rows.bl,Rows.dep];lia
end
def EZ{r:ag}(h:r.dep<=10):r.bl<=47:=by
 let h1:=r.bl_le;let m:=pI (a:=(r.dep-1)/2) (b:=4) ()
 lia
mutual
theorem ag.subs:∀r:ag,r.ok->∀x∈r.rws,x.ok/\x.dep<=r.dep
 |.leaf w ps=>λok x i=>by rw[eR.mp i];show#[ok,br _]
 |.call b n z=>λok x i=>by rw[eR.mp i];show#[ok,br _]
 |.wh e b=>λok x i=>by
  obtain h|h:=a_.mp i
  . grind
  . let(j,q):=Rows.subs b ok.2 x h;show#[j,by simp only[ag.dep];lia]
 |.iff e b c=>λok x i=>by
  obtain h|h:=a_.mp i
  . grind
  . obtain h|h:=cr.mp h
    . let(j,q):=Rows.subs b ok.2.1 x h;show#[j,by simp only[ag.dep];lia]
    . let(j,q):=Rows.subs c ok.2.2 x h;show#[j,by simp only[ag.dep];lia]
theorem Rows.subs:∀rs:Rows,rs.ok->∀x∈rs.rws,x.ok/\x.dep+1<=rs.dep
 |.nil=>λ_ x i=>by cases i
 |.cons r rs=>λok x i=>by
  simp only[Rows.dep];obtain h|h:=cr.mp i
  . let(j,q):=ag.subs r ok.1 x h;show#[j,()]
  . let(j,q):=Rows.subs rs ok.2 x h;show#[j,()]
end
theorem N8:∀fs:List Fn,(∀f∈fs,f.rows.ok/\f.rows.dep<=11)->∀x∈lN fs,x.ok/\x.dep<=10
 |[]=>λ_ x i=>by cases i
 |f::fs=>λh x i=>by
  obtain i|i:=cr.mp i
  . let(h1,h2):=h f be;let(q,z):=Rows.subs f.rows h1 x i;show#[q,()]
  . show N8 fs (λg j=>h g (cw _ j)) x i
def Eo{P:Pg}(h:P.fine):∀x∈P.rws,x.ok/\x.dep<=10:=λx i=>by
 obtain i|i:=cr.mp i
 . show N8 P.fns (λf j=>#[(h.ok.fn f j).1,h.fd f j]) x i
 . let(q,z):=Rows.subs P.rows h.ok.rw x i;have:=h.dd;show#[q,()]
abbrev srt(ss:List Str):List PV:=(pU (uX ss)).map PV.str
theorem Jz:∀i:List Str,BJ (i.map PV.str)=!i
 |[]=>rfl
 |x::i=>by show (BJ (i.map PV.str)).map _=_;rw[Jz i];rfl
def aeo(h:f Y=!(l,Y1))(hl:l.pv=R (c7 ss))(hn:-ss<64):yw f Y=!(Zs (R (srt ss)),Y1):=by unfold yw;rw[h,bq,hl];show ((BJ (ss.map PV.str)).bind _)=_;rw[Jz,bq,aw hn]
def Yu(h:gt es k r):k+r.cnt<=-es:=by let(w,z,bl,((j,i,e,q,_),_)):=h;rw[e,bX,bX,ag.es_len];lia
structure kz(P:Pg)(k:Nat)(r:ag):Prop where
 sp:gt P.es k r
 ok:r.ok
 dp:r.dep<=10
def abd(h:P.fine)(i:P.rws[k]?=!r):kz P k r:=by let(j,q):=Eo h r (eI i);show#[Yj P k r i,j,q]
def yQ(h:P.fine)(H:kz P k r):k+r.cnt<=256:=by let h1:=Yu H.sp;let h2:=es_len P;let i:=h.ok.ct;lia
theorem V7:∀i:List Str,-(uX i)<=-i
 |[]=>br _
 |x::i=>by have:=V7 i;unfold uX;split<;>simp only[bi]<;>lia
def Hy:x∈pU (uX a) ↔ x∈a:=by rw[uf.mem_iff,Am]
theorem yR{α:Type}(i:Ev->Prop)(q:∀Y,i Y->Y.mu=mu)(g r:α->PV):∀(l:List α)(Y:Ev)(acc:List PV),i Y->-acc+-l<=100000->(∀x∈l,∀Y,i Y->∃Y1 y Y2,b (g x) Y=!Y1/\te Y1=!(y,Y2)/\y.pv=r x/\i Y2)->dF b bB te (l.map g) Y acc=!(acc++l.map r,mu)
 |[]=>λY acc h _ _=>by simp[dF,q Y h]
 |x::l=>λY acc h j hs=>by simp only[bi]at j;let(Y1,y,Y2,D,F,N,h2):=hs x be Y h;show fY D F () ((yR i q g r l Y2 (acc++[y.pv]) h2 ∅ λz j=>hs z (cw _ j)).trans ?_);rw[N];simp
def ww{α:Type}{g r:α->PV}{l:List α}(h:f Y=!(L,Y1))(q:bJ L.pv=!(l.map g))(F:-l<=100000)(i:(ie bm Y1).vs=vs)(D:nT 1 bm (ie bm Y1)=#[J::gk,Y1.mu])
 (z:∀x∈l,te #[zS (g x)::gk,Y1.mu]=!(Zp (r x),#[zS (g x)::gk,Y1.mu])):bU (dh f bJ) 1 bm (aC 0) bB te Y=!(Zs (R (l.map r)),#[vs,Y1.mu]):=by
 let c:=yR (b:=aC 0) (λY=>∃o,Y=#[o::gk,Y1.mu]) (λY ⟨o,e⟩=>by rw[e]) g r l #[J::gk,Y1.mu] [] #[_,O] ∅ λx j Y ⟨o,e⟩=>#[_,_,_,by rw[e];rfl,z x j,O,_,O];rw[<-i];show eF (dC h q) ∅
def Th{α:Type}{j i r:α->PV}{l:List α}(h:f Y=!(L,Y1))(F:L.pv=R (l.map λx=>ZB [j x,i x]))(Q:-l<=100000)(q:(ie bm Y1).vs=vs)(N:nT 2 bm (ie bm Y1)=#[J::J::gk,Y1.mu])
 (z:∀x∈l,te #[zS (j x)::zS (i x)::gk,Y1.mu]=!(Zp (r x),#[zS (j x)::zS (i x)::gk,Y1.mu])):bU (dh f bJ) 2 bm kl bB te Y=!(Zs (R (l.map r)),#[vs,Y1.mu]):=by
 let c:=yR (b:=fC 2 (aW (aC 0) (aW (aC 1) fu))) (λY=>∃o p,Y=#[o::p::gk,Y1.mu]) (λY ⟨o,p,e⟩=>by rw[e]) (λx=>ZB [j x,i x]) r l #[J::J::gk,Y1.mu] [] #[_,_,O] ∅ λx D Y ⟨o,p,e⟩=>#[_,_,_,by rw[e];rfl,z x D,O,_,_,O];rw[<-q];show eF (dC h (by rw[F];rfl)) ∅
def afi{α:Type}{z i j r:α->PV}{l:List α}(h:f Y=!(L,Y1))(F:L.pv=R (l.map λx=>ZB [z x,i x,j x]))(W:-l<=100000)(N:(ie bm Y1).vs=vs)(hc:nT 3 bm (ie bm Y1)=#[J::J::J::gk,Y1.mu])
 (Q:∀x∈l,te #[zS (z x)::zS (i x)::zS (j x)::gk,Y1.mu]=!(Zp (r x),#[zS (z x)::zS (i x)::zS (j x)::gk,Y1.mu])):bU (dh f bJ) 3 bm TU bB te Y=!(Zs (R (l.map r)),#[vs,Y1.mu]):=by
 let c:=yR (b:=fC 3 TR) (λY=>∃o p q,Y=#[o::p::q::gk,Y1.mu]) (λY ⟨o,p,q,e⟩=>by rw[e]) (λx=>ZB [z x,i x,j x]) r l #[J::J::J::gk,Y1.mu] [] #[_,_,_,O] ∅ λx D Y ⟨o,p,q,e⟩=>#[_,_,_,by rw[e];rfl,Q x D,O,_,_,_,O];rw[<-N];show eF (dC h (by rw[F];rfl)) ∅
def Hz(h:-a+-b<=100000):bf (R a) (R b)=zO (a++b):=aw h
def Be(h:-a+-b<=100000):bf (ZH a) (ZH b)=zT (a++b):=aw h
abbrev jc(w:Str×Str):PV:=ZB [ZH w.1,ZH w.2]
def Yv(h:Rd n p a):∀(f:Nat)(mu:Mu),n<=f->-a<=100->∃ws:List (Str×Str),ws.map (·.2)=a/\ ni f [p] mu=!(Zs (R (ws.map jc)),mu):=by
 induction h with
 |num n i=>
  intro f mu z _;obtain⟨f,rfl⟩:∃k,f=k+1:=#[f-1,()];show#[[],O,aO (Y:=E1 (ZB [ZH "num",ZI i]) mu) ?_];show d7 () () O
 |box n x=>
  intro f mu z _;obtain⟨f,rfl⟩:∃k,f=k+1:=#[f-1,()];show#[[("box",x)],O,aO (Y:=E1 (ZB [ZH "box",ZH x]) mu) ?_];show(bG () ()).trans ()
 | @at_ n p a x h Q=>
  intro f mu z N;obtain⟨f,rfl⟩:∃k,f=k+1:=#[f-1,()];simp only[bi]at N;let(ws,j,F):=Q f mu () ();let D:=congrArg length j;show#[("list",x)::ws,by rw[dP,j],aO (Y:=E1 (ZB [ZH "@",ZH x,p]) mu) ?_];show(bG () ()).trans ((bG () ()).trans (d7 () () ?_));show cT (dj (p:=R [jc ("list",x)]) O O (aR O O O O F) O (Hz ∅))
 | @op n s p q a b hs h g Q jh=>
  intro f mu z N;obtain⟨f,rfl⟩:∃k,f=k+1:=#[f-1,()];rw[bX]at N;let(ws,j,F):=Q f mu () ();let(us,e3,e4):=jh f mu () ();let D:=congrArg length j;let W:=congrArg length e3;rw[bo]at D W;show#[ws++us,by rw[cy,j,e3],aO (Y:=E1 (ZB [ZH s,p,q]) mu) ?_];rw[cy];show(bG () hs.1).trans ((bG () hs.2.1).trans ((bG () hs.2.2).trans ?_));show cT (dj (aR O O O O F) O (aR O O O O e4) O (Hz ∅))
def Yw(h:Rd n p a):∀(f:Nat)(mu:Mu),n<=f->-a<=100->gK f [p] mu=!(Zs (R (c7 a)),mu):=by
 induction h with
 |num n i=>
  intro f mu j _;obtain⟨f,rfl⟩:∃k,f=k+1:=#[f-1,()];show aO (Y:=E1 (ZB [ZH "num",ZI i]) mu) ?_;show d7 () () O
 |box n x=>
  intro f mu j _;obtain⟨f,rfl⟩:∃k,f=k+1:=#[f-1,()];show aO (Y:=E1 (ZB [ZH "box",ZH x]) mu) ?_;show(bG () ()).trans ()
 | @at_ n p a x h F=>
  intro f mu j D;obtain⟨f,rfl⟩:∃k,f=k+1:=#[f-1,()];simp only[bi]at D;let z:=F f mu () ();show aO (Y:=E1 (ZB [ZH "@",ZH x,p]) mu) ?_;show(bG () ()).trans ((bG () ()).trans (d7 () () ?_));show cT (dj (p:=R [ZH x]) O O (aR O O O O z) O (Hz ∅))
 | @op n s p q a b hs h g F Q=>
  intro f mu j D;obtain⟨f,rfl⟩:∃k,f=k+1:=#[f-1,()];rw[bX]at D;let z:=F f mu () ();let N:=Q f mu () ();show aO (Y:=E1 (ZB [ZH s,p,q]) mu) ?_;rw[c7,cy];show(bG () hs.1).trans ((bG () hs.2.1).trans ((bG () hs.2.2).trans ?_));show cT (dj (aR O O O O z) O (aR O O O O N) O (Hz ∅))
def Xa(p:PV)(a:List Str):Prop:=∃n,Rd n p a/\n<=15/\-a<=9/\Sh a
open Classical in
def zA(p:PV):List Str:=if h:∃a,Xa p a then Classical.choose h else []
def xP(h:XG p):Xa p (zA p):=by let(n,a,h):=h;have h:∃a,Xa p a:=#[a,n,h];unfold zA;grind
abbrev vS(p:PV):List Str:=pU (uX (zA p))
def Rq(p:PV):-(vS p)<=-(zA p):=by rw[uf.length_eq];show V7 _
def Py(h:XG p)(mu:Mu):yL [p] mu=!(Zs (R (c7 (vS p))),mu):=by let(n,h1,h2,z,D):=xP h;let(ws,i,q):=Yv h1 40 mu () ();let j:=congrArg length i;rw[bo]at j;show aO (cT (aeo (Th (aR O O O O q) O () O O λx _=>O) ?_ ()));rw[<-i,c7,fE];rfl
def nZ(x:Str):Str:="box " ++ x
abbrev jy(p:PV):List Str:=(vS p).map nZ
def HD:-("box " : Str)=4:=by decide +kernel
def yS(h:XG p)(mu:Mu):iI [p] mu=!(Zs (R (c7 (jy p))),mu):=by
 let(n,h1,h2,q,j):=xP h;let l:=Rq p;show(aO (cT (ww (r:=λx=>ZH (nZ x)) (aR O O O O (Py h mu)) O () O O λx i=>?_))).trans (by rw[c7,fE];rfl);have:=j x (Hy.mp i)
 show Ga O (aw (())) (by rw[HD];lia)
end
noncomputable section
variable [HK][FN]
structure PA(mu:Mu)(n:Nat)(P:Pg):Prop where
 ex:∃N d,mu[n]?=!(!(gf "Plan" (Q0 P.es N (nG d))))/\Tc P.fns d
def PA.pl(h:PA mu n P):jb mu n P.es:=by let(N,d,h,_):=h;show#[N,_,h]
def kO(h1:fo Y=!(x,Y1))(hx:x.pv=ZA n)(h2:a Y1=!(ls,Y2))(hps:ls.map Lc.pv=ps)(h3:g (ZA n::ps) Y2.mu=!(r,hV))(pa:jb Y1.mu n es)(hc:(["told","lists","heads"]:List Str).contains m=M:=by decide +kernel):cX "Plan" m g fo a Y=!(r,#[Y2.vs,hV]):=by let(N,Q,F):=pa;show xG h1 hx F hc h2 hps h3
abbrev dw(n k:Nat)(t:List (Option Lc))(mu:Mu):Ev:=#[zS (ZA n)::zI (k:Nat)::t,mu]
def Oa(h:jb mu n es)(he:es[k]?=!e):aJ tp (aa 1) (dw n k t mu)=!(Zp e.pv,dw n k t mu):=by let(N,j,i):=h;show dG (sZ O O i O) O O O nl ?_;show (fO (c_ es) ((k:Nat):Int)).map _=_;rw[Ht he];rfl
def nt:∀n,PV.tup ps≠ZA n:=λn h=>by cases h
def Rr(h:jb mu n es)(he:es[k]?=!e):mL [ZA n,ZI (k:Nat)] mu=!(Zp (ZH e.w),mu):=
 aO (Y:=dw n k [] mu) (cT (dG (Oa h he) O O O nt O))
def Yx(h:jb mu n es)(he:es[k]?=!e):oH [ZA n,ZI (k:Nat)] mu=!(Zp e.ab,mu):=
 aO (Y:=dw n k [] mu) (cT (dG (Oa h he) O O O nt O))
def Ti(h:jb mu n es)(j:-es<=100000):qm [ZA n] mu=!(Zs (R (aU (range (-es)))),mu):=by let(N,q,i):=h;show aO (Y:=#[[zS (ZA n)],mu]) (cT ?_);unfold SN;rw[jN (aA (sZ O O i O) O) O O,bq];show (if 0<=(-(c_ es):Int)/\(-(c_ es):Int)<=100000 then _ else _)=_;rw[nC,aw ()];rfl
def V8(h:PA mu n P)(i:f∈P.fns):∃xs:List Str,f.params=xs.map (λx=>ZB [ZH x,.non])/\-xs<=4/\Sh xs/\rN [ZA n,ZH f.name] mu=!(Zs (R (c7 xs)),mu):=by let(N,d,F,z):=h;let(p,(xs,Q,j,D,rfl),q):=z f i;show#[xs,Q,j,D,aO (Y:=#[[zS (ZA n),zT f.name],mu]) (cT (jN (ls:=[Zp (R (c7 xs))]) (aA ?_ O) O O))];unfold sR;rw[sZ (C:="Plan") (f:="heads") O O F O,bq];show ((iG ((d.map (·.1)).zip (d.map (·.2))) (.inr f.name)).map _)=_;rw[VH,q];rfl
theorem Ob{K:List aV}:∀{es:List b9}{i j:Nat},j∈pos K i es->j<i+-es
 |[],i,j=>λh=>by cases h
 |e::es,i,j=>λh=>by
  unfold pos at h;have:=@Ob K es (i+1) j
  grind
def Rt:∀{i k:Nat}{e:b9},es[k]?=!e->i+k∈pos e.key i es:=by
 induction es with
 |nil=>intro i k e h;cases h
 |cons x es j=>
  intro i k e h;unfold pos;cases k with
  |zero=>
   grind
  |succ k=>
   have:=j (i:=i+1) h;rw[show i+(k+1)=i+1+k by omega];split
   . show cw _ this
   . show this
def adx{K:List aV}(h:j∈pos K 0 es):j5 (oJ 0 es []) K=!(pos K 0 es):=by
 let e:=Cd (K:=K) es 0 [];cases q:j5 (oJ 0 es []) K with
 |none=>grind
 |some l=>rw[q]at e;show congrArg some e
abbrev KB(w:Str):List aV:=[!(.inr w),J,!(.inl 0)]
open Classical in
def abe(h:jb mu n es):qu [ZA n,ZH w] mu=!(Zs (R (aU (pos (KB w) 0 es))),mu):=by
 let(N,D,j):=h;let E:Ev:=#[[zS (ZA n),zT w],mu];let S:_:=oJ 0 es [];have z:(j5 S (KB w)).getD []=pos (KB w) 0 es:=Cd es 0 [];have g:∃l,yD (jB "Plan" "lists" (aa 0)) BS E=!(l,E)/\l.pv=R (aU ((j5 S (KB w)).getD [])):=by
  unfold yD;rw[sZ (C:="Plan") (f:="lists") O O j O,bq];show ∃l,(if HK.hk=HK.hk then !((match j0 (((pz N S).map (·.1)).zip (S.map λx=>PV.lst (aU x.2))) (KB w) with |some p=>Lc.sh p |none=>Zs (R [])),E) else J)=!(l,E)/\_;rw[aw O,Kq];cases j5 S (KB w) with
  |none=>show#[_,O,O]
  |some l=>show#[_,O,O]
 let(l,i,q):=g;show aO (cT (jN (ps:=[R (aU (pos (KB w) 0 es))]) (Y1:=E) (aA i O) ∅ O))
theorem Ru:∀l:List Nat,tR (dH 150) (ZI (k:Nat)) (aU l)=!(decide (k∈l))
 |[]=>rfl
 |a::l=>by show ((!(((a:Nat):Int)==((k:Nat):Int))).bind λb=>(tR (dH 150) (ZI (k:Nat)) (aU l)).map λc=>b||c)=_;rw[Ru l];show some ((((a:Nat):Int)==((k:Nat):Int))||decide (k∈l))=_;congr 1;rw[Bool.eq_iff_iff,Bool.or_eq_true,beq_iff_eq,decide_eq_true_eq,decide_eq_true_eq,a_,Int.natCast_inj];show or_congr_left eq_comm
open Classical in
def Yy(he:es[k]?=!e)(Q:e.ab=.non\/∃j:Nat,e.ab=ZI j)(hl:-es<=1000):∃r,(r=.non\/∃a:Nat,a< -es/\r=ZI (a:Nat))/\∀mu n,jb mu n es->iH [ZA n,ZI (k:Nat)] mu=!(Zp r,mu):=by
 let hk:=Rt (i:=0) he;rw[hG]at hk;let l:_:=pos e.key 0 es;have ll:-l<=100000:=by
  have:∀(es:List b9)(i:Nat),-(pos e.key i es)<=-es:=λes=>by
   induction es with
   |nil=>show λi=>br _
   |cons x es ih=>intro i;unfold pos;have:=ih (i+1);split<;>simp only[bi]<;>lia
  have:=this es 0;lia
 let j:_:=(aU l).findIdx λq=>(dH 150 q (ZI (k:Nat))).getD M;have hj:j< -(aU l):=findIdx_lt_length_of_exists #[ZI (k:Nat),ck.mpr #[k,hk,O],by show (((k:Nat):Int)==((k:Nat):Int))=G;simp];rw[bo]at hj;have fin:∃r,(r=.non\/∃a:Nat,a< -es/\r=ZI (a:Nat))/\∀(n:Nat)(mu:Mu),Zb Bn (eC .non) Bz (dw n k [zL (aU l),zI (j:Nat)] mu)=!(Zp r,dw n k [zL (aU l),zI (j:Nat)] mu):=by
  by_cases h0:j=0
  . show#[.non,Zl O,λn mu=>?_];rw[h0];rfl
  . have D:l[j-1]?=some l[j-1]:=ed ();show#[ZI (l[j-1]:Nat),YY #[l[j-1],by have:=Ob (eI D);lia,O],λn mu=>?_];show (if (((j:Nat):Int)==0)=G then _ else _)=_;rw[ay ∅];show dG O O O O nl ?_;show (fO (aU l) (((j:Nat):Int)-1)).map _=_;rw[show ((j:Nat):Int)-1=((j-1:Nat):Int) by lia,PN (by rw[c5,D];rfl)];rfl
 let(r,F,fin):=fin;show#[r,F,λmu n h=>?_];let h':=h;let(N,hd,hm):=h';let E0:_:=dw n k [J,J] mu;let z:_:=dw n k [zL (aU l),J] mu;let E3:_:=dw n k [zL (aU l),zI (j:Nat)] mu;have s2:S5 (jB "Plan" "lists" (aa 0)) (j7 tw eU (cM (af 3))) E0=!(Zp (R (aU l)),E0):=by
  unfold S5;rw[sZ (C:="Plan") (f:="lists") (Y1:=E0) O O hm O,bq];have sl:j7 (aJ tp (aa 1)) eU (cM (af 3)) E0=!(Zp (ZB [ZH e.w,e.ab,ZI e.bl]),E0):=by unfold j7;rw[Oa h he,bq];rfl
  rw[sl,bq];show ((pX [ZH e.w,e.ab,ZI e.bl]).bind _)=_;rw[Jt Q,bq,aw O,Kq,adx hk];rfl
 have W:MF (aa 2) (aa 1) z=!(Zp (ZI (j:Nat)),z):=by show (if tR (dH 150) (ZI (k:Nat)) (aU l)=!G/\-(aU l)<=100000 then _ else _)=_;rw[aw #[by rw[Ru,i5 hk],by rw[bo];show ll]];rfl
 show aO (aH (bu s2 O O) (aH (Y':=E3) (bu W O O) (cT (fin n mu))))
end
noncomputable section
variable [HK][FN]
mutual
theorem ag.es_w:∀(r:ag)(w:Str)(ab:PV)(bl:Int)(k:Nat),∀e∈r.es w ab bl k,e.w=w
 |.leaf _ _=>λw ab bl k e h=>by rw[eR.mp h]
 |.call _ _ _=>λw ab bl k e h=>by rw[eR.mp h]
 |.wh x b=>λw ab bl k e h=>(a_.mp h).elim (λh=>by rw[h]) (Rows.es_w b _ _ _ _ e)
 |.iff x b c=>λw ab bl k e h=>(a_.mp h).elim (λh=>by rw[h]) λh=>(cr.mp h).elim (Rows.es_w b _ _ _ _ e) (Rows.es_w c _ _ _ _ e)
theorem Rows.es_w:∀(rs:Rows)(w:Str)(ab:PV)(bl:Int)(k:Nat),∀e∈rs.es w ab bl k,e.w=w
 |.nil=>λw ab bl k e h=>by cases h
 |.cons r rs=>λw ab bl k e h=>(cr.mp h).elim (ag.es_w r _ _ _ _ e) (Rows.es_w rs _ _ _ _ e)
end
def Rows.first{rs:Rows}(h:e∈rs.es w .non 0 k):e.w=w/\∃i∈rs.es w .non 0 k,i.key=KB w:=by
 show#[Rows.es_w _ _ _ _ _ e h,?_];cases rs with
 |nil=>cases h
 |cons r rs=>
  let(t,j):=r.es_head w .non 0 k;show#[#[w,.non,0,r],ga _ ∅,O]
theorem JB:∀{fs:List Fn}{k:Nat}{e:b9},(∀f∈fs,-f.name<=100)->e∈qJ fs k->-e.w<=100/\∃i∈qJ fs k,i.key=KB e.w
 |[],k,e=>λ_ h=>by cases h
 |f::fs,k,e=>λq h=>by
  obtain h|h:=cr.mp h
  . let(j,i,h1,h2):=Rows.first h;show#[by rw[j];show q f be,i,ga _ h1,by rw[h2,j]]
  . let(h1,i,h2,D):=JB (λg z=>q g (cw _ z)) h;show#[h1,i,eT _ h2,D]
def Yz{P:Pg}(h:P.fine)(he:e∈P.es):-e.w<=100/\∃j,j∈pos (KB e.w) 0 P.es:=by
 have:-e.w<=100/\∃i∈P.es,i.key=KB e.w:=by
  obtain q|q:=cr.mp he
  . let(h1,i,h2,z):=JB h.ok.nl q;show#[h1,i,ga _ h2,z]
  . let(D,i,h1,h2):=Rows.first q;show#[by rw[D];decide +kernel,i,eT _ h1,by rw[h2,D]]
 let(h1,i,h2,z):=this;let(j,F):=getElem?_of_mem h2;show#[h1,_,z▸Rt F]
structure Pl(P:Pg)(k:Nat)(e:b9):Prop where
 at_:P.es[k]?=!e
 he:kz P k e.r
 ab:vp e.ab k
 wl:-e.w<=100
 bd:∃j,j∈pos (KB e.w) 0 P.es
 si:qy P.es e.w e.ab e.bl k e.r
def Bf{P:Pg}:-P.rws=-P.es:=by unfold Pg.rws;rw[bX,vq,Rows.rws_len,es_len]
def Ku(h:P.fine)(hk:k< -P.es):∃e,Pl P k e/\P.rws[k]?=!e.r:=by rw[<-Bf]at hk;let i:=ed hk;let H:=abd h i;let(w,j,bl,s):=H.sp;let(h1,h2):=Yz h (eI s.get);show#[#[w,j,bl,P.rws[k]],#[s.get,H,s.ab,h1,h2,s],i]
def Pl.lt(h:Pl P k e):k< -P.es:=(c9.mp h.at_).1
def oX{P:Pg}(h:P.fine):-P.es<=44:=by rw[es_len];show h.ok.ct
def Pl.num(h:Pl P k e):e.ab=.non\/∃j:Nat,e.ab=ZI j:=h.ab.imp id λz44=>by let(j,q,_):=z44;show #[j,q]
def Zv(h:P.fine)(p:Pl P k e)(i:PA mu n P):dJ 40 [ZA n,ZI (k:Nat)] mu=!(Zs (R (c7 (e.r.bt k))),mu):=
 VJ i.pl e.r 40 k e.w e.ab e.bl p.si p.he.ok (by have:=p.he.dp;lia) (by have:=p.he.dp;lia) (yQ h p.he) (by have:=EZ p.he.dp;lia)
def E_(p:Pl P k e):-(e.r.bt k)<=47:=d4 (e.r.bt_len k) (EZ p.he.dp)
def Dh(P:Pg)(i:Nat):Bool:=((P.rws[i]?).map ag.sp).getD M
def V9(h:P.fine)(q:∀i∈l,i< -P.es)(h2:-l<=1000)(j:PA mu n P):fV [ZA n,R (aU l)] mu=!(Zp (.bl (l.any (Dh P))),mu):=by
 show aO (Y:=#[[zS (ZA n),zL (aU l)],mu]) (cT (jN (aA (ww (r:=λi=>.bl (Dh P i)) O O () O O λi hi=>?_) O) O ?_))
 . let(e,p,z):=Ku h (q i hi);have D:Dh P i=e.r.sp:=by unfold Dh;rw[z];rfl
   rw[D];show aR (aA (kO O O O O (tu j.pl p.at_) j.pl) O) O O O (Js p.he.ok (by have:=p.he.dp;lia) (by have:=yQ h p.he;lia))
 . show ((cf (l.map λi=>.bl (Dh P i))).map _)=_;rw[rP,ic];grind
def tG(h:aa i Y=!(Zp (ZI (k:Nat)),Y))(hk:k<256)(j:-c<=10):nW c (aa i) Y=!(Zp (ZH (c++lF k)),Y):=by let(h1,h2,_):=Gq k hk;show Ga h h1 ()
def aep{r:ag}(ok:r.ok):(∃e b c,r=.iff e b c)\/∃w t,r.pv=ZB (ZH w::t)/\(w== "if")=M:=by
 cases r with
 |leaf w ps=>show YY #[w,ps,O,ok.1.1]
 |call b n j=>show YY #[_,_,O,by decide +kernel]
 |wh e b=>show YY #[_,_,O,by decide +kernel]
 |iff e b c=>show Zl #[e,b,c,O]
def aeq{r:ag}(ok:r.ok):(∃e b,r=.wh e b)\/∃w t,r.pv=ZB (ZH w::t)/\(w== "while")=M:=by
 cases r with
 |leaf w ps=>show YY #[w,ps,O,ok.1.2.1]
 |call b n j=>show YY #[_,_,O,by decide +kernel]
 |iff e b c=>show YY #[_,_,O,by decide +kernel]
 |wh e b=>show Zl #[e,b,O]
def pJ(h:aa i Y=!(Zp (ZB (ZH w::t)),Y)):aJ (aa i) (af 0) Y=!(Zp (ZH w),Y):=
 dG h O O O nt (by show (fO (PV.str w::t) 0).map _=_;rw[iE];rfl)
def uF(h:XG p):-(jy p)<=9:=by let(n,h1,h2,i,j):=xP h;have:=Rq p;rw[bo];lia
def mm{α:Type}(f:α->Str×Str)(l:List α):(l.map f).map jc=l.map λy=>jc (f y):=fE ..
def YB(h:P.fine)(p:Pl P k e):∃A:List (Str×Str),-A<=10/\(∀y∈A,(y.1== "turns")=M)/\∀mu n,PA mu n P->lW [ZA n,ZI (k:Nat)] mu=!(Zs (R (A.map jc)),mu):=by
 have N:∀mu n,PA mu n P->aL 2 BA (dw n k [J,J,J] mu)=!(.nx (dw n k [zS e.ab,J,J] mu)):=λmu n i=>bu (kO O O O O (Yx i.pl p.at_) i.pl) O O;obtain q|⟨j,q,hj⟩:=p.ab
 . rw[q]at N;show#[[("enter","enter " ++ e.w)],by simp,λy F=>by rw[eR.mp F];show (("enter" : Str)== "turns")=M;decide +kernel,λmu n i=>?_];have l6:-("enter " : Str)=6:=by decide +kernel
   have:=p.wl;show aO (Y:=dw n k [!(Zp .non),J,J] mu) (aH (N mu n i) (d7 O O (cT (pQ (aA (dm (aA O (aA (dj O O (kO O O O O (Rr i.pl p.at_) i.pl) O (Be ())) O)) O O) O) O O))))
 . rw[q]at N;let(e2,p2,_):=Ku h (show j< -P.es by have:=p.lt;lia);let hl:=oX h;let hjl:=p2.lt;let W:Str×Str:=("within","at " ++ lF j);let E3:Nat->Mu->Option Lc->List (Str×Str)->Ev:=λn mu o A=>dw n k [zI (j:Nat),zO (A.map jc),o] mu;have D:∀mu n,PA mu n P->∀(g:SF) ZN,g (E3 n mu (zS e2.r.pv) [W])=ZN->(aF BC (aF BB g)) (dw n k [zI (j:Nat),J,J] mu)=ZN:=λmu n i g ZN hg=>by show aH (bu (pQ (aA (dm (aA O (aA (tG O () ()) O)) O O) O) O O) O O) ?_;show aH (bu (kO O O O O (tu i.pl p2.at_) i.pl) O O) hg
   obtain⟨x,b,c,Q⟩|⟨w,t,Q,hw⟩:=aep p2.he.ok
   . let ok:=p2.he.ok;rw[Q]at ok;let lb:=uF ok.1;have kw:∀y∈W::(jy x).map λy=>(("choice" : Str),y),(y.1== "turns")=M:=λy F=>by
      obtain rfl|F:=a_.mp F
      . show (("within" : Str)== "turns")=M;decide +kernel
      . let(z,_,rfl):=ck.mp F;show (("choice" : Str)== "turns")=M;decide +kernel
     show#[W::(jy x).map λy=>("choice",y),by simp only[bi,bo]at lb ⊢;lia,kw,λmu n i=>?_];let D:=D mu n i;rw[Q]at D;show aO (Y:=dw n k [zI (j:Nat),J,!(Zp (ag.iff x b c).pv)] mu) (aH (N mu n i) ((bG O O).trans (D _ _ ?_)));show(nA (Y2:=E3 n mu (!(Zp (ag.iff x b c).pv)) (W::(jy x).map λy=>("choice",y))) (bw (pJ O)) () ?_).trans O;show jZ O (ww (aR O O O O (yS ok.1 mu)) O () O O λy _=>O) O O (by simp only[bo,bi,cv]at lb ⊢;lia) ?_;show dw n k [_,!(Zs (R ([jc W]++(jy x).map λy=>jc ("choice",y)))),_] mu=dw n k [_,!(Zs (R (jc W::((jy x).map λy=>(("choice" : Str),y)).map jc))),_] mu;rw[mm];rfl
   . show#[[W],by simp,λy F=>by rw[eR.mp F];show (("within" : Str)== "turns")=M;decide +kernel,λmu n i=>?_];let D:=D mu n i;rw[Q]at D;show aO (Y:=dw n k [zI (j:Nat),J,zS (ZB (ZH w::t))] mu) (aH (N mu n i) ((bG O O).trans (D _ _ ((bG (bw (pJ O)) hw).trans O))))
end
noncomputable section
variable [HK][FN]
def abf(a b:List Str):c7 (a++b)=c7 a++c7 b:=cy
def Rv(a:List Str):-(c7 a)=-a:=bo _
def Fa(h:c Y=!(b,Y1))(i:b=G)(h2:f Y1=ZN):cC c f g Y=ZN:=by subst i;show(lR h).trans h2
def Fc(h:c Y=!(b,Y1))(i:b=M)(h2:g Y1=ZN):cC c f g Y=ZN:=by subst i;show(lU h).trans h2
def abg(h:l≠[]):∃j∈l,fO (aU l) (-1)=!(ZI (j:Nat)):=by obtain⟨a,j,rfl⟩:∃a j,l=a++[j]:=#[l.dropLast,l.getLast h,(dropLast_concat_getLast h).symm];show#[j,by simp,by rw[aU,cy,List.map_singleton,qN]]
def aer:qW (R ps)=!(not ps.isEmpty):=by cases ps<;>rfl
def abh(h:P.fine)(p:Pl P k e)(er:e.r=.wh x b):-(jy x++b.lbt (k+1))<=56/\∀mu n,PA mu n P->rM [ZA n,ZI (k:Nat)] mu=!(Zs (R (c7 (jy x++b.lbt (k+1)))),mu):=by
 let ok:=p.he.ok;let N:=p.si;let W:=yQ h p.he;let hd:=p.he.dp;rw[er]at ok N W hd;simp only[ag.cnt]at W;simp only[ag.dep]at hd;let lb:=uF ok.1;let l:_:=pos (eM e.w k 0) 0 P.es;have D:l=b.nums (k+1):=N.pos 0;let E3:Nat->Mu->List Str->Ev:=λn mu A=>dw n k [zL (aU l),zO (c7 A)] mu;have z:∀mu n,PA mu n P->∀(g:SF) ZN,g (dw n k [zO (aU l),zO (c7 (jy x))] mu)=ZN->(aF BD (aF BG g)) (dw n k [J,J] mu)=ZN:=λmu n i g ZN hg=>by show aH (bu (kO O O O O (Eg i.pl p.at_) i.pl) O O) ?_;let r:=tu i.pl p.at_;rw[er]at r;show aH (bu (aR (aA (dG (kO O O O O r i.pl) O O O nt O) O) O O O (yS ok.1 mu)) O O) hg
 let b1:=b.lbt_len (k+1);have b2:b.bl<=47:=by
  let h2:=b.bl_le;let m:=pI (a:=(b.dep-2)/2) (b:=4) ();have:(2:Nat) ^ 4=16:=by decide
  lia
 show#[by rw[bX];lia,λmu n i=>?_];cases b with
 |nil=>
  let hl:=D;rw[show Rows.nil.lbt (k+1)=[] from O,da];show aO (Y:=dw n k [zL (aU l),J] mu) (z mu n i _ _ ((bG (Bv O O (by rw[hl];rfl)) O).trans O))
 |cons r rs=>
  let(a,ea):=Rows.nums_last r rs (k+1);let j:_:=(Rows.cons r rs).lnum (k+1);have ej:fO (aU l) (-1)=!(ZI (j:Nat)):=by rw[D,ea,aU,cy,List.map_singleton,qN]
  have F:l≠[]:=by rw[D,ea];simp
  let Q:=Ce i.pl (.cons r rs) 40 (k+1) e.w (ZI (k:Nat)) 0 #[r,rs,O] N.wh ok.2 () () () ();obtain⟨T,hT⟩:∃T,T=(Rows.cons r rs).lbt (k+1):=#[_,O];rw[<-hT]at Q b1 ⊢;show aO (Y:=dw n k [zL (aU l),J] mu) (z mu n i _ _ ((nA (Y2:=E3 n mu (jy x++T)) (Bv (p:=R (aU l)) O O ?_) O ?_).trans O))
  . rw[aer];cases h:aU l with
    |nil=>show absurd (map_eq_nil_iff.mp h) F
    |cons _ _=>rfl
  . show jZ O (aR (ls:=[Zp (ZA n),Zp (ZI (j:Nat))]) (aA O (aA (dG O O O O nl (by show (fO (aU l) (-1)).map _=_;rw[ej];rfl)) O)) O O O Q) O O ∅ ?_;show _=dw n k [_,zO (c7 (jy x++T))] mu;rw[abf];rfl
def YC(h:P.fine)(p:Pl P k e):∃(A:List (Str×Str))(T:List Str),-A<=47/\-T<=56/\(∀y∈A,(y.1== "turns")=M)/\((∃x b,e.r=.wh x b/\T=jy x++b.lbt (k+1))\/∃w t,e.r.pv=ZB (ZH w::t)/\(w== "while")=M/\T=[])/\∀mu n,PA mu n P->jH [ZA n,ZI (k:Nat)] mu=!(Zs (R ((A++T.map λy=>(("turns" : Str),y)).map jc)),mu):=by
 let hl:=oX h;let(r,hr,ha):=Yy p.at_ p.num ();have i:∃A:List (Str×Str),-A<=47/\(∀y∈A,(y.1== "turns")=M)/\∀mu n,PA mu n P->∀(g:SF) ZN,g (dw n k [zS r,zO (A.map jc)] mu)=ZN->(aF tI (aF (aL 3 (cu ao)) (aF (cC tF
  BI
  BN) g))) (dw n k [J,J] mu)=ZN:=by
  have s:∀mu n,PA mu n P->∀(g:SF) ZN,g (dw n k [zS r,zO []] mu)=ZN->(aF tI (aF (aL 3 (cu ao)) g)) (dw n k [J,J] mu)=ZN:=λmu n j g ZN F=>aH (bu (kO O O O O (ha mu n j.pl) j.pl) O O) (aH O F);obtain q|⟨a,hal,q⟩:=hr
  . subst q;let(A,W,N,eA):=YB h p;show#[A,(),N,λmu n j g ZN F=>s mu n j _ _ (aH (Fa O O (jZ O (aR O O O O (eA mu n j)) O O ∅ O)) F)]
  . subst q;let(Q,p2,_):=Ku h hal;let lt:=E_ p2;show#[(Q.r.bt a).map λy=>("behind",y),by rw[bo];show lt,λy hy=>by let(z,_,rfl):=ck.mp hy;show (("behind" : Str)== "turns")=M;decide +kernel,λmu n j g ZN F=>s mu n j _ _ (aH (Fc O O (jZ O (ww (aR O O O O (Zv h p2 j)) O () O O λy _=>O) O O (by rw[bo];simp only[cv];lia) ?_)) F)];rw[mm];rfl
 let(A,W,N,i):=i;have t:∀{w:Str}{t:List PV}{mu:Mu}{n:Nat},PA mu n P->e.r.pv=ZB (ZH w::t)->tT BM aY (dw n k [zS r,zO (A.map jc)] mu)=!(w== "while",dw n k [zS r,zO (A.map jc)] mu):=λ{w t mu n} j D=>by let q:=tu j.pl p.at_;rw[D]at q;show bw (dG (kO O O O O q j.pl) O O O nt (by show (fO (PV.str w::t) 0).map _=_;rw[iE];rfl))
 obtain⟨x,b,D⟩|⟨w,t',D,hw⟩:=aeq p.he.ok
 . obtain⟨B,hB⟩:∃B,B=jy x++b.lbt (k+1):=#[_,O];let q:=abh h p D;rw[<-hB]at q;let(lB,eB):=q;show#[A,B,W,lB,N,Zl #[x,b,D,hB],λmu n j=>?_];show aO (Y:=dw n k [zS r,J] mu) (i mu n j _ _ ((nA (Y2:=dw n k [zS r,!(Zs (R ((A++B.map λy=>(("turns" : Str),y)).map jc)))] mu) (t j (by rw[D];rfl)) () ?_).trans O));show jZ O (ww (r:=λy=>jc ("turns",y)) (aR O O O O (eB mu n j)) O () O O λy _=>O) O O (by rw[bo,bo];lia) ?_;show _=dw n k [_,!(Zs (R ((A++B.map λy=>(("turns" : Str),y)).map jc)))] mu;rw[cy,mm];rfl
 . show#[A,[],W,by simp,N,YY #[w,t',D,hw,O],λmu n j=>?_];rw[j1,da];show aO (Y:=dw n k [zS r,J] mu) (i mu n j _ _ ((bG (t j D) hw).trans O))
def YD(h:P.fine)(p:Pl P k e):∃A:List (Str×Str),-A<=47/\∀mu n,PA mu n P->lu [ZA n,ZI (k:Nat)] mu=!(Zs (R (A.map jc)),mu):=by
 let hl:=oX h;let l:_:=pos (KB e.w) 0 P.es;have D:l≠[]:=λq=>by let(j,F):=p.bd;rw[show pos (KB e.w) 0 P.es=[] from q]at F;cases F
 let(j,F,ej):=abg D;let lt:=E_ p;have ll:∀i∈l,i< -P.es:=λi hi=>by have:=Ob hi;lia
 have l1:-l<=1000:=by
  have:∀(es:List b9)(i:Nat),-(pos (KB e.w) i es)<=-es:=λes=>by
   induction es with
   |nil=>show λi=>br _
   |cons x es ih=>intro i;unfold pos;have:=ih (i+1);split<;>simp only[bi]<;>lia
  have:=this P.es 0;lia
 let E3:Nat->Mu->Ev:=λn mu=>dw n k [zT e.w,zL (aU l)] mu;have Q:∀mu n,PA mu n P->∀(g:SF) ZN,g (dw n k [zT e.w,zO (aU l)] mu)=ZN->(aF BY (aF B0 g)) (dw n k [J,J] mu)=ZN:=λmu n z g ZN W=>
  aH (bu (kO O O O O (Rr z.pl p.at_) z.pl) O O) (aH (bu (kO (m:="body") O O O O (abe z.pl) z.pl) O O) W)
 have t:∀mu n,PA mu n P->tO BU B1 (dw n k [zT e.w,zO (aU l)] mu)=!(not (((j:Nat):Int)==((k:Nat):Int))||not (l.any (Dh P)),E3 n mu):=λmu n z=>
  rZ (Bv (dj (dG O O O O nl (by show (fO (aU l) (-1)).map _=_;rw[ej];rfl)) O O O O) O O) (Vi (Bv (kO (m:="spending") (Y2:=E3 n mu) O O O O (V9 h ll l1 z) z.pl) O O))
 have l6:-("leave " : Str)=6:=by decide +kernel
 let hw:=p.wl;cases N:not (((j:Nat):Int)==((k:Nat):Int))||not (l.any (Dh P)) with
 |true=>show#[[],d6 _,λmu n z=>aO (Y:=E3 n mu) (Q mu n z _ _ (d7 (t mu n z) N O))]
 |false=>
  show#[(e.r.bt k).map λy=>(y,"leave " ++ e.w),by rw[bo];show lt,λmu n z=>?_];rw[mm];show aO (Y:=E3 n mu) (Q mu n z _ _ ((bG (t mu n z) N).trans (cT (ww (Y1:=E3 n mu) (aR O O O O (Zv h p z)) O () O O λy _=>?_))));show dm (aA O (aA (Ga O (aw ()) ()) O)) O O
end
section
variable [HK][FN]
abbrev afj:TF:=tT vc aY
def Gz:afj (E1 (ZB (ZH w::ps)) mu)=!(gS (ZB (ZH w::ps)),E1 (ZB (ZH w::ps)) mu):=
 jU (dj w0 O O O O) O
abbrev afk:TF:=tT D1 aY
def Wa:afk (E1 (ZB (ZH w::ps)) mu)=!(not (w== "if"),E1 (ZB (ZH w::ps)) mu):=
 jU (bC w0 O O) O
abbrev Oc(n:Nat):EF:=aN (gW n) (aj (aa 0) ao)
mutual
theorem adA:∀(r:ag)(f:Nat),r.ok->r.dep<=f->r.cnt<=1000->gW f [r.pv] mu=!(Zp (.bl r.sp),mu)
 |.leaf x ps=>λf ok i z=>by
  obtain⟨m,rfl⟩:∃m,f=m+1:=#[f-1,by simp only[ag.dep]at i;lia];let((h1,h2,N),_):=ok;show aO (Y:=E1 (ag.leaf x ps).pv mu) ((bG Gz ?_).trans (d7 Wa ?_ O))
  . show (("while" : Str)==x||(("call" : Str)==x||false))=M;rw[xx h2,xx N];rfl
  . rw[h1];rfl
 |.call b m Q=>λf ok i z=>by obtain⟨f,rfl⟩:∃m,f=m+1:=#[f-1,by simp only[ag.dep]at i;lia];show aO (Y:=E1 (ag.call b m Q).pv mu) (d7 Gz (by show (("while" : Str)== "call" || (("call" : Str)== "call" || false))=G;decide +kernel) O)
 |.wh e b=>λf ok i z=>by obtain⟨f,rfl⟩:∃m,f=m+1:=#[f-1,by simp only[ag.dep]at i;lia];show aO (Y:=E1 (ag.wh e b).pv mu) (d7 Gz (by show (("while" : Str)== "while" || (("call" : Str)== "while" || false))=G;decide +kernel) O)
 |.iff e b c=>λf ok i z=>by
  simp only[ag.dep]at i;simp only[ag.cnt]at z;obtain⟨f,rfl⟩:∃m,f=m+1:=#[f-1,()];let P:_:=(ag.iff e b c).pv;let lb:=Rows.pvs_len b;let W:=Rows.pvs_len c;let sb:=Rows.sps_len b;have j:dF (aC 0) bB (Oc f) (b.pvs++c.pvs) #[[J],mu] []=!((b.sps++c.sps).map PV.bl,mu):=by let(o1,F):=Cq b f c.pvs [] J ok.2.1 () (by simp only[cv];lia);let(o2,D):=Cq c f [] ([]++b.sps.map PV.bl) o1 ok.2.2 () (by rw[bX,bo,cv];lia);rw[da]at D;rw[F,D];simp[dF]
  show aO (Y:=E1 P mu) ((bG Gz (by show (("while" : Str)== "if" || (("call" : Str)== "if" || false))=M;decide +kernel)).trans ((bG Wa ()).trans (cT ?_)));show jN (aA ((eF (dC (l:=Zs (R (b.pvs++c.pvs))) (dj O O O O ?_) O) j).trans O) O) O ?_
  . show (if -b.pvs+-c.pvs<=100000 then _ else _)=_;rw[aw ()]
  . show ((cf ((b.sps++c.sps).map PV.bl)).map _)=_;rw[show (b.sps++c.sps).map PV.bl=(b.sps++c.sps).map (λb=>PV.bl (id b)) from O,rP,ic,List.map_id];rw[List.any_append,Rows.sps_any,Rows.sps_any];rfl
theorem Cq:∀(rs:Rows)(n:Nat)(T acc:List PV)(o:Option Lc),rs.ok->rs.dep<=n+1->-acc+rs.cnt<=1000->∃o',dF (aC 0) bB (Oc n) (rs.pvs++T) #[[o],mu] acc=dF (aC 0) bB (Oc n) T #[[o'],mu] (acc++rs.sps.map PV.bl)
 |.nil=>λn T acc o _ _ _=>#[o,by simp[Rows.pvs,Rows.sps]]
 |.cons r rs=>λn T acc o ok q z=>by simp only[Rows.dep]at q;simp only[Rows.cnt]at z;let h1:=r.cnt_pos;let i:=adA (mu:=mu) r n ok.1 () ();let(o',j):=Cq rs n T (acc++[.bl r.sp]) (zS r.pv) ok.2 () (by rw[bX];simp only[bi,cv];lia);show#[o',fY O (aR O O O O i) () (j.trans ?_)];simp[Rows.sps]
end
abbrev vT:=eB Aj (aj (bU (dh (aa 4) bJ) 1 [] (aC 0) bB (Oc 40)) ao)
def abi{rs:Rows}{i o1 o2 o3:Option Lc}(ok:rs.ok)(z:rs.dep<=41)(D:rs.cnt<=1000):tT vT qW #[[i,o1,o2,o3,zL rs.pvs],mu]=!(rs.sp,#[[i,o1,o2,o3,zL rs.pvs],mu]):=by let(o',j):=Cq rs 40 [] [] J ok z ∅;rw[da,eK]at j;let q:=j;show jU (l:=Zp (.bl rs.sp)) (jN (aA ((eF () q).trans O) O) O ?_) O;show ((cf (rs.sps.map PV.bl)).map _)=_;rw[show rs.sps.map PV.bl=rs.sps.map (λb=>PV.bl (id b)) from O,rP,ic,List.map_id];rw[Rows.sps_any]
def ag.inn:ag->Nat
 |.wh _ b=>b.cnt
 |.iff _ b c=>b.cnt+c.cnt
 |_=>0
def Rows.inn:Rows->Nat
 |.nil=>0
 |.cons r rs=>r.inn+rs.inn
theorem Rows.inn_eq:∀rs:Rows,-rs.pvs+rs.inn=rs.cnt
 |.nil=>rfl
 |.cons r rs=>by let i:=Rows.inn_eq rs;simp only[Rows.pvs,Rows.inn,Rows.cnt,bi];cases r<;>simp only[ag.inn,ag.cnt]<;>lia
abbrev SE(X:PV)(z:Nat)(o2:Option Lc)(mu:Mu):Ev:=#[[zS X,zI (z:Nat),o2],mu]
abbrev Tj:TF:=tT D3 aY
def wS:aJ (aa 2) (af 0) (SE X z (zS (ZB (ZH w::ps))) mu)=!(Zp (ZH w),SE X z (zS (ZB (ZH w::ps))) mu):=
 dG O O O O (λn h=>by cases h) (by show (fO (PV.str w::ps) 0).map _=_;rw[iE];rfl)
def Zw:Tj (SE X z (zS (ZB (ZH w::ps))) mu)=!(jO w,SE X z (zS (ZB (ZH w::ps))) mu):=
 jU (bC wS O O) O
abbrev v3(n:Nat):EF:=aN (dW n) (aj (aa 0) ao)
abbrev v_(n:Nat):SF:=cC Tj
 (aL 1 (au bf (aa 1) (eB DG (aj (bU D2 1 [] (aC 0) bB (v3 n)) ao))))
 bR
def Kv{rs:Rows}(hl:rs.cnt<=1000)(h:∃o2,eN (aC 2) (v_ n) rs.pvs (SE (R rs.pvs) (-rs.pvs) J mu)=!(.nx (SE (R rs.pvs) (-rs.pvs+rs.inn) o2 mu))):dW (n+1) [R rs.pvs] mu=!(Zp (ZI (rs.cnt:Nat)),mu):=by let(o2,h):=h;rw[Rows.inn_eq]at h;show aO (Y:=#[[zL rs.pvs,J,o2],mu]) ?_;show aH O (aH () O)
def abj(h:a<=1000):DG [R [ZI (a:Nat)]]=zI (a:Nat):=by
 have h1:FQ [PV.int (a:Nat)]=![(a:Int)]:=O;have e:[(a:Int)].sum=(a:Int):=by simp
 unfold DG;unfold XX;dsimp only;rw[h1,bq,e,aw ∅]
def abk(h:a+b<=2000):DG [R [ZI (a:Nat),ZI (b:Nat)]]=zI ((a+b:Nat):Int):=by
 have h1:FQ [PV.int (a:Nat),PV.int (b:Nat)]=![(a:Int),(b:Int)]:=O;have e:[(a:Int),(b:Int)].sum=((a+b:Nat):Int):=by simp
 unfold DG;unfold XX;dsimp only;rw[h1,bq,e,aw ∅]
mutual
theorem adD:∀(r:ag)(n:Nat)(X:PV)(z:Nat),r.ok->r.dep<=n->r.cnt<=1000->v_ n (SE X z (zS r.pv) mu)=!(.nx (SE X (z+r.inn) (zS r.pv) mu))
 |.leaf x ps=>λn X z ok j D=>by
  have t:Tj (SE X z (!(Zp (ag.leaf x ps).pv)) mu)=!(M,SE X z (!(Zp (ag.leaf x ps).pv)) mu):=by rw[<-Hu ok.1];show Zw
  show(lU t).trans O
 |.call b m Q=>λn X z ok j D=>by
  have t:Tj (SE X z (!(Zp (ag.call b m Q).pv)) mu)=!(M,SE X z (!(Zp (ag.call b m Q).pv)) mu):=by rw[show M=jO "call" by decide +kernel];show Zw
  show(lU t).trans O
 |.wh e b=>λn X z ok j D=>by
  simp only[ag.cnt]at D;simp only[ag.dep]at j;obtain⟨m,rfl⟩:∃m,n=m+1:=#[n-1,()];let N:=Kv () (xQ (mu:=mu) b m (R b.pvs) (-b.pvs) J ok.2 () ());have i:dF (aC 0) bB (v3 (m+1)) [R b.pvs] #[[J],mu] []=!([ZI (b.cnt:Nat)],mu):=
   fY O (aR O O O O N) () O
  show bu (dj (m:=Zp (ZI (b.cnt:Nat))) O O (jN (aA ((eF (dC O O) i).trans O) O) O ?_) O ?_) O O
  . show abj ()
  . rfl
 |.iff e b c=>λn X z ok j D=>by
  simp only[ag.cnt]at D;simp only[ag.dep]at j;obtain⟨m,rfl⟩:∃m,n=m+1:=#[n-1,()];let N:=Kv () (xQ (mu:=mu) b m (R b.pvs) (-b.pvs) J ok.2.1 () ());let F:=Kv () (xQ (mu:=mu) c m (R c.pvs) (-c.pvs) J ok.2.2 () ());have i:dF (aC 0) bB (v3 (m+1)) [R b.pvs,R c.pvs] #[[J],mu] []=!([ZI (b.cnt:Nat),ZI (c.cnt:Nat)],mu):=
   fY O (aR O O O O N) ()
    (fY O (aR O O O O F) (by simp only[eK,bi,cv];lia) O)
  show(lR (Zw.trans (by rw[show jO "if"=G by decide +kernel]))).trans ?_;show bu (dj (m:=Zp (ZI ((b.cnt+c.cnt:Nat):Int))) O O (jN (aA ((eF (dC O O) i).trans O) O) O ?_) O ?_) O O
  . show abk ()
  . rfl
theorem xQ:∀(rs:Rows)(n:Nat)(X:PV)(z:Nat)(o2:Option Lc),rs.ok->rs.dep<=n+1->rs.cnt<=1000->∃p2,eN (aC 2) (v_ n) rs.pvs (SE X z o2 mu)=!(.nx (SE X (z+rs.inn) p2 mu))
 |.nil=>λn X z o2 _ _ _=>#[o2,O]
 |.cons r rs=>λn X z o2 ok q D=>by
  simp only[Rows.dep]at q;simp only[Rows.cnt]at D;let i:=adD (mu:=mu) r n X z ok.1 () ();have hi:r.inn<=r.cnt:=by cases r<;>simp only[ag.inn,ag.cnt]<;>lia
  let(p2,j):=xQ rs n X (z+r.inn) (zS r.pv) ok.2 () ();show#[p2,gw O i (j.trans ?_)];simp only[Rows.inn,Nat.add_assoc]
end
def size_eq{rs:Rows}(ok:rs.ok)(hd:rs.dep<=40)(hc:rs.cnt<=1000):dW 40 [R rs.pvs] mu=!(Zp (ZI (rs.cnt:Nat)),mu):=
 Kv hc (xQ rs 39 _ _ J ok () hc)
def Rows.dl:Rows->Rows
 |.nil=>.nil
 |.cons _ .nil=>.nil
 |.cons r (.cons r' rs)=>.cons r (Rows.cons r' rs).dl
def jj:ag->Rows->ag
 |r,.nil=>r
 |_,.cons r' rs=>jj r' rs
theorem Bg:∀(r:ag)(rs:Rows),(Rows.cons r rs).pvs=(Rows.cons r rs).dl.pvs++[(jj r rs).pv]
 |r,.nil=>rfl
 |r,.cons i rs=>by show r.pv::(Rows.cons i rs).pvs=r.pv::((Rows.cons i rs).dl.pvs++[(jj i rs).pv]);rw[Bg i rs]
theorem Od:∀(r:ag)(rs:Rows)(s:Nat),(Rows.cons r rs).lnum s=s+(Rows.cons r rs).dl.cnt
 |r,.nil=>λs=>rfl
 |r,.cons i rs=>λs=>by show (Rows.cons i rs).lnum (s+r.cnt)=s+(r.cnt+(Rows.cons i rs).dl.cnt);rw[Od i rs];lia
theorem Tn:∀(r:ag)(rs:Rows),(Rows.cons r rs).ok->(Rows.cons r rs).dl.ok/\(jj r rs).ok
 |r,.nil=>λh=>#[True.intro,h.1]
 |r,.cons i rs=>λh=>by let(h1,h2):=Tn i rs h.2;show#[#[h.1,h1],h2]
theorem Oe:∀(r:ag)(rs:Rows),(Rows.cons r rs).dl.dep<=(Rows.cons r rs).dep/\(jj r rs).dep+1<=(Rows.cons r rs).dep
 |r,.nil=>by simp only[Rows.dl,jj,Rows.dep];lia
 |r,.cons i rs=>by let(h1,h2):=Oe i rs;have e:(Rows.cons r (.cons i rs)).dep=max (r.dep+1) (Rows.cons i rs).dep:=O;have j:(Rows.cons r (.cons i rs)).dl.dep=max (r.dep+1) (Rows.cons i rs).dl.dep:=O;have q:jj r (.cons i rs)=jj i rs:=O;rw[e,j,q];lia
theorem Og:∀(r:ag)(rs:Rows),(Rows.cons r rs).dl.cnt+(jj r rs).cnt=(Rows.cons r rs).cnt
 |r,.nil=>by simp[Rows.dl,jj,Rows.cnt]
 |r,.cons i rs=>by let h:=Og i rs;show r.cnt+(Rows.cons i rs).dl.cnt+(jj i rs).cnt=r.cnt+(Rows.cons i rs).cnt;lia
def Oh:rm (l++[x]) J (!(-1))=l:=by
 unfold rm HT.sIx;simp;have:(-1+((-l:Int)+1)).toNat=-l:=()
 grind
abbrev VE(p:PV)(k:Nat)(acc:List PV)(o3 o4:Option Lc)(mu:Mu):Ev:=#[[zS p,zI (k:Nat),zO acc,o3,o4],mu]
def wV{o3 o4:Option Lc}:aJ (aa 0) (af 0) (VE (ZB (ZH w::ps)) k acc o3 o4 mu)=!(Zp (ZH w),VE (ZB (ZH w::ps)) k acc o3 o4 mu):=
 dG O O O O (λn h=>by cases h) (by show (fO (PV.str w::ps) 0).map _=_;rw[iE];rfl)
abbrev Fd(f:Nat):SF:=aF (cC (tT vT qW)
 (aL 2 (au bf (aa 2) (aN (eQ f) D7)))
 bR)
 D6
abbrev lbT(f:Nat):SF:=aF (cC on
 D5
 bR)
 (aF (cC mN
 (aF (aL 3 (au bf (aa 1) (af 1)))
 (fX D4 (aC 4)
 (Fd f)))
 bR)
 (gZ 2))
def Kw{r:ag}{o3 o4:Option Lc}(hk:k<256)(ht:lbT f (VE r.pv k [ZH (gs k)] J J mu)=!(.rt (Zs (R L)) #[[zS r.pv,zI (k:Nat),J,o3,o4],mu])):
 eQ (f+1) [r.pv,ZI (k:Nat)] mu=!(Zs (R L),mu):=by
 let(z,D,j):=Gq k hk;show aO (Y:=#[[zS r.pv,zI (k:Nat),J,o3,o4],mu]) ?_;show aH (bu (pQ (ls:=[Zp (ZH (gs k))]) (aA (dj O O (jN O O j) O ?_) O) O O) O O) ht;show (if -("at " : Str)+-(lF k)<=100000 then _ else _)=_;rw[aw ()];rfl
def Rw{rs:Rows}(ok:rs.ok)(hd:rs.dep<=38)(hc:rs.cnt<=900)(hz:-acc+-(rs.lbt s)<=1000)
 (ih:∀r i,rs=.cons r i->eQ f [(jj r i).pv,ZI (rs.lnum s:Nat)] mu=!(Zs (R (c7 (rs.lbt s))),mu)):
 Fd f (VE p k acc (zI (s:Nat)) (zL rs.pvs) mu)=!(.nx (VE p k (acc++c7 (if rs.sp then rs.lbt s else [])) (zI ((s+rs.cnt:Nat):Int)) (zL rs.pvs) mu)):=by
 let E:_:=VE p k acc (zI (s:Nat)) (zL rs.pvs) mu;have t:tT vT qW E=!(rs.sp,E):=abi ok () ();have last:∀j:List PV,aL 3 U6 (VE p k j (zI (s:Nat)) (zL rs.pvs) mu)=!(.nx (VE p k j (zI ((s+rs.cnt:Nat):Int)) (zL rs.pvs) mu)):=λj=>by let D:_:=VE p k j (zI (s:Nat)) (zL rs.pvs) mu;show bu (dj O O (aR O O O O (size_eq ok () ())) O ?_) O O;rfl
 cases z:rs.sp with
 |false=>
  rw[z]at t;show(bG t O).trans ((last acc).trans ?_);simp[c7]
 |true=>
  rw[z]at t;cases rs with
  |nil=>cases z
  |cons r i=>
   let Q:=ih r i O;let(N,k2):=Tn r i ok;let(k3,k4):=Oe r i;let k5:=Og r i;let k6:=Od r i s;let F:Ev:=#[[zS p,zI (k:Nat),zL acc,zI (s:Nat),zS (R (Rows.cons r i).pvs)],mu];have ix:aJ (aa 4) (jq (af 1)) F=!(Zp (jj r i).pv,F):=by show dG O O O O (λn h=>by cases h) ?_;show (fO (Rows.cons r i).pvs (-1)).map _=_;rw[Bg,qN];rfl
   have sl:mF (aa 4) eU (cM (jq (af 1))) F=!(Zs (R (Rows.cons r i).dl.pvs),F):=by show some (Lc.own (R (rm (Rows.cons r i).pvs J (!(-1)))),F)=_;rw[Bg,Oh]
   let sz:=size_eq (mu:=mu) N () ();have num:au bf (aa 3) VA F=!(Zp (ZI ((Rows.cons r i).lnum s:Nat)),F):=by show dj O O (aR (aA sl O) O O O sz) O ?_;rw[k6,Int.natCast_add];rfl
   show(nA t O ?_).trans (last _);show bu (l:=Zs (R (acc++c7 ((Rows.cons r i).lbt s)))) (dj O O (aR (aA ix (aA num O)) O O O Q) O ?_) O O;show (if -acc+-(c7 ((Rows.cons r i).lbt s))<=100000 then _ else _)=_;rw[aw ∅]
mutual
theorem adE:∀(r:ag)(f k:Nat),r.ok->r.dep<=f->r.dep<=37->k+r.cnt<=256->r.bl<=900->eQ f [r.pv,ZI (k:Nat)] mu=!(Zs (R (c7 (r.bt k))),mu)
 |.leaf x ps=>λf k ok hd oB hc hb=>by obtain⟨m,rfl⟩:∃m,f=m+1:=#[f-1,by simp only[ag.dep]at hd;lia];let((h1,h2,h3),_):=ok;show Kw () ((bG (bw wV) h3).trans ((bG (bw wV) h1).trans O))
 |.call x m as=>λf k ok hd oB hc hb=>by
  obtain⟨f,rfl⟩:∃m,f=m+1:=#[f-1,by simp only[ag.dep]at hd;lia];let(_,hn,_):=ok;let P:_:=(ag.call x m as).pv;show Kw () ((nA (Y2:=VE P k [ZH (gs k),ZH ("leave " ++ m)] J J mu) (bw wV) () ?_).trans ((bG (bw wV) ()).trans O));show pR (l:=Zp (ZH ("leave " ++ m))) (Y1:=VE P k [ZH (gs k)] J J mu) O ?_ O O ∅ O;show dj O O O O ?_;show (if -("leave " : Str)+-m<=100000 then _ else _)=_;have h6:-("leave " : Str)=6:=by decide +kernel
  rw[aw ()]
 |.wh x b=>λf k ok hd oB hc hb=>by simp only[ag.cnt]at hc;obtain⟨m,rfl⟩:∃m,f=m+1:=#[f-1,by simp only[ag.dep]at hd;lia];show Kw () ((bG (bw wV) ()).trans ((bG (bw wV) ()).trans O))
 |.iff x b c=>λf k ok hd oB hc hb=>by
  simp only[ag.cnt]at hc;simp only[ag.dep]at hd oB;simp only[ag.bl]at hb;obtain⟨m,rfl⟩:∃m,f=m+1:=#[f-1,()];let P:_:=(ag.iff x b c).pv;let A0:List PV:=[ZH (gs k)];let A1:_:=A0++c7 (if b.sp then b.lbt (k+1) else []);let A2:_:=A1++c7 (if c.sp then c.lbt (k+1+b.cnt) else []);let l1:=Rows.lbt_len b (k+1);let l2:=Rows.lbt_len c (k+1+b.cnt);have ox:-A1<=1+b.bl:=by simp only[A1,A0,bX,bo,bi];split<;>(try simp only[cv])<;>lia
  let e1:=Rw (k:=k) (p:=P) (acc:=A0) (s:=k+1) ok.2.1 () () (by simp only[A0,bi,cv];lia) λr rs e=>by have:=Cr (mu:=mu) b m (k+1) ok.2.1 () () () ();show this r rs e
  let e2:=Rw (k:=k) (p:=P) (acc:=A1) (s:=k+1+b.cnt) ok.2.2 () () () λr rs e=>by have:=Cr (mu:=mu) c m (k+1+b.cnt) ok.2.2 () () () ();show this r rs e
  let o3:Option Lc:=zI ((k+1+b.cnt+c.cnt:Nat):Int);let o4:Option Lc:=zL c.pvs;show Kw (o3:=o3) (o4:=o4) () ((bG (bw wV) ()).trans ((nA (Y2:=VE P k A2 o3 o4 mu) (bw wV) () ?_).trans ?_))
  . show aH (bu (l:=Zp (ZI ((k+1:Nat):Int))) (dj O O O O (by rw[Int.natCast_add];rfl)) O O) ?_;show eO (dC O O) ?_;show Np O e1 O e2
  . have eA:A2=c7 ((ag.iff x b c).bt k):=by simp only[A2,A1,A0,ag.bt,c7,cy,dP,j1]
    rw[<-eA];rfl
theorem Cr:∀(rs:Rows)(f s:Nat),rs.ok->rs.dep<=f+1->rs.dep<=38->s+rs.cnt<=256->rs.bl<=900->∀r m5,rs=.cons r m5->eQ f [(jj r m5).pv,ZI (rs.lnum s:Nat)] mu=!(Zs (R (c7 (rs.lbt s))),mu)
 |.nil=>λf s _ _ _ _ _ r m5 e=>by cases e
 |.cons r .nil=>λf s ok hd wa hc hb _ _ e=>by cases e;simp only[Rows.dep,Rows.cnt,Rows.bl]at hd wa hc hb;show adE r f s ok.1 () () () ()
 |.cons r (.cons r' rs)=>λf s ok hd wa hc hb _ _ e=>by
  cases e;let sQ:=d4 (Nat.le_max_right _ _) hd;let h38':=d4 (Nat.le_max_right _ _) wa;let oe:=d4 (Nat.le_max_right _ _) hb;have l5:s+r.cnt+(Rows.cons r' rs).cnt<=256:=by have:(Rows.cons r (.cons r' rs)).cnt=r.cnt+(Rows.cons r' rs).cnt:=O;lia
  show Cr (.cons r' rs) f (s+r.cnt) ok.2 sQ h38' l5 oe r' rs O
end
end
noncomputable section
variable [HK][FN]
theorem uG{α:Type}(g:α->PV)(q:List α->Ev->Prop):∀(l i:List α)(Y:Ev),q i Y->(∀j x,-j< -i+-l->x∈l->∀Y,q j Y->∃Y1 Y2,b (g x) Y=!Y1/\body Y1=!(.nx Y2)/\q (j++[x]) Y2)->∃Y',eN b body (l.map g) Y=!(.nx Y')/\q (i++l) Y'
 |[]=>λi Y h _=>#[Y,O,by rw[da];show h]
 |x::l=>λi Y h hs=>by simp only[bi]at hs;let(Y1,Y2,F,N,h2):=hs i x () be Y h;let(Y',Q,z):=uG g q l (i++[x]) Y2 h2 λp y W D=>hs p y ∅ (cw _ D);show#[Y',gw F N Q,by rw[cx]at z;show z]
abbrev S3:=Str×Str×Str
noncomputable abbrev mV (y:S3):PV:=ZB [ZH y.1,ZH y.2.1,ZH y.2.2]
def pK{α β:Type}(f:α->List β)(l:List α)(x:α):(l++[x]).flatMap f=l.flatMap f++f x:=by simp
def vB(x:Str)(e:PV):List S3:=(jy e).map λb=>("value",b,nZ x)
def GC(h:XG e):-(vB x e)<=9:=by unfold vB;rw[bo];show uF h
def gB(k:Nat)(x:Str)(es:List PV):List S3:=("done","at " ++ lF k,nZ x)::es.flatMap (vB x)
def Zx(h:aa i Y=!(Zp (ZH x),Y))(j:-x<=100):nW "box " (aa i) Y=!(Zp (ZH (nZ x)),Y):=
 Ga h (aw ()) (by rw[HD];lia)
def En(hk:k<256)(q:-x<=100)(he:∀e∈es,XG e)(Q:-es<=26):lr [ZI (k:Nat),ZH x,R es] mu=!(Zs (R ((gB k x es).map mV)),mu):=by
 let D:S3:=("done","at " ++ lF k,nZ x);let E:List S3->Option Lc->Ev:=λA o=>#[[zI (k:Nat),zT x,zL es,zO ((D::A).map mV),o],mu];let(Y',F,o,rfl,_):=uG (b:=aC 4) (body:=gb 3 BO) id (λi Y=>∃o,Y=E (i.flatMap (vB x)) o/\-(i.flatMap (vB x))<=9*-i) es [] (E [] J) #[J,O,br _] λi e z j Y z45=>by
  let(o,fH,hz):=z45
  subst fH;simp only[cv]at z;let N:=GC (x:=x) (he e j);show#[E (i.flatMap (vB x)) (zS e),E ((i++[e]).flatMap (vB x)) (zS e),O,?_,_,O,by rw[pK,bX,bX];simp only[bi];lia];rw[pK];show jZ O (ww (r:=λb=>mV ("value",b,nZ x)) (aR O O O O (yS (he e j) mu)) O (by have:=uF (he e j);lia) O O λb _=>?_) O O ?_ ?_
  . show dm (aA O (aA O (aA (Zx O q) O))) O O
  . have:=uF (he e j);simp only[bo,bi]at this hz ⊢;lia
  . show (#[[_,_,_,!(Zs (R ((D::i.flatMap (vB x)).map mV++(jy e).map λb=>mV ("value",b,nZ x)))),_],mu]:Ev)=#[[_,_,_,zO ((D::(i.flatMap (vB x)++vB x e)).map mV),_],mu];unfold vB;simp only[dP,cy,fE];rfl
 rw[List.map_id,eK]at F;show aO (Y:=#[[zI (k:Nat),zT x,zL es,J,o],mu]) (aH (bu (pQ (aA (dm (aA O (aA (tG O hk ()) (aA (Zx O q) O))) O O) O) O O) O O) (aH () O))
def Wb(h:aa i Y=!(Zp (ZI (k:Nat)),Y))(hk:k<256)(q:-c<=10):au bf (bg c) (eB gp (aj (aa i) ao)) Y=!(Zp (ZH (c++lF k)),Y):=by let(_,h2,j):=Gq k hk;show dj O O (jN (aA h O) O j) O (Be ())
def adF(h:aa i Y=!(Zp (ZH x),Y))(j:-x<=100):au bf (bg "box ") (aa i) Y=!(Zp (ZH (nZ x)),Y):=
 dj O O h O (Be (by rw[HD];lia))
def Tp:∀y∈gB k x es,(y.1== "turns")=M:=λy i=>by
 obtain rfl|i:=a_.mp i
 . show (("done" : Str)== "turns")=M;decide +kernel
 . let(e,_,q):=mem_flatMap.mp i;let(b,_,rfl):=ck.mp q;show (("value" : Str)== "turns")=M;decide +kernel
abbrev dT(k:Nat)(y:Str):PV:=ZB [ZI (k:Nat),ZI 0,ZH "turns",ZH y,ZH ("at " ++ lF k)]
abbrev LD(k:Nat)(r:PV)(L:List Str)(o3 o4:Option Lc)(mu:Mu):Ev:=#[[zI (k:Nat),zS r,zO (L.map (dT k)),o3,o4],mu]
def adG(ok:(ag.wh x b).ok)(hd:(ag.wh x b).dep<=10)(hk:k+(ag.wh x b).cnt<=256):ut [ZI (k:Nat),(ag.wh x b).pv] mu=!(Zs (R (((zA x).map nZ++b.lbt (k+1)).map (dT k))),mu):=by
 simp only[ag.cnt]at hk;simp only[ag.dep]at hd;let(n,h1,h2,h3,h4):=xP ok.1;let r:_:=(ag.wh x b).pv;let ZN:_:=(zA x).map nZ;let b1:=b.lbt_len (k+1);have b2:b.bl<=47:=by
  let h2:=b.bl_le;let m:=pI (a:=(b.dep-2)/2) (b:=4) ()
  lia
 let F0:Ev:=#[[zI (k:Nat),zS r,J,J,J],mu];have s2:aL 2 va F0=!(.nx (LD k r ZN J J mu)):=by show bu (Y1:=F0) ?_ O O;rw[show ZN.map (dT k)=(zA x).map λy=>dT k (nZ y) from fE ..];show ww (aR (aA (dG (p:=r) O O O O nt O) O) O O O (Yw h1 40 mu () ())) O () O O λy hy=>dm (aA O (aA O (aA O (aA (adF O (h4 y hy)) (aA (Wb O () ()) O))))) O O
 let B3:Option Lc:=zL b.pvs;have s3:aL 3 (aJ (aa 1) (af 2)) (LD k r ZN J J mu)=!(.nx (LD k r ZN B3 J mu)):=bu (dG O O O O nt O) O O;have t3:tT UH aY (LD k r ZN B3 J mu)=!(not b.pvs.isEmpty,LD k r ZN B3 J mu):=Q8 O;cases b with
 |nil=>
  rw[show Rows.nil.lbt (k+1)=[] from O,da];show aO (Y:=#[[zI (k:Nat),zS r,J,B3,J],mu]) (aH s2 (aH s3 ((bG t3 O).trans O)))
 |cons q rs=>
  let(k1,k2):=Tn q rs ok.2;let(k3,k4):=Oe q rs;let k5:=Og q rs;let k6:=Od q rs (k+1);obtain⟨T,hT⟩:∃T,T=(Rows.cons q rs).lbt (k+1):=#[_,O];let e1:=Cr (mu:=mu) (.cons q rs) 40 (k+1) ok.2 () () () () q rs O;rw[<-hT]at e1 b1 ⊢;let F:_:=LD k r ZN B3 J mu;have ix:aJ (aa 3) (jq (af 1)) F=!(Zp (jj q rs).pv,F):=by show dG O O O O nl ?_;show (fO (Rows.cons q rs).pvs (-1)).map _=_;rw[Bg,qN];rfl
  have sl:mF (aa 3) eU (cM (jq (af 1))) F=!(Zs (R (Rows.cons q rs).dl.pvs),F):=by show some (Lc.own (R (rm (Rows.cons q rs).pvs J (!(-1)))),F)=_;rw[Bg,Oh]
  let sz:=size_eq (mu:=mu) k1 () ();have num:au bf (au bf (aa 0) (af 1)) Ea F=!(Zp (ZI ((Rows.cons q rs).lnum (k+1):Nat)),F):=by show dj (l:=Zp (ZI ((k+1:Nat):Int))) (dj O O O O (by rw[Int.natCast_add];rfl)) O (aR (aA sl O) O O O sz) O ?_;rw[k6,Int.natCast_add];rfl
  let(Y',e2,o,rfl):=uG (b:=aC 4) (body:=jM 2 Ec) PV.str (λpre Y=>∃o,Y=LD k r (ZN++pre) B3 o mu) T [] F #[J,by rw[da]] λpre y hp hy Y z46=>by let(o,eY):=z46;subst eY;simp only[cv]at hp;let Y_:Option Lc:=zT y;show#[LD k r (ZN++pre) B3 Y_ mu,LD k r (ZN++(pre++[y])) B3 Y_ mu,O,?_,_,O];show pR O (dm (aA (Y1:=LD k r (ZN++pre) B3 Y_ mu) O (aA O (aA rfl (aA rfl (aA (Wb rfl () ()) rfl))))) rfl rfl) rfl rfl (by simp only[ZN,bo,bX];lia) ?_;show (#[[_,_,zO ((ZN++pre).map (dT k)++[dT k y]),_,_],mu]:Ev)=#[[_,_,zO ((ZN++(pre++[y])).map (dT k)),_,_],mu];simp;rfl
  rw[eK]at e2;show aO (Y:=#[[zI (k:Nat),zS r,none,B3,o],mu]) (aH s2 (aH s3 ((nA t3 rfl (eO (dC (aR (aA ix (aA num rfl)) rfl rfl rfl e1) rfl) e2)).trans rfl)))
end
noncomputable section
variable [HK][FN]
def map_two{α β γ:Type}(f:α->β)(g:β->γ)(l:List α)(o:List β):(l.map f++o).map g=(l.map λx=>g (f x))++o.map g:=by grind
theorem Zy:∀(xs:List Str)(i:List PV),uW (c7 xs) i=(xs.zip i).map λz=>ZB [ZH z.1,z.2]
 |[],i=>rfl
 |x::xs,[]=>rfl
 |x::xs,a::i=>by show _::uW (c7 xs) i=_;rw[Zy xs i];rfl
def aes(h1:f Y=!(x,Y1))(hx:x.pv=R ps)(h2:g Y1=!(y,Y2))(hy:y.pv=R qs):Km f g Y=!(uW ps qs,Y2):=by unfold Km;rw[h1,bq,h2,bq,hx,hy]
abbrev cB(k:Nat)(z:Str×PV):List S3:=gB k z.1 [z.2]
def Oi(h:XG z.2):-(cB k z)<=10:=by have:=GC (x:=z.1) h;simp[gB];grind
structure Dn(P:Pg)(k:Nat)(e:b9)(B:List S3):Prop where
 lB:-B<=41
 nt:∀y∈B,(y.1== "turns")=false
 told:∀mu n,PA mu n P->qt [.ptr n,.int (k:Nat)] mu=!(.own (.lst (B.map mV)),mu)
def abl:km [ZB [ZH "set",x,e]] mu=!(Zs (R [e]),mu):=
 aO (Y:=E1 (ZB [ZH "set",x,e]) mu) ((bG () ()).trans ((bG () ()).trans ((bG () ()).trans O)))
def abm:km [ZB [ZH "put",x,e,f]] mu=!(Zs (R [e,f]),mu):=
 aO (Y:=E1 (ZB [ZH "put",x,e,f]) mu) ((bG () ()).trans ())
def xR(p:Pl P k e)(i:PA mu n P)(j:g (dw n k [zS e.r.pv,J,J,J] mu)=ZN):aF mP g (dw n k [J,J,J,J] mu)=ZN:=
 aH (bu (kO O O O O (tu i.pl p.at_) i.pl) O O) j
section
variable {P:Pg}{k:Nat}{e:b9}
def adH(p:Pl P k e)(hk:k<256)(j:e.r.pv=ZB [ZH "set",ZH x,a])(q:-x<=100)(i:XG a):Dn P k e (gB k x [a]):=by
 have F:∀y∈[a],XG y:=λy N=>by rw[eR.mp N];show i
 show#[d4 (Oi (z:=(x,a)) i) (),Tp,λmu n D=>?_]
 . show aO (Y:=dw n k [!(Zp (ZB [ZH "set",ZH x,a])),J,J,J] mu) (xR p D ?_);rw[j];show d7 (rZ (bw (pJ O)) ()) () (cT (aR (aA O (aA O (aA (aR O O O O abl) O))) O O O (En hk q F ())))
def adI(p:Pl P k e)(hk:k<256)(D:e.r.pv=ZB [ZH "put",ZH x,a,b])(F:-x<=100)(q:XG a)(j:XG b):Dn P k e (gB k x [a,b]):=by
 have z:∀y∈[a,b],XG y:=λy i=>by
  obtain rfl|i:=a_.mp i
  . show q
  . grind
 let l1:=GC (x:=x) q;let l2:=GC (x:=x) j;show#[by simp[gB];lia,Tp,λmu n N=>?_]
 . show aO (Y:=dw n k [!(Zp (ZB [ZH "put",ZH x,a,b])),J,J,J] mu) (xR p N ?_);rw[D];show d7 (rZ (bw (pJ O)) ()) () (cT (aR (aA O (aA O (aA (aR O O O O abm) O))) O O O (En hk F z ())))
def adJ(p:Pl P k e)(hk:k<256)(er:e.r.pv=ZB [ZH "out",ZH x,a,ZH y])(hx:-x<=100)(F:XG a):∃B,Dn P k e B:=by
 let Q:=uF F;let D:List S3:=[("out","out " ++ lF k,nZ x),("done","at " ++ lF k,nZ x)];let j:Str->S3:=λb=>("let",b,"let " ++ lF k);show#[(jy a).map j++D,by simp only[bX,bo,D,bi,cv]at Q ⊢;lia,λz i=>?_,λmu n pa=>?_]
 . obtain i|i:=cr.mp i
   . let(b,_,rfl):=ck.mp i;show (("let" : Str)== "turns")=M;decide +kernel
   . obtain rfl|i:=a_.mp i
     . show (("out" : Str)== "turns")=M;decide +kernel
     . rw[eR.mp i];show (("done" : Str)== "turns")=M;decide +kernel
 . let r:PV:=ZB [ZH "out",ZH x,a,ZH y];let E3:Option Lc->Ev:=λo=>dw n k [zS r,o,J,J] mu;show aO (Y:=E3 (zL ((jy a).map λb=>mV (j b)))) (xR p pa ?_);rw[er];show(bG (rZ (bw (pJ O)) ()) ()).trans (d7 (bw (pJ O)) () (aH (bu (ww (Y1:=E3 J) (r:=λb=>mV (j b)) (aR O O O O (yS F mu)) O () O O λb _=>?_) O O) (cT ?_)))
   . show dm (aA O (aA O (aA (tG O hk ()) O))) O O
   . let N:_:=E3 (zL ((jy a).map λb=>mV (j b)));have W:au bf (bg "box ") (aJ (aa 2) (af 1)) N=!(Zp (ZH (nZ x)),N):=dj O O O O (Be (by rw[HD];lia));rw[map_two];show dj O O (pQ (aA (dm (aA O (aA (tG O hk ()) (aA W O))) O O) (aA (dm (aA O (aA (tG O hk ()) (aA W O))) O O) O)) O O) O (Hz (by simp only[bo,bi,cv]at Q ⊢;lia))
def Zz(p:Pl P k e)(hk:k<256)(q:e.r.pv=ZB (ZH w::t))(i:(w== "set")=M/\(w== "put")=M/\(w== "out")=M/\(w== "call")=M):Dn P k e []:=by
 let(h1,h2,z,j):=i;show#[d6 _,λy F=>(by cases F),λmu n D=>?_]
 . show aO (Y:=dw n k [zS (ZB (ZH w::t)),J,J,J] mu) (xR p D ?_);rw[q];show(bG (rZ (bw (pJ O)) (bw (pJ O))) (by rw[h1,h2];rfl)).trans ((bG (bw (pJ O)) z).trans ((bG (bw (pJ O)) j).trans O))
end
end
noncomputable section
variable [HK][FN]
theorem Rx:∀{xs ys:List Str},xs.map (λx=>PV.tup [ZH x,.non])=ys.map (λx=>PV.tup [ZH x,.non])->xs=ys
 |[],[]=>λ_=>rfl
 |[],y::ys=>λh=>by cases h
 |x::xs,[]=>λh=>by cases h
 |x::xs,y::ys=>λh=>by injection h with h1 h2;injection h1 with h1;injection h1 with h1 _;injection h1 with h1;rw[h1,Rx h2]
theorem uM{α β:Type}{f:α->List β}:∀{l:List α},(∀x∈l,-(f x)<=c)->-(l.flatMap f)<=c*-l
 |[]=>λ_=>d6 _
 |x::l=>λh=>by let h1:=h x be;let h2:=uM λy i=>h y (cw _ i);rw[flatMap_cons,bX,bi,Nat.mul_succ];lia
section
variable {P:Pg}{k:Nat}{e:b9}
def abn(h:P.fine)(p:Pl P k e)(hk:k<256)(hF:∀n,FN.fn n->∃f∈P.fns,f.name=n)(er:e.r=.call b m F):∃B,Dn P k e B:=by
 let ok:=p.he.ok;rw[er]at ok;let((x,rfl,hx),hn,ha,hla,N):=ok;let(f,hf,fe):=hF m N;let(xs,ex,lx,sx):=h.ok.pm f hf;let C:S3:=("call","at " ++ lF k,"enter " ++ m);let zs:_:=xs.zip F;have D:∀z∈zs,-z.1<=100/\XG z.2:=λz D=>by let(h1,h2):=iP D;show#[sx _ h1,ha _ h2]
 have lz:-zs<=4:=by show -(xs.zip F)<=4;rw[length_zip];lia
 have l6:-("enter " : Str)=6:=by decide +kernel
 let r:PV:=(ag.call (ZH x) m F).pv;have lB:-(zs.flatMap (cB k))<=10*-zs:=uM λz q=>Oi (D z q).2;show#[C::zs.flatMap (cB k),by simp only[bi];lia,λy j=>?_,λmu n Q=>?_]
 . obtain rfl|j:=a_.mp j
   . show (("call" : Str)== "turns")=M;decide +kernel
   . let(z,_,q):=mem_flatMap.mp j;show Tp y q
 . let(ys,ey,_,_,pe):=V8 Q hf;rw[<-Rx (ex.symm.trans ey),fe]at pe;let E3:List S3->Option Lc->Option Lc->Ev:=λA o q=>dw n k [zS r,zO ((C::A).map mV),o,q] mu;let(Y',e1,o,q,rfl,_):=uG (b:=fC 2 TD) (body:=gb 3 BQ) (λz:Str×PV=>ZB [ZH z.1,z.2]) (λi Y=>∃o q,Y=E3 (i.flatMap (cB k)) o q/\-(i.flatMap (cB k))<=10*-i) zs [] (E3 [] J J) #[J,J,O,br _] λi z hp hm Y qA=>by let(o,q,eY,j):=qA;subst eY;simp only[cv]at hp;let(g1,W):=D z hm;let lc:=Oi (k:=k) W;show#[E3 (i.flatMap (cB k)) (zT z.1) (zS z.2),E3 ((i++[z]).flatMap (cB k)) (zT z.1) (zS z.2),O,?_,_,_,O,by rw[pK,bX,bX];simp only[bi,cv];lia];rw[pK];show jZ O (aR (ps:=[ZI (k:Nat),ZH z.1,R [z.2]]) O O O O (En hk g1 (λy j=>by rw[eR.mp j];show W) (by simp))) O O (by simp only[bo,bi];lia) ?_;rw[<-cy];rfl
   rw[eK,<-Zy]at e1;show aO (Y:=dw n k [zS r,J,o,q] mu) (xR p Q ?_);rw[er];show(bG (rZ (bw (pJ O)) (bw (pJ O))) ()).trans ((bG (bw (pJ O)) ()).trans (d7 (bw (pJ O)) () (aH (bu (pQ (aA (dm (aA O (aA (tG O hk ()) (aA (dj O O O O (Be ())) O))) O O) O) O O) O O) (aH (eO (aes (kO O O O O pe Q.pl) O O O) e1) O))))
def aet(h:P.fine)(p:Pl P k e)(W:∀n,FN.fn n->∃f∈P.fns,f.name=n):∃B,Dn P k e B:=by
 have hk:k<256:=by have:=oX h;have:=p.lt;lia
 let ok:=p.he.ok;cases j:e.r with
 |leaf w ps=>
  rw[j]at ok;have z:e.r.pv=ZB (ZH w::ps):=by rw[j];rfl
  let(_,N):=ok;cases N with
  |set_ q i=>show#[_,adH p hk z q i]
  |put q i Q=>show#[_,adI p hk z q i Q]
  |out y q i=>show adJ p hk z q i
 |call b n as=>show abn h p hk W j
 |wh x b=>show#[_,Zz p hk (w:="while") (by rw[j];rfl) ()]
 |iff x b c=>show#[_,Zz p hk (w:="if") (by rw[j];rfl) ()]
def abo(p:Pl P k e)(hk:k<256):∃A:List (Str×Str),-A<=3/\∀mu n,PA mu n P->j4 [ZA n,ZI (k:Nat)] mu=!(Zs (R (A.map jc)),mu):=by
 have D:∀{mu:Mu}{n:Nat},PA mu n P->∀{g:SF}{ZN:Option Fl},g (dw n k [zS e.r.pv] mu)=ZN->aF mP g (dw n k [J] mu)=ZN:=λ{mu n} j {g ZN} hg=>aH (bu (kO O O O O (tu j.pl p.at_) j.pl) O O) hg;have t:∀{mu:Mu}{n:Nat}{w:Str}{t:List PV},tT Bi aY (dw n k [zS (ZB (ZH w::t))] mu)=!(not (w== "call"),dw n k [zS (ZB (ZH w::t))] mu):=λ{mu n w t}=>Bv (dj (pJ O) O O O O) O O;have q:∀{w:Str}{ps:List PV},e.r.pv=ZB (ZH w::ps)->(w== "call")=M->∃A:List (Str×Str),-A<=3/\∀mu n,PA mu n P->j4 [ZA n,ZI (k:Nat)] mu=!(Zs (R (A.map jc)),mu):=λ{w ps} i hw=>#[[],d6 _,λmu n j=>by show aO (Y:=dw n k [zS (ZB (ZH w::ps))] mu) (D j ?_);rw[i];show d7 t ∅ O]
 let ok:=p.he.ok;cases i:e.r with
 |leaf w ps=>rw[i]at ok;show q (by rw[i];rfl) ok.1.2.2
 |wh x b=>show q (w:="while") (by rw[i];rfl) ()
 |iff x b c=>show q (w:="if") (by rw[i];rfl) ()
 |call b m F=>
  rw[i]at ok;let((x,rfl,W),N,_):=ok;have Q:-("leave " : Str)=6:=by decide +kernel
  let S:List Str:=[nZ m,"at " ++ lF k,"leave " ++ m];show#[S.map λy=>(y,nZ x),by simp[S],λmu n j=>?_];let r:PV:=(ag.call (ZH x) m F).pv;let E3:_:=dw n k [zS r] mu;rw[mm];show aO (Y:=E3) (D j ?_);rw[i];show(bG t ()).trans (cT (ww (Y1:=E3) (dm (aA (dj O O O O (Be (by rw[HD];lia))) (aA (tG O hk ()) (aA (dj O O O O (Be ())) O))) O O) O ∅ O O λy _=>?_));show dm (aA O (aA (dj O O O O (Be (by rw[HD];lia))) O)) O O
end
end
noncomputable section
variable [HK][FN]
abbrev kp(l:List aV):PV:=ZB (l.map wU)
noncomputable abbrev rt (k:Nat) (t:Int) (y:S3):List aV:=[!(.inl (k:Int)),!(.inl t),!(.inr y.1),!(.inr y.2.1),!(.inr y.2.2)]
def JC(l:List aV):Prop:=∃k t y,l=rt k t y
theorem abp:∀k:aV,SQ (wU k)=!k
 |none=>rfl
 |some (.inl _)=>rfl
 |some (.inr _)=>rfl
theorem JD:∀l:List aV,BV (l.map wU)=!l
 |[]=>rfl
 |k::l=>by show ((SQ (wU k)).bind λx=>(BV (l.map wU)).map (x::·))=_;rw[abp,JD l];rfl
theorem JF:∀L:List (List aV),BW (L.map kp)=!L
 |[]=>rfl
 |l::L=>by show ((BV (l.map wU)).bind λx=>(BW (L.map kp)).map (x::·))=_;rw[JD,JF L];rfl
def aeu(h:∀l∈L,JC l):Vu L=G:=by
 cases L with
 |nil=>rfl
 |cons l L=>
  let(k,t,y,rfl):=h l be;unfold Vu;rw[fF,List.all_eq_true];show#[O,λx i=>?_];let(j,z,q,rfl):=h x i;rfl
def Oj(h:f Y=!(l,Y1))(j:l.pv=R (L.map kp))(i:-L<9000)(q:∀l∈L,JC l):sX f Y=!(Zs (R ((jV L).map kp)),Y1):=by unfold sX;rw[h,bq,j];show ((BW (L.map kp)).bind _)=_;rw[JF,bq,aw #[i,aeu q]]
structure RR where
 A0:List (Str×Str)
 T:List Str
 B:List S3
 C:List (Str×Str)
 D:List (Str×Str)
 E:List Str
def RR.A(ZN:RR):List (Str×Str):=ZN.A0++ZN.T.map λy=>(("turns" : Str),y)
structure RR.ok(P:Pg)(k:Nat)(e:b9)(ZN:RR):Prop where
 lA:-ZN.A<=103
 lC:-ZN.C<=3
 lD:-ZN.D<=47
 lE:-ZN.E<=56
 tA:∀mu n,PA mu n P->jH [.ptr n,.int (k:Nat)] mu=!(.own (.lst (ZN.A.map jc)),mu)
 tC:∀mu n,PA mu n P->j4 [.ptr n,.int (k:Nat)] mu=!(.own (.lst (ZN.C.map jc)),mu)
 tD:∀mu n,PA mu n P->lu [.ptr n,.int (k:Nat)] mu=!(.own (.lst (ZN.D.map jc)),mu)
 dn:Dn P k e ZN.B
 kA:∀y∈ZN.A0,(y.1== "turns")=false
 mem:∀y,y∈ZN.T ↔ y∈ZN.E
 du:(∃w t,e.r.pv=.tup (.str w::t)/\(w== "while")=true/\∀mu,ut [.int (k:Nat),e.r.pv] mu=!(.own (.lst (ZN.E.map (dT k))),mu))\/∃w t,e.r.pv=.tup (.str w::t)/\(w== "while")=false/\ZN.E=[]
def rA(k:Nat)(a:Str×Str):List aV:=rt k 0 (a.1,a.2,"at " ++ lF k)
def rC(k:Nat)(a:Str×Str):List aV:=rt k 2 ("back",a.1,a.2)
def rD(k:Nat)(a:Str×Str):List aV:=rt k 3 ("leave",a.1,a.2)
def RR.ks(k:Nat)(ZN:RR):List (List aV):=ZN.A.map (rA k)++(ZN.B.map (rt k 1)++(ZN.C.map (rC k)++ZN.D.map (rD k)))
def RR.is{ZN:RR}:∀l∈ZN.ks k,JC l:=λl i=>by unfold RR.ks at i;simp only[cr,ck]at i;rcases i with ⟨y,_,rfl⟩|⟨y,_,rfl⟩|⟨y,_,rfl⟩|⟨y,_,rfl⟩<;>show#[_,_,_,O]
def adK(h:P.fine)(hF:∀n,FN.fn n->∃f∈P.fns,f.name=n):∃f:Nat->RR,∀k,k< -P.es->∃e,(f k).ok P k e/\P.rws[k]?=!e.r:=by
 show Classical.axiomOfChoice (r:=λk ZN=>k< -P.es->∃e,RR.ok P k e ZN/\P.rws[k]?=!e.r) λk=>?_;by_cases hk:k< -P.es
 . let(e,p,er):=Ku h hk;let hl:=oX h;let(A,T,lA,lT,N,i,tA):=YC h p;let(B,dn):=aet h p hF;let(C,lC,tC):=abo p ();let(D,Q,tD):=YD h p;have l1:-(A++T.map λy=>(("turns" : Str),y))<=103:=by rw[bX,bo];lia
   obtain⟨x,b,ex,i⟩|⟨w,t,ew,hw,i⟩:=i
   . let ok:=p.he.ok;let F:=p.he.dp;let W:=yQ h p.he;rw[ex]at ok F W;let(n,h1,h2,h3,h4):=xP ok.1;let b1:=b.lbt_len (k+1);have b2:b.bl<=47:=by
      let h2:=b.bl_le;simp only[ag.dep]at F;let m:=pI (a:=(b.dep-2)/2) (b:=4) ()
      lia
     have hm:∀y,y∈T ↔ y∈(zA x).map nZ++b.lbt (k+1):=λy=>by
      rw[i,cr,cr];show or_congr_left ?_;simp only[ck];constructor
      . rintro⟨z,j,rfl⟩;show#[z,Hy.mp j,O]
      . rintro⟨z,j,rfl⟩;show#[z,Hy.mpr j,O]
     show#[#[A,T,B,C,D,(zA x).map nZ++b.lbt (k+1)],λ_=>#[e,#[l1,lC,Q,by show -((zA x).map nZ++b.lbt (k+1))<=56;rw[bX,bo];lia,tA,tC,tD,dn,N,hm,Zl #["while",[x,R b.pvs],by rw[ex];rfl,by decide +kernel,λmu=>by rw[ex];show adG ok F W]],er]]
   . show#[#[A,T,B,C,D,[]],λ_=>#[e,#[l1,lC,Q,d6 _,tA,tC,tD,dn,N,λy=>by rw[i],YY #[w,t,ew,hw,O]],er]]
 . show#[#[[],[],[],[],[],[]],λq=>absurd q hk]
abbrev ruB:SF:=(aF B7
 (aF B8
 (aF B2
 B6)))
abbrev RU(p:PV)(n:Nat)(L:List (List aV))(o:Option Lc)(mu:Mu):Ev:=#[[zS p,zS (ZA n),zO (L.map kp),o],mu]
def Ol{α:Type}(f:α->List aV)(l:List α):(l.map λa=>kp (f a))=(l.map f).map kp:=by rw[fE];rfl
def GD(h:f (RU p n L o mu)=!(Zs (R ps),RU p n L o mu))(e:ps=L'.map kp)(hz:-L+-L'<=100000):gb 2 f (RU p n L o mu)=!(.nx (RU p n (L++L') o mu)):=by subst e;show jZ O h O O ∅ ?_;show (#[[_,_,zO (L.map kp++L'.map kp),_],mu]:Ev)=#[[_,_,zO ((L++L').map kp),_],mu];rw[cy]
def YF(h:P.fine){f:Nat->RR}(hf:∀k,k< -P.es->∃e,(f k).ok P k e/\P.rws[k]?=!e.r)(mu:Mu):∃F,Hi [P.pv] mu=!(Zs (R ((jV ((List.range (-P.es)).flatMap λk=>(f k).ks k)).map kp)),F):=by
 let(d,B,hd,ei):=WB h.ok mu;let i:_:=mu++some (gf "Plan" (Q0 P.es (-mu+1) (nG d)))::B;have z:PA i (-mu) P:=#[_,_,Td,hd];let hl:=oX h;let g:Nat->List (List aV):=λk=>(f k).ks k;let E:_:=RU P.pv (-mu);let(Y',e1,o,rfl,l1):=uG (b:=aC 3) (body:=ruB) (λk:Nat=>ZI (k:Nat)) (λj Y=>∃o,Y=E (j.flatMap g) o i/\-(j.flatMap g)<=194*-j) (range (-P.es)) [] (E [] J i) #[J,O,br _] λj k hp Q Y qB=>by
  let(o,fH,N):=qB
  subst fH;simp only[cv,fy]at hp;let(e,ZN,_):=hf k ∅;have hk:k<256:=by have:=mem_range.mp Q;lia
  let K:Option Lc:=zI (k:Nat);let L:_:=j.flatMap g;let lA:=ZN.lA;let lB:=ZN.dn.lB;let lC:=ZN.lC;let lD:=ZN.lD;have lk:-((f k).ks k)<=194:=by unfold RR.ks;simp only[bX,bo];lia
  show#[E L K i,E ((j++[k]).flatMap g) K i,O,?_,_,O,by rw[pK,bX,bX];simp only[bi,cv];lia];rw[pK];show _=!(Fl.nx (E (L++(f k).ks k) K i));unfold RR.ks;rw[<-cx,<-cx,<-cx];show aH (GD (Th (r:=λa=>kp (rA k a)) (aR O O O O (ZN.tA i _ z)) O () O O λa _=>?_) (Ol _ _) (by rw[bo];lia)) ?_
  . show dm (aA O (aA O (aA O (aA O (aA (tG O hk ()) O))))) O O
  show aH (GD (afi (r:=λa=>kp (rt k 1 a)) (aR O O O O (ZN.dn.told i _ z)) O () O O λa _=>O) (Ol _ _) (by simp only[bX,bo];lia)) ?_;show aH (GD (Th (r:=λa=>kp (rC k a)) (aR O O O O (ZN.tC i _ z)) O () O O λa _=>O) (Ol _ _) (by simp only[bX,bo];lia)) ?_;show GD (Th (aR O O O O (ZN.tD i _ z)) O () O O λa _=>O) (Ol _ _) (by simp only[bX,bo];lia)
 rw[eK]at e1 l1;rw[fy]at l1;show#[i,aO (Y:=#[[zS P.pv,zS (ZA (-mu)),zL (((List.range (-P.es)).flatMap g).map kp),o],i]) ?_];show aH (bu (V_ O O ei) O O) (aH O (aH (eO (dC (kO O O O O (Ti z.pl ()) z.pl) O) e1) (cT (Oj O O (by show -((List.range P.es.length).flatMap g)<9000;lia) λl D=>?_))));let(k,_,q):=mem_flatMap.mp D;show RR.is l q
end
noncomputable section
variable [HK]
section
variable [FN]
abbrev LW(S P:PV)(a2 a3 a4 a5 a6 a7 a8 a9 jf:Option Lc)(mu:Mu):Ev:=#[[zS S,zS P,a2,a3,a4,a5,a6,a7,a8,a9,jf],mu]
abbrev wb:SF:=Bw 2 uj
def Ry:MA (mu++[!(R acc)]) (-mu) acc=mu++[!(R acc)]:=Te
def abq{rs:Rows}(ok:rs.ok)(z:rs.dep<=40)(D:-acc+rs.cnt<=1000):∃q,wb (LW S P (zO acc) (zI (k:Nat)) a4 a5 a6 (zL rs.pvs) a8 a9 jf mu)=!(.nx (LW S P (zO (acc++gm k rs.rws)) (zI ((k+rs.cnt:Nat):Int)) a4 a5 a6 (zL rs.pvs) a8 a9 jf q)):=by
 let j:Mu:=mu++[!(R acc)];have lt:-mu< -j:=by simp[j]
 let e:=VL (k:=k) lt ok z D;rw[Ry]at e;let i:_:=MA j (-mu) (acc++gm k rs.rws);show#[i.set (-mu) J,?_];have st:wQ 2 (aL 3 (aN (fL 40) (aj (aa 7) (aj (aa 3) (aj (aa 2) ao))))) (LW S P (zO acc) (zI (k:Nat)) a4 a5 a6 (zL rs.pvs) a8 a9 jf mu)=!(.nx (LW S P (zS (ZA (-mu))) (zI ((k+rs.cnt:Nat):Int)) a4 a5 a6 (zL rs.pvs) a8 a9 jf i)):=by show aL 3 _ (LW S P (zS (ZA (-mu))) (zI (k:Nat)) a4 a5 a6 (zL rs.pvs) a8 a9 jf j)=_;show bu (aR O O O O e) O O
 unfold wb Bw uj;rw[st,bq];show (match i[-mu]? with |some (!p)=>some (Ev.mk _ _) |_=>J).map _=_;rw[show i[-mu]?=some (!(R (acc++gm k rs.rws))) from Gr lt];rfl
theorem Wc:∀(fs:List Fn)(acc:List PV)(k:Nat)(Q D F N q z i:Option Lc)(mu:Mu),(∀f∈fs,f.rows.ok/\f.rows.dep<=11)->-acc+d8 fs<=1000->∃p4 W p6 p7 j,eN EA wb (fs.map Fn.pv) (LW S P (zO acc) (zI (k:Nat)) Q D F N q z i mu)=!(.nx (LW S P (zO (acc++gm k (lN fs))) (zI ((k+d8 fs:Nat):Int)) p4 W p6 p7 q z i j))
 |[]=>λacc k Q D F N q z i mu _ _=>#[Q,D,F,N,mu,by simp[eN,lN,gm,d8]]
 |f::fs=>λacc k Q D F N q z i mu h hl=>by
  simp only[d8]at hl;let(h1,h2):=h f be;let(gz,e1):=abq (acc:=acc) h1 () ();let(p4,W,p6,p7,j,e2):=Wc fs (acc++gm k f.rows.rws) (k+f.rows.cnt) (zT f.name) (zS f.rank) (zL f.params) (zL f.rows.pvs) q z i gz (λg hg=>h g (cw _ hg)) (by rw[bX,xJ,Rows.rws_len];lia);show#[p4,W,p6,p7,j,gw O e1 (e2.trans ?_)];have e3:k+f.rows.cnt+d8 fs=k+d8 (f::fs):=by simp only[d8];lia
  have e4:acc++gm k f.rows.rws++gm (k+f.rows.cnt) (lN fs)=acc++gm k (lN (f::fs)):=by simp[lN,xH,Rows.rws_len]
  rw[e3,e4]
theorem Wd:∀(i:Nat)(rs:List ag),gm i rs=(rs.zipIdx i).map λx=>ZB [ZI (x.2:Nat),x.1.pv]
 |i,[]=>rfl
 |i,r::rs=>by rw[zipIdx_cons,dP,<-Wd (i+1) rs];rfl
def abr(h:f Y=!(Zp (.bl G),Y1))(h2:g Y1=ZN):Ma f g Y=ZN:=by unfold Ma;rw[h,bq];show h2
def afl(h:JC l):fl (kp l):=by let(k,t,y,rfl):=h;show#[O,by show 1+1<=20;decide]
def We{L:List (List aV)}(h:∀l∈L,JC l):cK (R (L.map kp)) (R (L.map kp))=zS (.bl G):=by
 show (dH 150 (R (L.map kp)) (R (L.map kp))).map _=_;rw[jr λp i=>by let(l,j,rfl):=ck.mp i;show jl (afl (h l j)) ()]
 rfl
def c1:PV->Bool
 |ZB (_::_::ZH w::_)=>w== "turns"
 |_=>M
def abt{L:List (List aV)}(q:aa i j=!(Zp (R (L.map kp)),Y))(h:∀l∈L,JC l)(z:-L<=100000):bU (dh (aa i) bJ) 1 [] (aC 0) Ef (aa 0) j=!(Zs (R ((L.filter λl=>c1 (kp l)).map kp)),Y):=by
 let c:=yu (b:=aC 0) (tc:=tT VC aY) (te:=aa 0) (λU=>∃o,U=#[[o],Y.mu]) (λU qE=>by let(o,e):=qE;rw[e]) c1 id (xs:=L.map kp) (Y:=#[[J],Y.mu]) (acc:=[]) #[_,O] ∅ λx D U z50=>by let(o,e):=z50;let(l,F,rfl):=ck.mp D;let(k,t,y,rfl):=h l F;subst e;show#[_,O,_,O,#[_,O],λ_=>#[_,_,O,O,_,O]]
 rw[eK,List.map_id,List.filter_map]at c;show eF (dC q O) c
abbrev rT(k:Nat)(y:Str):List aV:=rt k 0 ("turns",y,"at " ++ lF k)
theorem Om:∀l:List (List aV),-(uY k l)<=-l+1
 |[]=>br _
 |x::l=>by
  have:=Om (k:=k) l;unfold uY;split
  . show br _
  . split<;>simp only[bi]<;>lia
theorem JG:∀l:List (List aV),-(jV l)<=-l
 |[]=>br _
 |k::l=>by let h1:=JG l;let h2:=Om (k:=k) (jV l);show -(uY k (jV l))<=_;rw[bi];lia
end
def law_true(ns:List Int)(hl:-ns<=63):∃mu,S6 [R (ns.map PV.int)] []=!(Zp (.bl G),mu):=by
 let(F,P,h,hF,ep):=Tg ns hl;let(N,e1):=ep [];let S:PV:=R (ns.map PV.int);let EW:=h.ok.ct;let(f,hf):=adK h hF;let el:=oX h;let(p4,p5,p6,p7,i,e4):=Wc P.fns [] 0 J J J J J J J N (λf hf=>#[(h.ok.fn f hf).1,h.fd f hf]) ∅;rw[eK,hG]at e4;let A1:_:=gm 0 (lN P.fns);have ox:-A1=d8 P.fns:=by show -(gm 0 (lN P.fns))=_;rw[xJ,vq]
 let Q:Mu:=i++[!(R A1)];have lt:-i< -Q:=by simp[Q]
 let e5:=VL (k:=d8 P.fns) (acc:=A1) lt h.ok.rw (by have:=h.dd;lia) ();rw[Ry]at e5;let A2:_:=A1++gm (d8 P.fns) P.rows.rws;have eA2:A2=P.rws.zipIdx.map λx=>ZB [ZI (x.2:Nat),x.1.pv]:=by rw[<-Wd];show gm 0 (lN P.fns)++gm (d8 P.fns) P.rows.rws=gm 0 (lN P.fns++P.rows.rws);rw[xH,vq,hG]
 let oC:_:=MA Q (-i) A2;let K:Option Lc:=zI (d8 P.fns:Nat);let lh:_:=oC.set (-i) J;let T:Option Lc:=zL A2;let g:ag×Nat->List (List aV):=λx=>(f x.2).E.map (rT x.2);let V:List (List aV)->Option Lc->Option Lc->Ev:=λL o3 o9=>LW S P.pv T o3 p4 p5 p6 p7 (zO (L.map kp)) o9 J lh;have hx:∀x∈P.rws.zipIdx,∃e,(f x.2).ok P x.2 e/\e.r=x.1:=λx hx=>by let q:=mem_zipIdx_iff_getElem?.mp hx;let(e,ZN,er):=hf x.2 (by rw[<-Bf];show(c9.mp q).1);rw[q]at er;show#[e,ZN,(d0 er).symm]
 let(Y',e6,q3,q9,rfl,l6):=uG (b:=fC 2 (aW (aC 3) (aW (aC 9) fu))) (body:=Ee) (λx:ag×Nat=>ZB [ZI (x.2:Nat),x.1.pv]) (λj Y=>∃o3 o9,Y=V (j.flatMap g) o3 o9/\-(j.flatMap g)<=161*-j) P.rws.zipIdx [] (V [] K J) #[K,J,O,br _] λj x hp hm Y sd=>by
  let(o3,o9,eY,hy):=sd
  subst eY;simp only[cv,length_zipIdx,Bf]at hp;let(e,ZN,er):=hx x hm;let lE:=ZN.lE;let X3:Option Lc:=zI (x.2:Nat);let X9:Option Lc:=zS x.1.pv;let L:_:=j.flatMap g;let hy:=hy;have gx:-(g x)=(f x.2).E.length:=bo _;let V':Ev:=LW S P.pv T X3 p4 p5 p6 p7 (zL (L.map kp)) X9 J lh;show#[V L X3 X9,V ((j++[x]).flatMap g) X3 X9,O,?_,_,_,O,by rw[pK,bX,bX];simp only[bi,cv];lia];rw[pK];obtain⟨w,t,ew,hw,du⟩|⟨w,t,ew,hw,hE⟩:=ZN.du
  . let du:=du lh;have ex:x.1.pv=ZB (ZH w::t):=by rw[<-er];show ew
    rw[er,show (f x.2).E.map (dT x.2)=(g x).map kp from Ol (rT x.2) (f x.2).E]at du;show Fa (bw (pJ (show aa 9 (V L X3 X9)=some (Zp (ZB (ZH w::t)),V L X3 X9) by rw[<-ex];rfl))) hw ?_;show bu (dj (p:=R (L.map kp)) (q:=R ((g x).map kp)) O O (aR O O O O du) O ?_) O O;rw[Hz (by rw[bo,bo];lia),<-cy]
  . have ex:x.1.pv=ZB (ZH w::t):=by rw[<-er];show ew
    show Fc (bw (pJ (show aa 9 (V L X3 X9)=some (Zp (ZB (ZH w::t)),V L X3 X9) by rw[<-ex];rfl))) hw ?_;rw[show g x=[] by show (f x.2).E.map (rT x.2)=[];rw[hE];rfl,da];rfl
 rw[eK]at e6 l6;rw[length_zipIdx,Bf]at l6;rw[<-eA2]at e6;let D:_:=P.rws.zipIdx.flatMap g;let(lm,e7):=YF h hf lh;let L:_:=jV ((List.range (-P.es)).flatMap λk=>(f k).ks k);let(Fh,e8):=ep lm;have iL:∀l∈L,JC l:=λl hl=>by let(k,_,q):=mem_flatMap.mp (pC.mp hl);show RR.is l q
 have iD:∀l∈D,JC l:=λl hl=>by let(x,_,q):=mem_flatMap.mp hl;let(y,_,rfl):=ck.mp q;show#[_,_,_,O]
 have eLD:(L.filter λl=>c1 (kp l))=jV D:=by
  show SX (yF.filter _) yF λl=>?_;rw[List.mem_filter,pC,pC,List.mem_flatMap,List.mem_flatMap];constructor
  . rintro⟨⟨k,hk,q⟩,hc⟩;let(e,ZN,er):=hf k (mem_range.mp hk);unfold RR.ks at q;simp only[cr,ck]at q;obtain⟨y,hy,rfl⟩|⟨y,hy,rfl⟩|⟨y,_,rfl⟩|⟨y,_,rfl⟩:=q
    . obtain hy|hy:=cr.mp hy
      . have hc:(y.1== "turns")=G:=hc;rw[ZN.kA y hy]at hc;cases hc
      . let(z,hz,rfl):=ck.mp hy;show#[(e.r,k),mem_zipIdx_iff_getElem?.mpr er,ck.mpr #[z,(ZN.mem z).mp hz,O]]
    . have hc:(y.1== "turns")=G:=hc;rw[ZN.dn.nt y hy]at hc;cases hc
    . show absurd (show (("back" : Str)== "turns")=G from hc) ()
    . show absurd (show (("leave" : Str)== "turns")=G from hc) ()
  . rintro⟨x,Fk,q⟩;let(e,ZN,er):=hx x Fk;let(y,hy,rfl):=ck.mp q;show#[#[x.2,mem_range.mpr ?_,?_],?_]
    . rw[<-Bf];show(c9.mp (mem_zipIdx_iff_getElem?.mp Fk)).1
    . unfold RR.ks;simp only[cr,ck];show Zl #[("turns",y),eT _ (ck.mpr #[y,(ZN.mem y).mpr hy,O]),O]
    . show (("turns" : Str)== "turns")=G;decide +kernel
 have lL:-L<=100000:=by
  let h1:=JG ((List.range (-P.es)).flatMap λk=>(f k).ks k);let h2:=uM (f:=λk=>(f k).ks k) (c:=194) λk hk=>by let(e,ZN,_):=hf k (mem_range.mp hk);let lA:=ZN.lA;let lB:=ZN.dn.lB;let lC:=ZN.lC;let lD:=ZN.lD;unfold RR.ks;simp only[bX,bo];lia
  rw[fy]at h2;have h3:-L<=-((List.range P.es.length).flatMap λk=>(f k).ks k):=h1;lia
 let W:Lc->Lc->Mu->Ev:=λd r mu=>LW S P.pv T q3 p4 p5 p6 p7 (!d) q9 (!r) mu;let dO:Lc:=Zs (R (D.map kp));let dS:Lc:=Zp (R (D.map kp));let rO:Lc:=Zs (R (L.map kp));let rS:Lc:=Zp (R (L.map kp));show#[Fh,?_];show aO (Y:=W dS rS Fh) ?_;show aH (Y':=#[[zS S,zS P.pv,J,J,J,J,J,J,J,J,J],N]) (bu (l:=Zp P.pv) (Y1:=#[[zS S,J,J,J,J,J,J,J,J,J,J],N]) (aR (ls:=[Zp S]) (ps:=[S]) (Y1:=#[[zS S,J,J,J,J,J,J,J,J,J,J],[]]) O O O O e1) O O) ?_;show aH (Y':=LW S P.pv (zO []) J J J J J J J J N) O ?_;show aH (Y':=LW S P.pv (zO []) (zI ((0:Nat):Int)) J J J J J J J N) O ?_;show aH (Y':=LW S P.pv (zO A1) K p4 p5 p6 p7 J J J i) (eO (xs:=P.fns.map Fn.pv) (Y1:=LW S P.pv (zO []) (zI ((0:Nat):Int)) J J J J J J J N) (dC (l:=Zp (R (P.fns.map Fn.pv))) O O) e4) ?_;show aH (Y':=LW S P.pv (zO A2) K p4 p5 p6 p7 J J J lh) ?_ ?_
 . have st:wQ 2 EB (LW S P.pv (zO A1) K p4 p5 p6 p7 J J J i)=!(.nx (LW S P.pv (zS (ZA (-i))) K p4 p5 p6 p7 J J J oC)):=by show rW _ (LW S P.pv (zS (ZA (-i))) K p4 p5 p6 p7 J J J Q)=_;show Gy (aR (ls:=[Zp (R P.rows.pvs),Zp (ZI (d8 P.fns:Nat)),Zp (ZA (-i))]) (ps:=[R P.rows.pvs,ZI (d8 P.fns:Nat),ZA (-i)]) (Y1:=LW S P.pv (zS (ZA (-i))) K p4 p5 p6 p7 J J J Q) O O O O e5)
   unfold Bw;rw[st,bq];show (match oC[-i]? with |some (!p)=>some (Ev.mk _ _) |_=>J).map _=_;rw[show oC[-i]?=some (!(R A2)) from Gr lt];rfl
 show aH (Y':=LW S P.pv (zO A2) K p4 p5 p6 p7 (zO []) J J lh) O ?_;show aH (eO (xs:=A2) (Y1:=V [] K J) (dC (l:=Zp (R A2)) O O) e6) ?_;show aH (Y':=W dO rO lm) (bu (aR (ls:=[Zp P.pv]) (ps:=[P.pv]) (Y1:=V D q3 q9) O O O O e7) O O) ?_;show cT (abr (Y1:=W dS rS lm) ?_ ?_)
 . show dj (p:=R ((jV D).map kp)) (q:=R ((jV D).map kp)) (Y1:=W dO rS lm) (l:=Zs (R ((jV D).map kp))) ?_ O (Oj (l:=dS) O O (by show -(P.rws.zipIdx.flatMap g)<9000;lia) iD) O (We λl hl=>iD l (pC.mp hl));rw[<-eLD];show abt O iL lL
 . show bC (x:=Zp P.pv) (y:=Zp P.pv) (Y1:=W dS rS lm) O (aR (ls:=[Zp S]) (ps:=[S]) (Y1:=W dS rS lm) O O O O e8) (Z_ h)
end
section
variable (K:FG)(x qq:Str)(st:Stmt)(f c:Addr)
abbrev Fm:Prop:=∃(oc kV dc pm cd ct:Value)(od an:Option Addr)(sl:Array (Option Value)),K.lookup f=!#[oc,od,.func (W.fnOf x qq (qO st) (jC st) (aG st) .none kV dc pm an cd ct),sl]/\W.codeIn K cd qq=G/\W.keepIn K (YV f)=G
abbrev FD:Prop:=∃f,W.nsIn K mainGlobals x=!(!(YV f))/\Fm K x x st f
abbrev FM:Prop:=∃f,W.findIn K (YV c) x=!(!(YV f))/\W.isFn K (YV f)=G/\Fm K x qq st f
abbrev KC:Prop:=W.nsIn K mainGlobals x=!(!(YV c))/\W.plainGet K c Str.empty=G/\W.hasDictIn K c=G/\W.plainOver K c=G/\W.findIn K (YV c) "__setattr__"=!(!(.builtin "object.__setattr__"))/\W.makesIn K c=G/\W.keepIn K (YV c)=G
abbrev HB(ps:List Str):Prop:=∀(kV i6 pm:Value)(an:Option Addr)(fA ct:Value)(us:List Value),-us=-ps->bindArgs (W.fnOf x qq (qO st) (jC st) (aG st) .none kV i6 pm an fA ct) #[us,[]]=pure (ps.zip us)
end
section
variable {K:FG}{h:Heap}{mg:Str->Option Value}{x qq:Str}{st:Stmt}{c:Addr}{ps:List Str}
def jd(X:K.In h)(ZT:h.Ns mainGlobals mg)(d:FD K x st)(i:HB x x st ps):cL K mg x st ps:=by let(f,a,_,_,_,_,_,_,_,_,_,l,e,k):=d;show#[_,_,zQ l e k,W.mg_of X ZT a,(zQ l e k).binds i]
def Di(d:FM K x qq st c)(j:HB x qq st ps):wO K c x qq st ps:=by let(f,a,i,_,_,_,_,_,_,_,_,_,l,e,k):=d;show#[_,_,zQ l e k,a,i,(zQ l e k).binds j]
def mkT(X:K.In h)(G:h.Ns mainGlobals mg)(d:KC K x c):yx K mg x c:=#[d.1,#[d.2.1,d.2.2.1,d.2.2.2.1,d.2.2.2.2.1],W.mg_of X G d.1]
def wc(n:W.findIn K (YV c) x=!J)(t:∀f∈l,kW K c f):∀f∈x::l,kW K c f:=by
 intro g i;obtain e|i:=a_.mp i
 . rw[e];show n
 . grind
def nan:∀f∈([]:List Str),kW K c f:=λ_ h=>nomatch h
def bc(X:K.In h)(ZT:h.Ns mainGlobals mg)(n:W.nsIn K mainGlobals x=!J)(t:QG mg l):QG mg (x::l):=by
 intro g i;obtain e|i:=a_.mp i
 . rw[e];show W.mg_none_of X ZT n
 . show t g i
def bn:QG mg []:=λ_ h=>nomatch h
end
local macro_rules | `(tactic| walk_at "b")=>`(tactic| (intro _ _ _ _ _ _ us hl; first | (obtain⟨_,e⟩:=yZ hl; subst e; rfl) | (obtain⟨_,_,e⟩:=mx hl; subst e; rfl) | (obtain⟨_,_,_,e⟩:=z_ hl; subst e; rfl) | (obtain⟨_,_,_,_,_,e⟩:=Oy hl; subst e; rfl)))
def all_mk{l:W.OpenLaw}{K:FG}{h:Heap}{mg:Str->Option Value}{fa:Addr}(X:K.In h)(ZT:h.Ns mainGlobals mg)(hfa:mg "law"=!(YV fa))
 (ait:∃c,KC K "Plan" c/\(W.findIn K (YV c) "told"=!J/\W.findIn K (YV c) "lists"=!J/\W.findIn K (YV c) "heads"=!J)/\FM K "__init__" "Plan.__init__" j8 c/\FM K "numbers" "Plan.numbers" qg c/\FM K "params" "Plan.params" rH c/\FM K "row" "Plan.row" wk c/\FM K "home" "Plan.home" u5 c/\FM K "outer" "Plan.outer" tU c/\FM K "body" "Plan.body" u6 c/\FM K "block" "Plan.block" tV c/\FM K "just_ahead" "Plan.just_ahead" mJ c/\FM K "spending" "Plan.spending" j9 c)
 (aid:FD K "blocks_of" wj)
 (ahK:FD K "expressions_of" oR)
 (aip:FD K "copied" yG)
 (ah2:FD K "all_copied" mG)
 (aii:FD K "in_order" uh)
 (aij:FD K "laid_out" ul)
 (aik:FD K "numbered" yH)
 (air:FD K "reads" BX)
 (ail:FD K "names_in" um)
 (aiq:FD K "spends" yI)
 (ah3:FD K "behind_row" pY)
 (ais:FD K "rules" rE)
 (ah4:FD K "boxes_read" pZ)
 (ahN:FD K "begin_sources" jF)
 (ahO:FD K "first_sources" lV)
 (ahS:FD K "turn_sources" rF)
 (ah5:FD K "done_steps" qd)
 (ahW:FD K "given_steps" oA)
 (ah6:FD K "back_steps" qe)
 (ahX:FD K "leave_steps" oE)
 (ahT:FD K "_law_cell_at" rG)
 (ah7:FD K "_law_names" mH)
 (ahH:FD K "_law_expression" nO)
 (aim:FD K "_law_row" uo)
 (aie:FD K "_law_rows" sE)
 (ah8:FD K "_law_heads" uZ)
 (ahU:FD K "_law_program" il)
 (ahY:FD K "_law_spends" lg)
 (aif:FD K "_law_size" nY)
 (ahZ:FD K "_law_behind" lq)
 (aig:FD K "_law_read" sG)
 (ain:FD K "_law_all" uq)
 (aio:FD K "_law_due" ur)
 (aiu:FD K "law" vP)
 (z0:W.nsIn K mainGlobals "any"=!J)
 (z1:W.nsIn K mainGlobals "enumerate"=!J)
 (z2:W.nsIn K mainGlobals "len"=!J)
 (z3:W.nsIn K mainGlobals "list"=!J)
 (z4:W.nsIn K mainGlobals "range"=!J)
 (z5:W.nsIn K mainGlobals "set"=!J)
 (z6:W.nsIn K mainGlobals "sorted"=!J)
 (z7:W.nsIn K mainGlobals "str"=!J)
 (z8:W.nsIn K mainGlobals "sum"=!J)
 (z9:W.nsIn K mainGlobals "zip"=!J)
 (HL:∀[HK] (ns:List Int),-ns<=63->∃mu,S6 [R (ns.map PV.int)] []=!(Zp (.bl G),mu))
 : ∃fd:FuncData,(∀(s:Shared)(v:Value),BindsTo s fd #[[v],[]] [("_law_script",v)])/\∀base:Heap,K.In base->base.Ns mainGlobals mg->oK l.prog w K mg base qD 87 fa fd ["_law_script"] (Kl K):=by
 letI:HK:=#[CT l.prog w]
 have bS:HK.hk=CT l.prog w:=O;let(cS,z,(n0,n1,n2),ahL,ahP,ahV,aih,aia,ah0,aib,ah1,ahG,ahM):=ait;let bh:=mkT X ZT z;let bv:=wc n0 (wc n1 (wc n2 (nan)));have B:QG mg BL:=bc X ZT z0 (bc X ZT z1 (bc X ZT z2 (bc X ZT z3 (bc X ZT z4 (bc X ZT z5 (bc X ZT z6 (bc X ZT z7 (bc X ZT z8 (bc X ZT z9 (bn))))))))));let(_,a,_,kV,dc,pm,cd,ct,_,an,_,lk,ce,kp):=aiu;let e:=hfa.symm.trans (W.mg_of X ZT a);cases e;show#[W.fnOf "law" "law" (qO vP) (jC vP) (aG vP) .none kV dc pm an cd ct,λs v=>.of_eq O,λbase _ _=>?_];let F:=Nf (base:=base) B bh bv bS (jd X ZT aid (by walk_at "b"));let ahb:=Cy (base:=base) B bh bv bS (jd X ZT ahK (by walk_at "b"));let Fs:=Gg (base:=base) B bh bv bS (jd X ZT aip (by walk_at "b")) (jd X ZT ah2 (by walk_at "b")) 40;let ag4:=Fs.1;let ahd:=Fs.2;let ahe:=Aq (base:=base) B bh bv bS (jd X ZT aii (by walk_at "b")) F 40;let ag6:=Ar (base:=base) B bh bv bS (jd X ZT aij (by walk_at "b")) F ag4 40;let ahB:=Ph (base:=base) B bh bv bS (jd X ZT aik (by walk_at "b")) ag6;let ahi:=Jo (base:=base) B bh bv bS (jd X ZT air (by walk_at "b")) 40;let ahC:=Pj (base:=base) B bh bv bS (jd X ZT ail (by walk_at "b")) ahi;let ahJ:=Vy (base:=base) B bh bv bS (jd X ZT aiq (by walk_at "b")) ahe;let Fu:=Hk (base:=base) B bh bv bS (Di ah1 (by walk_at "b"));let i:=Ng (base:=base) B bh bv bS (Di aih (by walk_at "b"));let N:=Cz (base:=base) B bh bv bS (Di ahM (by walk_at "b")) i ahJ;let q:=xf (base:=base) B bh bv bS (jd X ZT ah3 (by walk_at "b")) Fu i N 40;let ahc:=Sc (CG (base:=base) B bh bv bS (Di ahL (by walk_at "b")) ahB) z.2.2.2.2.2.1 z.2.2.2.2.2.2;let ahg:=DW (base:=base) B bh bv bS (Di ahP (by walk_at "b"));let uk:=JV (base:=base) B bh bv bS (jd X ZT ah6 (by walk_at "b")) i;let ag5:=zB (base:=base) B bh bv bS (Di ahG (by walk_at "b"));let D:=JW (base:=base) B bh bv bS (Di aia (by walk_at "b"));let ahm:=Hl (base:=base) B bh bv bS (Di ah0 (by walk_at "b"));let j:=JX (base:=base) B bh bv bS (jd X ZT ah4 (by walk_at "b")) ahC;let ahf:=DX (base:=base) B bh bv bS (jd X ZT ahO (by walk_at "b")) D ahm i j;let ahj:=Gh (base:=base) B bh bv bS (jd X ZT ahS (by walk_at "b")) Fu i q j;let ahh:=DY (base:=base) B bh bv bS (jd X ZT ahN (by walk_at "b")) ag5 i q ahf ahj;let ahk:=Gi (base:=base) B bh bv bS (Di ahV (by walk_at "b"));let aha:=Hm (base:=base) B bh bv bS (jd X ZT ahW (by walk_at "b")) j;let ahu:=JZ (base:=base) B bh bv bS (jd X ZT ah5 (by walk_at "b")) ahk i j ahb aha;let ahs:=J0 (base:=base) B bh bv bS (Di aib (by walk_at "b"));let ahn:=Hn (base:=base) B bh bv bS (jd X ZT ahX (by walk_at "b")) ahs D N q;let ahR:=Yg (base:=base) B bh bv bS (jd X ZT ais (by walk_at "b")) ahc ahg uk ahh ahu ahn;let ag7:=Gj (base:=base) B bh bv bS (jd X ZT ahT (by walk_at "b"));let ahw:=J1 (base:=base) B bh bv bS (jd X ZT ah7 (by walk_at "b"));let mS:=Av (base:=base) B bh bv bS (jd X ZT ahH (by walk_at "b"));let ahD:=Pk (base:=base) B bh bv bS (jd X ZT aim (by walk_at "b")) mS;let ahl:=Nh (base:=base) B bh bv bS (jd X ZT aie (by walk_at "b")) ahD;let ahv:=J2 (base:=base) B bh bv bS (jd X ZT ah8 (by walk_at "b"));let ag9:=Gk (base:=base) B bh bv bS (jd X ZT ahU (by walk_at "b")) ag7 ahv ahw ahl;let i_:=vW (base:=base) B bh bv bS (jd X ZT ahY (by walk_at "b")) 40;let Q:=zq (base:=base) B bh bv bS (jd X ZT aif (by walk_at "b")) 40;let u3:=vX (base:=base) B bh bv bS (jd X ZT ahZ (by walk_at "b")) Q i_ 40;let ag1:=zr (base:=base) B bh bv bS (jd X ZT aig (by walk_at "b")) 40;let ag8:=Aw (base:=base) B bh bv bS (jd X ZT ain (by walk_at "b")) 40;let ahF:=Pq (base:=base) B bh bv bS (jd X ZT aio (by walk_at "b")) u3 ag1 Q;show PZ (VS (base:=base) B bh bv bS (zQ (st:=vP) lk ce kp) ag8 ahF ag9 ahR) HL
def walk{l:W.OpenLaw}{K:Params->FG}(N:l.most=!63)(i:d.params.defaults=[])
 (j:∀(w:World)(h:Heap),YP w h->(K w.params).In h)
 (F:∀(w:World)(mg:Str->Option Value)(fa:Addr)(h:Heap),(K w.params).In h->h.Ns mainGlobals mg->mg d.name=!(YV fa)->
   ∃fd:FuncData,(∀(s:Shared)(u:Value),BindsTo s fd #[[u],[]] [("_law_script",u)])/\∀base:Heap,(K w.params).In base->base.Ns mainGlobals mg->oK l.prog w (K w.params) mg base qD 87 fa fd ["_law_script"] (Kl (K w.params))):
 W.WalkO q loose XP YP l.row.toRowW d [] (λf vs=>PySem.call f vs):=
 L2.walk_of (x:="_law_script") N () i #[λ_=>O,by decide,by decide,O] j F (λ_ _ a ns Q _ hS=>#[a,ns,O,hS,Q,λ_=>O]) λ_ _ _ _ _ z=>z
end Law

namespace PySem.W.Fast
def tw169327097828248732:=0
def tw16035221448170842772:=0
def tw7279393415347558664:=0
def tw5162015315324735969:=0
def tw8695764488140147544:=0
def tw5086066398472390097:=0
def tw2620350841907875195:=0
def tw552790921234442915:=0
def tw5860858513296881165:=0
def tw4023258662913976029:=0
def tw4782291769201837277:=0
def tw14095915358330641399:=0
def tw17870963212120650252:=0
def tw1834552992877163830:=0
def tw17856718122511448477:=0
def tw5664886772211913975:=0
def tw16566733930582912343:=0
def tw16438456736027240899:=0
def tw9872242158606775848:=0
def tw5365565981327815775:=0
def tw15157584761942298606:=0
def tw9588662624128914768:=0
def tw1456293159396148403:=0
def tw9943014641740442396:=0
def tw3709152963343817852:=0
def tw16150406029365917602:=0
def tw13990513439125491120:=0
def tw583237454406116542:=0
def tw7261307306267674363:=0
def tw15730717360026049943:=0
def tw7290724088866811475:=0
def tw664271088263023176:=0
def tw4232030117027396700:=0
def tw11873321866158878240:=0
def tw6237168206152576113:=0
def tw9367894665570260947:=0
def tw13371922892217277291:=0
def tw65083760444722546:=0
def tw6311833954770131485:=0
def tw10314051026239498373:=0
def tw8076857307055891366:=0
def tw2085834712798724888:=0
def tw13929686460625143244:=0
def tw5425777335704228613:=0
def tw2828701159085409846:=0
def tw1375704306673444905:=0
def tw12845390121239269774:=0
def tw17398831342754230732:=0
def tw12751910172405668120:=0
def tw13186914964616888126:=0
def tw13756619976379543065:=0
def tw10305880513527959101:=0
def tw9670085598527343703:=0
def tw5922805478935034607:=0
def tw11626187094063689193:=0
def tw8796170377903608660:=0
def tw12502344525124638769:=0
def tw6512625850255291290:=0
def tw565596219665075738:=0
def tw3875546268065336239:=0
def tw12889842451875442897:=0
def tw1731173528309793581:=0
def tw7096455271776486085:=0
def tw1752780147120415335:=0
def tw1728588637601847389:=0
def tw10254036681718085518:=0
def tw10499752393502067459:=0
def tw5501438958265671906:=0
def tw4778057639485207292:=0
def tw15061128521951078608:=0
def tw9975372903037498673:=0
def tw17736451510777251547:=0
def tw10015965850687528696:=0
def tw7130664268139638992:=0
def tw10021951844336139182:=0
def tw2045029104937731458:=0
def tw18199085622353454514:=0
def tw14631313249869699674:=0
def tw14632887898105794124:=0
def tw11247873083628273439:=0
def tw9764633216002791143:=0
def tw12928485349722765891:=0
def tw17873537189772414670:=0
def tw314735370331799319:=0
def tw8028895760035834828:=0
def tw2374296089392673152:=0
def tw12057742584349722046:=0
def tw5737183972602472361:=0
def tw1996515614133238999:=0
def tw14573292022745917898:=0
def tw9168355915944276599:=0
def tw3108174761562898676:=0
def tw10520848743262018201:=0
def tw1853937406280625709:=0
def tw16693659859618709399:=0
end PySem.W.Fast
end
open PySem PySem.W PyProof.Rows
local macro_rules | `(tactic| walk_at "m")=>`(tactic| exact ⟨_,by k_is,by k_is,_,_,_,_,_,_,_,_,_,by k_is,by k_is,by k_is⟩)
local macro_rules | `(tactic| walk_at "d")=>`(tactic| exact ⟨_,by k_is,_,_,_,_,_,_,_,_,_,by k_is,by k_is,by k_is⟩)
set_option maxRecDepth 100000 in
set_option maxHeartbeats 0 in
theorem PySem.Challenge.cw_hushwise_k33_rules_of_rounds_holds : PySem.Challenge.rw_hushwise_k33_rules_of_rounds.Holds := by
 w_on; o_law; k_head; (case hw=>w_witness2)
 k_fill
 refine Law.walk (l:=PySem.Challenge.rw_hushwise_k33_rules_of_rounds) rfl rfl (fun w h Y=>W.kIn_of Y) ?F
 case F=>
  intro w mg fa h KX ZT hmg
  refine' Law.all_mk KX ZT hmg ?_ ?_ ?_ ?_ ?_ ?_ ?_ ?_ ?_ ?_ ?_ ?_ ?_ ?_ ?_ ?_ ?_ ?_ ?_ ?_ ?_ ?_ ?_ ?_ ?_ ?_ ?_ ?_ ?_ ?_ ?_ ?_ ?_ ?_ ?_ ?_ ?_ ?_ ?_ ?_ ?_ ?_ ?_ ?_ ?_ Law.law_true
  exact ⟨_,⟨by k_is,by k_is,by k_is,by k_is,by k_is,by k_is,by k_is⟩,⟨by k_is,by k_is,by k_is⟩,by walk_at "m",by walk_at "m",by walk_at "m",by walk_at "m",by walk_at "m",by walk_at "m",by walk_at "m",by walk_at "m",by walk_at "m",by walk_at "m"⟩
  iterate 34 walk_at "d"
  iterate 10 k_is
